import PyProof.Rows.All
import Wide.All
import OpenK.AllK
import Wide.FinOn
import Lean
import PyProof.EqAt
import PyProof.EqKinds
import PyProof.TupleCall
import PySem.Challenge.RW_fewchecks_k53_rounds_of_votes
set_option compiler.extract_closed false
set_option Elab.async false
set_option linter.all false
set_option maxRecDepth 100000
namespace L2
open PySem PySem.Spec PyProof.Rows
abbrev Key:=Sum Int Str
def m8:Key->Value->Bool
 | .inl k,v=>Value.isInt k v
 | .inr x,v=>Value.isStrOf x v
def RJ(w:World):Key->Int
 | .inl k=>hashInt k
 | .inr x=>hashStr w x
theorem jb:∀{k:Key} {v:Value},m8 k v=true->(∃i t,k=Sum.inl i/\v=Value.int i t)\/(∃x t,k=Sum.inr x/\v=Value.str x t)
  | .inl i, v, h => by
    obtain⟨t,e⟩:=Value.isInt_shape (k:=i) (v:=v) h
    exact .inl ⟨i,t,rfl,e⟩
  | .inr x, v, h => by
    obtain⟨t,e⟩:=Value.isStrOf_shape (x:=x) (v:=v) h
    exact .inr ⟨x,t,rfl,e⟩
theorem Gz(i:Int)(t:Tok):m8 (.inl i) (.int i t)=true:=by simp[m8,Value.isInt]
theorem Lo(x:Str)(t:Tok):m8 (.inr x) (.str x t)=true:=by simp[m8,Value.isStrOf]
theorem LO(a b:Int):decide ((Sum.inl a:Key)=Sum.inl b)=(a==b):=by
 by_cases e:a=b
 ·subst e;simp
 ·have h:¬(Sum.inl a:Key)=Sum.inl b:=fun q=>e (Sum.inl.inj q)
  rw[decide_eq_false h]
  exact(beq_eq_false_iff_ne.mpr e).symm
theorem Lx(a b:Str):decide ((Sum.inr a:Key)=Sum.inr b)=decide (a=b):=by
 by_cases e:a=b
 ·subst e;simp
 ·have h:¬(Sum.inr a:Key)=Sum.inr b:=fun q=>e (Sum.inr.inj q)
  rw[decide_eq_false h,decide_eq_false e]
theorem JQ(a:Int)(b:Str):decide ((Sum.inl a:Key)=Sum.inr b)=false:=decide_eq_false (fun q=>nomatch q)
theorem LG(a:Str)(b:Int):decide ((Sum.inr a:Key)=Sum.inl b)=false:=decide_eq_false (fun q=>nomatch q)
def cJ(prog:Program)(w:World):PySem.KeyKind prog w Key where
 is:=m8
 hash:=RJ w
 inj:=fun v a b ha hb=>by
  rcases jb ha with ⟨i,t,rfl,rfl⟩|⟨x,t,rfl,rfl⟩
  ·rcases jb hb with ⟨j,u,rfl,e⟩|⟨y,u,rfl,e⟩
   ·injection e with e1 _;rw[e1]
   ·exact nomatch e
  ·rcases jb hb with ⟨j,u,rfl,e⟩|⟨y,u,rfl,e⟩
   ·exact nomatch e
   ·injection e with e1 _;rw[e1]
 byValue:=fun k v h=>by
  rcases jb h with ⟨i,t,rfl,rfl⟩|⟨x,t,rfl,rfl⟩<;>rfl
 pyHash:=fun hv h=>by
  rcases jb hv with ⟨i,t,rfl,rfl⟩|⟨x,t,rfl,rfl⟩
  ·exact wpAny_pyHash_int h
  ·exact wpAny_pyHash_str h
 eqBool:=fun hu hv h=>by
  rcases jb hu with ⟨i,t,rfl,rfl⟩|⟨x,t,rfl,rfl⟩
  ·rcases jb hv with ⟨j,u,rfl,rfl⟩|⟨y,u,rfl,rfl⟩
   ·rw[LO] at h;exact wpAny_eqBool_int h
   ·rw[JQ] at h;exact SeqAt.EqAt.int_str i t y u _ _ _ _ h
  ·rcases jb hv with ⟨j,u,rfl,rfl⟩|⟨y,u,rfl,rfl⟩
   ·rw[LG] at h;exact SeqAt.EqAt.str_int x t j u _ _ _ _ h
   ·rw[Lx] at h;exact wpAny_eqBool_str h
 «strs» :=fun k x t v h=>by
  rcases jb h with ⟨i,u,rfl,e⟩|⟨y,u,rfl,e⟩
  ·exact nomatch e
  ·injection e with e1 _
   subst e1
   cases v<;>rfl
theorem RP(prog:Program)(w:World)(i:Int)(t:Tok):(cJ prog w).is (.inl i) (.int i t)=true:=Gz i t
theorem MG(prog:Program)(w:World)(x:Str)(t:Tok):(cJ prog w).is (.inr x) (.str x t)=true:=Lo x t
inductive V where
 |aE|bl (b:Bool)|int (i:Int)|str (x:Str)|gz (b:Array UInt8)|jf (b:UInt64)|ref (a:Addr)|ty (n:String)
 deriving DecidableEq
def RelV:V->Value->Prop
 | .aE,u=>u=Value.none
 | .bl b,u=>u=Value.bool b
 | .int i,u=>∃t,u=Value.int i t
 | .str x,u=>∃t,u=Value.str x t
 | .gz b,u=>∃t,u=Value.bytes b t
 | .jf b,u=>∃t,u=Value.float b t
 | .ref a,u=>u=Value.ref a
 | .ty n,u=>u=Value.type n
abbrev Vals:List V->List Value->Prop:=Paired RelV
theorem Vals.length{xs:List V}{us:List Value}(r:Vals xs us):xs.length=us.length:=Paired.length r
theorem Vals.get:∀{xs:List V} {us:List Value} {i:Nat} {x:V},Vals xs us->xs[i]?=some x->∃u,us[i]?=some u/\RelV x u
  |_,_,_,_, .nil,e=>by simp at e
  |_,_,0,_, .cons r _,e=>by simp at e;subst e;exact⟨_,rfl,r⟩
  | _, _, i + 1, x, .cons _ t, e => by
    obtain⟨u,h1,h2⟩:=Vals.get (i:=i) (x:=x) t (by simpa using e)
    exact⟨u,by simpa using h1,h2⟩
theorem Vals.set{x:V}{u:Value}(r:RelV x u):∀{xs:List V} {us:List Value} (i:Nat),Vals xs us->Vals (xs.set i x) (us.set i u)
 |_,_,_, .nil=> .nil
 |_,_,0, .cons _ t=> .cons r t
 |_,_,i+1, .cons q t=> .cons q (Vals.set r i t)
theorem Vals.append:∀{xs ys:List V} {us ws:List Value},Vals xs us->Vals ys ws->Vals (xs++ys) (us++ws)
 |_,_,_,_, .nil,s=>s
 |_,_,_,_, .cons r t,s=> .cons r (Vals.append t s)
theorem Vals.take:∀{xs:List V} {us:List Value} (n:Nat),Vals xs us->Vals (xs.take n) (us.take n)
 |_,_,0,_=> .nil
 |_,_,_+1, .nil=> .nil
 |_,_,n+1, .cons r t=> .cons r (Vals.take n t)
theorem Vals.drop:∀{xs:List V} {us:List Value} (n:Nat),Vals xs us->Vals (xs.drop n) (us.drop n)
 |_,_,0,r=>r
 |_,_,_+1, .nil=> .nil
 |_,_,n+1, .cons _ t=>Vals.drop n t
def gZ:Option V->Option Value->Prop
 |some v,some u=>RelV v u
 |none,none=>True
 |_,_=>False
def KV{κ:Type}:List (κ×V)->List (κ×Value)->Prop:=Paired fun(p:κ×V) (q:κ×Value)=>p.1=q.1/\RelV p.2 q.2
def kV:Key->V
 | .inl i=> .int i
 | .inr x=> .str x
inductive HO where
  |lst (xs:List V)
  |tup (xs:List V)
  |dK (kvs:List (Key×V))|dT (kvs:List (List Key×V))
  |set (S:Int->Bool) (n:Nat)
  |ins (C dx:Addr) (fs:List (Str×V))
  |own (x:Addr)
  |xd (fs:List (Str×V))
  |met (f x:Addr)
  |jD (lo hi:Int)
  |bu (o:Obj) (u:HO)
  |j9 (ps:Array Value)
  |ext (φ:Heap->Prop)
abbrev Hp:=Addr->Option HO
def upd(H:Hp)(a:Addr)(o:HO):Hp:=fun b=>if b=a then some o else H b
theorem aL{H:Hp}{a:Addr}{o:HO}:upd H a o a=some o:=by unfold upd;rw[if_pos rfl]
theorem aq{H:Hp}{a b:Addr}{o:HO}(h:b≠a):upd H a o b=H b:=by unfold upd;rw[if_neg h]
theorem yd{H:Hp}{a:Addr}{o u:HO}:upd (upd H a o) a u=upd H a u:=by
 funext b;unfold upd;split<;>rfl
theorem fY{H:Hp}{a b:Addr}{o:HO}(h:H a=some o)(h':H b=none):a≠b:=by
 intro e;subst e;rw[h] at h';cases h'
section
variable(P:Program)(w:World)
def aV(H:Hp)(h:Heap)(a:Addr):HO->Prop
 | .lst xs=>xs.length<=sizeLine/\∃(its:List Value) (n:Nat),Vals xs its/\h.get? a=some {cls:= .type "list",data:= .seq its.toArray n}
 | .tup xs=>xs.length<=sizeLine/\∃its:List Value,Vals xs its/\IsTup h a its.toArray
 | .dK kvs=>kvs.length<=sizeLine/\(a==sysModules)=false/\∃vs,KV kvs vs/\h.DictOf (cJ P w) a vs
 | .dT kvs => kvs.length <= sizeLine /\ (a == sysModules) = false /\ ∃ xs : List (List Key × Addr × Value),
   Paired (fun(p:List Key×V) (q:List Key×Addr×Value)=>p.1=q.1/\H q.2.1=some (.tup (p.1.map kV))/\RelV p.2 q.2.2) kvs xs/\
   ∃o es ep,h.get? a=some o/\o.ExactDict/\o.data= .dict es ep/\es.toList=xs.map (entryOfKey (tupleKind (cJ P w)))/\(xs.map (·.1)).Nodup
 | .set S n=>h.SetOf (intKind P w) a S n
 | .ins C dx fs => H dx = some (.own a) /\ fs.length <= 1000 /\ dx ≠ a /\ h.get? a = some (PySem.W.instObj C dx) /\
   ∃mA,h.Ns1 dx mA/\(∀f,gZ (fs.lookup f) (mA f))/\PySem.Within mA (fs.map (·.1))
 | .own _=>∃o,h.get? a=some o
 | .xd fs=>∃mA,h.Ns1 a mA/\∀f,gZ (fs.lookup f) (mA f)
 | .jD lo hi=>∃t u v,h.get? a=some {cls:= .type "range",data:= .fields #[.int lo t, .int hi u, .int 1 v]}
 | .bu o u=>h.get? a=some o/\aV H h a u
 | .j9 ps=>h.get? a=some {cls:= .none,data:= .fields ps}
 | .met f x=>h.get? a=some (PySem.W.methodObj (.ref f) (.ref x))
 | .ext φ=>φ h/\(∃o,h.get? a=some o)/\∀h1 h2:Heap,φ h1->(∀o,h1.get? a=some o->h2.get? a=some o)->φ h2
def cB(H:Hp)(h:Heap):Prop:=∀a o,H a=some o->aV P w H h a o
end
section
variable{P:Program}{w:World}{H H':Hp}{h h':Heap}{a:Addr}{o:HO}
theorem aV.lt(x:aV P w H h a o):a<h.objs.size:=by
 cases o with
 |lst xs=>obtain⟨_,_,_,_,e⟩:=x;exact Heap.lt_size e
 |tup xs=>obtain⟨_,_,_,p⟩:=x;exact p.lt
 |dK kvs=>obtain⟨_,_,_,_,o,_,_,e,_⟩:=x;exact Heap.lt_size e
 |dT kvs=>obtain⟨_,_,_,_,o,_,_,e,_⟩:=x;exact Heap.lt_size e
 |set S n=>obtain⟨o,_,_,_,e,_⟩:=x;exact Heap.lt_size e
 |ins C dx fs=>obtain⟨_,_,_,e,_⟩:=x;exact Heap.lt_size e
 |own y=>obtain⟨_,e⟩:=x;exact Heap.lt_size e
 |xd fs=>obtain⟨_,⟨_,_,_,e,_⟩,_⟩:=x;exact Heap.lt_size e
 |jD lo hi=>obtain⟨_,_,_,e⟩:=x;exact Heap.lt_size e
 |bu ob u=>obtain⟨e,_⟩:=x;exact Heap.lt_size e
 |j9 ps=>exact Heap.lt_size (show h.get? a=some _ from x)
 |met f y=>exact Heap.lt_size (show h.get? a=some _ from x)
 |ext φ=>obtain⟨_,⟨_,e⟩,_⟩:=x;exact Heap.lt_size e
theorem Paired.BQ{α β:Type}{F G:α->β->Prop}:∀{l₁:List α} {l₂:List β},Paired F l₁ l₂->(∀a b,F a b->G a b)->Paired G l₁ l₂
 |_,_, .nil,_=> .nil
 |_,_, .cons r t,f=> .cons (f _ _ r) (Paired.BQ t f)
theorem aV.stay(x:aV P w H h a o)(k:∀b u,(b=a\/H b=some (.own a))->h.get? b=some u->h'.get? b=some u)
    (ho:∀b,H b=some (.own a)->H' b=some (.own a)) (ht:∀b xs,H b=some (.tup xs)->H' b=some (.tup xs)):aV P w H' h' a o:=by
  induction o with
  |lst xs=>obtain⟨z,its,n,r,e⟩:=x;exact⟨z,its,n,r,k _ _ (.inl rfl) e⟩
  |tup xs=>obtain⟨z,its,r,ob,e,c⟩:=x;exact⟨z,its,r,ob,k _ _ (.inl rfl) e,c⟩
  |dK kvs=>obtain⟨z,y,vs,r,ob,es,ep,e,c⟩:=x;exact⟨z,y,vs,r,ob,es,ep,k _ _ (.inl rfl) e,c⟩
  | dT kvs =>
    obtain⟨z,y,xs,r,ob,es,ep,e,c⟩:=x
    exact⟨z,y,xs,Paired.BQ r fun p q z=>⟨z.1,ht _ _ z.2.1,z.2.2⟩,ob,es,ep,k _ _ (.inl rfl) e,c⟩
  |set S n=>obtain⟨ob,es,ep,t,e,c⟩:=x;exact⟨ob,es,ep,t,k _ _ (.inl rfl) e,c⟩
  | ins C dx fs =>
    obtain⟨d,z,ne,e,mA,⟨od,es,ep,e2,c⟩,r⟩:=x
    exact⟨ho _ d,z,ne,k _ _ (.inl rfl) e,mA,⟨od,es,ep,k _ _ (.inr d) e2,c⟩,r⟩
  |own y=>obtain⟨ob,e⟩:=x;exact⟨ob,k _ _ (.inl rfl) e⟩
  |xd fs=>obtain⟨mA,⟨od,es,ep,e,c⟩,r⟩:=x;exact⟨mA,⟨od,es,ep,k _ _ (.inl rfl) e,c⟩,r⟩
  |jD lo hi=>obtain⟨t,u,v,e⟩:=x;exact⟨t,u,v,k _ _ (.inl rfl) e⟩
  |bu ob u ih=>obtain⟨e,q⟩:=x;exact⟨k _ _ (.inl rfl) e,ih q⟩
  | j9 ps =>
    have e:h.get? a=some {cls:= .none,data:= .fields ps}:=x
    show h'.get? a=some {cls:= .none,data:= .fields ps}
    exact k a _ (.inl rfl) e
  | met f y =>
    have e:h.get? a=some (PySem.W.methodObj (.ref f) (.ref y)):=x
    show h'.get? a=some (PySem.W.methodObj (.ref f) (.ref y))
    exact k a _ (.inl rfl) e
  |ext φ=>obtain⟨p,⟨o,e⟩,st⟩:=x;exact⟨st _ _ p fun o q=>k _ _ (.inl rfl) q,⟨o,k _ _ (.inl rfl) e⟩,st⟩
theorem cB.lt(x:cB P w H h)(e:H a=some o):a<h.objs.size:=(x a o e).lt
theorem cB.fresh(x:cB P w H h)(e:h.objs.size<=a):H a=none:=by
 cases q:H a with
 |none=>rfl
 |some u=>exact absurd (Nat.lt_of_lt_of_le (x.lt q) e) (Nat.lt_irrefl _)
theorem cB.kept(x:cB P w H h)(k:∀b u,h.get? b=some u->h'.get? b=some u):cB P w H h':=fun a o e=>
 (x a o e).stay (fun b u _ q=>k b u q) (fun _ q=>q) fun _ _ q=>q
theorem cB.laid(x:cB P w H h)(k:∀b u,h.get? b=some u->h'.get? b=some u)(hp:h.objs.size<=a)(new:aV P w (upd H a o) h' a o):cB P w (upd H a o) h':=fun b u e=>by
 have hn:=x.fresh hp
 by_cases hb:b=a
 ·subst hb;rw[aL] at e;cases e;exact new
 ·rw[aq hb] at e
  exact(x b u e).stay (fun c v _ q=>k c v q) (fun c q=>by rw[aq (fY q hn)];exact q) fun c xs q=>by rw[aq (fY q hn)];exact q
end
def Rd(H:Hp)(a:Addr)(u:HO):Prop:=H a=some u\/∃o,H a=some (.bu o u)
theorem Rd.ok{P:Program}{w:World}{H:Hp}{h:Heap}{a:Addr}{u:HO}(r:Rd H a u)(x:cB P w H h):aV P w H h a u:=by
 rcases r with r|⟨o,r⟩
 ·exact x a u r
 ·obtain⟨_,q⟩:=x a _ r
  exact q
def oh:Option HO->Prop
 |some (.lst _)=>True
 |some (.dK _)=>True
 |some (.dT _)=>True
 |some (.set _ _)=>True
 |some (.ins _ _ _)=>True
 |some (.ext _)=>True
 |_=>False
section
variable{P:Program}{w:World}{H:Hp}{h h':Heap}{x e:Addr}{o':HO}
theorem cB.write(ok:cB P w H h)(mu:oh (H x))(he:e=x\/H e=some (.own x))(k:∀b u,b≠e->h.get? b=some u->h'.get? b=some u)(mw:∃u,h'.get? e=some u)
  (new:aV P w (upd H x o') h' x o'):cB P w (upd H x o') h':=fun b u q=>by
 have CB:∀c y,H c=some (.own y)->c≠x:=fun c y r z=>by subst z;rw[r] at mu;exact mu
 have N5:∀c xs,H c=some (.tup xs)->c≠x:=fun c xs r z=>by subst z;rw[r] at mu;exact mu
 by_cases hb:b=x
 ·subst hb;rw[aL] at q;cases q;exact new
 ·rw[aq hb] at q
  by_cases ko:b=e
  ·have q':H b=some (.own x):=by
    rcases he with z|z
    ·exact absurd (ko.trans z) hb
    ·rw[ko];exact z
   rw[q] at q';cases q'
   obtain⟨v,hv⟩:=mw
   exact⟨v,by rw[ko];exact hv⟩
  ·refine(ok b u q).stay (fun c v hc r=>k c v ?_ r) (fun c r=>by rw[aq (CB c b r)];exact r) fun c xs r=>by rw[aq (N5 c xs r)];exact r
   rcases hc with rfl|hc
   ·exact ko
   ·rintro rfl
    rcases he with z|z
    ·exact CB c b hc z
    ·rw[hc] at z;cases z;exact hb rfl
end
structure Un(fs ex:List Addr)(H H':Hp)(h h':Heap):Prop where
 keep:∀b o,h.get? b=some o->H b=none->b∉fs->b∉ex->h'.get? b=some o
 slot:∀b o,h.get? b=some o->H b=none->b∈fs->b∉ex->∃sl,h'.get? b=some {o with slots:=sl}
 free:∀b o,h.get? b=some o->H b=none->b∉ex->H' b=none
 there:∀b o,h.get? b=some o->b∉ex->∃o',h'.get? b=some o'
 tups:∀b xs,H b=some (.tup xs)->H' b=some (.tup xs)
 g7:∀b o u,H b=some (.bu o u)->H' b=some (.bu o u)
 i9:∀b ps,H b=some (.j9 ps)->∃more,H' b=some (.j9 (ps++more))
section
variable{fs fs' ex ex':List Addr}{H H1 H2:Hp}{h h1 h2 h':Heap}{a x e:Addr}{o:HO}
theorem Un.any(u:Un fs ex H H1 h h1){b:Addr}{ob:Obj}(q:h.get? b=some ob)(n:H b=none)(hx:b∉ex):∃sl,h1.get? b=some {ob with slots:=sl}:=by
 by_cases hb:b∈fs
 ·exact u.slot b ob q n hb hx
 ·exact⟨ob.slots,u.keep b ob q n hb hx⟩
theorem Un.kept(k:∀b u,h.get? b=some u->h'.get? b=some u):Un fs ex H H h h':=
 ⟨fun b ob q _ _ _=>k b ob q,fun b ob q _ _ _=>⟨ob.slots,k b ob q⟩,fun _ _ _ n _=>n,fun b ob q _=>⟨ob,k b ob q⟩,fun _ _ q=>q,fun _ _ _ q=>q,fun _ ps q=>⟨#[],by rw[q];simp⟩⟩
theorem Un.refl:Un fs ex H H h h:=Un.kept fun _ _ q=>q
theorem Un.laid(k:∀b u,h.get? b=some u->h'.get? b=some u)(hp:h.objs.size<=a)(hn:H a=none):Un fs ex H (upd H a o) h h' where
 keep:=fun b u q _ _ _=>k b u q
 slot:=fun b u q _ _ _=>⟨u.slots,k b u q⟩
 free:=fun b u q n _=>by rw[aq (Nat.ne_of_lt (Nat.lt_of_lt_of_le (Heap.lt_size q) hp))];exact n
 there:=fun b u q _=>⟨u,k b u q⟩
 tups:=fun b xs q=>by rw[aq (fY q hn)];exact q
 g7:=fun b u xs q=>by rw[aq (fY q hn)];exact q
 i9:=fun b ps q=>⟨#[],by rw[aq (fY q hn),q];simp⟩
theorem Un.write(mu:oh (H x))(he:e=x\/H e=some (.own x))(k:∀b u,b≠e->h.get? b=some u->h'.get? b=some u)(mw:∃u,h'.get? e=some u):Un fs ex H (upd H x o) h h':=by
 have hx:∀b,H b=none->b≠x:=fun b n z=>by subst z;rw[n] at mu;exact mu
 have hb:∀b,H b=none->b≠e:=fun b n z=>by
  subst z
  rcases he with r|r
  ·exact hx b n r
  ·rw[n] at r;cases r
 have hm:∀b u,H b=some u->¬oh (some u)->b≠x:=fun b u q nm z=>by subst z;rw[q] at mu;exact nm mu
 refine⟨fun b u q n _ _=>k b u (hb b n) q,fun b u q n _ _=>⟨u.slots,k b u (hb b n) q⟩,fun b u q n _=>by rw[aq (hx b n)];exact n,fun b u q _=>?_,
  fun b xs q=>by rw[aq (hm b _ q fun z=>z)];exact q,fun b u xs q=>by rw[aq (hm b _ q fun z=>z)];exact q,fun b ps q=>⟨#[],by rw[aq (hm b _ q fun z=>z),q];simp⟩⟩
 by_cases ko:b=e
 ·subst ko;exact mw
 ·exact⟨u,k b u ko q⟩
end
def qb(h:Heap)(H:Hp):List Addr:=(List.range h.objs.size).filter fun a=>(H a).isSome
def jc(h:Heap)(H:Hp):Heap:=PySem.W.hideAll h (qb h H)
theorem NC(h:Heap)(H:Hp):(jc h H).objs.size=h.objs.size:=PySem.W.hideAll_size _ _
theorem S7{h:Heap}{H:Hp}{b:Addr}{o:Obj}(e:h.get? b=some o)(n:H b=none):(jc h H).get? b=some o:=
 PySem.W.hideAll_get _ e fun hm=>by
  have q:(H b).isSome=true:=(List.mem_filter.mp hm).2
  rw[n] at q;simp at q
theorem QU{h:Heap}{H:Hp}{b:Addr}{o:Obj}(e:(jc h H).get? b=some o):h.get? b=some o/\H b=none:=by
  have e':h.get? b=some o:=PySem.W.of_hideAll (qb h H) e
  refine⟨e',?_⟩
  cases q:H b with
  |none=>rfl
  | some x =>
    have hm:b∈qb h H:=List.mem_filter.mpr ⟨List.mem_range.mpr (Heap.lt_size e'),by simp[q]⟩
    have z:(jc h H).get? b=none:=PySem.W.hideAll_none (qb h H) hm
    rw[z] at e;cases e
def Sq(g h:Heap)(L:Addr):List (Addr×Obj):=(List.range h.objs.size).filterMap fun a=>if a=L\/(g.get? a).isSome=true then none else(h.get? a).map fun o=>(a,o)
def rest(g h:Heap)(L d:Addr):List (Addr×Obj):=(Sq g h L).filter fun p=>decide (p.1≠d)
structure Mod(K:PySem.W.Frag)(mg:Str->Option Value)(base:Heap):Prop where
 ve:K.In base
 glob:base.Ns mainGlobals mg
 blt:∃mb,base.Ns builtinsNs mb/\∀x:Str,x≠"__name__" ->mb x=bootBuiltins x
 nolimit:base.NoLimit
structure Cx where
 prog:Program
 w:World
 K:PySem.W.Frag
 mg:Str->Option Value
 base:Heap
 A:Around
 N:List Str
 s₀:Shared
 H₀:Hp
 env:Env
 outer:List Env
 stack:List Env
 ex:List Addr
 fn:Str->Bool
 calm:Bool
 pn:List (Addr×Obj)
 xe:Value->Shared->Prop
def frs(l:List Env):List Addr:=l.filterMap (·.frame)
abbrev Cx.fs(X:Cx):List Addr:=frs X.outer
def tP(sc:Scope)(x:Str):Prop:=sc.names.lookup x=some .local\/sc.names.lookup x=some .cell\/sc.names.lookup x=some .free
def Loc(sc:Scope)(x:Str):Prop:=sc.names.lookup x=some .local\/sc.names.lookup x=some .cell
def Look(env:Env)(h:Heap)(m:Str->Option Value)(x:Str)(u:Value):Prop:=
 (env.kindOf x=some .local/\m x=some u)\/((env.kindOf x=some .cell\/env.kindOf x=some .free)/\∃c,env.cells.lookup x=some c/\h.IsCell c (some u))
structure Cx.Ok(X:Cx):Prop where
 mod:Mod X.K X.mg X.base
 kind:X.env.scope.kind= .function
 glob:X.env.globals=mainGlobals
 blt:X.env.builtins=builtinsNs
 above:X.s₀.heap.objs.size<=X.env.locals
 inj:∀x y c,X.env.cells.lookup x=some c->X.env.cells.lookup y=some c->x=y
 has:∀x,(X.env.kindOf x=some .cell\/X.env.kindOf x=some .free)->∃c,X.env.cells.lookup x=some c
 oM:∀x c,X.fn x=true->X.env.cells.lookup x=some c->X.s₀.heap.objs.size<=c
 hd:X.calm=true->X.A.handled=none
 frames:X.A.frames=some X.stack
 stk:X.stack=X.outer\/(X.stack=X.env::X.outer/\X.env.frame=some X.env.locals)
 p5:∀b∈X.ex,b≠X.env.locals/\∀x c,X.env.cells.lookup x=some c->c≠b
 bs:∀b o,X.base.get? b=some o->X.s₀.heap.get? b=some o/\X.H₀ b=none
 jZ:X.base.objs.size<=X.s₀.heap.objs.size
 nR:∀b o,X.base.get? b=some o->b∉X.ex
 nU:∀b∈X.ex,b∉X.fs
 iy:X.s₀.heap.FunFrames X.base X.outer
 nj:∀b∈X.fs,X.H₀ b=none
structure Inv(X:Cx)(pins:List (Addr×Obj))(σ:List (Option V))(H:Hp)(s:Shared):Prop where
 ok:X.Ok
 os:s.os=X.s₀.os
 bare:AllBare s.gens
 base:Un X.fs X.ex X.H₀ H X.s₀.heap s.heap
 loc:∃m,s.heap.Ns X.env.locals m/\∀(i:Nat) (x:Str) (v:V),X.N[i]?=some x->σ[i]?=some (some v)->tP X.env.scope x->∃u,RelV v u/\Look X.env s.heap m x u
 cell:∀x c,X.env.cells.lookup x=some c->∃v,s.heap.IsCell c v
 free:H X.env.locals=none
 gv:∀x c,X.env.cells.lookup x=some c->H c=none
 pin:∀p∈X.pn++pins,s.heap.get? p.1=some p.2/\H p.1=none/\p.1≠X.env.locals/\p.1∉X.fs/\∀v,p.2.data≠ .cell v
 hok:cB X.prog X.w H s.heap
 len:σ.length=X.N.length
section
variable{X:Cx}{pins:List (Addr×Obj)}{σ:List (Option V)}{H H':Hp}{s:Shared}{h':Heap}
theorem Cx.Ok.RD(ok:X.Ok){b:Addr}{o:Obj}(e:X.base.get? b=some o):b∉X.fs:=fun hb=>by
 have:=(ok.iy.mem hb).1
 rw[e] at this;cases this
theorem Inv.bs(I:Inv X pins σ H s):∀b o,X.base.get? b=some o->s.heap.get? b=some o/\H b=none:=fun b o e=>
 ⟨I.base.keep b o (I.ok.bs b o e).1 (I.ok.bs b o e).2 (I.ok.RD e) (I.ok.nR b o e),I.base.free b o (I.ok.bs b o e).1 (I.ok.bs b o e).2 (I.ok.nR b o e)⟩
theorem Inv.bk(I:Inv X pins σ H s):∀b o,X.base.get? b=some o->s.heap.get? b=some o:=fun b o e=>(I.bs b o e).1
theorem Inv.mod(I:Inv X pins σ H s):Mod X.K X.mg X.base:=I.ok.mod
theorem Inv.cV(I:Inv X pins σ H s):X.K.In s.heap:=I.ok.mod.ve.keeps I.bk
theorem Inv.lt(I:Inv X pins σ H s):X.env.locals<s.heap.objs.size:=let ⟨_,hn,_⟩:=I.loc;hn.lt
theorem Inv.sz(I:Inv X pins σ H s):X.s₀.heap.objs.size<=s.heap.objs.size:=Nat.le_trans I.ok.above (Nat.le_of_lt I.lt)
theorem Inv.Kc(I:Inv X pins σ H s){a:Addr}(h:s.heap.objs.size<=a):a∉X.fs:=fun hb=>by
 obtain⟨_,o,ho,_⟩:=I.ok.iy.mem hb
 exact absurd (Nat.lt_of_lt_of_le (Heap.lt_size ho) (Nat.le_trans I.sz h)) (Nat.lt_irrefl _)
theorem Inv.kU(I:Inv X pins σ H s):∀x c,X.env.cells.lookup x=some c->c≠X.env.locals:=fun x c e z=>by
 obtain⟨v,o,ho,hd⟩:=I.cell x c e
 obtain⟨m,⟨o',es,ep,ho',hd',_⟩,_⟩:=I.loc
 rw[z,ho'] at ho;cases ho;rw[hd'] at hd;cases hd
theorem Inv.iy(I:Inv X pins σ H s):s.heap.FunFrames X.base X.outer:=by
  have all:∀(l:List Env),(∀b∈frs l,b∈X.fs)->X.s₀.heap.FunFrames X.base l->s.heap.FunFrames X.base l:=by
    intro l
    induction l with
    |nil=>intro _ _;trivial
    | cons env r ih =>
      intro hs hl
      obtain⟨hk,⟨L,o,hf,hn,ho,hd⟩,hr⟩:=hl
      have hL:L∈X.fs:=hs L (by unfold frs;rw[List.filterMap_cons,hf];exact List.mem_cons_self)
      obtain⟨sl,e⟩:=I.base.slot L o ho (I.ok.nj L hL) hL fun z=>I.ok.nU L z hL
      exact⟨hk,⟨L,_,hf,hn,e,hd⟩,ih (fun b hb=>hs b (by unfold frs;rw[List.filterMap_cons,hf];exact List.mem_cons_of_mem _ hb)) hr⟩
  exact all X.outer (fun _ hb=>hb) I.ok.iy
theorem Inv.stack(I:Inv X pins σ H s):s.heap.FunFrames X.base X.stack:=by
 rcases I.ok.stk with e|⟨e,hf⟩
 ·rw[e];exact I.iy
 ·rw[e]
  obtain⟨m,hn,_⟩:=I.loc
  refine .cons (by rw[I.ok.kind];decide) hf hn ?_ I.iy
  exact Heap.get?_none_of_le (Nat.le_trans I.ok.jZ I.ok.above)
theorem Inv.uE(I:Inv X pins σ H s):∀b∈frs X.stack,b∈X.env.locals::X.fs:=fun b hb=>by
 rcases I.ok.stk with e|⟨e,hf⟩
 ·rw[e] at hb;exact List.mem_cons_of_mem _ hb
 ·rw[e] at hb
  unfold frs at hb
  rw[List.filterMap_cons,hf] at hb
  exact hb
theorem Inv.BB(I:Inv X pins σ H s):∀b∈frs X.stack,H b=none:=fun b hb=>by
 rcases List.mem_cons.mp (I.uE b hb) with e|hb
 ·rw[e];exact I.free
 ·obtain⟨_,o,ho,_⟩:=I.ok.iy.mem hb
  exact I.base.free b o ho (I.ok.nj b hb) fun z=>I.ok.nU b z hb
theorem Inv.step{g':Array GenState}{t':Nat}{d':Drawn}{ch:List Addr}(I:Inv X pins σ H s)
  (hch:∀b∈ch,(b∈X.ex\/X.s₀.heap.objs.size<=b)/\b≠X.env.locals/\(∀x c,X.env.cells.lookup x=some c->c≠b)/\∀p∈X.pn++pins,p.1≠b)
  (keep:∀b o,b≠X.env.locals->b∉X.fs->b∉ch->s.heap.get? b=some o->H b=none->h'.get? b=some o)
  (slot:∀b o,b≠X.env.locals->b∈X.fs->b∉ch->s.heap.get? b=some o->H b=none->∃sl,h'.get? b=some {o with slots:=sl}) (free:∀b o,b∉ch->s.heap.get? b=some o->H b=none->H' b=none)
  (there:∀b o,b∉ch->s.heap.get? b=some o->∃o',h'.get? b=some o')
  (tups:∀b xs,H b=some (.tup xs)->H' b=some (.tup xs)) (g7:∀b o u,H b=some (.bu o u)->H' b=some (.bu o u)) (i9:∀b ps,H b=some (.j9 ps)->∃more,H' b=some (.j9 (ps++more)))
  (ns:∀m,s.heap.Ns X.env.locals m->h'.Ns X.env.locals m) (hok:cB X.prog X.w H' h') (hg:AllBare g'):
  Inv X pins σ H' {s with heap:=h',gens:=g',drawn:=d',toks:=t'}:=by
 have DI:∀b o,X.s₀.heap.get? b=some o->b≠X.env.locals:=fun b o e=>Nat.ne_of_lt (Nat.lt_of_lt_of_le (Heap.lt_size e) I.ok.above)
 have rj:∀b o,X.s₀.heap.get? b=some o->b∉X.ex->b∉ch:=fun b o e hx hb=>by
  rcases(hch b hb).1 with z|z
  ·exact hx z
  ·exact absurd (Nat.lt_of_lt_of_le (Heap.lt_size e) z) (Nat.lt_irrefl _)
 have cellK:∀x c,X.env.cells.lookup x=some c->∀v,s.heap.IsCell c v->h'.IsCell c v:=fun x c e v ⟨o,ho,hd⟩=>by
  have oV:c∉ch:=fun z=>(hch c z).2.2.1 x c e rfl
  by_cases hc:c∈X.fs
  ·obtain⟨sl,q⟩:=slot c o (I.kU x c e) hc oV ho (I.gv x c e)
   exact⟨_,q,hd⟩
  ·exact⟨o,keep c o (I.kU x c e) hc oV ho (I.gv x c e),hd⟩
 refine⟨I.ok,I.os,hg,⟨fun b o e n hb hx=>?_,fun b o e n hb hx=>?_,fun b o e n hx=>?_,fun b o e hx=>?_,fun b xs e=>tups b xs (I.base.tups b xs e),fun b o xs e=>g7 b o xs (I.base.g7 b o xs e),fun b ps e=>?_⟩,?_,fun x c e=>?_,?_,fun x c e=>?_,fun p hp=>?_,hok,I.len⟩
 ·exact keep b o (DI b o e) hb (rj b o e hx) (I.base.keep b o e n hb hx) (I.base.free b o e n hx)
 ·obtain⟨sl,e1⟩:=I.base.slot b o e n hb hx
  obtain⟨Lm,e2⟩:=slot b _ (DI b o e) hb (rj b o e hx) e1 (I.base.free b o e n hx)
  exact⟨Lm,e2⟩
 ·obtain⟨o',e1⟩:=I.base.there b o e hx
  exact free b o' (rj b o e hx) e1 (I.base.free b o e n hx)
 ·obtain⟨o',e1⟩:=I.base.there b o e hx
  exact there b o' (rj b o e hx) e1
 ·obtain⟨m1,e1⟩:=I.base.i9 b ps e
  obtain⟨m2,e2⟩:=i9 b _ e1
  exact⟨m1++m2,by rw[e2,Array.append_assoc]⟩
 ·obtain⟨m,hn,hl⟩:=I.loc
  refine⟨m,ns m hn,fun i x v e1 e2 e3=>?_⟩
  obtain⟨u,r,l⟩:=hl i x v e1 e2 e3
  refine⟨u,r,?_⟩
  rcases l with l|⟨k,c,e,z⟩
  ·exact .inl l
  ·exact .inr ⟨k,c,e,cellK x c e _ z⟩
 ·obtain⟨v,z⟩:=I.cell x c e
  exact⟨v,cellK x c e v z⟩
 ·obtain⟨m,⟨o,_,_,ho,_⟩,_⟩:=I.loc
  exact free _ o (fun z=>(hch _ z).2.1 rfl) ho I.free
 ·obtain⟨v,o,ho,hd⟩:=I.cell x c e
  exact free c o (fun z=>(hch c z).2.2.1 x c e rfl) ho (I.gv x c e)
 ·obtain⟨e,n,ne,nf,d⟩:=I.pin p hp
  have oV:p.1∉ch:=fun z=>(hch p.1 z).2.2.2 p hp rfl
  exact⟨keep p.1 p.2 ne nf oV e n,free p.1 p.2 oV e n,ne,nf,d⟩
theorem Inv.un{t':Nat}(I:Inv X pins σ H s)(u:Un X.fs [] H H' s.heap h')(hok:cB X.prog X.w H' h'):Inv X pins σ H' {s with heap:=h',toks:=t'}:=by
 obtain⟨m,⟨o,es,ep,ho,r⟩,_⟩:=id I.loc
 obtain⟨sl,hL⟩:=u.any ho I.free (by simp)
 exact I.step (g':=s.gens) (d':=s.drawn) (ch:=[]) (fun _ z=>nomatch z) (fun b o _ hb _ e n=>u.keep b o e n hb (by simp)) (fun b o _ hb _ e n=>u.slot b o e n hb (by simp)) (fun b o _ e n=>u.free b o e n (by simp)) (fun b o _ e=>u.there b o e (by simp)) u.tups u.g7 u.i9 (fun m' hm=>by
  obtain⟨o',es',pY,ho',r'⟩:=hm
  rw[ho] at ho';cases ho'
  exact⟨_,es',pY,hL,r'⟩) hok I.bare
theorem Inv.call{g':Array GenState}{t':Nat}{d':Drawn}{ch:List Addr}(I:Inv X pins σ H s)(u:Un (frs X.stack) ch H H' s.heap h')(hok:cB X.prog X.w H' h')(hg:AllBare g')
  (hch:∀b∈ch,(b∈X.ex\/X.s₀.heap.objs.size<=b)/\b≠X.env.locals/\(∀x c,X.env.cells.lookup x=some c->c≠b)/\∀p∈X.pn++pins,p.1≠b):
  Inv X pins σ H' {s with heap:=h',gens:=g',drawn:=d',toks:=t'}:=by
 obtain⟨m,⟨o,es,ep,ho,r⟩,_⟩:=id I.loc
 obtain⟨sl,hL⟩:=u.any ho I.free fun z=>(hch _ z).2.1 rfl
 exact I.step (ch:=ch) hch (fun b o hL hb hc e n=>u.keep b o e n (fun z=>(List.mem_cons.mp (I.uE b z)).elim hL hb) hc) (fun b o _ _ hc e n=>u.any e n hc) (fun b o hc e n=>u.free b o e n hc) (fun b o hc e=>u.there b o e hc) u.tups u.g7 u.i9 (fun m' hm=>by
  obtain⟨o',es',pY,ho',r'⟩:=hm
  rw[ho] at ho';cases ho'
  exact⟨_,es',pY,hL,r'⟩) hok hg
theorem Inv.turned{t':Nat}{it:Addr}(I:Inv X pins σ H s)(k:∀b o,b≠it->s.heap.get? b=some o->h'.get? b=some o)(hn:H it=none)(hL:it≠X.env.locals)
  (h1:it∈X.ex\/X.s₀.heap.objs.size<=it) (h2:∀x c,X.env.cells.lookup x=some c->c≠it) (h3:∀p∈X.pn++pins,p.1≠it):Inv X pins σ H {s with heap:=h',toks:=t'}:=by
 have DC:∀b u,H b=some u->b≠it:=fun b u e z=>by rw[z,hn] at e;cases e
 refine I.step (g':=s.gens) (d':=s.drawn) (ch:=[it]) (fun b hb=>?_) (fun b o _ _ hc e _=>k b o (fun z=>hc (by simp[z])) e) (fun b o _ _ hc e _=>⟨o.slots,k b o (fun z=>hc (by simp[z])) e⟩) (fun _ _ _ _ n=>n)
  (fun b o hc e=>⟨o,k b o (fun z=>hc (by simp[z])) e⟩) (fun _ _ e=>e) (fun _ _ _ e=>e) (fun b ps e=>⟨#[],by rw[e];simp⟩) (fun m hm=>?_) (fun b u e=>?_) I.bare
 ·have e:b=it:=by simpa using hb
  subst e
  exact⟨h1,hL,h2,h3⟩
 ·obtain⟨o,es,ep,ho,r⟩:=hm
  exact⟨o,es,ep,k _ o (Ne.symm hL) ho,r⟩
 ·refine(I.hok b u e).stay (fun c v hc q=>k c v ?_ q) (fun _ q=>q) fun _ _ q=>q
  rcases hc with z|z
  ·rw[z];exact DC b u e
  ·exact DC c _ z
theorem Inv.tok(I:Inv X pins σ H s)(t:Nat):Inv X pins σ H {s with toks:=t}:=I.un (h':=s.heap) (t':=t) Un.refl I.hok
theorem Inv.kept{t':Nat}(I:Inv X pins σ H s)(k:∀b u,s.heap.get? b=some u->h'.get? b=some u):Inv X pins σ H {s with heap:=h',toks:=t'}:=I.un (Un.kept k) (I.hok.kept k)
theorem Inv.laid{a:Addr}{o:HO}{t':Nat}(I:Inv X pins σ H s)(k:∀b u,s.heap.get? b=some u->h'.get? b=some u)(hp:s.heap.objs.size<=a)(new:aV X.prog X.w (upd H a o) h' a o):
  Inv X pins σ (upd H a o) {s with heap:=h',toks:=t'}:=I.un (Un.laid k hp (I.hok.fresh hp)) (I.hok.laid k hp new)
theorem Inv.write{x e:Addr}{o:HO}{t':Nat}(I:Inv X pins σ H s)(mu:oh (H x))(he:e=x\/H e=some (.own x))(k:∀b u,b≠e->s.heap.get? b=some u->h'.get? b=some u)(mw:∃u,h'.get? e=some u)
  (new:aV X.prog X.w (upd H x o) h' x o):Inv X pins σ (upd H x o) {s with heap:=h',toks:=t'}:=I.un (Un.write mu he k mw) (I.hok.write mu he k mw new)
theorem Inv.DH{AF:List (Addr×Obj)}(I:Inv X pins σ H s)(h:∀p∈AF,s.heap.get? p.1=some p.2/\H p.1=none/\p.1≠X.env.locals/\p.1∉X.fs/\∀v,p.2.data≠ .cell v):Inv X AF σ H s:=
 ⟨I.ok,I.os,I.bare,I.base,I.loc,I.cell,I.free,I.gv,fun p hp=>(List.mem_append.mp hp).elim (fun z=>I.pin p (List.mem_append_left _ z)) (h p),I.hok,I.len⟩
theorem Ek{N:List Str}(hN:N.Nodup){i j:Nat}{x:Str}(a:N[i]?=some x)(b:N[j]?=some x):i=j:=by
 obtain⟨h1,e1⟩:=List.getElem?_eq_some_iff.mp a
 obtain⟨h2,e2⟩:=List.getElem?_eq_some_iff.mp b
 exact(List.getElem_inj hN).mp (e1.trans e2.symm)
theorem BS{M:Model}{A:Around}{E:Value->Shared->Prop}{i:Nat}{x:Str}{v:V}{u:Value}{Q:Unit->Shared->Prop}(I:Inv X pins σ H s)(hN:X.N.Nodup)(hi:X.N[i]?=some x)(hx:Loc X.env.scope x)(r:RelV v u)
  (h:∀s',Inv X pins (σ.set i (some v)) H s'->(∃a,Heap.SameBut a s.heap s'.heap/\(a=X.env.locals\/X.env.cells.lookup x=some a))->Q () s') (hf:X.fn x=true\/X.env.scope.names.lookup x=some .local:=by first|exact .inl rfl|exact .inr rfl|assumption):wpAny M A (storeName X.env x u) Q E s:=by
 obtain⟨m,hn,hl⟩:=id I.loc
 have hcls:(X.env.scope.kind== .class||(X.env.scope.kind== .module && X.env.locals !=X.env.globals))=false:=by rw[I.ok.kind];rfl
 have BU:i<σ.length:=by rw[I.len];exact(List.getElem?_eq_some_iff.mp hi).1
 have kU:=I.kU
 have tracked:∀{a:Addr} {h':Heap},(∃o,s.heap.get? a=some o/\H a=none)->Heap.SameBut a s.heap h'->cB X.prog X.w H h':=fun{a h'} ha hs b ob e=>by
  obtain⟨_,_,hfree⟩:=ha
  refine(I.hok b ob e).stay (fun c w' hc q=>(hs.2 c ?_).trans q) (fun _ q=>q) fun _ _ q=>q
  rintro rfl
  rcases hc with rfl|hc
  ·rw[hfree] at e;cases e
  ·rw[hfree] at hc;cases hc
 rcases hx with hk|hk
 ·refine wpAny_storeName_local hk hn (fun h' hn' hs=>?_) hcls
  obtain⟨oL,_,_,pe,_⟩:=id hn
  refine h _ ⟨I.ok,I.os,I.bare,⟨fun b o e n hb hx=>?_,fun b o e n hb hx=>?_,I.base.free,fun b o e hx=>?_,I.base.tups,I.base.g7,I.base.i9⟩,⟨_,hn',fun j y v' e1 e2 e3=>?_⟩,fun y c e=>?_,I.free,I.gv,fun p hp=>?_,tracked ⟨oL,pe,I.free⟩ hs,by simpa using I.len⟩ ⟨_,hs, .inl rfl⟩
  ·exact(hs.2 b (Nat.ne_of_lt (Nat.lt_of_lt_of_le (Heap.lt_size e) I.ok.above))).trans (I.base.keep b o e n hb hx)
  ·obtain⟨sl,e1⟩:=I.base.slot b o e n hb hx
   exact⟨sl,(hs.2 b (Nat.ne_of_lt (Nat.lt_of_lt_of_le (Heap.lt_size e) I.ok.above))).trans e1⟩
  ·obtain⟨o',e1⟩:=I.base.there b o e hx
   exact⟨o',(hs.2 b (Nat.ne_of_lt (Nat.lt_of_lt_of_le (Heap.lt_size e) I.ok.above))).trans e1⟩
  ·by_cases hj:j=i
   ·subst hj
    rw[hi] at e1;cases e1
    rw[List.getElem?_set_self BU] at e2
    cases e2
    exact⟨u,r, .inl ⟨hk,by simp⟩⟩
   ·rw[List.getElem?_set_ne (Ne.symm hj)] at e2
    obtain⟨u',r',q⟩:=hl j y v' e1 e2 e3
    refine⟨u',r',?_⟩
    rcases q with ⟨k,e⟩|⟨k,c,e,z⟩
    ·refine .inl ⟨k,?_⟩
     have:y≠x:=fun e=>hj (Ek hN e1 (e▸hi))
     simp[this,e]
    ·exact .inr ⟨k,c,e,z.sameBut hs (kU y c e)⟩
  ·obtain⟨w',z⟩:=I.cell y c e
   exact⟨w',z.sameBut hs (kU y c e)⟩
  ·obtain⟨e,n,ne,nf,d⟩:=I.pin p hp
   exact⟨(hs.2 p.1 ne).trans e,n,ne,nf,d⟩
 ·have hfn:X.fn x=true:=by
   rcases hf with z|z
   ·exact z
   ·rw[z] at hk;cases hk
  obtain⟨c,hc⟩:=I.ok.has x (.inl hk)
  obtain⟨w',z⟩:=I.cell x c hc
  refine wpAny_storeName_cell I.ok.kind hk hc z (fun h' hc' hs=>?_)
  obtain⟨oc,hoc,Q4⟩:=id z
  refine h {s with heap:=h'} ⟨I.ok,I.os,I.bare,⟨fun b o e n hb hx=>?_,fun b o e n hb hx=>?_,I.base.free,fun b o e hx=>?_,I.base.tups,I.base.g7,I.base.i9⟩,⟨m,hn.sameBut hs (Ne.symm (kU x c hc)),fun j y v' e1 e2 e3=>?_⟩,fun y c' e=>?_,I.free,I.gv,fun p hp=>?_,tracked ⟨oc,hoc,I.gv x c hc⟩ hs,by simpa using I.len⟩ ⟨c,hs, .inr hc⟩
  ·exact(hs.2 b (Nat.ne_of_lt (Nat.lt_of_lt_of_le (Heap.lt_size e) (I.ok.oM x c hfn hc)))).trans (I.base.keep b o e n hb hx)
  ·obtain⟨sl,e1⟩:=I.base.slot b o e n hb hx
   exact⟨sl,(hs.2 b (Nat.ne_of_lt (Nat.lt_of_lt_of_le (Heap.lt_size e) (I.ok.oM x c hfn hc)))).trans e1⟩
  ·obtain⟨o',e1⟩:=I.base.there b o e hx
   exact⟨o',(hs.2 b (Nat.ne_of_lt (Nat.lt_of_lt_of_le (Heap.lt_size e) (I.ok.oM x c hfn hc)))).trans e1⟩
  ·by_cases hj:j=i
   ·subst hj
    rw[hi] at e1;cases e1
    rw[List.getElem?_set_self BU] at e2
    cases e2
    exact⟨u,r, .inr ⟨.inl hk,c,hc,hc'⟩⟩
   ·rw[List.getElem?_set_ne (Ne.symm hj)] at e2
    obtain⟨u',r',q⟩:=hl j y v' e1 e2 e3
    refine⟨u',r',?_⟩
    rcases q with q|⟨k,c',e,z'⟩
    ·exact .inl q
    ·refine .inr ⟨k,c',e,z'.sameBut hs ?_⟩
     rintro rfl
     exact hj (Ek hN e1 (I.ok.inj _ _ _ e hc▸hi))
  ·by_cases hcc:c'=c
   ·subst hcc;exact⟨_,hc'⟩
   ·obtain⟨w2,z2⟩:=I.cell y c' e
    exact⟨w2,z2.sameBut hs hcc⟩
  ·obtain⟨e,n,ne,nf,d⟩:=I.pin p hp
   refine⟨(hs.2 p.1 ?_).trans e,n,ne,nf,d⟩
   intro q
   rw[q,hoc] at e
   have q':oc=p.2:=Option.some.inj e
   exact d w' (by rw[<-q'];exact Q4)
theorem AL{M:Model}{A:Around}{E:Value->Shared->Prop}{i:Nat}{x:Str}{v:V}{u:Value}{Q:Unit->Shared->Prop}(I:Inv X pins σ H s)(hN:X.N.Nodup)(hi:X.N[i]?=some x)(hx:Loc X.env.scope x)(r:RelV v u)
  (h:∀s',Inv X pins (σ.set i (some v)) H s'->Q () s') (hf:X.fn x=true\/X.env.scope.names.lookup x=some .local:=by first|exact .inl rfl|exact .inr rfl|assumption):wpAny M A (storeName X.env x u) Q E s:=
 BS I hN hi hx r (fun s' I' _=>h s' I') hf
theorem Inv.SR{s':Shared}{ch:List Addr}(I:Inv X pins σ H s)(ho:s'.os=s.os)(u:Un (frs X.stack) ch H H' s.heap s'.heap)(hok:cB X.prog X.w H' s'.heap)(hg:AllBare s'.gens)
  (hch:∀b∈ch,(b∈X.ex\/X.s₀.heap.objs.size<=b)/\b≠X.env.locals/\(∀x c,X.env.cells.lookup x=some c->c≠b)/\∀p∈X.pn++pins,p.1≠b):Inv X pins σ H' s':=by
 obtain⟨h',g',d',t',o'⟩:=s'
 have e:o'=s.os:=ho
 subst e
 exact I.call (g':=g') (t':=t') (d':=d') u hok hg hch
end
abbrev XK:=Value->Option Addr->Hp->Prop
abbrev St:=List (Option V)
abbrev VK:=V->Hp->Prop
abbrev TE:=St->Hp->VK->Prop
abbrev TT:=St->Hp->(Bool->Hp->Prop)->Prop
abbrev TA:=St->Hp->(List V->Hp->Prop)->Prop
structure Ends where
 nx:St->Hp->Prop
 rt:VK
 bk:St->Hp->Prop:=fun _ _=>False
 ct:St->Hp->Prop:=fun _ _=>False
abbrev TS:=Ends->St->Hp->Prop
def EP(X:Cx)(pins:List (Addr×Obj))(σ:St)(Q:VK)(u:Value)(s':Shared):Prop:=∃v H',Inv X pins σ H' s'/\RelV v u/\Q v H'
def TP(X:Cx)(pins:List (Addr×Obj))(σ:St)(Q:Bool->Hp->Prop)(b:Bool)(s':Shared):Prop:=∃H',Inv X pins σ H' s'/\Q b H'
def AP(X:Cx)(pins:List (Addr×Obj))(σ:St)(Q:List V->Hp->Prop)(us:List Value)(s':Shared):Prop:=∃vs H',Inv X pins σ H' s'/\Vals vs us/\Q vs H'
def SP(X:Cx)(pins:List (Addr×Obj))(D:Ends)(f:Flow)(s':Shared):Prop:=
 match f with
 | .next=>∃σ' H',Inv X pins σ' H' s'/\D.nx σ' H'
 | .brk=>∃σ' H',Inv X pins σ' H' s'/\D.bk σ' H'
 | .cont=>∃σ' H',Inv X pins σ' H' s'/\D.ct σ' H'
 | .ret u=>∃v σ' H',Inv X pins σ' H' s'/\RelV v u/\D.rt v H'
def PE(X:Cx)(e:Expr)(t:TE):Prop:=
 ∀(pins:List (Addr×Obj)) (s:Shared) (σ:St) (H:Hp) (Q:VK),Inv X pins σ H s->t σ H Q->wpAny (model X.prog X.w) X.A (eval e X.env) (EP X pins σ Q) X.xe s
def PT(X:Cx)(e:Expr)(t:TT):Prop:=
 ∀(pins:List (Addr×Obj)) (s:Shared) (σ:St) (H:Hp) (Q:Bool->Hp->Prop),Inv X pins σ H s->t σ H Q->wpAny (model X.prog X.w) X.A (isTrue e X.env (eval e X.env)) (TP X pins σ Q) X.xe s
def PW(X:Cx)(e:Expr)(t:TT):Prop:=
 ∀(whole:Sem Value) (pins:List (Addr×Obj)) (s:Shared) (σ:St) (H:Hp) (Q:Bool->Hp->Prop),Inv X pins σ H s->t σ H Q->wpAny (model X.prog X.w) X.A (isTrue e X.env whole) (TP X pins σ Q) X.xe s
theorem PW.pt{X:Cx}{e:Expr}{t:TT}(h:PW X e t):PT X e t:=h _
def PA(X:Cx)(es:List Expr)(t:TA):Prop:=
 ∀(pos:Pos) (pins:List (Addr×Obj)) (s:Shared) (σ:St) (H:Hp) (Q:List V->Hp->Prop),Inv X pins σ H s->t σ H Q->wpAny (model X.prog X.w) X.A (spliced (backTo pos (starEach es X.env))) (AP X pins σ Q) X.xe s
def PS(X:Cx)(st:Stmt)(t:TS):Prop:=
 ∀(pins:List (Addr×Obj)) (s:Shared) (σ:St) (H:Hp) (D:Ends),Inv X pins σ H s->t D σ H->wpAny (model X.prog X.w) X.A (exec st X.env) (SP X pins D) X.xe s
def gy(X:Cx)(st:List Stmt)(t:TS):Prop:=
 ∀(pins:List (Addr×Obj)) (s:Shared) (σ:St) (H:Hp) (D:Ends),Inv X pins σ H s->t D σ H->wpAny (model X.prog X.w) X.A (execs st X.env) (SP X pins D) X.xe s
theorem aK{α:Type}{t:Sem α}{Q Q':α->Shared->Prop}{M:Model}{A:Around}{E:Value->Shared->Prop}{s:Shared}(h:wpAny M A t Q E s)(hQ:∀a s,Q a s->Q' a s):wpAny M A t Q' E s:=wpAny_mono h hQ fun _ _ x=>x
section
variable{X:Cx}
theorem bin{a b:Expr}{ta tb:TE}(ha:PE X a ta)(hb:PE X b tb){pins:List (Addr×Obj)}{s:Shared}{σ:St}{H:Hp}{R:V->V->Hp->Prop}(I:Inv X pins σ H s)(h:ta σ H fun x H1=>tb σ H1 fun y H2=>R x y H2)
  {α:Type} {Q:α->Shared->Prop} {f:Value->Value->Sem α}
  (hf:∀v u s2 x y H2,Inv X pins σ H2 s2->RelV x v->RelV y u->R x y H2->wpAny (model X.prog X.w) X.A (f v u) Q X.xe s2):
  wpAny (model X.prog X.w) X.A (eval a X.env) (fun v s₁=>wpAny (model X.prog X.w) X.A (eval b X.env) (fun u s₂=>wpAny (model X.prog X.w) X.A (f v u) Q X.xe s₂) X.xe s₁) X.xe s:=by
 refine aK (ha pins s σ H _ I h) fun v s1 ⟨x,H1,I1,r1,q1⟩=>?_
 refine aK (hb pins s1 σ H1 _ I1 q1) fun u s2 ⟨y,H2,I2,r2,q2⟩=>?_
 exact hf v u s2 x y H2 I2 r1 r2 q2
def cQ(i:Nat):TE:=fun σ H Q=>∃v,σ[i]?=some (some v)/\Q v H
def tC(v:V):TE:=fun _ H Q=>Q v H
theorem ND{i:Nat}{x:Str}{pos:Pos}(hN:X.N[i]?=some x)(hv:tP X.env.scope x)(hd:(x==("__debug__":Str))=false:=by decide)(hcd:(x==("__classdict__":Str))=false:=by decide):PE X (.Name x pos) (cQ i):=by
 intro pins s σ H Q I h
 obtain⟨v,e,h⟩:=h
 obtain⟨m,hn,hl⟩:=I.loc
 obtain⟨u,r,l⟩:=hl i x v hN e hv
 have fin:EP X pins σ Q u s:=⟨v,H,I,r,h⟩
 rcases l with ⟨hk,hm⟩|⟨hk,c,hc,hcell⟩
 ·exact wpAny_Name (wpAny_loadName_local I.ok.kind hk hn hm fin) hd
 ·rcases hk with hk|hk
  ·exact wpAny_Name (wpAny_loadName_cell I.ok.kind hk hc hcell fin) hd
  ·exact wpAny_Name (wpAny_loadName_free I.ok.kind hk hc hcell fin hcd) hd
theorem aj{i j pos}:PE X (.Constant (.int i) j pos) (tC (.int i)):=fun _ _ _ H _ I h=>wpAny_Constant_int ⟨.int i,H,I.tok _,⟨_,rfl⟩,h⟩
theorem nE{b j pos}:PE X (.Constant (.bool b) j pos) (tC (.bl b)):=fun _ _ _ H _ I h=>Constant_bool ⟨.bl b,H,I,rfl,h⟩
theorem mU{j pos}:PE X (.Constant .none j pos) (tC .aE):=fun _ _ _ H _ I h=>Constant_none ⟨.aE,H,I,rfl,h⟩
theorem kh{x j pos}:PE X (.Constant (.str x) j pos) (tC (.str x)):=fun _ _ _ H _ I h=>Calls.Constant_str ⟨.str x,H,I.tok _,⟨_,rfl⟩,h⟩
def Gl(X:Cx)(x:Str):Prop:=X.env.kindOf x=some .globalImplicit
theorem Jl{E:Value->Shared->Prop}{pins:List (Addr×Obj)}{s:Shared}{σ:St}{H:Hp}{x:Str}{u:Value}{pos:Pos}{Q:Value->Shared->Prop}(I:Inv X pins σ H s)(hg:Gl X x)(hm:X.mg x=some u)(h:Q u s)
  (hd:(x==("__debug__":Str))=false:=by decide):wpAny (model X.prog X.w) X.A (eval (.Name x pos) X.env) Q E s:=
 Calls.Name_function_global I.ok.kind hg (Calls.loadGlobal_global (by rw[I.ok.glob];exact I.mod.glob.keeps I.bk) hm h) hd
theorem mD{E:Value->Shared->Prop}{pins:List (Addr×Obj)}{s:Shared}{σ:St}{H:Hp}{x:Str}{u:Value}{pos:Pos}{Q:Value->Shared->Prop}(I:Inv X pins σ H s)(hg:Gl X x)(hm:X.mg x=none)(hv:bootBuiltins x=some u)(h:Q u s)
  (hn:x≠"__name__":=by decide) (hd:(x==("__debug__":Str))=false:=by decide):wpAny (model X.prog X.w) X.A (eval (.Name x pos) X.env) Q E s:=by
 obtain⟨mb,h1,h2⟩:=I.mod.blt
 exact Calls.Name_function_global I.ok.kind hg (Calls.loadGlobal_builtin (by rw[I.ok.glob];exact I.mod.glob.keeps I.bk) hm (by rw[I.ok.blt];exact h1.keeps I.bk) ((h2 x hn).trans hv) h) hd
theorem g6{x:Str}{v:V}{u:Value}{pos:Pos}(hg:Gl X x)(hm:X.mg x=none)(hv:bootBuiltins x=some u)(r:RelV v u)(hn:x≠"__name__":=by decide)(hd:(x==("__debug__":Str))=false:=by decide):PE X (.Name x pos) (tC v):=
 fun _ _ _ H _ I h=>mD I hg hm hv ⟨v,H,I,r,h⟩ hn hd
variable{a b:Expr}{ta tb:TE}{pos:Pos}
def PC(X:Cx)(op:CmpOp)(a b:Expr)(t:TE):Prop:=
 ∀(pins:List (Addr×Obj)) (s:Shared) (σ:St) (H:Hp) (Q:VK),Inv X pins σ H s->t σ H Q->
  wpAny (model X.prog X.w) X.A (eval a X.env) (fun v s₁=>wpAny (model X.prog X.w) X.A (eval b X.env) (fun u s₂=>wpAny (model X.prog X.w) X.A (compareOp op v u) (EP X pins σ Q) X.xe s₂) X.xe s₁) X.xe s
variable{tA qv:TT}{rest:List Expr}
def u6(t u:TT):TT:=fun σ H Q=>t σ H fun c H1=>if c=true then u σ H1 Q else Q false H1
def Dj(t u:TT):TT:=fun σ H Q=>t σ H fun c H1=>if c=true then Q true H1 else u σ H1 Q
def Ce(t:TT):TT:=fun σ H Q=>t σ H fun c H1=>Q (!c) H1
theorem kC(ha:PT X a tA):PW X (.BoolOp .And [a] pos) tA:=by
 intro wh pins s σ H Q I h
 refine isTrue_and (aK (ha pins s σ H Q I h) fun c s1 e=>?_)
 cases c with
 |true=>exact isTrue_and_nil e
 |false=>exact e
theorem qK(ha:PT X a tA):PW X (.BoolOp .Or [a] pos) tA:=by
 intro wh pins s σ H Q I h
 refine isTrue_or (aK (ha pins s σ H Q I h) fun c s1 e=>?_)
 cases c with
 |false=>exact isTrue_or_nil e
 |true=>exact e
theorem kF(ha:PT X a tA)(hb:PW X (.BoolOp .And (b::rest) pos) qv):PW X (.BoolOp .And (a::b::rest) pos) (u6 tA qv):=by
 intro wh pins s σ H Q I h
 refine isTrue_and (aK (ha pins s σ H _ I h) fun c s1 ⟨H1,I1,q1⟩=>?_)
 cases c with
 |true=>exact hb wh pins s1 σ H1 Q I1 q1
 |false=>exact⟨H1,I1,q1⟩
theorem pQ(ha:PT X a tA)(hb:PW X (.BoolOp .Or (b::rest) pos) qv):PW X (.BoolOp .Or (a::b::rest) pos) (Dj tA qv):=by
 intro wh pins s σ H Q I h
 refine isTrue_or (aK (ha pins s σ H _ I h) fun c s1 ⟨H1,I1,q1⟩=>?_)
 cases c with
 |true=>exact⟨H1,I1,q1⟩
 |false=>exact hb wh pins s1 σ H1 Q I1 q1
theorem CS(ha:PT X a tA):PT X (.UnaryOp .Not a pos) (Ce tA):=by
 intro pins s σ H Q I h
 exact isTrue_not (ha pins s σ H (fun c H1=>Q (!c) H1) I h)
def Bm(ta tb:TE):TE:=fun σ H Q=>ta σ H fun x H1=>∃c,x= .bl c/\if c=true then tb σ H1 Q else Q (.bl false) H1
theorem Gn{op}{t:TE}(h:PE X a t):PE X (.BoolOp op [a] pos) t:=fun pins s σ H Q I hw=>BoolOp_one (h pins s σ H Q I hw)
theorem OT(ha:PE X a ta)(hb:PE X (.BoolOp .And (b::rest) pos) tb):PE X (.BoolOp .And (a::b::rest) pos) (Bm ta tb):=by
 intro pins s σ H Q I h
 refine BoolOp_and (aK (ha pins s σ H _ I h) fun v s1 ⟨x,H1,I1,r1,q1⟩=>?_)
 obtain⟨c,rfl,q1⟩:=q1
 cases r1
 refine wpAny_truthy_bool ?_
 cases c with
 |true=>exact hb pins s1 σ H1 Q I1 q1
 |false=>exact⟨.bl false,H1,I1,rfl,q1⟩
def D8(t:TT)(ta tb:TE):TE:=fun σ H Q=>t σ H fun c H1=>if c=true then ta σ H1 Q else tb σ H1 Q
theorem AA{c:Expr}(hc:PT X c tA)(ha:PE X a ta)(hb:PE X b tb):PE X (.IfExp c a b pos) (D8 tA ta tb):=by
 intro pins s σ H Q I h
 refine wpAny_IfExp (aK (hc pins s σ H _ I h) fun d s1 ⟨H1,I1,q1⟩=>?_)
 cases d with
 |true=>exact ha pins s1 σ H1 Q I1 q1
 |false=>exact hb pins s1 σ H1 Q I1 q1
end
def aM(K:PySem.W.Frag)(H:Hp)(a:Addr)(xs:List V):Prop:=
 Rd H a (.lst xs)\/
  ∃(o:Obj) (its:Array Value) (n:Nat),K.lookup a=some o/\o.cls= .type "list" /\o.dict=none/\o.data= .seq its n/\its.size<=sizeLine/\Vals xs its.toList
def dP(K:PySem.W.Frag)(H:Hp)(a:Addr)(xs:List V):Prop:=
 Rd H a (.tup xs)\/
  ∃(o:Obj) (its:Array Value) (n:Nat),K.lookup a=some o/\o.cls= .type "tuple" /\o.data= .seq its n/\its.size<=sizeLine/\Vals xs its.toList
def RL:Value->Option V
 | .none=>some .aE
 | .bool b=>some (.bl b)
 | .int i _=>some (.int i)
 | .str x _=>some (.str x)
 | .bytes b _=>some (.gz b)
 | .float b _=>some (.jf b)
 | .ref a=>some (.ref a)
 | .type n=>some (.ty n)
 |_=>none
theorem RelV.abs{x:V}{u:Value}(r:RelV x u):RL u=some x:=by
 cases x with
 |aE=>cases r;rfl
 |bl _=>cases r;rfl
 |int _=>obtain⟨t,rfl⟩:=r;rfl
 |str _=>obtain⟨t,rfl⟩:=r;rfl
 |gz _=>obtain⟨t,rfl⟩:=r;rfl
 |jf _=>obtain⟨t,rfl⟩:=r;rfl
 |ref _=>cases r;rfl
 |ty _=>cases r;rfl
theorem RelV.inj{x y:V}{u:Value}(r:RelV x u)(q:RelV y u):x=y:=Option.some.inj (r.abs.symm.trans q.abs)
theorem Vals.inj{xs ys:List V}{us:List Value}(h:Vals xs us)(k:Vals ys us):xs=ys:=by
 induction h generalizing ys with
 |nil=>cases k;rfl
 |cons r t ih=>cases k with|cons r' t'=>rw[r.inj r',ih t']
section
variable{X:Cx}{pins:List (Addr×Obj)}{σ:St}{H:Hp}{s:Shared}{a:Addr}{xs ys:List V}
theorem aM.of{K:PySem.W.Frag}(h:H a=some (.lst xs)):aM K H a xs:= .inl (.inl h)
theorem dP.of{K:PySem.W.Frag}(h:H a=some (.tup xs)):dP K H a xs:= .inl (.inl h)
theorem Inv.list(I:Inv X pins σ H s)(h:aM X.K H a xs):∃its:List Value,Vals xs its/\PlainL s.heap a its.toArray/\xs.length<=sizeLine:=by
 rcases h with h|⟨o,its,n,hk,hc,hd,hs,hz,r⟩
 ·obtain⟨z,its,n,r,e⟩:=h.ok I.hok
  exact⟨its,r,⟨_,n,e,rfl,rfl,rfl⟩,z⟩
 ·refine⟨its.toList,r,⟨o,n,I.cV a o hk,hc,hd,by simpa using hs⟩,?_⟩
  have e:=r.length
  simp only[Array.length_toList] at e
  omega
theorem Inv.tuple(I:Inv X pins σ H s)(h:dP X.K H a xs):∃its:List Value,Vals xs its/\IsTup s.heap a its.toArray/\xs.length<=sizeLine:=by
 rcases h with h|⟨o,its,n,hk,hc,hs,hz,r⟩
 ·obtain⟨z,its,r,p⟩:=h.ok I.hok
  exact⟨its,r,p,z⟩
 ·refine⟨its.toList,r,⟨o,I.cV a o hk,hc,n,by simpa using hs⟩,?_⟩
  have e:=r.length
  simp only[Array.length_toList] at e
  omega
theorem Inv.Af(I:Inv X pins σ H s)(h:aM X.K H a xs)(h':aM X.K H a ys):xs=ys:=by
 obtain⟨its,r,⟨o,n,e,_,_,d⟩,_⟩:=I.list h
 obtain⟨its',r',⟨o',n',e',_,_,d'⟩,_⟩:=I.list h'
 rw[e] at e';cases e'
 rw[d] at d'
 injection d' with d1 _
 have:its=its':=by simpa using congrArg Array.toList d1
 subst this
 exact r.inj r'
end
abbrev Cx.iO(X:Cx)(E:Value->Shared->Prop):Cx:={X with xe:=E}
abbrev Cx.qz(X:Cx):Cx:=X.iO fun _ _=>False
theorem Cx.Ok.iO{X:Cx}(ok:X.Ok)(E:Value->Shared->Prop):(X.iO E).Ok:=
 ⟨ok.mod,ok.kind,ok.glob,ok.blt,ok.above,ok.inj,ok.has,ok.oM,ok.hd,ok.frames,ok.stk,ok.p5,ok.bs,ok.jZ,ok.nR,ok.nU,ok.iy,ok.nj⟩
theorem Cx.Ok.jm{X:Cx}{E:Value->Shared->Prop}(ok:(X.iO E).Ok):X.Ok:=
 ⟨ok.mod,ok.kind,ok.glob,ok.blt,ok.above,ok.inj,ok.has,ok.oM,ok.hd,ok.frames,ok.stk,ok.p5,ok.bs,ok.jZ,ok.nR,ok.nU,ok.iy,ok.nj⟩
section
variable{X:Cx}{pins:List (Addr×Obj)}{σ:St}{H:Hp}{s:Shared}{E:Value->Shared->Prop}
theorem Inv.iO(I:Inv X pins σ H s)(E:Value->Shared->Prop):Inv (X.iO E) pins σ H s:=⟨I.ok.iO E,I.os,I.bare,I.base,I.loc,I.cell,I.free,I.gv,I.pin,I.hok,I.len⟩
theorem Inv.jm(I:Inv (X.iO E) pins σ H s):Inv X pins σ H s:=⟨I.ok.jm,I.os,I.bare,I.base,I.loc,I.cell,I.free,I.gv,I.pin,I.hok,I.len⟩
theorem SP.jm{D:Ends}{f:Flow}{s':Shared}(h:SP (X.iO E) pins D f s'):SP X pins D f s':=by
 cases f with
 |next=>obtain⟨σ',H',I,q⟩:=h;exact⟨σ',H',I.jm,q⟩
 |brk=>obtain⟨σ',H',I,q⟩:=h;exact⟨σ',H',I.jm,q⟩
 |cont=>obtain⟨σ',H',I,q⟩:=h;exact⟨σ',H',I.jm,q⟩
 |ret u=>obtain⟨v,σ',H',I,r,q⟩:=h;exact⟨v,σ',H',I.jm,r,q⟩
theorem gy.qz{st:List Stmt}{t:TS}(h:gy X.qz st t):gy X st t:=fun pins s σ H D I hw=>
 wpAny_mono (h pins s σ H D (I.iO _) hw) (fun _ _ q=>q.jm) fun _ _ z=>False.elim z
end
section
variable{X:Cx}{st:Stmt}{rest:List Stmt}{t u:TS}{e:Expr}{te:TE}{pos:Pos}
def xV:TS:=fun D σ H=>D.nx σ H
def nV(t u:TS):TS:=fun D σ H=>t {D with nx:=u D} σ H
theorem cI:gy X [] xV:=fun _ _ σ H _ I h=>wpAny_execs_nil ⟨σ,H,I,h⟩
theorem ao(h1:PS X st t)(h2:gy X rest u):gy X (st::rest) (nV t u):=by
  intro pins s σ H D I h
  refine wpAny_execs_cons (aK (h1 pins s σ H {D with nx:=u D} I h) fun f s1 q=>?_)
  cases f with
  | next =>
    obtain⟨σ',H',I',q⟩:=q
    exact h2 pins s1 σ' H' D I' q
  |ret v=>exact q
  |brk=>exact q
  |cont=>exact q
theorem aB(h1:PS X st t):gy X [st] t:=by
 intro pins s σ H D I h
 refine wpAny_execs_cons (aK (h1 pins s σ H D I h) fun f s1 q=>?_)
 cases f with
 |next=>exact wpAny_execs_nil q
 |ret v=>exact q
 |brk=>exact q
 |cont=>exact q
def HH:TS:=fun D σ H=>D.ct σ H
theorem Inv.quiet{pins:List (Addr×Obj)}{σ:St}{H:Hp}{s:Shared}(I:Inv X pins σ H s):interactive X.env=false:=by simp[interactive,I.ok.kind]
def mJ(te:TE):TS:=fun D σ H=>te σ H fun _ H1=>D.nx σ H1
theorem iX(he:PE X e te)(hs:swapsWith e none pos.line X.env=pure false:=by rfl):PS X (.Expr e pos) (mJ te):=by
 intro pins s σ H D I h
 exact wpAny_Expr_any (aK (he pins s σ H _ I h) fun v s1 ⟨x,H1,I1,r1,q1⟩=>⟨σ,H1,I1,q1⟩) I.quiet hs
def o4(te:TE):TS:=fun D σ H=>te σ H D.rt
theorem aT(he:PE X e te):PS X (.Return (some e) pos) (o4 te):=by
 intro pins s σ H D I h
 exact wpAny_Return_some (aK (he pins s σ H _ I h) fun v s1 ⟨x,H1,I1,r1,q1⟩=>⟨x,σ,H1,I1,r1,q1⟩)
def sr(c:TT)(t u:TS):TS:=fun D σ H=>c σ H fun b H1=>if b=true then t D σ H1 else u D σ H1
theorem cH{c:Expr}{a b:List Stmt}{tc:TT}(hc:PT X c tc)(ha:gy X a t)(hb:gy X b u):PS X (.If c a b pos) (sr tc t u):=by
 intro pins s σ H D I h
 refine wpAny_If (aK (hc pins s σ H _ I h) fun d s1 ⟨H1,I1,q1⟩=>?_)
 cases d with
 |true=>exact ha pins s1 σ H1 D I1 q1
 |false=>exact hb pins s1 σ H1 D I1 q1
end
abbrev TG:=V->St->Hp->(St->Hp->Prop)->Prop
abbrev fU:=List V->St->Hp->(St->Hp->Prop)->Prop
def PG(X:Cx)(target:Expr)(t:TG):Prop:=
 ∀(pins:List (Addr×Obj)) (s:Shared) (σ:St) (H:Hp) (v:V) (u:Value) (Q:St->Hp->Prop),Inv X pins σ H s->RelV v u->t v σ H Q->
  wpAny (model X.prog X.w) X.A (assign target X.env u) (fun _ s'=>∃σ' H',Inv X pins σ' H' s'/\Q σ' H') X.xe s
def nH(X:Cx)(ts:List Expr)(t:fU):Prop:=
 ∀(pins:List (Addr×Obj)) (s:Shared) (σ:St) (H:Hp) (vs:List V) (us:List Value) (Q:St->Hp->Prop),Inv X pins σ H s->Vals vs us->t vs σ H Q->
  wpAny (model X.prog X.w) X.A (assignInOrder ((assignEach ts X.env).map (·.2)) us) (fun _ s'=>∃σ' H',Inv X pins σ' H' s'/\Q σ' H') X.xe s
abbrev qO:=V->V->V->Hp->(Hp->Prop)->Prop
def vj(X:Cx)(t:qO):Prop:=
 ∀(pins:List (Addr×Obj)) (s:Shared) (σ:St) (H:Hp) (o i v:V) (ov iv u:Value) (Q:Hp->Prop),Inv X pins σ H s->RelV o ov->RelV i iv->RelV v u->t o i v H Q->
  wpAny (model X.prog X.w) X.A (setItem ov iv u) (fun _ s'=>∃H',Inv X pins σ H' s'/\Q H') X.xe s
section
variable{X:Cx}{pos:Pos}
def e7(i:Nat):TG:=fun v σ H Q=>Q (σ.set i (some v)) H
theorem aG{i:Nat}{x:Str}(hN:X.N.Nodup)(hi:X.N[i]?=some x)(hx:Loc X.env.scope x)(hf:X.fn x=true\/X.env.scope.names.lookup x=some .local:=by first|exact .inl rfl|exact .inr rfl|assumption):PG X (.Name x pos) (e7 i):=by
 intro pins s σ H v u Q I r h
 exact wpAny_assign_Name (AL I hN hi hx r (fun s' I'=>⟨_,H,I',h⟩) hf)
def tS:fU:=fun vs σ H Q=>vs=[]/\Q σ H
def uc(t:TG)(u:fU):fU:=fun vs σ H Q=>∃v r,vs=v::r/\t v σ H fun σ' H'=>u r σ' H' Q
theorem eB:nH X [] tS:=by
 intro pins s σ H vs us Q I r h
 obtain⟨e,h⟩:=h
 subst e
 cases r
 exact assignInOrder_nil ⟨σ,H,I,h⟩
theorem aW{e:Expr}{es:List Expr}{t:TG}{u:fU}(h1:PG X e t)(h2:nH X es u)
    (hs:(assignEach (e::es) X.env).map (·.2)=assign e X.env::(assignEach es X.env).map (·.2):=by rfl):nH X (e::es) (uc t u):=by
  intro pins s σ H vs us Q I r h
  obtain⟨v,vr,e1,h⟩:=h
  subst e1
  cases r with
  | cons r rr =>
    rw[hs]
    refine assignInOrder_cons (aK (h1 pins s σ H _ _ _ I r h) fun _ s1 ⟨σ1,H1,I1,q1⟩=>?_)
    exact h2 pins s1 σ1 H1 _ _ Q I1 rr q1
def qX(K:PySem.W.Frag)(n:Nat)(t:fU):TG:=fun v σ H Q=>∃a xs,v= .ref a/\dP K H a xs/\xs.length=n/\t xs σ H Q
theorem z7{es:List Expr}{k:Nat}{t:fU}{n:Nat}(hc:X.calm=true)(h:nH X es t)
  (hn:(assignEach es X.env).length=n:=by rfl) (hst:(assignEach es X.env).findIdx? (·.1)=none:=by rfl):PG X (.Tuple es k pos) (qX X.K n t):=by
 intro pins s σ H v u Q I r hw
 obtain⟨a,xs,e1,hq,hl,hw⟩:=hw
 subst e1
 cases r
 obtain⟨its,rv,ht,hz⟩:=I.tuple hq
 refine assign_Tuple_tuple (I.ok.hd hc) ht (by simp[hn,<-hl,rv.length]) hst fun h' hx=>?_
 have I1:Inv X pins σ H {s with heap:=h'}:=I.kept (t':=s.toks) fun b o e=>hx b o (Nat.ne_of_lt (Heap.lt_size e)) e
 exact h pins _ σ H xs _ Q I1 (by simpa using rv) hw
def mW(to ti:TE)(t:qO):TG:=fun v σ H Q=>to σ H fun o H1=>ti σ H1 fun i H2=>t o i v H2 fun H3=>Q σ H3
theorem i6{o i:Expr}{to ti:TE}{t:qO}(ho:PE X o to)(hi:PE X i ti)(hs:vj X t)
  (ha : ∀ v, assign (.Subscript o i pos) X.env v = (do
   let ov<-holding [v] (eval o X.env)
   let iv<-holding [v,ov] (eval i X.env)
   standAt pos
   holding [v,ov,iv] (setItem ov iv v)
   release [v,ov,iv] []):=by intro _;rfl):PG X (.Subscript o i pos) (mW to ti t):=by
 intro pins s σ H v u Q I r h
 rw[ha]
 refine wpAny_bind (wpAny_holding (aK (ho pins s σ H _ I h) fun ov s1 ⟨x,H1,I1,r1,q1⟩=>?_))
 refine wpAny_bind (wpAny_holding (aK (hi pins s1 σ H1 _ I1 q1) fun iv s2 ⟨y,H2,I2,r2,q2⟩=>?_))
 refine wpAny_bind (wpAny_standAt (wpAny_bind (wpAny_holding (aK (hs pins s2 σ H2 x y v ov iv u _ I2 r1 r2 r q2) fun _ s3 ⟨H3,I3,q3⟩=>?_))))
 exact wpAny_release ⟨σ,H3,I3,q3⟩
def fh(te:TE)(g:TG):TS:=fun D σ H=>te σ H fun x H1=>g x σ H1 D.nx
theorem fV{tg e:Expr}{te:TE}{g:TG}(he:PE X e te)(hg:PG X tg g)(hs:swapsWithSole [tg] e pos.line X.env=pure false:=by rfl)(hw:swappedStores [tg] e X.env=pure none:=by rfl)
  (h1:(assignEach [tg] X.env).map (·.2)=[assign tg X.env]:=by rfl):PS X (.Assign [tg] e pos) (fh te g):=by
 intro pins s σ H D I h
 refine wpAny_Assign_stores (aK (he pins s σ H _ I h) fun v s1 ⟨x,H1,I1,r1,q1⟩=>?_) hs hw
 rw[h1]
 exact aK (hg pins s1 σ H1 x v _ I1 r1 q1) fun _ s2 q=>q
theorem aF{i:Nat}{x:Str}{e:Expr}{te:TE}{pos':Pos}(hN:X.N.Nodup)(hi:X.N[i]?=some x)(hx:Loc X.env.scope x)(he:PE X e te)(hs:swapsWith e (some (.Name x pos')) pos.line X.env=pure false:=by rfl)(hf:X.fn x=true\/X.env.scope.names.lookup x=some .local:=by first|exact .inl rfl|exact .inr rfl|assumption):
  PS X (.Assign [.Name x pos'] e pos) (fh te (e7 i)):=by
 intro pins s σ H D I h
 refine wpAny_Assign_Name (aK (he pins s σ H _ I h) fun v s1 ⟨y,H1,I1,r1,q1⟩=>?_) hs
 exact AL I1 hN hi hx r1 (fun s2 I2=>⟨_,H1,I2,q1⟩) hf
end
section
variable{X:Cx}{pos:Pos}
def wC(c:TT)(tb:TS):TS:=fun D σ H=>∃W:Nat->St->Hp->Prop,(∃m,W m σ H)/\∀m σ H,W m σ H->
 c σ H fun b H1=>if b=true then∃N:St->Hp->Prop,(∀σ' H',N σ' H'->∃m',m'<m/\W m' σ' H')/\tb {D with nx:=N,ct:=N,bk:=D.nx} σ H1 else D.nx σ H1
theorem tU{c:Expr}{body:List Stmt}{tc:TT}{tb:TS}(hp:PassesOwn (model X.prog X.w) X.A X.env X.xe)(hc:PT X c tc)(hb:gy X body tb):PS X (.While c body [] pos) (wC tc tb):=by
  intro pins s σ H D I h
  obtain⟨W,⟨m0,w0⟩,turn⟩:=h
  refine wpAny_While (codeAny_whileLoop (fun n s'=>∃σ' H',Inv X pins σ' H' s'/\W n σ' H') ?_ m0 ⟨σ,H,I,w0⟩)
  rintro n s1 ⟨σ1,H1,I1,w1⟩
  refine wpAny_passesOwn hp (aK (hc pins s1 σ1 H1 _ I1 (turn n σ1 H1 w1)) fun b s2 ⟨H2,I2,q2⟩=>?_)
  cases b with
  | true =>
    obtain⟨N,hN,q2⟩:=q2
    rw[if_pos rfl]
    refine wpAny_passesOwn hp (aK (hb pins s2 σ1 H2 _ I2 q2) fun f s3 q3=>?_)
    cases f with
    | next =>
      obtain⟨σ3,H3,I3,n3⟩:=q3
      obtain⟨m',hm,w3⟩:=hN σ3 H3 n3
      exact⟨m',hm,σ3,H3,I3,w3⟩
    | cont =>
      obtain⟨σ3,H3,I3,n3⟩:=q3
      obtain⟨m',hm,w3⟩:=hN σ3 H3 n3
      exact⟨m',hm,σ3,H3,I3,w3⟩
    |brk=>exact q3
    |ret v=>exact q3
  | false =>
    rw[if_neg Bool.false_ne_true]
    exact wpAny_execs_nil ⟨σ1,H2,I2,q2⟩
end
structure It where
 go:Nat->Hp->Prop
 jC:Nat->Hp->V->Hp->Prop
 stop:Nat->Hp->Prop
def gb(X:Cx)(pins:List (Addr×Obj))(H:Hp)(b:Addr):Prop:=
 H b=none/\b≠X.env.locals/\b∉X.fs/\(b∈X.ex\/X.s₀.heap.objs.size<=b)/\(∀x c,X.env.cells.lookup x=some c->c≠b)/\∀p∈X.pn++pins,p.1≠b
theorem Inv.nB{X:Cx}{pins:List (Addr×Obj)}{σ:St}{H H':Hp}{s:Shared}{b:Addr}(I:Inv X pins σ H s)(hb:s.heap.objs.size<=b)(hn:H' b=none):gb X pins H' b:=by
 refine⟨hn,Nat.ne_of_gt (Nat.lt_of_lt_of_le I.lt hb),I.Kc hb, .inr (Nat.le_trans I.sz hb),fun x c e z=>?_,fun p hp z=>?_⟩
 ·obtain⟨v,q⟩:=I.cell x c e
  exact absurd (Nat.lt_of_lt_of_le q.lt (by rw[z];exact hb)) (Nat.lt_irrefl _)
 ·exact absurd (Nat.lt_of_lt_of_le (Heap.lt_size (I.pin p hp).1) (by rw[z];exact hb)) (Nat.lt_irrefl _)
structure Turn(P:Program)(w:World)(K:PySem.W.Frag)(tg:Expr)(J:It)(fp:List Addr)(it:Addr)(tn:Nat->Heap->Prop):Prop where
 mem:it∈fp
 obj:∀i h,tn i h->∀b∈fp,∃o,h.get? b=some o/\∀v,o.data≠ .cell v
 keep:∀i h h',tn i h->(∀b∈fp,∀o,h.get? b=some o->h'.get? b=some o)->tn i h'
 item:∀(X:Cx),X.prog=P->X.w=w->X.K=K->X.calm=true->∀(i:Nat) (pins:List (Addr×Obj)) (s:Shared) (σ:St) (H:Hp) (E:Value->Shared->Prop),Inv X pins σ H s->(∀b∈fp,gb X pins H b)->tn i s.heap->J.go i H->
  wpAny (model P w) X.A (pyNext (.ref it)) (fun r s1=>∃u,r=some u/\
   wpAny (model P w) X.A (letOwnedTupleGo tg (.ref it) u) (fun _ s2=>∃x H',Inv X pins σ H' s2/\RelV x u/\J.jC i H x H'/\tn (i+1) s2.heap/\∀b∈fp,H' b=none) E s1) E s
 done:∀(X:Cx),X.prog=P->X.w=w->X.K=K->X.calm=true->∀(i:Nat) (pins:List (Addr×Obj)) (s:Shared) (σ:St) (H:Hp) (E:Value->Shared->Prop),Inv X pins σ H s->(∀b∈fp,gb X pins H b)->tn i s.heap->J.stop i H->
  wpAny (model P w) X.A (pyNext (.ref it)) (fun r s1=>r=none/\Inv X pins σ H s1) E s
 self:∀(A:Around) (i:Nat) (s:Shared) (Q:Value->Shared->Prop) (E:Value->Shared->Prop),tn i s.heap->Q (.ref it) s->wpAny (model P w) A (pyIter (.ref it)) Q E s
abbrev TI:=St->Hp->(It->Hp->Prop)->Prop
def DQ(X:Cx)(pins:List (Addr×Obj))(σ:St)(tg:Expr)(R:It->Hp->Prop)(itv:Value)(s2:Shared):Prop:=
 ∃(it:Addr) (fp:List Addr) (tn:Nat->Heap->Prop) (J:It) (H':Hp),itv= .ref it/\Inv X pins σ H' s2/\Turn X.prog X.w X.K tg J fp it tn/\tn 0 s2.heap/\(∀b∈fp,gb X pins H' b)/\R J H'
def PI(X:Cx)(tg iter:Expr)(wi:TI):Prop:=
 ∀(pins:List (Addr×Obj)) (s:Shared) (σ:St) (H:Hp) (R:It->Hp->Prop),Inv X pins σ H s->wi σ H R->
  wpAny (model X.prog X.w) X.A (eval iter X.env) (fun v s1=>wpAny (model X.prog X.w) X.A (pyIter v) (DQ X pins σ tg R) X.xe s1) X.xe s
theorem uJ{M:Model}{A:Around}{E:Value->Shared->Prop}{s:Shared}{tg:Expr}{it:Addr}{u:Value}{o:Obj}{n:String}{vs:Array Value}{Q:Unit->Shared->Prop}(ho:s.heap.get? it=some o)(hc:o.cls= .type n)(hd:o.data= .fields vs)
    (hn:["enumerate","zip","dict_itemiterator","dict_reverseitemiterator","odict_iterator","itertools.zip_longest","itertools.pairwise"].contains n=false) (hQ:Q () s):wpAny M A (letOwnedTupleGo tg (.ref it) u) Q E s:=by
  unfold letOwnedTupleGo
  cases tg<;>first
    |exact wpAny_pure hQ
    |(cases u<;>first
        |exact wpAny_pure hQ
        | (refine wpAny_bind (wpAny_load ho ?_)
           rw[hc,hd]
           show wpAny M A (if(["enumerate","zip","dict_itemiterator","dict_reverseitemiterator","odict_iterator","itertools.zip_longest","itertools.pairwise"].contains n && vs[0]?==some (rawInt _))=true then _ else _) Q E s
           rw[if_neg (by intro h;rw[hn,Bool.false_and] at h;cases h)]
           exact wpAny_pure hQ))
def kr(K:PySem.W.Frag)(a:Addr):It:=
 ⟨fun i H=>∃xs x,aM K H a xs/\xs[i]?=some x,fun i H x H'=>H'=H/\∀xs,aM K H a xs->xs[i]?=some x,fun i H=>∃xs,aM K H a xs/\xs.length<=i⟩
def gc(lo:Int)(n:Nat):It:=⟨fun i _=>i<n,fun i H x H'=>H'=H/\x= .int (lo+i),fun i _=>n<=i⟩
theorem Ox{P:Program}{w:World}{K:PySem.W.Frag}{tg:Expr}(a it:Addr):Turn P w K tg (kr K a) [it] it (fun i h=>h.IsListIter it a i) where
 mem:=by simp
 obj:=fun i h st b hb=>by
  have e:b=it:=by simpa using hb
  subst e
  obtain⟨o,e,c,d⟩:=st
  exact⟨o,e,fun v z=>by rw[d] at z;cases z⟩
 keep:=fun i h h' st k=>st.at fun o e=>k it (by simp) o e
 item:=by
  intro X hP hw hK hc i pins s σ H E I hf st hg
  subst hP hw hK
  obtain⟨xs,x,hq,hx⟩:=hg
  obtain⟨its,rv,p,hz⟩:=I.list hq
  obtain⟨u,hu,ru⟩:=rv.get hx
  obtain⟨f0,f1,f2,f3,f4,f5⟩:=hf it (by simp)
  refine wpAny_pyNext_list_item st p.isList (x:=u) (by simpa using hu) fun h' st' sb=>?_
  have I1:Inv X pins σ H {s with heap:=h'}:=I.turned (t':=s.toks) (fun b o hb e=>(sb.2 b hb).trans e) f0 f1 f3 f4 f5
  obtain⟨o,e,c,d⟩:=id st'
  exact⟨u,rfl,uJ (s:={s with heap:=h'}) e c d (by decide) ⟨x,H,I1,ru,⟨rfl,fun ys hy=>by rw[I.Af hy hq];exact hx⟩,st',fun b hb=>(hf b hb).1⟩⟩
 done:=by
  intro X hP hw hK hc i pins s σ H E I hf st hg
  subst hP hw hK
  obtain⟨xs,hq,hx⟩:=hg
  obtain⟨its,rv,p,hz⟩:=I.list hq
  obtain⟨f0,f1,f2,f3,f4,f5⟩:=hf it (by simp)
  have hl:=rv.length
  exact wpAny_pyNext_list_end (I.ok.hd hc) st p.isList (by simp;omega) fun h' eb=>⟨rfl,I.turned (t':=s.toks) (fun b o hb e=>eb b o hb e) f0 f1 f3 f4 f5⟩
 self:=fun _ _ _ _ _ st h=>wpAny_pyIter_listiter st h
theorem So{P:Program}{w:World}{K:PySem.W.Frag}{tg:Expr}(it:Addr)(lo:Int)(n:Nat):Turn P w K tg (gc lo n) [it] it (fun i h=>IsRangeIter h it (lo+(i:Nat)*1) ((n:Int)-(i:Nat)) 1) where
 mem:=by simp
 obj:=fun i h st b hb=>by
  have e:b=it:=by simpa using hb
  subst e
  exact⟨_,st,fun v z=>by
   have z':Data.fields _=Data.cell v:=z
   cases z'⟩
 keep:=fun i h h' st k=>k it (by simp) _ st
 item:=by
  intro X hP hw hK hc i pins s σ H E I hf st hg
  subst hP hw hK
  obtain⟨f0,f1,f2,f3,f4,f5⟩:=hf it (by simp)
  have W:=Walks.range (prog:=X.prog) (w:=X.w) (I.ok.hd hc) it lo 1 n
  refine W.item i s _ _ hg st fun v h' tk hv st' kk=>?_
  obtain⟨t,rfl⟩:=hv
  have I1:Inv X pins σ H {s with heap:=h',toks:=tk}:=I.turned (fun b o hb e=>kk b o (by simpa using hb) e) f0 f1 f3 f4 f5
  refine⟨_,rfl,uJ (s:={s with heap:=h',toks:=tk}) (n:="range_iterator") st' rfl rfl (by decide) ⟨.int (lo+i),H,I1,⟨t,?_⟩,⟨rfl,rfl⟩,st',fun b hb=>(hf b hb).1⟩⟩
  rw[Int.mul_one]
 done:=by
  intro X hP hw hK hc i pins s σ H E I hf st hg
  subst hP hw hK
  obtain⟨f0,f1,f2,f3,f4,f5⟩:=hf it (by simp)
  exact wpAny_pyNext_range_end (I.ok.hd hc) st (by have:n<=i:=hg;omega) fun h' eb=>⟨rfl,I.turned (t':=s.toks) (fun b o hb e=>eb b o hb e) f0 f1 f3 f4 f5⟩
 self:=fun _ _ _ _ _ st h=>wpAny_pyIter_rangeiter st h
section
variable{X:Cx}{tg:Expr}
def nJ(K:PySem.W.Frag)(tl:TE):TI:=fun σ H R=>tl σ H fun x H1=>∃a,x= .ref a/\(∃xs,aM K H1 a xs)/\R (kr K a) H1
theorem dH{l:Expr}{tl:TE}(hl:PE X l tl):PI X tg l (nJ X.K tl):=by
 intro pins s σ H R I h
 refine aK (hl pins s σ H _ I h) fun v s1 ⟨x,H1,I1,r1,q1⟩=>?_
 obtain⟨a,e,⟨xs,hq⟩,q⟩:=q1
 subst e
 cases r1
 obtain⟨its,rv,p,hz⟩:=I1.list hq
 refine wpAny_pyIter_list p.isList ?_
 refine⟨s1.heap.objs.size,[s1.heap.objs.size],_,_,H1,rfl,I1.kept (t':=s1.toks) fun b o e=>Heap.get?_push_of_some _ e,Ox a _,⟨_,Heap.get?_push_size _ rfl,rfl,rfl⟩,fun b hb=>?_,q⟩
 have e:b=s1.heap.objs.size:=by simpa using hb
 subst e
 exact I1.nB (Nat.le_refl _) (I1.hok.fresh (Nat.le_refl _))
theorem Bj{pins:List (Addr×Obj)}{σ:St}{H:Hp}{s:Shared}{R:It->Hp->Prop}{E:Value->Shared->Prop}{lo hi:Int}{t u v:Tok}{tk:Nat}(I:Inv X pins σ H s)(h1: -(2^62)<=lo)(h2:lo<2^62)(h3: -(2^62)<=hi)(h4:hi<2^62)
  (q:R (gc lo (hi-lo).toNat) H):wpAny (model X.prog X.w) X.A (pyIter (.ref s.heap.objs.size)) (DQ X pins σ tg R) E {s with heap:=s.heap.push {cls:= .type "range",data:= .fields #[.int lo t, .int hi u, .int 1 v]},toks:=tk}:=by
 refine wpAny_pyIter_range (IsRange.new ..) (small_one h1 h2 h3 h4) ?_
 have I1:Inv X pins σ H {s with heap:=s.heap.push {cls:= .type "range",data:= .fields #[.int lo t, .int hi u, .int 1 v]},toks:=tk}:=I.kept fun b o e=>Heap.get?_push_of_some _ e
 refine⟨(s.heap.push {cls:= .type "range",data:= .fields #[.int lo t, .int hi u, .int 1 v]}).objs.size,[(s.heap.push {cls:= .type "range",data:= .fields #[.int lo t, .int hi u, .int 1 v]}).objs.size],_,_,H,rfl,
  I1.kept (t':=tk) fun b o e=>Heap.get?_push_of_some _ e,So _ lo (hi-lo).toNat,?_,fun b hb=>?_,q⟩
 ·have e1:lo+((0:Nat):Int)*1=lo:=by simp
  have e2:(((hi-lo).toNat:Nat):Int)-((0:Nat):Int)=Builtin.Range.rangeSize lo hi 1:=by rw[rangeSize_one];split<;>omega
  show IsRangeIter _ _ (lo+((0:Nat):Int)*1) ((((hi-lo).toNat:Nat):Int)-((0:Nat):Int)) 1
  rw[e1,e2]
  exact Heap.get?_push_size _ rfl
 ·have e:b=(s.heap.push {cls:= .type "range",data:= .fields #[.int lo t, .int hi u, .int 1 v]}).objs.size:=by simpa using hb
  subst e
  exact I1.nB (Nat.le_refl _) (I1.hok.fresh (Nat.le_refl _))
def qH(ta:TA):TI:=fun σ H R=>ta σ H fun vs H1=>∃j:Int,vs=[.int j]/\ -(2^62)<=j/\j<2^62/\R (gc 0 j.toNat) H1
def DM(ta:TA):TI:=fun σ H R=>ta σ H fun vs H1=>∃i j:Int,vs=[.int i, .int j]/\(-(2^62)<=i/\i<2^62/\ -(2^62)<=j/\j<2^62)/\R (gc i (j-i).toNat) H1
theorem gG{a:Expr}{ta:TA}{p pos:Pos}(hg:Gl X "range")(hm:X.mg "range"=none)(ha:PA X [a] ta)(hs:starEach [a] X.env=[(false,eval a X.env)]:=by rfl):PI X tg (.Call (.Name "range" p) [a] [] pos) (qH ta):=by
  intro pins s σ H R I h
  refine Call_ (mD I hg hm boot_range (PyProof.Rows.callWith_type1 (aK (ha pos pins s σ H _ I h) fun us s1 ⟨vs,H1,I1,r1,q1⟩=>?_) hs rfl))
  obtain⟨j,e,q1,q2,q⟩:=q1
  subst e
  cases r1 with
  | cons r rr =>
    cases rr
    obtain⟨t,rfl⟩:=r
    exact call_range_1 (Bj I1 (by omega) (by omega) q1 q2 (by simpa using q))
theorem Ba{a b:Expr}{ta:TA}{p pos:Pos}(hg:Gl X "range")(hm:X.mg "range"=none)(ha:PA X [a,b] ta)(hs:starEach [a,b] X.env=[(false,eval a X.env),(false,eval b X.env)]:=by rfl)(hs2:starEach [b] X.env=[(false,eval b X.env)]:=by rfl):
    PI X tg (.Call (.Name "range" p) [a,b] [] pos) (DM ta):=by
  intro pins s σ H R I h
  refine Call_ (mD I hg hm boot_range (PyProof.Rows.callWith_type1 (aK (ha pos pins s σ H _ I h) fun us s1 ⟨vs,H1,I1,r1,q1⟩=>?_) (by rw[hs,hs2]) (by rw[hs2];rfl)))
  obtain⟨i,j,e,⟨q1,q2,q3,q4⟩,q⟩:=q1
  subst e
  cases r1 with
  | cons r rr =>
    cases rr with
    | cons r' rr =>
      cases rr
      obtain⟨t,rfl⟩:=r
      obtain⟨t',rfl⟩:=r'
      exact call_range_2 (Bj I1 q1 q2 q3 q4 q)
def mR(wi:TI)(g:TG)(tb:TS):TS:=fun D σ H=>wi σ H fun J H1=>∃W:Nat->Nat->St->Hp->Prop,(∃m,W 0 m σ H1)/\∀i m σ H,W i m σ H->
 (J.stop i H/\D.nx σ H)\/(J.go i H/\∃N:St->Hp->Prop,(∀σ' H',N σ' H'->∃m',m'<m/\W (i+1) m' σ' H')/\∀x H',J.jC i H x H'->g x σ H' fun σ2 H2=>tb {D with nx:=N,ct:=N,bk:=D.nx} σ2 H2)
def nN(fp:List Addr)(h:Heap):List (Addr×Obj):=fp.filterMap fun b=>(h.get? b).map fun o=>(b,o)
theorem qM{fp:List Addr}{h:Heap}{b:Addr}{o:Obj}(hb:b∈fp)(e:h.get? b=some o):(b,o)∈nN fp h:=List.mem_filterMap.mpr ⟨b,hb,by rw[e];rfl⟩
theorem Qs{fp:List Addr}{h:Heap}{p:Addr×Obj}(hp:p∈nN fp h):p.1∈fp/\h.get? p.1=some p.2:=by
  obtain⟨b,hb,e⟩:=List.mem_filterMap.mp hp
  cases q:h.get? b with
  |none=>rw[q] at e;cases e
  | some o =>
    rw[q] at e
    have e':(b,o)=p:=Option.some.inj e
    subst e'
    exact⟨hb,q⟩
theorem Inv.pinned{pins:List (Addr×Obj)}{σ:St}{H:Hp}{s:Shared}{fp:List Addr}(I:Inv X pins σ H s)(hf:∀b∈fp,gb X pins H b)(ho:∀b∈fp,∃o,s.heap.get? b=some o/\∀v,o.data≠ .cell v):Inv X (pins++nN fp s.heap) σ H s:=
 I.DH fun p hp=>(List.mem_append.mp hp).elim (fun z=>I.pin p (List.mem_append_right _ z)) fun z=>by
  obtain⟨hb,e⟩:=Qs z
  obtain⟨f0,f1,f2,_⟩:=hf p.1 hb
  obtain⟨o,e',d⟩:=ho p.1 hb
  rw[e] at e';cases e'
  exact⟨e,f0,f1,f2,d⟩
theorem Inv.pF{pins pl:List (Addr×Obj)}{σ:St}{H:Hp}{s:Shared}(I:Inv X (pins++pl) σ H s):Inv X pins σ H s:=I.DH fun p hp=>I.pin p (List.mem_append_right _ (List.mem_append_left _ hp))
theorem dY{iter:Expr}{body:List Stmt}{wi:TI}{g:TG}{tb:TS}{pos:Pos}(hp:PassesOwn (model X.prog X.w) X.A X.env X.xe)(hc:X.calm=true)(hi:PI X tg iter wi)(hg:PG X tg g)(hb:gy X body tb)
  (hs:∀x,foldedSetIterable iter X.env x=pure x:=by intro _;rfl):PS X (.For tg iter body [] pos) (mR wi g tb):=by
 intro pins s σ H D I h
 refine wpAny_For (aK (hi pins s σ H _ I h) fun v s1 h1=>aK h1 fun itv s2 h2=>?_) hs
 obtain⟨it,fp,tn,J,H2,e,I2,T,st2,f2,W,⟨m0,w0⟩,turn⟩:=h2
 subst e
 have jB:∀{H':Hp},(∀b∈fp,H' b=none)->∀b∈fp,gb X pins H' b:=fun hn b hb=>⟨hn b hb,(f2 b hb).2⟩
 refine codeAny_forLoop_any (fun n s'=>∃i σ' H',Inv X pins σ' H' s'/\tn i s'.heap/\(∀b∈fp,H' b=none)/\W i n σ' H') ?_ m0 ⟨0,σ,H2,I2,st2,fun b hb=>(f2 b hb).1,w0⟩
 rintro n s3 ⟨i,σ3,H3,I3,st3,fr3,w3⟩
 rcases turn i n σ3 H3 w3 with ⟨stop,qn⟩|⟨go,N,hN,step⟩
 ·refine wpAny_passesOwn hp (aK (T.done X rfl rfl rfl hc i pins s3 σ3 H3 X.xe I3 (jB fr3) st3 stop) fun r s4 ⟨hr,I4⟩=>?_)
  subst hr
  exact wpAny_execs_nil ⟨σ3,H3,I4,qn⟩
 ·refine wpAny_passesOwn hp (aK (T.item X rfl rfl rfl hc i pins s3 σ3 H3 X.xe I3 (jB fr3) st3 go) fun r s4 ⟨u,hr,h4⟩=>?_)
  subst hr
  refine wpAny_passesOwn hp (aK h4 fun _ s5 ⟨x,H5,I5,r5,y5,lu,uD⟩=>?_)
  have yb:=I5.pinned (jB uD) (T.obj _ _ lu)
  refine wpAny_passesOwn hp (aK (hg _ s5 σ3 H5 x u _ yb r5 (step x H5 y5)) fun _ s6 ⟨nG,H6,I6,q6⟩=>?_)
  refine wpAny_passesOwn hp (aK (hb _ s6 nG H6 _ I6 q6) fun f s7 q7=>?_)
  have again:∀{d7:St} {H7:Hp},Inv X (pins++nN fp s5.heap) d7 H7 s7->N d7 H7->∃m,m<n/\∃i σ' H',Inv X pins σ' H' s7/\tn i s7.heap/\(∀b∈fp,H' b=none)/\W i m σ' H':=fun{d7 H7} I7 n7=>by
   obtain⟨m',hm,w7⟩:=hN d7 H7 n7
   refine⟨m',hm,i+1,d7,H7,I7.pF,T.keep _ _ _ lu fun b hb o e=>(I7.pin (b,o) (List.mem_append_right _ (List.mem_append_right _ (qM hb e)))).1,fun b hb=>?_,w7⟩
   obtain⟨o,e,d⟩:=T.obj _ _ lu b hb
   exact(I7.pin (b,o) (List.mem_append_right _ (List.mem_append_right _ (qM hb e)))).2.1
  cases f with
  |next=>obtain⟨d7,H7,I7,n7⟩:=q7;exact again I7 n7
  |cont=>obtain⟨d7,H7,I7,n7⟩:=q7;exact again I7 n7
  |brk=>obtain⟨d7,H7,I7,q7⟩:=q7;exact⟨d7,H7,I7.pF,q7⟩
  |ret v=>obtain⟨x7,d7,H7,I7,r7,q7⟩:=q7;exact⟨x7,d7,H7,I7.pF,r7,q7⟩
end
theorem zJ{K:PySem.W.Frag}{a:Addr}{xs:List V}{g:TG}{tb:TS}{D:Ends}{σ:St}{H:Hp}(Pv:Nat->St->Hp->Prop)(h0:Pv 0 σ H)(hl:∀i σ H,i<=xs.length->Pv i σ H->aM K H a xs)
  (hs:∀i x σ H,xs[i]?=some x->Pv i σ H->g x σ H fun σ2 H2=>tb {D with nx:=Pv (i+1),ct:=Pv (i+1),bk:=D.nx} σ2 H2) (hd:∀σ H,Pv xs.length σ H->D.nx σ H):
  ∃W:Nat->Nat->St->Hp->Prop,(∃m,W 0 m σ H)/\∀i m σ H,W i m σ H->
   ((kr K a).stop i H/\D.nx σ H)\/((kr K a).go i H/\∃N:St->Hp->Prop,(∀σ' H',N σ' H'->∃m',m'<m/\W (i+1) m' σ' H')/\∀x H',(kr K a).jC i H x H'->g x σ H' fun σ2 H2=>tb {D with nx:=N,ct:=N,bk:=D.nx} σ2 H2):=by
 refine⟨fun i m σ H=>m=xs.length-i/\i<=xs.length/\Pv i σ H,⟨xs.length,by simp,Nat.zero_le _,h0⟩,?_⟩
 rintro i m σ H ⟨rfl,hi,p⟩
 have q:=hl i σ H hi p
 by_cases hlt:i<xs.length
 ·refine .inr ⟨⟨xs,xs[i],q,by simp[hlt]⟩,Pv (i+1),fun σ' H' p'=>⟨xs.length-(i+1),by omega,rfl,hlt,p'⟩,fun x H' y=>?_⟩
  obtain⟨e,y⟩:=y
  subst e
  exact hs i x σ _ (y xs q) p
 ·have e:i=xs.length:=by omega
  subst e
  exact .inl ⟨⟨xs,q,Nat.le_refl _⟩,hd σ H p⟩
theorem xq{lo:Int}{n:Nat}{g:TG}{tb:TS}{D:Ends}{σ:St}{H:Hp}(Pv:Nat->St->Hp->Prop)(h0:Pv 0 σ H)
  (hs:∀i σ H,i<n->Pv i σ H->g (.int (lo+i)) σ H fun σ2 H2=>tb {D with nx:=Pv (i+1),ct:=Pv (i+1),bk:=D.nx} σ2 H2) (hd:∀σ H,Pv n σ H->D.nx σ H):
  ∃W:Nat->Nat->St->Hp->Prop,(∃m,W 0 m σ H)/\∀i m σ H,W i m σ H->
   ((gc lo n).stop i H/\D.nx σ H)\/((gc lo n).go i H/\∃N:St->Hp->Prop,(∀σ' H',N σ' H'->∃m',m'<m/\W (i+1) m' σ' H')/\∀x H',(gc lo n).jC i H x H'->g x σ H' fun σ2 H2=>tb {D with nx:=N,ct:=N,bk:=D.nx} σ2 H2):=by
 refine⟨fun i m σ H=>m=n-i/\i<=n/\Pv i σ H,⟨n,by simp,Nat.zero_le _,h0⟩,?_⟩
 rintro i m σ H ⟨rfl,hi,p⟩
 by_cases hlt:i<n
 ·refine .inr ⟨hlt,Pv (i+1),fun σ' H' p'=>⟨n-(i+1),by omega,rfl,hlt,p'⟩,fun x H' y=>?_⟩
  obtain⟨e,y⟩:=y
  subst e y
  exact hs i σ _ hlt p
 ·have e:i=n:=by omega
  subst e
  exact .inl ⟨Nat.le_refl _,hd σ H p⟩
theorem UJ{c:TT}{tb:TS}{D:Ends}{σ:St}{H:Hp}(Pv:St->Hp->Prop)(μ:St->Hp->Nat)(h0:Pv σ H)
  (hs:∀σ H,Pv σ H->c σ H fun b H1=>if b=true then tb {D with nx:=fun σ' H'=>Pv σ' H'/\μ σ' H'<μ σ H,ct:=fun σ' H'=>Pv σ' H'/\μ σ' H'<μ σ H,bk:=D.nx} σ H1 else D.nx σ H1)
  (mono:∀σ H Q Q',(∀b H1,Q b H1->Q' b H1)->c σ H Q->c σ H Q'):wC c tb D σ H:=by
 refine⟨fun m σ H=>m=μ σ H/\Pv σ H,⟨_,rfl,h0⟩,?_⟩
 rintro m σ H ⟨rfl,p⟩
 refine mono σ H _ _ (fun b H1 q=>?_) (hs σ H p)
 cases b with
 |true=>exact⟨_,fun σ' H' ⟨p',l⟩=>⟨_,l,rfl,p'⟩,q⟩
 |false=>exact q
abbrev R2:=V->V->Hp->VK->Prop
def cE(X:Cx)(f:Value->Value->Sem Value)(r:R2):Prop:=
 ∀(pins:List (Addr×Obj)) (s:Shared) (σ:St) (H:Hp) (x y:V) (v u:Value) (Q:VK),Inv X pins σ H s->RelV x v->RelV y u->r x y H Q->
  wpAny (model X.prog X.w) X.A (f v u) (EP X pins σ Q) X.xe s
def tD(X:Cx)(f:Value->Sem Value)(r:V->Hp->VK->Prop):Prop:=
 ∀(pins:List (Addr×Obj)) (s:Shared) (σ:St) (H:Hp) (x:V) (v:Value) (Q:VK),Inv X pins σ H s->RelV x v->r x H Q->
  wpAny (model X.prog X.w) X.A (f v) (EP X pins σ Q) X.xe s
def dG(X:Cx)(f:Value)(r:List V->Hp->VK->Prop):Prop:=
 ∀(pins:List (Addr×Obj)) (s:Shared) (σ:St) (H:Hp) (xs:List V) (us:List Value) (Q:VK),Inv X pins σ H s->Vals xs us->r xs H Q->
  wpAny (model X.prog X.w) X.A (call f us) (EP X pins σ Q) X.xe s
def HM(X:Cx)(r:V->Hp->(Bool->Hp->Prop)->Prop):Prop:=
 ∀(pins:List (Addr×Obj)) (s:Shared) (σ:St) (H:Hp) (x:V) (v:Value) (Q:Bool->Hp->Prop),Inv X pins σ H s->RelV x v->r x H Q->
  wpAny (model X.prog X.w) X.A (truthy v) (TP X pins σ Q) X.xe s
def cD(r:R2)(ta tb:TE):TE:=fun σ H Q=>ta σ H fun x H1=>tb σ H1 fun y H2=>r x y H2 Q
def vf(r:V->Hp->VK->Prop)(ta:TE):TE:=fun σ H Q=>ta σ H fun x H1=>r x H1 Q
def rI(C:Int->Int->Prop)(g:Int->Int->V):R2:=fun x y H Q=>∃i j,x= .int i/\y= .int j/\C i j/\Q (g i j) H
def fK(g:Int->Int->V):R2:=fun x y H Q=>∃i j,x= .int i/\y= .int j/\Q (g i j) H
def rU(g:Int->V):V->Hp->VK->Prop:=fun x H Q=>∃i,x= .int i/\Q (g i) H
section
variable{X:Cx}{a b c:Expr}{ta tb tc:TE}{pos:Pos}
theorem xw(ha:PE X a ta)(hb:PE X b tb){pins:List (Addr×Obj)}{s:Shared}{σ:St}{H:Hp}{R:V->V->Hp->Prop}(I:Inv X pins σ H s)
  (h:ta σ H fun x H1=>tb σ H1 fun y H2=>R x y H2) {Q:Value->Shared->Prop} {f:Value->Value->Sem Value}
  (hf:∀v u s2 x y H2,Inv X pins σ H2 s2->RelV x v->RelV y u->R x y H2->wpAny (model X.prog X.w) X.A (f v u) Q X.xe s2):
  wpAny (model X.prog X.w) X.A (eval a X.env) (fun v s₁=>wpAny (model X.prog X.w) X.A (eval b X.env) (fun u s₂=>wpAny (model X.prog X.w) X.A (f v u) Q X.xe s₂) X.xe s₁) X.xe s:=by
 refine aK (ha pins s σ H _ I h) fun v s1 ⟨x,H1,I1,r1,q1⟩=>?_
 refine aK (hb pins s1 σ H1 _ I1 q1) fun u s2 ⟨y,H2,I2,r2,q2⟩=>?_
 exact hf v u s2 x y H2 I2 r1 r2 q2
theorem aD{op:Operator}{r:R2}(ho:cE X (binaryOp op) r)(ha:PE X a ta)(hb:PE X b tb):PE X (.BinOp a op b pos) (cD r ta tb):=by
 intro pins s σ H Q I h
 exact wpAny_BinOp (xw ha hb I h fun v u s2 x y H2 I2 rx ry q=>ho pins s2 σ H2 x y v u Q I2 rx ry q)
theorem qG{op:UnaryOp}{r:V->Hp->VK->Prop}(ho:tD X (unaryOp op) r)(ha:PE X a ta):PE X (.UnaryOp op a pos) (vf r ta):=by
 intro pins s σ H Q I h
 exact UnaryOp_ (aK (ha pins s σ H _ I h) fun v s1 ⟨x,H1,I1,r1,q1⟩=>ho pins s1 σ H1 x v Q I1 r1 q1)
theorem pJ{f:Value->Value->Sem Value}{C:Int->Int->Prop}{g:Int->Int->Int}
  (rule:∀(i j:Int) (t u:Tok) (s:Shared) (Q:Value->Shared->Prop) (E:Value->Shared->Prop),C i j->Q (.int (g i j) s.toks) {s with toks:=s.toks+1}->wpAny (model X.prog X.w) X.A (f (.int i t) (.int j u)) Q E s):
  cE X f (rI C fun i j=> .int (g i j)):=by
 intro pins s σ H x y v u Q I rx ry h
 obtain⟨i,j,rfl,rfl,hc,q⟩:=h
 obtain⟨t,rfl⟩:=rx
 obtain⟨t',rfl⟩:=ry
 exact rule i j t t' s _ _ hc ⟨.int (g i j),H,I.tok _,⟨_,rfl⟩,q⟩
theorem Ed{f:Value->Value->Sem Value}{g:Int->Int->Int}
  (rule:∀(i j:Int) (t u:Tok) (s:Shared) (Q:Value->Shared->Prop) (E:Value->Shared->Prop),Q (.int (g i j) s.toks) {s with toks:=s.toks+1}->wpAny (model X.prog X.w) X.A (f (.int i t) (.int j u)) Q E s):
  cE X f (fK fun i j=> .int (g i j)):=by
 intro pins s σ H x y v u Q I rx ry h
 obtain⟨i,j,rfl,rfl,q⟩:=h
 obtain⟨t,rfl⟩:=rx
 obtain⟨t',rfl⟩:=ry
 exact rule i j t t' s _ _ ⟨.int (g i j),H,I.tok _,⟨_,rfl⟩,q⟩
theorem qd{f:Value->Value->Sem Value}{g:Int->Int->Bool}
  (rule:∀(i j:Int) (t u:Tok) (s:Shared) (Q:Value->Shared->Prop) (E:Value->Shared->Prop),Q (.bool (g i j)) s->wpAny (model X.prog X.w) X.A (f (.int i t) (.int j u)) Q E s):
  cE X f (fK fun i j=> .bl (g i j)):=by
 intro pins s σ H x y v u Q I rx ry h
 obtain⟨i,j,rfl,rfl,q⟩:=h
 obtain⟨t,rfl⟩:=rx
 obtain⟨t',rfl⟩:=ry
 exact rule i j t t' s _ _ ⟨.bl (g i j),H,I,rfl,q⟩
def yz(i j:Int):Prop:=0<=j/\j<=1000000/\i.natAbs<2^64
def rE(i j:Int):Prop:=(-(2^64)<i/\i<2^64)\/(-(2^64)<j/\j<2^64)
theorem rE.ok{i j:Int}(h:rE i j):IntMulOk i j:=by
 rcases h with ⟨h1,h2⟩|⟨h1,h2⟩
 ·exact .of_left (intBits_le_64 h1 h2)
 ·exact .of_right (intBits_le_64 h1 h2)
theorem dJ:cE X (binaryOp .Add) (fK fun i j=> .int (i+j)):=Ed fun _ _ _ _ _ _ _ q=>add_int q
theorem iP:cE X (binaryOp .Sub) (fK fun i j=> .int (i-j)):=Ed fun _ _ _ _ _ _ _ q=>sub_int q
theorem gk:cE X (binaryOp .Mod) (rI (fun _ j=>0<j) fun i j=> .int (i%j)):=pJ fun i j _ _ _ _ _ hc q=>by
 have h1:(0:Int)<j:=hc
 exact mod_int' (by omega) (by rw[Int.fmod_eq_emod_of_nonneg i (by omega)];exact q)
theorem Dq:cE X (binaryOp .Pow) (rI yz fun i j=> .int (i^j.toNat)):=pJ fun _ _ _ _ _ _ _ hc q=>pow_int_small hc.1 hc.2.1 hc.2.2 q
theorem Jp{f:Value->Sem Value}{g:Int->Int}
  (rule:∀(i:Int) (t:Tok) (s:Shared) (Q:Value->Shared->Prop) (E:Value->Shared->Prop),Q (.int (g i) s.toks) {s with toks:=s.toks+1}->wpAny (model X.prog X.w) X.A (f (.int i t)) Q E s):
  tD X f (rU fun i=> .int (g i)):=by
 intro pins s σ H x v Q I rx h
 obtain⟨i,rfl,q⟩:=h
 obtain⟨t,rfl⟩:=rx
 exact rule i t s _ _ ⟨.int (g i),H,I.tok _,⟨_,rfl⟩,q⟩
theorem rK:tD X (unaryOp .USub) (rU fun i=> .int (-i)):=Jp fun _ _ _ _ _ q=>neg_int q
end
def tZ:V->V->Bool
 | .aE, .aE=>true| .aE, .int _=>true| .int _, .aE=>true| .aE, .bl _=>true| .bl _, .aE=>true| .aE, .str _=>true| .str _, .aE=>true
 | .int _, .int _=>true| .bl _, .bl _=>true| .str _, .str _=>true| .gz _, .gz _=>true
 | .int _, .str _=>true| .str _, .int _=>true| .bl _, .str _=>true| .str _, .bl _=>true
 |_,_=>false
def sG:R2:=fun x y H Q=>tZ x y=true/\Q (.bl (decide (x=y))) H
def v8:R2:=fun x y H Q=>tZ x y=true/\Q (.bl (!decide (x=y))) H
theorem BO{i j:Int}:decide (V.int i=V.int j)=(i==j):=by
 rw[Bool.eq_iff_iff]
 simp
theorem Al{i j:Bool}:decide (V.bl i=V.bl j)=(i==j):=by
 rw[Bool.eq_iff_iff]
 simp
theorem En{i j:Str}:decide (V.str i=V.str j)=(i==j):=by
 rw[Bool.eq_iff_iff]
 simp
theorem Dn{i j:Array UInt8}:decide (V.gz i=V.gz j)=(i.toList==j.toList):=by
 rw[Bool.eq_iff_iff]
 cases i
 cases j
 simp
section
variable{X:Cx}{a b c:Expr}{ta tb tc:TE}{pos:Pos}
theorem bV{pins:List (Addr×Obj)}{σ:St}{H:Hp}{s:Shared}{Q:VK}{k k':Bool}(I:Inv X pins σ H s)(q:Q (.bl k) H)(e:k=k'):EP X pins σ Q (.bool k') s:=by
 subst e
 exact⟨.bl k,H,I,rfl,q⟩
theorem fX:cE X (compareOp .Eq) sG:=by
  intro pins s σ H x y v u Q I rx ry h
  obtain⟨hs,q⟩:=h
  cases x with
  | aE =>
    cases rx
    cases y with
    |aE=>cases ry;exact PySem.EqNone.eq_none_none (bV I q (by simp))
    |bl j=>cases ry;exact PySem.EqNone.eq_none_bool (bV I q (by simp))
    |int j=>obtain⟨t',rfl⟩:=ry;exact PySem.EqNone.eq_none_int (bV I q (by simp))
    |str j=>obtain⟨t',rfl⟩:=ry;exact PySem.EqNone.eq_none_str (bV I q (by simp))
    |_=>exact absurd (show false=true from hs) Bool.false_ne_true
  | bl i =>
    cases rx
    cases y with
    |aE=>cases ry;exact PySem.EqNone.eq_bool_none (bV I q (by simp))
    |bl j=>cases ry;exact eq_bool (bV I q Al)
    |str j=>obtain⟨t',rfl⟩:=ry;exact PySem.EqMixed.eq_bool_str (bV I q (by simp))
    |_=>exact absurd (show false=true from hs) Bool.false_ne_true
  | int i =>
    obtain⟨t,rfl⟩:=rx
    cases y with
    |aE=>cases ry;exact PySem.EqNone.eq_int_none (bV I q (by simp))
    |int j=>obtain⟨t',rfl⟩:=ry;exact eq_int (bV I q BO)
    |str j=>obtain⟨t',rfl⟩:=ry;exact PySem.EqMixed.eq_int_str (bV I q (by simp))
    |_=>exact absurd (show false=true from hs) Bool.false_ne_true
  | str i =>
    obtain⟨t,rfl⟩:=rx
    cases y with
    |aE=>cases ry;exact PySem.EqNone.eq_str_none (bV I q (by simp))
    |bl j=>cases ry;exact PySem.EqMixed.eq_str_bool (bV I q (by simp))
    |int j=>obtain⟨t',rfl⟩:=ry;exact PySem.EqMixed.eq_str_int (bV I q (by simp))
    |str j=>obtain⟨t',rfl⟩:=ry;exact eq_str (bV I q En)
    |_=>exact absurd (show false=true from hs) Bool.false_ne_true
  | gz i =>
    obtain⟨t,rfl⟩:=rx
    cases y with
    |gz j=>obtain⟨t',rfl⟩:=ry;exact PySem.W.eq_bytes (bV I q Dn)
    |_=>exact absurd (show false=true from hs) Bool.false_ne_true
  |_=>cases y<;>exact absurd (show false=true from hs) Bool.false_ne_true
theorem gF:cE X (compareOp .NotEq) v8:=by
  intro pins s σ H x y v u Q I rx ry h
  obtain⟨hs,q⟩:=h
  cases x with
  | aE =>
    cases rx
    cases y with
    |aE=>cases ry;exact PySem.EqNone.ne_none_none (bV I q (by simp))
    |bl j=>cases ry;exact PySem.EqNone.ne_none_bool (bV I q (by simp))
    |int j=>obtain⟨t',rfl⟩:=ry;exact PySem.EqNone.ne_none_int (bV I q (by simp))
    |str j=>obtain⟨t',rfl⟩:=ry;exact PySem.EqNone.ne_none_str (bV I q (by simp))
    |_=>exact absurd (show false=true from hs) Bool.false_ne_true
  | bl i =>
    cases rx
    cases y with
    |aE=>cases ry;exact PySem.EqNone.ne_bool_none (bV I q (by simp))
    |bl j=>cases ry;exact ne_bool (bV I q (congrArg not Al))
    |str j=>obtain⟨t',rfl⟩:=ry;exact PySem.EqMixed.ne_bool_str (bV I q (by simp))
    |_=>exact absurd (show false=true from hs) Bool.false_ne_true
  | int i =>
    obtain⟨t,rfl⟩:=rx
    cases y with
    |aE=>cases ry;exact PySem.EqNone.ne_int_none (bV I q (by simp))
    |int j=>obtain⟨t',rfl⟩:=ry;exact ne_int (bV I q (congrArg not BO))
    |str j=>obtain⟨t',rfl⟩:=ry;exact PySem.EqMixed.ne_int_str (bV I q (by simp))
    |_=>exact absurd (show false=true from hs) Bool.false_ne_true
  | str i =>
    obtain⟨t,rfl⟩:=rx
    cases y with
    |aE=>cases ry;exact PySem.EqNone.ne_str_none (bV I q (by simp))
    |bl j=>cases ry;exact PySem.EqMixed.ne_str_bool (bV I q (by simp))
    |int j=>obtain⟨t',rfl⟩:=ry;exact PySem.EqMixed.ne_str_int (bV I q (by simp))
    |str j=>obtain⟨t',rfl⟩:=ry;exact ne_str (bV I q (congrArg not En))
    |_=>exact absurd (show false=true from hs) Bool.false_ne_true
  | gz i =>
    obtain⟨t,rfl⟩:=rx
    cases y with
    |gz j=>obtain⟨t',rfl⟩:=ry;exact PySem.W.ne_bytes (bV I q (congrArg not Dn))
    |_=>exact absurd (show false=true from hs) Bool.false_ne_true
  |_=>cases y<;>exact absurd (show false=true from hs) Bool.false_ne_true
theorem zW:cE X (compareOp .Lt) (fK fun i j=> .bl (decide (i<j))):=qd fun _ _ _ _ _ _ _ q=>lt_int q
theorem EK:cE X (compareOp .LtE) (fK fun i j=> .bl (decide (i<=j))):=qd fun _ _ _ _ _ _ _ q=>le_int q
theorem nh:cE X (compareOp .Gt) (fK fun i j=> .bl (decide (j<i))):=qd fun _ _ _ _ _ _ _ q=>gt_int q
theorem Sj:cE X (compareOp .GtE) (fK fun i j=> .bl (decide (j<=i))):=qd fun _ _ _ _ _ _ _ q=>ge_int q
theorem Hu:cE X (compareOp .Is) (fun x y H Q=>y= .aE/\Q (.bl (decide (x= .aE))) H):=by
 intro pins s σ H x y v u Q I rx ry h
 obtain⟨rfl,q⟩:=h
 cases ry
 refine is_none_gen (bV I q ?_)
 cases x<;>first
  |(cases rx;rfl)
  |(obtain⟨t,rfl⟩:=rx;rfl)
theorem RG:cE X (compareOp .IsNot) (fun x y H Q=>y= .aE/\Q (.bl (!decide (x= .aE))) H):=by
 intro pins s σ H x y v u Q I rx ry h
 obtain⟨rfl,q⟩:=h
 cases ry
 refine isnot_none_gen (bV I q ?_)
 cases x<;>first
  |(cases rx;rfl)
  |(obtain⟨t,rfl⟩:=rx;rfl)
theorem aP(b:Expr){op:CmpOp}(h:op≠ .In:=by decide)(h2:op≠ .NotIn:=by decide):behindInMarks op b=false:=by
 have e1:(op==CmpOp.In)=false:=by cases op<;>first|rfl|exact absurd rfl h
 have e2:(op==CmpOp.NotIn)=false:=by cases op<;>first|rfl|exact absurd rfl h2
 cases b<;>simp[behindInMarks,e1,e2]
theorem oE{op:CmpOp}{r:R2}(ho:cE X (compareOp op) r)(ha:PE X a ta)(hb:PE X b tb)(hm:behindInMarks op b=false):PE X (.Compare a [op] [b] pos) (cD r ta tb):=by
 intro pins s σ H Q I h
 exact wpAny_Compare1 (xw ha hb I h fun v u s2 x y H2 I2 rx ry q=>ho pins s2 σ H2 x y v u Q I2 rx ry q) hm
def uT(t:TE):TT:=fun σ H Q=>t σ H fun x H'=>∃k,x= .bl k/\Q k H'
theorem aU{op:CmpOp}{r:R2}(ho:cE X (compareOp op) r)(ha:PE X a ta)(hb:PE X b tb)(hm:behindInMarks op b=false):PT X (.Compare a [op] [b] pos) (uT (cD r ta tb)):=by
 intro pins s σ H Q I h
 refine wpAny_isTrue_Compare1 (aK (ha pins s σ H _ I h) fun v s1 ⟨x,H1,I1,r1,q1⟩=>aK (hb pins s1 σ H1 _ I1 q1) fun u s2 ⟨y,H2,I2,r2,q2⟩=>
  aK (ho pins s2 σ H2 x y v u _ I2 r1 r2 q2) fun c s3 ⟨z,H3,I3,r3,k,e,q3⟩=>?_) hm
 subst e
 cases r3
 exact wpAny_truthy_bool ⟨H3,I3,q3⟩
def xM(K:PySem.W.Frag)(x:V)(H:Hp)(k:Bool):Prop:=
 match x with
 | .aE=>k=false
 | .bl b=>k=b
 | .int i=>k=(i !=0)
 | .str y=>y.length<=sizeLine/\k=((y.length:Int) !=0)
 | .gz y=>y.size<=sizeLine/\k=((y.size:Int) !=0)
 | .ref p=>(∃xs,aM K H p xs/\k=!xs.isEmpty)\/(∃xs,dP K H p xs/\k=!xs.isEmpty)\/∃kvs,H p=some (.dK kvs)/\k=!kvs.isEmpty
 |_=>False
theorem N6{κ:Type}{kvs:List (κ×V)}{vs:List (κ×Value)}(r:KV kvs vs):(!vs.isEmpty)=!kvs.isEmpty:=by
 cases r<;>rfl
theorem Bf{xs:List V}{its:List Value}(r:Vals xs its):(!its.toArray.isEmpty)=!xs.isEmpty:=by
 cases r<;>simp
theorem mY:(sizeLine:Nat)<2^63:=by rw[sizeLine_eq];decide
theorem JD:HM X (fun x H Q=>∃k,xM X.K x H k/\Q k H):=by
  intro pins s σ H x v Q I rx h
  obtain⟨k,e,q⟩:=h
  have hl:=mY
  have hs:sizeLine=16777216:=sizeLine_eq
  cases x with
  | aE =>
    cases rx
    have e':k=false:=e
    subst e'
    exact truthy_none ⟨H,I,q⟩
  | bl b =>
    cases rx
    have e':k=b:=e
    subst e'
    exact wpAny_truthy_bool ⟨H,I,q⟩
  | int i =>
    obtain⟨t,rfl⟩:=rx
    have e':k=(i !=0):=e
    subst e'
    exact PySem.P.truthy_int ⟨H,I,q⟩
  | str y =>
    obtain⟨t,rfl⟩:=rx
    obtain⟨hy,e'⟩:y.length<=sizeLine/\k=((y.length:Int) !=0):=e
    subst e'
    exact PySem.P.truthy_str (by omega) ⟨H,I.tok _,q⟩
  | gz y =>
    obtain⟨t,rfl⟩:=rx
    obtain⟨hy,e'⟩:y.size<=sizeLine/\k=((y.size:Int) !=0):=e
    subst e'
    exact PySem.W.truthy_bytes (by omega) ⟨H,I.tok _,q⟩
  | ref p =>
    cases rx
    have e':(∃xs,aM X.K H p xs/\k=!xs.isEmpty)\/(∃xs,dP X.K H p xs/\k=!xs.isEmpty)\/∃kvs,H p=some (.dK kvs)/\k=!kvs.isEmpty:=e
    rcases e' with ⟨xs,hx,e'⟩|⟨xs,hx,e'⟩|⟨kvs,hx,e'⟩
    · subst e'
      obtain⟨its,r,pl,hz⟩:=I.list hx
      have hlen:=r.length
      exact wpAny_truthy_list pl.isList (by simp only[List.size_toArray];omega) ⟨H,I.tok _,by rw[Bf r];exact q⟩
    · subst e'
      obtain⟨its,r,pl,hz⟩:=I.tuple hx
      have hlen:=r.length
      exact truthy_tuple pl (by simp only[List.size_toArray];omega) ⟨H,I.tok _,by rw[Bf r];exact q⟩
    · subst e'
      obtain⟨hz,hS,vs,r,m⟩:kvs.length<=sizeLine/\(p==sysModules)=false/\∃vs,KV kvs vs/\s.heap.DictOf (cJ X.prog X.w) p vs:=I.hok p _ hx
      have hlen:kvs.length=vs.length:=Paired.length r
      exact wpAny_truthy_dict hS m (by omega) ⟨H,I.tok _,by rw[N6 r];exact q⟩
  |_=>exact(show False from e).elim
theorem Kd(ha:PE X a ta)(he:∀whole,isTrue a X.env whole=(do let v<-whole;standAt a.pos;holding [v] (truthy v))):
  PT X a (fun σ H Q=>ta σ H fun x H'=>∃k,xM X.K x H' k/\Q k H'):=by
 intro pins s σ H Q I h
 exact isTrue_plain (aK (ha pins s σ H _ I h) fun v s1 ⟨x,H1,I1,r1,q1⟩=>JD pins s1 σ H1 x v Q I1 r1 q1) (he _)
theorem vals1{x:V}{us:List Value}(r:Vals [x] us):∃u,us=[u]/\RelV x u:=by
 cases r with
 |cons r1 r2=>cases r2;exact⟨_,rfl,r1⟩
theorem vals2{x y:V}{us:List Value}(r:Vals [x,y] us):∃u w',us=[u,w']/\RelV x u/\RelV y w':=by
  cases r with
  | cons r1 r2 =>
    cases r2 with
    |cons r3 r4=>cases r4;exact⟨_,_,rfl,r1,r3⟩
theorem Rr:dG X (.builtin "abs") (fun xs H Q=>∃i,xs=[.int i]/\Q (.int (if i<0 then-i else i)) H):=by
 intro pins s σ H xs us Q I r h
 obtain⟨i,rfl,q⟩:=h
 obtain⟨u,rfl,t,rfl⟩:=vals1 r
 exact call_abs_int fun u tk=>⟨.int (if i<0 then-i else i),H,I.tok _,⟨_,rfl⟩,q⟩
theorem Hr(hc:X.calm=true):dG X (.builtin "min") (fun xs H Q=>∃i j,xs=[.int i, .int j]/\Q (.int (if j<i then j else i)) H):=by
 intro pins s σ H xs us Q I r h
 obtain⟨i,j,rfl,q⟩:=h
 obtain⟨u,w',rfl,⟨t,rfl⟩,⟨t',rfl⟩⟩:=vals2 r
 refine min_two_ints (I.ok.hd hc) fun h' tk k=>⟨_,H,I.kept k,?_,q⟩
 by_cases hj:j<i
 ·rw[if_pos hj,if_pos hj];exact⟨_,rfl⟩
 ·rw[if_neg hj,if_neg hj];exact⟨_,rfl⟩
theorem Mc:dG X (.type "int") (fun xs H Q=>(∃i,xs=[.int i]/\Q (.int i) H)\/∃k,xs=[.bl k]/\Q (.int (if k then 1 else 0)) H):=by
 intro pins s σ H xs us Q I r h
 rcases h with ⟨i,rfl,q⟩|⟨k,rfl,q⟩
 ·obtain⟨u,rfl,t,rfl⟩:=vals1 r
  exact call_int_int ⟨.int i,H,I,⟨_,rfl⟩,q⟩
 ·obtain⟨u,rfl,r1⟩:=vals1 r
  cases r1
  exact call_int_bool ⟨.int (if k then 1 else 0),H,I.tok _,⟨_,rfl⟩,q⟩
end
structure uX(h:Heap)(x dx C:Addr)(mA:Str->Option Value):Prop where
 obj:h.get? x=some (PySem.W.instObj C dx)
 ns:h.Ns1 dx mA
 ne:dx≠x
theorem Kn{h:Heap}{dx:Addr}{mA:Str->Option Value}(n:h.Ns1 dx mA):∃od,h.get? dx=some od/\∀name,PySem.W.lookIn name od=some (mA name):=by
 obtain⟨o,es,ep,ho,hd,hk,_,hm⟩:=n
 refine⟨o,ho,fun name=>?_⟩
 have e:=hm name
 unfold nsFind findBy at e
 rw[<-Array.find?_toList] at e
 unfold PySem.W.lookIn
 rw[hd]
 dsimp only
 split
 ·rename_i y q
  rw[q] at e
  exact congrArg some e
 ·rename_i q
  rw[q] at e
  have a:es.toList.any (·.refKey)=false:=by
   rw[List.any_eq_false]
   intro y hy
   obtain⟨z,t,hkey⟩:=hk y (Array.mem_toList_iff.mp hy)
   simp[DictEntry.refKey,hkey]
  have a':¬es.toList.any (·.refKey)=true:=by rw[a];exact Bool.false_ne_true
  rw[if_neg a']
  exact congrArg some e
theorem uX.look{h:Heap}{x dx C:Addr}{mA:Str->Option Value}(I:uX h x dx C mA):∃od,PySem.W.InstAt h x (PySem.W.instObj C dx) C (some od)/\∀name,PySem.W.lookIn name od=some (mA name):=
 let ⟨od,ho,hl⟩:=Kn I.ns
 ⟨od,⟨I.obj,rfl,rfl,ho⟩,hl⟩
theorem gZ.some_of{v:V}{o:Option Value}(r:gZ (some v) o):∃u,o=some u/\RelV v u:=by
 cases o with
 |none=>exact(show False from r).elim
 |some u=>exact⟨u,rfl,r⟩
section
variable{P:Program}{w:World}{H H':Hp}{h h':Heap}{a C dx:Addr}{fs fs':List (Str×V)}
theorem IE(hok:cB P w H h)(e:H a=some (.ins C dx fs)):∃mA,uX h a dx C mA/\(∀f,gZ (fs.lookup f) (mA f))/\PySem.Within mA (fs.map (·.1))/\fs.length<=1000/\H dx=some (.own a):=by
 obtain⟨d,z,ne,ob,mA,n,r,q⟩:=(show aV P w H h a (.ins C dx fs) from hok a _ e)
 exact⟨mA,⟨ob,n,ne⟩,r,q,z,d⟩
end
structure wj(K:PySem.W.Frag)(C:Addr):Prop where
 pg:PySem.W.plainGet K C Str.empty=true
 hd:PySem.W.hasDictIn K C=true
 po:PySem.W.plainOver K C=true
 sa:PySem.W.findIn K (.ref C) "__setattr__"=some (some (.builtin "object.__setattr__"))
theorem wj.get{K:PySem.W.Frag}{C:Addr}(c:wj K C)(f:Str):PySem.W.plainGet K C f=true:=c.pg
section
variable{X:Cx}{pins:List (Addr×Obj)}{σ:St}{H:Hp}{s:Shared}{A:Around}{E:Value->Shared->Prop}{Q:Value->Shared->Prop}{c:Value}{b:Bool}
inductive fR(K:PySem.W.Frag)(H:Hp):V->Value->Prop where
 |aE:fR K H .aE (.type "NoneType")
 |bl (x:Bool):fR K H (.bl x) (.type "bool")
 |int (i:Int):fR K H (.int i) (.type "int")
 |str (x:Str):fR K H (.str x) (.type "str")
 |jf (x:UInt64):fR K H (.jf x) (.type "float")
 |lst {a:Addr} {xs:List V} (e:H a=some (.lst xs)):fR K H (.ref a) (.type "list")
 |bu {a:Addr} {o:Obj} {xs:List V} (e:H a=some (.bu o (.lst xs))):fR K H (.ref a) (.type "list")
 |tup {a:Addr} {xs:List V} (e:H a=some (.tup xs)):fR K H (.ref a) (.type "tuple")
 |dK {a:Addr} {kvs:List (Key×V)} (e:H a=some (.dK kvs)):fR K H (.ref a) (.type "dict")
 |dT {a:Addr} {kvs:List (List Key×V)} (e:H a=some (.dT kvs)):fR K H (.ref a) (.type "dict")
 |BE {a:Addr} {o:Obj} {kvs:List (Key×V)} (e:H a=some (.bu o (.dK kvs))):fR K H (.ref a) (.type "dict")
 | ins {a C dx : Addr} {fs : List (Str × V)} (e : H a = some (.ins C dx fs)) (cl : wj K C) (ha : PySem.W.findIn K (.ref C) "__class__" = some (some (.builtin "object.__class__")))
   (hn:PySem.W.specialIn K (.builtin "object.__class__") "__get__"=some (some (.builtin "getset_descriptor.__get__"))) (htk:PySem.W.takesIn K (.builtin "object.__class__")=some true)
   (hm:PySem.W.mroIn K C (.type "object")=some true):fR K H (.ref a) (.ref C)
theorem Og{x:V}{u t:Value}(I:Inv X pins σ H s)(rx:RelV x u)(ty:fR X.K H x t)(e:PySem.W.kitOne X.K t c=some b)(h:∀tk,Q (.bool b) {s with toks:=tk}):
    wpAny (model X.prog X.w) A (call (.builtin "isinstance") [u,c]) Q E s:=by
  cases ty with
  |aE=>cases (show u=Value.none from rx);exact PySem.W.kia_one PySem.W.kitx_none I.cV True.intro e (fun z=>nomatch z) h
  |bl y=>cases (show u=Value.bool y from rx);exact PySem.W.kia_one PySem.W.kitx_bool I.cV True.intro e (fun z=>nomatch z) h
  |int i=>obtain⟨t,q⟩:=(show∃t,u=Value.int i t from rx);cases q;exact PySem.W.kia_one PySem.W.kitx_int I.cV True.intro e (fun z=>nomatch z) h
  |str y=>obtain⟨t,q⟩:=(show∃t,u=Value.str y t from rx);cases q;exact PySem.W.kia_one PySem.W.kitx_str I.cV True.intro e (fun z=>nomatch z) h
  |jf y=>obtain⟨t,q⟩:=(show∃t,u=Value.float y t from rx);cases q;exact PySem.W.kia_one PySem.W.kitx_float I.cV True.intro e (fun z=>nomatch z) h
  | @lst a xs ea =>
    cases (show u=Value.ref a from rx)
    obtain⟨_,_,n,_,h1⟩:=(show aV X.prog X.w H s.heap a (.lst xs) from I.hok a _ ea)
    exact PySem.W.kia_one PySem.W.kitx_list I.cV ⟨_,h1,rfl⟩ e (fun z=>nomatch z) h
  | @bu a ob xs ea =>
    cases (show u=Value.ref a from rx)
    obtain⟨_,_,_,n,_,h1⟩:=(show aV X.prog X.w H s.heap a (.bu ob (.lst xs)) from I.hok a _ ea)
    exact PySem.W.kia_one PySem.W.kitx_list I.cV ⟨_,h1,rfl⟩ e (fun z=>nomatch z) h
  | @tup a xs ea =>
    cases (show u=Value.ref a from rx)
    obtain⟨_,_,_,p⟩:=(show aV X.prog X.w H s.heap a (.tup xs) from I.hok a _ ea)
    obtain⟨o,h1,h2,_⟩:=p
    exact PySem.W.kia_one PySem.W.kitx_tuple I.cV ⟨o,h1,h2⟩ e (fun z=>nomatch z) h
  | @dK a kvs ea =>
    cases (show u=Value.ref a from rx)
    obtain⟨_,_,vs,_,p⟩:=(show aV X.prog X.w H s.heap a (.dK kvs) from I.hok a _ ea)
    obtain⟨o,es,ep,h1,h2,_⟩:=p
    exact PySem.W.kia_one PySem.W.kitx_dict I.cV ⟨o,h1,h2.1⟩ e (fun z=>nomatch z) h
  | @dT a kvs ea =>
    cases (show u=Value.ref a from rx)
    obtain⟨_,_,xs,_,o,es,ep,h1,h2,_⟩:=(show aV X.prog X.w H s.heap a (.dT kvs) from I.hok a _ ea)
    exact PySem.W.kia_one PySem.W.kitx_dict I.cV ⟨o,h1,h2.1⟩ e (fun z=>nomatch z) h
  | @BE a ob kvs ea =>
    cases (show u=Value.ref a from rx)
    obtain⟨_,_,_,vs,_,o,es,ep,h1,h2,_⟩:=I.hok a _ ea
    exact PySem.W.kia_one PySem.W.kitx_dict I.cV ⟨o,h1,h2.1⟩ e (fun z=>nomatch z) h
  | @ins a C dx fs ea cl ha hn htk hm =>
    cases (show u=Value.ref a from rx)
    obtain⟨mA,O,_⟩:=IE I.hok ea
    obtain⟨od,J,_⟩:=O.look
    exact PySem.W.kia_one (PySem.W.kitx_own (cl.get _) cl.hd ha hn htk hm) I.cV J e (fun z=>nomatch z) h
end
structure ez(k:Nat)(A:Around):Prop where
 hd:A.handled=none
 dp:A.depth+3*k+5<recursionLimit
 un:A.units+16*k+200<cLine
theorem ez.mono{j k:Nat}{A:Around}(r:ez k A)(h:j<=k):ez j A:=⟨r.hd,by have:=r.dp;omega,by have:=r.un;omega⟩
theorem ez.deeper{k:Nat}{A:Around}(r:ez (k+1) A)(env:Env):ez k (A.deeper env):=
 ⟨r.hd,by have:=r.dp;show A.depth+1+3*k+5<_;omega,by have:=r.un;show A.units+3+16*k+200<_;omega⟩
theorem ez.depth{k:Nat}{A:Around}(r:ez k A):A.depth<recursionLimit:=by have:=r.dp;omega
theorem ez.units{k:Nat}{A:Around}(r:ez k A):A.units+64<cLine:=by have:=r.un;omega
def bw:TA:=fun _ H Q=>Q [] H
def aQ(ta:TE)(tr:TA):TA:=fun σ H Q=>ta σ H fun x H1=>tr σ H1 fun xs H2=>Q (x::xs) H2
section
variable{X:Cx}{e:Expr}{es:List Expr}{te:TE}{t:TA}{pos:Pos}
theorem ai:PA X [] bw:=fun _ _ _ _ H Q I h=>Calls.spliced_nil ⟨[],H,I, .nil,h⟩
theorem aa(ha:PE X e te)(hr:PA X es t)(hs:starEach (e::es) X.env=(false,eval e X.env)::starEach es X.env:=by rfl):PA X (e::es) (aQ te t):=by
 intro pos pins s σ H Q I h
 rw[hs]
 show wpAny _ _ (spliced ((false,eval e X.env)::backTo pos (starEach es X.env))) _ _ s
 refine Calls.spliced_cons (aK (ha pins s σ H _ I h) fun u s1 ⟨x,H1,I1,r1,q1⟩=>?_)
 exact aK (hr pos pins s1 σ H1 _ I1 q1) fun us s2 ⟨xs,H2,I2,r2,q2⟩=>⟨x::xs,H2,I2, .cons r1 r2,q2⟩
def mP(t:TA):TE:=fun σ H Q=>t σ H fun xs H1=>xs.length<=sizeLine/\∀p,H1 p=none->Q (.ref p) (upd H1 p (.tup xs))
def jE(t:TA):TE:=fun σ H Q=>t σ H fun xs H1=>xs.length<=sizeLine/\∀p,H1 p=none->Q (.ref p) (upd H1 p (.lst xs))
theorem aX{x1}(h:PA X es t):PE X (.Tuple es x1 pos) (mP t):=by
 intro pins s σ H Q I hq
 refine wpAny_Tuple_spliced (aK (h pos pins s σ H _ I hq) fun us s1 ⟨xs,H1,I1,r,z,q⟩=>⟨by rw[<-r.length];exact z,?_⟩)
 have hf:H1 s1.heap.objs.size=none:=I1.hok.fresh (Nat.le_refl _)
 refine⟨.ref s1.heap.objs.size,upd H1 s1.heap.objs.size (.tup xs),I1.laid (t':=s1.toks) (fun b u e=>Heap.get?_push_of_some _ e) (Nat.le_refl _) ?_,rfl,q _ hf⟩
 exact⟨z,us,r,⟨_,Heap.get?_push_size _ rfl,rfl,_,rfl⟩⟩
theorem cW(h:PA X es t):PE X (.List es pos) (jE t):=by
 intro pins s σ H Q I hq
 refine wpAny_List_spliced (aK (h pos pins s σ H _ I hq) fun us s1 ⟨xs,H1,I1,r,z,q⟩=>⟨by rw[<-r.length];exact z,?_⟩)
 have hf:H1 s1.heap.objs.size=none:=I1.hok.fresh (Nat.le_refl _)
 refine⟨.ref s1.heap.objs.size,upd H1 s1.heap.objs.size (.lst xs),I1.laid (t':=s1.toks) (fun b u e=>Heap.get?_push_of_some _ e) (Nat.le_refl _) ?_,rfl,q _ hf⟩
 exact⟨z,us,0,r,Heap.get?_push_size _ rfl⟩
end
abbrev Sp:=List V->Hp->VK->XK->Prop
abbrev iJ:=List Env->Hp->Shared->XK->Value->Shared->Prop
structure pW(P:Program)(w:World)(K:PySem.W.Frag)(mg:Str->Option Value)(base:Heap)(A:Around)(outer:List Env)(s:Shared)(H:Hp):Prop where
 frames:A.frames=some outer
 mod:Mod K mg base
 bs:∀b o,base.get? b=some o->s.heap.get? b=some o/\H b=none
 jZ:base.objs.size<=s.heap.objs.size
 iy:s.heap.FunFrames base outer
 nj:∀b∈frs outer,H b=none
 hok:cB P w H s.heap
 bare:AllBare s.gens
def CE(outer:List Env)(P:Program)(w:World)(H:Hp)(s:Shared)(Q:VK)(u:Value)(s':Shared):Prop:=
 ∃v H',s'.os=s.os/\AllBare s'.gens/\Un (frs outer) [] H H' s.heap s'.heap/\cB P w H' s'.heap/\RelV v u/\Q v H'
def CR(CX:iJ)(outer:List Env)(P:Program)(w:World)(H:Hp)(s:Shared)(Q:VK)(E:XK)(r:Result)(s':Shared):Prop:=
 match r with
 | .ok (.ret u)=>CE outer P w H s Q u s'
 | .ok _=>False
 | .error e=>CX outer H s E e s'
structure bz(P:Program)(w:World)(K:PySem.W.Frag)(mg:Str->Option Value)(base:Heap)(CX:iJ)(k:Nat)(f:Addr)(fd:FuncData)(ps:List Str)(sp:Sp):Prop where
 len:∀vs H Q E,sp vs H Q E->vs.length=ps.length
 run:∀(A:Around) (outer:List Env) (s:Shared) (H:Hp) (args:Args) (us:List Value) (vs:List V) (Q:VK) (E:XK),ez k A->pW P w K mg base A outer s H->BindsTo s fd args (ps.zip us)->Vals vs us->sp vs H Q E->
  codeAny (model P w) A (.call (.ref f) args) (CR CX outer P w H s Q E) s
section
variable{X:Cx}{pins:List (Addr×Obj)}{σ:St}{H:Hp}{s s':Shared}
theorem Inv.Uo(I:Inv X pins σ H s):pW X.prog X.w X.K X.mg X.base X.A X.stack s H:=
 ⟨I.ok.frames,I.ok.mod,I.bs,Nat.le_trans I.ok.jZ I.sz,I.stack,I.BB,I.hok,I.bare⟩
theorem Inv.after{Q:VK}{u:Value}(I:Inv X pins σ H s)(h:CE X.stack X.prog X.w H s Q u s'):EP X pins σ Q u s':=by
 obtain⟨v,H',os,bare,un,hok,r,q⟩:=h
 obtain⟨hh,g,d,t,os'⟩:=s'
 obtain rfl:os'=s.os:=os
 exact⟨v,H',I.call (h':=hh) (g':=g) (d':=d) (t':=t) (ch:=[]) un hok bare (fun b z=>absurd z (by simp)),r,q⟩
end
def fu(sp:Sp)(jo:List V)(E:XK)(t:TA):TE:=fun σ H Q=>t σ H fun vs H1=>sp (vs++jo) H1 Q E
def Binds(K:PySem.W.Frag)(fd:FuncData)(ps:List Str)(ds:List Value):Prop:=
 ∀(s:Shared) (us:List Value),K.In s.heap->(us++ds).length=ps.length->BindsTo s fd ⟨us,[]⟩ (ps.zip (us++ds))
theorem Binds.all{K:PySem.W.Frag}{fd:FuncData}{ps:List Str}(h:∀us:List Value,us.length=ps.length->bindArgs fd ⟨us,[]⟩=pure (ps.zip us)):Binds K fd ps []:=fun s us _ hl=>by
 rw[List.append_nil] at hl⊢
 exact .of_eq (h us hl)
def Passes(CX:iJ)(X:Cx)(E:XK):Prop:=∀(pins:List (Addr×Obj)) (σ:St) (H:Hp) (s:Shared) (e:Value) (s':Shared),Inv X pins σ H s->CX X.stack H s E e s'->X.xe e s'
section
variable{X:Cx}{CX:iJ}{k:Nat}{f C:Addr}{fd:FuncData}{ps:List Str}{sp:Sp}{jo:List V}{ds:List Value}{E:XK}{x m:Str}{p pos apos:Pos}{e o:Expr}{es:List Expr}{ta:TE}{t:TA}
theorem PV{pins:List (Addr×Obj)}{σ:St}{H:Hp}{s:Shared}{Q:VK}{us:List Value}{vs:List V}(F:bz X.prog X.w X.K X.mg X.base CX k f fd ps sp)(hr:ez k X.A)(hb:Binds X.K fd ps ds)(hd:Vals jo ds)(hx:Passes CX X E)
    (I:Inv X pins σ H s) (r:Vals vs us) (h:sp (vs++jo) H Q E):wpAny (model X.prog X.w) X.A (call (.ref f) us) (EP X pins σ Q) X.xe s:=by
  have r2:Vals (vs++jo) (us++ds):=r.append hd
  have hl:(us++ds).length=ps.length:=by rw[<-r2.length];exact F.len _ _ _ _ h
  refine wpAny_call (codeAny_mono (F.run X.A X.stack s H ⟨us,[]⟩ (us++ds) (vs++jo) Q E hr I.Uo (hb s us I.cV hl) r2 h) fun r s' hq=>?_)
  cases r with
  |error e=>exact hx pins σ H s e s' I hq
  | ok fl =>
    cases fl with
    |ret u=>exact I.after hq
    |next=>exact False.elim hq
    |brk=>exact False.elim hq
    |cont=>exact False.elim hq
theorem JO(F:bz X.prog X.w X.K X.mg X.base CX k f fd ps sp)(hr:ez k X.A)(hg:Gl X x)(hm:X.mg x=some (.ref f))(hk:PySem.W.keepIn X.K (.ref f)=true)(hb:Binds X.K fd ps ds)(hd:Vals jo ds)(hx:Passes CX X E)
  (ha:PA X (e::es) t) (hdb:(x==("__debug__":Str))=false:=by decide) (he:starEach (e::es) X.env=(false,eval e X.env)::starEach es X.env:=by rfl) (hpl:(backTo pos (starEach es X.env)).any (·.1)=false:=by rfl):
  PE X (.Call (.Name x p) (e::es) [] pos) (fu sp jo E t):=by
 intro pins s σ H Q I h
 refine wpAny_Call_Name_kw (Jl I hg hm ?_ hdb)
 refine PySem.W.callWith_K (h₀:=X.base) I.ok.mod.ve hk (aK (ha pos pins s σ H _ I h) fun us s1 ⟨vs,H1,I1,r,q⟩=>⟨I1.cV,?_⟩) he hpl
 exact PV F hr hb hd hx I1 r q
end
structure bU(N P:List Str)(sc:Scope):Prop where
 kind:sc.kind= .function
 co:sc.isCoroutine=false
 gen:sc.isGenerator=false
 nd:N.Nodup
 pre:N.take P.length=P
 par:∀x∈P,sc.names.lookup x=some .local\/sc.names.lookup x=some .cell
 HS:∀y∈sc.names,y.2≠ .free
theorem z0{kindOf:Str->Option NameKind}{x:Str}:∀{binds:List (Str×Value)} {m:Str->Option Value},(∀v,(x,v)∉binds)->bindL kindOf binds m x=m x
  |[],_,_=>rfl
  | (n, v) :: r, m, h => by
    unfold bindL
    rw[z0 fun w hw=>h w (List.mem_cons_of_mem _ hw)]
    split
    · have:x≠n:=by rintro rfl;exact h v List.mem_cons_self
      simp[this]
    · rfl
theorem BA{kindOf:Str->Option NameKind}{x:Str}:∀{binds:List (Str×Value)} {m:Str->Option Value},(∀v,(x,v)∉binds)->bindC kindOf binds m x=m x
  |[],_,_=>rfl
  | (n, v) :: r, m, h => by
    unfold bindC
    rw[BA fun w hw=>h w (List.mem_cons_of_mem _ hw)]
    split
    · rfl
    · have:x≠n:=by rintro rfl;exact h v List.mem_cons_self
      simp[this]
theorem Cm{kindOf:Str->Option NameKind}{x:Str}{v:Value}:∀{P:List Str} {vs:List Value} {i:Nat} {m:Str->Option Value},P.Nodup->P[i]?=some x->vs[i]?=some v->kindOf x=some .local->
    bindL kindOf (P.zip vs) m x=some v
  |[],_,_,_,_,h,_,_=>by simp at h
  |_::_,[],_,_,_,_,h,_=>by simp at h
  | p :: P, w :: vs, 0, m, nd, h1, h2, hk => by
    simp at h1 h2;subst h1;subst h2
    show bindL kindOf ((p,w)::P.zip vs) m p=_
    unfold bindL
    rw[z0 fun v hv=>(List.nodup_cons.mp nd).1 (List.of_mem_zip hv).1,if_pos hk]
    simp
  | p :: P, w :: vs, i + 1, m, nd, h1, h2, hk => by
    show bindL kindOf ((p,w)::P.zip vs) m x=_
    unfold bindL
    exact Cm (i:=i) (List.nodup_cons.mp nd).2 (by simpa using h1) (by simpa using h2) hk
theorem Er{kindOf:Str->Option NameKind}{x:Str}{v:Value}:∀{P:List Str} {vs:List Value} {i:Nat} {m:Str->Option Value},P.Nodup->P[i]?=some x->vs[i]?=some v->kindOf x≠some .local->
    bindC kindOf (P.zip vs) m x=some v
  |[],_,_,_,_,h,_,_=>by simp at h
  |_::_,[],_,_,_,_,h,_=>by simp at h
  | p :: P, w :: vs, 0, m, nd, h1, h2, hk => by
    simp at h1 h2;subst h1;subst h2
    show bindC kindOf ((p,w)::P.zip vs) m p=_
    unfold bindC
    rw[BA fun v hv=>(List.nodup_cons.mp nd).1 (List.of_mem_zip hv).1,if_neg hk]
    simp
  | p :: P, w :: vs, i + 1, m, nd, h1, h2, hk => by
    show bindC kindOf ((p,w)::P.zip vs) m x=_
    unfold bindC
    exact Er (i:=i) (List.nodup_cons.mp nd).2 (by simpa using h1) (by simpa using h2) hk
def start(N:List Str)(vs:List V):St:=vs.map some++List.replicate (N.length-vs.length) none
def lX(CX:iJ)(P:Program)(w:World)(K:PySem.W.Frag)(mg:Str->Option Value)(base:Heap)(N:List Str)(qual:Str)(scope:Scope)(f:Addr)(cd:Value)(A:Around)(outer:List Env)(s:Shared)(H:Hp)(E:XK):Cx where
 prog:=P
 w:=w
 K:=K
 mg:=mg
 base:=base
 A:=A.deeper (envOfC qual scope s.heap.objs.size f cd)
 N:=N
 s₀:=s
 H₀:=H
 env:=envOfC qual scope s.heap.objs.size f cd
 outer:=outer
 stack:=envOfC qual scope s.heap.objs.size f cd::outer
 ex:=[]
 calm:=true
 fn:=fun _=>true
 pn:=[]
 xe:=fun e s'=>wpAny (model P w) (A.deeper (envOfC qual scope s.heap.objs.size f cd)) (leaving (envOfC qual scope s.heap.objs.size f cd) e) (fun _ s''=>CX outer H s E e s'') (fun e' s''=>CX outer H s E e' s'') s'
theorem AJ{sc:Scope}{n:Nat}{x:Str}(h:sc.names.lookup x=some .cell):∃c,(cellsFrom n sc.names []).lookup x=some c:=by
 have q:=PySem.W.cellsFrom_some sc.names n [] (.inl h)
 exact Option.isSome_iff_exists.mp q
theorem Lp{CX:iJ}{P:Program}{w:World}{K:PySem.W.Frag}{mg:Str->Option Value}{base:Heap}{N ps:List Str}{qual:Str}{scope:Scope}{f:Addr}{cd:Value}{A:Around}{outer:List Env}{s s1:Shared}{H:Hp}{E:XK}{us:List Value}{vs:List V}
  (S:bU N ps scope) (hd:A.handled=none) (e0:pW P w K mg base A outer s H) (hl:vs.length=ps.length) (r:Vals vs us)
  (x:InCallC s s.heap.objs.size (bindL (envOfC qual scope s.heap.objs.size f cd).kindOf (ps.zip us) fun _=>none) (cellsFrom (s.heap.objs.size+1) scope.names []) (bindC (envOfC qual scope s.heap.objs.size f cd).kindOf (ps.zip us) fun _=>none) s1):
  Inv (lX CX P w K mg base N qual scope f cd A outer s H E) [] (start N vs) H s1:=by
 have hpl:ps.length<=N.length:=by have:=congrArg List.length S.pre;rw[List.length_take] at this;omega
 obtain⟨h1,tk,rfl,hk⟩:=x.done
 have nY:∀b:Addr,b∉(lX CX P w K mg base N qual scope f cd A outer s H E).ex:=fun b z=>absurd (show b∈([]:List Addr) from z) (by simp)
 refine⟨⟨e0.mod,S.kind,rfl,rfl,Nat.le_refl _,fun y z c h1 h2=>?_,fun y hy=>?_,fun y c _ h=>?_,fun _=>hd,Around.frames_deeper e0.frames, .inr ⟨rfl,rfl⟩,fun b z=>absurd z (nY b),e0.bs,e0.jZ,fun b _ _=>nY b,fun b z=>absurd z (nY b),e0.iy,e0.nj⟩,
  rfl,e0.bare,Un.kept hk,⟨_,x.toInCall.ns,fun i y v h1 h2 h3=>?_⟩,fun y c h=>⟨_,x.cell y c h⟩,e0.hok.fresh (Nat.le_refl _),fun y c h=>?_,fun p hp=>absurd (show p∈([]:List (Addr×Obj)) from hp) (by simp),e0.hok.kept hk,?_⟩
 ·exact name_of_addr x.apart (PySem.mem_of_lookup h1) (PySem.mem_of_lookup h2)
 ·have hy:scope.names.lookup y=some .cell\/scope.names.lookup y=some .free:=hy
  rcases hy with hy|hy
  ·exact AJ hy
  ·exact absurd rfl (S.HS _ (PySem.mem_of_lookup hy))
 ·exact Nat.le_of_lt (x.above y c (PySem.mem_of_lookup h))
 ·have hi:i<vs.length:=by
   unfold start at h2
   by_cases hi:i<vs.length
   ·exact hi
   ·rw[List.getElem?_append_right (by simpa using hi)] at h2
    rw[List.getElem?_replicate] at h2
    split at h2<;>cases h2
  have ha:vs[i]?=some v:=by
   unfold start at h2
   rw[List.getElem?_append_left (by simpa using hi),List.getElem?_map] at h2
   cases e:vs[i]? with
   |none=>rw[e] at h2;cases h2
   |some a=>rw[e] at h2;cases h2;rfl
  obtain⟨u,hu,rv⟩:=r.get ha
  have hp:ps[i]?=some y:=by
   rw[<-S.pre,List.getElem?_take_of_lt (by omega)];exact h1
  have Az:ps.Nodup:=by rw[<-S.pre];exact S.nd.sublist (List.take_sublist _ _)
  refine⟨u,rv,?_⟩
  rcases S.par y (List.mem_of_getElem? hp) with k|k
  ·exact .inl ⟨k,Cm Az hp hu k⟩
  ·obtain⟨c,e⟩:=AJ (n:=s.heap.objs.size+1) k
   refine .inr ⟨.inl k,c,e,?_⟩
   have q:=x.cell y c e
   rw[Er Az hp hu (by show scope.names.lookup y≠_;rw[k];decide)] at q
   exact q
 ·exact e0.hok.fresh (Nat.le_of_lt (x.above y c (PySem.mem_of_lookup h)))
 ·unfold start
  show _=N.length
  rw[List.length_append,List.length_map,List.length_replicate]
  omega
theorem SN{CX:iJ}{P:Program}{w:World}{K:PySem.W.Frag}{mg:Str->Option Value}{base:Heap}{k:Nat}{f:Addr}{name qual:Str}{params:Arguments}{body:List Stmt}{scope:Scope}{dV kV doc pm cdv ct oc:Value}{an od:Option Addr}
    {osl:Array (Option Value)} {N ps:List Str} {sp:Sp} (lk:K.lookup f=some ⟨oc,od, .func (PySem.W.fnOf name qual params body scope dV kV doc pm an cdv ct),osl⟩) (hcd:PySem.W.codeIn K cdv qual=true) (S:bU N ps scope)
    (len:∀vs H Q E,sp vs H Q E->vs.length=ps.length)
    (hbody:∀(A:Around) (outer:List Env) (s:Shared) (H:Hp) (vs:List V) (Q:VK) (E:XK),ez k (A.deeper (envOfC qual scope s.heap.objs.size f cdv))->sp vs H Q E->
      ∃t,gy (lX CX P w K mg base N qual scope f cdv A outer s H E) body t/\t {nx:=fun _ H'=>Q .aE H',rt:=Q} (start N vs) H):
    bz P w K mg base CX (k+1) f (PySem.W.fnOf name qual params body scope dV kV doc pm an cdv ct) ps sp:=by
  refine⟨len,fun A outer s H args us vs Q E hr e0 hb r jQ=>?_⟩
  have hl:=len _ _ _ _ jQ
  have KX:K.In s.heap:=e0.mod.ve.keeps fun b o e=>(e0.bs b o e).1
  have lim:s.heap.NoLimit:=e0.mod.nolimit.keeps fun b o e=>(e0.bs b o e).1
  have hkind:∀y∈ps.zip us,scope.names.lookup y.1=some .local\/(scope.names.lookup y.1=some .cell/\((cellsFrom (s.heap.objs.size+1) scope.names []).lookup y.1).isSome=true):=fun⟨n,v⟩ hy=>by
    rcases S.par n (List.of_mem_zip hy).1 with q|q
    · exact .inl q
    · exact .inr ⟨q,PySem.W.cellsFrom_some _ _ _ (.inl q)⟩
  refine codeAny_call_function hr.depth (KX _ _ lk) rfl S.co S.gen rfl (PySem.W.codeRec_of KX hcd) (hb _ _ _ _ ?_)
  refine wpAny_newFunctionEnv_cells S.kind hkind fun env he s1 x=>?_
  subst he
  refine⟨lim.keeps x.toInCall.keep,codeAny_func ?_⟩
  obtain⟨t,ht,hq⟩:=hbody A outer s H vs Q E (hr.deeper _) jQ
  have I:Inv (lX CX P w K mg base N qual scope f cdv A outer s H E) [] (start N vs) H s1:=Lp S hr.hd e0 hl r x
  refine wpAny_mono (ht [] s1 (start N vs) H _ I hq) (fun fl s' hs=>?_) fun e s' hs=>hs
  have fin:∀{σ':St} {H':Hp} {v:V} {u:Value},Inv (lX CX P w K mg base N qual scope f cdv A outer s H E) [] σ' H' s'->RelV v u->Q v H'->CE outer P w H s Q u s':=
    fun{σ' H' v u} J rv q=>⟨v,H',J.os,J.bare,J.base,J.hok,rv,q⟩
  cases fl with
  | ret u =>
    obtain⟨v,σ',H',J,rv,q⟩:=hs
    exact fin J rv q
  | next =>
    obtain⟨σ',H',J,q⟩:=hs
    exact fin (v:=V.aE) (u:=Value.none) J rfl q
  | brk =>
    obtain⟨_,_,_,q⟩:=hs
    exact False.elim q
  | cont =>
    obtain⟨_,_,_,q⟩:=hs
    exact False.elim q
section
variable{X:Cx}{x:Str}{p pos:Pos}{e:Expr}{es:List Expr}{t:TA}{id T:String}{r:List V->Hp->VK->Prop}
def dQ(r:List V->Hp->VK->Prop)(t:TA):TE:=fun σ H Q=>t σ H fun vs H1=>r vs H1 Q
theorem bW(hc:dG X (.builtin id) r)(hg:Gl X x)(hm:X.mg x=none)(hv:bootBuiltins x=some (.builtin id))(ha:PA X (e::es) t)(hn:x≠"__name__":=by decide)(hdb:(x==("__debug__":Str))=false:=by decide)
  (he:starEach (e::es) X.env=(false,eval e X.env)::starEach es X.env:=by rfl) (hpl:(backTo pos (starEach es X.env)).any (·.1)=false:=by rfl):PE X (.Call (.Name x p) (e::es) [] pos) (dQ r t):=by
 intro pins s σ H Q I h
 refine wpAny_Call_Name_kw (mD I hg hm hv ?_ hn hdb)
 exact PyProof.Rows.callWith_builtin1 (aK (ha pos pins s σ H _ I h) fun us s1 ⟨vs,H1,I1,r1,q1⟩=>hc pins s1 σ H1 vs us Q I1 r1 q1) he hpl
theorem gU(hc:dG X (.type T) r)(hg:Gl X x)(hm:X.mg x=none)(hv:bootBuiltins x=some (.type T))(ha:PA X (e::es) t)(hn:x≠"__name__":=by decide)(hdb:(x==("__debug__":Str))=false:=by decide)
  (he:starEach (e::es) X.env=(false,eval e X.env)::starEach es X.env:=by rfl) (hpl:(backTo pos (starEach es X.env)).any (·.1)=false:=by rfl):PE X (.Call (.Name x p) (e::es) [] pos) (dQ r t):=by
 intro pins s σ H Q I h
 refine wpAny_Call_Name_kw (mD I hg hm hv ?_ hn hdb)
 exact PyProof.Rows.callWith_type1 (aK (ha pos pins s σ H _ I h) fun us s1 ⟨vs,H1,I1,r1,q1⟩=>hc pins s1 σ H1 vs us Q I1 r1 q1) he hpl
end
end L2
namespace HT
open PySem PyProof.Rows
section
open PySem.SeqAt
open PySem.AutoSeq1 (wpAny_loadPart')
open PySem.MeetsSeq PySem.MeetsSeq2 PySem.MeetsSeq3
end
section
variable{prog:Program}{w:World}{A:Around}{E:Value->Shared->Prop}{s:Shared}
def cO(n d:Nat):Option Int->Nat
 |none=>d
 |some v=>if v<0 then(v+(n:Int)).toNat else min v.toNat n
theorem GQ(n d:Nat):cO n d none=d:=rfl
end
end HT
namespace L2
open PySem PySem.Spec PyProof.Rows
abbrev TO:=St->Hp->(Option Int->Hp->Prop)->Prop
def PO(X:Cx)(e:Option Expr)(t:TO):Prop:=
 ∀(pins:List (Addr×Obj)) (s:Shared) (σ:St) (H:Hp) (Q:Option Int->Hp->Prop),Inv X pins σ H s->t σ H Q->
  wpAny (model X.prog X.w) X.A (evalPart e X.env) (fun u s'=>∃o H',Inv X pins σ H' s'/\IsPart u o/\Q o H') X.xe s
def xA:TO:=fun _ H Q=>Q none H
def rR(t:TE):TO:=fun σ H Q=>t σ H fun x H1=>∃i,x= .int i/\Q (some i) H1
section
variable{X:Cx}{e:Expr}{te:TE}{lo hi:Option Expr}{tl th:TO}{pos p2:Pos}
theorem kH:PO X none xA:=by
 intro pins s σ H Q I h
 rw[evalPart_none]
 exact wpAny_pure ⟨none,H,I, .none,h⟩
theorem j5(h:PE X e te):PO X (some e) (rR te):=by
 intro pins s σ H Q I hw
 rw[evalPart_some]
 refine aK (h pins s σ H _ I hw) fun u s1 ⟨x,H1,I1,r1,q1⟩=>?_
 obtain⟨i,rfl,q⟩:=q1
 obtain⟨t,rfl⟩:=r1
 exact⟨some i,H1,I1, .int i t,q⟩
def Eb(X:Cx)(r:V->Option Int->Option Int->Hp->VK->Prop):Prop:=
 ∀(pins:List (Addr×Obj)) (s:Shared) (σ:St) (H:Hp) (x:V) (v vl vu:Value) (lo hi:Option Int) (sl:Addr) (Q:VK),Inv X pins σ H s->RelV x v->s.heap.IsSliceOf sl vl vu .none->IsPart vl lo->IsPart vu hi->r x lo hi H Q->
  ∃T id,typeLookup (.type T) "__getitem__"=pure (some (.builtin id))/\s.TypeIs v T/\wpAny (model X.prog X.w) X.A (getItem v (.ref sl)) (EP X pins σ Q) X.xe s
def nP(r:V->Option Int->Option Int->Hp->VK->Prop)(te:TE)(tl th:TO):TE:=fun σ H Q=>te σ H fun x H1=>tl σ H1 fun l H2=>th σ H2 fun u H3=>r x l u H3 Q
theorem j8{r:V->Option Int->Option Int->Hp->VK->Prop}(hr:Eb X r)(he:PE X e te)(hl:PO X lo tl)(hu:PO X hi th):PE X (.Subscript e (.Slice lo hi none p2) pos) (nP r te tl th):=by
 intro pins s σ H Q I h
 refine Subscript_ (aK (he pins s σ H _ I h) fun v s1 ⟨x,H1,I1,r1,q1⟩=>?_)
 refine wpAny_Slice (aK (hl pins s1 σ H1 _ I1 q1) fun vl s2 ⟨l,H2,I2,pl,q2⟩=>aK (hu pins s2 σ H2 _ I2 q2) fun vu s3 ⟨u,H3,I3,pu,q3⟩=>?_)
 rw[evalPart_none]
 refine wpAny_pure ?_
 have I4:Inv X pins σ H3 {s3 with heap:=s3.heap.push {cls:= .type "slice",data:= .fields #[vl,vu, .none]}}:=I3.kept (t':=s3.toks) fun b ob q=>Heap.get?_push_of_some _ q
 obtain⟨T,id,hT,ht,hg⟩:=hr pins {s3 with heap:=s3.heap.push {cls:= .type "slice",data:= .fields #[vl,vu, .none]}} σ H3 x v vl vu l u s3.heap.objs.size Q I4 r1 (Heap.IsSliceOf.new ..) pl pu q3
 show wpAny (model X.prog X.w) X.A (subscriptTail e (.Slice lo hi none p2) v (.ref s3.heap.objs.size)) (EP X pins σ Q) X.xe {s3 with heap:=s3.heap.push {cls:= .type "slice",data:= .fields #[vl,vu, .none]}}
 exact tail_any (ops:=[.ref s3.heap.objs.size,v]) ht hT hg (by with_unfolding_all rfl)
def i7(xs:List V)(lo hi:Option Int):List V:=(xs.drop (HT.cO xs.length 0 lo)).take (HT.cO xs.length xs.length hi-HT.cO xs.length 0 lo)
theorem KC(xs:List V)(lo hi:Option Int):(i7 xs lo hi).length<=xs.length:=by
 unfold i7
 rw[List.length_take,List.length_drop]
 omega
def KJ(K:PySem.W.Frag):V->Option Int->Option Int->Hp->VK->Prop:=fun x lo hi H Q=>∃a xs,x= .ref a/\dP K H a xs/\
 ¬(HT.cO xs.length 0 lo=0/\HT.cO xs.length xs.length hi=xs.length)/\∀p,H p=none->Q (.ref p) (upd H p (.tup (i7 xs lo hi)))
def Fy(K:PySem.W.Frag):R2:=fun x y H Q=>∃a b xs ys,x= .ref a/\y= .ref b/\dP K H a xs/\dP K H b ys/\xs≠[]/\xs.length+ys.length<=sizeLine/\
 (ys=[]->Q (.ref a) H)/\(ys≠[]->∀p,H p=none->Q (.ref p) (upd H p (.tup (xs++ys))))
end
def eV(n:Nat)(i:Int):Option Nat:=if 0<=i then(if i<n then some i.toNat else none) else if-(n:Int)<=i then some (i+n).toNat else none
def bh{α:Type}(xs:List α)(i:Int):Option α:=(eV xs.length i).bind fun j=>xs[j]?
theorem CK{n:Nat}{i:Int}{j:Nat}(h:eV n i=some j):seqIndex? i n=some j/\j<n/\ -(n:Int)<=i/\i<n:=by
 unfold eV at h
 by_cases h0:0<=i
 ·rw[if_pos h0] at h
  by_cases h1:i<n
  ·rw[if_pos h1] at h
   have e:i.toNat=j:=Option.some.inj h
   exact⟨by rw[seqIndex_of h0 h1,e],by omega,by omega,h1⟩
  ·rw[if_neg h1] at h;cases h
 ·rw[if_neg h0] at h
  by_cases h1: -(n:Int)<=i
  ·rw[if_pos h1] at h
   have e:(i+n).toNat=j:=Option.some.inj h
   exact⟨by rw[seqIndex_neg (by omega) h1,e],by omega,h1,by omega⟩
  ·rw[if_neg h1] at h;cases h
theorem tu{α:Type}{xs:List α}{i:Int}{v:α}(h:bh xs i=some v):∃j,seqIndex? i xs.length=some j/\xs[j]?=some v/\j<xs.length/\ -(xs.length:Int)<=i/\i<xs.length:=by
  unfold bh at h
  cases e:eV xs.length i with
  |none=>rw[e] at h;cases h
  | some j =>
    rw[e] at h
    obtain⟨h1,h2,h3,h4⟩:=CK e
    exact⟨j,h1,h,h2,h3,h4⟩
theorem Mg{α:Type}{xs:List α}{j:Nat}{v:α}(h:xs[j]?=some v):bh xs (j:Int)=some v:=by
 have hj:j<xs.length:=(List.getElem?_eq_some_iff.mp h).1
 have e:eV xs.length (j:Int)=some j:=by
  unfold eV
  rw[if_pos (by omega),if_pos (by omega)];simp
 unfold bh;rw[e];exact h
def E2(b:Expr):Prop:=∀o i,subscripted b false o i=operate [o,i] (getItem o i)
def iM(X:Cx)(r:R2):Prop:=
 ∀(value slice:Expr) (pins:List (Addr×Obj)) (s:Shared) (σ:St) (H:Hp) (x y:V) (v u:Value) (Q:VK),Inv X pins σ H s->RelV x v->RelV y u->r x y H Q->
  subscripted slice false v u=operate [v,u] (getItem v u)->wpAny (model X.prog X.w) X.A (subscriptTail value slice v u) (EP X pins σ Q) X.xe s
def mL(X:Cx)(id:String)(r:V->List V->Hp->VK->Prop):Prop:=
 ∀(pins:List (Addr×Obj)) (s:Shared) (σ:St) (H:Hp) (x:V) (xs:List V) (v:Value) (us:List Value) (Q:VK),Inv X pins σ H s->RelV x v->Vals xs us->r x xs H Q->
  wpAny (model X.prog X.w) X.A (call (.builtin id) (v::us)) (EP X pins σ Q) X.xe s
section
variable{X:Cx}{a b:Expr}{ta tb:TE}{pos:Pos}
theorem iM.or{r r':R2}(h:iM X r)(h':iM X r'):iM X (fun x y H Q=>r x y H Q\/r' x y H Q):=by
 intro value slice pins s σ H x y v u Q I rx ry q hs
 rcases q with q|q
 ·exact h value slice pins s σ H x y v u Q I rx ry q hs
 ·exact h' value slice pins s σ H x y v u Q I rx ry q hs
theorem aI{r:R2}(hr:iM X r)(ha:PE X a ta)(hb:PE X b tb)(hs:E2 b):PE X (.Subscript a b pos) (cD r ta tb):=by
 intro pins s σ H Q I h
 exact Subscript_ (xw ha hb I h fun v u s2 x y H2 I2 rx ry q=>hr a b pins s2 σ H2 x y v u Q I2 rx ry q (hs _ _))
def dh(K:PySem.W.Frag):R2:=fun x y H Q=>∃p xs i v,x= .ref p/\y= .int i/\aM K H p xs/\bh xs i=some v/\Q v H
def bY(K:PySem.W.Frag):R2:=fun x y H Q=>∃p xs i v,x= .ref p/\y= .int i/\dP K H p xs/\bh xs i=some v/\Q v H
def yW:R2:=fun x y H Q=>∃z i c,x= .str z/\y= .int i/\z.length<=sizeLine/\bh z.cps.toList i=some c/\Q (.str ⟨#[c]⟩) H
theorem bM:iM X (dh X.K):=by
 intro value slice pins s σ H x y v u Q I rx ry h hs
 obtain⟨p,xs,i,z,rfl,rfl,hq,he,q⟩:=h
 cases rx
 obtain⟨t,rfl⟩:=ry
 obtain⟨its,r,pl,hz⟩:=I.list hq
 obtain⟨j,h1,h2,h3,h4,h5⟩:=tu he
 obtain⟨w,ew,rw'⟩:=r.get h2
 have hl:=r.length
 have hn:=mY
 have fin:EP X pins σ Q w s:=⟨z,H,I,rw',q⟩
 by_cases h0:0<=i
 ·have hj:i.toNat=j:=by
   rw[seqIndex_of h0 h5] at h1
   exact Option.some.inj h1
  exact item_listR pl.isList h0 (by omega) (by rw[hj];simpa using ew) fin hs
 ·have hj:(i+(its.toArray.size:Int)).toNat=j:=by
   rw[seqIndex_neg (by omega) h4] at h1
   rw[List.size_toArray,<-hl]
   exact Option.some.inj h1
  exact subscriptTail_builtinR (x:=w) pl.isList.typeIs slot_list_getitem.lookup
   (wpAny_getItem_list_neg (Q:=fun r s'=>r=w/\EP X pins σ Q r s') pl.isList (by omega) (by rw[List.size_toArray]<;>omega) (by omega) (by rw[hj];simpa using ew) ⟨rfl,fin⟩) hs
theorem cF:iM X (bY X.K):=by
 intro value slice pins s σ H x y v u Q I rx ry h hs
 obtain⟨p,xs,i,z,rfl,rfl,hq,he,q⟩:=h
 cases rx
 obtain⟨t,rfl⟩:=ry
 obtain⟨its,r,pl,hz⟩:=I.tuple hq
 obtain⟨j,h1,h2,h3,h4,h5⟩:=tu he
 obtain⟨w,ew,rw'⟩:=r.get h2
 have hl:=r.length
 have hn:=mY
 have fin:EP X pins σ Q w s:=⟨z,H,I,rw',q⟩
 exact subscriptTail_builtinR (x:=w) pl.typeIs slot_tuple_getitem.lookup
  (getItem_tuple (j:=j) (Q:=fun r s'=>r=w/\EP X pins σ Q r s') pl (by omega) (by omega) (by rw[List.size_toArray,<-hl];exact h1) (by simpa using ew) ⟨rfl,fin⟩) hs
theorem FZ:iM X yW:=by
 intro value slice pins s σ H x y v u Q I rx ry h hs
 obtain⟨z,i,c,rfl,rfl,hz,he,q⟩:=h
 obtain⟨t,rfl⟩:=rx
 obtain⟨t',rfl⟩:=ry
 obtain⟨j,h1,h2,h3,h4,h5⟩:=tu he
 have hl:z.cps.toList.length=z.length:=by simp[Str.length]
 rw[hl] at h1 h4 h5
 have hn:=mY
 exact tail_any (typeIs_str s z t) slot_str_getitem.lookup (getItem_str (c:=c) (by
  have e1:decide (i< -(2^63:Int))=false:=decide_eq_false (by omega)
  have e2:decide (i≥2^63)=false:=decide_eq_false (by omega)
  rw[e1,e2,Bool.or_false]) (by rw[h1];simpa using h2) ⟨.str ⟨#[c]⟩,H,I.tok _,⟨_,rfl⟩,q⟩) hs
def qh(K:PySem.W.Frag):R2:=fun x y H Q=>dh K x y H Q\/bY K x y H Q\/yW x y H Q
theorem Eh:iM X (qh X.K):=bM.or (cF.or FZ)
theorem HV(its:List Value)(n j:Nat)(u:Value):Obj.mapSeq (·.setIfInBounds j u) {cls:= .type "list",data:= .seq its.toArray n}={cls:= .type "list",data:= .seq (its.set j u).toArray n}:=by
 simp[Obj.mapSeq]
theorem Inv.lst{pins:List (Addr×Obj)}{σ:St}{H:Hp}{s:Shared}{p:Addr}{xs:List V}(I:Inv X pins σ H s)(h:H p=some (.lst xs)):
  ∃(its:List Value) (n:Nat),Vals xs its/\s.heap.get? p=some {cls:= .type "list",data:= .seq its.toArray n}/\xs.length<=sizeLine:=by
 obtain⟨z,its,n,r,e⟩:=I.hok p _ h
 exact⟨its,n,r,e,z⟩
theorem Inv.KS{pins:List (Addr×Obj)}{σ:St}{H:Hp}{s:Shared}{p:Addr}{xs ys:List V}{its its':List Value}{n n':Nat}{f:Obj->Obj}(I:Inv X pins σ H s)(h:H p=some (.lst xs))
  (ho:s.heap.get? p=some {cls:= .type "list",data:= .seq its.toArray n}) (hf:f {cls:= .type "list",data:= .seq its.toArray n}={cls:= .type "list",data:= .seq its'.toArray n'}) (r:Vals ys its') (hz:ys.length<=sizeLine) (t:Nat):
  Inv X pins σ (upd H p (.lst ys)) {s with heap:=s.heap.update p f,toks:=t}:=by
 have e:(s.heap.update p f).get? p=some {cls:= .type "list",data:= .seq its'.toArray n'}:=by
  rw[Heap.get?_update_self f ho (by rw[hf]<;>rfl),hf]
 refine I.write (x:=p) (e:=p) (by rw[h];trivial) (.inl rfl) (fun b u hb q=>(Heap.get?_update_other _ _ (Ne.symm hb)).trans q) ⟨_,e⟩ ?_
 exact⟨hz,its',n',r,e⟩
def rC:V->V->V->Hp->(Hp->Prop)->Prop:=fun o i v H Q=>∃p xs k j,o= .ref p/\i= .int k/\H p=some (.lst xs)/\eV xs.length k=some j/\Q (upd H p (.lst (xs.set j v)))
theorem set_list:vj X rC:=by
 intro pins s σ H o i v ov iv u Q I ro ri rv h
 obtain⟨p,xs,k,j,rfl,rfl,hp,hj,q⟩:=h
 cases ro
 obtain⟨t,rfl⟩:=ri
 obtain⟨its,n,r,ho,hz⟩:=I.lst hp
 obtain⟨h1,h2,h3,h4⟩:=CK hj
 have hl:=r.length
 have hn:=mY
 have I':Inv X pins σ (upd H p (.lst (xs.set j v))) {s with heap:=s.heap.update p (Obj.mapSeq (·.setIfInBounds j u))}:=
  I.KS hp ho (HV its n j u) (r.set rv j) (by rw[List.length_set];exact hz) s.toks
 by_cases h0:0<=k
 ·have hk:k.toNat=j:=by
   rw[seqIndex_of h0 h4] at h1
   exact Option.some.inj h1
  exact PySem.W.ki_setAt ho h0 (by omega) (by rw[List.size_toArray,<-hl];exact h4) (by rw[hk];exact⟨_,I',q⟩)
 ·have hk:(k+(its.toArray.size:Int)).toNat=j:=by
   rw[seqIndex_neg (by omega) h3] at h1
   rw[List.size_toArray,<-hl]
   exact Option.some.inj h1
  exact PySem.W.ki_setBack ho (by omega) (by rw[List.size_toArray,<-hl];exact h3) (by omega) (by rw[hk];exact⟨_,I',q⟩)
theorem UI(lo hi:Option Int)(n:Nat):(sliceBounds lo hi none n).1=((HT.cO n 0 lo:Nat):Int)/\(sliceBounds lo hi none n).2.1=((HT.cO n n hi:Nat):Int)/\(sliceBounds lo hi none n).2.2=1:=by
  refine⟨?_,?_,rfl⟩
  · cases lo with
    |none=>simp[sliceBounds,HT.cO]
    | some i =>
      simp only[sliceBounds,HT.cO,Option.getD_none,show(1:Int)>0 by decide,if_true]
      by_cases h:i<0
      · simp only[h,if_true]<;>omega
      · simp only[h,if_false]<;>omega
  · cases hi with
    |none=>simp[sliceBounds,HT.cO]
    | some i =>
      simp only[sliceBounds,HT.cO,Option.getD_none,show(1:Int)>0 by decide,if_true]
      by_cases h:i<0
      · simp only[h,if_true]<;>omega
      · simp only[h,if_false]<;>omega
theorem SO(its:List Value)(lo hi:Option Int):slicePick its.toArray lo hi none=((its.drop (HT.cO its.length 0 lo)).take (HT.cO its.length its.length hi-HT.cO its.length 0 lo)).toArray:=by
 obtain⟨h1,h2,h3⟩:=UI lo hi its.toArray.size
 unfold slicePick
 rw[h1,h2,h3]
 simp only[sliceRange_one,pick_run,List.size_toArray]<;>rfl
def iZ(K:PySem.W.Frag):V->Option Int->Option Int->Hp->VK->Prop:=fun x lo hi H Q=>∃a xs,x= .ref a/\aM K H a xs/\∀p,H p=none->Q (.ref p) (upd H p (.lst (i7 xs lo hi)))
theorem kX:Eb X (iZ X.K):=by
 intro pins s σ H x v vl vu lo hi sl Q I rx hs pl pu h
 obtain⟨a,xs,rfl,hx,q⟩:=h
 cases rx
 obtain⟨its,r,ht,hz⟩:=I.list hx
 have hlen:=r.length
 refine⟨"list",_,slot_list_getitem.lookup,ht.isList.typeIs,?_⟩
 refine wpAny_getItem_list_slice ht.isList hs pl pu .none (by simp) ?_ (by rw[List.size_toArray]<;>omega)
 rw[SO,<-hlen]
 refine⟨.ref s.heap.objs.size,_,I.laid (t':=s.toks) (o:= .lst (i7 xs lo hi)) (fun b ob q=>Heap.get?_push_of_some _ q) (Nat.le_refl _) ?_,rfl,q _ (I.hok.fresh (Nat.le_refl _))⟩
 exact⟨Nat.le_trans (KC xs lo hi) hz,_,0,(r.drop (HT.cO xs.length 0 lo)).take (HT.cO xs.length xs.length hi-HT.cO xs.length 0 lo),Heap.get?_push_size _ rfl⟩
def jT:V->Bool
 | .aE=>true
 | .bl _=>true
 | .int _=>true
 | .str _=>true
 |_=>false
def jM:V->V->Bool
 | .aE, .aE=>true
 | .bl a, .bl b=>a==b
 | .bl a, .int b=>(if a then 1 else 0)==b
 | .int a, .bl b=>a==(if b then 1 else 0)
 | .int a, .int b=>a==b
 | .str a, .str b=>a==b
 |_,_=>false
theorem KR{A:Around}{s:Shared}{y x:V}{u v:Value}(ry:RelV y u)(rx:RelV x v)(fy:jT y=true)(fx:jT x=true):SeqAt.EqAt A s u v (jM y x):=by
  cases y with
  | aE =>
    cases ry
    cases x with
    |aE=>cases rx;exact SeqAt.EqAt.same _
    |bl b=>cases rx;exact SeqAt.EqAt.none_bool b
    |int b=>obtain⟨t,rfl⟩:=rx;exact SeqAt.EqAt.none_int b t
    |str b=>obtain⟨t,rfl⟩:=rx;exact SeqAt.EqAt.none_str b t
    |_=>exact absurd (show false=true from fx) Bool.false_ne_true
  | bl a =>
    cases ry
    cases x with
    |aE=>cases rx;exact SeqAt.EqAt.bool_none a
    |bl b=>cases rx;exact SeqAt.EqAt.bool_bool a b
    |int b=>obtain⟨t,rfl⟩:=rx;exact SeqAt.EqAt.bool_int a b t
    |str b=>obtain⟨t,rfl⟩:=rx;exact SeqAt.EqAt.bool_str a b t
    |_=>exact absurd (show false=true from fx) Bool.false_ne_true
  | int a =>
    obtain⟨t',rfl⟩:=ry
    cases x with
    |aE=>cases rx;exact SeqAt.EqAt.int_none a t'
    |bl b=>cases rx;exact SeqAt.EqAt.int_bool a t' b
    |int b=>obtain⟨t,rfl⟩:=rx;exact SeqAt.EqAt.int_int a t' b t
    |str b=>obtain⟨t,rfl⟩:=rx;exact SeqAt.EqAt.int_str a t' b t
    |_=>exact absurd (show false=true from fx) Bool.false_ne_true
  | str a =>
    obtain⟨t',rfl⟩:=ry
    cases x with
    |aE=>cases rx;exact SeqAt.EqAt.str_none a t'
    |bl b=>cases rx;exact SeqAt.EqAt.str_bool a t' b
    |int b=>obtain⟨t,rfl⟩:=rx;exact SeqAt.EqAt.str_int a t' b t
    |str b=>obtain⟨t,rfl⟩:=rx;exact SeqAt.EqAt.str_str a t' b t
    |_=>exact absurd (show false=true from fx) Bool.false_ne_true
  |_=>exact absurd (show false=true from fy) Bool.false_ne_true
def jl(x:V)(u:Value):Bool:=match u with
 | .none=>jM .aE x
 | .bool b=>jM (.bl b) x
 | .int i _=>jM (.int i) x
 | .str z _=>jM (.str z) x
 |_=>false
theorem zF{x y:V}{u:Value}(r:RelV y u)(f:jT y=true):jl x u=jM y x:=by
 cases y with
 |aE=>cases r;rfl
 |bl b=>cases r;rfl
 |int i=>obtain⟨t,rfl⟩:=r;rfl
 |str z=>obtain⟨t,rfl⟩:=r;rfl
 |_=>exact absurd (show false=true from f) Bool.false_ne_true
theorem t7{x:V}:∀{xs:List V} {us:List Value},Vals xs us->xs.all jT=true->us.any (jl x)=xs.any fun y=>jM y x
  |_,_, .nil,_=>rfl
  | y :: xs, u :: us, .cons r t, f => by
    rw[List.all_cons,Bool.and_eq_true] at f
    rw[List.any_cons,List.any_cons,zF r f.1,t7 t f.2]
theorem rZ{A:Around}{s:Shared}{x:V}{v:Value}(rx:RelV x v)(fx:jT x=true):∀{xs:List V} {us:List Value},Vals xs us->xs.all jT=true->∀u∈us,SeqAt.EqAt A s u v (jl x u)
  |_,_, .nil,_=>fun u hu=>by cases hu
  | y :: xs, u :: us, .cons r t, f => fun u' hu => by
    rw[List.all_cons,Bool.and_eq_true] at f
    rcases List.mem_cons.mp hu with rfl|hu
    · rw[zF r f.1];exact KR r rx f.1 fx
    · exact rZ rx fx t f.2 u' hu
def nk(x:V)(xs:List V):Bool:=xs.any fun y=>jM y x
def vD(K:PySem.W.Frag)(neg:Bool):R2:=fun x y H Q=>∃p xs,y= .ref p/\(aM K H p xs\/dP K H p xs)/\jT x=true/\xs.all jT=true/\Q (.bl (if neg then !nk x xs else nk x xs)) H
theorem QI:cE X (compareOp .In) (vD X.K false):=by
 intro pins s σ H x y v u Q I rx ry h
 obtain⟨p,xs,rfl,hq,fx,fs,q⟩:=h
 cases ry
 rcases hq with hq|hq
 ·obtain⟨its,r,pl,hz⟩:=I.list hq
  refine SeqAt.in_listAt (jl x) pl.isList (fun w hw=>rZ rx fx r fs w (by simpa using hw)) ⟨.bl _,H,I,rfl,?_⟩
  rw[show its.toArray.any (jl x)=its.any (jl x) by simp,t7 r fs]
  exact q
 ·obtain⟨its,r,pl,hz⟩:=I.tuple hq
  refine SeqAt.in_tupleAt (jl x) pl (fun w hw=>rZ rx fx r fs w (by simpa using hw)) ⟨.bl _,H,I,rfl,?_⟩
  rw[show its.toArray.any (jl x)=its.any (jl x) by simp,t7 r fs]
  exact q
theorem CY:dG X (.builtin "len") (fun xs H Q=>∃p ys,xs=[.ref p]/\(aM X.K H p ys\/dP X.K H p ys)/\Q (.int ys.length) H):=by
 intro pins s σ H xs us Q I r h
 obtain⟨p,ys,rfl,hq,q⟩:=h
 obtain⟨u,rfl,rx⟩:=vals1 r
 cases rx
 have hn:=mY
 rcases hq with hq|hq
 ·obtain⟨its,r',pl,hz⟩:=I.list hq
  have hlen:=r'.length
  exact Calls.call_len_list pl.isList (by simp only[List.size_toArray]<;>omega) ⟨.int ys.length,H,I.tok _,⟨s.toks+1,by rw[List.size_toArray,hlen]⟩,q⟩
 ·obtain⟨its,r',pl,hz⟩:=I.tuple hq
  have hlen:=r'.length
  exact len_tuple pl (by simp only[List.size_toArray]<;>omega) ⟨.int ys.length,H,I.tok _,⟨s.toks+1,by rw[List.size_toArray,hlen]⟩,q⟩
theorem S4:dG X (.type "list") (fun xs H Q=>∃p ys,xs=[.ref p]/\(aM X.K H p ys\/dP X.K H p ys)/\∀l,H l=none->Q (.ref l) (upd H l (.lst ys))):=by
 intro pins s σ H xs us Q I r h
 obtain⟨p,ys,rfl,hq,q⟩:=h
 obtain⟨u,rfl,rx⟩:=vals1 r
 cases rx
 have fin:∀(its:List Value),Vals ys its->ys.length<=sizeLine->∀(h':Heap) (c':Nat),(∀b o',s.heap.get? b=some o'->h'.get? b=some o')->
   h'.get? s.heap.objs.size=some {cls:= .type "list",dict:=none,data:= .seq its.toArray c',slots:= #[]}->EP X pins σ Q (.ref s.heap.objs.size) {s with heap:=h'}:=fun its r' hz h' c' kp e=>
  ⟨.ref s.heap.objs.size,_,I.laid (t':=s.toks) kp (Nat.le_refl _) (show aV X.prog X.w _ h' _ (.lst ys) from⟨hz,its,c',r',e⟩),rfl,q _ (I.hok.fresh (Nat.le_refl _))⟩
 rcases hq with hq|hq
 ·obtain⟨its,r',pl,hz⟩:=I.list hq
  have hlen:=r'.length
  obtain⟨o,ho,hc,n,hd⟩:=pl.isList
  exact call_list_seq p (.inl rfl) ho hc hd (fun h' c' kp e=>fin its r' hz h' c' kp e) (by simp only[List.size_toArray]<;>omega)
 ·obtain⟨its,r',pl,hz⟩:=I.tuple hq
  have hlen:=r'.length
  obtain⟨o,ho,hc,n,hd⟩:=pl
  exact call_list_seq p (.inr rfl) ho hc hd (fun h' c' kp e=>fin its r' hz h' c' kp e) (by simp only[List.size_toArray]<;>omega)
def o6(K:PySem.W.Frag)(T:String)(x:V)(H:Hp):Prop:=match x with
 | .str _=>T="str"
 | .int _=>T="int"
 | .ref p => (T = "list" /\ ∃ xs, aM K H p xs) \/ (T = "tuple" /\ ∃ o, K.lookup p = some o /\ o.cls = .type "tuple" /\ o.dict = none) \/
   (T="dict" /\((∃kvs,H p=some (.dK kvs))\/(∃kvs,H p=some (.dT kvs))\/∃o kvs,H p=some (.bu o (.dK kvs))))\/(T="set" /\∃S n,H p=some (.set S n))
 |_=>False
theorem AM{pins:List (Addr×Obj)}{σ:St}{H:Hp}{s:Shared}{T:String}{x:V}{v:Value}(I:Inv X pins σ H s)(r:RelV x v)(ty:o6 X.K T x H):
    s.TypeIs v T/\∀a,v= .ref a->∃ob,s.heap.get? a=some ob/\ob.dict=none:=by
  cases x with
  | str z =>
    obtain⟨t,rfl⟩:=r
    cases (show T="str" from ty)
    exact⟨typeIs_str s z t,fun _ e=>nomatch e⟩
  | int i =>
    obtain⟨t,rfl⟩:=r
    cases (show T="int" from ty)
    exact⟨typeIs_int s i t,fun _ e=>nomatch e⟩
  | ref p =>
    cases r
    rcases ty with ⟨rfl,xs,hq⟩|⟨rfl,o,hk,hc,hd⟩|⟨rfl,hk⟩|⟨rfl,S,n,hk⟩
    · obtain⟨its,_,pl,_⟩:=I.list hq
      refine⟨pl.isList.typeIs,fun a e=>?_⟩
      cases e
      obtain⟨o,n,e,c,hd,_⟩:=pl
      exact⟨o,e,hd⟩
    · refine⟨⟨o,I.cV p o hk,hc⟩,fun a e=>?_⟩
      cases e
      exact⟨o,I.cV _ o hk,hd⟩
    · have z:∃o,s.heap.get? p=some o/\o.ExactDict:=by
        rcases hk with ⟨kvs,hk⟩|⟨kvs,hk⟩|⟨ob,kvs,hk⟩
        · obtain⟨_,_,_,_,o,_,_,e,ex,_⟩:=I.hok p _ hk
          exact⟨o,e,ex⟩
        · obtain⟨_,_,_,_,o,_,_,e,ex,_⟩:=I.hok p _ hk
          exact⟨o,e,ex⟩
        · obtain⟨_,_,_,_,_,o,_,_,e,ex,_⟩:=I.hok p _ hk
          exact⟨o,e,ex⟩
      obtain⟨o,e,ex⟩:=z
      refine⟨⟨o,e,ex.1⟩,fun a e2=>?_⟩
      cases e2
      exact⟨o,e,ex.2.1⟩
    · obtain⟨o,_,_,_,e,ex,_⟩:=I.hok p _ hk
      refine⟨⟨o,e,ex.1⟩,fun a e2=>?_⟩
      cases e2
      exact⟨o,e,ex.2.1⟩
  |_=>exact False.elim ty
def sP(K:PySem.W.Frag)(T:String)(r:V->List V->Hp->VK->Prop)(to:TE):TE:=fun σ H Q=>to σ H fun x H1=>o6 K T x H1/\r x [] H1 Q
def jW(K:PySem.W.Frag)(T:String)(r:V->List V->Hp->VK->Prop)(to:TE)(t:TA):TE:=fun σ H Q=>to σ H fun x H1=>o6 K T x H1/\t σ H1 fun xs H2=>r x xs H2 Q
variable{o e:Expr}{es:List Expr}{to:TE}{t:TA}{name:Str}{apos cpos:Pos}{T id:String}{r:V->List V->Hp->VK->Prop}
theorem DB(pa:PlainAttrs T)(slot:Slot T name id)(hty:typeOf (.builtin id)=pure (.type "method_descriptor"))(hm:mL X id r)(ho:PE X o to)
  (hbase:attributeBase o name X.env (eval o X.env)=eval o X.env:=by rfl) (hline:(apos.endLine==cpos.line)=true:=by rfl):PE X (.Call (.Attribute o name apos) [] [] cpos) (sP X.K T r to):=by
 intro pins s σ H Q I h
 refine wpAny_Call_method0_late hbase hline (aK (ho pins s σ H _ I h) fun v s1 ⟨x,H1,I1,r1,ty,q1⟩=>?_)
 obtain⟨h1,h2⟩:=AM I1 r1 ty
 exact⟨T,id,pa,slot,hty,h1,h2,Calls.callWith_builtin rfl (PySem.evalArgs_none (hm pins s1 σ H1 x [] v [] Q I1 r1 .nil q1))⟩
theorem iu(pa:PlainAttrs T)(slot:Slot T name id)(hty:typeOf (.builtin id)=pure (.type "method_descriptor"))(hm:mL X id r)(ho:PE X o to)(ha:PA X (e::es) t)
  (hbase:attributeBase o name X.env (eval o X.env)=eval o X.env:=by rfl)
  (hfew : ((backTo cpos (starEach (e :: es) X.env)).all (fun x => !x.1) && (backToKw cpos (keywordEach [] X.env)).all (fun x => x.1.isSome)
   && decide ((e::es).length+([]:List Keyword).length+(if([]:List Keyword).isEmpty then 0 else 1)<30))=true:=by rfl)
  (hline:(apos.endLine==cpos.line)=true:=by rfl) (hs:starEach (e::es) X.env=(false,eval e X.env)::starEach es X.env:=by rfl) (hplain:(backTo cpos (starEach es X.env)).any (·.1)=false:=by rfl):
  PE X (.Call (.Attribute o name apos) (e::es) [] cpos) (jW X.K T r to t):=by
 intro pins s σ H Q I h
 refine wpAny_Call_method_late hbase hfew hline rfl (aK (ho pins s σ H _ I h) fun v s1 ⟨x,H1,I1,r1,ty,q1⟩=>?_)
 obtain⟨h1,h2⟩:=AM I1 r1 ty
 refine⟨T,id,pa,slot,hty,h1,h2,?_⟩
 have hA:=ha cpos pins s1 σ H1 _ I1 q1
 rw[hs] at hA⊢
 refine Calls.callWith_builtin (by show(false||(backTo cpos (starEach es X.env)).any (·.1))=false;rw[hplain]<;>rfl) (Calls.evalArgs_plain ?_)
 exact aK hA fun us s2 ⟨vs,H2,I2,r2,q2⟩=>hm pins s2 σ H2 x vs v us Q I2 r1 r2 q2
/-xs.append(e),list.index on a module's tuple .. are mL facts of 06m-/
end
def zp(X:Cx)(id:String)(r:V->List V->Hp->VK->Prop):Prop:=
 ∀(pins:List (Addr×Obj)) (s:Shared) (σ:St) (H:Hp) (x:V) (xs:List V) (v:Value) (us:List Value) (Q:VK),Inv X pins σ H s->RelV x v->Vals xs us->r x xs H Q->
  wpAny (model X.prog X.w) X.A (call (.builtin id) (v::us)) (EP X pins σ Q) X.xe s
theorem Vals.one{x:V}{us:List Value}(h:Vals [x] us):∃u,us=[u]/\RelV x u:=by
 cases h with
 |cons r t=>cases t;exact⟨_,rfl,r⟩
theorem Vals.two{x y:V}{us:List Value}(h:Vals [x,y] us):∃u v,us=[u,v]/\RelV x u/\RelV y v:=by
  cases h with
  | cons r t =>
    obtain⟨v,e,q⟩:=Vals.one t
    exact⟨_,v,by rw[e],r,q⟩
theorem Vals.zero:∀{us:List Value},Vals [] us->us=[]
 |_, .nil=>rfl
theorem Vals.dropLast{xs:List V}{us:List Value}(h:Vals xs us):Vals xs.dropLast us.dropLast:=by
  induction h with
  |nil=>exact .nil
  | cons r t ih =>
    cases t with
    |nil=>exact .nil
    |cons q t'=>exact .cons r ih
section
variable{X:Cx}{pins:List (Addr×Obj)}{σ:St}{H:Hp}{s:Shared}{l b:Addr}{xs ys zs:List V}
theorem Inv.DX{its its':List Value}{n:Nat}{f:Array Value->Array Value}{t':Nat}(I:Inv X pins σ H s)(hH:H l=some (.lst xs))
  (e:s.heap.get? l=some {cls:= .type "list",data:= .seq its.toArray n}) (hf:f its.toArray=its'.toArray) (hv:Vals ys its') (hz:ys.length<=sizeLine):
  Inv X pins σ (upd H l (.lst ys)) {s with heap:=s.heap.update l (Obj.mapSeq f),toks:=t'}:=by
 have q:=PySem.IsL.update e f
 rw[hf] at q
 refine I.write (x:=l) (e:=l) (by rw[hH];exact trivial) (.inl rfl) (fun b' u hb hu=>(Heap.get?_update_other s.heap (Obj.mapSeq f) (Ne.symm hb)).trans hu) ⟨_,q⟩ ?_
 exact⟨hz,its',_,hv,q⟩
theorem Inv.Cj{its:List Value}{t':Nat}(I:Inv X pins σ H s)(hv:Vals ys its)(hz:ys.length<=sizeLine):
  Inv X pins σ (upd H s.heap.objs.size (.lst ys)) {s with heap:=s.heap.push {cls:= .type "list",data:= .seq its.toArray},toks:=t'}:=
 I.laid (fun _ _ q=>Heap.get?_push_of_some _ q) (Nat.le_refl _) ⟨hz,its,0,hv,Heap.get?_push_size _ rfl⟩
theorem Inv.fresh(I:Inv X pins σ H s):H s.heap.objs.size=none:=I.hok.fresh (Nat.le_refl _)
theorem Inv.nF(I:Inv X pins σ H s)(hH:H l=some (.lst xs)):xs.length<=sizeLine/\∃(its:List Value) (n:Nat),Vals xs its/\xs.length=its.length/\s.heap.get? l=some {cls:= .type "list",data:= .seq its.toArray n}:=by
 obtain⟨z,its,n,r,e⟩:=I.hok l _ hH
 exact⟨z,its,n,r,r.length,e⟩
theorem GL{n:Nat}(h:n<=sizeLine):Builtin.List.listTooLong n=false:=by
 unfold Builtin.List.listTooLong
 exact decide_eq_false (by omega)
end
section
variable{X:Cx}
def mF:V->List V->Hp->VK->Prop:=fun x vs H Q=>∃l xs y,x= .ref l/\vs=[y]/\H l=some (.lst xs)/\xs.length<sizeLine/\Q .aE (upd H l (.lst (xs++[y])))
theorem iI:zp X "list.append" mF:=by
 intro pins s σ H x vs v us Q I rx rv h
 obtain⟨l,xs,y,rfl,rfl,hH,hz,q⟩:=h
 cases rx
 obtain⟨u,rfl,ru⟩:=rv.one
 obtain⟨z,its,n,r,hl,e⟩:=I.nF hH
 refine call_meets F.slot_list_append ⟨_,e,rfl⟩ F.entry_list_append (F.args_list_append_2 _ _) (PySem.list_append l its.toArray n u (by rw[List.size_toArray];omega)) ⟨e,?_⟩
 refine⟨.aE,_,I.DX (its':=its++[u]) hH e (by simp) (r.append (.cons ru .nil)) ?_,rfl,q⟩
 rw[List.length_append,List.length_singleton]
 omega
def Lb:V->List V->Hp->VK->Prop:=fun x vs H Q=>∃l b xs zs,x= .ref l/\vs=[.ref b]/\H l=some (.lst xs)/\H b=some (.lst zs)/\xs.length+zs.length<=sizeLine/\Q .aE (upd H l (.lst (xs++zs)))
theorem UW:zp X "list.extend" Lb:=by
 intro pins s σ H x vs v us Q I rx rv h
 obtain⟨l,b,xs,zs,rfl,rfl,hH,hB,hz,q⟩:=h
 cases rx
 obtain⟨u,rfl,ru⟩:=rv.one
 cases ru
 obtain⟨z,its,n,r,hl,e⟩:=I.nF hH
 obtain⟨z2,its2,n2,r2,hl2,e2⟩:=I.nF hB
 have hsz:its.toArray.size+its2.toArray.size<=sizeLine:=by rw[List.size_toArray,List.size_toArray];omega
 have J1:¬(!its.toArray.isEmpty && Builtin.List.listTooLong (its.toArray.size+its2.toArray.size))=true:=by
  rw[GL hsz,Bool.and_false]
  exact Bool.false_ne_true
 refine call_meets F.slot_list_extend ⟨_,e,rfl⟩ F.entry_list_extend (F.args_list_extend_2 _ _)
  (AutoSeq1.list_extend_list_list_0 l its.toArray n b its2.toArray n2 J1 (by rw[List.size_toArray];omega) (by omega)) ⟨e,e2,?_⟩
 refine⟨.aE,_,I.DX (its':=its++its2) hH e (by simp) (r.append r2) ?_,rfl,q⟩
 rw[List.length_append]
 omega
def t6:R2:=fun x y H Q=>∃l b xs zs,x= .ref l/\y= .ref b/\H l=some (.lst xs)/\H b=some (.lst zs)/\xs.length+zs.length<=sizeLine/\∀p,H p=none->Q (.ref p) (upd H p (.lst (xs++zs)))
theorem kB:cE X (binaryOp .Add) t6:=by
 intro pins s σ H x y v u Q I rx ry h
 obtain⟨l,b,xs,zs,rfl,rfl,hH,hB,hz,q⟩:=h
 cases rx
 cases ry
 obtain⟨z,its,n,r,hl,e⟩:=I.nF hH
 obtain⟨z2,its2,n2,r2,hl2,e2⟩:=I.nF hB
 refine PySem.P.add_list e e2 ?_ (by rw[List.size_toArray,List.size_toArray];omega)
 have ea:its.toArray++its2.toArray=(its++its2).toArray:=by simp
 rw[ea]
 exact⟨.ref _,_,I.Cj (t':=s.toks) (r.append r2) (by rw[List.length_append];omega),rfl,q _ I.fresh⟩
end
end L2
namespace Att
open PySem PySem.W PySem.Calls PyProof.Rows
theorem Nm{P:Params}{h:Heap}:∀(ns:List Int) (vs:List Value),WellAll P h vs (ns.map WData.int)->IntsAre vs ns:=by
  intro ns
  induction ns with
  | nil =>
    intro vs w
    rw[List.map_nil] at w
    cases w
    exact .nil
  | cons n ns ih =>
    intro vs w
    rw[List.map_cons] at w
    cases w with
    | cons a b =>
      cases a
      exact .cons _ _ (ih _ b)
theorem Sb{l:OpenLaw}{n:Nat}(hn:l.most=some n){P:Params}{h:Heap}{args:List WData}{vals:List Value}
    (hpre:l.row.toRowW.claim.pre args=true) (hwl:WellAll P h vals args):
    ∃a vs ns,vals=[Value.ref a]/\args=[WData.list (ns.map WData.int)]/\h.get? a=some {cls:= .type "list",data:= .seq vs.toArray}/\IntsAre vs ns/\ns.length<=n:=by
  have hsh:WShape.hasAll [] args [.list .int]=true:=(pre_splitW hpre).1
  have hc:l.pre.holds [] {args:=args}=true:=(pre_splitW hpre).2
  obtain⟨d,r,rfl,h1,h2⟩:=hasAllW_cons hsh
  obtain rfl:=hasAllW_nil h2
  obtain⟨xs,rfl,h3⟩:=hasW_list h1
  obtain⟨ns,rfl⟩:=items_int h3
  have hlen:ns.length<=n:=by
    unfold OpenLaw.pre at hc
    have h4:(WTm.not (.lt (.lit (.int (n:Int))) (.len (.arg 0)))).holds [] {args:=[.list (ns.map .int)]}=true:=by
      have h4:=(holds_andW hc).1
      rw[hn] at h4
      exact h4
    have h5:=condW_of h4 (w_not (w_lt w_lit (w_len_list (w_arg rfl))))
    rw[List.length_map] at h5
    refine Nat.le_of_not_lt fun q=>?_
    have q':(n:Int)<((ns.length:Nat):Int):=by omega
    first
      |(rw[decide_eq_true q'] at h5;exact absurd h5 (by decide))
      |(simp at h5;omega)
  cases hwl with
  | cons w1 w2 =>
    cases w2
    cases w1 with
    |list ho hall=>exact⟨_,_,ns,rfl,rfl,ho,Nm ns _ hall,hlen⟩
theorem Kw(l:OpenLaw)(args:List WData):l.row.toRowW.claim.post args (.bool true) args=true:=
 postW_of (r:=l.row.toRowW) (X:=(true==true))
  (show WShape.has [] (.bool true) .bool=true by first|rfl|decide|simp[WShape.has,WShape.arms,WShape.armsAll])
  (show(WTm.eq .res (.lit (.bool true))).value [] {args:=args,res:=some (.bool true),after:=args}=some (.bool (true==true)) from w_eq_bool (w_res rfl) w_lit) rfl
theorem Ug{l:OpenLaw}{n:Nat}{q:Program}{loose:List Str}{XP:(Str->Option Value)->Heap->Prop}{YP:World->Heap->Prop}{d:DefRec}
  (hn:l.most=some n) (hdf:d.params.defaults=[])
  (call : ∀ (w : World) (s₀ s₁ : Shared) (mg mb : Str -> Option Value) (fa : Addr) (o : Obj) (pm cd doc : Value) (a : Addr) (vs : List Value) (ns : List Int),
   Ground q loose [] XP w s₀ mg mb s₁.heap->YP w s₁.heap->
   s₁.heap.get? fa=some o->o.data= .func (docDef d.name d.params d.body d.scope pm cd doc)->s₁.heap.CodeRec cd d.name->mg d.name=some (.ref fa)->
   s₁.heap.get? a=some {cls:= .type "list",data:= .seq vs.toArray}->IntsAre vs ns->ns.length<=n->s₁.gens= #[]->
   codeAny (model l.prog w) callerA (.call (.ref fa) ⟨[.ref a],[]⟩) (fun r s'=>r= .ok (.ret (.bool true))/\OldK s₁.heap s'.heap/\s'.os=s₁.os/\AllBare s'.gens) s₁):
  WalkO q loose XP YP l.row.toRowW d [] (fun f vs=>PySem.call f vs):=by
 intro w s₀ s₁ mg mb G Y fa o pm cd doc dV kV ho hd hcd hD hmg hg args vals as hpre hlay hrd hwl hlo
 obtain rfl:dV= .none:=Dflts.none hD hdf
 obtain rfl:kV= .none:=Dflts.noKw hD
 obtain⟨a,vs,ns,rfl,rfl,hobj,hints,hlen⟩:=Sb hn hpre hwl
 refine enter_call (codeAny_mono (call w s₀ s₁ mg mb fa o pm cd doc a vs ns G Y ho (fd_plain hd) hcd hmg hobj hints hlen hg) fun r s' hq=>?_)
 obtain⟨rfl,h2,h3,h4⟩:=hq
 exact⟨.inl ⟨.bool true, .bool true,[],rfl,fun _=>rfl, .bool true,Kw l _,fun _=>⟨List.Pairwise.nil,fun _ hm=>(nomatch hm)⟩⟩,h2,h3,h4⟩
section
variable{prog:Program}{w:World}{A:Around}{E:Value->Shared->Prop}{s:Shared}{K:Frag}
def ledger(h:Heap)(L d:Addr):List (Addr×Obj):=(List.range h.objs.size).filterMap fun a=>if a=L\/a=d then none else(h.get? a).map fun o=>(a,o)
end
end Att
namespace L2
open PySem PySem.Spec PyProof.Rows
theorem zD:∀{vs:List Value} {ns:List Int},IntsAre vs ns->Vals (ns.map V.int) vs
 |_,_, .nil=> .nil
 |_,_, .cons n t h=> .cons ⟨t,rfl⟩ (zD h)
def tW(H:Hp):Prop:=∀b,H b=none\/∃o xs,H b=some (.bu o (.lst xs))
theorem Mf{P:Program}{w:World}{K:PySem.W.Frag}{mg mb:Str->Option Value}{CX:iJ}{k:Nat}{fa a:Addr}{fd:FuncData}{x:Str}{sp:Sp}{s₁:Shared}{vs:List Value}{ns:List Int}
    (KX:K.In s₁.heap) (hns:s₁.heap.Ns mainGlobals mg) (hb:s₁.heap.Ns builtinsNs mb) (Fb:∀x:Str,x≠"__name__" ->mb x=bootBuiltins x) (hlim:s₁.heap.NoLimit) (hg:s₁.gens= #[])
    (ha:s₁.heap.get? a=some {cls:= .type "list",data:= .seq vs.toArray}) (hi:IntsAre vs ns) (hl:ns.length<=sizeLine) (hr:ez k callerA)
    (F:∀base:Heap,K.In base->base.Ns mainGlobals mg->bz P w K mg base CX k fa fd [x] sp) (hbind:∀(s:Shared) (u:Value),BindsTo s fd ⟨[u],[]⟩ [(x,u)])
    (jQ:∀H:Hp,tW H->aM K H a (ns.map V.int)->sp [.ref a] H (fun v _=>v= .bl true) fun _ _ _=>False)
    (tG:∀H e s',CX [] H s₁ (fun _ _ _=>False) e s'->False):
    codeAny (model P w) callerA (.call (.ref fa) ⟨[.ref a],[]⟩) (fun r s'=>r= .ok (.ret (.bool true))/\OldK s₁.heap s'.heap/\s'.os=s₁.os/\AllBare s'.gens) s₁:=by
  have rv:=zD hi
  have Rx:=hi.length
  have core:∀H:Hp,tW H->aM K H a (ns.map V.int)->cB P w H s₁.heap->(∀b,H b≠none->b=a)->(H a≠none->K.lookup a=none)->
      codeAny (model P w) callerA (.call (.ref fa) ⟨[.ref a],[]⟩) (fun r s'=>r= .ok (.ret (.bool true))/\OldK s₁.heap s'.heap/\s'.os=s₁.os/\AllBare s'.gens) s₁:=by
    intro H hO hS hok hA hK
    have Ck:∀{b:Addr} {o:Obj},s₁.heap.get? b=some o->H b=none->(jc s₁.heap H).get? b=some o:=fun e n=>S7 e n
    have nY:∀{b:Addr} {o:Obj} {es:Array DictEntry} {ep:Nat},s₁.heap.get? b=some o->o.data= .dict es ep->H b=none:=fun{b o es ep} e d=>by
      cases q:H b with
      |none=>rfl
      | some u =>
        have e':b=a:=hA b (by rw[q];simp)
        subst e'
        rw[ha] at e;cases e
        have d':Data.seq vs.toArray _=Data.dict es ep:=d
        cases d'
    have pT:∀{b:Addr} {m:Str->Option Value},s₁.heap.Ns b m->(jc s₁.heap H).Ns b m:=fun{b m} ⟨o,es,ep,e,d,r⟩=>⟨o,es,ep,Ck e (nY e d),d,r⟩
    have zy:K.In (jc s₁.heap H):=fun b o e=>Ck (KX b o e) (by
      cases q:H b with
      |none=>rfl
      | some u =>
        have e':b=a:=hA b (by rw[q];simp)
        subst e'
        rw[hK (by rw[q];simp)] at e;cases e)
    have hM:Mod K mg (jc s₁.heap H):=⟨zy,pT hns,⟨mb,pT hb,Fb⟩,let ⟨mc,h1,h2⟩:=hlim;⟨mc,pT h1,h2⟩⟩
    have e0:pW P w K mg (jc s₁.heap H) callerA [] s₁ H:=⟨rfl,hM,fun b o e=>QU e,Nat.le_of_eq (NC _ _),trivial,fun b hb=>absurd (show b∈([]:List Addr) from hb) (by simp),hok, .of_eq hg⟩
    refine codeAny_mono ((F _ zy (pT hns)).run callerA [] s₁ H ⟨[.ref a],[]⟩ [.ref a] [.ref a] _ _ hr e0 (hbind s₁ (.ref a)) (.cons rfl .nil) (jQ H hO hS)) fun r s' h=>?_
    cases r with
    |error e=>exact(tG H e s' h).elim
    | ok fl =>
      cases fl with
      |next=>exact False.elim h
      |brk=>exact False.elim h
      |cont=>exact False.elim h
      | ret u =>
        obtain⟨v,H',os,bare,un,GH,r',q⟩:=h
        have q':v= .bl true:=q
        subst q'
        obtain rfl:u=Value.bool true:=r'
        refine⟨rfl,OldK.of_keep fun b o e=>?_,os,bare⟩
        cases q:H b with
        |none=>exact un.keep b o e q (by intro z;exact absurd (show b∈([]:List Addr) from z) (by simp)) (by simp)
        | some u =>
          rcases hO b with z|⟨ob,xs,z⟩
          · rw[q] at z;cases z
          · have z2:=un.g7 b ob _ z
            obtain⟨e1,_⟩:=hok b _ z
            obtain⟨e2,_⟩:=GH b _ z2
            rw[e] at e1;cases e1
            exact e2
  cases hk:K.lookup a with
  | some o =>
    have e:=KX a o hk
    rw[ha] at e
    cases e
    refine core (fun _=>none) (fun _=> .inl rfl) (.inr ⟨_,vs.toArray,_,hk,rfl,rfl,rfl,by rw[List.size_toArray,Rx];exact hl,by simpa using rv⟩) (fun b u z=>by have z':(none:Option HO)=some u:=z;cases z') (fun b z=>absurd rfl z) fun z=>absurd rfl z
  | none =>
    refine core (fun b=>if b=a then some (.bu {cls:= .type "list",data:= .seq vs.toArray} (.lst (ns.map V.int))) else none) (fun b=>?_) (.inl (.inr ⟨{cls:= .type "list",data:= .seq vs.toArray},if_pos rfl⟩)) (fun b u z=>?_) (fun b z=>?_) fun _=>hk
    · by_cases hb:b=a
      · exact .inr ⟨_,_,if_pos hb⟩
      · exact .inl (if_neg hb)
    · by_cases hb:b=a
      · have z':=(if_pos hb).symm.trans z
        cases z'
        subst hb
        exact⟨ha,by rw[List.length_map];exact hl,vs,_,rv,ha⟩
      · have z':=(if_neg hb).symm.trans z
        cases z'
    · by_cases hb:b=a
      · exact hb
      · exact absurd (if_neg hb) z
theorem SA{l:PySem.W.OpenLaw}{n k:Nat}{q:Program}{loose:List Str}{XP:(Str->Option Value)->Heap->Prop}{YP:World->Heap->Prop}{d:DefRec}{K:Params->PySem.W.Frag}{CX:World->iJ}{sp:World->Sp}{x:Str}
  (hn:l.most=some n) (hn2:n<=sizeLine) (hdf:d.params.defaults=[]) (hr:ez k callerA)
  (hY:∀(w:World) (h:Heap),YP w h->(K w.params).In h)
  (F : ∀ (w : World) (mg : Str -> Option Value) (fa : Addr) (h : Heap), (K w.params).In h -> h.Ns mainGlobals mg -> mg d.name = some (.ref fa) ->
   ∃fd:FuncData,(∀(s:Shared) (u:Value),BindsTo s fd ⟨[u],[]⟩ [(x,u)])/\
    ∀base:Heap,(K w.params).In base->base.Ns mainGlobals mg->bz l.prog w (K w.params) mg base (CX w) k fa fd [x] (sp w))
  (jQ:∀(w:World) (H:Hp) (a:Addr) (ns:List Int),ns.length<=n->tW H->aM (K w.params) H a (ns.map V.int)->sp w [.ref a] H (fun v _=>v= .bl true) fun _ _ _=>False)
  (tG:∀(w:World) (H:Hp) (s:Shared) (e:Value) (s':Shared),CX w [] H s (fun _ _ _=>False) e s'->False):
  PySem.W.WalkO q loose XP YP l.row.toRowW d [] (fun f vs=>PySem.call f vs):=by
 refine Att.Ug hn hdf fun w s₀ s₁ mg mb fa o pm cd doc a vs ns G Y ho hd hcd hmg hobj hints hlen hg=>?_
 have KX:=hY w _ Y
 obtain⟨fd,hb,hF⟩:=F w mg fa _ KX G.T.g hmg
 exact Mf KX G.T.g G.T.b G.T.builtins G.T.nolimit hg hobj hints (Nat.le_trans hlen hn2) hr hF hb (fun H hO hS=>jQ w H a ns hlen hO hS) fun H e s'=>tG w H s₁ e s'
end L2
/-THE LAST THEOREM (shape;LID,My.*are yours):
   My.Adr:a structure of the addresses that your layer names (classes,functions);My.Txt K t:a structure (Prop) of the equations over K;
   My.txt_mk:{K} {implicit addresses ..} (e1:nsIn K mainGlobals "law"=some (some (.ref f))) (e2:K.lookup f=some ⟨oc,od, .func (fnOf "law" "law" params body scope dV kV doc pm an cdv ct),sl⟩) (e3:codeIn K cdv "law"=true) .. :∃t,My.Txt K t
set_option maxRecDepth 100000 in
set_option maxHeartbeats 0 in
(the tactic k_is has no namespace:write k_is)-/
namespace L2
open PySem PySem.Spec PyProof.Rows
def bP(s:Stmt):Arguments:=match s with
 | .FunctionDef _ a _ _ _ _ _ _ _ _=>a
 |_=>{posonlyargs:=[],args:=[],vararg:=none,kwonlyargs:=[],kw_defaults:=[],kwarg:=none,defaults:=[]}
def bL(s:Stmt):List Stmt:=match s with
 | .FunctionDef _ _ b _ _ _ _ _ _ _=>b
 |_=>[]
def az(s:Stmt):Scope:=match s with
 | .FunctionDef _ _ _ _ _ _ sc _ _ _=>sc
 |_=>{kind:= .function,names:=[],isGenerator:=false,isCoroutine:=false}
abbrev bH:iJ:=fun _ _ _ _ _ _=>False
abbrev E0:XK:=fun _ _ _=>False
theorem RW{X:Cx}:Passes bH X E0:=fun _ _ _ _ _ _ _ h=>h.elim
structure bJ(K:PySem.W.Frag)(x qual:Str)(st:Stmt)(f:Addr)(fd:FuncData):Prop where
 ex:∃(oc:Value) (od:Option Addr) (kV doc pm:Value) (an:Option Addr) (cdv ct:Value) (osl:Array (Option Value)),
  fd=PySem.W.fnOf x qual (bP st) (bL st) (az st) .none kV doc pm an cdv ct/\K.lookup f=some ⟨oc,od, .func fd,osl⟩/\PySem.W.codeIn K cdv qual=true
 kp:PySem.W.keepIn K (.ref f)=true
section
variable{P:Program}{w:World}{K:PySem.W.Frag}{mg:Str->Option Value}{base:Heap}
theorem bJ.ok{x qual:Str}{st:Stmt}{f:Addr}{fd:FuncData}{N ps:List Str}{k:Nat}{sp:Sp}(F:bJ K x qual st f fd)(S:bU N ps (az st))(len:∀vs H Q E,sp vs H Q E->vs.length=ps.length)
  (hbody : ∀ (cdv : Value) (A : Around) (outer : List Env) (s : Shared) (H : Hp) (vs : List V) (Q : VK) (E : XK), ez k (A.deeper (envOfC qual (az st) s.heap.objs.size f cdv)) -> sp vs H Q E ->
   ∃t,gy (lX bH P w K mg base N qual (az st) f cdv A outer s H E).qz (bL st) t/\t {nx:=fun _ H'=>Q .aE H',rt:=Q} (start N vs) H):bz P w K mg base bH (k+1) f fd ps sp:=by
 obtain⟨oc,od,kV,doc,pm,an,cdv,ct,osl,rfl,lk,hcd⟩:=F.ex
 refine SN lk hcd S len fun A outer s H vs Q E hr jQ=>?_
 obtain⟨t,h,q⟩:=hbody cdv A outer s H vs Q E hr jQ
 exact⟨t,h.qz,q⟩
theorem bJ.binds{x qual:Str}{st:Stmt}{f:Addr}{fd:FuncData}{ps:List Str}(F:bJ K x qual st f fd)
  (h:∀(kV doc pm:Value) (an:Option Addr) (cdv ct:Value) (us:List Value),us.length=ps.length->bindArgs (PySem.W.fnOf x qual (bP st) (bL st) (az st) .none kV doc pm an cdv ct) ⟨us,[]⟩=pure (ps.zip us)):Binds K fd ps []:=by
 obtain⟨oc,od,kV,doc,pm,an,cdv,ct,osl,rfl,lk,hcd⟩:=F.ex
 exact .all (h kV doc pm an cdv ct)
theorem cC{x qual:Str}{st:Stmt}{f:Addr}{oc:Value}{od an:Option Addr}{osl:Array (Option Value)}{kV doc pm cdv ct:Value}(l:K.lookup f=some ⟨oc,od, .func (PySem.W.fnOf x qual (bP st) (bL st) (az st) .none kV doc pm an cdv ct),osl⟩)
  (c:PySem.W.codeIn K cdv qual=true) (k:PySem.W.keepIn K (.ref f)=true):bJ K x qual st f (PySem.W.fnOf x qual (bP st) (bL st) (az st) .none kV doc pm an cdv ct):=⟨⟨oc,od,kV,doc,pm,an,cdv,ct,osl,rfl,l,c⟩,k⟩
end
theorem zN{n:Nat}(h:n<=1000):n<sizeLine:=Nat.lt_of_le_of_lt h (by decide)
section
variable{X:Cx}
theorem pv(i:Nat){x:Str}{pos:Pos}(hN:X.N[i]?=some x:=by rfl)(hv:tP X.env.scope x:=by first|exact Or.inl rfl|exact Or.inr (Or.inl rfl)|exact Or.inr (Or.inr rfl))(hd:(x==("__debug__":Str))=false:=by decide)
  (hcd:(x==("__classdict__":Str))=false:=by decide):PE X (.Name x pos) (cQ i):=ND hN hv hd hcd
end
theorem Br{A B:Prop}(h:B):if false=true then A else B:=by
 rw[if_neg Bool.false_ne_true]
 exact h
theorem qx{A B:Prop}(h:A):if true=true then A else B:=by
 rw[if_pos rfl]
 exact h
theorem mq{c A B:Prop}[Decidable c](h1:c->A)(h2:¬c->B):if c then A else B:=by
 by_cases h:c
 ·rw[if_pos h]
  exact h1 h
 ·rw[if_neg h]
  exact h2 h
def aO(H H':Hp):Prop:=∀b o,H b=some o->H' b=some o
theorem aO.refl(H:Hp):aO H H:=fun _ _ h=>h
theorem aO.trans{H H1 H2:Hp}(a:aO H H1)(b:aO H1 H2):aO H H2:=fun c o h=>b c o (a c o h)
theorem aO.free{H H':Hp}(e:aO H H'){l:Addr}(h:H' l=Option.none):H l=Option.none:=by
  cases q:H l with
  |none=>rfl
  | some o =>
    rw[e l o q] at h
    cases h
theorem aO.seq{K:PySem.W.Frag}{H H':Hp}{a:Addr}{xs:List V}(e:aO H H')(h:aM K H a xs):aM K H' a xs:=by
 rcases h with (h|⟨o,h⟩)|h
 ·exact .inl (.inl (e _ _ h))
 ·exact .inl (.inr ⟨o,e _ _ h⟩)
 ·exact .inr h
end L2
set_option maxHeartbeats 1000000
namespace L2
open PySem PySem.Spec PyProof.Rows
def gH(cells:List (Str×Addr)):List (Str×NameKind)->List (Str×Addr)->List (Str×Addr)
 |[],acc=>acc
 |(n,k)::r,acc=>gH cells r (if k==NameKind.free then(match cells.lookup n with|some a=>(n,a)::acc|none=>acc) else acc)
theorem vm{env:Env}{f:Str×NameKind->List (Str×Addr)->Sem (ForInStep (List (Str×Addr)))}
    (hf:∀x acc,f x acc=if(x.2==NameKind.free)=true then(do let a<-cellOf env x.1;pure (ForInStep.yield ((x.1,a)::acc))) else pure (ForInStep.yield acc)):
    ∀(l:List (Str×NameKind)) (acc:List (Str×Addr)),(∀x∈l,x.2= .free->∃a,env.cells.lookup x.1=some a)->(forIn l acc f:Sem (List (Str×Addr)))=pure (gH env.cells l acc)
  |[],acc,_=>by rw[List.forIn_nil];rfl
  | (n, k) :: r, acc, h => by
    have hr:=fun x hx=>h x (List.mem_cons_of_mem _ hx)
    rw[List.forIn_cons,hf]
    by_cases hk:(k==NameKind.free)=true
    · have hk':k=NameKind.free:=by simpa using hk
      obtain⟨a,ha⟩:=h (n,k) List.mem_cons_self hk'
      have hc:cellOf env n=pure a:=by unfold cellOf;rw[ha]
      rw[if_pos hk,hc]
      show(forIn r ((n,a)::acc) f:Sem (List (Str×Addr)))=pure (gH env.cells r _)
      rw[vm hf r _ hr,if_pos hk,ha]
    · rw[if_neg hk]
      show(forIn r acc f:Sem (List (Str×Addr)))=pure (gH env.cells r _)
      rw[vm hf r _ hr,if_neg hk]
theorem Iw{scope:Scope}{env:Env}(h:∀x∈scope.names,x.2= .free->∃a,env.cells.lookup x.1=some a):closureFor scope env=pure (gH env.cells scope.names []):=by
 simp only[closureFor]
 rw[vm (env:=env) (fun⟨n,k⟩ acc=>by dsimp only) scope.names [] h]
 rfl
theorem uA{cells:List (Str×Addr)}:∀{l:List (Str×NameKind)} {acc:List (Str×Addr)} {x:Str} {c:Addr},(∀y d,acc.lookup y=some d->cells.lookup y=some d)->(gH cells l acc).lookup x=some c->cells.lookup x=some c
  |[],_,_,_,ha,h=>ha _ _ h
  | (n, k) :: r, acc, x, c, ha, h => by
    refine uA (l:=r) ?_ h
    intro y d hd
    by_cases hk:(k==NameKind.free)=true
    · rw[if_pos hk] at hd
      cases q:cells.lookup n with
      |none=>rw[q] at hd;exact ha _ _ hd
      | some a =>
        rw[q] at hd
        by_cases hy:(y==n)=true
        · have hy':y=n:=by simpa using hy
          subst hy'
          simp[List.lookup_cons] at hd
          rw[q,hd]
        · have hy':(y==n)=false:=by simpa using hy
          simp only[List.lookup_cons,hy'] at hd
          exact ha _ _ hd
    · rw[if_neg hk] at hd;exact ha _ _ hd
theorem EB{cells:List (Str×Addr)}:∀{l:List (Str×NameKind)} {acc:List (Str×Addr)} {x:Str},(acc.lookup x).isSome=true->((gH cells l acc).lookup x).isSome=true
  |[],_,_,h=>h
  | (n, k) :: r, acc, x, h => by
    refine EB (l:=r) ?_
    by_cases hk:(k==NameKind.free)=true
    · rw[if_pos hk]
      cases q:cells.lookup n with
      |none=>exact h
      | some a =>
        by_cases hy:(x==n)=true
        · simp[List.lookup_cons,hy]
        · have hy':(x==n)=false:=by simpa using hy
          simp only[List.lookup_cons,hy']
          exact h
    · rw[if_neg hk];exact h
theorem CP{cells:List (Str×Addr)}:∀{l:List (Str×NameKind)} {acc:List (Str×Addr)} {x:Str} {a:Addr},(x,NameKind.free)∈l->cells.lookup x=some a->((gH cells l acc).lookup x).isSome=true
  |[],_,_,_,h,_=>nomatch h
  | (n, k) :: r, acc, x, a, h, hc => by
    rcases List.mem_cons.mp h with e|h
    · obtain⟨rfl,rfl⟩:=Prod.mk.inj e
      refine EB (l:=r) ?_
      rw[if_pos (by decide),hc]
      simp[List.lookup_cons]
    · exact CP (l:=r) h hc
theorem CL{cells:List (Str×Addr)}{l:List (Str×NameKind)}{x:Str}{a:Addr}(h:(x,NameKind.free)∈l)(hc:cells.lookup x=some a):(gH cells l []).lookup x=some a:=by
 obtain⟨c,e⟩:=Option.isSome_iff_exists.mp (CP (acc:=[]) h hc)
 have:=uA (fun y d (q:([]:List (Str×Addr)).lookup y=some d)=>by simp at q) e
 rw[hc] at this;cases this
 exact e
theorem tN{env:Env}:∀{l:List (Str×NameKind)} {x:Str} {k:NameKind},(∀y∈l,y.2≠ .cell)->
    (l.map fun(n,k)=>if(k==NameKind.free && env.scope.kind== .function && env.kindOf n==some .cell) then(n,NameKind.cell) else(n,k)).lookup x=some k->k= .cell\/k= .free->l.lookup x=some .free
  |[],_,_,_,h,_=>by simp at h
  | (n, q) :: r, x, k, hc, h, hk => by
    have hr:=fun y hy=>hc y (List.mem_cons_of_mem _ hy)
    have ih:=tN (env:=env) (l:=r) (x:=x) (k:=k) hr
    rw[List.map_cons] at h
    dsimp only at h
    by_cases hx:(x==n)=true
    · simp only[List.lookup_cons,hx]
      by_cases hq:(q==NameKind.free && env.scope.kind== .function && env.kindOf n==some .cell)=true
      · have:q= .free:=by
          simp only[Bool.and_eq_true] at hq
          simpa using hq.1.1
        rw[this]
      · rw[if_neg hq] at h
        simp only[List.lookup_cons,hx] at h
        have zx:q=k:=Option.some.inj h
        rcases hk with e|e
        · exact absurd (zx.trans e) (hc (n,q) List.mem_cons_self)
        · rw[zx,e]
    · have hx':(x==n)=false:=by simpa using hx
      simp only[List.lookup_cons,hx']
      refine ih ?_ hk
      by_cases hq:(q==NameKind.free && env.scope.kind== .function && env.kindOf n==some .cell)=true
      · rw[if_pos hq] at h
        simp only[List.lookup_cons,hx'] at h
        exact h
      · rw[if_neg hq] at h
        simp only[List.lookup_cons,hx'] at h
        exact h
theorem Aj{env:Env}:∀{l:List (Str×NameKind)} {x:Str},l.lookup x=some .free->
    (l.map fun(n,k)=>if(k==NameKind.free && env.scope.kind== .function && env.kindOf n==some .cell) then(n,NameKind.cell) else(n,k)).lookup x=some .cell\/
    (l.map fun(n,k)=>if(k==NameKind.free && env.scope.kind== .function && env.kindOf n==some .cell) then(n,NameKind.cell) else(n,k)).lookup x=some .free
  |[],_,h=>by simp at h
  | (n, q) :: r, x, h => by
    have ih:=Aj (env:=env) (l:=r) (x:=x)
    rw[List.map_cons]
    dsimp only
    by_cases hx:(x==n)=true
    · simp only[List.lookup_cons,hx] at h
      by_cases hq:(q==NameKind.free && env.scope.kind== .function && env.kindOf n==some .cell)=true
      · rw[if_pos hq]
        left
        simp only[List.lookup_cons,hx]
      · rw[if_neg hq]
        right
        simp only[List.lookup_cons,hx]
        exact h
    · have hx':(x==n)=false:=by simpa using hx
      simp only[List.lookup_cons,hx'] at h
      have:=ih h
      by_cases hq:(q==NameKind.free && env.scope.kind== .function && env.kindOf n==some .cell)=true
      · rw[if_pos hq]
        simp only[List.lookup_cons,hx']
        exact this
      · rw[if_neg hq]
        simp only[List.lookup_cons,hx']
        exact this
def dj(sx:Scope)(NX:List Str)(scope:Scope)(N:List Str)(mp:List (Option Nat)):Bool:=
 (scope.kind== .function) && scope.names.all (fun y=>y.2 != .cell) && scope.names.all (fun y=>y.2 != .local||scope.names.lookup y.1==some .local) &&
 scope.names.all (fun y=>y.2 != .free||sx.names.lookup y.1==some .cell||sx.names.lookup y.1==some .free) &&(mp.length==N.length) &&
 ((N.zip mp).all fun p=>match p.2 with|none=>true|some j=>NX[j]?==some p.1 && scope.names.lookup p.1==some .free)
structure cN(sx:Scope)(NX:List Str)(scope:Scope)(N:List Str)(mp:List (Option Nat)):Prop where
 kind:scope.kind= .function
 cell:∀y∈scope.names,y.2≠ .cell
 names:∀y∈scope.names,y.2= .local->scope.names.lookup y.1=some .local
 free:∀y∈scope.names,y.2= .free->sx.names.lookup y.1=some .cell\/sx.names.lookup y.1=some .free
 len:mp.length=N.length
 look:∀(i j:Nat) (x:Str),mp[i]?=some (some j)->N[i]?=some x->NX[j]?=some x/\scope.names.lookup x=some .free
theorem cN.of{sx:Scope}{NX:List Str}{scope:Scope}{N:List Str}{mp:List (Option Nat)}(h:dj sx NX scope N mp=true):cN sx NX scope N mp:=by
 unfold dj at h
 simp only[Bool.and_eq_true,List.all_eq_true] at h
 obtain⟨⟨⟨⟨⟨h1,h2⟩,h3⟩,h4⟩,h5⟩,h6⟩:=h
 refine⟨by simpa using h1,fun y hy=>by simpa using h2 y hy,fun y hy e=>?_,fun y hy e=>?_,by simpa using h5,fun i j x e1 e2=>?_⟩
 ·have:=h3 y hy
  simpa[e] using this
 ·have:=h4 y hy
  simpa[e] using this
 ·have hm:(x,some j)∈N.zip mp:=by
   have:(N.zip mp)[i]?=some (x,some j):=by
    rw[List.getElem?_zip_eq_some];exact⟨e2,e1⟩
   exact List.mem_of_getElem? this
  have:=h6 _ hm
  simpa using this
def fG(mp:List (Option Nat))(σ:St):St:=mp.map fun o=>match o with|none=>none|some j=>match σ[j]? with|some v=>v|none=>none
def gD(X:Cx)(scope:Scope)(C:Addr)(N:List Str)(s₀:Shared)(H₀:Hp)(fp:List Addr):Cx:=
 {X with N:=N,s₀:=s₀,H₀:=H₀,env:=compEnvC scope (gH X.env.cells scope.names []) C X.env,outer:=X.stack,ex:=fp,fn:=fun _=>false,pn:=[],xe:=fun _ _=>False}
def oz(X:Cx)(ifs:List Expr)(t:TT):Prop:=
 ∀(pins:List (Addr×Obj)) (s:Shared) (σ:St) (H:Hp) (Q:Bool->Hp->Prop),Inv X pins σ H s->t σ H Q->
  wpAny (model X.prog X.w) X.A (forIn ifs true fun c r=>if r=true then do let ok<-isTrue c X.env (eval c X.env);pure (ForInStep.yield ok) else pure (ForInStep.yield r)) (TP X pins σ Q) X.xe s
def mQ:TT:=fun _ H Q=>Q true H
theorem gm{X:Cx}:oz X [] mQ:=fun pins s σ H Q I h=>wpAny_tests_nil ⟨H,I,h⟩
theorem j3{X:Cx}{c:Expr}{t:TT}(h:PT X c t):oz X [c] t:=fun pins s σ H Q I q=>wpAny_tests_one (h pins s σ H Q I q)
def nL(J:It)(g:TG)(tc:TT)(te:TE)(acc:Addr)(Qe:Hp->Prop)(σ:St)(H:Hp):Prop:=∃W:Nat->Nat->St->Hp->Prop,(∃m,W 0 m σ H)/\∀i m σ H,W i m σ H->
 (J.stop i H /\ Qe H) \/ (J.go i H /\ ∃ Nx : St -> Hp -> Prop, (∀ σ' H', Nx σ' H' -> ∃ m', m' < m /\ W (i + 1) m' σ' H') /\ ∀ x H', J.jC i H x H' -> g x σ H' fun σ2 H2 => tc σ2 H2 fun b H3 =>
  if b=true then te σ2 H3 fun v H4=>∃ys,H4 acc=some (.lst ys)/\ys.length<sizeLine/\Nx σ2 (upd H4 acc (.lst (ys++[v]))) else Nx σ2 H3)
def lq(wi:TI)(g:TG)(tc:TT)(te:TE)(mp:List (Option Nat)):TE:=fun σ H Q=>wi σ H fun J H1=>∀acc,H1 acc=none->nL J g tc te acc (fun H'=>Q (.ref acc) H') (fG mp σ) (upd H1 acc (.lst []))
section
variable{prog:Program}{w:World}{A:Around}{R:Result->Shared->Prop}{s:Shared}
theorem G2{elt target iter:Expr}{ifs:List Expr}{scope:Scope}{pos:Pos}{it acc:Value}{env:Env}(I:Nat->Shared->Prop)
    (turn:∀n s,I n s->wpAny (model prog w) A (pyNext it) (fun r s₁=>match r with
      |none=>R (.ok .next) s₁
      |some v=>wpAny (model prog w) A (letOwnedTupleGo target it v) (fun _ s₀=>wpAny (model prog w) A (assign target env v) (fun _ s₂=>
          wpAny (model prog w) A (forIn ifs true fun c r=>if r=true then do let ok<-isTrue c env (eval c env);pure (ForInStep.yield ok) else pure (ForInStep.yield r)) (fun ok s₃=>
            if ok=true then wpAny (model prog w) A (eval elt env) (fun x s₄=>
              wpAny (model prog w) A (call (.builtin "list.append") [acc,x]) (fun _ s₅=>∃m,m<n/\I m s₅) (fun _ _=>False) s₄) (fun _ _=>False) s₃
            else∃m,m<n/\I m s₃) (fun _ _=>False) s₂) (fun _ _=>False) s₀) (fun _ _=>False) s₁) (fun _ _=>False) s)
    (n:Nat) (h:I n s):
    codeAny (model prog w) A (.compLoop (.ListComp elt [⟨target,iter,ifs,0⟩] scope pos) 0 it acc env) R s:=by
  refine codeAny_loop rfl I (fun n s hI=>?_) n h
  show wpAny _ A ((compTurn (.ListComp elt [⟨target,iter,ifs,0⟩] scope pos) 0 it acc env).onRaise (fun x=>do noteFrame x env;theTreesLotGoes x)) _ _ s
  refine wpAny_noted ?_
  rw[compTurn_list]
  refine wpAny_bind (wpAny_standAt (wpAny_bind (wpAny_mono (turn n s hI) (fun r s₁ h₁=>?_) fun _ _ h'=>h'.elim)))
  cases r with
  |none=>exact wpAny_pure h₁
  | some v =>
    refine wpAny_bind (wpAny_mono h₁ (fun _ s₀ h₀=>?_) fun _ _ h'=>h'.elim)
    refine wpAny_bind (wpAny_mono h₀ (fun _ s₂ h₂=>wpAny_bind (wpAny_mono h₂ (fun ok s₃ h₃=>?_) fun _ _ h'=>h'.elim)) fun _ _ h'=>h'.elim)
    cases ok with
    |false=>exact wpAny_pure ⟨rfl,h₃⟩
    | true =>
      exact wpAny_bind (wpAny_bind (wpAny_mono h₃ (fun x s₄ h₄=>wpAny_bind (wpAny_mono h₄ (fun _ s₅ h₅=>wpAny_pure (wpAny_pure ⟨rfl,h₅⟩)) fun _ _ h'=>h'.elim)) fun _ _ h'=>h'.elim))
end
section
variable{X:Cx}
theorem BC{elt iter tg:Expr}{ifs:List Expr}{scope:Scope}{pos pos':Pos}{N:List Str}{mp:List (Option Nat)}{wi:TI}{g:TG}{tc:TT}{te:TE}{use:Option (Value->Sem Unit)}
    {pins:List (Addr×Obj)} {s:Shared} {σ:St} {H:Hp} {Q:VK} {QQ:Value->Shared->Prop}
    (ok:cN X.env.scope X.N scope N mp) (hc:X.calm=true) (hi:PI X tg iter wi)
    (hb:∀C s₀ H₀ fp,PG (gD X scope C N s₀ H₀ fp) tg g/\oz (gD X scope C N s₀ H₀ fp) ifs tc/\PE (gD X scope C N s₀ H₀ fp) elt te)
    (hs:∀x,foldedSetIterable iter X.env x=pure x) (I:Inv X pins σ H s) (h:lq wi g tc te mp σ H Q)
    (fin:∀acc C H' s' m,Inv X pins σ H' s'->gb X pins H' C->s'.heap.Ns C m->Q (.ref acc) H'->compPost (model X.prog X.w) X.A X.xe use QQ (.ref acc) C (.ok .next) s'):
    wpAny (model X.prog X.w) X.A (comprehension (.ListComp elt [⟨tg,iter,ifs,0⟩] scope pos) scope X.env pos' (newList []) false (eval iter X.env) use) QQ X.xe s:=by
  have hfree:∀x∈scope.names,x.2= .free->∃a,X.env.cells.lookup x.1=some a:=fun x hx e=>I.ok.has x.1 (ok.free x hx e)
  refine wpAny_comprehension_free (use:=use) rfl hs (Iw hfree) ok.kind ok.names (aK (hi pins s σ H _ I h) fun v s1 h1=>aK h1 fun itv s2 h2=>?_)
  obtain⟨it,fp,tn,J,H2,e,I2,T,st2,f2,hW⟩:=h2
  subst e
  refine wpAny_newObj_type (wpAny_newFunctionEnv ok.cell (by intro y hy;simp at hy) (fun h₁ vg uB=>?_) ok.kind)
  dsimp only at vg uB⊢
  have I3:=I2.Cj (its:=[]) (ys:=[]) (t':=s2.toks) .nil (Nat.zero_le _)
  have hW:=hW s2.heap.objs.size I2.fresh
  obtain⟨W,⟨m0,w0⟩,turn⟩:=hW
  generalize yL:s2.heap.push {cls:= .type "list",dict:=none,data:= .seq ([]:List Value).toArray}=HP at vg uB⊢
  have I3:Inv X pins σ (upd H2 s2.heap.objs.size (.lst [])) {s2 with heap:=HP}:=by rw[<-yL];exact I3
  generalize Pp:upd H2 s2.heap.objs.size (.lst [])=H3 at I3 w0
  have hC:HP.objs.size=s2.heap.objs.size+1:=by rw[<-yL,Heap.size_push]
  have old:∀b o,HP.get? b=some o->h₁.get? b=some o:=fun b o e=>uB.extBut b o (Nat.ne_of_lt (Heap.lt_size e)) (Heap.get?_push_of_some _ e)
  have jf:∀b∈fp,b<s2.heap.objs.size:=fun b hb=>by
    obtain⟨o,e,_⟩:=T.obj 0 _ st2 b hb
    exact Heap.lt_size e
  have Ls:∀b∈fp,H3 b=none:=fun b hb=>by
    rw[<-Pp,aq (Nat.ne_of_lt (jf b hb))]
    exact(f2 b hb).1
  have oA:∀{x:Str} {c:Addr},(gH X.env.cells scope.names []).lookup x=some c->X.env.cells.lookup x=some c:=fun{x c} e=>uA (fun y d q=>by simp at q) e
  have qZ:(gD X scope HP.objs.size N {s2 with heap:=HP} H3 fp).Ok:=by
    refine⟨I2.ok.mod,ok.kind,I2.ok.glob,I2.ok.blt,Nat.le_refl _,fun x y c e1 e2=>I2.ok.inj x y c (oA e1) (oA e2),fun x hx=>?_,(fun x c e=>absurd (show false=true from e) (by decide)),I2.ok.hd,I2.ok.frames, .inl rfl,fun b hb=>?_,I3.bs,Nat.le_trans I3.ok.jZ I3.sz,fun b o e hb=>?_,fun b hb hz=>?_,I3.stack,I3.BB⟩
    · have hx':scope.names.lookup x=some .free:=by
        rcases hx with hx|hx
        · exact tN ok.cell hx (.inl rfl)
        · exact tN ok.cell hx (.inr rfl)
      have hm:=PySem.mem_of_lookup hx'
      obtain⟨a,ha⟩:=hfree _ hm rfl
      exact⟨a,CL hm ha⟩
    · refine⟨fun z=>?_,fun x c e=>(f2 b hb).2.2.2.2.1 x c (oA e)⟩
      have z':b=HP.objs.size:=z
      have q:=jf b hb
      rw[z',hC] at q
      exact absurd q (Nat.not_lt.mpr (Nat.le_succ _))
    · rcases(f2 b hb).2.2.2.1 with z|z
      · exact I2.ok.nR b o e z
      · exact absurd (Nat.lt_of_lt_of_le (Heap.lt_size (I2.ok.bs b o e).1) z) (Nat.lt_irrefl _)
    · rcases List.mem_cons.mp (I2.uE b hz) with z|z
      · exact(f2 b hb).2.1 z
      · exact(f2 b hb).2.2.1 z
  have IY:Inv (gD X scope HP.objs.size N {s2 with heap:=HP} H3 fp) [] (fG mp σ) H3 {s2 with heap:=h₁,toks:=s2.toks+([]:List (Str×Value)).length}:=by
    refine⟨qZ,rfl,I2.bare,Un.kept old,⟨_,vg,fun i x v e1 e2 e3=>?_⟩,fun x c e=>?_,I3.hok.fresh (Nat.le_refl _),fun x c e=>I3.gv x c (oA e),fun p hp=>absurd (show p∈([]:List (Addr×Obj)) from hp) (by simp),I3.hok.kept old,?_⟩
    · have hj:∃j,mp[i]?=some (some j)/\σ[j]?=some (some v):=by
        unfold fG at e2
        rw[List.getElem?_map] at e2
        cases q:mp[i]? with
        |none=>rw[q] at e2;cases e2
        | some o =>
          rw[q] at e2
          cases o with
          |none=>cases e2
          | some j =>
            refine⟨j,rfl,?_⟩
            have e2:(match σ[j]? with|some v=>v|none=>none)=some v:=Option.some.inj e2
            cases r:σ[j]? with
            |none=>rw[r] at e2;cases e2
            | some u =>
              rw[r] at e2
              have e2:u=some v:=e2
              rw[e2]
      obtain⟨j,hj1,hj2⟩:=hj
      obtain⟨l1,l2⟩:=ok.look i j x hj1 e1
      have hm:=PySem.mem_of_lookup l2
      have kx:=ok.free _ hm rfl
      obtain⟨mm,_,hl⟩:=I3.loc
      obtain⟨u,ru,lk⟩:=hl j x v l1 hj2 (kx.elim (fun z=> .inr (.inl z)) fun z=> .inr (.inr z))
      refine⟨u,ru, .inr ⟨Aj l2,?_⟩⟩
      rcases lk with ⟨k,_⟩|⟨_,c,e,z⟩
      · exfalso
        have k':X.env.scope.names.lookup x=some .local:=k
        rcases kx with kx|kx
        · rw[k'] at kx;cases kx
        · rw[k'] at kx;cases kx
      · refine⟨c,CL hm e,?_⟩
        obtain⟨o,ho,hd⟩:=z
        exact⟨o,old c o ho,hd⟩
    · obtain⟨v,o,ho,hd⟩:=I3.cell x c (oA e)
      exact⟨v,o,old c o ho,hd⟩
    · show(fG mp σ).length=N.length
      unfold fG
      rw[List.length_map,ok.len]
  have jB:∀{H':Hp},(∀b∈fp,H' b=none)->∀b∈fp,gb (gD X scope HP.objs.size N {s2 with heap:=HP} H3 fp) [] H' b:=fun{H'} hn b hb=>
    ⟨hn b hb,(qZ.p5 b hb).1,qZ.nU b hb, .inl hb,(qZ.p5 b hb).2,fun p hp=>absurd (show p∈([]:List (Addr×Obj)) from hp) (by simp)⟩
  have CN:tn 0 h₁:=T.keep 0 _ _ st2 fun b hb o e=>old b o (by rw[<-yL];exact Heap.get?_push_of_some _ e)
  have loop:codeAny (model X.prog X.w) X.A (.compLoop (.ListComp elt [⟨tg,iter,ifs,0⟩] scope pos) 0 (.ref it) (.ref s2.heap.objs.size) (compEnvC scope (gH X.env.cells scope.names []) HP.objs.size X.env))
      (compPost (model X.prog X.w) X.A X.xe use QQ (.ref s2.heap.objs.size) HP.objs.size) {s2 with heap:=h₁,toks:=s2.toks+([]:List (Str×Value)).length}:=by
    obtain⟨hg,ht,he⟩:=hb HP.objs.size {s2 with heap:=HP} H3 fp
    generalize hY:gD X scope HP.objs.size N {s2 with heap:=HP} H3 fp=Y at hg ht he IY jB
    have yp:Y.prog=X.prog:=by rw[<-hY];rfl
    have yw:Y.w=X.w:=by rw[<-hY];rfl
    have yK:Y.K=X.K:=by rw[<-hY];rfl
    have yA:Y.A=X.A:=by rw[<-hY];rfl
    have yc:Y.calm=true:=by rw[<-hY];exact hc
    have yx:Y.xe=fun _ _=>False:=by rw[<-hY];rfl
    have Cy:Y.env=compEnvC scope (gH X.env.cells scope.names []) HP.objs.size X.env:=by rw[<-hY];rfl
    rw[<-Cy]
    refine G2 (fun n s'=>∃i σ' H',Inv Y [] σ' H' s'/\tn i s'.heap/\(∀b∈fp,H' b=none)/\W i n σ' H') ?_ m0 ⟨0,_,H3,IY,CN,Ls,w0⟩
    rintro n s3 ⟨i,σ3,H4,I4,st3,fr3,w3⟩
    rcases turn i n σ3 H4 w3 with ⟨stop,qn⟩|⟨go,Nx,hN,step⟩
    · have q0:=T.done Y yp yw yK yc i [] s3 σ3 H4 (fun _ _=>False) I4 (jB fr3) st3 stop
      rw[yA] at q0
      refine aK q0 fun r s4 ⟨hr,I5⟩=>?_
      subst hr
      show compPost (model X.prog X.w) X.A X.xe use QQ (.ref s2.heap.objs.size) HP.objs.size (.ok .next) s4
      obtain⟨m,hm,_⟩:=id I5.loc
      have yl:Y.env.locals=HP.objs.size:=by rw[Cy];rfl
      rw[yl] at hm
      have fC:H4 HP.objs.size=none:=by have:=I5.free;rw[yl] at this;exact this
      have ub:=I5.base
      have ub':Un (frs X.stack) fp H3 H4 HP s4.heap:=by rw[<-hY] at ub;exact ub
      have hos:s4.os=s2.os:=by have:=I5.os;rw[<-hY] at this;exact this
      have Um:cB X.prog X.w H4 s4.heap:=by have:=I5.hok;rw[yp,yw] at this;exact this
      have IX:Inv X pins σ H4 s4:=I3.SR (ch:=fp) hos ub' Um I5.bare fun b hb=>⟨(f2 b hb).2.2.2.1,(f2 b hb).2.1,(f2 b hb).2.2.2.2.1,(f2 b hb).2.2.2.2.2⟩
      exact fin _ _ H4 s4 m IX (I3.nB (Nat.le_refl _) fC) hm qn
    · have q0:=T.item Y yp yw yK yc i [] s3 σ3 H4 (fun _ _=>False) I4 (jB fr3) st3 go
      rw[yA] at q0
      refine aK q0 fun r s4 ⟨u,hr,h4⟩=>?_
      subst hr
      refine aK h4 fun _ s5 ⟨x,H5,I5,r5,y5,lu,uD⟩=>?_
      have yb:=I5.pinned (jB uD) (T.obj _ _ lu)
      rw[<-yx,<-yp,<-yw,<-yA]
      refine aK (hg _ s5 σ3 H5 x u _ yb r5 (step x H5 y5)) fun _ s6 ⟨nG,H6,I6,q6⟩=>?_
      refine aK (ht _ s6 nG H6 _ I6 q6) fun b s7 ⟨H7,I7,q7⟩=>?_
      have again:∀{o7:St} {H8:Hp} {s8:Shared},Inv Y ([]++nN fp s5.heap) o7 H8 s8->Nx o7 H8->∃m,m<n/\∃i σ' H',Inv Y [] σ' H' s8/\tn i s8.heap/\(∀b∈fp,H' b=none)/\W i m σ' H':=fun{o7 H8 s8} I8 n8=>by
        obtain⟨m',hm,w8⟩:=hN o7 H8 n8
        refine⟨m',hm,i+1,o7,H8,I8.pF,T.keep _ _ _ lu fun b hb o e=>(I8.pin (b,o) (List.mem_append_right _ (List.mem_append_right _ (qM hb e)))).1,fun b hb=>?_,w8⟩
        obtain⟨o,e,d⟩:=T.obj _ _ lu b hb
        exact(I8.pin (b,o) (List.mem_append_right _ (List.mem_append_right _ (qM hb e)))).2.1
      cases b with
      | false =>
        rw[if_neg Bool.false_ne_true]
        rw[if_neg Bool.false_ne_true] at q7
        exact again I7 q7
      | true =>
        rw[if_pos rfl]
        rw[if_pos rfl] at q7
        refine aK (he _ s7 nG H7 _ I7 q7) fun v s8 ⟨y,H8,I8,r8,ys,e8,z8,n8⟩=>?_
        refine aK (iI _ s8 nG H8 (.ref s2.heap.objs.size) [y] (.ref s2.heap.objs.size) [v] (fun _ H9=>H9=upd H8 s2.heap.objs.size (.lst (ys++[y]))) I8 rfl (.cons r8 .nil) ⟨_,ys,y,rfl,rfl,e8,z8,rfl⟩) fun v9 s9 ⟨y9,H9,I9,r9,e9⟩=>?_
        subst e9
        exact again I9 n8
  refine codeAny_compStart_list loop (T.self _ _ _ _ _ CN loop)
theorem gb.turned{pins:List (Addr×Obj)}{s:Shared}{σ:St}{H:Hp}{C:Addr}{h':Heap}(I:Inv X pins σ H s)(f:gb X pins H C)(hs:Heap.SameBut C s.heap h'):Inv X pins σ H {s with heap:=h'}:=
 I.turned (t':=s.toks) (fun b o hb e=>(hs.2 b hb).trans e) f.1 f.2.1 f.2.2.2.1 f.2.2.2.2.1 f.2.2.2.2.2
theorem d9{elt iter tg:Expr}{ifs:List Expr}{scope:Scope}{pos:Pos}{N:List Str}{mp:List (Option Nat)}{wi:TI}{g:TG}{tc:TT}{te:TE}
  (ok:cN X.env.scope X.N scope N mp) (hi:PI X tg iter wi)
  (hb:∀C s₀ H₀ fp,PG (gD X scope C N s₀ H₀ fp) tg g/\oz (gD X scope C N s₀ H₀ fp) ifs tc/\PE (gD X scope C N s₀ H₀ fp) elt te) (hc:X.calm=true:=by rfl)
  (hs:∀x,foldedSetIterable iter X.env x=pure x:=by intro _;rfl):PE X (.ListComp elt [⟨tg,iter,ifs,0⟩] scope pos) (lq wi g tc te mp):=by
 intro pins s σ H Q I h
 rw[eval_ListComp]
 refine BC (use:=none) ok hc hi hb hs I h fun acc C H' s' m I' f hn q=>?_
 exact⟨m,hn,fun h' hs'=>⟨.ref acc,H',f.turned I' hs',rfl,q⟩⟩
def BH(i:Nat)(t:TE):TS:=fun D σ H=>t σ H fun v H'=>D.nx (σ.set i (some v)) H'
theorem Eo{elt iter tg:Expr}{ifs:List Expr}{scope:Scope}{pos spos py:Pos}{N:List Str}{mp:List (Option Nat)}{wi:TI}{g:TG}{tc:TT}{te:TE}{i:Nat}{y:Str}
  (hN:X.N.Nodup) (hy:X.N[i]?=some y) (hk:X.env.kindOf y=some .local)
  (ok:cN X.env.scope X.N scope N mp) (hi:PI X tg iter wi)
  (hb:∀C s₀ H₀ fp,PG (gD X scope C N s₀ H₀ fp) tg g/\oz (gD X scope C N s₀ H₀ fp) ifs tc/\PE (gD X scope C N s₀ H₀ fp) elt te) (hc:X.calm=true:=by rfl)
  (hsw:swapsWith (.ListComp elt [⟨tg,iter,ifs,0⟩] scope pos) (some (.Name y py)) spos.line X.env=pure true:=by rfl)
  (hs:∀x,foldedSetIterable iter X.env x=pure x:=by intro _;rfl):PS X (.Assign [.Name y py] (.ListComp elt [⟨tg,iter,ifs,0⟩] scope pos) spos) (BH i (lq wi g tc te mp)):=by
 intro pins s σ H D I h
 rw[exec_Assign_Name_used _ _ _ _ hsw]
 refine wpAny_bind (wpAny_standAt (wpAny_bind ?_))
 show wpAny _ X.A (do let _<-comprehension (.ListComp elt [⟨tg,iter,ifs,0⟩] scope pos) scope X.env _ (newList []) false (eval iter X.env) (some (assign (.Name y py) X.env))) _ _ s
 refine wpAny_bind (wpAny_mono (BC (use:=some (assign (.Name y py) X.env)) (QQ:=fun _ s'=>SP X pins D .next s') ok hc hi hb hs I h fun acc C H' s' m I' f hn q=>?_) (fun _ s' hq=>wpAny_pure (wpAny_pure hq)) fun _ _ e=>e)
 refine wpAny_assign_Name (BS (v:= .ref acc) I' hN hy (.inl hk) rfl (fun s2 I2 ⟨a,sb,ha⟩=>?_) (.inr hk))
 have hne:C≠a:=by
  rcases ha with z|z
  ·rw[z];exact f.2.1
  ·exact fun e=>f.2.2.2.2.1 y a z e.symm
 exact⟨m,hn.sameBut sb hne,fun h' hs'=>⟨_,H',f.turned I2 hs',q⟩⟩
end
def Sm(i:Int):Prop:= -(2^300)<i/\i<2^300
theorem tY{i:Int}(h:Sm i):Builtin.Int.intBits i<=2^20:=by
 obtain⟨h1,h2⟩:=h
 unfold Builtin.Int.intBits
 split
 ·exact Nat.zero_le _
 ·rename_i h0
  have hn:i.natAbs≠0:=by
   intro e
   apply h0
   simp
   omega
  have h3:i.natAbs<2^300:=by omega
  have h4:i.natAbs.log2<300:=(Nat.log2_lt hn).mpr h3
  have:(2:Nat)^20=1048576:=by decide
  omega
theorem R4{x y:Int}(h:Sm y):Builtin.divisionGoesByPylong x y=false:=by
 refine PyProof.noPylong_of_log2 ?_
 obtain⟨h1,h2⟩:=h
 by_cases h0:y.natAbs=0
 ·rw[h0];decide+kernel
 ·have h3:y.natAbs<2^300:=by omega
  have h4:y.natAbs.log2<300:=(Nat.log2_lt h0).mpr h3
  omega
section
variable{X:Cx}
theorem jh:cE X (binaryOp .FloorDiv) (rI (fun _ j=>0<j/\Sm j) fun i j=> .int (i/j)):=pJ fun i j _ _ _ _ _ hc q=>
 floordiv_int (by omega) (by rw[Int.fdiv_eq_ediv_of_nonneg _ (by omega)];exact q) (.inl (R4 hc.2))
theorem MH:mL X "int.bit_length" (fun x xs H Q=>∃i,x= .int i/\xs=[]/\Q (.int (Builtin.Int.intBits i)) H):=by
 intro pins s σ H x xs v us Q I rx rv h
 obtain⟨i,rfl,rfl,q⟩:=h
 obtain⟨t,rfl⟩:=rx
 cases rv
 exact call_int_bit_length ⟨.int _,H,I.tok _,⟨_,rfl⟩,q⟩
def iF(K:PySem.W.Frag):List V->Hp->VK->Prop:=fun xs H Q=>∃x T t b,xs=[x, .ty T]/\fR K H x t/\PySem.W.kitOne K t (.type T)=some b/\Q (.bl b) H
theorem jG:dG X (.builtin "isinstance") (iF X.K):=by
 intro pins s σ H xs us Q I rv h
 obtain⟨x,T,t,b,rfl,ty,e,q⟩:=h
 obtain⟨u,v,rfl,ru,rv⟩:=rv.two
 cases (show v=Value.type T from rv)
 exact Og I ru ty e fun tk=>⟨.bl b,H,I.tok tk,rfl,q⟩
def nM:PyData->Key->Prop
 | .int i,k=>k= .inl i
 | .str x,k=>k= .inr x
 |_,_=>False
mutual
def af(nb:Addr->Prop)(H:Hp):PyData->V->Prop
 | .none,v=>v= .aE
 | .bool b,v=>v= .bl b
 | .int i,v=>v= .int i
 | .str x,v=>v= .str x
 | .list ds,v=>∃a xs,v= .ref a/\¬nb a/\H a=some (.lst xs)/\ah nb H ds xs
 | .tuple ds,v=>∃a xs,v= .ref a/\¬nb a/\H a=some (.tup xs)/\ah nb H ds xs
 | .dict kvs,v=>∃a ps,v= .ref a/\¬nb a/\Rd H a (.dK ps)/\ak nb H kvs ps
termination_by structural d=>d
def ah(nb:Addr->Prop)(H:Hp):List PyData->List V->Prop
 |[],xs=>xs=[]
 |d::ds,xs=>∃y ys,xs=y::ys/\af nb H d y/\ah nb H ds ys
termination_by structural d=>d
def ak(nb:Addr->Prop)(H:Hp):List (PyData×PyData)->List (Key×V)->Prop
 |[],xs=>xs=[]
 |d::ds,xs=>∃p ys,xs=p::ys/\bf nb H d p/\ak nb H ds ys
termination_by structural d=>d
def bf(nb:Addr->Prop)(H:Hp):PyData×PyData->Key×V->Prop
 |(k,d),p=>nM k p.1/\af nb H d p.2
termination_by structural d=>d
end
def aJ(nb:Addr->Prop)(H H':Hp):Prop:=∀a o,¬nb a->H a=some o->H' a=some o
def Nb(b:Addr):Addr->Prop:=fun a=>a=b
section
variable{nb br:Addr->Prop}{H H1 H2 H':Hp}{a b c p:Addr}{o:HO}{xs:List V}
theorem aJ.refl(nb:Addr->Prop)(H:Hp):aJ nb H H:=fun _ _ _ h=>h
theorem aJ.trans(x:aJ nb H H1)(y:aJ nb H1 H2):aJ nb H H2:=fun a o n h=>y a o n (x a o n h)
theorem aJ.of(x:aO H H'):aJ nb H H':=fun a o _ h=>x a o h
theorem aJ.set(h:nb p):aJ nb H (upd H p o):=fun a u n q=>by rw[aq (fun e=>n (by rw[e];exact h))];exact q
theorem aJ.rd{u:HO}(x:aJ nb H H')(n:¬nb a)(h:Rd H a u):Rd H' a u:=by
 rcases h with h|⟨o,h⟩
 ·exact .inl (x _ _ n h)
 ·exact .inr ⟨o,x _ _ n h⟩
end
mutual
theorem af.keep{nb:Addr->Prop}{H H':Hp}(x:aJ nb H H'):∀{d:PyData} {v:V},af nb H d v->af nb H' d v
 | .none,_,h=>by unfold af at h⊢;exact h
 | .bool _,_,h=>by unfold af at h⊢;exact h
 | .int _,_,h=>by unfold af at h⊢;exact h
 | .str _,_,h=>by unfold af at h⊢;exact h
 | .list ds,_,h=>by unfold af at h⊢;obtain⟨a,xs,e,n,s,r⟩:=h;exact⟨a,xs,e,n,x _ _ n s,ah.keep x r⟩
 | .tuple ds,_,h=>by unfold af at h⊢;obtain⟨a,xs,e,n,s,r⟩:=h;exact⟨a,xs,e,n,x _ _ n s,ah.keep x r⟩
 | .dict kvs,_,h=>by unfold af at h⊢;obtain⟨a,xs,e,n,s,r⟩:=h;exact⟨a,xs,e,n,x.rd n s,ak.keep x r⟩
theorem ah.keep{nb:Addr->Prop}{H H':Hp}(x:aJ nb H H'):∀{ds:List PyData} {vs:List V},ah nb H ds vs->ah nb H' ds vs
 |[],_,h=>by unfold ah at h⊢;exact h
 |d::ds,_,h=>by unfold ah at h⊢;obtain⟨y,ys,e,h1,h2⟩:=h;exact⟨y,ys,e,af.keep x h1,ah.keep x h2⟩
theorem ak.keep{nb:Addr->Prop}{H H':Hp}(x:aJ nb H H'):∀{ds:List (PyData×PyData)} {vs:List (Key×V)},ak nb H ds vs->ak nb H' ds vs
 |[],_,h=>by unfold ak at h⊢;exact h
 |d::ds,_,h=>by unfold ak at h⊢;obtain⟨y,ys,e,h1,h2⟩:=h;exact⟨y,ys,e,bf.keep x h1,ak.keep x h2⟩
theorem bf.keep{nb:Addr->Prop}{H H':Hp}(x:aJ nb H H'):∀{d:PyData×PyData} {v:Key×V},bf nb H d v->bf nb H' d v
 |(k,d),_,h=>by unfold bf at h⊢;exact⟨h.1,af.keep x h.2⟩
end
mutual
theorem af.av{nb br:Addr->Prop}{H:Hp}(x:∀a,br a->nb a):∀{d:PyData} {v:V},af nb H d v->af br H d v
 | .none,_,h=>by unfold af at h⊢;exact h
 | .bool _,_,h=>by unfold af at h⊢;exact h
 | .int _,_,h=>by unfold af at h⊢;exact h
 | .str _,_,h=>by unfold af at h⊢;exact h
 | .list ds,_,h=>by unfold af at h⊢;obtain⟨a,xs,e,n,s,r⟩:=h;exact⟨a,xs,e,fun z=>n (x a z),s,ah.av x r⟩
 | .tuple ds,_,h=>by unfold af at h⊢;obtain⟨a,xs,e,n,s,r⟩:=h;exact⟨a,xs,e,fun z=>n (x a z),s,ah.av x r⟩
 | .dict kvs,_,h=>by unfold af at h⊢;obtain⟨a,xs,e,n,s,r⟩:=h;exact⟨a,xs,e,fun z=>n (x a z),s,ak.av x r⟩
theorem ah.av{nb br:Addr->Prop}{H:Hp}(x:∀a,br a->nb a):∀{ds:List PyData} {vs:List V},ah nb H ds vs->ah br H ds vs
 |[],_,h=>by unfold ah at h⊢;exact h
 |d::ds,_,h=>by unfold ah at h⊢;obtain⟨y,ys,e,h1,h2⟩:=h;exact⟨y,ys,e,af.av x h1,ah.av x h2⟩
theorem ak.av{nb br:Addr->Prop}{H:Hp}(x:∀a,br a->nb a):∀{ds:List (PyData×PyData)} {vs:List (Key×V)},ak nb H ds vs->ak br H ds vs
 |[],_,h=>by unfold ak at h⊢;exact h
 |d::ds,_,h=>by unfold ak at h⊢;obtain⟨y,ys,e,h1,h2⟩:=h;exact⟨y,ys,e,bf.av x h1,ak.av x h2⟩
theorem bf.av{nb br:Addr->Prop}{H:Hp}(x:∀a,br a->nb a):∀{d:PyData×PyData} {v:Key×V},bf nb H d v->bf br H d v
 |(k,d),_,h=>by unfold bf at h⊢;exact⟨h.1,af.av x h.2⟩
end
mutual
theorem af.fresh{nb:Addr->Prop}{H:Hp}{p:Addr}(hp:H p=none):∀{d:PyData} {v:V},af nb H d v->af (fun a=>nb a\/a=p) H d v
 | .none,_,h=>by unfold af at h⊢;exact h
 | .bool _,_,h=>by unfold af at h⊢;exact h
 | .int _,_,h=>by unfold af at h⊢;exact h
 | .str _,_,h=>by unfold af at h⊢;exact h
 | .list ds,_,h=>by unfold af at h⊢;obtain⟨a,xs,e,n,s,r⟩:=h;exact⟨a,xs,e,fun z=>z.elim n (fY s hp),s,ah.fresh hp r⟩
 | .tuple ds,_,h=>by unfold af at h⊢;obtain⟨a,xs,e,n,s,r⟩:=h;exact⟨a,xs,e,fun z=>z.elim n (fY s hp),s,ah.fresh hp r⟩
 | .dict kvs,_,h=>by unfold af at h⊢;obtain⟨a,xs,e,n,s,r⟩:=h;exact⟨a,xs,e,fun z=>z.elim n (s.elim (fun s=>fY s hp) fun⟨_,s⟩=>fY s hp),s,ak.fresh hp r⟩
theorem ah.fresh{nb:Addr->Prop}{H:Hp}{p:Addr}(hp:H p=none):∀{ds:List PyData} {vs:List V},ah nb H ds vs->ah (fun a=>nb a\/a=p) H ds vs
 |[],_,h=>by unfold ah at h⊢;exact h
 |d::ds,_,h=>by unfold ah at h⊢;obtain⟨y,ys,e,h1,h2⟩:=h;exact⟨y,ys,e,af.fresh hp h1,ah.fresh hp h2⟩
theorem ak.fresh{nb:Addr->Prop}{H:Hp}{p:Addr}(hp:H p=none):∀{ds:List (PyData×PyData)} {vs:List (Key×V)},ak nb H ds vs->ak (fun a=>nb a\/a=p) H ds vs
 |[],_,h=>by unfold ak at h⊢;exact h
 |d::ds,_,h=>by unfold ak at h⊢;obtain⟨y,ys,e,h1,h2⟩:=h;exact⟨y,ys,e,bf.fresh hp h1,ak.fresh hp h2⟩
theorem bf.fresh{nb:Addr->Prop}{H:Hp}{p:Addr}(hp:H p=none):∀{d:PyData×PyData} {v:Key×V},bf nb H d v->bf (fun a=>nb a\/a=p) H d v
 |(k,d),_,h=>by unfold bf at h⊢;exact⟨h.1,af.fresh hp h.2⟩
end
mutual
theorem af.reads{pins:List (Addr×Obj)}{σ:St}{H:Hp}{s:Shared}{nb:Addr->Prop}(I:Inv X pins σ H s):∀{d:PyData} {v:V} {u:Value},af nb H d v->RelV v u->d.canLay0=true->∃as,Reads s.heap u d as
  | .none,_,_,h,r,_=>by unfold af at h;subst h;cases r;exact⟨_, .none⟩
  | .bool _,_,_,h,r,_=>by unfold af at h;subst h;cases r;exact⟨_, .bool _⟩
  | .int _,_,_,h,r,_=>by unfold af at h;subst h;obtain⟨t,rfl⟩:=r;exact⟨_, .int _ _⟩
  | .str _,_,_,h,r,_=>by unfold af at h;subst h;obtain⟨t,rfl⟩:=r;exact⟨_, .str _ _⟩
  | .list ds, _, _, h, r, hc0 => by
    unfold af at h
    obtain⟨a,xs,rfl,n,s,q⟩:=h
    cases r
    obtain⟨its,rv,p,hz⟩:=I.list (aM.of s)
    obtain⟨as,ra⟩:=ah.reads I q rv (by simpa only[PyData.canLay0] using hc0)
    obtain⟨o,ho,hc,m,hd⟩:=p.isList
    exact⟨_, .list ho hc hd (by simpa using ra)⟩
  | .tuple ds, _, _, h, r, hc0 => by
    unfold af at h
    obtain⟨a,xs,rfl,n,s,q⟩:=h
    cases r
    obtain⟨its,rv,p,hz⟩:=I.tuple (dP.of s)
    obtain⟨as,ra⟩:=ah.reads I q rv (by simpa only[PyData.canLay0] using hc0)
    obtain⟨o,ho,hc,m,hd⟩:=p
    exact⟨_, .tuple ho hc hd (by simpa using ra)⟩
  | .dict _,_,_,h,r,hc0=>by simp[PyData.canLay0] at hc0
theorem ah.reads{pins:List (Addr×Obj)}{σ:St}{H:Hp}{s:Shared}{nb:Addr->Prop}(I:Inv X pins σ H s):∀{ds:List PyData} {vs:List V} {us:List Value},ah nb H ds vs->Vals vs us->PyData.canLayAll0 ds=true->∃as,ReadsAll s.heap us ds as
  |[],_,_,h,r,_=>by unfold ah at h;subst h;cases r;exact⟨_, .nil⟩
  | d :: ds, _, _, h, r, hc0 => by
    rw[PyData.canLayAll0,Bool.and_eq_true] at hc0
    unfold ah at h
    obtain⟨y,ys,rfl,h1,h2⟩:=h
    cases r with
    | cons r1 r2 =>
      obtain⟨as,q1⟩:=af.reads I h1 r1 hc0.1
      obtain⟨bs,q2⟩:=ah.reads I h2 r2 hc0.2
      exact⟨_, .cons q1 q2⟩
end
def rY(neg:Bool):R2:=fun x y H Q=>∃nb d e,af nb H d x/\af nb H e y/\SeqAt.shaped d=true/\SeqAt.shaped e=true/\Q (.bl (PyData.eqv d e !=neg)) H
theorem oO(hu:X.A.units+64<cLine):cE X (compareOp .Eq) (rY false):=by
 intro pins s σ H x y v u Q I rx ry h
 obtain⟨nb,d,e,h1,h2,h3,h4,q⟩:=h
 obtain⟨as,r1⟩:=h1.reads I rx (SeqAt.canLay_of_shaped h3)
 obtain⟨bs,r2⟩:=h2.reads I ry (SeqAt.canLay_of_shaped h4)
 exact eq_dataH r1 r2 h3 h4 hu ⟨.bl _,H,I,rfl,by simpa using q⟩
theorem vE(hu:X.A.units+64<cLine):cE X (compareOp .NotEq) (rY true):=by
 intro pins s σ H x y v u Q I rx ry h
 obtain⟨nb,d,e,h1,h2,h3,h4,q⟩:=h
 obtain⟨as,r1⟩:=h1.reads I rx (SeqAt.canLay_of_shaped h3)
 obtain⟨bs,r2⟩:=h2.reads I ry (SeqAt.canLay_of_shaped h4)
 exact ne_dataH r1 r2 h3 h4 hu ⟨.bl _,H,I,rfl,by simpa using q⟩
end
mutual
theorem eqv_refl:∀d:PyData,SeqAt.shaped d=true\/d.canLay0=true->PyData.eqv d d=true
  | .none,_=>by simp[PyData.eqv]
  | .bool _,_=>by simp[PyData.eqv]
  | .int _,_=>by simp[PyData.eqv]
  | .str _,_=>by simp[PyData.eqv]
  | .list ds, h => by
    have h':PyData.canLayAll0 ds=true:=by
      rcases h with h|h
      · have:=SeqAt.canLay_of_shaped h;simpa[PyData.canLay0] using this
      · simpa[PyData.canLay0] using h
    simp only[PyData.eqv]
    exact eqvAll_refl ds h'
  | .tuple ds, h => by
    have h':PyData.canLayAll0 ds=true:=by
      rcases h with h|h
      · have:=SeqAt.canLay_of_shaped h;simpa[PyData.canLay0] using this
      · simpa[PyData.canLay0] using h
    simp only[PyData.eqv]
    exact eqvAll_refl ds h'
  | .dict _, h => by
    rcases h with h|h
    · have:=SeqAt.canLay_of_shaped h;simp[PyData.canLay0] at this
    · simp[PyData.canLay0] at h
theorem eqvAll_refl:∀ds:List PyData,PyData.canLayAll0 ds=true->PyData.eqvAll ds ds=true
  |[],_=>by simp[PyData.eqvAll]
  | d :: ds, h => by
    simp only[PyData.canLayAll0,Bool.and_eq_true] at h
    simp only[PyData.eqvAll,Bool.and_eq_true]
    exact⟨eqv_refl d (.inr h.1),eqvAll_refl ds h.2⟩
end
structure Callee(P:Program)(w:World)(K:PySem.W.Frag)(mg:Str->Option Value)(base:Heap)(x:Str)(k:Nat)(ps:List Str)(sp:Sp):Prop where
 ex:∃f fd,bz P w K mg base bH k f fd ps sp/\Binds K fd ps []/\PySem.W.keepIn K (.ref f)=true/\mg x=some (.ref f)
theorem aN{X:Cx}{x:Str}{k:Nat}{ps:List Str}{sp:Sp}{p pos:Pos}{e:Expr}{es:List Expr}{t:TA}(c:Callee X.prog X.w X.K X.mg X.base x k ps sp)(hr:ez k X.A)(ha:PA X (e::es) t)(hg:Gl X x:=by rfl)
  (hdb:(x==("__debug__":Str))=false:=by decide) (he:starEach (e::es) X.env=(false,eval e X.env)::starEach es X.env:=by rfl) (hpl:(backTo pos (starEach es X.env)).any (·.1)=false:=by rfl):
  PE X (.Call (.Name x p) (e::es) [] pos) (fu sp [] E0 t):=by
 obtain⟨f,fd,F,b,kp,m⟩:=c.ex
 exact JO F hr hg m kp b .nil RW ha hdb he hpl
theorem Callee.mk'{P:Program}{w:World}{K:PySem.W.Frag}{mg:Str->Option Value}{base:Heap}{x:Str}{st:Stmt}{k:Nat}{ps:List Str}{sp:Sp}{f:Addr}{fd:FuncData}(F:bJ K x x st f fd)(ok:bz P w K mg base bH k f fd ps sp)(b:Binds K fd ps [])
  (m:mg x=some (.ref f)):Callee P w K mg base x k ps sp:=⟨f,fd,ok,b,F.kp,m⟩
end L2
set_option maxRecDepth 100000
set_option maxHeartbeats 1000000
namespace L2
open PySem PySem.Spec PyProof.Rows
section
variable{X:Cx}
theorem fQ:cE X (binaryOp .Mult) (rI (fun i j=>rE i j\/(Sm i/\Sm j)) fun i j=> .int (i*j)):=pJ fun _ _ _ _ _ _ _ hc q=>mul_int q (by
 rcases hc with hc|hc
 ·exact hc.ok
 ·exact IntMulOk.of_bits (tY hc.1) (tY hc.2))
end
def bR(H:Hp)(b l:Addr):Prop:=∃(ns:List Int) (i c st n:Int),H b=some (.lst [.ref l, .int i, .int c, .int st, .int n])/\H l=some (.lst (ns.map V.int))/\
 (∀x∈ns,0<=x/\x<10^60)/\ns.length<=63/\0<=i/\0<=c/\c<10^60/\0<=st/\st<2147483647
theorem zk{H:Hp}{b l:Addr}{ns:List Int}{i c st n:V}(h:H b=some (.lst [.ref l,i,c,st,n]))(h':H l=some (.lst (ns.map V.int))):l≠b:=by
 intro e
 subst e
 rw[h] at h'
 have e:=HO.lst.inj (Option.some.inj h')
 cases ns with
 |nil=>cases e
 |cons x r=>rw[List.map_cons] at e;cases (List.cons.inj e).1
theorem bR.put{H:Hp}{b l:Addr}{ns:List Int}{i c st n:Int}(hl:l≠b)(h':H l=some (.lst (ns.map V.int)))(h1:∀x∈ns,0<=x/\x<10^60)(h2:ns.length<=63)
  (h3:0<=i) (h4:0<=c) (h5:c<10^60) (h6:0<=st) (h7:st<2147483647):bR (upd H b (.lst [.ref l, .int i, .int c, .int st, .int n])) b l:=
 ⟨ns,i,c,st,n,aL,by rw[aq hl];exact h',h1,h2,h3,h4,h5,h6,h7⟩
theorem bR.put2{H:Hp}{b l p:Addr}{o:HO}(h:bR H b l)(hp:p≠b/\p≠l):bR (upd H p o) b l:=by
 obtain⟨ns,i,c,st,n,h1,h2,r⟩:=h
 exact⟨ns,i,c,st,n,by rw[aq (Ne.symm hp.1)];exact h1,by rw[aq (Ne.symm hp.2)];exact h2,r⟩
theorem bR.same{H H':Hp}{b l:Addr}(h:bR H b l)(s:aO H H'):bR H' b l:=by
 obtain⟨ns,i,c,st,n,h1,h2,r⟩:=h
 exact⟨ns,i,c,st,n,s _ _ h1,s _ _ h2,r⟩
def iQ:Sp:=fun vs H Q _=>∃(b l:Addr) (many:Int),vs=[.ref b, .int many]/\bR H b l/\0<many/\Sm many/\∀(r:Int) (H':Hp),0<=r->r<many->aJ (Nb b) H H'->bR H' b l->Q (.int r) H'
def Bx(K:PySem.W.Frag):Sp:=fun vs H Q _=>∃(a:Addr) (ns:List Int),vs=[.ref a]/\aM K H a (ns.map V.int)/\ns.length<=63/\∀(b l:Addr) (H':Hp),aO H H'->H b=none->bR H' b l->Q (.ref b) H'
theorem iz{α:Type}{xs:List α}{i:Int}{v:α}(h0:0<=i)(h:xs[i.toNat]?=some v):bh xs i=some v:=by
 have e:i=((i.toNat:Nat):Int):=by omega
 rw[e]
 exact Mg h
theorem cz{H:Hp}{p:Addr}{o:HO}(h:H p=none):aO H (upd H p o):=fun b u q=>by rw[aq (fY q h)];exact q
section
variable{nb:Addr->Prop}{H H':Hp}
theorem ah.length:∀{ds:List PyData} {xs:List V},ah nb H ds xs->xs.length=ds.length
 |[],_,h=>by unfold ah at h;subst h;rfl
 |d::ds,_,h=>by unfold ah at h;obtain⟨y,ys,rfl,_,h2⟩:=h;simp[ah.length h2]
theorem ah.get:∀{ds:List PyData} {xs:List V} {i:Nat} {d:PyData},ah nb H ds xs->ds[i]?=some d->∃x,xs[i]?=some x/\af nb H d x
 |[],_,_,_,_,e=>by simp at e
 |d::ds,_,0,_,h,e=>by unfold ah at h;obtain⟨y,ys,rfl,h1,h2⟩:=h;simp at e;subst e;exact⟨y,rfl,h1⟩
 |d::ds,_,i+1,_,h,e=>by unfold ah at h;obtain⟨y,ys,rfl,h1,h2⟩:=h;simpa using ah.get (i:=i) h2 (by simpa using e)
theorem ah.snoc{d:PyData}{x:V}(hd:af nb H d x):∀{ds:List PyData} {xs:List V},ah nb H ds xs->ah nb H (ds++[d]) (xs++[x])
 |[],_,h=>by unfold ah at h;subst h;unfold ah;exact⟨x,[],rfl,hd,by unfold ah;rfl⟩
 |e::ds,_,h=>by unfold ah at h;obtain⟨y,ys,rfl,h1,h2⟩:=h;show ah nb H (e::(ds++[d])) _;unfold ah;exact⟨y,ys++[x],rfl,h1,ah.snoc hd h2⟩
theorem ah.append:∀{ds es:List PyData} {xs ys:List V},ah nb H ds xs->ah nb H es ys->ah nb H (ds++es) (xs++ys)
 |[],_,_,_,h,h'=>by unfold ah at h;subst h;exact h'
 |e::ds,es,_,zs,h,h'=>by unfold ah at h;obtain⟨y,ys,rfl,h1,h2⟩:=h;show ah nb H (e::(ds++es)) _;unfold ah;exact⟨y,ys++zs,rfl,h1,ah.append h2 h'⟩
theorem ah.take:∀{ds:List PyData} {xs:List V} (n:Nat),ah nb H ds xs->ah nb H (ds.take n) (xs.take n)
 |_,_,0,_=>by simp only[List.take_zero];unfold ah;rfl
 |[],_,n+1,h=>by unfold ah at h;subst h;simp only[List.take_nil];unfold ah;rfl
 |d::ds,_,n+1,h=>by unfold ah at h;obtain⟨y,ys,rfl,h1,h2⟩:=h;simp only[List.take_succ_cons];unfold ah;exact⟨y,_,rfl,h1,ah.take n h2⟩
theorem ah.drop:∀{ds:List PyData} {xs:List V} (n:Nat),ah nb H ds xs->ah nb H (ds.drop n) (xs.drop n)
 |_,_,0,h=>h
 |[],_,n+1,h=>by unfold ah at h;subst h;simp only[List.drop_nil];unfold ah;rfl
 |d::ds,_,n+1,h=>by unfold ah at h;obtain⟨y,ys,rfl,h1,h2⟩:=h;simp only[List.drop_succ_cons];exact ah.drop n h2
theorem ah.nil:ah nb H [] []:=by unfold ah;rfl
theorem ah.cons{d:PyData}{x:V}{ds:List PyData}{xs:List V}(h1:af nb H d x)(h2:ah nb H ds xs):ah nb H (d::ds) (x::xs):=by unfold ah;exact⟨x,xs,rfl,h1,h2⟩
theorem af.int(i:Int):af nb H (.int i) (.int i):=by unfold af;rfl
theorem af.aE:af nb H .none .aE:=by unfold af;rfl
theorem af.bl(b:Bool):af nb H (.bool b) (.bl b):=by unfold af;rfl
theorem af.lst{a:Addr}{ds:List PyData}{xs:List V}(n:¬nb a)(h:H a=some (.lst xs))(hd:ah nb H ds xs):af nb H (.list ds) (.ref a):=by unfold af;exact⟨a,xs,rfl,n,h,hd⟩
theorem af.tup{a:Addr}{ds:List PyData}{xs:List V}(n:¬nb a)(h:H a=some (.tup xs))(hd:ah nb H ds xs):af nb H (.tuple ds) (.ref a):=by unfold af;exact⟨a,xs,rfl,n,h,hd⟩
theorem af.cU{v:V}{ds:List PyData}(h:af nb H (.list ds) v):∃a xs,v= .ref a/\¬nb a/\H a=some (.lst xs)/\ah nb H ds xs:=by unfold af at h;exact h
theorem af.ofT{v:V}{ds:List PyData}(h:af nb H (.tuple ds) v):∃a xs,v= .ref a/\¬nb a/\H a=some (.tup xs)/\ah nb H ds xs:=by unfold af at h;exact h
theorem af.bG{v:V}{i:Int}(h:af nb H (.int i) v):v= .int i:=by unfold af at h;exact h
theorem af.t9{v:V}(h:af nb H .none v):v= .aE:=by unfold af at h;exact h
end
def EL:Sp:=fun vs H Q _=>∃i:Int,vs=[.int i]/\Q (.bl true) H
def qT(K:PySem.W.Frag):Sp:=fun vs H Q _=>∃(a:Addr) (ns:List Int),vs=[.ref a]/\aM K H a (ns.map V.int)/\ns.length<=63/\∀H',Q (.bl true) H'
end L2
set_option maxRecDepth 100000
set_option maxHeartbeats 1000000
namespace L2
open PySem PySem.Spec PyProof.Rows
def wo(Q:VK):List V->Hp->Prop:=fun xs H1=>xs.length<=sizeLine/\∀p,H1 p=none->Q (.ref p) (upd H1 p (.lst xs))
def jK(K:PySem.W.Frag):List V->Hp->VK->Prop:=fun xs H Q=>∃p ys,xs=[.ref p]/\(aM K H p ys\/dP K H p ys)/\∀l,H l=none->Q (.ref l) (upd H l (.lst ys))
theorem ou{X:Cx}:dG X (.type "list") (jK X.K):=S4
def DT:R2:=fun x y H Q=>y= .aE/\Q (.bl (decide (x= .aE))) H
def rG:R2:=fun x y H Q=>y= .aE/\Q (.bl (!decide (x= .aE))) H
theorem Jv{X:Cx}:cE X (compareOp .Is) DT:=Hu
theorem tM{X:Cx}:cE X (compareOp .IsNot) rG:=RG
def intOf:Expr->Option Int
 | .Constant (.int i) _ _=>some i
 |_=>none
theorem Ux{e:Expr}{i:Int}(h:intOf e=some i):∃k p,e= .Constant (.int i) k p:=by
 unfold intOf at h
 split at h
 ·cases h;exact⟨_,_,rfl⟩
 ·cases h
def mE:List Expr->Option (List Int)
 |[]=>some []
 |e::r=>(intOf e).bind fun i=>(mE r).map (i:: ·)
def qa(is:List Int):TA:=fun _ H Q=>Q (is.map V.int) H
theorem gE{X:Cx}:∀{es:List Expr} {is:List Int},mE es=some is->PA X es (qa is):=by
  intro es
  induction es with
  | nil =>
    intro is h
    have e:is=[]:=by simpa[mE] using h.symm
    subst e
    exact ai
  | cons e r ih =>
    intro is h
    unfold mE at h
    cases hi:intOf e with
    |none=>rw[hi] at h;cases h
    | some i =>
      rw[hi] at h
      obtain⟨k,p,rfl⟩:=Ux hi
      obtain⟨js,hj,rfl⟩:=Option.map_eq_some_iff.mp (show(mE r).map (i:: ·)=some is from h)
      exact aa (te:=tC (.int i)) (t:=qa js) aj (ih hj)
theorem To{X:Cx}{i:Nat}{x:Str}{es:List Expr}{is:List Int}{p1 p2 p3:Pos}(hN:X.N.Nodup)(hi:X.N[i]?=some x)(hx:Loc X.env.scope x)(h:mE es=some is)(hf:X.fn x=true\/X.env.scope.names.lookup x=some .local):
  PS X (.Assign [.Name x p1] (.List es p2) p3) (fh (jE (qa is)) (e7 i)):=aF hN hi hx (cW (gE h)) rfl hf
namespace R
section
variable{σ:St}{H:Hp}{Q:VK}{D:Ends}{ta tb te:TE}{K:PySem.W.Frag}
theorem seq{t u:TS}(h:t {D with nx:=u D} σ H):nV t u D σ H:=h
theorem asg{g:TG}(h:te σ H fun x H1=>g x σ H1 D.nx):fh te g D σ H:=h
theorem ia{c:TT}{t u:TS}(h:c σ H fun b H1=>if b=true then t D σ H1 else u D σ H1):sr c t u D σ H:=h
theorem ret(h:te σ H D.rt):o4 te D σ H:=h
theorem next(h:D.nx σ H):xV D σ H:=h
theorem var{i:Nat}{v:V}(e:σ[i]?=some (some v))(h:Q v H):cQ i σ H Q:=⟨v,e,h⟩
theorem c{v:V}(h:Q v H):tC v σ H Q:=h
theorem op{r:R2}(h:ta σ H fun x H1=>tb σ H1 fun y H2=>r x y H2 Q):cD r ta tb σ H Q:=h
theorem test{q:Bool->Hp->Prop}(h:te σ H fun x H'=>∃k,x= .bl k/\q k H'):uT te σ H q:=h
theorem bl{P:Bool->Prop}{b:Bool}(h:P b):∃k,V.bl b= .bl k/\P k:=⟨b,rfl,h⟩
theorem and{t u:TT}{q:Bool->Hp->Prop}(h:t σ H fun c H1=>if c=true then u σ H1 q else q false H1):u6 t u σ H q:=h
theorem cb{r:List V->Hp->VK->Prop}{t:TA}(h:t σ H fun vs H1=>r vs H1 Q):dQ r t σ H Q:=h
theorem call{sp:Sp}{t:TA}(h:t σ H fun vs H1=>sp (vs++[]) H1 Q E0):fu sp [] E0 t σ H Q:=h
theorem nil{q:List V->Hp->Prop}(h:q [] H):bw σ H q:=h
theorem cons{t:TA}{q:List V->Hp->Prop}(h:ta σ H fun x H1=>t σ H1 fun xs H2=>q (x::xs) H2):aQ ta t σ H q:=h
theorem lst{t:TA}(h:t σ H (wo Q)):jE t σ H Q:=h
theorem sl{r:V->Option Int->Option Int->Hp->VK->Prop}{tl th:TO}(h:te σ H fun x H1=>tl σ H1 fun l H2=>th σ H2 fun u H3=>r x l u H3 Q):nP r te tl th σ H Q:=h
theorem Rf{q:Option Int->Hp->Prop}(h:q none H):xA σ H q:=h
theorem part{q:Option Int->Hp->Prop}(h:te σ H fun x H1=>∃i,x= .int i/\q (some i) H1):rR te σ H q:=h
theorem O1{P:Int->Prop}{i:Int}(h:P i):∃j,V.int i= .int j/\P j:=⟨i,rfl,h⟩
theorem Ma{T:String}{r:V->List V->Hp->VK->Prop}(h:te σ H fun x H1=>o6 K T x H1/\r x [] H1 Q):sP K T r te σ H Q:=h
theorem Ie{i:Int}{A:Prop}(h:A):o6 K "int" (.int i) H/\A:=⟨rfl,h⟩
theorem zj{i:Nat}{v:V}{q:St->Hp->Prop}(h:q (σ.set i (some v)) H):e7 i v σ H q:=h
theorem IA{to ti:TE}{t:qO}{v:V}{q:St->Hp->Prop}(h:to σ H fun o H1=>ti σ H1 fun i H2=>t o i v H2 fun H3=>q σ H3):mW to ti t v σ H q:=h
theorem J6{t:TG}{u:fU}{v:V}{r:List V}{q:St->Hp->Prop}(h:t v σ H fun σ' H'=>u r σ' H' q):uc t u (v::r) σ H q:=⟨v,r,rfl,h⟩
theorem Iu{q:St->Hp->Prop}(h:q σ H):tS [] σ H q:=⟨rfl,h⟩
theorem R3{n:Nat}{t:fU}{a:Addr}{xs:List V}{q:St->Hp->Prop}(hq:dP K H a xs)(hl:xs.length=n)(h:t xs σ H q):qX K n t (.ref a) σ H q:=⟨a,xs,rfl,hq,hl,h⟩
theorem ow{q:Bool->Hp->Prop}(h:q true H):mQ σ H q:=h
theorem fK{g:Int->Int->V}{i j:Int}(h:Q (g i j) H):L2.fK g (.int i) (.int j) H Q:=⟨i,j,rfl,rfl,h⟩
theorem rI{C:Int->Int->Prop}{g:Int->Int->V}{i j:Int}(hc:C i j)(h:Q (g i j) H):L2.rI C g (.int i) (.int j) H Q:=⟨i,j,rfl,rfl,hc,h⟩
theorem tL{i j:Int}:decide (V.int i=V.int j)=decide (i=j):=by rw[Bool.eq_iff_iff];simp
theorem Je{i j:Int}(h:Q (.bl (decide (i=j))) H):sG (.int i) (.int j) H Q:=⟨rfl,by rw[tL];exact h⟩
theorem NZ{i j:Int}(h:Q (.bl (decide (i≠j))) H):v8 (.int i) (.int j) H Q:=⟨rfl,by rw[tL,<-decide_not];exact h⟩
theorem za{i:Int}(h:Q (.bl true) H):rG (.int i) .aE H Q:=⟨rfl,by rw[decide_eq_false (fun e=>V.noConfusion e)];exact h⟩
theorem zI(h:Q (.bl false) H):rG .aE .aE H Q:=⟨rfl,by rw[decide_eq_true rfl];exact h⟩
theorem pZ{p:Addr}{xs:List V}{i:Int}{v:V}(hp:H p=some (.lst xs))(e:bh xs i=some v)(h:Q v H):dh K (.ref p) (.int i) H Q:=⟨p,xs,i,v,rfl,rfl,aM.of hp,e,h⟩
theorem vK{p:Addr}{o:HO}{xs:List V}{i:Int}{v:V}(e:bh xs i=some v)(h:Q v (upd H p (.lst xs))):dh K (.ref p) (.int i) (upd H p (.lst xs)) Q:=⟨p,xs,i,v,rfl,rfl,aM.of aL,e,h⟩
theorem setM{p:Addr}{xs:List V}{k:Int}{j:Nat}{v:V}{q:Hp->Prop}(hp:H p=some (.lst xs))(e:eV xs.length k=some j)(h:q (upd H p (.lst (xs.set j v)))):rC (.ref p) (.int k) v H q:=⟨p,xs,k,j,rfl,rfl,hp,e,h⟩
theorem Ho{p:Addr}{xs:List V}{k:Int}{j:Nat}{v:V}{q:Hp->Prop}(e:eV xs.length k=some j)(h:q (upd H p (.lst (xs.set j v)))):rC (.ref p) (.int k) v (upd H p (.lst xs)) q:=
 ⟨p,xs,k,j,rfl,rfl,aL,e,by rw[yd];exact h⟩
theorem Lz{p:Addr}{xs:List V}{P:List V->Prop}(hp:H p=some (.lst xs))(h:P xs):∃a ys,[V.ref p]=[.ref a]/\(aM K H a ys\/dP K H a ys)/\P ys:=⟨p,xs,rfl, .inl (aM.of hp),h⟩
theorem BX{p:Addr}{xs:List V}{lo hi:Option Int}(hp:aM K H p xs)(h:∀a,H a=none->Q (.ref a) (upd H a (.lst (i7 xs lo hi)))):iZ K (.ref p) lo hi H Q:=⟨p,xs,rfl,hp,h⟩
theorem OZ{a:Int}{P:Int->Prop}(h:P a):∃i,[V.int a]=[.int i]/\P i:=⟨a,rfl,h⟩
theorem bits{i:Int}{P:Int->Prop}(h:P i):∃j,V.int i= .int j/\([]:List V)=[]/\P j:=⟨i,rfl,rfl,h⟩
theorem Sh{xs:List V}(h:xs.length<=10000)(q:∀p H',aO H H'->H p=none->H' p=some (.lst xs)->Q (.ref p) H'):wo Q xs H:=
 ⟨Nat.le_trans h (by decide),fun p hp=>q p _ (cz hp) hp aL⟩
theorem An{c A B:Prop}[Decidable c](h:c)(q:A):if c then A else B:=by rw[if_pos h];exact q
theorem Dl{c A B:Prop}[Decidable c](h:¬c)(q:B):if c then A else B:=by rw[if_neg h];exact q
theorem dT{c:Prop}[Decidable c](h:c):decide c=true:=decide_eq_true h
theorem dF{c:Prop}[Decidable c](h:¬c):¬decide c=true:=by rw[decide_eq_false h];exact Bool.false_ne_true
theorem Bt{c:Prop}[Decidable c](h:¬c):(!decide c)=true:=by rw[decide_eq_false h];rfl
theorem Bp{c:Prop}[Decidable c](h:c):¬(!decide c)=true:=by rw[decide_eq_true h];decide
theorem Pg{t:TA}{R:It->Hp->Prop}(h:t σ H fun vs H1=>∃j:Int,vs=[.int j]/\ -(2^62)<=j/\j<2^62/\R (gc 0 j.toNat) H1):qH t σ H R:=h
theorem SM{P:Int->Prop}{i:Int}(h1: -(2^62)<=i)(h2:i<2^62)(h:P i):∃j:Int,[V.int i]=[.int j]/\ -(2^62)<=j/\j<2^62/\P j:=⟨i,rfl,h1,h2,h⟩
theorem NU{t:TA}{R:It->Hp->Prop}(h:t σ H fun vs H1=>∃i j:Int,vs=[.int i, .int j]/\(-(2^62)<=i/\i<2^62/\ -(2^62)<=j/\j<2^62)/\R (gc i (j-i).toNat) H1):DM t σ H R:=h
theorem Ll{P:Int->Int->Prop}{a b:Int}(h1: -(2^62)<=a/\a<2^62/\ -(2^62)<=b/\b<2^62)(h:P a b):∃i j:Int,[V.int a,V.int b]=[.int i, .int j]/\(-(2^62)<=i/\i<2^62/\ -(2^62)<=j/\j<2^62)/\P i j:=⟨a,b,rfl,h1,h⟩
theorem iL{tl:TE}{R:It->Hp->Prop}(h:tl σ H fun x H1=>∃a,x= .ref a/\(∃xs,aM K H1 a xs)/\R (kr K a) H1):nJ K tl σ H R:=h
theorem pN{P:Addr->Prop}{p:Addr}{xs:List V}(hp:aM K H p xs)(h:P p):∃a,V.ref p= .ref a/\(∃xs,aM K H a xs)/\P a:=⟨p,rfl,⟨xs,hp⟩,h⟩
theorem Oc{wi:TI}{g:TG}{tb:TS}(h:wi σ H fun J H1=>∃W:Nat->Nat->St->Hp->Prop,(∃m,W 0 m σ H1)/\∀i m σ H,W i m σ H->
 (J.stop i H/\D.nx σ H)\/(J.go i H/\∃N:St->Hp->Prop,(∀σ' H',N σ' H'->∃m',m'<m/\W (i+1) m' σ' H')/\∀x H',J.jC i H x H'->g x σ H' fun σ2 H2=>tb {D with nx:=N,ct:=N,bk:=D.nx} σ2 H2)):mR wi g tb D σ H:=h
theorem comp{wi:TI}{g:TG}{tc:TT}{mp:List (Option Nat)}(h:wi σ H fun J H1=>∀acc,H1 acc=none->nL J g tc te acc (fun H'=>Q (.ref acc) H') (fG mp σ) (upd H1 acc (.lst []))):lq wi g tc te mp σ H Q:=h
end
theorem yY{lo:Int}{n:Nat}{g:TG}{tc:TT}{te:TE}{acc:Addr}{Qe:Hp->Prop}{σ:St}{H:Hp}(Pv:Nat->St->Hp->Prop)(h0:Pv 0 σ H)
  (hs:∀i σ H,i<n->Pv i σ H->g (.int (lo+i)) σ H fun σ2 H2=>tc σ2 H2 fun b H3=>if b=true then te σ2 H3 fun v H4=>∃ys,H4 acc=some (.lst ys)/\ys.length<sizeLine/\Pv (i+1) σ2 (upd H4 acc (.lst (ys++[v]))) else Pv (i+1) σ2 H3)
  (hd:∀σ H,Pv n σ H->Qe H):nL (gc lo n) g tc te acc Qe σ H:=by
 refine⟨fun i m σ H=>m=n-i/\i<=n/\Pv i σ H,⟨n,by simp,Nat.zero_le _,h0⟩,?_⟩
 rintro i m σ H ⟨rfl,hi,p⟩
 by_cases hlt:i<n
 ·refine .inr ⟨hlt,Pv (i+1),fun σ' H' p'=>⟨n-(i+1),by omega,rfl,hlt,p'⟩,fun x H' y=>?_⟩
  obtain⟨e,y⟩:=y
  subst e y
  exact hs i σ _ hlt p
 ·have e:i=n:=by omega
  subst e
  exact .inl ⟨Nat.le_refl _,hd σ H p⟩
theorem r6{K:PySem.W.Frag}{a:Addr}{xs:List V}{g:TG}{tc:TT}{te:TE}{acc:Addr}{Qe:Hp->Prop}{σ:St}{H:Hp}(Pv:Nat->St->Hp->Prop)(h0:Pv 0 σ H)(hl:∀i σ H,i<=xs.length->Pv i σ H->aM K H a xs)
  (hs:∀i x σ H,xs[i]?=some x->Pv i σ H->g x σ H fun σ2 H2=>tc σ2 H2 fun b H3=>if b=true then te σ2 H3 fun v H4=>∃ys,H4 acc=some (.lst ys)/\ys.length<sizeLine/\Pv (i+1) σ2 (upd H4 acc (.lst (ys++[v]))) else Pv (i+1) σ2 H3)
  (hd:∀σ H,Pv xs.length σ H->Qe H):nL (kr K a) g tc te acc Qe σ H:=by
 refine⟨fun i m σ H=>m=xs.length-i/\i<=xs.length/\Pv i σ H,⟨xs.length,by simp,Nat.zero_le _,h0⟩,?_⟩
 rintro i m σ H ⟨rfl,hi,p⟩
 have q:=hl i σ H hi p
 by_cases hlt:i<xs.length
 ·refine .inr ⟨⟨xs,xs[i],q,by simp[hlt]⟩,Pv (i+1),fun σ' H' p'=>⟨xs.length-(i+1),by omega,rfl,hlt,p'⟩,fun x H' y=>?_⟩
  obtain⟨e,y⟩:=y
  subst e
  exact hs i x σ _ (y xs q) p
 ·have e:i=xs.length:=by omega
  subst e
  exact .inl ⟨⟨xs,q,Nat.le_refl _⟩,hd σ H p⟩
end R
end L2
set_option maxRecDepth 100000
set_option maxHeartbeats 1000000
namespace L2
open PySem PySem.Spec PyProof.Rows
@[reducible] def pairD(pr:Int×Int):PyData:= .tuple [.int pr.1, .int pr.2]
def eZ:Option Int->PyData
 |none=> .none
 |some i=> .int i
def pX:Option Int->V
 |none=> .aE
 |some i=> .int i
def eG(wd:List (Option Int))(pr:Int×Int):Int:=match wd[pr.1.toNat]? with
 |some (some x)=>pr.2*x
 |_=>0
def aZ(prs:List (Int×Int))(wd:List (Option Int)):Int:=(prs.map (eG wd)).sum
theorem zL{prs:List (Int×Int)}{wd:List (Option Int)}{i:Nat}(h:i<prs.length):aZ (prs.take (i+1)) wd=aZ (prs.take i) wd+eG wd prs[i]:=by
 unfold aZ
 rw[List.take_add_one,List.getElem?_eq_getElem h,List.map_append,List.sum_append]
 simp
theorem M5{nb:Addr->Prop}{H:Hp}{o:Option Int}{v:V}(h:af nb H (eZ o) v):v=pX o:=by
 cases o with
 |none=>exact h.t9
 |some i=>exact h.bG
theorem Df{nb:Addr->Prop}{H:Hp}:∀{wd:List (Option Int)} {xs:List V},ah nb H (wd.map eZ) xs->xs=wd.map pX
  |[],_,h=>by unfold List.map ah at h;exact h
  | o :: wd, _, h => by
    rw[List.map_cons] at h
    unfold ah at h
    obtain⟨y,ys,rfl,h1,h2⟩:=h
    rw[List.map_cons,M5 h1,Df h2]
theorem GG{nb:Addr->Prop}{H:Hp}{pr:Int×Int}{v:V}(h:af nb H (pairD pr) v):∃t,v= .ref t/\¬nb t/\H t=some (.tup [.int pr.1, .int pr.2]):=by
 obtain⟨t,xs,rfl,n,ht,hd⟩:=h.ofT
 unfold ah at hd
 obtain⟨y,ys,rfl,h1,h2⟩:=hd
 unfold ah at h2
 obtain⟨z,zs,rfl,h3,h4⟩:=h2
 unfold ah at h4
 subst h4
 rw[h1.bG,h3.bG] at ht
 exact⟨t,rfl,n,ht⟩
def ym:Sp:=fun vs H Q _=>∃(nb:Addr->Prop) (p:Int) (va vc:V) (prs:List (Int×Int)) (wd:List (Option Int)),vs=[.int p,va,vc]/\af nb H (.list (prs.map pairD)) va/\af nb H (.list (wd.map eZ)) vc/\0<p/\
 (∀pr∈prs,0<=pr.1/\pr.1<wd.length/\Sm pr.2)/\(∀x,some x∈wd->Sm x)/\Q (.int (aZ prs wd%p)) H
theorem Qv(prs:List (Int×Int)):SeqAt.shaped (.list (prs.map pairD))=true/\PyData.depthAll (prs.map pairD)<=1/\PyData.canLayAll0 (prs.map pairD)=true:=by
 have h:PyData.depthAll (prs.map pairD)<=1/\PyData.canLayAll0 (prs.map pairD)=true:=by
  induction prs with
  |nil=>simp[PyData.depthAll,PyData.canLayAll0]
  |cons a r ih=>simp[pairD,PyData.depthAll,PyData.depth,PyData.canLayAll0,PyData.canLay0,ih.2];have:=ih.1;omega
 refine⟨?_,h⟩
 unfold SeqAt.shaped
 simp[PyData.canLay0,PyData.depth,h.2]
 omega
theorem Ny(wd:List (Option Int)):PyData.depthAll (wd.map eZ)=0/\PyData.canLayAll0 (wd.map eZ)=true:=by
 induction wd with
 |nil=>simp[PyData.depthAll,PyData.canLayAll0]
 |cons a r ih=>cases a<;>simp[eZ,PyData.depthAll,PyData.depth,PyData.canLayAll0,PyData.canLay0,ih.2,ih.1]
def qt(r:Int):Prop:=∀d:Int,2<=d->d*d<=r->r%d≠0
def qg:List Int:=[2,3,5,7,2,11,101,10007,65537,1000003,998244353,1000000007,2147483647,1000000000039,1000000000000000003,18446744073709551557,2305843009213693951,618970019642690137449562111,162259276829213363391578010288127,170141183460469231731687303715884105727,1000000000000000000000000000000000000003,9999999999999999999999999999999999999983]
def AO(p:Int):Prop:=2<=p/\p<10^40/\(p∈qg\/qt p)
def yJ:Sp:=fun vs H Q _=>∃n:Int,vs=[.int n]/\2<=n/\n<=10002/\∀(r:Int) (H':Hp),aO H H'->2<=r->r<=10100->qt r->Q (.int r) H'
def RC:Sp:=fun vs H Q _=>∃(b l:Addr),vs=[.ref b]/\bR H b l/\∀(p:Int) (H':Hp),AO p->aJ (Nb b) H H'->bR H' b l->Q (.int p) H'
theorem sV{nb:Addr->Prop}{H:Hp}:∀is:List Int,ah nb H (is.map PyData.int) (is.map V.int)
 |[]=>ah.nil
 |i::is=>ah.cons (.int i) (sV is)
theorem mG{nb:Addr->Prop}{H:Hp}:∀{is:List Int} {xs:List V},ah nb H (is.map PyData.int) xs->xs=is.map V.int
  |[],_,h=>by unfold List.map ah at h;exact h
  | i :: is, _, h => by
    rw[List.map_cons] at h
    unfold ah at h
    obtain⟨y,ys,rfl,h1,h2⟩:=h
    rw[List.map_cons,h1.bG,mG h2]
end L2
set_option maxRecDepth 100000
set_option maxHeartbeats 1000000
namespace L2
open PySem PySem.Spec PyProof.Rows
abbrev Bg:=Option (Addr×Addr)
def NB(B:Bg)(a:Addr):Prop:=∀b l,B=some (b,l)->a≠b
def gP(B:Bg)(H:Hp):Prop:=∀b l,B=some (b,l)->bR H b l
inductive HD where
 |d (x:PyData)|fz (o:Obj) (ps:List (Key×V))
def cZ(S:Addr->Prop)(H:Hp):HD->V->Prop
 | .d x,v=>af S H x v
 | .fz o ps,v=>∃a,v= .ref a/\¬S a/\H a=some (.bu o (.dK ps))
theorem cZ.keep{S:Addr->Prop}{H H':Hp}{x:HD}{v:V}(h:cZ S H x v)(b:aJ S H H'):cZ S H' x v:=by
 cases x with
 |d x=>exact af.keep b h
 |fz o ps=>obtain⟨a,e,n,q⟩:=h;exact⟨a,e,n,b _ _ n q⟩
theorem cZ.av{S S':Addr->Prop}{H:Hp}{x:HD}{v:V}(h:cZ S H x v)(b:∀a,S' a->S a):cZ S' H x v:=by
 cases x with
 |d x=>exact af.av b h
 |fz o ps=>obtain⟨a,e,n,q⟩:=h;exact⟨a,e,fun z=>n (b a z),q⟩
theorem cZ.fresh{S:Addr->Prop}{H:Hp}{x:HD}{v:V}{p:Addr}(h:cZ S H x v)(hp:H p=none):cZ (fun a=>S a\/a=p) H x v:=by
 cases x with
 |d x=>exact af.fresh hp h
 |fz o ps=>obtain⟨a,e,n,q⟩:=h;exact⟨a,e,fun z=>z.elim n (fY q hp),q⟩
structure Gx where
 B:Bg
 H0:Hp
 A:Addr->Prop
 hold:List (Bool×HD×V):=[]
def iG(nb:Addr->Prop)(H:Hp):Prop:=∀a,nb a->H a≠none
structure Kp(S:Addr->Prop)(F:List Addr)(H H':Hp):Prop where
 own:∀a∈F,∀o,H a=some o->H' a=some o
 lst:∀a xs,¬S a->H a=some (.lst xs)->H' a=some (.lst xs)
 tup:∀a xs,¬S a->H a=some (.tup xs)->H' a=some (.tup xs)
 aR:∀a ps,¬S a->Rd H a (.dK ps)->Rd H' a (.dK ps)
theorem Kp.of{S:Addr->Prop}{F:List Addr}{H H':Hp}(h:∀a o,(¬S a\/a∈F)->H a=some o->H' a=some o):Kp S F H H':=
 ⟨fun a ha o e=>h a o (.inr ha) e,fun a xs n e=>h a _ (.inl n) e,fun a xs n e=>h a _ (.inl n) e,fun a ps n e=>e.elim (fun e=> .inl (h a _ (.inl n) e)) fun⟨o,e⟩=> .inr ⟨o,h a _ (.inl n) e⟩⟩
mutual
theorem af.kp{S:Addr->Prop}{F:List Addr}{H H':Hp}(m:Kp S F H H'):∀{d:PyData} {v:V},af S H d v->af S H' d v
 | .none,_,h=>by unfold af at h⊢;exact h
 | .bool _,_,h=>by unfold af at h⊢;exact h
 | .int _,_,h=>by unfold af at h⊢;exact h
 | .str _,_,h=>by unfold af at h⊢;exact h
 | .list ds,_,h=>by unfold af at h⊢;obtain⟨a,xs,e,n,s,r⟩:=h;exact⟨a,xs,e,n,m.lst _ _ n s,ah.kp m r⟩
 | .tuple ds,_,h=>by unfold af at h⊢;obtain⟨a,xs,e,n,s,r⟩:=h;exact⟨a,xs,e,n,m.tup _ _ n s,ah.kp m r⟩
 | .dict kvs,_,h=>by unfold af at h⊢;obtain⟨a,xs,e,n,s,r⟩:=h;exact⟨a,xs,e,n,m.aR _ _ n s,ak.kp m r⟩
theorem ah.kp{S:Addr->Prop}{F:List Addr}{H H':Hp}(m:Kp S F H H'):∀{ds:List PyData} {vs:List V},ah S H ds vs->ah S H' ds vs
 |[],_,h=>by unfold ah at h⊢;exact h
 |d::ds,_,h=>by unfold ah at h⊢;obtain⟨y,ys,e,h1,h2⟩:=h;exact⟨y,ys,e,af.kp m h1,ah.kp m h2⟩
theorem ak.kp{S:Addr->Prop}{F:List Addr}{H H':Hp}(m:Kp S F H H'):∀{ds:List (PyData×PyData)} {vs:List (Key×V)},ak S H ds vs->ak S H' ds vs
 |[],_,h=>by unfold ak at h⊢;exact h
 |d::ds,_,h=>by unfold ak at h⊢;obtain⟨y,ys,e,h1,h2⟩:=h;exact⟨y,ys,e,bf.kp m h1,ak.kp m h2⟩
theorem bf.kp{S:Addr->Prop}{F:List Addr}{H H':Hp}(m:Kp S F H H'):∀{d:PyData×PyData} {v:Key×V},bf S H d v->bf S H' d v
 |(k,d),_,h=>by unfold bf at h⊢;exact⟨h.1,af.kp m h.2⟩
end
structure Cu where
 v:V
 F:List Addr
 f:Bool
 P:(Addr->Prop)->Hp->Prop
 keep:∀{S:Addr->Prop} {H H':Hp},Kp S F H H'->P S H->P S H'
 av:∀{S S':Addr->Prop} {H:Hp},(∀a,S' a->S a)->P S H->P S' H
 fresh:∀{S:Addr->Prop} {H:Hp} {p:Addr},H p=none->P S H->P (fun a=>S a\/a=p) H
inductive Sl where
 |no|d (f:Bool) (d:PyData)|own (a:Addr) (f:Bool) (ds:List PyData)|au|raw (v:V)|aR (a:Addr) (f:Bool) (ks:List (Int×PyData))|cu (c:Cu)
def Sl.adr:Sl->List Addr
 | .own a _ _=>[a]
 | .aR a _ _=>[a]
 | .cu c=>c.F
 |_=>[]
@[reducible] def bS(p:Int×PyData):PyData×PyData:=(.int p.1,p.2)
abbrev Rh:=List Sl
def Gx.S(G:Gx)(nb:Addr->Prop)(f:Bool):Addr->Prop:=fun a=>nb a\/G.A a\/¬NB G.B a\/(f=true/\G.H0 a≠none)
def ly(G:Gx)(nb:Addr->Prop)(H:Hp)(x:Option V):Sl->Prop
 | .no=>True
 | .d f d=>∃v,x=some v/\af (G.S nb f) H d v
 | .own a f ds=>x=some (.ref a)/\nb a/\NB G.B a/\∃xs,H a=some (.lst xs)/\ah (G.S nb f) H ds xs
 | .au=>∃b l,G.B=some (b,l)/\x=some (.ref b)
 | .raw v=>x=some v
 | .aR a f ks=>x=some (.ref a)/\nb a/\NB G.B a/\∃ps,H a=some (.dK ps)/\ak (G.S nb f) H (ks.map bS) ps
 | .cu c=>x=some c.v/\(∀a∈c.F,nb a/\NB G.B a)/\c.P (G.S nb c.f) H
structure Wd(G:Gx)(nb:Addr->Prop)(ρ:Rh)(σ:St)(H:Hp):Prop where
 au:gP G.B H
 live:iG nb H
 old:∀a o,NB G.B a->G.H0 a=some o->H a=some o
 bB:∀a,nb a->NB G.B a->G.H0 a=none
 gA:iG G.A G.H0
 len:σ.length=ρ.length
 gB:gP G.B G.H0
 cM:∀h∈G.hold,cZ (G.S nb h.1) H h.2.1 h.2.2
 ok:∀(i:Nat) (s:Sl),ρ[i]?=some s->∃x,σ[i]?=some x/\ly G nb H x s
 apart:∀(i j:Nat) a f as c g cs,i≠j->ρ[i]?=some (.own a f as)->ρ[j]?=some (.own c g cs)->a≠c
 cP:∀(i j:Nat) a f as c g cs,i≠j->ρ[i]?=some (.aR a f as)->ρ[j]?=some (.aR c g cs)->a≠c
 bF:∀(i j:Nat) c s,i≠j->ρ[i]?=some (.cu c)->ρ[j]?=some s->∀a∈c.F,a∉s.adr
def Step(B:Bg)(H H':Hp):Prop:=(∀a o,NB B a->H a=some o->H' a=some o)/\gP B H'
section
variable{G:Gx}{B:Bg}{nb:Addr->Prop}{ρ:Rh}{σ:St}{H H1 H2 H':Hp}{f g:Bool}{d:PyData}{ds:List PyData}{v:V}{xs:List V}{a p:Addr}
theorem Step.refl(h:gP B H):Step B H H:=⟨fun _ _ _ e=>e,h⟩
theorem Step.trans(x:Step B H H1)(y:Step B H1 H2):Step B H H2:=⟨fun a o n e=>y.1 a o n (x.1 a o n e),y.2⟩
theorem gP.same(h:gP B H)(s:aO H H'):gP B H':=fun b l e=>(h b l e).same s
theorem Step.same(h:gP B H)(s:aO H H'):Step B H H':=⟨fun a o _ e=>s a o e,h.same s⟩
theorem Step.but{br:Addr->Prop}(s:Step B H H')(h:∀a,¬NB B a->br a):aJ br H H':=fun a o n e=>s.1 a o (Classical.byContradiction fun z=>n (h a z)) e
theorem Step.cX(s:Step G.B H H'):aJ (G.S nb f) H H':=s.but fun a h=> .inr (.inr (.inl h))
theorem aS(h:g=true->f=true){br:Addr->Prop}(hn:∀a,nb a->br a):∀a,G.S nb g a->G.S br f a:=by
 intro a z
 rcases z with z|z|z|⟨z,q⟩
 ·exact .inl (hn a z)
 ·exact .inr (.inl z)
 ·exact .inr (.inr (.inl z))
 ·exact .inr (.inr (.inr ⟨h z,q⟩))
theorem NB.kO(h:gP B H)(n:¬NB B a):H a≠none:=by
 intro e
 apply n
 intro b l hb z
 subst z
 obtain⟨_,_,_,_,_,h1,_⟩:=h _ _ hb
 rw[h1] at e;cases e
theorem Wd.gu(W:Wd G nb ρ σ H):iG (G.S nb f) H:=by
 intro a z
 rcases z with z|z|z|⟨_,z⟩
 ·exact W.live a z
 ·by_cases n:NB G.B a
  ·cases e:G.H0 a with
   |none=>exact absurd e (W.gA a z)
   |some o=>rw[W.old a o n e];exact Option.some_ne_none _
  ·exact NB.kO W.au n
 ·exact NB.kO W.au z
 ·by_cases n:NB G.B a
  ·cases e:G.H0 a with
   |none=>exact absurd e z
   |some o=>rw[W.old a o n e];exact Option.some_ne_none _
  ·exact NB.kO W.au n
theorem Wd.fresh(W:Wd G nb ρ σ H)(hp:H p=none):¬G.S nb f p:=fun z=>W.gu p z hp
theorem ly.step{x:Option V}{s:Sl}(st:Step G.B H H')(h:ly G nb H x s):ly G nb H' x s:=by
  cases s with
  |no=>trivial
  |d f d=>obtain⟨v,e,h⟩:=h;exact⟨v,e,h.keep st.cX⟩
  |own a f ds=>obtain⟨e,n,q,xs,hx,hd⟩:=h;exact⟨e,n,q,xs,st.1 _ _ q hx,hd.keep st.cX⟩
  |au=>exact h
  |raw v=>exact h
  |aR a f ks=>obtain⟨e,n,q,xs,hx,hd⟩:=h;exact⟨e,n,q,xs,st.1 _ _ q hx,hd.keep st.cX⟩
  | cu c =>
    obtain⟨e,n,p⟩:=h
    refine⟨e,n,c.keep (.of fun a o ha e=>st.1 a o ?_ e) p⟩
    rcases ha with ha|ha
    · exact Classical.byContradiction fun z=>ha (.inr (.inr (.inl z)))
    · exact(n a ha).2
theorem JA(n:NB B a)(st:Step B H H')(h:H a≠none):H' a≠none:=by
 cases e:H a with
 |none=>exact absurd e h
 |some o=>rw[st.1 a o n e];exact Option.some_ne_none _
theorem Wd.step(W:Wd G nb ρ σ H)(st:Step G.B H H'):Wd G nb ρ σ H' where
 au:=st.2
 live:=fun a n=>by
  by_cases q:NB G.B a
  ·exact JA q st (W.live a n)
  ·exact NB.kO st.2 q
 old:=fun a o n e=>st.1 a o n (W.old a o n e)
 bB:=W.bB
 gA:=W.gA
 len:=W.len
 gB:=W.gB
 cM:=fun h m=>(W.cM h m).keep st.cX
 ok:=fun i s e=>by
  obtain⟨x,e1,h⟩:=W.ok i s e
  exact⟨x,e1,h.step st⟩
 apart:=W.apart
 cP:=W.cP
 bF:=W.bF
theorem Wd.set{i:Nat}{s:Sl}{x:Option V}(W:Wd G nb ρ σ H)(h:ly G nb H x s)(hs:∀a f ds,s= .own a f ds->∀j c g cs,j≠i->ρ[j]?=some (.own c g cs)->a≠c)(hd:∀a f ds,s= .aR a f ds->∀j c g cs,j≠i->ρ[j]?=some (.aR c g cs)->a≠c:=by intro _ _ _ z;cases z)(hcu:∀a∈s.adr,∀j t,j≠i->ρ[j]?=some t->(∃c,s= .cu c)\/(∃c,t= .cu c)->a∉t.adr:=by intro _ z;cases z):Wd G nb (ρ.set i s) (σ.set i x) H where
 au:=W.au
 live:=W.live
 old:=W.old
 bB:=W.bB
 gA:=W.gA
 len:=by rw[List.length_set,List.length_set];exact W.len
 gB:=W.gB
 cM:=W.cM
 ok:=fun j t e=>by
  by_cases hij:i=j
  ·subst hij
   have hl:i<ρ.length:=by have:=(List.getElem?_eq_some_iff.mp e).1;rwa[List.length_set] at this
   rw[List.getElem?_set_self hl] at e
   cases e
   exact⟨x,List.getElem?_set_self (by rw[W.len];exact hl),h⟩
  ·rw[List.getElem?_set_ne hij] at e⊢
   exact W.ok j t e
 apart:=fun j k a f as c g cs hjk e1 e2=>by
  by_cases hj:i=j
  ·subst hj
   have hl:i<ρ.length:=by have:=(List.getElem?_eq_some_iff.mp e1).1;rwa[List.length_set] at this
   rw[List.getElem?_set_self hl] at e1
   cases e1
   rw[List.getElem?_set_ne hjk] at e2
   exact hs a f as rfl k c g cs (Ne.symm hjk) e2
  ·by_cases hk:i=k
   ·subst hk
    have hl:i<ρ.length:=by have:=(List.getElem?_eq_some_iff.mp e2).1;rwa[List.length_set] at this
    rw[List.getElem?_set_self hl] at e2
    cases e2
    rw[List.getElem?_set_ne hj] at e1
    exact(hs c g cs rfl j a f as hjk e1).symm
   ·rw[List.getElem?_set_ne hj] at e1
    rw[List.getElem?_set_ne hk] at e2
    exact W.apart j k a f as c g cs hjk e1 e2
 cP:=fun j k a f as c g cs hjk e1 e2=>by
  by_cases hj:i=j
  ·subst hj
   have hl:i<ρ.length:=by have:=(List.getElem?_eq_some_iff.mp e1).1;rwa[List.length_set] at this
   rw[List.getElem?_set_self hl] at e1
   cases e1
   rw[List.getElem?_set_ne hjk] at e2
   exact hd a f as rfl k c g cs (Ne.symm hjk) e2
  ·by_cases hk:i=k
   ·subst hk
    have hl:i<ρ.length:=by have:=(List.getElem?_eq_some_iff.mp e2).1;rwa[List.length_set] at this
    rw[List.getElem?_set_self hl] at e2
    cases e2
    rw[List.getElem?_set_ne hj] at e1
    exact(hd c g cs rfl j a f as hjk e1).symm
   ·rw[List.getElem?_set_ne hj] at e1
    rw[List.getElem?_set_ne hk] at e2
    exact W.cP j k a f as c g cs hjk e1 e2
 bF:=fun j k c t hjk e1 e2 a ha=>by
  by_cases hj:i=j
  ·subst hj
   have hl:i<ρ.length:=by have:=(List.getElem?_eq_some_iff.mp e1).1;rwa[List.length_set] at this
   rw[List.getElem?_set_self hl] at e1
   cases e1
   rw[List.getElem?_set_ne hjk] at e2
   exact hcu a ha k t (Ne.symm hjk) e2 (.inl ⟨c,rfl⟩)
  ·by_cases hk:i=k
   ·subst hk
    have hl:i<ρ.length:=by have:=(List.getElem?_eq_some_iff.mp e2).1;rwa[List.length_set] at this
    rw[List.getElem?_set_self hl] at e2
    cases e2
    rw[List.getElem?_set_ne hj] at e1
    exact fun z=>hcu a z j (.cu c) hjk e1 (.inr ⟨c,rfl⟩) ha
   ·rw[List.getElem?_set_ne hj] at e1
    rw[List.getElem?_set_ne hk] at e2
    exact W.bF j k c t hjk e1 e2 a ha
theorem Wd.jN{i:Nat}(W:Wd G nb ρ σ H)(h:af (G.S nb f) H d v):Wd G nb (ρ.set i (.d f d)) (σ.set i (some v)) H:=W.set ⟨v,rfl,h⟩ fun _ _ _ e=>by cases e
inductive Wk:Rh->Rh->Prop
 |nil:Wk [] []
 |no {s:Sl} {r r':Rh} (h:Wk r r'):Wk (.no::r) (s::r')
 |eq {s:Sl} {r r':Rh} (h:Wk r r'):Wk (s::r) (s::r')
theorem Wk.at:∀{r r':Rh} {i:Nat} {s:Sl},Wk r r'->r[i]?=some s->s= .no/\(∃t,r'[i]?=some t)\/r'[i]?=some s
 |_,_,_,_, .nil,e=>by simp at e
 |_,_,0,_, .no h,e=>by simp at e;subst e;exact .inl ⟨rfl,_,rfl⟩
 |_,_,0,_, .eq h,e=>by simp at e;subst e;exact .inr rfl
 |_,_,i+1,_, .no h,e=>by simpa using Wk.at (i:=i) h (by simpa using e)
 |_,_,i+1,_, .eq h,e=>by simpa using Wk.at (i:=i) h (by simpa using e)
theorem Wk.len{r r':Rh}(h:Wk r r'):r.length=r'.length:=by
 induction h with
 |nil=>rfl
 |no _ ih=>simp[ih]
 |eq _ ih=>simp[ih]
theorem Wd.wk{ρ':Rh}(W:Wd G nb ρ' σ H)(h:Wk ρ ρ'):Wd G nb ρ σ H where
 au:=W.au
 live:=W.live
 old:=W.old
 bB:=W.bB
 gA:=W.gA
 len:=by rw[h.len];exact W.len
 gB:=W.gB
 cM:=W.cM
 ok:=fun i s e=>by
  rcases h.at e with ⟨rfl,t,e'⟩|e'
  ·obtain⟨x,e1,_⟩:=W.ok i t e';exact⟨x,e1,trivial⟩
  ·exact W.ok i s e'
 apart:=fun i j a f as c g cs hij e1 e2=>by
  rcases h.at e1 with ⟨z,_⟩|gh
  ·cases z
  rcases h.at e2 with ⟨z,_⟩|e2'
  ·cases z
  exact W.apart i j a f as c g cs hij gh e2'
 cP:=fun i j a f as c g cs hij e1 e2=>by
  rcases h.at e1 with ⟨z,_⟩|gh
  ·cases z
  rcases h.at e2 with ⟨z,_⟩|e2'
  ·cases z
  exact W.cP i j a f as c g cs hij gh e2'
 bF:=fun i j c s hij e1 e2 a ha=>by
  rcases h.at e1 with ⟨z,_⟩|gh
  ·cases z
  rcases h.at e2 with ⟨z,_⟩|e2'
  ·subst z;exact fun z=>by cases z
  exact W.bF i j c s hij gh e2' a ha
theorem Wd.more(W:Wd G nb ρ σ H)(hp:H p=none){o:HO}:Wd G (fun a=>nb a\/a=p) ρ σ (upd H p o):=by
 have hS:aO H (upd H p o):=cz hp
 have hN:NB G.B p:=fun b l e z=>by
  subst z
  obtain⟨_,_,_,_,_,h1,_⟩:=W.au _ _ e
  rw[h1] at hp;cases hp
 have W':=W.step (Step.same W.au hS)
 have hA:∀f a,G.S (fun a=>nb a\/a=p) f a->(G.S nb f a\/a=p):=fun f a z=>by
  rcases z with (z|z)|z|z|z
  ·exact .inl (.inl z)
  ·exact .inr z
  ·exact .inl (.inr (.inl z))
  ·exact .inl (.inr (.inr (.inl z)))
  ·exact .inl (.inr (.inr (.inr z)))
 refine⟨W'.au,fun a n=>?_,W'.old,fun a n q=>?_,W.gA,W.len,W.gB,fun h m=>(((W.cM h m).fresh hp).av (hA h.1)).keep (aJ.of hS),fun i s e=>?_,W.apart,W.cP,W.bF⟩
 ·rcases n with n|n
  ·exact W'.live a n
  ·subst n;rw[aL];exact Option.some_ne_none _
 ·rcases n with n|n
  ·exact W.bB a n q
  ·subst n
   cases e:G.H0 a with
   |none=>rfl
   |some o=>rw[W.old a o q e] at hp;cases hp
 ·obtain⟨x,e1,h⟩:=W.ok i s e
  refine⟨x,e1,?_⟩
  cases s with
  |no=>trivial
  |d f d=>obtain⟨v,e,h⟩:=h;exact⟨v,e,((h.fresh hp).av (hA f)).keep (aJ.of hS)⟩
  |own a f ds=>obtain⟨e,n,q,xs,hx,hd⟩:=h;exact⟨e, .inl n,q,xs,hS _ _ hx,((hd.fresh hp).av (hA f)).keep (aJ.of hS)⟩
  |au=>exact h
  |raw v=>exact h
  |aR a f ds=>obtain⟨e,n,q,xs,hx,hd⟩:=h;exact⟨e, .inl n,q,xs,hS _ _ hx,((hd.fresh hp).av (hA f)).keep (aJ.of hS)⟩
  |cu c=>obtain⟨e,n,q⟩:=h;exact⟨e,fun a ha=>⟨.inl (n a ha).1,(n a ha).2⟩,c.keep (.of fun a o _ e=>hS a o e) (c.av (hA c.f) (c.fresh hp q))⟩
theorem Wd.write(W:Wd G nb ρ σ H){o:HO}(hp:nb p)(hN:NB G.B p)(ho:∀(i:Nat) a f ds,ρ[i]?=some (.own a f ds)->a≠p)(hod:∀(i:Nat) a f ds,ρ[i]?=some (.aR a f ds)->a≠p)(hoc:∀(i:Nat) c,ρ[i]?=some (.cu c)->p∉c.F):Wd G nb ρ σ (upd H p o):=by
  have hl:∀b l,G.B=some (b,l)->p≠l:=fun b l e z=>by
    obtain⟨_,_,_,_,_,_,h2,_⟩:=W.gB b l e
    rw[<-z,W.bB p hp hN] at h2;cases h2
  have hB:gP G.B (upd H p o):=fun b l e=>(W.au b l e).put2 ⟨hN b l e,hl b l e⟩
  have bt:∀f,aJ (G.S nb f) H (upd H p o):=fun f=>aJ.set (.inl hp)
  refine⟨hB,fun a n=>?_,fun a o' n e=>?_,W.bB,W.gA,W.len,W.gB,fun h m=>(W.cM h m).keep (bt h.1),fun i s e=>?_,W.apart,W.cP,W.bF⟩
  · by_cases z:a=p
    · subst z;rw[aL];exact Option.some_ne_none _
    · rw[aq z];exact W.live a n
  · have z:a≠p:=fun z=>by subst z;rw[W.bB a hp n] at e;cases e
    rw[aq z];exact W.old a o' n e
  · obtain⟨x,e1,h⟩:=W.ok i s e
    refine⟨x,e1,?_⟩
    cases s with
    |no=>trivial
    |d f d=>obtain⟨v,e,h⟩:=h;exact⟨v,e,h.keep (bt f)⟩
    |own a f ds=>obtain⟨e',n,q,xs,hx,hd⟩:=h;exact⟨e',n,q,xs,by rw[aq (ho i a f ds e)];exact hx,hd.keep (bt f)⟩
    |au=>exact h
    |raw v=>exact h
    |aR a f ds=>obtain⟨e',n,q,xs,hx,hd⟩:=h;exact⟨e',n,q,xs,by rw[aq (hod i a f ds e)];exact hx,hd.keep (bt f)⟩
    | cu c =>
      obtain⟨e',n,q⟩:=h
      refine⟨e',n,c.keep (.of fun a o' ha e''=>?_) q⟩
      rw[aq]
      · exact e''
      · rintro rfl
        rcases ha with ha|ha
        · exact ha (.inl hp)
        · exact hoc i c e ha
end
end L2
set_option maxRecDepth 100000
set_option maxHeartbeats 1000000
namespace L2
open PySem PySem.Spec PyProof.Rows
abbrev Pd:=Bool->PyData->Prop
def Ev(G:Gx)(ρ:Rh)(te:TE)(Φ:Pd):Prop:=∀nb σ H (Q:VK),Wd G nb ρ σ H->(∀f v H' d,Φ f d->Step G.B H H'->af (G.S nb f) H' d v->Q v H')->te σ H Q
def ay(G:Gx)(ρ:Rh)(te:TE)(Φ:Bool->List PyData->Prop):Prop:=∀nb σ H (Q:VK),Wd G nb ρ σ H->
 (∀f a xs H' ds,Φ f ds->Step G.B H H'->H a=none->H' a=some (.lst xs)->ah (fun x=>G.S nb f x\/x=a) H' ds xs->Q (.ref a) H')->te σ H Q
def Tv(G:Gx)(ρ:Rh)(tt:TT)(Φ:Bool->Prop):Prop:=∀nb σ H (Q:Bool->Hp->Prop),Wd G nb ρ σ H->(∀b H',Φ b->Step G.B H H'->Q b H')->tt σ H Q
def Ov(G:Gx)(ρ:Rh)(to:TO)(Φ:Option Int->Prop):Prop:=∀nb σ H (Q:Option Int->Hp->Prop),Wd G nb ρ σ H->(∀o H',Φ o->Step G.B H H'->Q o H')->to σ H Q
abbrev Fd:=Bool×PyData
def iD(G:Gx)(nb:Addr->Prop)(H:Hp):List Fd->List V->Prop
 |[],vs=>vs=[]
 |e::es,vs=>∃v ws,vs=v::ws/\af (G.S nb e.1) H e.2 v/\iD G nb H es ws
def Av(G:Gx)(ρ:Rh)(ta:TA)(Φ:List Fd->Prop):Prop:=∀nb σ H (Q:List V->Hp->Prop),Wd G nb ρ σ H->(∀es vs H',Φ es->Step G.B H H'->iD G nb H' es vs->Q vs H')->ta σ H Q
def Gv(G:Gx)(ρ:Rh)(g:TG)(f:Bool)(d:PyData)(Φ:Rh->Prop):Prop:=∀nb σ H v (Q:St->Hp->Prop),Wd G nb ρ σ H->af (G.S nb f) H d v->(∀σ' ρ',Φ ρ'->Wd G nb ρ' σ' H->Q σ' H)->g v σ H Q
def jO(G:Gx)(ρ:Rh)(g:fU)(f:Bool)(ds:List PyData)(Φ:Rh->Prop):Prop:=∀nb σ H vs (Q:St->Hp->Prop),Wd G nb ρ σ H->ah (G.S nb f) H ds vs->(∀σ' ρ',Φ ρ'->Wd G nb ρ' σ' H->Q σ' H)->g vs σ H Q
structure DE where
 nx:Rh->Prop
 rt:Pd
 bk:Rh->Prop:=fun _=>False
 ct:Rh->Prop:=fun _=>False
 rw:(Addr->Prop)->Rh->V->Hp->Prop:=fun _ _ _ _=>False
structure qp(G:Gx)(E:DE)(D:Ends):Prop where
 nx:∀nb ρ σ H,E.nx ρ->Wd G nb ρ σ H->D.nx σ H
 bk:∀nb ρ σ H,E.bk ρ->Wd G nb ρ σ H->D.bk σ H
 ct:∀nb ρ σ H,E.ct ρ->Wd G nb ρ σ H->D.ct σ H
 rt:∀nb ρ σ f v H d,E.rt f d->Wd G nb ρ σ H->af (G.S (fun _=>False) f) H d v->D.rt v H
 rw:∀nb ρ σ v H,E.rw nb ρ v H->Wd G nb ρ σ H->D.rt v H
def Sv(G:Gx)(ρ:Rh)(ts:TS)(E:DE):Prop:=∀nb σ H D,Wd G nb ρ σ H->qp G E D->ts D σ H
def gx:PyData->Bool
 | .none=>true| .bool _=>true| .int _=>true| .str _=>true|_=>false
def toV:PyData->V
 | .bool b=> .bl b| .int i=> .int i| .str x=> .str x|_=> .aE
section
variable{nb br:Addr->Prop}{H H':Hp}{d e:PyData}{v:V}
theorem af.sc(h:gx d=true):af nb H d (toV d):=by
 cases d<;>first|(cases h;done)|(unfold af;rfl)
theorem af.Kr(h:gx d=true)(q:af nb H d v):v=toV d:=by
 cases d<;>first|(cases h;done)|(unfold af at q;exact q)
theorem af.iK(h:gx d=true)(q:af nb H d v):af br H' d v:=by
 rw[q.Kr h];exact .sc h
theorem ah.iK:∀{ds:List PyData} {xs:List V},ds.all gx=true->ah nb H ds xs->ah br H' ds xs
  |[],_,_,q=>by unfold ah at q⊢;exact q
  | d :: ds, _, h, q => by
    rw[List.all_cons,Bool.and_eq_true] at h
    unfold ah at q⊢
    obtain⟨y,ys,e,h1,h2⟩:=q
    exact⟨y,ys,e,h1.iK h.1,ah.iK h.2 h2⟩
end
section
variable{G:Gx}{ρ:Rh}{Φ Ψ:Pd}{ta tb te:TE}{t:TA}{i:Nat}{f g:Bool}{d e:PyData}{ds es:List PyData}{K:PySem.W.Frag}
theorem Ev.mono(h:Ev G ρ te Ψ)(q:∀f d,Ψ f d->Φ f d):Ev G ρ te Φ:=fun nb σ H Q W z=>h nb σ H Q W fun f v H' d p=>z f v H' d (q f d p)
theorem ay.ev(h:ay G ρ te fun f ds=>Φ f (.list ds)):Ev G ρ te Φ:=fun nb σ H Q W z=>h nb σ H Q W fun f a xs H' ds p st n e hd=>
 z f _ H' _ p st (.lst (W.fresh n) e (hd.av fun _ x=> .inl x))
namespace Ev
theorem var(e:ρ[i]?=some (.d f d))(h:Φ f d):Ev G ρ (cQ i) Φ:=fun nb σ H Q W z=>by
 obtain⟨x,e1,v,rfl,hd⟩:=W.ok i _ e
 exact⟨v,e1,z f v H d h (.refl W.au) hd⟩
theorem int{n:Int}(h:Φ true (.int n)):Ev G ρ (tC (.int n)) Φ:=fun nb σ H Q W z=>z true _ H _ h (.refl W.au) (.int n)
theorem bl{b:Bool}(h:Φ true (.bool b)):Ev G ρ (tC (.bl b)) Φ:=fun nb σ H Q W z=>z true _ H _ h (.refl W.au) (.bl b)
theorem aE(h:Φ true .none):Ev G ρ (tC .aE) Φ:=fun nb σ H Q W z=>z true _ H _ h (.refl W.au) .aE
theorem gM{r:R2}(h:Ev G ρ ta fun f x=>Ev G ρ tb fun g y=>∀nb σ H u v (Q:VK),Wd G nb ρ σ H->af (G.S nb f) H x u->af (G.S nb g) H y v->(∀f w H' d,Φ f d->Step G.B H H'->af (G.S nb f) H' d w->Q w H')->r u v H Q):Ev G ρ (cD r ta tb) Φ:=fun nb σ H Q W z=>
 h nb σ H _ W fun f v1 H1 d1 p1 s1 q1=>p1 nb σ H1 _ (W.step s1) fun g v2 H2 d2 p2 s2 q2=>p2 nb σ H2 _ _ _ ((W.step s1).step s2) (q1.keep s2.cX) q2 fun f w H' d p st q=>z f w H' d p (s1.trans (s2.trans st)) q
theorem rI{C:Int->Int->Prop}{k:Int->Int->Int}(h:Ev G ρ ta fun _ x=>∃i,x= .int i/\Ev G ρ tb fun _ y=>∃j,y= .int j/\C i j/\Φ true (.int (k i j))):Ev G ρ (cD (L2.rI C fun i j=> .int (k i j)) ta tb) Φ:=
 gM (h.mono fun f x ⟨i,ex,q⟩=>q.mono fun g y ⟨j,ey,hc,p⟩ nb σ H u v Q W hu hv z=>by
  subst ex ey;exact⟨i,j,hu.bG,hv.bG,hc,z true _ H _ p (.refl W.au) (.int _)⟩)
theorem fK{k:Int->Int->Int}(h:Ev G ρ ta fun _ x=>∃i,x= .int i/\Ev G ρ tb fun _ y=>∃j,y= .int j/\Φ true (.int (k i j))):Ev G ρ (cD (L2.fK fun i j=> .int (k i j)) ta tb) Φ:=
 gM (h.mono fun f x ⟨i,ex,q⟩=>q.mono fun g y ⟨j,ey,p⟩ nb σ H u v Q W hu hv z=>by
  subst ex ey;exact⟨i,j,hu.bG,hv.bG,z true _ H _ p (.refl W.au) (.int _)⟩)
theorem Di{k:Int->Int->Bool}(h:Ev G ρ ta fun _ x=>∃i,x= .int i/\Ev G ρ tb fun _ y=>∃j,y= .int j/\Φ true (.bool (k i j))):Ev G ρ (cD (L2.fK fun i j=> .bl (k i j)) ta tb) Φ:=
 gM (h.mono fun f x ⟨i,ex,q⟩=>q.mono fun g y ⟨j,ey,p⟩ nb σ H u v Q W hu hv z=>by
  subst ex ey;exact⟨i,j,hu.bG,hv.bG,z true _ H _ p (.refl W.au) (.bl _)⟩)
theorem un{r:V->Hp->VK->Prop}(h:Ev G ρ ta fun f x=>∀nb σ H u (Q:VK),Wd G nb ρ σ H->af (G.S nb f) H x u->(∀f w H' d,Φ f d->Step G.B H H'->af (G.S nb f) H' d w->Q w H')->r u H Q):Ev G ρ (vf r ta) Φ:=fun nb σ H Q W z=>
 h nb σ H _ W fun f v1 H1 d1 p1 s1 q1=>p1 nb σ H1 _ _ (W.step s1) q1 fun f w H' d p st q=>z f w H' d p (s1.trans st) q
theorem rU{k:Int->Int}(h:Ev G ρ ta fun _ x=>∃i,x= .int i/\Φ true (.int (k i))):Ev G ρ (vf (L2.rU fun i=> .int (k i)) ta) Φ:=
 un (h.mono fun f x ⟨i,ex,p⟩ nb σ H u Q W hu z=>by subst ex;exact⟨i,hu.bG,z true _ H _ p (.refl W.au) (.int _)⟩)
end Ev
inductive fj:PyData->PyData->Bool->Prop
 |ii (i j:Int):fj (.int i) (.int j) (decide (i=j))
 |ni (i:Int):fj .none (.int i) false
 |Vi (i:Int):fj (.int i) .none false
 |nn:fj .none .none true
 |bb (a b:Bool):fj (.bool a) (.bool b) (a==b)
 |ss (x:Str):fj (.str x) (.str x) true
 |sd (x y:Str):fj (.str x) (.str y) (decide (x=y))
theorem fj.v{nb br:Addr->Prop}{H:Hp}{x y:PyData}{b:Bool}{u v:V}(h:fj x y b)(hu:af nb H x u)(hv:af br H y v):tZ u v=true/\decide (u=v)=b:=by
 cases h<;>(unfold af at hu hv;subst hu hv;refine⟨rfl,?_⟩)
 ·exact R.tL
 ·rfl
 ·rfl
 ·rfl
 ·rename_i a b;cases a<;>cases b<;>rfl
 ·exact decide_eq_true rfl
 ·rename_i x y
  by_cases c:x=y
  ·subst c;rw[decide_eq_true rfl,decide_eq_true rfl]
  ·rw[decide_eq_false c,decide_eq_false (fun z=>c (V.str.inj z))]
theorem fj.self{d:PyData}(h:gx d=true):fj d d true:=by
 cases d<;>first|(cases h;done)|skip
 ·exact .nn
 ·rename_i b;have:=fj.bb b b;rwa[beq_self_eq_true] at this
 ·rename_i i;have:=fj.ii i i;rwa[decide_eq_true rfl] at this
 ·exact .ss _
namespace Ev
theorem eq(h:Ev G ρ ta fun _ x=>Ev G ρ tb fun _ y=>∃b,fj x y b/\Φ true (.bool b)):Ev G ρ (cD sG ta tb) Φ:=
 gM (h.mono fun f x q=>q.mono fun g y ⟨b,e,p⟩ nb σ H u v Q W hu hv z=>by
  obtain⟨h1,h2⟩:=e.v hu hv
  exact⟨h1,by rw[h2];exact z true _ H _ p (.refl W.au) (.bl _)⟩)
theorem ne(h:Ev G ρ ta fun _ x=>Ev G ρ tb fun _ y=>∃b,fj x y b/\Φ true (.bool !b)):Ev G ρ (cD v8 ta tb) Φ:=
 gM (h.mono fun f x q=>q.mono fun g y ⟨b,e,p⟩ nb σ H u v Q W hu hv z=>by
  obtain⟨h1,h2⟩:=e.v hu hv
  exact⟨h1,by rw[h2];exact z true _ H _ p (.refl W.au) (.bl _)⟩)
theorem Gm{ng:Bool}(h:Ev G ρ ta fun _ x=>Ev G ρ tb fun _ y=>SeqAt.shaped x=true/\SeqAt.shaped y=true/\Φ true (.bool (PyData.eqv x y !=ng))):Ev G ρ (cD (rY ng) ta tb) Φ:=
 gM (h.mono fun f x q=>q.mono fun g y ⟨h1,h2,p⟩ nb σ H u v Q W hu hv z=>
  ⟨G.S nb false,x,y,hu.av (aS (fun z=>by cases z) fun _ z=>z),hv.av (aS (fun z=>by cases z) fun _ z=>z),h1,h2,z true _ H _ p (.refl W.au) (.bl _)⟩)
end Ev
def n6:PyData->Bool
 | .none=>true
 |_=>false
theorem Em{nb:Addr->Prop}{H:Hp}{d:PyData}{v:V}(h:af nb H d v):decide (v= .aE)=n6 d:=by
 cases d<;>unfold af at h
 all_goals first
  |(subst h;rfl)
  |(obtain⟨a,xs,rfl,_⟩:=h;rfl)
  |exact h.elim
namespace Ev
theorem is(h:Ev G ρ ta fun _ x=>Φ true (.bool (n6 x))):Ev G ρ (cD DT ta (tC .aE)) Φ:=
 gM (h.mono fun f x p=>Ev.aE fun nb σ H u v Q W hu hv z=>⟨hv.t9,by rw[Em hu];exact z true _ H _ p (.refl W.au) (.bl _)⟩)
theorem Pu(h:Ev G ρ ta fun _ x=>Φ true (.bool !n6 x)):Ev G ρ (cD rG ta (tC .aE)) Φ:=
 gM (h.mono fun f x p=>Ev.aE fun nb σ H u v Q W hu hv z=>⟨hv.t9,by rw[Em hu];exact z true _ H _ p (.refl W.au) (.bl _)⟩)
end Ev
theorem ah.bh{nb:Addr->Prop}{H:Hp}{ds:List PyData}{xs:List V}{k:Int}{e:PyData}(h:ah nb H ds xs)(q:L2.bh ds k=some e):∃v,L2.bh xs k=some v/\af nb H e v:=by
 unfold L2.bh at q⊢
 rw[h.length]
 cases z:eV ds.length k with
 |none=>rw[z] at q;cases q
 |some j=>rw[z] at q;exact h.get q
namespace Ev
theorem vH(h:Ev G ρ ta fun f x=>∃ds,x= .list ds/\Ev G ρ tb fun _ y=>∃k,y= .int k/\∃e,bh ds k=some e/\Φ f e):Ev G ρ (cD (dh K) ta tb) Φ:=
 gM (h.mono fun f x ⟨ds,ex,q⟩=>q.mono fun g y ⟨k,ey,e,he,p⟩ nb σ H u v Q W hu hv z=>by
  subst ex ey
  obtain⟨a,xs,rfl,n,hx,hd⟩:=hu.cU
  obtain⟨w,hw,hD⟩:=hd.bh he
  exact⟨a,xs,k,w,rfl,hv.bG, .of hx,hw,z f _ H _ p (.refl W.au) hD⟩)
theorem lN(h:Ev G ρ ta fun f x=>∃ds,x= .tuple ds/\Ev G ρ tb fun _ y=>∃k,y= .int k/\∃e,bh ds k=some e/\Φ f e):Ev G ρ (cD (bY K) ta tb) Φ:=
 gM (h.mono fun f x ⟨ds,ex,q⟩=>q.mono fun g y ⟨k,ey,e,he,p⟩ nb σ H u v Q W hu hv z=>by
  subst ex ey
  obtain⟨a,xs,rfl,n,hx,hd⟩:=hu.ofT
  obtain⟨w,hw,hD⟩:=hd.bh he
  exact⟨a,xs,k,w,rfl,hv.bG, .of hx,hw,z f _ H _ p (.refl W.au) hD⟩)
theorem M0(h:Ev G ρ ta fun _ x=>∃b,x= .bool b/\if b=true then Ev G ρ tb Φ else Φ true (.bool false)):Ev G ρ (Bm ta tb) Φ:=fun nb σ H Q W z=>
 h nb σ H _ W fun f v H1 d ⟨b,e,q⟩ s1 hv=>by
  subst e
  refine⟨b,by unfold af at hv;exact hv,?_⟩
  cases b with
  |true=>rw[if_pos rfl] at q⊢;exact q nb σ H1 _ (W.step s1) fun f v H' d p st=>z f v H' d p (s1.trans st)
  |false=>rw[if_neg Bool.false_ne_true] at q⊢;exact z true _ H1 _ q s1 (.bl false)
theorem Uu{c:TT}(h:Tv G ρ c fun b=>if b=true then Ev G ρ ta Φ else Ev G ρ tb Φ):Ev G ρ (D8 c ta tb) Φ:=fun nb σ H Q W z=>
 h nb σ H _ W fun b H1 q s1=>by
  cases b with
  |true=>rw[if_pos rfl] at q⊢;exact q nb σ H1 _ (W.step s1) fun f v H' d p st=>z f v H' d p (s1.trans st)
  |false=>rw[if_neg Bool.false_ne_true] at q⊢;exact q nb σ H1 _ (W.step s1) fun f v H' d p st=>z f v H' d p (s1.trans st)
end Ev
namespace Tv
variable{Θ:Bool->Prop}{t u:TT}
theorem test(h:Ev G ρ te fun _ x=>∃b,x= .bool b/\Θ b):Tv G ρ (uT te) Θ:=fun nb σ H Q W z=>
 h nb σ H _ W fun f v H1 d ⟨b,e,q⟩ s1 hv=>by subst e;exact⟨b,by unfold af at hv;exact hv,z b H1 q s1⟩
theorem and(h:Tv G ρ t fun b=>if b=true then Tv G ρ u Θ else Θ false):Tv G ρ (u6 t u) Θ:=fun nb σ H Q W z=>
 h nb σ H _ W fun b H1 q s1=>by
  cases b with
  |true=>rw[if_pos rfl] at q⊢;exact q nb σ H1 _ (W.step s1) fun b H' p st=>z b H' p (s1.trans st)
  |false=>rw[if_neg Bool.false_ne_true] at q⊢;exact z false H1 q s1
theorem or(h:Tv G ρ t fun b=>if b=true then Θ true else Tv G ρ u Θ):Tv G ρ (Dj t u) Θ:=fun nb σ H Q W z=>
 h nb σ H _ W fun b H1 q s1=>by
  cases b with
  |false=>rw[if_neg Bool.false_ne_true] at q⊢;exact q nb σ H1 _ (W.step s1) fun b H' p st=>z b H' p (s1.trans st)
  |true=>rw[if_pos rfl] at q⊢;exact z true H1 q s1
theorem not(h:Tv G ρ t fun b=>Θ (!b)):Tv G ρ (Ce t) Θ:=fun nb σ H Q W z=>h nb σ H _ W fun b H1 q s1=>z _ H1 q s1
theorem ow(h:Θ true):Tv G ρ mQ Θ:=fun nb σ H Q W z=>z true H h (.refl W.au)
end Tv
def Dy(K:PySem.W.Frag)(ta:TE):TT:=fun σ H Q=>ta σ H fun x H1=>∃k,xM K x H1 k/\Q k H1
theorem Tv.Hz{Θ:Bool->Prop}(h:Ev G ρ te fun _ x=>∃b,x= .bool b/\Θ b):Tv G ρ (Dy K te) Θ:=fun nb σ H Q W z=>
 h nb σ H _ W fun f v H1 d ⟨b,e,q⟩ s1 hv=>by subst e;exact⟨b,by unfold af at hv;subst hv;rfl,z b H1 q s1⟩
namespace Av
variable{Θ:List Fd->Prop}
theorem nil(h:Θ []):Av G ρ bw Θ:=fun nb σ H Q W z=>z [] [] H h (.refl W.au) rfl
theorem cons(h:Ev G ρ te fun f d=>Av G ρ t fun es=>Θ ((f,d)::es)):Av G ρ (aQ te t) Θ:=fun nb σ H Q W z=>
 h nb σ H _ W fun f v H1 d p1 s1 q1=>p1 nb σ H1 _ (W.step s1) fun es vs H2 p2 s2 q2=>z _ _ H2 p2 (s1.trans s2) ⟨v,vs,rfl,q1.keep s2.cX,q2⟩
theorem GJ{is:List Int}(h:Θ (is.map fun i=>(true, .int i))):Av G ρ (qa is) Θ:=fun nb σ H Q W z=>z _ _ H h (.refl W.au) (by
 clear h
 induction is with
 |nil=>rfl
 |cons i r ih=>exact⟨_,_,rfl, .int i,ih⟩)
end Av
def fP(es:List Fd):Bool:=es.all (·.1)
theorem iD.all{nb:Addr->Prop}{H:Hp}:∀{es:List Fd} {vs:List V} {f:Bool},iD G nb H es vs->(f=true->fP es=true)->ah (G.S nb f) H (es.map (·.2)) vs
  |[],_,_,h,_=>by unfold iD at h;subst h;exact .nil
  | e :: es, _, f, h, hf => by
    obtain⟨v,ws,rfl,h1,h2⟩:=h
    refine .cons (h1.av (aS (fun z=>?_) fun _ z=>z)) (h2.all fun z=>?_)
    · have:=hf z;simp only[fP,List.all_cons,Bool.and_eq_true] at this;exact this.1
    · have:=hf z;simp only[fP,List.all_cons,Bool.and_eq_true] at this;exact this.2
theorem iD.len{nb:Addr->Prop}{H:Hp}{es:List Fd}{vs:List V}(h:iD G nb H es vs):vs.length=es.length:=by
 have:=(h.all (f:=false) (fun z=>by cases z)).length
 simpa using this
theorem ay.lst{Φ:Bool->List PyData->Prop}(h:Av G ρ t fun es=>es.length<=10000/\Φ (fP es) (es.map (·.2))):ay G ρ (jE t) Φ:=fun nb σ H Q W z=>
  h nb σ H _ W fun es vs H1 ⟨hl,p⟩ s1 q1=>⟨Nat.le_trans (by rw[q1.len];exact hl) (by decide),fun a ha=>by
    have W1:=W.step s1
    refine z _ a vs _ _ p (s1.trans (.same W1.au (cz ha))) ?_ aL (((q1.all fun z=>z).fresh ha).keep (aJ.of (cz ha)))
    cases e:H a with
    |none=>rfl
    | some o =>
      by_cases n:NB G.B a
      · rw[s1.1 a o n e] at ha;cases ha
      · exact absurd ha (NB.kO s1.2 n)⟩
theorem Ev.lst(h:Av G ρ t fun es=>es.length<=10000/\Φ (fP es) (.list (es.map (·.2)))):Ev G ρ (jE t) Φ:=(ay.lst (Φ:=fun f ds=>Φ f (.list ds)) h).ev
end
end L2
set_option maxRecDepth 100000
set_option maxHeartbeats 1000000
namespace L2
open PySem PySem.Spec PyProof.Rows
def fN(K:PySem.W.Frag):List V->Hp->VK->Prop:=fun xs H Q=>∃p ys,xs=[.ref p]/\(aM K H p ys\/dP K H p ys)/\Q (.int ys.length) H
theorem ie{X:Cx}:dG X (.builtin "len") (fN X.K):=CY
def Cv:List V->Hp->VK->Prop:=fun xs H Q=>∃i j,xs=[.int i, .int j]/\Q (.int (if j<i then j else i)) H
def C3:List V->Hp->VK->Prop:=fun xs H Q=>(∃i,xs=[.int i]/\Q (.int i) H)\/∃k,xs=[.bl k]/\Q (.int (if k then 1 else 0)) H
theorem E3{X:Cx}(hc:X.calm=true):dG X (.builtin "min") Cv:=Hr hc
theorem Fp{X:Cx}:dG X (.type "int") C3:=Mc
def eN{α:Type}(xs:List α)(lo hi:Option Int):List α:=(xs.drop (HT.cO xs.length 0 lo)).take (HT.cO xs.length xs.length hi-HT.cO xs.length 0 lo)
theorem ah.cut{nb:Addr->Prop}{H:Hp}{ds:List PyData}{xs:List V}{lo hi:Option Int}(h:ah nb H ds xs):ah nb H (eN ds lo hi) (i7 xs lo hi):=by
 unfold eN i7
 rw[h.length]
 exact(h.drop _).take _
def dW(ds:List PyData):Bool:=ds.all gx
section
variable{G:Gx}{ρ:Rh}{Φ Ψ:Pd}{ta tb te:TE}{t:TA}{i:Nat}{f g:Bool}{d e:PyData}{ds es:List PyData}{K:PySem.W.Frag}
theorem Wd.none_of{nb:Addr->Prop}{σ:St}{H H1:Hp}{a:Addr}(W:Wd G nb ρ σ H)(s1:Step G.B H H1)(ha:H1 a=none):H a=none:=by
  cases e:H a with
  |none=>rfl
  | some o =>
    by_cases n:NB G.B a
    · rw[s1.1 a o n e] at ha;cases ha
    · exact absurd ha (NB.kO s1.2 n)
theorem ay.fin{nb:Addr->Prop}{σ:St}{H H1:Hp}{Q:VK}{Φ:Bool->List PyData->Prop}{a:Addr}{xs:List V}(W:Wd G nb ρ σ H)(s1:Step G.B H H1)(ha:H1 a=none)(hd:ah (G.S nb f) H1 ds xs)(p:Φ (f||dW ds) ds)
  (z:∀f a xs H' ds,Φ f ds->Step G.B H H'->H a=none->H' a=some (.lst xs)->ah (fun x=>G.S nb f x\/x=a) H' ds xs->Q (.ref a) H'):Q (.ref a) (upd H1 a (.lst xs)):=by
 refine z _ a xs _ ds p (s1.trans (.same s1.2 (cz ha))) (W.none_of s1 ha) aL ?_
 cases hs:dW ds with
 |true=>exact ah.iK hs hd
 |false=>rw[Bool.or_false];exact(hd.fresh ha).keep (aJ.of (cz ha))
namespace Ov
variable{Θ:Option Int->Prop}
theorem none(h:Θ none):Ov G ρ xA Θ:=fun nb σ H Q W z=>z _ H h (.refl W.au)
theorem some(h:Ev G ρ te fun _ x=>∃k,x= .int k/\Θ (some k)):Ov G ρ (rR te) Θ:=fun nb σ H Q W z=>
 h nb σ H _ W fun f v H1 d ⟨k,e,q⟩ s1 hv=>by subst e;exact⟨k,hv.bG,z _ H1 q s1⟩
end Ov
namespace ay
variable{Θ:Bool->List PyData->Prop}
theorem sl{tl th:TO}(h:Ev G ρ te fun f x=>∃ds,x= .list ds/\Ov G ρ tl fun lo=>Ov G ρ th fun hi=>Θ (f||dW (eN ds lo hi)) (eN ds lo hi)):ay G ρ (nP (iZ K) te tl th) Θ:=fun nb σ H Q W z=>
 h nb σ H _ W fun f v H1 d ⟨ds,e,q⟩ s1 hv=>q nb σ H1 _ (W.step s1) fun lo H2 q2 s2=>q2 nb σ H2 _ ((W.step s1).step s2) fun hi H3 q3 s3=>by
  subst e
  obtain⟨a,xs,rfl,n,hx,hd⟩:=((hv.keep s2.cX).keep s3.cX).cU
  exact⟨a,xs,rfl, .of hx,fun p hp=>ay.fin W (s1.trans (s2.trans s3)) hp hd.cut q3 z⟩
theorem listOf(h:Ev G ρ te fun f x=>∃ds,(x= .list ds\/x= .tuple ds)/\Θ (f||dW ds) ds):ay G ρ (dQ (jK K) (aQ te bw)) Θ:=fun nb σ H Q W z=>
 h nb σ H _ W fun f v H1 d ⟨ds,e,q⟩ s1 hv=>by
  rcases e with e|e
  ·subst e
   obtain⟨a,xs,rfl,n,hx,hd⟩:=hv.cU
   exact⟨a,xs,rfl, .inl (.of hx),fun p hp=>ay.fin W s1 hp hd q z⟩
  ·subst e
   obtain⟨a,xs,rfl,n,hx,hd⟩:=hv.ofT
   exact⟨a,xs,rfl, .inr (.of hx),fun p hp=>ay.fin W s1 hp hd q z⟩
theorem cat(h:Ev G ρ ta fun f x=>∃ds,x= .list ds/\Ev G ρ tb fun g y=>∃es,y= .list es/\ds.length+es.length<=10000/\Θ ((f && g)||dW (ds++es)) (ds++es)):ay G ρ (cD t6 ta tb) Θ:=fun nb σ H Q W z=>
 h nb σ H _ W fun f v H1 d ⟨ds,e,q⟩ s1 hv=>q nb σ H1 _ (W.step s1) fun g u H2 d2 ⟨es,e2,hl,p⟩ s2 hu=>by
  subst e e2
  obtain⟨a,xs,rfl,n,hx,hd⟩:=(hv.keep s2.cX).cU
  obtain⟨c,ys,rfl,m,hy,hc⟩:=hu.cU
  refine⟨a,c,xs,ys,rfl,rfl,hx,hy,Nat.le_trans (by rw[hd.length,hc.length];exact hl) (by decide),fun p' hp=>ay.fin (f:=f && g) W (s1.trans s2) hp ?_ p z⟩
  exact ah.append (hd.av (aS (fun z=>(Bool.and_eq_true _ _▸z).1) fun _ z=>z)) (hc.av (aS (fun z=>(Bool.and_eq_true _ _▸z).2) fun _ z=>z))
end ay
namespace Ev
theorem sl{tl th:TO}(h:Ev G ρ te fun f x=>∃ds,x= .list ds/\Ov G ρ tl fun lo=>Ov G ρ th fun hi=>Φ (f||dW (eN ds lo hi)) (.list (eN ds lo hi))):Ev G ρ (nP (iZ K) te tl th) Φ:=(ay.sl (Θ:=fun f ds=>Φ f (.list ds)) h).ev
theorem listOf(h:Ev G ρ te fun f x=>∃ds,(x= .list ds\/x= .tuple ds)/\Φ (f||dW ds) (.list ds)):Ev G ρ (dQ (jK K) (aQ te bw)) Φ:=(ay.listOf (Θ:=fun f ds=>Φ f (.list ds)) h).ev
theorem cat(h:Ev G ρ ta fun f x=>∃ds,x= .list ds/\Ev G ρ tb fun g y=>∃es,y= .list es/\ds.length+es.length<=10000/\Φ ((f && g)||dW (ds++es)) (.list (ds++es))):Ev G ρ (cD t6 ta tb) Φ:=(ay.cat (Θ:=fun f ds=>Φ f (.list ds)) h).ev
theorem min2(h:Ev G ρ ta fun _ x=>∃i,x= .int i/\Ev G ρ tb fun _ y=>∃j,y= .int j/\Φ true (.int (if j<i then j else i))):Ev G ρ (dQ Cv (aQ ta (aQ tb bw))) Φ:=fun nb σ H Q W z=>
 h nb σ H _ W fun f v H1 d ⟨i,e,q⟩ s1 hv=>q nb σ H1 _ (W.step s1) fun g u H2 d2 ⟨j,e2,p⟩ s2 hu=>by
  subst e e2
  exact⟨i,j,by rw[hv.bG,hu.bG],z true _ H2 _ p (s1.trans s2) (.int _)⟩
theorem OI(h:Ev G ρ ta fun _ x=>∃b,x= .bool b/\Φ true (.int (if b then 1 else 0))):Ev G ρ (dQ C3 (aQ ta bw)) Φ:=fun nb σ H Q W z=>
 h nb σ H _ W fun f v H1 d ⟨b,e,q⟩ s1 hv=>by subst e;unfold af at hv;subst hv;exact .inr ⟨b,rfl,z true _ H1 _ q s1 (.int _)⟩
end Ev
abbrev DF:=List PyData->Pd->Prop
def bA(n:Nat)(F:DF):Sp:=fun vs H Q _=>vs.length=n/\∃(nb:Addr->Prop) (ds:List PyData),iG nb H/\ah nb H ds vs/\F ds fun f d=>∀v H',aO H H'->af (fun a=>nb a\/(f=true/\H a≠none)) H' d v->Q v H'
def fq(n:Nat)(F:DF):Sp:=fun vs H Q _=>vs.length=n/\∃(b l:Addr) (ws:List V) (nb:Addr->Prop) (ds:List PyData),vs= .ref b::ws/\bR H b l/\iG nb H/\nb b/\ah nb H ds ws/\
 F ds fun f d=>∀v H',aJ (Nb b) H H'->bR H' b l->af (fun a=>nb a\/(f=true/\H a≠none)) H' d v->Q v H'
def cS(F:DF):Prop:=∀ds (Φ Ψ:Pd),F ds Φ->(∀f d,Φ f d->Ψ f d)->F ds Ψ
theorem Ev.dD{n:Nat}{F:DF}(hm:cS F)(h:Av G ρ t fun es=>es.length=n/\F (es.map (·.2)) fun f d=>Φ (f||fP es) d):Ev G ρ (fu (bA n F) [] E0 t) Φ:=fun nb σ H Q W z=>
 h nb σ H _ W fun es vs H1 ⟨hl,p⟩ s1 q1=>by
  have W1:=W.step s1
  rw[List.append_nil]
  refine⟨by rw[q1.len,hl],G.S nb (fP es),es.map (·.2),W1.gu,q1.all fun z=>z,hm _ _ _ p fun f d hp v H' sm hd=>z _ v H' d hp (s1.trans (.same W1.au sm)) (hd.av fun a q=>?_)⟩
  cases f with
  |false=>rw[Bool.false_or] at q;exact .inl q
  |true=>exact .inr ⟨rfl,W1.gu a q⟩
theorem Step.qf{b l:Addr}{H H':Hp}(hB:G.B=some (b,l))(bt:aJ (Nb b) H H')(B':bR H' b l):Step G.B H H':=
 ⟨fun a o n e=>bt a o (n b l hB) e,fun b' l' e=>by rw[hB] at e;cases e;exact B'⟩
theorem Wd.qP{nb:Addr->Prop}{σ:St}{H:Hp}(W:Wd G nb ρ σ H)(e:ρ[i]?=some .au):∃b l,G.B=some (b,l)/\σ[i]?=some (some (.ref b))/\bR H b l:=by
 obtain⟨x,e1,b,l,hB,rfl⟩:=W.ok i _ e
 exact⟨b,l,hB,e1,W.au b l hB⟩
theorem Ev.jY{n:Nat}{F:DF}(hm:cS F)(e:ρ[i]?=some .au)(h:Av G ρ t fun es=>es.length+1=n/\F (es.map (·.2)) fun f d=>Φ (f||fP es) d):Ev G ρ (fu (fq n F) [] E0 (aQ (cQ i) t)) Φ:=fun nb σ H Q W z=>by
 obtain⟨b,l,hB,e1,B⟩:=W.qP e
 refine⟨.ref b,e1,h nb σ H _ W fun es vs H1 ⟨hl,p⟩ s1 q1=>?_⟩
 have W1:=W.step s1
 show fq n F ((V.ref b::vs)++[]) H1 Q E0
 rw[List.append_nil]
 have hb:∀f,G.S nb f b:=fun f=> .inr (.inr (.inl fun n=>n b l hB rfl))
 refine⟨by rw[List.length_cons,q1.len,hl],b,l,vs,G.S nb (fP es),es.map (·.2),rfl,W1.au b l hB,W1.gu,hb _,q1.all fun z=>z,hm _ _ _ p fun f d hp v H' bt B' hd=>z _ v H' d hp (s1.trans (.qf hB bt B')) (hd.av fun a q=>?_)⟩
 cases f with
 |false=>rw[Bool.false_or] at q;exact .inl q
 |true=>exact .inr ⟨rfl,W1.gu a q⟩
theorem Ev.draw(e:ρ[i]?=some .au)(h:Ev G ρ te fun _ x=>∃m:Int,x= .int m/\0<m/\Sm m/\∀r:Int,0<=r->r<m->Φ true (.int r)):Ev G ρ (fu iQ [] E0 (aQ (cQ i) (aQ te bw))) Φ:=fun nb σ H Q W z=>by
 obtain⟨b,l,hB,e1,B⟩:=W.qP e
 refine⟨.ref b,e1,h nb σ H _ W fun f v H1 d ⟨m,ed,h1,h2,p⟩ s1 hv=>?_⟩
 subst ed
 exact⟨b,l,m,by rw[hv.bG];rfl,s1.2 b l hB,h1,h2,fun r H' r1 r2 bt B'=>z true _ H' _ (p r r1 r2) (s1.trans (.qf hB bt B')) (.int r)⟩
theorem Ev.prime(e:ρ[i]?=some .au)(h:∀p:Int,AO p->Φ true (.int p)):Ev G ρ (fu RC [] E0 (aQ (cQ i) bw)) Φ:=fun nb σ H Q W z=>by
 obtain⟨b,l,hB,e1,B⟩:=W.qP e
 exact⟨.ref b,e1,b,l,rfl,B,fun p H' hp bt B'=>z true _ H' _ (h p hp) (.qf hB bt B') (.int p)⟩
theorem Ev.total(h:Av G ρ t fun es=>∃(p:Int) (prs:List (Int×Int)) (wd:List (Option Int)),es.map (·.2)=[.int p, .list (prs.map pairD), .list (wd.map eZ)]/\0<p/\(∀pr∈prs,0<=pr.1/\pr.1<wd.length/\Sm pr.2)/\(∀x,some x∈wd->Sm x)/\Φ true (.int (aZ prs wd%p))):
  Ev G ρ (fu ym [] E0 t) Φ:=fun nb σ H Q W z=>
 h nb σ H _ W fun es vs H1 ⟨p,prs,wd,e,h1,h2,h3,q⟩ s1 q1=>by
  have hd:=q1.all (f:=false) (fun z=>by cases z)
  rw[e] at hd
  unfold ah at hd
  obtain⟨y,ys,rfl,d1,hd⟩:=hd
  unfold ah at hd
  obtain⟨y2,ys,rfl,d2,hd⟩:=hd
  unfold ah at hd
  obtain⟨y3,ys,rfl,d3,hd⟩:=hd
  unfold ah at hd
  subst hd
  exact⟨G.S nb false,p,y2,y3,prs,wd,by rw[d1.bG];rfl,d2,d3,h1,h2,h3,z true _ H1 _ q s1 (.int _)⟩
theorem Ev.whole(h:Ev G ρ te fun _ x=>∃n,x= .int n/\Φ true (.bool true)):Ev G ρ (fu EL [] E0 (aQ te bw)) Φ:=fun nb σ H Q W z=>
 h nb σ H _ W fun f v H1 d ⟨n,e,q⟩ s1 hv=>by subst e;exact⟨n,by rw[hv.bG];rfl,z true _ H1 _ q s1 (.bl _)⟩
namespace Gv
variable{Θ:Rh->Prop}
theorem name(h:Θ (ρ.set i (.d f d))):Gv G ρ (e7 i) f d Θ:=fun nb σ H v Q W hv z=>z _ _ h (W.jN hv)
theorem NV(h:Θ (ρ.set i (.d true d))):Gv G ρ (e7 i) true d Θ:=name h
theorem zC(h:Θ (ρ.set i (.d false d))):Gv G ρ (e7 i) f d Θ:=fun nb σ H v Q W hv z=>z _ _ h (W.jN (hv.av (aS (fun z=>by cases z) fun _ z=>z)))
theorem Bc(hs:gx d=true)(h:Θ (ρ.set i (.d true d))):Gv G ρ (e7 i) f d Θ:=fun nb σ H v Q W hv z=>z _ _ h (W.jN (hv.iK hs))
theorem jg{n:Int}(h:Θ (ρ.set i (.d true (.int n)))):Gv G ρ (e7 i) f (.int n) Θ:=Bc rfl h
theorem FO{n:Bool}(h:Θ (ρ.set i (.d true (.bool n)))):Gv G ρ (e7 i) f (.bool n) Θ:=Bc rfl h
theorem tup{n:Nat}{u:fU}(hl:ds.length=n)(h:jO G ρ u f ds Θ):Gv G ρ (qX K n u) f (.tuple ds) Θ:=fun nb σ H v Q W hv z=>by
 obtain⟨a,xs,rfl,m,hx,hd⟩:=hv.ofT
 exact⟨a,xs,rfl, .of hx,by rw[hd.length];exact hl,h nb σ H xs Q W hd z⟩
theorem Rp(h:Θ ρ):jO G ρ tS f [] Θ:=fun nb σ H vs Q W hv z=>by unfold ah at hv;exact⟨hv,z _ _ h W⟩
theorem JK{u:TG}{us:fU}(h:Gv G ρ u f d fun eF=>jO G eF us f ds Θ):jO G ρ (uc u us) f (d::ds) Θ:=fun nb σ H vs Q W hv z=>by
 unfold ah at hv
 obtain⟨y,ys,rfl,h1,h2⟩:=hv
 exact⟨y,ys,rfl,h nb σ H y _ W h1 fun σ' ρ' q W'=>q nb σ' H ys Q W' h2 z⟩
end Gv
namespace Sv
variable{E:DE}{s u:TS}
theorem seq(h:Sv G ρ s {E with nx:=fun eF=>Sv G eF u E}):Sv G ρ (nV s u) E:=fun nb σ H D W K=>h nb σ H _ W ⟨fun br ρ' σ' H' q W'=>q br σ' H' D W' K,K.bk,K.ct,K.rt,K.rw⟩
theorem next(h:E.nx ρ):Sv G ρ xV E:=fun nb σ H D W K=>K.nx nb ρ σ H h W
theorem cont(h:E.ct ρ):Sv G ρ HH E:=fun nb σ H D W K=>K.ct nb ρ σ H h W
theorem asg{g:TG}(h:Ev G ρ te fun f d=>Gv G ρ g f d E.nx):Sv G ρ (fh te g) E:=fun nb σ H D W K=>h nb σ H _ W fun f v H1 d q s1 hv=>q nb σ H1 v _ (W.step s1) hv fun σ' ρ' p W'=>K.nx nb ρ' σ' H1 p W'
theorem EO(h:Ev G ρ te fun _ d=>E.nx (ρ.set i (.d false d))):Sv G ρ (BH i te) E:=fun nb σ H D W K=>h nb σ H _ W fun f v H1 d q s1 hv=>K.nx nb _ _ H1 q ((W.step s1).jN (hv.av (aS (fun z=>by cases z) fun _ z=>z)))
theorem ret(h:Ev G ρ te E.rt):Sv G ρ (o4 te) E:=fun nb σ H D W K=>h nb σ H _ W fun f v H1 d q s1 hv=>K.rt nb ρ σ f v H1 d q (W.step s1) (hv.av (aS (fun z=>z) fun _ z=>z.elim))
theorem yC{a:Addr}(e:ρ[i]?=some (.own a f ds))(h:E.rt f (.list ds)):Sv G ρ (o4 (cQ i)) E:=fun nb σ H D W K=>by
 obtain⟨x,e1,h1,h2,h3,xs,hx,hd⟩:=W.ok i _ e
 subst h1
 refine⟨.ref a,e1,K.rt nb ρ σ f _ H _ h W (.lst (fun z=>?_) hx (hd.av (aS (fun z=>z) fun _ z=>z.elim)))⟩
 rcases z with z|z|z|z
 ·exact z
 ·exact W.gA a z (W.bB a h2 h3)
 ·exact z h3
 ·exact z.2 (W.bB a h2 h3)
theorem ia{c:TT}(h:Tv G ρ c fun b=>if b=true then Sv G ρ s E else Sv G ρ u E):Sv G ρ (sr c s u) E:=fun nb σ H D W K=>h nb σ H _ W fun b H1 q s1=>by
 cases b with
 |true=>rw[if_pos rfl] at q⊢;exact q nb σ H1 D (W.step s1) K
 |false=>rw[if_neg Bool.false_ne_true] at q⊢;exact q nb σ H1 D (W.step s1) K
theorem B4{nb:Addr->Prop}{σ:St}{H H1:Hp}{a:Addr}{xs:List V}(W:Wd G nb ρ σ H)(s1:Step G.B H H1)(ha:H a=none)(e:H1 a=some (.lst xs))(hd:ah (fun x=>G.S nb f x\/x=a) H1 ds xs):
    Wd G (fun x=>nb x\/x=a) (ρ.set i (.own a f ds)) (σ.set i (some (.ref a))) H1:=by
  have hN:NB G.B a:=fun b l e z=>by
    subst z
    obtain⟨_,_,_,_,_,h1,_⟩:=W.au _ _ e
    rw[h1] at ha;cases ha
  have hA:∀f x,G.S (fun x=>nb x\/x=a) f x->(G.S nb f x\/x=a):=fun f x z=>by
    rcases z with (z|z)|z|z|z
    · exact .inl (.inl z)
    · exact .inr z
    · exact .inl (.inr (.inl z))
    · exact .inl (.inr (.inr (.inl z)))
    · exact .inl (.inr (.inr (.inr z)))
  have W1:=W.step s1
  have W2:Wd G (fun x=>nb x\/x=a) ρ σ H1:=by
    refine⟨W1.au,fun x n=>?_,W1.old,fun x n q=>?_,W.gA,W.len,W.gB,fun h m=>(((W.cM h m).fresh ha).keep (s1.but fun x z=> .inl (.inr (.inr (.inl z))))).av (hA h.1),fun j s e'=>?_,W.apart,W.cP,W.bF⟩
    · rcases n with n|n
      · exact W1.live x n
      · subst n;rw[e];exact Option.some_ne_none _
    · rcases n with n|n
      · exact W.bB x n q
      · subst n
        cases z:G.H0 x with
        |none=>rfl
        |some o=>rw[W.old x o q z] at ha;cases ha
    · obtain⟨x,e1,h⟩:=W.ok j s e'
      refine⟨x,e1,?_⟩
      cases s with
      |no=>trivial
      |d f d=>obtain⟨v,e,h⟩:=h;exact⟨v,e,((h.fresh ha).keep (s1.but fun x z=> .inl (.inr (.inr (.inl z))))).av (hA f)⟩
      |own c f es=>obtain⟨e,n,q,xs,hx,hd⟩:=h;exact⟨e, .inl n,q,xs,s1.1 _ _ q hx,((hd.fresh ha).keep (s1.but fun x z=> .inl (.inr (.inr (.inl z))))).av (hA f)⟩
      |au=>exact h
      |raw v=>exact h
      |aR c f es=>obtain⟨e,n,q,xs,hx,hd⟩:=h;exact⟨e, .inl n,q,xs,s1.1 _ _ q hx,((hd.fresh ha).keep (s1.but fun x z=> .inl (.inr (.inr (.inl z))))).av (hA f)⟩
      | cu c =>
        obtain⟨e,n,q⟩:=h
        refine⟨e,fun a ha=>⟨.inl (n a ha).1,(n a ha).2⟩,c.av (hA c.f) (c.keep (.of fun x o hx e=>s1.1 x o ?_ e) (c.fresh ha q))⟩
        rcases hx with hx|hx
        · exact Classical.byContradiction fun z=>hx (.inl (.inr (.inr (.inl z))))
        · exact(n x hx).2
  refine W2.set ⟨rfl, .inr rfl,hN,xs,e,hd.av (hA f)⟩ ?_ (fun _ _ _ z=>by cases z) (fun x hx j t hj ht hc=>?_)
  rotate_left
  · have hx:x=a:=List.mem_singleton.mp hx
    subst hx
    rcases hc with ⟨c,z⟩|⟨c,rfl⟩
    · cases z
    · exact fun z=>W.live x ((W.ok j _ ht).choose_spec.2.2.1 x z).1 ha
  rintro a' f' ds' ⟨rfl,rfl,rfl⟩ j c g cs hj hc z
  subst z
  obtain⟨x,e1,h1,h2,h3,ys,hy,_⟩:=W.ok j _ hc
  rw[hy] at ha;cases ha
theorem qk(h:ay G ρ te fun f ds=>∀a,E.nx (ρ.set i (.own a f ds))):Sv G ρ (fh te (e7 i)) E:=fun nb σ H D W K=>h nb σ H _ W fun f a xs H1 ds q s1 ha e hd=>K.nx _ _ _ H1 (q a) (B4 W s1 ha e hd)
theorem zR{nb:Addr->Prop}{σ:St}{H:Hp}{a:Addr}{xs:List V}(W:Wd G nb ρ σ H)(e:ρ[i]?=some (.own a f ds))(hd:ah (G.S nb g) H es xs):Wd G nb (ρ.set i (.own a g es)) σ (upd H a (.lst xs)):=by
  obtain⟨x,e1,h1,h2,h3,ys,hy,_⟩:=W.ok i _ e
  subst h1
  have hil:i<ρ.length:=(List.getElem?_eq_some_iff.mp e).1
  have W0:Wd G nb (ρ.set i .no) (σ.set i (some (.ref a))) H:=W.set trivial fun _ _ _ z=>by cases z
  have W1:Wd G nb (ρ.set i .no) (σ.set i (some (.ref a))) (upd H a (.lst xs)):=W0.write h2 h3 (fun j c f' cs hc=>by
    by_cases hij:i=j
    · subst hij;rw[List.getElem?_set_self hil] at hc;cases hc
    · rw[List.getElem?_set_ne hij] at hc
      exact(W.apart i j _ _ _ _ _ _ hij e hc).symm
   ) (fun j c f' cs hc z => by
      subst z
      have hij:i≠j:=fun z=>by subst z;rw[List.getElem?_set_self hil] at hc;cases hc
      rw[List.getElem?_set_ne hij] at hc
      obtain⟨_,_,_,_,_,ps,hp,_⟩:=W.ok j _ hc
      rw[hy] at hp;cases hp) (fun j c hc z=>by
      have hij:i≠j:=fun z=>by subst z;rw[List.getElem?_set_self hil] at hc;cases hc
      rw[List.getElem?_set_ne hij] at hc
      exact W.bF j i c _ (Ne.symm hij) hc e a z (List.mem_singleton.mpr rfl))
  have W2:=W1.set (i:=i) (s:= .own a g es) (x:=some (.ref a)) ⟨rfl,h2,h3,xs,aL,hd.keep (aJ.set (.inl h2))⟩ (by
    rintro a' f' ds' ⟨rfl,rfl,rfl⟩ j c g' cs hj hc
    rw[List.getElem?_set_ne (Ne.symm hj)] at hc
    exact W.apart i j _ _ _ _ _ _ (Ne.symm hj) e hc) (fun _ _ _ z=>by cases z) (fun x hx j t hj ht hc z=>by
    rw[List.getElem?_set_ne (Ne.symm hj)] at ht
    have hx:x=a:=List.mem_singleton.mp hx
    subst hx
    rcases hc with ⟨c,q⟩|⟨c,rfl⟩
    · cases q
    · exact W.bF j i c _ hj ht e x z (List.mem_singleton.mpr rfl))
  rw[List.set_set,List.set_set] at W2
  have:σ.set i (some (.ref a))=σ:=by
    apply List.ext_getElem?
    intro j
    by_cases hij:i=j
    · subst hij;rw[List.getElem?_set_self (by rw[W.len];exact hil),e1]
    · rw[List.getElem?_set_ne hij]
  rwa[this] at W2
theorem append{a:Addr}(e:ρ[i]?=some (.own a f ds))(h:Ev G ρ te fun g d=>ds.length<10000/\E.nx (ρ.set i (.own a (f && g) (ds++[d])))):Sv G ρ (mJ (jW K "list" mF (cQ i) (aQ te bw))) E:=fun nb σ H D W KK=>by
 obtain⟨x,e1,h1,h2,h3,xs,hx,hd⟩:=W.ok i _ e
 subst h1
 refine⟨.ref a,e1, .inl ⟨rfl,_,aM.of hx⟩,h nb σ H _ W fun g v H1 d ⟨hl,q⟩ s1 hv=>?_⟩
 have W1:=W.step s1
 have Ht:=s1.1 _ _ h3 hx
 refine⟨a,xs,v,rfl,rfl,Ht,Nat.lt_of_lt_of_le (by rw[hd.length];exact hl) (by decide),KK.nx nb _ _ _ q (zR W1 e ?_)⟩
 exact ah.snoc (hv.av (aS (fun z=>(Bool.and_eq_true _ _▸z).2) fun _ z=>z)) ((hd.keep s1.cX).av (aS (fun z=>(Bool.and_eq_true _ _▸z).1) fun _ z=>z))
theorem ah.set'{nb:Addr->Prop}{H:Hp}{x:V}(hd:af nb H d x):∀{ds:List PyData} {xs:List V} (j:Nat),ah nb H ds xs->ah nb H (ds.set j d) (xs.set j x)
 |[],_,j,h=>by unfold ah at h;subst h;exact .nil
 |e::ds,_,0,h=>by unfold ah at h;obtain⟨y,ys,rfl,h1,h2⟩:=h;exact .cons hd h2
 |e::ds,_,j+1,h=>by unfold ah at h;obtain⟨y,ys,rfl,h1,h2⟩:=h;exact .cons h1 (ah.set' hd j h2)
theorem Ep{a:Addr}(e:ρ[i]?=some (.own a f ds))(h:Ev G ρ te fun g d=>Ev G ρ tb fun _ y=>∃k j,y= .int k/\eV ds.length k=some j/\E.nx (ρ.set i (.own a (f && g) (ds.set j d)))):Sv G ρ (fh te (mW (cQ i) tb rC)) E:=fun nb σ H D W KK=>
 h nb σ H _ W fun g v H1 d q s1 hv=>by
  obtain⟨x,e1,h1,h2,h3,xs,hx,hd⟩:=(W.step s1).ok i _ e
  subst h1
  refine⟨.ref a,e1,q nb σ H1 _ (W.step s1) fun g' u H2 y ⟨k,j,ey,hj,p⟩ s2 hu=>?_⟩
  subst ey
  have W2:=(W.step s1).step s2
  refine⟨a,xs,k,j,rfl,hu.bG,s2.1 _ _ h3 hx,by rw[hd.length];exact hj,KK.nx nb _ _ _ p (zR W2 e ?_)⟩
  exact ah.set' ((hv.keep s2.cX).av (aS (fun z=>(Bool.and_eq_true _ _▸z).2) fun _ z=>z)) j ((hd.keep s2.cX).av (aS (fun z=>(Bool.and_eq_true _ _▸z).1) fun _ z=>z))
theorem share{nb:Addr->Prop}{σ:St}{H:Hp}{a:Addr}(W:Wd G nb ρ σ H)(e:ρ[i]?=some (.own a f ds)):Wd G (fun x=>nb x/\x≠a) (ρ.set i (.d f (.list ds))) σ H:=by
  obtain⟨x,e1,h1,h2,h3,xs,hx,hd⟩:=W.ok i _ e
  subst h1
  have hil:i<ρ.length:=(List.getElem?_eq_some_iff.mp e).1
  have W0:Wd G nb (ρ.set i .no) (σ.set i (some (.ref a))) H:=W.set trivial fun _ _ _ z=>by cases z
  have W1:Wd G (fun x=>nb x/\x≠a) (ρ.set i .no) (σ.set i (some (.ref a))) H:=by
    refine⟨W0.au,fun x n=>W0.live x n.1,W0.old,fun x n=>W0.bB x n.1,W0.gA,W0.len,W0.gB,fun h m=>(W0.cM h m).av (aS (fun z=>z) fun _ z=>z.1),fun j s e'=>?_,W0.apart,W0.cP,W0.bF⟩
    obtain⟨x,gh,h⟩:=W0.ok j s e'
    refine⟨x,gh,?_⟩
    have hij:s≠ .no->i≠j:=fun n z=>by subst z;rw[List.getElem?_set_self hil] at e';cases e';exact n rfl
    cases s with
    |no=>trivial
    |d f d=>obtain⟨v,e,h⟩:=h;exact⟨v,e,h.av (aS (fun z=>z) fun _ z=>z.1)⟩
    | own c f es =>
      obtain⟨e2,n,q,xs,hx,hd⟩:=h
      have hij:=hij (by intro z;cases z)
      rw[List.getElem?_set_ne hij] at e'
      exact⟨e2,⟨n,(W.apart i j _ _ _ _ _ _ hij e e').symm⟩,q,xs,hx,hd.av (aS (fun z=>z) fun _ z=>z.1)⟩
    |au=>exact h
    |raw v=>exact h
    | aR c f es =>
      obtain⟨e2,n,q,ps,hp,hd⟩:=h
      have hca:c≠a:=fun z=>by subst z;rw[hx] at hp;cases hp
      exact⟨e2,⟨n,hca⟩,q,ps,hp,hd.av (aS (fun z=>z) fun _ z=>z.1)⟩
    | cu c =>
      obtain⟨e2,n,q⟩:=h
      have hij:=hij (by intro z;cases z)
      rw[List.getElem?_set_ne hij] at e'
      exact⟨e2,fun x hx=>⟨⟨(n x hx).1,fun z=>W.bF j i c _ (Ne.symm hij) e' e x hx (by rw[z];exact List.mem_singleton.mpr rfl)⟩,(n x hx).2⟩,c.av (aS (fun z=>z) fun _ z=>z.1) q⟩
  have W2:=W1.jN (i:=i) (f:=f) (d:= .list ds) (v:= .ref a) (.lst (fun z=>by
    rcases z with z|z|z|z
    · exact z.2 rfl
    · exact W.gA a z (W.bB a h2 h3)
    · exact z h3
    · exact z.2 (W.bB a h2 h3)) hx (hd.av (aS (fun z=>z) fun _ z=>z.1)))
  rw[List.set_set,List.set_set] at W2
  have:σ.set i (some (.ref a))=σ:=by
    apply List.ext_getElem?
    intro j
    by_cases hij:i=j
    · subst hij;rw[List.getElem?_set_self (by rw[W.len];exact hil),e1]
    · rw[List.getElem?_set_ne hij]
  rwa[this] at W2
theorem kP{a:Addr}(i:Nat)(e:ρ[i]?=some (.own a f ds))(h:Sv G (ρ.set i (.d f (.list ds))) s E):Sv G ρ s E:=fun nb σ H D W K=>h _ σ H D (share W e) K
theorem wk{ρ':Rh}(w:Wk ρ' ρ)(h:Sv G ρ' s E):Sv G ρ s E:=fun nb σ H D W K=>h nb σ H D (W.wk w) K
end Sv
end
end L2
set_option maxRecDepth 100000
set_option maxHeartbeats 1000000
namespace L2
open PySem PySem.Spec PyProof.Rows
abbrev Gx.hd(G:Gx)(f:Bool)(d:PyData)(v:V):Gx:={G with hold:=(f, .d d,v)::G.hold}
section
variable{G:Gx}{ρ ck:Rh}{Φ Ψ:Pd}{ta tb te:TE}{t:TA}{i:Nat}{f g:Bool}{d e:PyData}{ds es:List PyData}{K:PySem.W.Frag}
theorem Wd.hd{nb:Addr->Prop}{σ:St}{H:Hp}{v:V}(W:Wd G nb ρ σ H)(h:af (G.S nb f) H d v):Wd (G.hd f d v) nb ρ σ H:=
 ⟨W.au,W.live,W.old,W.bB,W.gA,W.len,W.gB,fun x m=>by
  rcases List.mem_cons.mp m with e|m
  ·subst e;exact h
  ·exact W.cM x m,fun i s e=>by
   obtain⟨x,e1,h⟩:=W.ok i s e
   refine⟨x,e1,?_⟩
   cases s<;>exact h,W.apart,W.cP,W.bF⟩
theorem Wd.fF{nb:Addr->Prop}{σ:St}{H:Hp}{v:V}(W:Wd (G.hd f d v) nb ρ σ H):Wd G nb ρ σ H/\af (G.S nb f) H d v:=
 ⟨⟨W.au,W.live,W.old,W.bB,W.gA,W.len,W.gB,fun x m=>W.cM x (List.mem_cons_of_mem _ m),fun i s e=>by
   obtain⟨x,e1,h⟩:=W.ok i s e
   refine⟨x,e1,?_⟩
   cases s<;>exact h,W.apart,W.cP,W.bF⟩,W.cM _ (List.mem_cons_self ..)⟩
namespace Sv
variable{E:DE}{s:TS}{gt:TG}
def lP(G:Gx)(ρ:Rh)(n:Nat)(it:Nat->PyData->Prop)(fi:Bool)(gt:TG)(s:TS)(E:DE):Prop:=
 ∃I:Nat->Rh->Prop,I 0 ρ/\(∀i d ρ',it i d->I i ρ'->Gv G ρ' gt fi d fun dZ=>Sv G dZ s {nx:=I (i+1),rt:=E.rt,bk:=E.nx,ct:=I (i+1),rw:=E.rw})/\∀ρ',I n ρ'->E.nx ρ'
theorem JJ{lo:Int}{n:Nat}{nb:Addr->Prop}{σ:St}{H:Hp}{D:Ends}(W:Wd G nb ρ σ H)(KK:qp G E D)(h:lP G ρ n (fun i d=>i<n/\d= .int (lo+i)) true gt s E):
  ∃W:Nat->Nat->St->Hp->Prop,(∃m,W 0 m σ H)/\∀i m σ H,W i m σ H->
   ((gc lo n).stop i H/\D.nx σ H)\/((gc lo n).go i H/\∃N:St->Hp->Prop,(∀σ' H',N σ' H'->∃m',m'<m/\W (i+1) m' σ' H')/\∀x H',(gc lo n).jC i H x H'->gt x σ H' fun σ2 H2=>s {D with nx:=N,ct:=N,bk:=D.nx} σ2 H2):=by
 obtain⟨I,h0,ht,he⟩:=h
 refine xq (fun i σ H=>∃nb ρ',I i ρ'/\Wd G nb ρ' σ H) ⟨nb,ρ,h0,W⟩ ?_ ?_
 ·rintro i σ H hi ⟨nb,ρ',hI,W⟩
  refine ht i _ ρ' ⟨hi,rfl⟩ hI nb σ H _ _ W (.int _) fun σ2 dZ q W2=>q nb σ2 H _ W2 ?_
  exact⟨fun nb ρ σ H q W=>⟨nb,ρ,q,W⟩,KK.nx,fun nb ρ σ H q W=>⟨nb,ρ,q,W⟩,KK.rt,KK.rw⟩
 ·rintro σ H ⟨nb,ρ',hI,W⟩
  exact KK.nx nb ρ' σ H (he ρ' hI) W
theorem oS(h:Ev G ρ te fun _ x=>∃n:Int,x= .int n/\ -(2^62)<=n/\n<2^62/\lP G ρ n.toNat (fun i d=>i<n.toNat/\d= .int (0+i)) true gt s E):Sv G ρ (mR (qH (aQ te bw)) gt s) E:=fun nb σ H D W KK=>
 h nb σ H _ W fun f v H1 x ⟨n,ex,h1,h2,q⟩ s1 hv=>by
  subst ex
  rw[hv.bG]
  exact⟨n,rfl,h1,h2,JJ (W.step s1) KK q⟩
theorem forL(h:Ev G ρ te fun f x=>∃ds,x= .list ds/\∀v,lP (G.hd f (.list ds) v) ρ ds.length (fun i d=>ds[i]?=some d) f gt s E):Sv G ρ (mR (nJ K te) gt s) E:=fun nb σ H D W KK=>
 h nb σ H _ W fun f v H1 x ⟨ds,ex,q⟩ s1 hv=>by
  subst ex
  obtain⟨I,h0,ht,he⟩:=q v
  have W1:=(W.step s1).hd hv
  obtain⟨a,xs,rfl,n,hx,hd⟩:=hv.cU
  have key:∀{nb ρ' σ H},Wd (G.hd f (.list ds) (.ref a)) nb ρ' σ H->∃xs,H a=some (.lst xs)/\ah (G.S nb f) H ds xs:=fun W=>by
   obtain⟨a',xs',e',_,h',d'⟩:=W.fF.2.cU
   cases e'
   exact⟨xs',h',d'⟩
  refine⟨a,rfl,⟨xs, .of hx⟩,?_⟩
  refine⟨fun i m σ H=>m=ds.length-i/\i<=ds.length/\∃nb ρ',I i ρ'/\Wd (G.hd f (.list ds) (.ref a)) nb ρ' σ H,⟨ds.length,by simp,Nat.zero_le _,nb,ρ,h0,W1⟩,?_⟩
  rintro i m σ H ⟨rfl,hi,nb,ρ',hI,W⟩
  obtain⟨ys,hy,hD⟩:=key W
  have hl:=hD.length
  by_cases hlt:i<ds.length
  ·refine .inr ⟨⟨ys,ys[i]'(by omega), .of hy,List.getElem?_eq_getElem _⟩,fun σ H=>∃nb ρ',I (i+1) ρ'/\Wd (G.hd f (.list ds) (.ref a)) nb ρ' σ H,fun σ' H' q=>⟨ds.length-(i+1),by omega,rfl,hlt,q⟩,fun x H' y=>?_⟩
   obtain⟨e,y⟩:=y
   subst e
   have hx:=y ys (.of hy)
   obtain⟨x',hx',dx⟩:=hD.get (List.getElem?_eq_getElem hlt)
   rw[hx] at hx';cases hx'
   refine ht i _ ρ' (List.getElem?_eq_getElem hlt) hI nb σ _ _ _ W dx fun σ2 dZ q W2=>q nb σ2 _ _ W2 ?_
   exact⟨fun nb ρ σ H q W=>⟨nb,ρ,q,W⟩,fun nb ρ σ H q W=>KK.nx nb ρ σ H q W.fF.1,fun nb ρ σ H q W=>⟨nb,ρ,q,W⟩,fun nb ρ σ f v H d q W hv=>KK.rt nb ρ σ f v H d q W.fF.1 hv,fun nb ρ σ v H q W=>KK.rw nb ρ σ v H q W.fF.1⟩
  ·have e:i=ds.length:=by omega
   subst e
   exact .inl ⟨⟨ys, .of hy,by omega⟩,KK.nx nb ρ' σ H (he ρ' hI) W.fF.1⟩
theorem Ah{c:TT}(I:Rh->Prop)(μ:Rh->Nat)(h0:I ρ)(h:∀ρ',I ρ'->Tv G ρ' c fun b=>if b=true then Sv G ρ' s {nx:=fun dZ=>I dZ/\μ dZ<μ ρ',rt:=E.rt,bk:=E.nx,ct:=fun dZ=>I dZ/\μ dZ<μ ρ',rw:=E.rw} else E.nx ρ'):Sv G ρ (wC c s) E:=fun nb σ H D W KK=>by
  refine⟨fun m σ H=>∃nb ρ',I ρ'/\Wd G nb ρ' σ H/\m=μ ρ',⟨_,nb,ρ,h0,W,rfl⟩,?_⟩
  rintro m σ H ⟨nb,ρ',hI,W,rfl⟩
  refine h ρ' hI nb σ H _ W fun b H1 q s1=>?_
  cases b with
  | true =>
    rw[if_pos rfl] at q⊢
    refine⟨fun σ' H'=>∃nb dZ,(I dZ/\μ dZ<μ ρ')/\Wd G nb dZ σ' H',fun σ' H' ⟨nb,dZ,⟨q1,q2⟩,W2⟩=>⟨μ dZ,q2,nb,dZ,q1,W2,rfl⟩,q nb σ H1 _ (W.step s1) ?_⟩
    exact⟨fun nb ρ σ H q W=>⟨nb,ρ,q,W⟩,KK.nx,fun nb ρ σ H q W=>⟨nb,ρ,q,W⟩,KK.rt,KK.rw⟩
  |false=>rw[if_neg Bool.false_ne_true] at q⊢;exact KK.nx nb ρ' σ H1 q (W.step s1)
end Sv
def jq(mp:List (Option Nat))(ρ:Rh):Rh:=mp.map fun o=>match o with|none=> .no|some j=>match ρ[j]? with|some s=>s|none=> .no
theorem yP{mp:List (Option Nat)}(h:(mp.filterMap id).Nodup):∀{i j k:Nat},mp[i]?=some (some k)->mp[j]?=some (some k)->i=j:=by
  induction mp with
  |nil=>intro i j k e;simp at e
  | cons o r ih =>
    intro i j k e1 e2
    have hr:(r.filterMap id).Nodup:=by
      cases o with
      |none=>simpa using h
      |some x=>rw[List.filterMap_cons_some (by rfl)] at h;exact(List.nodup_cons.mp h).2
    have hn:∀{m:Nat},r[m]?=some (some k)->o≠some k:=fun{m} hm e=>by
      subst e
      rw[List.filterMap_cons_some (by rfl)] at h
      exact(List.nodup_cons.mp h).1 (List.mem_filterMap.mpr ⟨some k,List.mem_of_getElem? hm,rfl⟩)
    cases i with
    | zero =>
      cases j with
      |zero=>rfl
      |succ j=>simp at e1 e2;exact absurd e1 (hn e2)
    | succ i =>
      cases j with
      |zero=>simp at e1 e2;exact absurd e2 (hn e1)
      |succ j=>simp at e1 e2;rw[ih hr e1 e2]
theorem Wd.fG{nb:Addr->Prop}{σ:St}{H:Hp}{mp:List (Option Nat)}(W:Wd G nb ρ σ H)(hm:(mp.filterMap id).Nodup):Wd G nb (jq mp ρ) (fG mp σ) H:=by
  have hat:∀{i:Nat} {s:Sl},(jq mp ρ)[i]?=some s->s= .no\/∃k,mp[i]?=some (some k)/\ρ[k]?=some s:=fun{i s} e=>by
    unfold jq at e
    rw[List.getElem?_map] at e
    obtain⟨o,ho,e⟩:=Option.map_eq_some_iff.mp e
    cases o with
    |none=>exact .inl e.symm
    | some k =>
      cases hk:ρ[k]? with
      |none=>simp only[hk] at e;exact .inl e.symm
      |some s'=>simp only[hk] at e;subst e;exact .inr ⟨k,ho,hk⟩
  refine⟨W.au,W.live,W.old,W.bB,W.gA,by unfold L2.fG jq;rw[List.length_map,List.length_map],W.gB,W.cM,fun i s e=>?_,fun i j a f as c g cs hij e1 e2=>?_,fun i j a f as c g cs hij e1 e2=>?_,fun i j c t hij e1 e2 a ha=>?_⟩
  · have hi:i<mp.length:=by have:=(List.getElem?_eq_some_iff.mp e).1;unfold jq at this;rwa[List.length_map] at this
    rcases hat e with rfl|⟨k,hk,hs⟩
    · exact⟨_,by unfold L2.fG;rw[List.getElem?_map,List.getElem?_eq_getElem hi];rfl,trivial⟩
    · obtain⟨x,e1,h⟩:=W.ok k s hs
      refine⟨x,?_,h⟩
      unfold L2.fG
      rw[List.getElem?_map,hk]
      simp only[Option.map_some,e1]
  · rcases hat e1 with z|⟨k,hk,hs⟩
    · cases z
    rcases hat e2 with z|⟨k',hk',hs'⟩
    · cases z
    exact W.apart k k' a f as c g cs (fun z=>by subst z;exact hij (yP hm hk hk')) hs hs'
  · rcases hat e1 with z|⟨k,hk,hs⟩
    · cases z
    rcases hat e2 with z|⟨k',hk',hs'⟩
    · cases z
    exact W.cP k k' a f as c g cs (fun z=>by subst z;exact hij (yP hm hk hk')) hs hs'
  · rcases hat e1 with z|⟨k,hk,hs⟩
    · cases z
    rcases hat e2 with z|⟨k',hk',hs'⟩
    · subst z;exact fun z=>by cases z
    exact W.bF k k' c t (fun z=>by subst z;exact hij (yP hm hk hk')) hs hs' a ha
def BZ(ρ:Rh)(acc:Addr):Prop:=(∀(j:Nat) a f ds,ρ[j]?=some (.own a f ds)->a≠acc)/\∀(j:Nat) c,ρ[j]?=some (.cu c)->acc∉c.F
def fW(G:Gx)(ck:Rh)(n:Nat)(it:Nat->PyData->Prop)(fi:Bool)(gt:TG)(tc:TT)(te:TE)(Θ:Bool->List PyData->Prop):Prop:=
 ∃(fl:Bool) (I:Nat->List PyData->Prop),I 0 []/\(∀i d ds,it i d->ds.length<=i->I i ds->Gv G ck gt fi d fun eF=>Wk ck eF/\Tv G eF tc fun b=>if b=true then Ev G eF te fun f e=>(fl=true->f=true)/\I (i+1) (ds++[e]) else I (i+1) ds)/\
  ∀ds,ds.length<=n->I n ds->Θ (fl||dW ds) ds
theorem Ai{gt:TG}{tc:TT}{nb:Addr->Prop}{acc:Addr}{σ:St}{H H1:Hp}{x:V}{fi fl:Bool}{I:Nat->List PyData->Prop}{xs:List V}{N:St->Hp->Prop}{ds:List PyData}{n:Nat}(hn:n<=10000)(hi:i<n)
    (W:Wd G nb ck σ H) (ha:nb acc) (hN:NB G.B acc) (hno:BZ ck acc) (st:Step G.B H1 H) (hacc:H1 acc=none) (hx:H acc=some (.lst xs)) (hd:ah (G.S nb fl) H ds xs) (hl:ds.length<=i) (hxd:af (G.S nb fi) H d x)
    (h:Gv G ck gt fi d fun eF=>Wk ck eF/\Tv G eF tc fun b=>if b=true then Ev G eF te fun f e=>(fl=true->f=true)/\I (i+1) (ds++[e]) else I (i+1) ds)
    (z:∀σ' H' ds' xs',Wd G nb ck σ' H'->Step G.B H1 H'->H' acc=some (.lst xs')->ah (G.S nb fl) H' ds' xs'->ds'.length<=i+1->I (i+1) ds'->N σ' H'):
    gt x σ H fun σ2 H2=>tc σ2 H2 fun b H3=>if b=true then te σ2 H3 fun v H4=>∃ys,H4 acc=some (.lst ys)/\ys.length<sizeLine/\N σ2 (upd H4 acc (.lst (ys++[v]))) else N σ2 H3:=by
  refine h nb σ H x _ W hxd fun σ2 eF ⟨wk,q⟩ W2=>q nb σ2 H _ W2 fun b H3 q3 s3=>?_
  have B8:=s3.1 _ _ hN hx
  have Ds:=hd.keep (s3.cX (nb:=nb) (f:=fl))
  cases b with
  | false =>
    rw[if_neg Bool.false_ne_true] at q3⊢
    exact z σ2 H3 ds xs ((W2.step s3).wk wk) (st.trans s3) B8 Ds (by omega) q3
  | true =>
    rw[if_pos rfl] at q3⊢
    refine q3 nb σ2 H3 _ (W2.step s3) fun f v H4 e ⟨hf,hI⟩ s4 hv=>?_
    have CC:=s4.1 _ _ hN B8
    have Nj:=Ds.keep (s4.cX (nb:=nb) (f:=fl))
    have hlen:=hd.length
    refine⟨xs,CC,Nat.lt_of_lt_of_le (show xs.length<10001 by omega) (by decide),?_⟩
    have W4:Wd G nb ck σ2 H4:=((W2.step s3).step s4).wk wk
    have bt:aJ (G.S nb fl) H4 (upd H4 acc (.lst (xs++[v]))):=aJ.set (.inl ha)
    have W5:Wd G nb ck σ2 (upd H4 acc (.lst (xs++[v]))):=W4.write ha hN hno.1 (fun j a f ds e z=>by
      subst z
      obtain⟨_,_,_,_,_,ps,hp,_⟩:=W4.ok j _ e
      rw[CC] at hp;cases hp) hno.2
    refine z σ2 _ (ds++[e]) (xs++[v]) W5 ⟨fun a o n q=>?_,W5.au⟩ aL (ah.snoc ((hv.av (aS hf fun _ z=>z)).keep bt) (Nj.keep bt)) (by rw[List.length_append,List.length_singleton];omega) hI
    have hne:a≠acc:=fun z=>by subst z;rw[hacc] at q;cases q
    rw[aq hne]
    exact(st.trans (s3.trans s4)).1 a o n q
theorem zO{nb:Addr->Prop}{σ:St}{H:Hp}{a:Addr}(W:Wd G nb ρ σ H)(ha:H a=none):BZ ρ a:=by
 refine⟨fun j c f ds e z=>?_,fun j c e z=>?_⟩
 ·subst z
  obtain⟨x,e1,h1,h2,h3,ys,hy,_⟩:=W.ok j _ e
  rw[hy] at ha;cases ha
 ·obtain⟨x,e1,h1,h2,h3⟩:=W.ok j _ e
  exact W.live a (h2 a z).1 ha
theorem Ir{nb:Addr->Prop}{a:Addr}{f:Bool}:∀x,(G.S nb f x\/x=a)->G.S (fun x=>nb x\/x=a) f x:=fun x z=>by
 rcases z with (z|z|z|z)|z
 ·exact .inl (.inl z)
 ·exact .inr (.inl z)
 ·exact .inr (.inr (.inl z))
 ·exact .inr (.inr (.inr z))
 ·exact .inl (.inr z)
theorem yZ{nb:Addr->Prop}{acc:Addr}{H H1 H':Hp}{σ:St}{Q:VK}{Θ:Bool->List PyData->Prop}{xs:List V}{ds:List PyData}{fl:Bool}(W:Wd G nb ρ σ H)(s1:Step G.B H H1)(hacc:H1 acc=none)(s2:Step G.B H1 H')(hx:H' acc=some (.lst xs))(hd:ah (G.S (fun x=>nb x\/x=acc) fl) H' ds xs)(p:Θ (fl||dW ds) ds)
  (z:∀f a xs H' ds,Θ f ds->Step G.B H H'->H a=none->H' a=some (.lst xs)->ah (fun x=>G.S nb f x\/x=a) H' ds xs->Q (.ref a) H'):Q (.ref acc) H':=by
 refine z _ acc xs H' ds p (s1.trans s2) (W.none_of s1 hacc) hx ?_
 cases hs:dW ds with
 |true=>exact ah.iK hs hd
 |false=>rw[Bool.or_false];exact hd.av Ir
theorem NB.new{B:Bg}{H:Hp}{a:Addr}(h:gP B H)(ha:H a=none):NB B a:=Classical.byContradiction fun z=>NB.kO h z ha
namespace ay
variable{Θ:Bool->List PyData->Prop}{gt:TG}{tc:TT}{mp:List (Option Nat)}
theorem HG{lo:Int}{n:Nat}{nb:Addr->Prop}{σ:St}{H H1:Hp}{Q:VK}(W:Wd G nb ρ σ H)(s1:Step G.B H H1)(hm:(mp.filterMap id).Nodup)(dM:jq mp ρ=ck)(hn:n<=10000)(h:fW G ck n (fun i d=>i<n/\d= .int (lo+i)) true gt tc te Θ)
  (z:∀f a xs H' ds,Θ f ds->Step G.B H H'->H a=none->H' a=some (.lst xs)->ah (fun x=>G.S nb f x\/x=a) H' ds xs->Q (.ref a) H') (acc:Addr) (hacc:H1 acc=none):nL (gc lo n) gt tc te acc (fun H'=>Q (.ref acc) H') (fG mp σ) (upd H1 acc (.lst [])):=by
 obtain⟨fl,I,h0,ht,he⟩:=h
 have W0:Wd G nb ck (L2.fG mp σ) H1:=by rw[<-dM];exact(W.step s1).fG hm
 have W1:=W0.more hacc (o:= .lst [])
 have hN:=NB.new s1.2 hacc
 have hno:=zO W0 hacc
 have wQ:Step G.B H1 (upd H1 acc (.lst [])):= .same s1.2 (cz hacc)
 refine R.yY (fun i σ H=>∃ds xs,Wd G (fun x=>nb x\/x=acc) ck σ H/\Step G.B H1 H/\H acc=some (.lst xs)/\ah (G.S (fun x=>nb x\/x=acc) fl) H ds xs/\ds.length<=i/\I i ds) ⟨[],[],W1,wQ,aL, .nil,Nat.le_refl _,h0⟩ ?_ ?_
 ·rintro i σ H hi ⟨ds,xs,W,st,hx,hd,hl,hI⟩
  exact Ai hn hi W (.inr rfl) hN hno st hacc hx hd hl (.int _) (ht i _ ds ⟨hi,rfl⟩ hl hI) fun σ' H' ds' xs' W' st' hx' hd' hl' hI'=>⟨ds',xs',W',st',hx',hd',hl',hI'⟩
 ·rintro σ H' ⟨ds,xs,W',st,hx,hd,hl,hI⟩
  exact yZ W s1 hacc st hx hd (he ds hl hI) z
theorem jU{t0:TE}(hm:(mp.filterMap id).Nodup)(dM:jq mp ρ=ck)(h:Ev G ρ t0 fun _ x=>∃n:Int,x= .int n/\ -10000<=n/\n<=10000/\fW G ck n.toNat (fun i d=>i<n.toNat/\d= .int (0+i)) true gt tc te Θ):ay G ρ (lq (qH (aQ t0 bw)) gt tc te mp) Θ:=fun nb σ H Q W z=>
 h nb σ H _ W fun f v H1 x ⟨n,ex,h1,h2,q⟩ s1 hv=>by
  subst ex
  rw[hv.bG]
  exact⟨n,rfl,by omega,by omega,HG W s1 hm dM (by omega) q z⟩
theorem iA{t0:TE}(hm:(mp.filterMap id).Nodup)(dM:jq mp ρ=ck)(h:Ev G ρ t0 fun fi x=>∃es,x= .list es/\es.length<=10000/\∀v,fW (G.hd fi (.list es) v) ck es.length (fun i d=>es[i]?=some d) fi gt tc te Θ):ay G ρ (lq (nJ K t0) gt tc te mp) Θ:=fun nb σ H Q W z=>
 h nb σ H _ W fun fi v H1 x ⟨es,ex,hn,q⟩ s1 hv=>by
  subst ex
  obtain⟨fl,I,h0,ht,he⟩:=q v
  have W0:=(W.step s1).hd hv
  obtain⟨a,xs,rfl,n,hx,hd⟩:=hv.cU
  refine⟨a,rfl,⟨xs, .of hx⟩,fun acc hacc=>?_⟩
  have Dr:Wd (G.hd fi (.list es) (.ref a)) nb ck (L2.fG mp σ) H1:=by rw[<-dM];exact W0.fG hm
  have W1:=Dr.more hacc (o:= .lst [])
  have hN:=NB.new s1.2 hacc
  have hno:=zO Dr hacc
  have wQ:Step G.B H1 (upd H1 acc (.lst [])):= .same s1.2 (cz hacc)
  have zh:NB G.B a:=Classical.byContradiction fun z=>n (.inr (.inr (.inl z)))
  refine R.r6 (xs:=xs) (fun i σ H=>∃ds ys,Wd (G.hd fi (.list es) (.ref a)) (fun x=>nb x\/x=acc) ck σ H/\Step G.B H1 H/\H acc=some (.lst ys)/\ah (G.S (fun x=>nb x\/x=acc) fl) H ds ys/\ds.length<=i/\I i ds) ⟨[],[],W1,wQ,aL, .nil,Nat.le_refl _,h0⟩ ?_ ?_ ?_
  ·rintro i σ H hi ⟨ds,ys,W,st,_⟩
   exact .of (st.1 _ _ zh hx)
  ·rintro i x σ H hi ⟨ds,ys,W,st,hy,hd',hl,hI⟩
   obtain⟨a',xs',e',_,h',d'⟩:=W.fF.2.cU
   cases e'
   rw[st.1 _ _ zh hx] at h';cases h'
   have hil:i<es.length:=by have:=(List.getElem?_eq_some_iff.mp hi).1;have:=d'.length;omega
   obtain⟨x',hx',dx⟩:=d'.get (List.getElem?_eq_getElem hil)
   rw[hi] at hx';cases hx'
   exact Ai (G:=G.hd fi (.list es) (.ref a)) hn hil W (.inr rfl) hN hno st hacc hy hd' hl dx (ht i _ ds (List.getElem?_eq_getElem hil) hl hI) fun σ' H' ds' xs' W' st' hx' hd' hl' hI'=>⟨ds',xs',W',st',hx',hd',hl',hI'⟩
  ·rintro σ H' ⟨ds,ys,W',st,hy,hd',hl,hI⟩
   rw[hd.length] at hl hI
   exact yZ W s1 hacc st hy hd' (he ds hl hI) z
end ay
end
end L2
set_option maxRecDepth 100000
set_option maxHeartbeats 1000000
namespace L2
open PySem PySem.Spec PyProof.Rows
section
variable{ρ:Rh}{t:TS}{N:List Str}{vs:List V}{ds:List PyData}{nb:Addr->Prop}{H:Hp}{Q:VK}{Φ:Pd}{b l:Addr}
theorem jt{xs:List V}(h:ah nb H ds xs){i:Nat}{s:Sl}(e:(ds.map (Sl.d false))[i]?=some s):∃v d,xs[i]?=some v/\s= .d false d/\af nb H d v:=by
 rw[List.getElem?_map] at e
 obtain⟨d,hd,e⟩:=Option.map_eq_some_iff.mp e
 obtain⟨v,hv,q⟩:=h.get hd
 exact⟨v,d,hv,e.symm,q⟩
theorem Sv.fE(hl:iG nb H)(hd:ah nb H ds vs)(aH:∀f d v H',Φ f d->aO H H'->af (fun a=>nb a\/(f=true/\H a≠none)) H' d v->Q v H')
  (dM:ρ=ds.map (Sl.d false)++List.replicate (N.length-ds.length) .no) (h:Sv ⟨none,H,nb,[]⟩ ρ t {nx:=fun _=>Φ true .none,rt:=Φ}):t {nx:=fun _ H'=>Q .aE H',rt:=Q} (start N vs) H:=by
 have hlen:=hd.length
 have sm:∀{br ρ' σ' H'},Wd ⟨none,H,nb,[]⟩ br ρ' σ' H'->aO H H':=fun W a o e=>W.old a o (fun _ _ z=>(by cases z)) e
 refine h (fun _=>False) _ H _ ⟨fun _ _ z=>(by cases z),fun _ z=>z.elim,fun _ _ _ e=>e,fun _ z=>z.elim,hl,?_,fun _ _ z=>(by cases z),fun _ m=>(by cases m),fun i s e=>?_,?_,?_,?_⟩ ⟨fun br ρ' σ' H' q W=>aH _ _ _ _ q (sm W) .aE,fun _ _ _ _ q _=>q.elim,fun _ _ _ _ q _=>q.elim,fun br ρ' σ' f v H' d q W hv=>aH f d v H' q (sm W) (hv.av fun a z=>?_),fun _ _ _ _ _ q _=>q.elim⟩
 ·rw[dM];unfold start;simp[hlen]
 ·rw[dM] at e
  unfold start
  by_cases hi:i<ds.length
  ·rw[List.getElem?_append_left (by rw[List.length_map];exact hi)] at e
   obtain⟨v,d,hv,rfl,q⟩:=jt hd e
   refine⟨some v,?_,v,rfl,q.av fun a z=>?_⟩
   ·rw[List.getElem?_append_left (by rw[List.length_map,hlen];exact hi),List.getElem?_map,hv];rfl
   ·rcases z with z|z|z|z
    ·exact z.elim
    ·exact z
    ·exact absurd (fun _ _ z=>(by cases z)) z
    ·cases z.1
  ·rw[List.getElem?_append_right (by rw[List.length_map];omega),List.getElem?_replicate] at e
   split at e
   ·rename_i h'
    cases e
    refine⟨none,?_,trivial⟩
    rw[List.length_map] at h'
    rw[List.getElem?_append_right (by rw[List.length_map];omega),List.getElem?_replicate,if_pos (by rw[List.length_map,hlen];exact h')]
   ·cases e
 ·intro i j a f as c g cs hij e1
  rw[dM] at e1
  by_cases hi:i<ds.length
  ·rw[List.getElem?_append_left (by rw[List.length_map];exact hi)] at e1
   obtain⟨_,_,_,z,_⟩:=jt hd e1
   cases z
  ·rw[List.getElem?_append_right (by rw[List.length_map];omega),List.getElem?_replicate] at e1
   split at e1<;>cases e1
 ·intro i j a f as c g cs hij e1
  rw[dM] at e1
  by_cases hi:i<ds.length
  ·rw[List.getElem?_append_left (by rw[List.length_map];exact hi)] at e1
   obtain⟨_,_,_,z,_⟩:=jt hd e1
   cases z
  ·rw[List.getElem?_append_right (by rw[List.length_map];omega),List.getElem?_replicate] at e1
   split at e1<;>cases e1
 ·intro i j c t hij e1
  rw[dM] at e1
  by_cases hi:i<ds.length
  ·rw[List.getElem?_append_left (by rw[List.length_map];exact hi)] at e1
   obtain⟨_,_,_,z,_⟩:=jt hd e1
   cases z
  ·rw[List.getElem?_append_right (by rw[List.length_map];omega),List.getElem?_replicate] at e1
   split at e1<;>cases e1
 ·rcases z with z|z
  ·exact .inr (.inl z)
  ·exact .inr (.inr (.inr z))
theorem Sv.mj(hB:bR H b l)(hl:iG nb H)(hb:nb b)(hd:ah nb H ds vs)(aH:∀f d v H',Φ f d->aJ (Nb b) H H'->bR H' b l->af (fun a=>nb a\/(f=true/\H a≠none)) H' d v->Q v H')
    (dM:ρ= .au::ds.map (Sl.d false)++List.replicate (N.length-(ds.length+1)) .no) (h:Sv ⟨some (b,l),H,nb,[]⟩ ρ t {nx:=fun _=>Φ true .none,rt:=Φ}):t {nx:=fun _ H'=>Q .aE H',rt:=Q} (start N (.ref b::vs)) H:=by
  have hlen:=hd.length
  have p8:∀a,a≠b->NB (some (b,l)) a:=fun a n b' l' e=>by cases e;exact n
  have S8:∀a,¬NB (some (b,l)) a->a=b:=fun a n=>Classical.byContradiction fun z=>n (p8 a z)
  have bt:∀{br ρ' σ' H'},Wd ⟨some (b,l),H,nb,[]⟩ br ρ' σ' H'->aJ (Nb b) H H':=fun W a o n e=>W.old a o (p8 a n) e
  have bg:∀{br ρ' σ' H'},Wd ⟨some (b,l),H,nb,[]⟩ br ρ' σ' H'->bR H' b l:=fun W=>W.au b l rfl
  refine h (fun _=>False) _ H _ ⟨fun b' l' e=>(by cases e;exact hB),fun _ z=>z.elim,fun _ _ _ e=>e,fun _ z=>z.elim,hl,?_,fun b' l' e=>(by cases e;exact hB),fun _ m=>(by cases m),fun i s e=>?_,?_,?_,?_⟩ ⟨fun br ρ' σ' H' q W=>aH _ _ _ _ q (bt W) (bg W) .aE,fun _ _ _ _ q _=>q.elim,fun _ _ _ _ q _=>q.elim,fun br ρ' σ' f v H' d q W hv=>aH f d v H' q (bt W) (bg W) (hv.av fun a z=>?_),fun _ _ _ _ _ q _=>q.elim⟩
  · rw[dM];unfold start;simp[hlen]
  · rw[dM] at e
    unfold start
    cases i with
    |zero=>simp at e;subst e;exact⟨some (.ref b),by simp,b,l,rfl,rfl⟩
    | succ i =>
      simp only[List.cons_append,List.getElem?_cons_succ,List.map_cons,List.length_cons] at e⊢
      by_cases hi:i<ds.length
      · rw[List.getElem?_append_left (by rw[List.length_map];exact hi)] at e
        obtain⟨v,d,hv,rfl,q⟩:=jt hd e
        refine⟨some v,?_,v,rfl,q.av fun a z=>?_⟩
        · rw[List.getElem?_append_left (by rw[List.length_map,hlen];exact hi),List.getElem?_map,hv];rfl
        · rcases z with z|z|z|z
          · exact z.elim
          · exact z
          · rw[S8 a z];exact hb
          · cases z.1
      · rw[List.getElem?_append_right (by rw[List.length_map];omega),List.getElem?_replicate] at e
        split at e
        · rename_i h'
          cases e
          refine⟨none,?_,trivial⟩
          rw[List.length_map] at h'
          rw[List.getElem?_append_right (by rw[List.length_map];omega),List.getElem?_replicate,if_pos (by rw[List.length_map,hlen];exact h')]
        · cases e
  · intro i j a f as c g cs hij e1
    rw[dM] at e1
    cases i with
    |zero=>simp at e1
    | succ i =>
      simp only[List.cons_append,List.getElem?_cons_succ] at e1
      by_cases hi:i<ds.length
      · rw[List.getElem?_append_left (by rw[List.length_map];exact hi)] at e1
        obtain⟨_,_,_,z,_⟩:=jt hd e1
        cases z
      · rw[List.getElem?_append_right (by rw[List.length_map];omega),List.getElem?_replicate] at e1
        split at e1<;>cases e1
  · intro i j a f as c g cs hij e1
    rw[dM] at e1
    cases i with
    |zero=>simp at e1
    | succ i =>
      simp only[List.cons_append,List.getElem?_cons_succ] at e1
      by_cases hi:i<ds.length
      · rw[List.getElem?_append_left (by rw[List.length_map];exact hi)] at e1
        obtain⟨_,_,_,z,_⟩:=jt hd e1
        cases z
      · rw[List.getElem?_append_right (by rw[List.length_map];omega),List.getElem?_replicate] at e1
        split at e1<;>cases e1
  · intro i j c t hij e1
    rw[dM] at e1
    cases i with
    |zero=>simp at e1
    | succ i =>
      simp only[List.cons_append,List.getElem?_cons_succ] at e1
      by_cases hi:i<ds.length
      · rw[List.getElem?_append_left (by rw[List.length_map];exact hi)] at e1
        obtain⟨_,_,_,z,_⟩:=jt hd e1
        cases z
      · rw[List.getElem?_append_right (by rw[List.length_map];omega),List.getElem?_replicate] at e1
        split at e1<;>cases e1
  · rcases z with z|z
    · exact .inr (.inl z)
    · exact .inr (.inr (.inr z))
def tR(b l:Addr)(H:Hp):Gx:=⟨some (b,l),H,fun _=>False,[]⟩
theorem RE{a:Addr}{m:Nat}(hB:bR H b l):Wd (tR b l H) (fun _=>False) (.raw (.ref a):: .au::List.replicate m .no) (some (.ref a)::some (.ref b)::List.replicate m none) H:=by
  refine⟨fun b' l' e=>(by cases e;exact hB),fun _ z=>z.elim,fun _ _ _ e=>e,fun _ z=>z.elim,fun _ z=>z.elim,by simp,fun b' l' e=>(by cases e;exact hB),fun _ m=>(by cases m),fun i s e=>?_,?_,?_,?_⟩
  · match i with
    |0=>simp at e;subst e;exact⟨_,rfl,rfl⟩
    |1=>simp at e;subst e;exact⟨some (.ref b),rfl,b,l,rfl,rfl⟩
    | i + 2 =>
      simp only[List.getElem?_cons_succ,List.getElem?_replicate] at e⊢
      split at e
      · rename_i h;cases e;exact⟨none,if_pos h,trivial⟩
      · cases e
  · intro i j a f as c g cs hij e1
    match i with
    |0=>simp at e1
    |1=>simp at e1
    | i + 2 =>
      simp only[List.getElem?_cons_succ,List.getElem?_replicate] at e1
      split at e1<;>cases e1
  · intro i j a f as c g cs hij e1
    match i with
    |0=>simp at e1
    |1=>simp at e1
    | i + 2 =>
      simp only[List.getElem?_cons_succ,List.getElem?_replicate] at e1
      split at e1<;>cases e1
  · intro i j c t hij e1
    match i with
    |0=>simp at e1
    |1=>simp at e1
    | i + 2 =>
      simp only[List.getElem?_cons_succ,List.getElem?_replicate] at e1
      split at e1<;>cases e1
theorem Ev.UO{G:Gx}{i:Nat}{a:Addr}{ns:List Int}{K:PySem.W.Frag}(e:ρ[i]?=some (.raw (.ref a)))(hS:aM K G.H0 a (ns.map V.int))(h:Φ true (.int ns.length)):Ev G ρ (dQ (fN K) (aQ (cQ i) bw)) Φ:=fun nb σ H Q W z=>by
 obtain⟨x,e1,h1⟩:=W.ok i _ e
 have h1:x=some (.ref a):=h1
 subst h1
 have hS':aM K H a (ns.map V.int):=by
  rcases hS with hr|hk
  ·have hn:NB G.B a:=fun b l hb z=>by
    subst z
    obtain⟨_,_,_,_,_,g1,_⟩:=W.gB _ _ hb
    rcases hr with hr|⟨o,hr⟩
    ·rw[g1] at hr
     have:=HO.lst.inj (Option.some.inj hr)
     cases ns with
     |nil=>cases this
     |cons n r=>rw[List.map_cons] at this;cases (List.cons.inj this).1
    ·rw[g1] at hr;cases hr
   rcases hr with hr|⟨o,hr⟩
   ·exact .inl (.inl (W.old _ _ hn hr))
   ·exact .inl (.inr ⟨o,W.old _ _ hn hr⟩)
  ·exact .inr hk
 refine⟨.ref a,e1,a,_,rfl, .inl hS',?_⟩
 rw[List.length_map]
 exact z true _ H _ h (.refl W.au) (.int _)
theorem Rg{D:Ends}(h2:∀H,D.rt (.bl true) H):qp (tR b l H) {nx:=fun _=>False,rt:=fun _ d=>d= .bool true} D:=
 ⟨fun _ _ _ _ q _=>q.elim,fun _ _ _ _ q _=>q.elim,fun _ _ _ _ q _=>q.elim,fun _ _ _ f v H d q _ hv=>by subst q;unfold af at hv;subst hv;exact h2 H,fun _ _ _ _ _ q _=>q.elim⟩
end
namespace R
theorem di{P:Int->Prop}{i:Int}(h:P i):∃j,PyData.int i= .int j/\P j:=⟨i,rfl,h⟩
theorem db{P:Bool->Prop}{i:Bool}(h:P i):∃j,PyData.bool i= .bool j/\P j:=⟨i,rfl,h⟩
theorem dl{P:List PyData->Prop}{i:List PyData}(h:P i):∃j,PyData.list i= .list j/\P j:=⟨i,rfl,h⟩
theorem dt{P:List PyData->Prop}{i:List PyData}(h:P i):∃j,PyData.tuple i= .tuple j/\P j:=⟨i,rfl,h⟩
theorem QK{P:List PyData->Prop}{i:List PyData}(h:P i):∃j,(PyData.list i= .list j\/PyData.list i= .tuple j)/\P j:=⟨i, .inl rfl,h⟩
theorem NG{P:List PyData->Prop}{i:List PyData}(h:P i):∃j,(PyData.tuple i= .list j\/PyData.tuple i= .tuple j)/\P j:=⟨i, .inr rfl,h⟩
theorem P5{P:Bool->Prop}{i j:Int}(h:P (decide (i=j))):∃b,fj (.int i) (.int j) b/\P b:=⟨_, .ii i j,h⟩
theorem GX{P:Bool->Prop}{x y:Bool}(h:P (x==y)):∃b,fj (.bool x) (.bool y) b/\P b:=⟨_, .bb x y,h⟩
theorem at_{ds:List PyData}{k:Int}{e:PyData}{P:PyData->Prop}(h:bh ds k=some e)(q:P e):∃e,bh ds k=some e/\P e:=⟨e,h,q⟩
theorem Ra{A:Prop}(q:A):([]:List Fd).length<=10000/\A:=⟨by decide,q⟩
theorem Ub{C A:Prop}(c:C)(q:A):C/\A:=⟨c,q⟩
end R
end L2
set_option maxRecDepth 100000
set_option maxHeartbeats 1000000
namespace L2
open PySem PySem.Spec PyProof.Rows
abbrev aA:=List (Int×Int)
abbrev Wo:=List (Option Int)
abbrev dS(prs:aA):PyData:= .list (prs.map pairD)
abbrev ji(wd:Wo):PyData:= .list (wd.map eZ)
abbrev bK(p n:Int)(cs:List aA):PyData:= .tuple [.int p, .int n, .list (cs.map dS)]
def pG(prs:aA)(wd:Wo):Prop:=∃pr∈prs,wd[pr.1.toNat]?=some none
instance{prs:aA}{wd:Wo}:Decidable (pG prs wd):=by unfold pG;infer_instance
def kc(p:Int)(prs:aA)(wd:Wo):Option Int:=if pG prs wd then none else some (aZ prs wd%p)
def lJ(prs:aA)(m:Nat):Prop:=∀pr∈prs,0<=pr.1/\pr.1<m/\Sm pr.2
def kJ(wd:Wo):Prop:=∀x,some x∈wd->Sm x
theorem yX{α β:Type}{xs:List α}(φ:α->β){k:Int}{m:Nat}(h0:0<=k)(h1:k<m)(hm:m=xs.length):∃x,xs[k.toNat]?=some x/\bh (xs.map φ) k=some (φ x):=by
 have hk:k.toNat<xs.length:=by omega
 exact⟨xs[k.toNat],List.getElem?_eq_getElem hk,iz h0 (by rw[List.getElem?_map,List.getElem?_eq_getElem hk];rfl)⟩
theorem dU{α β:Type}{xs:List α}{φ:α->β}{i:Nat}{d:β}(h:(xs.map φ)[i]?=some d):∃x,xs[i]?=some x/\d=φ x:=by
 rw[List.getElem?_map] at h
 obtain⟨x,hx,e⟩:=Option.map_eq_some_iff.mp h
 exact⟨x,hx,e.symm⟩
theorem take_snoc{α:Type}{xs:List α}{i:Nat}{x:α}(h:xs[i]?=some x):xs.take (i+1)=xs.take i++[x]:=by
 rw[List.take_add_one,h];rfl
theorem Dk(o:Option Int):n6 (eZ o)=o.isNone:=by cases o<;>rfl
end L2
set_option maxRecDepth 100000
set_option maxHeartbeats 4000000
namespace L2
open PySem PySem.Spec PyProof.Rows
structure Eu(p b L lt r t:Int):Prop where
 l0:0<L
 r0:0<=r
 lp:L<=p
 rp:r<=p
 lc:∃k,L=lt*b+p*k
 rc:∃k,r=t*b+p*k
 dv:∀d,d∣L->d∣r->d∣p/\d∣b%p
 sz:(t.natAbs:Int)*L+(lt.natAbs:Int)*r<=p
theorem Eu.start{p b:Int}(hp:2<=p):Eu p b p 0 (b%p) 1:=by
 have m1:=Int.emod_nonneg b (show p≠0 by omega)
 have m2:=Int.emod_lt_of_pos b (show 0<p by omega)
 refine⟨by omega,m1,Int.le_refl _,by omega,⟨1,by rw[Int.zero_mul,Int.zero_add,Int.mul_one]⟩,⟨-(b/p),?_⟩,fun d h1 h2=>⟨h1,h2⟩,?_⟩
 ·have:=Int.mul_ediv_add_emod b p
  rw[Int.one_mul,Int.mul_neg]
  omega
 ·show(1:Int)*p+0*(b%p)<=p
  rw[Int.one_mul,Int.zero_mul]
  omega
theorem Eu.tb{p b L lt r t:Int}(h:Eu p b L lt r t): -p<=t/\t<=p:=by
 have h1:(t.natAbs:Int)*1<=(t.natAbs:Int)*L:=Int.mul_le_mul_of_nonneg_left (by have:=h.l0;omega) (by omega)
 have h2:0<=(lt.natAbs:Int)*r:=Int.mul_nonneg (by omega) h.r0
 have:=h.sz
 omega
theorem Eu.next{p b L lt r t:Int}(h:Eu p b L lt r t)(hr:0<r):Eu p b r t (L-L/r*r) (lt-L/r*t)/\L-L/r*r<r:=by
 have e:=Int.mul_ediv_add_emod L r
 have m1:=Int.emod_nonneg L (show r≠0 by omega)
 have m2:=Int.emod_lt_of_pos L hr
 have e':L-L/r*r=L%r:=by rw[Int.mul_comm (L/r) r];omega
 have q0:0<=L/r:=Int.ediv_nonneg (by have:=h.l0;omega) (by omega)
 obtain⟨k1,c1⟩:=h.lc
 obtain⟨k2,c2⟩:=h.rc
 refine⟨⟨hr,by omega,h.rp,by have:=h.rp;omega,h.rc,⟨k1-L/r*k2,?_⟩,fun d d1 d2=>?_,?_⟩,by omega⟩
 ·rw[Int.sub_mul,Int.mul_sub]
  generalize L/r=q at*
  have z:q*r=q*(t*b)+q*(p*k2):=by rw[<-Int.mul_add,<-c2]
  have z1:q*(t*b)=q*t*b:=(Int.mul_assoc q t b).symm
  have z2:q*(p*k2)=p*(q*k2):=by rw[<-Int.mul_assoc,Int.mul_comm q p,Int.mul_assoc]
  omega
 ·have dL:d∣L:=by
   have z:d∣(L-L/r*r)+L/r*r:=Int.dvd_add d2 (Int.dvd_mul_of_dvd_right d1)
   have z2:(L-L/r*r)+L/r*r=L:=by omega
   rwa[z2] at z
  exact h.dv d dL d1
 ·generalize L/r=q at*
  have a1:((lt-q*t).natAbs:Int)<=(lt.natAbs:Int)+q*(t.natAbs:Int):=by
   have b1:(lt-q*t).natAbs<=lt.natAbs+(q*t).natAbs:=by omega
   have b2:((q*t).natAbs:Int)=q*(t.natAbs:Int):=by
    rw[Int.natAbs_mul]
    have:(q.natAbs:Int)=q:=by omega
    rw[Int.natCast_mul,this]
   omega
  have a2:((lt-q*t).natAbs:Int)*r<=((lt.natAbs:Int)+q*(t.natAbs:Int))*r:=Int.mul_le_mul_of_nonneg_right a1 (by omega)
  have a3:((lt.natAbs:Int)+q*(t.natAbs:Int))*r=(lt.natAbs:Int)*r+q*(t.natAbs:Int)*r:=Int.add_mul _ _ _
  have a4:(t.natAbs:Int)*(L-q*r)=(t.natAbs:Int)*L-q*(t.natAbs:Int)*r:=by
   rw[Int.mul_sub,<-Int.mul_assoc,Int.mul_comm (t.natAbs:Int) q]
  have:=h.sz
  omega
theorem jX{α:Type}{us:List α}(h:us.length=1):∃a,us=[a]:=by
  cases us with
  |nil=>cases h
  | cons a us =>
    cases us with
    |nil=>exact⟨a,rfl⟩
    |cons _ _=>cases h
theorem ln2{α:Type}{us:List α}(h:us.length=2):∃a b,us=[a,b]:=by
  cases us with
  |nil=>cases h
  | cons a us =>
    obtain⟨b,rfl⟩:=jX (us:=us) (Nat.succ.inj h)
    exact⟨a,b,rfl⟩
theorem iY{α:Type}{us:List α}(h:us.length=3):∃a b c,us=[a,b,c]:=by
  cases us with
  |nil=>cases h
  | cons a us =>
    obtain⟨b,c,rfl⟩:=ln2 (us:=us) (Nat.succ.inj h)
    exact⟨a,b,c,rfl⟩
theorem mS{α:Type}{us:List α}(h:us.length=4):∃a b c d,us=[a,b,c,d]:=by
  cases us with
  |nil=>cases h
  | cons a us =>
    obtain⟨b,c,d,rfl⟩:=iY (us:=us) (Nat.succ.inj h)
    exact⟨a,b,c,d,rfl⟩
theorem Qt{α:Type}{us:List α}(h:us.length=5):∃a b c d e,us=[a,b,c,d,e]:=by
  cases us with
  |nil=>cases h
  | cons a us =>
    obtain⟨b,c,d,e,rfl⟩:=mS (us:=us) (Nat.succ.inj h)
    exact⟨a,b,c,d,e,rfl⟩
end L2
set_option maxRecDepth 100000
set_option maxHeartbeats 1000000
namespace L2
open PySem PySem.Spec PyProof.Rows
def iC(xs:Array Nat):Prop:=∀(i j x y:Nat),i<j->xs[i]?=some x->xs[j]?=some y->x<y
theorem MP{xs:Array Nat}{q:Nat}(hr:iC xs):∀(f lo hi:Nat),hi<=xs.size->lo<=hi->hi-lo<=f->(∀i x,i<lo->xs[i]?=some x->x<q)->(∀i x,hi<=i->xs[i]?=some x->q<=x)->
    lo<=SetTable.below.go xs q f lo hi/\SetTable.below.go xs q f lo hi<=hi/\(∀i x,i<SetTable.below.go xs q f lo hi->xs[i]?=some x->x<q)/\(∀i x,SetTable.below.go xs q f lo hi<=i->xs[i]?=some x->q<=x):=by
  intro f
  induction f with
  | zero =>
    intro lo hi h1 h2 h3 h4 h5
    have e:lo=hi:=by omega
    subst e
    exact⟨Nat.le_refl _,Nat.le_refl _,h4,h5⟩
  | succ f ih =>
    intro lo hi h1 h2 h3 h4 h5
    unfold SetTable.below.go
    by_cases hlt:lo<hi
    · rw[if_pos hlt]
      have hm:(lo+hi)/2<xs.size:=by omega
      have hg:xs[(lo+hi)/2]?=some xs[(lo+hi)/2]:=Array.getElem?_eq_getElem hm
      have hgd:xs.getD ((lo+hi)/2) q=xs[(lo+hi)/2]:=by rw[Array.getD_eq_getD_getElem?,hg];rfl
      dsimp only
      rw[hgd]
      by_cases hc:xs[(lo+hi)/2]<q
      · rw[if_pos hc]
        obtain⟨a1,a2,a3,a4⟩:=ih ((lo+hi)/2+1) hi h1 (by omega) (by omega) (fun i x hi' e=>by
          rcases Nat.lt_or_ge i ((lo+hi)/2) with z|z
          · exact Nat.lt_trans (hr i _ x _ z e hg) hc
          · have:i=(lo+hi)/2:=by omega
            subst this;rw[hg] at e;cases e;exact hc) h5
        exact⟨by omega,a2,a3,a4⟩
      · rw[if_neg hc]
        obtain⟨a1,a2,a3,a4⟩:=ih lo ((lo+hi)/2) (by omega) (by omega) (by omega) h4 (fun i x hi' e=>by
          rcases Nat.lt_or_ge ((lo+hi)/2) i with z|z
          · exact Nat.le_of_lt (Nat.lt_of_le_of_lt (Nat.le_of_not_lt hc) (hr _ i _ x z hg e))
          · have:i=(lo+hi)/2:=by omega
            subst this;rw[hg] at e;cases e;exact Nat.le_of_not_lt hc)
        exact⟨a1,by omega,a3,a4⟩
    · rw[if_neg hlt]
      have e:lo=hi:=by omega
      subst e
      exact⟨Nat.le_refl _,Nat.le_refl _,h4,h5⟩
theorem below_at{xs:Array Nat}{q:Nat}(hr:iC xs):SetTable.below xs q<=xs.size/\(∀i x,i<SetTable.below xs q->xs[i]?=some x->x<q)/\(∀i x,SetTable.below xs q<=i->xs[i]?=some x->q<=x):=by
 obtain⟨_,h2,h3,h4⟩:=MP (q:=q) hr xs.size 0 xs.size (Nat.le_refl _) (Nat.zero_le _) (by omega) (fun i x h=>absurd h (Nat.not_lt_zero _)) (fun i x h e=>by
  have:=(Array.getElem?_eq_some_iff.mp e).1;omega)
 exact⟨h2,h3,h4⟩
theorem UA{α:Type}{xs:Array α}{p:Nat}{x:α}(hp:p<=xs.size)(i:Nat):(SetTable.insertAt xs p x)[i]?=if i<p then xs[i]? else if i=p then some x else xs[i-1]?:=by
 unfold SetTable.insertAt
 rw[Array.getElem?_append]
 have e1:((xs.extract 0 p).push x).size=p+1:=by rw[Array.size_push,Array.size_extract];omega
 rw[e1]
 by_cases h1:i<p
 ·rw[if_pos (show i<p+1 by omega),if_pos h1,Array.getElem?_push,if_neg (by rw[Array.size_extract];omega),Array.getElem?_extract_of_lt (by omega)]
  simp
 ·rw[if_neg h1]
  by_cases h2:i=p
  ·rw[if_pos (show i<p+1 by omega),if_pos h2,Array.getElem?_push,if_pos (by rw[Array.size_extract];omega)]
  ·rw[if_neg (show¬i<p+1 by omega),if_neg h2]
   by_cases h3:i-(p+1)<xs.size-p
   ·rw[Array.getElem?_extract_of_lt (by omega),<-Array.getElem?_eq_getElem,show p+(i-(p+1))=i-1 by omega]
   ·rw[Array.getElem?_eq_none (by rw[Array.size_extract];omega),Array.getElem?_eq_none (by omega)]
theorem iC.insert{xs:Array Nat}{q:Nat}(hr:iC xs)(hq:xs[SetTable.below xs q]?≠some q):iC (SetTable.insertAt xs (SetTable.below xs q) q):=by
 obtain⟨h1,h2,h3⟩:=below_at (q:=q) hr
 have h3':∀i x,SetTable.below xs q<=i->xs[i]?=some x->q<x:=fun i x hi e=>by
  rcases Nat.lt_or_eq_of_le (h3 i x hi e) with z|z
  ·exact z
  ·subst z
   rcases Nat.lt_or_eq_of_le hi with z|z
   ·have hb:SetTable.below xs q<xs.size:=Nat.lt_of_lt_of_le z (Nat.le_of_lt (Array.getElem?_eq_some_iff.mp e).1)
    have hg:xs[SetTable.below xs q]?=some xs[SetTable.below xs q]:=Array.getElem?_eq_getElem hb
    have:=hr _ i _ q z hg e
    have:=h3 _ _ (Nat.le_refl _) hg
    omega
   ·rw[<-z] at e;exact absurd e hq
 intro i j x y hij ex ey
 rw[UA h1] at ex ey
 by_cases a:i<SetTable.below xs q
 ·rw[if_pos a] at ex
  by_cases b:j<SetTable.below xs q
  ·rw[if_pos b] at ey;exact hr i j x y hij ex ey
  ·rw[if_neg b] at ey
   by_cases c:j=SetTable.below xs q
   ·rw[if_pos c] at ey;cases ey;exact h2 i x a ex
   ·rw[if_neg c] at ey;exact hr i (j-1) x y (by omega) ex ey
 ·rw[if_neg a] at ex
  by_cases c:i=SetTable.below xs q
  ·rw[if_pos c] at ex;cases ex
   rw[if_neg (by omega),if_neg (by omega)] at ey
   exact h3' (j-1) y (by omega) ey
  ·rw[if_neg c] at ex
   rw[if_neg (by omega),if_neg (by omega)] at ey
   exact hr (i-1) (j-1) x y (by omega) ex ey
theorem JT{t:SetTable}{ha:Nat->Int}{h:Int}:∀(f:Nat) (p:SetTable.Probe) (j:Nat) (dm:Option Nat),(∀d,p.dummy=some d->t.slot d= .dummy)->SetTable.probe.go t ha h f p=some (.empty j dm)->t.slot j= .empty/\∀d,dm=some d->t.slot d= .dummy:=by
  intro f
  induction f with
  |zero=>intro p j dm _ e;unfold SetTable.probe.go at e;cases e
  | succ f ih =>
    intro p j dm hd e
    have Aw:∀p:SetTable.Probe,(t.advance p).dummy=p.dummy:=fun p=>by unfold SetTable.advance;split<;>rfl
    unfold SetTable.probe.go at e
    cases hs:t.slot p.j with
    |empty=>rw[hs] at e;cases e;exact⟨hs,hd⟩
    |dummy=>rw[hs] at e;exact ih _ j dm (fun d h'=>by rw[Aw] at h';cases h';exact hs) e
    | live i =>
      rw[hs] at e
      dsimp only at e
      split at e
      · cases e
      · exact ih _ j dm (fun d h'=>by rw[Aw] at h';exact hd d h') e
theorem BV{t:SetTable}{h:Int}{j:Nat}{wd:Bool}(e:t.freeSlot h=some (j,wd)):∀i,t.slot j≠ .live i:=by
 unfold SetTable.freeSlot SetTable.probe at e
 intro i z
 split at e
 ·rename_i j0 dm he
  obtain⟨h1,h2⟩:=JT (10*SetTable.turns t.mask) (t.probeStart h) j0 dm (fun d h'=>by unfold SetTable.probeStart at h';cases h') he
  cases dm with
  |none=>cases e;simp at z;rw[h1] at z;cases z
  |some d=>cases e;simp at z;rw[h2 d rfl] at z;cases z
 ·cases e
structure cT(bt:Bool)(t:SetTable):Prop where
 led:bt=false->t.led=true
 xJ:t.plain=true->iC t.place
theorem cT.standIn{bt:Bool}{t:SetTable}(h:cT bt t)(n:Nat):cT bt (t.standIn n):=⟨h.led,fun z=>by cases z⟩
theorem cT.off{bt:Bool}{t:SetTable}(h:cT bt t):cT bt {t with plain:=false}:=⟨h.led,fun z=>by cases z⟩
theorem cT.put{bt:Bool}{t:SetTable}{j:Nat}(h:cT bt t)(hj:∀i,t.slot j≠ .live i):cT bt (t.put j).1:=by
 refine⟨h.led,fun z=>?_⟩
 refine iC.insert (h.xJ z) fun e=>hj (SetTable.below t.place j) ?_
 unfold SetTable.slot
 dsimp only
 rw[if_pos (by rw[e];exact beq_self_eq_true _)]
theorem cT.layNew{bt:Bool}{t:SetTable}{es:Array (Int×Value)}{h:Int}{x:Value}(ok:cT bt t):cT bt (layNew t es h x).2.1:=by
 unfold PySem.layNew
 split
 ·rename_i slot wd e
  dsimp only
  unfold SetTable.orStandIn
  split
  ·exact ok.put (BV e)
  ·exact(ok.put (BV e)).standIn _
 ·exact ok.standIn _
theorem JU(n:Nat)(φ:Nat->Option Nat):iC (((List.range n).filterMap fun j=>(φ j).map (j,·)).map (·.1)).toArray:=by
  have hp:(((List.range n).filterMap fun j=>(φ j).map (j,·)).map (·.1)).Pairwise (· < ·):=by
    have hs:List.Sublist (((List.range n).filterMap fun j=>(φ j).map (j,·)).map (·.1)) (List.range n):=by
      induction List.range n with
      |nil=>simp
      | cons a r ih =>
        rw[List.filterMap_cons]
        cases φ a with
        |none=>exact ih.cons a
        |some y=>exact ih.cons₂ a
    exact List.pairwise_lt_range.sublist hs
  intro i j x y hij ex ey
  rw[List.getElem?_toArray] at ex ey
  obtain⟨hi,rfl⟩:=List.getElem?_eq_some_iff.mp ex
  obtain⟨hj,rfl⟩:=List.getElem?_eq_some_iff.mp ey
  exact List.pairwise_iff_getElem.mp hp i j hi hj hij
theorem cT.Iv{bt:Bool}{t:SetTable}{es:Array (Int×Value)}{n:Nat}(ok:cT bt t):cT bt (relayAll t es n).2.1:=by
  unfold relayAll
  split
  · rename_i t' order e
    dsimp only
    split
    · unfold SetTable.relaid SetTable.laid at e
      cases hl:SetTable.layClean (SetTable.sizeAbove n-1) (es.map (·.1)) with
      |none=>rw[hl] at e;cases e
      | some owner =>
        rw[hl] at e
        cases e
        exact⟨ok.led,fun _=>JU _ _⟩
    · exact ok.standIn _
  · exact ok.standIn _
theorem cT.fresh{bt:Bool}:cT bt (.fresh 0 0 (!bt)):=⟨fun h=>by rw[h];rfl,fun _ i j x y _ e=>by simp[SetTable.fresh] at e⟩
end L2
set_option maxRecDepth 100000
set_option maxHeartbeats 4000000
namespace L2
open PySem PySem.Spec PyProof.Rows
def eH(bt:Bool)(h:Heap)(a:Addr):Prop:=∀o es ep t,h.get? a=some o->o.data= .set es ep t->cT bt t
theorem eH.of{bt:Bool}{h:Heap}{a:Addr}{o:Obj}{es:Array (Int×Value)}{ep:Nat}{t:SetTable}(e:h.get? a=some o)(d:o.data= .set es ep t)(k:cT bt t):eH bt h a:=fun o' es' pY t' e' d'=>by
 rw[e] at e';cases e';rw[d] at d';cases d';exact k
theorem eH.keep{bt:Bool}{h h':Heap}{a:Addr}{o:Obj}(k:eH bt h a)(e:h.get? a=some o)(e':h'.get? a=some o):eH bt h' a:=fun o1 es ep t x d=>by
 rw[e'] at x;cases x;exact k o es ep t e d
section
variable{prog:Program}{w:World}{A:Around}{E:Value->Shared->Prop}{s:Shared}{a:Addr}{bt:Bool}
abbrev IK(prog:Program)(w:World):=intKind prog w
theorem C2{o:Obj}{es es':Array (Int×Value)}{ep:Nat}{t t':SetTable}{T:Int->Bool}{h:Heap}(g1:h.get? a=some o)(g2:o.ExactSet)(g3:o.data= .set es ep t)(l1:ElemsOf (IK prog w) es'.toList)
  (l2:∀k,T k=true↔∃e∈es'.toList,(IK prog w).is k e.2=true) (l3:es'.size<scanBound) (l4:t'.fits es'.size=true) (tk:cT bt t'):
  (∃o',(h.update a (Obj.putSet es' t')).get? a=some o'/\o'.ExactSet/\o'.data= .set es' (ep+1) t')/\(h.update a (Obj.putSet es' t')).SetOf (IK prog w) a T es'.size/\eH bt (h.update a (Obj.putSet es' t')) a:=by
 obtain⟨q1,q2⟩:=SetOf_store (knd:=IK prog w) (es':=es') (t':=t') (S':=T) g1 g2 g3 l1 l2 l3 l4
 exact⟨⟨_,q1,g2,rfl⟩,q2, .of q1 rfl tk⟩
theorem CW{gg:Bool->Sem Unit}(Qf:∀(b:Bool) (s₁:Shared) (Q₁:Unit->Shared->Prop),Q₁ () s₁->wpAny (model prog w) A (gg b) Q₁ E s₁){o:Obj}{es:Array (Int×Value)}{ep:Nat}{t:SetTable}
    (g1:s.heap.get? a=some o) (g2:o.ExactSet) (g3:o.data= .set es ep t) {es1:Array (Int×Value)} {t2:SetTable} {T:Int->Bool} (l1:ElemsOf (IK prog w) es1.toList) (l2:∀k,T k=true↔∃e∈es1.toList,(IK prog w).is k e.2=true)
    (l3:es1.size<scanBound) (l4:t2.fits es1.size=true) (tk:cT bt t2) {wd:Bool} {R:Option Bool->Shared->Prop}
    (fin:∀h',Heap.SameBut a s.heap h'->h'.SetOf (IK prog w) a T es1.size->eH bt h' a->R (some true) {s with heap:=h'}):
    wpAny (model prog w) A (do storeSet a es1 t2
                               if(!wd && t2.tooFull)=true then do
                                 gg (relayAll t2 es1 (SetTable.grown es1.size)).2.2
                                 storeSet a (relayAll t2 es1 (SetTable.grown es1.size)).1 (relayAll t2 es1 (SetTable.grown es1.size)).2.1
                                 pure (some true)
                               else pure (some true)) R E s:=by
  obtain⟨⟨o1,k1,k2,k3⟩,q1,q2⟩:=C2 (T:=T) g1 g2 g3 l1 l2 l3 l4 tk
  have sb:=Heap.SameBut.update s.heap a (Obj.putSet es1 t2)
  refine wpAny_bind (wpAny_storeSet_of g1 g3 ?_ (fits_of_scanBound l3))
  by_cases c:(!wd && t2.tooFull)=true
  · rw[if_pos c]
    have pp:=relayAll_perm t2 es1 (SetTable.grown es1.size)
    have pf:=relayAll_fits t2 es1 (SetTable.grown es1.size)
    have pt:=tk.Iv (es:=es1) (n:=SetTable.grown es1.size)
    generalize relayAll t2 es1 (SetTable.grown es1.size)=Z at pp pf pt⊢
    obtain⟨AU,t3,Ry⟩:=Z
    dsimp only at pp pf pt⊢
    have sz:AU.size=es1.size:=by have:=pp.length_eq;rwa[Array.length_toList,Array.length_toList] at this
    have GY:∀k,T k=true↔∃e∈AU.toList,(IK prog w).is k e.2=true:=fun k=>(l2 k).trans ⟨fun⟨e,m,z⟩=>⟨e,pp.mem_iff.mpr m,z⟩,fun⟨e,m,z⟩=>⟨e,pp.mem_iff.mp m,z⟩⟩
    obtain⟨_,r1,r2⟩:=C2 (T:=T) k1 k2 k3 (l1.perm pp) GY (by rw[sz];exact l3) pf pt
    refine wpAny_bind (Qf _ _ _ (wpAny_bind (wpAny_storeSet_of k1 k3 ?_ (fits_of_scanBound (by rw[sz];exact l3)))))
    rw[sz] at r1
    exact wpAny_pure (fin _ (sb.trans (Heap.SameBut.update _ a _)) r1 r2)
  · rw[if_neg c]
    exact wpAny_pure (fin _ sb q1 q2)
theorem Si{S:Int->Bool}{n:Nat}{k:Int}{x:Value}{Q:Bool->Shared->Prop}(hx:(IK prog w).is k x=true)(sc:x.scannable=true)(hS:s.heap.SetOf (IK prog w) a S n)(hT:eH bt s.heap a)(room:n+1<scanBound)
    (fin:∀h',Heap.SameBut a s.heap h'->h'.SetOf (IK prog w) a (fun j=>S j||decide (j=k)) (if S k then n else n+1)->eH bt h' a->Q (!S k) {s with heap:=h'}):
    wpAny (model prog w) A (setAddHashed a x ((IK prog w).hash k)) Q E s:=by
  obtain⟨o,es,ep,t,g1,g2,g3,l1,l2,l3,l4,sz⟩:=hS
  have tk:=hT o es ep t g1 g3
  unfold setAddHashed setAddHashedIn
  refine wpAny_holding (wpAny_bind (wpAny_setState_of g1 g3 l4 ?_))
  dsimp only
  rw[if_pos (byScan_of sc l3 l1)]
  unfold setAddByScan
  refine wpAny_bind (wpAny_bind (wpAny_rule (wpAny_bind (wpAny_setScan_of hx g1 g3 l4 l1 ?_))))
  cases fr:List.findIdx? (fun e=>(IK prog w).is k e.2) es.toList with
  | some j =>
    obtain⟨hj,pj,_⟩:=List.findIdx?_eq_some_iff_getElem.mp fr
    have yes:S k=true:=(l2 k).mpr ⟨_,List.getElem_mem hj,pj⟩
    have z:=fin s.heap (.refl a s.heap) ⟨o,es,ep,t,g1,g2,g3,l1,fun j=>by
      rw[Bool.or_eq_true,decide_eq_true_eq,<-l2 j]
      exact⟨fun q=>q.elim id fun e=>e▸yes, .inl⟩,l3,l4,by rw[if_pos yes];exact sz⟩ hT
    rw[yes] at z
    exact wpAny_pure (wpAny_pure z)
  | none =>
    have no:S k=false:=by
      cases q:S k with
      |false=>rfl
      | true =>
        obtain⟨e,m,p⟩:=(l2 k).mp q
        rw[List.findIdx?_eq_none_iff.mp fr e m] at p;cases p
    have pp:=layNew_perm t es ((IK prog w).hash k) x
    have pf:=layNew_fits t es ((IK prog w).hash k) x
    have pt:=tk.layNew (es:=es) (h:=(IK prog w).hash k) (x:=x)
    dsimp only
    generalize layNew t es ((IK prog w).hash k) x=Z at pp pf pt⊢
    obtain⟨es1,t1,wd,Ry⟩:=Z
    dsimp only at pp pf pt⊢
    rw[Array.toList_push] at pp
    have jd:es1.size=n+1:=by have:=pp.length_eq;rw[List.length_append,Array.length_toList,Array.length_toList,sz] at this;exact this
    have fin':∀h',Heap.SameBut a s.heap h'->h'.SetOf (IK prog w) a (fun j=>S j||decide (j=k)) es1.size->eH bt h' a->Q true {s with heap:=h'}:=fun h' x1 x2 x3=>by
      have:=fin h' x1;rw[no,if_neg Bool.false_ne_true] at this;rw[jd] at x2;exact this x2 x3
    have gw:∀(b:Bool) (s₁:Shared) (Q₁:Unit->Shared->Prop),Q₁ () s₁->wpAny (model prog w) A (match b with|true=>rule "set.scan.the-table-gave-way" |false=>pure ()) Q₁ E s₁:=fun b s₁ Q₁ q=>by
      cases b
      · exact wpAny_pure q
      · exact wpAny_rule q
    refine wpAny_bind (gw _ _ _ ?_)
    have e1:=(l1.push hx sc).perm pp
    have e2:=mem_push_iff hx l2 pp
    have e3:es1.size<scanBound:=by rw[jd];exact room
    by_cases pl:t1.plain=true
    · rw[if_pos pl,hashByValue_scannable 8 sc]
      refine wpAny_bind (wpAny_pure ?_)
      refine CW gw g1 g2 g3 e1 e2 e3 ?_ ?_ fun h' x1 x2 x3=>wpAny_pure (fin' h' x1 x2 x3)
      · split
        · exact pf
        · exact SetTable.fits_plain_off pf
      · split
        · exact pt
        · exact pt.off
    · rw[if_neg pl]
      refine wpAny_bind (wpAny_pure ?_)
      rw[if_pos rfl]
      exact CW gw g1 g2 g3 e1 e2 e3 pf pt fun h' x1 x2 x3=>wpAny_pure (fin' h' x1 x2 x3)
end
end L2
set_option maxRecDepth 100000
set_option maxHeartbeats 4000000
namespace L2
open PySem PySem.Spec PyProof.Rows
section
variable{prog:Program}{w:World}{A:Around}{R:Result->Shared->Prop}{I:Addr}{fp wr:List Addr}{G:Array GenState->Array GenState->Prop}{n:Nat}{P:Nat->Value->Prop}{St:Nat->Shared->Prop}{bt:Bool}
abbrev met(val:Nat->Int)(i:Nat):Int->Bool:=fun k=>(firstMet val i).any (· ==k)
theorem Mk(W:WalksS prog w A.in1 I fp wr G n P St)(C:Addr)(nC:C∉fp)(val:Nat->Int)(hv:∀i v,P i v->∃t,v= .int (val i) t)(room:n+1<scanBound)(fuel:Nat):
    ∀(i:Nat) (s:Shared),n-i=fuel->i<=n->St i s->s.heap.SetOf (IK prog w) C (met val i) (firstMet val i).length->eH bt s.heap C->
      (∀s',Moved (C::wr) G s s'->s'.heap.SetOf (IK prog w) C (met val n) (firstMet val n).length->eH bt s'.heap C->R (.ok (.ret .none)) s')->
      codeAny (model prog w) A (.builtin "set.update.loop" ⟨[.ref C, .ref I],[]⟩) R s:=by
  have nw:C∉wr:=fun z=>nC (W.sub _ z)
  have up:∀b∈wr,b∈C::wr:=fun b z=>List.mem_cons_of_mem _ z
  have mv:∀{s s':Shared} {T:Int->Bool} {m:Nat},Moved wr G s s'->s.heap.SetOf (IK prog w) C T m->eH bt s.heap C->s'.heap.SetOf (IK prog w) C T m/\eH bt s'.heap C:=fun mo q tt=>by
    obtain⟨o,es,ep,t,ho,r⟩:=q
    exact⟨⟨o,es,ep,t,mo.heap C _ nw ho,r⟩,tt.keep ho (mo.heap C _ nw ho)⟩
  induction fuel with
  | zero =>
    intro i s e1 e2 st q tt fin
    obtain rfl:i=n:=by omega
    refine codeAny_builtin F.entry_set_update_loop ?_
    rw[Around.under_plainId F.plain_set_update_loop _]
    refine wpAny_bind (W.done s _ _ st fun s' mo=>?_)
    exact wpAny_pure (fin s' (mo.mono up) (mv mo q tt).1 (mv mo q tt).2)
  | succ fuel ih =>
    intro i s e1 e2 st q tt fin
    have lt:i<n:=by omega
    refine codeAny_builtin F.entry_set_update_loop ?_
    rw[Around.under_plainId F.plain_set_update_loop _]
    refine wpAny_bind (W.item i s _ _ lt st fun v s' hP st' mo=>?_)
    obtain⟨tok,rfl⟩:=hv i v hP
    obtain⟨q',Sa⟩:=mv mo q tt
    show wpAny _ A.in1 (holding [Value.int (val i) tok] (setAdd C (.int (val i) tok))>>=_) _ _ s'
    unfold setAdd
    refine wpAny_bind (wpAny_holding (wpAny_holding (wpAny_bind ((IK prog w).pyHash (k:=val i) (intKind_is _ _ _ _) ?_))))
    refine Si (bt:=bt) (s:={s' with toks:=s'.toks+1}) (intKind_is _ _ _ _) rfl q' Sa (by have:=firstMet_length_le val i;omega) fun h' sb q2 Jh=>?_
    have q3:h'.SetOf (IK prog w) C (met val (i+1)) (firstMet val (i+1)).length:=SetOf_congr q2 (fun j=>by unfold met;rw[firstMet_succ,step_any]) (by rw[firstMet_succ,step_length])
    refine wpAny_pure ⟨plainId_quiet F.plain_set_update_loop _,ih (i+1) _ (by omega) lt (W.frame _ s' _ _ st' (Nat.le_succ _) fun b hb o e=>?_) q3 Jh fun s2 K0 q4 Mn=>?_⟩
    · rw[sb.2 b fun z:b=C=>nC (z▸hb)];exact e
    · refine fin s2 (Moved.trans W.gtrans ((mo.mono up).then_heap (Nat.le_succ _) fun b o hb e=>?_) K0) q4 Mn
      rw[sb.2 b fun z:b=C=>hb (z▸List.mem_cons_self)];exact e
end
section
variable{prog:Program}{w:World}{A:Around}{E:Value->Shared->Prop}{s:Shared}
abbrev dR(w:World):Bool:=w.params.followText "set-order"
abbrev iU(w:World):Obj:={cls:= .type "set",dict:=none,data:= .set #[] 0 (.fresh 0 0 (!dR w))}
theorem RN(a:Value){Q₁:Value->Shared->Prop}(fin:Q₁ (.ref s.heap.objs.size) {s with heap:=s.heap.push (iU w)}):codeAny (model prog w) A (.call (.builtin "set.__new__") ⟨[.type "set",a],[]⟩) (wants Q₁ E) s:=by
 refine codeAny_of_tree ?_
 show wpAny _ A.in1 (do checkBuiltinCall "set.__new__" ⟨[.type "set",a],[]⟩;again (.builtin "set.__new__" ⟨[.type "set",a],[]⟩)) _ _ s
 refine wpAny_bind (wpAny_of_eq (F.newCall_set_1 a) (wpAny_pure ⟨plainId_quiet F.plain_set_new _,codeAny_builtin F.entry_set_new ?_⟩))
 rw[Around.under_plainId F.plain_set_new _]
 unfold Builtin.«set.__new__» Builtin.Frozenset.newClass
 have hsub:=sub_set_self
 obtain⟨hp,g,d,tk,os⟩:=s
 dsimp only at fin⊢
 wp_walk
 refine wpAny_askSetting (wpAny_pure ?_)
 dsimp only
 simp only[newObj]
 exact wpAny_bind (wpAny_alloc (wpAny_pure (wpAny_pure fin)))
theorem Jq{l:Addr}{items:Array Value}{ns:List Int}{Q:Value->Shared->Prop}(hh:A.handled=none)(hl:s.heap.IsList l items)(hi:IntsAre items.toList ns)(room:items.size+1<scanBound)
    (fin:∀(h':Heap) (tk:Nat),h'.SetOf (IK prog w) s.heap.objs.size (met (fun i=>ns.getD i 0) items.size) (firstMet (fun i=>ns.getD i 0) items.size).length->eH (dR w) h' s.heap.objs.size->
      (∀b o,b<s.heap.objs.size->s.heap.get? b=some o->h'.get? b=some o)->Q (.ref s.heap.objs.size) {s with heap:=h',toks:=tk}):wpAny (model prog w) A (call (.type "set") [.ref l]) Q E s:=by
  obtain⟨c,tl,UP⟩:=F.called_set.mro
  have hmade:=F.called_set.made
  have hsub:=F.called_set.sub
  have h1:=F.called_set.notType
  have h2:=F.called_set.canCreate
  have hct:=F.typeCall_set_1 (.ref l)
  refine wpAny_call (codeAny_of_tree ?_)
  show wpAny _ _ (callAny (.type "set") _) _ _ _
  refine wpAny_pure ⟨Code.quiet_builtin _ (by decide+kernel),codeAny_builtin F.entry_type_call ?_⟩
  rw[Around.under_plain (weight_type_call_type "set" [.ref l] []) rfl]
  repeat (any_goals (first|assumption|wp_step))
  refine codeAny_mono (RN (.ref l) (E:=E) (Q₁:=fun obj s₁=>obj= .ref s.heap.objs.size/\s₁={s with heap:=s.heap.push (iU w)}) ⟨rfl,rfl⟩) fun r s₁ hr=>?_
  cases r with
  |error e=>exact hr
  | ok fl =>
    cases fl with
    | ret obj =>
      obtain⟨rfl,rfl⟩:=hr
      have hS:(s.heap.push (iU w)).get? s.heap.objs.size=some (iU w):=Heap.get?_push_size _ rfl
      have hT:Shared.TypeIs {s with heap:=s.heap.push (iU w)} (.ref s.heap.objs.size) "set":=⟨_,hS,rfl⟩
      have hli:=F.called_set.init.lookup
      have hbi:=F.called_set.init.bind (.ref s.heap.objs.size)
      repeat (any_goals (first|assumption|wp_step))
      refine codeAny_mono (codeAny_call_builtin (R:=wants (fun r s₂=>r= .none/\∃h' tk,s₂={s with heap:=h',toks:=tk}/\h'.SetOf (IK prog w) s.heap.objs.size (met (fun i=>ns.getD i 0) items.size) (firstMet (fun i=>ns.getD i 0) items.size).length/\eH (dR w) h' s.heap.objs.size/\
          (∀b o,b<s.heap.objs.size->s.heap.get? b=some o->h'.get? b=some o)) E) F.called_set.init.plain F.entry_set_init (check_set_init_1 hT ?_)) fun r₂ s₂ sW=>?_
      · obtain⟨ol,iN,hcl,nl,hdl⟩:=hl
        obtain⟨U7,U8,Vg,UY⟩:=ol
        simp only at hcl hdl
        subst hcl;subst hdl
        have Kv:=Heap.get?_push_of_some (iU w) iN
        have UX:=F.sub_list_set
        have Vf:=F.sub_list_frozenset
        have hne:(Value.type "list"==Value.type "dict")=false:=by decide
        have hl1:(s.heap.push (iU w)).IsList l items:=⟨_,Kv,rfl,nl,rfl⟩
        unfold Builtin.«set.__init__» noKeywords Builtin.Frozenset.updateFrom
        generalize R6:pyIter=PI
        wp_walk
        subst R6
        refine wpAny_pyIter_list hl1 (wpAny_bind (wpAny_runValue ?_))
        have hlS:l<s.heap.objs.size:=Heap.lt_size iN
        have jd:(s.heap.push (iU w)).objs.size=s.heap.objs.size+1:=Heap.size_push ..
        have n1:l≠(s.heap.push (iU w)).objs.size:=by rw[jd];exact Nat.ne_of_lt (Nat.lt_succ_of_lt hlS)
        have n2:s.heap.objs.size∉[(s.heap.push (iU w)).objs.size,l]:=by
          rw[jd];intro z;rcases List.mem_cons.mp z with z|z
          · exact absurd z (Nat.ne_of_lt (Nat.lt_succ_self _))
          · exact absurd (List.mem_singleton.mp z) (Nat.ne_of_gt hlS)
        have h3:A.in1.in1.in1.handled=none:=by simp[hh]
        have hS':=Heap.get?_push_of_some ({cls:= .type "list_iterator",data:= .fields #[.ref l, .int 0 0]}:Obj) hS
        refine Mk (bt:=dR w) ((Walks.list h3 _ l n1 items).toS) s.heap.objs.size n2 (fun i=>ns.getD i 0) (fun i v e=>IntsAre.int_at hi i v (by rw[Array.getElem?_toList];exact e)) room (items.size-0) 0 _ (by omega) (Nat.zero_le _)
          ⟨⟨_,Heap.get?_push_size _ rfl,rfl,rfl⟩,(hl1.push _)⟩ (SetOf_congr ((setObjOf_fresh (knd:=IK prog w) (!dR w)).setOf hS' (by unfold scanBound;omega)) (fun _=>rfl) rfl) (.of hS' rfl .fresh) ?_
        intro s' mo q tt
        obtain⟨h',g',d',tk',os'⟩:=s'
        obtain rfl:g'=s.gens:=mo.gens
        obtain rfl:d'=s.drawn:=mo.drawn
        obtain rfl:os'=s.os:=mo.os
        refine wpAny_pure (wpAny_pure ⟨rfl,h',tk',rfl,q,tt,fun b o hb e=>?_⟩)
        refine mo.heap b o (fun z=>?_) (Heap.get?_push_of_some _ (Heap.get?_push_of_some _ e))
        rcases List.mem_cons.mp z with z|z
        · exact absurd z (Nat.ne_of_lt hb)
        · rw[jd] at z;exact absurd (List.mem_singleton.mp z) (Nat.ne_of_lt (Nat.lt_succ_of_lt hb))
      · cases r₂ with
        |error e=>exact sW
        | ok fl₂ =>
          cases fl₂ with
          | ret r =>
            obtain⟨rfl,h',tk,rfl,q1,q2,q3⟩:=sW
            repeat (any_goals (first|assumption|wp_step))
            exact fin _ _ q1 q2 q3
          |_=>exact sW.elim
    |_=>exact hr.elim
end
end L2
set_option maxRecDepth 100000
set_option maxHeartbeats 4000000
namespace L2
open PySem PySem.Spec PyProof.Rows
theorem gC:Slot "set_iterator" "__next__" "set_iterator.__next__":= .of (owner:="set_iterator") (n:="__next__") (by rw[typeLookup_type,builtinLookup_eq_fast];kernel_rfl) (by decide+kernel) (by decide+kernel) (by decide+kernel) (by first|exact .inl (by decide+kernel)|exact .inr (by decide+kernel)) (by rw[isSubtype_type];kernel_rfl)
theorem pU:entryFor table "set_iterator.__next__"=some Builtin.«set_iterator.__next__» :=entryFor_of_tree (by kernel_rfl)
theorem qS(a:Value):argsOk "set_iterator.__next__" ⟨[a],[]⟩:=by unfold argsOk;kernel_rfl
theorem BW:Slot "set" "__iter__" "set.__iter__":= .of (owner:="set") (n:="__iter__") (by rw[typeLookup_type,builtinLookup_eq_fast];kernel_rfl) (by decide+kernel) (by decide+kernel) (by decide+kernel) (by first|exact .inl (by decide+kernel)|exact .inr (by decide+kernel)) (by rw[isSubtype_type];kernel_rfl)
theorem JG:entryFor table "set.__iter__"=some Builtin.«frozenset.__iter__» :=entryFor_alias (id':="frozenset.__iter__") (by kernel_rfl) rfl (by decide+kernel) (by kernel_rfl)
theorem SD(a:Value):argsOk "set.__iter__" ⟨[a],[]⟩:=by unfold argsOk;kernel_rfl
theorem lI:Slot "set_iterator" "__iter__" "set_iterator.__iter__":= .of (owner:="set_iterator") (n:="__iter__") (by rw[typeLookup_type,builtinLookup_eq_fast];kernel_rfl) (by decide+kernel) (by decide+kernel) (by decide+kernel) (by first|exact .inl (by decide+kernel)|exact .inr (by decide+kernel)) (by rw[isSubtype_type];kernel_rfl)
theorem xC:entryFor table "set_iterator.__iter__"=some Builtin.«dict_keyiterator.__iter__» :=entryFor_alias (id':="dict_keyiterator.__iter__") (by kernel_rfl) rfl (by decide+kernel) (by kernel_rfl)
theorem rP(a:Value):argsOk "set_iterator.__iter__" ⟨[a],[]⟩:=by unfold argsOk;kernel_rfl
end L2
set_option maxRecDepth 100000
set_option maxHeartbeats 4000000
namespace L2
open PySem PySem.Spec PyProof.Rows
section
variable{prog:Program}{w:World}{A:Around}{E:Value->Shared->Prop}{s:Shared}{a it tp:Addr}{o:Obj}{es:Array (Int×Value)}{ep:Nat}{t:SetTable}
theorem yv{α:Type}:∀{l:List α} {i:Nat} (h:i<l.length),(l[i]::l.eraseIdx i).Perm l
  |b::r,0,_=>by simp
  | b :: r, i + 1, h => by
    have:=yv (l:=r) (i:=i) (by simpa using h)
    simp only[List.getElem_cons_succ,List.eraseIdx_cons_succ]
    exact(List.Perm.swap b _ _).trans (this.cons b)
theorem uQ{α:Type}(nx:Nat->Nat):∀(f k:Nat) (l:List α) (out:Array α),l.length<=f->(pickOrder.go nx f k l out).toList.Perm (out.toList++l):=by
  intro f
  induction f with
  | zero =>
    intro k l out h
    have:l=[]:=List.length_eq_zero_iff.mp (by omega)
    subst this
    unfold pickOrder.go
    simp
  | succ f ih =>
    intro k l out h
    unfold pickOrder.go
    cases l with
    |nil=>simp
    | cons b r =>
      have hlt:nx k%(b::r).length<(b::r).length:=Nat.mod_lt _ (by simp)
      rw[List.getElem?_eq_getElem hlt]
      dsimp only
      refine(ih (k+1) _ _ (by rw[List.length_eraseIdx_of_lt hlt];omega)).trans ?_
      rw[Array.toList_push,List.append_assoc]
      refine List.Perm.append_left _ ?_
      exact yv hlt
theorem AG(bt:dR w=true)(g1:s.heap.get? a=some o)(g3:o.data= .set es ep t)(g4:t.fits es.size=true){i sl:Nat}{Q:Option (Value×Nat)->Shared->Prop}
  (h:Q (((pickOrder (w.params.setOrder a ep) es)[i]?).map fun e=>(e.2,sl)) s):wpAny (model prog w) A (setNext a sl i ep) Q E s:=by
 unfold setNext
 refine wpAny_bind (wpAny_setState_of g1 g3 g4 ?_)
 dsimp only
 unfold setsByText
 refine wpAny_bind (wpAny_bind (wpAny_askSetting (wpAny_pure ?_)))
 show wpAny _ _ (if dR w=true then _ else _) _ _ _
 rw[if_pos bt]
 rw[if_neg (by simp)]
 refine wpAny_bind ?_
 unfold setWalk
 refine wpAny_bind (wpAny_setState_of g1 g3 g4 ?_)
 dsimp only
 unfold setsByText
 refine wpAny_bind (wpAny_bind (wpAny_askSetting (wpAny_pure ?_)))
 show wpAny _ _ (if dR w=true then _ else _) _ _ _
 rw[if_pos bt]
 refine wpAny_bind (wpAny_askSetting (wpAny_pure ?_))
 exact wpAny_pure h
theorem Dt(bt:dR w=false)(g1:s.heap.get? a=some o)(g3:o.data= .set es ep t)(g4:t.fits es.size=true)(tk:cT (dR w) t)(pl:t.plain=true\/es.size<=1){i sl:Nat}{Q:Option (Value×Nat)->Shared->Prop}
  (h:Q (match es[SetTable.below t.place sl]?,t.place[SetTable.below t.place sl]? with|some (_,x),some j=>some (x,j+1)|_,_=>none) s):wpAny (model prog w) A (setNext a sl i ep) Q E s:=by
 unfold setNext
 refine wpAny_bind (wpAny_setState_of g1 g3 g4 ?_)
 dsimp only
 unfold setsByText
 refine wpAny_bind (wpAny_bind (wpAny_askSetting (wpAny_pure ?_)))
 show wpAny _ _ (if dR w=true then _ else _) _ _ _
 rw[bt,if_neg Bool.false_ne_true]
 show wpAny _ _ (if(!t.plain && decide (es.size>1))=true then _ else _) _ _ _
 rw[if_neg (by
  intro z
  rw[Bool.and_eq_true,Bool.not_eq_true',decide_eq_true_eq] at z
  rcases pl with p|p
  ·rw[p] at z;cases z.1
  ·omega)]
 refine wpAny_bind ?_
 show wpAny _ _ (if(!t.led && !es.isEmpty)=true then _ else _) _ _ _
 rw[if_neg (by rw[tk.led bt];simp)]
 refine wpAny_pure ?_
 exact wpAny_pure h
theorem GR(g1:s.heap.get? a=some o)(g3:o.data= .set es ep t)(g4:t.fits es.size=true){pl:Nat}{hx:Int}{x:Value}{Q:Value->Shared->Prop}(e:es[pl]?=some (hx,x))(h:Q x s):wpAny (model prog w) A (setNextDrawn a pl ep) Q E s:=by
 unfold setNextDrawn
 refine wpAny_bind (wpAny_setState_of g1 g3 g4 ?_)
 dsimp only
 rw[if_neg (by simp)]
 rw[e]
 exact wpAny_pure h
def gQ(h:Heap)(it a:Addr)(first:Value)(i n ep:Nat):Prop:=∃o,h.get? it=some o/\o.cls= .type "set_iterator" /\o.data= .fields #[first, .int i 0, .ref a, .int n 0, .int ep 0]
theorem gQ.ty{first:Value}{i n:Nat}(h:gQ s.heap it a first i n ep):s.TypeIs (.ref it) "set_iterator":=let ⟨o,e,c,_⟩:=h;⟨o,e,c⟩
theorem rH{first:Value}{i n:Nat}{QQ:Fin->Shared->Prop}{EE:Value->Shared->Prop}(hit:gQ s.heap it a first i n ep)(g1:s.heap.get? a=some o)(g3:o.data= .set es ep t)(g4:t.fits es.size=true)(hn:es.size=n)
    (h:wpAny (model prog w) A (match first with
      | .int slot _ => (do
        match<-setNext a slot.toNat i ep with
        | some (x, next) => do
          setField (.ref it) 0 (rawInt next)
          setField (.ref it) 1 (rawInt ((i:Int)+1))
          ret x
        | none => do
          setField (.ref it) 2 .none
          raiseNew (<-newExc (.type "StopIteration") []))
      | _ => (do
        let some places<-seqItems? first|unsupported "internal:set_iterator"
        match places[i]? with
        | some (.int place _) => do
          let x<-setNextDrawn a place.toNat ep
          setField (.ref it) 1 (rawInt ((i:Int)+1))
          ret x
        |some _=>unsupported "internal:set_iterator"
        | none => do
          setField (.ref it) 0 (rawInt 0)
          setField (.ref it) 2 .none
          raiseNew (<-newExc (.type "StopIteration") []))) QQ EE s):wpAny (model prog w) A (Builtin.«set_iterator.__next__» ⟨[.ref it],[]⟩) QQ EE s:=by
  obtain⟨oi,ho,hc,hd⟩:=hit
  unfold Builtin.«set_iterator.__next__»
  refine wpAny_bind (wpAny_pure ?_)
  refine wpAny_bind (wpAny_fieldsOf ho hd ?_)
  dsimp only
  refine wpAny_bind (wpAny_setEntries_of g1 g3 g4 ?_)
  rw[if_neg (by rw[hn];simp)]
  cases first<;>exact h
theorem pL{h:Heap}{first:Value}{i n k:Nat}{x:Value}{oi:Obj}{vs:Array Value}(ho:h.get? it=some oi)(hc:oi.cls= .type "set_iterator")(hd:oi.data= .fields vs):
  (h.update it (Obj.mapFields (·.setIfInBounds k x))).get? it=some (Obj.mapFields (·.setIfInBounds k x) oi)/\(Obj.mapFields (·.setIfInBounds k x) oi).cls= .type "set_iterator" /\(Obj.mapFields (·.setIfInBounds k x) oi).data= .fields (vs.setIfInBounds k x):=by
 refine⟨Heap.get?_update_self _ ho (Obj.isFreed_of_fields (Obj.data_mapFields hd _)),(Obj.cls_mapFields ..).trans hc,Obj.data_mapFields hd _⟩
theorem Cp{sl i n nx:Nat}{x:Value}{Q:Option Value->Shared->Prop}(hit:gQ s.heap it a (.int sl 0) i n ep)(g1:s.heap.get? a=some o)(g3:o.data= .set es ep t)(g4:t.fits es.size=true)(hn:es.size=n)
  (hN:∀(Q:Option (Value×Nat)->Shared->Prop) (E:Value->Shared->Prop),Q (some (x,nx)) s->wpAny (model prog w) A.in1 (setNext a sl i ep) Q E s)
  (hQ:∀h',gQ h' it a (.int nx 0) (i+1) n ep->(∀b,b≠it->h'.get? b=s.heap.get? b)->Q (some x) {s with heap:=h'}):wpAny (model prog w) A (pyNext (.ref it)) Q E s:=by
 obtain⟨oi,ho,hc,hd⟩:=id hit
 unfold pyNext
 refine wpAny_bind (wpAny_attempt (wpAny_callSpecial?_slot (name:=Str.ofString "__next__") hit.ty gC (wpAny_call_entry gC hit.ty pU ?_ (qS _))))
 refine rH hit g1 g3 g4 hn ?_
 dsimp only
 refine wpAny_bind (hN _ _ ?_)
 dsimp only
 obtain⟨u1,u2,u3⟩:=pL (first:= .none) (i:=0) (n:=0) (k:=0) (x:=rawInt nx) ho hc hd
 obtain⟨w1,w2,w3⟩:=pL (first:= .none) (i:=0) (n:=0) (k:=1) (x:=rawInt ((i:Int)+1)) u1 u2 u3
 refine wpAny_bind (wpAny_setField ho hd (by simp) ?_)
 refine wpAny_bind (wpAny_setField u1 u3 (by simp) ?_)
 refine wpAny_pure ⟨x,rfl,wpAny_pure (hQ _ ⟨_,w1,w2,?_⟩ fun b hb=>?_)⟩
 ·rw[w3];simp[rawInt]
 ·exact((Heap.get?_update_other _ _ (Ne.symm hb))).trans (Heap.get?_update_other _ _ (Ne.symm hb))
theorem Bk{QQ:Fin->Shared->Prop}{B:Around}{Q:Option Value->Shared->Prop}(hh:B.handled=none)(hQ:∀o1 o2,Q none {s with heap:=(s.heap.push o1).push o2}):wpAny (model prog w) B (do raiseNew (<-newExc (.type "StopIteration") [])) QQ
  (fun e s'=>wpAny (model prog w) A (do if<-isInstance e (.type "StopIteration") then pure none else throw e) Q E s') s:=by
 refine wpAny_bind ?_
 simp only[newExc,newTuple]
 refine wpAny_bind (wpAny_newObj_type ?_ (by size_fits))
 refine wpAny_bind (m:=firstArgMember _ _) (wpAny_of_eq (a:=Value.none) (by first|rfl|(simp only[firstArgMember];rfl)) (wpAny_newObj_type ?_ (by size_fits)))
 simp only[raiseNew]
 refine wpAny_bind (wpAny_handled ?_)
 rw[hh]
 refine wpAny_bind (wpAny_pure (wpAny_throw ?_))
 refine wpAny_bind (wpAny_isInstance (b:=true) (T:="StopIteration") ⟨_,Heap.get?_push_size _ rfl,rfl⟩ isSubtype_stop ?_)
 exact wpAny_pure (hQ _ _)
theorem zH{sl i n:Nat}{Q:Option Value->Shared->Prop}(hh:A.handled=none)(hit:gQ s.heap it a (.int sl 0) i n ep)(g1:s.heap.get? a=some o)(g3:o.data= .set es ep t)(g4:t.fits es.size=true)(hn:es.size=n)
  (hN:∀(Q:Option (Value×Nat)->Shared->Prop) (E:Value->Shared->Prop),Q none s->wpAny (model prog w) A.in1 (setNext a sl i ep) Q E s)
  (hQ:∀h',(∀b o,b≠it->s.heap.get? b=some o->h'.get? b=some o)->Q none {s with heap:=h'}):wpAny (model prog w) A (pyNext (.ref it)) Q E s:=by
 obtain⟨oi,ho,hc,hd⟩:=id hit
 unfold pyNext
 refine wpAny_bind (wpAny_attempt (wpAny_callSpecial?_slot (name:=Str.ofString "__next__") hit.ty gC (wpAny_call_entry gC hit.ty pU ?_ (qS _))))
 refine rH hit g1 g3 g4 hn ?_
 dsimp only
 refine wpAny_bind (hN _ _ ?_)
 dsimp only
 refine wpAny_bind (wpAny_setField ho hd (by simp) ?_)
 exact Bk (B:=A.in1) hh fun o1 o2=>hQ _ fun b o hb e=>Heap.get?_push_of_some _ (Heap.get?_push_of_some _ ((Heap.get?_update_other _ _ (Ne.symm hb)).trans e))
theorem QL{i n pl:Nat}{hx:Int}{x:Value}{cA:Array Value}{Q:Option Value->Shared->Prop}(hit:gQ s.heap it a (.ref tp) i n ep)(g1:s.heap.get? a=some o)(g3:o.data= .set es ep t)(g4:t.fits es.size=true)(hn:es.size=n)
  (htp:∃ot m,s.heap.get? tp=some ot/\ot.data= .seq cA m) (hp:cA[i]?=some (.int pl 0)) (he:es[pl]?=some (hx,x))
  (hQ:∀h',gQ h' it a (.ref tp) (i+1) n ep->(∀b,b≠it->h'.get? b=s.heap.get? b)->Q (some x) {s with heap:=h'}):wpAny (model prog w) A (pyNext (.ref it)) Q E s:=by
 obtain⟨oi,ho,hc,hd⟩:=id hit
 obtain⟨ot,m,t1,t2⟩:=htp
 unfold pyNext
 refine wpAny_bind (wpAny_attempt (wpAny_callSpecial?_slot (name:=Str.ofString "__next__") hit.ty gC (wpAny_call_entry gC hit.ty pU ?_ (qS _))))
 refine rH hit g1 g3 g4 hn ?_
 dsimp only
 refine wpAny_bind (wpAny_seqItems t1 t2 ?_)
 dsimp only
 rw[hp]
 dsimp only
 refine wpAny_bind (GR g1 g3 g4 (by simpa using he) ?_)
 obtain⟨w1,w2,w3⟩:=pL (first:= .none) (i:=0) (n:=0) (k:=1) (x:=rawInt ((i:Int)+1)) ho hc hd
 refine wpAny_bind (wpAny_setField ho hd (by simp) (wpAny_pure ⟨x,rfl,wpAny_pure (hQ _ ⟨_,w1,w2,?_⟩ fun b hb=>Heap.get?_update_other _ _ (Ne.symm hb))⟩))
 rw[w3];simp[rawInt]
theorem Ib{i n:Nat}{cA:Array Value}{Q:Option Value->Shared->Prop}(hh:A.handled=none)(hit:gQ s.heap it a (.ref tp) i n ep)(g1:s.heap.get? a=some o)(g3:o.data= .set es ep t)(g4:t.fits es.size=true)(hn:es.size=n)
  (htp:∃ot m,s.heap.get? tp=some ot/\ot.data= .seq cA m) (hp:cA[i]?=none)
  (hQ:∀h',(∀b o,b≠it->s.heap.get? b=some o->h'.get? b=some o)->Q none {s with heap:=h'}):wpAny (model prog w) A (pyNext (.ref it)) Q E s:=by
 obtain⟨oi,ho,hc,hd⟩:=id hit
 obtain⟨ot,m,t1,t2⟩:=htp
 unfold pyNext
 refine wpAny_bind (wpAny_attempt (wpAny_callSpecial?_slot (name:=Str.ofString "__next__") hit.ty gC (wpAny_call_entry gC hit.ty pU ?_ (qS _))))
 refine rH hit g1 g3 g4 hn ?_
 dsimp only
 refine wpAny_bind (wpAny_seqItems t1 t2 ?_)
 dsimp only
 rw[hp]
 dsimp only
 obtain⟨u1,u2,u3⟩:=pL (first:= .none) (i:=0) (n:=0) (k:=0) (x:=rawInt 0) ho hc hd
 refine wpAny_bind (wpAny_setField ho hd (by simp) (wpAny_bind (wpAny_setField u1 u3 (by simp) ?_)))
 exact Bk (B:=A.in1) hh fun o1 o2=>hQ _ fun b o hb e=>Heap.get?_push_of_some _ (Heap.get?_push_of_some _ ((Heap.get?_update_other _ _ (Ne.symm hb)).trans ((Heap.get?_update_other _ _ (Ne.symm hb)).trans e)))
end
end L2
set_option maxRecDepth 100000
set_option maxHeartbeats 4000000
namespace L2
open PySem PySem.Spec PyProof.Rows
def slotAt(xs:Array Nat):Nat->Nat
 |0=>0
 |i+1=>xs.getD i 0+1
theorem IF(xs:Array Nat):slotAt xs 0=0:=rfl
theorem Cs(xs:Array Nat)(i:Nat):slotAt xs (i+1)=xs.getD i 0+1:=rfl
theorem zB{xs:Array Nat}(hr:iC xs){i:Nat}(hi:i<=xs.size):SetTable.below xs (slotAt xs i)=i:=by
  obtain⟨h1,h2,h3⟩:=below_at (q:=slotAt xs i) hr
  have g:∀{j:Nat},j<xs.size->∃y,xs[j]?=some y/\xs.getD j 0=y:=fun{j} hj=>⟨xs[j],Array.getElem?_eq_getElem hj,by rw[Array.getD_eq_getD_getElem?,Array.getElem?_eq_getElem hj];rfl⟩
  rcases Nat.lt_trichotomy (SetTable.below xs (slotAt xs i)) i with z|z|z
  · obtain⟨y,e,_⟩:=g (Nat.lt_of_lt_of_le z hi)
    have:=h3 _ y (Nat.le_refl _) e
    cases i with
    |zero=>omega
    | succ i =>
      obtain⟨y',e',d'⟩:=g (j:=i) (by omega)
      have es:=Cs xs i
      rw[d'] at es
      rcases Nat.lt_or_eq_of_le (Nat.le_of_lt_succ z) with z|z
      · have:=hr _ _ _ _ z e e';omega
      · rw[z,e'] at e;cases e;omega
  · exact z
  · obtain⟨y,e,d⟩:=g (j:=i) (by omega)
    have:=h2 i y z e
    cases i with
    |zero=>rw[IF] at this;omega
    | succ i =>
      obtain⟨y',e',d'⟩:=g (j:=i) (by omega)
      rw[Cs,d'] at this
      have:=hr i (i+1) _ _ (by omega) e' e
      omega
section
variable{prog:Program}{w:World}{a I tp:Addr}{o:Obj}{es:Array (Int×Value)}{ep:Nat}{t:SetTable}
theorem Dg(h:t.fits es.size=true):t.place.size=es.size:=by
 unfold SetTable.fits at h
 rw[Bool.and_eq_true] at h
 exact eq_of_beq h.1
theorem Qm{A:Around}(hh:A.handled=none)(bt:dR w=true)(g3:o.data= .set es ep t)(g4:t.fits es.size=true)(hne:a≠I):
  Walks prog w A I [I,a] [I] es.size (fun i v=>((pickOrder (w.params.setOrder a ep) es).toList.map (·.2))[i]?=some v) (fun i h=>gQ h I a (.int (0:Nat) 0) i es.size ep/\h.get? a=some o) where
 sub:=fun b hb=>by simp at hb;simp[hb]
 frame:=fun i h h' st hk=>by
  obtain⟨⟨oi,h1,h2,h3⟩,h4⟩:=st
  exact⟨⟨oi,hk I (by simp) _ h1,h2,h3⟩,hk a (by simp) _ h4⟩
 item:=fun i s Q E hi st hQ=>by
  have hsz:(pickOrder (w.params.setOrder a ep) es).toList.length=es.size:=by
   have:=(uQ (w.params.setOrder a ep) es.size 0 es.toList #[] (by simp)).length_eq
   simpa[pickOrder] using this
  have hlt:i<(pickOrder (w.params.setOrder a ep) es).toList.length:=by omega
  have e1:(pickOrder (w.params.setOrder a ep) es)[i]?=some (pickOrder (w.params.setOrder a ep) es).toList[i]:=by rw[<-Array.getElem?_toList];exact List.getElem?_eq_getElem hlt
  refine Cp st.1 st.2 g3 g4 rfl (x:=(pickOrder (w.params.setOrder a ep) es).toList[i].2) (nx:=0) (fun Q E q=>AG bt st.2 g3 g4 (by rw[e1];exact q)) fun h' x1 x2=>?_
  refine hQ _ h' s.toks (by rw[List.getElem?_map,List.getElem?_eq_getElem hlt];rfl) ⟨x1,(x2 a hne).trans st.2⟩ fun b o' hb e=>(x2 b (fun z=>hb (by simp[z]))).trans e
 done:=fun s Q E st hQ=>by
  have hsz:(pickOrder (w.params.setOrder a ep) es).toList.length=es.size:=by
   have:=(uQ (w.params.setOrder a ep) es.size 0 es.toList #[] (by simp)).length_eq
   simpa[pickOrder] using this
  refine zH hh st.1 st.2 g3 g4 rfl (fun Q E q=>AG bt st.2 g3 g4 (by rw[<-Array.getElem?_toList,List.getElem?_eq_none (by omega)];exact q)) fun h' x1=>hQ h' s.toks fun b o' hb e=>x1 b o' (fun z=>hb (by simp[z])) e
 self:=fun i s Q E st hQ=>by
  refine wpAny_pyIter_slot st.1.ty lI (wpAny_call_entry lI st.1.ty xC ?_ (rP _))
  exact wpAny_pure ⟨_,rfl,"set_iterator",_,st.1.ty,gC.lookup,hQ⟩
theorem Od{A:Around}(hh:A.handled=none)(bt:dR w=false)(g3:o.data= .set es ep t)(g4:t.fits es.size=true)(tk:cT (dR w) t)(pl:t.plain=true\/es.size<=1)(hne:a≠I):
  Walks prog w A I [I,a] [I] es.size (fun i v=>(es.toList.map (·.2))[i]?=some v) (fun i h=>gQ h I a (.int (slotAt t.place i) 0) i es.size ep/\h.get? a=some o) where
 sub:=fun b hb=>by simp at hb;simp[hb]
 frame:=fun i h h' st hk=>by
  obtain⟨⟨oi,h1,h2,h3⟩,h4⟩:=st
  exact⟨⟨oi,hk I (by simp) _ h1,h2,h3⟩,hk a (by simp) _ h4⟩
 item:=fun i s Q E hi st hQ=>by
  have hps:=Dg g4
  have hr:iC t.place:=by
   rcases pl with p|p
   ·exact tk.xJ p
   ·intro i j x y hij ex ey
    have:=(Array.getElem?_eq_some_iff.mp ey).1;omega
  have hlt:i<es.toList.length:=by simpa using hi
  have e1:es[i]?=some es.toList[i]:=by rw[<-Array.getElem?_toList];exact List.getElem?_eq_getElem hlt
  have e2:t.place[i]?=some (t.place.getD i 0):=by rw[Array.getD_eq_getD_getElem?,Array.getElem?_eq_getElem (by omega)];rfl
  refine Cp st.1 st.2 g3 g4 rfl (x:=es.toList[i].2) (nx:=slotAt t.place (i+1)) (fun Q E q=>Dt bt st.2 g3 g4 tk pl (by rw[zB hr (by omega),e1,e2];exact q)) fun h' x1 x2=>?_
  refine hQ _ h' s.toks (by rw[List.getElem?_map,List.getElem?_eq_getElem hlt];rfl) ⟨x1,(x2 a hne).trans st.2⟩ fun b o' hb e=>(x2 b (fun z=>hb (by simp[z]))).trans e
 done:=fun s Q E st hQ=>by
  have hps:=Dg g4
  have hr:iC t.place:=by
   rcases pl with p|p
   ·exact tk.xJ p
   ·intro i j x y hij ex ey
    have:=(Array.getElem?_eq_some_iff.mp ey).1;omega
  refine zH hh st.1 st.2 g3 g4 rfl (fun Q E q=>Dt bt st.2 g3 g4 tk pl (by rw[zB hr (by omega),Array.getElem?_eq_none (Nat.le_refl _)];exact q)) fun h' x1=>hQ h' s.toks fun b o' hb e=>x1 b o' (fun z=>hb (by simp[z])) e
 self:=fun i s Q E st hQ=>by
  refine wpAny_pyIter_slot st.1.ty lI (wpAny_call_entry lI st.1.ty xC ?_ (rP _))
  exact wpAny_pure ⟨_,rfl,"set_iterator",_,st.1.ty,gC.lookup,hQ⟩
theorem Pk{A:Around}{ks:List Nat}(hh:A.handled=none)(g3:o.data= .set es ep t)(g4:t.fits es.size=true)(hk:ks.Perm (List.range es.size))(hne:a≠I)(hnt:tp≠I):
    Walks prog w A I [I,a,tp] [I] es.size (fun i v=>((ks.filterMap (es[·]?)).map (·.2))[i]?=some v) (fun i h=>gQ h I a (.ref tp) i es.size ep/\h.get? a=some o/\∃ot m,h.get? tp=some ot/\ot.data= .seq (ks.map fun(k:Nat)=>rawInt k).toArray m) where
  sub:=fun b hb=>by simp at hb;simp[hb]
  frame:=fun i h h' st hk=>by
    obtain⟨⟨oi,h1,h2,h3⟩,h4,ot,m,h5,h6⟩:=st
    exact⟨⟨oi,hk I (by simp) _ h1,h2,h3⟩,hk a (by simp) _ h4,ot,m,hk tp (by simp) _ h5,h6⟩
  item:=fun i s Q E hi st hQ=>by
    have hlen:ks.length=es.size:=by rw[hk.length_eq];simp
    have hin:∀k∈ks,k<es.size:=fun k m=>by simpa using hk.mem_iff.mp m
    have hi':i<ks.length:=by omega
    have hki:=hin ks[i] (List.getElem_mem hi')
    have e1:es[ks[i]]?=some es[ks[i]]:=Array.getElem?_eq_getElem hki
    have fm:∀(l:List Nat),(∀k∈l,k<es.size)->∀j (hj:j<l.length),(l.filterMap (es[·]?))[j]?=es[l[j]]?:=by
      intro l
      induction l with
      |nil=>intro _ j hj;simp at hj
      | cons b r ih =>
        intro hl j hj
        have hb:=hl b (List.mem_cons_self ..)
        rw[List.filterMap_cons,Array.getElem?_eq_getElem hb]
        cases j with
        |zero=>simp[Array.getElem?_eq_getElem hb]
        |succ j=>simpa using ih (fun k m=>hl k (List.mem_cons_of_mem _ m)) j (by simpa using hj)
    refine QL st.1 st.2.1 g3 g4 rfl st.2.2 (pl:=ks[i]) (hx:=es[ks[i]].1) (x:=es[ks[i]].2) (by simp[List.getElem?_eq_getElem hi',rawInt]) e1 fun h' x1 x2=>?_
    obtain⟨ot,m,t1,t2⟩:=st.2.2
    refine hQ _ h' s.toks ?_ ⟨x1,(x2 a hne).trans st.2.1,ot,m,(x2 tp hnt).trans t1,t2⟩ fun b o' hb e=>(x2 b (fun z=>hb (by simp[z]))).trans e
    rw[List.getElem?_map,fm ks hin i hi',e1];rfl
  done:=fun s Q E st hQ=>by
    have hlen:ks.length=es.size:=by rw[hk.length_eq];simp
    exact Ib hh st.1 st.2.1 g3 g4 rfl st.2.2 (by simp;omega) fun h' x1=>hQ h' s.toks fun b o' hb e=>x1 b o' (fun z=>hb (by simp[z])) e
  self:=fun i s Q E st hQ=>by
    refine wpAny_pyIter_slot st.1.ty lI (wpAny_call_entry lI st.1.ty xC ?_ (rP _))
    exact wpAny_pure ⟨_,rfl,"set_iterator",_,st.1.ty,gC.lookup,hQ⟩
end
section
variable{prog:Program}{w:World}{A:Around}{E:Value->Shared->Prop}{s:Shared}{a:Addr}{o:Obj}{es:Array (Int×Value)}{ep:Nat}{t:SetTable}
theorem Ac{α:Type}:∀l:List α,(List.range l.length).filterMap (fun i=>l[i]?)=l
  |[]=>rfl
  | x :: l => by
    have:=Ac l
    rw[List.length_cons,List.range_succ_eq_map,List.filterMap_cons,List.filterMap_map]
    simpa[Function.comp_def] using this
theorem Le{src:Source}{n:Nat}{Q:Nat->Shared->Prop}(hn:n≠0)(h:∀i d',i<n->Q i {s with drawn:=d'}):wpAny (model prog w) A (choose src n) Q E s:=fun Γ p _=>⟨hn,h _ _ (Nat.mod_lt _ (Nat.pos_of_ne_zero hn))⟩
theorem zf{α:Type}:∀(n:Nat) (xs:List α) (s:Shared) (Q:List α->Shared->Prop),xs.length<=n->(∀ks d',ks.Perm xs->Q ks {s with drawn:=d'})->wpAny (model prog w) A (drawOrder n xs) Q E s
  | 0, xs, s, Q, hl, h => by
    have:xs=[]:=List.length_eq_zero_iff.mp (by omega)
    subst this
    unfold drawOrder
    exact wpAny_pure (h [] s.drawn .nil)
  | n + 1, [], s, Q, hl, h => by
    unfold drawOrder
    exact wpAny_pure (h [] s.drawn .nil)
  | n + 1, x :: xs, s, Q, hl, h => by
    unfold drawOrder
    refine wpAny_bind (Le (by simp) fun i d' hi=>?_)
    rw[List.getElem?_eq_getElem hi]
    dsimp only
    refine wpAny_bind (zf n _ _ _ (by rw[List.length_eraseIdx_of_lt hi];simp at hl⊢;omega) fun ks d2 hk=>?_)
    exact wpAny_pure (h _ d2 ((hk.cons _).trans (yv hi)))
theorem GK(g1:s.heap.get? a=some o)(g3:o.data= .set es ep t)(g4:t.fits es.size=true){Q:Bool->Shared->Prop}(h:Q (!dR w &&(!t.plain && decide (es.size>1))) s):wpAny (model prog w) A (setDrawn a) Q E s:=by
 unfold setDrawn
 refine wpAny_bind (wpAny_setState_of g1 g3 g4 ?_)
 dsimp only
 unfold setsByText
 refine wpAny_bind (wpAny_bind (wpAny_askSetting (wpAny_pure ?_)))
 exact wpAny_pure h
theorem CI(g1:s.heap.get? a=some o)(g3:o.data= .set es ep t)(g4:t.fits es.size=true){Q:Nat->Shared->Prop}(h:Q ep s):wpAny (model prog w) A (setEpoch a) Q E s:=by
 unfold setEpoch
 exact wpAny_bind (wpAny_setState_of g1 g3 g4 (wpAny_pure h))
theorem PD{Q:Value->Shared->Prop}(hb:es.size<scanBound)(g1:s.heap.get? a=some o)(g2:o.ExactSet)(g3:o.data= .set es ep t)(g4:t.fits es.size=true)(tk:cT (dR w) t)
    (hQ:∀(I:Addr) (h':Heap) d' (items:List Value) (fp:List Addr) (St:Nat->Heap->Prop),(∀b o,s.heap.get? b=some o->h'.get? b=some o)->s.heap.objs.size<=I->(∀b∈fp,b=a\/s.heap.objs.size<=b)->I∈fp->(∀b∈fp,b<h'.objs.size)->items.Perm (es.toList.map (·.2))->
      (∀B:Around,B.handled=none->Walks prog w B I fp [I] items.length (fun i v=>items[i]?=some v) St)->St 0 h'->Q (.ref I) {s with heap:=h',drawn:=d'}):wpAny (model prog w) A (pyIter (.ref a)) Q E s:=by
  have hT:s.TypeIs (.ref a) "set":=⟨o,g1,g2.1⟩
  have hlt:=Heap.lt_size g1
  refine wpAny_pyIter_slot hT BW (wpAny_call_entry BW hT JG ?_ (SD _))
  unfold Builtin.«frozenset.__iter__»
  unfold Builtin.Frozenset.slot0 slotArgs
  simp only[List.isEmpty_nil,Bool.not_true,Bool.false_eq_true,↓reduceIte,bind_assoc,List.length_nil,bne_self_eq_false]
  unfold Builtin.Frozenset.addrOf Builtin.Frozenset.sizeOf
  refine wpAny_bind (wpAny_pure ?_)
  try dsimp only
  refine wpAny_bind (wpAny_pure ?_)
  refine wpAny_bind (wpAny_bind (wpAny_setEntries_of g1 g3 g4 (wpAny_pure ?_)))
  refine wpAny_bind (GK g1 g3 g4 ?_)
  by_cases c:(!dR w &&(!t.plain && decide (es.size>1)))=true
  · rw[if_pos c]
    refine wpAny_bind (zf es.size (List.range es.size) s _ (by simp) fun ks d' hk=>?_)
    unfold newTuple
    refine wpAny_bind (wpAny_newObj_type ?_ ?_)
    rotate_left
    · have hk0:ks.length=es.size:=by rw[hk.length_eq];simp
      show(List.map (fun(i:Nat)=>rawInt i) ks).toArray.size<=sizeLine
      rw[List.size_toArray,List.length_map,hk0]
      exact fits_of_scanBound hb
    have mh:=Heap.get?_push_of_some ({cls:= .type "tuple",data:= .seq (ks.map fun(i:Nat)=>rawInt i).toArray}:Obj) g1
    refine wpAny_bind (CI (s:={s with heap:=_,drawn:=d'}) mh g3 g4 ?_)
    unfold newFields
    refine wpAny_bind (wpAny_newObj_type ?_)
    have hk0:ks.length=es.size:=by rw[hk.length_eq];simp
    have fin:=hQ
    clear hQ
    have jd:(s.heap.push ({cls:= .type "tuple",data:= .seq (ks.map fun(i:Nat)=>rawInt i).toArray}:Obj)).objs.size=s.heap.objs.size+1:=Heap.size_push ..
    have gT:(s.heap.push ({cls:= .type "tuple",data:= .seq (ks.map fun(i:Nat)=>rawInt i).toArray}:Obj)).get? s.heap.objs.size=some {cls:= .type "tuple",data:= .seq (ks.map fun(i:Nat)=>rawInt i).toArray}:=Heap.get?_push_size _ rfl
    have gO:∀b o,s.heap.get? b=some o->(s.heap.push ({cls:= .type "tuple",data:= .seq (ks.map fun(i:Nat)=>rawInt i).toArray}:Obj)).get? b=some o:=fun b o e=>Heap.get?_push_of_some _ e
    generalize Kl:s.heap.push ({cls:= .type "tuple",data:= .seq (ks.map fun(i:Nat)=>rawInt i).toArray}:Obj)=h1 at mh jd gT gO⊢
    have gI:(h1.push ({cls:= .type "set_iterator",data:= .fields #[.ref s.heap.objs.size,rawInt 0, .ref a,rawInt es.size,rawInt ep]}:Obj)).get? h1.objs.size=some {cls:= .type "set_iterator",data:= .fields #[.ref s.heap.objs.size,rawInt 0, .ref a,rawInt es.size,rawInt ep]}:=Heap.get?_push_size _ rfl
    have gS:=Heap.get?_push_of_some ({cls:= .type "set_iterator",data:= .fields #[.ref s.heap.objs.size,rawInt 0, .ref a,rawInt es.size,rawInt ep]}:Obj) mh
    have HJ:=Heap.get?_push_of_some ({cls:= .type "set_iterator",data:= .fields #[.ref s.heap.objs.size,rawInt 0, .ref a,rawInt es.size,rawInt ep]}:Obj) gT
    have Rn:(h1.push ({cls:= .type "set_iterator",data:= .fields #[.ref s.heap.objs.size,rawInt 0, .ref a,rawInt es.size,rawInt ep]}:Obj)).objs.size=h1.objs.size+1:=Heap.size_push ..
    subst Kl
    refine wpAny_pure ⟨_,rfl,"set_iterator",_,⟨_,gI,rfl⟩,gC.lookup,?_⟩
    have pp:(ks.filterMap (es[·]?)).Perm es.toList:=by
      have:=hk.filterMap (es[·]?)
      have e:(List.range es.size).filterMap (es[·]?)=es.toList:=by
        have:=Ac es.toList
        simpa using this
      rwa[e] at this
    have hn:((ks.filterMap (es[·]?)).map (·.2)).length=es.size:=by rw[List.length_map,pp.length_eq];simp
    have mT:=Nat.lt_of_lt_of_eq (Nat.lt_succ_self s.heap.objs.size) jd.symm
    refine fin _ _ d' ((ks.filterMap (es[·]?)).map (·.2)) [_,a,s.heap.objs.size] _ (fun b o e=>Heap.get?_push_of_some _ (gO b o e)) (Nat.le_of_lt mT) (fun b m=>?_) (List.mem_cons_self ..) (fun b m=>?_) (pp.map _) (fun B hB=>by rw[hn];exact Pk hB g3 g4 hk (Nat.ne_of_lt (Nat.lt_trans hlt mT)) (Nat.ne_of_lt mT)) ?_
    · rcases List.mem_cons.mp m with e|m
      · exact .inr (by rw[e];exact Nat.le_of_lt mT)
      · rcases List.mem_cons.mp m with e|m
        · exact .inl e
        · exact .inr (Nat.le_of_eq (List.mem_singleton.mp m).symm)
    · refine Nat.lt_of_lt_of_eq ?_ Rn.symm
      rcases List.mem_cons.mp m with e|m
      · rw[e];exact Nat.lt_succ_self _
      · rcases List.mem_cons.mp m with e|m
        · rw[e];exact Nat.lt_succ_of_lt (Nat.lt_trans hlt mT)
        · rw[List.mem_singleton.mp m];exact Nat.lt_succ_of_lt mT
    · exact⟨⟨_,gI,rfl,rfl⟩,gS,_,_,HJ,rfl⟩
  · rw[if_neg c]
    refine wpAny_bind (wpAny_pure ?_)
    refine wpAny_bind (CI g1 g3 g4 ?_)
    unfold newFields
    refine wpAny_bind (wpAny_newObj_type ?_)
    have gI:(s.heap.push ({cls:= .type "set_iterator",data:= .fields #[rawInt 0,rawInt 0, .ref a,rawInt es.size,rawInt ep]}:Obj)).get? s.heap.objs.size=some {cls:= .type "set_iterator",data:= .fields #[rawInt 0,rawInt 0, .ref a,rawInt es.size,rawInt ep]}:=Heap.get?_push_size _ rfl
    have gS:=Heap.get?_push_of_some ({cls:= .type "set_iterator",data:= .fields #[rawInt 0,rawInt 0, .ref a,rawInt es.size,rawInt ep]}:Obj) g1
    have hfp:∀b∈[s.heap.objs.size,a],b=a\/s.heap.objs.size<=b:=fun b m=>by
      rcases List.mem_cons.mp m with e|m
      · exact .inr (Nat.le_of_eq e.symm)
      · exact .inl (List.mem_singleton.mp m)
    have hsz:(s.heap.push ({cls:= .type "set_iterator",data:= .fields #[rawInt 0,rawInt 0, .ref a,rawInt es.size,rawInt ep]}:Obj)).objs.size=s.heap.objs.size+1:=Heap.size_push ..
    have CT:∀b∈[s.heap.objs.size,a],b<(s.heap.push ({cls:= .type "set_iterator",data:= .fields #[rawInt 0,rawInt 0, .ref a,rawInt es.size,rawInt ep]}:Obj)).objs.size:=fun b m=>by
      rw[hsz]
      rcases List.mem_cons.mp m with e|m
      · rw[e];exact Nat.lt_succ_self _
      · rw[List.mem_singleton.mp m];exact Nat.lt_succ_of_lt hlt
    refine wpAny_pure ⟨_,rfl,"set_iterator",_,⟨_,gI,rfl⟩,gC.lookup,?_⟩
    cases bt:dR w with
    | true =>
      have pp:(pickOrder (w.params.setOrder a ep) es).toList.Perm es.toList:=by simpa[pickOrder] using uQ (w.params.setOrder a ep) es.size 0 es.toList #[] (by simp)
      have hn:((pickOrder (w.params.setOrder a ep) es).toList.map (·.2)).length=es.size:=by rw[List.length_map,pp.length_eq];simp
      refine hQ _ _ s.drawn ((pickOrder (w.params.setOrder a ep) es).toList.map (·.2)) [s.heap.objs.size,a] _ (fun b o e=>Heap.get?_push_of_some _ e) (Nat.le_refl _) hfp (by simp) CT (pp.map _) (fun B hB=>by rw[hn];exact Qm hB bt g3 g4 (Nat.ne_of_lt hlt)) ?_
      exact⟨⟨_,gI,rfl,rfl⟩,gS⟩
    | false =>
      have pl:t.plain=true\/es.size<=1:=by
        rw[bt,Bool.not_false,Bool.true_and] at c
        cases hp:t.plain with
        |true=>exact .inl rfl
        | false =>
          rw[hp,Bool.not_false,Bool.true_and,decide_eq_true_eq] at c
          exact .inr (by omega)
      have hn:(es.toList.map (·.2)).length=es.size:=by simp
      refine hQ _ _ s.drawn (es.toList.map (·.2)) [s.heap.objs.size,a] _ (fun b o e=>Heap.get?_push_of_some _ e) (Nat.le_refl _) hfp (by simp) CT (.refl _) (fun B hB=>by rw[hn];exact Od hB bt g3 g4 tk pl (Nat.ne_of_lt hlt)) ?_
      exact⟨⟨_,gI,rfl,rfl⟩,gS⟩
end
end L2
set_option maxRecDepth 100000
set_option maxHeartbeats 4000000
namespace L2
open PySem PySem.Spec PyProof.Rows
section
variable{prog:Program}{w:World}{A:Around}{E:Value->Shared->Prop}{s:Shared}{a:Addr}{o:Obj}{es:Array (Int×Value)}{ep:Nat}{t:SetTable}
theorem N9{Q:Bool->Shared->Prop}(hT:s.TypeIs (.ref a) "set")(h:Q false s):wpAny (model prog w) A (Builtin.List.listLengthHint (.ref a)) Q E s:=by
 unfold Builtin.List.listLengthHint
 refine wpAny_bind (wpAny_specialOf hT PySem.F.slot_set_len.lookup ?_)
 generalize hid:("set.__len__":String)=id0
 wp_delta
 rw[show splitId id0=some ("set","__len__") from by subst hid;decide+kernel]
 subst hid
 refine wpAny_bind (wpAny_isInstance (b:=true) (T:="set") hT (by rw[isSubtype_type];kernel_rfl) ?_)
 refine wpAny_ite_split (fun z=>absurd z (by decide)) fun _=>wpAny_ite_split (fun _=>?_) fun z=>absurd (by decide+kernel) z
 exact wpAny_bind (wpAny_typeOf hT (wpAny_pure h))
theorem Gk{items:List Value}{acc:Array Value}(h:ItemsOf (fun i v=>items[i]?=some v) acc items.length):acc.toList=items:=by
 apply List.ext_getElem?
 intro i
 by_cases hi:i<acc.size
 ·have e:acc[i]?=some acc[i]:=Array.getElem?_eq_getElem hi
  rw[Array.getElem?_toList,e,h.2 i _ e]
 ·have:=h.1
  rw[List.getElem?_eq_none (by simp;omega),List.getElem?_eq_none (by omega)]
theorem RK{Q:List Value->Shared->Prop}(hh:A.handled=none)(hb:es.size<scanBound)(g1:s.heap.get? a=some o)(g2:o.ExactSet)(g3:o.data= .set es ep t)(g4:t.fits es.size=true)(tk:cT (dR w) t)
  (hQ:∀h' d' tk' items,(∀b o,s.heap.get? b=some o->h'.get? b=some o)->s.heap.objs.size<=h'.objs.size->items.Perm (es.toList.map (·.2))->Q items {s with heap:=h',drawn:=d',toks:=tk'}):wpAny (model prog w) A (collect (.ref a)) Q E s:=by
 have hlt:=Heap.lt_size g1
 unfold collect
 refine wpAny_bind (wpAny_runValue (codeAny_builtin PySem.F.entry_proto_collect ?_))
 rw[Around.under_plainId PySem.F.plain_proto_collect _]
 show wpAny _ A.in1 (newList []>>=fun l=>again (.builtin "list.__iadd__" ⟨[l, .ref a],[]⟩)) _ _ s
 refine wpAny_bind (wpAny_newObj_type ?_)
 refine wpAny_pure ⟨plainId_quiet PySem.F.plain_list_iadd _,codeAny_builtin PySem.F.entry_list_iadd ?_⟩
 rw[Around.under_plainId PySem.F.plain_list_iadd _]
 have gL:(s.heap.push ({cls:= .type "list",data:= .seq ([]:List Value).toArray}:Obj)).get? s.heap.objs.size=some {cls:= .type "list",data:= .seq ([]:List Value).toArray}:=Heap.get?_push_size _ rfl
 have gA:=Heap.get?_push_of_some ({cls:= .type "list",data:= .seq ([]:List Value).toArray}:Obj) g1
 have CU:(s.heap.push ({cls:= .type "list",data:= .seq ([]:List Value).toArray}:Obj)).objs.size=s.heap.objs.size+1:=Heap.size_push ..
 show wpAny _ A.in1 (Builtin.List.listExtendWith (.ref s.heap.objs.size) (.ref a) (.ref s.heap.objs.size)) _ _ {s with heap:=s.heap.push ({cls:= .type "list",data:= .seq ([]:List Value).toArray}:Obj)}
 have hkeep:∀b o,s.heap.get? b=some o->(s.heap.push ({cls:= .type "list",data:= .seq ([]:List Value).toArray}:Obj)).get? b=some o:=fun b o e=>Heap.get?_push_of_some _ e
 generalize s.heap.push ({cls:= .type "list",data:= .seq ([]:List Value).toArray}:Obj)=h1 at gL gA CU hkeep⊢
 unfold Builtin.List.listExtendWith
 refine wpAny_bind (wpAny_typeOf (T:="set") ⟨o,gA,g2.1⟩ ?_)
 have n1:Builtin.List.listSameRef (.ref s.heap.objs.size) (.ref a)=false:=by
  show(s.heap.objs.size==a)=false
  exact beq_eq_false_iff_ne.mpr (Nat.ne_of_gt hlt)
 have n2:(Value.type "set"==Value.type "list")=false:=by decide
 have n3:(Value.type "set"==Value.type "tuple")=false:=by decide
 simp only[n1,n2,n3,Bool.or_false,Bool.false_eq_true,if_false]
 refine wpAny_bind (PD (s:={s with heap:=h1}) hb gA g2 g3 g4 tk fun I h2 d' items fp St k1 k2 k3 k4 k5 pp W st=>?_)
 have Nr:=k1 _ _ gA
 have vF:=k1 _ _ gL
 refine wpAny_bind (wpAny_holding (N9 (s:={s with heap:=h2,drawn:=d'}) ⟨o,Nr,g2.1⟩ ?_))
 have lS:s.heap.objs.size<h1.objs.size:=Nat.lt_of_lt_of_eq (Nat.lt_succ_self _) CU.symm
 have nS:s.heap.objs.size∉fp:=fun m=>by
  rcases k3 _ m with e|e
  ·exact absurd e (Nat.ne_of_gt hlt)
  ·exact absurd (Nat.lt_of_lt_of_le lS e) (Nat.lt_irrefl _)
 have hil:items.length<=sizeLine:=by
  rw[pp.length_eq,List.length_map,Array.length_toList];exact fits_of_scanBound hb
 have key:∀(h3:Heap) (c:Nat),St 0 h3->(∀b o,b≠s.heap.objs.size->h2.get? b=some o->h3.get? b=some o)->h3.get? s.heap.objs.size=some {cls:= .type "list",data:= .seq #[] c}->
   codeAny (model prog w) A (.builtin "list.extend.loop" ⟨[.ref s.heap.objs.size, .ref I, .ref s.heap.objs.size],[]⟩) (fun r s'=>match r with
    | .ok (.ret v)=>wpAny (model prog w) A (match v with| .ref x=>(do match(<-load x).data with| .seq xs _=>pure xs.toList|_=>unsupported "internal:collect")|_=>unsupported "internal:collect") Q E s'
    | .ok _=>False
    | .error e=>E e s') {s with heap:=h3,drawn:=d'}:=by
  intro h3 c st3 q1 q2
  refine codeAny_extend_loopS ((W A.in1 hh).toS) hil _ nS _ items.length 0 _ #[] c rfl (Nat.zero_le _) st3 q2 (ItemsOf.nil _) fun s' acc c' mo q3 q4=>?_
  refine wpAny_bind (wpAny_load q3 (wpAny_pure ?_))
  rw[Gk q4,Moved.eq_with mo]
  refine hQ s'.heap d' s'.toks items (fun b o e=>?_) ?_ pp
  ·have nb:b≠s.heap.objs.size:=Nat.ne_of_lt (Heap.lt_size e)
   refine mo.heap b o (fun m=>?_) (q1 b o nb (k1 b o (hkeep b o e)))
   rcases List.mem_cons.mp m with z|z
   ·exact nb z
   ·have z:=List.mem_singleton.mp z
    rw[z] at e
    exact absurd (Nat.lt_of_lt_of_le (Nat.lt_trans (Heap.lt_size e) lS) k2) (Nat.lt_irrefl _)
  ·exact Nat.le_of_lt (Heap.lt_size q3)
 refine wpAny_ite_split (fun _=>?_) fun _=>wpAny_pure ⟨plainId_quiet PySem.F.plain_extend_loop _,key h2 _ st (fun _ _ _ e=>e) vF⟩
 refine wpAny_bind (wpAny_rule (wpAny_bind ?_))
 show wpAny _ A.in1 (updateSeq s.heap.objs.size (·.push .none)>>=fun _=>updateSeq s.heap.objs.size (·.pop)) _ _ _
 have u1:=Heap.get?_update_self (Obj.mapSeq (·.push Value.none)) vF rfl
 have u2:=Heap.get?_update_self (Obj.mapSeq (·.pop)) u1 rfl
 refine wpAny_bind (wpAny_updateSeq vF rfl (wpAny_updateSeq (hz:=by seq_fits) u1 rfl ?_))
 have zb:∀b o,b≠s.heap.objs.size->h2.get? b=some o->((h2.update s.heap.objs.size (Obj.mapSeq (·.push Value.none))).update s.heap.objs.size (Obj.mapSeq (·.pop))).get? b=some o:=fun b o nb e=>(Heap.get?_update_other _ _ (Ne.symm nb)).trans ((Heap.get?_update_other _ _ (Ne.symm nb)).trans e)
 exact wpAny_pure ⟨plainId_quiet PySem.F.plain_extend_loop _,key _ _ ((W A.in1 hh).frame 0 _ _ st fun b m o e=>zb b o (fun z=>nS (z▸m)) e) zb u2⟩
theorem AH{ks:List Int->Prop}:∀{vs:List Value},(∀v∈vs,∃k t,v= .int k t)->∃ns,IntsAre vs ns
  |[],_=>⟨[], .nil⟩
  | v :: vs, h => by
    obtain⟨k,t,rfl⟩:=h v (List.mem_cons_self ..)
    obtain⟨ns,hn⟩:=AH (ks:=ks) fun v m=>h v (List.mem_cons_of_mem _ m)
    exact⟨k::ns, .cons k t hn⟩
theorem Bs:∀{vs:List Value} {ns:List Int},IntsAre vs ns->∀k,k∈ns↔∃t, .int k t∈vs
  |_,_, .nil,k=>by simp
  | _, _, .cons j t h, k => by
    rw[List.mem_cons,Bs h k]
    constructor
    · rintro(rfl|⟨t',m⟩)
      · exact⟨_,List.mem_cons_self ..⟩
      · exact⟨t',List.mem_cons_of_mem _ m⟩
    · rintro⟨t',m⟩
      rcases List.mem_cons.mp m with e|m
      · cases e;exact .inl rfl
      · exact .inr ⟨t',m⟩
theorem K7{S:Int->Bool}{n:Nat}{Q:Value->Shared->Prop}(hh:A.handled=none)(hS:s.heap.SetOf (IK prog w) a S n)(hT:eH (dR w) s.heap a)(h64:n<64)
  (h : ∀ h' d' tk' (l : Addr) (out : List Value) (ns : List Int) (e : Nat), (∀ b o, s.heap.get? b = some o -> h'.get? b = some o) -> s.heap.objs.size <= l -> h'.get? l = some (seqObj "list" out.toArray e) -> IntsAre out ns -> ns.Pairwise (· <= ·) -> (∀ k, S k = true ↔ k ∈ ns) -> ns.length = n ->
   Q (.ref l) {s with heap:=h',drawn:=d',toks:=tk'}):wpAny (model prog w) A (call (.builtin "sorted") [.ref a]) Q E s:=by
 obtain⟨o,es,ep,t,g1,g2,g3,l1,l2,l3,l4,sz⟩:=hS
 refine Calls.call_function_entry kind_sorted plain_sorted entry_sorted (args_sorted1 _) ?_
 unfold Builtin.«sorted»
 refine wpAny_bind (m:=checkCount "sorted" 1 1 _) (wpAny_pure (wpAny_bind ?_))
 refine RK (A:=A.in1) hh l3 g1 g2 g3 l4 (hT o es ep t g1 g3) fun h1 d1 EJ items k1 k2 pp=>?_
 have hint:∀v∈items,∃k t,v= .int k t:=fun v m=>by
  obtain⟨e,m',rfl⟩:=List.mem_map.mp (pp.mem_iff.mp m)
  obtain⟨⟨k,hk,_⟩,_⟩:=l1 e m'
  obtain⟨t,ht⟩:=Value.isInt_shape hk
  exact⟨k,t,ht⟩
 obtain⟨ns,hI⟩:=AH (ks:=fun _=>True) hint
 have hlen:items.length=n:=by rw[pp.length_eq,List.length_map,Array.length_toList,sz]
 refine wpAny_bind (wpAny_newList ?_)
 have gL:(h1.push (seqObj "list" items.toArray 0)).get? h1.objs.size=some (seqObj "list" items.toArray 0):=Heap.get?_push_size _ rfl
 refine wpAny_bind (wpAny_holding (wpAny_call_entry slot_list_sort ⟨_,gL,rfl⟩ entry_list_sort (list_sort_tree gL hI (by omega) fun out ns' a1 a2 a3=>⟨_,rfl,?_⟩) (args_list_sort _)))
 obtain⟨e,he⟩:=sortedHeap_at (out:=out) gL
 refine wpAny_pure ⟨_,rfl,h _ d1 EJ h1.objs.size out.toList ns' e (fun b o q=>?_) k2 (by simpa using he) a1 a3 (fun k=>?_) ?_⟩
 ·have lb:=Heap.lt_size (k1 b o q)
  rw[sortedHeap_old (Nat.ne_of_lt lb) (by rw[Heap.size_push];exact Nat.lt_succ_of_lt lb)]
  exact Heap.get?_push_of_some _ (k1 b o q)
 ·rw[a2.mem_iff,Bs hI,l2 k]
  constructor
  ·rintro⟨e,m,q⟩
   obtain⟨t,ht⟩:=Value.isInt_shape q
   exact⟨t,pp.mem_iff.mpr (ht▸List.mem_map.mpr ⟨e,m,rfl⟩)⟩
  ·rintro⟨t,m⟩
   obtain⟨e,m',q⟩:=List.mem_map.mp (pp.mem_iff.mp m)
   exact⟨e,m',by rw[q];exact intKind_is _ _ _ _⟩
 ·rw[a2.length_eq,<-hI.length,hlen]
end
end L2
set_option maxRecDepth 100000
set_option maxHeartbeats 4000000
namespace L2
open PySem PySem.Spec PyProof.Rows
def oR(P:Program)(w:World)(a:Addr)(S:Int->Bool)(n:Nat):HO:= .ext fun h=>h.SetOf (IK P w) a S n/\eH (dR w) h a
theorem Inv.dr{X:Cx}{pins:List (Addr×Obj)}{σ:St}{H:Hp}{s:Shared}(I:Inv X pins σ H s)(d:Drawn):Inv X pins σ H {s with drawn:=d}:=
 ⟨I.ok,I.os,I.bare,I.base,I.loc,I.cell,I.free,I.gv,I.pin,I.hok,I.len⟩
theorem uI:∀{ns:List Int} {us:List Value},Vals (ns.map V.int) us->IntsAre us ns
  |[],_, .nil=> .nil
  | n :: ns, _, .cons r t => by
    obtain⟨k,rfl⟩:=r
    exact .cons n k (uI t)
theorem DL:∀{us:List Value} {ns:List Int},IntsAre us ns->Vals (ns.map V.int) us
 |_,_, .nil=> .nil
 |_,_, .cons k t h=> .cons ⟨t,rfl⟩ (DL h)
theorem KN{σ:List Int}{k:Int}(h:σ.Nodup):(step_dedup σ k).Nodup:=by
 unfold step_dedup
 split
 ·exact h
 ·rename_i q
  rw[List.nodup_append]
  refine⟨h,by simp,fun x hx y hy=>?_⟩
  rw[List.mem_singleton.mp hy]
  intro e
  subst e
  exact q (by simp[hx])
theorem DG(val:Nat->Int):∀i,(firstMet val i).Nodup
 |0=>List.nodup_nil
 |i+1=>by rw[firstMet_succ];exact KN (DG val i)
theorem B7:∀{ds ns:List Int},ds.Nodup->(∀k∈ds,k∈ns)->ns.length<=ds.length->ds.Perm ns
  | [], ns, _, _, hl => by
    have:ns=[]:=List.length_eq_zero_iff.mp (by simpa using hl)
    rw[this]
  | d :: ds, ns, hd, hs, hl => by
    have hm:=hs d (List.mem_cons_self ..)
    obtain⟨h1,h2⟩:=List.nodup_cons.mp hd
    have hp:=List.perm_cons_erase hm
    refine(List.Perm.cons d (B7 h2 (fun k hk=>?_) ?_)).trans hp.symm
    · rcases List.mem_cons.mp (hp.mem_iff.mp (hs k (List.mem_cons_of_mem _ hk))) with e|e
      · subst e;exact absurd hk h1
      · exact e
    · have:=hp.length_eq;simp at this hl⊢;omega
def rB(P:Program)(w:World)(K:PySem.W.Frag):List V->Hp->VK->Prop:=fun xs H Q=>∃p,∃ns:List Int,xs=[.ref p]/\aM K H p (ns.map V.int)/\ns.length<=4000/\∀a (ms:List Int),H a=none->ms.Nodup->(∀k,k∈ms↔k∈ns)->Q (.ref a) (upd H a (oR P w a (fun k=>ms.any (· ==k)) ms.length))
def rM(P:Program)(w:World):List V->Hp->VK->Prop:=fun xs H Q=>∃a,∃ms:List Int,xs=[.ref a]/\H a=some (oR P w a (fun k=>ms.any (· ==k)) ms.length)/\ms.Nodup/\ms.length<64/\
 ∀l (rs:List Int),H l=none->rs.Pairwise (· < ·)->(∀k,k∈rs↔k∈ms)->Q (.ref l) (upd H l (.lst (rs.map V.int)))
section
variable{X:Cx}
theorem zA(hc:X.calm=true):dG X (.type "set") (rB X.prog X.w X.K):=by
 intro pins s σ H xs us Q I rv h
 obtain⟨p,ns,rfl,hp,hn,q⟩:=h
 obtain⟨u,rfl,ru⟩:=vals1 rv
 cases ru
 obtain⟨its,rs,il,hz⟩:=I.list hp
 have hI:=uI rs
 have hlen:=hI.length
 refine Jq (I.ok.hd hc) il.isList (by simpa using hI) (by rw[List.size_toArray];unfold scanBound;omega) fun h' tk q1 q2 q3=>?_
 have hmem:∀k,k∈firstMet (fun i=>ns.getD i 0) its.toArray.size↔k∈ns:=fun k=>by
  have e:=firstMet_any (fun i=>ns.getD i 0) its.toArray.size k
  have e2:(List.range its.toArray.size).map (fun i=>ns.getD i 0)=ns:=by
   rw[List.size_toArray,hlen]
   apply List.ext_getElem
   ·simp
   ·intro i h1 h2
    simp[List.getD_eq_getElem?_getD,List.getElem?_eq_getElem h2]
  rw[e2] at e
  have a1:∀(l:List Int),(l.any (· ==k))=true↔k∈l:=fun l=>by
   rw[List.any_eq_true]
   exact⟨fun⟨x,m,z⟩=>(beq_iff_eq.mp z)▸m,fun m=>⟨k,m,beq_self_eq_true _⟩⟩
  rw[<-a1,<-a1,e]
 have kp:∀b u,s.heap.get? b=some u->h'.get? b=some u:=fun b u e=>q3 b u (Heap.lt_size e) e
 have new:aV X.prog X.w (upd H s.heap.objs.size (oR X.prog X.w s.heap.objs.size (fun k=>(firstMet (fun i=>ns.getD i 0) its.toArray.size).any (· ==k)) (firstMet (fun i=>ns.getD i 0) its.toArray.size).length)) h' s.heap.objs.size (oR X.prog X.w s.heap.objs.size (fun k=>(firstMet (fun i=>ns.getD i 0) its.toArray.size).any (· ==k)) (firstMet (fun i=>ns.getD i 0) its.toArray.size).length):=by
  refine⟨⟨q1,q2⟩,?_,fun h1 h2 z k=>?_⟩
  ·obtain⟨o,_,_,_,ho,_⟩:=q1;exact⟨o,ho⟩
  ·obtain⟨⟨o,es,ep,t,ho,r⟩,tt⟩:=z
   exact⟨⟨o,es,ep,t,k o ho,r⟩,tt.keep ho (k o ho)⟩
 exact⟨.ref s.heap.objs.size,_,I.laid (t':=tk) kp (Nat.le_refl _) new,rfl,q _ _ (I.hok.fresh (Nat.le_refl _)) (DG _ _) hmem⟩
theorem Ae(hc:X.calm=true):dG X (.builtin "sorted") (rM X.prog X.w):=by
 intro pins s σ H xs us Q I rv h
 obtain⟨a,ms,rfl,hH,nd,h64,q⟩:=h
 obtain⟨u,rfl,ru⟩:=vals1 rv
 cases ru
 obtain⟨⟨q1,q2⟩,_,_⟩:=I.hok a _ hH
 refine K7 (I.ok.hd hc) q1 q2 h64 fun h' d' tk' l out ns e kp hl gl hI pw hm hn=>?_
 have a1:∀k,(ms.any (· ==k))=true↔k∈ms:=fun k=>by
  rw[List.any_eq_true]
  exact⟨fun⟨x,m,z⟩=>(beq_iff_eq.mp z)▸m,fun m=>⟨k,m,beq_self_eq_true _⟩⟩
 have hm':∀k,k∈ns↔k∈ms:=fun k=>by rw[<-hm k,a1]
 have pp:=B7 nd (fun k m=>(hm' k).mpr m) (Nat.le_of_eq hn)
 have GF:ns.Nodup:=pp.nodup_iff.mp nd
 have lt:ns.Pairwise (· < ·):=by
  have:=pw.and GF
  exact this.imp fun⟨x,y⟩=>by omega
 have new:aV X.prog X.w (upd H l (.lst (ns.map V.int))) h' l (.lst (ns.map V.int)):=by
  refine⟨?_,out,e,DL hI,gl⟩
  rw[List.length_map,hn];exact Nat.le_trans (Nat.le_of_lt h64) (by decide)
 exact⟨.ref l,_,(I.laid (t':=tk') kp hl new).dr d',rfl,q _ _ (I.hok.fresh hl) lt hm'⟩
end
theorem ay.Ex{G:Gx}{ρ:Rh}{te:TE}{P:Program}{w:World}{K:PySem.W.Frag}{Θ:Bool->List PyData->Prop}(h:Ev G ρ te fun _ x=>∃ns:List Int,x= .list (ns.map .int)/\ns.length<64/\∀rs:List Int,rs.Pairwise (· < ·)->(∀k,k∈rs↔k∈ns)->Θ true (rs.map .int)):
  ay G ρ (dQ (rM P w) (aQ (dQ (rB P w K) (aQ te bw)) bw)) Θ:=fun nb σ H Q W z=>
 h nb σ H _ W fun f v H1 x ⟨ns,ex,hn,q⟩ s1 hv=>by
  subst ex
  obtain⟨a,xs,rfl,na,hx,hd⟩:=hv.cU
  have e:=mG hd
  subst e
  refine⟨a,ns,rfl, .of hx,by omega,fun b ms hb nd hm=>?_⟩
  have hms:ms.length<=ns.length:=List.Nodup.length_le_of_subset nd fun k m=>(hm k).mp m
  refine⟨b,ms,rfl,aL,nd,by omega,fun l rs hl lt hm'=>?_⟩
  have s2:Step G.B H1 (upd H1 b (oR P w b (fun k=>ms.any (· ==k)) ms.length)):= .same s1.2 (cz hb)
  exact ay.fin (f:=true) W (s1.trans s2) hl (sV rs) (q rs lt fun k=>(hm' k).trans (hm k)) z
end L2
set_option maxRecDepth 100000
set_option maxHeartbeats 4000000
set_option maxRecDepth 100000
set_option maxHeartbeats 4000000
set_option maxRecDepth 100000
set_option maxHeartbeats 4000000
set_option maxRecDepth 100000
set_option maxHeartbeats 4000000
set_option maxRecDepth 100000
set_option maxHeartbeats 4000000
set_option maxRecDepth 100000
set_option maxHeartbeats 4000000
namespace L2
open PySem PySem.Spec PyProof.Rows
def kd(x:Keyed):Int:=match x.1 with| .int n _=>n|_=>0
end L2
set_option maxRecDepth 100000
set_option maxHeartbeats 4000000
set_option maxRecDepth 100000
set_option maxHeartbeats 4000000
set_option maxRecDepth 100000
set_option maxHeartbeats 4000000
set_option maxRecDepth 100000
set_option maxHeartbeats 4000000
set_option maxRecDepth 100000
set_option maxHeartbeats 4000000
set_option maxRecDepth 100000
set_option maxHeartbeats 4000000
namespace L2
open PySem PySem.Spec PyProof.Rows
def Du:List V->Hp->VK->Prop:=fun xs H Q=>∃j:Int,xs=[.int j]/\∀a,H a=none->Q (.ref a) (upd H a (.jD 0 j))
def Ew:List V->Hp->VK->Prop:=fun xs H Q=>∃(a:Addr) (lo hi:Int),xs=[.ref a]/\H a=some (.jD lo hi)/\(-10000<=lo/\lo<=10000/\ -10000<=hi/\hi<=10000)/\∀l,H l=none->Q (.ref l) (upd H l (.lst (((List.range (hi-lo).toNat).map fun(i:Nat)=>lo+(i:Int)).map V.int)))
def nW(K:PySem.W.Frag):List V->Hp->VK->Prop:=fun xs H Q=>∃p,∃ns:List Int,xs=[.ref p]/\aM K H p (ns.map V.int)/\Q (.int ns.sum) H
def tK(K:PySem.W.Frag):List V->Hp->VK->Prop:=fun xs H Q=>∃p,∃bs:List Bool,xs=[.ref p]/\aM K H p (bs.map V.bl)/\Q (.bl (bs.all id)) H
section
variable{X:Cx}
theorem Gj:dG X (.type "range") Du:=by
 intro pins s σ H xs us Q I rv h
 obtain⟨j,rfl,q⟩:=h
 obtain⟨u,rfl,ru⟩:=vals1 rv
 obtain⟨t,rfl⟩:=ru
 refine call_range_1 ?_
 exact⟨.ref s.heap.objs.size,_,I.laid (t':=s.toks+1+1) (o:= .jD 0 j) (fun b o e=>Heap.get?_push_of_some _ e) (Nat.le_refl _) ⟨_,_,_,Heap.get?_push_size _ rfl⟩,rfl,q _ (I.hok.fresh (Nat.le_refl _))⟩
theorem QW(hc:X.calm=true):dG X (.type "list") Ew:=by
  intro pins s σ H xs us Q I rv h
  obtain⟨a,lo,hi,rfl,hH,hb,q⟩:=h
  obtain⟨u,rfl,ru⟩:=vals1 rv
  cases ru
  obtain⟨t,u,v,e⟩:=(show aV X.prog X.w H s.heap a (.jD lo hi) from I.hok a _ hH)
  refine call_list_range (n:=(hi-lo).toNat) (I.ok.hd hc) (show IsRange s.heap a lo hi 1 t u v from e) (small_one (by omega) (by omega) (by omega) (by omega)) (rangeSize_nat lo hi) (by omega) fun h' tk acc c' kp hl hi'=>?_
  have vv:Vals (((List.range (hi-lo).toNat).map fun(i:Nat)=>lo+(i:Int)).map V.int) acc.toList:=by
    have key:∀(n:Nat) (l:List Value),l.length=n->∀b:Int,(∀(j:Nat) (v:Value),l[j]?=some v->∃t,v=Value.int (b+(j:Int)) t)->Vals (((List.range n).map fun(i:Nat)=>b+(i:Int)).map V.int) l:=by
      intro n
      induction n with
      |zero=>intro l hl b _;rw[List.length_eq_zero_iff.mp hl];exact .nil
      | succ n ih =>
        intro l hl b hv
        cases l with
        |nil=>cases hl
        | cons x r =>
          obtain⟨t,e⟩:=hv 0 x rfl
          rw[List.range_succ_eq_map,List.map_cons,List.map_cons]
          refine .cons ⟨t,by simpa using e⟩ ?_
          have:=ih r (by simpa using hl) (b+1) (fun j v e=>by
            obtain⟨t,z⟩:=hv (j+1) v (by simpa using e)
            exact⟨t,by rw[z];congr 1;omega⟩)
          rw[List.map_map] at this⊢
          rw[List.map_map]
          have e:∀i:Nat,((V.int∘fun(i:Nat)=>b+(i:Int))∘Nat.succ) i=(V.int∘fun(i:Nat)=>b+1+(i:Int)) i:=fun i=>by
            show V.int (b+((i+1:Nat):Int))=V.int (b+1+(i:Int));congr 1;omega
          rw[List.map_congr_left fun i _=>e i]
          exact this
    refine key _ _ (by rw[Array.length_toList];exact hi'.1) lo fun j v e=>?_
    obtain⟨t,z⟩:=hi'.2 j v (by rw[<-Array.getElem?_toList];exact e)
    exact⟨t,by rw[z];congr 1;omega⟩
  refine⟨.ref s.heap.objs.size,_,I.laid (t':=tk) (o:= .lst (((List.range (hi-lo).toNat).map fun(i:Nat)=>lo+(i:Int)).map V.int)) kp (Nat.le_refl _) ⟨?_,acc.toList,c',vv,by simpa using hl⟩,rfl,q _ (I.hok.fresh (Nat.le_refl _))⟩
  rw[List.length_map,List.length_map,List.length_range]
  exact Nat.le_trans (show(hi-lo).toNat<=20000 by omega) (by decide)
theorem vS(hc:X.calm=true):dG X (.builtin "sum") (nW X.K):=by
 intro pins s σ H xs us Q I rv h
 obtain⟨p,ns,rfl,hp,q⟩:=h
 obtain⟨u,rfl,ru⟩:=vals1 rv
 cases ru
 obtain⟨its,rs,il,hz⟩:=I.list hp
 have hI:=uI rs
 obtain⟨ys,e⟩:=hI.allInts.items
 have hn:=hI.numsOf
 refine sum_intListG (xs:=ys) (I.ok.hd hc) (by rw[<-e];exact il.isList) fun h' tk t' kp=>?_
 have e2:preSum (numAt ys) ys.size=ns.sum:=by
  rw[preSum_eq,List.take_of_length_le (by simp),<-nums_intItems,<-e,<-hn]
 rw[e2]
 exact⟨.int ns.sum,H,I.kept kp,⟨_,rfl⟩,q⟩
theorem JB(hc:X.calm=true):dG X (.builtin "all") (tK X.K):=by
  intro pins s σ H xs us Q I rv h
  obtain⟨p,bs,rfl,hp,q⟩:=h
  obtain⟨u,rfl,ru⟩:=vals1 rv
  cases ru
  obtain⟨its,rs,il,hz⟩:=I.list hp
  have hl:=rs.length
  have hv:∀(i:Nat) (v:Value),its.toArray[i]?=some v->v= .bool (bs.getD i false):=fun i v e=>by
    have hi:i<bs.length:=by
      have:=(Array.getElem?_eq_some_iff.mp e).1
      rw[List.length_map] at hl
      simp at this;omega
    obtain⟨u,hu,ru⟩:=rs.get (i:=i) (x:= .bl bs[i]) (by rw[List.getElem?_map,List.getElem?_eq_getElem hi];rfl)
    rw[List.getElem?_toArray,hu] at e
    cases e
    rw[List.getD_eq_getElem?_getD,List.getElem?_eq_getElem hi]
    exact ru
  have ll:=il.isList
  have hlt:p<s.heap.objs.size:=by obtain⟨o,e,_⟩:=ll;exact Heap.lt_size e
  refine call_all_walk (wpAny_pyIter_list ll ⟨s.heap.objs.size,_,_,_,_,_,fun i=>bs.getD i false,rfl,Walks.list (A:=X.A.in1) (I.ok.hd hc) _ p (Nat.ne_of_lt hlt) its.toArray,⟨⟨_,Heap.get?_push_size _ rfl,rfl,rfl⟩,ll.push _⟩,fun i v s Q E hP hQ=>?_,fun h' tk kp=>?_⟩)
  · rw[hv i v hP];exact wpAny_truthy_bool hQ
  · have e:(List.range its.toArray.size).all (fun i=>bs.getD i false)=bs.all id:=by
      have hs:its.toArray.size=bs.length:=by rw[List.length_map] at hl;simp;omega
      rw[hs]
      clear hv hl rs q hp hs hz
      induction bs with
      |nil=>rfl
      | cons b r ih =>
        rw[List.length_cons,List.range_succ_eq_map,List.all_cons,List.all_cons,List.all_map]
        simpa[Function.comp_def] using congrArg (b && ·) ih
    rw[e]
    refine⟨.bl (bs.all id),H,I.kept fun b o q=>kp b o (fun m=>?_) (Heap.get?_push_of_some _ q),rfl,q⟩
    have:=List.mem_singleton.mp m
    rw[this] at q
    exact absurd (Heap.lt_size q) (Nat.lt_irrefl _)
end
section
variable{G:Gx}{ρ:Rh}{te:TE}{K:PySem.W.Frag}{Φ:Pd}
theorem ay.Tz{Θ:Bool->List PyData->Prop}(h:Ev G ρ te fun _ x=>∃n:Int,x= .int n/\ -10000<=n/\n<=10000/\Θ true (((List.range n.toNat).map fun(i:Nat)=>(0:Int)+(i:Int)).map .int)):ay G ρ (dQ Ew (aQ (dQ Du (aQ te bw)) bw)) Θ:=fun nb σ H Q W z=>
 h nb σ H _ W fun f v H1 x ⟨n,ex,h1,h2,q⟩ s1 hv=>by
  subst ex
  rw[hv.bG]
  refine⟨n,rfl,fun a ha=>⟨a,0,n,rfl,aL,by omega,fun l hl=>?_⟩⟩
  rw[Int.sub_zero]
  exact ay.fin (f:=true) W (s1.trans (.same s1.2 (cz ha))) hl (sV _) q z
theorem Ev.sum(h:Ev G ρ te fun _ x=>∃ns:List Int,x= .list (ns.map .int)/\Φ true (.int ns.sum)):Ev G ρ (dQ (nW K) (aQ te bw)) Φ:=fun nb σ H Q W z=>
 h nb σ H _ W fun f v H1 x ⟨ns,ex,q⟩ s1 hv=>by
  subst ex
  obtain⟨a,xs,rfl,na,hx,hd⟩:=hv.cU
  have e:=mG hd
  subst e
  exact⟨a,ns,rfl, .of hx,z true _ H1 _ q s1 (.int _)⟩
theorem Cg{nb:Addr->Prop}{H:Hp}:∀{is:List Bool} {xs:List V},ah nb H (is.map PyData.bool) xs->xs=is.map V.bl
  |[],_,h=>by unfold List.map ah at h;exact h
  | i :: is, _, h => by
    rw[List.map_cons] at h
    unfold ah at h
    obtain⟨y,ys,rfl,h1,h2⟩:=h
    unfold af at h1
    rw[List.map_cons,h1,Cg h2]
theorem Ev.all(h:Ev G ρ te fun _ x=>∃bs:List Bool,x= .list (bs.map .bool)/\Φ true (.bool (bs.all id))):Ev G ρ (dQ (tK K) (aQ te bw)) Φ:=fun nb σ H Q W z=>
 h nb σ H _ W fun f v H1 x ⟨bs,ex,q⟩ s1 hv=>by
  subst ex
  obtain⟨a,xs,rfl,na,hx,hd⟩:=hv.cU
  have e:=Cg hd
  subst e
  exact⟨a,bs,rfl, .of hx,z true _ H1 _ q s1 (.bl _)⟩
end
end L2
set_option maxRecDepth 100000
set_option maxHeartbeats 4000000
namespace L2
open PySem PySem.Spec PyProof.Rows
def fZ:PyData->String->Bool
 | .bool _,T=>T=="bool" ||T=="int"
 | .int _,T=>T=="int"
 | .str _,T=>T=="str"
 | .list _,T=>T=="list"
 | .tuple _,T=>T=="tuple"
 |_,_=>false
def ua:PyData->String
 | .none=> "NoneType" | .bool _=> "bool" | .int _=> "int" | .str _=> "str" | .list _=> "list" | .tuple _=> "tuple" | .dict _=> "dict"
theorem zq(ds:List PyData):fZ (.list ds) "list"=true/\fZ (.list ds) "tuple"=false:=⟨rfl,rfl⟩
theorem Ao(ds:List PyData):fZ (.tuple ds) "list"=false/\fZ (.tuple ds) "tuple"=true:=⟨rfl,rfl⟩
theorem RS{K:PySem.W.Frag}{nb:Addr->Prop}{H:Hp}{d:PyData}{v:V}(h:af nb H d v):fR K H v (.type (ua d)):=by
 cases d<;>unfold af at h
 ·subst h;exact .aE
 ·subst h;exact .bl _
 ·subst h;exact .int _
 ·subst h;exact .str _
 ·obtain⟨a,xs,rfl,_,e,_⟩:=h;exact .lst e
 ·obtain⟨a,xs,rfl,_,e,_⟩:=h;exact .tup e
 ·obtain⟨a,xs,rfl,_,e,_⟩:=h;exact e.elim .dK fun⟨_,e⟩=> .BE e
def m7(T:String):Prop:=T="int" \/T="bool" \/T="list" \/T="tuple" \/T="str"
theorem Eg{K:PySem.W.Frag}{d:PyData}{T:String}(hT:m7 T):PySem.W.kitOne K (.type (ua d)) (.type T)=some (fZ d T):=by
 rcases hT with rfl|rfl|rfl|rfl|rfl<;>cases d<;>(with_unfolding_all rfl)
theorem CZ{K:PySem.W.Frag}{d:PyData}:∀{Ts:List String},(∀T∈Ts,m7 T)->PySem.W.kitAny K (.type (ua d)) (Ts.map Value.type)=some (Ts.any (fZ d))
  |[],_=>rfl
  | T :: r, h => by
    rw[List.map_cons]
    unfold PySem.W.kitAny
    rw[Eg (h T (List.mem_cons_self ..)),List.any_cons]
    cases fZ d T with
    |true=>rfl
    |false=>exact CZ fun T m=>h T (List.mem_cons_of_mem _ m)
def qQ:List V->Hp->VK->Prop:=fun xs H Q=>∃(x:V) (tp:Addr) (Ts:List String) (nb:Addr->Prop) (d:PyData),xs=[x, .ref tp]/\H tp=some (.tup (Ts.map V.ty))/\af nb H d x/\(∀T∈Ts,m7 T)/\Q (.bl (Ts.any (fZ d))) H
theorem Aa:∀{Ts:List String} {us:List Value},Vals (Ts.map V.ty) us->us=Ts.map Value.type
 |[],_, .nil=>rfl
 |T::r,_, .cons h t=>by rw[List.map_cons,Aa t,show _=Value.type T from h]
section
variable{X:Cx}
theorem C6:dG X (.builtin "isinstance") qQ:=by
 intro pins s σ H xs us Q I rv h
 obtain⟨x,tp,Ts,nb,d,rfl,ht,hd,h5,q⟩:=h
 obtain⟨u,v,rfl,ru,rv⟩:=rv.two
 cases (show v=Value.ref tp from rv)
 obtain⟨_,its,vt,o,ho,hc,n,hdat⟩:=(show aV X.prog X.w H s.heap tp (.tup (Ts.map V.ty)) from I.hok tp _ ht)
 have e:=Aa vt
 subst e
 obtain⟨c0,d0,dt,sl⟩:=o
 dsimp only at hc hdat
 subst hc hdat
 have fin:∀tk,EP X pins σ Q (.bool (Ts.any (fZ d))) {s with toks:=tk}:=fun tk=>⟨.bl _,H,I.tok tk,rfl,q⟩
 have ka:=CZ (K:=X.K) (d:=d) h5
 cases d<;>unfold af at hd
 ·subst hd;cases (show u=Value.none from ru);exact PySem.W.kia_tup PySem.W.kitx_none I.cV True.intro ho ka (fun z=>nomatch z) fin
 ·subst hd;cases (show u=Value.bool _ from ru);exact PySem.W.kia_tup PySem.W.kitx_bool I.cV True.intro ho ka (fun z=>nomatch z) fin
 ·subst hd;obtain⟨t,rfl⟩:=(show∃t,u=Value.int _ t from ru);exact PySem.W.kia_tup PySem.W.kitx_int I.cV True.intro ho ka (fun z=>nomatch z) fin
 ·subst hd;obtain⟨t,rfl⟩:=(show∃t,u=Value.str _ t from ru);exact PySem.W.kia_tup PySem.W.kitx_str I.cV True.intro ho ka (fun z=>nomatch z) fin
 ·obtain⟨a,ys,rfl,_,ea,_⟩:=hd
  cases (show u=Value.ref a from ru)
  obtain⟨_,_,n,_,h1⟩:=(show aV X.prog X.w H s.heap a (.lst ys) from I.hok a _ ea)
  exact PySem.W.kia_tup PySem.W.kitx_list I.cV ⟨_,h1,rfl⟩ ho ka (fun z=>nomatch z) fin
 ·obtain⟨a,ys,rfl,_,ea,_⟩:=hd
  cases (show u=Value.ref a from ru)
  obtain⟨_,_,_,o',h1,h2,_⟩:=(show aV X.prog X.w H s.heap a (.tup ys) from I.hok a _ ea)
  exact PySem.W.kia_tup PySem.W.kitx_tuple I.cV ⟨o',h1,h2⟩ ho ka (fun z=>nomatch z) fin
 ·obtain⟨a,ys,rfl,_,ea,_⟩:=hd
  cases (show u=Value.ref a from ru)
  obtain⟨_,_,vs,_,dd⟩:=(show aV X.prog X.w H s.heap a (.dK ys) from ea.ok I.hok)
  exact PySem.W.kia_tup PySem.W.kitx_dict I.cV dd.typeIs ho ka (fun z=>nomatch z) fin
end
section
variable{G:Gx}{ρ:Rh}{ta tb te:TE}{K:PySem.W.Frag}{Φ:Pd}{T U:String}
theorem Ev.OV(hT:m7 T)(h:Ev G ρ te fun _ x=>Φ true (.bool (fZ x T))):Ev G ρ (dQ (iF K) (aQ te (aQ (tC (.ty T)) bw))) Φ:=fun nb σ H Q W z=>
 h nb σ H _ W fun f v H1 d q s1 hv=>⟨v,T,_,_,rfl,RS hv,Eg hT,z true _ H1 _ q s1 (.bl _)⟩
theorem Ev.SG(hT:m7 T)(hU:m7 U)(h:Ev G ρ te fun _ x=>Φ true (.bool (fZ x T||fZ x U))):Ev G ρ (dQ qQ (aQ te (aQ (mP (aQ (tC (.ty T)) (aQ (tC (.ty U)) bw))) bw))) Φ:=fun nb σ H Q W z=>
 h nb σ H _ W fun f v H1 d q s1 hv=>by
  refine⟨by show 2<=sizeLine;decide,fun p hp=>⟨v,p,[T,U],G.S nb f,d,rfl,aL,hv.keep (aJ.of (cz hp)),fun S m=>?_,?_⟩⟩
  ·rcases List.mem_cons.mp m with e|m
   ·rw[e];exact hT
   ·rw[List.mem_singleton.mp m];exact hU
  ·rw[List.any_cons,List.any_cons,List.any_nil,Bool.or_false]
   exact z true _ _ _ q (s1.trans (.same s1.2 (cz hp))) (.bl _)
theorem Ev.Lr(h:Ev G ρ te fun _ x=>∃ds,(x= .list ds\/x= .tuple ds)/\Φ true (.int ds.length)):Ev G ρ (dQ (fN K) (aQ te bw)) Φ:=fun nb σ H Q W z=>
 h nb σ H _ W fun f v H1 d ⟨ds,e,q⟩ s1 hv=>by
  rcases e with e|e
  ·subst e
   obtain⟨a,xs,rfl,n,hx,hd⟩:=hv.cU
   exact⟨a,xs,rfl, .inl (.of hx),by rw[hd.length];exact z true _ H1 _ q s1 (.int _)⟩
  ·subst e
   obtain⟨a,xs,rfl,n,hx,hd⟩:=hv.ofT
   exact⟨a,xs,rfl, .inr (.of hx),by rw[hd.length];exact z true _ H1 _ q s1 (.int _)⟩
theorem Ev.vK(h:Ev G ρ ta fun f x=>∃ds,(x= .list ds\/x= .tuple ds)/\Ev G ρ tb fun _ y=>∃k,y= .int k/\∃e,bh ds k=some e/\Φ f e):Ev G ρ (cD (qh K) ta tb) Φ:=
 Ev.gM (h.mono fun f x ⟨ds,ex,q⟩=>q.mono fun g y ⟨k,ey,e,he,p⟩ nb σ H u v Q W hu hv z=>by
  subst ey
  rcases ex with ex|ex
  ·subst ex
   obtain⟨a,xs,rfl,n,hx,hd⟩:=hu.cU
   obtain⟨w,hw,hD⟩:=hd.bh he
   exact .inl ⟨a,xs,k,w,rfl,hv.bG, .of hx,hw,z f _ H _ p (.refl W.au) hD⟩
  ·subst ex
   obtain⟨a,xs,rfl,n,hx,hd⟩:=hu.ofT
   obtain⟨w,hw,hD⟩:=hd.bh he
   exact .inr (.inl ⟨a,xs,k,w,rfl,hv.bG, .of hx,hw,z f _ H _ p (.refl W.au) hD⟩))
end
theorem Callee.void{P:Program}{w:World}{K:PySem.W.Frag}{mg:Str->Option Value}{base:Heap}{x:Str}{st:Stmt}{k:Nat}{ps:List Str}{sp:Sp}{f:Addr}{fd:FuncData}(F:bJ K x x st f fd)(b:Binds K fd ps [])(m:mg x=some (.ref f))(hv:∀vs H Q E,¬sp vs H Q E):Callee P w K mg base x k ps sp:=
 ⟨f,fd,⟨fun vs H Q E h=>(hv vs H Q E h).elim,fun A outer s H args us vs Q E _ _ _ _ h=>(hv vs H Q E h).elim⟩,b,F.kp,m⟩
end L2
set_option maxRecDepth 100000
set_option maxHeartbeats 4000000
namespace L2
open PySem PySem.Spec PyProof.Rows
section
variable{G:Gx}{ρ ck:Rh}{te:TE}{gt:TG}{n i:Nat}{it:Nat->PyData->Prop}{fi:Bool}{Θ:Bool->List PyData->Prop}{E:DE}
theorem q9(os:List Int):dW (os.map PyData.int)=true:=by
 unfold dW
 rw[List.all_eq_true]
 intro x hx
 obtain⟨y,_,rfl⟩:=List.mem_map.mp hx
 rfl
theorem fW.ints(P:Int->Prop)(ht:∀i d,it i d->Gv G ck gt fi d fun eF=>Wk ck eF/\Ev G eF te fun _ e=>∃r:Int,e= .int r/\P r)(h:∀os:List Int,os.length=n->(∀x∈os,P x)->Θ true (os.map .int)):fW G ck n it fi gt mQ te Θ:=by
 refine⟨false,fun i ds=>ds.length=i/\∃os:List Int,ds=os.map .int/\∀x∈os,P x,⟨rfl,[],rfl,fun _ h=>nomatch h⟩,?_,?_⟩
 ·rintro i d ds hd hl ⟨hl2,os,rfl,ho⟩
  refine fun nb σ H v Q W hv z=>ht i d hd nb σ H v Q W hv fun σ' ρ' ⟨w,q⟩ W'=>z σ' ρ' ⟨w,Tv.ow (qx (q.mono fun f e ⟨r,ee,hr⟩=>⟨fun z=>(by cases z),?_,os++[r],?_,fun x hx=>?_⟩))⟩ W'
  ·rw[List.length_append,List.length_singleton,hl2]
  ·rw[ee];simp
  ·rcases List.mem_append.mp hx with h|h
   ·exact ho x h
   ·rw[List.mem_singleton.mp h];exact hr
 ·rintro ds hl ⟨hl2,os,rfl,ho⟩
  rw[q9,Bool.or_true]
  exact h os (by rw[List.length_map] at hl2;exact hl2) ho
theorem fW.rel{α:Type}(φ:α->PyData)(fl:Bool)(P:Nat->α->Prop)(ht:∀i d,it i d->Gv G ck gt fi d fun eF=>Wk ck eF/\Ev G eF te fun f e=>(fl=true->f=true)/\∃r:α,e=φ r/\P i r)
  (h:∀os:List α,os.length=n->(∀(i:Nat) x,os[i]?=some x->P i x)->Θ (fl||dW (os.map φ)) (os.map φ)):fW G ck n it fi gt mQ te Θ:=by
 refine⟨fl,fun i ds=>ds.length=i/\∃os:List α,ds=os.map φ/\∀(i:Nat) x,os[i]?=some x->P i x,⟨rfl,[],rfl,fun j x e=>by simp at e⟩,?_,?_⟩
 ·rintro i d ds hd hl ⟨hl2,os,rfl,ho⟩
  refine fun nb σ H v Q W hv z=>ht i d hd nb σ H v Q W hv fun σ' ρ' ⟨w,q⟩ W'=>z σ' ρ' ⟨w,Tv.ow (qx (q.mono fun f e ⟨hf,r,ee,hr⟩=>⟨hf,?_,os++[r],?_,fun j x hj=>?_⟩))⟩ W'
  ·rw[List.length_append,List.length_singleton,hl2]
  ·rw[ee];simp
  ·rw[List.length_map] at hl2
   rcases Nat.lt_trichotomy j os.length with h|h|h
   ·exact ho j x (by rwa[List.getElem?_append_left h] at hj)
   ·subst h
    simp at hj
    subst hj
    rw[hl2];exact hr
   ·rw[List.getElem?_eq_none (by rw[List.length_append,List.length_singleton];omega)] at hj
    cases hj
 ·rintro ds hl ⟨hl2,os,rfl,ho⟩
  exact h os (by rw[List.length_map] at hl2;exact hl2) ho
theorem Sv.SI(h:∀a,E.nx (ρ.set i (.own a true []))):Sv G ρ (fh (jE bw) (e7 i)) E:=Sv.qk (ay.lst (Av.nil ⟨by decide,fun a=>h a⟩))
end
def OD:R2:=fun x y H Q=>∃a b:Bool,x= .bl a/\y= .bl b/\Q (.bl (a==b)) H
theorem Ev.UN{G:Gx}{ρ:Rh}{ta:TE}{b:Bool}{Φ:Pd}(h:Ev G ρ ta fun _ x=>∃a,x= .bool a/\Φ true (.bool (a==b))):Ev G ρ (cD OD ta (tC (.bl b))) Φ:=fun nb σ H Q W z=>
 h nb σ H _ W fun f v H1 d ⟨a,e,q⟩ s1 hv=>by
  subst e
  unfold af at hv
  subst hv
  exact⟨a,b,rfl,rfl,z true _ H1 _ q s1 (.bl _)⟩
theorem oF{X:Cx}{K:PySem.W.Frag}{a:Expr}{ta:TE}(hK:X.K=K)(ha:PE X a ta)(he:∀whole,isTrue a X.env whole=(do let v<-whole;standAt a.pos;holding [v] (truthy v))):PT X a (Dy K ta):=by
 subst hK
 exact Kd ha he
theorem eU{X:Cx}{K:PySem.W.Frag}{es:List Expr}{k:Nat}{t:fU}{n:Nat}{pos:Pos}(hK:X.K=K)(hc:X.calm=true)(h:nH X es t)(hn:(assignEach es X.env).length=n:=by rfl)(hst:(assignEach es X.env).findIdx? (·.1)=none:=by rfl):PG X (.Tuple es k pos) (qX K n t):=by
 subst hK
 exact z7 hc h hn hst
theorem Fw(ds:List PyData):PyData.eqv (.list ds) (.list [])=ds.isEmpty:=by cases ds<;>simp[PyData.eqv,PyData.eqvAll]
theorem zz(cs:List aA):PyData.depthAll (cs.map dS)<=2/\PyData.canLayAll0 (cs.map dS)=true:=by
  induction cs with
  |nil=>simp[PyData.depthAll,PyData.canLayAll0]
  | cons a r ih =>
    have h:=Qv a
    simp[PyData.depthAll,PyData.depth,PyData.canLayAll0,PyData.canLay0,ih.2,h.2.2]
    have:=ih.1
    have:=h.2.1
    omega
theorem M4(p n:Int)(cs:List aA)(wd:Wo):SeqAt.shaped (.tuple [bK p n cs,ji wd])=true:=by
 have h1:=zz cs
 have h2:=Ny wd
 unfold SeqAt.shaped
 simp[PyData.canLay0,PyData.canLayAll0,PyData.depth,PyData.depthAll,h1.2,h2.2,h2.1]
 have:=h1.1
 omega
theorem Sv.oK{G:Gx}{ρ:Rh}{s:TS}{E:DE}(I:Rh->Prop)(h:Sv G ρ s {E with nx:=I})(hI:∀ρ',I ρ'->E.nx ρ'):Sv G ρ s E:=fun nb σ H D W K=>h nb σ H D W ⟨fun nb ρ σ H q W=>K.nx nb ρ σ H (hI ρ q) W,K.bk,K.ct,K.rt,K.rw⟩
def Bh(p:Int):Prop:=2<=p/\p<=10^60
theorem pick{L:List Int}{k:Int}(h0:0<=k)(h1:k<L.length)(P:Int->Prop)(hP:∀x∈L,P x):∃x,bh (L.map PyData.int) k=some (.int x)/\P x:=by
 have hL:k.toNat<L.length:=by omega
 exact⟨L[k.toNat],iz h0 (by rw[List.getElem?_map,List.getElem?_eq_getElem hL];rfl),hP _ (List.getElem_mem hL)⟩
end L2
set_option maxRecDepth 100000
set_option maxHeartbeats 4000000
namespace L2
open PySem PySem.Spec PyProof.Rows
theorem E1{α:Type}{xs:List α}{k:Int}(h0:0<=k)(h1:k<=xs.length):eN xs none (some k)=xs.take k.toNat:=by
 unfold eN HT.cO
 simp only[List.drop_zero,Nat.sub_zero]
 congr 1
 first|omega|(split<;>omega)
theorem Im{α:Type}{xs:List α}{k:Int}(h0:0<=k)(h1:k<=xs.length):eN xs (some k) none=xs.drop k.toNat:=by
 have e:HT.cO xs.length 0 (some k)=k.toNat:=by
  show(if k<0 then _ else _)=_
  rw[if_neg (by omega)];omega
 unfold eN
 rw[e,HT.GQ]
 exact List.take_of_length_le (by rw[List.length_drop];omega)
theorem RU{α:Type}{xs:List α}{k:Int}{y:α}(h0:0<=k)(h1:k<xs.length):eN xs none (some k)++[y]++eN xs (some (k+1)) none=xs.set k.toNat y:=by
 rw[E1 h0 (by omega),Im (by omega) (by omega),List.set_eq_take_append_cons_drop,if_pos (by omega),List.append_assoc]
 congr 2
 show[y]++_=_
 rw[show(k+1).toNat=k.toNat+1 by omega]
 rfl
theorem D4{α:Type}{xs:List α}{lo hi:Option Int}:(eN xs lo hi).length<=xs.length:=by
 unfold eN
 rw[List.length_take,List.length_drop];omega
end L2
set_option maxRecDepth 100000
set_option maxHeartbeats 4000000
set_option maxRecDepth 100000
set_option maxHeartbeats 4000000
namespace L2
open PySem PySem.Spec PyProof.Rows
def zX(K:PySem.W.Frag)(te:TE)(ts:TO):TE:=fun σ H Q=>te σ H fun x H1=>ts σ H1 fun k H2=>k=some (-1)/\∃a xs,x= .ref a/\aM K H2 a xs/\∀p,H2 p=none->Q (.ref p) (upd H2 p (.lst xs.reverse))
theorem ah.rev{nb:Addr->Prop}{H:Hp}:∀{ds:List PyData} {xs:List V},ah nb H ds xs->ah nb H ds.reverse xs.reverse
  |[],xs,h=>by unfold ah at h;subst h;exact .nil
  | d :: ds, xs, h => by
    unfold ah at h
    obtain⟨y,ys,e,h1,h2⟩:=h
    subst e
    rw[List.reverse_cons,List.reverse_cons]
    exact ah.append (ah.rev h2) (.cons h1 .nil)
section
variable{G:Gx}{ρ:Rh}{Φ:Pd}{ta tb te:TE}{K:PySem.W.Frag}
theorem ay.rev{ts:TO}{Θ:Bool->List PyData->Prop}(h:Ev G ρ te fun f x=>∃ds,x= .list ds/\Ov G ρ ts fun o=>o=some (-1)/\Θ (f||dW ds.reverse) ds.reverse):ay G ρ (zX K te ts) Θ:=fun nb σ H Q W z=>
 h nb σ H _ W fun f v H1 d ⟨ds,e,q⟩ s1 hv=>q nb σ H1 _ (W.step s1) fun o H2 ⟨eo,q2⟩ s2=>by
  subst e
  obtain⟨a,xs,rfl,n,hx,hd⟩:=(hv.keep s2.cX).cU
  exact⟨eo,a,xs,rfl, .of hx,fun p hp=>ay.fin W (s1.trans s2) hp hd.rev q2 z⟩
theorem Ev.rev{ts:TO}(h:Ev G ρ te fun f x=>∃ds,x= .list ds/\Ov G ρ ts fun o=>o=some (-1)/\Φ (f||dW ds.reverse) (.list ds.reverse)):Ev G ρ (zX K te ts) Φ:=(ay.rev (Θ:=fun f ds=>Φ f (.list ds)) h).ev
theorem QV{X:Cx}{K:PySem.W.Frag}(hK:X.K=K):cE X (compareOp .In) (vD K false):=by subst hK;exact QI
theorem Ev.zU{ng:Bool}(h:Ev G ρ ta fun _ x=>∃k:Int,x= .int k/\Ev G ρ tb fun _ y=>∃ns:List Int,y= .list (ns.map .int)/\Φ true (.bool (decide (k∈ns) !=ng))):Ev G ρ (cD (vD K ng) ta tb) Φ:=fun nb σ H Q W z=>
 h nb σ H _ W fun f v H1 d ⟨k,e,q⟩ s1 hv=>q nb σ H1 _ (W.step s1) fun g u H2 d2 ⟨ns,e2,p⟩ s2 hu=>by
  subst e e2
  have hk:=hv.bG
  subst hk
  obtain⟨a,xs,rfl,na,hx,hd⟩:=hu.cU
  have ex:=mG hd
  subst ex
  refine⟨a,ns.map V.int,rfl, .inl (.of hx),rfl,?_,?_⟩
  ·rw[List.all_eq_true]
   intro x hx
   obtain⟨o,_,rfl⟩:=List.mem_map.mp hx
   rfl
  ·have e:nk (V.int k) (ns.map V.int)=decide (k∈ns):=by
    unfold nk
    rw[List.any_map,Bool.eq_iff_iff,List.any_eq_true,decide_eq_true_eq]
    constructor
    ·rintro⟨o,m,h⟩
     have:o=k:=eq_of_beq h
     exact this▸m
    ·intro m
     exact⟨k,m,beq_self_eq_true k⟩
   have e2:(if ng=true then !nk (V.int k) (ns.map V.int) else nk (V.int k) (ns.map V.int))=(decide (k∈ns) !=ng):=by
    rw[e]
    cases ng<;>simp
   rw[e2]
   exact z true _ H2 _ p (s1.trans s2) (.bl _)
end
end L2
set_option maxRecDepth 100000
set_option maxHeartbeats 1000000
namespace PC
def aC(n:Nat):Prop:=2<=n/\∀d,d∣n->d=1\/d=n
def tr(q:Nat):Nat->Nat->Bool
 |0,_=>false
 |f+1,d=>if q<d*d then true else if q%d=0 then false else tr q f (d+1)
theorem Dp{q:Nat}:∀{f d:Nat},tr q f d=true->∀e,d<=e->e*e<=q->q%e≠0
  |0,_,h=>by simp[tr] at h
  | f + 1, d, h => by
    intro e hde hee
    unfold tr at h
    by_cases h1:q<d*d
    · have:=Nat.mul_le_mul hde hde
      omega
    · rw[if_neg h1] at h
      by_cases h2:q%d=0
      · rw[if_pos h2] at h;cases h
      · rw[if_neg h2] at h
        by_cases h3:d=e
        · rw[<-h3];exact h2
        · exact Dp h e (by omega) hee
theorem DR{q:Nat}(h2:2<=q)(h:∀e,2<=e->e*e<=q->q%e≠0):aC q:=by
 refine⟨h2,fun d hd=>?_⟩
 obtain⟨e,he⟩:=hd
 by_cases d1:d=1
 ·exact .inl d1
 by_cases e1:e=1
 ·right;rw[he,e1,Nat.mul_one]
 exfalso
 have d0:d≠0:=fun z=>by rw[z,Nat.zero_mul] at he;omega
 have e0:e≠0:=fun z=>by rw[z,Nat.mul_zero] at he;omega
 by_cases hle:d<=e
 ·refine h d (by omega) (by rw[he];exact Nat.mul_le_mul_left d hle) ?_
  rw[he];exact Nat.mul_mod_right d e
 ·refine h e (by omega) (by rw[he];exact Nat.mul_le_mul_right e (by omega)) ?_
  rw[he];exact Nat.mul_mod_left d e
theorem bx(f:Nat){q:Nat}(h2:2<=q)(h:tr q f 2=true):aC q:=DR h2 (Dp h)
def pw(N:Nat):Nat->Nat->Nat->Nat->Nat
 |0,_,_,acc=>acc
 |f+1,e,g,acc=>pw N f (e/2) (g*g%N) (if e%2=1 then acc*g%N else acc)
theorem Dv{N:Nat}:∀(f e g acc:Nat),e<2^f->pw N f e g acc%N=acc*g^e%N
  | 0, e, g, acc, h => by
    have:e=0:=by simp at h;exact h
    subst this
    simp[pw]
  | f + 1, e, g, acc, h => by
    have h2:e/2<2^f:=by rw[Nat.pow_succ] at h;omega
    unfold pw
    rw[Dv f _ _ _ h2]
    have e2:g^e=(g*g)^(e/2)*g^(e%2):=by
      conv=>lhs;rw[<-Nat.div_add_mod e 2]
      rw[Nat.pow_add,Nat.pow_mul,Nat.pow_two]
    have m1:(g*g%N)^(e/2)%N=(g*g)^(e/2)%N:=(Nat.pow_mod _ _ _).symm
    rw[e2]
    by_cases ho:e%2=1
    · rw[if_pos ho,ho,Nat.pow_one,Nat.mul_mod,m1,Nat.mod_mod,<-Nat.mul_mod]
      congr 1
      rw[Nat.mul_assoc,Nat.mul_comm g]
    · have ho':e%2=0:=by omega
      rw[if_neg ho,ho',Nat.pow_zero,Nat.mul_one,Nat.mul_mod,m1,<-Nat.mul_mod]
theorem Tg{P:Nat->Prop}:∀n,P n->∃m,P m/\∀k,k<m->¬P k:=by
  intro n
  induction n using Nat.strongRecOn with
  | _ n ih =>
    intro h
    by_cases hk:∃k,k<n/\P k
    · obtain⟨k,hk1,hk2⟩:=hk
      exact ih k hk1 hk2
    · exact⟨n,h,fun k hk1 hk2=>hk ⟨k,hk1,hk2⟩⟩
theorem AQ:∀(n:Nat) (f:Nat->Nat),(∀i,i<n+1->f i<n)->∃i j,i<j/\j<n+1/\f i=f j
  |0,f,h=>absurd (h 0 (by omega)) (by omega)
  | n + 1, f, h => by
    by_cases he:∃i,i<n+1/\f i=f (n+1)
    · obtain⟨i,h1,h2⟩:=he
      exact⟨i,n+1,h1,by omega,h2⟩
    · have hne:∀i,i<n+1->f i≠f (n+1):=fun i hi e=>he ⟨i,hi,e⟩
      have qB:=h (n+1) (by omega)
      obtain⟨i,j,h1,h2,h3⟩:=AQ n (fun i=>if f i=n then f (n+1) else f i) (fun i hi=>by
        have g1:=h i (by omega)
        have g2:=hne i hi
        by_cases c:f i=n
        · simp only[c,if_true]
          have:f (n+1)≠n:=fun z=>g2 (c.trans z.symm)
          omega
        · simp only[c,if_false]
          omega)
      refine⟨i,j,h1,by omega,?_⟩
      have gi:=hne i (by omega)
      have gj:=hne j (by omega)
      by_cases ci:f i=n
      · by_cases cj:f j=n
        · rw[ci,cj]
        · simp only[ci,cj,if_true,if_false] at h3
          exact absurd h3.symm gj
      · by_cases cj:f j=n
        · simp only[ci,cj,if_true,if_false] at h3
          exact absurd h3 gi
        · simpa only[ci,cj,if_false] using h3
def g9:List (Nat×Nat)->Nat
 |[]=>1
 |qe::r=>Nat.lcm (qe.1^qe.2) (g9 r)
theorem Bl{o:Nat}:∀{fs:List (Nat×Nat)},(∀qe∈fs,qe.1^qe.2∣o)->g9 fs∣o
 |[],_=>⟨o,by simp[g9]⟩
 |qe::r,h=>Nat.lcm_dvd (h qe List.mem_cons_self) (Bl fun x hx=>h x (List.mem_cons_of_mem _ hx))
theorem OY{q m:Nat}(hq:aC q)(h:¬q∣m):Nat.Coprime q m:=by
 rcases hq.2 _ (Nat.gcd_dvd_left q m) with e|e
 ·exact e
 ·exact absurd (e▸Nat.gcd_dvd_right q m) h
theorem L6{q m:Nat}(h:Nat.Coprime q m)(e:Nat):Nat.Coprime (q^e) m:=Nat.Coprime.pow_left e h
theorem Tn(a b c d:Nat):(a%d)*(b%d)%d*(c%d)%d=a*b*c%d:=by
 rw[<-Nat.mul_mod a b,<-Nat.mul_mod (a*b) c]
theorem Ez{N g d:Nat}{fs:List (Nat×Nat)}(hN:2<=N)(hd:d∣N)(d1:1<d)(h1:g^(N-1)%N=1%N)
  (hq:∀qe∈fs,aC qe.1/\qe.1^qe.2∣N-1/\Nat.gcd (g^((N-1)/qe.1)%N+(N-1)) N=1):g9 fs<d:=by
 have down:∀{a b:Nat},a%N=b%N->a%d=b%d:=fun{a b} e=>by
  rw[<-Nat.mod_mod_of_dvd a hd,e,Nat.mod_mod_of_dvd b hd]
 have one:1%d=1:=Nat.mod_eq_of_lt d1
 have f1:g^(N-1)%d=1:=by rw[down h1,one]
 obtain⟨o,⟨o0,o1⟩,AX⟩:=Tg (P:=fun k=>0<k/\g^k%d=1) (N-1) ⟨by omega,f1⟩
 have per:∀q r:Nat,g^(o*q+r)%d=g^r%d:=fun q r=>by
  rw[Nat.pow_add,Nat.pow_mul,Nat.mul_mod,Nat.pow_mod,o1,Nat.one_pow,one,Nat.one_mul,Nat.mod_mod]
 have UG:∀k,g^k%d=1->o∣k:=fun k hk=>by
  have e:=Nat.div_add_mod k o
  rw[<-e,per] at hk
  by_cases h0:k%o=0
  ·exact Nat.dvd_of_mod_eq_zero h0
  ·exact absurd ⟨by omega,hk⟩ (AX (k%o) (Nat.mod_lt _ o0))
 have od:=UG _ f1
 have parts:g9 fs∣o:=Bl fun qe qA=>by
  obtain⟨pq,⟨c,hc⟩,gq⟩:=hq qe qA
  obtain⟨m,hm⟩:=od
  by_cases Es:qe.1∣m
  ·exfalso
   obtain⟨m',hm'⟩:=Es
   have q0:0<qe.1:=by have:=pq.1;omega
   have ek:(N-1)/qe.1=o*m':=by
    rw[hm,hm',show o*(qe.1*m')=qe.1*(o*m') by rw[<-Nat.mul_assoc,Nat.mul_comm o,Nat.mul_assoc],Nat.mul_div_cancel_left _ q0]
   have e1:g^((N-1)/qe.1)%d=1:=by
    have:=per m' 0
    rw[Nat.add_zero,Nat.pow_zero,one] at this
    rw[ek];exact this
   have e2:d∣g^((N-1)/qe.1)%N+(N-1):=by
    have e3:(g^((N-1)/qe.1)%N)%d=1:=by rw[Nat.mod_mod_of_dvd _ hd];exact e1
    obtain⟨k,hk⟩:=hd
    have e4:=Nat.div_add_mod (g^((N-1)/qe.1)%N) d
    rw[e3] at e4
    refine⟨(g^((N-1)/qe.1)%N)/d+k,?_⟩
    rw[Nat.mul_add,<-hk]
    omega
   have e5:=Nat.dvd_gcd e2 hd
   rw[gq] at e5
   have:=Nat.le_of_dvd (by omega) e5
   omega
  ·have cp:=L6 (OY pq Es) qe.2
   have FP:qe.1^qe.2∣o*m:=⟨c,by rw[<-hm];exact hc⟩
   exact cp.dvd_of_dvd_mul_right FP
 have Oo:o<d:=by
  refine Nat.lt_of_not_le fun hle=>?_
  have unit:∀i,i<=N-1->(g^i%d)*(g^(N-1-i)%d)%d=1:=fun i hi=>by
   rw[<-Nat.mul_mod,<-Nat.pow_add,show i+(N-1-i)=N-1 by omega];exact f1
  have Vl:o<=N-1:=Nat.le_of_dvd (by omega) od
  have pos:∀i,i<o->0<g^i%d:=fun i hi=>by
   refine Nat.pos_of_ne_zero fun z=>?_
   have:=unit i (by omega)
   rw[z,Nat.zero_mul,Nat.zero_mod] at this
   cases this
  obtain⟨i,j,h1,h2,h3⟩:=AQ (d-1) (fun i=>g^i%d-1) (fun i hi=>by
   have a1:=pos i (by omega)
   have a2:=Nat.mod_lt (g^i) (show d>0 by omega)
   omega)
  have pi:=pos i (by omega)
  have pj:=pos j (by omega)
  have e:g^i%d=g^j%d:=by omega
  have ej:g^j=g^i*g^(j-i):=by rw[<-Nat.pow_add,show i+(j-i)=j by omega]
  have u:=unit i (by omega)
  have k1:g^(j-i)%d=1:=by
   have w:(g^i%d)*(g^(N-1-i)%d)%d*(g^(j-i)%d)%d=(g^j%d)*(g^(N-1-i)%d)%d:=by
    rw[Tn,<-Nat.mul_mod (g^j),ej]
    congr 1
    rw[Nat.mul_assoc,Nat.mul_assoc,Nat.mul_comm (g^(N-1-i))]
   rw[u,Nat.one_mul,Nat.mod_mod,<-e,u] at w
   exact w
  exact AX (j-i) (by omega) ⟨by omega,k1⟩
 exact Nat.lt_of_le_of_lt (Nat.le_of_dvd o0 parts) Oo
theorem J9{N g:Nat}(fs:List (Nat×Nat))(hN:2<=N)(h1:g^(N-1)%N=1%N)
  (hq:∀qe∈fs,aC qe.1/\qe.1^qe.2∣N-1/\Nat.gcd (g^((N-1)/qe.1)%N+(N-1)) N=1) (hF:N<(g9 fs+1)*(g9 fs+1)):aC N:=by
 refine⟨hN,fun d hd=>?_⟩
 obtain⟨e,he⟩:=id hd
 by_cases d1:d=1
 ·exact .inl d1
 by_cases e1:e=1
 ·right;rw[he,e1,Nat.mul_one]
 exfalso
 have d0:d≠0:=fun z=>by rw[z,Nat.zero_mul] at he;omega
 have e0:e≠0:=fun z=>by rw[z,Nat.mul_zero] at he;omega
 have b1:=Ez hN hd (by omega) h1 hq
 have b2:=Ez hN ⟨d,by rw[he,Nat.mul_comm]⟩ (show 1<e by omega) h1 hq
 have:=Nat.mul_le_mul (show g9 fs+1<=d from b1) (show g9 fs+1<=e from b2)
 omega
def Cd(N g:Nat)(fs:List (Nat×Nat)):Bool:=
 decide (2<=N) && decide (N<2^140) &&(pw N 140 (N-1) g 1%N==1) && fs.all (fun qe=>((N-1)%qe.1^qe.2==0) &&(Nat.gcd (pw N 140 ((N-1)/qe.1) g 1%N+(N-1)) N==1)) && decide (N<(g9 fs+1)*(g9 fs+1))
theorem bZ{N:Nat}(g:Nat)(fs:List (Nat×Nat))(hp:∀qe∈fs,aC qe.1)(h:Cd N g fs=true):aC N:=by
 unfold Cd at h
 simp only[Bool.and_eq_true,decide_eq_true_eq,beq_iff_eq,List.all_eq_true] at h
 obtain⟨⟨⟨⟨h1,h2⟩,h3⟩,h4⟩,h5⟩:=h
 have P:∀e,e<=N-1->pw N 140 e g 1%N=g^e%N:=fun e he=>by
  rw[Dv 140 e g 1 (by omega),Nat.one_mul]
 refine J9 (g:=g) fs h1 (by rw[<-P _ (Nat.le_refl _),h3,Nat.mod_eq_of_lt (by omega)]) (fun qe qA=>?_) h5
 obtain⟨g1,g2⟩:=h4 qe qA
 refine⟨hp qe qA,Nat.dvd_of_mod_eq_zero g1,?_⟩
 rw[<-P _ (Nat.div_le_self _ _)]
 exact g2
end PC
set_option maxRecDepth 100000
set_option maxHeartbeats 1000000
namespace PC
theorem sZ:aC 2:=bx 4 (by decide) (by decide+kernel)
theorem RM:aC 3:=bx 4 (by decide) (by decide+kernel)
theorem Lf:aC 5:=bx 5 (by decide) (by decide+kernel)
theorem vM:aC 7:=bx 5 (by decide) (by decide+kernel)
theorem UB:aC 11:=bx 6 (by decide) (by decide+kernel)
theorem M8:aC 101:=bx 13 (by decide) (by decide+kernel)
theorem J4:aC 10007:=bx 103 (by decide) (by decide+kernel)
theorem Ul:aC 65537:=bx 259 (by decide) (by decide+kernel)
theorem Uk:aC 1000003:=bx 1003 (by decide) (by decide+kernel)
theorem M7:aC 17:=bx 7 (by decide) (by decide+kernel)
theorem Pn:aC 998244353:=bZ 3 [(17,1),(7,1),(2,23)] (fun qe h=>by
 simp only[List.mem_cons,List.not_mem_nil,or_false] at h
 rcases h with rfl|rfl|rfl
 ·exact M7
 ·exact vM
 ·exact sZ) (by decide+kernel)
theorem Gy:aC 148721:=bx 388 (by decide) (by decide+kernel)
theorem SK:aC 500000003:=bZ 2 [(148721,1)] (fun qe h=>by
 simp only[List.mem_cons,List.not_mem_nil,or_false] at h
 subst h;exact Gy) (by decide+kernel)
theorem Sn:aC 1000000007:=bZ 2 [(500000003,1)] (fun qe h=>by
 simp only[List.mem_cons,List.not_mem_nil,or_false] at h
 subst h;exact SK) (by decide+kernel)
theorem Ak:aC 331:=bx 21 (by decide) (by decide+kernel)
theorem DS:aC 151:=bx 15 (by decide) (by decide+kernel)
theorem FA:aC 2147483647:=bZ 3 [(331,1),(151,1)] (fun qe h=>by
 simp only[List.mem_cons,List.not_mem_nil,or_false] at h
 rcases h with rfl|rfl
 ·exact Ak
 ·exact DS) (by decide+kernel)
theorem Tj:aC 250049:=bx 503 (by decide) (by decide+kernel)
theorem Sy:aC 26005097:=bZ 2 [(250049,1)] (fun qe h=>by
 simp only[List.mem_cons,List.not_mem_nil,or_false] at h
 subst h;exact Tj) (by decide+kernel)
theorem MC:aC 1000000000039:=bZ 2 [(26005097,1)] (fun qe h=>by
 simp only[List.mem_cons,List.not_mem_nil,or_false] at h
 subst h;exact Sy) (by decide+kernel)
theorem S3:aC 234931:=bx 487 (by decide) (by decide+kernel)
theorem Ku:aC 8740842787:=bZ 2 [(234931,1)] (fun qe h=>by
 simp only[List.mem_cons,List.not_mem_nil,or_false] at h
 subst h;exact S3) (by decide+kernel)
theorem N3:aC 52445056723:=bZ 2 [(8740842787,1)] (fun qe h=>by
 simp only[List.mem_cons,List.not_mem_nil,or_false] at h
 subst h;exact Ku) (by decide+kernel)
theorem HA:aC 1000000000000000003:=bZ 2 [(52445056723,1)] (fun qe h=>by
 simp only[List.mem_cons,List.not_mem_nil,or_false] at h
 subst h;exact N3) (by decide+kernel)
theorem O5:aC 15331:=bx 126 (by decide) (by decide+kernel)
theorem MW:aC 2131:=bx 49 (by decide) (by decide+kernel)
theorem IW:aC 5594472617641:=bZ 2 [(15331,1),(2131,1)] (fun qe h=>by
 simp only[List.mem_cons,List.not_mem_nil,or_false] at h
 rcases h with rfl|rfl
 ·exact O5
 ·exact MW) (by decide+kernel)
theorem Te:aC 18446744073709551557:=bZ 2 [(5594472617641,1)] (fun qe h=>by
 simp only[List.mem_cons,List.not_mem_nil,or_false] at h
 subst h;exact IW) (by decide+kernel)
theorem Nk:aC 1321:=bx 39 (by decide) (by decide+kernel)
theorem Oe:aC 61:=bx 10 (by decide) (by decide+kernel)
theorem FF:aC 2305843009213693951:=bZ 3 [(1321,1),(331,1),(151,1),(61,1)] (fun qe h=>by
 simp only[List.mem_cons,List.not_mem_nil,or_false] at h
 rcases h with rfl|rfl|rfl|rfl
 ·exact Nk
 ·exact Ak
 ·exact DS
 ·exact Oe) (by decide+kernel)
theorem Td:aC 8707:=bx 96 (by decide) (by decide+kernel)
theorem EX:aC 1913:=bx 46 (by decide) (by decide+kernel)
theorem Gb:aC 2931542417:=bZ 3 [(8707,1),(1913,1)] (fun qe h=>by
 simp only[List.mem_cons,List.not_mem_nil,or_false] at h
 rcases h with rfl|rfl
 ·exact Td
 ·exact EX) (by decide+kernel)
theorem LN:aC 2113:=bx 48 (by decide) (by decide+kernel)
theorem LA:aC 683:=bx 29 (by decide) (by decide+kernel)
theorem Gp:aC 618970019642690137449562111:=bZ 3 [(2931542417,1),(2113,1),(683,1)] (fun qe h=>by
 simp only[List.mem_cons,List.not_mem_nil,or_false] at h
 rcases h with rfl|rfl|rfl
 ·exact Gb
 ·exact LN
 ·exact LA) (by decide+kernel)
theorem E9:aC 1097:=bx 36 (by decide) (by decide+kernel)
theorem MS:aC 131:=bx 14 (by decide) (by decide+kernel)
theorem SE:aC 67254877:=bZ 2 [(1097,1),(131,1)] (fun qe h=>by
 simp only[List.mem_cons,List.not_mem_nil,or_false] at h
 rcases h with rfl|rfl
 ·exact E9
 ·exact MS) (by decide+kernel)
theorem Gd:aC 28059810762433:=bZ 3 [(67254877,1)] (fun qe h=>by
 simp only[List.mem_cons,List.not_mem_nil,or_false] at h
 subst h;exact SE) (by decide+kernel)
theorem Jg:aC 53:=bx 10 (by decide) (by decide+kernel)
theorem FU:aC 37:=bx 9 (by decide) (by decide+kernel)
theorem Qp:aC 13:=bx 6 (by decide) (by decide+kernel)
theorem QH:aC 20394401:=bZ 3 [(53,1),(37,1),(13,1)] (fun qe h=>by
 simp only[List.mem_cons,List.not_mem_nil,or_false] at h
 rcases h with rfl|rfl|rfl
 ·exact Jg
 ·exact FU
 ·exact Qp) (by decide+kernel)
theorem O3:aC 162259276829213363391578010288127:=bZ 3 [(28059810762433,1),(20394401,1)] (fun qe h=>by
 simp only[List.mem_cons,List.not_mem_nil,or_false] at h
 rcases h with rfl|rfl
 ·exact Gd
 ·exact QH) (by decide+kernel)
theorem Qx:aC 699053:=bx 839 (by decide) (by decide+kernel)
theorem LR:aC 77158673929:=bZ 3 [(699053,1)] (fun qe h=>by
 simp only[List.mem_cons,List.not_mem_nil,or_false] at h
 subst h;exact Qx) (by decide+kernel)
theorem G5:aC 649657:=bx 809 (by decide) (by decide+kernel)
theorem Uq:aC 92737:=bx 307 (by decide) (by decide+kernel)
theorem R9:aC 170141183460469231731687303715884105727:=bZ 3 [(77158673929,1),(649657,1),(92737,1)] (fun qe h=>by
 simp only[List.mem_cons,List.not_mem_nil,or_false] at h
 rcases h with rfl|rfl|rfl
 ·exact LR
 ·exact G5
 ·exact Uq) (by decide+kernel)
theorem HB:aC 7963:=bx 92 (by decide) (by decide+kernel)
theorem HZ:aC 3011:=bx 57 (by decide) (by decide+kernel)
theorem O0:aC 575438233:=bZ 2 [(7963,1),(3011,1)] (fun qe h=>by
 simp only[List.mem_cons,List.not_mem_nil,or_false] at h
 rcases h with rfl|rfl
 ·exact HB
 ·exact HZ) (by decide+kernel)
theorem IC:aC 52316542391429:=bZ 2 [(575438233,1)] (fun qe h=>by
 simp only[List.mem_cons,List.not_mem_nil,or_false] at h
 subst h;exact O0) (by decide+kernel)
theorem Uh:aC 104633084782859:=bZ 2 [(52316542391429,1)] (fun qe h=>by
 simp only[List.mem_cons,List.not_mem_nil,or_false] at h
 subst h;exact IC) (by decide+kernel)
theorem Rm:aC 179:=bx 16 (by decide) (by decide+kernel)
theorem TF:aC 31:=bx 8 (by decide) (by decide+kernel)
theorem Nd:aC 7935071:=bZ 2 [(179,1),(31,1)] (fun qe h=>by
 simp only[List.mem_cons,List.not_mem_nil,or_false] at h
 rcases h with rfl|rfl
 ·exact Rm
 ·exact TF) (by decide+kernel)
theorem Tf:aC 15870143:=bZ 2 [(7935071,1)] (fun qe h=>by
 simp only[List.mem_cons,List.not_mem_nil,or_false] at h
 subst h;exact Nd) (by decide+kernel)
theorem UD:aC 401321030361983486780957614729:=bZ 2 [(104633084782859,1),(15870143,1)] (fun qe h=>by
 simp only[List.mem_cons,List.not_mem_nil,or_false] at h
 rcases h with rfl|rfl
 ·exact Uh
 ·exact Tf) (by decide+kernel)
theorem JX:aC 1000000000000000000000000000000000000003:=bZ 2 [(401321030361983486780957614729,1)] (fun qe h=>by
 simp only[List.mem_cons,List.not_mem_nil,or_false] at h
 subst h;exact UD) (by decide+kernel)
theorem O6:aC 25733:=bx 163 (by decide) (by decide+kernel)
theorem T4:aC 1151:=bx 36 (by decide) (by decide+kernel)
theorem Kq:aC 4916701379:=bZ 2 [(25733,1),(1151,1)] (fun qe h=>by
 simp only[List.mem_cons,List.not_mem_nil,or_false] at h
 rcases h with rfl|rfl
 ·exact O6
 ·exact T4) (by decide+kernel)
theorem NT:aC 83:=bx 12 (by decide) (by decide+kernel)
theorem P9:aC 23:=bx 7 (by decide) (by decide+kernel)
theorem Ff:aC 1676254721:=bZ 5 [(83,1),(23,1),(7,3)] (fun qe h=>by
 simp only[List.mem_cons,List.not_mem_nil,or_false] at h
 rcases h with rfl|rfl|rfl
 ·exact NT
 ·exact P9
 ·exact vM) (by decide+kernel)
theorem Tt:aC 149927568276670622397029177:=bZ 2 [(4916701379,1),(1676254721,1)] (fun qe h=>by
 simp only[List.mem_cons,List.not_mem_nil,or_false] at h
 rcases h with rfl|rfl
 ·exact Kq
 ·exact Ff) (by decide+kernel)
theorem NN:aC 9999999999999999999999999999999999999983:=bZ 2 [(149927568276670622397029177,1)] (fun qe h=>by
 simp only[List.mem_cons,List.not_mem_nil,or_false] at h
 subst h;exact Tt) (by decide+kernel)
end PC
namespace L2
open PC
def eX(p:Int):Prop:=2<=p/\∀d:Int,0<d->d∣p->d=1\/d=p
theorem dg{n:Nat}(h:aC n):eX (n:Int):=by
 refine⟨by have:=h.1;omega,fun d d0 hd=>?_⟩
 obtain⟨k,rfl⟩:=Int.eq_ofNat_of_zero_le (Int.le_of_lt d0)
 rcases h.2 k (Int.natCast_dvd_natCast.mp hd) with e|e
 ·left;rw[e];rfl
 ·right;rw[e]
theorem Mi{p:Int}(h2:2<=p)(h:qt p):eX p:=by
 obtain⟨n,rfl⟩:=Int.eq_ofNat_of_zero_le (show 0<=p by omega)
 refine dg (DR (by omega) fun e e1 e2 e3=>?_)
 refine h (e:Int) (by omega) (by rw[<-Int.natCast_mul];exact Int.ofNat_le.mpr e2) ?_
 have:=congrArg (Nat.cast:Nat->Int) e3
 simpa using this
theorem O8:∀p∈qg,eX p:=by
 intro p hp
 simp only[qg,List.mem_cons,List.not_mem_nil,or_false] at hp
 rcases hp with rfl|rfl|rfl|rfl|rfl|rfl|rfl|rfl|rfl|rfl|rfl|rfl|rfl|rfl|rfl|rfl|rfl|rfl|rfl|rfl|rfl|rfl
 ·exact dg sZ
 ·exact dg RM
 ·exact dg Lf
 ·exact dg vM
 ·exact dg sZ
 ·exact dg UB
 ·exact dg M8
 ·exact dg J4
 ·exact dg Ul
 ·exact dg Uk
 ·exact dg Pn
 ·exact dg Sn
 ·exact dg FA
 ·exact dg MC
 ·exact dg HA
 ·exact dg Te
 ·exact dg FF
 ·exact dg Gp
 ·exact dg O3
 ·exact dg R9
 ·exact dg JX
 ·exact dg NN
def xD:Sp:=fun vs H Q _=>∃p b:Int,vs=[.int p, .int b]/\eX p/\p<10^40/\b%p≠0/\∀u:Int,0<=u->u<p->(∃k,u*b=1+p*k)->Q (.int u) H
end L2
set_option maxRecDepth 100000
set_option maxHeartbeats 4000000
namespace L2
open PySem PySem.Spec PyProof.Rows
theorem IJ{p a b:Int}(hp:eX p)(h:p∣a*b)(ha:¬p∣a):p∣b:=by
 have p2:=hp.1
 have g1:((Int.gcd a p:Nat):Int)∣p:=Int.gcd_dvd_right ..
 have g2:((Int.gcd a p:Nat):Int)∣a:=Int.gcd_dvd_left ..
 have g0:0<((Int.gcd a p:Nat):Int):=by
  have:Int.gcd a p≠0:=fun z=>by have:=(Int.gcd_eq_zero_iff.mp z).2;omega
  omega
 rcases hp.2 _ g0 g1 with e|e
 ·have c:Nat.Coprime p.natAbs a.natAbs:=by
   show Nat.gcd p.natAbs a.natAbs=1
   have:Int.gcd a p=1:=by omega
   rw[Nat.gcd_comm];exact this
  have h':p.natAbs∣b.natAbs*a.natAbs:=by rw[Nat.mul_comm,<-Int.natAbs_mul];exact Int.natAbs_dvd_natAbs.mpr h
  exact Int.natAbs_dvd_natAbs.mp (c.dvd_of_dvd_mul_right h')
 ·rw[e] at g2;exact absurd g2 ha
theorem Rl{p a b:Int}(ha:0<=a)(ha':a<p)(hb:0<=b)(hb':b<p)(h:p∣a-b):a=b:=by
 obtain⟨k,e⟩:=h
 rcases Int.lt_trichotomy k 0 with z|z|z
 ·have:p*k<=p*(-1):=Int.mul_le_mul_of_nonneg_left (by omega) (by omega)
  omega
 ·subst z;omega
 ·have:p*1<=p*k:=Int.mul_le_mul_of_nonneg_left (by omega) (by omega)
  omega
end L2
set_option maxRecDepth 100000
set_option maxHeartbeats 4000000
namespace L2
open PySem PySem.Spec PyProof.Rows
section
variable{X:Cx}{pins:List (Addr×Obj)}{σ:List (Option V)}{H:Hp}{s:Shared}{h':Heap}
theorem Inv.G8{t':Nat}{e it T:Addr}{o:HO}(I:Inv X pins σ H s)(k:∀b u,b≠e->b≠it->s.heap.get? b=some u->h'.get? b=some u)(fe:gb X pins H e)(fi:gb X pins H it)(hT:s.heap.objs.size<=T)(xm:T≠e)(yf:T≠it)
  (le:∃u,s.heap.get? e=some u) (li:∃u,s.heap.get? it=some u) (new:aV X.prog X.w (upd H T o) h' T o):Inv X pins σ (upd H T o) {s with heap:=h',toks:=t'}:=by
 have hn:=I.hok.fresh hT
 obtain⟨e0,e1,e2,e3,e4,e5⟩:=fe
 obtain⟨i0,i1,i2,i3,i4,i5⟩:=fi
 have ne:∀b u,H b=some u->b≠e:=fun b u q z=>by rw[z,e0] at q;cases q
 have ni:∀b u,H b=some u->b≠it:=fun b u q z=>by rw[z,i0] at q;cases q
 have nT:∀b u,H b=some u->b≠T:=fun b u q z=>by rw[z,hn] at q;cases q
 refine I.step (g':=s.gens) (d':=s.drawn) (ch:=[e,it]) (fun b hb=>?_) (fun b o _ _ hc q _=>k b o (fun z=>hc (by simp[z])) (fun z=>hc (by simp[z])) q) (fun b o _ _ hc q _=>⟨o.slots,k b o (fun z=>hc (by simp[z])) (fun z=>hc (by simp[z])) q⟩)
  (fun b o hc q n=>?_) (fun b o hc q=>⟨o,k b o (fun z=>hc (by simp[z])) (fun z=>hc (by simp[z])) q⟩) (fun b xs q=>by rw[aq (nT b _ q)];exact q) (fun b o u q=>by rw[aq (nT b _ q)];exact q) (fun b ps q=>⟨#[],by rw[aq (nT b _ q),q];simp⟩) (fun m hm=>?_) (fun b u q=>?_) I.bare
 ·rcases(show b=e\/b=it by simpa using hb) with z|z
  ·subst z;exact⟨e3,e1,e4,e5⟩
  ·subst z;exact⟨i3,i1,i4,i5⟩
 ·rw[aq (fun z=>absurd (Nat.lt_of_lt_of_le (Heap.lt_size q) (by rw[z];exact hT)) (Nat.lt_irrefl _))];exact n
 ·obtain⟨o,es,ep,ho,r⟩:=hm
  exact⟨o,es,ep,k _ o (Ne.symm e1) (Ne.symm i1) ho,r⟩
 ·by_cases hb:b=T
  ·subst hb;rw[aL] at q;cases q;exact new
  ·rw[aq hb] at q
   refine(I.hok b u q).stay (fun c v hc z=>?_) (fun c z=>by rw[aq (nT c _ z)];exact z) fun c xs z=>by rw[aq (nT c _ z)];exact z
   rcases hc with y|y
   ·subst y;exact k _ v (ne _ u q) (ni _ u q) z
   ·exact k c v (ne c _ y) (ni c _ y) z
theorem Inv.Lh{t':Nat}{e it:Addr}(I:Inv X pins σ H s)(k:∀b u,b≠e->b≠it->s.heap.get? b=some u->h'.get? b=some u)(fe:gb X pins H e)(fi:gb X pins H it):Inv X pins σ H {s with heap:=h',toks:=t'}:=by
 obtain⟨e0,e1,e2,e3,e4,e5⟩:=fe
 obtain⟨i0,i1,i2,i3,i4,i5⟩:=fi
 have ne:∀b u,H b=some u->b≠e:=fun b u q z=>by rw[z,e0] at q;cases q
 have ni:∀b u,H b=some u->b≠it:=fun b u q z=>by rw[z,i0] at q;cases q
 refine I.step (g':=s.gens) (d':=s.drawn) (ch:=[e,it]) (fun b hb=>?_) (fun b o _ _ hc q _=>k b o (fun z=>hc (by simp[z])) (fun z=>hc (by simp[z])) q) (fun b o _ _ hc q _=>⟨o.slots,k b o (fun z=>hc (by simp[z])) (fun z=>hc (by simp[z])) q⟩)
  (fun _ _ _ _ n=>n) (fun b o hc q=>⟨o,k b o (fun z=>hc (by simp[z])) (fun z=>hc (by simp[z])) q⟩) (fun _ _ q=>q) (fun _ _ _ q=>q) (fun b ps q=>⟨#[],by rw[q];simp⟩) (fun m hm=>?_) (fun b u q=>?_) I.bare
 ·rcases(show b=e\/b=it by simpa using hb) with z|z
  ·subst z;exact⟨e3,e1,e4,e5⟩
  ·subst z;exact⟨i3,i1,i4,i5⟩
 ·obtain⟨o,es,ep,ho,r⟩:=hm
  exact⟨o,es,ep,k _ o (Ne.symm e1) (Ne.symm i1) ho,r⟩
 ·refine(I.hok b u q).stay (fun c v hc z=>?_) (fun c z=>z) fun c xs z=>z
  rcases hc with y|y
  ·subst y;exact k _ v (ne _ u q) (ni _ u q) z
  ·exact k c v (ne c _ y) (ni c _ y) z
end
def vN(K:PySem.W.Frag)(a:Addr):It:=
 ⟨fun i H=>∃xs x,aM K H a xs/\xs[i]?=some x,fun i H x H'=>∃p y,x= .ref p/\H p=none/\(∀xs,aM K H a xs->xs[i]?=some y)/\H'=upd H p (.tup [.int i,y]),fun i H=>∃xs,aM K H a xs/\xs.length=i⟩
theorem NY{P:Program}{w:World}{K:PySem.W.Frag}{elts:List Expr}{k:Nat}{pos:Pos}(a e it:Addr)(hei:e≠it):
  Turn P w K (.Tuple elts k pos) (vN K a) [e,it] e (fun i h=>(∃old,IsEnum h e it i old)/\h.IsListIter it a i) where
 mem:=by simp
 obj:=fun i h st b hb=>by
  obtain⟨⟨old,s1⟩,⟨o,e1,c,d⟩⟩:=st
  rcases(show b=e\/b=it by simpa using hb) with z|z
  ·subst z
   exact⟨_,s1,fun v z=>by
    have z':Data.fields _=Data.cell v:=z
    cases z'⟩
  ·subst z
   exact⟨o,e1,fun v z=>by rw[d] at z;cases z⟩
 keep:=fun i h h' st k=>⟨let ⟨old,s1⟩:=st.1;⟨old,k e (by simp) _ s1⟩,st.2.at fun o q=>k it (by simp) o q⟩
 item:=by
  intro X hP hw hK hc i pins s σ H E I hf st hg
  subst hP hw hK
  obtain⟨xs,x,hq,hx⟩:=hg
  obtain⟨its,rv,p,hz⟩:=I.list hq
  obtain⟨u,hu,ru⟩:=rv.get hx
  have fe:=hf e (by simp)
  have fi:=hf it (by simp)
  obtain⟨⟨old,s1⟩,s2⟩:=st
  obtain⟨ol,l1,l2,l3⟩:=id p.isList
  obtain⟨oi,i1,i2,i3⟩:=id s2
  have u5:a≠e:=fun z=>by
   subst z
   rw[s1] at l1;cases l1
   exact absurd l2 (by simp)
  have hai:a≠it:=fun z=>by
   subst z
   rw[i1] at l1;cases l1
   rw[i2] at l2
   exact absurd l2 (by simp)
  have W:=WalksT.enumerate (prog:=X.prog) (w:=X.w) (I.ok.hd hc) e it a hei u5 hai its.toArray
  have hi:i<its.toArray.size:=by
   have:=(List.getElem?_eq_some_iff.mp hu).1
   simpa using this
  refine W.item i s _ _ hi ⟨⟨old,s1⟩,s2,p.isList⟩ fun T vals h' tk hv hT Li wM kp=>⟨.ref T,rfl,?_⟩
  refine W.go elts k pos i T _ _ _ wM fun h'' st' CV=>?_
  obtain⟨t,x',hx',FE⟩:=hv
  have FT:x'=u:=by
   have:its.toArray[i]?=some u:=by simpa using hu
   rw[hx'] at this;exact Option.some.inj this
  subst FT FE
  have HN:=W.apart i T h' wM
  obtain⟨_,_,_,xm,yf⟩:=wM
  obtain⟨oT,t1,t2,nT,t3⟩:=Li
  have t1':=CV T oT HN t1
  refine⟨.ref T,upd H T (.tup [.int i,x]),I.G8 (fun b v h1 h2 q=>CV b v (by simp[h1,h2]) (kp b v (by simp[h1,h2]) q)) fe fi hT xm yf ⟨_,s1⟩ ⟨_,i1⟩ ?_,rfl,⟨T,x,rfl,I.hok.fresh hT,fun ys hy=>by rw[I.Af hy hq];exact hx,rfl⟩,⟨st'.1,st'.2.1⟩,fun b hb=>?_⟩
  ·exact⟨by show 2<=sizeLine;decide,[.int i t,x'], .cons ⟨t,rfl⟩ (.cons ru .nil),oT,t1',t2,nT,t3⟩
  ·rw[aq,(hf b hb).1]
   rcases(show b=e\/b=it by simpa using hb) with z|z
   ·rw[z];exact Ne.symm xm
   ·rw[z];exact Ne.symm yf
 done:=by
  intro X hP hw hK hc i pins s σ H E I hf st hg
  subst hP hw hK
  obtain⟨xs,hq,hx⟩:=hg
  obtain⟨its,rv,p,hz⟩:=I.list hq
  have fe:=hf e (by simp)
  have fi:=hf it (by simp)
  obtain⟨⟨old,s1⟩,s2⟩:=st
  obtain⟨ol,l1,l2,l3⟩:=id p.isList
  obtain⟨oi,i1,i2,i3⟩:=id s2
  have hl:=rv.length
  have u5:a≠e:=fun z=>by
   subst z
   rw[s1] at l1;cases l1
   exact absurd l2 (by simp)
  have hai:a≠it:=fun z=>by
   subst z
   rw[i1] at l1;cases l1
   rw[i2] at l2
   exact absurd l2 (by simp)
  have W:=WalksT.enumerate (prog:=X.prog) (w:=X.w) (I.ok.hd hc) e it a hei u5 hai its.toArray
  have hn:its.toArray.size=i:=by rw[List.size_toArray];omega
  refine W.done s _ _ (by rw[hn];exact⟨⟨old,s1⟩,s2,p.isList⟩) fun h' tk kp=>⟨rfl,?_⟩
  exact I.Lh (fun b v h1 h2 q=>kp b v (by simp[h1,h2]) q) fe fi
 self:=fun _ _ _ _ _ st h=>let ⟨old,s1⟩:=st.1;wpAny_pyIter_enum s1 h
def CM(K:PySem.W.Frag)(tl:TE):TI:=fun σ H R=>tl σ H fun x H1=>∃a,x= .ref a/\(∃xs,aM K H1 a xs)/\R (vN K a) H1
theorem AI{X:Cx}{K:PySem.W.Frag}{elts:List Expr}{k:Nat}{tpos:Pos}{l:Expr}{tl:TE}{p pos:Pos}(hK:X.K=K)(hg:Gl X "enumerate")(hm:X.mg "enumerate"=none)(hl:PE X l tl)(hs:starEach [l] X.env=[(false,eval l X.env)]:=by rfl):
    PI X (.Tuple elts k tpos) (.Call (.Name "enumerate" p) [l] [] pos) (CM K tl):=by
  subst hK
  intro pins s σ H R I h
  have ha:PA X [l] (aQ tl bw):=aa hl ai (by rw[hs];rfl)
  refine Call_ (mD I hg hm boot_enumerate (PyProof.Rows.callWith_type1 (aK (ha pos pins s σ H (fun vs H1=>match vs with|[x]=>∃a,x= .ref a/\(∃xs,aM X.K H1 a xs)/\R (vN X.K a) H1|_=>False) I h) fun us s1 ⟨vs,H1,I1,r1,q1⟩=>?_) hs rfl))
  cases r1 with
  |nil=>exact q1.elim
  | cons r rr =>
    cases rr with
    |cons _ _=>exact q1.elim
    |nil=>
    obtain⟨a,e2,⟨xs,hq⟩,q⟩:=q1
    subst e2
    cases r
    obtain⟨its,rv,p,hz⟩:=I1.list hq
    obtain⟨m,hn,_⟩:=I1.loc
    refine enum_rows (h₀:={objs:= #[]}) (L:=X.env.locals) (m:=m) ⟨hn,fun b o z=>?_,Nat.zero_le _⟩ p.isList fun h' e1 e2 e3 e4 kp ne n1 n2 _ _=>?_
    · cases z
    refine wpAny_pyIter_enum e1 ?_
    have I2:Inv X pins σ H1 {s1 with heap:=h'}:=I1.kept (t':=s1.toks) kp
    refine⟨s1.heap.objs.size+1,[s1.heap.objs.size+1,s1.heap.objs.size],_,_,H1,rfl,I2,NY a _ _ ne,⟨⟨_,e1⟩,e2⟩,fun b hb=>?_,q⟩
    rcases(show b=s1.heap.objs.size+1\/b=s1.heap.objs.size by simpa using hb) with z|z
    · subst z;exact I1.nB (Nat.le_succ _) (I1.hok.fresh (Nat.le_succ _))
    · subst z;exact I1.nB (Nat.le_refl _) (I1.hok.fresh (Nat.le_refl _))
end L2
set_option maxRecDepth 100000
set_option maxHeartbeats 4000000
namespace L2
open PySem PySem.Spec PyProof.Rows
section
variable{G:Gx}{ρ ck:Rh}{te:TE}{s:TS}{gt:TG}{E:DE}{K:PySem.W.Frag}{Θ:Bool->List PyData->Prop}{tc:TT}{mp:List (Option Nat)}
theorem Sv.B6(h:Ev G ρ te fun f x=>∃ds,x= .list ds/\∀v,lP (G.hd f (.list ds) v) ρ ds.length (fun i d=>∃e,ds[i]?=some e/\d= .tuple [.int i,e]) f gt s E):Sv G ρ (mR (CM K te) gt s) E:=fun nb σ H D W KK=>
 h nb σ H _ W fun f v H1 x ⟨ds,ex,q⟩ s1 hv=>by
  subst ex
  obtain⟨I,h0,ht,he⟩:=q v
  have W1:=(W.step s1).hd hv
  obtain⟨a,xs,rfl,n,hx,hd⟩:=hv.cU
  have key:∀{nb ρ' σ H},Wd (G.hd f (.list ds) (.ref a)) nb ρ' σ H->∃xs,H a=some (.lst xs)/\ah (G.S nb f) H ds xs:=fun W=>by
   obtain⟨a',xs',e',_,h',d'⟩:=W.fF.2.cU
   cases e'
   exact⟨xs',h',d'⟩
  refine⟨a,rfl,⟨xs, .of hx⟩,?_⟩
  refine⟨fun i m σ H=>m=ds.length-i/\i<=ds.length/\∃nb ρ',I i ρ'/\Wd (G.hd f (.list ds) (.ref a)) nb ρ' σ H,⟨ds.length,by simp,Nat.zero_le _,nb,ρ,h0,W1⟩,?_⟩
  rintro i m σ H ⟨rfl,hi,nb,ρ',hI,W⟩
  obtain⟨ys,hy,hD⟩:=key W
  have hl:=hD.length
  by_cases hlt:i<ds.length
  ·refine .inr ⟨⟨ys,ys[i]'(by omega), .of hy,List.getElem?_eq_getElem _⟩,fun σ H=>∃nb ρ',I (i+1) ρ'/\Wd (G.hd f (.list ds) (.ref a)) nb ρ' σ H,fun σ' H' q=>⟨ds.length-(i+1),by omega,rfl,hlt,q⟩,fun x H' y=>?_⟩
   obtain⟨p,y,e,hn,hz,e2⟩:=y
   subst e e2
   have hx:=hz ys (.of hy)
   obtain⟨x',hx',dx⟩:=hD.get (List.getElem?_eq_getElem hlt)
   rw[hx] at hx';cases hx'
   have st:Step (G.hd f (.list ds) (.ref a)).B H (upd H p (.tup [.int i,y])):= .same W.au (cz hn)
   refine ht i _ ρ' ⟨_,List.getElem?_eq_getElem hlt,rfl⟩ hI nb σ _ _ _ (W.step st) (.tup (W.fresh hn) aL (.cons (.int _) (.cons (dx.keep st.cX) .nil))) fun σ2 dZ q W2=>q nb σ2 _ _ W2 ?_
   exact⟨fun nb ρ σ H q W=>⟨nb,ρ,q,W⟩,fun nb ρ σ H q W=>KK.nx nb ρ σ H q W.fF.1,fun nb ρ σ H q W=>⟨nb,ρ,q,W⟩,fun nb ρ σ f v H d q W hv=>KK.rt nb ρ σ f v H d q W.fF.1 hv,fun nb ρ σ v H q W=>KK.rw nb ρ σ v H q W.fF.1⟩
  ·have e:i=ds.length:=by omega
   subst e
   exact .inl ⟨⟨ys, .of hy,by omega⟩,KK.nx nb ρ' σ H (he ρ' hI) W.fF.1⟩
end
end L2
set_option maxRecDepth 100000
set_option maxHeartbeats 4000000
namespace L2
open PySem PySem.Spec PyProof.Rows
section
variable{G:Gx}{ρ:Rh}{Φ:Pd}{te:TE}{t:TA}{i n:Nat}{f:Bool}{ds:List PyData}{Θ:List PyData->Prop}
theorem Ev.tupS(h:Av G ρ t fun es=>es.length<=10000/\Φ (fP es||dW (es.map (·.2))) (.tuple (es.map (·.2)))):Ev G ρ (mP t) Φ:=fun nb σ H Q W z=>
 h nb σ H _ W fun es vs H1 ⟨hl,p⟩ s1 q1=>⟨Nat.le_trans (by rw[q1.len];exact hl) (by decide),fun a ha=>z _ _ _ _ p (s1.trans (.same (W.step s1).au (cz ha))) (by
  cases hs:dW (es.map (·.2)) with
  |true=>rw[Bool.or_true];exact .tup ((W.step s1).fresh ha) aL ((q1.all (f:=false) fun z=>by cases z).iK hs)
  |false=>rw[Bool.or_false];exact .tup ((W.step s1).fresh ha) aL ((q1.all fun z=>z).keep (aJ.of (cz ha))))⟩
theorem Ev.Rz(h:Ev G ρ te fun _ x=>∃n:Int,x= .int n/\2<=n/\n<=10002/\∀r:Int,eX r->r<10^40->Φ true (.int r)):Ev G ρ (fu yJ [] E0 (aQ te bw)) Φ:=fun nb σ H Q W z=>
 h nb σ H _ W fun f v H1 d ⟨n,e,h1,h2,p⟩ s1 hv=>by
  subst e
  exact⟨n,by rw[hv.bG];rfl,h1,h2,fun r H' sm r1 r2 r3=>z true _ H' _ (p r (Mi r1 r3) (by omega)) (s1.trans (.same (W.step s1).au sm)) (.int r)⟩
theorem Ev.str{x:Str}(h:Φ true (.str x)):Ev G ρ (tC (.str x)) Φ:=fun nb σ H Q W z=>z true _ H _ h (.refl W.au) (by unfold af;rfl)
end
theorem Eu.fin{p b L lt t:Int}(h:Eu p b L lt 0 t)(hp:eX p)(hb:b%p≠0):∃k,lt%p*b=1+p*k:=by
 obtain⟨g1,g2⟩:=h.dv L (Int.dvd_refl L) (Int.dvd_zero L)
 have m1:=Int.emod_nonneg b (show p≠0 by have:=hp.1;omega)
 have m2:=Int.emod_lt_of_pos b (show 0<p by have:=hp.1;omega)
 have hL:L=1:=by
  rcases hp.2 L h.l0 g1 with e|e
  ·exact e
  ·exfalso
   rw[e] at g2
   have:=Int.le_of_dvd (by omega) g2
   omega
 obtain⟨k,hk⟩:=h.lc
 have e:=Int.mul_ediv_add_emod lt p
 refine⟨-k-lt/p*b,?_⟩
 have e2:lt%p=lt-p*(lt/p):=by omega
 rw[e2,Int.sub_mul,Int.mul_sub,Int.mul_neg,Int.mul_assoc]
 omega
noncomputable def sol(p b a:Int):Int:=open Classical in if h:∃x,0<=x/\x<p/\∃k,b*x-a=p*k then Classical.choose h else 0
theorem AB{p b a x:Int}(hp:eX p)(hb:b%p≠0)(h0:0<=x)(h1:x<p)(hx:∃k,b*x-a=p*k):x=sol p b a:=by
 have ex:∃x,0<=x/\x<p/\∃k,b*x-a=p*k:=⟨x,h0,h1,hx⟩
 unfold sol
 rw[dif_pos ex]
 obtain⟨g0,g1,k',hk'⟩:=Classical.choose_spec ex
 generalize Classical.choose ex=y at*
 obtain⟨k,hk⟩:=hx
 refine Rl h0 h1 g0 g1 (IJ hp (a:=b) ⟨k-k',?_⟩ fun z=>hb (Int.emod_eq_zero_of_dvd z))
 rw[Int.mul_sub,Int.mul_sub];omega
theorem yN{p b a:Int}(hp:0<p):0<=sol p b a/\sol p b a<p:=by
 unfold sol
 split
 ·rename_i h
  obtain⟨g0,g1,_⟩:=Classical.choose_spec h
  exact⟨g0,g1⟩
 ·omega
end L2
set_option maxRecDepth 100000
set_option maxHeartbeats 4000000
namespace L2
open PySem PySem.Spec PyProof.Rows
section
variable{G:Gx}{ρ:Rh}{Φ:Pd}{ta tb te:TE}{E:DE}{K:PySem.W.Frag}
theorem Ev.U1{tl th:TO}(h:Ev G ρ te fun f x=>∃ds,x= .tuple ds/\Ov G ρ tl fun lo=>Ov G ρ th fun hi=>¬(HT.cO ds.length 0 lo=0/\HT.cO ds.length ds.length hi=ds.length)/\Φ f (.tuple (eN ds lo hi))):Ev G ρ (nP (KJ K) te tl th) Φ:=fun nb σ H Q W z=>
 h nb σ H _ W fun f v H1 d ⟨ds,e,q⟩ s1 hv=>q nb σ H1 _ (W.step s1) fun lo H2 q2 s2=>q2 nb σ H2 _ ((W.step s1).step s2) fun hi H3 ⟨hn,q3⟩ s3=>by
  subst e
  obtain⟨a,xs,rfl,n,hx,hd⟩:=((hv.keep s2.cX).keep s3.cX).ofT
  have W3:=((W.step s1).step s2).step s3
  refine⟨a,xs,rfl, .of hx,by rw[hd.length];exact hn,fun p hp=>?_⟩
  exact z f _ _ _ q3 (s1.trans (s2.trans (s3.trans (.same W3.au (cz hp))))) (.tup (W3.fresh hp) aL (hd.cut.keep (aJ.of (cz hp))))
theorem Ev.UR(h:Ev G ρ ta fun f x=>∃ds,x= .tuple ds/\ds≠[]/\Ev G ρ tb fun g y=>∃es,y= .tuple es/\es≠[]/\ds.length+es.length<=10000/\Φ (f && g) (.tuple (ds++es))):Ev G ρ (cD (Fy K) ta tb) Φ:=fun nb σ H Q W z=>
 h nb σ H _ W fun f v H1 d ⟨ds,e,hne,q⟩ s1 hv=>q nb σ H1 _ (W.step s1) fun g u H2 d2 ⟨es,e2,RB,hl,p⟩ s2 hu=>by
  subst e e2
  obtain⟨a,xs,rfl,n,hx,hd⟩:=(hv.keep s2.cX).ofT
  obtain⟨c,ys,rfl,m,hy,hc⟩:=hu.ofT
  have W2:=(W.step s1).step s2
  have oH:=hd.length
  have hyl:=hc.length
  refine⟨a,c,xs,ys,rfl,rfl, .of hx, .of hy,fun z=>hne (List.length_eq_zero_iff.mp (by rw[<-oH,z];rfl)),Nat.le_trans (by rw[oH,hyl];exact hl) (by decide),fun z=>absurd (List.length_eq_zero_iff.mp (by rw[<-hyl,z];rfl)) RB,fun _ q hq=>?_⟩
  refine z (f && g) _ _ _ p (s1.trans (s2.trans (.same W2.au (cz hq)))) (.tup (W2.fresh hq) aL ?_)
  exact(ah.append (hd.av (aS (fun z=>(Bool.and_eq_true _ _▸z).1) fun _ z=>z)) (hc.av (aS (fun z=>(Bool.and_eq_true _ _▸z).2) fun _ z=>z))).keep (aJ.of (cz hq))
end
end L2
set_option maxRecDepth 100000
set_option maxHeartbeats 4000000
namespace L2
open PySem PySem.Spec PyProof.Rows
def qE(es:List Fd):Bool:=es.all fun e=>e.1||gx e.2
section
variable{G:Gx}{ρ:Rh}{Φ:Pd}{t:TA}{te:TE}
theorem iD.Dh{nb:Addr->Prop}{H:Hp}:∀{es:List Fd} {vs:List V} {f:Bool},iD G nb H es vs->(f=true->qE es=true)->ah (G.S nb f) H (es.map (·.2)) vs
  |[],_,_,h,_=>by unfold iD at h;subst h;exact .nil
  | e :: es, _, f, h, hf => by
    obtain⟨v,ws,rfl,h1,h2⟩:=h
    have hh:f=true->(e.1||gx e.2)=true/\qE es=true:=fun z=>by
      have:=hf z
      unfold qE at this
      rw[List.all_cons,Bool.and_eq_true] at this
      exact this
    refine .cons ?_ (h2.Dh fun z=>(hh z).2)
    cases hs:gx e.2 with
    |true=>exact h1.iK hs
    |false=>exact h1.av (aS (fun z=>by have:=(hh z).1;rw[hs,Bool.or_false] at this;exact this) fun _ z=>z)
theorem Ev.Ka(h:Av G ρ t fun es=>es.length<=10000/\Φ (qE es) (.tuple (es.map (·.2)))):Ev G ρ (mP t) Φ:=fun nb σ H Q W z=>
 h nb σ H _ W fun es vs H1 ⟨hl,p⟩ s1 q1=>⟨Nat.le_trans (by rw[q1.len];exact hl) (by decide),fun a ha=>z _ _ _ _ p (s1.trans (.same (W.step s1).au (cz ha)))
  (.tup ((W.step s1).fresh ha) aL ((q1.Dh fun z=>z).keep (aJ.of (cz ha))))⟩
end
def JI:R2:=fun x y H Q=>∃a b:Bool,x= .bl a/\y= .bl b/\Q (.bl (!(a==b))) H
theorem Ev.U3{G:Gx}{ρ:Rh}{ta:TE}{b:Bool}{Φ:Pd}(h:Ev G ρ ta fun _ x=>∃a,x= .bool a/\Φ true (.bool (!(a==b)))):Ev G ρ (cD JI ta (tC (.bl b))) Φ:=fun nb σ H Q W z=>
 h nb σ H _ W fun f v H1 d ⟨a,e,q⟩ s1 hv=>by
  subst e
  unfold af at hv
  subst hv
  exact⟨a,b,rfl,rfl,z true _ H1 _ q s1 (.bl _)⟩
abbrev bD(r:List Int):PyData:= .list (r.map .int)
end L2
set_option maxRecDepth 100000
set_option maxHeartbeats 4000000
namespace L2
open PySem PySem.Spec PyProof.Rows
theorem ah.DV{S:Addr->Prop}{H:Hp}:∀{ds:List PyData} {xs:List V},ds.length=xs.length->(∀(i:Nat) d x,ds[i]?=some d->xs[i]?=some x->af S H d x)->ah S H ds xs
 |[],[],_,_=> .nil
 |[],_::_,h,_=>by simp at h
 |_::_,[],h,_=>by simp at h
 |d::ds,x::xs,h,q=> .cons (q 0 d x rfl rfl) (ah.DV (by simpa using h) fun i d' x' e1 e2=>q (i+1) d' x' (by simpa using e1) (by simpa using e2))
end L2
set_option maxRecDepth 100000
namespace L2
open PySem PySem.Spec PyProof.Rows
section
variable{κ:Type}[DecidableEq κ]
def dO(kvs:List (κ×V))(k:κ):Option V:=(kvs.find? fun kv=>decide (kv.1=k)).map (·.2)
def putK(kvs:List (κ×V))(k:κ)(v:V):List (κ×V):=
 if(kvs.any fun kv=>decide (kv.1=k))=true then kvs.map (fun kv=>if kv.1=k then(kv.1,v) else kv) else kvs++[(k,v)]
theorem Ip{k:κ}:dO ([]:List (κ×V)) k=none:=rfl
theorem o5{p:κ×V}{r:List (κ×V)}{k:κ}(e:p.1=k):dO (p::r) k=some p.2:=by simp[dO,List.find?_cons,e]
theorem nA{p:κ×V}{r:List (κ×V)}{k:κ}(e:¬p.1=k):dO (p::r) k=dO r k:=by simp[dO,List.find?_cons,e]
theorem uH(k:κ):∀kvs:List (κ×V),(kvs.any fun kv=>decide (kv.1=k))=(dO kvs k).isSome
  |[]=>rfl
  | p :: r => by
    rw[List.any_cons]
    by_cases e:p.1=k
    · simp only[o5 e,decide_eq_true e,Bool.true_or,Option.isSome_some]
    · rw[nA e,decide_eq_false e,Bool.false_or];exact uH k r
theorem D3(kvs:List (κ×V))(k:κ)(v:V):(putK kvs k v).length<=kvs.length+1:=by
 unfold putK
 split
 ·rw[List.length_map];omega
 ·rw[List.length_append,List.length_cons,List.length_nil];omega
theorem Jm{kvs:List (κ×V)}{k:κ}(v:V)(h:dO kvs k=none):putK kvs k v=kvs++[(k,v)]:=by
 unfold putK
 rw[uH,h]
 exact if_neg (by decide)
theorem gZ.Be{o:Option V}{u:Option Value}(r:gZ o u):o.isSome=u.isSome:=by
  cases o with
  | none => cases u with
    |none=>rfl
    |some _=>exact(show False from r).elim
  | some _ => cases u with
    |none=>exact(show False from r).elim
    |some _=>rfl
theorem gZ.getD{o:Option V}{u:Option Value}{d:V}{d':Value}(r:gZ o u)(rd:RelV d d'):RelV (o.getD d) (u.getD d'):=by
  cases o with
  | none => cases u with
    |none=>exact rd
    |some _=>exact(show False from r).elim
  | some _ => cases u with
    |none=>exact(show False from r).elim
    |some _=>exact r
theorem KV.val{kvs:List (κ×V)}{vs:List (κ×Value)}(r:KV kvs vs)(k:κ):gZ (dO kvs k) (valueAt vs k):=by
  unfold KV at r
  induction r with
  |nil=>exact True.intro
  | @cons p q ps qs h t ih =>
    obtain⟨h1,h2⟩:=h
    by_cases e:p.1=k
    · have e':q.1=k:=h1.symm.trans e
      have b:valueAt (q::qs) k=some q.2:=by simp[valueAt,List.find?_cons,e']
      rw[o5 e,b];exact h2
    · have e':¬q.1=k:=fun z=>e (h1.trans z)
      have b:valueAt (q::qs) k=valueAt qs k:=by simp[valueAt,List.find?_cons,e']
      rw[nA e,b];exact ih
theorem KV.any{kvs:List (κ×V)}{vs:List (κ×Value)}(r:KV kvs vs)(k:κ):(kvs.any fun kv=>decide (kv.1=k))=vs.any fun kv=>decide (kv.1=k):=by
 unfold KV at r
 induction r with
 |nil=>rfl
 |cons h t ih=>rw[List.any_cons,List.any_cons,ih,h.1]
theorem KV.repl{kvs:List (κ×V)}{vs:List (κ×Value)}(r:KV kvs vs)(k:κ){y:V}{u:Value}(ry:RelV y u):
    KV (kvs.map fun kv=>if kv.1=k then(kv.1,y) else kv) (vs.map fun kv=>if kv.1=k then(kv.1,u) else kv):=by
  unfold KV at r⊢
  induction r with
  |nil=>exact .nil
  | @cons p q ps qs h t ih =>
    rw[List.map_cons,List.map_cons]
    refine .cons ?_ ih
    obtain⟨h1,h2⟩:=h
    by_cases e:p.1=k
    · rw[if_pos e,if_pos (h1.symm.trans e)];exact⟨h1,ry⟩
    · rw[if_neg e,if_neg (fun z=>e (h1.trans z))];exact⟨h1,h2⟩
theorem KV.put{kvs:List (κ×V)}{vs:List (κ×Value)}(r:KV kvs vs)(k:κ){y:V}{u:Value}(ry:RelV y u):KV (putK kvs k y) (stored vs k u):=by
 unfold putK stored
 rw[r.any k]
 by_cases e:(vs.any fun kv=>decide (kv.1=k))=true
 ·rw[if_pos e,if_pos e];exact r.repl k ry
 ·rw[if_neg e,if_neg e];exact Paired.snoc r ⟨rfl,ry⟩
theorem KV.keys{kvs:List (κ×V)}{vs:List (κ×Value)}(r:KV kvs vs):kvs.map (·.1)=vs.map (·.1):=by
 unfold KV at r
 induction r with
 |nil=>rfl
 |cons h t ih=>rw[List.map_cons,List.map_cons,ih,h.1]
theorem KV.length{kvs:List (κ×V)}{vs:List (κ×Value)}(r:KV kvs vs):kvs.length=vs.length:=Paired.length r
end
theorem m6{P:Program}{w:World}{k:Key}{u:Value}(r:RelV (kV k) u):(cJ P w).is k u=true:=by
 cases k with
 |inl i=>obtain⟨t,e⟩:=(show∃t,u=Value.int i t from r);subst e;exact RP P w i t
 |inr x=>obtain⟨t,e⟩:=(show∃t,u=Value.str x t from r);subst e;exact MG P w x t
theorem BL{P:Program}{w:World}:∀{ks:List Key} {us:List Value},Vals (ks.map kV) us->ItemsAre (cJ P w) ks us
  |[],_,r=>by rw[List.map_nil] at r;cases r;exact .nil
  | k :: ks, _, r => by
    rw[List.map_cons] at r
    cases r with
    |cons h t=>exact .cons (m6 h) (BL t)
abbrev KT(H:Hp):List (List Key×V)->List (List Key×Addr×Value)->Prop:=Paired fun p q=>p.1=q.1/\H q.2.1=some (.tup (p.1.map kV))/\RelV p.2 q.2.2
theorem KT.val{H:Hp}{kvs:List (List Key×V)}{xs:List (List Key×Addr×Value)}(r:KT H kvs xs)(k:List Key):gZ (dO kvs k) ((atKey xs k).map (·.2)):=by
  induction r with
  |nil=>exact True.intro
  | @cons p q ps qs h t ih =>
    obtain⟨h1,_,h2⟩:=h
    by_cases e:p.1=k
    · have e':q.1=k:=h1.symm.trans e
      have b:atKey (q::qs) k=some q.2:=by simp[atKey,List.find?_cons,e']
      rw[o5 e,b];exact h2
    · have e':¬q.1=k:=fun z=>e (h1.trans z)
      have b:atKey (q::qs) k=atKey qs k:=by simp[atKey,List.find?_cons,e']
      rw[nA e,b];exact ih
section
variable{P:Program}{w:World}{H:Hp}{h:Heap}{a:Addr}
theorem z4{u:HO}(ok:cB P w H h)(e:Rd H a u):aV P w H h a u:=e.ok ok
theorem kE{kvs:List (Key×V)}(ok:cB P w H h)(e:Rd H a (.dK kvs)):kvs.length<=sizeLine/\(a==sysModules)=false/\∃vs,KV kvs vs/\h.DictOf (cJ P w) a vs:=
 show aV P w H h a (.dK kvs) from z4 ok e
theorem yU{kvs:List (Key×V)}(ok:cB P w H h)(e:H a=some (.dK kvs)):kvs.length<=sizeLine/\(a==sysModules)=false/\∃vs,KV kvs vs/\h.DictOf (cJ P w) a vs:=kE ok (.inl e)
theorem DU{ks:List Key}(ok:cB P w H h)(e:H a=some (.tup (ks.map kV))):(tupleKind (cJ P w)).is h ks a:=by
 obtain⟨_,its,r,o,h1,h2,n,h3⟩:=(show aV P w H h a (.tup (ks.map kV)) from ok a _ e)
 exact⟨o,its.toArray,n,h1,h2,h3,by simpa using BL r⟩
theorem QZ{kvs:List (List Key×V)}(ok:cB P w H h)(e:Rd H a (.dT kvs)):kvs.length<=sizeLine/\(a==sysModules)=false/\
    ∃xs,KT H kvs xs/\h.DictOfH (tupleKind (cJ P w)) a xs:=by
  obtain⟨z,y,xs,r,o,es,ep,h1,h2,h3,h4,h5⟩:=(show aV P w H h a (.dT kvs) from z4 ok e)
  refine⟨z,y,xs,r,o,es,ep,h1,h2,h3,h4,fun x hx=>?_,h5⟩
  have all:∀{l:List (List Key×V)} {m:List (List Key×Addr×Value)},KT H l m->∀x∈m,(tupleKind (cJ P w)).is h x.1 x.2.1:=by
    intro l m q
    induction q with
    |nil=>intro x hx;exact nomatch hx
    | @cons p q ps qs hq t ih =>
      intro x hx
      rcases List.mem_cons.mp hx with e|hx
      · subst e
        exact DU ok (by rw[<-hq.1];exact hq.2.1)
      · exact ih x hx
  exact all r x hx
end
def Bv(H:Hp)(a:Addr)(y:V)(r:Option V):Prop:=
 (∃kvs k,Rd H a (.dK kvs)/\y=kV k/\r=dO kvs k)\/∃kvs k b,Rd H a (.dT kvs)/\y= .ref b/\H b=some (.tup (k.map kV))/\r=dO kvs k
section
variable{X:Cx}{pins:List (Addr×Obj)}{σ:St}{H:Hp}{s:Shared}{a:Addr}{y v:V}{u r:Value}{o:Option V}{A:Around}{E:Value->Shared->Prop}
theorem Inv.big(I:Inv X pins σ H s):sysModules<s.heap.objs.size:=by
 have h:mainGlobals<s.heap.objs.size:=(I.mod.glob.keeps I.bk).lt
 exact Nat.lt_trans (by decide) h
theorem L8{Q:Value->Shared->Prop}(hu:A.units+1<cLine)(I:Inv X pins σ H s)(g:Bv H a y o)(ry:RelV y u)(h:∀s',Inv X pins σ H s'->Q (.bool o.isSome) s'):
  wpAny (model X.prog X.w) A (compareOp .In u (.ref a)) Q E s:=by
 rcases g with ⟨kvs,k,e,ey,l⟩|⟨kvs,k,b,e,ey,eb,l⟩
 ·subst ey
  obtain⟨z,hd,vs,rel,dd⟩:=kE I.hok e
  refine wpAny_in_of (m6 ry) hd dd.mapOf ?_
  rw[<-(rel.val k).Be,<-l]
  exact h _ (I.tok _)
 ·subst ey
  cases (show u=Value.ref b from ry)
  obtain⟨z,hd,xs,rel,dd⟩:=QZ I.hok e
  refine wpAny_in_heap (tupleKind_room_in1 hu) (DU I.hok eb) hd dd ?_
  have q:=(rel.val k).Be
  rw[Option.isSome_map] at q
  rw[<-q,<-l]
  exact h _ (I.tok _)
theorem RT{h':Heap}{t':Nat}{ob:HO}(I:Inv X pins σ H s)(mu:oh (H a))(hs:Heap.SameBut a s.heap h')(he:∃q,h'.get? a=some q)(new:aV X.prog X.w (upd H a ob) h' a ob):
  Inv X pins σ (upd H a ob) {s with heap:=h',toks:=t'}:=
 I.write (x:=a) (e:=a) mu (.inl rfl) (fun b q hb z=>(hs.2 b hb).trans z) he new
theorem Cz{P:Program}{w:World}{H':Hp}{h':Heap}{kvs:List (Key×V)}{vs:List (Key×Value)}(z:kvs.length<=sizeLine)(hd:(a==sysModules)=false)(rel:KV kvs vs)(dd:h'.DictOf (cJ P w) a vs):
  aV P w H' h' a (.dK kvs):=⟨z,hd,vs,rel,dd⟩
end
theorem KP{P:Program}{w:World}{H:Hp}(h:Heap)(hb:sysModules<h.objs.size):aV P w H (h.push {cls:= .type "dict",data:= .dict #[]}) h.objs.size (.dK []):=
 ⟨Nat.zero_le _,beq_eq_false_iff_ne.mpr (Ne.symm (Nat.ne_of_lt hb)),[], .nil,Heap.DictOf.new h⟩
def wL:TE:=fun _ H Q=>∀p,H p=none->Q (.ref p) (upd H p (.dK []))
section
variable{X:Cx}{pos:Pos}
theorem BJ:PE X (.Dict [] [] pos) wL:=fun pins s σ H Q I h=>
 wpAny_Dict_empty ⟨.ref s.heap.objs.size,_,I.laid (a:=s.heap.objs.size) (o:= .dK []) (t':=s.toks) (fun _ _ q=>Heap.get?_push_of_some _ q) (Nat.le_refl _) (KP s.heap I.big),rfl,h _ (I.hok.fresh (Nat.le_refl _))⟩
end
def je(kvs more:List (Key×V)):List (Key×V):=more.foldl (fun acc kv=>putK acc kv.1 kv.2) kvs
theorem KV.merge:∀{more:List (Key×V)} {rs:List (Key×Value)} {kvs:List (Key×V)} {vs:List (Key×Value)},KV more rs->KV kvs vs->KV (je kvs more) (merged vs rs):=by
  intro more rs kvs vs r
  unfold KV at r
  induction r generalizing kvs vs with
  |nil=>intro q;exact q
  | @cons p q ps qs h t ih =>
    intro r0
    have e:KV (putK kvs p.1 p.2) (stored vs q.1 q.2):=by
      have:=r0.put p.1 h.2
      rw[<-h.1];exact this
    exact ih e
theorem Ad:∀(more kvs:List (Key×V)),(je kvs more).length<=kvs.length+more.length
  |[],kvs=>by show kvs.length<=kvs.length+0;omega
  | p :: r, kvs => by
    have h1:=Ad r (putK kvs p.1 p.2)
    have h2:=D3 kvs p.1 p.2
    show(je (putK kvs p.1 p.2) r).length<=_
    rw[List.length_cons];omega
end L2
/-THE LAST THEOREM (shape;LID,My.*are yours):
   My.Adr:a structure of the addresses that your layer names (classes,functions);My.Txt K t:a structure (Prop) of the equations over K;
   My.txt_mk:{K} {implicit addresses ..} (e1:nsIn K mainGlobals "law"=some (some (.ref f))) (e2:K.lookup f=some ⟨oc,od, .func (fnOf "law" "law" params body scope dV kV doc pm an cdv ct),sl⟩) (e3:codeIn K cdv "law"=true) .. :∃t,My.Txt K t
set_option maxRecDepth 100000 in
set_option maxHeartbeats 0 in
(the tactic k_is has no namespace:write k_is)-/
set_option maxRecDepth 100000
set_option maxHeartbeats 4000000
namespace L2
open PySem PySem.Spec PyProof.Rows
section
variable{X:Cx}
def jn:R2:=fun x y H Q=>∃a kvs k v,x= .ref a/\y=kV k/\Rd H a (.dK kvs)/\dO kvs k=some v/\Q v H
theorem qU:iM X jn:=by
 intro value slice pins s σ H x y v u Q I rx ry h hs
 obtain⟨a,kvs,k,z,rfl,rfl,hH,hv,q⟩:=h
 cases rx
 obtain⟨hz,hd,vs,rel,dd⟩:=kE I.hok hH
 have hT:=dd.typeIs (s:=s)
 obtain⟨w',hw,rw'⟩:=gZ.some_of (v:=z) (o:=valueAt vs k) (by rw[<-hv];exact rel.val k)
 unfold subscriptTail
 refine wpAny_bind ?_
 rw[getitemInPython_of_ne hT.not_modules]
 refine wpAny_bind (wpAny_specialOf hT PySem.F.slot_dict_getitem.lookup ?_)
 have fin:wpAny (model X.prog X.w) X.A (subscripted slice false (.ref a) u) (fun r s₃=>wpAny (model X.prog X.w) X.A (letTemporaryGo value (.ref a) r>>=fun _=>pure r) (EP X pins σ Q) X.xe s₃) X.xe s:=by
  rw[hs]
  refine wpAny_operating (wpAny_getItem_of (m6 ry) dd.mapOf hw ?_)
  exact wpAny_bind (wpAny_letTemporaryGo (wpAny_pure ⟨z,H,I.tok _,rw',q⟩))
 first
  |exact wpAny_pure (wpAny_bind fin)
  |exact wpAny_bind (wpAny_pure (wpAny_bind fin))
  |exact wpAny_bind fin
def pP:V->V->V->Hp->(Hp->Prop)->Prop:=fun o i v H Q=>∃a kvs k,o= .ref a/\i=kV k/\H a=some (.dK kvs)/\kvs.length<sizeLine/\Q (upd H a (.dK (putK kvs k v)))
theorem set_dict:vj X pP:=by
 intro pins s σ H o i v ov iv u Q I ro ri rv h
 obtain⟨a,kvs,k,rfl,rfl,hH,Cr,q⟩:=h
 cases ro
 obtain⟨z,hd,vs,rel,dd⟩:=yU I.hok hH
 have hz:vs.length<=sizeLine:=by rw[<-rel.length];exact z
 have hl:(putK kvs k v).length<=sizeLine:=by have:=D3 kvs k v;omega
 refine wpAny_setItem_pairs (hsz:=hz) (m6 ri) dd fun h' Bq hs=>?_
 have he:∃q,h'.get? a=some q:=let ⟨q,_,_,hq,_⟩:=Bq;⟨q,hq⟩
 exact⟨_,RT I (by rw[hH];exact True.intro) hs he (Cz hl hd (rel.put k rv) Bq),q⟩
def ze:V->List V->Hp->VK->Prop:=fun x vs H Q=>∃a kvs k d,x= .ref a/\vs=[kV k,d]/\Rd H a (.dK kvs)/\Q ((dO kvs k).getD d) H
theorem AV:mL X "dict.get" ze:=by
  intro pins s σ H x xs v us Q I rx rv h
  obtain⟨a,kvs,k,d,rfl,rfl,hH,q⟩:=h
  cases rx
  cases rv with
  | cons r1 r2 =>
    obtain⟨r,rfl,rd⟩:=vals1 r2
    obtain⟨z,hd,vs,rel,dd⟩:=kE I.hok hH
    refine call_meetsIn PySem.F.slot_dict_get dd.typeIs PySem.F.entry_dict_get (PySem.F.args_dict_get_3 _ _ _) (meets_dict_get_default (cJ X.prog X.w) a (m6 r1) hd r) ⟨_,dd.mapOf,?_⟩
    exact⟨_,H,I.tok _,(rel.val k).getD rd,q⟩
end
end L2
set_option maxRecDepth 100000
set_option maxHeartbeats 4000000
namespace L2
open PySem PySem.Spec PyProof.Rows
theorem MR{N:List Str}{vs:List V}{ds:List PyData}{nb:Addr->Prop}{H:Hp}{ρ:Rh}{P:St->Hp->Prop}(hl:iG nb H)(hd:ah nb H ds vs)(dM:ρ=ds.map (Sl.d false)++List.replicate (N.length-ds.length) .no)
  (h:∀br σ H1,Wd ⟨none,H,nb,[]⟩ br ρ σ H1->P σ H1):P (start N vs) H:=
 Sv.fE (t:=fun _ σ H1=>P σ H1) (Φ:=fun _ _=>False) (Q:=fun _ _=>True) hl hd (fun _ _ _ _ z=>z.elim) dM (fun br σ H1 _ W _=>h br σ H1 W)
end L2
set_option maxRecDepth 100000
set_option maxHeartbeats 4000000
namespace L2
abbrev Cn:=List (Int×Int)
structure Dm(cs:Cn):Prop where
 jD:∀c∈cs,0<=c.1/\c.1<=12/\0<=c.2/\c.2<=10^7
 nd:(cs.map (·.1)).Nodup
 len:cs.length<=14
 pos:∃c∈cs,0<c.1/\0<c.2
def BD:Cn->Rat->Rat
 |[],_=>0
 |c::r,v=>(if 0<c.1 then((c.1*c.2:Int):Rat)*v^(c.1.toNat-1) else 0)+BD r v
def zS:Cn->Int
 |[]=>0
 |c::r=>c.1*c.2+zS r
def EA(cs:Cn)(v:Rat):Rat:=BD cs v/(zS cs:Int)
def HY(l c:Cn)(s v:Rat):Rat:=s*EA l (1-EA c (1-v))
section
variable{l c:Cn}{s:Rat}(hl:Dm l)(hc:Dm c)(s0:0<=s)
include hl hc s0
end
def CQ(x:Rat):Int:= -((-x).floor)
end L2
namespace L2
structure Gw where
 l:Cn
 c:Cn
 s:Rat
 u:Int
def Gw.gr(g:Gw)(x:Int):Rat:=HY g.l g.c g.s ((x:Rat)/g.u)*g.u
def Gw.lo(g:Gw):Nat->Int
 |0=>(g.s*g.u).floor
 |k+1=>(g.gr (g.lo k)).floor
def Gw.hi(g:Gw):Nat->Int
 |0=>CQ (g.s*g.u)
 |k+1=>CQ (g.gr (g.hi k))
end L2
set_option maxRecDepth 100000
set_option maxHeartbeats 4000000
namespace L2
open PySem PySem.Spec PyProof.Rows
@[reducible] def UZ(g:Gw)(k:Nat):PyData:= .tuple [.int (g.lo k), .int (g.hi k)]
@[reducible] def Vd(n:Nat):PyData:= .tuple [.str "falls", .int n]
@[reducible] def U0(x:Int):PyData:= .tuple [.str "stays", .int x]
@[reducible] def Vh:PyData:= .tuple [.str "open"]
def Gq(K:PySem.W.Frag)(n:Nat)(t:fU):TG:=fun v σ H Q=>∃a xs,v= .ref a/\aM K H a xs/\xs.length=n/\t xs σ H Q
theorem Gv.lst{G:Gx}{ρ:Rh}{f:Bool}{ds:List PyData}{K:PySem.W.Frag}{Θ:Rh->Prop}{n:Nat}{u:fU}(hl:ds.length=n)(h:jO G ρ u f ds Θ):Gv G ρ (Gq K n u) f (.list ds) Θ:=fun nb σ H v Q W hv z=>by
 obtain⟨a,xs,rfl,m,hx,hd⟩:=hv.cU
 exact⟨a,xs,rfl, .of hx,by rw[hd.length];exact hl,h nb σ H xs Q W hd z⟩
end L2
set_option maxRecDepth 100000
set_option maxHeartbeats 4000000
namespace L2
open PySem PySem.Spec PyProof.Rows PySem.W
section
variable{n:Nat}{cmp:Nat->Nat->(Bool->Shared->Prop)->Shared->Prop}{s:Shared}
def VP(n:Nat)(p:Array Nat):Prop:=p.toList.Perm (List.range n)
theorem VP.of{p q:Array Nat}(h:VP n p)(z:q.Perm p):VP n q:=(Array.perm_iff_toList_perm.mp z).trans h
theorem VP.lt{p:Array Nat}(h0:0<n)(h:VP n p)(k:Nat):p.getD k 0<n:=by
 by_cases hk:k<p.size
 ·have e:p.getD k 0=p[k]:=by simp[Array.getD,hk]
  rw[e]
  have m:p[k]∈p.toList:=by simp
  exact List.mem_range.mp (h.mem_iff.mp m)
 ·have e:p.getD k 0=0:=by simp[Array.getD,hk]
  rw[e];exact h0
variable(h0:0<n)(hc:∀i j C,i<n->j<n->(∀b,C b s)->cmp i j C s)
include h0 hc
theorem uy{p:Array Nat}(hp:VP n p){Q:Nat->Shared->Prop}(hQ:∀r,Q r s):∀f m,(kas_asc p f m).kasWp cmp Q s
  |0,m=>hQ m
  | f + 1, m => hc _ _ _ (hp.lt h0 _) (hp.lt h0 _) fun b => by
    cases b with
    |true=>exact hQ m
    |false=>exact uy hp hQ f (m+1)
theorem qm{Q:Array Nat×Nat×Nat->Shared->Prop}(hQ:∀p m q,VP n p->Q (p,m,q) s):∀f p m q,VP n p->(kas_desc f p m q).kasWp cmp Q s
  |0,p,m,q,hp=>hQ p m q hp
  | f + 1, p, m, q, hp => hc _ _ _ (hp.lt h0 _) (hp.lt h0 _) fun b => by
    cases b with
    | true =>
      simp only[if_true]
      split
      · exact qm hQ f _ _ _ (hp.of (mirror_perm _ _ _ _))
      · exact qm hQ f _ _ _ hp
    | false =>
      simp only[Bool.false_eq_true,if_false]
      refine hc _ _ _ (hp.lt h0 _) (hp.lt h0 _) fun b=>?_
      cases b with
      |true=>simp only[if_true];exact hQ p m q hp
      |false=>simp only[Bool.false_eq_true,if_false];exact qm hQ f p (m+1) (q+1) hp
theorem EC{p:Array Nat}(hp:VP n p){Q:Nat×Array Nat->Shared->Prop}(hQ:∀m p,VP n p->Q (m,p) s)(m r:Nat):(kas_tail3 m r p).kasWp cmp Q s:=by
 unfold kas_tail3
 rw[KasT.kasWp_bind]
 have iT:VP n (kas_rev p 0 m):=hp.of (mirror_perm _ _ _ _)
 exact uy h0 hc iT (fun r=>hQ r _ iT) _ _
theorem De{p:Array Nat}(hp:VP n p){Q:Nat×Array Nat->Shared->Prop}(hQ:∀m p,VP n p->Q (m,p) s)(m r:Nat):(kas_descPart m r p).kasWp cmp Q s:=by
 unfold kas_descPart
 rw[KasT.kasWp_bind]
 refine qm h0 hc (fun p' m' q' iT=>?_) _ _ _ _ hp
 split
 ·exact EC h0 hc (iT.of (mirror_perm _ _ _ _)) hQ _ _
 ·exact EC h0 hc iT hQ _ _
theorem EY{p:Array Nat}(hp:VP n p){Q:Nat×Array Nat->Shared->Prop}(hQ:∀m p,VP n p->Q (m,p) s)(r:Nat):(kas_count r p).kasWp cmp Q s:=by
 unfold kas_count
 rw[KasT.kasWp_bind]
 refine uy h0 hc hp (fun m=>?_) _ _
 split
 ·exact hQ _ _ hp
 split
 ·refine hc _ _ _ (hp.lt h0 _) (hp.lt h0 _) fun b=>?_
  cases b with
  |true=>simp only[if_true];exact hQ _ _ hp
  |false=>simp only[Bool.false_eq_true,if_false];exact De h0 hc (hp.of (mirror_perm _ _ _ _)) hQ _ _
 ·exact De h0 hc hp hQ _ _
theorem wH{p:Array Nat}(hp:VP n p)(k:Nat){Q:Nat->Shared->Prop}(hQ:∀r,Q r s):∀f l r,(kas_place p k f l r).kasWp cmp Q s
  |0,l,r=>hQ l
  | f + 1, l, r => by
    unfold kas_place
    split
    · exact hQ l
    · refine hc _ _ _ (hp.lt h0 _) (hp.lt h0 _) fun b=>?_
      cases b with
      |true=>simp only[if_true];exact wH hp k hQ f _ _
      |false=>simp only[Bool.false_eq_true,if_false];exact wH hp k hQ f _ _
theorem DP{Q:Array Nat->Shared->Prop}(hQ:∀p,VP n p->Q p s):∀f p k,VP n p->(kas_bin f p k).kasWp cmp Q s
  |0,p,k,hp=>hQ p hp
  | f + 1, p, k, hp => by
    unfold kas_bin
    rw[KasT.kasWp_bind]
    exact wH h0 hc hp k (fun l=>DP hQ f _ _ (hp.of (bubble_perm _ _ _))) _ _ _
theorem Jf{Q:Array Nat->Shared->Prop}(hQ:∀p,VP n p->Q p s):(kas_sort n).kasWp cmp Q s:=by
 unfold kas_sort
 rw[KasT.kasWp_bind]
 refine EY h0 hc (p:=List.toArray (List.range n)) (by unfold VP;exact .refl _) (fun m p hp=>?_) _
 dsimp only
 split
 ·exact DP h0 hc hQ _ _ _ hp
 ·exact hQ _ hp
end
def jk(h:Heap)(v:Value):Prop:=∃a o i j t u m,v= .ref a/\h.get? a=some o/\o.cls= .type "tuple" /\o.data= .seq #[.int i t, .int j u] m
section
variable{prog:Program}{w:World}{A:Around}{E:Value->Shared->Prop}{s:Shared}
theorem Qa{x y:Value}{C:Bool->Shared->Prop}(hx:jk s.heap x)(hy:jk s.heap y)(h:∀b,C b s):wpAny (model prog w) A (keyLt' (tuples' true) x y) C E s:=by
  obtain⟨a,o,i,j,t,u,m,rfl,h1,h2,h3⟩:=hx
  obtain⟨a',o',i',j',t',u',m',rfl,zM,h2',h3'⟩:=hy
  refine kat_lt h1 h3 zM h3' ?_
  refine kat_cons (wpAny_eqBool_int ?_)
  cases (i==i') with
  | false =>
    refine kat_no ?_
    exact oneLt_int (h _)
  | true =>
    refine kat_yes (kat_cons (wpAny_eqBool_int ?_))
    cases (j==j') with
    | false =>
      refine kat_no ?_
      refine kat_one _ _ (lt_int ?_)
      exact h _
    |true=>exact kat_yes (kat_nil (h _))
theorem OQ{M:Model}{vs:List Value}{Q:SortKind->Shared->Prop}(hp:∀v∈vs,jk s.heap v)(hne:0<vs.length)(h:Q (tuples' true) s):wpAny M A (keyKind' vs.toArray) Q E s:=by
  obtain⟨fs,hf,hl,hT⟩:∃fs:List Value,KatTups s.heap vs fs/\fs.length=vs.length/\∀v∈fs,∃i t,v= .int i t:=by
    clear hne h
    induction vs with
    |nil=>exact⟨[], .nil,rfl,fun _ h=>nomatch h⟩
    | cons v r ih =>
      obtain⟨fs,h1,h2,h3⟩:=ih fun x hx=>hp x (List.mem_cons_of_mem _ hx)
      obtain⟨a,o,i,j,t,u,m,rfl,g1,g2,g3⟩:=hp v (List.mem_cons_self ..)
      refine⟨.int i t::fs, .cons g1 g2 g3 rfl h1,by simp[h2],fun x hx=>?_⟩
      rcases List.mem_cons.mp hx with e|hx
      · exact⟨i,t,e⟩
      · exact h3 x hx
  refine kat_kind (T:= .type "int") hf (by omega) (fun v hv=>?_) (by decide) h
  obtain⟨i,t,rfl⟩:=hT v hv
  exact Looks.of_pure rfl
theorem jk.keep{h h':Heap}{v:Value}(x:jk h v)(k:∀b o,h.get? b=some o->h'.get? b=some o):jk h' v:=by
 obtain⟨a,o,i,j,t,u,m,e,h1,h2,h3⟩:=x
 exact⟨a,o,i,j,t,u,m,e,k _ _ h1,h2,h3⟩
theorem Jb{a:Addr}{vs:List Value}{n:Nat}{P:Fin->Shared->Prop}(ho:s.heap.get? a=some (seqObj "list" vs.toArray n))(hp:∀v∈vs,jk s.heap v)(hna:∀v∈vs,v≠ .ref a)(h64:vs.length<64)
  (h:∀out:Array Value,out.toList.Perm vs->P (.done (.ret .none)) {s with heap:=sortedHeap s.heap a vs out}):
  wpAny (model prog w) A (Builtin.«list.sort» ⟨[.ref a],[]⟩) P E s:=by
 rw[list_sort_plain]
 have ha:a<s.heap.objs.size:=Heap.lt_size ho
 refine wpAny_bind (listItems_at ho rfl ?_)
 refine wpAny_bind (listUpdate_at ho rfl ?_)
 obtain⟨e1,D6⟩:∃e1,(s.heap.update a (Obj.mapSeq fun _=> #[])).get? a=some (seqObj "list" #[] e1):=⟨_,get?_update_seq ho (fun _=> #[])⟩
 refine wpAny_bind (seqEpoch_at D6 rfl ?_)
 refine wpAny_bind (wpAny_newTuple ?_)
 refine wpAny_bind (wpAny_newList ?_)
 refine wpAny_holding ?_
 have ho6:(((s.heap.update a (Obj.mapSeq fun _=> #[])).push (seqObj "tuple" vs.toArray 0)).push (seqObj "list" #[] 0)).get? a=some (seqObj "list" #[] e1):=by
  rw[Heap.get?_push_ne _ _ _ (by rw[size_push',Heap.size_update];exact Nat.ne_of_lt (Nat.lt_succ_of_lt ha)),Heap.get?_push_ne _ _ _ (by rw[Heap.size_update];exact Nat.ne_of_lt ha)]
  exact D6
 show wpAny (model prog w) A _ P E {s with heap:=((s.heap.update a (Obj.mapSeq fun _=> #[])).push (seqObj "tuple" vs.toArray 0)).push (seqObj "list" #[] 0)}
 dsimp only
 have hsz:vs.toArray.size=vs.length:=by simp
 have tH:∀v∈vs,jk (((s.heap.update a (Obj.mapSeq fun _=> #[])).push (seqObj "tuple" vs.toArray 0)).push (seqObj "list" #[] 0)) v:=fun v hv=>by
  obtain⟨b,o,i,j,t,u,m,rfl,g1,g2,g3⟩:=hp v hv
  have hb:b≠a:=fun z=>hna _ hv (by rw[z])
  refine⟨b,o,i,j,t,u,m,rfl,Heap.get?_push_of_some _ (Heap.get?_push_of_some _ ?_),g2,g3⟩
  rw[Heap.get?_update_ne _ _ _ _ hb];exact g1
 by_cases h2:vs.toArray.size<2
 ·rw[if_pos h2,if_pos h2]
  refine wpAny_bind (wpAny_pure ?_)
  rw[StateT.run_pure]
  refine wpAny_bind (wpAny_pure ?_)
  dsimp only
  refine wpAny_bind (seqEpoch_at ho6 rfl ?_)
  refine wpAny_bind (listUpdate_at ho6 rfl ?_ (hsz2:=by rw[Array.size_map];show(pairsOf vs).size<=_;rw[pairsOf_size,sizeLine_eq];omega))
  simp only[bne_self_eq_false,Bool.false_eq_true,if_false]
  refine wpAny_pure (h _ ?_)
  have e:(Array.map (fun x=>x.2) (vs.toArray.zip vs.toArray)).toList=vs:=by
   rw[Array.toList_map,Array.toList_zip]
   simp[List.map_snd_zip]
  show(Array.map (fun x=>x.2) (vs.toArray.zip vs.toArray)).toList.Perm vs
  rw[e]
 ·rw[if_neg h2,if_neg h2]
  refine wpAny_bind (OQ tH (by omega) ?_)
  refine wpAny_bind (wpAny_mono (kat_run (κ:=tuples' true) (vs:=vs) (ks:=vs) (s:={s with heap:=((s.heap.update a (Obj.mapSeq fun _=> #[])).push (seqObj "tuple" vs.toArray 0)).push (seqObj "list" #[] 0)}) (Q:=fun st' s'=>s'={s with heap:=((s.heap.update a (Obj.mapSeq fun _=> #[])).push (seqObj "tuple" vs.toArray 0)).push (seqObj "list" #[] 0)}/\failedOf st'=none/\((arrOf st').map (·.2)).toList.Perm vs)
   (G:=fun p s'=>s'={s with heap:=((s.heap.update a (Obj.mapSeq fun _=> #[])).push (seqObj "tuple" vs.toArray 0)).push (seqObj "list" #[] 0)}/\VP vs.length p) rfl (by omega) h64 (fun p st' s' g1 g2 g3 ⟨g4,g5⟩=>⟨g4,g3,?_⟩) (Jf (n:=vs.length) (by omega) (fun i j C hi hj hC=>?_) fun p hp=>⟨rfl,hp⟩)) ?_ fun _ _ e=>e)
  ·rw[kat_snds rfl g2]
   show(List.map _ _).Perm vs
   have:=g5.map fun i=>vs.getD i Value.none
   refine this.trans (List.Perm.of_eq ?_)
   refine List.ext_getElem? fun k=>?_
   rw[List.getElem?_map]
   by_cases hk:k<vs.length
   ·rw[List.getElem?_range hk,List.getElem?_eq_getElem hk];simp[hk]
   ·rw[List.getElem?_eq_none (by rw[List.length_range];omega),List.getElem?_eq_none (by omega)];rfl
  ·rw[kat_ask_eq (vs:=vs) rfl]
   unfold kas_cmp
   rw[kat_item rfl,kat_item rfl]
   refine Qa (tH _ ?_) (tH _ ?_) hC
   ·rw[List.getD_eq_getElem?_getD,List.getElem?_eq_getElem hi];exact List.getElem_mem _
   ·rw[List.getD_eq_getElem?_getD,List.getElem?_eq_getElem hj];exact List.getElem_mem _
  rintro⟨⟨⟩,st'⟩ s' ⟨rfl,hf,hs⟩
  dsimp only
  refine wpAny_bind (seqEpoch_at ho6 rfl ?_)
  refine wpAny_bind (listUpdate_at ho6 rfl ?_ (hsz2:=by
   have e:=hs.length_eq
   rw[Array.length_toList] at e
   rw[sizeLine_eq]
   have e':(Array.map (fun x=>x.2) (arrOf st')).size=vs.length:=e
   omega))
  rw[hf]
  simp only[bne_self_eq_false,Bool.false_eq_true,if_false]
  exact wpAny_pure (h _ hs)
theorem LV{l:Addr}{vs:List Value}{Q:Value->Shared->Prop}(hl:s.heap.IsList l vs.toArray)(hp:∀v∈vs,jk s.heap v)(h64:vs.length<64)
  (h:∀out:Array Value,out.toList.Perm vs->Q (.ref (s.heap.objs.size+1)) {s with heap:=sortedAll s.heap vs out}):
  wpAny (model prog w) A (call (.builtin "sorted") [.ref l]) Q E s:=by
 refine Calls.call_function_entry kind_sorted plain_sorted entry_sorted (args_sorted1 _) ?_
 unfold Builtin.«sorted»
 refine wpAny_bind (m:=checkCount "sorted" 1 1 _) (wpAny_pure ?_)
 refine wpAny_bind (collect_list hl ?_)
 refine wpAny_bind (wpAny_newList ?_)
 have hsz:((s.heap.push (seqObj "list" #[] 0)).update s.heap.objs.size (Obj.mapSeq (· ++vs.toArray))).objs.size=s.heap.objs.size+1:=by
  rw[Heap.size_update,size_push']
 have pe:(((s.heap.push (seqObj "list" #[] 0)).update s.heap.objs.size (Obj.mapSeq (· ++vs.toArray))).push (seqObj "list" vs.toArray 0)).get? (s.heap.objs.size+1)=some (seqObj "list" vs.toArray 0):=by
  rw[<-hsz];exact Heap.get?_push_size _ rfl
 have keep:∀b o,s.heap.get? b=some o->(((s.heap.push (seqObj "list" #[] 0)).update s.heap.objs.size (Obj.mapSeq (· ++vs.toArray))).push (seqObj "list" vs.toArray 0)).get? b=some o:=fun b o q=>by
  have hlt:b<s.heap.objs.size:=Heap.lt_size q
  rw[Heap.get?_push_ne _ _ _ (by rw[hsz];exact Nat.ne_of_lt (Nat.lt_succ_of_lt hlt)),Heap.get?_update_ne _ _ _ _ (Nat.ne_of_lt hlt),Heap.get?_push_ne _ _ _ (Nat.ne_of_lt hlt)]
  exact q
 show wpAny _ _ _ _ _ {s with heap:=((s.heap.push (seqObj "list" #[] 0)).update s.heap.objs.size (Obj.mapSeq (· ++vs.toArray))).push (seqObj "list" vs.toArray 0)}
 rw[hsz]
 refine wpAny_bind (wpAny_holding (wpAny_call_entry slot_list_sort ⟨_,pe,rfl⟩ entry_list_sort (Jb pe (fun v hv=>(hp v hv).keep keep) (fun v hv z=>?_) h64 fun out a1=>⟨_,rfl,?_⟩) (args_list_sort _)))
 ·obtain⟨b,o,i,j,t,u,m,rfl,g1,_⟩:=hp v hv
  have:=Heap.lt_size g1
  have z':b=s.heap.objs.size+1:=by cases z;rfl
  rw[z'] at this
  exact absurd this (Nat.not_lt.mpr (Nat.le_succ _))
 ·exact wpAny_pure ⟨_,rfl,h out a1⟩
end
def uV(K:PySem.W.Frag):List V->Hp->VK->Prop:=fun xs H Q=>∃p ys,xs=[.ref p]/\aM K H p ys/\ys.length<64/\(∀y∈ys,∃a i j,y= .ref a/\H a=some (.tup [.int i, .int j]))/\∀zs:List V,zs.Perm ys->∀l,H l=none->Q (.ref l) (upd H l (.lst zs))
theorem HC:∀{vs us:List Value} {ys:List V},Vals ys vs->us.Perm vs->∃zs,Vals zs us/\zs.Perm ys:=by
  intro vs us ys h p
  induction p generalizing ys with
  |nil=>cases h;exact⟨[], .nil, .refl _⟩
  | cons x p ih =>
    cases h with
    | cons r rr =>
      obtain⟨zs,h1,h2⟩:=ih rr
      exact⟨_::zs, .cons r h1,h2.cons _⟩
  | swap x y l =>
    cases h with
    | cons r rr =>
      cases rr with
      |cons r' rr'=>exact⟨_::_::_, .cons r' (.cons r rr'), .swap ..⟩
  | trans p1 p2 ih1 ih2 =>
    obtain⟨zs,h1,h2⟩:=ih2 h
    obtain⟨ws,h3,h4⟩:=ih1 h1
    exact⟨ws,h3,h4.trans h2⟩
theorem Om{X:Cx}:dG X (.builtin "sorted") (uV X.K):=by
  intro pins s σ H xs us Q I rv h
  obtain⟨p,ys,rfl,hp,h64,hy,q⟩:=h
  obtain⟨u,rfl,ru⟩:=vals1 rv
  cases ru
  obtain⟨its,rs,il,hz⟩:=I.list hp
  have hl:=rs.length
  refine LV (vs:=its) il.isList (fun v hv=>?_) (by omega) fun out ho=>?_
  · obtain⟨k,hk,e⟩:=List.mem_iff_getElem.mp hv
    have hk':k<ys.length:=by omega
    obtain⟨v',hv',AK⟩:=rs.get (i:=k) (x:=ys[k]) (List.getElem?_eq_getElem hk')
    have:v'=v:=by rw[List.getElem?_eq_getElem hk,e] at hv';exact(Option.some.inj hv').symm
    subst this
    obtain⟨a,i,j,ea,ha⟩:=hy _ (List.getElem_mem hk')
    rw[ea] at AK
    cases AK
    obtain⟨_,its2,rO,o,g1,g2,m,g3⟩:=(show aV X.prog X.w H s.heap a (.tup [.int i, .int j]) from I.hok a _ ha)
    cases rO with
    | cons x1 x2 =>
      cases x2 with
      | cons y1 y2 =>
        cases y2
        obtain⟨t,rfl⟩:=x1
        obtain⟨t2,rfl⟩:=y1
        exact⟨a,o,i,j,t,t2,m,rfl,g1,g2,g3⟩
  · obtain⟨zs,h1,h2⟩:=HC rs ho
    obtain⟨e,ge⟩:=sortedAll_at s.heap its out
    have new:aV X.prog X.w (upd H (s.heap.objs.size+1) (.lst zs)) (sortedAll s.heap its out) (s.heap.objs.size+1) (.lst zs):=by
      refine⟨?_,out.toList,e,h1,by simpa using ge⟩
      rw[h2.length_eq];exact Nat.le_trans (Nat.le_of_lt h64) (by decide)
    exact⟨.ref (s.heap.objs.size+1),_,I.laid (t':=s.toks) (fun b o z=>sortedAll_old z) (Nat.le_succ _) new,rfl,q _ h2 _ (I.hok.fresh (Nat.le_succ _))⟩
theorem z6{nb:Addr->Prop}{H:Hp}:∀{cs:Cn} {xs:List V},ah nb H (cs.map pairD) xs->∀y∈xs,∃a i j,y= .ref a/\H a=some (.tup [.int i, .int j])
  |[],xs,h,y,hy=>by unfold ah at h;rw[h] at hy;cases hy
  | c :: r, xs, h, y, hy => by
    unfold ah at h
    obtain⟨z,zs,rfl,h1,h2⟩:=h
    rcases List.mem_cons.mp hy with e|hy
    · subst e
      obtain⟨a,ws,rfl,n,hx,hd⟩:=h1.ofT
      have:ws=[V.int c.1,V.int c.2]:=mG (is:=[c.1,c.2]) hd
      subst this
      exact⟨a,_,_,rfl,hx⟩
    · exact z6 h2 y hy
theorem MA{nb:Addr->Prop}{H:Hp}{ys zs:List V}(p:zs.Perm ys):∀{ds:List PyData},ah nb H ds ys->∃es,es.Perm ds/\ah nb H es zs:=by
  induction p with
  | nil => intro ds h; cases ds with
    |nil=>exact⟨[], .refl _, .nil⟩
    |cons d r=>unfold ah at h;obtain⟨_,_,e,_⟩:=h;cases e
  | cons x p ih =>
    intro ds h
    cases ds with
    |nil=>unfold ah at h;cases h
    | cons d r =>
      unfold ah at h
      obtain⟨y,ys',e,h1,h2⟩:=h
      cases e
      obtain⟨es,h3,h4⟩:=ih h2
      exact⟨d::es,h3.cons _, .cons h1 h4⟩
  | swap x y l =>
    intro ds h
    cases ds with
    |nil=>unfold ah at h;cases h
    | cons d r =>
      unfold ah at h
      obtain⟨y',ys',e,h1,h2⟩:=h
      cases e
      cases r with
      |nil=>unfold ah at h2;cases h2
      | cons d2 r2 =>
        unfold ah at h2
        obtain⟨y2,U4,e,h3,h4⟩:=h2
        cases e
        exact⟨d2::d::r2, .swap .., .cons h3 (.cons h1 h4)⟩
  | trans p1 p2 ih1 ih2 =>
    intro ds h
    obtain⟨es,h1,h2⟩:=ih2 h
    obtain⟨fs,h3,h4⟩:=ih1 h2
    exact⟨fs,h3.trans h1,h4⟩
theorem Rk{es ds:List PyData}(h1:es.Perm ds):∀{cs:Cn},cs.map pairD=ds->∃cs':Cn,cs'.Perm cs/\es=cs'.map pairD:=by
  induction h1 with
  |nil=>intro cs hds;exact⟨[],by rw[List.map_eq_nil_iff.mp hds],rfl⟩
  | cons x p ih =>
    intro cs hds
    cases cs with
    |nil=>cases hds
    | cons c r =>
      rw[List.map_cons] at hds
      cases hds
      obtain⟨cs',h1,h2⟩:=ih (cs:=r) rfl
      exact⟨c::cs',h1.cons _,by rw[List.map_cons,h2]⟩
  | swap x y l =>
    intro cs hds
    cases cs with
    |nil=>cases hds
    | cons c r =>
      rw[List.map_cons] at hds
      cases r with
      |nil=>cases hds
      | cons c2 r2 =>
        rw[List.map_cons] at hds
        cases hds
        exact⟨c2::c::r2, .swap ..,rfl⟩
  | trans p1 p2 ih1 ih2 =>
    intro cs hds
    obtain⟨c1,g1,g2⟩:=ih2 hds
    obtain⟨c2,g3,g4⟩:=ih1 g2.symm
    exact⟨c2,g3.trans g1,g4⟩
theorem ay.QS{G:Gx}{ρ:Rh}{te:TE}{K:PySem.W.Frag}{Θ:Bool->List PyData->Prop}(h:Ev G ρ te fun f x=>∃cs:Cn,x= .list (cs.map pairD)/\cs.length<64/\∀(cs':Cn) (g:Bool),cs'.Perm cs->Θ g (cs'.map pairD)):ay G ρ (dQ (uV K) (aQ te bw)) Θ:=fun nb σ H Q W z=>
 h nb σ H _ W fun f v H1 x ⟨cs,ex,hn,q⟩ s1 hv=>by
  subst ex
  obtain⟨a,xs,rfl,na,hx,hd⟩:=hv.cU
  have hl:=hd.length
  refine⟨a,xs,rfl, .of hx,by rw[hl,List.length_map];exact hn,z6 hd,fun zs hz l lW=>?_⟩
  obtain⟨es,h1,h2⟩:=MA hz hd
  obtain⟨cs',h3,rfl⟩:=Rk h1 rfl
  exact ay.fin (f:=f) W s1 lW h2 (q cs' _ h3) z
end L2
set_option maxRecDepth 100000
set_option maxHeartbeats 4000000
namespace L2
open PySem PySem.Spec PyProof.Rows PySem.W
section
variable{n:Nat}{key:Nat->Int}{cmp:Nat->Nat->(Bool->Shared->Prop)->Shared->Prop}{s:Shared}
variable(h0:0<n)(hc:∀i j C,i<n->j<n->C (decide (key i<key j)) s->cmp i j C s)
include h0 hc
end
end L2
set_option maxRecDepth 100000
set_option maxHeartbeats 4000000
set_option maxRecDepth 100000
set_option maxHeartbeats 4000000
namespace L2
open PySem PySem.Spec PyProof.Rows
@[reducible] def UQ(l c:Cn)(u p:Int):Gw:=⟨l,c,(p:Rat)/u,u⟩
end L2
set_option maxRecDepth 100000
set_option maxHeartbeats 4000000
namespace L2
open PySem PySem.Spec PyProof.Rows
theorem Tv.lend{G:Gx}{ρ:Rh}{t:TT}{Θ:Bool->Prop}{a:Addr}{f:Bool}{ds:List PyData}(i:Nat)(e:ρ[i]?=some (.own a f ds))(h:Tv G (ρ.set i (.d f (.list ds))) t Θ):Tv G ρ t Θ:=fun nb σ H Q W z=>
 h _ σ H Q (Sv.share W e) z
end L2
set_option maxRecDepth 100000
set_option maxHeartbeats 4000000
namespace L2
open PySem PySem.Spec PyProof.Rows
theorem QO:typeLookup (.type "list") "keys"=pure none:=by rw[typeLookup_type,builtinLookup_eq_fast];kernel_rfl
theorem G1:typeLookup (.type "list") "__getattr__"=pure none:=by rw[typeLookup_type,builtinLookup_eq_fast];kernel_rfl
section
variable{prog:Program}{w:World}{A:Around}{E:Value->Shared->Prop}{h:Heap}{g:Array GenState}{d:Drawn}{t:Nat}{os:OsState}{a:Addr}{o:Obj}
theorem FJ{tk:Tok}{Q:Fin->Shared->Prop}{xs:Array Value}{n:Nat}(hh:A.handled=none)(hx:h.get? a=some (seqObj "list" xs n))
  (hq:∀h' tk e,Heap.NewAttrErr h h' e (.ref a) "keys" ->E (.ref e) ⟨h',g,d,tk,os⟩):
  wpAny (model prog w) A (Builtin.«object.__getattribute__» ⟨[.ref a, .str "keys" tk],[]⟩) Q E ⟨h,g,d,t,os⟩:=by
 have hT:(⟨h,g,d,t,os⟩:Shared).TypeIs (.ref a) "list":=⟨_,hx,rfl⟩
 have f4:=QO
 unfold Builtin.«object.__getattribute__»
 repeat (any_goals (first|assumption|wp_step))
 exact wpAny_raiseAttrError hh hq (attrMsg_fits (by decide+kernel) (by size_fits))
theorem Ou{tk:Tok}{R:Result->Shared->Prop}{xs:Array Value}{n:Nat}(hh:A.handled=none)(hx:h.get? a=some (seqObj "list" xs n))(hq:∀h' tk e,Heap.NewAttrErr h h' e (.ref a) "keys" ->R (.error (.ref e)) ⟨h',g,d,tk,os⟩):
  codeAny (model prog w) A (.call (.builtin "list.__getattribute__") ⟨[.ref a, .str "keys" tk],[]⟩) R ⟨h,g,d,t,os⟩:=
 codeAny_call_builtin PySem.F.slot_list_getattribute.plain PySem.F.entry_list_ga (PySem.F.slot_list_getattribute.check _ _ _ _ _ _ _ _ (show(⟨h,g,d,t,os⟩:Shared).TypeIs (.ref a) "list" from⟨_,hx,rfl⟩) (PySem.F.args_list_getattribute_2 _ _) (FJ (by exact hh) hx hq))
theorem GW{Q:Option Value->Shared->Prop}{xs:Array Value}{n:Nat}(hh:A.handled=none)(hx:h.get? a=some (seqObj "list" xs n))
  (hq:∀h' tk,(∀b ob,h.get? b=some ob->h'.get? b=some ob)->Q none ⟨h',g,d,tk,os⟩):wpAny (model prog w) A (getAttr? (.ref a) "keys") Q E ⟨h,g,d,t,os⟩:=by
 have hT:(⟨h,g,d,t,os⟩:Shared).TypeIs (.ref a) "list":=⟨_,hx,rfl⟩
 have f1:=sub_AttributeError
 have f2:=PySem.F.slot_list_getattribute.lookup
 have f3:=PySem.F.slot_list_getattribute.bind (.ref a)
 have f5:=G1
 unfold getAttr? getAttrBy? getAttrBy
 repeat (any_goals (first|assumption|wp_step))
 refine Ou hh hx fun h' tk e hx'=>?_
 obtain⟨t',u',he⟩:=hx'.there
 unfold getattributeRaised
 repeat (any_goals (first|assumption|wp_step))
 exact hq _ _ hx'.keeps
end
end L2
set_option maxRecDepth 100000
set_option maxHeartbeats 4000000
namespace L2
open PySem PySem.Spec PyProof.Rows
theorem AY:entryFor table "dict.update.loop"=some Builtin.«dict.update.loop» :=entryFor_of_tree (by kernel_rfl)
theorem pO:plainId "dict.update.loop"=true:=by decide+kernel
def qN(P:Program)(w:World)(h:Heap)(v:Value)(p:Key×Value):Prop:=∃a o m ku,v= .ref a/\h.get? a=some o/\o.cls= .type "tuple" /\o.data= .seq #[ku,p.2] m/\(cJ P w).is p.1 ku=true
section
variable{prog:Program}{w:World}{A:Around}{E:Value->Shared->Prop}{s:Shared}
theorem J3{R:Result->Shared->Prop}{d it l:Addr}{its:List Value}{ps:List (Key×Value)}(hh:A.in1.handled=none)(hdl:d≠l)(hdi:d≠it)(hil:l≠it)(hlen:its.length=ps.length)(hsz:its.length<=10000):
    ∀(k i:Nat) (s:Shared) (t:Tok),its.length-i=k->i<=its.length->s.heap.IsListIter it l i->s.heap.IsList l its.toArray->(∀(j:Nat) (v:Value) (p:Key×Value),its[j]?=some v->ps[j]?=some p->qN prog w s.heap v p)->(∀(j:Nat) (v:Value),its[j]?=some v->v≠Value.ref d/\v≠Value.ref it)->
      s.heap.DictOf (cJ prog w) d (merged [] (ps.take i))->(merged [] (ps.take i)).length<=i->
      (∀h' tk,(∀b o,b≠d->b≠it->s.heap.get? b=some o->h'.get? b=some o)->h'.DictOf (cJ prog w) d (merged [] ps)->R (.ok (.ret .none)) {s with heap:=h',toks:=tk})->
      codeAny (model prog w) A (.builtin "dict.update.loop" ⟨[.ref d, .ref it, .int i t, .none],[]⟩) R s:=by
  intro k
  induction k with
  | zero =>
    intro i s t hk hi hit hl hp hne hD hDl hR
    have hin:i=its.length:=by omega
    subst hin
    refine codeAny_builtin AY ?_
    rw[Around.under_plainId pO _]
    show wpAny _ A.in1 (pyNext (.ref it)>>=_) _ _ s
    refine wpAny_bind (wpAny_pyNext_list_end hh hit hl (by simp) fun h' he=>?_)
    show wpAny _ A.in1 (ret Value.none) _ _ _
    rw[hlen,List.take_length] at hD
    exact wpAny_pure (hR h' s.toks (fun b o _ n e=>he b o n e) (hD.extBut he hdi))
  | succ k ih =>
    intro i s t hk hi hit hl hp hne hD hDl hR
    have hlt:i<its.length:=by omega
    obtain⟨v,hv⟩:∃v,its[i]?=some v:=⟨_,List.getElem?_eq_getElem hlt⟩
    obtain⟨p,hpp⟩:∃p,ps[i]?=some p:=⟨_,List.getElem?_eq_getElem (by omega)⟩
    obtain⟨hn1,hn2⟩:=hne i v hv
    obtain⟨a,o,m,ku,rfl,g1,g2,g3,g4⟩:=hp i v p hv hpp
    have had:a≠d:=fun z=>hn1 (by rw[z])
    have hai:a≠it:=fun z=>hn2 (by rw[z])
    refine codeAny_builtin AY ?_
    rw[Around.under_plainId pO _]
    show wpAny _ A.in1 (pyNext (.ref it)>>=_) _ _ s
    refine wpAny_bind (wpAny_pyNext_list_item hit hl (x:= .ref a) (by simpa using hv) fun h1 PK sN=>?_)
    have mh:h1.get? a=some o:=(sN.2 a hai).trans g1
    have hT:(⟨h1,s.gens,s.drawn,s.toks,s.os⟩:Shared).TypeIs (.ref a) "tuple":=⟨o,mh,g2⟩
    show wpAny _ A.in1 (holding [Value.ref a] _>>=_) _ _ _
    refine wpAny_bind (wpAny_holding (wpAny_bind (wpAny_tryCatch ?_)))
    show wpAny _ A.in1 (Builtin.Dict.pairItems (.ref a)) _ _ _
    unfold Builtin.Dict.pairItems
    refine wpAny_bind (wpAny_typeOf hT ?_)
    rw[if_pos (by decide)]
    refine wpAny_bind (wpAny_seqItems mh g3 (wpAny_pure ?_))
    show wpAny _ A.in1 (holding [ku,p.2] (dictSet d ku p.2)) _ _ _
    have rq:h1.DictOf (cJ prog w) d (merged [] (ps.take i)):=hD.sameBut sN hdi
    refine wpAny_holding (wpAny_dictSet_pairs (s:=⟨h1,s.gens,s.drawn,s.toks,s.os⟩) g4 rq (fun h2 zG BK=>?_) (Nat.le_trans hDl (Nat.le_trans hi (Nat.le_trans hsz (by decide)))))
    have e:stored (merged [] (ps.take i)) p.1 p.2=merged [] (ps.take (i+1)):=by rw[take_snoc hpp];unfold merged;rw[List.foldl_append];rfl
    rw[e] at zG
    have kk:∀b o,b≠d->b≠it->s.heap.get? b=some o->h2.get? b=some o:=fun b o n1 n2 z=>(BK.2 b n1).trans ((sN.2 b n2).trans z)
    refine wpAny_pure ⟨plainId_quiet pO _,ih (i+1) ⟨h2,s.gens,s.drawn,s.toks+1,s.os⟩ _ (by omega) hlt ?_ ?_ ?_ hne zG ?_ fun h' tk k' t8=>?_⟩
    · exact PK.at fun o z=>(BK.2 it (Ne.symm hdi)).trans z
    · exact hl.at fun o z=>kk l o (Ne.symm hdl) hil z
    · intro j v' p' hv' iT
      obtain⟨hn1,hn2⟩:=hne j v' hv'
      obtain⟨a,o,m,ku,rfl,q1,q2,q3,q4⟩:=hp j v' p' hv' iT
      exact⟨a,o,m,ku,rfl,kk a o (fun z=>hn1 (by rw[z])) (fun z=>hn2 (by rw[z])) q1,q2,q3,q4⟩
    · rw[<-e]
      unfold stored
      split
      · rw[List.length_map];omega
      · rw[List.length_append,List.length_singleton];omega
    · exact hR h' tk (fun b o n1 n2 z=>k' b o n1 n2 (kk b o n1 n2 z)) t8
theorem Lk{l:Addr}{its:List Value}{n:Nat}{ps:List (Key×Value)}{Q:Value->Shared->Prop}(hh:A.handled=none)(hlo:s.heap.get? l=some (seqObj "list" its.toArray n))(hlen:its.length=ps.length)(hsz:its.length<=10000)
  (hp:∀(j:Nat) (v:Value) (p:Key×Value),its[j]?=some v->ps[j]?=some p->qN prog w s.heap v p)
  (h:∀h' tk,h'.DictOf (cJ prog w) s.heap.objs.size (merged [] ps)->(∀b o,s.heap.get? b=some o->h'.get? b=some o)->Q (.ref s.heap.objs.size) {s with heap:=h',toks:=tk}):
  wpAny (model prog w) A (call (.type "dict") [.ref l]) Q E s:=by
 refine callType_codes (Q₁:=fun obj s₁=>obj= .ref s.heap.objs.size/\s₁={s with heap:=s.heap.push {cls:= .type "dict",data:= .dict #[]}}) PySem.F.kt_called_dict (PySem.F.kt_typeCall_dict_1 _) PySem.F.entry_dict_init (kt_code_dict_new _ ⟨rfl,rfl⟩) ?_
 rintro obj s₁ ⟨rfl,rfl⟩
 have hnew:(s.heap.push {cls:= .type "dict",data:= .dict #[]}).DictOf (cJ prog w) s.heap.objs.size []:=Heap.DictOf.new s.heap
 have hl1:(s.heap.push {cls:= .type "dict",data:= .dict #[]}).get? l=some (seqObj "list" its.toArray n):=Heap.get?_push_of_some _ hlo
 have lW:l<s.heap.objs.size:=Heap.lt_size hlo
 refine⟨hnew.typeIs,PySem.F.args_dict_init_2 _ _,?_⟩
 unfold Builtin.«dict.__init__»
 refine wpAny_bind ?_
 unfold Builtin.Dict.selfAndRest
 refine wpAny_bind (wpAny_notOrdered_dict hnew.typeIs ?_)
 show wpAny _ _ (pure (s.heap.objs.size,[Value.ref l])) _ _ _
 refine wpAny_pure ?_
 show wpAny _ _ (Builtin.Dict.updateFrom "dict.__init__" s.heap.objs.size (.ref l) [] .none) _ _ _
 unfold Builtin.Dict.updateFrom
 refine wpAny_bind (wpAny_typeOf (T:="list") ⟨_,hl1,rfl⟩ ?_)
 rw[if_pos (by decide)]
 refine wpAny_bind (GW (A:=A.in1.in1) hh hl1 fun h1 tk k1=>?_)
 rw[if_pos (show(none:Option Value).isNone=true from rfl)]
 refine wpAny_bind (wpAny_rule (wpAny_bind ?_))
 have hl2:h1.get? l=some (seqObj "list" its.toArray n):=k1 _ _ hl1
 have rq:h1.DictOf (cJ prog w) s.heap.objs.size []:=let ⟨o',es,ep,ho,r⟩:=hnew;⟨o',es,ep,k1 _ _ ho,r⟩
 have hs1:s.heap.objs.size<h1.objs.size:=by obtain⟨o',es,ep,ho,_⟩:=rq;exact Heap.lt_size ho
 have wK:h1.IsList l its.toArray:=⟨_,hl2,rfl,n,rfl⟩
 refine wpAny_pyIter_list wK ?_
 refine wpAny_pure ⟨plainId_quiet pO _,?_⟩
 refine J3 (A:=A.in1) (its:=its) (ps:=ps) hh (Ne.symm (Nat.ne_of_lt lW)) (Nat.ne_of_lt hs1) (Nat.ne_of_lt (Nat.lt_trans lW hs1)) hlen hsz its.length 0 _ _ (by omega) (Nat.zero_le _) ⟨_,Heap.get?_push_size _ rfl,rfl,rfl⟩ (wK.push _) ?_ ?_ (rq.push _) (Nat.le_refl _) fun h' tk' k' t8=>?_
 ·intro j v p hv hpp
  obtain⟨a,o,m,ku,rfl,q1,q2,q3,q4⟩:=hp j v p hv hpp
  exact⟨a,o,m,ku,rfl,Heap.get?_push_of_some _ (k1 _ _ (Heap.get?_push_of_some _ q1)),q2,q3,q4⟩
 ·intro j v hv
  obtain⟨p,hpp⟩:∃p,ps[j]?=some p:=⟨_,List.getElem?_eq_getElem (by have:=(List.getElem?_eq_some_iff.mp hv).1;omega)⟩
  obtain⟨a,o,m,ku,rfl,q1,_⟩:=hp j v p hv hpp
  have la:=Heap.lt_size q1
  refine⟨fun z=>?_,fun z=>?_⟩
  ·cases z;exact absurd la (Nat.lt_irrefl _)
  ·have z':a=h1.objs.size:=by cases z;rfl
   rw[z'] at la
   exact absurd (Nat.lt_trans la hs1) (Nat.lt_irrefl _)
 ·refine⟨rfl,h h' tk' t8 fun b o z=>?_⟩
  have lb:=Heap.lt_size z
  exact k' b o (Nat.ne_of_lt lb) (Nat.ne_of_lt (Nat.lt_trans lb hs1)) (Heap.get?_push_of_some _ (k1 _ _ (Heap.get?_push_of_some _ z)))
end
def xN:List V->Hp->VK->Prop:=fun xs H Q=>∃(l:Addr) (ys:List V) (kvs:List (Key×V)),xs=[.ref l]/\H l=some (.lst ys)/\ys.length=kvs.length/\ys.length<=10000/\
 (∀(j:Nat) (y:V) (p:Key×V),ys[j]?=some y->kvs[j]?=some p->∃a,y= .ref a/\H a=some (.tup [kV p.1,p.2]))/\∀d,H d=none->Q (.ref d) (upd H d (.dK (je [] kvs)))
theorem Pc{X:Cx}(hc:X.calm=true):dG X (.type "dict") xN:=by
  intro pins s σ H xs us Q I rv h
  obtain⟨l,ys,kvs,rfl,hH,hlen,hsz,hy,q⟩:=h
  obtain⟨u,rfl,ru⟩:=vals1 rv
  cases ru
  obtain⟨_,its,n,rs,h1⟩:=(show aV X.prog X.w H s.heap l (.lst ys) from I.hok l _ hH)
  have hli:=rs.length
  have key:∃ps:List (Key×Value),KV kvs ps/\∀(j:Nat) (v:Value) (p:Key×Value),its[j]?=some v->ps[j]?=some p->qN X.prog X.w s.heap v p:=by
    have gen:∀(ys:List V) (its:List Value) (kvs:List (Key×V)),Vals ys its->ys.length=kvs.length->(∀(j:Nat) (y:V) (p:Key×V),ys[j]?=some y->kvs[j]?=some p->∃a,y= .ref a/\H a=some (.tup [kV p.1,p.2]))->∃ps:List (Key×Value),KV kvs ps/\∀(j:Nat) (v:Value) (p:Key×Value),its[j]?=some v->ps[j]?=some p->qN X.prog X.w s.heap v p:=by
      intro ys
      induction ys with
      | nil =>
        intro its kvs r e _
        cases r
        cases kvs with
        |nil=>exact⟨[], .nil,fun j v p z=>by simp at z⟩
        |cons _ _=>cases e
      | cons y ys ih =>
        intro its kvs r e hq
        cases r with
        | cons r1 r2 =>
          cases kvs with
          |nil=>cases e
          | cons kv kvs =>
            obtain⟨ps,g1,g2⟩:=ih _ kvs r2 (by simpa using e) fun j y p a b=>hq (j+1) y p (by simpa using a) (by simpa using b)
            obtain⟨a,rfl,ha⟩:=hq 0 y kv rfl rfl
            cases r1
            obtain⟨_,its2,rO,o,w1,w2,m,w3⟩:=(show aV X.prog X.w H s.heap a (.tup [kV kv.1,kv.2]) from I.hok a _ ha)
            cases rO with
            | cons x1 x2 =>
              cases x2 with
              | cons y1 y2 =>
                cases y2
                refine⟨(kv.1,_)::ps, .cons ⟨rfl,y1⟩ g1,fun j v p a b=>?_⟩
                cases j with
                | zero =>
                  simp at a b
                  subst a b
                  exact⟨_,o,m,_,rfl,w1,w2,w3,m6 x1⟩
                |succ j=>exact g2 j v p (by simpa using a) (by simpa using b)
    exact gen ys its kvs rs hlen hy
  obtain⟨ps,rel,hps⟩:=key
  have hpl:=rel.length
  refine Lk (I.ok.hd hc) h1 (by omega) (by omega) hps fun h' tk' hD k=>?_
  have hml:=Ad kvs []
  have new:aV X.prog X.w (upd H s.heap.objs.size (.dK (je [] kvs))) h' s.heap.objs.size (.dK (je [] kvs)):=by
    refine Cz (Nat.le_trans hml (Nat.le_trans (show _<=10000 by simp;omega) (by decide))) ?_ (rel.merge .nil) hD
    have hb:=I.big
    have:s.heap.objs.size≠sysModules:=Nat.ne_of_gt hb
    simpa using this
  exact⟨.ref s.heap.objs.size,_,I.laid (t':=tk') k (Nat.le_refl _) new,rfl,q _ (I.hok.fresh (Nat.le_refl _))⟩
end L2
set_option maxRecDepth 100000
set_option maxHeartbeats 4000000
namespace L2
open PySem PySem.Spec PyProof.Rows
abbrev Ks:=List (Int×PyData)
def eY(ks:Ks)(k:Int):Option PyData:=(ks.find? fun p=>decide (p.1=k)).map (·.2)
def kR(ks:Ks)(k:Int):Bool:=ks.any fun p=>decide (p.1=k)
def kL(ks:Ks)(k:Int)(d:PyData):Ks:=if kR ks k then ks.map fun p=>if p.1=k then(p.1,d) else p else ks++[(k,d)]
theorem Uv(ks:Ks)(k:Int):(eY ks k).isSome=kR ks k:=by
  unfold eY kR
  rw[Option.isSome_map]
  induction ks with
  |nil=>rfl
  | cons p r ih =>
    rw[List.find?_cons,List.any_cons]
    by_cases h:p.1=k
    · simp[h]
    · simp only[h,decide_false,Bool.false_or];exact ih
theorem JW{ks:Ks}{k:Int}:kR ks k=true↔k∈ks.map (·.1):=by
 unfold kR
 rw[List.any_eq_true,List.mem_map]
 constructor
 ·rintro⟨p,h1,h2⟩;exact⟨p,h1,by simpa using h2⟩
 ·rintro⟨p,h1,h2⟩;exact⟨p,h1,by simpa using h2⟩
theorem SX{k:Int}:eY [] k=none:=rfl
theorem oq{p:Int×PyData}{r:Ks}{k:Int}:eY (p::r) k=if p.1=k then some p.2 else eY r k:=by
 unfold eY
 rw[List.find?_cons]
 by_cases h:p.1=k<;>simp[h]
theorem U9{ks:Ks}{k j:Int}{d:PyData}:eY (ks++[(k,d)]) j=match eY ks j with|some x=>some x|none=>if j=k then some d else none:=by
  induction ks with
  | nil =>
    rw[List.nil_append,oq,SX]
    by_cases h:k=j
    · subst h;simp
    · have h':¬j=k:=fun z=>h z.symm
      simp[h,h']
  | cons p r ih =>
    rw[List.cons_append,oq,oq,ih]
    by_cases h:p.1=j<;>simp[h]
section
variable{S:Addr->Prop}{H:Hp}
theorem ak.val:∀{ks:Ks} {ps:List (Key×V)} (k:Int),ak S H (ks.map bS) ps->match eY ks k with|some d=>∃v,dO ps (Sum.inl k)=some v/\af S H d v|none=>dO ps (Sum.inl k)=none
  |[],ps,k,h=>by unfold ak at h;subst h;exact Ip
  | p :: r, ps, k, h => by
    rw[List.map_cons] at h
    unfold ak at h
    obtain⟨q,qs,rfl,h1,h2⟩:=h
    unfold bf at h1
    obtain⟨h3,h4⟩:=h1
    have h3:q.1=Sum.inl p.1:=h3
    rw[oq]
    have ih:=ak.val k h2
    by_cases e:p.1=k
    · rw[if_pos e]
      refine⟨q.2,?_,h4⟩
      rw[o5 (by rw[h3,e])]
    · rw[if_neg e,nA (fun z=>e (by rw[h3] at z;exact Sum.inl.inj z))]
      exact ih
theorem ak.snoc:∀{ks:Ks} {ps:List (Key×V)} {k:Int} {d:PyData} {v:V},ak S H (ks.map bS) ps->af S H d v->ak S H ((ks++[(k,d)]).map bS) (ps++[(Sum.inl k,v)])
  | [], ps, k, d, v, h, hd => by
    unfold ak at h;subst h
    show ak S H [bS (k,d)] [(Sum.inl k,v)]
    unfold ak
    exact⟨_,_,rfl,by unfold bf;exact⟨rfl,hd⟩,by unfold ak;rfl⟩
  | p :: r, ps, k, d, v, h, hd => by
    rw[List.map_cons] at h
    unfold ak at h
    obtain⟨q,qs,rfl,h1,h2⟩:=h
    rw[List.cons_append,List.map_cons,List.cons_append]
    unfold ak
    exact⟨q,_,rfl,h1,ak.snoc h2 hd⟩
theorem ak.repl:∀{ks:Ks} {ps:List (Key×V)} {k:Int} {d:PyData} {v:V},ak S H (ks.map bS) ps->af S H d v->ak S H ((ks.map fun p=>if p.1=k then(p.1,d) else p).map bS) (ps.map fun kv=>if kv.1=Sum.inl k then(kv.1,v) else kv)
  |[],ps,k,d,v,h,hd=>by unfold ak at h;subst h;simp only[List.map_nil];unfold ak;rfl
  | p :: r, ps, k, d, v, h, hd => by
    rw[List.map_cons] at h
    unfold ak at h
    obtain⟨q,qs,rfl,h1,h2⟩:=h
    rw[List.map_cons,List.map_cons,List.map_cons]
    unfold bf at h1
    obtain⟨h3,h4⟩:=h1
    have h3:q.1=Sum.inl p.1:=h3
    unfold ak
    refine⟨_,_,rfl,?_,ak.repl h2 hd⟩
    by_cases e:p.1=k
    · rw[if_pos e,if_pos (by rw[h3,e])]
      unfold bf
      exact⟨h3,hd⟩
    · rw[if_neg e,if_neg (fun z=>e (by rw[h3] at z;exact Sum.inl.inj z))]
      unfold bf
      exact⟨h3,h4⟩
theorem ak.any:∀{ks:Ks} {ps:List (Key×V)} (k:Int),ak S H (ks.map bS) ps->(ps.any fun kv=>decide (kv.1=Sum.inl k))=kR ks k:=fun{ks ps} k h=>by
 rw[uH,<-Uv]
 have:=ak.val k h
 cases hv:eY ks k with
 |none=>rw[hv] at this;rw[this];rfl
 |some d=>rw[hv] at this;obtain⟨v,e,_⟩:=this;rw[e];rfl
theorem ak.put{ks:Ks}{ps:List (Key×V)}{k:Int}{d:PyData}{v:V}(h:ak S H (ks.map bS) ps)(hd:af S H d v):ak S H ((kL ks k d).map bS) (putK ps (Sum.inl k) v):=by
 unfold kL putK
 rw[ak.any k h]
 split
 ·exact ak.repl h hd
 ·exact ak.snoc h hd
theorem ak.len:∀{ks:Ks} {ps:List (Key×V)},ak S H (ks.map bS) ps->ps.length=ks.length
  |[],ps,h=>by unfold ak at h;subst h;rfl
  | p :: r, ps, h => by
    rw[List.map_cons] at h
    unfold ak at h
    obtain⟨q,qs,rfl,_,h2⟩:=h
    simp[ak.len h2]
theorem ak.keys:∀{ks:Ks} {ps:List (Key×V)},ak S H (ks.map bS) ps->ps.map (·.1)=(ks.map (·.1)).map Sum.inl
  |[],ps,h=>by unfold ak at h;subst h;rfl
  | p :: r, ps, h => by
    rw[List.map_cons] at h
    unfold ak at h
    obtain⟨q,qs,rfl,h1,h2⟩:=h
    unfold bf at h1
    have h3:q.1=Sum.inl p.1:=h1.1
    simp[ak.keys h2,h3]
end
def oQ(G:Gx)(ρ:Rh)(te:TE)(Φ:Bool->Ks->Prop):Prop:=∀nb σ H (Q:VK),Wd G nb ρ σ H->
 (∀f a ps H' ks,Φ f ks->Step G.B H H'->H a=none->H' a=some (.dK ps)->ak (fun x=>G.S nb f x\/x=a) H' (ks.map bS) ps->Q (.ref a) H')->te σ H Q
section
variable{G:Gx}{ρ ck:Rh}{Φ Ψ:Pd}{ta tb te:TE}{t:TA}{i:Nat}{f g:Bool}{d e:PyData}{ks:Ks}{K:PySem.W.Frag}{E:DE}{Θ:Bool->Ks->Prop}
theorem Wd.grow{nb:Addr->Prop}{σ:St}{H H1:Hp}{a:Addr}{o:HO}(W:Wd G nb ρ σ H)(s1:Step G.B H H1)(ha:H a=none)(e:H1 a=some o):Wd G (fun x=>nb x\/x=a) ρ σ H1/\NB G.B a/\∀f x,G.S (fun x=>nb x\/x=a) f x->(G.S nb f x\/x=a):=by
  have hN:NB G.B a:=NB.new W.au ha
  have hA:∀f x,G.S (fun x=>nb x\/x=a) f x->(G.S nb f x\/x=a):=fun f x z=>by
    rcases z with (z|z)|z|z|z
    · exact .inl (.inl z)
    · exact .inr z
    · exact .inl (.inr (.inl z))
    · exact .inl (.inr (.inr (.inl z)))
    · exact .inl (.inr (.inr (.inr z)))
  have W1:=W.step s1
  refine⟨?_,hN,hA⟩
  refine⟨W1.au,fun x n=>?_,W1.old,fun x n q=>?_,W.gA,W.len,W.gB,fun h m=>(((W.cM h m).fresh ha).keep (s1.but fun x z=> .inl (.inr (.inr (.inl z))))).av (hA h.1),fun j s e'=>?_,W.apart,W.cP,W.bF⟩
  · rcases n with n|n
    · exact W1.live x n
    · subst n;rw[e];exact Option.some_ne_none _
  · rcases n with n|n
    · exact W.bB x n q
    · subst n
      cases z:G.H0 x with
      |none=>rfl
      |some o=>rw[W.old x o q z] at ha;cases ha
  · obtain⟨x,e1,h⟩:=W.ok j s e'
    refine⟨x,e1,?_⟩
    cases s with
    |no=>trivial
    |d f d=>obtain⟨v,e,h⟩:=h;exact⟨v,e,((h.fresh ha).keep (s1.but fun x z=> .inl (.inr (.inr (.inl z))))).av (hA f)⟩
    |own c f es=>obtain⟨e,n,q,xs,hx,hd⟩:=h;exact⟨e, .inl n,q,xs,s1.1 _ _ q hx,((hd.fresh ha).keep (s1.but fun x z=> .inl (.inr (.inr (.inl z))))).av (hA f)⟩
    |au=>exact h
    |raw v=>exact h
    |aR c f es=>obtain⟨e,n,q,xs,hx,hd⟩:=h;exact⟨e, .inl n,q,xs,s1.1 _ _ q hx,((hd.fresh ha).keep (s1.but fun x z=> .inl (.inr (.inr (.inl z))))).av (hA f)⟩
    | cu c =>
      obtain⟨e,n,q⟩:=h
      refine⟨e,fun a ha=>⟨.inl (n a ha).1,(n a ha).2⟩,c.av (hA c.f) (c.keep (.of fun x o hx e=>s1.1 x o ?_ e) (c.fresh ha q))⟩
      rcases hx with hx|hx
      · exact Classical.byContradiction fun z=>hx (.inl (.inr (.inr (.inl z))))
      · exact(n x hx).2
theorem Qy{nb:Addr->Prop}{σ:St}{H H1:Hp}{a:Addr}{ps:List (Key×V)}(W:Wd G nb ρ σ H)(s1:Step G.B H H1)(ha:H a=none)(e:H1 a=some (.dK ps))(hd:ak (fun x=>G.S nb f x\/x=a) H1 (ks.map bS) ps):
  Wd G (fun x=>nb x\/x=a) (ρ.set i (.aR a f ks)) (σ.set i (some (.ref a))) H1:=by
 obtain⟨W2,hN,hA⟩:=W.grow s1 ha e
 refine W2.set ⟨rfl, .inr rfl,hN,ps,e,hd.av (hA f)⟩ (fun _ _ _ z=>by cases z) ?_ (fun x hx j t hj ht hc=>?_)
 rotate_left
 ·have hx:x=a:=List.mem_singleton.mp hx
  subst hx
  rcases hc with ⟨c,z⟩|⟨c,rfl⟩
  ·cases z
  ·exact fun z=>W.live x ((W.ok j _ ht).choose_spec.2.2.1 x z).1 ha
 rintro a' f' ds' ⟨rfl,rfl,rfl⟩ j c g cs hj hc z
 subst z
 obtain⟨x,e1,h1,h2,h3,ys,hy,_⟩:=W.ok j _ hc
 rw[hy] at ha;cases ha
theorem Sv.Ag(h:oQ G ρ te fun f ks=>∀a,E.nx (ρ.set i (.aR a f ks))):Sv G ρ (fh te (e7 i)) E:=fun nb σ H D W K=>h nb σ H _ W fun f a ps H1 ks q s1 ha e hd=>K.nx _ _ _ H1 (q a) (Qy W s1 ha e hd)
theorem oQ.new(h:Θ true []):oQ G ρ wL Θ:=fun nb σ H Q W z p hp=>z true p [] _ [] h (.same W.au (cz hp)) hp aL (by unfold ak;rfl)
@[reducible] def JY(p:Int×PyData):PyData:= .tuple [.int p.1,p.2]
theorem J2{nb:Addr->Prop}{σ:St}{H:Hp}{a:Addr}{ps:List (Key×V)}{ks':Ks}(W:Wd G nb ρ σ H)(e:ρ[i]?=some (.aR a f ks))(hd:ak (G.S nb g) H (ks'.map bS) ps):Wd G nb (ρ.set i (.aR a g ks')) σ (upd H a (.dK ps)):=by
 obtain⟨x,e1,h1,h2,h3,ys,hy,_⟩:=W.ok i _ e
 subst h1
 have hil:i<ρ.length:=(List.getElem?_eq_some_iff.mp e).1
 have W0:Wd G nb (ρ.set i .no) (σ.set i (some (.ref a))) H:=W.set trivial fun _ _ _ z=>by cases z
 have W1:Wd G nb (ρ.set i .no) (σ.set i (some (.ref a))) (upd H a (.dK ps)):=W0.write h2 h3 (fun j c f' cs hc z=>by
   subst z
   have hij:i≠j:=fun z=>by subst z;rw[List.getElem?_set_self hil] at hc;cases hc
   rw[List.getElem?_set_ne hij] at hc
   obtain⟨_,_,_,_,_,ps,hp,_⟩:=W.ok j _ hc
   rw[hy] at hp;cases hp) (fun j c f' cs hc=>by
   by_cases hij:i=j
   ·subst hij;rw[List.getElem?_set_self hil] at hc;cases hc
   ·rw[List.getElem?_set_ne hij] at hc
    exact(W.cP i j _ _ _ _ _ _ hij e hc).symm) (fun j c hc z=>by
   have hij:i≠j:=fun z=>by subst z;rw[List.getElem?_set_self hil] at hc;cases hc
   rw[List.getElem?_set_ne hij] at hc
   exact W.bF j i c _ (Ne.symm hij) hc e a z (List.mem_singleton.mpr rfl))
 have W2:=W1.set (i:=i) (s:= .aR a g ks') (x:=some (.ref a)) ⟨rfl,h2,h3,ps,aL,hd.keep (aJ.set (.inl h2))⟩ (fun _ _ _ z=>by cases z) (by
  rintro a' f' ds' ⟨rfl,rfl,rfl⟩ j c g' cs hj hc
  rw[List.getElem?_set_ne (Ne.symm hj)] at hc
  exact W.cP i j _ _ _ _ _ _ (Ne.symm hj) e hc) (fun x hx j t hj ht hc z=>by
  rw[List.getElem?_set_ne (Ne.symm hj)] at ht
  have hx:x=a:=List.mem_singleton.mp hx
  subst hx
  rcases hc with ⟨c,q⟩|⟨c,rfl⟩
  ·cases q
  ·exact W.bF j i c _ hj ht e x z (List.mem_singleton.mpr rfl))
 rw[List.set_set,List.set_set] at W2
 have:σ.set i (some (.ref a))=σ:=by
  apply List.ext_getElem?
  intro j
  by_cases hij:i=j
  ·subst hij;rw[List.getElem?_set_self (by rw[W.len];exact hil),e1]
  ·rw[List.getElem?_set_ne hij]
 rwa[this] at W2
theorem Sv.zZ{a:Addr}(e:ρ[i]?=some (.aR a f ks))(h:Ev G ρ te fun g d=>Ev G ρ tb fun _ y=>∃k,y= .int k/\ks.length<10000/\E.nx (ρ.set i (.aR a (f && g) (kL ks k d)))):Sv G ρ (fh te (mW (cQ i) tb pP)) E:=fun nb σ H D W KK=>
 h nb σ H _ W fun g v H1 d q s1 hv=>by
  obtain⟨x,e1,h1,h2,h3,ps,hp,hd⟩:=(W.step s1).ok i _ e
  subst h1
  refine⟨.ref a,e1,q nb σ H1 _ (W.step s1) fun g' u H2 y ⟨k,ey,hl,p⟩ s2 hu=>?_⟩
  subst ey
  have W2:=(W.step s1).step s2
  have hlen:=hd.len
  refine⟨a,ps, .inl k,rfl,hu.bG,s2.1 _ _ h3 hp,Nat.lt_of_lt_of_le (by rw[hlen];exact hl) (by decide),KK.nx nb _ _ _ p (J2 W2 e ?_)⟩
  exact ak.put ((hd.keep s2.cX).av (aS (fun z=>(Bool.and_eq_true _ _▸z).1) fun _ z=>z)) ((hv.keep s2.cX).av (aS (fun z=>(Bool.and_eq_true _ _▸z).2) fun _ z=>z))
namespace Ev
theorem UT{a:Addr}(e:ρ[i]?=some (.aR a f ks))(h:Ev G ρ tb fun _ y=>∃k,y= .int k/\∃d,eY ks k=some d/\Φ f d):Ev G ρ (cD jn (cQ i) tb) Φ:=fun nb σ H Q W z=>by
 obtain⟨x,e1,h1,h2,h3,ps,hp,hd⟩:=W.ok i _ e
 subst h1
 refine⟨.ref a,e1,h nb σ H _ W fun g w H1 y ⟨k,ey,d,hv,p⟩ s1 hw=>?_⟩
 subst ey
 have:=ak.val k (hd.keep s1.cX)
 rw[hv] at this
 obtain⟨v,hv',hD⟩:=this
 exact⟨a,ps, .inl k,v,rfl,hw.bG, .inl (s1.1 _ _ h3 hp),hv',z f _ H1 _ p s1 hD⟩
theorem Ay{a:Addr}(e:ρ[i]?=some (.aR a f ks))(h:Ev G ρ ta fun _ y=>∃k,y= .int k/\Ev G ρ tb fun g x=>Φ (f && g) ((eY ks k).getD x)):Ev G ρ (jW K "dict" ze (cQ i) (aQ ta (aQ tb bw))) Φ:=fun nb σ H Q W z=>by
  obtain⟨x,e1,h1,h2,h3,ps,hp,hd⟩:=W.ok i _ e
  subst h1
  refine⟨.ref a,e1, .inr (.inr (.inl ⟨rfl, .inl ⟨_,hp⟩⟩)),?_⟩
  refine h nb σ H _ W fun g w H1 y ⟨k,ey,q⟩ s1 hw=>q nb σ H1 _ (W.step s1) fun g' u H2 x p s2 hu=>?_
  subst ey
  have hd2:=(hd.keep s1.cX).keep s2.cX
  have hv:=ak.val k hd2
  refine⟨a,ps, .inl k,u,rfl,by rw[hw.bG];rfl, .inl (s2.1 _ _ h3 (s1.1 _ _ h3 hp)),?_⟩
  cases hk:eY ks k with
  | none =>
    rw[hk] at hv p
    rw[hv]
    exact z _ _ H2 _ p (s1.trans s2) (hu.av (aS (fun z=>(Bool.and_eq_true _ _▸z).2) fun _ z=>z))
  | some d =>
    rw[hk] at hv p
    obtain⟨v,e',hD⟩:=hv
    rw[e']
    exact z _ _ H2 _ p (s1.trans s2) (hD.av (aS (fun z=>(Bool.and_eq_true _ _▸z).1) fun _ z=>z))
end Ev
end
def B5(ng:Bool):R2:=fun x y H Q=>∃a o,y= .ref a/\Bv H a x o/\Q (.bl (o.isSome !=ng)) H
theorem K5{X:Cx}(hu:X.A.units+64<cLine):cE X (compareOp .In) (B5 false):=by
 intro pins s σ H x y v u Q I rx ry h
 obtain⟨a,o,rfl,g,q⟩:=h
 cases ry
 exact L8 (by omega) I g rx fun s' I'=>⟨.bl o.isSome,H,I',rfl,by simpa using q⟩
section
variable{G:Gx}{ρ:Rh}{Φ:Pd}{ta tb te:TE}{i:Nat}{f:Bool}{ks:Ks}{K:PySem.W.Frag}{E:DE}
theorem KI{nb:Addr->Prop}{σ:St}{H:Hp}{a:Addr}(W:Wd G nb ρ σ H)(e:ρ[i]?=some (.aR a f ks)):Wd G (fun x=>nb x/\x≠a) (ρ.set i (.d f (.dict (ks.map bS)))) σ H:=by
  obtain⟨x,e1,h1,h2,h3,xs,hx,hd⟩:=W.ok i _ e
  subst h1
  have hil:i<ρ.length:=(List.getElem?_eq_some_iff.mp e).1
  have W0:Wd G nb (ρ.set i .no) (σ.set i (some (.ref a))) H:=W.set trivial fun _ _ _ z=>by cases z
  have W1:Wd G (fun x=>nb x/\x≠a) (ρ.set i .no) (σ.set i (some (.ref a))) H:=by
    refine⟨W0.au,fun x n=>W0.live x n.1,W0.old,fun x n=>W0.bB x n.1,W0.gA,W0.len,W0.gB,fun h m=>(W0.cM h m).av (aS (fun z=>z) fun _ z=>z.1),fun j s e'=>?_,W0.apart,W0.cP,W0.bF⟩
    obtain⟨x,gh,h⟩:=W0.ok j s e'
    refine⟨x,gh,?_⟩
    have hij:s≠ .no->i≠j:=fun n z=>by subst z;rw[List.getElem?_set_self hil] at e';cases e';exact n rfl
    cases s with
    |no=>trivial
    |d f d=>obtain⟨v,e,h⟩:=h;exact⟨v,e,h.av (aS (fun z=>z) fun _ z=>z.1)⟩
    | own c f es =>
      obtain⟨e2,n,q,ys,hy,hd'⟩:=h
      have hca:c≠a:=fun z=>by subst z;rw[hx] at hy;cases hy
      exact⟨e2,⟨n,hca⟩,q,ys,hy,hd'.av (aS (fun z=>z) fun _ z=>z.1)⟩
    |au=>exact h
    |raw v=>exact h
    | aR c f es =>
      obtain⟨e2,n,q,ps,hp,hd'⟩:=h
      have hij:=hij (by intro z;cases z)
      rw[List.getElem?_set_ne hij] at e'
      exact⟨e2,⟨n,(W.cP i j _ _ _ _ _ _ hij e e').symm⟩,q,ps,hp,hd'.av (aS (fun z=>z) fun _ z=>z.1)⟩
    | cu c =>
      obtain⟨e2,n,q⟩:=h
      have hij:=hij (by intro z;cases z)
      rw[List.getElem?_set_ne hij] at e'
      exact⟨e2,fun x hx=>⟨⟨(n x hx).1,fun z=>W.bF j i c _ (Ne.symm hij) e' e x hx (by rw[z];exact List.mem_singleton.mpr rfl)⟩,(n x hx).2⟩,c.av (aS (fun z=>z) fun _ z=>z.1) q⟩
  have W2:=W1.jN (i:=i) (f:=f) (d:= .dict (ks.map bS)) (v:= .ref a) (by
    unfold af
    refine⟨a,xs,rfl,fun z=>?_, .inl hx,hd.av (aS (fun z=>z) fun _ z=>z.1)⟩
    rcases z with z|z|z|z
    · exact z.2 rfl
    · exact W.gA a z (W.bB a h2 h3)
    · exact z h3
    · exact z.2 (W.bB a h2 h3))
  rw[List.set_set,List.set_set] at W2
  have:σ.set i (some (.ref a))=σ:=by
    apply List.ext_getElem?
    intro j
    by_cases hij:i=j
    · subst hij;rw[List.getElem?_set_self (by rw[W.len];exact hil),e1]
    · rw[List.getElem?_set_ne hij]
  rwa[this] at W2
theorem Sv.Hq{s:TS}{a:Addr}(i:Nat)(e:ρ[i]?=some (.aR a f ks))(h:Sv G (ρ.set i (.d f (.dict (ks.map bS)))) s E):Sv G ρ s E:=fun nb σ H D W K=>h _ σ H D (KI W e) K
theorem Ev.vR(h:Ev G ρ ta fun f x=>∃ks:Ks,x= .dict (ks.map bS)/\Ev G ρ tb fun _ y=>∃k,y= .int k/\∃d,eY ks k=some d/\Φ f d):Ev G ρ (cD jn ta tb) Φ:=
 Ev.gM (h.mono fun f x ⟨ks,ex,q⟩=>q.mono fun g y ⟨k,ey,d,hv',p⟩ nb σ H u v Q W hu hv z=>by
  subst ex ey
  unfold af at hu
  obtain⟨a,ps,rfl,n,hp,hd⟩:=hu
  have:=ak.val k hd
  rw[hv'] at this
  obtain⟨w,hw,hD⟩:=this
  exact⟨a,ps, .inl k,w,rfl,hv.bG,hp,hw,z f _ H _ p (.refl W.au) hD⟩)
end
end L2
set_option maxRecDepth 100000
set_option maxHeartbeats 4000000
set_option maxRecDepth 100000
set_option maxHeartbeats 4000000
namespace L2
open PySem PySem.Spec PyProof.Rows
structure EI(n:Int)(cs:List aA):Prop where
 n0:1<=n
 n1:n<=10
 c0:cs≠[]
 c1:cs.length<=8
 ok:∀prs∈cs,prs≠[]/\prs.length<=4/\(prs.map (·.1)).Pairwise (· < ·)/\∀pr∈prs,0<=pr.1/\pr.1<n
section
variable{n:Int}{cs:List aA}(h:EI n cs)
include h
end
end L2
set_option maxRecDepth 100000
set_option maxHeartbeats 4000000
namespace L2
open PySem PySem.Spec PyProof.Rows
theorem MD:∀m n:Nat,∃u v:Int,u*m+v*n=(Nat.gcd m n:Int):=fun m n=>by
  induction m,n using Nat.gcd.induction with
  |H0 n=>exact⟨0,1,by simp⟩
  | H1 m n hm ih =>
    obtain⟨u,v,e⟩:=ih
    rw[Nat.gcd_rec]
    refine⟨v-u*(n/m:Nat),u,?_⟩
    rw[<-e]
    have h:(n:Int)=((n%m:Nat):Int)+(m:Int)*((n/m:Nat):Int):=by exact_mod_cast (Nat.mod_add_div n m).symm
    generalize ((n/m:Nat):Int)=z at h⊢
    generalize ((n%m:Nat):Int)=y at h⊢
    rw[h]
    grind
theorem Aq{p b a:Int}(hp:eX p)(hb:b%p≠0):∃k,b*sol p b a-a=p*k:=by
 have p2:=hp.1
 have hex:∃x,0<=x/\x<p/\∃k,b*x-a=p*k:=by
  have hg:Nat.gcd p.natAbs b.natAbs=1:=by
   have d1:(Int.gcd p b:Int)∣p:=Int.gcd_dvd_left ..
   have d2:(Int.gcd p b:Int)∣b:=Int.gcd_dvd_right ..
   have h0:0<(Int.gcd p b:Int):=by
    have:Int.gcd p b≠0:=fun z=>by have:=(Int.gcd_eq_zero_iff.mp z).1;omega
    omega
   rcases hp.2 _ h0 d1 with e|e
   ·show Int.gcd p b=1
    omega
   ·rw[e] at d2;exact absurd (Int.emod_eq_zero_of_dvd d2) hb
  obtain⟨u,v,e⟩:=MD p.natAbs b.natAbs
  rw[hg] at e
  obtain⟨v',e'⟩:∃v',u*p+v'*b=1:=by
   have Nq:(p.natAbs:Int)=p:=by omega
   rw[Nq] at e
   rcases(show(b.natAbs:Int)=b\/(b.natAbs:Int)= -b by omega) with h|h<;>rw[h] at e
   ·exact⟨v,e⟩
   ·exact⟨-v,by have e2:u*p+v* -b=1:=e;rw[<-e2];grind⟩
  refine⟨(v'*a)%p,Int.emod_nonneg _ (by omega),Int.emod_lt_of_pos _ (by omega),?_⟩
  have h1:=Int.emod_add_mul_ediv (v'*a) p
  generalize v'*a/p=t at h1
  generalize hx:v'*a%p=x at h1
  refine⟨-u*a-b*t,?_⟩
  have:b*x=b*(v'*a)-b*(p*t):=by rw[<-h1];grind
  rw[this]
  have h2:b*(v'*a)=(1-u*p)*a:=by rw[<-e'];grind
  rw[h2]
  grind
 unfold sol
 rw[dif_pos hex]
 exact(Classical.choose_spec hex).2.2
end L2
set_option maxRecDepth 100000
set_option maxHeartbeats 4000000
set_option maxRecDepth 100000
set_option maxHeartbeats 4000000
namespace L2
open PySem PySem.Spec PyProof.Rows
theorem GZ{H:Hp}{a:Addr}{xs ys:List (Key×V)}(h:Rd H a (.dK xs))(g:Rd H a (.dK ys)):xs=ys:=by
 rcases h with h|⟨o,h⟩<;>rcases g with g|⟨u,g⟩<;>rw[h] at g<;>cases g<;>rfl
theorem nM.fn:∀{d e:PyData} {k:Key},nM d k->nM e k->d=e
  | .int i, e, k, h, g => by
    have h:k= .inl i:=h
    cases e<;>first|exact g.elim|(have g:k=_:=g;rw[h] at g;injection g with g;subst g;rfl)|(have g:k=_:=g;rw[h] at g;cases g)
  | .str i, e, k, h, g => by
    have h:k= .inr i:=h
    cases e<;>first|exact g.elim|(have g:k=_:=g;rw[h] at g;injection g with g;subst g;rfl)|(have g:k=_:=g;rw[h] at g;cases g)
  | .none,_,_,h,_=>h.elim
  | .bool _,_,_,h,_=>h.elim
  | .list _,_,_,h,_=>h.elim
  | .tuple _,_,_,h,_=>h.elim
  | .dict _,_,_,h,_=>h.elim
mutual
theorem af.fn{S S':Addr->Prop}{H:Hp}:∀{d e:PyData} {v:V},af S H d v->af S' H e v->d=e
  | .none, e, v, h, g => by
    unfold af at h;subst h
    cases e<;>unfold af at g<;>first|rfl|(cases g;done)|(obtain⟨_,_,z,_⟩:=g;cases z)
  | .bool b, e, v, h, g => by
    unfold af at h;subst h
    cases e<;>unfold af at g<;>first|(cases g;done)|(cases g;rfl)|(obtain⟨_,_,z,_⟩:=g;cases z)
  | .int b, e, v, h, g => by
    unfold af at h;subst h
    cases e<;>unfold af at g<;>first|(cases g;done)|(cases g;rfl)|(obtain⟨_,_,z,_⟩:=g;cases z)
  | .str b, e, v, h, g => by
    unfold af at h;subst h
    cases e<;>unfold af at g<;>first|(cases g;done)|(cases g;rfl)|(obtain⟨_,_,z,_⟩:=g;cases z)
  | .list ds, e, v, h, g => by
    unfold af at h
    obtain⟨a,xs,rfl,n,hx,hd⟩:=h
    cases e<;>unfold af at g<;>first|(cases g;done)|skip
    all_goals (obtain⟨a',xs',z,n',hx',hd'⟩:=g;cases z)
    all_goals first
      |(rcases hx' with hx'|⟨o,hx'⟩<;>rw[hx] at hx'<;>cases hx';done)
      |(rw[hx] at hx';cases hx';done)
      |(rw[hx] at hx';cases hx';rw[ah.fn hd hd'])
  | .tuple ds, e, v, h, g => by
    unfold af at h
    obtain⟨a,xs,rfl,n,hx,hd⟩:=h
    cases e<;>unfold af at g<;>first|(cases g;done)|skip
    all_goals (obtain⟨a',xs',z,n',hx',hd'⟩:=g;cases z)
    all_goals first
      |(rcases hx' with hx'|⟨o,hx'⟩<;>rw[hx] at hx'<;>cases hx';done)
      |(rw[hx] at hx';cases hx';done)
      |(rw[hx] at hx';cases hx';rw[ah.fn hd hd'])
  | .dict ds, e, v, h, g => by
    unfold af at h
    obtain⟨a,xs,rfl,n,hx,hd⟩:=h
    cases e<;>unfold af at g<;>first|(cases g;done)|skip
    all_goals (obtain⟨a',xs',z,n',hx',hd'⟩:=g;cases z)
    all_goals first
      |(rcases hx with hx|⟨o,hx⟩<;>rw[hx] at hx'<;>cases hx';done)
      |(rw[ak.fn hd (by rw[GZ hx hx'];exact hd')])
theorem ah.fn{S S':Addr->Prop}{H:Hp}:∀{ds es:List PyData} {vs:List V},ah S H ds vs->ah S' H es vs->ds=es
  | [], es, vs, h, g => by
    unfold ah at h;subst h
    cases es with
    |nil=>rfl
    |cons e es=>unfold ah at g;obtain⟨_,_,z,_⟩:=g;cases z
  | d :: ds, es, vs, h, g => by
    unfold ah at h
    obtain⟨y,ys,rfl,h1,h2⟩:=h
    cases es with
    |nil=>unfold ah at g;cases g
    | cons e es =>
      unfold ah at g
      obtain⟨y',ys',z,g1,g2⟩:=g
      cases z
      rw[af.fn h1 g1,ah.fn h2 g2]
theorem ak.fn{S S':Addr->Prop}{H:Hp}:∀{ds es:List (PyData×PyData)} {vs:List (Key×V)},ak S H ds vs->ak S' H es vs->ds=es
  | [], es, vs, h, g => by
    unfold ak at h;subst h
    cases es with
    |nil=>rfl
    |cons e es=>unfold ak at g;obtain⟨_,_,z,_⟩:=g;cases z
  | d :: ds, es, vs, h, g => by
    unfold ak at h
    obtain⟨y,ys,rfl,h1,h2⟩:=h
    cases es with
    |nil=>unfold ak at g;cases g
    | cons e es =>
      unfold ak at g
      obtain⟨y',ys',z,g1,g2⟩:=g
      cases z
      rw[bf.fn h1 g1,ak.fn h2 g2]
theorem bf.fn{S S':Addr->Prop}{H:Hp}:∀{d e:PyData×PyData} {v:Key×V},bf S H d v->bf S' H e v->d=e
  | (k, d), (k', e), v, h, g => by
    unfold bf at h g
    rw[nM.fn h.1 g.1,af.fn h.2 g.2]
end
mutual
theorem af.out{S:Addr->Prop}{H:Hp}{c:Addr}{D:PyData}(hc:af S H D (.ref c)):∀{d:PyData} {v:V},sizeOf d<sizeOf D->af S H d v->af (fun x=>S x\/x=c) H d v
  | .none,_,_,h=>by unfold af at h⊢;exact h
  | .bool _,_,_,h=>by unfold af at h⊢;exact h
  | .int _,_,_,h=>by unfold af at h⊢;exact h
  | .str _,_,_,h=>by unfold af at h⊢;exact h
  | .list ds, v, hs, h => by
    have h0:=h
    unfold af at h⊢
    obtain⟨a,xs,rfl,n,hx,hd⟩:=h
    refine⟨a,xs,rfl,fun z=>z.elim n fun z=>?_,hx,ah.out hc (by simp at hs;omega) hd⟩
    subst z
    rw[af.fn hc h0] at hs
    exact absurd hs (Nat.lt_irrefl _)
  | .tuple ds, v, hs, h => by
    have h0:=h
    unfold af at h⊢
    obtain⟨a,xs,rfl,n,hx,hd⟩:=h
    refine⟨a,xs,rfl,fun z=>z.elim n fun z=>?_,hx,ah.out hc (by simp at hs;omega) hd⟩
    subst z
    rw[af.fn hc h0] at hs
    exact absurd hs (Nat.lt_irrefl _)
  | .dict ds, v, hs, h => by
    have h0:=h
    unfold af at h⊢
    obtain⟨a,xs,rfl,n,hx,hd⟩:=h
    refine⟨a,xs,rfl,fun z=>z.elim n fun z=>?_,hx,ak.out hc (by simp at hs;omega) hd⟩
    subst z
    rw[af.fn hc h0] at hs
    exact absurd hs (Nat.lt_irrefl _)
theorem ah.out{S:Addr->Prop}{H:Hp}{c:Addr}{D:PyData}(hc:af S H D (.ref c)):∀{ds:List PyData} {vs:List V},sizeOf ds<sizeOf D->ah S H ds vs->ah (fun x=>S x\/x=c) H ds vs
  |[],_,_,h=>by unfold ah at h⊢;exact h
  | d :: ds, _, hs, h => by
    unfold ah at h⊢
    obtain⟨y,ys,e,h1,h2⟩:=h
    exact⟨y,ys,e,af.out hc (by simp at hs;omega) h1,ah.out hc (by simp at hs;omega) h2⟩
theorem ak.out{S:Addr->Prop}{H:Hp}{c:Addr}{D:PyData}(hc:af S H D (.ref c)):∀{ds:List (PyData×PyData)} {vs:List (Key×V)},sizeOf ds<sizeOf D->ak S H ds vs->ak (fun x=>S x\/x=c) H ds vs
  |[],_,_,h=>by unfold ak at h⊢;exact h
  | d :: ds, _, hs, h => by
    unfold ak at h⊢
    obtain⟨y,ys,e,h1,h2⟩:=h
    exact⟨y,ys,e,bf.out hc (by simp at hs;omega) h1,ak.out hc (by simp at hs;omega) h2⟩
theorem bf.out{S:Addr->Prop}{H:Hp}{c:Addr}{D:PyData}(hc:af S H D (.ref c)):∀{d:PyData×PyData} {v:Key×V},sizeOf d<sizeOf D->bf S H d v->bf (fun x=>S x\/x=c) H d v
  | (k, d), _, hs, h => by
    unfold bf at h⊢
    exact⟨h.1,af.out hc (by simp at hs;omega) h.2⟩
end
def eK(G:Gx)(ρ:Rh)(te:TE)(Φ:PyData->Prop):Prop:=∀nb σ H (Q:VK),Wd G nb ρ σ H->(∀v H' d,Φ d->Step G.B H H'->af (fun a=>H a≠none) H' d v->Q v H')->te σ H Q
section
variable{G:Gx}{ρ:Rh}{ta tb te:TE}{t:TA}{E:DE}{i j k m:Nat}{f:Bool}{K:PySem.W.Frag}{Φ:PyData->Prop}
theorem Wd.DZ{nb:Addr->Prop}{σ:St}{H H1:Hp}{a:Addr}(W:Wd G nb ρ σ H)(s:Step G.B H H1)(h:H a≠none):H1 a≠none:=fun e=>h (W.none_of s e)
theorem eK.jY{n:Nat}{F:DF}(hm:cS F)(e:ρ[i]?=some .au)(h:Av G ρ t fun es=>es.length+1=n/\F (es.map (·.2)) fun f d=>f=true/\Φ d):eK G ρ (fu (fq n F) [] E0 (aQ (cQ i) t)) Φ:=fun nb σ H Q W z=>by
 obtain⟨b,l,hB,e1,B⟩:=W.qP e
 refine⟨.ref b,e1,h nb σ H _ W fun es vs H1 ⟨hl,p⟩ s1 q1=>?_⟩
 have W1:=W.step s1
 show fq n F ((V.ref b::vs)++[]) H1 Q E0
 rw[List.append_nil]
 have hb:∀f,G.S nb f b:=fun f=> .inr (.inr (.inl fun n=>n b l hB rfl))
 refine⟨by rw[List.length_cons,q1.len,hl],b,l,vs,G.S nb (fP es),es.map (·.2),rfl,W1.au b l hB,W1.gu,hb _,q1.all fun z=>z,hm _ _ _ p fun f d ⟨hf,hp⟩ v H' bt B' hd=>z v H' d hp (s1.trans (.qf hB bt B')) (hd.av fun a q=>?_)⟩
 exact .inr ⟨hf,W.DZ s1 q⟩
theorem eK.dD{n:Nat}{F:DF}(hm:cS F)(h:Av G ρ t fun es=>es.length=n/\F (es.map (·.2)) fun f d=>f=true/\Φ d):eK G ρ (fu (bA n F) [] E0 t) Φ:=fun nb σ H Q W z=>
 h nb σ H _ W fun es vs H1 ⟨hl,p⟩ s1 q1=>by
  have W1:=W.step s1
  rw[List.append_nil]
  refine⟨by rw[q1.len,hl],G.S nb (fP es),es.map (·.2),W1.gu,q1.all fun z=>z,hm _ _ _ p fun f d ⟨hf,hp⟩ v H' sm hd=>z v H' d hp (s1.trans (.same W1.au sm)) (hd.av fun a q=>?_)⟩
  exact .inr ⟨hf,W.DZ s1 q⟩
theorem Wd.T6{nb:Addr->Prop}{σ:St}{H H1:Hp}{c:Addr}{ds:List PyData}(W:Wd G nb ρ σ H)(s1:Step G.B H H1)(h:af (fun a=>H a≠none) H1 (.list ds) (.ref c)):
  Wd G (fun x=>nb x\/x=c) (ρ.set i (.own c true ds)) (σ.set i (some (.ref c))) H1:=by
 have h0:=h
 obtain⟨c',xs,e,n,hx,hd⟩:=h.cU
 cases e
 have hc:H c=none:=Classical.byContradiction fun z=>n z
 refine Sv.B4 W s1 hc hx ((ah.out h0 (by simp) hd).av fun x z=>?_)
 rcases z with z|z
 ·exact .inl (W.gu x z)
 ·exact .inr z
end
end L2
set_option maxRecDepth 100000
set_option maxHeartbeats 1000000
set_option maxRecDepth 100000
set_option maxHeartbeats 4000000
namespace L2
open PySem PySem.Spec PyProof.Rows
def gn(L:List Int)(ks:Ks):Prop:=∃ms:List Int,ms.Nodup/\(∀c,c∈ms↔c∈L)/\ks=ms.map fun c=>(c,PyData.int (L.count c))
theorem qF{g:Int->PyData}{c:Int}:∀{ms:List Int},eY (ms.map fun c=>(c,g c)) c=if c∈ms then some (g c) else none
  |[]=>rfl
  | m :: ms => by
    rw[List.map_cons,oq,qF]
    by_cases h:m=c
    · subst h;simp
    · have h':¬c=m:=fun z=>h z.symm
      simp[h,h']
theorem gn.nil:gn [] []:=⟨[],List.nodup_nil,fun _=>Iff.rfl,rfl⟩
theorem gn.get{L:List Int}{ks:Ks}(h:gn L ks)(c:Int):(eY ks c).getD (.int 0)= .int (L.count c):=by
 obtain⟨ms,nd,hm,rfl⟩:=h
 rw[qF]
 by_cases e:c∈ms
 ·rw[if_pos e];rfl
 ·rw[if_neg e]
  have:L.count c=0:=List.count_eq_zero.mpr fun z=>e ((hm c).mpr z)
  rw[this];rfl
theorem gn.put{L:List Int}{ks:Ks}(h:gn L ks)(c:Int):gn (L++[c]) (kL ks c (.int ((L.count c:Int)+1))):=by
 obtain⟨ms,nd,hm,rfl⟩:=h
 have hcc:∀x,(L++[c]).count x=L.count x+if c=x then 1 else 0:=fun x=>by
  rw[List.count_append,List.count_singleton]
  by_cases e:c=x
  ·subst e;simp
  ·simp[e]
 unfold kL
 have hk:kR (ms.map fun c=>(c,PyData.int (L.count c))) c=decide (c∈ms):=by
  rw[Bool.eq_iff_iff,JW,List.map_map,decide_eq_true_eq]
  have:(ms.map ((·.1)∘fun c=>(c,PyData.int (L.count c))))=ms:=List.map_id'' (fun _=>rfl) ms
  rw[this]
 rw[hk]
 by_cases e:c∈ms
 ·rw[if_pos (decide_eq_true e)]
  refine⟨ms,nd,fun x=>?_,?_⟩
  ·rw[List.mem_append,List.mem_singleton,hm x]
   exact⟨.inl,fun z=>z.elim id fun z=>by rw[z];exact(hm c).mp e⟩
  ·rw[List.map_map]
   apply List.map_congr_left
   intro x hx
   show(if x=c then(x,PyData.int ((L.count c:Int)+1)) else(x, .int (L.count x)))=_
   rw[hcc x]
   by_cases z:x=c
   ·subst z;simp
   ·rw[if_neg z,if_neg (fun w=>z w.symm)];rfl
 ·rw[if_neg (by simpa using e)]
  refine⟨ms++[c],?_,fun x=>?_,?_⟩
  ·rw[List.nodup_append]
   exact⟨nd,by simp,fun a ha b hb z=>by rw[List.mem_singleton.mp hb] at z;exact e (z▸ha)⟩
  ·rw[List.mem_append,List.mem_append,hm x]
  ·rw[List.map_append]
   congr 1
   ·apply List.map_congr_left
    intro x hx
    rw[hcc x,if_neg (fun w=>by subst w;exact e hx)];rfl
   ·show[(c,PyData.int ((L.count c:Int)+1))]=[(c,PyData.int (((L++[c]).count c:Nat):Int))]
    rw[hcc c,if_pos rfl];rfl
end L2
set_option maxRecDepth 100000
set_option maxHeartbeats 4000000
set_option maxRecDepth 100000
set_option maxHeartbeats 4000000
namespace L2
open PySem PySem.Spec PyProof.Rows
section
variable{G:Gx}{ρ:Rh}{ta tb te:TE}{t:TA}{E:DE}{i j m n:Nat}{f:Bool}{K K2 K3:PySem.W.Frag}{Φ:Pd}
theorem Ev.BY(h:eK G ρ te fun d=>Φ true d):Ev G ρ te Φ:=fun nb σ H Q W z=>h nb σ H Q W fun v H' d p st hd=>z true v H' d p st (hd.av fun a q=>W.gu a q)
end
@[reducible] def Va(S:List Int):Ks:=S.map fun x=>(x,PyData.bool true)
end L2
set_option maxRecDepth 100000
set_option maxHeartbeats 4000000
set_option maxRecDepth 100000
set_option maxHeartbeats 4000000
namespace L2
open PySem PySem.Spec PyProof.Rows
def DN(row:List Int):Int:=match row.getLast? with|none=>0|some l=>l+1
def Mq(n:Int)(row:List Int):List Int:=(List.range (n-DN row).toNat).map fun(i:Nat)=>DN row+(i:Int)
def ext(n:Int)(row:List Int):List (List Int):=(Mq n row).map fun p=>row++[p]
@[reducible] def Vb:Option (List Int)->PyData
 |none=> .none
 |some r=>bD r
end L2
set_option maxRecDepth 100000
set_option maxHeartbeats 4000000
namespace L2
open PySem PySem.Spec PyProof.Rows
section
variable{G:Gx}{ρ:Rh}{Φ:Pd}{t:TA}{te:TE}
theorem Sv.DK{i:Nat}{E:DE}(h:eK G ρ te fun d=>(∃ds,d= .list ds/\∀a,E.nx (ρ.set i (.own a true ds)))\/(gx d=true/\E.nx (ρ.set i (.d true d)))):Sv G ρ (fh te (e7 i)) E:=fun nb σ H D W K=>
 h nb σ H _ W fun v H1 d hd st hv=>by
  rcases hd with ⟨ds,rfl,q⟩|⟨hs,q⟩
  ·have h0:=hv
   obtain⟨c,xs,rfl,_⟩:=hv.cU
   exact K.nx _ _ _ _ (q c) (Wd.T6 (i:=i) W st h0)
  ·exact K.nx nb _ _ _ q ((W.step st).jN (i:=i) (f:=true) (hv.iK hs))
end
end L2
set_option maxRecDepth 100000
set_option maxHeartbeats 4000000
set_option maxRecDepth 100000
set_option maxHeartbeats 4000000
namespace L2
open PySem PySem.Spec PyProof.Rows
section
variable{X:Cx}{pins:List (Addr×Obj)}{σ:List (Option V)}{H H':Hp}{s:Shared}{h':Heap}
theorem Inv.JM{t':Nat}(I:Inv X pins σ H s)(k:∀b u,s.heap.get? b=some u->h'.get? b=some u)(sm:aO H H')(new:∀b u,H' b=some u->H b=some u\/(s.heap.objs.size<=b/\aV X.prog X.w H' h' b u)):Inv X pins σ H' {s with heap:=h',toks:=t'}:=by
  refine I.step (g':=s.gens) (d':=s.drawn) (ch:=[]) (fun b hb=>by cases hb) (fun b o _ _ _ q _=>k b o q) (fun b o _ _ _ q _=>⟨o.slots,k b o q⟩)
    (fun b o _ q n=>?_) (fun b o _ q=>⟨o,k b o q⟩) (fun b xs q=>sm b _ q) (fun b o u q=>sm b _ q) (fun b ps q=>⟨#[],by rw[sm b _ q];simp⟩) (fun m hm=>?_) (fun b u q=>?_) I.bare
  · cases e:H' b with
    |none=>rfl
    | some u =>
      rcases new b u e with z|⟨z,_⟩
      · rw[n] at z;cases z
      · exact absurd (Nat.lt_of_lt_of_le (Heap.lt_size q) z) (Nat.lt_irrefl _)
  · obtain⟨o,es,ep,ho,r⟩:=hm
    exact⟨o,es,ep,k _ o ho,r⟩
  · rcases new b u q with z|⟨_,z⟩
    · exact(I.hok b u z).stay (fun c v _ y=>k c v y) (fun c y=>sm c _ y) fun c xs y=>sm c _ y
    · exact z
end
end L2
set_option maxRecDepth 100000
set_option maxHeartbeats 4000000
namespace L2
open PySem PySem.Spec PyProof.Rows
def gI(r:List Int)(i:Nat):Int:=r.getD i 0
theorem Ev.inv{G:Gx}{ρ:Rh}{t:TA}{Φ:Pd}(h:Av G ρ t fun es=>∃p b:Int,es.map (·.2)=[.int p, .int b]/\eX p/\p<10^40/\b%p≠0/\∀u:Int,0<=u->u<p->(∃k,u*b=1+p*k)->Φ true (.int u)):
  Ev G ρ (fu xD [] E0 t) Φ:=fun nb σ H Q W z=>
 h nb σ H _ W fun es vs H1 ⟨p,b,e,h1,h2,h3,q⟩ s1 q1=>by
  have hd:=q1.all (f:=false) (fun z=>by cases z)
  rw[e] at hd
  unfold ah at hd
  obtain⟨x,ys,rfl,d1,hd⟩:=hd
  unfold ah at hd
  obtain⟨y,zs,rfl,d2,hd⟩:=hd
  unfold ah at hd
  subst hd
  rw[d1.bG,d2.bG]
  exact⟨p,b,rfl,h1,h2,h3,fun u u0 u1 u2=>z true _ H1 _ (q u u0 u1 u2) s1 (.int u)⟩
def co(prs:aA)(j:Nat):Int:=(prs.map fun pr=>if pr.1.toNat=j then pr.2 else 0).sum
def iB(p:Int)(m:Nat)(prs:aA):Prop:=(prs.map (·.1)).Nodup/\prs.length<=1000/\∀pr∈prs,0<=pr.1/\pr.1<m/\1<=pr.2/\pr.2<p
theorem eK.nK{G:Gx}{ρ:Rh}{te:TE}{f:Bool}{Ψ:PyData->Prop}{a:Addr}{ds:List PyData}(i:Nat)(e:ρ[i]?=some (.own a f ds))(h:eK G (ρ.set i (.d f (.list ds))) te Ψ):eK G ρ te Ψ:=fun nb σ H Q W z=>h _ σ H Q (Sv.share W e) z
end L2
set_option maxRecDepth 100000
set_option maxHeartbeats 4000000
namespace L2
open PySem PySem.Spec PyProof.Rows
def kT(a:Addr)(o:Obj)(ps:List (Key×V)):It:=
 ⟨fun i H=>H a=some (.bu o (.dK ps))/\i<ps.length,fun i H x H'=>H'=H/\∃p,ps[i]?=some p/\x=kV p.1,fun i H=>H a=some (.bu o (.dK ps))/\ps.length=i⟩
theorem Cq{P:Program}{w:World}{k:Key}{v:Value}(h:(cJ P w).is k v=true):RelV (kV k) v:=by
 cases k with
 |inl i=>obtain⟨t,rfl⟩:=Value.isInt_shape (k:=i) (v:=v) h;exact⟨t,rfl⟩
 |inr x=>obtain⟨t,rfl⟩:=Value.isStrOf_shape (v:=v) h;exact⟨t,rfl⟩
theorem LK{P:Program}{w:World}{K:PySem.W.Frag}{tg:Expr}(a it:Addr)(hne:a≠it){o:Obj}{ps:List (Key×V)}{vs:List (Key×Value)}{ep:Nat}(rel:KV ps vs)
  (hD:∀h:Heap,h.get? a=some o->h.DictAt (cJ P w) a vs ep):Turn P w K tg (kT a o ps) [it] it (fun i h=>h.IsKeyIter it a i vs.length ep) where
 mem:=by simp
 obj:=fun i h st b hb=>by
  have e:b=it:=by simpa using hb
  subst e
  obtain⟨o,e,c,d⟩:=st
  exact⟨o,e,fun v z=>by rw[d] at z;cases z⟩
 keep:=fun i h h' st k=>st.at fun o e=>k it (by simp) o e
 item:=by
  intro X hP hw hK hc i pins s σ H E I hf st hg
  subst hP hw hK
  obtain⟨hq,hi⟩:=hg
  obtain⟨ho,_⟩:=(show aV X.prog X.w H s.heap a (.bu o (.dK ps)) from I.hok a _ hq)
  have W:=Walks.dictKeys (knd:=cJ X.prog X.w) (A:=X.A) (I.ok.hd hc) it a hne vs ep
  obtain⟨f0,f1,f2,f3,f4,f5⟩:=hf it (by simp)
  refine W.item i s _ _ (by rw[<-rel.length];exact hi) ⟨st,hD _ ho⟩ fun v h' tk hv st' kp=>?_
  obtain⟨k,x,hk,hkv⟩:=hv
  have I1:Inv X pins σ H {s with heap:=h',toks:=tk}:=I.turned (t':=tk) (fun b o hb e=>kp b o (by simpa using hb) e) f0 f1 f3 f4 f5
  obtain⟨oi,e,c,d⟩:=id st'.1
  have hpk:∃p,ps[i]?=some p/\kV k=kV p.1:=by
   have h1:(ps.map (·.1))[i]?=(vs.map (·.1))[i]?:=by rw[rel.keys]
   rw[List.getElem?_map,List.getElem?_map,hk,List.getElem?_eq_getElem hi] at h1
   exact⟨_,List.getElem?_eq_getElem hi,congrArg kV (Option.some.inj h1).symm⟩
  exact⟨v,rfl,uJ (s:={s with heap:=h',toks:=tk}) e c d (by decide) ⟨kV k,H,I1,Cq hkv,⟨rfl,hpk⟩,st'.1,fun b hb=>(hf b hb).1⟩⟩
 done:=by
  intro X hP hw hK hc i pins s σ H E I hf st hg
  subst hP hw hK
  obtain⟨hq,hi⟩:=hg
  obtain⟨ho,_⟩:=(show aV X.prog X.w H s.heap a (.bu o (.dK ps)) from I.hok a _ hq)
  have W:=Walks.dictKeys (knd:=cJ X.prog X.w) (A:=X.A) (I.ok.hd hc) it a hne vs ep
  obtain⟨f0,f1,f2,f3,f4,f5⟩:=hf it (by simp)
  have hl:=rel.length
  refine W.done s _ _ ⟨by rw[<-hl,hi];rw[<-hl,hi] at st;exact st,hD _ ho⟩ fun h' tk kp=>⟨rfl,?_⟩
  exact I.turned (t':=tk) (fun b o hb e=>kp b o (by simpa using hb) e) f0 f1 f3 f4 f5
 self:=fun _ _ _ _ _ st h=>wpAny_pyIter_keyiter st h
def p7(X:Cx)(a:Addr):Prop:=∀o u,X.H₀ a≠some (.bu o u)
section
variable{X:Cx}{pins:List (Addr×Obj)}{σ:List (Option V)}{H:Hp}{s:Shared}
theorem Inv.freeze{a:Addr}{ps:List (Key×V)}{o:Obj}(I:Inv X pins σ H s)(h:H a=some (.dK ps))(ho:s.heap.get? a=some o):Inv X pins σ (upd H a (.bu o (.dK ps))) s:=by
 have ne:∀b u,H b=some u->(∀z,u≠ .dK z)->b≠a:=fun b u q z e=>by subst e;rw[h] at q;cases q;exact z _ rfl
 have nn:∀b,H b=none->b≠a:=fun b q e=>by subst e;rw[h] at q;cases q
 refine I.step (h':=s.heap) (g':=s.gens) (d':=s.drawn) (t':=s.toks) (ch:=[]) (fun _ z=>nomatch z) (fun b o _ _ _ e _=>e) (fun b o _ _ _ e _=>⟨o.slots,e⟩) (fun b o _ e n=>by rw[aq (nn b n)];exact n) (fun b o _ e=>⟨o,e⟩)
  (fun b xs q=>by rw[aq (ne b _ q (fun z=>nofun))];exact q) (fun b o u q=>by rw[aq (ne b _ q (fun z=>nofun))];exact q) (fun b p q=>⟨#[],by rw[aq (ne b _ q (fun z=>nofun)),q];simp⟩) (fun m hm=>hm) (fun b u q=>?_) I.bare
 by_cases hb:b=a
 ·subst hb
  rw[aL] at q;cases q
  refine⟨ho,(I.hok b _ h).stay (fun c v hc z=>z) (fun c z=>?_) fun c xs z=>?_⟩
  ·rw[aq (ne c _ z (fun z=>nofun))];exact z
  ·rw[aq (ne c _ z (fun z=>nofun))];exact z
 ·rw[aq hb] at q
  refine(I.hok b u q).stay (fun c v hc z=>z) (fun c z=>?_) fun c xs z=>?_
  ·rw[aq (ne c _ z (fun z=>nofun))];exact z
  ·rw[aq (ne c _ z (fun z=>nofun))];exact z
theorem Inv.jz{a:Addr}{ps:List (Key×V)}{o:Obj}(I:Inv X pins σ H s)(h:H a=some (.bu o (.dK ps)))(nf:p7 X a):Inv X pins σ (upd H a (.dK ps)) s:=by
 have ne:∀b u,H b=some u->(∀z z',u≠ .bu z z')->b≠a:=fun b u q z e=>by subst e;rw[h] at q;cases q;exact z _ _ rfl
 have nn:∀b,H b=none->b≠a:=fun b q e=>by subst e;rw[h] at q;cases q
 refine⟨I.ok,I.os,I.bare,⟨I.base.keep,I.base.slot,fun b o q n hx=>?_,I.base.there,fun b xs q=>?_,fun b o u q=>?_,fun b p q=>?_⟩,I.loc,I.cell,?_,fun x c e=>?_,fun p hp=>?_,fun b u q=>?_,I.len⟩
 ·have z:=I.base.free b o q n hx
  rw[aq (nn b z)];exact z
 ·have z:=I.base.tups b xs q
  rw[aq (ne b _ z (fun _ z=>nofun))];exact z
 ·have z:=I.base.g7 b o u q
  have:b≠a:=fun e=>by subst e;exact nf _ _ q
  rw[aq this];exact z
 ·obtain⟨m,z⟩:=I.base.i9 b p q
  exact⟨m,by rw[aq (ne b _ z (fun _ z=>nofun))];exact z⟩
 ·rw[aq (nn _ I.free)];exact I.free
 ·rw[aq (nn _ (I.gv x c e))];exact I.gv x c e
 ·obtain⟨z1,z2,z3⟩:=I.pin p hp
  exact⟨z1,by rw[aq (nn _ z2)];exact z2,z3⟩
 ·by_cases hb:b=a
  ·subst hb
   rw[aL] at q;cases q
   have w:=(show aV X.prog X.w H s.heap b (.dK ps) from(Rd.ok (.inr ⟨o,h⟩) I.hok))
   refine w.stay (fun c v hc z=>z) (fun c z=>?_) fun c xs z=>?_
   ·rw[aq (ne c _ z (fun _ z=>nofun))];exact z
   ·rw[aq (ne c _ z (fun _ z=>nofun))];exact z
  ·rw[aq hb] at q
   refine(I.hok b u q).stay (fun c v hc z=>z) (fun c z=>?_) fun c xs z=>?_
   ·rw[aq (ne c _ z (fun _ z=>nofun))];exact z
   ·rw[aq (ne c _ z (fun _ z=>nofun))];exact z
end
def iH(NF:Addr->Prop)(Q:Hp->Prop)(H:Hp):Prop:=Q H\/∃a o ps,H a=some (.bu o (.dK ps))/\NF a/\Q (upd H a (.dK ps))
def Qg(NF:Addr->Prop)(D:Ends):Ends:={nx:=fun σ=>iH NF (D.nx σ),rt:=fun v=>iH NF (D.rt v),bk:=fun σ=>iH NF (D.bk σ),ct:=fun σ=>iH NF (D.ct σ)}
def CG(NF:Addr->Prop)(ts:TS):TS:=fun D σ H=>ts (Qg NF D) σ H
section
variable{X:Cx}
theorem iH.inv{pins:List (Addr×Obj)}{σ:St}{H:Hp}{s:Shared}{Q:Hp->Prop}(I:Inv X pins σ H s)(h:iH (p7 X) Q H):∃H',Inv X pins σ H' s/\Q H':=by
 rcases h with h|⟨a,o,ps,e,nf,q⟩
 ·exact⟨H,I,h⟩
 ·exact⟨_,I.jz e nf,q⟩
theorem Ua{st:Stmt}{ts:TS}(h:PS X st ts):PS X st (CG (p7 X) ts):=by
 intro pins s σ H D I q
 refine aK (h pins s σ H _ I q) fun f s7 q7=>?_
 cases f with
 |next=>obtain⟨d7,H7,I7,n7⟩:=q7;obtain⟨H8,I8,q8⟩:=iH.inv I7 n7;exact⟨d7,H8,I8,q8⟩
 |cont=>obtain⟨d7,H7,I7,n7⟩:=q7;obtain⟨H8,I8,q8⟩:=iH.inv I7 n7;exact⟨d7,H8,I8,q8⟩
 |brk=>obtain⟨d7,H7,I7,n7⟩:=q7;obtain⟨H8,I8,q8⟩:=iH.inv I7 n7;exact⟨d7,H8,I8,q8⟩
 |ret v=>obtain⟨x7,d7,H7,I7,r7,n7⟩:=q7;obtain⟨H8,I8,q8⟩:=iH.inv I7 n7;exact⟨x7,d7,H8,I8,r7,q8⟩
def A8(NF:Addr->Prop)(tl:TE):TI:=fun σ H R=>tl σ H fun x H1=>∃a ps,x= .ref a/\((H1 a=some (.dK ps)/\∀o,NF a->R (kT a o ps) (upd H1 a (.bu o (.dK ps))))\/∃o,H1 a=some (.bu o (.dK ps))/\R (kT a o ps) H1)
theorem T7{tg l:Expr}{tl:TE}(hl:PE X l tl):PI X tg l (A8 (p7 X) tl):=by
 intro pins s σ H R I h
 refine aK (hl pins s σ H _ I h) fun v s1 ⟨x,H1,I1,r1,q1⟩=>?_
 obtain⟨a,ps,e,q⟩:=q1
 subst e
 cases r1
 have key:∃o H2,s1.heap.get? a=some o/\H2 a=some (.bu o (.dK ps))/\Inv X pins σ H2 s1/\R (kT a o ps) H2:=by
  rcases q with ⟨h1,q⟩|⟨o,h1,q⟩
  ·obtain⟨z,hd,vs,rel,o,es,ep,ho,r⟩:=yU I1.hok h1
   refine⟨o,_,ho,aL,I1.freeze h1 ho,q o fun o' u' z=>?_⟩
   rw[I1.base.g7 _ _ _ z] at h1;cases h1
  ·obtain⟨ho,_⟩:=(show aV X.prog X.w H1 s1.heap a (.bu o (.dK ps)) from I1.hok a _ h1)
   exact⟨o,H1,ho,h1,I1,q⟩
 obtain⟨o,H2,ho,h2,I2,q⟩:=key
 obtain⟨z,hd,vs,rel,dd⟩:=kE I2.hok (.inr ⟨o,h2⟩)
 obtain⟨ep,hat⟩:=dd.dictAt
 refine wpAny_pyIter_dict hd hat ?_
 refine⟨s1.heap.objs.size,[s1.heap.objs.size],_,_,H2,rfl,I2.kept (t':=s1.toks) fun b o e=>Heap.get?_push_of_some _ e,LK a _ (Nat.ne_of_lt (Heap.lt_size ho)) rel (fun h hh=>hat.at' fun o' e=>by rw[ho] at e;cases e;exact hh),⟨_,Heap.get?_push_size _ rfl,rfl,rfl⟩,fun b hb=>?_,q⟩
 have e:b=s1.heap.objs.size:=by simpa using hb
 subst e
 exact I2.nB (Nat.le_refl _) (I2.hok.fresh (Nat.le_refl _))
end
structure Mv(H H':Hp):Prop where
 lst:∀b xs,H b=some (.lst xs)->H' b=some (.lst xs)
 tup:∀b xs,H b=some (.tup xs)->H' b=some (.tup xs)
 aR:∀b ps,Rd H b (.dK ps)->Rd H' b (.dK ps)
mutual
theorem af.mv{S:Addr->Prop}{H H':Hp}(m:Mv H H'):∀{d:PyData} {v:V},af S H d v->af S H' d v
 | .none,_,h=>by unfold af at h⊢;exact h
 | .bool _,_,h=>by unfold af at h⊢;exact h
 | .int _,_,h=>by unfold af at h⊢;exact h
 | .str _,_,h=>by unfold af at h⊢;exact h
 | .list ds,_,h=>by unfold af at h⊢;obtain⟨a,xs,e,n,s,r⟩:=h;exact⟨a,xs,e,n,m.lst _ _ s,ah.mv m r⟩
 | .tuple ds,_,h=>by unfold af at h⊢;obtain⟨a,xs,e,n,s,r⟩:=h;exact⟨a,xs,e,n,m.tup _ _ s,ah.mv m r⟩
 | .dict kvs,_,h=>by unfold af at h⊢;obtain⟨a,xs,e,n,s,r⟩:=h;exact⟨a,xs,e,n,m.aR _ _ s,ak.mv m r⟩
theorem ah.mv{S:Addr->Prop}{H H':Hp}(m:Mv H H'):∀{ds:List PyData} {vs:List V},ah S H ds vs->ah S H' ds vs
 |[],_,h=>by unfold ah at h⊢;exact h
 |d::ds,_,h=>by unfold ah at h⊢;obtain⟨y,ys,e,h1,h2⟩:=h;exact⟨y,ys,e,af.mv m h1,ah.mv m h2⟩
theorem ak.mv{S:Addr->Prop}{H H':Hp}(m:Mv H H'):∀{ds:List (PyData×PyData)} {vs:List (Key×V)},ak S H ds vs->ak S H' ds vs
 |[],_,h=>by unfold ak at h⊢;exact h
 |d::ds,_,h=>by unfold ak at h⊢;obtain⟨y,ys,e,h1,h2⟩:=h;exact⟨y,ys,e,bf.mv m h1,ak.mv m h2⟩
theorem bf.mv{S:Addr->Prop}{H H':Hp}(m:Mv H H'):∀{d:PyData×PyData} {v:Key×V},bf S H d v->bf S H' d v
 |(k,d),_,h=>by unfold bf at h⊢;exact⟨h.1,af.mv m h.2⟩
end
theorem Mv.bu{H:Hp}{a:Addr}{o:Obj}{ps:List (Key×V)}(h:H a=some (.dK ps)):Mv H (upd H a (.bu o (.dK ps))) where
 lst:=fun b xs q=>by rw[aq (fun e=>by subst e;rw[h] at q;cases q)];exact q
 tup:=fun b xs q=>by rw[aq (fun e=>by subst e;rw[h] at q;cases q)];exact q
 aR:=fun b qs q=>by
  by_cases e:b=a
  ·subst e
   rcases q with q|⟨u,q⟩
   ·rw[h] at q;cases q;exact .inr ⟨o,aL⟩
   ·rw[h] at q;cases q
  ·rcases q with q|⟨u,q⟩
   ·exact .inl (by rw[aq e];exact q)
   ·exact .inr ⟨u,by rw[aq e];exact q⟩
theorem Mv.jz{H:Hp}{a:Addr}{o:Obj}{ps:List (Key×V)}(h:H a=some (.bu o (.dK ps))):Mv H (upd H a (.dK ps)) where
 lst:=fun b xs q=>by rw[aq (fun e=>by subst e;rw[h] at q;cases q)];exact q
 tup:=fun b xs q=>by rw[aq (fun e=>by subst e;rw[h] at q;cases q)];exact q
 aR:=fun b qs q=>by
  by_cases e:b=a
  ·subst e
   rcases q with q|⟨u,q⟩
   ·rw[h] at q;cases q
   ·rw[h] at q;cases q;exact .inl aL
  ·rcases q with q|⟨u,q⟩
   ·exact .inl (by rw[aq e];exact q)
   ·exact .inr ⟨u,by rw[aq e];exact q⟩
def gW(a:Addr)(u:HO)(H:Hp):Hp:=fun b=>if b=a/\H a≠none then some u else H b
theorem lH{a b:Addr}{u:HO}{H:Hp}:gW a u H b=none↔H b=none:=by
 unfold gW
 by_cases c:b=a/\H a≠none
 ·rw[if_pos c]
  constructor
  ·intro z;cases z
  ·intro z;rw[c.1] at z;exact absurd z c.2
 ·rw[if_neg c]
theorem ql{a b:Addr}{u:HO}{H:Hp}(h:b≠a):gW a u H b=H b:=by
 unfold gW;rw[if_neg (fun z=>h z.1)]
abbrev Gx.fz(G:Gx)(a:Addr)(o:Obj)(ps:List (Key×V)):Gx:={G with H0:=gW a (.bu o (.dK ps)) G.H0,hold:=(false, .fz o ps, .ref a)::G.hold}
section
variable{G:Gx}{ρ ck:Rh}{Φ Ψ:Pd}{ta tb te:TE}{t:TA}{i:Nat}{f g:Bool}{d e:PyData}{ds es:List PyData}{K:PySem.W.Frag}{nb:Addr->Prop}{σ:St}{H:Hp}{a:Addr}{o:Obj}{ps:List (Key×V)}
theorem Gx.qc{b:Addr}:(G.fz a o ps).S nb f b↔G.S nb f b:=by
 unfold Gx.S
 constructor
 ·rintro(z|z|z|⟨z,q⟩)
  ·exact .inl z
  ·exact .inr (.inl z)
  ·exact .inr (.inr (.inl z))
  ·exact .inr (.inr (.inr ⟨z,fun w=>q (lH.mpr w)⟩))
 ·rintro(z|z|z|⟨z,q⟩)
  ·exact .inl z
  ·exact .inr (.inl z)
  ·exact .inr (.inr (.inl z))
  ·exact .inr (.inr (.inr ⟨z,fun w=>q (lH.mp w)⟩))
theorem bR.mv{H H':Hp}{b l:Addr}(h:bR H b l)(k:∀c xs,H c=some (.lst xs)->H' c=some (.lst xs)):bR H' b l:=by
 obtain⟨ns,x1,x2,x3,x4,h1,h2,h3⟩:=h
 exact⟨ns,x1,x2,x3,x4,k _ _ h1,k _ _ h2,h3⟩
theorem Wd.freeze(W:Wd G nb ρ σ H)(h:H a=some (.dK ps))(hS:¬G.S nb false a):Wd (G.fz a o ps) nb ρ σ (upd H a (.bu o (.dK ps))):=by
  have mv:=Mv.bu (o:=o) h
  have hN:NB G.B a:=Classical.byContradiction fun z=>hS (.inr (.inr (.inl z)))
  have hnb:¬nb a:=fun z=>hS (.inl z)
  have hG:∀u,G.H0 a=some u->u= .dK ps:=fun u e=>by have:=W.old a u hN e;rw[h] at this;exact(Option.some.inj this).symm
  have toS:∀f b,(G.fz a o ps).S nb f b->G.S nb f b:=fun f b z=>Gx.qc.mp z
  refine⟨fun b l e=>(W.au b l e).mv mv.lst,fun b n=>?_,fun b u n e=>?_,fun b n q=>lH.mpr (W.bB b n q),fun b n e=>W.gA b n (lH.mp e),W.len,fun b l e=>(W.gB b l e).mv fun c xs q=>?_,fun x m=>?_,fun i s e=>?_,W.apart,W.cP,W.bF⟩
  · by_cases hb:b=a
    · subst hb;exact absurd n hnb
    · rw[aq hb];exact W.live b n
  · by_cases hb:b=a
    · subst hb
      rw[aL]
      change gW b _ G.H0 b=some u at e
      unfold gW at e
      by_cases c:b=b/\G.H0 b≠none
      · rw[if_pos c] at e;exact e
      · rw[if_neg c] at e;exact absurd ⟨rfl,by rw[e];exact Option.some_ne_none _⟩ c
    · rw[aq hb]
      change gW a _ G.H0 b=some u at e
      rw[ql hb] at e
      exact W.old b u n e
  · have hc:c≠a:=fun z=>by subst z;have:=hG _ q;cases this
    show gW a _ G.H0 c=_
    rw[ql hc];exact q
  · rcases List.mem_cons.mp m with e|m
    · subst e
      exact⟨a,rfl,fun z=>hS (toS _ _ z),aL⟩
    · have w:=W.cM x m
      obtain⟨f,x,v⟩:=x
      cases x with
      |d x=>exact(af.mv mv w).av (toS f)
      | fz u qs =>
        obtain⟨c,e1,e2,e3⟩:=w
        by_cases hc:c=a
        · subst hc
          rw[h] at e3;cases e3
        · exact⟨c,e1,fun z=>e2 (toS _ _ z),by rw[aq hc];exact e3⟩
  · obtain⟨x,e1,w⟩:=W.ok i s e
    refine⟨x,e1,?_⟩
    cases s with
    |no=>trivial
    |d f d=>obtain⟨v,e,w⟩:=w;exact⟨v,e,(af.mv mv w).av (toS f)⟩
    |own c f es=>obtain⟨e,n,q,xs,hx,hd⟩:=w;exact⟨e,n,q,xs,mv.lst _ _ hx,(ah.mv mv hd).av (toS f)⟩
    |au=>exact w
    |raw v=>exact w
    | aR c f es =>
      obtain⟨e,n,q,xs,hx,hd⟩:=w
      exact⟨e,n,q,xs,by rw[aq (fun z=>by subst z;exact hnb n)];exact hx,(ak.mv mv hd).av (toS f)⟩
    | cu c =>
      obtain⟨e,n,q⟩:=w
      exact⟨e,n,c.av (toS c.f) (c.keep ⟨fun b hb o e=>by rw[aq (fun z=>by subst z;exact hnb (n _ hb).1)];exact e,fun b xs _=>mv.lst b xs,fun b xs _=>mv.tup b xs,fun b qs _=>mv.aR b qs⟩ q)⟩
theorem Wd.jz(W:Wd (G.fz a o ps) nb ρ σ H)(hG:∀u,G.H0 a=some u->u= .dK ps)(hF:∀f o' qs v,(f,HD.fz o' qs,v)∈G.hold->v≠ .ref a):Wd G nb ρ σ (upd H a (.dK ps))/\H a=some (.bu o (.dK ps)):=by
  obtain⟨a',ea,hS',h⟩:=(show cZ ((G.fz a o ps).S nb false) H (.fz o ps) (.ref a) from W.cM _ (List.mem_cons_self ..))
  cases ea
  have mv:=Mv.jz h
  have toS:∀f b,G.S nb f b->(G.fz a o ps).S nb f b:=fun f b z=>Gx.qc.mpr z
  have hS:¬G.S nb false a:=fun z=>hS' (toS _ _ z)
  have hN:NB G.B a:=Classical.byContradiction fun z=>hS (.inr (.inr (.inl z)))
  have hnb:¬nb a:=fun z=>hS (.inl z)
  refine⟨⟨fun b l e=>(W.au b l e).mv mv.lst,fun b n=>?_,fun b u n e=>?_,fun b n q=>lH.mp (W.bB b n q),fun b n e=>W.gA b n (lH.mpr e),W.len,fun b l e=>(W.gB b l e).mv fun c xs q=>?_,fun x m=>?_,fun i s e=>?_,W.apart,W.cP,W.bF⟩,h⟩
  · by_cases hb:b=a
    · subst hb;exact absurd n hnb
    · rw[aq hb];exact W.live b n
  · by_cases hb:b=a
    · subst hb
      rw[aL,hG u e]
    · rw[aq hb]
      exact W.old b u n (by show gW a _ G.H0 b=_;rw[ql hb];exact e)
  · change gW a _ G.H0 c=_ at q
    by_cases hc:c=a
    · subst hc
      unfold gW at q
      by_cases z:c=c/\G.H0 c≠none
      · rw[if_pos z] at q;cases q
      · rw[if_neg z] at q;exact q
    · rw[ql hc] at q;exact q
  · have w:=W.cM x (List.mem_cons_of_mem _ m)
    obtain⟨f,x,v⟩:=x
    cases x with
    |d x=>exact(af.mv mv w).av (toS f)
    | fz u qs =>
      obtain⟨c,e1,e2,e3⟩:=w
      subst e1
      have hc:c≠a:=fun z=>hF f u qs _ m (by rw[z])
      exact⟨c,rfl,fun z=>e2 (toS _ _ z),by rw[aq hc];exact e3⟩
  · obtain⟨x,e1,w⟩:=W.ok i s e
    refine⟨x,e1,?_⟩
    cases s with
    |no=>trivial
    |d f d=>obtain⟨v,e,w⟩:=w;exact⟨v,e,(af.mv mv w).av (toS f)⟩
    |own c f es=>obtain⟨e,n,q,xs,hx,hd⟩:=w;exact⟨e,n,q,xs,mv.lst _ _ hx,(ah.mv mv hd).av (toS f)⟩
    |au=>exact w
    |raw v=>exact w
    | aR c f es =>
      obtain⟨e,n,q,xs,hx,hd⟩:=w
      exact⟨e,n,q,xs,by rw[aq (fun z=>by subst z;exact hnb n)];exact hx,(ak.mv mv hd).av (toS f)⟩
    | cu c =>
      obtain⟨e,n,q⟩:=w
      exact⟨e,n,c.av (toS c.f) (c.keep ⟨fun b hb o e=>by rw[aq (fun z=>by subst z;exact hnb (n _ hb).1)];exact e,fun b xs _=>mv.lst b xs,fun b xs _=>mv.tup b xs,fun b qs _=>mv.aR b qs⟩ q)⟩
abbrev Gx.hz(G:Gx)(a:Addr)(o:Obj)(ps:List (Key×V)):Gx:={G with hold:=(false, .fz o ps, .ref a)::G.hold}
theorem Wd.hz(W:Wd G nb ρ σ H)(hS:¬G.S nb false a)(h:H a=some (.bu o (.dK ps))):Wd (G.hz a o ps) nb ρ σ H:=
 ⟨W.au,W.live,W.old,W.bB,W.gA,W.len,W.gB,fun x m=>by
  rcases List.mem_cons.mp m with e|m
  ·subst e;exact⟨a,rfl,hS,h⟩
  ·exact W.cM x m,fun i s e=>by
   obtain⟨x,e1,h⟩:=W.ok i s e
   refine⟨x,e1,?_⟩
   cases s<;>exact h,W.apart,W.cP,W.bF⟩
theorem Wd.sy(W:Wd (G.hz a o ps) nb ρ σ H):Wd G nb ρ σ H/\H a=some (.bu o (.dK ps)):=by
 refine⟨⟨W.au,W.live,W.old,W.bB,W.gA,W.len,W.gB,fun x m=>W.cM x (List.mem_cons_of_mem _ m),fun i s e=>by
   obtain⟨x,e1,h⟩:=W.ok i s e
   refine⟨x,e1,?_⟩
   cases s<;>exact h,W.apart,W.cP,W.bF⟩,?_⟩
 obtain⟨a',ea,_,h⟩:=(show cZ ((G.hz a o ps).S nb false) H (.fz o ps) (.ref a) from W.cM _ (List.mem_cons_self ..))
 cases ea
 exact h
theorem DO{G':Gx}{ks:Ks}{D:Ends}{E:DE}{gt:TG}{s:TS}{dd:PyData}(W3:Wd (G'.hd f dd (.ref a)) nb ρ σ H)(hl:ps.map (·.1)=(ks.map (·.1)).map Sum.inl)
  (hz:∀{nb ρ σ H},Wd G' nb ρ σ H->H a=some (.bu o (.dK ps))) (KK:qp G' {E with bk:=fun _=>False,ct:=fun _=>False} D)
  (q:Sv.lP (G'.hd f dd (.ref a)) ρ ks.length (fun i d=>∃p,ks[i]?=some p/\d= .int p.1) true gt s E):
  ∃W:Nat->Nat->St->Hp->Prop,(∃m,W 0 m σ H)/\∀i m σ H,W i m σ H->
   ((kT a o ps).stop i H/\D.nx σ H)\/((kT a o ps).go i H/\∃N:St->Hp->Prop,(∀σ' H',N σ' H'->∃m',m'<m/\W (i+1) m' σ' H')/\∀x H',(kT a o ps).jC i H x H'->gt x σ H' fun σ2 H2=>s {D with nx:=N,ct:=N,bk:=D.nx} σ2 H2):=by
 obtain⟨I,h0,ht,he⟩:=q
 have hlen:ps.length=ks.length:=by have:=congrArg List.length hl;simpa using this
 refine⟨fun i m σ H=>m=ks.length-i/\i<=ks.length/\∃nb ρ',I i ρ'/\Wd (G'.hd f dd (.ref a)) nb ρ' σ H,⟨ks.length,by simp,Nat.zero_le _,nb,ρ,h0,W3⟩,?_⟩
 rintro i m σ H ⟨rfl,hi,nb,ρ',hI,W⟩
 have Bo:=hz W.fF.1
 by_cases hlt:i<ks.length
 ·refine .inr ⟨⟨Bo,by omega⟩,fun σ H=>∃nb ρ',I (i+1) ρ'/\Wd (G'.hd f dd (.ref a)) nb ρ' σ H,fun σ' H' q=>⟨ks.length-(i+1),by omega,rfl,hlt,q⟩,fun x H' y=>?_⟩
  obtain⟨e1,p,OA,e2⟩:=y
  subst e1 e2
  have hk:p.1=Sum.inl ks[i].1:=by
   have h1:(ps.map (·.1))[i]?=((ks.map (·.1)).map Sum.inl)[i]?:=by rw[hl]
   rw[List.getElem?_map,List.getElem?_map,List.getElem?_map,OA,List.getElem?_eq_getElem hlt] at h1
   exact Option.some.inj h1
  rw[hk]
  refine ht i _ ρ' ⟨_,List.getElem?_eq_getElem hlt,rfl⟩ hI nb σ _ _ _ W (.int _) fun σ2 dZ q W2=>q nb σ2 _ _ W2 ?_
  exact⟨fun nb ρ σ H q W=>⟨nb,ρ,q,W⟩,fun nb ρ σ H q W=>KK.nx nb ρ σ H q W.fF.1,fun nb ρ σ H q W=>⟨nb,ρ,q,W⟩,fun nb ρ σ f v H d q W hv=>KK.rt nb ρ σ f v H d q W.fF.1 hv,fun nb ρ σ v H q W=>KK.rw nb ρ σ v H q W.fF.1⟩
 ·have e:i=ks.length:=by omega
  subst e
  exact .inl ⟨⟨Bo,hlen⟩,KK.nx nb ρ' σ H (he ρ' hI) W.fF.1⟩
theorem Sv.SW{NF:Addr->Prop}{E:DE}{gt:TG}{s:TS}(h:Ev G ρ te fun f x=>∃ks:Ks,x= .dict (ks.map bS)/\∀G' v,lP (Gx.hd G' f x v) ρ ks.length (fun i d=>∃p,ks[i]?=some p/\d= .int p.1) true gt s {E with rw:=fun _ _ _ _=>False}):
  Sv G ρ (CG NF (mR (A8 NF te) gt s)) E:=fun nb σ H D W KK=>
 h nb σ H _ W fun f v H1 x ⟨ks,ex,q⟩ s1 hv=>by
  subst ex
  have W1:=W.step s1
  have hv0:=hv
  unfold af at hv
  obtain⟨a,ps,rfl,n,hp,hd⟩:=hv
  have hkeys:=ak.keys hd
  have hS:¬G.S nb false a:=fun z=>n (aS (fun w=>by cases w) (fun _ w=>w) a z)
  have hN:NB G.B a:=Classical.byContradiction fun z=>hS (.inr (.inr (.inl z)))
  refine⟨a,ps,rfl,?_⟩
  rcases hp with hp|⟨o,hp⟩
  ·refine .inl ⟨hp,fun o nf=>?_⟩
   have hG:∀u,G.H0 a=some u->u= .dK ps:=fun u e=>by have:=W1.old a u hN e;rw[hp] at this;exact(Option.some.inj this).symm
   have hF:∀f o' qs v,(f,HD.fz o' qs,v)∈G.hold->v≠ .ref a:=fun f o' qs v m e=>by
    obtain⟨c,e1,_,e3⟩:=(show cZ (G.S nb f) H1 (.fz o' qs) v from W1.cM _ m)
    rw[e1] at e;cases e
    rw[hp] at e3;cases e3
   have W2:=W1.freeze (o:=o) hp hS
   have mv:=Mv.bu (o:=o) hp
   have W3:=W2.hd (f:=f) (d:= .dict (ks.map bS)) (v:= .ref a) ((af.mv mv hv0).av fun b z=>Gx.qc.mp z)
   refine DO (E:={E with rw:=fun _ _ _ _=>False}) W3 hkeys (fun W=>(W.jz hG hF).2) ⟨fun nb ρ σ H q W=>?_,fun _ _ _ _ q _=>q.elim,fun _ _ _ _ q _=>q.elim,fun nb ρ σ f v H d q W hv=>?_,fun _ _ _ _ _ q _=>q.elim⟩ (q _ _)
   ·obtain⟨W',hz⟩:=W.jz hG hF
    exact .inr ⟨a,o,ps,hz,nf,KK.nx nb ρ σ _ q W'⟩
   ·obtain⟨W',hz⟩:=W.jz hG hF
    exact .inr ⟨a,o,ps,hz,nf,KK.rt nb ρ σ f v _ d q W' ((af.mv (Mv.jz hz) hv).av fun b z=>Gx.qc.mpr z)⟩
  ·refine .inr ⟨o,hp,?_⟩
   have W2:=W1.hz hS hp
   have W3:=W2.hd (f:=f) (d:= .dict (ks.map bS)) (v:= .ref a) hv0
   refine DO (E:={E with rw:=fun _ _ _ _=>False}) W3 hkeys (fun W=>W.sy.2) ⟨fun nb ρ σ H q W=> .inl (KK.nx nb ρ σ H q W.sy.1),fun _ _ _ _ q _=>q.elim,fun _ _ _ _ q _=>q.elim,fun nb ρ σ f v H d q W hv=> .inl (KK.rt nb ρ σ f v H d q W.sy.1 hv),fun _ _ _ _ _ q _=>q.elim⟩ (q _ _)
end
end L2
set_option maxRecDepth 100000
set_option maxHeartbeats 4000000
set_option maxRecDepth 100000
set_option maxHeartbeats 4000000
set_option maxRecDepth 100000
set_option maxHeartbeats 4000000
namespace L2
open PySem PySem.Spec PyProof.Rows
theorem g8{P:(Addr->Prop)->Prop}{H:Hp}(hP:∀{S S':Addr->Prop},(∀a,S' a->S a)->P S->P S')(hf:∀{S:Addr->Prop} {p:Addr},H p=none->P S->P fun a=>S a\/a=p):∀{L:List Addr} {S:Addr->Prop},(∀a∈L,H a=none)->P S->P fun a=>S a\/a∈L
 |[],S,_,h=>hP (fun a z=>z.elim (fun z=>z) fun z=>by cases z) h
 | p :: L, S, hL, h => hP (fun a z => by
   rcases z with z|z
   ·exact .inl (.inl z)
   ·rcases List.mem_cons.mp z with z|z
    ·exact .inr z
    ·exact .inl (.inr z)) (hf (hL p (List.mem_cons_self ..)) (g8 hP hf (L:=L) (fun a m=>hL a (List.mem_cons_of_mem _ m)) h))
section
variable{G:Gx}{ρ:Rh}{nb:Addr->Prop}{σ:St}{H H1:Hp}{i:Nat}{L:List Addr}{c c':Cu}{f:Bool}{d:PyData}{p:Addr}{o:HO}{E:DE}
theorem Wd.Io(W:Wd G nb ρ σ H)(s1:Step G.B H H1)(ha:∀a∈L,H a=none)(e:∀a∈L,H1 a≠none):Wd G (fun x=>nb x\/x∈L) ρ σ H1/\(∀a∈L,NB G.B a)/\∀f x,G.S (fun x=>nb x\/x∈L) f x->(G.S nb f x\/x∈L):=by
  have hN:∀a∈L,NB G.B a:=fun a m=>NB.new W.au (ha a m)
  have hA:∀f x,G.S (fun x=>nb x\/x∈L) f x->(G.S nb f x\/x∈L):=fun f x z=>by
    rcases z with (z|z)|z|z|z
    · exact .inl (.inl z)
    · exact .inr z
    · exact .inl (.inr (.inl z))
    · exact .inl (.inr (.inr (.inl z)))
    · exact .inl (.inr (.inr (.inr z)))
  have W1:=W.step s1
  have fD:∀{S:Addr->Prop} {d:PyData} {v:V},af S H d v->af (fun a=>S a\/a∈L) H d v:=fun{S d v} h=>g8 (P:=fun S=>af S H d v) (fun z h=>af.av z h) (fun hp h=>af.fresh hp h) ha h
  have xP:∀{S:Addr->Prop} {d:List PyData} {v:List V},ah S H d v->ah (fun a=>S a\/a∈L) H d v:=fun{S d v} h=>g8 (P:=fun S=>ah S H d v) (fun z h=>ah.av z h) (fun hp h=>ah.fresh hp h) ha h
  have sQ:∀{S:Addr->Prop} {d:List (PyData×PyData)} {v:List (Key×V)},ak S H d v->ak (fun a=>S a\/a∈L) H d v:=fun{S d v} h=>g8 (P:=fun S=>ak S H d v) (fun z h=>ak.av z h) (fun hp h=>ak.fresh hp h) ha h
  have fH:∀{S:Addr->Prop} {d:HD} {v:V},cZ S H d v->cZ (fun a=>S a\/a∈L) H d v:=fun{S d v} h=>g8 (P:=fun S=>cZ S H d v) (fun z h=>cZ.av h z) (fun hp h=>cZ.fresh h hp) ha h
  refine⟨?_,hN,hA⟩
  refine⟨W1.au,fun x n=>?_,W1.old,fun x n q=>?_,W.gA,W.len,W.gB,fun h m=>((fH (W.cM h m)).keep (s1.but fun x z=> .inl (.inr (.inr (.inl z))))).av (hA h.1),fun j s e'=>?_,W.apart,W.cP,W.bF⟩
  · rcases n with n|n
    · exact W1.live x n
    · exact e x n
  · rcases n with n|n
    · exact W.bB x n q
    · cases z:G.H0 x with
      |none=>rfl
      |some o=>have:=ha x n;rw[W.old x o q z] at this;cases this
  · obtain⟨x,e1,h⟩:=W.ok j s e'
    refine⟨x,e1,?_⟩
    cases s with
    |no=>trivial
    |d f d=>obtain⟨v,e,h⟩:=h;exact⟨v,e,((fD h).keep (s1.but fun x z=> .inl (.inr (.inr (.inl z))))).av (hA f)⟩
    |own c f es=>obtain⟨e,n,q,xs,hx,hd⟩:=h;exact⟨e, .inl n,q,xs,s1.1 _ _ q hx,((xP hd).keep (s1.but fun x z=> .inl (.inr (.inr (.inl z))))).av (hA f)⟩
    |au=>exact h
    |raw v=>exact h
    |aR c f es=>obtain⟨e,n,q,xs,hx,hd⟩:=h;exact⟨e, .inl n,q,xs,s1.1 _ _ q hx,((sQ hd).keep (s1.but fun x z=> .inl (.inr (.inr (.inl z))))).av (hA f)⟩
    | cu c =>
      obtain⟨e,n,q⟩:=h
      refine⟨e,fun a ha=>⟨.inl (n a ha).1,(n a ha).2⟩,c.av (hA c.f) (c.keep (.of fun x o hx e=>s1.1 x o ?_ e) (g8 (P:=fun S=>c.P S H) (fun z h=>c.av z h) (fun hp h=>c.fresh hp h) ha q))⟩
      rcases hx with hx|hx
      · exact Classical.byContradiction fun z=>hx (.inl (.inr (.inr (.inl z))))
      · exact(n x hx).2
theorem ly.yR{x:Option V}{s:Sl}(h:ly G nb H x s):∀a∈s.adr,nb a/\NB G.B a:=by
 cases s with
 |own a f ds=>intro x hx;rw[List.mem_singleton.mp hx];exact⟨h.2.1,h.2.2.1⟩
 |aR a f ds=>intro x hx;rw[List.mem_singleton.mp hx];exact⟨h.2.1,h.2.2.1⟩
 |cu c=>exact h.2.1
 |no=>intro _ z;cases z
 |d _ _=>intro _ z;cases z
 |au=>intro _ z;cases z
 |raw _=>intro _ z;cases z
theorem Wd.zw(W:Wd G nb ρ σ H)(s1:Step G.B H H1)(ha:∀a∈c.F,H a=none)(e:∀a∈c.F,H1 a≠none)(hP:c.P (fun x=>G.S nb c.f x\/x∈c.F) H1):Wd G (fun x=>nb x\/x∈c.F) (ρ.set i (.cu c)) (σ.set i (some c.v)) H1:=by
 obtain⟨W2,hN,hA⟩:=W.Io s1 ha e
 refine W2.set ⟨rfl,fun a m=>⟨.inr m,hN a m⟩,c.av (hA c.f) hP⟩ (fun _ _ _ z=>by cases z) (fun _ _ _ z=>by cases z) (fun x hx j t hj ht hc z=>?_)
 obtain⟨y,e1,h⟩:=W.ok j _ ht
 exact W.live x (h.yR x z).1 (ha x hx)
theorem Wd.C7(W:Wd G nb ρ σ H)(e:ρ[i]?=some (.cu c))(hp:p∈c.F)(hv:c'.v=c.v)(hF:∀a∈c'.F,a∈c.F)(h:c'.P (G.S nb c'.f) (upd H p o)):Wd G nb (ρ.set i (.cu c')) σ (upd H p o):=by
 obtain⟨x,e1,h1,h2,h3⟩:=W.ok i _ e
 subst h1
 have hil:i<ρ.length:=(List.getElem?_eq_some_iff.mp e).1
 have W0:Wd G nb (ρ.set i .no) (σ.set i (some c.v)) H:=W.set trivial fun _ _ _ z=>by cases z
 have other:∀(j:Nat) s,(ρ.set i .no)[j]?=some s->s≠ .no->p∉s.adr:=fun j s hs hn=>by
  have hij:i≠j:=fun z=>by subst z;rw[List.getElem?_set_self hil] at hs;cases hs;exact hn rfl
  rw[List.getElem?_set_ne hij] at hs
  exact W.bF i j c s hij e hs p hp
 have W1:Wd G nb (ρ.set i .no) (σ.set i (some c.v)) (upd H p o):=W0.write (h2 p hp).1 (h2 p hp).2 (fun j a f ds hs z=>other j _ hs (by intro z;cases z) (List.mem_singleton.mpr z.symm)) (fun j a f ds hs z=>other j _ hs (by intro z;cases z) (List.mem_singleton.mpr z.symm)) (fun j c hs=>other j _ hs (by intro z;cases z))
 have W2:=W1.set (i:=i) (s:= .cu c') (x:=some c.v) ⟨by rw[hv],fun a m=>h2 a (hF a m),h⟩ (fun _ _ _ z=>by cases z) (fun _ _ _ z=>by cases z) (fun x hx j t hj ht hc=>by
  rw[List.getElem?_set_ne (Ne.symm hj)] at ht
  exact W.bF i j c t (Ne.symm hj) e ht x (hF x hx))
 rw[List.set_set,List.set_set] at W2
 have:σ.set i (some c.v)=σ:=by
  apply List.ext_getElem?
  intro j
  by_cases hij:i=j
  ·subst hij;rw[List.getElem?_set_self (by rw[W.len];exact hil),e1]
  ·rw[List.getElem?_set_ne hij]
 rwa[this] at W2
theorem Wd.C4(W:Wd G nb ρ σ H)(e:ρ[i]?=some (.cu c))(h:c.P (G.S nb c.f) H->(∀a∈c.F,G.H0 a=none/\¬G.A a/\NB G.B a)->af (G.S (fun x=>nb x/\x∉c.F) f) H d c.v):Wd G (fun x=>nb x/\x∉c.F) (ρ.set i (.d f d)) σ H:=by
 obtain⟨x,e1,h1,h2,h3⟩:=W.ok i _ e
 subst h1
 have hil:i<ρ.length:=(List.getElem?_eq_some_iff.mp e).1
 have W0:Wd G nb (ρ.set i .no) (σ.set i (some c.v)) H:=W.set trivial fun _ _ _ z=>by cases z
 have W1:Wd G (fun x=>nb x/\x∉c.F) (ρ.set i .no) (σ.set i (some c.v)) H:=by
  refine⟨W0.au,fun x n=>W0.live x n.1,W0.old,fun x n=>W0.bB x n.1,W0.gA,W0.len,W0.gB,fun h m=>(W0.cM h m).av (aS (fun z=>z) fun _ z=>z.1),fun j s e'=>?_,W0.apart,W0.cP,W0.bF⟩
  obtain⟨x,gh,hh⟩:=W0.ok j s e'
  refine⟨x,gh,?_⟩
  have hij:s≠ .no->i≠j:=fun n z=>by subst z;rw[List.getElem?_set_self hil] at e';cases e';exact n rfl
  have ap:s≠ .no->∀a∈s.adr,a∉c.F:=fun n a m z=>by
   have hij:=hij n
   rw[List.getElem?_set_ne hij] at e'
   exact W.bF i j c s hij e e' a z m
  cases s with
  |no=>trivial
  |d f d=>obtain⟨v,e,hh⟩:=hh;exact⟨v,e,hh.av (aS (fun z=>z) fun _ z=>z.1)⟩
  |own a f es=>obtain⟨e2,n,q,xs,hx,hd⟩:=hh;exact⟨e2,⟨n,ap (by intro z;cases z) a (List.mem_singleton.mpr rfl)⟩,q,xs,hx,hd.av (aS (fun z=>z) fun _ z=>z.1)⟩
  |au=>exact hh
  |raw v=>exact hh
  |aR a f es=>obtain⟨e2,n,q,xs,hx,hd⟩:=hh;exact⟨e2,⟨n,ap (by intro z;cases z) a (List.mem_singleton.mpr rfl)⟩,q,xs,hx,hd.av (aS (fun z=>z) fun _ z=>z.1)⟩
  |cu c2=>obtain⟨e2,n,q⟩:=hh;exact⟨e2,fun a m=>⟨⟨(n a m).1,ap (by intro z;cases z) a m⟩,(n a m).2⟩,c2.av (aS (fun z=>z) fun _ z=>z.1) q⟩
 have W2:=W1.jN (i:=i) (f:=f) (d:=d) (v:=c.v) (h h3 fun a m=>⟨W.bB a (h2 a m).1 (h2 a m).2,fun z=>W.gA a z (W.bB a (h2 a m).1 (h2 a m).2),(h2 a m).2⟩)
 rw[List.set_set,List.set_set] at W2
 have:σ.set i (some c.v)=σ:=by
  apply List.ext_getElem?
  intro j
  by_cases hij:i=j
  ·subst hij;rw[List.getElem?_set_self (by rw[W.len];exact hil),e1]
  ·rw[List.getElem?_set_ne hij]
 rwa[this] at W2
end
end L2
set_option maxRecDepth 100000
set_option maxHeartbeats 4000000
namespace L2
open PySem PySem.Spec PyProof.Rows
abbrev dI:=Int×Addr×List PyData
structure Am(a:Addr)(rows:List dI)(S:Addr->Prop)(H:Hp):Prop where
 hd:H a=some (.dK (rows.map fun r=>(Sum.inl r.1,V.ref r.2.1)))
 nd:(a::rows.map (·.2.1)).Nodup
 kd:(rows.map (·.1)).Nodup
 row:∀r∈rows,∃xs,H r.2.1=some (.lst xs)/\ah S H r.2.2 xs
def fL(a:Addr)(f:Bool)(rows:List dI):Cu where
 v:= .ref a
 F:=a::rows.map (·.2.1)
 f:=f
 P:=Am a rows
 keep:=fun k p=>⟨k.own _ (List.mem_cons_self ..) _ p.hd,p.nd,p.kd,fun r hr=>by
  obtain⟨xs,h1,h2⟩:=p.row r hr
  exact⟨xs,k.own _ (List.mem_cons_of_mem _ (List.mem_map_of_mem hr)) _ h1,ah.kp k h2⟩⟩
 av:=fun z p=>⟨p.hd,p.nd,p.kd,fun r hr=>by
  obtain⟨xs,h1,h2⟩:=p.row r hr
  exact⟨xs,h1,h2.av z⟩⟩
 fresh:=fun hp p=>⟨p.hd,p.nd,p.kd,fun r hr=>by
  obtain⟨xs,h1,h2⟩:=p.row r hr
  exact⟨xs,h1,h2.fresh hp⟩⟩
def iw(rows:List dI)(k:Int)(d:PyData):List dI:=rows.map fun r=>if r.1=k then(r.1,r.2.1,r.2.2++[d]) else r
theorem Ii(rows:List dI)(k:Int)(d:PyData):(iw rows k d).map (·.1)=rows.map (·.1):=by
 unfold iw
 rw[List.map_map]
 apply List.map_congr_left
 intro r _
 show(if r.1=k then _ else r).1=r.1
 split<;>rfl
theorem Cw(rows:List dI)(k:Int)(d:PyData):(iw rows k d).map (·.2.1)=rows.map (·.2.1):=by
 unfold iw
 rw[List.map_map]
 apply List.map_congr_left
 intro r _
 show(if r.1=k then _ else r).2.1=r.2.1
 split<;>rfl
theorem Kf(rows:List dI)(k:Int)(d:PyData):((iw rows k d).map fun r=>((Sum.inl r.1:Key),V.ref r.2.1))=rows.map fun r=>(Sum.inl r.1,V.ref r.2.1):=by
 unfold iw
 rw[List.map_map]
 apply List.map_congr_left
 intro r _
 show(Sum.inl (if r.1=k then _ else r).1,V.ref (if r.1=k then _ else r).2.1)=_
 split<;>rfl
theorem Gg(rows:List dI)(k:Int)(d:PyData):((iw rows k d).map fun r=>(r.1,r.2.2))=(rows.map fun r=>(r.1,r.2.2)).map fun q=>if q.1=k then(q.1,q.2++[d]) else q:=by
 unfold iw
 rw[List.map_map,List.map_map]
 apply List.map_congr_left
 intro r _
 show((if r.1=k then _ else r).1,(if r.1=k then _ else r).2.2)=if r.1=k then _ else _
 split<;>rfl
theorem xZ:∀{rows:List dI} {r:dI},(rows.map (·.1)).Nodup->r∈rows->dO (rows.map fun r=>((Sum.inl r.1:Key),V.ref r.2.1)) (Sum.inl r.1)=some (.ref r.2.1)
  |[],_,_,h=>by cases h
  | q :: rows, r, nd, h => by
    rw[List.map_cons,List.nodup_cons] at nd
    rw[List.map_cons]
    rcases List.mem_cons.mp h with z|z
    · subst z;exact o5 rfl
    · rw[nA (fun e=>nd.1 (by injection e with e;rw[e];exact List.mem_map_of_mem z))]
      exact xZ nd.2 z
theorem BP:∀{rows:List dI} {k:Int},k∉rows.map (·.1)->dO (rows.map fun r=>((Sum.inl r.1:Key),V.ref r.2.1)) (Sum.inl k)=none
  |[],_,_=>rfl
  | q :: rows, k, h => by
    rw[List.map_cons,List.mem_cons,not_or] at h
    rw[List.map_cons,nA (fun e=>h.1 (by injection e with e;exact e.symm))]
    exact BP h.2
section
variable{G:Gx}{ρ:Rh}{ta tb te tk:TE}{E:DE}{i:Nat}{f:Bool}{K:PySem.W.Frag}{Φ:Pd}{a:Addr}{rows:List dI}
theorem Ev.PL{ng:Bool}(e:ρ[i]?=some (.cu (fL a f rows)))(h:Ev G ρ ta fun _ y=>∃k,y= .int k/\Φ true (.bool (decide (k∈rows.map (·.1)) !=ng))):Ev G ρ (cD (B5 ng) ta (cQ i)) Φ:=fun nb σ H Q W z=>
 h nb σ H _ W fun g v H1 y ⟨k,ey,q⟩ s1 hv=>by
  subst ey
  have W1:=W.step s1
  obtain⟨x,e1,h1,h2,h3⟩:=W1.ok i _ e
  have h1:x=some (.ref a):=h1
  subst h1
  refine⟨.ref a,e1,a,_,rfl,by rw[hv.bG];exact .inl ⟨_, .inl k, .inl h3.hd,rfl,rfl⟩,?_⟩
  have:(dO (rows.map fun r=>((Sum.inl r.1:Key),V.ref r.2.1)) (Sum.inl k)).isSome=decide (k∈rows.map (·.1)):=by
   by_cases c:k∈rows.map (·.1)
   ·obtain⟨r,hr,e⟩:=List.mem_map.mp c
    rw[<-e,xZ h3.kd hr,decide_eq_true (by rw[e];exact c)];rfl
   ·rw[BP c,decide_eq_false c];rfl
  rw[this]
  exact z true _ H1 _ q s1 (.bl _)
theorem Sv.Oj(e:ρ[i]?=some (.cu (fL a f rows)))(h:Ev G ρ tk fun _ y=>∃k,y= .int k/\k∈rows.map (·.1)/\(∀r∈rows,r.2.2.length<10000)/\Ev G ρ te fun g d=>E.nx (ρ.set i (.cu (fL a (f && g) (iw rows k d))))):
  Sv G ρ (mJ (jW K "list" mF (cD jn (cQ i) tk) (aQ te bw))) E:=fun nb σ H D W KK=>by
 obtain⟨x,e1,h1,h2,h3⟩:=W.ok i _ e
 have h1:x=some (.ref a):=h1
 subst h1
 refine⟨.ref a,e1,h nb σ H _ W fun g v H1 y ⟨k,ey,hk,hlen,q⟩ s1 hv=>?_⟩
 subst ey
 have W1:=W.step s1
 obtain⟨x,gh,_,h2,h3⟩:=W1.ok i _ e
 obtain⟨r,hr,er⟩:=List.mem_map.mp hk
 have hval:=xZ h3.kd hr
 obtain⟨xs,hx,hxd⟩:=h3.row r hr
 have DJ:r.2.1∈(fL a f rows).F:=List.mem_cons_of_mem _ (List.mem_map_of_mem hr)
 refine⟨a,_, .inl k, .ref r.2.1,rfl,hv.bG, .inl h3.hd,by rw[<-er];exact hval, .inl ⟨rfl,_,aM.of hx⟩,?_⟩
 refine q nb σ H1 _ W1 fun g2 u H2 d p s2 hu=>?_
 have W2:=W1.step s2
 obtain⟨x,gh,_,h2,h4⟩:=W2.ok i _ e
 obtain⟨xs,hx,hxd⟩:=h4.row r hr
 refine⟨r.2.1,xs,u,rfl,rfl,hx,Nat.lt_of_lt_of_le (by rw[hxd.length];exact hlen r hr) (by decide),KK.nx nb _ _ _ p (W2.C7 e DJ rfl (fun b hb=>?_) ?_)⟩
 ·have:(fL a (f && g2) (iw rows k d)).F=(fL a f rows).F:=by show a::_=a::_;rw[Cw]
  rw[this] at hb;exact hb
 ·have bt:aJ (G.S nb (f && g2)) H2 (upd H2 r.2.1 (.lst (xs++[u]))):=aJ.set (.inl (h2 _ DJ).1)
  have hnd:=h4.nd
  rw[List.nodup_cons] at hnd
  have har:a≠r.2.1:=fun z=>hnd.1 (by rw[z];exact List.mem_map_of_mem hr)
  refine⟨?_,?_,?_,fun r' hr'=>?_⟩
  ·rw[aq har,Kf];exact h4.hd
  ·rw[Cw];exact h4.nd
  ·rw[Ii];exact h4.kd
  ·unfold iw at hr'
   obtain⟨r0,hr0,rfl⟩:=List.mem_map.mp hr'
   by_cases c:r0.1=k
   ·rw[if_pos c]
    have P1:r0=r:=by
     have nd:=h4.kd
     obtain⟨j,hj⟩:=List.getElem?_of_mem hr0
     obtain⟨j2,hj2⟩:=List.getElem?_of_mem hr
     obtain⟨l1,g1⟩:=List.getElem?_eq_some_iff.mp hj
     obtain⟨l2,g2⟩:=List.getElem?_eq_some_iff.mp hj2
     have:=(List.getElem_inj (i:=j) (j:=j2) (h₀:=by rw[List.length_map];exact l1) (h₁:=by rw[List.length_map];exact l2) nd).mp (by rw[List.getElem_map,List.getElem_map,g1,g2,c,er])
     subst this
     rw[<-g1,<-g2]
    subst P1
    exact⟨xs++[u],aL,ah.snoc ((hu.av (aS (fun z=>(Bool.and_eq_true _ _▸z).2) fun _ z=>z)).keep bt) ((hxd.av (aS (fun z=>(Bool.and_eq_true _ _▸z).1) fun _ z=>z)).keep bt)⟩
   ·rw[if_neg c]
    obtain⟨ys,hy,sA⟩:=h4.row r0 hr0
    have hne:r0.2.1≠r.2.1:=fun z=>c (by
     obtain⟨j,hj⟩:=List.getElem?_of_mem hr0
     obtain⟨j2,hj2⟩:=List.getElem?_of_mem hr
     obtain⟨l1,g1⟩:=List.getElem?_eq_some_iff.mp hj
     obtain⟨l2,g2⟩:=List.getElem?_eq_some_iff.mp hj2
     have:=(List.getElem_inj (i:=j) (j:=j2) (h₀:=by rw[List.length_map];exact l1) (h₁:=by rw[List.length_map];exact l2) hnd.2).mp (by rw[List.getElem_map,List.getElem_map,g1,g2,z])
     subst this
     rw[<-g1,g2,er])
    exact⟨ys,by rw[aq hne];exact hy,(sA.av (aS (fun z=>(Bool.and_eq_true _ _▸z).1) fun _ z=>z)).keep bt⟩
theorem Sv.NO{s:TS}(i:Nat)(e:ρ[i]?=some (.cu (fL a f rows)))(h:Sv G (ρ.set i (.d f (.dict ((rows.map fun r=>(r.1,PyData.list r.2.2)).map bS)))) s E):Sv G ρ s E:=fun nb σ H D W K=>by
  refine h _ σ H D (W.C4 e fun p hn=>?_) K
  have p:Am a rows (G.S nb f) H:=p
  have out:∀b∈(fL a f rows).F,¬G.S (fun x=>nb x/\x∉(fL a f rows).F) f b:=fun b hb z=>by
    obtain⟨q1,q2,q3⟩:=hn b hb
    rcases z with z|z|z|z
    · exact z.2 hb
    · exact q2 z
    · exact z q3
    · exact z.2 q1
  show af _ H _ (.ref a)
  unfold af
  refine⟨a,_,rfl,out a (List.mem_cons_self ..), .inl p.hd,?_⟩
  have key:∀rs:List dI,(∀r∈rs,r∈rows)->ak (G.S (fun x=>nb x/\x∉(fL a f rows).F) f) H ((rs.map fun r=>(r.1,PyData.list r.2.2)).map bS) (rs.map fun r=>((Sum.inl r.1:Key),V.ref r.2.1)):=by
    intro rs
    induction rs with
    |nil=>intro _;simp only[List.map_nil];unfold ak;rfl
    | cons r rs ih =>
      intro hm
      rw[List.map_cons,List.map_cons,List.map_cons]
      unfold ak
      refine⟨_,_,rfl,?_,ih fun q hq=>hm q (List.mem_cons_of_mem _ hq)⟩
      unfold bf
      obtain⟨xs,hx,hxd⟩:=p.row r (hm r (List.mem_cons_self ..))
      exact⟨rfl, .lst (out _ (List.mem_cons_of_mem _ (List.mem_map_of_mem (hm r (List.mem_cons_self ..))))) hx (hxd.av (aS (fun z=>z) fun _ z=>z.1))⟩
  exact key rows fun _ h=>h
theorem Bu:∀{more acc:List (Key×V)},(more.map (·.1)).Nodup->(∀q∈more,dO acc q.1=none)->je acc more=acc++more
  |[],acc,_,_=>by rw[List.append_nil];rfl
  | q :: more, acc, nd, h => by
    rw[List.map_cons,List.nodup_cons] at nd
    show je (putK acc q.1 q.2) more=_
    rw[Jm _ (h q (List.mem_cons_self ..)),Bu nd.2 (fun r hr=>?_),List.append_assoc]
    · rfl
    · have hne:q.1≠r.1:=fun z=>nd.1 (by rw[z];exact List.mem_map_of_mem hr)
      have:=h r (List.mem_cons_of_mem _ hr)
      unfold dO at this⊢
      rw[List.find?_append]
      cases e:acc.find? (fun kv=>decide (kv.1=r.1)) with
      |some z=>rw[e] at this;cases this
      |none=>simp[hne]
theorem Sv.QX(h:Ev G ρ te fun _ x=>∃ks:List Int,x= .list (ks.map .int)/\ks.Nodup/\ks.length<=9999/\∀a rows,(rows.map fun r=>(r.1,r.2.2))=ks.map (fun k=>(k,[]))->E.nx (ρ.set i (.cu (fL a true rows)))):
    Sv G ρ (fh (dQ xN (aQ (lq (nJ K te) (e7 0) mQ (mP (aQ (cQ 0) (aQ (jE bw) bw))) [none]) bw)) (e7 i)) E:=fun nb σ H D W KK=>
  h nb σ H _ W fun f v H1 x ⟨ks,ex,nd,hl,q⟩ s1 hv=>by
    subst ex
    obtain⟨l,xs,rfl,nl,hx,hd⟩:=hv.cU
    have e:=mG hd
    subst e
    refine⟨l,rfl,⟨_, .of hx⟩,fun acc hacc=>?_⟩
    refine R.r6 (xs:=ks.map V.int) (fun j σ H2=>σ.length=1/\∃(ts bs:List Addr),ts.length=j/\bs.length=j/\H2 acc=some (.lst (ts.map V.ref))/\bs.Nodup/\(∀b∈bs,H1 b=none/\H2 b=some (.lst []))/\
      (∀(m:Nat) t b k,ts[m]?=some t->bs[m]?=some b->ks[m]?=some k->H2 t=some (.tup [.int k, .ref b]))/\(∀t∈ts,t≠acc)/\acc∉bs/\∀b o,H1 b=some o->H2 b=some o) ⟨rfl,[],[],rfl,rfl,aL,List.nodup_nil,(fun _ z=>by cases z),(fun _ _ _ _ z=>by simp at z),(fun _ z=>by cases z),(fun z=>by cases z),fun b o e=>by rw[aq (fun z=>by rw[z,hacc] at e;cases e)];exact e⟩ ?_ ?_ ?_
    · rintro j σ H2 hj ⟨_,ts,bs,_,_,_,_,_,_,_,_,hk⟩
      exact .of (hk _ _ hx)
    · rintro j x σ H2 hxj ⟨hσ,ts,bs,fM,jL,hA,hbn,hb,ht,htA,hbA,hk⟩
      rw[List.getElem?_map] at hxj
      obtain⟨k,hkj,rfl⟩:=Option.map_eq_some_iff.mp hxj
      have hjl:=(List.getElem?_eq_some_iff.mp hkj).1
      have e0:(σ.set 0 (some (V.int k)))[0]?=some (some (.int k)):=List.getElem?_set_self (by omega)
      refine⟨.int k,e0,Nat.zero_le _,fun b jF=>⟨Nat.le_of_ble_eq_true rfl,fun t qo=>?_⟩⟩
      have Ey:b≠t:=fun z=>by rw[<-z,aL] at qo;cases qo
      have uf:b≠acc:=fun z=>by rw[z,hA] at jF;cases jF
      have nQ:H2 t=none:=by rw[aq (Ne.symm Ey)] at qo;exact qo
      have sH:t≠acc:=fun z=>by rw[z,hA] at nQ;cases nQ
      have Nu:H1 b=none:=by
        cases e:H1 b with
        |none=>rfl
        |some o=>rw[hk b o e] at jF;cases jF
      refine⟨ts.map V.ref,by rw[aq (Ne.symm sH),aq (Ne.symm uf)];exact hA,by rw[List.length_map,fM];exact Nat.lt_of_lt_of_le (show j<10000 by omega) (by decide),by rw[List.length_set];exact hσ,ts++[t],bs++[b],by rw[List.length_append,fM];rfl,by rw[List.length_append,jL];rfl,by rw[aL,List.map_append];rfl,?_,?_,?_,?_,?_,?_⟩
      · rw[List.nodup_append]
        refine⟨hbn,by simp,fun x hx y hy z=>?_⟩
        rw[List.mem_singleton.mp hy] at z
        have:=(hb x hx).2
        rw[z,jF] at this;cases this
      · intro x hx
        rcases List.mem_append.mp hx with z|z
        · have:=hb x z
          refine⟨this.1,?_⟩
          rw[aq (fun y=>hbA (by rw[<-y];exact z)),aq (fun y=>by have:=this.2;rw[y,nQ] at this;cases this),aq (fun y=>by have:=this.2;rw[y,jF] at this;cases this)]
          exact this.2
        · rw[List.mem_singleton.mp z]
          exact⟨Nu,by rw[aq uf,aq Ey,aL]⟩
      · intro m t' b' k' h1 h2 h3
        rcases Nat.lt_trichotomy m j with c|c|c
        · rw[List.getElem?_append_left (by omega)] at h1 h2
          have:=ht m t' b' k' h1 h2 h3
          rw[aq (htA t' (List.mem_of_getElem? h1)),aq (fun y=>by rw[y,nQ] at this;cases this),aq (fun y=>by rw[y,jF] at this;cases this)]
          exact this
        · subst c
          rw[List.getElem?_append_right (by omega),fM,Nat.sub_self] at h1
          rw[List.getElem?_append_right (by omega),jL,Nat.sub_self] at h2
          simp at h1 h2
          subst h1 h2
          rw[hkj] at h3;cases h3
          rw[aq sH,aL]
        · rw[List.getElem?_eq_none (by rw[List.length_append,List.length_singleton];omega)] at h1;cases h1
      · intro x hx
        rcases List.mem_append.mp hx with z|z
        · exact htA x z
        · rw[List.mem_singleton.mp z];exact sH
      · intro z
        rcases List.mem_append.mp z with z|z
        · exact hbA z
        · exact uf (List.mem_singleton.mp z).symm
      · intro b' o e
        have:=hk b' o e
        rw[aq (fun z=>by rw[z,hacc] at e;cases e),aq (fun y=>by rw[y,nQ] at this;cases this),aq (fun y=>by rw[y,jF] at this;cases this)]
        exact this
    · rintro σ2 H2 ⟨_,ts,bs,fM,jL,hA,hbn,hb,ht,htA,hbA,hk⟩
      rw[List.length_map] at fM jL
      obtain⟨rows,er⟩:∃rows:List dI,rows=List.zipWith (fun k b=>(k,b,[])) ks bs:=⟨_,rfl⟩
      have hrl:rows.length=ks.length:=by rw[er,List.length_zipWith];omega
      have oU:∀{m:Nat} {r:dI},rows[m]?=some r->∃k b,ks[m]?=some k/\bs[m]?=some b/\r=(k,b,[]):=fun{m r} hm=>by
        rw[er,List.getElem?_zipWith] at hm
        cases e1:ks[m]? with
        |none=>rw[e1] at hm;cases hm
        | some k =>
          cases e2:bs[m]? with
          |none=>rw[e1,e2] at hm;cases hm
          |some b=>rw[e1,e2] at hm;cases hm;exact⟨k,b,rfl,rfl,rfl⟩
      have hk1:rows.map (·.1)=ks:=by
        apply List.ext_getElem?
        intro m
        rw[List.getElem?_map]
        cases e:rows[m]? with
        |none=>rw[List.getElem?_eq_none (by have:=List.getElem?_eq_none_iff.mp e;omega)];rfl
        |some r=>obtain⟨k,b,e1,e2,rfl⟩:=oU e;rw[e1];rfl
      have hb1:rows.map (·.2.1)=bs:=by
        apply List.ext_getElem?
        intro m
        rw[List.getElem?_map]
        cases e:rows[m]? with
        |none=>rw[List.getElem?_eq_none (by have:=List.getElem?_eq_none_iff.mp e;omega)];rfl
        |some r=>obtain⟨k,b,e1,e2,rfl⟩:=oU e;rw[e2];rfl
      have hq1:(rows.map fun r=>(r.1,r.2.2))=ks.map (fun k=>(k,[])):=by
        apply List.ext_getElem?
        intro m
        rw[List.getElem?_map,List.getElem?_map]
        cases e:rows[m]? with
        |none=>rw[List.getElem?_eq_none (by have:=List.getElem?_eq_none_iff.mp e;omega)];rfl
        |some r=>obtain⟨k,b,e1,e2,rfl⟩:=oU e;rw[e1];rfl
      refine⟨acc,ts.map V.ref,rows.map fun r=>(Sum.inl r.1,V.ref r.2.1),rfl,hA,by rw[List.length_map,List.length_map];omega,by rw[List.length_map];omega,fun m y p hy hp=>?_,fun d hd0=>?_⟩
      · rw[List.getElem?_map] at hy hp
        obtain⟨t,e1,rfl⟩:=Option.map_eq_some_iff.mp hy
        obtain⟨r,e2,rfl⟩:=Option.map_eq_some_iff.mp hp
        obtain⟨k,b,g1,g2,rfl⟩:=oU e2
        exact⟨t,rfl,ht m t b k e1 g2 g1⟩
      · have hm:je [] (rows.map fun r=>((Sum.inl r.1:Key),V.ref r.2.1))=rows.map fun r=>(Sum.inl r.1,V.ref r.2.1):=by
          rw[Bu,List.nil_append]
          · rw[List.map_map,show((fun(x:Key×V)=>x.1)∘fun(r:dI)=>((Sum.inl r.1:Key),V.ref r.2.1))=(Sum.inl:Int->Key)∘(fun(r:dI)=>r.1) from rfl,<-List.map_map,hk1]
            exact nd.map _ (fun a b h1 h2=>h1 (by injection h2))
          · intro q _;rfl
        rw[hm]
        have hdb:∀b∈bs,b≠d:=fun b hb' z=>by have:=(hb b hb').2;rw[z,hd0] at this;cases this
        have sm:∀b o,H1 b=some o->(upd H2 d (.dK (rows.map fun r=>(Sum.inl r.1,V.ref r.2.1)))) b=some o:=fun b o e=>by
          have:=hk b o e
          rw[aq (fun z=>by rw[z,hd0] at this;cases this)];exact this
        have s2:Step G.B H (upd H2 d (.dK (rows.map fun r=>(Sum.inl r.1,V.ref r.2.1)))):=s1.trans (.same s1.2 sm)
        have hd1:H1 d=none:=by
          cases e:H1 d with
          |none=>rfl
          |some o=>rw[hk d o e] at hd0;cases hd0
        have hF:∀b∈(fL d true rows).F,b=d\/b∈bs:=fun b hb'=>by
          rcases List.mem_cons.mp hb' with z|z
          · exact .inl z
          · rw[hb1] at z;exact .inr z
        refine KK.nx _ _ _ _ (q d rows hq1) (W.zw (c:=fL d true rows) s2 (fun b hb'=>?_) (fun b hb'=>?_) ?_)
        · rcases hF b hb' with z|z
          · rw[z];exact W.none_of s1 hd1
          · exact W.none_of s1 (hb b z).1
        · rcases hF b hb' with z|z
          · rw[z,aL];exact Option.some_ne_none _
          · rw[aq (hdb b z),(hb b z).2];exact Option.some_ne_none _
        · refine⟨aL,?_,by rw[hk1];exact nd,fun r hr=>?_⟩
          · rw[hb1,List.nodup_cons]
            exact⟨fun z=>hdb d z rfl,hbn⟩
          · obtain⟨m,hm⟩:=List.getElem?_of_mem hr
            obtain⟨k,b,g1,g2,rfl⟩:=oU hm
            have hbm:=List.mem_of_getElem? g2
            exact⟨[],by show upd H2 d _ b=_;rw[aq (hdb b hbm)];exact(hb b hbm).2, .nil⟩
end
end L2
set_option maxRecDepth 100000
set_option maxHeartbeats 4000000
namespace L2
open PySem PySem.Spec PyProof.Rows
def bO(prs:aA)(pl:Int):Option Int:=(prs.find? fun pr=>decide (pr.1=pl)).map (·.2)
theorem S0(pl:Int):bO [] pl=none:=rfl
theorem Bd(prs:aA)(pr:Int×Int)(pl:Int):bO (prs++[pr]) pl=match bO prs pl with|some f=>some f|none=>if pr.1=pl then some pr.2 else none:=by
  unfold bO
  rw[List.find?_append]
  cases prs.find? (fun pr=>decide (pr.1=pl)) with
  |some q=>rfl
  | none =>
    by_cases c:pr.1=pl
    · simp[c]
    · simp[c]
theorem rm{prs:aA}{pl:Int}(h:pl∉prs.map (·.1)):bO prs pl=none:=by
 unfold bO
 rw[List.find?_eq_none.mpr]
 ·rfl
 ·intro pr bC z
  exact h (by rw[<-of_decide_eq_true z];exact List.mem_map_of_mem bC)
theorem rN{prs:aA}{pl f:Int}(h:bO prs pl=some f):(pl,f)∈prs:=by
 unfold bO at h
 obtain⟨q,e,rfl⟩:=Option.map_eq_some_iff.mp h
 have h1:=List.mem_of_find?_eq_some e
 have h2:=List.find?_some e
 have h2:q.1=pl:=of_decide_eq_true h2
 rw[<-h2]
 exact h1
noncomputable def iS(p:Int)(c:Nat):Option Int->List (Int×Int)
 |some f=>[((c:Int),sol p f 1)]
 |none=>[]
noncomputable def cY(p:Int)(cs:List aA)(pl:Int)(i:Nat):List (Int×Int):=(List.range i).flatMap fun c=>iS p c (bO (cs.getD c []) pl)
theorem DY{p:Int}{cs:List aA}{pl:Int}{i:Nat}{prs:aA}(h:cs[i]?=some prs):cY p cs pl (i+1)=cY p cs pl i++iS p i (bO prs pl):=by
 unfold cY
 rw[List.range_succ,List.flatMap_append,List.flatMap_singleton,List.getD_eq_getElem?_getD,h]
 rfl
theorem rz{p:Int}{cs:List aA}{pl:Int}:∀i,(cY p cs pl i).length<=i
  |0=>Nat.le_refl _
  | i + 1 => by
    unfold cY
    rw[List.range_succ,List.flatMap_append,List.length_append,List.flatMap_singleton]
    have:=rz (p:=p) (cs:=cs) (pl:=pl) i
    have h2:∀o,(iS p i o).length<=1:=fun o=>by cases o<;>simp[iS]
    have:=h2 (bO (cs.getD i []) pl)
    unfold cY at*
    omega
theorem Dd{p:Int}{cs:List aA}{pl:Int}{q:Int×Int}{i:Nat}(hi:i<=cs.length)(h:q∈cY p cs pl i):∃(c:Nat) (prs:aA) (f:Int),cs[c]?=some prs/\c<i/\bO prs pl=some f/\q=((c:Int),sol p f 1):=by
  unfold cY at h
  obtain⟨c,hc,hq⟩:=List.mem_flatMap.mp h
  have hc:=List.mem_range.mp hc
  have e:cs[c]?=some cs[c]:=List.getElem?_eq_getElem (by omega)
  rw[List.getD_eq_getElem?_getD,e] at hq
  cases hf:bO cs[c] pl with
  |none=>simp[iS,hf] at hq
  | some f =>
    have hq:q∈iS p c (bO cs[c] pl):=hq
    rw[hf] at hq
    exact⟨c,cs[c],f,e,hc,hf,List.mem_singleton.mp hq⟩
noncomputable def gf(p:Int)(cs:List aA)(c:Nat)(prs:aA)(pl:Int):Int×List PyData:=(pl,(cY p cs pl c++iS p c (bO prs pl)).map pairD)
theorem QY{p:Int}{cs:List aA}{c:Nat}{cA:List Int}:(cA.map fun pl=>(pl,(cY p cs pl c).map pairD))=cA.map (gf p cs c []):=by
 apply List.map_congr_left
 intro pl _
 unfold gf
 rw[S0]
 show _=(pl,(cY p cs pl c++[]).map pairD)
 rw[List.append_nil]
theorem IG{p:Int}{cs:List aA}{c:Nat}{prs:aA}{pr:Int×Int}{cA:List Int}(h:pr.1∉cA):cA.map (gf p cs c (prs++[pr]))=cA.map (gf p cs c prs):=by
 apply List.map_congr_left
 intro pl hpl
 unfold gf
 rw[Bd]
 have:¬pr.1=pl:=fun e=>h (by rw[e];exact hpl)
 cases bO prs pl<;>simp[this]
theorem Ow{p:Int}{cs:List aA}{c:Nat}{prs:aA}{pr:Int×Int}{cA:List Int}(h:pr.1∉prs.map (·.1)):cA.map (gf p cs c (prs++[pr]))=(cA.map (gf p cs c prs)).map fun q=>if q.1=pr.1 then(q.1,q.2++[pairD ((c:Int),sol p pr.2 1)]) else q:=by
 rw[List.map_map]
 apply List.map_congr_left
 intro pl _
 show gf p cs c (prs++[pr]) pl=if pl=pr.1 then _ else _
 unfold gf
 rw[Bd]
 by_cases e:pl=pr.1
 ·subst e
  rw[if_pos rfl,rm h]
  simp[iS]
 ·rw[if_neg e]
  have:¬pr.1=pl:=fun z=>e z.symm
  cases bO prs pl<;>simp[this]
noncomputable def eW(p:Int)(cs:List aA)(ws:List Int)(pl:Int):List Int:=
 (cY p cs pl cs.length).map fun q=>(ws.getD pl.toNat 0-aZ (cs.getD q.1.toNat []) (ws.map some)%p*q.2)%p
structure ir(p n:Int)(cs:List aA):Prop where
 hp:eX p
 dX:p<10^40
 n0:1<=n
 n1:n<=400
 cl:cs.length<=400
 ok:∀prs∈cs,iB p n.toNat prs
noncomputable def fk(p:Int)(cs:List aA)(ws:List Int):List Int:=cs.map fun prs=>aZ prs (ws.map some)%p
theorem HX{p:Int}{cs:List aA}{ws:List Int}(c:Nat)(h:c<cs.length):(fk p cs ws).getD c 0=aZ (cs.getD c []) (ws.map some)%p:=by
 unfold fk
 rw[List.getD_eq_getElem?_getD,List.getElem?_map,List.getD_eq_getElem?_getD,List.getElem?_eq_getElem h]
 rfl
theorem Lq(p:Int)(cs:List aA)(ws:List Int):(cs.map fun prs=>eZ (kc p prs (ws.map some)))=(fk p cs ws).map PyData.int:=by
 unfold fk
 rw[List.map_map]
 apply List.map_congr_left
 intro prs _
 have:¬pG prs (ws.map some):=by
  rintro⟨pr,_,z⟩
  rw[List.getElem?_map] at z
  cases h:ws[pr.1.toNat]? with
  |none=>rw[h] at z;cases z
  |some x=>rw[h] at z;cases z
 unfold kc
 rw[if_neg this]
 rfl
theorem JL{prs:aA}{ws:List Int}{pl:Nat}{x:Int}(nd:(prs.map (·.1)).Nodup)(hr:∀pr∈prs,0<=pr.1)(hpl:pl<ws.length):
    aZ prs ((ws.set pl x).map some)=aZ prs (ws.map some)+((bO prs (pl:Int)).getD 0)*(x-ws.getD pl 0):=by
  induction prs with
  |nil=>show(0:Int)=0+0*_;rw[Int.zero_mul];rfl
  | cons pr prs ih =>
    rw[List.map_cons,List.nodup_cons] at nd
    have ih:=ih nd.2 fun q hq=>hr q (List.mem_cons_of_mem _ hq)
    have h0:=hr pr (List.mem_cons_self ..)
    show eG _ pr+aZ prs _=(eG _ pr+aZ prs _)+_
    rw[ih]
    have hf:bO (pr::prs) (pl:Int)=if pr.1=(pl:Int) then some pr.2 else bO prs (pl:Int):=by
      unfold bO
      rw[List.find?_cons]
      by_cases c:pr.1=(pl:Int)
      · simp[c]
      · simp[c]
    rw[hf]
    by_cases c:pr.1=(pl:Int)
    · rw[if_pos c]
      have hn:bO prs (pl:Int)=none:=rm (by rw[<-c];exact nd.1)
      rw[hn]
      have hn2:pr.1.toNat=pl:=by omega
      unfold eG
      rw[List.getElem?_map,List.getElem?_map,hn2,List.getElem?_set_self hpl,List.getD_eq_getElem?_getD,List.getElem?_eq_getElem hpl]
      show pr.2*x+(_+0*_)=pr.2*ws[pl]+_+pr.2*(x-ws[pl])
      grind
    · rw[if_neg c]
      have hn2:pl≠pr.1.toNat:=by omega
      have:eG ((ws.set pl x).map some) pr=eG (ws.map some) pr:=by
        unfold eG
        rw[List.getElem?_map,List.getElem?_map,List.getElem?_set_ne hn2]
      rw[this]
      omega
theorem NK{p:Int}{prs:aA}{ws:List Int}{pl:Nat}{x f:Int}(hp:eX p)(hq:iB p ws.length prs)(hpl:pl<ws.length)(hf:bO prs (pl:Int)=some f)(x0:0<=x)(x1:x<p):
  (ws.getD pl 0-aZ prs (ws.map some)%p*sol p f 1)%p=x↔aZ prs ((ws.set pl x).map some)%p=0:=by
 have hm:=rN hf
 obtain⟨_,_,f0,f1⟩:=hq.2.2 _ hm
 have p2:=hp.1
 have hfp:f%p≠0:=by rw[Int.emod_eq_of_lt (by omega) f1];dsimp only at f0;omega
 obtain⟨k,hk⟩:=Aq (a:=1) hp hfp
 rw[JL hq.1 (fun pr bC=>(hq.2.2 pr bC).1) hpl,hf]
 generalize aZ prs (ws.map some)=D
 generalize sol p f 1=s at*
 generalize ws.getD pl 0=w
 have hD:D%p=D-p*(D/p):=Int.emod_def ..
 constructor
 ·intro e
  have e2:w-D%p*s=x+p*((w-D%p*s)/p):=by rw[<-e];exact(Int.emod_add_mul_ediv _ _).symm
  generalize (w-D%p*s)/p=j at e2
  rw[hD] at e2
  apply Int.emod_eq_zero_of_dvd
  refine⟨-(D*k)+D/p*(f*s)-f*j,?_⟩
  show D+f*(x-w)=_
  have e3:x-w= -(D-p*(D/p))*s-p*j:=by grind
  rw[e3]
  grind
 ·intro e
  obtain⟨j,hj⟩:=Int.dvd_of_emod_eq_zero e
  have hj:D+f*(x-w)=p*j:=hj
  have:w-D%p*s=x+p*(D/p*s-j*s+k*(x-w)):=by
   rw[hD]
   have h1:(D+f*(x-w))*s=p*j*s:=by rw[hj]
   grind
  rw[this,Int.add_mul_emod_self_left,Int.emod_eq_of_lt x0 x1]
theorem Sw{rs:List Int}{x:Int}:(rs.map fun r=>if r=x then 1 else 0).sum=rs.count x:=by
  induction rs with
  |nil=>rfl
  | cons r rs ih =>
    rw[List.map_cons,List.sum_cons,ih,List.count_cons]
    by_cases c:r=x
    · simp[c];omega
    · simp[c]
theorem sum_add{rs:List Int}{f g:Int->Nat}:(rs.map fun r=>f r+g r).sum=(rs.map f).sum+(rs.map g).sum:=by
 induction rs with
 |nil=>rfl
 |cons r rs ih=>rw[List.map_cons,List.sum_cons,ih,List.map_cons,List.sum_cons,List.map_cons,List.sum_cons];omega
theorem ED{rs:List Int}(nd:rs.Nodup):∀{L:List Int},(∀k∈L,k∈rs)->(rs.map fun r=>L.count r).sum=L.length
  | [], _ => by
    have:(rs.map fun r=>([]:List Int).count r)=rs.map fun _=>0:=rfl
    rw[this]
    clear nd this
    induction rs with
    |nil=>rfl
    |cons r rs ih=>rw[List.map_cons,List.sum_cons,ih fun _ h=>nomatch h];rfl
  | x :: L, h => by
    have e:(rs.map fun r=>(x::L).count r)=rs.map fun r=>L.count r+if r=x then 1 else 0:=by
      apply List.map_congr_left
      intro r _
      rw[List.count_cons]
      by_cases c:r=x
      · simp[c]
      · have:¬x=r:=fun z=>c z.symm
        simp[c,this]
    rw[e,sum_add,ED nd fun k hk=>h k (List.mem_cons_of_mem _ hk),Sw,List.length_cons,List.Nodup.count nd,if_pos (h x (List.mem_cons_self ..))]
theorem zK(ks:Ks)(k:Int)(d:PyData):(kL ks k d).length<=ks.length+1:=by
 unfold kL
 split
 ·rw[List.length_map];omega
 ·rw[List.length_append,List.length_singleton];omega
end L2
set_option maxRecDepth 100000
set_option maxHeartbeats 4000000
namespace L2
open PySem PySem.Spec PyProof.Rows
def nu(p d:Addr):HO:= .ext fun h=>h.IsItemsView p d
def DA:V->List V->Hp->VK->Prop:=fun x vs H Q=>∃a kvs,x= .ref a/\vs=[]/\Rd H a (.dK kvs)/\∀p,H p=none->Q (.ref p) (upd H p (nu p a))
def yo:List V->Hp->VK->Prop:=fun xs H Q=>∃p a kvs,xs=[.ref p]/\H p=some (nu p a)/\Rd H a (.dK kvs)/\∀(l:Addr) (Ts:List Addr) (H':Hp),Ts.length=kvs.length->H l=none->aO H H'->H' l=some (.lst (Ts.map V.ref))->
 (∀(j:Nat) T kv,Ts[j]?=some T->kvs[j]?=some kv->H T=none/\T≠l/\H' T=some (.tup [kV kv.1,kv.2]))->Q (.ref l) H'
section
variable{X:Cx}
theorem Hv:mL X "dict.items" DA:=by
 intro pins s σ H x vs v us Q I rx rv h
 obtain⟨a,kvs,rfl,rfl,hH,q⟩:=h
 cases rx
 have Hj:=rv.zero
 subst Hj
 obtain⟨z,hd,ps,rel,dd⟩:=kE I.hok hH
 refine call_meetsIn PySem.F.slot_dict_items dd.typeIs PySem.F.entry_dict_items (PySem.F.args_dict_items_1 _) (meets_dict_items (cJ X.prog X.w) a hd) ⟨⟨ps,dd⟩,?_⟩
 have new:aV X.prog X.w (upd H s.heap.objs.size (nu s.heap.objs.size a)) (s.heap.push {cls:= .type "dict_items",data:= .fields #[.ref a]}) s.heap.objs.size (nu s.heap.objs.size a):=by
  refine⟨⟨_,Heap.get?_push_size _ rfl,rfl,rfl⟩,⟨_,Heap.get?_push_size _ rfl⟩,fun h1 h2 z k=>?_⟩
  obtain⟨o,ho,r⟩:=z
  exact⟨o,k o ho,r⟩
 exact⟨.ref s.heap.objs.size,_,I.laid (t':=s.toks) (fun b o e=>Heap.get?_push_of_some _ e) (Nat.le_refl _) new,rfl,q _ (I.hok.fresh (Nat.le_refl _))⟩
theorem Q6(hc:X.calm=true):dG X (.type "list") yo:=by
  intro pins s σ H xs us Q I rv h
  obtain⟨p,a,kvs,rfl,hp,hH,q⟩:=h
  obtain⟨u,rfl,ru⟩:=vals1 rv
  cases ru
  obtain⟨z,hd,ps,rel,dd⟩:=kE I.hok hH
  obtain⟨hv,_,_⟩:=I.hok p _ hp
  obtain⟨ep,hat⟩:=dd.dictAt
  have hz:ps.length<=sizeLine:=by rw[<-rel.length];exact z
  have hlen:=rel.length
  refine PySem.W.kdx_call (knd:=cJ X.prog X.w) (kvs:=ps) (ep:=ep) (I.ok.hd hc) hv hat hz fun h' tk acc c Ts hk hS Nv hG hacc=>?_
  have rD:Ts.length=kvs.length:=by omega
  have nd:Ts.Nodup:=hG.rise.imp fun h=>Nat.ne_of_lt h
  have inj:∀(i j:Nat) T,Ts[i]?=some T->Ts[j]?=some T->i=j:=fun i j T h1 h3=>by
    obtain⟨l1,g1⟩:=List.getElem?_eq_some_iff.mp h1
    obtain⟨l2,g2⟩:=List.getElem?_eq_some_iff.mp h3
    exact(List.getElem_inj nd).mp (g1.trans g2.symm)
  have fS:H s.heap.objs.size=none:=I.hok.fresh (Nat.le_refl _)
  have fT:∀T∈Ts,H T=none:=fun T hT=>I.hok.fresh (Nat.le_of_lt (hG.above T hT))
  have vO:∀T∈Ts,T≠s.heap.objs.size:=fun T hT=>Nat.ne_of_gt (hG.above T hT)
  have at':∀(j:Nat) T kv,Ts[j]?=some T->kvs[j]?=some kv->∃key u,RelV (kV kv.1) key/\RelV kv.2 u/\h'.get? T=some {cls:= .type "tuple",data:= .seq #[key,u]}:=fun j T kv hT hkv=>by
    obtain⟨key,k,x,e1,e2,e3⟩:=hG.pairs j T hT
    have hjl:=(List.getElem?_eq_some_iff.mp hkv).1
    have hr:kv.1=k/\RelV kv.2 x:=by
      have:∀{as:List (Key×V)} {bs:List (Key×Value)} {j:Nat} {p:Key×V} {q:Key×Value},KV as bs->as[j]?=some p->bs[j]?=some q->p.1=q.1/\RelV p.2 q.2:=by
        intro as
        induction as with
        |nil=>intro bs j p q _ h;simp at h
        | cons a0 as ih =>
          intro bs j p q r h1 h2
          cases r with
          | cons r1 r2 =>
            cases j with
            |zero=>simp at h1 h2;subst h1 h2;exact r1
            |succ j=>simp at h1 h2;exact ih r2 h1 h2
      exact this rel hkv e1
    exact⟨key,x,by rw[hr.1];exact Cq e2,hr.2,e3⟩
  obtain⟨H',eS,eT,eO⟩:∃H':Hp,H' s.heap.objs.size=some (.lst (Ts.map V.ref))/\(∀(j:Nat) T kv,Ts[j]?=some T->kvs[j]?=some kv->H' T=some (.tup [kV kv.1,kv.2]))/\∀b,b≠s.heap.objs.size->b∉Ts->H' b=H b:=by
    refine⟨fun b=>if b=s.heap.objs.size then some (.lst (Ts.map V.ref)) else match Ts.findIdx? (fun T=>T==b) with|some j=>(kvs[j]?).map fun kv=>HO.tup [kV kv.1,kv.2]|none=>H b,if_pos rfl,fun j T kv hT hx=>?_,fun b h1 h3=>?_⟩
    · have hTm:=List.mem_of_getElem? hT
      show(if _ then _ else _)=_
      rw[if_neg (vO T hTm)]
      have:Ts.findIdx? (fun T'=>T'==T)=some j:=by
        cases e:Ts.findIdx? (fun T'=>T'==T) with
        | none =>
          rw[List.findIdx?_eq_none_iff] at e
          have:=e T hTm
          simp at this
        | some i =>
          rw[List.findIdx?_eq_some_iff_getElem] at e
          obtain⟨hi,h4,_⟩:=e
          have:Ts[i]=T:=by simpa using h4
          rw[inj i j T (by rw[List.getElem?_eq_getElem hi,this]) hT]
      rw[this]
      show(kvs[j]?).map _=_
      rw[hx]
      rfl
    · show(if _ then _ else _)=_
      rw[if_neg h1]
      have:Ts.findIdx? (fun T'=>T'==b)=none:=by
        rw[List.findIdx?_eq_none_iff]
        intro T hT
        have:T≠b:=fun z=>h3 (z▸hT)
        simpa using this
      rw[this]
  have sm:aO H H':=fun b u hb=>by
    rw[eO b (fun z=>by rw[z,fS] at hb;cases hb) (fun z=>by rw[fT b z] at hb;cases hb)]
    exact hb
  refine⟨.ref s.heap.objs.size,H',?_,rfl,q _ Ts H' rD fS sm eS fun j T kv h1 h3=>⟨fT T (List.mem_of_getElem? h1),vO T (List.mem_of_getElem? h1),eT j T kv h1 h3⟩⟩
  refine I.JM (t':=tk) hk sm fun b u hb=>?_
  by_cases c1:b=s.heap.objs.size
  · subst c1
    rw[eS] at hb;cases hb
    refine .inr ⟨Nat.le_refl _,by rw[List.length_map,rD];exact z,Ts.map Value.ref,c,?_,?_⟩
    · clear eS eT eO sm q hacc hS at' inj fT vO rD nd Nv hG
      induction Ts with
      |nil=>exact .nil
      |cons T Ts ih=>exact .cons rfl ih
    · rw[<-hacc,Array.toArray_toList];exact hS
  · by_cases c2:b∈Ts
    · obtain⟨j,hj⟩:=List.getElem?_of_mem c2
      have hj':=(List.getElem?_eq_some_iff.mp hj).1
      have hx:kvs[j]?=some (kvs[j]'(by omega)):=List.getElem?_eq_getElem (by omega)
      rw[eT j b _ hj hx] at hb;cases hb
      obtain⟨key,w,r1,r2,ho⟩:=at' j b _ hj hx
      exact .inr ⟨Nat.le_of_lt (hG.above b c2),by show 2<=sizeLine;decide,[key,w], .cons r1 (.cons r2 .nil),_,ho,rfl,_,rfl⟩
    · rw[eO b c1 c2] at hb
      exact .inl hb
end
section
variable{G:Gx}{ρ:Rh}{te:TE}{K:PySem.W.Frag}{Θ:Bool->List PyData->Prop}{i:Nat}{a:Addr}{f:Bool}{ks:Ks}
theorem ay.listItems(e:ρ[i]?=some (.aR a f ks))(hs:dW (ks.map (·.2))=true)(h:Θ true (ks.map JY)):ay G ρ (dQ yo (aQ (sP K "dict" DA (cQ i)) bw)) Θ:=fun nb σ H Q W z=>by
  obtain⟨x,e1,h1,h2,h3,ps,hp,hd⟩:=W.ok i _ e
  subst h1
  refine⟨.ref a,e1, .inr (.inr (.inl ⟨rfl, .inl ⟨_,hp⟩⟩)),a,ps,rfl,rfl, .inl hp,fun v hv=>?_⟩
  have s1:Step G.B H (upd H v (nu v a)):= .same W.au (cz hv)
  have Pf:a≠v:=fun z=>by rw[z,hv] at hp;cases hp
  have hp1:(upd H v (nu v a)) a=some (.dK ps):=by rw[aq Pf];exact hp
  refine⟨v,a,ps,rfl,aL, .inl hp1,fun l Ts H' rD hl sm eS eT=>?_⟩
  have st:Step G.B H H':=s1.trans (.same s1.2 sm)
  have Cr:H l=none:=by
    cases e:H l with
    |none=>rfl
    |some o=>rw[s1.1 l o (NB.new s1.2 hl) e] at hl;cases hl
  have hlen:=hd.len
  refine z true l _ H' _ h st Cr eS ?_
  refine ah.DV (by rw[List.length_map,List.length_map];omega) fun j d w hj hw=>?_
  rw[List.getElem?_map] at hj hw
  obtain⟨q,hq,rfl⟩:=Option.map_eq_some_iff.mp hj
  obtain⟨T,hT,rfl⟩:=Option.map_eq_some_iff.mp hw
  have hjl:=(List.getElem?_eq_some_iff.mp hT).1
  have Bb:ps[j]?=some (ps[j]'(by omega)):=List.getElem?_eq_getElem (by omega)
  obtain⟨g1,g2,g3⟩:=eT j T _ hT Bb
  have key:∀{ks:Ks} {ps:List (Key×V)} {j:Nat} {q:Int×PyData} {p:Key×V},ak (G.S nb f) H (ks.map bS) ps->ks[j]?=some q->ps[j]?=some p->p.1=Sum.inl q.1/\af (G.S nb f) H q.2 p.2:=by
    intro ks
    induction ks with
    |nil=>intro ps j q p _ h;simp at h
    | cons k0 ks ih =>
      intro ps j q p hk hq hp
      rw[List.map_cons] at hk
      unfold ak at hk
      obtain⟨p0,pr,rfl,k1,k2⟩:=hk
      cases j with
      | zero =>
        simp at hq hp
        subst hq hp
        unfold bf at k1
        exact⟨k1.1,k1.2⟩
      |succ j=>simp at hq hp;exact ih k2 hq hp
  obtain⟨k1,k2⟩:=key hd hq Bb
  have sx:gx q.2=true:=List.all_eq_true.mp hs _ (List.mem_map_of_mem (f:=(·.2)) (List.mem_of_getElem? hq))
  have MX:H T=none:=by
    cases e:H T with
    |none=>rfl
    |some o=>rw[s1.1 T o (NB.new s1.2 g1) e] at g1;cases g1
  rw[k1] at g3
  refine .tup (fun y=>?_) g3 (.cons (.int _) (.cons (k2.iK sx) .nil))
  rcases y with y|y
  · exact W.fresh MX y
  · exact g2 y
end
def eE(prs:aA)(pl:Int):aA:=prs.filter fun pr=>decide (pr.1≠pl)
theorem NR{prs:aA}{ws:List Int}{pl:Nat}{x:Int}(nd:(prs.map (·.1)).Nodup)(hr:∀pr∈prs,0<=pr.1)(hpl:pl<ws.length):
    aZ prs ((ws.set pl x).map some)=aZ (eE prs (pl:Int)) (ws.map some)+((bO prs (pl:Int)).getD 0)*x:=by
  induction prs with
  |nil=>show(0:Int)=0+0*_;rw[Int.zero_mul];rfl
  | cons pr prs ih =>
    rw[List.map_cons,List.nodup_cons] at nd
    have ih:=ih nd.2 fun q hq=>hr q (List.mem_cons_of_mem _ hq)
    have h0:=hr pr (List.mem_cons_self ..)
    show eG _ pr+aZ prs _=_
    rw[ih]
    have hf:bO (pr::prs) (pl:Int)=if pr.1=(pl:Int) then some pr.2 else bO prs (pl:Int):=by
      unfold bO
      rw[List.find?_cons]
      by_cases c:pr.1=(pl:Int)
      · simp[c]
      · simp[c]
    rw[hf]
    by_cases c:pr.1=(pl:Int)
    · rw[if_pos c]
      have hn:bO prs (pl:Int)=none:=rm (by rw[<-c];exact nd.1)
      rw[hn]
      have hn2:pr.1.toNat=pl:=by omega
      have ho:eE (pr::prs) (pl:Int)=eE prs (pl:Int):=by
        unfold eE
        rw[List.filter_cons_of_neg (by simp[c])]
      rw[ho]
      unfold eG
      rw[List.getElem?_map,hn2,List.getElem?_set_self hpl]
      show pr.2*x+(_+0*x)=_+pr.2*x
      omega
    · rw[if_neg c]
      have hn2:pl≠pr.1.toNat:=by omega
      have:eG ((ws.set pl x).map some) pr=eG (ws.map some) pr:=by
        unfold eG
        rw[List.getElem?_map,List.getElem?_map,List.getElem?_set_ne hn2]
      have ho:eE (pr::prs) (pl:Int)=pr::eE prs (pl:Int):=by
        unfold eE
        rw[List.filter_cons_of_pos (by simp[c])]
      rw[this,ho]
      show _=(eG _ pr+aZ (eE prs (pl:Int)) _)+_
      omega
theorem Ru{p:Int}{prs:aA}{ws:List Int}{pl:Nat}{f:Int}(hp:eX p)(hq:iB p ws.length prs)(hpl:pl<ws.length)(hf:bO prs (pl:Int)=some f):
  sol p f (0-aZ (eE prs (pl:Int)) (ws.map some)%p)=(ws.getD pl 0-aZ prs (ws.map some)%p*sol p f 1)%p:=by
 have hm:=rN hf
 obtain⟨_,_,f0,f1⟩:=hq.2.2 _ hm
 dsimp only at f0 f1
 have p2:=hp.1
 have hfp:f%p≠0:=by rw[Int.emod_eq_of_lt (by omega) f1];omega
 have hr:=yN (p:=p) (b:=f) (a:=0-aZ (eE prs (pl:Int)) (ws.map some)%p) (by omega)
 obtain⟨k,hk⟩:=Aq (a:=0-aZ (eE prs (pl:Int)) (ws.map some)%p) hp hfp
 refine((NK hp hq hpl hf hr.1 hr.2).mpr ?_).symm
 rw[NR hq.1 (fun pr bC=>(hq.2.2 pr bC).1) hpl,hf]
 show(_+f*sol p f _)%p=0
 have e:f*sol p f (0-aZ (eE prs (pl:Int)) (ws.map some)%p)=p*k-aZ (eE prs (pl:Int)) (ws.map some)%p:=by omega
 rw[e]
 generalize aZ (eE prs (pl:Int)) (ws.map some)=D
 have hD:D%p=D-p*(D/p):=Int.emod_def ..
 apply Int.emod_eq_zero_of_dvd
 exact⟨k+D/p,by rw[hD,Int.mul_add];omega⟩
theorem ES{prs:aA}{pl:Int}(nd:(prs.map (·.1)).Nodup):((prs.filter fun pr=>decide (pr.1=pl)).map (·.2)).sum=(bO prs pl).getD 0:=by
  induction prs with
  |nil=>rfl
  | cons pr prs ih =>
    rw[List.map_cons,List.nodup_cons] at nd
    have ih:=ih nd.2
    have hf:bO (pr::prs) pl=if pr.1=pl then some pr.2 else bO prs pl:=by
      unfold bO
      rw[List.find?_cons]
      by_cases c:pr.1=pl
      · simp[c]
      · simp[c]
    rw[hf]
    by_cases c:pr.1=pl
    · rw[if_pos c,List.filter_cons_of_pos (by simp[c]),List.map_cons,List.sum_cons,ih,rm (by rw[<-c];exact nd.1)]
      show pr.2+0=pr.2
      omega
    · rw[if_neg c,List.filter_cons_of_neg (by simp[c]),ih]
theorem Ft{α β:Type}{φ:α->β}{l1 l2:List β}(h:l1.Perm l2):∀xs:List α,l2=xs.map φ->∃ys:List α,l1=ys.map φ/\ys.Perm xs:=by
  induction h with
  |nil=>intro xs e;exact⟨[],rfl,by cases xs<;>first|exact .nil|cases e⟩
  | cons x _ ih =>
    intro xs e
    cases xs with
    |nil=>cases e
    | cons a xs =>
      obtain⟨e1,e2⟩:=List.cons.inj e
      obtain⟨ys,e3,p⟩:=ih xs e2
      exact⟨a::ys,by rw[e3,e1];rfl,p.cons a⟩
  | swap x y l =>
    intro xs e
    match xs,e with
    | a :: b :: xs, e =>
      obtain⟨e1,e2⟩:=List.cons.inj e
      obtain⟨e3,e4⟩:=List.cons.inj e2
      exact⟨b::a::xs,by rw[e1,e3,e4];rfl, .swap a b xs⟩
  | trans _ _ ih1 ih2 =>
    intro xs e
    obtain⟨ys,e1,p1⟩:=ih2 xs e
    obtain⟨zs,e2,p2⟩:=ih1 ys e1
    exact⟨zs,e2,p2.trans p1⟩
theorem C9{x y:Int}(h:x≠y):∀L:List Int,L.count x+L.count y<=L.length
  |[]=>Nat.le_refl _
  | z :: L => by
    have ih:=C9 h L
    rw[List.count_cons,List.count_cons,List.length_cons]
    by_cases c1:z=x
    · have:¬z=y:=fun e=>h (c1.symm.trans e)
      simp[c1,h]
      omega
    · simp[c1]
      split<;>omega
def bI(L:List Int)(w x:Int):Bool:=decide (x≠w) && decide (L.length<2*L.count x)
def jx(L:List Int)(w:Int):List Int:=(L.filter (bI L w)).take 1
theorem KY{L:List Int}{w x y:Int}(hx:bI L w x=true)(hy:bI L w y=true):x=y:=by
 unfold bI at hx hy
 rw[Bool.and_eq_true,decide_eq_true_eq,decide_eq_true_eq] at hx hy
 refine Classical.byContradiction fun h=>?_
 have:=C9 h L
 omega
theorem zo{L ms:List Int}{w:Int}(nd:ms.Nodup)(hm:∀k,k∈ms↔k∈L):ms.filter (bI L w)=jx L w:=by
  unfold jx
  cases e:L.filter (bI L w) with
  | nil =>
    rw[List.filter_eq_nil_iff] at e
    show _=[]
    rw[List.filter_eq_nil_iff]
    exact fun x hx=>e x ((hm x).mp hx)
  | cons x r =>
    have hx:x∈L.filter (bI L w):=by rw[e];exact List.mem_cons_self ..
    rw[List.mem_filter] at hx
    have pS:x∈ms.filter (bI L w):=List.mem_filter.mpr ⟨(hm x).mpr hx.1,hx.2⟩
    have hall:∀y∈ms.filter (bI L w),y=x:=fun y hy=>KY (List.mem_filter.mp hy).2 hx.2
    have hnd:(ms.filter (bI L w)).Nodup:=nd.filter _
    show _=[x]
    cases e2:ms.filter (bI L w) with
    |nil=>rw[e2] at pS;cases pS
    | cons y r2 =>
      rw[e2] at hall hnd
      have ey:=hall y (List.mem_cons_self ..)
      subst ey
      cases r2 with
      |nil=>rfl
      | cons z r3 =>
        have:=hall z (List.mem_cons_of_mem _ (List.mem_cons_self ..))
        subst this
        rw[List.nodup_cons] at hnd
        exact absurd (List.mem_cons_self ..) hnd.1
@[reducible] def bE(t:Int×Int×Int):PyData:= .tuple [.int t.1, .int t.2.1, .int t.2.2]
noncomputable def lA(p:Int)(cs:List aA)(ws:List Int)(i:Nat):List (Int×Int×Int):=(jx (eW p cs ws (i:Int)) (ws.getD i 0)).map fun x=>((i:Int),ws.getD i 0,x)
noncomputable def bq(p:Int)(cs:List aA)(ws:List Int)(m:Nat):List (Int×Int×Int):=(List.range m).flatMap (lA p cs ws)
theorem wN{p:Int}{cs:List aA}{ws:List Int}{m:Nat}:bq p cs ws (m+1)=bq p cs ws m++lA p cs ws m:=by
 unfold bq
 rw[List.range_succ,List.flatMap_append,List.flatMap_singleton]
theorem Ju{L:List Int}{w:Int}:(jx L w).length<=1:=by unfold jx;rw[List.length_take];omega
theorem pI{p:Int}{cs:List aA}{ws:List Int}:∀m,(bq p cs ws m).length<=m
  |0=>Nat.le_refl _
  | m + 1 => by
    rw[wN,List.length_append]
    have:=pI (p:=p) (cs:=cs) (ws:=ws) m
    have:(lA p cs ws m).length<=1:=by unfold lA;rw[List.length_map];exact Ju
    omega
theorem QE{L:List Int}{w x:Int}(h:x∈jx L w):x∈L:=(List.mem_filter.mp (List.mem_of_mem_take h)).1
theorem yq{p:Int}{cs:List aA}{ws:List Int}{m:Nat}{t:Int×Int×Int}(h:t∈bq p cs ws m):∃i<m,t.1=(i:Int)/\t.2.1=ws.getD i 0/\t.2.2∈eW p cs ws (i:Int):=by
 unfold bq at h
 obtain⟨i,hi,ht⟩:=List.mem_flatMap.mp h
 unfold lA at ht
 obtain⟨x,hx,rfl⟩:=List.mem_map.mp ht
 exact⟨i,List.mem_range.mp hi,rfl,rfl,QE hx⟩
def dB(ws:List Int)(ts:List (Int×Int×Int)):List Int:=ts.foldl (fun w t=>w.set t.1.toNat t.2.2) ws
theorem zg(ws:List Int)(ts:List (Int×Int×Int))(t:Int×Int×Int):dB ws (ts++[t])=(dB ws ts).set t.1.toNat t.2.2:=by unfold dB;rw[List.foldl_append];rfl
theorem pR(ws:List Int):∀ts,(dB ws ts).length=ws.length:=by
 intro ts
 unfold dB
 induction ts generalizing ws with
 |nil=>rfl
 |cons t ts ih=>rw[List.foldl_cons,ih,List.length_set]
theorem P8{ws:List Int}{P:Int->Prop}(h:∀x∈ws,P x):∀ts:List (Int×Int×Int),(∀t∈ts,P t.2.2)->∀x∈dB ws ts,P x:=by
  intro ts
  unfold dB
  induction ts generalizing ws with
  |nil=>exact fun _=>h
  | cons t ts ih =>
    intro ht
    rw[List.foldl_cons]
    refine ih (fun x hx=>?_) fun q hq=>ht q (List.mem_cons_of_mem _ hq)
    rcases List.mem_or_eq_of_mem_set hx with z|z
    · exact h x z
    · rw[z];exact ht t (List.mem_cons_self ..)
theorem zl{p:Int}{cs:List aA}{ws:List Int}{pl:Int}(hp:0<p):∀x∈eW p cs ws pl,0<=x/\x<p:=fun x hx=>by
 unfold eW at hx
 obtain⟨y,_,rfl⟩:=List.mem_map.mp hx
 exact⟨Int.emod_nonneg _ (by omega),Int.emod_lt_of_pos _ hp⟩
theorem PN{p:Int}{cs:List aA}{ws:List Int}{pl:Int}:(eW p cs ws pl).length<=cs.length:=by
 unfold eW
 rw[List.length_map]
 exact rz cs.length
noncomputable def lg(p:Int)(cs:List aA)(n:Nat):Ks:=((List.range n).map fun(i:Nat)=>(i:Int)).map fun pl=>(pl,PyData.list ((cY p cs pl cs.length).map pairD))
theorem R7{p:Int}{cs:List aA}{n i:Nat}(h:i<n):eY (lg p cs n) (i:Int)=some (.list ((cY p cs (i:Int) cs.length).map pairD)):=by
 unfold lg
 rw[qF,if_pos (List.mem_map.mpr ⟨i,List.mem_range.mpr h,rfl⟩)]
end L2
set_option maxRecDepth 100000
set_option maxHeartbeats 4000000
namespace L2
open PySem PySem.Spec PyProof.Rows
def brk(p:Int)(cs:List aA)(ws:List Int):Nat:=cs.countP fun prs=>decide (aZ prs (ws.map some)%p≠0)
end L2
set_option maxRecDepth 100000
set_option maxHeartbeats 4000000
namespace L2
open PySem PySem.Spec PyProof.Rows
abbrev cG:=Int×Int×Int
noncomputable def bQ(p:Int)(cs:List aA)(n:Nat):Nat->List Int->List Int×List (List cG)×Str
  |0,ws=>(ws,[],if brk p cs ws=0 then Str.ofString "held" else Str.ofString "far")
  | k + 1, ws => if brk p cs ws = 0 then (ws, [], Str.ofString "held") else if bq p cs ws n = [] then (ws, [], Str.ofString "stuck")
    else((bQ p cs n k (dB ws (bq p cs ws n))).1,bq p cs ws n::(bQ p cs n k (dB ws (bq p cs ws n))).2.1,(bQ p cs n k (dB ws (bq p cs ws n))).2.2)
theorem uR{p:Int}{cs:List aA}{n k:Nat}{ws:List Int}(h:brk p cs ws=0):bQ p cs n k ws=(ws,[],Str.ofString "held"):=by
 cases k with
 |zero=>rw[bQ,if_pos h]
 |succ k=>rw[bQ,if_pos h]
theorem zV{p:Int}{cs:List aA}{n:Nat}{ws:List Int}(h:brk p cs ws≠0):bQ p cs n 0 ws=(ws,[],Str.ofString "far"):=by
 rw[bQ,if_neg h]
theorem sj{p:Int}{cs:List aA}{n k:Nat}{ws:List Int}(h:brk p cs ws≠0)(h2:bq p cs ws n=[]):bQ p cs n (k+1) ws=(ws,[],Str.ofString "stuck"):=by
 rw[bQ,if_neg h,if_pos h2]
theorem wG{p:Int}{cs:List aA}{n k:Nat}{ws:List Int}(h:brk p cs ws≠0)(h2:bq p cs ws n≠[]):bQ p cs n (k+1) ws=((bQ p cs n k (dB ws (bq p cs ws n))).1,bq p cs ws n::(bQ p cs n k (dB ws (bq p cs ws n))).2.1,(bQ p cs n k (dB ws (bq p cs ws n))).2.2):=by
 rw[bQ,if_neg h,if_neg h2]
theorem Tu{p:Int}{cs:List aA}{ws:List Int}:(fk p cs ws).countP (fun s=>decide (s≠0))=brk p cs ws:=by
 unfold fk brk
 rw[List.countP_map]
 rfl
def fO(ts:List cG):PyData:= .list (ts.map bE)
def nv(r:List Int×List (List cG)×Str):PyData:= .tuple [bD r.1, .list (r.2.1.map fO), .tuple [.str r.2.2]]
theorem rS{p:Int}{cs:List aA}{n:Nat}{ws:List Int}(hp:0<p)(hl:ws.length=n)(hw:∀x∈ws,0<=x/\x<p):(dB ws (bq p cs ws n)).length=n/\∀x∈dB ws (bq p cs ws n),0<=x/\x<p:=by
 refine⟨by rw[pR,hl],P8 hw _ fun t ht=>?_⟩
 obtain⟨i,_,_,_,h⟩:=yq ht
 exact zl hp _ h
theorem CA(ts:List cG):SeqAt.shaped (.list (ts.map bE))=true:=by
 have h:PyData.depthAll (ts.map bE)<=1/\PyData.canLayAll0 (ts.map bE)=true:=by
  induction ts with
  |nil=>simp[PyData.depthAll,PyData.canLayAll0]
  |cons a r ih=>simp[bE,PyData.depthAll,PyData.depth,PyData.canLayAll0,PyData.canLay0,ih.2];have:=ih.1;omega
 unfold SeqAt.shaped
 simp only[PyData.canLay0,PyData.depth,h.2,Bool.true_and]
 have:=h.1
 simp
 omega
theorem yi:SeqAt.shaped (.list [])=true:=by with_unfolding_all rfl
theorem zQ(ts:List cG):(PyData.eqv (.list (ts.map bE)) (.list []) !=false)=decide (ts=[]):=by
 cases ts<;>simp[PyData.eqv,PyData.eqvAll]
end L2
set_option maxRecDepth 100000
set_option maxHeartbeats 4000000
set_option maxRecDepth 100000
set_option maxHeartbeats 4000000
namespace L2
open PySem PySem.Spec PyProof.Rows
section
variable{G:Gx}{ρ:Rh}{nb:Addr->Prop}{σ:St}{H H':Hp}{i:Nat}{c c':Cu}{E:DE}
theorem Wd.B9(W:Wd G nb ρ σ H)(e:ρ[i]?=some (.cu c))(hH:∀a o,a∉c.F->H a=some o->H' a=some o)(hv:c'.v=c.v)(hF:∀a∈c'.F,a∈c.F\/H a=none\/(nb a/\NB G.B a/\∀(j:Nat) s,ρ[j]?=some s->a∉s.adr))(hl:∀a,a∈c.F\/a∈c'.F->H' a≠none)
    (h:c'.P (G.S (fun x=>nb x\/x∈c'.F) c'.f) H'):Wd G (fun x=>nb x\/x∈c'.F) (ρ.set i (.cu c')) σ H':=by
  obtain⟨x0,e1,h1,h2,h3⟩:=W.ok i _ e
  subst h1
  have hil:i<ρ.length:=(List.getElem?_eq_some_iff.mp e).1
  obtain⟨L,hL⟩:∃L,L=c'.F.filter fun a=>(H a).isNone:=⟨_,rfl⟩
  have ha:∀a∈L,H a=none:=fun a m=>by
    rw[hL,List.mem_filter] at m
    exact Option.isNone_iff_eq_none.mp m.2
  have p9:∀a∈c'.F,nb a\/a∈L:=fun a m=>by
    rcases hF a m with z|z|z
    · exact .inl (h2 a z).1
    · exact .inr (by rw[hL];exact List.mem_filter.mpr ⟨m,Option.isNone_iff_eq_none.mpr z⟩)
    · exact .inl z.1
  have hA:∀f x,G.S (fun x=>nb x\/x∈c'.F) f x->(G.S nb f x\/x∈L):=fun f x z=>by
    rcases z with (z|z)|z|z|z
    · exact .inl (.inl z)
    · exact(p9 x z).elim (fun z=> .inl (.inl z)) .inr
    · exact .inl (.inr (.inl z))
    · exact .inl (.inr (.inr (.inl z)))
    · exact .inl (.inr (.inr (.inr z)))
  have bt:∀f,aJ (G.S (fun x=>nb x\/x∈c'.F) f) H H':=fun f a o n q=>hH a o (fun z=>n (.inl (.inl (h2 a z).1))) q
  have fD:∀{S:Addr->Prop} {d:PyData} {v:V},af S H d v->af (fun a=>S a\/a∈L) H d v:=fun{S d v} h=>g8 (P:=fun S=>af S H d v) (fun z h=>af.av z h) (fun hp h=>af.fresh hp h) ha h
  have xP:∀{S:Addr->Prop} {d:List PyData} {v:List V},ah S H d v->ah (fun a=>S a\/a∈L) H d v:=fun{S d v} h=>g8 (P:=fun S=>ah S H d v) (fun z h=>ah.av z h) (fun hp h=>ah.fresh hp h) ha h
  have sQ:∀{S:Addr->Prop} {d:List (PyData×PyData)} {v:List (Key×V)},ak S H d v->ak (fun a=>S a\/a∈L) H d v:=fun{S d v} h=>g8 (P:=fun S=>ak S H d v) (fun z h=>ak.av z h) (fun hp h=>ak.fresh hp h) ha h
  have fH:∀{S:Addr->Prop} {d:HD} {v:V},cZ S H d v->cZ (fun a=>S a\/a∈L) H d v:=fun{S d v} h=>g8 (P:=fun S=>cZ S H d v) (fun z h=>cZ.av h z) (fun hp h=>cZ.fresh h hp) ha h
  have p8:∀a∈c'.F,NB G.B a:=fun a m=>(hF a m).elim (fun z=>(h2 a z).2) fun z=>z.elim (fun z=>NB.new W.au z) fun z=>z.2.1
  have LP:gP G.B H':=fun b l eb=>by
    obtain⟨ns,i0,c0,st,n,g1,g2,g3⟩:=W.au b l eb
    have hb:b∉c.F:=fun z=>(h2 b z).2 b l eb rfl
    have lW:l∉c.F:=fun z=>by
      obtain⟨_,_,_,_,_,_,q2,_⟩:=W.gB b l eb
      rw[W.bB l (h2 l z).1 (h2 l z).2] at q2;cases q2
    exact⟨ns,i0,c0,st,n,hH _ _ hb g1,hH _ _ lW g2,g3⟩
  have other:∀(j:Nat) s,i≠j->ρ[j]?=some s->∀a∈s.adr,a∉c.F:=fun j s hij hs a m z=>W.bF i j c s hij e hs a z m
  refine⟨LP,fun a n=>?_,fun a o n q=>?_,fun a n q=>?_,W.gA,by rw[List.length_set];exact W.len,W.gB,fun h m=>((fH (W.cM h m)).av (hA h.1)).keep (bt h.1),fun j s e'=>?_,?_,?_,?_⟩
  · rcases n with n|n
    · by_cases z:a∈c.F
      · exact hl a (.inl z)
      · cases q:H a with
        |none=>exact absurd q (W.live a n)
        |some o=>rw[hH a o z q];exact Option.some_ne_none _
    · exact hl a (.inr n)
  · refine hH a o (fun z=>?_) (W.old a o n q)
    rw[W.bB a (h2 a z).1 n] at q;cases q
  · rcases n with n|n
    · exact W.bB a n q
    · rcases hF a n with z|z|z
      · exact W.bB a (h2 a z).1 q
      · cases w:G.H0 a with
        |none=>rfl
        |some o=>rw[W.old a o q w] at z;cases z
      · exact W.bB a z.1 q
  · by_cases hij:i=j
    · subst hij
      rw[List.getElem?_set_self hil] at e'
      cases e'
      exact⟨some c.v,e1,by rw[hv],fun a m=>⟨.inr m,p8 a m⟩,h⟩
    · rw[List.getElem?_set_ne hij] at e'
      obtain⟨x,e2,q⟩:=W.ok j s e'
      refine⟨x,e2,?_⟩
      have ap:=other j s hij e'
      cases s with
      |no=>trivial
      |d f d=>obtain⟨v,e,h⟩:=q;exact⟨v,e,((fD h).av (hA f)).keep (bt f)⟩
      |own a f es=>obtain⟨e,n,q,xs,hx,hd⟩:=q;exact⟨e, .inl n,q,xs,hH _ _ (ap a (List.mem_singleton.mpr rfl)) hx,((xP hd).av (hA f)).keep (bt f)⟩
      |au=>exact q
      |raw v=>exact q
      |aR a f es=>obtain⟨e,n,q,xs,hx,hd⟩:=q;exact⟨e, .inl n,q,xs,hH _ _ (ap a (List.mem_singleton.mpr rfl)) hx,((sQ hd).av (hA f)).keep (bt f)⟩
      | cu c2 =>
        obtain⟨e,n,q⟩:=q
        refine⟨e,fun a ha=>⟨.inl (n a ha).1,(n a ha).2⟩,c2.keep (.of fun x o hx e=>hH x o ?_ e) (c2.av (hA c2.f) (g8 (P:=fun S=>c2.P S H) (fun z h=>c2.av z h) (fun hp h=>c2.fresh hp h) ha q))⟩
        rcases hx with hx|hx
        · exact fun z=>hx (.inl (.inl (h2 x z).1))
        · exact ap x hx
  all_goals
    intro j k
  · intro a f as c2 g cs hjk q1 q2
    have hj:i≠j:=fun z=>by subst z;rw[List.getElem?_set_self hil] at q1;cases q1
    have hk:i≠k:=fun z=>by subst z;rw[List.getElem?_set_self hil] at q2;cases q2
    rw[List.getElem?_set_ne hj] at q1
    rw[List.getElem?_set_ne hk] at q2
    exact W.apart j k a f as c2 g cs hjk q1 q2
  · intro a f as c2 g cs hjk q1 q2
    have hj:i≠j:=fun z=>by subst z;rw[List.getElem?_set_self hil] at q1;cases q1
    have hk:i≠k:=fun z=>by subst z;rw[List.getElem?_set_self hil] at q2;cases q2
    rw[List.getElem?_set_ne hj] at q1
    rw[List.getElem?_set_ne hk] at q2
    exact W.cP j k a f as c2 g cs hjk q1 q2
  · intro c2 s hjk q1 q2 a m z
    have gJ:∀(j:Nat) s,i≠j->ρ[j]?=some s->∀a∈s.adr,a∉c'.F:=fun j s hij hs a m z=>by
      rcases hF a z with w|w|w
      · exact other j s hij hs a m w
      · obtain⟨x,_,q⟩:=W.ok j s hs
        exact W.live a (q.yR a m).1 w
      · exact w.2.2 j s hs m
    by_cases hj:i=j
    · subst hj
      rw[List.getElem?_set_self hil] at q1
      cases q1
      rw[List.getElem?_set_ne hjk] at q2
      exact gJ k s hjk q2 a z m
    · rw[List.getElem?_set_ne hj] at q1
      by_cases hk:i=k
      · subst hk
        rw[List.getElem?_set_self hil] at q2
        cases q2
        exact gJ j _ hj q1 a m z
      · rw[List.getElem?_set_ne hk] at q2
        exact W.bF j k c2 s hjk q1 q2 a m z
end
abbrev CF:=Cu->List PyData->(Cu->Pd)->Prop
end L2
set_option maxRecDepth 100000
set_option maxHeartbeats 4000000
namespace L2
open PySem PySem.Spec PyProof.Rows
inductive Fl where
 |d (d:PyData)|cu (c:Cu)
abbrev Fs:=List (Str×Fl)
end L2
set_option maxRecDepth 100000
set_option maxHeartbeats 4000000
set_option maxRecDepth 100000
set_option maxHeartbeats 4000000
set_option maxRecDepth 100000
set_option maxHeartbeats 4000000
set_option maxRecDepth 100000
set_option maxHeartbeats 4000000
set_option maxRecDepth 100000
set_option maxHeartbeats 4000000
namespace L2
open PySem PySem.Spec PyProof.Rows
inductive Oi where
 |own (b:Addr)|dat (x:PyData)
inductive OO where
 |lst (xs:List Oi)|tup (xs:List Oi)|aR (ks:List (Int×Oi))
abbrev bN:=List (Addr×OO)
def cL(S:Addr->Prop)(H:Hp):Oi->V->Prop
 | .own b,v=>v= .ref b
 | .dat x,v=>af S H x v
def dw(S:Addr->Prop)(H:Hp)(xs:List Oi)(vs:List V):Prop:=vs.length=xs.length/\∀(i:Nat) x v,xs[i]?=some x->vs[i]?=some v->cL S H x v
def NQ(ks:List (Int×Oi))(vs:List V):List (Key×V):=List.zipWith (fun k v=>(Sum.inl k.1,v)) ks vs
def kN(S:Addr->Prop)(H:Hp)(a:Addr):OO->Prop
 | .lst xs=>∃vs,H a=some (.lst vs)/\dw S H xs vs
 | .tup xs=>∃vs,H a=some (.tup vs)/\dw S H xs vs
 | .aR ks=>∃vs,H a=some (.dK (NQ ks vs))/\dw S H (ks.map (·.2)) vs
def gK(S:Addr->Prop)(H:Hp)(L:bN):Prop:=(L.map (·.1)).Nodup/\∀a o,L.lookup a=some o->kN S H a o
section
variable{S S':Addr->Prop}{H H':Hp}{x:Oi}{v:V}{xs:List Oi}{vs:List V}{a b:Addr}{o:OO}{L:bN}{F:List Addr}{p:Addr}
theorem fJ{L:bN}:∀{a:Addr} {o:OO},L.lookup a=some o->a∈L.map (·.1):=by
  induction L with
  |nil=>intro a o h;cases h
  | cons q L ih =>
    intro a o h
    rw[List.map_cons]
    by_cases c:a=q.1
    · rw[c];exact List.mem_cons_self ..
    · rw[List.lookup_cons,beq_false_of_ne c] at h
      exact List.mem_cons_of_mem _ (ih h)
theorem GB{L:bN}:∀{a:Addr},a∈L.map (·.1)->∃o,L.lookup a=some o:=by
  induction L with
  |nil=>intro a h;cases h
  | cons q L ih =>
    intro a h
    by_cases c:a=q.1
    · exact⟨q.2,by rw[c];simp[List.lookup]⟩
    · rw[List.lookup_cons,beq_false_of_ne c]
      rw[List.map_cons] at h
      exact ih ((List.mem_cons.mp h).resolve_left c)
theorem cL.kp(m:Kp S F H H')(h:cL S H x v):cL S H' x v:=by
 cases x with
 |own b=>exact h
 |dat x=>exact af.kp m h
theorem cL.av(b:∀a,S' a->S a)(h:cL S H x v):cL S' H x v:=by
 cases x with
 |own b=>exact h
 |dat x=>exact af.av b h
theorem cL.fresh(hp:H p=none)(h:cL S H x v):cL (fun a=>S a\/a=p) H x v:=by
 cases x with
 |own b=>exact h
 |dat x=>exact af.fresh hp h
theorem cL.keep(m:aJ S H H')(h:cL S H x v):cL S H' x v:=by
 cases x with
 |own b=>exact h
 |dat x=>exact af.keep m h
theorem dw.imp(h:dw S H xs vs)(q:∀x v,cL S H x v->cL S' H' x v):dw S' H' xs vs:=⟨h.1,fun i x v e1 e2=>q x v (h.2 i x v e1 e2)⟩
theorem kN.imp(h:kN S H a o)(q:∀x v,cL S H x v->cL S' H' x v)(e:∀ho,H a=some ho->H' a=some ho):kN S' H' a o:=by
 cases o with
 |lst xs=>obtain⟨vs,h1,h2⟩:=h;exact⟨vs,e _ h1,h2.imp q⟩
 |tup xs=>obtain⟨vs,h1,h2⟩:=h;exact⟨vs,e _ h1,h2.imp q⟩
 |aR ks=>obtain⟨vs,h1,h2⟩:=h;exact⟨vs,e _ h1,h2.imp q⟩
theorem kN.live(h:kN S H a o):H a≠none:=by
 cases o with
 |lst xs=>obtain⟨vs,h1,h2⟩:=h;rw[h1];exact Option.some_ne_none _
 |tup xs=>obtain⟨vs,h1,h2⟩:=h;rw[h1];exact Option.some_ne_none _
 |aR ks=>obtain⟨vs,h1,h2⟩:=h;rw[h1];exact Option.some_ne_none _
theorem gK.live(h:gK S H L):∀a∈L.map (·.1),H a≠none:=fun a m=>by
 obtain⟨o,e⟩:=GB m
 exact(h.2 a o e).live
theorem dw.at{k:Int}(h:dw S H xs vs)(e:bh xs k=some x):∃v,bh vs k=some v/\cL S H x v:=by
  unfold bh at e⊢
  rw[h.1]
  cases z:eV xs.length k with
  |none=>rw[z] at e;cases e
  | some j =>
    rw[z] at e
    have e:xs[j]?=some x:=e
    have hj:=(List.getElem?_eq_some_iff.mp e).1
    have hv:vs[j]?=some (vs[j]'(by rw[h.1];exact hj)):=List.getElem?_eq_getElem _
    exact⟨_,hv,h.2 j x _ e hv⟩
theorem dw.snoc(h:dw S H xs vs)(q:cL S H x v):dw S H (xs++[x]) (vs++[v]):=by
 refine⟨by rw[List.length_append,List.length_append,h.1];rfl,fun i y u e1 e2=>?_⟩
 by_cases c:i<xs.length
 ·rw[List.getElem?_append_left c] at e1
  rw[List.getElem?_append_left (by rw[h.1];exact c)] at e2
  exact h.2 i y u e1 e2
 ·rw[List.getElem?_append_right (by omega)] at e1
  rw[List.getElem?_append_right (by rw[h.1];omega),h.1] at e2
  cases hi:i-xs.length with
  |zero=>rw[hi] at e1 e2;simp at e1 e2;subst e1 e2;exact q
  |succ m=>rw[hi] at e1;simp at e1
theorem dw.nil:dw S H [] []:=⟨rfl,fun i x v e=>by simp at e⟩
theorem dw.cons(q:cL S H x v)(h:dw S H xs vs):dw S H (x::xs) (v::vs):=by
 refine⟨by rw[List.length_cons,List.length_cons,h.1],fun i y u e1 e2=>?_⟩
 cases i with
 |zero=>simp at e1 e2;subst e1 e2;exact q
 |succ i=>exact h.2 i y u (by simpa using e1) (by simpa using e2)
theorem dw.lG{ds:List PyData}(h:ah S H ds vs):dw S H (ds.map .dat) vs:=by
 refine⟨by rw[List.length_map,h.length],fun i x v e1 e2=>?_⟩
 rw[List.getElem?_map] at e1
 obtain⟨d,hd,rfl⟩:=Option.map_eq_some_iff.mp e1
 obtain⟨y,hy,hq⟩:=h.get hd
 rw[hy] at e2;cases e2;exact hq
theorem Bw{ds:List PyData}:∀{vs:List V},vs.length=ds.length->(∀(i:Nat) d v,ds[i]?=some d->vs[i]?=some v->af S H d v)->ah S H ds vs:=by
  induction ds with
  |nil=>intro vs h _;rw[List.length_eq_zero_iff.mp h];exact .nil
  | cons d ds ih =>
    intro vs h q
    cases vs with
    |nil=>cases h
    |cons v vs=>exact .cons (q 0 d v rfl rfl) (ih (by simpa using h) fun i d' v' e1 e2=>q (i+1) d' v' (by simpa using e1) (by simpa using e2))
end
def bX(L:bN)(b:Addr)(o:OO):bN:=L.map fun q=>if q.1=b then(b,o) else q
theorem nZ(L:bN)(b:Addr)(o:OO):(bX L b o).map (·.1)=L.map (·.1):=by
 unfold bX
 rw[List.map_map]
 apply List.map_congr_left
 intro q _
 show(if q.1=b then(b,o) else q).1=q.1
 split
 ·rename_i h;exact h.symm
 ·rfl
theorem gY{L:bN}{a b:Addr}{o:OO}(h:a≠b):(bX L b o).lookup a=L.lookup a:=by
  induction L with
  |nil=>rfl
  | cons q L ih =>
    show List.lookup a ((if q.1=b then(b,o) else q)::bX L b o)=_
    by_cases c:q.1=b
    · rw[if_pos c,List.lookup_cons,beq_false_of_ne h,ih]
      rw[List.lookup_cons,beq_false_of_ne (by rw[c];exact h)]
    · rw[if_neg c,List.lookup_cons,List.lookup_cons,ih]
theorem lR{L:bN}{b:Addr}{o:OO}(h:b∈L.map (·.1)):(bX L b o).lookup b=some o:=by
  induction L with
  |nil=>cases h
  | cons q L ih =>
    show List.lookup b ((if q.1=b then(b,o) else q)::bX L b o)=_
    by_cases c:q.1=b
    · rw[if_pos c,List.lookup_cons,beq_self_eq_true]
    · rw[if_neg c,List.lookup_cons,beq_false_of_ne (fun z=>c z.symm)]
      rw[List.map_cons] at h
      exact ih ((List.mem_cons.mp h).resolve_left fun z=>c z.symm)
theorem gK.put{S:Addr->Prop}{H:Hp}{L:bN}{b:Addr}{ho:HO}{o:OO}(h:gK S H L)(hb:b∈L.map (·.1))(hS:S b)(hk:kN S (upd H b ho) b o):gK S (upd H b ho) (bX L b o):=by
 refine⟨by rw[nZ];exact h.1,fun a o' e=>?_⟩
 by_cases c:a=b
 ·subst c
  rw[lR hb] at e
  cases e
  exact hk
 ·rw[gY c] at e
  exact(h.2 a o' e).imp (fun x v q=>q.keep (aJ.set hS)) fun ho' q=>by rw[aq c];exact q
def stC(v:V)(f:Bool)(L:bN):Cu where
 v:=v
 F:=L.map (·.1)
 f:=f
 P:=fun S H=>gK S H L
 keep:=fun k p=>⟨p.1,fun a o e=>(p.2 a o e).imp (fun x v q=>q.kp k) fun ho q=>k.own _ (fJ e) _ q⟩
 av:=fun z p=>⟨p.1,fun a o e=>(p.2 a o e).imp (fun x v q=>q.av z) fun ho q=>q⟩
 fresh:=fun hp p=>⟨p.1,fun a o e=>(p.2 a o e).imp (fun x v q=>q.fresh hp) fun ho q=>q⟩
def dz(G:Gx)(ρ:Rh)(te:TE)(Ψ:Addr->Prop):Prop:=∀nb σ H (Q:VK),Wd G nb ρ σ H->(∀b H',Ψ b->Step G.B H H'->Q (.ref b) H')->te σ H Q
section
variable{G:Gx}{ρ:Rh}{ta tb te:TE}{t:TA}{E:DE}{i j:Nat}{v:V}{f:Bool}{L:bN}{K:PySem.W.Frag}{Φ:Pd}{Ψ:Addr->Prop}{r:Addr}
theorem Wd.ic{nb:Addr->Prop}{σ:St}{H:Hp}(W:Wd G nb ρ σ H)(e:ρ[i]?=some (.cu (stC v f L))):σ[i]?=some (some v)/\(∀a∈L.map (·.1),nb a/\NB G.B a)/\gK (G.S nb f) H L:=by
 obtain⟨x,e1,h1,h2,h3⟩:=W.ok i _ e
 exact⟨by rw[e1,h1];rfl,h2,h3⟩
theorem dz.root(e:ρ[i]?=some (.cu (stC (.ref r) f L)))(h:Ψ r):dz G ρ (cQ i) Ψ:=fun nb σ H Q W z=>⟨.ref r,(W.ic e).1,z r H h (.refl W.au)⟩
theorem dz.vH(e:ρ[i]?=some (.cu (stC v f L)))(h:dz G ρ ta fun b=>Ev G ρ tb fun _ y=>∃k xs c,y= .int k/\L.lookup b=some (.lst xs)/\bh xs k=some (.own c)/\Ψ c):dz G ρ (cD (dh K) ta tb) Ψ:=fun nb σ H Q W z=>
 h nb σ H _ W fun b H1 q s1=>q nb σ H1 _ (W.step s1) fun g u H2 y ⟨k,xs,c,ey,hb,hc,p⟩ s2 hu=>by
  subst ey
  obtain⟨vs,h1,h2⟩:=(((W.step s1).step s2).ic e).2.2.2 b _ hb
  obtain⟨v',e1,e2⟩:=h2.at hc
  have e2:v'= .ref c:=e2
  subst e2
  exact⟨b,vs,k, .ref c,rfl,hu.bG,aM.of h1,e1,z c H2 p (s1.trans s2)⟩
theorem dz.lN(e:ρ[i]?=some (.cu (stC v f L)))(h:dz G ρ ta fun b=>Ev G ρ tb fun _ y=>∃k xs c,y= .int k/\L.lookup b=some (.tup xs)/\bh xs k=some (.own c)/\Ψ c):dz G ρ (cD (bY K) ta tb) Ψ:=fun nb σ H Q W z=>
 h nb σ H _ W fun b H1 q s1=>q nb σ H1 _ (W.step s1) fun g u H2 y ⟨k,xs,c,ey,hb,hc,p⟩ s2 hu=>by
  subst ey
  obtain⟨vs,h1,h2⟩:=(((W.step s1).step s2).ic e).2.2.2 b _ hb
  obtain⟨v',e1,e2⟩:=h2.at hc
  have e2:v'= .ref c:=e2
  subst e2
  exact⟨b,vs,k, .ref c,rfl,hu.bG,dP.of h1,e1,z c H2 p (s1.trans s2)⟩
theorem Ev.AN(e:ρ[i]?=some (.cu (stC v f L)))(h:dz G ρ ta fun b=>∃xs,(L.lookup b=some (.lst xs)\/L.lookup b=some (.tup xs))/\Φ true (.int (xs.length:Int))):Ev G ρ (dQ (fN K) (aQ ta bw)) Φ:=fun nb σ H Q W z=>
 h nb σ H _ W fun b H1 ⟨xs,hb,p⟩ s1=>by
  rcases hb with hb|hb
  ·obtain⟨vs,h1,h2⟩:=((W.step s1).ic e).2.2.2 b _ hb
   exact⟨b,vs,rfl, .inl (aM.of h1),by rw[h2.1];exact z true _ H1 _ p s1 (.int _)⟩
  ·obtain⟨vs,h1,h2⟩:=((W.step s1).ic e).2.2.2 b _ hb
   exact⟨b,vs,rfl, .inr (dP.of h1),by rw[h2.1];exact z true _ H1 _ p s1 (.int _)⟩
theorem gK.mono{nb:Addr->Prop}{H:Hp}{g:Bool}(h:gK (G.S nb f) H L):gK (G.S nb (f && g)) H L:=⟨h.1,fun a o e=>(h.2 a o e).imp (fun x v q=>q.av (aS (fun z=>by rw[Bool.and_eq_true] at z;exact z.1) fun _ z=>z)) fun _ q=>q⟩
theorem Sv.Ax(e:ρ[i]?=some (.cu (stC v f L)))(h:dz G ρ ta fun b=>∃xs,L.lookup b=some (.lst xs)/\xs.length<10000/\Ev G ρ te fun g d=>E.nx (ρ.set i (.cu (stC v (f && g) (bX L b (.lst (xs++[.dat d]))))))):
  Sv G ρ (mJ (jW K "list" mF ta (aQ te bw))) E:=fun nb σ H D W KK=>
 h nb σ H _ W fun b H1 ⟨xs,hb,hl,q⟩ s1=>by
  have W1:=W.step s1
  obtain⟨vs,h1,h2⟩:=(W1.ic e).2.2.2 b _ hb
  refine⟨.inl ⟨rfl,_,aM.of h1⟩,?_⟩
  refine q nb σ H1 _ W1 fun g u H2 d p s2 hu=>?_
  have W2:=W1.step s2
  obtain⟨_,hF,hk⟩:=W2.ic e
  obtain⟨vs,h1,h2⟩:=hk.2 b _ hb
  have hbm:=fJ hb
  refine⟨b,vs,u,rfl,rfl,h1,Nat.lt_of_lt_of_le (by rw[h2.1];exact hl) (by decide),KK.nx nb _ _ _ p (W2.C7 e hbm rfl (fun a ha=>by
   have ha:a∈(bX L b (.lst (xs++[.dat d]))).map (·.1):=ha
   rw[nZ] at ha;exact ha) ?_)⟩
  have hS:G.S nb (f && g) b:= .inl (hF b hbm).1
  refine hk.mono.put hbm hS ⟨_,aL,?_⟩
  refine dw.snoc ((h2.imp fun x v q=>(q.av (aS (fun z=>by rw[Bool.and_eq_true] at z;exact z.1) fun _ z=>z)).keep (aJ.set hS))) ?_
  exact(hu.av (aS (fun z=>by rw[Bool.and_eq_true] at z;exact z.2) fun _ z=>z)).keep (aJ.set hS)
theorem Sv.PY(e:ρ[i]?=some (.cu (stC v f L)))(h:dz G ρ ta fun b=>∃xs,L.lookup b=some (.lst xs)/\xs.length<10000/\∀c,c∉L.map (·.1)->E.nx (ρ.set i (.cu (stC v f ((c, .lst [])::bX L b (.lst (xs++[.own c]))))))):
  Sv G ρ (mJ (jW K "list" mF ta (aQ (jE bw) bw))) E:=fun nb σ H D W KK=>
 h nb σ H _ W fun b H1 ⟨xs,hb,hl,q⟩ s1=>by
  have W1:=W.step s1
  obtain⟨_,hF,hk⟩:=W1.ic e
  obtain⟨vs,h1,h2⟩:=hk.2 b _ hb
  have hbm:=fJ hb
  refine⟨.inl ⟨rfl,_,aM.of h1⟩,Nat.zero_le _,fun c hc=>?_⟩
  have hcb:b≠c:=fun z=>by rw[<-z,h1] at hc;cases hc
  have oZ:c∉L.map (·.1):=fun z=>hk.live c z hc
  refine⟨b,vs, .ref c,rfl,rfl,by rw[aq hcb];exact h1,Nat.lt_of_lt_of_le (by rw[h2.1];exact hl) (by decide),?_⟩
  have hkeys:((c,OO.lst [])::bX L b (.lst (xs++[.own c]))).map (·.1)=c::L.map (·.1):=by rw[List.map_cons,nZ]
  have W2:=W1.B9 (c':=stC v f ((c, .lst [])::bX L b (.lst (xs++[.own c])))) (H':=upd (upd H1 c (.lst [])) b (.lst (vs++[.ref c]))) e (fun a o ha ho=>?_) rfl (fun a ha=>?_) (fun a ha=>?_) ?_
  ·exact KK.nx _ _ _ _ (q c oZ) W2
  ·have hab:a≠b:=fun z=>ha (z▸hbm)
   have hac:a≠c:=fun z=>by rw[z,hc] at ho;cases ho
   rw[aq hab,aq hac];exact ho
  ·have ha:a∈((c,OO.lst [])::bX L b (.lst (xs++[.own c]))).map (·.1):=ha
   rw[hkeys] at ha
   rcases List.mem_cons.mp ha with z|z
   ·exact .inr (.inl (z▸hc))
   ·exact .inl z
  ·by_cases hab:a=b
   ·rw[hab,aL];exact Option.some_ne_none _
   rw[aq hab]
   by_cases hac:a=c
   ·rw[hac,aL];exact Option.some_ne_none _
   rw[aq hac]
   rcases ha with z|z
   ·exact hk.live a z
   ·have z:a∈((c,OO.lst [])::bX L b (.lst (xs++[.own c]))).map (·.1):=z
    rw[hkeys] at z
    exact hk.live a ((List.mem_cons.mp z).resolve_left hac)
  ·have bt:∀{x:Oi} {u:V},cL (G.S nb f) H1 x u->cL (G.S (fun x=>nb x\/x∈(stC v f ((c, .lst [])::bX L b (.lst (xs++[.own c])))).F) f) (upd (upd H1 c (.lst [])) b (.lst (vs++[.ref c]))) x u:=fun{x u} q=>by
    refine cL.keep (fun a o n ho=>?_) ((q.fresh hc).av fun a z=>?_)
    ·have hab:a≠b:=fun z=>n (.inl (.inl (z▸(hF b hbm).1)))
     have hac:a≠c:=fun z=>by rw[z,hc] at ho;cases ho
     rw[aq hab,aq hac];exact ho
    ·rcases z with (z|z)|z|z|z
     ·exact .inl (.inl z)
     ·have z:a∈((c,OO.lst [])::bX L b (.lst (xs++[.own c]))).map (·.1):=z
      rw[hkeys] at z
      rcases List.mem_cons.mp z with z|z
      ·exact .inr z
      ·exact .inl (.inl (hF a z).1)
     ·exact .inl (.inr (.inl z))
     ·exact .inl (.inr (.inr (.inl z)))
     ·exact .inl (.inr (.inr (.inr z)))
   refine⟨by rw[hkeys];exact List.nodup_cons.mpr ⟨oZ,hk.1⟩,fun a o eo=>?_⟩
   by_cases hac:a=c
   ·subst hac
    rw[List.lookup_cons,beq_self_eq_true] at eo
    cases eo
    exact⟨[],by rw[aq (fun z=>hcb z.symm),aL], .nil⟩
   ·rw[List.lookup_cons,beq_false_of_ne hac] at eo
    by_cases hab:a=b
    ·subst hab
     rw[lR hbm] at eo
     cases eo
     exact⟨_,aL,dw.snoc (h2.imp fun x u q=>bt q) rfl⟩
    ·rw[gY hab] at eo
     exact(hk.2 a o eo).imp (fun x u q=>bt q) fun ho q=>by rw[aq hab,aq hac];exact q
theorem Sv.Jj{s:TS}{a:Addr}{ds:List PyData}(i:Nat)(e:ρ[i]?=some (.own a f ds))(h:Sv G (ρ.set i (.cu (stC (.ref a) f [(a, .lst (ds.map .dat))]))) s E):Sv G ρ s E:=fun nb σ H D W K=>by
  obtain⟨x,e1,h1,h2,h3,xs,hx,hd⟩:=W.ok i _ e
  subst h1
  have hil:i<ρ.length:=(List.getElem?_eq_some_iff.mp e).1
  have hw:Wd G nb (ρ.set i (.cu (stC (.ref a) f [(a, .lst (ds.map .dat))]))) (σ.set i (some (.ref a))) H:=by
    refine W.set ⟨rfl,fun b hb=>?_,⟨by simp,fun b o eo=>?_⟩⟩ (fun _ _ _ z=>by cases z) (fun _ _ _ z=>by cases z) (fun b hb j t hj ht hc z=>?_)
    · have hb:b∈[a]:=hb
      rw[List.mem_singleton.mp hb];exact⟨h2,h3⟩
    · by_cases c:b=a
      · subst c
        rw[List.lookup_cons,beq_self_eq_true] at eo
        cases eo
        exact⟨xs,hx, .lG hd⟩
      · rw[List.lookup_cons,beq_false_of_ne c] at eo;cases eo
    · have hb:b∈[a]:=hb
      rw[List.mem_singleton.mp hb] at z
      rcases hc with ⟨c,hc⟩|⟨c,hc⟩
      · cases t with
        |own a' f' ds'=>exact W.apart i j a f ds a' f' ds' (Ne.symm hj) e ht (List.mem_singleton.mp z)
        | aR a' f' ds' =>
          obtain⟨x',gh,zM,h2',h3',ps',iT,_⟩:=W.ok j _ ht
          rw[<-List.mem_singleton.mp z,hx] at iT;cases iT
        |cu c2=>exact W.bF j i c2 _ hj ht e a z (List.mem_singleton.mpr rfl)
        |no=>cases z
        |d _ _=>cases z
        |au=>cases z
        |raw _=>cases z
      · subst hc
        exact W.bF j i c _ hj ht e a z (List.mem_singleton.mpr rfl)
  have:σ.set i (some (.ref a))=σ:=by
    apply List.ext_getElem?
    intro j
    by_cases hij:i=j
    · subst hij;rw[List.getElem?_set_self (by rw[W.len];exact hil),e1]
    · rw[List.getElem?_set_ne hij]
  rw[this] at hw
  exact h nb σ H D hw K
end
end L2
set_option maxRecDepth 100000
set_option maxHeartbeats 4000000
namespace L2
open PySem PySem.Spec PyProof.Rows
inductive gp(L:bN):Oi->PyData->Prop
 |dat (x:PyData):gp L (.dat x) x
 |lst {b:Addr} {xs:List Oi} {ds:List PyData} (e:L.lookup b=some (.lst xs)) (h:ds.length=xs.length) (q:∀(i:Nat) x d,xs[i]?=some x->ds[i]?=some d->gp L x d):gp L (.own b) (.list ds)
 |tup {b:Addr} {xs:List Oi} {ds:List PyData} (e:L.lookup b=some (.tup xs)) (h:ds.length=xs.length) (q:∀(i:Nat) x d,xs[i]?=some x->ds[i]?=some d->gp L x d):gp L (.own b) (.tuple ds)
theorem gp.Ab{S S':Addr->Prop}{H:Hp}{L:bN}(h:gK S H L)(hS:∀a,S' a->S a)(hn:∀a∈L.map (·.1),¬S' a){x:Oi}{d:PyData}(q:gp L x d):∀{v:V},cL S H x v->af S' H d v:=by
  induction q with
  |dat x=>intro v hv;exact af.av hS hv
  | lst e hl _ ih =>
    intro v hv
    have hv:v=_:=hv
    subst hv
    obtain⟨vs,h1,h2⟩:=h.2 _ _ e
    refine .lst (hn _ (fJ e)) h1 (Bw (by rw[h2.1,hl]) fun i d v e1 e2=>?_)
    have hi:=(List.getElem?_eq_some_iff.mp e1).1
    have hx:=List.getElem?_eq_getElem (l:=_) (i:=i) (by rw[<-hl];exact hi)
    exact ih i _ d hx e1 (h2.2 i _ v hx e2)
  | tup e hl _ ih =>
    intro v hv
    have hv:v=_:=hv
    subst hv
    obtain⟨vs,h1,h2⟩:=h.2 _ _ e
    refine .tup (hn _ (fJ e)) h1 (Bw (by rw[h2.1,hl]) fun i d v e1 e2=>?_)
    have hi:=(List.getElem?_eq_some_iff.mp e1).1
    have hx:=List.getElem?_eq_getElem (l:=_) (i:=i) (by rw[<-hl];exact hi)
    exact ih i _ d hx e1 (h2.2 i _ v hx e2)
theorem gp.lG{L:bN}{b:Addr}{ds:List PyData}(e:L.lookup b=some (.lst (ds.map .dat))):gp L (.own b) (.list ds):=by
 refine .lst e (by rw[List.length_map]) fun i x d e1 e2=>?_
 rw[List.getElem?_map,e2] at e1
 cases e1
 exact .dat d
section
variable{G:Gx}{ρ:Rh}{ta tb te:TE}{t:TA}{E:DE}{i j:Nat}{f:Bool}{L:bN}{K:PySem.W.Frag}{Φ:Pd}{r:Addr}{d:PyData}
theorem Wd.PF{nb:Addr->Prop}{σ:St}{H:Hp}(W:Wd G nb ρ σ H)(e:ρ[i]?=some (.cu (stC (.ref r) f L)))(hd:gp L (.own r) d):Wd G (fun x=>nb x/\x∉L.map (·.1)) (ρ.set i (.d f d)) σ H:=
 W.C4 e fun p hn=>hd.Ab p (aS (fun z=>z) fun _ z=>z.1) (fun a m z=>by
  obtain⟨q1,q2,q3⟩:=hn a m
  rcases z with z|z|z|z
  ·exact z.2 m
  ·exact q2 z
  ·exact z q3
  ·exact z.2 q1) rfl
theorem Tv.z9{tt:TT}{Θ:Bool->Prop}(i:Nat)(e:ρ[i]?=some (.cu (stC (.ref r) f L)))(hd:gp L (.own r) d)(h:Tv G (ρ.set i (.d f d)) tt Θ):Tv G ρ tt Θ:=fun nb σ H Q W z=>h _ σ H Q (W.PF e hd) z
theorem Sv.Nt{v:V}{a':Addr}{f':Bool}{ds':List PyData}(e:ρ[i]?=some (.cu (stC v f L)))(ej:ρ[j]?=some (.own a' f' ds'))(h:dz G ρ ta fun b=>∃xs,L.lookup b=some (.lst xs)/\xs.length<10000/\(a'∉L.map (·.1)->E.nx ((ρ.set j (.raw (.ref a'))).set i (.cu (stC v (f && f') ((a', .lst (ds'.map .dat))::bX L b (.lst (xs++[.own a'])))))))):
    Sv G ρ (mJ (jW K "list" mF ta (aQ (cQ j) bw))) E:=fun nb σ H D W KK=>
  h nb σ H _ W fun b H1 ⟨xs,hb,hl,q⟩ s1=>by
    have W1:=W.step s1
    obtain⟨_,hF,hk⟩:=W1.ic e
    obtain⟨vs,h1,h2⟩:=hk.2 b _ hb
    have hbm:=fJ hb
    obtain⟨x,e1,ex,ha1,ha2,ys,hy,sA⟩:=W1.ok j _ ej
    subst ex
    have hij:i≠j:=fun z=>by subst z;rw[e] at ej;cases ej
    have hL':a'∉L.map (·.1):=fun z=>W1.bF i j _ _ hij e ej a' z (List.mem_singleton.mpr rfl)
    have hab:b≠a':=fun z=>hL' (z▸hbm)
    refine⟨.inl ⟨rfl,_,aM.of h1⟩, .ref a',e1,?_⟩
    refine⟨b,vs, .ref a',rfl,rfl,h1,Nat.lt_of_lt_of_le (by rw[h2.1];exact hl) (by decide),?_⟩
    have hkeys:((a',OO.lst (ds'.map .dat))::bX L b (.lst (xs++[.own a']))).map (·.1)=a'::L.map (·.1):=by rw[List.map_cons,nZ]
    have W2:Wd G nb (ρ.set j (.raw (.ref a'))) (σ.set j (some (.ref a'))) H1:=W1.set (s:= .raw (.ref a')) (x:=some (.ref a')) rfl (fun _ _ _ z=>by cases z)
    have hσ:σ.set j (some (.ref a'))=σ:=by
      have hjl:j<ρ.length:=(List.getElem?_eq_some_iff.mp ej).1
      apply List.ext_getElem?
      intro k
      by_cases hjk:j=k
      · subst hjk;rw[List.getElem?_set_self (by rw[W1.len];exact hjl),e1]
      · rw[List.getElem?_set_ne hjk]
    rw[hσ] at W2
    have e':(ρ.set j (.raw (.ref a')))[i]?=some (.cu (stC v f L)):=by rw[List.getElem?_set_ne (Ne.symm hij)];exact e
    have W3:=W2.B9 (c':=stC v (f && f') ((a', .lst (ds'.map .dat))::bX L b (.lst (xs++[.own a'])))) (H':=upd H1 b (.lst (vs++[.ref a']))) e' (fun a o ha ho=>?_) rfl (fun a ha=>?_) (fun a ha=>?_) ?_
    · exact KK.nx _ _ _ _ (q hL') W3
    · have jv:a≠b:=fun z=>ha (by rw[z];exact hbm)
      rw[aq jv];exact ho
    · have ha:a∈((a',OO.lst (ds'.map .dat))::bX L b (.lst (xs++[.own a']))).map (·.1):=ha
      rw[hkeys] at ha
      rcases List.mem_cons.mp ha with z|z
      · refine .inr (.inr ⟨z▸ha1,z▸ha2,fun k s hs=>?_⟩)
        subst z
        by_cases hjk:j=k
        · subst hjk
          rw[List.getElem?_set_self (List.getElem?_eq_some_iff.mp ej).1] at hs
          cases hs
          exact fun z=>by cases z
        · rw[List.getElem?_set_ne hjk] at hs
          cases s with
          |own c g cs=>exact fun z=>W1.apart j k _ _ _ _ _ _ hjk ej hs (List.mem_singleton.mp z)
          | aR c g cs =>
            intro z
            obtain⟨_,_,_,_,_,ps,hp,_⟩:=W1.ok k _ hs
            rw[<-List.mem_singleton.mp z,hy] at hp;cases hp
          |cu c=>exact fun z=>W1.bF k j c _ (Ne.symm hjk) hs ej _ z (List.mem_singleton.mpr rfl)
          |no=>exact fun z=>by cases z
          |d _ _=>exact fun z=>by cases z
          |au=>exact fun z=>by cases z
          |raw _=>exact fun z=>by cases z
      · exact .inl z
    · by_cases jv:a=b
      · rw[jv,aL];exact Option.some_ne_none _
      rw[aq jv]
      rcases ha with z|z
      · exact hk.live a z
      · have z:a∈((a',OO.lst (ds'.map .dat))::bX L b (.lst (xs++[.own a']))).map (·.1):=z
        rw[hkeys] at z
        rcases List.mem_cons.mp z with z|z
        · rw[z,hy];exact Option.some_ne_none _
        · exact hk.live a z
    · have Uj:∀a,a∈(stC v (f && f') ((a', .lst (ds'.map .dat))::bX L b (.lst (xs++[.own a'])))).F->nb a:=fun a z=>by
        have z:a∈((a',OO.lst (ds'.map .dat))::bX L b (.lst (xs++[.own a']))).map (·.1):=z
        rw[hkeys] at z
        rcases List.mem_cons.mp z with z|z
        · exact z▸ha1
        · exact(hF a z).1
      have sub:∀(g:Bool),((f && f')=true->g=true)->∀a,G.S (fun x=>nb x\/x∈(stC v (f && f') ((a', .lst (ds'.map .dat))::bX L b (.lst (xs++[.own a'])))).F) (f && f') a->G.S nb g a:=fun g hg a z=>by
        rcases z with (z|z)|z|z|z
        · exact .inl z
        · exact .inl (Uj a z)
        · exact .inr (.inl z)
        · exact .inr (.inr (.inl z))
        · exact .inr (.inr (.inr ⟨hg z.1,z.2⟩))
      have CH:(f && f')=true->f=true:=fun z=>by rw[Bool.and_eq_true] at z;exact z.1
      have Q7:(f && f')=true->f'=true:=fun z=>by rw[Bool.and_eq_true] at z;exact z.2
      have bt:aJ (G.S (fun x=>nb x\/x∈(stC v (f && f') ((a', .lst (ds'.map .dat))::bX L b (.lst (xs++[.own a'])))).F) (f && f')) H1 (upd H1 b (.lst (vs++[.ref a']))):=aJ.set (.inl (.inl (hF b hbm).1))
      refine⟨by rw[hkeys];exact List.nodup_cons.mpr ⟨hL',hk.1⟩,fun a o eo=>?_⟩
      by_cases hac:a=a'
      · subst hac
        rw[List.lookup_cons,beq_self_eq_true] at eo
        cases eo
        exact⟨ys,by rw[aq (fun z=>hab z.symm)];exact hy,(dw.lG sA).imp fun x u q=>(q.av (sub f' Q7)).keep bt⟩
      · rw[List.lookup_cons,beq_false_of_ne hac] at eo
        by_cases jv:a=b
        · subst jv
          rw[lR hbm] at eo
          cases eo
          exact⟨_,aL,dw.snoc (h2.imp fun x u q=>(q.av (sub f CH)).keep bt) rfl⟩
        · rw[gY jv] at eo
          exact(hk.2 a o eo).imp (fun x u q=>(q.av (sub f CH)).keep bt) fun ho q=>by rw[aq jv];exact q
end
abbrev SF:=List PyData->(V->bN->Prop)->Prop
def sY(F:SF):Prop:=∀ds (Φ Ψ:V->bN->Prop),F ds Φ->(∀v L,Φ v L->Ψ v L)->F ds Ψ
def oB(H H':Hp)(L:bN):Prop:=(∀a∈L.map (·.1),H a=none)/\gK (fun a=>H a≠none\/a∈L.map (·.1)) H' L
def spS(n:Nat)(F:SF):Sp:=fun vs H Q _=>vs.length=n/\∃(nb:Addr->Prop) (ds:List PyData),iG nb H/\ah nb H ds vs/\F ds fun v L=>∀H',aO H H'->oB H H' L->Q v H'
def BF(G:Gx)(Ψ:V->bN->Prop):DE where
 nx:=fun _=>False
 rt:=fun _ _=>False
 rw:=fun _ _ v H=>∃L,Ψ v L/\oB G.H0 H L
section
variable{G:Gx}{ρ:Rh}{ta tb te:TE}{t:TA}{E:DE}{i j:Nat}{K:PySem.W.Frag}
theorem Sv.GO{n:Nat}{F:SF}(hm:sY F)(h:Av G ρ t fun es=>es.length=n/\F (es.map (·.2)) fun v L=>(L.map (·.1)).Nodup->E.nx (ρ.set i (.cu (stC v true L)))):Sv G ρ (fh (fu (spS n F) [] E0 t) (e7 i)) E:=fun nb σ H D W KK=>
 h nb σ H _ W fun es vs H1 ⟨hl,p⟩ s1 q1=>by
  have W1:=W.step s1
  show spS n F (vs++[]) H1 _ E0
  rw[List.append_nil]
  refine⟨by rw[q1.len,hl],G.S nb (fP es),es.map (·.2),W1.gu,q1.all fun z=>z,hm _ _ _ p fun v L hp H' sm ⟨hnew,hok⟩=>?_⟩
  refine KK.nx _ _ _ _ (hp hok.1) (W1.zw (i:=i) (c:=stC v true L) (.same W1.au sm) hnew hok.live ⟨hok.1,fun a o e=>(hok.2 a o e).imp (fun x u q=>q.av fun b z=>?_) fun _ q=>q⟩)
  exact z.imp (fun z=>W1.gu b z) fun z=>z
theorem Ev.IP{n:Nat}{F:SF}{Φ:Pd}(hm:sY F)(h:Av G ρ t fun es=>es.length=n/\F (es.map (·.2)) fun v L=>∃r d,v= .ref r/\gp L (.own r) d/\Φ true d):Ev G ρ (fu (spS n F) [] E0 t) Φ:=fun nb σ H Q W z=>
 h nb σ H _ W fun es vs H1 ⟨hl,p⟩ s1 q1=>by
  have W1:=W.step s1
  show spS n F (vs++[]) H1 _ E0
  rw[List.append_nil]
  refine⟨by rw[q1.len,hl],G.S nb (fP es),es.map (·.2),W1.gu,q1.all fun z=>z,hm _ _ _ p fun v L ⟨r,d,ev,hd,hp⟩ H' sm ⟨hnew,hok⟩=>?_⟩
  subst ev
  exact z true _ H' d hp (s1.trans (.same W1.au sm)) (hd.Ab hok (fun a q=> .inl (W1.gu a q)) (fun a m q=>W1.gu a q (hnew a m)) rfl)
theorem Sv.O9{N:List Str}{vs:List V}{ds:List PyData}{nb:Addr->Prop}{H:Hp}{Q:VK}{Φ:V->bN->Prop}{ts:TS}(hl:iG nb H)(hd:ah nb H ds vs)(aH:∀v L H',Φ v L->aO H H'->oB H H' L->Q v H')
  (dM:ρ=ds.map (Sl.d false)++List.replicate (N.length-ds.length) .no) (h:Sv ⟨none,H,nb,[]⟩ ρ ts (BF ⟨none,H,nb,[]⟩ Φ)):ts {nx:=fun _ H'=>Q .aE H',rt:=Q} (start N vs) H:=
 MR (P:=fun σ H1=>ts {nx:=fun _ H'=>Q .aE H',rt:=Q} σ H1) hl hd dM fun br σ H1 W=>h br σ H1 _ W
  ⟨fun _ _ _ _ q _=>q.elim,fun _ _ _ _ q _=>q.elim,fun _ _ _ _ q _=>q.elim,fun _ _ _ _ _ _ _ q _ _=>q.elim,fun UU dZ σ2 v H2 ⟨L,q,hn⟩ W2=>aH v L H2 q (fun a o e=>W2.old a o (fun _ _ z=>(by cases z)) e) hn⟩
theorem Sv.yr{Ψ:V->bN->Prop}{a0 a1:Addr}{ds:List PyData}{L:bN}(hE:E.rw=(BF G Ψ).rw)(e0:ρ[i]?=some (.own a0 true ds))(e1:ρ[j]?=some (.cu (stC (.ref a1) true L)))(h:Ev G ρ te fun g d=>g=true/\∀c,(c≠a0/\c∉L.map (·.1)/\a0∉L.map (·.1))->Ψ (.ref c) ((c, .tup [.own a0, .own a1, .dat d])::(a0, .lst (ds.map .dat))::L)):
  Sv G ρ (o4 (mP (aQ (cQ i) (aQ (cQ j) (aQ te bw))))) E:=fun nb σ H D W KK=>by
 obtain⟨x0,g0,By,hn0,zm,xs,hx,hxd⟩:=W.ok i _ e0
 subst By
 have hij:j≠i:=fun z=>by subst z;rw[e0] at e1;cases e1
 have Ef:a0∉L.map (·.1):=fun z=>W.bF j i _ _ hij e1 e0 a0 z (List.mem_singleton.mpr rfl)
 refine⟨.ref a0,g0, .ref a1,(W.ic e1).1,?_⟩
 refine h nb σ H _ W fun g u H1 d ⟨eg,p⟩ s1 hu=>?_
 subst eg
 refine⟨by show 3<=sizeLine;decide,fun c hc=>?_⟩
 have W1:=W.step s1
 obtain⟨x0,g0,By,hn0,zm,xs,hx,hxd⟩:=W1.ok i _ e0
 obtain⟨_,hF,hk⟩:=W1.ic e1
 have hca:c≠a0:=fun z=>by rw[z,hx] at hc;cases hc
 have oZ:c∉L.map (·.1):=fun z=>hk.live c z hc
 have vL:aO H1 (upd H1 c (.tup [.ref a0, .ref a1,u])):=cz hc
 have W2:=W1.step (Step.same W1.au vL)
 suffices hh:oB G.H0 (upd H1 c (.tup [.ref a0, .ref a1,u])) ((c, .tup [.own a0, .own a1, .dat d])::(a0, .lst (ds.map .dat))::L) from KK.rw nb ρ σ _ _ (by rw[hE];exact⟨_,p c ⟨hca,oZ,Ef⟩,hh⟩) W2
 have hkeys:((c,OO.tup [.own a0, .own a1, .dat d])::(a0, .lst (ds.map .dat))::L).map (·.1)=c::a0::L.map (·.1):=rfl
 have hN:∀b,b=c\/b=a0\/b∈L.map (·.1)->G.H0 b=none:=fun b z=>by
  rcases z with z|z|z
  ·subst z
   cases q:G.H0 b with
   |none=>rfl
   |some o=>rw[W1.old b o (NB.new W1.au hc) q] at hc;cases hc
  ·subst z;exact W1.bB b hn0 zm
  ·exact W1.bB b (hF b z).1 (hF b z).2
 have sub:∀b,(G.H0 b≠none\/b∈c::a0::L.map (·.1))->(G.S nb true b\/b=c):=fun b z=>by
  rcases z with z|z
  ·exact .inl (.inr (.inr (.inr ⟨rfl,z⟩)))
  ·rcases List.mem_cons.mp z with z|z
   ·exact .inr z
   ·rcases List.mem_cons.mp z with z|z
    ·exact .inl (.inl (z▸hn0))
    ·exact .inl (.inl (hF b z).1)
 have up:∀{x:Oi} {y:V},cL (G.S nb true) H1 x y->cL (fun b=>G.H0 b≠none\/b∈c::a0::L.map (·.1)) (upd H1 c (.tup [.ref a0, .ref a1,u])) x y:=fun{x y} q=>((q.fresh hc).av sub).keep (aJ.of vL)
 refine⟨fun b z=>hN b (by rw[hkeys] at z;rcases List.mem_cons.mp z with z|z;exact .inl z;exact .inr (List.mem_cons.mp z)),?_,fun b o eo=>?_⟩
 ·rw[hkeys]
  refine List.nodup_cons.mpr ⟨fun z=>?_,List.nodup_cons.mpr ⟨Ef,hk.1⟩⟩
  rcases List.mem_cons.mp z with z|z
  ·exact hca z
  ·exact oZ z
 rw[hkeys]
 by_cases h1:b=c
 ·subst h1
  rw[List.lookup_cons,beq_self_eq_true] at eo
  cases eo
  exact⟨_,aL, .cons rfl (.cons rfl (.cons (up (x:= .dat d) hu) .nil))⟩
 ·rw[List.lookup_cons,beq_false_of_ne h1] at eo
  by_cases h2:b=a0
  ·subst h2
   rw[List.lookup_cons,beq_self_eq_true] at eo
   cases eo
   exact⟨xs,by rw[aq h1];exact hx,(dw.lG hxd).imp fun x y q=>up q⟩
  ·rw[List.lookup_cons,beq_false_of_ne h2] at eo
   exact(hk.2 b o eo).imp (fun x y q=>up q) fun ho q=>by rw[aq h1];exact q
end
end L2
set_option maxRecDepth 100000
set_option maxHeartbeats 8000000
namespace K53
open PySem L2
def top(i:Nat):Stmt:=PySem.Challenge.pw_fewchecks_k53_rounds_of_votes.main.body.getD i (.Pass ⟨0,0,0,0⟩)
abbrev lQ:Stmt:=top 1
abbrev lU:Stmt:=top 2
abbrev kY:Stmt:=top 4
abbrev lM:Stmt:=top 5
abbrev kq:Stmt:=top 7
abbrev m9:Stmt:=top 8
abbrev ny:Stmt:=top 9
abbrev nD:Stmt:=top 10
abbrev lK:Stmt:=top 11
abbrev lV:Stmt:=top 12
abbrev ki:Stmt:=top 13
abbrev kj:Stmt:=top 15
abbrev lD:Stmt:=top 16
abbrev mz:Stmt:=top 17
abbrev kW:Stmt:=top 18
abbrev mV:Stmt:=top 19
abbrev jr:Stmt:=top 20
abbrev mC:Stmt:=top 21
abbrev kZ:Stmt:=top 22
abbrev jw:Stmt:=top 23
abbrev jP:Stmt:=top 24
abbrev jy:Stmt:=top 25
abbrev lZ:Stmt:=top 26
abbrev jA:Stmt:=top 27
abbrev kK:Stmt:=top 28
abbrev j4:Stmt:=top 29
abbrev j6:Stmt:=top 30
abbrev kQ:Stmt:=top 31
abbrev iE:Stmt:=top 32
local macro_rules| `(tactic|walk_at "d0")=> `(tactic|first|omega|assumption|decide|(unfold Sm at*;omega)|(unfold rE;omega)|(unfold yz;decide)|(unfold yz;omega))
local macro_rules| `(tactic|walk_at "ds")=> `(tactic|((try dsimp only);first|walk_at "d0" |(refine And.intro ?_ ?_<;>walk_at "d0")|(refine Or.inl ?_;walk_at "d0")|(refine Or.inr (And.intro ?_ ?_)<;>walk_at "d0")))
local macro_rules| `(tactic|walk_at "s1")=> `(tactic|with_reducible first
 |refine R.seq ?_|refine R.asg ?_|refine R.ia ?_|refine R.ret ?_|refine R.next ?_|refine R.c ?_|refine R.op ?_|refine R.test ?_|refine R.bl ?_
 |refine R.and ?_|refine R.cb ?_|refine R.call ?_|refine R.nil ?_|refine R.cons ?_
 |refine R.lst ?_|refine R.sl ?_|refine R.Rf ?_|refine R.part ?_|refine R.Ma ?_|refine R.Ie ?_|refine R.zj ?_|refine R.IA ?_|refine R.J6 ?_|refine R.Iu ?_|refine R.ow ?_
 |refine R.fK ?_|refine R.Je ?_|refine R.NZ ?_|refine R.za ?_|refine R.zI ?_|refine R.bits ?_
 |refine qx ?_|refine Br ?_|refine R.Pg ?_|refine R.NU ?_|refine R.iL ?_|refine R.Oc ?_|refine R.comp ?_)
local macro_rules| `(tactic|walk_at "st")=> `(tactic|repeat (first
 |walk_at "s1"
 |((with_reducible refine' R.var ?h0 ?_);(case h0=>rfl))
 |((with_reducible refine' R.rI ?h1 ?_);(case h1=>walk_at "ds"))
 |((with_reducible refine' R.vK (o:= .lst []) ?h1 ?_);(case h1=>rfl))
 |((with_reducible refine' R.pZ ?h0 ?h1 ?_);(case h0=>assumption);(case h1=>rfl))
 |((with_reducible refine' R.Ho ?h1 ?_);(case h1=>rfl))
 |((with_reducible refine' R.setM ?h0 ?h1 ?_);(case h0=>assumption);(case h1=>rfl))
 |((with_reducible refine' R.Lz ?h0 ?_);(case h0=>assumption))
 |((with_reducible refine' R.SM ?h0 ?h1 ?_);(case h0=>walk_at "ds");(case h1=>walk_at "ds"))
 |((with_reducible refine' R.Ll ?h0 ?_);(case h0=>walk_at "ds"))
 |((with_reducible refine' R.pN ?h0 ?_);(case h0=>assumption))
 |((with_reducible refine' R.An ?h0 ?_);(case h0=>first|exact R.dT (by omega)|exact R.Bt (by omega)|decide))
 |((with_reducible refine' R.Dl ?h0 ?_);(case h0=>first|exact R.dF (by omega)|exact R.Bp (by omega)|decide))
 |(with_reducible refine R.OZ ?_)|(with_reducible refine R.O1 ?_)))
local macro_rules| `(tactic|walk_at "fv")=> `(tactic|first|exact Or.inl rfl|exact Or.inr (Or.inl rfl)|exact Or.inr (Or.inr (Or.inl rfl))|exact Or.inr (Or.inr (Or.inr (Or.inl rfl)))|exact Or.inr (Or.inr (Or.inr (Or.inr rfl))))
local macro_rules| `(tactic|walk_at "d1")=> `(tactic|with_reducible first
 |refine Sv.seq ?_|refine Sv.SI ?_|refine Sv.asg ?_|refine Sv.EO ?_|refine Sv.ia ?_|refine Sv.ret ?_|refine Sv.next ?_
 |refine Ev.int ?_|refine Ev.bl ?_|refine Ev.aE ?_|refine Ev.fK ?_|refine Ev.Di ?_|refine Ev.rI ?_|refine Ev.rU ?_|refine Ev.eq ?_|refine Ev.ne ?_|refine Ev.is ?_|refine Ev.Pu ?_|refine Ev.Gm ?_|refine Ev.zU ?_|refine Ev.str ?_|refine Ev.Rz ?_
 |refine Ev.M0 ?_|refine Ev.Uu ?_|refine Tv.test ?_|refine Tv.and ?_|refine Tv.or ?_|refine Tv.not ?_|refine Tv.ow ?_|refine Tv.Hz ?_
 |refine Ev.Ka ?_|refine Ev.lst ?_|refine Av.nil ?_|refine Av.cons ?_|refine Av.GJ ?_|refine Ov.none ?_|refine Ov.some ?_|refine Ev.min2 ?_|refine Ev.OI ?_
 |refine R.di ?_|refine R.db ?_|refine R.dl ?_|refine R.dt ?_|refine R.QK ?_|refine R.NG ?_|refine R.P5 ?_|refine R.GX ?_
 |refine Gv.jg ?_|refine Gv.FO ?_|refine Gv.NV ?_|refine Gv.zC ?_|refine Gv.Rp ?_|refine Gv.JK ?_|refine qx ?_|refine Br ?_)
local macro_rules| `(tactic|walk_at "dt")=> `(tactic|repeat (first
 |((with_reducible refine' Sv.yC ?h0 ?_);(case h0=>rfl))
 |((with_reducible refine' Sv.Ep ?h0 ?_);(case h0=>rfl))
 |walk_at "d1"
 |((with_reducible refine' Ev.var ?h0 ?_);(case h0=>rfl))
 |((with_reducible refine' Ev.draw ?h0 ?_);(case h0=>rfl))
 |((with_reducible refine' Sv.append ?h0 ?_);(case h0=>rfl))
 |((with_reducible refine' Sv.Ep ?h0 ?_);(case h0=>rfl))
 |((with_reducible refine' Sv.yC ?h0 ?_);(case h0=>rfl))
 |((with_reducible refine' Gv.tup ?h0 ?_);(case h0=>rfl))
 |((with_reducible refine' R.at_ ?h0 ?_);(case h0=>first|rfl|assumption))
 |(with_reducible refine Ev.vH ?_)|(with_reducible refine Ev.lN ?_)|(with_reducible refine Ev.listOf ?_)|(with_reducible refine Ev.sl ?_)|(with_reducible refine Ev.cat ?_)|(with_reducible refine Ev.Lr ?_)
 |((with_reducible refine' Ev.OV ?h0 ?_);(case h0=>walk_at "fv"))
 |((with_reducible refine' Ev.SG ?h0 ?h1 ?_);(case h0=>walk_at "fv");(case h1=>walk_at "fv"))
 |(with_reducible refine Ev.all ?_)|(with_reducible refine Ev.sum ?_)|(with_reducible refine Ev.vK ?_)
 |((with_reducible refine' R.Ra ?_))
 |((with_reducible refine' R.An ?h0 ?_);(case h0=>first|exact R.dT (by omega)|exact R.Bt (by omega)|rfl))
 |((with_reducible refine' R.Dl ?h0 ?_);(case h0=>first|exact R.dF (by omega)|exact R.Bp (by omega)|exact Bool.false_ne_true))
 |((with_reducible refine' R.Ub ?h0 ?_);(case h0=>first|walk_at "ds" |exact Nat.le_of_ble_eq_true rfl))))
local macro_rules| `(tactic|walk_at "wk")=> `(tactic|repeat (first|exact Wk.nil|apply Wk.no|apply Wk.eq))
section
variable{P:Program}{w:World}{K:PySem.W.Frag}{mg:Str->Option Value}{base:Heap}{f:Addr}{fd:FuncData}
theorem gV:bU ["p","b","last_rest","last_times","rest","times","quotient","next_rest","next_times"] ["p","b"] (az lQ):=⟨rfl,rfl,rfl,by decide+kernel,rfl,by decide+kernel,by decide+kernel⟩
theorem ML(F:bJ K "inverse" "inverse" lQ f fd):
  bz P w K mg base bH 1 f fd ["p","b"] xD:=by
 refine F.ok gV (fun vs H Q E h=>?_) (fun cdv A outer s H vs Q E hr h=>?_)
 ·obtain⟨p,b,rfl,hp,hp3,hb,q⟩:=h
  rfl
 obtain⟨p,b,rfl,hp,hp3,hb,q⟩:=h
 refine⟨_,(@ao _ _ _ _ _ (@aF _ _ (2) _ _ _ _ gV.nd rfl (Or.inl rfl) (pv 0) (by rfl) (by first|exact .inl rfl|exact .inr rfl|assumption)) (@ao _ _ _ _ _ (@aF _ _ (3) _ _ _ _ gV.nd rfl (Or.inl rfl) aj (by rfl) (by first|exact .inl rfl|exact .inr rfl|assumption)) (@ao _ _ _ _ _ (@aF _ _ (4) _ _ _ _ gV.nd rfl (Or.inl rfl) (@aD _ _ _ _ _ _ _ _ gk (pv 1) (pv 0)) (by rfl) (by first|exact .inl rfl|exact .inr rfl|assumption)) (@ao _ _ _ _ _ (@aF _ _ (5) _ _ _ _ gV.nd rfl (Or.inl rfl) aj (by rfl) (by first|exact .inl rfl|exact .inr rfl|assumption)) (@ao _ _ _ _ _ (@tU _ _ _ _ _ _ PassesOwn.never (@aU _ _ _ _ _ _ _ _ gF (pv 4) aj (aP _)) (@ao _ _ _ _ _ (@aF _ _ (6) _ _ _ _ gV.nd rfl (Or.inl rfl) (@aD _ _ _ _ _ _ _ _ jh (pv 2) (pv 4)) (by rfl) (by first|exact .inl rfl|exact .inr rfl|assumption)) (@ao _ _ _ _ _ (@aF _ _ (7) _ _ _ _ gV.nd rfl (Or.inl rfl) (@aD _ _ _ _ _ _ _ _ iP (pv 2) (@aD _ _ _ _ _ _ _ _ fQ (pv 6) (pv 4))) (by rfl) (by first|exact .inl rfl|exact .inr rfl|assumption)) (@ao _ _ _ _ _ (@aF _ _ (8) _ _ _ _ gV.nd rfl (Or.inl rfl) (@aD _ _ _ _ _ _ _ _ iP (pv 3) (@aD _ _ _ _ _ _ _ _ fQ (pv 6) (pv 5))) (by rfl) (by first|exact .inl rfl|exact .inr rfl|assumption)) (@ao _ _ _ _ _ (@aF _ _ (2) _ _ _ _ gV.nd rfl (Or.inl rfl) (pv 4) (by rfl) (by first|exact .inl rfl|exact .inr rfl|assumption)) (@ao _ _ _ _ _ (@aF _ _ (3) _ _ _ _ gV.nd rfl (Or.inl rfl) (pv 5) (by rfl) (by first|exact .inl rfl|exact .inr rfl|assumption)) (@ao _ _ _ _ _ (@aF _ _ (4) _ _ _ _ gV.nd rfl (Or.inl rfl) (pv 7) (by rfl) (by first|exact .inl rfl|exact .inr rfl|assumption)) (@aB _ _ _ (@aF _ _ (5) _ _ _ _ gV.nd rfl (Or.inl rfl) (pv 8) (by rfl) (by first|exact .inl rfl|exact .inr rfl|assumption)))))))))) (@aB _ _ _ (@aT _ _ _ _ (@aD _ _ _ _ _ _ _ _ gk (pv 3) (pv 0))))))))),?_⟩
 have hp2:=hp.1
 walk_at "st"
 refine UJ (fun σ H1=>H1=H/\∃(L lt r t:Int) (x6 x7 x8:Option V),σ=[some (.int p),some (.int b),some (.int L),some (.int lt),some (.int r),some (.int t),x6,x7,x8]/\Eu p b L lt r t) (fun(σ:St) (_:Hp)=>match σ[4]? with|some (some (V.int r))=>r.toNat|_=>0) ⟨rfl,_,_,_,_,_,_,_,rfl,Eu.start hp2⟩ ?_ ?_
 ·rintro σ H1 ⟨rfl,L,lt,r,t,x6,x7,x8,rfl,E⟩
  obtain⟨t1,t2⟩:=E.tb
  have e1:=E.l0
  have e2:=E.r0
  have e3:=E.lp
  have e4:=E.rp
  walk_at "st"
  refine mq (fun c=>?_) (fun c=>?_)
  ·have c:r≠0:=of_decide_eq_true c
   have hr:0<r:=by omega
   have q1:0<=L/r:=Int.ediv_nonneg (by omega) (by omega)
   have q2:L/r<=L:=Int.ediv_le_self _ (by omega)
   obtain⟨N1,N2⟩:=E.next hr
   walk_at "st"
   refine⟨⟨rfl,_,_,_,_,_,_,_,rfl,N1⟩,?_⟩
   show(L-L/r*r).toNat<r.toNat
   omega
  ·have c:r=0:=by simpa using c
   subst c
   walk_at "st"
   exact q _ (Int.emod_nonneg _ (by omega)) (Int.emod_lt_of_pos _ (by omega)) (E.fin hp hb)
 ·exact fun σ H Q Q' h ⟨v,e,s,k,ek,z⟩=>⟨v,e,s,k,ek,h _ _ z⟩
theorem oX:bU ["p","pairs","word","reached","place","factor"] ["p","pairs","word"] (az lU):=⟨rfl,rfl,rfl,by decide+kernel,rfl,by decide+kernel,by decide+kernel⟩
theorem Jw(F:bJ K "total" "total" lU f fd):
    bz P w K mg base bH 1 f fd ["p","pairs","word"] ym:=by
  refine F.ok oX (fun vs H Q E h=>?_) (fun cdv A outer s H vs Q E hr h=>?_)
  · obtain⟨nb,p,va,vc,prs,wd,rfl,hA,hC,hp,h1,h2,q⟩:=h
    rfl
  obtain⟨nb,p,va,vc,prs,wd,rfl,hA,hC,hp,h1,h2,q⟩:=h
  refine⟨_,(@ao _ _ _ _ _ (@aF _ _ (3) _ _ _ _ oX.nd rfl (Or.inl rfl) aj (by rfl) (by first|exact .inl rfl|exact .inr rfl|assumption)) (@ao _ _ _ _ _ (@dY _ _ _ _ _ _ _ _ PassesOwn.never rfl (@dH _ _ _ _ (pv 1)) (z7 rfl (@aW _ _ _ _ _ (aG (i:=4) oX.nd rfl (Or.inl rfl)) (@aW _ _ _ _ _ (aG (i:=5) oX.nd rfl (Or.inl rfl)) eB (by rfl)) (by rfl))) (@aB _ _ _ (@cH _ _ _ _ _ _ _ _ (@aU _ _ _ _ _ _ _ _ tM (@aI _ _ _ _ _ _ _ bM (pv 2) (pv 4) (fun _ _=>rfl)) mU (aP _)) (@aB _ _ _ (@aF _ _ (3) _ _ _ _ oX.nd rfl (Or.inl rfl) (@aD _ _ _ _ _ _ _ _ gk (@aD _ _ _ _ _ _ _ _ dJ (pv 3) (@aD _ _ _ _ _ _ _ _ fQ (pv 5) (@aI _ _ _ _ _ _ _ bM (pv 2) (pv 4) (fun _ _=>rfl)))) (pv 0)) (by rfl) (by first|exact .inl rfl|exact .inr rfl|assumption))) cI)) (by intro _;rfl)) (@aB _ _ _ (@aT _ _ _ _ (pv 3))))),?_⟩
  obtain⟨a,xs,rfl,na,ha,da⟩:=hA.cU
  obtain⟨c,ws,rfl,nc,hc,dc⟩:=hC.cU
  have oH:=da.length
  rw[List.length_map] at oH
  have ew:=Df dc
  subst ew
  walk_at "st"
  refine R.pN (aM.of ha) ?_
  refine zJ (xs:=xs) (fun i σ H1=>H1=H/\∃(r:Int) (x y:Option V),σ=[some (.int p),some (.ref a),some (.ref c),some (.int r),x,y]/\r=aZ (prs.take i) wd%p) ⟨rfl,0,none,none,rfl,by simp[aZ]⟩ ?_ ?_ ?_
  · rintro i σ H1 hi ⟨rfl,_⟩
    exact aM.of ha
  · rintro i x σ H1 hx ⟨rfl,r,y,z,rfl,hr⟩
    have hi:i<prs.length:=by have:=(List.getElem?_eq_some_iff.mp hx).1;omega
    obtain⟨x',hx',dx⟩:=da.get (i:=i) (by rw[List.getElem?_map,List.getElem?_eq_getElem hi];rfl)
    rw[hx] at hx';cases hx'
    obtain⟨t,rfl,nt,ht⟩:=GG dx
    obtain⟨g1,g2,g3⟩:=h1 _ (List.getElem_mem hi)
    have hk:prs[i].fst.toNat<wd.length:=by omega
    have hat:bh (wd.map pX) prs[i].fst=some (pX wd[prs[i].fst.toNat]):=iz g1 (by rw[List.getElem?_map,List.getElem?_eq_getElem hk];rfl)
    have nX:eG wd prs[i]=match wd[prs[i].fst.toNat] with|some x=>prs[i].snd*x|none=>0:=by
      unfold eG
      rw[List.getElem?_eq_getElem hk]
      cases wd[prs[i].fst.toNat]<;>rfl
    have hs2:∀x,wd[prs[i].fst.toNat]=some x->Sm x:=fun x e=>h2 x (by rw[<-e];exact List.getElem_mem hk)
    have hd:=zL (wd:=wd) hi
    refine R.R3 (dP.of ht) rfl ?_
    walk_at "st"
    refine R.pZ hc hat ?_
    walk_at "st"
    generalize wd[prs[i].fst.toNat]=o at hat nX hs2⊢
    cases o with
    | none =>
      refine R.zI ?_
      walk_at "st"
      refine⟨rfl,_,_,_,rfl,?_⟩
      rw[hd,nX,hr,Int.add_zero]
    | some x =>
      have S9:=hs2 x rfl
      refine R.za ?_
      walk_at "st"
      refine R.pZ hc hat ?_
      refine R.rI (Or.inr ⟨g3,S9⟩) ?_
      walk_at "st"
      refine⟨rfl,_,_,_,rfl,?_⟩
      rw[hd,nX,hr,Int.emod_add_emod]
  · rintro σ H1 ⟨rfl,r,x,y,rfl,hr⟩
    walk_at "st"
    rw[oH,List.take_length] at hr
    rw[hr]
    exact q
def qV:DF:=fun ds Φ=>∃(p:Int) (prs:aA) (wd:Wo),ds=[.int p,dS prs,ji wd]/\0<p/\lJ prs wd.length/\kJ wd/\Φ true (eZ (kc p prs wd))
theorem SJ:cS qV:=by
 intro ds Φ Ψ hm z
 obtain⟨p,prs,wd,e,h1,h2,h3,q⟩:=hm
 exact⟨p,prs,wd,e,h1,h2,h3,z _ _ q⟩
theorem xr:bU ["p","pairs","word","place","factor"] ["p","pairs","word"] (az lM):=⟨rfl,rfl,rfl,by decide+kernel,rfl,by decide+kernel,by decide+kernel⟩
theorem Sg(F:bJ K "sum_of" "sum_of" lM f fd)(Jd:Callee P w K mg base "total" 1 ["p","pairs","word"] ym):
    bz P w K mg base bH 2 f fd ["p","pairs","word"] (bA 3 qV):=by
  refine F.ok xr (fun vs H Q E h=>h.1) (fun cdv A outer s H vs Q E hr h=>?_)
  obtain⟨_,nb,ds,hlive,hds,hF⟩:=h
  obtain⟨Φ,aH,hF⟩:∃Φ:Pd,(∀f d v H',Φ f d->aO H H'->af (fun a=>nb a\/(f=true/\H a≠none)) H' d v->Q v H')/\qV ds Φ:=⟨_,fun f d v H' q=>q v H',hF⟩
  obtain⟨p,prs,wd,rfl,hp,h1,h2,q⟩:=hF
  refine⟨_,(@ao _ _ _ _ _ (@dY _ _ _ _ _ _ _ _ PassesOwn.never rfl (@dH _ _ _ _ (pv 1)) (@eU _ (K) _ _ _ (2) _ rfl rfl (@aW _ _ _ _ _ (aG (i:=3) xr.nd rfl (Or.inl rfl)) (@aW _ _ _ _ _ (aG (i:=4) xr.nd rfl (Or.inl rfl)) eB (by rfl)) (by rfl)) (by rfl) (by rfl)) (@aB _ _ _ (@cH _ _ _ _ _ _ _ _ (@aU _ _ _ _ _ _ _ _ Jv (@aI _ _ _ _ _ _ (dh K) bM (pv 2) (pv 3) (fun _ _=>rfl)) mU (aP _)) (@aB _ _ _ (@aT _ _ _ _ mU)) cI)) (by intro _;rfl)) (@aB _ _ _ (@aT _ _ _ _ (@aN _ _ _ _ _ _ _ _ _ _ Jd (hr.mono (by decide)) (@aa _ _ _ _ _ (pv 0) (@aa _ _ _ _ _ (pv 1) (@aa _ _ _ _ _ (pv 2) ai rfl) rfl) rfl) (by rfl) (by decide) (by rfl) (by rfl))))),?_⟩
  refine Sv.fE hlive hds aH (ρ:=[.d false _, .d false _, .d false _, .no, .no]) rfl ?_
  clear aH hds
  walk_at "dt"
  refine Sv.forL (Ev.var rfl ⟨_,rfl,fun v=>?_⟩)
  refine⟨fun i ρ=>(∃x y,ρ=[.d false (.int p), .d false (dS prs), .d false (ji wd),x,y])/\∀pr∈prs.take i,wd[pr.1.toNat]?≠some none,⟨⟨_,_,rfl⟩,by simp⟩,?_,?_⟩
  · rintro i d ρ hd ⟨⟨x,y,rfl⟩,hI⟩
    obtain⟨pr,bC,rfl⟩:=dU hd
    obtain⟨g1,g2,g3⟩:=h1 pr (List.mem_of_getElem? bC)
    obtain⟨o,ho,hat⟩:=yX (xs:=wd) eZ g1 g2 rfl
    walk_at "dt"
    rw[Dk]
    cases o with
    | none =>
      walk_at "dt"
      have e:kc p prs wd=none:=if_pos ⟨pr,List.mem_of_getElem? bC,ho⟩
      rw[e] at q
      exact q
    | some z =>
      walk_at "dt"
      refine⟨⟨_,_,rfl⟩,fun Ko h'=>?_⟩
      rw[take_snoc bC] at h'
      rcases List.mem_append.mp h' with h'|h'
      · exact hI Ko h'
      · rw[List.mem_singleton.mp h',ho];exact fun z=>by cases z
  · rintro ρ ⟨⟨x,y,rfl⟩,hI⟩
    walk_at "dt"
    refine Ev.total ?_
    walk_at "dt"
    refine⟨p,prs,wd,rfl,hp,h1,h2,?_⟩
    have e:kc p prs wd=some (aZ prs wd%p):=if_neg fun⟨pr,h,e⟩=>hI pr (by rw[List.length_map,List.take_length];exact h) e
    rw[e] at q
    exact q
def qW:DF:=fun ds Φ=>∃(p n:Int) (cs:List aA) (wd:Wo),ds=[bK p n cs,ji wd]/\0<p/\cs.length<=10000/\(∀prs∈cs,lJ prs wd.length)/\kJ wd/\Φ true (.list (cs.map fun prs=>eZ (kc p prs wd)))
theorem QF:cS qW:=by
 intro ds Φ Ψ hm z
 obtain⟨p,n,cs,wd,e,h1,h2,h3,h4,q⟩:=hm
 exact⟨p,n,cs,wd,e,h1,h2,h3,h4,z _ _ q⟩
theorem Ke:bU ["net","word"] ["net","word"] (az kY):=⟨rfl,rfl,rfl,by decide+kernel,rfl,by decide+kernel,by decide+kernel⟩
theorem IZ(F:bJ K "sums" "sums" kY f fd)(IB:Callee P w K mg base "sum_of" 2 ["p","pairs","word"] (bA 3 qV)):
  bz P w K mg base bH 3 f fd ["net","word"] (bA 2 qW):=by
 refine F.ok Ke (fun vs H Q E h=>h.1) (fun cdv A outer s H vs Q E hr h=>?_)
 obtain⟨_,nb,ds,hlive,hds,hF⟩:=h
 obtain⟨Φ,aH,hF⟩:∃Φ:Pd,(∀f d v H',Φ f d->aO H H'->af (fun a=>nb a\/(f=true/\H a≠none)) H' d v->Q v H')/\qW ds Φ:=⟨_,fun f d v H' q=>q v H',hF⟩
 obtain⟨p,n,cs,wd,rfl,hp,hl,h1,h2,q⟩:=hF
 refine⟨_,(@aB _ _ _ (@aT _ _ _ _ (d9 (cN.of (show dj (az kY) ["net","word"] _ ["pairs","net","word"] [none,some 0,some 1]=true by decide+kernel)) (@dH _ _ _ _ (@aI _ _ _ _ _ _ (bY K) cF (pv 0) aj (fun _ _=>rfl))) (fun _ _ _ _=>⟨(aG (i:=0) (by show List.Nodup (["pairs","net","word"]:List Str);decide+kernel) rfl (Or.inl rfl)),gm,(@aN _ _ _ _ _ _ _ _ _ _ IB (hr.mono (by decide)) (@aa _ _ _ _ _ (@aI _ _ _ _ _ _ (bY K) cF (pv 1) aj (fun _ _=>rfl)) (@aa _ _ _ _ _ (pv 0) (@aa _ _ _ _ _ (pv 2) ai rfl) rfl) rfl) (by rfl) (by decide) (by rfl) (by rfl))⟩)))),?_⟩
 refine Sv.fE hlive hds aH (ρ:=[.d false _, .d false _]) rfl ?_
 clear aH hds
 walk_at "dt"
 refine ay.ev (ay.iA (by decide) rfl ?_)
 walk_at "dt"
 refine⟨by rw[List.length_map];exact hl,fun v=>⟨true,fun i ds=>ds=(cs.take i).map fun prs=>eZ (kc p prs wd),rfl,?_,?_⟩⟩
 ·rintro i d ds hd hl' rfl
  obtain⟨prs,cy,rfl⟩:=dU hd
  walk_at "dt"
  refine⟨by walk_at "wk",?_⟩
  walk_at "dt"
  refine Ev.dD SJ ?_
  walk_at "dt"
  refine⟨rfl,p,prs,wd,rfl,hp,h1 prs (List.mem_of_getElem? cy),h2,fun _=>rfl,?_⟩
  show _=List.map _ _
  rw[take_snoc cy,List.map_append]
  rfl
 ·rintro ds hl' rfl
  rw[List.length_map,List.take_length]
  exact q
def qC:DF:=fun ds Φ=>∃(p n:Int) (cs:List aA) (cA:List Int),ds=[bK p n cs, .list (cA.map .int)]/\ir p n cs/\cA.Nodup/\cA.length<=1000/\
 ∀f,Φ f (.dict ((cA.map fun pl=>(pl,PyData.list ((cY p cs pl cs.length).map pairD))).map bS))
theorem NL:cS qC:=by
 intro ds Φ Ψ hm z
 obtain⟨p,n,cs,cA,e,h1,h2,h3,q⟩:=hm
 exact⟨p,n,cs,cA,e,h1,h2,h3,fun f=>z _ _ (q f)⟩
theorem mX:bU ["net","places","found","c","pairs","place","factor"] ["net","places"] (az kq):=⟨rfl,rfl,rfl,by decide+kernel,rfl,by decide+kernel,by decide+kernel⟩
theorem Pa(F:bJ K "voices" "voices" kq f fd)(Iz:Callee P w K mg base "inverse" 1 ["p","b"] xD)(ud:mg "dict"=none)(m5:mg "enumerate"=none):
  bz P w K mg base bH 2 f fd ["net","places"] (bA 2 qC):=by
 refine F.ok mX (fun vs H Q E h=>h.1) (fun cdv A outer s H vs Q E hr h=>?_)
 obtain⟨_,nb,ds,hlive,hds,hF⟩:=h
 obtain⟨Φ,aH,hF⟩:∃Φ:Pd,(∀f d v H',Φ f d->aO H H'->af (fun a=>nb a\/(f=true/\H a≠none)) H' d v->Q v H')/\qC ds Φ:=⟨_,fun f d v H' q=>q v H',hF⟩
 obtain⟨p,n,cs,cA,rfl,hN,hnd,hpl,q⟩:=hF
 refine⟨_,(@ao _ _ _ _ _ (@aF _ _ (2) _ _ _ _ mX.nd rfl (Or.inl rfl) (@gU _ _ _ _ _ _ _ _ (xN) (Pc rfl) rfl ud PyProof.Rows.boot_dict (@aa _ _ _ _ _ (d9 (cN.of (show dj (az kq) ["net","places","found","c","pairs","place","factor"] _ ["place"] [none]=true by decide+kernel)) (@dH _ _ _ _ (pv 1)) (fun _ _ _ _=>⟨(aG (i:=0) (by show List.Nodup (["place"]:List Str);decide+kernel) rfl (Or.inl rfl)),gm,(@aX _ _ _ _ _ (@aa _ _ _ _ _ (pv 0) (@aa _ _ _ _ _ (@cW _ _ _ _ ai) ai rfl) rfl))⟩)) ai rfl) (by decide) (by decide) (by rfl) (by rfl)) (by rfl) (by first|exact .inl rfl|exact .inr rfl|assumption)) (@ao _ _ _ _ _ (@dY _ _ _ _ _ _ _ _ PassesOwn.never rfl (@AI _ (K) _ _ _ _ _ _ _ rfl rfl m5 (@aI _ _ _ _ _ _ (bY K) cF (pv 0) aj (fun _ _=>rfl)) (by rfl)) (@eU _ (K) _ _ _ (2) _ rfl rfl (@aW _ _ _ _ _ (aG (i:=3) mX.nd rfl (Or.inl rfl)) (@aW _ _ _ _ _ (aG (i:=4) mX.nd rfl (Or.inl rfl)) eB (by rfl)) (by rfl)) (by rfl) (by rfl)) (@aB _ _ _ (@dY _ _ _ _ _ _ _ _ PassesOwn.never rfl (@dH _ _ _ _ (pv 4)) (@eU _ (K) _ _ _ (2) _ rfl rfl (@aW _ _ _ _ _ (aG (i:=5) mX.nd rfl (Or.inl rfl)) (@aW _ _ _ _ _ (aG (i:=6) mX.nd rfl (Or.inl rfl)) eB (by rfl)) (by rfl)) (by rfl) (by rfl)) (@aB _ _ _ (@cH _ _ _ _ _ _ _ _ (@aU _ _ _ _ _ _ _ _ (K5 hr.units) (pv 5) (pv 2) (by with_unfolding_all rfl)) (@aB _ _ _ (@iX _ _ _ _ (iu PySem.F.plainAttrs_list PySem.F.slot_list_append PySem.F.type_list_append iI (@aI _ _ _ _ _ _ (jn) qU (pv 2) (pv 5) (fun _ _=>rfl)) (@aa _ _ _ _ _ (@aX _ _ _ _ _ (@aa _ _ _ _ _ (pv 3) (@aa _ _ _ _ _ (@aN _ _ _ _ _ _ _ _ _ _ Iz (hr.mono (by decide)) (@aa _ _ _ _ _ (@aI _ _ _ _ _ _ (bY K) cF (pv 0) aj (fun _ _=>rfl)) (@aa _ _ _ _ _ (pv 6) ai rfl) rfl) (by rfl) (by decide) (by rfl) (by rfl)) ai rfl) rfl)) ai rfl)) (by rfl))) cI)) (by intro _;rfl))) (by intro _;rfl)) (@aB _ _ _ (@aT _ _ _ _ (pv 2))))),?_⟩
 refine Sv.fE hlive hds aH (ρ:=[.d false _, .d false _, .no, .no, .no, .no, .no]) rfl ?_
 clear aH hds
 have p2:=hN.hp.1
 have dX:=hN.dX
 have n0:=hN.n0
 have n1:=hN.n1
 have hcl:=hN.cl
 have n5:(cs.map dS).length=cs.length:=List.length_map ..
 refine Sv.seq ?_
 refine Sv.QX ?_
 walk_at "dt"
 refine⟨cA,rfl,hnd,by omega,fun A2 rows0 hr0=>?_⟩
 refine Sv.seq ?_
 refine Sv.B6 ?_
 walk_at "dt"
 refine fun v=>⟨fun i ρ=>∃(rows:List dI) (f2:Bool) (x3 x4 x5 x6:Sl),(rows.map fun r=>(r.1,r.2.2))=(cA.map fun pl=>(pl,(cY p cs pl i).map pairD))/\ρ=[.d false (bK p n cs), .d false (.list (cA.map .int)), .cu (fL A2 f2 rows),x3,x4,x5,x6],⟨rows0,true,_,_,_,_,hr0,rfl⟩,?_,?_⟩
 ·rintro i d ρ ⟨e,he,rfl⟩ ⟨rows,f2,x3,x4,x5,x6,hr,rfl⟩
  obtain⟨prs,cy,rfl⟩:=dU he
  have hil:=(List.getElem?_eq_some_iff.mp cy).1
  obtain⟨g1,g2,g3⟩:=hN.ok prs (List.mem_of_getElem? cy)
  walk_at "dt"
  refine Sv.forL ?_
  walk_at "dt"
  refine fun v=>⟨fun m ρ=>∃(rows:List dI) (f2:Bool) (x5 x6:Sl),(rows.map fun r=>(r.1,r.2.2))=cA.map (gf p cs i (prs.take m))/\ρ=[.d false (bK p n cs), .d false (.list (cA.map .int)), .cu (fL A2 f2 rows), .d true (.int i), .d false (dS prs),x5,x6],⟨rows,f2,_,_,by rw[hr];exact QY,rfl⟩,?_,?_⟩
  ·rintro m d ρ hd ⟨rows,f2,x5,x6,hr,rfl⟩
   obtain⟨pr,bC,rfl⟩:=dU hd
   have hml:=(List.getElem?_eq_some_iff.mp bC).1
   obtain⟨a0,a1,a2,a3⟩:=g3 pr (List.mem_of_getElem? bC)
   have hkeys:rows.map (·.1)=cA:=by
    have:=congrArg (List.map (·.1)) hr
    rw[List.map_map,List.map_map] at this
    have e1:((fun(x:Int×List PyData)=>x.1)∘fun(r:dI)=>(r.1,r.2.2))=fun(r:dI)=>r.1:=rfl
    have e2:((fun(x:Int×List PyData)=>x.1)∘gf p cs i (prs.take m))=id:=rfl
    rw[e1,e2,List.map_id] at this
    exact this
   have sE:∀r∈rows,r.2.2.length<10000:=fun r hr'=>by
    have hm:(r.1,r.2.2)∈rows.map fun r=>(r.1,r.2.2):=List.mem_map_of_mem (f:=fun r:dI=>(r.1,r.2.2)) hr'
    rw[hr] at hm
    obtain⟨pl,_,e⟩:=List.mem_map.mp hm
    have:r.2.2=(gf p cs i (prs.take m) pl).2:=by rw[e]
    rw[this]
    unfold gf
    rw[List.length_map,List.length_append]
    have h1:=rz (p:=p) (cs:=cs) (pl:=pl) i
    have h2:∀o,(iS p i o).length<=1:=fun o=>by cases o<;>simp[iS]
    have:=h2 (bO (prs.take m) pl)
    omega
   have hnew:pr.1∉(prs.take m).map (·.1):=fun z=>by
    rw[List.map_take] at z
    obtain⟨j,hj⟩:=List.getElem?_of_mem z
    have Nc:j<m:=by have:=(List.getElem?_eq_some_iff.mp hj).1;rw[List.length_take] at this;omega
    rw[List.getElem?_take_of_lt Nc] at hj
    obtain⟨l1,e1⟩:=List.getElem?_eq_some_iff.mp hj
    have l2:m<(prs.map (·.1)).length:=by rw[List.length_map];exact hml
    have:=(List.getElem_inj (h₀:=l1) (h₁:=l2) g1).mp (by rw[e1,List.getElem_map,(List.getElem?_eq_some_iff.mp bC).2])
    omega
   have hts:=take_snoc bC
   walk_at "dt"
   refine Ev.PL rfl ?_
   walk_at "dt"
   by_cases c:pr.1∈rows.map (·.1)
   ·rw[if_pos (by simp[c])]
    have kG:pr.2%p≠0:=by rw[Int.emod_eq_of_lt (by omega) (by omega)];omega
    refine Sv.Oj rfl ?_
    walk_at "dt"
    refine Ev.inv ?_
    walk_at "dt"
    refine⟨p,pr.2,rfl,hN.hp,dX,kG,fun u u0 u1 hu=>?_⟩
    have eu:u=sol p pr.2 1:=AB hN.hp kG u0 u1 (by obtain⟨k,hk⟩:=hu;exact⟨k,by rw[Int.mul_comm,hk];omega⟩)
    subst eu
    walk_at "dt"
    refine⟨_,_,_,_,?_,rfl⟩
    rw[hts,Ow hnew,<-hr,Gg]
    rfl
   ·rw[if_neg (by simp[c])]
    walk_at "dt"
    refine⟨rows,f2,_,_,?_,rfl⟩
    rw[hts,IG (by rw[<-hkeys];exact c)]
    exact hr
  ·rintro ρ ⟨rows,f2,x5,x6,hr,rfl⟩
   rw[List.length_map,List.take_length] at hr
   refine⟨rows,f2,_,_,_,_,?_,rfl⟩
   rw[hr]
   apply List.map_congr_left
   intro pl _
   unfold gf
   rw[DY cy]
 ·rintro ρ ⟨rows,f2,x3,x4,x5,x6,hr,rfl⟩
  rw[n5] at hr
  refine Sv.NO 2 rfl ?_
  walk_at "dt"
  have e:(rows.map fun r=>(r.1,PyData.list r.2.2))=cA.map fun pl=>(pl,PyData.list ((cY p cs pl cs.length).map pairD)):=by
   have:=congrArg (List.map fun q:Int×List PyData=>(q.1,PyData.list q.2)) hr
   rw[List.map_map,List.map_map] at this
   exact this
  rw[e]
  exact q _
def qL:DF:=fun ds Φ=>∃(p n:Int) (cs:List aA),ds=[bK p n cs]/\ir p n cs/\∀f,Φ f (.dict ((lg p cs n.toNat).map bS))
theorem Gf:cS qL:=by
 intro ds Φ Ψ hm z
 obtain⟨p,n,cs,e,h1,q⟩:=hm
 exact⟨p,n,cs,e,h1,fun f=>z _ _ (q f)⟩
theorem Lu:bU ["net"] ["net"] (az m9):=⟨rfl,rfl,rfl,by decide+kernel,rfl,by decide+kernel,by decide+kernel⟩
theorem Fv(F:bJ K "all_voices" "all_voices" m9 f fd)(Oh:Callee P w K mg base "voices" 2 ["net","places"] (bA 2 qC))(cg:mg "list"=none)(aY:mg "range"=none):
  bz P w K mg base bH 3 f fd ["net"] (bA 1 qL):=by
 refine F.ok Lu (fun vs H Q E h=>h.1) (fun cdv A outer s H vs Q E hr h=>?_)
 obtain⟨_,nb,ds,hlive,hds,hF⟩:=h
 obtain⟨Φ,aH,hF⟩:∃Φ:Pd,(∀f d v H',Φ f d->aO H H'->af (fun a=>nb a\/(f=true/\H a≠none)) H' d v->Q v H')/\qL ds Φ:=⟨_,fun f d v H' q=>q v H',hF⟩
 obtain⟨p,n,cs,rfl,hN,q⟩:=hF
 refine⟨_,(@aB _ _ _ (@aT _ _ _ _ (@aN _ _ _ _ _ _ _ _ _ _ Oh (hr.mono (by decide)) (@aa _ _ _ _ _ (pv 0) (@aa _ _ _ _ _ (@gU _ _ _ _ _ _ _ _ _ (QW rfl) rfl cg PyProof.Rows.boot_list (@aa _ _ _ _ _ (@gU _ _ _ _ _ _ _ _ _ Gj rfl aY PyProof.Rows.boot_range (@aa _ _ _ _ _ (@aI _ _ _ _ _ _ (bY K) cF (pv 0) aj (fun _ _=>rfl)) ai rfl) (by decide) (by decide) (by rfl) (by rfl)) ai rfl) (by decide) (by decide) (by rfl) (by rfl)) ai rfl) rfl) (by rfl) (by decide) (by rfl) (by rfl)))),?_⟩
 refine Sv.fE hlive hds aH (ρ:=[.d false _]) rfl ?_
 clear aH hds
 have n0:=hN.n0
 have n1:=hN.n1
 walk_at "dt"
 refine Ev.dD NL ?_
 walk_at "dt"
 refine ay.ev (ay.Tz ?_)
 walk_at "dt"
 refine⟨rfl,p,n,cs,(List.range n.toNat).map fun(i:Nat)=>(i:Int),?_,hN,?_,by rw[List.length_map,List.length_range];omega,fun f=>q _⟩
 ·show[_,PyData.list _]=[_,PyData.list _]
  have:((List.range n.toNat).map fun(i:Nat)=>(0:Int)+i)=(List.range n.toNat).map fun(i:Nat)=>(i:Int):=List.map_congr_left fun i _=>by omega
  rw[this]
 exact List.nodup_range.map _ fun a b h z=>h (by omega)
def qi:DF:=fun ds Φ=>∃(p letter:Int) (vs:List (Int×Int)) (ss:List Int),ds=[.int p, .list (vs.map pairD), .list (ss.map .int), .int letter]/\0<p/\p<10^40/\vs.length<=1000/\(∀q∈vs,0<=q.1/\q.1<ss.length/\0<=q.2/\q.2<p)/\(∀s∈ss,0<=s/\s<p)/\
 ∀ks,gn (vs.map fun q=>(letter-ss.getD q.1.toNat 0*q.2)%p) ks->ks.length<=vs.length->Φ true (.dict (ks.map bS))
theorem Il:cS qi:=by
 intro ds Φ Ψ hm z
 obtain⟨p,l,vs,ss,e,h1,h2,h3,h4,h5,q⟩:=hm
 exact⟨p,l,vs,ss,e,h1,h2,h3,h4,h5,fun ks a b=>z _ _ (q ks a b)⟩
theorem n9:bU ["p","there","reached","letter","counts","c","inverted","voted_for"] ["p","there","reached","letter"] (az ny):=⟨rfl,rfl,rfl,by decide+kernel,rfl,by decide+kernel,by decide+kernel⟩
theorem Ud(F:bJ K "counts_of" "counts_of" ny f fd):
  bz P w K mg base bH 1 f fd ["p","there","reached","letter"] (bA 4 qi):=by
 refine F.ok n9 (fun vs H Q E h=>h.1) (fun cdv A outer s H vs Q E hr h=>?_)
 obtain⟨_,nb,ds,hlive,hds,hF⟩:=h
 obtain⟨Φ,aH,hF⟩:∃Φ:Pd,(∀f d v H',Φ f d->aO H H'->af (fun a=>nb a\/(f=true/\H a≠none)) H' d v->Q v H')/\qi ds Φ:=⟨_,fun f d v H' q=>q v H',hF⟩
 obtain⟨p,letter,vs,ss,rfl,p0,dX,hvl,hvs,hss,q⟩:=hF
 refine⟨_,(@ao _ _ _ _ _ (@aF _ _ (4) _ _ _ _ n9.nd rfl (Or.inl rfl) BJ (by rfl) (by first|exact .inl rfl|exact .inr rfl|assumption)) (@ao _ _ _ _ _ (@dY _ _ _ _ _ _ _ _ PassesOwn.never rfl (@dH _ _ _ _ (pv 1)) (@eU _ (K) _ _ _ (2) _ rfl rfl (@aW _ _ _ _ _ (aG (i:=5) n9.nd rfl (Or.inl rfl)) (@aW _ _ _ _ _ (aG (i:=6) n9.nd rfl (Or.inl rfl)) eB (by rfl)) (by rfl)) (by rfl) (by rfl)) (@ao _ _ _ _ _ (@aF _ _ (7) _ _ _ _ n9.nd rfl (Or.inl rfl) (@aD _ _ _ _ _ _ _ _ gk (@aD _ _ _ _ _ _ _ _ iP (pv 3) (@aD _ _ _ _ _ _ _ _ fQ (@aI _ _ _ _ _ _ (dh K) bM (pv 2) (pv 5) (fun _ _=>rfl)) (pv 6))) (pv 0)) (by rfl) (by first|exact .inl rfl|exact .inr rfl|assumption)) (@aB _ _ _ (@fV _ _ _ _ _ _ (@aD _ _ _ _ _ _ _ _ dJ (iu PySem.F.plainAttrs_dict PySem.F.slot_dict_get PySem.F.type_dict_get AV (pv 4) (@aa _ _ _ _ _ (pv 7) (@aa _ _ _ _ _ aj ai rfl) rfl)) aj) (i6 (pv 4) (pv 7) set_dict) (by rfl) (by rfl) (by rfl)))) (by intro _;rfl)) (@aB _ _ _ (@aT _ _ _ _ (pv 4))))),?_⟩
 refine Sv.fE hlive hds aH (ρ:=[.d false _, .d false _, .d false _, .d false _, .no, .no, .no, .no]) rfl ?_
 clear aH hds
 have Ut:(vs.map pairD).length=vs.length:=List.length_map ..
 refine Sv.seq ?_
 refine Sv.Ag (oQ.new ?_)
 intro A4
 refine Sv.seq ?_
 refine Sv.forL ?_
 refine Ev.var rfl ?_
 refine⟨_,rfl,fun v=>⟨fun i ρ=>∃(ks:Ks) (x5 x6 x7:Sl),gn ((vs.take i).map fun q=>(letter-ss.getD q.1.toNat 0*q.2)%p) ks/\ks.length<=i/\ρ=[.d false (.int p), .d false (.list (vs.map pairD)), .d false (.list (ss.map .int)), .d false (.int letter), .aR A4 true ks,x5,x6,x7],⟨[],_,_,_,gn.nil,Nat.le_refl _,rfl⟩,?_,?_⟩⟩
 ·rintro i d ρ hd ⟨ks,x5,x6,x7,hK,iV,rfl⟩
  obtain⟨qq,hq,rfl⟩:=dU hd
  have hil:=(List.getElem?_eq_some_iff.mp hq).1
  obtain⟨a0,a1,a2,a3⟩:=hvs qq (List.mem_of_getElem? hq)
  have hsl:qq.1.toNat<ss.length:=by omega
  have hat:bh (ss.map PyData.int) qq.1=some (.int (ss.getD qq.1.toNat 0)):=iz a0 (by rw[List.getElem?_map,List.getElem?_eq_getElem hsl,List.getD_eq_getElem?_getD,List.getElem?_eq_getElem hsl];rfl)
  obtain⟨b0,b1⟩:0<=ss.getD qq.1.toNat 0/\ss.getD qq.1.toNat 0<p:=by
   rw[List.getD_eq_getElem?_getD,List.getElem?_eq_getElem hsl]
   exact hss _ (List.getElem_mem hsl)
  have s1:Sm (ss.getD qq.1.toNat 0):=by unfold Sm;omega
  have s2:Sm qq.2:=by unfold Sm;omega
  generalize fM:(fh _ (mW (cQ 4) _ pP):TS)=tl
  walk_at "dt"
  subst fM
  refine Sv.zZ rfl ?_
  walk_at "dt"
  refine Ev.Ay rfl ?_
  walk_at "dt"
  rw[hK.get]
  walk_at "dt"
  refine⟨_,_,_,_,?_,?_,rfl⟩
  ·rw[take_snoc hq,List.map_append]
   exact hK.put _
  ·have:=zK ks ((letter-ss.getD qq.1.toNat 0*qq.2)%p) (.int (((List.map (fun q=>(letter-ss.getD q.1.toNat 0*q.2)%p) (List.take i vs)).count ((letter-ss.getD qq.1.toNat 0*qq.2)%p):Int)+1))
   omega
 ·rintro ρ ⟨ks,x5,x6,x7,hK,iV,rfl⟩
  rw[Ut] at hK iV
  rw[List.take_length] at hK
  refine Sv.Hq 4 rfl ?_
  walk_at "dt"
  exact q ks hK iV
def pC:DF:=fun ds Φ=>∃(p n:Int) (cs:List aA) (ws:List Int),ds=[.int p, .dict ((lg p cs n.toNat).map bS), .list ((fk p cs ws).map .int),bD ws]/\ir p n cs/\ws.length=n.toNat/\(∀x∈ws,0<=x/\x<p)/\Φ true (.list ((bq p cs ws n.toNat).map bE))
theorem KQ:cS pC:=by
 intro ds Φ Ψ hm z
 obtain⟨p,n,cs,ws,e,h1,h2,h3,q⟩:=hm
 exact⟨p,n,cs,ws,e,h1,h2,h3,z _ _ q⟩
theorem mZ:bU ["p","found","reached","word","turns","place","old","counts","new"] ["p","found","reached","word"] (az nD):=⟨rfl,rfl,rfl,by decide+kernel,rfl,by decide+kernel,by decide+kernel⟩
theorem GN(F:bJ K "turns_of" "turns_of" nD f fd)(L1:Callee P w K mg base "counts_of" 1 ["p","there","reached","letter"] (bA 4 qi))(m5:mg "enumerate"=none)(bT:mg "len"=none):
  bz P w K mg base bH 2 f fd ["p","found","reached","word"] (bA 4 pC):=by
 refine F.ok mZ (fun vs H Q E h=>h.1) (fun cdv A outer s H vs Q E hr h=>?_)
 obtain⟨_,nb,ds,hlive,hds,hF⟩:=h
 obtain⟨Φ,aH,hF⟩:∃Φ:Pd,(∀f d v H',Φ f d->aO H H'->af (fun a=>nb a\/(f=true/\H a≠none)) H' d v->Q v H')/\pC ds Φ:=⟨_,fun f d v H' q=>q v H',hF⟩
 obtain⟨p,n,cs,ws,rfl,hN,hwl,hws,q⟩:=hF
 refine⟨_,(@ao _ _ _ _ _ (@aF _ _ (4) _ _ _ _ mZ.nd rfl (Or.inl rfl) (@cW _ _ _ _ ai) (by rfl) (by first|exact .inl rfl|exact .inr rfl|assumption)) (@ao _ _ _ _ _ (@dY _ _ _ _ _ _ _ _ PassesOwn.never rfl (@AI _ (K) _ _ _ _ _ _ _ rfl rfl m5 (pv 3) (by rfl)) (@eU _ (K) _ _ _ (2) _ rfl rfl (@aW _ _ _ _ _ (aG (i:=5) mZ.nd rfl (Or.inl rfl)) (@aW _ _ _ _ _ (aG (i:=6) mZ.nd rfl (Or.inl rfl)) eB (by rfl)) (by rfl)) (by rfl) (by rfl)) (@ao _ _ _ _ _ (@aF _ _ (7) _ _ _ _ mZ.nd rfl (Or.inl rfl) (@aN _ _ _ _ _ _ _ _ _ _ L1 (hr.mono (by decide)) (@aa _ _ _ _ _ (pv 0) (@aa _ _ _ _ _ (@aI _ _ _ _ _ _ (jn) qU (pv 1) (pv 5) (fun _ _=>rfl)) (@aa _ _ _ _ _ (pv 2) (@aa _ _ _ _ _ (pv 6) ai rfl) rfl) rfl) rfl) (by rfl) (by decide) (by rfl) (by rfl)) (by rfl) (by first|exact .inl rfl|exact .inr rfl|assumption)) (@aB _ _ _ (@Ua _ _ _ (@dY _ _ _ _ _ _ _ _ PassesOwn.never rfl (@T7 _ _ _ _ (pv 7)) (aG (i:=8) mZ.nd rfl (Or.inl rfl)) (@aB _ _ _ (@cH _ _ _ _ _ _ _ _ (PW.pt (kF (@aU _ _ _ _ _ _ _ _ gF (pv 8) (pv 6) (aP _)) (kC (@aU _ _ _ _ _ _ _ _ nh (@aD _ _ _ _ _ _ _ _ fQ aj (@aI _ _ _ _ _ _ (jn) qU (pv 7) (pv 8) (fun _ _=>rfl))) (@bW _ _ _ _ _ _ _ _ (fN K) ie rfl bT PySem.boot_len (@aa _ _ _ _ _ (@aI _ _ _ _ _ _ (jn) qU (pv 1) (pv 5) (fun _ _=>rfl)) ai rfl) (by decide) (by decide) (by rfl) (by rfl)) (aP _))))) (@aB _ _ _ (@iX _ _ _ _ (iu PySem.F.plainAttrs_list PySem.F.slot_list_append PySem.F.type_list_append iI (pv 4) (@aa _ _ _ _ _ (@aX _ _ _ _ _ (@aa _ _ _ _ _ (pv 5) (@aa _ _ _ _ _ (pv 6) (@aa _ _ _ _ _ (pv 8) ai rfl) rfl) rfl)) ai rfl)) (by rfl))) cI)) (by intro _;rfl))))) (by intro _;rfl)) (@aB _ _ _ (@aT _ _ _ _ (pv 4))))),?_⟩
 refine Sv.fE hlive hds aH (ρ:=[.d false _, .d false _, .d false _, .d false _, .no, .no, .no, .no, .no]) rfl ?_
 clear aH hds
 have p2:=hN.hp.1
 have dX:=hN.dX
 have n0:=hN.n0
 have n1:=hN.n1
 have hcl:=hN.cl
 have yF:(ws.map PyData.int).length=ws.length:=List.length_map ..
 have hsl:(fk p cs ws).length=cs.length:=by unfold fk;exact List.length_map ..
 have Gs:∀s∈fk p cs ws,0<=s/\s<p:=fun s hs=>by
  unfold fk at hs
  obtain⟨prs,_,rfl⟩:=List.mem_map.mp hs
  exact⟨Int.emod_nonneg _ (by omega),Int.emod_lt_of_pos _ (by omega)⟩
 walk_at "dt"
 intro A4
 refine Sv.seq ?_
 refine Sv.B6 ?_
 walk_at "dt"
 refine fun v=>⟨fun i ρ=>∃(x5 x6 x7 x8:Sl),ρ=[.d false (.int p), .d false (.dict ((lg p cs n.toNat).map bS)), .d false (.list ((fk p cs ws).map .int)), .d false (bD ws), .own A4 true ((bq p cs ws i).map bE),x5,x6,x7,x8],⟨_,_,_,_,rfl⟩,?_,?_⟩
 ·rintro i d ρ ⟨e,he,rfl⟩ ⟨x5,x6,x7,x8,rfl⟩
  obtain⟨old,hold,rfl⟩:=dU he
  have hil:=(List.getElem?_eq_some_iff.mp hold).1
  have hin:i<n.toNat:=by omega
  have hval:=R7 (p:=p) (cs:=cs) hin
  have hog:ws.getD i 0=old:=by rw[List.getD_eq_getElem?_getD,hold];rfl
  have hvl:=rz (p:=p) (cs:=cs) (pl:=(i:Int)) cs.length
  have fM:=pI (p:=p) (cs:=cs) (ws:=ws) i
  have eL:(cY p cs (i:Int) cs.length).map (fun q=>(old-(fk p cs ws).getD q.1.toNat 0*q.2)%p)=eW p cs ws (i:Int):=by
   unfold eW
   apply List.map_congr_left
   intro qq hq
   obtain⟨c,prs,ff,e1,e2,e3,rfl⟩:=Dd (Nat.le_refl _) hq
   dsimp only
   rw[Int.toNat_natCast,Int.toNat_natCast,HX c e2,hog]
  have yu:(cY p cs (i:Int) cs.length).length=(eW p cs ws (i:Int)).length:=by unfold eW;rw[List.length_map]
  walk_at "dt"
  refine Ev.dD Il ?_
  walk_at "dt"
  refine Ev.vR ?_
  walk_at "dt"
  refine⟨_,rfl,?_⟩
  walk_at "dt"
  refine⟨_,hval,?_⟩
  walk_at "dt"
  refine⟨rfl,p,old,cY p cs (i:Int) cs.length,fk p cs ws,rfl,by omega,dX,by omega,fun qq hq=>?_,Gs,fun ks hK iV=>?_⟩
  ·obtain⟨c,prs,ff,e1,e2,e3,rfl⟩:=Dd (Nat.le_refl _) hq
   have hr:=yN (p:=p) (b:=ff) (a:=1) (by omega)
   exact⟨by show(0:Int)<=c;omega,by show(c:Int)<_;omega,hr.1,hr.2⟩
  rw[eL] at hK
  obtain⟨ms,nd,hm,rfl⟩:=id hK
  rw[List.length_map] at iV
  obtain⟨VL,jH⟩:∃VL,eW p cs ws (i:Int)=VL:=⟨_,rfl⟩
  rw[jH] at hm yu hK
  have Ve:∀x∈VL,0<=x/\x<p:=by rw[<-jH];exact zl (by omega)
  simp only[jH]
  refine Gv.name ?_
  refine Sv.SW ?_
  walk_at "dt"
  refine⟨_,rfl,fun G' v=>?_⟩
  have QJ:(ms.map fun c=>(c,PyData.int (VL.count c))).length=ms.length:=List.length_map ..
  refine⟨fun j ρ=>∃(x8:Sl),ρ=[.d false (.int p), .d false (.dict ((lg p cs n.toNat).map bS)), .d false (.list ((fk p cs ws).map .int)), .d false (bD ws), .own A4 true ((bq p cs ws i++((ms.take j).filter (bI VL old)).map fun x=>((i:Int),old,x)).map bE), .d true (.int i), .d true (.int old), .d true (.dict ((ms.map fun c=>(c,PyData.int (VL.count c))).map bS)),x8],?_,?_,?_⟩
  ·refine⟨x8,?_⟩
   rw[List.take_zero,List.filter_nil,List.map_nil,List.append_nil]
   rfl
  ·rintro j d ρ ⟨kv,hkv,rfl⟩ ⟨x8,rfl⟩
   rw[List.getElem?_map] at hkv
   obtain⟨x,hx,rfl⟩:=Option.map_eq_some_iff.mp hkv
   have pS:=List.mem_of_getElem? hx
   have hjl:=(List.getElem?_eq_some_iff.mp hx).1
   have M6:VL.count x<=VL.length:=List.count_le_length
   have s1:Sm (VL.count x:Int):=by unfold Sm;omega
   have s2:Sm 2:=by unfold Sm;omega
   have Lw:(bq p cs ws i++((ms.take j).filter (bI VL old)).map fun x=>((i:Int),old,x)).length<9999:=by
    rw[List.length_append,List.length_map]
    have:=List.length_filter_le (bI VL old) (ms.take j)
    rw[List.length_take] at this
    omega
   have hts:=take_snoc hx
   refine Gv.jg ?_
   walk_at "dt"
   by_cases c1:x=old
   ·rw[if_neg (by simp[c1])]
    walk_at "dt"
    refine⟨.d true (.int x),?_⟩
    rw[hts,List.filter_append,show[x].filter (bI VL old)=[] by simp[bI,c1],List.append_nil]
    rfl
   ·rw[if_pos (by simp[c1])]
    walk_at "dt"
    refine Ev.vR ?_
    walk_at "dt"
    refine⟨_,rfl,?_⟩
    walk_at "dt"
    refine⟨_,by rw[qF,if_pos pS],?_⟩
    walk_at "dt"
    refine Ev.vR ?_
    walk_at "dt"
    refine⟨_,rfl,?_⟩
    walk_at "dt"
    refine⟨_,hval,?_⟩
    walk_at "dt"
    have lT:((cY p cs (i:Int) cs.length).map pairD).length=VL.length:=by rw[List.length_map,yu]
    rw[lT]
    by_cases c2:VL.length<2*VL.count x
    ·rw[if_pos (by simp;omega)]
     walk_at "dt"
     refine⟨by rw[List.length_map];omega,?_⟩
     refine⟨.d true (.int x),?_⟩
     have heq:(bq p cs ws i++((ms.take (j+1)).filter (bI VL old)).map fun x=>((i:Int),old,x)).map bE=(bq p cs ws i++((ms.take j).filter (bI VL old)).map fun x=>((i:Int),old,x)).map bE++[bE ((i:Int),old,x)]:=by
      rw[hts,List.filter_append,show[x].filter (bI VL old)=[x] by simp[bI,c1,c2]]
      simp
     rw[heq]
     rfl
    ·rw[if_neg (by simp;omega)]
     walk_at "dt"
     refine⟨.d true (.int x),?_⟩
     rw[hts,List.filter_append,show[x].filter (bI VL old)=[] by simp[bI,c2],List.append_nil]
     rfl
  ·rintro ρ ⟨x8,rfl⟩
   rw[QJ,List.take_length,zo nd hm]
   have hs:bq p cs ws (i+1)=bq p cs ws i++(jx VL old).map fun x=>((i:Int),old,x):=by
    rw[wN]
    unfold lA
    rw[jH,hog]
   rw[<-hs]
   exact⟨_,_,_,_,rfl⟩
 ·rintro ρ ⟨x5,x6,x7,x8,rfl⟩
  rw[yF,hwl]
  walk_at "dt"
  exact q
def rL:DF:=fun ds Φ=>∃(ws:List Int) (ts:List (Int×Int×Int)),ds=[bD ws, .list (ts.map bE)]/\ws.length<=9000/\(∀t∈ts,0<=t.1/\t.1<ws.length)/\Φ true (bD (dB ws ts))
theorem QA:cS rL:=by
 intro ds Φ Ψ hm z
 obtain⟨ws,ts,e,h1,h2,q⟩:=hm
 exact⟨ws,ts,e,h1,h2,z _ _ q⟩
theorem om:bU ["word","turns","told","place","old","new"] ["word","turns"] (az lK):=⟨rfl,rfl,rfl,by decide+kernel,rfl,by decide+kernel,by decide+kernel⟩
theorem KD(F:bJ K "with_turns" "with_turns" lK f fd)(cg:mg "list"=none):
  bz P w K mg base bH 1 f fd ["word","turns"] (bA 2 rL):=by
 refine F.ok om (fun vs H Q E h=>h.1) (fun cdv A outer s H vs Q E hr h=>?_)
 obtain⟨_,nb,ds,hlive,hds,hF⟩:=h
 obtain⟨Φ,aH,hF⟩:∃Φ:Pd,(∀f d v H',Φ f d->aO H H'->af (fun a=>nb a\/(f=true/\H a≠none)) H' d v->Q v H')/\rL ds Φ:=⟨_,fun f d v H' q=>q v H',hF⟩
 obtain⟨ws,ts,rfl,hwl,hts,q⟩:=hF
 refine⟨_,(@ao _ _ _ _ _ (@aF _ _ (2) _ _ _ _ om.nd rfl (Or.inl rfl) (@gU _ _ _ _ _ _ _ _ (jK K) ou rfl cg PyProof.Rows.boot_list (@aa _ _ _ _ _ (pv 0) ai rfl) (by decide) (by decide) (by rfl) (by rfl)) (by rfl) (by first|exact .inl rfl|exact .inr rfl|assumption)) (@ao _ _ _ _ _ (@dY _ _ _ _ _ _ _ _ PassesOwn.never rfl (@dH _ _ _ _ (pv 1)) (@eU _ (K) _ _ _ (3) _ rfl rfl (@aW _ _ _ _ _ (aG (i:=3) om.nd rfl (Or.inl rfl)) (@aW _ _ _ _ _ (aG (i:=4) om.nd rfl (Or.inl rfl)) (@aW _ _ _ _ _ (aG (i:=5) om.nd rfl (Or.inl rfl)) eB (by rfl)) (by rfl)) (by rfl)) (by rfl) (by rfl)) (@aB _ _ _ (@fV _ _ _ _ _ _ (pv 5) (i6 (pv 2) (pv 3) set_list) (by rfl) (by rfl) (by rfl))) (by intro _;rfl)) (@aB _ _ _ (@aT _ _ _ _ (pv 2))))),?_⟩
 refine Sv.fE hlive hds aH (ρ:=[.d false _, .d false _, .no, .no, .no, .no]) rfl ?_
 clear aH hds
 refine Sv.seq ?_
 refine Sv.qk (ay.listOf ?_)
 walk_at "dt"
 intro A2
 rw[q9,Bool.or_true]
 refine Sv.seq ?_
 refine Sv.forL ?_
 walk_at "dt"
 refine fun v=>⟨fun i ρ=>∃(x3 x4 x5:Sl),ρ=[.d false (bD ws), .d false (.list (ts.map bE)), .own A2 true ((dB ws (ts.take i)).map .int),x3,x4,x5],⟨_,_,_,rfl⟩,?_,?_⟩
 ·rintro i d ρ hd ⟨x3,x4,x5,rfl⟩
  obtain⟨t,ht,rfl⟩:=dU hd
  obtain⟨t0,t1⟩:=hts t (List.mem_of_getElem? ht)
  have hl:=pR ws (ts.take i)
  have hix:eV ((dB ws (ts.take i)).map PyData.int).length t.1=some t.1.toNat:=by
   unfold eV
   rw[List.length_map]
   repeat (first|rw[if_pos (by omega)]|rw[if_neg (by omega)])
  walk_at "dt"
  refine⟨_,_,rfl,hix,?_⟩
  rw[<-List.map_set,<-zg,<-take_snoc ht]
  exact⟨_,_,_,rfl⟩
 ·rintro ρ ⟨x3,x4,x5,rfl⟩
  rw[List.length_map,List.take_length]
  walk_at "dt"
  exact q
def qY:DF:=fun ds Φ=>∃(ss:List Int),ds=[.list (ss.map .int)]/\ss.length<=9000/\Φ true (.int (ss.countP fun s=>decide (s≠0):Nat))
theorem TV:cS qY:=by
 intro ds Φ Ψ hm z
 obtain⟨ss,e,h1,q⟩:=hm
 exact⟨ss,e,h1,z _ _ q⟩
theorem Fo:bU ["reached"] ["reached"] (az ki):=⟨rfl,rfl,rfl,by decide+kernel,rfl,by decide+kernel,by decide+kernel⟩
theorem Ia(F:bJ K "broken_of" "broken_of" ki f fd)(bT:mg "len"=none):
  bz P w K mg base bH 1 f fd ["reached"] (bA 1 qY):=by
 refine F.ok Fo (fun vs H Q E h=>h.1) (fun cdv A outer s H vs Q E hr h=>?_)
 obtain⟨_,nb,ds,hlive,hds,hF⟩:=h
 obtain⟨Φ,aH,hF⟩:∃Φ:Pd,(∀f d v H',Φ f d->aO H H'->af (fun a=>nb a\/(f=true/\H a≠none)) H' d v->Q v H')/\qY ds Φ:=⟨_,fun f d v H' q=>q v H',hF⟩
 obtain⟨ss,rfl,hl,q⟩:=hF
 refine⟨_,(@aB _ _ _ (@aT _ _ _ _ (@bW _ _ _ _ _ _ _ _ (fN K) ie rfl bT PySem.boot_len (@aa _ _ _ _ _ (d9 (cN.of (show dj (az ki) ["reached"] _ ["number"] [none]=true by decide+kernel)) (@dH _ _ _ _ (pv 0)) (fun _ _ _ _=>⟨(aG (i:=0) (by show List.Nodup (["number"]:List Str);decide+kernel) rfl (Or.inl rfl)),(j3 (@aU _ _ _ _ _ _ _ _ gF (pv 0) aj (aP _))),(pv 0)⟩)) ai rfl) (by decide) (by decide) (by rfl) (by rfl)))),?_⟩
 refine Sv.fE hlive hds aH (ρ:=[.d false _]) rfl ?_
 clear aH hds
 walk_at "dt"
 refine ay.ev (ay.iA (by decide) rfl ?_)
 walk_at "dt"
 refine⟨by rw[List.length_map];omega,fun v=>⟨false,fun i ds=>ds.length=(ss.take i).countP fun s=>decide (s≠0),rfl,?_,?_⟩⟩
 ·rintro i d ds hd hl' hds
  obtain⟨s,hs,rfl⟩:=dU hd
  have hts:=take_snoc hs
  walk_at "dt"
  refine⟨by walk_at "wk",?_⟩
  walk_at "dt"
  by_cases c:s=0
  ·rw[if_neg (by simp[c])]
   show ds.length=(ss.take (i+1)).countP _
   rw[hds,hts,List.countP_append,List.countP_singleton,if_neg (by simp[c])]
   rfl
  ·rw[if_pos (by simp[c])]
   walk_at "dt"
   show(ds++[_]).length=(ss.take (i+1)).countP _
   rw[List.length_append,List.length_singleton,hds,hts,List.countP_append,List.countP_singleton,if_pos (by simp[c])]
 ·rintro ds hl' hds
  rw[List.length_map,List.take_length] at hds
  refine⟨ds, .inl rfl,?_⟩
  rw[hds]
  walk_at "dt"
  exact q
structure d8(A:Addr)(st:List (List cG))(bs:List Addr)(L:bN):Prop where
 root:L.lookup A=some (.lst (bs.map .own))
 len:bs.length=st.length
 nd:bs.Nodup
 na:A∉bs
 row:∀(j:Nat) b ts,bs[j]?=some b->st[j]?=some ts->L.lookup b=some (.lst ((ts.map bE).map .dat))
structure kg(r:List Int×List (List cG)×Str)(c a0 a1:Addr)(bs:List Addr)(L:bN):Prop where
 top:L.lookup c=some (.tup [.own a0, .own a1, .dat (.tuple [.str r.2.2])])
 word:L.lookup a0=some (.lst ((r.1.map PyData.int).map .dat))
 nO:d8 a1 r.2.1 bs L
 CO:c≠a0
 Vk:c≠a1
 Ei:a0≠a1
 cb:c∉bs
 ab:a0∉bs
theorem d8.more{A:Addr}{st:List (List cG)}{bs:List Addr}{L:bN}{a:Addr}{o:OO}(h:d8 A st bs L)(ha:a∉L.map (·.1)):d8 A st bs ((a,o)::L):=by
 have hne:∀b o',L.lookup b=some o'->b≠a:=fun b o' e z=>ha (z▸fJ e)
 have hl:∀b o',L.lookup b=some o'->List.lookup b ((a,o)::L)=some o':=fun b o' e=>by rw[List.lookup_cons,beq_false_of_ne (hne b o' e)];exact e
 exact⟨hl _ _ h.root,h.len,h.nd,h.na,fun j b ts e1 e2=>hl _ _ (h.row j b ts e1 e2)⟩
theorem d8.app{A:Addr}{st:List (List cG)}{bs:List Addr}{L:bN}{a:Addr}{ts:List cG}(h:d8 A st bs L)(ha:a∉L.map (·.1)):d8 A (st++[ts]) (bs++[a]) ((a, .lst ((ts.map bE).map .dat))::bX L A (.lst (bs.map .own++[.own a]))):=by
  have hA:A≠a:=fun z=>ha (z▸fJ h.root)
  have hb:∀b∈bs,b≠a:=fun b hm z=>by
    obtain⟨j,hj⟩:=List.getElem?_of_mem hm
    have hjl:=(List.getElem?_eq_some_iff.mp hj).1
    rw[h.len] at hjl
    exact ha (z▸fJ (h.row j b _ hj (List.getElem?_eq_getElem hjl)))
  refine⟨?_,by rw[List.length_append,List.length_append,h.len];rfl,?_,?_,fun j b u e1 e2=>?_⟩
  · rw[List.lookup_cons,beq_false_of_ne hA,lR (fJ h.root),List.map_append];rfl
  · exact List.nodup_append.mpr ⟨h.nd,by simp,fun x hx y hy=>by rw[List.mem_singleton.mp hy];exact hb x hx⟩
  · intro z
    rcases List.mem_append.mp z with z|z
    · exact h.na z
    · exact hA (List.mem_singleton.mp z)
  · by_cases c:j<bs.length
    · rw[List.getElem?_append_left c] at e1
      rw[List.getElem?_append_left (by rw[<-h.len];exact c)] at e2
      have hm:=List.mem_of_getElem? e1
      rw[List.lookup_cons,beq_false_of_ne (hb b hm),gY (fun z=>h.na (by rw[<-z];exact hm))]
      exact h.row j b u e1 e2
    · rw[List.getElem?_append_right (by omega)] at e1
      rw[List.getElem?_append_right (by rw[<-h.len];omega),<-h.len] at e2
      cases hi:j-bs.length with
      | zero =>
        rw[hi] at e1 e2
        simp at e1 e2
        subst e1 e2
        rw[List.lookup_cons,beq_self_eq_true]
      |succ m=>rw[hi] at e1;simp at e1
def oN:SF:=fun ds Φ=>∃(p n:Int) (cs:List aA) (ws:List Int) (m:Nat),ds=[bK p n cs,bD ws, .int m]/\ir p n cs/\m<=5000/\ws.length=n.toNat/\(∀x∈ws,0<=x/\x<p)/\∀c a0 a1 bs L,kg (bQ p cs n.toNat m ws) c a0 a1 bs L->Φ (.ref c) L
theorem Cf:sY oN:=fun ds Φ Ψ ⟨p,n,cs,ws,m,e,h1,h2,h3,h4,q⟩ z=>⟨p,n,cs,ws,m,e,h1,h2,h3,h4,fun c a0 a1 bs L h=>z _ _ (q c a0 a1 bs L h)⟩
theorem kg.mk'{w:List Int}{st:List (List cG)}{e:Str}{c a0 a1:Addr}{bs:List Addr}{L:bN}(h:d8 a1 st bs L)(hc:c≠a0/\c∉L.map (·.1)/\a0∉L.map (·.1)):kg (w,st,e) c a0 a1 bs ((c, .tup [.own a0, .own a1, .dat (.tuple [.str e])])::(a0, .lst ((w.map PyData.int).map .dat))::L):=by
 obtain⟨h1,h2,h3⟩:=hc
 have p9:∀b∈bs,b∈L.map (·.1):=fun b hm=>by
  obtain⟨j,hj⟩:=List.getElem?_of_mem hm
  have hjl:=(List.getElem?_eq_some_iff.mp hj).1
  rw[h.len] at hjl
  exact fJ (h.row j b _ hj (List.getElem?_eq_getElem hjl))
 refine⟨by rw[List.lookup_cons,beq_self_eq_true],by rw[List.lookup_cons,beq_false_of_ne (Ne.symm h1),List.lookup_cons,beq_self_eq_true],(h.more h3).more (fun z=>?_),h1,fun z=>h2 (z▸fJ h.root),fun z=>h3 (z▸fJ h.root),fun z=>h2 (p9 c z),fun z=>h3 (p9 a0 z)⟩
 rcases List.mem_cons.mp z with z|z
 ·exact h1 z
 ·exact h2 z
theorem j7:bU ["net","word","most","found","told","rounds","reached","turns"] ["net","word","most"] (az lV):=⟨rfl,rfl,rfl,by decide+kernel,rfl,by decide+kernel,by decide+kernel⟩
theorem PR(F:bJ K "voted" "voted" lV f fd)(RX:Callee P w K mg base "all_voices" 3 ["net"] (bA 1 qL))(ET:Callee P w K mg base "sums" 3 ["net","word"] (bA 2 qW))(O7:Callee P w K mg base "turns_of" 2 ["p","found","reached","word"] (bA 4 pC))(RZ:Callee P w K mg base "with_turns" 1 ["word","turns"] (bA 2 rL))(LB:Callee P w K mg base "broken_of" 1 ["reached"] (bA 1 qY))(cg:mg "list"=none)(bT:mg "len"=none):
  bz P w K mg base bH 4 f fd ["net","word","most"] (spS 3 oN):=by
 refine F.ok j7 (fun vs H Q E h=>h.1) (fun cdv A outer s H vs Q E hr h=>?_)
 obtain⟨_,nb,ds,hlive,hds,hF⟩:=h
 obtain⟨Φ,aH,hF⟩:∃Φ:V->bN->Prop,(∀v L H',Φ v L->aO H H'->oB H H' L->Q v H')/\oN ds Φ:=⟨_,fun v L H' q=>q H',hF⟩
 obtain⟨p,n,cs,ws,m,rfl,hN,hm,hwl,hws,q⟩:=hF
 refine⟨_,(@ao _ _ _ _ _ (@aF _ _ (3) _ _ _ _ j7.nd rfl (Or.inl rfl) (@aN _ _ _ _ _ _ _ _ _ _ RX (hr.mono (by decide)) (@aa _ _ _ _ _ (pv 0) ai rfl) (by rfl) (by decide) (by rfl) (by rfl)) (by rfl) (by first|exact .inl rfl|exact .inr rfl|assumption)) (@ao _ _ _ _ _ (@aF _ _ (4) _ _ _ _ j7.nd rfl (Or.inl rfl) (@gU _ _ _ _ _ _ _ _ (jK K) ou rfl cg PyProof.Rows.boot_list (@aa _ _ _ _ _ (pv 1) ai rfl) (by decide) (by decide) (by rfl) (by rfl)) (by rfl) (by first|exact .inl rfl|exact .inr rfl|assumption)) (@ao _ _ _ _ _ (@aF _ _ (5) _ _ _ _ j7.nd rfl (Or.inl rfl) (@cW _ _ _ _ ai) (by rfl) (by first|exact .inl rfl|exact .inr rfl|assumption)) (@aB _ _ _ (@tU _ _ _ _ _ _ PassesOwn.never (@oF _ (K) _ _ rfl nE (fun _=>rfl)) (@ao _ _ _ _ _ (@aF _ _ (6) _ _ _ _ j7.nd rfl (Or.inl rfl) (@aN _ _ _ _ _ _ _ _ _ _ ET (hr.mono (by decide)) (@aa _ _ _ _ _ (pv 0) (@aa _ _ _ _ _ (pv 4) ai rfl) rfl) (by rfl) (by decide) (by rfl) (by rfl)) (by rfl) (by first|exact .inl rfl|exact .inr rfl|assumption)) (@ao _ _ _ _ _ (@cH _ _ _ _ _ _ _ _ (@aU _ _ _ _ _ _ _ _ fX (@aN _ _ _ _ _ _ _ _ _ _ LB (hr.mono (by decide)) (@aa _ _ _ _ _ (pv 6) ai rfl) (by rfl) (by decide) (by rfl) (by rfl)) aj (aP _)) (@aB _ _ _ (@aT _ _ _ _ (@aX _ _ _ _ _ (@aa _ _ _ _ _ (pv 4) (@aa _ _ _ _ _ (pv 5) (@aa _ _ _ _ _ (@aX _ _ _ _ _ (@aa _ _ _ _ _ kh ai rfl)) ai rfl) rfl) rfl)))) cI) (@ao _ _ _ _ _ (@cH _ _ _ _ _ _ _ _ (@aU _ _ _ _ _ _ _ _ Sj (@bW _ _ _ _ _ _ _ _ (fN K) ie rfl bT PySem.boot_len (@aa _ _ _ _ _ (pv 5) ai rfl) (by decide) (by decide) (by rfl) (by rfl)) (pv 2) (aP _)) (@aB _ _ _ (@aT _ _ _ _ (@aX _ _ _ _ _ (@aa _ _ _ _ _ (pv 4) (@aa _ _ _ _ _ (pv 5) (@aa _ _ _ _ _ (@aX _ _ _ _ _ (@aa _ _ _ _ _ kh ai rfl)) ai rfl) rfl) rfl)))) cI) (@ao _ _ _ _ _ (@aF _ _ (7) _ _ _ _ j7.nd rfl (Or.inl rfl) (@aN _ _ _ _ _ _ _ _ _ _ O7 (hr.mono (by decide)) (@aa _ _ _ _ _ (@aI _ _ _ _ _ _ (bY K) cF (pv 0) aj (fun _ _=>rfl)) (@aa _ _ _ _ _ (pv 3) (@aa _ _ _ _ _ (pv 6) (@aa _ _ _ _ _ (pv 4) ai rfl) rfl) rfl) rfl) (by rfl) (by decide) (by rfl) (by rfl)) (by rfl) (by first|exact .inl rfl|exact .inr rfl|assumption)) (@ao _ _ _ _ _ (@cH _ _ _ _ _ _ _ _ (@aU _ _ _ _ _ _ _ _ (oO hr.units) (pv 7) (@cW _ _ _ _ ai) (aP _)) (@aB _ _ _ (@aT _ _ _ _ (@aX _ _ _ _ _ (@aa _ _ _ _ _ (pv 4) (@aa _ _ _ _ _ (pv 5) (@aa _ _ _ _ _ (@aX _ _ _ _ _ (@aa _ _ _ _ _ kh ai rfl)) ai rfl) rfl) rfl)))) cI) (@ao _ _ _ _ _ (@aF _ _ (4) _ _ _ _ j7.nd rfl (Or.inl rfl) (@aN _ _ _ _ _ _ _ _ _ _ RZ (hr.mono (by decide)) (@aa _ _ _ _ _ (pv 4) (@aa _ _ _ _ _ (pv 7) ai rfl) rfl) (by rfl) (by decide) (by rfl) (by rfl)) (by rfl) (by first|exact .inl rfl|exact .inr rfl|assumption)) (@aB _ _ _ (@iX _ _ _ _ (iu PySem.F.plainAttrs_list PySem.F.slot_list_append PySem.F.type_list_append iI (pv 5) (@aa _ _ _ _ _ (pv 7) ai rfl)) (by rfl)))))))))))))),?_⟩
 refine Sv.O9 hlive hds aH (ρ:=[.d false _, .d false _, .d false _, .no, .no, .no, .no, .no]) rfl ?_
 clear aH hds
 have p2:=hN.hp.1
 have dX:=hN.dX
 have n0:=hN.n0
 have n1:=hN.n1
 have hcl:=hN.cl
 walk_at "dt"
 refine Ev.dD Gf ?_
 walk_at "dt"
 refine⟨rfl,p,n,cs,rfl,hN,fun f0=>?_⟩
 refine Gv.zC ?_
 refine Sv.seq ?_
 refine Sv.qk (ay.listOf ?_)
 walk_at "dt"
 intro A4
 rw[q9,Bool.or_true]
 walk_at "dt"
 intro A5
 obtain⟨wf,hwf⟩:∃wf,(bQ p cs n.toNat m ws).1=wf:=⟨_,rfl⟩
 obtain⟨rf,oW⟩:∃rf,(bQ p cs n.toNat m ws).2.1=rf:=⟨_,rfl⟩
 obtain⟨ef,hef⟩:∃ef,(bQ p cs n.toNat m ws).2.2=ef:=⟨_,rfl⟩
 have q:∀c a0 a1 bs L,kg (wf,rf,ef) c a0 a1 bs L->Φ (.ref c) L:=by rw[<-hwf,<-oW,<-hef];exact q
 refine Sv.Jj 5 rfl ?_
 refine Sv.Ah (fun ρ=>∃(A4:Addr) (w:List Int) (st:List (List cG)) (bs:List Addr) (L:bN) (k:Nat) (x6 x7:Sl),w.length=n.toNat/\(∀x∈w,0<=x/\x<p)/\(bQ p cs n.toNat k w).1=wf/\st++(bQ p cs n.toNat k w).2.1=rf/\(bQ p cs n.toNat k w).2.2=ef/\st.length+k=m/\d8 A5 st bs L/\L.length=st.length+1/\ρ=[.d false (bK p n cs), .d false (bD ws), .d false (.int m), .d false (.dict ((lg p cs n.toNat).map bS)), .own A4 true (w.map .int), .cu (stC (.ref A5) true L),x6,x7]) (fun(ρ:Rh)=>match ρ[5]? with|some (Sl.cu c)=>m+1-c.F.length|_=>0) ⟨A4,ws,[],[],_,m,_,_,hwl,hws,hwf,oW,hef,by simp,⟨by rw[List.lookup_cons,beq_self_eq_true];rfl,rfl,List.nodup_nil,by simp,fun j b ts e=>by simp at e⟩,rfl,rfl⟩ ?_
 rintro ρ' ⟨A4,w,st,bs,L,k,x6,x7,hl,hr,h1,h2,h3,h4,hst,hLl,rfl⟩
 have kM:bD w=ji (w.map some):=by show PyData.list _=PyData.list _;rw[List.map_map];rfl
 have xW:∀prs∈cs,lJ prs (w.map some).length:=fun prs cy pr bC=>by
  obtain⟨_,_,g⟩:=hN.ok prs cy
  obtain⟨a0,a1,a2,a3⟩:=g pr bC
  exact⟨a0,by rw[List.length_map];omega,by unfold Sm;omega⟩
 have nI:kJ (w.map some):=fun x hx=>by
  obtain⟨y,hy,e⟩:=List.mem_map.mp hx
  cases e
  obtain⟨a0,a1⟩:=hr x hy
  unfold Sm;omega
 walk_at "dt"
 refine Ev.BY ?_
 refine eK.nK 4 rfl ?_
 refine eK.dD QF ?_
 walk_at "dt"
 refine⟨rfl,p,n,cs,w.map some,by show[_,_]=_;rw[<-kM],by omega,by omega,xW,nI,rfl,?_⟩
 rw[Lq]
 refine Gv.name ?_
 walk_at "dt"
 refine Ev.dD TV ?_
 walk_at "dt"
 refine⟨rfl,_,rfl,by unfold fk;rw[List.length_map];omega,?_⟩
 rw[Tu]
 walk_at "dt"
 by_cases c1:brk p cs w=0
 ·rw[if_pos (by simpa using c1)]
  rw[uR c1] at h1 h2 h3
  rw[List.append_nil] at h2
  dsimp only at h1 h3
  subst h1 h2 h3
  refine Sv.yr rfl rfl rfl ?_
  walk_at "dt"
  exact fun c hc=>q c _ _ _ _ (kg.mk' hst hc)
 rw[if_neg (by simpa using c1)]
 refine Sv.next ?_
 refine Sv.seq ?_
 refine Sv.ia ?_
 refine Tv.test ?_
 refine Ev.Di ?_
 refine Ev.AN (i:=5) rfl (dz.root rfl ⟨_, .inl hst.root,?_⟩)
 walk_at "dt"
 rw[List.length_map,hst.len]
 by_cases c2:k=0
 ·subst c2
  rw[if_pos (by simp;omega)]
  rw[zV c1] at h1 h2 h3
  rw[List.append_nil] at h2
  dsimp only at h1 h3
  subst h1 h2 h3
  refine Sv.yr rfl rfl rfl ?_
  walk_at "dt"
  exact fun c hc=>q c _ _ _ _ (kg.mk' hst hc)
 rw[if_neg (by simp;omega)]
 obtain⟨k,rfl⟩:∃k',k=k'+1:=⟨k-1,by omega⟩
 refine Sv.next ?_
 refine Sv.seq ?_
 refine Sv.DK ?_
 refine eK.nK 4 rfl ?_
 refine eK.dD KQ ?_
 walk_at "dt"
 refine⟨rfl,p,n,cs,w,rfl,hN,hl,hr,rfl, .inl ⟨_,rfl,fun A7=>?_⟩⟩
 obtain⟨ts,hts⟩:∃ts,bq p cs w n.toNat=ts:=⟨_,rfl⟩
 rw[hts]
 refine Sv.seq ?_
 refine Sv.ia ?_
 refine Tv.lend 7 rfl ?_
 walk_at "dt"
 refine⟨CA ts,yi,_,rfl,?_⟩
 rw[List.map_nil,zQ]
 by_cases c3:ts=[]
 ·have c4:=hts
  rw[c3] at c4
  rw[sj c1 c4] at h1 h2 h3
  rw[List.append_nil] at h2
  dsimp only at h1 h3
  subst h1 h2 h3
  subst c3
  rw[if_pos (by simp)]
  refine Sv.yr rfl rfl rfl ?_
  walk_at "dt"
  exact fun c hc=>q c _ _ _ _ (kg.mk' hst hc)
 rw[if_neg (by simpa using c3)]
 rw[wG c1 (by rw[hts];exact c3),hts] at h1 h2 h3
 dsimp only at h1 h2 h3
 have hrd:=rS (cs:=cs) (by omega) hl hr
 rw[hts] at hrd
 refine Sv.next ?_
 refine Sv.seq ?_
 refine Sv.DK ?_
 refine eK.nK 4 rfl ?_
 refine eK.nK 7 rfl ?_
 refine eK.dD QA ?_
 walk_at "dt"
 refine⟨rfl,w,ts,rfl,by omega,fun t ht=>?_,rfl, .inl ⟨_,rfl,fun NH=>?_⟩⟩
 ·rw[<-hts] at ht
  obtain⟨i,hi,e1,_⟩:=yq ht
  omega
 refine Sv.Nt (i:=5) (j:=7) rfl rfl (dz.root rfl ⟨_,hst.root,by rw[List.length_map,hst.len];omega,fun Hi=>?_⟩)
 refine⟨⟨NH,dB w ts,st++[ts],bs++[A7],_,k,_,_,hrd.1,hrd.2,h1,by rw[List.append_assoc];exact h2,h3,by rw[List.length_append,List.length_singleton];omega,hst.app Hi,by rw[List.length_cons,List.length_append];unfold bX;rw[List.length_map];simp;omega,rfl⟩,?_⟩
 have Tp:(((A7,OO.lst ((ts.map bE).map .dat))::bX L A5 (.lst (bs.map .own++[.own A7]))).map (·.1)).length=L.length+1:=by rw[List.map_cons,nZ,List.length_cons,List.length_map]
 show m+1-(((A7,OO.lst ((ts.map bE).map .dat))::bX L A5 (.lst (bs.map .own++[.own A7]))).map (·.1)).length<m+1-(L.map (·.1)).length
 rw[Tp,List.length_map]
 omega
theorem o8:bU ["script","stir","cell"] ["script"] (az kj):=⟨rfl,rfl,rfl,by decide+kernel,rfl,by decide+kernel,by decide+kernel⟩
theorem TJ(F:bJ K "_law_bag" "_law_bag" kj f fd)(wz:mg "abs"=none):
  bz P w K mg base bH 1 f fd ["script"] (Bx K):=by
 refine F.ok o8 (fun vs H Q E h=>?_) (fun cdv A outer s H vs Q E hr h=>?_)
 ·obtain⟨a,ns,rfl,hS,hl,q⟩:=h
  rfl
 obtain⟨a,ns,rfl,hS,hl,q⟩:=h
 refine⟨_,(@ao _ _ _ _ _ (@aF _ _ (1) _ _ _ _ o8.nd rfl (Or.inl rfl) aj (by rfl) (by first|exact .inl rfl|exact .inr rfl|assumption)) (@ao _ _ _ _ _ (@dY _ _ _ _ _ _ _ _ PassesOwn.never rfl (@dH _ _ _ _ (@j8 _ _ _ _ _ _ _ _ _ _ kX (pv 0) kH (@j5 _ _ _ aj))) (aG (i:=2) o8.nd rfl (Or.inl rfl)) (@aB _ _ _ (@aF _ _ (1) _ _ _ _ o8.nd rfl (Or.inl rfl) (@aD _ _ _ _ _ _ _ _ gk (@aD _ _ _ _ _ _ _ _ dJ (@aD _ _ _ _ _ _ _ _ dJ (@aD _ _ _ _ _ _ _ _ fQ (pv 1) aj) (@aD _ _ _ _ _ _ _ _ gk (pv 2) aj)) aj) aj) (by rfl) (by first|exact .inl rfl|exact .inr rfl|assumption))) (by intro _;rfl)) (@aB _ _ _ (@aT _ _ _ _ (@cW _ _ _ _ (@aa _ _ _ _ _ (d9 (cN.of (show dj (az kj) ["script","stir","cell"] _ ["cell"] [none]=true by decide+kernel)) (@dH _ _ _ _ (@j8 _ _ _ _ _ _ _ _ _ _ kX (pv 0) kH (@j5 _ _ _ aj))) (fun _ _ _ _=>⟨(aG (i:=0) (by show List.Nodup (["cell"]:List Str);decide+kernel) rfl (Or.inl rfl)),gm,(@aD _ _ _ _ _ _ _ _ gk (@bW _ _ _ _ _ _ _ _ _ Rr rfl wz PyProof.Rows.boot_abs (@aa _ _ _ _ _ (pv 0) ai rfl) (by decide) (by decide) (by rfl) (by rfl)) (@aD _ _ _ _ _ _ _ _ Dq aj aj))⟩)) (@aa _ _ _ _ _ aj (@aa _ _ _ _ _ aj (@aa _ _ _ _ _ (pv 1) (@aa _ _ _ _ _ aj ai rfl) rfl) rfl) rfl) rfl)))))),?_⟩
 have zP:i7 (ns.map V.int) none (some 63)=ns.map V.int:=by
  have e:(ns.map V.int).length=ns.length:=List.length_map _
  show List.take (min 63 (ns.map V.int).length-0) (List.drop 0 (ns.map V.int))=_
  rw[List.drop_zero]
  exact List.take_of_length_le (by omega)
 walk_at "st"
 refine R.BX hS fun c hc=>?_
 rw[zP]
 refine R.pN (aM.of aL) ?_
 refine zJ (xs:=ns.map V.int) (fun i σ H1=>∃(st:Int) (x:Option V),σ=[some (.ref a),some (.int st),x]/\0<=st/\st<2147483647/\H1=upd H c (.lst (ns.map V.int))) ⟨19,none,rfl,by omega,by omega,rfl⟩ ?_ ?_ ?_
 ·rintro i σ H1 hi ⟨st,x,rfl,h1,h2,rfl⟩
  exact aM.of aL
 ·rintro i x σ H1 hx ⟨st,y,rfl,h1,h2,rfl⟩
  rw[List.getElem?_map] at hx
  obtain⟨n,_,rfl⟩:=Option.map_eq_some_iff.mp hx
  walk_at "st"
  exact⟨_,_,rfl,Int.emod_nonneg _ (by decide),Int.emod_lt_of_pos _ (by decide),rfl⟩
 ·rintro σ H1 ⟨st,x,rfl,h1,h2,rfl⟩
  walk_at "st"
  refine R.BX ((cz hc).seq hS) fun c2 hc2=>?_
  rw[zP]
  refine R.pN (aM.of aL) ?_
  intro acc hacc
  refine R.r6 (xs:=ns.map V.int) (fun i σ H2=>∃(x:Option V),σ=[x]/\H2=upd (upd (upd H c (.lst (ns.map V.int))) c2 (.lst (ns.map V.int))) acc (.lst (((ns.take i).map fun n=>(if n<0 then-n else n)%10^60).map V.int))) ⟨none,rfl,rfl⟩ ?_ ?_ ?_
  ·rintro i σ H1 hi ⟨x,rfl,rfl⟩
   refine aM.of ?_
   rw[aq (fY aL hacc)]
   exact aL
  ·rintro i x σ H1 hx ⟨y,rfl,rfl⟩
   rw[List.getElem?_map] at hx
   obtain⟨n,hn,rfl⟩:=Option.map_eq_some_iff.mp hx
   walk_at "st"
   refine⟨_,aL,?_,_,rfl,?_⟩
   ·rw[List.length_map,List.length_map,List.length_take]
    exact zN (by omega)
   ·rw[yd,List.take_add_one,hn,List.map_append,List.map_append]
    rfl
  ·rintro σ H1 ⟨x,rfl,rfl⟩
   walk_at "st"
   refine(show wo _ _ _ from⟨by show 5<=sizeLine;decide,fun p hp=>?_⟩)
   have hn1:=fY (aL (H:=upd (upd H c (.lst (ns.map V.int))) c2 (.lst (ns.map V.int))) (a:=acc)) hp
   have s1:aO H (upd (upd (upd H c (.lst (ns.map V.int))) c2 (.lst (ns.map V.int))) acc (.lst (((ns.take (ns.map V.int).length).map fun n=>(if n<0 then-n else n)%10^60).map V.int))):=(cz hc).trans ((cz hc2).trans (cz hacc))
   refine q p acc _ (s1.trans (cz hp)) (s1.free hp) ⟨_,0,0,st,0,aL,by rw[aq hn1];exact aL,?_,?_,by omega,by omega,by omega,h1,h2⟩
   ·intro y hy
    obtain⟨z,_,rfl⟩:=List.mem_map.mp hy
    exact⟨Int.emod_nonneg _ (by decide),Int.emod_lt_of_pos _ (by decide)⟩
   ·rw[List.length_map,List.length_take]
    omega
theorem pB:bU ["bag","many","found","k"] ["bag","many"] (az lD):=⟨rfl,rfl,rfl,by decide+kernel,rfl,by decide+kernel,by decide+kernel⟩
theorem T8(F:bJ K "_law_stirred" "_law_stirred" lD f fd)(aY:mg "range"=none):
  bz P w K mg base bH 1 f fd ["bag","many"] iQ:=by
 refine F.ok pB (fun vs H Q E h=>?_) (fun cdv A outer s H vs Q E hr h=>?_)
 ·obtain⟨b,l,many,rfl,hB,hm,hs,q⟩:=h
  rfl
 obtain⟨b,l,many,rfl,hB,hm,hs,q⟩:=h
 refine⟨_,(@ao _ _ _ _ _ (@aF _ _ (2) _ _ _ _ pB.nd rfl (Or.inl rfl) aj (by rfl) (by first|exact .inl rfl|exact .inr rfl|assumption)) (@ao _ _ _ _ _ (@dY _ _ _ _ _ _ _ _ PassesOwn.never rfl (@gG _ _ _ _ _ _ rfl aY (@aa _ _ _ _ _ (@aD _ _ _ _ _ _ _ _ dJ aj (@aD _ _ _ _ _ _ _ _ jh (DB PySem.F.plainAttrs_int PySem.F.slot_int_bit_length PySem.F.type_int_bit_length MH (pv 1)) aj)) ai rfl) (by rfl)) (aG (i:=3) pB.nd rfl (Or.inl rfl)) (@ao _ _ _ _ _ (@fV _ _ _ _ _ _ (@aD _ _ _ _ _ _ _ _ dJ (@aI _ _ _ _ _ _ _ bM (pv 0) aj (fun _ _=>rfl)) aj) (i6 (pv 0) aj set_list) (by rfl) (by rfl) (by rfl)) (@ao _ _ _ _ _ (@fV _ _ _ _ _ _ (@aD _ _ _ _ _ _ _ _ gk (@aD _ _ _ _ _ _ _ _ dJ (@aD _ _ _ _ _ _ _ _ dJ (@aD _ _ _ _ _ _ _ _ dJ (@aD _ _ _ _ _ _ _ _ Dq (@aI _ _ _ _ _ _ _ bM (pv 0) aj (fun _ _=>rfl)) aj) (@aD _ _ _ _ _ _ _ _ fQ aj (@aI _ _ _ _ _ _ _ bM (pv 0) aj (fun _ _=>rfl)))) (@aD _ _ _ _ _ _ _ _ fQ aj (@aI _ _ _ _ _ _ _ bM (pv 0) aj (fun _ _=>rfl)))) aj) aj) (i6 (pv 0) aj set_list) (by rfl) (by rfl) (by rfl)) (@aB _ _ _ (@aF _ _ (2) _ _ _ _ pB.nd rfl (Or.inl rfl) (@aD _ _ _ _ _ _ _ _ dJ (@aD _ _ _ _ _ _ _ _ fQ (pv 2) aj) (@aD _ _ _ _ _ _ _ _ jh (@aI _ _ _ _ _ _ _ bM (pv 0) aj (fun _ _=>rfl)) aj)) (by rfl) (by first|exact .inl rfl|exact .inr rfl|assumption))))) (by intro _;rfl)) (@aB _ _ _ (@aT _ _ _ _ (@aD _ _ _ _ _ _ _ _ gk (pv 2) (pv 1)))))),?_⟩
 have UM:=tY hs
 walk_at "st"
 refine xq (fun i σ H1=>∃(fv:Int) (x:Option V),σ=[some (.ref b),some (.int many),some (.int fv),x]/\aJ (Nb b) H H1/\bR H1 b l) ⟨0,none,rfl,aJ.refl _ _,hB⟩ ?_ ?_
 ·rintro i σ H1 hi ⟨fv,x,rfl,bt,ns,j,c,st,n,h1,h2,h3,h4,h5,h6,h7,h8,h9⟩
  have hlb:=zk h1 h2
  walk_at "st"
  refine⟨_,_,rfl,bt.trans (aJ.set rfl),?_⟩
  exact bR.put hlb h2 h3 h4 h5 h6 h7 (Int.emod_nonneg _ (by decide)) (Int.emod_lt_of_pos _ (by decide))
 ·rintro σ H1 ⟨fv,x,rfl,bt,B⟩
  walk_at "st"
  exact q _ _ (Int.emod_nonneg _ (by omega)) (Int.emod_lt_of_pos _ hm) bt B
theorem As:bU ["bag","many","found"] ["bag","many"] (az mz):=⟨rfl,rfl,rfl,by decide+kernel,rfl,by decide+kernel,by decide+kernel⟩
theorem LS(F:bJ K "_law_draw" "_law_draw" mz f fd)(Uz:Callee P w K mg base "_law_stirred" 1 ["bag","many"] iQ)(bT:mg "len"=none):
  bz P w K mg base bH 2 f fd ["bag","many"] iQ:=by
 refine F.ok As (fun vs H Q E h=>?_) (fun cdv A outer s H vs Q E hr h=>?_)
 ·obtain⟨b,l,many,rfl,hB,hm,hs,q⟩:=h
  rfl
 obtain⟨b,l,many,rfl,hB,hm,hs,q⟩:=h
 refine⟨_,(@ao _ _ _ _ _ (@cH _ _ _ _ _ _ _ _ (PW.pt (kF (@aU _ _ _ _ _ _ _ _ fX (@aI _ _ _ _ _ _ _ bM (pv 0) aj (fun _ _=>rfl)) aj (aP _)) (kC (@aU _ _ _ _ _ _ _ _ zW (@aI _ _ _ _ _ _ _ bM (pv 0) aj (fun _ _=>rfl)) (@bW _ _ _ _ _ _ _ _ _ CY rfl bT PySem.boot_len (@aa _ _ _ _ _ (@aI _ _ _ _ _ _ _ bM (pv 0) aj (fun _ _=>rfl)) ai rfl) (by decide) (by decide) (by rfl) (by rfl)) (aP _))))) (@ao _ _ _ _ _ (@fV _ _ _ _ _ _ (@aI _ _ _ _ _ _ _ bM (@aI _ _ _ _ _ _ _ bM (pv 0) aj (fun _ _=>rfl)) (@aI _ _ _ _ _ _ _ bM (pv 0) aj (fun _ _=>rfl)) (fun _ _=>rfl)) (i6 (pv 0) aj set_list) (by rfl) (by rfl) (by rfl)) (@aB _ _ _ (@fV _ _ _ _ _ _ (@aD _ _ _ _ _ _ _ _ dJ (@aI _ _ _ _ _ _ _ bM (pv 0) aj (fun _ _=>rfl)) aj) (i6 (pv 0) aj set_list) (by rfl) (by rfl) (by rfl)))) (@aB _ _ _ (@cH _ _ _ _ _ _ _ _ (@aU _ _ _ _ _ _ _ _ fX (@aI _ _ _ _ _ _ _ bM (pv 0) aj (fun _ _=>rfl)) aj (aP _)) (@aB _ _ _ (@aT _ _ _ _ (@aN _ _ _ _ _ _ _ _ _ _ Uz (hr.mono (by decide)) (@aa _ _ _ _ _ (pv 0) (@aa _ _ _ _ _ (pv 1) ai rfl) rfl) (by rfl) (by decide) (by rfl) (by rfl)))) cI))) (@ao _ _ _ _ _ (@aF _ _ (2) _ _ _ _ As.nd rfl (Or.inl rfl) (@aD _ _ _ _ _ _ _ _ gk (@aI _ _ _ _ _ _ _ bM (pv 0) aj (fun _ _=>rfl)) (pv 1)) (by rfl) (by first|exact .inl rfl|exact .inr rfl|assumption)) (@ao _ _ _ _ _ (@fV _ _ _ _ _ _ (@aD _ _ _ _ _ _ _ _ jh (@aI _ _ _ _ _ _ _ bM (pv 0) aj (fun _ _=>rfl)) (pv 1)) (i6 (pv 0) aj set_list) (by rfl) (by rfl) (by rfl)) (@aB _ _ _ (@aT _ _ _ _ (pv 2)))))),?_⟩
 obtain⟨ns,i,c,st,n,h1,h2,h3,h4,h5,h6,h7,h8,h9⟩:=id hB
 have hlb:=zk h1 h2
 have fin:∀(H1:Hp) (i' c':Int),H1 b=some (.lst [.ref l, .int i', .int c', .int st, .int n])->aJ (Nb b) H H1->0<=i'->0<=c'->c'<10^60->
   ∀(H2:Hp),H2=upd H1 b (.lst [.ref l, .int i', .int (c'/many), .int st, .int n])->Q (.int (c'%many)) H2:=fun H1 i' c' e1 bt g1 g2 g3 H2 e2=>by
  subst e2
  have hd1:0<=c'/many:=Int.ediv_nonneg g2 (by omega)
  have hd2:c'/many<=c':=Int.ediv_le_self _ g2
  exact q _ _ (Int.emod_nonneg _ (by omega)) (Int.emod_lt_of_pos _ hm) (bt.trans (aJ.set rfl)) (bR.put hlb (bt _ _ hlb h2) h3 h4 g1 hd1 (by omega) h8 h9)
 walk_at "st"
 refine mq (fun c1=>?_) (fun c1=>?_)
 ·have c1:c=0:=of_decide_eq_true c1
  walk_at "st"
  refine mq (fun c2=>?_) (fun c2=>?_)
  ·have c2:i<(List.map V.int ns).length:=of_decide_eq_true c2
   rw[List.length_map] at c2
   have hi:i.toNat<ns.length:=by omega
   obtain⟨g1,g2⟩:=h3 _ (List.getElem_mem hi)
   walk_at "st"
   refine R.pZ h2 (v:= .int ns[i.toNat]) (iz h5 (by rw[List.getElem?_map,List.getElem?_eq_getElem hi];rfl)) ?_
   walk_at "st"
   refine fin (upd H b (.lst [.ref l, .int (i+1), .int ns[i.toNat], .int st, .int n])) (i+1) ns[i.toNat] aL (aJ.set rfl) (by omega) g1 g2 _ ?_
   rw[yd]
   rfl
  ·walk_at "st"
   exact⟨b,l,many,rfl,hB,hm,hs,q⟩
 ·have c1:¬c=0:=of_decide_eq_false (Bool.eq_false_iff.mpr c1)
  walk_at "st"
  exact fin H i c h1 (aJ.refl _ _) h5 h6 h7 _ rfl
theorem Hl(is:List Int):PyData.eqv (.list (is.map PyData.int)) (.list [])=decide (is=[]):=by
 cases is<;>simp[PyData.eqv,PyData.eqvAll]
theorem Su(is:List Int):SeqAt.shaped (.list (is.map PyData.int))=true:=by
 have h:PyData.depthAll (is.map PyData.int)=0/\PyData.canLayAll0 (is.map PyData.int)=true:=by
  induction is with
  |nil=>simp[PyData.depthAll,PyData.canLayAll0]
  |cons a r ih=>simp[PyData.depthAll,PyData.depth,PyData.canLayAll0,PyData.canLay0,ih.2,ih.1]
 unfold SeqAt.shaped
 simp[PyData.canLay0,PyData.depth,h.2,h.1]
theorem AR{nb:Addr->Prop}{H:Hp}:∀is:List Int,ah nb H (is.map PyData.int) (is.map V.int)
 |[]=>ah.nil
 |i::is=>ah.cons (.int i) (AR is)
theorem Lc{r:Int}(h0:r<=10100)(h:∀d:Int,2<=d->d<102->¬(d*d<=r/\r%d=0)):qt r:=fun d d1 d2 e=>by
 by_cases hd:d<102
 ·exact h d d1 hd ⟨d2,e⟩
 ·have:102*102<=d*d:=Int.mul_le_mul (by omega) (by omega) (by omega) (by omega)
  omega
theorem zu:bU ["number","found"] ["number"] (az kW):=⟨rfl,rfl,rfl,by decide+kernel,rfl,by decide+kernel,by decide+kernel⟩
theorem O2(F:bJ K "_law_prime_from" "_law_prime_from" kW f fd)(aY:mg "range"=none):
  bz P w K mg base bH 1 f fd ["number"] yJ:=by
 refine F.ok zu (fun vs H Q E h=>?_) (fun cdv A outer s H vs Q E hr h=>?_)
 ·obtain⟨n,rfl,hn1,hn2,q⟩:=h
  rfl
 obtain⟨n,rfl,hn1,hn2,q⟩:=h
 refine⟨_,(@ao _ _ _ _ _ (@dY _ _ _ _ _ _ _ _ PassesOwn.never rfl (@Ba _ _ _ _ _ _ _ rfl aY (@aa _ _ _ _ _ (pv 0) (@aa _ _ _ _ _ (@aD _ _ _ _ _ _ _ _ dJ (pv 0) aj) ai rfl) rfl) (by rfl) (by rfl)) (aG (i:=1) zu.nd rfl (Or.inr rfl)) (@aB _ _ _ (@cH _ _ _ _ _ _ _ _ (@aU _ _ _ _ _ _ _ _ (oO hr.units) (d9 (cN.of (show dj (az kW) ["number","found"] _ ["k","found"] [none,some 1]=true by decide+kernel)) (@Ba _ _ _ _ _ _ _ rfl aY (@aa _ _ _ _ _ aj (@aa _ _ _ _ _ aj ai rfl) rfl) (by rfl) (by rfl)) (fun _ _ _ _=>⟨(aG (i:=0) (by show List.Nodup (["k","found"]:List Str);decide+kernel) rfl (Or.inl rfl)),(j3 (PW.pt (kF (@aU _ _ _ _ _ _ _ _ EK (@aD _ _ _ _ _ _ _ _ fQ (pv 0) (pv 0)) (pv 1) (aP _)) (kC (@aU _ _ _ _ _ _ _ _ fX (@aD _ _ _ _ _ _ _ _ gk (pv 1) (pv 0)) aj (aP _)))))),(pv 0)⟩)) (@cW _ _ _ _ ai) (aP _)) (@aB _ _ _ (@aT _ _ _ _ (pv 1))) cI)) (by intro _;rfl)) (@aB _ _ _ (@aT _ _ _ _ aj))),?_⟩
 walk_at "st"
 refine xq (fun i σ H1=>aO H H1/\∃(x:Option V),σ=[some (.int n),x]) ⟨aO.refl _,none,rfl⟩ ?_ ?_
 ·rintro i σ H1 hi ⟨s1,x,rfl⟩
  have hi2:(i:Int)<60:=by omega
  walk_at "st"
  intro acc hacc
  refine R.yY (fun j σ H2=>aO H1 H2/\(∃x:Option V,σ=[x,some (.int (n+i))])/\∃is:List Int,H2 acc=some (.lst (is.map V.int))/\is.length<=j/\(is=[]->∀d:Int,2<=d->d<2+j->¬(d*d<=n+i/\(n+i)%d=0))) ?_ ?_ ?_
  ·exact⟨cz hacc,⟨none,rfl⟩,[],aL,Nat.zero_le _,fun _ d d1 d2=>by omega⟩
  ·rintro j σ H2 hj ⟨s2,⟨x,rfl⟩,is,e2,l2,h2⟩
   have hj2:(j:Int)<100:=by omega
   have next:∀d:Int,d<2+((j+1:Nat):Int)->d<2+j\/d=2+j:=fun d h=>by omega
   walk_at "st"
   refine mq (fun c1=>?_) (fun c1=>?_)
   ·have c1:(2+(j:Int))*(2+j)<=n+i:=of_decide_eq_true c1
    walk_at "st"
    refine mq (fun c2=>?_) (fun c2=>?_)
    ·have c2:(n+i)%(2+(j:Int))=0:=of_decide_eq_true c2
     walk_at "st"
     refine⟨_,e2,?_,?_,⟨_,rfl⟩,is++[2+(j:Int)],?_,?_,fun e=>?_⟩
     ·rw[List.length_map];exact zN (by omega)
     ·exact fun a o h=>by rw[aq (fY h hacc)];exact s2 _ _ h
     ·rw[aL,List.map_append];rfl
     ·rw[List.length_append,List.length_singleton];omega
     ·simp at e
    ·have c2:¬(n+i)%(2+(j:Int))=0:=of_decide_eq_false (Bool.eq_false_iff.mpr c2)
     refine⟨s2,⟨_,rfl⟩,is,e2,by omega,fun e d d1 d2=>?_⟩
     rcases next d d2 with h|h
     ·exact h2 e d d1 h
     ·rw[h];exact fun z=>c2 z.2
   ·have c1:¬(2+(j:Int))*(2+j)<=n+i:=of_decide_eq_false (Bool.eq_false_iff.mpr c1)
    walk_at "st"
    refine⟨s2,⟨_,rfl⟩,is,e2,by omega,fun e d d1 d2=>?_⟩
    rcases next d d2 with h|h
    ·exact h2 e d d1 h
    ·rw[h];exact fun z=>c1 z.1
  ·rintro σ H2 ⟨s2,⟨x,rfl⟩,is,e2,l2,h2⟩
   walk_at "st"
   refine R.Sh (by decide) fun p H3 s3 f3 e3=>?_
   refine⟨fun _=>False, .list (is.map PyData.int), .list [], .lst id (s3 _ _ e2) (AR is), .lst id e3 ah.nil,Su is,by decide,?_⟩
   rw[Hl]
   walk_at "st"
   have s:aO H H3:=s1.trans (s2.trans s3)
   refine mq (fun c=>?_) (fun c=>?_)
   ·have c:is=[]:=by simpa using c
    walk_at "st"
    exact q _ _ s (by omega) (by omega) (Lc (by omega) fun d d1 d2=>h2 c d d1 (by omega))
   ·walk_at "st"
    exact⟨s,_,rfl⟩
 ·rintro σ H1 ⟨s1,x,rfl⟩
  walk_at "st"
  refine q _ _ s1 (by omega) (by omega) fun d d1 d2=>?_
  have:2*2<=d*d:=Int.mul_le_mul d1 d1 (by omega) (by omega)
  omega
def qR:DF:=fun ds Φ=>ds=[]/\∀p:Int,eX p->p<10^40->∀f,Φ f (.int p)
theorem E4:cS qR:=by
 intro ds Φ Ψ hm z
 obtain⟨e,q⟩:=hm
 exact⟨e,fun p h1 h2 f=>z _ _ (q p h1 h2 f)⟩
theorem Mh:∀x∈([2,3,5,7,2,11,101,10007,65537,1000003,998244353,1000000007,2147483647,1000000000039,1000000000000000003,18446744073709551557,2305843009213693951,618970019642690137449562111,162259276829213363391578010288127,170141183460469231731687303715884105727,1000000000000000000000000000000000000003,9999999999999999999999999999999999999983]:List Int),x∈qg/\x<10^40:=by decide+kernel
theorem lO:bU ["bag","some","way"] ["bag"] (az mV):=⟨rfl,rfl,rfl,by decide+kernel,rfl,by decide+kernel,by decide+kernel⟩
theorem FG(F:bJ K "_law_prime" "_law_prime" mV f fd)(cK:Callee P w K mg base "_law_draw" 2 ["bag","many"] iQ)(Gu:Callee P w K mg base "_law_prime_from" 1 ["number"] yJ):
  bz P w K mg base bH 3 f fd ["bag"] (fq 1 qR):=by
 refine F.ok lO (fun vs H Q E h=>h.1) (fun cdv A outer s H vs Q E hr h=>?_)
 obtain⟨_,b,l,ws,nb,ds,rfl,hB,hlive,hnb,hds,hF⟩:=h
 obtain⟨Φ,aH,hF⟩:∃Φ:Pd,(∀f d v H',Φ f d->aJ (Nb b) H H'->bR H' b l->af (fun a=>nb a\/(f=true/\H a≠none)) H' d v->Q v H')/\qR ds Φ:=⟨_,fun f d v H' q=>q v H',hF⟩
 obtain⟨rfl,q⟩:=hF
 refine⟨_,(@ao _ _ _ _ _ (@To _ 1 _ _ _ _ _ _ lO.nd rfl (Or.inl rfl) rfl (Or.inl rfl)) (@ao _ _ _ _ _ (@aF _ _ (1) _ _ _ _ lO.nd rfl (Or.inl rfl) (@aD _ _ _ _ _ _ _ _ kB (pv 1) (@cW _ _ _ _ (@gE _ _ _ rfl))) (by rfl) (by first|exact .inl rfl|exact .inr rfl|assumption)) (@ao _ _ _ _ _ (@aF _ _ (1) _ _ _ _ lO.nd rfl (Or.inl rfl) (@aD _ _ _ _ _ _ _ _ kB (pv 1) (@cW _ _ _ _ (@aa _ _ _ _ _ aj (@aa _ _ _ _ _ aj ai rfl) rfl))) (by rfl) (by first|exact .inl rfl|exact .inr rfl|assumption)) (@ao _ _ _ _ _ (@aF _ _ (1) _ _ _ _ lO.nd rfl (Or.inl rfl) (@aD _ _ _ _ _ _ _ _ kB (pv 1) (@cW _ _ _ _ (@aa _ _ _ _ _ aj (@aa _ _ _ _ _ aj ai rfl) rfl))) (by rfl) (by first|exact .inl rfl|exact .inr rfl|assumption)) (@ao _ _ _ _ _ (@aF _ _ (2) _ _ _ _ lO.nd rfl (Or.inl rfl) (@aN _ _ _ _ _ _ _ _ _ _ cK (hr.mono (by decide)) (@aa _ _ _ _ _ (pv 0) (@aa _ _ _ _ _ aj ai rfl) rfl) (by rfl) (by decide) (by rfl) (by rfl)) (by rfl) (by first|exact .inl rfl|exact .inr rfl|assumption)) (@aB _ _ _ (@aT _ _ _ _ (@AA _ _ _ _ _ _ _ _ (@aU _ _ _ _ _ _ _ _ zW (pv 2) aj (aP _)) (@aI _ _ _ _ _ _ (dh K) bM (pv 1) (pv 2) (fun _ _=>rfl)) (@aN _ _ _ _ _ _ _ _ _ _ Gu (hr.mono (by decide)) (@aa _ _ _ _ _ (@aD _ _ _ _ _ _ _ _ dJ aj (@aN _ _ _ _ _ _ _ _ _ _ cK (hr.mono (by decide)) (@aa _ _ _ _ _ (pv 0) (@aa _ _ _ _ _ aj ai rfl) rfl) (by rfl) (by decide) (by rfl) (by rfl))) ai rfl) (by rfl) (by decide) (by rfl) (by rfl)))))))))),?_⟩
 refine Sv.mj hB hlive hnb hds aH (ρ:=[.au, .no, .no]) rfl ?_
 clear aH hds
 walk_at "dt"
 intro way w1 w2
 by_cases c:way<22
 ·walk_at "dt"
  obtain⟨m,em,hm1,hm2⟩:=pick (L:=[2,3,5,7,2,11,101,10007,65537,1000003,998244353,1000000007,2147483647,1000000000039,1000000000000000003,18446744073709551557,2305843009213693951,618970019642690137449562111,162259276829213363391578010288127,170141183460469231731687303715884105727,1000000000000000000000000000000000000003,9999999999999999999999999999999999999983]) (k:=way) w1 (by show _<(22:Int);omega) _ Mh
  refine⟨_,em,?_⟩
  exact q m (O8 m hm1) hm2 _
 ·walk_at "dt"
  intro r r1 r2
  walk_at "dt"
  exact fun r' h1 h2=>q r' h1 h2 _
def qJ:DF:=fun ds Φ=>∃p n:Int,ds=[.int p, .int n]/\Bh p/\0<=n/\n<=10000/\∀os:List Int,(os.length:Int)=n->(∀x∈os,0<=x/\x<p)->Φ true (.list (os.map .int))
theorem Mr:cS qJ:=by
 intro ds Φ Ψ hm z
 obtain⟨p,n,e,h1,h2,h3,q⟩:=hm
 exact⟨p,n,e,h1,h2,h3,fun os a b=>z _ _ (q os a b)⟩
theorem BG:bU ["bag","p","n","way"] ["bag","p","n"] (az jr):=⟨rfl,rfl,rfl,by decide+kernel,rfl,by decide+kernel,by decide+kernel⟩
theorem Kg(F:bJ K "_law_letters" "_law_letters" jr f fd)(cK:Callee P w K mg base "_law_draw" 2 ["bag","many"] iQ)(aY:mg "range"=none)(ig:mg "int"=none)(vI:mg "min"=none):
  bz P w K mg base bH 3 f fd ["bag","p","n"] (fq 3 qJ):=by
 refine F.ok BG (fun vs H Q E h=>h.1) (fun cdv A outer s H vs Q E hr h=>?_)
 obtain⟨_,b,l,ws,nb,ds,rfl,hB,hlive,hnb,hds,hF⟩:=h
 obtain⟨Φ,aH,hF⟩:∃Φ:Pd,(∀f d v H',Φ f d->aJ (Nb b) H H'->bR H' b l->af (fun a=>nb a\/(f=true/\H a≠none)) H' d v->Q v H')/\qJ ds Φ:=⟨_,fun f d v H' q=>q v H',hF⟩
 obtain⟨p,n,rfl,⟨p2,UL⟩,n0,n1,q⟩:=hF
 refine⟨_,(@ao _ _ _ _ _ (@aF _ _ (3) _ _ _ _ BG.nd rfl (Or.inr rfl) (@aN _ _ _ _ _ _ _ _ _ _ cK (hr.mono (by decide)) (@aa _ _ _ _ _ (pv 0) (@aa _ _ _ _ _ aj ai rfl) rfl) (by rfl) (by decide) (by rfl) (by rfl)) (by rfl) (by first|exact .inl rfl|exact .inr rfl|assumption)) (@ao _ _ _ _ _ (@cH _ _ _ _ _ _ _ _ (@aU _ _ _ _ _ _ _ _ fX (pv 3) aj (aP _)) (@aB _ _ _ (@aT _ _ _ _ (d9 (cN.of (show dj (az jr) ["bag","p","n","way"] _ ["k","bag","p"] [none,some 0,some 1]=true by decide+kernel)) (@gG _ _ _ _ _ _ rfl aY (@aa _ _ _ _ _ (pv 2) ai rfl) (by rfl)) (fun _ _ _ _=>⟨(aG (i:=0) (by show List.Nodup (["k","bag","p"]:List Str);decide+kernel) rfl (Or.inl rfl)),gm,(@aD _ _ _ _ _ _ _ _ fQ (@aN _ _ _ _ _ _ _ _ _ _ cK (hr.mono (by decide)) (@aa _ _ _ _ _ (pv 1) (@aa _ _ _ _ _ (pv 2) ai rfl) rfl) (by rfl) (by decide) (by rfl) (by rfl)) (@gU _ _ _ _ _ _ _ _ _ Fp rfl ig PyProof.Rows.boot_int (@aa _ _ _ _ _ (@oE _ _ _ _ _ _ _ _ fX (@aN _ _ _ _ _ _ _ _ _ _ cK (hr.mono (by decide)) (@aa _ _ _ _ _ (pv 1) (@aa _ _ _ _ _ aj ai rfl) rfl) (by rfl) (by decide) (by rfl) (by rfl)) aj (aP _)) ai rfl) (by decide) (by decide) (by rfl) (by rfl)))⟩)))) cI) (@aB _ _ _ (@aT _ _ _ _ (d9 (cN.of (show dj (az jr) ["bag","p","n","way"] _ ["k","bag","p","way"] [none,some 0,some 1,some 3]=true by decide+kernel)) (@gG _ _ _ _ _ _ rfl aY (@aa _ _ _ _ _ (pv 2) ai rfl) (by rfl)) (fun _ _ _ _=>⟨(aG (i:=0) (by show List.Nodup (["k","bag","p","way"]:List Str);decide+kernel) rfl (Or.inl rfl)),gm,(@aN _ _ _ _ _ _ _ _ _ _ cK (hr.mono (by decide)) (@aa _ _ _ _ _ (pv 1) (@aa _ _ _ _ _ (@aI _ _ _ _ _ _ (dh K) bM (@cW _ _ _ _ (@aa _ _ _ _ _ (pv 2) (@aa _ _ _ _ _ (@bW _ _ _ _ _ _ _ _ _ (E3 rfl) rfl vI PyProof.Rows.boot_min (@aa _ _ _ _ _ (pv 2) (@aa _ _ _ _ _ aj ai rfl) rfl) (by decide) (by decide) (by rfl) (by rfl)) ai rfl) rfl)) (pv 3) (fun _ _=>rfl)) ai rfl) rfl) (by rfl) (by decide) (by rfl) (by rfl))⟩)))))),?_⟩
 refine Sv.mj hB hlive hnb hds aH (ρ:=[.au, .d false _, .d false _, .no]) rfl ?_
 clear aH hds
 walk_at "dt"
 intro way w1 w2
 by_cases c:way=2
 ·walk_at "dt"
  refine ay.ev (ay.jU (by decide) rfl ?_)
  walk_at "dt"
  refine fW.ints (fun x=>0<=x/\x<p) ?_ fun os iN hos=>q os (by omega) hos
  rintro i d ⟨hi,rfl⟩
  walk_at "dt"
  refine⟨by walk_at "wk",?_⟩
  walk_at "dt"
  intro r r1 r2
  walk_at "dt"
  intro s s1 s2
  by_cases c2:s=3
  ·walk_at "dt"
   rw[decide_eq_true c2]
   exact⟨by simp;omega,by simp;omega⟩
  ·walk_at "dt"
   rw[decide_eq_false c2]
   exact⟨by simp,by simp;omega⟩
 ·obtain⟨m,em,m1,m2⟩:∃m:Int,bh [PyData.int p, .int (if 3<p then 3 else p)] way=some (.int m)/\1<=m/\m<=p:=by
   rcases(show way=0\/way=1 by omega) with rfl|rfl
   ·exact⟨p,rfl,by omega,by omega⟩
   ·exact⟨_,rfl,by split<;>omega,by split<;>omega⟩
  walk_at "dt"
  refine ay.ev (ay.jU (by decide) rfl ?_)
  walk_at "dt"
  refine fW.ints (fun x=>0<=x/\x<p) ?_ fun os iN hos=>q os (by omega) hos
  rintro i d ⟨hi,rfl⟩
  walk_at "dt"
  refine⟨by walk_at "wk",?_⟩
  walk_at "dt"
  exact fun r r1 r2=>⟨r,rfl,r1,by omega⟩
def oY:DF:=fun ds Φ=>∃p a b:Int,ds=[.int p, .int a, .int b]/\eX p/\p<10^40/\b%p≠0/\ -(10^61)<=a/\a<=10^61/\((∃k,b*sol p b a-a=p*k)->Φ true (.int (sol p b a)))
theorem zY:cS oY:=by
 intro ds Φ Ψ hm z
 obtain⟨p,a,b,e,h1,h2,h3,h4,h5,q⟩:=hm
 exact⟨p,a,b,e,h1,h2,h3,h4,h5,fun h=>z _ _ (q h)⟩
theorem iR:bU ["p","a","b","old","new","one","two","times"] ["p","a","b"] (az mC):=⟨rfl,rfl,rfl,by decide+kernel,rfl,by decide+kernel,by decide+kernel⟩
theorem Ij(F:bJ K "_law_over" "_law_over" mC f fd):
  bz P w K mg base bH 1 f fd ["p","a","b"] (bA 3 oY):=by
 refine F.ok iR (fun vs H Q E h=>h.1) (fun cdv A outer s H vs Q E hr h=>?_)
 obtain⟨_,nb,ds,hlive,hds,hF⟩:=h
 obtain⟨Φ,aH,hF⟩:∃Φ:Pd,(∀f d v H',Φ f d->aO H H'->af (fun a=>nb a\/(f=true/\H a≠none)) H' d v->Q v H')/\oY ds Φ:=⟨_,fun f d v H' q=>q v H',hF⟩
 obtain⟨p,a,b,rfl,hp,lF,hb,a0,a1,q⟩:=hF
 refine⟨_,(@ao _ _ _ _ _ (@fV _ _ _ _ _ _ (@aX _ _ _ _ _ (@aa _ _ _ _ _ (@aD _ _ _ _ _ _ _ _ gk (pv 2) (pv 0)) (@aa _ _ _ _ _ (pv 0) (@aa _ _ _ _ _ aj (@aa _ _ _ _ _ aj ai rfl) rfl) rfl) rfl)) (@eU _ (K) _ _ _ (4) _ rfl rfl (@aW _ _ _ _ _ (aG (i:=3) iR.nd rfl (Or.inl rfl)) (@aW _ _ _ _ _ (aG (i:=4) iR.nd rfl (Or.inl rfl)) (@aW _ _ _ _ _ (aG (i:=5) iR.nd rfl (Or.inl rfl)) (@aW _ _ _ _ _ (aG (i:=6) iR.nd rfl (Or.inl rfl)) eB (by rfl)) (by rfl)) (by rfl)) (by rfl)) (by rfl) (by rfl)) (by rfl) (by rfl) (by rfl)) (@ao _ _ _ _ _ (@tU _ _ _ _ _ _ PassesOwn.never (@aU _ _ _ _ _ _ _ _ gF (pv 4) aj (aP _)) (@ao _ _ _ _ _ (@aF _ _ (7) _ _ _ _ iR.nd rfl (Or.inl rfl) (@aD _ _ _ _ _ _ _ _ jh (pv 3) (pv 4)) (by rfl) (by first|exact .inl rfl|exact .inr rfl|assumption)) (@aB _ _ _ (@fV _ _ _ _ _ _ (@aX _ _ _ _ _ (@aa _ _ _ _ _ (pv 4) (@aa _ _ _ _ _ (@aD _ _ _ _ _ _ _ _ iP (pv 3) (@aD _ _ _ _ _ _ _ _ fQ (pv 7) (pv 4))) (@aa _ _ _ _ _ (pv 6) (@aa _ _ _ _ _ (@aD _ _ _ _ _ _ _ _ iP (pv 5) (@aD _ _ _ _ _ _ _ _ fQ (pv 7) (pv 6))) ai rfl) rfl) rfl) rfl)) (@eU _ (K) _ _ _ (4) _ rfl rfl (@aW _ _ _ _ _ (aG (i:=3) iR.nd rfl (Or.inl rfl)) (@aW _ _ _ _ _ (aG (i:=4) iR.nd rfl (Or.inl rfl)) (@aW _ _ _ _ _ (aG (i:=5) iR.nd rfl (Or.inl rfl)) (@aW _ _ _ _ _ (aG (i:=6) iR.nd rfl (Or.inl rfl)) eB (by rfl)) (by rfl)) (by rfl)) (by rfl)) (by rfl) (by rfl)) (by rfl) (by rfl) (by rfl))))) (@aB _ _ _ (@aT _ _ _ _ (@aD _ _ _ _ _ _ _ _ gk (@aD _ _ _ _ _ _ _ _ fQ (pv 1) (pv 5)) (pv 0)))))),?_⟩
 refine Sv.fE hlive hds aH (ρ:=[.d false _, .d false _, .d false _, .no, .no, .no, .no, .no]) rfl ?_
 clear aH hds
 have p2:=hp.1
 have m1:=Int.emod_nonneg b (show p≠0 by omega)
 have m2:=Int.emod_lt_of_pos b (show 0<p by omega)
 walk_at "dt"
 show jO _ _ _ _ [PyData.int (b%p), .int p, .int 1, .int 0] _
 walk_at "dt"
 refine Sv.Ah (fun ρ=>∃(L lt r t:Int) (x6:Sl),ρ=[.d false (.int p), .d false (.int a), .d false (.int b), .d true (.int L), .d true (.int r), .d true (.int lt), .d true (.int t),x6]/\(-p<=lt/\lt<=p)/\((L=b%p/\r=p/\lt=1/\t=0)\/Eu p b L lt r t)) (fun ρ:Rh=>match ρ[4]? with|some (Sl.d _ (PyData.int r))=>r.toNat|_=>0) ⟨_,_,_,_,_,rfl,by omega, .inl ⟨rfl,rfl,rfl,rfl⟩⟩ ?_
 rintro ρ ⟨L,lt,r,t,x6,rfl,hlt,hI⟩
 by_cases c:r=0
 ·rcases hI with ⟨_,h,_,_⟩|hE
  ·omega
  subst c
  obtain⟨k,hk⟩:=hE.fin hp hb
  obtain⟨t1,t2⟩:=hE.tb
  have sa:Sm a:=by unfold Sm;omega
  have sl:Sm lt:=by unfold Sm;omega
  walk_at "dt"
  have e:=Int.mul_ediv_add_emod (a*lt) p
  have ef:=Int.mul_ediv_add_emod lt p
  have ex:∃k,b*(a*lt%p)-a=p*k:=⟨a*k+a*(lt/p)*b-a*lt/p*b,by
   generalize a*lt/p=Q1 at*
   generalize a*lt%p=R1 at*
   generalize lt/p=Q2 at*
   generalize lt%p=R2 at*
   have h1:R1=a*lt-p*Q1:=by omega
   have h2:lt=p*Q2+R2:=by omega
   rw[h1]
   have h3:a*(R2*b)=a*(1+p*k):=by rw[hk]
   grind⟩
  have es:=AB (x:=a*lt%p) (a:=a) hp hb (Int.emod_nonneg _ (by omega)) (Int.emod_lt_of_pos _ (by omega)) ex
  rw[es]
  rw[es] at ex
  exact q ex
 ·rcases hI with ⟨rfl,rfl,rfl,rfl⟩|hE
  ·have e0:b%r/r=0:=Int.ediv_eq_zero_of_lt m1 m2
   walk_at "dt"
   show jO _ _ _ _ [PyData.int r, .int (b%r-b%r/r*r), .int 0, .int (1-b%r/r*0)] _
   rw[e0]
   walk_at "dt"
   refine⟨⟨_,_,_,_,_,rfl,by omega, .inr ?_⟩,?_⟩
   ·rw[Int.zero_mul,Int.sub_zero,Int.mul_zero,Int.sub_zero]
    exact Eu.start p2
   ·show(b%r-0*r).toNat<r.toNat
    rw[Int.zero_mul];omega
  ·obtain⟨t1,t2⟩:=hE.tb
   have e1:=hE.l0
   have e2:=hE.r0
   have e3:=hE.lp
   have e4:=hE.rp
   have hr:0<r:=by omega
   have q1:0<=L/r:=Int.ediv_nonneg (by omega) (by omega)
   have q2:L/r<=L:=Int.ediv_le_self _ (by omega)
   obtain⟨N1,N2⟩:=hE.next hr
   walk_at "dt"
   show jO _ _ _ _ [PyData.int r, .int (L-L/r*r), .int t, .int (lt-L/r*t)] _
   walk_at "dt"
   exact⟨⟨_,_,_,_,_,rfl,⟨t1,t2⟩, .inr N1⟩,by show(L-L/r*r).toNat<r.toNat;omega⟩
def lB:DF:=fun ds Φ=>∃(p:Int) (prs:aA) (wd:Wo),ds=[.int p,dS prs,ji wd]/\0<p/\prs.length<=10000/\lJ prs wd.length/\kJ wd/\Φ true (.int (aZ prs wd%p))
theorem wX:cS lB:=by
 intro ds Φ Ψ hm z
 obtain⟨p,prs,wd,e,h1,h2,h3,h4,q⟩:=hm
 exact⟨p,prs,wd,e,h1,h2,h3,h4,z _ _ q⟩
theorem Th:bU ["p","pairs","word"] ["p","pairs","word"] (az kZ):=⟨rfl,rfl,rfl,by decide+kernel,rfl,by decide+kernel,by decide+kernel⟩
theorem P6(F:bJ K "_law_sum" "_law_sum" kZ f fd)(ja:mg "sum"=none):
    bz P w K mg base bH 1 f fd ["p","pairs","word"] (bA 3 lB):=by
  refine F.ok Th (fun vs H Q E h=>h.1) (fun cdv A outer s H vs Q E hr h=>?_)
  obtain⟨_,nb,ds,hlive,hds,hF⟩:=h
  obtain⟨Φ,aH,hF⟩:∃Φ:Pd,(∀f d v H',Φ f d->aO H H'->af (fun a=>nb a\/(f=true/\H a≠none)) H' d v->Q v H')/\lB ds Φ:=⟨_,fun f d v H' q=>q v H',hF⟩
  obtain⟨p,prs,wd,rfl,hp,hl,h1,h2,q⟩:=hF
  refine⟨_,(@aB _ _ _ (@aT _ _ _ _ (@aD _ _ _ _ _ _ _ _ gk (@bW _ _ _ _ _ _ _ _ (nW K) (vS rfl) rfl ja PyProof.Rows.boot_sum (@aa _ _ _ _ _ (d9 (cN.of (show dj (az kZ) ["p","pairs","word"] _ ["place","factor","word"] [none,none,some 2]=true by decide+kernel)) (@dH _ _ _ _ (pv 1)) (fun _ _ _ _=>⟨(@eU _ (K) _ _ _ (2) _ rfl rfl (@aW _ _ _ _ _ (aG (i:=0) (by show List.Nodup (["place","factor","word"]:List Str);decide+kernel) rfl (Or.inl rfl)) (@aW _ _ _ _ _ (aG (i:=1) (by show List.Nodup (["place","factor","word"]:List Str);decide+kernel) rfl (Or.inl rfl)) eB (by rfl)) (by rfl)) (by rfl) (by rfl)),(j3 (@aU _ _ _ _ _ _ _ _ tM (@aI _ _ _ _ _ _ (dh K) bM (pv 2) (pv 0) (fun _ _=>rfl)) mU (aP _))),(@aD _ _ _ _ _ _ _ _ fQ (pv 1) (@aI _ _ _ _ _ _ (dh K) bM (pv 2) (pv 0) (fun _ _=>rfl)))⟩)) ai rfl) (by decide) (by decide) (by rfl) (by rfl)) (pv 0)))),?_⟩
  refine Sv.fE hlive hds aH (ρ:=[.d false _, .d false _, .d false _]) rfl ?_
  clear aH hds
  walk_at "dt"
  refine ay.ev (ay.iA (by decide) rfl ?_)
  walk_at "dt"
  refine⟨by rw[List.length_map];exact hl,fun v=>⟨false,fun i ds=>∃ns:List Int,ds=ns.map .int/\ns.sum=aZ (prs.take i) wd,⟨[],rfl,by simp[aZ]⟩,?_,?_⟩⟩
  · rintro i d ds hd hl' ⟨ns,rfl,hs⟩
    obtain⟨pr,bC,rfl⟩:=dU hd
    obtain⟨g1,g2,g3⟩:=h1 pr (List.mem_of_getElem? bC)
    obtain⟨o,ho,hat⟩:=yX (xs:=wd) eZ g1 g2 rfl
    have hi:i<prs.length:=(List.getElem?_eq_some_iff.mp bC).1
    have ug:=zL (wd:=wd) hi
    have QG:prs[i]=pr:=(List.getElem?_eq_some_iff.mp bC).2
    rw[QG] at ug
    walk_at "dt"
    refine⟨by walk_at "wk",?_⟩
    walk_at "dt"
    rw[Dk]
    cases o with
    | none =>
      walk_at "dt"
      refine⟨ns,rfl,?_⟩
      rw[ug,hs]
      unfold eG
      rw[ho];simp
    | some x =>
      have hx:Sm x:=h2 x (List.mem_of_getElem? ho)
      have Vc:bh (wd.map eZ) pr.1=some (.int x):=hat
      walk_at "dt"
      refine⟨ns++[pr.2*x],by simp,?_⟩
      rw[ug,List.sum_append,hs]
      unfold eG
      rw[ho];simp
  · rintro ds hl' ⟨ns,rfl,hs⟩
    rw[List.length_map,List.take_length] at hs
    refine⟨ns,rfl,?_⟩
    rw[hs]
    walk_at "dt"
    exact q
def pK:Option aA->PyData
 |none=> .none
 |some prs=>dS prs
def pH:DF:=fun ds Φ=>∃(p wide:Int) (wd:List Int),ds=[.int p, .list (wd.map .int), .int wide]/\eX p/\p<10^40/\1<=wd.length/\wd.length<=400/\(∀x∈wd,0<=x/\x<p)/\1<=wide/\wide<=60/\∀(o:Option aA) (f:Bool),(∀prs,o=some prs->iB p wd.length prs)->Φ f (pK o)
theorem MB:cS pH:=by
 intro ds Φ Ψ hm z
 obtain⟨p,w,wd,e,h1,h2,h3,h4,h5,h6,h7,q⟩:=hm
 exact⟨p,w,wd,e,h1,h2,h3,h4,h5,h6,h7,fun o f h=>z _ _ (q o f h)⟩
theorem mK:bU ["bag","p","word","wide","n","places","pairs","rest","last"] ["bag","p","word","wide"] (az jw):=⟨rfl,rfl,rfl,by decide+kernel,rfl,by decide+kernel,by decide+kernel⟩
theorem Nl(F:bJ K "_law_planted_check" "_law_planted_check" jw f fd)(oj:Callee P w K mg base "_law_sum" 1 ["p","pairs","word"] (bA 3 lB))(cK:Callee P w K mg base "_law_draw" 2 ["bag","many"] iQ)(vA:Callee P w K mg base "_law_over" 1 ["p","a","b"] (bA 3 oY))(bT:mg "len"=none)(iW:mg "sorted"=none)(lE:mg "set"=none)(aY:mg "range"=none):
  bz P w K mg base bH 3 f fd ["bag","p","word","wide"] (fq 4 pH):=by
 refine F.ok mK (fun vs H Q E h=>h.1) (fun cdv A outer s H vs Q E hr h=>?_)
 obtain⟨_,b,l,ws,nb,ds,rfl,hB,hlive,hnb,hds,hF⟩:=h
 obtain⟨Φ,aH,hF⟩:∃Φ:Pd,(∀f d v H',Φ f d->aJ (Nb b) H H'->bR H' b l->af (fun a=>nb a\/(f=true/\H a≠none)) H' d v->Q v H')/\pH ds Φ:=⟨_,fun f d v H' q=>q v H',hF⟩
 obtain⟨p,wide,wd,rfl,hp,lF,w1,w2,pA,d1,d2,q⟩:=hF
 refine⟨_,(@ao _ _ _ _ _ (@aF _ _ (4) _ _ _ _ mK.nd rfl (Or.inr rfl) (@bW _ _ _ _ _ _ _ _ (fN K) ie rfl bT PySem.boot_len (@aa _ _ _ _ _ (pv 2) ai rfl) (by decide) (by decide) (by rfl) (by rfl)) (by rfl) (by first|exact .inl rfl|exact .inr rfl|assumption)) (@ao _ _ _ _ _ (@aF _ _ (5) _ _ _ _ mK.nd rfl (Or.inl rfl) (@bW _ _ _ _ _ _ _ _ (rM P w) (Ae rfl) rfl iW PyProof.Rows.boot_sorted (@aa _ _ _ _ _ (@gU _ _ _ _ _ _ _ _ (rB P w K) (zA rfl) rfl lE PyProof.Rows.boot_set (@aa _ _ _ _ _ (d9 (cN.of (show dj (az jw) ["bag","p","word","wide","n","places","pairs","rest","last"] _ ["k","bag","n"] [none,some 0,some 4]=true by decide+kernel)) (@gG _ _ _ _ _ _ rfl aY (@aa _ _ _ _ _ (@aD _ _ _ _ _ _ _ _ dJ aj (@aN _ _ _ _ _ _ _ _ _ _ cK (hr.mono (by decide)) (@aa _ _ _ _ _ (pv 0) (@aa _ _ _ _ _ (pv 3) ai rfl) rfl) (by rfl) (by decide) (by rfl) (by rfl))) ai rfl) (by rfl)) (fun _ _ _ _=>⟨(aG (i:=0) (by show List.Nodup (["k","bag","n"]:List Str);decide+kernel) rfl (Or.inl rfl)),gm,(@aN _ _ _ _ _ _ _ _ _ _ cK (hr.mono (by decide)) (@aa _ _ _ _ _ (pv 1) (@aa _ _ _ _ _ (pv 2) ai rfl) rfl) (by rfl) (by decide) (by rfl) (by rfl))⟩)) ai rfl) (by decide) (by decide) (by rfl) (by rfl)) ai rfl) (by decide) (by decide) (by rfl) (by rfl)) (by rfl) (by first|exact .inl rfl|exact .inr rfl|assumption)) (@ao _ _ _ _ _ (Eo (i:=6) mK.nd rfl rfl (cN.of (show dj (az jw) ["bag","p","word","wide","n","places","pairs","rest","last"] _ ["place","bag","p"] [none,some 0,some 1]=true by decide+kernel)) (@dH _ _ _ _ (pv 5)) (fun _ _ _ _=>⟨(aG (i:=0) (by show List.Nodup (["place","bag","p"]:List Str);decide+kernel) rfl (Or.inl rfl)),gm,(@aX _ _ _ _ _ (@aa _ _ _ _ _ (pv 0) (@aa _ _ _ _ _ (@aD _ _ _ _ _ _ _ _ dJ aj (@aN _ _ _ _ _ _ _ _ _ _ cK (hr.mono (by decide)) (@aa _ _ _ _ _ (pv 1) (@aa _ _ _ _ _ (@aD _ _ _ _ _ _ _ _ iP (pv 2) aj) ai rfl) rfl) (by rfl) (by decide) (by rfl) (by rfl))) ai rfl) rfl))⟩)) (@ao _ _ _ _ _ (@aF _ _ (7) _ _ _ _ mK.nd rfl (Or.inl rfl) (@aN _ _ _ _ _ _ _ _ _ _ oj (hr.mono (by decide)) (@aa _ _ _ _ _ (pv 1) (@aa _ _ _ _ _ (@j8 _ _ _ _ _ _ _ _ _ (iZ K) kX (pv 6) kH (@j5 _ _ _ (@qG _ _ _ _ _ _ rK aj))) (@aa _ _ _ _ _ (pv 2) ai rfl) rfl) rfl) (by rfl) (by decide) (by rfl) (by rfl)) (by rfl) (by first|exact .inl rfl|exact .inr rfl|assumption)) (@ao _ _ _ _ _ (@aF _ _ (8) _ _ _ _ mK.nd rfl (Or.inl rfl) (@aI _ _ _ _ _ _ (dh K) bM (pv 5) (@qG _ _ _ _ _ _ rK aj) (fun _ _=>rfl)) (by rfl) (by first|exact .inl rfl|exact .inr rfl|assumption)) (@ao _ _ _ _ _ (@cH _ _ _ _ _ _ _ _ (PW.pt (kF (@aU _ _ _ _ _ _ _ _ gF (pv 7) aj (aP _)) (kC (@aU _ _ _ _ _ _ _ _ gF (@aI _ _ _ _ _ _ (dh K) bM (pv 2) (pv 8) (fun _ _=>rfl)) aj (aP _))))) (@aB _ _ _ (@aT _ _ _ _ (@aD _ _ _ _ _ _ _ _ kB (@j8 _ _ _ _ _ _ _ _ _ (iZ K) kX (pv 6) kH (@j5 _ _ _ (@qG _ _ _ _ _ _ rK aj))) (@cW _ _ _ _ (@aa _ _ _ _ _ (@aX _ _ _ _ _ (@aa _ _ _ _ _ (pv 8) (@aa _ _ _ _ _ (@aN _ _ _ _ _ _ _ _ _ _ vA (hr.mono (by decide)) (@aa _ _ _ _ _ (pv 1) (@aa _ _ _ _ _ (@aD _ _ _ _ _ _ _ _ iP aj (pv 7)) (@aa _ _ _ _ _ (@aI _ _ _ _ _ _ (dh K) bM (pv 2) (pv 8) (fun _ _=>rfl)) ai rfl) rfl) rfl) (by rfl) (by decide) (by rfl) (by rfl)) ai rfl) rfl)) ai rfl))))) cI) (@ao _ _ _ _ _ (@cH _ _ _ _ _ _ _ _ (PW.pt (kF (@aU _ _ _ _ _ _ _ _ fX (pv 7) aj (aP _)) (kC (@aU _ _ _ _ _ _ _ _ fX (@aI _ _ _ _ _ _ (dh K) bM (pv 2) (pv 8) (fun _ _=>rfl)) aj (aP _))))) (@aB _ _ _ (@aT _ _ _ _ (pv 6))) cI) (@aB _ _ _ (@aT _ _ _ _ (@AA _ _ _ _ _ _ _ _ (PW.pt (kF (@aU _ _ _ _ _ _ _ _ fX (pv 7) aj (aP _)) (kC (@aU _ _ _ _ _ _ _ _ nh (@bW _ _ _ _ _ _ _ _ (fN K) ie rfl bT PySem.boot_len (@aa _ _ _ _ _ (pv 6) ai rfl) (by decide) (by decide) (by rfl) (by rfl)) aj (aP _))))) (@j8 _ _ _ _ _ _ _ _ _ (iZ K) kX (pv 6) kH (@j5 _ _ _ (@qG _ _ _ _ _ _ rK aj))) mU)))))))))),?_⟩
 refine Sv.mj hB hlive hnb hds aH (ρ:=[.au, .d false _, .d false _, .d false _, .no, .no, .no, .no, .no]) rfl ?_
 clear aH hds
 have p2:=hp.1
 have Dc:(wd.map PyData.int).length=wd.length:=List.length_map ..
 have hsm:∀x:Int,0<=x->x<=p->Sm x:=fun x x0 x1=>by unfold Sm;omega
 walk_at "dt"
 refine ay.ev (ay.Ex (ay.ev (ay.jU (by decide) rfl ?_)))
 walk_at "dt"
 intro k0 k1 k2
 walk_at "dt"
 refine fW.ints (fun x=>0<=x/\x<(wd.map PyData.int).length) ?_ fun os iN hos=>⟨os,rfl,by omega,fun rs xO hmem=>?_⟩
 ·rintro i d ⟨hi,rfl⟩
  walk_at "dt"
  refine⟨by walk_at "wk",?_⟩
  walk_at "dt"
  exact fun r r1 r2=>⟨r,rfl,r1,r2⟩
 have hrs:rs.Nodup:=xO.imp fun h=>by omega
 have hrl:0<rs.length:=by
  have:0<os.length:=by omega
  obtain⟨y,hy⟩:=List.exists_mem_of_length_pos this
  exact List.length_pos_of_mem ((hmem y).mpr hy)
 have Hw:rs.length<=os.length:=List.Nodup.length_le_of_subset hrs fun k hk=>(hmem k).mp hk
 walk_at "dt"
 refine ay.ev (ay.iA (by decide) rfl ?_)
 walk_at "dt"
 refine⟨by rw[List.length_map];omega,fun v=>fW.rel pairD true (fun i pr=>rs[i]?=some pr.1/\1<=pr.2/\pr.2<p) ?_ fun prs hpl cy=>?_⟩
 ·rintro i d hd
  obtain⟨x,hx,rfl⟩:=dU hd
  walk_at "dt"
  refine⟨by walk_at "wk",?_⟩
  walk_at "dt"
  intro r r1 r2
  walk_at "dt"
  exact⟨fun _=>rfl,(x,1+r),rfl,hx,by show 1<=1+r;omega,by show 1+r<p;omega⟩
 rw[List.length_map] at hpl
 have qD:prs.map (·.1)=rs:=by
  apply List.ext_getElem?
  intro j
  rw[List.getElem?_map]
  cases e:prs[j]? with
  |none=>rw[List.getElem?_eq_none (by have:=List.getElem?_eq_none_iff.mp e;omega)];rfl
  |some pr=>exact(cy j pr e).1.symm
 have hQ:iB p wd.length prs:=⟨by rw[qD];exact hrs,by omega,fun pr bC=>by
  obtain⟨k,hk⟩:=List.getElem?_of_mem bC
  have h2:=cy k pr hk
  have h1:=hos pr.1 ((hmem _).mp (List.mem_of_getElem? h2.1))
  omega⟩
 have J5:(prs.map pairD).length=prs.length:=List.length_map ..
 have pV:eN (prs.map pairD) none (some (-1))=prs.dropLast.map pairD:=by
  unfold eN HT.cO
  simp only[List.drop_zero,Nat.sub_zero]
  rw[List.dropLast_eq_take,List.map_take,J5]
  congr 1
  first|omega|(split<;>omega)
 have hdl:prs.dropLast.length=prs.length-1:=List.length_dropLast ..
 have u7:iB p wd.length prs.dropLast:=⟨((List.dropLast_sublist prs).map _).nodup hQ.1,by omega,fun pr bC=>hQ.2.2 pr (List.dropLast_subset _ bC)⟩
 have AS:rs.length-1<rs.length:=by omega
 have Gh:bh (rs.map PyData.int) (-1)=some (.int rs[rs.length-1]):=by
  unfold bh eV
  rw[if_neg (by decide),if_pos (by rw[List.length_map];omega)]
  show(rs.map PyData.int)[_]?=_
  rw[List.getElem?_map,List.length_map,show(-1+(rs.length:Int)).toNat=rs.length-1 by omega,List.getElem?_eq_getElem AS];rfl
 obtain⟨last,qB⟩:∃x,rs[rs.length-1]=x:=⟨_,rfl⟩
 rw[qB] at Gh
 have lT:0<=last/\last<wd.length:=by
  have:=hos last ((hmem _).mp (qB▸List.getElem_mem AS))
  omega
 have hlt:last.toNat<wd.length:=by omega
 have Vj:bh (wd.map PyData.int) last=some (.int wd[last.toNat]):=iz lT.1 (by rw[List.getElem?_map,List.getElem?_eq_getElem hlt];rfl)
 have hwl:=pA _ (List.getElem_mem hlt)
 generalize wd[last.toNat]=wl at*
 have hD:wd.map PyData.int=(wd.map some).map eZ:=by rw[List.map_map];rfl
 have Me:lJ prs.dropLast (wd.map some).length:=fun pr bC=>by
  have:=u7.2.2 pr bC
  rw[List.length_map]
  exact⟨this.1,this.2.1,hsm _ (by omega) (by omega)⟩
 have Qj:kJ (wd.map some):=fun x hx=>by
  obtain⟨y,hy,e⟩:=List.mem_map.mp hx
  cases e
  have:=pA x hy
  exact hsm x (by omega) (by omega)
 walk_at "dt"
 refine Ev.dD wX ?_
 walk_at "dt"
 refine⟨rfl,p,prs.dropLast,wd.map some,by show[_,PyData.list _,PyData.list _]=_;rw[pV,hD],by omega,by omega,Me,Qj,?_⟩
 have R0:=Int.emod_nonneg (aZ prs.dropLast (wd.map some)) (show p≠0 by omega)
 have R1:=Int.emod_lt_of_pos (aZ prs.dropLast (wd.map some)) (show 0<p by omega)
 generalize aZ prs.dropLast (wd.map some)%p=R at*
 walk_at "dt"
 by_cases cR:R=0
 ·walk_at "dt"
  by_cases cw:wl=0
  ·walk_at "dt"
   exact q (some prs) _ (fun _ e=>by cases e;exact hQ)
  ·walk_at "dt"
   by_cases cl:1<((prs.map pairD).length:Int)
   ·walk_at "dt"
    rw[pV]
    exact q (some prs.dropLast) _ (fun _ e=>by cases e;exact u7)
   ·walk_at "dt"
    exact q none _ (fun _ e=>by cases e)
 ·walk_at "dt"
  by_cases cw:wl=0
  ·walk_at "dt"
   exact q none _ (fun _ e=>by cases e)
  ·have hwp:wl%p≠0:=by rw[Int.emod_eq_of_lt (by omega) (by omega)];exact cw
   walk_at "dt"
   refine Ev.dD zY ?_
   walk_at "dt"
   refine⟨rfl,p,0-R,wl,rfl,hp,lF,hwp,by omega,by omega,fun⟨k,hk⟩=>?_⟩
   have hs:=yN (p:=p) (b:=wl) (a:=0-R) (by omega)
   generalize sol p wl (0-R)=sl at*
   have hs1:sl≠0:=fun z=>by
    subst z
    rw[Int.mul_zero] at hk
    have US:R=p*k:=by omega
    rcases Int.lt_trichotomy k 0 with z|z|z
    ·have:p*k<=p*(-1):=Int.mul_le_mul_of_nonneg_left (by omega) (by omega)
     omega
    ·subst z;omega
    ·have:p*1<=p*k:=Int.mul_le_mul_of_nonneg_left (by omega) (by omega)
     omega
   walk_at "dt"
   refine⟨by rw[pV,List.length_map];show _+1<=10000;omega,?_⟩
   show Φ _ (.list (eN (prs.map pairD) none (some (-1))++[pairD (last,sl)]))
   rw[pV,show(prs.dropLast.map pairD++[pairD (last,sl)])=(prs.dropLast++[(last,sl)]).map pairD by rw[List.map_append];rfl]
   refine q (some (prs.dropLast++[(last,sl)])) _ (fun _ e=>?_)
   cases e
   have hdr:(prs.dropLast++[(last,sl)]).map (·.1)=rs:=by
    rw[List.map_append,List.map_dropLast,qD,List.map_singleton,<-qB]
    have:=List.dropLast_concat_getLast (List.ne_nil_of_length_pos hrl)
    rw[List.getLast_eq_getElem] at this
    exact this
   refine⟨by rw[hdr];exact hrs,by rw[List.length_append,List.length_singleton];omega,fun pr bC=>?_⟩
   rcases List.mem_append.mp bC with h|h
   ·exact u7.2.2 pr h
   ·rw[List.mem_singleton.mp h]
    exact⟨lT.1,lT.2,by show 1<=sl;omega,hs.2⟩
def qy:DF:=fun ds Φ=>∃(p many wide:Int) (wd:List Int),ds=[.int p, .list (wd.map .int), .int many, .int wide]/\eX p/\p<10^40/\1<=wd.length/\wd.length<=400/\(∀x∈wd,0<=x/\x<p)/\0<=many/\many<=400/\1<=wide/\wide<=60/\∀(cs:List aA) (f:Bool),(cs.length:Int)<=many->(∀prs∈cs,iB p wd.length prs)->Φ f (bK p wd.length cs)
theorem GA:cS qy:=by
 intro ds Φ Ψ hm z
 obtain⟨p,m,w,wd,e,h1,h2,h3,h4,h5,h6,h7,h8,h9,q⟩:=hm
 exact⟨p,m,w,wd,e,h1,h2,h3,h4,h5,h6,h7,h8,h9,fun cs f a b=>z _ _ (q cs f a b)⟩
theorem Rc(o:Option aA):n6 (pK o)=o.isNone:=by cases o<;>rfl
theorem B3:bU ["bag","p","word","many","wide","checks"] ["bag","p","word","many","wide"] (az jP):=⟨rfl,rfl,rfl,by decide+kernel,rfl,by decide+kernel,by decide+kernel⟩
theorem Sk(F:bJ K "_law_planted" "_law_planted" jP f fd)(Km:Callee P w K mg base "_law_planted_check" 3 ["bag","p","word","wide"] (fq 4 pH))(bT:mg "len"=none)(aY:mg "range"=none):
    bz P w K mg base bH 4 f fd ["bag","p","word","many","wide"] (fq 5 qy):=by
  refine F.ok B3 (fun vs H Q E h=>h.1) (fun cdv A outer s H vs Q E hr h=>?_)
  obtain⟨_,b,l,ws,nb,ds,rfl,hB,hlive,hnb,hds,hF⟩:=h
  obtain⟨Φ,aH,hF⟩:∃Φ:Pd,(∀f d v H',Φ f d->aJ (Nb b) H H'->bR H' b l->af (fun a=>nb a\/(f=true/\H a≠none)) H' d v->Q v H')/\qy ds Φ:=⟨_,fun f d v H' q=>q v H',hF⟩
  obtain⟨p,many,wide,wd,rfl,hp,lF,w1,w2,pA,m1,m2,d1,d2,q⟩:=hF
  refine⟨_,(@ao _ _ _ _ _ (Eo (i:=5) B3.nd rfl rfl (cN.of (show dj (az jP) ["bag","p","word","many","wide","checks"] _ ["c","bag","p","word","wide"] [none,some 0,some 1,some 2,some 4]=true by decide+kernel)) (@gG _ _ _ _ _ _ rfl aY (@aa _ _ _ _ _ (pv 3) ai rfl) (by rfl)) (fun _ _ _ _=>⟨(aG (i:=0) (by show List.Nodup (["c","bag","p","word","wide"]:List Str);decide+kernel) rfl (Or.inl rfl)),gm,(@aN _ _ _ _ _ _ _ _ _ _ Km (hr.mono (by decide)) (@aa _ _ _ _ _ (pv 1) (@aa _ _ _ _ _ (pv 2) (@aa _ _ _ _ _ (pv 3) (@aa _ _ _ _ _ (pv 4) ai rfl) rfl) rfl) rfl) (by rfl) (by decide) (by rfl) (by rfl))⟩)) (@aB _ _ _ (@aT _ _ _ _ (@aX _ _ _ _ _ (@aa _ _ _ _ _ (pv 1) (@aa _ _ _ _ _ (@bW _ _ _ _ _ _ _ _ (fN K) ie rfl bT PySem.boot_len (@aa _ _ _ _ _ (pv 2) ai rfl) (by decide) (by decide) (by rfl) (by rfl)) (@aa _ _ _ _ _ (d9 (cN.of (show dj (az jP) ["bag","p","word","many","wide","checks"] _ ["pairs"] [none]=true by decide+kernel)) (@dH _ _ _ _ (pv 5)) (fun _ _ _ _=>⟨(aG (i:=0) (by show List.Nodup (["pairs"]:List Str);decide+kernel) rfl (Or.inl rfl)),(j3 (@aU _ _ _ _ _ _ _ _ tM (pv 0) mU (aP _))),(pv 0)⟩)) ai rfl) rfl) rfl))))),?_⟩
  refine Sv.mj hB hlive hnb hds aH (ρ:=[.au, .d false _, .d false _, .d false _, .d false _, .no]) rfl ?_
  clear aH hds
  have Dc:(wd.map PyData.int).length=wd.length:=List.length_map ..
  walk_at "dt"
  refine ay.ev (ay.jU (by decide) rfl ?_)
  walk_at "dt"
  refine fW.rel pK false (fun _ o=>∀prs,o=some prs->iB p wd.length prs) ?_ fun os iN hos=>?_
  · rintro i d ⟨hi,rfl⟩
    walk_at "dt"
    refine⟨by walk_at "wk",?_⟩
    refine Ev.jY MB rfl ?_
    walk_at "dt"
    exact⟨rfl,p,wide,wd,rfl,hp,lF,w1,w2,pA,d1,d2,fun o f h=>⟨(fun z=>by cases z),o,rfl,h⟩⟩
  walk_at "dt"
  refine ay.ev (ay.iA (by decide) rfl ?_)
  walk_at "dt"
  refine⟨by rw[List.length_map];omega,fun v=>⟨false,fun i ds=>∃es:List aA,ds=es.map dS/\es.length<=i/\∀prs∈es,iB p wd.length prs,⟨[],rfl,Nat.le_refl _,(fun _ h=>nomatch h)⟩,?_,?_⟩⟩
  · rintro j d ds hd hl' ⟨es,rfl,hel,hes⟩
    obtain⟨o,ho,rfl⟩:=dU hd
    walk_at "dt"
    refine⟨by walk_at "wk",?_⟩
    walk_at "dt"
    rw[Rc]
    cases o with
    | none =>
      walk_at "dt"
      exact⟨es,rfl,by omega,hes⟩
    | some prs =>
      rw[show pK (some prs)=dS prs from rfl]
      walk_at "dt"
      refine⟨es++[prs],by rw[List.map_append];rfl,by simp;omega,fun q hq=>?_⟩
      rcases List.mem_append.mp hq with h|h
      · exact hes q h
      · rw[List.mem_singleton.mp h];exact hos j _ ho prs rfl
  rintro ds hl' ⟨es,rfl,hel,hes⟩
  walk_at "dt"
  rw[List.length_map] at hel
  show Φ _ (.tuple [.int p, .int ((wd.map PyData.int).length:Int), .list (es.map dS)])
  rw[Dc]
  exact q es _ (by omega) hes
def qw:DF:=fun ds Φ=>∃(places many wide:Int),ds=[.int places, .int many, .int wide]/\1<=places/\places<=400/\0<=many/\many<=400/\1<=wide/\wide<=60/\∀(p n:Int) (cs:List aA) (f:Bool),ir p n cs->n<=places->(cs.length:Int)<=many->Φ f (bK p n cs)
theorem LZ:cS qw:=by
 intro ds Φ Ψ hm z
 obtain⟨a,b,c,e,h1,h2,h3,h4,h5,h6,q⟩:=hm
 exact⟨a,b,c,e,h1,h2,h3,h4,h5,h6,fun p n cs f h g k=>z _ _ (q p n cs f h g k)⟩
theorem mH:bU ["bag","places","many","wide","p","n","checks","c","there"] ["bag","places","many","wide"] (az jy):=⟨rfl,rfl,rfl,by decide+kernel,rfl,by decide+kernel,by decide+kernel⟩
theorem Hs(F:bJ K "_law_net" "_law_net" jy f fd)(IU:Callee P w K mg base "_law_prime" 3 ["bag"] (fq 1 qR))(cK:Callee P w K mg base "_law_draw" 2 ["bag","many"] iQ)(aY:mg "range"=none)(iW:mg "sorted"=none)(lE:mg "set"=none):
  bz P w K mg base bH 4 f fd ["bag","places","many","wide"] (fq 4 qw):=by
 refine F.ok mH (fun vs H Q E h=>h.1) (fun cdv A outer s H vs Q E hr h=>?_)
 obtain⟨_,b,l,ws,nb,ds,rfl,hB,hlive,hnb,hds,hF⟩:=h
 obtain⟨Φ,aH,hF⟩:∃Φ:Pd,(∀f d v H',Φ f d->aJ (Nb b) H H'->bR H' b l->af (fun a=>nb a\/(f=true/\H a≠none)) H' d v->Q v H')/\qw ds Φ:=⟨_,fun f d v H' q=>q v H',hF⟩
 obtain⟨places,many,wide,rfl,l1,l2,m1,m2,w1,w2,q⟩:=hF
 refine⟨_,(@ao _ _ _ _ _ (@aF _ _ (4) _ _ _ _ mH.nd rfl (Or.inr rfl) (@aN _ _ _ _ _ _ _ _ _ _ IU (hr.mono (by decide)) (@aa _ _ _ _ _ (pv 0) ai rfl) (by rfl) (by decide) (by rfl) (by rfl)) (by rfl) (by first|exact .inl rfl|exact .inr rfl|assumption)) (@ao _ _ _ _ _ (@aF _ _ (5) _ _ _ _ mH.nd rfl (Or.inr rfl) (@aD _ _ _ _ _ _ _ _ dJ aj (@aN _ _ _ _ _ _ _ _ _ _ cK (hr.mono (by decide)) (@aa _ _ _ _ _ (pv 0) (@aa _ _ _ _ _ (pv 1) ai rfl) rfl) (by rfl) (by decide) (by rfl) (by rfl))) (by rfl) (by first|exact .inl rfl|exact .inr rfl|assumption)) (@ao _ _ _ _ _ (@aF _ _ (6) _ _ _ _ mH.nd rfl (Or.inl rfl) (@cW _ _ _ _ ai) (by rfl) (by first|exact .inl rfl|exact .inr rfl|assumption)) (@ao _ _ _ _ _ (@dY _ _ _ _ _ _ _ _ PassesOwn.never rfl (@gG _ _ _ _ _ _ rfl aY (@aa _ _ _ _ _ (@aN _ _ _ _ _ _ _ _ _ _ cK (hr.mono (by decide)) (@aa _ _ _ _ _ (pv 0) (@aa _ _ _ _ _ (@aD _ _ _ _ _ _ _ _ dJ (pv 2) aj) ai rfl) rfl) (by rfl) (by decide) (by rfl) (by rfl)) ai rfl) (by rfl)) (aG (i:=7) mH.nd rfl (Or.inl rfl)) (@ao _ _ _ _ _ (@aF _ _ (8) _ _ _ _ mH.nd rfl (Or.inl rfl) (@bW _ _ _ _ _ _ _ _ (rM P w) (Ae rfl) rfl iW PyProof.Rows.boot_sorted (@aa _ _ _ _ _ (@gU _ _ _ _ _ _ _ _ (rB P w K) (zA rfl) rfl lE PyProof.Rows.boot_set (@aa _ _ _ _ _ (d9 (cN.of (show dj (az jy) ["bag","places","many","wide","p","n","checks","c","there"] _ ["k","bag","n"] [none,some 0,some 5]=true by decide+kernel)) (@gG _ _ _ _ _ _ rfl aY (@aa _ _ _ _ _ (@aD _ _ _ _ _ _ _ _ dJ aj (@aN _ _ _ _ _ _ _ _ _ _ cK (hr.mono (by decide)) (@aa _ _ _ _ _ (pv 0) (@aa _ _ _ _ _ (pv 3) ai rfl) rfl) (by rfl) (by decide) (by rfl) (by rfl))) ai rfl) (by rfl)) (fun _ _ _ _=>⟨(aG (i:=0) (by show List.Nodup (["k","bag","n"]:List Str);decide+kernel) rfl (Or.inl rfl)),gm,(@aN _ _ _ _ _ _ _ _ _ _ cK (hr.mono (by decide)) (@aa _ _ _ _ _ (pv 1) (@aa _ _ _ _ _ (pv 2) ai rfl) rfl) (by rfl) (by decide) (by rfl) (by rfl))⟩)) ai rfl) (by decide) (by decide) (by rfl) (by rfl)) ai rfl) (by decide) (by decide) (by rfl) (by rfl)) (by rfl) (by first|exact .inl rfl|exact .inr rfl|assumption)) (@aB _ _ _ (@iX _ _ _ _ (iu PySem.F.plainAttrs_list PySem.F.slot_list_append PySem.F.type_list_append iI (pv 6) (@aa _ _ _ _ _ (d9 (cN.of (show dj (az jy) ["bag","places","many","wide","p","n","checks","c","there"] _ ["place","bag","p"] [none,some 0,some 4]=true by decide+kernel)) (@dH _ _ _ _ (pv 8)) (fun _ _ _ _=>⟨(aG (i:=0) (by show List.Nodup (["place","bag","p"]:List Str);decide+kernel) rfl (Or.inl rfl)),gm,(@aX _ _ _ _ _ (@aa _ _ _ _ _ (pv 0) (@aa _ _ _ _ _ (@aD _ _ _ _ _ _ _ _ dJ aj (@aN _ _ _ _ _ _ _ _ _ _ cK (hr.mono (by decide)) (@aa _ _ _ _ _ (pv 1) (@aa _ _ _ _ _ (@aD _ _ _ _ _ _ _ _ iP (pv 2) aj) ai rfl) rfl) (by rfl) (by decide) (by rfl) (by rfl))) ai rfl) rfl))⟩)) ai rfl)) (by rfl)))) (by intro _;rfl)) (@aB _ _ _ (@aT _ _ _ _ (@aX _ _ _ _ _ (@aa _ _ _ _ _ (pv 4) (@aa _ _ _ _ _ (pv 5) (@aa _ _ _ _ _ (pv 6) ai rfl) rfl) rfl)))))))),?_⟩
 refine Sv.mj hB hlive hnb hds aH (ρ:=[.au, .d false _, .d false _, .d false _, .no, .no, .no, .no, .no]) rfl ?_
 clear aH hds
 walk_at "dt"
 refine Ev.jY E4 rfl ?_
 walk_at "dt"
 refine⟨rfl,fun p hp lF f=>?_⟩
 have p2:=hp.1
 refine Gv.jg ?_
 walk_at "dt"
 intro n n0 n1
 walk_at "dt"
 intro A6
 refine Sv.seq ?_
 refine Sv.oS ?_
 walk_at "dt"
 intro m mm0 mm1
 walk_at "dt"
 refine⟨fun c ρ=>∃(cs:List aA) (f6:Bool) (x7 x8:Sl),cs.length<=c/\(∀prs∈cs,iB p (1+n).toNat prs)/\ρ=[.au, .d false (.int places), .d false (.int many), .d false (.int wide), .d true (.int p), .d true (.int (1+n)), .own A6 f6 (cs.map dS),x7,x8],⟨[],_,_,_,Nat.le_refl _,(fun _ h=>nomatch h),rfl⟩,?_,?_⟩
 ·rintro c d ρ ⟨hc,rfl⟩ ⟨cs,f6,x7,x8,hcl,hcs,rfl⟩
  refine Gv.jg ?_
  walk_at "dt"
  refine ay.ev (ay.Ex (ay.ev (ay.jU (by decide) rfl ?_)))
  walk_at "dt"
  intro k0 k1 k2
  walk_at "dt"
  refine fW.ints (fun x=>0<=x/\x<1+n) ?_ fun os iN hos=>⟨os,rfl,by omega,fun rs xO hmem=>?_⟩
  ·rintro i d ⟨hi,rfl⟩
   walk_at "dt"
   refine⟨by walk_at "wk",?_⟩
   walk_at "dt"
   exact fun r r1 r2=>⟨r,rfl,r1,r2⟩
  have hrs:rs.Nodup:=xO.imp fun h=>by omega
  have Hw:rs.length<=os.length:=List.Nodup.length_le_of_subset hrs fun k hk=>(hmem k).mp hk
  walk_at "dt"
  refine ay.ev (ay.iA (by decide) rfl ?_)
  walk_at "dt"
  refine⟨by rw[List.length_map];omega,fun v=>fW.rel pairD true (fun i pr=>rs[i]?=some pr.1/\1<=pr.2/\pr.2<p) ?_ fun prs hpl cy=>?_⟩
  ·rintro i d hd
   obtain⟨x,hx,rfl⟩:=dU hd
   walk_at "dt"
   refine⟨by walk_at "wk",?_⟩
   walk_at "dt"
   intro r r1 r2
   walk_at "dt"
   exact⟨fun _=>rfl,(x,1+r),rfl,hx,by show 1<=1+r;omega,by show 1+r<p;omega⟩
  rw[List.length_map] at hpl
  have qD:prs.map (·.1)=rs:=by
   apply List.ext_getElem?
   intro j
   rw[List.getElem?_map]
   cases e:prs[j]? with
   |none=>rw[List.getElem?_eq_none (by have:=List.getElem?_eq_none_iff.mp e;omega)];rfl
   |some pr=>exact(cy j pr e).1.symm
  have hQ:iB p (1+n).toNat prs:=⟨by rw[qD];exact hrs,by omega,fun pr bC=>by
   obtain⟨k,hk⟩:=List.getElem?_of_mem bC
   have h2:=cy k pr hk
   have h1:=hos pr.1 ((hmem _).mp (List.mem_of_getElem? h2.1))
   omega⟩
  refine⟨by rw[List.length_map];omega,?_⟩
  refine⟨cs++[prs],_,_,_,by rw[List.length_append,List.length_singleton];omega,fun q' hq'=>?_,by rw[List.map_append];rfl⟩
  rcases List.mem_append.mp hq' with h|h
  ·exact hcs q' h
  ·rw[List.mem_singleton.mp h];exact hQ
 ·rintro ρ ⟨cs,f6,x7,x8,hcl,hcs,rfl⟩
  refine Sv.kP 6 rfl ?_
  walk_at "dt"
  exact q p (1+n) cs _ ⟨hp,lF,by omega,by omega,by omega,hcs⟩ (by omega) (by omega)
def pM:DF:=fun ds Φ=>∃(places many wide:Int),ds=[.int places, .int many, .int wide]/\1<=places/\places<=400/\0<=many/\many<=400/\1<=wide/\wide<=60/\
 ∀(p n:Int) (cs:List aA) (ws:List Int) (f:Bool),ir p n cs->n<=places->(cs.length:Int)<=many->ws.length=n.toNat->(∀x∈ws,0<=x/\x<p)->Φ f (.tuple [bK p n cs,bD ws])
theorem OH:cS pM:=by
 intro ds Φ Ψ hm z
 obtain⟨a,b,c,e,h1,h2,h3,h4,h5,h6,q⟩:=hm
 exact⟨a,b,c,e,h1,h2,h3,h4,h5,h6,fun p n cs ws f h g k l m=>z _ _ (q p n cs ws f h g k l m)⟩
theorem i8:bU ["bag","places","many","wide","way","net","p","word","k","at"] ["bag","places","many","wide"] (az lZ):=⟨rfl,rfl,rfl,by decide+kernel,rfl,by decide+kernel,by decide+kernel⟩
theorem UE(F:bJ K "_law_net_and_word" "_law_net_and_word" lZ f fd)(cK:Callee P w K mg base "_law_draw" 2 ["bag","many"] iQ)(Qu:Callee P w K mg base "_law_net" 4 ["bag","places","many","wide"] (fq 4 qw))(EW:Callee P w K mg base "_law_letters" 3 ["bag","p","n"] (fq 3 qJ))(FH:Callee P w K mg base "_law_planted" 4 ["bag","p","word","many","wide"] (fq 5 qy))(aY:mg "range"=none):
  bz P w K mg base bH 5 f fd ["bag","places","many","wide"] (fq 4 pM):=by
 refine F.ok i8 (fun vs H Q E h=>h.1) (fun cdv A outer s H vs Q E hr h=>?_)
 obtain⟨_,b,l,ws,nb,ds,rfl,hB,hlive,hnb,hds,hF⟩:=h
 obtain⟨Φ,aH,hF⟩:∃Φ:Pd,(∀f d v H',Φ f d->aJ (Nb b) H H'->bR H' b l->af (fun a=>nb a\/(f=true/\H a≠none)) H' d v->Q v H')/\pM ds Φ:=⟨_,fun f d v H' q=>q v H',hF⟩
 obtain⟨places,many,wide,rfl,l1,l2,m1,m2,w1,w2,q⟩:=hF
 refine⟨_,(@ao _ _ _ _ _ (@aF _ _ (4) _ _ _ _ i8.nd rfl (Or.inl rfl) (@aN _ _ _ _ _ _ _ _ _ _ cK (hr.mono (by decide)) (@aa _ _ _ _ _ (pv 0) (@aa _ _ _ _ _ aj ai rfl) rfl) (by rfl) (by decide) (by rfl) (by rfl)) (by rfl) (by first|exact .inl rfl|exact .inr rfl|assumption)) (@ao _ _ _ _ _ (@aF _ _ (5) _ _ _ _ i8.nd rfl (Or.inl rfl) (@aN _ _ _ _ _ _ _ _ _ _ Qu (hr.mono (by decide)) (@aa _ _ _ _ _ (pv 0) (@aa _ _ _ _ _ (pv 1) (@aa _ _ _ _ _ (pv 2) (@aa _ _ _ _ _ (pv 3) ai rfl) rfl) rfl) rfl) (by rfl) (by decide) (by rfl) (by rfl)) (by rfl) (by first|exact .inl rfl|exact .inr rfl|assumption)) (@ao _ _ _ _ _ (@aF _ _ (6) _ _ _ _ i8.nd rfl (Or.inl rfl) (@aI _ _ _ _ _ _ (bY K) cF (pv 5) aj (fun _ _=>rfl)) (by rfl) (by first|exact .inl rfl|exact .inr rfl|assumption)) (@ao _ _ _ _ _ (@aF _ _ (7) _ _ _ _ i8.nd rfl (Or.inl rfl) (@aN _ _ _ _ _ _ _ _ _ _ EW (hr.mono (by decide)) (@aa _ _ _ _ _ (pv 0) (@aa _ _ _ _ _ (pv 6) (@aa _ _ _ _ _ (@aI _ _ _ _ _ _ (bY K) cF (pv 5) aj (fun _ _=>rfl)) ai rfl) rfl) rfl) (by rfl) (by decide) (by rfl) (by rfl)) (by rfl) (by first|exact .inl rfl|exact .inr rfl|assumption)) (@ao _ _ _ _ _ (@cH _ _ _ _ _ _ _ _ (@aU _ _ _ _ _ _ _ _ nh (pv 4) aj (aP _)) (@ao _ _ _ _ _ (@aF _ _ (5) _ _ _ _ i8.nd rfl (Or.inl rfl) (@aN _ _ _ _ _ _ _ _ _ _ FH (hr.mono (by decide)) (@aa _ _ _ _ _ (pv 0) (@aa _ _ _ _ _ (pv 6) (@aa _ _ _ _ _ (pv 7) (@aa _ _ _ _ _ (pv 2) (@aa _ _ _ _ _ (pv 3) ai rfl) rfl) rfl) rfl) rfl) (by rfl) (by decide) (by rfl) (by rfl)) (by rfl) (by first|exact .inl rfl|exact .inr rfl|assumption)) (@aB _ _ _ (@dY _ _ _ _ _ _ _ _ PassesOwn.never rfl (@gG _ _ _ _ _ _ rfl aY (@aa _ _ _ _ _ (@aN _ _ _ _ _ _ _ _ _ _ cK (hr.mono (by decide)) (@aa _ _ _ _ _ (pv 0) (@aa _ _ _ _ _ aj ai rfl) rfl) (by rfl) (by decide) (by rfl) (by rfl)) ai rfl) (by rfl)) (aG (i:=8) i8.nd rfl (Or.inl rfl)) (@ao _ _ _ _ _ (@aF _ _ (9) _ _ _ _ i8.nd rfl (Or.inl rfl) (@aN _ _ _ _ _ _ _ _ _ _ cK (hr.mono (by decide)) (@aa _ _ _ _ _ (pv 0) (@aa _ _ _ _ _ (@aI _ _ _ _ _ _ (bY K) cF (pv 5) aj (fun _ _=>rfl)) ai rfl) rfl) (by rfl) (by decide) (by rfl) (by rfl)) (by rfl) (by first|exact .inl rfl|exact .inr rfl|assumption)) (@aB _ _ _ (@aF _ _ (7) _ _ _ _ i8.nd rfl (Or.inl rfl) (@aD _ _ _ _ _ _ _ _ kB (@aD _ _ _ _ _ _ _ _ kB (@j8 _ _ _ _ _ _ _ _ _ (iZ K) kX (pv 7) kH (@j5 _ _ _ (pv 9))) (@cW _ _ _ _ (@aa _ _ _ _ _ (@aN _ _ _ _ _ _ _ _ _ _ cK (hr.mono (by decide)) (@aa _ _ _ _ _ (pv 0) (@aa _ _ _ _ _ (pv 6) ai rfl) rfl) (by rfl) (by decide) (by rfl) (by rfl)) ai rfl))) (@j8 _ _ _ _ _ _ _ _ _ (iZ K) kX (pv 7) (@j5 _ _ _ (@aD _ _ _ _ _ _ _ _ dJ (pv 9) aj)) kH)) (by rfl) (by first|exact .inl rfl|exact .inr rfl|assumption)))) (by intro _;rfl)))) cI) (@aB _ _ _ (@aT _ _ _ _ (@aX _ _ _ _ _ (@aa _ _ _ _ _ (pv 5) (@aa _ _ _ _ _ (pv 7) ai rfl) rfl))))))))),?_⟩
 refine Sv.mj hB hlive hnb hds aH (ρ:=[.au, .d false _, .d false _, .d false _, .no, .no, .no, .no, .no, .no]) rfl ?_
 clear aH hds
 walk_at "dt"
 intro way y0 y1
 walk_at "dt"
 refine Ev.jY LZ rfl ?_
 walk_at "dt"
 refine⟨rfl,places,many,wide,rfl,l1,l2,m1,m2,w1,w2,fun p n cs f hN hn hc=>?_⟩
 have p2:=hN.hp.1
 have dX:=hN.dX
 have n0:=hN.n0
 have n1:=hN.n1
 have hpk:Bh p:=⟨by omega,by omega⟩
 refine Gv.name ?_
 walk_at "dt"
 refine Ev.jY Mr rfl ?_
 walk_at "dt"
 refine⟨rfl,p,n,rfl,hpk,by omega,by omega,fun os iN hos=>?_⟩
 refine Gv.name ?_
 refine Sv.seq ?_
 refine Sv.oK (fun ρ'=>∃(cs:List aA) (ws:List Int) (f5 f7:Bool) (x8 x9:Sl),ir p n cs/\(cs.length:Int)<=many/\ws.length=n.toNat/\(∀x∈ws,0<=x/\x<p)/\ρ'=[.au, .d false (.int places), .d false (.int many), .d false (.int wide), .d true (.int way), .d f5 (bK p n cs), .d true (.int p), .d f7 (bD ws),x8,x9]) ?_ ?_
 ·walk_at "dt"
  by_cases c:1<way
  ·rw[if_pos (by simpa using c)]
   walk_at "dt"
   refine Ev.jY GA rfl ?_
   walk_at "dt"
   refine⟨rfl,p,many,wide,os,rfl,hN.hp,dX,by omega,by omega,hos,m1,m2,w1,w2,fun cs' f' hcl hcs=>?_⟩
   rw[iN]
   have xY:ir p n cs':=⟨hN.hp,dX,n0,n1,by omega,fun prs cy=>by have:=hcs prs cy;rwa[show os.length=n.toNat by omega] at this⟩
   refine Gv.name ?_
   refine Sv.oS ?_
   walk_at "dt"
   intro m mm0 mm1
   walk_at "dt"
   refine⟨fun i ρ=>∃(ws:List Int) (f5 f7:Bool) (x8 x9:Sl),ws.length=n.toNat/\(∀x∈ws,0<=x/\x<p)/\ρ=[.au, .d false (.int places), .d false (.int many), .d false (.int wide), .d true (.int way), .d f5 (bK p n cs'), .d true (.int p), .d f7 (bD ws),x8,x9],⟨os,_,_,_,_,by omega,hos,rfl⟩,?_,?_⟩
   ·rintro i d ρ ⟨hi,rfl⟩ ⟨ws,f5,f7,x8,x9,hwl,hws,rfl⟩
    have yF:(ws.map PyData.int).length=ws.length:=List.length_map ..
    refine Gv.jg ?_
    walk_at "dt"
    intro at_ t0 t1
    walk_at "dt"
    intro x x0 x1
    have hc1:=D4 (xs:=ws.map PyData.int) (lo:=none) (hi:=some at_)
    have hc2:=D4 (xs:=ws.map PyData.int) (lo:=some (at_+1)) (hi:=none)
    have Ct:=RU (xs:=ws.map PyData.int) (y:=PyData.int x) t0 (by rw[yF];omega)
    rw[<-List.map_set] at Ct
    walk_at "dt"
    refine⟨by show _+1<=10000;omega,_,rfl,?_⟩
    walk_at "dt"
    refine⟨by rw[List.length_append];show _+1+_<=10000;omega,?_⟩
    refine Gv.name ?_
    show∃(ws:List Int) (f5 f7:Bool) (x8 x9:Sl),_
    refine⟨ws.set at_.toNat x,_,_,_,_,by rw[List.length_set];exact hwl,fun y hy=>?_,by rw[show bD (ws.set at_.toNat x)=PyData.list ((ws.set at_.toNat x).map PyData.int) from rfl,<-Ct];rfl⟩
    rcases List.mem_or_eq_of_mem_set hy with z|z
    ·exact hws y z
    ·rw[z];exact⟨x0,x1⟩
   ·rintro ρ ⟨ws,f5,f7,x8,x9,hwl,hws,rfl⟩
    exact⟨cs',ws,f5,f7,x8,x9,xY,hcl,hwl,hws,rfl⟩
  ·rw[if_neg (by simpa using c)]
   walk_at "dt"
   exact⟨cs,os,_,_,_,_,hN,hc,by omega,hos,rfl⟩
 rintro ρ' ⟨cs',ws,f5,f7,x8,x9,xY,hcl,hwl,hws,rfl⟩
 walk_at "dt"
 exact q p n cs' ws _ xY hn hcl hwl hws
def qj:DF:=fun ds Φ=>∃(p n:Int) (cs:List aA) (ws:List Int) (pl:Nat),ds=[bK p n cs,bD ws, .int (pl:Int)]/\ir p n cs/\cs.length<=62/\ws.length=n.toNat/\(∀x∈ws,0<=x/\x<p)/\pl<n.toNat/\
 ∀rs:List Int,rs.Nodup->(∀k,k∈rs↔k∈eW p cs ws (pl:Int))->∀g,Φ g (.list (rs.map fun r=>pairD (r,((eW p cs ws (pl:Int)).count r:Int))))
theorem Fc:cS qj:=by
 intro ds Φ Ψ hm z
 obtain⟨p,n,cs,ws,pl,e,h1,h2,h3,h4,h5,q⟩:=hm
 exact⟨p,n,cs,ws,pl,e,h1,h2,h3,h4,h5,fun rs a b g=>z _ _ (q rs a b g)⟩
theorem jj:bU ["net","word","place","p","n","checks","many","pairs","factor","rest","letter"] ["net","word","place"] (az jA):=⟨rfl,rfl,rfl,by decide+kernel,rfl,by decide+kernel,by decide+kernel⟩
theorem Fx(F:bJ K "_law_votes" "_law_votes" jA f fd)(oj:Callee P w K mg base "_law_sum" 1 ["p","pairs","word"] (bA 3 lB))(vA:Callee P w K mg base "_law_over" 1 ["p","a","b"] (bA 3 oY))(iW:mg "sorted"=none)(ja:mg "sum"=none)(cg:mg "list"=none):
    bz P w K mg base bH 2 f fd ["net","word","place"] (bA 3 qj):=by
  refine F.ok jj (fun vs H Q E h=>h.1) (fun cdv A outer s H vs Q E hr h=>?_)
  obtain⟨_,nb,ds,hlive,hds,hF⟩:=h
  obtain⟨Φ,aH,hF⟩:∃Φ:Pd,(∀f d v H',Φ f d->aO H H'->af (fun a=>nb a\/(f=true/\H a≠none)) H' d v->Q v H')/\qj ds Φ:=⟨_,fun f d v H' q=>q v H',hF⟩
  obtain⟨p,n,cs,ws,pl,rfl,hN,pD,hwl,hws,hpl,q⟩:=hF
  refine⟨_,(@ao _ _ _ _ _ (@fV _ _ _ _ _ _ (pv 0) (@eU _ (K) _ _ _ (3) _ rfl rfl (@aW _ _ _ _ _ (aG (i:=3) jj.nd rfl (Or.inl rfl)) (@aW _ _ _ _ _ (aG (i:=4) jj.nd rfl (Or.inl rfl)) (@aW _ _ _ _ _ (aG (i:=5) jj.nd rfl (Or.inl rfl)) eB (by rfl)) (by rfl)) (by rfl)) (by rfl) (by rfl)) (by rfl) (by rfl) (by rfl)) (@ao _ _ _ _ _ (@aF _ _ (6) _ _ _ _ jj.nd rfl (Or.inl rfl) BJ (by rfl) (by first|exact .inl rfl|exact .inr rfl|assumption)) (@ao _ _ _ _ _ (@dY _ _ _ _ _ _ _ _ PassesOwn.never rfl (@dH _ _ _ _ (pv 5)) (aG (i:=7) jj.nd rfl (Or.inl rfl)) (@ao _ _ _ _ _ (@aF _ _ (8) _ _ _ _ jj.nd rfl (Or.inl rfl) (@bW _ _ _ _ _ _ _ _ (nW K) (vS rfl) rfl ja PyProof.Rows.boot_sum (@aa _ _ _ _ _ (d9 (cN.of (show dj (az jA) ["net","word","place","p","n","checks","many","pairs","factor","rest","letter"] _ ["at","one","place"] [none,none,some 2]=true by decide+kernel)) (@dH _ _ _ _ (pv 7)) (fun _ _ _ _=>⟨(@eU _ (K) _ _ _ (2) _ rfl rfl (@aW _ _ _ _ _ (aG (i:=0) (by show List.Nodup (["at","one","place"]:List Str);decide+kernel) rfl (Or.inl rfl)) (@aW _ _ _ _ _ (aG (i:=1) (by show List.Nodup (["at","one","place"]:List Str);decide+kernel) rfl (Or.inl rfl)) eB (by rfl)) (by rfl)) (by rfl) (by rfl)),(j3 (@aU _ _ _ _ _ _ _ _ fX (pv 0) (pv 2) (aP _))),(pv 1)⟩)) ai rfl) (by decide) (by decide) (by rfl) (by rfl)) (by rfl) (by first|exact .inl rfl|exact .inr rfl|assumption)) (@aB _ _ _ (@cH _ _ _ _ _ _ _ _ (@aU _ _ _ _ _ _ _ _ nh (pv 8) aj (aP _)) (@ao _ _ _ _ _ (@aF _ _ (9) _ _ _ _ jj.nd rfl (Or.inl rfl) (@aN _ _ _ _ _ _ _ _ _ _ oj (hr.mono (by decide)) (@aa _ _ _ _ _ (pv 3) (@aa _ _ _ _ _ (d9 (cN.of (show dj (az jA) ["net","word","place","p","n","checks","many","pairs","factor","rest","letter"] _ ["pair","place"] [none,some 2]=true by decide+kernel)) (@dH _ _ _ _ (pv 7)) (fun _ _ _ _=>⟨(aG (i:=0) (by show List.Nodup (["pair","place"]:List Str);decide+kernel) rfl (Or.inl rfl)),(j3 (@aU _ _ _ _ _ _ _ _ gF (@aI _ _ _ _ _ _ (bY K) cF (pv 0) aj (fun _ _=>rfl)) (pv 1) (aP _))),(pv 0)⟩)) (@aa _ _ _ _ _ (pv 1) ai rfl) rfl) rfl) (by rfl) (by decide) (by rfl) (by rfl)) (by rfl) (by first|exact .inl rfl|exact .inr rfl|assumption)) (@ao _ _ _ _ _ (@aF _ _ (10) _ _ _ _ jj.nd rfl (Or.inl rfl) (@aN _ _ _ _ _ _ _ _ _ _ vA (hr.mono (by decide)) (@aa _ _ _ _ _ (pv 3) (@aa _ _ _ _ _ (@aD _ _ _ _ _ _ _ _ iP aj (pv 9)) (@aa _ _ _ _ _ (pv 8) ai rfl) rfl) rfl) (by rfl) (by decide) (by rfl) (by rfl)) (by rfl) (by first|exact .inl rfl|exact .inr rfl|assumption)) (@aB _ _ _ (@fV _ _ _ _ _ _ (@aD _ _ _ _ _ _ _ _ dJ (iu PySem.F.plainAttrs_dict PySem.F.slot_dict_get PySem.F.type_dict_get AV (pv 6) (@aa _ _ _ _ _ (pv 10) (@aa _ _ _ _ _ aj ai rfl) rfl)) aj) (i6 (pv 6) (pv 10) set_dict) (by rfl) (by rfl) (by rfl))))) cI))) (by intro _;rfl)) (@aB _ _ _ (@aT _ _ _ _ (@bW _ _ _ _ _ _ _ _ (uV K) Om rfl iW PyProof.Rows.boot_sorted (@aa _ _ _ _ _ (@gU _ _ _ _ _ _ _ _ (yo) (Q6 rfl) rfl cg PyProof.Rows.boot_list (@aa _ _ _ _ _ (DB PySem.F.plainAttrs_dict PySem.F.slot_dict_items PySem.F.type_dict_items Hv (pv 6)) ai rfl) (by decide) (by decide) (by rfl) (by rfl)) ai rfl) (by decide) (by decide) (by rfl) (by rfl))))))),?_⟩
  refine Sv.fE hlive hds aH (ρ:=[.d false _, .d false _, .d false _, .no, .no, .no, .no, .no, .no, .no, .no]) rfl ?_
  clear aH hds
  have p2:=hN.hp.1
  have dX:=hN.dX
  have n0:=hN.n0
  have n1:=hN.n1
  have n5:(cs.map dS).length=cs.length:=List.length_map ..
  have nI:kJ (ws.map some):=fun y hy=>by
    obtain⟨z,hz,e⟩:=List.mem_map.mp hy
    cases e
    have:=hws y hz
    unfold Sm;omega
  have kM:bD ws=ji (ws.map some):=by show PyData.list _=PyData.list _;rw[List.map_map];rfl
  generalize fM:(nV (fh wL _) _:TS)=tl
  walk_at "dt"
  subst fM
  refine Sv.seq ?_
  refine Sv.Ag (oQ.new ?_)
  intro A6
  refine Sv.seq ?_
  refine Sv.forL ?_
  refine Ev.var rfl ?_
  refine⟨_,rfl,fun v=>⟨fun i ρ=>∃(ks:Ks) (x7 x8 x9 wB:Sl),gn ((cY p cs (pl:Int) i).map fun q=>(ws.getD pl 0-aZ (cs.getD q.1.toNat []) (ws.map some)%p*q.2)%p) ks/\ks.length<=i/\ρ=[.d false (bK p n cs), .d false (bD ws), .d false (.int (pl:Int)), .d true (.int p), .d true (.int n), .d false (.list (cs.map dS)), .aR A6 true ks,x7,x8,x9,wB],⟨[],_,_,_,_,gn.nil,Nat.le_refl _,rfl⟩,?_,?_⟩⟩
  · rintro i d ρ hd ⟨ks,x7,x8,x9,wB,hK,iV,rfl⟩
    obtain⟨prs,cy,rfl⟩:=dU hd
    have hil:=(List.getElem?_eq_some_iff.mp cy).1
    obtain⟨g1,g2,g3⟩:=hN.ok prs (List.mem_of_getElem? cy)
    have kG:(prs.map pairD).length=prs.length:=List.length_map ..
    have hfs:=ES (pl:=(pl:Int)) g1
    have Dw:cY p cs (pl:Int) (i+1)=_:=DY cy
    have hgd:cs.getD i []=prs:=by rw[List.getD_eq_getElem?_getD,cy];rfl
    refine Gv.name ?_
    walk_at "dt"
    refine ay.ev (ay.iA (by decide) rfl ?_)
    walk_at "dt"
    refine fun v=>⟨false,fun j ds=>ds=(((prs.take j).filter fun pr=>decide (pr.1=(pl:Int))).map (·.2)).map PyData.int,rfl,?_,?_⟩
    · rintro j d ds hd hl' rfl
      obtain⟨pr,bC,rfl⟩:=dU hd
      have hts:=take_snoc bC
      walk_at "dt"
      refine⟨by walk_at "wk",?_⟩
      walk_at "dt"
      by_cases c:pr.1=(pl:Int)
      · rw[if_pos (by simpa using c)]
        walk_at "dt"
        show _=List.map _ (List.map _ (List.filter _ (List.take (j+1) prs)))
        rw[hts,List.filter_append,List.map_append,List.map_append]
        simp[c]
      · rw[if_neg (by simpa using c)]
        show _=List.map _ (List.map _ (List.filter _ (List.take (j+1) prs)))
        rw[hts,List.filter_append,List.map_append,List.map_append]
        simp[c]
    rintro ds hl' rfl
    rw[kG,List.take_length]
    refine⟨_,rfl,?_⟩
    rw[hfs]
    walk_at "dt"
    cases hf:bO prs (pl:Int) with
    | none =>
      rw[if_neg (by simp)]
      walk_at "dt"
      refine⟨ks,_,_,_,_,?_,by omega,rfl⟩
      rw[Dw,hf,List.map_append]
      show gn (_++[]) ks
      rw[List.append_nil]
      exact hK
    | some ff =>
      have hm:=rN hf
      obtain⟨a0,a1,f0,f1⟩:=g3 _ hm
      dsimp only at a0 a1 f0 f1
      have hfp:ff%p≠0:=by rw[Int.emod_eq_of_lt (by omega) f1];omega
      rw[if_pos (by simp;omega)]
      walk_at "dt"
      refine Ev.dD wX ?_
      walk_at "dt"
      refine ay.ev (ay.iA (by decide) rfl ?_)
      walk_at "dt"
      refine fun v=>⟨false,fun j ds=>ds=((prs.take j).filter fun pr=>decide (pr.1≠(pl:Int))).map pairD,rfl,?_,?_⟩
      · rintro j d ds hd hl' rfl
        obtain⟨pr,bC,rfl⟩:=dU hd
        have hts:=take_snoc bC
        walk_at "dt"
        refine⟨by walk_at "wk",?_⟩
        walk_at "dt"
        by_cases c:pr.1=(pl:Int)
        · rw[if_neg (by simp[c])]
          show _=List.map _ (List.filter _ (List.take (j+1) prs))
          rw[hts,List.filter_append,List.map_append]
          simp[c]
        · rw[if_pos (by simp[c])]
          walk_at "dt"
          show _=List.map _ (List.filter _ (List.take (j+1) prs))
          rw[hts,List.filter_append,List.map_append]
          simp[c]
      rintro ds hl' rfl
      rw[kG,List.take_length]
      walk_at "dt"
      have iN:(eE prs (pl:Int)).length<=prs.length:=List.length_filter_le ..
      refine⟨rfl,p,eE prs (pl:Int),ws.map some,by show[_,_,_]=_;rw[kM];rfl,by omega,by omega,fun pr bC=>?_,nI,?_⟩
      · obtain⟨b0,b1,b2,b3⟩:=g3 pr (List.mem_filter.mp bC).1
        exact⟨b0,by rw[List.length_map];omega,by unfold Sm;omega⟩
      have r0:=Int.emod_nonneg (aZ (eE prs (pl:Int)) (ws.map some)) (show p≠0 by omega)
      have r1:=Int.emod_lt_of_pos (aZ (eE prs (pl:Int)) (ws.map some)) (show 0<p by omega)
      have hvs:=Ru (ws:=ws) hN.hp (by rw[hwl];exact hN.ok prs (List.mem_of_getElem? cy)) (by omega) hf
      generalize fM:(fh _ (mW (cQ 6) _ pP):TS)=tl
      walk_at "dt"
      refine Ev.dD zY ?_
      walk_at "dt"
      refine⟨rfl,p,_,ff,rfl,hN.hp,dX,hfp,by omega,by omega,fun _=>?_⟩
      rw[hvs]
      walk_at "dt"
      subst fM
      refine Sv.zZ rfl ?_
      walk_at "dt"
      refine Ev.Ay rfl ?_
      walk_at "dt"
      rw[hK.get]
      walk_at "dt"
      refine⟨_,_,_,_,_,?_,?_,rfl⟩
      · rw[Dw,hf,List.map_append]
        show gn (_++[(ws.getD pl 0-aZ (cs.getD ((i:Int)).toNat []) (ws.map some)%p*sol p ff 1)%p]) _
        rw[Int.toNat_natCast,hgd]
        exact hK.put _
      · exact Nat.le_trans (zK ..) (by omega)
  · rintro ρ ⟨ks,x7,x8,x9,wB,hK,iV,rfl⟩
    rw[n5] at hK iV
    have eL:(cY p cs (pl:Int) cs.length).map (fun q=>(ws.getD pl 0-aZ (cs.getD q.1.toNat []) (ws.map some)%p*q.2)%p)=eW p cs ws (pl:Int):=by
      unfold eW
      rw[Int.toNat_natCast]
    rw[eL] at hK
    obtain⟨ms,nd,hm,rfl⟩:=id hK
    rw[List.length_map] at iV
    refine Sv.ret ?_
    refine ay.ev (ay.QS ?_)
    refine ay.ev (ay.listItems rfl ?_ ?_)
    · rw[List.map_map]
      unfold dW
      rw[List.all_map]
      exact List.all_eq_true.mpr fun _ _=>rfl
    refine⟨ms.map fun c=>(c,((eW p cs ws (pl:Int)).count c:Int)),by rw[List.map_map,List.map_map];rfl,by rw[List.length_map];omega,fun cs' g kG=>?_⟩
    obtain⟨rs,rfl,hrs⟩:=Ft kG ms rfl
    have:=q rs (hrs.nodup_iff.mpr nd) (fun k=>by rw[hrs.mem_iff,hm k]) g
    rw[List.map_map]
    exact this
def nq:Nat->PyData->Prop
 |0,_=>False
 |n+1,d=>gx d=true\/∃ds,(d= .list ds\/d= .tuple ds)/\ds.length<=10000/\∀e∈ds,nq n e
def kI(n:Nat):DF:=fun ds Φ=>∃d,ds=[d,d]/\nq n d/\Φ true (.bool true)
theorem o9(n:Nat):cS (kI n):=fun ds Φ Ψ ⟨d,e,h,q⟩ z=>⟨d,e,h,z _ _ q⟩
theorem Nz:∀vs H Q E,¬bA 2 (kI 0) vs H Q E:=fun vs H Q E ⟨_,_,_,_,_,d,_,h,_⟩=>h
theorem TN:bU ["found","due"] ["found","due"] (az kK):=⟨rfl,rfl,rfl,by decide+kernel,rfl,by decide+kernel,by decide+kernel⟩
theorem oG(n:Nat)(F:bJ K "_law_alike" "_law_alike" kK f fd)(rF:Callee P w K mg base "_law_alike" (n) ["found","due"] (bA 2 (kI n)))(fB:mg "isinstance"=none)(cg:mg "list"=none)(jR:mg "tuple"=none)(jV:mg "all"=none)(bT:mg "len"=none)(jS:mg "bool"=none)(ig:mg "int"=none)(jJ:mg "str"=none)(aY:mg "range"=none):
  bz P w K mg base bH (n+1) f fd ["found","due"] (bA 2 (kI (n+1))):=by
 refine F.ok TN (fun vs H Q E h=>h.1) (fun cdv A outer s H vs Q E hr h=>?_)
 obtain⟨_,nb,ds,hlive,hds,hF⟩:=h
 obtain⟨Φ,aH,hF⟩:∃Φ:Pd,(∀f d v H',Φ f d->aO H H'->af (fun a=>nb a\/(f=true/\H a≠none)) H' d v->Q v H')/\kI (n+1) ds Φ:=⟨_,fun f d v H' q=>q v H',hF⟩
 obtain⟨d,rfl,hok,q⟩:=hF
 refine⟨_,(@ao _ _ _ _ _ (@cH _ _ _ _ _ _ _ _ (@oF _ (K) _ _ rfl (@bW _ _ _ _ _ _ _ _ (qQ) C6 rfl fB PyProof.Rows.boot_isinstance (@aa _ _ _ _ _ (pv 1) (@aa _ _ _ _ _ (@aX _ _ _ _ _ (@aa _ _ _ _ _ (g6 (v:= .ty "list") rfl cg PyProof.Rows.boot_list rfl) (@aa _ _ _ _ _ (g6 (v:= .ty "tuple") rfl jR PyProof.Rows.boot_tuple rfl) ai rfl) rfl)) ai rfl) rfl) (by decide) (by decide) (by rfl) (by rfl)) (fun _=>rfl)) (@ao _ _ _ _ _ (@cH _ _ _ _ _ _ _ _ (PW.pt (pQ (@CS _ _ _ _ (@oF _ (K) _ _ rfl (@bW _ _ _ _ _ _ _ _ (qQ) C6 rfl fB PyProof.Rows.boot_isinstance (@aa _ _ _ _ _ (pv 0) (@aa _ _ _ _ _ (@aX _ _ _ _ _ (@aa _ _ _ _ _ (g6 (v:= .ty "list") rfl cg PyProof.Rows.boot_list rfl) (@aa _ _ _ _ _ (g6 (v:= .ty "tuple") rfl jR PyProof.Rows.boot_tuple rfl) ai rfl) rfl)) ai rfl) rfl) (by decide) (by decide) (by rfl) (by rfl)) (fun _=>rfl))) (qK (@aU _ _ _ _ _ _ _ _ gF (@bW _ _ _ _ _ _ _ _ (iF K) jG rfl fB PyProof.Rows.boot_isinstance (@aa _ _ _ _ _ (pv 0) (@aa _ _ _ _ _ (g6 (v:= .ty "list") rfl cg PyProof.Rows.boot_list rfl) ai rfl) rfl) (by decide) (by decide) (by rfl) (by rfl)) (@bW _ _ _ _ _ _ _ _ (iF K) jG rfl fB PyProof.Rows.boot_isinstance (@aa _ _ _ _ _ (pv 1) (@aa _ _ _ _ _ (g6 (v:= .ty "list") rfl cg PyProof.Rows.boot_list rfl) ai rfl) rfl) (by decide) (by decide) (by rfl) (by rfl)) (aP _))))) (@aB _ _ _ (@aT _ _ _ _ nE)) cI) (@ao _ _ _ _ _ (@cH _ _ _ _ _ _ _ _ (@aU _ _ _ _ _ _ _ _ gF (@bW _ _ _ _ _ _ _ _ (fN K) ie rfl bT PySem.boot_len (@aa _ _ _ _ _ (pv 0) ai rfl) (by decide) (by decide) (by rfl) (by rfl)) (@bW _ _ _ _ _ _ _ _ (fN K) ie rfl bT PySem.boot_len (@aa _ _ _ _ _ (pv 1) ai rfl) (by decide) (by decide) (by rfl) (by rfl)) (aP _)) (@aB _ _ _ (@aT _ _ _ _ nE)) cI) (@aB _ _ _ (@aT _ _ _ _ (@bW _ _ _ _ _ _ _ _ (tK K) (JB rfl) rfl jV PyProof.Rows.boot_all (@aa _ _ _ _ _ (d9 (cN.of (show dj (az kK) ["found","due"] _ ["k","found","due"] [none,some 0,some 1]=true by decide+kernel)) (@gG _ _ _ _ _ _ rfl aY (@aa _ _ _ _ _ (@bW _ _ _ _ _ _ _ _ (fN K) ie rfl bT PySem.boot_len (@aa _ _ _ _ _ (pv 1) ai rfl) (by decide) (by decide) (by rfl) (by rfl)) ai rfl) (by rfl)) (fun _ _ _ _=>⟨(aG (i:=0) (by show List.Nodup (["k","found","due"]:List Str);decide+kernel) rfl (Or.inl rfl)),gm,(@aN _ _ _ _ _ _ _ _ _ _ rF (hr.mono (Nat.le_refl _)) (@aa _ _ _ _ _ (@aI _ _ _ _ _ _ (qh K) Eh (pv 1) (pv 0) (fun _ _=>rfl)) (@aa _ _ _ _ _ (@aI _ _ _ _ _ _ (qh K) Eh (pv 2) (pv 0) (fun _ _=>rfl)) ai rfl) rfl) (by rfl) (by decide) (by rfl) (by rfl))⟩)) ai rfl) (by decide) (by decide) (by rfl) (by rfl)))))) cI) (@ao _ _ _ _ _ (@cH _ _ _ _ _ _ _ _ (PW.pt (pQ (@aU _ _ _ _ _ _ _ _ gF (@bW _ _ _ _ _ _ _ _ (iF K) jG rfl fB PyProof.Rows.boot_isinstance (@aa _ _ _ _ _ (pv 0) (@aa _ _ _ _ _ (g6 (v:= .ty "bool") rfl jS PyProof.Rows.boot_bool rfl) ai rfl) rfl) (by decide) (by decide) (by rfl) (by rfl)) (@bW _ _ _ _ _ _ _ _ (iF K) jG rfl fB PyProof.Rows.boot_isinstance (@aa _ _ _ _ _ (pv 1) (@aa _ _ _ _ _ (g6 (v:= .ty "bool") rfl jS PyProof.Rows.boot_bool rfl) ai rfl) rfl) (by decide) (by decide) (by rfl) (by rfl)) (aP _)) (qK (@aU _ _ _ _ _ _ _ _ gF (@bW _ _ _ _ _ _ _ _ (iF K) jG rfl fB PyProof.Rows.boot_isinstance (@aa _ _ _ _ _ (pv 0) (@aa _ _ _ _ _ (g6 (v:= .ty "int") rfl ig PyProof.Rows.boot_int rfl) ai rfl) rfl) (by decide) (by decide) (by rfl) (by rfl)) (@bW _ _ _ _ _ _ _ _ (iF K) jG rfl fB PyProof.Rows.boot_isinstance (@aa _ _ _ _ _ (pv 1) (@aa _ _ _ _ _ (g6 (v:= .ty "int") rfl ig PyProof.Rows.boot_int rfl) ai rfl) rfl) (by decide) (by decide) (by rfl) (by rfl)) (aP _))))) (@aB _ _ _ (@aT _ _ _ _ nE)) cI) (@aB _ _ _ (@aT _ _ _ _ (@OT _ _ _ _ _ _ _ (@oE _ _ _ _ _ _ _ _ fX (@bW _ _ _ _ _ _ _ _ (iF K) jG rfl fB PyProof.Rows.boot_isinstance (@aa _ _ _ _ _ (pv 0) (@aa _ _ _ _ _ (g6 (v:= .ty "str") rfl jJ PyProof.Rows.boot_str rfl) ai rfl) rfl) (by decide) (by decide) (by rfl) (by rfl)) (@bW _ _ _ _ _ _ _ _ (iF K) jG rfl fB PyProof.Rows.boot_isinstance (@aa _ _ _ _ _ (pv 1) (@aa _ _ _ _ _ (g6 (v:= .ty "str") rfl jJ PyProof.Rows.boot_str rfl) ai rfl) rfl) (by decide) (by decide) (by rfl) (by rfl)) (aP _)) (@Gn _ _ _ _ _ (@oE _ _ _ _ _ _ _ _ fX (pv 0) (pv 1) (aP _)))))))),?_⟩
 refine Sv.fE hlive hds aH (ρ:=[.d false _, .d false _]) rfl ?_
 clear aH hds
 walk_at "dt"
 rcases hok with hs|⟨ds,hd,hl,he⟩
 ·have h1:(fZ d "list" ||fZ d "tuple")=false:=by cases d<;>first|rfl|cases hs
  rw[h1]
  walk_at "dt"
  rw[beq_self_eq_true]
  walk_at "dt"
  rw[beq_self_eq_true]
  walk_at "dt"
  rw[beq_self_eq_true]
  walk_at "dt"
  exact⟨true, .self hs,q⟩
 rcases hd with rfl|rfl
 ·rw[(zq ds).1,(zq ds).2,Bool.true_or]
  walk_at "dt"
  refine ay.ev (ay.jU (by decide) rfl ?_)
  walk_at "dt"
  refine⟨true,fun i es=>es=List.replicate i (.bool true),rfl,?_,?_⟩
  ·rintro i d' es ⟨hi,rfl⟩ hl' rfl
   have hi':i<ds.length:=by omega
   have hat:bh ds (0+(i:Int))=some ds[i]:=iz (by omega) (by rw[show(0+(i:Int)).toNat=i by omega];exact List.getElem?_eq_getElem hi')
   walk_at "dt"
   refine⟨by walk_at "wk",?_⟩
   walk_at "dt"
   refine Ev.dD (o9 n) ?_
   walk_at "dt"
   refine⟨rfl,ds[i],rfl,he _ (List.getElem_mem hi'),fun _=>rfl,?_⟩
   show _=List.replicate (i+1) _
   rw[List.replicate_succ']
  ·rintro es hl' rfl
   refine⟨List.replicate ds.length true,by simp,?_⟩
   rw[show(List.replicate ds.length true).all id=true by simp]
   exact q
 ·rw[(Ao ds).1,(Ao ds).2,Bool.false_or]
  walk_at "dt"
  refine ay.ev (ay.jU (by decide) rfl ?_)
  walk_at "dt"
  refine⟨true,fun i es=>es=List.replicate i (.bool true),rfl,?_,?_⟩
  ·rintro i d' es ⟨hi,rfl⟩ hl' rfl
   have hi':i<ds.length:=by omega
   have hat:bh ds (0+(i:Int))=some ds[i]:=iz (by omega) (by rw[show(0+(i:Int)).toNat=i by omega];exact List.getElem?_eq_getElem hi')
   walk_at "dt"
   refine⟨by walk_at "wk",?_⟩
   walk_at "dt"
   refine Ev.dD (o9 n) ?_
   walk_at "dt"
   refine⟨rfl,ds[i],rfl,he _ (List.getElem_mem hi'),fun _=>rfl,?_⟩
   show _=List.replicate (i+1) _
   rw[List.replicate_succ']
  ·rintro es hl' rfl
   refine⟨List.replicate ds.length true,by simp,?_⟩
   rw[show(List.replicate ds.length true).all id=true by simp]
   exact q
def rA:DF:=fun ds Φ=>∃(p n:Int) (cs:List aA),ds=[bK p n cs]/\cs.length<=10000/\∀f,Φ f (bK p n cs)
theorem JZ:cS rA:=by
 intro ds Φ Ψ hm z
 obtain⟨p,n,cs,e,h,q⟩:=hm
 exact⟨p,n,cs,e,h,fun f=>z _ _ (q f)⟩
theorem I0:bU ["net"] ["net"] (az j4):=⟨rfl,rfl,rfl,by decide+kernel,rfl,by decide+kernel,by decide+kernel⟩
theorem LU(F:bJ K "_law_copy" "_law_copy" j4 f fd)(cg:mg "list"=none):
  bz P w K mg base bH 1 f fd ["net"] (bA 1 rA):=by
 refine F.ok I0 (fun vs H Q E h=>h.1) (fun cdv A outer s H vs Q E hr h=>?_)
 obtain⟨_,nb,ds,hlive,hds,hF⟩:=h
 obtain⟨Φ,aH,hF⟩:∃Φ:Pd,(∀f d v H',Φ f d->aO H H'->af (fun a=>nb a\/(f=true/\H a≠none)) H' d v->Q v H')/\rA ds Φ:=⟨_,fun f d v H' q=>q v H',hF⟩
 obtain⟨p,n,cs,rfl,hl,q⟩:=hF
 refine⟨_,(@aB _ _ _ (@aT _ _ _ _ (@aX _ _ _ _ _ (@aa _ _ _ _ _ (@aI _ _ _ _ _ _ (bY K) cF (pv 0) aj (fun _ _=>rfl)) (@aa _ _ _ _ _ (@aI _ _ _ _ _ _ (bY K) cF (pv 0) aj (fun _ _=>rfl)) (@aa _ _ _ _ _ (d9 (cN.of (show dj (az j4) ["net"] _ ["pairs"] [none]=true by decide+kernel)) (@dH _ _ _ _ (@aI _ _ _ _ _ _ (bY K) cF (pv 0) aj (fun _ _=>rfl))) (fun _ _ _ _=>⟨(aG (i:=0) (by show List.Nodup (["pairs"]:List Str);decide+kernel) rfl (Or.inl rfl)),gm,(@gU _ _ _ _ _ _ _ _ (jK K) ou rfl cg PyProof.Rows.boot_list (@aa _ _ _ _ _ (pv 0) ai rfl) (by decide) (by decide) (by rfl) (by rfl))⟩)) ai rfl) rfl) rfl)))),?_⟩
 refine Sv.fE hlive hds aH (ρ:=[.d false _]) rfl ?_
 clear aH hds
 walk_at "dt"
 refine ay.ev (ay.iA (by decide) rfl ?_)
 walk_at "dt"
 refine⟨by rw[List.length_map];exact hl,fun v=>⟨false,fun i ds=>ds=(cs.take i).map dS,rfl,?_,?_⟩⟩
 ·rintro i d ds hd hl' rfl
  obtain⟨prs,cy,rfl⟩:=dU hd
  walk_at "dt"
  refine⟨by walk_at "wk",?_⟩
  walk_at "dt"
  refine⟨fun z=>(by cases z),?_⟩
  show _=List.map _ _
  rw[take_snoc cy,List.map_append]
  rfl
 ·rintro ds hl' rfl
  rw[List.length_map,List.take_length]
  walk_at "dt"
  exact q _
def qu:DF:=fun ds Φ=>∃(p n:Int) (cs:List aA) (ws:List Int),ds=[bK p n cs,bD ws]/\ir p n cs/\cs.length<=62/\ws.length=n.toNat/\(∀x∈ws,0<=x/\x<p)/\Φ true (.list ((bq p cs ws n.toNat).map bE))
theorem L7:cS qu:=by
 intro ds Φ Ψ hm z
 obtain⟨p,n,cs,ws,e,h1,h2,h3,h4,q⟩:=hm
 exact⟨p,n,cs,ws,e,h1,h2,h3,h4,z _ _ q⟩
theorem lz:bU ["net","word","turns","place","some","degree","letter","many"] ["net","word"] (az j6):=⟨rfl,rfl,rfl,by decide+kernel,rfl,by decide+kernel,by decide+kernel⟩
theorem KZ(F:bJ K "_law_turns" "_law_turns" j6 f fd)(JS:Callee P w K mg base "_law_votes" 2 ["net","word","place"] (bA 3 qj))(aY:mg "range"=none)(ja:mg "sum"=none):
  bz P w K mg base bH 3 f fd ["net","word"] (bA 2 qu):=by
 refine F.ok lz (fun vs H Q E h=>h.1) (fun cdv A outer s H vs Q E hr h=>?_)
 obtain⟨_,nb,ds,hlive,hds,hF⟩:=h
 obtain⟨Φ,aH,hF⟩:∃Φ:Pd,(∀f d v H',Φ f d->aO H H'->af (fun a=>nb a\/(f=true/\H a≠none)) H' d v->Q v H')/\qu ds Φ:=⟨_,fun f d v H' q=>q v H',hF⟩
 obtain⟨p,n,cs,ws,rfl,hN,pD,hwl,hws,q⟩:=hF
 refine⟨_,(@ao _ _ _ _ _ (@aF _ _ (2) _ _ _ _ lz.nd rfl (Or.inl rfl) (@cW _ _ _ _ ai) (by rfl) (by first|exact .inl rfl|exact .inr rfl|assumption)) (@ao _ _ _ _ _ (@dY _ _ _ _ _ _ _ _ PassesOwn.never rfl (@gG _ _ _ _ _ _ rfl aY (@aa _ _ _ _ _ (@aI _ _ _ _ _ _ (bY K) cF (pv 0) aj (fun _ _=>rfl)) ai rfl) (by rfl)) (aG (i:=3) lz.nd rfl (Or.inl rfl)) (@ao _ _ _ _ _ (@aF _ _ (4) _ _ _ _ lz.nd rfl (Or.inl rfl) (@aN _ _ _ _ _ _ _ _ _ _ JS (hr.mono (by decide)) (@aa _ _ _ _ _ (pv 0) (@aa _ _ _ _ _ (pv 1) (@aa _ _ _ _ _ (pv 3) ai rfl) rfl) rfl) (by rfl) (by decide) (by rfl) (by rfl)) (by rfl) (by first|exact .inl rfl|exact .inr rfl|assumption)) (@ao _ _ _ _ _ (@aF _ _ (5) _ _ _ _ lz.nd rfl (Or.inl rfl) (@bW _ _ _ _ _ _ _ _ (nW K) (vS rfl) rfl ja PyProof.Rows.boot_sum (@aa _ _ _ _ _ (d9 (cN.of (show dj (az j6) ["net","word","turns","place","some","degree","letter","many"] _ ["letter","many"] [none,none]=true by decide+kernel)) (@dH _ _ _ _ (pv 4)) (fun _ _ _ _=>⟨(@eU _ (K) _ _ _ (2) _ rfl rfl (@aW _ _ _ _ _ (aG (i:=0) (by show List.Nodup (["letter","many"]:List Str);decide+kernel) rfl (Or.inl rfl)) (@aW _ _ _ _ _ (aG (i:=1) (by show List.Nodup (["letter","many"]:List Str);decide+kernel) rfl (Or.inl rfl)) eB (by rfl)) (by rfl)) (by rfl) (by rfl)),gm,(pv 1)⟩)) ai rfl) (by decide) (by decide) (by rfl) (by rfl)) (by rfl) (by first|exact .inl rfl|exact .inr rfl|assumption)) (@aB _ _ _ (@dY _ _ _ _ _ _ _ _ PassesOwn.never rfl (@dH _ _ _ _ (pv 4)) (@eU _ (K) _ _ _ (2) _ rfl rfl (@aW _ _ _ _ _ (aG (i:=6) lz.nd rfl (Or.inl rfl)) (@aW _ _ _ _ _ (aG (i:=7) lz.nd rfl (Or.inl rfl)) eB (by rfl)) (by rfl)) (by rfl) (by rfl)) (@aB _ _ _ (@cH _ _ _ _ _ _ _ _ (PW.pt (kF (@aU _ _ _ _ _ _ _ _ gF (pv 6) (@aI _ _ _ _ _ _ (dh K) bM (pv 1) (pv 3) (fun _ _=>rfl)) (aP _)) (kC (@aU _ _ _ _ _ _ _ _ nh (pv 7) (@aD _ _ _ _ _ _ _ _ iP (pv 5) (pv 7)) (aP _))))) (@aB _ _ _ (@iX _ _ _ _ (iu PySem.F.plainAttrs_list PySem.F.slot_list_append PySem.F.type_list_append iI (pv 2) (@aa _ _ _ _ _ (@aX _ _ _ _ _ (@aa _ _ _ _ _ (pv 3) (@aa _ _ _ _ _ (@aI _ _ _ _ _ _ (dh K) bM (pv 1) (pv 3) (fun _ _=>rfl)) (@aa _ _ _ _ _ (pv 6) ai rfl) rfl) rfl)) ai rfl)) (by rfl))) cI)) (by intro _;rfl))))) (by intro _;rfl)) (@aB _ _ _ (@aT _ _ _ _ (pv 2))))),?_⟩
 refine Sv.fE hlive hds aH (ρ:=[.d false _, .d false _, .no, .no, .no, .no, .no, .no]) rfl ?_
 clear aH hds
 have p2:=hN.hp.1
 have dX:=hN.dX
 have n0:=hN.n0
 have n1:=hN.n1
 walk_at "dt"
 intro A3
 refine Sv.seq ?_
 refine Sv.oS ?_
 walk_at "dt"
 refine⟨fun i ρ=>∃(x4 x5 x6 x7 x8:Sl),ρ=[.d false (bK p n cs), .d false (bD ws), .own A3 true ((bq p cs ws i).map bE),x4,x5,x6,x7,x8],⟨_,_,_,_,_,rfl⟩,?_,?_⟩
 ·rintro i d ρ ⟨hi,rfl⟩ ⟨x4,x5,x6,x7,x8,rfl⟩
  have hil:i<ws.length:=by omega
  have hat:bh (ws.map PyData.int) (0+(i:Int))=some (.int (ws.getD i 0)):=iz (by omega) (by rw[show(0+(i:Int)).toNat=i by omega,List.getElem?_map,List.getElem?_eq_getElem hil,List.getD_eq_getElem?_getD,List.getElem?_eq_getElem hil];rfl)
  obtain⟨VL,jH⟩:∃VL,eW p cs ws (i:Int)=VL:=⟨_,rfl⟩
  have yu:VL.length<=cs.length:=by rw[<-jH];exact PN
  have fM:=pI (p:=p) (cs:=cs) (ws:=ws) i
  refine Gv.jg ?_
  walk_at "dt"
  refine Ev.dD Fc ?_
  walk_at "dt"
  refine⟨rfl,p,n,cs,ws,i,by show[_,_,_]=_;rw[show(0+(i:Int))=i by omega],hN,pD,hwl,hws,by omega,fun rs hnd hmem g=>?_⟩
  rw[jH] at hmem⊢
  have hrm:(rs.map fun r=>pairD (r,(VL.count r:Int))).length=rs.length:=List.length_map ..
  have hrl:rs.length<=62:=by
   have:=List.Nodup.length_le_of_subset hnd fun k hk=>(hmem k).mp hk
   omega
  refine Gv.name ?_
  walk_at "dt"
  refine ay.ev (ay.iA (by decide) rfl ?_)
  walk_at "dt"
  refine fun v=>⟨false,fun j ds=>ds=((rs.take j).map fun r=>(VL.count r:Int)).map PyData.int,rfl,?_,?_⟩
  ·rintro j d ds hd hl' rfl
   obtain⟨r,hr,rfl⟩:=dU hd
   have hts:=take_snoc hr
   walk_at "dt"
   refine⟨by walk_at "wk",?_⟩
   walk_at "dt"
   show _=List.map _ (List.map _ (List.take (j+1) rs))
   rw[hts,List.map_append,List.map_append]
   rfl
  rintro ds hl' rfl
  rw[hrm,List.take_length]
  have hsum:(rs.map fun r=>(VL.count r:Int)).sum=VL.length:=by
   rw[<-ED hnd fun k hk=>(hmem k).mpr hk]
   clear hmem hnd hl' hrm hrl
   induction rs with
   |nil=>rfl
   |cons r rs ih=>rw[List.map_cons,List.sum_cons,ih,List.map_cons,List.sum_cons];simp
  refine⟨_,rfl,?_⟩
  rw[hsum]
  walk_at "dt"
  obtain⟨old,hold⟩:∃old,ws.getD i 0=old:=⟨_,rfl⟩
  rw[hold] at hat
  generalize U6:(g||fP [(false,bK p n cs),(false,bD ws),(true,PyData.int (0+(i:Int)))])=g5
  refine Sv.forL ?_
  refine Ev.var rfl ?_
  refine⟨_,rfl,fun v=>⟨fun j ρ=>∃(x7 x8:Sl),ρ=[.d false (bK p n cs), .d false (bD ws), .own A3 true ((bq p cs ws i++((rs.take j).filter (bI VL old)).map fun x=>((i:Int),old,x)).map bE), .d true (.int (0+(i:Int))), .d g5 (.list (rs.map fun r=>pairD (r,(VL.count r:Int)))), .d true (.int VL.length),x7,x8],?_,?_,?_⟩⟩
  ·refine⟨x7,x8,?_⟩
   rw[List.take_zero,List.filter_nil,List.map_nil,List.append_nil]
   rfl
  ·rintro j d ρ hd ⟨x7,x8,rfl⟩
   obtain⟨x,hx,rfl⟩:=dU hd
   have hjl:=(List.getElem?_eq_some_iff.mp hx).1
   have M6:VL.count x<=VL.length:=List.count_le_length
   have Lw:(bq p cs ws i++((rs.take j).filter (bI VL old)).map fun x=>((i:Int),old,x)).length<9999:=by
    rw[List.length_append,List.length_map]
    have:=List.length_filter_le (bI VL old) (rs.take j)
    rw[List.length_take] at this
    omega
   have hts:=take_snoc hx
   have hpl:=pR ws (bq p cs ws i++((rs.take j).filter (bI VL old)).map fun x=>((i:Int),old,x))
   walk_at "dt"
   by_cases c1:x=old
   ·rw[if_neg (by simp[c1])]
    walk_at "dt"
    refine⟨.d true (.int x), .d true (.int (VL.count x)),?_⟩
    rw[hts,List.filter_append,show[x].filter (bI VL old)=[] by simp[bI,c1],List.append_nil]
    rfl
   ·rw[if_pos (by simp[c1])]
    walk_at "dt"
    by_cases c2:VL.length<2*VL.count x
    ·rw[if_pos (by simp;omega)]
     have heq:bq p cs ws i++((rs.take (j+1)).filter (bI VL old)).map (fun x=>((i:Int),old,x))=(bq p cs ws i++((rs.take j).filter (bI VL old)).map fun x=>((i:Int),old,x))++[((i:Int),old,x)]:=by
      rw[hts,List.filter_append,show[x].filter (bI VL old)=[x] by simp[bI,c1,c2]]
      simp
     walk_at "dt"
     refine⟨by rw[List.length_map];omega,?_⟩
     refine⟨.d true (.int x), .d true (.int (VL.count x)),?_⟩
     have Q0:(bq p cs ws i++((rs.take (j+1)).filter (bI VL old)).map (fun x=>((i:Int),old,x))).map bE=(bq p cs ws i++((rs.take j).filter (bI VL old)).map fun x=>((i:Int),old,x)).map bE++[bE ((i:Int),old,x)]:=by rw[heq,List.map_append];rfl
     rw[Q0,show(0+(i:Int))=i by omega]
     rfl
    ·rw[if_neg (by simp;omega)]
     walk_at "dt"
     refine⟨.d true (.int x), .d true (.int (VL.count x)),?_⟩
     rw[hts,List.filter_append,show[x].filter (bI VL old)=[] by simp[bI,c2],List.append_nil]
     rfl
  ·rintro ρ ⟨x7,x8,rfl⟩
   rw[hrm,List.take_length,zo hnd hmem]
   have hs:bq p cs ws (i+1)=bq p cs ws i++(jx VL old).map fun x=>((i:Int),old,x):=by
    rw[wN]
    unfold lA
    rw[jH,hold]
   rw[<-hs]
   exact⟨_,_,_,_,_,rfl⟩
 ·rintro ρ ⟨x4,x5,x6,x7,x8,rfl⟩
  refine Sv.yC rfl ?_
  exact q
def p6:DF:=fun ds Φ=>∃(p n:Int) (cs:List aA) (ws:List Int) (m:Nat),ds=[bK p n cs,bD ws, .int m]/\ir p n cs/\cs.length<=62/\m<=5000/\ws.length=n.toNat/\(∀x∈ws,0<=x/\x<p)/\∀f,Φ f (nv (bQ p cs n.toNat m ws))
theorem IV:cS p6:=by
 intro ds Φ Ψ hm z
 obtain⟨p,n,cs,ws,m,e,h1,h2,h3,h4,h5,q⟩:=hm
 exact⟨p,n,cs,ws,m,e,h1,h2,h3,h4,h5,fun f=>z _ _ (q f)⟩
theorem FQ(cs:List aA):SeqAt.shaped (.list (cs.map dS))=true:=by
 have h1:=zz cs
 unfold SeqAt.shaped
 simp[PyData.canLay0,PyData.depth,h1.2]
 have:=h1.1
 omega
theorem Uc{p:Int}{cs:List aA}{n:Nat}{ws:List Int}(hp:0<p)(hl:ws.length=n)(hw:∀x∈ws,0<=x/\x<p):∀t∈bq p cs ws n,0<=t.1/\t.1<n:=fun t ht=>by
 obtain⟨i,hi,e1,_⟩:=yq ht
 omega
theorem OF{w:List Int}{t:Int×Int×Int}(h0:0<=t.1)(h1:t.1<w.length):eV (w.map PyData.int).length t.1=some t.1.toNat:=by
 unfold eV
 rw[List.length_map]
 repeat (first|rw[if_pos (by omega)]|rw[if_neg (by omega)])
theorem jI:bU ["net","word","most","now","rounds","k","turns","place","old","new"] ["net","word","most"] (az kQ):=⟨rfl,rfl,rfl,by decide+kernel,rfl,by decide+kernel,by decide+kernel⟩
theorem Sz(F:bJ K "_law_due" "_law_due" kQ f fd)(MY:Callee P w K mg base "_law_turns" 3 ["net","word"] (bA 2 qu))(oj:Callee P w K mg base "_law_sum" 1 ["p","pairs","word"] (bA 3 lB))(cg:mg "list"=none)(aY:mg "range"=none):
  bz P w K mg base bH 4 f fd ["net","word","most"] (bA 3 p6):=by
 refine F.ok jI (fun vs H Q E h=>h.1) (fun cdv A outer s H vs Q E hr h=>?_)
 obtain⟨_,nb,ds,hlive,hds,hF⟩:=h
 obtain⟨Φ,aH,hF⟩:∃Φ:Pd,(∀f d v H',Φ f d->aO H H'->af (fun a=>nb a\/(f=true/\H a≠none)) H' d v->Q v H')/\p6 ds Φ:=⟨_,fun f d v H' q=>q v H',hF⟩
 obtain⟨p,n,cs,ws,m,rfl,hN,pD,hm,hwl,hws,q⟩:=hF
 refine⟨_,(@ao _ _ _ _ _ (@aF _ _ (3) _ _ _ _ jI.nd rfl (Or.inr rfl) (@gU _ _ _ _ _ _ _ _ (jK K) ou rfl cg PyProof.Rows.boot_list (@aa _ _ _ _ _ (pv 1) ai rfl) (by decide) (by decide) (by rfl) (by rfl)) (by rfl) (by first|exact .inl rfl|exact .inr rfl|assumption)) (@ao _ _ _ _ _ (@aF _ _ (4) _ _ _ _ jI.nd rfl (Or.inl rfl) (@cW _ _ _ _ ai) (by rfl) (by first|exact .inl rfl|exact .inr rfl|assumption)) (@ao _ _ _ _ _ (@dY _ _ _ _ _ _ _ _ PassesOwn.never rfl (@gG _ _ _ _ _ _ rfl aY (@aa _ _ _ _ _ (@aD _ _ _ _ _ _ _ _ dJ (pv 2) aj) ai rfl) (by rfl)) (aG (i:=5) jI.nd rfl (Or.inl rfl)) (@ao _ _ _ _ _ (@cH _ _ _ _ _ _ _ _ (@aU _ _ _ _ _ _ _ _ (oO hr.units) (d9 (cN.of (show dj (az kQ) ["net","word","most","now","rounds","k","turns","place","old","new"] _ ["pairs","net","now"] [none,some 0,some 3]=true by decide+kernel)) (@dH _ _ _ _ (@aI _ _ _ _ _ _ (bY K) cF (pv 0) aj (fun _ _=>rfl))) (fun _ _ _ _=>⟨(aG (i:=0) (by show List.Nodup (["pairs","net","now"]:List Str);decide+kernel) rfl (Or.inl rfl)),(j3 (@aU _ _ _ _ _ _ _ _ gF (@aN _ _ _ _ _ _ _ _ _ _ oj (hr.mono (by decide)) (@aa _ _ _ _ _ (@aI _ _ _ _ _ _ (bY K) cF (pv 1) aj (fun _ _=>rfl)) (@aa _ _ _ _ _ (pv 0) (@aa _ _ _ _ _ (pv 2) ai rfl) rfl) rfl) (by rfl) (by decide) (by rfl) (by rfl)) aj (aP _))),(pv 0)⟩)) (@cW _ _ _ _ ai) (aP _)) (@aB _ _ _ (@aT _ _ _ _ (@aX _ _ _ _ _ (@aa _ _ _ _ _ (pv 3) (@aa _ _ _ _ _ (pv 4) (@aa _ _ _ _ _ (@aX _ _ _ _ _ (@aa _ _ _ _ _ kh ai rfl)) ai rfl) rfl) rfl)))) cI) (@ao _ _ _ _ _ (@cH _ _ _ _ _ _ _ _ (@aU _ _ _ _ _ _ _ _ fX (pv 5) (pv 2) (aP _)) (@aB _ _ _ (@aT _ _ _ _ (@aX _ _ _ _ _ (@aa _ _ _ _ _ (pv 3) (@aa _ _ _ _ _ (pv 4) (@aa _ _ _ _ _ (@aX _ _ _ _ _ (@aa _ _ _ _ _ kh ai rfl)) ai rfl) rfl) rfl)))) cI) (@ao _ _ _ _ _ (@aF _ _ (6) _ _ _ _ jI.nd rfl (Or.inl rfl) (@aN _ _ _ _ _ _ _ _ _ _ MY (hr.mono (by decide)) (@aa _ _ _ _ _ (pv 0) (@aa _ _ _ _ _ (pv 3) ai rfl) rfl) (by rfl) (by decide) (by rfl) (by rfl)) (by rfl) (by first|exact .inl rfl|exact .inr rfl|assumption)) (@ao _ _ _ _ _ (@cH _ _ _ _ _ _ _ _ (@aU _ _ _ _ _ _ _ _ (oO hr.units) (pv 6) (@cW _ _ _ _ ai) (aP _)) (@aB _ _ _ (@aT _ _ _ _ (@aX _ _ _ _ _ (@aa _ _ _ _ _ (pv 3) (@aa _ _ _ _ _ (pv 4) (@aa _ _ _ _ _ (@aX _ _ _ _ _ (@aa _ _ _ _ _ kh ai rfl)) ai rfl) rfl) rfl)))) cI) (@ao _ _ _ _ _ (@iX _ _ _ _ (iu PySem.F.plainAttrs_list PySem.F.slot_list_append PySem.F.type_list_append iI (pv 4) (@aa _ _ _ _ _ (pv 6) ai rfl)) (by rfl)) (@aB _ _ _ (@dY _ _ _ _ _ _ _ _ PassesOwn.never rfl (@dH _ _ _ _ (pv 6)) (@eU _ (K) _ _ _ (3) _ rfl rfl (@aW _ _ _ _ _ (aG (i:=7) jI.nd rfl (Or.inl rfl)) (@aW _ _ _ _ _ (aG (i:=8) jI.nd rfl (Or.inl rfl)) (@aW _ _ _ _ _ (aG (i:=9) jI.nd rfl (Or.inl rfl)) eB (by rfl)) (by rfl)) (by rfl)) (by rfl) (by rfl)) (@aB _ _ _ (@fV _ _ _ _ _ _ (pv 9) (i6 (pv 3) (pv 7) set_list) (by rfl) (by rfl) (by rfl))) (by intro _;rfl)))))))) (by intro _;rfl)) (@aB _ _ _ (@aT _ _ _ _ (@aX _ _ _ _ _ (@aa _ _ _ _ _ (pv 3) (@aa _ _ _ _ _ (pv 4) (@aa _ _ _ _ _ (@aX _ _ _ _ _ (@aa _ _ _ _ _ kh ai rfl)) ai rfl) rfl) rfl))))))),?_⟩
 refine Sv.fE hlive hds aH (ρ:=[.d false _, .d false _, .d false _, .no, .no, .no, .no, .no, .no, .no]) rfl ?_
 clear aH hds
 have p2:=hN.hp.1
 have dX:=hN.dX
 have n0:=hN.n0
 have n1:=hN.n1
 refine Sv.seq ?_
 refine Sv.qk (ay.listOf ?_)
 walk_at "dt"
 intro A3
 rw[q9,Bool.or_true]
 walk_at "dt"
 intro A4
 obtain⟨wf,hwf⟩:∃wf,(bQ p cs n.toNat m ws).1=wf:=⟨_,rfl⟩
 obtain⟨rf,oW⟩:∃rf,(bQ p cs n.toNat m ws).2.1=rf:=⟨_,rfl⟩
 obtain⟨ef,hef⟩:∃ef,(bQ p cs n.toNat m ws).2.2=ef:=⟨_,rfl⟩
 have q:∀f,Φ f (nv (wf,rf,ef)):=by rw[<-hwf,<-oW,<-hef];exact q
 refine Sv.seq ?_
 refine Sv.oS ?_
 walk_at "dt"
 refine⟨fun i ρ=>∃(w:List Int) (st:List (List cG)) (g4:Bool) (x5 x6 x7 x8 x9:Sl),i<=m/\w.length=n.toNat/\(∀x∈w,0<=x/\x<p)/\(bQ p cs n.toNat (m-i) w).1=wf/\st++(bQ p cs n.toNat (m-i) w).2.1=rf/\(bQ p cs n.toNat (m-i) w).2.2=ef/\st.length=i/\ρ=[.d false (bK p n cs), .d false (bD ws), .d false (.int m), .own A3 true (w.map .int), .own A4 g4 (st.map fO),x5,x6,x7,x8,x9],⟨ws,[],_,_,_,_,_,_,Nat.zero_le _,hwl,hws,hwf,oW,hef,rfl,rfl⟩,?_,?_⟩
 ·rintro i d ρ ⟨hi,rfl⟩ ⟨w,st,g4,x5,x6,x7,x8,x9,him,hl,hr,h1,h2,h3,h4,rfl⟩
  have kM:bD w=ji (w.map some):=by show PyData.list _=PyData.list _;rw[List.map_map];rfl
  have n5:(cs.map dS).length=cs.length:=List.length_map ..
  have xW:∀prs∈cs,lJ prs (w.map some).length:=fun prs cy pr bC=>by
   obtain⟨_,_,g⟩:=hN.ok prs cy
   obtain⟨a0,a1,a2,a3⟩:=g pr bC
   exact⟨a0,by rw[List.length_map];omega,by unfold Sm;omega⟩
  have nI:kJ (w.map some):=fun x hx=>by
   obtain⟨y,hy,e⟩:=List.mem_map.mp hx
   cases e
   obtain⟨a0,a1⟩:=hr x hy
   unfold Sm;omega
  refine Gv.jg ?_
  refine Sv.seq ?_
  refine Sv.ia ?_
  refine Tv.lend 3 rfl ?_
  walk_at "dt"
  refine ay.ev (ay.iA (by decide) rfl ?_)
  walk_at "dt"
  refine fun v=>⟨false,fun j ds=>∃es:List aA,ds=es.map dS/\es.length=brk p (cs.take j) w,⟨[],rfl,rfl⟩,?_,?_⟩
  ·rintro j d ds hd hl' ⟨es,rfl,hds⟩
   obtain⟨prs,cy,rfl⟩:=dU hd
   obtain⟨g1,g2,g3⟩:=hN.ok prs (List.mem_of_getElem? cy)
   have hts:=take_snoc cy
   have hstep:brk p (cs.take (j+1)) w=brk p (cs.take j) w+if decide (aZ prs (w.map some)%p≠0)=true then 1 else 0:=by
    unfold brk
    rw[hts,List.countP_append,List.countP_singleton]
   walk_at "dt"
   refine⟨by walk_at "wk",?_⟩
   walk_at "dt"
   refine Ev.dD wX ?_
   walk_at "dt"
   refine⟨rfl,p,prs,w.map some,by show[_,_,bD w]=_;rw[kM],by omega,by omega,xW prs (List.mem_of_getElem? cy),nI,?_⟩
   walk_at "dt"
   by_cases c:aZ prs (w.map some)%p=0
   ·rw[if_neg (by simp[c])]
    refine⟨es,rfl,?_⟩
    rw[hds,hstep,if_neg (by rw[decide_eq_false (fun z=>z c)];decide)]
    rfl
   ·rw[if_pos (by simp[c])]
    walk_at "dt"
    refine⟨es++[prs],by rw[List.map_append];rfl,?_⟩
    rw[List.length_append,List.length_singleton,hds,hstep,if_pos (by rw[decide_eq_true c])]
  rintro ds hl' ⟨es,rfl,hes⟩
  rw[n5,List.take_length] at hes
  walk_at "dt"
  refine⟨FQ es,yi,_,rfl,?_⟩
  rw[show(PyData.eqv (.list (es.map dS)) (.list (List.map (fun x:Fd=>x.snd) [])) !=false)=decide (brk p cs w=0) by
   rw[List.map_nil,L2.Fw,<-hes]
   cases es<;>simp]
  by_cases c1:brk p cs w=0
  ·rw[if_pos (by simpa using c1)]
   rw[uR c1] at h1 h2 h3
   rw[List.append_nil] at h2
   dsimp only at h1 h3
   subst h1 h2 h3
   refine Sv.kP 3 rfl ?_
   refine Sv.kP 4 rfl ?_
   walk_at "dt"
   exact q _
  rw[if_neg (by simpa using c1)]
  refine Sv.next ?_
  refine Sv.seq ?_
  refine Sv.ia ?_
  walk_at "dt"
  by_cases c2:i=m
  ·subst c2
   rw[if_pos (by simp)]
   rw[Nat.sub_self,zV c1] at h1 h2 h3
   rw[List.append_nil] at h2
   dsimp only at h1 h3
   subst h1 h2 h3
   refine Sv.kP 3 rfl ?_
   refine Sv.kP 4 rfl ?_
   walk_at "dt"
   exact q _
  rw[if_neg (by simp;omega)]
  refine Sv.next ?_
  obtain⟨k,hk⟩:∃k,m-i=k+1:=⟨m-i-1,by omega⟩
  rw[hk] at h1 h2 h3
  refine Sv.seq ?_
  refine Sv.asg ?_
  refine Ev.BY ?_
  refine eK.nK 3 rfl ?_
  refine eK.dD L7 ?_
  walk_at "dt"
  refine⟨rfl,p,n,cs,w,rfl,hN,pD,hl,hr,rfl,?_⟩
  refine Gv.name ?_
  have hin:=Uc (p:=p) (cs:=cs) (by omega) hl hr
  obtain⟨ts,hts⟩:∃ts,bq p cs w n.toNat=ts:=⟨_,rfl⟩
  rw[hts] at hin⊢
  have nX:(ts.map bE).length=ts.length:=List.length_map ..
  refine Sv.seq ?_
  refine Sv.ia ?_
  walk_at "dt"
  refine⟨CA ts,yi,_,rfl,?_⟩
  rw[List.map_nil,zQ]
  by_cases c3:ts=[]
  ·have c4:=hts
   rw[c3] at c4
   rw[sj c1 c4] at h1 h2 h3
   rw[List.append_nil] at h2
   dsimp only at h1 h3
   subst h1 h2 h3
   subst c3
   rw[if_pos (by simp)]
   refine Sv.kP 3 rfl ?_
   refine Sv.kP 4 rfl ?_
   walk_at "dt"
   exact q _
  rw[if_neg (by simpa using c3)]
  rw[wG c1 (by rw[hts];exact c3),hts] at h1 h2 h3
  dsimp only at h1 h2 h3
  have hrd:=rS (cs:=cs) (by omega) hl hr
  rw[hts] at hrd
  refine Sv.next ?_
  walk_at "dt"
  refine⟨by rw[List.length_map];omega,?_⟩
  refine Sv.forL ?_
  refine Ev.var rfl ?_
  refine⟨_,rfl,fun v=>⟨fun j ρ=>∃(g4:Bool) (x7 x8 x9:Sl),ρ=[.d false (bK p n cs), .d false (bD ws), .d false (.int m), .own A3 true ((dB w (ts.take j)).map .int), .own A4 g4 ((st++[ts]).map fO), .d true (.int (0+(i:Int))), .d true (.list (ts.map bE)),x7,x8,x9],⟨_,_,_,_,by rw[List.map_append];rfl⟩,?_,?_⟩⟩
  ·rintro j d ρ hd ⟨g4,x7,x8,x9,rfl⟩
   obtain⟨t,ht,rfl⟩:=dU hd
   obtain⟨t0,t1⟩:=hin t (List.mem_of_getElem? ht)
   have hpl:=pR w (ts.take j)
   have hix:=OF (w:=dB w (ts.take j)) (t:=t) t0 (by rw[hpl];omega)
   walk_at "dt"
   refine⟨_,_,rfl,hix,?_⟩
   rw[<-List.map_set,<-zg,<-take_snoc ht]
   exact⟨_,_,_,_,rfl⟩
  ·rintro ρ ⟨g4,x7,x8,x9,rfl⟩
   rw[nX,List.take_length]
   refine⟨dB w ts,st++[ts],g4,_,_,_,_,_,by omega,hrd.1,hrd.2,?_,?_,?_,by rw[List.length_append,List.length_singleton];omega,rfl⟩
   ·rw[show m-(i+1)=k by omega];exact h1
   ·rw[show m-(i+1)=k by omega,List.append_assoc];exact h2
   ·rw[show m-(i+1)=k by omega];exact h3
 ·rintro ρ ⟨w,st,g4,x5,x6,x7,x8,x9,him,_⟩
  omega
theorem OE{n:Nat}{ws:List Int}(h:ws.length<=10000):nq (n+2) (bD ws):=by
 refine .inr ⟨_, .inl rfl,by rw[List.length_map];exact h,fun e he=>?_⟩
 obtain⟨x,_,rfl⟩:=List.mem_map.mp he
 exact .inl rfl
theorem K4{n:Nat}{ts:List cG}(h:ts.length<=10000):nq (n+3) (.list (ts.map bE)):=by
 refine .inr ⟨_, .inl rfl,by rw[List.length_map];exact h,fun e he=>?_⟩
 obtain⟨x,_,rfl⟩:=List.mem_map.mp he
 refine .inr ⟨_, .inr rfl,by show 3<=10000;omega,fun e he=>?_⟩
 simp only[List.mem_cons,List.not_mem_nil,or_false] at he
 rcases he with rfl|rfl|rfl<;>exact .inl rfl
theorem E6{r:List Int×List (List cG)×Str}(h1:r.1.length<=10000)(h2:r.2.1.length<=10000)(h3:∀ts∈r.2.1,ts.length<=10000):nq 5 (nv r):=by
 refine .inr ⟨_, .inr rfl,by show 3<=10000;omega,fun e he=>?_⟩
 simp only[List.mem_cons,List.not_mem_nil,or_false] at he
 rcases he with rfl|rfl|rfl
 ·exact OE h1
 ·refine .inr ⟨_, .inl rfl,by rw[List.length_map];exact h2,fun e he=>?_⟩
  obtain⟨ts,hts,rfl⟩:=List.mem_map.mp he
  exact K4 (h3 ts hts)
 ·refine .inr ⟨_, .inr rfl,by show 1<=10000;omega,fun e he=>?_⟩
  rw[List.mem_singleton.mp he]
  exact .inl rfl
theorem yQ{p:Int}{cs:List aA}{n:Nat}(hp:0<p):∀(k:Nat) (ws:List Int),ws.length=n->(∀x∈ws,0<=x/\x<p)->(bQ p cs n k ws).1.length=n/\(bQ p cs n k ws).2.1.length<=k/\∀ts∈(bQ p cs n k ws).2.1,ts.length<=n
  |0,ws,h,_=>by rw[bQ];exact⟨h,Nat.le_refl _,fun _ h=>nomatch h⟩
  | k + 1, ws, h, hw => by
    by_cases c1:brk p cs ws=0
    · rw[uR c1];exact⟨h,Nat.zero_le _,fun _ h=>nomatch h⟩
    by_cases c2:bq p cs ws n=[]
    · rw[sj c1 c2];exact⟨h,Nat.zero_le _,fun _ h=>nomatch h⟩
    · rw[wG c1 c2]
      have hr:=rS (cs:=cs) hp h hw
      obtain⟨i1,i2,i3⟩:=yQ hp k _ hr.1 hr.2
      refine⟨i1,by show _+1<=_;omega,fun ts hts=>?_⟩
      rcases List.mem_cons.mp hts with z|z
      · rw[z];exact pI n
      · exact i3 ts z
theorem d8.SS{A:Addr}{st:List (List cG)}{bs:List Addr}{L:bN}(h:d8 A st bs L):gp L (.own A) (.list (st.map fO)):=by
 refine .lst h.root (by rw[List.length_map,List.length_map,h.len]) fun i x d e1 e2=>?_
 rw[List.getElem?_map] at e1 e2
 obtain⟨b,hb,rfl⟩:=Option.map_eq_some_iff.mp e1
 obtain⟨ts,ht,rfl⟩:=Option.map_eq_some_iff.mp e2
 exact .lG (h.row i b ts hb ht)
theorem rQ{L:bN}{c a0 a1:Addr}{w:List PyData}{st:List (List cG)}{bs:List Addr}{e:PyData}(h:L.lookup c=some (.tup [.own a0, .own a1, .dat e]))(h0:L.lookup a0=some (.lst (w.map .dat)))(h1:d8 a1 st bs L):gp L (.own c) (.tuple [.list w, .list (st.map fO),e]):=by
 refine .tup h rfl fun i x d e1 e2=>?_
 match i with
 |0=>simp at e1 e2;subst e1 e2;exact .lG h0
 |1=>simp at e1 e2;subst e1 e2;exact h1.SS
 |2=>simp at e1 e2;subst e1 e2;exact .dat _
 |i+3=>simp at e1
theorem d8.Ms{A:Addr}{st:List (List cG)}{bs:List Addr}{L:bN}{j:Nat}{b:Addr}{ts ts':List cG}(h:d8 A st bs L)(hb:bs[j]?=some b)(ht:st[j]?=some ts):d8 A (st.set j ts') bs (bX L b (.lst ((ts'.map bE).map .dat))):=by
 have hm:=List.mem_of_getElem? hb
 refine⟨by rw[gY (fun z=>h.na (by rw[z];exact hm))];exact h.root,by rw[List.length_set];exact h.len,h.nd,h.na,fun k b' u e1 e2=>?_⟩
 by_cases c:j=k
 ·subst c
  rw[hb] at e1;cases e1
  rw[List.getElem?_set_self (List.getElem?_eq_some_iff.mp ht).1] at e2
  cases e2
  exact lR (fJ (h.row j b ts hb ht))
 ·rw[List.getElem?_set_ne c] at e2
  rw[gY]
  ·exact h.row k b' u e1 e2
  ·intro z
   obtain⟨l1,g1⟩:=List.getElem?_eq_some_iff.mp e1
   obtain⟨l2,g2⟩:=List.getElem?_eq_some_iff.mp hb
   exact c ((List.getElem_inj h.nd).mp (g2.trans (z.symm.trans g1.symm)))
theorem d8.A9{A:Addr}{st:List (List cG)}{bs:List Addr}{L:bN}{a:Addr}{o:OO}(h:d8 A st bs L)(h1:a≠A)(h2:a∉bs):d8 A st bs (bX L a o):=
 ⟨by rw[gY (fun z=>h1 z.symm)];exact h.root,h.len,h.nd,h.na,fun j b ts e1 e2=>by rw[gY (fun z=>h2 (by rw[<-z];exact List.mem_of_getElem? e1))];exact h.row j b ts e1 e2⟩
def gX(st:List (List cG))(i:Nat):List (List cG):=(List.range st.length).map fun j=>if j<i then st.getD j []++[((j:Int),(j:Int),(j:Int))] else st.getD j []
theorem Ky(st:List (List cG)):gX st 0=st:=by
 apply List.ext_getElem?
 intro j
 unfold gX
 rw[List.getElem?_map]
 by_cases c:j<st.length
 ·rw[List.getElem?_range c,List.getElem?_eq_getElem c]
  show some (if j<0 then _ else _)=_
  rw[if_neg (by omega),List.getD_eq_getElem?_getD,List.getElem?_eq_getElem c];rfl
 ·rw[List.getElem?_eq_none (by rw[List.length_range];omega),List.getElem?_eq_none (by omega)];rfl
theorem oJ{st:List (List cG)}{i j:Nat}(h:j<st.length):(gX st i)[j]?=some (if j<i then st.getD j []++[((j:Int),(j:Int),(j:Int))] else st.getD j []):=by
 unfold gX
 rw[List.getElem?_map,List.getElem?_range h];rfl
theorem rJ(st:List (List cG))(i:Nat):(gX st i).length=st.length:=by unfold gX;rw[List.length_map,List.length_range]
theorem Rq{st:List (List cG)}{i:Nat}(h:i<st.length):(gX st i).set i (st.getD i []++[((i:Int),(i:Int),(i:Int))])=gX st (i+1):=by
 apply List.ext_getElem?
 intro j
 by_cases c:i=j
 ·subst c
  rw[List.getElem?_set_self (by rw[rJ];exact h),oJ h,if_pos (by omega)]
 ·rw[List.getElem?_set_ne c]
  by_cases cj:j<st.length
  ·rw[oJ cj,oJ cj]
   by_cases c2:j<i
   ·rw[if_pos c2,if_pos (by omega)]
   ·rw[if_neg c2,if_neg (by omega)]
  ·rw[List.getElem?_eq_none (by rw[rJ];omega),List.getElem?_eq_none (by rw[rJ];omega)]
theorem yk(rs:List (List cG)):SeqAt.shaped (.list (rs.map fO))=true:=by
 have h0:∀ts:List cG,PyData.depthAll (ts.map bE)<=1/\PyData.canLayAll0 (ts.map bE)=true:=fun ts=>by
  induction ts with
  |nil=>simp[PyData.depthAll,PyData.canLayAll0]
  |cons a r ih=>simp[bE,PyData.depthAll,PyData.depth,PyData.canLayAll0,PyData.canLay0,ih.2];have:=ih.1;omega
 have h:PyData.depthAll (rs.map fO)<=2/\PyData.canLayAll0 (rs.map fO)=true:=by
  induction rs with
  |nil=>simp[PyData.depthAll,PyData.canLayAll0]
  |cons a r ih=>simp[fO,PyData.depthAll,PyData.depth,PyData.canLayAll0,PyData.canLay0,ih.2,(h0 a).2];have:=ih.1;have:=(h0 a).1;omega
 unfold SeqAt.shaped
 simp only[PyData.canLay0,PyData.depth,h.2,Bool.true_and]
 have:=h.1
 simp
 omega
theorem dN:bU ["script","bag","small","most","far","great","some","places","many","wide","net","word","handed","due","found","k"] ["script"] (az iE):=⟨rfl,rfl,rfl,by decide+kernel,rfl,by decide+kernel,by decide+kernel⟩
theorem G4(F:bJ K "law" "law" iE f fd)(PB:Callee P w K mg base "_law_bag" 1 ["script"] (Bx K))(cK:Callee P w K mg base "_law_draw" 2 ["bag","many"] iQ)(GV:Callee P w K mg base "_law_net_and_word" 5 ["bag","places","many","wide"] (fq 4 pM))(G0:Callee P w K mg base "_law_due" 4 ["net","word","most"] (bA 3 p6))(zd:Callee P w K mg base "voted" 4 ["net","word","most"] (spS 3 oN))(rF:Callee P w K mg base "_law_alike" 5 ["found","due"] (bA 2 (kI 5)))(Rj:Callee P w K mg base "_law_copy" 1 ["net"] (bA 1 rA))(aY:mg "range"=none)(cg:mg "list"=none)(bT:mg "len"=none):
  bz P w K mg base bH 6 f fd ["script"] (qT K):=by
 refine F.ok dN (fun vs H Q E h=>?_) (fun cdv A outer s H vs Q E hr h=>?_)
 ·obtain⟨a,ns,rfl,hS,hl,q⟩:=h
  rfl
 obtain⟨a,ns,rfl,hS,hl,q⟩:=h
 refine⟨_,(@ao _ _ _ _ _ (@aF _ _ (1) _ _ _ _ dN.nd rfl (Or.inl rfl) (@aN _ _ _ _ _ _ _ _ _ _ PB (hr.mono (by decide)) (@aa _ _ _ _ _ (pv 0) ai rfl) (by rfl) (by decide) (by rfl) (by rfl)) (by rfl) (by first|exact .inl rfl|exact .inr rfl|assumption)) (@ao _ _ _ _ _ (@aF _ _ (2) _ _ _ _ dN.nd rfl (Or.inl rfl) (@oE _ _ _ _ _ _ _ _ fX (@aN _ _ _ _ _ _ _ _ _ _ cK (hr.mono (by decide)) (@aa _ _ _ _ _ (pv 1) (@aa _ _ _ _ _ aj ai rfl) rfl) (by rfl) (by decide) (by rfl) (by rfl)) aj (aP _)) (by rfl) (by first|exact .inl rfl|exact .inr rfl|assumption)) (@ao _ _ _ _ _ (@aF _ _ (3) _ _ _ _ dN.nd rfl (Or.inl rfl) (@aN _ _ _ _ _ _ _ _ _ _ cK (hr.mono (by decide)) (@aa _ _ _ _ _ (pv 1) (@aa _ _ _ _ _ aj ai rfl) rfl) (by rfl) (by decide) (by rfl) (by rfl)) (by rfl) (by first|exact .inl rfl|exact .inr rfl|assumption)) (@ao _ _ _ _ _ (@aF _ _ (4) _ _ _ _ dN.nd rfl (Or.inl rfl) (@aN _ _ _ _ _ _ _ _ _ _ cK (hr.mono (by decide)) (@aa _ _ _ _ _ (pv 1) (@aa _ _ _ _ _ aj ai rfl) rfl) (by rfl) (by decide) (by rfl) (by rfl)) (by rfl) (by first|exact .inl rfl|exact .inr rfl|assumption)) (@ao _ _ _ _ _ (@aF _ _ (5) _ _ _ _ dN.nd rfl (Or.inl rfl) (@aN _ _ _ _ _ _ _ _ _ _ cK (hr.mono (by decide)) (@aa _ _ _ _ _ (pv 1) (@aa _ _ _ _ _ aj ai rfl) rfl) (by rfl) (by decide) (by rfl) (by rfl)) (by rfl) (by first|exact .inl rfl|exact .inr rfl|assumption)) (@ao _ _ _ _ _ (@aF _ _ (6) _ _ _ _ dN.nd rfl (Or.inl rfl) (@cW _ _ _ _ (@aa _ _ _ _ _ (@aX _ _ _ _ _ (@gE _ _ _ rfl)) (@aa _ _ _ _ _ (@aX _ _ _ _ _ (@gE _ _ _ rfl)) (@aa _ _ _ _ _ (@aX _ _ _ _ _ (@gE _ _ _ rfl)) (@aa _ _ _ _ _ (@aX _ _ _ _ _ (@gE _ _ _ rfl)) (@aa _ _ _ _ _ (@aX _ _ _ _ _ (@gE _ _ _ rfl)) (@aa _ _ _ _ _ (@aX _ _ _ _ _ (@gE _ _ _ rfl)) (@aa _ _ _ _ _ (@aX _ _ _ _ _ (@gE _ _ _ rfl)) (@aa _ _ _ _ _ (@aX _ _ _ _ _ (@gE _ _ _ rfl)) ai rfl) rfl) rfl) rfl) rfl) rfl) rfl) rfl)) (by rfl) (by first|exact .inl rfl|exact .inr rfl|assumption)) (@ao _ _ _ _ _ (@fV _ _ _ _ _ _ (@aI _ _ _ _ _ _ (dh K) bM (pv 6) (pv 5) (fun _ _=>rfl)) (@eU _ (K) _ _ _ (3) _ rfl rfl (@aW _ _ _ _ _ (aG (i:=7) dN.nd rfl (Or.inl rfl)) (@aW _ _ _ _ _ (aG (i:=8) dN.nd rfl (Or.inl rfl)) (@aW _ _ _ _ _ (aG (i:=9) dN.nd rfl (Or.inl rfl)) eB (by rfl)) (by rfl)) (by rfl)) (by rfl) (by rfl)) (by rfl) (by rfl) (by rfl)) (@ao _ _ _ _ _ (@cH _ _ _ _ _ _ _ _ (aU (QV (K:=K) (by rfl)) (pv 5) (@cW _ _ _ _ (@gE _ _ _ rfl)) (by with_unfolding_all rfl)) (@aB _ _ _ (@aF _ _ (3) _ _ _ _ dN.nd rfl (Or.inl rfl) (@aD _ _ _ _ _ _ _ _ jh (pv 4) aj) (by rfl) (by first|exact .inl rfl|exact .inr rfl|assumption))) cI) (@ao _ _ _ _ _ (@cH _ _ _ _ _ _ _ _ (@oF _ (K) _ _ rfl (pv 2) (fun _=>rfl)) (@ao _ _ _ _ _ (@fV _ _ _ _ _ _ (@aI _ _ _ _ _ _ (dh K) bM (@cW _ _ _ _ (@aa _ _ _ _ _ (@aX _ _ _ _ _ (@gE _ _ _ rfl)) (@aa _ _ _ _ _ (@aX _ _ _ _ _ (@gE _ _ _ rfl)) ai rfl) rfl)) (@aD _ _ _ _ _ _ _ _ jh (pv 5) aj) (fun _ _=>rfl)) (@eU _ (K) _ _ _ (3) _ rfl rfl (@aW _ _ _ _ _ (aG (i:=7) dN.nd rfl (Or.inl rfl)) (@aW _ _ _ _ _ (aG (i:=8) dN.nd rfl (Or.inl rfl)) (@aW _ _ _ _ _ (aG (i:=9) dN.nd rfl (Or.inl rfl)) eB (by rfl)) (by rfl)) (by rfl)) (by rfl) (by rfl)) (by rfl) (by rfl) (by rfl)) (@aB _ _ _ (@aF _ _ (3) _ _ _ _ dN.nd rfl (Or.inl rfl) (@aD _ _ _ _ _ _ _ _ jh (pv 4) (@aI _ _ _ _ _ _ (dh K) bM (@cW _ _ _ _ (@aa _ _ _ _ _ aj (@aa _ _ _ _ _ aj ai rfl) rfl)) (@aD _ _ _ _ _ _ _ _ jh (pv 5) aj) (fun _ _=>rfl))) (by rfl) (by first|exact .inl rfl|exact .inr rfl|assumption)))) cI) (@ao _ _ _ _ _ (@fV _ _ _ _ _ _ (@aN _ _ _ _ _ _ _ _ _ _ GV (hr.mono (by decide)) (@aa _ _ _ _ _ (pv 1) (@aa _ _ _ _ _ (pv 7) (@aa _ _ _ _ _ (pv 8) (@aa _ _ _ _ _ (pv 9) ai rfl) rfl) rfl) rfl) (by rfl) (by decide) (by rfl) (by rfl)) (@eU _ (K) _ _ _ (2) _ rfl rfl (@aW _ _ _ _ _ (aG (i:=10) dN.nd rfl (Or.inl rfl)) (@aW _ _ _ _ _ (aG (i:=11) dN.nd rfl (Or.inl rfl)) eB (by rfl)) (by rfl)) (by rfl) (by rfl)) (by rfl) (by rfl) (by rfl)) (@ao _ _ _ _ _ (@aF _ _ (12) _ _ _ _ dN.nd rfl (Or.inl rfl) (@aX _ _ _ _ _ (@aa _ _ _ _ _ (@aN _ _ _ _ _ _ _ _ _ _ Rj (hr.mono (by decide)) (@aa _ _ _ _ _ (pv 10) ai rfl) (by rfl) (by decide) (by rfl) (by rfl)) (@aa _ _ _ _ _ (@gU _ _ _ _ _ _ _ _ (jK K) ou rfl cg PyProof.Rows.boot_list (@aa _ _ _ _ _ (pv 11) ai rfl) (by decide) (by decide) (by rfl) (by rfl)) ai rfl) rfl)) (by rfl) (by first|exact .inl rfl|exact .inr rfl|assumption)) (@ao _ _ _ _ _ (@aF _ _ (13) _ _ _ _ dN.nd rfl (Or.inr rfl) (@aN _ _ _ _ _ _ _ _ _ _ G0 (hr.mono (by decide)) (@aa _ _ _ _ _ (pv 10) (@aa _ _ _ _ _ (pv 11) (@aa _ _ _ _ _ (pv 3) ai rfl) rfl) rfl) (by rfl) (by decide) (by rfl) (by rfl)) (by rfl) (by first|exact .inl rfl|exact .inr rfl|assumption)) (@ao _ _ _ _ _ (@aF _ _ (14) _ _ _ _ dN.nd rfl (Or.inl rfl) (@aN _ _ _ _ _ _ _ _ _ _ zd (hr.mono (by decide)) (@aa _ _ _ _ _ (@aI _ _ _ _ _ _ (bY K) cF (pv 12) aj (fun _ _=>rfl)) (@aa _ _ _ _ _ (@aI _ _ _ _ _ _ (bY K) cF (pv 12) aj (fun _ _=>rfl)) (@aa _ _ _ _ _ (pv 3) ai rfl) rfl) rfl) (by rfl) (by decide) (by rfl) (by rfl)) (by rfl) (by first|exact .inl rfl|exact .inr rfl|assumption)) (@ao _ _ _ _ _ (@cH _ _ _ _ _ _ _ _ (PW.pt (pQ (@CS _ _ _ _ (@oF _ (K) _ _ rfl (@aN _ _ _ _ _ _ _ _ _ _ rF (hr.mono (by decide)) (@aa _ _ _ _ _ (pv 14) (@aa _ _ _ _ _ (pv 13) ai rfl) rfl) (by rfl) (by decide) (by rfl) (by rfl)) (fun _=>rfl))) (qK (@aU _ _ _ _ _ _ _ _ (vE hr.units) (pv 12) (@aX _ _ _ _ _ (@aa _ _ _ _ _ (pv 10) (@aa _ _ _ _ _ (pv 11) ai rfl) rfl)) (aP _))))) (@aB _ _ _ (@aT _ _ _ _ nE)) cI) (@ao _ _ _ _ _ (@iX _ _ _ _ (iu PySem.F.plainAttrs_list PySem.F.slot_list_append PySem.F.type_list_append iI (@aI _ _ _ _ _ _ (bY K) cF (pv 14) aj (fun _ _=>rfl)) (@aa _ _ _ _ _ aj ai rfl)) (by rfl)) (@ao _ _ _ _ _ (@dY _ _ _ _ _ _ _ _ PassesOwn.never rfl (@gG _ _ _ _ _ _ rfl aY (@aa _ _ _ _ _ (@bW _ _ _ _ _ _ _ _ (fN K) ie rfl bT PySem.boot_len (@aa _ _ _ _ _ (@aI _ _ _ _ _ _ (bY K) cF (pv 14) aj (fun _ _=>rfl)) ai rfl) (by decide) (by decide) (by rfl) (by rfl)) ai rfl) (by rfl)) (aG (i:=15) dN.nd rfl (Or.inl rfl)) (@aB _ _ _ (@iX _ _ _ _ (iu PySem.F.plainAttrs_list PySem.F.slot_list_append PySem.F.type_list_append iI (@aI _ _ _ _ _ _ (dh K) bM (@aI _ _ _ _ _ _ (bY K) cF (pv 14) aj (fun _ _=>rfl)) (pv 15) (fun _ _=>rfl)) (@aa _ _ _ _ _ (@aX _ _ _ _ _ (@aa _ _ _ _ _ (pv 15) (@aa _ _ _ _ _ (pv 15) (@aa _ _ _ _ _ (pv 15) ai rfl) rfl) rfl)) ai rfl)) (by rfl))) (by intro _;rfl)) (@ao _ _ _ _ _ (@cH _ _ _ _ _ _ _ _ (@aU _ _ _ _ _ _ _ _ (vE hr.units) (@aI _ _ _ _ _ _ (bY K) cF (pv 14) aj (fun _ _=>rfl)) (d9 (cN.of (show dj (az iE) ["script","bag","small","most","far","great","some","places","many","wide","net","word","handed","due","found","k"] _ ["k","due"] [none,some 13]=true by decide+kernel)) (@gG _ _ _ _ _ _ rfl aY (@aa _ _ _ _ _ (@bW _ _ _ _ _ _ _ _ (fN K) ie rfl bT PySem.boot_len (@aa _ _ _ _ _ (@aI _ _ _ _ _ _ (bY K) cF (pv 13) aj (fun _ _=>rfl)) ai rfl) (by decide) (by decide) (by rfl) (by rfl)) ai rfl) (by rfl)) (fun _ _ _ _=>⟨(aG (i:=0) (by show List.Nodup (["k","due"]:List Str);decide+kernel) rfl (Or.inl rfl)),gm,(@aD _ _ _ _ _ _ _ _ kB (@aI _ _ _ _ _ _ (dh K) bM (@aI _ _ _ _ _ _ (bY K) cF (pv 1) aj (fun _ _=>rfl)) (pv 0) (fun _ _=>rfl)) (@cW _ _ _ _ (@aa _ _ _ _ _ (@aX _ _ _ _ _ (@aa _ _ _ _ _ (pv 0) (@aa _ _ _ _ _ (pv 0) (@aa _ _ _ _ _ (pv 0) ai rfl) rfl) rfl)) ai rfl)))⟩)) (aP _)) (@aB _ _ _ (@aT _ _ _ _ nE)) cI) (@ao _ _ _ _ _ (@iX _ _ _ _ (iu PySem.F.plainAttrs_list PySem.F.slot_list_append PySem.F.type_list_append iI (@aI _ _ _ _ _ _ (bY K) cF (pv 14) aj (fun _ _=>rfl)) (@aa _ _ _ _ _ (@cW _ _ _ _ ai) ai rfl)) (by rfl)) (@ao _ _ _ _ _ (@cH _ _ _ _ _ _ _ _ (PW.pt (pQ (@aU _ _ _ _ _ _ _ _ (vE hr.units) (pv 12) (@aX _ _ _ _ _ (@aa _ _ _ _ _ (pv 10) (@aa _ _ _ _ _ (pv 11) ai rfl) rfl)) (aP _)) (qK (@aU _ _ _ _ _ _ _ _ nh (pv 3) aj (aP _))))) (@aB _ _ _ (@aT _ _ _ _ (@oE _ _ _ _ _ _ _ _ (oO hr.units) (pv 12) (@aX _ _ _ _ _ (@aa _ _ _ _ _ (pv 10) (@aa _ _ _ _ _ (pv 11) ai rfl) rfl)) (aP _)))) cI) (@aB _ _ _ (@aT _ _ _ _ (@aN _ _ _ _ _ _ _ _ _ _ rF (hr.mono (by decide)) (@aa _ _ _ _ _ (@aN _ _ _ _ _ _ _ _ _ _ zd (hr.mono (by decide)) (@aa _ _ _ _ _ (@aI _ _ _ _ _ _ (bY K) cF (pv 12) aj (fun _ _=>rfl)) (@aa _ _ _ _ _ (@aI _ _ _ _ _ _ (bY K) cF (pv 12) aj (fun _ _=>rfl)) (@aa _ _ _ _ _ (pv 3) ai rfl) rfl) rfl) (by rfl) (by decide) (by rfl) (by rfl)) (@aa _ _ _ _ _ (pv 13) ai rfl) rfl) (by rfl) (by decide) (by rfl) (by rfl))))))))))))))))))))))),?_⟩
 walk_at "st"
 refine⟨a,ns,rfl,hS,hl,fun b l H1 s1 f1 B1=>?_⟩
 have vL:=s1.seq hS
 have key:∀(t:TS) (D:Ends),(∀H,D.rt (.bl true) H)->Sv (tR b l H1) [.raw (.ref a), .au, .no, .no, .no, .no, .no, .no, .no, .no, .no, .no, .no, .no, .no, .no] t {nx:=fun _=>False,rt:=fun _ d=>d= .bool true}->t D [some (.ref a),some (.ref b),none,none,none,none,none,none,none,none,none,none,none,none,none,none] H1:=fun t D d2 h=>h _ _ _ D (RE (m:=14) B1) (Rg d2)
 refine R.zj ?_
 dsimp only
 refine key _ _ (fun H=>?_) ?_
 ·exact q _
 walk_at "dt"
 intro sm sm0 sm1
 walk_at "dt"
 intro mo mo0 mo1
 walk_at "dt"
 intro gJ fa0 fa1
 walk_at "dt"
 intro gr gr0 gr1
 refine Gv.jg ?_
 refine Sv.seq ?_
 refine Sv.oK (fun ρ'=>∃x6:Sl,x6= .d false (.list [.tuple [.int 7, .int 10, .int 4], .tuple [.int 7, .int 10, .int 6], .tuple [.int 12, .int 8, .int 9], .tuple [.int 30, .int 20, .int 4], .tuple [.int 7, .int 10, .int 4], .tuple [.int 12, .int 8, .int 9], .tuple [.int 9, .int 12, .int 4], .tuple [.int 7, .int 10, .int 6]])/\ρ'=[.raw (.ref a), .au, .d true (.bool (decide (sm=5))), .d true (.int mo), .d true (.int gJ), .d true (.int gr),x6, .no, .no, .no, .no, .no, .no, .no, .no, .no]) ?_ ?_
 ·walk_at "dt"
  exact⟨_,rfl,rfl⟩
 rintro ρ' ⟨x6,hx6,rfl⟩
 refine Sv.seq ?_
 refine Sv.oK (fun ρ'=>∃(A B C:Int),1<=A/\A<=30/\0<=B/\B<=60/\1<=C/\C<=60/\ρ'=[.raw (.ref a), .au, .d true (.bool (decide (sm=5))), .d true (.int mo), .d true (.int gJ), .d true (.int gr),x6, .d true (.int A), .d true (.int B), .d true (.int C), .no, .no, .no, .no, .no, .no]) ?_ ?_
 ·have sF:∃A B C:Int,bh ([.tuple [.int 7, .int 10, .int 4], .tuple [.int 7, .int 10, .int 6], .tuple [.int 12, .int 8, .int 9], .tuple [.int 30, .int 20, .int 4], .tuple [.int 7, .int 10, .int 4], .tuple [.int 12, .int 8, .int 9], .tuple [.int 9, .int 12, .int 4], .tuple [.int 7, .int 10, .int 6]]:List PyData) gr=some (.tuple [.int A, .int B, .int C])/\1<=A/\A<=30/\0<=B/\B<=60/\1<=C/\C<=60:=by
   rcases(show gr=0\/gr=1\/gr=2\/gr=3\/gr=4\/gr=5\/gr=6\/gr=7 by omega) with rfl|rfl|rfl|rfl|rfl|rfl|rfl|rfl<;>exact⟨_,_,_,rfl,by decide⟩
  obtain⟨A,B,C,eT,hb⟩:=sF
  subst hx6
  walk_at "dt"
  exact⟨A,B,C,hb.1,hb.2.1,hb.2.2.1,hb.2.2.2.1,hb.2.2.2.2.1,hb.2.2.2.2.2,rfl⟩
 rintro ρ' ⟨A,B,C,A0,A1,B0,B1',C0,C1,rfl⟩
 refine Sv.seq ?_
 refine Sv.oK (fun ρ'=>∃mo:Int,0<=mo/\mo<=400/\ρ'=[.raw (.ref a), .au, .d true (.bool (decide (sm=5))), .d true (.int mo), .d true (.int gJ), .d true (.int gr),x6, .d true (.int A), .d true (.int B), .d true (.int C), .no, .no, .no, .no, .no, .no]) ?_ ?_
 ·refine Sv.ia ?_
  refine Tv.test ?_
  refine Ev.zU ?_
  walk_at "dt"
  refine⟨[1,5,6],rfl,?_⟩
  rw[Bool.bne_false]
  by_cases c:gr∈[1,5,6]
  ·rw[decide_eq_true c]
   walk_at "dt"
   exact⟨gJ/10,by omega,by omega,rfl⟩
  ·rw[decide_eq_false c]
   walk_at "dt"
   exact⟨mo,by omega,by omega,rfl⟩
 rintro ρ' ⟨mo,mo0,mo1,rfl⟩
 refine Sv.seq ?_
 refine Sv.oK (fun ρ'=>∃(mo A B C:Int),0<=mo/\mo<=400/\1<=A/\A<=30/\0<=B/\B<=60/\1<=C/\C<=60/\ρ'=[.raw (.ref a), .au, .d true (.bool (decide (sm=5))), .d true (.int mo), .d true (.int gJ), .d true (.int gr),x6, .d true (.int A), .d true (.int B), .d true (.int C), .no, .no, .no, .no, .no, .no]) ?_ ?_
 ·walk_at "dt"
  by_cases c:sm=5
  ·rw[if_pos (decide_eq_true c)]
   obtain⟨k,ek,k0,k1⟩:∃k:Int,gr/6=k/\0<=k/\k<2:=⟨_,rfl,by omega,by omega⟩
   have sF:∃A B C:Int,bh ([.tuple [.int 3, .int 2, .int 2], .tuple [.int 6, .int 6, .int 3]]:List PyData) (gr/6)=some (.tuple [.int A, .int B, .int C])/\1<=A/\A<=30/\0<=B/\B<=60/\1<=C/\C<=60:=by
    rw[ek]
    rcases(show k=0\/k=1 by omega) with rfl|rfl<;>exact⟨_,_,_,rfl,by decide⟩
   have HU:∃D:Int,bh ([.int 1, .int 7]:List PyData) (gr/6)=some (.int D)/\1<=D/\D<=7:=by
    rw[ek]
    rcases(show k=0\/k=1 by omega) with rfl|rfl<;>exact⟨_,rfl,by decide⟩
   obtain⟨A',B',C',eT,hb⟩:=sF
   obtain⟨D,eD,D0,D1⟩:=HU
   walk_at "dt"
   have z1:0<=gJ/D:=Int.ediv_nonneg fa0 (by omega)
   have z2:gJ/D<=gJ:=Int.ediv_le_self _ fa0
   exact⟨gJ/D,A',B',C',by omega,by omega,hb.1,hb.2.1,hb.2.2.1,hb.2.2.2.1,hb.2.2.2.2.1,hb.2.2.2.2.2,rfl⟩
  ·rw[if_neg (by simpa using c)]
   walk_at "dt"
   exact⟨mo,A,B,C,mo0,mo1,A0,A1,B0,B1',C0,C1,rfl⟩
 clear mo0 mo1 A0 A1 B0 B1' C0 C1
 rintro ρ' ⟨mo,A,B,C,mo0,mo1,A0,A1,B0,B1',C0,C1,rfl⟩
 obtain⟨m,rfl⟩:∃m:Nat,mo=m:=⟨mo.toNat,by omega⟩
 walk_at "dt"
 refine Ev.jY OH rfl ?_
 walk_at "dt"
 refine⟨rfl,A,B,C,rfl,A0,by omega,B0,by omega,C0,C1,fun p n cs ws f hN hn hc hwl hws=>?_⟩
 have n1:=hN.n1
 have n0:=hN.n0
 have p2:=hN.hp.1
 walk_at "dt"
 refine Ev.dD JZ ?_
 walk_at "dt"
 refine⟨rfl,p,n,cs,rfl,by omega,fun fc=>?_⟩
 generalize fM:(nV (fh (fu (spS 3 oN) _ _ _) _) _:TS)=tl
 walk_at "dt"
 refine Ev.dD IV ?_
 walk_at "dt"
 refine⟨rfl,p,n,cs,ws,m,rfl,hN,by omega,by omega,by omega,hws,fun fd=>?_⟩
 walk_at "dt"
 subst fM
 refine Sv.seq ?_
 refine Sv.GO Cf ?_
 walk_at "dt"
 refine⟨rfl,p,n,cs,ws,m,rfl,hN,by omega,by omega,hws,fun c a0 a1 bs L hR hnd=>?_⟩
 obtain⟨r,hr⟩:∃r,bQ p cs n.toNat m ws=r:=⟨_,rfl⟩
 have sE:=yQ (cs:=cs) (show 0<p by omega) m ws hwl hws
 rw[hr] at hR sE
 rw[hr]
 obtain⟨hl1,hl2,hl3⟩:=sE
 obtain⟨kD,rs,re⟩:=r
 dsimp only at hl1 hl2 hl3
 refine Sv.seq ?_
 refine Sv.ia ?_
 refine Tv.z9 14 rfl (rQ hR.top hR.word hR.nO) ?_
 walk_at "dt"
 refine Ev.dD (o9 5) ?_
 walk_at "dt"
 have D7:nq 5 (nv (kD,rs,re)):=E6 (by show kD.length<=_;omega) (by show rs.length<=_;omega) fun ts hts=>by have:=hl3 ts hts;omega
 refine⟨rfl,nv (kD,rs,re),rfl,D7,?_⟩
 have kM:bD ws=ji (ws.map some):=by show PyData.list _=PyData.list _;rw[List.map_map];rfl
 have hsh:SeqAt.shaped (.tuple [bK p n cs,bD ws])=true:=by rw[kM];exact M4 p n cs (ws.map some)
 have hee:PyData.eqv (.tuple [bK p n cs,bD ws]) (.tuple [bK p n cs,bD ws])=true:=eqv_refl _ (.inl hsh)
 walk_at "dt"
 skip
 simp only[List.map_cons,List.map_nil]
 rw[show PyData.eqv (.tuple [bK p n cs, .list (ws.map .int)]) (.tuple [bK p n cs,bD ws])=true from hee,if_neg (by decide)]
 refine Sv.next ?_
 refine Sv.seq ?_
 refine Sv.Ax (i:=14) rfl (dz.lN (i:=14) rfl (dz.root rfl ?_))
 walk_at "dt"
 refine⟨0,_,a0,rfl,hR.top,rfl,_,hR.word,by rw[List.length_map,List.length_map];show kD.length<_;omega,?_⟩
 walk_at "dt"
 have hm0:a0∈L.map (·.1):=fJ hR.word
 refine Sv.oS ?_
 refine Ev.AN (i:=14) rfl (dz.lN (i:=14) rfl (dz.root rfl ?_))
 walk_at "dt"
 refine⟨1,_,a1,rfl,by rw[gY hR.CO];exact hR.top,rfl,_, .inl (hR.nO.A9 hR.Ei hR.ab).root,?_⟩
 have jL:=hR.nO.len
 have jL:bs.length=rs.length:=jL
 rw[List.length_map,jL]
 walk_at "dt"
 skip
 refine⟨fun i ρ=>∃(L':bN) (rW:Sl),L'.lookup c=some (.tup [.own a0, .own a1, .dat (.tuple [.str re])])/\L'.lookup a0=some (.lst ((kD.map PyData.int++[PyData.int 0]).map .dat))/\d8 a1 (gX rs i) bs L'/\ρ=[.raw (.ref a), .au, .d true (.bool (decide (sm=5))), .d true (.int m), .d true (.int gJ), .d true (.int gr),x6, .d true (.int A), .d true (.int B), .d true (.int C), .d false (bK p n cs), .d false (bD ws), .d false (.tuple [bK p n cs, .list (ws.map .int)]), .d false (.tuple [bD kD, .list (rs.map fO), .tuple [.str re]]), .cu (stC (.ref c) true L'),rW],⟨_,_,by rw[gY hR.CO];exact hR.top,by rw[lR hm0,List.map_append];rfl,by rw[Ky];exact hR.nO.A9 hR.Ei hR.ab,rfl⟩,?_,?_⟩
 ·rintro i d ρ ⟨hi,rfl⟩ ⟨L',rW,hc,ha,hrd,rfl⟩
  have hi':i<rs.length:=by omega
  obtain⟨b',hb'⟩:∃b',bs[i]?=some b':=⟨bs[i]'(by omega),List.getElem?_eq_getElem (by omega)⟩
  have lY:=oJ (i:=i) hi'
  rw[if_neg (by omega)] at lY
  have hL:=hrd.row i b' _ hb' lY
  have hbm:=List.mem_of_getElem? hb'
  have J0:(rs.getD i []).length<=n.toNat:=by
   rw[List.getD_eq_getElem?_getD,List.getElem?_eq_getElem hi']
   exact hl3 _ (List.getElem_mem hi')
  refine Gv.jg ?_
  refine Sv.Ax (i:=14) rfl (dz.vH (i:=14) rfl (dz.lN (i:=14) rfl (dz.root rfl ?_)))
  walk_at "dt"
  refine⟨1,_,a1,rfl,hc,rfl,?_⟩
  walk_at "dt"
  refine⟨0+(i:Int),_,b',rfl,hrd.root,iz (by omega) (by rw[show(0+(i:Int)).toNat=i by omega,List.getElem?_map,hb'];rfl),_,hL,by rw[List.length_map,List.length_map];omega,?_⟩
  walk_at "dt"
  refine⟨_,_,?_,?_,?_,rfl⟩
  ·rw[gY (fun z=>hR.cb (by rw[z];exact hbm))];exact hc
  ·rw[gY (fun z=>hR.ab (by rw[z];exact hbm))];exact ha
  ·have:=hrd.Ms (ts':=rs.getD i []++[((i:Int),(i:Int),(i:Int))]) hb' lY
   rw[Rq hi'] at this
   rw[show(((rs.getD i []++[((i:Int),(i:Int),(i:Int))]).map bE).map Oi.dat)=((rs.getD i []).map bE).map Oi.dat++[.dat (.tuple [.int (i:Int), .int (i:Int), .int (i:Int)])] by rw[List.map_append,List.map_append];rfl] at this
   rw[show(0+(i:Int))=i by omega]
   exact this
 rintro ρ ⟨L',rW,hc,ha,hrd,rfl⟩
 refine Sv.seq ?_
 refine Sv.ia ?_
 refine Tv.z9 14 rfl (rQ hc ha hrd) ?_
 walk_at "dt"
 rw[show((rs.length:Nat):Int).toNat=rs.length by omega] at hrd
 refine ay.ev (ay.jU (by decide) rfl ?_)
 walk_at "dt"
 have hrm:(rs.map fO).length=rs.length:=List.length_map ..
 refine⟨by omega,false,fun i ds=>ds=((gX rs rs.length).take i).map fO,rfl,?_,?_⟩
 ·rintro i d ds ⟨hi,rfl⟩ hl' rfl
  have hi':i<rs.length:=by have:(rs.map fO).length=rs.length:=List.length_map ..;omega
  have hgd:rs.getD i []=rs[i]:=by rw[List.getD_eq_getElem?_getD,List.getElem?_eq_getElem hi'];rfl
  have hat:bh (rs.map fO) (0+(i:Int))=some (.list (rs[i].map bE)):=iz (by omega) (by rw[show(0+(i:Int)).toNat=i by omega,List.getElem?_map,List.getElem?_eq_getElem hi'];rfl)
  have J0:=hl3 _ (List.getElem_mem hi')
  have lT:(rs[i].map bE).length=rs[i].length:=List.length_map ..
  have lY:=oJ (i:=rs.length) hi'
  rw[if_pos hi',hgd] at lY
  walk_at "dt"
  refine⟨by walk_at "wk",?_⟩
  walk_at "dt"
  refine⟨by show _+1<=_;omega,⟨(fun z=>by cases z),?_⟩⟩
  show _=List.map _ (List.take (i+1) _)
  rw[take_snoc lY,List.map_append,show(0+(i:Int))=i by omega]
  show _++[PyData.list (rs[i].map bE++[_])]=_++[PyData.list ((rs[i]++[_]).map bE)]
  rw[List.map_append];rfl
 rintro ds hl' rfl
 have hz:List.take (((List.map fO rs).length:Nat):Int).toNat (gX rs rs.length)=gX rs rs.length:=List.take_of_length_le (by rw[rJ];omega)
 rw[hz,show((rs.length:Nat):Int).toNat=rs.length by omega]
 refine⟨yk _,yk _,_,rfl,?_⟩
 rw[eqv_refl _ (.inl (yk _)),if_neg (by decide)]
 refine Sv.next ?_
 refine Sv.seq ?_
 refine Sv.PY (i:=14) rfl (dz.lN (i:=14) rfl (dz.root rfl ?_))
 walk_at "dt"
 refine⟨1,_,a1,rfl,hc,rfl,_,hrd.root,by rw[List.length_map];omega,fun c2 hc2=>?_⟩
 walk_at "dt"
 rw[show PyData.eqv (.tuple [bK p n cs, .list (ws.map .int)]) (.tuple (List.map (·.2) [(false,bK p n cs),(false,bD ws)]))=true from hee,if_neg (by decide)]
 walk_at "dt"
 by_cases DW:(60:Int)<m
 ·rw[if_pos (decide_eq_true DW)]
  walk_at "dt"
  show PyData.bool (PyData.eqv (.tuple [bK p n cs,bD ws]) (.tuple [bK p n cs,bD ws]) !=false)= .bool true
  rw[hee];rfl
 ·rw[if_neg (by simpa using DW)]
  walk_at "dt"
  refine Ev.dD (o9 5) ?_
  refine Av.cons ?_
  refine Ev.IP Cf ?_
  walk_at "dt"
  refine⟨rfl,p,n,cs,ws,m,rfl,hN,by omega,by omega,hws,fun c' U5 a1' bs' wK qI=>?_⟩
  rw[hr] at qI
  refine⟨c',_,rfl,rQ qI.top qI.word qI.nO,?_⟩
  walk_at "dt"
  refine⟨rfl,nv (kD,rs,re),rfl,D7,?_⟩
  rfl
end
theorem all_mk{l:PySem.W.OpenLaw}{w:World}{K:PySem.W.Frag}{h:Heap}{mg:Str->Option Value}{fa:Addr}{f0 f1 f2 f3 f4 f5 f6 f7 f8 f9 sO wV yO vG uL ur uh wR yj sS xT yh wU xU vX uW vq uz sC:Addr}(X:K.In h)(G:h.Ns mainGlobals mg)(IL:mg "law"=some (.ref fa))
  {TR Fg:Option Addr} {FW:Array (Option Value)} {Tq TM Px La yT MV:Value} {LM R8:Option Addr} {Po:Array (Option Value)} {EG Ql Ti RY zv Qk:Value} {Mm RI:Option Addr} {sl2:Array (Option Value)} {Qc Mb Ss Jt zE Sf:Value} {M1 QB:Option Addr} {PJ:Array (Option Value)} {HW L3 Na Jz Ec UC:Value} {OC Qh:Option Addr} {Pz:Array (Option Value)} {JP Ld J8 Sx C5 MO:Value} {G9 EZ:Option Addr} {UK:Array (Option Value)} {Rv KH PZ HR z5 Pq:Value} {Qn HL:Option Addr} {S1:Array (Option Value)} {HF LX Mz FY Cb MN:Value} {Ic Qz:Option Addr} {Lj:Array (Option Value)} {Fq Ot MK Of BN M9:Value} {Ue IM:Option Addr} {Qq:Array (Option Value)} {Nf LJ KL Mt CJ PU:Value} {MU J7:Option Addr} {OJ:Array (Option Value)} {OG TL G7 NP BR HQ:Value} {Mp TZ:Option Addr} {Tr:Array (Option Value)} {Q9 Oz TY Q3 Cc IQ:Value} {Pw QN:Option Addr} {Kh:Array (Option Value)} {MF FN Ly TX C8 K9:Value} {EM Rb:Option Addr} {ON:Array (Option Value)} {OW Mw S6 Qw BI S5:Value} {Mj NI:Option Addr} {Ol:Array (Option Value)} {Jk FI SV P4 yS Se:Value} {Sd Gr:Option Addr} {EN:Array (Option Value)} {S2 Ro O4 EF Et Ur:Value} {Uw P7:Option Addr} {QT:Array (Option Value)} {Ge ER E7 PM Ea GD:Value} {Uy JV:Option Addr} {Ui:Array (Option Value)} {NJ Oq EV MT zT Nn:Value} {L4 N7:Option Addr} {TU:Array (Option Value)} {Ri UH Q8 KU CD Jx:Value} {Mx SH:Option Addr} {Ja:Array (Option Value)} {Q5 Jc RA Ml Ej Hx:Value} {QC QD:Option Addr} {EH:Array (Option Value)} {Ih Oa GI OM El Jr:Value} {OX ME:Option Addr} {JE:Array (Option Value)} {IS Pb G3 Rw AD Fz:Value} {T9 MI:Option Addr} {Lv:Array (Option Value)} {N8 K8 OR LF D9 MJ:Value} {JH GP:Option Addr} {R5:Array (Option Value)} {KG SY Lg Mu Dz L0:Value} {OU Nh:Option Addr} {KW:Array (Option Value)} {NS GU M3 KA AZ SQ:Value} {Up QM:Option Addr} {Tw:Array (Option Value)} {OB Tc LL GS Au RH:Value} {Hh LW:Option Addr} {TQ:Array (Option Value)} {IT Ik Qi Jo AW Pj:Value} {P0 Np:Option Addr} {MZ:Array (Option Value)} {MM JN Iq L5 Ca RV:Value} {FL Fi:Option Addr} {OL:Array (Option Value)} {Ph GC E8 K6 Ar RO:Value} {RQ Ci:Option Addr} {JF:Array (Option Value)} {LY AE Co zc wu D5:Value}
  (a0:PySem.W.nsIn K mainGlobals "inverse"=some (some (.ref f0))) (l0:K.lookup f0=some ⟨Tq,TR, .func (PySem.W.fnOf "inverse" "inverse" (bP lQ) (bL lQ) (az lQ) .none TM Px La Fg yT MV),FW⟩) (c0:PySem.W.codeIn K yT "inverse"=true) (k0:PySem.W.keepIn K (.ref f0)=true)
  (a1:PySem.W.nsIn K mainGlobals "total"=some (some (.ref f1))) (l1:K.lookup f1=some ⟨EG,LM, .func (PySem.W.fnOf "total" "total" (bP lU) (bL lU) (az lU) .none Ql Ti RY R8 zv Qk),Po⟩) (c1:PySem.W.codeIn K zv "total"=true) (k1:PySem.W.keepIn K (.ref f1)=true)
  (a2:PySem.W.nsIn K mainGlobals "sums"=some (some (.ref f2))) (l2:K.lookup f2=some ⟨Qc,Mm, .func (PySem.W.fnOf "sums" "sums" (bP kY) (bL kY) (az kY) .none Mb Ss Jt RI zE Sf),sl2⟩) (c2:PySem.W.codeIn K zE "sums"=true) (k2:PySem.W.keepIn K (.ref f2)=true)
  (a3:PySem.W.nsIn K mainGlobals "sum_of"=some (some (.ref f3))) (l3:K.lookup f3=some ⟨HW,M1, .func (PySem.W.fnOf "sum_of" "sum_of" (bP lM) (bL lM) (az lM) .none L3 Na Jz QB Ec UC),PJ⟩) (c3:PySem.W.codeIn K Ec "sum_of"=true) (k3:PySem.W.keepIn K (.ref f3)=true)
  (a4:PySem.W.nsIn K mainGlobals "voices"=some (some (.ref f4))) (l4:K.lookup f4=some ⟨JP,OC, .func (PySem.W.fnOf "voices" "voices" (bP kq) (bL kq) (az kq) .none Ld J8 Sx Qh C5 MO),Pz⟩) (c4:PySem.W.codeIn K C5 "voices"=true) (k4:PySem.W.keepIn K (.ref f4)=true)
  (a5:PySem.W.nsIn K mainGlobals "all_voices"=some (some (.ref f5))) (l5:K.lookup f5=some ⟨Rv,G9, .func (PySem.W.fnOf "all_voices" "all_voices" (bP m9) (bL m9) (az m9) .none KH PZ HR EZ z5 Pq),UK⟩) (c5:PySem.W.codeIn K z5 "all_voices"=true) (k5:PySem.W.keepIn K (.ref f5)=true)
  (a6:PySem.W.nsIn K mainGlobals "counts_of"=some (some (.ref f6))) (l6:K.lookup f6=some ⟨HF,Qn, .func (PySem.W.fnOf "counts_of" "counts_of" (bP ny) (bL ny) (az ny) .none LX Mz FY HL Cb MN),S1⟩) (c6:PySem.W.codeIn K Cb "counts_of"=true) (k6:PySem.W.keepIn K (.ref f6)=true)
  (a7:PySem.W.nsIn K mainGlobals "turns_of"=some (some (.ref f7))) (l7:K.lookup f7=some ⟨Fq,Ic, .func (PySem.W.fnOf "turns_of" "turns_of" (bP nD) (bL nD) (az nD) .none Ot MK Of Qz BN M9),Lj⟩) (c7:PySem.W.codeIn K BN "turns_of"=true) (k7:PySem.W.keepIn K (.ref f7)=true)
  (a8:PySem.W.nsIn K mainGlobals "with_turns"=some (some (.ref f8))) (l8:K.lookup f8=some ⟨Nf,Ue, .func (PySem.W.fnOf "with_turns" "with_turns" (bP lK) (bL lK) (az lK) .none LJ KL Mt IM CJ PU),Qq⟩) (c8:PySem.W.codeIn K CJ "with_turns"=true) (k8:PySem.W.keepIn K (.ref f8)=true)
  (a9:PySem.W.nsIn K mainGlobals "voted"=some (some (.ref f9))) (l9:K.lookup f9=some ⟨OG,MU, .func (PySem.W.fnOf "voted" "voted" (bP lV) (bL lV) (az lV) .none TL G7 NP J7 BR HQ),OJ⟩) (c9:PySem.W.codeIn K BR "voted"=true) (k9:PySem.W.keepIn K (.ref f9)=true)
  (xy:PySem.W.nsIn K mainGlobals "broken_of"=some (some (.ref sO))) (sX:K.lookup sO=some ⟨Q9,Mp, .func (PySem.W.fnOf "broken_of" "broken_of" (bP ki) (bL ki) (az ki) .none Oz TY Q3 TZ Cc IQ),Tr⟩) (uq:PySem.W.codeIn K Cc "broken_of"=true) (xR:PySem.W.keepIn K (.ref sO)=true)
  (tV:PySem.W.nsIn K mainGlobals "_law_bag"=some (some (.ref wV))) (wY:K.lookup wV=some ⟨MF,Pw, .func (PySem.W.fnOf "_law_bag" "_law_bag" (bP kj) (bL kj) (az kj) .none FN Ly TX QN C8 K9),Kh⟩) (uC:PySem.W.codeIn K C8 "_law_bag"=true) (vY:PySem.W.keepIn K (.ref wV)=true)
  (tE:PySem.W.nsIn K mainGlobals "_law_stirred"=some (some (.ref yO))) (vW:K.lookup yO=some ⟨OW,EM, .func (PySem.W.fnOf "_law_stirred" "_law_stirred" (bP lD) (bL lD) (az lD) .none Mw S6 Qw Rb BI S5),ON⟩) (c12:PySem.W.codeIn K BI "_law_stirred"=true) (wI:PySem.W.keepIn K (.ref yO)=true)
  (uM:PySem.W.nsIn K mainGlobals "_law_draw"=some (some (.ref vG))) (w4:K.lookup vG=some ⟨Jk,Mj, .func (PySem.W.fnOf "_law_draw" "_law_draw" (bP mz) (bL mz) (az mz) .none FI SV P4 NI yS Se),Ol⟩) (wJ:PySem.W.codeIn K yS "_law_draw"=true) (wZ:PySem.W.keepIn K (.ref vG)=true)
  (wA:PySem.W.nsIn K mainGlobals "_law_prime_from"=some (some (.ref uL))) (tF:K.lookup uL=some ⟨S2,Sd, .func (PySem.W.fnOf "_law_prime_from" "_law_prime_from" (bP kW) (bL kW) (az kW) .none Ro O4 EF Gr Et Ur),EN⟩) (yt:PySem.W.codeIn K Et "_law_prime_from"=true) (rT:PySem.W.keepIn K (.ref uL)=true)
  (uP:PySem.W.nsIn K mainGlobals "_law_prime"=some (some (.ref ur))) (uY:K.lookup ur=some ⟨Ge,Uw, .func (PySem.W.fnOf "_law_prime" "_law_prime" (bP mV) (bL mV) (az mV) .none ER E7 PM P7 Ea GD),QT⟩) (vB:PySem.W.codeIn K Ea "_law_prime"=true) (tQ:PySem.W.keepIn K (.ref ur)=true)
  (wF:PySem.W.nsIn K mainGlobals "_law_letters"=some (some (.ref uh))) (vZ:K.lookup uh=some ⟨NJ,Uy, .func (PySem.W.fnOf "_law_letters" "_law_letters" (bP jr) (bL jr) (az jr) .none Oq EV MT JV zT Nn),Ui⟩) (v7:PySem.W.codeIn K zT "_law_letters"=true) (tO:PySem.W.keepIn K (.ref uh)=true)
  (u9:PySem.W.nsIn K mainGlobals "_law_over"=some (some (.ref wR))) (xG:K.lookup wR=some ⟨Ri,L4, .func (PySem.W.fnOf "_law_over" "_law_over" (bP mC) (bL mC) (az mC) .none UH Q8 KU N7 CD Jx),TU⟩) (vQ:PySem.W.codeIn K CD "_law_over"=true) (xK:PySem.W.keepIn K (.ref wR)=true)
  (xX:PySem.W.nsIn K mainGlobals "_law_sum"=some (some (.ref yj))) (xE:K.lookup yj=some ⟨Q5,Mx, .func (PySem.W.fnOf "_law_sum" "_law_sum" (bP kZ) (bL kZ) (az kZ) .none Jc RA Ml SH Ej Hx),Ja⟩) (sJ:PySem.W.codeIn K Ej "_law_sum"=true) (yG:PySem.W.keepIn K (.ref yj)=true)
  (xu:PySem.W.nsIn K mainGlobals "_law_planted_check"=some (some (.ref sS))) (ux:K.lookup sS=some ⟨Ih,QC, .func (PySem.W.fnOf "_law_planted_check" "_law_planted_check" (bP jw) (bL jw) (az jw) .none Oa GI OM QD El Jr),EH⟩) (tB:PySem.W.codeIn K El "_law_planted_check"=true) (uK:PySem.W.keepIn K (.ref sS)=true)
  (sL:PySem.W.nsIn K mainGlobals "_law_planted"=some (some (.ref xT))) (uo:K.lookup xT=some ⟨IS,OX, .func (PySem.W.fnOf "_law_planted" "_law_planted" (bP jP) (bL jP) (az jP) .none Pb G3 Rw ME AD Fz),JE⟩) (sU:PySem.W.codeIn K AD "_law_planted"=true) (ye:PySem.W.keepIn K (.ref xT)=true)
  (sR:PySem.W.nsIn K mainGlobals "_law_net"=some (some (.ref yh))) (sf:K.lookup yh=some ⟨N8,T9, .func (PySem.W.fnOf "_law_net" "_law_net" (bP jy) (bL jy) (az jy) .none K8 OR LF MI D9 MJ),Lv⟩) (wm:PySem.W.codeIn K D9 "_law_net"=true) (vp:PySem.W.keepIn K (.ref yh)=true)
  (xF:PySem.W.nsIn K mainGlobals "_law_net_and_word"=some (some (.ref wU))) (vo:K.lookup wU=some ⟨KG,JH, .func (PySem.W.fnOf "_law_net_and_word" "_law_net_and_word" (bP lZ) (bL lZ) (az lZ) .none SY Lg Mu GP Dz L0),R5⟩) (sD:PySem.W.codeIn K Dz "_law_net_and_word"=true) (xg:PySem.W.keepIn K (.ref wU)=true)
  (tw:PySem.W.nsIn K mainGlobals "_law_votes"=some (some (.ref xU))) (uF:K.lookup xU=some ⟨NS,OU, .func (PySem.W.fnOf "_law_votes" "_law_votes" (bP jA) (bL jA) (az jA) .none GU M3 KA Nh AZ SQ),KW⟩) (xS:PySem.W.codeIn K AZ "_law_votes"=true) (uS:PySem.W.keepIn K (.ref xU)=true)
  (ju:PySem.W.nsIn K mainGlobals "_law_alike"=some (some (.ref vX))) (wO:K.lookup vX=some ⟨OB,Up, .func (PySem.W.fnOf "_law_alike" "_law_alike" (bP kK) (bL kK) (az kK) .none Tc LL GS QM Au RH),Tw⟩) (wg:PySem.W.codeIn K Au "_law_alike"=true) (sI:PySem.W.keepIn K (.ref vX)=true)
  (vd:PySem.W.nsIn K mainGlobals "_law_copy"=some (some (.ref uW))) (uN:K.lookup uW=some ⟨IT,Hh, .func (PySem.W.fnOf "_law_copy" "_law_copy" (bP j4) (bL j4) (az j4) .none Ik Qi Jo LW AW Pj),TQ⟩) (wW:PySem.W.codeIn K AW "_law_copy"=true) (xh:PySem.W.keepIn K (.ref uW)=true)
  (uu:PySem.W.nsIn K mainGlobals "_law_turns"=some (some (.ref vq))) (v5:K.lookup vq=some ⟨MM,P0, .func (PySem.W.fnOf "_law_turns" "_law_turns" (bP j6) (bL j6) (az j6) .none JN Iq L5 Np Ca RV),MZ⟩) (uO:PySem.W.codeIn K Ca "_law_turns"=true) (vn:PySem.W.keepIn K (.ref vq)=true)
  (xj:PySem.W.nsIn K mainGlobals "_law_due"=some (some (.ref uz))) (vU:K.lookup uz=some ⟨Ph,FL, .func (PySem.W.fnOf "_law_due" "_law_due" (bP kQ) (bL kQ) (az kQ) .none GC E8 K6 Fi Ar RO),OL⟩) (yy:PySem.W.codeIn K Ar "_law_due"=true) (sq:PySem.W.keepIn K (.ref uz)=true)
  (yM:PySem.W.nsIn K mainGlobals "law"=some (some (.ref sC))) (vJ:K.lookup sC=some ⟨LY,RQ, .func (PySem.W.fnOf "law" "law" (bP iE) (bL iE) (az iE) .none AE Co zc Ci wu D5),JF⟩) (vz:PySem.W.codeIn K wu "law"=true) (uw:PySem.W.keepIn K (.ref sC)=true)
  (we:PySem.W.nsIn K mainGlobals "abs"=some none)
  (rV:PySem.W.nsIn K mainGlobals "all"=some none)
  (xx:PySem.W.nsIn K mainGlobals "bool"=some none)
  (yH:PySem.W.nsIn K mainGlobals "dict"=some none)
  (w9:PySem.W.nsIn K mainGlobals "enumerate"=some none)
  (vV:PySem.W.nsIn K mainGlobals "int"=some none)
  (ue:PySem.W.nsIn K mainGlobals "isinstance"=some none)
  (vh:PySem.W.nsIn K mainGlobals "len"=some none)
  (sM:PySem.W.nsIn K mainGlobals "list"=some none)
  (uU:PySem.W.nsIn K mainGlobals "min"=some none)
  (xH:PySem.W.nsIn K mainGlobals "range"=some none)
  (ya:PySem.W.nsIn K mainGlobals "set"=some none)
  (vP:PySem.W.nsIn K mainGlobals "sorted"=some none)
  (uv:PySem.W.nsIn K mainGlobals "str"=some none)
  (xo:PySem.W.nsIn K mainGlobals "sum"=some none)
  (um:PySem.W.nsIn K mainGlobals "tuple"=some none)
  :∃fd:FuncData,(∀(s:Shared) (v:Value),BindsTo s fd ⟨[v],[]⟩ [("script",v)])/\∀base:Heap,K.In base->base.Ns mainGlobals mg->bz l.prog w K mg base bH 6 fa fd ["script"] (qT K):=by
 have e:=IL.symm.trans (PySem.W.mg_of X G yM)
 cases e
 have F0:=cC (st:=lQ) l0 c0 k0
 have b0:=F0.binds (ps:=["p","b"]) fun _ _ _ _ _ _ us hl=>by obtain⟨_,_,rfl⟩:=ln2 hl;rfl
 have F1:=cC (st:=lU) l1 c1 k1
 have b1:=F1.binds (ps:=["p","pairs","word"]) fun _ _ _ _ _ _ us hl=>by obtain⟨_,_,_,rfl⟩:=iY hl;rfl
 have F2:=cC (st:=kY) l2 c2 k2
 have b2:=F2.binds (ps:=["net","word"]) fun _ _ _ _ _ _ us hl=>by obtain⟨_,_,rfl⟩:=ln2 hl;rfl
 have F3:=cC (st:=lM) l3 c3 k3
 have b3:=F3.binds (ps:=["p","pairs","word"]) fun _ _ _ _ _ _ us hl=>by obtain⟨_,_,_,rfl⟩:=iY hl;rfl
 have F4:=cC (st:=kq) l4 c4 k4
 have b4:=F4.binds (ps:=["net","places"]) fun _ _ _ _ _ _ us hl=>by obtain⟨_,_,rfl⟩:=ln2 hl;rfl
 have F5:=cC (st:=m9) l5 c5 k5
 have b5:=F5.binds (ps:=["net"]) fun _ _ _ _ _ _ us hl=>by obtain⟨_,rfl⟩:=jX hl;rfl
 have F6:=cC (st:=ny) l6 c6 k6
 have b6:=F6.binds (ps:=["p","there","reached","letter"]) fun _ _ _ _ _ _ us hl=>by obtain⟨_,_,_,_,rfl⟩:=mS hl;rfl
 have F7:=cC (st:=nD) l7 c7 k7
 have b7:=F7.binds (ps:=["p","found","reached","word"]) fun _ _ _ _ _ _ us hl=>by obtain⟨_,_,_,_,rfl⟩:=mS hl;rfl
 have F8:=cC (st:=lK) l8 c8 k8
 have b8:=F8.binds (ps:=["word","turns"]) fun _ _ _ _ _ _ us hl=>by obtain⟨_,_,rfl⟩:=ln2 hl;rfl
 have F9:=cC (st:=lV) l9 c9 k9
 have b9:=F9.binds (ps:=["net","word","most"]) fun _ _ _ _ _ _ us hl=>by obtain⟨_,_,_,rfl⟩:=iY hl;rfl
 have w5:=cC (st:=ki) sX uq xR
 have Ig:=w5.binds (ps:=["reached"]) fun _ _ _ _ _ _ us hl=>by obtain⟨_,rfl⟩:=jX hl;rfl
 have wc:=cC (st:=kj) wY uC vY
 have JR:=wc.binds (ps:=["script"]) fun _ _ _ _ _ _ us hl=>by obtain⟨_,rfl⟩:=jX hl;rfl
 have wD:=cC (st:=lD) vW c12 wI
 have Jy:=wD.binds (ps:=["bag","many"]) fun _ _ _ _ _ _ us hl=>by obtain⟨_,_,rfl⟩:=ln2 hl;rfl
 have su:=cC (st:=mz) w4 wJ wZ
 have Rt:=su.binds (ps:=["bag","many"]) fun _ _ _ _ _ _ us hl=>by obtain⟨_,_,rfl⟩:=ln2 hl;rfl
 have yg:=cC (st:=kW) tF yt rT
 have JC:=yg.binds (ps:=["number"]) fun _ _ _ _ _ _ us hl=>by obtain⟨_,rfl⟩:=jX hl;rfl
 have yE:=cC (st:=mV) uY vB tQ
 have LC:=yE.binds (ps:=["bag"]) fun _ _ _ _ _ _ us hl=>by obtain⟨_,rfl⟩:=jX hl;rfl
 have uG:=cC (st:=jr) vZ v7 tO
 have Pe:=uG.binds (ps:=["bag","p","n"]) fun _ _ _ _ _ _ us hl=>by obtain⟨_,_,_,rfl⟩:=iY hl;rfl
 have tX:=cC (st:=mC) xG vQ xK
 have KO:=tX.binds (ps:=["p","a","b"]) fun _ _ _ _ _ _ us hl=>by obtain⟨_,_,_,rfl⟩:=iY hl;rfl
 have uZ:=cC (st:=kZ) xE sJ yG
 have TH:=uZ.binds (ps:=["p","pairs","word"]) fun _ _ _ _ _ _ us hl=>by obtain⟨_,_,_,rfl⟩:=iY hl;rfl
 have w6:=cC (st:=jw) ux tB uK
 have OS:=w6.binds (ps:=["bag","p","word","wide"]) fun _ _ _ _ _ _ us hl=>by obtain⟨_,_,_,_,rfl⟩:=mS hl;rfl
 have se:=cC (st:=jP) uo sU ye
 have PX:=se.binds (ps:=["bag","p","word","many","wide"]) fun _ _ _ _ _ _ us hl=>by obtain⟨_,_,_,_,_,rfl⟩:=Qt hl;rfl
 have rX:=cC (st:=jy) sf wm vp
 have ID:=rX.binds (ps:=["bag","places","many","wide"]) fun _ _ _ _ _ _ us hl=>by obtain⟨_,_,_,_,rfl⟩:=mS hl;rfl
 have xB:=cC (st:=lZ) vo sD xg
 have LI:=xB.binds (ps:=["bag","places","many","wide"]) fun _ _ _ _ _ _ us hl=>by obtain⟨_,_,_,_,rfl⟩:=mS hl;rfl
 have yD:=cC (st:=jA) uF xS uS
 have Hy:=yD.binds (ps:=["net","word","place"]) fun _ _ _ _ _ _ us hl=>by obtain⟨_,_,_,rfl⟩:=iY hl;rfl
 have gR:=cC (st:=kK) wO wg sI
 have lC:=gR.binds (ps:=["found","due"]) fun _ _ _ _ _ _ us hl=>by obtain⟨_,_,rfl⟩:=ln2 hl;rfl
 have tT:=cC (st:=j4) uN wW xh
 have Ji:=tT.binds (ps:=["net"]) fun _ _ _ _ _ _ us hl=>by obtain⟨_,rfl⟩:=jX hl;rfl
 have vC:=cC (st:=j6) v5 uO vn
 have Qd:=vC.binds (ps:=["net","word"]) fun _ _ _ _ _ _ us hl=>by obtain⟨_,_,rfl⟩:=ln2 hl;rfl
 have xQ:=cC (st:=kQ) vU yy sq
 have Fj:=xQ.binds (ps:=["net","word","most"]) fun _ _ _ _ _ _ us hl=>by obtain⟨_,_,_,rfl⟩:=iY hl;rfl
 have Ni:=cC (st:=iE) vJ vz uw
 have wz:=PySem.W.mg_none_of X G we
 have jV:=PySem.W.mg_none_of X G rV
 have jS:=PySem.W.mg_none_of X G xx
 have ud:=PySem.W.mg_none_of X G yH
 have m5:=PySem.W.mg_none_of X G w9
 have ig:=PySem.W.mg_none_of X G vV
 have fB:=PySem.W.mg_none_of X G ue
 have bT:=PySem.W.mg_none_of X G vh
 have cg:=PySem.W.mg_none_of X G sM
 have vI:=PySem.W.mg_none_of X G uU
 have aY:=PySem.W.mg_none_of X G xH
 have lE:=PySem.W.mg_none_of X G ya
 have iW:=PySem.W.mg_none_of X G vP
 have jJ:=PySem.W.mg_none_of X G uv
 have ja:=PySem.W.mg_none_of X G xo
 have jR:=PySem.W.mg_none_of X G um
 refine⟨PySem.W.fnOf "law" "law" (bP iE) (bL iE) (az iE) .none AE Co zc Ci wu D5,fun s v=> .of_eq rfl,fun base _ _=>?_⟩
 have Pr:=Callee.mk' F0 (ML (P:=l.prog) (w:=w) (base:=base) F0) b0 (PySem.W.mg_of X G a0)
 have Hg:=Callee.mk' F1 (Jw (P:=l.prog) (w:=w) (base:=base) F1) b1 (PySem.W.mg_of X G a1)
 have HK:=Callee.mk' F3 (Sg (P:=l.prog) (w:=w) (base:=base) F3 Hg) b3 (PySem.W.mg_of X G a3)
 have II:=Callee.mk' F2 (IZ (P:=l.prog) (w:=w) (base:=base) F2 HK) b2 (PySem.W.mg_of X G a2)
 have OP:=Callee.mk' F4 (Pa (P:=l.prog) (w:=w) (base:=base) F4 Pr ud m5) b4 (PySem.W.mg_of X G a4)
 have Js:=Callee.mk' F5 (Fv (P:=l.prog) (w:=w) (base:=base) F5 OP cg aY) b5 (PySem.W.mg_of X G a5)
 have Qo:=Callee.mk' F6 (Ud (P:=l.prog) (w:=w) (base:=base) F6) b6 (PySem.W.mg_of X G a6)
 have HE:=Callee.mk' F7 (GN (P:=l.prog) (w:=w) (base:=base) F7 Qo m5 bT) b7 (PySem.W.mg_of X G a7)
 have Fe:=Callee.mk' F8 (KD (P:=l.prog) (w:=w) (base:=base) F8 cg) b8 (PySem.W.mg_of X G a8)
 have G6:=Callee.mk' w5 (Ia (P:=l.prog) (w:=w) (base:=base) w5 bT) Ig (PySem.W.mg_of X G xy)
 have K1:=Callee.mk' F9 (PR (P:=l.prog) (w:=w) (base:=base) F9 Js II HE Fe G6 cg bT) b9 (PySem.W.mg_of X G a9)
 have Ob:=Callee.mk' wc (TJ (P:=l.prog) (w:=w) (base:=base) wc wz) JR (PySem.W.mg_of X G tV)
 have Us:=Callee.mk' wD (T8 (P:=l.prog) (w:=w) (base:=base) wD aY) Jy (PySem.W.mg_of X G tE)
 have mO:=Callee.mk' su (LS (P:=l.prog) (w:=w) (base:=base) su Us bT) Rt (PySem.W.mg_of X G uM)
 have T3:=Callee.mk' yg (O2 (P:=l.prog) (w:=w) (base:=base) yg aY) JC (PySem.W.mg_of X G wA)
 have Py:=Callee.mk' yE (FG (P:=l.prog) (w:=w) (base:=base) yE mO T3) LC (PySem.W.mg_of X G uP)
 have FD:=Callee.mk' uG (Kg (P:=l.prog) (w:=w) (base:=base) uG mO aY ig vI) Pe (PySem.W.mg_of X G wF)
 have yV:=Callee.mk' tX (Ij (P:=l.prog) (w:=w) (base:=base) tX) KO (PySem.W.mg_of X G u9)
 have yI:=Callee.mk' uZ (P6 (P:=l.prog) (w:=w) (base:=base) uZ ja) TH (PySem.W.mg_of X G xX)
 have T5:=Callee.mk' w6 (Nl (P:=l.prog) (w:=w) (base:=base) w6 yI mO yV bT iW lE aY) OS (PySem.W.mg_of X G xu)
 have N4:=Callee.mk' se (Sk (P:=l.prog) (w:=w) (base:=base) se T5 bT aY) PX (PySem.W.mg_of X G sL)
 have Gi:=Callee.mk' rX (Hs (P:=l.prog) (w:=w) (base:=base) rX Py mO aY iW lE) ID (PySem.W.mg_of X G sR)
 have E5:=Callee.mk' xB (UE (P:=l.prog) (w:=w) (base:=base) xB mO Gi FD N4 aY) LI (PySem.W.mg_of X G xF)
 have LQ:=Callee.mk' yD (Fx (P:=l.prog) (w:=w) (base:=base) yD yI yV iW ja cg) Hy (PySem.W.mg_of X G tw)
 have EU:=Callee.void (P:=l.prog) (w:=w) (base:=base) (k:=0) (sp:=bA 2 (kI 0)) gR lC (PySem.W.mg_of X G ju) Nz
 have Kz:=Callee.mk' gR (oG (P:=l.prog) (w:=w) (base:=base) 0 gR EU fB cg jR jV bT jS ig jJ aY) lC (PySem.W.mg_of X G ju)
 have Ln:=Callee.mk' gR (oG (P:=l.prog) (w:=w) (base:=base) 1 gR Kz fB cg jR jV bT jS ig jJ aY) lC (PySem.W.mg_of X G ju)
 have LD:=Callee.mk' gR (oG (P:=l.prog) (w:=w) (base:=base) 2 gR Ln fB cg jR jV bT jS ig jJ aY) lC (PySem.W.mg_of X G ju)
 have LH:=Callee.mk' gR (oG (P:=l.prog) (w:=w) (base:=base) 3 gR LD fB cg jR jV bT jS ig jJ aY) lC (PySem.W.mg_of X G ju)
 have Ng:=Callee.mk' gR (oG (P:=l.prog) (w:=w) (base:=base) 4 gR LH fB cg jR jV bT jS ig jJ aY) lC (PySem.W.mg_of X G ju)
 have Ga:=Ng
 have NW:=Callee.mk' tT (LU (P:=l.prog) (w:=w) (base:=base) tT cg) Ji (PySem.W.mg_of X G vd)
 have Hf:=Callee.mk' vC (KZ (P:=l.prog) (w:=w) (base:=base) vC LQ aY ja) Qd (PySem.W.mg_of X G uu)
 have MQ:=Callee.mk' xQ (Sz (P:=l.prog) (w:=w) (base:=base) xQ Hf yI cg aY) Fj (PySem.W.mg_of X G xj)
 exact G4 Ni Ob mO E5 MQ K1 Ga NW aY cg bT
theorem walk{l:PySem.W.OpenLaw}{q:Program}{loose:List Str}{XP:(Str->Option Value)->Heap->Prop}{YP:World->Heap->Prop}{d:DefRec}{K:Params->PySem.W.Frag}(hn:l.most=some 63)(hdf:d.params.defaults=[])
  (hY:∀(w:World) (h:Heap),YP w h->(K w.params).In h)
  (F : ∀ (w : World) (mg : Str -> Option Value) (fa : Addr) (h : Heap), (K w.params).In h -> h.Ns mainGlobals mg -> mg d.name = some (.ref fa) ->
   ∃fd:FuncData,(∀(s:Shared) (u:Value),BindsTo s fd ⟨[u],[]⟩ [("script",u)])/\∀base:Heap,(K w.params).In base->base.Ns mainGlobals mg->bz l.prog w (K w.params) mg base bH 6 fa fd ["script"] (qT (K w.params))):
  PySem.W.WalkO q loose XP YP l.row.toRowW d [] (fun f vs=>PySem.call f vs):=
 L2.SA (n:=63) (k:=6) (x:="script") (CX:=fun _=>bH) (sp:=fun w=>qT (K w.params)) hn (by decide) hdf ⟨rfl,by decide,by decide⟩ hY F (fun _ _ a ns hl _ hS=>⟨a,ns,rfl,hS,hl,fun _=>rfl⟩) fun _ _ _ _ _ z=>z
def view:Program:={PySem.Challenge.pw_fewchecks_k53_rounds_of_votes with main:={PySem.Challenge.pw_fewchecks_k53_rounds_of_votes.main with body:=[top 1,top 2,top 4,top 5,top 7,top 8,top 9,top 10,top 11,top 12,top 13,top 15,top 16,top 17,top 18,top 19,top 20,top 21,top 22,top 23,top 24,top 25,top 26,top 27,top 28,top 29,top 30,top 31,top 32]}}
end K53
open PySem PySem.W PyProof.Rows
local macro_rules| `(tactic|o_head $H:term)=> `(tactic|
 (refine holds_open (q:=K53.view) (loose:=[])
    (Xt:=fun s=>xlAt K53.view [] s && recOk [] s) (XP:=XL K53.view []) (Yf:=Hook.obs $H)
    (Ya:=Hook.val $H) (YP:=Hook.says $H) (N:=100000) ?hl (Hook.of $H)
    (Hook.keeps $H) (fun s e=>xl_of s (Bool.and_eq_true_iff.mp e).1) XL.keeps
    rfl rfl rfl (fun s e=>recFacts_of (Bool.and_eq_true_iff.mp e).2) rfl
    (by assumption) (by decide+kernel) ⟨rfl,rfl,rfl,rfl,rfl,by decide+kernel⟩ ?hw ?hc;(case hl=>exact fun w=>by kernel_rfl)))
set_option maxRecDepth 100000 in
set_option maxHeartbeats 0 in
theorem PySem.Challenge.cw_fewchecks_k53_rounds_of_votes_holds : PySem.Challenge.rw_fewchecks_k53_rounds_of_votes.Holds := by
 w_on
 refine holds_law (by decide+kernel) fun said=>?_
 k_head
 (case hw=>w_witness2)
 k_fill
 refine K53.walk (l:=PySem.Challenge.rw_fewchecks_k53_rounds_of_votes) rfl rfl (fun w h Y=>PySem.W.kIn_of Y) ?F
 case F=>
  intro w mg fa h KX G hmg
  refine' K53.all_mk KX G hmg ?a0 ?l0 ?c0 ?k0 ?a1 ?l1 ?c1 ?k1 ?a2 ?l2 ?c2 ?k2 ?a3 ?l3 ?c3 ?k3 ?a4 ?l4 ?c4 ?k4 ?a5 ?l5 ?c5 ?k5 ?a6 ?l6 ?c6 ?k6 ?a7 ?l7 ?c7 ?k7 ?a8 ?l8 ?c8 ?k8 ?a9 ?l9 ?c9 ?k9 ?xy ?sX ?uq ?xR ?tV ?wY ?uC ?vY ?tE ?vW ?c12 ?wI ?uM ?w4 ?wJ ?wZ ?wA ?tF ?yt ?rT ?uP ?uY ?vB ?tQ ?wF ?vZ ?v7 ?tO ?u9 ?xG ?vQ ?xK ?xX ?xE ?sJ ?yG ?xu ?ux ?tB ?uK ?sL ?uo ?sU ?ye ?sR ?sf ?wm ?vp ?xF ?vo ?sD ?xg ?tw ?uF ?xS ?uS ?ju ?wO ?wg ?sI ?vd ?uN ?wW ?xh ?uu ?v5 ?uO ?vn ?xj ?vU ?yy ?sq ?yM ?vJ ?vz ?uw ?we ?rV ?xx ?yH ?w9 ?vV ?ue ?vh ?sM ?uU ?xH ?ya ?vP ?uv ?xo ?um
  (case a0=>k_is)
  (case l0=>k_is)
  (case c0=>k_is)
  (case k0=>k_is)
  (case a1=>k_is)
  (case l1=>k_is)
  (case c1=>k_is)
  (case k1=>k_is)
  (case a2=>k_is)
  (case l2=>k_is)
  (case c2=>k_is)
  (case k2=>k_is)
  (case a3=>k_is)
  (case l3=>k_is)
  (case c3=>k_is)
  (case k3=>k_is)
  (case a4=>k_is)
  (case l4=>k_is)
  (case c4=>k_is)
  (case k4=>k_is)
  (case a5=>k_is)
  (case l5=>k_is)
  (case c5=>k_is)
  (case k5=>k_is)
  (case a6=>k_is)
  (case l6=>k_is)
  (case c6=>k_is)
  (case k6=>k_is)
  (case a7=>k_is)
  (case l7=>k_is)
  (case c7=>k_is)
  (case k7=>k_is)
  (case a8=>k_is)
  (case l8=>k_is)
  (case c8=>k_is)
  (case k8=>k_is)
  (case a9=>k_is)
  (case l9=>k_is)
  (case c9=>k_is)
  (case k9=>k_is)
  (case xy=>k_is)
  (case sX=>k_is)
  (case uq=>k_is)
  (case xR=>k_is)
  (case tV=>k_is)
  (case wY=>k_is)
  (case uC=>k_is)
  (case vY=>k_is)
  (case tE=>k_is)
  (case vW=>k_is)
  (case c12=>k_is)
  (case wI=>k_is)
  (case uM=>k_is)
  (case w4=>k_is)
  (case wJ=>k_is)
  (case wZ=>k_is)
  (case wA=>k_is)
  (case tF=>k_is)
  (case yt=>k_is)
  (case rT=>k_is)
  (case uP=>k_is)
  (case uY=>k_is)
  (case vB=>k_is)
  (case tQ=>k_is)
  (case wF=>k_is)
  (case vZ=>k_is)
  (case v7=>k_is)
  (case tO=>k_is)
  (case u9=>k_is)
  (case xG=>k_is)
  (case vQ=>k_is)
  (case xK=>k_is)
  (case xX=>k_is)
  (case xE=>k_is)
  (case sJ=>k_is)
  (case yG=>k_is)
  (case xu=>k_is)
  (case ux=>k_is)
  (case tB=>k_is)
  (case uK=>k_is)
  (case sL=>k_is)
  (case uo=>k_is)
  (case sU=>k_is)
  (case ye=>k_is)
  (case sR=>k_is)
  (case sf=>k_is)
  (case wm=>k_is)
  (case vp=>k_is)
  (case xF=>k_is)
  (case vo=>k_is)
  (case sD=>k_is)
  (case xg=>k_is)
  (case tw=>k_is)
  (case uF=>k_is)
  (case xS=>k_is)
  (case uS=>k_is)
  (case ju=>k_is)
  (case wO=>k_is)
  (case wg=>k_is)
  (case sI=>k_is)
  (case vd=>k_is)
  (case uN=>k_is)
  (case wW=>k_is)
  (case xh=>k_is)
  (case uu=>k_is)
  (case v5=>k_is)
  (case uO=>k_is)
  (case vn=>k_is)
  (case xj=>k_is)
  (case vU=>k_is)
  (case yy=>k_is)
  (case sq=>k_is)
  (case yM=>k_is)
  (case vJ=>k_is)
  (case vz=>k_is)
  (case uw=>k_is)
  (case we=>k_is)
  (case rV=>k_is)
  (case xx=>k_is)
  (case yH=>k_is)
  (case w9=>k_is)
  (case vV=>k_is)
  (case ue=>k_is)
  (case vh=>k_is)
  (case sM=>k_is)
  (case uU=>k_is)
  (case xH=>k_is)
  (case ya=>k_is)
  (case vP=>k_is)
  (case uv=>k_is)
  (case xo=>k_is)
  (case um=>k_is)
