import PyProof.Rows.All
import Wide.All
import OpenK.AllK
import Wide.FinOn
import Lean
import PyProof.EqAt
import PyProof.EqKinds
import PyProof.TupleCall
import PySem.Challenge.RW_fewchecks_k26_whole_in_any_order
set_option compiler.extract_closed false
local macro_rules | `(tactic| walk_at "o") => `(tactic| first | lia | omega)
set_option Elab.async false
set_option linter.all false
set_option maxRecDepth 100000
namespace L2
open PySem PySem.Spec PyProof.Rows
noncomputable abbrev Key:=Sum Int Str
noncomputable def lA:Key->Value->Bool
 | .inl k,v=>Value.isInt k v
 | .inr x,v=>Value.isStrOf x v
noncomputable def KO(w:World):Key->Int
 | .inl k=>hashInt k
 | .inr x=>hashStr w x
theorem jd:∀{k:Key} {v:Value},lA k v=true->(∃i t,k=Sum.inl i/\v=Value.int i t)\/(∃x t,k=Sum.inr x/\v=Value.str x t)
  | .inl i, v, h => by
    obtain⟨t,e⟩:=Value.isInt_shape (k:=i) (v:=v) h
    exact .inl ⟨i,t,rfl,e⟩
  | .inr x, v, h => by
    obtain⟨t,e⟩:=Value.isStrOf_shape (x:=x) (v:=v) h
    exact .inr ⟨x,t,rfl,e⟩
theorem TJ(i:Int)(t:Tok):lA (.inl i) (.int i t)=true:=by simp[lA,Value.isInt]
theorem JR(x:Str)(t:Tok):lA (.inr x) (.str x t)=true:=by simp[lA,Value.isStrOf]
theorem Oe(a b:Int):decide ((Sum.inl a:Key)=Sum.inl b)=(a==b):=by
 by_cases e:a=b
 ·subst e;simp
 ·have h:¬(Sum.inl a:Key)=Sum.inl b:=fun q=>e (Sum.inl.inj q)
  rw[decide_eq_false h]
  exact(beq_eq_false_iff_ne.mpr e).symm
theorem NO(a b:Str):decide ((Sum.inr a:Key)=Sum.inr b)=decide (a=b):=by
 by_cases e:a=b
 ·subst e;simp
 ·have h:¬(Sum.inr a:Key)=Sum.inr b:=fun q=>e (Sum.inr.inj q)
  rw[decide_eq_false h,decide_eq_false e]
theorem Vc(a:Int)(b:Str):decide ((Sum.inl a:Key)=Sum.inr b)=false:=decide_eq_false (fun q=>nomatch q)
theorem Kf(a:Str)(b:Int):decide ((Sum.inr a:Key)=Sum.inl b)=false:=decide_eq_false (fun q=>nomatch q)
noncomputable def eW(prog:Program)(w:World):PySem.KeyKind prog w Key where
 is:=lA
 hash:=KO w
 inj:=fun v a b ha hb=>by
  rcases jd ha with ⟨i,t,rfl,rfl⟩|⟨x,t,rfl,rfl⟩
  ·rcases jd hb with ⟨j,u,rfl,e⟩|⟨y,u,rfl,e⟩
   ·injection e with e1 _;rw[e1]
   ·exact nomatch e
  ·rcases jd hb with ⟨j,u,rfl,e⟩|⟨y,u,rfl,e⟩
   ·exact nomatch e
   ·injection e with e1 _;rw[e1]
 byValue:=fun k v h=>by
  rcases jd h with ⟨i,t,rfl,rfl⟩|⟨x,t,rfl,rfl⟩<;>rfl
 pyHash:=fun hv h=>by
  rcases jd hv with ⟨i,t,rfl,rfl⟩|⟨x,t,rfl,rfl⟩
  ·exact wpAny_pyHash_int h
  ·exact wpAny_pyHash_str h
 eqBool:=fun hu hv h=>by
  rcases jd hu with ⟨i,t,rfl,rfl⟩|⟨x,t,rfl,rfl⟩
  ·rcases jd hv with ⟨j,u,rfl,rfl⟩|⟨y,u,rfl,rfl⟩
   ·rw[Oe] at h;exact wpAny_eqBool_int h
   ·rw[Vc] at h;exact SeqAt.EqAt.int_str i t y u _ _ _ _ h
  ·rcases jd hv with ⟨j,u,rfl,rfl⟩|⟨y,u,rfl,rfl⟩
   ·rw[Kf] at h;exact SeqAt.EqAt.str_int x t j u _ _ _ _ h
   ·rw[NO] at h;exact wpAny_eqBool_str h
 «strs» :=fun k x t v h=>by
  rcases jd h with ⟨i,u,rfl,e⟩|⟨y,u,rfl,e⟩
  ·exact nomatch e
  ·injection e with e1 _
   subst e1
   cases v<;>rfl
theorem Rt(prog:Program)(w:World)(i:Int)(t:Tok):(eW prog w).is (.inl i) (.int i t)=true:=TJ i t
theorem Uw(prog:Program)(w:World)(x:Str)(t:Tok):(eW prog w).is (.inr x) (.str x t)=true:=JR x t
inductive V where
 |aB|bl (b:Bool)|int (i:Int)|str (x:Str)|gf (b:Array UInt8)|g6 (b:UInt64)|ref (a:Addr)|ty (n:String)
 deriving DecidableEq
noncomputable def RelV:V->Value->Prop
 | .aB,u=>u=Value.none
 | .bl b,u=>u=Value.bool b
 | .int i,u=>∃t,u=Value.int i t
 | .str x,u=>∃t,u=Value.str x t
 | .gf b,u=>∃t,u=Value.bytes b t
 | .g6 b,u=>∃t,u=Value.float b t
 | .ref a,u=>u=Value.ref a
 | .ty n,u=>u=Value.type n
noncomputable abbrev Vals:List V->List Value->Prop:=Paired RelV
theorem Vals.length{xs:List V}{us:List Value}(r:Vals xs us):xs.length=us.length:=Paired.length r
theorem Vals.get:∀{xs:List V} {us:List Value} {i:Nat} {x:V},Vals xs us->xs[i]?=some x->∃u,us[i]?=some u/\RelV x u
  |_,_,_,_, .nil,e=>by simp at e
  |_,_,0,_, .cons r _,e=>by simp at e;subst e;exact⟨_,rfl,r⟩
  | _, _, i + 1, x, .cons _ t, e => by
    obtain⟨u,h1,h2⟩:=Vals.get (i:=i) (x:=x) t (by simpa using e)
    exact⟨u,by simpa using h1,h2⟩
theorem Vals.set{x:V}{u:Value}(r:RelV x u):∀{xs:List V} {us:List Value} (i:Nat),Vals xs us->Vals (xs.set i x) (us.set i u)
 |_,_,_, .nil=> .nil
 |_,_,0, .cons _ t=> .cons r t
 |_,_,i+1, .cons q t=> .cons q (Vals.set r i t)
theorem Vals.append:∀{xs ys:List V} {us ws:List Value},Vals xs us->Vals ys ws->Vals (xs++ys) (us++ws)
 |_,_,_,_, .nil,s=>s
 |_,_,_,_, .cons r t,s=> .cons r (Vals.append t s)
theorem Vals.take:∀{xs:List V} {us:List Value} (n:Nat),Vals xs us->Vals (xs.take n) (us.take n)
 |_,_,0,_=> .nil
 |_,_,_+1, .nil=> .nil
 |_,_,n+1, .cons r t=> .cons r (Vals.take n t)
theorem Vals.drop:∀{xs:List V} {us:List Value} (n:Nat),Vals xs us->Vals (xs.drop n) (us.drop n)
 |_,_,0,r=>r
 |_,_,_+1, .nil=> .nil
 |_,_,n+1, .cons _ t=>Vals.drop n t
noncomputable def fh:Option V->Option Value->Prop
 |some v,some u=>RelV v u
 |none,none=>True
 |_,_=>False
noncomputable def KV{κ:Type}:List (κ×V)->List (κ×Value)->Prop:=Paired fun(p:κ×V) (q:κ×Value)=>p.1=q.1/\RelV p.2 q.2
noncomputable def kV:Key->V
 | .inl i=> .int i
 | .inr x=> .str x
inductive HO where
  |lst (xs:List V)
  |tup (xs:List V)
  |dK (kvs:List (Key×V))|dT (kvs:List (List Key×V))
  |set (S:Int->Bool) (n:Nat)
  |ins (C dx:Addr) (fs:List (Str×V))
  |own (x:Addr)
  |xd (fs:List (Str×V))
  |met (f x:Addr)
  |jy (lo hi:Int)
  |eV (o:Obj) (u:HO)
  |jP (ps:Array Value)
  |ext (φ:Heap->Prop)
noncomputable abbrev Hp:=Addr->Option HO
noncomputable def upd(H:Hp)(a:Addr)(o:HO):Hp:=fun b=>if b=a then some o else H b
theorem aY{H:Hp}{a:Addr}{o:HO}:upd H a o a=some o:=by unfold upd;rw[if_pos rfl]
theorem bf{H:Hp}{a b:Addr}{o:HO}(h:b≠a):upd H a o b=H b:=by unfold upd;rw[if_neg h]
theorem u0{H:Hp}{a:Addr}{o u:HO}:upd (upd H a o) a u=upd H a u:=by
 funext b;unfold upd;split<;>rfl
theorem fj{H:Hp}{a b:Addr}{o:HO}(h:H a=some o)(h':H b=none):a≠b:=by
 intro e;subst e;rw[h] at h';cases h'
section
variable(P:Program)(w:World)
noncomputable def cz(H:Hp)(h:Heap)(a:Addr):HO->Prop
 | .lst xs=>xs.length<=sizeLine/\∃(its:List Value) (n:Nat),Vals xs its/\h.get? a=some {cls:= .type "list",data:= .seq its.toArray n}
 | .tup xs=>xs.length<=sizeLine/\∃its:List Value,Vals xs its/\IsTup h a its.toArray
 | .dK kvs=>kvs.length<=sizeLine/\(a==sysModules)=false/\∃vs,KV kvs vs/\h.DictOf (eW P w) a vs
 | .dT kvs => kvs.length <= sizeLine /\ (a == sysModules) = false /\ ∃ xs : List (List Key × Addr × Value),
   Paired (fun(p:List Key×V) (q:List Key×Addr×Value)=>p.1=q.1/\H q.2.1=some (.tup (p.1.map kV))/\RelV p.2 q.2.2) kvs xs/\
   ∃o es ep,h.get? a=some o/\o.ExactDict/\o.data= .dict es ep/\es.toList=xs.map (entryOfKey (tupleKind (eW P w)))/\(xs.map (·.1)).Nodup
 | .set S n=>h.SetOf (intKind P w) a S n
 | .ins C dx fs => H dx = some (.own a) /\ fs.length <= 1000 /\ dx ≠ a /\ h.get? a = some (PySem.W.instObj C dx) /\
   ∃mA,h.Ns1 dx mA/\(∀f,fh (fs.lookup f) (mA f))/\PySem.Within mA (fs.map (·.1))
 | .own _=>∃o,h.get? a=some o
 | .xd fs=>∃mA,h.Ns1 a mA/\∀f,fh (fs.lookup f) (mA f)
 | .jy lo hi=>∃t u v,h.get? a=some {cls:= .type "range",data:= .fields #[.int lo t, .int hi u, .int 1 v]}
 | .eV o u=>h.get? a=some o/\cz H h a u
 | .jP ps=>h.get? a=some {cls:= .none,data:= .fields ps}
 | .met f x=>h.get? a=some (PySem.W.methodObj (.ref f) (.ref x))
 | .ext φ=>φ h/\(∃o,h.get? a=some o)/\∀h1 h2:Heap,φ h1->(∀o,h1.get? a=some o->h2.get? a=some o)->φ h2
noncomputable def cy(H:Hp)(h:Heap):Prop:=∀a o,H a=some o->cz P w H h a o
end
section
variable{P:Program}{w:World}{H H':Hp}{h h':Heap}{a:Addr}{o:HO}
theorem cz.lt(x:cz P w H h a o):a<h.objs.size:=by
 cases o with
 |lst xs=>obtain⟨_,_,_,_,e⟩:=x;exact Heap.lt_size e
 |tup xs=>obtain⟨_,_,_,p⟩:=x;exact p.lt
 |dK kvs=>obtain⟨_,_,_,_,o,_,_,e,_⟩:=x;exact Heap.lt_size e
 |dT kvs=>obtain⟨_,_,_,_,o,_,_,e,_⟩:=x;exact Heap.lt_size e
 |set S n=>obtain⟨o,_,_,_,e,_⟩:=x;exact Heap.lt_size e
 |ins C dx fs=>obtain⟨_,_,_,e,_⟩:=x;exact Heap.lt_size e
 |own y=>obtain⟨_,e⟩:=x;exact Heap.lt_size e
 |xd fs=>obtain⟨_,⟨_,_,_,e,_⟩,_⟩:=x;exact Heap.lt_size e
 |jy lo hi=>obtain⟨_,_,_,e⟩:=x;exact Heap.lt_size e
 |eV ob u=>obtain⟨e,_⟩:=x;exact Heap.lt_size e
 |jP ps=>exact Heap.lt_size (show h.get? a=some _ from x)
 |met f y=>exact Heap.lt_size (show h.get? a=some _ from x)
 |ext φ=>obtain⟨_,⟨_,e⟩,_⟩:=x;exact Heap.lt_size e
theorem Paired.z5{α β:Type}{F G:α->β->Prop}:∀{l₁:List α} {l₂:List β},Paired F l₁ l₂->(∀a b,F a b->G a b)->Paired G l₁ l₂
 |_,_, .nil,_=> .nil
 |_,_, .cons r t,f=> .cons (f _ _ r) (Paired.z5 t f)
theorem cz.stay(x:cz P w H h a o)(k:∀b u,(b=a\/H b=some (.own a))->h.get? b=some u->h'.get? b=some u)
    (ho:∀b,H b=some (.own a)->H' b=some (.own a)) (ht:∀b xs,H b=some (.tup xs)->H' b=some (.tup xs)):cz P w H' h' a o:=by
  induction o with
  |lst xs=>obtain⟨z,its,n,r,e⟩:=x;exact⟨z,its,n,r,k _ _ (.inl rfl) e⟩
  |tup xs=>obtain⟨z,its,r,ob,e,c⟩:=x;exact⟨z,its,r,ob,k _ _ (.inl rfl) e,c⟩
  |dK kvs=>obtain⟨z,y,vs,r,ob,es,ep,e,c⟩:=x;exact⟨z,y,vs,r,ob,es,ep,k _ _ (.inl rfl) e,c⟩
  | dT kvs =>
    obtain⟨z,y,xs,r,ob,es,ep,e,c⟩:=x
    exact⟨z,y,xs,Paired.z5 r fun p q z=>⟨z.1,ht _ _ z.2.1,z.2.2⟩,ob,es,ep,k _ _ (.inl rfl) e,c⟩
  |set S n=>obtain⟨ob,es,ep,t,e,c⟩:=x;exact⟨ob,es,ep,t,k _ _ (.inl rfl) e,c⟩
  | ins C dx fs =>
    obtain⟨d,z,ne,e,mA,⟨od,es,ep,e2,c⟩,r⟩:=x
    exact⟨ho _ d,z,ne,k _ _ (.inl rfl) e,mA,⟨od,es,ep,k _ _ (.inr d) e2,c⟩,r⟩
  |own y=>obtain⟨ob,e⟩:=x;exact⟨ob,k _ _ (.inl rfl) e⟩
  |xd fs=>obtain⟨mA,⟨od,es,ep,e,c⟩,r⟩:=x;exact⟨mA,⟨od,es,ep,k _ _ (.inl rfl) e,c⟩,r⟩
  |jy lo hi=>obtain⟨t,u,v,e⟩:=x;exact⟨t,u,v,k _ _ (.inl rfl) e⟩
  |eV ob u ih=>obtain⟨e,q⟩:=x;exact⟨k _ _ (.inl rfl) e,ih q⟩
  | jP ps =>
    have e:h.get? a=some {cls:= .none,data:= .fields ps}:=x
    show h'.get? a=some {cls:= .none,data:= .fields ps}
    exact k a _ (.inl rfl) e
  | met f y =>
    have e:h.get? a=some (PySem.W.methodObj (.ref f) (.ref y)):=x
    show h'.get? a=some (PySem.W.methodObj (.ref f) (.ref y))
    exact k a _ (.inl rfl) e
  |ext φ=>obtain⟨p,⟨o,e⟩,st⟩:=x;exact⟨st _ _ p fun o q=>k _ _ (.inl rfl) q,⟨o,k _ _ (.inl rfl) e⟩,st⟩
theorem cy.lt(x:cy P w H h)(e:H a=some o):a<h.objs.size:=(x a o e).lt
theorem cy.fresh(x:cy P w H h)(e:h.objs.size<=a):H a=none:=by
 cases q:H a with
 |none=>rfl
 |some u=>exact absurd (Nat.lt_of_lt_of_le (x.lt q) e) (Nat.lt_irrefl _)
theorem cy.kept(x:cy P w H h)(k:∀b u,h.get? b=some u->h'.get? b=some u):cy P w H h':=fun a o e=>
 (x a o e).stay (fun b u _ q=>k b u q) (fun _ q=>q) fun _ _ q=>q
theorem cy.laid(x:cy P w H h)(k:∀b u,h.get? b=some u->h'.get? b=some u)(hp:h.objs.size<=a)(new:cz P w (upd H a o) h' a o):cy P w (upd H a o) h':=fun b u e=>by
 have hn:=x.fresh hp
 by_cases hb:b=a
 ·subst hb;rw[aY] at e;cases e;exact new
 ·rw[bf hb] at e
  exact(x b u e).stay (fun c v _ q=>k c v q) (fun c q=>by rw[bf (fj q hn)];exact q) fun c xs q=>by rw[bf (fj q hn)];exact q
end
noncomputable def Rd(H:Hp)(a:Addr)(u:HO):Prop:=H a=some u\/∃o,H a=some (.eV o u)
theorem Rd.ok{P:Program}{w:World}{H:Hp}{h:Heap}{a:Addr}{u:HO}(r:Rd H a u)(x:cy P w H h):cz P w H h a u:=by
 rcases r with r|⟨o,r⟩
 ·exact x a u r
 ·obtain⟨_,q⟩:=x a _ r
  exact q
noncomputable def oQ:Option HO->Prop
 |some (.lst _)=>True
 |some (.dK _)=>True
 |some (.dT _)=>True
 |some (.set _ _)=>True
 |some (.ins _ _ _)=>True
 |some (.ext _)=>True
 |_=>False
section
variable{P:Program}{w:World}{H:Hp}{h h':Heap}{x e:Addr}{o':HO}
theorem cy.write(ok:cy P w H h)(mu:oQ (H x))(he:e=x\/H e=some (.own x))(k:∀b u,b≠e->h.get? b=some u->h'.get? b=some u)(kZ:∃u,h'.get? e=some u)
  (new:cz P w (upd H x o') h' x o'):cy P w (upd H x o') h':=fun b u q=>by
 have Cw:∀c y,H c=some (.own y)->c≠x:=fun c y r z=>by subst z;rw[r] at mu;exact mu
 have FT:∀c xs,H c=some (.tup xs)->c≠x:=fun c xs r z=>by subst z;rw[r] at mu;exact mu
 by_cases hb:b=x
 ·subst hb;rw[aY] at q;cases q;exact new
 ·rw[bf hb] at q
  by_cases jU:b=e
  ·have q':H b=some (.own x):=by
    rcases he with z|z
    ·exact absurd (jU.trans z) hb
    ·rw[jU];exact z
   rw[q] at q';cases q'
   obtain⟨v,hv⟩:=kZ
   exact⟨v,by rw[jU];exact hv⟩
  ·refine(ok b u q).stay (fun c v hc r=>k c v ?_ r) (fun c r=>by rw[bf (Cw c b r)];exact r) fun c xs r=>by rw[bf (FT c xs r)];exact r
   rcases hc with rfl|hc
   ·exact jU
   ·rintro rfl
    rcases he with z|z
    ·exact Cw c b hc z
    ·rw[hc] at z;cases z;exact hb rfl
end
structure Un(fs ex:List Addr)(H H':Hp)(h h':Heap):Prop where
 keep:∀b o,h.get? b=some o->H b=none->b∉fs->b∉ex->h'.get? b=some o
 slot:∀b o,h.get? b=some o->H b=none->b∈fs->b∉ex->∃sl,h'.get? b=some {o with slots:=sl}
 free:∀b o,h.get? b=some o->H b=none->b∉ex->H' b=none
 there:∀b o,h.get? b=some o->b∉ex->∃o',h'.get? b=some o'
 tups:∀b xs,H b=some (.tup xs)->H' b=some (.tup xs)
 iX:∀b o u,H b=some (.eV o u)->H' b=some (.eV o u)
 jk:∀b ps,H b=some (.jP ps)->∃more,H' b=some (.jP (ps++more))
section
variable{fs fs' ex ex':List Addr}{H H1 H2:Hp}{h h1 h2 h':Heap}{a x e:Addr}{o:HO}
theorem Un.any(u:Un fs ex H H1 h h1){b:Addr}{ob:Obj}(q:h.get? b=some ob)(n:H b=none)(hx:b∉ex):∃sl,h1.get? b=some {ob with slots:=sl}:=by
 by_cases hb:b∈fs
 ·exact u.slot b ob q n hb hx
 ·exact⟨ob.slots,u.keep b ob q n hb hx⟩
theorem Un.kept(k:∀b u,h.get? b=some u->h'.get? b=some u):Un fs ex H H h h':=
 ⟨fun b ob q _ _ _=>k b ob q,fun b ob q _ _ _=>⟨ob.slots,k b ob q⟩,fun _ _ _ n _=>n,fun b ob q _=>⟨ob,k b ob q⟩,fun _ _ q=>q,fun _ _ _ q=>q,fun _ ps q=>⟨#[],by rw[q];simp⟩⟩
theorem Un.refl:Un fs ex H H h h:=Un.kept fun _ _ q=>q
theorem Un.laid(k:∀b u,h.get? b=some u->h'.get? b=some u)(hp:h.objs.size<=a)(hn:H a=none):Un fs ex H (upd H a o) h h' where
 keep:=fun b u q _ _ _=>k b u q
 slot:=fun b u q _ _ _=>⟨u.slots,k b u q⟩
 free:=fun b u q n _=>by rw[bf (Nat.ne_of_lt (Nat.lt_of_lt_of_le (Heap.lt_size q) hp))];exact n
 there:=fun b u q _=>⟨u,k b u q⟩
 tups:=fun b xs q=>by rw[bf (fj q hn)];exact q
 iX:=fun b u xs q=>by rw[bf (fj q hn)];exact q
 jk:=fun b ps q=>⟨#[],by rw[bf (fj q hn),q];simp⟩
theorem Un.write(mu:oQ (H x))(he:e=x\/H e=some (.own x))(k:∀b u,b≠e->h.get? b=some u->h'.get? b=some u)(kZ:∃u,h'.get? e=some u):Un fs ex H (upd H x o) h h':=by
 have hx:∀b,H b=none->b≠x:=fun b n z=>by subst z;rw[n] at mu;exact mu
 have hb:∀b,H b=none->b≠e:=fun b n z=>by
  subst z
  rcases he with r|r
  ·exact hx b n r
  ·rw[n] at r;cases r
 have hm:∀b u,H b=some u->¬oQ (some u)->b≠x:=fun b u q nm z=>by subst z;rw[q] at mu;exact nm mu
 refine⟨fun b u q n _ _=>k b u (hb b n) q,fun b u q n _ _=>⟨u.slots,k b u (hb b n) q⟩,fun b u q n _=>by rw[bf (hx b n)];exact n,fun b u q _=>?_,
  fun b xs q=>by rw[bf (hm b _ q fun z=>z)];exact q,fun b u xs q=>by rw[bf (hm b _ q fun z=>z)];exact q,fun b ps q=>⟨#[],by rw[bf (hm b _ q fun z=>z),q];simp⟩⟩
 by_cases jU:b=e
 ·subst jU;exact kZ
 ·exact⟨u,k b u jU q⟩
end
noncomputable def qz(h:Heap)(H:Hp):List Addr:=(List.range h.objs.size).filter fun a=>(H a).isSome
noncomputable def i9(h:Heap)(H:Hp):Heap:=PySem.W.hideAll h (qz h H)
theorem Sh(h:Heap)(H:Hp):(i9 h H).objs.size=h.objs.size:=PySem.W.hideAll_size _ _
theorem QY{h:Heap}{H:Hp}{b:Addr}{o:Obj}(e:h.get? b=some o)(n:H b=none):(i9 h H).get? b=some o:=
 PySem.W.hideAll_get _ e fun hm=>by
  have q:(H b).isSome=true:=(List.mem_filter.mp hm).2
  rw[n] at q;simp at q
theorem R8{h:Heap}{H:Hp}{b:Addr}{o:Obj}(e:(i9 h H).get? b=some o):h.get? b=some o/\H b=none:=by
  have e':h.get? b=some o:=PySem.W.of_hideAll (qz h H) e
  refine⟨e',?_⟩
  cases q:H b with
  |none=>rfl
  | some x =>
    have hm:b∈qz h H:=List.mem_filter.mpr ⟨List.mem_range.mpr (Heap.lt_size e'),by simp[q]⟩
    have z:(i9 h H).get? b=none:=PySem.W.hideAll_none (qz h H) hm
    rw[z] at e;cases e
noncomputable def Hy(g h:Heap)(L:Addr):List (Addr×Obj):=(List.range h.objs.size).filterMap fun a=>if a=L\/(g.get? a).isSome=true then none else(h.get? a).map fun o=>(a,o)
noncomputable def rest(g h:Heap)(L d:Addr):List (Addr×Obj):=(Hy g h L).filter fun p=>decide (p.1≠d)
structure Mod(K:PySem.W.Frag)(mg:Str->Option Value)(base:Heap):Prop where
 nv:K.In base
 glob:base.Ns mainGlobals mg
 blt:∃mb,base.Ns builtinsNs mb/\∀x:Str,x≠"__name__" ->mb x=bootBuiltins x
 nolimit:base.NoLimit
structure Cx where
 prog:Program
 w:World
 K:PySem.W.Frag
 mg:Str->Option Value
 base:Heap
 A:Around
 N:List Str
 s₀:Shared
 H₀:Hp
 env:Env
 outer:List Env
 stack:List Env
 ex:List Addr
 fn:Str->Bool
 calm:Bool
 pn:List (Addr×Obj)
 xe:Value->Shared->Prop
noncomputable def frs(l:List Env):List Addr:=l.filterMap (·.frame)
noncomputable abbrev Cx.fs(X:Cx):List Addr:=frs X.outer
noncomputable def wY(sc:Scope)(x:Str):Prop:=sc.names.lookup x=some .local\/sc.names.lookup x=some .cell\/sc.names.lookup x=some .free
noncomputable def Loc(sc:Scope)(x:Str):Prop:=sc.names.lookup x=some .local\/sc.names.lookup x=some .cell
noncomputable def Look(env:Env)(h:Heap)(m:Str->Option Value)(x:Str)(u:Value):Prop:=
 (env.kindOf x=some .local/\m x=some u)\/((env.kindOf x=some .cell\/env.kindOf x=some .free)/\∃c,env.cells.lookup x=some c/\h.IsCell c (some u))
structure Cx.Ok(X:Cx):Prop where
 mod:Mod X.K X.mg X.base
 kind:X.env.scope.kind= .function
 glob:X.env.globals=mainGlobals
 blt:X.env.builtins=builtinsNs
 above:X.s₀.heap.objs.size<=X.env.locals
 inj:∀x y c,X.env.cells.lookup x=some c->X.env.cells.lookup y=some c->x=y
 has:∀x,(X.env.kindOf x=some .cell\/X.env.kindOf x=some .free)->∃c,X.env.cells.lookup x=some c
 n6:∀x c,X.fn x=true->X.env.cells.lookup x=some c->X.s₀.heap.objs.size<=c
 hd:X.calm=true->X.A.handled=none
 frames:X.A.frames=some X.stack
 stk:X.stack=X.outer\/(X.stack=X.env::X.outer/\X.env.frame=some X.env.locals)
 qU:∀b∈X.ex,b≠X.env.locals/\∀x c,X.env.cells.lookup x=some c->c≠b
 bs:∀b o,X.base.get? b=some o->X.s₀.heap.get? b=some o/\X.H₀ b=none
 jj:X.base.objs.size<=X.s₀.heap.objs.size
 om:∀b o,X.base.get? b=some o->b∉X.ex
 ou:∀b∈X.ex,b∉X.fs
 gy:X.s₀.heap.FunFrames X.base X.outer
 jY:∀b∈X.fs,X.H₀ b=none
structure Inv(X:Cx)(pins:List (Addr×Obj))(σ:List (Option V))(H:Hp)(s:Shared):Prop where
 ok:X.Ok
 os:s.os=X.s₀.os
 bare:AllBare s.gens
 base:Un X.fs X.ex X.H₀ H X.s₀.heap s.heap
 loc:∃m,s.heap.Ns X.env.locals m/\∀(i:Nat) (x:Str) (v:V),X.N[i]?=some x->σ[i]?=some (some v)->wY X.env.scope x->∃u,RelV v u/\Look X.env s.heap m x u
 cell:∀x c,X.env.cells.lookup x=some c->∃v,s.heap.IsCell c v
 free:H X.env.locals=none
 g8:∀x c,X.env.cells.lookup x=some c->H c=none
 pin:∀p∈X.pn++pins,s.heap.get? p.1=some p.2/\H p.1=none/\p.1≠X.env.locals/\p.1∉X.fs/\∀v,p.2.data≠ .cell v
 hok:cy X.prog X.w H s.heap
 len:σ.length=X.N.length
section
variable{X:Cx}{pins:List (Addr×Obj)}{σ:List (Option V)}{H H':Hp}{s:Shared}{h':Heap}
theorem Cx.Ok.Hw(ok:X.Ok){b:Addr}{o:Obj}(e:X.base.get? b=some o):b∉X.fs:=fun hb=>by
 have:=(ok.gy.mem hb).1
 rw[e] at this;cases this
theorem Inv.bs(I:Inv X pins σ H s):∀b o,X.base.get? b=some o->s.heap.get? b=some o/\H b=none:=fun b o e=>
 ⟨I.base.keep b o (I.ok.bs b o e).1 (I.ok.bs b o e).2 (I.ok.Hw e) (I.ok.om b o e),I.base.free b o (I.ok.bs b o e).1 (I.ok.bs b o e).2 (I.ok.om b o e)⟩
theorem Inv.bk(I:Inv X pins σ H s):∀b o,X.base.get? b=some o->s.heap.get? b=some o:=fun b o e=>(I.bs b o e).1
theorem Inv.mod(I:Inv X pins σ H s):Mod X.K X.mg X.base:=I.ok.mod
theorem Inv.cK(I:Inv X pins σ H s):X.K.In s.heap:=I.ok.mod.nv.keeps I.bk
theorem Inv.lt(I:Inv X pins σ H s):X.env.locals<s.heap.objs.size:=let ⟨_,hn,_⟩:=I.loc;hn.lt
theorem Inv.sz(I:Inv X pins σ H s):X.s₀.heap.objs.size<=s.heap.objs.size:=Nat.le_trans I.ok.above (Nat.le_of_lt I.lt)
theorem Inv.Ma(I:Inv X pins σ H s){a:Addr}(h:s.heap.objs.size<=a):a∉X.fs:=fun hb=>by
 obtain⟨_,o,ho,_⟩:=I.ok.gy.mem hb
 exact absurd (Nat.lt_of_lt_of_le (Heap.lt_size ho) (Nat.le_trans I.sz h)) (Nat.lt_irrefl _)
theorem Inv.jT(I:Inv X pins σ H s):∀x c,X.env.cells.lookup x=some c->c≠X.env.locals:=fun x c e z=>by
 obtain⟨v,o,ho,hd⟩:=I.cell x c e
 obtain⟨m,⟨o',es,ep,ho',hd',_⟩,_⟩:=I.loc
 rw[z,ho'] at ho;cases ho;rw[hd'] at hd;cases hd
theorem Inv.gy(I:Inv X pins σ H s):s.heap.FunFrames X.base X.outer:=by
  have all:∀(l:List Env),(∀b∈frs l,b∈X.fs)->X.s₀.heap.FunFrames X.base l->s.heap.FunFrames X.base l:=by
    intro l
    induction l with
    |nil=>intro _ _;trivial
    | cons env r ih =>
      intro hs hl
      obtain⟨hk,⟨L,o,hf,hn,ho,hd⟩,hr⟩:=hl
      have hL:L∈X.fs:=hs L (by unfold frs;rw[List.filterMap_cons,hf];exact List.mem_cons_self)
      obtain⟨sl,e⟩:=I.base.slot L o ho (I.ok.jY L hL) hL fun z=>I.ok.ou L z hL
      exact⟨hk,⟨L,_,hf,hn,e,hd⟩,ih (fun b hb=>hs b (by unfold frs;rw[List.filterMap_cons,hf];exact List.mem_cons_of_mem _ hb)) hr⟩
  exact all X.outer (fun _ hb=>hb) I.ok.gy
theorem Inv.stack(I:Inv X pins σ H s):s.heap.FunFrames X.base X.stack:=by
 rcases I.ok.stk with e|⟨e,hf⟩
 ·rw[e];exact I.gy
 ·rw[e]
  obtain⟨m,hn,_⟩:=I.loc
  refine .cons (by rw[I.ok.kind];decide) hf hn ?_ I.gy
  exact Heap.get?_none_of_le (Nat.le_trans I.ok.jj I.ok.above)
theorem Inv.t6(I:Inv X pins σ H s):∀b∈frs X.stack,b∈X.env.locals::X.fs:=fun b hb=>by
 rcases I.ok.stk with e|⟨e,hf⟩
 ·rw[e] at hb;exact List.mem_cons_of_mem _ hb
 ·rw[e] at hb
  unfold frs at hb
  rw[List.filterMap_cons,hf] at hb
  exact hb
theorem Inv.B5(I:Inv X pins σ H s):∀b∈frs X.stack,H b=none:=fun b hb=>by
 rcases List.mem_cons.mp (I.t6 b hb) with e|hb
 ·rw[e];exact I.free
 ·obtain⟨_,o,ho,_⟩:=I.ok.gy.mem hb
  exact I.base.free b o ho (I.ok.jY b hb) fun z=>I.ok.ou b z hb
theorem Inv.step{g':Array GenState}{t':Nat}{d':Drawn}{ch:List Addr}(I:Inv X pins σ H s)
  (hch:∀b∈ch,(b∈X.ex\/X.s₀.heap.objs.size<=b)/\b≠X.env.locals/\(∀x c,X.env.cells.lookup x=some c->c≠b)/\∀p∈X.pn++pins,p.1≠b)
  (keep:∀b o,b≠X.env.locals->b∉X.fs->b∉ch->s.heap.get? b=some o->H b=none->h'.get? b=some o)
  (slot:∀b o,b≠X.env.locals->b∈X.fs->b∉ch->s.heap.get? b=some o->H b=none->∃sl,h'.get? b=some {o with slots:=sl}) (free:∀b o,b∉ch->s.heap.get? b=some o->H b=none->H' b=none)
  (there:∀b o,b∉ch->s.heap.get? b=some o->∃o',h'.get? b=some o')
  (tups:∀b xs,H b=some (.tup xs)->H' b=some (.tup xs)) (iX:∀b o u,H b=some (.eV o u)->H' b=some (.eV o u)) (jk:∀b ps,H b=some (.jP ps)->∃more,H' b=some (.jP (ps++more)))
  (ns:∀m,s.heap.Ns X.env.locals m->h'.Ns X.env.locals m) (hok:cy X.prog X.w H' h') (hg:AllBare g'):
  Inv X pins σ H' {s with heap:=h',gens:=g',drawn:=d',toks:=t'}:=by
 have C5:∀b o,X.s₀.heap.get? b=some o->b≠X.env.locals:=fun b o e=>Nat.ne_of_lt (Nat.lt_of_lt_of_le (Heap.lt_size e) I.ok.above)
 have pZ:∀b o,X.s₀.heap.get? b=some o->b∉X.ex->b∉ch:=fun b o e hx hb=>by
  rcases(hch b hb).1 with z|z
  ·exact hx z
  ·exact absurd (Nat.lt_of_lt_of_le (Heap.lt_size e) z) (Nat.lt_irrefl _)
 have cellK:∀x c,X.env.cells.lookup x=some c->∀v,s.heap.IsCell c v->h'.IsCell c v:=fun x c e v ⟨o,ho,hd⟩=>by
  have nq:c∉ch:=fun z=>(hch c z).2.2.1 x c e rfl
  by_cases hc:c∈X.fs
  ·obtain⟨sl,q⟩:=slot c o (I.jT x c e) hc nq ho (I.g8 x c e)
   exact⟨_,q,hd⟩
  ·exact⟨o,keep c o (I.jT x c e) hc nq ho (I.g8 x c e),hd⟩
 refine⟨I.ok,I.os,hg,⟨fun b o e n hb hx=>?_,fun b o e n hb hx=>?_,fun b o e n hx=>?_,fun b o e hx=>?_,fun b xs e=>tups b xs (I.base.tups b xs e),fun b o xs e=>iX b o xs (I.base.iX b o xs e),fun b ps e=>?_⟩,?_,fun x c e=>?_,?_,fun x c e=>?_,fun p hp=>?_,hok,I.len⟩
 ·exact keep b o (C5 b o e) hb (pZ b o e hx) (I.base.keep b o e n hb hx) (I.base.free b o e n hx)
 ·obtain⟨sl,e1⟩:=I.base.slot b o e n hb hx
  obtain⟨OY,e2⟩:=slot b _ (C5 b o e) hb (pZ b o e hx) e1 (I.base.free b o e n hx)
  exact⟨OY,e2⟩
 ·obtain⟨o',e1⟩:=I.base.there b o e hx
  exact free b o' (pZ b o e hx) e1 (I.base.free b o e n hx)
 ·obtain⟨o',e1⟩:=I.base.there b o e hx
  exact there b o' (pZ b o e hx) e1
 ·obtain⟨m1,e1⟩:=I.base.jk b ps e
  obtain⟨m2,e2⟩:=jk b _ e1
  exact⟨m1++m2,by rw[e2,Array.append_assoc]⟩
 ·obtain⟨m,hn,hl⟩:=I.loc
  refine⟨m,ns m hn,fun i x v e1 e2 e3=>?_⟩
  obtain⟨u,r,l⟩:=hl i x v e1 e2 e3
  refine⟨u,r,?_⟩
  rcases l with l|⟨k,c,e,z⟩
  ·exact .inl l
  ·exact .inr ⟨k,c,e,cellK x c e _ z⟩
 ·obtain⟨v,z⟩:=I.cell x c e
  exact⟨v,cellK x c e v z⟩
 ·obtain⟨m,⟨o,_,_,ho,_⟩,_⟩:=I.loc
  exact free _ o (fun z=>(hch _ z).2.1 rfl) ho I.free
 ·obtain⟨v,o,ho,hd⟩:=I.cell x c e
  exact free c o (fun z=>(hch c z).2.2.1 x c e rfl) ho (I.g8 x c e)
 ·obtain⟨e,n,ne,nf,d⟩:=I.pin p hp
  have nq:p.1∉ch:=fun z=>(hch p.1 z).2.2.2 p hp rfl
  exact⟨keep p.1 p.2 ne nf nq e n,free p.1 p.2 nq e n,ne,nf,d⟩
theorem Inv.un{t':Nat}(I:Inv X pins σ H s)(u:Un X.fs [] H H' s.heap h')(hok:cy X.prog X.w H' h'):Inv X pins σ H' {s with heap:=h',toks:=t'}:=by
 obtain⟨m,⟨o,es,ep,ho,r⟩,_⟩:=id I.loc
 obtain⟨sl,hL⟩:=u.any ho I.free (by simp)
 exact I.step (g':=s.gens) (d':=s.drawn) (ch:=[]) (fun _ z=>nomatch z) (fun b o _ hb _ e n=>u.keep b o e n hb (by simp)) (fun b o _ hb _ e n=>u.slot b o e n hb (by simp)) (fun b o _ e n=>u.free b o e n (by simp)) (fun b o _ e=>u.there b o e (by simp)) u.tups u.iX u.jk (fun m' hm=>by
  obtain⟨o',es',qg,ho',r'⟩:=hm
  rw[ho] at ho';cases ho'
  exact⟨_,es',qg,hL,r'⟩) hok I.bare
theorem Inv.call{g':Array GenState}{t':Nat}{d':Drawn}{ch:List Addr}(I:Inv X pins σ H s)(u:Un (frs X.stack) ch H H' s.heap h')(hok:cy X.prog X.w H' h')(hg:AllBare g')
  (hch:∀b∈ch,(b∈X.ex\/X.s₀.heap.objs.size<=b)/\b≠X.env.locals/\(∀x c,X.env.cells.lookup x=some c->c≠b)/\∀p∈X.pn++pins,p.1≠b):
  Inv X pins σ H' {s with heap:=h',gens:=g',drawn:=d',toks:=t'}:=by
 obtain⟨m,⟨o,es,ep,ho,r⟩,_⟩:=id I.loc
 obtain⟨sl,hL⟩:=u.any ho I.free fun z=>(hch _ z).2.1 rfl
 exact I.step (ch:=ch) hch (fun b o hL hb hc e n=>u.keep b o e n (fun z=>(List.mem_cons.mp (I.t6 b z)).elim hL hb) hc) (fun b o _ _ hc e n=>u.any e n hc) (fun b o hc e n=>u.free b o e n hc) (fun b o hc e=>u.there b o e hc) u.tups u.iX u.jk (fun m' hm=>by
  obtain⟨o',es',qg,ho',r'⟩:=hm
  rw[ho] at ho';cases ho'
  exact⟨_,es',qg,hL,r'⟩) hok hg
theorem Inv.turned{t':Nat}{it:Addr}(I:Inv X pins σ H s)(k:∀b o,b≠it->s.heap.get? b=some o->h'.get? b=some o)(hn:H it=none)(hL:it≠X.env.locals)
  (h1:it∈X.ex\/X.s₀.heap.objs.size<=it) (h2:∀x c,X.env.cells.lookup x=some c->c≠it) (h3:∀p∈X.pn++pins,p.1≠it):Inv X pins σ H {s with heap:=h',toks:=t'}:=by
 have Ab:∀b u,H b=some u->b≠it:=fun b u e z=>by rw[z,hn] at e;cases e
 refine I.step (g':=s.gens) (d':=s.drawn) (ch:=[it]) (fun b hb=>?_) (fun b o _ _ hc e _=>k b o (fun z=>hc (by simp[z])) e) (fun b o _ _ hc e _=>⟨o.slots,k b o (fun z=>hc (by simp[z])) e⟩) (fun _ _ _ _ n=>n)
  (fun b o hc e=>⟨o,k b o (fun z=>hc (by simp[z])) e⟩) (fun _ _ e=>e) (fun _ _ _ e=>e) (fun b ps e=>⟨#[],by rw[e];simp⟩) (fun m hm=>?_) (fun b u e=>?_) I.bare
 ·have e:b=it:=by simpa using hb
  subst e
  exact⟨h1,hL,h2,h3⟩
 ·obtain⟨o,es,ep,ho,r⟩:=hm
  exact⟨o,es,ep,k _ o (Ne.symm hL) ho,r⟩
 ·refine(I.hok b u e).stay (fun c v hc q=>k c v ?_ q) (fun _ q=>q) fun _ _ q=>q
  rcases hc with z|z
  ·rw[z];exact Ab b u e
  ·exact Ab c _ z
theorem Inv.tok(I:Inv X pins σ H s)(t:Nat):Inv X pins σ H {s with toks:=t}:=I.un (h':=s.heap) (t':=t) Un.refl I.hok
theorem Inv.kept{t':Nat}(I:Inv X pins σ H s)(k:∀b u,s.heap.get? b=some u->h'.get? b=some u):Inv X pins σ H {s with heap:=h',toks:=t'}:=I.un (Un.kept k) (I.hok.kept k)
theorem Inv.laid{a:Addr}{o:HO}{t':Nat}(I:Inv X pins σ H s)(k:∀b u,s.heap.get? b=some u->h'.get? b=some u)(hp:s.heap.objs.size<=a)(new:cz X.prog X.w (upd H a o) h' a o):
  Inv X pins σ (upd H a o) {s with heap:=h',toks:=t'}:=I.un (Un.laid k hp (I.hok.fresh hp)) (I.hok.laid k hp new)
theorem Inv.write{x e:Addr}{o:HO}{t':Nat}(I:Inv X pins σ H s)(mu:oQ (H x))(he:e=x\/H e=some (.own x))(k:∀b u,b≠e->s.heap.get? b=some u->h'.get? b=some u)(kZ:∃u,h'.get? e=some u)
  (new:cz X.prog X.w (upd H x o) h' x o):Inv X pins σ (upd H x o) {s with heap:=h',toks:=t'}:=I.un (Un.write mu he k kZ) (I.hok.write mu he k kZ new)
theorem Inv.EX{Cs:List (Addr×Obj)}(I:Inv X pins σ H s)(h:∀p∈Cs,s.heap.get? p.1=some p.2/\H p.1=none/\p.1≠X.env.locals/\p.1∉X.fs/\∀v,p.2.data≠ .cell v):Inv X Cs σ H s:=
 ⟨I.ok,I.os,I.bare,I.base,I.loc,I.cell,I.free,I.g8,fun p hp=>(List.mem_append.mp hp).elim (fun z=>I.pin p (List.mem_append_left _ z)) (h p),I.hok,I.len⟩
theorem DN{N:List Str}(hN:N.Nodup){i j:Nat}{x:Str}(a:N[i]?=some x)(b:N[j]?=some x):i=j:=by
 obtain⟨h1,e1⟩:=List.getElem?_eq_some_iff.mp a
 obtain⟨h2,e2⟩:=List.getElem?_eq_some_iff.mp b
 exact(List.getElem_inj hN).mp (e1.trans e2.symm)
theorem zW{M:Model}{A:Around}{E:Value->Shared->Prop}{i:Nat}{x:Str}{v:V}{u:Value}{Q:Unit->Shared->Prop}(I:Inv X pins σ H s)(hN:X.N.Nodup)(hi:X.N[i]?=some x)(hx:Loc X.env.scope x)(r:RelV v u)
  (h:∀s',Inv X pins (σ.set i (some v)) H s'->(∃a,Heap.SameBut a s.heap s'.heap/\(a=X.env.locals\/X.env.cells.lookup x=some a))->Q () s') (hf:X.fn x=true\/X.env.scope.names.lookup x=some .local:=by first|exact .inl rfl|exact .inr rfl|assumption):wpAny M A (storeName X.env x u) Q E s:=by
 obtain⟨m,hn,hl⟩:=id I.loc
 have hcls:(X.env.scope.kind== .class||(X.env.scope.kind== .module && X.env.locals !=X.env.globals))=false:=by rw[I.ok.kind];rfl
 have Ek:i<σ.length:=by rw[I.len];exact(List.getElem?_eq_some_iff.mp hi).1
 have jT:=I.jT
 have tracked:∀{a:Addr} {h':Heap},(∃o,s.heap.get? a=some o/\H a=none)->Heap.SameBut a s.heap h'->cy X.prog X.w H h':=fun{a h'} ha hs b ob e=>by
  obtain⟨_,_,hfree⟩:=ha
  refine(I.hok b ob e).stay (fun c w' hc q=>(hs.2 c ?_).trans q) (fun _ q=>q) fun _ _ q=>q
  rintro rfl
  rcases hc with rfl|hc
  ·rw[hfree] at e;cases e
  ·rw[hfree] at hc;cases hc
 rcases hx with hk|hk
 ·refine wpAny_storeName_local hk hn (fun h' hn' hs=>?_) hcls
  obtain⟨oL,_,_,G8,_⟩:=id hn
  refine h _ ⟨I.ok,I.os,I.bare,⟨fun b o e n hb hx=>?_,fun b o e n hb hx=>?_,I.base.free,fun b o e hx=>?_,I.base.tups,I.base.iX,I.base.jk⟩,⟨_,hn',fun j y v' e1 e2 e3=>?_⟩,fun y c e=>?_,I.free,I.g8,fun p hp=>?_,tracked ⟨oL,G8,I.free⟩ hs,by simpa using I.len⟩ ⟨_,hs, .inl rfl⟩
  ·exact(hs.2 b (Nat.ne_of_lt (Nat.lt_of_lt_of_le (Heap.lt_size e) I.ok.above))).trans (I.base.keep b o e n hb hx)
  ·obtain⟨sl,e1⟩:=I.base.slot b o e n hb hx
   exact⟨sl,(hs.2 b (Nat.ne_of_lt (Nat.lt_of_lt_of_le (Heap.lt_size e) I.ok.above))).trans e1⟩
  ·obtain⟨o',e1⟩:=I.base.there b o e hx
   exact⟨o',(hs.2 b (Nat.ne_of_lt (Nat.lt_of_lt_of_le (Heap.lt_size e) I.ok.above))).trans e1⟩
  ·by_cases hj:j=i
   ·subst hj
    rw[hi] at e1;cases e1
    rw[List.getElem?_set_self Ek] at e2
    cases e2
    exact⟨u,r, .inl ⟨hk,by simp⟩⟩
   ·rw[List.getElem?_set_ne (Ne.symm hj)] at e2
    obtain⟨u',r',q⟩:=hl j y v' e1 e2 e3
    refine⟨u',r',?_⟩
    rcases q with ⟨k,e⟩|⟨k,c,e,z⟩
    ·refine .inl ⟨k,?_⟩
     have:y≠x:=fun e=>hj (DN hN e1 (e▸hi))
     simp[this,e]
    ·exact .inr ⟨k,c,e,z.sameBut hs (jT y c e)⟩
  ·obtain⟨w',z⟩:=I.cell y c e
   exact⟨w',z.sameBut hs (jT y c e)⟩
  ·obtain⟨e,n,ne,nf,d⟩:=I.pin p hp
   exact⟨(hs.2 p.1 ne).trans e,n,ne,nf,d⟩
 ·have hfn:X.fn x=true:=by
   rcases hf with z|z
   ·exact z
   ·rw[z] at hk;cases hk
  obtain⟨c,hc⟩:=I.ok.has x (.inl hk)
  obtain⟨w',z⟩:=I.cell x c hc
  refine wpAny_storeName_cell I.ok.kind hk hc z (fun h' hc' hs=>?_)
  obtain⟨oc,hoc,Ox⟩:=id z
  refine h {s with heap:=h'} ⟨I.ok,I.os,I.bare,⟨fun b o e n hb hx=>?_,fun b o e n hb hx=>?_,I.base.free,fun b o e hx=>?_,I.base.tups,I.base.iX,I.base.jk⟩,⟨m,hn.sameBut hs (Ne.symm (jT x c hc)),fun j y v' e1 e2 e3=>?_⟩,fun y c' e=>?_,I.free,I.g8,fun p hp=>?_,tracked ⟨oc,hoc,I.g8 x c hc⟩ hs,by simpa using I.len⟩ ⟨c,hs, .inr hc⟩
  ·exact(hs.2 b (Nat.ne_of_lt (Nat.lt_of_lt_of_le (Heap.lt_size e) (I.ok.n6 x c hfn hc)))).trans (I.base.keep b o e n hb hx)
  ·obtain⟨sl,e1⟩:=I.base.slot b o e n hb hx
   exact⟨sl,(hs.2 b (Nat.ne_of_lt (Nat.lt_of_lt_of_le (Heap.lt_size e) (I.ok.n6 x c hfn hc)))).trans e1⟩
  ·obtain⟨o',e1⟩:=I.base.there b o e hx
   exact⟨o',(hs.2 b (Nat.ne_of_lt (Nat.lt_of_lt_of_le (Heap.lt_size e) (I.ok.n6 x c hfn hc)))).trans e1⟩
  ·by_cases hj:j=i
   ·subst hj
    rw[hi] at e1;cases e1
    rw[List.getElem?_set_self Ek] at e2
    cases e2
    exact⟨u,r, .inr ⟨.inl hk,c,hc,hc'⟩⟩
   ·rw[List.getElem?_set_ne (Ne.symm hj)] at e2
    obtain⟨u',r',q⟩:=hl j y v' e1 e2 e3
    refine⟨u',r',?_⟩
    rcases q with q|⟨k,c',e,z'⟩
    ·exact .inl q
    ·refine .inr ⟨k,c',e,z'.sameBut hs ?_⟩
     rintro rfl
     exact hj (DN hN e1 (I.ok.inj _ _ _ e hc▸hi))
  ·by_cases hcc:c'=c
   ·subst hcc;exact⟨_,hc'⟩
   ·obtain⟨w2,z2⟩:=I.cell y c' e
    exact⟨w2,z2.sameBut hs hcc⟩
  ·obtain⟨e,n,ne,nf,d⟩:=I.pin p hp
   refine⟨(hs.2 p.1 ?_).trans e,n,ne,nf,d⟩
   intro q
   rw[q,hoc] at e
   have q':oc=p.2:=Option.some.inj e
   exact d w' (by rw[<-q'];exact Ox)
theorem DJ{M:Model}{A:Around}{E:Value->Shared->Prop}{i:Nat}{x:Str}{v:V}{u:Value}{Q:Unit->Shared->Prop}(I:Inv X pins σ H s)(hN:X.N.Nodup)(hi:X.N[i]?=some x)(hx:Loc X.env.scope x)(r:RelV v u)
  (h:∀s',Inv X pins (σ.set i (some v)) H s'->Q () s') (hf:X.fn x=true\/X.env.scope.names.lookup x=some .local:=by first|exact .inl rfl|exact .inr rfl|assumption):wpAny M A (storeName X.env x u) Q E s:=
 zW I hN hi hx r (fun s' I' _=>h s' I') hf
theorem Inv.LU{s':Shared}{ch:List Addr}(I:Inv X pins σ H s)(ho:s'.os=s.os)(u:Un (frs X.stack) ch H H' s.heap s'.heap)(hok:cy X.prog X.w H' s'.heap)(hg:AllBare s'.gens)
  (hch:∀b∈ch,(b∈X.ex\/X.s₀.heap.objs.size<=b)/\b≠X.env.locals/\(∀x c,X.env.cells.lookup x=some c->c≠b)/\∀p∈X.pn++pins,p.1≠b):Inv X pins σ H' s':=by
 obtain⟨h',g',d',t',o'⟩:=s'
 have e:o'=s.os:=ho
 subst e
 exact I.call (g':=g') (t':=t') (d':=d') u hok hg hch
end
noncomputable abbrev XK:=Value->Option Addr->Hp->Prop
noncomputable abbrev St:=List (Option V)
noncomputable abbrev VK:=V->Hp->Prop
noncomputable abbrev TE:=St->Hp->VK->Prop
noncomputable abbrev TT:=St->Hp->(Bool->Hp->Prop)->Prop
noncomputable abbrev TA:=St->Hp->(List V->Hp->Prop)->Prop
structure Ends where
 nx:St->Hp->Prop
 rt:VK
 bk:St->Hp->Prop:=fun _ _=>False
 ct:St->Hp->Prop:=fun _ _=>False
noncomputable abbrev TS:=Ends->St->Hp->Prop
noncomputable def EP(X:Cx)(pins:List (Addr×Obj))(σ:St)(Q:VK)(u:Value)(s':Shared):Prop:=∃v H',Inv X pins σ H' s'/\RelV v u/\Q v H'
noncomputable def TP(X:Cx)(pins:List (Addr×Obj))(σ:St)(Q:Bool->Hp->Prop)(b:Bool)(s':Shared):Prop:=∃H',Inv X pins σ H' s'/\Q b H'
noncomputable def AP(X:Cx)(pins:List (Addr×Obj))(σ:St)(Q:List V->Hp->Prop)(us:List Value)(s':Shared):Prop:=∃vs H',Inv X pins σ H' s'/\Vals vs us/\Q vs H'
noncomputable def SP(X:Cx)(pins:List (Addr×Obj))(D:Ends)(f:Flow)(s':Shared):Prop:=
 match f with
 | .next=>∃σ' H',Inv X pins σ' H' s'/\D.nx σ' H'
 | .brk=>∃σ' H',Inv X pins σ' H' s'/\D.bk σ' H'
 | .cont=>∃σ' H',Inv X pins σ' H' s'/\D.ct σ' H'
 | .ret u=>∃v σ' H',Inv X pins σ' H' s'/\RelV v u/\D.rt v H'
noncomputable def PE(X:Cx)(e:Expr)(t:TE):Prop:=
 ∀(pins:List (Addr×Obj)) (s:Shared) (σ:St) (H:Hp) (Q:VK),Inv X pins σ H s->t σ H Q->wpAny (model X.prog X.w) X.A (eval e X.env) (EP X pins σ Q) X.xe s
noncomputable def PT(X:Cx)(e:Expr)(t:TT):Prop:=
 ∀(pins:List (Addr×Obj)) (s:Shared) (σ:St) (H:Hp) (Q:Bool->Hp->Prop),Inv X pins σ H s->t σ H Q->wpAny (model X.prog X.w) X.A (isTrue e X.env (eval e X.env)) (TP X pins σ Q) X.xe s
noncomputable def PW(X:Cx)(e:Expr)(t:TT):Prop:=
 ∀(whole:Sem Value) (pins:List (Addr×Obj)) (s:Shared) (σ:St) (H:Hp) (Q:Bool->Hp->Prop),Inv X pins σ H s->t σ H Q->wpAny (model X.prog X.w) X.A (isTrue e X.env whole) (TP X pins σ Q) X.xe s
theorem PW.pt{X:Cx}{e:Expr}{t:TT}(h:PW X e t):PT X e t:=h _
noncomputable def PA(X:Cx)(es:List Expr)(t:TA):Prop:=
 ∀(pos:Pos) (pins:List (Addr×Obj)) (s:Shared) (σ:St) (H:Hp) (Q:List V->Hp->Prop),Inv X pins σ H s->t σ H Q->wpAny (model X.prog X.w) X.A (spliced (backTo pos (starEach es X.env))) (AP X pins σ Q) X.xe s
noncomputable def PS(X:Cx)(st:Stmt)(t:TS):Prop:=
 ∀(pins:List (Addr×Obj)) (s:Shared) (σ:St) (H:Hp) (D:Ends),Inv X pins σ H s->t D σ H->wpAny (model X.prog X.w) X.A (exec st X.env) (SP X pins D) X.xe s
noncomputable def gp(X:Cx)(st:List Stmt)(t:TS):Prop:=
 ∀(pins:List (Addr×Obj)) (s:Shared) (σ:St) (H:Hp) (D:Ends),Inv X pins σ H s->t D σ H->wpAny (model X.prog X.w) X.A (execs st X.env) (SP X pins D) X.xe s
theorem aG{α:Type}{t:Sem α}{Q Q':α->Shared->Prop}{M:Model}{A:Around}{E:Value->Shared->Prop}{s:Shared}(h:wpAny M A t Q E s)(hQ:∀a s,Q a s->Q' a s):wpAny M A t Q' E s:=wpAny_mono h hQ fun _ _ x=>x
section
variable{X:Cx}
theorem bin{a b:Expr}{ta tb:TE}(ha:PE X a ta)(hb:PE X b tb){pins:List (Addr×Obj)}{s:Shared}{σ:St}{H:Hp}{R:V->V->Hp->Prop}(I:Inv X pins σ H s)(h:ta σ H fun x H1=>tb σ H1 fun y H2=>R x y H2)
  {α:Type} {Q:α->Shared->Prop} {f:Value->Value->Sem α}
  (hf:∀v u s2 x y H2,Inv X pins σ H2 s2->RelV x v->RelV y u->R x y H2->wpAny (model X.prog X.w) X.A (f v u) Q X.xe s2):
  wpAny (model X.prog X.w) X.A (eval a X.env) (fun v s₁=>wpAny (model X.prog X.w) X.A (eval b X.env) (fun u s₂=>wpAny (model X.prog X.w) X.A (f v u) Q X.xe s₂) X.xe s₁) X.xe s:=by
 refine aG (ha pins s σ H _ I h) fun v s1 ⟨x,H1,I1,r1,q1⟩=>?_
 refine aG (hb pins s1 σ H1 _ I1 q1) fun u s2 ⟨y,H2,I2,r2,q2⟩=>?_
 exact hf v u s2 x y H2 I2 r1 r2 q2
noncomputable def aZ(i:Nat):TE:=fun σ H Q=>∃v,σ[i]?=some (some v)/\Q v H
noncomputable def tC(v:V):TE:=fun _ H Q=>Q v H
theorem KC{i:Nat}{x:Str}{pos:Pos}(hN:X.N[i]?=some x)(hv:wY X.env.scope x)(hd:(x==("__debug__":Str))=false:=by decide)(hcd:(x==("__classdict__":Str))=false:=by decide):PE X (.Name x pos) (aZ i):=by
 intro pins s σ H Q I h
 obtain⟨v,e,h⟩:=h
 obtain⟨m,hn,hl⟩:=I.loc
 obtain⟨u,r,l⟩:=hl i x v hN e hv
 have fin:EP X pins σ Q u s:=⟨v,H,I,r,h⟩
 rcases l with ⟨hk,hm⟩|⟨hk,c,hc,hcell⟩
 ·exact wpAny_Name (wpAny_loadName_local I.ok.kind hk hn hm fin) hd
 ·rcases hk with hk|hk
  ·exact wpAny_Name (wpAny_loadName_cell I.ok.kind hk hc hcell fin) hd
  ·exact wpAny_Name (wpAny_loadName_free I.ok.kind hk hc hcell fin hcd) hd
theorem aj{i j pos}:PE X (.Constant (.int i) j pos) (tC (.int i)):=fun _ _ _ H _ I h=>wpAny_Constant_int ⟨.int i,H,I.tok _,⟨_,rfl⟩,h⟩
theorem gG{b j pos}:PE X (.Constant (.bool b) j pos) (tC (.bl b)):=fun _ _ _ H _ I h=>Constant_bool ⟨.bl b,H,I,rfl,h⟩
theorem eU{j pos}:PE X (.Constant .none j pos) (tC .aB):=fun _ _ _ H _ I h=>Constant_none ⟨.aB,H,I,rfl,h⟩
noncomputable def Gl(X:Cx)(x:Str):Prop:=X.env.kindOf x=some .globalImplicit
theorem BD{E:Value->Shared->Prop}{pins:List (Addr×Obj)}{s:Shared}{σ:St}{H:Hp}{x:Str}{u:Value}{pos:Pos}{Q:Value->Shared->Prop}(I:Inv X pins σ H s)(hg:Gl X x)(hm:X.mg x=some u)(h:Q u s)
  (hd:(x==("__debug__":Str))=false:=by decide):wpAny (model X.prog X.w) X.A (eval (.Name x pos) X.env) Q E s:=
 Calls.Name_function_global I.ok.kind hg (Calls.loadGlobal_global (by rw[I.ok.glob];exact I.mod.glob.keeps I.bk) hm h) hd
theorem nP{E:Value->Shared->Prop}{pins:List (Addr×Obj)}{s:Shared}{σ:St}{H:Hp}{x:Str}{u:Value}{pos:Pos}{Q:Value->Shared->Prop}(I:Inv X pins σ H s)(hg:Gl X x)(hm:X.mg x=none)(hv:bootBuiltins x=some u)(h:Q u s)
  (hn:x≠"__name__":=by decide) (hd:(x==("__debug__":Str))=false:=by decide):wpAny (model X.prog X.w) X.A (eval (.Name x pos) X.env) Q E s:=by
 obtain⟨mb,h1,h2⟩:=I.mod.blt
 exact Calls.Name_function_global I.ok.kind hg (Calls.loadGlobal_builtin (by rw[I.ok.glob];exact I.mod.glob.keeps I.bk) hm (by rw[I.ok.blt];exact h1.keeps I.bk) ((h2 x hn).trans hv) h) hd
theorem pA{x:Str}{v:V}{u:Value}{pos:Pos}(hg:Gl X x)(hm:X.mg x=none)(hv:bootBuiltins x=some u)(r:RelV v u)(hn:x≠"__name__":=by decide)(hd:(x==("__debug__":Str))=false:=by decide):PE X (.Name x pos) (tC v):=
 fun _ _ _ H _ I h=>nP I hg hm hv ⟨v,H,I,r,h⟩ hn hd
variable{a b:Expr}{ta tb:TE}{pos:Pos}
noncomputable def PC(X:Cx)(op:CmpOp)(a b:Expr)(t:TE):Prop:=
 ∀(pins:List (Addr×Obj)) (s:Shared) (σ:St) (H:Hp) (Q:VK),Inv X pins σ H s->t σ H Q->
  wpAny (model X.prog X.w) X.A (eval a X.env) (fun v s₁=>wpAny (model X.prog X.w) X.A (eval b X.env) (fun u s₂=>wpAny (model X.prog X.w) X.A (compareOp op v u) (EP X pins σ Q) X.xe s₂) X.xe s₁) X.xe s
variable{tA qu:TT}{rest:List Expr}
noncomputable def vR(t u:TT):TT:=fun σ H Q=>t σ H fun c H1=>if c=true then u σ H1 Q else Q false H1
noncomputable def zT(t u:TT):TT:=fun σ H Q=>t σ H fun c H1=>if c=true then Q true H1 else u σ H1 Q
noncomputable def Ca(t:TT):TT:=fun σ H Q=>t σ H fun c H1=>Q (!c) H1
theorem gH(ha:PT X a tA):PW X (.BoolOp .And [a] pos) tA:=by
 intro wh pins s σ H Q I h
 refine isTrue_and (aG (ha pins s σ H Q I h) fun c s1 e=>?_)
 cases c with
 |true=>exact isTrue_and_nil e
 |false=>exact e
theorem zd(ha:PT X a tA):PW X (.BoolOp .Or [a] pos) tA:=by
 intro wh pins s σ H Q I h
 refine isTrue_or (aG (ha pins s σ H Q I h) fun c s1 e=>?_)
 cases c with
 |false=>exact isTrue_or_nil e
 |true=>exact e
theorem gk(ha:PT X a tA)(hb:PW X (.BoolOp .And (b::rest) pos) qu):PW X (.BoolOp .And (a::b::rest) pos) (vR tA qu):=by
 intro wh pins s σ H Q I h
 refine isTrue_and (aG (ha pins s σ H _ I h) fun c s1 ⟨H1,I1,q1⟩=>?_)
 cases c with
 |true=>exact hb wh pins s1 σ H1 Q I1 q1
 |false=>exact⟨H1,I1,q1⟩
theorem qf(ha:PT X a tA)(hb:PW X (.BoolOp .Or (b::rest) pos) qu):PW X (.BoolOp .Or (a::b::rest) pos) (zT tA qu):=by
 intro wh pins s σ H Q I h
 refine isTrue_or (aG (ha pins s σ H _ I h) fun c s1 ⟨H1,I1,q1⟩=>?_)
 cases c with
 |true=>exact⟨H1,I1,q1⟩
 |false=>exact hb wh pins s1 σ H1 Q I1 q1
theorem pC(ha:PT X a tA):PT X (.UnaryOp .Not a pos) (Ca tA):=by
 intro pins s σ H Q I h
 exact isTrue_not (ha pins s σ H (fun c H1=>Q (!c) H1) I h)
noncomputable def Cz(ta tb:TE):TE:=fun σ H Q=>ta σ H fun x H1=>∃c,x= .bl c/\if c=true then tb σ H1 Q else Q (.bl false) H1
noncomputable def DW(ta:TE):TE:=fun σ H Q=>ta σ H fun x H1=>∃c,x= .bl c/\Q (.bl (!c)) H1
theorem Mq{op}{t:TE}(h:PE X a t):PE X (.BoolOp op [a] pos) t:=fun pins s σ H Q I hw=>BoolOp_one (h pins s σ H Q I hw)
theorem QV(ha:PE X a ta)(hb:PE X (.BoolOp .And (b::rest) pos) tb):PE X (.BoolOp .And (a::b::rest) pos) (Cz ta tb):=by
 intro pins s σ H Q I h
 refine BoolOp_and (aG (ha pins s σ H _ I h) fun v s1 ⟨x,H1,I1,r1,q1⟩=>?_)
 obtain⟨c,rfl,q1⟩:=q1
 cases r1
 refine wpAny_truthy_bool ?_
 cases c with
 |true=>exact hb pins s1 σ H1 Q I1 q1
 |false=>exact⟨.bl false,H1,I1,rfl,q1⟩
theorem OL(ha:PE X a ta):PE X (.UnaryOp .Not a pos) (DW ta):=by
 intro pins s σ H Q I h
 refine UnaryOp_ (aG (ha pins s σ H _ I h) fun v s1 ⟨x,H1,I1,r1,q1⟩=>?_)
 obtain⟨c,rfl,q1⟩:=q1
 cases r1
 exact not_of (wpAny_truthy_bool ⟨.bl (!c),H1,I1,rfl,q1⟩)
noncomputable def vj(t:TT)(ta tb:TE):TE:=fun σ H Q=>t σ H fun c H1=>if c=true then ta σ H1 Q else tb σ H1 Q
theorem rJ{c:Expr}(hc:PT X c tA)(ha:PE X a ta)(hb:PE X b tb):PE X (.IfExp c a b pos) (vj tA ta tb):=by
 intro pins s σ H Q I h
 refine wpAny_IfExp (aG (hc pins s σ H _ I h) fun d s1 ⟨H1,I1,q1⟩=>?_)
 cases d with
 |true=>exact ha pins s1 σ H1 Q I1 q1
 |false=>exact hb pins s1 σ H1 Q I1 q1
end
noncomputable def aR(K:PySem.W.Frag)(H:Hp)(a:Addr)(xs:List V):Prop:=
 Rd H a (.lst xs)\/
  ∃(o:Obj) (its:Array Value) (n:Nat),K.lookup a=some o/\o.cls= .type "list" /\o.dict=none/\o.data= .seq its n/\its.size<=sizeLine/\Vals xs its.toList
noncomputable def d7(K:PySem.W.Frag)(H:Hp)(a:Addr)(xs:List V):Prop:=
 Rd H a (.tup xs)\/
  ∃(o:Obj) (its:Array Value) (n:Nat),K.lookup a=some o/\o.cls= .type "tuple" /\o.data= .seq its n/\its.size<=sizeLine/\Vals xs its.toList
noncomputable def G2:Value->Option V
 | .none=>some .aB
 | .bool b=>some (.bl b)
 | .int i _=>some (.int i)
 | .str x _=>some (.str x)
 | .bytes b _=>some (.gf b)
 | .float b _=>some (.g6 b)
 | .ref a=>some (.ref a)
 | .type n=>some (.ty n)
 |_=>none
theorem RelV.abs{x:V}{u:Value}(r:RelV x u):G2 u=some x:=by
 cases x with
 |aB=>cases r;rfl
 |bl _=>cases r;rfl
 |int _=>obtain⟨t,rfl⟩:=r;rfl
 |str _=>obtain⟨t,rfl⟩:=r;rfl
 |gf _=>obtain⟨t,rfl⟩:=r;rfl
 |g6 _=>obtain⟨t,rfl⟩:=r;rfl
 |ref _=>cases r;rfl
 |ty _=>cases r;rfl
theorem RelV.inj{x y:V}{u:Value}(r:RelV x u)(q:RelV y u):x=y:=Option.some.inj (r.abs.symm.trans q.abs)
theorem Vals.inj{xs ys:List V}{us:List Value}(h:Vals xs us)(k:Vals ys us):xs=ys:=by
 induction h generalizing ys with
 |nil=>cases k;rfl
 |cons r t ih=>cases k with|cons r' t'=>rw[r.inj r',ih t']
section
variable{X:Cx}{pins:List (Addr×Obj)}{σ:St}{H:Hp}{s:Shared}{a:Addr}{xs ys:List V}
theorem aR.of{K:PySem.W.Frag}(h:H a=some (.lst xs)):aR K H a xs:= .inl (.inl h)
theorem d7.of{K:PySem.W.Frag}(h:H a=some (.tup xs)):d7 K H a xs:= .inl (.inl h)
theorem Inv.list(I:Inv X pins σ H s)(h:aR X.K H a xs):∃its:List Value,Vals xs its/\PlainL s.heap a its.toArray/\xs.length<=sizeLine:=by
 rcases h with h|⟨o,its,n,hk,hc,hd,hs,hz,r⟩
 ·obtain⟨z,its,n,r,e⟩:=h.ok I.hok
  exact⟨its,r,⟨_,n,e,rfl,rfl,rfl⟩,z⟩
 ·refine⟨its.toList,r,⟨o,n,I.cK a o hk,hc,hd,by simpa using hs⟩,?_⟩
  have e:=r.length
  simp only[Array.length_toList] at e
  walk_at "o"
theorem Inv.tuple(I:Inv X pins σ H s)(h:d7 X.K H a xs):∃its:List Value,Vals xs its/\IsTup s.heap a its.toArray/\xs.length<=sizeLine:=by
 rcases h with h|⟨o,its,n,hk,hc,hs,hz,r⟩
 ·obtain⟨z,its,r,p⟩:=h.ok I.hok
  exact⟨its,r,p,z⟩
 ·refine⟨its.toList,r,⟨o,I.cK a o hk,hc,n,by simpa using hs⟩,?_⟩
  have e:=r.length
  simp only[Array.length_toList] at e
  walk_at "o"
theorem Inv.Hg(I:Inv X pins σ H s)(h:aR X.K H a xs)(h':aR X.K H a ys):xs=ys:=by
 obtain⟨its,r,⟨o,n,e,_,_,d⟩,_⟩:=I.list h
 obtain⟨its',r',⟨o',n',e',_,_,d'⟩,_⟩:=I.list h'
 rw[e] at e';cases e'
 rw[d] at d'
 injection d' with d1 _
 have:its=its':=by simpa using congrArg Array.toList d1
 subst this
 exact r.inj r'
end
noncomputable abbrev Cx.iN(X:Cx)(E:Value->Shared->Prop):Cx:={X with xe:=E}
noncomputable abbrev Cx.rG(X:Cx):Cx:=X.iN fun _ _=>False
theorem Cx.Ok.iN{X:Cx}(ok:X.Ok)(E:Value->Shared->Prop):(X.iN E).Ok:=
 ⟨ok.mod,ok.kind,ok.glob,ok.blt,ok.above,ok.inj,ok.has,ok.n6,ok.hd,ok.frames,ok.stk,ok.qU,ok.bs,ok.jj,ok.om,ok.ou,ok.gy,ok.jY⟩
theorem Cx.Ok.jr{X:Cx}{E:Value->Shared->Prop}(ok:(X.iN E).Ok):X.Ok:=
 ⟨ok.mod,ok.kind,ok.glob,ok.blt,ok.above,ok.inj,ok.has,ok.n6,ok.hd,ok.frames,ok.stk,ok.qU,ok.bs,ok.jj,ok.om,ok.ou,ok.gy,ok.jY⟩
section
variable{X:Cx}{pins:List (Addr×Obj)}{σ:St}{H:Hp}{s:Shared}{E:Value->Shared->Prop}
theorem Inv.iN(I:Inv X pins σ H s)(E:Value->Shared->Prop):Inv (X.iN E) pins σ H s:=⟨I.ok.iN E,I.os,I.bare,I.base,I.loc,I.cell,I.free,I.g8,I.pin,I.hok,I.len⟩
theorem Inv.jr(I:Inv (X.iN E) pins σ H s):Inv X pins σ H s:=⟨I.ok.jr,I.os,I.bare,I.base,I.loc,I.cell,I.free,I.g8,I.pin,I.hok,I.len⟩
theorem SP.jr{D:Ends}{f:Flow}{s':Shared}(h:SP (X.iN E) pins D f s'):SP X pins D f s':=by
 cases f with
 |next=>obtain⟨σ',H',I,q⟩:=h;exact⟨σ',H',I.jr,q⟩
 |brk=>obtain⟨σ',H',I,q⟩:=h;exact⟨σ',H',I.jr,q⟩
 |cont=>obtain⟨σ',H',I,q⟩:=h;exact⟨σ',H',I.jr,q⟩
 |ret u=>obtain⟨v,σ',H',I,r,q⟩:=h;exact⟨v,σ',H',I.jr,r,q⟩
theorem gp.rG{st:List Stmt}{t:TS}(h:gp X.rG st t):gp X st t:=fun pins s σ H D I hw=>
 wpAny_mono (h pins s σ H D (I.iN _) hw) (fun _ _ q=>q.jr) fun _ _ z=>False.elim z
end
section
variable{X:Cx}{st:Stmt}{rest:List Stmt}{t u:TS}{e:Expr}{te:TE}{pos:Pos}
noncomputable def v7:TS:=fun D σ H=>D.nx σ H
noncomputable def iW(t u:TS):TS:=fun D σ H=>t {D with nx:=u D} σ H
theorem cV:gp X [] v7:=fun _ _ σ H _ I h=>wpAny_execs_nil ⟨σ,H,I,h⟩
theorem az(h1:PS X st t)(h2:gp X rest u):gp X (st::rest) (iW t u):=by
  intro pins s σ H D I h
  refine wpAny_execs_cons (aG (h1 pins s σ H {D with nx:=u D} I h) fun f s1 q=>?_)
  cases f with
  | next =>
    obtain⟨σ',H',I',q⟩:=q
    exact h2 pins s1 σ' H' D I' q
  |ret v=>exact q
  |brk=>exact q
  |cont=>exact q
theorem aE(h1:PS X st t):gp X [st] t:=by
 intro pins s σ H D I h
 refine wpAny_execs_cons (aG (h1 pins s σ H D I h) fun f s1 q=>?_)
 cases f with
 |next=>exact wpAny_execs_nil q
 |ret v=>exact q
 |brk=>exact q
 |cont=>exact q
noncomputable def Q7:TS:=fun D σ H=>D.bk σ H
noncomputable def MJ:TS:=fun D σ H=>D.ct σ H
theorem Inv.quiet{pins:List (Addr×Obj)}{σ:St}{H:Hp}{s:Shared}(I:Inv X pins σ H s):interactive X.env=false:=by simp[interactive,I.ok.kind]
noncomputable def wM(te:TE):TS:=fun D σ H=>te σ H fun _ H1=>D.nx σ H1
theorem uW(he:PE X e te)(hs:swapsWith e none pos.line X.env=pure false:=by rfl):PS X (.Expr e pos) (wM te):=by
 intro pins s σ H D I h
 exact wpAny_Expr_any (aG (he pins s σ H _ I h) fun v s1 ⟨x,H1,I1,r1,q1⟩=>⟨σ,H1,I1,q1⟩) I.quiet hs
noncomputable def lX(te:TE):TS:=fun D σ H=>te σ H D.rt
theorem aU(he:PE X e te):PS X (.Return (some e) pos) (lX te):=by
 intro pins s σ H D I h
 exact wpAny_Return_some (aG (he pins s σ H _ I h) fun v s1 ⟨x,H1,I1,r1,q1⟩=>⟨x,σ,H1,I1,r1,q1⟩)
noncomputable def nE(c:TT)(t u:TS):TS:=fun D σ H=>c σ H fun b H1=>if b=true then t D σ H1 else u D σ H1
theorem cP{c:Expr}{a b:List Stmt}{tc:TT}(hc:PT X c tc)(ha:gp X a t)(hb:gp X b u):PS X (.If c a b pos) (nE tc t u):=by
 intro pins s σ H D I h
 refine wpAny_If (aG (hc pins s σ H _ I h) fun d s1 ⟨H1,I1,q1⟩=>?_)
 cases d with
 |true=>exact ha pins s1 σ H1 D I1 q1
 |false=>exact hb pins s1 σ H1 D I1 q1
end
noncomputable abbrev TG:=V->St->Hp->(St->Hp->Prop)->Prop
noncomputable abbrev fM:=List V->St->Hp->(St->Hp->Prop)->Prop
noncomputable def PG(X:Cx)(target:Expr)(t:TG):Prop:=
 ∀(pins:List (Addr×Obj)) (s:Shared) (σ:St) (H:Hp) (v:V) (u:Value) (Q:St->Hp->Prop),Inv X pins σ H s->RelV v u->t v σ H Q->
  wpAny (model X.prog X.w) X.A (assign target X.env u) (fun _ s'=>∃σ' H',Inv X pins σ' H' s'/\Q σ' H') X.xe s
noncomputable def nK(X:Cx)(ts:List Expr)(t:fM):Prop:=
 ∀(pins:List (Addr×Obj)) (s:Shared) (σ:St) (H:Hp) (vs:List V) (us:List Value) (Q:St->Hp->Prop),Inv X pins σ H s->Vals vs us->t vs σ H Q->
  wpAny (model X.prog X.w) X.A (assignInOrder ((assignEach ts X.env).map (·.2)) us) (fun _ s'=>∃σ' H',Inv X pins σ' H' s'/\Q σ' H') X.xe s
noncomputable abbrev rz:=V->V->V->Hp->(Hp->Prop)->Prop
noncomputable def uw(X:Cx)(t:rz):Prop:=
 ∀(pins:List (Addr×Obj)) (s:Shared) (σ:St) (H:Hp) (o i v:V) (ov iv u:Value) (Q:Hp->Prop),Inv X pins σ H s->RelV o ov->RelV i iv->RelV v u->t o i v H Q->
  wpAny (model X.prog X.w) X.A (setItem ov iv u) (fun _ s'=>∃H',Inv X pins σ H' s'/\Q H') X.xe s
section
variable{X:Cx}{pos:Pos}
noncomputable def fc(i:Nat):TG:=fun v σ H Q=>Q (σ.set i (some v)) H
theorem aM{i:Nat}{x:Str}(hN:X.N.Nodup)(hi:X.N[i]?=some x)(hx:Loc X.env.scope x)(hf:X.fn x=true\/X.env.scope.names.lookup x=some .local:=by first|exact .inl rfl|exact .inr rfl|assumption):PG X (.Name x pos) (fc i):=by
 intro pins s σ H v u Q I r h
 exact wpAny_assign_Name (DJ I hN hi hx r (fun s' I'=>⟨_,H,I',h⟩) hf)
noncomputable def yd:fM:=fun vs σ H Q=>vs=[]/\Q σ H
noncomputable def zu(t:TG)(u:fM):fM:=fun vs σ H Q=>∃v r,vs=v::r/\t v σ H fun σ' H'=>u r σ' H' Q
theorem jo:nK X [] yd:=by
 intro pins s σ H vs us Q I r h
 obtain⟨e,h⟩:=h
 subst e
 cases r
 exact assignInOrder_nil ⟨σ,H,I,h⟩
theorem dB{e:Expr}{es:List Expr}{t:TG}{u:fM}(h1:PG X e t)(h2:nK X es u)
    (hs:(assignEach (e::es) X.env).map (·.2)=assign e X.env::(assignEach es X.env).map (·.2):=by rfl):nK X (e::es) (zu t u):=by
  intro pins s σ H vs us Q I r h
  obtain⟨v,vr,e1,h⟩:=h
  subst e1
  cases r with
  | cons r rr =>
    rw[hs]
    refine assignInOrder_cons (aG (h1 pins s σ H _ _ _ I r h) fun _ s1 ⟨σ1,H1,I1,q1⟩=>?_)
    exact h2 pins s1 σ1 H1 _ _ Q I1 rr q1
noncomputable def pU(K:PySem.W.Frag)(n:Nat)(t:fM):TG:=fun v σ H Q=>∃a xs,v= .ref a/\d7 K H a xs/\xs.length=n/\t xs σ H Q
theorem Em{es:List Expr}{k:Nat}{t:fM}{n:Nat}(hc:X.calm=true)(h:nK X es t)
  (hn:(assignEach es X.env).length=n:=by rfl) (hst:(assignEach es X.env).findIdx? (·.1)=none:=by rfl):PG X (.Tuple es k pos) (pU X.K n t):=by
 intro pins s σ H v u Q I r hw
 obtain⟨a,xs,e1,hq,hl,hw⟩:=hw
 subst e1
 cases r
 obtain⟨its,rv,ht,hz⟩:=I.tuple hq
 refine assign_Tuple_tuple (I.ok.hd hc) ht (by simp[hn,<-hl,rv.length]) hst fun h' hx=>?_
 have I1:Inv X pins σ H {s with heap:=h'}:=I.kept (t':=s.toks) fun b o e=>hx b o (Nat.ne_of_lt (Heap.lt_size e)) e
 exact h pins _ σ H xs _ Q I1 (by simpa using rv) hw
noncomputable def jN(to ti:TE)(t:rz):TG:=fun v σ H Q=>to σ H fun o H1=>ti σ H1 fun i H2=>t o i v H2 fun H3=>Q σ H3
theorem i7{o i:Expr}{to ti:TE}{t:rz}(ho:PE X o to)(hi:PE X i ti)(hs:uw X t)
  (ha : ∀ v, assign (.Subscript o i pos) X.env v = (do
   let ov<-holding [v] (eval o X.env)
   let iv<-holding [v,ov] (eval i X.env)
   standAt pos
   holding [v,ov,iv] (setItem ov iv v)
   release [v,ov,iv] []):=by intro _;rfl):PG X (.Subscript o i pos) (jN to ti t):=by
 intro pins s σ H v u Q I r h
 rw[ha]
 refine wpAny_bind (wpAny_holding (aG (ho pins s σ H _ I h) fun ov s1 ⟨x,H1,I1,r1,q1⟩=>?_))
 refine wpAny_bind (wpAny_holding (aG (hi pins s1 σ H1 _ I1 q1) fun iv s2 ⟨y,H2,I2,r2,q2⟩=>?_))
 refine wpAny_bind (wpAny_standAt (wpAny_bind (wpAny_holding (aG (hs pins s2 σ H2 x y v ov iv u _ I2 r1 r2 r q2) fun _ s3 ⟨H3,I3,q3⟩=>?_))))
 exact wpAny_release ⟨σ,H3,I3,q3⟩
noncomputable def dZ(te:TE)(g:TG):TS:=fun D σ H=>te σ H fun x H1=>g x σ H1 D.nx
theorem ia{tg e:Expr}{te:TE}{g:TG}(he:PE X e te)(hg:PG X tg g)(hs:swapsWithSole [tg] e pos.line X.env=pure false:=by rfl)(hw:swappedStores [tg] e X.env=pure none:=by rfl)
  (h1:(assignEach [tg] X.env).map (·.2)=[assign tg X.env]:=by rfl):PS X (.Assign [tg] e pos) (dZ te g):=by
 intro pins s σ H D I h
 refine wpAny_Assign_stores (aG (he pins s σ H _ I h) fun v s1 ⟨x,H1,I1,r1,q1⟩=>?_) hs hw
 rw[h1]
 exact aG (hg pins s1 σ H1 x v _ I1 r1 q1) fun _ s2 q=>q
theorem aN{i:Nat}{x:Str}{e:Expr}{te:TE}{pos':Pos}(hN:X.N.Nodup)(hi:X.N[i]?=some x)(hx:Loc X.env.scope x)(he:PE X e te)(hs:swapsWith e (some (.Name x pos')) pos.line X.env=pure false:=by rfl)(hf:X.fn x=true\/X.env.scope.names.lookup x=some .local:=by first|exact .inl rfl|exact .inr rfl|assumption):
  PS X (.Assign [.Name x pos'] e pos) (dZ te (fc i)):=by
 intro pins s σ H D I h
 refine wpAny_Assign_Name (aG (he pins s σ H _ I h) fun v s1 ⟨y,H1,I1,r1,q1⟩=>?_) hs
 exact DJ I1 hN hi hx r1 (fun s2 I2=>⟨_,H1,I2,q1⟩) hf
end
section
variable{X:Cx}{pos:Pos}
noncomputable def tZ(c:TT)(tb:TS):TS:=fun D σ H=>∃W:Nat->St->Hp->Prop,(∃m,W m σ H)/\∀m σ H,W m σ H->
 c σ H fun b H1=>if b=true then∃N:St->Hp->Prop,(∀σ' H',N σ' H'->∃m',m'<m/\W m' σ' H')/\tb {D with nx:=N,ct:=N,bk:=D.nx} σ H1 else D.nx σ H1
theorem sV{c:Expr}{body:List Stmt}{tc:TT}{tb:TS}(hp:PassesOwn (model X.prog X.w) X.A X.env X.xe)(hc:PT X c tc)(hb:gp X body tb):PS X (.While c body [] pos) (tZ tc tb):=by
  intro pins s σ H D I h
  obtain⟨W,⟨m0,w0⟩,turn⟩:=h
  refine wpAny_While (codeAny_whileLoop (fun n s'=>∃σ' H',Inv X pins σ' H' s'/\W n σ' H') ?_ m0 ⟨σ,H,I,w0⟩)
  rintro n s1 ⟨σ1,H1,I1,w1⟩
  refine wpAny_passesOwn hp (aG (hc pins s1 σ1 H1 _ I1 (turn n σ1 H1 w1)) fun b s2 ⟨H2,I2,q2⟩=>?_)
  cases b with
  | true =>
    obtain⟨N,hN,q2⟩:=q2
    rw[if_pos rfl]
    refine wpAny_passesOwn hp (aG (hb pins s2 σ1 H2 _ I2 q2) fun f s3 q3=>?_)
    cases f with
    | next =>
      obtain⟨σ3,H3,I3,n3⟩:=q3
      obtain⟨m',hm,w3⟩:=hN σ3 H3 n3
      exact⟨m',hm,σ3,H3,I3,w3⟩
    | cont =>
      obtain⟨σ3,H3,I3,n3⟩:=q3
      obtain⟨m',hm,w3⟩:=hN σ3 H3 n3
      exact⟨m',hm,σ3,H3,I3,w3⟩
    |brk=>exact q3
    |ret v=>exact q3
  | false =>
    rw[if_neg Bool.false_ne_true]
    exact wpAny_execs_nil ⟨σ1,H2,I2,q2⟩
end
structure It where
 go:Nat->Hp->Prop
 kL:Nat->Hp->V->Hp->Prop
 stop:Nat->Hp->Prop
noncomputable def iC(X:Cx)(pins:List (Addr×Obj))(H:Hp)(b:Addr):Prop:=
 H b=none/\b≠X.env.locals/\b∉X.fs/\(b∈X.ex\/X.s₀.heap.objs.size<=b)/\(∀x c,X.env.cells.lookup x=some c->c≠b)/\∀p∈X.pn++pins,p.1≠b
theorem Inv.uM{X:Cx}{pins:List (Addr×Obj)}{σ:St}{H H':Hp}{s:Shared}{b:Addr}(I:Inv X pins σ H s)(hb:s.heap.objs.size<=b)(hn:H' b=none):iC X pins H' b:=by
 refine⟨hn,Nat.ne_of_gt (Nat.lt_of_lt_of_le I.lt hb),I.Ma hb, .inr (Nat.le_trans I.sz hb),fun x c e z=>?_,fun p hp z=>?_⟩
 ·obtain⟨v,q⟩:=I.cell x c e
  exact absurd (Nat.lt_of_lt_of_le q.lt (by rw[z];exact hb)) (Nat.lt_irrefl _)
 ·exact absurd (Nat.lt_of_lt_of_le (Heap.lt_size (I.pin p hp).1) (by rw[z];exact hb)) (Nat.lt_irrefl _)
structure Turn(P:Program)(w:World)(K:PySem.W.Frag)(tg:Expr)(J:It)(fp:List Addr)(it:Addr)(tn:Nat->Heap->Prop):Prop where
 mem:it∈fp
 obj:∀i h,tn i h->∀b∈fp,∃o,h.get? b=some o/\∀v,o.data≠ .cell v
 keep:∀i h h',tn i h->(∀b∈fp,∀o,h.get? b=some o->h'.get? b=some o)->tn i h'
 item:∀(X:Cx),X.prog=P->X.w=w->X.K=K->X.calm=true->∀(i:Nat) (pins:List (Addr×Obj)) (s:Shared) (σ:St) (H:Hp) (E:Value->Shared->Prop),Inv X pins σ H s->(∀b∈fp,iC X pins H b)->tn i s.heap->J.go i H->
  wpAny (model P w) X.A (pyNext (.ref it)) (fun r s1=>∃u,r=some u/\
   wpAny (model P w) X.A (letOwnedTupleGo tg (.ref it) u) (fun _ s2=>∃x H',Inv X pins σ H' s2/\RelV x u/\J.kL i H x H'/\tn (i+1) s2.heap/\∀b∈fp,H' b=none) E s1) E s
 done:∀(X:Cx),X.prog=P->X.w=w->X.K=K->X.calm=true->∀(i:Nat) (pins:List (Addr×Obj)) (s:Shared) (σ:St) (H:Hp) (E:Value->Shared->Prop),Inv X pins σ H s->(∀b∈fp,iC X pins H b)->tn i s.heap->J.stop i H->
  wpAny (model P w) X.A (pyNext (.ref it)) (fun r s1=>r=none/\Inv X pins σ H s1) E s
 self:∀(A:Around) (i:Nat) (s:Shared) (Q:Value->Shared->Prop) (E:Value->Shared->Prop),tn i s.heap->Q (.ref it) s->wpAny (model P w) A (pyIter (.ref it)) Q E s
noncomputable abbrev TI:=St->Hp->(It->Hp->Prop)->Prop
noncomputable def A4(X:Cx)(pins:List (Addr×Obj))(σ:St)(tg:Expr)(R:It->Hp->Prop)(itv:Value)(s2:Shared):Prop:=
 ∃(it:Addr) (fp:List Addr) (tn:Nat->Heap->Prop) (J:It) (H':Hp),itv= .ref it/\Inv X pins σ H' s2/\Turn X.prog X.w X.K tg J fp it tn/\tn 0 s2.heap/\(∀b∈fp,iC X pins H' b)/\R J H'
noncomputable def PI(X:Cx)(tg iter:Expr)(wi:TI):Prop:=
 ∀(pins:List (Addr×Obj)) (s:Shared) (σ:St) (H:Hp) (R:It->Hp->Prop),Inv X pins σ H s->wi σ H R->
  wpAny (model X.prog X.w) X.A (eval iter X.env) (fun v s1=>wpAny (model X.prog X.w) X.A (pyIter v) (A4 X pins σ tg R) X.xe s1) X.xe s
theorem BK{M:Model}{A:Around}{E:Value->Shared->Prop}{s:Shared}{tg:Expr}{it:Addr}{u:Value}{o:Obj}{n:String}{vs:Array Value}{Q:Unit->Shared->Prop}(ho:s.heap.get? it=some o)(hc:o.cls= .type n)(hd:o.data= .fields vs)
    (hn:["enumerate","zip","dict_itemiterator","dict_reverseitemiterator","odict_iterator","itertools.zip_longest","itertools.pairwise"].contains n=false) (hQ:Q () s):wpAny M A (letOwnedTupleGo tg (.ref it) u) Q E s:=by
  unfold letOwnedTupleGo
  cases tg<;>first
    |exact wpAny_pure hQ
    |(cases u<;>first
        |exact wpAny_pure hQ
        | (refine wpAny_bind (wpAny_load ho ?_)
           rw[hc,hd]
           show wpAny M A (if(["enumerate","zip","dict_itemiterator","dict_reverseitemiterator","odict_iterator","itertools.zip_longest","itertools.pairwise"].contains n && vs[0]?==some (rawInt _))=true then _ else _) Q E s
           rw[if_neg (by intro h;rw[hn,Bool.false_and] at h;cases h)]
           exact wpAny_pure hQ))
noncomputable def j6(K:PySem.W.Frag)(a:Addr):It:=
 ⟨fun i H=>∃xs x,aR K H a xs/\xs[i]?=some x,fun i H x H'=>H'=H/\∀xs,aR K H a xs->xs[i]?=some x,fun i H=>∃xs,aR K H a xs/\xs.length<=i⟩
noncomputable def gm(lo:Int)(n:Nat):It:=⟨fun i _=>i<n,fun i H x H'=>H'=H/\x= .int (lo+i),fun i _=>n<=i⟩
theorem KA{P:Program}{w:World}{K:PySem.W.Frag}{tg:Expr}(a it:Addr):Turn P w K tg (j6 K a) [it] it (fun i h=>h.IsListIter it a i) where
 mem:=by simp
 obj:=fun i h st b hb=>by
  have e:b=it:=by simpa using hb
  subst e
  obtain⟨o,e,c,d⟩:=st
  exact⟨o,e,fun v z=>by rw[d] at z;cases z⟩
 keep:=fun i h h' st k=>st.at fun o e=>k it (by simp) o e
 item:=by
  intro X hP hw hK hc i pins s σ H E I hf st hg
  subst hP hw hK
  obtain⟨xs,x,hq,hx⟩:=hg
  obtain⟨its,rv,p,hz⟩:=I.list hq
  obtain⟨u,hu,ru⟩:=rv.get hx
  obtain⟨f0,f1,f2,f3,f4,f5⟩:=hf it (by simp)
  refine wpAny_pyNext_list_item st p.isList (x:=u) (by simpa using hu) fun h' st' sb=>?_
  have I1:Inv X pins σ H {s with heap:=h'}:=I.turned (t':=s.toks) (fun b o hb e=>(sb.2 b hb).trans e) f0 f1 f3 f4 f5
  obtain⟨o,e,c,d⟩:=id st'
  exact⟨u,rfl,BK (s:={s with heap:=h'}) e c d (by decide) ⟨x,H,I1,ru,⟨rfl,fun ys hy=>by rw[I.Hg hy hq];exact hx⟩,st',fun b hb=>(hf b hb).1⟩⟩
 done:=by
  intro X hP hw hK hc i pins s σ H E I hf st hg
  subst hP hw hK
  obtain⟨xs,hq,hx⟩:=hg
  obtain⟨its,rv,p,hz⟩:=I.list hq
  obtain⟨f0,f1,f2,f3,f4,f5⟩:=hf it (by simp)
  have hl:=rv.length
  exact wpAny_pyNext_list_end (I.ok.hd hc) st p.isList (by simp;walk_at "o") fun h' eb=>⟨rfl,I.turned (t':=s.toks) (fun b o hb e=>eb b o hb e) f0 f1 f3 f4 f5⟩
 self:=fun _ _ _ _ _ st h=>wpAny_pyIter_listiter st h
theorem QU{P:Program}{w:World}{K:PySem.W.Frag}{tg:Expr}(it:Addr)(lo:Int)(n:Nat):Turn P w K tg (gm lo n) [it] it (fun i h=>IsRangeIter h it (lo+(i:Nat)*1) ((n:Int)-(i:Nat)) 1) where
 mem:=by simp
 obj:=fun i h st b hb=>by
  have e:b=it:=by simpa using hb
  subst e
  exact⟨_,st,fun v z=>by
   have z':Data.fields _=Data.cell v:=z
   cases z'⟩
 keep:=fun i h h' st k=>k it (by simp) _ st
 item:=by
  intro X hP hw hK hc i pins s σ H E I hf st hg
  subst hP hw hK
  obtain⟨f0,f1,f2,f3,f4,f5⟩:=hf it (by simp)
  have W:=Walks.range (prog:=X.prog) (w:=X.w) (I.ok.hd hc) it lo 1 n
  refine W.item i s _ _ hg st fun v h' tk hv st' kk=>?_
  obtain⟨t,rfl⟩:=hv
  have I1:Inv X pins σ H {s with heap:=h',toks:=tk}:=I.turned (fun b o hb e=>kk b o (by simpa using hb) e) f0 f1 f3 f4 f5
  refine⟨_,rfl,BK (s:={s with heap:=h',toks:=tk}) (n:="range_iterator") st' rfl rfl (by decide) ⟨.int (lo+i),H,I1,⟨t,?_⟩,⟨rfl,rfl⟩,st',fun b hb=>(hf b hb).1⟩⟩
  rw[Int.mul_one]
 done:=by
  intro X hP hw hK hc i pins s σ H E I hf st hg
  subst hP hw hK
  obtain⟨f0,f1,f2,f3,f4,f5⟩:=hf it (by simp)
  exact wpAny_pyNext_range_end (I.ok.hd hc) st (by have:n<=i:=hg;walk_at "o") fun h' eb=>⟨rfl,I.turned (t':=s.toks) (fun b o hb e=>eb b o hb e) f0 f1 f3 f4 f5⟩
 self:=fun _ _ _ _ _ st h=>wpAny_pyIter_rangeiter st h
section
variable{X:Cx}{tg:Expr}
noncomputable def kh(K:PySem.W.Frag)(tl:TE):TI:=fun σ H R=>tl σ H fun x H1=>∃a,x= .ref a/\(∃xs,aR K H1 a xs)/\R (j6 K a) H1
theorem J0{l:Expr}{tl:TE}(hl:PE X l tl):PI X tg l (kh X.K tl):=by
 intro pins s σ H R I h
 refine aG (hl pins s σ H _ I h) fun v s1 ⟨x,H1,I1,r1,q1⟩=>?_
 obtain⟨a,e,⟨xs,hq⟩,q⟩:=q1
 subst e
 cases r1
 obtain⟨its,rv,p,hz⟩:=I1.list hq
 refine wpAny_pyIter_list p.isList ?_
 refine⟨s1.heap.objs.size,[s1.heap.objs.size],_,_,H1,rfl,I1.kept (t':=s1.toks) fun b o e=>Heap.get?_push_of_some _ e,KA a _,⟨_,Heap.get?_push_size _ rfl,rfl,rfl⟩,fun b hb=>?_,q⟩
 have e:b=s1.heap.objs.size:=by simpa using hb
 subst e
 exact I1.uM (Nat.le_refl _) (I1.hok.fresh (Nat.le_refl _))
theorem C6{pins:List (Addr×Obj)}{σ:St}{H:Hp}{s:Shared}{R:It->Hp->Prop}{E:Value->Shared->Prop}{lo hi:Int}{t u v:Tok}{tk:Nat}(I:Inv X pins σ H s)(h1: -(2^62)<=lo)(h2:lo<2^62)(h3: -(2^62)<=hi)(h4:hi<2^62)
  (q:R (gm lo (hi-lo).toNat) H):wpAny (model X.prog X.w) X.A (pyIter (.ref s.heap.objs.size)) (A4 X pins σ tg R) E {s with heap:=s.heap.push {cls:= .type "range",data:= .fields #[.int lo t, .int hi u, .int 1 v]},toks:=tk}:=by
 refine wpAny_pyIter_range (IsRange.new ..) (small_one h1 h2 h3 h4) ?_
 have I1:Inv X pins σ H {s with heap:=s.heap.push {cls:= .type "range",data:= .fields #[.int lo t, .int hi u, .int 1 v]},toks:=tk}:=I.kept fun b o e=>Heap.get?_push_of_some _ e
 refine⟨(s.heap.push {cls:= .type "range",data:= .fields #[.int lo t, .int hi u, .int 1 v]}).objs.size,[(s.heap.push {cls:= .type "range",data:= .fields #[.int lo t, .int hi u, .int 1 v]}).objs.size],_,_,H,rfl,
  I1.kept (t':=tk) fun b o e=>Heap.get?_push_of_some _ e,QU _ lo (hi-lo).toNat,?_,fun b hb=>?_,q⟩
 ·have e1:lo+((0:Nat):Int)*1=lo:=by simp
  have e2:(((hi-lo).toNat:Nat):Int)-((0:Nat):Int)=Builtin.Range.rangeSize lo hi 1:=by rw[rangeSize_one];split<;>walk_at "o"
  show IsRangeIter _ _ (lo+((0:Nat):Int)*1) ((((hi-lo).toNat:Nat):Int)-((0:Nat):Int)) 1
  rw[e1,e2]
  exact Heap.get?_push_size _ rfl
 ·have e:b=(s.heap.push {cls:= .type "range",data:= .fields #[.int lo t, .int hi u, .int 1 v]}).objs.size:=by simpa using hb
  subst e
  exact I1.uM (Nat.le_refl _) (I1.hok.fresh (Nat.le_refl _))
noncomputable def lW(ta:TA):TI:=fun σ H R=>ta σ H fun vs H1=>∃j:Int,vs=[.int j]/\ -(2^62)<=j/\j<2^62/\R (gm 0 j.toNat) H1
noncomputable def DK(ta:TA):TI:=fun σ H R=>ta σ H fun vs H1=>∃i j:Int,vs=[.int i, .int j]/\(-(2^62)<=i/\i<2^62/\ -(2^62)<=j/\j<2^62)/\R (gm i (j-i).toNat) H1
theorem fE{a:Expr}{ta:TA}{p pos:Pos}(hg:Gl X "range")(hm:X.mg "range"=none)(ha:PA X [a] ta)(hs:starEach [a] X.env=[(false,eval a X.env)]:=by rfl):PI X tg (.Call (.Name "range" p) [a] [] pos) (lW ta):=by
  intro pins s σ H R I h
  refine Call_ (nP I hg hm boot_range (PyProof.Rows.callWith_type1 (aG (ha pos pins s σ H _ I h) fun us s1 ⟨vs,H1,I1,r1,q1⟩=>?_) hs rfl))
  obtain⟨j,e,q1,q2,q⟩:=q1
  subst e
  cases r1 with
  | cons r rr =>
    cases rr
    obtain⟨t,rfl⟩:=r
    exact call_range_1 (C6 I1 (by walk_at "o") (by walk_at "o") q1 q2 (by simpa using q))
theorem zZ{a b:Expr}{ta:TA}{p pos:Pos}(hg:Gl X "range")(hm:X.mg "range"=none)(ha:PA X [a,b] ta)(hs:starEach [a,b] X.env=[(false,eval a X.env),(false,eval b X.env)]:=by rfl)(hs2:starEach [b] X.env=[(false,eval b X.env)]:=by rfl):
    PI X tg (.Call (.Name "range" p) [a,b] [] pos) (DK ta):=by
  intro pins s σ H R I h
  refine Call_ (nP I hg hm boot_range (PyProof.Rows.callWith_type1 (aG (ha pos pins s σ H _ I h) fun us s1 ⟨vs,H1,I1,r1,q1⟩=>?_) (by rw[hs,hs2]) (by rw[hs2];rfl)))
  obtain⟨i,j,e,⟨q1,q2,q3,q4⟩,q⟩:=q1
  subst e
  cases r1 with
  | cons r rr =>
    cases rr with
    | cons r' rr =>
      cases rr
      obtain⟨t,rfl⟩:=r
      obtain⟨t',rfl⟩:=r'
      exact call_range_2 (C6 I1 q1 q2 q3 q4 q)
noncomputable def lM(wi:TI)(g:TG)(tb:TS):TS:=fun D σ H=>wi σ H fun J H1=>∃W:Nat->Nat->St->Hp->Prop,(∃m,W 0 m σ H1)/\∀i m σ H,W i m σ H->
 (J.stop i H/\D.nx σ H)\/(J.go i H/\∃N:St->Hp->Prop,(∀σ' H',N σ' H'->∃m',m'<m/\W (i+1) m' σ' H')/\∀x H',J.kL i H x H'->g x σ H' fun σ2 H2=>tb {D with nx:=N,ct:=N,bk:=D.nx} σ2 H2)
noncomputable def oH(fp:List Addr)(h:Heap):List (Addr×Obj):=fp.filterMap fun b=>(h.get? b).map fun o=>(b,o)
theorem qZ{fp:List Addr}{h:Heap}{b:Addr}{o:Obj}(hb:b∈fp)(e:h.get? b=some o):(b,o)∈oH fp h:=List.mem_filterMap.mpr ⟨b,hb,by rw[e];rfl⟩
theorem GD{fp:List Addr}{h:Heap}{p:Addr×Obj}(hp:p∈oH fp h):p.1∈fp/\h.get? p.1=some p.2:=by
  obtain⟨b,hb,e⟩:=List.mem_filterMap.mp hp
  cases q:h.get? b with
  |none=>rw[q] at e;cases e
  | some o =>
    rw[q] at e
    have e':(b,o)=p:=Option.some.inj e
    subst e'
    exact⟨hb,q⟩
theorem Inv.pinned{pins:List (Addr×Obj)}{σ:St}{H:Hp}{s:Shared}{fp:List Addr}(I:Inv X pins σ H s)(hf:∀b∈fp,iC X pins H b)(ho:∀b∈fp,∃o,s.heap.get? b=some o/\∀v,o.data≠ .cell v):Inv X (pins++oH fp s.heap) σ H s:=
 I.EX fun p hp=>(List.mem_append.mp hp).elim (fun z=>I.pin p (List.mem_append_right _ z)) fun z=>by
  obtain⟨hb,e⟩:=GD z
  obtain⟨f0,f1,f2,_⟩:=hf p.1 hb
  obtain⟨o,e',d⟩:=ho p.1 hb
  rw[e] at e';cases e'
  exact⟨e,f0,f1,f2,d⟩
theorem Inv.pX{pins pl:List (Addr×Obj)}{σ:St}{H:Hp}{s:Shared}(I:Inv X (pins++pl) σ H s):Inv X pins σ H s:=I.EX fun p hp=>I.pin p (List.mem_append_right _ (List.mem_append_left _ hp))
theorem fZ{iter:Expr}{body:List Stmt}{wi:TI}{g:TG}{tb:TS}{pos:Pos}(hp:PassesOwn (model X.prog X.w) X.A X.env X.xe)(hc:X.calm=true)(hi:PI X tg iter wi)(hg:PG X tg g)(hb:gp X body tb)
  (hs:∀x,foldedSetIterable iter X.env x=pure x:=by intro _;rfl):PS X (.For tg iter body [] pos) (lM wi g tb):=by
 intro pins s σ H D I h
 refine wpAny_For (aG (hi pins s σ H _ I h) fun v s1 h1=>aG h1 fun itv s2 h2=>?_) hs
 obtain⟨it,fp,tn,J,H2,e,I2,T,st2,f2,W,⟨m0,w0⟩,turn⟩:=h2
 subst e
 have jG:∀{H':Hp},(∀b∈fp,H' b=none)->∀b∈fp,iC X pins H' b:=fun hn b hb=>⟨hn b hb,(f2 b hb).2⟩
 refine codeAny_forLoop_any (fun n s'=>∃i σ' H',Inv X pins σ' H' s'/\tn i s'.heap/\(∀b∈fp,H' b=none)/\W i n σ' H') ?_ m0 ⟨0,σ,H2,I2,st2,fun b hb=>(f2 b hb).1,w0⟩
 rintro n s3 ⟨i,σ3,H3,I3,st3,fr3,w3⟩
 rcases turn i n σ3 H3 w3 with ⟨stop,qn⟩|⟨go,N,hN,step⟩
 ·refine wpAny_passesOwn hp (aG (T.done X rfl rfl rfl hc i pins s3 σ3 H3 X.xe I3 (jG fr3) st3 stop) fun r s4 ⟨hr,I4⟩=>?_)
  subst hr
  exact wpAny_execs_nil ⟨σ3,H3,I4,qn⟩
 ·refine wpAny_passesOwn hp (aG (T.item X rfl rfl rfl hc i pins s3 σ3 H3 X.xe I3 (jG fr3) st3 go) fun r s4 ⟨u,hr,h4⟩=>?_)
  subst hr
  refine wpAny_passesOwn hp (aG h4 fun _ s5 ⟨x,H5,I5,r5,y5,kN,v8⟩=>?_)
  have wg:=I5.pinned (jG v8) (T.obj _ _ kN)
  refine wpAny_passesOwn hp (aG (hg _ s5 σ3 H5 x u _ wg r5 (step x H5 y5)) fun _ s6 ⟨mR,H6,I6,q6⟩=>?_)
  refine wpAny_passesOwn hp (aG (hb _ s6 mR H6 _ I6 q6) fun f s7 q7=>?_)
  have again:∀{ie:St} {H7:Hp},Inv X (pins++oH fp s5.heap) ie H7 s7->N ie H7->∃m,m<n/\∃i σ' H',Inv X pins σ' H' s7/\tn i s7.heap/\(∀b∈fp,H' b=none)/\W i m σ' H':=fun{ie H7} I7 n7=>by
   obtain⟨m',hm,w7⟩:=hN ie H7 n7
   refine⟨m',hm,i+1,ie,H7,I7.pX,T.keep _ _ _ kN fun b hb o e=>(I7.pin (b,o) (List.mem_append_right _ (List.mem_append_right _ (qZ hb e)))).1,fun b hb=>?_,w7⟩
   obtain⟨o,e,d⟩:=T.obj _ _ kN b hb
   exact(I7.pin (b,o) (List.mem_append_right _ (List.mem_append_right _ (qZ hb e)))).2.1
  cases f with
  |next=>obtain⟨ie,H7,I7,n7⟩:=q7;exact again I7 n7
  |cont=>obtain⟨ie,H7,I7,n7⟩:=q7;exact again I7 n7
  |brk=>obtain⟨ie,H7,I7,q7⟩:=q7;exact⟨ie,H7,I7.pX,q7⟩
  |ret v=>obtain⟨x7,ie,H7,I7,r7,q7⟩:=q7;exact⟨x7,ie,H7,I7.pX,r7,q7⟩
end
theorem Aa{K:PySem.W.Frag}{a:Addr}{xs:List V}{g:TG}{tb:TS}{D:Ends}{σ:St}{H:Hp}(Pv:Nat->St->Hp->Prop)(h0:Pv 0 σ H)(hl:∀i σ H,i<=xs.length->Pv i σ H->aR K H a xs)
  (hs:∀i x σ H,xs[i]?=some x->Pv i σ H->g x σ H fun σ2 H2=>tb {D with nx:=Pv (i+1),ct:=Pv (i+1),bk:=D.nx} σ2 H2) (hd:∀σ H,Pv xs.length σ H->D.nx σ H):
  ∃W:Nat->Nat->St->Hp->Prop,(∃m,W 0 m σ H)/\∀i m σ H,W i m σ H->
   ((j6 K a).stop i H/\D.nx σ H)\/((j6 K a).go i H/\∃N:St->Hp->Prop,(∀σ' H',N σ' H'->∃m',m'<m/\W (i+1) m' σ' H')/\∀x H',(j6 K a).kL i H x H'->g x σ H' fun σ2 H2=>tb {D with nx:=N,ct:=N,bk:=D.nx} σ2 H2):=by
 refine⟨fun i m σ H=>m=xs.length-i/\i<=xs.length/\Pv i σ H,⟨xs.length,by simp,Nat.zero_le _,h0⟩,?_⟩
 rintro i m σ H ⟨rfl,hi,p⟩
 have q:=hl i σ H hi p
 by_cases hlt:i<xs.length
 ·refine .inr ⟨⟨xs,xs[i],q,by simp[hlt]⟩,Pv (i+1),fun σ' H' p'=>⟨xs.length-(i+1),by walk_at "o",rfl,hlt,p'⟩,fun x H' y=>?_⟩
  obtain⟨e,y⟩:=y
  subst e
  exact hs i x σ _ (y xs q) p
 ·have e:i=xs.length:=by walk_at "o"
  subst e
  exact .inl ⟨⟨xs,q,Nat.le_refl _⟩,hd σ H p⟩
theorem Ei{lo:Int}{n:Nat}{g:TG}{tb:TS}{D:Ends}{σ:St}{H:Hp}(Pv:Nat->St->Hp->Prop)(h0:Pv 0 σ H)
  (hs:∀i σ H,i<n->Pv i σ H->g (.int (lo+i)) σ H fun σ2 H2=>tb {D with nx:=Pv (i+1),ct:=Pv (i+1),bk:=D.nx} σ2 H2) (hd:∀σ H,Pv n σ H->D.nx σ H):
  ∃W:Nat->Nat->St->Hp->Prop,(∃m,W 0 m σ H)/\∀i m σ H,W i m σ H->
   ((gm lo n).stop i H/\D.nx σ H)\/((gm lo n).go i H/\∃N:St->Hp->Prop,(∀σ' H',N σ' H'->∃m',m'<m/\W (i+1) m' σ' H')/\∀x H',(gm lo n).kL i H x H'->g x σ H' fun σ2 H2=>tb {D with nx:=N,ct:=N,bk:=D.nx} σ2 H2):=by
 refine⟨fun i m σ H=>m=n-i/\i<=n/\Pv i σ H,⟨n,by simp,Nat.zero_le _,h0⟩,?_⟩
 rintro i m σ H ⟨rfl,hi,p⟩
 by_cases hlt:i<n
 ·refine .inr ⟨hlt,Pv (i+1),fun σ' H' p'=>⟨n-(i+1),by walk_at "o",rfl,hlt,p'⟩,fun x H' y=>?_⟩
  obtain⟨e,y⟩:=y
  subst e y
  exact hs i σ _ hlt p
 ·have e:i=n:=by walk_at "o"
  subst e
  exact .inl ⟨Nat.le_refl _,hd σ H p⟩
theorem Hl{c:TT}{tb:TS}{D:Ends}{σ:St}{H:Hp}(Pv:St->Hp->Prop)(μ:St->Hp->Nat)(h0:Pv σ H)
  (hs:∀σ H,Pv σ H->c σ H fun b H1=>if b=true then tb {D with nx:=fun σ' H'=>Pv σ' H'/\μ σ' H'<μ σ H,ct:=fun σ' H'=>Pv σ' H'/\μ σ' H'<μ σ H,bk:=D.nx} σ H1 else D.nx σ H1)
  (mono:∀σ H Q Q',(∀b H1,Q b H1->Q' b H1)->c σ H Q->c σ H Q'):tZ c tb D σ H:=by
 refine⟨fun m σ H=>m=μ σ H/\Pv σ H,⟨_,rfl,h0⟩,?_⟩
 rintro m σ H ⟨rfl,p⟩
 refine mono σ H _ _ (fun b H1 q=>?_) (hs σ H p)
 cases b with
 |true=>exact⟨_,fun σ' H' ⟨p',l⟩=>⟨_,l,rfl,p'⟩,q⟩
 |false=>exact q
noncomputable abbrev R2:=V->V->Hp->VK->Prop
noncomputable def bT(X:Cx)(f:Value->Value->Sem Value)(r:R2):Prop:=
 ∀(pins:List (Addr×Obj)) (s:Shared) (σ:St) (H:Hp) (x y:V) (v u:Value) (Q:VK),Inv X pins σ H s->RelV x v->RelV y u->r x y H Q->
  wpAny (model X.prog X.w) X.A (f v u) (EP X pins σ Q) X.xe s
noncomputable def uv(X:Cx)(f:Value->Sem Value)(r:V->Hp->VK->Prop):Prop:=
 ∀(pins:List (Addr×Obj)) (s:Shared) (σ:St) (H:Hp) (x:V) (v:Value) (Q:VK),Inv X pins σ H s->RelV x v->r x H Q->
  wpAny (model X.prog X.w) X.A (f v) (EP X pins σ Q) X.xe s
noncomputable def dS(X:Cx)(f:Value)(r:List V->Hp->VK->Prop):Prop:=
 ∀(pins:List (Addr×Obj)) (s:Shared) (σ:St) (H:Hp) (xs:List V) (us:List Value) (Q:VK),Inv X pins σ H s->Vals xs us->r xs H Q->
  wpAny (model X.prog X.w) X.A (call f us) (EP X pins σ Q) X.xe s
noncomputable def Pf(X:Cx)(r:V->Hp->(Bool->Hp->Prop)->Prop):Prop:=
 ∀(pins:List (Addr×Obj)) (s:Shared) (σ:St) (H:Hp) (x:V) (v:Value) (Q:Bool->Hp->Prop),Inv X pins σ H s->RelV x v->r x H Q->
  wpAny (model X.prog X.w) X.A (truthy v) (TP X pins σ Q) X.xe s
noncomputable def bZ(r:R2)(ta tb:TE):TE:=fun σ H Q=>ta σ H fun x H1=>tb σ H1 fun y H2=>r x y H2 Q
noncomputable def uB(r:V->Hp->VK->Prop)(ta:TE):TE:=fun σ H Q=>ta σ H fun x H1=>r x H1 Q
noncomputable def rI(C:Int->Int->Prop)(g:Int->Int->V):R2:=fun x y H Q=>∃i j,x= .int i/\y= .int j/\C i j/\Q (g i j) H
noncomputable def eY(g:Int->Int->V):R2:=fun x y H Q=>∃i j,x= .int i/\y= .int j/\Q (g i j) H
noncomputable def rU(g:Int->V):V->Hp->VK->Prop:=fun x H Q=>∃i,x= .int i/\Q (g i) H
section
variable{X:Cx}{a b c:Expr}{ta tb tc:TE}{pos:Pos}
theorem xY(ha:PE X a ta)(hb:PE X b tb){pins:List (Addr×Obj)}{s:Shared}{σ:St}{H:Hp}{R:V->V->Hp->Prop}(I:Inv X pins σ H s)
  (h:ta σ H fun x H1=>tb σ H1 fun y H2=>R x y H2) {Q:Value->Shared->Prop} {f:Value->Value->Sem Value}
  (hf:∀v u s2 x y H2,Inv X pins σ H2 s2->RelV x v->RelV y u->R x y H2->wpAny (model X.prog X.w) X.A (f v u) Q X.xe s2):
  wpAny (model X.prog X.w) X.A (eval a X.env) (fun v s₁=>wpAny (model X.prog X.w) X.A (eval b X.env) (fun u s₂=>wpAny (model X.prog X.w) X.A (f v u) Q X.xe s₂) X.xe s₁) X.xe s:=by
 refine aG (ha pins s σ H _ I h) fun v s1 ⟨x,H1,I1,r1,q1⟩=>?_
 refine aG (hb pins s1 σ H1 _ I1 q1) fun u s2 ⟨y,H2,I2,r2,q2⟩=>?_
 exact hf v u s2 x y H2 I2 r1 r2 q2
theorem aF{op:Operator}{r:R2}(ho:bT X (binaryOp op) r)(ha:PE X a ta)(hb:PE X b tb):PE X (.BinOp a op b pos) (bZ r ta tb):=by
 intro pins s σ H Q I h
 exact wpAny_BinOp (xY ha hb I h fun v u s2 x y H2 I2 rx ry q=>ho pins s2 σ H2 x y v u Q I2 rx ry q)
theorem rq{op:UnaryOp}{r:V->Hp->VK->Prop}(ho:uv X (unaryOp op) r)(ha:PE X a ta):PE X (.UnaryOp op a pos) (uB r ta):=by
 intro pins s σ H Q I h
 exact UnaryOp_ (aG (ha pins s σ H _ I h) fun v s1 ⟨x,H1,I1,r1,q1⟩=>ho pins s1 σ H1 x v Q I1 r1 q1)
theorem qD{f:Value->Value->Sem Value}{C:Int->Int->Prop}{g:Int->Int->Int}
  (rule:∀(i j:Int) (t u:Tok) (s:Shared) (Q:Value->Shared->Prop) (E:Value->Shared->Prop),C i j->Q (.int (g i j) s.toks) {s with toks:=s.toks+1}->wpAny (model X.prog X.w) X.A (f (.int i t) (.int j u)) Q E s):
  bT X f (rI C fun i j=> .int (g i j)):=by
 intro pins s σ H x y v u Q I rx ry h
 obtain⟨i,j,rfl,rfl,hc,q⟩:=h
 obtain⟨t,rfl⟩:=rx
 obtain⟨t',rfl⟩:=ry
 exact rule i j t t' s _ _ hc ⟨.int (g i j),H,I.tok _,⟨_,rfl⟩,q⟩
theorem EU{f:Value->Value->Sem Value}{g:Int->Int->Int}
  (rule:∀(i j:Int) (t u:Tok) (s:Shared) (Q:Value->Shared->Prop) (E:Value->Shared->Prop),Q (.int (g i j) s.toks) {s with toks:=s.toks+1}->wpAny (model X.prog X.w) X.A (f (.int i t) (.int j u)) Q E s):
  bT X f (eY fun i j=> .int (g i j)):=by
 intro pins s σ H x y v u Q I rx ry h
 obtain⟨i,j,rfl,rfl,q⟩:=h
 obtain⟨t,rfl⟩:=rx
 obtain⟨t',rfl⟩:=ry
 exact rule i j t t' s _ _ ⟨.int (g i j),H,I.tok _,⟨_,rfl⟩,q⟩
theorem p7{f:Value->Value->Sem Value}{g:Int->Int->Bool}
  (rule:∀(i j:Int) (t u:Tok) (s:Shared) (Q:Value->Shared->Prop) (E:Value->Shared->Prop),Q (.bool (g i j)) s->wpAny (model X.prog X.w) X.A (f (.int i t) (.int j u)) Q E s):
  bT X f (eY fun i j=> .bl (g i j)):=by
 intro pins s σ H x y v u Q I rx ry h
 obtain⟨i,j,rfl,rfl,q⟩:=h
 obtain⟨t,rfl⟩:=rx
 obtain⟨t',rfl⟩:=ry
 exact rule i j t t' s _ _ ⟨.bl (g i j),H,I,rfl,q⟩
noncomputable def wK(i j:Int):Prop:=0<=j/\j<=1000000/\i.natAbs<2^64
noncomputable def rQ(i j:Int):Prop:=(-(2^64)<i/\i<2^64)\/(-(2^64)<j/\j<2^64)
theorem rQ.ok{i j:Int}(h:rQ i j):IntMulOk i j:=by
 rcases h with ⟨h1,h2⟩|⟨h1,h2⟩
 ·exact .of_left (intBits_le_64 h1 h2)
 ·exact .of_right (intBits_le_64 h1 h2)
theorem dU:bT X (binaryOp .Add) (eY fun i j=> .int (i+j)):=EU fun _ _ _ _ _ _ _ q=>add_int q
theorem jz:bT X (binaryOp .Sub) (eY fun i j=> .int (i-j)):=EU fun _ _ _ _ _ _ _ q=>sub_int q
theorem fq:bT X (binaryOp .Mod) (rI (fun _ j=>0<j) fun i j=> .int (i%j)):=qD fun i j _ _ _ _ _ hc q=>by
 have h1:(0:Int)<j:=hc
 exact mod_int' (by walk_at "o") (by rw[Int.fmod_eq_emod_of_nonneg i (by walk_at "o")];exact q)
theorem o6:bT X (binaryOp .Pow) (rI wK fun i j=> .int (i^j.toNat)):=qD fun _ _ _ _ _ _ _ hc q=>pow_int_small hc.1 hc.2.1 hc.2.2 q
theorem Up{f:Value->Sem Value}{g:Int->Int}
  (rule:∀(i:Int) (t:Tok) (s:Shared) (Q:Value->Shared->Prop) (E:Value->Shared->Prop),Q (.int (g i) s.toks) {s with toks:=s.toks+1}->wpAny (model X.prog X.w) X.A (f (.int i t)) Q E s):
  uv X f (rU fun i=> .int (g i)):=by
 intro pins s σ H x v Q I rx h
 obtain⟨i,rfl,q⟩:=h
 obtain⟨t,rfl⟩:=rx
 exact rule i t s _ _ ⟨.int (g i),H,I.tok _,⟨_,rfl⟩,q⟩
theorem qk:uv X (unaryOp .USub) (rU fun i=> .int (-i)):=Up fun _ _ _ _ _ q=>neg_int q
end
noncomputable def vm:V->V->Bool
 | .aB, .aB=>true| .aB, .int _=>true| .int _, .aB=>true| .aB, .bl _=>true| .bl _, .aB=>true| .aB, .str _=>true| .str _, .aB=>true
 | .int _, .int _=>true| .bl _, .bl _=>true| .str _, .str _=>true| .gf _, .gf _=>true
 | .int _, .str _=>true| .str _, .int _=>true| .bl _, .str _=>true| .str _, .bl _=>true
 |_,_=>false
noncomputable def u5:R2:=fun x y H Q=>vm x y=true/\Q (.bl (decide (x=y))) H
noncomputable def tB:R2:=fun x y H Q=>vm x y=true/\Q (.bl (!decide (x=y))) H
theorem B0{i j:Int}:decide (V.int i=V.int j)=(i==j):=by
 rw[Bool.eq_iff_iff]
 simp
theorem D3{i j:Bool}:decide (V.bl i=V.bl j)=(i==j):=by
 rw[Bool.eq_iff_iff]
 simp
theorem Ag{i j:Str}:decide (V.str i=V.str j)=(i==j):=by
 rw[Bool.eq_iff_iff]
 simp
theorem AI{i j:Array UInt8}:decide (V.gf i=V.gf j)=(i.toList==j.toList):=by
 rw[Bool.eq_iff_iff]
 cases i
 cases j
 simp
section
variable{X:Cx}{a b c:Expr}{ta tb tc:TE}{pos:Pos}
theorem bV{pins:List (Addr×Obj)}{σ:St}{H:Hp}{s:Shared}{Q:VK}{k k':Bool}(I:Inv X pins σ H s)(q:Q (.bl k) H)(e:k=k'):EP X pins σ Q (.bool k') s:=by
 subst e
 exact⟨.bl k,H,I,rfl,q⟩
theorem fN:bT X (compareOp .Eq) u5:=by
  intro pins s σ H x y v u Q I rx ry h
  obtain⟨hs,q⟩:=h
  cases x with
  | aB =>
    cases rx
    cases y with
    |aB=>cases ry;exact PySem.EqNone.eq_none_none (bV I q (by simp))
    |bl j=>cases ry;exact PySem.EqNone.eq_none_bool (bV I q (by simp))
    |int j=>obtain⟨t',rfl⟩:=ry;exact PySem.EqNone.eq_none_int (bV I q (by simp))
    |str j=>obtain⟨t',rfl⟩:=ry;exact PySem.EqNone.eq_none_str (bV I q (by simp))
    |_=>exact absurd (show false=true from hs) Bool.false_ne_true
  | bl i =>
    cases rx
    cases y with
    |aB=>cases ry;exact PySem.EqNone.eq_bool_none (bV I q (by simp))
    |bl j=>cases ry;exact eq_bool (bV I q D3)
    |str j=>obtain⟨t',rfl⟩:=ry;exact PySem.EqMixed.eq_bool_str (bV I q (by simp))
    |_=>exact absurd (show false=true from hs) Bool.false_ne_true
  | int i =>
    obtain⟨t,rfl⟩:=rx
    cases y with
    |aB=>cases ry;exact PySem.EqNone.eq_int_none (bV I q (by simp))
    |int j=>obtain⟨t',rfl⟩:=ry;exact eq_int (bV I q B0)
    |str j=>obtain⟨t',rfl⟩:=ry;exact PySem.EqMixed.eq_int_str (bV I q (by simp))
    |_=>exact absurd (show false=true from hs) Bool.false_ne_true
  | str i =>
    obtain⟨t,rfl⟩:=rx
    cases y with
    |aB=>cases ry;exact PySem.EqNone.eq_str_none (bV I q (by simp))
    |bl j=>cases ry;exact PySem.EqMixed.eq_str_bool (bV I q (by simp))
    |int j=>obtain⟨t',rfl⟩:=ry;exact PySem.EqMixed.eq_str_int (bV I q (by simp))
    |str j=>obtain⟨t',rfl⟩:=ry;exact eq_str (bV I q Ag)
    |_=>exact absurd (show false=true from hs) Bool.false_ne_true
  | gf i =>
    obtain⟨t,rfl⟩:=rx
    cases y with
    |gf j=>obtain⟨t',rfl⟩:=ry;exact PySem.W.eq_bytes (bV I q AI)
    |_=>exact absurd (show false=true from hs) Bool.false_ne_true
  |_=>cases y<;>exact absurd (show false=true from hs) Bool.false_ne_true
theorem jh:bT X (compareOp .NotEq) tB:=by
  intro pins s σ H x y v u Q I rx ry h
  obtain⟨hs,q⟩:=h
  cases x with
  | aB =>
    cases rx
    cases y with
    |aB=>cases ry;exact PySem.EqNone.ne_none_none (bV I q (by simp))
    |bl j=>cases ry;exact PySem.EqNone.ne_none_bool (bV I q (by simp))
    |int j=>obtain⟨t',rfl⟩:=ry;exact PySem.EqNone.ne_none_int (bV I q (by simp))
    |str j=>obtain⟨t',rfl⟩:=ry;exact PySem.EqNone.ne_none_str (bV I q (by simp))
    |_=>exact absurd (show false=true from hs) Bool.false_ne_true
  | bl i =>
    cases rx
    cases y with
    |aB=>cases ry;exact PySem.EqNone.ne_bool_none (bV I q (by simp))
    |bl j=>cases ry;exact ne_bool (bV I q (congrArg not D3))
    |str j=>obtain⟨t',rfl⟩:=ry;exact PySem.EqMixed.ne_bool_str (bV I q (by simp))
    |_=>exact absurd (show false=true from hs) Bool.false_ne_true
  | int i =>
    obtain⟨t,rfl⟩:=rx
    cases y with
    |aB=>cases ry;exact PySem.EqNone.ne_int_none (bV I q (by simp))
    |int j=>obtain⟨t',rfl⟩:=ry;exact ne_int (bV I q (congrArg not B0))
    |str j=>obtain⟨t',rfl⟩:=ry;exact PySem.EqMixed.ne_int_str (bV I q (by simp))
    |_=>exact absurd (show false=true from hs) Bool.false_ne_true
  | str i =>
    obtain⟨t,rfl⟩:=rx
    cases y with
    |aB=>cases ry;exact PySem.EqNone.ne_str_none (bV I q (by simp))
    |bl j=>cases ry;exact PySem.EqMixed.ne_str_bool (bV I q (by simp))
    |int j=>obtain⟨t',rfl⟩:=ry;exact PySem.EqMixed.ne_str_int (bV I q (by simp))
    |str j=>obtain⟨t',rfl⟩:=ry;exact ne_str (bV I q (congrArg not Ag))
    |_=>exact absurd (show false=true from hs) Bool.false_ne_true
  | gf i =>
    obtain⟨t,rfl⟩:=rx
    cases y with
    |gf j=>obtain⟨t',rfl⟩:=ry;exact PySem.W.ne_bytes (bV I q (congrArg not AI))
    |_=>exact absurd (show false=true from hs) Bool.false_ne_true
  |_=>cases y<;>exact absurd (show false=true from hs) Bool.false_ne_true
theorem xR:bT X (compareOp .Lt) (eY fun i j=> .bl (decide (i<j))):=p7 fun _ _ _ _ _ _ _ q=>lt_int q
theorem CK:bT X (compareOp .LtE) (eY fun i j=> .bl (decide (i<=j))):=p7 fun _ _ _ _ _ _ _ q=>le_int q
theorem DV:bT X (compareOp .Gt) (eY fun i j=> .bl (decide (j<i))):=p7 fun _ _ _ _ _ _ _ q=>gt_int q
theorem UB:bT X (compareOp .GtE) (eY fun i j=> .bl (decide (j<=i))):=p7 fun _ _ _ _ _ _ _ q=>ge_int q
theorem Js:bT X (compareOp .Is) (fun x y H Q=>y= .aB/\Q (.bl (decide (x= .aB))) H):=by
 intro pins s σ H x y v u Q I rx ry h
 obtain⟨rfl,q⟩:=h
 cases ry
 refine is_none_gen (bV I q ?_)
 cases x<;>first
  |(cases rx;rfl)
  |(obtain⟨t,rfl⟩:=rx;rfl)
theorem Rb:bT X (compareOp .IsNot) (fun x y H Q=>y= .aB/\Q (.bl (!decide (x= .aB))) H):=by
 intro pins s σ H x y v u Q I rx ry h
 obtain⟨rfl,q⟩:=h
 cases ry
 refine isnot_none_gen (bV I q ?_)
 cases x<;>first
  |(cases rx;rfl)
  |(obtain⟨t,rfl⟩:=rx;rfl)
theorem aQ(b:Expr){op:CmpOp}(h:op≠ .In:=by decide)(h2:op≠ .NotIn:=by decide):behindInMarks op b=false:=by
 have e1:(op==CmpOp.In)=false:=by cases op<;>first|rfl|exact absurd rfl h
 have e2:(op==CmpOp.NotIn)=false:=by cases op<;>first|rfl|exact absurd rfl h2
 cases b<;>simp[behindInMarks,e1,e2]
theorem zx{op:CmpOp}{r:R2}(ho:bT X (compareOp op) r)(ha:PE X a ta)(hb:PE X b tb)(hm:behindInMarks op b=false):PE X (.Compare a [op] [b] pos) (bZ r ta tb):=by
 intro pins s σ H Q I h
 exact wpAny_Compare1 (xY ha hb I h fun v u s2 x y H2 I2 rx ry q=>ho pins s2 σ H2 x y v u Q I2 rx ry q) hm
noncomputable def nL(t:TE):TT:=fun σ H Q=>t σ H fun x H'=>∃k,x= .bl k/\Q k H'
theorem aO{op:CmpOp}{r:R2}(ho:bT X (compareOp op) r)(ha:PE X a ta)(hb:PE X b tb)(hm:behindInMarks op b=false):PT X (.Compare a [op] [b] pos) (nL (bZ r ta tb)):=by
 intro pins s σ H Q I h
 refine wpAny_isTrue_Compare1 (aG (ha pins s σ H _ I h) fun v s1 ⟨x,H1,I1,r1,q1⟩=>aG (hb pins s1 σ H1 _ I1 q1) fun u s2 ⟨y,H2,I2,r2,q2⟩=>
  aG (ho pins s2 σ H2 x y v u _ I2 r1 r2 q2) fun c s3 ⟨z,H3,I3,r3,k,e,q3⟩=>?_) hm
 subst e
 cases r3
 exact wpAny_truthy_bool ⟨H3,I3,q3⟩
noncomputable def tY(K:PySem.W.Frag)(x:V)(H:Hp)(k:Bool):Prop:=
 match x with
 | .aB=>k=false
 | .bl b=>k=b
 | .int i=>k=(i !=0)
 | .str y=>y.length<=sizeLine/\k=((y.length:Int) !=0)
 | .gf y=>y.size<=sizeLine/\k=((y.size:Int) !=0)
 | .ref p=>(∃xs,aR K H p xs/\k=!xs.isEmpty)\/(∃xs,d7 K H p xs/\k=!xs.isEmpty)\/∃kvs,H p=some (.dK kvs)/\k=!kvs.isEmpty
 |_=>False
theorem Sw{κ:Type}{kvs:List (κ×V)}{vs:List (κ×Value)}(r:KV kvs vs):(!vs.isEmpty)=!kvs.isEmpty:=by
 cases r<;>rfl
theorem Eh{xs:List V}{its:List Value}(r:Vals xs its):(!its.toArray.isEmpty)=!xs.isEmpty:=by
 cases r<;>simp
theorem m5:(sizeLine:Nat)<2^63:=by rw[sizeLine_eq];decide
theorem UX:Pf X (fun x H Q=>∃k,tY X.K x H k/\Q k H):=by
  intro pins s σ H x v Q I rx h
  obtain⟨k,e,q⟩:=h
  have hl:=m5
  have hs:sizeLine=16777216:=sizeLine_eq
  cases x with
  | aB =>
    cases rx
    have e':k=false:=e
    subst e'
    exact truthy_none ⟨H,I,q⟩
  | bl b =>
    cases rx
    have e':k=b:=e
    subst e'
    exact wpAny_truthy_bool ⟨H,I,q⟩
  | int i =>
    obtain⟨t,rfl⟩:=rx
    have e':k=(i !=0):=e
    subst e'
    exact PySem.P.truthy_int ⟨H,I,q⟩
  | str y =>
    obtain⟨t,rfl⟩:=rx
    obtain⟨hy,e'⟩:y.length<=sizeLine/\k=((y.length:Int) !=0):=e
    subst e'
    exact PySem.P.truthy_str (by walk_at "o") ⟨H,I.tok _,q⟩
  | gf y =>
    obtain⟨t,rfl⟩:=rx
    obtain⟨hy,e'⟩:y.size<=sizeLine/\k=((y.size:Int) !=0):=e
    subst e'
    exact PySem.W.truthy_bytes (by walk_at "o") ⟨H,I.tok _,q⟩
  | ref p =>
    cases rx
    have e':(∃xs,aR X.K H p xs/\k=!xs.isEmpty)\/(∃xs,d7 X.K H p xs/\k=!xs.isEmpty)\/∃kvs,H p=some (.dK kvs)/\k=!kvs.isEmpty:=e
    rcases e' with ⟨xs,hx,e'⟩|⟨xs,hx,e'⟩|⟨kvs,hx,e'⟩
    · subst e'
      obtain⟨its,r,pl,hz⟩:=I.list hx
      have hlen:=r.length
      exact wpAny_truthy_list pl.isList (by simp only[List.size_toArray];walk_at "o") ⟨H,I.tok _,by rw[Eh r];exact q⟩
    · subst e'
      obtain⟨its,r,pl,hz⟩:=I.tuple hx
      have hlen:=r.length
      exact truthy_tuple pl (by simp only[List.size_toArray];walk_at "o") ⟨H,I.tok _,by rw[Eh r];exact q⟩
    · subst e'
      obtain⟨hz,hS,vs,r,m⟩:kvs.length<=sizeLine/\(p==sysModules)=false/\∃vs,KV kvs vs/\s.heap.DictOf (eW X.prog X.w) p vs:=I.hok p _ hx
      have hlen:kvs.length=vs.length:=Paired.length r
      exact wpAny_truthy_dict hS m (by walk_at "o") ⟨H,I.tok _,by rw[Sw r];exact q⟩
  |_=>exact(show False from e).elim
theorem Sf(ha:PE X a ta)(he:∀whole,isTrue a X.env whole=(do let v<-whole;standAt a.pos;holding [v] (truthy v))):
  PT X a (fun σ H Q=>ta σ H fun x H'=>∃k,tY X.K x H' k/\Q k H'):=by
 intro pins s σ H Q I h
 exact isTrue_plain (aG (ha pins s σ H _ I h) fun v s1 ⟨x,H1,I1,r1,q1⟩=>UX pins s1 σ H1 x v Q I1 r1 q1) (he _)
theorem vals1{x:V}{us:List Value}(r:Vals [x] us):∃u,us=[u]/\RelV x u:=by
 cases r with
 |cons r1 r2=>cases r2;exact⟨_,rfl,r1⟩
theorem vals2{x y:V}{us:List Value}(r:Vals [x,y] us):∃u w',us=[u,w']/\RelV x u/\RelV y w':=by
  cases r with
  | cons r1 r2 =>
    cases r2 with
    |cons r3 r4=>cases r4;exact⟨_,_,rfl,r1,r3⟩
theorem MS:dS X (.builtin "abs") (fun xs H Q=>∃i,xs=[.int i]/\Q (.int (if i<0 then-i else i)) H):=by
 intro pins s σ H xs us Q I r h
 obtain⟨i,rfl,q⟩:=h
 obtain⟨u,rfl,t,rfl⟩:=vals1 r
 exact call_abs_int fun u tk=>⟨.int (if i<0 then-i else i),H,I.tok _,⟨_,rfl⟩,q⟩
theorem Lk(hc:X.calm=true):dS X (.builtin "min") (fun xs H Q=>∃i j,xs=[.int i, .int j]/\Q (.int (if j<i then j else i)) H):=by
 intro pins s σ H xs us Q I r h
 obtain⟨i,j,rfl,q⟩:=h
 obtain⟨u,w',rfl,⟨t,rfl⟩,⟨t',rfl⟩⟩:=vals2 r
 refine min_two_ints (I.ok.hd hc) fun h' tk k=>⟨_,H,I.kept k,?_,q⟩
 by_cases hj:j<i
 ·rw[if_pos hj,if_pos hj];exact⟨_,rfl⟩
 ·rw[if_neg hj,if_neg hj];exact⟨_,rfl⟩
theorem IT:dS X (.type "int") (fun xs H Q=>(∃i,xs=[.int i]/\Q (.int i) H)\/∃k,xs=[.bl k]/\Q (.int (if k then 1 else 0)) H):=by
 intro pins s σ H xs us Q I r h
 rcases h with ⟨i,rfl,q⟩|⟨k,rfl,q⟩
 ·obtain⟨u,rfl,t,rfl⟩:=vals1 r
  exact call_int_int ⟨.int i,H,I,⟨_,rfl⟩,q⟩
 ·obtain⟨u,rfl,r1⟩:=vals1 r
  cases r1
  exact call_int_bool ⟨.int (if k then 1 else 0),H,I.tok _,⟨_,rfl⟩,q⟩
end
structure j9(h:Heap)(x dx C:Addr)(mA:Str->Option Value):Prop where
 obj:h.get? x=some (PySem.W.instObj C dx)
 ns:h.Ns1 dx mA
 ne:dx≠x
theorem LF{h:Heap}{dx:Addr}{mA:Str->Option Value}(n:h.Ns1 dx mA):∃od,h.get? dx=some od/\∀name,PySem.W.lookIn name od=some (mA name):=by
 obtain⟨o,es,ep,ho,hd,hk,_,hm⟩:=n
 refine⟨o,ho,fun name=>?_⟩
 have e:=hm name
 unfold nsFind findBy at e
 rw[<-Array.find?_toList] at e
 unfold PySem.W.lookIn
 rw[hd]
 dsimp only
 split
 ·rename_i y q
  rw[q] at e
  exact congrArg some e
 ·rename_i q
  rw[q] at e
  have a:es.toList.any (·.refKey)=false:=by
   rw[List.any_eq_false]
   intro y hy
   obtain⟨z,t,hkey⟩:=hk y (Array.mem_toList_iff.mp hy)
   simp[DictEntry.refKey,hkey]
  have a':¬es.toList.any (·.refKey)=true:=by rw[a];exact Bool.false_ne_true
  rw[if_neg a']
  exact congrArg some e
theorem j9.look{h:Heap}{x dx C:Addr}{mA:Str->Option Value}(I:j9 h x dx C mA):∃od,PySem.W.InstAt h x (PySem.W.instObj C dx) C (some od)/\∀name,PySem.W.lookIn name od=some (mA name):=
 let ⟨od,ho,hl⟩:=LF I.ns
 ⟨od,⟨I.obj,rfl,rfl,ho⟩,hl⟩
section
variable{prog:Program}{w:World}{A:Around}{E:Value->Shared->Prop}{s:Shared}{K:PySem.W.Frag}{x dx C f:Addr}{mA:Str->Option Value}{name:Str}{v:Value}
theorem get_map{expr:Bool}{Q:Value->Shared->Prop}(X:K.In s.heap)(I:j9 s.heap x dx C mA)(hg:PySem.W.plainGet K C name=true)(hh:PySem.W.hasDictIn K C=true)
  (ha:PySem.W.findIn K (.ref C) name=some none) (hv:mA name=some v) (hv':PySem.W.handedIn v=true) (h:Q v {s with toks:=s.toks+1}):
  wpAny (model prog w) A (getAttr (.ref x) name expr) Q E s:=by
 obtain⟨od,J,hl⟩:=I.look
 exact PySem.W.get_value X J (PySem.W.plainGet_of hg).1 (PySem.W.findObj_own hh ha rfl (by rw[hl,hv])) hv' h
theorem LJ{pl:Sem Bool}{Q:Value×List Value->Shared->Prop}(X:K.In s.heap)(I:j9 s.heap x dx C mA)(hg:PySem.W.plainGet K C name=true)
  (hf:PySem.W.findIn K (.ref C) name=some (some (.ref f))) (ht:PySem.W.isFn K (.ref f)=true) (hv:mA name=none) (h:Q (.ref f,[.ref x]) s):
  wpAny (model prog w) A (getMethod (.ref x) name pl) Q E s:=by
 obtain⟨od,J,hl⟩:=I.look
 exact PySem.W.method_fn X J (PySem.W.plainGet_of hg).1 (PySem.W.plainGet_of hg).2 hf (beq_iff_eq.mp ht) (by show(PySem.W.lookIn name od).map (·.isSome)=some false;rw[hl,hv];rfl) h
theorem Li{ns:List Str}{Q:Unit->Shared->Prop}(X:K.In s.heap)(I:j9 s.heap x dx C mA)
  (hs:PySem.W.findIn K (.ref C) "__setattr__"=some (some (.builtin "object.__setattr__"))) (hp:PySem.W.plainOver K C=true) (ht:PySem.W.takerIn K C name=some none) (hh:PySem.W.hasDictIn K C=true)
  (hw:PySem.Within mA ns) (hsz:ns.length<=sizeLine)
  (h:∀h',j9 h' x dx C (fun y=>if y=name then some v else mA y)->Heap.SameBut dx s.heap h'->Q () {s with heap:=h',toks:=s.toks+2}):
  wpAny (model prog w) A (setAttr (.ref x) name v) Q E s:=by
 obtain⟨od,J,hl⟩:=I.look
 refine PySem.W.set_plain X J hs (PySem.W.osa_open (s:={s with toks:=s.toks+1}) (r:=none) X J hp ht fun b=>?_)
 obtain⟨cd,hc,hd'⟩:=PySem.W.any_some hh
 have hx:s.heap.get? x=some ⟨.ref C,some dx, .plain,#[]⟩:=I.obj
 refine wpAny_bind (wpAny_pure (wpAny_bind (wpAny_bind (wpAny_loadPart hx (wpAny_bind (PySem.W.Looks.here (s:={s with toks:=s.toks+1}) (PySem.W.looks_clsIn X hc) ?_))))))
 rw[hd']
 refine wpAny_pure (a:=some dx) (wpAny_bind (wpAny_pure (wpAny_bind ?_)))
 refine wpAny_nsSet1 (s:={s with toks:=s.toks+1}) I.ns fun h' hn2 hs2=>?_
 obtain⟨oD,esD,Wh,HQ,Um,L4⟩:=hn2.count (PySem.Within.cons name v hw)
 refine wpAny_bind (wpAny_lookBehind HQ (by rw[Um];exact pastItsLine_dict (Nat.le_trans L4 (by rw[List.length_cons];walk_at "o"))) ?_)
 exact wpAny_pure (h _ ⟨(hs2.2 _ (Ne.symm I.ne)).trans I.obj,hn2,I.ne⟩ hs2)
theorem IE{R:Result->Shared->Prop}{vs:List Value}{kw:List (Str×Value)}(X:K.In s.heap)(hm:PySem.W.makesIn K C=true)
  (hi:PySem.W.findIn K (.ref C) "__init__"=some (some (.ref f))) (hf:PySem.W.typeIn K (.ref f)=some (.type "function"))
  (h : codeAny (model prog w) (A.under (.builtin "type.__call__" ⟨.ref C :: vs, kw⟩)) (.call (.ref f) ⟨.ref (s.heap.objs.size + 1) :: vs, kw⟩) (PySem.W.InitBack (s.heap.objs.size + 1) R)
   {s with heap:=(s.heap.push PySem.W.emptyDict).push (PySem.W.instObj C s.heap.objs.size)}):
  codeAny (model prog w) A (.call (.ref C) ⟨vs,kw⟩) R s:=by
 obtain⟨hh,g,d,t,os⟩:=s
 exact PySem.W.make_core (PySem.W.makes_of X hm) (PySem.W.looks_findIn X hi) (fun self=>PySem.W.bind_fn X self hf) (.inl rfl) h
end
noncomputable def dH(f:Str)(v:V):List (Str×V)->List (Str×V)
 |[]=>[(f,v)]
 |(g,x)::r=>if g=f then(g,v)::r else(g,x)::dH f v r
theorem Ad(f g:Str)(v:V):∀fs:List (Str×V),(dH f v fs).lookup g=if g=f then some v else fs.lookup g
  | [] => by
    show List.lookup g [(f,v)]=_
    by_cases h:g=f
    · have hb:(g==f)=true:=beq_iff_eq.mpr h
      simp only[List.lookup,hb,if_pos h]
    · have hb:(g==f)=false:=beq_eq_false_iff_ne.mpr h
      simp only[List.lookup,hb,if_neg h]
  | (k, x) :: r => by
    have ih:=Ad f g v r
    rw[show dH f v ((k,x)::r)=(if k=f then(k,v)::r else(k,x)::dH f v r) from rfl]
    by_cases hk:k=f
    · rw[if_pos hk]
      by_cases h:g=k
      · have hb:(g==k)=true:=beq_iff_eq.mpr h
        simp only[List.lookup,hb,if_pos (h.trans hk)]
      · have hb:(g==k)=false:=beq_eq_false_iff_ne.mpr h
        simp only[List.lookup,hb,if_neg (fun e:g=f=>h (e.trans hk.symm))]
    · rw[if_neg hk]
      by_cases h:g=k
      · have hb:(g==k)=true:=beq_iff_eq.mpr h
        simp only[List.lookup,hb,if_neg (fun e:g=f=>hk (h.symm.trans e))]
      · have hb:(g==k)=false:=beq_eq_false_iff_ne.mpr h
        simp only[List.lookup,hb]
        exact ih
theorem vK(f:Str)(v:V):∀fs:List (Str×V),f∈(dH f v fs).map (·.1)/\∀g,g∈fs.map (·.1)->g∈(dH f v fs).map (·.1)
  |[]=>⟨by simp[dH],fun g h=>by simp at h⟩
  | (k, x) :: r => by
    obtain⟨i1,i2⟩:=vK f v r
    rw[show dH f v ((k,x)::r)=(if k=f then(k,v)::r else(k,x)::dH f v r) from rfl]
    by_cases hk:k=f
    · rw[if_pos hk]
      subst hk
      exact⟨by simp,fun g h=>by simpa using h⟩
    · rw[if_neg hk]
      refine⟨?_,fun g h=>?_⟩
      · rw[List.map_cons]
        exact List.mem_cons_of_mem _ i1
      · rw[List.map_cons] at h⊢
        rcases List.mem_cons.mp h with e|e
        · exact List.mem_cons.mpr (.inl e)
        · exact List.mem_cons_of_mem _ (i2 g e)
theorem DA(f:Str)(v:V):∀fs:List (Str×V),(dH f v fs).length<=fs.length+1
  |[]=>by simp[dH]
  | (k, x) :: r => by
    have ih:=DA f v r
    rw[show dH f v ((k,x)::r)=(if k=f then(k,v)::r else(k,x)::dH f v r) from rfl]
    by_cases hk:k=f
    · rw[if_pos hk,List.length_cons,List.length_cons];walk_at "o"
    · rw[if_neg hk,List.length_cons,List.length_cons];walk_at "o"
theorem fh.some_of{v:V}{o:Option Value}(r:fh (some v) o):∃u,o=some u/\RelV v u:=by
 cases o with
 |none=>exact(show False from r).elim
 |some u=>exact⟨u,rfl,r⟩
theorem fh.none_of{o:Option Value}(r:fh none o):o=none:=by
 cases o with
 |none=>rfl
 |some u=>exact(show False from r).elim
theorem FE{v:V}{u:Value}(r:RelV v u):PySem.W.handedIn u=true:=by
 cases v with
 |aB=>cases (show u=Value.none from r);rfl
 |bl b=>cases (show u=Value.bool b from r);rfl
 |int i=>obtain⟨t,e⟩:=(show∃t,u=Value.int i t from r);cases e;rfl
 |str x=>obtain⟨t,e⟩:=(show∃t,u=Value.str x t from r);cases e;rfl
 |gf b=>obtain⟨t,e⟩:=(show∃t,u=Value.bytes b t from r);cases e;rfl
 |g6 b=>obtain⟨t,e⟩:=(show∃t,u=Value.float b t from r);cases e;rfl
 |ref a=>cases (show u=Value.ref a from r);rfl
 |ty n=>cases (show u=Value.type n from r);rfl
section
variable{P:Program}{w:World}{H H':Hp}{h h':Heap}{a C dx:Addr}{fs fs':List (Str×V)}
theorem qM(hok:cy P w H h)(e:H a=some (.ins C dx fs)):∃mA,j9 h a dx C mA/\(∀f,fh (fs.lookup f) (mA f))/\PySem.Within mA (fs.map (·.1))/\fs.length<=1000/\H dx=some (.own a):=by
 obtain⟨d,z,ne,ob,mA,n,r,q⟩:=(show cz P w H h a (.ins C dx fs) from hok a _ e)
 exact⟨mA,⟨ob,n,ne⟩,r,q,z,d⟩
end
structure cX(K:PySem.W.Frag)(C:Addr):Prop where
 pg:PySem.W.plainGet K C Str.empty=true
 hd:PySem.W.hasDictIn K C=true
 po:PySem.W.plainOver K C=true
 sa:PySem.W.findIn K (.ref C) "__setattr__"=some (some (.builtin "object.__setattr__"))
theorem cX.get{K:PySem.W.Frag}{C:Addr}(c:cX K C)(f:Str):PySem.W.plainGet K C f=true:=c.pg
noncomputable def ez(K:PySem.W.Frag)(C:Addr)(f:Str):Prop:=PySem.W.findIn K (.ref C) f=some none
theorem ez.FW{K:PySem.W.Frag}{C:Addr}{f:Str}(n:ez K C f):PySem.W.takerIn K C f=some none:=by
 unfold PySem.W.takerIn
 rw[show PySem.W.findIn K (.ref C) f=some none from n]
 rfl
structure Meth(K:PySem.W.Frag)(C:Addr)(m:Str)(f:Addr):Prop where
 at_:PySem.W.findIn K (.ref C) m=some (some (.ref f))
 fn:PySem.W.isFn K (.ref f)=true
 kp:PySem.W.keepIn K (.ref f)=true
section
variable{X:Cx}{pins:List (Addr×Obj)}{σ:St}{H:Hp}{s:Shared}{a C dx:Addr}{fs:List (Str×V)}{f:Str}{v:V}{A:Around}{E:Value->Shared->Prop}
theorem Ve{b:Bool}{Q:Value->Shared->Prop}(I:Inv X pins σ H s)(e:H a=some (.ins C dx fs))(c:cX X.K C)(n:ez X.K C f)(l:fs.lookup f=some v)
  (h:∀u s',Inv X pins σ H s'->RelV v u->Q u s'):wpAny (model X.prog X.w) A (getAttr (.ref a) f b) Q E s:=by
 obtain⟨mA,O,r,_,_,_⟩:=qM I.hok e
 obtain⟨u,hu,ru⟩:=fh.some_of (v:=v) (o:=mA f) (by rw[<-l];exact r f)
 exact get_map I.cK O (c.get f) c.hd n hu (FE ru) (h u _ (I.tok _) ru)
theorem yo{m:Str}{g:Addr}{pl:Sem Bool}{Q:Value×List Value->Shared->Prop}(I:Inv X pins σ H s)(e:H a=some (.ins C dx fs))(c:cX X.K C)(k:Meth X.K C m g)(l:fs.lookup m=none)
  (h:Q (.ref g,[.ref a]) s):wpAny (model X.prog X.w) A (getMethod (.ref a) m pl) Q E s:=by
 obtain⟨mA,O,r,_,_,_⟩:=qM I.hok e
 have hn:mA m=none:=fh.none_of (by rw[<-l];exact r m)
 exact LJ I.cK O (c.get m) k.at_ k.fn hn h
theorem Td{y:V}{u:Value}{Q:Unit->Shared->Prop}(I:Inv X pins σ H s)(e:H a=some (.ins C dx fs))(c:cX X.K C)(n:ez X.K C f)(hl:fs.length<1000)(ry:RelV y u)
  (h:∀s',Inv X pins σ (upd H a (.ins C dx (dH f y fs))) s'->Q () s'):wpAny (model X.prog X.w) A (setAttr (.ref a) f u) Q E s:=by
 obtain⟨mA,O,r,wi,_,ho⟩:=qM I.hok e
 have hz:(fs.map (·.1)).length<=sizeLine:=by rw[List.length_map,sizeLine_eq];walk_at "o"
 refine Li I.cK O c.sa c.po n.FW c.hd wi hz fun h' O' sb=>h _ ?_
 have hd:∃o,h'.get? dx=some o:=let ⟨o,_,_,e',_⟩:=O'.ns;⟨o,e'⟩
 refine I.write (x:=a) (e:=dx) (by rw[e];exact True.intro) (.inr ho) (fun b q hb z=>(sb.2 b hb).trans z) hd ?_
 refine⟨by rw[bf O.ne];exact ho,?_,O.ne,O'.obj,_,O'.ns,fun g=>?_,fun g hg=>?_⟩
 ·have:=DA f y fs;walk_at "o"
 ·show fh ((dH f y fs).lookup g) (if g=f then some u else mA g)
  rw[Ad]
  by_cases q:g=f
  ·rw[if_pos q,if_pos q];exact ry
  ·rw[if_neg q,if_neg q];exact r g
 ·by_cases q:g=f
  ·rw[q];exact(vK f y fs).1
  ·refine(vK f y fs).2 g (wi g fun z=>hg ?_)
   show(if g=f then some u else mA g)=none
   rw[if_neg q];exact z
theorem Inv.made(I:Inv X pins σ H s):Inv X pins σ (upd (upd H s.heap.objs.size (.own (s.heap.objs.size+1))) (s.heap.objs.size+1) (.ins C s.heap.objs.size []))
  {s with heap:=(s.heap.push PySem.W.emptyDict).push (PySem.W.instObj C s.heap.objs.size)}:=by
 have e1:(s.heap.push PySem.W.emptyDict).get? s.heap.objs.size=some PySem.W.emptyDict:=Heap.get?_push_size s.heap rfl
 have e2:((s.heap.push PySem.W.emptyDict).push (PySem.W.instObj C s.heap.objs.size)).get? (s.heap.objs.size+1)=some (PySem.W.instObj C s.heap.objs.size):=by
  have:=Heap.get?_push_size (s.heap.push PySem.W.emptyDict) (o:=PySem.W.instObj C s.heap.objs.size) rfl
  rwa[Heap.size_push] at this
 have e3:(s.heap.push PySem.W.emptyDict).Ns s.heap.objs.size (fun _=>none):=⟨PySem.W.emptyDict,#[],_,e1,rfl,(fun e he=>absurd he (by simp)),fun _=>rfl⟩
 have I1:=I.laid (a:=s.heap.objs.size) (o:= .own (s.heap.objs.size+1)) (h':=s.heap.push PySem.W.emptyDict) (t':=s.toks) (fun b u q=>Heap.get?_push_of_some _ q) (Nat.le_refl _) ⟨_,e1⟩
 refine I1.laid (a:=s.heap.objs.size+1) (o:= .ins C s.heap.objs.size []) (t':=s.toks) (fun b u q=>Heap.get?_push_of_some _ q) (Nat.le_of_eq (Heap.size_push _ _)) ?_
 have ne:s.heap.objs.size≠s.heap.objs.size+1:=Nat.ne_of_lt (Nat.lt_succ_self _)
 refine⟨by rw[bf ne,aY],Nat.zero_le _,ne,e2,fun _=>none,(Heap.Ns1.of_empty e3).at fun o q=>Heap.get?_push_of_some _ q,fun _=>True.intro,fun y hy=>absurd rfl hy⟩
theorem OP{prog:Program}{w:World}{env:Env}{e:Expr}{f:Str}{pos:Pos}{s:Shared}{Q:Value->Shared->Prop}(hb:attributeBase e f env (eval e env)=eval e env)
  (h:wpAny (model prog w) A (eval e env) (fun o s₁=>wpAny (model prog w) A (getAttr o f true) Q E s₁) E s):wpAny (model prog w) A (eval (.Attribute e f pos) env) Q E s:=
 Attribute_any_ h (by rw[arm_eval_Attribute,hb])
end
noncomputable def jn(K:PySem.W.Frag)(ta:TE)(f:Str):TE:=fun σ H Q=>ta σ H fun x H1=>∃a C dx fs v,x= .ref a/\H1 a=some (.ins C dx fs)/\cX K C/\ez K C f/\fs.lookup f=some v/\Q v H1
noncomputable def yS(K:PySem.W.Frag)(ta tv:TE)(f:Str):TS:=fun D σ H=>tv σ H fun y H1=>ta σ H1 fun x H2=>∃a C dx fs,x= .ref a/\H2 a=some (.ins C dx fs)/\cX K C/\ez K C f/\fs.length<1000/\
 D.nx σ (upd H2 a (.ins C dx (dH f y fs)))
section
variable{X:Cx}{o e value:Expr}{f:Str}{pos pos' tpos:Pos}{ta tv:TE}
theorem qX(he:PE X e ta)(hb:attributeBase e f X.env (eval e X.env)=eval e X.env):PE X (.Attribute e f pos) (jn X.K ta f):=by
 intro pins s σ H Q I h
 refine OP hb (aG (he pins s σ H _ I h) fun u s1 ⟨x,H1,I1,rx,a,C,dx,fs,v,ex,ea,c,n,l,q⟩=>?_)
 subst ex
 obtain rfl:u=Value.ref a:=rx
 exact Ve I1 ea c n l fun u' s2 I2 ru=>⟨v,H1,I2,ru,q⟩
theorem BB(ha:PE X o ta)(hv:PE X value tv)(hs:swapsWith value (some (.Attribute o f pos')) pos.line X.env=pure false):PS X (.Assign [.Attribute o f pos'] value pos) (yS X.K ta tv f):=by
 intro pins s σ H D I h
 refine plainObj_wpAny_Assign_Attribute (aG (hv pins s σ H _ I h) fun u s1 ⟨y,H1,I1,ry,q⟩=>aG (ha pins s1 σ H1 _ I1 q) fun ov s2 ⟨x,H2,I2,rx,a,C,dx,fs,ex,ea,c,n,l,q2⟩=>?_) hs
 subst ex
 obtain rfl:ov=Value.ref a:=rx
 exact Td I2 ea c n l ry fun s3 I3=>⟨σ,_,I3,q2⟩
theorem WC{pl:Sem Bool}{m:Str}{apos:Pos}{args:List Expr}{pins:List (Addr×Obj)}{s:Shared}{σ:St}{H:Hp}{Q:Value->Shared->Prop}{te:TE}(he:PE X e te)(I:Inv X pins σ H s)
  (h : te σ H fun x H1 => ∃ a C dx fs g, x = .ref a /\ H1 a = some (.ins C dx fs) /\ cX X.K C /\ Meth X.K C m g /\ fs.lookup m = none /\
   ∀s1,Inv X pins σ H1 s1->wpAny (model X.prog X.w) X.A (callWith pos (.ref g) [.ref a] (backTo pos (starEach args X.env)) (backToKw pos (keywordEach [] X.env))) Q X.xe s1)
  (ht : eval (.Call (.Attribute e m apos) args [] pos) X.env = (do
   let ov<-eval e X.env
   standAt apos.atName
   let (f,first)<-holding [ov] (getMethod ov m pl)
   callWith pos f first (backTo pos (starEach args X.env)) (backToKw pos (keywordEach [] X.env)))):
  wpAny (model X.prog X.w) X.A (eval (.Call (.Attribute e m apos) args [] pos) X.env) Q X.xe s:=by
 refine PySem.W.methodCall_KW (pl:=pl) (aG (he pins s σ H _ I h) fun u s1 ⟨x,H1,I1,rx,a,C,dx,fs,g,ex,ea,c,k,l,q⟩=>?_) ht
 subst ex
 obtain rfl:u=Value.ref a:=rx
 exact yo I1 ea c k l (q s1 I1)
end
section
variable{X:Cx}{pins:List (Addr×Obj)}{σ:St}{H:Hp}{s:Shared}{A:Around}{E:Value->Shared->Prop}{Q:Value->Shared->Prop}{c:Value}{b:Bool}
inductive fO(K:PySem.W.Frag)(H:Hp):V->Value->Prop where
 |aB:fO K H .aB (.type "NoneType")
 |bl (x:Bool):fO K H (.bl x) (.type "bool")
 |int (i:Int):fO K H (.int i) (.type "int")
 |str (x:Str):fO K H (.str x) (.type "str")
 |g6 (x:UInt64):fO K H (.g6 x) (.type "float")
 |lst {a:Addr} {xs:List V} (e:H a=some (.lst xs)):fO K H (.ref a) (.type "list")
 |eV {a:Addr} {o:Obj} {xs:List V} (e:H a=some (.eV o (.lst xs))):fO K H (.ref a) (.type "list")
 |tup {a:Addr} {xs:List V} (e:H a=some (.tup xs)):fO K H (.ref a) (.type "tuple")
 |dK {a:Addr} {kvs:List (Key×V)} (e:H a=some (.dK kvs)):fO K H (.ref a) (.type "dict")
 |dT {a:Addr} {kvs:List (List Key×V)} (e:H a=some (.dT kvs)):fO K H (.ref a) (.type "dict")
 |zN {a:Addr} {o:Obj} {kvs:List (Key×V)} (e:H a=some (.eV o (.dK kvs))):fO K H (.ref a) (.type "dict")
 | ins {a C dx : Addr} {fs : List (Str × V)} (e : H a = some (.ins C dx fs)) (cl : cX K C) (ha : PySem.W.findIn K (.ref C) "__class__" = some (some (.builtin "object.__class__")))
   (hn:PySem.W.specialIn K (.builtin "object.__class__") "__get__"=some (some (.builtin "getset_descriptor.__get__"))) (htk:PySem.W.takesIn K (.builtin "object.__class__")=some true)
   (hm:PySem.W.mroIn K C (.type "object")=some true):fO K H (.ref a) (.ref C)
theorem RD{x:V}{u t:Value}(I:Inv X pins σ H s)(rx:RelV x u)(ty:fO X.K H x t)(e:PySem.W.kitOne X.K t c=some b)(h:∀tk,Q (.bool b) {s with toks:=tk}):
    wpAny (model X.prog X.w) A (call (.builtin "isinstance") [u,c]) Q E s:=by
  cases ty with
  |aB=>cases (show u=Value.none from rx);exact PySem.W.kia_one PySem.W.kitx_none I.cK True.intro e (fun z=>nomatch z) h
  |bl y=>cases (show u=Value.bool y from rx);exact PySem.W.kia_one PySem.W.kitx_bool I.cK True.intro e (fun z=>nomatch z) h
  |int i=>obtain⟨t,q⟩:=(show∃t,u=Value.int i t from rx);cases q;exact PySem.W.kia_one PySem.W.kitx_int I.cK True.intro e (fun z=>nomatch z) h
  |str y=>obtain⟨t,q⟩:=(show∃t,u=Value.str y t from rx);cases q;exact PySem.W.kia_one PySem.W.kitx_str I.cK True.intro e (fun z=>nomatch z) h
  |g6 y=>obtain⟨t,q⟩:=(show∃t,u=Value.float y t from rx);cases q;exact PySem.W.kia_one PySem.W.kitx_float I.cK True.intro e (fun z=>nomatch z) h
  | @lst a xs ea =>
    cases (show u=Value.ref a from rx)
    obtain⟨_,_,n,_,h1⟩:=(show cz X.prog X.w H s.heap a (.lst xs) from I.hok a _ ea)
    exact PySem.W.kia_one PySem.W.kitx_list I.cK ⟨_,h1,rfl⟩ e (fun z=>nomatch z) h
  | @eV a ob xs ea =>
    cases (show u=Value.ref a from rx)
    obtain⟨_,_,_,n,_,h1⟩:=(show cz X.prog X.w H s.heap a (.eV ob (.lst xs)) from I.hok a _ ea)
    exact PySem.W.kia_one PySem.W.kitx_list I.cK ⟨_,h1,rfl⟩ e (fun z=>nomatch z) h
  | @tup a xs ea =>
    cases (show u=Value.ref a from rx)
    obtain⟨_,_,_,p⟩:=(show cz X.prog X.w H s.heap a (.tup xs) from I.hok a _ ea)
    obtain⟨o,h1,h2,_⟩:=p
    exact PySem.W.kia_one PySem.W.kitx_tuple I.cK ⟨o,h1,h2⟩ e (fun z=>nomatch z) h
  | @dK a kvs ea =>
    cases (show u=Value.ref a from rx)
    obtain⟨_,_,vs,_,p⟩:=(show cz X.prog X.w H s.heap a (.dK kvs) from I.hok a _ ea)
    obtain⟨o,es,ep,h1,h2,_⟩:=p
    exact PySem.W.kia_one PySem.W.kitx_dict I.cK ⟨o,h1,h2.1⟩ e (fun z=>nomatch z) h
  | @dT a kvs ea =>
    cases (show u=Value.ref a from rx)
    obtain⟨_,_,xs,_,o,es,ep,h1,h2,_⟩:=(show cz X.prog X.w H s.heap a (.dT kvs) from I.hok a _ ea)
    exact PySem.W.kia_one PySem.W.kitx_dict I.cK ⟨o,h1,h2.1⟩ e (fun z=>nomatch z) h
  | @zN a ob kvs ea =>
    cases (show u=Value.ref a from rx)
    obtain⟨_,_,_,vs,_,o,es,ep,h1,h2,_⟩:=I.hok a _ ea
    exact PySem.W.kia_one PySem.W.kitx_dict I.cK ⟨o,h1,h2.1⟩ e (fun z=>nomatch z) h
  | @ins a C dx fs ea cl ha hn htk hm =>
    cases (show u=Value.ref a from rx)
    obtain⟨mA,O,_⟩:=qM I.hok ea
    obtain⟨od,J,_⟩:=O.look
    exact PySem.W.kia_one (PySem.W.kitx_own (cl.get _) cl.hd ha hn htk hm) I.cK J e (fun z=>nomatch z) h
end
structure cG(k:Nat)(A:Around):Prop where
 hd:A.handled=none
 dp:A.depth+3*k+5<recursionLimit
 un:A.units+16*k+200<cLine
theorem cG.mono{j k:Nat}{A:Around}(r:cG k A)(h:j<=k):cG j A:=⟨r.hd,by have:=r.dp;walk_at "o",by have:=r.un;walk_at "o"⟩
theorem cG.deeper{k:Nat}{A:Around}(r:cG (k+1) A)(env:Env):cG k (A.deeper env):=
 ⟨r.hd,by have:=r.dp;show A.depth+1+3*k+5<_;walk_at "o",by have:=r.un;show A.units+3+16*k+200<_;walk_at "o"⟩
theorem Im{A:Around}{C:Addr}{us:List Value}{kw:List (Str×Value)}:(A.under (.builtin "type.__call__" ⟨.ref C::us,kw⟩)).depth=A.depth+1:=by
 first|rfl|simp[Around.under,Code.weight,Code.isCreation,Code.isGuard,Code.isCaller,Code.frames,Code.isFrame,guardIds]
theorem Nu{A:Around}{C:Addr}{us:List Value}{kw:List (Str×Value)}:(A.under (.builtin "type.__call__" ⟨.ref C::us,kw⟩)).units=A.units+1:=by
 first|rfl|simp[Around.under,Code.cUnits,Code.frames,Code.isFrame]
theorem cG.make{k:Nat}{A:Around}(r:cG (k+1) A)(C:Addr)(us:List Value)(kw:List (Str×Value)):cG k (A.under (.builtin "type.__call__" ⟨.ref C::us,kw⟩)):=
 ⟨r.hd,by have:=r.dp;rw[Im];walk_at "o",by have:=r.un;rw[Nu];walk_at "o"⟩
theorem cG.depth{k:Nat}{A:Around}(r:cG k A):A.depth<recursionLimit:=by have:=r.dp;walk_at "o"
theorem cG.units{k:Nat}{A:Around}(r:cG k A):A.units+64<cLine:=by have:=r.un;walk_at "o"
noncomputable def bz:TA:=fun _ H Q=>Q [] H
noncomputable def aV(ta:TE)(tr:TA):TA:=fun σ H Q=>ta σ H fun x H1=>tr σ H1 fun xs H2=>Q (x::xs) H2
section
variable{X:Cx}{e:Expr}{es:List Expr}{te:TE}{t:TA}{pos:Pos}
theorem ai:PA X [] bz:=fun _ _ _ _ H Q I h=>Calls.spliced_nil ⟨[],H,I, .nil,h⟩
theorem aa(ha:PE X e te)(hr:PA X es t)(hs:starEach (e::es) X.env=(false,eval e X.env)::starEach es X.env:=by rfl):PA X (e::es) (aV te t):=by
 intro pos pins s σ H Q I h
 rw[hs]
 show wpAny _ _ (spliced ((false,eval e X.env)::backTo pos (starEach es X.env))) _ _ s
 refine Calls.spliced_cons (aG (ha pins s σ H _ I h) fun u s1 ⟨x,H1,I1,r1,q1⟩=>?_)
 exact aG (hr pos pins s1 σ H1 _ I1 q1) fun us s2 ⟨xs,H2,I2,r2,q2⟩=>⟨x::xs,H2,I2, .cons r1 r2,q2⟩
noncomputable def pT(t:TA):TE:=fun σ H Q=>t σ H fun xs H1=>xs.length<=sizeLine/\∀p,H1 p=none->Q (.ref p) (upd H1 p (.tup xs))
noncomputable def j3(t:TA):TE:=fun σ H Q=>t σ H fun xs H1=>xs.length<=sizeLine/\∀p,H1 p=none->Q (.ref p) (upd H1 p (.lst xs))
theorem gv{x1}(h:PA X es t):PE X (.Tuple es x1 pos) (pT t):=by
 intro pins s σ H Q I hq
 refine wpAny_Tuple_spliced (aG (h pos pins s σ H _ I hq) fun us s1 ⟨xs,H1,I1,r,z,q⟩=>⟨by rw[<-r.length];exact z,?_⟩)
 have hf:H1 s1.heap.objs.size=none:=I1.hok.fresh (Nat.le_refl _)
 refine⟨.ref s1.heap.objs.size,upd H1 s1.heap.objs.size (.tup xs),I1.laid (t':=s1.toks) (fun b u e=>Heap.get?_push_of_some _ e) (Nat.le_refl _) ?_,rfl,q _ hf⟩
 exact⟨z,us,r,⟨_,Heap.get?_push_size _ rfl,rfl,_,rfl⟩⟩
theorem eS(h:PA X es t):PE X (.List es pos) (j3 t):=by
 intro pins s σ H Q I hq
 refine wpAny_List_spliced (aG (h pos pins s σ H _ I hq) fun us s1 ⟨xs,H1,I1,r,z,q⟩=>⟨by rw[<-r.length];exact z,?_⟩)
 have hf:H1 s1.heap.objs.size=none:=I1.hok.fresh (Nat.le_refl _)
 refine⟨.ref s1.heap.objs.size,upd H1 s1.heap.objs.size (.lst xs),I1.laid (t':=s1.toks) (fun b u e=>Heap.get?_push_of_some _ e) (Nat.le_refl _) ?_,rfl,q _ hf⟩
 exact⟨z,us,0,r,Heap.get?_push_size _ rfl⟩
end
noncomputable abbrev Sp:=List V->Hp->VK->XK->Prop
noncomputable abbrev iy:=List Env->Hp->Shared->XK->Value->Shared->Prop
structure kD(P:Program)(w:World)(K:PySem.W.Frag)(mg:Str->Option Value)(base:Heap)(A:Around)(outer:List Env)(s:Shared)(H:Hp):Prop where
 frames:A.frames=some outer
 mod:Mod K mg base
 bs:∀b o,base.get? b=some o->s.heap.get? b=some o/\H b=none
 jj:base.objs.size<=s.heap.objs.size
 gy:s.heap.FunFrames base outer
 jY:∀b∈frs outer,H b=none
 hok:cy P w H s.heap
 bare:AllBare s.gens
noncomputable def CE(outer:List Env)(P:Program)(w:World)(H:Hp)(s:Shared)(Q:VK)(u:Value)(s':Shared):Prop:=
 ∃v H',s'.os=s.os/\AllBare s'.gens/\Un (frs outer) [] H H' s.heap s'.heap/\cy P w H' s'.heap/\RelV v u/\Q v H'
noncomputable def CR(CX:iy)(outer:List Env)(P:Program)(w:World)(H:Hp)(s:Shared)(Q:VK)(E:XK)(r:Result)(s':Shared):Prop:=
 match r with
 | .ok (.ret u)=>CE outer P w H s Q u s'
 | .ok _=>False
 | .error e=>CX outer H s E e s'
structure aS(P:Program)(w:World)(K:PySem.W.Frag)(mg:Str->Option Value)(base:Heap)(CX:iy)(k:Nat)(f:Addr)(fd:FuncData)(ps:List Str)(sp:Sp):Prop where
 len:∀vs H Q E,sp vs H Q E->vs.length=ps.length
 run:∀(A:Around) (outer:List Env) (s:Shared) (H:Hp) (args:Args) (us:List Value) (vs:List V) (Q:VK) (E:XK),cG k A->kD P w K mg base A outer s H->BindsTo s fd args (ps.zip us)->Vals vs us->sp vs H Q E->
  codeAny (model P w) A (.call (.ref f) args) (CR CX outer P w H s Q E) s
theorem kD.make{P:Program}{w:World}{K:PySem.W.Frag}{mg:Str->Option Value}{base:Heap}{A:Around}{outer:List Env}{s:Shared}{H:Hp}(e:kD P w K mg base A outer s H)(C:Addr)(us:List Value)(kw:List (Str×Value)):
  kD P w K mg base (A.under (.builtin "type.__call__" ⟨.ref C::us,kw⟩)) outer s H:=⟨by first|exact e.frames|(simpa[Around.under,Code.envs,Code.isFrame,pushEnvs] using e.frames),e.mod,e.bs,e.jj,e.gy,e.jY,e.hok,e.bare⟩
section
variable{X:Cx}{pins:List (Addr×Obj)}{σ:St}{H:Hp}{s s':Shared}
theorem Inv.BJ(I:Inv X pins σ H s):kD X.prog X.w X.K X.mg X.base X.A X.stack s H:=
 ⟨I.ok.frames,I.ok.mod,I.bs,Nat.le_trans I.ok.jj I.sz,I.stack,I.B5,I.hok,I.bare⟩
theorem Inv.after{Q:VK}{u:Value}(I:Inv X pins σ H s)(h:CE X.stack X.prog X.w H s Q u s'):EP X pins σ Q u s':=by
 obtain⟨v,H',os,bare,un,hok,r,q⟩:=h
 obtain⟨hh,g,d,t,os'⟩:=s'
 obtain rfl:os'=s.os:=os
 exact⟨v,H',I.call (h':=hh) (g':=g) (d':=d) (t':=t) (ch:=[]) un hok bare (fun b z=>absurd z (by simp)),r,q⟩
end
noncomputable def d8(sp:Sp)(dM:List V)(E:XK)(t:TA):TE:=fun σ H Q=>t σ H fun vs H1=>sp (vs++dM) H1 Q E
noncomputable def nJ(C:Addr)(m:Str)(sp:Sp)(dM:List V)(E:XK)(ta:TE)(t:TA):TE:=fun σ H Q=>ta σ H fun x H1=>∃a dx fs,x= .ref a/\H1 a=some (.ins C dx fs)/\fs.lookup m=none/\
 t σ H1 fun vs H2=>sp (x::(vs++dM)) H2 Q E
noncomputable def wN(C:Addr)(sp:Sp)(dM:List V)(E:XK)(t:TA):TE:=fun σ H Q=>t σ H fun vs H1=>∀x dx,H1 x=none->H1 dx=none->dx≠x->
 sp (.ref x::(vs++dM)) (upd (upd H1 dx (.own x)) x (.ins C dx [])) (fun v H2=>v= .aB/\Q (.ref x) H2) E
noncomputable def Binds(K:PySem.W.Frag)(fd:FuncData)(ps:List Str)(ds:List Value):Prop:=
 ∀(s:Shared) (us:List Value),K.In s.heap->(us++ds).length=ps.length->BindsTo s fd ⟨us,[]⟩ (ps.zip (us++ds))
theorem Binds.all{K:PySem.W.Frag}{fd:FuncData}{ps:List Str}(h:∀us:List Value,us.length=ps.length->bindArgs fd ⟨us,[]⟩=pure (ps.zip us)):Binds K fd ps []:=fun s us _ hl=>by
 rw[List.append_nil] at hl⊢
 exact .of_eq (h us hl)
noncomputable def Passes(CX:iy)(X:Cx)(E:XK):Prop:=∀(pins:List (Addr×Obj)) (σ:St) (H:Hp) (s:Shared) (e:Value) (s':Shared),Inv X pins σ H s->CX X.stack H s E e s'->X.xe e s'
section
variable{X:Cx}{CX:iy}{k:Nat}{f C:Addr}{fd:FuncData}{ps:List Str}{sp:Sp}{dM:List V}{ds:List Value}{E:XK}{x m:Str}{p pos apos:Pos}{e o:Expr}{es:List Expr}{ta:TE}{t:TA}
theorem uE{pins:List (Addr×Obj)}{σ:St}{H:Hp}{s:Shared}{Q:VK}{us:List Value}{vs:List V}(F:aS X.prog X.w X.K X.mg X.base CX k f fd ps sp)(hr:cG k X.A)(hb:Binds X.K fd ps ds)(hd:Vals dM ds)(hx:Passes CX X E)
    (I:Inv X pins σ H s) (r:Vals vs us) (h:sp (vs++dM) H Q E):wpAny (model X.prog X.w) X.A (call (.ref f) us) (EP X pins σ Q) X.xe s:=by
  have r2:Vals (vs++dM) (us++ds):=r.append hd
  have hl:(us++ds).length=ps.length:=by rw[<-r2.length];exact F.len _ _ _ _ h
  refine wpAny_call (codeAny_mono (F.run X.A X.stack s H ⟨us,[]⟩ (us++ds) (vs++dM) Q E hr I.BJ (hb s us I.cK hl) r2 h) fun r s' hq=>?_)
  cases r with
  |error e=>exact hx pins σ H s e s' I hq
  | ok fl =>
    cases fl with
    |ret u=>exact I.after hq
    |next=>exact False.elim hq
    |brk=>exact False.elim hq
    |cont=>exact False.elim hq
theorem MG(F:aS X.prog X.w X.K X.mg X.base CX k f fd ps sp)(hr:cG k X.A)(hg:Gl X x)(hm:X.mg x=some (.ref f))(hk:PySem.W.keepIn X.K (.ref f)=true)(hb:Binds X.K fd ps ds)(hd:Vals dM ds)(hx:Passes CX X E)
  (ha:PA X (e::es) t) (hdb:(x==("__debug__":Str))=false:=by decide) (he:starEach (e::es) X.env=(false,eval e X.env)::starEach es X.env:=by rfl) (hpl:(backTo pos (starEach es X.env)).any (·.1)=false:=by rfl):
  PE X (.Call (.Name x p) (e::es) [] pos) (d8 sp dM E t):=by
 intro pins s σ H Q I h
 refine wpAny_Call_Name_kw (BD I hg hm ?_ hdb)
 refine PySem.W.callWith_K (h₀:=X.base) I.ok.mod.nv hk (aG (ha pos pins s σ H _ I h) fun us s1 ⟨vs,H1,I1,r,q⟩=>⟨I1.cK,?_⟩) he hpl
 exact uE F hr hb hd hx I1 r q
theorem JX{pl:Sem Bool}(he:PE X o ta)(c:cX X.K C)(hm:Meth X.K C m f)(F:aS X.prog X.w X.K X.mg X.base CX k f fd ps sp)(hr:cG k X.A)(hb:Binds X.K fd ps ds)(hd:Vals dM ds)(hx:Passes CX X E)(ha:PA X (e::es) t)
  (hst:starEach (e::es) X.env=(false,eval e X.env)::starEach es X.env:=by rfl) (hpl:(backTo pos (starEach es X.env)).any (·.1)=false:=by rfl)
  (ht : eval (.Call (.Attribute o m apos) (e :: es) [] pos) X.env = (do
   let ov<-eval o X.env
   standAt apos.atName
   let (f,first)<-holding [ov] (getMethod ov m pl)
   callWith pos f first (backTo pos (starEach (e::es) X.env)) (backToKw pos (keywordEach [] X.env))):=by rfl):
  PE X (.Call (.Attribute o m apos) (e::es) [] pos) (nJ C m sp dM E ta t):=by
 intro pins s σ H Q I h
 refine PySem.W.methodCall_KW (pl:=pl) (aG (he pins s σ H _ I h) fun u s1 ⟨x,H1,I1,rx,a,dx,fs,ex,ea,l,q⟩=>?_) ht
 subst ex
 obtain rfl:u=Value.ref a:=rx
 refine yo I1 ea c hm l ?_
 refine PySem.W.callWith_K (first:=[.ref a]) (h₀:=X.base) I.ok.mod.nv hm.kp (aG (ha pos pins s1 σ H1 _ I1 q) fun us s2 ⟨vs,H2,I2,r,q2⟩=>⟨I2.cK,?_⟩) hst hpl
 exact uE (us:= .ref a::us) (vs:= .ref a::vs) F hr hb hd hx I2 (.cons rfl r) q2
theorem Vo{pl:Sem Bool}(he:PE X o ta)(c:cX X.K C)(hm:Meth X.K C m f)(F:aS X.prog X.w X.K X.mg X.base CX k f fd ps sp)(hr:cG k X.A)(hb:Binds X.K fd ps ds)(hd:Vals dM ds)(hx:Passes CX X E)
  (ht : eval (.Call (.Attribute o m apos) [] [] pos) X.env = (do
   let ov<-eval o X.env
   standAt apos.atName
   let (f,first)<-holding [ov] (getMethod ov m pl)
   callWith pos f first (backTo pos (starEach [] X.env)) (backToKw pos (keywordEach [] X.env))):=by rfl):
  PE X (.Call (.Attribute o m apos) [] [] pos) (nJ C m sp dM E ta bz):=by
 intro pins s σ H Q I h
 refine PySem.W.methodCall_KW (pl:=pl) (aG (he pins s σ H _ I h) fun u s1 ⟨x,H1,I1,rx,a,dx,fs,ex,ea,l,q⟩=>?_) ht
 subst ex
 obtain rfl:u=Value.ref a:=rx
 refine yo I1 ea c hm l ?_
 exact PySem.W.callWith_K0 (first:=[.ref a]) I1.cK hm.kp (uE (us:=[.ref a]) (vs:=[.ref a]) F hr hb hd hx I1 (.cons rfl .nil) q)
structure Mk(K:PySem.W.Frag)(C f:Addr):Prop where
 makes:PySem.W.makesIn K C=true
 init:PySem.W.findIn K (.ref C) "__init__"=some (some (.ref f))
 fn:PySem.W.isFn K (.ref f)=true
 kp:PySem.W.keepIn K (.ref C)=true
theorem VC{pins:List (Addr×Obj)}{σ:St}{H:Hp}{s:Shared}{Q:VK}{us:List Value}{vs:List V}(M:Mk X.K C f)(F:aS X.prog X.w X.K X.mg X.base CX k f fd ps sp)(hr:cG (k+1) X.A)(hb:Binds X.K fd ps ds)(hd:Vals dM ds)
    (hx:Passes CX X E) (I:Inv X pins σ H s) (r:Vals vs us)
    (h:∀x dx,H x=none->H dx=none->dx≠x->sp (.ref x::(vs++dM)) (upd (upd H dx (.own x)) x (.ins C dx [])) (fun v H2=>v= .aB/\Q (.ref x) H2) E):
    wpAny (model X.prog X.w) X.A (call (.ref C) us) (EP X pins σ Q) X.xe s:=by
  have hq:=h (s.heap.objs.size+1) s.heap.objs.size (I.hok.fresh (Nat.le_succ _)) (I.hok.fresh (Nat.le_refl _)) (Nat.ne_of_lt (Nat.lt_succ_self _))
  have I2:=Inv.made (C:=C) I
  have r2:Vals (V.ref (s.heap.objs.size+1)::(vs++dM)) (Value.ref (s.heap.objs.size+1)::(us++ds)):= .cons rfl (r.append hd)
  have hl:(Value.ref (s.heap.objs.size+1)::us++ds).length=ps.length:=by
    have e:=r2.length
    rw[F.len _ _ _ _ hq] at e
    exact e.symm
  refine wpAny_call (IE (f:=f) I.cK M.makes M.init (beq_iff_eq.mp M.fn) (codeAny_mono (F.run _ X.stack _ _ ⟨Value.ref (s.heap.objs.size+1)::us,[]⟩ (Value.ref (s.heap.objs.size+1)::(us++ds)) _ _ E (hr.make C us [])
    (I2.BJ.make C us []) (hb _ (Value.ref (s.heap.objs.size+1)::us) I2.cK hl) r2 hq) fun r s' hq'=>?_))
  cases r with
  |error e=>exact hx pins σ _ _ e s' I2 hq'
  | ok fl =>
    cases fl with
    | ret u =>
      obtain⟨v,H',I3,rv,ev,q3⟩:=I2.after hq'
      subst ev
      exact⟨rv,⟨V.ref (s.heap.objs.size+1),H',I3,rfl,q3⟩⟩
    |next=>exact False.elim hq'
    |brk=>exact False.elim hq'
    |cont=>exact False.elim hq'
theorem VH(M:Mk X.K C f)(F:aS X.prog X.w X.K X.mg X.base CX k f fd ps sp)(hr:cG (k+1) X.A)(hg:Gl X x)(hm:X.mg x=some (.ref C))(hb:Binds X.K fd ps ds)(hd:Vals dM ds)(hx:Passes CX X E)
  (ha:PA X (e::es) t) (hdb:(x==("__debug__":Str))=false:=by decide) (he:starEach (e::es) X.env=(false,eval e X.env)::starEach es X.env:=by rfl) (hpl:(backTo pos (starEach es X.env)).any (·.1)=false:=by rfl):
  PE X (.Call (.Name x p) (e::es) [] pos) (wN C sp dM E t):=by
 intro pins s σ H Q I h
 refine wpAny_Call_Name_kw (BD I hg hm ?_ hdb)
 refine PySem.W.callWith_K (h₀:=X.base) I.ok.mod.nv M.kp (aG (ha pos pins s σ H _ I h) fun us s1 ⟨vs,H1,I1,r,q⟩=>⟨I1.cK,?_⟩) he hpl
 exact VC M F hr hb hd hx I1 r q
end
structure bL(N P:List Str)(sc:Scope):Prop where
 kind:sc.kind= .function
 co:sc.isCoroutine=false
 gen:sc.isGenerator=false
 nd:N.Nodup
 pre:N.take P.length=P
 par:∀x∈P,sc.names.lookup x=some .local\/sc.names.lookup x=some .cell
 QK:∀y∈sc.names,y.2≠ .free
theorem E3{kindOf:Str->Option NameKind}{x:Str}:∀{binds:List (Str×Value)} {m:Str->Option Value},(∀v,(x,v)∉binds)->bindL kindOf binds m x=m x
  |[],_,_=>rfl
  | (n, v) :: r, m, h => by
    unfold bindL
    rw[E3 fun w hw=>h w (List.mem_cons_of_mem _ hw)]
    split
    · have:x≠n:=by rintro rfl;exact h v List.mem_cons_self
      simp[this]
    · rfl
theorem AJ{kindOf:Str->Option NameKind}{x:Str}:∀{binds:List (Str×Value)} {m:Str->Option Value},(∀v,(x,v)∉binds)->bindC kindOf binds m x=m x
  |[],_,_=>rfl
  | (n, v) :: r, m, h => by
    unfold bindC
    rw[AJ fun w hw=>h w (List.mem_cons_of_mem _ hw)]
    split
    · rfl
    · have:x≠n:=by rintro rfl;exact h v List.mem_cons_self
      simp[this]
theorem Bl{kindOf:Str->Option NameKind}{x:Str}{v:Value}:∀{P:List Str} {vs:List Value} {i:Nat} {m:Str->Option Value},P.Nodup->P[i]?=some x->vs[i]?=some v->kindOf x=some .local->
    bindL kindOf (P.zip vs) m x=some v
  |[],_,_,_,_,h,_,_=>by simp at h
  |_::_,[],_,_,_,_,h,_=>by simp at h
  | p :: P, w :: vs, 0, m, nd, h1, h2, hk => by
    simp at h1 h2;subst h1;subst h2
    show bindL kindOf ((p,w)::P.zip vs) m p=_
    unfold bindL
    rw[E3 fun v hv=>(List.nodup_cons.mp nd).1 (List.of_mem_zip hv).1,if_pos hk]
    simp
  | p :: P, w :: vs, i + 1, m, nd, h1, h2, hk => by
    show bindL kindOf ((p,w)::P.zip vs) m x=_
    unfold bindL
    exact Bl (i:=i) (List.nodup_cons.mp nd).2 (by simpa using h1) (by simpa using h2) hk
theorem E7{kindOf:Str->Option NameKind}{x:Str}{v:Value}:∀{P:List Str} {vs:List Value} {i:Nat} {m:Str->Option Value},P.Nodup->P[i]?=some x->vs[i]?=some v->kindOf x≠some .local->
    bindC kindOf (P.zip vs) m x=some v
  |[],_,_,_,_,h,_,_=>by simp at h
  |_::_,[],_,_,_,_,h,_=>by simp at h
  | p :: P, w :: vs, 0, m, nd, h1, h2, hk => by
    simp at h1 h2;subst h1;subst h2
    show bindC kindOf ((p,w)::P.zip vs) m p=_
    unfold bindC
    rw[AJ fun v hv=>(List.nodup_cons.mp nd).1 (List.of_mem_zip hv).1,if_neg hk]
    simp
  | p :: P, w :: vs, i + 1, m, nd, h1, h2, hk => by
    show bindC kindOf ((p,w)::P.zip vs) m x=_
    unfold bindC
    exact E7 (i:=i) (List.nodup_cons.mp nd).2 (by simpa using h1) (by simpa using h2) hk
noncomputable def start(N:List Str)(vs:List V):St:=vs.map some++List.replicate (N.length-vs.length) none
noncomputable def mF(CX:iy)(P:Program)(w:World)(K:PySem.W.Frag)(mg:Str->Option Value)(base:Heap)(N:List Str)(qual:Str)(scope:Scope)(f:Addr)(cd:Value)(A:Around)(outer:List Env)(s:Shared)(H:Hp)(E:XK):Cx where
 prog:=P
 w:=w
 K:=K
 mg:=mg
 base:=base
 A:=A.deeper (envOfC qual scope s.heap.objs.size f cd)
 N:=N
 s₀:=s
 H₀:=H
 env:=envOfC qual scope s.heap.objs.size f cd
 outer:=outer
 stack:=envOfC qual scope s.heap.objs.size f cd::outer
 ex:=[]
 calm:=true
 fn:=fun _=>true
 pn:=[]
 xe:=fun e s'=>wpAny (model P w) (A.deeper (envOfC qual scope s.heap.objs.size f cd)) (leaving (envOfC qual scope s.heap.objs.size f cd) e) (fun _ s''=>CX outer H s E e s'') (fun e' s''=>CX outer H s E e' s'') s'
theorem DG{sc:Scope}{n:Nat}{x:Str}(h:sc.names.lookup x=some .cell):∃c,(cellsFrom n sc.names []).lookup x=some c:=by
 have q:=PySem.W.cellsFrom_some sc.names n [] (.inl h)
 exact Option.isSome_iff_exists.mp q
theorem Vp{CX:iy}{P:Program}{w:World}{K:PySem.W.Frag}{mg:Str->Option Value}{base:Heap}{N ps:List Str}{qual:Str}{scope:Scope}{f:Addr}{cd:Value}{A:Around}{outer:List Env}{s s1:Shared}{H:Hp}{E:XK}{us:List Value}{vs:List V}
  (S:bL N ps scope) (hd:A.handled=none) (e0:kD P w K mg base A outer s H) (hl:vs.length=ps.length) (r:Vals vs us)
  (x:InCallC s s.heap.objs.size (bindL (envOfC qual scope s.heap.objs.size f cd).kindOf (ps.zip us) fun _=>none) (cellsFrom (s.heap.objs.size+1) scope.names []) (bindC (envOfC qual scope s.heap.objs.size f cd).kindOf (ps.zip us) fun _=>none) s1):
  Inv (mF CX P w K mg base N qual scope f cd A outer s H E) [] (start N vs) H s1:=by
 have hpl:ps.length<=N.length:=by have:=congrArg List.length S.pre;rw[List.length_take] at this;walk_at "o"
 obtain⟨h1,tk,rfl,hk⟩:=x.done
 have nR:∀b:Addr,b∉(mF CX P w K mg base N qual scope f cd A outer s H E).ex:=fun b z=>absurd (show b∈([]:List Addr) from z) (by simp)
 refine⟨⟨e0.mod,S.kind,rfl,rfl,Nat.le_refl _,fun y z c h1 h2=>?_,fun y hy=>?_,fun y c _ h=>?_,fun _=>hd,Around.frames_deeper e0.frames, .inr ⟨rfl,rfl⟩,fun b z=>absurd z (nR b),e0.bs,e0.jj,fun b _ _=>nR b,fun b z=>absurd z (nR b),e0.gy,e0.jY⟩,
  rfl,e0.bare,Un.kept hk,⟨_,x.toInCall.ns,fun i y v h1 h2 h3=>?_⟩,fun y c h=>⟨_,x.cell y c h⟩,e0.hok.fresh (Nat.le_refl _),fun y c h=>?_,fun p hp=>absurd (show p∈([]:List (Addr×Obj)) from hp) (by simp),e0.hok.kept hk,?_⟩
 ·exact name_of_addr x.apart (PySem.mem_of_lookup h1) (PySem.mem_of_lookup h2)
 ·have hy:scope.names.lookup y=some .cell\/scope.names.lookup y=some .free:=hy
  rcases hy with hy|hy
  ·exact DG hy
  ·exact absurd rfl (S.QK _ (PySem.mem_of_lookup hy))
 ·exact Nat.le_of_lt (x.above y c (PySem.mem_of_lookup h))
 ·have hi:i<vs.length:=by
   unfold start at h2
   by_cases hi:i<vs.length
   ·exact hi
   ·rw[List.getElem?_append_right (by simpa using hi)] at h2
    rw[List.getElem?_replicate] at h2
    split at h2<;>cases h2
  have ha:vs[i]?=some v:=by
   unfold start at h2
   rw[List.getElem?_append_left (by simpa using hi),List.getElem?_map] at h2
   cases e:vs[i]? with
   |none=>rw[e] at h2;cases h2
   |some a=>rw[e] at h2;cases h2;rfl
  obtain⟨u,hu,rv⟩:=r.get ha
  have hp:ps[i]?=some y:=by
   rw[<-S.pre,List.getElem?_take_of_lt (by walk_at "o")];exact h1
  have CU:ps.Nodup:=by rw[<-S.pre];exact S.nd.sublist (List.take_sublist _ _)
  refine⟨u,rv,?_⟩
  rcases S.par y (List.mem_of_getElem? hp) with k|k
  ·exact .inl ⟨k,Bl CU hp hu k⟩
  ·obtain⟨c,e⟩:=DG (n:=s.heap.objs.size+1) k
   refine .inr ⟨.inl k,c,e,?_⟩
   have q:=x.cell y c e
   rw[E7 CU hp hu (by show scope.names.lookup y≠_;rw[k];decide)] at q
   exact q
 ·exact e0.hok.fresh (Nat.le_of_lt (x.above y c (PySem.mem_of_lookup h)))
 ·unfold start
  show _=N.length
  rw[List.length_append,List.length_map,List.length_replicate]
  walk_at "o"
theorem Tt{CX:iy}{P:Program}{w:World}{K:PySem.W.Frag}{mg:Str->Option Value}{base:Heap}{k:Nat}{f:Addr}{name qual:Str}{params:Arguments}{body:List Stmt}{scope:Scope}{dV kV doc pm cdv ct oc:Value}{an od:Option Addr}
    {osl:Array (Option Value)} {N ps:List Str} {sp:Sp} (lk:K.lookup f=some ⟨oc,od, .func (PySem.W.fnOf name qual params body scope dV kV doc pm an cdv ct),osl⟩) (hcd:PySem.W.codeIn K cdv qual=true) (S:bL N ps scope)
    (len:∀vs H Q E,sp vs H Q E->vs.length=ps.length)
    (hbody:∀(A:Around) (outer:List Env) (s:Shared) (H:Hp) (vs:List V) (Q:VK) (E:XK),cG k (A.deeper (envOfC qual scope s.heap.objs.size f cdv))->sp vs H Q E->
      ∃t,gp (mF CX P w K mg base N qual scope f cdv A outer s H E) body t/\t {nx:=fun _ H'=>Q .aB H',rt:=Q} (start N vs) H):
    aS P w K mg base CX (k+1) f (PySem.W.fnOf name qual params body scope dV kV doc pm an cdv ct) ps sp:=by
  refine⟨len,fun A outer s H args us vs Q E hr e0 hb r jw=>?_⟩
  have hl:=len _ _ _ _ jw
  have KX:K.In s.heap:=e0.mod.nv.keeps fun b o e=>(e0.bs b o e).1
  have lim:s.heap.NoLimit:=e0.mod.nolimit.keeps fun b o e=>(e0.bs b o e).1
  have hkind:∀y∈ps.zip us,scope.names.lookup y.1=some .local\/(scope.names.lookup y.1=some .cell/\((cellsFrom (s.heap.objs.size+1) scope.names []).lookup y.1).isSome=true):=fun⟨n,v⟩ hy=>by
    rcases S.par n (List.of_mem_zip hy).1 with q|q
    · exact .inl q
    · exact .inr ⟨q,PySem.W.cellsFrom_some _ _ _ (.inl q)⟩
  refine codeAny_call_function hr.depth (KX _ _ lk) rfl S.co S.gen rfl (PySem.W.codeRec_of KX hcd) (hb _ _ _ _ ?_)
  refine wpAny_newFunctionEnv_cells S.kind hkind fun env he s1 x=>?_
  subst he
  refine⟨lim.keeps x.toInCall.keep,codeAny_func ?_⟩
  obtain⟨t,ht,hq⟩:=hbody A outer s H vs Q E (hr.deeper _) jw
  have I:Inv (mF CX P w K mg base N qual scope f cdv A outer s H E) [] (start N vs) H s1:=Vp S hr.hd e0 hl r x
  refine wpAny_mono (ht [] s1 (start N vs) H _ I hq) (fun fl s' hs=>?_) fun e s' hs=>hs
  have fin:∀{σ':St} {H':Hp} {v:V} {u:Value},Inv (mF CX P w K mg base N qual scope f cdv A outer s H E) [] σ' H' s'->RelV v u->Q v H'->CE outer P w H s Q u s':=
    fun{σ' H' v u} J rv q=>⟨v,H',J.os,J.bare,J.base,J.hok,rv,q⟩
  cases fl with
  | ret u =>
    obtain⟨v,σ',H',J,rv,q⟩:=hs
    exact fin J rv q
  | next =>
    obtain⟨σ',H',J,q⟩:=hs
    exact fin (v:=V.aB) (u:=Value.none) J rfl q
  | brk =>
    obtain⟨_,_,_,q⟩:=hs
    exact False.elim q
  | cont =>
    obtain⟨_,_,_,q⟩:=hs
    exact False.elim q
section
variable{X:Cx}{x:Str}{p pos:Pos}{e:Expr}{es:List Expr}{t:TA}{id T:String}{r:List V->Hp->VK->Prop}
noncomputable def dh(r:List V->Hp->VK->Prop)(t:TA):TE:=fun σ H Q=>t σ H fun vs H1=>r vs H1 Q
theorem bN(hc:dS X (.builtin id) r)(hg:Gl X x)(hm:X.mg x=none)(hv:bootBuiltins x=some (.builtin id))(ha:PA X (e::es) t)(hn:x≠"__name__":=by decide)(hdb:(x==("__debug__":Str))=false:=by decide)
  (he:starEach (e::es) X.env=(false,eval e X.env)::starEach es X.env:=by rfl) (hpl:(backTo pos (starEach es X.env)).any (·.1)=false:=by rfl):PE X (.Call (.Name x p) (e::es) [] pos) (dh r t):=by
 intro pins s σ H Q I h
 refine wpAny_Call_Name_kw (nP I hg hm hv ?_ hn hdb)
 exact PyProof.Rows.callWith_builtin1 (aG (ha pos pins s σ H _ I h) fun us s1 ⟨vs,H1,I1,r1,q1⟩=>hc pins s1 σ H1 vs us Q I1 r1 q1) he hpl
theorem eO(hc:dS X (.type T) r)(hg:Gl X x)(hm:X.mg x=none)(hv:bootBuiltins x=some (.type T))(ha:PA X (e::es) t)(hn:x≠"__name__":=by decide)(hdb:(x==("__debug__":Str))=false:=by decide)
  (he:starEach (e::es) X.env=(false,eval e X.env)::starEach es X.env:=by rfl) (hpl:(backTo pos (starEach es X.env)).any (·.1)=false:=by rfl):PE X (.Call (.Name x p) (e::es) [] pos) (dh r t):=by
 intro pins s σ H Q I h
 refine wpAny_Call_Name_kw (nP I hg hm hv ?_ hn hdb)
 exact PyProof.Rows.callWith_type1 (aG (ha pos pins s σ H _ I h) fun us s1 ⟨vs,H1,I1,r1,q1⟩=>hc pins s1 σ H1 vs us Q I1 r1 q1) he hpl
end
end L2
namespace HT
open PySem PyProof.Rows
section
open PySem.SeqAt
open PySem.AutoSeq1 (wpAny_loadPart')
open PySem.MeetsSeq PySem.MeetsSeq2 PySem.MeetsSeq3
end
section
variable{prog:Program}{w:World}{A:Around}{E:Value->Shared->Prop}{s:Shared}
noncomputable def cW(n d:Nat):Option Int->Nat
 |none=>d
 |some v=>if v<0 then(v+(n:Int)).toNat else min v.toNat n
end
end HT
namespace L2
open PySem PySem.Spec PyProof.Rows
noncomputable abbrev TO:=St->Hp->(Option Int->Hp->Prop)->Prop
noncomputable def PO(X:Cx)(e:Option Expr)(t:TO):Prop:=
 ∀(pins:List (Addr×Obj)) (s:Shared) (σ:St) (H:Hp) (Q:Option Int->Hp->Prop),Inv X pins σ H s->t σ H Q->
  wpAny (model X.prog X.w) X.A (evalPart e X.env) (fun u s'=>∃o H',Inv X pins σ H' s'/\IsPart u o/\Q o H') X.xe s
noncomputable def tT:TO:=fun _ H Q=>Q none H
noncomputable def uT(t:TE):TO:=fun σ H Q=>t σ H fun x H1=>∃i,x= .int i/\Q (some i) H1
section
variable{X:Cx}{e:Expr}{te:TE}{lo hi:Option Expr}{tl th:TO}{pos p2:Pos}
theorem ny:PO X none tT:=by
 intro pins s σ H Q I h
 rw[evalPart_none]
 exact wpAny_pure ⟨none,H,I, .none,h⟩
theorem mU(h:PE X e te):PO X (some e) (uT te):=by
 intro pins s σ H Q I hw
 rw[evalPart_some]
 refine aG (h pins s σ H _ I hw) fun u s1 ⟨x,H1,I1,r1,q1⟩=>?_
 obtain⟨i,rfl,q⟩:=q1
 obtain⟨t,rfl⟩:=r1
 exact⟨some i,H1,I1, .int i t,q⟩
noncomputable def Du(X:Cx)(r:V->Option Int->Option Int->Hp->VK->Prop):Prop:=
 ∀(pins:List (Addr×Obj)) (s:Shared) (σ:St) (H:Hp) (x:V) (v vl vu:Value) (lo hi:Option Int) (sl:Addr) (Q:VK),Inv X pins σ H s->RelV x v->s.heap.IsSliceOf sl vl vu .none->IsPart vl lo->IsPart vu hi->r x lo hi H Q->
  ∃T id,typeLookup (.type T) "__getitem__"=pure (some (.builtin id))/\s.TypeIs v T/\wpAny (model X.prog X.w) X.A (getItem v (.ref sl)) (EP X pins σ Q) X.xe s
noncomputable def nD(r:V->Option Int->Option Int->Hp->VK->Prop)(te:TE)(tl th:TO):TE:=fun σ H Q=>te σ H fun x H1=>tl σ H1 fun l H2=>th σ H2 fun u H3=>r x l u H3 Q
theorem oM{r:V->Option Int->Option Int->Hp->VK->Prop}(hr:Du X r)(he:PE X e te)(hl:PO X lo tl)(hu:PO X hi th):PE X (.Subscript e (.Slice lo hi none p2) pos) (nD r te tl th):=by
 intro pins s σ H Q I h
 refine Subscript_ (aG (he pins s σ H _ I h) fun v s1 ⟨x,H1,I1,r1,q1⟩=>?_)
 refine wpAny_Slice (aG (hl pins s1 σ H1 _ I1 q1) fun vl s2 ⟨l,H2,I2,pl,q2⟩=>aG (hu pins s2 σ H2 _ I2 q2) fun vu s3 ⟨u,H3,I3,pu,q3⟩=>?_)
 rw[evalPart_none]
 refine wpAny_pure ?_
 have I4:Inv X pins σ H3 {s3 with heap:=s3.heap.push {cls:= .type "slice",data:= .fields #[vl,vu, .none]}}:=I3.kept (t':=s3.toks) fun b ob q=>Heap.get?_push_of_some _ q
 obtain⟨T,id,hT,ht,hg⟩:=hr pins {s3 with heap:=s3.heap.push {cls:= .type "slice",data:= .fields #[vl,vu, .none]}} σ H3 x v vl vu l u s3.heap.objs.size Q I4 r1 (Heap.IsSliceOf.new ..) pl pu q3
 show wpAny (model X.prog X.w) X.A (subscriptTail e (.Slice lo hi none p2) v (.ref s3.heap.objs.size)) (EP X pins σ Q) X.xe {s3 with heap:=s3.heap.push {cls:= .type "slice",data:= .fields #[vl,vu, .none]}}
 exact tail_any (ops:=[.ref s3.heap.objs.size,v]) ht hT hg (by with_unfolding_all rfl)
noncomputable def i8(xs:List V)(lo hi:Option Int):List V:=(xs.drop (HT.cW xs.length 0 lo)).take (HT.cW xs.length xs.length hi-HT.cW xs.length 0 lo)
theorem Vw(xs:List V)(lo hi:Option Int):(i8 xs lo hi).length<=xs.length:=by
 unfold i8
 rw[List.length_take,List.length_drop]
 walk_at "o"
noncomputable def LM(K:PySem.W.Frag):V->Option Int->Option Int->Hp->VK->Prop:=fun x lo hi H Q=>∃a xs,x= .ref a/\d7 K H a xs/\
 ¬(HT.cW xs.length 0 lo=0/\HT.cW xs.length xs.length hi=xs.length)/\∀p,H p=none->Q (.ref p) (upd H p (.tup (i8 xs lo hi)))
noncomputable def FJ(K:PySem.W.Frag):R2:=fun x y H Q=>∃a b xs ys,x= .ref a/\y= .ref b/\d7 K H a xs/\d7 K H b ys/\xs≠[]/\xs.length+ys.length<=sizeLine/\
 (ys=[]->Q (.ref a) H)/\(ys≠[]->∀p,H p=none->Q (.ref p) (upd H p (.tup (xs++ys))))
end
noncomputable def eX(n:Nat)(i:Int):Option Nat:=if 0<=i then(if i<n then some i.toNat else none) else if-(n:Int)<=i then some (i+n).toNat else none
noncomputable def bF{α:Type}(xs:List α)(i:Int):Option α:=(eX xs.length i).bind fun j=>xs[j]?
theorem wV{n:Nat}{i:Int}{j:Nat}(h:eX n i=some j):seqIndex? i n=some j/\j<n/\ -(n:Int)<=i/\i<n:=by
 unfold eX at h
 by_cases h0:0<=i
 ·rw[if_pos h0] at h
  by_cases h1:i<n
  ·rw[if_pos h1] at h
   have e:i.toNat=j:=Option.some.inj h
   exact⟨by rw[seqIndex_of h0 h1,e],by walk_at "o",by walk_at "o",h1⟩
  ·rw[if_neg h1] at h;cases h
 ·rw[if_neg h0] at h
  by_cases h1: -(n:Int)<=i
  ·rw[if_pos h1] at h
   have e:(i+n).toNat=j:=Option.some.inj h
   exact⟨by rw[seqIndex_neg (by walk_at "o") h1,e],by walk_at "o",h1,by walk_at "o"⟩
  ·rw[if_neg h1] at h;cases h
theorem D7{α:Type}{xs:List α}{i:Int}{v:α}(h:bF xs i=some v):∃j,seqIndex? i xs.length=some j/\xs[j]?=some v/\j<xs.length/\ -(xs.length:Int)<=i/\i<xs.length:=by
  unfold bF at h
  cases e:eX xs.length i with
  |none=>rw[e] at h;cases h
  | some j =>
    rw[e] at h
    obtain⟨h1,h2,h3,h4⟩:=wV e
    exact⟨j,h1,h,h2,h3,h4⟩
theorem RS{α:Type}{xs:List α}{j:Nat}{v:α}(h:xs[j]?=some v):bF xs (j:Int)=some v:=by
 have hj:j<xs.length:=(List.getElem?_eq_some_iff.mp h).1
 have e:eX xs.length (j:Int)=some j:=by
  unfold eX
  rw[if_pos (by walk_at "o"),if_pos (by walk_at "o")];simp
 unfold bF;rw[e];exact h
noncomputable def OA(b:Expr):Prop:=∀o i,subscripted b false o i=operate [o,i] (getItem o i)
noncomputable def rO(X:Cx)(r:R2):Prop:=
 ∀(value slice:Expr) (pins:List (Addr×Obj)) (s:Shared) (σ:St) (H:Hp) (x y:V) (v u:Value) (Q:VK),Inv X pins σ H s->RelV x v->RelV y u->r x y H Q->
  subscripted slice false v u=operate [v,u] (getItem v u)->wpAny (model X.prog X.w) X.A (subscriptTail value slice v u) (EP X pins σ Q) X.xe s
noncomputable def B9(X:Cx)(id:String)(r:V->List V->Hp->VK->Prop):Prop:=
 ∀(pins:List (Addr×Obj)) (s:Shared) (σ:St) (H:Hp) (x:V) (xs:List V) (v:Value) (us:List Value) (Q:VK),Inv X pins σ H s->RelV x v->Vals xs us->r x xs H Q->
  wpAny (model X.prog X.w) X.A (call (.builtin id) (v::us)) (EP X pins σ Q) X.xe s
section
variable{X:Cx}{a b:Expr}{ta tb:TE}{pos:Pos}
theorem aK{r:R2}(hr:rO X r)(ha:PE X a ta)(hb:PE X b tb)(hs:OA b):PE X (.Subscript a b pos) (bZ r ta tb):=by
 intro pins s σ H Q I h
 exact Subscript_ (xY ha hb I h fun v u s2 x y H2 I2 rx ry q=>hr a b pins s2 σ H2 x y v u Q I2 rx ry q (hs _ _))
noncomputable def bU(K:PySem.W.Frag):R2:=fun x y H Q=>∃p xs i v,x= .ref p/\y= .int i/\aR K H p xs/\bF xs i=some v/\Q v H
noncomputable def eN(K:PySem.W.Frag):R2:=fun x y H Q=>∃p xs i v,x= .ref p/\y= .int i/\d7 K H p xs/\bF xs i=some v/\Q v H
noncomputable def IG:R2:=fun x y H Q=>∃z i c,x= .str z/\y= .int i/\z.length<=sizeLine/\bF z.cps.toList i=some c/\Q (.str ⟨#[c]⟩) H
theorem bu:rO X (bU X.K):=by
 intro value slice pins s σ H x y v u Q I rx ry h hs
 obtain⟨p,xs,i,z,rfl,rfl,hq,he,q⟩:=h
 cases rx
 obtain⟨t,rfl⟩:=ry
 obtain⟨its,r,pl,hz⟩:=I.list hq
 obtain⟨j,h1,h2,h3,h4,h5⟩:=D7 he
 obtain⟨w,ew,rw'⟩:=r.get h2
 have hl:=r.length
 have hn:=m5
 have fin:EP X pins σ Q w s:=⟨z,H,I,rw',q⟩
 by_cases h0:0<=i
 ·have hj:i.toNat=j:=by
   rw[seqIndex_of h0 h5] at h1
   exact Option.some.inj h1
  exact item_listR pl.isList h0 (by walk_at "o") (by rw[hj];simpa using ew) fin hs
 ·have hj:(i+(its.toArray.size:Int)).toNat=j:=by
   rw[seqIndex_neg (by walk_at "o") h4] at h1
   rw[List.size_toArray,<-hl]
   exact Option.some.inj h1
  exact subscriptTail_builtinR (x:=w) pl.isList.typeIs slot_list_getitem.lookup
   (wpAny_getItem_list_neg (Q:=fun r s'=>r=w/\EP X pins σ Q r s') pl.isList (by walk_at "o") (by rw[List.size_toArray]<;>walk_at "o") (by walk_at "o") (by rw[hj];simpa using ew) ⟨rfl,fin⟩) hs
theorem fP:rO X (eN X.K):=by
 intro value slice pins s σ H x y v u Q I rx ry h hs
 obtain⟨p,xs,i,z,rfl,rfl,hq,he,q⟩:=h
 cases rx
 obtain⟨t,rfl⟩:=ry
 obtain⟨its,r,pl,hz⟩:=I.tuple hq
 obtain⟨j,h1,h2,h3,h4,h5⟩:=D7 he
 obtain⟨w,ew,rw'⟩:=r.get h2
 have hl:=r.length
 have hn:=m5
 have fin:EP X pins σ Q w s:=⟨z,H,I,rw',q⟩
 exact subscriptTail_builtinR (x:=w) pl.typeIs slot_tuple_getitem.lookup
  (getItem_tuple (j:=j) (Q:=fun r s'=>r=w/\EP X pins σ Q r s') pl (by walk_at "o") (by walk_at "o") (by rw[List.size_toArray,<-hl];exact h1) (by simpa using ew) ⟨rfl,fin⟩) hs
noncomputable def J4(K:PySem.W.Frag):R2:=fun x y H Q=>bU K x y H Q\/eN K x y H Q\/IG x y H Q
theorem OG(its:List Value)(n j:Nat)(u:Value):Obj.mapSeq (·.setIfInBounds j u) {cls:= .type "list",data:= .seq its.toArray n}={cls:= .type "list",data:= .seq (its.set j u).toArray n}:=by
 simp[Obj.mapSeq]
theorem Inv.lst{pins:List (Addr×Obj)}{σ:St}{H:Hp}{s:Shared}{p:Addr}{xs:List V}(I:Inv X pins σ H s)(h:H p=some (.lst xs)):
  ∃(its:List Value) (n:Nat),Vals xs its/\s.heap.get? p=some {cls:= .type "list",data:= .seq its.toArray n}/\xs.length<=sizeLine:=by
 obtain⟨z,its,n,r,e⟩:=I.hok p _ h
 exact⟨its,n,r,e,z⟩
theorem Inv.Se{pins:List (Addr×Obj)}{σ:St}{H:Hp}{s:Shared}{p:Addr}{xs ys:List V}{its its':List Value}{n n':Nat}{f:Obj->Obj}(I:Inv X pins σ H s)(h:H p=some (.lst xs))
  (ho:s.heap.get? p=some {cls:= .type "list",data:= .seq its.toArray n}) (hf:f {cls:= .type "list",data:= .seq its.toArray n}={cls:= .type "list",data:= .seq its'.toArray n'}) (r:Vals ys its') (hz:ys.length<=sizeLine) (t:Nat):
  Inv X pins σ (upd H p (.lst ys)) {s with heap:=s.heap.update p f,toks:=t}:=by
 have e:(s.heap.update p f).get? p=some {cls:= .type "list",data:= .seq its'.toArray n'}:=by
  rw[Heap.get?_update_self f ho (by rw[hf]<;>rfl),hf]
 refine I.write (x:=p) (e:=p) (by rw[h];trivial) (.inl rfl) (fun b u hb q=>(Heap.get?_update_other _ _ (Ne.symm hb)).trans q) ⟨_,e⟩ ?_
 exact⟨hz,its',n',r,e⟩
noncomputable def mK:V->V->V->Hp->(Hp->Prop)->Prop:=fun o i v H Q=>∃p xs k j,o= .ref p/\i= .int k/\H p=some (.lst xs)/\eX xs.length k=some j/\Q (upd H p (.lst (xs.set j v)))
theorem set_list:uw X mK:=by
 intro pins s σ H o i v ov iv u Q I ro ri rv h
 obtain⟨p,xs,k,j,rfl,rfl,hp,hj,q⟩:=h
 cases ro
 obtain⟨t,rfl⟩:=ri
 obtain⟨its,n,r,ho,hz⟩:=I.lst hp
 obtain⟨h1,h2,h3,h4⟩:=wV hj
 have hl:=r.length
 have hn:=m5
 have I':Inv X pins σ (upd H p (.lst (xs.set j v))) {s with heap:=s.heap.update p (Obj.mapSeq (·.setIfInBounds j u))}:=
  I.Se hp ho (OG its n j u) (r.set rv j) (by rw[List.length_set];exact hz) s.toks
 by_cases h0:0<=k
 ·have hk:k.toNat=j:=by
   rw[seqIndex_of h0 h4] at h1
   exact Option.some.inj h1
  exact PySem.W.ki_setAt ho h0 (by walk_at "o") (by rw[List.size_toArray,<-hl];exact h4) (by rw[hk];exact⟨_,I',q⟩)
 ·have hk:(k+(its.toArray.size:Int)).toNat=j:=by
   rw[seqIndex_neg (by walk_at "o") h3] at h1
   rw[List.size_toArray,<-hl]
   exact Option.some.inj h1
  exact PySem.W.ki_setBack ho (by walk_at "o") (by rw[List.size_toArray,<-hl];exact h3) (by walk_at "o") (by rw[hk];exact⟨_,I',q⟩)
theorem Pe(lo hi:Option Int)(n:Nat):(sliceBounds lo hi none n).1=((HT.cW n 0 lo:Nat):Int)/\(sliceBounds lo hi none n).2.1=((HT.cW n n hi:Nat):Int)/\(sliceBounds lo hi none n).2.2=1:=by
  refine⟨?_,?_,rfl⟩
  · cases lo with
    |none=>simp[sliceBounds,HT.cW]
    | some i =>
      simp only[sliceBounds,HT.cW,Option.getD_none,show(1:Int)>0 by decide,if_true]
      by_cases h:i<0
      · simp only[h,if_true]<;>walk_at "o"
      · simp only[h,if_false]<;>walk_at "o"
  · cases hi with
    |none=>simp[sliceBounds,HT.cW]
    | some i =>
      simp only[sliceBounds,HT.cW,Option.getD_none,show(1:Int)>0 by decide,if_true]
      by_cases h:i<0
      · simp only[h,if_true]<;>walk_at "o"
      · simp only[h,if_false]<;>walk_at "o"
theorem Mu(its:List Value)(lo hi:Option Int):slicePick its.toArray lo hi none=((its.drop (HT.cW its.length 0 lo)).take (HT.cW its.length its.length hi-HT.cW its.length 0 lo)).toArray:=by
 obtain⟨h1,h2,h3⟩:=Pe lo hi its.toArray.size
 unfold slicePick
 rw[h1,h2,h3]
 simp only[sliceRange_one,pick_run,List.size_toArray]<;>rfl
noncomputable def kj(K:PySem.W.Frag):V->Option Int->Option Int->Hp->VK->Prop:=fun x lo hi H Q=>∃a xs,x= .ref a/\aR K H a xs/\∀p,H p=none->Q (.ref p) (upd H p (.lst (i8 xs lo hi)))
theorem mP:Du X (kj X.K):=by
 intro pins s σ H x v vl vu lo hi sl Q I rx hs pl pu h
 obtain⟨a,xs,rfl,hx,q⟩:=h
 cases rx
 obtain⟨its,r,ht,hz⟩:=I.list hx
 have hlen:=r.length
 refine⟨"list",_,slot_list_getitem.lookup,ht.isList.typeIs,?_⟩
 refine wpAny_getItem_list_slice ht.isList hs pl pu .none (by simp) ?_ (by rw[List.size_toArray]<;>walk_at "o")
 rw[Mu,<-hlen]
 refine⟨.ref s.heap.objs.size,_,I.laid (t':=s.toks) (o:= .lst (i8 xs lo hi)) (fun b ob q=>Heap.get?_push_of_some _ q) (Nat.le_refl _) ?_,rfl,q _ (I.hok.fresh (Nat.le_refl _))⟩
 exact⟨Nat.le_trans (Vw xs lo hi) hz,_,0,(r.drop (HT.cW xs.length 0 lo)).take (HT.cW xs.length xs.length hi-HT.cW xs.length 0 lo),Heap.get?_push_size _ rfl⟩
noncomputable def jm:V->Bool
 | .aB=>true
 | .bl _=>true
 | .int _=>true
 | .str _=>true
 |_=>false
noncomputable def jl:V->V->Bool
 | .aB, .aB=>true
 | .bl a, .bl b=>a==b
 | .bl a, .int b=>(if a then 1 else 0)==b
 | .int a, .bl b=>a==(if b then 1 else 0)
 | .int a, .int b=>a==b
 | .str a, .str b=>a==b
 |_,_=>false
theorem Nr{A:Around}{s:Shared}{y x:V}{u v:Value}(ry:RelV y u)(rx:RelV x v)(fy:jm y=true)(fx:jm x=true):SeqAt.EqAt A s u v (jl y x):=by
  cases y with
  | aB =>
    cases ry
    cases x with
    |aB=>cases rx;exact SeqAt.EqAt.same _
    |bl b=>cases rx;exact SeqAt.EqAt.none_bool b
    |int b=>obtain⟨t,rfl⟩:=rx;exact SeqAt.EqAt.none_int b t
    |str b=>obtain⟨t,rfl⟩:=rx;exact SeqAt.EqAt.none_str b t
    |_=>exact absurd (show false=true from fx) Bool.false_ne_true
  | bl a =>
    cases ry
    cases x with
    |aB=>cases rx;exact SeqAt.EqAt.bool_none a
    |bl b=>cases rx;exact SeqAt.EqAt.bool_bool a b
    |int b=>obtain⟨t,rfl⟩:=rx;exact SeqAt.EqAt.bool_int a b t
    |str b=>obtain⟨t,rfl⟩:=rx;exact SeqAt.EqAt.bool_str a b t
    |_=>exact absurd (show false=true from fx) Bool.false_ne_true
  | int a =>
    obtain⟨t',rfl⟩:=ry
    cases x with
    |aB=>cases rx;exact SeqAt.EqAt.int_none a t'
    |bl b=>cases rx;exact SeqAt.EqAt.int_bool a t' b
    |int b=>obtain⟨t,rfl⟩:=rx;exact SeqAt.EqAt.int_int a t' b t
    |str b=>obtain⟨t,rfl⟩:=rx;exact SeqAt.EqAt.int_str a t' b t
    |_=>exact absurd (show false=true from fx) Bool.false_ne_true
  | str a =>
    obtain⟨t',rfl⟩:=ry
    cases x with
    |aB=>cases rx;exact SeqAt.EqAt.str_none a t'
    |bl b=>cases rx;exact SeqAt.EqAt.str_bool a t' b
    |int b=>obtain⟨t,rfl⟩:=rx;exact SeqAt.EqAt.str_int a t' b t
    |str b=>obtain⟨t,rfl⟩:=rx;exact SeqAt.EqAt.str_str a t' b t
    |_=>exact absurd (show false=true from fx) Bool.false_ne_true
  |_=>exact absurd (show false=true from fy) Bool.false_ne_true
noncomputable def fJ(x:V)(u:Value):Bool:=match u with
 | .none=>jl .aB x
 | .bool b=>jl (.bl b) x
 | .int i _=>jl (.int i) x
 | .str z _=>jl (.str z) x
 |_=>false
theorem zO{x y:V}{u:Value}(r:RelV y u)(f:jm y=true):fJ x u=jl y x:=by
 cases y with
 |aB=>cases r;rfl
 |bl b=>cases r;rfl
 |int i=>obtain⟨t,rfl⟩:=r;rfl
 |str z=>obtain⟨t,rfl⟩:=r;rfl
 |_=>exact absurd (show false=true from f) Bool.false_ne_true
theorem oJ{x:V}:∀{xs:List V} {us:List Value},Vals xs us->xs.all jm=true->us.any (fJ x)=xs.any fun y=>jl y x
  |_,_, .nil,_=>rfl
  | y :: xs, u :: us, .cons r t, f => by
    rw[List.all_cons,Bool.and_eq_true] at f
    rw[List.any_cons,List.any_cons,zO r f.1,oJ t f.2]
theorem nk{A:Around}{s:Shared}{x:V}{v:Value}(rx:RelV x v)(fx:jm x=true):∀{xs:List V} {us:List Value},Vals xs us->xs.all jm=true->∀u∈us,SeqAt.EqAt A s u v (fJ x u)
  |_,_, .nil,_=>fun u hu=>by cases hu
  | y :: xs, u :: us, .cons r t, f => fun u' hu => by
    rw[List.all_cons,Bool.and_eq_true] at f
    rcases List.mem_cons.mp hu with rfl|hu
    · rw[zO r f.1];exact Nr r rx f.1 fx
    · exact nk rx fx t f.2 u' hu
noncomputable def iQ(x:V)(xs:List V):Bool:=xs.any fun y=>jl y x
noncomputable def lT(K:PySem.W.Frag)(neg:Bool):R2:=fun x y H Q=>∃p xs,y= .ref p/\(aR K H p xs\/d7 K H p xs)/\jm x=true/\xs.all jm=true/\Q (.bl (if neg then !iQ x xs else iQ x xs)) H
theorem P6:bT X (compareOp .In) (lT X.K false):=by
 intro pins s σ H x y v u Q I rx ry h
 obtain⟨p,xs,rfl,hq,fx,fs,q⟩:=h
 cases ry
 rcases hq with hq|hq
 ·obtain⟨its,r,pl,hz⟩:=I.list hq
  refine SeqAt.in_listAt (fJ x) pl.isList (fun w hw=>nk rx fx r fs w (by simpa using hw)) ⟨.bl _,H,I,rfl,?_⟩
  rw[show its.toArray.any (fJ x)=its.any (fJ x) by simp,oJ r fs]
  exact q
 ·obtain⟨its,r,pl,hz⟩:=I.tuple hq
  refine SeqAt.in_tupleAt (fJ x) pl (fun w hw=>nk rx fx r fs w (by simpa using hw)) ⟨.bl _,H,I,rfl,?_⟩
  rw[show its.toArray.any (fJ x)=its.any (fJ x) by simp,oJ r fs]
  exact q
theorem G9:bT X (compareOp .NotIn) (lT X.K true):=by
 intro pins s σ H x y v u Q I rx ry h
 obtain⟨p,xs,rfl,hq,fx,fs,q⟩:=h
 cases ry
 rcases hq with hq|hq
 ·obtain⟨its,r,pl,hz⟩:=I.list hq
  refine SeqAt.notIn_listAt (fJ x) pl.isList (fun w hw=>nk rx fx r fs w (by simpa using hw)) ⟨.bl _,H,I,rfl,?_⟩
  rw[show its.toArray.any (fJ x)=its.any (fJ x) by simp,oJ r fs]
  exact q
 ·obtain⟨its,r,pl,hz⟩:=I.tuple hq
  refine SeqAt.notIn_tupleAt (fJ x) pl (fun w hw=>nk rx fx r fs w (by simpa using hw)) ⟨.bl _,H,I,rfl,?_⟩
  rw[show its.toArray.any (fJ x)=its.any (fJ x) by simp,oJ r fs]
  exact q
theorem EZ:dS X (.builtin "len") (fun xs H Q=>∃p ys,xs=[.ref p]/\(aR X.K H p ys\/d7 X.K H p ys)/\Q (.int ys.length) H):=by
 intro pins s σ H xs us Q I r h
 obtain⟨p,ys,rfl,hq,q⟩:=h
 obtain⟨u,rfl,rx⟩:=vals1 r
 cases rx
 have hn:=m5
 rcases hq with hq|hq
 ·obtain⟨its,r',pl,hz⟩:=I.list hq
  have hlen:=r'.length
  exact Calls.call_len_list pl.isList (by simp only[List.size_toArray]<;>walk_at "o") ⟨.int ys.length,H,I.tok _,⟨s.toks+1,by rw[List.size_toArray,hlen]⟩,q⟩
 ·obtain⟨its,r',pl,hz⟩:=I.tuple hq
  have hlen:=r'.length
  exact len_tuple pl (by simp only[List.size_toArray]<;>walk_at "o") ⟨.int ys.length,H,I.tok _,⟨s.toks+1,by rw[List.size_toArray,hlen]⟩,q⟩
theorem HY:dS X (.type "list") (fun xs H Q=>∃p ys,xs=[.ref p]/\(aR X.K H p ys\/d7 X.K H p ys)/\∀l,H l=none->Q (.ref l) (upd H l (.lst ys))):=by
 intro pins s σ H xs us Q I r h
 obtain⟨p,ys,rfl,hq,q⟩:=h
 obtain⟨u,rfl,rx⟩:=vals1 r
 cases rx
 have fin:∀(its:List Value),Vals ys its->ys.length<=sizeLine->∀(h':Heap) (c':Nat),(∀b o',s.heap.get? b=some o'->h'.get? b=some o')->
   h'.get? s.heap.objs.size=some {cls:= .type "list",dict:=none,data:= .seq its.toArray c',slots:= #[]}->EP X pins σ Q (.ref s.heap.objs.size) {s with heap:=h'}:=fun its r' hz h' c' kp e=>
  ⟨.ref s.heap.objs.size,_,I.laid (t':=s.toks) kp (Nat.le_refl _) (show cz X.prog X.w _ h' _ (.lst ys) from⟨hz,its,c',r',e⟩),rfl,q _ (I.hok.fresh (Nat.le_refl _))⟩
 rcases hq with hq|hq
 ·obtain⟨its,r',pl,hz⟩:=I.list hq
  have hlen:=r'.length
  obtain⟨o,ho,hc,n,hd⟩:=pl.isList
  exact call_list_seq p (.inl rfl) ho hc hd (fun h' c' kp e=>fin its r' hz h' c' kp e) (by simp only[List.size_toArray]<;>walk_at "o")
 ·obtain⟨its,r',pl,hz⟩:=I.tuple hq
  have hlen:=r'.length
  obtain⟨o,ho,hc,n,hd⟩:=pl
  exact call_list_seq p (.inr rfl) ho hc hd (fun h' c' kp e=>fin its r' hz h' c' kp e) (by simp only[List.size_toArray]<;>walk_at "o")
noncomputable def D5(K:PySem.W.Frag)(T:String)(x:V)(H:Hp):Prop:=match x with
 | .str _=>T="str"
 | .int _=>T="int"
 | .ref p => (T = "list" /\ ∃ xs, aR K H p xs) \/ (T = "tuple" /\ ∃ o, K.lookup p = some o /\ o.cls = .type "tuple" /\ o.dict = none) \/
   (T="dict" /\((∃kvs,H p=some (.dK kvs))\/(∃kvs,H p=some (.dT kvs))\/∃o kvs,H p=some (.eV o (.dK kvs))))\/(T="set" /\∃S n,H p=some (.set S n))
 |_=>False
theorem Pz{pins:List (Addr×Obj)}{σ:St}{H:Hp}{s:Shared}{T:String}{x:V}{v:Value}(I:Inv X pins σ H s)(r:RelV x v)(ty:D5 X.K T x H):
    s.TypeIs v T/\∀a,v= .ref a->∃ob,s.heap.get? a=some ob/\ob.dict=none:=by
  cases x with
  | str z =>
    obtain⟨t,rfl⟩:=r
    cases (show T="str" from ty)
    exact⟨typeIs_str s z t,fun _ e=>nomatch e⟩
  | int i =>
    obtain⟨t,rfl⟩:=r
    cases (show T="int" from ty)
    exact⟨typeIs_int s i t,fun _ e=>nomatch e⟩
  | ref p =>
    cases r
    rcases ty with ⟨rfl,xs,hq⟩|⟨rfl,o,hk,hc,hd⟩|⟨rfl,hk⟩|⟨rfl,S,n,hk⟩
    · obtain⟨its,_,pl,_⟩:=I.list hq
      refine⟨pl.isList.typeIs,fun a e=>?_⟩
      cases e
      obtain⟨o,n,e,c,hd,_⟩:=pl
      exact⟨o,e,hd⟩
    · refine⟨⟨o,I.cK p o hk,hc⟩,fun a e=>?_⟩
      cases e
      exact⟨o,I.cK _ o hk,hd⟩
    · have z:∃o,s.heap.get? p=some o/\o.ExactDict:=by
        rcases hk with ⟨kvs,hk⟩|⟨kvs,hk⟩|⟨ob,kvs,hk⟩
        · obtain⟨_,_,_,_,o,_,_,e,ex,_⟩:=I.hok p _ hk
          exact⟨o,e,ex⟩
        · obtain⟨_,_,_,_,o,_,_,e,ex,_⟩:=I.hok p _ hk
          exact⟨o,e,ex⟩
        · obtain⟨_,_,_,_,_,o,_,_,e,ex,_⟩:=I.hok p _ hk
          exact⟨o,e,ex⟩
      obtain⟨o,e,ex⟩:=z
      refine⟨⟨o,e,ex.1⟩,fun a e2=>?_⟩
      cases e2
      exact⟨o,e,ex.2.1⟩
    · obtain⟨o,_,_,_,e,ex,_⟩:=I.hok p _ hk
      refine⟨⟨o,e,ex.1⟩,fun a e2=>?_⟩
      cases e2
      exact⟨o,e,ex.2.1⟩
  |_=>exact False.elim ty
noncomputable def kT(K:PySem.W.Frag)(T:String)(r:V->List V->Hp->VK->Prop)(to:TE)(t:TA):TE:=fun σ H Q=>to σ H fun x H1=>D5 K T x H1/\t σ H1 fun xs H2=>r x xs H2 Q
variable{o e:Expr}{es:List Expr}{to:TE}{t:TA}{name:Str}{apos cpos:Pos}{T id:String}{r:V->List V->Hp->VK->Prop}
theorem qm(pa:PlainAttrs T)(slot:Slot T name id)(hty:typeOf (.builtin id)=pure (.type "method_descriptor"))(hm:B9 X id r)(ho:PE X o to)(ha:PA X (e::es) t)
  (hbase:attributeBase o name X.env (eval o X.env)=eval o X.env:=by rfl)
  (hfew : ((backTo cpos (starEach (e :: es) X.env)).all (fun x => !x.1) && (backToKw cpos (keywordEach [] X.env)).all (fun x => x.1.isSome)
   && decide ((e::es).length+([]:List Keyword).length+(if([]:List Keyword).isEmpty then 0 else 1)<30))=true:=by rfl)
  (hline:(apos.endLine==cpos.line)=true:=by rfl) (hs:starEach (e::es) X.env=(false,eval e X.env)::starEach es X.env:=by rfl) (hplain:(backTo cpos (starEach es X.env)).any (·.1)=false:=by rfl):
  PE X (.Call (.Attribute o name apos) (e::es) [] cpos) (kT X.K T r to t):=by
 intro pins s σ H Q I h
 refine wpAny_Call_method_late hbase hfew hline rfl (aG (ho pins s σ H _ I h) fun v s1 ⟨x,H1,I1,r1,ty,q1⟩=>?_)
 obtain⟨h1,h2⟩:=Pz I1 r1 ty
 refine⟨T,id,pa,slot,hty,h1,h2,?_⟩
 have hA:=ha cpos pins s1 σ H1 _ I1 q1
 rw[hs] at hA⊢
 refine Calls.callWith_builtin (by show(false||(backTo cpos (starEach es X.env)).any (·.1))=false;rw[hplain]<;>rfl) (Calls.evalArgs_plain ?_)
 exact aG hA fun us s2 ⟨vs,H2,I2,r2,q2⟩=>hm pins s2 σ H2 x vs v us Q I2 r1 r2 q2
/-xs.append(e),list.index on a module's tuple .. are B9 facts of 06m-/
end
noncomputable def rE(X:Cx)(id:String)(r:V->List V->Hp->VK->Prop):Prop:=
 ∀(pins:List (Addr×Obj)) (s:Shared) (σ:St) (H:Hp) (x:V) (xs:List V) (v:Value) (us:List Value) (Q:VK),Inv X pins σ H s->RelV x v->Vals xs us->r x xs H Q->
  wpAny (model X.prog X.w) X.A (call (.builtin id) (v::us)) (EP X pins σ Q) X.xe s
theorem Vals.one{x:V}{us:List Value}(h:Vals [x] us):∃u,us=[u]/\RelV x u:=by
 cases h with
 |cons r t=>cases t;exact⟨_,rfl,r⟩
theorem Vals.two{x y:V}{us:List Value}(h:Vals [x,y] us):∃u v,us=[u,v]/\RelV x u/\RelV y v:=by
  cases h with
  | cons r t =>
    obtain⟨v,e,q⟩:=Vals.one t
    exact⟨_,v,by rw[e],r,q⟩
theorem Vals.dropLast{xs:List V}{us:List Value}(h:Vals xs us):Vals xs.dropLast us.dropLast:=by
  induction h with
  |nil=>exact .nil
  | cons r t ih =>
    cases t with
    |nil=>exact .nil
    |cons q t'=>exact .cons r ih
theorem Vals.eraseIdx:∀{xs:List V} {us:List Value} (i:Nat),Vals xs us->Vals (xs.eraseIdx i) (us.eraseIdx i)
 |_,_,_, .nil=> .nil
 |_,_,0, .cons _ t=>t
 |_,_,i+1, .cons r t=> .cons r (Vals.eraseIdx i t)
theorem E6{α:Type}:∀(l:List α) (i:Nat),(l.eraseIdx i).length<=l.length
 |[],_=>Nat.le_refl _
 |_::_,0=>Nat.le_succ _
 |_::r,i+1=>Nat.succ_le_succ (E6 r i)
section
variable{X:Cx}{pins:List (Addr×Obj)}{σ:St}{H:Hp}{s:Shared}{l b:Addr}{xs ys zs:List V}
theorem Inv.tu{its its':List Value}{n:Nat}{f:Array Value->Array Value}{t':Nat}(I:Inv X pins σ H s)(hH:H l=some (.lst xs))
  (e:s.heap.get? l=some {cls:= .type "list",data:= .seq its.toArray n}) (hf:f its.toArray=its'.toArray) (hv:Vals ys its') (hz:ys.length<=sizeLine):
  Inv X pins σ (upd H l (.lst ys)) {s with heap:=s.heap.update l (Obj.mapSeq f),toks:=t'}:=by
 have q:=PySem.IsL.update e f
 rw[hf] at q
 refine I.write (x:=l) (e:=l) (by rw[hH];exact trivial) (.inl rfl) (fun b' u hb hu=>(Heap.get?_update_other s.heap (Obj.mapSeq f) (Ne.symm hb)).trans hu) ⟨_,q⟩ ?_
 exact⟨hz,its',_,hv,q⟩
theorem Inv.C1{its:List Value}{t':Nat}(I:Inv X pins σ H s)(hv:Vals ys its)(hz:ys.length<=sizeLine):
  Inv X pins σ (upd H s.heap.objs.size (.lst ys)) {s with heap:=s.heap.push {cls:= .type "list",data:= .seq its.toArray},toks:=t'}:=
 I.laid (fun _ _ q=>Heap.get?_push_of_some _ q) (Nat.le_refl _) ⟨hz,its,0,hv,Heap.get?_push_size _ rfl⟩
theorem Inv.fresh(I:Inv X pins σ H s):H s.heap.objs.size=none:=I.hok.fresh (Nat.le_refl _)
theorem Inv.mz(I:Inv X pins σ H s)(hH:H l=some (.lst xs)):xs.length<=sizeLine/\∃(its:List Value) (n:Nat),Vals xs its/\xs.length=its.length/\s.heap.get? l=some {cls:= .type "list",data:= .seq its.toArray n}:=by
 obtain⟨z,its,n,r,e⟩:=I.hok l _ hH
 exact⟨z,its,n,r,r.length,e⟩
theorem HZ{n:Nat}(h:n<=sizeLine):Builtin.List.listTooLong n=false:=by
 unfold Builtin.List.listTooLong
 exact decide_eq_false (by walk_at "o")
end
section
variable{X:Cx}
noncomputable def D8:V->List V->Hp->VK->Prop:=fun x vs H Q=>∃l xs y,x= .ref l/\vs=[y]/\H l=some (.lst xs)/\xs.length<sizeLine/\Q .aB (upd H l (.lst (xs++[y])))
theorem sL:rE X "list.append" D8:=by
 intro pins s σ H x vs v us Q I rx rv h
 obtain⟨l,xs,y,rfl,rfl,hH,hz,q⟩:=h
 cases rx
 obtain⟨u,rfl,ru⟩:=rv.one
 obtain⟨z,its,n,r,hl,e⟩:=I.mz hH
 refine call_meets F.slot_list_append ⟨_,e,rfl⟩ F.entry_list_append (F.args_list_append_2 _ _) (PySem.list_append l its.toArray n u (by rw[List.size_toArray];walk_at "o")) ⟨e,?_⟩
 refine⟨.aB,_,I.tu (its':=its++[u]) hH e (by simp) (r.append (.cons ru .nil)) ?_,rfl,q⟩
 rw[List.length_append,List.length_singleton]
 walk_at "o"
noncomputable def Ro:V->List V->Hp->VK->Prop:=fun x vs H Q=>∃l b xs zs,x= .ref l/\vs=[.ref b]/\H l=some (.lst xs)/\H b=some (.lst zs)/\xs.length+zs.length<=sizeLine/\Q .aB (upd H l (.lst (xs++zs)))
theorem WR:rE X "list.extend" Ro:=by
 intro pins s σ H x vs v us Q I rx rv h
 obtain⟨l,b,xs,zs,rfl,rfl,hH,hB,hz,q⟩:=h
 cases rx
 obtain⟨u,rfl,ru⟩:=rv.one
 cases ru
 obtain⟨z,its,n,r,hl,e⟩:=I.mz hH
 obtain⟨z2,its2,n2,r2,hl2,e2⟩:=I.mz hB
 have hsz:its.toArray.size+its2.toArray.size<=sizeLine:=by rw[List.size_toArray,List.size_toArray];walk_at "o"
 have Hj:¬(!its.toArray.isEmpty && Builtin.List.listTooLong (its.toArray.size+its2.toArray.size))=true:=by
  rw[HZ hsz,Bool.and_false]
  exact Bool.false_ne_true
 refine call_meets F.slot_list_extend ⟨_,e,rfl⟩ F.entry_list_extend (F.args_list_extend_2 _ _)
  (AutoSeq1.list_extend_list_list_0 l its.toArray n b its2.toArray n2 Hj (by rw[List.size_toArray];walk_at "o") (by walk_at "o")) ⟨e,e2,?_⟩
 refine⟨.aB,_,I.tu (its':=its++its2) hH e (by simp) (r.append r2) ?_,rfl,q⟩
 rw[List.length_append]
 walk_at "o"
noncomputable def Cv:V->List V->Hp->VK->Prop:=fun x vs H Q=>∃l xs i k y,x= .ref l/\vs=[.int i]/\H l=some (.lst xs)/\ -(2^63)<=i/\i<2^63/\seqIndex? i xs.length=some k/\xs[k]?=some y/\Q y (upd H l (.lst (xs.eraseIdx k)))
theorem Iw:rE X "list.pop" Cv:=by
 intro pins s σ H x vs v us Q I rx rv h
 obtain⟨l,xs,i,k,y,rfl,rfl,hH,h1,h2,hk,hy,q⟩:=h
 cases rx
 obtain⟨u,rfl,ru⟩:=rv.one
 obtain⟨t,rfl⟩:=ru
 obtain⟨z,its,n,r,hl,e⟩:=I.mz hH
 obtain⟨w,hw,rw'⟩:=r.get hy
 refine call_meets F.slot_list_pop ⟨_,e,rfl⟩ F.entry_list_pop (F.args_list_pop_2 _ _)
  (MeetsSeq.list_pop_at l its.toArray n i t k w (fitsIndex_both h1 h2) (by rw[List.size_toArray,<-hl];exact hk) (by rw[<-Array.getElem?_toList];exact hw) (by rw[List.size_toArray];walk_at "o")) ⟨e,?_⟩
 refine⟨y,_,I.tu (its':=its.eraseIdx k) hH e ?_ (r.eraseIdx k) ?_,rw',q⟩
 ·show its.toArray.eraseIdxIfInBounds k=(its.eraseIdx k).toArray
  rw[List.eraseIdxIfInBounds_toArray]
 ·have:=E6 xs k
  walk_at "o"
noncomputable def rW:R2:=fun x y H Q=>∃l b xs zs,x= .ref l/\y= .ref b/\H l=some (.lst xs)/\H b=some (.lst zs)/\xs.length+zs.length<=sizeLine/\∀p,H p=none->Q (.ref p) (upd H p (.lst (xs++zs)))
theorem xy:bT X (binaryOp .Add) rW:=by
 intro pins s σ H x y v u Q I rx ry h
 obtain⟨l,b,xs,zs,rfl,rfl,hH,hB,hz,q⟩:=h
 cases rx
 cases ry
 obtain⟨z,its,n,r,hl,e⟩:=I.mz hH
 obtain⟨z2,its2,n2,r2,hl2,e2⟩:=I.mz hB
 refine PySem.P.add_list e e2 ?_ (by rw[List.size_toArray,List.size_toArray];walk_at "o")
 have ea:its.toArray++its2.toArray=(its++its2).toArray:=by simp
 rw[ea]
 exact⟨.ref _,_,I.C1 (t':=s.toks) (r.append r2) (by rw[List.length_append];walk_at "o"),rfl,q _ I.fresh⟩
end
end L2
namespace Att
open PySem PySem.W PySem.Calls PyProof.Rows
theorem Fe{P:Params}{h:Heap}:∀(ns:List Int) (vs:List Value),WellAll P h vs (ns.map WData.int)->IntsAre vs ns:=by
  intro ns
  induction ns with
  | nil =>
    intro vs w
    rw[List.map_nil] at w
    cases w
    exact .nil
  | cons n ns ih =>
    intro vs w
    rw[List.map_cons] at w
    cases w with
    | cons a b =>
      cases a
      exact .cons _ _ (ih _ b)
theorem MX{l:OpenLaw}{n:Nat}(hn:l.most=some n){P:Params}{h:Heap}{args:List WData}{vals:List Value}
    (hpre:l.row.toRowW.claim.pre args=true) (hwl:WellAll P h vals args):
    ∃a vs ns,vals=[Value.ref a]/\args=[WData.list (ns.map WData.int)]/\h.get? a=some {cls:= .type "list",data:= .seq vs.toArray}/\IntsAre vs ns/\ns.length<=n:=by
  have hsh:WShape.hasAll [] args [.list .int]=true:=(pre_splitW hpre).1
  have hc:l.pre.holds [] {args:=args}=true:=(pre_splitW hpre).2
  obtain⟨d,r,rfl,h1,h2⟩:=hasAllW_cons hsh
  obtain rfl:=hasAllW_nil h2
  obtain⟨xs,rfl,h3⟩:=hasW_list h1
  obtain⟨ns,rfl⟩:=items_int h3
  have hlen:ns.length<=n:=by
    unfold OpenLaw.pre at hc
    have h4:(WTm.not (.lt (.lit (.int (n:Int))) (.len (.arg 0)))).holds [] {args:=[.list (ns.map .int)]}=true:=by
      have h4:=(holds_andW hc).1
      rw[hn] at h4
      exact h4
    have h5:=condW_of h4 (w_not (w_lt w_lit (w_len_list (w_arg rfl))))
    rw[List.length_map] at h5
    refine Nat.le_of_not_lt fun q=>?_
    have q':(n:Int)<((ns.length:Nat):Int):=by walk_at "o"
    first
      |(rw[decide_eq_true q'] at h5;exact absurd h5 (by decide))
      |(simp at h5;walk_at "o")
  cases hwl with
  | cons w1 w2 =>
    cases w2
    cases w1 with
    |list ho hall=>exact⟨_,_,ns,rfl,rfl,ho,Fe ns _ hall,hlen⟩
theorem O8(l:OpenLaw)(args:List WData):l.row.toRowW.claim.post args (.bool true) args=true:=
 postW_of (r:=l.row.toRowW) (X:=(true==true))
  (show WShape.has [] (.bool true) .bool=true by first|rfl|decide|simp[WShape.has,WShape.arms,WShape.armsAll])
  (show(WTm.eq .res (.lit (.bool true))).value [] {args:=args,res:=some (.bool true),after:=args}=some (.bool (true==true)) from w_eq_bool (w_res rfl) w_lit) rfl
theorem G6{l:OpenLaw}{n:Nat}{q:Program}{loose:List Str}{XP:(Str->Option Value)->Heap->Prop}{YP:World->Heap->Prop}{d:DefRec}
  (hn:l.most=some n) (hdf:d.params.defaults=[])
  (call : ∀ (w : World) (s₀ s₁ : Shared) (mg mb : Str -> Option Value) (fa : Addr) (o : Obj) (pm cd doc : Value) (a : Addr) (vs : List Value) (ns : List Int),
   Ground q loose [] XP w s₀ mg mb s₁.heap->YP w s₁.heap->
   s₁.heap.get? fa=some o->o.data= .func (docDef d.name d.params d.body d.scope pm cd doc)->s₁.heap.CodeRec cd d.name->mg d.name=some (.ref fa)->
   s₁.heap.get? a=some {cls:= .type "list",data:= .seq vs.toArray}->IntsAre vs ns->ns.length<=n->s₁.gens= #[]->
   codeAny (model l.prog w) callerA (.call (.ref fa) ⟨[.ref a],[]⟩) (fun r s'=>r= .ok (.ret (.bool true))/\OldK s₁.heap s'.heap/\s'.os=s₁.os/\AllBare s'.gens) s₁):
  WalkO q loose XP YP l.row.toRowW d [] (fun f vs=>PySem.call f vs):=by
 intro w s₀ s₁ mg mb G Y fa o pm cd doc dV kV ho hd hcd hD hmg hg args vals as hpre hlay hrd hwl hlo
 obtain rfl:dV= .none:=Dflts.none hD hdf
 obtain rfl:kV= .none:=Dflts.noKw hD
 obtain⟨a,vs,ns,rfl,rfl,hobj,hints,hlen⟩:=MX hn hpre hwl
 refine enter_call (codeAny_mono (call w s₀ s₁ mg mb fa o pm cd doc a vs ns G Y ho (fd_plain hd) hcd hmg hobj hints hlen hg) fun r s' hq=>?_)
 obtain⟨rfl,h2,h3,h4⟩:=hq
 exact⟨.inl ⟨.bool true, .bool true,[],rfl,fun _=>rfl, .bool true,O8 l _,fun _=>⟨List.Pairwise.nil,fun _ hm=>(nomatch hm)⟩⟩,h2,h3,h4⟩
section
variable{prog:Program}{w:World}{A:Around}{E:Value->Shared->Prop}{s:Shared}{K:Frag}
noncomputable def ledger(h:Heap)(L d:Addr):List (Addr×Obj):=(List.range h.objs.size).filterMap fun a=>if a=L\/a=d then none else(h.get? a).map fun o=>(a,o)
end
end Att
namespace L2
open PySem PySem.Spec PyProof.Rows
theorem EW:∀{vs:List Value} {ns:List Int},IntsAre vs ns->Vals (ns.map V.int) vs
 |_,_, .nil=> .nil
 |_,_, .cons n t h=> .cons ⟨t,rfl⟩ (EW h)
noncomputable def xC(H:Hp):Prop:=∀b,H b=none\/∃o xs,H b=some (.eV o (.lst xs))
theorem HM{P:Program}{w:World}{K:PySem.W.Frag}{mg mb:Str->Option Value}{CX:iy}{k:Nat}{fa a:Addr}{fd:FuncData}{x:Str}{sp:Sp}{s₁:Shared}{vs:List Value}{ns:List Int}
    (KX:K.In s₁.heap) (hns:s₁.heap.Ns mainGlobals mg) (hb:s₁.heap.Ns builtinsNs mb) (Vn:∀x:Str,x≠"__name__" ->mb x=bootBuiltins x) (hlim:s₁.heap.NoLimit) (hg:s₁.gens= #[])
    (ha:s₁.heap.get? a=some {cls:= .type "list",data:= .seq vs.toArray}) (hi:IntsAre vs ns) (hl:ns.length<=sizeLine) (hr:cG k callerA)
    (F:∀base:Heap,K.In base->base.Ns mainGlobals mg->aS P w K mg base CX k fa fd [x] sp) (hbind:∀(s:Shared) (u:Value),BindsTo s fd ⟨[u],[]⟩ [(x,u)])
    (jw:∀H:Hp,xC H->aR K H a (ns.map V.int)->sp [.ref a] H (fun v _=>v= .bl true) fun _ _ _=>False)
    (wD:∀H e s',CX [] H s₁ (fun _ _ _=>False) e s'->False):
    codeAny (model P w) callerA (.call (.ref fa) ⟨[.ref a],[]⟩) (fun r s'=>r= .ok (.ret (.bool true))/\OldK s₁.heap s'.heap/\s'.os=s₁.os/\AllBare s'.gens) s₁:=by
  have rv:=EW hi
  have L5:=hi.length
  have core:∀H:Hp,xC H->aR K H a (ns.map V.int)->cy P w H s₁.heap->(∀b,H b≠none->b=a)->(H a≠none->K.lookup a=none)->
      codeAny (model P w) callerA (.call (.ref fa) ⟨[.ref a],[]⟩) (fun r s'=>r= .ok (.ret (.bool true))/\OldK s₁.heap s'.heap/\s'.os=s₁.os/\AllBare s'.gens) s₁:=by
    intro H hO hS hok hA hK
    have Ea:∀{b:Addr} {o:Obj},s₁.heap.get? b=some o->H b=none->(i9 s₁.heap H).get? b=some o:=fun e n=>QY e n
    have nR:∀{b:Addr} {o:Obj} {es:Array DictEntry} {ep:Nat},s₁.heap.get? b=some o->o.data= .dict es ep->H b=none:=fun{b o es ep} e d=>by
      cases q:H b with
      |none=>rfl
      | some u =>
        have e':b=a:=hA b (by rw[q];simp)
        subst e'
        rw[ha] at e;cases e
        have d':Data.seq vs.toArray _=Data.dict es ep:=d
        cases d'
    have qc:∀{b:Addr} {m:Str->Option Value},s₁.heap.Ns b m->(i9 s₁.heap H).Ns b m:=fun{b m} ⟨o,es,ep,e,d,r⟩=>⟨o,es,ep,Ea e (nR e d),d,r⟩
    have BG:K.In (i9 s₁.heap H):=fun b o e=>Ea (KX b o e) (by
      cases q:H b with
      |none=>rfl
      | some u =>
        have e':b=a:=hA b (by rw[q];simp)
        subst e'
        rw[hK (by rw[q];simp)] at e;cases e)
    have hM:Mod K mg (i9 s₁.heap H):=⟨BG,qc hns,⟨mb,qc hb,Vn⟩,let ⟨mc,h1,h2⟩:=hlim;⟨mc,qc h1,h2⟩⟩
    have e0:kD P w K mg (i9 s₁.heap H) callerA [] s₁ H:=⟨rfl,hM,fun b o e=>R8 e,Nat.le_of_eq (Sh _ _),trivial,fun b hb=>absurd (show b∈([]:List Addr) from hb) (by simp),hok, .of_eq hg⟩
    refine codeAny_mono ((F _ BG (qc hns)).run callerA [] s₁ H ⟨[.ref a],[]⟩ [.ref a] [.ref a] _ _ hr e0 (hbind s₁ (.ref a)) (.cons rfl .nil) (jw H hO hS)) fun r s' h=>?_
    cases r with
    |error e=>exact(wD H e s' h).elim
    | ok fl =>
      cases fl with
      |next=>exact False.elim h
      |brk=>exact False.elim h
      |cont=>exact False.elim h
      | ret u =>
        obtain⟨v,H',os,bare,un,ux,r',q⟩:=h
        have q':v= .bl true:=q
        subst q'
        obtain rfl:u=Value.bool true:=r'
        refine⟨rfl,OldK.of_keep fun b o e=>?_,os,bare⟩
        cases q:H b with
        |none=>exact un.keep b o e q (by intro z;exact absurd (show b∈([]:List Addr) from z) (by simp)) (by simp)
        | some u =>
          rcases hO b with z|⟨ob,xs,z⟩
          · rw[q] at z;cases z
          · have z2:=un.iX b ob _ z
            obtain⟨e1,_⟩:=hok b _ z
            obtain⟨e2,_⟩:=ux b _ z2
            rw[e] at e1;cases e1
            exact e2
  cases hk:K.lookup a with
  | some o =>
    have e:=KX a o hk
    rw[ha] at e
    cases e
    refine core (fun _=>none) (fun _=> .inl rfl) (.inr ⟨_,vs.toArray,_,hk,rfl,rfl,rfl,by rw[List.size_toArray,L5];exact hl,by simpa using rv⟩) (fun b u z=>by have z':(none:Option HO)=some u:=z;cases z') (fun b z=>absurd rfl z) fun z=>absurd rfl z
  | none =>
    refine core (fun b=>if b=a then some (.eV {cls:= .type "list",data:= .seq vs.toArray} (.lst (ns.map V.int))) else none) (fun b=>?_) (.inl (.inr ⟨{cls:= .type "list",data:= .seq vs.toArray},if_pos rfl⟩)) (fun b u z=>?_) (fun b z=>?_) fun _=>hk
    · by_cases hb:b=a
      · exact .inr ⟨_,_,if_pos hb⟩
      · exact .inl (if_neg hb)
    · by_cases hb:b=a
      · have z':=(if_pos hb).symm.trans z
        cases z'
        subst hb
        exact⟨ha,by rw[List.length_map];exact hl,vs,_,rv,ha⟩
      · have z':=(if_neg hb).symm.trans z
        cases z'
    · by_cases hb:b=a
      · exact hb
      · exact absurd (if_neg hb) z
theorem QO{l:PySem.W.OpenLaw}{n k:Nat}{q:Program}{loose:List Str}{XP:(Str->Option Value)->Heap->Prop}{YP:World->Heap->Prop}{d:DefRec}{K:Params->PySem.W.Frag}{CX:World->iy}{sp:World->Sp}{x:Str}
  (hn:l.most=some n) (hn2:n<=sizeLine) (hdf:d.params.defaults=[]) (hr:cG k callerA)
  (hY:∀(w:World) (h:Heap),YP w h->(K w.params).In h)
  (F : ∀ (w : World) (mg : Str -> Option Value) (fa : Addr) (h : Heap), (K w.params).In h -> h.Ns mainGlobals mg -> mg d.name = some (.ref fa) ->
   ∃fd:FuncData,(∀(s:Shared) (u:Value),BindsTo s fd ⟨[u],[]⟩ [(x,u)])/\
    ∀base:Heap,(K w.params).In base->base.Ns mainGlobals mg->aS l.prog w (K w.params) mg base (CX w) k fa fd [x] (sp w))
  (jw:∀(w:World) (H:Hp) (a:Addr) (ns:List Int),ns.length<=n->xC H->aR (K w.params) H a (ns.map V.int)->sp w [.ref a] H (fun v _=>v= .bl true) fun _ _ _=>False)
  (wD:∀(w:World) (H:Hp) (s:Shared) (e:Value) (s':Shared),CX w [] H s (fun _ _ _=>False) e s'->False):
  PySem.W.WalkO q loose XP YP l.row.toRowW d [] (fun f vs=>PySem.call f vs):=by
 refine Att.G6 hn hdf fun w s₀ s₁ mg mb fa o pm cd doc a vs ns G Y ho hd hcd hmg hobj hints hlen hg=>?_
 have KX:=hY w _ Y
 obtain⟨fd,hb,hF⟩:=F w mg fa _ KX G.T.g hmg
 exact HM KX G.T.g G.T.b G.T.builtins G.T.nolimit hg hobj hints (Nat.le_trans hlen hn2) hr hF hb (fun H hO hS=>jw w H a ns hlen hO hS) fun H e s'=>wD w H s₁ e s'
end L2
/-THE LAST THEOREM (shape;LID,My.*are yours):
   My.Adr:a structure of the addresses that your layer names (classes,functions);My.Txt K t:a structure (Prop) of the equations over K;
   My.txt_mk:{K} {implicit addresses ..} (e1:nsIn K mainGlobals "law"=some (some (.ref f))) (e2:K.lookup f=some ⟨oc,od, .func (fnOf "law" "law" params body scope dV kV doc pm an cdv ct),sl⟩) (e3:codeIn K cdv "law"=true) .. :∃t,My.Txt K t
set_option maxRecDepth 100000 in
set_option maxHeartbeats 0 in
(the tactic k_is has no namespace:write k_is)-/
namespace L2
open PySem PySem.Spec PyProof.Rows
noncomputable def inClass(s:Stmt)(j:Nat):Stmt:=match s with
 | .ClassDef _ _ _ body _ _ _ _ _ _ _=>body.getD j (.Pass ⟨0,0,0,0⟩)
 |_=> .Pass ⟨0,0,0,0⟩
noncomputable def bH(s:Stmt):Arguments:=match s with
 | .FunctionDef _ a _ _ _ _ _ _ _ _=>a
 |_=>{posonlyargs:=[],args:=[],vararg:=none,kwonlyargs:=[],kw_defaults:=[],kwarg:=none,defaults:=[]}
noncomputable def bD(s:Stmt):List Stmt:=match s with
 | .FunctionDef _ _ b _ _ _ _ _ _ _=>b
 |_=>[]
noncomputable def ay(s:Stmt):Scope:=match s with
 | .FunctionDef _ _ _ _ _ _ sc _ _ _=>sc
 |_=>{kind:= .function,names:=[],isGenerator:=false,isCoroutine:=false}
noncomputable abbrev bw:iy:=fun _ _ _ _ _ _=>False
noncomputable abbrev E0:XK:=fun _ _ _=>False
theorem rT{X:Cx}:Passes bw X E0:=fun _ _ _ _ _ _ _ h=>h.elim
structure bE(K:PySem.W.Frag)(x qual:Str)(st:Stmt)(f:Addr)(fd:FuncData):Prop where
 ex:∃(oc:Value) (od:Option Addr) (kV doc pm:Value) (an:Option Addr) (cdv ct:Value) (osl:Array (Option Value)),
  fd=PySem.W.fnOf x qual (bH st) (bD st) (ay st) .none kV doc pm an cdv ct/\K.lookup f=some ⟨oc,od, .func fd,osl⟩/\PySem.W.codeIn K cdv qual=true
 kp:PySem.W.keepIn K (.ref f)=true
section
variable{P:Program}{w:World}{K:PySem.W.Frag}{mg:Str->Option Value}{base:Heap}
theorem bE.ok{x qual:Str}{st:Stmt}{f:Addr}{fd:FuncData}{N ps:List Str}{k:Nat}{sp:Sp}(F:bE K x qual st f fd)(S:bL N ps (ay st))(len:∀vs H Q E,sp vs H Q E->vs.length=ps.length)
  (hbody : ∀ (cdv : Value) (A : Around) (outer : List Env) (s : Shared) (H : Hp) (vs : List V) (Q : VK) (E : XK), cG k (A.deeper (envOfC qual (ay st) s.heap.objs.size f cdv)) -> sp vs H Q E ->
   ∃t,gp (mF bw P w K mg base N qual (ay st) f cdv A outer s H E).rG (bD st) t/\t {nx:=fun _ H'=>Q .aB H',rt:=Q} (start N vs) H):aS P w K mg base bw (k+1) f fd ps sp:=by
 obtain⟨oc,od,kV,doc,pm,an,cdv,ct,osl,rfl,lk,hcd⟩:=F.ex
 refine Tt lk hcd S len fun A outer s H vs Q E hr jw=>?_
 obtain⟨t,h,q⟩:=hbody cdv A outer s H vs Q E hr jw
 exact⟨t,h.rG,q⟩
theorem bE.binds{x qual:Str}{st:Stmt}{f:Addr}{fd:FuncData}{ps:List Str}(F:bE K x qual st f fd)
  (h:∀(kV doc pm:Value) (an:Option Addr) (cdv ct:Value) (us:List Value),us.length=ps.length->bindArgs (PySem.W.fnOf x qual (bH st) (bD st) (ay st) .none kV doc pm an cdv ct) ⟨us,[]⟩=pure (ps.zip us)):Binds K fd ps []:=by
 obtain⟨oc,od,kV,doc,pm,an,cdv,ct,osl,rfl,lk,hcd⟩:=F.ex
 exact .all (h kV doc pm an cdv ct)
theorem bR{x qual:Str}{st:Stmt}{f:Addr}{oc:Value}{od an:Option Addr}{osl:Array (Option Value)}{kV doc pm cdv ct:Value}(l:K.lookup f=some ⟨oc,od, .func (PySem.W.fnOf x qual (bH st) (bD st) (ay st) .none kV doc pm an cdv ct),osl⟩)
  (c:PySem.W.codeIn K cdv qual=true) (k:PySem.W.keepIn K (.ref f)=true):bE K x qual st f (PySem.W.fnOf x qual (bH st) (bD st) (ay st) .none kV doc pm an cdv ct):=⟨⟨oc,od,kV,doc,pm,an,cdv,ct,osl,rfl,l,c⟩,k⟩
end
theorem Fc{n:Nat}(h:n<=1000):n<sizeLine:=Nat.lt_of_le_of_lt h (by decide)
section
variable{X:Cx}
theorem pv(i:Nat){x:Str}{pos:Pos}(hN:X.N[i]?=some x:=by rfl)(hv:wY X.env.scope x:=by first|exact Or.inl rfl|exact Or.inr (Or.inl rfl)|exact Or.inr (Or.inr rfl))(hd:(x==("__debug__":Str))=false:=by decide)
  (hcd:(x==("__classdict__":Str))=false:=by decide):PE X (.Name x pos) (aZ i):=KC hN hv hd hcd
end
theorem Am{A B:Prop}(h:B):if false=true then A else B:=by
 rw[if_neg Bool.false_ne_true]
 exact h
theorem pK{A B:Prop}(h:A):if true=true then A else B:=by
 rw[if_pos rfl]
 exact h
theorem mw{c A B:Prop}[Decidable c](h1:c->A)(h2:¬c->B):if c then A else B:=by
 by_cases h:c
 ·rw[if_pos h]
  exact h1 h
 ·rw[if_neg h]
  exact h2 h
noncomputable def bI(H H':Hp):Prop:=∀b o,H b=some o->H' b=some o
theorem bI.refl(H:Hp):bI H H:=fun _ _ h=>h
theorem bI.trans{H H1 H2:Hp}(a:bI H H1)(b:bI H1 H2):bI H H2:=fun c o h=>b c o (a c o h)
theorem bI.free{H H':Hp}(e:bI H H'){l:Addr}(h:H' l=Option.none):H l=Option.none:=by
  cases q:H l with
  |none=>rfl
  | some o =>
    rw[e l o q] at h
    cases h
theorem bI.seq{K:PySem.W.Frag}{H H':Hp}{a:Addr}{xs:List V}(e:bI H H')(h:aR K H a xs):aR K H' a xs:=by
 rcases h with (h|⟨o,h⟩)|h
 ·exact .inl (.inl (e _ _ h))
 ·exact .inl (.inr ⟨o,e _ _ h⟩)
 ·exact .inr h
end L2
set_option maxHeartbeats 1000000
namespace L2
open PySem PySem.Spec PyProof.Rows
noncomputable def g7(cells:List (Str×Addr)):List (Str×NameKind)->List (Str×Addr)->List (Str×Addr)
 |[],acc=>acc
 |(n,k)::r,acc=>g7 cells r (if k==NameKind.free then(match cells.lookup n with|some a=>(n,a)::acc|none=>acc) else acc)
theorem zf{env:Env}{f:Str×NameKind->List (Str×Addr)->Sem (ForInStep (List (Str×Addr)))}
    (hf:∀x acc,f x acc=if(x.2==NameKind.free)=true then(do let a<-cellOf env x.1;pure (ForInStep.yield ((x.1,a)::acc))) else pure (ForInStep.yield acc)):
    ∀(l:List (Str×NameKind)) (acc:List (Str×Addr)),(∀x∈l,x.2= .free->∃a,env.cells.lookup x.1=some a)->(forIn l acc f:Sem (List (Str×Addr)))=pure (g7 env.cells l acc)
  |[],acc,_=>by rw[List.forIn_nil];rfl
  | (n, k) :: r, acc, h => by
    have hr:=fun x hx=>h x (List.mem_cons_of_mem _ hx)
    rw[List.forIn_cons,hf]
    by_cases hk:(k==NameKind.free)=true
    · have hk':k=NameKind.free:=by simpa using hk
      obtain⟨a,ha⟩:=h (n,k) List.mem_cons_self hk'
      have hc:cellOf env n=pure a:=by unfold cellOf;rw[ha]
      rw[if_pos hk,hc]
      show(forIn r ((n,a)::acc) f:Sem (List (Str×Addr)))=pure (g7 env.cells r _)
      rw[zf hf r _ hr,if_pos hk,ha]
    · rw[if_neg hk]
      show(forIn r acc f:Sem (List (Str×Addr)))=pure (g7 env.cells r _)
      rw[zf hf r _ hr,if_neg hk]
theorem Ow{scope:Scope}{env:Env}(h:∀x∈scope.names,x.2= .free->∃a,env.cells.lookup x.1=some a):closureFor scope env=pure (g7 env.cells scope.names []):=by
 simp only[closureFor]
 rw[zf (env:=env) (fun⟨n,k⟩ acc=>by dsimp only) scope.names [] h]
 rfl
theorem kR{cells:List (Str×Addr)}:∀{l:List (Str×NameKind)} {acc:List (Str×Addr)} {x:Str} {c:Addr},(∀y d,acc.lookup y=some d->cells.lookup y=some d)->(g7 cells l acc).lookup x=some c->cells.lookup x=some c
  |[],_,_,_,ha,h=>ha _ _ h
  | (n, k) :: r, acc, x, c, ha, h => by
    refine kR (l:=r) ?_ h
    intro y d hd
    by_cases hk:(k==NameKind.free)=true
    · rw[if_pos hk] at hd
      cases q:cells.lookup n with
      |none=>rw[q] at hd;exact ha _ _ hd
      | some a =>
        rw[q] at hd
        by_cases hy:(y==n)=true
        · have hy':y=n:=by simpa using hy
          subst hy'
          simp[List.lookup_cons] at hd
          rw[q,hd]
        · have hy':(y==n)=false:=by simpa using hy
          simp only[List.lookup_cons,hy'] at hd
          exact ha _ _ hd
    · rw[if_neg hk] at hd;exact ha _ _ hd
theorem DB{cells:List (Str×Addr)}:∀{l:List (Str×NameKind)} {acc:List (Str×Addr)} {x:Str},(acc.lookup x).isSome=true->((g7 cells l acc).lookup x).isSome=true
  |[],_,_,h=>h
  | (n, k) :: r, acc, x, h => by
    refine DB (l:=r) ?_
    by_cases hk:(k==NameKind.free)=true
    · rw[if_pos hk]
      cases q:cells.lookup n with
      |none=>exact h
      | some a =>
        by_cases hy:(x==n)=true
        · simp[List.lookup_cons,hy]
        · have hy':(x==n)=false:=by simpa using hy
          simp only[List.lookup_cons,hy']
          exact h
    · rw[if_neg hk];exact h
theorem EV{cells:List (Str×Addr)}:∀{l:List (Str×NameKind)} {acc:List (Str×Addr)} {x:Str} {a:Addr},(x,NameKind.free)∈l->cells.lookup x=some a->((g7 cells l acc).lookup x).isSome=true
  |[],_,_,_,h,_=>nomatch h
  | (n, k) :: r, acc, x, a, h, hc => by
    rcases List.mem_cons.mp h with e|h
    · obtain⟨rfl,rfl⟩:=Prod.mk.inj e
      refine DB (l:=r) ?_
      rw[if_pos (by decide),hc]
      simp[List.lookup_cons]
    · exact EV (l:=r) h hc
theorem Dc{cells:List (Str×Addr)}{l:List (Str×NameKind)}{x:Str}{a:Addr}(h:(x,NameKind.free)∈l)(hc:cells.lookup x=some a):(g7 cells l []).lookup x=some a:=by
 obtain⟨c,e⟩:=Option.isSome_iff_exists.mp (EV (acc:=[]) h hc)
 have:=kR (fun y d (q:([]:List (Str×Addr)).lookup y=some d)=>by simp at q) e
 rw[hc] at this;cases this
 exact e
theorem JV{env:Env}:∀{l:List (Str×NameKind)} {x:Str} {k:NameKind},(∀y∈l,y.2≠ .cell)->
    (l.map fun(n,k)=>if(k==NameKind.free && env.scope.kind== .function && env.kindOf n==some .cell) then(n,NameKind.cell) else(n,k)).lookup x=some k->k= .cell\/k= .free->l.lookup x=some .free
  |[],_,_,_,h,_=>by simp at h
  | (n, q) :: r, x, k, hc, h, hk => by
    have hr:=fun y hy=>hc y (List.mem_cons_of_mem _ hy)
    have ih:=JV (env:=env) (l:=r) (x:=x) (k:=k) hr
    rw[List.map_cons] at h
    dsimp only at h
    by_cases hx:(x==n)=true
    · simp only[List.lookup_cons,hx]
      by_cases hq:(q==NameKind.free && env.scope.kind== .function && env.kindOf n==some .cell)=true
      · have:q= .free:=by
          simp only[Bool.and_eq_true] at hq
          simpa using hq.1.1
        rw[this]
      · rw[if_neg hq] at h
        simp only[List.lookup_cons,hx] at h
        have mW:q=k:=Option.some.inj h
        rcases hk with e|e
        · exact absurd (mW.trans e) (hc (n,q) List.mem_cons_self)
        · rw[mW,e]
    · have hx':(x==n)=false:=by simpa using hx
      simp only[List.lookup_cons,hx']
      refine ih ?_ hk
      by_cases hq:(q==NameKind.free && env.scope.kind== .function && env.kindOf n==some .cell)=true
      · rw[if_pos hq] at h
        simp only[List.lookup_cons,hx'] at h
        exact h
      · rw[if_neg hq] at h
        simp only[List.lookup_cons,hx'] at h
        exact h
theorem E1{env:Env}:∀{l:List (Str×NameKind)} {x:Str},l.lookup x=some .free->
    (l.map fun(n,k)=>if(k==NameKind.free && env.scope.kind== .function && env.kindOf n==some .cell) then(n,NameKind.cell) else(n,k)).lookup x=some .cell\/
    (l.map fun(n,k)=>if(k==NameKind.free && env.scope.kind== .function && env.kindOf n==some .cell) then(n,NameKind.cell) else(n,k)).lookup x=some .free
  |[],_,h=>by simp at h
  | (n, q) :: r, x, h => by
    have ih:=E1 (env:=env) (l:=r) (x:=x)
    rw[List.map_cons]
    dsimp only
    by_cases hx:(x==n)=true
    · simp only[List.lookup_cons,hx] at h
      by_cases hq:(q==NameKind.free && env.scope.kind== .function && env.kindOf n==some .cell)=true
      · rw[if_pos hq]
        left
        simp only[List.lookup_cons,hx]
      · rw[if_neg hq]
        right
        simp only[List.lookup_cons,hx]
        exact h
    · have hx':(x==n)=false:=by simpa using hx
      simp only[List.lookup_cons,hx'] at h
      have:=ih h
      by_cases hq:(q==NameKind.free && env.scope.kind== .function && env.kindOf n==some .cell)=true
      · rw[if_pos hq]
        simp only[List.lookup_cons,hx']
        exact this
      · rw[if_neg hq]
        simp only[List.lookup_cons,hx']
        exact this
noncomputable def WN(sx:Scope)(NX:List Str)(scope:Scope)(N:List Str)(mp:List (Option Nat)):Bool:=
 (scope.kind== .function) && scope.names.all (fun y=>y.2 != .cell) && scope.names.all (fun y=>y.2 != .local||scope.names.lookup y.1==some .local) &&
 scope.names.all (fun y=>y.2 != .free||sx.names.lookup y.1==some .cell||sx.names.lookup y.1==some .free) &&(mp.length==N.length) &&
 ((N.zip mp).all fun p=>match p.2 with|none=>true|some j=>NX[j]?==some p.1 && scope.names.lookup p.1==some .free)
noncomputable def eB(mp:List (Option Nat))(σ:St):St:=mp.map fun o=>match o with|none=>none|some j=>match σ[j]? with|some v=>v|none=>none
noncomputable def lY(X:Cx)(ifs:List Expr)(t:TT):Prop:=
 ∀(pins:List (Addr×Obj)) (s:Shared) (σ:St) (H:Hp) (Q:Bool->Hp->Prop),Inv X pins σ H s->t σ H Q->
  wpAny (model X.prog X.w) X.A (forIn ifs true fun c r=>if r=true then do let ok<-isTrue c X.env (eval c X.env);pure (ForInStep.yield ok) else pure (ForInStep.yield r)) (TP X pins σ Q) X.xe s
noncomputable def jH:TT:=fun _ H Q=>Q true H
theorem fF{X:Cx}:lY X [] jH:=fun pins s σ H Q I h=>wpAny_tests_nil ⟨H,I,h⟩
theorem gY{X:Cx}{c:Expr}{t:TT}(h:PT X c t):lY X [c] t:=fun pins s σ H Q I q=>wpAny_tests_one (h pins s σ H Q I q)
noncomputable def oR(J:It)(g:TG)(tc:TT)(te:TE)(acc:Addr)(Qe:Hp->Prop)(σ:St)(H:Hp):Prop:=∃W:Nat->Nat->St->Hp->Prop,(∃m,W 0 m σ H)/\∀i m σ H,W i m σ H->
 (J.stop i H /\ Qe H) \/ (J.go i H /\ ∃ Nx : St -> Hp -> Prop, (∀ σ' H', Nx σ' H' -> ∃ m', m' < m /\ W (i + 1) m' σ' H') /\ ∀ x H', J.kL i H x H' -> g x σ H' fun σ2 H2 => tc σ2 H2 fun b H3 =>
  if b=true then te σ2 H3 fun v H4=>∃ys,H4 acc=some (.lst ys)/\ys.length<sizeLine/\Nx σ2 (upd H4 acc (.lst (ys++[v]))) else Nx σ2 H3)
noncomputable def iF(wi:TI)(g:TG)(tc:TT)(te:TE)(mp:List (Option Nat)):TE:=fun σ H Q=>wi σ H fun J H1=>∀acc,H1 acc=none->oR J g tc te acc (fun H'=>Q (.ref acc) H') (eB mp σ) (upd H1 acc (.lst []))
section
variable{prog:Program}{w:World}{A:Around}{R:Result->Shared->Prop}{s:Shared}
theorem Lf{elt target iter:Expr}{ifs:List Expr}{scope:Scope}{pos:Pos}{it acc:Value}{env:Env}(I:Nat->Shared->Prop)
    (turn:∀n s,I n s->wpAny (model prog w) A (pyNext it) (fun r s₁=>match r with
      |none=>R (.ok .next) s₁
      |some v=>wpAny (model prog w) A (letOwnedTupleGo target it v) (fun _ s₀=>wpAny (model prog w) A (assign target env v) (fun _ s₂=>
          wpAny (model prog w) A (forIn ifs true fun c r=>if r=true then do let ok<-isTrue c env (eval c env);pure (ForInStep.yield ok) else pure (ForInStep.yield r)) (fun ok s₃=>
            if ok=true then wpAny (model prog w) A (eval elt env) (fun x s₄=>
              wpAny (model prog w) A (call (.builtin "list.append") [acc,x]) (fun _ s₅=>∃m,m<n/\I m s₅) (fun _ _=>False) s₄) (fun _ _=>False) s₃
            else∃m,m<n/\I m s₃) (fun _ _=>False) s₂) (fun _ _=>False) s₀) (fun _ _=>False) s₁) (fun _ _=>False) s)
    (n:Nat) (h:I n s):
    codeAny (model prog w) A (.compLoop (.ListComp elt [⟨target,iter,ifs,0⟩] scope pos) 0 it acc env) R s:=by
  refine codeAny_loop rfl I (fun n s hI=>?_) n h
  show wpAny _ A ((compTurn (.ListComp elt [⟨target,iter,ifs,0⟩] scope pos) 0 it acc env).onRaise (fun x=>do noteFrame x env;theTreesLotGoes x)) _ _ s
  refine wpAny_noted ?_
  rw[compTurn_list]
  refine wpAny_bind (wpAny_standAt (wpAny_bind (wpAny_mono (turn n s hI) (fun r s₁ h₁=>?_) fun _ _ h'=>h'.elim)))
  cases r with
  |none=>exact wpAny_pure h₁
  | some v =>
    refine wpAny_bind (wpAny_mono h₁ (fun _ s₀ h₀=>?_) fun _ _ h'=>h'.elim)
    refine wpAny_bind (wpAny_mono h₀ (fun _ s₂ h₂=>wpAny_bind (wpAny_mono h₂ (fun ok s₃ h₃=>?_) fun _ _ h'=>h'.elim)) fun _ _ h'=>h'.elim)
    cases ok with
    |false=>exact wpAny_pure ⟨rfl,h₃⟩
    | true =>
      exact wpAny_bind (wpAny_bind (wpAny_mono h₃ (fun x s₄ h₄=>wpAny_bind (wpAny_mono h₄ (fun _ s₅ h₅=>wpAny_pure (wpAny_pure ⟨rfl,h₅⟩)) fun _ _ h'=>h'.elim)) fun _ _ h'=>h'.elim))
end
section
variable{X:Cx}
theorem iC.turned{pins:List (Addr×Obj)}{s:Shared}{σ:St}{H:Hp}{C:Addr}{h':Heap}(I:Inv X pins σ H s)(f:iC X pins H C)(hs:Heap.SameBut C s.heap h'):Inv X pins σ H {s with heap:=h'}:=
 I.turned (t':=s.toks) (fun b o hb e=>(hs.2 b hb).trans e) f.1 f.2.1 f.2.2.2.1 f.2.2.2.2.1 f.2.2.2.2.2
noncomputable def AF(i:Nat)(t:TE):TS:=fun D σ H=>t σ H fun v H'=>D.nx (σ.set i (some v)) H'
end
noncomputable def Sm(i:Int):Prop:= -(2^300)<i/\i<2^300
theorem Dq{i:Int}(h:Sm i):Builtin.Int.intBits i<=2^20:=by
 obtain⟨h1,h2⟩:=h
 unfold Builtin.Int.intBits
 split
 ·exact Nat.zero_le _
 ·rename_i h0
  have hn:i.natAbs≠0:=by
   intro e
   apply h0
   simp
   walk_at "o"
  have h3:i.natAbs<2^300:=by walk_at "o"
  have h4:i.natAbs.log2<300:=(Nat.log2_lt hn).mpr h3
  have:(2:Nat)^20=1048576:=by decide
  walk_at "o"
theorem RV{x y:Int}(h:Sm y):Builtin.divisionGoesByPylong x y=false:=by
 refine PyProof.noPylong_of_log2 ?_
 obtain⟨h1,h2⟩:=h
 by_cases h0:y.natAbs=0
 ·rw[h0];decide+kernel
 ·have h3:y.natAbs<2^300:=by walk_at "o"
  have h4:y.natAbs.log2<300:=(Nat.log2_lt h0).mpr h3
  walk_at "o"
section
variable{X:Cx}
theorem jW:bT X (binaryOp .FloorDiv) (rI (fun _ j=>0<j/\Sm j) fun i j=> .int (i/j)):=qD fun i j _ _ _ _ _ hc q=>
 floordiv_int (by walk_at "o") (by rw[Int.fdiv_eq_ediv_of_nonneg _ (by walk_at "o")];exact q) (.inl (RV hc.2))
noncomputable def jx(K:PySem.W.Frag):List V->Hp->VK->Prop:=fun xs H Q=>∃x T t b,xs=[x, .ty T]/\fO K H x t/\PySem.W.kitOne K t (.type T)=some b/\Q (.bl b) H
theorem qJ:dS X (.builtin "isinstance") (jx X.K):=by
 intro pins s σ H xs us Q I rv h
 obtain⟨x,T,t,b,rfl,ty,e,q⟩:=h
 obtain⟨u,v,rfl,ru,rv⟩:=rv.two
 cases (show v=Value.type T from rv)
 exact RD I ru ty e fun tk=>⟨.bl b,H,I.tok tk,rfl,q⟩
noncomputable def VS:PyData->Key->Prop
 | .int i,k=>k= .inl i
 | .str x,k=>k= .inr x
 |_,_=>False
mutual
noncomputable def ah(nb:Addr->Prop)(H:Hp):PyData->V->Prop
 | .none,v=>v= .aB
 | .bool b,v=>v= .bl b
 | .int i,v=>v= .int i
 | .str x,v=>v= .str x
 | .list ds,v=>∃a xs,v= .ref a/\¬nb a/\H a=some (.lst xs)/\af nb H ds xs
 | .tuple ds,v=>∃a xs,v= .ref a/\¬nb a/\H a=some (.tup xs)/\af nb H ds xs
 | .dict kvs,v=>∃a ps,v= .ref a/\¬nb a/\Rd H a (.dK ps)/\au nb H kvs ps
termination_by structural d=>d
noncomputable def af(nb:Addr->Prop)(H:Hp):List PyData->List V->Prop
 |[],xs=>xs=[]
 |d::ds,xs=>∃y ys,xs=y::ys/\ah nb H d y/\af nb H ds ys
termination_by structural d=>d
noncomputable def au(nb:Addr->Prop)(H:Hp):List (PyData×PyData)->List (Key×V)->Prop
 |[],xs=>xs=[]
 |d::ds,xs=>∃p ys,xs=p::ys/\cD nb H d p/\au nb H ds ys
termination_by structural d=>d
noncomputable def cD(nb:Addr->Prop)(H:Hp):PyData×PyData->Key×V->Prop
 |(k,d),p=>VS k p.1/\ah nb H d p.2
termination_by structural d=>d
end
noncomputable def aH(nb:Addr->Prop)(H H':Hp):Prop:=∀a o,¬nb a->H a=some o->H' a=some o
noncomputable def Nb(b:Addr):Addr->Prop:=fun a=>a=b
section
variable{nb aI:Addr->Prop}{H H1 H2 H':Hp}{a b c p:Addr}{o:HO}{xs:List V}
theorem aH.refl(nb:Addr->Prop)(H:Hp):aH nb H H:=fun _ _ _ h=>h
theorem aH.trans(x:aH nb H H1)(y:aH nb H1 H2):aH nb H H2:=fun a o n h=>y a o n (x a o n h)
theorem aH.of(x:bI H H'):aH nb H H':=fun a o _ h=>x a o h
theorem aH.set(h:nb p):aH nb H (upd H p o):=fun a u n q=>by rw[bf (fun e=>n (by rw[e];exact h))];exact q
theorem aH.rd{u:HO}(x:aH nb H H')(n:¬nb a)(h:Rd H a u):Rd H' a u:=by
 rcases h with h|⟨o,h⟩
 ·exact .inl (x _ _ n h)
 ·exact .inr ⟨o,x _ _ n h⟩
end
mutual
theorem ah.keep{nb:Addr->Prop}{H H':Hp}(x:aH nb H H'):∀{d:PyData} {v:V},ah nb H d v->ah nb H' d v
 | .none,_,h=>by unfold ah at h⊢;exact h
 | .bool _,_,h=>by unfold ah at h⊢;exact h
 | .int _,_,h=>by unfold ah at h⊢;exact h
 | .str _,_,h=>by unfold ah at h⊢;exact h
 | .list ds,_,h=>by unfold ah at h⊢;obtain⟨a,xs,e,n,s,r⟩:=h;exact⟨a,xs,e,n,x _ _ n s,af.keep x r⟩
 | .tuple ds,_,h=>by unfold ah at h⊢;obtain⟨a,xs,e,n,s,r⟩:=h;exact⟨a,xs,e,n,x _ _ n s,af.keep x r⟩
 | .dict kvs,_,h=>by unfold ah at h⊢;obtain⟨a,xs,e,n,s,r⟩:=h;exact⟨a,xs,e,n,x.rd n s,au.keep x r⟩
theorem af.keep{nb:Addr->Prop}{H H':Hp}(x:aH nb H H'):∀{ds:List PyData} {vs:List V},af nb H ds vs->af nb H' ds vs
 |[],_,h=>by unfold af at h⊢;exact h
 |d::ds,_,h=>by unfold af at h⊢;obtain⟨y,ys,e,h1,h2⟩:=h;exact⟨y,ys,e,ah.keep x h1,af.keep x h2⟩
theorem au.keep{nb:Addr->Prop}{H H':Hp}(x:aH nb H H'):∀{ds:List (PyData×PyData)} {vs:List (Key×V)},au nb H ds vs->au nb H' ds vs
 |[],_,h=>by unfold au at h⊢;exact h
 |d::ds,_,h=>by unfold au at h⊢;obtain⟨y,ys,e,h1,h2⟩:=h;exact⟨y,ys,e,cD.keep x h1,au.keep x h2⟩
theorem cD.keep{nb:Addr->Prop}{H H':Hp}(x:aH nb H H'):∀{d:PyData×PyData} {v:Key×V},cD nb H d v->cD nb H' d v
 |(k,d),_,h=>by unfold cD at h⊢;exact⟨h.1,ah.keep x h.2⟩
end
mutual
theorem ah.av{nb aI:Addr->Prop}{H:Hp}(x:∀a,aI a->nb a):∀{d:PyData} {v:V},ah nb H d v->ah aI H d v
 | .none,_,h=>by unfold ah at h⊢;exact h
 | .bool _,_,h=>by unfold ah at h⊢;exact h
 | .int _,_,h=>by unfold ah at h⊢;exact h
 | .str _,_,h=>by unfold ah at h⊢;exact h
 | .list ds,_,h=>by unfold ah at h⊢;obtain⟨a,xs,e,n,s,r⟩:=h;exact⟨a,xs,e,fun z=>n (x a z),s,af.av x r⟩
 | .tuple ds,_,h=>by unfold ah at h⊢;obtain⟨a,xs,e,n,s,r⟩:=h;exact⟨a,xs,e,fun z=>n (x a z),s,af.av x r⟩
 | .dict kvs,_,h=>by unfold ah at h⊢;obtain⟨a,xs,e,n,s,r⟩:=h;exact⟨a,xs,e,fun z=>n (x a z),s,au.av x r⟩
theorem af.av{nb aI:Addr->Prop}{H:Hp}(x:∀a,aI a->nb a):∀{ds:List PyData} {vs:List V},af nb H ds vs->af aI H ds vs
 |[],_,h=>by unfold af at h⊢;exact h
 |d::ds,_,h=>by unfold af at h⊢;obtain⟨y,ys,e,h1,h2⟩:=h;exact⟨y,ys,e,ah.av x h1,af.av x h2⟩
theorem au.av{nb aI:Addr->Prop}{H:Hp}(x:∀a,aI a->nb a):∀{ds:List (PyData×PyData)} {vs:List (Key×V)},au nb H ds vs->au aI H ds vs
 |[],_,h=>by unfold au at h⊢;exact h
 |d::ds,_,h=>by unfold au at h⊢;obtain⟨y,ys,e,h1,h2⟩:=h;exact⟨y,ys,e,cD.av x h1,au.av x h2⟩
theorem cD.av{nb aI:Addr->Prop}{H:Hp}(x:∀a,aI a->nb a):∀{d:PyData×PyData} {v:Key×V},cD nb H d v->cD aI H d v
 |(k,d),_,h=>by unfold cD at h⊢;exact⟨h.1,ah.av x h.2⟩
end
mutual
theorem ah.fresh{nb:Addr->Prop}{H:Hp}{p:Addr}(hp:H p=none):∀{d:PyData} {v:V},ah nb H d v->ah (fun a=>nb a\/a=p) H d v
 | .none,_,h=>by unfold ah at h⊢;exact h
 | .bool _,_,h=>by unfold ah at h⊢;exact h
 | .int _,_,h=>by unfold ah at h⊢;exact h
 | .str _,_,h=>by unfold ah at h⊢;exact h
 | .list ds,_,h=>by unfold ah at h⊢;obtain⟨a,xs,e,n,s,r⟩:=h;exact⟨a,xs,e,fun z=>z.elim n (fj s hp),s,af.fresh hp r⟩
 | .tuple ds,_,h=>by unfold ah at h⊢;obtain⟨a,xs,e,n,s,r⟩:=h;exact⟨a,xs,e,fun z=>z.elim n (fj s hp),s,af.fresh hp r⟩
 | .dict kvs,_,h=>by unfold ah at h⊢;obtain⟨a,xs,e,n,s,r⟩:=h;exact⟨a,xs,e,fun z=>z.elim n (s.elim (fun s=>fj s hp) fun⟨_,s⟩=>fj s hp),s,au.fresh hp r⟩
theorem af.fresh{nb:Addr->Prop}{H:Hp}{p:Addr}(hp:H p=none):∀{ds:List PyData} {vs:List V},af nb H ds vs->af (fun a=>nb a\/a=p) H ds vs
 |[],_,h=>by unfold af at h⊢;exact h
 |d::ds,_,h=>by unfold af at h⊢;obtain⟨y,ys,e,h1,h2⟩:=h;exact⟨y,ys,e,ah.fresh hp h1,af.fresh hp h2⟩
theorem au.fresh{nb:Addr->Prop}{H:Hp}{p:Addr}(hp:H p=none):∀{ds:List (PyData×PyData)} {vs:List (Key×V)},au nb H ds vs->au (fun a=>nb a\/a=p) H ds vs
 |[],_,h=>by unfold au at h⊢;exact h
 |d::ds,_,h=>by unfold au at h⊢;obtain⟨y,ys,e,h1,h2⟩:=h;exact⟨y,ys,e,cD.fresh hp h1,au.fresh hp h2⟩
theorem cD.fresh{nb:Addr->Prop}{H:Hp}{p:Addr}(hp:H p=none):∀{d:PyData×PyData} {v:Key×V},cD nb H d v->cD (fun a=>nb a\/a=p) H d v
 |(k,d),_,h=>by unfold cD at h⊢;exact⟨h.1,ah.fresh hp h.2⟩
end
mutual
theorem ah.reads{pins:List (Addr×Obj)}{σ:St}{H:Hp}{s:Shared}{nb:Addr->Prop}(I:Inv X pins σ H s):∀{d:PyData} {v:V} {u:Value},ah nb H d v->RelV v u->d.canLay0=true->∃as,Reads s.heap u d as
  | .none,_,_,h,r,_=>by unfold ah at h;subst h;cases r;exact⟨_, .none⟩
  | .bool _,_,_,h,r,_=>by unfold ah at h;subst h;cases r;exact⟨_, .bool _⟩
  | .int _,_,_,h,r,_=>by unfold ah at h;subst h;obtain⟨t,rfl⟩:=r;exact⟨_, .int _ _⟩
  | .str _,_,_,h,r,_=>by unfold ah at h;subst h;obtain⟨t,rfl⟩:=r;exact⟨_, .str _ _⟩
  | .list ds, _, _, h, r, hc0 => by
    unfold ah at h
    obtain⟨a,xs,rfl,n,s,q⟩:=h
    cases r
    obtain⟨its,rv,p,hz⟩:=I.list (aR.of s)
    obtain⟨as,ra⟩:=af.reads I q rv (by simpa only[PyData.canLay0] using hc0)
    obtain⟨o,ho,hc,m,hd⟩:=p.isList
    exact⟨_, .list ho hc hd (by simpa using ra)⟩
  | .tuple ds, _, _, h, r, hc0 => by
    unfold ah at h
    obtain⟨a,xs,rfl,n,s,q⟩:=h
    cases r
    obtain⟨its,rv,p,hz⟩:=I.tuple (d7.of s)
    obtain⟨as,ra⟩:=af.reads I q rv (by simpa only[PyData.canLay0] using hc0)
    obtain⟨o,ho,hc,m,hd⟩:=p
    exact⟨_, .tuple ho hc hd (by simpa using ra)⟩
  | .dict _,_,_,h,r,hc0=>by simp[PyData.canLay0] at hc0
theorem af.reads{pins:List (Addr×Obj)}{σ:St}{H:Hp}{s:Shared}{nb:Addr->Prop}(I:Inv X pins σ H s):∀{ds:List PyData} {vs:List V} {us:List Value},af nb H ds vs->Vals vs us->PyData.canLayAll0 ds=true->∃as,ReadsAll s.heap us ds as
  |[],_,_,h,r,_=>by unfold af at h;subst h;cases r;exact⟨_, .nil⟩
  | d :: ds, _, _, h, r, hc0 => by
    rw[PyData.canLayAll0,Bool.and_eq_true] at hc0
    unfold af at h
    obtain⟨y,ys,rfl,h1,h2⟩:=h
    cases r with
    | cons r1 r2 =>
      obtain⟨as,q1⟩:=ah.reads I h1 r1 hc0.1
      obtain⟨bs,q2⟩:=af.reads I h2 r2 hc0.2
      exact⟨_, .cons q1 q2⟩
end
noncomputable def pB(neg:Bool):R2:=fun x y H Q=>∃nb d e,ah nb H d x/\ah nb H e y/\SeqAt.shaped d=true/\SeqAt.shaped e=true/\Q (.bl (PyData.eqv d e !=neg)) H
theorem vY(hu:X.A.units+64<cLine):bT X (compareOp .Eq) (pB false):=by
 intro pins s σ H x y v u Q I rx ry h
 obtain⟨nb,d,e,h1,h2,h3,h4,q⟩:=h
 obtain⟨as,r1⟩:=h1.reads I rx (SeqAt.canLay_of_shaped h3)
 obtain⟨bs,r2⟩:=h2.reads I ry (SeqAt.canLay_of_shaped h4)
 exact eq_dataH r1 r2 h3 h4 hu ⟨.bl _,H,I,rfl,by simpa using q⟩
theorem nQ(hu:X.A.units+64<cLine):bT X (compareOp .NotEq) (pB true):=by
 intro pins s σ H x y v u Q I rx ry h
 obtain⟨nb,d,e,h1,h2,h3,h4,q⟩:=h
 obtain⟨as,r1⟩:=h1.reads I rx (SeqAt.canLay_of_shaped h3)
 obtain⟨bs,r2⟩:=h2.reads I ry (SeqAt.canLay_of_shaped h4)
 exact ne_dataH r1 r2 h3 h4 hu ⟨.bl _,H,I,rfl,by simpa using q⟩
end
mutual
theorem eqv_refl:∀d:PyData,SeqAt.shaped d=true\/d.canLay0=true->PyData.eqv d d=true
  | .none,_=>by simp[PyData.eqv]
  | .bool _,_=>by simp[PyData.eqv]
  | .int _,_=>by simp[PyData.eqv]
  | .str _,_=>by simp[PyData.eqv]
  | .list ds, h => by
    have h':PyData.canLayAll0 ds=true:=by
      rcases h with h|h
      · have:=SeqAt.canLay_of_shaped h;simpa[PyData.canLay0] using this
      · simpa[PyData.canLay0] using h
    simp only[PyData.eqv]
    exact eqvAll_refl ds h'
  | .tuple ds, h => by
    have h':PyData.canLayAll0 ds=true:=by
      rcases h with h|h
      · have:=SeqAt.canLay_of_shaped h;simpa[PyData.canLay0] using this
      · simpa[PyData.canLay0] using h
    simp only[PyData.eqv]
    exact eqvAll_refl ds h'
  | .dict _, h => by
    rcases h with h|h
    · have:=SeqAt.canLay_of_shaped h;simp[PyData.canLay0] at this
    · simp[PyData.canLay0] at h
theorem eqvAll_refl:∀ds:List PyData,PyData.canLayAll0 ds=true->PyData.eqvAll ds ds=true
  |[],_=>by simp[PyData.eqvAll]
  | d :: ds, h => by
    simp only[PyData.canLayAll0,Bool.and_eq_true] at h
    simp only[PyData.eqvAll,Bool.and_eq_true]
    exact⟨eqv_refl d (.inr h.1),eqvAll_refl ds h.2⟩
end
structure Callee(P:Program)(w:World)(K:PySem.W.Frag)(mg:Str->Option Value)(base:Heap)(x:Str)(k:Nat)(ps:List Str)(sp:Sp):Prop where
 ex:∃f fd,aS P w K mg base bw k f fd ps sp/\Binds K fd ps []/\PySem.W.keepIn K (.ref f)=true/\mg x=some (.ref f)
theorem aL{X:Cx}{x:Str}{k:Nat}{ps:List Str}{sp:Sp}{p pos:Pos}{e:Expr}{es:List Expr}{t:TA}(c:Callee X.prog X.w X.K X.mg X.base x k ps sp)(hr:cG k X.A)(ha:PA X (e::es) t)(hg:Gl X x:=by rfl)
  (hdb:(x==("__debug__":Str))=false:=by decide) (he:starEach (e::es) X.env=(false,eval e X.env)::starEach es X.env:=by rfl) (hpl:(backTo pos (starEach es X.env)).any (·.1)=false:=by rfl):
  PE X (.Call (.Name x p) (e::es) [] pos) (d8 sp [] E0 t):=by
 obtain⟨f,fd,F,b,kp,m⟩:=c.ex
 exact MG F hr hg m kp b .nil rT ha hdb he hpl
theorem Callee.mk'{P:Program}{w:World}{K:PySem.W.Frag}{mg:Str->Option Value}{base:Heap}{x:Str}{st:Stmt}{k:Nat}{ps:List Str}{sp:Sp}{f:Addr}{fd:FuncData}(F:bE K x x st f fd)(ok:aS P w K mg base bw k f fd ps sp)(b:Binds K fd ps [])
  (m:mg x=some (.ref f)):Callee P w K mg base x k ps sp:=⟨f,fd,ok,b,F.kp,m⟩
end L2
set_option maxRecDepth 100000
set_option maxHeartbeats 1000000
namespace L2
open PySem PySem.Spec PyProof.Rows
section
variable{X:Cx}
theorem fT:bT X (binaryOp .Mult) (rI (fun i j=>rQ i j\/(Sm i/\Sm j)) fun i j=> .int (i*j)):=qD fun _ _ _ _ _ _ _ hc q=>mul_int q (by
 rcases hc with hc|hc
 ·exact hc.ok
 ·exact IntMulOk.of_bits (Dq hc.1) (Dq hc.2))
end
noncomputable def bM(H:Hp)(b l:Addr):Prop:=∃(ns:List Int) (i c st n:Int),H b=some (.lst [.ref l, .int i, .int c, .int st, .int n])/\H l=some (.lst (ns.map V.int))/\
 (∀x∈ns,0<=x/\x<10^60)/\ns.length<=63/\0<=i/\0<=c/\c<10^60/\0<=st/\st<2147483647
theorem K9{H:Hp}{b l:Addr}{ns:List Int}{i c st n:V}(h:H b=some (.lst [.ref l,i,c,st,n]))(h':H l=some (.lst (ns.map V.int))):l≠b:=by
 intro e
 subst e
 rw[h] at h'
 have e:=HO.lst.inj (Option.some.inj h')
 cases ns with
 |nil=>cases e
 |cons x r=>rw[List.map_cons] at e;cases (List.cons.inj e).1
theorem bM.put{H:Hp}{b l:Addr}{ns:List Int}{i c st n:Int}(hl:l≠b)(h':H l=some (.lst (ns.map V.int)))(h1:∀x∈ns,0<=x/\x<10^60)(h2:ns.length<=63)
  (h3:0<=i) (h4:0<=c) (h5:c<10^60) (h6:0<=st) (h7:st<2147483647):bM (upd H b (.lst [.ref l, .int i, .int c, .int st, .int n])) b l:=
 ⟨ns,i,c,st,n,aY,by rw[bf hl];exact h',h1,h2,h3,h4,h5,h6,h7⟩
theorem bM.put2{H:Hp}{b l p:Addr}{o:HO}(h:bM H b l)(hp:p≠b/\p≠l):bM (upd H p o) b l:=by
 obtain⟨ns,i,c,st,n,h1,h2,r⟩:=h
 exact⟨ns,i,c,st,n,by rw[bf (Ne.symm hp.1)];exact h1,by rw[bf (Ne.symm hp.2)];exact h2,r⟩
theorem bM.same{H H':Hp}{b l:Addr}(h:bM H b l)(s:bI H H'):bM H' b l:=by
 obtain⟨ns,i,c,st,n,h1,h2,r⟩:=h
 exact⟨ns,i,c,st,n,s _ _ h1,s _ _ h2,r⟩
noncomputable def fQ:Sp:=fun vs H Q _=>∃(b l:Addr) (many:Int),vs=[.ref b, .int many]/\bM H b l/\0<many/\Sm many/\∀(r:Int) (H':Hp),0<=r->r<many->aH (Nb b) H H'->bM H' b l->Q (.int r) H'
noncomputable def DQ(K:PySem.W.Frag):Sp:=fun vs H Q _=>∃(a:Addr) (ns:List Int),vs=[.ref a]/\aR K H a (ns.map V.int)/\ns.length<=63/\∀(b l:Addr) (H':Hp),bI H H'->H b=none->bM H' b l->Q (.ref b) H'
theorem j5{α:Type}{xs:List α}{i:Int}{v:α}(h0:0<=i)(h:xs[i.toNat]?=some v):bF xs i=some v:=by
 have e:i=((i.toNat:Nat):Int):=by walk_at "o"
 rw[e]
 exact RS h
theorem cJ{H:Hp}{p:Addr}{o:HO}(h:H p=none):bI H (upd H p o):=fun b u q=>by rw[bf (fj q h)];exact q
section
variable{nb:Addr->Prop}{H H':Hp}
theorem af.length:∀{ds:List PyData} {xs:List V},af nb H ds xs->xs.length=ds.length
 |[],_,h=>by unfold af at h;subst h;rfl
 |d::ds,_,h=>by unfold af at h;obtain⟨y,ys,rfl,_,h2⟩:=h;simp[af.length h2]
theorem af.get:∀{ds:List PyData} {xs:List V} {i:Nat} {d:PyData},af nb H ds xs->ds[i]?=some d->∃x,xs[i]?=some x/\ah nb H d x
 |[],_,_,_,_,e=>by simp at e
 |d::ds,_,0,_,h,e=>by unfold af at h;obtain⟨y,ys,rfl,h1,h2⟩:=h;simp at e;subst e;exact⟨y,rfl,h1⟩
 |d::ds,_,i+1,_,h,e=>by unfold af at h;obtain⟨y,ys,rfl,h1,h2⟩:=h;simpa using af.get (i:=i) h2 (by simpa using e)
theorem af.snoc{d:PyData}{x:V}(hd:ah nb H d x):∀{ds:List PyData} {xs:List V},af nb H ds xs->af nb H (ds++[d]) (xs++[x])
 |[],_,h=>by unfold af at h;subst h;unfold af;exact⟨x,[],rfl,hd,by unfold af;rfl⟩
 |e::ds,_,h=>by unfold af at h;obtain⟨y,ys,rfl,h1,h2⟩:=h;show af nb H (e::(ds++[d])) _;unfold af;exact⟨y,ys++[x],rfl,h1,af.snoc hd h2⟩
theorem af.append:∀{ds es:List PyData} {xs ys:List V},af nb H ds xs->af nb H es ys->af nb H (ds++es) (xs++ys)
 |[],_,_,_,h,h'=>by unfold af at h;subst h;exact h'
 |e::ds,es,_,zs,h,h'=>by unfold af at h;obtain⟨y,ys,rfl,h1,h2⟩:=h;show af nb H (e::(ds++es)) _;unfold af;exact⟨y,ys++zs,rfl,h1,af.append h2 h'⟩
theorem af.take:∀{ds:List PyData} {xs:List V} (n:Nat),af nb H ds xs->af nb H (ds.take n) (xs.take n)
 |_,_,0,_=>by simp only[List.take_zero];unfold af;rfl
 |[],_,n+1,h=>by unfold af at h;subst h;simp only[List.take_nil];unfold af;rfl
 |d::ds,_,n+1,h=>by unfold af at h;obtain⟨y,ys,rfl,h1,h2⟩:=h;simp only[List.take_succ_cons];unfold af;exact⟨y,_,rfl,h1,af.take n h2⟩
theorem af.drop:∀{ds:List PyData} {xs:List V} (n:Nat),af nb H ds xs->af nb H (ds.drop n) (xs.drop n)
 |_,_,0,h=>h
 |[],_,n+1,h=>by unfold af at h;subst h;simp only[List.drop_nil];unfold af;rfl
 |d::ds,_,n+1,h=>by unfold af at h;obtain⟨y,ys,rfl,h1,h2⟩:=h;simp only[List.drop_succ_cons];exact af.drop n h2
theorem af.nil:af nb H [] []:=by unfold af;rfl
theorem af.cons{d:PyData}{x:V}{ds:List PyData}{xs:List V}(h1:ah nb H d x)(h2:af nb H ds xs):af nb H (d::ds) (x::xs):=by unfold af;exact⟨x,xs,rfl,h1,h2⟩
theorem ah.int(i:Int):ah nb H (.int i) (.int i):=by unfold ah;rfl
theorem ah.aB:ah nb H .none .aB:=by unfold ah;rfl
theorem ah.bl(b:Bool):ah nb H (.bool b) (.bl b):=by unfold ah;rfl
theorem ah.lst{a:Addr}{ds:List PyData}{xs:List V}(n:¬nb a)(h:H a=some (.lst xs))(hd:af nb H ds xs):ah nb H (.list ds) (.ref a):=by unfold ah;exact⟨a,xs,rfl,n,h,hd⟩
theorem ah.tup{a:Addr}{ds:List PyData}{xs:List V}(n:¬nb a)(h:H a=some (.tup xs))(hd:af nb H ds xs):ah nb H (.tuple ds) (.ref a):=by unfold ah;exact⟨a,xs,rfl,n,h,hd⟩
theorem ah.dG{v:V}{ds:List PyData}(h:ah nb H (.list ds) v):∃a xs,v= .ref a/\¬nb a/\H a=some (.lst xs)/\af nb H ds xs:=by unfold ah at h;exact h
theorem ah.ofT{v:V}{ds:List PyData}(h:ah nb H (.tuple ds) v):∃a xs,v= .ref a/\¬nb a/\H a=some (.tup xs)/\af nb H ds xs:=by unfold ah at h;exact h
theorem ah.bB{v:V}{i:Int}(h:ah nb H (.int i) v):v= .int i:=by unfold ah at h;exact h
theorem ah.rC{v:V}(h:ah nb H .none v):v= .aB:=by unfold ah at h;exact h
end
noncomputable def xg:Sp:=fun vs H Q _=>∃i:Int,vs=[.int i]/\Q (.bl true) H
noncomputable def qW(K:PySem.W.Frag):Sp:=fun vs H Q _=>∃(a:Addr) (ns:List Int),vs=[.ref a]/\aR K H a (ns.map V.int)/\ns.length<=63/\∀H',Q (.bl true) H'
end L2
set_option maxRecDepth 100000
set_option maxHeartbeats 1000000
namespace L2
open PySem PySem.Spec PyProof.Rows
noncomputable def yY(Q:VK):List V->Hp->Prop:=fun xs H1=>xs.length<=sizeLine/\∀p,H1 p=none->Q (.ref p) (upd H1 p (.lst xs))
noncomputable def g9(K:PySem.W.Frag):List V->Hp->VK->Prop:=fun xs H Q=>∃p ys,xs=[.ref p]/\(aR K H p ys\/d7 K H p ys)/\∀l,H l=none->Q (.ref l) (upd H l (.lst ys))
theorem jK{X:Cx}:dS X (.type "list") (g9 X.K):=HY
noncomputable def Er:R2:=fun x y H Q=>y= .aB/\Q (.bl (decide (x= .aB))) H
noncomputable def rF:R2:=fun x y H Q=>y= .aB/\Q (.bl (!decide (x= .aB))) H
theorem uC{X:Cx}:bT X (compareOp .Is) Er:=Js
theorem iO{X:Cx}:bT X (compareOp .IsNot) rF:=Rb
noncomputable def intOf:Expr->Option Int
 | .Constant (.int i) _ _=>some i
 |_=>none
theorem TY{e:Expr}{i:Int}(h:intOf e=some i):∃k p,e= .Constant (.int i) k p:=by
 unfold intOf at h
 split at h
 ·cases h;exact⟨_,_,rfl⟩
 ·cases h
noncomputable def lu:List Expr->Option (List Int)
 |[]=>some []
 |e::r=>(intOf e).bind fun i=>(lu r).map (i:: ·)
noncomputable def qt(is:List Int):TA:=fun _ H Q=>Q (is.map V.int) H
theorem ER{X:Cx}:∀{es:List Expr} {is:List Int},lu es=some is->PA X es (qt is):=by
  intro es
  induction es with
  | nil =>
    intro is h
    have e:is=[]:=by simpa[lu] using h.symm
    subst e
    exact ai
  | cons e r ih =>
    intro is h
    unfold lu at h
    cases hi:intOf e with
    |none=>rw[hi] at h;cases h
    | some i =>
      rw[hi] at h
      obtain⟨k,p,rfl⟩:=TY hi
      obtain⟨js,hj,rfl⟩:=Option.map_eq_some_iff.mp (show(lu r).map (i:: ·)=some is from h)
      exact aa (te:=tC (.int i)) (t:=qt js) aj (ih hj)
theorem Jq{X:Cx}{i:Nat}{x:Str}{es:List Expr}{is:List Int}{p1 p2 p3:Pos}(hN:X.N.Nodup)(hi:X.N[i]?=some x)(hx:Loc X.env.scope x)(h:lu es=some is)(hf:X.fn x=true\/X.env.scope.names.lookup x=some .local):
  PS X (.Assign [.Name x p1] (.List es p2) p3) (dZ (j3 (qt is)) (fc i)):=aN hN hi hx (eS (ER h)) rfl hf
namespace R
section
variable{σ:St}{H:Hp}{Q:VK}{D:Ends}{ta tb te:TE}{K:PySem.W.Frag}
theorem seq{t u:TS}(h:t {D with nx:=u D} σ H):iW t u D σ H:=h
theorem asg{g:TG}(h:te σ H fun x H1=>g x σ H1 D.nx):dZ te g D σ H:=h
theorem jA{c:TT}{t u:TS}(h:c σ H fun b H1=>if b=true then t D σ H1 else u D σ H1):nE c t u D σ H:=h
theorem ret(h:te σ H D.rt):lX te D σ H:=h
theorem next(h:D.nx σ H):v7 D σ H:=h
theorem var{i:Nat}{v:V}(e:σ[i]?=some (some v))(h:Q v H):aZ i σ H Q:=⟨v,e,h⟩
theorem c{v:V}(h:Q v H):tC v σ H Q:=h
theorem op{r:R2}(h:ta σ H fun x H1=>tb σ H1 fun y H2=>r x y H2 Q):bZ r ta tb σ H Q:=h
theorem test{q:Bool->Hp->Prop}(h:te σ H fun x H'=>∃k,x= .bl k/\q k H'):nL te σ H q:=h
theorem bl{P:Bool->Prop}{b:Bool}(h:P b):∃k,V.bl b= .bl k/\P k:=⟨b,rfl,h⟩
theorem and{t u:TT}{q:Bool->Hp->Prop}(h:t σ H fun c H1=>if c=true then u σ H1 q else q false H1):vR t u σ H q:=h
theorem V8(h:ta σ H fun x H1=>∃c,x= .bl c/\if c=true then tb σ H1 Q else Q (.bl false) H1):Cz ta tb σ H Q:=h
theorem PF(h:ta σ H fun x H1=>∃c,x= .bl c/\Q (.bl (!c)) H1):DW ta σ H Q:=h
theorem cb{r:List V->Hp->VK->Prop}{t:TA}(h:t σ H fun vs H1=>r vs H1 Q):dh r t σ H Q:=h
theorem call{sp:Sp}{t:TA}(h:t σ H fun vs H1=>sp (vs++[]) H1 Q E0):d8 sp [] E0 t σ H Q:=h
theorem nil{q:List V->Hp->Prop}(h:q [] H):bz σ H q:=h
theorem cons{t:TA}{q:List V->Hp->Prop}(h:ta σ H fun x H1=>t σ H1 fun xs H2=>q (x::xs) H2):aV ta t σ H q:=h
theorem lst{t:TA}(h:t σ H (yY Q)):j3 t σ H Q:=h
theorem sl{r:V->Option Int->Option Int->Hp->VK->Prop}{tl th:TO}(h:te σ H fun x H1=>tl σ H1 fun l H2=>th σ H2 fun u H3=>r x l u H3 Q):nD r te tl th σ H Q:=h
theorem Sb{q:Option Int->Hp->Prop}(h:q none H):tT σ H q:=h
theorem part{q:Option Int->Hp->Prop}(h:te σ H fun x H1=>∃i,x= .int i/\q (some i) H1):uT te σ H q:=h
theorem FN{P:Int->Prop}{i:Int}(h:P i):∃j,V.int i= .int j/\P j:=⟨i,rfl,h⟩
theorem DM{i:Nat}{v:V}{q:St->Hp->Prop}(h:q (σ.set i (some v)) H):fc i v σ H q:=h
theorem L7{to ti:TE}{t:rz}{v:V}{q:St->Hp->Prop}(h:to σ H fun o H1=>ti σ H1 fun i H2=>t o i v H2 fun H3=>q σ H3):jN to ti t v σ H q:=h
theorem Ut{t:TG}{u:fM}{v:V}{r:List V}{q:St->Hp->Prop}(h:t v σ H fun σ' H'=>u r σ' H' q):zu t u (v::r) σ H q:=⟨v,r,rfl,h⟩
theorem RL{q:St->Hp->Prop}(h:q σ H):yd [] σ H q:=⟨rfl,h⟩
theorem FH{n:Nat}{t:fM}{a:Addr}{xs:List V}{q:St->Hp->Prop}(hq:d7 K H a xs)(hl:xs.length=n)(h:t xs σ H q):pU K n t (.ref a) σ H q:=⟨a,xs,rfl,hq,hl,h⟩
theorem oU{q:Bool->Hp->Prop}(h:q true H):jH σ H q:=h
theorem eY{g:Int->Int->V}{i j:Int}(h:Q (g i j) H):L2.eY g (.int i) (.int j) H Q:=⟨i,j,rfl,rfl,h⟩
theorem rI{C:Int->Int->Prop}{g:Int->Int->V}{i j:Int}(hc:C i j)(h:Q (g i j) H):L2.rI C g (.int i) (.int j) H Q:=⟨i,j,rfl,rfl,hc,h⟩
theorem vV{i j:Int}:decide (V.int i=V.int j)=decide (i=j):=by rw[Bool.eq_iff_iff];simp
theorem Jt{i j:Int}(h:Q (.bl (decide (i=j))) H):u5 (.int i) (.int j) H Q:=⟨rfl,by rw[vV];exact h⟩
theorem KG{i j:Int}(h:Q (.bl (decide (i≠j))) H):tB (.int i) (.int j) H Q:=⟨rfl,by rw[vV,<-decide_not];exact h⟩
theorem CL{i:Int}(h:Q (.bl true) H):rF (.int i) .aB H Q:=⟨rfl,by rw[decide_eq_false (fun e=>V.noConfusion e)];exact h⟩
theorem EO(h:Q (.bl false) H):rF .aB .aB H Q:=⟨rfl,by rw[decide_eq_true rfl];exact h⟩
theorem pL{p:Addr}{xs:List V}{i:Int}{v:V}(hp:H p=some (.lst xs))(e:bF xs i=some v)(h:Q v H):bU K (.ref p) (.int i) H Q:=⟨p,xs,i,v,rfl,rfl,aR.of hp,e,h⟩
theorem AZ{p:Addr}{o:HO}{xs:List V}{i:Int}{v:V}(e:bF xs i=some v)(h:Q v (upd H p (.lst xs))):bU K (.ref p) (.int i) (upd H p (.lst xs)) Q:=⟨p,xs,i,v,rfl,rfl,aR.of aY,e,h⟩
theorem setM{p:Addr}{xs:List V}{k:Int}{j:Nat}{v:V}{q:Hp->Prop}(hp:H p=some (.lst xs))(e:eX xs.length k=some j)(h:q (upd H p (.lst (xs.set j v)))):mK (.ref p) (.int k) v H q:=⟨p,xs,k,j,rfl,rfl,hp,e,h⟩
theorem V6{p:Addr}{xs:List V}{k:Int}{j:Nat}{v:V}{q:Hp->Prop}(e:eX xs.length k=some j)(h:q (upd H p (.lst (xs.set j v)))):mK (.ref p) (.int k) v (upd H p (.lst xs)) q:=
 ⟨p,xs,k,j,rfl,rfl,aY,e,by rw[u0];exact h⟩
theorem QA{p:Addr}{xs:List V}{P:List V->Prop}(hp:H p=some (.lst xs))(h:P xs):∃a ys,[V.ref p]=[.ref a]/\(aR K H a ys\/d7 K H a ys)/\P ys:=⟨p,xs,rfl, .inl (aR.of hp),h⟩
theorem Cb{p:Addr}{xs:List V}{lo hi:Option Int}(hp:aR K H p xs)(h:∀a,H a=none->Q (.ref a) (upd H a (.lst (i8 xs lo hi)))):kj K (.ref p) lo hi H Q:=⟨p,xs,rfl,hp,h⟩
theorem Fy{a:Int}{P:Int->Prop}(h:P a):∃i,[V.int a]=[.int i]/\P i:=⟨a,rfl,h⟩
theorem HH{xs:List V}(h:xs.length<=10000)(q:∀p H',bI H H'->H p=none->H' p=some (.lst xs)->Q (.ref p) H'):yY Q xs H:=
 ⟨Nat.le_trans h (by decide),fun p hp=>q p _ (cJ hp) hp aY⟩
theorem E5{c A B:Prop}[Decidable c](h:c)(q:A):if c then A else B:=by rw[if_pos h];exact q
theorem CG{c A B:Prop}[Decidable c](h:¬c)(q:B):if c then A else B:=by rw[if_neg h];exact q
theorem dT{c:Prop}[Decidable c](h:c):decide c=true:=decide_eq_true h
theorem dF{c:Prop}[Decidable c](h:¬c):¬decide c=true:=by rw[decide_eq_false h];exact Bool.false_ne_true
theorem Cr{c:Prop}[Decidable c](h:¬c):(!decide c)=true:=by rw[decide_eq_false h];rfl
theorem Ay{c:Prop}[Decidable c](h:c):¬(!decide c)=true:=by rw[decide_eq_true h];decide
theorem Qi{i:Int}(h:Q (.bl true) H):jx K [.int i, .ty "int"] H Q:=⟨_,_,_,true,rfl, .int i,rfl,h⟩
theorem Ft{i:Int}(h:Q (.bl false) H):jx K [.int i, .ty "bool"] H Q:=⟨_,_,_,false,rfl, .int i,by with_unfolding_all rfl,h⟩
theorem JS{t:TA}{R:It->Hp->Prop}(h:t σ H fun vs H1=>∃i j:Int,vs=[.int i, .int j]/\(-(2^62)<=i/\i<2^62/\ -(2^62)<=j/\j<2^62)/\R (gm i (j-i).toNat) H1):DK t σ H R:=h
theorem JL{P:Int->Int->Prop}{a b:Int}(h1: -(2^62)<=a/\a<2^62/\ -(2^62)<=b/\b<2^62)(h:P a b):∃i j:Int,[V.int a,V.int b]=[.int i, .int j]/\(-(2^62)<=i/\i<2^62/\ -(2^62)<=j/\j<2^62)/\P i j:=⟨a,b,rfl,h1,h⟩
theorem iL{tl:TE}{R:It->Hp->Prop}(h:tl σ H fun x H1=>∃a,x= .ref a/\(∃xs,aR K H1 a xs)/\R (j6 K a) H1):kh K tl σ H R:=h
theorem qw{P:Addr->Prop}{p:Addr}{xs:List V}(hp:aR K H p xs)(h:P p):∃a,V.ref p= .ref a/\(∃xs,aR K H a xs)/\P a:=⟨p,rfl,⟨xs,hp⟩,h⟩
theorem LW{wi:TI}{g:TG}{tb:TS}(h:wi σ H fun J H1=>∃W:Nat->Nat->St->Hp->Prop,(∃m,W 0 m σ H1)/\∀i m σ H,W i m σ H->
 (J.stop i H/\D.nx σ H)\/(J.go i H/\∃N:St->Hp->Prop,(∀σ' H',N σ' H'->∃m',m'<m/\W (i+1) m' σ' H')/\∀x H',J.kL i H x H'->g x σ H' fun σ2 H2=>tb {D with nx:=N,ct:=N,bk:=D.nx} σ2 H2)):lM wi g tb D σ H:=h
theorem comp{wi:TI}{g:TG}{tc:TT}{mp:List (Option Nat)}(h:wi σ H fun J H1=>∀acc,H1 acc=none->oR J g tc te acc (fun H'=>Q (.ref acc) H') (eB mp σ) (upd H1 acc (.lst []))):iF wi g tc te mp σ H Q:=h
end
theorem yh{lo:Int}{n:Nat}{g:TG}{tc:TT}{te:TE}{acc:Addr}{Qe:Hp->Prop}{σ:St}{H:Hp}(Pv:Nat->St->Hp->Prop)(h0:Pv 0 σ H)
  (hs:∀i σ H,i<n->Pv i σ H->g (.int (lo+i)) σ H fun σ2 H2=>tc σ2 H2 fun b H3=>if b=true then te σ2 H3 fun v H4=>∃ys,H4 acc=some (.lst ys)/\ys.length<sizeLine/\Pv (i+1) σ2 (upd H4 acc (.lst (ys++[v]))) else Pv (i+1) σ2 H3)
  (hd:∀σ H,Pv n σ H->Qe H):oR (gm lo n) g tc te acc Qe σ H:=by
 refine⟨fun i m σ H=>m=n-i/\i<=n/\Pv i σ H,⟨n,by simp,Nat.zero_le _,h0⟩,?_⟩
 rintro i m σ H ⟨rfl,hi,p⟩
 by_cases hlt:i<n
 ·refine .inr ⟨hlt,Pv (i+1),fun σ' H' p'=>⟨n-(i+1),by walk_at "o",rfl,hlt,p'⟩,fun x H' y=>?_⟩
  obtain⟨e,y⟩:=y
  subst e y
  exact hs i σ _ hlt p
 ·have e:i=n:=by walk_at "o"
  subst e
  exact .inl ⟨Nat.le_refl _,hd σ H p⟩
theorem AD{K:PySem.W.Frag}{a:Addr}{xs:List V}{g:TG}{tc:TT}{te:TE}{acc:Addr}{Qe:Hp->Prop}{σ:St}{H:Hp}(Pv:Nat->St->Hp->Prop)(h0:Pv 0 σ H)(hl:∀i σ H,i<=xs.length->Pv i σ H->aR K H a xs)
  (hs:∀i x σ H,xs[i]?=some x->Pv i σ H->g x σ H fun σ2 H2=>tc σ2 H2 fun b H3=>if b=true then te σ2 H3 fun v H4=>∃ys,H4 acc=some (.lst ys)/\ys.length<sizeLine/\Pv (i+1) σ2 (upd H4 acc (.lst (ys++[v]))) else Pv (i+1) σ2 H3)
  (hd:∀σ H,Pv xs.length σ H->Qe H):oR (j6 K a) g tc te acc Qe σ H:=by
 refine⟨fun i m σ H=>m=xs.length-i/\i<=xs.length/\Pv i σ H,⟨xs.length,by simp,Nat.zero_le _,h0⟩,?_⟩
 rintro i m σ H ⟨rfl,hi,p⟩
 have q:=hl i σ H hi p
 by_cases hlt:i<xs.length
 ·refine .inr ⟨⟨xs,xs[i],q,by simp[hlt]⟩,Pv (i+1),fun σ' H' p'=>⟨xs.length-(i+1),by walk_at "o",rfl,hlt,p'⟩,fun x H' y=>?_⟩
  obtain⟨e,y⟩:=y
  subst e
  exact hs i x σ _ (y xs q) p
 ·have e:i=xs.length:=by walk_at "o"
  subst e
  exact .inl ⟨⟨xs,q,Nat.le_refl _⟩,hd σ H p⟩
end R
end L2
set_option maxRecDepth 100000
set_option maxHeartbeats 1000000
namespace L2
open PySem PySem.Spec PyProof.Rows
@[reducible] noncomputable def pairD(pr:Int×Int):PyData:= .tuple [.int pr.1, .int pr.2]
noncomputable def br:Option Int->PyData
 |none=> .none
 |some i=> .int i
noncomputable def rB:Option Int->V
 |none=> .aB
 |some i=> .int i
noncomputable def fG(wd:List (Option Int))(pr:Int×Int):Int:=match wd[pr.1.toNat]? with
 |some (some x)=>pr.2*x
 |_=>0
noncomputable def aW(prs:List (Int×Int))(wd:List (Option Int)):Int:=(prs.map (fG wd)).sum
theorem Ce{prs:List (Int×Int)}{wd:List (Option Int)}{i:Nat}(h:i<prs.length):aW (prs.take (i+1)) wd=aW (prs.take i) wd+fG wd prs[i]:=by
 unfold aW
 rw[List.take_add_one,List.getElem?_eq_getElem h,List.map_append,List.sum_append]
 simp
theorem RO{nb:Addr->Prop}{H:Hp}{o:Option Int}{v:V}(h:ah nb H (br o) v):v=rB o:=by
 cases o with
 |none=>exact h.rC
 |some i=>exact h.bB
theorem Es{nb:Addr->Prop}{H:Hp}:∀{wd:List (Option Int)} {xs:List V},af nb H (wd.map br) xs->xs=wd.map rB
  |[],_,h=>by unfold List.map af at h;exact h
  | o :: wd, _, h => by
    rw[List.map_cons] at h
    unfold af at h
    obtain⟨y,ys,rfl,h1,h2⟩:=h
    rw[List.map_cons,RO h1,Es h2]
theorem UG{nb:Addr->Prop}{H:Hp}{pr:Int×Int}{v:V}(h:ah nb H (pairD pr) v):∃t,v= .ref t/\¬nb t/\H t=some (.tup [.int pr.1, .int pr.2]):=by
 obtain⟨t,xs,rfl,n,ht,hd⟩:=h.ofT
 unfold af at hd
 obtain⟨y,ys,rfl,h1,h2⟩:=hd
 unfold af at h2
 obtain⟨z,zs,rfl,h3,h4⟩:=h2
 unfold af at h4
 subst h4
 rw[h1.bB,h3.bB] at ht
 exact⟨t,rfl,n,ht⟩
noncomputable def tG:Sp:=fun vs H Q _=>∃(nb:Addr->Prop) (p:Int) (va vc:V) (prs:List (Int×Int)) (wd:List (Option Int)),vs=[.int p,va,vc]/\ah nb H (.list (prs.map pairD)) va/\ah nb H (.list (wd.map br)) vc/\0<p/\
 (∀pr∈prs,0<=pr.1/\pr.1<wd.length/\Sm pr.2)/\(∀x,some x∈wd->Sm x)/\Q (.int (aW prs wd%p)) H
theorem Lr(prs:List (Int×Int)):SeqAt.shaped (.list (prs.map pairD))=true/\PyData.depthAll (prs.map pairD)<=1/\PyData.canLayAll0 (prs.map pairD)=true:=by
 have h:PyData.depthAll (prs.map pairD)<=1/\PyData.canLayAll0 (prs.map pairD)=true:=by
  induction prs with
  |nil=>simp[PyData.depthAll,PyData.canLayAll0]
  |cons a r ih=>simp[pairD,PyData.depthAll,PyData.depth,PyData.canLayAll0,PyData.canLay0,ih.2];have:=ih.1;walk_at "o"
 refine⟨?_,h⟩
 unfold SeqAt.shaped
 simp[PyData.canLay0,PyData.depth,h.2]
 walk_at "o"
theorem Dw(wd:List (Option Int)):PyData.depthAll (wd.map br)=0/\PyData.canLayAll0 (wd.map br)=true:=by
 induction wd with
 |nil=>simp[PyData.depthAll,PyData.canLayAll0]
 |cons a r ih=>cases a<;>simp[br,PyData.depthAll,PyData.depth,PyData.canLayAll0,PyData.canLay0,ih.2,ih.1]
noncomputable def qo(r:Int):Prop:=∀d:Int,2<=d->d*d<=r->r%d≠0
noncomputable def p8:List Int:=[2,3,5,7,2,11,101,10007,65537,1000003,998244353,1000000007,2147483647,1000000000039,1000000000000000003,18446744073709551557,2305843009213693951,618970019642690137449562111,162259276829213363391578010288127,170141183460469231731687303715884105727,1000000000000000000000000000000000000003,9999999999999999999999999999999999999983]
noncomputable def D9(p:Int):Prop:=2<=p/\p<10^40/\(p∈p8\/qo p)
noncomputable def yX:Sp:=fun vs H Q _=>∃n:Int,vs=[.int n]/\2<=n/\n<=10002/\∀(r:Int) (H':Hp),bI H H'->2<=r->r<=10100->qo r->Q (.int r) H'
noncomputable def KD:Sp:=fun vs H Q _=>∃(b l:Addr),vs=[.ref b]/\bM H b l/\∀(p:Int) (H':Hp),D9 p->aH (Nb b) H H'->bM H' b l->Q (.int p) H'
noncomputable def pF(wd:List Int)(ld:List (Option Int)):Prop:=ld.length=wd.length/\∀(i:Nat) x,ld[i]?=some (some x)->wd[i]?=some x
theorem qN{nb:Addr->Prop}{H:Hp}:∀is:List Int,af nb H (is.map PyData.int) (is.map V.int)
 |[]=>af.nil
 |i::is=>af.cons (.int i) (qN is)
theorem oq{nb:Addr->Prop}{H:Hp}:∀{is:List Int} {xs:List V},af nb H (is.map PyData.int) xs->xs=is.map V.int
  |[],_,h=>by unfold List.map af at h;exact h
  | i :: is, _, h => by
    rw[List.map_cons] at h
    unfold af at h
    obtain⟨y,ys,rfl,h1,h2⟩:=h
    rw[List.map_cons,h1.bB,oq h2]
end L2
set_option maxRecDepth 100000
set_option maxHeartbeats 1000000
namespace L2
open PySem PySem.Spec PyProof.Rows
noncomputable abbrev Bg:=Option (Addr×Addr)
noncomputable def NB(B:Bg)(a:Addr):Prop:=∀b l,B=some (b,l)->a≠b
noncomputable def gU(B:Bg)(H:Hp):Prop:=∀b l,B=some (b,l)->bM H b l
inductive HD where
 |d (x:PyData)|fz (o:Obj) (ps:List (Key×V))
noncomputable def dW(S:Addr->Prop)(H:Hp):HD->V->Prop
 | .d x,v=>ah S H x v
 | .fz o ps,v=>∃a,v= .ref a/\¬S a/\H a=some (.eV o (.dK ps))
theorem dW.keep{S:Addr->Prop}{H H':Hp}{x:HD}{v:V}(h:dW S H x v)(b:aH S H H'):dW S H' x v:=by
 cases x with
 |d x=>exact ah.keep b h
 |fz o ps=>obtain⟨a,e,n,q⟩:=h;exact⟨a,e,n,b _ _ n q⟩
theorem dW.av{S S':Addr->Prop}{H:Hp}{x:HD}{v:V}(h:dW S H x v)(b:∀a,S' a->S a):dW S' H x v:=by
 cases x with
 |d x=>exact ah.av b h
 |fz o ps=>obtain⟨a,e,n,q⟩:=h;exact⟨a,e,fun z=>n (b a z),q⟩
theorem dW.fresh{S:Addr->Prop}{H:Hp}{x:HD}{v:V}{p:Addr}(h:dW S H x v)(hp:H p=none):dW (fun a=>S a\/a=p) H x v:=by
 cases x with
 |d x=>exact ah.fresh hp h
 |fz o ps=>obtain⟨a,e,n,q⟩:=h;exact⟨a,e,fun z=>z.elim n (fj q hp),q⟩
structure Gx where
 B:Bg
 H0:Hp
 A:Addr->Prop
 hold:List (Bool×HD×V):=[]
noncomputable def ji(nb:Addr->Prop)(H:Hp):Prop:=∀a,nb a->H a≠none
structure Kp(S:Addr->Prop)(F:List Addr)(H H':Hp):Prop where
 own:∀a∈F,∀o,H a=some o->H' a=some o
 lst:∀a xs,¬S a->H a=some (.lst xs)->H' a=some (.lst xs)
 tup:∀a xs,¬S a->H a=some (.tup xs)->H' a=some (.tup xs)
 bA:∀a ps,¬S a->Rd H a (.dK ps)->Rd H' a (.dK ps)
theorem Kp.of{S:Addr->Prop}{F:List Addr}{H H':Hp}(h:∀a o,(¬S a\/a∈F)->H a=some o->H' a=some o):Kp S F H H':=
 ⟨fun a ha o e=>h a o (.inr ha) e,fun a xs n e=>h a _ (.inl n) e,fun a xs n e=>h a _ (.inl n) e,fun a ps n e=>e.elim (fun e=> .inl (h a _ (.inl n) e)) fun⟨o,e⟩=> .inr ⟨o,h a _ (.inl n) e⟩⟩
mutual
theorem ah.kp{S:Addr->Prop}{F:List Addr}{H H':Hp}(m:Kp S F H H'):∀{d:PyData} {v:V},ah S H d v->ah S H' d v
 | .none,_,h=>by unfold ah at h⊢;exact h
 | .bool _,_,h=>by unfold ah at h⊢;exact h
 | .int _,_,h=>by unfold ah at h⊢;exact h
 | .str _,_,h=>by unfold ah at h⊢;exact h
 | .list ds,_,h=>by unfold ah at h⊢;obtain⟨a,xs,e,n,s,r⟩:=h;exact⟨a,xs,e,n,m.lst _ _ n s,af.kp m r⟩
 | .tuple ds,_,h=>by unfold ah at h⊢;obtain⟨a,xs,e,n,s,r⟩:=h;exact⟨a,xs,e,n,m.tup _ _ n s,af.kp m r⟩
 | .dict kvs,_,h=>by unfold ah at h⊢;obtain⟨a,xs,e,n,s,r⟩:=h;exact⟨a,xs,e,n,m.bA _ _ n s,au.kp m r⟩
theorem af.kp{S:Addr->Prop}{F:List Addr}{H H':Hp}(m:Kp S F H H'):∀{ds:List PyData} {vs:List V},af S H ds vs->af S H' ds vs
 |[],_,h=>by unfold af at h⊢;exact h
 |d::ds,_,h=>by unfold af at h⊢;obtain⟨y,ys,e,h1,h2⟩:=h;exact⟨y,ys,e,ah.kp m h1,af.kp m h2⟩
theorem au.kp{S:Addr->Prop}{F:List Addr}{H H':Hp}(m:Kp S F H H'):∀{ds:List (PyData×PyData)} {vs:List (Key×V)},au S H ds vs->au S H' ds vs
 |[],_,h=>by unfold au at h⊢;exact h
 |d::ds,_,h=>by unfold au at h⊢;obtain⟨y,ys,e,h1,h2⟩:=h;exact⟨y,ys,e,cD.kp m h1,au.kp m h2⟩
theorem cD.kp{S:Addr->Prop}{F:List Addr}{H H':Hp}(m:Kp S F H H'):∀{d:PyData×PyData} {v:Key×V},cD S H d v->cD S H' d v
 |(k,d),_,h=>by unfold cD at h⊢;exact⟨h.1,ah.kp m h.2⟩
end
structure Cu where
 v:V
 F:List Addr
 f:Bool
 P:(Addr->Prop)->Hp->Prop
 keep:∀{S:Addr->Prop} {H H':Hp},Kp S F H H'->P S H->P S H'
 av:∀{S S':Addr->Prop} {H:Hp},(∀a,S' a->S a)->P S H->P S' H
 fresh:∀{S:Addr->Prop} {H:Hp} {p:Addr},H p=none->P S H->P (fun a=>S a\/a=p) H
inductive Sl where
 |no|d (f:Bool) (d:PyData)|own (a:Addr) (f:Bool) (ds:List PyData)|ak|raw (v:V)|bA (a:Addr) (f:Bool) (ks:List (Int×PyData))|cu (c:Cu)
noncomputable def Sl.adr:Sl->List Addr
 | .own a _ _=>[a]
 | .bA a _ _=>[a]
 | .cu c=>c.F
 |_=>[]
@[reducible] noncomputable def d9(p:Int×PyData):PyData×PyData:=(.int p.1,p.2)
noncomputable abbrev Rh:=List Sl
noncomputable def Gx.S(G:Gx)(nb:Addr->Prop)(f:Bool):Addr->Prop:=fun a=>nb a\/G.A a\/¬NB G.B a\/(f=true/\G.H0 a≠none)
noncomputable def kB(G:Gx)(nb:Addr->Prop)(H:Hp)(x:Option V):Sl->Prop
 | .no=>True
 | .d f d=>∃v,x=some v/\ah (G.S nb f) H d v
 | .own a f ds=>x=some (.ref a)/\nb a/\NB G.B a/\∃xs,H a=some (.lst xs)/\af (G.S nb f) H ds xs
 | .ak=>∃b l,G.B=some (b,l)/\x=some (.ref b)
 | .raw v=>x=some v
 | .bA a f ks=>x=some (.ref a)/\nb a/\NB G.B a/\∃ps,H a=some (.dK ps)/\au (G.S nb f) H (ks.map d9) ps
 | .cu c=>x=some c.v/\(∀a∈c.F,nb a/\NB G.B a)/\c.P (G.S nb c.f) H
structure Wd(G:Gx)(nb:Addr->Prop)(ρ:Rh)(σ:St)(H:Hp):Prop where
 ak:gU G.B H
 live:ji nb H
 old:∀a o,NB G.B a->G.H0 a=some o->H a=some o
 cL:∀a,nb a->NB G.B a->G.H0 a=none
 gA:ji G.A G.H0
 len:σ.length=ρ.length
 gB:gU G.B G.H0
 cH:∀h∈G.hold,dW (G.S nb h.1) H h.2.1 h.2.2
 ok:∀(i:Nat) (s:Sl),ρ[i]?=some s->∃x,σ[i]?=some x/\kB G nb H x s
 apart:∀(i j:Nat) a f as c g cs,i≠j->ρ[i]?=some (.own a f as)->ρ[j]?=some (.own c g cs)->a≠c
 eT:∀(i j:Nat) a f as c g cs,i≠j->ρ[i]?=some (.bA a f as)->ρ[j]?=some (.bA c g cs)->a≠c
 cS:∀(i j:Nat) c s,i≠j->ρ[i]?=some (.cu c)->ρ[j]?=some s->∀a∈c.F,a∉s.adr
noncomputable def Step(B:Bg)(H H':Hp):Prop:=(∀a o,NB B a->H a=some o->H' a=some o)/\gU B H'
section
variable{G:Gx}{B:Bg}{nb:Addr->Prop}{ρ:Rh}{σ:St}{H H1 H2 H':Hp}{f g:Bool}{d:PyData}{ds:List PyData}{v:V}{xs:List V}{a p:Addr}
theorem Step.refl(h:gU B H):Step B H H:=⟨fun _ _ _ e=>e,h⟩
theorem Step.trans(x:Step B H H1)(y:Step B H1 H2):Step B H H2:=⟨fun a o n e=>y.1 a o n (x.1 a o n e),y.2⟩
theorem gU.same(h:gU B H)(s:bI H H'):gU B H':=fun b l e=>(h b l e).same s
theorem Step.same(h:gU B H)(s:bI H H'):Step B H H':=⟨fun a o _ e=>s a o e,h.same s⟩
theorem Step.but{aI:Addr->Prop}(s:Step B H H')(h:∀a,¬NB B a->aI a):aH aI H H':=fun a o n e=>s.1 a o (Classical.byContradiction fun z=>n (h a z)) e
theorem Step.cF(s:Step G.B H H'):aH (G.S nb f) H H':=s.but fun a h=> .inr (.inr (.inl h))
theorem cB(h:g=true->f=true){aI:Addr->Prop}(hn:∀a,nb a->aI a):∀a,G.S nb g a->G.S aI f a:=by
 intro a z
 rcases z with z|z|z|⟨z,q⟩
 ·exact .inl (hn a z)
 ·exact .inr (.inl z)
 ·exact .inr (.inr (.inl z))
 ·exact .inr (.inr (.inr ⟨h z,q⟩))
theorem NB.jt(h:gU B H)(n:¬NB B a):H a≠none:=by
 intro e
 apply n
 intro b l hb z
 subst z
 obtain⟨_,_,_,_,_,h1,_⟩:=h _ _ hb
 rw[h1] at e;cases e
theorem Wd.iR(W:Wd G nb ρ σ H):ji (G.S nb f) H:=by
 intro a z
 rcases z with z|z|z|⟨_,z⟩
 ·exact W.live a z
 ·by_cases n:NB G.B a
  ·cases e:G.H0 a with
   |none=>exact absurd e (W.gA a z)
   |some o=>rw[W.old a o n e];exact Option.some_ne_none _
  ·exact NB.jt W.ak n
 ·exact NB.jt W.ak z
 ·by_cases n:NB G.B a
  ·cases e:G.H0 a with
   |none=>exact absurd e z
   |some o=>rw[W.old a o n e];exact Option.some_ne_none _
  ·exact NB.jt W.ak n
theorem Wd.fresh(W:Wd G nb ρ σ H)(hp:H p=none):¬G.S nb f p:=fun z=>W.iR p z hp
theorem kB.step{x:Option V}{s:Sl}(st:Step G.B H H')(h:kB G nb H x s):kB G nb H' x s:=by
  cases s with
  |no=>trivial
  |d f d=>obtain⟨v,e,h⟩:=h;exact⟨v,e,h.keep st.cF⟩
  |own a f ds=>obtain⟨e,n,q,xs,hx,hd⟩:=h;exact⟨e,n,q,xs,st.1 _ _ q hx,hd.keep st.cF⟩
  |ak=>exact h
  |raw v=>exact h
  |bA a f ks=>obtain⟨e,n,q,xs,hx,hd⟩:=h;exact⟨e,n,q,xs,st.1 _ _ q hx,hd.keep st.cF⟩
  | cu c =>
    obtain⟨e,n,p⟩:=h
    refine⟨e,n,c.keep (.of fun a o ha e=>st.1 a o ?_ e) p⟩
    rcases ha with ha|ha
    · exact Classical.byContradiction fun z=>ha (.inr (.inr (.inl z)))
    · exact(n a ha).2
theorem Uq(n:NB B a)(st:Step B H H')(h:H a≠none):H' a≠none:=by
 cases e:H a with
 |none=>exact absurd e h
 |some o=>rw[st.1 a o n e];exact Option.some_ne_none _
theorem Wd.step(W:Wd G nb ρ σ H)(st:Step G.B H H'):Wd G nb ρ σ H' where
 ak:=st.2
 live:=fun a n=>by
  by_cases q:NB G.B a
  ·exact Uq q st (W.live a n)
  ·exact NB.jt st.2 q
 old:=fun a o n e=>st.1 a o n (W.old a o n e)
 cL:=W.cL
 gA:=W.gA
 len:=W.len
 gB:=W.gB
 cH:=fun h m=>(W.cH h m).keep st.cF
 ok:=fun i s e=>by
  obtain⟨x,e1,h⟩:=W.ok i s e
  exact⟨x,e1,h.step st⟩
 apart:=W.apart
 eT:=W.eT
 cS:=W.cS
theorem Wd.set{i:Nat}{s:Sl}{x:Option V}(W:Wd G nb ρ σ H)(h:kB G nb H x s)(hs:∀a f ds,s= .own a f ds->∀j c g cs,j≠i->ρ[j]?=some (.own c g cs)->a≠c)(hd:∀a f ds,s= .bA a f ds->∀j c g cs,j≠i->ρ[j]?=some (.bA c g cs)->a≠c:=by intro _ _ _ z;cases z)(hcu:∀a∈s.adr,∀j t,j≠i->ρ[j]?=some t->(∃c,s= .cu c)\/(∃c,t= .cu c)->a∉t.adr:=by intro _ z;cases z):Wd G nb (ρ.set i s) (σ.set i x) H where
 ak:=W.ak
 live:=W.live
 old:=W.old
 cL:=W.cL
 gA:=W.gA
 len:=by rw[List.length_set,List.length_set];exact W.len
 gB:=W.gB
 cH:=W.cH
 ok:=fun j t e=>by
  by_cases hij:i=j
  ·subst hij
   have hl:i<ρ.length:=by have:=(List.getElem?_eq_some_iff.mp e).1;rwa[List.length_set] at this
   rw[List.getElem?_set_self hl] at e
   cases e
   exact⟨x,List.getElem?_set_self (by rw[W.len];exact hl),h⟩
  ·rw[List.getElem?_set_ne hij] at e⊢
   exact W.ok j t e
 apart:=fun j k a f as c g cs hjk e1 e2=>by
  by_cases hj:i=j
  ·subst hj
   have hl:i<ρ.length:=by have:=(List.getElem?_eq_some_iff.mp e1).1;rwa[List.length_set] at this
   rw[List.getElem?_set_self hl] at e1
   cases e1
   rw[List.getElem?_set_ne hjk] at e2
   exact hs a f as rfl k c g cs (Ne.symm hjk) e2
  ·by_cases hk:i=k
   ·subst hk
    have hl:i<ρ.length:=by have:=(List.getElem?_eq_some_iff.mp e2).1;rwa[List.length_set] at this
    rw[List.getElem?_set_self hl] at e2
    cases e2
    rw[List.getElem?_set_ne hj] at e1
    exact(hs c g cs rfl j a f as hjk e1).symm
   ·rw[List.getElem?_set_ne hj] at e1
    rw[List.getElem?_set_ne hk] at e2
    exact W.apart j k a f as c g cs hjk e1 e2
 eT:=fun j k a f as c g cs hjk e1 e2=>by
  by_cases hj:i=j
  ·subst hj
   have hl:i<ρ.length:=by have:=(List.getElem?_eq_some_iff.mp e1).1;rwa[List.length_set] at this
   rw[List.getElem?_set_self hl] at e1
   cases e1
   rw[List.getElem?_set_ne hjk] at e2
   exact hd a f as rfl k c g cs (Ne.symm hjk) e2
  ·by_cases hk:i=k
   ·subst hk
    have hl:i<ρ.length:=by have:=(List.getElem?_eq_some_iff.mp e2).1;rwa[List.length_set] at this
    rw[List.getElem?_set_self hl] at e2
    cases e2
    rw[List.getElem?_set_ne hj] at e1
    exact(hd c g cs rfl j a f as hjk e1).symm
   ·rw[List.getElem?_set_ne hj] at e1
    rw[List.getElem?_set_ne hk] at e2
    exact W.eT j k a f as c g cs hjk e1 e2
 cS:=fun j k c t hjk e1 e2 a ha=>by
  by_cases hj:i=j
  ·subst hj
   have hl:i<ρ.length:=by have:=(List.getElem?_eq_some_iff.mp e1).1;rwa[List.length_set] at this
   rw[List.getElem?_set_self hl] at e1
   cases e1
   rw[List.getElem?_set_ne hjk] at e2
   exact hcu a ha k t (Ne.symm hjk) e2 (.inl ⟨c,rfl⟩)
  ·by_cases hk:i=k
   ·subst hk
    have hl:i<ρ.length:=by have:=(List.getElem?_eq_some_iff.mp e2).1;rwa[List.length_set] at this
    rw[List.getElem?_set_self hl] at e2
    cases e2
    rw[List.getElem?_set_ne hj] at e1
    exact fun z=>hcu a z j (.cu c) hjk e1 (.inr ⟨c,rfl⟩) ha
   ·rw[List.getElem?_set_ne hj] at e1
    rw[List.getElem?_set_ne hk] at e2
    exact W.cS j k c t hjk e1 e2 a ha
theorem Wd.kU{i:Nat}(W:Wd G nb ρ σ H)(h:ah (G.S nb f) H d v):Wd G nb (ρ.set i (.d f d)) (σ.set i (some v)) H:=W.set ⟨v,rfl,h⟩ fun _ _ _ e=>by cases e
inductive Wk:Rh->Rh->Prop
 |nil:Wk [] []
 |no {s:Sl} {r r':Rh} (h:Wk r r'):Wk (.no::r) (s::r')
 |eq {s:Sl} {r r':Rh} (h:Wk r r'):Wk (s::r) (s::r')
theorem Wk.at:∀{r r':Rh} {i:Nat} {s:Sl},Wk r r'->r[i]?=some s->s= .no/\(∃t,r'[i]?=some t)\/r'[i]?=some s
 |_,_,_,_, .nil,e=>by simp at e
 |_,_,0,_, .no h,e=>by simp at e;subst e;exact .inl ⟨rfl,_,rfl⟩
 |_,_,0,_, .eq h,e=>by simp at e;subst e;exact .inr rfl
 |_,_,i+1,_, .no h,e=>by simpa using Wk.at (i:=i) h (by simpa using e)
 |_,_,i+1,_, .eq h,e=>by simpa using Wk.at (i:=i) h (by simpa using e)
theorem Wk.len{r r':Rh}(h:Wk r r'):r.length=r'.length:=by
 induction h with
 |nil=>rfl
 |no _ ih=>simp[ih]
 |eq _ ih=>simp[ih]
theorem Wd.wk{ρ':Rh}(W:Wd G nb ρ' σ H)(h:Wk ρ ρ'):Wd G nb ρ σ H where
 ak:=W.ak
 live:=W.live
 old:=W.old
 cL:=W.cL
 gA:=W.gA
 len:=by rw[h.len];exact W.len
 gB:=W.gB
 cH:=W.cH
 ok:=fun i s e=>by
  rcases h.at e with ⟨rfl,t,e'⟩|e'
  ·obtain⟨x,e1,_⟩:=W.ok i t e';exact⟨x,e1,trivial⟩
  ·exact W.ok i s e'
 apart:=fun i j a f as c g cs hij e1 e2=>by
  rcases h.at e1 with ⟨z,_⟩|kC
  ·cases z
  rcases h.at e2 with ⟨z,_⟩|e2'
  ·cases z
  exact W.apart i j a f as c g cs hij kC e2'
 eT:=fun i j a f as c g cs hij e1 e2=>by
  rcases h.at e1 with ⟨z,_⟩|kC
  ·cases z
  rcases h.at e2 with ⟨z,_⟩|e2'
  ·cases z
  exact W.eT i j a f as c g cs hij kC e2'
 cS:=fun i j c s hij e1 e2 a ha=>by
  rcases h.at e1 with ⟨z,_⟩|kC
  ·cases z
  rcases h.at e2 with ⟨z,_⟩|e2'
  ·subst z;exact fun z=>by cases z
  exact W.cS i j c s hij kC e2' a ha
theorem Wd.more(W:Wd G nb ρ σ H)(hp:H p=none){o:HO}:Wd G (fun a=>nb a\/a=p) ρ σ (upd H p o):=by
 have hS:bI H (upd H p o):=cJ hp
 have hN:NB G.B p:=fun b l e z=>by
  subst z
  obtain⟨_,_,_,_,_,h1,_⟩:=W.ak _ _ e
  rw[h1] at hp;cases hp
 have W':=W.step (Step.same W.ak hS)
 have hA:∀f a,G.S (fun a=>nb a\/a=p) f a->(G.S nb f a\/a=p):=fun f a z=>by
  rcases z with (z|z)|z|z|z
  ·exact .inl (.inl z)
  ·exact .inr z
  ·exact .inl (.inr (.inl z))
  ·exact .inl (.inr (.inr (.inl z)))
  ·exact .inl (.inr (.inr (.inr z)))
 refine⟨W'.ak,fun a n=>?_,W'.old,fun a n q=>?_,W.gA,W.len,W.gB,fun h m=>(((W.cH h m).fresh hp).av (hA h.1)).keep (aH.of hS),fun i s e=>?_,W.apart,W.eT,W.cS⟩
 ·rcases n with n|n
  ·exact W'.live a n
  ·subst n;rw[aY];exact Option.some_ne_none _
 ·rcases n with n|n
  ·exact W.cL a n q
  ·subst n
   cases e:G.H0 a with
   |none=>rfl
   |some o=>rw[W.old a o q e] at hp;cases hp
 ·obtain⟨x,e1,h⟩:=W.ok i s e
  refine⟨x,e1,?_⟩
  cases s with
  |no=>trivial
  |d f d=>obtain⟨v,e,h⟩:=h;exact⟨v,e,((h.fresh hp).av (hA f)).keep (aH.of hS)⟩
  |own a f ds=>obtain⟨e,n,q,xs,hx,hd⟩:=h;exact⟨e, .inl n,q,xs,hS _ _ hx,((hd.fresh hp).av (hA f)).keep (aH.of hS)⟩
  |ak=>exact h
  |raw v=>exact h
  |bA a f ds=>obtain⟨e,n,q,xs,hx,hd⟩:=h;exact⟨e, .inl n,q,xs,hS _ _ hx,((hd.fresh hp).av (hA f)).keep (aH.of hS)⟩
  |cu c=>obtain⟨e,n,q⟩:=h;exact⟨e,fun a ha=>⟨.inl (n a ha).1,(n a ha).2⟩,c.keep (.of fun a o _ e=>hS a o e) (c.av (hA c.f) (c.fresh hp q))⟩
theorem Wd.write(W:Wd G nb ρ σ H){o:HO}(hp:nb p)(hN:NB G.B p)(ho:∀(i:Nat) a f ds,ρ[i]?=some (.own a f ds)->a≠p)(hod:∀(i:Nat) a f ds,ρ[i]?=some (.bA a f ds)->a≠p)(hoc:∀(i:Nat) c,ρ[i]?=some (.cu c)->p∉c.F):Wd G nb ρ σ (upd H p o):=by
  have hl:∀b l,G.B=some (b,l)->p≠l:=fun b l e z=>by
    obtain⟨_,_,_,_,_,_,h2,_⟩:=W.gB b l e
    rw[<-z,W.cL p hp hN] at h2;cases h2
  have hB:gU G.B (upd H p o):=fun b l e=>(W.ak b l e).put2 ⟨hN b l e,hl b l e⟩
  have bt:∀f,aH (G.S nb f) H (upd H p o):=fun f=>aH.set (.inl hp)
  refine⟨hB,fun a n=>?_,fun a o' n e=>?_,W.cL,W.gA,W.len,W.gB,fun h m=>(W.cH h m).keep (bt h.1),fun i s e=>?_,W.apart,W.eT,W.cS⟩
  · by_cases z:a=p
    · subst z;rw[aY];exact Option.some_ne_none _
    · rw[bf z];exact W.live a n
  · have z:a≠p:=fun z=>by subst z;rw[W.cL a hp n] at e;cases e
    rw[bf z];exact W.old a o' n e
  · obtain⟨x,e1,h⟩:=W.ok i s e
    refine⟨x,e1,?_⟩
    cases s with
    |no=>trivial
    |d f d=>obtain⟨v,e,h⟩:=h;exact⟨v,e,h.keep (bt f)⟩
    |own a f ds=>obtain⟨e',n,q,xs,hx,hd⟩:=h;exact⟨e',n,q,xs,by rw[bf (ho i a f ds e)];exact hx,hd.keep (bt f)⟩
    |ak=>exact h
    |raw v=>exact h
    |bA a f ds=>obtain⟨e',n,q,xs,hx,hd⟩:=h;exact⟨e',n,q,xs,by rw[bf (hod i a f ds e)];exact hx,hd.keep (bt f)⟩
    | cu c =>
      obtain⟨e',n,q⟩:=h
      refine⟨e',n,c.keep (.of fun a o' ha e''=>?_) q⟩
      rw[bf]
      · exact e''
      · rintro rfl
        rcases ha with ha|ha
        · exact ha (.inl hp)
        · exact hoc i c e ha
end
end L2
set_option maxRecDepth 100000
set_option maxHeartbeats 1000000
namespace L2
open PySem PySem.Spec PyProof.Rows
noncomputable abbrev Pd:=Bool->PyData->Prop
noncomputable def Ev(G:Gx)(ρ:Rh)(te:TE)(Φ:Pd):Prop:=∀nb σ H (Q:VK),Wd G nb ρ σ H->(∀f v H' d,Φ f d->Step G.B H H'->ah (G.S nb f) H' d v->Q v H')->te σ H Q
noncomputable def ao(G:Gx)(ρ:Rh)(te:TE)(Φ:Bool->List PyData->Prop):Prop:=∀nb σ H (Q:VK),Wd G nb ρ σ H->
 (∀f a xs H' ds,Φ f ds->Step G.B H H'->H a=none->H' a=some (.lst xs)->af (fun x=>G.S nb f x\/x=a) H' ds xs->Q (.ref a) H')->te σ H Q
noncomputable def Tv(G:Gx)(ρ:Rh)(tt:TT)(Φ:Bool->Prop):Prop:=∀nb σ H (Q:Bool->Hp->Prop),Wd G nb ρ σ H->(∀b H',Φ b->Step G.B H H'->Q b H')->tt σ H Q
noncomputable def Ov(G:Gx)(ρ:Rh)(to:TO)(Φ:Option Int->Prop):Prop:=∀nb σ H (Q:Option Int->Hp->Prop),Wd G nb ρ σ H->(∀o H',Φ o->Step G.B H H'->Q o H')->to σ H Q
noncomputable abbrev Fd:=Bool×PyData
noncomputable def gW(G:Gx)(nb:Addr->Prop)(H:Hp):List Fd->List V->Prop
 |[],vs=>vs=[]
 |e::es,vs=>∃v ws,vs=v::ws/\ah (G.S nb e.1) H e.2 v/\gW G nb H es ws
noncomputable def Av(G:Gx)(ρ:Rh)(ta:TA)(Φ:List Fd->Prop):Prop:=∀nb σ H (Q:List V->Hp->Prop),Wd G nb ρ σ H->(∀es vs H',Φ es->Step G.B H H'->gW G nb H' es vs->Q vs H')->ta σ H Q
noncomputable def Gv(G:Gx)(ρ:Rh)(g:TG)(f:Bool)(d:PyData)(Φ:Rh->Prop):Prop:=∀nb σ H v (Q:St->Hp->Prop),Wd G nb ρ σ H->ah (G.S nb f) H d v->(∀σ' ρ',Φ ρ'->Wd G nb ρ' σ' H->Q σ' H)->g v σ H Q
noncomputable def ju(G:Gx)(ρ:Rh)(g:fM)(f:Bool)(ds:List PyData)(Φ:Rh->Prop):Prop:=∀nb σ H vs (Q:St->Hp->Prop),Wd G nb ρ σ H->af (G.S nb f) H ds vs->(∀σ' ρ',Φ ρ'->Wd G nb ρ' σ' H->Q σ' H)->g vs σ H Q
structure DE where
 nx:Rh->Prop
 rt:Pd
 bk:Rh->Prop:=fun _=>False
 ct:Rh->Prop:=fun _=>False
 rw:(Addr->Prop)->Rh->V->Hp->Prop:=fun _ _ _ _=>False
structure sA(G:Gx)(E:DE)(D:Ends):Prop where
 nx:∀nb ρ σ H,E.nx ρ->Wd G nb ρ σ H->D.nx σ H
 bk:∀nb ρ σ H,E.bk ρ->Wd G nb ρ σ H->D.bk σ H
 ct:∀nb ρ σ H,E.ct ρ->Wd G nb ρ σ H->D.ct σ H
 rt:∀nb ρ σ f v H d,E.rt f d->Wd G nb ρ σ H->ah (G.S (fun _=>False) f) H d v->D.rt v H
 rw:∀nb ρ σ v H,E.rw nb ρ v H->Wd G nb ρ σ H->D.rt v H
noncomputable def Sv(G:Gx)(ρ:Rh)(ts:TS)(E:DE):Prop:=∀nb σ H D,Wd G nb ρ σ H->sA G E D->ts D σ H
noncomputable def iB:PyData->Bool
 | .none=>true| .bool _=>true| .int _=>true| .str _=>true|_=>false
noncomputable def toV:PyData->V
 | .bool b=> .bl b| .int i=> .int i| .str x=> .str x|_=> .aB
section
variable{nb aI:Addr->Prop}{H H':Hp}{d e:PyData}{v:V}
theorem ah.sc(h:iB d=true):ah nb H d (toV d):=by
 cases d<;>first|(cases h;done)|(unfold ah;rfl)
theorem ah.Lo(h:iB d=true)(q:ah nb H d v):v=toV d:=by
 cases d<;>first|(cases h;done)|(unfold ah at q;exact q)
theorem ah.iH(h:iB d=true)(q:ah nb H d v):ah aI H' d v:=by
 rw[q.Lo h];exact .sc h
theorem af.iH:∀{ds:List PyData} {xs:List V},ds.all iB=true->af nb H ds xs->af aI H' ds xs
  |[],_,_,q=>by unfold af at q⊢;exact q
  | d :: ds, _, h, q => by
    rw[List.all_cons,Bool.and_eq_true] at h
    unfold af at q⊢
    obtain⟨y,ys,e,h1,h2⟩:=q
    exact⟨y,ys,e,h1.iH h.1,af.iH h.2 h2⟩
end
section
variable{G:Gx}{ρ:Rh}{Φ Ψ:Pd}{ta tb te:TE}{t:TA}{i:Nat}{f g:Bool}{d e:PyData}{ds es:List PyData}{K:PySem.W.Frag}
theorem Ev.mono(h:Ev G ρ te Ψ)(q:∀f d,Ψ f d->Φ f d):Ev G ρ te Φ:=fun nb σ H Q W z=>h nb σ H Q W fun f v H' d p=>z f v H' d (q f d p)
theorem ao.ev(h:ao G ρ te fun f ds=>Φ f (.list ds)):Ev G ρ te Φ:=fun nb σ H Q W z=>h nb σ H Q W fun f a xs H' ds p st n e hd=>
 z f _ H' _ p st (.lst (W.fresh n) e (hd.av fun _ x=> .inl x))
namespace Ev
theorem var(e:ρ[i]?=some (.d f d))(h:Φ f d):Ev G ρ (aZ i) Φ:=fun nb σ H Q W z=>by
 obtain⟨x,e1,v,rfl,hd⟩:=W.ok i _ e
 exact⟨v,e1,z f v H d h (.refl W.ak) hd⟩
theorem int{n:Int}(h:Φ true (.int n)):Ev G ρ (tC (.int n)) Φ:=fun nb σ H Q W z=>z true _ H _ h (.refl W.ak) (.int n)
theorem bl{b:Bool}(h:Φ true (.bool b)):Ev G ρ (tC (.bl b)) Φ:=fun nb σ H Q W z=>z true _ H _ h (.refl W.ak) (.bl b)
theorem aB(h:Φ true .none):Ev G ρ (tC .aB) Φ:=fun nb σ H Q W z=>z true _ H _ h (.refl W.ak) .aB
theorem gD{r:R2}(h:Ev G ρ ta fun f x=>Ev G ρ tb fun g y=>∀nb σ H u v (Q:VK),Wd G nb ρ σ H->ah (G.S nb f) H x u->ah (G.S nb g) H y v->(∀f w H' d,Φ f d->Step G.B H H'->ah (G.S nb f) H' d w->Q w H')->r u v H Q):Ev G ρ (bZ r ta tb) Φ:=fun nb σ H Q W z=>
 h nb σ H _ W fun f v1 H1 d1 p1 s1 q1=>p1 nb σ H1 _ (W.step s1) fun g v2 H2 d2 p2 s2 q2=>p2 nb σ H2 _ _ _ ((W.step s1).step s2) (q1.keep s2.cF) q2 fun f w H' d p st q=>z f w H' d p (s1.trans (s2.trans st)) q
theorem rI{C:Int->Int->Prop}{k:Int->Int->Int}(h:Ev G ρ ta fun _ x=>∃i,x= .int i/\Ev G ρ tb fun _ y=>∃j,y= .int j/\C i j/\Φ true (.int (k i j))):Ev G ρ (bZ (L2.rI C fun i j=> .int (k i j)) ta tb) Φ:=
 gD (h.mono fun f x ⟨i,ex,q⟩=>q.mono fun g y ⟨j,ey,hc,p⟩ nb σ H u v Q W hu hv z=>by
  subst ex ey;exact⟨i,j,hu.bB,hv.bB,hc,z true _ H _ p (.refl W.ak) (.int _)⟩)
theorem eY{k:Int->Int->Int}(h:Ev G ρ ta fun _ x=>∃i,x= .int i/\Ev G ρ tb fun _ y=>∃j,y= .int j/\Φ true (.int (k i j))):Ev G ρ (bZ (L2.eY fun i j=> .int (k i j)) ta tb) Φ:=
 gD (h.mono fun f x ⟨i,ex,q⟩=>q.mono fun g y ⟨j,ey,p⟩ nb σ H u v Q W hu hv z=>by
  subst ex ey;exact⟨i,j,hu.bB,hv.bB,z true _ H _ p (.refl W.ak) (.int _)⟩)
theorem UK{k:Int->Int->Bool}(h:Ev G ρ ta fun _ x=>∃i,x= .int i/\Ev G ρ tb fun _ y=>∃j,y= .int j/\Φ true (.bool (k i j))):Ev G ρ (bZ (L2.eY fun i j=> .bl (k i j)) ta tb) Φ:=
 gD (h.mono fun f x ⟨i,ex,q⟩=>q.mono fun g y ⟨j,ey,p⟩ nb σ H u v Q W hu hv z=>by
  subst ex ey;exact⟨i,j,hu.bB,hv.bB,z true _ H _ p (.refl W.ak) (.bl _)⟩)
theorem un{r:V->Hp->VK->Prop}(h:Ev G ρ ta fun f x=>∀nb σ H u (Q:VK),Wd G nb ρ σ H->ah (G.S nb f) H x u->(∀f w H' d,Φ f d->Step G.B H H'->ah (G.S nb f) H' d w->Q w H')->r u H Q):Ev G ρ (uB r ta) Φ:=fun nb σ H Q W z=>
 h nb σ H _ W fun f v1 H1 d1 p1 s1 q1=>p1 nb σ H1 _ _ (W.step s1) q1 fun f w H' d p st q=>z f w H' d p (s1.trans st) q
theorem rU{k:Int->Int}(h:Ev G ρ ta fun _ x=>∃i,x= .int i/\Φ true (.int (k i))):Ev G ρ (uB (L2.rU fun i=> .int (k i)) ta) Φ:=
 un (h.mono fun f x ⟨i,ex,p⟩ nb σ H u Q W hu z=>by subst ex;exact⟨i,hu.bB,z true _ H _ p (.refl W.ak) (.int _)⟩)
end Ev
inductive gE:PyData->PyData->Bool->Prop
 |ii (i j:Int):gE (.int i) (.int j) (decide (i=j))
 |ni (i:Int):gE .none (.int i) false
 |WW (i:Int):gE (.int i) .none false
 |nn:gE .none .none true
 |bb (a b:Bool):gE (.bool a) (.bool b) (a==b)
 |ss (x:Str):gE (.str x) (.str x) true
 |sd (x y:Str):gE (.str x) (.str y) (decide (x=y))
theorem gE.v{nb aI:Addr->Prop}{H:Hp}{x y:PyData}{b:Bool}{u v:V}(h:gE x y b)(hu:ah nb H x u)(hv:ah aI H y v):vm u v=true/\decide (u=v)=b:=by
 cases h<;>(unfold ah at hu hv;subst hu hv;refine⟨rfl,?_⟩)
 ·exact R.vV
 ·rfl
 ·rfl
 ·rfl
 ·rename_i a b;cases a<;>cases b<;>rfl
 ·exact decide_eq_true rfl
 ·rename_i x y
  by_cases c:x=y
  ·subst c;rw[decide_eq_true rfl,decide_eq_true rfl]
  ·rw[decide_eq_false c,decide_eq_false (fun z=>c (V.str.inj z))]
namespace Ev
theorem eq(h:Ev G ρ ta fun _ x=>Ev G ρ tb fun _ y=>∃b,gE x y b/\Φ true (.bool b)):Ev G ρ (bZ u5 ta tb) Φ:=
 gD (h.mono fun f x q=>q.mono fun g y ⟨b,e,p⟩ nb σ H u v Q W hu hv z=>by
  obtain⟨h1,h2⟩:=e.v hu hv
  exact⟨h1,by rw[h2];exact z true _ H _ p (.refl W.ak) (.bl _)⟩)
theorem ne(h:Ev G ρ ta fun _ x=>Ev G ρ tb fun _ y=>∃b,gE x y b/\Φ true (.bool !b)):Ev G ρ (bZ tB ta tb) Φ:=
 gD (h.mono fun f x q=>q.mono fun g y ⟨b,e,p⟩ nb σ H u v Q W hu hv z=>by
  obtain⟨h1,h2⟩:=e.v hu hv
  exact⟨h1,by rw[h2];exact z true _ H _ p (.refl W.ak) (.bl _)⟩)
theorem qS{ng:Bool}(h:Ev G ρ ta fun _ x=>Ev G ρ tb fun _ y=>SeqAt.shaped x=true/\SeqAt.shaped y=true/\Φ true (.bool (PyData.eqv x y !=ng))):Ev G ρ (bZ (pB ng) ta tb) Φ:=
 gD (h.mono fun f x q=>q.mono fun g y ⟨h1,h2,p⟩ nb σ H u v Q W hu hv z=>
  ⟨G.S nb false,x,y,hu.av (cB (fun z=>by cases z) fun _ z=>z),hv.av (cB (fun z=>by cases z) fun _ z=>z),h1,h2,z true _ H _ p (.refl W.ak) (.bl _)⟩)
end Ev
noncomputable def oz:PyData->Bool
 | .none=>true
 |_=>false
theorem z6{nb:Addr->Prop}{H:Hp}{d:PyData}{v:V}(h:ah nb H d v):decide (v= .aB)=oz d:=by
 cases d<;>unfold ah at h
 all_goals first
  |(subst h;rfl)
  |(obtain⟨a,xs,rfl,_⟩:=h;rfl)
  |exact h.elim
namespace Ev
theorem is(h:Ev G ρ ta fun _ x=>Φ true (.bool (oz x))):Ev G ρ (bZ Er ta (tC .aB)) Φ:=
 gD (h.mono fun f x p=>Ev.aB fun nb σ H u v Q W hu hv z=>⟨hv.rC,by rw[z6 hu];exact z true _ H _ p (.refl W.ak) (.bl _)⟩)
theorem O4(h:Ev G ρ ta fun _ x=>Φ true (.bool !oz x)):Ev G ρ (bZ rF ta (tC .aB)) Φ:=
 gD (h.mono fun f x p=>Ev.aB fun nb σ H u v Q W hu hv z=>⟨hv.rC,by rw[z6 hu];exact z true _ H _ p (.refl W.ak) (.bl _)⟩)
end Ev
theorem af.bF{nb:Addr->Prop}{H:Hp}{ds:List PyData}{xs:List V}{k:Int}{e:PyData}(h:af nb H ds xs)(q:L2.bF ds k=some e):∃v,L2.bF xs k=some v/\ah nb H e v:=by
 unfold L2.bF at q⊢
 rw[h.length]
 cases z:eX ds.length k with
 |none=>rw[z] at q;cases q
 |some j=>rw[z] at q;exact h.get q
namespace Ev
theorem NI(h:Ev G ρ ta fun f x=>∃ds,x= .list ds/\Ev G ρ tb fun _ y=>∃k,y= .int k/\∃e,bF ds k=some e/\Φ f e):Ev G ρ (bZ (bU K) ta tb) Φ:=
 gD (h.mono fun f x ⟨ds,ex,q⟩=>q.mono fun g y ⟨k,ey,e,he,p⟩ nb σ H u v Q W hu hv z=>by
  subst ex ey
  obtain⟨a,xs,rfl,n,hx,hd⟩:=hu.dG
  obtain⟨w,hw,hD⟩:=hd.bF he
  exact⟨a,xs,k,w,rfl,hv.bB, .of hx,hw,z f _ H _ p (.refl W.ak) hD⟩)
theorem DH(h:Ev G ρ ta fun f x=>∃ds,x= .tuple ds/\Ev G ρ tb fun _ y=>∃k,y= .int k/\∃e,bF ds k=some e/\Φ f e):Ev G ρ (bZ (eN K) ta tb) Φ:=
 gD (h.mono fun f x ⟨ds,ex,q⟩=>q.mono fun g y ⟨k,ey,e,he,p⟩ nb σ H u v Q W hu hv z=>by
  subst ex ey
  obtain⟨a,xs,rfl,n,hx,hd⟩:=hu.ofT
  obtain⟨w,hw,hD⟩:=hd.bF he
  exact⟨a,xs,k,w,rfl,hv.bB, .of hx,hw,z f _ H _ p (.refl W.ak) hD⟩)
theorem K8{a:Addr}(e:ρ[i]?=some (.own a f ds))(h:Ev G ρ tb fun _ y=>∃k,y= .int k/\∃e,bF ds k=some e/\Φ f e):Ev G ρ (bZ (bU K) (aZ i) tb) Φ:=fun nb σ H Q W z=>by
 obtain⟨x,e1,h1,h2,h3,xs,hx,hd⟩:=W.ok i _ e
 subst h1
 refine⟨.ref a,e1,h nb σ H _ W fun g w H1 y ⟨k,ey,e',he,p⟩ s1 hv=>?_⟩
 subst ey
 obtain⟨u,hu,hD⟩:=(hd.keep s1.cF).bF he
 exact⟨a,xs,k,u,rfl,hv.bB, .of (s1.1 _ _ h3 hx),hu,z f _ H1 _ p s1 hD⟩
theorem EK{c:TT}(h:Tv G ρ c fun b=>if b=true then Ev G ρ ta Φ else Ev G ρ tb Φ):Ev G ρ (vj c ta tb) Φ:=fun nb σ H Q W z=>
 h nb σ H _ W fun b H1 q s1=>by
  cases b with
  |true=>rw[if_pos rfl] at q⊢;exact q nb σ H1 _ (W.step s1) fun f v H' d p st=>z f v H' d p (s1.trans st)
  |false=>rw[if_neg Bool.false_ne_true] at q⊢;exact q nb σ H1 _ (W.step s1) fun f v H' d p st=>z f v H' d p (s1.trans st)
end Ev
namespace Tv
variable{Θ:Bool->Prop}{t u:TT}
theorem test(h:Ev G ρ te fun _ x=>∃b,x= .bool b/\Θ b):Tv G ρ (nL te) Θ:=fun nb σ H Q W z=>
 h nb σ H _ W fun f v H1 d ⟨b,e,q⟩ s1 hv=>by subst e;exact⟨b,by unfold ah at hv;exact hv,z b H1 q s1⟩
theorem and(h:Tv G ρ t fun b=>if b=true then Tv G ρ u Θ else Θ false):Tv G ρ (vR t u) Θ:=fun nb σ H Q W z=>
 h nb σ H _ W fun b H1 q s1=>by
  cases b with
  |true=>rw[if_pos rfl] at q⊢;exact q nb σ H1 _ (W.step s1) fun b H' p st=>z b H' p (s1.trans st)
  |false=>rw[if_neg Bool.false_ne_true] at q⊢;exact z false H1 q s1
theorem or(h:Tv G ρ t fun b=>if b=true then Θ true else Tv G ρ u Θ):Tv G ρ (zT t u) Θ:=fun nb σ H Q W z=>
 h nb σ H _ W fun b H1 q s1=>by
  cases b with
  |false=>rw[if_neg Bool.false_ne_true] at q⊢;exact q nb σ H1 _ (W.step s1) fun b H' p st=>z b H' p (s1.trans st)
  |true=>rw[if_pos rfl] at q⊢;exact z true H1 q s1
theorem not(h:Tv G ρ t fun b=>Θ (!b)):Tv G ρ (Ca t) Θ:=fun nb σ H Q W z=>h nb σ H _ W fun b H1 q s1=>z _ H1 q s1
theorem oU(h:Θ true):Tv G ρ jH Θ:=fun nb σ H Q W z=>z true H h (.refl W.ak)
end Tv
noncomputable def q8(K:PySem.W.Frag)(ta:TE):TT:=fun σ H Q=>ta σ H fun x H1=>∃k,tY K x H1 k/\Q k H1
theorem Tv.mT{Θ:Bool->Prop}(h:Ev G ρ te fun _ x=>∃b,x= .bool b/\Θ b):Tv G ρ (q8 K te) Θ:=fun nb σ H Q W z=>
 h nb σ H _ W fun f v H1 d ⟨b,e,q⟩ s1 hv=>by subst e;exact⟨b,by unfold ah at hv;subst hv;rfl,z b H1 q s1⟩
namespace Av
variable{Θ:List Fd->Prop}
theorem nil(h:Θ []):Av G ρ bz Θ:=fun nb σ H Q W z=>z [] [] H h (.refl W.ak) rfl
theorem cons(h:Ev G ρ te fun f d=>Av G ρ t fun es=>Θ ((f,d)::es)):Av G ρ (aV te t) Θ:=fun nb σ H Q W z=>
 h nb σ H _ W fun f v H1 d p1 s1 q1=>p1 nb σ H1 _ (W.step s1) fun es vs H2 p2 s2 q2=>z _ _ H2 p2 (s1.trans s2) ⟨v,vs,rfl,q1.keep s2.cF,q2⟩
theorem IB{is:List Int}(h:Θ (is.map fun i=>(true, .int i))):Av G ρ (qt is) Θ:=fun nb σ H Q W z=>z _ _ H h (.refl W.ak) (by
 clear h
 induction is with
 |nil=>rfl
 |cons i r ih=>exact⟨_,_,rfl, .int i,ih⟩)
end Av
noncomputable def gK(es:List Fd):Bool:=es.all (·.1)
theorem gW.all{nb:Addr->Prop}{H:Hp}:∀{es:List Fd} {vs:List V} {f:Bool},gW G nb H es vs->(f=true->gK es=true)->af (G.S nb f) H (es.map (·.2)) vs
  |[],_,_,h,_=>by unfold gW at h;subst h;exact .nil
  | e :: es, _, f, h, hf => by
    obtain⟨v,ws,rfl,h1,h2⟩:=h
    refine .cons (h1.av (cB (fun z=>?_) fun _ z=>z)) (h2.all fun z=>?_)
    · have:=hf z;simp only[gK,List.all_cons,Bool.and_eq_true] at this;exact this.1
    · have:=hf z;simp only[gK,List.all_cons,Bool.and_eq_true] at this;exact this.2
theorem gW.len{nb:Addr->Prop}{H:Hp}{es:List Fd}{vs:List V}(h:gW G nb H es vs):vs.length=es.length:=by
 have:=(h.all (f:=false) (fun z=>by cases z)).length
 simpa using this
theorem ao.lst{Φ:Bool->List PyData->Prop}(h:Av G ρ t fun es=>es.length<=10000/\Φ (gK es) (es.map (·.2))):ao G ρ (j3 t) Φ:=fun nb σ H Q W z=>
  h nb σ H _ W fun es vs H1 ⟨hl,p⟩ s1 q1=>⟨Nat.le_trans (by rw[q1.len];exact hl) (by decide),fun a ha=>by
    have W1:=W.step s1
    refine z _ a vs _ _ p (s1.trans (.same W1.ak (cJ ha))) ?_ aY (((q1.all fun z=>z).fresh ha).keep (aH.of (cJ ha)))
    cases e:H a with
    |none=>rfl
    | some o =>
      by_cases n:NB G.B a
      · rw[s1.1 a o n e] at ha;cases ha
      · exact absurd ha (NB.jt s1.2 n)⟩
theorem Ev.lst(h:Av G ρ t fun es=>es.length<=10000/\Φ (gK es) (.list (es.map (·.2)))):Ev G ρ (j3 t) Φ:=(ao.lst (Φ:=fun f ds=>Φ f (.list ds)) h).ev
end
end L2
set_option maxRecDepth 100000
set_option maxHeartbeats 1000000
namespace L2
open PySem PySem.Spec PyProof.Rows
noncomputable def cC(K:PySem.W.Frag):List V->Hp->VK->Prop:=fun xs H Q=>∃p ys,xs=[.ref p]/\(aR K H p ys\/d7 K H p ys)/\Q (.int ys.length) H
theorem cY{X:Cx}:dS X (.builtin "len") (cC X.K):=EZ
noncomputable def AX:List V->Hp->VK->Prop:=fun xs H Q=>∃i j,xs=[.int i, .int j]/\Q (.int (if j<i then j else i)) H
noncomputable def Cj:List V->Hp->VK->Prop:=fun xs H Q=>(∃i,xs=[.int i]/\Q (.int i) H)\/∃k,xs=[.bl k]/\Q (.int (if k then 1 else 0)) H
theorem Ss{X:Cx}(hc:X.calm=true):dS X (.builtin "min") AX:=Lk hc
theorem UD{X:Cx}:dS X (.type "int") Cj:=IT
noncomputable def iU{α:Type}(xs:List α)(lo hi:Option Int):List α:=(xs.drop (HT.cW xs.length 0 lo)).take (HT.cW xs.length xs.length hi-HT.cW xs.length 0 lo)
theorem af.cut{nb:Addr->Prop}{H:Hp}{ds:List PyData}{xs:List V}{lo hi:Option Int}(h:af nb H ds xs):af nb H (iU ds lo hi) (i8 xs lo hi):=by
 unfold iU i8
 rw[h.length]
 exact(h.drop _).take _
noncomputable def dw(ds:List PyData):Bool:=ds.all iB
section
variable{G:Gx}{ρ:Rh}{Φ Ψ:Pd}{ta tb te:TE}{t:TA}{i:Nat}{f g:Bool}{d e:PyData}{ds es:List PyData}{K:PySem.W.Frag}
theorem Wd.none_of{nb:Addr->Prop}{σ:St}{H H1:Hp}{a:Addr}(W:Wd G nb ρ σ H)(s1:Step G.B H H1)(ha:H1 a=none):H a=none:=by
  cases e:H a with
  |none=>rfl
  | some o =>
    by_cases n:NB G.B a
    · rw[s1.1 a o n e] at ha;cases ha
    · exact absurd ha (NB.jt s1.2 n)
theorem ao.fin{nb:Addr->Prop}{σ:St}{H H1:Hp}{Q:VK}{Φ:Bool->List PyData->Prop}{a:Addr}{xs:List V}(W:Wd G nb ρ σ H)(s1:Step G.B H H1)(ha:H1 a=none)(hd:af (G.S nb f) H1 ds xs)(p:Φ (f||dw ds) ds)
  (z:∀f a xs H' ds,Φ f ds->Step G.B H H'->H a=none->H' a=some (.lst xs)->af (fun x=>G.S nb f x\/x=a) H' ds xs->Q (.ref a) H'):Q (.ref a) (upd H1 a (.lst xs)):=by
 refine z _ a xs _ ds p (s1.trans (.same s1.2 (cJ ha))) (W.none_of s1 ha) aY ?_
 cases hs:dw ds with
 |true=>exact af.iH hs hd
 |false=>rw[Bool.or_false];exact(hd.fresh ha).keep (aH.of (cJ ha))
namespace Ov
variable{Θ:Option Int->Prop}
theorem none(h:Θ none):Ov G ρ tT Θ:=fun nb σ H Q W z=>z _ H h (.refl W.ak)
theorem some(h:Ev G ρ te fun _ x=>∃k,x= .int k/\Θ (some k)):Ov G ρ (uT te) Θ:=fun nb σ H Q W z=>
 h nb σ H _ W fun f v H1 d ⟨k,e,q⟩ s1 hv=>by subst e;exact⟨k,hv.bB,z _ H1 q s1⟩
end Ov
namespace ao
variable{Θ:Bool->List PyData->Prop}
theorem sl{tl th:TO}(h:Ev G ρ te fun f x=>∃ds,x= .list ds/\Ov G ρ tl fun lo=>Ov G ρ th fun hi=>Θ (f||dw (iU ds lo hi)) (iU ds lo hi)):ao G ρ (nD (kj K) te tl th) Θ:=fun nb σ H Q W z=>
 h nb σ H _ W fun f v H1 d ⟨ds,e,q⟩ s1 hv=>q nb σ H1 _ (W.step s1) fun lo H2 q2 s2=>q2 nb σ H2 _ ((W.step s1).step s2) fun hi H3 q3 s3=>by
  subst e
  obtain⟨a,xs,rfl,n,hx,hd⟩:=((hv.keep s2.cF).keep s3.cF).dG
  exact⟨a,xs,rfl, .of hx,fun p hp=>ao.fin W (s1.trans (s2.trans s3)) hp hd.cut q3 z⟩
theorem listOf(h:Ev G ρ te fun f x=>∃ds,(x= .list ds\/x= .tuple ds)/\Θ (f||dw ds) ds):ao G ρ (dh (g9 K) (aV te bz)) Θ:=fun nb σ H Q W z=>
 h nb σ H _ W fun f v H1 d ⟨ds,e,q⟩ s1 hv=>by
  rcases e with e|e
  ·subst e
   obtain⟨a,xs,rfl,n,hx,hd⟩:=hv.dG
   exact⟨a,xs,rfl, .inl (.of hx),fun p hp=>ao.fin W s1 hp hd q z⟩
  ·subst e
   obtain⟨a,xs,rfl,n,hx,hd⟩:=hv.ofT
   exact⟨a,xs,rfl, .inr (.of hx),fun p hp=>ao.fin W s1 hp hd q z⟩
theorem cat(h:Ev G ρ ta fun f x=>∃ds,x= .list ds/\Ev G ρ tb fun g y=>∃es,y= .list es/\ds.length+es.length<=10000/\Θ ((f && g)||dw (ds++es)) (ds++es)):ao G ρ (bZ rW ta tb) Θ:=fun nb σ H Q W z=>
 h nb σ H _ W fun f v H1 d ⟨ds,e,q⟩ s1 hv=>q nb σ H1 _ (W.step s1) fun g u H2 d2 ⟨es,e2,hl,p⟩ s2 hu=>by
  subst e e2
  obtain⟨a,xs,rfl,n,hx,hd⟩:=(hv.keep s2.cF).dG
  obtain⟨c,ys,rfl,m,hy,hc⟩:=hu.dG
  refine⟨a,c,xs,ys,rfl,rfl,hx,hy,Nat.le_trans (by rw[hd.length,hc.length];exact hl) (by decide),fun p' hp=>ao.fin (f:=f && g) W (s1.trans s2) hp ?_ p z⟩
  exact af.append (hd.av (cB (fun z=>(Bool.and_eq_true _ _▸z).1) fun _ z=>z)) (hc.av (cB (fun z=>(Bool.and_eq_true _ _▸z).2) fun _ z=>z))
end ao
namespace Ev
theorem sl{tl th:TO}(h:Ev G ρ te fun f x=>∃ds,x= .list ds/\Ov G ρ tl fun lo=>Ov G ρ th fun hi=>Φ (f||dw (iU ds lo hi)) (.list (iU ds lo hi))):Ev G ρ (nD (kj K) te tl th) Φ:=(ao.sl (Θ:=fun f ds=>Φ f (.list ds)) h).ev
theorem listOf(h:Ev G ρ te fun f x=>∃ds,(x= .list ds\/x= .tuple ds)/\Φ (f||dw ds) (.list ds)):Ev G ρ (dh (g9 K) (aV te bz)) Φ:=(ao.listOf (Θ:=fun f ds=>Φ f (.list ds)) h).ev
theorem cat(h:Ev G ρ ta fun f x=>∃ds,x= .list ds/\Ev G ρ tb fun g y=>∃es,y= .list es/\ds.length+es.length<=10000/\Φ ((f && g)||dw (ds++es)) (.list (ds++es))):Ev G ρ (bZ rW ta tb) Φ:=(ao.cat (Θ:=fun f ds=>Φ f (.list ds)) h).ev
theorem A7{a:Addr}(e:ρ[i]?=some (.own a f ds))(h:Φ true (.int ds.length)):Ev G ρ (dh (cC K) (aV (aZ i) bz)) Φ:=fun nb σ H Q W z=>by
 obtain⟨x,e1,h1,h2,h3,xs,hx,hd⟩:=W.ok i _ e
 subst h1
 exact⟨.ref a,e1,a,xs,rfl, .inl (.of hx),by rw[hd.length];exact z true _ H _ h (.refl W.ak) (.int _)⟩
theorem min2(h:Ev G ρ ta fun _ x=>∃i,x= .int i/\Ev G ρ tb fun _ y=>∃j,y= .int j/\Φ true (.int (if j<i then j else i))):Ev G ρ (dh AX (aV ta (aV tb bz))) Φ:=fun nb σ H Q W z=>
 h nb σ H _ W fun f v H1 d ⟨i,e,q⟩ s1 hv=>q nb σ H1 _ (W.step s1) fun g u H2 d2 ⟨j,e2,p⟩ s2 hu=>by
  subst e e2
  exact⟨i,j,by rw[hv.bB,hu.bB],z true _ H2 _ p (s1.trans s2) (.int _)⟩
theorem NY(h:Ev G ρ ta fun _ x=>∃b,x= .bool b/\Φ true (.int (if b then 1 else 0))):Ev G ρ (dh Cj (aV ta bz)) Φ:=fun nb σ H Q W z=>
 h nb σ H _ W fun f v H1 d ⟨b,e,q⟩ s1 hv=>by subst e;unfold ah at hv;subst hv;exact .inr ⟨b,rfl,z true _ H1 _ q s1 (.int _)⟩
end Ev
noncomputable abbrev DF:=List PyData->Pd->Prop
noncomputable def dD(n:Nat)(F:DF):Sp:=fun vs H Q _=>vs.length=n/\∃(nb:Addr->Prop) (ds:List PyData),ji nb H/\af nb H ds vs/\F ds fun f d=>∀v H',bI H H'->ah (fun a=>nb a\/(f=true/\H a≠none)) H' d v->Q v H'
noncomputable def bS(n:Nat)(F:DF):Sp:=fun vs H Q _=>vs.length=n/\∃(b l:Addr) (ws:List V) (nb:Addr->Prop) (ds:List PyData),vs= .ref b::ws/\bM H b l/\ji nb H/\nb b/\af nb H ds ws/\
 F ds fun f d=>∀v H',aH (Nb b) H H'->bM H' b l->ah (fun a=>nb a\/(f=true/\H a≠none)) H' d v->Q v H'
noncomputable def cN(F:DF):Prop:=∀ds (Φ Ψ:Pd),F ds Φ->(∀f d,Φ f d->Ψ f d)->F ds Ψ
theorem Ev.jb{n:Nat}{F:DF}(hm:cN F)(h:Av G ρ t fun es=>es.length=n/\F (es.map (·.2)) fun f d=>Φ (f||gK es) d):Ev G ρ (d8 (dD n F) [] E0 t) Φ:=fun nb σ H Q W z=>
 h nb σ H _ W fun es vs H1 ⟨hl,p⟩ s1 q1=>by
  have W1:=W.step s1
  rw[List.append_nil]
  refine⟨by rw[q1.len,hl],G.S nb (gK es),es.map (·.2),W1.iR,q1.all fun z=>z,hm _ _ _ p fun f d hp v H' sm hd=>z _ v H' d hp (s1.trans (.same W1.ak sm)) (hd.av fun a q=>?_)⟩
  cases f with
  |false=>rw[Bool.false_or] at q;exact .inl q
  |true=>exact .inr ⟨rfl,W1.iR a q⟩
theorem Step.pW{b l:Addr}{H H':Hp}(hB:G.B=some (b,l))(bt:aH (Nb b) H H')(B':bM H' b l):Step G.B H H':=
 ⟨fun a o n e=>bt a o (n b l hB) e,fun b' l' e=>by rw[hB] at e;cases e;exact B'⟩
theorem Wd.p9{nb:Addr->Prop}{σ:St}{H:Hp}(W:Wd G nb ρ σ H)(e:ρ[i]?=some .ak):∃b l,G.B=some (b,l)/\σ[i]?=some (some (.ref b))/\bM H b l:=by
 obtain⟨x,e1,b,l,hB,rfl⟩:=W.ok i _ e
 exact⟨b,l,hB,e1,W.ak b l hB⟩
theorem Ev.ff{n:Nat}{F:DF}(hm:cN F)(e:ρ[i]?=some .ak)(h:Av G ρ t fun es=>es.length+1=n/\F (es.map (·.2)) fun f d=>Φ (f||gK es) d):Ev G ρ (d8 (bS n F) [] E0 (aV (aZ i) t)) Φ:=fun nb σ H Q W z=>by
 obtain⟨b,l,hB,e1,B⟩:=W.p9 e
 refine⟨.ref b,e1,h nb σ H _ W fun es vs H1 ⟨hl,p⟩ s1 q1=>?_⟩
 have W1:=W.step s1
 show bS n F ((V.ref b::vs)++[]) H1 Q E0
 rw[List.append_nil]
 have hb:∀f,G.S nb f b:=fun f=> .inr (.inr (.inl fun n=>n b l hB rfl))
 refine⟨by rw[List.length_cons,q1.len,hl],b,l,vs,G.S nb (gK es),es.map (·.2),rfl,W1.ak b l hB,W1.iR,hb _,q1.all fun z=>z,hm _ _ _ p fun f d hp v H' bt B' hd=>z _ v H' d hp (s1.trans (.pW hB bt B')) (hd.av fun a q=>?_)⟩
 cases f with
 |false=>rw[Bool.false_or] at q;exact .inl q
 |true=>exact .inr ⟨rfl,W1.iR a q⟩
theorem Ev.draw(e:ρ[i]?=some .ak)(h:Ev G ρ te fun _ x=>∃m:Int,x= .int m/\0<m/\Sm m/\∀r:Int,0<=r->r<m->Φ true (.int r)):Ev G ρ (d8 fQ [] E0 (aV (aZ i) (aV te bz))) Φ:=fun nb σ H Q W z=>by
 obtain⟨b,l,hB,e1,B⟩:=W.p9 e
 refine⟨.ref b,e1,h nb σ H _ W fun f v H1 d ⟨m,ed,h1,h2,p⟩ s1 hv=>?_⟩
 subst ed
 exact⟨b,l,m,by rw[hv.bB];rfl,s1.2 b l hB,h1,h2,fun r H' r1 r2 bt B'=>z true _ H' _ (p r r1 r2) (s1.trans (.pW hB bt B')) (.int r)⟩
theorem Ev.prime(e:ρ[i]?=some .ak)(h:∀p:Int,D9 p->Φ true (.int p)):Ev G ρ (d8 KD [] E0 (aV (aZ i) bz)) Φ:=fun nb σ H Q W z=>by
 obtain⟨b,l,hB,e1,B⟩:=W.p9 e
 exact⟨.ref b,e1,b,l,rfl,B,fun p H' hp bt B'=>z true _ H' _ (h p hp) (.pW hB bt B') (.int p)⟩
theorem Ev.total(h:Av G ρ t fun es=>∃(p:Int) (prs:List (Int×Int)) (wd:List (Option Int)),es.map (·.2)=[.int p, .list (prs.map pairD), .list (wd.map br)]/\0<p/\(∀pr∈prs,0<=pr.1/\pr.1<wd.length/\Sm pr.2)/\(∀x,some x∈wd->Sm x)/\Φ true (.int (aW prs wd%p))):
  Ev G ρ (d8 tG [] E0 t) Φ:=fun nb σ H Q W z=>
 h nb σ H _ W fun es vs H1 ⟨p,prs,wd,e,h1,h2,h3,q⟩ s1 q1=>by
  have hd:=q1.all (f:=false) (fun z=>by cases z)
  rw[e] at hd
  unfold af at hd
  obtain⟨y,ys,rfl,d1,hd⟩:=hd
  unfold af at hd
  obtain⟨y2,ys,rfl,d2,hd⟩:=hd
  unfold af at hd
  obtain⟨y3,ys,rfl,d3,hd⟩:=hd
  unfold af at hd
  subst hd
  exact⟨G.S nb false,p,y2,y3,prs,wd,by rw[d1.bB];rfl,d2,d3,h1,h2,h3,z true _ H1 _ q s1 (.int _)⟩
theorem Ev.whole(h:Ev G ρ te fun _ x=>∃n,x= .int n/\Φ true (.bool true)):Ev G ρ (d8 xg [] E0 (aV te bz)) Φ:=fun nb σ H Q W z=>
 h nb σ H _ W fun f v H1 d ⟨n,e,q⟩ s1 hv=>by subst e;exact⟨n,by rw[hv.bB];rfl,z true _ H1 _ q s1 (.bl _)⟩
namespace Gv
variable{Θ:Rh->Prop}
theorem name(h:Θ (ρ.set i (.d f d))):Gv G ρ (fc i) f d Θ:=fun nb σ H v Q W hv z=>z _ _ h (W.kU hv)
theorem iA(h:Θ (ρ.set i (.d false d))):Gv G ρ (fc i) f d Θ:=fun nb σ H v Q W hv z=>z _ _ h (W.kU (hv.av (cB (fun z=>by cases z) fun _ z=>z)))
theorem vJ(hs:iB d=true)(h:Θ (ρ.set i (.d true d))):Gv G ρ (fc i) f d Θ:=fun nb σ H v Q W hv z=>z _ _ h (W.kU (hv.iH hs))
theorem oE{n:Int}(h:Θ (ρ.set i (.d true (.int n)))):Gv G ρ (fc i) f (.int n) Θ:=vJ rfl h
theorem OJ{n:Bool}(h:Θ (ρ.set i (.d true (.bool n)))):Gv G ρ (fc i) f (.bool n) Θ:=vJ rfl h
theorem SD(h:Θ (ρ.set i (.d true .none))):Gv G ρ (fc i) f .none Θ:=vJ rfl h
theorem tup{n:Nat}{u:fM}(hl:ds.length=n)(h:ju G ρ u f ds Θ):Gv G ρ (pU K n u) f (.tuple ds) Θ:=fun nb σ H v Q W hv z=>by
 obtain⟨a,xs,rfl,m,hx,hd⟩:=hv.ofT
 exact⟨a,xs,rfl, .of hx,by rw[hd.length];exact hl,h nb σ H xs Q W hd z⟩
theorem P5(h:Θ ρ):ju G ρ yd f [] Θ:=fun nb σ H vs Q W hv z=>by unfold af at hv;exact⟨hv,z _ _ h W⟩
theorem PN{u:TG}{us:fM}(h:Gv G ρ u f d fun eH=>ju G eH us f ds Θ):ju G ρ (zu u us) f (d::ds) Θ:=fun nb σ H vs Q W hv z=>by
 unfold af at hv
 obtain⟨y,ys,rfl,h1,h2⟩:=hv
 exact⟨y,ys,rfl,h nb σ H y _ W h1 fun σ' ρ' q W'=>q nb σ' H ys Q W' h2 z⟩
end Gv
namespace Sv
variable{E:DE}{s u:TS}
theorem seq(h:Sv G ρ s {E with nx:=fun eH=>Sv G eH u E}):Sv G ρ (iW s u) E:=fun nb σ H D W K=>h nb σ H _ W ⟨fun aI ρ' σ' H' q W'=>q aI σ' H' D W' K,K.bk,K.ct,K.rt,K.rw⟩
theorem next(h:E.nx ρ):Sv G ρ v7 E:=fun nb σ H D W K=>K.nx nb ρ σ H h W
theorem brk(h:E.bk ρ):Sv G ρ Q7 E:=fun nb σ H D W K=>K.bk nb ρ σ H h W
theorem cont(h:E.ct ρ):Sv G ρ MJ E:=fun nb σ H D W K=>K.ct nb ρ σ H h W
theorem asg{g:TG}(h:Ev G ρ te fun f d=>Gv G ρ g f d E.nx):Sv G ρ (dZ te g) E:=fun nb σ H D W K=>h nb σ H _ W fun f v H1 d q s1 hv=>q nb σ H1 v _ (W.step s1) hv fun σ' ρ' p W'=>K.nx nb ρ' σ' H1 p W'
theorem sY(h:Ev G ρ te fun _ d=>E.nx (ρ.set i (.d false d))):Sv G ρ (AF i te) E:=fun nb σ H D W K=>h nb σ H _ W fun f v H1 d q s1 hv=>K.nx nb _ _ H1 q ((W.step s1).kU (hv.av (cB (fun z=>by cases z) fun _ z=>z)))
theorem ret(h:Ev G ρ te E.rt):Sv G ρ (lX te) E:=fun nb σ H D W K=>h nb σ H _ W fun f v H1 d q s1 hv=>K.rt nb ρ σ f v H1 d q (W.step s1) (hv.av (cB (fun z=>z) fun _ z=>z.elim))
theorem jA{c:TT}(h:Tv G ρ c fun b=>if b=true then Sv G ρ s E else Sv G ρ u E):Sv G ρ (nE c s u) E:=fun nb σ H D W K=>h nb σ H _ W fun b H1 q s1=>by
 cases b with
 |true=>rw[if_pos rfl] at q⊢;exact q nb σ H1 D (W.step s1) K
 |false=>rw[if_neg Bool.false_ne_true] at q⊢;exact q nb σ H1 D (W.step s1) K
theorem KN{nb:Addr->Prop}{σ:St}{H H1:Hp}{a:Addr}{xs:List V}(W:Wd G nb ρ σ H)(s1:Step G.B H H1)(ha:H a=none)(e:H1 a=some (.lst xs))(hd:af (fun x=>G.S nb f x\/x=a) H1 ds xs):
    Wd G (fun x=>nb x\/x=a) (ρ.set i (.own a f ds)) (σ.set i (some (.ref a))) H1:=by
  have hN:NB G.B a:=fun b l e z=>by
    subst z
    obtain⟨_,_,_,_,_,h1,_⟩:=W.ak _ _ e
    rw[h1] at ha;cases ha
  have hA:∀f x,G.S (fun x=>nb x\/x=a) f x->(G.S nb f x\/x=a):=fun f x z=>by
    rcases z with (z|z)|z|z|z
    · exact .inl (.inl z)
    · exact .inr z
    · exact .inl (.inr (.inl z))
    · exact .inl (.inr (.inr (.inl z)))
    · exact .inl (.inr (.inr (.inr z)))
  have W1:=W.step s1
  have W2:Wd G (fun x=>nb x\/x=a) ρ σ H1:=by
    refine⟨W1.ak,fun x n=>?_,W1.old,fun x n q=>?_,W.gA,W.len,W.gB,fun h m=>(((W.cH h m).fresh ha).keep (s1.but fun x z=> .inl (.inr (.inr (.inl z))))).av (hA h.1),fun j s e'=>?_,W.apart,W.eT,W.cS⟩
    · rcases n with n|n
      · exact W1.live x n
      · subst n;rw[e];exact Option.some_ne_none _
    · rcases n with n|n
      · exact W.cL x n q
      · subst n
        cases z:G.H0 x with
        |none=>rfl
        |some o=>rw[W.old x o q z] at ha;cases ha
    · obtain⟨x,e1,h⟩:=W.ok j s e'
      refine⟨x,e1,?_⟩
      cases s with
      |no=>trivial
      |d f d=>obtain⟨v,e,h⟩:=h;exact⟨v,e,((h.fresh ha).keep (s1.but fun x z=> .inl (.inr (.inr (.inl z))))).av (hA f)⟩
      |own c f es=>obtain⟨e,n,q,xs,hx,hd⟩:=h;exact⟨e, .inl n,q,xs,s1.1 _ _ q hx,((hd.fresh ha).keep (s1.but fun x z=> .inl (.inr (.inr (.inl z))))).av (hA f)⟩
      |ak=>exact h
      |raw v=>exact h
      |bA c f es=>obtain⟨e,n,q,xs,hx,hd⟩:=h;exact⟨e, .inl n,q,xs,s1.1 _ _ q hx,((hd.fresh ha).keep (s1.but fun x z=> .inl (.inr (.inr (.inl z))))).av (hA f)⟩
      | cu c =>
        obtain⟨e,n,q⟩:=h
        refine⟨e,fun a ha=>⟨.inl (n a ha).1,(n a ha).2⟩,c.av (hA c.f) (c.keep (.of fun x o hx e=>s1.1 x o ?_ e) (c.fresh ha q))⟩
        rcases hx with hx|hx
        · exact Classical.byContradiction fun z=>hx (.inl (.inr (.inr (.inl z))))
        · exact(n x hx).2
  refine W2.set ⟨rfl, .inr rfl,hN,xs,e,hd.av (hA f)⟩ ?_ (fun _ _ _ z=>by cases z) (fun x hx j t hj ht hc=>?_)
  rotate_left
  · have hx:x=a:=List.mem_singleton.mp hx
    subst hx
    rcases hc with ⟨c,z⟩|⟨c,rfl⟩
    · cases z
    · exact fun z=>W.live x ((W.ok j _ ht).choose_spec.2.2.1 x z).1 ha
  rintro a' f' ds' ⟨rfl,rfl,rfl⟩ j c g cs hj hc z
  subst z
  obtain⟨x,e1,h1,h2,h3,ys,hy,_⟩:=W.ok j _ hc
  rw[hy] at ha;cases ha
theorem uV(h:ao G ρ te fun f ds=>∀a,E.nx (ρ.set i (.own a f ds))):Sv G ρ (dZ te (fc i)) E:=fun nb σ H D W K=>h nb σ H _ W fun f a xs H1 ds q s1 ha e hd=>K.nx _ _ _ H1 (q a) (KN W s1 ha e hd)
theorem uH{nb:Addr->Prop}{σ:St}{H:Hp}{a:Addr}{xs:List V}(W:Wd G nb ρ σ H)(e:ρ[i]?=some (.own a f ds))(hd:af (G.S nb g) H es xs):Wd G nb (ρ.set i (.own a g es)) σ (upd H a (.lst xs)):=by
  obtain⟨x,e1,h1,h2,h3,ys,hy,_⟩:=W.ok i _ e
  subst h1
  have hil:i<ρ.length:=(List.getElem?_eq_some_iff.mp e).1
  have W0:Wd G nb (ρ.set i .no) (σ.set i (some (.ref a))) H:=W.set trivial fun _ _ _ z=>by cases z
  have W1:Wd G nb (ρ.set i .no) (σ.set i (some (.ref a))) (upd H a (.lst xs)):=W0.write h2 h3 (fun j c f' cs hc=>by
    by_cases hij:i=j
    · subst hij;rw[List.getElem?_set_self hil] at hc;cases hc
    · rw[List.getElem?_set_ne hij] at hc
      exact(W.apart i j _ _ _ _ _ _ hij e hc).symm
   ) (fun j c f' cs hc z => by
      subst z
      have hij:i≠j:=fun z=>by subst z;rw[List.getElem?_set_self hil] at hc;cases hc
      rw[List.getElem?_set_ne hij] at hc
      obtain⟨_,_,_,_,_,ps,hp,_⟩:=W.ok j _ hc
      rw[hy] at hp;cases hp) (fun j c hc z=>by
      have hij:i≠j:=fun z=>by subst z;rw[List.getElem?_set_self hil] at hc;cases hc
      rw[List.getElem?_set_ne hij] at hc
      exact W.cS j i c _ (Ne.symm hij) hc e a z (List.mem_singleton.mpr rfl))
  have W2:=W1.set (i:=i) (s:= .own a g es) (x:=some (.ref a)) ⟨rfl,h2,h3,xs,aY,hd.keep (aH.set (.inl h2))⟩ (by
    rintro a' f' ds' ⟨rfl,rfl,rfl⟩ j c g' cs hj hc
    rw[List.getElem?_set_ne (Ne.symm hj)] at hc
    exact W.apart i j _ _ _ _ _ _ (Ne.symm hj) e hc) (fun _ _ _ z=>by cases z) (fun x hx j t hj ht hc z=>by
    rw[List.getElem?_set_ne (Ne.symm hj)] at ht
    have hx:x=a:=List.mem_singleton.mp hx
    subst hx
    rcases hc with ⟨c,q⟩|⟨c,rfl⟩
    · cases q
    · exact W.cS j i c _ hj ht e x z (List.mem_singleton.mpr rfl))
  rw[List.set_set,List.set_set] at W2
  have:σ.set i (some (.ref a))=σ:=by
    apply List.ext_getElem?
    intro j
    by_cases hij:i=j
    · subst hij;rw[List.getElem?_set_self (by rw[W.len];exact hil),e1]
    · rw[List.getElem?_set_ne hij]
  rwa[this] at W2
theorem append{a:Addr}(e:ρ[i]?=some (.own a f ds))(h:Ev G ρ te fun g d=>ds.length<10000/\E.nx (ρ.set i (.own a (f && g) (ds++[d])))):Sv G ρ (wM (kT K "list" D8 (aZ i) (aV te bz))) E:=fun nb σ H D W KK=>by
 obtain⟨x,e1,h1,h2,h3,xs,hx,hd⟩:=W.ok i _ e
 subst h1
 refine⟨.ref a,e1, .inl ⟨rfl,_,aR.of hx⟩,h nb σ H _ W fun g v H1 d ⟨hl,q⟩ s1 hv=>?_⟩
 have W1:=W.step s1
 have vt:=s1.1 _ _ h3 hx
 refine⟨a,xs,v,rfl,rfl,vt,Nat.lt_of_lt_of_le (by rw[hd.length];exact hl) (by decide),KK.nx nb _ _ _ q (uH W1 e ?_)⟩
 exact af.snoc (hv.av (cB (fun z=>(Bool.and_eq_true _ _▸z).2) fun _ z=>z)) ((hd.keep s1.cF).av (cB (fun z=>(Bool.and_eq_true _ _▸z).1) fun _ z=>z))
theorem af.set'{nb:Addr->Prop}{H:Hp}{x:V}(hd:ah nb H d x):∀{ds:List PyData} {xs:List V} (j:Nat),af nb H ds xs->af nb H (ds.set j d) (xs.set j x)
 |[],_,j,h=>by unfold af at h;subst h;exact .nil
 |e::ds,_,0,h=>by unfold af at h;obtain⟨y,ys,rfl,h1,h2⟩:=h;exact .cons hd h2
 |e::ds,_,j+1,h=>by unfold af at h;obtain⟨y,ys,rfl,h1,h2⟩:=h;exact .cons h1 (af.set' hd j h2)
theorem vq{a:Addr}(e:ρ[i]?=some (.own a f ds))(h:Ev G ρ te fun g d=>Ev G ρ tb fun _ y=>∃k j,y= .int k/\eX ds.length k=some j/\E.nx (ρ.set i (.own a (f && g) (ds.set j d)))):Sv G ρ (dZ te (jN (aZ i) tb mK)) E:=fun nb σ H D W KK=>
 h nb σ H _ W fun g v H1 d q s1 hv=>by
  obtain⟨x,e1,h1,h2,h3,xs,hx,hd⟩:=(W.step s1).ok i _ e
  subst h1
  refine⟨.ref a,e1,q nb σ H1 _ (W.step s1) fun g' u H2 y ⟨k,j,ey,hj,p⟩ s2 hu=>?_⟩
  subst ey
  have W2:=(W.step s1).step s2
  refine⟨a,xs,k,j,rfl,hu.bB,s2.1 _ _ h3 hx,by rw[hd.length];exact hj,KK.nx nb _ _ _ p (uH W2 e ?_)⟩
  exact af.set' ((hv.keep s2.cF).av (cB (fun z=>(Bool.and_eq_true _ _▸z).2) fun _ z=>z)) j ((hd.keep s2.cF).av (cB (fun z=>(Bool.and_eq_true _ _▸z).1) fun _ z=>z))
theorem share{nb:Addr->Prop}{σ:St}{H:Hp}{a:Addr}(W:Wd G nb ρ σ H)(e:ρ[i]?=some (.own a f ds)):Wd G (fun x=>nb x/\x≠a) (ρ.set i (.d f (.list ds))) σ H:=by
  obtain⟨x,e1,h1,h2,h3,xs,hx,hd⟩:=W.ok i _ e
  subst h1
  have hil:i<ρ.length:=(List.getElem?_eq_some_iff.mp e).1
  have W0:Wd G nb (ρ.set i .no) (σ.set i (some (.ref a))) H:=W.set trivial fun _ _ _ z=>by cases z
  have W1:Wd G (fun x=>nb x/\x≠a) (ρ.set i .no) (σ.set i (some (.ref a))) H:=by
    refine⟨W0.ak,fun x n=>W0.live x n.1,W0.old,fun x n=>W0.cL x n.1,W0.gA,W0.len,W0.gB,fun h m=>(W0.cH h m).av (cB (fun z=>z) fun _ z=>z.1),fun j s e'=>?_,W0.apart,W0.eT,W0.cS⟩
    obtain⟨x,kC,h⟩:=W0.ok j s e'
    refine⟨x,kC,?_⟩
    have hij:s≠ .no->i≠j:=fun n z=>by subst z;rw[List.getElem?_set_self hil] at e';cases e';exact n rfl
    cases s with
    |no=>trivial
    |d f d=>obtain⟨v,e,h⟩:=h;exact⟨v,e,h.av (cB (fun z=>z) fun _ z=>z.1)⟩
    | own c f es =>
      obtain⟨e2,n,q,xs,hx,hd⟩:=h
      have hij:=hij (by intro z;cases z)
      rw[List.getElem?_set_ne hij] at e'
      exact⟨e2,⟨n,(W.apart i j _ _ _ _ _ _ hij e e').symm⟩,q,xs,hx,hd.av (cB (fun z=>z) fun _ z=>z.1)⟩
    |ak=>exact h
    |raw v=>exact h
    | bA c f es =>
      obtain⟨e2,n,q,ps,hp,hd⟩:=h
      have hca:c≠a:=fun z=>by subst z;rw[hx] at hp;cases hp
      exact⟨e2,⟨n,hca⟩,q,ps,hp,hd.av (cB (fun z=>z) fun _ z=>z.1)⟩
    | cu c =>
      obtain⟨e2,n,q⟩:=h
      have hij:=hij (by intro z;cases z)
      rw[List.getElem?_set_ne hij] at e'
      exact⟨e2,fun x hx=>⟨⟨(n x hx).1,fun z=>W.cS j i c _ (Ne.symm hij) e' e x hx (by rw[z];exact List.mem_singleton.mpr rfl)⟩,(n x hx).2⟩,c.av (cB (fun z=>z) fun _ z=>z.1) q⟩
  have W2:=W1.kU (i:=i) (f:=f) (d:= .list ds) (v:= .ref a) (.lst (fun z=>by
    rcases z with z|z|z|z
    · exact z.2 rfl
    · exact W.gA a z (W.cL a h2 h3)
    · exact z h3
    · exact z.2 (W.cL a h2 h3)) hx (hd.av (cB (fun z=>z) fun _ z=>z.1)))
  rw[List.set_set,List.set_set] at W2
  have:σ.set i (some (.ref a))=σ:=by
    apply List.ext_getElem?
    intro j
    by_cases hij:i=j
    · subst hij;rw[List.getElem?_set_self (by rw[W.len];exact hil),e1]
    · rw[List.getElem?_set_ne hij]
  rwa[this] at W2
theorem yr{a:Addr}(i:Nat)(e:ρ[i]?=some (.own a f ds))(h:Sv G (ρ.set i (.d f (.list ds))) s E):Sv G ρ s E:=fun nb σ H D W K=>h _ σ H D (share W e) K
theorem wk{ρ':Rh}(w:Wk ρ' ρ)(h:Sv G ρ' s E):Sv G ρ s E:=fun nb σ H D W K=>h nb σ H D (W.wk w) K
end Sv
end
end L2
set_option maxRecDepth 100000
set_option maxHeartbeats 1000000
namespace L2
open PySem PySem.Spec PyProof.Rows
noncomputable abbrev Gx.hd(G:Gx)(f:Bool)(d:PyData)(v:V):Gx:={G with hold:=(f, .d d,v)::G.hold}
section
variable{G:Gx}{ρ cE:Rh}{Φ Ψ:Pd}{ta tb te:TE}{t:TA}{i:Nat}{f g:Bool}{d e:PyData}{ds es:List PyData}{K:PySem.W.Frag}
theorem Wd.hd{nb:Addr->Prop}{σ:St}{H:Hp}{v:V}(W:Wd G nb ρ σ H)(h:ah (G.S nb f) H d v):Wd (G.hd f d v) nb ρ σ H:=
 ⟨W.ak,W.live,W.old,W.cL,W.gA,W.len,W.gB,fun x m=>by
  rcases List.mem_cons.mp m with e|m
  ·subst e;exact h
  ·exact W.cH x m,fun i s e=>by
   obtain⟨x,e1,h⟩:=W.ok i s e
   refine⟨x,e1,?_⟩
   cases s<;>exact h,W.apart,W.eT,W.cS⟩
theorem Wd.mj{nb:Addr->Prop}{σ:St}{H:Hp}{v:V}(W:Wd (G.hd f d v) nb ρ σ H):Wd G nb ρ σ H/\ah (G.S nb f) H d v:=
 ⟨⟨W.ak,W.live,W.old,W.cL,W.gA,W.len,W.gB,fun x m=>W.cH x (List.mem_cons_of_mem _ m),fun i s e=>by
   obtain⟨x,e1,h⟩:=W.ok i s e
   refine⟨x,e1,?_⟩
   cases s<;>exact h,W.apart,W.eT,W.cS⟩,W.cH _ (List.mem_cons_self ..)⟩
namespace Sv
variable{E:DE}{s:TS}{gt:TG}
noncomputable def w5(G:Gx)(ρ:Rh)(n:Nat)(it:Nat->PyData->Prop)(fi:Bool)(gt:TG)(s:TS)(E:DE):Prop:=
 ∃I:Nat->Rh->Prop,I 0 ρ/\(∀i d ρ',it i d->I i ρ'->Gv G ρ' gt fi d fun fB=>Sv G fB s {nx:=I (i+1),rt:=E.rt,bk:=E.nx,ct:=I (i+1),rw:=E.rw})/\∀ρ',I n ρ'->E.nx ρ'
theorem HC{lo:Int}{n:Nat}{nb:Addr->Prop}{σ:St}{H:Hp}{D:Ends}(W:Wd G nb ρ σ H)(KK:sA G E D)(h:w5 G ρ n (fun i d=>i<n/\d= .int (lo+i)) true gt s E):
  ∃W:Nat->Nat->St->Hp->Prop,(∃m,W 0 m σ H)/\∀i m σ H,W i m σ H->
   ((gm lo n).stop i H/\D.nx σ H)\/((gm lo n).go i H/\∃N:St->Hp->Prop,(∀σ' H',N σ' H'->∃m',m'<m/\W (i+1) m' σ' H')/\∀x H',(gm lo n).kL i H x H'->gt x σ H' fun σ2 H2=>s {D with nx:=N,ct:=N,bk:=D.nx} σ2 H2):=by
 obtain⟨I,h0,ht,he⟩:=h
 refine Ei (fun i σ H=>∃nb ρ',I i ρ'/\Wd G nb ρ' σ H) ⟨nb,ρ,h0,W⟩ ?_ ?_
 ·rintro i σ H hi ⟨nb,ρ',hI,W⟩
  refine ht i _ ρ' ⟨hi,rfl⟩ hI nb σ H _ _ W (.int _) fun σ2 fB q W2=>q nb σ2 H _ W2 ?_
  exact⟨fun nb ρ σ H q W=>⟨nb,ρ,q,W⟩,KK.nx,fun nb ρ σ H q W=>⟨nb,ρ,q,W⟩,KK.rt,KK.rw⟩
 ·rintro σ H ⟨nb,ρ',hI,W⟩
  exact KK.nx nb ρ' σ H (he ρ' hI) W
theorem oV(h:Ev G ρ te fun _ x=>∃n:Int,x= .int n/\ -(2^62)<=n/\n<2^62/\w5 G ρ n.toNat (fun i d=>i<n.toNat/\d= .int (0+i)) true gt s E):Sv G ρ (lM (lW (aV te bz)) gt s) E:=fun nb σ H D W KK=>
 h nb σ H _ W fun f v H1 x ⟨n,ex,h1,h2,q⟩ s1 hv=>by
  subst ex
  rw[hv.bB]
  exact⟨n,rfl,h1,h2,HC (W.step s1) KK q⟩
theorem forL(h:Ev G ρ te fun f x=>∃ds,x= .list ds/\∀v,w5 (G.hd f (.list ds) v) ρ ds.length (fun i d=>ds[i]?=some d) f gt s E):Sv G ρ (lM (kh K te) gt s) E:=fun nb σ H D W KK=>
 h nb σ H _ W fun f v H1 x ⟨ds,ex,q⟩ s1 hv=>by
  subst ex
  obtain⟨I,h0,ht,he⟩:=q v
  have W1:=(W.step s1).hd hv
  obtain⟨a,xs,rfl,n,hx,hd⟩:=hv.dG
  have key:∀{nb ρ' σ H},Wd (G.hd f (.list ds) (.ref a)) nb ρ' σ H->∃xs,H a=some (.lst xs)/\af (G.S nb f) H ds xs:=fun W=>by
   obtain⟨a',xs',e',_,h',d'⟩:=W.mj.2.dG
   cases e'
   exact⟨xs',h',d'⟩
  refine⟨a,rfl,⟨xs, .of hx⟩,?_⟩
  refine⟨fun i m σ H=>m=ds.length-i/\i<=ds.length/\∃nb ρ',I i ρ'/\Wd (G.hd f (.list ds) (.ref a)) nb ρ' σ H,⟨ds.length,by simp,Nat.zero_le _,nb,ρ,h0,W1⟩,?_⟩
  rintro i m σ H ⟨rfl,hi,nb,ρ',hI,W⟩
  obtain⟨ys,hy,hD⟩:=key W
  have hl:=hD.length
  by_cases hlt:i<ds.length
  ·refine .inr ⟨⟨ys,ys[i]'(by walk_at "o"), .of hy,List.getElem?_eq_getElem _⟩,fun σ H=>∃nb ρ',I (i+1) ρ'/\Wd (G.hd f (.list ds) (.ref a)) nb ρ' σ H,fun σ' H' q=>⟨ds.length-(i+1),by walk_at "o",rfl,hlt,q⟩,fun x H' y=>?_⟩
   obtain⟨e,y⟩:=y
   subst e
   have hx:=y ys (.of hy)
   obtain⟨x',hx',dx⟩:=hD.get (List.getElem?_eq_getElem hlt)
   rw[hx] at hx';cases hx'
   refine ht i _ ρ' (List.getElem?_eq_getElem hlt) hI nb σ _ _ _ W dx fun σ2 fB q W2=>q nb σ2 _ _ W2 ?_
   exact⟨fun nb ρ σ H q W=>⟨nb,ρ,q,W⟩,fun nb ρ σ H q W=>KK.nx nb ρ σ H q W.mj.1,fun nb ρ σ H q W=>⟨nb,ρ,q,W⟩,fun nb ρ σ f v H d q W hv=>KK.rt nb ρ σ f v H d q W.mj.1 hv,fun nb ρ σ v H q W=>KK.rw nb ρ σ v H q W.mj.1⟩
  ·have e:i=ds.length:=by walk_at "o"
   subst e
   exact .inl ⟨⟨ys, .of hy,by walk_at "o"⟩,KK.nx nb ρ' σ H (he ρ' hI) W.mj.1⟩
theorem Bo{c:TT}(I:Rh->Prop)(μ:Rh->Nat)(h0:I ρ)(h:∀ρ',I ρ'->Tv G ρ' c fun b=>if b=true then Sv G ρ' s {nx:=fun fB=>I fB/\μ fB<μ ρ',rt:=E.rt,bk:=E.nx,ct:=fun fB=>I fB/\μ fB<μ ρ',rw:=E.rw} else E.nx ρ'):Sv G ρ (tZ c s) E:=fun nb σ H D W KK=>by
  refine⟨fun m σ H=>∃nb ρ',I ρ'/\Wd G nb ρ' σ H/\m=μ ρ',⟨_,nb,ρ,h0,W,rfl⟩,?_⟩
  rintro m σ H ⟨nb,ρ',hI,W,rfl⟩
  refine h ρ' hI nb σ H _ W fun b H1 q s1=>?_
  cases b with
  | true =>
    rw[if_pos rfl] at q⊢
    refine⟨fun σ' H'=>∃nb fB,(I fB/\μ fB<μ ρ')/\Wd G nb fB σ' H',fun σ' H' ⟨nb,fB,⟨q1,q2⟩,W2⟩=>⟨μ fB,q2,nb,fB,q1,W2,rfl⟩,q nb σ H1 _ (W.step s1) ?_⟩
    exact⟨fun nb ρ σ H q W=>⟨nb,ρ,q,W⟩,KK.nx,fun nb ρ σ H q W=>⟨nb,ρ,q,W⟩,KK.rt,KK.rw⟩
  |false=>rw[if_neg Bool.false_ne_true] at q⊢;exact KK.nx nb ρ' σ H1 q (W.step s1)
end Sv
noncomputable def iE(mp:List (Option Nat))(ρ:Rh):Rh:=mp.map fun o=>match o with|none=> .no|some j=>match ρ[j]? with|some s=>s|none=> .no
theorem uU{mp:List (Option Nat)}(h:(mp.filterMap id).Nodup):∀{i j k:Nat},mp[i]?=some (some k)->mp[j]?=some (some k)->i=j:=by
  induction mp with
  |nil=>intro i j k e;simp at e
  | cons o r ih =>
    intro i j k e1 e2
    have hr:(r.filterMap id).Nodup:=by
      cases o with
      |none=>simpa using h
      |some x=>rw[List.filterMap_cons_some (by rfl)] at h;exact(List.nodup_cons.mp h).2
    have hn:∀{m:Nat},r[m]?=some (some k)->o≠some k:=fun{m} hm e=>by
      subst e
      rw[List.filterMap_cons_some (by rfl)] at h
      exact(List.nodup_cons.mp h).1 (List.mem_filterMap.mpr ⟨some k,List.mem_of_getElem? hm,rfl⟩)
    cases i with
    | zero =>
      cases j with
      |zero=>rfl
      |succ j=>simp at e1 e2;exact absurd e1 (hn e2)
    | succ i =>
      cases j with
      |zero=>simp at e1 e2;exact absurd e2 (hn e1)
      |succ j=>simp at e1 e2;rw[ih hr e1 e2]
theorem Wd.eB{nb:Addr->Prop}{σ:St}{H:Hp}{mp:List (Option Nat)}(W:Wd G nb ρ σ H)(hm:(mp.filterMap id).Nodup):Wd G nb (iE mp ρ) (eB mp σ) H:=by
  have hat:∀{i:Nat} {s:Sl},(iE mp ρ)[i]?=some s->s= .no\/∃k,mp[i]?=some (some k)/\ρ[k]?=some s:=fun{i s} e=>by
    unfold iE at e
    rw[List.getElem?_map] at e
    obtain⟨o,ho,e⟩:=Option.map_eq_some_iff.mp e
    cases o with
    |none=>exact .inl e.symm
    | some k =>
      cases hk:ρ[k]? with
      |none=>simp only[hk] at e;exact .inl e.symm
      |some s'=>simp only[hk] at e;subst e;exact .inr ⟨k,ho,hk⟩
  refine⟨W.ak,W.live,W.old,W.cL,W.gA,by unfold L2.eB iE;rw[List.length_map,List.length_map],W.gB,W.cH,fun i s e=>?_,fun i j a f as c g cs hij e1 e2=>?_,fun i j a f as c g cs hij e1 e2=>?_,fun i j c t hij e1 e2 a ha=>?_⟩
  · have hi:i<mp.length:=by have:=(List.getElem?_eq_some_iff.mp e).1;unfold iE at this;rwa[List.length_map] at this
    rcases hat e with rfl|⟨k,hk,hs⟩
    · exact⟨_,by unfold L2.eB;rw[List.getElem?_map,List.getElem?_eq_getElem hi];rfl,trivial⟩
    · obtain⟨x,e1,h⟩:=W.ok k s hs
      refine⟨x,?_,h⟩
      unfold L2.eB
      rw[List.getElem?_map,hk]
      simp only[Option.map_some,e1]
  · rcases hat e1 with z|⟨k,hk,hs⟩
    · cases z
    rcases hat e2 with z|⟨k',hk',hs'⟩
    · cases z
    exact W.apart k k' a f as c g cs (fun z=>by subst z;exact hij (uU hm hk hk')) hs hs'
  · rcases hat e1 with z|⟨k,hk,hs⟩
    · cases z
    rcases hat e2 with z|⟨k',hk',hs'⟩
    · cases z
    exact W.eT k k' a f as c g cs (fun z=>by subst z;exact hij (uU hm hk hk')) hs hs'
  · rcases hat e1 with z|⟨k,hk,hs⟩
    · cases z
    rcases hat e2 with z|⟨k',hk',hs'⟩
    · subst z;exact fun z=>by cases z
    exact W.cS k k' c t (fun z=>by subst z;exact hij (uU hm hk hk')) hs hs' a ha
noncomputable def Ef(ρ:Rh)(acc:Addr):Prop:=(∀(j:Nat) a f ds,ρ[j]?=some (.own a f ds)->a≠acc)/\∀(j:Nat) c,ρ[j]?=some (.cu c)->acc∉c.F
noncomputable def fu(G:Gx)(cE:Rh)(n:Nat)(it:Nat->PyData->Prop)(fi:Bool)(gt:TG)(tc:TT)(te:TE)(Θ:Bool->List PyData->Prop):Prop:=
 ∃(fl:Bool) (I:Nat->List PyData->Prop),I 0 []/\(∀i d ds,it i d->ds.length<=i->I i ds->Gv G cE gt fi d fun eH=>Wk cE eH/\Tv G eH tc fun b=>if b=true then Ev G eH te fun f e=>(fl=true->f=true)/\I (i+1) (ds++[e]) else I (i+1) ds)/\
  ∀ds,ds.length<=n->I n ds->Θ (fl||dw ds) ds
theorem Bx{gt:TG}{tc:TT}{nb:Addr->Prop}{acc:Addr}{σ:St}{H H1:Hp}{x:V}{fi fl:Bool}{I:Nat->List PyData->Prop}{xs:List V}{N:St->Hp->Prop}{ds:List PyData}{n:Nat}(hn:n<=10000)(hi:i<n)
    (W:Wd G nb cE σ H) (ha:nb acc) (hN:NB G.B acc) (hno:Ef cE acc) (st:Step G.B H1 H) (hacc:H1 acc=none) (hx:H acc=some (.lst xs)) (hd:af (G.S nb fl) H ds xs) (hl:ds.length<=i) (hxd:ah (G.S nb fi) H d x)
    (h:Gv G cE gt fi d fun eH=>Wk cE eH/\Tv G eH tc fun b=>if b=true then Ev G eH te fun f e=>(fl=true->f=true)/\I (i+1) (ds++[e]) else I (i+1) ds)
    (z:∀σ' H' ds' xs',Wd G nb cE σ' H'->Step G.B H1 H'->H' acc=some (.lst xs')->af (G.S nb fl) H' ds' xs'->ds'.length<=i+1->I (i+1) ds'->N σ' H'):
    gt x σ H fun σ2 H2=>tc σ2 H2 fun b H3=>if b=true then te σ2 H3 fun v H4=>∃ys,H4 acc=some (.lst ys)/\ys.length<sizeLine/\N σ2 (upd H4 acc (.lst (ys++[v]))) else N σ2 H3:=by
  refine h nb σ H x _ W hxd fun σ2 eH ⟨wk,q⟩ W2=>q nb σ2 H _ W2 fun b H3 q3 s3=>?_
  have rH:=s3.1 _ _ hN hx
  have qH:=hd.keep (s3.cF (nb:=nb) (f:=fl))
  cases b with
  | false =>
    rw[if_neg Bool.false_ne_true] at q3⊢
    exact z σ2 H3 ds xs ((W2.step s3).wk wk) (st.trans s3) rH qH (by walk_at "o") q3
  | true =>
    rw[if_pos rfl] at q3⊢
    refine q3 nb σ2 H3 _ (W2.step s3) fun f v H4 e ⟨hf,hI⟩ s4 hv=>?_
    have CN:=s4.1 _ _ hN rH
    have Gj:=qH.keep (s4.cF (nb:=nb) (f:=fl))
    have hlen:=hd.length
    refine⟨xs,CN,Nat.lt_of_lt_of_le (show xs.length<10001 by walk_at "o") (by decide),?_⟩
    have W4:Wd G nb cE σ2 H4:=((W2.step s3).step s4).wk wk
    have bt:aH (G.S nb fl) H4 (upd H4 acc (.lst (xs++[v]))):=aH.set (.inl ha)
    have W5:Wd G nb cE σ2 (upd H4 acc (.lst (xs++[v]))):=W4.write ha hN hno.1 (fun j a f ds e z=>by
      subst z
      obtain⟨_,_,_,_,_,ps,hp,_⟩:=W4.ok j _ e
      rw[CN] at hp;cases hp) hno.2
    refine z σ2 _ (ds++[e]) (xs++[v]) W5 ⟨fun a o n q=>?_,W5.ak⟩ aY (af.snoc ((hv.av (cB hf fun _ z=>z)).keep bt) (Gj.keep bt)) (by rw[List.length_append,List.length_singleton];walk_at "o") hI
    have hne:a≠acc:=fun z=>by subst z;rw[hacc] at q;cases q
    rw[bf hne]
    exact(st.trans (s3.trans s4)).1 a o n q
theorem yG{nb:Addr->Prop}{σ:St}{H:Hp}{a:Addr}(W:Wd G nb ρ σ H)(ha:H a=none):Ef ρ a:=by
 refine⟨fun j c f ds e z=>?_,fun j c e z=>?_⟩
 ·subst z
  obtain⟨x,e1,h1,h2,h3,ys,hy,_⟩:=W.ok j _ e
  rw[hy] at ha;cases ha
 ·obtain⟨x,e1,h1,h2,h3⟩:=W.ok j _ e
  exact W.live a (h2 a z).1 ha
theorem SQ{nb:Addr->Prop}{a:Addr}{f:Bool}:∀x,(G.S nb f x\/x=a)->G.S (fun x=>nb x\/x=a) f x:=fun x z=>by
 rcases z with (z|z|z|z)|z
 ·exact .inl (.inl z)
 ·exact .inr (.inl z)
 ·exact .inr (.inr (.inl z))
 ·exact .inr (.inr (.inr z))
 ·exact .inl (.inr z)
theorem EA{nb:Addr->Prop}{acc:Addr}{H H1 H':Hp}{σ:St}{Q:VK}{Θ:Bool->List PyData->Prop}{xs:List V}{ds:List PyData}{fl:Bool}(W:Wd G nb ρ σ H)(s1:Step G.B H H1)(hacc:H1 acc=none)(s2:Step G.B H1 H')(hx:H' acc=some (.lst xs))(hd:af (G.S (fun x=>nb x\/x=acc) fl) H' ds xs)(p:Θ (fl||dw ds) ds)
  (z:∀f a xs H' ds,Θ f ds->Step G.B H H'->H a=none->H' a=some (.lst xs)->af (fun x=>G.S nb f x\/x=a) H' ds xs->Q (.ref a) H'):Q (.ref acc) H':=by
 refine z _ acc xs H' ds p (s1.trans s2) (W.none_of s1 hacc) hx ?_
 cases hs:dw ds with
 |true=>exact af.iH hs hd
 |false=>rw[Bool.or_false];exact hd.av SQ
theorem NB.new{B:Bg}{H:Hp}{a:Addr}(h:gU B H)(ha:H a=none):NB B a:=Classical.byContradiction fun z=>NB.jt h z ha
namespace ao
variable{Θ:Bool->List PyData->Prop}{gt:TG}{tc:TT}{mp:List (Option Nat)}
theorem Qw{lo:Int}{n:Nat}{nb:Addr->Prop}{σ:St}{H H1:Hp}{Q:VK}(W:Wd G nb ρ σ H)(s1:Step G.B H H1)(hm:(mp.filterMap id).Nodup)(cU:iE mp ρ=cE)(hn:n<=10000)(h:fu G cE n (fun i d=>i<n/\d= .int (lo+i)) true gt tc te Θ)
  (z:∀f a xs H' ds,Θ f ds->Step G.B H H'->H a=none->H' a=some (.lst xs)->af (fun x=>G.S nb f x\/x=a) H' ds xs->Q (.ref a) H') (acc:Addr) (hacc:H1 acc=none):oR (gm lo n) gt tc te acc (fun H'=>Q (.ref acc) H') (eB mp σ) (upd H1 acc (.lst [])):=by
 obtain⟨fl,I,h0,ht,he⟩:=h
 have W0:Wd G nb cE (L2.eB mp σ) H1:=by rw[<-cU];exact(W.step s1).eB hm
 have W1:=W0.more hacc (o:= .lst [])
 have hN:=NB.new s1.2 hacc
 have hno:=yG W0 hacc
 have zb:Step G.B H1 (upd H1 acc (.lst [])):= .same s1.2 (cJ hacc)
 refine R.yh (fun i σ H=>∃ds xs,Wd G (fun x=>nb x\/x=acc) cE σ H/\Step G.B H1 H/\H acc=some (.lst xs)/\af (G.S (fun x=>nb x\/x=acc) fl) H ds xs/\ds.length<=i/\I i ds) ⟨[],[],W1,zb,aY, .nil,Nat.le_refl _,h0⟩ ?_ ?_
 ·rintro i σ H hi ⟨ds,xs,W,st,hx,hd,hl,hI⟩
  exact Bx hn hi W (.inr rfl) hN hno st hacc hx hd hl (.int _) (ht i _ ds ⟨hi,rfl⟩ hl hI) fun σ' H' ds' xs' W' st' hx' hd' hl' hI'=>⟨ds',xs',W',st',hx',hd',hl',hI'⟩
 ·rintro σ H' ⟨ds,xs,W',st,hx,hd,hl,hI⟩
  exact EA W s1 hacc st hx hd (he ds hl hI) z
theorem jf{t0:TE}(hm:(mp.filterMap id).Nodup)(cU:iE mp ρ=cE)(h:Ev G ρ t0 fun _ x=>∃n:Int,x= .int n/\ -10000<=n/\n<=10000/\fu G cE n.toNat (fun i d=>i<n.toNat/\d= .int (0+i)) true gt tc te Θ):ao G ρ (iF (lW (aV t0 bz)) gt tc te mp) Θ:=fun nb σ H Q W z=>
 h nb σ H _ W fun f v H1 x ⟨n,ex,h1,h2,q⟩ s1 hv=>by
  subst ex
  rw[hv.bB]
  exact⟨n,rfl,by walk_at "o",by walk_at "o",Qw W s1 hm cU (by walk_at "o") q z⟩
theorem fR{t0:TE}(hm:(mp.filterMap id).Nodup)(cU:iE mp ρ=cE)(h:Ev G ρ t0 fun fi x=>∃es,x= .list es/\es.length<=10000/\∀v,fu (G.hd fi (.list es) v) cE es.length (fun i d=>es[i]?=some d) fi gt tc te Θ):ao G ρ (iF (kh K t0) gt tc te mp) Θ:=fun nb σ H Q W z=>
 h nb σ H _ W fun fi v H1 x ⟨es,ex,hn,q⟩ s1 hv=>by
  subst ex
  obtain⟨fl,I,h0,ht,he⟩:=q v
  have W0:=(W.step s1).hd hv
  obtain⟨a,xs,rfl,n,hx,hd⟩:=hv.dG
  refine⟨a,rfl,⟨xs, .of hx⟩,fun acc hacc=>?_⟩
  have C7:Wd (G.hd fi (.list es) (.ref a)) nb cE (L2.eB mp σ) H1:=by rw[<-cU];exact W0.eB hm
  have W1:=C7.more hacc (o:= .lst [])
  have hN:=NB.new s1.2 hacc
  have hno:=yG C7 hacc
  have zb:Step G.B H1 (upd H1 acc (.lst [])):= .same s1.2 (cJ hacc)
  have Al:NB G.B a:=Classical.byContradiction fun z=>n (.inr (.inr (.inl z)))
  refine R.AD (xs:=xs) (fun i σ H=>∃ds ys,Wd (G.hd fi (.list es) (.ref a)) (fun x=>nb x\/x=acc) cE σ H/\Step G.B H1 H/\H acc=some (.lst ys)/\af (G.S (fun x=>nb x\/x=acc) fl) H ds ys/\ds.length<=i/\I i ds) ⟨[],[],W1,zb,aY, .nil,Nat.le_refl _,h0⟩ ?_ ?_ ?_
  ·rintro i σ H hi ⟨ds,ys,W,st,_⟩
   exact .of (st.1 _ _ Al hx)
  ·rintro i x σ H hi ⟨ds,ys,W,st,hy,hd',hl,hI⟩
   obtain⟨a',xs',e',_,h',d'⟩:=W.mj.2.dG
   cases e'
   rw[st.1 _ _ Al hx] at h';cases h'
   have hil:i<es.length:=by have:=(List.getElem?_eq_some_iff.mp hi).1;have:=d'.length;walk_at "o"
   obtain⟨x',hx',dx⟩:=d'.get (List.getElem?_eq_getElem hil)
   rw[hi] at hx';cases hx'
   exact Bx (G:=G.hd fi (.list es) (.ref a)) hn hil W (.inr rfl) hN hno st hacc hy hd' hl dx (ht i _ ds (List.getElem?_eq_getElem hil) hl hI) fun σ' H' ds' xs' W' st' hx' hd' hl' hI'=>⟨ds',xs',W',st',hx',hd',hl',hI'⟩
  ·rintro σ H' ⟨ds,ys,W',st,hy,hd',hl,hI⟩
   rw[hd.length] at hl hI
   exact EA W s1 hacc st hy hd' (he ds hl hI) z
end ao
end
end L2
set_option maxRecDepth 100000
set_option maxHeartbeats 1000000
namespace L2
open PySem PySem.Spec PyProof.Rows
section
variable{ρ:Rh}{t:TS}{N:List Str}{vs:List V}{ds:List PyData}{nb:Addr->Prop}{H:Hp}{Q:VK}{Φ:Pd}{b l:Addr}
theorem iV{xs:List V}(h:af nb H ds xs){i:Nat}{s:Sl}(e:(ds.map (Sl.d false))[i]?=some s):∃v d,xs[i]?=some v/\s= .d false d/\ah nb H d v:=by
 rw[List.getElem?_map] at e
 obtain⟨d,hd,e⟩:=Option.map_eq_some_iff.mp e
 obtain⟨v,hv,q⟩:=h.get hd
 exact⟨v,d,hv,e.symm,q⟩
theorem Sv.i6(hl:ji nb H)(hd:af nb H ds vs)(aA:∀f d v H',Φ f d->bI H H'->ah (fun a=>nb a\/(f=true/\H a≠none)) H' d v->Q v H')
  (cU:ρ=ds.map (Sl.d false)++List.replicate (N.length-ds.length) .no) (h:Sv ⟨none,H,nb,[]⟩ ρ t {nx:=fun _=>Φ true .none,rt:=Φ}):t {nx:=fun _ H'=>Q .aB H',rt:=Q} (start N vs) H:=by
 have hlen:=hd.length
 have sm:∀{aI ρ' σ' H'},Wd ⟨none,H,nb,[]⟩ aI ρ' σ' H'->bI H H':=fun W a o e=>W.old a o (fun _ _ z=>(by cases z)) e
 refine h (fun _=>False) _ H _ ⟨fun _ _ z=>(by cases z),fun _ z=>z.elim,fun _ _ _ e=>e,fun _ z=>z.elim,hl,?_,fun _ _ z=>(by cases z),fun _ m=>(by cases m),fun i s e=>?_,?_,?_,?_⟩ ⟨fun aI ρ' σ' H' q W=>aA _ _ _ _ q (sm W) .aB,fun _ _ _ _ q _=>q.elim,fun _ _ _ _ q _=>q.elim,fun aI ρ' σ' f v H' d q W hv=>aA f d v H' q (sm W) (hv.av fun a z=>?_),fun _ _ _ _ _ q _=>q.elim⟩
 ·rw[cU];unfold start;simp[hlen]
 ·rw[cU] at e
  unfold start
  by_cases hi:i<ds.length
  ·rw[List.getElem?_append_left (by rw[List.length_map];exact hi)] at e
   obtain⟨v,d,hv,rfl,q⟩:=iV hd e
   refine⟨some v,?_,v,rfl,q.av fun a z=>?_⟩
   ·rw[List.getElem?_append_left (by rw[List.length_map,hlen];exact hi),List.getElem?_map,hv];rfl
   ·rcases z with z|z|z|z
    ·exact z.elim
    ·exact z
    ·exact absurd (fun _ _ z=>(by cases z)) z
    ·cases z.1
  ·rw[List.getElem?_append_right (by rw[List.length_map];walk_at "o"),List.getElem?_replicate] at e
   split at e
   ·rename_i h'
    cases e
    refine⟨none,?_,trivial⟩
    rw[List.length_map] at h'
    rw[List.getElem?_append_right (by rw[List.length_map];walk_at "o"),List.getElem?_replicate,if_pos (by rw[List.length_map,hlen];exact h')]
   ·cases e
 ·intro i j a f as c g cs hij e1
  rw[cU] at e1
  by_cases hi:i<ds.length
  ·rw[List.getElem?_append_left (by rw[List.length_map];exact hi)] at e1
   obtain⟨_,_,_,z,_⟩:=iV hd e1
   cases z
  ·rw[List.getElem?_append_right (by rw[List.length_map];walk_at "o"),List.getElem?_replicate] at e1
   split at e1<;>cases e1
 ·intro i j a f as c g cs hij e1
  rw[cU] at e1
  by_cases hi:i<ds.length
  ·rw[List.getElem?_append_left (by rw[List.length_map];exact hi)] at e1
   obtain⟨_,_,_,z,_⟩:=iV hd e1
   cases z
  ·rw[List.getElem?_append_right (by rw[List.length_map];walk_at "o"),List.getElem?_replicate] at e1
   split at e1<;>cases e1
 ·intro i j c t hij e1
  rw[cU] at e1
  by_cases hi:i<ds.length
  ·rw[List.getElem?_append_left (by rw[List.length_map];exact hi)] at e1
   obtain⟨_,_,_,z,_⟩:=iV hd e1
   cases z
  ·rw[List.getElem?_append_right (by rw[List.length_map];walk_at "o"),List.getElem?_replicate] at e1
   split at e1<;>cases e1
 ·rcases z with z|z
  ·exact .inr (.inl z)
  ·exact .inr (.inr (.inr z))
theorem Sv.gX(hB:bM H b l)(hl:ji nb H)(hb:nb b)(hd:af nb H ds vs)(aA:∀f d v H',Φ f d->aH (Nb b) H H'->bM H' b l->ah (fun a=>nb a\/(f=true/\H a≠none)) H' d v->Q v H')
    (cU:ρ= .ak::ds.map (Sl.d false)++List.replicate (N.length-(ds.length+1)) .no) (h:Sv ⟨some (b,l),H,nb,[]⟩ ρ t {nx:=fun _=>Φ true .none,rt:=Φ}):t {nx:=fun _ H'=>Q .aB H',rt:=Q} (start N (.ref b::vs)) H:=by
  have hlen:=hd.length
  have gc:∀a,a≠b->NB (some (b,l)) a:=fun a n b' l' e=>by cases e;exact n
  have JF:∀a,¬NB (some (b,l)) a->a=b:=fun a n=>Classical.byContradiction fun z=>n (gc a z)
  have bt:∀{aI ρ' σ' H'},Wd ⟨some (b,l),H,nb,[]⟩ aI ρ' σ' H'->aH (Nb b) H H':=fun W a o n e=>W.old a o (gc a n) e
  have bg:∀{aI ρ' σ' H'},Wd ⟨some (b,l),H,nb,[]⟩ aI ρ' σ' H'->bM H' b l:=fun W=>W.ak b l rfl
  refine h (fun _=>False) _ H _ ⟨fun b' l' e=>(by cases e;exact hB),fun _ z=>z.elim,fun _ _ _ e=>e,fun _ z=>z.elim,hl,?_,fun b' l' e=>(by cases e;exact hB),fun _ m=>(by cases m),fun i s e=>?_,?_,?_,?_⟩ ⟨fun aI ρ' σ' H' q W=>aA _ _ _ _ q (bt W) (bg W) .aB,fun _ _ _ _ q _=>q.elim,fun _ _ _ _ q _=>q.elim,fun aI ρ' σ' f v H' d q W hv=>aA f d v H' q (bt W) (bg W) (hv.av fun a z=>?_),fun _ _ _ _ _ q _=>q.elim⟩
  · rw[cU];unfold start;simp[hlen]
  · rw[cU] at e
    unfold start
    cases i with
    |zero=>simp at e;subst e;exact⟨some (.ref b),by simp,b,l,rfl,rfl⟩
    | succ i =>
      simp only[List.cons_append,List.getElem?_cons_succ,List.map_cons,List.length_cons] at e⊢
      by_cases hi:i<ds.length
      · rw[List.getElem?_append_left (by rw[List.length_map];exact hi)] at e
        obtain⟨v,d,hv,rfl,q⟩:=iV hd e
        refine⟨some v,?_,v,rfl,q.av fun a z=>?_⟩
        · rw[List.getElem?_append_left (by rw[List.length_map,hlen];exact hi),List.getElem?_map,hv];rfl
        · rcases z with z|z|z|z
          · exact z.elim
          · exact z
          · rw[JF a z];exact hb
          · cases z.1
      · rw[List.getElem?_append_right (by rw[List.length_map];walk_at "o"),List.getElem?_replicate] at e
        split at e
        · rename_i h'
          cases e
          refine⟨none,?_,trivial⟩
          rw[List.length_map] at h'
          rw[List.getElem?_append_right (by rw[List.length_map];walk_at "o"),List.getElem?_replicate,if_pos (by rw[List.length_map,hlen];exact h')]
        · cases e
  · intro i j a f as c g cs hij e1
    rw[cU] at e1
    cases i with
    |zero=>simp at e1
    | succ i =>
      simp only[List.cons_append,List.getElem?_cons_succ] at e1
      by_cases hi:i<ds.length
      · rw[List.getElem?_append_left (by rw[List.length_map];exact hi)] at e1
        obtain⟨_,_,_,z,_⟩:=iV hd e1
        cases z
      · rw[List.getElem?_append_right (by rw[List.length_map];walk_at "o"),List.getElem?_replicate] at e1
        split at e1<;>cases e1
  · intro i j a f as c g cs hij e1
    rw[cU] at e1
    cases i with
    |zero=>simp at e1
    | succ i =>
      simp only[List.cons_append,List.getElem?_cons_succ] at e1
      by_cases hi:i<ds.length
      · rw[List.getElem?_append_left (by rw[List.length_map];exact hi)] at e1
        obtain⟨_,_,_,z,_⟩:=iV hd e1
        cases z
      · rw[List.getElem?_append_right (by rw[List.length_map];walk_at "o"),List.getElem?_replicate] at e1
        split at e1<;>cases e1
  · intro i j c t hij e1
    rw[cU] at e1
    cases i with
    |zero=>simp at e1
    | succ i =>
      simp only[List.cons_append,List.getElem?_cons_succ] at e1
      by_cases hi:i<ds.length
      · rw[List.getElem?_append_left (by rw[List.length_map];exact hi)] at e1
        obtain⟨_,_,_,z,_⟩:=iV hd e1
        cases z
      · rw[List.getElem?_append_right (by rw[List.length_map];walk_at "o"),List.getElem?_replicate] at e1
        split at e1<;>cases e1
  · rcases z with z|z
    · exact .inr (.inl z)
    · exact .inr (.inr (.inr z))
noncomputable def xE(b l:Addr)(H:Hp):Gx:=⟨some (b,l),H,fun _=>False,[]⟩
theorem To{a:Addr}{m:Nat}(hB:bM H b l):Wd (xE b l H) (fun _=>False) (.raw (.ref a):: .ak::List.replicate m .no) (some (.ref a)::some (.ref b)::List.replicate m none) H:=by
  refine⟨fun b' l' e=>(by cases e;exact hB),fun _ z=>z.elim,fun _ _ _ e=>e,fun _ z=>z.elim,fun _ z=>z.elim,by simp,fun b' l' e=>(by cases e;exact hB),fun _ m=>(by cases m),fun i s e=>?_,?_,?_,?_⟩
  · match i with
    |0=>simp at e;subst e;exact⟨_,rfl,rfl⟩
    |1=>simp at e;subst e;exact⟨some (.ref b),rfl,b,l,rfl,rfl⟩
    | i + 2 =>
      simp only[List.getElem?_cons_succ,List.getElem?_replicate] at e⊢
      split at e
      · rename_i h;cases e;exact⟨none,if_pos h,trivial⟩
      · cases e
  · intro i j a f as c g cs hij e1
    match i with
    |0=>simp at e1
    |1=>simp at e1
    | i + 2 =>
      simp only[List.getElem?_cons_succ,List.getElem?_replicate] at e1
      split at e1<;>cases e1
  · intro i j a f as c g cs hij e1
    match i with
    |0=>simp at e1
    |1=>simp at e1
    | i + 2 =>
      simp only[List.getElem?_cons_succ,List.getElem?_replicate] at e1
      split at e1<;>cases e1
  · intro i j c t hij e1
    match i with
    |0=>simp at e1
    |1=>simp at e1
    | i + 2 =>
      simp only[List.getElem?_cons_succ,List.getElem?_replicate] at e1
      split at e1<;>cases e1
theorem Ev.WG{G:Gx}{i:Nat}{a:Addr}{ns:List Int}{K:PySem.W.Frag}(e:ρ[i]?=some (.raw (.ref a)))(hS:aR K G.H0 a (ns.map V.int))(h:Φ true (.int ns.length)):Ev G ρ (dh (cC K) (aV (aZ i) bz)) Φ:=fun nb σ H Q W z=>by
 obtain⟨x,e1,h1⟩:=W.ok i _ e
 have h1:x=some (.ref a):=h1
 subst h1
 have hS':aR K H a (ns.map V.int):=by
  rcases hS with hr|hk
  ·have hn:NB G.B a:=fun b l hb z=>by
    subst z
    obtain⟨_,_,_,_,_,g1,_⟩:=W.gB _ _ hb
    rcases hr with hr|⟨o,hr⟩
    ·rw[g1] at hr
     have:=HO.lst.inj (Option.some.inj hr)
     cases ns with
     |nil=>cases this
     |cons n r=>rw[List.map_cons] at this;cases (List.cons.inj this).1
    ·rw[g1] at hr;cases hr
   rcases hr with hr|⟨o,hr⟩
   ·exact .inl (.inl (W.old _ _ hn hr))
   ·exact .inl (.inr ⟨o,W.old _ _ hn hr⟩)
  ·exact .inr hk
 refine⟨.ref a,e1,a,_,rfl, .inl hS',?_⟩
 rw[List.length_map]
 exact z true _ H _ h (.refl W.ak) (.int _)
theorem Lj{D:Ends}(h2:∀H,D.rt (.bl true) H):sA (xE b l H) {nx:=fun _=>False,rt:=fun _ d=>d= .bool true} D:=
 ⟨fun _ _ _ _ q _=>q.elim,fun _ _ _ _ q _=>q.elim,fun _ _ _ _ q _=>q.elim,fun _ _ _ f v H d q _ hv=>by subst q;unfold ah at hv;subst hv;exact h2 H,fun _ _ _ _ _ q _=>q.elim⟩
end
namespace R
theorem di{P:Int->Prop}{i:Int}(h:P i):∃j,PyData.int i= .int j/\P j:=⟨i,rfl,h⟩
theorem db{P:Bool->Prop}{i:Bool}(h:P i):∃j,PyData.bool i= .bool j/\P j:=⟨i,rfl,h⟩
theorem dl{P:List PyData->Prop}{i:List PyData}(h:P i):∃j,PyData.list i= .list j/\P j:=⟨i,rfl,h⟩
theorem dt{P:List PyData->Prop}{i:List PyData}(h:P i):∃j,PyData.tuple i= .tuple j/\P j:=⟨i,rfl,h⟩
theorem Lc{P:List PyData->Prop}{i:List PyData}(h:P i):∃j,(PyData.list i= .list j\/PyData.list i= .tuple j)/\P j:=⟨i, .inl rfl,h⟩
theorem IM{P:List PyData->Prop}{i:List PyData}(h:P i):∃j,(PyData.tuple i= .list j\/PyData.tuple i= .tuple j)/\P j:=⟨i, .inr rfl,h⟩
theorem Og{P:Bool->Prop}{i j:Int}(h:P (decide (i=j))):∃b,gE (.int i) (.int j) b/\P b:=⟨_, .ii i j,h⟩
theorem at_{ds:List PyData}{k:Int}{e:PyData}{P:PyData->Prop}(h:bF ds k=some e)(q:P e):∃e,bF ds k=some e/\P e:=⟨e,h,q⟩
theorem G5{A:Prop}(q:A):([]:List Fd).length<=10000/\A:=⟨by decide,q⟩
theorem Q4{C A:Prop}(c:C)(q:A):C/\A:=⟨c,q⟩
end R
end L2
set_option maxRecDepth 100000
set_option maxHeartbeats 1000000
namespace L2
open PySem PySem.Spec PyProof.Rows
noncomputable abbrev aq:=List (Int×Int)
noncomputable abbrev Wo:=List (Option Int)
noncomputable abbrev aT(prs:aq):PyData:= .list (prs.map pairD)
noncomputable abbrev cT(wd:Wo):PyData:= .list (wd.map br)
noncomputable abbrev dO(p n:Int)(cs:List aq):PyData:= .tuple [.int p, .int n, .list (cs.map aT)]
noncomputable def nI(prs:aq)(m:Nat):Prop:=∀pr∈prs,0<=pr.1/\pr.1<m/\Sm pr.2
noncomputable def fX(wd:Wo):Prop:=∀x,some x∈wd->Sm x
theorem ic{α β:Type}{xs:List α}(φ:α->β){k:Int}{m:Nat}(h0:0<=k)(h1:k<m)(hm:m=xs.length):∃x,xs[k.toNat]?=some x/\bF (xs.map φ) k=some (φ x):=by
 have hk:k.toNat<xs.length:=by walk_at "o"
 exact⟨xs[k.toNat],List.getElem?_eq_getElem hk,j5 h0 (by rw[List.getElem?_map,List.getElem?_eq_getElem hk];rfl)⟩
theorem fK{α β:Type}{xs:List α}{φ:α->β}{i:Nat}{d:β}(h:(xs.map φ)[i]?=some d):∃x,xs[i]?=some x/\d=φ x:=by
 rw[List.getElem?_map] at h
 obtain⟨x,hx,e⟩:=Option.map_eq_some_iff.mp h
 exact⟨x,hx,e.symm⟩
theorem take_snoc{α:Type}{xs:List α}{i:Nat}{x:α}(h:xs[i]?=some x):xs.take (i+1)=xs.take i++[x]:=by
 rw[List.take_add_one,h];rfl
theorem nj(o:Option Int):oz (br o)=o.isNone:=by cases o<;>rfl
end L2
set_option maxRecDepth 100000
set_option maxHeartbeats 4000000
namespace L2
open PySem PySem.Spec PyProof.Rows
structure Eu(p b L lt r t:Int):Prop where
 l0:0<L
 r0:0<=r
 lp:L<=p
 rp:r<=p
 lc:∃k,L=lt*b+p*k
 rc:∃k,r=t*b+p*k
 dv:∀d,d∣L->d∣r->d∣p/\d∣b%p
 sz:(t.natAbs:Int)*L+(lt.natAbs:Int)*r<=p
theorem Eu.start{p b:Int}(hp:2<=p):Eu p b p 0 (b%p) 1:=by
 have m1:=Int.emod_nonneg b (show p≠0 by walk_at "o")
 have m2:=Int.emod_lt_of_pos b (show 0<p by walk_at "o")
 refine⟨by walk_at "o",m1,Int.le_refl _,by walk_at "o",⟨1,by rw[Int.zero_mul,Int.zero_add,Int.mul_one]⟩,⟨-(b/p),?_⟩,fun d h1 h2=>⟨h1,h2⟩,?_⟩
 ·have:=Int.mul_ediv_add_emod b p
  rw[Int.one_mul,Int.mul_neg]
  walk_at "o"
 ·show(1:Int)*p+0*(b%p)<=p
  rw[Int.one_mul,Int.zero_mul]
  walk_at "o"
theorem Eu.tb{p b L lt r t:Int}(h:Eu p b L lt r t): -p<=t/\t<=p:=by
 have h1:(t.natAbs:Int)*1<=(t.natAbs:Int)*L:=Int.mul_le_mul_of_nonneg_left (by have:=h.l0;walk_at "o") (by walk_at "o")
 have h2:0<=(lt.natAbs:Int)*r:=Int.mul_nonneg (by walk_at "o") h.r0
 have:=h.sz
 walk_at "o"
theorem Eu.next{p b L lt r t:Int}(h:Eu p b L lt r t)(hr:0<r):Eu p b r t (L-L/r*r) (lt-L/r*t)/\L-L/r*r<r:=by
 have e:=Int.mul_ediv_add_emod L r
 have m1:=Int.emod_nonneg L (show r≠0 by walk_at "o")
 have m2:=Int.emod_lt_of_pos L hr
 have e':L-L/r*r=L%r:=by rw[Int.mul_comm (L/r) r];walk_at "o"
 have q0:0<=L/r:=Int.ediv_nonneg (by have:=h.l0;walk_at "o") (by walk_at "o")
 obtain⟨k1,c1⟩:=h.lc
 obtain⟨k2,c2⟩:=h.rc
 refine⟨⟨hr,by walk_at "o",h.rp,by have:=h.rp;walk_at "o",h.rc,⟨k1-L/r*k2,?_⟩,fun d d1 d2=>?_,?_⟩,by walk_at "o"⟩
 ·rw[Int.sub_mul,Int.mul_sub]
  generalize L/r=q at*
  have z:q*r=q*(t*b)+q*(p*k2):=by rw[<-Int.mul_add,<-c2]
  have z1:q*(t*b)=q*t*b:=(Int.mul_assoc q t b).symm
  have z2:q*(p*k2)=p*(q*k2):=by rw[<-Int.mul_assoc,Int.mul_comm q p,Int.mul_assoc]
  walk_at "o"
 ·have dL:d∣L:=by
   have z:d∣(L-L/r*r)+L/r*r:=Int.dvd_add d2 (Int.dvd_mul_of_dvd_right d1)
   have z2:(L-L/r*r)+L/r*r=L:=by walk_at "o"
   rwa[z2] at z
  exact h.dv d dL d1
 ·generalize L/r=q at*
  have a1:((lt-q*t).natAbs:Int)<=(lt.natAbs:Int)+q*(t.natAbs:Int):=by
   have b1:(lt-q*t).natAbs<=lt.natAbs+(q*t).natAbs:=by walk_at "o"
   have b2:((q*t).natAbs:Int)=q*(t.natAbs:Int):=by
    rw[Int.natAbs_mul]
    have:(q.natAbs:Int)=q:=by walk_at "o"
    rw[Int.natCast_mul,this]
   walk_at "o"
  have a2:((lt-q*t).natAbs:Int)*r<=((lt.natAbs:Int)+q*(t.natAbs:Int))*r:=Int.mul_le_mul_of_nonneg_right a1 (by walk_at "o")
  have a3:((lt.natAbs:Int)+q*(t.natAbs:Int))*r=(lt.natAbs:Int)*r+q*(t.natAbs:Int)*r:=Int.add_mul _ _ _
  have a4:(t.natAbs:Int)*(L-q*r)=(t.natAbs:Int)*L-q*(t.natAbs:Int)*r:=by
   rw[Int.mul_sub,<-Int.mul_assoc,Int.mul_comm (t.natAbs:Int) q]
  have:=h.sz
  walk_at "o"
theorem iZ{α:Type}{us:List α}(h:us.length=1):∃a,us=[a]:=by
  cases us with
  |nil=>cases h
  | cons a us =>
    cases us with
    |nil=>exact⟨a,rfl⟩
    |cons _ _=>cases h
theorem ln2{α:Type}{us:List α}(h:us.length=2):∃a b,us=[a,b]:=by
  cases us with
  |nil=>cases h
  | cons a us =>
    obtain⟨b,rfl⟩:=iZ (us:=us) (Nat.succ.inj h)
    exact⟨a,b,rfl⟩
theorem iG{α:Type}{us:List α}(h:us.length=3):∃a b c,us=[a,b,c]:=by
  cases us with
  |nil=>cases h
  | cons a us =>
    obtain⟨b,c,rfl⟩:=ln2 (us:=us) (Nat.succ.inj h)
    exact⟨a,b,c,rfl⟩
theorem vo{α:Type}{us:List α}(h:us.length=4):∃a b c d,us=[a,b,c,d]:=by
  cases us with
  |nil=>cases h
  | cons a us =>
    obtain⟨b,c,d,rfl⟩:=iG (us:=us) (Nat.succ.inj h)
    exact⟨a,b,c,d,rfl⟩
theorem yj{α:Type}{us:List α}(h:us.length=5):∃a b c d e,us=[a,b,c,d,e]:=by
  cases us with
  |nil=>cases h
  | cons a us =>
    obtain⟨b,c,d,e,rfl⟩:=vo (us:=us) (Nat.succ.inj h)
    exact⟨a,b,c,d,e,rfl⟩
end L2
set_option maxRecDepth 100000
set_option maxHeartbeats 1000000
namespace L2
open PySem PySem.Spec PyProof.Rows
noncomputable def ir(xs:Array Nat):Prop:=∀(i j x y:Nat),i<j->xs[i]?=some x->xs[j]?=some y->x<y
theorem Qu{xs:Array Nat}{q:Nat}(hr:ir xs):∀(f lo hi:Nat),hi<=xs.size->lo<=hi->hi-lo<=f->(∀i x,i<lo->xs[i]?=some x->x<q)->(∀i x,hi<=i->xs[i]?=some x->q<=x)->
    lo<=SetTable.below.go xs q f lo hi/\SetTable.below.go xs q f lo hi<=hi/\(∀i x,i<SetTable.below.go xs q f lo hi->xs[i]?=some x->x<q)/\(∀i x,SetTable.below.go xs q f lo hi<=i->xs[i]?=some x->q<=x):=by
  intro f
  induction f with
  | zero =>
    intro lo hi h1 h2 h3 h4 h5
    have e:lo=hi:=by walk_at "o"
    subst e
    exact⟨Nat.le_refl _,Nat.le_refl _,h4,h5⟩
  | succ f ih =>
    intro lo hi h1 h2 h3 h4 h5
    unfold SetTable.below.go
    by_cases hlt:lo<hi
    · rw[if_pos hlt]
      have hm:(lo+hi)/2<xs.size:=by walk_at "o"
      have hg:xs[(lo+hi)/2]?=some xs[(lo+hi)/2]:=Array.getElem?_eq_getElem hm
      have hgd:xs.getD ((lo+hi)/2) q=xs[(lo+hi)/2]:=by rw[Array.getD_eq_getD_getElem?,hg];rfl
      dsimp only
      rw[hgd]
      by_cases hc:xs[(lo+hi)/2]<q
      · rw[if_pos hc]
        obtain⟨a1,a2,a3,a4⟩:=ih ((lo+hi)/2+1) hi h1 (by walk_at "o") (by walk_at "o") (fun i x hi' e=>by
          rcases Nat.lt_or_ge i ((lo+hi)/2) with z|z
          · exact Nat.lt_trans (hr i _ x _ z e hg) hc
          · have:i=(lo+hi)/2:=by walk_at "o"
            subst this;rw[hg] at e;cases e;exact hc) h5
        exact⟨by walk_at "o",a2,a3,a4⟩
      · rw[if_neg hc]
        obtain⟨a1,a2,a3,a4⟩:=ih lo ((lo+hi)/2) (by walk_at "o") (by walk_at "o") (by walk_at "o") h4 (fun i x hi' e=>by
          rcases Nat.lt_or_ge ((lo+hi)/2) i with z|z
          · exact Nat.le_of_lt (Nat.lt_of_le_of_lt (Nat.le_of_not_lt hc) (hr _ i _ x z hg e))
          · have:i=(lo+hi)/2:=by walk_at "o"
            subst this;rw[hg] at e;cases e;exact Nat.le_of_not_lt hc)
        exact⟨a1,by walk_at "o",a3,a4⟩
    · rw[if_neg hlt]
      have e:lo=hi:=by walk_at "o"
      subst e
      exact⟨Nat.le_refl _,Nat.le_refl _,h4,h5⟩
theorem below_at{xs:Array Nat}{q:Nat}(hr:ir xs):SetTable.below xs q<=xs.size/\(∀i x,i<SetTable.below xs q->xs[i]?=some x->x<q)/\(∀i x,SetTable.below xs q<=i->xs[i]?=some x->q<=x):=by
 obtain⟨_,h2,h3,h4⟩:=Qu (q:=q) hr xs.size 0 xs.size (Nat.le_refl _) (Nat.zero_le _) (by walk_at "o") (fun i x h=>absurd h (Nat.not_lt_zero _)) (fun i x h e=>by
  have:=(Array.getElem?_eq_some_iff.mp e).1;walk_at "o")
 exact⟨h2,h3,h4⟩
theorem LV{α:Type}{xs:Array α}{p:Nat}{x:α}(hp:p<=xs.size)(i:Nat):(SetTable.insertAt xs p x)[i]?=if i<p then xs[i]? else if i=p then some x else xs[i-1]?:=by
 unfold SetTable.insertAt
 rw[Array.getElem?_append]
 have e1:((xs.extract 0 p).push x).size=p+1:=by rw[Array.size_push,Array.size_extract];walk_at "o"
 rw[e1]
 by_cases h1:i<p
 ·rw[if_pos (show i<p+1 by walk_at "o"),if_pos h1,Array.getElem?_push,if_neg (by rw[Array.size_extract];walk_at "o"),Array.getElem?_extract_of_lt (by walk_at "o")]
  simp
 ·rw[if_neg h1]
  by_cases h2:i=p
  ·rw[if_pos (show i<p+1 by walk_at "o"),if_pos h2,Array.getElem?_push,if_pos (by rw[Array.size_extract];walk_at "o")]
  ·rw[if_neg (show¬i<p+1 by walk_at "o"),if_neg h2]
   by_cases h3:i-(p+1)<xs.size-p
   ·rw[Array.getElem?_extract_of_lt (by walk_at "o"),<-Array.getElem?_eq_getElem,show p+(i-(p+1))=i-1 by walk_at "o"]
   ·rw[Array.getElem?_eq_none (by rw[Array.size_extract];walk_at "o"),Array.getElem?_eq_none (by walk_at "o")]
theorem ir.insert{xs:Array Nat}{q:Nat}(hr:ir xs)(hq:xs[SetTable.below xs q]?≠some q):ir (SetTable.insertAt xs (SetTable.below xs q) q):=by
 obtain⟨h1,h2,h3⟩:=below_at (q:=q) hr
 have h3':∀i x,SetTable.below xs q<=i->xs[i]?=some x->q<x:=fun i x hi e=>by
  rcases Nat.lt_or_eq_of_le (h3 i x hi e) with z|z
  ·exact z
  ·subst z
   rcases Nat.lt_or_eq_of_le hi with z|z
   ·have hb:SetTable.below xs q<xs.size:=Nat.lt_of_lt_of_le z (Nat.le_of_lt (Array.getElem?_eq_some_iff.mp e).1)
    have hg:xs[SetTable.below xs q]?=some xs[SetTable.below xs q]:=Array.getElem?_eq_getElem hb
    have:=hr _ i _ q z hg e
    have:=h3 _ _ (Nat.le_refl _) hg
    walk_at "o"
   ·rw[<-z] at e;exact absurd e hq
 intro i j x y hij ex ey
 rw[LV h1] at ex ey
 by_cases a:i<SetTable.below xs q
 ·rw[if_pos a] at ex
  by_cases b:j<SetTable.below xs q
  ·rw[if_pos b] at ey;exact hr i j x y hij ex ey
  ·rw[if_neg b] at ey
   by_cases c:j=SetTable.below xs q
   ·rw[if_pos c] at ey;cases ey;exact h2 i x a ex
   ·rw[if_neg c] at ey;exact hr i (j-1) x y (by walk_at "o") ex ey
 ·rw[if_neg a] at ex
  by_cases c:i=SetTable.below xs q
  ·rw[if_pos c] at ex;cases ex
   rw[if_neg (by walk_at "o"),if_neg (by walk_at "o")] at ey
   exact h3' (j-1) y (by walk_at "o") ey
  ·rw[if_neg c] at ex
   rw[if_neg (by walk_at "o"),if_neg (by walk_at "o")] at ey
   exact hr (i-1) (j-1) x y (by walk_at "o") ex ey
theorem Qs{t:SetTable}{ha:Nat->Int}{h:Int}:∀(f:Nat) (p:SetTable.Probe) (j:Nat) (dm:Option Nat),(∀d,p.dummy=some d->t.slot d= .dummy)->SetTable.probe.go t ha h f p=some (.empty j dm)->t.slot j= .empty/\∀d,dm=some d->t.slot d= .dummy:=by
  intro f
  induction f with
  |zero=>intro p j dm _ e;unfold SetTable.probe.go at e;cases e
  | succ f ih =>
    intro p j dm hd e
    have zY:∀p:SetTable.Probe,(t.advance p).dummy=p.dummy:=fun p=>by unfold SetTable.advance;split<;>rfl
    unfold SetTable.probe.go at e
    cases hs:t.slot p.j with
    |empty=>rw[hs] at e;cases e;exact⟨hs,hd⟩
    |dummy=>rw[hs] at e;exact ih _ j dm (fun d h'=>by rw[zY] at h';cases h';exact hs) e
    | live i =>
      rw[hs] at e
      dsimp only at e
      split at e
      · cases e
      · exact ih _ j dm (fun d h'=>by rw[zY] at h';exact hd d h') e
theorem z7{t:SetTable}{h:Int}{j:Nat}{wd:Bool}(e:t.freeSlot h=some (j,wd)):∀i,t.slot j≠ .live i:=by
 unfold SetTable.freeSlot SetTable.probe at e
 intro i z
 split at e
 ·rename_i j0 dm he
  obtain⟨h1,h2⟩:=Qs (10*SetTable.turns t.mask) (t.probeStart h) j0 dm (fun d h'=>by unfold SetTable.probeStart at h';cases h') he
  cases dm with
  |none=>cases e;simp at z;rw[h1] at z;cases z
  |some d=>cases e;simp at z;rw[h2 d rfl] at z;cases z
 ·cases e
structure cM(bt:Bool)(t:SetTable):Prop where
 led:bt=false->t.led=true
 xD:t.plain=true->ir t.place
theorem cM.standIn{bt:Bool}{t:SetTable}(h:cM bt t)(n:Nat):cM bt (t.standIn n):=⟨h.led,fun z=>by cases z⟩
theorem cM.off{bt:Bool}{t:SetTable}(h:cM bt t):cM bt {t with plain:=false}:=⟨h.led,fun z=>by cases z⟩
theorem cM.put{bt:Bool}{t:SetTable}{j:Nat}(h:cM bt t)(hj:∀i,t.slot j≠ .live i):cM bt (t.put j).1:=by
 refine⟨h.led,fun z=>?_⟩
 refine ir.insert (h.xD z) fun e=>hj (SetTable.below t.place j) ?_
 unfold SetTable.slot
 dsimp only
 rw[if_pos (by rw[e];exact beq_self_eq_true _)]
theorem cM.layNew{bt:Bool}{t:SetTable}{es:Array (Int×Value)}{h:Int}{x:Value}(ok:cM bt t):cM bt (layNew t es h x).2.1:=by
 unfold PySem.layNew
 split
 ·rename_i slot wd e
  dsimp only
  unfold SetTable.orStandIn
  split
  ·exact ok.put (z7 e)
  ·exact(ok.put (z7 e)).standIn _
 ·exact ok.standIn _
theorem Mn(n:Nat)(φ:Nat->Option Nat):ir (((List.range n).filterMap fun j=>(φ j).map (j,·)).map (·.1)).toArray:=by
  have hp:(((List.range n).filterMap fun j=>(φ j).map (j,·)).map (·.1)).Pairwise (· < ·):=by
    have hs:List.Sublist (((List.range n).filterMap fun j=>(φ j).map (j,·)).map (·.1)) (List.range n):=by
      induction List.range n with
      |nil=>simp
      | cons a r ih =>
        rw[List.filterMap_cons]
        cases φ a with
        |none=>exact ih.cons a
        |some y=>exact ih.cons₂ a
    exact List.pairwise_lt_range.sublist hs
  intro i j x y hij ex ey
  rw[List.getElem?_toArray] at ex ey
  obtain⟨hi,rfl⟩:=List.getElem?_eq_some_iff.mp ex
  obtain⟨hj,rfl⟩:=List.getElem?_eq_some_iff.mp ey
  exact List.pairwise_iff_getElem.mp hp i j hi hj hij
theorem cM.JB{bt:Bool}{t:SetTable}{es:Array (Int×Value)}{n:Nat}(ok:cM bt t):cM bt (relayAll t es n).2.1:=by
  unfold relayAll
  split
  · rename_i t' order e
    dsimp only
    split
    · unfold SetTable.relaid SetTable.laid at e
      cases hl:SetTable.layClean (SetTable.sizeAbove n-1) (es.map (·.1)) with
      |none=>rw[hl] at e;cases e
      | some owner =>
        rw[hl] at e
        cases e
        exact⟨ok.led,fun _=>Mn _ _⟩
    · exact ok.standIn _
  · exact ok.standIn _
theorem cM.fresh{bt:Bool}:cM bt (.fresh 0 0 (!bt)):=⟨fun h=>by rw[h];rfl,fun _ i j x y _ e=>by simp[SetTable.fresh] at e⟩
end L2
set_option maxRecDepth 100000
set_option maxHeartbeats 4000000
namespace L2
open PySem PySem.Spec PyProof.Rows
noncomputable def eE(bt:Bool)(h:Heap)(a:Addr):Prop:=∀o es ep t,h.get? a=some o->o.data= .set es ep t->cM bt t
theorem eE.of{bt:Bool}{h:Heap}{a:Addr}{o:Obj}{es:Array (Int×Value)}{ep:Nat}{t:SetTable}(e:h.get? a=some o)(d:o.data= .set es ep t)(k:cM bt t):eE bt h a:=fun o' es' qg t' e' d'=>by
 rw[e] at e';cases e';rw[d] at d';cases d';exact k
theorem eE.keep{bt:Bool}{h h':Heap}{a:Addr}{o:Obj}(k:eE bt h a)(e:h.get? a=some o)(e':h'.get? a=some o):eE bt h' a:=fun o1 es ep t x d=>by
 rw[e'] at x;cases x;exact k o es ep t e d
section
variable{prog:Program}{w:World}{A:Around}{E:Value->Shared->Prop}{s:Shared}{a:Addr}{bt:Bool}
noncomputable abbrev IK(prog:Program)(w:World):=intKind prog w
theorem Ct{o:Obj}{es es':Array (Int×Value)}{ep:Nat}{t t':SetTable}{T:Int->Bool}{h:Heap}(g1:h.get? a=some o)(g2:o.ExactSet)(g3:o.data= .set es ep t)(l1:ElemsOf (IK prog w) es'.toList)
  (l2:∀k,T k=true↔∃e∈es'.toList,(IK prog w).is k e.2=true) (l3:es'.size<scanBound) (l4:t'.fits es'.size=true) (tk:cM bt t'):
  (∃o',(h.update a (Obj.putSet es' t')).get? a=some o'/\o'.ExactSet/\o'.data= .set es' (ep+1) t')/\(h.update a (Obj.putSet es' t')).SetOf (IK prog w) a T es'.size/\eE bt (h.update a (Obj.putSet es' t')) a:=by
 obtain⟨q1,q2⟩:=SetOf_store (knd:=IK prog w) (es':=es') (t':=t') (S':=T) g1 g2 g3 l1 l2 l3 l4
 exact⟨⟨_,q1,g2,rfl⟩,q2, .of q1 rfl tk⟩
theorem Cy{gg:Bool->Sem Unit}(Gz:∀(b:Bool) (s₁:Shared) (Q₁:Unit->Shared->Prop),Q₁ () s₁->wpAny (model prog w) A (gg b) Q₁ E s₁){o:Obj}{es:Array (Int×Value)}{ep:Nat}{t:SetTable}
    (g1:s.heap.get? a=some o) (g2:o.ExactSet) (g3:o.data= .set es ep t) {es1:Array (Int×Value)} {t2:SetTable} {T:Int->Bool} (l1:ElemsOf (IK prog w) es1.toList) (l2:∀k,T k=true↔∃e∈es1.toList,(IK prog w).is k e.2=true)
    (l3:es1.size<scanBound) (l4:t2.fits es1.size=true) (tk:cM bt t2) {wd:Bool} {R:Option Bool->Shared->Prop}
    (fin:∀h',Heap.SameBut a s.heap h'->h'.SetOf (IK prog w) a T es1.size->eE bt h' a->R (some true) {s with heap:=h'}):
    wpAny (model prog w) A (do storeSet a es1 t2
                               if(!wd && t2.tooFull)=true then do
                                 gg (relayAll t2 es1 (SetTable.grown es1.size)).2.2
                                 storeSet a (relayAll t2 es1 (SetTable.grown es1.size)).1 (relayAll t2 es1 (SetTable.grown es1.size)).2.1
                                 pure (some true)
                               else pure (some true)) R E s:=by
  obtain⟨⟨o1,k1,k2,k3⟩,q1,q2⟩:=Ct (T:=T) g1 g2 g3 l1 l2 l3 l4 tk
  have sb:=Heap.SameBut.update s.heap a (Obj.putSet es1 t2)
  refine wpAny_bind (wpAny_storeSet_of g1 g3 ?_ (fits_of_scanBound l3))
  by_cases c:(!wd && t2.tooFull)=true
  · rw[if_pos c]
    have pp:=relayAll_perm t2 es1 (SetTable.grown es1.size)
    have pf:=relayAll_fits t2 es1 (SetTable.grown es1.size)
    have pt:=tk.JB (es:=es1) (n:=SetTable.grown es1.size)
    generalize relayAll t2 es1 (SetTable.grown es1.size)=Z at pp pf pt⊢
    obtain⟨AL,t3,Ij⟩:=Z
    dsimp only at pp pf pt⊢
    have sz:AL.size=es1.size:=by have:=pp.length_eq;rwa[Array.length_toList,Array.length_toList] at this
    have Ur:∀k,T k=true↔∃e∈AL.toList,(IK prog w).is k e.2=true:=fun k=>(l2 k).trans ⟨fun⟨e,m,z⟩=>⟨e,pp.mem_iff.mpr m,z⟩,fun⟨e,m,z⟩=>⟨e,pp.mem_iff.mp m,z⟩⟩
    obtain⟨_,r1,r2⟩:=Ct (T:=T) k1 k2 k3 (l1.perm pp) Ur (by rw[sz];exact l3) pf pt
    refine wpAny_bind (Gz _ _ _ (wpAny_bind (wpAny_storeSet_of k1 k3 ?_ (fits_of_scanBound (by rw[sz];exact l3)))))
    rw[sz] at r1
    exact wpAny_pure (fin _ (sb.trans (Heap.SameBut.update _ a _)) r1 r2)
  · rw[if_neg c]
    exact wpAny_pure (fin _ sb q1 q2)
theorem UE{S:Int->Bool}{n:Nat}{k:Int}{x:Value}{Q:Bool->Shared->Prop}(hx:(IK prog w).is k x=true)(sc:x.scannable=true)(hS:s.heap.SetOf (IK prog w) a S n)(hT:eE bt s.heap a)(room:n+1<scanBound)
    (fin:∀h',Heap.SameBut a s.heap h'->h'.SetOf (IK prog w) a (fun j=>S j||decide (j=k)) (if S k then n else n+1)->eE bt h' a->Q (!S k) {s with heap:=h'}):
    wpAny (model prog w) A (setAddHashed a x ((IK prog w).hash k)) Q E s:=by
  obtain⟨o,es,ep,t,g1,g2,g3,l1,l2,l3,l4,sz⟩:=hS
  have tk:=hT o es ep t g1 g3
  unfold setAddHashed setAddHashedIn
  refine wpAny_holding (wpAny_bind (wpAny_setState_of g1 g3 l4 ?_))
  dsimp only
  rw[if_pos (byScan_of sc l3 l1)]
  unfold setAddByScan
  refine wpAny_bind (wpAny_bind (wpAny_rule (wpAny_bind (wpAny_setScan_of hx g1 g3 l4 l1 ?_))))
  cases fr:List.findIdx? (fun e=>(IK prog w).is k e.2) es.toList with
  | some j =>
    obtain⟨hj,pj,_⟩:=List.findIdx?_eq_some_iff_getElem.mp fr
    have yes:S k=true:=(l2 k).mpr ⟨_,List.getElem_mem hj,pj⟩
    have z:=fin s.heap (.refl a s.heap) ⟨o,es,ep,t,g1,g2,g3,l1,fun j=>by
      rw[Bool.or_eq_true,decide_eq_true_eq,<-l2 j]
      exact⟨fun q=>q.elim id fun e=>e▸yes, .inl⟩,l3,l4,by rw[if_pos yes];exact sz⟩ hT
    rw[yes] at z
    exact wpAny_pure (wpAny_pure z)
  | none =>
    have no:S k=false:=by
      cases q:S k with
      |false=>rfl
      | true =>
        obtain⟨e,m,p⟩:=(l2 k).mp q
        rw[List.findIdx?_eq_none_iff.mp fr e m] at p;cases p
    have pp:=layNew_perm t es ((IK prog w).hash k) x
    have pf:=layNew_fits t es ((IK prog w).hash k) x
    have pt:=tk.layNew (es:=es) (h:=(IK prog w).hash k) (x:=x)
    dsimp only
    generalize layNew t es ((IK prog w).hash k) x=Z at pp pf pt⊢
    obtain⟨es1,t1,wd,Ij⟩:=Z
    dsimp only at pp pf pt⊢
    rw[Array.toList_push] at pp
    have jg:es1.size=n+1:=by have:=pp.length_eq;rw[List.length_append,Array.length_toList,Array.length_toList,sz] at this;exact this
    have fin':∀h',Heap.SameBut a s.heap h'->h'.SetOf (IK prog w) a (fun j=>S j||decide (j=k)) es1.size->eE bt h' a->Q true {s with heap:=h'}:=fun h' x1 x2 x3=>by
      have:=fin h' x1;rw[no,if_neg Bool.false_ne_true] at this;rw[jg] at x2;exact this x2 x3
    have gw:∀(b:Bool) (s₁:Shared) (Q₁:Unit->Shared->Prop),Q₁ () s₁->wpAny (model prog w) A (match b with|true=>rule "set.scan.the-table-gave-way" |false=>pure ()) Q₁ E s₁:=fun b s₁ Q₁ q=>by
      cases b
      · exact wpAny_pure q
      · exact wpAny_rule q
    refine wpAny_bind (gw _ _ _ ?_)
    have e1:=(l1.push hx sc).perm pp
    have e2:=mem_push_iff hx l2 pp
    have e3:es1.size<scanBound:=by rw[jg];exact room
    by_cases pl:t1.plain=true
    · rw[if_pos pl,hashByValue_scannable 8 sc]
      refine wpAny_bind (wpAny_pure ?_)
      refine Cy gw g1 g2 g3 e1 e2 e3 ?_ ?_ fun h' x1 x2 x3=>wpAny_pure (fin' h' x1 x2 x3)
      · split
        · exact pf
        · exact SetTable.fits_plain_off pf
      · split
        · exact pt
        · exact pt.off
    · rw[if_neg pl]
      refine wpAny_bind (wpAny_pure ?_)
      rw[if_pos rfl]
      exact Cy gw g1 g2 g3 e1 e2 e3 pf pt fun h' x1 x2 x3=>wpAny_pure (fin' h' x1 x2 x3)
end
end L2
set_option maxRecDepth 100000
set_option maxHeartbeats 4000000
namespace L2
open PySem PySem.Spec PyProof.Rows
section
variable{prog:Program}{w:World}{A:Around}{R:Result->Shared->Prop}{I:Addr}{fp wr:List Addr}{G:Array GenState->Array GenState->Prop}{n:Nat}{P:Nat->Value->Prop}{St:Nat->Shared->Prop}{bt:Bool}
noncomputable abbrev met(val:Nat->Int)(i:Nat):Int->Bool:=fun k=>(firstMet val i).any (· ==k)
theorem MA(W:WalksS prog w A.in1 I fp wr G n P St)(C:Addr)(nC:C∉fp)(val:Nat->Int)(hv:∀i v,P i v->∃t,v= .int (val i) t)(room:n+1<scanBound)(fuel:Nat):
    ∀(i:Nat) (s:Shared),n-i=fuel->i<=n->St i s->s.heap.SetOf (IK prog w) C (met val i) (firstMet val i).length->eE bt s.heap C->
      (∀s',Moved (C::wr) G s s'->s'.heap.SetOf (IK prog w) C (met val n) (firstMet val n).length->eE bt s'.heap C->R (.ok (.ret .none)) s')->
      codeAny (model prog w) A (.builtin "set.update.loop" ⟨[.ref C, .ref I],[]⟩) R s:=by
  have nw:C∉wr:=fun z=>nC (W.sub _ z)
  have up:∀b∈wr,b∈C::wr:=fun b z=>List.mem_cons_of_mem _ z
  have mv:∀{s s':Shared} {T:Int->Bool} {m:Nat},Moved wr G s s'->s.heap.SetOf (IK prog w) C T m->eE bt s.heap C->s'.heap.SetOf (IK prog w) C T m/\eE bt s'.heap C:=fun mo q tt=>by
    obtain⟨o,es,ep,t,ho,r⟩:=q
    exact⟨⟨o,es,ep,t,mo.heap C _ nw ho,r⟩,tt.keep ho (mo.heap C _ nw ho)⟩
  induction fuel with
  | zero =>
    intro i s e1 e2 st q tt fin
    obtain rfl:i=n:=by walk_at "o"
    refine codeAny_builtin F.entry_set_update_loop ?_
    rw[Around.under_plainId F.plain_set_update_loop _]
    refine wpAny_bind (W.done s _ _ st fun s' mo=>?_)
    exact wpAny_pure (fin s' (mo.mono up) (mv mo q tt).1 (mv mo q tt).2)
  | succ fuel ih =>
    intro i s e1 e2 st q tt fin
    have lt:i<n:=by walk_at "o"
    refine codeAny_builtin F.entry_set_update_loop ?_
    rw[Around.under_plainId F.plain_set_update_loop _]
    refine wpAny_bind (W.item i s _ _ lt st fun v s' hP st' mo=>?_)
    obtain⟨tok,rfl⟩:=hv i v hP
    obtain⟨q',O0⟩:=mv mo q tt
    show wpAny _ A.in1 (holding [Value.int (val i) tok] (setAdd C (.int (val i) tok))>>=_) _ _ s'
    unfold setAdd
    refine wpAny_bind (wpAny_holding (wpAny_holding (wpAny_bind ((IK prog w).pyHash (k:=val i) (intKind_is _ _ _ _) ?_))))
    refine UE (bt:=bt) (s:={s' with toks:=s'.toks+1}) (intKind_is _ _ _ _) rfl q' O0 (by have:=firstMet_length_le val i;walk_at "o") fun h' sb q2 Rg=>?_
    have q3:h'.SetOf (IK prog w) C (met val (i+1)) (firstMet val (i+1)).length:=SetOf_congr q2 (fun j=>by unfold met;rw[firstMet_succ,step_any]) (by rw[firstMet_succ,step_length])
    refine wpAny_pure ⟨plainId_quiet F.plain_set_update_loop _,ih (i+1) _ (by walk_at "o") lt (W.frame _ s' _ _ st' (Nat.le_succ _) fun b hb o e=>?_) q3 Rg fun s2 PZ q4 Nv=>?_⟩
    · rw[sb.2 b fun z:b=C=>nC (z▸hb)];exact e
    · refine fin s2 (Moved.trans W.gtrans ((mo.mono up).then_heap (Nat.le_succ _) fun b o hb e=>?_) PZ) q4 Nv
      rw[sb.2 b fun z:b=C=>hb (z▸List.mem_cons_self)];exact e
end
section
variable{prog:Program}{w:World}{A:Around}{E:Value->Shared->Prop}{s:Shared}
noncomputable abbrev dI(w:World):Bool:=w.params.followText "set-order"
noncomputable abbrev iJ(w:World):Obj:={cls:= .type "set",dict:=none,data:= .set #[] 0 (.fresh 0 0 (!dI w))}
theorem MW(a:Value){Q₁:Value->Shared->Prop}(fin:Q₁ (.ref s.heap.objs.size) {s with heap:=s.heap.push (iJ w)}):codeAny (model prog w) A (.call (.builtin "set.__new__") ⟨[.type "set",a],[]⟩) (wants Q₁ E) s:=by
 refine codeAny_of_tree ?_
 show wpAny _ A.in1 (do checkBuiltinCall "set.__new__" ⟨[.type "set",a],[]⟩;again (.builtin "set.__new__" ⟨[.type "set",a],[]⟩)) _ _ s
 refine wpAny_bind (wpAny_of_eq (F.newCall_set_1 a) (wpAny_pure ⟨plainId_quiet F.plain_set_new _,codeAny_builtin F.entry_set_new ?_⟩))
 rw[Around.under_plainId F.plain_set_new _]
 unfold Builtin.«set.__new__» Builtin.Frozenset.newClass
 have hsub:=sub_set_self
 obtain⟨hp,g,d,tk,os⟩:=s
 dsimp only at fin⊢
 wp_walk
 refine wpAny_askSetting (wpAny_pure ?_)
 dsimp only
 simp only[newObj]
 exact wpAny_bind (wpAny_alloc (wpAny_pure (wpAny_pure fin)))
theorem Me{l:Addr}{items:Array Value}{ns:List Int}{Q:Value->Shared->Prop}(hh:A.handled=none)(hl:s.heap.IsList l items)(hi:IntsAre items.toList ns)(room:items.size+1<scanBound)
    (fin:∀(h':Heap) (tk:Nat),h'.SetOf (IK prog w) s.heap.objs.size (met (fun i=>ns.getD i 0) items.size) (firstMet (fun i=>ns.getD i 0) items.size).length->eE (dI w) h' s.heap.objs.size->
      (∀b o,b<s.heap.objs.size->s.heap.get? b=some o->h'.get? b=some o)->Q (.ref s.heap.objs.size) {s with heap:=h',toks:=tk}):wpAny (model prog w) A (call (.type "set") [.ref l]) Q E s:=by
  obtain⟨c,tl,We⟩:=F.called_set.mro
  have hmade:=F.called_set.made
  have hsub:=F.called_set.sub
  have h1:=F.called_set.notType
  have h2:=F.called_set.canCreate
  have hct:=F.typeCall_set_1 (.ref l)
  refine wpAny_call (codeAny_of_tree ?_)
  show wpAny _ _ (callAny (.type "set") _) _ _ _
  refine wpAny_pure ⟨Code.quiet_builtin _ (by decide+kernel),codeAny_builtin F.entry_type_call ?_⟩
  rw[Around.under_plain (weight_type_call_type "set" [.ref l] []) rfl]
  repeat (any_goals (first|assumption|wp_step))
  refine codeAny_mono (MW (.ref l) (E:=E) (Q₁:=fun obj s₁=>obj= .ref s.heap.objs.size/\s₁={s with heap:=s.heap.push (iJ w)}) ⟨rfl,rfl⟩) fun r s₁ hr=>?_
  cases r with
  |error e=>exact hr
  | ok fl =>
    cases fl with
    | ret obj =>
      obtain⟨rfl,rfl⟩:=hr
      have hS:(s.heap.push (iJ w)).get? s.heap.objs.size=some (iJ w):=Heap.get?_push_size _ rfl
      have hT:Shared.TypeIs {s with heap:=s.heap.push (iJ w)} (.ref s.heap.objs.size) "set":=⟨_,hS,rfl⟩
      have hli:=F.called_set.init.lookup
      have hbi:=F.called_set.init.bind (.ref s.heap.objs.size)
      repeat (any_goals (first|assumption|wp_step))
      refine codeAny_mono (codeAny_call_builtin (R:=wants (fun r s₂=>r= .none/\∃h' tk,s₂={s with heap:=h',toks:=tk}/\h'.SetOf (IK prog w) s.heap.objs.size (met (fun i=>ns.getD i 0) items.size) (firstMet (fun i=>ns.getD i 0) items.size).length/\eE (dI w) h' s.heap.objs.size/\
          (∀b o,b<s.heap.objs.size->s.heap.get? b=some o->h'.get? b=some o)) E) F.called_set.init.plain F.entry_set_init (check_set_init_1 hT ?_)) fun r₂ s₂ u7=>?_
      · obtain⟨ol,jD,hcl,nl,hdl⟩:=hl
        obtain⟨WK,Wb,Wi,Wy⟩:=ol
        simp only at hcl hdl
        subst hcl;subst hdl
        have Pn:=Heap.get?_push_of_some (iJ w) jD
        have WX:=F.sub_list_set
        have Wc:=F.sub_list_frozenset
        have hne:(Value.type "list"==Value.type "dict")=false:=by decide
        have hl1:(s.heap.push (iJ w)).IsList l items:=⟨_,Pn,rfl,nl,rfl⟩
        unfold Builtin.«set.__init__» noKeywords Builtin.Frozenset.updateFrom
        generalize PL:pyIter=PI
        wp_walk
        subst PL
        refine wpAny_pyIter_list hl1 (wpAny_bind (wpAny_runValue ?_))
        have hlS:l<s.heap.objs.size:=Heap.lt_size jD
        have jg:(s.heap.push (iJ w)).objs.size=s.heap.objs.size+1:=Heap.size_push ..
        have n1:l≠(s.heap.push (iJ w)).objs.size:=by rw[jg];exact Nat.ne_of_lt (Nat.lt_succ_of_lt hlS)
        have n2:s.heap.objs.size∉[(s.heap.push (iJ w)).objs.size,l]:=by
          rw[jg];intro z;rcases List.mem_cons.mp z with z|z
          · exact absurd z (Nat.ne_of_lt (Nat.lt_succ_self _))
          · exact absurd (List.mem_singleton.mp z) (Nat.ne_of_gt hlS)
        have h3:A.in1.in1.in1.handled=none:=by simp[hh]
        have hS':=Heap.get?_push_of_some ({cls:= .type "list_iterator",data:= .fields #[.ref l, .int 0 0]}:Obj) hS
        refine MA (bt:=dI w) ((Walks.list h3 _ l n1 items).toS) s.heap.objs.size n2 (fun i=>ns.getD i 0) (fun i v e=>IntsAre.int_at hi i v (by rw[Array.getElem?_toList];exact e)) room (items.size-0) 0 _ (by walk_at "o") (Nat.zero_le _)
          ⟨⟨_,Heap.get?_push_size _ rfl,rfl,rfl⟩,(hl1.push _)⟩ (SetOf_congr ((setObjOf_fresh (knd:=IK prog w) (!dI w)).setOf hS' (by unfold scanBound;walk_at "o")) (fun _=>rfl) rfl) (.of hS' rfl .fresh) ?_
        intro s' mo q tt
        obtain⟨h',g',d',tk',os'⟩:=s'
        obtain rfl:g'=s.gens:=mo.gens
        obtain rfl:d'=s.drawn:=mo.drawn
        obtain rfl:os'=s.os:=mo.os
        refine wpAny_pure (wpAny_pure ⟨rfl,h',tk',rfl,q,tt,fun b o hb e=>?_⟩)
        refine mo.heap b o (fun z=>?_) (Heap.get?_push_of_some _ (Heap.get?_push_of_some _ e))
        rcases List.mem_cons.mp z with z|z
        · exact absurd z (Nat.ne_of_lt hb)
        · rw[jg] at z;exact absurd (List.mem_singleton.mp z) (Nat.ne_of_lt (Nat.lt_succ_of_lt hb))
      · cases r₂ with
        |error e=>exact u7
        | ok fl₂ =>
          cases fl₂ with
          | ret r =>
            obtain⟨rfl,h',tk,rfl,q1,q2,q3⟩:=u7
            repeat (any_goals (first|assumption|wp_step))
            exact fin _ _ q1 q2 q3
          |_=>exact u7.elim
    |_=>exact hr.elim
end
end L2
set_option maxRecDepth 100000
set_option maxHeartbeats 4000000
namespace L2
open PySem PySem.Spec PyProof.Rows
theorem gn:Slot "set_iterator" "__next__" "set_iterator.__next__":= .of (owner:="set_iterator") (n:="__next__") (by rw[typeLookup_type,builtinLookup_eq_fast];kernel_rfl) (by decide+kernel) (by decide+kernel) (by decide+kernel) (by first|exact .inl (by decide+kernel)|exact .inr (by decide+kernel)) (by rw[isSubtype_type];kernel_rfl)
theorem pH:entryFor table "set_iterator.__next__"=some Builtin.«set_iterator.__next__» :=entryFor_of_tree (by kernel_rfl)
theorem rK(a:Value):argsOk "set_iterator.__next__" ⟨[a],[]⟩:=by unfold argsOk;kernel_rfl
theorem Bu:Slot "set" "__iter__" "set.__iter__":= .of (owner:="set") (n:="__iter__") (by rw[typeLookup_type,builtinLookup_eq_fast];kernel_rfl) (by decide+kernel) (by decide+kernel) (by decide+kernel) (by first|exact .inl (by decide+kernel)|exact .inr (by decide+kernel)) (by rw[isSubtype_type];kernel_rfl)
theorem JH:entryFor table "set.__iter__"=some Builtin.«frozenset.__iter__» :=entryFor_alias (id':="frozenset.__iter__") (by kernel_rfl) rfl (by decide+kernel) (by kernel_rfl)
theorem Nm(a:Value):argsOk "set.__iter__" ⟨[a],[]⟩:=by unfold argsOk;kernel_rfl
theorem kO:Slot "set_iterator" "__iter__" "set_iterator.__iter__":= .of (owner:="set_iterator") (n:="__iter__") (by rw[typeLookup_type,builtinLookup_eq_fast];kernel_rfl) (by decide+kernel) (by decide+kernel) (by decide+kernel) (by first|exact .inl (by decide+kernel)|exact .inr (by decide+kernel)) (by rw[isSubtype_type];kernel_rfl)
theorem vQ:entryFor table "set_iterator.__iter__"=some Builtin.«dict_keyiterator.__iter__» :=entryFor_alias (id':="dict_keyiterator.__iter__") (by kernel_rfl) rfl (by decide+kernel) (by kernel_rfl)
theorem vH(a:Value):argsOk "set_iterator.__iter__" ⟨[a],[]⟩:=by unfold argsOk;kernel_rfl
end L2
set_option maxRecDepth 100000
set_option maxHeartbeats 4000000
namespace L2
open PySem PySem.Spec PyProof.Rows
section
variable{prog:Program}{w:World}{A:Around}{E:Value->Shared->Prop}{s:Shared}{a it tp:Addr}{o:Obj}{es:Array (Int×Value)}{ep:Nat}{t:SetTable}
theorem uR{α:Type}:∀{l:List α} {i:Nat} (h:i<l.length),(l[i]::l.eraseIdx i).Perm l
  |b::r,0,_=>by simp
  | b :: r, i + 1, h => by
    have:=uR (l:=r) (i:=i) (by simpa using h)
    simp only[List.getElem_cons_succ,List.eraseIdx_cons_succ]
    exact(List.Perm.swap b _ _).trans (this.cons b)
theorem sF{α:Type}(nx:Nat->Nat):∀(f k:Nat) (l:List α) (out:Array α),l.length<=f->(pickOrder.go nx f k l out).toList.Perm (out.toList++l):=by
  intro f
  induction f with
  | zero =>
    intro k l out h
    have:l=[]:=List.length_eq_zero_iff.mp (by walk_at "o")
    subst this
    unfold pickOrder.go
    simp
  | succ f ih =>
    intro k l out h
    unfold pickOrder.go
    cases l with
    |nil=>simp
    | cons b r =>
      have hlt:nx k%(b::r).length<(b::r).length:=Nat.mod_lt _ (by simp)
      rw[List.getElem?_eq_getElem hlt]
      dsimp only
      refine(ih (k+1) _ _ (by rw[List.length_eraseIdx_of_lt hlt];walk_at "o")).trans ?_
      rw[Array.toList_push,List.append_assoc]
      refine List.Perm.append_left _ ?_
      exact uR hlt
theorem By(bt:dI w=true)(g1:s.heap.get? a=some o)(g3:o.data= .set es ep t)(g4:t.fits es.size=true){i sl:Nat}{Q:Option (Value×Nat)->Shared->Prop}
  (h:Q (((pickOrder (w.params.setOrder a ep) es)[i]?).map fun e=>(e.2,sl)) s):wpAny (model prog w) A (setNext a sl i ep) Q E s:=by
 unfold setNext
 refine wpAny_bind (wpAny_setState_of g1 g3 g4 ?_)
 dsimp only
 unfold setsByText
 refine wpAny_bind (wpAny_bind (wpAny_askSetting (wpAny_pure ?_)))
 show wpAny _ _ (if dI w=true then _ else _) _ _ _
 rw[if_pos bt]
 rw[if_neg (by simp)]
 refine wpAny_bind ?_
 unfold setWalk
 refine wpAny_bind (wpAny_setState_of g1 g3 g4 ?_)
 dsimp only
 unfold setsByText
 refine wpAny_bind (wpAny_bind (wpAny_askSetting (wpAny_pure ?_)))
 show wpAny _ _ (if dI w=true then _ else _) _ _ _
 rw[if_pos bt]
 refine wpAny_bind (wpAny_askSetting (wpAny_pure ?_))
 exact wpAny_pure h
theorem EM(bt:dI w=false)(g1:s.heap.get? a=some o)(g3:o.data= .set es ep t)(g4:t.fits es.size=true)(tk:cM (dI w) t)(pl:t.plain=true\/es.size<=1){i sl:Nat}{Q:Option (Value×Nat)->Shared->Prop}
  (h:Q (match es[SetTable.below t.place sl]?,t.place[SetTable.below t.place sl]? with|some (_,x),some j=>some (x,j+1)|_,_=>none) s):wpAny (model prog w) A (setNext a sl i ep) Q E s:=by
 unfold setNext
 refine wpAny_bind (wpAny_setState_of g1 g3 g4 ?_)
 dsimp only
 unfold setsByText
 refine wpAny_bind (wpAny_bind (wpAny_askSetting (wpAny_pure ?_)))
 show wpAny _ _ (if dI w=true then _ else _) _ _ _
 rw[bt,if_neg Bool.false_ne_true]
 show wpAny _ _ (if(!t.plain && decide (es.size>1))=true then _ else _) _ _ _
 rw[if_neg (by
  intro z
  rw[Bool.and_eq_true,Bool.not_eq_true',decide_eq_true_eq] at z
  rcases pl with p|p
  ·rw[p] at z;cases z.1
  ·walk_at "o")]
 refine wpAny_bind ?_
 show wpAny _ _ (if(!t.led && !es.isEmpty)=true then _ else _) _ _ _
 rw[if_neg (by rw[tk.led bt];simp)]
 refine wpAny_pure ?_
 exact wpAny_pure h
theorem Ra(g1:s.heap.get? a=some o)(g3:o.data= .set es ep t)(g4:t.fits es.size=true){pl:Nat}{hx:Int}{x:Value}{Q:Value->Shared->Prop}(e:es[pl]?=some (hx,x))(h:Q x s):wpAny (model prog w) A (setNextDrawn a pl ep) Q E s:=by
 unfold setNextDrawn
 refine wpAny_bind (wpAny_setState_of g1 g3 g4 ?_)
 dsimp only
 rw[if_neg (by simp)]
 rw[e]
 exact wpAny_pure h
noncomputable def gP(h:Heap)(it a:Addr)(first:Value)(i n ep:Nat):Prop:=∃o,h.get? it=some o/\o.cls= .type "set_iterator" /\o.data= .fields #[first, .int i 0, .ref a, .int n 0, .int ep 0]
theorem gP.ty{first:Value}{i n:Nat}(h:gP s.heap it a first i n ep):s.TypeIs (.ref it) "set_iterator":=let ⟨o,e,c,_⟩:=h;⟨o,e,c⟩
theorem qb{first:Value}{i n:Nat}{QQ:Fin->Shared->Prop}{EE:Value->Shared->Prop}(hit:gP s.heap it a first i n ep)(g1:s.heap.get? a=some o)(g3:o.data= .set es ep t)(g4:t.fits es.size=true)(hn:es.size=n)
    (h:wpAny (model prog w) A (match first with
      | .int slot _ => (do
        match<-setNext a slot.toNat i ep with
        | some (x, next) => do
          setField (.ref it) 0 (rawInt next)
          setField (.ref it) 1 (rawInt ((i:Int)+1))
          ret x
        | none => do
          setField (.ref it) 2 .none
          raiseNew (<-newExc (.type "StopIteration") []))
      | _ => (do
        let some places<-seqItems? first|unsupported "internal:set_iterator"
        match places[i]? with
        | some (.int place _) => do
          let x<-setNextDrawn a place.toNat ep
          setField (.ref it) 1 (rawInt ((i:Int)+1))
          ret x
        |some _=>unsupported "internal:set_iterator"
        | none => do
          setField (.ref it) 0 (rawInt 0)
          setField (.ref it) 2 .none
          raiseNew (<-newExc (.type "StopIteration") []))) QQ EE s):wpAny (model prog w) A (Builtin.«set_iterator.__next__» ⟨[.ref it],[]⟩) QQ EE s:=by
  obtain⟨oi,ho,hc,hd⟩:=hit
  unfold Builtin.«set_iterator.__next__»
  refine wpAny_bind (wpAny_pure ?_)
  refine wpAny_bind (wpAny_fieldsOf ho hd ?_)
  dsimp only
  refine wpAny_bind (wpAny_setEntries_of g1 g3 g4 ?_)
  rw[if_neg (by rw[hn];simp)]
  cases first<;>exact h
theorem pV{h:Heap}{first:Value}{i n k:Nat}{x:Value}{oi:Obj}{vs:Array Value}(ho:h.get? it=some oi)(hc:oi.cls= .type "set_iterator")(hd:oi.data= .fields vs):
  (h.update it (Obj.mapFields (·.setIfInBounds k x))).get? it=some (Obj.mapFields (·.setIfInBounds k x) oi)/\(Obj.mapFields (·.setIfInBounds k x) oi).cls= .type "set_iterator" /\(Obj.mapFields (·.setIfInBounds k x) oi).data= .fields (vs.setIfInBounds k x):=by
 refine⟨Heap.get?_update_self _ ho (Obj.isFreed_of_fields (Obj.data_mapFields hd _)),(Obj.cls_mapFields ..).trans hc,Obj.data_mapFields hd _⟩
theorem BE{sl i n nx:Nat}{x:Value}{Q:Option Value->Shared->Prop}(hit:gP s.heap it a (.int sl 0) i n ep)(g1:s.heap.get? a=some o)(g3:o.data= .set es ep t)(g4:t.fits es.size=true)(hn:es.size=n)
  (hN:∀(Q:Option (Value×Nat)->Shared->Prop) (E:Value->Shared->Prop),Q (some (x,nx)) s->wpAny (model prog w) A.in1 (setNext a sl i ep) Q E s)
  (hQ:∀h',gP h' it a (.int nx 0) (i+1) n ep->(∀b,b≠it->h'.get? b=s.heap.get? b)->Q (some x) {s with heap:=h'}):wpAny (model prog w) A (pyNext (.ref it)) Q E s:=by
 obtain⟨oi,ho,hc,hd⟩:=id hit
 unfold pyNext
 refine wpAny_bind (wpAny_attempt (wpAny_callSpecial?_slot (name:=Str.ofString "__next__") hit.ty gn (wpAny_call_entry gn hit.ty pH ?_ (rK _))))
 refine qb hit g1 g3 g4 hn ?_
 dsimp only
 refine wpAny_bind (hN _ _ ?_)
 dsimp only
 obtain⟨u1,u2,u3⟩:=pV (first:= .none) (i:=0) (n:=0) (k:=0) (x:=rawInt nx) ho hc hd
 obtain⟨w1,w2,w3⟩:=pV (first:= .none) (i:=0) (n:=0) (k:=1) (x:=rawInt ((i:Int)+1)) u1 u2 u3
 refine wpAny_bind (wpAny_setField ho hd (by simp) ?_)
 refine wpAny_bind (wpAny_setField u1 u3 (by simp) ?_)
 refine wpAny_pure ⟨x,rfl,wpAny_pure (hQ _ ⟨_,w1,w2,?_⟩ fun b hb=>?_)⟩
 ·rw[w3];simp[rawInt]
 ·exact((Heap.get?_update_other _ _ (Ne.symm hb))).trans (Heap.get?_update_other _ _ (Ne.symm hb))
theorem Ck{QQ:Fin->Shared->Prop}{B:Around}{Q:Option Value->Shared->Prop}(hh:B.handled=none)(hQ:∀o1 o2,Q none {s with heap:=(s.heap.push o1).push o2}):wpAny (model prog w) B (do raiseNew (<-newExc (.type "StopIteration") [])) QQ
  (fun e s'=>wpAny (model prog w) A (do if<-isInstance e (.type "StopIteration") then pure none else throw e) Q E s') s:=by
 refine wpAny_bind ?_
 simp only[newExc,newTuple]
 refine wpAny_bind (wpAny_newObj_type ?_ (by size_fits))
 refine wpAny_bind (m:=firstArgMember _ _) (wpAny_of_eq (a:=Value.none) (by first|rfl|(simp only[firstArgMember];rfl)) (wpAny_newObj_type ?_ (by size_fits)))
 simp only[raiseNew]
 refine wpAny_bind (wpAny_handled ?_)
 rw[hh]
 refine wpAny_bind (wpAny_pure (wpAny_throw ?_))
 refine wpAny_bind (wpAny_isInstance (b:=true) (T:="StopIteration") ⟨_,Heap.get?_push_size _ rfl,rfl⟩ isSubtype_stop ?_)
 exact wpAny_pure (hQ _ _)
theorem EJ{sl i n:Nat}{Q:Option Value->Shared->Prop}(hh:A.handled=none)(hit:gP s.heap it a (.int sl 0) i n ep)(g1:s.heap.get? a=some o)(g3:o.data= .set es ep t)(g4:t.fits es.size=true)(hn:es.size=n)
  (hN:∀(Q:Option (Value×Nat)->Shared->Prop) (E:Value->Shared->Prop),Q none s->wpAny (model prog w) A.in1 (setNext a sl i ep) Q E s)
  (hQ:∀h',(∀b o,b≠it->s.heap.get? b=some o->h'.get? b=some o)->Q none {s with heap:=h'}):wpAny (model prog w) A (pyNext (.ref it)) Q E s:=by
 obtain⟨oi,ho,hc,hd⟩:=id hit
 unfold pyNext
 refine wpAny_bind (wpAny_attempt (wpAny_callSpecial?_slot (name:=Str.ofString "__next__") hit.ty gn (wpAny_call_entry gn hit.ty pH ?_ (rK _))))
 refine qb hit g1 g3 g4 hn ?_
 dsimp only
 refine wpAny_bind (hN _ _ ?_)
 dsimp only
 refine wpAny_bind (wpAny_setField ho hd (by simp) ?_)
 exact Ck (B:=A.in1) hh fun o1 o2=>hQ _ fun b o hb e=>Heap.get?_push_of_some _ (Heap.get?_push_of_some _ ((Heap.get?_update_other _ _ (Ne.symm hb)).trans e))
theorem NS{i n pl:Nat}{hx:Int}{x:Value}{mO:Array Value}{Q:Option Value->Shared->Prop}(hit:gP s.heap it a (.ref tp) i n ep)(g1:s.heap.get? a=some o)(g3:o.data= .set es ep t)(g4:t.fits es.size=true)(hn:es.size=n)
  (htp:∃ot m,s.heap.get? tp=some ot/\ot.data= .seq mO m) (hp:mO[i]?=some (.int pl 0)) (he:es[pl]?=some (hx,x))
  (hQ:∀h',gP h' it a (.ref tp) (i+1) n ep->(∀b,b≠it->h'.get? b=s.heap.get? b)->Q (some x) {s with heap:=h'}):wpAny (model prog w) A (pyNext (.ref it)) Q E s:=by
 obtain⟨oi,ho,hc,hd⟩:=id hit
 obtain⟨ot,m,t1,t2⟩:=htp
 unfold pyNext
 refine wpAny_bind (wpAny_attempt (wpAny_callSpecial?_slot (name:=Str.ofString "__next__") hit.ty gn (wpAny_call_entry gn hit.ty pH ?_ (rK _))))
 refine qb hit g1 g3 g4 hn ?_
 dsimp only
 refine wpAny_bind (wpAny_seqItems t1 t2 ?_)
 dsimp only
 rw[hp]
 dsimp only
 refine wpAny_bind (Ra g1 g3 g4 (by simpa using he) ?_)
 obtain⟨w1,w2,w3⟩:=pV (first:= .none) (i:=0) (n:=0) (k:=1) (x:=rawInt ((i:Int)+1)) ho hc hd
 refine wpAny_bind (wpAny_setField ho hd (by simp) (wpAny_pure ⟨x,rfl,wpAny_pure (hQ _ ⟨_,w1,w2,?_⟩ fun b hb=>Heap.get?_update_other _ _ (Ne.symm hb))⟩))
 rw[w3];simp[rawInt]
theorem Uz{i n:Nat}{mO:Array Value}{Q:Option Value->Shared->Prop}(hh:A.handled=none)(hit:gP s.heap it a (.ref tp) i n ep)(g1:s.heap.get? a=some o)(g3:o.data= .set es ep t)(g4:t.fits es.size=true)(hn:es.size=n)
  (htp:∃ot m,s.heap.get? tp=some ot/\ot.data= .seq mO m) (hp:mO[i]?=none)
  (hQ:∀h',(∀b o,b≠it->s.heap.get? b=some o->h'.get? b=some o)->Q none {s with heap:=h'}):wpAny (model prog w) A (pyNext (.ref it)) Q E s:=by
 obtain⟨oi,ho,hc,hd⟩:=id hit
 obtain⟨ot,m,t1,t2⟩:=htp
 unfold pyNext
 refine wpAny_bind (wpAny_attempt (wpAny_callSpecial?_slot (name:=Str.ofString "__next__") hit.ty gn (wpAny_call_entry gn hit.ty pH ?_ (rK _))))
 refine qb hit g1 g3 g4 hn ?_
 dsimp only
 refine wpAny_bind (wpAny_seqItems t1 t2 ?_)
 dsimp only
 rw[hp]
 dsimp only
 obtain⟨u1,u2,u3⟩:=pV (first:= .none) (i:=0) (n:=0) (k:=0) (x:=rawInt 0) ho hc hd
 refine wpAny_bind (wpAny_setField ho hd (by simp) (wpAny_bind (wpAny_setField u1 u3 (by simp) ?_)))
 exact Ck (B:=A.in1) hh fun o1 o2=>hQ _ fun b o hb e=>Heap.get?_push_of_some _ (Heap.get?_push_of_some _ ((Heap.get?_update_other _ _ (Ne.symm hb)).trans ((Heap.get?_update_other _ _ (Ne.symm hb)).trans e)))
end
end L2
set_option maxRecDepth 100000
set_option maxHeartbeats 4000000
namespace L2
open PySem PySem.Spec PyProof.Rows
noncomputable def slotAt(xs:Array Nat):Nat->Nat
 |0=>0
 |i+1=>xs.getD i 0+1
theorem GP(xs:Array Nat):slotAt xs 0=0:=rfl
theorem CJ(xs:Array Nat)(i:Nat):slotAt xs (i+1)=xs.getD i 0+1:=rfl
theorem Ae{xs:Array Nat}(hr:ir xs){i:Nat}(hi:i<=xs.size):SetTable.below xs (slotAt xs i)=i:=by
  obtain⟨h1,h2,h3⟩:=below_at (q:=slotAt xs i) hr
  have g:∀{j:Nat},j<xs.size->∃y,xs[j]?=some y/\xs.getD j 0=y:=fun{j} hj=>⟨xs[j],Array.getElem?_eq_getElem hj,by rw[Array.getD_eq_getD_getElem?,Array.getElem?_eq_getElem hj];rfl⟩
  rcases Nat.lt_trichotomy (SetTable.below xs (slotAt xs i)) i with z|z|z
  · obtain⟨y,e,_⟩:=g (Nat.lt_of_lt_of_le z hi)
    have:=h3 _ y (Nat.le_refl _) e
    cases i with
    |zero=>walk_at "o"
    | succ i =>
      obtain⟨y',e',d'⟩:=g (j:=i) (by walk_at "o")
      have es:=CJ xs i
      rw[d'] at es
      rcases Nat.lt_or_eq_of_le (Nat.le_of_lt_succ z) with z|z
      · have:=hr _ _ _ _ z e e';walk_at "o"
      · rw[z,e'] at e;cases e;walk_at "o"
  · exact z
  · obtain⟨y,e,d⟩:=g (j:=i) (by walk_at "o")
    have:=h2 i y z e
    cases i with
    |zero=>rw[GP] at this;walk_at "o"
    | succ i =>
      obtain⟨y',e',d'⟩:=g (j:=i) (by walk_at "o")
      rw[CJ,d'] at this
      have:=hr i (i+1) _ _ (by walk_at "o") e' e
      walk_at "o"
section
variable{prog:Program}{w:World}{a I tp:Addr}{o:Obj}{es:Array (Int×Value)}{ep:Nat}{t:SetTable}
theorem Cd(h:t.fits es.size=true):t.place.size=es.size:=by
 unfold SetTable.fits at h
 rw[Bool.and_eq_true] at h
 exact eq_of_beq h.1
theorem V2{A:Around}(hh:A.handled=none)(bt:dI w=true)(g3:o.data= .set es ep t)(g4:t.fits es.size=true)(hne:a≠I):
  Walks prog w A I [I,a] [I] es.size (fun i v=>((pickOrder (w.params.setOrder a ep) es).toList.map (·.2))[i]?=some v) (fun i h=>gP h I a (.int (0:Nat) 0) i es.size ep/\h.get? a=some o) where
 sub:=fun b hb=>by simp at hb;simp[hb]
 frame:=fun i h h' st hk=>by
  obtain⟨⟨oi,h1,h2,h3⟩,h4⟩:=st
  exact⟨⟨oi,hk I (by simp) _ h1,h2,h3⟩,hk a (by simp) _ h4⟩
 item:=fun i s Q E hi st hQ=>by
  have hsz:(pickOrder (w.params.setOrder a ep) es).toList.length=es.size:=by
   have:=(sF (w.params.setOrder a ep) es.size 0 es.toList #[] (by simp)).length_eq
   simpa[pickOrder] using this
  have hlt:i<(pickOrder (w.params.setOrder a ep) es).toList.length:=by walk_at "o"
  have e1:(pickOrder (w.params.setOrder a ep) es)[i]?=some (pickOrder (w.params.setOrder a ep) es).toList[i]:=by rw[<-Array.getElem?_toList];exact List.getElem?_eq_getElem hlt
  refine BE st.1 st.2 g3 g4 rfl (x:=(pickOrder (w.params.setOrder a ep) es).toList[i].2) (nx:=0) (fun Q E q=>By bt st.2 g3 g4 (by rw[e1];exact q)) fun h' x1 x2=>?_
  refine hQ _ h' s.toks (by rw[List.getElem?_map,List.getElem?_eq_getElem hlt];rfl) ⟨x1,(x2 a hne).trans st.2⟩ fun b o' hb e=>(x2 b (fun z=>hb (by simp[z]))).trans e
 done:=fun s Q E st hQ=>by
  have hsz:(pickOrder (w.params.setOrder a ep) es).toList.length=es.size:=by
   have:=(sF (w.params.setOrder a ep) es.size 0 es.toList #[] (by simp)).length_eq
   simpa[pickOrder] using this
  refine EJ hh st.1 st.2 g3 g4 rfl (fun Q E q=>By bt st.2 g3 g4 (by rw[<-Array.getElem?_toList,List.getElem?_eq_none (by walk_at "o")];exact q)) fun h' x1=>hQ h' s.toks fun b o' hb e=>x1 b o' (fun z=>hb (by simp[z])) e
 self:=fun i s Q E st hQ=>by
  refine wpAny_pyIter_slot st.1.ty kO (wpAny_call_entry kO st.1.ty vQ ?_ (vH _))
  exact wpAny_pure ⟨_,rfl,"set_iterator",_,st.1.ty,gn.lookup,hQ⟩
theorem Qt{A:Around}(hh:A.handled=none)(bt:dI w=false)(g3:o.data= .set es ep t)(g4:t.fits es.size=true)(tk:cM (dI w) t)(pl:t.plain=true\/es.size<=1)(hne:a≠I):
  Walks prog w A I [I,a] [I] es.size (fun i v=>(es.toList.map (·.2))[i]?=some v) (fun i h=>gP h I a (.int (slotAt t.place i) 0) i es.size ep/\h.get? a=some o) where
 sub:=fun b hb=>by simp at hb;simp[hb]
 frame:=fun i h h' st hk=>by
  obtain⟨⟨oi,h1,h2,h3⟩,h4⟩:=st
  exact⟨⟨oi,hk I (by simp) _ h1,h2,h3⟩,hk a (by simp) _ h4⟩
 item:=fun i s Q E hi st hQ=>by
  have hps:=Cd g4
  have hr:ir t.place:=by
   rcases pl with p|p
   ·exact tk.xD p
   ·intro i j x y hij ex ey
    have:=(Array.getElem?_eq_some_iff.mp ey).1;walk_at "o"
  have hlt:i<es.toList.length:=by simpa using hi
  have e1:es[i]?=some es.toList[i]:=by rw[<-Array.getElem?_toList];exact List.getElem?_eq_getElem hlt
  have e2:t.place[i]?=some (t.place.getD i 0):=by rw[Array.getD_eq_getD_getElem?,Array.getElem?_eq_getElem (by walk_at "o")];rfl
  refine BE st.1 st.2 g3 g4 rfl (x:=es.toList[i].2) (nx:=slotAt t.place (i+1)) (fun Q E q=>EM bt st.2 g3 g4 tk pl (by rw[Ae hr (by walk_at "o"),e1,e2];exact q)) fun h' x1 x2=>?_
  refine hQ _ h' s.toks (by rw[List.getElem?_map,List.getElem?_eq_getElem hlt];rfl) ⟨x1,(x2 a hne).trans st.2⟩ fun b o' hb e=>(x2 b (fun z=>hb (by simp[z]))).trans e
 done:=fun s Q E st hQ=>by
  have hps:=Cd g4
  have hr:ir t.place:=by
   rcases pl with p|p
   ·exact tk.xD p
   ·intro i j x y hij ex ey
    have:=(Array.getElem?_eq_some_iff.mp ey).1;walk_at "o"
  refine EJ hh st.1 st.2 g3 g4 rfl (fun Q E q=>EM bt st.2 g3 g4 tk pl (by rw[Ae hr (by walk_at "o"),Array.getElem?_eq_none (Nat.le_refl _)];exact q)) fun h' x1=>hQ h' s.toks fun b o' hb e=>x1 b o' (fun z=>hb (by simp[z])) e
 self:=fun i s Q E st hQ=>by
  refine wpAny_pyIter_slot st.1.ty kO (wpAny_call_entry kO st.1.ty vQ ?_ (vH _))
  exact wpAny_pure ⟨_,rfl,"set_iterator",_,st.1.ty,gn.lookup,hQ⟩
theorem QZ{A:Around}{ks:List Nat}(hh:A.handled=none)(g3:o.data= .set es ep t)(g4:t.fits es.size=true)(hk:ks.Perm (List.range es.size))(hne:a≠I)(hnt:tp≠I):
    Walks prog w A I [I,a,tp] [I] es.size (fun i v=>((ks.filterMap (es[·]?)).map (·.2))[i]?=some v) (fun i h=>gP h I a (.ref tp) i es.size ep/\h.get? a=some o/\∃ot m,h.get? tp=some ot/\ot.data= .seq (ks.map fun(k:Nat)=>rawInt k).toArray m) where
  sub:=fun b hb=>by simp at hb;simp[hb]
  frame:=fun i h h' st hk=>by
    obtain⟨⟨oi,h1,h2,h3⟩,h4,ot,m,h5,h6⟩:=st
    exact⟨⟨oi,hk I (by simp) _ h1,h2,h3⟩,hk a (by simp) _ h4,ot,m,hk tp (by simp) _ h5,h6⟩
  item:=fun i s Q E hi st hQ=>by
    have hlen:ks.length=es.size:=by rw[hk.length_eq];simp
    have hin:∀k∈ks,k<es.size:=fun k m=>by simpa using hk.mem_iff.mp m
    have hi':i<ks.length:=by walk_at "o"
    have hki:=hin ks[i] (List.getElem_mem hi')
    have e1:es[ks[i]]?=some es[ks[i]]:=Array.getElem?_eq_getElem hki
    have fm:∀(l:List Nat),(∀k∈l,k<es.size)->∀j (hj:j<l.length),(l.filterMap (es[·]?))[j]?=es[l[j]]?:=by
      intro l
      induction l with
      |nil=>intro _ j hj;simp at hj
      | cons b r ih =>
        intro hl j hj
        have hb:=hl b (List.mem_cons_self ..)
        rw[List.filterMap_cons,Array.getElem?_eq_getElem hb]
        cases j with
        |zero=>simp[Array.getElem?_eq_getElem hb]
        |succ j=>simpa using ih (fun k m=>hl k (List.mem_cons_of_mem _ m)) j (by simpa using hj)
    refine NS st.1 st.2.1 g3 g4 rfl st.2.2 (pl:=ks[i]) (hx:=es[ks[i]].1) (x:=es[ks[i]].2) (by simp[List.getElem?_eq_getElem hi',rawInt]) e1 fun h' x1 x2=>?_
    obtain⟨ot,m,t1,t2⟩:=st.2.2
    refine hQ _ h' s.toks ?_ ⟨x1,(x2 a hne).trans st.2.1,ot,m,(x2 tp hnt).trans t1,t2⟩ fun b o' hb e=>(x2 b (fun z=>hb (by simp[z]))).trans e
    rw[List.getElem?_map,fm ks hin i hi',e1];rfl
  done:=fun s Q E st hQ=>by
    have hlen:ks.length=es.size:=by rw[hk.length_eq];simp
    exact Uz hh st.1 st.2.1 g3 g4 rfl st.2.2 (by simp;walk_at "o") fun h' x1=>hQ h' s.toks fun b o' hb e=>x1 b o' (fun z=>hb (by simp[z])) e
  self:=fun i s Q E st hQ=>by
    refine wpAny_pyIter_slot st.1.ty kO (wpAny_call_entry kO st.1.ty vQ ?_ (vH _))
    exact wpAny_pure ⟨_,rfl,"set_iterator",_,st.1.ty,gn.lookup,hQ⟩
end
section
variable{prog:Program}{w:World}{A:Around}{E:Value->Shared->Prop}{s:Shared}{a:Addr}{o:Obj}{es:Array (Int×Value)}{ep:Nat}{t:SetTable}
theorem DP{α:Type}:∀l:List α,(List.range l.length).filterMap (fun i=>l[i]?)=l
  |[]=>rfl
  | x :: l => by
    have:=DP l
    rw[List.length_cons,List.range_succ_eq_map,List.filterMap_cons,List.filterMap_map]
    simpa[Function.comp_def] using this
theorem OW{src:Source}{n:Nat}{Q:Nat->Shared->Prop}(hn:n≠0)(h:∀i d',i<n->Q i {s with drawn:=d'}):wpAny (model prog w) A (choose src n) Q E s:=fun Γ p _=>⟨hn,h _ _ (Nat.mod_lt _ (Nat.pos_of_ne_zero hn))⟩
theorem zQ{α:Type}:∀(n:Nat) (xs:List α) (s:Shared) (Q:List α->Shared->Prop),xs.length<=n->(∀ks d',ks.Perm xs->Q ks {s with drawn:=d'})->wpAny (model prog w) A (drawOrder n xs) Q E s
  | 0, xs, s, Q, hl, h => by
    have:xs=[]:=List.length_eq_zero_iff.mp (by walk_at "o")
    subst this
    unfold drawOrder
    exact wpAny_pure (h [] s.drawn .nil)
  | n + 1, [], s, Q, hl, h => by
    unfold drawOrder
    exact wpAny_pure (h [] s.drawn .nil)
  | n + 1, x :: xs, s, Q, hl, h => by
    unfold drawOrder
    refine wpAny_bind (OW (by simp) fun i d' hi=>?_)
    rw[List.getElem?_eq_getElem hi]
    dsimp only
    refine wpAny_bind (zQ n _ _ _ (by rw[List.length_eraseIdx_of_lt hi];simp at hl⊢;walk_at "o") fun ks d2 hk=>?_)
    exact wpAny_pure (h _ d2 ((hk.cons _).trans (uR hi)))
theorem TF(g1:s.heap.get? a=some o)(g3:o.data= .set es ep t)(g4:t.fits es.size=true){Q:Bool->Shared->Prop}(h:Q (!dI w &&(!t.plain && decide (es.size>1))) s):wpAny (model prog w) A (setDrawn a) Q E s:=by
 unfold setDrawn
 refine wpAny_bind (wpAny_setState_of g1 g3 g4 ?_)
 dsimp only
 unfold setsByText
 refine wpAny_bind (wpAny_bind (wpAny_askSetting (wpAny_pure ?_)))
 exact wpAny_pure h
theorem BZ(g1:s.heap.get? a=some o)(g3:o.data= .set es ep t)(g4:t.fits es.size=true){Q:Nat->Shared->Prop}(h:Q ep s):wpAny (model prog w) A (setEpoch a) Q E s:=by
 unfold setEpoch
 exact wpAny_bind (wpAny_setState_of g1 g3 g4 (wpAny_pure h))
theorem Nd{Q:Value->Shared->Prop}(hb:es.size<scanBound)(g1:s.heap.get? a=some o)(g2:o.ExactSet)(g3:o.data= .set es ep t)(g4:t.fits es.size=true)(tk:cM (dI w) t)
    (hQ:∀(I:Addr) (h':Heap) d' (items:List Value) (fp:List Addr) (St:Nat->Heap->Prop),(∀b o,s.heap.get? b=some o->h'.get? b=some o)->s.heap.objs.size<=I->(∀b∈fp,b=a\/s.heap.objs.size<=b)->I∈fp->(∀b∈fp,b<h'.objs.size)->items.Perm (es.toList.map (·.2))->
      (∀B:Around,B.handled=none->Walks prog w B I fp [I] items.length (fun i v=>items[i]?=some v) St)->St 0 h'->Q (.ref I) {s with heap:=h',drawn:=d'}):wpAny (model prog w) A (pyIter (.ref a)) Q E s:=by
  have hT:s.TypeIs (.ref a) "set":=⟨o,g1,g2.1⟩
  have hlt:=Heap.lt_size g1
  refine wpAny_pyIter_slot hT Bu (wpAny_call_entry Bu hT JH ?_ (Nm _))
  unfold Builtin.«frozenset.__iter__»
  unfold Builtin.Frozenset.slot0 slotArgs
  simp only[List.isEmpty_nil,Bool.not_true,Bool.false_eq_true,↓reduceIte,bind_assoc,List.length_nil,bne_self_eq_false]
  unfold Builtin.Frozenset.addrOf Builtin.Frozenset.sizeOf
  refine wpAny_bind (wpAny_pure ?_)
  try dsimp only
  refine wpAny_bind (wpAny_pure ?_)
  refine wpAny_bind (wpAny_bind (wpAny_setEntries_of g1 g3 g4 (wpAny_pure ?_)))
  refine wpAny_bind (TF g1 g3 g4 ?_)
  by_cases c:(!dI w &&(!t.plain && decide (es.size>1)))=true
  · rw[if_pos c]
    refine wpAny_bind (zQ es.size (List.range es.size) s _ (by simp) fun ks d' hk=>?_)
    unfold newTuple
    refine wpAny_bind (wpAny_newObj_type ?_ ?_)
    rotate_left
    · have hk0:ks.length=es.size:=by rw[hk.length_eq];simp
      show(List.map (fun(i:Nat)=>rawInt i) ks).toArray.size<=sizeLine
      rw[List.size_toArray,List.length_map,hk0]
      exact fits_of_scanBound hb
    have r6:=Heap.get?_push_of_some ({cls:= .type "tuple",data:= .seq (ks.map fun(i:Nat)=>rawInt i).toArray}:Obj) g1
    refine wpAny_bind (BZ (s:={s with heap:=_,drawn:=d'}) r6 g3 g4 ?_)
    unfold newFields
    refine wpAny_bind (wpAny_newObj_type ?_)
    have hk0:ks.length=es.size:=by rw[hk.length_eq];simp
    have fin:=hQ
    clear hQ
    have jg:(s.heap.push ({cls:= .type "tuple",data:= .seq (ks.map fun(i:Nat)=>rawInt i).toArray}:Obj)).objs.size=s.heap.objs.size+1:=Heap.size_push ..
    have gT:(s.heap.push ({cls:= .type "tuple",data:= .seq (ks.map fun(i:Nat)=>rawInt i).toArray}:Obj)).get? s.heap.objs.size=some {cls:= .type "tuple",data:= .seq (ks.map fun(i:Nat)=>rawInt i).toArray}:=Heap.get?_push_size _ rfl
    have gO:∀b o,s.heap.get? b=some o->(s.heap.push ({cls:= .type "tuple",data:= .seq (ks.map fun(i:Nat)=>rawInt i).toArray}:Obj)).get? b=some o:=fun b o e=>Heap.get?_push_of_some _ e
    generalize PJ:s.heap.push ({cls:= .type "tuple",data:= .seq (ks.map fun(i:Nat)=>rawInt i).toArray}:Obj)=h1 at r6 jg gT gO⊢
    have gI:(h1.push ({cls:= .type "set_iterator",data:= .fields #[.ref s.heap.objs.size,rawInt 0, .ref a,rawInt es.size,rawInt ep]}:Obj)).get? h1.objs.size=some {cls:= .type "set_iterator",data:= .fields #[.ref s.heap.objs.size,rawInt 0, .ref a,rawInt es.size,rawInt ep]}:=Heap.get?_push_size _ rfl
    have gS:=Heap.get?_push_of_some ({cls:= .type "set_iterator",data:= .fields #[.ref s.heap.objs.size,rawInt 0, .ref a,rawInt es.size,rawInt ep]}:Obj) r6
    have Py:=Heap.get?_push_of_some ({cls:= .type "set_iterator",data:= .fields #[.ref s.heap.objs.size,rawInt 0, .ref a,rawInt es.size,rawInt ep]}:Obj) gT
    have LD:(h1.push ({cls:= .type "set_iterator",data:= .fields #[.ref s.heap.objs.size,rawInt 0, .ref a,rawInt es.size,rawInt ep]}:Obj)).objs.size=h1.objs.size+1:=Heap.size_push ..
    subst PJ
    refine wpAny_pure ⟨_,rfl,"set_iterator",_,⟨_,gI,rfl⟩,gn.lookup,?_⟩
    have pp:(ks.filterMap (es[·]?)).Perm es.toList:=by
      have:=hk.filterMap (es[·]?)
      have e:(List.range es.size).filterMap (es[·]?)=es.toList:=by
        have:=DP es.toList
        simpa using this
      rwa[e] at this
    have hn:((ks.filterMap (es[·]?)).map (·.2)).length=es.size:=by rw[List.length_map,pp.length_eq];simp
    have lJ:=Nat.lt_of_lt_of_eq (Nat.lt_succ_self s.heap.objs.size) jg.symm
    refine fin _ _ d' ((ks.filterMap (es[·]?)).map (·.2)) [_,a,s.heap.objs.size] _ (fun b o e=>Heap.get?_push_of_some _ (gO b o e)) (Nat.le_of_lt lJ) (fun b m=>?_) (List.mem_cons_self ..) (fun b m=>?_) (pp.map _) (fun B hB=>by rw[hn];exact QZ hB g3 g4 hk (Nat.ne_of_lt (Nat.lt_trans hlt lJ)) (Nat.ne_of_lt lJ)) ?_
    · rcases List.mem_cons.mp m with e|m
      · exact .inr (by rw[e];exact Nat.le_of_lt lJ)
      · rcases List.mem_cons.mp m with e|m
        · exact .inl e
        · exact .inr (Nat.le_of_eq (List.mem_singleton.mp m).symm)
    · refine Nat.lt_of_lt_of_eq ?_ LD.symm
      rcases List.mem_cons.mp m with e|m
      · rw[e];exact Nat.lt_succ_self _
      · rcases List.mem_cons.mp m with e|m
        · rw[e];exact Nat.lt_succ_of_lt (Nat.lt_trans hlt lJ)
        · rw[List.mem_singleton.mp m];exact Nat.lt_succ_of_lt lJ
    · exact⟨⟨_,gI,rfl,rfl⟩,gS,_,_,Py,rfl⟩
  · rw[if_neg c]
    refine wpAny_bind (wpAny_pure ?_)
    refine wpAny_bind (BZ g1 g3 g4 ?_)
    unfold newFields
    refine wpAny_bind (wpAny_newObj_type ?_)
    have gI:(s.heap.push ({cls:= .type "set_iterator",data:= .fields #[rawInt 0,rawInt 0, .ref a,rawInt es.size,rawInt ep]}:Obj)).get? s.heap.objs.size=some {cls:= .type "set_iterator",data:= .fields #[rawInt 0,rawInt 0, .ref a,rawInt es.size,rawInt ep]}:=Heap.get?_push_size _ rfl
    have gS:=Heap.get?_push_of_some ({cls:= .type "set_iterator",data:= .fields #[rawInt 0,rawInt 0, .ref a,rawInt es.size,rawInt ep]}:Obj) g1
    have hfp:∀b∈[s.heap.objs.size,a],b=a\/s.heap.objs.size<=b:=fun b m=>by
      rcases List.mem_cons.mp m with e|m
      · exact .inr (Nat.le_of_eq e.symm)
      · exact .inl (List.mem_singleton.mp m)
    have hsz:(s.heap.push ({cls:= .type "set_iterator",data:= .fields #[rawInt 0,rawInt 0, .ref a,rawInt es.size,rawInt ep]}:Obj)).objs.size=s.heap.objs.size+1:=Heap.size_push ..
    have Cq:∀b∈[s.heap.objs.size,a],b<(s.heap.push ({cls:= .type "set_iterator",data:= .fields #[rawInt 0,rawInt 0, .ref a,rawInt es.size,rawInt ep]}:Obj)).objs.size:=fun b m=>by
      rw[hsz]
      rcases List.mem_cons.mp m with e|m
      · rw[e];exact Nat.lt_succ_self _
      · rw[List.mem_singleton.mp m];exact Nat.lt_succ_of_lt hlt
    refine wpAny_pure ⟨_,rfl,"set_iterator",_,⟨_,gI,rfl⟩,gn.lookup,?_⟩
    cases bt:dI w with
    | true =>
      have pp:(pickOrder (w.params.setOrder a ep) es).toList.Perm es.toList:=by simpa[pickOrder] using sF (w.params.setOrder a ep) es.size 0 es.toList #[] (by simp)
      have hn:((pickOrder (w.params.setOrder a ep) es).toList.map (·.2)).length=es.size:=by rw[List.length_map,pp.length_eq];simp
      refine hQ _ _ s.drawn ((pickOrder (w.params.setOrder a ep) es).toList.map (·.2)) [s.heap.objs.size,a] _ (fun b o e=>Heap.get?_push_of_some _ e) (Nat.le_refl _) hfp (by simp) Cq (pp.map _) (fun B hB=>by rw[hn];exact V2 hB bt g3 g4 (Nat.ne_of_lt hlt)) ?_
      exact⟨⟨_,gI,rfl,rfl⟩,gS⟩
    | false =>
      have pl:t.plain=true\/es.size<=1:=by
        rw[bt,Bool.not_false,Bool.true_and] at c
        cases hp:t.plain with
        |true=>exact .inl rfl
        | false =>
          rw[hp,Bool.not_false,Bool.true_and,decide_eq_true_eq] at c
          exact .inr (by walk_at "o")
      have hn:(es.toList.map (·.2)).length=es.size:=by simp
      refine hQ _ _ s.drawn (es.toList.map (·.2)) [s.heap.objs.size,a] _ (fun b o e=>Heap.get?_push_of_some _ e) (Nat.le_refl _) hfp (by simp) Cq (.refl _) (fun B hB=>by rw[hn];exact Qt hB bt g3 g4 tk pl (Nat.ne_of_lt hlt)) ?_
      exact⟨⟨_,gI,rfl,rfl⟩,gS⟩
end
end L2
set_option maxRecDepth 100000
set_option maxHeartbeats 4000000
namespace L2
open PySem PySem.Spec PyProof.Rows
section
variable{prog:Program}{w:World}{A:Around}{E:Value->Shared->Prop}{s:Shared}{a:Addr}{o:Obj}{es:Array (Int×Value)}{ep:Nat}{t:SetTable}
theorem P9{Q:Bool->Shared->Prop}(hT:s.TypeIs (.ref a) "set")(h:Q false s):wpAny (model prog w) A (Builtin.List.listLengthHint (.ref a)) Q E s:=by
 unfold Builtin.List.listLengthHint
 refine wpAny_bind (wpAny_specialOf hT PySem.F.slot_set_len.lookup ?_)
 generalize hid:("set.__len__":String)=id0
 wp_delta
 rw[show splitId id0=some ("set","__len__") from by subst hid;decide+kernel]
 subst hid
 refine wpAny_bind (wpAny_isInstance (b:=true) (T:="set") hT (by rw[isSubtype_type];kernel_rfl) ?_)
 refine wpAny_ite_split (fun z=>absurd z (by decide)) fun _=>wpAny_ite_split (fun _=>?_) fun z=>absurd (by decide+kernel) z
 exact wpAny_bind (wpAny_typeOf hT (wpAny_pure h))
theorem S6{items:List Value}{acc:Array Value}(h:ItemsOf (fun i v=>items[i]?=some v) acc items.length):acc.toList=items:=by
 apply List.ext_getElem?
 intro i
 by_cases hi:i<acc.size
 ·have e:acc[i]?=some acc[i]:=Array.getElem?_eq_getElem hi
  rw[Array.getElem?_toList,e,h.2 i _ e]
 ·have:=h.1
  rw[List.getElem?_eq_none (by simp;walk_at "o"),List.getElem?_eq_none (by walk_at "o")]
theorem Kd{Q:List Value->Shared->Prop}(hh:A.handled=none)(hb:es.size<scanBound)(g1:s.heap.get? a=some o)(g2:o.ExactSet)(g3:o.data= .set es ep t)(g4:t.fits es.size=true)(tk:cM (dI w) t)
  (hQ:∀h' d' tk' items,(∀b o,s.heap.get? b=some o->h'.get? b=some o)->s.heap.objs.size<=h'.objs.size->items.Perm (es.toList.map (·.2))->Q items {s with heap:=h',drawn:=d',toks:=tk'}):wpAny (model prog w) A (collect (.ref a)) Q E s:=by
 have hlt:=Heap.lt_size g1
 unfold collect
 refine wpAny_bind (wpAny_runValue (codeAny_builtin PySem.F.entry_proto_collect ?_))
 rw[Around.under_plainId PySem.F.plain_proto_collect _]
 show wpAny _ A.in1 (newList []>>=fun l=>again (.builtin "list.__iadd__" ⟨[l, .ref a],[]⟩)) _ _ s
 refine wpAny_bind (wpAny_newObj_type ?_)
 refine wpAny_pure ⟨plainId_quiet PySem.F.plain_list_iadd _,codeAny_builtin PySem.F.entry_list_iadd ?_⟩
 rw[Around.under_plainId PySem.F.plain_list_iadd _]
 have gL:(s.heap.push ({cls:= .type "list",data:= .seq ([]:List Value).toArray}:Obj)).get? s.heap.objs.size=some {cls:= .type "list",data:= .seq ([]:List Value).toArray}:=Heap.get?_push_size _ rfl
 have gA:=Heap.get?_push_of_some ({cls:= .type "list",data:= .seq ([]:List Value).toArray}:Obj) g1
 have Dd:(s.heap.push ({cls:= .type "list",data:= .seq ([]:List Value).toArray}:Obj)).objs.size=s.heap.objs.size+1:=Heap.size_push ..
 show wpAny _ A.in1 (Builtin.List.listExtendWith (.ref s.heap.objs.size) (.ref a) (.ref s.heap.objs.size)) _ _ {s with heap:=s.heap.push ({cls:= .type "list",data:= .seq ([]:List Value).toArray}:Obj)}
 have hkeep:∀b o,s.heap.get? b=some o->(s.heap.push ({cls:= .type "list",data:= .seq ([]:List Value).toArray}:Obj)).get? b=some o:=fun b o e=>Heap.get?_push_of_some _ e
 generalize s.heap.push ({cls:= .type "list",data:= .seq ([]:List Value).toArray}:Obj)=h1 at gL gA Dd hkeep⊢
 unfold Builtin.List.listExtendWith
 refine wpAny_bind (wpAny_typeOf (T:="set") ⟨o,gA,g2.1⟩ ?_)
 have n1:Builtin.List.listSameRef (.ref s.heap.objs.size) (.ref a)=false:=by
  show(s.heap.objs.size==a)=false
  exact beq_eq_false_iff_ne.mpr (Nat.ne_of_gt hlt)
 have n2:(Value.type "set"==Value.type "list")=false:=by decide
 have n3:(Value.type "set"==Value.type "tuple")=false:=by decide
 simp only[n1,n2,n3,Bool.or_false,Bool.false_eq_true,if_false]
 refine wpAny_bind (Nd (s:={s with heap:=h1}) hb gA g2 g3 g4 tk fun I h2 d' items fp St k1 k2 k3 k4 k5 pp W st=>?_)
 have Rp:=k1 _ _ gA
 have xu:=k1 _ _ gL
 refine wpAny_bind (wpAny_holding (P9 (s:={s with heap:=h2,drawn:=d'}) ⟨o,Rp,g2.1⟩ ?_))
 have lS:s.heap.objs.size<h1.objs.size:=Nat.lt_of_lt_of_eq (Nat.lt_succ_self _) Dd.symm
 have nS:s.heap.objs.size∉fp:=fun m=>by
  rcases k3 _ m with e|e
  ·exact absurd e (Nat.ne_of_gt hlt)
  ·exact absurd (Nat.lt_of_lt_of_le lS e) (Nat.lt_irrefl _)
 have hil:items.length<=sizeLine:=by
  rw[pp.length_eq,List.length_map,Array.length_toList];exact fits_of_scanBound hb
 have key:∀(h3:Heap) (c:Nat),St 0 h3->(∀b o,b≠s.heap.objs.size->h2.get? b=some o->h3.get? b=some o)->h3.get? s.heap.objs.size=some {cls:= .type "list",data:= .seq #[] c}->
   codeAny (model prog w) A (.builtin "list.extend.loop" ⟨[.ref s.heap.objs.size, .ref I, .ref s.heap.objs.size],[]⟩) (fun r s'=>match r with
    | .ok (.ret v)=>wpAny (model prog w) A (match v with| .ref x=>(do match(<-load x).data with| .seq xs _=>pure xs.toList|_=>unsupported "internal:collect")|_=>unsupported "internal:collect") Q E s'
    | .ok _=>False
    | .error e=>E e s') {s with heap:=h3,drawn:=d'}:=by
  intro h3 c st3 q1 q2
  refine codeAny_extend_loopS ((W A.in1 hh).toS) hil _ nS _ items.length 0 _ #[] c rfl (Nat.zero_le _) st3 q2 (ItemsOf.nil _) fun s' acc c' mo q3 q4=>?_
  refine wpAny_bind (wpAny_load q3 (wpAny_pure ?_))
  rw[S6 q4,Moved.eq_with mo]
  refine hQ s'.heap d' s'.toks items (fun b o e=>?_) ?_ pp
  ·have nb:b≠s.heap.objs.size:=Nat.ne_of_lt (Heap.lt_size e)
   refine mo.heap b o (fun m=>?_) (q1 b o nb (k1 b o (hkeep b o e)))
   rcases List.mem_cons.mp m with z|z
   ·exact nb z
   ·have z:=List.mem_singleton.mp z
    rw[z] at e
    exact absurd (Nat.lt_of_lt_of_le (Nat.lt_trans (Heap.lt_size e) lS) k2) (Nat.lt_irrefl _)
  ·exact Nat.le_of_lt (Heap.lt_size q3)
 refine wpAny_ite_split (fun _=>?_) fun _=>wpAny_pure ⟨plainId_quiet PySem.F.plain_extend_loop _,key h2 _ st (fun _ _ _ e=>e) xu⟩
 refine wpAny_bind (wpAny_rule (wpAny_bind ?_))
 show wpAny _ A.in1 (updateSeq s.heap.objs.size (·.push .none)>>=fun _=>updateSeq s.heap.objs.size (·.pop)) _ _ _
 have u1:=Heap.get?_update_self (Obj.mapSeq (·.push Value.none)) xu rfl
 have u2:=Heap.get?_update_self (Obj.mapSeq (·.pop)) u1 rfl
 refine wpAny_bind (wpAny_updateSeq xu rfl (wpAny_updateSeq (hz:=by seq_fits) u1 rfl ?_))
 have Dh:∀b o,b≠s.heap.objs.size->h2.get? b=some o->((h2.update s.heap.objs.size (Obj.mapSeq (·.push Value.none))).update s.heap.objs.size (Obj.mapSeq (·.pop))).get? b=some o:=fun b o nb e=>(Heap.get?_update_other _ _ (Ne.symm nb)).trans ((Heap.get?_update_other _ _ (Ne.symm nb)).trans e)
 exact wpAny_pure ⟨plainId_quiet PySem.F.plain_extend_loop _,key _ _ ((W A.in1 hh).frame 0 _ _ st fun b m o e=>Dh b o (fun z=>nS (z▸m)) e) Dh u2⟩
theorem Ba{ks:List Int->Prop}:∀{vs:List Value},(∀v∈vs,∃k t,v= .int k t)->∃ns,IntsAre vs ns
  |[],_=>⟨[], .nil⟩
  | v :: vs, h => by
    obtain⟨k,t,rfl⟩:=h v (List.mem_cons_self ..)
    obtain⟨ns,hn⟩:=Ba (ks:=ks) fun v m=>h v (List.mem_cons_of_mem _ m)
    exact⟨k::ns, .cons k t hn⟩
theorem EI:∀{vs:List Value} {ns:List Int},IntsAre vs ns->∀k,k∈ns↔∃t, .int k t∈vs
  |_,_, .nil,k=>by simp
  | _, _, .cons j t h, k => by
    rw[List.mem_cons,EI h k]
    constructor
    · rintro(rfl|⟨t',m⟩)
      · exact⟨_,List.mem_cons_self ..⟩
      · exact⟨t',List.mem_cons_of_mem _ m⟩
    · rintro⟨t',m⟩
      rcases List.mem_cons.mp m with e|m
      · cases e;exact .inl rfl
      · exact .inr ⟨t',m⟩
theorem Vu{S:Int->Bool}{n:Nat}{Q:Value->Shared->Prop}(hh:A.handled=none)(hS:s.heap.SetOf (IK prog w) a S n)(hT:eE (dI w) s.heap a)(h64:n<64)
  (h : ∀ h' d' tk' (l : Addr) (out : List Value) (ns : List Int) (e : Nat), (∀ b o, s.heap.get? b = some o -> h'.get? b = some o) -> s.heap.objs.size <= l -> h'.get? l = some (seqObj "list" out.toArray e) -> IntsAre out ns -> ns.Pairwise (· <= ·) -> (∀ k, S k = true ↔ k ∈ ns) -> ns.length = n ->
   Q (.ref l) {s with heap:=h',drawn:=d',toks:=tk'}):wpAny (model prog w) A (call (.builtin "sorted") [.ref a]) Q E s:=by
 obtain⟨o,es,ep,t,g1,g2,g3,l1,l2,l3,l4,sz⟩:=hS
 refine Calls.call_function_entry kind_sorted plain_sorted entry_sorted (args_sorted1 _) ?_
 unfold Builtin.«sorted»
 refine wpAny_bind (m:=checkCount "sorted" 1 1 _) (wpAny_pure (wpAny_bind ?_))
 refine Kd (A:=A.in1) hh l3 g1 g2 g3 l4 (hT o es ep t g1 g3) fun h1 d1 yI items k1 k2 pp=>?_
 have hint:∀v∈items,∃k t,v= .int k t:=fun v m=>by
  obtain⟨e,m',rfl⟩:=List.mem_map.mp (pp.mem_iff.mp m)
  obtain⟨⟨k,hk,_⟩,_⟩:=l1 e m'
  obtain⟨t,ht⟩:=Value.isInt_shape hk
  exact⟨k,t,ht⟩
 obtain⟨ns,hI⟩:=Ba (ks:=fun _=>True) hint
 have hlen:items.length=n:=by rw[pp.length_eq,List.length_map,Array.length_toList,sz]
 refine wpAny_bind (wpAny_newList ?_)
 have gL:(h1.push (seqObj "list" items.toArray 0)).get? h1.objs.size=some (seqObj "list" items.toArray 0):=Heap.get?_push_size _ rfl
 refine wpAny_bind (wpAny_holding (wpAny_call_entry slot_list_sort ⟨_,gL,rfl⟩ entry_list_sort (list_sort_tree gL hI (by walk_at "o") fun out ns' a1 a2 a3=>⟨_,rfl,?_⟩) (args_list_sort _)))
 obtain⟨e,he⟩:=sortedHeap_at (out:=out) gL
 refine wpAny_pure ⟨_,rfl,h _ d1 yI h1.objs.size out.toList ns' e (fun b o q=>?_) k2 (by simpa using he) a1 a3 (fun k=>?_) ?_⟩
 ·have lb:=Heap.lt_size (k1 b o q)
  rw[sortedHeap_old (Nat.ne_of_lt lb) (by rw[Heap.size_push];exact Nat.lt_succ_of_lt lb)]
  exact Heap.get?_push_of_some _ (k1 b o q)
 ·rw[a2.mem_iff,EI hI,l2 k]
  constructor
  ·rintro⟨e,m,q⟩
   obtain⟨t,ht⟩:=Value.isInt_shape q
   exact⟨t,pp.mem_iff.mpr (ht▸List.mem_map.mpr ⟨e,m,rfl⟩)⟩
  ·rintro⟨t,m⟩
   obtain⟨e,m',q⟩:=List.mem_map.mp (pp.mem_iff.mp m)
   exact⟨e,m',by rw[q];exact intKind_is _ _ _ _⟩
 ·rw[a2.length_eq,<-hI.length,hlen]
end
end L2
set_option maxRecDepth 100000
set_option maxHeartbeats 4000000
namespace L2
open PySem PySem.Spec PyProof.Rows
noncomputable def oh(P:Program)(w:World)(a:Addr)(S:Int->Bool)(n:Nat):HO:= .ext fun h=>h.SetOf (IK P w) a S n/\eE (dI w) h a
theorem Inv.dr{X:Cx}{pins:List (Addr×Obj)}{σ:St}{H:Hp}{s:Shared}(I:Inv X pins σ H s)(d:Drawn):Inv X pins σ H {s with drawn:=d}:=
 ⟨I.ok,I.os,I.bare,I.base,I.loc,I.cell,I.free,I.g8,I.pin,I.hok,I.len⟩
theorem t9:∀{ns:List Int} {us:List Value},Vals (ns.map V.int) us->IntsAre us ns
  |[],_, .nil=> .nil
  | n :: ns, _, .cons r t => by
    obtain⟨k,rfl⟩:=r
    exact .cons n k (t9 t)
theorem xH:∀{us:List Value} {ns:List Int},IntsAre us ns->Vals (ns.map V.int) us
 |_,_, .nil=> .nil
 |_,_, .cons k t h=> .cons ⟨t,rfl⟩ (xH h)
theorem Vt{σ:List Int}{k:Int}(h:σ.Nodup):(step_dedup σ k).Nodup:=by
 unfold step_dedup
 split
 ·exact h
 ·rename_i q
  rw[List.nodup_append]
  refine⟨h,by simp,fun x hx y hy=>?_⟩
  rw[List.mem_singleton.mp hy]
  intro e
  subst e
  exact q (by simp[hx])
theorem Dj(val:Nat->Int):∀i,(firstMet val i).Nodup
 |0=>List.nodup_nil
 |i+1=>by rw[firstMet_succ];exact Vt (Dj val i)
theorem Ds:∀{ds ns:List Int},ds.Nodup->(∀k∈ds,k∈ns)->ns.length<=ds.length->ds.Perm ns
  | [], ns, _, _, hl => by
    have:ns=[]:=List.length_eq_zero_iff.mp (by simpa using hl)
    rw[this]
  | d :: ds, ns, hd, hs, hl => by
    have hm:=hs d (List.mem_cons_self ..)
    obtain⟨h1,h2⟩:=List.nodup_cons.mp hd
    have hp:=List.perm_cons_erase hm
    refine(List.Perm.cons d (Ds h2 (fun k hk=>?_) ?_)).trans hp.symm
    · rcases List.mem_cons.mp (hp.mem_iff.mp (hs k (List.mem_cons_of_mem _ hk))) with e|e
      · subst e;exact absurd hk h1
      · exact e
    · have:=hp.length_eq;simp at this hl⊢;walk_at "o"
noncomputable def nH(P:Program)(w:World)(K:PySem.W.Frag):List V->Hp->VK->Prop:=fun xs H Q=>∃p,∃ns:List Int,xs=[.ref p]/\aR K H p (ns.map V.int)/\ns.length<=4000/\∀a (ms:List Int),H a=none->ms.Nodup->(∀k,k∈ms↔k∈ns)->Q (.ref a) (upd H a (oh P w a (fun k=>ms.any (· ==k)) ms.length))
noncomputable def oK(P:Program)(w:World):List V->Hp->VK->Prop:=fun xs H Q=>∃a,∃ms:List Int,xs=[.ref a]/\H a=some (oh P w a (fun k=>ms.any (· ==k)) ms.length)/\ms.Nodup/\ms.length<64/\
 ∀l (rs:List Int),H l=none->rs.Pairwise (· < ·)->(∀k,k∈rs↔k∈ms)->Q (.ref l) (upd H l (.lst (rs.map V.int)))
section
variable{X:Cx}
theorem zR(hc:X.calm=true):dS X (.type "set") (nH X.prog X.w X.K):=by
 intro pins s σ H xs us Q I rv h
 obtain⟨p,ns,rfl,hp,hn,q⟩:=h
 obtain⟨u,rfl,ru⟩:=vals1 rv
 cases ru
 obtain⟨its,rs,il,hz⟩:=I.list hp
 have hI:=t9 rs
 have hlen:=hI.length
 refine Me (I.ok.hd hc) il.isList (by simpa using hI) (by rw[List.size_toArray];unfold scanBound;walk_at "o") fun h' tk q1 q2 q3=>?_
 have hmem:∀k,k∈firstMet (fun i=>ns.getD i 0) its.toArray.size↔k∈ns:=fun k=>by
  have e:=firstMet_any (fun i=>ns.getD i 0) its.toArray.size k
  have e2:(List.range its.toArray.size).map (fun i=>ns.getD i 0)=ns:=by
   rw[List.size_toArray,hlen]
   apply List.ext_getElem
   ·simp
   ·intro i h1 h2
    simp[List.getD_eq_getElem?_getD,List.getElem?_eq_getElem h2]
  rw[e2] at e
  have a1:∀(l:List Int),(l.any (· ==k))=true↔k∈l:=fun l=>by
   rw[List.any_eq_true]
   exact⟨fun⟨x,m,z⟩=>(beq_iff_eq.mp z)▸m,fun m=>⟨k,m,beq_self_eq_true _⟩⟩
  rw[<-a1,<-a1,e]
 have kp:∀b u,s.heap.get? b=some u->h'.get? b=some u:=fun b u e=>q3 b u (Heap.lt_size e) e
 have new:cz X.prog X.w (upd H s.heap.objs.size (oh X.prog X.w s.heap.objs.size (fun k=>(firstMet (fun i=>ns.getD i 0) its.toArray.size).any (· ==k)) (firstMet (fun i=>ns.getD i 0) its.toArray.size).length)) h' s.heap.objs.size (oh X.prog X.w s.heap.objs.size (fun k=>(firstMet (fun i=>ns.getD i 0) its.toArray.size).any (· ==k)) (firstMet (fun i=>ns.getD i 0) its.toArray.size).length):=by
  refine⟨⟨q1,q2⟩,?_,fun h1 h2 z k=>?_⟩
  ·obtain⟨o,_,_,_,ho,_⟩:=q1;exact⟨o,ho⟩
  ·obtain⟨⟨o,es,ep,t,ho,r⟩,tt⟩:=z
   exact⟨⟨o,es,ep,t,k o ho,r⟩,tt.keep ho (k o ho)⟩
 exact⟨.ref s.heap.objs.size,_,I.laid (t':=tk) kp (Nat.le_refl _) new,rfl,q _ _ (I.hok.fresh (Nat.le_refl _)) (Dj _ _) hmem⟩
theorem A9(hc:X.calm=true):dS X (.builtin "sorted") (oK X.prog X.w):=by
 intro pins s σ H xs us Q I rv h
 obtain⟨a,ms,rfl,hH,nd,h64,q⟩:=h
 obtain⟨u,rfl,ru⟩:=vals1 rv
 cases ru
 obtain⟨⟨q1,q2⟩,_,_⟩:=I.hok a _ hH
 refine Vu (I.ok.hd hc) q1 q2 h64 fun h' d' tk' l out ns e kp hl gl hI pw hm hn=>?_
 have a1:∀k,(ms.any (· ==k))=true↔k∈ms:=fun k=>by
  rw[List.any_eq_true]
  exact⟨fun⟨x,m,z⟩=>(beq_iff_eq.mp z)▸m,fun m=>⟨k,m,beq_self_eq_true _⟩⟩
 have hm':∀k,k∈ns↔k∈ms:=fun k=>by rw[<-hm k,a1]
 have pp:=Ds nd (fun k m=>(hm' k).mpr m) (Nat.le_of_eq hn)
 have Uu:ns.Nodup:=pp.nodup_iff.mp nd
 have lt:ns.Pairwise (· < ·):=by
  have:=pw.and Uu
  exact this.imp fun⟨x,y⟩=>by walk_at "o"
 have new:cz X.prog X.w (upd H l (.lst (ns.map V.int))) h' l (.lst (ns.map V.int)):=by
  refine⟨?_,out,e,xH hI,gl⟩
  rw[List.length_map,hn];exact Nat.le_trans (Nat.le_of_lt h64) (by decide)
 exact⟨.ref l,_,(I.laid (t':=tk') kp hl new).dr d',rfl,q _ _ (I.hok.fresh hl) lt hm'⟩
end
theorem ao.Az{G:Gx}{ρ:Rh}{te:TE}{P:Program}{w:World}{K:PySem.W.Frag}{Θ:Bool->List PyData->Prop}(h:Ev G ρ te fun _ x=>∃ns:List Int,x= .list (ns.map .int)/\ns.length<64/\∀rs:List Int,rs.Pairwise (· < ·)->(∀k,k∈rs↔k∈ns)->Θ true (rs.map .int)):
  ao G ρ (dh (oK P w) (aV (dh (nH P w K) (aV te bz)) bz)) Θ:=fun nb σ H Q W z=>
 h nb σ H _ W fun f v H1 x ⟨ns,ex,hn,q⟩ s1 hv=>by
  subst ex
  obtain⟨a,xs,rfl,na,hx,hd⟩:=hv.dG
  have e:=oq hd
  subst e
  refine⟨a,ns,rfl, .of hx,by walk_at "o",fun b ms hb nd hm=>?_⟩
  have hms:ms.length<=ns.length:=List.Nodup.length_le_of_subset nd fun k m=>(hm k).mp m
  refine⟨b,ms,rfl,aY,nd,by walk_at "o",fun l rs hl lt hm'=>?_⟩
  have s2:Step G.B H1 (upd H1 b (oh P w b (fun k=>ms.any (· ==k)) ms.length)):= .same s1.2 (cJ hb)
  exact ao.fin (f:=true) W (s1.trans s2) hl (qN rs) (q rs lt fun k=>(hm' k).trans (hm k)) z
theorem MC{ms:List Int}{m:Int}(nd:ms.Nodup)(h:∀k∈ms,0<=k/\k<m):ms.length<=m.toNat:=by
 have:=List.Nodup.length_le_of_subset nd (l₂:=(List.range m.toNat).map fun(i:Nat)=>(i:Int)) fun k hk=>by
  have:=h k hk
  exact List.mem_map.mpr ⟨k.toNat,List.mem_range.mpr (by walk_at "o"),by walk_at "o"⟩
 rwa[List.length_map,List.length_range] at this
end L2
set_option maxRecDepth 100000
set_option maxHeartbeats 4000000
set_option maxRecDepth 100000
set_option maxHeartbeats 4000000
set_option maxRecDepth 100000
set_option maxHeartbeats 4000000
set_option maxRecDepth 100000
set_option maxHeartbeats 4000000
set_option maxRecDepth 100000
set_option maxHeartbeats 4000000
set_option maxRecDepth 100000
set_option maxHeartbeats 4000000
namespace L2
open PySem PySem.Spec PyProof.Rows
noncomputable def BU:List V->Hp->VK->Prop:=fun xs H Q=>∃j:Int,xs=[.int j]/\∀a,H a=none->Q (.ref a) (upd H a (.jy 0 j))
noncomputable def CO:List V->Hp->VK->Prop:=fun xs H Q=>∃(a:Addr) (lo hi:Int),xs=[.ref a]/\H a=some (.jy lo hi)/\(-10000<=lo/\lo<=10000/\ -10000<=hi/\hi<=10000)/\∀l,H l=none->Q (.ref l) (upd H l (.lst (((List.range (hi-lo).toNat).map fun(i:Nat)=>lo+(i:Int)).map V.int)))
noncomputable def xB(K:PySem.W.Frag):List V->Hp->VK->Prop:=fun xs H Q=>∃p,∃ns:List Int,xs=[.ref p]/\aR K H p (ns.map V.int)/\Q (.int ns.sum) H
noncomputable def Ol(K:PySem.W.Frag):List V->Hp->VK->Prop:=fun xs H Q=>∃p,∃bs:List Bool,xs=[.ref p]/\aR K H p (bs.map V.bl)/\Q (.bl (bs.all id)) H
section
variable{X:Cx}
theorem qh:dS X (.type "range") BU:=by
 intro pins s σ H xs us Q I rv h
 obtain⟨j,rfl,q⟩:=h
 obtain⟨u,rfl,ru⟩:=vals1 rv
 obtain⟨t,rfl⟩:=ru
 refine call_range_1 ?_
 exact⟨.ref s.heap.objs.size,_,I.laid (t':=s.toks+1+1) (o:= .jy 0 j) (fun b o e=>Heap.get?_push_of_some _ e) (Nat.le_refl _) ⟨_,_,_,Heap.get?_push_size _ rfl⟩,rfl,q _ (I.hok.fresh (Nat.le_refl _))⟩
theorem pO(hc:X.calm=true):dS X (.type "list") CO:=by
  intro pins s σ H xs us Q I rv h
  obtain⟨a,lo,hi,rfl,hH,hb,q⟩:=h
  obtain⟨u,rfl,ru⟩:=vals1 rv
  cases ru
  obtain⟨t,u,v,e⟩:=(show cz X.prog X.w H s.heap a (.jy lo hi) from I.hok a _ hH)
  refine call_list_range (n:=(hi-lo).toNat) (I.ok.hd hc) (show IsRange s.heap a lo hi 1 t u v from e) (small_one (by walk_at "o") (by walk_at "o") (by walk_at "o") (by walk_at "o")) (rangeSize_nat lo hi) (by walk_at "o") fun h' tk acc c' kp hl hi'=>?_
  have vv:Vals (((List.range (hi-lo).toNat).map fun(i:Nat)=>lo+(i:Int)).map V.int) acc.toList:=by
    have key:∀(n:Nat) (l:List Value),l.length=n->∀b:Int,(∀(j:Nat) (v:Value),l[j]?=some v->∃t,v=Value.int (b+(j:Int)) t)->Vals (((List.range n).map fun(i:Nat)=>b+(i:Int)).map V.int) l:=by
      intro n
      induction n with
      |zero=>intro l hl b _;rw[List.length_eq_zero_iff.mp hl];exact .nil
      | succ n ih =>
        intro l hl b hv
        cases l with
        |nil=>cases hl
        | cons x r =>
          obtain⟨t,e⟩:=hv 0 x rfl
          rw[List.range_succ_eq_map,List.map_cons,List.map_cons]
          refine .cons ⟨t,by simpa using e⟩ ?_
          have:=ih r (by simpa using hl) (b+1) (fun j v e=>by
            obtain⟨t,z⟩:=hv (j+1) v (by simpa using e)
            exact⟨t,by rw[z];congr 1;walk_at "o"⟩)
          rw[List.map_map] at this⊢
          rw[List.map_map]
          have e:∀i:Nat,((V.int∘fun(i:Nat)=>b+(i:Int))∘Nat.succ) i=(V.int∘fun(i:Nat)=>b+1+(i:Int)) i:=fun i=>by
            show V.int (b+((i+1:Nat):Int))=V.int (b+1+(i:Int));congr 1;walk_at "o"
          rw[List.map_congr_left fun i _=>e i]
          exact this
    refine key _ _ (by rw[Array.length_toList];exact hi'.1) lo fun j v e=>?_
    obtain⟨t,z⟩:=hi'.2 j v (by rw[<-Array.getElem?_toList];exact e)
    exact⟨t,by rw[z];congr 1;walk_at "o"⟩
  refine⟨.ref s.heap.objs.size,_,I.laid (t':=tk) (o:= .lst (((List.range (hi-lo).toNat).map fun(i:Nat)=>lo+(i:Int)).map V.int)) kp (Nat.le_refl _) ⟨?_,acc.toList,c',vv,by simpa using hl⟩,rfl,q _ (I.hok.fresh (Nat.le_refl _))⟩
  rw[List.length_map,List.length_map,List.length_range]
  exact Nat.le_trans (show(hi-lo).toNat<=20000 by walk_at "o") (by decide)
theorem Sk(hc:X.calm=true):dS X (.builtin "sum") (xB X.K):=by
 intro pins s σ H xs us Q I rv h
 obtain⟨p,ns,rfl,hp,q⟩:=h
 obtain⟨u,rfl,ru⟩:=vals1 rv
 cases ru
 obtain⟨its,rs,il,hz⟩:=I.list hp
 have hI:=t9 rs
 obtain⟨ys,e⟩:=hI.allInts.items
 have hn:=hI.numsOf
 refine sum_intListG (xs:=ys) (I.ok.hd hc) (by rw[<-e];exact il.isList) fun h' tk t' kp=>?_
 have e2:preSum (numAt ys) ys.size=ns.sum:=by
  rw[preSum_eq,List.take_of_length_le (by simp),<-nums_intItems,<-e,<-hn]
 rw[e2]
 exact⟨.int ns.sum,H,I.kept kp,⟨_,rfl⟩,q⟩
end
section
variable{G:Gx}{ρ:Rh}{te:TE}{K:PySem.W.Frag}{Φ:Pd}
theorem ao.pR{Θ:Bool->List PyData->Prop}(h:Ev G ρ te fun _ x=>∃n:Int,x= .int n/\ -10000<=n/\n<=10000/\Θ true (((List.range n.toNat).map fun(i:Nat)=>(0:Int)+(i:Int)).map .int)):ao G ρ (dh CO (aV (dh BU (aV te bz)) bz)) Θ:=fun nb σ H Q W z=>
 h nb σ H _ W fun f v H1 x ⟨n,ex,h1,h2,q⟩ s1 hv=>by
  subst ex
  rw[hv.bB]
  refine⟨n,rfl,fun a ha=>⟨a,0,n,rfl,aY,by walk_at "o",fun l hl=>?_⟩⟩
  rw[Int.sub_zero]
  exact ao.fin (f:=true) W (s1.trans (.same s1.2 (cJ ha))) hl (qN _) q z
theorem Ev.sum(h:Ev G ρ te fun _ x=>∃ns:List Int,x= .list (ns.map .int)/\Φ true (.int ns.sum)):Ev G ρ (dh (xB K) (aV te bz)) Φ:=fun nb σ H Q W z=>
 h nb σ H _ W fun f v H1 x ⟨ns,ex,q⟩ s1 hv=>by
  subst ex
  obtain⟨a,xs,rfl,na,hx,hd⟩:=hv.dG
  have e:=oq hd
  subst e
  exact⟨a,ns,rfl, .of hx,z true _ H1 _ q s1 (.int _)⟩
theorem BI{nb:Addr->Prop}{H:Hp}:∀{is:List Bool} {xs:List V},af nb H (is.map PyData.bool) xs->xs=is.map V.bl
  |[],_,h=>by unfold List.map af at h;exact h
  | i :: is, _, h => by
    rw[List.map_cons] at h
    unfold af at h
    obtain⟨y,ys,rfl,h1,h2⟩:=h
    unfold ah at h1
    rw[List.map_cons,h1,BI h2]
theorem Ev.all(h:Ev G ρ te fun _ x=>∃bs:List Bool,x= .list (bs.map .bool)/\Φ true (.bool (bs.all id))):Ev G ρ (dh (Ol K) (aV te bz)) Φ:=fun nb σ H Q W z=>
 h nb σ H _ W fun f v H1 x ⟨bs,ex,q⟩ s1 hv=>by
  subst ex
  obtain⟨a,xs,rfl,na,hx,hd⟩:=hv.dG
  have e:=BI hd
  subst e
  exact⟨a,bs,rfl, .of hx,z true _ H1 _ q s1 (.bl _)⟩
end
end L2
set_option maxRecDepth 100000
set_option maxHeartbeats 4000000
namespace L2
open PySem PySem.Spec PyProof.Rows
noncomputable def E8:PyData->String->Bool
 | .bool _,T=>T=="bool" ||T=="int"
 | .int _,T=>T=="int"
 | .str _,T=>T=="str"
 | .list _,T=>T=="list"
 | .tuple _,T=>T=="tuple"
 |_,_=>false
noncomputable def CV:PyData->String
 | .none=> "NoneType" | .bool _=> "bool" | .int _=> "int" | .str _=> "str" | .list _=> "list" | .tuple _=> "tuple" | .dict _=> "dict"
theorem Nh{K:PySem.W.Frag}{nb:Addr->Prop}{H:Hp}{d:PyData}{v:V}(h:ah nb H d v):fO K H v (.type (CV d)):=by
 cases d<;>unfold ah at h
 ·subst h;exact .aB
 ·subst h;exact .bl _
 ·subst h;exact .int _
 ·subst h;exact .str _
 ·obtain⟨a,xs,rfl,_,e,_⟩:=h;exact .lst e
 ·obtain⟨a,xs,rfl,_,e,_⟩:=h;exact .tup e
 ·obtain⟨a,xs,rfl,_,e,_⟩:=h;exact e.elim .dK fun⟨_,e⟩=> .zN e
noncomputable def EL(T:String):Prop:=T="int" \/T="bool" \/T="list" \/T="tuple" \/T="str"
theorem IC{K:PySem.W.Frag}{d:PyData}{T:String}(hT:EL T):PySem.W.kitOne K (.type (CV d)) (.type T)=some (E8 d T):=by
 rcases hT with rfl|rfl|rfl|rfl|rfl<;>cases d<;>(with_unfolding_all rfl)
section
variable{G:Gx}{ρ:Rh}{ta tb te:TE}{K:PySem.W.Frag}{Φ:Pd}{T U:String}
theorem Ev.Vf(hT:EL T)(h:Ev G ρ te fun _ x=>Φ true (.bool (E8 x T))):Ev G ρ (dh (jx K) (aV te (aV (tC (.ty T)) bz))) Φ:=fun nb σ H Q W z=>
 h nb σ H _ W fun f v H1 d q s1 hv=>⟨v,T,_,_,rfl,Nh hv,IC hT,z true _ H1 _ q s1 (.bl _)⟩
theorem Ev.gZ(h:Ev G ρ te fun _ x=>∃ds,(x= .list ds\/x= .tuple ds)/\Φ true (.int ds.length)):Ev G ρ (dh (cC K) (aV te bz)) Φ:=fun nb σ H Q W z=>
 h nb σ H _ W fun f v H1 d ⟨ds,e,q⟩ s1 hv=>by
  rcases e with e|e
  ·subst e
   obtain⟨a,xs,rfl,n,hx,hd⟩:=hv.dG
   exact⟨a,xs,rfl, .inl (.of hx),by rw[hd.length];exact z true _ H1 _ q s1 (.int _)⟩
  ·subst e
   obtain⟨a,xs,rfl,n,hx,hd⟩:=hv.ofT
   exact⟨a,xs,rfl, .inr (.of hx),by rw[hd.length];exact z true _ H1 _ q s1 (.int _)⟩
theorem Ev.AZ(h:Ev G ρ ta fun f x=>∃ds,(x= .list ds\/x= .tuple ds)/\Ev G ρ tb fun _ y=>∃k,y= .int k/\∃e,bF ds k=some e/\Φ f e):Ev G ρ (bZ (J4 K) ta tb) Φ:=
 Ev.gD (h.mono fun f x ⟨ds,ex,q⟩=>q.mono fun g y ⟨k,ey,e,he,p⟩ nb σ H u v Q W hu hv z=>by
  subst ey
  rcases ex with ex|ex
  ·subst ex
   obtain⟨a,xs,rfl,n,hx,hd⟩:=hu.dG
   obtain⟨w,hw,hD⟩:=hd.bF he
   exact .inl ⟨a,xs,k,w,rfl,hv.bB, .of hx,hw,z f _ H _ p (.refl W.ak) hD⟩
  ·subst ex
   obtain⟨a,xs,rfl,n,hx,hd⟩:=hu.ofT
   obtain⟨w,hw,hD⟩:=hd.bF he
   exact .inr (.inl ⟨a,xs,k,w,rfl,hv.bB, .of hx,hw,z f _ H _ p (.refl W.ak) hD⟩))
end
end L2
set_option maxRecDepth 100000
set_option maxHeartbeats 4000000
namespace L2
open PySem PySem.Spec PyProof.Rows
section
variable{G:Gx}{ρ cE:Rh}{te:TE}{gt:TG}{n i:Nat}{it:Nat->PyData->Prop}{fi:Bool}{Θ:Bool->List PyData->Prop}{E:DE}
theorem UA(os:List Int):dw (os.map PyData.int)=true:=by
 unfold dw
 rw[List.all_eq_true]
 intro x hx
 obtain⟨y,_,rfl⟩:=List.mem_map.mp hx
 rfl
theorem fu.ints(P:Int->Prop)(ht:∀i d,it i d->Gv G cE gt fi d fun eH=>Wk cE eH/\Ev G eH te fun _ e=>∃r:Int,e= .int r/\P r)(h:∀os:List Int,os.length=n->(∀x∈os,P x)->Θ true (os.map .int)):fu G cE n it fi gt jH te Θ:=by
 refine⟨false,fun i ds=>ds.length=i/\∃os:List Int,ds=os.map .int/\∀x∈os,P x,⟨rfl,[],rfl,fun _ h=>nomatch h⟩,?_,?_⟩
 ·rintro i d ds hd hl ⟨hl2,os,rfl,ho⟩
  refine fun nb σ H v Q W hv z=>ht i d hd nb σ H v Q W hv fun σ' ρ' ⟨w,q⟩ W'=>z σ' ρ' ⟨w,Tv.oU (pK (q.mono fun f e ⟨r,ee,hr⟩=>⟨fun z=>(by cases z),?_,os++[r],?_,fun x hx=>?_⟩))⟩ W'
  ·rw[List.length_append,List.length_singleton,hl2]
  ·rw[ee];simp
  ·rcases List.mem_append.mp hx with h|h
   ·exact ho x h
   ·rw[List.mem_singleton.mp h];exact hr
 ·rintro ds hl ⟨hl2,os,rfl,ho⟩
  rw[UA,Bool.or_true]
  exact h os (by rw[List.length_map] at hl2;exact hl2) ho
theorem fu.rel{α:Type}(φ:α->PyData)(fl:Bool)(P:Nat->α->Prop)(ht:∀i d,it i d->Gv G cE gt fi d fun eH=>Wk cE eH/\Ev G eH te fun f e=>(fl=true->f=true)/\∃r:α,e=φ r/\P i r)
  (h:∀os:List α,os.length=n->(∀(i:Nat) x,os[i]?=some x->P i x)->Θ (fl||dw (os.map φ)) (os.map φ)):fu G cE n it fi gt jH te Θ:=by
 refine⟨fl,fun i ds=>ds.length=i/\∃os:List α,ds=os.map φ/\∀(i:Nat) x,os[i]?=some x->P i x,⟨rfl,[],rfl,fun j x e=>by simp at e⟩,?_,?_⟩
 ·rintro i d ds hd hl ⟨hl2,os,rfl,ho⟩
  refine fun nb σ H v Q W hv z=>ht i d hd nb σ H v Q W hv fun σ' ρ' ⟨w,q⟩ W'=>z σ' ρ' ⟨w,Tv.oU (pK (q.mono fun f e ⟨hf,r,ee,hr⟩=>⟨hf,?_,os++[r],?_,fun j x hj=>?_⟩))⟩ W'
  ·rw[List.length_append,List.length_singleton,hl2]
  ·rw[ee];simp
  ·rw[List.length_map] at hl2
   rcases Nat.lt_trichotomy j os.length with h|h|h
   ·exact ho j x (by rwa[List.getElem?_append_left h] at hj)
   ·subst h
    simp at hj
    subst hj
    rw[hl2];exact hr
   ·rw[List.getElem?_eq_none (by rw[List.length_append,List.length_singleton];walk_at "o")] at hj
    cases hj
 ·rintro ds hl ⟨hl2,os,rfl,ho⟩
  exact h os (by rw[List.length_map] at hl2;exact hl2) ho
theorem Sv.Ec(h:∀a,E.nx (ρ.set i (.own a true []))):Sv G ρ (dZ (j3 bz) (fc i)) E:=Sv.uV (ao.lst (Av.nil ⟨by decide,fun a=>h a⟩))
end
noncomputable def SO:R2:=fun x y H Q=>∃a b:Bool,x= .bl a/\y= .bl b/\Q (.bl (a==b)) H
theorem Ev.WB{G:Gx}{ρ:Rh}{ta:TE}{b:Bool}{Φ:Pd}(h:Ev G ρ ta fun _ x=>∃a,x= .bool a/\Φ true (.bool (a==b))):Ev G ρ (bZ SO ta (tC (.bl b))) Φ:=fun nb σ H Q W z=>
 h nb σ H _ W fun f v H1 d ⟨a,e,q⟩ s1 hv=>by
  subst e
  unfold ah at hv
  subst hv
  exact⟨a,b,rfl,rfl,z true _ H1 _ q s1 (.bl _)⟩
theorem jB{X:Cx}{K:PySem.W.Frag}{a:Expr}{ta:TE}(hK:X.K=K)(ha:PE X a ta)(he:∀whole,isTrue a X.env whole=(do let v<-whole;standAt a.pos;holding [v] (truthy v))):PT X a (q8 K ta):=by
 subst hK
 exact Sf ha he
theorem jO{X:Cx}{K:PySem.W.Frag}{es:List Expr}{k:Nat}{t:fM}{n:Nat}{pos:Pos}(hK:X.K=K)(hc:X.calm=true)(h:nK X es t)(hn:(assignEach es X.env).length=n:=by rfl)(hst:(assignEach es X.env).findIdx? (·.1)=none:=by rfl):PG X (.Tuple es k pos) (pU K n t):=by
 subst hK
 exact Em hc h hn hst
theorem S9(cs:List aq):PyData.depthAll (cs.map aT)<=2/\PyData.canLayAll0 (cs.map aT)=true:=by
  induction cs with
  |nil=>simp[PyData.depthAll,PyData.canLayAll0]
  | cons a r ih =>
    have h:=Lr a
    simp[PyData.depthAll,PyData.depth,PyData.canLayAll0,PyData.canLay0,ih.2,h.2.2]
    have:=ih.1
    have:=h.2.1
    walk_at "o"
theorem Sv.yL{G:Gx}{ρ:Rh}{s:TS}{E:DE}(I:Rh->Prop)(h:Sv G ρ s {E with nx:=I})(hI:∀ρ',I ρ'->E.nx ρ'):Sv G ρ s E:=fun nb σ H D W K=>h nb σ H D W ⟨fun nb ρ σ H q W=>K.nx nb ρ σ H (hI ρ q) W,K.bk,K.ct,K.rt,K.rw⟩
theorem pick{L:List Int}{k:Int}(h0:0<=k)(h1:k<L.length)(P:Int->Prop)(hP:∀x∈L,P x):∃x,bF (L.map PyData.int) k=some (.int x)/\P x:=by
 have hL:k.toNat<L.length:=by walk_at "o"
 exact⟨L[k.toNat],j5 h0 (by rw[List.getElem?_map,List.getElem?_eq_getElem hL];rfl),hP _ (List.getElem_mem hL)⟩
end L2
set_option maxRecDepth 100000
set_option maxHeartbeats 4000000
namespace L2
open PySem PySem.Spec PyProof.Rows
theorem Io(a b:aq)(wd:Wo):aW (a++b) wd=aW a wd+aW b wd:=by
 unfold aW;rw[List.map_append,List.sum_append]
theorem wF(a:Int×Int)(b:aq)(wd:Wo):aW (a::b) wd=fG wd a+aW b wd:=by
 unfold aW;rw[List.map_cons,List.sum_cons]
end L2
set_option maxRecDepth 100000
set_option maxHeartbeats 4000000
namespace L2
open PySem PySem.Spec PyProof.Rows
theorem Bw:∀xs ys:List Int,PyData.eqvAll (xs.map PyData.int) (ys.map PyData.int)=decide (xs=ys)
  |[],[]=>by simp[PyData.eqvAll]
  |[],y::ys=>by simp[PyData.eqvAll]
  |x::xs,[]=>by simp[PyData.eqvAll]
  | x :: xs, y :: ys => by
    simp only[List.map_cons,PyData.eqvAll,Bw xs ys]
    have:PyData.eqv (.int x) (.int y)=decide (x=y):=by rw[Bool.eq_iff_iff];simp[PyData.eqv]
    rw[this,Bool.eq_iff_iff]
    simp
theorem KR(xs ys:List Int):PyData.eqv (.list (xs.map .int)) (.list (ys.map .int))=decide (xs=ys):=by
 simp only[PyData.eqv]
 exact Bw xs ys
theorem shaped_ints(xs:List Int):SeqAt.shaped (.list (xs.map .int))=true:=by
 have h:=Dw (xs.map some)
 have e:(xs.map some).map br=xs.map PyData.int:=by rw[List.map_map];rfl
 rw[e] at h
 unfold SeqAt.shaped
 simp[PyData.canLay0,PyData.depth,h.1,h.2]
theorem EF{w:List Int}{pr:Int×Int}{x:Int}(h:w[pr.1.toNat]?=some x):fG (w.map some) pr=pr.2*x:=by
 unfold fG
 rw[List.getElem?_map,h];rfl
end L2
set_option maxRecDepth 100000
set_option maxHeartbeats 4000000
namespace L2
open PySem PySem.Spec PyProof.Rows
noncomputable def AU(K:PySem.W.Frag)(te:TE)(ts:TO):TE:=fun σ H Q=>te σ H fun x H1=>ts σ H1 fun k H2=>k=some (-1)/\∃a xs,x= .ref a/\aR K H2 a xs/\∀p,H2 p=none->Q (.ref p) (upd H2 p (.lst xs.reverse))
theorem af.rev{nb:Addr->Prop}{H:Hp}:∀{ds:List PyData} {xs:List V},af nb H ds xs->af nb H ds.reverse xs.reverse
  |[],xs,h=>by unfold af at h;subst h;exact .nil
  | d :: ds, xs, h => by
    unfold af at h
    obtain⟨y,ys,e,h1,h2⟩:=h
    subst e
    rw[List.reverse_cons,List.reverse_cons]
    exact af.append (af.rev h2) (.cons h1 .nil)
section
variable{G:Gx}{ρ:Rh}{Φ:Pd}{ta tb te:TE}{K:PySem.W.Frag}
theorem ao.rev{ts:TO}{Θ:Bool->List PyData->Prop}(h:Ev G ρ te fun f x=>∃ds,x= .list ds/\Ov G ρ ts fun o=>o=some (-1)/\Θ (f||dw ds.reverse) ds.reverse):ao G ρ (AU K te ts) Θ:=fun nb σ H Q W z=>
 h nb σ H _ W fun f v H1 d ⟨ds,e,q⟩ s1 hv=>q nb σ H1 _ (W.step s1) fun o H2 ⟨eo,q2⟩ s2=>by
  subst e
  obtain⟨a,xs,rfl,n,hx,hd⟩:=(hv.keep s2.cF).dG
  exact⟨eo,a,xs,rfl, .of hx,fun p hp=>ao.fin W (s1.trans s2) hp hd.rev q2 z⟩
theorem Ev.rev{ts:TO}(h:Ev G ρ te fun f x=>∃ds,x= .list ds/\Ov G ρ ts fun o=>o=some (-1)/\Φ (f||dw ds.reverse) (.list ds.reverse)):Ev G ρ (AU K te ts) Φ:=(ao.rev (Θ:=fun f ds=>Φ f (.list ds)) h).ev
theorem Po{X:Cx}{K:PySem.W.Frag}(hK:X.K=K):bT X (compareOp .In) (lT K false):=by subst hK;exact P6
theorem Pb{X:Cx}{K:PySem.W.Frag}(hK:X.K=K):bT X (compareOp .NotIn) (lT K true):=by subst hK;exact G9
theorem Ev.Cp{ng:Bool}(h:Ev G ρ ta fun _ x=>∃k:Int,x= .int k/\Ev G ρ tb fun _ y=>∃ns:List Int,y= .list (ns.map .int)/\Φ true (.bool (decide (k∈ns) !=ng))):Ev G ρ (bZ (lT K ng) ta tb) Φ:=fun nb σ H Q W z=>
 h nb σ H _ W fun f v H1 d ⟨k,e,q⟩ s1 hv=>q nb σ H1 _ (W.step s1) fun g u H2 d2 ⟨ns,e2,p⟩ s2 hu=>by
  subst e e2
  have hk:=hv.bB
  subst hk
  obtain⟨a,xs,rfl,na,hx,hd⟩:=hu.dG
  have ex:=oq hd
  subst ex
  refine⟨a,ns.map V.int,rfl, .inl (.of hx),rfl,?_,?_⟩
  ·rw[List.all_eq_true]
   intro x hx
   obtain⟨o,_,rfl⟩:=List.mem_map.mp hx
   rfl
  ·have e:iQ (V.int k) (ns.map V.int)=decide (k∈ns):=by
    unfold iQ
    rw[List.any_map,Bool.eq_iff_iff,List.any_eq_true,decide_eq_true_eq]
    constructor
    ·rintro⟨o,m,h⟩
     have:o=k:=eq_of_beq h
     exact this▸m
    ·intro m
     exact⟨k,m,beq_self_eq_true k⟩
   have e2:(if ng=true then !iQ (V.int k) (ns.map V.int) else iQ (V.int k) (ns.map V.int))=(decide (k∈ns) !=ng):=by
    rw[e]
    cases ng<;>simp
   rw[e2]
   exact z true _ H2 _ p (s1.trans s2) (.bl _)
end
end L2
set_option maxRecDepth 100000
set_option maxHeartbeats 1000000
namespace PC
noncomputable def aC(n:Nat):Prop:=2<=n/\∀d,d∣n->d=1\/d=n
noncomputable def tr(q:Nat):Nat->Nat->Bool
 |0,_=>false
 |f+1,d=>if q<d*d then true else if q%d=0 then false else tr q f (d+1)
theorem AO{q:Nat}:∀{f d:Nat},tr q f d=true->∀e,d<=e->e*e<=q->q%e≠0
  |0,_,h=>by simp[tr] at h
  | f + 1, d, h => by
    intro e hde hee
    unfold tr at h
    by_cases h1:q<d*d
    · have:=Nat.mul_le_mul hde hde
      walk_at "o"
    · rw[if_neg h1] at h
      by_cases h2:q%d=0
      · rw[if_pos h2] at h;cases h
      · rw[if_neg h2] at h
        by_cases h3:d=e
        · rw[<-h3];exact h2
        · exact AO h e (by walk_at "o") hee
theorem DR{q:Nat}(h2:2<=q)(h:∀e,2<=e->e*e<=q->q%e≠0):aC q:=by
 refine⟨h2,fun d hd=>?_⟩
 obtain⟨e,he⟩:=hd
 by_cases d1:d=1
 ·exact .inl d1
 by_cases e1:e=1
 ·right;rw[he,e1,Nat.mul_one]
 exfalso
 have d0:d≠0:=fun z=>by rw[z,Nat.zero_mul] at he;walk_at "o"
 have e0:e≠0:=fun z=>by rw[z,Nat.mul_zero] at he;walk_at "o"
 by_cases hle:d<=e
 ·refine h d (by walk_at "o") (by rw[he];exact Nat.mul_le_mul_left d hle) ?_
  rw[he];exact Nat.mul_mod_right d e
 ·refine h e (by walk_at "o") (by rw[he];exact Nat.mul_le_mul_right e (by walk_at "o")) ?_
  rw[he];exact Nat.mul_mod_left d e
theorem bG(f:Nat){q:Nat}(h2:2<=q)(h:tr q f 2=true):aC q:=DR h2 (AO h)
noncomputable def pw(N:Nat):Nat->Nat->Nat->Nat->Nat
 |0,_,_,acc=>acc
 |f+1,e,g,acc=>pw N f (e/2) (g*g%N) (if e%2=1 then acc*g%N else acc)
theorem C3{N:Nat}:∀(f e g acc:Nat),e<2^f->pw N f e g acc%N=acc*g^e%N
  | 0, e, g, acc, h => by
    have:e=0:=by simp at h;exact h
    subst this
    simp[pw]
  | f + 1, e, g, acc, h => by
    have h2:e/2<2^f:=by rw[Nat.pow_succ] at h;walk_at "o"
    unfold pw
    rw[C3 f _ _ _ h2]
    have e2:g^e=(g*g)^(e/2)*g^(e%2):=by
      conv=>lhs;rw[<-Nat.div_add_mod e 2]
      rw[Nat.pow_add,Nat.pow_mul,Nat.pow_two]
    have m1:(g*g%N)^(e/2)%N=(g*g)^(e/2)%N:=(Nat.pow_mod _ _ _).symm
    rw[e2]
    by_cases ho:e%2=1
    · rw[if_pos ho,ho,Nat.pow_one,Nat.mul_mod,m1,Nat.mod_mod,<-Nat.mul_mod]
      congr 1
      rw[Nat.mul_assoc,Nat.mul_comm g]
    · have ho':e%2=0:=by walk_at "o"
      rw[if_neg ho,ho',Nat.pow_zero,Nat.mul_one,Nat.mul_mod,m1,<-Nat.mul_mod]
theorem IV{P:Nat->Prop}:∀n,P n->∃m,P m/\∀k,k<m->¬P k:=by
  intro n
  induction n using Nat.strongRecOn with
  | _ n ih =>
    intro h
    by_cases hk:∃k,k<n/\P k
    · obtain⟨k,hk1,hk2⟩:=hk
      exact ih k hk1 hk2
    · exact⟨n,h,fun k hk1 hk2=>hk ⟨k,hk1,hk2⟩⟩
theorem AN:∀(n:Nat) (f:Nat->Nat),(∀i,i<n+1->f i<n)->∃i j,i<j/\j<n+1/\f i=f j
  |0,f,h=>absurd (h 0 (by walk_at "o")) (by walk_at "o")
  | n + 1, f, h => by
    by_cases he:∃i,i<n+1/\f i=f (n+1)
    · obtain⟨i,h1,h2⟩:=he
      exact⟨i,n+1,h1,by walk_at "o",h2⟩
    · have hne:∀i,i<n+1->f i≠f (n+1):=fun i hi e=>he ⟨i,hi,e⟩
      have m9:=h (n+1) (by walk_at "o")
      obtain⟨i,j,h1,h2,h3⟩:=AN n (fun i=>if f i=n then f (n+1) else f i) (fun i hi=>by
        have g1:=h i (by walk_at "o")
        have g2:=hne i hi
        by_cases c:f i=n
        · simp only[c,if_true]
          have:f (n+1)≠n:=fun z=>g2 (c.trans z.symm)
          walk_at "o"
        · simp only[c,if_false]
          walk_at "o")
      refine⟨i,j,h1,by walk_at "o",?_⟩
      have gi:=hne i (by walk_at "o")
      have gj:=hne j (by walk_at "o")
      by_cases ci:f i=n
      · by_cases cj:f j=n
        · rw[ci,cj]
        · simp only[ci,cj,if_true,if_false] at h3
          exact absurd h3.symm gj
      · by_cases cj:f j=n
        · simp only[ci,cj,if_true,if_false] at h3
          exact absurd h3 gi
        · simpa only[ci,cj,if_false] using h3
noncomputable def ig:List (Nat×Nat)->Nat
 |[]=>1
 |qe::r=>Nat.lcm (qe.1^qe.2) (ig r)
theorem Dn{o:Nat}:∀{fs:List (Nat×Nat)},(∀qe∈fs,qe.1^qe.2∣o)->ig fs∣o
 |[],_=>⟨o,by simp[ig]⟩
 |qe::r,h=>Nat.lcm_dvd (h qe List.mem_cons_self) (Dn fun x hx=>h x (List.mem_cons_of_mem _ hx))
theorem G0{q m:Nat}(hq:aC q)(h:¬q∣m):Nat.Coprime q m:=by
 rcases hq.2 _ (Nat.gcd_dvd_left q m) with e|e
 ·exact e
 ·exact absurd (e▸Nat.gcd_dvd_right q m) h
theorem NJ{q m:Nat}(h:Nat.Coprime q m)(e:Nat):Nat.Coprime (q^e) m:=Nat.Coprime.pow_left e h
theorem Vv(a b c d:Nat):(a%d)*(b%d)%d*(c%d)%d=a*b*c%d:=by
 rw[<-Nat.mul_mod a b,<-Nat.mul_mod (a*b) c]
theorem zG{N g d:Nat}{fs:List (Nat×Nat)}(hN:2<=N)(hd:d∣N)(d1:1<d)(h1:g^(N-1)%N=1%N)
  (hq:∀qe∈fs,aC qe.1/\qe.1^qe.2∣N-1/\Nat.gcd (g^((N-1)/qe.1)%N+(N-1)) N=1):ig fs<d:=by
 have down:∀{a b:Nat},a%N=b%N->a%d=b%d:=fun{a b} e=>by
  rw[<-Nat.mod_mod_of_dvd a hd,e,Nat.mod_mod_of_dvd b hd]
 have one:1%d=1:=Nat.mod_eq_of_lt d1
 have f1:g^(N-1)%d=1:=by rw[down h1,one]
 obtain⟨o,⟨o0,o1⟩,DZ⟩:=IV (P:=fun k=>0<k/\g^k%d=1) (N-1) ⟨by walk_at "o",f1⟩
 have per:∀q r:Nat,g^(o*q+r)%d=g^r%d:=fun q r=>by
  rw[Nat.pow_add,Nat.pow_mul,Nat.mul_mod,Nat.pow_mod,o1,Nat.one_pow,one,Nat.one_mul,Nat.mod_mod]
 have Jm:∀k,g^k%d=1->o∣k:=fun k hk=>by
  have e:=Nat.div_add_mod k o
  rw[<-e,per] at hk
  by_cases h0:k%o=0
  ·exact Nat.dvd_of_mod_eq_zero h0
  ·exact absurd ⟨by walk_at "o",hk⟩ (DZ (k%o) (Nat.mod_lt _ o0))
 have od:=Jm _ f1
 have parts:ig fs∣o:=Dn fun qe ql=>by
  obtain⟨pq,⟨c,hc⟩,gq⟩:=hq qe ql
  obtain⟨m,hm⟩:=od
  by_cases B7:qe.1∣m
  ·exfalso
   obtain⟨m',hm'⟩:=B7
   have q0:0<qe.1:=by have:=pq.1;walk_at "o"
   have ek:(N-1)/qe.1=o*m':=by
    rw[hm,hm',show o*(qe.1*m')=qe.1*(o*m') by rw[<-Nat.mul_assoc,Nat.mul_comm o,Nat.mul_assoc],Nat.mul_div_cancel_left _ q0]
   have e1:g^((N-1)/qe.1)%d=1:=by
    have:=per m' 0
    rw[Nat.add_zero,Nat.pow_zero,one] at this
    rw[ek];exact this
   have e2:d∣g^((N-1)/qe.1)%N+(N-1):=by
    have e3:(g^((N-1)/qe.1)%N)%d=1:=by rw[Nat.mod_mod_of_dvd _ hd];exact e1
    obtain⟨k,hk⟩:=hd
    have e4:=Nat.div_add_mod (g^((N-1)/qe.1)%N) d
    rw[e3] at e4
    refine⟨(g^((N-1)/qe.1)%N)/d+k,?_⟩
    rw[Nat.mul_add,<-hk]
    walk_at "o"
   have e5:=Nat.dvd_gcd e2 hd
   rw[gq] at e5
   have:=Nat.le_of_dvd (by walk_at "o") e5
   walk_at "o"
  ·have cp:=NJ (G0 pq B7) qe.2
   have Mj:qe.1^qe.2∣o*m:=⟨c,by rw[<-hm];exact hc⟩
   exact cp.dvd_of_dvd_mul_right Mj
 have OR:o<d:=by
  refine Nat.lt_of_not_le fun hle=>?_
  have unit:∀i,i<=N-1->(g^i%d)*(g^(N-1-i)%d)%d=1:=fun i hi=>by
   rw[<-Nat.mul_mod,<-Nat.pow_add,show i+(N-1-i)=N-1 by walk_at "o"];exact f1
  have V9:o<=N-1:=Nat.le_of_dvd (by walk_at "o") od
  have pos:∀i,i<o->0<g^i%d:=fun i hi=>by
   refine Nat.pos_of_ne_zero fun z=>?_
   have:=unit i (by walk_at "o")
   rw[z,Nat.zero_mul,Nat.zero_mod] at this
   cases this
  obtain⟨i,j,h1,h2,h3⟩:=AN (d-1) (fun i=>g^i%d-1) (fun i hi=>by
   have a1:=pos i (by walk_at "o")
   have a2:=Nat.mod_lt (g^i) (show d>0 by walk_at "o")
   walk_at "o")
  have pi:=pos i (by walk_at "o")
  have pj:=pos j (by walk_at "o")
  have e:g^i%d=g^j%d:=by walk_at "o"
  have ej:g^j=g^i*g^(j-i):=by rw[<-Nat.pow_add,show i+(j-i)=j by walk_at "o"]
  have u:=unit i (by walk_at "o")
  have k1:g^(j-i)%d=1:=by
   have w:(g^i%d)*(g^(N-1-i)%d)%d*(g^(j-i)%d)%d=(g^j%d)*(g^(N-1-i)%d)%d:=by
    rw[Vv,<-Nat.mul_mod (g^j),ej]
    congr 1
    rw[Nat.mul_assoc,Nat.mul_assoc,Nat.mul_comm (g^(N-1-i))]
   rw[u,Nat.one_mul,Nat.mod_mod,<-e,u] at w
   exact w
  exact DZ (j-i) (by walk_at "o") ⟨by walk_at "o",k1⟩
 exact Nat.lt_of_le_of_lt (Nat.le_of_dvd o0 parts) OR
theorem Lb{N g:Nat}(fs:List (Nat×Nat))(hN:2<=N)(h1:g^(N-1)%N=1%N)
  (hq:∀qe∈fs,aC qe.1/\qe.1^qe.2∣N-1/\Nat.gcd (g^((N-1)/qe.1)%N+(N-1)) N=1) (hF:N<(ig fs+1)*(ig fs+1)):aC N:=by
 refine⟨hN,fun d hd=>?_⟩
 obtain⟨e,he⟩:=id hd
 by_cases d1:d=1
 ·exact .inl d1
 by_cases e1:e=1
 ·right;rw[he,e1,Nat.mul_one]
 exfalso
 have d0:d≠0:=fun z=>by rw[z,Nat.zero_mul] at he;walk_at "o"
 have e0:e≠0:=fun z=>by rw[z,Nat.mul_zero] at he;walk_at "o"
 have b1:=zG hN hd (by walk_at "o") h1 hq
 have b2:=zG hN ⟨d,by rw[he,Nat.mul_comm]⟩ (show 1<e by walk_at "o") h1 hq
 have:=Nat.mul_le_mul (show ig fs+1<=d from b1) (show ig fs+1<=e from b2)
 walk_at "o"
noncomputable def Di(N g:Nat)(fs:List (Nat×Nat)):Bool:=
 decide (2<=N) && decide (N<2^140) &&(pw N 140 (N-1) g 1%N==1) && fs.all (fun qe=>((N-1)%qe.1^qe.2==0) &&(Nat.gcd (pw N 140 ((N-1)/qe.1) g 1%N+(N-1)) N==1)) && decide (N<(ig fs+1)*(ig fs+1))
theorem bY{N:Nat}(g:Nat)(fs:List (Nat×Nat))(hp:∀qe∈fs,aC qe.1)(h:Di N g fs=true):aC N:=by
 unfold Di at h
 simp only[Bool.and_eq_true,decide_eq_true_eq,beq_iff_eq,List.all_eq_true] at h
 obtain⟨⟨⟨⟨h1,h2⟩,h3⟩,h4⟩,h5⟩:=h
 have P:∀e,e<=N-1->pw N 140 e g 1%N=g^e%N:=fun e he=>by
  rw[C3 140 e g 1 (by walk_at "o"),Nat.one_mul]
 refine Lb (g:=g) fs h1 (by rw[<-P _ (Nat.le_refl _),h3,Nat.mod_eq_of_lt (by walk_at "o")]) (fun qe ql=>?_) h5
 obtain⟨g1,g2⟩:=h4 qe ql
 refine⟨hp qe ql,Nat.dvd_of_mod_eq_zero g1,?_⟩
 rw[<-P _ (Nat.div_le_self _ _)]
 exact g2
end PC
set_option maxRecDepth 100000
set_option maxHeartbeats 1000000
namespace PC
theorem uf:aC 2:=bG 4 (by decide) (by decide+kernel)
theorem VJ:aC 3:=bG 4 (by decide) (by decide+kernel)
theorem IS:aC 5:=bG 5 (by decide) (by decide+kernel)
theorem yM:aC 7:=bG 5 (by decide) (by decide+kernel)
theorem Kr:aC 11:=bG 6 (by decide) (by decide+kernel)
theorem V1:aC 101:=bG 13 (by decide) (by decide+kernel)
theorem Oz:aC 10007:=bG 103 (by decide) (by decide+kernel)
theorem LN:aC 65537:=bG 259 (by decide) (by decide+kernel)
theorem TL:aC 1000003:=bG 1003 (by decide) (by decide+kernel)
theorem Qx:aC 17:=bG 7 (by decide) (by decide+kernel)
theorem Gf:aC 998244353:=bY 3 [(17,1),(7,1),(2,23)] (fun qe h=>by
 simp only[List.mem_cons,List.not_mem_nil,or_false] at h
 rcases h with rfl|rfl|rfl
 ·exact Qx
 ·exact yM
 ·exact uf) (by decide+kernel)
theorem RY:aC 148721:=bG 388 (by decide) (by decide+kernel)
theorem V7:aC 500000003:=bY 2 [(148721,1)] (fun qe h=>by
 simp only[List.mem_cons,List.not_mem_nil,or_false] at h
 subst h;exact RY) (by decide+kernel)
theorem LX:aC 1000000007:=bY 2 [(500000003,1)] (fun qe h=>by
 simp only[List.mem_cons,List.not_mem_nil,or_false] at h
 subst h;exact V7) (by decide+kernel)
theorem DX:aC 331:=bG 21 (by decide) (by decide+kernel)
theorem Dk:aC 151:=bG 15 (by decide) (by decide+kernel)
theorem PM:aC 2147483647:=bY 3 [(331,1),(151,1)] (fun qe h=>by
 simp only[List.mem_cons,List.not_mem_nil,or_false] at h
 rcases h with rfl|rfl
 ·exact DX
 ·exact Dk) (by decide+kernel)
theorem FD:aC 250049:=bG 503 (by decide) (by decide+kernel)
theorem UN:aC 26005097:=bY 2 [(250049,1)] (fun qe h=>by
 simp only[List.mem_cons,List.not_mem_nil,or_false] at h
 subst h;exact FD) (by decide+kernel)
theorem O7:aC 1000000000039:=bY 2 [(26005097,1)] (fun qe h=>by
 simp only[List.mem_cons,List.not_mem_nil,or_false] at h
 subst h;exact UN) (by decide+kernel)
theorem Ie:aC 234931:=bG 487 (by decide) (by decide+kernel)
theorem L1:aC 8740842787:=bY 2 [(234931,1)] (fun qe h=>by
 simp only[List.mem_cons,List.not_mem_nil,or_false] at h
 subst h;exact Ie) (by decide+kernel)
theorem FF:aC 52445056723:=bY 2 [(8740842787,1)] (fun qe h=>by
 simp only[List.mem_cons,List.not_mem_nil,or_false] at h
 subst h;exact L1) (by decide+kernel)
theorem Ln:aC 1000000000000000003:=bY 2 [(52445056723,1)] (fun qe h=>by
 simp only[List.mem_cons,List.not_mem_nil,or_false] at h
 subst h;exact FF) (by decide+kernel)
theorem Il:aC 15331:=bG 126 (by decide) (by decide+kernel)
theorem V0:aC 2131:=bG 49 (by decide) (by decide+kernel)
theorem O5:aC 5594472617641:=bY 2 [(15331,1),(2131,1)] (fun qe h=>by
 simp only[List.mem_cons,List.not_mem_nil,or_false] at h
 rcases h with rfl|rfl
 ·exact Il
 ·exact V0) (by decide+kernel)
theorem Ly:aC 18446744073709551557:=bY 2 [(5594472617641,1)] (fun qe h=>by
 simp only[List.mem_cons,List.not_mem_nil,or_false] at h
 subst h;exact O5) (by decide+kernel)
theorem M0:aC 1321:=bG 39 (by decide) (by decide+kernel)
theorem PX:aC 61:=bG 10 (by decide) (by decide+kernel)
theorem NF:aC 2305843009213693951:=bY 3 [(1321,1),(331,1),(151,1),(61,1)] (fun qe h=>by
 simp only[List.mem_cons,List.not_mem_nil,or_false] at h
 rcases h with rfl|rfl|rfl|rfl
 ·exact M0
 ·exact DX
 ·exact Dk
 ·exact PX) (by decide+kernel)
theorem R3:aC 8707:=bG 96 (by decide) (by decide+kernel)
theorem Iu:aC 1913:=bG 46 (by decide) (by decide+kernel)
theorem FQ:aC 2931542417:=bY 3 [(8707,1),(1913,1)] (fun qe h=>by
 simp only[List.mem_cons,List.not_mem_nil,or_false] at h
 rcases h with rfl|rfl
 ·exact R3
 ·exact Iu) (by decide+kernel)
theorem UH:aC 2113:=bG 48 (by decide) (by decide+kernel)
theorem Uc:aC 683:=bG 29 (by decide) (by decide+kernel)
theorem Ic:aC 618970019642690137449562111:=bY 3 [(2931542417,1),(2113,1),(683,1)] (fun qe h=>by
 simp only[List.mem_cons,List.not_mem_nil,or_false] at h
 rcases h with rfl|rfl|rfl
 ·exact FQ
 ·exact UH
 ·exact Uc) (by decide+kernel)
theorem RQ:aC 1097:=bG 36 (by decide) (by decide+kernel)
theorem Ny:aC 131:=bG 14 (by decide) (by decide+kernel)
theorem Nc:aC 67254877:=bY 2 [(1097,1),(131,1)] (fun qe h=>by
 simp only[List.mem_cons,List.not_mem_nil,or_false] at h
 rcases h with rfl|rfl
 ·exact RQ
 ·exact Ny) (by decide+kernel)
theorem LA:aC 28059810762433:=bY 3 [(67254877,1)] (fun qe h=>by
 simp only[List.mem_cons,List.not_mem_nil,or_false] at h
 subst h;exact Nc) (by decide+kernel)
theorem JW:aC 53:=bG 10 (by decide) (by decide+kernel)
theorem MY:aC 37:=bG 9 (by decide) (by decide+kernel)
theorem K1:aC 13:=bG 6 (by decide) (by decide+kernel)
theorem RU:aC 20394401:=bY 3 [(53,1),(37,1),(13,1)] (fun qe h=>by
 simp only[List.mem_cons,List.not_mem_nil,or_false] at h
 rcases h with rfl|rfl|rfl
 ·exact JW
 ·exact MY
 ·exact K1) (by decide+kernel)
theorem GF:aC 162259276829213363391578010288127:=bY 3 [(28059810762433,1),(20394401,1)] (fun qe h=>by
 simp only[List.mem_cons,List.not_mem_nil,or_false] at h
 rcases h with rfl|rfl
 ·exact LA
 ·exact RU) (by decide+kernel)
theorem Ob:aC 699053:=bG 839 (by decide) (by decide+kernel)
theorem Oc:aC 77158673929:=bY 3 [(699053,1)] (fun qe h=>by
 simp only[List.mem_cons,List.not_mem_nil,or_false] at h
 subst h;exact Ob) (by decide+kernel)
theorem G3:aC 649657:=bG 809 (by decide) (by decide+kernel)
theorem RZ:aC 92737:=bG 307 (by decide) (by decide+kernel)
theorem Hx:aC 170141183460469231731687303715884105727:=bY 3 [(77158673929,1),(649657,1),(92737,1)] (fun qe h=>by
 simp only[List.mem_cons,List.not_mem_nil,or_false] at h
 rcases h with rfl|rfl|rfl
 ·exact Oc
 ·exact G3
 ·exact RZ) (by decide+kernel)
theorem Ko:aC 7963:=bG 92 (by decide) (by decide+kernel)
theorem Pp:aC 3011:=bG 57 (by decide) (by decide+kernel)
theorem LB:aC 575438233:=bY 2 [(7963,1),(3011,1)] (fun qe h=>by
 simp only[List.mem_cons,List.not_mem_nil,or_false] at h
 rcases h with rfl|rfl
 ·exact Ko
 ·exact Pp) (by decide+kernel)
theorem TN:aC 52316542391429:=bY 2 [(575438233,1)] (fun qe h=>by
 simp only[List.mem_cons,List.not_mem_nil,or_false] at h
 subst h;exact LB) (by decide+kernel)
theorem NQ:aC 104633084782859:=bY 2 [(52316542391429,1)] (fun qe h=>by
 simp only[List.mem_cons,List.not_mem_nil,or_false] at h
 subst h;exact TN) (by decide+kernel)
theorem GS:aC 179:=bG 16 (by decide) (by decide+kernel)
theorem SJ:aC 31:=bG 8 (by decide) (by decide+kernel)
theorem OB:aC 7935071:=bY 2 [(179,1),(31,1)] (fun qe h=>by
 simp only[List.mem_cons,List.not_mem_nil,or_false] at h
 rcases h with rfl|rfl
 ·exact GS
 ·exact SJ) (by decide+kernel)
theorem Ht:aC 15870143:=bY 2 [(7935071,1)] (fun qe h=>by
 simp only[List.mem_cons,List.not_mem_nil,or_false] at h
 subst h;exact OB) (by decide+kernel)
theorem UY:aC 401321030361983486780957614729:=bY 2 [(104633084782859,1),(15870143,1)] (fun qe h=>by
 simp only[List.mem_cons,List.not_mem_nil,or_false] at h
 rcases h with rfl|rfl
 ·exact NQ
 ·exact Ht) (by decide+kernel)
theorem Qy:aC 1000000000000000000000000000000000000003:=bY 2 [(401321030361983486780957614729,1)] (fun qe h=>by
 simp only[List.mem_cons,List.not_mem_nil,or_false] at h
 subst h;exact UY) (by decide+kernel)
theorem Vb:aC 25733:=bG 163 (by decide) (by decide+kernel)
theorem Qv:aC 1151:=bG 36 (by decide) (by decide+kernel)
theorem Nz:aC 4916701379:=bY 2 [(25733,1),(1151,1)] (fun qe h=>by
 simp only[List.mem_cons,List.not_mem_nil,or_false] at h
 rcases h with rfl|rfl
 ·exact Vb
 ·exact Qv) (by decide+kernel)
theorem GK:aC 83:=bG 12 (by decide) (by decide+kernel)
theorem JC:aC 23:=bG 7 (by decide) (by decide+kernel)
theorem FP:aC 1676254721:=bY 5 [(83,1),(23,1),(7,3)] (fun qe h=>by
 simp only[List.mem_cons,List.not_mem_nil,or_false] at h
 rcases h with rfl|rfl|rfl
 ·exact GK
 ·exact JC
 ·exact yM) (by decide+kernel)
theorem Pu:aC 149927568276670622397029177:=bY 2 [(4916701379,1),(1676254721,1)] (fun qe h=>by
 simp only[List.mem_cons,List.not_mem_nil,or_false] at h
 rcases h with rfl|rfl
 ·exact Nz
 ·exact FP) (by decide+kernel)
theorem M9:aC 9999999999999999999999999999999999999983:=bY 2 [(149927568276670622397029177,1)] (fun qe h=>by
 simp only[List.mem_cons,List.not_mem_nil,or_false] at h
 subst h;exact Pu) (by decide+kernel)
end PC
namespace L2
open PC
noncomputable def dP(p:Int):Prop:=2<=p/\∀d:Int,0<d->d∣p->d=1\/d=p
theorem dj{n:Nat}(h:aC n):dP (n:Int):=by
 refine⟨by have:=h.1;walk_at "o",fun d d0 hd=>?_⟩
 obtain⟨k,rfl⟩:=Int.eq_ofNat_of_zero_le (Int.le_of_lt d0)
 rcases h.2 k (Int.natCast_dvd_natCast.mp hd) with e|e
 ·left;rw[e];rfl
 ·right;rw[e]
theorem TQ{p:Int}(h2:2<=p)(h:qo p):dP p:=by
 obtain⟨n,rfl⟩:=Int.eq_ofNat_of_zero_le (show 0<=p by walk_at "o")
 refine dj (DR (by walk_at "o") fun e e1 e2 e3=>?_)
 refine h (e:Int) (by walk_at "o") (by rw[<-Int.natCast_mul];exact Int.ofNat_le.mpr e2) ?_
 have:=congrArg (Nat.cast:Nat->Int) e3
 simpa using this
theorem Le:∀p∈p8,dP p:=by
 intro p hp
 simp only[p8,List.mem_cons,List.not_mem_nil,or_false] at hp
 rcases hp with rfl|rfl|rfl|rfl|rfl|rfl|rfl|rfl|rfl|rfl|rfl|rfl|rfl|rfl|rfl|rfl|rfl|rfl|rfl|rfl|rfl|rfl
 ·exact dj uf
 ·exact dj VJ
 ·exact dj IS
 ·exact dj yM
 ·exact dj uf
 ·exact dj Kr
 ·exact dj V1
 ·exact dj Oz
 ·exact dj LN
 ·exact dj TL
 ·exact dj Gf
 ·exact dj LX
 ·exact dj PM
 ·exact dj O7
 ·exact dj Ln
 ·exact dj Ly
 ·exact dj NF
 ·exact dj Ic
 ·exact dj GF
 ·exact dj Hx
 ·exact dj Qy
 ·exact dj M9
noncomputable def zH:Sp:=fun vs H Q _=>∃p b:Int,vs=[.int p, .int b]/\dP p/\p<10^40/\b%p≠0/\∀u:Int,0<=u->u<p->(∃k,u*b=1+p*k)->Q (.int u) H
noncomputable def sM:Sp:=fun vs H Q _=>∃p a b:Int,vs=[.int p, .int a, .int b]/\dP p/\p<10^40/\b%p≠0/\ -(10^61)<=a/\a<=10^61/\∀x:Int,0<=x->x<p->(∃k,b*x-a=p*k)->Q (.int x) H
end L2
set_option maxRecDepth 100000
set_option maxHeartbeats 4000000
namespace L2
open PySem PySem.Spec PyProof.Rows
theorem af.three{nb:Addr->Prop}{H:Hp}{a b c:PyData}{vs:List V}(h:af nb H [a,b,c] vs):∃x y z,vs=[x,y,z]/\ah nb H a x/\ah nb H b y/\ah nb H c z:=by
 unfold af at h
 obtain⟨x,ys,rfl,h1,h⟩:=h
 unfold af at h
 obtain⟨y,zs,rfl,h2,h⟩:=h
 unfold af at h
 obtain⟨z,ws,rfl,h3,h⟩:=h
 unfold af at h
 subst h
 exact⟨x,y,z,rfl,h1,h2,h3⟩
theorem Ev.over{G:Gx}{ρ:Rh}{t:TA}{Φ:Pd}(h:Av G ρ t fun es=>∃p a b:Int,es.map (·.2)=[.int p, .int a, .int b]/\dP p/\p<10^40/\b%p≠0/\ -(10^61)<=a/\a<=10^61/\∀x:Int,0<=x->x<p->(∃k,b*x-a=p*k)->Φ true (.int x)):
  Ev G ρ (d8 sM [] E0 t) Φ:=fun nb σ H Q W z=>
 h nb σ H _ W fun es vs H1 ⟨p,a,b,e,h1,h2,h3,h4,h5,q⟩ s1 q1=>by
  have hd:=q1.all (f:=false) (fun z=>by cases z)
  rw[e] at hd
  obtain⟨x,y,w,rfl,d1,d2,d3⟩:=hd.three
  rw[d1.bB,d2.bB,d3.bB]
  exact⟨p,a,b,rfl,h1,h2,h3,h4,h5,fun x x1 x2 x3=>z true _ H1 _ (q x x1 x2 x3) s1 (.int x)⟩
theorem Vq{p a b:Int}(hp:dP p)(h:p∣a*b)(ha:¬p∣a):p∣b:=by
 have p2:=hp.1
 have g1:((Int.gcd a p:Nat):Int)∣p:=Int.gcd_dvd_right ..
 have g2:((Int.gcd a p:Nat):Int)∣a:=Int.gcd_dvd_left ..
 have g0:0<((Int.gcd a p:Nat):Int):=by
  have:Int.gcd a p≠0:=fun z=>by have:=(Int.gcd_eq_zero_iff.mp z).2;walk_at "o"
  walk_at "o"
 rcases hp.2 _ g0 g1 with e|e
 ·have c:Nat.Coprime p.natAbs a.natAbs:=by
   show Nat.gcd p.natAbs a.natAbs=1
   have:Int.gcd a p=1:=by walk_at "o"
   rw[Nat.gcd_comm];exact this
  have h':p.natAbs∣b.natAbs*a.natAbs:=by rw[Nat.mul_comm,<-Int.natAbs_mul];exact Int.natAbs_dvd_natAbs.mpr h
  exact Int.natAbs_dvd_natAbs.mp (c.dvd_of_dvd_mul_right h')
 ·rw[e] at g2;exact absurd g2 ha
theorem OZ{p a b:Int}(ha:0<=a)(ha':a<p)(hb:0<=b)(hb':b<p)(h:p∣a-b):a=b:=by
 obtain⟨k,e⟩:=h
 rcases Int.lt_trichotomy k 0 with z|z|z
 ·have:p*k<=p*(-1):=Int.mul_le_mul_of_nonneg_left (by walk_at "o") (by walk_at "o")
  walk_at "o"
 ·subst z;walk_at "o"
 ·have:p*1<=p*k:=Int.mul_le_mul_of_nonneg_left (by walk_at "o") (by walk_at "o")
  walk_at "o"
end L2
set_option maxRecDepth 100000
set_option maxHeartbeats 4000000
set_option maxRecDepth 100000
set_option maxHeartbeats 4000000
set_option maxRecDepth 100000
set_option maxHeartbeats 4000000
namespace L2
open PySem PySem.Spec PyProof.Rows
section
variable{G:Gx}{ρ:Rh}{Φ:Pd}{te:TE}{t:TA}{i n:Nat}{f:Bool}{ds:List PyData}{Θ:List PyData->Prop}
theorem Ev.tupS(h:Av G ρ t fun es=>es.length<=10000/\Φ (gK es||dw (es.map (·.2))) (.tuple (es.map (·.2)))):Ev G ρ (pT t) Φ:=fun nb σ H Q W z=>
 h nb σ H _ W fun es vs H1 ⟨hl,p⟩ s1 q1=>⟨Nat.le_trans (by rw[q1.len];exact hl) (by decide),fun a ha=>z _ _ _ _ p (s1.trans (.same (W.step s1).ak (cJ ha))) (by
  cases hs:dw (es.map (·.2)) with
  |true=>rw[Bool.or_true];exact .tup ((W.step s1).fresh ha) aY ((q1.all (f:=false) fun z=>by cases z).iH hs)
  |false=>rw[Bool.or_false];exact .tup ((W.step s1).fresh ha) aY ((q1.all fun z=>z).keep (aH.of (cJ ha))))⟩
theorem Ev.GC(h:Ev G ρ te fun _ x=>∃n:Int,x= .int n/\2<=n/\n<=10002/\∀r:Int,dP r->r<10^40->Φ true (.int r)):Ev G ρ (d8 yX [] E0 (aV te bz)) Φ:=fun nb σ H Q W z=>
 h nb σ H _ W fun f v H1 d ⟨n,e,h1,h2,p⟩ s1 hv=>by
  subst e
  exact⟨n,by rw[hv.bB];rfl,h1,h2,fun r H' sm r1 r2 r3=>z true _ H' _ (p r (TQ r1 r3) (by walk_at "o")) (s1.trans (.same (W.step s1).ak sm)) (.int r)⟩
theorem Ev.str{x:Str}(h:Φ true (.str x)):Ev G ρ (tC (.str x)) Φ:=fun nb σ H Q W z=>z true _ H _ h (.refl W.ak) (by unfold ah;rfl)
end
theorem Eu.fin{p b L lt t:Int}(h:Eu p b L lt 0 t)(hp:dP p)(hb:b%p≠0):∃k,lt%p*b=1+p*k:=by
 obtain⟨g1,g2⟩:=h.dv L (Int.dvd_refl L) (Int.dvd_zero L)
 have m1:=Int.emod_nonneg b (show p≠0 by have:=hp.1;walk_at "o")
 have m2:=Int.emod_lt_of_pos b (show 0<p by have:=hp.1;walk_at "o")
 have hL:L=1:=by
  rcases hp.2 L h.l0 g1 with e|e
  ·exact e
  ·exfalso
   rw[e] at g2
   have:=Int.le_of_dvd (by walk_at "o") g2
   walk_at "o"
 obtain⟨k,hk⟩:=h.lc
 have e:=Int.mul_ediv_add_emod lt p
 refine⟨-k-lt/p*b,?_⟩
 have e2:lt%p=lt-p*(lt/p):=by walk_at "o"
 rw[e2,Int.sub_mul,Int.mul_sub,Int.mul_neg,Int.mul_assoc]
 walk_at "o"
noncomputable def sol(p b a:Int):Int:=open Classical in if h:∃x,0<=x/\x<p/\∃k,b*x-a=p*k then Classical.choose h else 0
theorem zD{p b a x:Int}(hp:dP p)(hb:b%p≠0)(h0:0<=x)(h1:x<p)(hx:∃k,b*x-a=p*k):x=sol p b a:=by
 have ex:∃x,0<=x/\x<p/\∃k,b*x-a=p*k:=⟨x,h0,h1,hx⟩
 unfold sol
 rw[dif_pos ex]
 obtain⟨g0,g1,k',hk'⟩:=Classical.choose_spec ex
 generalize Classical.choose ex=y at*
 obtain⟨k,hk⟩:=hx
 refine OZ h0 h1 g0 g1 (Vq hp (a:=b) ⟨k-k',?_⟩ fun z=>hb (Int.emod_eq_zero_of_dvd z))
 rw[Int.mul_sub,Int.mul_sub];walk_at "o"
theorem DS{p b a:Int}(hp:0<p):0<=sol p b a/\sol p b a<p:=by
 unfold sol
 split
 ·rename_i h
  obtain⟨g0,g1,_⟩:=Classical.choose_spec h
  exact⟨g0,g1⟩
 ·walk_at "o"
noncomputable def bW(wd:Wo)(prs:aq):aq:=prs.filter fun pr=>wd[pr.1.toNat]?==some none
theorem Ey{wd:Wo}{prs:aq}{pr:Int×Int}:bW wd (prs++[pr])=if wd[pr.1.toNat]?=some none then bW wd prs++[pr] else bW wd prs:=by
 unfold bW
 rw[List.filter_append]
 by_cases c:wd[pr.1.toNat]?=some none
 ·rw[if_pos c,List.filter_cons_of_pos (by rw[c];rfl)];rfl
 ·rw[if_neg c,List.filter_cons_of_neg (by simpa using c)];simp
noncomputable def cA(p:Int)(prs:aq)(rest:Int)(wd:Wo):Option (Int×Int):=match bW wd prs with
 |[pr]=>some (pr.1,sol p pr.2 (rest-aW prs wd%p))
 |_=>none
noncomputable def zI:Option (Int×Int)->PyData
 |none=> .none
 |some pr=>pairD pr
noncomputable def cg(wd:Wo):List Int:=((List.range wd.length).filter fun i=>wd[i]?==some none).map fun(i:Nat)=>(i:Int)
noncomputable def v5(p:Int)(prs:aq):Prop:=∀pr∈prs,pr.2%p≠0
noncomputable def e7(p:Int)(cs:List aq)(m:Nat):Prop:=dP p/\p<10^40/\cs.length<=1000/\∀prs∈cs,prs.length<=1000/\nI prs m/\v5 p prs
theorem e7.at{p:Int}{cs:List aq}{m:Nat}{c:Int}(h:e7 p cs m)(h0:0<=c)(h1:c<cs.length):∃prs,cs[c.toNat]?=some prs/\cs.getD c.toNat []=prs/\prs.length<=1000/\nI prs m/\v5 p prs:=by
 have hc:c.toNat<cs.length:=by walk_at "o"
 refine⟨cs[c.toNat],List.getElem?_eq_getElem hc,?_,h.2.2.2 _ (List.getElem_mem hc)⟩
 rw[List.getD_eq_getElem?_getD,List.getElem?_eq_getElem hc];rfl
noncomputable abbrev bK:=Int×Int×Int
noncomputable abbrev rj(m:bK):PyData:= .tuple [.int m.1, .int m.2.1, .int m.2.2]
noncomputable def nX(p:Int)(cs:List aq)(wd:Wo)(m:bK):PyData:=
 if m.2.1<0\/(cs.length:Int)<=m.2.1 then .str "check" else match cA p (cs.getD m.2.1.toNat []) 0 wd with
 |none=> .str "place"
 |some (a,x)=>if a≠m.1 then .str "place" else if x≠m.2.2 then .str "letter" else .none
noncomputable def putAll(wd:Wo)(ms:List bK):Wo:=ms.foldl (fun w m=>w.set m.1.toNat (some m.2.2)) wd
theorem putAll_snoc{wd:Wo}{ms:List bK}{m:bK}:putAll wd (ms++[m])=(putAll wd ms).set m.1.toNat (some m.2.2):=by
 unfold putAll;rw[List.foldl_append];rfl
noncomputable def Rf(p:Int)(cs:List aq)(wd:Wo)(ms:List bK)(j:Nat):Prop:=∃m,ms[j]?=some m/\nX p cs (putAll wd (ms.take j)) m= .none
noncomputable def outs(p:Int)(cs:List aq)(w:Wo):List Nat:=(List.range cs.length).filter fun c=>(cA p (cs.getD c []) 0 w).isSome
theorem rS{wd:Wo}{prs:aq}{pr:Int×Int}(h:pr∈bW wd prs):pr∈prs/\wd[pr.1.toNat]?=some none:=by
 unfold bW at h
 have:=List.mem_filter.mp h
 exact⟨this.1,by simpa using this.2⟩
theorem o8{p:Int}{prs:aq}{rest:Int}{wd:Wo}{a x:Int}(hp:0<p)(h:cA p prs rest wd=some (a,x)):∃pr∈prs,pr.1=a/\wd[a.toNat]?=some none/\0<=x/\x<p:=by
 unfold cA at h
 split at h
 ·rename_i pr e
  cases h
  have:=rS (wd:=wd) (prs:=prs) (pr:=pr) (by rw[e];simp)
  exact⟨pr,this.1,rfl,this.2,DS hp⟩
 ·cases h
theorem Dl{n:Nat}{k:Int}(h0:0<=k)(h1:k<n):eX n k=some k.toNat:=by
 unfold eX;rw[if_pos h0,if_pos h1]
theorem ja{wd:Wo}{ms:List bK}:(putAll wd ms).length=wd.length:=by
 unfold putAll
 induction ms generalizing wd with
 |nil=>rfl
 |cons m r ih=>rw[List.foldl_cons,ih,List.length_set]
theorem cQ{X:Cx}{K:PySem.W.Frag}{tg l:Expr}{tl:TE}(hK:X.K=K)(hl:PE X l tl):PI X tg l (kh K tl):=by subst hK;exact J0 hl
theorem Rk{env:Env}{n:Str}{l:List (Str×NameKind)}:(List.lookup n l=some .cell\/List.lookup n l=some .free)->
    (List.lookup n (l.map fun x => match x with | (n, k) => if (k == NameKind.free && env.scope.kind == ScopeKind.function && env.kindOf n == some NameKind.cell) = true then (n, NameKind.cell) else (n, k)) = some .cell \/
     List.lookup n (l.map fun x=>match x with|(n,k)=>if(k==NameKind.free && env.scope.kind==ScopeKind.function && env.kindOf n==some NameKind.cell)=true then(n,NameKind.cell) else(n,k))=some .free):=by
  induction l with
  |nil=>intro h;simpa using h
  | cons a r ih =>
    obtain⟨m,k⟩:=a
    intro h
    rw[List.map_cons]
    by_cases c:n=m
    · subst c
      rw[List.lookup_cons_self] at h
      dsimp only
      split
      · rw[List.lookup_cons_self];exact .inl rfl
      · rw[List.lookup_cons_self];exact h
    · have hb:(n==m)=false:=by simpa using c
      have e1:List.lookup n ((m,k)::r)=List.lookup n r:=by rw[List.lookup_cons,hb]
      rw[e1] at h
      dsimp only
      split
      · rw[List.lookup_cons,hb];exact ih h
      · rw[List.lookup_cons,hb];exact ih h
end L2
set_option maxRecDepth 100000
set_option maxHeartbeats 4000000
namespace L2
open PySem PySem.Spec PyProof.Rows
noncomputable def iu(p:Int)(cs:List aq)(wd:Wo)(ms:List bK):Prop:=∀j<ms.length,Rf p cs wd ms j
theorem P0{wd:Wo}{ms:List bK}{i:Nat}(h:(putAll wd ms)[i]?=some none):wd[i]?=some none:=by
  induction ms generalizing wd with
  |nil=>exact h
  | cons m r ih =>
    have h2:=ih (wd:=wd.set m.1.toNat (some m.2.2)) h
    by_cases c:m.1.toNat=i
    · subst c
      by_cases hl:m.1.toNat<wd.length
      · rw[List.getElem?_set_self hl] at h2;cases h2
      · rw[List.getElem?_eq_none (by rw[List.length_set];walk_at "o")] at h2;cases h2
    · rwa[List.getElem?_set_ne c] at h2
theorem p6{p:Int}{cs:List aq}{wd:Wo}{m:bK}(h:nX p cs wd m= .none):0<=m.2.1/\m.2.1<cs.length/\cA p (cs.getD m.2.1.toNat []) 0 wd=some (m.1,m.2.2):=by
 unfold nX at h
 split at h
 ·cases h
 rename_i c
 split at h
 ·cases h
 rename_i a x e
 split at h
 ·cases h
 rename_i c3
 split at h
 ·cases h
 rename_i c4
 have c3:a=m.1:=by walk_at "o"
 have c4:x=m.2.2:=by walk_at "o"
 subst c3 c4
 exact⟨by walk_at "o",by walk_at "o",e⟩
theorem zv{p:Int}{prs:aq}{wd:Wo}{a x:Int}(h:cA p prs 0 wd=some (a,x)):∃pr,bW wd prs=[pr]/\pr.1=a/\x=sol p pr.2 (0-aW prs wd%p):=by
 unfold cA at h
 split at h
 ·rename_i pr e
  cases h
  exact⟨pr,e,rfl,rfl⟩
 ·cases h
theorem U4{p:Int}{prs:aq}{wd:Wo}{pr:Int×Int}(h:bW wd prs=[pr]):(cA p prs 0 wd).isSome=true:=by
 unfold cA
 rw[h]<;>rfl
theorem Ja{p:Int}{cs:List aq}{w:Wo}(h:outs p cs w=[]){c:Nat}(hc:c<cs.length):(cA p (cs.getD c []) 0 w).isSome=false:=by
 unfold outs at h
 rw[List.filter_eq_nil_iff] at h
 have:=h c (List.mem_range.mpr hc)
 simpa using this
theorem LG{p:Int}{cs:List aq}{wd:Wo}{a c x:Int}(h0:0<=c)(h1:c<cs.length)(h:cA p (cs.getD c.toNat []) 0 wd=some (a,x)):nX p cs wd (a,c,x)= .none:=by
 unfold nX
 rw[if_neg (by show¬(c<0\/(cs.length:Int)<=c);walk_at "o")]
 show(match cA p (cs.getD c.toNat []) 0 wd with|none=>_|some (a',x')=>_)=_
 rw[h]
 simp
noncomputable def cnt(wd:Wo):Nat:=wd.countP fun o=>o.isNone
theorem A0:∀{wd:Wo} {k:Nat} {x:Int},wd[k]?=some none->cnt (wd.set k (some x))+1=cnt wd
  |[],k,x,h=>by simp at h
  | o :: wd, 0, x, h => by
    simp at h
    subst h
    simp[cnt]
  | o :: wd, k + 1, x, h => by
    have ih:=A0 (wd:=wd) (k:=k) (x:=x) (by simpa using h)
    unfold cnt at ih⊢
    rw[List.set_cons_succ,List.countP_cons,List.countP_cons]
    walk_at "o"
theorem DU{p:Int}{cs:List aq}{wd:Wo}{ms:List bK}(hp:0<p)(h1:iu p cs wd ms):∀j,j<=ms.length->cnt (putAll wd (ms.take j))+j=cnt wd
  |0,_=>by simp[putAll]
  | j + 1, hj => by
    have ih:=DU hp h1 j (by walk_at "o")
    obtain⟨m,e1,e2⟩:=h1 j (by walk_at "o")
    rw[take_snoc e1,putAll_snoc]
    obtain⟨c0,c1,e3⟩:=p6 e2
    obtain⟨pr,g1,g2,g3,_⟩:=o8 hp e3
    have:=A0 (x:=m.2.2) g3
    walk_at "o"
theorem OE(wd:Wo):cnt wd<=wd.length:=List.countP_le_length
noncomputable def Agree(os:List Int)(wd:Wo):Prop:=∀(i:Nat) (x:Int),wd[i]?=some (some x)->os[i]?=some x
theorem Fb{os:List Int}{wd:Wo}(hl:wd.length=os.length)(ha:Agree os wd):∀{prs:aq},(∀pr∈prs,0<=pr.1/\pr.1<wd.length)->
    aW prs (os.map some)=aW prs wd+((bW wd prs).map fun q=>q.2*os.getD q.1.toNat 0).sum
  |[],_=>by simp[aW,bW]
  | pr :: prs, h => by
    have ih:=Fb hl ha (prs:=prs) fun q hq=>h q (List.mem_cons_of_mem _ hq)
    obtain⟨h0,h1⟩:=h pr (List.mem_cons_self ..)
    have k1:pr.1.toNat<wd.length:=by walk_at "o"
    have k2:pr.1.toNat<os.length:=by walk_at "o"
    rw[wF,wF,ih,EF (w:=os) (List.getElem?_eq_getElem k2)]
    have eg:os.getD pr.1.toNat 0=os[pr.1.toNat]:=by rw[List.getD_eq_getElem?_getD,List.getElem?_eq_getElem k2];rfl
    cases e:wd[pr.1.toNat] with
    | none =>
      have e2:wd[pr.1.toNat]?=some none:=by rw[List.getElem?_eq_getElem k1,e]
      have e3:bW wd (pr::prs)=pr::bW wd prs:=by unfold bW;rw[List.filter_cons_of_pos (by rw[e2];rfl)]
      have e4:fG wd pr=0:=by unfold fG;rw[e2]
      rw[e3,List.map_cons,List.sum_cons,e4,eg]
      walk_at "o"
    | some x =>
      have e2:wd[pr.1.toNat]?=some (some x):=by rw[List.getElem?_eq_getElem k1,e]
      have e3:bW wd (pr::prs)=bW wd prs:=by unfold bW;rw[List.filter_cons_of_neg (by rw[e2];simp)]
      have e4:fG wd pr=pr.2*x:=by unfold fG;rw[e2]
      have e5:=ha _ _ e2
      rw[List.getElem?_eq_getElem k2] at e5
      cases e5
      rw[e3,e4]
      walk_at "o"
theorem AB{p:Int}{cs:List aq}{wd:Wo}{ms:List bK}{os:List Int}(hN:e7 p cs wd.length)(hl:wd.length=os.length)(hos:∀x∈os,0<=x/\x<p)(ht:∀prs∈cs,aW prs (os.map some)%p=0)(ha:Agree os wd)(h1:iu p cs wd ms):
    ∀j,j<=ms.length->Agree os (putAll wd (ms.take j))
  |0,_=>by simpa[putAll] using ha
  | j + 1, hj => by
    have ih:=AB hN hl hos ht ha h1 j (by walk_at "o")
    obtain⟨m,e1,e2⟩:=h1 j (by walk_at "o")
    rw[take_snoc e1,putAll_snoc]
    obtain⟨c0,c1,e3⟩:=p6 e2
    obtain⟨prs,g1,g2,g3,g4,g5⟩:=hN.at c0 c1
    rw[g2] at e3
    obtain⟨pr,e4,e5,e6⟩:=zv e3
    have dQ:prs∈cs:=List.mem_of_getElem? g1
    have hle:(putAll wd (ms.take j)).length=wd.length:=ja
    have hd:=Fb (by rw[hle];exact hl) ih (prs:=prs) fun q hq=>by rw[hle];exact⟨(g4 q hq).1,(g4 q hq).2.1⟩
    have mZ:pr∈prs:=(rS (wd:=putAll wd (ms.take j)) (by rw[e4];simp)).1
    have k2:pr.1.toNat<os.length:=by have:=g4 pr mZ;walk_at "o"
    rw[e4] at hd
    simp only[List.map_cons,List.map_nil,List.sum_cons,List.sum_nil,Int.add_zero] at hd
    have eg:os.getD pr.1.toNat 0=os[pr.1.toNat]:=by rw[List.getD_eq_getElem?_getD,List.getElem?_eq_getElem k2];rfl
    rw[eg] at hd
    have ho:=hos _ (List.getElem_mem k2)
    have hz:=ht prs dQ
    have p2:=hN.1.1
    have es:os[pr.1.toNat]=sol p pr.2 (0-aW prs (putAll wd (ms.take j))%p):=by
      refine zD hN.1 (g5 pr mZ) ho.1 ho.2 ?_
      have d1:=Int.mul_ediv_add_emod (aW prs (putAll wd (ms.take j))) p
      have d2:=Int.mul_ediv_add_emod (aW prs (os.map some)) p
      generalize aW prs (putAll wd (ms.take j))=S at*
      generalize aW prs (os.map some)=T at*
      generalize os[pr.1.toNat]=o at*
      refine⟨T/p-S/p,?_⟩
      rw[Int.mul_sub]
      walk_at "o"
    intro i x hx
    by_cases c:m.1.toNat=i
    · subst c
      have hk:m.1.toNat<(putAll wd (ms.take j)).length:=by
        rw[hle,hl,<-e5];exact k2
      rw[List.getElem?_set_self hk] at hx
      cases hx
      rw[<-e5,List.getElem?_eq_getElem k2,es,e6]
    · rw[List.getElem?_set_ne c] at hx
      exact ih i x hx
section
variable{G:Gx}{ρ:Rh}{Φ:Pd}{ta tb te:TE}{E:DE}{K:PySem.W.Frag}
theorem Ev.WO{tl th:TO}(h:Ev G ρ te fun f x=>∃ds,x= .tuple ds/\Ov G ρ tl fun lo=>Ov G ρ th fun hi=>¬(HT.cW ds.length 0 lo=0/\HT.cW ds.length ds.length hi=ds.length)/\Φ f (.tuple (iU ds lo hi))):Ev G ρ (nD (LM K) te tl th) Φ:=fun nb σ H Q W z=>
 h nb σ H _ W fun f v H1 d ⟨ds,e,q⟩ s1 hv=>q nb σ H1 _ (W.step s1) fun lo H2 q2 s2=>q2 nb σ H2 _ ((W.step s1).step s2) fun hi H3 ⟨hn,q3⟩ s3=>by
  subst e
  obtain⟨a,xs,rfl,n,hx,hd⟩:=((hv.keep s2.cF).keep s3.cF).ofT
  have W3:=((W.step s1).step s2).step s3
  refine⟨a,xs,rfl, .of hx,by rw[hd.length];exact hn,fun p hp=>?_⟩
  exact z f _ _ _ q3 (s1.trans (s2.trans (s3.trans (.same W3.ak (cJ hp))))) (.tup (W3.fresh hp) aY (hd.cut.keep (aH.of (cJ hp))))
theorem Ev.Ww(h:Ev G ρ ta fun f x=>∃ds,x= .tuple ds/\ds≠[]/\Ev G ρ tb fun g y=>∃es,y= .tuple es/\es≠[]/\ds.length+es.length<=10000/\Φ (f && g) (.tuple (ds++es))):Ev G ρ (bZ (FJ K) ta tb) Φ:=fun nb σ H Q W z=>
 h nb σ H _ W fun f v H1 d ⟨ds,e,hne,q⟩ s1 hv=>q nb σ H1 _ (W.step s1) fun g u H2 d2 ⟨es,e2,U5,hl,p⟩ s2 hu=>by
  subst e e2
  obtain⟨a,xs,rfl,n,hx,hd⟩:=(hv.keep s2.cF).ofT
  obtain⟨c,ys,rfl,m,hy,hc⟩:=hu.ofT
  have W2:=(W.step s1).step s2
  have iP:=hd.length
  have hyl:=hc.length
  refine⟨a,c,xs,ys,rfl,rfl, .of hx, .of hy,fun z=>hne (List.length_eq_zero_iff.mp (by rw[<-iP,z];rfl)),Nat.le_trans (by rw[iP,hyl];exact hl) (by decide),fun z=>absurd (List.length_eq_zero_iff.mp (by rw[<-hyl,z];rfl)) U5,fun _ q hq=>?_⟩
  refine z (f && g) _ _ _ p (s1.trans (s2.trans (.same W2.ak (cJ hq)))) (.tup (W2.fresh hq) aY ?_)
  exact(af.append (hd.av (cB (fun z=>(Bool.and_eq_true _ _▸z).1) fun _ z=>z)) (hc.av (cB (fun z=>(Bool.and_eq_true _ _▸z).2) fun _ z=>z))).keep (aH.of (cJ hq))
end
end L2
set_option maxRecDepth 100000
set_option maxHeartbeats 4000000
namespace L2
open PySem PySem.Spec PyProof.Rows
noncomputable def qV(es:List Fd):Bool:=es.all fun e=>e.1||iB e.2
section
variable{G:Gx}{ρ:Rh}{Φ:Pd}{t:TA}{te:TE}
theorem gW.Bt{nb:Addr->Prop}{H:Hp}:∀{es:List Fd} {vs:List V} {f:Bool},gW G nb H es vs->(f=true->qV es=true)->af (G.S nb f) H (es.map (·.2)) vs
  |[],_,_,h,_=>by unfold gW at h;subst h;exact .nil
  | e :: es, _, f, h, hf => by
    obtain⟨v,ws,rfl,h1,h2⟩:=h
    have hh:f=true->(e.1||iB e.2)=true/\qV es=true:=fun z=>by
      have:=hf z
      unfold qV at this
      rw[List.all_cons,Bool.and_eq_true] at this
      exact this
    refine .cons ?_ (h2.Bt fun z=>(hh z).2)
    cases hs:iB e.2 with
    |true=>exact h1.iH hs
    |false=>exact h1.av (cB (fun z=>by have:=(hh z).1;rw[hs,Bool.or_false] at this;exact this) fun _ z=>z)
theorem Ev.Hv(h:Av G ρ t fun es=>es.length<=10000/\Φ (qV es) (.tuple (es.map (·.2)))):Ev G ρ (pT t) Φ:=fun nb σ H Q W z=>
 h nb σ H _ W fun es vs H1 ⟨hl,p⟩ s1 q1=>⟨Nat.le_trans (by rw[q1.len];exact hl) (by decide),fun a ha=>z _ _ _ _ p (s1.trans (.same (W.step s1).ak (cJ ha)))
  (.tup ((W.step s1).fresh ha) aY ((q1.Bt fun z=>z).keep (aH.of (cJ ha))))⟩
end
noncomputable def GY:R2:=fun x y H Q=>∃a b:Bool,x= .bl a/\y= .bl b/\Q (.bl (!(a==b))) H
theorem Ev.WV{G:Gx}{ρ:Rh}{ta:TE}{b:Bool}{Φ:Pd}(h:Ev G ρ ta fun _ x=>∃a,x= .bool a/\Φ true (.bool (!(a==b)))):Ev G ρ (bZ GY ta (tC (.bl b))) Φ:=fun nb σ H Q W z=>
 h nb σ H _ W fun f v H1 d ⟨a,e,q⟩ s1 hv=>by
  subst e
  unfold ah at hv
  subst hv
  exact⟨a,b,rfl,rfl,z true _ H1 _ q s1 (.bl _)⟩
noncomputable abbrev pJ(r:List Int):PyData:= .list (r.map .int)
end L2
set_option maxRecDepth 100000
set_option maxHeartbeats 4000000
namespace L2
open PySem PySem.Spec PyProof.Rows
theorem Pa(rows:List (List Int)):SeqAt.shaped (.list (rows.map pJ))=true:=by
  have h:PyData.depthAll (rows.map pJ)<=1/\PyData.canLayAll0 (rows.map pJ)=true:=by
    induction rows with
    |nil=>simp[PyData.depthAll,PyData.canLayAll0]
    | cons r rs ih =>
      have h2:=Dw (r.map some)
      have e:(r.map some).map br=r.map PyData.int:=by rw[List.map_map];rfl
      rw[e] at h2
      simp[PyData.depthAll,PyData.depth,PyData.canLayAll0,PyData.canLay0,h2.1,h2.2,ih.2]
      have:=ih.1
      walk_at "o"
  unfold SeqAt.shaped
  simp[PyData.canLay0,PyData.depth,h.2]
  have:=h.1
  walk_at "o"
end L2
set_option maxRecDepth 100000
namespace L2
open PySem PySem.Spec PyProof.Rows
section
variable{κ:Type}[DecidableEq κ]
noncomputable def dR(kvs:List (κ×V))(k:κ):Option V:=(kvs.find? fun kv=>decide (kv.1=k)).map (·.2)
noncomputable def putK(kvs:List (κ×V))(k:κ)(v:V):List (κ×V):=
 if(kvs.any fun kv=>decide (kv.1=k))=true then kvs.map (fun kv=>if kv.1=k then(kv.1,v) else kv) else kvs++[(k,v)]
noncomputable def iY(kvs:List (κ×V))(k:κ):List (κ×V):=kvs.filter fun kv=>decide (kv.1≠k)
theorem FA{k:κ}:dR ([]:List (κ×V)) k=none:=rfl
theorem pN{p:κ×V}{r:List (κ×V)}{k:κ}(e:p.1=k):dR (p::r) k=some p.2:=by simp[dR,List.find?_cons,e]
theorem oZ{p:κ×V}{r:List (κ×V)}{k:κ}(e:¬p.1=k):dR (p::r) k=dR r k:=by simp[dR,List.find?_cons,e]
theorem pS(k:κ):∀kvs:List (κ×V),(kvs.any fun kv=>decide (kv.1=k))=(dR kvs k).isSome
  |[]=>rfl
  | p :: r => by
    rw[List.any_cons]
    by_cases e:p.1=k
    · simp only[pN e,decide_eq_true e,Bool.true_or,Option.isSome_some]
    · rw[oZ e,decide_eq_false e,Bool.false_or];exact pS k r
theorem Ri(kvs:List (κ×V))(k:κ)(v:V):(putK kvs k v).length<=kvs.length+1:=by
 unfold putK
 split
 ·rw[List.length_map];walk_at "o"
 ·rw[List.length_append,List.length_cons,List.length_nil];walk_at "o"
theorem fh.mY{o:Option V}{u:Option Value}(r:fh o u):o.isSome=u.isSome:=by
  cases o with
  | none => cases u with
    |none=>rfl
    |some _=>exact(show False from r).elim
  | some _ => cases u with
    |none=>exact(show False from r).elim
    |some _=>rfl
theorem KV.val{kvs:List (κ×V)}{vs:List (κ×Value)}(r:KV kvs vs)(k:κ):fh (dR kvs k) (valueAt vs k):=by
  unfold KV at r
  induction r with
  |nil=>exact True.intro
  | @cons p q ps qs h t ih =>
    obtain⟨h1,h2⟩:=h
    by_cases e:p.1=k
    · have e':q.1=k:=h1.symm.trans e
      have b:valueAt (q::qs) k=some q.2:=by simp[valueAt,List.find?_cons,e']
      rw[pN e,b];exact h2
    · have e':¬q.1=k:=fun z=>e (h1.trans z)
      have b:valueAt (q::qs) k=valueAt qs k:=by simp[valueAt,List.find?_cons,e']
      rw[oZ e,b];exact ih
theorem KV.any{kvs:List (κ×V)}{vs:List (κ×Value)}(r:KV kvs vs)(k:κ):(kvs.any fun kv=>decide (kv.1=k))=vs.any fun kv=>decide (kv.1=k):=by
 unfold KV at r
 induction r with
 |nil=>rfl
 |cons h t ih=>rw[List.any_cons,List.any_cons,ih,h.1]
theorem KV.repl{kvs:List (κ×V)}{vs:List (κ×Value)}(r:KV kvs vs)(k:κ){y:V}{u:Value}(ry:RelV y u):
    KV (kvs.map fun kv=>if kv.1=k then(kv.1,y) else kv) (vs.map fun kv=>if kv.1=k then(kv.1,u) else kv):=by
  unfold KV at r⊢
  induction r with
  |nil=>exact .nil
  | @cons p q ps qs h t ih =>
    rw[List.map_cons,List.map_cons]
    refine .cons ?_ ih
    obtain⟨h1,h2⟩:=h
    by_cases e:p.1=k
    · rw[if_pos e,if_pos (h1.symm.trans e)];exact⟨h1,ry⟩
    · rw[if_neg e,if_neg (fun z=>e (h1.trans z))];exact⟨h1,h2⟩
theorem KV.put{kvs:List (κ×V)}{vs:List (κ×Value)}(r:KV kvs vs)(k:κ){y:V}{u:Value}(ry:RelV y u):KV (putK kvs k y) (stored vs k u):=by
 unfold putK stored
 rw[r.any k]
 by_cases e:(vs.any fun kv=>decide (kv.1=k))=true
 ·rw[if_pos e,if_pos e];exact r.repl k ry
 ·rw[if_neg e,if_neg e];exact Paired.snoc r ⟨rfl,ry⟩
theorem KV.drop{kvs:List (κ×V)}{vs:List (κ×Value)}(r:KV kvs vs)(k:κ):KV (iY kvs k) (without vs k):=by
  unfold KV at r⊢
  unfold iY without
  induction r with
  |nil=>exact .nil
  | @cons p q ps qs h t ih =>
    obtain⟨h1,h2⟩:=h
    rw[List.filter_cons,List.filter_cons]
    by_cases e:p.1=k
    · have a:¬decide (p.1≠k)=true:=by simp[e]
      have b:¬decide (q.1≠k)=true:=by simp[h1.symm.trans e]
      rw[if_neg a,if_neg b];exact ih
    · have e':¬q.1=k:=fun z=>e (h1.trans z)
      have a:decide (p.1≠k)=true:=by simp[e]
      have b:decide (q.1≠k)=true:=by simp[e']
      rw[if_pos a,if_pos b];exact .cons ⟨h1,h2⟩ ih
theorem KV.keys{kvs:List (κ×V)}{vs:List (κ×Value)}(r:KV kvs vs):kvs.map (·.1)=vs.map (·.1):=by
 unfold KV at r
 induction r with
 |nil=>rfl
 |cons h t ih=>rw[List.map_cons,List.map_cons,ih,h.1]
theorem KV.length{kvs:List (κ×V)}{vs:List (κ×Value)}(r:KV kvs vs):kvs.length=vs.length:=Paired.length r
theorem EY(kvs:List (κ×V))(k:κ):(iY kvs k).length<=kvs.length:=List.length_filter_le _ _
end
theorem jI{P:Program}{w:World}{k:Key}{u:Value}(r:RelV (kV k) u):(eW P w).is k u=true:=by
 cases k with
 |inl i=>obtain⟨t,e⟩:=(show∃t,u=Value.int i t from r);subst e;exact Rt P w i t
 |inr x=>obtain⟨t,e⟩:=(show∃t,u=Value.str x t from r);subst e;exact Uw P w x t
theorem Eo{P:Program}{w:World}:∀{ks:List Key} {us:List Value},Vals (ks.map kV) us->ItemsAre (eW P w) ks us
  |[],_,r=>by rw[List.map_nil] at r;cases r;exact .nil
  | k :: ks, _, r => by
    rw[List.map_cons] at r
    cases r with
    |cons h t=>exact .cons (jI h) (Eo t)
noncomputable abbrev KT(H:Hp):List (List Key×V)->List (List Key×Addr×Value)->Prop:=Paired fun p q=>p.1=q.1/\H q.2.1=some (.tup (p.1.map kV))/\RelV p.2 q.2.2
theorem KT.val{H:Hp}{kvs:List (List Key×V)}{xs:List (List Key×Addr×Value)}(r:KT H kvs xs)(k:List Key):fh (dR kvs k) ((atKey xs k).map (·.2)):=by
  induction r with
  |nil=>exact True.intro
  | @cons p q ps qs h t ih =>
    obtain⟨h1,_,h2⟩:=h
    by_cases e:p.1=k
    · have e':q.1=k:=h1.symm.trans e
      have b:atKey (q::qs) k=some q.2:=by simp[atKey,List.find?_cons,e']
      rw[pN e,b];exact h2
    · have e':¬q.1=k:=fun z=>e (h1.trans z)
      have b:atKey (q::qs) k=atKey qs k:=by simp[atKey,List.find?_cons,e']
      rw[oZ e,b];exact ih
section
variable{P:Program}{w:World}{H:Hp}{h:Heap}{a:Addr}
theorem BV{u:HO}(ok:cy P w H h)(e:Rd H a u):cz P w H h a u:=e.ok ok
theorem kW{kvs:List (Key×V)}(ok:cy P w H h)(e:Rd H a (.dK kvs)):kvs.length<=sizeLine/\(a==sysModules)=false/\∃vs,KV kvs vs/\h.DictOf (eW P w) a vs:=
 show cz P w H h a (.dK kvs) from BV ok e
theorem vp{kvs:List (Key×V)}(ok:cy P w H h)(e:H a=some (.dK kvs)):kvs.length<=sizeLine/\(a==sysModules)=false/\∃vs,KV kvs vs/\h.DictOf (eW P w) a vs:=kW ok (.inl e)
theorem uq{ks:List Key}(ok:cy P w H h)(e:H a=some (.tup (ks.map kV))):(tupleKind (eW P w)).is h ks a:=by
 obtain⟨_,its,r,o,h1,h2,n,h3⟩:=(show cz P w H h a (.tup (ks.map kV)) from ok a _ e)
 exact⟨o,its.toArray,n,h1,h2,h3,by simpa using Eo r⟩
theorem z0{kvs:List (List Key×V)}(ok:cy P w H h)(e:Rd H a (.dT kvs)):kvs.length<=sizeLine/\(a==sysModules)=false/\
    ∃xs,KT H kvs xs/\h.DictOfH (tupleKind (eW P w)) a xs:=by
  obtain⟨z,y,xs,r,o,es,ep,h1,h2,h3,h4,h5⟩:=(show cz P w H h a (.dT kvs) from BV ok e)
  refine⟨z,y,xs,r,o,es,ep,h1,h2,h3,h4,fun x hx=>?_,h5⟩
  have all:∀{l:List (List Key×V)} {m:List (List Key×Addr×Value)},KT H l m->∀x∈m,(tupleKind (eW P w)).is h x.1 x.2.1:=by
    intro l m q
    induction q with
    |nil=>intro x hx;exact nomatch hx
    | @cons p q ps qs hq t ih =>
      intro x hx
      rcases List.mem_cons.mp hx with e|hx
      · subst e
        exact uq ok (by rw[<-hq.1];exact hq.2.1)
      · exact ih x hx
  exact all r x hx
end
noncomputable def lQ(H:Hp)(a:Addr)(y:V)(r:Option V):Prop:=
 (∃kvs k,Rd H a (.dK kvs)/\y=kV k/\r=dR kvs k)\/∃kvs k b,Rd H a (.dT kvs)/\y= .ref b/\H b=some (.tup (k.map kV))/\r=dR kvs k
theorem lQ.k{H:Hp}{a:Addr}{kvs:List (Key×V)}{k:Key}(e:H a=some (.dK kvs)):lQ H a (kV k) (dR kvs k):= .inl ⟨kvs,k, .inl e,rfl,rfl⟩
section
variable{X:Cx}{pins:List (Addr×Obj)}{σ:St}{H:Hp}{s:Shared}{a:Addr}{y v:V}{u r:Value}{o:Option V}{A:Around}{E:Value->Shared->Prop}
theorem Inv.big(I:Inv X pins σ H s):sysModules<s.heap.objs.size:=by
 have h:mainGlobals<s.heap.objs.size:=(I.mod.glob.keeps I.bk).lt
 exact Nat.lt_trans (by decide) h
theorem LO{Q:Value->Shared->Prop}(hu:A.units+1<cLine)(I:Inv X pins σ H s)(g:lQ H a y o)(ry:RelV y u)(h:∀s',Inv X pins σ H s'->Q (.bool o.isSome) s'):
  wpAny (model X.prog X.w) A (compareOp .In u (.ref a)) Q E s:=by
 rcases g with ⟨kvs,k,e,ey,l⟩|⟨kvs,k,b,e,ey,eb,l⟩
 ·subst ey
  obtain⟨z,hd,vs,rel,dd⟩:=kW I.hok e
  refine wpAny_in_of (jI ry) hd dd.mapOf ?_
  rw[<-(rel.val k).mY,<-l]
  exact h _ (I.tok _)
 ·subst ey
  cases (show u=Value.ref b from ry)
  obtain⟨z,hd,xs,rel,dd⟩:=z0 I.hok e
  refine wpAny_in_heap (tupleKind_room_in1 hu) (uq I.hok eb) hd dd ?_
  have q:=(rel.val k).mY
  rw[Option.isSome_map] at q
  rw[<-q,<-l]
  exact h _ (I.tok _)
theorem Fv{Q:Value->Shared->Prop}(hu:A.units+1<cLine)(I:Inv X pins σ H s)(g:lQ H a y o)(ry:RelV y u)(h:∀s',Inv X pins σ H s'->Q (.bool (!o.isSome)) s'):
  wpAny (model X.prog X.w) A (compareOp .NotIn u (.ref a)) Q E s:=by
 rcases g with ⟨kvs,k,e,ey,l⟩|⟨kvs,k,b,e,ey,eb,l⟩
 ·subst ey
  obtain⟨z,hd,vs,rel,dd⟩:=kW I.hok e
  refine wpAny_notIn_of (jI ry) hd dd.mapOf ?_
  rw[<-(rel.val k).mY,<-l]
  exact h _ (I.tok _)
 ·subst ey
  cases (show u=Value.ref b from ry)
  obtain⟨z,hd,xs,rel,dd⟩:=z0 I.hok e
  refine wpAny_notIn_heap (tupleKind_room_in1 hu) (uq I.hok eb) hd dd ?_
  have q:=(rel.val k).mY
  rw[Option.isSome_map] at q
  rw[<-q,<-l]
  exact h _ (I.tok _)
theorem tK{h':Heap}{t':Nat}{ob:HO}(I:Inv X pins σ H s)(mu:oQ (H a))(hs:Heap.SameBut a s.heap h')(he:∃q,h'.get? a=some q)(new:cz X.prog X.w (upd H a ob) h' a ob):
  Inv X pins σ (upd H a ob) {s with heap:=h',toks:=t'}:=
 I.write (x:=a) (e:=a) mu (.inl rfl) (fun b q hb z=>(hs.2 b hb).trans z) he new
theorem vC{P:Program}{w:World}{H':Hp}{h':Heap}{kvs:List (Key×V)}{vs:List (Key×Value)}(z:kvs.length<=sizeLine)(hd:(a==sysModules)=false)(rel:KV kvs vs)(dd:h'.DictOf (eW P w) a vs):
  cz P w H' h' a (.dK kvs):=⟨z,hd,vs,rel,dd⟩
end
section
variable{X:Cx}{pins:List (Addr×Obj)}{σ:St}{H:Hp}{s:Shared}{a:Addr}{kvs:List (Key×V)}{k:Key}{u:Value}{A:Around}{E:Value->Shared->Prop}
theorem WI{Q:Unit->Shared->Prop}(I:Inv X pins σ H s)(e:H a=some (.dK kvs))(ry:RelV (kV k) u)(l:(dR kvs k).isSome=true)(h:∀s',Inv X pins σ (upd H a (.dK (iY kvs k))) s'->Q () s'):
  wpAny (model X.prog X.w) A (delItem (.ref a) u) Q E s:=by
 obtain⟨z,hd,vs,rel,dd⟩:=vp I.hok e
 refine wpAny_delItem_slot dd.typeIs (by decide) PySem.F.slot_dict_delitem
  (call_meetsIn PySem.F.slot_dict_delitem dd.typeIs PySem.F.entry_dict_delitem (PySem.F.args_dict_delitem_2 _ _) (meets_dict_delitem_pairs (eW X.prog X.w) a (jI ry)) ⟨vs,dd,by rw[<-rel.length];exact z,by rw[<-(rel.val k).mY];exact l,fun h' jq hs=>h _ ?_⟩)
 have he:∃q,h'.get? a=some q:=let ⟨q,_,_,hq,_⟩:=jq;⟨q,hq⟩
 exact tK I (by rw[e];exact True.intro) hs he (vC (Nat.le_trans (EY kvs k) z) hd (rel.drop k) jq)
theorem Vi{v:V}{more:List Value}{Q:Value->Shared->Prop}(I:Inv X pins σ H s)(e:H a=some (.dK kvs))(ry:RelV (kV k) u)(l:dR kvs k=some v)(hm:more=[]\/∃x,more=[x])
  (h:∀w' s',Inv X pins σ (upd H a (.dK (iY kvs k))) s'->RelV v w'->Q w' s'):wpAny (model X.prog X.w) A (call (.builtin "dict.pop") (.ref a::u::more)) Q E s:=by
 obtain⟨z,hd,vs,rel,dd⟩:=vp I.hok e
 obtain⟨w',hw,rw'⟩:=fh.some_of (v:=v) (o:=valueAt vs k) (by rw[<-l];exact rel.val k)
 have hp:(keyPart u).isSome=true:=by
  cases k with
  |inl i=>obtain⟨t,q⟩:=(show∃t,u=Value.int i t from ry);subst q;rfl
  |inr x=>obtain⟨t,q⟩:=(show∃t,u=Value.str x t from ry);subst q;rfl
 have ha:argsOk "dict.pop" ⟨.ref a::u::more,[]⟩:=by
  rcases hm with q|⟨x,q⟩
  ·subst q;exact PySem.F.args_dict_pop_2 _ _
  ·subst q;exact PySem.F.args_dict_pop_3 _ _ _
 refine call_meetsIn PySem.F.slot_dict_pop dd.typeIs PySem.F.entry_dict_pop ha (meets_dict_pop_there (eW X.prog X.w) a (jI ry) more hm hp)
  ⟨vs,w',dd,by rw[<-rel.length];exact z,hw,fun h' jq hs=>h w' _ ?_ rw'⟩
 have he:∃q,h'.get? a=some q:=let ⟨q,_,_,hq,_⟩:=jq;⟨q,hq⟩
 exact tK I (by rw[e];exact True.intro) hs he (vC (Nat.le_trans (EY kvs k) z) hd (rel.drop k) jq)
theorem RC{Q:Value->Shared->Prop}(I:Inv X pins σ H s)(e:Rd H a (.dK kvs))(h:∀t s',Inv X pins σ H s'->Q (.int kvs.length t) s'):wpAny (model X.prog X.w) A (call (.builtin "len") [.ref a]) Q E s:=by
 obtain⟨z,hd,vs,rel,dd⟩:=kW I.hok e
 refine call_len_dict hd dd (by rw[<-rel.length];rw[sizeLine_eq] at z;walk_at "o") ?_
 rw[<-rel.length]
 exact h _ _ (I.tok _)
end
theorem V5{P:Program}{w:World}{H:Hp}(h:Heap)(hb:sysModules<h.objs.size):cz P w H (h.push {cls:= .type "dict",data:= .dict #[]}) h.objs.size (.dK []):=
 ⟨Nat.zero_le _,beq_eq_false_iff_ne.mpr (Ne.symm (Nat.ne_of_lt hb)),[], .nil,Heap.DictOf.new h⟩
noncomputable def Bh:TE:=fun _ H Q=>∀p,H p=none->Q (.ref p) (upd H p (.dK []))
section
variable{X:Cx}{pos:Pos}
theorem Ep:PE X (.Dict [] [] pos) Bh:=fun pins s σ H Q I h=>
 wpAny_Dict_empty ⟨.ref s.heap.objs.size,_,I.laid (a:=s.heap.objs.size) (o:= .dK []) (t':=s.toks) (fun _ _ q=>Heap.get?_push_of_some _ q) (Nat.le_refl _) (V5 s.heap I.big),rfl,h _ (I.hok.fresh (Nat.le_refl _))⟩
end
end L2
/-THE LAST THEOREM (shape;LID,My.*are yours):
   My.Adr:a structure of the addresses that your layer names (classes,functions);My.Txt K t:a structure (Prop) of the equations over K;
   My.txt_mk:{K} {implicit addresses ..} (e1:nsIn K mainGlobals "law"=some (some (.ref f))) (e2:K.lookup f=some ⟨oc,od, .func (fnOf "law" "law" params body scope dV kV doc pm an cdv ct),sl⟩) (e3:codeIn K cdv "law"=true) .. :∃t,My.Txt K t
set_option maxRecDepth 100000 in
set_option maxHeartbeats 0 in
(the tactic k_is has no namespace:write k_is)-/
namespace L2
open PySem PySem.Spec PyProof.Rows
section
variable{X:Cx}
theorem TH:dS X (.builtin "len") (fun xs H Q=>∃a kvs,xs=[V.ref a]/\H a=some (.dK kvs)/\Q (.int kvs.length) H):=by
 intro pins s σ H xs us Q I r h
 obtain⟨a,kvs,rfl,ha,q⟩:=h
 obtain⟨u,rfl,ru⟩:=vals1 r
 cases ru
 exact RC I (.inl ha) fun t s' I'=>⟨.int kvs.length,H,I',⟨t,rfl⟩,q⟩
end
end L2
set_option maxRecDepth 100000
set_option maxHeartbeats 4000000
namespace L2
open PySem PySem.Spec PyProof.Rows
section
variable{prog:Program}{w:World}{A:Around}{E:Value->Shared->Prop}{s:Shared}
theorem QN{T:String}{r d:Addr}{n:Nat}{P:Nat->Value->Prop}{OK:Heap->Prop}{Q:List Value->Shared->Prop}(K:PySem.W.KdlSrc prog w T r d n P OK)(hh:A.handled=none)(hok:OK s.heap)(hn:n<=sizeLine)
  (hQ:∀h' tk' items,(∀b o,s.heap.get? b=some o->h'.get? b=some o)->s.heap.objs.size<=h'.objs.size->items.length=n->(∀(i:Nat) v,items[i]?=some v->P i v)->Q items {s with heap:=h',toks:=tk'}):wpAny (model prog w) A (collect (.ref r)) Q E s:=by
 obtain⟨lr,ld⟩:=K.there _ hok
 unfold collect
 refine wpAny_bind (wpAny_runValue (codeAny_builtin PySem.F.entry_proto_collect ?_))
 rw[Around.under_plainId PySem.F.plain_proto_collect _]
 show wpAny _ A.in1 (newList []>>=fun l=>again (.builtin "list.__iadd__" ⟨[l, .ref r],[]⟩)) _ _ s
 refine wpAny_bind (wpAny_newObj_type ?_)
 refine wpAny_pure ⟨plainId_quiet PySem.F.plain_list_iadd _,codeAny_builtin PySem.F.entry_list_iadd ?_⟩
 rw[Around.under_plainId PySem.F.plain_list_iadd _]
 have gL:(s.heap.push ({cls:= .type "list",data:= .seq ([]:List Value).toArray}:Obj)).get? s.heap.objs.size=some {cls:= .type "list",data:= .seq ([]:List Value).toArray}:=Heap.get?_push_size _ rfl
 show wpAny _ A.in1 (Builtin.List.listExtendWith (.ref s.heap.objs.size) (.ref r) (.ref s.heap.objs.size)) _ _ {s with heap:=s.heap.push ({cls:= .type "list",data:= .seq ([]:List Value).toArray}:Obj)}
 refine PySem.W.kdl_extend (A:=A) (R:=fun r s'=>match r with
    | .ok (.ret v)=>wpAny (model prog w) A (match v with| .ref x=>(do match(<-load x).data with| .seq xs _=>pure xs.toList|_=>unsupported "internal:collect")|_=>unsupported "internal:collect") Q E s'
    | .ok _=>False
    | .error e=>E e s') (s:={s with heap:=s.heap.push ({cls:= .type "list",data:= .seq ([]:List Value).toArray}:Obj)}) K hh (K.keep _ _ hok fun b _ o e=>Heap.get?_push_of_some _ e) s.heap.objs.size (Nat.ne_of_gt lr) (Nat.ne_of_gt ld) _ _ gL (fun h' tk acc' c' hk hS hacc=>?_) hn
 refine wpAny_bind (wpAny_load hS (wpAny_pure ?_))
 refine hQ h' tk acc'.toList (fun b o e=>hk b o (Nat.ne_of_lt (Heap.lt_size e)) (Heap.get?_push_of_some _ e)) (Nat.le_of_lt (Heap.lt_size hS)) (by rw[Array.length_toList];exact hacc.1) fun i v e=>hacc.2 i v (by rw[<-Array.getElem?_toList];exact e)
theorem SR{a:Addr}{vs:List (Key×Value)}{ms:List Int}{Q:Value->Shared->Prop}(hh:A.handled=none)(lo:(a==sysModules)=false)(hd:s.heap.DictOf (eW prog w) a vs)(hk:vs.map (·.1)=ms.map Sum.inl)(h64:ms.length<64)
    (h:∀h' tk' (l:Addr) (out:List Value) (ns:List Int) (e:Nat),(∀b o,s.heap.get? b=some o->h'.get? b=some o)->s.heap.objs.size<=l->h'.get? l=some (seqObj "list" out.toArray e)->IntsAre out ns->ns.Pairwise (· <= ·)->ns.Perm ms->
      Q (.ref l) {s with heap:=h',toks:=tk'}):wpAny (model prog w) A (call (.builtin "sorted") [.ref a]) Q E s:=by
  obtain⟨ep,hat⟩:=hd.dictAt
  have hvl:vs.length=ms.length:=by have:=congrArg List.length hk;simpa using this
  refine Calls.call_function_entry kind_sorted plain_sorted entry_sorted (args_sorted1 _) ?_
  unfold Builtin.«sorted»
  refine wpAny_bind (m:=checkCount "sorted" 1 1 _) (wpAny_pure (wpAny_bind ?_))
  refine QN (A:=A.in1) (PySem.W.kdl_dict lo) hh hat (by rw[hvl];exact Nat.le_trans (Nat.le_of_lt h64) (by decide)) fun h1 yI items k1 k2 hil hit=>?_
  have hI:IntsAre items ms:=by
    have key:∀(its:List Value) (us:List (Key×Value)) (ms:List Int),us.map (·.1)=ms.map Sum.inl->its.length=us.length->(∀(i:Nat) v,its[i]?=some v->∃k x,us[i]?=some (k,x)/\(eW prog w).is k v=true)->IntsAre its ms:=by
      intro its
      induction its with
      | nil =>
        intro us ms e l _
        cases us with
        | nil => cases ms with
          |nil=>exact .nil
          |cons _ _=>cases e
        |cons _ _=>cases l
      | cons v its ih =>
        intro us ms e l hp
        cases us with
        |nil=>cases l
        | cons u us => cases ms with
          |nil=>cases e
          | cons m ms =>
            have e1:u.1=Sum.inl m:=by injection e
            have e2:us.map (·.1)=ms.map Sum.inl:=by injection e
            obtain⟨k,x,q1,q2⟩:=hp 0 v rfl
            have q1:u=(k,x):=by simpa using q1
            subst q1
            have e1:k=Sum.inl m:=e1
            subst e1
            obtain⟨t,rfl⟩:=Value.isInt_shape (k:=m) (v:=v) q2
            exact .cons m t (ih us ms e2 (by simpa using l) fun i v q=>by simpa using hp (i+1) v (by simpa using q))
    exact key items vs ms hk hil hit
  have hlen:items.length=ms.length:=by rw[hil,hvl]
  refine wpAny_bind (wpAny_newList ?_)
  have gL:(h1.push (seqObj "list" items.toArray 0)).get? h1.objs.size=some (seqObj "list" items.toArray 0):=Heap.get?_push_size _ rfl
  refine wpAny_bind (wpAny_holding (wpAny_call_entry slot_list_sort ⟨_,gL,rfl⟩ entry_list_sort (list_sort_tree gL hI (by walk_at "o") fun out ns' a1 a2 a3=>⟨_,rfl,?_⟩) (args_list_sort _)))
  obtain⟨e,he⟩:=sortedHeap_at (out:=out) gL
  refine wpAny_pure ⟨_,rfl,h _ yI h1.objs.size out.toList ns' e (fun b o q=>?_) k2 (by simpa using he) a1 a3 a2⟩
  have lb:=Heap.lt_size (k1 b o q)
  rw[sortedHeap_old (Nat.ne_of_lt lb) (by rw[Heap.size_push];exact Nat.lt_succ_of_lt lb)]
  exact Heap.get?_push_of_some _ (k1 b o q)
end
noncomputable def pM:List V->Hp->VK->Prop:=fun xs H Q=>∃a,∃kvs:List (Key×V),∃ms:List Int,xs=[.ref a]/\Rd H a (.dK kvs)/\kvs.map (·.1)=ms.map Sum.inl/\ms.length<64/\
 ∀l (rs:List Int),H l=none->rs.Pairwise (· <= ·)->rs.Perm ms->Q (.ref l) (upd H l (.lst (rs.map V.int)))
theorem BQ{X:Cx}(hc:X.calm=true):dS X (.builtin "sorted") pM:=by
 intro pins s σ H xs us Q I rv h
 obtain⟨a,kvs,ms,rfl,hH,hk,h64,q⟩:=h
 obtain⟨u,rfl,ru⟩:=vals1 rv
 cases ru
 obtain⟨z,hd,vs,rel,dd⟩:=kW I.hok hH
 refine SR (I.ok.hd hc) hd dd (by rw[<-rel.keys];exact hk) h64 fun h' tk' l out ns e kp hl gl hI pw pp=>?_
 have new:cz X.prog X.w (upd H l (.lst (ns.map V.int))) h' l (.lst (ns.map V.int)):=by
  refine⟨?_,out,e,xH hI,gl⟩
  rw[List.length_map,pp.length_eq];exact Nat.le_trans (Nat.le_of_lt h64) (by decide)
 exact⟨.ref l,_,I.laid (t':=tk') kp hl new,rfl,q _ _ (I.hok.fresh hl) pw pp⟩
section
variable{X:Cx}
noncomputable def zB:R2:=fun x y H Q=>∃a kvs k v,x= .ref a/\y=kV k/\Rd H a (.dK kvs)/\dR kvs k=some v/\Q v H
theorem Sy:rO X zB:=by
 intro value slice pins s σ H x y v u Q I rx ry h hs
 obtain⟨a,kvs,k,z,rfl,rfl,hH,hv,q⟩:=h
 cases rx
 obtain⟨hz,hd,vs,rel,dd⟩:=kW I.hok hH
 have hT:=dd.typeIs (s:=s)
 obtain⟨w',hw,rw'⟩:=fh.some_of (v:=z) (o:=valueAt vs k) (by rw[<-hv];exact rel.val k)
 unfold subscriptTail
 refine wpAny_bind ?_
 rw[getitemInPython_of_ne hT.not_modules]
 refine wpAny_bind (wpAny_specialOf hT PySem.F.slot_dict_getitem.lookup ?_)
 have fin:wpAny (model X.prog X.w) X.A (subscripted slice false (.ref a) u) (fun r s₃=>wpAny (model X.prog X.w) X.A (letTemporaryGo value (.ref a) r>>=fun _=>pure r) (EP X pins σ Q) X.xe s₃) X.xe s:=by
  rw[hs]
  refine wpAny_operating (wpAny_getItem_of (jI ry) dd.mapOf hw ?_)
  exact wpAny_bind (wpAny_letTemporaryGo (wpAny_pure ⟨z,H,I.tok _,rw',q⟩))
 first
  |exact wpAny_pure (wpAny_bind fin)
  |exact wpAny_bind (wpAny_pure (wpAny_bind fin))
  |exact wpAny_bind fin
noncomputable def CW:V->V->V->Hp->(Hp->Prop)->Prop:=fun o i v H Q=>∃a kvs k,o= .ref a/\i=kV k/\H a=some (.dK kvs)/\kvs.length<sizeLine/\Q (upd H a (.dK (putK kvs k v)))
theorem set_dict:uw X CW:=by
 intro pins s σ H o i v ov iv u Q I ro ri rv h
 obtain⟨a,kvs,k,rfl,rfl,hH,WH,q⟩:=h
 cases ro
 obtain⟨z,hd,vs,rel,dd⟩:=vp I.hok hH
 have hz:vs.length<=sizeLine:=by rw[<-rel.length];exact z
 have hl:(putK kvs k v).length<=sizeLine:=by have:=Ri kvs k v;walk_at "o"
 refine wpAny_setItem_pairs (hsz:=hz) (jI ri) dd fun h' jq hs=>?_
 have he:∃q,h'.get? a=some q:=let ⟨q,_,_,hq,_⟩:=jq;⟨q,hq⟩
 exact⟨_,tK I (by rw[hH];exact True.intro) hs he (vC hl hd (rel.put k rv) jq),q⟩
end
end L2
set_option maxRecDepth 100000
set_option maxHeartbeats 4000000
set_option maxRecDepth 100000
set_option maxHeartbeats 4000000
namespace L2
noncomputable abbrev Cn:=List (Int×Int)
structure E9(cs:Cn):Prop where
 jy:∀c∈cs,0<=c.1/\c.1<=12/\0<=c.2/\c.2<=10^7
 nd:(cs.map (·.1)).Nodup
 len:cs.length<=14
 pos:∃c∈cs,0<c.1/\0<c.2
noncomputable def A8:Cn->Rat->Rat
 |[],_=>0
 |c::r,v=>(if 0<c.1 then((c.1*c.2:Int):Rat)*v^(c.1.toNat-1) else 0)+A8 r v
noncomputable def AH:Cn->Int
 |[]=>0
 |c::r=>c.1*c.2+AH r
noncomputable def Eb(cs:Cn)(v:Rat):Rat:=A8 cs v/(AH cs:Int)
noncomputable def OD(l c:Cn)(s v:Rat):Rat:=s*Eb l (1-Eb c (1-v))
section
variable{l c:Cn}{s:Rat}(hl:E9 l)(hc:E9 c)(s0:0<=s)
include hl hc s0
end
noncomputable def BN(x:Rat):Int:= -((-x).floor)
end L2
namespace L2
structure Gw where
 l:Cn
 c:Cn
 s:Rat
 u:Int
noncomputable def Gw.gr(g:Gw)(x:Int):Rat:=OD g.l g.c g.s ((x:Rat)/g.u)*g.u
noncomputable def Gw.lo(g:Gw):Nat->Int
 |0=>(g.s*g.u).floor
 |k+1=>(g.gr (g.lo k)).floor
noncomputable def Gw.hi(g:Gw):Nat->Int
 |0=>BN (g.s*g.u)
 |k+1=>BN (g.gr (g.hi k))
end L2
set_option maxRecDepth 100000
set_option maxHeartbeats 4000000
namespace L2
open PySem PySem.Spec PyProof.Rows
@[reducible] noncomputable def WD(g:Gw)(k:Nat):PyData:= .tuple [.int (g.lo k), .int (g.hi k)]
@[reducible] noncomputable def Wu(n:Nat):PyData:= .tuple [.str "falls", .int n]
@[reducible] noncomputable def Wl(x:Int):PyData:= .tuple [.str "stays", .int x]
@[reducible] noncomputable def WY:PyData:= .tuple [.str "open"]
noncomputable def Sa(K:PySem.W.Frag)(n:Nat)(t:fM):TG:=fun v σ H Q=>∃a xs,v= .ref a/\aR K H a xs/\xs.length=n/\t xs σ H Q
theorem Gv.lst{G:Gx}{ρ:Rh}{f:Bool}{ds:List PyData}{K:PySem.W.Frag}{Θ:Rh->Prop}{n:Nat}{u:fM}(hl:ds.length=n)(h:ju G ρ u f ds Θ):Gv G ρ (Sa K n u) f (.list ds) Θ:=fun nb σ H v Q W hv z=>by
 obtain⟨a,xs,rfl,m,hx,hd⟩:=hv.dG
 exact⟨a,xs,rfl, .of hx,by rw[hd.length];exact hl,h nb σ H xs Q W hd z⟩
end L2
set_option maxRecDepth 100000
set_option maxHeartbeats 4000000
namespace L2
open PySem PySem.Spec PyProof.Rows PySem.W
section
variable{n:Nat}{cmp:Nat->Nat->(Bool->Shared->Prop)->Shared->Prop}{s:Shared}
variable(h0:0<n)(hc:∀i j C,i<n->j<n->(∀b,C b s)->cmp i j C s)
include h0 hc
end
end L2
set_option maxRecDepth 100000
set_option maxHeartbeats 4000000
namespace L2
open PySem PySem.Spec PyProof.Rows PySem.W
section
variable{n:Nat}{key:Nat->Int}{cmp:Nat->Nat->(Bool->Shared->Prop)->Shared->Prop}{s:Shared}
variable(h0:0<n)(hc:∀i j C,i<n->j<n->C (decide (key i<key j)) s->cmp i j C s)
include h0 hc
end
end L2
set_option maxRecDepth 100000
set_option maxHeartbeats 4000000
set_option maxRecDepth 100000
set_option maxHeartbeats 4000000
namespace L2
open PySem PySem.Spec PyProof.Rows
@[reducible] noncomputable def Wz(l c:Cn)(u p:Int):Gw:=⟨l,c,(p:Rat)/u,u⟩
end L2
set_option maxRecDepth 100000
set_option maxHeartbeats 4000000
namespace L2
open PySem PySem.Spec PyProof.Rows
theorem Tv.lend{G:Gx}{ρ:Rh}{t:TT}{Θ:Bool->Prop}{a:Addr}{f:Bool}{ds:List PyData}(i:Nat)(e:ρ[i]?=some (.own a f ds))(h:Tv G (ρ.set i (.d f (.list ds))) t Θ):Tv G ρ t Θ:=fun nb σ H Q W z=>
 h _ σ H Q (Sv.share W e) z
end L2
set_option maxRecDepth 100000
set_option maxHeartbeats 4000000
set_option maxRecDepth 100000
set_option maxHeartbeats 4000000
set_option maxRecDepth 100000
set_option maxHeartbeats 4000000
namespace L2
open PySem PySem.Spec PyProof.Rows
noncomputable abbrev Ks:=List (Int×PyData)
noncomputable def gz(ks:Ks)(k:Int):Option PyData:=(ks.find? fun p=>decide (p.1=k)).map (·.2)
noncomputable def fS(ks:Ks)(k:Int):Bool:=ks.any fun p=>decide (p.1=k)
noncomputable def lF(ks:Ks)(k:Int)(d:PyData):Ks:=if fS ks k then ks.map fun p=>if p.1=k then(p.1,d) else p else ks++[(k,d)]
noncomputable def lK(ks:Ks)(k:Int):Ks:=ks.filter fun p=>decide (p.1≠k)
theorem Dg(ks:Ks)(k:Int):(gz ks k).isSome=fS ks k:=by
  unfold gz fS
  rw[Option.isSome_map]
  induction ks with
  |nil=>rfl
  | cons p r ih =>
    rw[List.find?_cons,List.any_cons]
    by_cases h:p.1=k
    · simp[h]
    · simp only[h,decide_false,Bool.false_or];exact ih
theorem ug{ks:Ks}{k:Int}:fS ks k=true↔k∈ks.map (·.1):=by
 unfold fS
 rw[List.any_eq_true,List.mem_map]
 constructor
 ·rintro⟨p,h1,h2⟩;exact⟨p,h1,by simpa using h2⟩
 ·rintro⟨p,h1,h2⟩;exact⟨p,h1,by simpa using h2⟩
theorem R4{k:Int}:gz [] k=none:=rfl
theorem n9{p:Int×PyData}{r:Ks}{k:Int}:gz (p::r) k=if p.1=k then some p.2 else gz r k:=by
 unfold gz
 rw[List.find?_cons]
 by_cases h:p.1=k<;>simp[h]
theorem Wg{ks:Ks}{k j:Int}{d:PyData}:gz (ks++[(k,d)]) j=match gz ks j with|some x=>some x|none=>if j=k then some d else none:=by
  induction ks with
  | nil =>
    rw[List.nil_append,n9,R4]
    by_cases h:k=j
    · subst h;simp
    · have h':¬j=k:=fun z=>h z.symm
      simp[h,h']
  | cons p r ih =>
    rw[List.cons_append,n9,n9,ih]
    by_cases h:p.1=j<;>simp[h]
section
variable{S:Addr->Prop}{H:Hp}
theorem au.val:∀{ks:Ks} {ps:List (Key×V)} (k:Int),au S H (ks.map d9) ps->match gz ks k with|some d=>∃v,dR ps (Sum.inl k)=some v/\ah S H d v|none=>dR ps (Sum.inl k)=none
  |[],ps,k,h=>by unfold au at h;subst h;exact FA
  | p :: r, ps, k, h => by
    rw[List.map_cons] at h
    unfold au at h
    obtain⟨q,qs,rfl,h1,h2⟩:=h
    unfold cD at h1
    obtain⟨h3,h4⟩:=h1
    have h3:q.1=Sum.inl p.1:=h3
    rw[n9]
    have ih:=au.val k h2
    by_cases e:p.1=k
    · rw[if_pos e]
      refine⟨q.2,?_,h4⟩
      rw[pN (by rw[h3,e])]
    · rw[if_neg e,oZ (fun z=>e (by rw[h3] at z;exact Sum.inl.inj z))]
      exact ih
theorem au.snoc:∀{ks:Ks} {ps:List (Key×V)} {k:Int} {d:PyData} {v:V},au S H (ks.map d9) ps->ah S H d v->au S H ((ks++[(k,d)]).map d9) (ps++[(Sum.inl k,v)])
  | [], ps, k, d, v, h, hd => by
    unfold au at h;subst h
    show au S H [d9 (k,d)] [(Sum.inl k,v)]
    unfold au
    exact⟨_,_,rfl,by unfold cD;exact⟨rfl,hd⟩,by unfold au;rfl⟩
  | p :: r, ps, k, d, v, h, hd => by
    rw[List.map_cons] at h
    unfold au at h
    obtain⟨q,qs,rfl,h1,h2⟩:=h
    rw[List.cons_append,List.map_cons,List.cons_append]
    unfold au
    exact⟨q,_,rfl,h1,au.snoc h2 hd⟩
theorem au.repl:∀{ks:Ks} {ps:List (Key×V)} {k:Int} {d:PyData} {v:V},au S H (ks.map d9) ps->ah S H d v->au S H ((ks.map fun p=>if p.1=k then(p.1,d) else p).map d9) (ps.map fun kv=>if kv.1=Sum.inl k then(kv.1,v) else kv)
  |[],ps,k,d,v,h,hd=>by unfold au at h;subst h;simp only[List.map_nil];unfold au;rfl
  | p :: r, ps, k, d, v, h, hd => by
    rw[List.map_cons] at h
    unfold au at h
    obtain⟨q,qs,rfl,h1,h2⟩:=h
    rw[List.map_cons,List.map_cons,List.map_cons]
    unfold cD at h1
    obtain⟨h3,h4⟩:=h1
    have h3:q.1=Sum.inl p.1:=h3
    unfold au
    refine⟨_,_,rfl,?_,au.repl h2 hd⟩
    by_cases e:p.1=k
    · rw[if_pos e,if_pos (by rw[h3,e])]
      unfold cD
      exact⟨h3,hd⟩
    · rw[if_neg e,if_neg (fun z=>e (by rw[h3] at z;exact Sum.inl.inj z))]
      unfold cD
      exact⟨h3,h4⟩
theorem au.any:∀{ks:Ks} {ps:List (Key×V)} (k:Int),au S H (ks.map d9) ps->(ps.any fun kv=>decide (kv.1=Sum.inl k))=fS ks k:=fun{ks ps} k h=>by
 rw[pS,<-Dg]
 have:=au.val k h
 cases hv:gz ks k with
 |none=>rw[hv] at this;rw[this];rfl
 |some d=>rw[hv] at this;obtain⟨v,e,_⟩:=this;rw[e];rfl
theorem au.put{ks:Ks}{ps:List (Key×V)}{k:Int}{d:PyData}{v:V}(h:au S H (ks.map d9) ps)(hd:ah S H d v):au S H ((lF ks k d).map d9) (putK ps (Sum.inl k) v):=by
 unfold lF putK
 rw[au.any k h]
 split
 ·exact au.repl h hd
 ·exact au.snoc h hd
theorem au.len:∀{ks:Ks} {ps:List (Key×V)},au S H (ks.map d9) ps->ps.length=ks.length
  |[],ps,h=>by unfold au at h;subst h;rfl
  | p :: r, ps, h => by
    rw[List.map_cons] at h
    unfold au at h
    obtain⟨q,qs,rfl,_,h2⟩:=h
    simp[au.len h2]
theorem au.keys:∀{ks:Ks} {ps:List (Key×V)},au S H (ks.map d9) ps->ps.map (·.1)=(ks.map (·.1)).map Sum.inl
  |[],ps,h=>by unfold au at h;subst h;rfl
  | p :: r, ps, h => by
    rw[List.map_cons] at h
    unfold au at h
    obtain⟨q,qs,rfl,h1,h2⟩:=h
    unfold cD at h1
    have h3:q.1=Sum.inl p.1:=h1.1
    simp[au.keys h2,h3]
end
noncomputable def mX(G:Gx)(ρ:Rh)(te:TE)(Φ:Bool->Ks->Prop):Prop:=∀nb σ H (Q:VK),Wd G nb ρ σ H->
 (∀f a ps H' ks,Φ f ks->Step G.B H H'->H a=none->H' a=some (.dK ps)->au (fun x=>G.S nb f x\/x=a) H' (ks.map d9) ps->Q (.ref a) H')->te σ H Q
section
variable{G:Gx}{ρ cE:Rh}{Φ Ψ:Pd}{ta tb te:TE}{t:TA}{i:Nat}{f g:Bool}{d e:PyData}{ks:Ks}{K:PySem.W.Frag}{E:DE}{Θ:Bool->Ks->Prop}
theorem Wd.grow{nb:Addr->Prop}{σ:St}{H H1:Hp}{a:Addr}{o:HO}(W:Wd G nb ρ σ H)(s1:Step G.B H H1)(ha:H a=none)(e:H1 a=some o):Wd G (fun x=>nb x\/x=a) ρ σ H1/\NB G.B a/\∀f x,G.S (fun x=>nb x\/x=a) f x->(G.S nb f x\/x=a):=by
  have hN:NB G.B a:=NB.new W.ak ha
  have hA:∀f x,G.S (fun x=>nb x\/x=a) f x->(G.S nb f x\/x=a):=fun f x z=>by
    rcases z with (z|z)|z|z|z
    · exact .inl (.inl z)
    · exact .inr z
    · exact .inl (.inr (.inl z))
    · exact .inl (.inr (.inr (.inl z)))
    · exact .inl (.inr (.inr (.inr z)))
  have W1:=W.step s1
  refine⟨?_,hN,hA⟩
  refine⟨W1.ak,fun x n=>?_,W1.old,fun x n q=>?_,W.gA,W.len,W.gB,fun h m=>(((W.cH h m).fresh ha).keep (s1.but fun x z=> .inl (.inr (.inr (.inl z))))).av (hA h.1),fun j s e'=>?_,W.apart,W.eT,W.cS⟩
  · rcases n with n|n
    · exact W1.live x n
    · subst n;rw[e];exact Option.some_ne_none _
  · rcases n with n|n
    · exact W.cL x n q
    · subst n
      cases z:G.H0 x with
      |none=>rfl
      |some o=>rw[W.old x o q z] at ha;cases ha
  · obtain⟨x,e1,h⟩:=W.ok j s e'
    refine⟨x,e1,?_⟩
    cases s with
    |no=>trivial
    |d f d=>obtain⟨v,e,h⟩:=h;exact⟨v,e,((h.fresh ha).keep (s1.but fun x z=> .inl (.inr (.inr (.inl z))))).av (hA f)⟩
    |own c f es=>obtain⟨e,n,q,xs,hx,hd⟩:=h;exact⟨e, .inl n,q,xs,s1.1 _ _ q hx,((hd.fresh ha).keep (s1.but fun x z=> .inl (.inr (.inr (.inl z))))).av (hA f)⟩
    |ak=>exact h
    |raw v=>exact h
    |bA c f es=>obtain⟨e,n,q,xs,hx,hd⟩:=h;exact⟨e, .inl n,q,xs,s1.1 _ _ q hx,((hd.fresh ha).keep (s1.but fun x z=> .inl (.inr (.inr (.inl z))))).av (hA f)⟩
    | cu c =>
      obtain⟨e,n,q⟩:=h
      refine⟨e,fun a ha=>⟨.inl (n a ha).1,(n a ha).2⟩,c.av (hA c.f) (c.keep (.of fun x o hx e=>s1.1 x o ?_ e) (c.fresh ha q))⟩
      rcases hx with hx|hx
      · exact Classical.byContradiction fun z=>hx (.inl (.inr (.inr (.inl z))))
      · exact(n x hx).2
theorem GW{nb:Addr->Prop}{σ:St}{H H1:Hp}{a:Addr}{ps:List (Key×V)}(W:Wd G nb ρ σ H)(s1:Step G.B H H1)(ha:H a=none)(e:H1 a=some (.dK ps))(hd:au (fun x=>G.S nb f x\/x=a) H1 (ks.map d9) ps):
  Wd G (fun x=>nb x\/x=a) (ρ.set i (.bA a f ks)) (σ.set i (some (.ref a))) H1:=by
 obtain⟨W2,hN,hA⟩:=W.grow s1 ha e
 refine W2.set ⟨rfl, .inr rfl,hN,ps,e,hd.av (hA f)⟩ (fun _ _ _ z=>by cases z) ?_ (fun x hx j t hj ht hc=>?_)
 rotate_left
 ·have hx:x=a:=List.mem_singleton.mp hx
  subst hx
  rcases hc with ⟨c,z⟩|⟨c,rfl⟩
  ·cases z
  ·exact fun z=>W.live x ((W.ok j _ ht).choose_spec.2.2.1 x z).1 ha
 rintro a' f' ds' ⟨rfl,rfl,rfl⟩ j c g cs hj hc z
 subst z
 obtain⟨x,e1,h1,h2,h3,ys,hy,_⟩:=W.ok j _ hc
 rw[hy] at ha;cases ha
theorem Sv.Dr(h:mX G ρ te fun f ks=>∀a,E.nx (ρ.set i (.bA a f ks))):Sv G ρ (dZ te (fc i)) E:=fun nb σ H D W K=>h nb σ H _ W fun f a ps H1 ks q s1 ha e hd=>K.nx _ _ _ H1 (q a) (GW W s1 ha e hd)
theorem mX.new(h:Θ true []):mX G ρ Bh Θ:=fun nb σ H Q W z p hp=>z true p [] _ [] h (.same W.ak (cJ hp)) hp aY (by unfold au;rfl)
@[reducible] noncomputable def WU(p:Int×PyData):PyData:= .tuple [.int p.1,p.2]
theorem Dv{nb:Addr->Prop}{σ:St}{H:Hp}{a:Addr}{ps:List (Key×V)}{ks':Ks}(W:Wd G nb ρ σ H)(e:ρ[i]?=some (.bA a f ks))(hd:au (G.S nb g) H (ks'.map d9) ps):Wd G nb (ρ.set i (.bA a g ks')) σ (upd H a (.dK ps)):=by
 obtain⟨x,e1,h1,h2,h3,ys,hy,_⟩:=W.ok i _ e
 subst h1
 have hil:i<ρ.length:=(List.getElem?_eq_some_iff.mp e).1
 have W0:Wd G nb (ρ.set i .no) (σ.set i (some (.ref a))) H:=W.set trivial fun _ _ _ z=>by cases z
 have W1:Wd G nb (ρ.set i .no) (σ.set i (some (.ref a))) (upd H a (.dK ps)):=W0.write h2 h3 (fun j c f' cs hc z=>by
   subst z
   have hij:i≠j:=fun z=>by subst z;rw[List.getElem?_set_self hil] at hc;cases hc
   rw[List.getElem?_set_ne hij] at hc
   obtain⟨_,_,_,_,_,ps,hp,_⟩:=W.ok j _ hc
   rw[hy] at hp;cases hp) (fun j c f' cs hc=>by
   by_cases hij:i=j
   ·subst hij;rw[List.getElem?_set_self hil] at hc;cases hc
   ·rw[List.getElem?_set_ne hij] at hc
    exact(W.eT i j _ _ _ _ _ _ hij e hc).symm) (fun j c hc z=>by
   have hij:i≠j:=fun z=>by subst z;rw[List.getElem?_set_self hil] at hc;cases hc
   rw[List.getElem?_set_ne hij] at hc
   exact W.cS j i c _ (Ne.symm hij) hc e a z (List.mem_singleton.mpr rfl))
 have W2:=W1.set (i:=i) (s:= .bA a g ks') (x:=some (.ref a)) ⟨rfl,h2,h3,ps,aY,hd.keep (aH.set (.inl h2))⟩ (fun _ _ _ z=>by cases z) (by
  rintro a' f' ds' ⟨rfl,rfl,rfl⟩ j c g' cs hj hc
  rw[List.getElem?_set_ne (Ne.symm hj)] at hc
  exact W.eT i j _ _ _ _ _ _ (Ne.symm hj) e hc) (fun x hx j t hj ht hc z=>by
  rw[List.getElem?_set_ne (Ne.symm hj)] at ht
  have hx:x=a:=List.mem_singleton.mp hx
  subst hx
  rcases hc with ⟨c,q⟩|⟨c,rfl⟩
  ·cases q
  ·exact W.cS j i c _ hj ht e x z (List.mem_singleton.mpr rfl))
 rw[List.set_set,List.set_set] at W2
 have:σ.set i (some (.ref a))=σ:=by
  apply List.ext_getElem?
  intro j
  by_cases hij:i=j
  ·subst hij;rw[List.getElem?_set_self (by rw[W.len];exact hil),e1]
  ·rw[List.getElem?_set_ne hij]
 rwa[this] at W2
theorem Sv.Ah{a:Addr}(e:ρ[i]?=some (.bA a f ks))(h:Ev G ρ te fun g d=>Ev G ρ tb fun _ y=>∃k,y= .int k/\ks.length<10000/\E.nx (ρ.set i (.bA a (f && g) (lF ks k d)))):Sv G ρ (dZ te (jN (aZ i) tb CW)) E:=fun nb σ H D W KK=>
 h nb σ H _ W fun g v H1 d q s1 hv=>by
  obtain⟨x,e1,h1,h2,h3,ps,hp,hd⟩:=(W.step s1).ok i _ e
  subst h1
  refine⟨.ref a,e1,q nb σ H1 _ (W.step s1) fun g' u H2 y ⟨k,ey,hl,p⟩ s2 hu=>?_⟩
  subst ey
  have W2:=(W.step s1).step s2
  have hlen:=hd.len
  refine⟨a,ps, .inl k,rfl,hu.bB,s2.1 _ _ h3 hp,Nat.lt_of_lt_of_le (by rw[hlen];exact hl) (by decide),KK.nx nb _ _ _ p (Dv W2 e ?_)⟩
  exact au.put ((hd.keep s2.cF).av (cB (fun z=>(Bool.and_eq_true _ _▸z).1) fun _ z=>z)) ((hv.keep s2.cF).av (cB (fun z=>(Bool.and_eq_true _ _▸z).2) fun _ z=>z))
namespace Ev
theorem Vx{a:Addr}(e:ρ[i]?=some (.bA a f ks))(h:Ev G ρ tb fun _ y=>∃k,y= .int k/\∃d,gz ks k=some d/\Φ f d):Ev G ρ (bZ zB (aZ i) tb) Φ:=fun nb σ H Q W z=>by
 obtain⟨x,e1,h1,h2,h3,ps,hp,hd⟩:=W.ok i _ e
 subst h1
 refine⟨.ref a,e1,h nb σ H _ W fun g w H1 y ⟨k,ey,d,hv,p⟩ s1 hw=>?_⟩
 subst ey
 have:=au.val k (hd.keep s1.cF)
 rw[hv] at this
 obtain⟨v,hv',hD⟩:=this
 exact⟨a,ps, .inl k,v,rfl,hw.bB, .inl (s1.1 _ _ h3 hp),hv',z f _ H1 _ p s1 hD⟩
end Ev
end
noncomputable def rM(ng:Bool):R2:=fun x y H Q=>∃a o,y= .ref a/\lQ H a x o/\Q (.bl (o.isSome !=ng)) H
theorem C0{X:Cx}(hu:X.A.units+64<cLine):bT X (compareOp .In) (rM false):=by
 intro pins s σ H x y v u Q I rx ry h
 obtain⟨a,o,rfl,g,q⟩:=h
 cases ry
 exact LO (by walk_at "o") I g rx fun s' I'=>⟨.bl o.isSome,H,I',rfl,by simpa using q⟩
theorem Ou{X:Cx}(hu:X.A.units+64<cLine):bT X (compareOp .NotIn) (rM true):=by
 intro pins s σ H x y v u Q I rx ry h
 obtain⟨a,o,rfl,g,q⟩:=h
 cases ry
 exact Fv (by walk_at "o") I g rx fun s' I'=>⟨.bl (!o.isSome),H,I',rfl,by simpa using q⟩
section
variable{G:Gx}{ρ:Rh}{Φ:Pd}{ta tb te:TE}{i:Nat}{f:Bool}{ks:Ks}{K:PySem.W.Frag}{E:DE}
theorem Ev.Ex{a:Addr}{ng:Bool}(e:ρ[i]?=some (.bA a f ks))(h:Ev G ρ ta fun _ y=>∃k,y= .int k/\Φ true (.bool (fS ks k !=ng))):Ev G ρ (bZ (rM ng) ta (aZ i)) Φ:=fun nb σ H Q W z=>
 h nb σ H _ W fun g w H1 y ⟨k,ey,p⟩ s1 hw=>by
  obtain⟨x,e1,h1,h2,h3,ps,hp,hd⟩:=(W.step s1).ok i _ e
  subst h1 ey
  refine⟨.ref a,e1,a,_,rfl,by rw[hw.bB];exact lQ.k (k:= .inl k) hp,?_⟩
  have:(dR ps (Sum.inl k)).isSome=fS ks k:=by rw[<-pS];exact au.any k hd
  rw[this]
  exact z true _ H1 _ p s1 (.bl _)
end
end L2
set_option maxRecDepth 100000
set_option maxHeartbeats 4000000
namespace L2
open PySem PySem.Spec PyProof.Rows
theorem ao.Bj{G:Gx}{ρ:Rh}{i:Nat}{a:Addr}{f:Bool}{ks:Ks}{Θ:Bool->List PyData->Prop}(e:ρ[i]?=some (.bA a f ks))(hl:ks.length<64)(h:∀rs:List Int,rs.Pairwise (· <= ·)->rs.Perm (ks.map (·.1))->Θ true (rs.map .int)):
  ao G ρ (dh pM (aV (aZ i) bz)) Θ:=fun nb σ H Q W z=>by
 obtain⟨x,e1,h1,h2,h3,ps,hp,hd⟩:=W.ok i _ e
 subst h1
 refine⟨.ref a,e1,a,ps,ks.map (·.1),rfl, .inl hp,au.keys hd,by rw[List.length_map];exact hl,fun l rs hl' hw dQ=>?_⟩
 exact ao.fin (f:=true) W (.refl W.ak) hl' (qN rs) (h rs hw dQ) z
noncomputable def sI:List V->Hp->VK->Prop:=fun xs H Q=>∃a kvs,xs=[V.ref a]/\H a=some (.dK kvs)/\Q (.int kvs.length) H
theorem HF{X:Cx}:dS X (.builtin "len") sI:=TH
theorem Ev.Fi{G:Gx}{ρ:Rh}{Φ:Pd}{i:Nat}{a:Addr}{f:Bool}{ks:Ks}(e:ρ[i]?=some (.bA a f ks))(h:Φ true (.int ks.length)):Ev G ρ (dh sI (aV (aZ i) bz)) Φ:=fun nb σ H Q W z=>by
 obtain⟨x,e1,h1,h2,h3,ps,hp,hd⟩:=W.ok i _ e
 subst h1
 refine⟨.ref a,e1,a,ps,rfl,hp,?_⟩
 rw[hd.len]
 exact z true _ H _ h (.refl W.ak) (.int _)
end L2
set_option maxRecDepth 100000
set_option maxHeartbeats 4000000
namespace L2
open PySem PySem.Spec PyProof.Rows
structure KU(n:Int)(cs:List aq):Prop where
 n0:1<=n
 n1:n<=10
 c0:cs≠[]
 c1:cs.length<=8
 ok:∀prs∈cs,prs≠[]/\prs.length<=4/\(prs.map (·.1)).Pairwise (· < ·)/\∀pr∈prs,0<=pr.1/\pr.1<n
section
variable{n:Int}{cs:List aq}(h:KU n cs)
include h
end
end L2
set_option maxRecDepth 100000
set_option maxHeartbeats 4000000
set_option maxRecDepth 100000
set_option maxHeartbeats 4000000
namespace L2
open PySem PySem.Spec PyProof.Rows
theorem af.era{nb:Addr->Prop}{H:Hp}:∀{ds:List PyData} {xs:List V} (m:Nat),af nb H ds xs->af nb H (ds.eraseIdx m) (xs.eraseIdx m)
 |[],_,m,h=>by unfold af at h;subst h;exact .nil
 |e::ds,_,0,h=>by unfold af at h;obtain⟨y,ys,rfl,h1,h2⟩:=h;exact h2
 |e::ds,_,m+1,h=>by unfold af at h;obtain⟨y,ys,rfl,h1,h2⟩:=h;exact .cons h1 (af.era m h2)
end L2
set_option maxRecDepth 100000
set_option maxHeartbeats 4000000
namespace L2
open PySem PySem.Spec PyProof.Rows
section
variable{G:Gx}{ρ:Rh}{ta tb te:TE}{t:TA}{E:DE}{i j:Nat}{f:Bool}{K:PySem.W.Frag}{Φ:Pd}{Θ:Bool->List PyData->Prop}
noncomputable def qa(K:PySem.W.Frag)(ng:Bool):R2:=fun x y H Q=>lT K ng x y H Q\/rM ng x y H Q
end
theorem Qd{X:Cx}{K:PySem.W.Frag}(hK:X.K=K)(hu:X.A.units+64<cLine):bT X (compareOp .In) (qa K false):=by
 intro pins s σ H x y v u Q I rx ry h
 rcases h with h|h
 ·exact Po hK pins s σ H x y v u Q I rx ry h
 ·exact C0 hu pins s σ H x y v u Q I rx ry h
section
variable{G:Gx}{ρ:Rh}{ta tb te:TE}{t:TA}{E:DE}{i j:Nat}{f:Bool}{K:PySem.W.Frag}{Φ:Pd}{Θ:Bool->List PyData->Prop}
theorem Ev.Fq{ng:Bool}(h:Ev G ρ ta fun _ x=>∃k:Int,x= .int k/\Ev G ρ tb fun _ y=>∃ns:List Int,y= .list (ns.map .int)/\Φ true (.bool (decide (k∈ns) !=ng))):Ev G ρ (bZ (qa K ng) ta tb) Φ:=fun nb σ H Q W z=>
 h nb σ H _ W fun f v H1 d ⟨k,e,q⟩ s1 hv=>q nb σ H1 _ (W.step s1) fun g u H2 d2 ⟨ns,e2,p⟩ s2 hu=>by
  subst e e2
  have hk:=hv.bB
  subst hk
  obtain⟨a,xs,rfl,na,hx,hd⟩:=hu.dG
  have ex:=oq hd
  subst ex
  refine Or.inl ⟨a,ns.map V.int,rfl, .inl (.of hx),rfl,?_,?_⟩
  ·rw[List.all_eq_true]
   intro x hx
   obtain⟨o,_,rfl⟩:=List.mem_map.mp hx
   rfl
  ·have e:iQ (V.int k) (ns.map V.int)=decide (k∈ns):=by
    unfold iQ
    rw[List.any_map,Bool.eq_iff_iff,List.any_eq_true,decide_eq_true_eq]
    constructor
    ·rintro⟨o,m,h⟩
     have:o=k:=eq_of_beq h
     exact this▸m
    ·intro m
     exact⟨k,m,beq_self_eq_true k⟩
   have e2:(if ng=true then !iQ (V.int k) (ns.map V.int) else iQ (V.int k) (ns.map V.int))=(decide (k∈ns) !=ng):=by
    rw[e]
    cases ng<;>simp
   rw[e2]
   exact z true _ H2 _ p (s1.trans s2) (.bl _)
theorem Ev.Gh{ng:Bool}(h:Ev G ρ ta fun _ y=>∃k,y= .int k/\Ev G ρ tb fun _ x=>∃ks:Ks,x= .dict (ks.map d9)/\Φ true (.bool (fS ks k !=ng))):Ev G ρ (bZ (qa K ng) ta tb) Φ:=
 Ev.gD (h.mono fun f x ⟨k,ex,q⟩=>q.mono fun g y ⟨ks,ey,p⟩ nb σ H u v Q W hu hv z=>by
  subst ex ey
  unfold ah at hv
  obtain⟨a,ps,rfl,n,hp,hd⟩:=hv
  refine Or.inr ⟨a,_,rfl,by rw[hu.bB];exact .inl ⟨ps, .inl k,hp,rfl,rfl⟩,?_⟩
  have:(dR ps (Sum.inl k)).isSome=fS ks k:=by rw[<-pS];exact au.any k hd
  rw[this]
  exact z true _ H _ p (.refl W.ak) (.bl _))
end
noncomputable def lD(G:Gx)(ρ:Rh)(te:TE)(Φ:PyData->Prop):Prop:=∀nb σ H (Q:VK),Wd G nb ρ σ H->(∀v H' d,Φ d->Step G.B H H'->ah (fun a=>H a≠none) H' d v->Q v H')->te σ H Q
section
variable{G:Gx}{ρ:Rh}{ta tb te:TE}{t:TA}{E:DE}{i j k m:Nat}{f:Bool}{K:PySem.W.Frag}{Φ:PyData->Prop}
theorem Wd.Mi{nb:Addr->Prop}{σ:St}{H H1:Hp}{a:Addr}(W:Wd G nb ρ σ H)(s:Step G.B H H1)(h:H a≠none):H1 a≠none:=fun e=>h (W.none_of s e)
theorem lD.ff{n:Nat}{F:DF}(hm:cN F)(e:ρ[i]?=some .ak)(h:Av G ρ t fun es=>es.length+1=n/\F (es.map (·.2)) fun f d=>f=true/\Φ d):lD G ρ (d8 (bS n F) [] E0 (aV (aZ i) t)) Φ:=fun nb σ H Q W z=>by
 obtain⟨b,l,hB,e1,B⟩:=W.p9 e
 refine⟨.ref b,e1,h nb σ H _ W fun es vs H1 ⟨hl,p⟩ s1 q1=>?_⟩
 have W1:=W.step s1
 show bS n F ((V.ref b::vs)++[]) H1 Q E0
 rw[List.append_nil]
 have hb:∀f,G.S nb f b:=fun f=> .inr (.inr (.inl fun n=>n b l hB rfl))
 refine⟨by rw[List.length_cons,q1.len,hl],b,l,vs,G.S nb (gK es),es.map (·.2),rfl,W1.ak b l hB,W1.iR,hb _,q1.all fun z=>z,hm _ _ _ p fun f d ⟨hf,hp⟩ v H' bt B' hd=>z v H' d hp (s1.trans (.pW hB bt B')) (hd.av fun a q=>?_)⟩
 exact .inr ⟨hf,W.Mi s1 q⟩
end
end L2
set_option maxRecDepth 100000
set_option maxHeartbeats 1000000
namespace L2
open PySem PySem.Spec PyProof.Rows
theorem tW:∀{names:List (Str×NameKind)} {n:Nat} {acc:List (Str×Addr)},(∀x y c,acc.lookup x=some c->acc.lookup y=some c->x=y)->(∀x c,acc.lookup x=some c->c<n)->∀{x y:Str} {c:Addr},(cellsFrom n names acc).lookup x=some c->(cellsFrom n names acc).lookup y=some c->x=y
  |[],n,acc,h1,h2,x,y,c,e1,e2=>h1 x y c e1 e2
  | (m, k) :: r, n, acc, h1, h2, x, y, c, e1, e2 => by
    unfold cellsFrom at e1 e2
    by_cases hk:(k== .cell)=true
    · rw[if_pos hk] at e1 e2
      have look:∀{z:Str} {d:Addr},((m,n)::acc).lookup z=some d->(z=m/\d=n)\/acc.lookup z=some d:=fun{z d} e=>by
        by_cases hz:(z==m)=true
        · rw[List.lookup_cons,hz] at e
          cases e
          exact .inl ⟨by simpa using hz,rfl⟩
        · have hz:(z==m)=false:=by simpa using hz
          rw[List.lookup_cons,hz] at e
          exact .inr e
      refine tW (names:=r) (n:=n+1) (acc:=(m,n)::acc) (fun x y c g1 g2=>?_) (fun x c g=>?_) e1 e2
      · rcases look g1 with ⟨a1,a2⟩|a
        · rcases look g2 with ⟨b1,b2⟩|b
          · rw[a1,b1]
          · rw[a2] at b;exact absurd (h2 _ _ b) (Nat.lt_irrefl _)
        · rcases look g2 with ⟨b1,b2⟩|b
          · rw[b2] at a;exact absurd (h2 _ _ a) (Nat.lt_irrefl _)
          · exact h1 _ _ _ a b
      · rcases look g with ⟨a1,a2⟩|a
        · rw[a2];exact Nat.lt_succ_self n
        · exact Nat.lt_succ_of_lt (h2 _ _ a)
    · rw[if_neg hk] at e1 e2
      exact tW (names:=r) h1 h2 e1 e2
theorem qi{x:Str}:∀{names:List (Str×NameKind)} {n:Nat} {acc:List (Str×Addr)},(∀k,(x,k)∈names->k≠ .cell)->(cellsFrom n names acc).lookup x=acc.lookup x
  |[],n,acc,h=>rfl
  | (m, k) :: r, n, acc, h => by
    unfold cellsFrom
    by_cases hk:(k== .cell)=true
    · rw[if_pos hk,qi (names:=r) fun k hk=>h k (List.mem_cons_of_mem _ hk)]
      have hne:(x==m)=false:=by
        rw[beq_eq_false_iff_ne]
        intro z
        subst z
        exact h k (List.mem_cons_self ..) (by simpa using hk)
      rw[List.lookup_cons,hne]
    · rw[if_neg hk]
      exact qi (names:=r) fun k hk=>h k (List.mem_cons_of_mem _ hk)
theorem vG{x:Str}{lo:Nat}:∀{names:List (Str×NameKind)} {n:Nat} {acc:List (Str×Addr)} {c:Addr},lo<=n->((∃d,acc.lookup x=some d/\lo<=d)\/(x,NameKind.cell)∈names)->(cellsFrom n names acc).lookup x=some c->lo<=c
  | [], n, acc, c, hl, h, e => by
    rcases h with ⟨d,e',z⟩|h
    · have e:acc.lookup x=some c:=e
      rw[e'] at e;cases e;exact z
    · cases h
  | (m, k) :: r, n, acc, c, hl, h, e => by
    unfold cellsFrom at e
    by_cases hk:(k== .cell)=true
    · rw[if_pos hk] at e
      refine vG (names:=r) (Nat.le_succ_of_le hl) ?_ e
      by_cases hx:(x==m)=true
      · exact .inl ⟨n,by rw[List.lookup_cons,hx],hl⟩
      · have hx':(x==m)=false:=by simpa using hx
        rcases h with ⟨d,e',z⟩|h
        · exact .inl ⟨d,by rw[List.lookup_cons,hx'];exact e',z⟩
        · rcases List.mem_cons.mp h with z|z
          · cases z;simp at hx
          · exact .inr z
    · rw[if_neg hk] at e
      refine vG (names:=r) hl ?_ e
      rcases h with h|h
      · exact .inl h
      · rcases List.mem_cons.mp h with z|z
        · cases z;exact absurd (by rfl) hk
        · exact .inr z
theorem uo{x:Str}{c:Addr}:∀{names:List (Str×NameKind)} {n:Nat} {acc:List (Str×Addr)} {h:Heap},h.objs.size=n->(cellsFrom n names acc).lookup x=some c->(n<=c/\(pushCells h names).IsCell c none)\/acc.lookup x=some c
  |[],n,acc,h,hn,e=> .inr e
  | (m, k) :: r, n, acc, h, hn, e => by
    unfold cellsFrom at e
    unfold pushCells
    by_cases hk:(k== .cell)=true
    · rw[if_pos hk] at e⊢
      rcases uo (names:=r) (h:=h.push {cls:= .type "cell",data:= .cell none}) (by rw[Heap.size_push,hn]) e with ⟨z1,z2⟩|z
      · exact .inl ⟨Nat.le_of_succ_le z1,z2⟩
      · by_cases hx:(x==m)=true
        · rw[List.lookup_cons,hx] at z
          cases z
          refine .inl ⟨Nat.le_refl _,?_⟩
          subst hn
          exact⟨_,pushCells_keeps _ _ _ _ (Heap.get?_push_size _ rfl),rfl⟩
        · have hx':(x==m)=false:=by simpa using hx
          rw[List.lookup_cons,hx'] at z
          exact .inr z
    · rw[if_neg hk] at e⊢
      exact uo (names:=r) hn e
theorem wA{env:Env}:∀{l:List (Str×NameKind)} {x:Str} {k:NameKind},
    (l.map fun(n,k)=>if(k==NameKind.free && env.scope.kind== .function && env.kindOf n==some .cell) then(n,NameKind.cell) else(n,k)).lookup x=some k->k= .cell\/k= .free->l.lookup x=some .free\/l.lookup x=some .cell
  |[],_,_,h,_=>by simp at h
  | (n, q) :: r, x, k, h, hk => by
    have ih:=wA (env:=env) (l:=r) (x:=x) (k:=k)
    rw[List.map_cons] at h
    dsimp only at h
    by_cases hx:(x==n)=true
    · simp only[List.lookup_cons,hx]
      by_cases hq:(q==NameKind.free && env.scope.kind== .function && env.kindOf n==some .cell)=true
      · have:q= .free:=by
          simp only[Bool.and_eq_true] at hq
          simpa using hq.1.1
        rw[this];exact .inl rfl
      · rw[if_neg hq] at h
        simp only[List.lookup_cons,hx] at h
        have mW:q=k:=Option.some.inj h
        rcases hk with e|e
        · rw[mW,e];exact .inr rfl
        · rw[mW,e];exact .inl rfl
    · have hx':(x==n)=false:=by simpa using hx
      simp only[List.lookup_cons,hx']
      refine ih ?_ hk
      by_cases hq:(q==NameKind.free && env.scope.kind== .function && env.kindOf n==some .cell)=true
      · rw[if_pos hq] at h
        simp only[List.lookup_cons,hx'] at h
        exact h
      · rw[if_neg hq] at h
        simp only[List.lookup_cons,hx'] at h
        exact h
noncomputable def cI(sx:Scope)(NX:List Str)(scope:Scope)(N:List Str)(mp:List (Option Nat)):Bool:=
 (scope.kind== .function) && scope.names.all (fun y=>y.2 != .cell||scope.names.lookup y.1 !=some .free) && scope.names.all (fun y=>y.2 != .local||scope.names.lookup y.1==some .local) &&
 scope.names.all (fun y=>y.2 != .free||sx.names.lookup y.1==some .cell||sx.names.lookup y.1==some .free) &&(mp.length==N.length) &&
 ((N.zip mp).all fun p=>match p.2 with|none=>true|some j=>NX[j]?==some p.1 && scope.names.lookup p.1==some .free)
structure bJ(sx:Scope)(NX:List Str)(scope:Scope)(N:List Str)(mp:List (Option Nat)):Prop where
 kind:scope.kind= .function
 own:∀x,scope.names.lookup x=some .free->∀k,(x,k)∈scope.names->k≠ .cell
 names:∀y∈scope.names,y.2= .local->scope.names.lookup y.1=some .local
 free:∀y∈scope.names,y.2= .free->sx.names.lookup y.1=some .cell\/sx.names.lookup y.1=some .free
 len:mp.length=N.length
 look:∀(i j:Nat) (x:Str),mp[i]?=some (some j)->N[i]?=some x->NX[j]?=some x/\scope.names.lookup x=some .free
theorem bJ.of{sx:Scope}{NX:List Str}{scope:Scope}{N:List Str}{mp:List (Option Nat)}(h:cI sx NX scope N mp=true):bJ sx NX scope N mp:=by
 unfold cI at h
 simp only[Bool.and_eq_true,List.all_eq_true] at h
 obtain⟨⟨⟨⟨⟨h1,h2⟩,h3⟩,h4⟩,h5⟩,h6⟩:=h
 refine⟨by simpa using h1,fun x e k m z=>?_,fun y hy e=>?_,fun y hy e=>?_,by simpa using h5,fun i j x e1 e2=>?_⟩
 ·subst z
  have:=h2 (x, .cell) m
  simp[e] at this
 ·have:=h3 y hy
  simpa[e] using this
 ·have:=h4 y hy
  simpa[e] using this
 ·have hm:(x,some j)∈N.zip mp:=by
   have:(N.zip mp)[i]?=some (x,some j):=by
    rw[List.getElem?_zip_eq_some];exact⟨e2,e1⟩
   exact List.mem_of_getElem? this
  have:=h6 _ hm
  simpa using this
noncomputable def lE(X:Cx)(scope:Scope)(C:Addr):List (Str×Addr):=cellsFrom (C+1) scope.names (g7 X.env.cells scope.names [])
noncomputable def cZ(X:Cx)(scope:Scope)(C:Addr)(N:List Str)(s₀:Shared)(H₀:Hp)(fp:List Addr):Cx:=
 {X with N:=N,s₀:=s₀,H₀:=H₀,env:=compEnvC scope (lE X scope C) C X.env,outer:=X.stack,ex:=fp,fn:=fun x=>scope.names.lookup x==some .cell,pn:=[],xe:=fun _ _=>False}
theorem O9{M:Model}{A:Around}{E:Value->Shared->Prop}{s:Shared}{scope:Scope}{globals:Addr}{closure:List (Str×Addr)}{qual:Str}{outer:Env}{builtins:Addr}{Q:Env->Shared->Prop}
  (hQ : ∀ h', h' = pushCells (s.heap.push { cls := .type "dict", data := .dict #[] }) scope.names -> h'.Ns s.heap.objs.size (fun _ => none) -> (∀ b o, s.heap.get? b = some o -> h'.get? b = some o) ->
   Q (newEnv scope s.heap.objs.size globals (cellsFrom (s.heap.objs.size+1) scope.names closure) qual none .none (some outer) builtins) {s with heap:=h'}):
  wpAny M A (newFunctionEnv scope globals closure [] qual none .none (some outer) builtins) Q E s:=by
 simp only[newFunctionEnv,Option.isSome_some,if_true]
 refine wpAny_bind (wpAny_alloc ?_)
 refine wpAny_bind (wpAny_layCells _ (fun name kind cells=>by cases hkc:kind==NameKind.cell<;>simp[hkc]) _ _ _ _ ?_)
 rw[show({s with heap:=s.heap.push {cls:= .type "dict",data:= .dict #[]}}:Shared).heap.objs.size=s.heap.objs.size+1 from Heap.size_push ..]
 rw[List.forIn_nil]
 refine wpAny_bind (wpAny_pure (wpAny_pure ?_))
 exact hQ _ rfl ((Heap.Ns.new s.heap (.type "dict")).keeps (pushCells_keeps _ _)) fun b o e=>pushCells_keeps _ _ b o (Heap.get?_push_of_some _ e)
section
variable{X:Cx}
theorem Af{elt iter tg:Expr}{ifs:List Expr}{scope:Scope}{pos pos':Pos}{N:List Str}{mp:List (Option Nat)}{wi:TI}{g:TG}{tc:TT}{te:TE}{use:Option (Value->Sem Unit)}
    {pins:List (Addr×Obj)} {s:Shared} {σ:St} {H:Hp} {Q:VK} {QQ:Value->Shared->Prop}
    (ok:bJ X.env.scope X.N scope N mp) (hc:X.calm=true) (hi:PI X tg iter wi)
    (hb:∀C s₀ H₀ fp,PG (cZ X scope C N s₀ H₀ fp) tg g/\lY (cZ X scope C N s₀ H₀ fp) ifs tc/\PE (cZ X scope C N s₀ H₀ fp) elt te)
    (hs:∀x,foldedSetIterable iter X.env x=pure x) (I:Inv X pins σ H s) (h:iF wi g tc te mp σ H Q)
    (fin:∀acc C H' s' m,Inv X pins σ H' s'->iC X pins H' C->s'.heap.Ns C m->Q (.ref acc) H'->compPost (model X.prog X.w) X.A X.xe use QQ (.ref acc) C (.ok .next) s'):
    wpAny (model X.prog X.w) X.A (comprehension (.ListComp elt [⟨tg,iter,ifs,0⟩] scope pos) scope X.env pos' (newList []) false (eval iter X.env) use) QQ X.xe s:=by
  have hfree:∀x∈scope.names,x.2= .free->∃a,X.env.cells.lookup x.1=some a:=fun x hx e=>I.ok.has x.1 (ok.free x hx e)
  refine wpAny_comprehension_free (use:=use) rfl hs (Ow hfree) ok.kind ok.names (aG (hi pins s σ H _ I h) fun v s1 h1=>aG h1 fun itv s2 h2=>?_)
  obtain⟨it,fp,tn,J,H2,e,I2,T,st2,f2,hW⟩:=h2
  subst e
  refine wpAny_newObj_type (O9 (fun h₁ xq zj uJ=>?_))
  dsimp only at zj xq uJ⊢
  have I3:=I2.C1 (its:=[]) (ys:=[]) (t':=s2.toks) .nil (Nat.zero_le _)
  have hW:=hW s2.heap.objs.size I2.fresh
  obtain⟨W,⟨m0,w0⟩,turn⟩:=hW
  generalize yE:s2.heap.push {cls:= .type "list",dict:=none,data:= .seq ([]:List Value).toArray}=HP at zj xq uJ⊢
  have I3:Inv X pins σ (upd H2 s2.heap.objs.size (.lst [])) {s2 with heap:=HP}:=by rw[<-yE];exact I3
  generalize GH:upd H2 s2.heap.objs.size (.lst [])=H3 at I3 w0
  have hC:HP.objs.size=s2.heap.objs.size+1:=by rw[<-yE,Heap.size_push]
  have old:=uJ
  have g6:∀b∈fp,b<s2.heap.objs.size:=fun b hb=>by
    obtain⟨o,e,_⟩:=T.obj 0 _ st2 b hb
    exact Heap.lt_size e
  have NU:∀b∈fp,H3 b=none:=fun b hb=>by
    rw[<-GH,bf (Nat.ne_of_lt (g6 b hb))]
    exact(f2 b hb).1
  have vz:∀{x:Str} {c:Addr},(lE X scope HP.objs.size).lookup x=some c->(HP.objs.size+1<=c/\h₁.IsCell c none)\/X.env.cells.lookup x=some c:=fun{x c} e=>by
    rcases uo (h:=HP.push {cls:= .type "dict",data:= .dict #[]}) (by rw[Heap.size_push]) e with z|z
    · rw[xq];exact .inl z
    · exact .inr (kR (fun y d q=>by simp at q) z)
  have OF:∀{x:Str} {c:Addr},X.env.cells.lookup x=some c->c<HP.objs.size:=fun{x c} e=>by
    obtain⟨v,o,ho,hd⟩:=I3.cell x c e
    exact Heap.lt_size ho
  have pG:(cZ X scope HP.objs.size N {s2 with heap:=HP} H3 fp).Ok:=by
    refine⟨I2.ok.mod,ok.kind,I2.ok.glob,I2.ok.blt,Nat.le_refl _,fun x y c e1 e2=>?_,fun x hx=>?_,fun x c e1 e2=>?_,I2.ok.hd,I2.ok.frames, .inl rfl,fun b hb=>?_,I3.bs,Nat.le_trans I3.ok.jj I3.sz,fun b o e hb=>?_,fun b hb hz=>?_,I3.stack,I3.B5⟩
    · refine tW (n:=HP.objs.size+1) (acc:=g7 X.env.cells scope.names []) (fun x y c g1 g2=>I2.ok.inj x y c (kR (fun y d q=>by simp at q) g1) (kR (fun y d q=>by simp at q) g2)) (fun x c g=>Nat.lt_succ_of_lt (OF (kR (fun y d q=>by simp at q) g))) e1 e2
    · have hx':scope.names.lookup x=some .free\/scope.names.lookup x=some .cell:=by
        rcases hx with hx|hx
        · exact wA hx (.inl rfl)
        · exact wA hx (.inr rfl)
      rcases hx' with hx'|hx'
      · have hm:=PySem.mem_of_lookup hx'
        obtain⟨a,ha⟩:=hfree _ hm rfl
        refine⟨a,?_⟩
        show(lE X scope HP.objs.size).lookup x=some a
        unfold lE
        rw[qi (ok.own x hx')]
        exact Dc hm ha
      · exact Option.isSome_iff_exists.mp (PySem.W.cellsFrom_some _ _ _ (.inl hx'))
    · have e1:scope.names.lookup x=some .cell:=by
        have e1:(scope.names.lookup x==some NameKind.cell)=true:=e1
        simpa using e1
      exact Nat.le_of_succ_le (vG (lo:=HP.objs.size+1) (Nat.le_refl _) (.inr (PySem.mem_of_lookup e1)) e2)
    · refine⟨fun z=>?_,fun x c e=>?_⟩
      rotate_left
      · rcases vz e with ⟨z,_⟩|z
        · have q:=g6 b hb
          intro w
          rw[hC] at z
          rw[w] at z
          exact absurd (Nat.lt_of_lt_of_le (Nat.lt_succ_of_lt (Nat.lt_succ_of_lt q)) z) (Nat.lt_irrefl _)
        · exact(f2 b hb).2.2.2.2.1 x c z
      have z':b=HP.objs.size:=z
      have q:=g6 b hb
      rw[z',hC] at q
      exact absurd q (Nat.not_lt.mpr (Nat.le_succ _))
    · rcases(f2 b hb).2.2.2.1 with z|z
      · exact I2.ok.om b o e z
      · exact absurd (Nat.lt_of_lt_of_le (Heap.lt_size (I2.ok.bs b o e).1) z) (Nat.lt_irrefl _)
    · rcases List.mem_cons.mp (I2.t6 b hz) with z|z
      · exact(f2 b hb).2.1 z
      · exact(f2 b hb).2.2.1 z
  have IY:Inv (cZ X scope HP.objs.size N {s2 with heap:=HP} H3 fp) [] (eB mp σ) H3 {s2 with heap:=h₁}:=by
    refine⟨pG,rfl,I2.bare,Un.kept old,⟨_,zj,fun i x v e1 e2 e3=>?_⟩,fun x c e=>?_,I3.hok.fresh (Nat.le_refl _),fun x c e=>?_,fun p hp=>absurd (show p∈([]:List (Addr×Obj)) from hp) (by simp),I3.hok.kept old,?_⟩
    · have hj:∃j,mp[i]?=some (some j)/\σ[j]?=some (some v):=by
        unfold eB at e2
        rw[List.getElem?_map] at e2
        cases q:mp[i]? with
        |none=>rw[q] at e2;cases e2
        | some o =>
          rw[q] at e2
          cases o with
          |none=>cases e2
          | some j =>
            refine⟨j,rfl,?_⟩
            have e2:(match σ[j]? with|some v=>v|none=>none)=some v:=Option.some.inj e2
            cases r:σ[j]? with
            |none=>rw[r] at e2;cases e2
            | some u =>
              rw[r] at e2
              have e2:u=some v:=e2
              rw[e2]
      obtain⟨j,hj1,hj2⟩:=hj
      obtain⟨l1,l2⟩:=ok.look i j x hj1 e1
      have hm:=PySem.mem_of_lookup l2
      have kx:=ok.free _ hm rfl
      obtain⟨mm,_,hl⟩:=I3.loc
      obtain⟨u,ru,lk⟩:=hl j x v l1 hj2 (kx.elim (fun z=> .inr (.inl z)) fun z=> .inr (.inr z))
      refine⟨u,ru, .inr ⟨E1 l2,?_⟩⟩
      rcases lk with ⟨k,_⟩|⟨_,c,e,z⟩
      · exfalso
        have k':X.env.scope.names.lookup x=some .local:=k
        rcases kx with kx|kx
        · rw[k'] at kx;cases kx
        · rw[k'] at kx;cases kx
      · refine⟨c,(qi (ok.own x l2)).trans (Dc hm e),?_⟩
        obtain⟨o,ho,hd⟩:=z
        exact⟨o,old c o ho,hd⟩
    · rcases vz e with ⟨_,z⟩|z
      · exact⟨none,z⟩
      · obtain⟨v,o,ho,hd⟩:=I3.cell x c z
        exact⟨v,o,old c o ho,hd⟩
    · rcases vz e with ⟨z,_⟩|z
      · exact I3.hok.fresh (Nat.le_of_succ_le z)
      · exact I3.g8 x c z
    · show(eB mp σ).length=N.length
      unfold eB
      rw[List.length_map,ok.len]
  have jG:∀{H':Hp},(∀b∈fp,H' b=none)->∀b∈fp,iC (cZ X scope HP.objs.size N {s2 with heap:=HP} H3 fp) [] H' b:=fun{H'} hn b hb=>
    ⟨hn b hb,(pG.qU b hb).1,pG.ou b hb, .inl hb,(pG.qU b hb).2,fun p hp=>absurd (show p∈([]:List (Addr×Obj)) from hp) (by simp)⟩
  have E4:tn 0 h₁:=T.keep 0 _ _ st2 fun b hb o e=>old b o (by rw[<-yE];exact Heap.get?_push_of_some _ e)
  have loop:codeAny (model X.prog X.w) X.A (.compLoop (.ListComp elt [⟨tg,iter,ifs,0⟩] scope pos) 0 (.ref it) (.ref s2.heap.objs.size) (compEnvC scope (lE X scope HP.objs.size) HP.objs.size X.env))
      (compPost (model X.prog X.w) X.A X.xe use QQ (.ref s2.heap.objs.size) HP.objs.size) {s2 with heap:=h₁}:=by
    obtain⟨hg,ht,he⟩:=hb HP.objs.size {s2 with heap:=HP} H3 fp
    generalize hY:cZ X scope HP.objs.size N {s2 with heap:=HP} H3 fp=Y at hg ht he IY jG
    have yp:Y.prog=X.prog:=by rw[<-hY];rfl
    have yw:Y.w=X.w:=by rw[<-hY];rfl
    have yK:Y.K=X.K:=by rw[<-hY];rfl
    have yA:Y.A=X.A:=by rw[<-hY];rfl
    have yc:Y.calm=true:=by rw[<-hY];exact hc
    have yx:Y.xe=fun _ _=>False:=by rw[<-hY];rfl
    have Au:Y.env=compEnvC scope (lE X scope HP.objs.size) HP.objs.size X.env:=by rw[<-hY];rfl
    rw[<-Au]
    refine Lf (fun n s'=>∃i σ' H',Inv Y [] σ' H' s'/\tn i s'.heap/\(∀b∈fp,H' b=none)/\W i n σ' H') ?_ m0 ⟨0,_,H3,IY,E4,NU,w0⟩
    rintro n s3 ⟨i,σ3,H4,I4,st3,fr3,w3⟩
    rcases turn i n σ3 H4 w3 with ⟨stop,qn⟩|⟨go,Nx,hN,step⟩
    · have q0:=T.done Y yp yw yK yc i [] s3 σ3 H4 (fun _ _=>False) I4 (jG fr3) st3 stop
      rw[yA] at q0
      refine aG q0 fun r s4 ⟨hr,I5⟩=>?_
      subst hr
      show compPost (model X.prog X.w) X.A X.xe use QQ (.ref s2.heap.objs.size) HP.objs.size (.ok .next) s4
      obtain⟨m,hm,_⟩:=id I5.loc
      have yl:Y.env.locals=HP.objs.size:=by rw[Au];rfl
      rw[yl] at hm
      have fC:H4 HP.objs.size=none:=by have:=I5.free;rw[yl] at this;exact this
      have ub:=I5.base
      have ub':Un (frs X.stack) fp H3 H4 HP s4.heap:=by rw[<-hY] at ub;exact ub
      have hos:s4.os=s2.os:=by have:=I5.os;rw[<-hY] at this;exact this
      have Tn:cy X.prog X.w H4 s4.heap:=by have:=I5.hok;rw[yp,yw] at this;exact this
      have IX:Inv X pins σ H4 s4:=I3.LU (ch:=fp) hos ub' Tn I5.bare fun b hb=>⟨(f2 b hb).2.2.2.1,(f2 b hb).2.1,(f2 b hb).2.2.2.2.1,(f2 b hb).2.2.2.2.2⟩
      exact fin _ _ H4 s4 m IX (I3.uM (Nat.le_refl _) fC) hm qn
    · have q0:=T.item Y yp yw yK yc i [] s3 σ3 H4 (fun _ _=>False) I4 (jG fr3) st3 go
      rw[yA] at q0
      refine aG q0 fun r s4 ⟨u,hr,h4⟩=>?_
      subst hr
      refine aG h4 fun _ s5 ⟨x,H5,I5,r5,y5,kN,v8⟩=>?_
      have wg:=I5.pinned (jG v8) (T.obj _ _ kN)
      rw[<-yx,<-yp,<-yw,<-yA]
      refine aG (hg _ s5 σ3 H5 x u _ wg r5 (step x H5 y5)) fun _ s6 ⟨mR,H6,I6,q6⟩=>?_
      refine aG (ht _ s6 mR H6 _ I6 q6) fun b s7 ⟨H7,I7,q7⟩=>?_
      have again:∀{oj:St} {H8:Hp} {s8:Shared},Inv Y ([]++oH fp s5.heap) oj H8 s8->Nx oj H8->∃m,m<n/\∃i σ' H',Inv Y [] σ' H' s8/\tn i s8.heap/\(∀b∈fp,H' b=none)/\W i m σ' H':=fun{oj H8 s8} I8 n8=>by
        obtain⟨m',hm,w8⟩:=hN oj H8 n8
        refine⟨m',hm,i+1,oj,H8,I8.pX,T.keep _ _ _ kN fun b hb o e=>(I8.pin (b,o) (List.mem_append_right _ (List.mem_append_right _ (qZ hb e)))).1,fun b hb=>?_,w8⟩
        obtain⟨o,e,d⟩:=T.obj _ _ kN b hb
        exact(I8.pin (b,o) (List.mem_append_right _ (List.mem_append_right _ (qZ hb e)))).2.1
      cases b with
      | false =>
        rw[if_neg Bool.false_ne_true]
        rw[if_neg Bool.false_ne_true] at q7
        exact again I7 q7
      | true =>
        rw[if_pos rfl]
        rw[if_pos rfl] at q7
        refine aG (he _ s7 mR H7 _ I7 q7) fun v s8 ⟨y,H8,I8,r8,ys,e8,z8,n8⟩=>?_
        refine aG (sL _ s8 mR H8 (.ref s2.heap.objs.size) [y] (.ref s2.heap.objs.size) [v] (fun _ H9=>H9=upd H8 s2.heap.objs.size (.lst (ys++[y]))) I8 rfl (.cons r8 .nil) ⟨_,ys,y,rfl,rfl,e8,z8,rfl⟩) fun v9 s9 ⟨y9,H9,I9,r9,e9⟩=>?_
        subst e9
        exact again I9 n8
  refine codeAny_compStart_list loop (T.self _ _ _ _ _ E4 loop)
theorem dJ{elt iter tg:Expr}{ifs:List Expr}{scope:Scope}{pos:Pos}{N:List Str}{mp:List (Option Nat)}{wi:TI}{g:TG}{tc:TT}{te:TE}
  (ok:bJ X.env.scope X.N scope N mp) (hi:PI X tg iter wi)
  (hb:∀C s₀ H₀ fp,PG (cZ X scope C N s₀ H₀ fp) tg g/\lY (cZ X scope C N s₀ H₀ fp) ifs tc/\PE (cZ X scope C N s₀ H₀ fp) elt te) (hc:X.calm=true:=by rfl)
  (hs:∀x,foldedSetIterable iter X.env x=pure x:=by intro _;rfl):PE X (.ListComp elt [⟨tg,iter,ifs,0⟩] scope pos) (iF wi g tc te mp):=by
 intro pins s σ H Q I h
 rw[eval_ListComp]
 refine Af (use:=none) ok hc hi hb hs I h fun acc C H' s' m I' f hn q=>?_
 exact⟨m,hn,fun h' hs'=>⟨.ref acc,H',f.turned I' hs',rfl,q⟩⟩
theorem oB{elt iter tg:Expr}{ifs:List Expr}{scope:Scope}{pos spos py:Pos}{N:List Str}{mp:List (Option Nat)}{wi:TI}{g:TG}{tc:TT}{te:TE}{i:Nat}{y:Str}
  (hN:X.N.Nodup) (hy:X.N[i]?=some y) (hk:X.env.kindOf y=some .local)
  (ok:bJ X.env.scope X.N scope N mp) (hi:PI X tg iter wi)
  (hb:∀C s₀ H₀ fp,PG (cZ X scope C N s₀ H₀ fp) tg g/\lY (cZ X scope C N s₀ H₀ fp) ifs tc/\PE (cZ X scope C N s₀ H₀ fp) elt te) (hc:X.calm=true:=by rfl)
  (hsw:swapsWith (.ListComp elt [⟨tg,iter,ifs,0⟩] scope pos) (some (.Name y py)) spos.line X.env=pure true:=by rfl)
  (hs:∀x,foldedSetIterable iter X.env x=pure x:=by intro _;rfl):PS X (.Assign [.Name y py] (.ListComp elt [⟨tg,iter,ifs,0⟩] scope pos) spos) (AF i (iF wi g tc te mp)):=by
 intro pins s σ H D I h
 rw[exec_Assign_Name_used _ _ _ _ hsw]
 refine wpAny_bind (wpAny_standAt (wpAny_bind ?_))
 show wpAny _ X.A (do let _<-comprehension (.ListComp elt [⟨tg,iter,ifs,0⟩] scope pos) scope X.env _ (newList []) false (eval iter X.env) (some (assign (.Name y py) X.env))) _ _ s
 refine wpAny_bind (wpAny_mono (Af (use:=some (assign (.Name y py) X.env)) (QQ:=fun _ s'=>SP X pins D .next s') ok hc hi hb hs I h fun acc C H' s' m I' f hn q=>?_) (fun _ s' hq=>wpAny_pure (wpAny_pure hq)) fun _ _ e=>e)
 refine wpAny_assign_Name (zW (v:= .ref acc) I' hN hy (.inl hk) rfl (fun s2 I2 ⟨a,sb,ha⟩=>?_) (.inr hk))
 have hne:C≠a:=by
  rcases ha with z|z
  ·rw[z];exact f.2.1
  ·exact fun e=>f.2.2.2.2.1 y a z e.symm
 exact⟨m,hn.sameBut sb hne,fun h' hs'=>⟨_,H',f.turned I2 hs',q⟩⟩
end
end L2
set_option maxRecDepth 100000
set_option maxHeartbeats 4000000
namespace L2
open PySem PySem.Spec PyProof.Rows
noncomputable def dz(aD:List Int)(prs:aq):Nat:=(prs.filter fun pr=>decide (pr.1∈aD)).length
noncomputable def eG(cs:List aq)(aD:List Int):Bool:=cs.all fun prs=>decide (dz aD prs≠1)
noncomputable def Pq(aD:List Int)(d:PyData):Prop:=d= .list (aD.map .int)\/∃ks:Ks,d= .dict (ks.map d9)/\∀k,fS ks k=decide (k∈aD)
theorem pD(aD:List Int)(prs:aq)(pr:Int×Int):(prs++[pr]).filter (fun pr=>decide (pr.1∈aD))=prs.filter (fun pr=>decide (pr.1∈aD))++if pr.1∈aD then[pr] else[]:=by
 rw[List.filter_append]
 congr 1
 by_cases h:pr.1∈aD
 ·simp[h]
 ·simp[h]
theorem Tv.mono{G:Gx}{ρ:Rh}{t:TT}{Ψ Θ:Bool->Prop}(h:Tv G ρ t Ψ)(q:∀b,Ψ b->Θ b):Tv G ρ t Θ:=fun nb σ H Q W z=>h nb σ H Q W fun b H' p=>z b H' (q b p)
end L2
set_option maxRecDepth 100000
set_option maxHeartbeats 4000000
namespace L2
open PySem PySem.Spec PyProof.Rows
theorem Ke{X:Cx}{K:PySem.W.Frag}{e:Expr}{T:String}{r:V->List V->Hp->VK->Prop}{to:TE}{t:TA}(hK:X.K=K)(h:PE X e (kT X.K T r to t)):PE X e (kT K T r to t):=by subst hK;exact h
theorem ES{α:Type}{d:α}:∀{ds:List α} {r:Nat},ds[r]?=some d->(d::ds.eraseIdx r).Perm ds
 |x::ds,0,e=>by simp at e;subst e;exact .refl _
 |x::ds,r+1,e=>(List.Perm.swap x d _).trans ((ES (ds:=ds) (r:=r) (by simpa using e)).cons x)
 |[],r,e=>by simp at e
section
variable{G:Gx}{ρ:Rh}{t0:TE}{E:DE}{i0 j:Nat}{f:Bool}{K K2:PySem.W.Frag}
theorem Sv.GZ{a:Addr}{ds:List PyData}(e0:ρ[i0]?=some .ak)(ej:ρ[j]?=some (.own a f ds))(hl:ds.length<=9000)(hlen:Ev G ρ t0 fun _ x=>x= .int ds.length)(h:∀rs:List PyData,rs.Perm ds->E.rt f (.list rs)):
  Sv G ρ (lX (iF (lW (aV t0 bz)) (fc 0) jH (kT K "list" Cv (aZ 2) (aV (d8 fQ [] E0 (aV (aZ 1) (aV (dh (cC K2) (aV (aZ 2) bz)) bz))) bz)) [none,some i0,some j])) E:=fun nb σ H D W KK=>by
 refine hlen nb σ H _ W fun g v H1 x ex s1 hv=>?_
 subst ex
 rw[hv.bB]
 refine⟨ds.length,rfl,by walk_at "o",by walk_at "o",fun acc hacc=>?_⟩
 have hij:i0≠j:=fun z=>by subst z;rw[e0] at ej;cases ej
 have cU:iE [none,some i0,some j] ρ=[.no, .ak, .own a f ds]:=by unfold iE;simp[e0,ej]
 have W0:Wd G nb [.no, .ak, .own a f ds] (L2.eB [none,some i0,some j] σ) H1:=by rw[<-cU];exact(W.step s1).eB (by simp[hij])
 have W1:=W0.more hacc (o:= .lst [])
 have hN:=NB.new s1.2 hacc
 have AE:a≠acc:=(yG W0 hacc).1 2 a f ds rfl
 rw[Int.toNat_natCast]
 refine R.yh (fun i σ H2=>∃(s0:Sl) (ds' es:List PyData) (xs:List V),(∀a f ds,s0≠ .own a f ds)/\(∀a f ds,s0≠ .bA a f ds)/\Wd G (fun x=>nb x\/x=acc) [s0, .ak, .own a f ds'] σ H2/\H2 acc=some (.lst xs)/\af (G.S (fun x=>nb x\/x=acc) f) H2 es xs/\(es++ds').Perm ds/\es.length=i) ⟨.no,ds,[],[],(fun _ _ _ z=>by cases z),(fun _ _ _ z=>by cases z),W1,aY, .nil,by simp,rfl⟩ ?_ ?_
 ·rintro i σ H2 hi ⟨s0,ds',es,xs,hs0,hs1,W2,hx2,hd2,hp,hel⟩
  have hlen':=hp.length_eq
  rw[List.length_append] at hlen'
  have W3:=W2.kU (i:=0) (f:=true) (d:= .int (0+(i:Int))) (v:= .int (0+(i:Int))) (.int _)
  dsimp only[fc,jH]
  rw[if_pos rfl]
  obtain⟨x,e1,h1,h2,h3,ys,hy,MI⟩:=W3.ok 2 _ rfl
  subst h1
  refine⟨.ref a,e1, .inl ⟨rfl,_,aR.of hy⟩,?_⟩
  refine Ev.draw (i:=1) (Φ:=fun _ d=>∃r:Nat,d= .int (r:Int)/\r<ds'.length) rfl (Ev.A7 (i:=2) rfl ?_) _ _ _ _ W3 fun g v H3 d ⟨r,er,hr⟩ s3 hv=>?_
  ·refine⟨_,rfl,by walk_at "o",by unfold Sm;walk_at "o",fun r r1 r2=>⟨r.toNat,?_,by walk_at "o"⟩⟩
   rw[Int.toNat_of_nonneg r1]
  subst er
  have hk:=hv.bB
  subst hk
  have W4:=W3.step s3
  have Ky:=s3.1 _ _ h3 hy
  have rH:=s3.1 _ _ hN hx2
  have AA:=MI.keep s3.cF
  have qH:=hd2.keep (s3.cF (nb:=fun x=>nb x\/x=acc) (f:=f))
  obtain⟨d,zP⟩:∃d,ds'[r]?=some d:=⟨_,List.getElem?_eq_getElem hr⟩
  obtain⟨y',hy',hD⟩:=AA.get zP
  have hml:r<ys.length:=(List.getElem?_eq_some_iff.mp hy').1
  have hix:seqIndex? (r:Int) ys.length=some r:=by
   have:eX ys.length (r:Int)=some r:=by
    unfold eX
    rw[if_pos (by walk_at "o"),if_pos (by walk_at "o"),Int.toNat_natCast]
   exact(wV this).1
  have W5:=Sv.uH W4 (i:=2) rfl (AA.era r)
  have BY:aH (G.S (fun x=>nb x\/x=acc) f) H3 (upd H3 a (.lst (ys.eraseIdx r))):=aH.set (.inl h2)
  have HU:(upd H3 a (.lst (ys.eraseIdx r))) acc=some (.lst xs):=by rw[bf (Ne.symm AE)];exact rH
  refine⟨a,ys,(r:Int),r,y',rfl,rfl,Ky,by walk_at "o",by walk_at "o",hix,hy',?_⟩
  have iP:=hd2.length
  refine⟨xs,HU,Nat.lt_of_lt_of_le (show xs.length<10000 by walk_at "o") (by decide),?_⟩
  have Dt:aH (G.S (fun x=>nb x\/x=acc) f) (upd H3 a (.lst (ys.eraseIdx r))) (upd (upd H3 a (.lst (ys.eraseIdx r))) acc (.lst (xs++[y']))):=aH.set (.inl (.inr rfl))
  have W6:=W5.write (p:=acc) (o:= .lst (xs++[y'])) (.inr rfl) hN (fun k c f' cs hc=>by
   match k with
   |0=>cases hc
   |1=>cases hc
   |2=>cases hc;exact AE
   |k+3=>simp at hc) (fun k c f' cs hc=>by
   match k with
   |0=>cases hc
   |1=>cases hc
   |2=>cases hc
   |k+3=>simp at hc) (fun k c hc=>by
   match k with
   |0=>cases hc
   |1=>cases hc
   |2=>cases hc
   |k+3=>simp at hc)
  refine⟨_,ds'.eraseIdx r,es++[d],xs++[y'],?_,?_,W6,aY,af.snoc ((hD.keep BY).keep Dt) ((qH.keep BY).keep Dt),?_,by simp[hel]⟩
  ·intro _ _ _ z;cases z
  ·intro _ _ _ z;cases z
  ·have:=ES zP
   rw[List.append_assoc]
   exact((List.perm_append_left_iff es).mpr this).trans hp
 ·rintro σ H2 ⟨s0,ds',es,xs,hs0,hs1,W2,hx2,hd2,hp,hel⟩
  have hlen':=hp.length_eq
  rw[List.length_append] at hlen'
  have e9:ds'=[]:=List.length_eq_zero_iff.mp (by walk_at "o")
  subst e9
  rw[List.append_nil] at hp
  refine KK.rt _ _ _ f _ H2 _ (h es hp) W2 (.lst (fun z=>?_) hx2 (hd2.av (cB (fun z=>z) fun _ z=>z.elim)))
  have hn:=W2.cL acc (.inr rfl) hN
  rcases z with z|z|z|z
  ·exact z
  ·exact W2.gA acc z hn
  ·exact z hN
  ·exact z.2 hn
end
end L2
set_option maxRecDepth 100000
set_option maxHeartbeats 4000000
namespace L2
open PySem PySem.Spec PyProof.Rows
noncomputable def Bk:V->List V->Hp->VK->Prop:=fun x vs H Q=>∃a kvs k v,x= .ref a/\vs=[kV k]/\H a=some (.dK kvs)/\dR kvs k=some v/\Q v (upd H a (.dK (iY kvs k)))
theorem GG{X:Cx}:rE X "dict.pop" Bk:=by
 intro pins s σ H x vs v us Q I rx rv h
 obtain⟨a,kvs,k,w,rfl,rfl,hH,hv,q⟩:=h
 cases rx
 obtain⟨u,rfl,ru⟩:=rv.one
 exact Vi I hH ru hv (.inl rfl) fun w' s' I' r'=>⟨w,_,I',r',q⟩
theorem au.drop{S:Addr->Prop}{H:Hp}{k:Int}:∀{ks:Ks} {ps:List (Key×V)},au S H (ks.map d9) ps->au S H ((lK ks k).map d9) (iY ps (Sum.inl k))
  |[],ps,h=>by unfold au at h;subst h;unfold lK iY;simp only[List.filter_nil,List.map_nil];unfold au;rfl
  | p :: r, ps, h => by
    rw[List.map_cons] at h
    unfold au at h
    obtain⟨q,qs,rfl,h1,h2⟩:=h
    have ih:=au.drop (k:=k) h2
    have h0:=h1
    unfold cD at h1
    have h3:q.1=Sum.inl p.1:=h1.1
    unfold lK iY at ih⊢
    rw[List.filter_cons,List.filter_cons]
    by_cases e:p.1=k
    · rw[if_neg (by simpa using e),if_neg (by rw[h3,e];simp)]
      exact ih
    · rw[if_pos (by simpa using e),if_pos (by rw[h3];simpa using e),List.map_cons]
      unfold au
      exact⟨q,_,rfl,h0,ih⟩
section
variable{G:Gx}{ρ:Rh}{ta tb te:TE}{t:TA}{E:DE}{i j m n:Nat}{f:Bool}{K K2 K3:PySem.W.Frag}{Φ:Pd}
theorem Sv.NV{a:Addr}{ks:Ks}(e:ρ[i]?=some (.bA a f ks))(h:Ev G ρ te fun _ y=>∃k,y= .int k/\fS ks k=true/\E.nx (ρ.set i (.bA a f (lK ks k)))):
  Sv G ρ (wM (kT K "dict" Bk (aZ i) (aV te bz))) E:=fun nb σ H D W KK=>by
 obtain⟨x,e1,h1,h2,h3,ps,hp,hd⟩:=W.ok i _ e
 subst h1
 refine⟨.ref a,e1, .inr (.inr (.inl ⟨rfl, .inl ⟨_,hp⟩⟩)),h nb σ H _ W fun g v H1 y ⟨k,ey,hk,q⟩ s1 hv=>?_⟩
 subst ey
 have hk':=hv.bB
 subst hk'
 have hd1:=hd.keep s1.cF
 have:=au.val k hd1
 rw[<-Dg] at hk
 obtain⟨d,ed⟩:=Option.isSome_iff_exists.mp hk
 rw[ed] at this
 obtain⟨v,hv',_⟩:=this
 exact⟨a,ps, .inl k,v,rfl,rfl,s1.1 _ _ h3 hp,hv',KK.nx nb _ _ _ q (Dv (W.step s1) e (au.drop hd1))⟩
end
structure gQ(cs:List aq)(aD g:List Int):Prop where
 sub:∃q:Int->Bool,g=aD.filter q
 out:eG cs g=true
 max:∀T:List Int,(∀x∈T,x∈aD)->eG cs T=true->∀x∈T,x∈g
theorem CZ{S T:List Int}(h:∀x∈T,x∈S)(prs:aq):dz T prs<=dz S prs:=by
  unfold dz
  induction prs with
  |nil=>exact Nat.le_refl _
  | cons pr prs ih =>
    rw[List.filter_cons,List.filter_cons]
    by_cases c:pr.1∈T
    · rw[if_pos (by simpa using c),if_pos (by simpa using h _ c),List.length_cons,List.length_cons];walk_at "o"
    · rw[if_neg (by simpa using c)]
      by_cases c2:pr.1∈S
      · rw[if_pos (by simpa using c2),List.length_cons];walk_at "o"
      · rw[if_neg (by simpa using c2)];exact ih
theorem Ez{T:List Int}{x:Int}{prs:aq}(hx:x∈T)(h:x∈prs.map (·.1)):1<=dz T prs:=by
 obtain⟨pr,hp,e⟩:=List.mem_map.mp h
 unfold dz
 exact List.length_pos_of_mem (List.mem_filter.mpr ⟨hp,by rw[e];simpa using hx⟩)
@[reducible] noncomputable def eZ(S:List Int):Ks:=S.map fun x=>(x,PyData.bool true)
theorem yz(S:List Int)(k:Int):fS (eZ S) k=decide (k∈S):=by
 rw[Bool.eq_iff_iff,ug,List.map_map,decide_eq_true_eq]
 have:S.map ((·.1)∘fun x=>(x,PyData.bool true))=S:=List.map_id'' (fun _=>rfl) S
 rw[this]
theorem QB(S:List Int)(k:Int):lK (eZ S) k=eZ (S.filter fun y=>decide (y≠k)):=by
 unfold lK eZ
 rw[List.filter_map]
 rfl
end L2
set_option maxRecDepth 100000
set_option maxHeartbeats 4000000
namespace L2
open PySem PySem.Spec PyProof.Rows
theorem qR:∀{a b:List Int},a.Pairwise (· < ·)->b.Pairwise (· < ·)->(∀k,k∈a↔k∈b)->a=b
  |[],[],_,_,_=>rfl
  |[],y::b,_,_,h=>absurd ((h y).mpr (List.mem_cons_self ..)) (by simp)
  |x::a,[],_,_,h=>absurd ((h x).mp (List.mem_cons_self ..)) (by simp)
  | x :: a, y :: b, ha, hb, h => by
    obtain⟨ha1,ha2⟩:=List.pairwise_cons.mp ha
    obtain⟨hb1,hb2⟩:=List.pairwise_cons.mp hb
    have e:x=y:=by
      rcases List.mem_cons.mp ((h x).mp (List.mem_cons_self ..)) with z|z
      · exact z
      · rcases List.mem_cons.mp ((h y).mpr (List.mem_cons_self ..)) with w|w
        · exact w.symm
        · have:=hb1 x z;have:=ha1 y w;walk_at "o"
    subst e
    have:a=b:=qR ha2 hb2 fun k=>by
      constructor
      · intro hk
        rcases List.mem_cons.mp ((h k).mp (List.mem_cons_of_mem _ hk)) with z|z
        · have:=ha1 k hk;walk_at "o"
        · exact z
      · intro hk
        rcases List.mem_cons.mp ((h k).mpr (List.mem_cons_of_mem _ hk)) with z|z
        · have:=hb1 k hk;walk_at "o"
        · exact z
    rw[this]
theorem Je{a b:List Int}(h:b.Pairwise (· < ·))(hs:a.Pairwise (· <= ·))(hp:a.Perm b):a=b:=by
 have nd:a.Nodup:=hp.nodup_iff.mpr (h.imp fun h=>by walk_at "o")
 have hlt:a.Pairwise (· < ·):=(hs.and nd).imp fun⟨h1,h2⟩=>by walk_at "o"
 exact qR hlt h fun k=>hp.mem_iff
theorem Ib{cs:List aq}{aD S:List Int}{prs:aq}{x:Int}(h:∀T:List Int,(∀x∈T,x∈aD)->eG cs T=true->∀x∈T,x∈S)(hp:prs∈cs)(h1:dz S prs=1)(Jx:x∈prs.map (·.1)):
  ∀T:List Int,(∀x∈T,x∈aD)->eG cs T=true->∀y∈T,y∈S.filter fun y=>decide (y≠x):=fun T hT ho y hy=>by
 refine List.mem_filter.mpr ⟨h T hT ho y hy,decide_eq_true fun z=>?_⟩
 subst z
 have a1:=CZ (h T hT ho) prs
 have a2:=Ez hy Jx
 unfold eG at ho
 rw[List.all_eq_true] at ho
 exact of_decide_eq_true (ho prs hp) (by walk_at "o")
theorem gQ.mem{cs:List aq}{aD g:List Int}(h:gQ cs aD g):∀x∈g,x∈aD:=fun x hx=>by
 obtain⟨q,e⟩:=h.sub
 rw[e] at hx
 exact(List.mem_filter.mp hx).1
theorem gQ.up{cs:List aq}{aD g:List Int}(h:gQ cs aD g)(hl:aD.Pairwise (· < ·)):g.Pairwise (· < ·):=by
 obtain⟨q,e⟩:=h.sub
 rw[e]
 exact hl.filter q
end L2
set_option maxRecDepth 100000
set_option maxHeartbeats 4000000
namespace L2
open PySem PySem.Spec PyProof.Rows
noncomputable def CP(row:List Int):Int:=match row.getLast? with|none=>0|some l=>l+1
noncomputable def Ff(n:Int)(row:List Int):List Int:=(List.range (n-CP row).toNat).map fun(i:Nat)=>CP row+(i:Int)
noncomputable def ext(n:Int)(row:List Int):List (List Int):=(Ff n row).map fun p=>row++[p]
@[reducible] noncomputable def oX:Option (List Int)->PyData
 |none=> .none
 |some r=>pJ r
theorem tX{α β:Type}{φ:α->β}{l1 l2:List β}(h:l1.Perm l2):∀xs:List α,l2=xs.map φ->∃ys:List α,l1=ys.map φ/\ys.Perm xs:=by
  induction h with
  |nil=>intro xs e;exact⟨[],rfl,by cases xs<;>first|exact .nil|cases e⟩
  | cons x _ ih =>
    intro xs e
    cases xs with
    |nil=>cases e
    | cons a xs =>
      obtain⟨e1,e2⟩:=List.cons.inj e
      obtain⟨ys,e3,p⟩:=ih xs e2
      exact⟨a::ys,by rw[e3,e1];rfl,p.cons a⟩
  | swap x y l =>
    intro xs e
    match xs,e with
    | a :: b :: xs, e =>
      obtain⟨e1,e2⟩:=List.cons.inj e
      obtain⟨e3,e4⟩:=List.cons.inj e2
      exact⟨b::a::xs,by rw[e1,e3,e4];rfl, .swap a b xs⟩
  | trans _ _ ih1 ih2 =>
    intro xs e
    obtain⟨ys,e1,p1⟩:=ih2 xs e
    obtain⟨zs,e2,p2⟩:=ih1 ys e1
    exact⟨zs,e2,p2.trans p1⟩
end L2
set_option maxRecDepth 100000
set_option maxHeartbeats 4000000
set_option maxRecDepth 100000
set_option maxHeartbeats 4000000
set_option maxRecDepth 100000
set_option maxHeartbeats 4000000
set_option maxRecDepth 100000
set_option maxHeartbeats 4000000
namespace L2
open PySem PySem.Spec PyProof.Rows
noncomputable def gI(r:List Int)(i:Nat):Int:=r.getD i 0
noncomputable def co(prs:aq)(j:Nat):Int:=(prs.map fun pr=>if pr.1.toNat=j then pr.2 else 0).sum
noncomputable def lR(p:Int)(m:Nat)(prs:aq):Prop:=(prs.map (·.1)).Nodup/\prs.length<=1000/\∀pr∈prs,0<=pr.1/\pr.1<m/\1<=pr.2/\pr.2<p
end L2
set_option maxRecDepth 100000
set_option maxHeartbeats 4000000
set_option maxRecDepth 100000
set_option maxHeartbeats 4000000
set_option maxRecDepth 100000
set_option maxHeartbeats 4000000
set_option maxRecDepth 100000
set_option maxHeartbeats 4000000
namespace L2
open PySem PySem.Spec PyProof.Rows
theorem gM{P:(Addr->Prop)->Prop}{H:Hp}(hP:∀{S S':Addr->Prop},(∀a,S' a->S a)->P S->P S')(hf:∀{S:Addr->Prop} {p:Addr},H p=none->P S->P fun a=>S a\/a=p):∀{L:List Addr} {S:Addr->Prop},(∀a∈L,H a=none)->P S->P fun a=>S a\/a∈L
 |[],S,_,h=>hP (fun a z=>z.elim (fun z=>z) fun z=>by cases z) h
 | p :: L, S, hL, h => hP (fun a z => by
   rcases z with z|z
   ·exact .inl (.inl z)
   ·rcases List.mem_cons.mp z with z|z
    ·exact .inr z
    ·exact .inl (.inr z)) (hf (hL p (List.mem_cons_self ..)) (gM hP hf (L:=L) (fun a m=>hL a (List.mem_cons_of_mem _ m)) h))
section
variable{G:Gx}{ρ:Rh}{nb:Addr->Prop}{σ:St}{H H1:Hp}{i:Nat}{L:List Addr}{c c':Cu}{f:Bool}{d:PyData}{p:Addr}{o:HO}{E:DE}
theorem Wd.El(W:Wd G nb ρ σ H)(s1:Step G.B H H1)(ha:∀a∈L,H a=none)(e:∀a∈L,H1 a≠none):Wd G (fun x=>nb x\/x∈L) ρ σ H1/\(∀a∈L,NB G.B a)/\∀f x,G.S (fun x=>nb x\/x∈L) f x->(G.S nb f x\/x∈L):=by
  have hN:∀a∈L,NB G.B a:=fun a m=>NB.new W.ak (ha a m)
  have hA:∀f x,G.S (fun x=>nb x\/x∈L) f x->(G.S nb f x\/x∈L):=fun f x z=>by
    rcases z with (z|z)|z|z|z
    · exact .inl (.inl z)
    · exact .inr z
    · exact .inl (.inr (.inl z))
    · exact .inl (.inr (.inr (.inl z)))
    · exact .inl (.inr (.inr (.inr z)))
  have W1:=W.step s1
  have fD:∀{S:Addr->Prop} {d:PyData} {v:V},ah S H d v->ah (fun a=>S a\/a∈L) H d v:=fun{S d v} h=>gM (P:=fun S=>ah S H d v) (fun z h=>ah.av z h) (fun hp h=>ah.fresh hp h) ha h
  have ya:∀{S:Addr->Prop} {d:List PyData} {v:List V},af S H d v->af (fun a=>S a\/a∈L) H d v:=fun{S d v} h=>gM (P:=fun S=>af S H d v) (fun z h=>af.av z h) (fun hp h=>af.fresh hp h) ha h
  have vL:∀{S:Addr->Prop} {d:List (PyData×PyData)} {v:List (Key×V)},au S H d v->au (fun a=>S a\/a∈L) H d v:=fun{S d v} h=>gM (P:=fun S=>au S H d v) (fun z h=>au.av z h) (fun hp h=>au.fresh hp h) ha h
  have fH:∀{S:Addr->Prop} {d:HD} {v:V},dW S H d v->dW (fun a=>S a\/a∈L) H d v:=fun{S d v} h=>gM (P:=fun S=>dW S H d v) (fun z h=>dW.av h z) (fun hp h=>dW.fresh h hp) ha h
  refine⟨?_,hN,hA⟩
  refine⟨W1.ak,fun x n=>?_,W1.old,fun x n q=>?_,W.gA,W.len,W.gB,fun h m=>((fH (W.cH h m)).keep (s1.but fun x z=> .inl (.inr (.inr (.inl z))))).av (hA h.1),fun j s e'=>?_,W.apart,W.eT,W.cS⟩
  · rcases n with n|n
    · exact W1.live x n
    · exact e x n
  · rcases n with n|n
    · exact W.cL x n q
    · cases z:G.H0 x with
      |none=>rfl
      |some o=>have:=ha x n;rw[W.old x o q z] at this;cases this
  · obtain⟨x,e1,h⟩:=W.ok j s e'
    refine⟨x,e1,?_⟩
    cases s with
    |no=>trivial
    |d f d=>obtain⟨v,e,h⟩:=h;exact⟨v,e,((fD h).keep (s1.but fun x z=> .inl (.inr (.inr (.inl z))))).av (hA f)⟩
    |own c f es=>obtain⟨e,n,q,xs,hx,hd⟩:=h;exact⟨e, .inl n,q,xs,s1.1 _ _ q hx,((ya hd).keep (s1.but fun x z=> .inl (.inr (.inr (.inl z))))).av (hA f)⟩
    |ak=>exact h
    |raw v=>exact h
    |bA c f es=>obtain⟨e,n,q,xs,hx,hd⟩:=h;exact⟨e, .inl n,q,xs,s1.1 _ _ q hx,((vL hd).keep (s1.but fun x z=> .inl (.inr (.inr (.inl z))))).av (hA f)⟩
    | cu c =>
      obtain⟨e,n,q⟩:=h
      refine⟨e,fun a ha=>⟨.inl (n a ha).1,(n a ha).2⟩,c.av (hA c.f) (c.keep (.of fun x o hx e=>s1.1 x o ?_ e) (gM (P:=fun S=>c.P S H) (fun z h=>c.av z h) (fun hp h=>c.fresh hp h) ha q))⟩
      rcases hx with hx|hx
      · exact Classical.byContradiction fun z=>hx (.inl (.inr (.inr (.inl z))))
      · exact(n x hx).2
theorem kB.sR{x:Option V}{s:Sl}(h:kB G nb H x s):∀a∈s.adr,nb a/\NB G.B a:=by
 cases s with
 |own a f ds=>intro x hx;rw[List.mem_singleton.mp hx];exact⟨h.2.1,h.2.2.1⟩
 |bA a f ds=>intro x hx;rw[List.mem_singleton.mp hx];exact⟨h.2.1,h.2.2.1⟩
 |cu c=>exact h.2.1
 |no=>intro _ z;cases z
 |d _ _=>intro _ z;cases z
 |ak=>intro _ z;cases z
 |raw _=>intro _ z;cases z
theorem Wd.T8(W:Wd G nb ρ σ H)(s1:Step G.B H H1)(ha:∀a∈c.F,H a=none)(e:∀a∈c.F,H1 a≠none)(hP:c.P (fun x=>G.S nb c.f x\/x∈c.F) H1):Wd G (fun x=>nb x\/x∈c.F) (ρ.set i (.cu c)) (σ.set i (some c.v)) H1:=by
 obtain⟨W2,hN,hA⟩:=W.El s1 ha e
 refine W2.set ⟨rfl,fun a m=>⟨.inr m,hN a m⟩,c.av (hA c.f) hP⟩ (fun _ _ _ z=>by cases z) (fun _ _ _ z=>by cases z) (fun x hx j t hj ht hc z=>?_)
 obtain⟨y,e1,h⟩:=W.ok j _ ht
 exact W.live x (h.sR x z).1 (ha x hx)
theorem Wd.CA(W:Wd G nb ρ σ H)(e:ρ[i]?=some (.cu c))(hp:p∈c.F)(hv:c'.v=c.v)(hF:∀a∈c'.F,a∈c.F)(h:c'.P (G.S nb c'.f) (upd H p o)):Wd G nb (ρ.set i (.cu c')) σ (upd H p o):=by
 obtain⟨x,e1,h1,h2,h3⟩:=W.ok i _ e
 subst h1
 have hil:i<ρ.length:=(List.getElem?_eq_some_iff.mp e).1
 have W0:Wd G nb (ρ.set i .no) (σ.set i (some c.v)) H:=W.set trivial fun _ _ _ z=>by cases z
 have other:∀(j:Nat) s,(ρ.set i .no)[j]?=some s->s≠ .no->p∉s.adr:=fun j s hs hn=>by
  have hij:i≠j:=fun z=>by subst z;rw[List.getElem?_set_self hil] at hs;cases hs;exact hn rfl
  rw[List.getElem?_set_ne hij] at hs
  exact W.cS i j c s hij e hs p hp
 have W1:Wd G nb (ρ.set i .no) (σ.set i (some c.v)) (upd H p o):=W0.write (h2 p hp).1 (h2 p hp).2 (fun j a f ds hs z=>other j _ hs (by intro z;cases z) (List.mem_singleton.mpr z.symm)) (fun j a f ds hs z=>other j _ hs (by intro z;cases z) (List.mem_singleton.mpr z.symm)) (fun j c hs=>other j _ hs (by intro z;cases z))
 have W2:=W1.set (i:=i) (s:= .cu c') (x:=some c.v) ⟨by rw[hv],fun a m=>h2 a (hF a m),h⟩ (fun _ _ _ z=>by cases z) (fun _ _ _ z=>by cases z) (fun x hx j t hj ht hc=>by
  rw[List.getElem?_set_ne (Ne.symm hj)] at ht
  exact W.cS i j c t (Ne.symm hj) e ht x (hF x hx))
 rw[List.set_set,List.set_set] at W2
 have:σ.set i (some c.v)=σ:=by
  apply List.ext_getElem?
  intro j
  by_cases hij:i=j
  ·subst hij;rw[List.getElem?_set_self (by rw[W.len];exact hil),e1]
  ·rw[List.getElem?_set_ne hij]
 rwa[this] at W2
end
end L2
set_option maxRecDepth 100000
set_option maxHeartbeats 4000000
namespace L2
open PySem PySem.Spec PyProof.Rows
noncomputable abbrev Wf:=Int×Addr×List PyData
end L2
set_option maxRecDepth 100000
set_option maxHeartbeats 4000000
set_option maxRecDepth 100000
set_option maxHeartbeats 4000000
namespace L2
open PySem PySem.Spec PyProof.Rows
@[reducible] noncomputable def mH(t:Int×Int×Int):PyData:= .tuple [.int t.1, .int t.2.1, .int t.2.2]
end L2
set_option maxRecDepth 100000
set_option maxHeartbeats 4000000
namespace L2
open PySem PySem.Spec PyProof.Rows
noncomputable def brk(p:Int)(cs:List aq)(ws:List Int):Nat:=cs.countP fun prs=>decide (aW prs (ws.map some)%p≠0)
end L2
set_option maxRecDepth 100000
set_option maxHeartbeats 4000000
namespace L2
open PySem PySem.Spec PyProof.Rows
noncomputable abbrev B6:=Int×Int×Int
theorem QS(ts:List B6):SeqAt.shaped (.list (ts.map mH))=true:=by
 have h:PyData.depthAll (ts.map mH)<=1/\PyData.canLayAll0 (ts.map mH)=true:=by
  induction ts with
  |nil=>simp[PyData.depthAll,PyData.canLayAll0]
  |cons a r ih=>simp[mH,PyData.depthAll,PyData.depth,PyData.canLayAll0,PyData.canLay0,ih.2];have:=ih.1;walk_at "o"
 unfold SeqAt.shaped
 simp only[PyData.canLay0,PyData.depth,h.2,Bool.true_and]
 have:=h.1
 simp
 walk_at "o"
theorem Iv:SeqAt.shaped (.list [])=true:=by with_unfolding_all rfl
theorem IA(ts:List B6):(PyData.eqv (.list (ts.map mH)) (.list []) !=false)=decide (ts=[]):=by
 cases ts<;>simp[PyData.eqv,PyData.eqvAll]
end L2
set_option maxRecDepth 100000
set_option maxHeartbeats 4000000
set_option maxRecDepth 100000
set_option maxHeartbeats 4000000
namespace L2
open PySem PySem.Spec PyProof.Rows
structure jE(P:Program)(w:World)(K:PySem.W.Frag)(mg:Str->Option Value)(base:Heap)(C:Addr)(m:Str)(k:Nat)(ps:List Str)(sp:Sp):Prop where
 cl:cX K C
 ex:∃f fd,aS P w K mg base bw k f fd ps sp/\Binds K fd ps []/\Meth K C m f
structure sD(P:Program)(w:World)(K:PySem.W.Frag)(mg:Str->Option Value)(base:Heap)(C:Addr)(x:Str)(k:Nat)(ps:List Str)(sp:Sp):Prop where
 ex:∃f fd,aS P w K mg base bw k f fd ps sp/\Binds K fd ps []/\Mk K C f/\mg x=some (.ref C)
section
variable{X:Cx}{C:Addr}{k:Nat}{ps:List Str}{sp:Sp}{x m:Str}{p pos apos:Pos}{e o:Expr}{es:List Expr}{ta:TE}{t:TA}
theorem Wm{pl:Sem Bool}(c:jE X.prog X.w X.K X.mg X.base C m k ps sp)(he:PE X o ta)(hr:cG k X.A)(ha:PA X (e::es) t)
  (hst:starEach (e::es) X.env=(false,eval e X.env)::starEach es X.env:=by rfl) (hpl:(backTo pos (starEach es X.env)).any (·.1)=false:=by rfl)
  (ht : eval (.Call (.Attribute o m apos) (e :: es) [] pos) X.env = (do
   let ov<-eval o X.env
   standAt apos.atName
   let (f,first)<-holding [ov] (getMethod ov m pl)
   callWith pos f first (backTo pos (starEach (e::es) X.env)) (backToKw pos (keywordEach [] X.env))):=by rfl):
  PE X (.Call (.Attribute o m apos) (e::es) [] pos) (nJ C m sp [] E0 ta t):=by
 obtain⟨f,fd,F,b,mm⟩:=c.ex
 exact JX (pl:=pl) he c.cl mm F hr b .nil rT ha hst hpl ht
theorem rL{pl:Sem Bool}(c:jE X.prog X.w X.K X.mg X.base C m k ps sp)(he:PE X o ta)(hr:cG k X.A)
  (ht : eval (.Call (.Attribute o m apos) [] [] pos) X.env = (do
   let ov<-eval o X.env
   standAt apos.atName
   let (f,first)<-holding [ov] (getMethod ov m pl)
   callWith pos f first (backTo pos (starEach [] X.env)) (backToKw pos (keywordEach [] X.env))):=by rfl):
  PE X (.Call (.Attribute o m apos) [] [] pos) (nJ C m sp [] E0 ta bz):=by
 obtain⟨f,fd,F,b,mm⟩:=c.ex
 exact Vo (pl:=pl) he c.cl mm F hr b .nil rT ht
theorem Tp(c:sD X.prog X.w X.K X.mg X.base C x k ps sp)(hr:cG (k+1) X.A)(ha:PA X (e::es) t)(hg:Gl X x:=by rfl)
  (hdb:(x==("__debug__":Str))=false:=by decide) (he:starEach (e::es) X.env=(false,eval e X.env)::starEach es X.env:=by rfl) (hpl:(backTo pos (starEach es X.env)).any (·.1)=false:=by rfl):
  PE X (.Call (.Name x p) (e::es) [] pos) (wN C sp [] E0 t):=by
 obtain⟨f,fd,F,b,M,m⟩:=c.ex
 exact VH M F hr hg m b .nil rT ha hdb he hpl
end
section
variable{G:Gx}{ρ:Rh}{nb:Addr->Prop}{σ:St}{H H':Hp}{i:Nat}{c c':Cu}{E:DE}
theorem Wd.De(W:Wd G nb ρ σ H)(e:ρ[i]?=some (.cu c))(hH:∀a o,a∉c.F->H a=some o->H' a=some o)(hv:c'.v=c.v)(hF:∀a∈c'.F,a∈c.F\/H a=none\/(nb a/\NB G.B a/\∀(j:Nat) s,ρ[j]?=some s->a∉s.adr))(hl:∀a,a∈c.F\/a∈c'.F->H' a≠none)
    (h:c'.P (G.S (fun x=>nb x\/x∈c'.F) c'.f) H'):Wd G (fun x=>nb x\/x∈c'.F) (ρ.set i (.cu c')) σ H':=by
  obtain⟨x0,e1,h1,h2,h3⟩:=W.ok i _ e
  subst h1
  have hil:i<ρ.length:=(List.getElem?_eq_some_iff.mp e).1
  obtain⟨L,hL⟩:∃L,L=c'.F.filter fun a=>(H a).isNone:=⟨_,rfl⟩
  have ha:∀a∈L,H a=none:=fun a m=>by
    rw[hL,List.mem_filter] at m
    exact Option.isNone_iff_eq_none.mp m.2
  have Tq:∀a∈c'.F,nb a\/a∈L:=fun a m=>by
    rcases hF a m with z|z|z
    · exact .inl (h2 a z).1
    · exact .inr (by rw[hL];exact List.mem_filter.mpr ⟨m,Option.isNone_iff_eq_none.mpr z⟩)
    · exact .inl z.1
  have hA:∀f x,G.S (fun x=>nb x\/x∈c'.F) f x->(G.S nb f x\/x∈L):=fun f x z=>by
    rcases z with (z|z)|z|z|z
    · exact .inl (.inl z)
    · exact(Tq x z).elim (fun z=> .inl (.inl z)) .inr
    · exact .inl (.inr (.inl z))
    · exact .inl (.inr (.inr (.inl z)))
    · exact .inl (.inr (.inr (.inr z)))
  have bt:∀f,aH (G.S (fun x=>nb x\/x∈c'.F) f) H H':=fun f a o n q=>hH a o (fun z=>n (.inl (.inl (h2 a z).1))) q
  have fD:∀{S:Addr->Prop} {d:PyData} {v:V},ah S H d v->ah (fun a=>S a\/a∈L) H d v:=fun{S d v} h=>gM (P:=fun S=>ah S H d v) (fun z h=>ah.av z h) (fun hp h=>ah.fresh hp h) ha h
  have ya:∀{S:Addr->Prop} {d:List PyData} {v:List V},af S H d v->af (fun a=>S a\/a∈L) H d v:=fun{S d v} h=>gM (P:=fun S=>af S H d v) (fun z h=>af.av z h) (fun hp h=>af.fresh hp h) ha h
  have vL:∀{S:Addr->Prop} {d:List (PyData×PyData)} {v:List (Key×V)},au S H d v->au (fun a=>S a\/a∈L) H d v:=fun{S d v} h=>gM (P:=fun S=>au S H d v) (fun z h=>au.av z h) (fun hp h=>au.fresh hp h) ha h
  have fH:∀{S:Addr->Prop} {d:HD} {v:V},dW S H d v->dW (fun a=>S a\/a∈L) H d v:=fun{S d v} h=>gM (P:=fun S=>dW S H d v) (fun z h=>dW.av h z) (fun hp h=>dW.fresh h hp) ha h
  have gc:∀a∈c'.F,NB G.B a:=fun a m=>(hF a m).elim (fun z=>(h2 a z).2) fun z=>z.elim (fun z=>NB.new W.ak z) fun z=>z.2.1
  have IL:gU G.B H':=fun b l eb=>by
    obtain⟨ns,i0,c0,st,n,g1,g2,g3⟩:=W.ak b l eb
    have hb:b∉c.F:=fun z=>(h2 b z).2 b l eb rfl
    have u6:l∉c.F:=fun z=>by
      obtain⟨_,_,_,_,_,_,q2,_⟩:=W.gB b l eb
      rw[W.cL l (h2 l z).1 (h2 l z).2] at q2;cases q2
    exact⟨ns,i0,c0,st,n,hH _ _ hb g1,hH _ _ u6 g2,g3⟩
  have other:∀(j:Nat) s,i≠j->ρ[j]?=some s->∀a∈s.adr,a∉c.F:=fun j s hij hs a m z=>W.cS i j c s hij e hs a z m
  refine⟨IL,fun a n=>?_,fun a o n q=>?_,fun a n q=>?_,W.gA,by rw[List.length_set];exact W.len,W.gB,fun h m=>((fH (W.cH h m)).av (hA h.1)).keep (bt h.1),fun j s e'=>?_,?_,?_,?_⟩
  · rcases n with n|n
    · by_cases z:a∈c.F
      · exact hl a (.inl z)
      · cases q:H a with
        |none=>exact absurd q (W.live a n)
        |some o=>rw[hH a o z q];exact Option.some_ne_none _
    · exact hl a (.inr n)
  · refine hH a o (fun z=>?_) (W.old a o n q)
    rw[W.cL a (h2 a z).1 n] at q;cases q
  · rcases n with n|n
    · exact W.cL a n q
    · rcases hF a n with z|z|z
      · exact W.cL a (h2 a z).1 q
      · cases w:G.H0 a with
        |none=>rfl
        |some o=>rw[W.old a o q w] at z;cases z
      · exact W.cL a z.1 q
  · by_cases hij:i=j
    · subst hij
      rw[List.getElem?_set_self hil] at e'
      cases e'
      exact⟨some c.v,e1,by rw[hv],fun a m=>⟨.inr m,gc a m⟩,h⟩
    · rw[List.getElem?_set_ne hij] at e'
      obtain⟨x,e2,q⟩:=W.ok j s e'
      refine⟨x,e2,?_⟩
      have ap:=other j s hij e'
      cases s with
      |no=>trivial
      |d f d=>obtain⟨v,e,h⟩:=q;exact⟨v,e,((fD h).av (hA f)).keep (bt f)⟩
      |own a f es=>obtain⟨e,n,q,xs,hx,hd⟩:=q;exact⟨e, .inl n,q,xs,hH _ _ (ap a (List.mem_singleton.mpr rfl)) hx,((ya hd).av (hA f)).keep (bt f)⟩
      |ak=>exact q
      |raw v=>exact q
      |bA a f es=>obtain⟨e,n,q,xs,hx,hd⟩:=q;exact⟨e, .inl n,q,xs,hH _ _ (ap a (List.mem_singleton.mpr rfl)) hx,((vL hd).av (hA f)).keep (bt f)⟩
      | cu c2 =>
        obtain⟨e,n,q⟩:=q
        refine⟨e,fun a ha=>⟨.inl (n a ha).1,(n a ha).2⟩,c2.keep (.of fun x o hx e=>hH x o ?_ e) (c2.av (hA c2.f) (gM (P:=fun S=>c2.P S H) (fun z h=>c2.av z h) (fun hp h=>c2.fresh hp h) ha q))⟩
        rcases hx with hx|hx
        · exact fun z=>hx (.inl (.inl (h2 x z).1))
        · exact ap x hx
  all_goals
    intro j k
  · intro a f as c2 g cs hjk q1 q2
    have hj:i≠j:=fun z=>by subst z;rw[List.getElem?_set_self hil] at q1;cases q1
    have hk:i≠k:=fun z=>by subst z;rw[List.getElem?_set_self hil] at q2;cases q2
    rw[List.getElem?_set_ne hj] at q1
    rw[List.getElem?_set_ne hk] at q2
    exact W.apart j k a f as c2 g cs hjk q1 q2
  · intro a f as c2 g cs hjk q1 q2
    have hj:i≠j:=fun z=>by subst z;rw[List.getElem?_set_self hil] at q1;cases q1
    have hk:i≠k:=fun z=>by subst z;rw[List.getElem?_set_self hil] at q2;cases q2
    rw[List.getElem?_set_ne hj] at q1
    rw[List.getElem?_set_ne hk] at q2
    exact W.eT j k a f as c2 g cs hjk q1 q2
  · intro c2 s hjk q1 q2 a m z
    have zK:∀(j:Nat) s,i≠j->ρ[j]?=some s->∀a∈s.adr,a∉c'.F:=fun j s hij hs a m z=>by
      rcases hF a z with w|w|w
      · exact other j s hij hs a m w
      · obtain⟨x,_,q⟩:=W.ok j s hs
        exact W.live a (q.sR a m).1 w
      · exact w.2.2 j s hs m
    by_cases hj:i=j
    · subst hj
      rw[List.getElem?_set_self hil] at q1
      cases q1
      rw[List.getElem?_set_ne hjk] at q2
      exact zK k s hjk q2 a z m
    · rw[List.getElem?_set_ne hj] at q1
      by_cases hk:i=k
      · subst hk
        rw[List.getElem?_set_self hil] at q2
        cases q2
        exact zK j _ hj q1 a m z
      · rw[List.getElem?_set_ne hk] at q2
        exact W.cS j k c2 s hjk q1 q2 a m z
end
noncomputable def dN(G:Gx)(ρ:Rh)(te:TE)(Φ:Rh->Pd):Prop:=∀nb σ H (Q:VK),Wd G nb ρ σ H->(∀aI ρ' f v H' d,Φ ρ' f d->Wd G aI ρ' σ H'->ah (G.S aI f) H' d v->Q v H')->te σ H Q
noncomputable def q9(G:Gx)(ρ:Rh)(ta:TA)(Φ:Rh->List Fd->Prop):Prop:=∀nb σ H (Q:List V->Hp->Prop),Wd G nb ρ σ H->(∀aI ρ' es vs H',Φ ρ' es->Wd G aI ρ' σ H'->gW G aI H' es vs->Q vs H')->ta σ H Q
section
variable{G:Gx}{ρ:Rh}{Φ:Rh->Pd}{ta tb te:TE}{t:TA}{c u:TT}{i:Nat}{E:DE}{s s':TS}
theorem dN.of(h:Ev G ρ te (Φ ρ)):dN G ρ te Φ:=fun nb σ H Q W z=>h nb σ H Q W fun f v H' d q st hv=>z nb ρ f v H' d q (W.step st) hv
theorem q9.cons{Θ:Rh->List Fd->Prop}(h:dN G ρ te fun ρ' f d=>Av G ρ' t fun es=>Θ ρ' ((f,d)::es)):q9 G ρ (aV te t) Θ:=fun nb σ H Q W z=>
 h nb σ H _ W fun aI ρ' f v H1 d p1 W1 q1=>p1 aI σ H1 _ W1 fun es vs H2 p2 s2 q2=>z aI ρ' _ _ H2 p2 (W1.step s2) ⟨v,vs,rfl,q1.keep s2.cF,q2⟩
namespace Sv
theorem wc{g:TG}(h:dN G ρ te fun ρ' f d=>Gv G ρ' g f d E.nx):Sv G ρ (dZ te g) E:=fun nb σ H D W K=>h nb σ H _ W fun aI ρ' f v H1 d q W1 hv=>q aI σ H1 v _ W1 hv fun σ' ρ' p W'=>K.nx aI ρ' σ' H1 p W'
theorem retS(h:dN G ρ te fun _=>E.rt):Sv G ρ (lX te) E:=fun nb σ H D W K=>h nb σ H _ W fun aI ρ' f v H1 d q W1 hv=>K.rt aI ρ' σ f v H1 d q W1 (hv.av (cB (fun z=>z) fun _ z=>z.elim))
theorem uK(h:dN G ρ te fun ρ' f d=>∀nb v H,ah (G.S nb f) H d v->E.rw nb ρ' v H):Sv G ρ (lX te) E:=fun nb σ H D W K=>h nb σ H _ W fun aI ρ' f v H1 d q W1 hv=>K.rw aI ρ' σ v H1 (q aI v H1 hv) W1
end Sv
end
structure kP(c c':Cu)(H H':Hp):Prop where
 v:c'.v=c.v
 f:c'.f=false
 sub:∀a∈c.F,a∈c'.F
 new:∀a∈c'.F,a∈c.F\/H a=none
 kp:∀a o,a∉c.F->H a=some o->H' a=some o
 lv:∀a∈c'.F,H' a≠none
noncomputable abbrev CF:=Cu->List PyData->(Cu->Pd)->Prop
noncomputable def kI(F:CF):Prop:=∀c ds (Φ Ψ:Cu->Pd),F c ds Φ->(∀c f d,Φ c f d->Ψ c f d)->F c ds Ψ
noncomputable def fL(n:Nat)(F:CF):Sp:=fun vs H Q _=>vs.length=n/\∃(nb:Addr->Prop) (c:Cu) (ws:List V) (ds:List PyData),vs=c.v::ws/\ji nb H/\(∀a∈c.F,nb a)/\c.f=false/\c.P nb H/\af nb H ds ws/\
 F c ds fun c' f d=>∀v H',kP c c' H H'->c'.P (fun a=>nb a\/a∈c'.F) H'->ah (fun a=>nb a\/a∈c'.F\/(f=true/\H a≠none)) H' d v->Q v H'
section
variable{G:Gx}{ρ:Rh}{Φ:Rh->Pd}{ta tb te:TE}{t:TA}{i:Nat}{E:DE}{c:Cu}{C:Addr}{m:Str}{n:Nat}{F:CF}
theorem dN.Nk{nb:Addr->Prop}{σ:St}{H1:Hp}{Q:VK}{es:List Fd}{vs:List V}(hm:kI F)(e:ρ[i]?=some (.cu c))(W1:Wd G nb ρ σ H1)(q1:gW G nb H1 es vs)(hl:es.length+1=n)(hcf:c.f=false)(p:F c (es.map (·.2)) fun c' f d=>Φ (ρ.set i (.cu c')) f d)
  (z:∀aI ρ' f v H' d,Φ ρ' f d->Wd G aI ρ' σ H'->ah (G.S aI f) H' d v->Q v H'):fL n F (c.v::(vs++[])) H1 Q E0:=by
 rw[List.append_nil]
 obtain⟨x0,e1,h1,h2,h3⟩:=W1.ok i _ e
 refine⟨by rw[List.length_cons,q1.len,hl],G.S nb false,c,vs,es.map (·.2),rfl,W1.iR,fun a m=> .inl (h2 a m).1,hcf,by rw[hcf] at h3;exact h3,q1.all (f:=false) (fun z=>by cases z),hm _ _ _ _ p fun c' f d hp v H' to hP hd=>?_⟩
 refine z _ _ f v H' d hp (W1.De (c':=c') e to.kp to.v (fun a m=>(to.new a m).imp id .inl) (fun a m=>m.elim (fun m=>to.lv a (to.sub a m)) fun m=>to.lv a m) (c'.av (fun a y=>?_) hP)) (hd.av fun a y=>?_)
 ·rw[to.f] at y
  rcases y with (y|y)|y|y|y
  ·exact .inl (.inl y)
  ·exact .inr y
  ·exact .inl (.inr (.inl y))
  ·exact .inl (.inr (.inr (.inl y)))
  ·cases y.1
 ·rcases y with (y|y)|y|y|y
  ·exact .inl (.inl y)
  ·exact .inr (.inl y)
  ·exact .inl (.inr (.inl y))
  ·exact .inl (.inr (.inr (.inl y)))
  ·exact .inr (.inr ⟨y.1,W1.iR (f:=true) a (.inr (.inr (.inr ⟨rfl,y.2⟩)))⟩)
theorem dN.qC(hm:kI F)(e:ρ[i]?=some (.cu c))(hcf:c.f=false)(hi:∀S H,c.P S H->∃a dx fs,c.v= .ref a/\H a=some (.ins C dx fs)/\fs.lookup m=none)
  (h:Av G ρ t fun es=>es.length+1=n/\F c (es.map (·.2)) fun c' f d=>Φ (ρ.set i (.cu c')) f d):dN G ρ (nJ C m (fL n F) [] E0 (aZ i) t) Φ:=fun nb σ H Q W z=>by
 obtain⟨x0,e1,h1,h2,h3⟩:=W.ok i _ e
 subst h1
 obtain⟨a,dx,fs,g1,g2,g3⟩:=hi _ _ h3
 refine⟨c.v,e1,a,dx,fs,g1,g2,g3,h nb σ H _ W fun es vs H1 ⟨hl,p⟩ s1 q1=>?_⟩
 exact dN.Nk hm e (W.step s1) q1 hl hcf p z
end
noncomputable def jS(F:List Addr)(H:Hp)(nb:Addr->Prop):Gx:=⟨none,fun a=>if a∈F then none else H a,fun a=>nb a/\a∉F,[]⟩
structure zk(c c':Cu):Prop where
 v:c'.v=c.v
 f:c'.f=false
 sub:∀a∈c.F,a∈c'.F
noncomputable def objE(G:Gx)(c:Cu)(Φ:Cu->Pd):DE where
 nx:=fun ρ=>∃c',ρ[0]?=some (.cu c')/\zk c c'/\Φ c' true .none
 rt:=fun _ _=>False
 rw:=fun nb ρ v H=>∃c' f d,ρ[0]?=some (.cu c')/\zk c c'/\Φ c' f d/\ah (G.S nb f) H d v
section
variable{ρ:Rh}{t:TS}{N:List Str}{ws:List V}{ds:List PyData}{nb:Addr->Prop}{H:Hp}{Q:VK}{Φ:Cu->Pd}{c:Cu}
theorem Sv.rm(hl:ji nb H)(hF:∀a∈c.F,nb a)(hf:c.f=false)(hP:c.P nb H)(hd:af nb H ds ws)
    (aA:∀c' f d v H',Φ c' f d->kP c c' H H'->c'.P (fun a=>nb a\/a∈c'.F) H'->ah (fun a=>nb a\/a∈c'.F\/(f=true/\H a≠none)) H' d v->Q v H')
    (cU:ρ= .cu c::ds.map (Sl.d false)++List.replicate (N.length-(ds.length+1)) .no) (h:Sv (jS c.F H nb) ρ t (objE (jS c.F H nb) c Φ)):t {nx:=fun _ H'=>Q .aB H',rt:=Q} (start N (c.v::ws)) H:=by
  have hlen:=hd.length
  have gc:∀a,NB (jS c.F H nb).B a:=fun a b l e=>by cases e
  have key:∀{aI ρ' σ' H' c'} {f:Bool} {d:PyData} {v:V},Wd (jS c.F H nb) aI ρ' σ' H'->ρ'[0]?=some (.cu c')->zk c c'->Φ c' f d->ah ((jS c.F H nb).S aI f) H' d v->Q v H':=fun{aI ρ' σ' H' c' f d v} W e up p hv=>by
    obtain⟨x0,e1,h1,h2,h3⟩:=W.ok 0 _ e
    have EG:∀(f:Bool) a,nb a\/a∈c'.F\/(f=true/\H a≠none)->(jS c.F H nb).S aI f a:=fun f a z=>by
      by_cases m:a∈c'.F
      · exact .inl (h2 a m).1
      have m':a∉c.F:=fun z=>m (up.sub a z)
      rcases z with z|z|z
      · exact .inr (.inl ⟨z,m'⟩)
      · exact absurd z m
      · exact .inr (.inr (.inr ⟨z.1,by show(if a∈c.F then none else H a)≠none;rw[if_neg m'];exact z.2⟩))
    refine aA c' f d v H' p ⟨up.v,up.f,up.sub,fun a m=>?_,fun a o n q=>?_,fun a m=>W.live a (h2 a m).1⟩ (c'.av (fun a z=>by rw[up.f];exact EG false a (z.elim .inl fun z=> .inr (.inl z))) h3) (hv.av (EG f))
    · have:=W.cL a (h2 a m).1 (h2 a m).2
      by_cases z:a∈c.F
      · exact .inl z
      · exact .inr (by have q:(if a∈c.F then none else H a)=none:=this;rwa[if_neg z] at q)
    · exact W.old a o (gc a) (by show(if a∈c.F then none else H a)=_;rw[if_neg n];exact q)
  refine h (fun a=>a∈c.F) _ H _ ⟨fun _ _ z=>(by cases z),fun a z=>hl a (hF a z),fun a o _ e=>?_,fun a z _=>by show(if a∈c.F then none else H a)=none;rw[if_pos z],fun a z=>?_,?_,fun _ _ z=>(by cases z),fun _ m=>(by cases m),fun i s e=>?_,?_,?_,?_⟩ ⟨fun aI ρ' σ' H' ⟨c',e,up,p⟩ W=>key W e up p .aB,fun _ _ _ _ q _=>q.elim,fun _ _ _ _ q _=>q.elim,fun _ _ _ _ _ _ _ q _ _=>q.elim,fun aI ρ' σ' v H' ⟨c',f,d,e,up,p,hv⟩ W=>key W e up p hv⟩
  · have e:(if a∈c.F then none else H a)=some o:=e
    by_cases z:a∈c.F
    · rw[if_pos z] at e;cases e
    · rwa[if_neg z] at e
  · show(if a∈c.F then none else H a)≠none
    rw[if_neg z.2];exact hl a z.1
  · rw[cU];unfold start;simp[hlen]
  · rw[cU] at e
    unfold start
    have av:∀a,(jS c.F H nb).S (fun a=>a∈c.F) false a->nb a:=fun a z=>by
      rcases z with z|z|z|z
      · exact hF a z
      · exact z.1
      · exact absurd (gc a) z
      · cases z.1
    cases i with
    |zero=>simp at e;subst e;exact⟨some c.v,by simp,rfl,fun a m=>⟨m,gc a⟩,by rw[hf];exact c.av av hP⟩
    | succ i =>
      simp only[List.cons_append,List.getElem?_cons_succ,List.map_cons,List.length_cons] at e⊢
      by_cases hi:i<ds.length
      · rw[List.getElem?_append_left (by rw[List.length_map];exact hi)] at e
        obtain⟨v,d,hv,rfl,q⟩:=iV hd e
        refine⟨some v,?_,v,rfl,q.av av⟩
        rw[List.getElem?_append_left (by rw[List.length_map,hlen];exact hi),List.getElem?_map,hv];rfl
      · rw[List.getElem?_append_right (by rw[List.length_map];walk_at "o"),List.getElem?_replicate] at e
        split at e
        · rename_i h'
          cases e
          refine⟨none,?_,trivial⟩
          rw[List.length_map] at h'
          rw[List.getElem?_append_right (by rw[List.length_map];walk_at "o"),List.getElem?_replicate,if_pos (by rw[List.length_map,hlen];exact h')]
        · cases e
  all_goals
    have sl:∀{i:Nat} {s:Sl},ρ[i+1]?=some s->s.adr=[]:=fun{i s} e1=>by
      rw[cU] at e1
      simp only[List.cons_append,List.getElem?_cons_succ] at e1
      by_cases hi:i<ds.length
      · rw[List.getElem?_append_left (by rw[List.length_map];exact hi)] at e1
        obtain⟨_,_,_,z,_⟩:=iV hd e1
        subst z;rfl
      · rw[List.getElem?_append_right (by rw[List.length_map];walk_at "o"),List.getElem?_replicate] at e1
        split at e1
        · cases e1;rfl
        · cases e1
    have s0:∀{s:Sl},ρ[0]?=some s->s= .cu c:=fun{s} e1=>by rw[cU] at e1;simp at e1;exact e1.symm
  · intro i j a f as c2 g cs hij e1
    cases i with
    |zero=>cases s0 e1
    |succ i=>cases sl e1
  · intro i j a f as c2 g cs hij e1
    cases i with
    |zero=>cases s0 e1
    |succ i=>cases sl e1
  · intro i j c2 s hij e1 e2 a m
    cases i with
    | zero =>
      cases j with
      |zero=>exact absurd rfl hij
      |succ j=>rw[sl e2];exact fun z=>by cases z
    | succ i =>
      have:=sl e1
      rw[show Sl.adr (.cu c2)=c2.F from rfl] at this
      rw[this] at m;cases m
end
end L2
set_option maxRecDepth 100000
set_option maxHeartbeats 4000000
namespace L2
open PySem PySem.Spec PyProof.Rows
theorem Kp.sub{S:Addr->Prop}{F F':List Addr}{H H':Hp}(k:Kp S F H H')(h:∀a∈F',a∈F):Kp S F' H H':=⟨fun a m=>k.own a (h a m),k.lst,k.tup,k.bA⟩
noncomputable def iT(a:Addr)(ds:List PyData):Cu where
 v:= .ref a
 F:=[a]
 f:=false
 P:=fun S H=>∃xs,H a=some (.lst xs)/\af S H ds xs
 keep:=fun k ⟨xs,h,q⟩=>⟨xs,k.own _ (List.mem_singleton.mpr rfl) _ h,af.kp k q⟩
 av:=fun z ⟨xs,h,q⟩=>⟨xs,h,q.av z⟩
 fresh:=fun z ⟨xs,h,q⟩=>⟨xs,h,q.fresh z⟩
inductive Fl where
 |d (d:PyData)|cu (c:Cu)
noncomputable def Fl.adr:Fl->List Addr
 | .d _=>[]
 | .cu c=>c.F
noncomputable def iI(S:Addr->Prop)(H:Hp)(v:V):Fl->Prop
 | .d d=>ah S H d v
 | .cu c=>v=c.v/\c.P S H
noncomputable abbrev Fs:=List (Str×Fl)
noncomputable def bC(S:Addr->Prop)(H:Hp):Fs->List (Str×V)->Prop
 |[],vs=>vs=[]
 |f::fs,vs=>∃v ws,vs=(f.1,v)::ws/\iI S H v f.2/\bC S H fs ws
noncomputable def bO(x dx:Addr)(fs:Fs):List Addr:=x::dx::fs.flatMap fun f=>f.2.adr
theorem iI.map{S S':Addr->Prop}{H H':Hp}{v:V}{fl:Fl}(h:iI S H v fl)(hd:∀d v,ah S H d v->ah S' H' d v)(hc:∀c,fl= .cu c->c.P S H->c.P S' H'):iI S' H' v fl:=by
 cases fl with
 |d d=>exact hd _ _ h
 |cu c=>exact⟨h.1,hc c rfl h.2⟩
theorem bC.map{S S':Addr->Prop}{H H':Hp}:∀{fs:Fs} {vs:List (Str×V)},bC S H fs vs->(∀d v,ah S H d v->ah S' H' d v)->(∀f∈fs,∀c,f.2= .cu c->c.P S H->c.P S' H')->bC S' H' fs vs
 |[],_,h,_,_=>h
 |f::fs,_,⟨v,ws,e,h1,h2⟩,hd,hc=>⟨v,ws,e,h1.map hd (hc f (List.mem_cons_self ..)),bC.map h2 hd fun g m=>hc g (List.mem_cons_of_mem _ m)⟩
theorem BL{x dx:Addr}{fs:Fs}{f:Str×Fl}(h:f∈fs){a:Addr}(m:a∈f.2.adr):a∈bO x dx fs:=List.mem_cons_of_mem _ (List.mem_cons_of_mem _ (List.mem_flatMap.mpr ⟨f,h,m⟩))
noncomputable def bx(C x dx:Addr)(fs:Fs):Cu where
 v:= .ref x
 F:=bO x dx fs
 f:=false
 P:=fun S H=>(bO x dx fs).Nodup/\H dx=some (.own x)/\fs.length<=900/\∃vs,H x=some (.ins C dx vs)/\bC S H fs vs
 keep:=fun k ⟨n,h,l,vs,q,r⟩=>⟨n,k.own _ (by simp[bO]) _ h,l,vs,k.own _ (by simp[bO]) _ q,r.map (fun d v z=>ah.kp k z) fun f m c e z=>c.keep (k.sub fun a y=>BL m (by rw[e];exact y)) z⟩
 av:=fun z ⟨n,h,l,vs,q,r⟩=>⟨n,h,l,vs,q,r.map (fun d v y=>y.av z) fun f m c e y=>c.av z y⟩
 fresh:=fun z ⟨n,h,l,vs,q,r⟩=>⟨n,h,l,vs,q,r.map (fun d v y=>y.fresh z) fun f m c e y=>c.fresh z y⟩
theorem bC.get{S:Addr->Prop}{H:Hp}{f:Str}{fl:Fl}:∀{fs:Fs} {vs:List (Str×V)},bC S H fs vs->fs.lookup f=some fl->∃v,vs.lookup f=some v/\iI S H v fl
  |[],_,h,e=>by simp at e
  | (g, x) :: fs, _, ⟨v, ws, e, h1, h2⟩, q => by
    subst e
    rw[List.lookup_cons] at q⊢
    cases hb:(f==g) with
    |true=>rw[hb] at q;cases q;exact⟨v,rfl,h1⟩
    |false=>rw[hb] at q;exact bC.get h2 q
theorem bC.no{S:Addr->Prop}{H:Hp}{f:Str}:∀{fs:Fs} {vs:List (Str×V)},bC S H fs vs->fs.lookup f=none->vs.lookup f=none
  |[],_,h,e=>by unfold bC at h;subst h;rfl
  | (g, x) :: fs, _, ⟨v, ws, e, h1, h2⟩, q => by
    subst e
    rw[List.lookup_cons] at q⊢
    cases hb:(f==g) with
    |true=>rw[hb] at q;cases q
    |false=>rw[hb] at q;exact bC.no h2 q
noncomputable def cO(f:Str)(v:Fl):Fs->Fs
 |[]=>[(f,v)]
 |(g,x)::r=>if g=f then(g,v)::r else(g,x)::cO f v r
theorem bC.put{S:Addr->Prop}{H:Hp}{f:Str}{fl:Fl}{v:V}(hv:iI S H v fl):∀{fs:Fs} {vs:List (Str×V)},bC S H fs vs->bC S H (cO f fl fs) (dH f v vs)
  |[],_,h=>by unfold bC at h;subst h;exact⟨v,[],rfl,hv,rfl⟩
  | (g, x) :: fs, _, ⟨w, ws, e, h1, h2⟩ => by
    subst e
    unfold cO dH
    by_cases h:g=f
    · rw[if_pos h,if_pos h];exact⟨v,ws,rfl,hv,h2⟩
    · rw[if_neg h,if_neg h];exact⟨w,_,rfl,h1,bC.put hv h2⟩
theorem bC.len{S:Addr->Prop}{H:Hp}:∀{fs:Fs} {vs:List (Str×V)},bC S H fs vs->vs.length=fs.length
 |[],_,h=>by unfold bC at h;subst h;rfl
 |f::fs,_,⟨v,ws,e,h1,h2⟩=>by subst e;simp[bC.len h2]
theorem bx.is{C x dx:Addr}{fs:Fs}{m:Str}(hm:fs.lookup m=none):∀S H,(bx C x dx fs).P S H->∃a dx' vs,(bx C x dx fs).v= .ref a/\H a=some (.ins C dx' vs)/\vs.lookup m=none:=fun S H ⟨n,h,l,vs,q,r⟩=>⟨x,dx,vs,rfl,q,r.no hm⟩
section
variable{G:Gx}{ρ:Rh}{Φ:Pd}{ta tb te:TE}{t:TA}{i:Nat}{E:DE}{C x dx l:Addr}{fs:Fs}{K:PySem.W.Frag}{f m:Str}{d:PyData}{ds:List PyData}
theorem Wd.jZ{nb:Addr->Prop}{σ:St}{H:Hp}(W:Wd G nb ρ σ H)(e:ρ[i]?=some (.cu (bx C x dx fs))):∃vs,σ[i]?=some (some (.ref x))/\(∀a∈bO x dx fs,nb a/\NB G.B a)/\(bO x dx fs).Nodup/\H dx=some (.own x)/\fs.length<=900/\H x=some (.ins C dx vs)/\bC (G.S nb false) H fs vs:=by
 obtain⟨x0,e1,h1,h2,n,h,l,vs,q,r⟩:=W.ok i _ e
 subst h1
 exact⟨vs,e1,h2,n,h,l,q,r⟩
theorem Ev.fld(e:ρ[i]?=some (.cu (bx C x dx fs)))(cl:cX K C)(na:ez K C f)(hl:fs.lookup f=some (.d d))(h:Φ false d):Ev G ρ (jn K (aZ i) f) Φ:=fun nb σ H Q W z=>by
 obtain⟨vs,e1,h2,n,h3,l,q,r⟩:=W.jZ e
 obtain⟨v,g1,g2⟩:=r.get hl
 exact⟨.ref x,e1,x,C,dx,vs,v,rfl,q,cl,na,g1,z false v H d h (.refl W.ak) g2⟩
theorem lookup_mem{fl:Fl}:∀{fs:Fs},fs.lookup f=some fl->(f,fl)∈fs
  |[],h=>by simp at h
  | (g, y) :: r, h => by
    rw[List.lookup_cons] at h
    cases hb:(f==g) with
    |true=>rw[hb] at h;cases h;rw[beq_iff_eq.mp hb];exact List.mem_cons_self ..
    |false=>rw[hb] at h;exact List.mem_cons_of_mem _ (lookup_mem h)
theorem C9{fl:Fl}(hl:fs.lookup f=some fl){a:Addr}(m:a∈fl.adr):a∈bO x dx fs:=BL (lookup_mem hl) m
theorem xZ{nb:Addr->Prop}{σ:St}{H:Hp}{Q:VK}{c:Cu}(W:Wd G nb ρ σ H)(e:ρ[i]?=some (.cu (bx C x dx fs)))(cl:cX K C)(na:ez K C f)(hl:fs.lookup f=some (.cu c))
  (z:(∀a∈c.F,nb a/\NB G.B a)->c.P (G.S nb false) H->Q c.v H):jn K (aZ i) f σ H Q:=by
 obtain⟨vs,e1,h2,n,h3,len,q,r⟩:=W.jZ e
 obtain⟨v,g1,g2,g3⟩:=r.get hl
 exact⟨.ref x,e1,x,C,dx,vs,v,rfl,q,cl,na,g1,by rw[g2];exact z (fun a m=>h2 a (C9 hl m)) g3⟩
theorem xM{fl lV:Fl}(h':lV.adr=fl.adr):∀{fs:Fs},fs.lookup f=some fl->((cO f lV fs).flatMap fun g=>g.2.adr)=fs.flatMap fun g=>g.2.adr
  |[],h=>by simp at h
  | (g, y) :: r, h => by
    unfold cO
    rw[List.lookup_cons] at h
    cases hb:(f==g) with
    | true =>
      rw[hb] at h;cases h
      rw[if_pos (beq_iff_eq.mp hb).symm,List.flatMap_cons,List.flatMap_cons,h']
    | false =>
      rw[hb] at h
      rw[if_neg (fun z=>by rw[z,beq_self_eq_true] at hb;cases hb),List.flatMap_cons,List.flatMap_cons,xM h' h]
theorem zw{fl lV:Fl}:∀{fs:Fs},fs.lookup f=some fl->(cO f lV fs).length=fs.length
  |[],h=>by simp at h
  | (g, y) :: r, h => by
    unfold cO
    rw[List.lookup_cons] at h
    cases hb:(f==g) with
    |true=>rw[if_pos (beq_iff_eq.mp hb).symm];rfl
    | false =>
      rw[hb] at h
      rw[if_neg (fun z=>by rw[z,beq_self_eq_true] at hb;cases hb),List.length_cons,List.length_cons,zw h]
theorem iI.wr{S:Addr->Prop}{H:Hp}{v:V}{fl:Fl}{p:Addr}{o:HO}(hS:S p)(hp:p∉fl.adr)(h:iI S H v fl):iI S (upd H p o) v fl:=
 h.map (fun d v z=>z.keep (aH.set hS)) fun c e z=>c.keep (.of fun a o' m q=>by
  rw[bf]
  ·exact q
  ·rintro rfl
   rcases m with m|m
   ·exact m hS
   ·rw[e] at hp;exact hp m) z
theorem bC.ye{S:Addr->Prop}{H:Hp}{p:Addr}{o:HO}(hS:S p):∀{fs:Fs} {vs:List (Str×V)},(p∉fs.flatMap fun g=>g.2.adr)->bC S H fs vs->bC S (upd H p o) fs vs
  |[],_,_,h=>h
  | g :: fs, _, hp, ⟨v, ws, e, h1, h2⟩ => by
    rw[List.flatMap_cons,List.mem_append] at hp
    exact⟨v,ws,e,h1.wr hS fun z=>hp (.inl z),bC.ye hS (fun z=>hp (.inr z)) h2⟩
theorem bC.wr{S:Addr->Prop}{H:Hp}{p:Addr}{o:HO}{c c':Cu}(hS:S p)(hp:p∈c.F)(hv:c'.v=c.v)(hc:c'.P S (upd H p o)):∀{fs:Fs} {vs:List (Str×V)},(fs.flatMap fun g=>g.2.adr).Nodup->fs.lookup f=some (.cu c)->bC S H fs vs->bC S (upd H p o) (cO f (.cu c') fs) vs
  |[],_,_,h,_=>by simp at h
  | (g, y) :: r, _, hn, h, ⟨v, ws, e, h1, h2⟩ => by
    unfold cO
    rw[List.flatMap_cons,List.nodup_append] at hn
    rw[List.lookup_cons] at h
    cases hb:(f==g) with
    | true =>
      rw[hb] at h;cases h
      rw[if_pos (beq_iff_eq.mp hb).symm]
      exact⟨v,ws,e,⟨by rw[hv];exact h1.1,hc⟩,bC.ye hS (fun z=>hn.2.2 p hp p z rfl) h2⟩
    | false =>
      rw[hb] at h
      rw[if_neg (fun z=>by rw[z,beq_self_eq_true] at hb;cases hb)]
      exact⟨v,ws,e,h1.wr hS fun z=>hn.2.2 p z p (List.mem_flatMap.mpr ⟨_,lookup_mem h,hp⟩) rfl,bC.wr hS hp hv hc hn.2.1 h h2⟩
theorem Wd.Su{nb:Addr->Prop}{σ:St}{H:Hp}{c c':Cu}{p:Addr}{o:HO}(W:Wd G nb ρ σ H)(e:ρ[i]?=some (.cu (bx C x dx fs)))(hl:fs.lookup f=some (.cu c))(hp:p∈c.F)(hv:c'.v=c.v)(hF:c'.F=c.F)(h:c'.P (G.S nb false) (upd H p o)):
  Wd G nb (ρ.set i (.cu (bx C x dx (cO f (.cu c') fs)))) σ (upd H p o):=by
 obtain⟨vs,e1,h2,n,h3,len,q,r⟩:=W.jZ e
 have dQ:p∈bO x dx fs:=C9 hl hp
 have hS:G.S nb false p:= .inl (h2 p dQ).1
 have hn:=n
 unfold bO at hn
 obtain⟨n1,n2⟩:=List.nodup_cons.mp hn
 obtain⟨n3,n4⟩:=List.nodup_cons.mp n2
 have hin:p∈fs.flatMap fun g=>g.2.adr:=List.mem_flatMap.mpr ⟨_,lookup_mem hl,hp⟩
 have hpx:x≠p:=fun z=>n1 (by rw[z];exact List.mem_cons_of_mem _ hin)
 have QL:dx≠p:=fun z=>n3 (by rw[z];exact hin)
 have eF:bO x dx (cO f (.cu c') fs)=bO x dx fs:=by unfold bO;rw[xM (fl:= .cu c) (lV:= .cu c') hF hl]
 refine W.CA (c':=bx C x dx (cO f (.cu c') fs)) e dQ rfl (fun a m=>by rw[show(bx C x dx (cO f (.cu c') fs)).F=bO x dx fs from eF] at m;exact m) ?_
 exact⟨by rw[eF];exact n,by rw[bf QL];exact h3,by rw[zw hl];exact len,vs,by rw[bf hpx];exact q,bC.wr hS hp hv h n4 hl r⟩
theorem bC.AV{S:Addr->Prop}{H:Hp}{fl:Fl}{v:V}{p:Addr}{o:HO}(hS:S p)(hv:iI S (upd H p o) v fl){fs:Fs}{vs:List (Str×V)}(hp:p∉fs.flatMap fun g=>g.2.adr)(h:bC S H fs vs):bC S (upd H p o) (cO f fl fs) (dH f v vs):=bC.put hv (bC.ye hS hp h)
theorem qL{fl:Fl}:∀{fs:Fs},fs.lookup f=none->cO f fl fs=fs++[(f,fl)]
  |[],_=>rfl
  | (g, y) :: r, h => by
    unfold cO
    rw[List.lookup_cons] at h
    cases hb:(f==g) with
    |true=>rw[hb] at h;cases h
    | false =>
      rw[hb] at h
      rw[if_neg (fun z=>by rw[z,beq_self_eq_true] at hb;cases hb),qL h];rfl
theorem Sv.U0(e:ρ[i]?=some (.cu (bx C x dx fs)))(cl:cX K C)(na:ez K C f)(hl:fs.lookup f=none\/∃d0,fs.lookup f=some (.d d0))(hlen:fs.length<900)(h:Ev G ρ te fun _ d=>E.nx (ρ.set i (.cu (bx C x dx (cO f (.d d) fs))))):Sv G ρ (yS K (aZ i) te f) E:=fun nb σ H D W KK=>
 h nb σ H _ W fun fg v H1 d q s1 hv=>by
  have W1:=W.step s1
  obtain⟨vs,e1,h2,n,h3,len,qx,r⟩:=W1.jZ e
  have jC:G.S nb false x:= .inl (h2 x (by simp[bO])).1
  have hn:=n
  unfold bO at hn
  obtain⟨n1,n2⟩:=List.nodup_cons.mp hn
  have hdx:dx≠x:=fun z=>n1 (by rw[z];exact List.mem_cons_self ..)
  have hx:x∉fs.flatMap fun g=>g.2.adr:=fun z=>n1 (List.mem_cons_of_mem _ z)
  have eF:bO x dx (cO f (.d d) fs)=bO x dx fs:=by
   unfold bO
   rcases hl with hl|⟨d0,hl⟩
   ·rw[qL hl,List.flatMap_append]
    show _::_::(_++([]++[]))=_
    rw[List.append_nil,List.append_nil]
   ·rw[xM (fl:= .d d0) (lV:= .d d) rfl hl]
  have eL:(cO f (.d d) fs).length<=900:=by
   rcases hl with hl|⟨d0,hl⟩
   ·rw[qL hl,List.length_append,List.length_singleton];walk_at "o"
   ·rw[zw hl];exact len
  refine⟨.ref x,e1,x,C,dx,vs,rfl,qx,cl,na,by rw[r.len];walk_at "o",KK.nx nb _ _ _ q ?_⟩
  refine W1.CA (c':=bx C x dx (cO f (.d d) fs)) e (by show x∈bO x dx fs;simp[bO]) rfl (fun a m=>by rw[show(bx C x dx (cO f (.d d) fs)).F=bO x dx fs from eF] at m;exact m) ?_
  refine⟨by rw[eF];exact n,by rw[bf hdx];exact h3,eL,_,aY,bC.AV jC ?_ hx r⟩
  exact(hv.av (cB (fun z=>by cases z) fun _ z=>z)).keep (aH.set jC)
theorem Wd.J7{nb:Addr->Prop}{σ:St}{H H1:Hp}{c:Cu}{vs:List (Str×V)}{l:Addr}(W:Wd G nb ρ σ H)(s1:Step G.B H H1)(e:ρ[i]?=some (.cu (bx C x dx fs)))(hl:fs.lookup f=none)(hlen:fs.length<900)(iz:c.F=[l])(Wn:c.v= .ref l)(oA:H l=none)(hl1:H1 l≠none)
  (hP:c.P (fun a=>G.S nb false a\/a=l) H1) (qx:H1 x=some (.ins C dx vs)):Wd G (fun a=>(nb a\/a∈[l])\/a∈bO x dx (fs++[(f, .cu c)])) (ρ.set i (.cu (bx C x dx (fs++[(f, .cu c)])))) σ (upd H1 x (.ins C dx (dH f c.v vs))):=by
 have Ku:∀a∈[l],H a=none:=fun a m=>by rw[List.mem_singleton.mp m];exact oA
 obtain⟨WA,e0,Vh,_⟩:=W.jZ e
 have oF:l∉bO x dx fs:=fun z=>W.live l (Vh l z).1 oA
 obtain⟨W1,Ls,JD⟩:=W.El s1 Ku (fun a m=>by rw[List.mem_singleton.mp m];exact hl1)
 obtain⟨vs',e1,h2,n,h3,len,Ao,r⟩:=W1.jZ e
 rw[qx] at Ao
 cases Ao
 have hn:=n
 unfold bO at hn
 obtain⟨n1,n2⟩:=List.nodup_cons.mp hn
 have hdx:dx≠x:=fun z=>n1 (by rw[z];exact List.mem_cons_self ..)
 have hx:x∉fs.flatMap fun g=>g.2.adr:=fun z=>n1 (List.mem_cons_of_mem _ z)
 have hlx:l≠x:=fun z=>oF (by rw[z];simp[bO])
 have Bd:x∈bO x dx fs:=by simp[bO]
 have eF:bO x dx (fs++[(f, .cu c)])=bO x dx fs++[l]:=by
  unfold bO
  rw[List.flatMap_append]
  show _::_::(_++(c.F++[]))=_
  rw[iz]
  rfl
 have hS:∀{a},G.S (fun y=>(nb y\/y∈[l])\/y∈bO x dx (fs++[(f, .cu c)])) false a->G.S (fun y=>nb y\/y∈[l]) false a:=fun{a} z=>by
  rcases z with (z|z)|z|z|z
  ·exact .inl z
  ·rw[eF,List.mem_append] at z
   rcases z with z|z
   ·exact .inl (h2 a z).1
   ·exact .inl (.inr z)
  ·exact .inr (.inl z)
  ·exact .inr (.inr (.inl z))
  ·exact .inr (.inr (.inr z))
 refine W1.De (c:=bx C x dx fs) (c':=bx C x dx (fs++[(f, .cu c)])) e (fun a o na q=>?_) rfl (fun a m=>?_) (fun a m=>?_) ?_
 ·rw[bf (fun z=>na (by rw[z];exact Bd))];exact q
 ·rw[show(bx C x dx (fs++[(f, .cu c)])).F=bO x dx fs++[l] from eF,List.mem_append] at m
  rcases m with m|m
  ·exact .inl m
  ·rw[List.mem_singleton.mp m]
   refine .inr (.inr ⟨.inr (List.mem_singleton.mpr rfl),Ls l (List.mem_singleton.mpr rfl),fun j s hs z=>?_⟩)
   obtain⟨y,_,q⟩:=W.ok j s hs
   exact W.live l (q.sR l z).1 oA
 ·by_cases z:a=x
  ·rw[z,aY];exact Option.some_ne_none _
  ·rw[bf z]
   rcases m with m|m
   ·exact W1.live a (h2 a m).1
   ·rw[show(bx C x dx (fs++[(f, .cu c)])).F=bO x dx fs++[l] from eF,List.mem_append] at m
    rcases m with m|m
    ·exact W1.live a (h2 a m).1
    ·rw[List.mem_singleton.mp m];exact hl1
 ·refine⟨?_,by rw[bf hdx];exact h3,by rw[List.length_append,List.length_singleton];walk_at "o",_,aY,?_⟩
  ·rw[eF,List.nodup_append]
   exact⟨n,by simp,fun a m b m' z=>oF (by rw[List.mem_singleton.mp m'] at z;rw[<-z];exact m)⟩
  ·have jC:G.S (fun y=>nb y\/y∈[l]) false x:= .inl (h2 x Bd).1
   have:=bC.AV (f:=f) (fl:= .cu c) (v:=c.v) (o:= .ins C dx (dH f c.v vs)) jC ⟨rfl,c.keep (S:=G.S (fun y=>nb y\/y∈[l]) false) (.of fun a o m q=>?_) (c.av (fun a z=>?_) hP)⟩ hx r
   ·rw[qL hl] at this
    exact this.map (fun d v z=>z.av fun a=>hS) fun g m c' e z=>c'.av (fun a=>hS) z
   ·rw[bf]
    ·exact q
    ·rintro rfl
     rcases m with m|m
     ·exact m jC
     ·rw[iz] at m;exact hlx (List.mem_singleton.mp m).symm
   ·rcases JD false a z with z|z
    ·exact .inl z
    ·exact .inr (List.mem_singleton.mp z)
theorem Sv.FZ(e:ρ[i]?=some (.cu (bx C x dx fs)))(cl:cX K C)(na:ez K C f)(hl:fs.lookup f=none)(hlen:fs.length<900)(h:ao G ρ te fun _ ds=>∀l,E.nx (ρ.set i (.cu (bx C x dx (fs++[(f, .cu (iT l ds))]))))):Sv G ρ (yS K (aZ i) te f) E:=fun nb σ H D W KK=>
 h nb σ H _ W fun fg l xs H1 ds q s1 oA el hd=>by
  obtain⟨vs,e1,h2,n,h3,len,qx,r⟩:=(W.step s1).jZ e
  refine⟨.ref x,e1,x,C,dx,vs,rfl,qx,cl,na,by rw[r.len];walk_at "o",KK.nx _ _ _ _ (q l) (W.J7 (c:=iT l ds) s1 e hl hlen rfl rfl oA (by rw[el];exact Option.some_ne_none _) ⟨xs,el,hd.av fun a z=>?_⟩ qx)⟩
  rcases z with z|z
  ·exact .inl (cB (fun w=>by cases w) (fun _ w=>w) a z)
  ·exact .inr z
theorem Sv.Ue{l:Addr}(e:ρ[i]?=some (.cu (bx C x dx fs)))(cl:cX K C)(na:ez K C f)(hl:fs.lookup f=some (.cu (iT l ds)))(h:Ev G ρ te fun _ d=>Ev G ρ tb fun _ y=>∃k j,y= .int k/\eX ds.length k=some j/\E.nx (ρ.set i (.cu (bx C x dx (cO f (.cu (iT l (ds.set j d))) fs))))):Sv G ρ (dZ te (jN (jn K (aZ i) f) tb mK)) E:=fun nb σ H D W KK=>
 h nb σ H _ W fun g v H1 d q s1 hv=>xZ (W.step s1) e cl na hl fun hF ⟨xs,hx,hd⟩=>q nb σ H1 _ (W.step s1) fun g' u H2 y ⟨k,j,ey,hj,p⟩ s2 hu=>by
  subst ey
  have W2:=(W.step s1).step s2
  have oF:=hF l (List.mem_singleton.mpr rfl)
  have hS:G.S nb false l:= .inl oF.1
  refine⟨l,xs,k,j,rfl,hu.bB,s2.1 _ _ oF.2 hx,by rw[hd.length];exact hj,KK.nx nb _ _ _ p (W2.Su (c:=iT l ds) (c':=iT l (ds.set j d)) e hl (List.mem_singleton.mpr rfl) rfl rfl ⟨_,aY,?_⟩)⟩
  exact(af.set' ((hv.av (cB (fun z=>by cases z) fun _ z=>z)).keep s2.cF) j (hd.keep s2.cF)).keep (aH.set hS)
theorem ao.GI{l:Addr}{Θ:Bool->List PyData->Prop}(e:ρ[i]?=some (.cu (bx C x dx fs)))(cl:cX K C)(na:ez K C f)(hl:fs.lookup f=some (.cu (iT l ds)))(h:Θ (dw ds) ds):ao G ρ (dh (g9 K) (aV (jn K (aZ i) f) bz)) Θ:=fun nb σ H Q W z=>by
 show jn K (aZ i) f σ H _
 exact xZ W e cl na hl fun hF ⟨xs,hx,hd⟩=>⟨l,xs,rfl, .inl (.of hx),fun p hp=>ao.fin (f:=false) W (.refl W.ak) hp hd (by rw[Bool.false_or];exact h) z⟩
noncomputable def gR(G:Gx)(ρ:Rh)(ta:TA)(Φ:List PyData->Prop):Prop:=∀nb σ H (Q:List V->Hp->Prop),Wd G nb ρ σ H->(∀ds vs H',Φ ds->Step G.B H H'->af (fun a=>¬NB G.B a) H' ds vs->Q vs H')->ta σ H Q
theorem gR.nil{Θ:List PyData->Prop}(h:Θ []):gR G ρ bz Θ:=fun nb σ H Q W z=>z [] [] H h (.refl W.ak) .nil
theorem gR.cons{Θ:List PyData->Prop}(h:Ev G ρ te fun _ d=>gR G ρ t fun ds=>Θ (d::ds)):gR G ρ (aV te t) Θ:=fun nb σ H Q W z=>
 h nb σ H _ W fun f v H1 d p1 s1 q1=>p1 nb σ H1 _ (W.step s1) fun ds vs H2 p2 s2 q2=>z _ _ H2 p2 (s1.trans s2) (.cons ((q1.av fun a y=> .inr (.inr (.inl y))).keep (s2.but fun _ y=>y)) q2)
theorem gR.fld{Θ:List PyData->Prop}{l:Addr}(e:ρ[i]?=some (.cu (bx C x dx fs)))(cl:cX K C)(na:ez K C f)(hl:fs.lookup f=some (.cu (iT l ds)))(h:gR G ρ t fun es=>Θ (.list ds::es)):gR G ρ (aV (jn K (aZ i) f) t) Θ:=fun nb σ H Q W z=>by
 show jn K (aZ i) f σ H _
 exact xZ W e cl na hl fun hF ⟨xs,hx,hd⟩=>h nb σ H _ W fun es vs H2 p2 s2 q2=>z _ _ H2 p2 s2 (.cons (.lst (fun y=>y (hF l (List.mem_singleton.mpr rfl)).2) (s2.1 _ _ (hF l (List.mem_singleton.mpr rfl)).2 hx) ((hd.av fun a y=> .inr (.inr (.inl y))).keep (s2.but fun _ y=>y))) q2)
theorem Ev.Jl{n:Nat}{F:DF}(hm:cN F)(h:gR G ρ t fun ds=>ds.length=n/\F ds fun f d=>(f=true\/iB d=true)/\Φ true d):Ev G ρ (d8 (dD n F) [] E0 t) Φ:=fun nb σ H Q W z=>
 h nb σ H _ W fun ds vs H1 ⟨hl,p⟩ s1 q1=>by
  have W1:=W.step s1
  rw[List.append_nil]
  refine⟨by rw[q1.length,hl],fun a=>¬NB G.B a,ds,fun a y=>NB.jt W1.ak y,q1,hm _ _ _ p fun f d ⟨hf,hp⟩ v H' sm hd=>z true v H' d hp (s1.trans (.same W1.ak sm)) ?_⟩
  rcases hf with hf|hf
  ·exact hd.av fun a y=> .inr ⟨hf,W1.iR (f:=true) a y⟩
  ·exact hd.iH hf
theorem Sv.make{n:Nat}{F:CF}(hm:kI F)(h:Av G ρ t fun es=>es.length+1=n/\∀x dx,F (bx C x dx []) (es.map (·.2)) fun c' _ d=>d= .none/\E.nx (ρ.set i (.cu c'))):Sv G ρ (dZ (wN C (fL n F) [] E0 t) (fc i)) E:=fun nb σ H D W KK=>
 h nb σ H _ W fun es vs H1 ⟨hl,p⟩ s1 q1 x dx hx hdx hne=>by
  have W1:=W.step s1
  have hsm:bI H1 (upd (upd H1 dx (.own x)) x (.ins C dx [])):=fun a o e=>by
   rw[bf (fj e hx),bf (fj e hdx)];exact e
  have UL:∀a,G.S nb false a->H1 a≠none:=fun a y=>W1.iR a y
  have fD:af (fun a=>G.S nb false a\/a∈[x,dx]) (upd (upd H1 dx (.own x)) x (.ins C dx [])) (es.map (·.2)) vs:=by
   have hq:=q1.all (f:=false) fun z=>by cases z
   generalize es.map (·.2)=dl at hq
   refine af.keep (aH.of hsm) ?_
   exact gM (P:=fun S=>af S H1 dl vs) (fun z h=>af.av z h) (fun hp h=>af.fresh hp h) (L:=[x,dx]) (fun a m=>by
    rcases List.mem_cons.mp m with m|m
    ·rw[m];exact hx
    ·rw[List.mem_singleton.mp m];exact hdx) hq
  rw[List.append_nil]
  refine⟨by rw[List.length_cons,q1.len,hl],fun a=>G.S nb false a\/a∈[x,dx],bx C x dx [],vs,es.map (·.2),rfl,fun a y=>?_,fun a m=> .inr m,rfl,?_,fD,hm _ _ _ _ (p x dx) fun c' f d ⟨hd0,hp⟩ v H' to hP hd=>?_⟩
  ·rcases y with y|y
   ·cases e:H1 a with
    |none=>exact absurd e (UL a y)
    |some o=>rw[hsm a o e];exact Option.some_ne_none _
   ·rcases List.mem_cons.mp y with m|m
    ·rw[m,aY];exact Option.some_ne_none _
    ·rw[List.mem_singleton.mp m,bf hne,aY];exact Option.some_ne_none _
  ·refine⟨by simp[bO,Ne.symm hne],by rw[bf hne,aY],by decide,[],aY,rfl⟩
  ·subst hd0
   refine⟨hd.rC,?_⟩
   have hfr:∀a∈c'.F,H1 a=none:=fun a m=>by
    rcases to.new a m with y|y
    ·rcases List.mem_cons.mp y with m|m
     ·rw[m];exact hx
     ·rw[List.mem_singleton.mp m];exact hdx
    ·cases e:H1 a with
     |none=>rfl
     |some o=>rw[hsm a o e] at y;cases y
   have st:Step G.B H1 H':=by
    have sm:bI H1 H':=fun a o e=>to.kp a o (fun m=>by
     rcases List.mem_cons.mp m with m|m
     ·rw[m,hx] at e;cases e
     ·rw[List.mem_singleton.mp m,hdx] at e;cases e) (hsm a o e)
    exact .same W1.ak sm
   have:=W1.T8 (i:=i) (c:=c') st hfr to.lv (c'.av (fun a y=>?_) hP)
   ·rw[to.v] at this
    exact KK.nx _ _ _ _ hp this
   ·rw[to.f] at y
    rcases y with y|y
    ·exact .inl (.inl y)
    ·exact .inr y
theorem dN.tup{Φ:Rh->Pd}(h:q9 G ρ t fun ρ' es=>es.length<=10000/\Φ ρ' (gK es) (.tuple (es.map (·.2)))):dN G ρ (pT t) Φ:=fun nb σ H Q W z=>
 h nb σ H _ W fun aI ρ' es vs H1 ⟨hl,p⟩ W1 q1=>⟨Nat.le_trans (by rw[q1.len];exact hl) (by decide),fun a ha=>z aI ρ' _ _ _ _ p (W1.step (.same W1.ak (cJ ha)))
  (.tup (W1.fresh ha) aY ((q1.all fun z=>z).keep (aH.of (cJ ha))))⟩
end
end L2
set_option maxRecDepth 100000
set_option maxHeartbeats 4000000
namespace L2
open PySem PySem.Spec PyProof.Rows
noncomputable def bX(p:Int)(cs:List aq)(wd:Wo):Nat->List bK
  |0=>[]
  | i + 1 => match cA p (cs.getD i []) 0 wd with
    |some (a,x)=>if a∈(bX p cs wd i).map (·.1) then bX p cs wd i else bX p cs wd i++[(a,(i:Int),x)]
    |none=>bX p cs wd i
theorem jV{p:Int}{cs:List aq}{wd:Wo}:∀i,((bX p cs wd i).map (·.1)).Nodup
  |0=>by simp[bX]
  | i + 1 => by
    unfold bX
    split
    · split
      · exact jV i
      · rename_i a x e c
        rw[List.map_append,List.nodup_append]
        refine⟨jV i,by simp,fun y hy z hz e=>c ?_⟩
        simp at hz
        rw[<-hz,<-e];exact hy
    · exact jV i
theorem oW{p:Int}{cs:List aq}{wd:Wo}{m:bK}:∀{i},m∈bX p cs wd i->0<=m.2.1/\m.2.1<i/\cA p (cs.getD m.2.1.toNat []) 0 wd=some (m.1,m.2.2)/\∀c:Nat,(c:Int)<m.2.1->∀x,cA p (cs.getD c []) 0 wd≠some (m.1,x)
  |0,h=>by simp[bX] at h
  | i + 1, h => by
    have key:∀{c:Nat},(∃x,cA p (cs.getD c []) 0 wd=some (m.1,x))->c<i->m.1∈(bX p cs wd i).map (·.1):=fun{c} hx hc=>by
      clear h
      induction i with
      |zero=>walk_at "o"
      | succ i ih =>
        unfold bX
        by_cases e:c=i
        · subst e
          obtain⟨x,hx⟩:=hx
          rw[hx]
          dsimp only
          split
          · rename_i h;exact h
          · simp
        · have:=ih (by walk_at "o")
          split
          · split
            · exact this
            · rw[List.map_append];exact List.mem_append_left _ this
          · exact this
    unfold bX at h
    split at h
    · rename_i a x e
      split at h
      · obtain⟨h1,h2,h3⟩:=oW h;exact⟨h1,by walk_at "o",h3⟩
      · rename_i c
        rcases List.mem_append.mp h with h|h
        · obtain⟨h1,h2,h3⟩:=oW h;exact⟨h1,by walk_at "o",h3⟩
        · simp at h
          subst h
          refine⟨by simp,by simp;walk_at "o",by simpa using e,fun c' hc' x' hx'=>c ?_⟩
          exact key ⟨x',hx'⟩ (by simpa using hc')
    · obtain⟨h1,h2,h3⟩:=oW h;exact⟨h1,by walk_at "o",h3⟩
theorem As{p:Int}{cs:List aq}{wd:Wo}{c:Nat}{a x:Int}(hx:cA p (cs.getD c []) 0 wd=some (a,x)):∀{i},c<i->a∈(bX p cs wd i).map (·.1)
  |0,h=>by walk_at "o"
  | i + 1, h => by
    unfold bX
    by_cases e:c=i
    · subst e
      rw[hx]
      dsimp only
      split
      · rename_i h;exact h
      · simp
    · have:=As hx (i:=i) (by walk_at "o")
      split
      · split
        · exact this
        · rw[List.map_append];exact List.mem_append_left _ this
      · exact this
noncomputable def aJ(p:Int)(cs:List aq)(wd:Wo):List bK:=(bX p cs wd cs.length).mergeSort fun a b=>decide (a.1<=b.1)
theorem pe(p:Int)(cs:List aq)(wd:Wo):(aJ p cs wd).Perm (bX p cs wd cs.length):=List.mergeSort_perm _ _
theorem Ej(p:Int)(cs:List aq)(wd:Wo):(aJ p cs wd).Pairwise fun a b=>a.1<b.1:=by
 have h1:(aJ p cs wd).Pairwise fun a b=>decide (a.1<=b.1)=true:=List.pairwise_mergeSort (fun a b c h1 h2=>by simp at h1 h2⊢;walk_at "o") (fun a b=>by simp;walk_at "o") _
 have h2:((aJ p cs wd).map (·.1)).Nodup:=((pe p cs wd).map _).nodup_iff.mpr (jV _)
 have h3:(aJ p cs wd).Pairwise fun a b=>a.1≠b.1:=List.pairwise_map.mp h2
 exact(h1.and h3).imp fun⟨a,b⟩=>by simp at a;walk_at "o"
theorem BS:∀{a b:List bK},(a.Pairwise fun x y=>x.1<y.1)->(b.Pairwise fun x y=>x.1<y.1)->a.Perm b->a=b
  |[],b,_,_,h=>by rw[List.nil_perm.mp h]
  |x::a,[],_,_,h=>by cases List.perm_nil.mp h
  | x :: a, y :: b, h1, h2, h => by
    obtain⟨x1,x2⟩:=List.pairwise_cons.mp h1
    obtain⟨y1,y2⟩:=List.pairwise_cons.mp h2
    have e:x=y:=by
      rcases List.mem_cons.mp (h.mem_iff.mp (List.mem_cons_self ..)) with e|e
      · exact e
      rcases List.mem_cons.mp (h.symm.mem_iff.mp (List.mem_cons_self ..)) with e'|e'
      · exact e'.symm
      have:=y1 x e;have:=x1 y e';walk_at "o"
    subst e
    rw[BS x2 y2 h.cons_inv]
theorem GV{p:Int}{cs:List aq}{wd:Wo}{ms:List bK}(h:ms.Perm (bX p cs wd cs.length))(hs:(ms.map (·.1)).Pairwise (· <= ·)):ms=aJ p cs wd:=by
 refine BS ?_ (Ej p cs wd) (h.trans (pe p cs wd).symm)
 have h2:(ms.map (·.1)).Nodup:=(h.map _).nodup_iff.mpr (jV _)
 exact((List.pairwise_map.mp hs).and (List.pairwise_map.mp h2)).imp fun⟨a,b⟩=>by walk_at "o"
theorem CQ{p:Int}{cs:List aq}{wd:Wo}{m:bK}(h:m∈aJ p cs wd):0<=m.2.1/\m.2.1<cs.length/\cA p (cs.getD m.2.1.toNat []) 0 wd=some (m.1,m.2.2)/\∀c:Nat,(c:Int)<m.2.1->∀x,cA p (cs.getD c []) 0 wd≠some (m.1,x):=oW ((pe p cs wd).mem_iff.mp h)
theorem Vm{p:Int}{cs:List aq}{wd:Wo}{c:Nat}{a x:Int}(hc:c<cs.length)(h:cA p (cs.getD c []) 0 wd=some (a,x)):∃m∈aJ p cs wd,m.1=a:=by
 have:=As h hc
 obtain⟨m,hm,e⟩:=List.mem_map.mp this
 exact⟨m,(pe p cs wd).mem_iff.mpr hm,e⟩
theorem HW{p:Int}{cs:List aq}{wd:Wo}(h:aJ p cs wd=[]):outs p cs wd=[]:=by
 unfold outs
 rw[List.filter_eq_nil_iff]
 intro c hc hs
 obtain⟨⟨a,x⟩,e⟩:=Option.isSome_iff_exists.mp hs
 obtain⟨m,hm,_⟩:=Vm (List.mem_range.mp hc) e
 rw[h] at hm;cases hm
theorem Fj{p:Int}{prs:aq}{wd:Wo}{ms:List bK}{a x:Int}(h:cA p prs 0 wd=some (a,x))(ha:∀m∈ms,m.1.toNat≠a.toNat)(hl:∀m∈ms,wd[m.1.toNat]?=some none)(h0:∀pr∈prs,0<=pr.1):cA p prs 0 (putAll wd ms)=some (a,x):=by
  have keep:∀{ms:List bK} {wd:Wo} {k:Nat},(∀m∈ms,m.1.toNat≠k)->(putAll wd ms)[k]?=wd[k]?:=fun{ms}=>by
    induction ms with
    |nil=>intro wd k _;rfl
    | cons m r ih =>
      intro wd k hk
      show(putAll (wd.set m.1.toNat (some m.2.2)) r)[k]?=_
      rw[ih fun m' hm'=>hk m' (List.mem_cons_of_mem _ hm'),List.getElem?_set_ne (hk m (List.mem_cons_self ..))]
  obtain⟨pr,e1,e2,e3⟩:=zv h
  have same:∀q∈prs,(putAll wd ms)[q.1.toNat]?=wd[q.1.toNat]?:=fun q hq=>keep fun m hm z=>by
    have hq':q∈bW wd prs:=by
      unfold bW
      exact List.mem_filter.mpr ⟨hq,by rw[<-z,hl m hm];rfl⟩
    rw[e1,List.mem_singleton] at hq'
    exact ha m hm (by rw[z,hq',e2])
  have e4:bW (putAll wd ms) prs=bW wd prs:=by
    unfold bW
    exact List.filter_congr fun q hq=>by rw[same q hq]
  have e5:aW prs (putAll wd ms)=aW prs wd:=by
    unfold aW
    congr 1
    exact List.map_congr_left fun q hq=>by unfold fG;rw[same q hq]
  unfold cA at h⊢
  rw[e4,e5]
  exact h
theorem mE(wd:Wo)(a b:List bK):putAll wd (a++b)=putAll (putAll wd a) b:=by unfold putAll;rw[List.foldl_append]
theorem iu.cat{p:Int}{cs:List aq}{wd:Wo}{a b:List bK}(h1:iu p cs wd a)(h2:iu p cs (putAll wd a) b):iu p cs wd (a++b):=fun j hj=>by
 by_cases h:j<a.length
 ·obtain⟨m,e1,e2⟩:=h1 j h
  refine⟨m,by rw[List.getElem?_append_left h];exact e1,?_⟩
  rw[List.take_append_of_le_length (by walk_at "o")]
  exact e2
 ·rw[List.length_append] at hj
  obtain⟨m,e1,e2⟩:=h2 (j-a.length) (by walk_at "o")
  refine⟨m,by rw[List.getElem?_append_right (by walk_at "o")];exact e1,?_⟩
  rw[List.take_append,List.take_of_length_le (by walk_at "o"),mE]
  exact e2
theorem m6{p:Int}{cs:List aq}{wd:Wo}(hp:0<p){m:bK}(h:m∈aJ p cs wd)(h0:∀prs∈cs,∀pr∈prs,0<=pr.1/\pr.1<wd.length):0<=m.1/\m.1<wd.length/\wd[m.1.toNat]?=some none/\0<=m.2.2/\m.2.2<p:=by
 obtain⟨a1,a2,a3,_⟩:=CQ h
 obtain⟨pr,b1,b2,b3,b4,b5⟩:=o8 hp a3
 have hc:m.2.1.toNat<cs.length:=by walk_at "o"
 rw[List.getD_eq_getElem?_getD,List.getElem?_eq_getElem hc] at b1
 have:=h0 _ (List.getElem_mem hc) pr b1
 rw[b2] at this
 exact⟨this.1,this.2,b3,b4,b5⟩
theorem CH{p:Int}{cs:List aq}{wd:Wo}(hp:0<p)(h0:∀prs∈cs,∀pr∈prs,0<=pr.1/\pr.1<wd.length):iu p cs wd (aJ p cs wd):=fun j hj=>by
 refine⟨_,List.getElem?_eq_getElem hj,?_⟩
 have hm:(aJ p cs wd)[j]∈aJ p cs wd:=List.getElem_mem hj
 obtain⟨a1,a2,a3,_⟩:=CQ hm
 obtain⟨b1,b2,b3,b4,b5⟩:=m6 hp hm h0
 have tk:∀m∈(aJ p cs wd).take j,m∈aJ p cs wd/\m.1.toNat≠(aJ p cs wd)[j].1.toNat:=fun m h=>by
  have hm':=List.mem_of_mem_take h
  refine⟨hm',fun z=>?_⟩
  obtain⟨c1,_⟩:=m6 hp hm' h0
  have hlt:m.1<(aJ p cs wd)[j].1:=by
   obtain⟨i,hi,e⟩:=List.mem_take_iff_getElem.mp h
   rw[<-e]
   exact List.pairwise_iff_getElem.mp (Ej p cs wd) i j (by walk_at "o") hj (by walk_at "o")
  walk_at "o"
 have hc:(aJ p cs wd)[j].2.1.toNat<cs.length:=by walk_at "o"
 have bP:∀pr∈cs.getD (aJ p cs wd)[j].2.1.toNat [],0<=pr.1:=fun pr h=>by
  rw[List.getD_eq_getElem?_getD,List.getElem?_eq_getElem hc] at h
  exact(h0 _ (List.getElem_mem hc) pr h).1
 have:=Fj a3 (fun m h=>(tk m h).2) (fun m h=>(m6 hp (tk m h).1 h0).2.2.1) bP
 exact LG a1 a2 this
noncomputable def fY(p:Int)(cs:List aq):Nat->Wo->List (List bK)
 |0,_=>[]
 |k+1,wd=>if aJ p cs wd=[] then[] else aJ p cs wd::fY p cs k (putAll wd (aJ p cs wd))
theorem qI{p:Int}{cs:List aq}{wd:Wo}(hp:0<p)(h0:∀prs∈cs,∀pr∈prs,0<=pr.1/\pr.1<wd.length):cnt (putAll wd (aJ p cs wd))+(aJ p cs wd).length=cnt wd:=by
 have:=DU hp (CH hp h0) (aJ p cs wd).length (Nat.le_refl _)
 rwa[List.take_length] at this
theorem CS{p:Int}{cs:List aq}(hp:0<p):∀{k:Nat} {wd:Wo},(∀prs∈cs,∀pr∈prs,0<=pr.1/\pr.1<wd.length)->cnt wd<=k->fY p cs (k+1) wd=fY p cs k wd
  | 0, wd, h0, h => by
    have e:aJ p cs wd=[]:=by
      cases e:aJ p cs wd with
      |nil=>rfl
      | cons m r =>
        have:=qI hp h0
        rw[e] at this
        simp at this
        walk_at "o"
    unfold fY
    rw[if_pos e]
    all_goals rfl
  | k + 1, wd, h0, h => by
    rw[fY]
    conv=>rhs;rw[fY]
    by_cases e:aJ p cs wd=[]
    · rw[if_pos e,if_pos e]
    · rw[if_neg e,if_neg e]
      congr 1
      have:=qI hp h0
      have hl:0<(aJ p cs wd).length:=List.length_pos_iff.mpr e
      exact CS hp (fun prs hp pr hr=>by rw[ja];exact h0 prs hp pr hr) (by walk_at "o")
noncomputable def eK(p:Int)(cs:List aq)(wd:Wo):List (List bK):=fY p cs (cnt wd) wd
theorem L8{p:Int}{cs:List aq}(hp:0<p){wd:Wo}(h0:∀prs∈cs,∀pr∈prs,0<=pr.1/\pr.1<wd.length):∀{k:Nat},cnt wd<=k->fY p cs k wd=eK p cs wd:=fun{k} h=>by
 obtain⟨j,rfl⟩:∃j,k=cnt wd+j:=⟨k-cnt wd,by walk_at "o"⟩
 clear h
 induction j with
 |zero=>rfl
 |succ j ih=>rw[<-Nat.add_assoc,CS hp h0 (by walk_at "o"),ih]
theorem vS{p:Int}{cs:List aq}{wd:Wo}(h:aJ p cs wd=[]):eK p cs wd=[]:=by
 unfold eK
 cases cnt wd with
 |zero=>rfl
 |succ k=>rw[fY,if_pos h]
theorem p5{p:Int}{cs:List aq}{wd:Wo}(hp:0<p)(h0:∀prs∈cs,∀pr∈prs,0<=pr.1/\pr.1<wd.length)(h:aJ p cs wd≠[]):eK p cs wd=aJ p cs wd::eK p cs (putAll wd (aJ p cs wd)):=by
 have hc:=qI hp h0
 have hl:0<(aJ p cs wd).length:=List.length_pos_iff.mpr h
 obtain⟨k,hk⟩:∃k,cnt wd=k+1:=⟨cnt wd-1,by walk_at "o"⟩
 have e:eK p cs wd=fY p cs (k+1) wd:=by unfold eK;rw[hk]
 rw[e,fY,if_neg h,L8 hp (fun prs hp pr hr=>by rw[ja];exact h0 prs hp pr hr) (by walk_at "o")]
theorem DT{p:Int}{cs:List aq}(hp:0<p):∀{k:Nat} {wd:Wo},(∀prs∈cs,∀pr∈prs,0<=pr.1/\pr.1<wd.length)->cnt wd<=k->iu p cs wd (eK p cs wd).flatten/\aJ p cs (putAll wd (eK p cs wd).flatten)=[]/\∀r∈eK p cs wd,r≠[]
  | k, wd, h0, hk => by
    by_cases e:aJ p cs wd=[]
    · rw[vS e]
      exact⟨fun j hj=>by simp at hj,e,fun r hr=>by cases hr⟩
    · have hl:0<(aJ p cs wd).length:=List.length_pos_iff.mpr e
      have hc:=qI hp h0
      rw[p5 hp h0 e]
      obtain⟨k,rfl⟩:∃k',k=k'+1:=⟨k-1,by walk_at "o"⟩
      obtain⟨i1,i2,i3⟩:=DT hp (k:=k) (wd:=putAll wd (aJ p cs wd)) (fun prs hp pr hr=>by rw[ja];exact h0 prs hp pr hr) (by walk_at "o")
      refine⟨(CH hp h0).cat i1,?_,fun r hr=>?_⟩
      · show aJ p cs (putAll wd (aJ p cs wd++_))=[]
        rw[mE];exact i2
      · rcases List.mem_cons.mp hr with z|z
        · rw[z];exact e
        · exact i3 r z
noncomputable def dg(p:Int)(cs:List aq)(wd:Wo):Wo:=putAll wd (eK p cs wd).flatten
theorem qF{p:Int}{cs:List aq}{wd:Wo}(hp:0<p)(h0:∀prs∈cs,∀pr∈prs,0<=pr.1/\pr.1<wd.length):iu p cs wd (eK p cs wd).flatten/\aJ p cs (dg p cs wd)=[]/\(∀r∈eK p cs wd,r≠[])/\outs p cs (dg p cs wd)=[]/\(dg p cs wd).length=wd.length:=by
 obtain⟨h1,h2,h3⟩:=DT hp h0 (Nat.le_refl _)
 exact⟨h1,h2,h3,HW h2,ja⟩
theorem Ph{p:Int}{cs:List aq}{wd:Wo}(h:aJ p cs wd=[]):dg p cs wd=wd:=by unfold dg;rw[vS h];rfl
theorem Jh{p:Int}{cs:List aq}{wd:Wo}(hp:0<p)(h0:∀prs∈cs,∀pr∈prs,0<=pr.1/\pr.1<wd.length)(h:aJ p cs wd≠[]):dg p cs wd=dg p cs (putAll wd (aJ p cs wd)):=by
 unfold dg
 rw[p5 hp h0 h]
 exact mE _ _ _
noncomputable abbrev iw(r:List bK):PyData:= .list (r.map rj)
noncomputable def gx(nd:PyData)(l:Addr)(wd:Wo):Fs:=[("net", .d nd),("letters", .cu (iT l (wd.map br)))]
noncomputable abbrev kM(m:bK):Int×PyData:=(m.1,rj m)
theorem xA(ms:List bK):(ms.map kM).map (·.1)=ms.map (·.1):=by rw[List.map_map];rfl
theorem AM:∀{ms:List bK} {m:bK},(ms.map (·.1)).Nodup->m∈ms->gz (ms.map kM) m.1=some (rj m)
  | x :: r, m, nd, h => by
    rw[List.map_cons,n9]
    rw[List.map_cons,List.nodup_cons] at nd
    rcases List.mem_cons.mp h with e|e
    · subst e;rw[if_pos rfl]
    · rw[if_neg (fun z=>nd.1 (by rw[show x.1=m.1 from z];exact List.mem_map_of_mem e)),AM nd.2 e]
theorem zF{p:Int}{cs:List aq}{wd:Wo}(hp:0<p)(h0:∀prs∈cs,∀pr∈prs,0<=pr.1/\pr.1<wd.length):∀{i},i<=cs.length->(bX p cs wd i).length<=wd.length:=fun{i} hi=>by
 have nd:=jV (p:=p) (cs:=cs) (wd:=wd) i
 have:=MC (m:=wd.length) nd fun k hk=>by
  obtain⟨m,hm,e⟩:=List.mem_map.mp hk
  obtain⟨a1,a2,a3,_⟩:=oW hm
  obtain⟨pr,b1,b2,_⟩:=o8 hp a3
  have hc:m.2.1.toNat<cs.length:=by walk_at "o"
  rw[List.getD_eq_getElem?_getD,List.getElem?_eq_getElem hc] at b1
  have:=h0 _ (List.getElem_mem hc) pr b1
  walk_at "o"
 rw[List.length_map] at this
 walk_at "o"
theorem e7.rg{p:Int}{cs:List aq}{m:Nat}(h:e7 p cs m):∀prs∈cs,∀pr∈prs,0<=pr.1/\pr.1<m:=fun prs hp pr hr=>⟨((h.2.2.2 prs hp).2.1 pr hr).1,((h.2.2.2 prs hp).2.1 pr hr).2.1⟩
theorem M7{p:Int}{cs:List aq}{wd:Wo}(hN:e7 p cs wd.length)(hW:fX wd):fX (putAll wd (aJ p cs wd)):=by
  have key:∀{ms:List bK} {wd:Wo},fX wd->(∀m∈ms,Sm m.2.2)->fX (putAll wd ms):=fun{ms}=>by
    induction ms with
    |nil=>intro wd h _;exact h
    | cons m r ih =>
      intro wd h hm
      refine ih (wd:=wd.set m.1.toNat (some m.2.2)) (fun x hx=>?_) fun m' h'=>hm m' (List.mem_cons_of_mem _ h')
      rcases List.mem_or_eq_of_mem_set hx with z|z
      · exact h x z
      · cases z;exact hm m (List.mem_cons_self ..)
  have p2:=hN.1.1
  have fV:=hN.2.1
  refine key hW fun m hm=>?_
  obtain⟨_,_,_,b4,b5⟩:=m6 (by walk_at "o") hm hN.rg
  unfold Sm;walk_at "o"
theorem C2(wd:Wo):dw (wd.map br)=true:=by
 unfold dw
 rw[List.all_eq_true]
 intro x hx
 obtain⟨o,_,rfl⟩:=List.mem_map.mp hx
 cases o<;>rfl
theorem Ig(nd:PyData)(l:Addr)(wd Bm:Wo):cO "letters" (.cu (iT l (Bm.map br))) (gx nd l wd)=gx nd l Bm:=by
 unfold gx cO
 rw[if_neg (by decide+kernel)]
 unfold cO
 rw[if_pos rfl]
theorem Df{p:Int}{cs:List aq}:∀{k:Nat} {wd:Wo},(fY p cs k wd).length<=k
  |0,wd=>by simp[fY]
  | k + 1, wd => by
    rw[fY]
    split
    · simp
    · simp[Df]
theorem Rq{p:Int}{cs:List aq}{wd:Wo}:(eK p cs wd).length<=wd.length:=Nat.le_trans Df (OE wd)
theorem HG(ms:List bK):SeqAt.shaped (iw ms)=true:=QS ms
theorem RH(ms:List bK):PyData.eqv (iw ms) (.list [])=decide (ms=[]):=by
 have:=IA ms
 rw[Bool.bne_false] at this
 exact this
end L2
set_option maxRecDepth 100000
set_option maxHeartbeats 4000000
namespace L2
open PySem PySem.Spec PyProof.Rows
theorem o4{wd:Wo}{x:Int}:x∈cg wd↔0<=x/\wd[x.toNat]?=some none:=by
 unfold cg
 rw[List.mem_map]
 constructor
 ·rintro⟨i,hi,rfl⟩
  obtain⟨h1,h2⟩:=List.mem_filter.mp hi
  exact⟨by walk_at "o",by simpa using h2⟩
 ·rintro⟨h0,h1⟩
  refine⟨x.toNat,List.mem_filter.mpr ⟨List.mem_range.mpr (List.getElem?_eq_some_iff.mp h1).1,by simpa using h1⟩,by walk_at "o"⟩
theorem mD(wd:Wo):(cg wd).Pairwise (· < ·):=by
 unfold cg
 exact List.pairwise_map.mpr ((List.pairwise_lt_range.filter _).imp fun h=>by walk_at "o")
theorem SM(wd:Wo):(cg wd).length<=wd.length:=by
 unfold cg
 rw[List.length_map]
 exact Nat.le_trans (List.length_filter_le _ _) (by simp)
theorem AG{wd:Wo}{prs:aq}(h0:∀pr∈prs,0<=pr.1):dz (cg wd) prs=(bW wd prs).length:=by
 unfold dz bW
 rw[List.filter_congr fun pr bP=>?_]
 rw[Bool.eq_iff_iff]
 simp only[decide_eq_true_eq,beq_iff_eq]
 rw[o4]
 exact⟨fun h=>h.2,fun h=>⟨h0 pr bP,h⟩⟩
theorem BP{p:Int}{cs:List aq}{wd:Wo}{ms:List bK}(h1:iu p cs wd ms)(h0:∀prs∈cs,∀pr∈prs,0<=pr.1){T:List Int}(hT:∀x∈T,x∈cg wd)(ho:eG cs T=true):∀j,j<=ms.length->∀x∈T,x∈cg (putAll wd (ms.take j))
  |0,_=>by simpa[putAll] using hT
  | j + 1, hj => by
    have ih:=BP h1 h0 hT ho j (by walk_at "o")
    obtain⟨m,e1,e2⟩:=h1 j (by walk_at "o")
    obtain⟨c0,c1,e3⟩:=p6 e2
    have hc:m.2.1.toNat<cs.length:=by walk_at "o"
    rw[List.getD_eq_getElem?_getD,List.getElem?_eq_getElem hc] at e3
    obtain⟨pr,e4,e5,e6⟩:=zv e3
    have lz:=List.getElem_mem hc
    have mZ:pr∈cs[m.2.1.toNat]:=(rS (wd:=putAll wd (ms.take j)) (by show pr∈bW _ cs[m.2.1.toNat];rw[show bW (putAll wd (ms.take j)) cs[m.2.1.toNat]=[pr] from e4];simp)).1
    have hl1:dz (cg (putAll wd (ms.take j))) cs[m.2.1.toNat]=1:=by
      rw[AG (h0 _ lz),show bW (putAll wd (ms.take j)) cs[m.2.1.toNat]=[pr] from e4];rfl
    intro x hx
    have iP:=ih x hx
    rw[take_snoc e1,mE]
    show x∈cg ((putAll wd (ms.take j)).set m.1.toNat (some m.2.2))
    rw[o4] at iP⊢
    refine⟨iP.1,?_⟩
    rw[List.getElem?_set_ne]
    · exact iP.2
    · intro z
      have vt:x=pr.1:=by have:=h0 _ lz pr mZ;walk_at "o"
      have a1:=CZ ih cs[m.2.1.toNat]
      have a2:=Ez hx (List.mem_map.mpr ⟨pr,mZ,vt.symm⟩)
      unfold eG at ho
      rw[List.all_eq_true] at ho
      exact of_decide_eq_true (ho _ lz) (by walk_at "o")
theorem zL{p:Int}{cs:List aq}{wd:Wo}(hp:0<p)(h0:∀prs∈cs,∀pr∈prs,0<=pr.1/\pr.1<wd.length):gQ cs (cg wd) (cg (dg p cs wd)):=by
 obtain⟨h1,h2,h3,h4,h5⟩:=qF hp h0
 refine⟨⟨fun x=>decide (x∈cg (dg p cs wd)),?_⟩,?_,fun T hT ho=>?_⟩
 ·refine qR (mD _) ((mD wd).filter _) fun k=>?_
  rw[List.mem_filter]
  refine⟨fun h=>⟨?_,decide_eq_true h⟩,fun h=>of_decide_eq_true h.2⟩
  rw[o4] at h⊢
  exact⟨h.1,P0 h.2⟩
 ·unfold eG
  rw[List.all_eq_true]
  intro prs bh
  refine decide_eq_true fun z=>?_
  rw[AG fun pr bP=>(h0 prs bh pr bP).1] at z
  obtain⟨pr,e⟩:=List.length_eq_one_iff.mp z
  obtain⟨c,hc,e2⟩:=List.getElem_of_mem bh
  have h6:=Ja h4 hc
  rw[List.getD_eq_getElem?_getD,List.getElem?_eq_getElem hc] at h6
  have h7:=U4 (p:=p) (wd:=dg p cs wd) (prs:=cs[c]) (pr:=pr) (by rw[e2];exact e)
  simp only[Option.getD_some] at h6
  rw[h7] at h6;cases h6
 ·have:=BP h1 (fun prs hp pr hr=>(h0 prs hp pr hr).1) hT ho _ (Nat.le_refl _)
  rw[List.take_length] at this
  exact this
theorem zS{cs cs':List aq}(h:cs'.Perm cs)(T:List Int):eG cs' T=eG cs T:=by
 unfold eG
 rw[Bool.eq_iff_iff,List.all_eq_true,List.all_eq_true]
 exact⟨fun q x hx=>q x (h.mem_iff.mpr hx),fun q x hx=>q x (h.mem_iff.mp hx)⟩
theorem gQ.perm{cs cs':List aq}{aD g:List Int}(h:cs'.Perm cs)(q:gQ cs' aD g):gQ cs aD g:=⟨q.sub,by rw[<-zS h];exact q.out,fun T hT ho=>q.max T hT (by rw[zS h];exact ho)⟩
theorem Bf{cs:List aq}{aD g g':List Int}(hl:aD.Pairwise (· < ·))(h:gQ cs aD g)(h':gQ cs aD g'):g=g':=
 qR (h.up hl) (h'.up hl) fun k=>⟨fun z=>h'.max g h.mem h.out k z,fun z=>h.max g' h'.mem h'.out k z⟩
theorem Ew{p:Int}{cs:List aq}{wd:Wo}{ms:List bK}(hp:0<p)(h1:iu p cs wd ms)(h2:∀(i:Nat) x,wd[i]?=some (some x)->0<=x/\x<p):∀j,j<=ms.length->(∀(i:Nat) x,wd[i]?=some (some x)->(putAll wd (ms.take j))[i]?=some (some x))/\∀(i:Nat) x,(putAll wd (ms.take j))[i]?=some (some x)->0<=x/\x<p
  |0,_=>⟨by intro i x h;simpa[putAll] using h,by intro i x h;exact h2 i x (by simpa[putAll] using h)⟩
  | j + 1, hj => by
    obtain⟨i1,i2⟩:=Ew hp h1 h2 j (by walk_at "o")
    obtain⟨m,e1,e2⟩:=h1 j (by walk_at "o")
    obtain⟨c0,c1,e3⟩:=p6 e2
    obtain⟨pr,b1,b2,b3,b4,b5⟩:=o8 hp e3
    rw[take_snoc e1,mE]
    show(∀(i:Nat) x,_->((putAll wd (ms.take j)).set m.1.toNat (some m.2.2))[i]?=_)/\∀(i:Nat) x,((putAll wd (ms.take j)).set m.1.toNat (some m.2.2))[i]?=_->_
    refine⟨fun i x hx=>?_,fun i x hx=>?_⟩
    · have:=i1 i x hx
      rw[List.getElem?_set_ne]
      · exact this
      · intro z;rw[<-z,b3] at this;cases this
    · by_cases z:m.1.toNat=i
      · subst z
        rw[List.getElem?_set_self (List.getElem?_eq_some_iff.mp b3).1] at hx
        cases hx
        exact⟨b4,b5⟩
      · rw[List.getElem?_set_ne z] at hx
        exact i2 i x hx
theorem Ml{p:Int}{cs:List aq}{wd:Wo}(hp:0<p)(h0:∀prs∈cs,∀pr∈prs,0<=pr.1/\pr.1<wd.length)(h2:∀(i:Nat) x,wd[i]?=some (some x)->0<=x/\x<p):(∀(i:Nat) x,wd[i]?=some (some x)->(dg p cs wd)[i]?=some (some x))/\∀(i:Nat) x,(dg p cs wd)[i]?=some (some x)->0<=x/\x<p:=by
 have:=Ew hp (qF hp h0).1 h2 _ (Nat.le_refl _)
 rw[List.take_length] at this
 exact this
theorem PK{p:Int}{cs:List aq}{wd:Wo}{os:List Int}(hN:e7 p cs wd.length)(hl:wd.length=os.length)(hos:∀x∈os,0<=x/\x<p)(ht:∀prs∈cs,aW prs (os.map some)%p=0)(ha:Agree os wd):Agree os (dg p cs wd):=by
 have p2:=hN.1.1
 have:=AB hN hl hos ht ha (qF (by walk_at "o") hN.rg).1 _ (Nat.le_refl _)
 rw[List.take_length] at this
 exact this
noncomputable def gh(wd:Wo)(i:Nat):List Int:=((List.range i).filter fun i=>wd[i]?==some none).map fun(i:Nat)=>(i:Int)
theorem BA(wd:Wo):gh wd wd.length=cg wd:=rfl
theorem CY(wd:Wo)(i:Nat):gh wd (i+1)=if wd[i]?=some none then gh wd i++[(i:Int)] else gh wd i:=by
 unfold gh
 rw[List.range_succ,List.filter_append,List.map_append]
 by_cases h:wd[i]?=some none
 ·rw[if_pos h,List.filter_cons_of_pos (by rw[h];rfl)];rfl
 ·rw[if_neg h,List.filter_cons_of_neg (by simpa using h)];simp
theorem KW(wd:Wo)(i:Nat):(i:Int)∉gh wd i:=fun h=>by
 unfold gh at h
 obtain⟨j,hj,e⟩:=List.mem_map.mp h
 have:=List.mem_range.mp (List.mem_filter.mp hj).1
 walk_at "o"
theorem U3(wd:Wo)(i:Nat):(gh wd i).length<=i:=by
 unfold gh
 rw[List.length_map]
 exact Nat.le_trans (List.length_filter_le _ _) (by simp)
theorem Gk{S:List Int}{x:Int}(h:x∈S):(S.filter fun y=>decide (y≠x)).length<S.length:=by
 have h1:(S.filter fun y=>decide (y≠x)).length<=S.length:=List.length_filter_le _ _
 have h2:(S.filter fun y=>decide (y≠x)).length≠S.length:=fun z=>by
  have:=List.length_filter_eq_length_iff.mp z x h
  simp at this
 walk_at "o"
theorem RJ{S:List Int}{x:Int}(h:x∉S):lF (eZ S) x (.bool true)=eZ (S++[x]):=by
 unfold lF
 rw[yz,if_neg (by simpa using h)]
 unfold eZ
 rw[List.map_append];rfl
theorem lD.LC{G:Gx}{ρ:Rh}{te:TE}{Θ:Bool->List PyData->Prop}(h:lD G ρ te fun d=>∃ds,d= .list ds/\dw ds=true/\Θ true ds):ao G ρ te Θ:=fun nb σ H Q W z=>
 h nb σ H _ W fun v H' d hh st hd=>by
  obtain⟨ds,e,hs,p⟩:=hh
  subst e
  obtain⟨c,xs,rfl,n,hx,hds⟩:=hd.dG
  exact z true c xs H' ds p st (Classical.byContradiction fun z=>n z) hx (af.iH hs hds)
end L2
set_option maxRecDepth 100000
set_option maxHeartbeats 4000000
namespace L2
open PySem PySem.Spec PyProof.Rows
theorem bJ.rel{sx:Scope}{env:Env}{NX:List Str}{scope:Scope}{N:List Str}{mp:List (Option Nat)}(h:bJ sx NX scope N mp):bJ (relabel sx env) NX scope N mp:=
 ⟨h.kind,h.own,h.names,fun y hy e=>Rk (h.free y hy e),h.len,h.look⟩
theorem Ac{X:Cx}{scope:Scope}{C:Addr}{N:List Str}{s₀:Shared}{H₀:Hp}{fp:List Addr}{elt iter tg:Expr}{ifs:List Expr}{oO:Scope}{pos:Pos}{N2:List Str}{mp:List (Option Nat)}{wi:TI}{g:TG}{tc:TT}{te:TE}
  (ok:bJ scope N oO N2 mp) (hi:PI (cZ X scope C N s₀ H₀ fp) tg iter wi)
  (hb:∀C' s₀' H₀' fp',PG (cZ (cZ X scope C N s₀ H₀ fp) oO C' N2 s₀' H₀' fp') tg g/\lY (cZ (cZ X scope C N s₀ H₀ fp) oO C' N2 s₀' H₀' fp') ifs tc/\PE (cZ (cZ X scope C N s₀ H₀ fp) oO C' N2 s₀' H₀' fp') elt te) (hc:X.calm=true:=by rfl)
  (hs:∀x,foldedSetIterable iter (cZ X scope C N s₀ H₀ fp).env x=pure x:=by intro _;rfl):PE (cZ X scope C N s₀ H₀ fp) (.ListComp elt [⟨tg,iter,ifs,0⟩] oO pos) (iF wi g tc te mp):=
 dJ (X:=cZ X scope C N s₀ H₀ fp) (bJ.rel ok) hi hb hc hs
theorem xj{α β γ:Type}{xs:List α}{φ:α->β}{J:Nat->γ->Prop}{Q:Nat->β->γ->Prop}(k:∀i x,xs[i]?=some x->∀ρ,J i ρ->Q i (φ x) ρ):∀i d ρ,(xs.map φ)[i]?=some d->J i ρ->Q i d ρ:=by
 intro i d ρ h j
 obtain⟨x,hx,rfl⟩:=fK h
 exact k i x hx ρ j
theorem nN{α β γ:Type}{xs:List α}{φ:α->β}{L J:Nat->γ->Prop}{Q:Nat->β->γ->Prop}(k:∀i x,xs[i]?=some x->∀ρ,L i ρ->J i ρ->Q i (φ x) ρ):∀i d ρ,(xs.map φ)[i]?=some d->L i ρ->J i ρ->Q i d ρ:=by
 intro i d ρ h l j
 obtain⟨x,hx,rfl⟩:=fK h
 exact k i x hx ρ l j
theorem LH{α β:Type}{P:α->Prop}{R:α->β}{Q:β->Prop}(k:∀w,P w->Q (R w)):∀d,(∃w,P w/\d=R w)->Q d:=by
 rintro d ⟨w,hw,rfl⟩
 exact k w hw
theorem En{α β γ δ:Type}{P:α->β->γ->Prop}{R:α->β->γ->δ}{Q:δ->Prop}(k:∀a b c,P a b c->Q (R a b c)):∀d,(∃a b c,P a b c/\d=R a b c)->Q d:=by
 rintro d ⟨a,b,c,hw,rfl⟩
 exact k a b c hw
theorem Cf{α β γ δ ε:Type}{P:α->β->γ->δ->Prop}{R:α->β->γ->δ->ε}{Q:ε->Prop}(k:∀a b c d,P a b c d->Q (R a b c d)):∀e,(∃a b c d,P a b c d/\e=R a b c d)->Q e:=by
 rintro e ⟨a,b,c,d,hw,rfl⟩
 exact k a b c d hw
theorem Lp{α β:Type}{P:α->Prop}{R:α->β}{Q:β->Prop}(k:∀w,P w->Q (R w)):∀d,(∃w,d=R w/\P w)->Q d:=by
 rintro d ⟨w,rfl,hw⟩
 exact k w hw
theorem kY{α β:Type}{L:β->Prop}{P:α->Prop}{R:α->β}{Q:β->Prop}(k:∀w,L (R w)->P w->Q (R w)):∀d,L d->(∃w,d=R w/\P w)->Q d:=by
 rintro d l ⟨w,rfl,hw⟩
 exact k w l hw
theorem Aw{α β:Type}{R:α->β}{Q:β->Prop}(k:∀w,Q (R w)):∀d,(∃w,d=R w)->Q d:=by
 rintro d ⟨w,rfl⟩
 exact k w
theorem FL{α β γ δ:Type}{R:α->β->γ->δ}{Q:δ->Prop}(k:∀a b c,Q (R a b c)):∀d,(∃a b c,d=R a b c)->Q d:=by
 rintro d ⟨a,b,c,rfl⟩
 exact k a b c
end L2
set_option maxRecDepth 100000
set_option maxHeartbeats 8000000
namespace K26
open PySem L2
noncomputable def top(i:Nat):Stmt:=PySem.Challenge.pw_fewchecks_k26_whole_in_any_order.main.body.getD i (.Pass ⟨0,0,0,0⟩)
noncomputable abbrev WM:Stmt:=top 0
noncomputable abbrev mh:Stmt:=top 2
noncomputable abbrev kX:Stmt:=top 3
noncomputable abbrev kQ:Stmt:=top 4
noncomputable abbrev WE:Stmt:=top 6
noncomputable abbrev lB:Stmt:=top 8
noncomputable abbrev jQ:Stmt:=top 9
noncomputable abbrev j4:Stmt:=top 10
noncomputable abbrev j7:Stmt:=top 11
noncomputable abbrev lC:Stmt:=top 13
noncomputable abbrev kH:Stmt:=top 15
noncomputable abbrev lN:Stmt:=top 16
noncomputable abbrev kc:Stmt:=top 17
noncomputable abbrev lP:Stmt:=top 18
noncomputable abbrev lZ:Stmt:=top 19
noncomputable abbrev kE:Stmt:=top 20
noncomputable abbrev lg:Stmt:=top 21
noncomputable abbrev lH:Stmt:=top 22
noncomputable abbrev jc:Stmt:=top 23
noncomputable abbrev kr:Stmt:=top 24
noncomputable abbrev jX:Stmt:=top 25
noncomputable abbrev jR:Stmt:=top 26
noncomputable abbrev jF:Stmt:=top 27
noncomputable abbrev Wv:Stmt:=top 28
noncomputable abbrev jJ:Stmt:=top 29
noncomputable abbrev Ws:Stmt:=top 30
noncomputable abbrev lO:Stmt:=top 31
noncomputable abbrev kF:Stmt:=top 32
noncomputable abbrev kJ:Stmt:=top 33
noncomputable abbrev kq:Stmt:=top 34
noncomputable abbrev kK:Stmt:=top 35
noncomputable abbrev kG:Stmt:=top 36
noncomputable abbrev fW:Stmt:=top 37
noncomputable abbrev mq:Stmt:=inClass (top 12) 0
noncomputable abbrev lq:Stmt:=inClass (top 12) 1
noncomputable abbrev lG:Stmt:=inClass (top 12) 2
noncomputable abbrev lI:Stmt:=inClass (top 12) 5
local macro_rules| `(tactic|walk_at "d0")=> `(tactic|first|omega|assumption|decide|(unfold Sm at*;omega)|(unfold rQ;omega)|(unfold wK;decide)|(unfold wK;omega))
local macro_rules| `(tactic|walk_at "ds")=> `(tactic|((try dsimp only);first|walk_at "d0" |(refine And.intro ?_ ?_<;>walk_at "d0")|(refine Or.inl ?_;walk_at "d0")|(refine Or.inr (And.intro ?_ ?_)<;>walk_at "d0")))
local macro_rules| `(tactic|walk_at "s1")=> `(tactic|with_reducible first
 |refine R.seq ?_|refine R.asg ?_|refine R.jA ?_|refine R.ret ?_|refine R.next ?_|refine R.c ?_|refine R.op ?_|refine R.test ?_|refine R.bl ?_
 |refine R.and ?_|refine R.PF ?_|refine R.cb ?_|refine R.call ?_|refine R.nil ?_|refine R.cons ?_
 |refine R.lst ?_|refine R.sl ?_|refine R.Sb ?_|refine R.part ?_|refine R.DM ?_|refine R.L7 ?_|refine R.Ut ?_|refine R.RL ?_|refine R.oU ?_
 |refine R.eY ?_|refine R.Jt ?_|refine R.KG ?_|refine R.CL ?_|refine R.EO ?_
 |refine pK ?_|refine Am ?_|refine R.Qi ?_|refine R.Ft ?_|refine R.JS ?_|refine R.iL ?_|refine R.LW ?_|refine R.comp ?_)
local macro_rules| `(tactic|walk_at "st")=> `(tactic|repeat (first
 |walk_at "s1"
 |((with_reducible refine' R.var ?h0 ?_);(case h0=>rfl))
 |((with_reducible refine' R.rI ?h1 ?_);(case h1=>walk_at "ds"))
 |((with_reducible refine' R.AZ (o:= .lst []) ?h1 ?_);(case h1=>rfl))
 |((with_reducible refine' R.pL ?h0 ?h1 ?_);(case h0=>assumption);(case h1=>rfl))
 |((with_reducible refine' R.V6 ?h1 ?_);(case h1=>rfl))
 |((with_reducible refine' R.setM ?h0 ?h1 ?_);(case h0=>assumption);(case h1=>rfl))
 |((with_reducible refine' R.QA ?h0 ?_);(case h0=>assumption))
 |((with_reducible refine' R.JL ?h0 ?_);(case h0=>walk_at "ds"))
 |((with_reducible refine' R.qw ?h0 ?_);(case h0=>assumption))
 |((with_reducible refine' R.E5 ?h0 ?_);(case h0=>first|exact R.dT (by omega)|exact R.Cr (by omega)|decide))
 |((with_reducible refine' R.CG ?h0 ?_);(case h0=>first|exact R.dF (by omega)|exact R.Ay (by omega)|decide))
 |(with_reducible refine R.Fy ?_)|(with_reducible refine R.FN ?_)))
local macro_rules| `(tactic|walk_at "fv")=> `(tactic|first|exact Or.inl rfl|exact Or.inr (Or.inl rfl)|exact Or.inr (Or.inr (Or.inl rfl))|exact Or.inr (Or.inr (Or.inr (Or.inl rfl)))|exact Or.inr (Or.inr (Or.inr (Or.inr rfl))))
local macro_rules| `(tactic|walk_at "d1")=> `(tactic|with_reducible first
 |refine Sv.seq ?_|refine Sv.Ec ?_|refine Sv.asg ?_|refine Sv.sY ?_|refine Sv.jA ?_|refine Sv.ret ?_|refine Sv.next ?_
 |refine Ev.int ?_|refine Ev.bl ?_|refine Ev.aB ?_|refine Ev.eY ?_|refine Ev.UK ?_|refine Ev.rI ?_|refine Ev.rU ?_|refine Ev.eq ?_|refine Ev.ne ?_|refine Ev.is ?_|refine Ev.O4 ?_|refine Ev.qS ?_|refine Ev.Cp ?_|refine Ev.GC ?_
 |refine Ev.EK ?_|refine Tv.test ?_|refine Tv.and ?_|refine Tv.or ?_|refine Tv.not ?_|refine Tv.oU ?_|refine Tv.mT ?_
 |refine Ev.Hv ?_|refine Ev.lst ?_|refine Av.nil ?_|refine Av.cons ?_|refine Av.IB ?_|refine Ov.none ?_|refine Ov.some ?_|refine Ev.min2 ?_|refine Ev.NY ?_|refine Ev.whole ?_
 |refine R.di ?_|refine R.db ?_|refine R.dl ?_|refine R.dt ?_|refine R.Lc ?_|refine R.IM ?_|refine R.Og ?_
 |refine Gv.oE ?_|refine Gv.OJ ?_|refine Gv.SD ?_|refine Gv.iA ?_|refine Gv.P5 ?_|refine Gv.PN ?_|refine pK ?_|refine Am ?_)
local macro_rules| `(tactic|walk_at "dt")=> `(tactic|repeat (first
 |((with_reducible refine' Sv.vq ?h0 ?_);(case h0=>rfl))
 |walk_at "d1"
 |((with_reducible refine' Ev.var ?h0 ?_);(case h0=>rfl))
 |((with_reducible refine' Ev.draw ?h0 ?_);(case h0=>rfl))
 |((with_reducible refine' Ev.K8 ?h0 ?_);(case h0=>rfl))
 |((with_reducible refine' Ev.A7 ?h0 ?_);(case h0=>rfl))
 |((with_reducible refine' Sv.append ?h0 ?_);(case h0=>rfl))
 |((with_reducible refine' Sv.vq ?h0 ?_);(case h0=>rfl))
 |((with_reducible refine' Gv.tup ?h0 ?_);(case h0=>rfl))
 |((with_reducible refine' R.at_ ?h0 ?_);(case h0=>first|rfl|assumption))
 |(with_reducible refine Ev.NI ?_)|(with_reducible refine Ev.DH ?_)|(with_reducible refine Ev.listOf ?_)|(with_reducible refine Ev.sl ?_)|(with_reducible refine Ev.cat ?_)|(with_reducible refine Ev.gZ ?_)
 |((with_reducible refine' Ev.Vf ?h0 ?_);(case h0=>walk_at "fv"))
 |(with_reducible refine Ev.sum ?_)
 |((with_reducible refine' R.G5 ?_))
 |((with_reducible refine' R.E5 ?h0 ?_);(case h0=>first|exact R.dT (by omega)|exact R.Cr (by omega)|rfl))
 |((with_reducible refine' R.CG ?h0 ?_);(case h0=>first|exact R.dF (by omega)|exact R.Ay (by omega)|exact Bool.false_ne_true))
 |((with_reducible refine' R.Q4 ?h0 ?_);(case h0=>first|walk_at "ds" |exact Nat.le_of_ble_eq_true rfl))))
local macro_rules| `(tactic|walk_at "wk")=> `(tactic|repeat (first|exact Wk.nil|apply Wk.no|apply Wk.eq))
section
variable{P:Program}{w:World}{K:PySem.W.Frag}{mg:Str->Option Value}{base:Heap}{f:Addr}{fd:FuncData}
theorem gC:bL ["p","b","last_rest","last_times","rest","times","quotient","next_rest","next_times"] ["p","b"] (ay kX):=⟨rfl,rfl,rfl,by decide+kernel,rfl,by decide+kernel,by decide+kernel⟩
theorem OV(F:bE K "inverse" "inverse" kX f fd):
  aS P w K mg base bw 1 f fd ["p","b"] zH:=by
 refine F.ok gC (fun vs H Q E h=>?_) (fun cdv A outer s H vs Q E hr h=>?_)
 ·obtain⟨p,b,rfl,hp,hp3,hb,q⟩:=h
  rfl
 obtain⟨p,b,rfl,hp,hp3,hb,q⟩:=h
 refine⟨_,(@az _ _ _ _ _ (@aN _ _ (2) _ _ _ _ gC.nd rfl (Or.inl rfl) (pv 0) (by rfl) (by first|exact .inl rfl|exact .inr rfl|assumption)) (@az _ _ _ _ _ (@aN _ _ (3) _ _ _ _ gC.nd rfl (Or.inl rfl) aj (by rfl) (by first|exact .inl rfl|exact .inr rfl|assumption)) (@az _ _ _ _ _ (@aN _ _ (4) _ _ _ _ gC.nd rfl (Or.inl rfl) (@aF _ _ _ _ _ _ _ _ fq (pv 1) (pv 0)) (by rfl) (by first|exact .inl rfl|exact .inr rfl|assumption)) (@az _ _ _ _ _ (@aN _ _ (5) _ _ _ _ gC.nd rfl (Or.inl rfl) aj (by rfl) (by first|exact .inl rfl|exact .inr rfl|assumption)) (@az _ _ _ _ _ (@sV _ _ _ _ _ _ PassesOwn.never (@aO _ _ _ _ _ _ _ _ jh (pv 4) aj (aQ _)) (@az _ _ _ _ _ (@aN _ _ (6) _ _ _ _ gC.nd rfl (Or.inl rfl) (@aF _ _ _ _ _ _ _ _ jW (pv 2) (pv 4)) (by rfl) (by first|exact .inl rfl|exact .inr rfl|assumption)) (@az _ _ _ _ _ (@aN _ _ (7) _ _ _ _ gC.nd rfl (Or.inl rfl) (@aF _ _ _ _ _ _ _ _ jz (pv 2) (@aF _ _ _ _ _ _ _ _ fT (pv 6) (pv 4))) (by rfl) (by first|exact .inl rfl|exact .inr rfl|assumption)) (@az _ _ _ _ _ (@aN _ _ (8) _ _ _ _ gC.nd rfl (Or.inl rfl) (@aF _ _ _ _ _ _ _ _ jz (pv 3) (@aF _ _ _ _ _ _ _ _ fT (pv 6) (pv 5))) (by rfl) (by first|exact .inl rfl|exact .inr rfl|assumption)) (@az _ _ _ _ _ (@aN _ _ (2) _ _ _ _ gC.nd rfl (Or.inl rfl) (pv 4) (by rfl) (by first|exact .inl rfl|exact .inr rfl|assumption)) (@az _ _ _ _ _ (@aN _ _ (3) _ _ _ _ gC.nd rfl (Or.inl rfl) (pv 5) (by rfl) (by first|exact .inl rfl|exact .inr rfl|assumption)) (@az _ _ _ _ _ (@aN _ _ (4) _ _ _ _ gC.nd rfl (Or.inl rfl) (pv 7) (by rfl) (by first|exact .inl rfl|exact .inr rfl|assumption)) (@aE _ _ _ (@aN _ _ (5) _ _ _ _ gC.nd rfl (Or.inl rfl) (pv 8) (by rfl) (by first|exact .inl rfl|exact .inr rfl|assumption)))))))))) (@aE _ _ _ (@aU _ _ _ _ (@aF _ _ _ _ _ _ _ _ fq (pv 3) (pv 0))))))))),?_⟩
 have hp2:=hp.1
 walk_at "st"
 refine Hl (fun σ H1=>H1=H/\∃(L lt r t:Int) (x6 x7 x8:Option V),σ=[some (.int p),some (.int b),some (.int L),some (.int lt),some (.int r),some (.int t),x6,x7,x8]/\Eu p b L lt r t) (fun(σ:St) (_:Hp)=>match σ[4]? with|some (some (V.int r))=>r.toNat|_=>0) ⟨rfl,_,_,_,_,_,_,_,rfl,Eu.start hp2⟩ ?_ ?_
 ·rintro σ H1 ⟨rfl,L,lt,r,t,x6,x7,x8,rfl,E⟩
  obtain⟨t1,t2⟩:=E.tb
  have e1:=E.l0
  have e2:=E.r0
  have e3:=E.lp
  have e4:=E.rp
  walk_at "st"
  refine mw (fun c=>?_) (fun c=>?_)
  ·have c:r≠0:=of_decide_eq_true c
   have hr:0<r:=by walk_at "o"
   have q1:0<=L/r:=Int.ediv_nonneg (by walk_at "o") (by walk_at "o")
   have q2:L/r<=L:=Int.ediv_le_self _ (by walk_at "o")
   obtain⟨N1,N2⟩:=E.next hr
   walk_at "st"
   refine⟨⟨rfl,_,_,_,_,_,_,_,rfl,N1⟩,?_⟩
   show(L-L/r*r).toNat<r.toNat
   walk_at "o"
  ·have c:r=0:=by simpa using c
   subst c
   walk_at "st"
   exact q _ (Int.emod_nonneg _ (by walk_at "o")) (Int.emod_lt_of_pos _ (by walk_at "o")) (E.fin hp hb)
 ·exact fun σ H Q Q' h ⟨v,e,s,k,ek,z⟩=>⟨v,e,s,k,ek,h _ _ z⟩
theorem VV:bL ["p","a","b"] ["p","a","b"] (ay mh):=⟨rfl,rfl,rfl,by decide+kernel,rfl,by decide+kernel,by decide+kernel⟩
theorem HS(F:bE K "over" "over" mh f fd)(TR:Callee P w K mg base "inverse" 1 ["p","b"] zH):
  aS P w K mg base bw 2 f fd ["p","a","b"] sM:=by
 refine F.ok VV (fun vs H Q E h=>?_) (fun cdv A outer s H vs Q E hr h=>?_)
 ·obtain⟨p,a,b,rfl,hp,hp3,hb,a1,a2,q⟩:=h
  rfl
 obtain⟨p,a,b,rfl,hp,hp3,hb,a1,a2,q⟩:=h
 refine⟨_,(@aE _ _ _ (@aU _ _ _ _ (@aF _ _ _ _ _ _ _ _ fq (@aF _ _ _ _ _ _ _ _ fT (pv 1) (@aL _ _ _ _ _ _ _ _ _ _ TR (hr.mono (by decide)) (@aa _ _ _ _ _ (pv 0) (@aa _ _ _ _ _ (pv 2) ai rfl) rfl) (by rfl) (by decide) (by rfl) (by rfl))) (pv 0)))),?_⟩
 have hp2:=hp.1
 walk_at "st"
 refine⟨p,b,rfl,hp,hp3,hb,fun u u1 u2 ⟨k,hk⟩=>?_⟩
 walk_at "st"
 refine q _ (Int.emod_nonneg _ (by walk_at "o")) (Int.emod_lt_of_pos _ (by walk_at "o")) ⟨a*k-a*u/p*b,?_⟩
 have e:=Int.mul_ediv_add_emod (a*u) p
 have e2:a*u%p=a*u-p*(a*u/p):=by walk_at "o"
 have e3:b*(a*u)=a*(u*b):=by rw[Int.mul_comm b,Int.mul_assoc]
 rw[e2,Int.mul_sub,e3,hk,Int.mul_add,Int.mul_one,Int.mul_sub,<-Int.mul_assoc a p k,Int.mul_comm a p,Int.mul_assoc p a k,Int.mul_comm b (p*_),Int.mul_assoc p]
 walk_at "o"
theorem nF:bL ["p","pairs","word","reached","place","factor"] ["p","pairs","word"] (ay kQ):=⟨rfl,rfl,rfl,by decide+kernel,rfl,by decide+kernel,by decide+kernel⟩
theorem JJ(F:bE K "total" "total" kQ f fd):
    aS P w K mg base bw 1 f fd ["p","pairs","word"] tG:=by
  refine F.ok nF (fun vs H Q E h=>?_) (fun cdv A outer s H vs Q E hr h=>?_)
  · obtain⟨nb,p,va,vc,prs,wd,rfl,hA,hC,hp,h1,h2,q⟩:=h
    rfl
  obtain⟨nb,p,va,vc,prs,wd,rfl,hA,hC,hp,h1,h2,q⟩:=h
  refine⟨_,(@az _ _ _ _ _ (@aN _ _ (3) _ _ _ _ nF.nd rfl (Or.inl rfl) aj (by rfl) (by first|exact .inl rfl|exact .inr rfl|assumption)) (@az _ _ _ _ _ (@fZ _ _ _ _ _ _ _ _ PassesOwn.never rfl (cQ (K:=K) rfl (pv 1)) (Em rfl (@dB _ _ _ _ _ (aM (i:=4) nF.nd rfl (Or.inl rfl)) (@dB _ _ _ _ _ (aM (i:=5) nF.nd rfl (Or.inl rfl)) jo (by rfl)) (by rfl))) (@aE _ _ _ (@cP _ _ _ _ _ _ _ _ (@aO _ _ _ _ _ _ _ _ iO (@aK _ _ _ _ _ _ _ bu (pv 2) (pv 4) (fun _ _=>rfl)) eU (aQ _)) (@aE _ _ _ (@aN _ _ (3) _ _ _ _ nF.nd rfl (Or.inl rfl) (@aF _ _ _ _ _ _ _ _ fq (@aF _ _ _ _ _ _ _ _ dU (pv 3) (@aF _ _ _ _ _ _ _ _ fT (pv 5) (@aK _ _ _ _ _ _ _ bu (pv 2) (pv 4) (fun _ _=>rfl)))) (pv 0)) (by rfl) (by first|exact .inl rfl|exact .inr rfl|assumption))) cV)) (by intro _;rfl)) (@aE _ _ _ (@aU _ _ _ _ (pv 3))))),?_⟩
  obtain⟨a,xs,rfl,na,ha,da⟩:=hA.dG
  obtain⟨c,ws,rfl,nc,hc,dc⟩:=hC.dG
  have iP:=da.length
  rw[List.length_map] at iP
  have ew:=Es dc
  subst ew
  walk_at "st"
  refine R.qw (aR.of ha) ?_
  refine Aa (xs:=xs) (fun i σ H1=>H1=H/\∃(r:Int) (x y:Option V),σ=[some (.int p),some (.ref a),some (.ref c),some (.int r),x,y]/\r=aW (prs.take i) wd%p) ⟨rfl,0,none,none,rfl,by simp[aW]⟩ ?_ ?_ ?_
  · rintro i σ H1 hi ⟨rfl,_⟩
    exact aR.of ha
  · rintro i x σ H1 hx ⟨rfl,r,y,z,rfl,hr⟩
    have hi:i<prs.length:=by have:=(List.getElem?_eq_some_iff.mp hx).1;walk_at "o"
    obtain⟨x',hx',dx⟩:=da.get (i:=i) (by rw[List.getElem?_map,List.getElem?_eq_getElem hi];rfl)
    rw[hx] at hx';cases hx'
    obtain⟨t,rfl,nt,ht⟩:=UG dx
    obtain⟨g1,g2,g3⟩:=h1 _ (List.getElem_mem hi)
    have hk:prs[i].fst.toNat<wd.length:=by walk_at "o"
    have hat:bF (wd.map rB) prs[i].fst=some (rB wd[prs[i].fst.toNat]):=j5 g1 (by rw[List.getElem?_map,List.getElem?_eq_getElem hk];rfl)
    have vh:fG wd prs[i]=match wd[prs[i].fst.toNat] with|some x=>prs[i].snd*x|none=>0:=by
      unfold fG
      rw[List.getElem?_eq_getElem hk]
      cases wd[prs[i].fst.toNat]<;>rfl
    have hs2:∀x,wd[prs[i].fst.toNat]=some x->Sm x:=fun x e=>h2 x (by rw[<-e];exact List.getElem_mem hk)
    have hd:=Ce (wd:=wd) hi
    refine R.FH (d7.of ht) rfl ?_
    walk_at "st"
    refine R.pL hc hat ?_
    walk_at "st"
    generalize wd[prs[i].fst.toNat]=o at hat vh hs2⊢
    cases o with
    | none =>
      refine R.EO ?_
      walk_at "st"
      refine⟨rfl,_,_,_,rfl,?_⟩
      rw[hd,vh,hr,Int.add_zero]
    | some x =>
      have Hz:=hs2 x rfl
      refine R.CL ?_
      walk_at "st"
      refine R.pL hc hat ?_
      refine R.rI (Or.inr ⟨g3,Hz⟩) ?_
      walk_at "st"
      refine⟨rfl,_,_,_,rfl,?_⟩
      rw[hd,vh,hr,Int.emod_add_emod]
  · rintro σ H1 ⟨rfl,r,x,y,rfl,hr⟩
    walk_at "st"
    rw[iP,List.take_length] at hr
    rw[hr]
    exact q
noncomputable def rD:DF:=fun ds Φ=>∃(p rest:Int) (prs:aq) (wd:Wo),ds=[.int p,aT prs, .int rest,cT wd]/\dP p/\p<10^40/\0<=rest/\rest<p/\prs.length<=10000/\nI prs wd.length/\v5 p prs/\fX wd/\Φ true (zI (cA p prs rest wd))
theorem QM:cN rD:=by
 intro ds Φ Ψ hm z
 obtain⟨p,r,prs,wd,e,h1,h2,h3,h4,h5,h6,h7,h8,q⟩:=hm
 exact⟨p,r,prs,wd,e,h1,h2,h3,h4,h5,h6,h7,h8,z _ _ q⟩
theorem rA:bL ["p","pairs","rest","word","lost","place","factor"] ["p","pairs","rest","word"] (ay jQ):=⟨rfl,rfl,rfl,by decide+kernel,rfl,by decide+kernel,by decide+kernel⟩
theorem Ms(F:bE K "told_for" "told_for" jQ f fd)(So:Callee P w K mg base "over" 2 ["p","a","b"] sM)(MR:Callee P w K mg base "total" 1 ["p","pairs","word"] tG)(aX:mg "len"=none):
    aS P w K mg base bw 3 f fd ["p","pairs","rest","word"] (dD 4 rD):=by
  refine F.ok rA (fun vs H Q E h=>h.1) (fun cdv A outer s H vs Q E hr h=>?_)
  obtain⟨_,nb,ds,hlive,hds,hF⟩:=h
  obtain⟨Φ,aA,hF⟩:∃Φ:Pd,(∀f d v H',Φ f d->bI H H'->ah (fun a=>nb a\/(f=true/\H a≠none)) H' d v->Q v H')/\rD ds Φ:=⟨_,fun f d v H' q=>q v H',hF⟩
  obtain⟨p,rest,prs,wd,rfl,hp,jL,r0,r1,hl,hP,CC,hW,q⟩:=hF
  refine⟨_,(@az _ _ _ _ _ (oB (i:=4) rA.nd rfl rfl (bJ.of (show cI (ay jQ) ["p","pairs","rest","word","lost","place","factor"] _ ["place","factor","word"] [none,none,some 3]=true by decide+kernel)) (cQ (K:=K) rfl (pv 1)) (fun _ _ _ _=>⟨(@jO _ (K) _ _ _ (2) _ rfl rfl (@dB _ _ _ _ _ (aM (i:=0) (by show List.Nodup (["place","factor","word"]:List Str);decide+kernel) rfl (Or.inl rfl)) (@dB _ _ _ _ _ (aM (i:=1) (by show List.Nodup (["place","factor","word"]:List Str);decide+kernel) rfl (Or.inl rfl)) jo (by rfl)) (by rfl)) (by rfl) (by rfl)),(gY (@aO _ _ _ _ _ _ _ _ uC (@aK _ _ _ _ _ _ (bU K) bu (pv 2) (pv 0) (fun _ _=>rfl)) eU (aQ _))),(@gv _ _ _ _ _ (@aa _ _ _ _ _ (pv 0) (@aa _ _ _ _ _ (pv 1) ai rfl) rfl))⟩)) (@az _ _ _ _ _ (@cP _ _ _ _ _ _ _ _ (@aO _ _ _ _ _ _ _ _ jh (@bN _ _ _ _ _ _ _ _ (cC K) cY rfl aX PySem.boot_len (@aa _ _ _ _ _ (pv 4) ai rfl) (by decide) (by decide) (by rfl) (by rfl)) aj (aQ _)) (@aE _ _ _ (@aU _ _ _ _ eU)) cV) (@az _ _ _ _ _ (@aN _ _ (5) _ _ _ _ rA.nd rfl (Or.inl rfl) (@aK _ _ _ _ _ _ (eN K) fP (@aK _ _ _ _ _ _ (bU K) bu (pv 4) aj (fun _ _=>rfl)) aj (fun _ _=>rfl)) (by rfl) (by first|exact .inl rfl|exact .inr rfl|assumption)) (@az _ _ _ _ _ (@aN _ _ (6) _ _ _ _ rA.nd rfl (Or.inl rfl) (@aK _ _ _ _ _ _ (eN K) fP (@aK _ _ _ _ _ _ (bU K) bu (pv 4) aj (fun _ _=>rfl)) aj (fun _ _=>rfl)) (by rfl) (by first|exact .inl rfl|exact .inr rfl|assumption)) (@aE _ _ _ (@aU _ _ _ _ (@gv _ _ _ _ _ (@aa _ _ _ _ _ (pv 5) (@aa _ _ _ _ _ (@aL _ _ _ _ _ _ _ _ _ _ So (hr.mono (by decide)) (@aa _ _ _ _ _ (pv 0) (@aa _ _ _ _ _ (@aF _ _ _ _ _ _ _ _ jz (pv 2) (@aL _ _ _ _ _ _ _ _ _ _ MR (hr.mono (by decide)) (@aa _ _ _ _ _ (pv 0) (@aa _ _ _ _ _ (pv 1) (@aa _ _ _ _ _ (pv 3) ai rfl) rfl) rfl) (by rfl) (by decide) (by rfl) (by rfl))) (@aa _ _ _ _ _ (pv 6) ai rfl) rfl) rfl) (by rfl) (by decide) (by rfl) (by rfl)) ai rfl) rfl)))))))),?_⟩
  refine Sv.i6 hlive hds aA (ρ:=[.d false _, .d false _, .d false _, .d false _, .no, .no, .no]) rfl ?_
  clear aA hds
  have gb:(prs.map pairD).length=prs.length:=List.length_map ..
  have p2:=hp.1
  walk_at "dt"
  refine ao.ev (ao.fR (by decide) rfl ?_)
  walk_at "dt"
  refine fun v=>⟨true,fun i ds=>ds=(bW wd (prs.take i)).map pairD,rfl,?_,?_⟩
  · rintro i d ds hd hl' rfl
    obtain⟨pr,bP,rfl⟩:=fK hd
    obtain⟨g1,g2,g3⟩:=hP pr (List.mem_of_getElem? bP)
    obtain⟨o,ho,hat⟩:=ic (xs:=wd) br g1 g2 rfl
    walk_at "dt"
    refine⟨by walk_at "wk",?_⟩
    walk_at "dt"
    rw[nj]
    cases o with
    | none =>
      walk_at "dt"
      refine⟨fun _=>rfl,?_⟩
      show _=List.map pairD (bW wd (prs.take (i+1)))
      rw[take_snoc bP,Ey,if_pos ho,List.map_append]
      rfl
    | some x =>
      walk_at "dt"
      show _=List.map pairD (bW wd (prs.take (i+1)))
      rw[take_snoc bP,Ey,if_neg (by rw[ho];simp)]
  rintro ds hl' rfl
  rw[gb,List.take_length]
  walk_at "dt"
  have key:∀L,bW wd prs=L->cA p prs rest wd=(match L with|[pr]=>some (pr.1,sol p pr.2 (rest-aW prs wd%p))|_=>none):=fun L e=>by unfold cA;rw[e]<;>rfl
  cases hL:bW wd prs with
  | nil =>
    walk_at "dt"
    rw[key _ hL] at q
    exact q
  | cons pr r =>
    cases r with
    | cons pr2 r2 =>
      have:¬((List.map pairD (pr::pr2::r2)).length:Int)=1:=by simp;walk_at "o"
      walk_at "dt"
      rw[key _ hL] at q
      exact q
    | nil =>
      have hm:=(rS (wd:=wd) (prs:=prs) (pr:=pr) (by rw[hL];simp)).1
      have d0:=Int.emod_nonneg (aW prs wd) (show p≠0 by walk_at "o")
      have d1:=Int.emod_lt_of_pos (aW prs wd) (show 0<p by walk_at "o")
      walk_at "dt"
      refine Ev.over ?_
      walk_at "dt"
      refine Ev.total ?_
      walk_at "dt"
      refine⟨p,prs,wd,rfl,by walk_at "o",hP,hW,?_⟩
      walk_at "dt"
      refine⟨p,rest-aW prs wd%p,pr.2,rfl,hp,jL,CC pr hm,by walk_at "o",by walk_at "o",fun x x0 x1 hx=>?_⟩
      walk_at "dt"
      rw[key _ hL] at q
      have e:=zD hp (CC pr hm) x0 x1 hx
      rw[e]
      exact q
noncomputable def qQ:DF:=fun ds Φ=>∃(p n c:Int) (cs:List aq) (wd:Wo),ds=[dO p n cs,cT wd, .int c]/\e7 p cs wd.length/\fX wd/\0<=c/\c<cs.length/\Φ true (zI (cA p (cs.getD c.toNat []) 0 wd))
theorem KI:cN qQ:=by
 intro ds Φ Ψ hm z
 obtain⟨p,n,c,cs,wd,e,h1,h2,h3,h4,q⟩:=hm
 exact⟨p,n,c,cs,wd,e,h1,h2,h3,h4,z _ _ q⟩
theorem T9:bL ["net","word","c"] ["net","word","c"] (ay lB):=⟨rfl,rfl,rfl,by decide+kernel,rfl,by decide+kernel,by decide+kernel⟩
theorem Kh(F:bE K "told_by" "told_by" lB f fd)(Km:Callee P w K mg base "told_for" 3 ["p","pairs","rest","word"] (dD 4 rD)):
  aS P w K mg base bw 4 f fd ["net","word","c"] (dD 3 qQ):=by
 refine F.ok T9 (fun vs H Q E h=>h.1) (fun cdv A outer s H vs Q E hr h=>?_)
 obtain⟨_,nb,ds,hlive,hds,hF⟩:=h
 obtain⟨Φ,aA,hF⟩:∃Φ:Pd,(∀f d v H',Φ f d->bI H H'->ah (fun a=>nb a\/(f=true/\H a≠none)) H' d v->Q v H')/\qQ ds Φ:=⟨_,fun f d v H' q=>q v H',hF⟩
 obtain⟨p,n,c,cs,wd,rfl,hN,hW,c0,c1,q⟩:=hF
 refine⟨_,(@aE _ _ _ (@aU _ _ _ _ (@aL _ _ _ _ _ _ _ _ _ _ Km (hr.mono (by decide)) (@aa _ _ _ _ _ (@aK _ _ _ _ _ _ (eN K) fP (pv 0) aj (fun _ _=>rfl)) (@aa _ _ _ _ _ (@aK _ _ _ _ _ _ (bU K) bu (@aK _ _ _ _ _ _ (eN K) fP (pv 0) aj (fun _ _=>rfl)) (pv 2) (fun _ _=>rfl)) (@aa _ _ _ _ _ aj (@aa _ _ _ _ _ (pv 1) ai rfl) rfl) rfl) rfl) (by rfl) (by decide) (by rfl) (by rfl)))),?_⟩
 refine Sv.i6 hlive hds aA (ρ:=[.d false _, .d false _, .d false _]) rfl ?_
 clear aA hds
 obtain⟨prs,e1,e2,e3,e4,e5⟩:=hN.at c0 c1
 have p2:=hN.1.1
 have hat:bF (cs.map aT) c=some (aT prs):=j5 c0 (by rw[List.getElem?_map,e1];rfl)
 walk_at "dt"
 refine Ev.jb QM ?_
 walk_at "dt"
 rw[e2] at q
 exact⟨rfl,p,0,prs,wd,rfl,hN.1,hN.2.1,by walk_at "o",by walk_at "o",by walk_at "o",e4,e5,hW,q⟩
noncomputable def qP:DF:=fun ds Φ=>∃(p n:Int) (cs:List aq) (wd:Wo),ds=[dO p n cs,cT wd]/\e7 p cs wd.length/\fX wd/\wd.length<64/\Φ true (iw (aJ p cs wd))
theorem VI:cN qP:=by
 intro ds Φ Ψ hm z
 obtain⟨p,n,cs,wd,e,h1,h2,h3,q⟩:=hm
 exact⟨p,n,cs,wd,e,h1,h2,h3,z _ _ q⟩
theorem qG:bL ["net","word","found","c","told"] ["net","word"] (ay j4):=⟨rfl,rfl,rfl,by decide+kernel,rfl,by decide+kernel,by decide+kernel⟩
theorem S8(F:bE K "round_of" "round_of" j4 f fd)(MV:Callee P w K mg base "told_by" 4 ["net","word","c"] (dD 3 qQ))(bq:mg "range"=none)(aX:mg "len"=none)(gJ:mg "sorted"=none):
    aS P w K mg base bw 5 f fd ["net","word"] (dD 2 qP):=by
  refine F.ok qG (fun vs H Q E h=>h.1) (fun cdv A outer s H vs Q E hr h=>?_)
  obtain⟨_,nb,ds,hlive,hds,hF⟩:=h
  obtain⟨Φ,aA,hF⟩:∃Φ:Pd,(∀f d v H',Φ f d->bI H H'->ah (fun a=>nb a\/(f=true/\H a≠none)) H' d v->Q v H')/\qP ds Φ:=⟨_,fun f d v H' q=>q v H',hF⟩
  obtain⟨p,n,cs,wd,rfl,hN,hW,hl,q⟩:=hF
  refine⟨_,(@az _ _ _ _ _ (@aN _ _ (2) _ _ _ _ qG.nd rfl (Or.inr rfl) Ep (by rfl) (by first|exact .inl rfl|exact .inr rfl|assumption)) (@az _ _ _ _ _ (@fZ _ _ _ _ _ _ _ _ PassesOwn.never rfl (@fE _ _ _ _ _ _ rfl bq (@aa _ _ _ _ _ (@bN _ _ _ _ _ _ _ _ (cC K) cY rfl aX PySem.boot_len (@aa _ _ _ _ _ (@aK _ _ _ _ _ _ (eN K) fP (pv 0) aj (fun _ _=>rfl)) ai rfl) (by decide) (by decide) (by rfl) (by rfl)) ai rfl) (by rfl)) (aM (i:=3) qG.nd rfl (Or.inl rfl)) (@az _ _ _ _ _ (@aN _ _ (4) _ _ _ _ qG.nd rfl (Or.inl rfl) (@aL _ _ _ _ _ _ _ _ _ _ MV (hr.mono (by decide)) (@aa _ _ _ _ _ (pv 0) (@aa _ _ _ _ _ (pv 1) (@aa _ _ _ _ _ (pv 3) ai rfl) rfl) rfl) (by rfl) (by decide) (by rfl) (by rfl)) (by rfl) (by first|exact .inl rfl|exact .inr rfl|assumption)) (@aE _ _ _ (@cP _ _ _ _ _ _ _ _ (PW.pt (gk (@aO _ _ _ _ _ _ _ _ iO (pv 4) eU (aQ _)) (gH (@aO _ _ _ _ _ _ _ _ (Ou hr.units) (@aK _ _ _ _ _ _ (eN K) fP (pv 4) aj (fun _ _=>rfl)) (pv 2) (by with_unfolding_all rfl))))) (@aE _ _ _ (@ia _ _ _ _ _ _ (@gv _ _ _ _ _ (@aa _ _ _ _ _ (@aK _ _ _ _ _ _ (eN K) fP (pv 4) aj (fun _ _=>rfl)) (@aa _ _ _ _ _ (pv 3) (@aa _ _ _ _ _ (@aK _ _ _ _ _ _ (eN K) fP (pv 4) aj (fun _ _=>rfl)) ai rfl) rfl) rfl)) (i7 (pv 2) (@aK _ _ _ _ _ _ (eN K) fP (pv 4) aj (fun _ _=>rfl)) set_dict) (by rfl) (by rfl) (by rfl))) cV))) (by intro _;rfl)) (@aE _ _ _ (@aU _ _ _ _ (dJ (bJ.of (show cI (ay j4) ["net","word","found","c","told"] _ ["place","found"] [none,some 2]=true by decide+kernel)) (cQ (K:=K) rfl (@bN _ _ _ _ _ _ _ _ (pM) (BQ rfl) rfl gJ PyProof.Rows.boot_sorted (@aa _ _ _ _ _ (pv 2) ai rfl) (by decide) (by decide) (by rfl) (by rfl))) (fun _ _ _ _=>⟨(aM (i:=0) (by show List.Nodup (["place","found"]:List Str);decide+kernel) rfl (Or.inl rfl)),fF,(@aK _ _ _ _ _ _ (zB) Sy (pv 1) (pv 0) (fun _ _=>rfl))⟩)))))),?_⟩
  refine Sv.i6 hlive hds aA (ρ:=[.d false _, .d false _, .no, .no, .no]) rfl ?_
  clear aA hds
  have p2:=hN.1.1
  have hcl:=hN.2.2.1
  have lz:((cs.map aT).length:Int)=cs.length:=by rw[List.length_map]
  refine Sv.seq ?_
  refine Sv.Dr (mX.new ?_)
  intro A2
  refine Sv.seq ?_
  refine Sv.oV ?_
  refine Ev.gZ ?_
  refine Ev.DH ?_
  refine Ev.var rfl ?_
  refine⟨_,rfl,Ev.int ⟨_,rfl,_,rfl,_, .inl rfl,_,rfl,by walk_at "o",by walk_at "o",?_⟩⟩
  rw[show((cs.map aT).length:Int).toNat=cs.length by walk_at "o"]
  refine⟨fun i ρ=>∃(x3 x4:Sl),ρ=[.d false (dO p n cs), .d false (cT wd), .bA A2 true ((bX p cs wd i).map kM),x3,x4],⟨_,_,rfl⟩,?_,?_⟩
  · rintro i d ρ' ⟨hi,rfl⟩ ⟨x3,x4,rfl⟩
    have hfl:=zF (p:=p) (cs:=cs) (wd:=wd) (by walk_at "o") hN.rg (i:=i) (by walk_at "o")
    walk_at "dt"
    refine Ev.jb KI ?_
    walk_at "dt"
    refine⟨rfl,p,n,0+(i:Int),cs,wd,rfl,hN,hW,by walk_at "o",by walk_at "o",?_⟩
    rw[show(0+(i:Int)).toNat=i by walk_at "o"]
    have ef:bX p cs wd (i+1)=match cA p (cs.getD i []) 0 wd with
      |some (a,x)=>if a∈(bX p cs wd i).map (·.1) then bX p cs wd i else bX p cs wd i++[(a,(i:Int),x)]
      |none=>bX p cs wd i:=by rw[bX]<;>rfl
    cases ht:cA p (cs.getD i []) 0 wd with
    | none =>
      rw[ht] at ef
      dsimp only at ef
      show Gv _ _ _ _ PyData.none _
      walk_at "dt"
      show∃(x3 x4:Sl),(_:Rh)=[Sl.d false (dO p n cs),Sl.d false (cT wd),Sl.bA A2 true ((bX p cs wd (i+1)).map kM),x3,x4]
      rw[ef]
      exact⟨_,_,rfl⟩
    | some ax =>
      obtain⟨a,x⟩:=ax
      rw[ht] at ef
      dsimp only at ef
      show Gv _ _ _ _ (PyData.tuple [.int a, .int x]) _
      walk_at "dt"
      refine Ev.Ex rfl ?_
      walk_at "dt"
      rw[Bool.bne_true]
      by_cases c:a∈(bX p cs wd i).map (·.1)
      · rw[if_pos c] at ef
        have:fS ((bX p cs wd i).map kM) a=true:=by rw[ug,xA];exact c
        rw[this]
        walk_at "dt"
        show∃(x3 x4:Sl),(_:Rh)=[Sl.d false (dO p n cs),Sl.d false (cT wd),Sl.bA A2 true ((bX p cs wd (i+1)).map kM),x3,x4]
        rw[ef]
        exact⟨_,_,rfl⟩
      · rw[if_neg c] at ef
        have:fS ((bX p cs wd i).map kM) a=false:=by rw[<-Bool.not_eq_true,ug,xA];exact c
        rw[this]
        generalize oG:(dZ _ (jN (aZ 2) _ _):TS)=tl
        walk_at "dt"
        subst oG
        refine Sv.Ah rfl ?_
        walk_at "dt"
        refine⟨by rw[List.length_map];walk_at "o",?_⟩
        show∃(x3 x4:Sl),(_:Rh)=[Sl.d false (dO p n cs),Sl.d false (cT wd),Sl.bA A2 true ((bX p cs wd (i+1)).map kM),x3,x4]
        rw[ef,List.map_append]
        unfold lF
        rw[this,show(0+(i:Int))=i by walk_at "o"]
        exact⟨_,_,rfl⟩
  · rintro ρ' ⟨x3,x4,rfl⟩
    have hfl:=zF (p:=p) (cs:=cs) (wd:=wd) (by walk_at "o") hN.rg (i:=cs.length) (Nat.le_refl _)
    refine Sv.ret (ao.ev (ao.fR (by decide) rfl ?_))
    refine ao.ev (ao.Bj rfl (by rw[List.length_map];walk_at "o") fun rs hrs dQ=>?_)
    rw[xA] at dQ
    obtain⟨ms,rfl,hms⟩:=tX dQ _ rfl
    have hmr:=GV hms hrs
    have hml:ms.length<=wd.length:=by rw[hms.length_eq];exact hfl
    refine⟨_,rfl,by rw[List.length_map,List.length_map];walk_at "o",fun v=>⟨true,fun i ds=>ds=(ms.take i).map rj,rfl,?_,?_⟩⟩
    · rintro i d ds hd hl' rfl
      obtain⟨a,ha,rfl⟩:=fK hd
      obtain⟨m,hm,rfl⟩:=fK ha
      have hv:=AM (jV (p:=p) (cs:=cs) (wd:=wd) cs.length) (hms.mem_iff.mp (List.mem_of_getElem? hm))
      walk_at "dt"
      refine⟨by walk_at "wk",?_⟩
      walk_at "dt"
      refine Ev.Vx rfl ?_
      walk_at "dt"
      refine⟨_,hv,fun _=>rfl,?_⟩
      show _=List.map _ (List.take (i+1) ms)
      rw[take_snoc hm,List.map_append]
      rfl
    · rintro ds hl' rfl
      rw[List.length_map,List.length_map,List.take_length,hmr,Bool.true_or]
      exact q
noncomputable def pQ:DF:=fun ds Φ=>∃(p n:Int) (cs:List aq),ds=[dO p n cs]/\cs.length<=10000/\(∀prs∈cs,prs.length<=10000)/\∀f,Φ f (dO p n cs)
theorem Pw:cN pQ:=by
 intro ds Φ Ψ hm z
 obtain⟨p,n,cs,e,h1,h2,q⟩:=hm
 exact⟨p,n,cs,e,h1,h2,fun f=>z _ _ (q f)⟩
theorem Mm:bL ["net"] ["net"] (ay j7):=⟨rfl,rfl,rfl,by decide+kernel,rfl,by decide+kernel,by decide+kernel⟩
theorem QW(F:bE K "copied" "copied" j7 f fd)(ck:mg "list"=none):
  aS P w K mg base bw 1 f fd ["net"] (dD 1 pQ):=by
 refine F.ok Mm (fun vs H Q E h=>h.1) (fun cdv A outer s H vs Q E hr h=>?_)
 obtain⟨_,nb,ds,hlive,hds,hF⟩:=h
 obtain⟨Φ,aA,hF⟩:∃Φ:Pd,(∀f d v H',Φ f d->bI H H'->ah (fun a=>nb a\/(f=true/\H a≠none)) H' d v->Q v H')/\pQ ds Φ:=⟨_,fun f d v H' q=>q v H',hF⟩
 obtain⟨p,n,cs,rfl,hl,hl2,q⟩:=hF
 refine⟨_,(@aE _ _ _ (@aU _ _ _ _ (@gv _ _ _ _ _ (@aa _ _ _ _ _ (@aK _ _ _ _ _ _ (eN K) fP (pv 0) aj (fun _ _=>rfl)) (@aa _ _ _ _ _ (@aK _ _ _ _ _ _ (eN K) fP (pv 0) aj (fun _ _=>rfl)) (@aa _ _ _ _ _ (dJ (bJ.of (show cI (ay j7) ["net"] _ ["pairs"] [none]=true by decide+kernel)) (cQ (K:=K) rfl (@aK _ _ _ _ _ _ (eN K) fP (pv 0) aj (fun _ _=>rfl))) (fun _ _ _ _=>⟨(aM (i:=0) (by show List.Nodup (["pairs"]:List Str);decide+kernel) rfl (Or.inl rfl)),fF,(@eO _ _ _ _ _ _ _ _ (g9 K) jK rfl ck PyProof.Rows.boot_list (@aa _ _ _ _ _ (pv 0) ai rfl) (by decide) (by decide) (by rfl) (by rfl))⟩)) ai rfl) rfl) rfl)))),?_⟩
 refine Sv.i6 hlive hds aA (ρ:=[.d false _]) rfl ?_
 clear aA hds
 walk_at "dt"
 refine ao.ev (ao.fR (by decide) rfl ?_)
 walk_at "dt"
 refine⟨by rw[List.length_map];exact hl,fun v=>⟨false,fun i ds=>ds=(cs.take i).map aT,rfl,?_,?_⟩⟩
 ·rintro i d ds hd hl' rfl
  obtain⟨prs,bh,rfl⟩:=fK hd
  walk_at "dt"
  refine⟨by walk_at "wk",?_⟩
  walk_at "dt"
  refine⟨fun z=>(by cases z),?_⟩
  show _=List.map aT (List.take (i+1) cs)
  rw[take_snoc bh,List.map_append]
  rfl
 ·rintro ds hl' rfl
  rw[List.length_map,List.take_length]
  walk_at "dt"
  exact q _
noncomputable def ow(C:Addr):CF:=fun c ds Φ=>∃(x dx l:Addr) (p n:Int) (cs:List aq) (wd:Wo),c=bx C x dx (gx (dO p n cs) l wd)/\ds=[]/\e7 p cs wd.length/\fX wd/\wd.length<64/\Φ (bx C x dx (gx (dO p n cs) l (putAll wd (aJ p cs wd)))) true (iw (aJ p cs wd))
theorem B4{C:Addr}:kI (ow C):=by
 intro c ds Φ Ψ h z
 obtain⟨x,dx,l,p,n,cs,wd,e1,e2,h1,h2,h3,q⟩:=h
 exact⟨x,dx,l,p,n,cs,wd,e1,e2,h1,h2,h3,z _ _ _ q⟩
theorem m8:bL ["self","found","place","c","letter"] ["self"] (ay lq):=⟨rfl,rfl,rfl,by decide+kernel,rfl,by decide+kernel,by decide+kernel⟩
theorem N9(F:bE K "step" "Mender.step" lq f fd){aP:Addr}(fU:cX K aP)(jv:ez K aP "net")(gV:ez K aP "letters")(Uo:Callee P w K mg base "round_of" 5 ["net","word"] (dD 2 qP)):
  aS P w K mg base bw 6 f fd ["self"] (fL 1 (ow aP)):=by
 refine F.ok m8 (fun vs H Q E h=>h.1) (fun cdv A outer s H vs Q E hr h=>?_)
 obtain⟨_,nb,c,ws,ds,rfl,hlive,iz,hcf,jM,hds,hF⟩:=h
 obtain⟨Φ,aA,hF⟩:∃Φ:Cu->Pd,(∀c' f d v H',Φ c' f d->kP c c' H H'->c'.P (fun a=>nb a\/a∈c'.F) H'->ah (fun a=>nb a\/a∈c'.F\/(f=true/\H a≠none)) H' d v->Q v H')/\ow aP c ds Φ:=⟨_,fun c' f d v H' q=>q v H',hF⟩
 obtain⟨x,dx,l,p,n,cs,wd,rfl,rfl,hN,hW,hl,q⟩:=hF
 refine⟨_,(@az _ _ _ _ _ (@aN _ _ (1) _ _ _ _ m8.nd rfl (Or.inl rfl) (@aL _ _ _ _ _ _ _ _ _ _ Uo (hr.mono (by decide)) (@aa _ _ _ _ _ (@qX _ _ _ _ _ (pv 0) rfl) (@aa _ _ _ _ _ (@qX _ _ _ _ _ (pv 0) rfl) ai rfl) rfl) (by rfl) (by decide) (by rfl) (by rfl)) (by rfl) (by first|exact .inl rfl|exact .inr rfl|assumption)) (@az _ _ _ _ _ (@fZ _ _ _ _ _ _ _ _ PassesOwn.never rfl (cQ (K:=K) rfl (pv 1)) (@jO _ (K) _ _ _ (3) _ rfl rfl (@dB _ _ _ _ _ (aM (i:=2) m8.nd rfl (Or.inl rfl)) (@dB _ _ _ _ _ (aM (i:=3) m8.nd rfl (Or.inl rfl)) (@dB _ _ _ _ _ (aM (i:=4) m8.nd rfl (Or.inl rfl)) jo (by rfl)) (by rfl)) (by rfl)) (by rfl) (by rfl)) (@aE _ _ _ (@ia _ _ _ _ _ _ (pv 4) (i7 (@qX _ _ _ _ _ (pv 0) rfl) (pv 2) set_list) (by rfl) (by rfl) (by rfl))) (by intro _;rfl)) (@aE _ _ _ (@aU _ _ _ _ (pv 1))))),?_⟩
 refine Sv.rm hlive iz hcf jM hds aA (ρ:=[.cu _, .no, .no, .no, .no]) rfl ?_
 clear aA hds
 have p2:=hN.1.1
 refine Sv.seq ?_
 refine Sv.asg ?_
 refine Ev.Jl VI ?_
 refine gR.cons (Ev.fld rfl fU jv rfl ?_)
 refine gR.fld rfl fU gV rfl ?_
 refine gR.nil ?_
 refine⟨rfl,p,n,cs,wd,rfl,hN,hW,hl, .inl rfl,?_⟩
 refine Gv.name ?_
 refine Sv.seq ?_
 refine Sv.forL ?_
 refine Ev.var rfl ?_
 refine⟨_,rfl,fun v=>⟨fun i ρ=>∃(x2 x3 x4:Sl),ρ=[.cu (bx aP x dx (gx (dO p n cs) l (putAll wd ((aJ p cs wd).take i)))), .d true (iw (aJ p cs wd)),x2,x3,x4],⟨_,_,_,rfl⟩,?_,?_⟩⟩
 ·rintro i d ρ hd ⟨x2,x3,x4,rfl⟩
  obtain⟨m,hm,rfl⟩:=fK hd
  obtain⟨b1,b2,b3,b4,b5⟩:=m6 (by walk_at "o") (List.mem_of_getElem? hm) hN.rg
  generalize oG:(dZ (aZ 4) _:TS)=tl
  walk_at "dt"
  subst oG
  refine Sv.Ue rfl fU gV rfl ?_
  walk_at "dt"
  refine⟨_,m.1.toNat,rfl,Dl b1 (by rw[List.length_map,ja];walk_at "o"),?_⟩
  have e:((putAll wd ((aJ p cs wd).take i)).map br).set m.1.toNat (.int m.2.2)=(putAll wd ((aJ p cs wd).take (i+1))).map br:=by
   rw[take_snoc hm,mE]
   show _=((putAll wd ((aJ p cs wd).take i)).set m.1.toNat (some m.2.2)).map br
   rw[List.map_set]
   rfl
  rw[e,Ig]
  exact⟨_,_,_,rfl⟩
 ·rintro ρ ⟨x2,x3,x4,rfl⟩
  rw[List.length_map,List.take_length]
  refine Sv.uK (dN.of ?_)
  refine Ev.var rfl ?_
  intro aI v' H' hv
  exact⟨_,_,_,rfl,⟨rfl,rfl,fun a m=>m⟩,q,hv⟩
noncomputable def mL(C:Addr):CF:=fun c ds Φ=>∃(x dx l:Addr) (p n:Int) (cs:List aq) (wd:Wo),c=bx C x dx (gx (dO p n cs) l wd)/\ds=[]/\e7 p cs wd.length/\fX wd/\wd.length<64/\Φ (bx C x dx (gx (dO p n cs) l (dg p cs wd))) true (.list ((eK p cs wd).map iw))
theorem O3{C:Addr}:kI (mL C):=by
 intro c ds Φ Ψ h z
 obtain⟨x,dx,l,p,n,cs,wd,e1,e2,h1,h2,h3,q⟩:=h
 exact⟨x,dx,l,p,n,cs,wd,e1,e2,h1,h2,h3,z _ _ _ q⟩
theorem o7:bL ["self","rounds","found"] ["self"] (ay lG):=⟨rfl,rfl,rfl,by decide+kernel,rfl,by decide+kernel,by decide+kernel⟩
theorem Tg(F:bE K "mend" "Mender.mend" lG f fd){aP:Addr}(DY:jE P w K mg base aP "step" 6 ["self"] (fL 1 (ow aP))):
  aS P w K mg base bw 7 f fd ["self"] (fL 1 (mL aP)):=by
 refine F.ok o7 (fun vs H Q E h=>h.1) (fun cdv A outer s H vs Q E hr h=>?_)
 obtain⟨_,nb,c,ws,ds,rfl,hlive,iz,hcf,jM,hds,hF⟩:=h
 obtain⟨Φ,aA,hF⟩:∃Φ:Cu->Pd,(∀c' f d v H',Φ c' f d->kP c c' H H'->c'.P (fun a=>nb a\/a∈c'.F) H'->ah (fun a=>nb a\/a∈c'.F\/(f=true/\H a≠none)) H' d v->Q v H')/\mL aP c ds Φ:=⟨_,fun c' f d v H' q=>q v H',hF⟩
 obtain⟨x,dx,l,p,n,cs,wd,rfl,rfl,hN,hW,hl,q⟩:=hF
 refine⟨_,(@az _ _ _ _ _ (@aN _ _ (1) _ _ _ _ o7.nd rfl (Or.inl rfl) (@eS _ _ _ _ ai) (by rfl) (by first|exact .inl rfl|exact .inr rfl|assumption)) (@az _ _ _ _ _ (@aN _ _ (2) _ _ _ _ o7.nd rfl (Or.inl rfl) (@rL _ _ _ _ _ _ _ _ _ _ _ DY (pv 0) (hr.mono (by decide)) (by rfl)) (by rfl) (by first|exact .inl rfl|exact .inr rfl|assumption)) (@az _ _ _ _ _ (@sV _ _ _ _ _ _ PassesOwn.never (@aO _ _ _ _ _ _ _ _ (nQ hr.units) (pv 2) (@eS _ _ _ _ ai) (aQ _)) (@az _ _ _ _ _ (@uW _ _ _ _ (qm PySem.F.plainAttrs_list PySem.F.slot_list_append PySem.F.type_list_append sL (pv 1) (@aa _ _ _ _ _ (pv 2) ai rfl)) (by rfl)) (@aE _ _ _ (@aN _ _ (2) _ _ _ _ o7.nd rfl (Or.inl rfl) (@rL _ _ _ _ _ _ _ _ _ _ _ DY (pv 0) (hr.mono (by decide)) (by rfl)) (by rfl) (by first|exact .inl rfl|exact .inr rfl|assumption))))) (@aE _ _ _ (@aU _ _ _ _ (pv 1)))))),?_⟩
 refine Sv.rm hlive iz hcf jM hds aA (ρ:=[.cu _, .no, .no]) rfl ?_
 clear aA hds
 have p2:=hN.1.1
 have key:∀{w:Wo},w.length=wd.length->e7 p cs w.length:=fun{w} h=>by rw[h];exact hN
 refine Sv.seq ?_
 refine Sv.Ec ?_
 intro A1
 refine Sv.seq ?_
 refine Sv.wc (dN.qC B4 rfl rfl (bx.is rfl) ?_)
 refine Av.nil ?_
 refine⟨rfl,x,dx,l,p,n,cs,wd,rfl,rfl,hN,hW,hl,?_⟩
 refine Gv.name ?_
 refine Sv.seq ?_
 refine Sv.Bo (fun ρ=>∃(w:Wo) (st:List (List bK)),w.length=wd.length/\fX w/\st++eK p cs w=eK p cs wd/\dg p cs w=dg p cs wd/\ρ=[.cu (bx aP x dx (gx (dO p n cs) l (putAll w (aJ p cs w)))), .own A1 true (st.map iw), .d true (iw (aJ p cs w))]) (fun(ρ:Rh)=>match ρ[1]? with|some (Sl.own _ _ ds)=>wd.length-ds.length|_=>0) ⟨wd,[],rfl,hW,rfl,rfl,rfl⟩ ?_
 rintro ρ' ⟨w,st,hwl,hwW,h1,h2,rfl⟩
 have mV:=key hwl
 walk_at "dt"
 refine⟨HG _,Iv,_,rfl,?_⟩
 rw[List.map_nil,RH]
 by_cases c:aJ p cs w=[]
 ·rw[if_neg (by rw[decide_eq_true c];simp)]
  rw[vS c,List.append_nil] at h1
  rw[Ph c] at h2
  subst h1 h2
  rw[c]
  refine Sv.yr 1 rfl ?_
  refine Sv.uK (dN.of ?_)
  refine Ev.var rfl ?_
  intro aI v' H' hv
  exact⟨_,_,_,rfl,⟨rfl,rfl,fun a m=>m⟩,q,hv⟩
 rw[if_pos (by rw[decide_eq_false c];rfl)]
 have hl':=Rq (p:=p) (cs:=cs) (wd:=wd)
 rw[<-h1,p5 (by walk_at "o") mV.rg c,List.length_append,List.length_cons] at hl'
 rw[p5 (by walk_at "o") mV.rg c] at h1
 rw[Jh (by walk_at "o") mV.rg c] at h2
 have LR:e7 p cs (putAll w (aJ p cs w)).length:=by rw[ja];exact mV
 have EC:=M7 mV hwW
 refine Sv.seq ?_
 refine Sv.append rfl ?_
 refine Ev.var rfl ?_
 refine⟨by rw[List.length_map];walk_at "o",?_⟩
 refine Sv.wc (dN.qC B4 rfl rfl (bx.is rfl) ?_)
 refine Av.nil ?_
 refine⟨rfl,x,dx,l,p,n,cs,putAll w (aJ p cs w),rfl,rfl,LR,EC,by rw[ja,hwl];exact hl,?_⟩
 refine Gv.name ?_
 refine⟨⟨putAll w (aJ p cs w),st++[aJ p cs w],by rw[ja];exact hwl,EC,by rw[List.append_assoc];exact h1,h2,by rw[List.map_append];rfl⟩,?_⟩
 show wd.length-(List.map iw st++[_]).length<wd.length-(List.map iw st).length
 rw[List.length_append,List.length_singleton,List.length_map]
 walk_at "o"
noncomputable def oS(C:Addr):CF:=fun c ds Φ=>∃(x dx l:Addr) (nd:PyData) (wd:Wo),c=bx C x dx (gx nd l wd)/\ds=[]/\Φ (bx C x dx (gx nd l wd)) true (cT wd)
theorem Q3{C:Addr}:kI (oS C):=by
 intro c ds Φ Ψ h z
 obtain⟨x,dx,l,nd,wd,e1,e2,q⟩:=h
 exact⟨x,dx,l,nd,wd,e1,e2,z _ _ _ q⟩
theorem Us:bL ["self"] ["self"] (ay lI):=⟨rfl,rfl,rfl,by decide+kernel,rfl,by decide+kernel,by decide+kernel⟩
theorem Jr(F:bE K "word" "Mender.word" lI f fd){aP:Addr}(fU:cX K aP)(gV:ez K aP "letters")(ck:mg "list"=none):
  aS P w K mg base bw 1 f fd ["self"] (fL 1 (oS aP)):=by
 refine F.ok Us (fun vs H Q E h=>h.1) (fun cdv A outer s H vs Q E hr h=>?_)
 obtain⟨_,nb,c,ws,ds,rfl,hlive,iz,hcf,jM,hds,hF⟩:=h
 obtain⟨Φ,aA,hF⟩:∃Φ:Cu->Pd,(∀c' f d v H',Φ c' f d->kP c c' H H'->c'.P (fun a=>nb a\/a∈c'.F) H'->ah (fun a=>nb a\/a∈c'.F\/(f=true/\H a≠none)) H' d v->Q v H')/\oS aP c ds Φ:=⟨_,fun c' f d v H' q=>q v H',hF⟩
 obtain⟨x,dx,l,nd,wd,rfl,rfl,q⟩:=hF
 refine⟨_,(@aE _ _ _ (@aU _ _ _ _ (@eO _ _ _ _ _ _ _ _ (g9 K) jK rfl ck PyProof.Rows.boot_list (@aa _ _ _ _ _ (@qX _ _ _ _ _ (pv 0) rfl) ai rfl) (by decide) (by decide) (by rfl) (by rfl)))),?_⟩
 refine Sv.rm hlive iz hcf jM hds aA (ρ:=[.cu _]) rfl ?_
 clear aA hds
 refine Sv.uK (dN.of (ao.ev (ao.GI rfl fU gV rfl ?_)))
 rw[C2]
 intro aI v' H' hv
 exact⟨_,_,_,rfl,⟨rfl,rfl,fun a m=>m⟩,q,hv⟩
noncomputable def mQ(C:Addr):CF:=fun c ds Φ=>∃(x dx:Addr) (p n:Int) (cs:List aq) (wd:Wo),c=bx C x dx []/\ds=[dO p n cs,cT wd]/\cs.length<=10000/\(∀prs∈cs,prs.length<=10000)/\∀l,Φ (bx C x dx (gx (dO p n cs) l wd)) true .none
theorem Vg{C:Addr}:kI (mQ C):=by
 intro c ds Φ Ψ h z
 obtain⟨x,dx,p,n,cs,wd,e1,e2,h1,h2,q⟩:=h
 exact⟨x,dx,p,n,cs,wd,e1,e2,h1,h2,fun l=>z _ _ _ (q l)⟩
theorem S5:bL ["self","net","word"] ["self","net","word"] (ay mq):=⟨rfl,rfl,rfl,by decide+kernel,rfl,by decide+kernel,by decide+kernel⟩
theorem Uk(F:bE K "__init__" "Mender.__init__" mq f fd){aP:Addr}(fU:cX K aP)(jv:ez K aP "net")(gV:ez K aP "letters")(Ip:Callee P w K mg base "copied" 1 ["net"] (dD 1 pQ))(ck:mg "list"=none):
  aS P w K mg base bw 2 f fd ["self","net","word"] (fL 3 (mQ aP)):=by
 refine F.ok S5 (fun vs H Q E h=>h.1) (fun cdv A outer s H vs Q E hr h=>?_)
 obtain⟨_,nb,c,ws,ds,rfl,hlive,iz,hcf,jM,hds,hF⟩:=h
 obtain⟨Φ,aA,hF⟩:∃Φ:Cu->Pd,(∀c' f d v H',Φ c' f d->kP c c' H H'->c'.P (fun a=>nb a\/a∈c'.F) H'->ah (fun a=>nb a\/a∈c'.F\/(f=true/\H a≠none)) H' d v->Q v H')/\mQ aP c ds Φ:=⟨_,fun c' f d v H' q=>q v H',hF⟩
 obtain⟨x,dx,p,n,cs,wd,rfl,rfl,hl,hl2,q⟩:=hF
 refine⟨_,(@az _ _ _ _ _ (@BB _ _ _ _ _ _ _ _ (pv 0) (@aL _ _ _ _ _ _ _ _ _ _ Ip (hr.mono (by decide)) (@aa _ _ _ _ _ (pv 1) ai rfl) (by rfl) (by decide) (by rfl) (by rfl)) rfl) (@aE _ _ _ (@BB _ _ _ _ _ _ _ _ (pv 0) (@eO _ _ _ _ _ _ _ _ (g9 K) jK rfl ck PyProof.Rows.boot_list (@aa _ _ _ _ _ (pv 2) ai rfl) (by decide) (by decide) (by rfl) (by rfl)) rfl))),?_⟩
 refine Sv.rm hlive iz hcf jM hds aA (ρ:=[.cu _, .d false _, .d false _]) rfl ?_
 clear aA hds
 refine Sv.seq ?_
 refine Sv.U0 rfl fU jv (.inl rfl) (by decide) ?_
 refine Ev.jb Pw ?_
 walk_at "dt"
 refine⟨rfl,p,n,cs,rfl,hl,hl2,fun f=>?_⟩
 refine Sv.FZ rfl fU gV rfl (Nat.le_of_ble_eq_true rfl) ?_
 refine ao.listOf ?_
 walk_at "dt"
 intro l
 exact⟨_,rfl,⟨rfl,rfl,fun a m=>List.mem_append_left [l] m⟩,q l⟩
noncomputable def nh:DF:=fun ds Φ=>∃(p n:Int) (cs:List aq) (wd:Wo),ds=[dO p n cs,cT wd]/\e7 p cs wd.length/\fX wd/\wd.length<64/\Φ true (.tuple [cT (dg p cs wd), .list ((eK p cs wd).map iw)])
theorem SV:cN nh:=by
 intro ds Φ Ψ hm z
 obtain⟨p,n,cs,wd,e,h1,h2,h3,q⟩:=hm
 exact⟨p,n,cs,wd,e,h1,h2,h3,z _ _ q⟩
theorem tH:bL ["net","word","mender","rounds"] ["net","word"] (ay lC):=⟨rfl,rfl,rfl,by decide+kernel,rfl,by decide+kernel,by decide+kernel⟩
theorem U8(F:bE K "mended" "mended" lC f fd){aP:Addr}(JP:jE P w K mg base aP "mend" 7 ["self"] (fL 1 (mL aP)))(OQ:jE P w K mg base aP "word" 1 ["self"] (fL 1 (oS aP)))(Gg:sD P w K mg base aP "Mender" 2 ["self","net","word"] (fL 3 (mQ aP))):
  aS P w K mg base bw 8 f fd ["net","word"] (dD 2 nh):=by
 refine F.ok tH (fun vs H Q E h=>h.1) (fun cdv A outer s H vs Q E hr h=>?_)
 obtain⟨_,nb,ds,hlive,hds,hF⟩:=h
 obtain⟨Φ,aA,hF⟩:∃Φ:Pd,(∀f d v H',Φ f d->bI H H'->ah (fun a=>nb a\/(f=true/\H a≠none)) H' d v->Q v H')/\nh ds Φ:=⟨_,fun f d v H' q=>q v H',hF⟩
 obtain⟨p,n,cs,wd,rfl,hN,hW,hl,q⟩:=hF
 refine⟨_,(@az _ _ _ _ _ (@aN _ _ (2) _ _ _ _ tH.nd rfl (Or.inl rfl) (@Tp _ _ _ _ _ _ _ _ _ _ _ Gg (hr.mono (by decide)) (@aa _ _ _ _ _ (pv 0) (@aa _ _ _ _ _ (pv 1) ai rfl) rfl) (by rfl) (by decide) (by rfl) (by rfl)) (by rfl) (by first|exact .inl rfl|exact .inr rfl|assumption)) (@az _ _ _ _ _ (@aN _ _ (3) _ _ _ _ tH.nd rfl (Or.inl rfl) (@rL _ _ _ _ _ _ _ _ _ _ _ JP (pv 2) (hr.mono (by decide)) (by rfl)) (by rfl) (by first|exact .inl rfl|exact .inr rfl|assumption)) (@aE _ _ _ (@aU _ _ _ _ (@gv _ _ _ _ _ (@aa _ _ _ _ _ (@rL _ _ _ _ _ _ _ _ _ _ _ OQ (pv 2) (hr.mono (by decide)) (by rfl)) (@aa _ _ _ _ _ (pv 3) ai rfl) rfl)))))),?_⟩
 refine Sv.i6 hlive hds aA (ρ:=[.d false _, .d false _, .no, .no]) rfl ?_
 clear aA hds
 have hcl:=hN.2.2.1
 refine Sv.seq ?_
 refine Sv.make Vg ?_
 walk_at "dt"
 refine⟨rfl,fun x dx=>⟨x,dx,p,n,cs,wd,rfl,rfl,by walk_at "o",fun prs hp=>by have:=(hN.2.2.2 prs hp).1;walk_at "o",fun l=>⟨rfl,?_⟩⟩⟩
 refine Sv.seq ?_
 refine Sv.wc (dN.qC O3 rfl rfl (bx.is rfl) ?_)
 refine Av.nil ?_
 refine⟨rfl,x,dx,l,p,n,cs,wd,rfl,rfl,hN,hW,hl,?_⟩
 refine Gv.name ?_
 refine Sv.retS (dN.tup ?_)
 refine q9.cons (dN.qC Q3 rfl rfl (bx.is rfl) ?_)
 refine Av.nil ?_
 refine⟨rfl,x,dx,l,_,dg p cs wd,rfl,rfl,?_⟩
 walk_at "dt"
 exact q
theorem qp:bL ["script","stir","cell"] ["script"] (ay kH):=⟨rfl,rfl,rfl,by decide+kernel,rfl,by decide+kernel,by decide+kernel⟩
theorem Kc(F:bE K "_law_bag" "_law_bag" kH f fd)(vU:mg "abs"=none):
  aS P w K mg base bw 1 f fd ["script"] (DQ K):=by
 refine F.ok qp (fun vs H Q E h=>?_) (fun cdv A outer s H vs Q E hr h=>?_)
 ·obtain⟨a,ns,rfl,hS,hl,q⟩:=h
  rfl
 obtain⟨a,ns,rfl,hS,hl,q⟩:=h
 refine⟨_,(@az _ _ _ _ _ (@aN _ _ (1) _ _ _ _ qp.nd rfl (Or.inl rfl) aj (by rfl) (by first|exact .inl rfl|exact .inr rfl|assumption)) (@az _ _ _ _ _ (@fZ _ _ _ _ _ _ _ _ PassesOwn.never rfl (cQ (K:=K) rfl (@oM _ _ _ _ _ _ _ _ _ _ mP (pv 0) ny (@mU _ _ _ aj))) (aM (i:=2) qp.nd rfl (Or.inl rfl)) (@aE _ _ _ (@aN _ _ (1) _ _ _ _ qp.nd rfl (Or.inl rfl) (@aF _ _ _ _ _ _ _ _ fq (@aF _ _ _ _ _ _ _ _ dU (@aF _ _ _ _ _ _ _ _ dU (@aF _ _ _ _ _ _ _ _ fT (pv 1) aj) (@aF _ _ _ _ _ _ _ _ fq (pv 2) aj)) aj) aj) (by rfl) (by first|exact .inl rfl|exact .inr rfl|assumption))) (by intro _;rfl)) (@aE _ _ _ (@aU _ _ _ _ (@eS _ _ _ _ (@aa _ _ _ _ _ (dJ (bJ.of (show cI (ay kH) ["script","stir","cell"] _ ["cell"] [none]=true by decide+kernel)) (cQ (K:=K) rfl (@oM _ _ _ _ _ _ _ _ _ _ mP (pv 0) ny (@mU _ _ _ aj))) (fun _ _ _ _=>⟨(aM (i:=0) (by show List.Nodup (["cell"]:List Str);decide+kernel) rfl (Or.inl rfl)),fF,(@aF _ _ _ _ _ _ _ _ fq (@bN _ _ _ _ _ _ _ _ _ MS rfl vU PyProof.Rows.boot_abs (@aa _ _ _ _ _ (pv 0) ai rfl) (by decide) (by decide) (by rfl) (by rfl)) (@aF _ _ _ _ _ _ _ _ o6 aj aj))⟩)) (@aa _ _ _ _ _ aj (@aa _ _ _ _ _ aj (@aa _ _ _ _ _ (pv 1) (@aa _ _ _ _ _ aj ai rfl) rfl) rfl) rfl) rfl)))))),?_⟩
 have Eg:i8 (ns.map V.int) none (some 63)=ns.map V.int:=by
  have e:(ns.map V.int).length=ns.length:=List.length_map _
  show List.take (min 63 (ns.map V.int).length-0) (List.drop 0 (ns.map V.int))=_
  rw[List.drop_zero]
  exact List.take_of_length_le (by walk_at "o")
 walk_at "st"
 refine R.Cb hS fun c hc=>?_
 rw[Eg]
 refine R.qw (aR.of aY) ?_
 refine Aa (xs:=ns.map V.int) (fun i σ H1=>∃(st:Int) (x:Option V),σ=[some (.ref a),some (.int st),x]/\0<=st/\st<2147483647/\H1=upd H c (.lst (ns.map V.int))) ⟨19,none,rfl,by walk_at "o",by walk_at "o",rfl⟩ ?_ ?_ ?_
 ·rintro i σ H1 hi ⟨st,x,rfl,h1,h2,rfl⟩
  exact aR.of aY
 ·rintro i x σ H1 hx ⟨st,y,rfl,h1,h2,rfl⟩
  rw[List.getElem?_map] at hx
  obtain⟨n,_,rfl⟩:=Option.map_eq_some_iff.mp hx
  walk_at "st"
  exact⟨_,_,rfl,Int.emod_nonneg _ (by decide),Int.emod_lt_of_pos _ (by decide),rfl⟩
 ·rintro σ H1 ⟨st,x,rfl,h1,h2,rfl⟩
  walk_at "st"
  refine R.Cb ((cJ hc).seq hS) fun c2 hc2=>?_
  rw[Eg]
  refine R.qw (aR.of aY) ?_
  intro acc hacc
  refine R.AD (xs:=ns.map V.int) (fun i σ H2=>∃(x:Option V),σ=[x]/\H2=upd (upd (upd H c (.lst (ns.map V.int))) c2 (.lst (ns.map V.int))) acc (.lst (((ns.take i).map fun n=>(if n<0 then-n else n)%10^60).map V.int))) ⟨none,rfl,rfl⟩ ?_ ?_ ?_
  ·rintro i σ H1 hi ⟨x,rfl,rfl⟩
   refine aR.of ?_
   rw[bf (fj aY hacc)]
   exact aY
  ·rintro i x σ H1 hx ⟨y,rfl,rfl⟩
   rw[List.getElem?_map] at hx
   obtain⟨n,hn,rfl⟩:=Option.map_eq_some_iff.mp hx
   walk_at "st"
   refine⟨_,aY,?_,_,rfl,?_⟩
   ·rw[List.length_map,List.length_map,List.length_take]
    exact Fc (by walk_at "o")
   ·rw[u0,List.take_add_one,hn,List.map_append,List.map_append]
    rfl
  ·rintro σ H1 ⟨x,rfl,rfl⟩
   walk_at "st"
   refine(show yY _ _ _ from⟨by show 5<=sizeLine;decide,fun p hp=>?_⟩)
   have hn1:=fj (aY (H:=upd (upd H c (.lst (ns.map V.int))) c2 (.lst (ns.map V.int))) (a:=acc)) hp
   have s1:bI H (upd (upd (upd H c (.lst (ns.map V.int))) c2 (.lst (ns.map V.int))) acc (.lst (((ns.take (ns.map V.int).length).map fun n=>(if n<0 then-n else n)%10^60).map V.int))):=(cJ hc).trans ((cJ hc2).trans (cJ hacc))
   refine q p acc _ (s1.trans (cJ hp)) (s1.free hp) ⟨_,0,0,st,0,aY,by rw[bf hn1];exact aY,?_,?_,by walk_at "o",by walk_at "o",by walk_at "o",h1,h2⟩
   ·intro y hy
    obtain⟨z,_,rfl⟩:=List.mem_map.mp hy
    exact⟨Int.emod_nonneg _ (by decide),Int.emod_lt_of_pos _ (by decide)⟩
   ·rw[List.length_map,List.length_take]
    walk_at "o"
theorem Cm:bL ["bag","many","found"] ["bag","many"] (ay lN):=⟨rfl,rfl,rfl,by decide+kernel,rfl,by decide+kernel,by decide+kernel⟩
theorem Of(F:bE K "_law_draw" "_law_draw" lN f fd)(aX:mg "len"=none):
  aS P w K mg base bw 1 f fd ["bag","many"] fQ:=by
 refine F.ok Cm (fun vs H Q E h=>?_) (fun cdv A outer s H vs Q E hr h=>?_)
 ·obtain⟨b,l,many,rfl,hB,hm,hs,q⟩:=h
  rfl
 obtain⟨b,l,many,rfl,hB,hm,hs,q⟩:=h
 refine⟨_,(@az _ _ _ _ _ (@cP _ _ _ _ _ _ _ _ (PW.pt (gk (@aO _ _ _ _ _ _ _ _ fN (@aK _ _ _ _ _ _ _ bu (pv 0) aj (fun _ _=>rfl)) aj (aQ _)) (gH (@aO _ _ _ _ _ _ _ _ xR (@aK _ _ _ _ _ _ _ bu (pv 0) aj (fun _ _=>rfl)) (@bN _ _ _ _ _ _ _ _ _ EZ rfl aX PySem.boot_len (@aa _ _ _ _ _ (@aK _ _ _ _ _ _ _ bu (pv 0) aj (fun _ _=>rfl)) ai rfl) (by decide) (by decide) (by rfl) (by rfl)) (aQ _))))) (@az _ _ _ _ _ (@ia _ _ _ _ _ _ (@aK _ _ _ _ _ _ _ bu (@aK _ _ _ _ _ _ _ bu (pv 0) aj (fun _ _=>rfl)) (@aK _ _ _ _ _ _ _ bu (pv 0) aj (fun _ _=>rfl)) (fun _ _=>rfl)) (i7 (pv 0) aj set_list) (by rfl) (by rfl) (by rfl)) (@aE _ _ _ (@ia _ _ _ _ _ _ (@aF _ _ _ _ _ _ _ _ dU (@aK _ _ _ _ _ _ _ bu (pv 0) aj (fun _ _=>rfl)) aj) (i7 (pv 0) aj set_list) (by rfl) (by rfl) (by rfl)))) (@aE _ _ _ (@cP _ _ _ _ _ _ _ _ (@aO _ _ _ _ _ _ _ _ fN (@aK _ _ _ _ _ _ _ bu (pv 0) aj (fun _ _=>rfl)) aj (aQ _)) (@az _ _ _ _ _ (@ia _ _ _ _ _ _ (@aF _ _ _ _ _ _ _ _ dU (@aK _ _ _ _ _ _ _ bu (pv 0) aj (fun _ _=>rfl)) aj) (i7 (pv 0) aj set_list) (by rfl) (by rfl) (by rfl)) (@az _ _ _ _ _ (@ia _ _ _ _ _ _ (@aF _ _ _ _ _ _ _ _ fq (@aF _ _ _ _ _ _ _ _ dU (@aF _ _ _ _ _ _ _ _ dU (@aF _ _ _ _ _ _ _ _ dU (@aF _ _ _ _ _ _ _ _ o6 (@aK _ _ _ _ _ _ _ bu (pv 0) aj (fun _ _=>rfl)) aj) (@aF _ _ _ _ _ _ _ _ fT aj (@aK _ _ _ _ _ _ _ bu (pv 0) aj (fun _ _=>rfl)))) (@aF _ _ _ _ _ _ _ _ fT aj (@aK _ _ _ _ _ _ _ bu (pv 0) aj (fun _ _=>rfl)))) aj) aj) (i7 (pv 0) aj set_list) (by rfl) (by rfl) (by rfl)) (@aE _ _ _ (@aU _ _ _ _ (@aF _ _ _ _ _ _ _ _ fq (@aF _ _ _ _ _ _ _ _ jW (@aK _ _ _ _ _ _ _ bu (pv 0) aj (fun _ _=>rfl)) aj) (pv 1)))))) cV))) (@az _ _ _ _ _ (@aN _ _ (2) _ _ _ _ Cm.nd rfl (Or.inl rfl) (@aF _ _ _ _ _ _ _ _ fq (@aK _ _ _ _ _ _ _ bu (pv 0) aj (fun _ _=>rfl)) (pv 1)) (by rfl) (by first|exact .inl rfl|exact .inr rfl|assumption)) (@az _ _ _ _ _ (@ia _ _ _ _ _ _ (@aF _ _ _ _ _ _ _ _ jW (@aK _ _ _ _ _ _ _ bu (pv 0) aj (fun _ _=>rfl)) (pv 1)) (i7 (pv 0) aj set_list) (by rfl) (by rfl) (by rfl)) (@aE _ _ _ (@aU _ _ _ _ (pv 2)))))),?_⟩
 obtain⟨ns,i,c,st,n,h1,h2,h3,h4,h5,h6,h7,h8,h9⟩:=id hB
 have hlb:=K9 h1 h2
 have fin:∀(H1:Hp) (i' c':Int),H1 b=some (.lst [.ref l, .int i', .int c', .int st, .int n])->aH (Nb b) H H1->0<=i'->0<=c'->c'<10^60->
   ∀(H2:Hp),H2=upd H1 b (.lst [.ref l, .int i', .int (c'/many), .int st, .int n])->Q (.int (c'%many)) H2:=fun H1 i' c' e1 bt g1 g2 g3 H2 e2=>by
  subst e2
  have hd1:0<=c'/many:=Int.ediv_nonneg g2 (by walk_at "o")
  have hd2:c'/many<=c':=Int.ediv_le_self _ g2
  exact q _ _ (Int.emod_nonneg _ (by walk_at "o")) (Int.emod_lt_of_pos _ hm) (bt.trans (aH.set rfl)) (bM.put hlb (bt _ _ hlb h2) h3 h4 g1 hd1 (by walk_at "o") h8 h9)
 walk_at "st"
 refine mw (fun c1=>?_) (fun c1=>?_)
 ·have c1:c=0:=of_decide_eq_true c1
  walk_at "st"
  refine mw (fun c2=>?_) (fun c2=>?_)
  ·have c2:i<(List.map V.int ns).length:=of_decide_eq_true c2
   rw[List.length_map] at c2
   have hi:i.toNat<ns.length:=by walk_at "o"
   obtain⟨g1,g2⟩:=h3 _ (List.getElem_mem hi)
   walk_at "st"
   refine R.pL h2 (v:= .int ns[i.toNat]) (j5 h5 (by rw[List.getElem?_map,List.getElem?_eq_getElem hi];rfl)) ?_
   walk_at "st"
   refine fin (upd H b (.lst [.ref l, .int (i+1), .int ns[i.toNat], .int st, .int n])) (i+1) ns[i.toNat] aY (aH.set rfl) (by walk_at "o") g1 g2 _ ?_
   rw[u0]
   rfl
  ·walk_at "st"
   exact q _ _ (Int.emod_nonneg _ (by walk_at "o")) (Int.emod_lt_of_pos _ hm) (aH.set rfl) (bM.put hlb h2 h3 h4 h5 h6 h7 (Int.emod_nonneg _ (by decide)) (Int.emod_lt_of_pos _ (by decide)))
 ·have c1:¬c=0:=of_decide_eq_false (Bool.eq_false_iff.mpr c1)
  walk_at "st"
  exact fin H i c h1 (aH.refl _ _) h5 h6 h7 _ rfl
theorem Np(is:List Int):PyData.eqv (.list (is.map PyData.int)) (.list [])=decide (is=[]):=by
 cases is<;>simp[PyData.eqv,PyData.eqvAll]
theorem Ry(is:List Int):SeqAt.shaped (.list (is.map PyData.int))=true:=by
 have h:PyData.depthAll (is.map PyData.int)=0/\PyData.canLayAll0 (is.map PyData.int)=true:=by
  induction is with
  |nil=>simp[PyData.depthAll,PyData.canLayAll0]
  |cons a r ih=>simp[PyData.depthAll,PyData.depth,PyData.canLayAll0,PyData.canLay0,ih.2,ih.1]
 unfold SeqAt.shaped
 simp[PyData.canLay0,PyData.depth,h.2,h.1]
theorem B8{nb:Addr->Prop}{H:Hp}:∀is:List Int,af nb H (is.map PyData.int) (is.map V.int)
 |[]=>af.nil
 |i::is=>af.cons (.int i) (B8 is)
theorem Kn{r:Int}(h0:r<=10100)(h:∀d:Int,2<=d->d<102->¬(d*d<=r/\r%d=0)):qo r:=fun d d1 d2 e=>by
 by_cases hd:d<102
 ·exact h d d1 hd ⟨d2,e⟩
 ·have:102*102<=d*d:=Int.mul_le_mul (by walk_at "o") (by walk_at "o") (by walk_at "o") (by walk_at "o")
  walk_at "o"
theorem Ai:bL ["number","found"] ["number"] (ay kc):=⟨rfl,rfl,rfl,by decide+kernel,rfl,by decide+kernel,by decide+kernel⟩
theorem U7(F:bE K "_law_prime_from" "_law_prime_from" kc f fd)(bq:mg "range"=none):
  aS P w K mg base bw 1 f fd ["number"] yX:=by
 refine F.ok Ai (fun vs H Q E h=>?_) (fun cdv A outer s H vs Q E hr h=>?_)
 ·obtain⟨n,rfl,hn1,hn2,q⟩:=h
  rfl
 obtain⟨n,rfl,hn1,hn2,q⟩:=h
 refine⟨_,(@az _ _ _ _ _ (@fZ _ _ _ _ _ _ _ _ PassesOwn.never rfl (@zZ _ _ _ _ _ _ _ rfl bq (@aa _ _ _ _ _ (pv 0) (@aa _ _ _ _ _ (@aF _ _ _ _ _ _ _ _ dU (pv 0) aj) ai rfl) rfl) (by rfl) (by rfl)) (aM (i:=1) Ai.nd rfl (Or.inr rfl)) (@aE _ _ _ (@cP _ _ _ _ _ _ _ _ (@aO _ _ _ _ _ _ _ _ (vY hr.units) (dJ (bJ.of (show cI (ay kc) ["number","found"] _ ["k","found"] [none,some 1]=true by decide+kernel)) (@zZ _ _ _ _ _ _ _ rfl bq (@aa _ _ _ _ _ aj (@aa _ _ _ _ _ aj ai rfl) rfl) (by rfl) (by rfl)) (fun _ _ _ _=>⟨(aM (i:=0) (by show List.Nodup (["k","found"]:List Str);decide+kernel) rfl (Or.inl rfl)),(gY (PW.pt (gk (@aO _ _ _ _ _ _ _ _ CK (@aF _ _ _ _ _ _ _ _ fT (pv 0) (pv 0)) (pv 1) (aQ _)) (gH (@aO _ _ _ _ _ _ _ _ fN (@aF _ _ _ _ _ _ _ _ fq (pv 1) (pv 0)) aj (aQ _)))))),(pv 0)⟩)) (@eS _ _ _ _ ai) (aQ _)) (@aE _ _ _ (@aU _ _ _ _ (pv 1))) cV)) (by intro _;rfl)) (@aE _ _ _ (@aU _ _ _ _ aj))),?_⟩
 walk_at "st"
 refine Ei (fun i σ H1=>bI H H1/\∃(x:Option V),σ=[some (.int n),x]) ⟨bI.refl _,none,rfl⟩ ?_ ?_
 ·rintro i σ H1 hi ⟨s1,x,rfl⟩
  have hi2:(i:Int)<60:=by walk_at "o"
  walk_at "st"
  intro acc hacc
  refine R.yh (fun j σ H2=>bI H1 H2/\(∃x:Option V,σ=[x,some (.int (n+i))])/\∃is:List Int,H2 acc=some (.lst (is.map V.int))/\is.length<=j/\(is=[]->∀d:Int,2<=d->d<2+j->¬(d*d<=n+i/\(n+i)%d=0))) ?_ ?_ ?_
  ·exact⟨cJ hacc,⟨none,rfl⟩,[],aY,Nat.zero_le _,fun _ d d1 d2=>by walk_at "o"⟩
  ·rintro j σ H2 hj ⟨s2,⟨x,rfl⟩,is,e2,l2,h2⟩
   have hj2:(j:Int)<100:=by walk_at "o"
   have next:∀d:Int,d<2+((j+1:Nat):Int)->d<2+j\/d=2+j:=fun d h=>by walk_at "o"
   walk_at "st"
   refine mw (fun c1=>?_) (fun c1=>?_)
   ·have c1:(2+(j:Int))*(2+j)<=n+i:=of_decide_eq_true c1
    walk_at "st"
    refine mw (fun c2=>?_) (fun c2=>?_)
    ·have c2:(n+i)%(2+(j:Int))=0:=of_decide_eq_true c2
     walk_at "st"
     refine⟨_,e2,?_,?_,⟨_,rfl⟩,is++[2+(j:Int)],?_,?_,fun e=>?_⟩
     ·rw[List.length_map];exact Fc (by walk_at "o")
     ·exact fun a o h=>by rw[bf (fj h hacc)];exact s2 _ _ h
     ·rw[aY,List.map_append];rfl
     ·rw[List.length_append,List.length_singleton];walk_at "o"
     ·simp at e
    ·have c2:¬(n+i)%(2+(j:Int))=0:=of_decide_eq_false (Bool.eq_false_iff.mpr c2)
     refine⟨s2,⟨_,rfl⟩,is,e2,by walk_at "o",fun e d d1 d2=>?_⟩
     rcases next d d2 with h|h
     ·exact h2 e d d1 h
     ·rw[h];exact fun z=>c2 z.2
   ·have c1:¬(2+(j:Int))*(2+j)<=n+i:=of_decide_eq_false (Bool.eq_false_iff.mpr c1)
    walk_at "st"
    refine⟨s2,⟨_,rfl⟩,is,e2,by walk_at "o",fun e d d1 d2=>?_⟩
    rcases next d d2 with h|h
    ·exact h2 e d d1 h
    ·rw[h];exact fun z=>c1 z.1
  ·rintro σ H2 ⟨s2,⟨x,rfl⟩,is,e2,l2,h2⟩
   walk_at "st"
   refine R.HH (by decide) fun p H3 s3 f3 e3=>?_
   refine⟨fun _=>False, .list (is.map PyData.int), .list [], .lst id (s3 _ _ e2) (B8 is), .lst id e3 af.nil,Ry is,by decide,?_⟩
   rw[Np]
   walk_at "st"
   have s:bI H H3:=s1.trans (s2.trans s3)
   refine mw (fun c=>?_) (fun c=>?_)
   ·have c:is=[]:=by simpa using c
    walk_at "st"
    exact q _ _ s (by walk_at "o") (by walk_at "o") (Kn (by walk_at "o") fun d d1 d2=>h2 c d d1 (by walk_at "o"))
   ·walk_at "st"
    exact⟨s,_,rfl⟩
 ·rintro σ H1 ⟨s1,x,rfl⟩
  walk_at "st"
  refine q _ _ s1 (by walk_at "o") (by walk_at "o") fun d d1 d2=>?_
  have:2*2<=d*d:=Int.mul_le_mul d1 d1 (by walk_at "o") (by walk_at "o")
  walk_at "o"
noncomputable def qE:DF:=fun ds Φ=>ds=[]/\∀p:Int,dP p->p<10^40->∀f,Φ f (.int p)
theorem Sq:cN qE:=by
 intro ds Φ Ψ hm z
 obtain⟨e,q⟩:=hm
 exact⟨e,fun p h1 h2 f=>z _ _ (q p h1 h2 f)⟩
theorem L0:∀x∈([2,3,5,7,2,11,101,10007,65537,1000003,998244353,1000000007,2147483647,1000000000039,10^Int.toNat 39+3,10^Int.toNat 40-17,2305843009213693951,618970019642690137449562111,162259276829213363391578010288127,170141183460469231731687303715884105727]:List Int),x∈p8/\x<10^40:=by decide
theorem mS:bL ["bag","some","way"] ["bag"] (ay lP):=⟨rfl,rfl,rfl,by decide+kernel,rfl,by decide+kernel,by decide+kernel⟩
theorem Gd(F:bE K "_law_prime" "_law_prime" lP f fd)(bQ:Callee P w K mg base "_law_draw" 1 ["bag","many"] fQ)(SK:Callee P w K mg base "_law_prime_from" 1 ["number"] yX):
  aS P w K mg base bw 2 f fd ["bag"] (bS 1 qE):=by
 refine F.ok mS (fun vs H Q E h=>h.1) (fun cdv A outer s H vs Q E hr h=>?_)
 obtain⟨_,b,l,ws,nb,ds,rfl,hB,hlive,hnb,hds,hF⟩:=h
 obtain⟨Φ,aA,hF⟩:∃Φ:Pd,(∀f d v H',Φ f d->aH (Nb b) H H'->bM H' b l->ah (fun a=>nb a\/(f=true/\H a≠none)) H' d v->Q v H')/\qE ds Φ:=⟨_,fun f d v H' q=>q v H',hF⟩
 obtain⟨rfl,q⟩:=hF
 refine⟨_,(@az _ _ _ _ _ (@Jq _ 1 _ _ _ _ _ _ mS.nd rfl (Or.inl rfl) rfl (Or.inl rfl)) (@az _ _ _ _ _ (@aN _ _ (1) _ _ _ _ mS.nd rfl (Or.inl rfl) (@aF _ _ _ _ _ _ _ _ xy (pv 1) (@eS _ _ _ _ (@aa _ _ _ _ _ (@aF _ _ _ _ _ _ _ _ dU (@aF _ _ _ _ _ _ _ _ o6 aj aj) aj) (@aa _ _ _ _ _ (@aF _ _ _ _ _ _ _ _ jz (@aF _ _ _ _ _ _ _ _ o6 aj aj) aj) (@aa _ _ _ _ _ aj (@aa _ _ _ _ _ aj ai rfl) rfl) rfl) rfl))) (by rfl) (by first|exact .inl rfl|exact .inr rfl|assumption)) (@az _ _ _ _ _ (@aN _ _ (1) _ _ _ _ mS.nd rfl (Or.inl rfl) (@aF _ _ _ _ _ _ _ _ xy (pv 1) (@eS _ _ _ _ (@aa _ _ _ _ _ aj (@aa _ _ _ _ _ aj ai rfl) rfl))) (by rfl) (by first|exact .inl rfl|exact .inr rfl|assumption)) (@az _ _ _ _ _ (@aN _ _ (2) _ _ _ _ mS.nd rfl (Or.inl rfl) (@aL _ _ _ _ _ _ _ _ _ _ bQ (hr.mono (by decide)) (@aa _ _ _ _ _ (pv 0) (@aa _ _ _ _ _ aj ai rfl) rfl) (by rfl) (by decide) (by rfl) (by rfl)) (by rfl) (by first|exact .inl rfl|exact .inr rfl|assumption)) (@aE _ _ _ (@aU _ _ _ _ (@rJ _ _ _ _ _ _ _ _ (@aO _ _ _ _ _ _ _ _ xR (pv 2) aj (aQ _)) (@aK _ _ _ _ _ _ (bU K) bu (pv 1) (pv 2) (fun _ _=>rfl)) (@aL _ _ _ _ _ _ _ _ _ _ SK (hr.mono (by decide)) (@aa _ _ _ _ _ (@aF _ _ _ _ _ _ _ _ dU aj (@aL _ _ _ _ _ _ _ _ _ _ bQ (hr.mono (by decide)) (@aa _ _ _ _ _ (pv 0) (@aa _ _ _ _ _ aj ai rfl) rfl) (by rfl) (by decide) (by rfl) (by rfl))) ai rfl) (by rfl) (by decide) (by rfl) (by rfl))))))))),?_⟩
 refine Sv.gX hB hlive hnb hds aA (ρ:=[.ak, .no, .no]) rfl ?_
 clear aA hds
 walk_at "dt"
 intro way w1 w2
 by_cases c:way<20
 ·walk_at "dt"
  obtain⟨m,em,hm1,hm2⟩:=pick (L:=[2,3,5,7,2,11,101,10007,65537,1000003,998244353,1000000007,2147483647,1000000000039,10^Int.toNat 39+3,10^Int.toNat 40-17,2305843009213693951,618970019642690137449562111,162259276829213363391578010288127,170141183460469231731687303715884105727]) (k:=way) w1 (by show _<(20:Int);walk_at "o") _ L0
  refine⟨_,em,?_⟩
  exact q m (Le m hm1) hm2 _
 ·walk_at "dt"
  intro r r1 r2
  walk_at "dt"
  exact fun r' h1 h2=>q r' h1 h2 _
noncomputable def qB:DF:=fun ds Φ=>∃p a b:Int,ds=[.int p, .int a, .int b]/\dP p/\p<10^40/\b%p≠0/\ -(10^61)<=a/\a<=10^61/\((∃k,b*sol p b a-a=p*k)->Φ true (.int (sol p b a)))
theorem Mt:cN qB:=by
 intro ds Φ Ψ hm z
 obtain⟨p,a,b,e,h1,h2,h3,h4,h5,q⟩:=hm
 exact⟨p,a,b,e,h1,h2,h3,h4,h5,fun h=>z _ _ (q h)⟩
theorem iD:bL ["p","a","b","old","new","one","two","times"] ["p","a","b"] (ay lZ):=⟨rfl,rfl,rfl,by decide+kernel,rfl,by decide+kernel,by decide+kernel⟩
theorem OX(F:bE K "_law_over" "_law_over" lZ f fd):
  aS P w K mg base bw 1 f fd ["p","a","b"] (dD 3 qB):=by
 refine F.ok iD (fun vs H Q E h=>h.1) (fun cdv A outer s H vs Q E hr h=>?_)
 obtain⟨_,nb,ds,hlive,hds,hF⟩:=h
 obtain⟨Φ,aA,hF⟩:∃Φ:Pd,(∀f d v H',Φ f d->bI H H'->ah (fun a=>nb a\/(f=true/\H a≠none)) H' d v->Q v H')/\qB ds Φ:=⟨_,fun f d v H' q=>q v H',hF⟩
 obtain⟨p,a,b,rfl,hp,jL,hb,a0,a1,q⟩:=hF
 refine⟨_,(@az _ _ _ _ _ (@ia _ _ _ _ _ _ (@gv _ _ _ _ _ (@aa _ _ _ _ _ (@aF _ _ _ _ _ _ _ _ fq (pv 2) (pv 0)) (@aa _ _ _ _ _ (pv 0) (@aa _ _ _ _ _ aj (@aa _ _ _ _ _ aj ai rfl) rfl) rfl) rfl)) (@jO _ (K) _ _ _ (4) _ rfl rfl (@dB _ _ _ _ _ (aM (i:=3) iD.nd rfl (Or.inl rfl)) (@dB _ _ _ _ _ (aM (i:=4) iD.nd rfl (Or.inl rfl)) (@dB _ _ _ _ _ (aM (i:=5) iD.nd rfl (Or.inl rfl)) (@dB _ _ _ _ _ (aM (i:=6) iD.nd rfl (Or.inl rfl)) jo (by rfl)) (by rfl)) (by rfl)) (by rfl)) (by rfl) (by rfl)) (by rfl) (by rfl) (by rfl)) (@az _ _ _ _ _ (@sV _ _ _ _ _ _ PassesOwn.never (@aO _ _ _ _ _ _ _ _ jh (pv 4) aj (aQ _)) (@az _ _ _ _ _ (@aN _ _ (7) _ _ _ _ iD.nd rfl (Or.inl rfl) (@aF _ _ _ _ _ _ _ _ jW (pv 3) (pv 4)) (by rfl) (by first|exact .inl rfl|exact .inr rfl|assumption)) (@aE _ _ _ (@ia _ _ _ _ _ _ (@gv _ _ _ _ _ (@aa _ _ _ _ _ (pv 4) (@aa _ _ _ _ _ (@aF _ _ _ _ _ _ _ _ jz (pv 3) (@aF _ _ _ _ _ _ _ _ fT (pv 7) (pv 4))) (@aa _ _ _ _ _ (pv 6) (@aa _ _ _ _ _ (@aF _ _ _ _ _ _ _ _ jz (pv 5) (@aF _ _ _ _ _ _ _ _ fT (pv 7) (pv 6))) ai rfl) rfl) rfl) rfl)) (@jO _ (K) _ _ _ (4) _ rfl rfl (@dB _ _ _ _ _ (aM (i:=3) iD.nd rfl (Or.inl rfl)) (@dB _ _ _ _ _ (aM (i:=4) iD.nd rfl (Or.inl rfl)) (@dB _ _ _ _ _ (aM (i:=5) iD.nd rfl (Or.inl rfl)) (@dB _ _ _ _ _ (aM (i:=6) iD.nd rfl (Or.inl rfl)) jo (by rfl)) (by rfl)) (by rfl)) (by rfl)) (by rfl) (by rfl)) (by rfl) (by rfl) (by rfl))))) (@aE _ _ _ (@aU _ _ _ _ (@aF _ _ _ _ _ _ _ _ fq (@aF _ _ _ _ _ _ _ _ fT (pv 1) (pv 5)) (pv 0)))))),?_⟩
 refine Sv.i6 hlive hds aA (ρ:=[.d false _, .d false _, .d false _, .no, .no, .no, .no, .no]) rfl ?_
 clear aA hds
 have p2:=hp.1
 have m1:=Int.emod_nonneg b (show p≠0 by walk_at "o")
 have m2:=Int.emod_lt_of_pos b (show 0<p by walk_at "o")
 walk_at "dt"
 show ju _ _ _ _ [PyData.int (b%p), .int p, .int 1, .int 0] _
 walk_at "dt"
 refine Sv.Bo (fun ρ=>∃(L lt r t:Int) (x6:Sl),ρ=[.d false (.int p), .d false (.int a), .d false (.int b), .d true (.int L), .d true (.int r), .d true (.int lt), .d true (.int t),x6]/\(-p<=lt/\lt<=p)/\((L=b%p/\r=p/\lt=1/\t=0)\/Eu p b L lt r t)) (fun ρ:Rh=>match ρ[4]? with|some (Sl.d _ (PyData.int r))=>r.toNat|_=>0) ⟨_,_,_,_,_,rfl,by walk_at "o", .inl ⟨rfl,rfl,rfl,rfl⟩⟩ ?_
 rintro ρ ⟨L,lt,r,t,x6,rfl,hlt,hI⟩
 by_cases c:r=0
 ·rcases hI with ⟨_,h,_,_⟩|hE
  ·walk_at "o"
  subst c
  obtain⟨k,hk⟩:=hE.fin hp hb
  obtain⟨t1,t2⟩:=hE.tb
  have sa:Sm a:=by unfold Sm;walk_at "o"
  have sl:Sm lt:=by unfold Sm;walk_at "o"
  walk_at "dt"
  have e:=Int.mul_ediv_add_emod (a*lt) p
  have ef:=Int.mul_ediv_add_emod lt p
  have ex:∃k,b*(a*lt%p)-a=p*k:=⟨a*k+a*(lt/p)*b-a*lt/p*b,by
   generalize a*lt/p=Q1 at*
   generalize a*lt%p=R1 at*
   generalize lt/p=Q2 at*
   generalize lt%p=R2 at*
   have h1:R1=a*lt-p*Q1:=by walk_at "o"
   have h2:lt=p*Q2+R2:=by walk_at "o"
   rw[h1]
   have h3:a*(R2*b)=a*(1+p*k):=by rw[hk]
   grind⟩
  have es:=zD (x:=a*lt%p) (a:=a) hp hb (Int.emod_nonneg _ (by walk_at "o")) (Int.emod_lt_of_pos _ (by walk_at "o")) ex
  rw[es]
  rw[es] at ex
  exact q ex
 ·rcases hI with ⟨rfl,rfl,rfl,rfl⟩|hE
  ·have e0:b%r/r=0:=Int.ediv_eq_zero_of_lt m1 m2
   walk_at "dt"
   show ju _ _ _ _ [PyData.int r, .int (b%r-b%r/r*r), .int 0, .int (1-b%r/r*0)] _
   rw[e0]
   walk_at "dt"
   refine⟨⟨_,_,_,_,_,rfl,by walk_at "o", .inr ?_⟩,?_⟩
   ·rw[Int.zero_mul,Int.sub_zero,Int.mul_zero,Int.sub_zero]
    exact Eu.start p2
   ·show(b%r-0*r).toNat<r.toNat
    rw[Int.zero_mul];walk_at "o"
  ·obtain⟨t1,t2⟩:=hE.tb
   have e1:=hE.l0
   have e2:=hE.r0
   have e3:=hE.lp
   have e4:=hE.rp
   have hr:0<r:=by walk_at "o"
   have q1:0<=L/r:=Int.ediv_nonneg (by walk_at "o") (by walk_at "o")
   have q2:L/r<=L:=Int.ediv_le_self _ (by walk_at "o")
   obtain⟨N1,N2⟩:=hE.next hr
   walk_at "dt"
   show ju _ _ _ _ [PyData.int r, .int (L-L/r*r), .int t, .int (lt-L/r*t)] _
   walk_at "dt"
   exact⟨⟨_,_,_,_,_,rfl,⟨t1,t2⟩, .inr N1⟩,by show(L-L/r*r).toNat<r.toNat;walk_at "o"⟩
noncomputable def qy:DF:=fun ds Φ=>∃(p:Int) (prs:aq) (wd:Wo),ds=[.int p,aT prs,cT wd]/\0<p/\prs.length<=10000/\nI prs wd.length/\fX wd/\Φ true (.int (aW prs wd%p))
theorem Hs:cN qy:=by
 intro ds Φ Ψ hm z
 obtain⟨p,prs,wd,e,h1,h2,h3,h4,q⟩:=hm
 exact⟨p,prs,wd,e,h1,h2,h3,h4,z _ _ q⟩
theorem IJ:bL ["p","pairs","word"] ["p","pairs","word"] (ay kE):=⟨rfl,rfl,rfl,by decide+kernel,rfl,by decide+kernel,by decide+kernel⟩
theorem UU(F:bE K "_law_sum" "_law_sum" kE f fd)(xx:mg "sum"=none):
    aS P w K mg base bw 1 f fd ["p","pairs","word"] (dD 3 qy):=by
  refine F.ok IJ (fun vs H Q E h=>h.1) (fun cdv A outer s H vs Q E hr h=>?_)
  obtain⟨_,nb,ds,hlive,hds,hF⟩:=h
  obtain⟨Φ,aA,hF⟩:∃Φ:Pd,(∀f d v H',Φ f d->bI H H'->ah (fun a=>nb a\/(f=true/\H a≠none)) H' d v->Q v H')/\qy ds Φ:=⟨_,fun f d v H' q=>q v H',hF⟩
  obtain⟨p,prs,wd,rfl,hp,hl,h1,h2,q⟩:=hF
  refine⟨_,(@aE _ _ _ (@aU _ _ _ _ (@aF _ _ _ _ _ _ _ _ fq (@bN _ _ _ _ _ _ _ _ (xB K) (Sk rfl) rfl xx PyProof.Rows.boot_sum (@aa _ _ _ _ _ (dJ (bJ.of (show cI (ay kE) ["p","pairs","word"] _ ["place","factor","word"] [none,none,some 2]=true by decide+kernel)) (cQ (K:=K) rfl (pv 1)) (fun _ _ _ _=>⟨(@jO _ (K) _ _ _ (2) _ rfl rfl (@dB _ _ _ _ _ (aM (i:=0) (by show List.Nodup (["place","factor","word"]:List Str);decide+kernel) rfl (Or.inl rfl)) (@dB _ _ _ _ _ (aM (i:=1) (by show List.Nodup (["place","factor","word"]:List Str);decide+kernel) rfl (Or.inl rfl)) jo (by rfl)) (by rfl)) (by rfl) (by rfl)),(gY (@aO _ _ _ _ _ _ _ _ iO (@aK _ _ _ _ _ _ (bU K) bu (pv 2) (pv 0) (fun _ _=>rfl)) eU (aQ _))),(@aF _ _ _ _ _ _ _ _ fT (pv 1) (@aK _ _ _ _ _ _ (bU K) bu (pv 2) (pv 0) (fun _ _=>rfl)))⟩)) ai rfl) (by decide) (by decide) (by rfl) (by rfl)) (pv 0)))),?_⟩
  refine Sv.i6 hlive hds aA (ρ:=[.d false _, .d false _, .d false _]) rfl ?_
  clear aA hds
  walk_at "dt"
  refine ao.ev (ao.fR (by decide) rfl ?_)
  walk_at "dt"
  refine⟨by rw[List.length_map];exact hl,fun v=>⟨false,fun i ds=>∃ns:List Int,ds=ns.map .int/\ns.sum=aW (prs.take i) wd,⟨[],rfl,by simp[aW]⟩,?_,?_⟩⟩
  · rintro i d ds hd hl' ⟨ns,rfl,hs⟩
    obtain⟨pr,bP,rfl⟩:=fK hd
    obtain⟨g1,g2,g3⟩:=h1 pr (List.mem_of_getElem? bP)
    obtain⟨o,ho,hat⟩:=ic (xs:=wd) br g1 g2 rfl
    have hi:i<prs.length:=(List.getElem?_eq_some_iff.mp bP).1
    have wL:=Ce (wd:=wd) hi
    have GJ:prs[i]=pr:=(List.getElem?_eq_some_iff.mp bP).2
    rw[GJ] at wL
    walk_at "dt"
    refine⟨by walk_at "wk",?_⟩
    walk_at "dt"
    rw[nj]
    cases o with
    | none =>
      walk_at "dt"
      refine⟨ns,rfl,?_⟩
      rw[wL,hs]
      unfold fG
      rw[ho];simp
    | some x =>
      have hx:Sm x:=h2 x (List.mem_of_getElem? ho)
      have WQ:bF (wd.map br) pr.1=some (.int x):=hat
      walk_at "dt"
      refine⟨ns++[pr.2*x],by simp,?_⟩
      rw[wL,List.sum_append,hs]
      unfold fG
      rw[ho];simp
  · rintro ds hl' ⟨ns,rfl,hs⟩
    rw[List.length_map,List.take_length] at hs
    refine⟨ns,rfl,?_⟩
    rw[hs]
    walk_at "dt"
    exact q
noncomputable def o9:DF:=fun ds Φ=>∃p:Int,ds=[.int p]/\2<=p/\p<10^40/\∀x:Int,0<=x->x<p->Φ true (.int x)
theorem z9:cN o9:=by
 intro ds Φ Ψ hm z
 obtain⟨p,e,h1,h2,q⟩:=hm
 exact⟨p,e,h1,h2,fun x a b=>z _ _ (q x a b)⟩
theorem NG:bL ["bag","p"] ["bag","p"] (ay lg):=⟨rfl,rfl,rfl,by decide+kernel,rfl,by decide+kernel,by decide+kernel⟩
theorem Ul(F:bE K "_law_letter" "_law_letter" lg f fd)(bQ:Callee P w K mg base "_law_draw" 1 ["bag","many"] fQ):
  aS P w K mg base bw 2 f fd ["bag","p"] (bS 2 o9):=by
 refine F.ok NG (fun vs H Q E h=>h.1) (fun cdv A outer s H vs Q E hr h=>?_)
 obtain⟨_,b,l,ws,nb,ds,rfl,hB,hlive,hnb,hds,hF⟩:=h
 obtain⟨Φ,aA,hF⟩:∃Φ:Pd,(∀f d v H',Φ f d->aH (Nb b) H H'->bM H' b l->ah (fun a=>nb a\/(f=true/\H a≠none)) H' d v->Q v H')/\o9 ds Φ:=⟨_,fun f d v H' q=>q v H',hF⟩
 obtain⟨p,rfl,p2,fV,q⟩:=hF
 refine⟨_,(@aE _ _ _ (@aU _ _ _ _ (@aF _ _ _ _ _ _ _ _ fq (@aF _ _ _ _ _ _ _ _ fT (@aL _ _ _ _ _ _ _ _ _ _ bQ (hr.mono (by decide)) (@aa _ _ _ _ _ (pv 0) (@aa _ _ _ _ _ (pv 1) ai rfl) rfl) (by rfl) (by decide) (by rfl) (by rfl)) (@aF _ _ _ _ _ _ _ _ dU (@aF _ _ _ _ _ _ _ _ jW (pv 1) aj) aj)) (pv 1)))),?_⟩
 refine Sv.gX hB hlive hnb hds aA (ρ:=[.ak, .d false _]) rfl ?_
 clear aA hds
 walk_at "dt"
 intro r r1 r2
 have h1:0<=r*(p/3+1):=Int.mul_nonneg r1 (by walk_at "o")
 have h2:r*(p/3+1)<=10^40*10^40:=Int.mul_le_mul (by walk_at "o") (by walk_at "o") (by walk_at "o") (by walk_at "o")
 walk_at "dt"
 exact q _ (Int.emod_nonneg _ (by walk_at "o")) (Int.emod_lt_of_pos _ (by walk_at "o"))
noncomputable def nM:DF:=fun ds Φ=>∃p:Int,ds=[.int p]/\dP p/\p<10^40/\∀x:Int,0<x->x<p->Φ true (.int x)
theorem Bv:cN nM:=by
 intro ds Φ Ψ hm z
 obtain⟨p,e,h1,h2,q⟩:=hm
 exact⟨p,e,h1,h2,fun x a b=>z _ _ (q x a b)⟩
theorem R6{p a b:Int}(hp:dP p)(h:p∣a*b):p∣a\/p∣b:=by
 by_cases ha:p∣a
 ·exact .inl ha
 ·right
  have hg:Int.gcd p a=1:=by
   have d1:(Int.gcd p a:Int)∣p:=Int.gcd_dvd_left ..
   have d2:(Int.gcd p a:Int)∣a:=Int.gcd_dvd_right ..
   have h0:0<(Int.gcd p a:Int):=by
    have:Int.gcd p a≠0:=fun z=>by have:=(Int.gcd_eq_zero_iff.mp z).1;have:=hp.1;walk_at "o"
    walk_at "o"
   rcases hp.2 _ h0 d1 with e|e
   ·exact_mod_cast e
   ·rw[e] at d2;exact absurd d2 ha
  have h':p.natAbs∣a.natAbs*b.natAbs:=by rw[<-Int.natAbs_mul];exact Int.natAbs_dvd_natAbs.mpr h
  have c:Nat.Coprime p.natAbs a.natAbs:=hg
  exact Int.natAbs_dvd_natAbs.mp (c.dvd_of_dvd_mul_left h')
theorem PU:bL ["bag","p"] ["bag","p"] (ay lH):=⟨rfl,rfl,rfl,by decide+kernel,rfl,by decide+kernel,by decide+kernel⟩
theorem JQ(F:bE K "_law_factor" "_law_factor" lH f fd)(bQ:Callee P w K mg base "_law_draw" 1 ["bag","many"] fQ):
  aS P w K mg base bw 2 f fd ["bag","p"] (bS 2 nM):=by
 refine F.ok PU (fun vs H Q E h=>h.1) (fun cdv A outer s H vs Q E hr h=>?_)
 obtain⟨_,b,l,ws,nb,ds,rfl,hB,hlive,hnb,hds,hF⟩:=h
 obtain⟨Φ,aA,hF⟩:∃Φ:Pd,(∀f d v H',Φ f d->aH (Nb b) H H'->bM H' b l->ah (fun a=>nb a\/(f=true/\H a≠none)) H' d v->Q v H')/\nM ds Φ:=⟨_,fun f d v H' q=>q v H',hF⟩
 obtain⟨p,rfl,hp,fV,q⟩:=hF
 refine⟨_,(@aE _ _ _ (@aU _ _ _ _ (@aF _ _ _ _ _ _ _ _ fq (@aF _ _ _ _ _ _ _ _ fT (@aF _ _ _ _ _ _ _ _ dU aj (@aL _ _ _ _ _ _ _ _ _ _ bQ (hr.mono (by decide)) (@aa _ _ _ _ _ (pv 0) (@aa _ _ _ _ _ (@aF _ _ _ _ _ _ _ _ jz (pv 1) aj) ai rfl) rfl) (by rfl) (by decide) (by rfl) (by rfl))) (@aF _ _ _ _ _ _ _ _ dU (@aF _ _ _ _ _ _ _ _ jW (pv 1) aj) aj)) (pv 1)))),?_⟩
 refine Sv.gX hB hlive hnb hds aA (ρ:=[.ak, .d false _]) rfl ?_
 clear aA hds
 have p2:=hp.1
 walk_at "dt"
 intro r r1 r2
 walk_at "dt"
 refine q _ ?_ (Int.emod_lt_of_pos _ (by walk_at "o"))
 have h0:=Int.emod_nonneg ((1+r)*(p/3+1)) (show p≠0 by walk_at "o")
 have hne:(1+r)*(p/3+1)%p≠0:=fun e=>by
  rcases R6 hp (Int.dvd_of_emod_eq_zero e) with h|h
  ·have:=Int.le_of_dvd (by walk_at "o") h;walk_at "o"
  ·have:=Int.le_of_dvd (by walk_at "o") h;walk_at "o"
 walk_at "o"
noncomputable def qO:DF:=fun ds Φ=>∃p n:Int,ds=[.int p, .int n]/\2<=p/\p<10^40/\0<=n/\n<=10000/\∀os:List Int,(os.length:Int)=n->(∀x∈os,0<=x/\x<p)->Φ true (.list (os.map .int))
theorem RE:cN qO:=by
 intro ds Φ Ψ hm z
 obtain⟨p,n,e,h1,h2,h3,h4,q⟩:=hm
 exact⟨p,n,e,h1,h2,h3,h4,fun os a b=>z _ _ (q os a b)⟩
theorem BH:bL ["bag","p","n","way"] ["bag","p","n"] (ay jc):=⟨rfl,rfl,rfl,by decide+kernel,rfl,by decide+kernel,by decide+kernel⟩
theorem JU(F:bE K "_law_letters" "_law_letters" jc f fd)(bQ:Callee P w K mg base "_law_draw" 1 ["bag","many"] fQ)(ET:Callee P w K mg base "_law_letter" 2 ["bag","p"] (bS 2 o9))(bq:mg "range"=none)(lU:mg "int"=none)(vf:mg "min"=none):
  aS P w K mg base bw 3 f fd ["bag","p","n"] (bS 3 qO):=by
 refine F.ok BH (fun vs H Q E h=>h.1) (fun cdv A outer s H vs Q E hr h=>?_)
 obtain⟨_,b,l,ws,nb,ds,rfl,hB,hlive,hnb,hds,hF⟩:=h
 obtain⟨Φ,aA,hF⟩:∃Φ:Pd,(∀f d v H',Φ f d->aH (Nb b) H H'->bM H' b l->ah (fun a=>nb a\/(f=true/\H a≠none)) H' d v->Q v H')/\qO ds Φ:=⟨_,fun f d v H' q=>q v H',hF⟩
 obtain⟨p,n,rfl,p2,fV,n0,n1,q⟩:=hF
 refine⟨_,(@az _ _ _ _ _ (@aN _ _ (3) _ _ _ _ BH.nd rfl (Or.inl rfl) (@aL _ _ _ _ _ _ _ _ _ _ bQ (hr.mono (by decide)) (@aa _ _ _ _ _ (pv 0) (@aa _ _ _ _ _ aj ai rfl) rfl) (by rfl) (by decide) (by rfl) (by rfl)) (by rfl) (by first|exact .inl rfl|exact .inr rfl|assumption)) (@az _ _ _ _ _ (@cP _ _ _ _ _ _ _ _ (@aO _ _ _ _ _ _ _ _ fN (pv 3) aj (aQ _)) (@aE _ _ _ (@aU _ _ _ _ (dJ (bJ.of (show cI (ay jc) ["bag","p","n","way"] _ ["k","bag","p"] [none,some 0,some 1]=true by decide+kernel)) (@fE _ _ _ _ _ _ rfl bq (@aa _ _ _ _ _ (pv 2) ai rfl) (by rfl)) (fun _ _ _ _=>⟨(aM (i:=0) (by show List.Nodup (["k","bag","p"]:List Str);decide+kernel) rfl (Or.inl rfl)),fF,(@aF _ _ _ _ _ _ _ _ fT (@aL _ _ _ _ _ _ _ _ _ _ ET (hr.mono (by decide)) (@aa _ _ _ _ _ (pv 1) (@aa _ _ _ _ _ (pv 2) ai rfl) rfl) (by rfl) (by decide) (by rfl) (by rfl)) (@eO _ _ _ _ _ _ _ _ _ UD rfl lU PyProof.Rows.boot_int (@aa _ _ _ _ _ (@zx _ _ _ _ _ _ _ _ fN (@aL _ _ _ _ _ _ _ _ _ _ bQ (hr.mono (by decide)) (@aa _ _ _ _ _ (pv 1) (@aa _ _ _ _ _ aj ai rfl) rfl) (by rfl) (by decide) (by rfl) (by rfl)) aj (aQ _)) ai rfl) (by decide) (by decide) (by rfl) (by rfl)))⟩)))) cV) (@az _ _ _ _ _ (@cP _ _ _ _ _ _ _ _ (@aO _ _ _ _ _ _ _ _ fN (pv 3) aj (aQ _)) (@aE _ _ _ (@aU _ _ _ _ (dJ (bJ.of (show cI (ay jc) ["bag","p","n","way"] _ ["k","bag","p"] [none,some 0,some 1]=true by decide+kernel)) (@fE _ _ _ _ _ _ rfl bq (@aa _ _ _ _ _ (pv 2) ai rfl) (by rfl)) (fun _ _ _ _=>⟨(aM (i:=0) (by show List.Nodup (["k","bag","p"]:List Str);decide+kernel) rfl (Or.inl rfl)),fF,(@aL _ _ _ _ _ _ _ _ _ _ bQ (hr.mono (by decide)) (@aa _ _ _ _ _ (pv 1) (@aa _ _ _ _ _ (@bN _ _ _ _ _ _ _ _ _ (Ss rfl) rfl vf PyProof.Rows.boot_min (@aa _ _ _ _ _ (pv 2) (@aa _ _ _ _ _ aj ai rfl) rfl) (by decide) (by decide) (by rfl) (by rfl)) ai rfl) rfl) (by rfl) (by decide) (by rfl) (by rfl))⟩)))) cV) (@aE _ _ _ (@aU _ _ _ _ (dJ (bJ.of (show cI (ay jc) ["bag","p","n","way"] _ ["k","bag","p"] [none,some 0,some 1]=true by decide+kernel)) (@fE _ _ _ _ _ _ rfl bq (@aa _ _ _ _ _ (pv 2) ai rfl) (by rfl)) (fun _ _ _ _=>⟨(aM (i:=0) (by show List.Nodup (["k","bag","p"]:List Str);decide+kernel) rfl (Or.inl rfl)),fF,(@aL _ _ _ _ _ _ _ _ _ _ ET (hr.mono (by decide)) (@aa _ _ _ _ _ (pv 1) (@aa _ _ _ _ _ (pv 2) ai rfl) rfl) (by rfl) (by decide) (by rfl) (by rfl))⟩))))))),?_⟩
 refine Sv.gX hB hlive hnb hds aA (ρ:=[.ak, .d false _, .d false _, .no]) rfl ?_
 clear aA hds
 walk_at "dt"
 intro way w1 w2
 by_cases c:way=2
 ·walk_at "dt"
  refine ao.ev (ao.jf (by decide) rfl ?_)
  walk_at "dt"
  refine fu.ints (fun x=>0<=x/\x<p) ?_ fun os jD hos=>q os (by walk_at "o") hos
  rintro i d ⟨hi,rfl⟩
  walk_at "dt"
  refine⟨by walk_at "wk",?_⟩
  walk_at "dt"
  refine Ev.ff z9 rfl ?_
  walk_at "dt"
  refine⟨rfl,p,rfl,p2,fV,fun r r1 r2=>?_⟩
  walk_at "dt"
  intro s s1 s2
  by_cases c2:s=3
  ·walk_at "dt"
   rw[decide_eq_true c2]
   exact⟨by simp;walk_at "o",by simp;walk_at "o"⟩
  ·walk_at "dt"
   rw[decide_eq_false c2]
   exact⟨by simp,by simp;walk_at "o"⟩
 by_cases c3:way=1
 ·walk_at "dt"
  refine ao.ev (ao.jf (by decide) rfl ?_)
  walk_at "dt"
  refine fu.ints (fun x=>0<=x/\x<p) ?_ fun os jD hos=>q os (by walk_at "o") hos
  rintro i d ⟨hi,rfl⟩
  walk_at "dt"
  refine⟨by walk_at "wk",?_⟩
  walk_at "dt"
  intro r r1 r2
  refine⟨r,rfl,r1,?_⟩
  split at r2<;>walk_at "o"
 ·walk_at "dt"
  refine ao.ev (ao.jf (by decide) rfl ?_)
  walk_at "dt"
  refine fu.ints (fun x=>0<=x/\x<p) ?_ fun os jD hos=>q os (by walk_at "o") hos
  rintro i d ⟨hi,rfl⟩
  walk_at "dt"
  refine⟨by walk_at "wk",?_⟩
  walk_at "dt"
  refine Ev.ff z9 rfl ?_
  walk_at "dt"
  exact⟨rfl,p,rfl,p2,fV,fun r r1 r2=>⟨r,rfl,r1,r2⟩⟩
noncomputable def nY:DF:=fun ds Φ=>∃n wide:Int,ds=[.int n, .int wide]/\1<=n/\n<=420/\1<=wide/\wide<=60/\∀rs:List Int,rs≠[]->rs.length<=420->rs.Nodup->(∀x∈rs,0<=x/\x<n)->Φ true (.list (rs.map .int))
theorem D4:cN nY:=by
 intro ds Φ Ψ hm z
 obtain⟨n,wide,e,h1,h2,h3,h4,q⟩:=hm
 exact⟨n,wide,e,h1,h2,h3,h4,fun rs a b c d=>z _ _ (q rs a b c d)⟩
theorem Gb:bL ["bag","n","wide"] ["bag","n","wide"] (ay kr):=⟨rfl,rfl,rfl,by decide+kernel,rfl,by decide+kernel,by decide+kernel⟩
theorem VW(F:bE K "_law_places" "_law_places" kr f fd)(bQ:Callee P w K mg base "_law_draw" 1 ["bag","many"] fQ)(gJ:mg "sorted"=none)(ck:mg "list"=none)(ly:mg "set"=none)(bq:mg "range"=none):
  aS P w K mg base bw 2 f fd ["bag","n","wide"] (bS 3 nY):=by
 refine F.ok Gb (fun vs H Q E h=>h.1) (fun cdv A outer s H vs Q E hr h=>?_)
 obtain⟨_,b,l,ws,nb,ds,rfl,hB,hlive,hnb,hds,hF⟩:=h
 obtain⟨Φ,aA,hF⟩:∃Φ:Pd,(∀f d v H',Φ f d->aH (Nb b) H H'->bM H' b l->ah (fun a=>nb a\/(f=true/\H a≠none)) H' d v->Q v H')/\nY ds Φ:=⟨_,fun f d v H' q=>q v H',hF⟩
 obtain⟨n,wide,rfl,n0,n1,w0,w1,q⟩:=hF
 refine⟨_,(@az _ _ _ _ _ (@cP _ _ _ _ _ _ _ _ (PW.pt (gk (@aO _ _ _ _ _ _ _ _ CK (pv 1) aj (aQ _)) (gH (@aO _ _ _ _ _ _ _ _ fN (@aL _ _ _ _ _ _ _ _ _ _ bQ (hr.mono (by decide)) (@aa _ _ _ _ _ (pv 0) (@aa _ _ _ _ _ aj ai rfl) rfl) (by rfl) (by decide) (by rfl) (by rfl)) aj (aQ _))))) (@aE _ _ _ (@aU _ _ _ _ (@eO _ _ _ _ _ _ _ _ _ (pO rfl) rfl ck PyProof.Rows.boot_list (@aa _ _ _ _ _ (@eO _ _ _ _ _ _ _ _ _ qh rfl bq PyProof.Rows.boot_range (@aa _ _ _ _ _ (pv 1) ai rfl) (by decide) (by decide) (by rfl) (by rfl)) ai rfl) (by decide) (by decide) (by rfl) (by rfl)))) cV) (@aE _ _ _ (@aU _ _ _ _ (@bN _ _ _ _ _ _ _ _ (oK P w) (A9 rfl) rfl gJ PyProof.Rows.boot_sorted (@aa _ _ _ _ _ (@eO _ _ _ _ _ _ _ _ (nH P w K) (zR rfl) rfl ly PyProof.Rows.boot_set (@aa _ _ _ _ _ (dJ (bJ.of (show cI (ay kr) ["bag","n","wide"] _ ["k","bag","n"] [none,some 0,some 1]=true by decide+kernel)) (@fE _ _ _ _ _ _ rfl bq (@aa _ _ _ _ _ (@aF _ _ _ _ _ _ _ _ dU aj (@aL _ _ _ _ _ _ _ _ _ _ bQ (hr.mono (by decide)) (@aa _ _ _ _ _ (pv 0) (@aa _ _ _ _ _ (pv 2) ai rfl) rfl) (by rfl) (by decide) (by rfl) (by rfl))) ai rfl) (by rfl)) (fun _ _ _ _=>⟨(aM (i:=0) (by show List.Nodup (["k","bag","n"]:List Str);decide+kernel) rfl (Or.inl rfl)),fF,(@aL _ _ _ _ _ _ _ _ _ _ bQ (hr.mono (by decide)) (@aa _ _ _ _ _ (pv 1) (@aa _ _ _ _ _ (pv 2) ai rfl) rfl) (by rfl) (by decide) (by rfl) (by rfl))⟩)) ai rfl) (by decide) (by decide) (by rfl) (by rfl)) ai rfl) (by decide) (by decide) (by rfl) (by rfl))))),?_⟩
 refine Sv.gX hB hlive hnb hds aA (ρ:=[.ak, .d false _, .d false _]) rfl ?_
 clear aA hds
 have main:Ev {B:=some (b,l),H0:=H,A:=nb} [Sl.ak,Sl.d false (PyData.int n),Sl.d false (PyData.int wide)]
          (dh (oK P w)
           (aV
            (dh (nH P w K)
             (aV
              (iF
               (lW
                (aV
                 (bZ (eY fun i j => V.int (i + j)) (tC (V.int 1))
                  (d8 fQ [] E0 (aV (aZ 0) (aV (aZ 2) bz))))
                 bz))
               (fc 0) jH (d8 fQ [] E0 (aV (aZ 1) (aV (aZ 2) bz)))
               [none,some 0,some 1])
              bz))
            bz)) Φ:=by
  refine ao.ev (ao.Az (ao.ev (ao.jf (by decide) rfl ?_)))
  walk_at "dt"
  intro m0 m1 m2
  walk_at "dt"
  refine fu.ints (fun x=>0<=x/\x<n) ?_ fun os jD hos=>⟨os,rfl,by walk_at "o",fun rs hrs hmem=>?_⟩
  ·rintro i d ⟨hi,rfl⟩
   walk_at "dt"
   refine⟨by walk_at "wk",?_⟩
   walk_at "dt"
   exact fun r r1 r2=>⟨r,rfl,r1,r2⟩
  have hrl:0<rs.length:=by
   have:0<os.length:=by walk_at "o"
   obtain⟨y,hy⟩:=List.exists_mem_of_length_pos this
   exact List.length_pos_of_mem ((hmem y).mpr hy)
  have O1:rs.length<=os.length:=List.Nodup.length_le_of_subset (hrs.imp fun h=>by walk_at "o") fun k hk=>(hmem k).mp hk
  exact q rs (fun z=>by rw[z] at hrl;simp at hrl) (by walk_at "o") (hrs.imp fun h=>by walk_at "o") fun x hx=>hos x ((hmem x).mp hx)
 walk_at "dt"
 by_cases c:n<=20
 ·rw[if_pos (decide_eq_true c)]
  walk_at "dt"
  intro r r1 r2
  by_cases c2:r=15
  ·walk_at "dt"
   refine ao.ev (ao.pR ?_)
   walk_at "dt"
   refine q _ ?_ ?_ ?_ ?_
   ·intro z
    have:=congrArg List.length z
    simp at this
    walk_at "o"
   ·simp;walk_at "o"
   ·rw[List.nodup_iff_pairwise_ne,List.pairwise_map]
    exact List.pairwise_lt_range.imp fun h=>by walk_at "o"
   ·intro x hx
    obtain⟨i,hi,rfl⟩:=List.mem_map.mp hx
    have:=List.mem_range.mp hi
    walk_at "o"
  ·walk_at "dt"
   exact main
 ·rw[if_neg (by simpa using c)]
  walk_at "dt"
  exact main
noncomputable def nA(p n:Int)(prs:aq):Prop:=prs≠[]/\prs.length<=420/\∀pr∈prs,0<=pr.1/\pr.1<n/\0<pr.2/\pr.2<p
noncomputable def qv:DF:=fun ds Φ=>∃p n many wide:Int,ds=[.int p, .int n, .int many, .int wide]/\dP p/\p<10^40/\1<=n/\n<=420/\0<=many/\many<=400/\1<=wide/\wide<=60/\∀(cs:List aq) (f:Bool),(cs.length:Int)=many->(∀prs∈cs,nA p n prs)->Φ f (dO p n cs)
theorem VX:cN qv:=by
 intro ds Φ Ψ hm z
 obtain⟨p,n,many,wide,e,h1,h2,h3,h4,h5,h6,h7,h8,q⟩:=hm
 exact⟨p,n,many,wide,e,h1,h2,h3,h4,h5,h6,h7,h8,fun cs f a b=>z _ _ (q cs f a b)⟩
theorem UI(cs:List aq):SeqAt.shaped (.list (cs.map aT))=true:=by
 have h:=S9 cs
 unfold SeqAt.shaped
 simp only[PyData.canLay0,PyData.depth]
 rw[h.2]
 simp
 have:=h.1
 walk_at "o"
theorem m7:bL ["bag","p","n","many","wide","checks","c","pairs"] ["bag","p","n","many","wide"] (ay jX):=⟨rfl,rfl,rfl,by decide+kernel,rfl,by decide+kernel,by decide+kernel⟩
theorem FY(F:bE K "_law_net" "_law_net" jX f fd)(sO:Callee P w K mg base "_law_factor" 2 ["bag","p"] (bS 2 nM))(xJ:Callee P w K mg base "_law_places" 2 ["bag","n","wide"] (bS 3 nY))(bQ:Callee P w K mg base "_law_draw" 1 ["bag","many"] fQ)(bq:mg "range"=none)(ck:mg "list"=none)(aX:mg "len"=none):
  aS P w K mg base bw 3 f fd ["bag","p","n","many","wide"] (bS 5 qv):=by
 refine F.ok m7 (fun vs H Q E h=>h.1) (fun cdv A outer s H vs Q E hr h=>?_)
 obtain⟨_,b,l,ws,nb,ds,rfl,hB,hlive,hnb,hds,hF⟩:=h
 obtain⟨Φ,aA,hF⟩:∃Φ:Pd,(∀f d v H',Φ f d->aH (Nb b) H H'->bM H' b l->ah (fun a=>nb a\/(f=true/\H a≠none)) H' d v->Q v H')/\qv ds Φ:=⟨_,fun f d v H' q=>q v H',hF⟩
 obtain⟨p,n,many,wide,rfl,hp,fV,n0,n1,m0,m1,w0,w1,q⟩:=hF
 refine⟨_,(@az _ _ _ _ _ (@aN _ _ (5) _ _ _ _ m7.nd rfl (Or.inl rfl) (@eS _ _ _ _ ai) (by rfl) (by first|exact .inl rfl|exact .inr rfl|assumption)) (@az _ _ _ _ _ (@fZ _ _ _ _ _ _ _ _ PassesOwn.never rfl (@fE _ _ _ _ _ _ rfl bq (@aa _ _ _ _ _ (pv 3) ai rfl) (by rfl)) (aM (i:=6) m7.nd rfl (Or.inl rfl)) (@az _ _ _ _ _ (oB (i:=7) m7.nd rfl rfl (bJ.of (show cI (ay jX) ["bag","p","n","many","wide","checks","c","pairs"] _ ["place","bag","p"] [none,some 0,some 1]=true by decide+kernel)) (cQ (K:=K) rfl (@aL _ _ _ _ _ _ _ _ _ _ xJ (hr.mono (by decide)) (@aa _ _ _ _ _ (pv 0) (@aa _ _ _ _ _ (pv 2) (@aa _ _ _ _ _ (pv 4) ai rfl) rfl) rfl) (by rfl) (by decide) (by rfl) (by rfl))) (fun _ _ _ _=>⟨(aM (i:=0) (by show List.Nodup (["place","bag","p"]:List Str);decide+kernel) rfl (Or.inl rfl)),fF,(@gv _ _ _ _ _ (@aa _ _ _ _ _ (pv 0) (@aa _ _ _ _ _ (@aL _ _ _ _ _ _ _ _ _ _ sO (hr.mono (by decide)) (@aa _ _ _ _ _ (pv 1) (@aa _ _ _ _ _ (pv 2) ai rfl) rfl) (by rfl) (by decide) (by rfl) (by rfl)) ai rfl) rfl))⟩)) (@az _ _ _ _ _ (@cP _ _ _ _ _ _ _ _ (PW.pt (gk (@aO _ _ _ _ _ _ _ _ (nQ hr.units) (pv 5) (@eS _ _ _ _ ai) (aQ _)) (gH (@aO _ _ _ _ _ _ _ _ fN (@aL _ _ _ _ _ _ _ _ _ _ bQ (hr.mono (by decide)) (@aa _ _ _ _ _ (pv 0) (@aa _ _ _ _ _ aj ai rfl) rfl) (by rfl) (by decide) (by rfl) (by rfl)) aj (aQ _))))) (@aE _ _ _ (@aN _ _ (7) _ _ _ _ m7.nd rfl (Or.inl rfl) (@eO _ _ _ _ _ _ _ _ (g9 K) jK rfl ck PyProof.Rows.boot_list (@aa _ _ _ _ _ (@aK _ _ _ _ _ _ (bU K) bu (pv 5) (@aL _ _ _ _ _ _ _ _ _ _ bQ (hr.mono (by decide)) (@aa _ _ _ _ _ (pv 0) (@aa _ _ _ _ _ (@bN _ _ _ _ _ _ _ _ (cC K) cY rfl aX PySem.boot_len (@aa _ _ _ _ _ (pv 5) ai rfl) (by decide) (by decide) (by rfl) (by rfl)) ai rfl) rfl) (by rfl) (by decide) (by rfl) (by rfl)) (fun _ _=>rfl)) ai rfl) (by decide) (by decide) (by rfl) (by rfl)) (by rfl) (by first|exact .inl rfl|exact .inr rfl|assumption))) cV) (@aE _ _ _ (@uW _ _ _ _ (qm PySem.F.plainAttrs_list PySem.F.slot_list_append PySem.F.type_list_append sL (pv 5) (@aa _ _ _ _ _ (pv 7) ai rfl)) (by rfl))))) (by intro _;rfl)) (@aE _ _ _ (@aU _ _ _ _ (@gv _ _ _ _ _ (@aa _ _ _ _ _ (pv 1) (@aa _ _ _ _ _ (pv 2) (@aa _ _ _ _ _ (pv 5) ai rfl) rfl) rfl)))))),?_⟩
 refine Sv.gX hB hlive hnb hds aA (ρ:=[.ak, .d false _, .d false _, .d false _, .d false _, .no, .no, .no]) rfl ?_
 clear aA hds
 have p2:=hp.1
 walk_at "dt"
 intro a
 walk_at "dt"
 refine Sv.oV ?_
 walk_at "dt"
 refine⟨fun i ρ=>∃(f:Bool) (x6 x7:Sl) (cs:List aq),ρ=[.ak, .d false (.int p), .d false (.int n), .d false (.int many), .d false (.int wide), .own a f (cs.map aT),x6,x7]/\cs.length=i/\∀prs∈cs,nA p n prs,⟨_,_,_,[],rfl,rfl,(fun _ h=>nomatch h)⟩,?_,?_⟩
 ·rintro i d ρ ⟨hi,rfl⟩ ⟨f,x6,x7,cs,rfl,hcl,hcs⟩
  walk_at "dt"
  refine ao.ev (ao.fR (by decide) rfl ?_)
  refine Ev.ff D4 rfl ?_
  walk_at "dt"
  refine⟨rfl,n,wide,rfl,n0,n1,w0,w1,fun rs r0 r1 r2 r3=>?_⟩
  walk_at "dt"
  refine⟨by rw[List.length_map];walk_at "o",fun v=>fu.rel pairD true (fun i pr=>rs[i]?=some pr.1/\0<pr.2/\pr.2<p) ?_ fun prs hpl bh=>?_⟩
  ·rintro j d hd
   obtain⟨x,hx,rfl⟩:=fK hd
   walk_at "dt"
   refine⟨by walk_at "wk",?_⟩
   walk_at "dt"
   refine Ev.ff Bv rfl ?_
   walk_at "dt"
   refine⟨rfl,p,rfl,hp,fV,fun y y1 y2=>?_⟩
   walk_at "dt"
   exact⟨fun _=>rfl,(x,y),rfl,hx,y1,y2⟩
  have hok:nA p n prs:=by
   rw[List.length_map] at hpl
   refine⟨fun z=>by rw[z] at hpl;exact r0 (List.length_eq_zero_iff.mp hpl.symm),by walk_at "o",fun pr bP=>?_⟩
   obtain⟨k,hk⟩:=List.getElem?_of_mem bP
   obtain⟨e1,e2,e3⟩:=bh k pr hk
   obtain⟨g1,g2⟩:=r3 _ (List.mem_of_getElem? e1)
   exact⟨g1,g2,e2,e3⟩
  show Sv _ _ (iW _ _) _
  refine Sv.seq ?_
  refine Sv.yL (fun ρ'=>∃je:aq,nA p n je/\ρ'=[.ak, .d false (.int p), .d false (.int n), .d false (.int many), .d false (.int wide), .own a f (cs.map aT), .d true (.int (0+(i:Int))), .d false (aT je)]) ?_ ?_
  ·refine Sv.jA ?_
   refine Tv.and ?_
   refine Tv.lend 5 rfl ?_
   walk_at "dt"
   refine⟨UI cs,rfl,?_⟩
   have zJ:∃je:aq,nA p n je/\[Sl.ak, .d false (.int p), .d false (.int n), .d false (.int many), .d false (.int wide), .own a f (cs.map aT), .d true (.int (0+(i:Int))), .d false (.list (prs.map pairD))]=[Sl.ak, .d false (.int p), .d false (.int n), .d false (.int many), .d false (.int wide), .own a f (cs.map aT), .d true (.int (0+(i:Int))), .d false (aT je)]:=⟨prs,hok,rfl⟩
   by_cases c0:cs=[]
   ·refine⟨false,by subst c0;rfl,?_⟩
    rw[if_neg Bool.false_ne_true]
    walk_at "dt"
    exact zJ
   ·obtain⟨u,us,eu⟩:=List.exists_cons_of_ne_nil c0
    refine⟨true,by subst eu;rfl,?_⟩
    rw[if_pos rfl]
    walk_at "dt"
    intro y y1 y2
    by_cases c7:y=7
    ·walk_at "dt"
     have gb:(cs.map aT).length=cs.length:=List.length_map ..
     have hpos:0<cs.length:=by rw[eu];simp
     have WS:cs.length<400:=by walk_at "o"
     rw[gb]
     refine⟨by walk_at "o",by unfold Sm;walk_at "o",fun z z1 z2=>?_⟩
     obtain⟨Co,MM,UW⟩:=ic (xs:=cs) aT z1 z2 rfl
     refine⟨_,rfl,_,UW,_, .inl rfl,?_⟩
     refine Gv.iA ?_
     exact⟨Co,hcs Co (List.mem_of_getElem? MM),rfl⟩
    ·walk_at "dt"
     exact zJ
  ·rintro ρ' ⟨je,ux,rfl⟩
   walk_at "dt"
   refine⟨by rw[List.length_map];walk_at "o",_,_,_,cs++[je],by rw[List.map_append];rfl,by simp[hcl],fun u hu=>?_⟩
   rcases List.mem_append.mp hu with h|h
   ·exact hcs u h
   ·rw[List.mem_singleton.mp h];exact ux
 ·rintro ρ ⟨f,x6,x7,cs,rfl,hcl,hcs⟩
  refine Sv.yr 5 rfl ?_
  walk_at "dt"
  exact q cs _ (by walk_at "o") hcs
noncomputable def qK:Option aq->PyData
 |none=> .none
 |some prs=>aT prs
noncomputable def qT:DF:=fun ds Φ=>∃(p wide:Int) (wd:List Int),ds=[.int p, .list (wd.map .int), .int wide]/\dP p/\p<10^40/\1<=wd.length/\wd.length<=400/\(∀x∈wd,0<=x/\x<p)/\1<=wide/\wide<=60/\∀(o:Option aq) (f:Bool),(∀prs,o=some prs->lR p wd.length prs/\aW prs (wd.map some)%p=0)->Φ f (qK o)
theorem IP:cN qT:=by
 intro ds Φ Ψ hm z
 obtain⟨p,w,wd,e,h1,h2,h3,h4,h5,h6,h7,q⟩:=hm
 exact⟨p,w,wd,e,h1,h2,h3,h4,h5,h6,h7,fun o f h=>z _ _ (q o f h)⟩
theorem qj:bL ["bag","p","word","wide","pairs","rest","last"] ["bag","p","word","wide"] (ay jR):=⟨rfl,rfl,rfl,by decide+kernel,rfl,by decide+kernel,by decide+kernel⟩
theorem NN(F:bE K "_law_planted_check" "_law_planted_check" jR f fd)(Mr:Callee P w K mg base "_law_sum" 1 ["p","pairs","word"] (dD 3 qy))(sO:Callee P w K mg base "_law_factor" 2 ["bag","p"] (bS 2 nM))(xJ:Callee P w K mg base "_law_places" 2 ["bag","n","wide"] (bS 3 nY))(Gm:Callee P w K mg base "_law_over" 1 ["p","a","b"] (dD 3 qB))(aX:mg "len"=none):
  aS P w K mg base bw 3 f fd ["bag","p","word","wide"] (bS 4 qT):=by
 refine F.ok qj (fun vs H Q E h=>h.1) (fun cdv A outer s H vs Q E hr h=>?_)
 obtain⟨_,b,l,ws,nb,ds,rfl,hB,hlive,hnb,hds,hF⟩:=h
 obtain⟨Φ,aA,hF⟩:∃Φ:Pd,(∀f d v H',Φ f d->aH (Nb b) H H'->bM H' b l->ah (fun a=>nb a\/(f=true/\H a≠none)) H' d v->Q v H')/\qT ds Φ:=⟨_,fun f d v H' q=>q v H',hF⟩
 obtain⟨p,wide,wd,rfl,hp,jL,w1,w2,fk,d1,d2,q⟩:=hF
 refine⟨_,(@az _ _ _ _ _ (oB (i:=4) qj.nd rfl rfl (bJ.of (show cI (ay jR) ["bag","p","word","wide","pairs","rest","last"] _ ["place","bag","p"] [none,some 0,some 1]=true by decide+kernel)) (cQ (K:=K) rfl (@aL _ _ _ _ _ _ _ _ _ _ xJ (hr.mono (by decide)) (@aa _ _ _ _ _ (pv 0) (@aa _ _ _ _ _ (@bN _ _ _ _ _ _ _ _ (cC K) cY rfl aX PySem.boot_len (@aa _ _ _ _ _ (pv 2) ai rfl) (by decide) (by decide) (by rfl) (by rfl)) (@aa _ _ _ _ _ (pv 3) ai rfl) rfl) rfl) (by rfl) (by decide) (by rfl) (by rfl))) (fun _ _ _ _=>⟨(aM (i:=0) (by show List.Nodup (["place","bag","p"]:List Str);decide+kernel) rfl (Or.inl rfl)),fF,(@gv _ _ _ _ _ (@aa _ _ _ _ _ (pv 0) (@aa _ _ _ _ _ (@aL _ _ _ _ _ _ _ _ _ _ sO (hr.mono (by decide)) (@aa _ _ _ _ _ (pv 1) (@aa _ _ _ _ _ (pv 2) ai rfl) rfl) (by rfl) (by decide) (by rfl) (by rfl)) ai rfl) rfl))⟩)) (@az _ _ _ _ _ (@aN _ _ (5) _ _ _ _ qj.nd rfl (Or.inl rfl) (@aL _ _ _ _ _ _ _ _ _ _ Mr (hr.mono (by decide)) (@aa _ _ _ _ _ (pv 1) (@aa _ _ _ _ _ (@oM _ _ _ _ _ _ _ _ _ (kj K) mP (pv 4) ny (@mU _ _ _ (@rq _ _ _ _ _ _ qk aj))) (@aa _ _ _ _ _ (pv 2) ai rfl) rfl) rfl) (by rfl) (by decide) (by rfl) (by rfl)) (by rfl) (by first|exact .inl rfl|exact .inr rfl|assumption)) (@az _ _ _ _ _ (@aN _ _ (6) _ _ _ _ qj.nd rfl (Or.inl rfl) (@aK _ _ _ _ _ _ (eN K) fP (@aK _ _ _ _ _ _ (bU K) bu (pv 4) (@rq _ _ _ _ _ _ qk aj) (fun _ _=>rfl)) aj (fun _ _=>rfl)) (by rfl) (by first|exact .inl rfl|exact .inr rfl|assumption)) (@az _ _ _ _ _ (@cP _ _ _ _ _ _ _ _ (PW.pt (gk (@aO _ _ _ _ _ _ _ _ jh (pv 5) aj (aQ _)) (gH (@aO _ _ _ _ _ _ _ _ jh (@aK _ _ _ _ _ _ (bU K) bu (pv 2) (pv 6) (fun _ _=>rfl)) aj (aQ _))))) (@aE _ _ _ (@aU _ _ _ _ (@aF _ _ _ _ _ _ _ _ xy (@oM _ _ _ _ _ _ _ _ _ (kj K) mP (pv 4) ny (@mU _ _ _ (@rq _ _ _ _ _ _ qk aj))) (@eS _ _ _ _ (@aa _ _ _ _ _ (@gv _ _ _ _ _ (@aa _ _ _ _ _ (pv 6) (@aa _ _ _ _ _ (@aL _ _ _ _ _ _ _ _ _ _ Gm (hr.mono (by decide)) (@aa _ _ _ _ _ (pv 1) (@aa _ _ _ _ _ (@aF _ _ _ _ _ _ _ _ jz aj (pv 5)) (@aa _ _ _ _ _ (@aK _ _ _ _ _ _ (bU K) bu (pv 2) (pv 6) (fun _ _=>rfl)) ai rfl) rfl) rfl) (by rfl) (by decide) (by rfl) (by rfl)) ai rfl) rfl)) ai rfl))))) cV) (@az _ _ _ _ _ (@cP _ _ _ _ _ _ _ _ (PW.pt (gk (@aO _ _ _ _ _ _ _ _ fN (pv 5) aj (aQ _)) (gH (@aO _ _ _ _ _ _ _ _ fN (@aK _ _ _ _ _ _ (bU K) bu (pv 2) (pv 6) (fun _ _=>rfl)) aj (aQ _))))) (@aE _ _ _ (@aU _ _ _ _ (pv 4))) cV) (@aE _ _ _ (@aU _ _ _ _ (@rJ _ _ _ _ _ _ _ _ (PW.pt (gk (@aO _ _ _ _ _ _ _ _ fN (pv 5) aj (aQ _)) (gH (@aO _ _ _ _ _ _ _ _ DV (@bN _ _ _ _ _ _ _ _ (cC K) cY rfl aX PySem.boot_len (@aa _ _ _ _ _ (pv 4) ai rfl) (by decide) (by decide) (by rfl) (by rfl)) aj (aQ _))))) (@oM _ _ _ _ _ _ _ _ _ (kj K) mP (pv 4) ny (@mU _ _ _ (@rq _ _ _ _ _ _ qk aj))) eU)))))))),?_⟩
 refine Sv.gX hB hlive hnb hds aA (ρ:=[.ak, .d false _, .d false _, .d false _, .no, .no, .no]) rfl ?_
 clear aA hds
 have p2:=hp.1
 have ki:(wd.map PyData.int).length=wd.length:=List.length_map ..
 have hsm:∀x:Int,0<=x->x<=p->Sm x:=fun x x0 x1=>by unfold Sm;walk_at "o"
 walk_at "dt"
 refine ao.ev (ao.fR (by decide) rfl ?_)
 refine Ev.ff D4 rfl ?_
 walk_at "dt"
 rw[ki]
 refine⟨rfl,(wd.length:Int),wide,rfl,by walk_at "o",by walk_at "o",d1,d2,fun rs r0 r1 hrs hos=>?_⟩
 have hrl:0<rs.length:=List.length_pos_iff.mpr r0
 walk_at "dt"
 refine⟨by rw[List.length_map];walk_at "o",fun v=>fu.rel pairD true (fun i pr=>rs[i]?=some pr.1/\1<=pr.2/\pr.2<p) ?_ fun prs hpl bh=>?_⟩
 ·rintro i d hd
  obtain⟨x,hx,rfl⟩:=fK hd
  walk_at "dt"
  refine⟨by walk_at "wk",?_⟩
  walk_at "dt"
  refine Ev.ff Bv rfl ?_
  walk_at "dt"
  refine⟨rfl,p,rfl,hp,jL,fun y y1 y2=>?_⟩
  walk_at "dt"
  exact⟨fun _=>rfl,(x,y),rfl,hx,y1,y2⟩
 rw[List.length_map] at hpl
 have Ar:prs.map (·.1)=rs:=by
  apply List.ext_getElem?
  intro j
  rw[List.getElem?_map]
  cases e:prs[j]? with
  |none=>rw[List.getElem?_eq_none (by have:=List.getElem?_eq_none_iff.mp e;walk_at "o")];rfl
  |some pr=>exact(bh j pr e).1.symm
 have hQ:lR p wd.length prs:=⟨by rw[Ar];exact hrs,by walk_at "o",fun pr bP=>by
  obtain⟨k,hk⟩:=List.getElem?_of_mem bP
  have h2:=bh k pr hk
  have h1:=hos pr.1 (List.mem_of_getElem? h2.1)
  walk_at "o"⟩
 have Ka:(prs.map pairD).length=prs.length:=List.length_map ..
 have qd:iU (prs.map pairD) none (some (-1))=prs.dropLast.map pairD:=by
  unfold iU HT.cW
  simp only[List.drop_zero,Nat.sub_zero]
  rw[List.dropLast_eq_take,List.map_take,Ka]
  congr 1
  first|walk_at "o"|(split<;>walk_at "o")
 have hdl:prs.dropLast.length=prs.length-1:=List.length_dropLast ..
 have yP:lR p wd.length prs.dropLast:=⟨((List.dropLast_sublist prs).map _).nodup hQ.1,by walk_at "o",fun pr bP=>hQ.2.2 pr (List.dropLast_subset _ bP)⟩
 have uF:rs.length-1<rs.length:=by walk_at "o"
 have Bq:prs.length-1<prs.length:=by walk_at "o"
 have kg:bF (prs.map pairD) (-1)=some (pairD prs[prs.length-1]):=by
  unfold bF eX
  rw[if_neg (by decide),if_pos (by rw[List.length_map];walk_at "o")]
  show(prs.map pairD)[_]?=_
  rw[List.getElem?_map,List.length_map,show(-1+(prs.length:Int)).toNat=prs.length-1 by walk_at "o",List.getElem?_eq_getElem Bq];rfl
 obtain⟨last,m9⟩:∃x,rs[rs.length-1]=x:=⟨_,rfl⟩
 obtain⟨lf,OU⟩:∃y,prs[prs.length-1]=(last,y):=by
  refine⟨prs[prs.length-1].2,?_⟩
  have hz:=(bh (prs.length-1) _ (List.getElem?_eq_getElem Bq)).1
  rw[show rs[prs.length-1]?=some last by rw[<-m9,show prs.length-1=rs.length-1 by walk_at "o"];exact List.getElem?_eq_getElem uF] at hz
  rw[Option.some.inj hz]
 rw[OU] at kg
 have gb:0<=last/\last<wd.length:=by
  have:=hos last (m9▸List.getElem_mem uF)
  walk_at "o"
 have hlt:last.toNat<wd.length:=by walk_at "o"
 have WT:bF (wd.map PyData.int) last=some (.int wd[last.toNat]):=j5 gb.1 (by rw[List.getElem?_map,List.getElem?_eq_getElem hlt];rfl)
 have hwl:=fk _ (List.getElem_mem hlt)
 have QF:∀x:Int,fG (wd.map some) (last,x)=x*wd[last.toNat]:=fun x=>EF (pr:=(last,x)) (List.getElem?_eq_getElem hlt)
 generalize wd[last.toNat]=wl at*
 have hD:wd.map PyData.int=(wd.map some).map br:=by rw[List.map_map];rfl
 have Jb:nI prs.dropLast (wd.map some).length:=fun pr bP=>by
  have:=yP.2.2 pr bP
  rw[List.length_map]
  exact⟨this.1,this.2.1,hsm _ (by walk_at "o") (by walk_at "o")⟩
 have Ir:fX (wd.map some):=fun x hx=>by
  obtain⟨y,hy,e⟩:=List.mem_map.mp hx
  cases e
  have:=fk x hy
  exact hsm x (by walk_at "o") (by walk_at "o")
 walk_at "dt"
 refine Ev.jb Hs ?_
 walk_at "dt"
 refine⟨rfl,p,prs.dropLast,wd.map some,by show[_,PyData.list _,PyData.list _]=_;rw[qd,hD],by walk_at "o",by walk_at "o",Jb,Ir,?_⟩
 have R0:=Int.emod_nonneg (aW prs.dropLast (wd.map some)) (show p≠0 by walk_at "o")
 have R1:=Int.emod_lt_of_pos (aW prs.dropLast (wd.map some)) (show 0<p by walk_at "o")
 have hall:∃x:Int,prs=prs.dropLast++[(last,x)]:=by
  have hne:prs≠[]:=List.ne_nil_of_length_pos (by walk_at "o")
  have e:=List.dropLast_concat_getLast hne
  refine⟨(prs.getLast hne).2,?_⟩
  have e2:(prs.getLast hne).1=last:=by
   rw[<-m9,List.getLast_eq_getElem]
   have hz:=bh (prs.length-1) _ (List.getElem?_eq_getElem (by walk_at "o"))
   have e3:rs[prs.length-1]?=some rs[rs.length-1]:=by rw[show prs.length-1=rs.length-1 by walk_at "o"];exact List.getElem?_eq_getElem uF
   rw[e3] at hz
   exact(Option.some.inj hz.1).symm
  rw[<-e2]
  exact e.symm
 have vM:∀x:Int,aW (prs.dropLast++[(last,x)]) (wd.map some)%p=(aW prs.dropLast (wd.map some)%p+x*wl)%p:=fun x=>by
  rw[Io,wF,QF,Int.emod_add_emod]
  congr 1
  show _+(_+0)=_
  walk_at "o"
 obtain⟨R,eR⟩:∃R,aW prs.dropLast (wd.map some)%p=R:=⟨_,rfl⟩
 simp only[eR] at vM R0 R1⊢
 walk_at "dt"
 by_cases cR:R=0
 ·walk_at "dt"
  by_cases cw:wl=0
  ·walk_at "dt"
   obtain⟨x,hx⟩:=hall
   exact q (some prs) _ (fun _ e=>by
    cases e
    refine⟨hQ,?_⟩
    rw[hx,vM,cR,cw,Int.mul_zero]
    simp)
  ·walk_at "dt"
   by_cases cl:1<((prs.map pairD).length:Int)
   ·walk_at "dt"
    rw[qd]
    exact q (some prs.dropLast) _ (fun _ e=>by cases e;exact⟨yP,by rw[eR,cR]⟩)
   ·walk_at "dt"
    exact q none _ (fun _ e=>by cases e)
 ·walk_at "dt"
  by_cases cw:wl=0
  ·walk_at "dt"
   exact q none _ (fun _ e=>by cases e)
  ·have hwp:wl%p≠0:=by rw[Int.emod_eq_of_lt (by walk_at "o") (by walk_at "o")];exact cw
   walk_at "dt"
   refine Ev.jb Mt ?_
   walk_at "dt"
   refine⟨rfl,p,0-R,wl,rfl,hp,jL,hwp,by walk_at "o",by walk_at "o",fun⟨k,hk⟩=>?_⟩
   have hs:=DS (p:=p) (b:=wl) (a:=0-R) (by walk_at "o")
   generalize sol p wl (0-R)=sl at*
   have hs1:sl≠0:=fun z=>by
    subst z
    rw[Int.mul_zero] at hk
    have Wj:R=p*k:=by walk_at "o"
    rcases Int.lt_trichotomy k 0 with z|z|z
    ·have:p*k<=p*(-1):=Int.mul_le_mul_of_nonneg_left (by walk_at "o") (by walk_at "o")
     walk_at "o"
    ·subst z;walk_at "o"
    ·have:p*1<=p*k:=Int.mul_le_mul_of_nonneg_left (by walk_at "o") (by walk_at "o")
     walk_at "o"
   walk_at "dt"
   refine⟨by rw[qd,List.length_map];show _+1<=10000;walk_at "o",?_⟩
   show Φ _ (.list (iU (prs.map pairD) none (some (-1))++[pairD (last,sl)]))
   rw[qd,show(prs.dropLast.map pairD++[pairD (last,sl)])=(prs.dropLast++[(last,sl)]).map pairD by rw[List.map_append];rfl]
   refine q (some (prs.dropLast++[(last,sl)])) _ (fun _ e=>?_)
   cases e
   have hz:(R+sl*wl)%p=0:=by
    rw[show R+sl*wl=p*k by rw[Int.mul_comm sl wl];walk_at "o"]
    exact Int.mul_emod_right p k
   refine⟨?_,by rw[vM];exact hz⟩
   have hdr:(prs.dropLast++[(last,sl)]).map (·.1)=rs:=by
    rw[List.map_append,List.map_dropLast,Ar,List.map_singleton,<-m9]
    have:=List.dropLast_concat_getLast (List.ne_nil_of_length_pos hrl)
    rw[List.getLast_eq_getElem] at this
    exact this
   refine⟨by rw[hdr];exact hrs,by rw[List.length_append,List.length_singleton];walk_at "o",fun pr bP=>?_⟩
   rcases List.mem_append.mp bP with h|h
   ·exact yP.2.2 pr h
   ·rw[List.mem_singleton.mp h]
    exact⟨gb.1,gb.2,by show 1<=sl;walk_at "o",hs.2⟩
noncomputable def qA:DF:=fun ds Φ=>∃(p many wide:Int) (wd:List Int),ds=[.int p, .list (wd.map .int), .int many, .int wide]/\dP p/\p<10^40/\1<=wd.length/\wd.length<=400/\(∀x∈wd,0<=x/\x<p)/\0<=many/\many<=400/\1<=wide/\wide<=60/\∀(cs:List aq) (f:Bool),(cs.length:Int)<=many->(∀prs∈cs,lR p wd.length prs/\aW prs (wd.map some)%p=0)->Φ f (dO p wd.length cs)
theorem Kq:cN qA:=by
 intro ds Φ Ψ hm z
 obtain⟨p,m,w,wd,e,h1,h2,h3,h4,h5,h6,h7,h8,h9,q⟩:=hm
 exact⟨p,m,w,wd,e,h1,h2,h3,h4,h5,h6,h7,h8,h9,fun cs f a b=>z _ _ (q cs f a b)⟩
theorem Oi(o:Option aq):oz (qK o)=o.isNone:=by cases o<;>rfl
theorem C8:bL ["bag","p","word","many","wide","checks"] ["bag","p","word","many","wide"] (ay jF):=⟨rfl,rfl,rfl,by decide+kernel,rfl,by decide+kernel,by decide+kernel⟩
theorem G1(F:bE K "_law_planted" "_law_planted" jF f fd)(Lm:Callee P w K mg base "_law_planted_check" 3 ["bag","p","word","wide"] (bS 4 qT))(aX:mg "len"=none)(bq:mg "range"=none):
    aS P w K mg base bw 4 f fd ["bag","p","word","many","wide"] (bS 5 qA):=by
  refine F.ok C8 (fun vs H Q E h=>h.1) (fun cdv A outer s H vs Q E hr h=>?_)
  obtain⟨_,b,l,ws,nb,ds,rfl,hB,hlive,hnb,hds,hF⟩:=h
  obtain⟨Φ,aA,hF⟩:∃Φ:Pd,(∀f d v H',Φ f d->aH (Nb b) H H'->bM H' b l->ah (fun a=>nb a\/(f=true/\H a≠none)) H' d v->Q v H')/\qA ds Φ:=⟨_,fun f d v H' q=>q v H',hF⟩
  obtain⟨p,many,wide,wd,rfl,hp,jL,w1,w2,fk,m1,m2,d1,d2,q⟩:=hF
  refine⟨_,(@az _ _ _ _ _ (oB (i:=5) C8.nd rfl rfl (bJ.of (show cI (ay jF) ["bag","p","word","many","wide","checks"] _ ["c","bag","p","word","wide"] [none,some 0,some 1,some 2,some 4]=true by decide+kernel)) (@fE _ _ _ _ _ _ rfl bq (@aa _ _ _ _ _ (pv 3) ai rfl) (by rfl)) (fun _ _ _ _=>⟨(aM (i:=0) (by show List.Nodup (["c","bag","p","word","wide"]:List Str);decide+kernel) rfl (Or.inl rfl)),fF,(@aL _ _ _ _ _ _ _ _ _ _ Lm (hr.mono (by decide)) (@aa _ _ _ _ _ (pv 1) (@aa _ _ _ _ _ (pv 2) (@aa _ _ _ _ _ (pv 3) (@aa _ _ _ _ _ (pv 4) ai rfl) rfl) rfl) rfl) (by rfl) (by decide) (by rfl) (by rfl))⟩)) (@aE _ _ _ (@aU _ _ _ _ (@gv _ _ _ _ _ (@aa _ _ _ _ _ (pv 1) (@aa _ _ _ _ _ (@bN _ _ _ _ _ _ _ _ (cC K) cY rfl aX PySem.boot_len (@aa _ _ _ _ _ (pv 2) ai rfl) (by decide) (by decide) (by rfl) (by rfl)) (@aa _ _ _ _ _ (dJ (bJ.of (show cI (ay jF) ["bag","p","word","many","wide","checks"] _ ["pairs"] [none]=true by decide+kernel)) (cQ (K:=K) rfl (pv 5)) (fun _ _ _ _=>⟨(aM (i:=0) (by show List.Nodup (["pairs"]:List Str);decide+kernel) rfl (Or.inl rfl)),(gY (@aO _ _ _ _ _ _ _ _ iO (pv 0) eU (aQ _))),(pv 0)⟩)) ai rfl) rfl) rfl))))),?_⟩
  refine Sv.gX hB hlive hnb hds aA (ρ:=[.ak, .d false _, .d false _, .d false _, .d false _, .no]) rfl ?_
  clear aA hds
  have ki:(wd.map PyData.int).length=wd.length:=List.length_map ..
  walk_at "dt"
  refine ao.ev (ao.jf (by decide) rfl ?_)
  walk_at "dt"
  refine fu.rel qK false (fun _ o=>∀prs,o=some prs->lR p wd.length prs/\aW prs (wd.map some)%p=0) ?_ fun os jD hos=>?_
  · rintro i d ⟨hi,rfl⟩
    walk_at "dt"
    refine⟨by walk_at "wk",?_⟩
    refine Ev.ff IP rfl ?_
    walk_at "dt"
    exact⟨rfl,p,wide,wd,rfl,hp,jL,w1,w2,fk,d1,d2,fun o f h=>⟨(fun z=>by cases z),o,rfl,h⟩⟩
  walk_at "dt"
  refine ao.ev (ao.fR (by decide) rfl ?_)
  walk_at "dt"
  refine⟨by rw[List.length_map];walk_at "o",fun v=>⟨false,fun i ds=>∃es:List aq,ds=es.map aT/\es.length<=i/\∀prs∈es,lR p wd.length prs/\aW prs (wd.map some)%p=0,⟨[],rfl,Nat.le_refl _,(fun _ h=>nomatch h)⟩,?_,?_⟩⟩
  · rintro j d ds hd hl' ⟨es,rfl,hel,hes⟩
    obtain⟨o,ho,rfl⟩:=fK hd
    walk_at "dt"
    refine⟨by walk_at "wk",?_⟩
    walk_at "dt"
    rw[Oi]
    cases o with
    | none =>
      walk_at "dt"
      exact⟨es,rfl,by walk_at "o",hes⟩
    | some prs =>
      rw[show qK (some prs)=aT prs from rfl]
      walk_at "dt"
      refine⟨es++[prs],by rw[List.map_append];rfl,by simp;walk_at "o",fun q hq=>?_⟩
      rcases List.mem_append.mp hq with h|h
      · exact hes q h
      · rw[List.mem_singleton.mp h];exact hos j _ ho prs rfl
  rintro ds hl' ⟨es,rfl,hel,hes⟩
  walk_at "dt"
  rw[List.length_map] at hel
  show Φ _ (.tuple [.int p, .int ((wd.map PyData.int).length:Int), .list (es.map aT)])
  rw[ki]
  exact q es _ (by walk_at "o") hes
noncomputable def nO:DF:=fun ds Φ=>∃wd:List Int,ds=[.list (wd.map .int)]/\wd.length<=10000/\∀ld:Wo,pF wd ld->Φ true (cT ld)
theorem Rz:cN nO:=by
 intro ds Φ Ψ hm z
 obtain⟨wd,e,h1,q⟩:=hm
 exact⟨wd,e,h1,fun ld a=>z _ _ (q ld a)⟩
theorem B3:bL ["bag","word","often"] ["bag","word"] (ay jJ):=⟨rfl,rfl,rfl,by decide+kernel,rfl,by decide+kernel,by decide+kernel⟩
theorem MP(F:bE K "_law_lossy" "_law_lossy" jJ f fd)(bQ:Callee P w K mg base "_law_draw" 1 ["bag","many"] fQ):
    aS P w K mg base bw 2 f fd ["bag","word"] (bS 2 nO):=by
  refine F.ok B3 (fun vs H Q E h=>h.1) (fun cdv A outer s H vs Q E hr h=>?_)
  obtain⟨_,b,l,ws,nb,ds,rfl,hB,hlive,hnb,hds,hF⟩:=h
  obtain⟨Φ,aA,hF⟩:∃Φ:Pd,(∀f d v H',Φ f d->aH (Nb b) H H'->bM H' b l->ah (fun a=>nb a\/(f=true/\H a≠none)) H' d v->Q v H')/\nO ds Φ:=⟨_,fun f d v H' q=>q v H',hF⟩
  obtain⟨wd,rfl,hl,q⟩:=hF
  refine⟨_,(@az _ _ _ _ _ (@aN _ _ (2) _ _ _ _ B3.nd rfl (Or.inr rfl) (@aK _ _ _ _ _ _ (bU K) bu (@eS _ _ _ _ (@ER _ _ _ rfl)) (@aL _ _ _ _ _ _ _ _ _ _ bQ (hr.mono (by decide)) (@aa _ _ _ _ _ (pv 0) (@aa _ _ _ _ _ aj ai rfl) rfl) (by rfl) (by decide) (by rfl) (by rfl)) (fun _ _=>rfl)) (by rfl) (by first|exact .inl rfl|exact .inr rfl|assumption)) (@aE _ _ _ (@aU _ _ _ _ (dJ (bJ.of (show cI (ay jJ) ["bag","word","often"] _ ["letter","bag","often"] [none,some 0,some 2]=true by decide+kernel)) (cQ (K:=K) rfl (pv 1)) (fun _ _ _ _=>⟨(aM (i:=0) (by show List.Nodup (["letter","bag","often"]:List Str);decide+kernel) rfl (Or.inl rfl)),fF,(@rJ _ _ _ _ _ _ _ _ (@aO _ _ _ _ _ _ _ _ fN (@aL _ _ _ _ _ _ _ _ _ _ bQ (hr.mono (by decide)) (@aa _ _ _ _ _ (pv 1) (@aa _ _ _ _ _ (pv 2) ai rfl) rfl) (by rfl) (by decide) (by rfl) (by rfl)) aj (aQ _)) eU (pv 0))⟩))))),?_⟩
  refine Sv.gX hB hlive hnb hds aA (ρ:=[.ak, .d false _, .no]) rfl ?_
  clear aA hds
  have gb:(wd.map PyData.int).length=wd.length:=List.length_map ..
  walk_at "dt"
  intro r r1 r2
  obtain⟨m,em,m1,m2⟩:=pick (L:=[8,4,3,2,2,3,8,1]) r1 (by show r<8;walk_at "o") (fun x=>1<=x/\x<=8) (by decide)
  refine⟨_,rfl,_,em,?_⟩
  refine Gv.oE ?_
  walk_at "dt"
  refine ao.ev (ao.fR (by decide) rfl ?_)
  walk_at "dt"
  refine fun v=>⟨true,fun i ds=>∃ld:Wo,ds=ld.map br/\ld.length=i/\∀(j:Nat) x,ld[j]?=some (some x)->wd[j]?=some x,⟨[],rfl,rfl,fun _ _ h=>by simp at h⟩,?_,?_⟩
  · rintro i d ds hd hl' ⟨ld,rfl,cH,hin⟩
    obtain⟨x,hx,rfl⟩:=fK hd
    walk_at "dt"
    refine⟨by walk_at "wk",?_⟩
    walk_at "dt"
    intro z z1 z2
    by_cases c:z=0
    · walk_at "dt"
      refine⟨ld++[none],by rw[List.map_append];rfl,by simp[cH],fun j y hy=>hin j y ?_⟩
      by_cases hj:j<ld.length
      · rwa[List.getElem?_append_left hj] at hy
      · rw[List.getElem?_append_right (by walk_at "o")] at hy
        cases e:j-ld.length with
        |zero=>rw[e] at hy;simp at hy
        |succ k=>rw[e] at hy;simp at hy
    · walk_at "dt"
      refine⟨ld++[some x],by rw[List.map_append];rfl,by simp[cH],fun j y hy=>?_⟩
      by_cases hj:j<ld.length
      · rw[List.getElem?_append_left hj] at hy;exact hin j y hy
      · rw[List.getElem?_append_right (by walk_at "o")] at hy
        cases e:j-ld.length with
        | zero =>
          rw[e] at hy
          simp at hy
          rw[show j=i by walk_at "o",<-hy]
          exact hx
        |succ k=>rw[e] at hy;simp at hy
  rintro ds hl' ⟨ld,rfl,cH,hin⟩
  rw[gb] at cH
  exact q ld ⟨cH,hin⟩
theorem JZ:bL ["found"] ["found"] (ay lO):=⟨rfl,rfl,rfl,by decide+kernel,rfl,by decide+kernel,by decide+kernel⟩
theorem NR(F:bE K "_law_whole" "_law_whole" lO f fd)(iM:mg "isinstance"=none)(lU:mg "int"=none)(wZ:mg "bool"=none):
  aS P w K mg base bw 1 f fd ["found"] xg:=by
 refine F.ok JZ (fun vs H Q E h=>?_) (fun cdv A outer s H vs Q E hr h=>?_)
 ·obtain⟨i,rfl,q⟩:=h
  rfl
 obtain⟨i,rfl,q⟩:=h
 refine⟨_,(@aE _ _ _ (@aU _ _ _ _ (@QV _ _ _ _ _ _ _ (@bN _ _ _ _ _ _ _ _ (jx K) qJ rfl iM PyProof.Rows.boot_isinstance (@aa _ _ _ _ _ (pv 0) (@aa _ _ _ _ _ (pA (v:= .ty "int") rfl lU PyProof.Rows.boot_int rfl) ai rfl) rfl) (by decide) (by decide) (by rfl) (by rfl)) (@Mq _ _ _ _ _ (@OL _ _ _ _ (@bN _ _ _ _ _ _ _ _ (jx K) qJ rfl iM PyProof.Rows.boot_isinstance (@aa _ _ _ _ _ (pv 0) (@aa _ _ _ _ _ (pA (v:= .ty "bool") rfl wZ PyProof.Rows.boot_bool rfl) ai rfl) rfl) (by decide) (by decide) (by rfl) (by rfl))))))),?_⟩
 walk_at "st"
 refine R.V8 ?_
 walk_at "st"
 exact q
noncomputable def nG:DF:=fun ds Φ=>∃es:List PyData,ds=[.list es]/\es.length<=9000/\∀(f:Bool) (rs:List PyData),rs.Perm es->Φ f (.list rs)
theorem Et:cN nG:=by
 intro ds Φ Ψ hm z
 obtain⟨es,e,h1,q⟩:=hm
 exact⟨es,e,h1,fun f rs a=>z _ _ (q f rs a)⟩
theorem EB:bL ["bag","row","left"] ["bag","row"] (ay kF):=⟨rfl,rfl,rfl,by decide+kernel,rfl,by decide+kernel,by decide+kernel⟩
theorem U6(F:bE K "_law_turned" "_law_turned" kF f fd)(bQ:Callee P w K mg base "_law_draw" 1 ["bag","many"] fQ)(ck:mg "list"=none)(bq:mg "range"=none)(aX:mg "len"=none):
  aS P w K mg base bw 2 f fd ["bag","row"] (bS 2 nG):=by
 refine F.ok EB (fun vs H Q E h=>h.1) (fun cdv A outer s H vs Q E hr h=>?_)
 obtain⟨_,b,l,ws,nb,ds,rfl,hB,hlive,hnb,hds,hF⟩:=h
 obtain⟨Φ,aA,hF⟩:∃Φ:Pd,(∀f d v H',Φ f d->aH (Nb b) H H'->bM H' b l->ah (fun a=>nb a\/(f=true/\H a≠none)) H' d v->Q v H')/\nG ds Φ:=⟨_,fun f d v H' q=>q v H',hF⟩
 obtain⟨es,rfl,hl,q⟩:=hF
 refine⟨_,(@az _ _ _ _ _ (@aN _ _ (2) _ _ _ _ EB.nd rfl (Or.inr rfl) (@eO _ _ _ _ _ _ _ _ (g9 K) jK rfl ck PyProof.Rows.boot_list (@aa _ _ _ _ _ (pv 1) ai rfl) (by decide) (by decide) (by rfl) (by rfl)) (by rfl) (by first|exact .inl rfl|exact .inr rfl|assumption)) (@aE _ _ _ (@aU _ _ _ _ (dJ (bJ.of (show cI (ay kF) ["bag","row","left"] _ ["k","bag","left"] [none,some 0,some 2]=true by decide+kernel)) (@fE _ _ _ _ _ _ rfl bq (@aa _ _ _ _ _ (@bN _ _ _ _ _ _ _ _ (cC K) cY rfl aX PySem.boot_len (@aa _ _ _ _ _ (pv 1) ai rfl) (by decide) (by decide) (by rfl) (by rfl)) ai rfl) (by rfl)) (fun _ _ _ _=>⟨(aM (i:=0) (by show List.Nodup (["k","bag","left"]:List Str);decide+kernel) rfl (Or.inl rfl)),fF,(Ke (K:=K) rfl (qm PySem.F.plainAttrs_list PySem.F.slot_list_pop PySem.F.type_list_pop Iw (pv 2) (@aa _ _ _ _ _ (@aL _ _ _ _ _ _ _ _ _ _ bQ (hr.mono (by decide)) (@aa _ _ _ _ _ (pv 1) (@aa _ _ _ _ _ (@bN _ _ _ _ _ _ _ _ (cC K) cY rfl aX PySem.boot_len (@aa _ _ _ _ _ (pv 2) ai rfl) (by decide) (by decide) (by rfl) (by rfl)) ai rfl) rfl) (by rfl) (by decide) (by rfl) (by rfl)) ai rfl)))⟩))))),?_⟩
 refine Sv.gX hB hlive hnb hds aA (ρ:=[.ak, .d false _, .no]) rfl ?_
 clear aA hds
 refine Sv.seq ?_
 refine Sv.uV (ao.listOf ?_)
 walk_at "dt"
 intro A2
 refine Sv.GZ rfl rfl hl ?_ (fun rs hp=>q _ rs hp)
 walk_at "dt"
 rfl
noncomputable def oY:DF:=fun ds Φ=>∃(prs:aq) (aD:List Int) (d:PyData),ds=[aT prs,d]/\Pq aD d/\prs.length<=10000/\Φ true (.bool (decide (dz aD prs=1)))
theorem Dp:cN oY:=by
 intro ds Φ Ψ hm z
 obtain⟨prs,aD,d,e,h1,h2,q⟩:=hm
 exact⟨prs,aD,d,e,h1,h2,z _ _ q⟩
theorem Nn:bL ["pairs","lot"] ["pairs","lot"] (ay kJ):=⟨rfl,rfl,rfl,by decide+kernel,rfl,by decide+kernel,by decide+kernel⟩
theorem Uy(F:bE K "_law_just_one" "_law_just_one" kJ f fd)(aX:mg "len"=none):
  aS P w K mg base bw 1 f fd ["pairs","lot"] (dD 2 oY):=by
 refine F.ok Nn (fun vs H Q E h=>h.1) (fun cdv A outer s H vs Q E hr h=>?_)
 obtain⟨_,nb,ds,hlive,hds,hF⟩:=h
 obtain⟨Φ,aA,hF⟩:∃Φ:Pd,(∀f d v H',Φ f d->bI H H'->ah (fun a=>nb a\/(f=true/\H a≠none)) H' d v->Q v H')/\oY ds Φ:=⟨_,fun f d v H' q=>q v H',hF⟩
 obtain⟨prs,aD,d0,rfl,hL,hl,q⟩:=hF
 refine⟨_,(@aE _ _ _ (@aU _ _ _ _ (@zx _ _ _ _ _ _ _ _ fN (@bN _ _ _ _ _ _ _ _ (cC K) cY rfl aX PySem.boot_len (@aa _ _ _ _ _ (dJ (bJ.of (show cI (ay kJ) ["pairs","lot"] _ ["place","factor","lot"] [none,none,some 1]=true by decide+kernel)) (cQ (K:=K) rfl (pv 0)) (fun _ _ _ _=>⟨(@jO _ (K) _ _ _ (2) _ rfl rfl (@dB _ _ _ _ _ (aM (i:=0) (by show List.Nodup (["place","factor","lot"]:List Str);decide+kernel) rfl (Or.inl rfl)) (@dB _ _ _ _ _ (aM (i:=1) (by show List.Nodup (["place","factor","lot"]:List Str);decide+kernel) rfl (Or.inl rfl)) jo (by rfl)) (by rfl)) (by rfl) (by rfl)),(gY (aO (Qd (K:=K) (by rfl) hr.units) (pv 0) (pv 2) (by with_unfolding_all rfl))),(pv 0)⟩)) ai rfl) (by decide) (by decide) (by rfl) (by rfl)) aj (aQ _)))),?_⟩
 refine Sv.i6 hlive hds aA (ρ:=[.d false _, .d false _]) rfl ?_
 clear aA hds
 have gb:(prs.map pairD).length=prs.length:=List.length_map ..
 refine Sv.ret ?_
 refine Ev.eq ?_
 refine Ev.gZ ?_
 refine ao.ev (ao.fR (by decide) rfl ?_)
 walk_at "dt"
 refine fun v=>⟨true,fun i ds=>ds=((prs.take i).filter fun pr=>decide (pr.1∈aD)).map fun pr=> .int pr.1,rfl,?_,?_⟩
 ·rintro i d ds hd hl' rfl
  obtain⟨pr,bP,rfl⟩:=fK hd
  walk_at "dt"
  refine⟨by walk_at "wk",?_⟩
  have fin:Tv (Gx.hd {B:=none,H0:=H,A:=nb} false (.list (prs.map pairD)) v) [.d true (.int pr.1), .d true (.int pr.2), .d false d0] (nL (bZ (qa K false) (aZ 0) (aZ 2))) (fun b=>b=decide (pr.1∈aD)):=by
   refine Tv.test ?_
   rcases hL with rfl|⟨ks,rfl,hks⟩
   ·refine Ev.Fq ?_
    walk_at "dt"
    refine⟨aD,rfl,?_⟩
    refine⟨_,rfl,?_⟩
    simp
   ·refine Ev.Gh ?_
    walk_at "dt"
    refine⟨ks,rfl,?_⟩
    refine⟨_,rfl,?_⟩
    rw[hks]
    simp
  refine fin.mono ?_
  rintro b rfl
  by_cases c:pr.1∈aD
  ·rw[if_pos (decide_eq_true c)]
   walk_at "dt"
   show _=List.map _ (List.filter _ (prs.take (i+1)))
   rw[take_snoc bP,pD,if_pos c,List.map_append]
   rfl
  ·rw[if_neg (by simpa using c)]
   show _=List.map _ (List.filter _ (prs.take (i+1)))
   rw[take_snoc bP,pD,if_neg c,List.append_nil]
 ·rintro ds hl' rfl
  rw[gb,List.take_length]
  refine⟨_, .inl rfl,?_⟩
  walk_at "dt"
  rw[List.length_map]
  have e:decide (((prs.filter fun pr=>decide (pr.1∈aD)).length:Int)=1)=decide (dz aD prs=1):=by
   unfold dz
   rw[decide_eq_decide]
   walk_at "o"
  rw[e]
  exact q
noncomputable def A6(n:Int)(aD:List Int):Prop:=aD≠[]/\aD.Nodup/\aD.length<=10/\∀x∈aD,0<=x/\x<n
noncomputable abbrev ku(aD:List Int):PyData:= .list (aD.map .int)
noncomputable def pP:DF:=fun ds Φ=>∃n:Int,ds=[.int n]/\1<=n/\n<=400/\∀dY:List (List Int),dY.length<=10->(∀aD∈dY,A6 n aD)->Φ true (.list (dY.map ku))
theorem RP:cN pP:=by
 intro ds Φ Ψ hm z
 obtain⟨n,e,h1,h2,q⟩:=hm
 exact⟨n,e,h1,h2,fun l a b=>z _ _ (q l a b)⟩
theorem Nl:bL ["bag","n"] ["bag","n"] (ay kq):=⟨rfl,rfl,rfl,by decide+kernel,rfl,by decide+kernel,by decide+kernel⟩
theorem TU(F:bE K "_law_lots" "_law_lots" kq f fd)(bQ:Callee P w K mg base "_law_draw" 1 ["bag","many"] fQ)(gJ:mg "sorted"=none)(ly:mg "set"=none)(bq:mg "range"=none):
  aS P w K mg base bw 2 f fd ["bag","n"] (bS 2 pP):=by
 refine F.ok Nl (fun vs H Q E h=>h.1) (fun cdv A outer s H vs Q E hr h=>?_)
 obtain⟨_,b,l,ws,nb,ds,rfl,hB,hlive,hnb,hds,hF⟩:=h
 obtain⟨Φ,aA,hF⟩:∃Φ:Pd,(∀f d v H',Φ f d->aH (Nb b) H H'->bM H' b l->ah (fun a=>nb a\/(f=true/\H a≠none)) H' d v->Q v H')/\pP ds Φ:=⟨_,fun f d v H' q=>q v H',hF⟩
 obtain⟨n,rfl,n0,n1,q⟩:=hF
 refine⟨_,(@aE _ _ _ (@aU _ _ _ _ (dJ (bJ.of (show cI (ay kq) ["bag","n"] _ ["k","bag","n"] [none,some 0,some 1]=true by decide+kernel)) (@fE _ _ _ _ _ _ rfl bq (@aa _ _ _ _ _ (@aL _ _ _ _ _ _ _ _ _ _ bQ (hr.mono (by decide)) (@aa _ _ _ _ _ (pv 0) (@aa _ _ _ _ _ aj ai rfl) rfl) (by rfl) (by decide) (by rfl) (by rfl)) ai rfl) (by rfl)) (fun _ _ _ _=>⟨(aM (i:=0) (by show List.Nodup (["k","bag","n"]:List Str);decide+kernel) rfl (Or.inl rfl)),fF,(@bN _ _ _ _ _ _ _ _ (oK P w) (A9 rfl) rfl gJ PyProof.Rows.boot_sorted (@aa _ _ _ _ _ (@eO _ _ _ _ _ _ _ _ (nH P w K) (zR rfl) rfl ly PyProof.Rows.boot_set (@aa _ _ _ _ _ (by(refine' Ac (bJ.of (NX:=["k","bag","n"]) (N:=["j","bag","n"]) (mp:=[none,some 1,some 2]) ?uY) ?xr ?uz);(case xr=>exact(fE rfl bq (aa (aF dU aj (aL bQ (hr.mono (by decide)) (aa (pv 1) (aa aj ai rfl) rfl))) ai rfl)));(case uz=>exact(fun _ _ _ _=>⟨(aM (i:=0) (by show List.Nodup (["j","bag","n"]:List Str);decide+kernel) rfl (Or.inl rfl)),fF,(aL bQ (hr.mono (by decide)) (aa (pv 1) (aa (pv 2) ai rfl) rfl))⟩));(case uY=>decide+kernel)) ai rfl) (by decide) (by decide) (by rfl) (by rfl)) ai rfl) (by decide) (by decide) (by rfl) (by rfl))⟩)))),?_⟩
 refine Sv.gX hB hlive hnb hds aA (ρ:=[.ak, .d false _]) rfl ?_
 clear aA hds
 walk_at "dt"
 refine ao.ev (ao.jf (by decide) rfl ?_)
 walk_at "dt"
 intro k0 k1 k2
 walk_at "dt"
 refine fu.rel ku true (fun _ aD=>A6 n aD) ?_ fun dY hl Gp=>?_
 ·rintro i d ⟨hi,rfl⟩
  walk_at "dt"
  refine⟨by walk_at "wk",?_⟩
  walk_at "dt"
  refine ao.ev (ao.Az (ao.ev (ao.jf (by decide) rfl ?_)))
  walk_at "dt"
  intro j0 j1 j2
  walk_at "dt"
  refine fu.ints (fun x=>0<=x/\x<n) ?_ fun os jD hos=>⟨os,rfl,by walk_at "o",fun rs Ih hmem=>?_⟩
  ·rintro i d ⟨hi,rfl⟩
   walk_at "dt"
   refine⟨by walk_at "wk",?_⟩
   walk_at "dt"
   exact fun r r1 r2=>⟨r,rfl,r1,r2⟩
  have hrs:rs.Nodup:=Ih.imp fun h=>by walk_at "o"
  have O1:rs.length<=os.length:=List.Nodup.length_le_of_subset hrs fun k hk=>(hmem k).mp hk
  refine⟨fun _=>rfl,rs,rfl,fun z=>?_,hrs,by walk_at "o",fun x hx=>hos x ((hmem x).mp hx)⟩
  have:0<os.length:=by walk_at "o"
  obtain⟨y,hy⟩:=List.exists_mem_of_length_pos this
  have:=(hmem y).mpr hy
  rw[z] at this;cases this
 ·exact q dY (by walk_at "o") fun aD h=>by
   obtain⟨k,hk⟩:=List.getElem?_of_mem h
   exact Gp k aD hk
noncomputable def nT:DF:=fun ds Φ=>∃(cs:List aq) (wd:Wo),ds=[.list (cs.map aT),cT wd]/\wd.length<64/\cs.length<=1000/\(∀prs∈cs,prs.length<=10000)/\∀g:List Int,gQ cs (cg wd) g->Φ true (.list (g.map .int))
theorem ME:cN nT:=by
 intro ds Φ Ψ hm z
 obtain⟨cs,wd,e,h1,h2,h3,q⟩:=hm
 exact⟨cs,wd,e,h1,h2,h3,fun g a=>z _ _ (q g a)⟩
theorem ko:bL ["bag","checks","word","left","place","order","k","c","here"] ["bag","checks","word"] (ay kK):=⟨rfl,rfl,rfl,by decide+kernel,rfl,by decide+kernel,by decide+kernel⟩
theorem Hh(F:bE K "_law_left" "_law_left" kK f fd)(uX:Callee P w K mg base "_law_turned" 2 ["bag","row"] (bS 2 nG))(bq:mg "range"=none)(gJ:mg "sorted"=none)(aX:mg "len"=none)(ck:mg "list"=none):
    aS P w K mg base bw 3 f fd ["bag","checks","word"] (bS 3 nT):=by
  refine F.ok ko (fun vs H Q E h=>h.1) (fun cdv A outer s H vs Q E hr h=>?_)
  obtain⟨_,b,l,ws,nb,ds,rfl,hB,hlive,hnb,hds,hF⟩:=h
  obtain⟨Φ,aA,hF⟩:∃Φ:Pd,(∀f d v H',Φ f d->aH (Nb b) H H'->bM H' b l->ah (fun a=>nb a\/(f=true/\H a≠none)) H' d v->Q v H')/\nT ds Φ:=⟨_,fun f d v H' q=>q v H',hF⟩
  obtain⟨cs,wd,rfl,hwl,hcl,hpl,q⟩:=hF
  refine⟨_,(@az _ _ _ _ _ (@aN _ _ (3) _ _ _ _ ko.nd rfl (Or.inr rfl) Ep (by rfl) (by first|exact .inl rfl|exact .inr rfl|assumption)) (@az _ _ _ _ _ (@fZ _ _ _ _ _ _ _ _ PassesOwn.never rfl (@fE _ _ _ _ _ _ rfl bq (@aa _ _ _ _ _ (@bN _ _ _ _ _ _ _ _ (cC K) cY rfl aX PySem.boot_len (@aa _ _ _ _ _ (pv 2) ai rfl) (by decide) (by decide) (by rfl) (by rfl)) ai rfl) (by rfl)) (aM (i:=4) ko.nd rfl (Or.inl rfl)) (@aE _ _ _ (@cP _ _ _ _ _ _ _ _ (@aO _ _ _ _ _ _ _ _ uC (@aK _ _ _ _ _ _ (bU K) bu (pv 2) (pv 4) (fun _ _=>rfl)) eU (aQ _)) (@aE _ _ _ (@ia _ _ _ _ _ _ gG (i7 (pv 3) (pv 4) set_dict) (by rfl) (by rfl) (by rfl))) cV)) (by intro _;rfl)) (@az _ _ _ _ _ (@aN _ _ (5) _ _ _ _ ko.nd rfl (Or.inl rfl) (@aL _ _ _ _ _ _ _ _ _ _ uX (hr.mono (by decide)) (@aa _ _ _ _ _ (pv 0) (@aa _ _ _ _ _ (@eO _ _ _ _ _ _ _ _ _ (pO rfl) rfl ck PyProof.Rows.boot_list (@aa _ _ _ _ _ (@eO _ _ _ _ _ _ _ _ _ qh rfl bq PyProof.Rows.boot_range (@aa _ _ _ _ _ (@bN _ _ _ _ _ _ _ _ (cC K) cY rfl aX PySem.boot_len (@aa _ _ _ _ _ (pv 1) ai rfl) (by decide) (by decide) (by rfl) (by rfl)) ai rfl) (by decide) (by decide) (by rfl) (by rfl)) ai rfl) (by decide) (by decide) (by rfl) (by rfl)) ai rfl) rfl) (by rfl) (by decide) (by rfl) (by rfl)) (by rfl) (by first|exact .inl rfl|exact .inr rfl|assumption)) (@az _ _ _ _ _ (@fZ _ _ _ _ _ _ _ _ PassesOwn.never rfl (@fE _ _ _ _ _ _ rfl bq (@aa _ _ _ _ _ (@aF _ _ _ _ _ _ _ _ dU (@bN _ _ _ _ _ _ _ _ (sI) HF rfl aX PySem.boot_len (@aa _ _ _ _ _ (pv 3) ai rfl) (by decide) (by decide) (by rfl) (by rfl)) aj) ai rfl) (by rfl)) (aM (i:=6) ko.nd rfl (Or.inl rfl)) (@aE _ _ _ (@fZ _ _ _ _ _ _ _ _ PassesOwn.never rfl (cQ (K:=K) rfl (pv 5)) (aM (i:=7) ko.nd rfl (Or.inl rfl)) (@az _ _ _ _ _ (oB (i:=8) ko.nd rfl rfl (bJ.of (show cI (ay kK) ["bag","checks","word","left","place","order","k","c","here"] _ ["place","factor","left"] [none,none,some 3]=true by decide+kernel)) (cQ (K:=K) rfl (@aK _ _ _ _ _ _ (bU K) bu (pv 1) (pv 7) (fun _ _=>rfl))) (fun _ _ _ _=>⟨(@jO _ (K) _ _ _ (2) _ rfl rfl (@dB _ _ _ _ _ (aM (i:=0) (by show List.Nodup (["place","factor","left"]:List Str);decide+kernel) rfl (Or.inl rfl)) (@dB _ _ _ _ _ (aM (i:=1) (by show List.Nodup (["place","factor","left"]:List Str);decide+kernel) rfl (Or.inl rfl)) jo (by rfl)) (by rfl)) (by rfl) (by rfl)),(gY (@aO _ _ _ _ _ _ _ _ (C0 hr.units) (pv 0) (pv 2) (by with_unfolding_all rfl))),(pv 0)⟩)) (@aE _ _ _ (@cP _ _ _ _ _ _ _ _ (@aO _ _ _ _ _ _ _ _ fN (@bN _ _ _ _ _ _ _ _ (cC K) cY rfl aX PySem.boot_len (@aa _ _ _ _ _ (pv 8) ai rfl) (by decide) (by decide) (by rfl) (by rfl)) aj (aQ _)) (@aE _ _ _ (@uW _ _ _ _ (qm PySem.F.plainAttrs_dict PySem.F.slot_dict_pop PySem.F.type_dict_pop GG (pv 3) (@aa _ _ _ _ _ (@aK _ _ _ _ _ _ (bU K) bu (pv 8) aj (fun _ _=>rfl)) ai rfl)) (by rfl))) cV))) (by intro _;rfl))) (by intro _;rfl)) (@aE _ _ _ (@aU _ _ _ _ (@bN _ _ _ _ _ _ _ _ (pM) (BQ rfl) rfl gJ PyProof.Rows.boot_sorted (@aa _ _ _ _ _ (pv 3) ai rfl) (by decide) (by decide) (by rfl) (by rfl)))))))),?_⟩
  refine Sv.gX hB hlive hnb hds aA (ρ:=[.ak, .d false _, .d false _, .no, .no, .no, .no, .no, .no]) rfl ?_
  clear aA hds
  have A5:((wd.map br).length:Int)=wd.length:=by rw[List.length_map]
  have lz:((cs.map aT).length:Int)=cs.length:=by rw[List.length_map]
  have Wr:=SM wd
  refine Sv.seq ?_
  refine Sv.Dr (mX.new ?_)
  intro A3
  refine Sv.seq ?_
  refine Sv.oV ?_
  refine Ev.gZ ?_
  refine Ev.var rfl ?_
  refine⟨_, .inl rfl,_,rfl,by walk_at "o",by walk_at "o",?_⟩
  rw[show((wd.map br).length:Int).toNat=wd.length by walk_at "o"]
  refine⟨fun i ρ=>∃(f:Bool) (x4:Sl),ρ=[.ak, .d false (.list (cs.map aT)), .d false (cT wd), .bA A3 f (eZ (gh wd i)),x4, .no, .no, .no, .no],⟨_,_,rfl⟩,?_,?_⟩
  · rintro i d ρ ⟨hi,rfl⟩ ⟨f,x4,rfl⟩
    obtain⟨o,ho,hat⟩:=ic (xs:=wd) br (k:=0+(i:Int)) (by walk_at "o") (by walk_at "o") rfl
    rw[show(0+(i:Int)).toNat=i by walk_at "o"] at ho
    have u6:=U3 wd i
    generalize oG:(dZ _ (jN (aZ 3) _ _):TS)=tl
    walk_at "dt"
    rw[nj]
    have es:=CY wd i
    cases o with
    | none =>
      rw[if_pos ho] at es
      walk_at "dt"
      subst oG
      refine Sv.Ah rfl ?_
      walk_at "dt"
      refine⟨by unfold eZ;rw[List.length_map];walk_at "o",?_⟩
      rw[show(0+(i:Int))=i by walk_at "o",RJ (KW wd i),<-es]
      exact⟨_,_,rfl⟩
    | some y =>
      rw[if_neg (by rw[ho];simp)] at es
      walk_at "dt"
      show∃(f:Bool) (x4:Sl),(_:Rh)=[Sl.ak,Sl.d false (.list (cs.map aT)),Sl.d false (cT wd),Sl.bA A3 f (eZ (gh wd (i+1))),x4,Sl.no,Sl.no,Sl.no,Sl.no]
      rw[es]
      exact⟨_,_,rfl⟩
  rintro ρ ⟨f,x4,rfl⟩
  rw[BA]
  refine Sv.seq ?_
  refine Sv.asg ?_
  refine Ev.ff Et rfl ?_
  refine Av.cons ?_
  refine ao.ev (ao.pR ?_)
  refine Ev.gZ ?_
  refine Ev.var rfl ?_
  refine⟨_, .inl rfl,_,rfl,by walk_at "o",by walk_at "o",?_⟩
  rw[show((cs.map aT).length:Int).toNat=cs.length by walk_at "o"]
  refine Av.nil ?_
  refine⟨rfl,_,rfl,by rw[List.length_map,List.length_map,List.length_range];walk_at "o",fun f1 rs dQ=>?_⟩
  obtain⟨ord,rfl,hord⟩:=tX dQ _ rfl
  have hmem:∀c:Nat,c<cs.length->(c:Int)∈ord:=fun c hc=>hord.mem_iff.mpr (List.mem_map.mpr ⟨c,List.mem_range.mpr hc,by walk_at "o"⟩)
  have oN:∀x∈ord,0<=x/\x<cs.length:=fun x hx=>by
    obtain⟨c,hc,rfl⟩:=List.mem_map.mp (hord.mem_iff.mp hx)
    have:=List.mem_range.mp hc
    walk_at "o"
  refine Gv.iA ?_
  refine Sv.seq ?_
  refine Sv.oV ?_
  refine Ev.eY ?_
  refine Ev.Fi rfl ?_
  have Hi:(eZ (cg wd)).length=(cg wd).length:=by unfold eZ;rw[List.length_map]
  refine⟨_,rfl,Ev.int ⟨_,rfl,_,rfl,by walk_at "o",by walk_at "o",?_⟩⟩
  rw[Hi,show(((cg wd).length:Int)+1).toNat=(cg wd).length+1 by walk_at "o"]
  refine⟨fun t ρ=>∃(S:List Int) (f:Bool) (x6 x7 x8:Sl),((∃q:Int->Bool,S=(cg wd).filter q)/\(eG cs S=true\/S.length+t<=(cg wd).length)/\∀T:List Int,(∀x∈T,x∈cg wd)->eG cs T=true->∀x∈T,x∈S)/\ρ=[.ak, .d false (.list (cs.map aT)), .d false (cT wd), .bA A3 f (eZ S),x4, .d false (.list (ord.map .int)),x6,x7,x8],⟨cg wd,_,_,_,_,⟨⟨fun _=>true,(List.filter_eq_self.mpr fun _ _=>rfl).symm⟩, .inr (Nat.le_refl _),fun T hT _=>hT⟩,rfl⟩,?_,?_⟩
  · rintro t d ρ ⟨ht,rfl⟩ ⟨S0,f,x6,x7,x8,⟨hS1,hS2,hS3⟩,rfl⟩
    refine Gv.oE ?_
    refine Sv.forL ?_
    refine Ev.var rfl ?_
    refine⟨_,rfl,fun v2=>⟨fun i ρ=>∃(S:List Int) (f:Bool) (x7 x8:Sl),((∃q:Int->Bool,S=(cg wd).filter q)/\(S.length<S0.length\/S=S0/\∀c∈ord.take i,∀prs,cs[c.toNat]?=some prs->dz S prs≠1)/\∀T:List Int,(∀x∈T,x∈cg wd)->eG cs T=true->∀x∈T,x∈S)/\ρ=[.ak, .d false (.list (cs.map aT)), .d false (cT wd), .bA A3 f (eZ S),x4, .d false (.list (ord.map .int)), .d true (.int (0+(t:Int))),x7,x8],⟨S0,_,_,_,⟨hS1, .inr ⟨rfl,fun _ h=>(by simp at h)⟩,hS3⟩,rfl⟩,?_,?_⟩⟩
    · rintro i d ρ hd ⟨S,f,x7,x8,⟨g1,g2,g4⟩,rfl⟩
      obtain⟨c,hc,rfl⟩:=fK hd
      obtain⟨c0,c1⟩:=oN c (List.mem_of_getElem? hc)
      obtain⟨prs,bh,hat⟩:=ic (xs:=cs) aT c0 c1 rfl
      have dQ:=List.mem_of_getElem? bh
      have MQ:(prs.map pairD).length=prs.length:=List.length_map ..
      have Wa:=hpl prs dQ
      refine Gv.oE ?_
      refine Sv.seq ?_
      refine Sv.sY ?_
      refine ao.ev (ao.fR (by decide) rfl ?_)
      walk_at "dt"
      refine fun v=>⟨true,fun i ds=>ds=((prs.take i).filter fun pr=>decide (pr.1∈S)).map fun pr=> .int pr.1,rfl,?_,?_⟩
      · rintro i d ds hd hl' rfl
        obtain⟨pr,bP,rfl⟩:=fK hd
        walk_at "dt"
        refine⟨by walk_at "wk",?_⟩
        refine Tv.test ?_
        refine Ev.Ex rfl ?_
        walk_at "dt"
        rw[yz]
        by_cases c:pr.1∈S
        · rw[if_pos (by simpa using c)]
          walk_at "dt"
          show _=List.map _ (List.filter _ (prs.take (i+1)))
          rw[take_snoc bP,pD,if_pos c,List.map_append]
          rfl
        · rw[if_neg (by simpa using c)]
          show _=List.map _ (List.filter _ (prs.take (i+1)))
          rw[take_snoc bP,pD,if_neg c,List.append_nil]
      rintro ds hl' rfl
      rw[MQ,List.take_length]
      refine Sv.jA ?_
      refine Tv.test ?_
      refine Ev.eq ?_
      refine Ev.gZ ?_
      walk_at "dt"
      rw[List.length_map]
      by_cases c9:dz S prs=1
      · rw[if_pos (decide_eq_true (by unfold dz at c9;walk_at "o"))]
        obtain⟨pr,Be⟩:=List.length_eq_one_iff.mp (show(prs.filter fun pr=>decide (pr.1∈S)).length=1 from c9)
        obtain⟨h1,h2⟩:=List.mem_filter.mp (show pr∈prs.filter fun pr=>decide (pr.1∈S) by rw[Be];exact List.mem_singleton.mpr rfl)
        have jC:pr.1∈S:=of_decide_eq_true h2
        rw[Be]
        refine Sv.NV rfl ?_
        walk_at "dt"
        refine⟨by rw[yz];exact decide_eq_true jC,?_⟩
        rw[QB]
        have hlt:=Gk jC
        refine⟨_,_,_,_,⟨?_, .inl ?_,Ib g4 dQ c9 (List.mem_map.mpr ⟨pr,h1,rfl⟩)⟩,rfl⟩
        · obtain⟨qq,e⟩:=g1
          exact⟨_,by rw[e,List.filter_filter]⟩
        · rcases g2 with g2|g2
          · walk_at "o"
          · rw[g2.1] at hlt⊢;exact hlt
      · rw[if_neg (by simp;unfold dz at c9;walk_at "o")]
        refine Sv.next ?_
        refine⟨S,_,_,_,⟨g1,?_,g4⟩,rfl⟩
        rcases g2 with g2|⟨g2,g3⟩
        · exact .inl g2
        · refine .inr ⟨g2,fun u hu je yt=>?_⟩
          rw[take_snoc hc] at hu
          rcases List.mem_append.mp hu with h|h
          · exact g3 u h je yt
          · rw[List.mem_singleton.mp h,bh] at yt
            cases yt
            exact c9
    · rintro ρ ⟨S,f,x7,x8,⟨g1,g2,g4⟩,rfl⟩
      rw[List.length_map,List.take_length] at g2
      refine⟨S,_,_,_,_,⟨g1,?_,g4⟩,rfl⟩
      rcases g2 with g2|⟨rfl,g3⟩
      · rcases hS2 with z|z
        · exfalso
          have hsub:=g4 S0 (fun x hx=>by obtain⟨qq,e⟩:=hS1;rw[e] at hx;exact(List.mem_filter.mp hx).1) z
          have nd:S0.Nodup:=by obtain⟨qq,e⟩:=hS1;rw[e];exact((mD wd).imp fun h=>by walk_at "o").filter _
          have:=List.Nodup.length_le_of_subset nd hsub
          walk_at "o"
        · exact .inr (by walk_at "o")
      · left
        unfold eG
        rw[List.all_eq_true]
        intro prs bh
        obtain⟨c,hc,e⟩:=List.getElem_of_mem bh
        refine decide_eq_true (g3 (c:Int) (hmem c hc) prs ?_)
        rw[Int.toNat_natCast,List.getElem?_eq_getElem hc,e]
  · rintro ρ ⟨S,f,x6,x7,x8,⟨g1,g2,g4⟩,rfl⟩
    have hG:gQ cs (cg wd) S:=⟨g1,by rcases g2 with z|z;exact z;walk_at "o",g4⟩
    have Wq:S.length<=(cg wd).length:=by obtain⟨qq,e⟩:=g1;rw[e];exact List.length_filter_le _ _
    refine Sv.ret (ao.ev ?_)
    refine ao.Bj rfl (by unfold eZ;rw[List.length_map];walk_at "o") fun rs hs hp=>?_
    have e:(eZ S).map (·.1)=S:=by unfold eZ;rw[List.map_map];exact List.map_id'' (fun _=>rfl) S
    rw[e] at hp
    rw[Je (hG.up (mD wd)) hs hp]
    exact q S hG
noncomputable def oX:Option (List Int)->PyData
 |none=> .none
 |some os=> .list (os.map .int)
noncomputable def pI:DF:=fun ds Φ=>∃(p:Int) (wd w2:Wo) (left:List Int) (tr:Option (List Int)),ds=[.int p,cT wd,cT w2, .list (left.map .int),oX tr]/\wd.length<=1000/\w2.length=wd.length/\cg w2=left/\(∀(i:Nat) x,w2[i]?=some (some x)->0<=x/\x<p)/\(∀(i:Nat) x,wd[i]?=some (some x)->w2[i]?=some (some x))/\(∀os,tr=some os->os.length=wd.length/\Agree os w2)/\Φ true (.bool true)
theorem GL:cN pI:=by
 intro ds Φ Ψ hm z
 obtain⟨p,wd,w2,left,tr,e,h1,h2,h3,h4,h5,h6,q⟩:=hm
 exact⟨p,wd,w2,left,tr,e,h1,h2,h3,h4,h5,h6,z _ _ q⟩
theorem yi:bL ["p","word","there","left","true","place","letter"] ["p","word","there","left","true"] (ay kG):=⟨rfl,rfl,rfl,by decide+kernel,rfl,by decide+kernel,by decide+kernel⟩
theorem Na(F:bE K "_law_right" "_law_right" kG f fd)(HK:Callee P w K mg base "_law_whole" 1 ["found"] xg)(bq:mg "range"=none)(aX:mg "len"=none)(iM:mg "isinstance"=none)(ck:mg "list"=none):
    aS P w K mg base bw 2 f fd ["p","word","there","left","true"] (dD 5 pI):=by
  refine F.ok yi (fun vs H Q E h=>h.1) (fun cdv A outer s H vs Q E hr h=>?_)
  obtain⟨_,nb,ds,hlive,hds,hF⟩:=h
  obtain⟨Φ,aA,hF⟩:∃Φ:Pd,(∀f d v H',Φ f d->bI H H'->ah (fun a=>nb a\/(f=true/\H a≠none)) H' d v->Q v H')/\pI ds Φ:=⟨_,fun f d v H' q=>q v H',hF⟩
  obtain⟨p,wd,w2,left,tr,rfl,hwl,AW,hleft,oN,hkn,htr,q⟩:=hF
  refine⟨_,(@az _ _ _ _ _ (@cP _ _ _ _ _ _ _ _ (PW.pt (qf (@pC _ _ _ _ (@jB _ (K) _ _ rfl (@bN _ _ _ _ _ _ _ _ (jx K) qJ rfl iM PyProof.Rows.boot_isinstance (@aa _ _ _ _ _ (pv 2) (@aa _ _ _ _ _ (pA (v:= .ty "list") rfl ck PyProof.Rows.boot_list rfl) ai rfl) rfl) (by decide) (by decide) (by rfl) (by rfl)) (fun _=>rfl))) (zd (@aO _ _ _ _ _ _ _ _ jh (@bN _ _ _ _ _ _ _ _ (cC K) cY rfl aX PySem.boot_len (@aa _ _ _ _ _ (pv 2) ai rfl) (by decide) (by decide) (by rfl) (by rfl)) (@bN _ _ _ _ _ _ _ _ (cC K) cY rfl aX PySem.boot_len (@aa _ _ _ _ _ (pv 1) ai rfl) (by decide) (by decide) (by rfl) (by rfl)) (aQ _))))) (@aE _ _ _ (@aU _ _ _ _ gG)) cV) (@az _ _ _ _ _ (@cP _ _ _ _ _ _ _ _ (@aO _ _ _ _ _ _ _ _ (nQ hr.units) (dJ (bJ.of (show cI (ay kG) ["p","word","there","left","true","place","letter"] _ ["place","there"] [none,some 2]=true by decide+kernel)) (@fE _ _ _ _ _ _ rfl bq (@aa _ _ _ _ _ (@bN _ _ _ _ _ _ _ _ (cC K) cY rfl aX PySem.boot_len (@aa _ _ _ _ _ (pv 1) ai rfl) (by decide) (by decide) (by rfl) (by rfl)) ai rfl) (by rfl)) (fun _ _ _ _=>⟨(aM (i:=0) (by show List.Nodup (["place","there"]:List Str);decide+kernel) rfl (Or.inl rfl)),(gY (@aO _ _ _ _ _ _ _ _ uC (@aK _ _ _ _ _ _ (bU K) bu (pv 1) (pv 0) (fun _ _=>rfl)) eU (aQ _))),(pv 0)⟩)) (pv 3) (aQ _)) (@aE _ _ _ (@aU _ _ _ _ gG)) cV) (@az _ _ _ _ _ (@fZ _ _ _ _ _ _ _ _ PassesOwn.never rfl (@fE _ _ _ _ _ _ rfl bq (@aa _ _ _ _ _ (@bN _ _ _ _ _ _ _ _ (cC K) cY rfl aX PySem.boot_len (@aa _ _ _ _ _ (pv 1) ai rfl) (by decide) (by decide) (by rfl) (by rfl)) ai rfl) (by rfl)) (aM (i:=5) yi.nd rfl (Or.inl rfl)) (@az _ _ _ _ _ (@aN _ _ (6) _ _ _ _ yi.nd rfl (Or.inl rfl) (@aK _ _ _ _ _ _ (bU K) bu (pv 2) (pv 5) (fun _ _=>rfl)) (by rfl) (by first|exact .inl rfl|exact .inr rfl|assumption)) (@az _ _ _ _ _ (@cP _ _ _ _ _ _ _ _ (PW.pt (gk (@aO _ _ _ _ _ _ _ _ iO (pv 6) eU (aQ _)) (gH (PW.pt (qf (@pC _ _ _ _ (@jB _ (K) _ _ rfl (@aL _ _ _ _ _ _ _ _ _ _ HK (hr.mono (by decide)) (@aa _ _ _ _ _ (pv 6) ai rfl) (by rfl) (by decide) (by rfl) (by rfl)) (fun _=>rfl))) (qf (@aO _ _ _ _ _ _ _ _ xR (pv 6) aj (aQ _)) (zd (@aO _ _ _ _ _ _ _ _ UB (pv 6) (pv 0) (aQ _))))))))) (@aE _ _ _ (@aU _ _ _ _ gG)) cV) (@az _ _ _ _ _ (@cP _ _ _ _ _ _ _ _ (PW.pt (gk (@aO _ _ _ _ _ _ _ _ iO (pv 6) eU (aQ _)) (gk (@aO _ _ _ _ _ _ _ _ iO (@aK _ _ _ _ _ _ (bU K) bu (pv 1) (pv 5) (fun _ _=>rfl)) eU (aQ _)) (gH (@aO _ _ _ _ _ _ _ _ jh (pv 6) (@aK _ _ _ _ _ _ (bU K) bu (pv 1) (pv 5) (fun _ _=>rfl)) (aQ _)))))) (@aE _ _ _ (@aU _ _ _ _ gG)) cV) (@aE _ _ _ (@cP _ _ _ _ _ _ _ _ (PW.pt (gk (@aO _ _ _ _ _ _ _ _ iO (pv 6) eU (aQ _)) (gk (@aO _ _ _ _ _ _ _ _ iO (pv 4) eU (aQ _)) (gH (@aO _ _ _ _ _ _ _ _ jh (pv 6) (@aK _ _ _ _ _ _ (bU K) bu (pv 4) (pv 5) (fun _ _=>rfl)) (aQ _)))))) (@aE _ _ _ (@aU _ _ _ _ gG)) cV))))) (by intro _;rfl)) (@aE _ _ _ (@aU _ _ _ _ gG))))),?_⟩
  refine Sv.i6 hlive hds aA (ρ:=[.d false _, .d false _, .d false _, .d false _, .d false _, .no, .no]) rfl ?_
  clear aA hds
  have A5:((wd.map br).length:Int)=wd.length:=by rw[List.length_map]
  have WL:((w2.map br).length:Int)=wd.length:=by rw[List.length_map,AW]
  refine Sv.seq ?_
  refine Sv.jA ?_
  walk_at "dt"
  refine ao.ev (ao.jf (by decide) rfl ?_)
  refine Ev.gZ ?_
  refine Ev.var rfl ?_
  refine⟨_, .inl rfl,_,rfl,by walk_at "o",by walk_at "o",?_⟩
  rw[show((wd.map br).length:Int).toNat=wd.length by walk_at "o"]
  refine⟨true,fun i ds=>ds=(gh w2 i).map PyData.int,rfl,?_,?_⟩
  · rintro i d ds ⟨hi,rfl⟩ hl' rfl
    obtain⟨o,ho,hat⟩:=ic (xs:=w2) br (k:=0+(i:Int)) (m:=w2.length) (by walk_at "o") (by walk_at "o") rfl
    rw[show(0+(i:Int)).toNat=i by walk_at "o"] at ho
    have es:=CY w2 i
    walk_at "dt"
    refine⟨by walk_at "wk",?_⟩
    walk_at "dt"
    rw[nj]
    cases o with
    | none =>
      rw[if_pos ho] at es
      walk_at "dt"
      show _=List.map PyData.int (gh w2 (i+1))
      rw[es,List.map_append,show(0+(i:Int))=i by walk_at "o"]
      rfl
    | some x =>
      rw[if_neg (by rw[ho];simp)] at es
      walk_at "dt"
      show _=List.map PyData.int (gh w2 (i+1))
      rw[es]
  rintro ds hl' rfl
  rw[<-AW,BA,hleft]
  walk_at "dt"
  refine⟨shaped_ints _,shaped_ints _,_,rfl,?_⟩
  rw[eqv_refl _ (.inl (shaped_ints left))]
  rw[if_neg (by simp)]
  refine Sv.next ?_
  refine Sv.seq ?_
  refine Sv.oV ?_
  refine Ev.gZ ?_
  refine Ev.var rfl ?_
  refine⟨_, .inl rfl,_,rfl,by walk_at "o",by walk_at "o",?_⟩
  rw[show((wd.map br).length:Int).toNat=wd.length by walk_at "o"]
  refine⟨fun i ρ=>∃(x5 x6:Sl),ρ=[.d false (.int p), .d false (cT wd), .d false (cT w2), .d false (.list (left.map .int)), .d false (oX tr),x5,x6],⟨_,_,rfl⟩,?_,?_⟩
  · rintro i d ρ ⟨hi,rfl⟩ ⟨x5,x6,rfl⟩
    obtain⟨o,ho,hat⟩:=ic (xs:=w2) br (k:=0+(i:Int)) (m:=w2.length) (by walk_at "o") (by walk_at "o") rfl
    obtain⟨o1,wJ,kg⟩:=ic (xs:=wd) br (k:=0+(i:Int)) (m:=wd.length) (by walk_at "o") (by walk_at "o") rfl
    rw[show(0+(i:Int)).toNat=i by walk_at "o"] at ho wJ
    cases o with
    | none =>
      have hat:bF (w2.map br) (0+(i:Int))=some PyData.none:=hat
      walk_at "dt"
      exact⟨_,_,rfl⟩
    | some y =>
      have hat:bF (w2.map br) (0+(i:Int))=some (PyData.int y):=hat
      obtain⟨y0,y1⟩:=oN i y ho
      have HR:∀os,tr=some os->bF (os.map PyData.int) (0+(i:Int))=some (.int y):=fun os e=>by
        obtain⟨e1,e2⟩:=htr os e
        exact j5 (by walk_at "o") (by rw[show(0+(i:Int)).toNat=i by walk_at "o",List.getElem?_map,e2 i y ho];rfl)
      clear htr
      have N6:bF (wd.map br) (0+(i:Int))=some PyData.none\/bF (wd.map br) (0+(i:Int))=some (PyData.int y):=by
        cases o1 with
        |none=>exact .inl kg
        | some y2 =>
          have:=hkn i y2 wJ
          rw[ho] at this
          cases this
          exact .inr kg
      clear kg wJ
      rcases N6 with kg|kg<;>cases tr with
      | none =>
        show Gv _ [_,_,_,_,Sl.d false PyData.none,_,_] _ _ _ _
        walk_at "dt"
        exact⟨_,_,rfl⟩
      | some os =>
        have Wt:=HR os rfl
        show Gv _ [_,_,_,_,Sl.d false (PyData.list (os.map PyData.int)),_,_] _ _ _ _
        walk_at "dt"
        exact⟨_,_,rfl⟩
  · rintro ρ ⟨x5,x6,rfl⟩
    walk_at "dt"
    exact q
noncomputable abbrev mC(a:Addr)(tr:Bool)(way p:Int)(whole:List Int)(dY:List (List Int))(many:Int)(iK:List aq)(x9 Tu gF gu Hq nW n5 nU:Sl):Rh:=[.raw (.ref a), .ak, .d true (.bool tr), .d true (.int way), .d true (.int p), .d true (.list (whole.map .int)), .d false (.list (dY.map ku)), .d true (.int many), .d false (dO p whole.length iK),x9,Tu,gF,gu,Hq,nW,n5,nU]
structure pY(p:Int)(whole:List Int)(tr:Bool)(cs:List aq):Prop where
 cl:cs.length<=400
 ok:∀prs∈cs,prs.length<=1000/\∀pr∈prs,0<=pr.1/\pr.1<whole.length/\1<=pr.2/\pr.2<p
 tw:tr=true->∀prs∈cs,aW prs (whole.map some)%p=0
theorem pY.q{p:Int}{whole:List Int}{tr:Bool}{cs:List aq}(h:pY p whole tr cs)(hp:dP p)(fV:p<10^40):e7 p cs whole.length:=by
 refine⟨hp,fV,by have:=h.cl;walk_at "o",fun prs bh=>⟨(h.ok prs bh).1,fun pr bP=>?_,fun pr bP=>?_⟩⟩
 ·obtain⟨a,b,c,d⟩:=(h.ok prs bh).2 pr bP
  exact⟨a,b,by unfold Sm;walk_at "o"⟩
 ·obtain⟨a,b,c,d⟩:=(h.ok prs bh).2 pr bP
  rw[Int.emod_eq_of_lt (by walk_at "o") d];walk_at "o"
theorem dX:bL ["script","bag","true","way","p","whole","lots","many","net","checks","word","lot","place","left","order","handed","found"] ["script"] (ay fW):=⟨rfl,rfl,rfl,by decide+kernel,rfl,by decide+kernel,by decide+kernel⟩
theorem TM(F:bE K "law" "law" fW f fd)(Qj:Callee P w K mg base "_law_bag" 1 ["script"] (DQ K))(RB:Callee P w K mg base "_law_prime" 2 ["bag"] (bS 1 qE))(JG:Callee P w K mg base "_law_letters" 3 ["bag","p","n"] (bS 3 qO))(GN:Callee P w K mg base "_law_lots" 2 ["bag","n"] (bS 2 pP))(bQ:Callee P w K mg base "_law_draw" 1 ["bag","many"] fQ)(PY:Callee P w K mg base "_law_net" 3 ["bag","p","n","many","wide"] (bS 5 qv))(Mc:Callee P w K mg base "_law_lossy" 2 ["bag","word"] (bS 2 nO))(Jg:Callee P w K mg base "_law_left" 3 ["bag","checks","word"] (bS 3 nT))(SI:Callee P w K mg base "_law_planted" 4 ["bag","p","word","many","wide"] (bS 5 qA))(uX:Callee P w K mg base "_law_turned" 2 ["bag","row"] (bS 2 nG))(HJ:Callee P w K mg base "mended" 8 ["net","word"] (dD 2 nh))(HE:Callee P w K mg base "_law_right" 2 ["p","word","there","left","true"] (dD 5 pI))(zV:Callee P w K mg base "_law_just_one" 1 ["pairs","lot"] (dD 2 oY))(aX:mg "len"=none)(ck:mg "list"=none)(bq:mg "range"=none)(iM:mg "isinstance"=none)(uD:mg "tuple"=none):
    aS P w K mg base bw 9 f fd ["script"] (qW K):=by
  refine F.ok dX (fun vs H Q E h=>?_) (fun cdv A outer s H vs Q E hr h=>?_)
  · obtain⟨a,ns,rfl,hS,hl,q⟩:=h
    rfl
  obtain⟨a,ns,rfl,hS,hl,q⟩:=h
  refine⟨_,(@az _ _ _ _ _ (@aN _ _ (1) _ _ _ _ dX.nd rfl (Or.inl rfl) (@aL _ _ _ _ _ _ _ _ _ _ Qj (hr.mono (by decide)) (@aa _ _ _ _ _ (pv 0) ai rfl) (by rfl) (by decide) (by rfl) (by rfl)) (by rfl) (by first|exact .inl rfl|exact .inr rfl|assumption)) (@az _ _ _ _ _ (@aN _ _ (2) _ _ _ _ dX.nd rfl (Or.inl rfl) (@zx _ _ _ _ _ _ _ _ fN (@aL _ _ _ _ _ _ _ _ _ _ bQ (hr.mono (by decide)) (@aa _ _ _ _ _ (pv 1) (@aa _ _ _ _ _ aj ai rfl) rfl) (by rfl) (by decide) (by rfl) (by rfl)) aj (aQ _)) (by rfl) (by first|exact .inl rfl|exact .inr rfl|assumption)) (@az _ _ _ _ _ (@aN _ _ (3) _ _ _ _ dX.nd rfl (Or.inl rfl) (@aF _ _ _ _ _ _ _ _ jW (@aL _ _ _ _ _ _ _ _ _ _ bQ (hr.mono (by decide)) (@aa _ _ _ _ _ (pv 1) (@aa _ _ _ _ _ aj ai rfl) rfl) (by rfl) (by decide) (by rfl) (by rfl)) aj) (by rfl) (by first|exact .inl rfl|exact .inr rfl|assumption)) (@az _ _ _ _ _ (@aN _ _ (4) _ _ _ _ dX.nd rfl (Or.inl rfl) (@aL _ _ _ _ _ _ _ _ _ _ RB (hr.mono (by decide)) (@aa _ _ _ _ _ (pv 1) ai rfl) (by rfl) (by decide) (by rfl) (by rfl)) (by rfl) (by first|exact .inl rfl|exact .inr rfl|assumption)) (@az _ _ _ _ _ (@aN _ _ (5) _ _ _ _ dX.nd rfl (Or.inl rfl) (@aL _ _ _ _ _ _ _ _ _ _ JG (hr.mono (by decide)) (@aa _ _ _ _ _ (pv 1) (@aa _ _ _ _ _ (pv 4) (@aa _ _ _ _ _ (@aF _ _ _ _ _ _ _ _ dU aj (@aL _ _ _ _ _ _ _ _ _ _ bQ (hr.mono (by decide)) (@aa _ _ _ _ _ (pv 1) (@aa _ _ _ _ _ (@aK _ _ _ _ _ _ (bU K) bu (@eS _ _ _ _ (@aa _ _ _ _ _ aj (@aa _ _ _ _ _ aj ai rfl) rfl)) (pv 3) (fun _ _=>rfl)) ai rfl) rfl) (by rfl) (by decide) (by rfl) (by rfl))) ai rfl) rfl) rfl) (by rfl) (by decide) (by rfl) (by rfl)) (by rfl) (by first|exact .inl rfl|exact .inr rfl|assumption)) (@az _ _ _ _ _ (@aN _ _ (6) _ _ _ _ dX.nd rfl (Or.inr rfl) (@aL _ _ _ _ _ _ _ _ _ _ GN (hr.mono (by decide)) (@aa _ _ _ _ _ (pv 1) (@aa _ _ _ _ _ (@bN _ _ _ _ _ _ _ _ (cC K) cY rfl aX PySem.boot_len (@aa _ _ _ _ _ (pv 5) ai rfl) (by decide) (by decide) (by rfl) (by rfl)) ai rfl) rfl) (by rfl) (by decide) (by rfl) (by rfl)) (by rfl) (by first|exact .inl rfl|exact .inr rfl|assumption)) (@az _ _ _ _ _ (@aN _ _ (7) _ _ _ _ dX.nd rfl (Or.inl rfl) (@aL _ _ _ _ _ _ _ _ _ _ bQ (hr.mono (by decide)) (@aa _ _ _ _ _ (pv 1) (@aa _ _ _ _ _ (@aK _ _ _ _ _ _ (bU K) bu (@eS _ _ _ _ (@aa _ _ _ _ _ aj (@aa _ _ _ _ _ aj ai rfl) rfl)) (pv 3) (fun _ _=>rfl)) ai rfl) rfl) (by rfl) (by decide) (by rfl) (by rfl)) (by rfl) (by first|exact .inl rfl|exact .inr rfl|assumption)) (@az _ _ _ _ _ (@aN _ _ (8) _ _ _ _ dX.nd rfl (Or.inl rfl) (@aL _ _ _ _ _ _ _ _ _ _ PY (hr.mono (by decide)) (@aa _ _ _ _ _ (pv 1) (@aa _ _ _ _ _ (pv 4) (@aa _ _ _ _ _ (@bN _ _ _ _ _ _ _ _ (cC K) cY rfl aX PySem.boot_len (@aa _ _ _ _ _ (pv 5) ai rfl) (by decide) (by decide) (by rfl) (by rfl)) (@aa _ _ _ _ _ (pv 7) (@aa _ _ _ _ _ (@aF _ _ _ _ _ _ _ _ dU aj (@aL _ _ _ _ _ _ _ _ _ _ bQ (hr.mono (by decide)) (@aa _ _ _ _ _ (pv 1) (@aa _ _ _ _ _ aj ai rfl) rfl) (by rfl) (by decide) (by rfl) (by rfl))) ai rfl) rfl) rfl) rfl) rfl) (by rfl) (by decide) (by rfl) (by rfl)) (by rfl) (by first|exact .inl rfl|exact .inr rfl|assumption)) (@az _ _ _ _ _ (@cP _ _ _ _ _ _ _ _ (@jB _ (K) _ _ rfl (pv 2) (fun _=>rfl)) (@aE _ _ _ (@aN _ _ (8) _ _ _ _ dX.nd rfl (Or.inl rfl) (@aL _ _ _ _ _ _ _ _ _ _ SI (hr.mono (by decide)) (@aa _ _ _ _ _ (pv 1) (@aa _ _ _ _ _ (pv 4) (@aa _ _ _ _ _ (pv 5) (@aa _ _ _ _ _ (pv 7) (@aa _ _ _ _ _ (@aF _ _ _ _ _ _ _ _ dU aj (@aL _ _ _ _ _ _ _ _ _ _ bQ (hr.mono (by decide)) (@aa _ _ _ _ _ (pv 1) (@aa _ _ _ _ _ aj ai rfl) rfl) (by rfl) (by decide) (by rfl) (by rfl))) ai rfl) rfl) rfl) rfl) rfl) (by rfl) (by decide) (by rfl) (by rfl)) (by rfl) (by first|exact .inl rfl|exact .inr rfl|assumption))) cV) (@az _ _ _ _ _ (@aN _ _ (9) _ _ _ _ dX.nd rfl (Or.inr rfl) (dJ (bJ.of (show cI (ay fW) ["script","bag","true","way","p","whole","lots","many","net","checks","word","lot","place","left","order","handed","found"] _ ["pairs","lots"] [none,some 6]=true by decide+kernel)) (cQ (K:=K) rfl (@aK _ _ _ _ _ _ (eN K) fP (pv 8) aj (fun _ _=>rfl))) (fun _ _ _ _=>⟨(aM (i:=0) (by show List.Nodup (["pairs","lots"]:List Str);decide+kernel) rfl (Or.inr rfl)),(gY (@aO _ _ _ _ _ _ _ _ (vY hr.units) (by(refine' Ac (bJ.of (NX:=["pairs","lots"]) (N:=["lot","pairs"]) (mp:=[none,some 0]) ?uY) ?xr ?uz);(case xr=>exact(cQ (K:=K) rfl (pv 1)));(case uz=>exact(fun _ _ _ _=>⟨(aM (i:=0) (by show List.Nodup (["lot","pairs"]:List Str);decide+kernel) rfl (Or.inl rfl)),(gY (jB (K:=K) rfl (aL zV (hr.mono (by decide)) (aa (pv 1) (aa (pv 0) ai rfl) rfl)) (fun _=>rfl))),(pv 0)⟩));(case uY=>decide+kernel)) (@eS _ _ _ _ ai) (aQ _))),(pv 0)⟩)) (by rfl) (by first|exact .inl rfl|exact .inr rfl|assumption)) (@az _ _ _ _ _ (@aN _ _ (10) _ _ _ _ dX.nd rfl (Or.inr rfl) (@aL _ _ _ _ _ _ _ _ _ _ Mc (hr.mono (by decide)) (@aa _ _ _ _ _ (pv 1) (@aa _ _ _ _ _ (pv 5) ai rfl) rfl) (by rfl) (by decide) (by rfl) (by rfl)) (by rfl) (by first|exact .inl rfl|exact .inr rfl|assumption)) (@az _ _ _ _ _ (@cP _ _ _ _ _ _ _ _ (@aO _ _ _ _ _ _ _ _ DV (@aL _ _ _ _ _ _ _ _ _ _ bQ (hr.mono (by decide)) (@aa _ _ _ _ _ (pv 1) (@aa _ _ _ _ _ aj ai rfl) rfl) (by rfl) (by decide) (by rfl) (by rfl)) aj (aQ _)) (@aE _ _ _ (@fZ _ _ _ _ _ _ _ _ PassesOwn.never rfl (cQ (K:=K) rfl (pv 6)) (aM (i:=11) dX.nd rfl (Or.inl rfl)) (@aE _ _ _ (@fZ _ _ _ _ _ _ _ _ PassesOwn.never rfl (cQ (K:=K) rfl (pv 11)) (aM (i:=12) dX.nd rfl (Or.inl rfl)) (@aE _ _ _ (@ia _ _ _ _ _ _ eU (i7 (pv 10) (pv 12) set_list) (by rfl) (by rfl) (by rfl))) (by intro _;rfl))) (by intro _;rfl))) cV) (@az _ _ _ _ _ (@aN _ _ (13) _ _ _ _ dX.nd rfl (Or.inr rfl) (@aL _ _ _ _ _ _ _ _ _ _ Jg (hr.mono (by decide)) (@aa _ _ _ _ _ (pv 1) (@aa _ _ _ _ _ (pv 9) (@aa _ _ _ _ _ (pv 10) ai rfl) rfl) rfl) (by rfl) (by decide) (by rfl) (by rfl)) (by rfl) (by first|exact .inl rfl|exact .inr rfl|assumption)) (@az _ _ _ _ _ (@fZ _ _ _ _ _ _ _ _ PassesOwn.never rfl (cQ (K:=K) rfl (pv 6)) (aM (i:=11) dX.nd rfl (Or.inl rfl)) (@aE _ _ _ (@cP _ _ _ _ _ _ _ _ (PW.pt (gk (@aO _ _ _ _ _ _ _ _ (vY hr.units) (dJ (bJ.of (show cI (ay fW) ["script","bag","true","way","p","whole","lots","many","net","checks","word","lot","place","left","order","handed","found"] _ ["place","word"] [none,some 10]=true by decide+kernel)) (cQ (K:=K) rfl (pv 11)) (fun _ _ _ _=>⟨(aM (i:=0) (by show List.Nodup (["place","word"]:List Str);decide+kernel) rfl (Or.inl rfl)),(gY (@aO _ _ _ _ _ _ _ _ iO (@aK _ _ _ _ _ _ (bU K) bu (pv 1) (pv 0) (fun _ _=>rfl)) eU (aQ _))),(pv 0)⟩)) (@eS _ _ _ _ ai) (aQ _)) (gH (@aO _ _ _ _ _ _ _ _ (nQ hr.units) (dJ (bJ.of (show cI (ay fW) ["script","bag","true","way","p","whole","lots","many","net","checks","word","lot","place","left","order","handed","found"] _ ["one","left"] [none,some 13]=true by decide+kernel)) (cQ (K:=K) rfl (pv 11)) (fun _ _ _ _=>⟨(aM (i:=0) (by show List.Nodup (["one","left"]:List Str);decide+kernel) rfl (Or.inl rfl)),(gY (aO (Pb (K:=K) (by rfl)) (pv 0) (pv 1) (by with_unfolding_all rfl))),(pv 0)⟩)) (@eS _ _ _ _ ai) (aQ _))))) (@aE _ _ _ (@aU _ _ _ _ gG)) cV)) (by intro _;rfl)) (@az _ _ _ _ _ (@fZ _ _ _ _ _ _ _ _ PassesOwn.never rfl (cQ (K:=K) rfl (@eS _ _ _ _ (@aa _ _ _ _ _ (@eO _ _ _ _ _ _ _ _ _ (pO rfl) rfl ck PyProof.Rows.boot_list (@aa _ _ _ _ _ (@eO _ _ _ _ _ _ _ _ _ qh rfl bq PyProof.Rows.boot_range (@aa _ _ _ _ _ (@bN _ _ _ _ _ _ _ _ (cC K) cY rfl aX PySem.boot_len (@aa _ _ _ _ _ (pv 9) ai rfl) (by decide) (by decide) (by rfl) (by rfl)) ai rfl) (by decide) (by decide) (by rfl) (by rfl)) ai rfl) (by decide) (by decide) (by rfl) (by rfl)) (@aa _ _ _ _ _ (@aL _ _ _ _ _ _ _ _ _ _ uX (hr.mono (by decide)) (@aa _ _ _ _ _ (pv 1) (@aa _ _ _ _ _ (@eO _ _ _ _ _ _ _ _ _ (pO rfl) rfl ck PyProof.Rows.boot_list (@aa _ _ _ _ _ (@eO _ _ _ _ _ _ _ _ _ qh rfl bq PyProof.Rows.boot_range (@aa _ _ _ _ _ (@bN _ _ _ _ _ _ _ _ (cC K) cY rfl aX PySem.boot_len (@aa _ _ _ _ _ (pv 9) ai rfl) (by decide) (by decide) (by rfl) (by rfl)) ai rfl) (by decide) (by decide) (by rfl) (by rfl)) ai rfl) (by decide) (by decide) (by rfl) (by rfl)) ai rfl) rfl) (by rfl) (by decide) (by rfl) (by rfl)) ai rfl) rfl))) (aM (i:=14) dX.nd rfl (Or.inl rfl)) (@az _ _ _ _ _ (@aN _ _ (15) _ _ _ _ dX.nd rfl (Or.inl rfl) (@gv _ _ _ _ _ (@aa _ _ _ _ _ (pv 4) (@aa _ _ _ _ _ (@bN _ _ _ _ _ _ _ _ (cC K) cY rfl aX PySem.boot_len (@aa _ _ _ _ _ (pv 5) ai rfl) (by decide) (by decide) (by rfl) (by rfl)) (@aa _ _ _ _ _ (dJ (bJ.of (show cI (ay fW) ["script","bag","true","way","p","whole","lots","many","net","checks","word","lot","place","left","order","handed","found"] _ ["c","checks"] [none,some 9]=true by decide+kernel)) (cQ (K:=K) rfl (pv 14)) (fun _ _ _ _=>⟨(aM (i:=0) (by show List.Nodup (["c","checks"]:List Str);decide+kernel) rfl (Or.inl rfl)),fF,(@eO _ _ _ _ _ _ _ _ (g9 K) jK rfl ck PyProof.Rows.boot_list (@aa _ _ _ _ _ (@aK _ _ _ _ _ _ (bU K) bu (pv 1) (pv 0) (fun _ _=>rfl)) ai rfl) (by decide) (by decide) (by rfl) (by rfl))⟩)) ai rfl) rfl) rfl)) (by rfl) (by first|exact .inl rfl|exact .inr rfl|assumption)) (@az _ _ _ _ _ (@aN _ _ (16) _ _ _ _ dX.nd rfl (Or.inl rfl) (@aL _ _ _ _ _ _ _ _ _ _ HJ (hr.mono (by decide)) (@aa _ _ _ _ _ (pv 15) (@aa _ _ _ _ _ (@eO _ _ _ _ _ _ _ _ (g9 K) jK rfl ck PyProof.Rows.boot_list (@aa _ _ _ _ _ (pv 10) ai rfl) (by decide) (by decide) (by rfl) (by rfl)) ai rfl) rfl) (by rfl) (by decide) (by rfl) (by rfl)) (by rfl) (by first|exact .inl rfl|exact .inr rfl|assumption)) (@az _ _ _ _ _ (@cP _ _ _ _ _ _ _ _ (PW.pt (qf (@pC _ _ _ _ (@jB _ (K) _ _ rfl (@bN _ _ _ _ _ _ _ _ (jx K) qJ rfl iM PyProof.Rows.boot_isinstance (@aa _ _ _ _ _ (pv 16) (@aa _ _ _ _ _ (pA (v:= .ty "tuple") rfl uD PyProof.Rows.boot_tuple rfl) ai rfl) rfl) (by decide) (by decide) (by rfl) (by rfl)) (fun _=>rfl))) (zd (@aO _ _ _ _ _ _ _ _ jh (@bN _ _ _ _ _ _ _ _ (cC K) cY rfl aX PySem.boot_len (@aa _ _ _ _ _ (pv 16) ai rfl) (by decide) (by decide) (by rfl) (by rfl)) aj (aQ _))))) (@aE _ _ _ (@aU _ _ _ _ gG)) cV) (@az _ _ _ _ _ (@cP _ _ _ _ _ _ _ _ (@pC _ _ _ _ (@jB _ (K) _ _ rfl (@aL _ _ _ _ _ _ _ _ _ _ HE (hr.mono (by decide)) (@aa _ _ _ _ _ (pv 4) (@aa _ _ _ _ _ (pv 10) (@aa _ _ _ _ _ (@aK _ _ _ _ _ _ (eN K) fP (pv 16) aj (fun _ _=>rfl)) (@aa _ _ _ _ _ (pv 13) (@aa _ _ _ _ _ (@rJ _ _ _ _ _ _ _ _ (@jB _ (K) _ _ rfl (pv 2) (fun _=>rfl)) (pv 5) eU) ai rfl) rfl) rfl) rfl) rfl) (by rfl) (by decide) (by rfl) (by rfl)) (fun _=>rfl))) (@aE _ _ _ (@aU _ _ _ _ gG)) cV) (@aE _ _ _ (@cP _ _ _ _ _ _ _ _ (@aO _ _ _ _ _ _ _ _ (nQ hr.units) (dJ (bJ.of (show cI (ay fW) ["script","bag","true","way","p","whole","lots","many","net","checks","word","lot","place","left","order","handed","found"] _ ["c","checks","left"] [none,some 9,some 13]=true by decide+kernel)) (@fE _ _ _ _ _ _ rfl bq (@aa _ _ _ _ _ (@bN _ _ _ _ _ _ _ _ (cC K) cY rfl aX PySem.boot_len (@aa _ _ _ _ _ (pv 9) ai rfl) (by decide) (by decide) (by rfl) (by rfl)) ai rfl) (by rfl)) (fun _ _ _ _=>⟨(aM (i:=0) (by show List.Nodup (["c","checks","left"]:List Str);decide+kernel) rfl (Or.inl rfl)),(gY (@jB _ (K) _ _ rfl (@aL _ _ _ _ _ _ _ _ _ _ zV (hr.mono (by decide)) (@aa _ _ _ _ _ (@aK _ _ _ _ _ _ (bU K) bu (pv 1) (pv 0) (fun _ _=>rfl)) (@aa _ _ _ _ _ (pv 2) ai rfl) rfl) (by rfl) (by decide) (by rfl) (by rfl)) (fun _=>rfl))),(pv 0)⟩)) (@eS _ _ _ _ ai) (aQ _)) (@aE _ _ _ (@aU _ _ _ _ gG)) cV)))))) (by intro _;rfl)) (@aE _ _ _ (@aU _ _ _ _ gG))))))))))))))))),?_⟩
  walk_at "st"
  refine⟨a,ns,rfl,hS,hl,fun b l H1 s1 f1 B1=>?_⟩
  have key:∀(t:TS) (D:Ends),(∀H,D.rt (.bl true) H)->Sv (xE b l H1) [.raw (.ref a), .ak, .no, .no, .no, .no, .no, .no, .no, .no, .no, .no, .no, .no, .no, .no, .no] t {nx:=fun _=>False,rt:=fun _ d=>d= .bool true}->t D [some (.ref a),some (.ref b),none,none,none,none,none,none,none,none,none,none,none,none,none,none,none] H1:=fun t D d2 h=>h _ _ _ D (To (m:=15) B1) (Lj d2)
  refine R.DM ?_
  dsimp only
  refine key _ _ (fun H=>?_) ?_
  · exact q _
  clear key q
  generalize OT:(iW (lM (kh K (j3 _)) _ _) _:TS)=T5
  generalize Vk:(iW (lM (kh K (aZ 6)) _ _) T5:TS)=T4
  generalize Ld:(iW (dZ (d8 (bS 3 nT) _ _ _) _) _:TS)=T3
  generalize hT2:(iW (dZ (d8 (bS 2 nO) _ _ _) _) _:TS)=T2
  generalize hT1:(iW (nE (q8 K (aZ 2)) _ _) _:TS)=T1
  walk_at "dt"
  intro r0 r00 r01
  refine Exists.elim (⟨_,rfl⟩:∃tr:Bool,decide (r0=0)=tr) fun tr htr=>?_
  refine Ev.int ⟨tr,by rw[<-htr];exact .ii r0 0,?_⟩
  walk_at "dt"
  intro r1 r10 r11
  walk_at "dt"
  refine Exists.elim (⟨_,rfl⟩:∃w:Int,r1/7=w) fun way Ii=>?_
  rw[Ii]
  have w0:0<=way/\way<2:=by walk_at "o"
  refine Ev.ff Sq rfl ?_
  walk_at "dt"
  refine⟨rfl,fun p hp fV f0=>?_⟩
  have p2:=hp.1
  walk_at "dt"
  refine Ev.ff RE rfl ?_
  walk_at "dt"
  refine Exists.elim (pick (L:=[12,50]) w0.1 w0.2 (fun x=>1<=x/\x<=50) (by decide)) fun m1 LP=>⟨_,LP.1,?_⟩
  walk_at "dt"
  intro r2 r20 r21
  walk_at "dt"
  refine⟨rfl,p,1+r2,rfl,p2,fV,by walk_at "o",by walk_at "o",fun whole hwl hwr=>?_⟩
  have hw1:1<=whole.length/\whole.length<=50:=by walk_at "o"
  have ki:(whole.map PyData.int).length=whole.length:=List.length_map ..
  refine Gv.name ?_
  walk_at "dt"
  refine Ev.ff RP rfl ?_
  walk_at "dt"
  rw[ki]
  refine⟨rfl,(whole.length:Int),rfl,by walk_at "o",by walk_at "o",fun dY u6 hlo=>?_⟩
  have J5:(dY.map ku).length=dY.length:=List.length_map ..
  refine Gv.iA ?_
  walk_at "dt"
  refine Exists.elim (pick (L:=[15,51]) w0.1 w0.2 (fun x=>1<=x/\x<=51) (by decide)) fun m2 G4=>⟨_,G4.1,?_⟩
  walk_at "dt"
  intro many mn0 mn1
  walk_at "dt"
  refine Ev.ff VX rfl ?_
  walk_at "dt"
  intro r3 r30 r31
  walk_at "dt"
  rw[ki]
  refine⟨rfl,p,(whole.length:Int),many,2+r3,rfl,hp,fV,by walk_at "o",by walk_at "o",mn0,by walk_at "o",by walk_at "o",by walk_at "o",fun Ax f1 PR Ci=>?_⟩
  refine Gv.iA ?_
  subst hT1
  refine Sv.seq ?_
  refine Sv.yL (fun ρ=>∃cs:List aq,pY p whole tr cs/\ρ=mC a tr way p whole dY many cs .no .no .no .no .no .no .no .no) ?_ ?_
  · refine Sv.jA ?_
    refine Tv.mT ?_
    refine Ev.var rfl ?_
    refine⟨tr,rfl,?_⟩
    cases tr with
    | false =>
      rw[if_neg Bool.false_ne_true]
      refine Sv.next ?_
      refine⟨Ax,⟨by walk_at "o",fun prs bh=>?_,fun z=>by cases z⟩,rfl⟩
      obtain⟨h1,h2,h3⟩:=Ci prs bh
      exact⟨by walk_at "o",fun pr bP=>by obtain⟨a1,a2,a3,a4⟩:=h3 pr bP;exact⟨a1,a2,by walk_at "o",a4⟩⟩
    | true =>
      rw[if_pos rfl]
      refine Sv.asg ?_
      refine Ev.ff Kq rfl ?_
      walk_at "dt"
      intro r4 r40 r41
      walk_at "dt"
      refine⟨rfl,p,many,2+r4,whole,rfl,hp,fV,hw1.1,by walk_at "o",hwr,mn0,by walk_at "o",by walk_at "o",by walk_at "o",fun cs f2 hcl hcs=>?_⟩
      refine Gv.iA ?_
      refine⟨cs,⟨by walk_at "o",fun prs bh=>?_,fun _ prs bh=>(hcs prs bh).2⟩,rfl⟩
      obtain⟨⟨h1,h2,h3⟩,_⟩:=hcs prs bh
      exact⟨h2,h3⟩
  refine LH fun iK mG=>?_
  clear Ci PR Ax
  refine Sv.seq ?_
  refine Sv.sY ?_
  refine ao.ev (ao.fR (by decide) rfl ?_)
  walk_at "dt"
  have hl1:=mG.cl
  have J3:(iK.map aT).length=iK.length:=List.length_map ..
  refine⟨by walk_at "o",fun v=>⟨false,fun i ds=>∃ks:List aq,ds=ks.map aT/\ks.length<=i/\∀prs∈ks,prs∈iK/\∀aD∈dY,dz aD prs≠1,⟨[],rfl,Nat.le_refl _,fun _ h=>nomatch h⟩,?_,?_⟩⟩
  · refine nN fun i prs bh=>kY fun ks hl' hk=>?_
    have hok:=mG.ok prs (List.mem_of_getElem? bh)
    walk_at "dt"
    refine⟨by walk_at "wk",?_⟩
    refine Tv.test ?_
    refine Ev.qS ?_
    refine ao.ev (ao.fR (by decide) rfl ?_)
    walk_at "dt"
    refine fun v2=>⟨false,fun j es=>∃ls:List (List Int),es=ls.map ku/\(ls=[]->∀aD∈dY.take j,dz aD prs≠1),⟨[],rfl,fun _ _ h=>(by simp at h)⟩,?_,?_⟩
    · refine nN fun j aD j8=>kY fun ls hl2 hls=>?_
      walk_at "dt"
      refine⟨by walk_at "wk",?_⟩
      refine Tv.mT ?_
      refine Ev.jb Dp ?_
      walk_at "dt"
      refine⟨rfl,prs,aD,_,rfl, .inl rfl,by walk_at "o",?_⟩
      refine⟨_,rfl,?_⟩
      by_cases c:dz aD prs=1
      · rw[if_pos (decide_eq_true c)]
        walk_at "dt"
        exact⟨ls++[aD],by rw[List.map_append];rfl,fun z=>by simp at z⟩
      · rw[if_neg (by simpa using c)]
        refine⟨ls,rfl,fun z u hu=>?_⟩
        rw[take_snoc j8] at hu
        rcases List.mem_append.mp hu with h|h
        · exact hls z u h
        · rw[List.mem_singleton.mp h];exact c
    · refine kY fun ls hl2 hls=>?_
      rw[J5,List.take_length] at hls
      walk_at "dt"
      refine⟨Pa ls,rfl,?_⟩
      refine⟨_,rfl,?_⟩
      cases ls with
      | nil =>
        have ee:((PyData.list (List.map ku ([]:List (List Int)))).eqv (PyData.list (List.map (fun(x:Fd)=>x.snd) [])) !=false)=true:=rfl
        rw[if_pos ee]
        walk_at "dt"
        refine⟨ks++[prs],by rw[List.map_append];rfl,by simp;walk_at "o",fun u hu=>?_⟩
        rcases List.mem_append.mp hu with h|h
        · exact hk.2 u h
        · rw[List.mem_singleton.mp h];exact⟨List.mem_of_getElem? bh,hls rfl⟩
      | cons l0 lr =>
        rw[if_neg (by show¬(PyData.eqv _ _ !=false)=true;simp[PyData.eqv,PyData.eqvAll])]
        exact⟨ks,rfl,by walk_at "o",hk.2⟩
  refine kY fun cs hl' hcc=>?_
  have hcs:=hcc.2
  have gc:pY p whole tr cs:=⟨by have:=hcc.1;walk_at "o",fun prs bh=>mG.ok prs (hcs prs bh).1,fun z prs bh=>mG.tw z prs (hcs prs bh).1⟩
  have Ua:∀aD∈dY,eG cs aD=true:=fun aD j8=>by
    unfold eG
    rw[List.all_eq_true]
    exact fun prs bh=>decide_eq_true ((hcs prs bh).2 aD j8)
  clear hcs hcc mG hl1 J3
  have WZ:=gc.cl
  have lz:(cs.map aT).length=cs.length:=List.length_map ..
  subst hT2
  refine Sv.seq ?_
  refine Sv.uV ?_
  refine lD.LC ?_
  refine lD.ff Rz rfl ?_
  walk_at "dt"
  refine⟨rfl,whole,rfl,by walk_at "o",fun ld cH=>⟨rfl,_,rfl,C2 ld,fun sP=>?_⟩⟩
  refine Sv.seq ?_
  refine Sv.yL (fun ρ=>∃(wd:Wo) (f:Bool) (gF gu:Sl),pF whole wd/\ρ=mC a tr way p whole dY many iK (.d false (.list (cs.map aT))) (.own sP f (wd.map br)) gF gu .no .no .no .no) ?_ ?_
  · walk_at "dt"
    intro r5 r50 r51
    walk_at "dt"
    by_cases c5:0<r5
    · rw[if_pos (by simpa using c5)]
      refine Sv.forL ?_
      refine Ev.var rfl ?_
      refine⟨_,rfl,fun v=>⟨fun i ρ=>∃(wd:Wo) (f:Bool) (gF gu:Sl),pF whole wd/\ρ=mC a tr way p whole dY many iK (.d false (.list (cs.map aT))) (.own sP f (wd.map br)) gF gu .no .no .no .no,⟨ld,_,_,_,cH,rfl⟩,?_,fun ρ h=>h⟩⟩
      refine xj fun i aD j8=>Cf fun wd f gF gu fk=>?_
      refine Gv.iA ?_
      refine Sv.forL ?_
      refine Ev.var rfl ?_
      refine⟨_,rfl,fun v2=>⟨fun i ρ=>∃(wd:Wo) (f:Bool) (gu:Sl),pF whole wd/\ρ=mC a tr way p whole dY many iK (.d false (.list (cs.map aT))) (.own sP f (wd.map br)) (.d false (ku aD)) gu .no .no .no .no,⟨wd,_,_,fk,rfl⟩,?_,?_⟩⟩
      · refine xj fun j x hx=>En fun wd f gu fk=>?_
        have x0:=(hlo aD (List.mem_of_getElem? j8)).2.2.2 x (List.mem_of_getElem? hx)
        refine Gv.oE ?_
        refine Sv.vq rfl ?_
        walk_at "dt"
        refine⟨_,x.toNat,rfl,Dl x0.1 (by rw[List.length_map,fk.1];walk_at "o"),?_⟩
        refine⟨wd.set x.toNat none,_,_,⟨by rw[List.length_set];exact fk.1,fun k y hy=>?_⟩,by rw[List.map_set];rfl⟩
        by_cases z:x.toNat=k
        · subst z
          by_cases hk:x.toNat<wd.length
          · rw[List.getElem?_set_self hk] at hy;cases hy
          · rw[List.getElem?_eq_none (by rw[List.length_set];walk_at "o")] at hy;cases hy
        · rw[List.getElem?_set_ne z] at hy
          exact fk.2 k y hy
      · exact En fun wd f gu fk=>⟨wd,_,_,_,fk,rfl⟩
    · rw[if_neg (by simpa using c5)]
      refine Sv.next ?_
      exact⟨ld,_,_,_,cH,rfl⟩
  refine Cf fun wd f3 gF gu fk=>?_
  clear cH ld
  have qY:=fk.1
  have A5:(wd.map br).length=whole.length:=by rw[List.length_map,qY]
  have nV:e7 p cs wd.length:=by rw[qY];exact gc.q hp fV
  have Bb:∀(i:Nat) x,wd[i]?=some (some x)->0<=x/\x<p:=fun i x hx=>hwr x (List.mem_of_getElem? (fk.2 i x hx))
  refine Sv.yr 10 rfl ?_
  subst Ld
  refine Sv.seq ?_
  refine Sv.asg ?_
  refine Ev.ff ME rfl ?_
  walk_at "dt"
  refine⟨rfl,cs,wd,rfl,by walk_at "o",by walk_at "o",fun prs bh=>by have:=(gc.ok prs bh).1;walk_at "o",fun left hG=>?_⟩
  refine Gv.iA ?_
  have hleft:=Bf (mD wd) hG (zL (p:=p) (by walk_at "o") nV.rg)
  subst Vk
  refine Sv.seq ?_
  refine Sv.forL ?_
  refine Ev.var rfl ?_
  refine⟨_,rfl,fun v=>⟨fun i ρ=>∃(gF:Sl),ρ=mC a tr way p whole dY many iK (.d false (.list (cs.map aT))) (.d f3 (cT wd)) gF gu (.d false (.list (left.map .int))) .no .no .no,⟨_,rfl⟩,?_,?_⟩⟩
  · refine xj fun i aD j8=>Aw fun gF=>?_
    have gb:=List.mem_of_getElem? j8
    obtain⟨l1,l2,l3,l4⟩:=hlo aD gb
    have hat:∀x∈aD,∃o,wd[x.toNat]?=some o/\bF (wd.map br) x=some (br o):=fun x hx=>by
      obtain⟨x0,x1⟩:=l4 x hx
      exact ic (xs:=wd) br x0 (m:=wd.length) (by walk_at "o") rfl
    have Jk:(aD.map PyData.int).length=aD.length:=List.length_map ..
    refine Gv.iA ?_
    refine Sv.jA ?_
    refine Tv.and ?_
    refine Tv.test ?_
    refine Ev.qS ?_
    refine ao.ev (ao.fR (by decide) rfl ?_)
    walk_at "dt"
    refine fun v2=>⟨true,fun j es=>∃ls:List Int,es=ls.map .int/\(ls=[]->∀x∈aD.take j,wd[x.toNat]?=some none),⟨[],rfl,fun _ _ h=>(by simp at h)⟩,?_,?_⟩
    · refine nN fun j x hx=>kY fun ls hl2 hls=>?_
      refine Exists.elim (hat x (List.mem_of_getElem? hx)) fun o ho2=>?_
      have ho:=ho2.1
      have Wx:=ho2.2
      walk_at "dt"
      refine⟨by walk_at "wk",?_⟩
      walk_at "dt"
      rw[nj]
      cases o with
      | none =>
        walk_at "dt"
        refine⟨ls,rfl,fun z u hu=>?_⟩
        rw[take_snoc hx] at hu
        rcases List.mem_append.mp hu with h|h
        · exact hls z u h
        · rw[List.mem_singleton.mp h];exact ho
      | some y =>
        walk_at "dt"
        exact⟨ls++[x],by rw[List.map_append];rfl,fun z=>by simp at z⟩
    · refine kY fun ls hl2 hls=>?_
      rw[Jk,List.take_length] at hls
      walk_at "dt"
      refine⟨shaped_ints ls,rfl,_,rfl,?_⟩
      rw[show PyData.list (List.map (fun(x:Fd)=>x.snd) [])= .list (([]:List Int).map .int) from rfl,KR]
      by_cases cl:ls=[]
      · rw[if_pos (by simpa using cl)]
        have hin:∀x∈aD,x∈left:=hG.max aD (fun x hx=>o4.mpr ⟨(l4 x hx).1,hls cl x hx⟩) (Ua aD gb)
        refine Tv.test ?_
        refine Ev.qS ?_
        refine ao.ev (ao.fR (by decide) rfl ?_)
        walk_at "dt"
        refine fun v3=>⟨true,fun j es=>es=[],rfl,?_,?_⟩
        · refine nN fun j x hx es hl3 he=>?_
          subst he
          walk_at "dt"
          refine⟨by walk_at "wk",?_⟩
          refine Tv.test ?_
          refine Ev.Cp ?_
          walk_at "dt"
          refine⟨left,rfl,?_⟩
          rw[decide_eq_true (hin x (List.mem_of_getElem? hx))]
          walk_at "dt"
          rfl
        · rintro es hl3 rfl
          walk_at "dt"
          exact⟨_,rfl⟩
      · rw[if_neg (by simpa using cl),if_neg Bool.false_ne_true]
        refine Sv.next ?_
        exact⟨_,rfl⟩
  · refine Aw fun gF=>?_
    subst OT
    refine Sv.seq ?_
    refine Sv.forL ?_
    refine Ev.lst ?_
    refine Av.cons ?_
    refine ao.ev (ao.pR ?_)
    refine Ev.gZ ?_
    refine Ev.var rfl ?_
    refine⟨_, .inl rfl,_,rfl,by walk_at "o",by walk_at "o",?_⟩
    rw[show((cs.map aT).length:Int).toNat=cs.length by walk_at "o"]
    refine Av.cons ?_
    refine Ev.ff Et rfl ?_
    refine Av.cons ?_
    refine ao.ev (ao.pR ?_)
    refine Ev.gZ ?_
    refine Ev.var rfl ?_
    refine⟨_, .inl rfl,_,rfl,by walk_at "o",by walk_at "o",?_⟩
    rw[show((cs.map aT).length:Int).toNat=cs.length by walk_at "o"]
    refine Av.nil ?_
    refine⟨rfl,_,rfl,by rw[List.length_map,List.length_map,List.length_range];walk_at "o",fun f4 rs dQ=>?_⟩
    obtain⟨ord,rfl,hord⟩:=tX dQ _ rfl
    refine Av.nil ?_
    refine⟨Nat.le_of_ble_eq_true rfl,_,rfl,fun v=>⟨fun i ρ=>∃(nW n5 nU:Sl),ρ=mC a tr way p whole dY many iK (.d false (.list (cs.map aT))) (.d f3 (cT wd)) gF gu (.d false (.list (left.map .int))) nW n5 nU,⟨_,_,_,rfl⟩,?_,?_⟩⟩
    · rintro i d ρ hd ⟨nW,n5,nU,rfl⟩
      have hex:∃od:List Int,d= .list (od.map .int)/\od.Perm ((List.range cs.length).map fun(i:Nat)=>(0:Int)+(i:Int)):=by
        rcases List.mem_cons.mp (List.mem_of_getElem? hd) with e|e
        · exact⟨_,e, .refl _⟩
        · rcases List.mem_cons.mp e with e|e
          · exact⟨ord,e,hord⟩
          · cases e
      obtain⟨od,rfl,hod⟩:=hex
      clear hd hord dQ
      have oN:∀x∈od,0<=x/\x<cs.length:=fun x hx=>by
        obtain⟨c,hc,rfl⟩:=List.mem_map.mp (hod.mem_iff.mp hx)
        have:=List.mem_range.mp hc
        walk_at "o"
      have WJ:od.length=cs.length:=by rw[hod.length_eq,List.length_map,List.length_range]
      have VR:(od.map PyData.int).length=od.length:=List.length_map ..
      refine Exists.elim (⟨_,rfl⟩:∃cs',cs'=od.map fun c=>cs.getD c.toNat []) fun cs' Bs=>?_
      have rN:cs'.Perm cs:=by
        have e:((List.range cs.length).map fun(i:Nat)=>(0:Int)+(i:Int)).map (fun c=>cs.getD c.toNat [])=cs:=by
          rw[List.map_map]
          apply List.ext_getElem?
          intro k
          rw[List.getElem?_map]
          by_cases hk:k<cs.length
          · rw[List.getElem?_range hk]
            show some (cs.getD (0+(k:Int)).toNat [])=_
            rw[show(0+(k:Int)).toNat=k by walk_at "o",List.getD_eq_getElem?_getD,List.getElem?_eq_getElem hk];rfl
          · rw[List.getElem?_eq_none (by rw[List.length_range];walk_at "o"),List.getElem?_eq_none (by walk_at "o")];rfl
        rw[Bs]
        exact(hod.map _).trans (by rw[e])
      have nu:e7 p cs' wd.length:=⟨nV.1,nV.2.1,by rw[rN.length_eq];exact nV.2.2.1,fun prs bh=>nV.2.2.2 prs (rN.mem_iff.mp bh)⟩
      have Lx:fX wd:=fun x hx=>by
        obtain⟨k,hk⟩:=List.getElem?_of_mem hx
        have:=Bb k x hk
        unfold Sm;walk_at "o"
      have P4:cg (dg p cs' wd)=left:=Bf (mD wd) ((zL (p:=p) (by walk_at "o") nu.rg).perm rN) hG
      have Cc:=Ml (p:=p) (cs:=cs') (by walk_at "o") nu.rg Bb
      have hel:(dg p cs' wd).length=wd.length:=(qF (p:=p) (by walk_at "o") nu.rg).2.2.2.2
      have O2:tr=true->Agree whole (dg p cs' wd):=fun z=>PK nu qY hwr (fun prs bh=>gc.tw z prs (rN.mem_iff.mp bh)) fk.2
      refine Gv.iA ?_
      generalize Th:(nE (nL (bZ (pB true) (iF (lW _) _ _ _ _) _)) _ _:TS)=T7
      generalize Ru:(iW (dZ (d8 (dD 2 nh) _ _ _) _) _:TS)=T6
      walk_at "dt"
      refine ao.ev (ao.fR (by decide) rfl ?_)
      walk_at "dt"
      refine fun v2=>⟨false,fun j es=>es=((od.take j).map fun c=>cs.getD c.toNat []).map aT,rfl,?_,?_⟩
      · refine nN fun j c hc es hl2 he=>?_
        subst he
        have c0:=oN c (List.mem_of_getElem? hc)
        refine Exists.elim (ic (xs:=cs) aT c0.1 c0.2 rfl) fun prs hp2=>?_
        have bh:=hp2.1
        have HA:=hp2.2
        walk_at "dt"
        refine⟨by walk_at "wk",?_⟩
        walk_at "dt"
        refine⟨fun z=>(by cases z),?_⟩
        show _=List.map aT (List.map _ (od.take (j+1)))
        rw[take_snoc hc,List.map_append,List.map_append]
        show _=_++[aT (cs.getD c.toNat [])]
        rw[List.getD_eq_getElem?_getD,bh]
        rfl
      rintro es hl2 rfl
      rw[VR,List.take_length,<-Bs]
      walk_at "dt"
      rw[ki]
      subst Ru
      walk_at "dt"
      refine Ev.jb SV ?_
      walk_at "dt"
      refine⟨rfl,p,(whole.length:Int),cs',wd,rfl,nu,Lx,by walk_at "o",?_⟩
      walk_at "dt"
      refine Ev.jb GL ?_
      generalize hE:(vj (q8 K (aZ 2)) _ _:TE)=tE
      walk_at "dt"
      subst hE
      refine Ev.mono (Ψ:=fun _ d=>∃td,d=oX td/\∀os,td=some os->os=whole/\tr=true) ?_ ?_
      · refine Ev.EK (Tv.mT (Ev.var rfl ⟨tr,rfl,?_⟩))
        cases tr with
        | true =>
          rw[if_pos rfl]
          exact Ev.var rfl ⟨some whole,rfl,fun os e=>⟨(Option.some.inj e).symm,rfl⟩⟩
        | false =>
          rw[if_neg Bool.false_ne_true]
          exact Ev.aB ⟨none,rfl,fun os e=>by cases e⟩
      refine fun f5=>Lp fun td htd=>?_
      walk_at "dt"
      refine⟨rfl,p,wd,dg p cs' wd,left,td,rfl,by walk_at "o",hel,P4,Cc.2,Cc.1,fun os e=>?_,?_⟩
      · have e1:=htd os e
        rw[e1.1]
        exact⟨qY.symm,O2 e1.2⟩
      walk_at "dt"
      subst Th
      walk_at "dt"
      refine ao.ev (ao.jf (by decide) rfl ?_)
      refine Ev.gZ ?_
      refine Ev.var rfl ?_
      refine⟨_, .inl rfl,_,rfl,by walk_at "o",by walk_at "o",?_⟩
      rw[show((cs.map aT).length:Int).toNat=cs.length by walk_at "o"]
      refine⟨true,fun j es=>es=[],rfl,?_,?_⟩
      · rintro j d es ⟨hj,rfl⟩ hl3 rfl
        refine Exists.elim (ic (xs:=cs) aT (k:=0+(j:Int)) (m:=cs.length) (by walk_at "o") (by walk_at "o") rfl) fun prs hp2=>?_
        have HA:=hp2.2
        have dQ:=List.mem_of_getElem? hp2.1
        have hno:¬dz left prs=1:=by
          have:=hG.out
          unfold eG at this
          rw[List.all_eq_true] at this
          exact of_decide_eq_true (this prs dQ)
        walk_at "dt"
        refine⟨by walk_at "wk",?_⟩
        refine Tv.mT ?_
        refine Ev.jb Dp ?_
        walk_at "dt"
        refine⟨rfl,prs,left,_,rfl, .inl rfl,by have:=(gc.ok prs dQ).1;walk_at "o",?_⟩
        refine⟨_,rfl,?_⟩
        rw[if_neg (by simpa using hno)]
      · rintro es hl3 rfl
        walk_at "dt"
        exact⟨_,_,_,rfl⟩
    · refine FL fun nW n5 nU=>?_
      walk_at "dt"
      rfl
end
theorem all_mk{l:PySem.W.OpenLaw}{w:World}{K:PySem.W.Frag}{h:Heap}{mg:Str->Option Value}{fa:Addr}{f0 f1 f2 f3 f4 f5 f6 f7 f8 f9 ym wR zq xS vI sH wX yv vW yN sf xo vB xK wG wu wB sN zz nB nZ mJ f32:Addr}(X:K.In h)(G:h.Ns mainGlobals mg)(UP:mg "law"=some (.ref fa))
  {Ux MN:Option Addr} {LQ:Array (Option Value)} {JY RW Rr JT AK Oq:Value} {SS J9:Option Addr} {Mv:Array (Option Value)} {M6 RT Qc Nq Ed VP:Value} {QG N4:Option Addr} {sl2:Array (Option Value)} {Nj JM FI MU zU Ot:Value} {Qf Qz:Option Addr} {Rn:Array (Option Value)} {VY Ll OC Pk AQ Ui:Value} {Lz Lg:Option Addr} {Sx:Array (Option Value)} {Rj NT Gi Uv DI LL:Value} {S1 UZ:Option Addr} {RI:Array (Option Value)} {Mb N8 KL MF D0 Te:Value} {SW Mz:Option Addr} {Ni:Array (Option Value)} {Hf Gr KH OM Cg Oo:Value} {IW Rw:Option Addr} {M3:Array (Option Value)} {QX GU LK Kw BC Oh:Value} {Rc Rl:Option Addr} {Pg:Array (Option Value)} {Lw Mg Q5 OS DL Ng:Value} {J1 Jp:Option Addr} {NC:Array (Option Value)} {Q8 M8 La GB Dz QE:Value} {P8 OH:Option Addr} {Kg:Array (Option Value)} {Va M1 Jf J6 Bc LY:Value} {ID L3:Option Addr} {IU:Array (Option Value)} {FO OO Gn SE Dm Sg:Value} {Ql Vd:Option Addr} {SG:Array (Option Value)} {Qa J8 NK P1 z4 Ti:Value} {FU ON:Option Addr} {R7:Array (Option Value)} {IF Ju SH VL AY VG:Value} {QI VD:Option Addr} {I0:Array (Option Value)} {Vs Ud Ia Qg Aq O6:Value} {MB LS:Option Addr} {Lv:Array (Option Value)} {Jd QD Uh Tw BR Lu:Value} {VT Fp:Option Addr} {PB:Array (Option Value)} {IZ R9 Gq Tz CI NP:Value} {UM Oj:Option Addr} {Jj:Array (Option Value)} {V4 Ho U9 Rx E2 Gs:Value} {KS Gy:Option Addr} {SX:Array (Option Value)} {Pc Qn JK MH EN N5:Value} {NW Nf:Option Addr} {RG:Array (Option Value)} {NH Jz SN Sn CD Jo:Value} {Px IQ:Option Addr} {Gu:Array (Option Value)} {US Rm Q9 Fw BX Nt:Value} {K4 Oa:Option Addr} {Kl:Array (Option Value)} {S4 Qq Ji Vj DO RN:Value} {M4 U1:Option Addr} {Qk:Array (Option Value)} {Ge GA ML ND Aj G7:Value} {UJ Kz:Option Addr} {Lq:Array (Option Value)} {Qm VN Jc Jy AR Hr:Value} {Vy HL:Option Addr} {Tr:Array (Option Value)} {Lh KZ Iz Mx CT Ga:Value} {Jv KY:Option Addr} {N3:Array (Option Value)} {VU LZ SA VE BF Q6:Value} {Si Om:Option Addr} {Jw:Array (Option Value)} {TZ M5 Mh VF Bp QT:Value} {RX II:Option Addr} {Fx:Array (Option Value)} {Pj MT HV Vz DC Fo:Value} {K6 Br:Option Addr} {Od:Array (Option Value)} {NL BO EH zM um D6:Value} {Q0 VZ:Option Addr} {HN:Array (Option Value)} {V3 Tj K7 MO CM GX:Value} {Ik Hu:Option Addr} {KJ:Array (Option Value)} {Fg OI Qp Mw CB Iq:Value} {K0 JI:Option Addr} {Tc:Array (Option Value)} {KQ RA TX VQ z3 Sj:Value} {TV S3:Option Addr} {QC:Array (Option Value)} {L6 K5 UC NZ Dy VA:Value}
  {aP:Addr} (sG:PySem.W.nsIn K mainGlobals "Mender"=some (some (.ref aP))) (t8:PySem.W.plainGet K aP Str.empty=true) (wW:PySem.W.hasDictIn K aP=true) (sS:PySem.W.plainOver K aP=true) (zm:PySem.W.findIn K (.ref aP) "__setattr__"=some (some (.builtin "object.__setattr__"))) (t7:PySem.W.makesIn K aP=true) (wO:PySem.W.keepIn K (.ref aP)=true)
  (jv:PySem.W.findIn K (.ref aP) "net"=some none)
  (gV:PySem.W.findIn K (.ref aP) "letters"=some none)
  (a0:PySem.W.nsIn K mainGlobals "over"=some (some (.ref f0))) (l0:K.lookup f0=some ⟨JY,Ux, .func (PySem.W.fnOf "over" "over" (bH mh) (bD mh) (ay mh) .none RW Rr JT MN AK Oq),LQ⟩) (c0:PySem.W.codeIn K AK "over"=true) (k0:PySem.W.keepIn K (.ref f0)=true)
  (a1:PySem.W.nsIn K mainGlobals "inverse"=some (some (.ref f1))) (l1:K.lookup f1=some ⟨M6,SS, .func (PySem.W.fnOf "inverse" "inverse" (bH kX) (bD kX) (ay kX) .none RT Qc Nq J9 Ed VP),Mv⟩) (c1:PySem.W.codeIn K Ed "inverse"=true) (k1:PySem.W.keepIn K (.ref f1)=true)
  (a2:PySem.W.nsIn K mainGlobals "total"=some (some (.ref f2))) (l2:K.lookup f2=some ⟨Nj,QG, .func (PySem.W.fnOf "total" "total" (bH kQ) (bD kQ) (ay kQ) .none JM FI MU N4 zU Ot),sl2⟩) (c2:PySem.W.codeIn K zU "total"=true) (k2:PySem.W.keepIn K (.ref f2)=true)
  (a3:PySem.W.nsIn K mainGlobals "told_by"=some (some (.ref f3))) (l3:K.lookup f3=some ⟨VY,Qf, .func (PySem.W.fnOf "told_by" "told_by" (bH lB) (bD lB) (ay lB) .none Ll OC Pk Qz AQ Ui),Rn⟩) (c3:PySem.W.codeIn K AQ "told_by"=true) (k3:PySem.W.keepIn K (.ref f3)=true)
  (a4:PySem.W.nsIn K mainGlobals "told_for"=some (some (.ref f4))) (l4:K.lookup f4=some ⟨Rj,Lz, .func (PySem.W.fnOf "told_for" "told_for" (bH jQ) (bD jQ) (ay jQ) .none NT Gi Uv Lg DI LL),Sx⟩) (c4:PySem.W.codeIn K DI "told_for"=true) (k4:PySem.W.keepIn K (.ref f4)=true)
  (a5:PySem.W.nsIn K mainGlobals "round_of"=some (some (.ref f5))) (l5:K.lookup f5=some ⟨Mb,S1, .func (PySem.W.fnOf "round_of" "round_of" (bH j4) (bD j4) (ay j4) .none N8 KL MF UZ D0 Te),RI⟩) (c5:PySem.W.codeIn K D0 "round_of"=true) (k5:PySem.W.keepIn K (.ref f5)=true)
  (a6:PySem.W.nsIn K mainGlobals "copied"=some (some (.ref f6))) (l6:K.lookup f6=some ⟨Hf,SW, .func (PySem.W.fnOf "copied" "copied" (bH j7) (bD j7) (ay j7) .none Gr KH OM Mz Cg Oo),Ni⟩) (c6:PySem.W.codeIn K Cg "copied"=true) (k6:PySem.W.keepIn K (.ref f6)=true)
  (a7:PySem.W.nsIn K mainGlobals "mended"=some (some (.ref f7))) (l7:K.lookup f7=some ⟨QX,IW, .func (PySem.W.fnOf "mended" "mended" (bH lC) (bD lC) (ay lC) .none GU LK Kw Rw BC Oh),M3⟩) (c7:PySem.W.codeIn K BC "mended"=true) (k7:PySem.W.keepIn K (.ref f7)=true)
  (a8:PySem.W.nsIn K mainGlobals "_law_bag"=some (some (.ref f8))) (l8:K.lookup f8=some ⟨Lw,Rc, .func (PySem.W.fnOf "_law_bag" "_law_bag" (bH kH) (bD kH) (ay kH) .none Mg Q5 OS Rl DL Ng),Pg⟩) (c8:PySem.W.codeIn K DL "_law_bag"=true) (k8:PySem.W.keepIn K (.ref f8)=true)
  (a9:PySem.W.nsIn K mainGlobals "_law_draw"=some (some (.ref f9))) (l9:K.lookup f9=some ⟨Q8,J1, .func (PySem.W.fnOf "_law_draw" "_law_draw" (bH lN) (bD lN) (ay lN) .none M8 La GB Jp Dz QE),NC⟩) (c9:PySem.W.codeIn K Dz "_law_draw"=true) (k9:PySem.W.keepIn K (.ref f9)=true)
  (tR:PySem.W.nsIn K mainGlobals "_law_prime_from"=some (some (.ref ym))) (ze:K.lookup ym=some ⟨Va,P8, .func (PySem.W.fnOf "_law_prime_from" "_law_prime_from" (bH kc) (bD kc) (ay kc) .none M1 Jf J6 OH Bc LY),Kg⟩) (yC:PySem.W.codeIn K Bc "_law_prime_from"=true) (sq:PySem.W.keepIn K (.ref ym)=true)
  (tQ:PySem.W.nsIn K mainGlobals "_law_prime"=some (some (.ref wR))) (uh:K.lookup wR=some ⟨FO,ID, .func (PySem.W.fnOf "_law_prime" "_law_prime" (bH lP) (bD lP) (ay lP) .none OO Gn SE L3 Dm Sg),IU⟩) (yg:PySem.W.codeIn K Dm "_law_prime"=true) (yy:PySem.W.keepIn K (.ref wR)=true)
  (wo:PySem.W.nsIn K mainGlobals "_law_over"=some (some (.ref zq))) (yk:K.lookup zq=some ⟨Qa,Ql, .func (PySem.W.fnOf "_law_over" "_law_over" (bH lZ) (bD lZ) (ay lZ) .none J8 NK P1 Vd z4 Ti),SG⟩) (c12:PySem.W.codeIn K z4 "_law_over"=true) (uy:PySem.W.keepIn K (.ref zq)=true)
  (su:PySem.W.nsIn K mainGlobals "_law_sum"=some (some (.ref xS))) (rY:K.lookup xS=some ⟨IF,FU, .func (PySem.W.fnOf "_law_sum" "_law_sum" (bH kE) (bD kE) (ay kE) .none Ju SH VL ON AY VG),R7⟩) (se:PySem.W.codeIn K AY "_law_sum"=true) (tO:PySem.W.keepIn K (.ref xS)=true)
  (uO:PySem.W.nsIn K mainGlobals "_law_letter"=some (some (.ref vI))) (xO:K.lookup vI=some ⟨Vs,QI, .func (PySem.W.fnOf "_law_letter" "_law_letter" (bH lg) (bD lg) (ay lg) .none Ud Ia Qg VD Aq O6),I0⟩) (u9:PySem.W.codeIn K Aq "_law_letter"=true) (rZ:PySem.W.keepIn K (.ref vI)=true)
  (xh:PySem.W.nsIn K mainGlobals "_law_factor"=some (some (.ref sH))) (vO:K.lookup sH=some ⟨Jd,MB, .func (PySem.W.fnOf "_law_factor" "_law_factor" (bH lH) (bD lH) (ay lH) .none QD Uh Tw LS BR Lu),Lv⟩) (uA:PySem.W.codeIn K BR "_law_factor"=true) (yb:PySem.W.keepIn K (.ref sH)=true)
  (yf:PySem.W.nsIn K mainGlobals "_law_letters"=some (some (.ref wX))) (tL:K.lookup wX=some ⟨IZ,VT, .func (PySem.W.fnOf "_law_letters" "_law_letters" (bH jc) (bD jc) (ay jc) .none R9 Gq Tz Fp CI NP),PB⟩) (yW:PySem.W.codeIn K CI "_law_letters"=true) (sZ:PySem.W.keepIn K (.ref wX)=true)
  (uI:PySem.W.nsIn K mainGlobals "_law_places"=some (some (.ref yv))) (xV:K.lookup yv=some ⟨V4,UM, .func (PySem.W.fnOf "_law_places" "_law_places" (bH kr) (bD kr) (ay kr) .none Ho U9 Rx Oj E2 Gs),Jj⟩) (yT:PySem.W.codeIn K E2 "_law_places"=true) (vd:PySem.W.keepIn K (.ref yv)=true)
  (wU:PySem.W.nsIn K mainGlobals "_law_net"=some (some (.ref vW))) (uP:K.lookup vW=some ⟨Pc,KS, .func (PySem.W.fnOf "_law_net" "_law_net" (bH jX) (bD jX) (ay jX) .none Qn JK MH Gy EN N5),SX⟩) (yZ:PySem.W.codeIn K EN "_law_net"=true) (sU:PySem.W.keepIn K (.ref vW)=true)
  (sj:PySem.W.nsIn K mainGlobals "_law_planted_check"=some (some (.ref yN))) (sQ:K.lookup yN=some ⟨NH,NW, .func (PySem.W.fnOf "_law_planted_check" "_law_planted_check" (bH jR) (bD jR) (ay jR) .none Jz SN Sn Nf CD Jo),RG⟩) (zA:PySem.W.codeIn K CD "_law_planted_check"=true) (tF:PySem.W.keepIn K (.ref yN)=true)
  (vF:PySem.W.nsIn K mainGlobals "_law_planted"=some (some (.ref sf))) (tP:K.lookup sf=some ⟨US,Px, .func (PySem.W.fnOf "_law_planted" "_law_planted" (bH jF) (bD jF) (ay jF) .none Rm Q9 Fw IQ BX Nt),Gu⟩) (vA:PySem.W.codeIn K BX "_law_planted"=true) (tD:PySem.W.keepIn K (.ref sf)=true)
  (sE:PySem.W.nsIn K mainGlobals "_law_lossy"=some (some (.ref xo))) (xw:K.lookup xo=some ⟨S4,K4, .func (PySem.W.fnOf "_law_lossy" "_law_lossy" (bH jJ) (bD jJ) (ay jJ) .none Qq Ji Vj Oa DO RN),Kl⟩) (vn:PySem.W.codeIn K DO "_law_lossy"=true) (rX:PySem.W.keepIn K (.ref xo)=true)
  (yF:PySem.W.nsIn K mainGlobals "_law_whole"=some (some (.ref vB))) (vg:K.lookup vB=some ⟨Ge,M4, .func (PySem.W.fnOf "_law_whole" "_law_whole" (bH lO) (bD lO) (ay lO) .none GA ML ND U1 Aj G7),Qk⟩) (wz:PySem.W.codeIn K Aj "_law_whole"=true) (xP:PySem.W.keepIn K (.ref vB)=true)
  (yD:PySem.W.nsIn K mainGlobals "_law_turned"=some (some (.ref xK))) (wm:K.lookup xK=some ⟨Qm,UJ, .func (PySem.W.fnOf "_law_turned" "_law_turned" (bH kF) (bD kF) (ay kF) .none VN Jc Jy Kz AR Hr),Lq⟩) (uQ:PySem.W.codeIn K AR "_law_turned"=true) (yu:PySem.W.keepIn K (.ref xK)=true)
  (w9:PySem.W.nsIn K mainGlobals "_law_just_one"=some (some (.ref wG))) (uG:K.lookup wG=some ⟨Lh,Vy, .func (PySem.W.fnOf "_law_just_one" "_law_just_one" (bH kJ) (bD kJ) (ay kJ) .none KZ Iz Mx HL CT Ga),Tr⟩) (tN:PySem.W.codeIn K CT "_law_just_one"=true) (sW:PySem.W.keepIn K (.ref wG)=true)
  (za:PySem.W.nsIn K mainGlobals "_law_lots"=some (some (.ref wu))) (ua:K.lookup wu=some ⟨VU,Jv, .func (PySem.W.fnOf "_law_lots" "_law_lots" (bH kq) (bD kq) (ay kq) .none LZ SA VE KY BF Q6),N3⟩) (xG:PySem.W.codeIn K BF "_law_lots"=true) (yq:PySem.W.keepIn K (.ref wu)=true)
  (yV:PySem.W.nsIn K mainGlobals "_law_left"=some (some (.ref wB))) (xX:K.lookup wB=some ⟨TZ,Si, .func (PySem.W.fnOf "_law_left" "_law_left" (bH kK) (bD kK) (ay kK) .none M5 Mh VF Om Bp QT),Jw⟩) (zc:PySem.W.codeIn K Bp "_law_left"=true) (zy:PySem.W.keepIn K (.ref wB)=true)
  (yU:PySem.W.nsIn K mainGlobals "_law_right"=some (some (.ref sN))) (sC:K.lookup sN=some ⟨Pj,RX, .func (PySem.W.fnOf "_law_right" "_law_right" (bH kG) (bD kG) (ay kG) .none MT HV Vz II DC Fo),Fx⟩) (ue:PySem.W.codeIn K DC "_law_right"=true) (uS:PySem.W.keepIn K (.ref sN)=true)
  (yH:PySem.W.nsIn K mainGlobals "law"=some (some (.ref zz))) (zE:K.lookup zz=some ⟨NL,K6, .func (PySem.W.fnOf "law" "law" (bH fW) (bD fW) (ay fW) .none BO EH zM Br um D6),Od⟩) (wH:PySem.W.codeIn K um "law"=true) (ur:PySem.W.keepIn K (.ref zz)=true)
  (sr:PySem.W.findIn K (.ref aP) "__init__"=some (some (.ref nB))) (zp:PySem.W.isFn K (.ref nB)=true) (wC:K.lookup nB=some ⟨V3,Q0, .func (PySem.W.fnOf "__init__" "Mender.__init__" (bH mq) (bD mq) (ay mq) .none Tj K7 MO VZ CM GX),HN⟩) (xN:PySem.W.codeIn K CM "Mender.__init__"=true) (xW:PySem.W.keepIn K (.ref nB)=true)
  (we:PySem.W.findIn K (.ref aP) "step"=some (some (.ref nZ))) (tU:PySem.W.isFn K (.ref nZ)=true) (vZ:K.lookup nZ=some ⟨Fg,Ik, .func (PySem.W.fnOf "step" "Mender.step" (bH lq) (bD lq) (ay lq) .none OI Qp Mw Hu CB Iq),KJ⟩) (w6:PySem.W.codeIn K CB "Mender.step"=true) (rR:PySem.W.keepIn K (.ref nZ)=true)
  (vP:PySem.W.findIn K (.ref aP) "mend"=some (some (.ref mJ))) (uc:PySem.W.isFn K (.ref mJ)=true) (wj:K.lookup mJ=some ⟨KQ,K0, .func (PySem.W.fnOf "mend" "Mender.mend" (bH lG) (bD lG) (ay lG) .none RA TX VQ JI z3 Sj),Tc⟩) (xT:PySem.W.codeIn K z3 "Mender.mend"=true) (rP:PySem.W.keepIn K (.ref mJ)=true)
  (a32:PySem.W.findIn K (.ref aP) "word"=some (some (.ref f32))) (yJ:PySem.W.isFn K (.ref f32)=true) (zg:K.lookup f32=some ⟨L6,TV, .func (PySem.W.fnOf "word" "Mender.word" (bH lI) (bD lI) (ay lI) .none K5 UC NZ S3 Dy VA),QC⟩) (sJ:PySem.W.codeIn K Dy "Mender.word"=true) (o5:PySem.W.keepIn K (.ref f32)=true)
  (w4:PySem.W.nsIn K mainGlobals "abs"=some none)
  (ve:PySem.W.nsIn K mainGlobals "bool"=some none)
  (ud:PySem.W.nsIn K mainGlobals "int"=some none)
  (vD:PySem.W.nsIn K mainGlobals "isinstance"=some none)
  (xm:PySem.W.nsIn K mainGlobals "len"=some none)
  (uZ:PySem.W.nsIn K mainGlobals "list"=some none)
  (wQ:PySem.W.nsIn K mainGlobals "min"=some none)
  (zh:PySem.W.nsIn K mainGlobals "range"=some none)
  (zl:PySem.W.nsIn K mainGlobals "set"=some none)
  (zo:PySem.W.nsIn K mainGlobals "sorted"=some none)
  (sX:PySem.W.nsIn K mainGlobals "sum"=some none)
  (sy:PySem.W.nsIn K mainGlobals "tuple"=some none)
  :∃fd:FuncData,(∀(s:Shared) (v:Value),BindsTo s fd ⟨[v],[]⟩ [("script",v)])/\∀base:Heap,K.In base->base.Ns mainGlobals mg->aS l.prog w K mg base bw 9 fa fd ["script"] (qW K):=by
 have e:=UP.symm.trans (PySem.W.mg_of X G yH)
 cases e
 have F0:=bR (st:=mh) l0 c0 k0
 have b0:=F0.binds (ps:=["p","a","b"]) fun _ _ _ _ _ _ us hl=>by obtain⟨_,_,_,rfl⟩:=iG hl;rfl
 have F1:=bR (st:=kX) l1 c1 k1
 have b1:=F1.binds (ps:=["p","b"]) fun _ _ _ _ _ _ us hl=>by obtain⟨_,_,rfl⟩:=ln2 hl;rfl
 have F2:=bR (st:=kQ) l2 c2 k2
 have b2:=F2.binds (ps:=["p","pairs","word"]) fun _ _ _ _ _ _ us hl=>by obtain⟨_,_,_,rfl⟩:=iG hl;rfl
 have F3:=bR (st:=lB) l3 c3 k3
 have b3:=F3.binds (ps:=["net","word","c"]) fun _ _ _ _ _ _ us hl=>by obtain⟨_,_,_,rfl⟩:=iG hl;rfl
 have F4:=bR (st:=jQ) l4 c4 k4
 have b4:=F4.binds (ps:=["p","pairs","rest","word"]) fun _ _ _ _ _ _ us hl=>by obtain⟨_,_,_,_,rfl⟩:=vo hl;rfl
 have F5:=bR (st:=j4) l5 c5 k5
 have b5:=F5.binds (ps:=["net","word"]) fun _ _ _ _ _ _ us hl=>by obtain⟨_,_,rfl⟩:=ln2 hl;rfl
 have F6:=bR (st:=j7) l6 c6 k6
 have b6:=F6.binds (ps:=["net"]) fun _ _ _ _ _ _ us hl=>by obtain⟨_,rfl⟩:=iZ hl;rfl
 have F7:=bR (st:=lC) l7 c7 k7
 have b7:=F7.binds (ps:=["net","word"]) fun _ _ _ _ _ _ us hl=>by obtain⟨_,_,rfl⟩:=ln2 hl;rfl
 have F8:=bR (st:=kH) l8 c8 k8
 have b8:=F8.binds (ps:=["script"]) fun _ _ _ _ _ _ us hl=>by obtain⟨_,rfl⟩:=iZ hl;rfl
 have F9:=bR (st:=lN) l9 c9 k9
 have b9:=F9.binds (ps:=["bag","many"]) fun _ _ _ _ _ _ us hl=>by obtain⟨_,_,rfl⟩:=ln2 hl;rfl
 have xQ:=bR (st:=kc) ze yC sq
 have Sz:=xQ.binds (ps:=["number"]) fun _ _ _ _ _ _ us hl=>by obtain⟨_,rfl⟩:=iZ hl;rfl
 have uN:=bR (st:=lP) uh yg yy
 have Pr:=uN.binds (ps:=["bag"]) fun _ _ _ _ _ _ us hl=>by obtain⟨_,rfl⟩:=iZ hl;rfl
 have uu:=bR (st:=lZ) yk c12 uy
 have SY:=uu.binds (ps:=["p","a","b"]) fun _ _ _ _ _ _ us hl=>by obtain⟨_,_,_,rfl⟩:=iG hl;rfl
 have tS:=bR (st:=kE) rY se tO
 have UQ:=tS.binds (ps:=["p","pairs","word"]) fun _ _ _ _ _ _ us hl=>by obtain⟨_,_,_,rfl⟩:=iG hl;rfl
 have vN:=bR (st:=lg) xO u9 rZ
 have J2:=vN.binds (ps:=["bag","p"]) fun _ _ _ _ _ _ us hl=>by obtain⟨_,_,rfl⟩:=ln2 hl;rfl
 have uL:=bR (st:=lH) vO uA yb
 have Qh:=uL.binds (ps:=["bag","p"]) fun _ _ _ _ _ _ us hl=>by obtain⟨_,_,rfl⟩:=ln2 hl;rfl
 have zC:=bR (st:=jc) tL yW sZ
 have Sd:=zC.binds (ps:=["bag","p","n"]) fun _ _ _ _ _ _ us hl=>by obtain⟨_,_,_,rfl⟩:=iG hl;rfl
 have tV:=bR (st:=kr) xV yT vd
 have UR:=tV.binds (ps:=["bag","n","wide"]) fun _ _ _ _ _ _ us hl=>by obtain⟨_,_,_,rfl⟩:=iG hl;rfl
 have xU:=bR (st:=jX) uP yZ sU
 have Qo:=xU.binds (ps:=["bag","p","n","many","wide"]) fun _ _ _ _ _ _ us hl=>by obtain⟨_,_,_,_,_,rfl⟩:=yj hl;rfl
 have wI:=bR (st:=jR) sQ zA tF
 have JO:=wI.binds (ps:=["bag","p","word","wide"]) fun _ _ _ _ _ _ us hl=>by obtain⟨_,_,_,_,rfl⟩:=vo hl;rfl
 have vE:=bR (st:=jF) tP vA tD
 have Rv:=vE.binds (ps:=["bag","p","word","many","wide"]) fun _ _ _ _ _ _ us hl=>by obtain⟨_,_,_,_,_,rfl⟩:=yj hl;rfl
 have yQ:=bR (st:=jJ) xw vn rX
 have VO:=yQ.binds (ps:=["bag","word"]) fun _ _ _ _ _ _ us hl=>by obtain⟨_,_,rfl⟩:=ln2 hl;rfl
 have vX:=bR (st:=lO) vg wz xP
 have PV:=vX.binds (ps:=["found"]) fun _ _ _ _ _ _ us hl=>by obtain⟨_,rfl⟩:=iZ hl;rfl
 have xF:=bR (st:=kF) wm uQ yu
 have RK:=xF.binds (ps:=["bag","row"]) fun _ _ _ _ _ _ us hl=>by obtain⟨_,_,rfl⟩:=ln2 hl;rfl
 have yR:=bR (st:=kJ) uG tN sW
 have Tf:=yR.binds (ps:=["pairs","lot"]) fun _ _ _ _ _ _ us hl=>by obtain⟨_,_,rfl⟩:=ln2 hl;rfl
 have rV:=bR (st:=kq) ua xG yq
 have LI:=rV.binds (ps:=["bag","n"]) fun _ _ _ _ _ _ us hl=>by obtain⟨_,_,rfl⟩:=ln2 hl;rfl
 have tM:=bR (st:=kK) xX zc zy
 have S7:=tM.binds (ps:=["bag","checks","word"]) fun _ _ _ _ _ _ us hl=>by obtain⟨_,_,_,rfl⟩:=iG hl;rfl
 have yO:=bR (st:=kG) sC ue uS
 have MK:=yO.binds (ps:=["p","word","there","left","true"]) fun _ _ _ _ _ _ us hl=>by obtain⟨_,_,_,_,_,rfl⟩:=yj hl;rfl
 have Fz:=bR (st:=fW) zE wH ur
 have BW:=bR (st:=mq) wC xN xW
 have KP:=BW.binds (ps:=["self","net","word"]) fun _ _ _ _ _ _ us hl=>by obtain⟨_,_,_,rfl⟩:=iG hl;rfl
 have An:=bR (st:=lq) vZ w6 rR
 have MD:=An.binds (ps:=["self"]) fun _ _ _ _ _ _ us hl=>by obtain⟨_,rfl⟩:=iZ hl;rfl
 have Ak:=bR (st:=lG) wj xT rP
 have HX:=Ak.binds (ps:=["self"]) fun _ _ _ _ _ _ us hl=>by obtain⟨_,rfl⟩:=iZ hl;rfl
 have ED:=bR (st:=lI) zg sJ o5
 have UT:=ED.binds (ps:=["self"]) fun _ _ _ _ _ _ us hl=>by obtain⟨_,rfl⟩:=iZ hl;rfl
 have fU:cX K aP:=⟨t8,wW,sS,zm⟩
 have vU:=PySem.W.mg_none_of X G w4
 have wZ:=PySem.W.mg_none_of X G ve
 have lU:=PySem.W.mg_none_of X G ud
 have iM:=PySem.W.mg_none_of X G vD
 have aX:=PySem.W.mg_none_of X G xm
 have ck:=PySem.W.mg_none_of X G uZ
 have vf:=PySem.W.mg_none_of X G wQ
 have bq:=PySem.W.mg_none_of X G zh
 have ly:=PySem.W.mg_none_of X G zl
 have gJ:=PySem.W.mg_none_of X G zo
 have xx:=PySem.W.mg_none_of X G sX
 have uD:=PySem.W.mg_none_of X G sy
 refine⟨PySem.W.fnOf "law" "law" (bH fW) (bD fW) (ay fW) .none BO EH zM Br um D6,fun s v=> .of_eq rfl,fun base _ _=>?_⟩
 have P7:=Callee.mk' F1 (OV (P:=l.prog) (w:=w) (base:=base) F1) b1 (PySem.W.mg_of X G a1)
 have MZ:=Callee.mk' F0 (HS (P:=l.prog) (w:=w) (base:=base) F0 P7) b0 (PySem.W.mg_of X G a0)
 have HB:=Callee.mk' F2 (JJ (P:=l.prog) (w:=w) (base:=base) F2) b2 (PySem.W.mg_of X G a2)
 have S2:=Callee.mk' F4 (Ms (P:=l.prog) (w:=w) (base:=base) F4 MZ HB aX) b4 (PySem.W.mg_of X G a4)
 have Uj:=Callee.mk' F3 (Kh (P:=l.prog) (w:=w) (base:=base) F3 S2) b3 (PySem.W.mg_of X G a3)
 have FG:=Callee.mk' F5 (S8 (P:=l.prog) (w:=w) (base:=base) F5 Uj bq aX gJ) b5 (PySem.W.mg_of X G a5)
 have Kv:=Callee.mk' F6 (QW (P:=l.prog) (w:=w) (base:=base) F6 ck) b6 (PySem.W.mg_of X G a6)
 have Ub:jE l.prog w K mg base aP "step" 6 ["self"] (fL 1 (ow aP)):=⟨fU,nZ,_,N9 (P:=l.prog) (w:=w) (base:=base) An fU jv gV FG,MD,⟨we,tU,rR⟩⟩
 have JN:jE l.prog w K mg base aP "mend" 7 ["self"] (fL 1 (mL aP)):=⟨fU,mJ,_,Tg (P:=l.prog) (w:=w) (base:=base) Ak Ub,HX,⟨vP,uc,rP⟩⟩
 have QH:jE l.prog w K mg base aP "word" 1 ["self"] (fL 1 (oS aP)):=⟨fU,f32,_,Jr (P:=l.prog) (w:=w) (base:=base) ED fU gV ck,UT,⟨a32,yJ,o5⟩⟩
 have VM:sD l.prog w K mg base aP "Mender" 2 ["self","net","word"] (fL 3 (mQ aP)):=⟨nB,_,Uk (P:=l.prog) (w:=w) (base:=base) BW fU jv gV Kv ck,KP,⟨t7,sr,zp,wO⟩,PySem.W.mg_of X G sG⟩
 have VB:=Callee.mk' F7 (U8 (P:=l.prog) (w:=w) (base:=base) F7 JN QH VM) b7 (PySem.W.mg_of X G a7)
 have Mp:=Callee.mk' F8 (Kc (P:=l.prog) (w:=w) (base:=base) F8 vU) b8 (PySem.W.mg_of X G a8)
 have iS:=Callee.mk' F9 (Of (P:=l.prog) (w:=w) (base:=base) F9 aX) b9 (PySem.W.mg_of X G a9)
 have R5:=Callee.mk' xQ (U7 (P:=l.prog) (w:=w) (base:=base) xQ bq) Sz (PySem.W.mg_of X G tR)
 have JE:=Callee.mk' uN (Gd (P:=l.prog) (w:=w) (base:=base) uN iS R5) Pr (PySem.W.mg_of X G tQ)
 have GR:=Callee.mk' uu (OX (P:=l.prog) (w:=w) (base:=base) uu) SY (PySem.W.mg_of X G wo)
 have Ug:=Callee.mk' tS (UU (P:=l.prog) (w:=w) (base:=base) tS xx) UQ (PySem.W.mg_of X G su)
 have GO:=Callee.mk' vN (Ul (P:=l.prog) (w:=w) (base:=base) vN iS) J2 (PySem.W.mg_of X G uO)
 have C4:=Callee.mk' uL (JQ (P:=l.prog) (w:=w) (base:=base) uL iS) Qh (PySem.W.mg_of X G xh)
 have RM:=Callee.mk' zC (JU (P:=l.prog) (w:=w) (base:=base) zC iS GO bq lU vf) Sd (PySem.W.mg_of X G yf)
 have zX:=Callee.mk' tV (VW (P:=l.prog) (w:=w) (base:=base) tV iS gJ ck ly bq) UR (PySem.W.mg_of X G uI)
 have Vl:=Callee.mk' xU (FY (P:=l.prog) (w:=w) (base:=base) xU C4 zX iS bq ck aX) Qo (PySem.W.mg_of X G wU)
 have JA:=Callee.mk' wI (NN (P:=l.prog) (w:=w) (base:=base) wI Ug C4 zX GR aX) JO (PySem.W.mg_of X G sj)
 have GQ:=Callee.mk' vE (G1 (P:=l.prog) (w:=w) (base:=base) vE JA aX bq) Rv (PySem.W.mg_of X G vF)
 have QJ:=Callee.mk' yQ (MP (P:=l.prog) (w:=w) (base:=base) yQ iS) VO (PySem.W.mg_of X G sE)
 have PD:=Callee.mk' vX (NR (P:=l.prog) (w:=w) (base:=base) vX iM lU wZ) PV (PySem.W.mg_of X G yF)
 have AS:=Callee.mk' xF (U6 (P:=l.prog) (w:=w) (base:=base) xF iS ck bq aX) RK (PySem.W.mg_of X G yD)
 have N7:=Callee.mk' yR (Uy (P:=l.prog) (w:=w) (base:=base) yR aX) Tf (PySem.W.mg_of X G w9)
 have Vr:=Callee.mk' rV (TU (P:=l.prog) (w:=w) (base:=base) rV iS gJ ly bq) LI (PySem.W.mg_of X G za)
 have UO:=Callee.mk' tM (Hh (P:=l.prog) (w:=w) (base:=base) tM AS bq gJ aX ck) S7 (PySem.W.mg_of X G yV)
 have Mf:=Callee.mk' yO (Na (P:=l.prog) (w:=w) (base:=base) yO PD bq aX iM ck) MK (PySem.W.mg_of X G yU)
 exact TM Fz Mp JE RM Vr iS Vl QJ UO GQ AS VB Mf N7 aX ck bq iM uD
theorem walk{l:PySem.W.OpenLaw}{q:Program}{loose:List Str}{XP:(Str->Option Value)->Heap->Prop}{YP:World->Heap->Prop}{d:DefRec}{K:Params->PySem.W.Frag}(hn:l.most=some 63)(hdf:d.params.defaults=[])
  (hY:∀(w:World) (h:Heap),YP w h->(K w.params).In h)
  (F : ∀ (w : World) (mg : Str -> Option Value) (fa : Addr) (h : Heap), (K w.params).In h -> h.Ns mainGlobals mg -> mg d.name = some (.ref fa) ->
   ∃fd:FuncData,(∀(s:Shared) (u:Value),BindsTo s fd ⟨[u],[]⟩ [("script",u)])/\∀base:Heap,(K w.params).In base->base.Ns mainGlobals mg->aS l.prog w (K w.params) mg base bw 9 fa fd ["script"] (qW (K w.params))):
  PySem.W.WalkO q loose XP YP l.row.toRowW d [] (fun f vs=>PySem.call f vs):=
 L2.QO (n:=63) (k:=9) (x:="script") (CX:=fun _=>bw) (sp:=fun w=>qW (K w.params)) hn (by decide) hdf ⟨rfl,by decide,by decide⟩ hY F (fun _ _ a ns hl _ hS=>⟨a,ns,rfl,hS,hl,fun _=>rfl⟩) fun _ _ _ _ _ z=>z
end K26
open PySem PySem.W PyProof.Rows
set_option maxRecDepth 100000 in
set_option maxHeartbeats 0 in
theorem PySem.Challenge.cw_fewchecks_k26_whole_in_any_order_holds : PySem.Challenge.rw_fewchecks_k26_whole_in_any_order.Holds := by
 w_on;o_law;k_head;(case hw=>w_witness2)
 k_fill
 refine K26.walk (l:=PySem.Challenge.rw_fewchecks_k26_whole_in_any_order) rfl rfl (fun w h Y=>PySem.W.kIn_of Y) ?F
 case F=>
  intro w mg fa h KX G hmg
  refine' K26.all_mk KX G hmg ?sG ?t8 ?wW ?sS ?zm ?t7 ?wO ?jv ?gV ?a0 ?l0 ?c0 ?k0 ?a1 ?l1 ?c1 ?k1 ?a2 ?l2 ?c2 ?k2 ?a3 ?l3 ?c3 ?k3 ?a4 ?l4 ?c4 ?k4 ?a5 ?l5 ?c5 ?k5 ?a6 ?l6 ?c6 ?k6 ?a7 ?l7 ?c7 ?k7 ?a8 ?l8 ?c8 ?k8 ?a9 ?l9 ?c9 ?k9 ?tR ?ze ?yC ?sq ?tQ ?uh ?yg ?yy ?wo ?yk ?c12 ?uy ?su ?rY ?se ?tO ?uO ?xO ?u9 ?rZ ?xh ?vO ?uA ?yb ?yf ?tL ?yW ?sZ ?uI ?xV ?yT ?vd ?wU ?uP ?yZ ?sU ?sj ?sQ ?zA ?tF ?vF ?tP ?vA ?tD ?sE ?xw ?vn ?rX ?yF ?vg ?wz ?xP ?yD ?wm ?uQ ?yu ?w9 ?uG ?tN ?sW ?za ?ua ?xG ?yq ?yV ?xX ?zc ?zy ?yU ?sC ?ue ?uS ?yH ?zE ?wH ?ur ?sr ?zp ?wC ?xN ?xW ?we ?tU ?vZ ?w6 ?rR ?vP ?uc ?wj ?xT ?rP ?a32 ?yJ ?zg ?sJ ?o5 ?w4 ?ve ?ud ?vD ?xm ?uZ ?wQ ?zh ?zl ?zo ?sX ?sy
  (case sG=>k_is)
  (case t8=>k_is)
  (case wW=>k_is)
  (case sS=>k_is)
  (case zm=>k_is)
  (case t7=>k_is)
  (case wO=>k_is)
  (case jv=>k_is)
  (case gV=>k_is)
  (case a0=>k_is)
  (case l0=>k_is)
  (case c0=>k_is)
  (case k0=>k_is)
  (case a1=>k_is)
  (case l1=>k_is)
  (case c1=>k_is)
  (case k1=>k_is)
  (case a2=>k_is)
  (case l2=>k_is)
  (case c2=>k_is)
  (case k2=>k_is)
  (case a3=>k_is)
  (case l3=>k_is)
  (case c3=>k_is)
  (case k3=>k_is)
  (case a4=>k_is)
  (case l4=>k_is)
  (case c4=>k_is)
  (case k4=>k_is)
  (case a5=>k_is)
  (case l5=>k_is)
  (case c5=>k_is)
  (case k5=>k_is)
  (case a6=>k_is)
  (case l6=>k_is)
  (case c6=>k_is)
  (case k6=>k_is)
  (case a7=>k_is)
  (case l7=>k_is)
  (case c7=>k_is)
  (case k7=>k_is)
  (case a8=>k_is)
  (case l8=>k_is)
  (case c8=>k_is)
  (case k8=>k_is)
  (case a9=>k_is)
  (case l9=>k_is)
  (case c9=>k_is)
  (case k9=>k_is)
  (case tR=>k_is)
  (case ze=>k_is)
  (case yC=>k_is)
  (case sq=>k_is)
  (case tQ=>k_is)
  (case uh=>k_is)
  (case yg=>k_is)
  (case yy=>k_is)
  (case wo=>k_is)
  (case yk=>k_is)
  (case c12=>k_is)
  (case uy=>k_is)
  (case su=>k_is)
  (case rY=>k_is)
  (case se=>k_is)
  (case tO=>k_is)
  (case uO=>k_is)
  (case xO=>k_is)
  (case u9=>k_is)
  (case rZ=>k_is)
  (case xh=>k_is)
  (case vO=>k_is)
  (case uA=>k_is)
  (case yb=>k_is)
  (case yf=>k_is)
  (case tL=>k_is)
  (case yW=>k_is)
  (case sZ=>k_is)
  (case uI=>k_is)
  (case xV=>k_is)
  (case yT=>k_is)
  (case vd=>k_is)
  (case wU=>k_is)
  (case uP=>k_is)
  (case yZ=>k_is)
  (case sU=>k_is)
  (case sj=>k_is)
  (case sQ=>k_is)
  (case zA=>k_is)
  (case tF=>k_is)
  (case vF=>k_is)
  (case tP=>k_is)
  (case vA=>k_is)
  (case tD=>k_is)
  (case sE=>k_is)
  (case xw=>k_is)
  (case vn=>k_is)
  (case rX=>k_is)
  (case yF=>k_is)
  (case vg=>k_is)
  (case wz=>k_is)
  (case xP=>k_is)
  (case yD=>k_is)
  (case wm=>k_is)
  (case uQ=>k_is)
  (case yu=>k_is)
  (case w9=>k_is)
  (case uG=>k_is)
  (case tN=>k_is)
  (case sW=>k_is)
  (case za=>k_is)
  (case ua=>k_is)
  (case xG=>k_is)
  (case yq=>k_is)
  (case yV=>k_is)
  (case xX=>k_is)
  (case zc=>k_is)
  (case zy=>k_is)
  (case yU=>k_is)
  (case sC=>k_is)
  (case ue=>k_is)
  (case uS=>k_is)
  (case yH=>k_is)
  (case zE=>k_is)
  (case wH=>k_is)
  (case ur=>k_is)
  (case sr=>k_is)
  (case zp=>k_is)
  (case wC=>k_is)
  (case xN=>k_is)
  (case xW=>k_is)
  (case we=>k_is)
  (case tU=>k_is)
  (case vZ=>k_is)
  (case w6=>k_is)
  (case rR=>k_is)
  (case vP=>k_is)
  (case uc=>k_is)
  (case wj=>k_is)
  (case xT=>k_is)
  (case rP=>k_is)
  (case a32=>k_is)
  (case yJ=>k_is)
  (case zg=>k_is)
  (case sJ=>k_is)
  (case o5=>k_is)
  (case w4=>k_is)
  (case ve=>k_is)
  (case ud=>k_is)
  (case vD=>k_is)
  (case xm=>k_is)
  (case uZ=>k_is)
  (case wQ=>k_is)
  (case zh=>k_is)
  (case zl=>k_is)
  (case zo=>k_is)
  (case sX=>k_is)
  (case sy=>k_is)
