import PyProof.Rows.All
import Wide.All
import OpenK.AllK
import Wide.FinOn
import Lean
import PyProof.EqAt
import PyProof.EqKinds
import PyProof.TupleCall
import PySem.Challenge.RW_fewchecks_k57_whole_votes_hang_on_what_i
set_option compiler.extract_closed false
set_option Elab.async false
set_option linter.all false
set_option maxRecDepth 100000
namespace L2
open PySem PySem.Spec PyProof.Rows
abbrev Key := Sum Int Str
def keyIs : Key -> Value -> Bool
 | .inl k, v => Value.isInt k v
 | .inr x, v => Value.isStrOf x v
def keyH (w : World) : Key -> Int
 | .inl k => hashInt k
 | .inr x => hashStr w x
theorem keyIs_shape : ∀ {k : Key} {v : Value}, keyIs k v = true -> (∃ i t, k = Sum.inl i /\ v = Value.int i t) \/ (∃ x t, k = Sum.inr x /\ v = Value.str x t)
  | .inl i, v, h => by
    obtain ⟨t, e⟩ := Value.isInt_shape (k := i) (v := v) h
    exact .inl ⟨i, t, rfl, e⟩
  | .inr x, v, h => by
    obtain ⟨t, e⟩ := Value.isStrOf_shape (x := x) (v := v) h
    exact .inr ⟨x, t, rfl, e⟩
theorem keyIs_int (i : Int) (t : Tok) : keyIs (.inl i) (.int i t) = true := by simp [keyIs, Value.isInt]
theorem keyIs_str (x : Str) (t : Tok) : keyIs (.inr x) (.str x t) = true := by simp [keyIs, Value.isStrOf]
theorem key_ll (a b : Int) : decide ((Sum.inl a : Key) = Sum.inl b) = (a == b) := by
 by_cases e : a = b
 ·subst e; simp
 ·have h : ¬ (Sum.inl a : Key) = Sum.inl b := fun q => e (Sum.inl.inj q)
  rw [decide_eq_false h]
  exact (beq_eq_false_iff_ne.mpr e).symm
theorem key_rr (a b : Str) : decide ((Sum.inr a : Key) = Sum.inr b) = decide (a = b) := by
 by_cases e : a = b
 ·subst e; simp
 ·have h : ¬ (Sum.inr a : Key) = Sum.inr b := fun q => e (Sum.inr.inj q)
  rw [decide_eq_false h, decide_eq_false e]
theorem key_lr (a : Int) (b : Str) : decide ((Sum.inl a : Key) = Sum.inr b) = false := decide_eq_false (fun q => nomatch q)
theorem key_rl (a : Str) (b : Int) : decide ((Sum.inr a : Key) = Sum.inl b) = false := decide_eq_false (fun q => nomatch q)
def mixKind (prog : Program) (w : World) : PySem.KeyKind prog w Key where
 is := keyIs
 hash := keyH w
 inj := fun v a b ha hb => by
  rcases keyIs_shape ha with ⟨i, t, rfl, rfl⟩ | ⟨x, t, rfl, rfl⟩
  ·rcases keyIs_shape hb with ⟨j, u, rfl, e⟩ | ⟨y, u, rfl, e⟩
   ·injection e with e1 _; rw [e1]
   ·exact nomatch e
  ·rcases keyIs_shape hb with ⟨j, u, rfl, e⟩ | ⟨y, u, rfl, e⟩
   ·exact nomatch e
   ·injection e with e1 _; rw [e1]
 byValue := fun k v h => by
  rcases keyIs_shape h with ⟨i, t, rfl, rfl⟩ | ⟨x, t, rfl, rfl⟩ <;> rfl
 pyHash := fun hv h => by
  rcases keyIs_shape hv with ⟨i, t, rfl, rfl⟩ | ⟨x, t, rfl, rfl⟩
  ·exact wpAny_pyHash_int h
  ·exact wpAny_pyHash_str h
 eqBool := fun hu hv h => by
  rcases keyIs_shape hu with ⟨i, t, rfl, rfl⟩ | ⟨x, t, rfl, rfl⟩
  ·rcases keyIs_shape hv with ⟨j, u, rfl, rfl⟩ | ⟨y, u, rfl, rfl⟩
   ·rw [key_ll] at h; exact wpAny_eqBool_int h
   ·rw [key_lr] at h; exact SeqAt.EqAt.int_str i t y u _ _ _ _ h
  ·rcases keyIs_shape hv with ⟨j, u, rfl, rfl⟩ | ⟨y, u, rfl, rfl⟩
   ·rw [key_rl] at h; exact SeqAt.EqAt.str_int x t j u _ _ _ _ h
   ·rw [key_rr] at h; exact wpAny_eqBool_str h
 «strs» := fun k x t v h => by
  rcases keyIs_shape h with ⟨i, u, rfl, e⟩ | ⟨y, u, rfl, e⟩
  ·exact nomatch e
  ·injection e with e1 _
   subst e1
   cases v <;> rfl
theorem mixKind_int (prog : Program) (w : World) (i : Int) (t : Tok) : (mixKind prog w).is (.inl i) (.int i t) = true := keyIs_int i t
theorem mixKind_str (prog : Program) (w : World) (x : Str) (t : Tok) : (mixKind prog w).is (.inr x) (.str x t) = true := keyIs_str x t
inductive V where
 | non | bl (b : Bool) | int (i : Int) | str (x : Str) | byt (b : Array UInt8) | flt (b : UInt64) | ref (a : Addr) | ty (n : String)
 deriving DecidableEq
def RelV : V -> Value -> Prop
 | .non, u => u = Value.none
 | .bl b, u => u = Value.bool b
 | .int i, u => ∃ t, u = Value.int i t
 | .str x, u => ∃ t, u = Value.str x t
 | .byt b, u => ∃ t, u = Value.bytes b t
 | .flt b, u => ∃ t, u = Value.float b t
 | .ref a, u => u = Value.ref a
 | .ty n, u => u = Value.type n
abbrev Vals : List V -> List Value -> Prop := Paired RelV
theorem Vals.length {xs : List V} {us : List Value} (r : Vals xs us) : xs.length = us.length := Paired.length r
theorem Vals.get : ∀ {xs : List V} {us : List Value} {i : Nat} {x : V}, Vals xs us -> xs[i]? = some x -> ∃ u, us[i]? = some u /\ RelV x u
  | _, _, _, _, .nil, e => by simp at e
  | _, _, 0, _, .cons r _, e => by simp at e; subst e; exact ⟨_, rfl, r⟩
  | _, _, i + 1, x, .cons _ t, e => by
    obtain ⟨u, h1, h2⟩ := Vals.get (i := i) (x := x) t (by simpa using e)
    exact ⟨u, by simpa using h1, h2⟩
theorem Vals.set {x : V} {u : Value} (r : RelV x u) : ∀ {xs : List V} {us : List Value} (i : Nat), Vals xs us -> Vals (xs.set i x) (us.set i u)
 | _, _, _, .nil => .nil
 | _, _, 0, .cons _ t => .cons r t
 | _, _, i + 1, .cons q t => .cons q (Vals.set r i t)
theorem Vals.append : ∀ {xs ys : List V} {us ws : List Value}, Vals xs us -> Vals ys ws -> Vals (xs ++ ys) (us ++ ws)
 | _, _, _, _, .nil, s => s
 | _, _, _, _, .cons r t, s => .cons r (Vals.append t s)
theorem Vals.take : ∀ {xs : List V} {us : List Value} (n : Nat), Vals xs us -> Vals (xs.take n) (us.take n)
 | _, _, 0, _ => .nil
 | _, _, _ + 1, .nil => .nil
 | _, _, n + 1, .cons r t => .cons r (Vals.take n t)
theorem Vals.drop : ∀ {xs : List V} {us : List Value} (n : Nat), Vals xs us -> Vals (xs.drop n) (us.drop n)
 | _, _, 0, r => r
 | _, _, _ + 1, .nil => .nil
 | _, _, n + 1, .cons _ t => Vals.drop n t
def RelO : Option V -> Option Value -> Prop
 | some v, some u => RelV v u
 | none, none => True
 | _, _ => False
def KV {κ : Type} : List (κ × V) -> List (κ × Value) -> Prop := Paired fun (p : κ × V) (q : κ × Value) => p.1 = q.1 /\ RelV p.2 q.2
def kV : Key -> V
 | .inl i => .int i
 | .inr x => .str x
inductive HO where
  | lst (xs : List V)
  | tup (xs : List V)
  | dK (kvs : List (Key × V)) | dT (kvs : List (List Key × V))
  | set (S : Int -> Bool) (n : Nat)
  | ins (C dx : Addr) (fs : List (Str × V))
  | own (x : Addr)
  | xd (fs : List (Str × V))
  | met (f x : Addr)
  | rng (lo hi : Int)
  | frz (o : Obj) (u : HO)
  | tbl (ps : Array Value)
  | ext (φ : Heap -> Prop)
abbrev Hp := Addr -> Option HO
def upd (H : Hp) (a : Addr) (o : HO) : Hp := fun b => if b = a then some o else H b
theorem upd_same {H : Hp} {a : Addr} {o : HO} : upd H a o a = some o := by unfold upd; rw [if_pos rfl]
theorem upd_ne {H : Hp} {a b : Addr} {o : HO} (h : b ≠ a) : upd H a o b = H b := by unfold upd; rw [if_neg h]
theorem upd_upd {H : Hp} {a : Addr} {o u : HO} : upd (upd H a o) a u = upd H a u := by
 funext b; unfold upd; split <;> rfl
theorem ne_of_none {H : Hp} {a b : Addr} {o : HO} (h : H a = some o) (h' : H b = none) : a ≠ b := by
 intro e; subst e; rw [h] at h'; cases h'
section
variable (P : Program) (w : World)
def ObjOk (H : Hp) (h : Heap) (a : Addr) : HO -> Prop
 | .lst xs => xs.length <= sizeLine /\ ∃ (its : List Value) (n : Nat), Vals xs its /\ h.get? a = some { cls := .type "list", data := .seq its.toArray n }
 | .tup xs => xs.length <= sizeLine /\ ∃ its : List Value, Vals xs its /\ IsTup h a its.toArray
 | .dK kvs => kvs.length <= sizeLine /\ (a == sysModules) = false /\ ∃ vs, KV kvs vs /\ h.DictOf (mixKind P w) a vs
 | .dT kvs => kvs.length <= sizeLine /\ (a == sysModules) = false /\ ∃ xs : List (List Key × Addr × Value),
   Paired (fun (p : List Key × V) (q : List Key × Addr × Value) => p.1 = q.1 /\ H q.2.1 = some (.tup (p.1.map kV)) /\ RelV p.2 q.2.2) kvs xs /\
   ∃ o es ep, h.get? a = some o /\ o.ExactDict /\ o.data = .dict es ep /\ es.toList = xs.map (entryOfKey (tupleKind (mixKind P w))) /\ (xs.map (·.1)).Nodup
 | .set S n => h.SetOf (intKind P w) a S n
 | .ins C dx fs => H dx = some (.own a) /\ fs.length <= 1000 /\ dx ≠ a /\ h.get? a = some (PySem.W.instObj C dx) /\
   ∃ mA, h.Ns1 dx mA /\ (∀ f, RelO (fs.lookup f) (mA f)) /\ PySem.Within mA (fs.map (·.1))
 | .own _ => ∃ o, h.get? a = some o
 | .xd fs => ∃ mA, h.Ns1 a mA /\ ∀ f, RelO (fs.lookup f) (mA f)
 | .rng lo hi => ∃ t u v, h.get? a = some { cls := .type "range", data := .fields #[.int lo t, .int hi u, .int 1 v] }
 | .frz o u => h.get? a = some o /\ ObjOk H h a u
 | .tbl ps => h.get? a = some { cls := .none, data := .fields ps }
 | .met f x => h.get? a = some (PySem.W.methodObj (.ref f) (.ref x))
 | .ext φ => φ h /\ (∃ o, h.get? a = some o) /\ ∀ h1 h2 : Heap, φ h1 -> (∀ o, h1.get? a = some o -> h2.get? a = some o) -> φ h2
def HOk (H : Hp) (h : Heap) : Prop := ∀ a o, H a = some o -> ObjOk P w H h a o
end
section
variable {P : Program} {w : World} {H H' : Hp} {h h' : Heap} {a : Addr} {o : HO}
theorem ObjOk.lt (x : ObjOk P w H h a o) : a < h.objs.size := by
 cases o with
 | lst xs => obtain ⟨_, _, _, _, e⟩ := x; exact Heap.lt_size e
 | tup xs => obtain ⟨_, _, _, p⟩ := x; exact p.lt
 | dK kvs => obtain ⟨_, _, _, _, o, _, _, e, _⟩ := x; exact Heap.lt_size e
 | dT kvs => obtain ⟨_, _, _, _, o, _, _, e, _⟩ := x; exact Heap.lt_size e
 | set S n => obtain ⟨o, _, _, _, e, _⟩ := x; exact Heap.lt_size e
 | ins C dx fs => obtain ⟨_, _, _, e, _⟩ := x; exact Heap.lt_size e
 | own y => obtain ⟨_, e⟩ := x; exact Heap.lt_size e
 | xd fs => obtain ⟨_, ⟨_, _, _, e, _⟩, _⟩ := x; exact Heap.lt_size e
 | rng lo hi => obtain ⟨_, _, _, e⟩ := x; exact Heap.lt_size e
 | frz ob u => obtain ⟨e, _⟩ := x; exact Heap.lt_size e
 | tbl ps => exact Heap.lt_size (show h.get? a = some _ from x)
 | met f y => exact Heap.lt_size (show h.get? a = some _ from x)
 | ext φ => obtain ⟨_, ⟨_, e⟩, _⟩ := x; exact Heap.lt_size e
theorem Paired.mapP {α β : Type} {F G : α -> β -> Prop} : ∀ {l₁ : List α} {l₂ : List β}, Paired F l₁ l₂ -> (∀ a b, F a b -> G a b) -> Paired G l₁ l₂
 | _, _, .nil, _ => .nil
 | _, _, .cons r t, f => .cons (f _ _ r) (Paired.mapP t f)
theorem ObjOk.stay (x : ObjOk P w H h a o) (k : ∀ b u, (b = a \/ H b = some (.own a)) -> h.get? b = some u -> h'.get? b = some u)
    (ho : ∀ b, H b = some (.own a) -> H' b = some (.own a)) (ht : ∀ b xs, H b = some (.tup xs) -> H' b = some (.tup xs)) : ObjOk P w H' h' a o := by
  induction o with
  | lst xs => obtain ⟨z, its, n, r, e⟩ := x; exact ⟨z, its, n, r, k _ _ (.inl rfl) e⟩
  | tup xs => obtain ⟨z, its, r, ob, e, c⟩ := x; exact ⟨z, its, r, ob, k _ _ (.inl rfl) e, c⟩
  | dK kvs => obtain ⟨z, y, vs, r, ob, es, ep, e, c⟩ := x; exact ⟨z, y, vs, r, ob, es, ep, k _ _ (.inl rfl) e, c⟩
  | dT kvs =>
    obtain ⟨z, y, xs, r, ob, es, ep, e, c⟩ := x
    exact ⟨z, y, xs, Paired.mapP r fun p q z => ⟨z.1, ht _ _ z.2.1, z.2.2⟩, ob, es, ep, k _ _ (.inl rfl) e, c⟩
  | set S n => obtain ⟨ob, es, ep, t, e, c⟩ := x; exact ⟨ob, es, ep, t, k _ _ (.inl rfl) e, c⟩
  | ins C dx fs =>
    obtain ⟨d, z, ne, e, mA, ⟨od, es, ep, e2, c⟩, r⟩ := x
    exact ⟨ho _ d, z, ne, k _ _ (.inl rfl) e, mA, ⟨od, es, ep, k _ _ (.inr d) e2, c⟩, r⟩
  | own y => obtain ⟨ob, e⟩ := x; exact ⟨ob, k _ _ (.inl rfl) e⟩
  | xd fs => obtain ⟨mA, ⟨od, es, ep, e, c⟩, r⟩ := x; exact ⟨mA, ⟨od, es, ep, k _ _ (.inl rfl) e, c⟩, r⟩
  | rng lo hi => obtain ⟨t, u, v, e⟩ := x; exact ⟨t, u, v, k _ _ (.inl rfl) e⟩
  | frz ob u ih => obtain ⟨e, q⟩ := x; exact ⟨k _ _ (.inl rfl) e, ih q⟩
  | tbl ps =>
    have e : h.get? a = some { cls := .none, data := .fields ps } := x
    show h'.get? a = some { cls := .none, data := .fields ps }
    exact k a _ (.inl rfl) e
  | met f y =>
    have e : h.get? a = some (PySem.W.methodObj (.ref f) (.ref y)) := x
    show h'.get? a = some (PySem.W.methodObj (.ref f) (.ref y))
    exact k a _ (.inl rfl) e
  | ext φ => obtain ⟨p, ⟨o, e⟩, st⟩ := x; exact ⟨st _ _ p fun o q => k _ _ (.inl rfl) q, ⟨o, k _ _ (.inl rfl) e⟩, st⟩
theorem HOk.lt (x : HOk P w H h) (e : H a = some o) : a < h.objs.size := (x a o e).lt
theorem HOk.fresh (x : HOk P w H h) (e : h.objs.size <= a) : H a = none := by
 cases q : H a with
 | none => rfl
 | some u => exact absurd (Nat.lt_of_lt_of_le (x.lt q) e) (Nat.lt_irrefl _)
theorem HOk.kept (x : HOk P w H h) (k : ∀ b u, h.get? b = some u -> h'.get? b = some u) : HOk P w H h' := fun a o e =>
 (x a o e).stay (fun b u _ q => k b u q) (fun _ q => q) fun _ _ q => q
theorem HOk.laid (x : HOk P w H h) (k : ∀ b u, h.get? b = some u -> h'.get? b = some u) (hp : h.objs.size <= a) (new : ObjOk P w (upd H a o) h' a o) : HOk P w (upd H a o) h' := fun b u e => by
 have hn := x.fresh hp
 by_cases hb : b = a
 ·subst hb; rw [upd_same] at e; cases e; exact new
 ·rw [upd_ne hb] at e
  exact (x b u e).stay (fun c v _ q => k c v q) (fun c q => by rw [upd_ne (ne_of_none q hn)]; exact q) fun c xs q => by rw [upd_ne (ne_of_none q hn)]; exact q
end
def Rd (H : Hp) (a : Addr) (u : HO) : Prop := H a = some u \/ ∃ o, H a = some (.frz o u)
theorem Rd.ok {P : Program} {w : World} {H : Hp} {h : Heap} {a : Addr} {u : HO} (r : Rd H a u) (x : HOk P w H h) : ObjOk P w H h a u := by
 rcases r with r | ⟨o, r⟩
 ·exact x a u r
 ·obtain ⟨_, q⟩ := x a _ r
  exact q
def Mut : Option HO -> Prop
 | some (.lst _) => True
 | some (.dK _) => True
 | some (.dT _) => True
 | some (.set _ _) => True
 | some (.ins _ _ _) => True
 | some (.ext _) => True
 | _ => False
section
variable {P : Program} {w : World} {H : Hp} {h h' : Heap} {x e : Addr} {o' : HO}
theorem HOk.write (ok : HOk P w H h) (mu : Mut (H x)) (he : e = x \/ H e = some (.own x)) (k : ∀ b u, b ≠ e -> h.get? b = some u -> h'.get? b = some u) (heo : ∃ u, h'.get? e = some u)
  (new : ObjOk P w (upd H x o') h' x o') : HOk P w (upd H x o') h' := fun b u q => by
 have nown : ∀ c y, H c = some (.own y) -> c ≠ x := fun c y r z => by subst z; rw [r] at mu; exact mu
 have ntup : ∀ c xs, H c = some (.tup xs) -> c ≠ x := fun c xs r z => by subst z; rw [r] at mu; exact mu
 by_cases hb : b = x
 ·subst hb; rw [upd_same] at q; cases q; exact new
 ·rw [upd_ne hb] at q
  by_cases hbe : b = e
  ·have q' : H b = some (.own x) := by
    rcases he with z | z
    ·exact absurd (hbe.trans z) hb
    ·rw [hbe]; exact z
   rw [q] at q'; cases q'
   obtain ⟨v, hv⟩ := heo
   exact ⟨v, by rw [hbe]; exact hv⟩
  ·refine (ok b u q).stay (fun c v hc r => k c v ?_ r) (fun c r => by rw [upd_ne (nown c b r)]; exact r) fun c xs r => by rw [upd_ne (ntup c xs r)]; exact r
   rcases hc with rfl | hc
   ·exact hbe
   ·rintro rfl
    rcases he with z | z
    ·exact nown c b hc z
    ·rw [hc] at z; cases z; exact hb rfl
end
structure Un (fs ex : List Addr) (H H' : Hp) (h h' : Heap) : Prop where
 keep : ∀ b o, h.get? b = some o -> H b = none -> b ∉ fs -> b ∉ ex -> h'.get? b = some o
 slot : ∀ b o, h.get? b = some o -> H b = none -> b ∈ fs -> b ∉ ex -> ∃ sl, h'.get? b = some { o with slots := sl }
 free : ∀ b o, h.get? b = some o -> H b = none -> b ∉ ex -> H' b = none
 there : ∀ b o, h.get? b = some o -> b ∉ ex -> ∃ o', h'.get? b = some o'
 tups : ∀ b xs, H b = some (.tup xs) -> H' b = some (.tup xs)
 frzs : ∀ b o u, H b = some (.frz o u) -> H' b = some (.frz o u)
 tbls : ∀ b ps, H b = some (.tbl ps) -> ∃ more, H' b = some (.tbl (ps ++ more))
section
variable {fs fs' ex ex' : List Addr} {H H1 H2 : Hp} {h h1 h2 h' : Heap} {a x e : Addr} {o : HO}
theorem Un.any (u : Un fs ex H H1 h h1) {b : Addr} {ob : Obj} (q : h.get? b = some ob) (n : H b = none) (hx : b ∉ ex) : ∃ sl, h1.get? b = some { ob with slots := sl } := by
 by_cases hb : b ∈ fs
 ·exact u.slot b ob q n hb hx
 ·exact ⟨ob.slots, u.keep b ob q n hb hx⟩
theorem Un.kept (k : ∀ b u, h.get? b = some u -> h'.get? b = some u) : Un fs ex H H h h' :=
 ⟨fun b ob q _ _ _ => k b ob q, fun b ob q _ _ _ => ⟨ob.slots, k b ob q⟩, fun _ _ _ n _ => n, fun b ob q _ => ⟨ob, k b ob q⟩, fun _ _ q => q, fun _ _ _ q => q, fun _ ps q => ⟨#[], by rw [q]; simp⟩⟩
theorem Un.refl : Un fs ex H H h h := Un.kept fun _ _ q => q
theorem Un.laid (k : ∀ b u, h.get? b = some u -> h'.get? b = some u) (hp : h.objs.size <= a) (hn : H a = none) : Un fs ex H (upd H a o) h h' where
 keep := fun b u q _ _ _ => k b u q
 slot := fun b u q _ _ _ => ⟨u.slots, k b u q⟩
 free := fun b u q n _ => by rw [upd_ne (Nat.ne_of_lt (Nat.lt_of_lt_of_le (Heap.lt_size q) hp))]; exact n
 there := fun b u q _ => ⟨u, k b u q⟩
 tups := fun b xs q => by rw [upd_ne (ne_of_none q hn)]; exact q
 frzs := fun b u xs q => by rw [upd_ne (ne_of_none q hn)]; exact q
 tbls := fun b ps q => ⟨#[], by rw [upd_ne (ne_of_none q hn), q]; simp⟩
theorem Un.write (mu : Mut (H x)) (he : e = x \/ H e = some (.own x)) (k : ∀ b u, b ≠ e -> h.get? b = some u -> h'.get? b = some u) (heo : ∃ u, h'.get? e = some u) : Un fs ex H (upd H x o) h h' := by
 have hx : ∀ b, H b = none -> b ≠ x := fun b n z => by subst z; rw [n] at mu; exact mu
 have hb : ∀ b, H b = none -> b ≠ e := fun b n z => by
  subst z
  rcases he with r | r
  ·exact hx b n r
  ·rw [n] at r; cases r
 have hm : ∀ b u, H b = some u -> ¬ Mut (some u) -> b ≠ x := fun b u q nm z => by subst z; rw [q] at mu; exact nm mu
 refine ⟨fun b u q n _ _ => k b u (hb b n) q, fun b u q n _ _ => ⟨u.slots, k b u (hb b n) q⟩, fun b u q n _ => by rw [upd_ne (hx b n)]; exact n, fun b u q _ => ?_,
  fun b xs q => by rw [upd_ne (hm b _ q fun z => z)]; exact q, fun b u xs q => by rw [upd_ne (hm b _ q fun z => z)]; exact q, fun b ps q => ⟨#[], by rw [upd_ne (hm b _ q fun z => z), q]; simp⟩⟩
 by_cases hbe : b = e
 ·subst hbe; exact heo
 ·exact ⟨u, k b u hbe q⟩
end
def trk (h : Heap) (H : Hp) : List Addr := (List.range h.objs.size).filter fun a => (H a).isSome
def hidT (h : Heap) (H : Hp) : Heap := PySem.W.hideAll h (trk h H)
theorem hidT_size (h : Heap) (H : Hp) : (hidT h H).objs.size = h.objs.size := PySem.W.hideAll_size _ _
theorem hidT_get {h : Heap} {H : Hp} {b : Addr} {o : Obj} (e : h.get? b = some o) (n : H b = none) : (hidT h H).get? b = some o :=
 PySem.W.hideAll_get _ e fun hm => by
  have q : (H b).isSome = true := (List.mem_filter.mp hm).2
  rw [n] at q; simp at q
theorem of_hidT {h : Heap} {H : Hp} {b : Addr} {o : Obj} (e : (hidT h H).get? b = some o) : h.get? b = some o /\ H b = none := by
  have e' : h.get? b = some o := PySem.W.of_hideAll (trk h H) e
  refine ⟨e', ?_⟩
  cases q : H b with
  | none => rfl
  | some x =>
    have hm : b ∈ trk h H := List.mem_filter.mpr ⟨List.mem_range.mpr (Heap.lt_size e'), by simp [q]⟩
    have z : (hidT h H).get? b = none := PySem.W.hideAll_none (trk h H) hm
    rw [z] at e; cases e
def allNews (g h : Heap) (L : Addr) : List (Addr × Obj) := (List.range h.objs.size).filterMap fun a => if a = L \/ (g.get? a).isSome = true then none else (h.get? a).map fun o => (a, o)
def rest (g h : Heap) (L d : Addr) : List (Addr × Obj) := (allNews g h L).filter fun p => decide (p.1 ≠ d)
structure Mod (K : PySem.W.Frag) (mg : Str -> Option Value) (base : Heap) : Prop where
 kin : K.In base
 glob : base.Ns mainGlobals mg
 blt : ∃ mb, base.Ns builtinsNs mb /\ ∀ x : Str, x ≠ "__name__" -> mb x = bootBuiltins x
 nolimit : base.NoLimit
structure Cx where
 prog : Program
 w : World
 K : PySem.W.Frag
 mg : Str -> Option Value
 base : Heap
 A : Around
 N : List Str
 s₀ : Shared
 H₀ : Hp
 env : Env
 outer : List Env
 stack : List Env
 ex : List Addr
 fn : Str -> Bool
 calm : Bool
 pn : List (Addr × Obj)
 xe : Value -> Shared -> Prop
def frs (l : List Env) : List Addr := l.filterMap (·.frame)
abbrev Cx.fs (X : Cx) : List Addr := frs X.outer
def Vis (sc : Scope) (x : Str) : Prop := sc.names.lookup x = some .local \/ sc.names.lookup x = some .cell \/ sc.names.lookup x = some .free
def Loc (sc : Scope) (x : Str) : Prop := sc.names.lookup x = some .local \/ sc.names.lookup x = some .cell
def Look (env : Env) (h : Heap) (m : Str -> Option Value) (x : Str) (u : Value) : Prop :=
 (env.kindOf x = some .local /\ m x = some u) \/ ((env.kindOf x = some .cell \/ env.kindOf x = some .free) /\ ∃ c, env.cells.lookup x = some c /\ h.IsCell c (some u))
structure Cx.Ok (X : Cx) : Prop where
 mod : Mod X.K X.mg X.base
 kind : X.env.scope.kind = .function
 glob : X.env.globals = mainGlobals
 blt : X.env.builtins = builtinsNs
 above : X.s₀.heap.objs.size <= X.env.locals
 inj : ∀ x y c, X.env.cells.lookup x = some c -> X.env.cells.lookup y = some c -> x = y
 has : ∀ x, (X.env.kindOf x = some .cell \/ X.env.kindOf x = some .free) -> ∃ c, X.env.cells.lookup x = some c
 cab : ∀ x c, X.fn x = true -> X.env.cells.lookup x = some c -> X.s₀.heap.objs.size <= c
 hd : X.calm = true -> X.A.handled = none
 frames : X.A.frames = some X.stack
 stk : X.stack = X.outer \/ (X.stack = X.env :: X.outer /\ X.env.frame = some X.env.locals)
 exf : ∀ b ∈ X.ex, b ≠ X.env.locals /\ ∀ x c, X.env.cells.lookup x = some c -> c ≠ b
 bs : ∀ b o, X.base.get? b = some o -> X.s₀.heap.get? b = some o /\ X.H₀ b = none
 bsz : X.base.objs.size <= X.s₀.heap.objs.size
 noex : ∀ b o, X.base.get? b = some o -> b ∉ X.ex
 exfs : ∀ b ∈ X.ex, b ∉ X.fs
 funs : X.s₀.heap.FunFrames X.base X.outer
 frf : ∀ b ∈ X.fs, X.H₀ b = none
structure Inv (X : Cx) (pins : List (Addr × Obj)) (σ : List (Option V)) (H : Hp) (s : Shared) : Prop where
 ok : X.Ok
 os : s.os = X.s₀.os
 bare : AllBare s.gens
 base : Un X.fs X.ex X.H₀ H X.s₀.heap s.heap
 loc : ∃ m, s.heap.Ns X.env.locals m /\ ∀ (i : Nat) (x : Str) (v : V), X.N[i]? = some x -> σ[i]? = some (some v) -> Vis X.env.scope x -> ∃ u, RelV v u /\ Look X.env s.heap m x u
 cell : ∀ x c, X.env.cells.lookup x = some c -> ∃ v, s.heap.IsCell c v
 free : H X.env.locals = none
 freeC : ∀ x c, X.env.cells.lookup x = some c -> H c = none
 pin : ∀ p ∈ X.pn ++ pins, s.heap.get? p.1 = some p.2 /\ H p.1 = none /\ p.1 ≠ X.env.locals /\ p.1 ∉ X.fs /\ ∀ v, p.2.data ≠ .cell v
 hok : HOk X.prog X.w H s.heap
 len : σ.length = X.N.length
section
variable {X : Cx} {pins : List (Addr × Obj)} {σ : List (Option V)} {H H' : Hp} {s : Shared} {h' : Heap}
theorem Cx.Ok.nofr (ok : X.Ok) {b : Addr} {o : Obj} (e : X.base.get? b = some o) : b ∉ X.fs := fun hb => by
 have := (ok.funs.mem hb).1
 rw [e] at this; cases this
theorem Inv.bs (I : Inv X pins σ H s) : ∀ b o, X.base.get? b = some o -> s.heap.get? b = some o /\ H b = none := fun b o e =>
 ⟨I.base.keep b o (I.ok.bs b o e).1 (I.ok.bs b o e).2 (I.ok.nofr e) (I.ok.noex b o e), I.base.free b o (I.ok.bs b o e).1 (I.ok.bs b o e).2 (I.ok.noex b o e)⟩
theorem Inv.bk (I : Inv X pins σ H s) : ∀ b o, X.base.get? b = some o -> s.heap.get? b = some o := fun b o e => (I.bs b o e).1
theorem Inv.mod (I : Inv X pins σ H s) : Mod X.K X.mg X.base := I.ok.mod
theorem Inv.kIn (I : Inv X pins σ H s) : X.K.In s.heap := I.ok.mod.kin.keeps I.bk
theorem Inv.lt (I : Inv X pins σ H s) : X.env.locals < s.heap.objs.size := let ⟨_, hn, _⟩ := I.loc; hn.lt
theorem Inv.sz (I : Inv X pins σ H s) : X.s₀.heap.objs.size <= s.heap.objs.size := Nat.le_trans I.ok.above (Nat.le_of_lt I.lt)
theorem Inv.nofs (I : Inv X pins σ H s) {a : Addr} (h : s.heap.objs.size <= a) : a ∉ X.fs := fun hb => by
 obtain ⟨_, o, ho, _⟩ := I.ok.funs.mem hb
 exact absurd (Nat.lt_of_lt_of_le (Heap.lt_size ho) (Nat.le_trans I.sz h)) (Nat.lt_irrefl _)
theorem Inv.cne (I : Inv X pins σ H s) : ∀ x c, X.env.cells.lookup x = some c -> c ≠ X.env.locals := fun x c e z => by
 obtain ⟨v, o, ho, hd⟩ := I.cell x c e
 obtain ⟨m, ⟨o', es, ep, ho', hd', _⟩, _⟩ := I.loc
 rw [z, ho'] at ho; cases ho; rw [hd'] at hd; cases hd
theorem Inv.funs (I : Inv X pins σ H s) : s.heap.FunFrames X.base X.outer := by
  have all : ∀ (l : List Env), (∀ b ∈ frs l, b ∈ X.fs) -> X.s₀.heap.FunFrames X.base l -> s.heap.FunFrames X.base l := by
    intro l
    induction l with
    | nil => intro _ _; trivial
    | cons env r ih =>
      intro hs hl
      obtain ⟨hk, ⟨L, o, hf, hn, ho, hd⟩, hr⟩ := hl
      have hL : L ∈ X.fs := hs L (by unfold frs; rw [List.filterMap_cons, hf]; exact List.mem_cons_self)
      obtain ⟨sl, e⟩ := I.base.slot L o ho (I.ok.frf L hL) hL fun z => I.ok.exfs L z hL
      exact ⟨hk, ⟨L, _, hf, hn, e, hd⟩, ih (fun b hb => hs b (by unfold frs; rw [List.filterMap_cons, hf]; exact List.mem_cons_of_mem _ hb)) hr⟩
  exact all X.outer (fun _ hb => hb) I.ok.funs
theorem Inv.stack (I : Inv X pins σ H s) : s.heap.FunFrames X.base X.stack := by
 rcases I.ok.stk with e | ⟨e, hf⟩
 ·rw [e]; exact I.funs
 ·rw [e]
  obtain ⟨m, hn, _⟩ := I.loc
  refine .cons (by rw [I.ok.kind]; decide) hf hn ?_ I.funs
  exact Heap.get?_none_of_le (Nat.le_trans I.ok.bsz I.ok.above)
theorem Inv.stkSub (I : Inv X pins σ H s) : ∀ b ∈ frs X.stack, b ∈ X.env.locals :: X.fs := fun b hb => by
 rcases I.ok.stk with e | ⟨e, hf⟩
 ·rw [e] at hb; exact List.mem_cons_of_mem _ hb
 ·rw [e] at hb
  unfold frs at hb
  rw [List.filterMap_cons, hf] at hb
  exact hb
theorem Inv.stkFree (I : Inv X pins σ H s) : ∀ b ∈ frs X.stack, H b = none := fun b hb => by
 rcases List.mem_cons.mp (I.stkSub b hb) with e | hb
 ·rw [e]; exact I.free
 ·obtain ⟨_, o, ho, _⟩ := I.ok.funs.mem hb
  exact I.base.free b o ho (I.ok.frf b hb) fun z => I.ok.exfs b z hb
theorem Inv.step {g' : Array GenState} {t' : Nat} {d' : Drawn} {ch : List Addr} (I : Inv X pins σ H s)
  (hch : ∀ b ∈ ch, (b ∈ X.ex \/ X.s₀.heap.objs.size <= b) /\ b ≠ X.env.locals /\ (∀ x c, X.env.cells.lookup x = some c -> c ≠ b) /\ ∀ p ∈ X.pn ++ pins, p.1 ≠ b)
  (keep : ∀ b o, b ≠ X.env.locals -> b ∉ X.fs -> b ∉ ch -> s.heap.get? b = some o -> H b = none -> h'.get? b = some o)
  (slot : ∀ b o, b ≠ X.env.locals -> b ∈ X.fs -> b ∉ ch -> s.heap.get? b = some o -> H b = none -> ∃ sl, h'.get? b = some { o with slots := sl }) (free : ∀ b o, b ∉ ch -> s.heap.get? b = some o -> H b = none -> H' b = none)
  (there : ∀ b o, b ∉ ch -> s.heap.get? b = some o -> ∃ o', h'.get? b = some o')
  (tups : ∀ b xs, H b = some (.tup xs) -> H' b = some (.tup xs)) (frzs : ∀ b o u, H b = some (.frz o u) -> H' b = some (.frz o u)) (tbls : ∀ b ps, H b = some (.tbl ps) -> ∃ more, H' b = some (.tbl (ps ++ more)))
  (ns : ∀ m, s.heap.Ns X.env.locals m -> h'.Ns X.env.locals m) (hok : HOk X.prog X.w H' h') (hg : AllBare g') :
  Inv X pins σ H' { s with heap := h', gens := g', drawn := d', toks := t' } := by
 have neL : ∀ b o, X.s₀.heap.get? b = some o -> b ≠ X.env.locals := fun b o e => Nat.ne_of_lt (Nat.lt_of_lt_of_le (Heap.lt_size e) I.ok.above)
 have neC : ∀ b o, X.s₀.heap.get? b = some o -> b ∉ X.ex -> b ∉ ch := fun b o e hx hb => by
  rcases (hch b hb).1 with z | z
  ·exact hx z
  ·exact absurd (Nat.lt_of_lt_of_le (Heap.lt_size e) z) (Nat.lt_irrefl _)
 have cellK : ∀ x c, X.env.cells.lookup x = some c -> ∀ v, s.heap.IsCell c v -> h'.IsCell c v := fun x c e v ⟨o, ho, hd⟩ => by
  have nch : c ∉ ch := fun z => (hch c z).2.2.1 x c e rfl
  by_cases hc : c ∈ X.fs
  ·obtain ⟨sl, q⟩ := slot c o (I.cne x c e) hc nch ho (I.freeC x c e)
   exact ⟨_, q, hd⟩
  ·exact ⟨o, keep c o (I.cne x c e) hc nch ho (I.freeC x c e), hd⟩
 refine ⟨I.ok, I.os, hg, ⟨fun b o e n hb hx => ?_, fun b o e n hb hx => ?_, fun b o e n hx => ?_, fun b o e hx => ?_, fun b xs e => tups b xs (I.base.tups b xs e), fun b o xs e => frzs b o xs (I.base.frzs b o xs e), fun b ps e => ?_⟩, ?_, fun x c e => ?_, ?_, fun x c e => ?_, fun p hp => ?_, hok, I.len⟩
 ·exact keep b o (neL b o e) hb (neC b o e hx) (I.base.keep b o e n hb hx) (I.base.free b o e n hx)
 ·obtain ⟨sl, e1⟩ := I.base.slot b o e n hb hx
  obtain ⟨sl', e2⟩ := slot b _ (neL b o e) hb (neC b o e hx) e1 (I.base.free b o e n hx)
  exact ⟨sl', e2⟩
 ·obtain ⟨o', e1⟩ := I.base.there b o e hx
  exact free b o' (neC b o e hx) e1 (I.base.free b o e n hx)
 ·obtain ⟨o', e1⟩ := I.base.there b o e hx
  exact there b o' (neC b o e hx) e1
 ·obtain ⟨m1, e1⟩ := I.base.tbls b ps e
  obtain ⟨m2, e2⟩ := tbls b _ e1
  exact ⟨m1 ++ m2, by rw [e2, Array.append_assoc]⟩
 ·obtain ⟨m, hn, hl⟩ := I.loc
  refine ⟨m, ns m hn, fun i x v e1 e2 e3 => ?_⟩
  obtain ⟨u, r, l⟩ := hl i x v e1 e2 e3
  refine ⟨u, r, ?_⟩
  rcases l with l | ⟨k, c, e, z⟩
  ·exact .inl l
  ·exact .inr ⟨k, c, e, cellK x c e _ z⟩
 ·obtain ⟨v, z⟩ := I.cell x c e
  exact ⟨v, cellK x c e v z⟩
 ·obtain ⟨m, ⟨o, _, _, ho, _⟩, _⟩ := I.loc
  exact free _ o (fun z => (hch _ z).2.1 rfl) ho I.free
 ·obtain ⟨v, o, ho, hd⟩ := I.cell x c e
  exact free c o (fun z => (hch c z).2.2.1 x c e rfl) ho (I.freeC x c e)
 ·obtain ⟨e, n, ne, nf, d⟩ := I.pin p hp
  have nch : p.1 ∉ ch := fun z => (hch p.1 z).2.2.2 p hp rfl
  exact ⟨keep p.1 p.2 ne nf nch e n, free p.1 p.2 nch e n, ne, nf, d⟩
theorem Inv.un {t' : Nat} (I : Inv X pins σ H s) (u : Un X.fs [] H H' s.heap h') (hok : HOk X.prog X.w H' h') : Inv X pins σ H' { s with heap := h', toks := t' } := by
 obtain ⟨m, ⟨o, es, ep, ho, r⟩, _⟩ := id I.loc
 obtain ⟨sl, hL⟩ := u.any ho I.free (by simp)
 exact I.step (g' := s.gens) (d' := s.drawn) (ch := []) (fun _ z => nomatch z) (fun b o _ hb _ e n => u.keep b o e n hb (by simp)) (fun b o _ hb _ e n => u.slot b o e n hb (by simp)) (fun b o _ e n => u.free b o e n (by simp)) (fun b o _ e => u.there b o e (by simp)) u.tups u.frzs u.tbls (fun m' hm => by
  obtain ⟨o', es', ep', ho', r'⟩ := hm
  rw [ho] at ho'; cases ho'
  exact ⟨_, es', ep', hL, r'⟩) hok I.bare
theorem Inv.call {g' : Array GenState} {t' : Nat} {d' : Drawn} {ch : List Addr} (I : Inv X pins σ H s) (u : Un (frs X.stack) ch H H' s.heap h') (hok : HOk X.prog X.w H' h') (hg : AllBare g')
  (hch : ∀ b ∈ ch, (b ∈ X.ex \/ X.s₀.heap.objs.size <= b) /\ b ≠ X.env.locals /\ (∀ x c, X.env.cells.lookup x = some c -> c ≠ b) /\ ∀ p ∈ X.pn ++ pins, p.1 ≠ b) :
  Inv X pins σ H' { s with heap := h', gens := g', drawn := d', toks := t' } := by
 obtain ⟨m, ⟨o, es, ep, ho, r⟩, _⟩ := id I.loc
 obtain ⟨sl, hL⟩ := u.any ho I.free fun z => (hch _ z).2.1 rfl
 exact I.step (ch := ch) hch (fun b o hL hb hc e n => u.keep b o e n (fun z => (List.mem_cons.mp (I.stkSub b z)).elim hL hb) hc) (fun b o _ _ hc e n => u.any e n hc) (fun b o hc e n => u.free b o e n hc) (fun b o hc e => u.there b o e hc) u.tups u.frzs u.tbls (fun m' hm => by
  obtain ⟨o', es', ep', ho', r'⟩ := hm
  rw [ho] at ho'; cases ho'
  exact ⟨_, es', ep', hL, r'⟩) hok hg
theorem Inv.turned {t' : Nat} {it : Addr} (I : Inv X pins σ H s) (k : ∀ b o, b ≠ it -> s.heap.get? b = some o -> h'.get? b = some o) (hn : H it = none) (hL : it ≠ X.env.locals)
  (h1 : it ∈ X.ex \/ X.s₀.heap.objs.size <= it) (h2 : ∀ x c, X.env.cells.lookup x = some c -> c ≠ it) (h3 : ∀ p ∈ X.pn ++ pins, p.1 ≠ it) : Inv X pins σ H { s with heap := h', toks := t' } := by
 have nit : ∀ b u, H b = some u -> b ≠ it := fun b u e z => by rw [z, hn] at e; cases e
 refine I.step (g' := s.gens) (d' := s.drawn) (ch := [it]) (fun b hb => ?_) (fun b o _ _ hc e _ => k b o (fun z => hc (by simp [z])) e) (fun b o _ _ hc e _ => ⟨o.slots, k b o (fun z => hc (by simp [z])) e⟩) (fun _ _ _ _ n => n)
  (fun b o hc e => ⟨o, k b o (fun z => hc (by simp [z])) e⟩) (fun _ _ e => e) (fun _ _ _ e => e) (fun b ps e => ⟨#[], by rw [e]; simp⟩) (fun m hm => ?_) (fun b u e => ?_) I.bare
 ·have e : b = it := by simpa using hb
  subst e
  exact ⟨h1, hL, h2, h3⟩
 ·obtain ⟨o, es, ep, ho, r⟩ := hm
  exact ⟨o, es, ep, k _ o (Ne.symm hL) ho, r⟩
 ·refine (I.hok b u e).stay (fun c v hc q => k c v ?_ q) (fun _ q => q) fun _ _ q => q
  rcases hc with z | z
  ·rw [z]; exact nit b u e
  ·exact nit c _ z
theorem Inv.tok (I : Inv X pins σ H s) (t : Nat) : Inv X pins σ H { s with toks := t } := I.un (h' := s.heap) (t' := t) Un.refl I.hok
theorem Inv.kept {t' : Nat} (I : Inv X pins σ H s) (k : ∀ b u, s.heap.get? b = some u -> h'.get? b = some u) : Inv X pins σ H { s with heap := h', toks := t' } := I.un (Un.kept k) (I.hok.kept k)
theorem Inv.laid {a : Addr} {o : HO} {t' : Nat} (I : Inv X pins σ H s) (k : ∀ b u, s.heap.get? b = some u -> h'.get? b = some u) (hp : s.heap.objs.size <= a) (new : ObjOk X.prog X.w (upd H a o) h' a o) :
  Inv X pins σ (upd H a o) { s with heap := h', toks := t' } := I.un (Un.laid k hp (I.hok.fresh hp)) (I.hok.laid k hp new)
theorem Inv.write {x e : Addr} {o : HO} {t' : Nat} (I : Inv X pins σ H s) (mu : Mut (H x)) (he : e = x \/ H e = some (.own x)) (k : ∀ b u, b ≠ e -> s.heap.get? b = some u -> h'.get? b = some u) (heo : ∃ u, h'.get? e = some u)
  (new : ObjOk X.prog X.w (upd H x o) h' x o) : Inv X pins σ (upd H x o) { s with heap := h', toks := t' } := I.un (Un.write mu he k heo) (I.hok.write mu he k heo new)
theorem Inv.pins_of {pins' : List (Addr × Obj)} (I : Inv X pins σ H s) (h : ∀ p ∈ pins', s.heap.get? p.1 = some p.2 /\ H p.1 = none /\ p.1 ≠ X.env.locals /\ p.1 ∉ X.fs /\ ∀ v, p.2.data ≠ .cell v) : Inv X pins' σ H s :=
 ⟨I.ok, I.os, I.bare, I.base, I.loc, I.cell, I.free, I.freeC, fun p hp => (List.mem_append.mp hp).elim (fun z => I.pin p (List.mem_append_left _ z)) (h p), I.hok, I.len⟩
theorem nodup_ix {N : List Str} (hN : N.Nodup) {i j : Nat} {x : Str} (a : N[i]? = some x) (b : N[j]? = some x) : i = j := by
 obtain ⟨h1, e1⟩ := List.getElem?_eq_some_iff.mp a
 obtain ⟨h2, e2⟩ := List.getElem?_eq_some_iff.mp b
 exact (List.getElem_inj hN).mp (e1.trans e2.symm)
theorem store_ok2 {M : Model} {A : Around} {E : Value -> Shared -> Prop} {i : Nat} {x : Str} {v : V} {u : Value} {Q : Unit -> Shared -> Prop} (I : Inv X pins σ H s) (hN : X.N.Nodup) (hi : X.N[i]? = some x) (hx : Loc X.env.scope x) (r : RelV v u)
  (h : ∀ s', Inv X pins (σ.set i (some v)) H s' -> (∃ a, Heap.SameBut a s.heap s'.heap /\ (a = X.env.locals \/ X.env.cells.lookup x = some a)) -> Q () s') (hf : X.fn x = true \/ X.env.scope.names.lookup x = some .local := by first | exact .inl rfl | exact .inr rfl | assumption) : wpAny M A (storeName X.env x u) Q E s := by
 obtain ⟨m, hn, hl⟩ := id I.loc
 have hcls : (X.env.scope.kind == .class || (X.env.scope.kind == .module && X.env.locals != X.env.globals)) = false := by rw [I.ok.kind]; rfl
 have hiσ : i < σ.length := by rw [I.len]; exact (List.getElem?_eq_some_iff.mp hi).1
 have cne := I.cne
 have tracked : ∀ {a : Addr} {h' : Heap}, (∃ o, s.heap.get? a = some o /\ H a = none) -> Heap.SameBut a s.heap h' -> HOk X.prog X.w H h' := fun {a h'} ha hs b ob e => by
  obtain ⟨_, _, hfree⟩ := ha
  refine (I.hok b ob e).stay (fun c w' hc q => (hs.2 c ?_).trans q) (fun _ q => q) fun _ _ q => q
  rintro rfl
  rcases hc with rfl | hc
  ·rw [hfree] at e; cases e
  ·rw [hfree] at hc; cases hc
 rcases hx with hk | hk
 ·refine wpAny_storeName_local hk hn (fun h' hn' hs => ?_) hcls
  obtain ⟨oL, _, _, hoL, _⟩ := id hn
  refine h _ ⟨I.ok, I.os, I.bare, ⟨fun b o e n hb hx => ?_, fun b o e n hb hx => ?_, I.base.free, fun b o e hx => ?_, I.base.tups, I.base.frzs, I.base.tbls⟩, ⟨_, hn', fun j y v' e1 e2 e3 => ?_⟩, fun y c e => ?_, I.free, I.freeC, fun p hp => ?_, tracked ⟨oL, hoL, I.free⟩ hs, by simpa using I.len⟩ ⟨_, hs, .inl rfl⟩
  ·exact (hs.2 b (Nat.ne_of_lt (Nat.lt_of_lt_of_le (Heap.lt_size e) I.ok.above))).trans (I.base.keep b o e n hb hx)
  ·obtain ⟨sl, e1⟩ := I.base.slot b o e n hb hx
   exact ⟨sl, (hs.2 b (Nat.ne_of_lt (Nat.lt_of_lt_of_le (Heap.lt_size e) I.ok.above))).trans e1⟩
  ·obtain ⟨o', e1⟩ := I.base.there b o e hx
   exact ⟨o', (hs.2 b (Nat.ne_of_lt (Nat.lt_of_lt_of_le (Heap.lt_size e) I.ok.above))).trans e1⟩
  ·by_cases hj : j = i
   ·subst hj
    rw [hi] at e1; cases e1
    rw [List.getElem?_set_self hiσ] at e2
    cases e2
    exact ⟨u, r, .inl ⟨hk, by simp⟩⟩
   ·rw [List.getElem?_set_ne (Ne.symm hj)] at e2
    obtain ⟨u', r', q⟩ := hl j y v' e1 e2 e3
    refine ⟨u', r', ?_⟩
    rcases q with ⟨k, e⟩ | ⟨k, c, e, z⟩
    ·refine .inl ⟨k, ?_⟩
     have : y ≠ x := fun e => hj (nodup_ix hN e1 (e ▸ hi))
     simp [this, e]
    ·exact .inr ⟨k, c, e, z.sameBut hs (cne y c e)⟩
  ·obtain ⟨w', z⟩ := I.cell y c e
   exact ⟨w', z.sameBut hs (cne y c e)⟩
  ·obtain ⟨e, n, ne, nf, d⟩ := I.pin p hp
   exact ⟨(hs.2 p.1 ne).trans e, n, ne, nf, d⟩
 ·have hfn : X.fn x = true := by
   rcases hf with z | z
   ·exact z
   ·rw [z] at hk; cases hk
  obtain ⟨c, hc⟩ := I.ok.has x (.inl hk)
  obtain ⟨w', z⟩ := I.cell x c hc
  refine wpAny_storeName_cell I.ok.kind hk hc z (fun h' hc' hs => ?_)
  obtain ⟨oc, hoc, hocd⟩ := id z
  refine h { s with heap := h' } ⟨I.ok, I.os, I.bare, ⟨fun b o e n hb hx => ?_, fun b o e n hb hx => ?_, I.base.free, fun b o e hx => ?_, I.base.tups, I.base.frzs, I.base.tbls⟩, ⟨m, hn.sameBut hs (Ne.symm (cne x c hc)), fun j y v' e1 e2 e3 => ?_⟩, fun y c' e => ?_, I.free, I.freeC, fun p hp => ?_, tracked ⟨oc, hoc, I.freeC x c hc⟩ hs, by simpa using I.len⟩ ⟨c, hs, .inr hc⟩
  ·exact (hs.2 b (Nat.ne_of_lt (Nat.lt_of_lt_of_le (Heap.lt_size e) (I.ok.cab x c hfn hc)))).trans (I.base.keep b o e n hb hx)
  ·obtain ⟨sl, e1⟩ := I.base.slot b o e n hb hx
   exact ⟨sl, (hs.2 b (Nat.ne_of_lt (Nat.lt_of_lt_of_le (Heap.lt_size e) (I.ok.cab x c hfn hc)))).trans e1⟩
  ·obtain ⟨o', e1⟩ := I.base.there b o e hx
   exact ⟨o', (hs.2 b (Nat.ne_of_lt (Nat.lt_of_lt_of_le (Heap.lt_size e) (I.ok.cab x c hfn hc)))).trans e1⟩
  ·by_cases hj : j = i
   ·subst hj
    rw [hi] at e1; cases e1
    rw [List.getElem?_set_self hiσ] at e2
    cases e2
    exact ⟨u, r, .inr ⟨.inl hk, c, hc, hc'⟩⟩
   ·rw [List.getElem?_set_ne (Ne.symm hj)] at e2
    obtain ⟨u', r', q⟩ := hl j y v' e1 e2 e3
    refine ⟨u', r', ?_⟩
    rcases q with q | ⟨k, c', e, z'⟩
    ·exact .inl q
    ·refine .inr ⟨k, c', e, z'.sameBut hs ?_⟩
     rintro rfl
     exact hj (nodup_ix hN e1 (I.ok.inj _ _ _ e hc ▸ hi))
  ·by_cases hcc : c' = c
   ·subst hcc; exact ⟨_, hc'⟩
   ·obtain ⟨w2, z2⟩ := I.cell y c' e
    exact ⟨w2, z2.sameBut hs hcc⟩
  ·obtain ⟨e, n, ne, nf, d⟩ := I.pin p hp
   refine ⟨(hs.2 p.1 ?_).trans e, n, ne, nf, d⟩
   intro q
   rw [q, hoc] at e
   have q' : oc = p.2 := Option.some.inj e
   exact d w' (by rw [<- q']; exact hocd)
theorem store_ok {M : Model} {A : Around} {E : Value -> Shared -> Prop} {i : Nat} {x : Str} {v : V} {u : Value} {Q : Unit -> Shared -> Prop} (I : Inv X pins σ H s) (hN : X.N.Nodup) (hi : X.N[i]? = some x) (hx : Loc X.env.scope x) (r : RelV v u)
  (h : ∀ s', Inv X pins (σ.set i (some v)) H s' -> Q () s') (hf : X.fn x = true \/ X.env.scope.names.lookup x = some .local := by first | exact .inl rfl | exact .inr rfl | assumption) : wpAny M A (storeName X.env x u) Q E s :=
 store_ok2 I hN hi hx r (fun s' I' _ => h s' I') hf
theorem Inv.call' {s' : Shared} {ch : List Addr} (I : Inv X pins σ H s) (ho : s'.os = s.os) (u : Un (frs X.stack) ch H H' s.heap s'.heap) (hok : HOk X.prog X.w H' s'.heap) (hg : AllBare s'.gens)
  (hch : ∀ b ∈ ch, (b ∈ X.ex \/ X.s₀.heap.objs.size <= b) /\ b ≠ X.env.locals /\ (∀ x c, X.env.cells.lookup x = some c -> c ≠ b) /\ ∀ p ∈ X.pn ++ pins, p.1 ≠ b) : Inv X pins σ H' s' := by
 obtain ⟨h', g', d', t', o'⟩ := s'
 have e : o' = s.os := ho
 subst e
 exact I.call (g' := g') (t' := t') (d' := d') u hok hg hch
end
abbrev XK := Value -> Option Addr -> Hp -> Prop
abbrev St := List (Option V)
abbrev VK := V -> Hp -> Prop
abbrev TE := St -> Hp -> VK -> Prop
abbrev TT := St -> Hp -> (Bool -> Hp -> Prop) -> Prop
abbrev TA := St -> Hp -> (List V -> Hp -> Prop) -> Prop
structure Ends where
 nx : St -> Hp -> Prop
 rt : VK
 bk : St -> Hp -> Prop := fun _ _ => False
 ct : St -> Hp -> Prop := fun _ _ => False
abbrev TS := Ends -> St -> Hp -> Prop
def EP (X : Cx) (pins : List (Addr × Obj)) (σ : St) (Q : VK) (u : Value) (s' : Shared) : Prop := ∃ v H', Inv X pins σ H' s' /\ RelV v u /\ Q v H'
def TP (X : Cx) (pins : List (Addr × Obj)) (σ : St) (Q : Bool -> Hp -> Prop) (b : Bool) (s' : Shared) : Prop := ∃ H', Inv X pins σ H' s' /\ Q b H'
def AP (X : Cx) (pins : List (Addr × Obj)) (σ : St) (Q : List V -> Hp -> Prop) (us : List Value) (s' : Shared) : Prop := ∃ vs H', Inv X pins σ H' s' /\ Vals vs us /\ Q vs H'
def SP (X : Cx) (pins : List (Addr × Obj)) (D : Ends) (f : Flow) (s' : Shared) : Prop :=
 match f with
 | .next => ∃ σ' H', Inv X pins σ' H' s' /\ D.nx σ' H'
 | .brk => ∃ σ' H', Inv X pins σ' H' s' /\ D.bk σ' H'
 | .cont => ∃ σ' H', Inv X pins σ' H' s' /\ D.ct σ' H'
 | .ret u => ∃ v σ' H', Inv X pins σ' H' s' /\ RelV v u /\ D.rt v H'
def PE (X : Cx) (e : Expr) (t : TE) : Prop :=
 ∀ (pins : List (Addr × Obj)) (s : Shared) (σ : St) (H : Hp) (Q : VK), Inv X pins σ H s -> t σ H Q -> wpAny (model X.prog X.w) X.A (eval e X.env) (EP X pins σ Q) X.xe s
def PT (X : Cx) (e : Expr) (t : TT) : Prop :=
 ∀ (pins : List (Addr × Obj)) (s : Shared) (σ : St) (H : Hp) (Q : Bool -> Hp -> Prop), Inv X pins σ H s -> t σ H Q -> wpAny (model X.prog X.w) X.A (isTrue e X.env (eval e X.env)) (TP X pins σ Q) X.xe s
def PW (X : Cx) (e : Expr) (t : TT) : Prop :=
 ∀ (whole : Sem Value) (pins : List (Addr × Obj)) (s : Shared) (σ : St) (H : Hp) (Q : Bool -> Hp -> Prop), Inv X pins σ H s -> t σ H Q -> wpAny (model X.prog X.w) X.A (isTrue e X.env whole) (TP X pins σ Q) X.xe s
theorem PW.pt {X : Cx} {e : Expr} {t : TT} (h : PW X e t) : PT X e t := h _
def PA (X : Cx) (es : List Expr) (t : TA) : Prop :=
 ∀ (pos : Pos) (pins : List (Addr × Obj)) (s : Shared) (σ : St) (H : Hp) (Q : List V -> Hp -> Prop), Inv X pins σ H s -> t σ H Q -> wpAny (model X.prog X.w) X.A (spliced (backTo pos (starEach es X.env))) (AP X pins σ Q) X.xe s
def PS (X : Cx) (st : Stmt) (t : TS) : Prop :=
 ∀ (pins : List (Addr × Obj)) (s : Shared) (σ : St) (H : Hp) (D : Ends), Inv X pins σ H s -> t D σ H -> wpAny (model X.prog X.w) X.A (exec st X.env) (SP X pins D) X.xe s
def PSs (X : Cx) (st : List Stmt) (t : TS) : Prop :=
 ∀ (pins : List (Addr × Obj)) (s : Shared) (σ : St) (H : Hp) (D : Ends), Inv X pins σ H s -> t D σ H -> wpAny (model X.prog X.w) X.A (execs st X.env) (SP X pins D) X.xe s
theorem thn {α : Type} {t : Sem α} {Q Q' : α -> Shared -> Prop} {M : Model} {A : Around} {E : Value -> Shared -> Prop} {s : Shared} (h : wpAny M A t Q E s) (hQ : ∀ a s, Q a s -> Q' a s) : wpAny M A t Q' E s := wpAny_mono h hQ fun _ _ x => x
section
variable {X : Cx}
theorem bin {a b : Expr} {ta tb : TE} (ha : PE X a ta) (hb : PE X b tb) {pins : List (Addr × Obj)} {s : Shared} {σ : St} {H : Hp} {R : V -> V -> Hp -> Prop} (I : Inv X pins σ H s) (h : ta σ H fun x H1 => tb σ H1 fun y H2 => R x y H2)
  {α : Type} {Q : α -> Shared -> Prop} {f : Value -> Value -> Sem α}
  (hf : ∀ v u s2 x y H2, Inv X pins σ H2 s2 -> RelV x v -> RelV y u -> R x y H2 -> wpAny (model X.prog X.w) X.A (f v u) Q X.xe s2) :
  wpAny (model X.prog X.w) X.A (eval a X.env) (fun v s₁ => wpAny (model X.prog X.w) X.A (eval b X.env) (fun u s₂ => wpAny (model X.prog X.w) X.A (f v u) Q X.xe s₂) X.xe s₁) X.xe s := by
 refine thn (ha pins s σ H _ I h) fun v s1 ⟨x, H1, I1, r1, q1⟩ => ?_
 refine thn (hb pins s1 σ H1 _ I1 q1) fun u s2 ⟨y, H2, I2, r2, q2⟩ => ?_
 exact hf v u s2 x y H2 I2 r1 r2 q2
def tVar (i : Nat) : TE := fun σ H Q => ∃ v, σ[i]? = some (some v) /\ Q v H
def tC (v : V) : TE := fun _ H Q => Q v H
theorem pe_var {i : Nat} {x : Str} {pos : Pos} (hN : X.N[i]? = some x) (hv : Vis X.env.scope x) (hd : (x == ("__debug__" : Str)) = false := by decide) (hcd : (x == ("__classdict__" : Str)) = false := by decide) : PE X (.Name x pos) (tVar i) := by
 intro pins s σ H Q I h
 obtain ⟨v, e, h⟩ := h
 obtain ⟨m, hn, hl⟩ := I.loc
 obtain ⟨u, r, l⟩ := hl i x v hN e hv
 have fin : EP X pins σ Q u s := ⟨v, H, I, r, h⟩
 rcases l with ⟨hk, hm⟩ | ⟨hk, c, hc, hcell⟩
 ·exact wpAny_Name (wpAny_loadName_local I.ok.kind hk hn hm fin) hd
 ·rcases hk with hk | hk
  ·exact wpAny_Name (wpAny_loadName_cell I.ok.kind hk hc hcell fin) hd
  ·exact wpAny_Name (wpAny_loadName_free I.ok.kind hk hc hcell fin hcd) hd
theorem pe_int {i j pos} : PE X (.Constant (.int i) j pos) (tC (.int i)) := fun _ _ _ H _ I h => wpAny_Constant_int ⟨.int i, H, I.tok _, ⟨_, rfl⟩, h⟩
theorem pe_bl {b j pos} : PE X (.Constant (.bool b) j pos) (tC (.bl b)) := fun _ _ _ H _ I h => Constant_bool ⟨.bl b, H, I, rfl, h⟩
theorem pe_non {j pos} : PE X (.Constant .none j pos) (tC .non) := fun _ _ _ H _ I h => Constant_none ⟨.non, H, I, rfl, h⟩
theorem pe_str {x j pos} : PE X (.Constant (.str x) j pos) (tC (.str x)) := fun _ _ _ H _ I h => Calls.Constant_str ⟨.str x, H, I.tok _, ⟨_, rfl⟩, h⟩
def Gl (X : Cx) (x : Str) : Prop := X.env.kindOf x = some .globalImplicit
theorem ld_glob {E : Value -> Shared -> Prop} {pins : List (Addr × Obj)} {s : Shared} {σ : St} {H : Hp} {x : Str} {u : Value} {pos : Pos} {Q : Value -> Shared -> Prop} (I : Inv X pins σ H s) (hg : Gl X x) (hm : X.mg x = some u) (h : Q u s)
  (hd : (x == ("__debug__" : Str)) = false := by decide) : wpAny (model X.prog X.w) X.A (eval (.Name x pos) X.env) Q E s :=
 Calls.Name_function_global I.ok.kind hg (Calls.loadGlobal_global (by rw [I.ok.glob]; exact I.mod.glob.keeps I.bk) hm h) hd
theorem ld_blt {E : Value -> Shared -> Prop} {pins : List (Addr × Obj)} {s : Shared} {σ : St} {H : Hp} {x : Str} {u : Value} {pos : Pos} {Q : Value -> Shared -> Prop} (I : Inv X pins σ H s) (hg : Gl X x) (hm : X.mg x = none) (hv : bootBuiltins x = some u) (h : Q u s)
  (hn : x ≠ "__name__" := by decide) (hd : (x == ("__debug__" : Str)) = false := by decide) : wpAny (model X.prog X.w) X.A (eval (.Name x pos) X.env) Q E s := by
 obtain ⟨mb, h1, h2⟩ := I.mod.blt
 exact Calls.Name_function_global I.ok.kind hg (Calls.loadGlobal_builtin (by rw [I.ok.glob]; exact I.mod.glob.keeps I.bk) hm (by rw [I.ok.blt]; exact h1.keeps I.bk) ((h2 x hn).trans hv) h) hd
theorem pe_bltn {x : Str} {v : V} {u : Value} {pos : Pos} (hg : Gl X x) (hm : X.mg x = none) (hv : bootBuiltins x = some u) (r : RelV v u) (hn : x ≠ "__name__" := by decide) (hd : (x == ("__debug__" : Str)) = false := by decide) : PE X (.Name x pos) (tC v) :=
 fun _ _ _ H _ I h => ld_blt I hg hm hv ⟨v, H, I, r, h⟩ hn hd
variable {a b : Expr} {ta tb : TE} {pos : Pos}
def PC (X : Cx) (op : CmpOp) (a b : Expr) (t : TE) : Prop :=
 ∀ (pins : List (Addr × Obj)) (s : Shared) (σ : St) (H : Hp) (Q : VK), Inv X pins σ H s -> t σ H Q ->
  wpAny (model X.prog X.w) X.A (eval a X.env) (fun v s₁ => wpAny (model X.prog X.w) X.A (eval b X.env) (fun u s₂ => wpAny (model X.prog X.w) X.A (compareOp op v u) (EP X pins σ Q) X.xe s₂) X.xe s₁) X.xe s
variable {tA tB' : TT} {rest : List Expr}
def tAnd (t u : TT) : TT := fun σ H Q => t σ H fun c H1 => if c = true then u σ H1 Q else Q false H1
def tOr (t u : TT) : TT := fun σ H Q => t σ H fun c H1 => if c = true then Q true H1 else u σ H1 Q
def tNot (t : TT) : TT := fun σ H Q => t σ H fun c H1 => Q (!c) H1
theorem pw_and1 (ha : PT X a tA) : PW X (.BoolOp .And [a] pos) tA := by
 intro wh pins s σ H Q I h
 refine isTrue_and (thn (ha pins s σ H Q I h) fun c s1 e => ?_)
 cases c with
 | true => exact isTrue_and_nil e
 | false => exact e
theorem pw_or1 (ha : PT X a tA) : PW X (.BoolOp .Or [a] pos) tA := by
 intro wh pins s σ H Q I h
 refine isTrue_or (thn (ha pins s σ H Q I h) fun c s1 e => ?_)
 cases c with
 | false => exact isTrue_or_nil e
 | true => exact e
theorem pw_and (ha : PT X a tA) (hb : PW X (.BoolOp .And (b :: rest) pos) tB') : PW X (.BoolOp .And (a :: b :: rest) pos) (tAnd tA tB') := by
 intro wh pins s σ H Q I h
 refine isTrue_and (thn (ha pins s σ H _ I h) fun c s1 ⟨H1, I1, q1⟩ => ?_)
 cases c with
 | true => exact hb wh pins s1 σ H1 Q I1 q1
 | false => exact ⟨H1, I1, q1⟩
theorem pw_or (ha : PT X a tA) (hb : PW X (.BoolOp .Or (b :: rest) pos) tB') : PW X (.BoolOp .Or (a :: b :: rest) pos) (tOr tA tB') := by
 intro wh pins s σ H Q I h
 refine isTrue_or (thn (ha pins s σ H _ I h) fun c s1 ⟨H1, I1, q1⟩ => ?_)
 cases c with
 | true => exact ⟨H1, I1, q1⟩
 | false => exact hb wh pins s1 σ H1 Q I1 q1
theorem pt_not (ha : PT X a tA) : PT X (.UnaryOp .Not a pos) (tNot tA) := by
 intro pins s σ H Q I h
 exact isTrue_not (ha pins s σ H (fun c H1 => Q (!c) H1) I h)
def tAndV (ta tb : TE) : TE := fun σ H Q => ta σ H fun x H1 => ∃ c, x = .bl c /\ if c = true then tb σ H1 Q else Q (.bl false) H1
theorem pe_one {op} {t : TE} (h : PE X a t) : PE X (.BoolOp op [a] pos) t := fun pins s σ H Q I hw => BoolOp_one (h pins s σ H Q I hw)
theorem pe_and (ha : PE X a ta) (hb : PE X (.BoolOp .And (b :: rest) pos) tb) : PE X (.BoolOp .And (a :: b :: rest) pos) (tAndV ta tb) := by
 intro pins s σ H Q I h
 refine BoolOp_and (thn (ha pins s σ H _ I h) fun v s1 ⟨x, H1, I1, r1, q1⟩ => ?_)
 obtain ⟨c, rfl, q1⟩ := q1
 cases r1
 refine wpAny_truthy_bool ?_
 cases c with
 | true => exact hb pins s1 σ H1 Q I1 q1
 | false => exact ⟨.bl false, H1, I1, rfl, q1⟩
def tIf (t : TT) (ta tb : TE) : TE := fun σ H Q => t σ H fun c H1 => if c = true then ta σ H1 Q else tb σ H1 Q
theorem pe_ifExp {c : Expr} (hc : PT X c tA) (ha : PE X a ta) (hb : PE X b tb) : PE X (.IfExp c a b pos) (tIf tA ta tb) := by
 intro pins s σ H Q I h
 refine wpAny_IfExp (thn (hc pins s σ H _ I h) fun d s1 ⟨H1, I1, q1⟩ => ?_)
 cases d with
 | true => exact ha pins s1 σ H1 Q I1 q1
 | false => exact hb pins s1 σ H1 Q I1 q1
end
def SqL (K : PySem.W.Frag) (H : Hp) (a : Addr) (xs : List V) : Prop :=
 Rd H a (.lst xs) \/
  ∃ (o : Obj) (its : Array Value) (n : Nat), K.lookup a = some o /\ o.cls = .type "list" /\ o.dict = none /\ o.data = .seq its n /\ its.size <= sizeLine /\ Vals xs its.toList
def SqT (K : PySem.W.Frag) (H : Hp) (a : Addr) (xs : List V) : Prop :=
 Rd H a (.tup xs) \/
  ∃ (o : Obj) (its : Array Value) (n : Nat), K.lookup a = some o /\ o.cls = .type "tuple" /\ o.data = .seq its n /\ its.size <= sizeLine /\ Vals xs its.toList
def absV : Value -> Option V
 | .none => some .non
 | .bool b => some (.bl b)
 | .int i _ => some (.int i)
 | .str x _ => some (.str x)
 | .bytes b _ => some (.byt b)
 | .float b _ => some (.flt b)
 | .ref a => some (.ref a)
 | .type n => some (.ty n)
 | _ => none
theorem RelV.abs {x : V} {u : Value} (r : RelV x u) : absV u = some x := by
 cases x with
 | non => cases r; rfl
 | bl _ => cases r; rfl
 | int _ => obtain ⟨t, rfl⟩ := r; rfl
 | str _ => obtain ⟨t, rfl⟩ := r; rfl
 | byt _ => obtain ⟨t, rfl⟩ := r; rfl
 | flt _ => obtain ⟨t, rfl⟩ := r; rfl
 | ref _ => cases r; rfl
 | ty _ => cases r; rfl
theorem RelV.inj {x y : V} {u : Value} (r : RelV x u) (q : RelV y u) : x = y := Option.some.inj (r.abs.symm.trans q.abs)
theorem Vals.inj : ∀ {xs ys : List V} {us : List Value}, Vals xs us -> Vals ys us -> xs = ys
 | _, _, _, .nil, .nil => rfl
 | _, _, _, .cons r t, .cons r' t' => by rw [r.inj r', Vals.inj t t']
section
variable {X : Cx} {pins : List (Addr × Obj)} {σ : St} {H : Hp} {s : Shared} {a : Addr} {xs ys : List V}
theorem SqL.of {K : PySem.W.Frag} (h : H a = some (.lst xs)) : SqL K H a xs := .inl (.inl h)
theorem SqT.of {K : PySem.W.Frag} (h : H a = some (.tup xs)) : SqT K H a xs := .inl (.inl h)
theorem Inv.list (I : Inv X pins σ H s) (h : SqL X.K H a xs) : ∃ its : List Value, Vals xs its /\ PlainL s.heap a its.toArray /\ xs.length <= sizeLine := by
 rcases h with h | ⟨o, its, n, hk, hc, hd, hs, hz, r⟩
 ·obtain ⟨z, its, n, r, e⟩ := h.ok I.hok
  exact ⟨its, r, ⟨_, n, e, rfl, rfl, rfl⟩, z⟩
 ·refine ⟨its.toList, r, ⟨o, n, I.kIn a o hk, hc, hd, by simpa using hs⟩, ?_⟩
  have e := r.length
  simp only [Array.length_toList] at e
  omega
theorem Inv.tuple (I : Inv X pins σ H s) (h : SqT X.K H a xs) : ∃ its : List Value, Vals xs its /\ IsTup s.heap a its.toArray /\ xs.length <= sizeLine := by
 rcases h with h | ⟨o, its, n, hk, hc, hs, hz, r⟩
 ·obtain ⟨z, its, r, p⟩ := h.ok I.hok
  exact ⟨its, r, p, z⟩
 ·refine ⟨its.toList, r, ⟨o, I.kIn a o hk, hc, n, by simpa using hs⟩, ?_⟩
  have e := r.length
  simp only [Array.length_toList] at e
  omega
theorem Inv.list_inj (I : Inv X pins σ H s) (h : SqL X.K H a xs) (h' : SqL X.K H a ys) : xs = ys := by
 obtain ⟨its, r, ⟨o, n, e, _, _, d⟩, _⟩ := I.list h
 obtain ⟨its', r', ⟨o', n', e', _, _, d'⟩, _⟩ := I.list h'
 rw [e] at e'; cases e'
 rw [d] at d'
 injection d' with d1 _
 have : its = its' := by simpa using congrArg Array.toList d1
 subst this
 exact r.inj r'
end
abbrev Cx.wish (X : Cx) (E : Value -> Shared -> Prop) : Cx := { X with xe := E }
abbrev Cx.nox (X : Cx) : Cx := X.wish fun _ _ => False
theorem Cx.Ok.wish {X : Cx} (ok : X.Ok) (E : Value -> Shared -> Prop) : (X.wish E).Ok :=
 ⟨ok.mod, ok.kind, ok.glob, ok.blt, ok.above, ok.inj, ok.has, ok.cab, ok.hd, ok.frames, ok.stk, ok.exf, ok.bs, ok.bsz, ok.noex, ok.exfs, ok.funs, ok.frf⟩
theorem Cx.Ok.unwish {X : Cx} {E : Value -> Shared -> Prop} (ok : (X.wish E).Ok) : X.Ok :=
 ⟨ok.mod, ok.kind, ok.glob, ok.blt, ok.above, ok.inj, ok.has, ok.cab, ok.hd, ok.frames, ok.stk, ok.exf, ok.bs, ok.bsz, ok.noex, ok.exfs, ok.funs, ok.frf⟩
section
variable {X : Cx} {pins : List (Addr × Obj)} {σ : St} {H : Hp} {s : Shared} {E : Value -> Shared -> Prop}
theorem Inv.wish (I : Inv X pins σ H s) (E : Value -> Shared -> Prop) : Inv (X.wish E) pins σ H s := ⟨I.ok.wish E, I.os, I.bare, I.base, I.loc, I.cell, I.free, I.freeC, I.pin, I.hok, I.len⟩
theorem Inv.unwish (I : Inv (X.wish E) pins σ H s) : Inv X pins σ H s := ⟨I.ok.unwish, I.os, I.bare, I.base, I.loc, I.cell, I.free, I.freeC, I.pin, I.hok, I.len⟩
theorem SP.unwish {D : Ends} {f : Flow} {s' : Shared} (h : SP (X.wish E) pins D f s') : SP X pins D f s' := by
 cases f with
 | next => obtain ⟨σ', H', I, q⟩ := h; exact ⟨σ', H', I.unwish, q⟩
 | brk => obtain ⟨σ', H', I, q⟩ := h; exact ⟨σ', H', I.unwish, q⟩
 | cont => obtain ⟨σ', H', I, q⟩ := h; exact ⟨σ', H', I.unwish, q⟩
 | ret u => obtain ⟨v, σ', H', I, r, q⟩ := h; exact ⟨v, σ', H', I.unwish, r, q⟩
theorem PSs.nox {st : List Stmt} {t : TS} (h : PSs X.nox st t) : PSs X st t := fun pins s σ H D I hw =>
 wpAny_mono (h pins s σ H D (I.wish _) hw) (fun _ _ q => q.unwish) fun _ _ z => False.elim z
end
section
variable {X : Cx} {st : Stmt} {rest : List Stmt} {t u : TS} {e : Expr} {te : TE} {pos : Pos}
def tNext : TS := fun D σ H => D.nx σ H
def tSeq (t u : TS) : TS := fun D σ H => t { D with nx := u D } σ H
theorem pss_nil : PSs X [] tNext := fun _ _ σ H _ I h => wpAny_execs_nil ⟨σ, H, I, h⟩
theorem pss_cons (h1 : PS X st t) (h2 : PSs X rest u) : PSs X (st :: rest) (tSeq t u) := by
  intro pins s σ H D I h
  refine wpAny_execs_cons (thn (h1 pins s σ H { D with nx := u D } I h) fun f s1 q => ?_)
  cases f with
  | next =>
    obtain ⟨σ', H', I', q⟩ := q
    exact h2 pins s1 σ' H' D I' q
  | ret v => exact q
  | brk => exact q
  | cont => exact q
theorem pss_one (h1 : PS X st t) : PSs X [st] t := by
 intro pins s σ H D I h
 refine wpAny_execs_cons (thn (h1 pins s σ H D I h) fun f s1 q => ?_)
 cases f with
 | next => exact wpAny_execs_nil q
 | ret v => exact q
 | brk => exact q
 | cont => exact q
def tCont : TS := fun D σ H => D.ct σ H
theorem Inv.quiet {pins : List (Addr × Obj)} {σ : St} {H : Hp} {s : Shared} (I : Inv X pins σ H s) : interactive X.env = false := by simp [interactive, I.ok.kind]
def tDrop (te : TE) : TS := fun D σ H => te σ H fun _ H1 => D.nx σ H1
theorem ps_expr (he : PE X e te) (hs : swapsWith e none pos.line X.env = pure false := by rfl) : PS X (.Expr e pos) (tDrop te) := by
 intro pins s σ H D I h
 exact wpAny_Expr_any (thn (he pins s σ H _ I h) fun v s1 ⟨x, H1, I1, r1, q1⟩ => ⟨σ, H1, I1, q1⟩) I.quiet hs
def tRet (te : TE) : TS := fun D σ H => te σ H D.rt
theorem ps_ret (he : PE X e te) : PS X (.Return (some e) pos) (tRet te) := by
 intro pins s σ H D I h
 exact wpAny_Return_some (thn (he pins s σ H _ I h) fun v s1 ⟨x, H1, I1, r1, q1⟩ => ⟨x, σ, H1, I1, r1, q1⟩)
def tIfS (c : TT) (t u : TS) : TS := fun D σ H => c σ H fun b H1 => if b = true then t D σ H1 else u D σ H1
theorem ps_if {c : Expr} {a b : List Stmt} {tc : TT} (hc : PT X c tc) (ha : PSs X a t) (hb : PSs X b u) : PS X (.If c a b pos) (tIfS tc t u) := by
 intro pins s σ H D I h
 refine wpAny_If (thn (hc pins s σ H _ I h) fun d s1 ⟨H1, I1, q1⟩ => ?_)
 cases d with
 | true => exact ha pins s1 σ H1 D I1 q1
 | false => exact hb pins s1 σ H1 D I1 q1
end
abbrev TG := V -> St -> Hp -> (St -> Hp -> Prop) -> Prop
abbrev TGs := List V -> St -> Hp -> (St -> Hp -> Prop) -> Prop
def PG (X : Cx) (target : Expr) (t : TG) : Prop :=
 ∀ (pins : List (Addr × Obj)) (s : Shared) (σ : St) (H : Hp) (v : V) (u : Value) (Q : St -> Hp -> Prop), Inv X pins σ H s -> RelV v u -> t v σ H Q ->
  wpAny (model X.prog X.w) X.A (assign target X.env u) (fun _ s' => ∃ σ' H', Inv X pins σ' H' s' /\ Q σ' H') X.xe s
def PGs (X : Cx) (ts : List Expr) (t : TGs) : Prop :=
 ∀ (pins : List (Addr × Obj)) (s : Shared) (σ : St) (H : Hp) (vs : List V) (us : List Value) (Q : St -> Hp -> Prop), Inv X pins σ H s -> Vals vs us -> t vs σ H Q ->
  wpAny (model X.prog X.w) X.A (assignInOrder ((assignEach ts X.env).map (·.2)) us) (fun _ s' => ∃ σ' H', Inv X pins σ' H' s' /\ Q σ' H') X.xe s
abbrev TSet := V -> V -> V -> Hp -> (Hp -> Prop) -> Prop
def PSet (X : Cx) (t : TSet) : Prop :=
 ∀ (pins : List (Addr × Obj)) (s : Shared) (σ : St) (H : Hp) (o i v : V) (ov iv u : Value) (Q : Hp -> Prop), Inv X pins σ H s -> RelV o ov -> RelV i iv -> RelV v u -> t o i v H Q ->
  wpAny (model X.prog X.w) X.A (setItem ov iv u) (fun _ s' => ∃ H', Inv X pins σ H' s' /\ Q H') X.xe s
section
variable {X : Cx} {pos : Pos}
def gName (i : Nat) : TG := fun v σ H Q => Q (σ.set i (some v)) H
theorem pg_name {i : Nat} {x : Str} (hN : X.N.Nodup) (hi : X.N[i]? = some x) (hx : Loc X.env.scope x) (hf : X.fn x = true \/ X.env.scope.names.lookup x = some .local := by first | exact .inl rfl | exact .inr rfl | assumption) : PG X (.Name x pos) (gName i) := by
 intro pins s σ H v u Q I r h
 exact wpAny_assign_Name (store_ok I hN hi hx r (fun s' I' => ⟨_, H, I', h⟩) hf)
def gNil : TGs := fun vs σ H Q => vs = [] /\ Q σ H
def gCons (t : TG) (u : TGs) : TGs := fun vs σ H Q => ∃ v r, vs = v :: r /\ t v σ H fun σ' H' => u r σ' H' Q
theorem pgs_nil : PGs X [] gNil := by
 intro pins s σ H vs us Q I r h
 obtain ⟨e, h⟩ := h
 subst e
 cases r
 exact assignInOrder_nil ⟨σ, H, I, h⟩
theorem pgs_cons {e : Expr} {es : List Expr} {t : TG} {u : TGs} (h1 : PG X e t) (h2 : PGs X es u)
    (hs : (assignEach (e :: es) X.env).map (·.2) = assign e X.env :: (assignEach es X.env).map (·.2) := by rfl) : PGs X (e :: es) (gCons t u) := by
  intro pins s σ H vs us Q I r h
  obtain ⟨v, vr, e1, h⟩ := h
  subst e1
  cases r with
  | cons r rr =>
    rw [hs]
    refine assignInOrder_cons (thn (h1 pins s σ H _ _ _ I r h) fun _ s1 ⟨σ1, H1, I1, q1⟩ => ?_)
    exact h2 pins s1 σ1 H1 _ _ Q I1 rr q1
def gTup (K : PySem.W.Frag) (n : Nat) (t : TGs) : TG := fun v σ H Q => ∃ a xs, v = .ref a /\ SqT K H a xs /\ xs.length = n /\ t xs σ H Q
theorem pg_tup {es : List Expr} {k : Nat} {t : TGs} {n : Nat} (hc : X.calm = true) (h : PGs X es t)
  (hn : (assignEach es X.env).length = n := by rfl) (hst : (assignEach es X.env).findIdx? (·.1) = none := by rfl) : PG X (.Tuple es k pos) (gTup X.K n t) := by
 intro pins s σ H v u Q I r hw
 obtain ⟨a, xs, e1, hq, hl, hw⟩ := hw
 subst e1
 cases r
 obtain ⟨its, rv, ht, hz⟩ := I.tuple hq
 refine assign_Tuple_tuple (I.ok.hd hc) ht (by simp [hn, <- hl, rv.length]) hst fun h' hx => ?_
 have I1 : Inv X pins σ H { s with heap := h' } := I.kept (t' := s.toks) fun b o e => hx b o (Nat.ne_of_lt (Heap.lt_size e)) e
 exact h pins _ σ H xs _ Q I1 (by simpa using rv) hw
def gSub (to ti : TE) (t : TSet) : TG := fun v σ H Q => to σ H fun o H1 => ti σ H1 fun i H2 => t o i v H2 fun H3 => Q σ H3
theorem pg_sub {o i : Expr} {to ti : TE} {t : TSet} (ho : PE X o to) (hi : PE X i ti) (hs : PSet X t)
  (ha : ∀ v, assign (.Subscript o i pos) X.env v = (do
   let ov <- holding [v] (eval o X.env)
   let iv <- holding [v, ov] (eval i X.env)
   standAt pos
   holding [v, ov, iv] (setItem ov iv v)
   release [v, ov, iv] []) := by intro _; rfl) : PG X (.Subscript o i pos) (gSub to ti t) := by
 intro pins s σ H v u Q I r h
 rw [ha]
 refine wpAny_bind (wpAny_holding (thn (ho pins s σ H _ I h) fun ov s1 ⟨x, H1, I1, r1, q1⟩ => ?_))
 refine wpAny_bind (wpAny_holding (thn (hi pins s1 σ H1 _ I1 q1) fun iv s2 ⟨y, H2, I2, r2, q2⟩ => ?_))
 refine wpAny_bind (wpAny_standAt (wpAny_bind (wpAny_holding (thn (hs pins s2 σ H2 x y v ov iv u _ I2 r1 r2 r q2) fun _ s3 ⟨H3, I3, q3⟩ => ?_))))
 exact wpAny_release ⟨σ, H3, I3, q3⟩
def tAsg (te : TE) (g : TG) : TS := fun D σ H => te σ H fun x H1 => g x σ H1 D.nx
theorem ps_asg {tg e : Expr} {te : TE} {g : TG} (he : PE X e te) (hg : PG X tg g) (hs : swapsWithSole [tg] e pos.line X.env = pure false := by rfl) (hw : swappedStores [tg] e X.env = pure none := by rfl)
  (h1 : (assignEach [tg] X.env).map (·.2) = [assign tg X.env] := by rfl) : PS X (.Assign [tg] e pos) (tAsg te g) := by
 intro pins s σ H D I h
 refine wpAny_Assign_stores (thn (he pins s σ H _ I h) fun v s1 ⟨x, H1, I1, r1, q1⟩ => ?_) hs hw
 rw [h1]
 exact thn (hg pins s1 σ H1 x v _ I1 r1 q1) fun _ s2 q => q
theorem ps_set {i : Nat} {x : Str} {e : Expr} {te : TE} {pos' : Pos} (hN : X.N.Nodup) (hi : X.N[i]? = some x) (hx : Loc X.env.scope x) (he : PE X e te) (hs : swapsWith e (some (.Name x pos')) pos.line X.env = pure false := by rfl) (hf : X.fn x = true \/ X.env.scope.names.lookup x = some .local := by first | exact .inl rfl | exact .inr rfl | assumption) :
  PS X (.Assign [.Name x pos'] e pos) (tAsg te (gName i)) := by
 intro pins s σ H D I h
 refine wpAny_Assign_Name (thn (he pins s σ H _ I h) fun v s1 ⟨y, H1, I1, r1, q1⟩ => ?_) hs
 exact store_ok I1 hN hi hx r1 (fun s2 I2 => ⟨_, H1, I2, q1⟩) hf
end
section
variable {X : Cx} {pos : Pos}
def tWhile (c : TT) (tb : TS) : TS := fun D σ H => ∃ W : Nat -> St -> Hp -> Prop, (∃ m, W m σ H) /\ ∀ m σ H, W m σ H ->
 c σ H fun b H1 => if b = true then ∃ N : St -> Hp -> Prop, (∀ σ' H', N σ' H' -> ∃ m', m' < m /\ W m' σ' H') /\ tb { D with nx := N, ct := N, bk := D.nx } σ H1 else D.nx σ H1
theorem ps_while {c : Expr} {body : List Stmt} {tc : TT} {tb : TS} (hp : PassesOwn (model X.prog X.w) X.A X.env X.xe) (hc : PT X c tc) (hb : PSs X body tb) : PS X (.While c body [] pos) (tWhile tc tb) := by
  intro pins s σ H D I h
  obtain ⟨W, ⟨m0, w0⟩, turn⟩ := h
  refine wpAny_While (codeAny_whileLoop (fun n s' => ∃ σ' H', Inv X pins σ' H' s' /\ W n σ' H') ?_ m0 ⟨σ, H, I, w0⟩)
  rintro n s1 ⟨σ1, H1, I1, w1⟩
  refine wpAny_passesOwn hp (thn (hc pins s1 σ1 H1 _ I1 (turn n σ1 H1 w1)) fun b s2 ⟨H2, I2, q2⟩ => ?_)
  cases b with
  | true =>
    obtain ⟨N, hN, q2⟩ := q2
    rw [if_pos rfl]
    refine wpAny_passesOwn hp (thn (hb pins s2 σ1 H2 _ I2 q2) fun f s3 q3 => ?_)
    cases f with
    | next =>
      obtain ⟨σ3, H3, I3, n3⟩ := q3
      obtain ⟨m', hm, w3⟩ := hN σ3 H3 n3
      exact ⟨m', hm, σ3, H3, I3, w3⟩
    | cont =>
      obtain ⟨σ3, H3, I3, n3⟩ := q3
      obtain ⟨m', hm, w3⟩ := hN σ3 H3 n3
      exact ⟨m', hm, σ3, H3, I3, w3⟩
    | brk => exact q3
    | ret v => exact q3
  | false =>
    rw [if_neg Bool.false_ne_true]
    exact wpAny_execs_nil ⟨σ1, H2, I2, q2⟩
end
structure It where
 go : Nat -> Hp -> Prop
 yld : Nat -> Hp -> V -> Hp -> Prop
 stop : Nat -> Hp -> Prop
def FpOk (X : Cx) (pins : List (Addr × Obj)) (H : Hp) (b : Addr) : Prop :=
 H b = none /\ b ≠ X.env.locals /\ b ∉ X.fs /\ (b ∈ X.ex \/ X.s₀.heap.objs.size <= b) /\ (∀ x c, X.env.cells.lookup x = some c -> c ≠ b) /\ ∀ p ∈ X.pn ++ pins, p.1 ≠ b
theorem Inv.fpOk {X : Cx} {pins : List (Addr × Obj)} {σ : St} {H H' : Hp} {s : Shared} {b : Addr} (I : Inv X pins σ H s) (hb : s.heap.objs.size <= b) (hn : H' b = none) : FpOk X pins H' b := by
 refine ⟨hn, Nat.ne_of_gt (Nat.lt_of_lt_of_le I.lt hb), I.nofs hb, .inr (Nat.le_trans I.sz hb), fun x c e z => ?_, fun p hp z => ?_⟩
 ·obtain ⟨v, q⟩ := I.cell x c e
  exact absurd (Nat.lt_of_lt_of_le q.lt (by rw [z]; exact hb)) (Nat.lt_irrefl _)
 ·exact absurd (Nat.lt_of_lt_of_le (Heap.lt_size (I.pin p hp).1) (by rw [z]; exact hb)) (Nat.lt_irrefl _)
structure Turn (P : Program) (w : World) (K : PySem.W.Frag) (tg : Expr) (J : It) (fp : List Addr) (it : Addr) (tn : Nat -> Heap -> Prop) : Prop where
 mem : it ∈ fp
 obj : ∀ i h, tn i h -> ∀ b ∈ fp, ∃ o, h.get? b = some o /\ ∀ v, o.data ≠ .cell v
 keep : ∀ i h h', tn i h -> (∀ b ∈ fp, ∀ o, h.get? b = some o -> h'.get? b = some o) -> tn i h'
 item : ∀ (X : Cx), X.prog = P -> X.w = w -> X.K = K -> X.calm = true -> ∀ (i : Nat) (pins : List (Addr × Obj)) (s : Shared) (σ : St) (H : Hp) (E : Value -> Shared -> Prop), Inv X pins σ H s -> (∀ b ∈ fp, FpOk X pins H b) -> tn i s.heap -> J.go i H ->
  wpAny (model P w) X.A (pyNext (.ref it)) (fun r s1 => ∃ u, r = some u /\
   wpAny (model P w) X.A (letOwnedTupleGo tg (.ref it) u) (fun _ s2 => ∃ x H', Inv X pins σ H' s2 /\ RelV x u /\ J.yld i H x H' /\ tn (i + 1) s2.heap /\ ∀ b ∈ fp, H' b = none) E s1) E s
 done : ∀ (X : Cx), X.prog = P -> X.w = w -> X.K = K -> X.calm = true -> ∀ (i : Nat) (pins : List (Addr × Obj)) (s : Shared) (σ : St) (H : Hp) (E : Value -> Shared -> Prop), Inv X pins σ H s -> (∀ b ∈ fp, FpOk X pins H b) -> tn i s.heap -> J.stop i H ->
  wpAny (model P w) X.A (pyNext (.ref it)) (fun r s1 => r = none /\ Inv X pins σ H s1) E s
 self : ∀ (A : Around) (i : Nat) (s : Shared) (Q : Value -> Shared -> Prop) (E : Value -> Shared -> Prop), tn i s.heap -> Q (.ref it) s -> wpAny (model P w) A (pyIter (.ref it)) Q E s
abbrev TI := St -> Hp -> (It -> Hp -> Prop) -> Prop
def PIE (X : Cx) (pins : List (Addr × Obj)) (σ : St) (tg : Expr) (R : It -> Hp -> Prop) (itv : Value) (s2 : Shared) : Prop :=
 ∃ (it : Addr) (fp : List Addr) (tn : Nat -> Heap -> Prop) (J : It) (H' : Hp), itv = .ref it /\ Inv X pins σ H' s2 /\ Turn X.prog X.w X.K tg J fp it tn /\ tn 0 s2.heap /\ (∀ b ∈ fp, FpOk X pins H' b) /\ R J H'
def PI (X : Cx) (tg iter : Expr) (wi : TI) : Prop :=
 ∀ (pins : List (Addr × Obj)) (s : Shared) (σ : St) (H : Hp) (R : It -> Hp -> Prop), Inv X pins σ H s -> wi σ H R ->
  wpAny (model X.prog X.w) X.A (eval iter X.env) (fun v s1 => wpAny (model X.prog X.w) X.A (pyIter v) (PIE X pins σ tg R) X.xe s1) X.xe s
theorem go_of {M : Model} {A : Around} {E : Value -> Shared -> Prop} {s : Shared} {tg : Expr} {it : Addr} {u : Value} {o : Obj} {n : String} {vs : Array Value} {Q : Unit -> Shared -> Prop} (ho : s.heap.get? it = some o) (hc : o.cls = .type n) (hd : o.data = .fields vs)
    (hn : ["enumerate", "zip", "dict_itemiterator", "dict_reverseitemiterator", "odict_iterator", "itertools.zip_longest", "itertools.pairwise"].contains n = false) (hQ : Q () s) : wpAny M A (letOwnedTupleGo tg (.ref it) u) Q E s := by
  unfold letOwnedTupleGo
  cases tg <;> first
    | exact wpAny_pure hQ
    | (cases u <;> first
        | exact wpAny_pure hQ
        | (refine wpAny_bind (wpAny_load ho ?_)
           rw [hc, hd]
           show wpAny M A (if (["enumerate", "zip", "dict_itemiterator", "dict_reverseitemiterator", "odict_iterator", "itertools.zip_longest", "itertools.pairwise"].contains n && vs[0]? == some (rawInt _)) = true then _ else _) Q E s
           rw [if_neg (by intro h; rw [hn, Bool.false_and] at h; cases h)]
           exact wpAny_pure hQ))
def Itl (K : PySem.W.Frag) (a : Addr) : It :=
 ⟨fun i H => ∃ xs x, SqL K H a xs /\ xs[i]? = some x, fun i H x H' => H' = H /\ ∀ xs, SqL K H a xs -> xs[i]? = some x, fun i H => ∃ xs, SqL K H a xs /\ xs.length <= i⟩
def Itr (lo : Int) (n : Nat) : It := ⟨fun i _ => i < n, fun i H x H' => H' = H /\ x = .int (lo + i), fun i _ => n <= i⟩
theorem turn_list {P : Program} {w : World} {K : PySem.W.Frag} {tg : Expr} (a it : Addr) : Turn P w K tg (Itl K a) [it] it (fun i h => h.IsListIter it a i) where
 mem := by simp
 obj := fun i h st b hb => by
  have e : b = it := by simpa using hb
  subst e
  obtain ⟨o, e, c, d⟩ := st
  exact ⟨o, e, fun v z => by rw [d] at z; cases z⟩
 keep := fun i h h' st k => st.at fun o e => k it (by simp) o e
 item := by
  intro X hP hw hK hc i pins s σ H E I hf st hg
  subst hP hw hK
  obtain ⟨xs, x, hq, hx⟩ := hg
  obtain ⟨its, rv, p, hz⟩ := I.list hq
  obtain ⟨u, hu, ru⟩ := rv.get hx
  obtain ⟨f0, f1, f2, f3, f4, f5⟩ := hf it (by simp)
  refine wpAny_pyNext_list_item st p.isList (x := u) (by simpa using hu) fun h' st' sb => ?_
  have I1 : Inv X pins σ H { s with heap := h' } := I.turned (t' := s.toks) (fun b o hb e => (sb.2 b hb).trans e) f0 f1 f3 f4 f5
  obtain ⟨o, e, c, d⟩ := id st'
  exact ⟨u, rfl, go_of (s := { s with heap := h' }) e c d (by decide) ⟨x, H, I1, ru, ⟨rfl, fun ys hy => by rw [I.list_inj hy hq]; exact hx⟩, st', fun b hb => (hf b hb).1⟩⟩
 done := by
  intro X hP hw hK hc i pins s σ H E I hf st hg
  subst hP hw hK
  obtain ⟨xs, hq, hx⟩ := hg
  obtain ⟨its, rv, p, hz⟩ := I.list hq
  obtain ⟨f0, f1, f2, f3, f4, f5⟩ := hf it (by simp)
  have hl := rv.length
  exact wpAny_pyNext_list_end (I.ok.hd hc) st p.isList (by simp; omega) fun h' eb => ⟨rfl, I.turned (t' := s.toks) (fun b o hb e => eb b o hb e) f0 f1 f3 f4 f5⟩
 self := fun _ _ _ _ _ st h => wpAny_pyIter_listiter st h
theorem turn_range {P : Program} {w : World} {K : PySem.W.Frag} {tg : Expr} (it : Addr) (lo : Int) (n : Nat) : Turn P w K tg (Itr lo n) [it] it (fun i h => IsRangeIter h it (lo + (i : Nat) * 1) ((n : Int) - (i : Nat)) 1) where
 mem := by simp
 obj := fun i h st b hb => by
  have e : b = it := by simpa using hb
  subst e
  exact ⟨_, st, fun v z => by
   have z' : Data.fields _ = Data.cell v := z
   cases z'⟩
 keep := fun i h h' st k => k it (by simp) _ st
 item := by
  intro X hP hw hK hc i pins s σ H E I hf st hg
  subst hP hw hK
  obtain ⟨f0, f1, f2, f3, f4, f5⟩ := hf it (by simp)
  have W := Walks.range (prog := X.prog) (w := X.w) (I.ok.hd hc) it lo 1 n
  refine W.item i s _ _ hg st fun v h' tk hv st' kk => ?_
  obtain ⟨t, rfl⟩ := hv
  have I1 : Inv X pins σ H { s with heap := h', toks := tk } := I.turned (fun b o hb e => kk b o (by simpa using hb) e) f0 f1 f3 f4 f5
  refine ⟨_, rfl, go_of (s := { s with heap := h', toks := tk }) (n := "range_iterator") st' rfl rfl (by decide) ⟨.int (lo + i), H, I1, ⟨t, ?_⟩, ⟨rfl, rfl⟩, st', fun b hb => (hf b hb).1⟩⟩
  rw [Int.mul_one]
 done := by
  intro X hP hw hK hc i pins s σ H E I hf st hg
  subst hP hw hK
  obtain ⟨f0, f1, f2, f3, f4, f5⟩ := hf it (by simp)
  exact wpAny_pyNext_range_end (I.ok.hd hc) st (by have : n <= i := hg; omega) fun h' eb => ⟨rfl, I.turned (t' := s.toks) (fun b o hb e => eb b o hb e) f0 f1 f3 f4 f5⟩
 self := fun _ _ _ _ _ st h => wpAny_pyIter_rangeiter st h
section
variable {X : Cx} {tg : Expr}
def iList (K : PySem.W.Frag) (tl : TE) : TI := fun σ H R => tl σ H fun x H1 => ∃ a, x = .ref a /\ (∃ xs, SqL K H1 a xs) /\ R (Itl K a) H1
theorem pi_list {l : Expr} {tl : TE} (hl : PE X l tl) : PI X tg l (iList X.K tl) := by
 intro pins s σ H R I h
 refine thn (hl pins s σ H _ I h) fun v s1 ⟨x, H1, I1, r1, q1⟩ => ?_
 obtain ⟨a, e, ⟨xs, hq⟩, q⟩ := q1
 subst e
 cases r1
 obtain ⟨its, rv, p, hz⟩ := I1.list hq
 refine wpAny_pyIter_list p.isList ?_
 refine ⟨s1.heap.objs.size, [s1.heap.objs.size], _, _, H1, rfl, I1.kept (t' := s1.toks) fun b o e => Heap.get?_push_of_some _ e, turn_list a _, ⟨_, Heap.get?_push_size _ rfl, rfl, rfl⟩, fun b hb => ?_, q⟩
 have e : b = s1.heap.objs.size := by simpa using hb
 subst e
 exact I1.fpOk (Nat.le_refl _) (I1.hok.fresh (Nat.le_refl _))
theorem range_it {pins : List (Addr × Obj)} {σ : St} {H : Hp} {s : Shared} {R : It -> Hp -> Prop} {E : Value -> Shared -> Prop} {lo hi : Int} {t u v : Tok} {tk : Nat} (I : Inv X pins σ H s) (h1 : -(2 ^ 62) <= lo) (h2 : lo < 2 ^ 62) (h3 : -(2 ^ 62) <= hi) (h4 : hi < 2 ^ 62)
  (q : R (Itr lo (hi - lo).toNat) H) : wpAny (model X.prog X.w) X.A (pyIter (.ref s.heap.objs.size)) (PIE X pins σ tg R) E { s with heap := s.heap.push { cls := .type "range", data := .fields #[.int lo t, .int hi u, .int 1 v] }, toks := tk } := by
 refine wpAny_pyIter_range (IsRange.new ..) (small_one h1 h2 h3 h4) ?_
 have I1 : Inv X pins σ H { s with heap := s.heap.push { cls := .type "range", data := .fields #[.int lo t, .int hi u, .int 1 v] }, toks := tk } := I.kept fun b o e => Heap.get?_push_of_some _ e
 refine ⟨(s.heap.push { cls := .type "range", data := .fields #[.int lo t, .int hi u, .int 1 v] }).objs.size, [(s.heap.push { cls := .type "range", data := .fields #[.int lo t, .int hi u, .int 1 v] }).objs.size], _, _, H, rfl,
  I1.kept (t' := tk) fun b o e => Heap.get?_push_of_some _ e, turn_range _ lo (hi - lo).toNat, ?_, fun b hb => ?_, q⟩
 ·have e1 : lo + ((0 : Nat) : Int) * 1 = lo := by simp
  have e2 : (((hi - lo).toNat : Nat) : Int) - ((0 : Nat) : Int) = Builtin.Range.rangeSize lo hi 1 := by rw [rangeSize_one]; split <;> omega
  show IsRangeIter _ _ (lo + ((0 : Nat) : Int) * 1) ((((hi - lo).toNat : Nat) : Int) - ((0 : Nat) : Int)) 1
  rw [e1, e2]
  exact Heap.get?_push_size _ rfl
 ·have e : b = (s.heap.push { cls := .type "range", data := .fields #[.int lo t, .int hi u, .int 1 v] }).objs.size := by simpa using hb
  subst e
  exact I1.fpOk (Nat.le_refl _) (I1.hok.fresh (Nat.le_refl _))
def iRng1 (ta : TA) : TI := fun σ H R => ta σ H fun vs H1 => ∃ j : Int, vs = [.int j] /\ -(2 ^ 62) <= j /\ j < 2 ^ 62 /\ R (Itr 0 j.toNat) H1
def iRng2 (ta : TA) : TI := fun σ H R => ta σ H fun vs H1 => ∃ i j : Int, vs = [.int i, .int j] /\ (-(2 ^ 62) <= i /\ i < 2 ^ 62 /\ -(2 ^ 62) <= j /\ j < 2 ^ 62) /\ R (Itr i (j - i).toNat) H1
theorem pi_range1 {a : Expr} {ta : TA} {p pos : Pos} (hg : Gl X "range") (hm : X.mg "range" = none) (ha : PA X [a] ta) (hs : starEach [a] X.env = [(false, eval a X.env)] := by rfl) : PI X tg (.Call (.Name "range" p) [a] [] pos) (iRng1 ta) := by
  intro pins s σ H R I h
  refine Call_ (ld_blt I hg hm boot_range (PyProof.Rows.callWith_type1 (thn (ha pos pins s σ H _ I h) fun us s1 ⟨vs, H1, I1, r1, q1⟩ => ?_) hs rfl))
  obtain ⟨j, e, q1, q2, q⟩ := q1
  subst e
  cases r1 with
  | cons r rr =>
    cases rr
    obtain ⟨t, rfl⟩ := r
    exact call_range_1 (range_it I1 (by omega) (by omega) q1 q2 (by simpa using q))
theorem pi_range2 {a b : Expr} {ta : TA} {p pos : Pos} (hg : Gl X "range") (hm : X.mg "range" = none) (ha : PA X [a, b] ta) (hs : starEach [a, b] X.env = [(false, eval a X.env), (false, eval b X.env)] := by rfl) (hs2 : starEach [b] X.env = [(false, eval b X.env)] := by rfl) :
    PI X tg (.Call (.Name "range" p) [a, b] [] pos) (iRng2 ta) := by
  intro pins s σ H R I h
  refine Call_ (ld_blt I hg hm boot_range (PyProof.Rows.callWith_type1 (thn (ha pos pins s σ H _ I h) fun us s1 ⟨vs, H1, I1, r1, q1⟩ => ?_) (by rw [hs, hs2]) (by rw [hs2]; rfl)))
  obtain ⟨i, j, e, ⟨q1, q2, q3, q4⟩, q⟩ := q1
  subst e
  cases r1 with
  | cons r rr =>
    cases rr with
    | cons r' rr =>
      cases rr
      obtain ⟨t, rfl⟩ := r
      obtain ⟨t', rfl⟩ := r'
      exact call_range_2 (range_it I1 q1 q2 q3 q4 q)
def tFor (wi : TI) (g : TG) (tb : TS) : TS := fun D σ H => wi σ H fun J H1 => ∃ W : Nat -> Nat -> St -> Hp -> Prop, (∃ m, W 0 m σ H1) /\ ∀ i m σ H, W i m σ H ->
 (J.stop i H /\ D.nx σ H) \/ (J.go i H /\ ∃ N : St -> Hp -> Prop, (∀ σ' H', N σ' H' -> ∃ m', m' < m /\ W (i + 1) m' σ' H') /\ ∀ x H', J.yld i H x H' -> g x σ H' fun σ2 H2 => tb { D with nx := N, ct := N, bk := D.nx } σ2 H2)
def pinsAt (fp : List Addr) (h : Heap) : List (Addr × Obj) := fp.filterMap fun b => (h.get? b).map fun o => (b, o)
theorem mem_pinsAt {fp : List Addr} {h : Heap} {b : Addr} {o : Obj} (hb : b ∈ fp) (e : h.get? b = some o) : (b, o) ∈ pinsAt fp h := List.mem_filterMap.mpr ⟨b, hb, by rw [e]; rfl⟩
theorem of_pinsAt {fp : List Addr} {h : Heap} {p : Addr × Obj} (hp : p ∈ pinsAt fp h) : p.1 ∈ fp /\ h.get? p.1 = some p.2 := by
  obtain ⟨b, hb, e⟩ := List.mem_filterMap.mp hp
  cases q : h.get? b with
  | none => rw [q] at e; cases e
  | some o =>
    rw [q] at e
    have e' : (b, o) = p := Option.some.inj e
    subst e'
    exact ⟨hb, q⟩
theorem Inv.pinned {pins : List (Addr × Obj)} {σ : St} {H : Hp} {s : Shared} {fp : List Addr} (I : Inv X pins σ H s) (hf : ∀ b ∈ fp, FpOk X pins H b) (ho : ∀ b ∈ fp, ∃ o, s.heap.get? b = some o /\ ∀ v, o.data ≠ .cell v) : Inv X (pins ++ pinsAt fp s.heap) σ H s :=
 I.pins_of fun p hp => (List.mem_append.mp hp).elim (fun z => I.pin p (List.mem_append_right _ z)) fun z => by
  obtain ⟨hb, e⟩ := of_pinsAt z
  obtain ⟨f0, f1, f2, _⟩ := hf p.1 hb
  obtain ⟨o, e', d⟩ := ho p.1 hb
  rw [e] at e'; cases e'
  exact ⟨e, f0, f1, f2, d⟩
theorem Inv.unpinned {pins pl : List (Addr × Obj)} {σ : St} {H : Hp} {s : Shared} (I : Inv X (pins ++ pl) σ H s) : Inv X pins σ H s := I.pins_of fun p hp => I.pin p (List.mem_append_right _ (List.mem_append_left _ hp))
theorem ps_for {iter : Expr} {body : List Stmt} {wi : TI} {g : TG} {tb : TS} {pos : Pos} (hp : PassesOwn (model X.prog X.w) X.A X.env X.xe) (hc : X.calm = true) (hi : PI X tg iter wi) (hg : PG X tg g) (hb : PSs X body tb)
  (hs : ∀ x, foldedSetIterable iter X.env x = pure x := by intro _; rfl) : PS X (.For tg iter body [] pos) (tFor wi g tb) := by
 intro pins s σ H D I h
 refine wpAny_For (thn (hi pins s σ H _ I h) fun v s1 h1 => thn h1 fun itv s2 h2 => ?_) hs
 obtain ⟨it, fp, tn, J, H2, e, I2, T, st2, f2, W, ⟨m0, w0⟩, turn⟩ := h2
 subst e
 have stat : ∀ {H' : Hp}, (∀ b ∈ fp, H' b = none) -> ∀ b ∈ fp, FpOk X pins H' b := fun hn b hb => ⟨hn b hb, (f2 b hb).2⟩
 refine codeAny_forLoop_any (fun n s' => ∃ i σ' H', Inv X pins σ' H' s' /\ tn i s'.heap /\ (∀ b ∈ fp, H' b = none) /\ W i n σ' H') ?_ m0 ⟨0, σ, H2, I2, st2, fun b hb => (f2 b hb).1, w0⟩
 rintro n s3 ⟨i, σ3, H3, I3, st3, fr3, w3⟩
 rcases turn i n σ3 H3 w3 with ⟨stop, qn⟩ | ⟨go, N, hN, step⟩
 ·refine wpAny_passesOwn hp (thn (T.done X rfl rfl rfl hc i pins s3 σ3 H3 X.xe I3 (stat fr3) st3 stop) fun r s4 ⟨hr, I4⟩ => ?_)
  subst hr
  exact wpAny_execs_nil ⟨σ3, H3, I4, qn⟩
 ·refine wpAny_passesOwn hp (thn (T.item X rfl rfl rfl hc i pins s3 σ3 H3 X.xe I3 (stat fr3) st3 go) fun r s4 ⟨u, hr, h4⟩ => ?_)
  subst hr
  refine wpAny_passesOwn hp (thn h4 fun _ s5 ⟨x, H5, I5, r5, y5, st5, fr5⟩ => ?_)
  have I5' := I5.pinned (stat fr5) (T.obj _ _ st5)
  refine wpAny_passesOwn hp (thn (hg _ s5 σ3 H5 x u _ I5' r5 (step x H5 y5)) fun _ s6 ⟨σ6, H6, I6, q6⟩ => ?_)
  refine wpAny_passesOwn hp (thn (hb _ s6 σ6 H6 _ I6 q6) fun f s7 q7 => ?_)
  have again : ∀ {σ7 : St} {H7 : Hp}, Inv X (pins ++ pinsAt fp s5.heap) σ7 H7 s7 -> N σ7 H7 -> ∃ m, m < n /\ ∃ i σ' H', Inv X pins σ' H' s7 /\ tn i s7.heap /\ (∀ b ∈ fp, H' b = none) /\ W i m σ' H' := fun {σ7 H7} I7 n7 => by
   obtain ⟨m', hm, w7⟩ := hN σ7 H7 n7
   refine ⟨m', hm, i + 1, σ7, H7, I7.unpinned, T.keep _ _ _ st5 fun b hb o e => (I7.pin (b, o) (List.mem_append_right _ (List.mem_append_right _ (mem_pinsAt hb e)))).1, fun b hb => ?_, w7⟩
   obtain ⟨o, e, d⟩ := T.obj _ _ st5 b hb
   exact (I7.pin (b, o) (List.mem_append_right _ (List.mem_append_right _ (mem_pinsAt hb e)))).2.1
  cases f with
  | next => obtain ⟨σ7, H7, I7, n7⟩ := q7; exact again I7 n7
  | cont => obtain ⟨σ7, H7, I7, n7⟩ := q7; exact again I7 n7
  | brk => obtain ⟨σ7, H7, I7, q7⟩ := q7; exact ⟨σ7, H7, I7.unpinned, q7⟩
  | ret v => obtain ⟨x7, σ7, H7, I7, r7, q7⟩ := q7; exact ⟨x7, σ7, H7, I7.unpinned, r7, q7⟩
end
theorem for_list {K : PySem.W.Frag} {a : Addr} {xs : List V} {g : TG} {tb : TS} {D : Ends} {σ : St} {H : Hp} (Pv : Nat -> St -> Hp -> Prop) (h0 : Pv 0 σ H) (hl : ∀ i σ H, i <= xs.length -> Pv i σ H -> SqL K H a xs)
  (hs : ∀ i x σ H, xs[i]? = some x -> Pv i σ H -> g x σ H fun σ2 H2 => tb { D with nx := Pv (i + 1), ct := Pv (i + 1), bk := D.nx } σ2 H2) (hd : ∀ σ H, Pv xs.length σ H -> D.nx σ H) :
  ∃ W : Nat -> Nat -> St -> Hp -> Prop, (∃ m, W 0 m σ H) /\ ∀ i m σ H, W i m σ H ->
   ((Itl K a).stop i H /\ D.nx σ H) \/ ((Itl K a).go i H /\ ∃ N : St -> Hp -> Prop, (∀ σ' H', N σ' H' -> ∃ m', m' < m /\ W (i + 1) m' σ' H') /\ ∀ x H', (Itl K a).yld i H x H' -> g x σ H' fun σ2 H2 => tb { D with nx := N, ct := N, bk := D.nx } σ2 H2) := by
 refine ⟨fun i m σ H => m = xs.length - i /\ i <= xs.length /\ Pv i σ H, ⟨xs.length, by simp, Nat.zero_le _, h0⟩, ?_⟩
 rintro i m σ H ⟨rfl, hi, p⟩
 have q := hl i σ H hi p
 by_cases hlt : i < xs.length
 ·refine .inr ⟨⟨xs, xs[i], q, by simp [hlt]⟩, Pv (i + 1), fun σ' H' p' => ⟨xs.length - (i + 1), by omega, rfl, hlt, p'⟩, fun x H' y => ?_⟩
  obtain ⟨e, y⟩ := y
  subst e
  exact hs i x σ _ (y xs q) p
 ·have e : i = xs.length := by omega
  subst e
  exact .inl ⟨⟨xs, q, Nat.le_refl _⟩, hd σ H p⟩
theorem for_range {lo : Int} {n : Nat} {g : TG} {tb : TS} {D : Ends} {σ : St} {H : Hp} (Pv : Nat -> St -> Hp -> Prop) (h0 : Pv 0 σ H)
  (hs : ∀ i σ H, i < n -> Pv i σ H -> g (.int (lo + i)) σ H fun σ2 H2 => tb { D with nx := Pv (i + 1), ct := Pv (i + 1), bk := D.nx } σ2 H2) (hd : ∀ σ H, Pv n σ H -> D.nx σ H) :
  ∃ W : Nat -> Nat -> St -> Hp -> Prop, (∃ m, W 0 m σ H) /\ ∀ i m σ H, W i m σ H ->
   ((Itr lo n).stop i H /\ D.nx σ H) \/ ((Itr lo n).go i H /\ ∃ N : St -> Hp -> Prop, (∀ σ' H', N σ' H' -> ∃ m', m' < m /\ W (i + 1) m' σ' H') /\ ∀ x H', (Itr lo n).yld i H x H' -> g x σ H' fun σ2 H2 => tb { D with nx := N, ct := N, bk := D.nx } σ2 H2) := by
 refine ⟨fun i m σ H => m = n - i /\ i <= n /\ Pv i σ H, ⟨n, by simp, Nat.zero_le _, h0⟩, ?_⟩
 rintro i m σ H ⟨rfl, hi, p⟩
 by_cases hlt : i < n
 ·refine .inr ⟨hlt, Pv (i + 1), fun σ' H' p' => ⟨n - (i + 1), by omega, rfl, hlt, p'⟩, fun x H' y => ?_⟩
  obtain ⟨e, y⟩ := y
  subst e y
  exact hs i σ _ hlt p
 ·have e : i = n := by omega
  subst e
  exact .inl ⟨Nat.le_refl _, hd σ H p⟩
theorem while_by {c : TT} {tb : TS} {D : Ends} {σ : St} {H : Hp} (Pv : St -> Hp -> Prop) (μ : St -> Hp -> Nat) (h0 : Pv σ H)
  (hs : ∀ σ H, Pv σ H -> c σ H fun b H1 => if b = true then tb { D with nx := fun σ' H' => Pv σ' H' /\ μ σ' H' < μ σ H, ct := fun σ' H' => Pv σ' H' /\ μ σ' H' < μ σ H, bk := D.nx } σ H1 else D.nx σ H1)
  (mono : ∀ σ H Q Q', (∀ b H1, Q b H1 -> Q' b H1) -> c σ H Q -> c σ H Q') : tWhile c tb D σ H := by
 refine ⟨fun m σ H => m = μ σ H /\ Pv σ H, ⟨_, rfl, h0⟩, ?_⟩
 rintro m σ H ⟨rfl, p⟩
 refine mono σ H _ _ (fun b H1 q => ?_) (hs σ H p)
 cases b with
 | true => exact ⟨_, fun σ' H' ⟨p', l⟩ => ⟨_, l, rfl, p'⟩, q⟩
 | false => exact q
abbrev R2 := V -> V -> Hp -> VK -> Prop
def OpR (X : Cx) (f : Value -> Value -> Sem Value) (r : R2) : Prop :=
 ∀ (pins : List (Addr × Obj)) (s : Shared) (σ : St) (H : Hp) (x y : V) (v u : Value) (Q : VK), Inv X pins σ H s -> RelV x v -> RelV y u -> r x y H Q ->
  wpAny (model X.prog X.w) X.A (f v u) (EP X pins σ Q) X.xe s
def UnR (X : Cx) (f : Value -> Sem Value) (r : V -> Hp -> VK -> Prop) : Prop :=
 ∀ (pins : List (Addr × Obj)) (s : Shared) (σ : St) (H : Hp) (x : V) (v : Value) (Q : VK), Inv X pins σ H s -> RelV x v -> r x H Q ->
  wpAny (model X.prog X.w) X.A (f v) (EP X pins σ Q) X.xe s
def CallR (X : Cx) (f : Value) (r : List V -> Hp -> VK -> Prop) : Prop :=
 ∀ (pins : List (Addr × Obj)) (s : Shared) (σ : St) (H : Hp) (xs : List V) (us : List Value) (Q : VK), Inv X pins σ H s -> Vals xs us -> r xs H Q ->
  wpAny (model X.prog X.w) X.A (call f us) (EP X pins σ Q) X.xe s
def TruR (X : Cx) (r : V -> Hp -> (Bool -> Hp -> Prop) -> Prop) : Prop :=
 ∀ (pins : List (Addr × Obj)) (s : Shared) (σ : St) (H : Hp) (x : V) (v : Value) (Q : Bool -> Hp -> Prop), Inv X pins σ H s -> RelV x v -> r x H Q ->
  wpAny (model X.prog X.w) X.A (truthy v) (TP X pins σ Q) X.xe s
def tOp (r : R2) (ta tb : TE) : TE := fun σ H Q => ta σ H fun x H1 => tb σ H1 fun y H2 => r x y H2 Q
def tUn (r : V -> Hp -> VK -> Prop) (ta : TE) : TE := fun σ H Q => ta σ H fun x H1 => r x H1 Q
def rI (C : Int -> Int -> Prop) (g : Int -> Int -> V) : R2 := fun x y H Q => ∃ i j, x = .int i /\ y = .int j /\ C i j /\ Q (g i j) H
def rI0 (g : Int -> Int -> V) : R2 := fun x y H Q => ∃ i j, x = .int i /\ y = .int j /\ Q (g i j) H
def rU (g : Int -> V) : V -> Hp -> VK -> Prop := fun x H Q => ∃ i, x = .int i /\ Q (g i) H
section
variable {X : Cx} {a b c : Expr} {ta tb tc : TE} {pos : Pos}
theorem binT (ha : PE X a ta) (hb : PE X b tb) {pins : List (Addr × Obj)} {s : Shared} {σ : St} {H : Hp} {R : V -> V -> Hp -> Prop} (I : Inv X pins σ H s)
  (h : ta σ H fun x H1 => tb σ H1 fun y H2 => R x y H2) {Q : Value -> Shared -> Prop} {f : Value -> Value -> Sem Value}
  (hf : ∀ v u s2 x y H2, Inv X pins σ H2 s2 -> RelV x v -> RelV y u -> R x y H2 -> wpAny (model X.prog X.w) X.A (f v u) Q X.xe s2) :
  wpAny (model X.prog X.w) X.A (eval a X.env) (fun v s₁ => wpAny (model X.prog X.w) X.A (eval b X.env) (fun u s₂ => wpAny (model X.prog X.w) X.A (f v u) Q X.xe s₂) X.xe s₁) X.xe s := by
 refine thn (ha pins s σ H _ I h) fun v s1 ⟨x, H1, I1, r1, q1⟩ => ?_
 refine thn (hb pins s1 σ H1 _ I1 q1) fun u s2 ⟨y, H2, I2, r2, q2⟩ => ?_
 exact hf v u s2 x y H2 I2 r1 r2 q2
theorem pe_op {op : Operator} {r : R2} (ho : OpR X (binaryOp op) r) (ha : PE X a ta) (hb : PE X b tb) : PE X (.BinOp a op b pos) (tOp r ta tb) := by
 intro pins s σ H Q I h
 exact wpAny_BinOp (binT ha hb I h fun v u s2 x y H2 I2 rx ry q => ho pins s2 σ H2 x y v u Q I2 rx ry q)
theorem pe_un {op : UnaryOp} {r : V -> Hp -> VK -> Prop} (ho : UnR X (unaryOp op) r) (ha : PE X a ta) : PE X (.UnaryOp op a pos) (tUn r ta) := by
 intro pins s σ H Q I h
 exact UnaryOp_ (thn (ha pins s σ H _ I h) fun v s1 ⟨x, H1, I1, r1, q1⟩ => ho pins s1 σ H1 x v Q I1 r1 q1)
theorem opI {f : Value -> Value -> Sem Value} {C : Int -> Int -> Prop} {g : Int -> Int -> Int}
  (rule : ∀ (i j : Int) (t u : Tok) (s : Shared) (Q : Value -> Shared -> Prop) (E : Value -> Shared -> Prop), C i j -> Q (.int (g i j) s.toks) { s with toks := s.toks + 1 } -> wpAny (model X.prog X.w) X.A (f (.int i t) (.int j u)) Q E s) :
  OpR X f (rI C fun i j => .int (g i j)) := by
 intro pins s σ H x y v u Q I rx ry h
 obtain ⟨i, j, rfl, rfl, hc, q⟩ := h
 obtain ⟨t, rfl⟩ := rx
 obtain ⟨t', rfl⟩ := ry
 exact rule i j t t' s _ _ hc ⟨.int (g i j), H, I.tok _, ⟨_, rfl⟩, q⟩
theorem opI0 {f : Value -> Value -> Sem Value} {g : Int -> Int -> Int}
  (rule : ∀ (i j : Int) (t u : Tok) (s : Shared) (Q : Value -> Shared -> Prop) (E : Value -> Shared -> Prop), Q (.int (g i j) s.toks) { s with toks := s.toks + 1 } -> wpAny (model X.prog X.w) X.A (f (.int i t) (.int j u)) Q E s) :
  OpR X f (rI0 fun i j => .int (g i j)) := by
 intro pins s σ H x y v u Q I rx ry h
 obtain ⟨i, j, rfl, rfl, q⟩ := h
 obtain ⟨t, rfl⟩ := rx
 obtain ⟨t', rfl⟩ := ry
 exact rule i j t t' s _ _ ⟨.int (g i j), H, I.tok _, ⟨_, rfl⟩, q⟩
theorem opB0 {f : Value -> Value -> Sem Value} {g : Int -> Int -> Bool}
  (rule : ∀ (i j : Int) (t u : Tok) (s : Shared) (Q : Value -> Shared -> Prop) (E : Value -> Shared -> Prop), Q (.bool (g i j)) s -> wpAny (model X.prog X.w) X.A (f (.int i t) (.int j u)) Q E s) :
  OpR X f (rI0 fun i j => .bl (g i j)) := by
 intro pins s σ H x y v u Q I rx ry h
 obtain ⟨i, j, rfl, rfl, q⟩ := h
 obtain ⟨t, rfl⟩ := rx
 obtain ⟨t', rfl⟩ := ry
 exact rule i j t t' s _ _ ⟨.bl (g i j), H, I, rfl, q⟩
def CPow (i j : Int) : Prop := 0 <= j /\ j <= 1000000 /\ i.natAbs < 2 ^ 64
def CMul (i j : Int) : Prop := (-(2 ^ 64) < i /\ i < 2 ^ 64) \/ (-(2 ^ 64) < j /\ j < 2 ^ 64)
theorem CMul.ok {i j : Int} (h : CMul i j) : IntMulOk i j := by
 rcases h with ⟨h1, h2⟩ | ⟨h1, h2⟩
 ·exact .of_left (intBits_le_64 h1 h2)
 ·exact .of_right (intBits_le_64 h1 h2)
theorem op_add : OpR X (binaryOp .Add) (rI0 fun i j => .int (i + j)) := opI0 fun _ _ _ _ _ _ _ q => add_int q
theorem op_sub : OpR X (binaryOp .Sub) (rI0 fun i j => .int (i - j)) := opI0 fun _ _ _ _ _ _ _ q => sub_int q
theorem op_mod : OpR X (binaryOp .Mod) (rI (fun _ j => 0 < j) fun i j => .int (i % j)) := opI fun i j _ _ _ _ _ hc q => by
 have h1 : (0 : Int) < j := hc
 exact mod_int' (by omega) (by rw [Int.fmod_eq_emod_of_nonneg i (by omega)]; exact q)
theorem op_pow : OpR X (binaryOp .Pow) (rI CPow fun i j => .int (i ^ j.toNat)) := opI fun _ _ _ _ _ _ _ hc q => pow_int_small hc.1 hc.2.1 hc.2.2 q
theorem unI {f : Value -> Sem Value} {g : Int -> Int}
  (rule : ∀ (i : Int) (t : Tok) (s : Shared) (Q : Value -> Shared -> Prop) (E : Value -> Shared -> Prop), Q (.int (g i) s.toks) { s with toks := s.toks + 1 } -> wpAny (model X.prog X.w) X.A (f (.int i t)) Q E s) :
  UnR X f (rU fun i => .int (g i)) := by
 intro pins s σ H x v Q I rx h
 obtain ⟨i, rfl, q⟩ := h
 obtain ⟨t, rfl⟩ := rx
 exact rule i t s _ _ ⟨.int (g i), H, I.tok _, ⟨_, rfl⟩, q⟩
theorem un_neg : UnR X (unaryOp .USub) (rU fun i => .int (-i)) := unI fun _ _ _ _ _ q => neg_int q
end
def scal : V -> V -> Bool
 | .non, .non => true | .non, .int _ => true | .int _, .non => true | .non, .bl _ => true | .bl _, .non => true | .non, .str _ => true | .str _, .non => true
 | .int _, .int _ => true | .bl _, .bl _ => true | .str _, .str _ => true | .byt _, .byt _ => true
 | .int _, .str _ => true | .str _, .int _ => true | .bl _, .str _ => true | .str _, .bl _ => true
 | _, _ => false
def rEq : R2 := fun x y H Q => scal x y = true /\ Q (.bl (decide (x = y))) H
def rNe : R2 := fun x y H Q => scal x y = true /\ Q (.bl (!decide (x = y))) H
theorem dec_int {i j : Int} : decide (V.int i = V.int j) = (i == j) := by
 rw [Bool.eq_iff_iff]
 simp
theorem dec_bl {i j : Bool} : decide (V.bl i = V.bl j) = (i == j) := by
 rw [Bool.eq_iff_iff]
 simp
theorem dec_str {i j : Str} : decide (V.str i = V.str j) = (i == j) := by
 rw [Bool.eq_iff_iff]
 simp
theorem dec_byt {i j : Array UInt8} : decide (V.byt i = V.byt j) = (i.toList == j.toList) := by
 rw [Bool.eq_iff_iff]
 cases i
 cases j
 simp
section
variable {X : Cx} {a b c : Expr} {ta tb tc : TE} {pos : Pos}
theorem fin_bl {pins : List (Addr × Obj)} {σ : St} {H : Hp} {s : Shared} {Q : VK} {k k' : Bool} (I : Inv X pins σ H s) (q : Q (.bl k) H) (e : k = k') : EP X pins σ Q (.bool k') s := by
 subst e
 exact ⟨.bl k, H, I, rfl, q⟩
theorem op_eq : OpR X (compareOp .Eq) rEq := by
  intro pins s σ H x y v u Q I rx ry h
  obtain ⟨hs, q⟩ := h
  cases x with
  | non =>
    cases rx
    cases y with
    | non => cases ry; exact PySem.EqNone.eq_none_none (fin_bl I q (by simp))
    | bl j => cases ry; exact PySem.EqNone.eq_none_bool (fin_bl I q (by simp))
    | int j => obtain ⟨t', rfl⟩ := ry; exact PySem.EqNone.eq_none_int (fin_bl I q (by simp))
    | str j => obtain ⟨t', rfl⟩ := ry; exact PySem.EqNone.eq_none_str (fin_bl I q (by simp))
    | _ => exact absurd (show false = true from hs) Bool.false_ne_true
  | bl i =>
    cases rx
    cases y with
    | non => cases ry; exact PySem.EqNone.eq_bool_none (fin_bl I q (by simp))
    | bl j => cases ry; exact eq_bool (fin_bl I q dec_bl)
    | str j => obtain ⟨t', rfl⟩ := ry; exact PySem.EqMixed.eq_bool_str (fin_bl I q (by simp))
    | _ => exact absurd (show false = true from hs) Bool.false_ne_true
  | int i =>
    obtain ⟨t, rfl⟩ := rx
    cases y with
    | non => cases ry; exact PySem.EqNone.eq_int_none (fin_bl I q (by simp))
    | int j => obtain ⟨t', rfl⟩ := ry; exact eq_int (fin_bl I q dec_int)
    | str j => obtain ⟨t', rfl⟩ := ry; exact PySem.EqMixed.eq_int_str (fin_bl I q (by simp))
    | _ => exact absurd (show false = true from hs) Bool.false_ne_true
  | str i =>
    obtain ⟨t, rfl⟩ := rx
    cases y with
    | non => cases ry; exact PySem.EqNone.eq_str_none (fin_bl I q (by simp))
    | bl j => cases ry; exact PySem.EqMixed.eq_str_bool (fin_bl I q (by simp))
    | int j => obtain ⟨t', rfl⟩ := ry; exact PySem.EqMixed.eq_str_int (fin_bl I q (by simp))
    | str j => obtain ⟨t', rfl⟩ := ry; exact eq_str (fin_bl I q dec_str)
    | _ => exact absurd (show false = true from hs) Bool.false_ne_true
  | byt i =>
    obtain ⟨t, rfl⟩ := rx
    cases y with
    | byt j => obtain ⟨t', rfl⟩ := ry; exact PySem.W.eq_bytes (fin_bl I q dec_byt)
    | _ => exact absurd (show false = true from hs) Bool.false_ne_true
  | _ => cases y <;> exact absurd (show false = true from hs) Bool.false_ne_true
theorem op_ne : OpR X (compareOp .NotEq) rNe := by
  intro pins s σ H x y v u Q I rx ry h
  obtain ⟨hs, q⟩ := h
  cases x with
  | non =>
    cases rx
    cases y with
    | non => cases ry; exact PySem.EqNone.ne_none_none (fin_bl I q (by simp))
    | bl j => cases ry; exact PySem.EqNone.ne_none_bool (fin_bl I q (by simp))
    | int j => obtain ⟨t', rfl⟩ := ry; exact PySem.EqNone.ne_none_int (fin_bl I q (by simp))
    | str j => obtain ⟨t', rfl⟩ := ry; exact PySem.EqNone.ne_none_str (fin_bl I q (by simp))
    | _ => exact absurd (show false = true from hs) Bool.false_ne_true
  | bl i =>
    cases rx
    cases y with
    | non => cases ry; exact PySem.EqNone.ne_bool_none (fin_bl I q (by simp))
    | bl j => cases ry; exact ne_bool (fin_bl I q (congrArg not dec_bl))
    | str j => obtain ⟨t', rfl⟩ := ry; exact PySem.EqMixed.ne_bool_str (fin_bl I q (by simp))
    | _ => exact absurd (show false = true from hs) Bool.false_ne_true
  | int i =>
    obtain ⟨t, rfl⟩ := rx
    cases y with
    | non => cases ry; exact PySem.EqNone.ne_int_none (fin_bl I q (by simp))
    | int j => obtain ⟨t', rfl⟩ := ry; exact ne_int (fin_bl I q (congrArg not dec_int))
    | str j => obtain ⟨t', rfl⟩ := ry; exact PySem.EqMixed.ne_int_str (fin_bl I q (by simp))
    | _ => exact absurd (show false = true from hs) Bool.false_ne_true
  | str i =>
    obtain ⟨t, rfl⟩ := rx
    cases y with
    | non => cases ry; exact PySem.EqNone.ne_str_none (fin_bl I q (by simp))
    | bl j => cases ry; exact PySem.EqMixed.ne_str_bool (fin_bl I q (by simp))
    | int j => obtain ⟨t', rfl⟩ := ry; exact PySem.EqMixed.ne_str_int (fin_bl I q (by simp))
    | str j => obtain ⟨t', rfl⟩ := ry; exact ne_str (fin_bl I q (congrArg not dec_str))
    | _ => exact absurd (show false = true from hs) Bool.false_ne_true
  | byt i =>
    obtain ⟨t, rfl⟩ := rx
    cases y with
    | byt j => obtain ⟨t', rfl⟩ := ry; exact PySem.W.ne_bytes (fin_bl I q (congrArg not dec_byt))
    | _ => exact absurd (show false = true from hs) Bool.false_ne_true
  | _ => cases y <;> exact absurd (show false = true from hs) Bool.false_ne_true
theorem op_lt : OpR X (compareOp .Lt) (rI0 fun i j => .bl (decide (i < j))) := opB0 fun _ _ _ _ _ _ _ q => lt_int q
theorem op_le : OpR X (compareOp .LtE) (rI0 fun i j => .bl (decide (i <= j))) := opB0 fun _ _ _ _ _ _ _ q => le_int q
theorem op_gt : OpR X (compareOp .Gt) (rI0 fun i j => .bl (decide (j < i))) := opB0 fun _ _ _ _ _ _ _ q => gt_int q
theorem op_ge : OpR X (compareOp .GtE) (rI0 fun i j => .bl (decide (j <= i))) := opB0 fun _ _ _ _ _ _ _ q => ge_int q
theorem op_isN : OpR X (compareOp .Is) (fun x y H Q => y = .non /\ Q (.bl (decide (x = .non))) H) := by
 intro pins s σ H x y v u Q I rx ry h
 obtain ⟨rfl, q⟩ := h
 cases ry
 refine is_none_gen (fin_bl I q ?_)
 cases x <;> first
  | (cases rx; rfl)
  | (obtain ⟨t, rfl⟩ := rx; rfl)
theorem op_notN : OpR X (compareOp .IsNot) (fun x y H Q => y = .non /\ Q (.bl (!decide (x = .non))) H) := by
 intro pins s σ H x y v u Q I rx ry h
 obtain ⟨rfl, q⟩ := h
 cases ry
 refine isnot_none_gen (fin_bl I q ?_)
 cases x <;> first
  | (cases rx; rfl)
  | (obtain ⟨t, rfl⟩ := rx; rfl)
theorem nomark (b : Expr) {op : CmpOp} (h : op ≠ .In := by decide) (h2 : op ≠ .NotIn := by decide) : behindInMarks op b = false := by
 have e1 : (op == CmpOp.In) = false := by cases op <;> first | rfl | exact absurd rfl h
 have e2 : (op == CmpOp.NotIn) = false := by cases op <;> first | rfl | exact absurd rfl h2
 cases b <;> simp [behindInMarks, e1, e2]
theorem pe_cmpR {op : CmpOp} {r : R2} (ho : OpR X (compareOp op) r) (ha : PE X a ta) (hb : PE X b tb) (hm : behindInMarks op b = false) : PE X (.Compare a [op] [b] pos) (tOp r ta tb) := by
 intro pins s σ H Q I h
 exact wpAny_Compare1 (binT ha hb I h fun v u s2 x y H2 I2 rx ry q => ho pins s2 σ H2 x y v u Q I2 rx ry q) hm
def tTest (t : TE) : TT := fun σ H Q => t σ H fun x H' => ∃ k, x = .bl k /\ Q k H'
theorem pt_cmpR {op : CmpOp} {r : R2} (ho : OpR X (compareOp op) r) (ha : PE X a ta) (hb : PE X b tb) (hm : behindInMarks op b = false) : PT X (.Compare a [op] [b] pos) (tTest (tOp r ta tb)) := by
 intro pins s σ H Q I h
 refine wpAny_isTrue_Compare1 (thn (ha pins s σ H _ I h) fun v s1 ⟨x, H1, I1, r1, q1⟩ => thn (hb pins s1 σ H1 _ I1 q1) fun u s2 ⟨y, H2, I2, r2, q2⟩ =>
  thn (ho pins s2 σ H2 x y v u _ I2 r1 r2 q2) fun c s3 ⟨z, H3, I3, r3, k, e, q3⟩ => ?_) hm
 subst e
 cases r3
 exact wpAny_truthy_bool ⟨H3, I3, q3⟩
def TruV (K : PySem.W.Frag) (x : V) (H : Hp) (k : Bool) : Prop :=
 match x with
 | .non => k = false
 | .bl b => k = b
 | .int i => k = (i != 0)
 | .str y => y.length <= sizeLine /\ k = ((y.length : Int) != 0)
 | .byt y => y.size <= sizeLine /\ k = ((y.size : Int) != 0)
 | .ref p => (∃ xs, SqL K H p xs /\ k = !xs.isEmpty) \/ (∃ xs, SqT K H p xs /\ k = !xs.isEmpty) \/ ∃ kvs, H p = some (.dK kvs) /\ k = !kvs.isEmpty
 | _ => False
theorem isEmpty_kv {κ : Type} {kvs : List (κ × V)} {vs : List (κ × Value)} (r : KV kvs vs) : (!vs.isEmpty) = !kvs.isEmpty := by
 cases r <;> rfl
theorem isEmpty_of {xs : List V} {its : List Value} (r : Vals xs its) : (!its.toArray.isEmpty) = !xs.isEmpty := by
 cases r <;> simp
theorem line63 : (sizeLine : Nat) < 2 ^ 63 := by rw [sizeLine_eq]; decide
theorem tru_ok : TruR X (fun x H Q => ∃ k, TruV X.K x H k /\ Q k H) := by
  intro pins s σ H x v Q I rx h
  obtain ⟨k, e, q⟩ := h
  have hl := line63
  have hs : sizeLine = 16777216 := sizeLine_eq
  cases x with
  | non =>
    cases rx
    have e' : k = false := e
    subst e'
    exact truthy_none ⟨H, I, q⟩
  | bl b =>
    cases rx
    have e' : k = b := e
    subst e'
    exact wpAny_truthy_bool ⟨H, I, q⟩
  | int i =>
    obtain ⟨t, rfl⟩ := rx
    have e' : k = (i != 0) := e
    subst e'
    exact PySem.P.truthy_int ⟨H, I, q⟩
  | str y =>
    obtain ⟨t, rfl⟩ := rx
    obtain ⟨hy, e'⟩ : y.length <= sizeLine /\ k = ((y.length : Int) != 0) := e
    subst e'
    exact PySem.P.truthy_str (by omega) ⟨H, I.tok _, q⟩
  | byt y =>
    obtain ⟨t, rfl⟩ := rx
    obtain ⟨hy, e'⟩ : y.size <= sizeLine /\ k = ((y.size : Int) != 0) := e
    subst e'
    exact PySem.W.truthy_bytes (by omega) ⟨H, I.tok _, q⟩
  | ref p =>
    cases rx
    have e' : (∃ xs, SqL X.K H p xs /\ k = !xs.isEmpty) \/ (∃ xs, SqT X.K H p xs /\ k = !xs.isEmpty) \/ ∃ kvs, H p = some (.dK kvs) /\ k = !kvs.isEmpty := e
    rcases e' with ⟨xs, hx, e'⟩ | ⟨xs, hx, e'⟩ | ⟨kvs, hx, e'⟩
    · subst e'
      obtain ⟨its, r, pl, hz⟩ := I.list hx
      have hlen := r.length
      exact wpAny_truthy_list pl.isList (by simp only [List.size_toArray]; omega) ⟨H, I.tok _, by rw [isEmpty_of r]; exact q⟩
    · subst e'
      obtain ⟨its, r, pl, hz⟩ := I.tuple hx
      have hlen := r.length
      exact truthy_tuple pl (by simp only [List.size_toArray]; omega) ⟨H, I.tok _, by rw [isEmpty_of r]; exact q⟩
    · subst e'
      obtain ⟨hz, hS, vs, r, m⟩ : kvs.length <= sizeLine /\ (p == sysModules) = false /\ ∃ vs, KV kvs vs /\ s.heap.DictOf (mixKind X.prog X.w) p vs := I.hok p _ hx
      have hlen : kvs.length = vs.length := Paired.length r
      exact wpAny_truthy_dict hS m (by omega) ⟨H, I.tok _, by rw [isEmpty_kv r]; exact q⟩
  | _ => exact (show False from e).elim
theorem pt_truth (ha : PE X a ta) (he : ∀ whole, isTrue a X.env whole = (do let v <- whole; standAt a.pos; holding [v] (truthy v))) :
  PT X a (fun σ H Q => ta σ H fun x H' => ∃ k, TruV X.K x H' k /\ Q k H') := by
 intro pins s σ H Q I h
 exact isTrue_plain (thn (ha pins s σ H _ I h) fun v s1 ⟨x, H1, I1, r1, q1⟩ => tru_ok pins s1 σ H1 x v Q I1 r1 q1) (he _)
theorem vals1 {x : V} {us : List Value} (r : Vals [x] us) : ∃ u, us = [u] /\ RelV x u := by
 cases r with
 | cons r1 r2 => cases r2; exact ⟨_, rfl, r1⟩
theorem vals2 {x y : V} {us : List Value} (r : Vals [x, y] us) : ∃ u w', us = [u, w'] /\ RelV x u /\ RelV y w' := by
  cases r with
  | cons r1 r2 =>
    cases r2 with
    | cons r3 r4 => cases r4; exact ⟨_, _, rfl, r1, r3⟩
theorem call_abs : CallR X (.builtin "abs") (fun xs H Q => ∃ i, xs = [.int i] /\ Q (.int (if i < 0 then -i else i)) H) := by
 intro pins s σ H xs us Q I r h
 obtain ⟨i, rfl, q⟩ := h
 obtain ⟨u, rfl, t, rfl⟩ := vals1 r
 exact call_abs_int fun u tk => ⟨.int (if i < 0 then -i else i), H, I.tok _, ⟨_, rfl⟩, q⟩
theorem call_min2 (hc : X.calm = true) : CallR X (.builtin "min") (fun xs H Q => ∃ i j, xs = [.int i, .int j] /\ Q (.int (if j < i then j else i)) H) := by
 intro pins s σ H xs us Q I r h
 obtain ⟨i, j, rfl, q⟩ := h
 obtain ⟨u, w', rfl, ⟨t, rfl⟩, ⟨t', rfl⟩⟩ := vals2 r
 refine min_two_ints (I.ok.hd hc) fun h' tk k => ⟨_, H, I.kept k, ?_, q⟩
 by_cases hj : j < i
 ·rw [if_pos hj, if_pos hj]; exact ⟨_, rfl⟩
 ·rw [if_neg hj, if_neg hj]; exact ⟨_, rfl⟩
theorem call_int1 : CallR X (.type "int") (fun xs H Q => (∃ i, xs = [.int i] /\ Q (.int i) H) \/ ∃ k, xs = [.bl k] /\ Q (.int (if k then 1 else 0)) H) := by
 intro pins s σ H xs us Q I r h
 rcases h with ⟨i, rfl, q⟩ | ⟨k, rfl, q⟩
 ·obtain ⟨u, rfl, t, rfl⟩ := vals1 r
  exact call_int_int ⟨.int i, H, I, ⟨_, rfl⟩, q⟩
 ·obtain ⟨u, rfl, r1⟩ := vals1 r
  cases r1
  exact call_int_bool ⟨.int (if k then 1 else 0), H, I.tok _, ⟨_, rfl⟩, q⟩
end
structure ObjM (h : Heap) (x dx C : Addr) (mA : Str -> Option Value) : Prop where
 obj : h.get? x = some (PySem.W.instObj C dx)
 ns : h.Ns1 dx mA
 ne : dx ≠ x
theorem lookIn_ns {h : Heap} {dx : Addr} {mA : Str -> Option Value} (n : h.Ns1 dx mA) : ∃ od, h.get? dx = some od /\ ∀ name, PySem.W.lookIn name od = some (mA name) := by
 obtain ⟨o, es, ep, ho, hd, hk, _, hm⟩ := n
 refine ⟨o, ho, fun name => ?_⟩
 have e := hm name
 unfold nsFind findBy at e
 rw [<- Array.find?_toList] at e
 unfold PySem.W.lookIn
 rw [hd]
 dsimp only
 split
 ·rename_i y q
  rw [q] at e
  exact congrArg some e
 ·rename_i q
  rw [q] at e
  have a : es.toList.any (·.refKey) = false := by
   rw [List.any_eq_false]
   intro y hy
   obtain ⟨z, t, hkey⟩ := hk y (Array.mem_toList_iff.mp hy)
   simp [DictEntry.refKey, hkey]
  have a' : ¬ es.toList.any (·.refKey) = true := by rw [a]; exact Bool.false_ne_true
  rw [if_neg a']
  exact congrArg some e
theorem ObjM.look {h : Heap} {x dx C : Addr} {mA : Str -> Option Value} (I : ObjM h x dx C mA) : ∃ od, PySem.W.InstAt h x (PySem.W.instObj C dx) C (some od) /\ ∀ name, PySem.W.lookIn name od = some (mA name) :=
 let ⟨od, ho, hl⟩ := lookIn_ns I.ns
 ⟨od, ⟨I.obj, rfl, rfl, ho⟩, hl⟩
theorem RelO.some_of {v : V} {o : Option Value} (r : RelO (some v) o) : ∃ u, o = some u /\ RelV v u := by
 cases o with
 | none => exact (show False from r).elim
 | some u => exact ⟨u, rfl, r⟩
section
variable {P : Program} {w : World} {H H' : Hp} {h h' : Heap} {a C dx : Addr} {fs fs' : List (Str × V)}
theorem ins_get (hok : HOk P w H h) (e : H a = some (.ins C dx fs)) : ∃ mA, ObjM h a dx C mA /\ (∀ f, RelO (fs.lookup f) (mA f)) /\ PySem.Within mA (fs.map (·.1)) /\ fs.length <= 1000 /\ H dx = some (.own a) := by
 obtain ⟨d, z, ne, ob, mA, n, r, q⟩ := (show ObjOk P w H h a (.ins C dx fs) from hok a _ e)
 exact ⟨mA, ⟨ob, n, ne⟩, r, q, z, d⟩
end
structure Cls (K : PySem.W.Frag) (C : Addr) : Prop where
 pg : PySem.W.plainGet K C Str.empty = true
 hd : PySem.W.hasDictIn K C = true
 po : PySem.W.plainOver K C = true
 sa : PySem.W.findIn K (.ref C) "__setattr__" = some (some (.builtin "object.__setattr__"))
theorem Cls.get {K : PySem.W.Frag} {C : Addr} (c : Cls K C) (f : Str) : PySem.W.plainGet K C f = true := c.pg
section
variable {X : Cx} {pins : List (Addr × Obj)} {σ : St} {H : Hp} {s : Shared} {A : Around} {E : Value -> Shared -> Prop} {Q : Value -> Shared -> Prop} {c : Value} {b : Bool}
inductive TyOf (K : PySem.W.Frag) (H : Hp) : V -> Value -> Prop where
 | non : TyOf K H .non (.type "NoneType")
 | bl (x : Bool) : TyOf K H (.bl x) (.type "bool")
 | int (i : Int) : TyOf K H (.int i) (.type "int")
 | str (x : Str) : TyOf K H (.str x) (.type "str")
 | flt (x : UInt64) : TyOf K H (.flt x) (.type "float")
 | lst {a : Addr} {xs : List V} (e : H a = some (.lst xs)) : TyOf K H (.ref a) (.type "list")
 | frz {a : Addr} {o : Obj} {xs : List V} (e : H a = some (.frz o (.lst xs))) : TyOf K H (.ref a) (.type "list")
 | tup {a : Addr} {xs : List V} (e : H a = some (.tup xs)) : TyOf K H (.ref a) (.type "tuple")
 | dK {a : Addr} {kvs : List (Key × V)} (e : H a = some (.dK kvs)) : TyOf K H (.ref a) (.type "dict")
 | dT {a : Addr} {kvs : List (List Key × V)} (e : H a = some (.dT kvs)) : TyOf K H (.ref a) (.type "dict")
 | fzd {a : Addr} {o : Obj} {kvs : List (Key × V)} (e : H a = some (.frz o (.dK kvs))) : TyOf K H (.ref a) (.type "dict")
 | ins {a C dx : Addr} {fs : List (Str × V)} (e : H a = some (.ins C dx fs)) (cl : Cls K C) (ha : PySem.W.findIn K (.ref C) "__class__" = some (some (.builtin "object.__class__")))
   (hn : PySem.W.specialIn K (.builtin "object.__class__") "__get__" = some (some (.builtin "getset_descriptor.__get__"))) (htk : PySem.W.takesIn K (.builtin "object.__class__") = some true)
   (hm : PySem.W.mroIn K C (.type "object") = some true) : TyOf K H (.ref a) (.ref C)
theorem isinst_ok {x : V} {u t : Value} (I : Inv X pins σ H s) (rx : RelV x u) (ty : TyOf X.K H x t) (e : PySem.W.kitOne X.K t c = some b) (h : ∀ tk, Q (.bool b) { s with toks := tk }) :
    wpAny (model X.prog X.w) A (call (.builtin "isinstance") [u, c]) Q E s := by
  cases ty with
  | non => cases (show u = Value.none from rx); exact PySem.W.kia_one PySem.W.kitx_none I.kIn True.intro e (fun z => nomatch z) h
  | bl y => cases (show u = Value.bool y from rx); exact PySem.W.kia_one PySem.W.kitx_bool I.kIn True.intro e (fun z => nomatch z) h
  | int i => obtain ⟨t, q⟩ := (show ∃ t, u = Value.int i t from rx); cases q; exact PySem.W.kia_one PySem.W.kitx_int I.kIn True.intro e (fun z => nomatch z) h
  | str y => obtain ⟨t, q⟩ := (show ∃ t, u = Value.str y t from rx); cases q; exact PySem.W.kia_one PySem.W.kitx_str I.kIn True.intro e (fun z => nomatch z) h
  | flt y => obtain ⟨t, q⟩ := (show ∃ t, u = Value.float y t from rx); cases q; exact PySem.W.kia_one PySem.W.kitx_float I.kIn True.intro e (fun z => nomatch z) h
  | @lst a xs ea =>
    cases (show u = Value.ref a from rx)
    obtain ⟨_, _, n, _, h1⟩ := (show ObjOk X.prog X.w H s.heap a (.lst xs) from I.hok a _ ea)
    exact PySem.W.kia_one PySem.W.kitx_list I.kIn ⟨_, h1, rfl⟩ e (fun z => nomatch z) h
  | @frz a ob xs ea =>
    cases (show u = Value.ref a from rx)
    obtain ⟨_, _, _, n, _, h1⟩ := (show ObjOk X.prog X.w H s.heap a (.frz ob (.lst xs)) from I.hok a _ ea)
    exact PySem.W.kia_one PySem.W.kitx_list I.kIn ⟨_, h1, rfl⟩ e (fun z => nomatch z) h
  | @tup a xs ea =>
    cases (show u = Value.ref a from rx)
    obtain ⟨_, _, _, p⟩ := (show ObjOk X.prog X.w H s.heap a (.tup xs) from I.hok a _ ea)
    obtain ⟨o, h1, h2, _⟩ := p
    exact PySem.W.kia_one PySem.W.kitx_tuple I.kIn ⟨o, h1, h2⟩ e (fun z => nomatch z) h
  | @dK a kvs ea =>
    cases (show u = Value.ref a from rx)
    obtain ⟨_, _, vs, _, p⟩ := (show ObjOk X.prog X.w H s.heap a (.dK kvs) from I.hok a _ ea)
    obtain ⟨o, es, ep, h1, h2, _⟩ := p
    exact PySem.W.kia_one PySem.W.kitx_dict I.kIn ⟨o, h1, h2.1⟩ e (fun z => nomatch z) h
  | @dT a kvs ea =>
    cases (show u = Value.ref a from rx)
    obtain ⟨_, _, xs, _, o, es, ep, h1, h2, _⟩ := (show ObjOk X.prog X.w H s.heap a (.dT kvs) from I.hok a _ ea)
    exact PySem.W.kia_one PySem.W.kitx_dict I.kIn ⟨o, h1, h2.1⟩ e (fun z => nomatch z) h
  | @fzd a ob kvs ea =>
    cases (show u = Value.ref a from rx)
    obtain ⟨_, _, _, vs, _, o, es, ep, h1, h2, _⟩ := I.hok a _ ea
    exact PySem.W.kia_one PySem.W.kitx_dict I.kIn ⟨o, h1, h2.1⟩ e (fun z => nomatch z) h
  | @ins a C dx fs ea cl ha hn htk hm =>
    cases (show u = Value.ref a from rx)
    obtain ⟨mA, O, _⟩ := ins_get I.hok ea
    obtain ⟨od, J, _⟩ := O.look
    exact PySem.W.kia_one (PySem.W.kitx_own (cl.get _) cl.hd ha hn htk hm) I.kIn J e (fun z => nomatch z) h
end
structure Room (k : Nat) (A : Around) : Prop where
 hd : A.handled = none
 dp : A.depth + 3 * k + 5 < recursionLimit
 un : A.units + 16 * k + 200 < cLine
theorem Room.mono {j k : Nat} {A : Around} (r : Room k A) (h : j <= k) : Room j A := ⟨r.hd, by have := r.dp; omega, by have := r.un; omega⟩
theorem Room.deeper {k : Nat} {A : Around} (r : Room (k + 1) A) (env : Env) : Room k (A.deeper env) :=
 ⟨r.hd, by have := r.dp; show A.depth + 1 + 3 * k + 5 < _; omega, by have := r.un; show A.units + 3 + 16 * k + 200 < _; omega⟩
theorem Room.depth {k : Nat} {A : Around} (r : Room k A) : A.depth < recursionLimit := by have := r.dp; omega
theorem Room.units {k : Nat} {A : Around} (r : Room k A) : A.units + 64 < cLine := by have := r.un; omega
def tNil : TA := fun _ H Q => Q [] H
def tCons (ta : TE) (tr : TA) : TA := fun σ H Q => ta σ H fun x H1 => tr σ H1 fun xs H2 => Q (x :: xs) H2
section
variable {X : Cx} {e : Expr} {es : List Expr} {te : TE} {t : TA} {pos : Pos}
theorem pa_nil : PA X [] tNil := fun _ _ _ _ H Q I h => Calls.spliced_nil ⟨[], H, I, .nil, h⟩
theorem pa_cons (ha : PE X e te) (hr : PA X es t) (hs : starEach (e :: es) X.env = (false, eval e X.env) :: starEach es X.env := by rfl) : PA X (e :: es) (tCons te t) := by
 intro pos pins s σ H Q I h
 rw [hs]
 show wpAny _ _ (spliced ((false, eval e X.env) :: backTo pos (starEach es X.env))) _ _ s
 refine Calls.spliced_cons (thn (ha pins s σ H _ I h) fun u s1 ⟨x, H1, I1, r1, q1⟩ => ?_)
 exact thn (hr pos pins s1 σ H1 _ I1 q1) fun us s2 ⟨xs, H2, I2, r2, q2⟩ => ⟨x :: xs, H2, I2, .cons r1 r2, q2⟩
def tTup (t : TA) : TE := fun σ H Q => t σ H fun xs H1 => xs.length <= sizeLine /\ ∀ p, H1 p = none -> Q (.ref p) (upd H1 p (.tup xs))
def tLst (t : TA) : TE := fun σ H Q => t σ H fun xs H1 => xs.length <= sizeLine /\ ∀ p, H1 p = none -> Q (.ref p) (upd H1 p (.lst xs))
theorem pe_tup {x1} (h : PA X es t) : PE X (.Tuple es x1 pos) (tTup t) := by
 intro pins s σ H Q I hq
 refine wpAny_Tuple_spliced (thn (h pos pins s σ H _ I hq) fun us s1 ⟨xs, H1, I1, r, z, q⟩ => ⟨by rw [<- r.length]; exact z, ?_⟩)
 have hf : H1 s1.heap.objs.size = none := I1.hok.fresh (Nat.le_refl _)
 refine ⟨.ref s1.heap.objs.size, upd H1 s1.heap.objs.size (.tup xs), I1.laid (t' := s1.toks) (fun b u e => Heap.get?_push_of_some _ e) (Nat.le_refl _) ?_, rfl, q _ hf⟩
 exact ⟨z, us, r, ⟨_, Heap.get?_push_size _ rfl, rfl, _, rfl⟩⟩
theorem pe_lst (h : PA X es t) : PE X (.List es pos) (tLst t) := by
 intro pins s σ H Q I hq
 refine wpAny_List_spliced (thn (h pos pins s σ H _ I hq) fun us s1 ⟨xs, H1, I1, r, z, q⟩ => ⟨by rw [<- r.length]; exact z, ?_⟩)
 have hf : H1 s1.heap.objs.size = none := I1.hok.fresh (Nat.le_refl _)
 refine ⟨.ref s1.heap.objs.size, upd H1 s1.heap.objs.size (.lst xs), I1.laid (t' := s1.toks) (fun b u e => Heap.get?_push_of_some _ e) (Nat.le_refl _) ?_, rfl, q _ hf⟩
 exact ⟨z, us, 0, r, Heap.get?_push_size _ rfl⟩
end
abbrev Sp := List V -> Hp -> VK -> XK -> Prop
abbrev CXT := List Env -> Hp -> Shared -> XK -> Value -> Shared -> Prop
structure Env0 (P : Program) (w : World) (K : PySem.W.Frag) (mg : Str -> Option Value) (base : Heap) (A : Around) (outer : List Env) (s : Shared) (H : Hp) : Prop where
 frames : A.frames = some outer
 mod : Mod K mg base
 bs : ∀ b o, base.get? b = some o -> s.heap.get? b = some o /\ H b = none
 bsz : base.objs.size <= s.heap.objs.size
 funs : s.heap.FunFrames base outer
 frf : ∀ b ∈ frs outer, H b = none
 hok : HOk P w H s.heap
 bare : AllBare s.gens
def CE (outer : List Env) (P : Program) (w : World) (H : Hp) (s : Shared) (Q : VK) (u : Value) (s' : Shared) : Prop :=
 ∃ v H', s'.os = s.os /\ AllBare s'.gens /\ Un (frs outer) [] H H' s.heap s'.heap /\ HOk P w H' s'.heap /\ RelV v u /\ Q v H'
def CR (CX : CXT) (outer : List Env) (P : Program) (w : World) (H : Hp) (s : Shared) (Q : VK) (E : XK) (r : Result) (s' : Shared) : Prop :=
 match r with
 | .ok (.ret u) => CE outer P w H s Q u s'
 | .ok _ => False
 | .error e => CX outer H s E e s'
structure FnOk (P : Program) (w : World) (K : PySem.W.Frag) (mg : Str -> Option Value) (base : Heap) (CX : CXT) (k : Nat) (f : Addr) (fd : FuncData) (ps : List Str) (sp : Sp) : Prop where
 len : ∀ vs H Q E, sp vs H Q E -> vs.length = ps.length
 run : ∀ (A : Around) (outer : List Env) (s : Shared) (H : Hp) (args : Args) (us : List Value) (vs : List V) (Q : VK) (E : XK), Room k A -> Env0 P w K mg base A outer s H -> BindsTo s fd args (ps.zip us) -> Vals vs us -> sp vs H Q E ->
  codeAny (model P w) A (.call (.ref f) args) (CR CX outer P w H s Q E) s
section
variable {X : Cx} {pins : List (Addr × Obj)} {σ : St} {H : Hp} {s s' : Shared}
theorem Inv.env0 (I : Inv X pins σ H s) : Env0 X.prog X.w X.K X.mg X.base X.A X.stack s H :=
 ⟨I.ok.frames, I.ok.mod, I.bs, Nat.le_trans I.ok.bsz I.sz, I.stack, I.stkFree, I.hok, I.bare⟩
theorem Inv.after {Q : VK} {u : Value} (I : Inv X pins σ H s) (h : CE X.stack X.prog X.w H s Q u s') : EP X pins σ Q u s' := by
 obtain ⟨v, H', os, bare, un, hok, r, q⟩ := h
 obtain ⟨hh, g, d, t, os'⟩ := s'
 obtain rfl : os' = s.os := os
 exact ⟨v, H', I.call (h' := hh) (g' := g) (d' := d) (t' := t) (ch := []) un hok bare (fun b z => absurd z (by simp)), r, q⟩
end
def tCall (sp : Sp) (dvs : List V) (E : XK) (t : TA) : TE := fun σ H Q => t σ H fun vs H1 => sp (vs ++ dvs) H1 Q E
def Binds (K : PySem.W.Frag) (fd : FuncData) (ps : List Str) (ds : List Value) : Prop :=
 ∀ (s : Shared) (us : List Value), K.In s.heap -> (us ++ ds).length = ps.length -> BindsTo s fd ⟨us, []⟩ (ps.zip (us ++ ds))
theorem Binds.all {K : PySem.W.Frag} {fd : FuncData} {ps : List Str} (h : ∀ us : List Value, us.length = ps.length -> bindArgs fd ⟨us, []⟩ = pure (ps.zip us)) : Binds K fd ps [] := fun s us _ hl => by
 rw [List.append_nil] at hl ⊢
 exact .of_eq (h us hl)
def Passes (CX : CXT) (X : Cx) (E : XK) : Prop := ∀ (pins : List (Addr × Obj)) (σ : St) (H : Hp) (s : Shared) (e : Value) (s' : Shared), Inv X pins σ H s -> CX X.stack H s E e s' -> X.xe e s'
section
variable {X : Cx} {CX : CXT} {k : Nat} {f C : Addr} {fd : FuncData} {ps : List Str} {sp : Sp} {dvs : List V} {ds : List Value} {E : XK} {x m : Str} {p pos apos : Pos} {e o : Expr} {es : List Expr} {ta : TE} {t : TA}
theorem run_fn {pins : List (Addr × Obj)} {σ : St} {H : Hp} {s : Shared} {Q : VK} {us : List Value} {vs : List V} (F : FnOk X.prog X.w X.K X.mg X.base CX k f fd ps sp) (hr : Room k X.A) (hb : Binds X.K fd ps ds) (hd : Vals dvs ds) (hx : Passes CX X E)
    (I : Inv X pins σ H s) (r : Vals vs us) (h : sp (vs ++ dvs) H Q E) : wpAny (model X.prog X.w) X.A (call (.ref f) us) (EP X pins σ Q) X.xe s := by
  have r2 : Vals (vs ++ dvs) (us ++ ds) := r.append hd
  have hl : (us ++ ds).length = ps.length := by rw [<- r2.length]; exact F.len _ _ _ _ h
  refine wpAny_call (codeAny_mono (F.run X.A X.stack s H ⟨us, []⟩ (us ++ ds) (vs ++ dvs) Q E hr I.env0 (hb s us I.kIn hl) r2 h) fun r s' hq => ?_)
  cases r with
  | error e => exact hx pins σ H s e s' I hq
  | ok fl =>
    cases fl with
    | ret u => exact I.after hq
    | next => exact False.elim hq
    | brk => exact False.elim hq
    | cont => exact False.elim hq
theorem pe_call (F : FnOk X.prog X.w X.K X.mg X.base CX k f fd ps sp) (hr : Room k X.A) (hg : Gl X x) (hm : X.mg x = some (.ref f)) (hk : PySem.W.keepIn X.K (.ref f) = true) (hb : Binds X.K fd ps ds) (hd : Vals dvs ds) (hx : Passes CX X E)
  (ha : PA X (e :: es) t) (hdb : (x == ("__debug__" : Str)) = false := by decide) (he : starEach (e :: es) X.env = (false, eval e X.env) :: starEach es X.env := by rfl) (hpl : (backTo pos (starEach es X.env)).any (·.1) = false := by rfl) :
  PE X (.Call (.Name x p) (e :: es) [] pos) (tCall sp dvs E t) := by
 intro pins s σ H Q I h
 refine wpAny_Call_Name_kw (ld_glob I hg hm ?_ hdb)
 refine PySem.W.callWith_K (h₀ := X.base) I.ok.mod.kin hk (thn (ha pos pins s σ H _ I h) fun us s1 ⟨vs, H1, I1, r, q⟩ => ⟨I1.kIn, ?_⟩) he hpl
 exact run_fn F hr hb hd hx I1 r q
end
structure FnScope (N P : List Str) (sc : Scope) : Prop where
 kind : sc.kind = .function
 co : sc.isCoroutine = false
 gen : sc.isGenerator = false
 nd : N.Nodup
 pre : N.take P.length = P
 par : ∀ x ∈ P, sc.names.lookup x = some .local \/ sc.names.lookup x = some .cell
 nofree : ∀ y ∈ sc.names, y.2 ≠ .free
theorem bindL_out {kindOf : Str -> Option NameKind} {x : Str} : ∀ {binds : List (Str × Value)} {m : Str -> Option Value}, (∀ v, (x, v) ∉ binds) -> bindL kindOf binds m x = m x
  | [], _, _ => rfl
  | (n, v) :: r, m, h => by
    unfold bindL
    rw [bindL_out fun w hw => h w (List.mem_cons_of_mem _ hw)]
    split
    · have : x ≠ n := by rintro rfl; exact h v List.mem_cons_self
      simp [this]
    · rfl
theorem bindC_out {kindOf : Str -> Option NameKind} {x : Str} : ∀ {binds : List (Str × Value)} {m : Str -> Option Value}, (∀ v, (x, v) ∉ binds) -> bindC kindOf binds m x = m x
  | [], _, _ => rfl
  | (n, v) :: r, m, h => by
    unfold bindC
    rw [bindC_out fun w hw => h w (List.mem_cons_of_mem _ hw)]
    split
    · rfl
    · have : x ≠ n := by rintro rfl; exact h v List.mem_cons_self
      simp [this]
theorem bindL_get {kindOf : Str -> Option NameKind} {x : Str} {v : Value} : ∀ {P : List Str} {vs : List Value} {i : Nat} {m : Str -> Option Value}, P.Nodup -> P[i]? = some x -> vs[i]? = some v -> kindOf x = some .local ->
    bindL kindOf (P.zip vs) m x = some v
  | [], _, _, _, _, h, _, _ => by simp at h
  | _ :: _, [], _, _, _, _, h, _ => by simp at h
  | p :: P, w :: vs, 0, m, nd, h1, h2, hk => by
    simp at h1 h2; subst h1; subst h2
    show bindL kindOf ((p, w) :: P.zip vs) m p = _
    unfold bindL
    rw [bindL_out fun v hv => (List.nodup_cons.mp nd).1 (List.of_mem_zip hv).1, if_pos hk]
    simp
  | p :: P, w :: vs, i + 1, m, nd, h1, h2, hk => by
    show bindL kindOf ((p, w) :: P.zip vs) m x = _
    unfold bindL
    exact bindL_get (i := i) (List.nodup_cons.mp nd).2 (by simpa using h1) (by simpa using h2) hk
theorem bindC_get {kindOf : Str -> Option NameKind} {x : Str} {v : Value} : ∀ {P : List Str} {vs : List Value} {i : Nat} {m : Str -> Option Value}, P.Nodup -> P[i]? = some x -> vs[i]? = some v -> kindOf x ≠ some .local ->
    bindC kindOf (P.zip vs) m x = some v
  | [], _, _, _, _, h, _, _ => by simp at h
  | _ :: _, [], _, _, _, _, h, _ => by simp at h
  | p :: P, w :: vs, 0, m, nd, h1, h2, hk => by
    simp at h1 h2; subst h1; subst h2
    show bindC kindOf ((p, w) :: P.zip vs) m p = _
    unfold bindC
    rw [bindC_out fun v hv => (List.nodup_cons.mp nd).1 (List.of_mem_zip hv).1, if_neg hk]
    simp
  | p :: P, w :: vs, i + 1, m, nd, h1, h2, hk => by
    show bindC kindOf ((p, w) :: P.zip vs) m x = _
    unfold bindC
    exact bindC_get (i := i) (List.nodup_cons.mp nd).2 (by simpa using h1) (by simpa using h2) hk
def start (N : List Str) (vs : List V) : St := vs.map some ++ List.replicate (N.length - vs.length) none
def cxOf (CX : CXT) (P : Program) (w : World) (K : PySem.W.Frag) (mg : Str -> Option Value) (base : Heap) (N : List Str) (qual : Str) (scope : Scope) (f : Addr) (cd : Value) (A : Around) (outer : List Env) (s : Shared) (H : Hp) (E : XK) : Cx where
 prog := P
 w := w
 K := K
 mg := mg
 base := base
 A := A.deeper (envOfC qual scope s.heap.objs.size f cd)
 N := N
 s₀ := s
 H₀ := H
 env := envOfC qual scope s.heap.objs.size f cd
 outer := outer
 stack := envOfC qual scope s.heap.objs.size f cd :: outer
 ex := []
 calm := true
 fn := fun _ => true
 pn := []
 xe := fun e s' => wpAny (model P w) (A.deeper (envOfC qual scope s.heap.objs.size f cd)) (leaving (envOfC qual scope s.heap.objs.size f cd) e) (fun _ s'' => CX outer H s E e s'') (fun e' s'' => CX outer H s E e' s'') s'
theorem cell_has {sc : Scope} {n : Nat} {x : Str} (h : sc.names.lookup x = some .cell) : ∃ c, (cellsFrom n sc.names []).lookup x = some c := by
 have q := PySem.W.cellsFrom_some sc.names n [] (.inl h)
 exact Option.isSome_iff_exists.mp q
theorem inv_start {CX : CXT} {P : Program} {w : World} {K : PySem.W.Frag} {mg : Str -> Option Value} {base : Heap} {N ps : List Str} {qual : Str} {scope : Scope} {f : Addr} {cd : Value} {A : Around} {outer : List Env} {s s1 : Shared} {H : Hp} {E : XK} {us : List Value} {vs : List V}
  (S : FnScope N ps scope) (hd : A.handled = none) (e0 : Env0 P w K mg base A outer s H) (hl : vs.length = ps.length) (r : Vals vs us)
  (x : InCallC s s.heap.objs.size (bindL (envOfC qual scope s.heap.objs.size f cd).kindOf (ps.zip us) fun _ => none) (cellsFrom (s.heap.objs.size + 1) scope.names []) (bindC (envOfC qual scope s.heap.objs.size f cd).kindOf (ps.zip us) fun _ => none) s1) :
  Inv (cxOf CX P w K mg base N qual scope f cd A outer s H E) [] (start N vs) H s1 := by
 have hpl : ps.length <= N.length := by have := congrArg List.length S.pre; rw [List.length_take] at this; omega
 obtain ⟨h1, tk, rfl, hk⟩ := x.done
 have noA : ∀ b : Addr, b ∉ (cxOf CX P w K mg base N qual scope f cd A outer s H E).ex := fun b z => absurd (show b ∈ ([] : List Addr) from z) (by simp)
 refine ⟨⟨e0.mod, S.kind, rfl, rfl, Nat.le_refl _, fun y z c h1 h2 => ?_, fun y hy => ?_, fun y c _ h => ?_, fun _ => hd, Around.frames_deeper e0.frames, .inr ⟨rfl, rfl⟩, fun b z => absurd z (noA b), e0.bs, e0.bsz, fun b _ _ => noA b, fun b z => absurd z (noA b), e0.funs, e0.frf⟩,
  rfl, e0.bare, Un.kept hk, ⟨_, x.toInCall.ns, fun i y v h1 h2 h3 => ?_⟩, fun y c h => ⟨_, x.cell y c h⟩, e0.hok.fresh (Nat.le_refl _), fun y c h => ?_, fun p hp => absurd (show p ∈ ([] : List (Addr × Obj)) from hp) (by simp), e0.hok.kept hk, ?_⟩
 ·exact name_of_addr x.apart (PySem.mem_of_lookup h1) (PySem.mem_of_lookup h2)
 ·have hy : scope.names.lookup y = some .cell \/ scope.names.lookup y = some .free := hy
  rcases hy with hy | hy
  ·exact cell_has hy
  ·exact absurd rfl (S.nofree _ (PySem.mem_of_lookup hy))
 ·exact Nat.le_of_lt (x.above y c (PySem.mem_of_lookup h))
 ·have hi : i < vs.length := by
   unfold start at h2
   by_cases hi : i < vs.length
   ·exact hi
   ·rw [List.getElem?_append_right (by simpa using hi)] at h2
    rw [List.getElem?_replicate] at h2
    split at h2 <;> cases h2
  have ha : vs[i]? = some v := by
   unfold start at h2
   rw [List.getElem?_append_left (by simpa using hi), List.getElem?_map] at h2
   cases e : vs[i]? with
   | none => rw [e] at h2; cases h2
   | some a => rw [e] at h2; cases h2; rfl
  obtain ⟨u, hu, rv⟩ := r.get ha
  have hp : ps[i]? = some y := by
   rw [<- S.pre, List.getElem?_take_of_lt (by omega)]; exact h1
  have ndP : ps.Nodup := by rw [<- S.pre]; exact S.nd.sublist (List.take_sublist _ _)
  refine ⟨u, rv, ?_⟩
  rcases S.par y (List.mem_of_getElem? hp) with k | k
  ·exact .inl ⟨k, bindL_get ndP hp hu k⟩
  ·obtain ⟨c, e⟩ := cell_has (n := s.heap.objs.size + 1) k
   refine .inr ⟨.inl k, c, e, ?_⟩
   have q := x.cell y c e
   rw [bindC_get ndP hp hu (by show scope.names.lookup y ≠ _; rw [k]; decide)] at q
   exact q
 ·exact e0.hok.fresh (Nat.le_of_lt (x.above y c (PySem.mem_of_lookup h)))
 ·unfold start
  show _ = N.length
  rw [List.length_append, List.length_map, List.length_replicate]
  omega
theorem fn_of {CX : CXT} {P : Program} {w : World} {K : PySem.W.Frag} {mg : Str -> Option Value} {base : Heap} {k : Nat} {f : Addr} {name qual : Str} {params : Arguments} {body : List Stmt} {scope : Scope} {dV kV doc pm cdv ct oc : Value} {an od : Option Addr}
    {osl : Array (Option Value)} {N ps : List Str} {sp : Sp} (lk : K.lookup f = some ⟨oc, od, .func (PySem.W.fnOf name qual params body scope dV kV doc pm an cdv ct), osl⟩) (hcd : PySem.W.codeIn K cdv qual = true) (S : FnScope N ps scope)
    (len : ∀ vs H Q E, sp vs H Q E -> vs.length = ps.length)
    (hbody : ∀ (A : Around) (outer : List Env) (s : Shared) (H : Hp) (vs : List V) (Q : VK) (E : XK), Room k (A.deeper (envOfC qual scope s.heap.objs.size f cdv)) -> sp vs H Q E ->
      ∃ t, PSs (cxOf CX P w K mg base N qual scope f cdv A outer s H E) body t /\ t { nx := fun _ H' => Q .non H', rt := Q } (start N vs) H) :
    FnOk P w K mg base CX (k + 1) f (PySem.W.fnOf name qual params body scope dV kV doc pm an cdv ct) ps sp := by
  refine ⟨len, fun A outer s H args us vs Q E hr e0 hb r hsp => ?_⟩
  have hl := len _ _ _ _ hsp
  have KX : K.In s.heap := e0.mod.kin.keeps fun b o e => (e0.bs b o e).1
  have lim : s.heap.NoLimit := e0.mod.nolimit.keeps fun b o e => (e0.bs b o e).1
  have hkind : ∀ y ∈ ps.zip us, scope.names.lookup y.1 = some .local \/ (scope.names.lookup y.1 = some .cell /\ ((cellsFrom (s.heap.objs.size + 1) scope.names []).lookup y.1).isSome = true) := fun ⟨n, v⟩ hy => by
    rcases S.par n (List.of_mem_zip hy).1 with q | q
    · exact .inl q
    · exact .inr ⟨q, PySem.W.cellsFrom_some _ _ _ (.inl q)⟩
  refine codeAny_call_function hr.depth (KX _ _ lk) rfl S.co S.gen rfl (PySem.W.codeRec_of KX hcd) (hb _ _ _ _ ?_)
  refine wpAny_newFunctionEnv_cells S.kind hkind fun env he s1 x => ?_
  subst he
  refine ⟨lim.keeps x.toInCall.keep, codeAny_func ?_⟩
  obtain ⟨t, ht, hq⟩ := hbody A outer s H vs Q E (hr.deeper _) hsp
  have I : Inv (cxOf CX P w K mg base N qual scope f cdv A outer s H E) [] (start N vs) H s1 := inv_start S hr.hd e0 hl r x
  refine wpAny_mono (ht [] s1 (start N vs) H _ I hq) (fun fl s' hs => ?_) fun e s' hs => hs
  have fin : ∀ {σ' : St} {H' : Hp} {v : V} {u : Value}, Inv (cxOf CX P w K mg base N qual scope f cdv A outer s H E) [] σ' H' s' -> RelV v u -> Q v H' -> CE outer P w H s Q u s' :=
    fun {σ' H' v u} J rv q => ⟨v, H', J.os, J.bare, J.base, J.hok, rv, q⟩
  cases fl with
  | ret u =>
    obtain ⟨v, σ', H', J, rv, q⟩ := hs
    exact fin J rv q
  | next =>
    obtain ⟨σ', H', J, q⟩ := hs
    exact fin (v := V.non) (u := Value.none) J rfl q
  | brk =>
    obtain ⟨_, _, _, q⟩ := hs
    exact False.elim q
  | cont =>
    obtain ⟨_, _, _, q⟩ := hs
    exact False.elim q
section
variable {X : Cx} {x : Str} {p pos : Pos} {e : Expr} {es : List Expr} {t : TA} {id T : String} {r : List V -> Hp -> VK -> Prop}
def tCB (r : List V -> Hp -> VK -> Prop) (t : TA) : TE := fun σ H Q => t σ H fun vs H1 => r vs H1 Q
theorem pe_callB (hc : CallR X (.builtin id) r) (hg : Gl X x) (hm : X.mg x = none) (hv : bootBuiltins x = some (.builtin id)) (ha : PA X (e :: es) t) (hn : x ≠ "__name__" := by decide) (hdb : (x == ("__debug__" : Str)) = false := by decide)
  (he : starEach (e :: es) X.env = (false, eval e X.env) :: starEach es X.env := by rfl) (hpl : (backTo pos (starEach es X.env)).any (·.1) = false := by rfl) : PE X (.Call (.Name x p) (e :: es) [] pos) (tCB r t) := by
 intro pins s σ H Q I h
 refine wpAny_Call_Name_kw (ld_blt I hg hm hv ?_ hn hdb)
 exact PyProof.Rows.callWith_builtin1 (thn (ha pos pins s σ H _ I h) fun us s1 ⟨vs, H1, I1, r1, q1⟩ => hc pins s1 σ H1 vs us Q I1 r1 q1) he hpl
theorem pe_callTy (hc : CallR X (.type T) r) (hg : Gl X x) (hm : X.mg x = none) (hv : bootBuiltins x = some (.type T)) (ha : PA X (e :: es) t) (hn : x ≠ "__name__" := by decide) (hdb : (x == ("__debug__" : Str)) = false := by decide)
  (he : starEach (e :: es) X.env = (false, eval e X.env) :: starEach es X.env := by rfl) (hpl : (backTo pos (starEach es X.env)).any (·.1) = false := by rfl) : PE X (.Call (.Name x p) (e :: es) [] pos) (tCB r t) := by
 intro pins s σ H Q I h
 refine wpAny_Call_Name_kw (ld_blt I hg hm hv ?_ hn hdb)
 exact PyProof.Rows.callWith_type1 (thn (ha pos pins s σ H _ I h) fun us s1 ⟨vs, H1, I1, r1, q1⟩ => hc pins s1 σ H1 vs us Q I1 r1 q1) he hpl
end
end L2
namespace HT
open PySem PyProof.Rows
section
open PySem.SeqAt
open PySem.AutoSeq1 (wpAny_loadPart')
open PySem.MeetsSeq PySem.MeetsSeq2 PySem.MeetsSeq3
end
section
variable {prog : Program} {w : World} {A : Around} {E : Value -> Shared -> Prop} {s : Shared}
def sIx (n d : Nat) : Option Int -> Nat
 | none => d
 | some v => if v < 0 then (v + (n : Int)).toNat else min v.toNat n
end
end HT
namespace L2
open PySem PySem.Spec PyProof.Rows
abbrev TO := St -> Hp -> (Option Int -> Hp -> Prop) -> Prop
def PO (X : Cx) (e : Option Expr) (t : TO) : Prop :=
 ∀ (pins : List (Addr × Obj)) (s : Shared) (σ : St) (H : Hp) (Q : Option Int -> Hp -> Prop), Inv X pins σ H s -> t σ H Q ->
  wpAny (model X.prog X.w) X.A (evalPart e X.env) (fun u s' => ∃ o H', Inv X pins σ H' s' /\ IsPart u o /\ Q o H') X.xe s
def tNoPart : TO := fun _ H Q => Q none H
def tPart (t : TE) : TO := fun σ H Q => t σ H fun x H1 => ∃ i, x = .int i /\ Q (some i) H1
section
variable {X : Cx} {e : Expr} {te : TE} {lo hi : Option Expr} {tl th : TO} {pos p2 : Pos}
theorem po_none : PO X none tNoPart := by
 intro pins s σ H Q I h
 rw [evalPart_none]
 exact wpAny_pure ⟨none, H, I, .none, h⟩
theorem po_some (h : PE X e te) : PO X (some e) (tPart te) := by
 intro pins s σ H Q I hw
 rw [evalPart_some]
 refine thn (h pins s σ H _ I hw) fun u s1 ⟨x, H1, I1, r1, q1⟩ => ?_
 obtain ⟨i, rfl, q⟩ := q1
 obtain ⟨t, rfl⟩ := r1
 exact ⟨some i, H1, I1, .int i t, q⟩
def SlR (X : Cx) (r : V -> Option Int -> Option Int -> Hp -> VK -> Prop) : Prop :=
 ∀ (pins : List (Addr × Obj)) (s : Shared) (σ : St) (H : Hp) (x : V) (v vl vu : Value) (lo hi : Option Int) (sl : Addr) (Q : VK), Inv X pins σ H s -> RelV x v -> s.heap.IsSliceOf sl vl vu .none -> IsPart vl lo -> IsPart vu hi -> r x lo hi H Q ->
  ∃ T id, typeLookup (.type T) "__getitem__" = pure (some (.builtin id)) /\ s.TypeIs v T /\ wpAny (model X.prog X.w) X.A (getItem v (.ref sl)) (EP X pins σ Q) X.xe s
def tSl (r : V -> Option Int -> Option Int -> Hp -> VK -> Prop) (te : TE) (tl th : TO) : TE := fun σ H Q => te σ H fun x H1 => tl σ H1 fun l H2 => th σ H2 fun u H3 => r x l u H3 Q
theorem pe_slice {r : V -> Option Int -> Option Int -> Hp -> VK -> Prop} (hr : SlR X r) (he : PE X e te) (hl : PO X lo tl) (hu : PO X hi th) : PE X (.Subscript e (.Slice lo hi none p2) pos) (tSl r te tl th) := by
 intro pins s σ H Q I h
 refine Subscript_ (thn (he pins s σ H _ I h) fun v s1 ⟨x, H1, I1, r1, q1⟩ => ?_)
 refine wpAny_Slice (thn (hl pins s1 σ H1 _ I1 q1) fun vl s2 ⟨l, H2, I2, pl, q2⟩ => thn (hu pins s2 σ H2 _ I2 q2) fun vu s3 ⟨u, H3, I3, pu, q3⟩ => ?_)
 rw [evalPart_none]
 refine wpAny_pure ?_
 have I4 : Inv X pins σ H3 { s3 with heap := s3.heap.push { cls := .type "slice", data := .fields #[vl, vu, .none] } } := I3.kept (t' := s3.toks) fun b ob q => Heap.get?_push_of_some _ q
 obtain ⟨T, id, hT, ht, hg⟩ := hr pins { s3 with heap := s3.heap.push { cls := .type "slice", data := .fields #[vl, vu, .none] } } σ H3 x v vl vu l u s3.heap.objs.size Q I4 r1 (Heap.IsSliceOf.new ..) pl pu q3
 show wpAny (model X.prog X.w) X.A (subscriptTail e (.Slice lo hi none p2) v (.ref s3.heap.objs.size)) (EP X pins σ Q) X.xe { s3 with heap := s3.heap.push { cls := .type "slice", data := .fields #[vl, vu, .none] } }
 exact tail_any (ops := [.ref s3.heap.objs.size, v]) ht hT hg (by with_unfolding_all rfl)
def cutV (xs : List V) (lo hi : Option Int) : List V := (xs.drop (HT.sIx xs.length 0 lo)).take (HT.sIx xs.length xs.length hi - HT.sIx xs.length 0 lo)
theorem cutV_length (xs : List V) (lo hi : Option Int) : (cutV xs lo hi).length <= xs.length := by
 unfold cutV
 rw [List.length_take, List.length_drop]
 omega
end
def ixN (n : Nat) (i : Int) : Option Nat := if 0 <= i then (if i < n then some i.toNat else none) else if -(n : Int) <= i then some (i + n).toNat else none
def atI {α : Type} (xs : List α) (i : Int) : Option α := (ixN xs.length i).bind fun j => xs[j]?
theorem ixN_seq {n : Nat} {i : Int} {j : Nat} (h : ixN n i = some j) : seqIndex? i n = some j /\ j < n /\ -(n : Int) <= i /\ i < n := by
 unfold ixN at h
 by_cases h0 : 0 <= i
 ·rw [if_pos h0] at h
  by_cases h1 : i < n
  ·rw [if_pos h1] at h
   have e : i.toNat = j := Option.some.inj h
   exact ⟨by rw [seqIndex_of h0 h1, e], by omega, by omega, h1⟩
  ·rw [if_neg h1] at h; cases h
 ·rw [if_neg h0] at h
  by_cases h1 : -(n : Int) <= i
  ·rw [if_pos h1] at h
   have e : (i + n).toNat = j := Option.some.inj h
   exact ⟨by rw [seqIndex_neg (by omega) h1, e], by omega, h1, by omega⟩
  ·rw [if_neg h1] at h; cases h
theorem atI_get {α : Type} {xs : List α} {i : Int} {v : α} (h : atI xs i = some v) : ∃ j, seqIndex? i xs.length = some j /\ xs[j]? = some v /\ j < xs.length /\ -(xs.length : Int) <= i /\ i < xs.length := by
  unfold atI at h
  cases e : ixN xs.length i with
  | none => rw [e] at h; cases h
  | some j =>
    rw [e] at h
    obtain ⟨h1, h2, h3, h4⟩ := ixN_seq e
    exact ⟨j, h1, h, h2, h3, h4⟩
theorem atI_nat {α : Type} {xs : List α} {j : Nat} {v : α} (h : xs[j]? = some v) : atI xs (j : Int) = some v := by
 have hj : j < xs.length := (List.getElem?_eq_some_iff.mp h).1
 have e : ixN xs.length (j : Int) = some j := by
  unfold ixN
  rw [if_pos (by omega), if_pos (by omega)]; simp
 unfold atI; rw [e]; exact h
def PlainIx (b : Expr) : Prop := ∀ o i, subscripted b false o i = operate [o, i] (getItem o i)
def IxR (X : Cx) (r : R2) : Prop :=
 ∀ (value slice : Expr) (pins : List (Addr × Obj)) (s : Shared) (σ : St) (H : Hp) (x y : V) (v u : Value) (Q : VK), Inv X pins σ H s -> RelV x v -> RelV y u -> r x y H Q ->
  subscripted slice false v u = operate [v, u] (getItem v u) -> wpAny (model X.prog X.w) X.A (subscriptTail value slice v u) (EP X pins σ Q) X.xe s
def MtR (X : Cx) (id : String) (r : V -> List V -> Hp -> VK -> Prop) : Prop :=
 ∀ (pins : List (Addr × Obj)) (s : Shared) (σ : St) (H : Hp) (x : V) (xs : List V) (v : Value) (us : List Value) (Q : VK), Inv X pins σ H s -> RelV x v -> Vals xs us -> r x xs H Q ->
  wpAny (model X.prog X.w) X.A (call (.builtin id) (v :: us)) (EP X pins σ Q) X.xe s
section
variable {X : Cx} {a b : Expr} {ta tb : TE} {pos : Pos}
theorem IxR.or {r r' : R2} (h : IxR X r) (h' : IxR X r') : IxR X (fun x y H Q => r x y H Q \/ r' x y H Q) := by
 intro value slice pins s σ H x y v u Q I rx ry q hs
 rcases q with q | q
 ·exact h value slice pins s σ H x y v u Q I rx ry q hs
 ·exact h' value slice pins s σ H x y v u Q I rx ry q hs
theorem pe_ix {r : R2} (hr : IxR X r) (ha : PE X a ta) (hb : PE X b tb) (hs : PlainIx b) : PE X (.Subscript a b pos) (tOp r ta tb) := by
 intro pins s σ H Q I h
 exact Subscript_ (binT ha hb I h fun v u s2 x y H2 I2 rx ry q => hr a b pins s2 σ H2 x y v u Q I2 rx ry q (hs _ _))
def rIxL (K : PySem.W.Frag) : R2 := fun x y H Q => ∃ p xs i v, x = .ref p /\ y = .int i /\ SqL K H p xs /\ atI xs i = some v /\ Q v H
def rIxT (K : PySem.W.Frag) : R2 := fun x y H Q => ∃ p xs i v, x = .ref p /\ y = .int i /\ SqT K H p xs /\ atI xs i = some v /\ Q v H
def rIxS : R2 := fun x y H Q => ∃ z i c, x = .str z /\ y = .int i /\ z.length <= sizeLine /\ atI z.cps.toList i = some c /\ Q (.str ⟨#[c]⟩) H
theorem ix_list : IxR X (rIxL X.K) := by
 intro value slice pins s σ H x y v u Q I rx ry h hs
 obtain ⟨p, xs, i, z, rfl, rfl, hq, he, q⟩ := h
 cases rx
 obtain ⟨t, rfl⟩ := ry
 obtain ⟨its, r, pl, hz⟩ := I.list hq
 obtain ⟨j, h1, h2, h3, h4, h5⟩ := atI_get he
 obtain ⟨w, ew, rw'⟩ := r.get h2
 have hl := r.length
 have hn := line63
 have fin : EP X pins σ Q w s := ⟨z, H, I, rw', q⟩
 by_cases h0 : 0 <= i
 ·have hj : i.toNat = j := by
   rw [seqIndex_of h0 h5] at h1
   exact Option.some.inj h1
  exact item_listR pl.isList h0 (by omega) (by rw [hj]; simpa using ew) fin hs
 ·have hj : (i + (its.toArray.size : Int)).toNat = j := by
   rw [seqIndex_neg (by omega) h4] at h1
   rw [List.size_toArray, <- hl]
   exact Option.some.inj h1
  exact subscriptTail_builtinR (x := w) pl.isList.typeIs slot_list_getitem.lookup
   (wpAny_getItem_list_neg (Q := fun r s' => r = w /\ EP X pins σ Q r s') pl.isList (by omega) (by rw [List.size_toArray] <;> omega) (by omega) (by rw [hj]; simpa using ew) ⟨rfl, fin⟩) hs
theorem ix_tup : IxR X (rIxT X.K) := by
 intro value slice pins s σ H x y v u Q I rx ry h hs
 obtain ⟨p, xs, i, z, rfl, rfl, hq, he, q⟩ := h
 cases rx
 obtain ⟨t, rfl⟩ := ry
 obtain ⟨its, r, pl, hz⟩ := I.tuple hq
 obtain ⟨j, h1, h2, h3, h4, h5⟩ := atI_get he
 obtain ⟨w, ew, rw'⟩ := r.get h2
 have hl := r.length
 have hn := line63
 have fin : EP X pins σ Q w s := ⟨z, H, I, rw', q⟩
 exact subscriptTail_builtinR (x := w) pl.typeIs slot_tuple_getitem.lookup
  (getItem_tuple (j := j) (Q := fun r s' => r = w /\ EP X pins σ Q r s') pl (by omega) (by omega) (by rw [List.size_toArray, <- hl]; exact h1) (by simpa using ew) ⟨rfl, fin⟩) hs
theorem ix_str : IxR X rIxS := by
 intro value slice pins s σ H x y v u Q I rx ry h hs
 obtain ⟨z, i, c, rfl, rfl, hz, he, q⟩ := h
 obtain ⟨t, rfl⟩ := rx
 obtain ⟨t', rfl⟩ := ry
 obtain ⟨j, h1, h2, h3, h4, h5⟩ := atI_get he
 have hl : z.cps.toList.length = z.length := by simp [Str.length]
 rw [hl] at h1 h4 h5
 have hn := line63
 exact tail_any (typeIs_str s z t) slot_str_getitem.lookup (getItem_str (c := c) (by
  have e1 : decide (i < -(2 ^ 63 : Int)) = false := decide_eq_false (by omega)
  have e2 : decide (i ≥ 2 ^ 63) = false := decide_eq_false (by omega)
  rw [e1, e2, Bool.or_false]) (by rw [h1]; simpa using h2) ⟨.str ⟨#[c]⟩, H, I.tok _, ⟨_, rfl⟩, q⟩) hs
def rIx (K : PySem.W.Frag) : R2 := fun x y H Q => rIxL K x y H Q \/ rIxT K x y H Q \/ rIxS x y H Q
theorem ix_seq : IxR X (rIx X.K) := ix_list.or (ix_tup.or ix_str)
theorem mapSeq_set (its : List Value) (n j : Nat) (u : Value) : Obj.mapSeq (·.setIfInBounds j u) { cls := .type "list", data := .seq its.toArray n } = { cls := .type "list", data := .seq (its.set j u).toArray n } := by
 simp [Obj.mapSeq]
theorem Inv.lst {pins : List (Addr × Obj)} {σ : St} {H : Hp} {s : Shared} {p : Addr} {xs : List V} (I : Inv X pins σ H s) (h : H p = some (.lst xs)) :
  ∃ (its : List Value) (n : Nat), Vals xs its /\ s.heap.get? p = some { cls := .type "list", data := .seq its.toArray n } /\ xs.length <= sizeLine := by
 obtain ⟨z, its, n, r, e⟩ := I.hok p _ h
 exact ⟨its, n, r, e, z⟩
theorem Inv.lstUpd {pins : List (Addr × Obj)} {σ : St} {H : Hp} {s : Shared} {p : Addr} {xs ys : List V} {its its' : List Value} {n n' : Nat} {f : Obj -> Obj} (I : Inv X pins σ H s) (h : H p = some (.lst xs))
  (ho : s.heap.get? p = some { cls := .type "list", data := .seq its.toArray n }) (hf : f { cls := .type "list", data := .seq its.toArray n } = { cls := .type "list", data := .seq its'.toArray n' }) (r : Vals ys its') (hz : ys.length <= sizeLine) (t : Nat) :
  Inv X pins σ (upd H p (.lst ys)) { s with heap := s.heap.update p f, toks := t } := by
 have e : (s.heap.update p f).get? p = some { cls := .type "list", data := .seq its'.toArray n' } := by
  rw [Heap.get?_update_self f ho (by rw [hf] <;> rfl), hf]
 refine I.write (x := p) (e := p) (by rw [h]; trivial) (.inl rfl) (fun b u hb q => (Heap.get?_update_other _ _ (Ne.symm hb)).trans q) ⟨_, e⟩ ?_
 exact ⟨hz, its', n', r, e⟩
def rSetL : V -> V -> V -> Hp -> (Hp -> Prop) -> Prop := fun o i v H Q => ∃ p xs k j, o = .ref p /\ i = .int k /\ H p = some (.lst xs) /\ ixN xs.length k = some j /\ Q (upd H p (.lst (xs.set j v)))
theorem set_list : PSet X rSetL := by
 intro pins s σ H o i v ov iv u Q I ro ri rv h
 obtain ⟨p, xs, k, j, rfl, rfl, hp, hj, q⟩ := h
 cases ro
 obtain ⟨t, rfl⟩ := ri
 obtain ⟨its, n, r, ho, hz⟩ := I.lst hp
 obtain ⟨h1, h2, h3, h4⟩ := ixN_seq hj
 have hl := r.length
 have hn := line63
 have I' : Inv X pins σ (upd H p (.lst (xs.set j v))) { s with heap := s.heap.update p (Obj.mapSeq (·.setIfInBounds j u)) } :=
  I.lstUpd hp ho (mapSeq_set its n j u) (r.set rv j) (by rw [List.length_set]; exact hz) s.toks
 by_cases h0 : 0 <= k
 ·have hk : k.toNat = j := by
   rw [seqIndex_of h0 h4] at h1
   exact Option.some.inj h1
  exact PySem.W.ki_setAt ho h0 (by omega) (by rw [List.size_toArray, <- hl]; exact h4) (by rw [hk]; exact ⟨_, I', q⟩)
 ·have hk : (k + (its.toArray.size : Int)).toNat = j := by
   rw [seqIndex_neg (by omega) h3] at h1
   rw [List.size_toArray, <- hl]
   exact Option.some.inj h1
  exact PySem.W.ki_setBack ho (by omega) (by rw [List.size_toArray, <- hl]; exact h3) (by omega) (by rw [hk]; exact ⟨_, I', q⟩)
theorem slice_bounds (lo hi : Option Int) (n : Nat) : (sliceBounds lo hi none n).1 = ((HT.sIx n 0 lo : Nat) : Int) /\ (sliceBounds lo hi none n).2.1 = ((HT.sIx n n hi : Nat) : Int) /\ (sliceBounds lo hi none n).2.2 = 1 := by
  refine ⟨?_, ?_, rfl⟩
  · cases lo with
    | none => simp [sliceBounds, HT.sIx]
    | some i =>
      simp only [sliceBounds, HT.sIx, Option.getD_none, show (1 : Int) > 0 by decide, if_true]
      by_cases h : i < 0
      · simp only [h, if_true] <;> omega
      · simp only [h, if_false] <;> omega
  · cases hi with
    | none => simp [sliceBounds, HT.sIx]
    | some i =>
      simp only [sliceBounds, HT.sIx, Option.getD_none, show (1 : Int) > 0 by decide, if_true]
      by_cases h : i < 0
      · simp only [h, if_true] <;> omega
      · simp only [h, if_false] <;> omega
theorem slicePick_cut (its : List Value) (lo hi : Option Int) : slicePick its.toArray lo hi none = ((its.drop (HT.sIx its.length 0 lo)).take (HT.sIx its.length its.length hi - HT.sIx its.length 0 lo)).toArray := by
 obtain ⟨h1, h2, h3⟩ := slice_bounds lo hi its.toArray.size
 unfold slicePick
 rw [h1, h2, h3]
 simp only [sliceRange_one, pick_run, List.size_toArray] <;> rfl
def rSlL (K : PySem.W.Frag) : V -> Option Int -> Option Int -> Hp -> VK -> Prop := fun x lo hi H Q => ∃ a xs, x = .ref a /\ SqL K H a xs /\ ∀ p, H p = none -> Q (.ref p) (upd H p (.lst (cutV xs lo hi)))
theorem sl_list : SlR X (rSlL X.K) := by
 intro pins s σ H x v vl vu lo hi sl Q I rx hs pl pu h
 obtain ⟨a, xs, rfl, hx, q⟩ := h
 cases rx
 obtain ⟨its, r, ht, hz⟩ := I.list hx
 have hlen := r.length
 refine ⟨"list", _, slot_list_getitem.lookup, ht.isList.typeIs, ?_⟩
 refine wpAny_getItem_list_slice ht.isList hs pl pu .none (by simp) ?_ (by rw [List.size_toArray] <;> omega)
 rw [slicePick_cut, <- hlen]
 refine ⟨.ref s.heap.objs.size, _, I.laid (t' := s.toks) (o := .lst (cutV xs lo hi)) (fun b ob q => Heap.get?_push_of_some _ q) (Nat.le_refl _) ?_, rfl, q _ (I.hok.fresh (Nat.le_refl _))⟩
 exact ⟨Nat.le_trans (cutV_length xs lo hi) hz, _, 0, (r.drop (HT.sIx xs.length 0 lo)).take (HT.sIx xs.length xs.length hi - HT.sIx xs.length 0 lo), Heap.get?_push_size _ rfl⟩
def flatV : V -> Bool
 | .non => true
 | .bl _ => true
 | .int _ => true
 | .str _ => true
 | _ => false
def eqV : V -> V -> Bool
 | .non, .non => true
 | .bl a, .bl b => a == b
 | .bl a, .int b => (if a then 1 else 0) == b
 | .int a, .bl b => a == (if b then 1 else 0)
 | .int a, .int b => a == b
 | .str a, .str b => a == b
 | _, _ => false
def inV (x : V) (xs : List V) : Bool := xs.any fun y => eqV y x
def rIn (K : PySem.W.Frag) (neg : Bool) : R2 := fun x y H Q => ∃ p xs, y = .ref p /\ (SqL K H p xs \/ SqT K H p xs) /\ flatV x = true /\ xs.all flatV = true /\ Q (.bl (if neg then !inV x xs else inV x xs)) H
theorem call_len_seq : CallR X (.builtin "len") (fun xs H Q => ∃ p ys, xs = [.ref p] /\ (SqL X.K H p ys \/ SqT X.K H p ys) /\ Q (.int ys.length) H) := by
 intro pins s σ H xs us Q I r h
 obtain ⟨p, ys, rfl, hq, q⟩ := h
 obtain ⟨u, rfl, rx⟩ := vals1 r
 cases rx
 have hn := line63
 rcases hq with hq | hq
 ·obtain ⟨its, r', pl, hz⟩ := I.list hq
  have hlen := r'.length
  exact Calls.call_len_list pl.isList (by simp only [List.size_toArray] <;> omega) ⟨.int ys.length, H, I.tok _, ⟨s.toks + 1, by rw [List.size_toArray, hlen]⟩, q⟩
 ·obtain ⟨its, r', pl, hz⟩ := I.tuple hq
  have hlen := r'.length
  exact len_tuple pl (by simp only [List.size_toArray] <;> omega) ⟨.int ys.length, H, I.tok _, ⟨s.toks + 1, by rw [List.size_toArray, hlen]⟩, q⟩
theorem call_list_of : CallR X (.type "list") (fun xs H Q => ∃ p ys, xs = [.ref p] /\ (SqL X.K H p ys \/ SqT X.K H p ys) /\ ∀ l, H l = none -> Q (.ref l) (upd H l (.lst ys))) := by
 intro pins s σ H xs us Q I r h
 obtain ⟨p, ys, rfl, hq, q⟩ := h
 obtain ⟨u, rfl, rx⟩ := vals1 r
 cases rx
 have fin : ∀ (its : List Value), Vals ys its -> ys.length <= sizeLine -> ∀ (h' : Heap) (c' : Nat), (∀ b o', s.heap.get? b = some o' -> h'.get? b = some o') ->
   h'.get? s.heap.objs.size = some { cls := .type "list", dict := none, data := .seq its.toArray c', slots := #[] } -> EP X pins σ Q (.ref s.heap.objs.size) { s with heap := h' } := fun its r' hz h' c' kp e =>
  ⟨.ref s.heap.objs.size, _, I.laid (t' := s.toks) kp (Nat.le_refl _) (show ObjOk X.prog X.w _ h' _ (.lst ys) from ⟨hz, its, c', r', e⟩), rfl, q _ (I.hok.fresh (Nat.le_refl _))⟩
 rcases hq with hq | hq
 ·obtain ⟨its, r', pl, hz⟩ := I.list hq
  have hlen := r'.length
  obtain ⟨o, ho, hc, n, hd⟩ := pl.isList
  exact call_list_seq p (.inl rfl) ho hc hd (fun h' c' kp e => fin its r' hz h' c' kp e) (by simp only [List.size_toArray] <;> omega)
 ·obtain ⟨its, r', pl, hz⟩ := I.tuple hq
  have hlen := r'.length
  obtain ⟨o, ho, hc, n, hd⟩ := pl
  exact call_list_seq p (.inr rfl) ho hc hd (fun h' c' kp e => fin its r' hz h' c' kp e) (by simp only [List.size_toArray] <;> omega)
def tyV (K : PySem.W.Frag) (T : String) (x : V) (H : Hp) : Prop := match x with
 | .str _ => T = "str"
 | .int _ => T = "int"
 | .ref p => (T = "list" /\ ∃ xs, SqL K H p xs) \/ (T = "tuple" /\ ∃ o, K.lookup p = some o /\ o.cls = .type "tuple" /\ o.dict = none) \/
   (T = "dict" /\ ((∃ kvs, H p = some (.dK kvs)) \/ (∃ kvs, H p = some (.dT kvs)) \/ ∃ o kvs, H p = some (.frz o (.dK kvs)))) \/ (T = "set" /\ ∃ S n, H p = some (.set S n))
 | _ => False
theorem tyV_is {pins : List (Addr × Obj)} {σ : St} {H : Hp} {s : Shared} {T : String} {x : V} {v : Value} (I : Inv X pins σ H s) (r : RelV x v) (ty : tyV X.K T x H) :
    s.TypeIs v T /\ ∀ a, v = .ref a -> ∃ ob, s.heap.get? a = some ob /\ ob.dict = none := by
  cases x with
  | str z =>
    obtain ⟨t, rfl⟩ := r
    cases (show T = "str" from ty)
    exact ⟨typeIs_str s z t, fun _ e => nomatch e⟩
  | int i =>
    obtain ⟨t, rfl⟩ := r
    cases (show T = "int" from ty)
    exact ⟨typeIs_int s i t, fun _ e => nomatch e⟩
  | ref p =>
    cases r
    rcases ty with ⟨rfl, xs, hq⟩ | ⟨rfl, o, hk, hc, hd⟩ | ⟨rfl, hk⟩ | ⟨rfl, S, n, hk⟩
    · obtain ⟨its, _, pl, _⟩ := I.list hq
      refine ⟨pl.isList.typeIs, fun a e => ?_⟩
      cases e
      obtain ⟨o, n, e, c, hd, _⟩ := pl
      exact ⟨o, e, hd⟩
    · refine ⟨⟨o, I.kIn p o hk, hc⟩, fun a e => ?_⟩
      cases e
      exact ⟨o, I.kIn _ o hk, hd⟩
    · have z : ∃ o, s.heap.get? p = some o /\ o.ExactDict := by
        rcases hk with ⟨kvs, hk⟩ | ⟨kvs, hk⟩ | ⟨ob, kvs, hk⟩
        · obtain ⟨_, _, _, _, o, _, _, e, ex, _⟩ := I.hok p _ hk
          exact ⟨o, e, ex⟩
        · obtain ⟨_, _, _, _, o, _, _, e, ex, _⟩ := I.hok p _ hk
          exact ⟨o, e, ex⟩
        · obtain ⟨_, _, _, _, _, o, _, _, e, ex, _⟩ := I.hok p _ hk
          exact ⟨o, e, ex⟩
      obtain ⟨o, e, ex⟩ := z
      refine ⟨⟨o, e, ex.1⟩, fun a e2 => ?_⟩
      cases e2
      exact ⟨o, e, ex.2.1⟩
    · obtain ⟨o, _, _, _, e, ex, _⟩ := I.hok p _ hk
      refine ⟨⟨o, e, ex.1⟩, fun a e2 => ?_⟩
      cases e2
      exact ⟨o, e, ex.2.1⟩
  | _ => exact False.elim ty
def tBM0 (K : PySem.W.Frag) (T : String) (r : V -> List V -> Hp -> VK -> Prop) (to : TE) : TE := fun σ H Q => to σ H fun x H1 => tyV K T x H1 /\ r x [] H1 Q
def tBM (K : PySem.W.Frag) (T : String) (r : V -> List V -> Hp -> VK -> Prop) (to : TE) (t : TA) : TE := fun σ H Q => to σ H fun x H1 => tyV K T x H1 /\ t σ H1 fun xs H2 => r x xs H2 Q
variable {o e : Expr} {es : List Expr} {to : TE} {t : TA} {name : Str} {apos cpos : Pos} {T id : String} {r : V -> List V -> Hp -> VK -> Prop}
theorem pe_bm0 (pa : PlainAttrs T) (slot : Slot T name id) (hty : typeOf (.builtin id) = pure (.type "method_descriptor")) (hm : MtR X id r) (ho : PE X o to)
  (hbase : attributeBase o name X.env (eval o X.env) = eval o X.env := by rfl) (hline : (apos.endLine == cpos.line) = true := by rfl) : PE X (.Call (.Attribute o name apos) [] [] cpos) (tBM0 X.K T r to) := by
 intro pins s σ H Q I h
 refine wpAny_Call_method0_late hbase hline (thn (ho pins s σ H _ I h) fun v s1 ⟨x, H1, I1, r1, ty, q1⟩ => ?_)
 obtain ⟨h1, h2⟩ := tyV_is I1 r1 ty
 exact ⟨T, id, pa, slot, hty, h1, h2, Calls.callWith_builtin rfl (PySem.evalArgs_none (hm pins s1 σ H1 x [] v [] Q I1 r1 .nil q1))⟩
theorem pe_bm (pa : PlainAttrs T) (slot : Slot T name id) (hty : typeOf (.builtin id) = pure (.type "method_descriptor")) (hm : MtR X id r) (ho : PE X o to) (ha : PA X (e :: es) t)
  (hbase : attributeBase o name X.env (eval o X.env) = eval o X.env := by rfl)
  (hfew : ((backTo cpos (starEach (e :: es) X.env)).all (fun x => !x.1) && (backToKw cpos (keywordEach [] X.env)).all (fun x => x.1.isSome)
   && decide ((e :: es).length + ([] : List Keyword).length + (if ([] : List Keyword).isEmpty then 0 else 1) < 30)) = true := by rfl)
  (hline : (apos.endLine == cpos.line) = true := by rfl) (hs : starEach (e :: es) X.env = (false, eval e X.env) :: starEach es X.env := by rfl) (hplain : (backTo cpos (starEach es X.env)).any (·.1) = false := by rfl) :
  PE X (.Call (.Attribute o name apos) (e :: es) [] cpos) (tBM X.K T r to t) := by
 intro pins s σ H Q I h
 refine wpAny_Call_method_late hbase hfew hline rfl (thn (ho pins s σ H _ I h) fun v s1 ⟨x, H1, I1, r1, ty, q1⟩ => ?_)
 obtain ⟨h1, h2⟩ := tyV_is I1 r1 ty
 refine ⟨T, id, pa, slot, hty, h1, h2, ?_⟩
 have hA := ha cpos pins s1 σ H1 _ I1 q1
 rw [hs] at hA ⊢
 refine Calls.callWith_builtin (by show (false || (backTo cpos (starEach es X.env)).any (·.1)) = false; rw [hplain] <;> rfl) (Calls.evalArgs_plain ?_)
 exact thn hA fun us s2 ⟨vs, H2, I2, r2, q2⟩ => hm pins s2 σ H2 x vs v us Q I2 r1 r2 q2
/- xs.append(e), list.index on a module's tuple .. are MtR facts of 06m -/
end
def MtM (X : Cx) (id : String) (r : V -> List V -> Hp -> VK -> Prop) : Prop :=
 ∀ (pins : List (Addr × Obj)) (s : Shared) (σ : St) (H : Hp) (x : V) (xs : List V) (v : Value) (us : List Value) (Q : VK), Inv X pins σ H s -> RelV x v -> Vals xs us -> r x xs H Q ->
  wpAny (model X.prog X.w) X.A (call (.builtin id) (v :: us)) (EP X pins σ Q) X.xe s
theorem Vals.one : ∀ {x : V} {us : List Value}, Vals [x] us -> ∃ u, us = [u] /\ RelV x u
 | _, _, .cons r .nil => ⟨_, rfl, r⟩
theorem Vals.two : ∀ {x y : V} {us : List Value}, Vals [x, y] us -> ∃ u v, us = [u, v] /\ RelV x u /\ RelV y v
 | _, _, _, .cons r (.cons q .nil) => ⟨_, _, rfl, r, q⟩
theorem Vals.dropLast {xs : List V} {us : List Value} (h : Vals xs us) : Vals xs.dropLast us.dropLast := by
  induction h with
  | nil => exact .nil
  | cons r t ih =>
    cases t with
    | nil => exact .nil
    | cons q t' => exact .cons r ih
section
variable {X : Cx} {pins : List (Addr × Obj)} {σ : St} {H : Hp} {s : Shared} {l b : Addr} {xs ys zs : List V}
theorem Inv.lset {its its' : List Value} {n : Nat} {f : Array Value -> Array Value} {t' : Nat} (I : Inv X pins σ H s) (hH : H l = some (.lst xs))
  (e : s.heap.get? l = some { cls := .type "list", data := .seq its.toArray n }) (hf : f its.toArray = its'.toArray) (hv : Vals ys its') (hz : ys.length <= sizeLine) :
  Inv X pins σ (upd H l (.lst ys)) { s with heap := s.heap.update l (Obj.mapSeq f), toks := t' } := by
 have q := PySem.IsL.update e f
 rw [hf] at q
 refine I.write (x := l) (e := l) (by rw [hH]; exact trivial) (.inl rfl) (fun b' u hb hu => (Heap.get?_update_other s.heap (Obj.mapSeq f) (Ne.symm hb)).trans hu) ⟨_, q⟩ ?_
 exact ⟨hz, its', _, hv, q⟩
theorem Inv.lnew {its : List Value} {t' : Nat} (I : Inv X pins σ H s) (hv : Vals ys its) (hz : ys.length <= sizeLine) :
  Inv X pins σ (upd H s.heap.objs.size (.lst ys)) { s with heap := s.heap.push { cls := .type "list", data := .seq its.toArray }, toks := t' } :=
 I.laid (fun _ _ q => Heap.get?_push_of_some _ q) (Nat.le_refl _) ⟨hz, its, 0, hv, Heap.get?_push_size _ rfl⟩
theorem Inv.fresh (I : Inv X pins σ H s) : H s.heap.objs.size = none := I.hok.fresh (Nat.le_refl _)
theorem Inv.lstM (I : Inv X pins σ H s) (hH : H l = some (.lst xs)) : xs.length <= sizeLine /\ ∃ (its : List Value) (n : Nat), Vals xs its /\ xs.length = its.length /\ s.heap.get? l = some { cls := .type "list", data := .seq its.toArray n } := by
 obtain ⟨z, its, n, r, e⟩ := I.hok l _ hH
 exact ⟨z, its, n, r, r.length, e⟩
theorem notLongL {n : Nat} (h : n <= sizeLine) : Builtin.List.listTooLong n = false := by
 unfold Builtin.List.listTooLong
 exact decide_eq_false (by omega)
end
section
variable {X : Cx}
def rAppend : V -> List V -> Hp -> VK -> Prop := fun x vs H Q => ∃ l xs y, x = .ref l /\ vs = [y] /\ H l = some (.lst xs) /\ xs.length < sizeLine /\ Q .non (upd H l (.lst (xs ++ [y])))
theorem mt_append : MtM X "list.append" rAppend := by
 intro pins s σ H x vs v us Q I rx rv h
 obtain ⟨l, xs, y, rfl, rfl, hH, hz, q⟩ := h
 cases rx
 obtain ⟨u, rfl, ru⟩ := rv.one
 obtain ⟨z, its, n, r, hl, e⟩ := I.lstM hH
 refine call_meets F.slot_list_append ⟨_, e, rfl⟩ F.entry_list_append (F.args_list_append_2 _ _) (PySem.list_append l its.toArray n u (by rw [List.size_toArray]; omega)) ⟨e, ?_⟩
 refine ⟨.non, _, I.lset (its' := its ++ [u]) hH e (by simp) (r.append (.cons ru .nil)) ?_, rfl, q⟩
 rw [List.length_append, List.length_singleton]
 omega
def rExtend : V -> List V -> Hp -> VK -> Prop := fun x vs H Q => ∃ l b xs zs, x = .ref l /\ vs = [.ref b] /\ H l = some (.lst xs) /\ H b = some (.lst zs) /\ xs.length + zs.length <= sizeLine /\ Q .non (upd H l (.lst (xs ++ zs)))
theorem mt_extend : MtM X "list.extend" rExtend := by
 intro pins s σ H x vs v us Q I rx rv h
 obtain ⟨l, b, xs, zs, rfl, rfl, hH, hB, hz, q⟩ := h
 cases rx
 obtain ⟨u, rfl, ru⟩ := rv.one
 cases ru
 obtain ⟨z, its, n, r, hl, e⟩ := I.lstM hH
 obtain ⟨z2, its2, n2, r2, hl2, e2⟩ := I.lstM hB
 have hsz : its.toArray.size + its2.toArray.size <= sizeLine := by rw [List.size_toArray, List.size_toArray]; omega
 have hlong : ¬ (!its.toArray.isEmpty && Builtin.List.listTooLong (its.toArray.size + its2.toArray.size)) = true := by
  rw [notLongL hsz, Bool.and_false]
  exact Bool.false_ne_true
 refine call_meets F.slot_list_extend ⟨_, e, rfl⟩ F.entry_list_extend (F.args_list_extend_2 _ _)
  (AutoSeq1.list_extend_list_list_0 l its.toArray n b its2.toArray n2 hlong (by rw [List.size_toArray]; omega) (by omega)) ⟨e, e2, ?_⟩
 refine ⟨.non, _, I.lset (its' := its ++ its2) hH e (by simp) (r.append r2) ?_, rfl, q⟩
 rw [List.length_append]
 omega
def rCat : R2 := fun x y H Q => ∃ l b xs zs, x = .ref l /\ y = .ref b /\ H l = some (.lst xs) /\ H b = some (.lst zs) /\ xs.length + zs.length <= sizeLine /\ ∀ p, H p = none -> Q (.ref p) (upd H p (.lst (xs ++ zs)))
theorem op_cat : OpR X (binaryOp .Add) rCat := by
 intro pins s σ H x y v u Q I rx ry h
 obtain ⟨l, b, xs, zs, rfl, rfl, hH, hB, hz, q⟩ := h
 cases rx
 cases ry
 obtain ⟨z, its, n, r, hl, e⟩ := I.lstM hH
 obtain ⟨z2, its2, n2, r2, hl2, e2⟩ := I.lstM hB
 refine PySem.P.add_list e e2 ?_ (by rw [List.size_toArray, List.size_toArray]; omega)
 have ea : its.toArray ++ its2.toArray = (its ++ its2).toArray := by simp
 rw [ea]
 exact ⟨.ref _, _, I.lnew (t' := s.toks) (r.append r2) (by rw [List.length_append]; omega), rfl, q _ I.fresh⟩
end
end L2
namespace Att
open PySem PySem.W PySem.Calls PyProof.Rows
theorem ints_of_wellAll {P : Params} {h : Heap} : ∀ (ns : List Int) (vs : List Value), WellAll P h vs (ns.map WData.int) -> IntsAre vs ns := by
  intro ns
  induction ns with
  | nil =>
    intro vs w
    rw [List.map_nil] at w
    cases w
    exact .nil
  | cons n ns ih =>
    intro vs w
    rw [List.map_cons] at w
    cases w with
    | cons a b =>
      cases a
      exact .cons _ _ (ih _ b)
theorem script_of {l : OpenLaw} {n : Nat} (hn : l.most = some n) {P : Params} {h : Heap} {args : List WData} {vals : List Value}
    (hpre : l.row.toRowW.claim.pre args = true) (hwl : WellAll P h vals args) :
    ∃ a vs ns, vals = [Value.ref a] /\ args = [WData.list (ns.map WData.int)] /\ h.get? a = some { cls := .type "list", data := .seq vs.toArray } /\ IntsAre vs ns /\ ns.length <= n := by
  have hsh : WShape.hasAll [] args [.list .int] = true := (pre_splitW hpre).1
  have hc : l.pre.holds [] { args := args } = true := (pre_splitW hpre).2
  obtain ⟨d, r, rfl, h1, h2⟩ := hasAllW_cons hsh
  obtain rfl := hasAllW_nil h2
  obtain ⟨xs, rfl, h3⟩ := hasW_list h1
  obtain ⟨ns, rfl⟩ := items_int h3
  have hlen : ns.length <= n := by
    unfold OpenLaw.pre at hc
    have h4 : (WTm.not (.lt (.lit (.int (n : Int))) (.len (.arg 0)))).holds [] { args := [.list (ns.map .int)] } = true := by
      have h4 := (holds_andW hc).1
      rw [hn] at h4
      exact h4
    have h5 := condW_of h4 (w_not (w_lt w_lit (w_len_list (w_arg rfl))))
    rw [List.length_map] at h5
    refine Nat.le_of_not_lt fun q => ?_
    have q' : (n : Int) < ((ns.length : Nat) : Int) := by omega
    first
      | (rw [decide_eq_true q'] at h5; exact absurd h5 (by decide))
      | (simp at h5; omega)
  cases hwl with
  | cons w1 w2 =>
    cases w2
    cases w1 with
    | list ho hall => exact ⟨_, _, ns, rfl, rfl, ho, ints_of_wellAll ns _ hall, hlen⟩
theorem post_true (l : OpenLaw) (args : List WData) : l.row.toRowW.claim.post args (.bool true) args = true :=
 postW_of (r := l.row.toRowW) (X := (true == true))
  (show WShape.has [] (.bool true) .bool = true by first | rfl | decide | simp [WShape.has, WShape.arms, WShape.armsAll])
  (show (WTm.eq .res (.lit (.bool true))).value [] { args := args, res := some (.bool true), after := args } = some (.bool (true == true)) from w_eq_bool (w_res rfl) w_lit) rfl
theorem attach_call {l : OpenLaw} {n : Nat} {q : Program} {loose : List Str} {XP : (Str -> Option Value) -> Heap -> Prop} {YP : World -> Heap -> Prop} {d : DefRec}
  (hn : l.most = some n) (hdf : d.params.defaults = [])
  (call : ∀ (w : World) (s₀ s₁ : Shared) (mg mb : Str -> Option Value) (fa : Addr) (o : Obj) (pm cd doc : Value) (a : Addr) (vs : List Value) (ns : List Int),
   Ground q loose [] XP w s₀ mg mb s₁.heap -> YP w s₁.heap ->
   s₁.heap.get? fa = some o -> o.data = .func (docDef d.name d.params d.body d.scope pm cd doc) -> s₁.heap.CodeRec cd d.name -> mg d.name = some (.ref fa) ->
   s₁.heap.get? a = some { cls := .type "list", data := .seq vs.toArray } -> IntsAre vs ns -> ns.length <= n -> s₁.gens = #[] ->
   codeAny (model l.prog w) callerA (.call (.ref fa) ⟨[.ref a], []⟩) (fun r s' => r = .ok (.ret (.bool true)) /\ OldK s₁.heap s'.heap /\ s'.os = s₁.os /\ AllBare s'.gens) s₁) :
  WalkO q loose XP YP l.row.toRowW d [] (fun f vs => PySem.call f vs) := by
 intro w s₀ s₁ mg mb G Y fa o pm cd doc dV kV ho hd hcd hD hmg hg args vals as hpre hlay hrd hwl hlo
 obtain rfl : dV = .none := Dflts.none hD hdf
 obtain rfl : kV = .none := Dflts.noKw hD
 obtain ⟨a, vs, ns, rfl, rfl, hobj, hints, hlen⟩ := script_of hn hpre hwl
 refine enter_call (codeAny_mono (call w s₀ s₁ mg mb fa o pm cd doc a vs ns G Y ho (fd_plain hd) hcd hmg hobj hints hlen hg) fun r s' hq => ?_)
 obtain ⟨rfl, h2, h3, h4⟩ := hq
 exact ⟨.inl ⟨.bool true, .bool true, [], rfl, fun _ => rfl, .bool true, post_true l _, fun _ => ⟨List.Pairwise.nil, fun _ hm => (nomatch hm)⟩⟩, h2, h3, h4⟩
section
variable {prog : Program} {w : World} {A : Around} {E : Value -> Shared -> Prop} {s : Shared} {K : Frag}
def ledger (h : Heap) (L d : Addr) : List (Addr × Obj) := (List.range h.objs.size).filterMap fun a => if a = L \/ a = d then none else (h.get? a).map fun o => (a, o)
end
end Att
namespace L2
open PySem PySem.Spec PyProof.Rows
theorem vals_ints : ∀ {vs : List Value} {ns : List Int}, IntsAre vs ns -> Vals (ns.map V.int) vs
 | _, _, .nil => .nil
 | _, _, .cons n t h => .cons ⟨t, rfl⟩ (vals_ints h)
def Only (H : Hp) : Prop := ∀ b, H b = none \/ ∃ o xs, H b = some (.frz o (.lst xs))
theorem law_call {P : Program} {w : World} {K : PySem.W.Frag} {mg mb : Str -> Option Value} {CX : CXT} {k : Nat} {fa a : Addr} {fd : FuncData} {x : Str} {sp : Sp} {s₁ : Shared} {vs : List Value} {ns : List Int}
    (KX : K.In s₁.heap) (hns : s₁.heap.Ns mainGlobals mg) (hb : s₁.heap.Ns builtinsNs mb) (hbb : ∀ x : Str, x ≠ "__name__" -> mb x = bootBuiltins x) (hlim : s₁.heap.NoLimit) (hg : s₁.gens = #[])
    (ha : s₁.heap.get? a = some { cls := .type "list", data := .seq vs.toArray }) (hi : IntsAre vs ns) (hl : ns.length <= sizeLine) (hr : Room k callerA)
    (F : ∀ base : Heap, K.In base -> base.Ns mainGlobals mg -> FnOk P w K mg base CX k fa fd [x] sp) (hbind : ∀ (s : Shared) (u : Value), BindsTo s fd ⟨[u], []⟩ [(x, u)])
    (hsp : ∀ H : Hp, Only H -> SqL K H a (ns.map V.int) -> sp [.ref a] H (fun v _ => v = .bl true) fun _ _ _ => False)
    (hCX : ∀ H e s', CX [] H s₁ (fun _ _ _ => False) e s' -> False) :
    codeAny (model P w) callerA (.call (.ref fa) ⟨[.ref a], []⟩) (fun r s' => r = .ok (.ret (.bool true)) /\ OldK s₁.heap s'.heap /\ s'.os = s₁.os /\ AllBare s'.gens) s₁ := by
  have rv := vals_ints hi
  have lenV := hi.length
  have core : ∀ H : Hp, Only H -> SqL K H a (ns.map V.int) -> HOk P w H s₁.heap -> (∀ b, H b ≠ none -> b = a) -> (H a ≠ none -> K.lookup a = none) ->
      codeAny (model P w) callerA (.call (.ref fa) ⟨[.ref a], []⟩) (fun r s' => r = .ok (.ret (.bool true)) /\ OldK s₁.heap s'.heap /\ s'.os = s₁.os /\ AllBare s'.gens) s₁ := by
    intro H hO hS hok hA hK
    have base_of : ∀ {b : Addr} {o : Obj}, s₁.heap.get? b = some o -> H b = none -> (hidT s₁.heap H).get? b = some o := fun e n => hidT_get e n
    have noA : ∀ {b : Addr} {o : Obj} {es : Array DictEntry} {ep : Nat}, s₁.heap.get? b = some o -> o.data = .dict es ep -> H b = none := fun {b o es ep} e d => by
      cases q : H b with
      | none => rfl
      | some u =>
        have e' : b = a := hA b (by rw [q]; simp)
        subst e'
        rw [ha] at e; cases e
        have d' : Data.seq vs.toArray _ = Data.dict es ep := d
        cases d'
    have nsK : ∀ {b : Addr} {m : Str -> Option Value}, s₁.heap.Ns b m -> (hidT s₁.heap H).Ns b m := fun {b m} ⟨o, es, ep, e, d, r⟩ => ⟨o, es, ep, base_of e (noA e d), d, r⟩
    have hKb : K.In (hidT s₁.heap H) := fun b o e => base_of (KX b o e) (by
      cases q : H b with
      | none => rfl
      | some u =>
        have e' : b = a := hA b (by rw [q]; simp)
        subst e'
        rw [hK (by rw [q]; simp)] at e; cases e)
    have hM : Mod K mg (hidT s₁.heap H) := ⟨hKb, nsK hns, ⟨mb, nsK hb, hbb⟩, let ⟨mc, h1, h2⟩ := hlim; ⟨mc, nsK h1, h2⟩⟩
    have e0 : Env0 P w K mg (hidT s₁.heap H) callerA [] s₁ H := ⟨rfl, hM, fun b o e => of_hidT e, Nat.le_of_eq (hidT_size _ _), trivial, fun b hb => absurd (show b ∈ ([] : List Addr) from hb) (by simp), hok, .of_eq hg⟩
    refine codeAny_mono ((F _ hKb (nsK hns)).run callerA [] s₁ H ⟨[.ref a], []⟩ [.ref a] [.ref a] _ _ hr e0 (hbind s₁ (.ref a)) (.cons rfl .nil) (hsp H hO hS)) fun r s' h => ?_
    cases r with
    | error e => exact (hCX H e s' h).elim
    | ok fl =>
      cases fl with
      | next => exact False.elim h
      | brk => exact False.elim h
      | cont => exact False.elim h
      | ret u =>
        obtain ⟨v, H', os, bare, un, hok', r', q⟩ := h
        have q' : v = .bl true := q
        subst q'
        obtain rfl : u = Value.bool true := r'
        refine ⟨rfl, OldK.of_keep fun b o e => ?_, os, bare⟩
        cases q : H b with
        | none => exact un.keep b o e q (by intro z; exact absurd (show b ∈ ([] : List Addr) from z) (by simp)) (by simp)
        | some u =>
          rcases hO b with z | ⟨ob, xs, z⟩
          · rw [q] at z; cases z
          · have z2 := un.frzs b ob _ z
            obtain ⟨e1, _⟩ := hok b _ z
            obtain ⟨e2, _⟩ := hok' b _ z2
            rw [e] at e1; cases e1
            exact e2
  cases hk : K.lookup a with
  | some o =>
    have e := KX a o hk
    rw [ha] at e
    cases e
    refine core (fun _ => none) (fun _ => .inl rfl) (.inr ⟨_, vs.toArray, _, hk, rfl, rfl, rfl, by rw [List.size_toArray, lenV]; exact hl, by simpa using rv⟩) (fun b u z => by have z' : (none : Option HO) = some u := z; cases z') (fun b z => absurd rfl z) fun z => absurd rfl z
  | none =>
    refine core (fun b => if b = a then some (.frz { cls := .type "list", data := .seq vs.toArray } (.lst (ns.map V.int))) else none) (fun b => ?_) (.inl (.inr ⟨{ cls := .type "list", data := .seq vs.toArray }, if_pos rfl⟩)) (fun b u z => ?_) (fun b z => ?_) fun _ => hk
    · by_cases hb : b = a
      · exact .inr ⟨_, _, if_pos hb⟩
      · exact .inl (if_neg hb)
    · by_cases hb : b = a
      · have z' := (if_pos hb).symm.trans z
        cases z'
        subst hb
        exact ⟨ha, by rw [List.length_map]; exact hl, vs, _, rv, ha⟩
      · have z' := (if_neg hb).symm.trans z
        cases z'
    · by_cases hb : b = a
      · exact hb
      · exact absurd (if_neg hb) z
theorem walk_of {l : PySem.W.OpenLaw} {n k : Nat} {q : Program} {loose : List Str} {XP : (Str -> Option Value) -> Heap -> Prop} {YP : World -> Heap -> Prop} {d : DefRec} {K : Params -> PySem.W.Frag} {CX : World -> CXT} {sp : World -> Sp} {x : Str}
  (hn : l.most = some n) (hn2 : n <= sizeLine) (hdf : d.params.defaults = []) (hr : Room k callerA)
  (hY : ∀ (w : World) (h : Heap), YP w h -> (K w.params).In h)
  (F : ∀ (w : World) (mg : Str -> Option Value) (fa : Addr) (h : Heap), (K w.params).In h -> h.Ns mainGlobals mg -> mg d.name = some (.ref fa) ->
   ∃ fd : FuncData, (∀ (s : Shared) (u : Value), BindsTo s fd ⟨[u], []⟩ [(x, u)]) /\
    ∀ base : Heap, (K w.params).In base -> base.Ns mainGlobals mg -> FnOk l.prog w (K w.params) mg base (CX w) k fa fd [x] (sp w))
  (hsp : ∀ (w : World) (H : Hp) (a : Addr) (ns : List Int), ns.length <= n -> Only H -> SqL (K w.params) H a (ns.map V.int) -> sp w [.ref a] H (fun v _ => v = .bl true) fun _ _ _ => False)
  (hCX : ∀ (w : World) (H : Hp) (s : Shared) (e : Value) (s' : Shared), CX w [] H s (fun _ _ _ => False) e s' -> False) :
  PySem.W.WalkO q loose XP YP l.row.toRowW d [] (fun f vs => PySem.call f vs) := by
 refine Att.attach_call hn hdf fun w s₀ s₁ mg mb fa o pm cd doc a vs ns G Y ho hd hcd hmg hobj hints hlen hg => ?_
 have KX := hY w _ Y
 obtain ⟨fd, hb, hF⟩ := F w mg fa _ KX G.T.g hmg
 exact law_call KX G.T.g G.T.b G.T.builtins G.T.nolimit hg hobj hints (Nat.le_trans hlen hn2) hr hF hb (fun H hO hS => hsp w H a ns hlen hO hS) fun H e s' => hCX w H s₁ e s'
end L2
/- THE LAST THEOREM (shape; LID, My.* are yours):
   My.Adr: a structure of the addresses that your layer names (classes, functions); My.Txt K t: a structure (Prop) of the equations over K;
   My.txt_mk : {K} {implicit addresses ..} (e1 : nsIn K mainGlobals "law" = some (some (.ref f))) (e2 : K.lookup f = some ⟨oc, od, .func (fnOf "law" "law" params body scope dV kV doc pm an cdv ct), sl⟩) (e3 : codeIn K cdv "law" = true) .. : ∃ t, My.Txt K t
set_option maxRecDepth 100000 in
set_option maxHeartbeats 0 in
(the tactic k_is has no namespace: write k_is) -/
namespace L2
open PySem PySem.Spec PyProof.Rows
def defArgs (s : Stmt) : Arguments := match s with
 | .FunctionDef _ a _ _ _ _ _ _ _ _ => a
 | _ => { posonlyargs := [], args := [], vararg := none, kwonlyargs := [], kw_defaults := [], kwarg := none, defaults := [] }
def defBody (s : Stmt) : List Stmt := match s with
 | .FunctionDef _ _ b _ _ _ _ _ _ _ => b
 | _ => []
def defScope (s : Stmt) : Scope := match s with
 | .FunctionDef _ _ _ _ _ _ sc _ _ _ => sc
 | _ => { kind := .function, names := [], isGenerator := false, isCoroutine := false }
abbrev CX0 : CXT := fun _ _ _ _ _ _ => False
abbrev E0 : XK := fun _ _ _ => False
theorem pass0 {X : Cx} : Passes CX0 X E0 := fun _ _ _ _ _ _ _ h => h.elim
structure Fun (K : PySem.W.Frag) (x qual : Str) (st : Stmt) (f : Addr) (fd : FuncData) : Prop where
 ex : ∃ (oc : Value) (od : Option Addr) (kV doc pm : Value) (an : Option Addr) (cdv ct : Value) (osl : Array (Option Value)),
  fd = PySem.W.fnOf x qual (defArgs st) (defBody st) (defScope st) .none kV doc pm an cdv ct /\ K.lookup f = some ⟨oc, od, .func fd, osl⟩ /\ PySem.W.codeIn K cdv qual = true
 kp : PySem.W.keepIn K (.ref f) = true
section
variable {P : Program} {w : World} {K : PySem.W.Frag} {mg : Str -> Option Value} {base : Heap}
theorem Fun.ok {x qual : Str} {st : Stmt} {f : Addr} {fd : FuncData} {N ps : List Str} {k : Nat} {sp : Sp} (F : Fun K x qual st f fd) (S : FnScope N ps (defScope st)) (len : ∀ vs H Q E, sp vs H Q E -> vs.length = ps.length)
  (hbody : ∀ (cdv : Value) (A : Around) (outer : List Env) (s : Shared) (H : Hp) (vs : List V) (Q : VK) (E : XK), Room k (A.deeper (envOfC qual (defScope st) s.heap.objs.size f cdv)) -> sp vs H Q E ->
   ∃ t, PSs (cxOf CX0 P w K mg base N qual (defScope st) f cdv A outer s H E).nox (defBody st) t /\ t { nx := fun _ H' => Q .non H', rt := Q } (start N vs) H) : FnOk P w K mg base CX0 (k + 1) f fd ps sp := by
 obtain ⟨oc, od, kV, doc, pm, an, cdv, ct, osl, rfl, lk, hcd⟩ := F.ex
 refine fn_of lk hcd S len fun A outer s H vs Q E hr hsp => ?_
 obtain ⟨t, h, q⟩ := hbody cdv A outer s H vs Q E hr hsp
 exact ⟨t, h.nox, q⟩
theorem Fun.binds {x qual : Str} {st : Stmt} {f : Addr} {fd : FuncData} {ps : List Str} (F : Fun K x qual st f fd)
  (h : ∀ (kV doc pm : Value) (an : Option Addr) (cdv ct : Value) (us : List Value), us.length = ps.length -> bindArgs (PySem.W.fnOf x qual (defArgs st) (defBody st) (defScope st) .none kV doc pm an cdv ct) ⟨us, []⟩ = pure (ps.zip us)) : Binds K fd ps [] := by
 obtain ⟨oc, od, kV, doc, pm, an, cdv, ct, osl, rfl, lk, hcd⟩ := F.ex
 exact .all (h kV doc pm an cdv ct)
theorem fun_mk {x qual : Str} {st : Stmt} {f : Addr} {oc : Value} {od an : Option Addr} {osl : Array (Option Value)} {kV doc pm cdv ct : Value} (l : K.lookup f = some ⟨oc, od, .func (PySem.W.fnOf x qual (defArgs st) (defBody st) (defScope st) .none kV doc pm an cdv ct), osl⟩)
  (c : PySem.W.codeIn K cdv qual = true) (k : PySem.W.keepIn K (.ref f) = true) : Fun K x qual st f (PySem.W.fnOf x qual (defArgs st) (defBody st) (defScope st) .none kV doc pm an cdv ct) := ⟨⟨oc, od, kV, doc, pm, an, cdv, ct, osl, rfl, l, c⟩, k⟩
end
theorem small1000 {n : Nat} (h : n <= 1000) : n < sizeLine := Nat.lt_of_le_of_lt h (by decide)
section
variable {X : Cx}
theorem pv (i : Nat) {x : Str} {pos : Pos} (hN : X.N[i]? = some x := by rfl) (hv : Vis X.env.scope x := by first | exact Or.inl rfl | exact Or.inr (Or.inl rfl) | exact Or.inr (Or.inr rfl)) (hd : (x == ("__debug__" : Str)) = false := by decide)
  (hcd : (x == ("__classdict__" : Str)) = false := by decide) : PE X (.Name x pos) (tVar i) := pe_var hN hv hd hcd
end
theorem iteF {A B : Prop} (h : B) : if false = true then A else B := by
 rw [if_neg Bool.false_ne_true]
 exact h
theorem iteT {A B : Prop} (h : A) : if true = true then A else B := by
 rw [if_pos rfl]
 exact h
theorem ite2 {c A B : Prop} [Decidable c] (h1 : c -> A) (h2 : ¬ c -> B) : if c then A else B := by
 by_cases h : c
 ·rw [if_pos h]
  exact h1 h
 ·rw [if_neg h]
  exact h2 h
def Same (H H' : Hp) : Prop := ∀ b o, H b = some o -> H' b = some o
theorem Same.refl (H : Hp) : Same H H := fun _ _ h => h
theorem Same.trans {H H1 H2 : Hp} (a : Same H H1) (b : Same H1 H2) : Same H H2 := fun c o h => b c o (a c o h)
theorem Same.free {H H' : Hp} (e : Same H H') {l : Addr} (h : H' l = Option.none) : H l = Option.none := by
  cases q : H l with
  | none => rfl
  | some o =>
    rw [e l o q] at h
    cases h
theorem Same.seq {K : PySem.W.Frag} {H H' : Hp} {a : Addr} {xs : List V} (e : Same H H') (h : SqL K H a xs) : SqL K H' a xs := by
 rcases h with (h | ⟨o, h⟩) | h
 ·exact .inl (.inl (e _ _ h))
 ·exact .inl (.inr ⟨o, e _ _ h⟩)
 ·exact .inr h
end L2
set_option maxHeartbeats 1000000
namespace L2
open PySem PySem.Spec PyProof.Rows
def clOf (cells : List (Str × Addr)) : List (Str × NameKind) -> List (Str × Addr) -> List (Str × Addr)
 | [], acc => acc
 | (n, k) :: r, acc => clOf cells r (if k == NameKind.free then (match cells.lookup n with | some a => (n, a) :: acc | none => acc) else acc)
theorem clOf_run {env : Env} {f : Str × NameKind -> List (Str × Addr) -> Sem (ForInStep (List (Str × Addr)))}
    (hf : ∀ x acc, f x acc = if (x.2 == NameKind.free) = true then (do let a <- cellOf env x.1; pure (ForInStep.yield ((x.1, a) :: acc))) else pure (ForInStep.yield acc)) :
    ∀ (l : List (Str × NameKind)) (acc : List (Str × Addr)), (∀ x ∈ l, x.2 = .free -> ∃ a, env.cells.lookup x.1 = some a) -> (forIn l acc f : Sem (List (Str × Addr))) = pure (clOf env.cells l acc)
  | [], acc, _ => by rw [List.forIn_nil]; rfl
  | (n, k) :: r, acc, h => by
    have hr := fun x hx => h x (List.mem_cons_of_mem _ hx)
    rw [List.forIn_cons, hf]
    by_cases hk : (k == NameKind.free) = true
    · have hk' : k = NameKind.free := by simpa using hk
      obtain ⟨a, ha⟩ := h (n, k) List.mem_cons_self hk'
      have hc : cellOf env n = pure a := by unfold cellOf; rw [ha]
      rw [if_pos hk, hc]
      show (forIn r ((n, a) :: acc) f : Sem (List (Str × Addr))) = pure (clOf env.cells r _)
      rw [clOf_run hf r _ hr, if_pos hk, ha]
    · rw [if_neg hk]
      show (forIn r acc f : Sem (List (Str × Addr))) = pure (clOf env.cells r _)
      rw [clOf_run hf r _ hr, if_neg hk]
theorem closureFor_eq {scope : Scope} {env : Env} (h : ∀ x ∈ scope.names, x.2 = .free -> ∃ a, env.cells.lookup x.1 = some a) : closureFor scope env = pure (clOf env.cells scope.names []) := by
 simp only [closureFor]
 rw [clOf_run (env := env) (fun ⟨n, k⟩ acc => by dsimp only) scope.names [] h]
 rfl
theorem clOf_sub {cells : List (Str × Addr)} : ∀ {l : List (Str × NameKind)} {acc : List (Str × Addr)} {x : Str} {c : Addr}, (∀ y d, acc.lookup y = some d -> cells.lookup y = some d) -> (clOf cells l acc).lookup x = some c -> cells.lookup x = some c
  | [], _, _, _, ha, h => ha _ _ h
  | (n, k) :: r, acc, x, c, ha, h => by
    refine clOf_sub (l := r) ?_ h
    intro y d hd
    by_cases hk : (k == NameKind.free) = true
    · rw [if_pos hk] at hd
      cases q : cells.lookup n with
      | none => rw [q] at hd; exact ha _ _ hd
      | some a =>
        rw [q] at hd
        by_cases hy : (y == n) = true
        · have hy' : y = n := by simpa using hy
          subst hy'
          simp [List.lookup_cons] at hd
          rw [q, hd]
        · have hy' : (y == n) = false := by simpa using hy
          simp only [List.lookup_cons, hy'] at hd
          exact ha _ _ hd
    · rw [if_neg hk] at hd; exact ha _ _ hd
theorem clOf_keep {cells : List (Str × Addr)} : ∀ {l : List (Str × NameKind)} {acc : List (Str × Addr)} {x : Str}, (acc.lookup x).isSome = true -> ((clOf cells l acc).lookup x).isSome = true
  | [], _, _, h => h
  | (n, k) :: r, acc, x, h => by
    refine clOf_keep (l := r) ?_
    by_cases hk : (k == NameKind.free) = true
    · rw [if_pos hk]
      cases q : cells.lookup n with
      | none => exact h
      | some a =>
        by_cases hy : (x == n) = true
        · simp [List.lookup_cons, hy]
        · have hy' : (x == n) = false := by simpa using hy
          simp only [List.lookup_cons, hy']
          exact h
    · rw [if_neg hk]; exact h
theorem clOf_has {cells : List (Str × Addr)} : ∀ {l : List (Str × NameKind)} {acc : List (Str × Addr)} {x : Str} {a : Addr}, (x, NameKind.free) ∈ l -> cells.lookup x = some a -> ((clOf cells l acc).lookup x).isSome = true
  | [], _, _, _, h, _ => nomatch h
  | (n, k) :: r, acc, x, a, h, hc => by
    rcases List.mem_cons.mp h with e | h
    · obtain ⟨rfl, rfl⟩ := Prod.mk.inj e
      refine clOf_keep (l := r) ?_
      rw [if_pos (by decide), hc]
      simp [List.lookup_cons]
    · exact clOf_has (l := r) h hc
theorem clOf_look {cells : List (Str × Addr)} {l : List (Str × NameKind)} {x : Str} {a : Addr} (h : (x, NameKind.free) ∈ l) (hc : cells.lookup x = some a) : (clOf cells l []).lookup x = some a := by
 obtain ⟨c, e⟩ := Option.isSome_iff_exists.mp (clOf_has (acc := []) h hc)
 have := clOf_sub (fun y d (q : ([] : List (Str × Addr)).lookup y = some d) => by simp at q) e
 rw [hc] at this; cases this
 exact e
theorem relabel_look {env : Env} : ∀ {l : List (Str × NameKind)} {x : Str} {k : NameKind}, (∀ y ∈ l, y.2 ≠ .cell) ->
    (l.map fun (n, k) => if (k == NameKind.free && env.scope.kind == .function && env.kindOf n == some .cell) then (n, NameKind.cell) else (n, k)).lookup x = some k -> k = .cell \/ k = .free -> l.lookup x = some .free
  | [], _, _, _, h, _ => by simp at h
  | (n, q) :: r, x, k, hc, h, hk => by
    have hr := fun y hy => hc y (List.mem_cons_of_mem _ hy)
    have ih := relabel_look (env := env) (l := r) (x := x) (k := k) hr
    rw [List.map_cons] at h
    dsimp only at h
    by_cases hx : (x == n) = true
    · simp only [List.lookup_cons, hx]
      by_cases hq : (q == NameKind.free && env.scope.kind == .function && env.kindOf n == some .cell) = true
      · have : q = .free := by
          simp only [Bool.and_eq_true] at hq
          simpa using hq.1.1
        rw [this]
      · rw [if_neg hq] at h
        simp only [List.lookup_cons, hx] at h
        have hqk : q = k := Option.some.inj h
        rcases hk with e | e
        · exact absurd (hqk.trans e) (hc (n, q) List.mem_cons_self)
        · rw [hqk, e]
    · have hx' : (x == n) = false := by simpa using hx
      simp only [List.lookup_cons, hx']
      refine ih ?_ hk
      by_cases hq : (q == NameKind.free && env.scope.kind == .function && env.kindOf n == some .cell) = true
      · rw [if_pos hq] at h
        simp only [List.lookup_cons, hx'] at h
        exact h
      · rw [if_neg hq] at h
        simp only [List.lookup_cons, hx'] at h
        exact h
theorem relabel_free {env : Env} : ∀ {l : List (Str × NameKind)} {x : Str}, l.lookup x = some .free ->
    (l.map fun (n, k) => if (k == NameKind.free && env.scope.kind == .function && env.kindOf n == some .cell) then (n, NameKind.cell) else (n, k)).lookup x = some .cell \/
    (l.map fun (n, k) => if (k == NameKind.free && env.scope.kind == .function && env.kindOf n == some .cell) then (n, NameKind.cell) else (n, k)).lookup x = some .free
  | [], _, h => by simp at h
  | (n, q) :: r, x, h => by
    have ih := relabel_free (env := env) (l := r) (x := x)
    rw [List.map_cons]
    dsimp only
    by_cases hx : (x == n) = true
    · simp only [List.lookup_cons, hx] at h
      by_cases hq : (q == NameKind.free && env.scope.kind == .function && env.kindOf n == some .cell) = true
      · rw [if_pos hq]
        left
        simp only [List.lookup_cons, hx]
      · rw [if_neg hq]
        right
        simp only [List.lookup_cons, hx]
        exact h
    · have hx' : (x == n) = false := by simpa using hx
      simp only [List.lookup_cons, hx'] at h
      have := ih h
      by_cases hq : (q == NameKind.free && env.scope.kind == .function && env.kindOf n == some .cell) = true
      · rw [if_pos hq]
        simp only [List.lookup_cons, hx']
        exact this
      · rw [if_neg hq]
        simp only [List.lookup_cons, hx']
        exact this
def compOkB (sx : Scope) (NX : List Str) (scope : Scope) (N : List Str) (mp : List (Option Nat)) : Bool :=
 (scope.kind == .function) && scope.names.all (fun y => y.2 != .cell) && scope.names.all (fun y => y.2 != .local || scope.names.lookup y.1 == some .local) &&
 scope.names.all (fun y => y.2 != .free || sx.names.lookup y.1 == some .cell || sx.names.lookup y.1 == some .free) && (mp.length == N.length) &&
 ((N.zip mp).all fun p => match p.2 with | none => true | some j => NX[j]? == some p.1 && scope.names.lookup p.1 == some .free)
structure CompOk (sx : Scope) (NX : List Str) (scope : Scope) (N : List Str) (mp : List (Option Nat)) : Prop where
 kind : scope.kind = .function
 cell : ∀ y ∈ scope.names, y.2 ≠ .cell
 names : ∀ y ∈ scope.names, y.2 = .local -> scope.names.lookup y.1 = some .local
 free : ∀ y ∈ scope.names, y.2 = .free -> sx.names.lookup y.1 = some .cell \/ sx.names.lookup y.1 = some .free
 len : mp.length = N.length
 look : ∀ (i j : Nat) (x : Str), mp[i]? = some (some j) -> N[i]? = some x -> NX[j]? = some x /\ scope.names.lookup x = some .free
theorem CompOk.of {sx : Scope} {NX : List Str} {scope : Scope} {N : List Str} {mp : List (Option Nat)} (h : compOkB sx NX scope N mp = true) : CompOk sx NX scope N mp := by
 unfold compOkB at h
 simp only [Bool.and_eq_true, List.all_eq_true] at h
 obtain ⟨⟨⟨⟨⟨h1, h2⟩, h3⟩, h4⟩, h5⟩, h6⟩ := h
 refine ⟨by simpa using h1, fun y hy => by simpa using h2 y hy, fun y hy e => ?_, fun y hy e => ?_, by simpa using h5, fun i j x e1 e2 => ?_⟩
 ·have := h3 y hy
  simpa [e] using this
 ·have := h4 y hy
  simpa [e] using this
 ·have hm : (x, some j) ∈ N.zip mp := by
   have : (N.zip mp)[i]? = some (x, some j) := by
    rw [List.getElem?_zip_eq_some]; exact ⟨e2, e1⟩
   exact List.mem_of_getElem? this
  have := h6 _ hm
  simpa using this
def startC (mp : List (Option Nat)) (σ : St) : St := mp.map fun o => match o with | none => none | some j => match σ[j]? with | some v => v | none => none
def compX (X : Cx) (scope : Scope) (C : Addr) (N : List Str) (s₀ : Shared) (H₀ : Hp) (fp : List Addr) : Cx :=
 { X with N := N, s₀ := s₀, H₀ := H₀, env := compEnvC scope (clOf X.env.cells scope.names []) C X.env, outer := X.stack, ex := fp, fn := fun _ => false, pn := [], xe := fun _ _ => False }
def PTs (X : Cx) (ifs : List Expr) (t : TT) : Prop :=
 ∀ (pins : List (Addr × Obj)) (s : Shared) (σ : St) (H : Hp) (Q : Bool -> Hp -> Prop), Inv X pins σ H s -> t σ H Q ->
  wpAny (model X.prog X.w) X.A (forIn ifs true fun c r => if r = true then do let ok <- isTrue c X.env (eval c X.env); pure (ForInStep.yield ok) else pure (ForInStep.yield r)) (TP X pins σ Q) X.xe s
def tNoTest : TT := fun _ H Q => Q true H
theorem pts_nil {X : Cx} : PTs X [] tNoTest := fun pins s σ H Q I h => wpAny_tests_nil ⟨H, I, h⟩
theorem pts_one {X : Cx} {c : Expr} {t : TT} (h : PT X c t) : PTs X [c] t := fun pins s σ H Q I q => wpAny_tests_one (h pins s σ H Q I q)
def CompW (J : It) (g : TG) (tc : TT) (te : TE) (acc : Addr) (Qe : Hp -> Prop) (σ : St) (H : Hp) : Prop := ∃ W : Nat -> Nat -> St -> Hp -> Prop, (∃ m, W 0 m σ H) /\ ∀ i m σ H, W i m σ H ->
 (J.stop i H /\ Qe H) \/ (J.go i H /\ ∃ Nx : St -> Hp -> Prop, (∀ σ' H', Nx σ' H' -> ∃ m', m' < m /\ W (i + 1) m' σ' H') /\ ∀ x H', J.yld i H x H' -> g x σ H' fun σ2 H2 => tc σ2 H2 fun b H3 =>
  if b = true then te σ2 H3 fun v H4 => ∃ ys, H4 acc = some (.lst ys) /\ ys.length < sizeLine /\ Nx σ2 (upd H4 acc (.lst (ys ++ [v]))) else Nx σ2 H3)
def tComp (wi : TI) (g : TG) (tc : TT) (te : TE) (mp : List (Option Nat)) : TE := fun σ H Q => wi σ H fun J H1 => ∀ acc, H1 acc = none -> CompW J g tc te acc (fun H' => Q (.ref acc) H') (startC mp σ) (upd H1 acc (.lst []))
section
variable {prog : Program} {w : World} {A : Around} {R : Result -> Shared -> Prop} {s : Shared}
theorem codeAny_compLoop_own {elt target iter : Expr} {ifs : List Expr} {scope : Scope} {pos : Pos} {it acc : Value} {env : Env} (I : Nat -> Shared -> Prop)
    (turn : ∀ n s, I n s -> wpAny (model prog w) A (pyNext it) (fun r s₁ => match r with
      | none => R (.ok .next) s₁
      | some v => wpAny (model prog w) A (letOwnedTupleGo target it v) (fun _ s₀ => wpAny (model prog w) A (assign target env v) (fun _ s₂ =>
          wpAny (model prog w) A (forIn ifs true fun c r => if r = true then do let ok <- isTrue c env (eval c env); pure (ForInStep.yield ok) else pure (ForInStep.yield r)) (fun ok s₃ =>
            if ok = true then wpAny (model prog w) A (eval elt env) (fun x s₄ =>
              wpAny (model prog w) A (call (.builtin "list.append") [acc, x]) (fun _ s₅ => ∃ m, m < n /\ I m s₅) (fun _ _ => False) s₄) (fun _ _ => False) s₃
            else ∃ m, m < n /\ I m s₃) (fun _ _ => False) s₂) (fun _ _ => False) s₀) (fun _ _ => False) s₁) (fun _ _ => False) s)
    (n : Nat) (h : I n s) :
    codeAny (model prog w) A (.compLoop (.ListComp elt [⟨target, iter, ifs, 0⟩] scope pos) 0 it acc env) R s := by
  refine codeAny_loop rfl I (fun n s hI => ?_) n h
  show wpAny _ A ((compTurn (.ListComp elt [⟨target, iter, ifs, 0⟩] scope pos) 0 it acc env).onRaise (fun x => do noteFrame x env; theTreesLotGoes x)) _ _ s
  refine wpAny_noted ?_
  rw [compTurn_list]
  refine wpAny_bind (wpAny_standAt (wpAny_bind (wpAny_mono (turn n s hI) (fun r s₁ h₁ => ?_) fun _ _ h' => h'.elim)))
  cases r with
  | none => exact wpAny_pure h₁
  | some v =>
    refine wpAny_bind (wpAny_mono h₁ (fun _ s₀ h₀ => ?_) fun _ _ h' => h'.elim)
    refine wpAny_bind (wpAny_mono h₀ (fun _ s₂ h₂ => wpAny_bind (wpAny_mono h₂ (fun ok s₃ h₃ => ?_) fun _ _ h' => h'.elim)) fun _ _ h' => h'.elim)
    cases ok with
    | false => exact wpAny_pure ⟨rfl, h₃⟩
    | true =>
      exact wpAny_bind (wpAny_bind (wpAny_mono h₃ (fun x s₄ h₄ => wpAny_bind (wpAny_mono h₄ (fun _ s₅ h₅ => wpAny_pure (wpAny_pure ⟨rfl, h₅⟩)) fun _ _ h' => h'.elim)) fun _ _ h' => h'.elim))
end
section
variable {X : Cx}
theorem comp_core {elt iter tg : Expr} {ifs : List Expr} {scope : Scope} {pos pos' : Pos} {N : List Str} {mp : List (Option Nat)} {wi : TI} {g : TG} {tc : TT} {te : TE} {use : Option (Value -> Sem Unit)}
    {pins : List (Addr × Obj)} {s : Shared} {σ : St} {H : Hp} {Q : VK} {QQ : Value -> Shared -> Prop}
    (ok : CompOk X.env.scope X.N scope N mp) (hc : X.calm = true) (hi : PI X tg iter wi)
    (hb : ∀ C s₀ H₀ fp, PG (compX X scope C N s₀ H₀ fp) tg g /\ PTs (compX X scope C N s₀ H₀ fp) ifs tc /\ PE (compX X scope C N s₀ H₀ fp) elt te)
    (hs : ∀ x, foldedSetIterable iter X.env x = pure x) (I : Inv X pins σ H s) (h : tComp wi g tc te mp σ H Q)
    (fin : ∀ acc C H' s' m, Inv X pins σ H' s' -> FpOk X pins H' C -> s'.heap.Ns C m -> Q (.ref acc) H' -> compPost (model X.prog X.w) X.A X.xe use QQ (.ref acc) C (.ok .next) s') :
    wpAny (model X.prog X.w) X.A (comprehension (.ListComp elt [⟨tg, iter, ifs, 0⟩] scope pos) scope X.env pos' (newList []) false (eval iter X.env) use) QQ X.xe s := by
  have hfree : ∀ x ∈ scope.names, x.2 = .free -> ∃ a, X.env.cells.lookup x.1 = some a := fun x hx e => I.ok.has x.1 (ok.free x hx e)
  refine wpAny_comprehension_free (use := use) rfl hs (closureFor_eq hfree) ok.kind ok.names (thn (hi pins s σ H _ I h) fun v s1 h1 => thn h1 fun itv s2 h2 => ?_)
  obtain ⟨it, fp, tn, J, H2, e, I2, T, st2, f2, hW⟩ := h2
  subst e
  refine wpAny_newObj_type (wpAny_newFunctionEnv ok.cell (by intro y hy; simp at hy) (fun h₁ hns₁ hsb₁ => ?_) ok.kind)
  dsimp only at hns₁ hsb₁ ⊢
  have I3 := I2.lnew (its := []) (ys := []) (t' := s2.toks) .nil (Nat.zero_le _)
  have hW := hW s2.heap.objs.size I2.fresh
  obtain ⟨W, ⟨m0, w0⟩, turn⟩ := hW
  generalize hHP : s2.heap.push { cls := .type "list", dict := none, data := .seq ([] : List Value).toArray } = HP at hns₁ hsb₁ ⊢
  have I3 : Inv X pins σ (upd H2 s2.heap.objs.size (.lst [])) { s2 with heap := HP } := by rw [<- hHP]; exact I3
  generalize hH3 : upd H2 s2.heap.objs.size (.lst []) = H3 at I3 w0
  have hC : HP.objs.size = s2.heap.objs.size + 1 := by rw [<- hHP, Heap.size_push]
  have old : ∀ b o, HP.get? b = some o -> h₁.get? b = some o := fun b o e => hsb₁.extBut b o (Nat.ne_of_lt (Heap.lt_size e)) (Heap.get?_push_of_some _ e)
  have flt : ∀ b ∈ fp, b < s2.heap.objs.size := fun b hb => by
    obtain ⟨o, e, _⟩ := T.obj 0 _ st2 b hb
    exact Heap.lt_size e
  have fH3 : ∀ b ∈ fp, H3 b = none := fun b hb => by
    rw [<- hH3, upd_ne (Nat.ne_of_lt (flt b hb))]
    exact (f2 b hb).1
  have clsub : ∀ {x : Str} {c : Addr}, (clOf X.env.cells scope.names []).lookup x = some c -> X.env.cells.lookup x = some c := fun {x c} e => clOf_sub (fun y d q => by simp at q) e
  have yok : (compX X scope HP.objs.size N { s2 with heap := HP } H3 fp).Ok := by
    refine ⟨I2.ok.mod, ok.kind, I2.ok.glob, I2.ok.blt, Nat.le_refl _, fun x y c e1 e2 => I2.ok.inj x y c (clsub e1) (clsub e2), fun x hx => ?_, (fun x c e => absurd (show false = true from e) (by decide)), I2.ok.hd, I2.ok.frames, .inl rfl, fun b hb => ?_, I3.bs, Nat.le_trans I3.ok.bsz I3.sz, fun b o e hb => ?_, fun b hb hz => ?_, I3.stack, I3.stkFree⟩
    · have hx' : scope.names.lookup x = some .free := by
        rcases hx with hx | hx
        · exact relabel_look ok.cell hx (.inl rfl)
        · exact relabel_look ok.cell hx (.inr rfl)
      have hm := PySem.mem_of_lookup hx'
      obtain ⟨a, ha⟩ := hfree _ hm rfl
      exact ⟨a, clOf_look hm ha⟩
    · refine ⟨fun z => ?_, fun x c e => (f2 b hb).2.2.2.2.1 x c (clsub e)⟩
      have z' : b = HP.objs.size := z
      have q := flt b hb
      rw [z', hC] at q
      exact absurd q (Nat.not_lt.mpr (Nat.le_succ _))
    · rcases (f2 b hb).2.2.2.1 with z | z
      · exact I2.ok.noex b o e z
      · exact absurd (Nat.lt_of_lt_of_le (Heap.lt_size (I2.ok.bs b o e).1) z) (Nat.lt_irrefl _)
    · rcases List.mem_cons.mp (I2.stkSub b hz) with z | z
      · exact (f2 b hb).2.1 z
      · exact (f2 b hb).2.2.1 z
  have IY : Inv (compX X scope HP.objs.size N { s2 with heap := HP } H3 fp) [] (startC mp σ) H3 { s2 with heap := h₁, toks := s2.toks + ([] : List (Str × Value)).length } := by
    refine ⟨yok, rfl, I2.bare, Un.kept old, ⟨_, hns₁, fun i x v e1 e2 e3 => ?_⟩, fun x c e => ?_, I3.hok.fresh (Nat.le_refl _), fun x c e => I3.freeC x c (clsub e), fun p hp => absurd (show p ∈ ([] : List (Addr × Obj)) from hp) (by simp), I3.hok.kept old, ?_⟩
    · have hj : ∃ j, mp[i]? = some (some j) /\ σ[j]? = some (some v) := by
        unfold startC at e2
        rw [List.getElem?_map] at e2
        cases q : mp[i]? with
        | none => rw [q] at e2; cases e2
        | some o =>
          rw [q] at e2
          cases o with
          | none => cases e2
          | some j =>
            refine ⟨j, rfl, ?_⟩
            have e2 : (match σ[j]? with | some v => v | none => none) = some v := Option.some.inj e2
            cases r : σ[j]? with
            | none => rw [r] at e2; cases e2
            | some u =>
              rw [r] at e2
              have e2 : u = some v := e2
              rw [e2]
      obtain ⟨j, hj1, hj2⟩ := hj
      obtain ⟨l1, l2⟩ := ok.look i j x hj1 e1
      have hm := PySem.mem_of_lookup l2
      have kx := ok.free _ hm rfl
      obtain ⟨mm, _, hl⟩ := I3.loc
      obtain ⟨u, ru, lk⟩ := hl j x v l1 hj2 (kx.elim (fun z => .inr (.inl z)) fun z => .inr (.inr z))
      refine ⟨u, ru, .inr ⟨relabel_free l2, ?_⟩⟩
      rcases lk with ⟨k, _⟩ | ⟨_, c, e, z⟩
      · exfalso
        have k' : X.env.scope.names.lookup x = some .local := k
        rcases kx with kx | kx
        · rw [k'] at kx; cases kx
        · rw [k'] at kx; cases kx
      · refine ⟨c, clOf_look hm e, ?_⟩
        obtain ⟨o, ho, hd⟩ := z
        exact ⟨o, old c o ho, hd⟩
    · obtain ⟨v, o, ho, hd⟩ := I3.cell x c (clsub e)
      exact ⟨v, o, old c o ho, hd⟩
    · show (startC mp σ).length = N.length
      unfold startC
      rw [List.length_map, ok.len]
  have stat : ∀ {H' : Hp}, (∀ b ∈ fp, H' b = none) -> ∀ b ∈ fp, FpOk (compX X scope HP.objs.size N { s2 with heap := HP } H3 fp) [] H' b := fun {H'} hn b hb =>
    ⟨hn b hb, (yok.exf b hb).1, yok.exfs b hb, .inl hb, (yok.exf b hb).2, fun p hp => absurd (show p ∈ ([] : List (Addr × Obj)) from hp) (by simp)⟩
  have stY : tn 0 h₁ := T.keep 0 _ _ st2 fun b hb o e => old b o (by rw [<- hHP]; exact Heap.get?_push_of_some _ e)
  have loop : codeAny (model X.prog X.w) X.A (.compLoop (.ListComp elt [⟨tg, iter, ifs, 0⟩] scope pos) 0 (.ref it) (.ref s2.heap.objs.size) (compEnvC scope (clOf X.env.cells scope.names []) HP.objs.size X.env))
      (compPost (model X.prog X.w) X.A X.xe use QQ (.ref s2.heap.objs.size) HP.objs.size) { s2 with heap := h₁, toks := s2.toks + ([] : List (Str × Value)).length } := by
    obtain ⟨hg, ht, he⟩ := hb HP.objs.size { s2 with heap := HP } H3 fp
    generalize hY : compX X scope HP.objs.size N { s2 with heap := HP } H3 fp = Y at hg ht he IY stat
    have yp : Y.prog = X.prog := by rw [<- hY]; rfl
    have yw : Y.w = X.w := by rw [<- hY]; rfl
    have yK : Y.K = X.K := by rw [<- hY]; rfl
    have yA : Y.A = X.A := by rw [<- hY]; rfl
    have yc : Y.calm = true := by rw [<- hY]; exact hc
    have yx : Y.xe = fun _ _ => False := by rw [<- hY]; rfl
    have yenv : Y.env = compEnvC scope (clOf X.env.cells scope.names []) HP.objs.size X.env := by rw [<- hY]; rfl
    rw [<- yenv]
    refine codeAny_compLoop_own (fun n s' => ∃ i σ' H', Inv Y [] σ' H' s' /\ tn i s'.heap /\ (∀ b ∈ fp, H' b = none) /\ W i n σ' H') ?_ m0 ⟨0, _, H3, IY, stY, fH3, w0⟩
    rintro n s3 ⟨i, σ3, H4, I4, st3, fr3, w3⟩
    rcases turn i n σ3 H4 w3 with ⟨stop, qn⟩ | ⟨go, Nx, hN, step⟩
    · have q0 := T.done Y yp yw yK yc i [] s3 σ3 H4 (fun _ _ => False) I4 (stat fr3) st3 stop
      rw [yA] at q0
      refine thn q0 fun r s4 ⟨hr, I5⟩ => ?_
      subst hr
      show compPost (model X.prog X.w) X.A X.xe use QQ (.ref s2.heap.objs.size) HP.objs.size (.ok .next) s4
      obtain ⟨m, hm, _⟩ := id I5.loc
      have yl : Y.env.locals = HP.objs.size := by rw [yenv]; rfl
      rw [yl] at hm
      have fC : H4 HP.objs.size = none := by have := I5.free; rw [yl] at this; exact this
      have ub := I5.base
      have ub' : Un (frs X.stack) fp H3 H4 HP s4.heap := by rw [<- hY] at ub; exact ub
      have hos : s4.os = s2.os := by have := I5.os; rw [<- hY] at this; exact this
      have hok5 : HOk X.prog X.w H4 s4.heap := by have := I5.hok; rw [yp, yw] at this; exact this
      have IX : Inv X pins σ H4 s4 := I3.call' (ch := fp) hos ub' hok5 I5.bare fun b hb => ⟨(f2 b hb).2.2.2.1, (f2 b hb).2.1, (f2 b hb).2.2.2.2.1, (f2 b hb).2.2.2.2.2⟩
      exact fin _ _ H4 s4 m IX (I3.fpOk (Nat.le_refl _) fC) hm qn
    · have q0 := T.item Y yp yw yK yc i [] s3 σ3 H4 (fun _ _ => False) I4 (stat fr3) st3 go
      rw [yA] at q0
      refine thn q0 fun r s4 ⟨u, hr, h4⟩ => ?_
      subst hr
      refine thn h4 fun _ s5 ⟨x, H5, I5, r5, y5, st5, fr5⟩ => ?_
      have I5' := I5.pinned (stat fr5) (T.obj _ _ st5)
      rw [<- yx, <- yp, <- yw, <- yA]
      refine thn (hg _ s5 σ3 H5 x u _ I5' r5 (step x H5 y5)) fun _ s6 ⟨σ6, H6, I6, q6⟩ => ?_
      refine thn (ht _ s6 σ6 H6 _ I6 q6) fun b s7 ⟨H7, I7, q7⟩ => ?_
      have again : ∀ {σ8 : St} {H8 : Hp} {s8 : Shared}, Inv Y ([] ++ pinsAt fp s5.heap) σ8 H8 s8 -> Nx σ8 H8 -> ∃ m, m < n /\ ∃ i σ' H', Inv Y [] σ' H' s8 /\ tn i s8.heap /\ (∀ b ∈ fp, H' b = none) /\ W i m σ' H' := fun {σ8 H8 s8} I8 n8 => by
        obtain ⟨m', hm, w8⟩ := hN σ8 H8 n8
        refine ⟨m', hm, i + 1, σ8, H8, I8.unpinned, T.keep _ _ _ st5 fun b hb o e => (I8.pin (b, o) (List.mem_append_right _ (List.mem_append_right _ (mem_pinsAt hb e)))).1, fun b hb => ?_, w8⟩
        obtain ⟨o, e, d⟩ := T.obj _ _ st5 b hb
        exact (I8.pin (b, o) (List.mem_append_right _ (List.mem_append_right _ (mem_pinsAt hb e)))).2.1
      cases b with
      | false =>
        rw [if_neg Bool.false_ne_true]
        rw [if_neg Bool.false_ne_true] at q7
        exact again I7 q7
      | true =>
        rw [if_pos rfl]
        rw [if_pos rfl] at q7
        refine thn (he _ s7 σ6 H7 _ I7 q7) fun v s8 ⟨y, H8, I8, r8, ys, e8, z8, n8⟩ => ?_
        refine thn (mt_append _ s8 σ6 H8 (.ref s2.heap.objs.size) [y] (.ref s2.heap.objs.size) [v] (fun _ H9 => H9 = upd H8 s2.heap.objs.size (.lst (ys ++ [y]))) I8 rfl (.cons r8 .nil) ⟨_, ys, y, rfl, rfl, e8, z8, rfl⟩) fun v9 s9 ⟨y9, H9, I9, r9, e9⟩ => ?_
        subst e9
        exact again I9 n8
  refine codeAny_compStart_list loop (T.self _ _ _ _ _ stY loop)
theorem FpOk.turned {pins : List (Addr × Obj)} {s : Shared} {σ : St} {H : Hp} {C : Addr} {h' : Heap} (I : Inv X pins σ H s) (f : FpOk X pins H C) (hs : Heap.SameBut C s.heap h') : Inv X pins σ H { s with heap := h' } :=
 I.turned (t' := s.toks) (fun b o hb e => (hs.2 b hb).trans e) f.1 f.2.1 f.2.2.2.1 f.2.2.2.2.1 f.2.2.2.2.2
theorem pe_lcomp {elt iter tg : Expr} {ifs : List Expr} {scope : Scope} {pos : Pos} {N : List Str} {mp : List (Option Nat)} {wi : TI} {g : TG} {tc : TT} {te : TE}
  (ok : CompOk X.env.scope X.N scope N mp) (hi : PI X tg iter wi)
  (hb : ∀ C s₀ H₀ fp, PG (compX X scope C N s₀ H₀ fp) tg g /\ PTs (compX X scope C N s₀ H₀ fp) ifs tc /\ PE (compX X scope C N s₀ H₀ fp) elt te) (hc : X.calm = true := by rfl)
  (hs : ∀ x, foldedSetIterable iter X.env x = pure x := by intro _; rfl) : PE X (.ListComp elt [⟨tg, iter, ifs, 0⟩] scope pos) (tComp wi g tc te mp) := by
 intro pins s σ H Q I h
 rw [eval_ListComp]
 refine comp_core (use := none) ok hc hi hb hs I h fun acc C H' s' m I' f hn q => ?_
 exact ⟨m, hn, fun h' hs' => ⟨.ref acc, H', f.turned I' hs', rfl, q⟩⟩
def tSetC (i : Nat) (t : TE) : TS := fun D σ H => t σ H fun v H' => D.nx (σ.set i (some v)) H'
theorem ps_setC {elt iter tg : Expr} {ifs : List Expr} {scope : Scope} {pos spos py : Pos} {N : List Str} {mp : List (Option Nat)} {wi : TI} {g : TG} {tc : TT} {te : TE} {i : Nat} {y : Str}
  (hN : X.N.Nodup) (hy : X.N[i]? = some y) (hk : X.env.kindOf y = some .local)
  (ok : CompOk X.env.scope X.N scope N mp) (hi : PI X tg iter wi)
  (hb : ∀ C s₀ H₀ fp, PG (compX X scope C N s₀ H₀ fp) tg g /\ PTs (compX X scope C N s₀ H₀ fp) ifs tc /\ PE (compX X scope C N s₀ H₀ fp) elt te) (hc : X.calm = true := by rfl)
  (hsw : swapsWith (.ListComp elt [⟨tg, iter, ifs, 0⟩] scope pos) (some (.Name y py)) spos.line X.env = pure true := by rfl)
  (hs : ∀ x, foldedSetIterable iter X.env x = pure x := by intro _; rfl) : PS X (.Assign [.Name y py] (.ListComp elt [⟨tg, iter, ifs, 0⟩] scope pos) spos) (tSetC i (tComp wi g tc te mp)) := by
 intro pins s σ H D I h
 rw [exec_Assign_Name_used _ _ _ _ hsw]
 refine wpAny_bind (wpAny_standAt (wpAny_bind ?_))
 show wpAny _ X.A (do let _ <- comprehension (.ListComp elt [⟨tg, iter, ifs, 0⟩] scope pos) scope X.env _ (newList []) false (eval iter X.env) (some (assign (.Name y py) X.env))) _ _ s
 refine wpAny_bind (wpAny_mono (comp_core (use := some (assign (.Name y py) X.env)) (QQ := fun _ s' => SP X pins D .next s') ok hc hi hb hs I h fun acc C H' s' m I' f hn q => ?_) (fun _ s' hq => wpAny_pure (wpAny_pure hq)) fun _ _ e => e)
 refine wpAny_assign_Name (store_ok2 (v := .ref acc) I' hN hy (.inl hk) rfl (fun s2 I2 ⟨a, sb, ha⟩ => ?_) (.inr hk))
 have hne : C ≠ a := by
  rcases ha with z | z
  ·rw [z]; exact f.2.1
  ·exact fun e => f.2.2.2.2.1 y a z e.symm
 exact ⟨m, hn.sameBut sb hne, fun h' hs' => ⟨_, H', f.turned I2 hs', q⟩⟩
end
def Sm (i : Int) : Prop := -(2 ^ 250) < i /\ i < 2 ^ 250
theorem sm_bits {i : Int} (h : Sm i) : Builtin.Int.intBits i <= 2 ^ 20 := by
 obtain ⟨h1, h2⟩ := h
 unfold Builtin.Int.intBits
 split
 ·exact Nat.zero_le _
 ·rename_i h0
  have hn : i.natAbs ≠ 0 := by
   intro e
   apply h0
   simp
   omega
  have h3 : i.natAbs < 2 ^ 250 := by omega
  have h4 : i.natAbs.log2 < 250 := (Nat.log2_lt hn).mpr h3
  have : (2 : Nat) ^ 20 = 1048576 := by decide
  omega
theorem sm_pylong {x y : Int} (h : Sm y) : Builtin.divisionGoesByPylong x y = false := by
 refine PyProof.noPylong_of_log2 ?_
 obtain ⟨h1, h2⟩ := h
 by_cases h0 : y.natAbs = 0
 ·rw [h0]; decide +kernel
 ·have h3 : y.natAbs < 2 ^ 250 := by omega
  have h4 : y.natAbs.log2 < 250 := (Nat.log2_lt h0).mpr h3
  omega
section
variable {X : Cx}
theorem op_fdivS : OpR X (binaryOp .FloorDiv) (rI (fun _ j => 0 < j /\ Sm j) fun i j => .int (i / j)) := opI fun i j _ _ _ _ _ hc q =>
 floordiv_int (by omega) (by rw [Int.fdiv_eq_ediv_of_nonneg _ (by omega)]; exact q) (.inl (sm_pylong hc.2))
theorem mt_bits : MtR X "int.bit_length" (fun x xs H Q => ∃ i, x = .int i /\ xs = [] /\ Q (.int (Builtin.Int.intBits i)) H) := by
 intro pins s σ H x xs v us Q I rx rv h
 obtain ⟨i, rfl, rfl, q⟩ := h
 obtain ⟨t, rfl⟩ := rx
 cases rv
 exact call_int_bit_length ⟨.int _, H, I.tok _, ⟨_, rfl⟩, q⟩
def rIsi (K : PySem.W.Frag) : List V -> Hp -> VK -> Prop := fun xs H Q => ∃ x T t b, xs = [x, .ty T] /\ TyOf K H x t /\ PySem.W.kitOne K t (.type T) = some b /\ Q (.bl b) H
theorem call_isi : CallR X (.builtin "isinstance") (rIsi X.K) := by
 intro pins s σ H xs us Q I rv h
 obtain ⟨x, T, t, b, rfl, ty, e, q⟩ := h
 obtain ⟨u, v, rfl, ru, rv⟩ := rv.two
 cases (show v = Value.type T from rv)
 exact isinst_ok I ru ty e fun tk => ⟨.bl b, H, I.tok tk, rfl, q⟩
def KeyD : PyData -> Key -> Prop
 | .int i, k => k = .inl i
 | .str x, k => k = .inr x
 | _, _ => False
mutual
def IsD (nb : Addr -> Prop) (H : Hp) : PyData -> V -> Prop
 | .none, v => v = .non
 | .bool b, v => v = .bl b
 | .int i, v => v = .int i
 | .str x, v => v = .str x
 | .list ds, v => ∃ a xs, v = .ref a /\ ¬ nb a /\ H a = some (.lst xs) /\ IsDs nb H ds xs
 | .tuple ds, v => ∃ a xs, v = .ref a /\ ¬ nb a /\ H a = some (.tup xs) /\ IsDs nb H ds xs
 | .dict kvs, v => ∃ a ps, v = .ref a /\ ¬ nb a /\ Rd H a (.dK ps) /\ IsKs nb H kvs ps
termination_by structural d => d
def IsDs (nb : Addr -> Prop) (H : Hp) : List PyData -> List V -> Prop
 | [], xs => xs = []
 | d :: ds, xs => ∃ y ys, xs = y :: ys /\ IsD nb H d y /\ IsDs nb H ds ys
termination_by structural d => d
def IsKs (nb : Addr -> Prop) (H : Hp) : List (PyData × PyData) -> List (Key × V) -> Prop
 | [], xs => xs = []
 | d :: ds, xs => ∃ p ys, xs = p :: ys /\ IsK nb H d p /\ IsKs nb H ds ys
termination_by structural d => d
def IsK (nb : Addr -> Prop) (H : Hp) : PyData × PyData -> Key × V -> Prop
 | (k, d), p => KeyD k p.1 /\ IsD nb H d p.2
termination_by structural d => d
end
def But (nb : Addr -> Prop) (H H' : Hp) : Prop := ∀ a o, ¬ nb a -> H a = some o -> H' a = some o
def Nb (b : Addr) : Addr -> Prop := fun a => a = b
section
variable {nb nb' : Addr -> Prop} {H H1 H2 H' : Hp} {a b c p : Addr} {o : HO} {xs : List V}
theorem But.refl (nb : Addr -> Prop) (H : Hp) : But nb H H := fun _ _ _ h => h
theorem But.trans (x : But nb H H1) (y : But nb H1 H2) : But nb H H2 := fun a o n h => y a o n (x a o n h)
theorem But.of (x : Same H H') : But nb H H' := fun a o _ h => x a o h
theorem But.set (h : nb p) : But nb H (upd H p o) := fun a u n q => by rw [upd_ne (fun e => n (by rw [e]; exact h))]; exact q
theorem But.rd {u : HO} (x : But nb H H') (n : ¬ nb a) (h : Rd H a u) : Rd H' a u := by
 rcases h with h | ⟨o, h⟩
 ·exact .inl (x _ _ n h)
 ·exact .inr ⟨o, x _ _ n h⟩
end
mutual
theorem IsD.keep {nb : Addr -> Prop} {H H' : Hp} (x : But nb H H') : ∀ {d : PyData} {v : V}, IsD nb H d v -> IsD nb H' d v
 | .none, _, h => by unfold IsD at h ⊢; exact h
 | .bool _, _, h => by unfold IsD at h ⊢; exact h
 | .int _, _, h => by unfold IsD at h ⊢; exact h
 | .str _, _, h => by unfold IsD at h ⊢; exact h
 | .list ds, _, h => by unfold IsD at h ⊢; obtain ⟨a, xs, e, n, s, r⟩ := h; exact ⟨a, xs, e, n, x _ _ n s, IsDs.keep x r⟩
 | .tuple ds, _, h => by unfold IsD at h ⊢; obtain ⟨a, xs, e, n, s, r⟩ := h; exact ⟨a, xs, e, n, x _ _ n s, IsDs.keep x r⟩
 | .dict kvs, _, h => by unfold IsD at h ⊢; obtain ⟨a, xs, e, n, s, r⟩ := h; exact ⟨a, xs, e, n, x.rd n s, IsKs.keep x r⟩
theorem IsDs.keep {nb : Addr -> Prop} {H H' : Hp} (x : But nb H H') : ∀ {ds : List PyData} {vs : List V}, IsDs nb H ds vs -> IsDs nb H' ds vs
 | [], _, h => by unfold IsDs at h ⊢; exact h
 | d :: ds, _, h => by unfold IsDs at h ⊢; obtain ⟨y, ys, e, h1, h2⟩ := h; exact ⟨y, ys, e, IsD.keep x h1, IsDs.keep x h2⟩
theorem IsKs.keep {nb : Addr -> Prop} {H H' : Hp} (x : But nb H H') : ∀ {ds : List (PyData × PyData)} {vs : List (Key × V)}, IsKs nb H ds vs -> IsKs nb H' ds vs
 | [], _, h => by unfold IsKs at h ⊢; exact h
 | d :: ds, _, h => by unfold IsKs at h ⊢; obtain ⟨y, ys, e, h1, h2⟩ := h; exact ⟨y, ys, e, IsK.keep x h1, IsKs.keep x h2⟩
theorem IsK.keep {nb : Addr -> Prop} {H H' : Hp} (x : But nb H H') : ∀ {d : PyData × PyData} {v : Key × V}, IsK nb H d v -> IsK nb H' d v
 | (k, d), _, h => by unfold IsK at h ⊢; exact ⟨h.1, IsD.keep x h.2⟩
end
mutual
theorem IsD.av {nb nb' : Addr -> Prop} {H : Hp} (x : ∀ a, nb' a -> nb a) : ∀ {d : PyData} {v : V}, IsD nb H d v -> IsD nb' H d v
 | .none, _, h => by unfold IsD at h ⊢; exact h
 | .bool _, _, h => by unfold IsD at h ⊢; exact h
 | .int _, _, h => by unfold IsD at h ⊢; exact h
 | .str _, _, h => by unfold IsD at h ⊢; exact h
 | .list ds, _, h => by unfold IsD at h ⊢; obtain ⟨a, xs, e, n, s, r⟩ := h; exact ⟨a, xs, e, fun z => n (x a z), s, IsDs.av x r⟩
 | .tuple ds, _, h => by unfold IsD at h ⊢; obtain ⟨a, xs, e, n, s, r⟩ := h; exact ⟨a, xs, e, fun z => n (x a z), s, IsDs.av x r⟩
 | .dict kvs, _, h => by unfold IsD at h ⊢; obtain ⟨a, xs, e, n, s, r⟩ := h; exact ⟨a, xs, e, fun z => n (x a z), s, IsKs.av x r⟩
theorem IsDs.av {nb nb' : Addr -> Prop} {H : Hp} (x : ∀ a, nb' a -> nb a) : ∀ {ds : List PyData} {vs : List V}, IsDs nb H ds vs -> IsDs nb' H ds vs
 | [], _, h => by unfold IsDs at h ⊢; exact h
 | d :: ds, _, h => by unfold IsDs at h ⊢; obtain ⟨y, ys, e, h1, h2⟩ := h; exact ⟨y, ys, e, IsD.av x h1, IsDs.av x h2⟩
theorem IsKs.av {nb nb' : Addr -> Prop} {H : Hp} (x : ∀ a, nb' a -> nb a) : ∀ {ds : List (PyData × PyData)} {vs : List (Key × V)}, IsKs nb H ds vs -> IsKs nb' H ds vs
 | [], _, h => by unfold IsKs at h ⊢; exact h
 | d :: ds, _, h => by unfold IsKs at h ⊢; obtain ⟨y, ys, e, h1, h2⟩ := h; exact ⟨y, ys, e, IsK.av x h1, IsKs.av x h2⟩
theorem IsK.av {nb nb' : Addr -> Prop} {H : Hp} (x : ∀ a, nb' a -> nb a) : ∀ {d : PyData × PyData} {v : Key × V}, IsK nb H d v -> IsK nb' H d v
 | (k, d), _, h => by unfold IsK at h ⊢; exact ⟨h.1, IsD.av x h.2⟩
end
mutual
theorem IsD.fresh {nb : Addr -> Prop} {H : Hp} {p : Addr} (hp : H p = none) : ∀ {d : PyData} {v : V}, IsD nb H d v -> IsD (fun a => nb a \/ a = p) H d v
 | .none, _, h => by unfold IsD at h ⊢; exact h
 | .bool _, _, h => by unfold IsD at h ⊢; exact h
 | .int _, _, h => by unfold IsD at h ⊢; exact h
 | .str _, _, h => by unfold IsD at h ⊢; exact h
 | .list ds, _, h => by unfold IsD at h ⊢; obtain ⟨a, xs, e, n, s, r⟩ := h; exact ⟨a, xs, e, fun z => z.elim n (ne_of_none s hp), s, IsDs.fresh hp r⟩
 | .tuple ds, _, h => by unfold IsD at h ⊢; obtain ⟨a, xs, e, n, s, r⟩ := h; exact ⟨a, xs, e, fun z => z.elim n (ne_of_none s hp), s, IsDs.fresh hp r⟩
 | .dict kvs, _, h => by unfold IsD at h ⊢; obtain ⟨a, xs, e, n, s, r⟩ := h; exact ⟨a, xs, e, fun z => z.elim n (s.elim (fun s => ne_of_none s hp) fun ⟨_, s⟩ => ne_of_none s hp), s, IsKs.fresh hp r⟩
theorem IsDs.fresh {nb : Addr -> Prop} {H : Hp} {p : Addr} (hp : H p = none) : ∀ {ds : List PyData} {vs : List V}, IsDs nb H ds vs -> IsDs (fun a => nb a \/ a = p) H ds vs
 | [], _, h => by unfold IsDs at h ⊢; exact h
 | d :: ds, _, h => by unfold IsDs at h ⊢; obtain ⟨y, ys, e, h1, h2⟩ := h; exact ⟨y, ys, e, IsD.fresh hp h1, IsDs.fresh hp h2⟩
theorem IsKs.fresh {nb : Addr -> Prop} {H : Hp} {p : Addr} (hp : H p = none) : ∀ {ds : List (PyData × PyData)} {vs : List (Key × V)}, IsKs nb H ds vs -> IsKs (fun a => nb a \/ a = p) H ds vs
 | [], _, h => by unfold IsKs at h ⊢; exact h
 | d :: ds, _, h => by unfold IsKs at h ⊢; obtain ⟨y, ys, e, h1, h2⟩ := h; exact ⟨y, ys, e, IsK.fresh hp h1, IsKs.fresh hp h2⟩
theorem IsK.fresh {nb : Addr -> Prop} {H : Hp} {p : Addr} (hp : H p = none) : ∀ {d : PyData × PyData} {v : Key × V}, IsK nb H d v -> IsK (fun a => nb a \/ a = p) H d v
 | (k, d), _, h => by unfold IsK at h ⊢; exact ⟨h.1, IsD.fresh hp h.2⟩
end
mutual
theorem IsD.reads {pins : List (Addr × Obj)} {σ : St} {H : Hp} {s : Shared} {nb : Addr -> Prop} (I : Inv X pins σ H s) : ∀ {d : PyData} {v : V} {u : Value}, IsD nb H d v -> RelV v u -> d.canLay0 = true -> ∃ as, Reads s.heap u d as
  | .none, _, _, h, r, _ => by unfold IsD at h; subst h; cases r; exact ⟨_, .none⟩
  | .bool _, _, _, h, r, _ => by unfold IsD at h; subst h; cases r; exact ⟨_, .bool _⟩
  | .int _, _, _, h, r, _ => by unfold IsD at h; subst h; obtain ⟨t, rfl⟩ := r; exact ⟨_, .int _ _⟩
  | .str _, _, _, h, r, _ => by unfold IsD at h; subst h; obtain ⟨t, rfl⟩ := r; exact ⟨_, .str _ _⟩
  | .list ds, _, _, h, r, hc0 => by
    unfold IsD at h
    obtain ⟨a, xs, rfl, n, s, q⟩ := h
    cases r
    obtain ⟨its, rv, p, hz⟩ := I.list (SqL.of s)
    obtain ⟨as, ra⟩ := IsDs.reads I q rv (by simpa only [PyData.canLay0] using hc0)
    obtain ⟨o, ho, hc, m, hd⟩ := p.isList
    exact ⟨_, .list ho hc hd (by simpa using ra)⟩
  | .tuple ds, _, _, h, r, hc0 => by
    unfold IsD at h
    obtain ⟨a, xs, rfl, n, s, q⟩ := h
    cases r
    obtain ⟨its, rv, p, hz⟩ := I.tuple (SqT.of s)
    obtain ⟨as, ra⟩ := IsDs.reads I q rv (by simpa only [PyData.canLay0] using hc0)
    obtain ⟨o, ho, hc, m, hd⟩ := p
    exact ⟨_, .tuple ho hc hd (by simpa using ra)⟩
  | .dict _, _, _, h, r, hc0 => by simp [PyData.canLay0] at hc0
theorem IsDs.reads {pins : List (Addr × Obj)} {σ : St} {H : Hp} {s : Shared} {nb : Addr -> Prop} (I : Inv X pins σ H s) : ∀ {ds : List PyData} {vs : List V} {us : List Value}, IsDs nb H ds vs -> Vals vs us -> PyData.canLayAll0 ds = true -> ∃ as, ReadsAll s.heap us ds as
  | [], _, _, h, r, _ => by unfold IsDs at h; subst h; cases r; exact ⟨_, .nil⟩
  | d :: ds, _, _, h, r, hc0 => by
    rw [PyData.canLayAll0, Bool.and_eq_true] at hc0
    unfold IsDs at h
    obtain ⟨y, ys, rfl, h1, h2⟩ := h
    cases r with
    | cons r1 r2 =>
      obtain ⟨as, q1⟩ := IsD.reads I h1 r1 hc0.1
      obtain ⟨bs, q2⟩ := IsDs.reads I h2 r2 hc0.2
      exact ⟨_, .cons q1 q2⟩
end
def rEqD (neg : Bool) : R2 := fun x y H Q => ∃ nb d e, IsD nb H d x /\ IsD nb H e y /\ SeqAt.shaped d = true /\ SeqAt.shaped e = true /\ Q (.bl (PyData.eqv d e != neg)) H
theorem op_eqD (hu : X.A.units + 64 < cLine) : OpR X (compareOp .Eq) (rEqD false) := by
 intro pins s σ H x y v u Q I rx ry h
 obtain ⟨nb, d, e, h1, h2, h3, h4, q⟩ := h
 obtain ⟨as, r1⟩ := h1.reads I rx (SeqAt.canLay_of_shaped h3)
 obtain ⟨bs, r2⟩ := h2.reads I ry (SeqAt.canLay_of_shaped h4)
 exact eq_dataH r1 r2 h3 h4 hu ⟨.bl _, H, I, rfl, by simpa using q⟩
end
structure Callee (P : Program) (w : World) (K : PySem.W.Frag) (mg : Str -> Option Value) (base : Heap) (x : Str) (k : Nat) (ps : List Str) (sp : Sp) : Prop where
 ex : ∃ f fd, FnOk P w K mg base CX0 k f fd ps sp /\ Binds K fd ps [] /\ PySem.W.keepIn K (.ref f) = true /\ mg x = some (.ref f)
theorem pe_callC {X : Cx} {x : Str} {k : Nat} {ps : List Str} {sp : Sp} {p pos : Pos} {e : Expr} {es : List Expr} {t : TA} (c : Callee X.prog X.w X.K X.mg X.base x k ps sp) (hr : Room k X.A) (ha : PA X (e :: es) t) (hg : Gl X x := by rfl)
  (hdb : (x == ("__debug__" : Str)) = false := by decide) (he : starEach (e :: es) X.env = (false, eval e X.env) :: starEach es X.env := by rfl) (hpl : (backTo pos (starEach es X.env)).any (·.1) = false := by rfl) :
  PE X (.Call (.Name x p) (e :: es) [] pos) (tCall sp [] E0 t) := by
 obtain ⟨f, fd, F, b, kp, m⟩ := c.ex
 exact pe_call F hr hg m kp b .nil pass0 ha hdb he hpl
theorem Callee.mk' {P : Program} {w : World} {K : PySem.W.Frag} {mg : Str -> Option Value} {base : Heap} {x : Str} {st : Stmt} {k : Nat} {ps : List Str} {sp : Sp} {f : Addr} {fd : FuncData} (F : Fun K x x st f fd) (ok : FnOk P w K mg base CX0 k f fd ps sp) (b : Binds K fd ps [])
  (m : mg x = some (.ref f)) : Callee P w K mg base x k ps sp := ⟨f, fd, ok, b, F.kp, m⟩
end L2
set_option maxRecDepth 100000
set_option maxHeartbeats 1000000
namespace L2
open PySem PySem.Spec PyProof.Rows
section
variable {X : Cx}
theorem op_mulA : OpR X (binaryOp .Mult) (rI (fun i j => CMul i j \/ (Sm i /\ Sm j)) fun i j => .int (i * j)) := opI fun _ _ _ _ _ _ _ hc q => mul_int q (by
 rcases hc with hc | hc
 ·exact hc.ok
 ·exact IntMulOk.of_bits (sm_bits hc.1) (sm_bits hc.2))
end
def BagAt (H : Hp) (b l : Addr) : Prop := ∃ (ns : List Int) (i c st n : Int), H b = some (.lst [.ref l, .int i, .int c, .int st, .int n]) /\ H l = some (.lst (ns.map V.int)) /\
 (∀ x ∈ ns, 0 <= x /\ x < 10 ^ 60) /\ ns.length <= 63 /\ 0 <= i /\ 0 <= c /\ c < 10 ^ 60 /\ 0 <= st /\ st < 2147483647
theorem bag_ne {H : Hp} {b l : Addr} {ns : List Int} {i c st n : V} (h : H b = some (.lst [.ref l, i, c, st, n])) (h' : H l = some (.lst (ns.map V.int))) : l ≠ b := by
 intro e
 subst e
 rw [h] at h'
 have e := HO.lst.inj (Option.some.inj h')
 cases ns with
 | nil => cases e
 | cons x r => rw [List.map_cons] at e; cases (List.cons.inj e).1
theorem BagAt.put {H : Hp} {b l : Addr} {ns : List Int} {i c st n : Int} (hl : l ≠ b) (h' : H l = some (.lst (ns.map V.int))) (h1 : ∀ x ∈ ns, 0 <= x /\ x < 10 ^ 60) (h2 : ns.length <= 63)
  (h3 : 0 <= i) (h4 : 0 <= c) (h5 : c < 10 ^ 60) (h6 : 0 <= st) (h7 : st < 2147483647) : BagAt (upd H b (.lst [.ref l, .int i, .int c, .int st, .int n])) b l :=
 ⟨ns, i, c, st, n, upd_same, by rw [upd_ne hl]; exact h', h1, h2, h3, h4, h5, h6, h7⟩
theorem BagAt.put2 {H : Hp} {b l p : Addr} {o : HO} (h : BagAt H b l) (hp : p ≠ b /\ p ≠ l) : BagAt (upd H p o) b l := by
 obtain ⟨ns, i, c, st, n, h1, h2, r⟩ := h
 exact ⟨ns, i, c, st, n, by rw [upd_ne (Ne.symm hp.1)]; exact h1, by rw [upd_ne (Ne.symm hp.2)]; exact h2, r⟩
theorem BagAt.same {H H' : Hp} {b l : Addr} (h : BagAt H b l) (s : Same H H') : BagAt H' b l := by
 obtain ⟨ns, i, c, st, n, h1, h2, r⟩ := h
 exact ⟨ns, i, c, st, n, s _ _ h1, s _ _ h2, r⟩
def spDraw : Sp := fun vs H Q _ => ∃ (b l : Addr) (many : Int), vs = [.ref b, .int many] /\ BagAt H b l /\ 0 < many /\ Sm many /\ ∀ (r : Int) (H' : Hp), 0 <= r -> r < many -> But (Nb b) H H' -> BagAt H' b l -> Q (.int r) H'
def spBag (K : PySem.W.Frag) : Sp := fun vs H Q _ => ∃ (a : Addr) (ns : List Int), vs = [.ref a] /\ SqL K H a (ns.map V.int) /\ ns.length <= 63 /\ ∀ (b l : Addr) (H' : Hp), Same H H' -> H b = none -> BagAt H' b l -> Q (.ref b) H'
theorem atI_some {α : Type} {xs : List α} {i : Int} {v : α} (h0 : 0 <= i) (h : xs[i.toNat]? = some v) : atI xs i = some v := by
 have e : i = ((i.toNat : Nat) : Int) := by omega
 rw [e]
 exact atI_nat h
theorem same_new {H : Hp} {p : Addr} {o : HO} (h : H p = none) : Same H (upd H p o) := fun b u q => by rw [upd_ne (ne_of_none q h)]; exact q
section
variable {nb : Addr -> Prop} {H H' : Hp}
theorem IsDs.length : ∀ {ds : List PyData} {xs : List V}, IsDs nb H ds xs -> xs.length = ds.length
 | [], _, h => by unfold IsDs at h; subst h; rfl
 | d :: ds, _, h => by unfold IsDs at h; obtain ⟨y, ys, rfl, _, h2⟩ := h; simp [IsDs.length h2]
theorem IsDs.get : ∀ {ds : List PyData} {xs : List V} {i : Nat} {d : PyData}, IsDs nb H ds xs -> ds[i]? = some d -> ∃ x, xs[i]? = some x /\ IsD nb H d x
 | [], _, _, _, _, e => by simp at e
 | d :: ds, _, 0, _, h, e => by unfold IsDs at h; obtain ⟨y, ys, rfl, h1, h2⟩ := h; simp at e; subst e; exact ⟨y, rfl, h1⟩
 | d :: ds, _, i + 1, _, h, e => by unfold IsDs at h; obtain ⟨y, ys, rfl, h1, h2⟩ := h; simpa using IsDs.get (i := i) h2 (by simpa using e)
theorem IsDs.snoc {d : PyData} {x : V} (hd : IsD nb H d x) : ∀ {ds : List PyData} {xs : List V}, IsDs nb H ds xs -> IsDs nb H (ds ++ [d]) (xs ++ [x])
 | [], _, h => by unfold IsDs at h; subst h; unfold IsDs; exact ⟨x, [], rfl, hd, by unfold IsDs; rfl⟩
 | e :: ds, _, h => by unfold IsDs at h; obtain ⟨y, ys, rfl, h1, h2⟩ := h; show IsDs nb H (e :: (ds ++ [d])) _; unfold IsDs; exact ⟨y, ys ++ [x], rfl, h1, IsDs.snoc hd h2⟩
theorem IsDs.append : ∀ {ds es : List PyData} {xs ys : List V}, IsDs nb H ds xs -> IsDs nb H es ys -> IsDs nb H (ds ++ es) (xs ++ ys)
 | [], _, _, _, h, h' => by unfold IsDs at h; subst h; exact h'
 | e :: ds, es, _, zs, h, h' => by unfold IsDs at h; obtain ⟨y, ys, rfl, h1, h2⟩ := h; show IsDs nb H (e :: (ds ++ es)) _; unfold IsDs; exact ⟨y, ys ++ zs, rfl, h1, IsDs.append h2 h'⟩
theorem IsDs.take : ∀ {ds : List PyData} {xs : List V} (n : Nat), IsDs nb H ds xs -> IsDs nb H (ds.take n) (xs.take n)
 | _, _, 0, _ => by simp only [List.take_zero]; unfold IsDs; rfl
 | [], _, n + 1, h => by unfold IsDs at h; subst h; simp only [List.take_nil]; unfold IsDs; rfl
 | d :: ds, _, n + 1, h => by unfold IsDs at h; obtain ⟨y, ys, rfl, h1, h2⟩ := h; simp only [List.take_succ_cons]; unfold IsDs; exact ⟨y, _, rfl, h1, IsDs.take n h2⟩
theorem IsDs.drop : ∀ {ds : List PyData} {xs : List V} (n : Nat), IsDs nb H ds xs -> IsDs nb H (ds.drop n) (xs.drop n)
 | _, _, 0, h => h
 | [], _, n + 1, h => by unfold IsDs at h; subst h; simp only [List.drop_nil]; unfold IsDs; rfl
 | d :: ds, _, n + 1, h => by unfold IsDs at h; obtain ⟨y, ys, rfl, h1, h2⟩ := h; simp only [List.drop_succ_cons]; exact IsDs.drop n h2
theorem IsDs.nil : IsDs nb H [] [] := by unfold IsDs; rfl
theorem IsDs.cons {d : PyData} {x : V} {ds : List PyData} {xs : List V} (h1 : IsD nb H d x) (h2 : IsDs nb H ds xs) : IsDs nb H (d :: ds) (x :: xs) := by unfold IsDs; exact ⟨x, xs, rfl, h1, h2⟩
theorem IsD.int (i : Int) : IsD nb H (.int i) (.int i) := by unfold IsD; rfl
theorem IsD.non : IsD nb H .none .non := by unfold IsD; rfl
theorem IsD.bl (b : Bool) : IsD nb H (.bool b) (.bl b) := by unfold IsD; rfl
theorem IsD.lst {a : Addr} {ds : List PyData} {xs : List V} (n : ¬ nb a) (h : H a = some (.lst xs)) (hd : IsDs nb H ds xs) : IsD nb H (.list ds) (.ref a) := by unfold IsD; exact ⟨a, xs, rfl, n, h, hd⟩
theorem IsD.tup {a : Addr} {ds : List PyData} {xs : List V} (n : ¬ nb a) (h : H a = some (.tup xs)) (hd : IsDs nb H ds xs) : IsD nb H (.tuple ds) (.ref a) := by unfold IsD; exact ⟨a, xs, rfl, n, h, hd⟩
theorem IsD.ofL {v : V} {ds : List PyData} (h : IsD nb H (.list ds) v) : ∃ a xs, v = .ref a /\ ¬ nb a /\ H a = some (.lst xs) /\ IsDs nb H ds xs := by unfold IsD at h; exact h
theorem IsD.ofT {v : V} {ds : List PyData} (h : IsD nb H (.tuple ds) v) : ∃ a xs, v = .ref a /\ ¬ nb a /\ H a = some (.tup xs) /\ IsDs nb H ds xs := by unfold IsD at h; exact h
theorem IsD.ofI {v : V} {i : Int} (h : IsD nb H (.int i) v) : v = .int i := by unfold IsD at h; exact h
theorem IsD.ofN {v : V} (h : IsD nb H .none v) : v = .non := by unfold IsD at h; exact h
end
def spWhole : Sp := fun vs H Q _ => ∃ i : Int, vs = [.int i] /\ Q (.bl true) H
def spLaw (K : PySem.W.Frag) : Sp := fun vs H Q _ => ∃ (a : Addr) (ns : List Int), vs = [.ref a] /\ SqL K H a (ns.map V.int) /\ ns.length <= 63 /\ ∀ H', Q (.bl true) H'
end L2
set_option maxRecDepth 100000
set_option maxHeartbeats 1000000
namespace L2
open PySem PySem.Spec PyProof.Rows
def mkL (Q : VK) : List V -> Hp -> Prop := fun xs H1 => xs.length <= sizeLine /\ ∀ p, H1 p = none -> Q (.ref p) (upd H1 p (.lst xs))
def rListOf (K : PySem.W.Frag) : List V -> Hp -> VK -> Prop := fun xs H Q => ∃ p ys, xs = [.ref p] /\ (SqL K H p ys \/ SqT K H p ys) /\ ∀ l, H l = none -> Q (.ref l) (upd H l (.lst ys))
theorem call_listM {X : Cx} : CallR X (.type "list") (rListOf X.K) := call_list_of
def rIs : R2 := fun x y H Q => y = .non /\ Q (.bl (decide (x = .non))) H
def rIsNot : R2 := fun x y H Q => y = .non /\ Q (.bl (!decide (x = .non))) H
theorem op_isM {X : Cx} : OpR X (compareOp .Is) rIs := op_isN
theorem op_notM {X : Cx} : OpR X (compareOp .IsNot) rIsNot := op_notN
def intOf : Expr -> Option Int
 | .Constant (.int i) _ _ => some i
 | _ => none
theorem intOf_eq {e : Expr} {i : Int} (h : intOf e = some i) : ∃ k p, e = .Constant (.int i) k p := by
 unfold intOf at h
 split at h
 ·cases h; exact ⟨_, _, rfl⟩
 ·cases h
def constInts : List Expr -> Option (List Int)
 | [] => some []
 | e :: r => (intOf e).bind fun i => (constInts r).map (i :: ·)
def tInts (is : List Int) : TA := fun _ H Q => Q (is.map V.int) H
theorem pa_consts {X : Cx} : ∀ {es : List Expr} {is : List Int}, constInts es = some is -> PA X es (tInts is) := by
  intro es
  induction es with
  | nil =>
    intro is h
    have e : is = [] := by simpa [constInts] using h.symm
    subst e
    exact pa_nil
  | cons e r ih =>
    intro is h
    unfold constInts at h
    cases hi : intOf e with
    | none => rw [hi] at h; cases h
    | some i =>
      rw [hi] at h
      obtain ⟨k, p, rfl⟩ := intOf_eq hi
      obtain ⟨js, hj, rfl⟩ := Option.map_eq_some_iff.mp (show (constInts r).map (i :: ·) = some is from h)
      exact pa_cons (te := tC (.int i)) (t := tInts js) pe_int (ih hj)
theorem ps_setInts {X : Cx} {i : Nat} {x : Str} {es : List Expr} {is : List Int} {p1 p2 p3 : Pos} (hN : X.N.Nodup) (hi : X.N[i]? = some x) (hx : Loc X.env.scope x) (h : constInts es = some is) (hf : X.fn x = true \/ X.env.scope.names.lookup x = some .local) :
  PS X (.Assign [.Name x p1] (.List es p2) p3) (tAsg (tLst (tInts is)) (gName i)) := ps_set hN hi hx (pe_lst (pa_consts h)) rfl hf
namespace R
section
variable {σ : St} {H : Hp} {Q : VK} {D : Ends} {ta tb te : TE} {K : PySem.W.Frag}
theorem seq {t u : TS} (h : t { D with nx := u D } σ H) : tSeq t u D σ H := h
theorem asg {g : TG} (h : te σ H fun x H1 => g x σ H1 D.nx) : tAsg te g D σ H := h
theorem ifS {c : TT} {t u : TS} (h : c σ H fun b H1 => if b = true then t D σ H1 else u D σ H1) : tIfS c t u D σ H := h
theorem ret (h : te σ H D.rt) : tRet te D σ H := h
theorem next (h : D.nx σ H) : tNext D σ H := h
theorem var {i : Nat} {v : V} (e : σ[i]? = some (some v)) (h : Q v H) : tVar i σ H Q := ⟨v, e, h⟩
theorem c {v : V} (h : Q v H) : tC v σ H Q := h
theorem op {r : R2} (h : ta σ H fun x H1 => tb σ H1 fun y H2 => r x y H2 Q) : tOp r ta tb σ H Q := h
theorem test {q : Bool -> Hp -> Prop} (h : te σ H fun x H' => ∃ k, x = .bl k /\ q k H') : tTest te σ H q := h
theorem bl {P : Bool -> Prop} {b : Bool} (h : P b) : ∃ k, V.bl b = .bl k /\ P k := ⟨b, rfl, h⟩
theorem and {t u : TT} {q : Bool -> Hp -> Prop} (h : t σ H fun c H1 => if c = true then u σ H1 q else q false H1) : tAnd t u σ H q := h
theorem cb {r : List V -> Hp -> VK -> Prop} {t : TA} (h : t σ H fun vs H1 => r vs H1 Q) : tCB r t σ H Q := h
theorem call {sp : Sp} {t : TA} (h : t σ H fun vs H1 => sp (vs ++ []) H1 Q E0) : tCall sp [] E0 t σ H Q := h
theorem nil {q : List V -> Hp -> Prop} (h : q [] H) : tNil σ H q := h
theorem cons {t : TA} {q : List V -> Hp -> Prop} (h : ta σ H fun x H1 => t σ H1 fun xs H2 => q (x :: xs) H2) : tCons ta t σ H q := h
theorem lst {t : TA} (h : t σ H (mkL Q)) : tLst t σ H Q := h
theorem sl {r : V -> Option Int -> Option Int -> Hp -> VK -> Prop} {tl th : TO} (h : te σ H fun x H1 => tl σ H1 fun l H2 => th σ H2 fun u H3 => r x l u H3 Q) : tSl r te tl th σ H Q := h
theorem noPart {q : Option Int -> Hp -> Prop} (h : q none H) : tNoPart σ H q := h
theorem part {q : Option Int -> Hp -> Prop} (h : te σ H fun x H1 => ∃ i, x = .int i /\ q (some i) H1) : tPart te σ H q := h
theorem partI {P : Int -> Prop} {i : Int} (h : P i) : ∃ j, V.int i = .int j /\ P j := ⟨i, rfl, h⟩
theorem bm0 {T : String} {r : V -> List V -> Hp -> VK -> Prop} (h : te σ H fun x H1 => tyV K T x H1 /\ r x [] H1 Q) : tBM0 K T r te σ H Q := h
theorem tyInt {i : Int} {A : Prop} (h : A) : tyV K "int" (.int i) H /\ A := ⟨rfl, h⟩
theorem gname {i : Nat} {v : V} {q : St -> Hp -> Prop} (h : q (σ.set i (some v)) H) : gName i v σ H q := h
theorem gsub {to ti : TE} {t : TSet} {v : V} {q : St -> Hp -> Prop} (h : to σ H fun o H1 => ti σ H1 fun i H2 => t o i v H2 fun H3 => q σ H3) : gSub to ti t v σ H q := h
theorem gcons {t : TG} {u : TGs} {v : V} {r : List V} {q : St -> Hp -> Prop} (h : t v σ H fun σ' H' => u r σ' H' q) : gCons t u (v :: r) σ H q := ⟨v, r, rfl, h⟩
theorem gnil {q : St -> Hp -> Prop} (h : q σ H) : gNil [] σ H q := ⟨rfl, h⟩
theorem gtup {n : Nat} {t : TGs} {a : Addr} {xs : List V} {q : St -> Hp -> Prop} (hq : SqT K H a xs) (hl : xs.length = n) (h : t xs σ H q) : gTup K n t (.ref a) σ H q := ⟨a, xs, rfl, hq, hl, h⟩
theorem noTest {q : Bool -> Hp -> Prop} (h : q true H) : tNoTest σ H q := h
theorem rI0 {g : Int -> Int -> V} {i j : Int} (h : Q (g i j) H) : L2.rI0 g (.int i) (.int j) H Q := ⟨i, j, rfl, rfl, h⟩
theorem rI {C : Int -> Int -> Prop} {g : Int -> Int -> V} {i j : Int} (hc : C i j) (h : Q (g i j) H) : L2.rI C g (.int i) (.int j) H Q := ⟨i, j, rfl, rfl, hc, h⟩
theorem dec_i {i j : Int} : decide (V.int i = V.int j) = decide (i = j) := by rw [Bool.eq_iff_iff]; simp
theorem eqI {i j : Int} (h : Q (.bl (decide (i = j))) H) : rEq (.int i) (.int j) H Q := ⟨rfl, by rw [dec_i]; exact h⟩
theorem neI {i j : Int} (h : Q (.bl (decide (i ≠ j))) H) : rNe (.int i) (.int j) H Q := ⟨rfl, by rw [dec_i, <- decide_not]; exact h⟩
theorem notI {i : Int} (h : Q (.bl true) H) : rIsNot (.int i) .non H Q := ⟨rfl, by rw [decide_eq_false (fun e => V.noConfusion e)]; exact h⟩
theorem notN (h : Q (.bl false) H) : rIsNot .non .non H Q := ⟨rfl, by rw [decide_eq_true rfl]; exact h⟩
theorem ixM {p : Addr} {xs : List V} {i : Int} {v : V} (hp : H p = some (.lst xs)) (e : atI xs i = some v) (h : Q v H) : rIxL K (.ref p) (.int i) H Q := ⟨p, xs, i, v, rfl, rfl, SqL.of hp, e, h⟩
theorem ixS {p : Addr} {o : HO} {xs : List V} {i : Int} {v : V} (e : atI xs i = some v) (h : Q v (upd H p (.lst xs))) : rIxL K (.ref p) (.int i) (upd H p (.lst xs)) Q := ⟨p, xs, i, v, rfl, rfl, SqL.of upd_same, e, h⟩
theorem setM {p : Addr} {xs : List V} {k : Int} {j : Nat} {v : V} {q : Hp -> Prop} (hp : H p = some (.lst xs)) (e : ixN xs.length k = some j) (h : q (upd H p (.lst (xs.set j v)))) : rSetL (.ref p) (.int k) v H q := ⟨p, xs, k, j, rfl, rfl, hp, e, h⟩
theorem setS {p : Addr} {xs : List V} {k : Int} {j : Nat} {v : V} {q : Hp -> Prop} (e : ixN xs.length k = some j) (h : q (upd H p (.lst (xs.set j v)))) : rSetL (.ref p) (.int k) v (upd H p (.lst xs)) q :=
 ⟨p, xs, k, j, rfl, rfl, upd_same, e, by rw [upd_upd]; exact h⟩
theorem lenM {p : Addr} {xs : List V} {P : List V -> Prop} (hp : H p = some (.lst xs)) (h : P xs) : ∃ a ys, [V.ref p] = [.ref a] /\ (SqL K H a ys \/ SqT K H a ys) /\ P ys := ⟨p, xs, rfl, .inl (SqL.of hp), h⟩
theorem slL {p : Addr} {xs : List V} {lo hi : Option Int} (hp : SqL K H p xs) (h : ∀ a, H a = none -> Q (.ref a) (upd H a (.lst (cutV xs lo hi)))) : rSlL K (.ref p) lo hi H Q := ⟨p, xs, rfl, hp, h⟩
theorem abs1 {a : Int} {P : Int -> Prop} (h : P a) : ∃ i, [V.int a] = [.int i] /\ P i := ⟨a, rfl, h⟩
theorem bits {i : Int} {P : Int -> Prop} (h : P i) : ∃ j, V.int i = .int j /\ ([] : List V) = [] /\ P j := ⟨i, rfl, rfl, h⟩
theorem lstA {xs : List V} (h : xs.length <= 10000) (q : ∀ p H', Same H H' -> H p = none -> H' p = some (.lst xs) -> Q (.ref p) H') : mkL Q xs H :=
 ⟨Nat.le_trans h (by decide), fun p hp => q p _ (same_new hp) hp upd_same⟩
theorem iteP {c A B : Prop} [Decidable c] (h : c) (q : A) : if c then A else B := by rw [if_pos h]; exact q
theorem iteN {c A B : Prop} [Decidable c] (h : ¬ c) (q : B) : if c then A else B := by rw [if_neg h]; exact q
theorem dT {c : Prop} [Decidable c] (h : c) : decide c = true := decide_eq_true h
theorem dF {c : Prop} [Decidable c] (h : ¬ c) : ¬ decide c = true := by rw [decide_eq_false h]; exact Bool.false_ne_true
theorem dTn {c : Prop} [Decidable c] (h : ¬ c) : (!decide c) = true := by rw [decide_eq_false h]; rfl
theorem dFn {c : Prop} [Decidable c] (h : c) : ¬ (!decide c) = true := by rw [decide_eq_true h]; decide
theorem rng1 {t : TA} {R : It -> Hp -> Prop} (h : t σ H fun vs H1 => ∃ j : Int, vs = [.int j] /\ -(2 ^ 62) <= j /\ j < 2 ^ 62 /\ R (Itr 0 j.toNat) H1) : iRng1 t σ H R := h
theorem rng1I {P : Int -> Prop} {i : Int} (h1 : -(2 ^ 62) <= i) (h2 : i < 2 ^ 62) (h : P i) : ∃ j : Int, [V.int i] = [.int j] /\ -(2 ^ 62) <= j /\ j < 2 ^ 62 /\ P j := ⟨i, rfl, h1, h2, h⟩
theorem rng2 {t : TA} {R : It -> Hp -> Prop} (h : t σ H fun vs H1 => ∃ i j : Int, vs = [.int i, .int j] /\ (-(2 ^ 62) <= i /\ i < 2 ^ 62 /\ -(2 ^ 62) <= j /\ j < 2 ^ 62) /\ R (Itr i (j - i).toNat) H1) : iRng2 t σ H R := h
theorem rng2I {P : Int -> Int -> Prop} {a b : Int} (h1 : -(2 ^ 62) <= a /\ a < 2 ^ 62 /\ -(2 ^ 62) <= b /\ b < 2 ^ 62) (h : P a b) : ∃ i j : Int, [V.int a, V.int b] = [.int i, .int j] /\ (-(2 ^ 62) <= i /\ i < 2 ^ 62 /\ -(2 ^ 62) <= j /\ j < 2 ^ 62) /\ P i j := ⟨a, b, rfl, h1, h⟩
theorem iL {tl : TE} {R : It -> Hp -> Prop} (h : tl σ H fun x H1 => ∃ a, x = .ref a /\ (∃ xs, SqL K H1 a xs) /\ R (Itl K a) H1) : iList K tl σ H R := h
theorem iL1 {P : Addr -> Prop} {p : Addr} {xs : List V} (hp : SqL K H p xs) (h : P p) : ∃ a, V.ref p = .ref a /\ (∃ xs, SqL K H a xs) /\ P a := ⟨p, rfl, ⟨xs, hp⟩, h⟩
theorem for_ {wi : TI} {g : TG} {tb : TS} (h : wi σ H fun J H1 => ∃ W : Nat -> Nat -> St -> Hp -> Prop, (∃ m, W 0 m σ H1) /\ ∀ i m σ H, W i m σ H ->
 (J.stop i H /\ D.nx σ H) \/ (J.go i H /\ ∃ N : St -> Hp -> Prop, (∀ σ' H', N σ' H' -> ∃ m', m' < m /\ W (i + 1) m' σ' H') /\ ∀ x H', J.yld i H x H' -> g x σ H' fun σ2 H2 => tb { D with nx := N, ct := N, bk := D.nx } σ2 H2)) : tFor wi g tb D σ H := h
theorem comp {wi : TI} {g : TG} {tc : TT} {mp : List (Option Nat)} (h : wi σ H fun J H1 => ∀ acc, H1 acc = none -> CompW J g tc te acc (fun H' => Q (.ref acc) H') (startC mp σ) (upd H1 acc (.lst []))) : tComp wi g tc te mp σ H Q := h
end
theorem comp_range {lo : Int} {n : Nat} {g : TG} {tc : TT} {te : TE} {acc : Addr} {Qe : Hp -> Prop} {σ : St} {H : Hp} (Pv : Nat -> St -> Hp -> Prop) (h0 : Pv 0 σ H)
  (hs : ∀ i σ H, i < n -> Pv i σ H -> g (.int (lo + i)) σ H fun σ2 H2 => tc σ2 H2 fun b H3 => if b = true then te σ2 H3 fun v H4 => ∃ ys, H4 acc = some (.lst ys) /\ ys.length < sizeLine /\ Pv (i + 1) σ2 (upd H4 acc (.lst (ys ++ [v]))) else Pv (i + 1) σ2 H3)
  (hd : ∀ σ H, Pv n σ H -> Qe H) : CompW (Itr lo n) g tc te acc Qe σ H := by
 refine ⟨fun i m σ H => m = n - i /\ i <= n /\ Pv i σ H, ⟨n, by simp, Nat.zero_le _, h0⟩, ?_⟩
 rintro i m σ H ⟨rfl, hi, p⟩
 by_cases hlt : i < n
 ·refine .inr ⟨hlt, Pv (i + 1), fun σ' H' p' => ⟨n - (i + 1), by omega, rfl, hlt, p'⟩, fun x H' y => ?_⟩
  obtain ⟨e, y⟩ := y
  subst e y
  exact hs i σ _ hlt p
 ·have e : i = n := by omega
  subst e
  exact .inl ⟨Nat.le_refl _, hd σ H p⟩
theorem comp_list {K : PySem.W.Frag} {a : Addr} {xs : List V} {g : TG} {tc : TT} {te : TE} {acc : Addr} {Qe : Hp -> Prop} {σ : St} {H : Hp} (Pv : Nat -> St -> Hp -> Prop) (h0 : Pv 0 σ H) (hl : ∀ i σ H, i <= xs.length -> Pv i σ H -> SqL K H a xs)
  (hs : ∀ i x σ H, xs[i]? = some x -> Pv i σ H -> g x σ H fun σ2 H2 => tc σ2 H2 fun b H3 => if b = true then te σ2 H3 fun v H4 => ∃ ys, H4 acc = some (.lst ys) /\ ys.length < sizeLine /\ Pv (i + 1) σ2 (upd H4 acc (.lst (ys ++ [v]))) else Pv (i + 1) σ2 H3)
  (hd : ∀ σ H, Pv xs.length σ H -> Qe H) : CompW (Itl K a) g tc te acc Qe σ H := by
 refine ⟨fun i m σ H => m = xs.length - i /\ i <= xs.length /\ Pv i σ H, ⟨xs.length, by simp, Nat.zero_le _, h0⟩, ?_⟩
 rintro i m σ H ⟨rfl, hi, p⟩
 have q := hl i σ H hi p
 by_cases hlt : i < xs.length
 ·refine .inr ⟨⟨xs, xs[i], q, by simp [hlt]⟩, Pv (i + 1), fun σ' H' p' => ⟨xs.length - (i + 1), by omega, rfl, hlt, p'⟩, fun x H' y => ?_⟩
  obtain ⟨e, y⟩ := y
  subst e
  exact hs i x σ _ (y xs q) p
 ·have e : i = xs.length := by omega
  subst e
  exact .inl ⟨⟨xs, q, Nat.le_refl _⟩, hd σ H p⟩
end R
end L2
set_option maxRecDepth 100000
set_option maxHeartbeats 1000000
namespace L2
open PySem PySem.Spec PyProof.Rows
@[reducible] def pairD (pr : Int × Int) : PyData := .tuple [.int pr.1, .int pr.2]
def optD : Option Int -> PyData
 | none => .none
 | some i => .int i
def optV : Option Int -> V
 | none => .non
 | some i => .int i
def termOf (wd : List (Option Int)) (pr : Int × Int) : Int := match wd[pr.1.toNat]? with
 | some (some x) => pr.2 * x
 | _ => 0
def dueSum (prs : List (Int × Int)) (wd : List (Option Int)) : Int := (prs.map (termOf wd)).sum
theorem dueSum_snoc {prs : List (Int × Int)} {wd : List (Option Int)} {i : Nat} (h : i < prs.length) : dueSum (prs.take (i + 1)) wd = dueSum (prs.take i) wd + termOf wd prs[i] := by
 unfold dueSum
 rw [List.take_add_one, List.getElem?_eq_getElem h, List.map_append, List.sum_append]
 simp
theorem isD_opt {nb : Addr -> Prop} {H : Hp} {o : Option Int} {v : V} (h : IsD nb H (optD o) v) : v = optV o := by
 cases o with
 | none => exact h.ofN
 | some i => exact h.ofI
theorem isDs_opt {nb : Addr -> Prop} {H : Hp} : ∀ {wd : List (Option Int)} {xs : List V}, IsDs nb H (wd.map optD) xs -> xs = wd.map optV
  | [], _, h => by unfold List.map IsDs at h; exact h
  | o :: wd, _, h => by
    rw [List.map_cons] at h
    unfold IsDs at h
    obtain ⟨y, ys, rfl, h1, h2⟩ := h
    rw [List.map_cons, isD_opt h1, isDs_opt h2]
theorem isD_pair {nb : Addr -> Prop} {H : Hp} {pr : Int × Int} {v : V} (h : IsD nb H (pairD pr) v) : ∃ t, v = .ref t /\ ¬ nb t /\ H t = some (.tup [.int pr.1, .int pr.2]) := by
 obtain ⟨t, xs, rfl, n, ht, hd⟩ := h.ofT
 unfold IsDs at hd
 obtain ⟨y, ys, rfl, h1, h2⟩ := hd
 unfold IsDs at h2
 obtain ⟨z, zs, rfl, h3, h4⟩ := h2
 unfold IsDs at h4
 subst h4
 rw [h1.ofI, h3.ofI] at ht
 exact ⟨t, rfl, n, ht⟩
def spTotal : Sp := fun vs H Q _ => ∃ (nb : Addr -> Prop) (p : Int) (va vc : V) (prs : List (Int × Int)) (wd : List (Option Int)), vs = [.int p, va, vc] /\ IsD nb H (.list (prs.map pairD)) va /\ IsD nb H (.list (wd.map optD)) vc /\ 0 < p /\
 (∀ pr ∈ prs, 0 <= pr.1 /\ pr.1 < wd.length /\ Sm pr.2) /\ (∀ x, some x ∈ wd -> Sm x) /\ Q (.int (dueSum prs wd % p)) H
def NoDiv (r : Int) : Prop := ∀ d : Int, 2 <= d -> d * d <= r -> r % d ≠ 0
def primeList : List Int := [2, 3, 5, 7, 2, 11, 101, 10007, 65537, 1000003, 998244353, 1000000007, 2147483647, 1000000000039, 1000000000000000003, 18446744073709551557, 2305843009213693951, 618970019642690137449562111, 162259276829213363391578010288127, 170141183460469231731687303715884105727, 1000000000000000000000000000000000000003, 9999999999999999999999999999999999999983]
def IsP (p : Int) : Prop := 2 <= p /\ p < 10 ^ 40 /\ (p ∈ primeList \/ NoDiv p)
def spPrimeFrom : Sp := fun vs H Q _ => ∃ n : Int, vs = [.int n] /\ 2 <= n /\ n <= 10002 /\ ∀ (r : Int) (H' : Hp), Same H H' -> 2 <= r -> r <= 10100 -> NoDiv r -> Q (.int r) H'
def spPrime : Sp := fun vs H Q _ => ∃ (b l : Addr), vs = [.ref b] /\ BagAt H b l /\ ∀ (p : Int) (H' : Hp), IsP p -> But (Nb b) H H' -> BagAt H' b l -> Q (.int p) H'
theorem isDs_intsL {nb : Addr -> Prop} {H : Hp} : ∀ is : List Int, IsDs nb H (is.map PyData.int) (is.map V.int)
 | [] => IsDs.nil
 | i :: is => IsDs.cons (.int i) (isDs_intsL is)
theorem isDs_ints_eq {nb : Addr -> Prop} {H : Hp} : ∀ {is : List Int} {xs : List V}, IsDs nb H (is.map PyData.int) xs -> xs = is.map V.int
  | [], _, h => by unfold List.map IsDs at h; exact h
  | i :: is, _, h => by
    rw [List.map_cons] at h
    unfold IsDs at h
    obtain ⟨y, ys, rfl, h1, h2⟩ := h
    rw [List.map_cons, h1.ofI, isDs_ints_eq h2]
end L2
set_option maxRecDepth 100000
set_option maxHeartbeats 1000000
namespace L2
open PySem PySem.Spec PyProof.Rows
abbrev Bg := Option (Addr × Addr)
def NB (B : Bg) (a : Addr) : Prop := ∀ b l, B = some (b, l) -> a ≠ b
def BagOk (B : Bg) (H : Hp) : Prop := ∀ b l, B = some (b, l) -> BagAt H b l
inductive HD where
 | d (x : PyData) | fz (o : Obj) (ps : List (Key × V))
def IsH (S : Addr -> Prop) (H : Hp) : HD -> V -> Prop
 | .d x, v => IsD S H x v
 | .fz o ps, v => ∃ a, v = .ref a /\ ¬ S a /\ H a = some (.frz o (.dK ps))
theorem IsH.keep {S : Addr -> Prop} {H H' : Hp} {x : HD} {v : V} (h : IsH S H x v) (b : But S H H') : IsH S H' x v := by
 cases x with
 | d x => exact IsD.keep b h
 | fz o ps => obtain ⟨a, e, n, q⟩ := h; exact ⟨a, e, n, b _ _ n q⟩
theorem IsH.av {S S' : Addr -> Prop} {H : Hp} {x : HD} {v : V} (h : IsH S H x v) (b : ∀ a, S' a -> S a) : IsH S' H x v := by
 cases x with
 | d x => exact IsD.av b h
 | fz o ps => obtain ⟨a, e, n, q⟩ := h; exact ⟨a, e, fun z => n (b a z), q⟩
theorem IsH.fresh {S : Addr -> Prop} {H : Hp} {x : HD} {v : V} {p : Addr} (h : IsH S H x v) (hp : H p = none) : IsH (fun a => S a \/ a = p) H x v := by
 cases x with
 | d x => exact IsD.fresh hp h
 | fz o ps => obtain ⟨a, e, n, q⟩ := h; exact ⟨a, e, fun z => z.elim n (ne_of_none q hp), q⟩
structure Gx where
 B : Bg
 H0 : Hp
 A : Addr -> Prop
 hold : List (Bool × HD × V) := []
def Live (nb : Addr -> Prop) (H : Hp) : Prop := ∀ a, nb a -> H a ≠ none
structure Kp (S : Addr -> Prop) (F : List Addr) (H H' : Hp) : Prop where
 own : ∀ a ∈ F, ∀ o, H a = some o -> H' a = some o
 lst : ∀ a xs, ¬ S a -> H a = some (.lst xs) -> H' a = some (.lst xs)
 tup : ∀ a xs, ¬ S a -> H a = some (.tup xs) -> H' a = some (.tup xs)
 dic : ∀ a ps, ¬ S a -> Rd H a (.dK ps) -> Rd H' a (.dK ps)
theorem Kp.of {S : Addr -> Prop} {F : List Addr} {H H' : Hp} (h : ∀ a o, (¬ S a \/ a ∈ F) -> H a = some o -> H' a = some o) : Kp S F H H' :=
 ⟨fun a ha o e => h a o (.inr ha) e, fun a xs n e => h a _ (.inl n) e, fun a xs n e => h a _ (.inl n) e, fun a ps n e => e.elim (fun e => .inl (h a _ (.inl n) e)) fun ⟨o, e⟩ => .inr ⟨o, h a _ (.inl n) e⟩⟩
mutual
theorem IsD.kp {S : Addr -> Prop} {F : List Addr} {H H' : Hp} (m : Kp S F H H') : ∀ {d : PyData} {v : V}, IsD S H d v -> IsD S H' d v
 | .none, _, h => by unfold IsD at h ⊢; exact h
 | .bool _, _, h => by unfold IsD at h ⊢; exact h
 | .int _, _, h => by unfold IsD at h ⊢; exact h
 | .str _, _, h => by unfold IsD at h ⊢; exact h
 | .list ds, _, h => by unfold IsD at h ⊢; obtain ⟨a, xs, e, n, s, r⟩ := h; exact ⟨a, xs, e, n, m.lst _ _ n s, IsDs.kp m r⟩
 | .tuple ds, _, h => by unfold IsD at h ⊢; obtain ⟨a, xs, e, n, s, r⟩ := h; exact ⟨a, xs, e, n, m.tup _ _ n s, IsDs.kp m r⟩
 | .dict kvs, _, h => by unfold IsD at h ⊢; obtain ⟨a, xs, e, n, s, r⟩ := h; exact ⟨a, xs, e, n, m.dic _ _ n s, IsKs.kp m r⟩
theorem IsDs.kp {S : Addr -> Prop} {F : List Addr} {H H' : Hp} (m : Kp S F H H') : ∀ {ds : List PyData} {vs : List V}, IsDs S H ds vs -> IsDs S H' ds vs
 | [], _, h => by unfold IsDs at h ⊢; exact h
 | d :: ds, _, h => by unfold IsDs at h ⊢; obtain ⟨y, ys, e, h1, h2⟩ := h; exact ⟨y, ys, e, IsD.kp m h1, IsDs.kp m h2⟩
theorem IsKs.kp {S : Addr -> Prop} {F : List Addr} {H H' : Hp} (m : Kp S F H H') : ∀ {ds : List (PyData × PyData)} {vs : List (Key × V)}, IsKs S H ds vs -> IsKs S H' ds vs
 | [], _, h => by unfold IsKs at h ⊢; exact h
 | d :: ds, _, h => by unfold IsKs at h ⊢; obtain ⟨y, ys, e, h1, h2⟩ := h; exact ⟨y, ys, e, IsK.kp m h1, IsKs.kp m h2⟩
theorem IsK.kp {S : Addr -> Prop} {F : List Addr} {H H' : Hp} (m : Kp S F H H') : ∀ {d : PyData × PyData} {v : Key × V}, IsK S H d v -> IsK S H' d v
 | (k, d), _, h => by unfold IsK at h ⊢; exact ⟨h.1, IsD.kp m h.2⟩
end
structure Cu where
 v : V
 F : List Addr
 f : Bool
 P : (Addr -> Prop) -> Hp -> Prop
 keep : ∀ {S : Addr -> Prop} {H H' : Hp}, Kp S F H H' -> P S H -> P S H'
 av : ∀ {S S' : Addr -> Prop} {H : Hp}, (∀ a, S' a -> S a) -> P S H -> P S' H
 fresh : ∀ {S : Addr -> Prop} {H : Hp} {p : Addr}, H p = none -> P S H -> P (fun a => S a \/ a = p) H
inductive Sl where
 | no | d (f : Bool) (d : PyData) | own (a : Addr) (f : Bool) (ds : List PyData) | bag | raw (v : V) | dic (a : Addr) (f : Bool) (ks : List (Int × PyData)) | cu (c : Cu)
def Sl.adr : Sl -> List Addr
 | .own a _ _ => [a]
 | .dic a _ _ => [a]
 | .cu c => c.F
 | _ => []
@[reducible] def kvD (p : Int × PyData) : PyData × PyData := (.int p.1, p.2)
abbrev Rh := List Sl
def Gx.S (G : Gx) (nb : Addr -> Prop) (f : Bool) : Addr -> Prop := fun a => nb a \/ G.A a \/ ¬ NB G.B a \/ (f = true /\ G.H0 a ≠ none)
def SlOk (G : Gx) (nb : Addr -> Prop) (H : Hp) (x : Option V) : Sl -> Prop
 | .no => True
 | .d f d => ∃ v, x = some v /\ IsD (G.S nb f) H d v
 | .own a f ds => x = some (.ref a) /\ nb a /\ NB G.B a /\ ∃ xs, H a = some (.lst xs) /\ IsDs (G.S nb f) H ds xs
 | .bag => ∃ b l, G.B = some (b, l) /\ x = some (.ref b)
 | .raw v => x = some v
 | .dic a f ks => x = some (.ref a) /\ nb a /\ NB G.B a /\ ∃ ps, H a = some (.dK ps) /\ IsKs (G.S nb f) H (ks.map kvD) ps
 | .cu c => x = some c.v /\ (∀ a ∈ c.F, nb a /\ NB G.B a) /\ c.P (G.S nb c.f) H
structure Wd (G : Gx) (nb : Addr -> Prop) (ρ : Rh) (σ : St) (H : Hp) : Prop where
 bag : BagOk G.B H
 live : Live nb H
 old : ∀ a o, NB G.B a -> G.H0 a = some o -> H a = some o
 nbo : ∀ a, nb a -> NB G.B a -> G.H0 a = none
 gA : Live G.A G.H0
 len : σ.length = ρ.length
 gB : BagOk G.B G.H0
 hld : ∀ h ∈ G.hold, IsH (G.S nb h.1) H h.2.1 h.2.2
 ok : ∀ (i : Nat) (s : Sl), ρ[i]? = some s -> ∃ x, σ[i]? = some x /\ SlOk G nb H x s
 apart : ∀ (i j : Nat) a f as c g cs, i ≠ j -> ρ[i]? = some (.own a f as) -> ρ[j]? = some (.own c g cs) -> a ≠ c
 apd : ∀ (i j : Nat) a f as c g cs, i ≠ j -> ρ[i]? = some (.dic a f as) -> ρ[j]? = some (.dic c g cs) -> a ≠ c
 apc : ∀ (i j : Nat) c s, i ≠ j -> ρ[i]? = some (.cu c) -> ρ[j]? = some s -> ∀ a ∈ c.F, a ∉ s.adr
def Step (B : Bg) (H H' : Hp) : Prop := (∀ a o, NB B a -> H a = some o -> H' a = some o) /\ BagOk B H'
section
variable {G : Gx} {B : Bg} {nb : Addr -> Prop} {ρ : Rh} {σ : St} {H H1 H2 H' : Hp} {f g : Bool} {d : PyData} {ds : List PyData} {v : V} {xs : List V} {a p : Addr}
theorem Step.refl (h : BagOk B H) : Step B H H := ⟨fun _ _ _ e => e, h⟩
theorem Step.trans (x : Step B H H1) (y : Step B H1 H2) : Step B H H2 := ⟨fun a o n e => y.1 a o n (x.1 a o n e), y.2⟩
theorem BagOk.same (h : BagOk B H) (s : Same H H') : BagOk B H' := fun b l e => (h b l e).same s
theorem Step.same (h : BagOk B H) (s : Same H H') : Step B H H' := ⟨fun a o _ e => s a o e, h.same s⟩
theorem Step.but {nb' : Addr -> Prop} (s : Step B H H') (h : ∀ a, ¬ NB B a -> nb' a) : But nb' H H' := fun a o n e => s.1 a o (Classical.byContradiction fun z => n (h a z)) e
theorem Step.butS (s : Step G.B H H') : But (G.S nb f) H H' := s.but fun a h => .inr (.inr (.inl h))
theorem S_mono (h : g = true -> f = true) {nb' : Addr -> Prop} (hn : ∀ a, nb a -> nb' a) : ∀ a, G.S nb g a -> G.S nb' f a := by
 intro a z
 rcases z with z | z | z | ⟨z, q⟩
 ·exact .inl (hn a z)
 ·exact .inr (.inl z)
 ·exact .inr (.inr (.inl z))
 ·exact .inr (.inr (.inr ⟨h z, q⟩))
theorem NB.bag_live (h : BagOk B H) (n : ¬ NB B a) : H a ≠ none := by
 intro e
 apply n
 intro b l hb z
 subst z
 obtain ⟨_, _, _, _, _, h1, _⟩ := h _ _ hb
 rw [h1] at e; cases e
theorem Wd.liveS (W : Wd G nb ρ σ H) : Live (G.S nb f) H := by
 intro a z
 rcases z with z | z | z | ⟨_, z⟩
 ·exact W.live a z
 ·by_cases n : NB G.B a
  ·cases e : G.H0 a with
   | none => exact absurd e (W.gA a z)
   | some o => rw [W.old a o n e]; exact Option.some_ne_none _
  ·exact NB.bag_live W.bag n
 ·exact NB.bag_live W.bag z
 ·by_cases n : NB G.B a
  ·cases e : G.H0 a with
   | none => exact absurd e z
   | some o => rw [W.old a o n e]; exact Option.some_ne_none _
  ·exact NB.bag_live W.bag n
theorem Wd.fresh (W : Wd G nb ρ σ H) (hp : H p = none) : ¬ G.S nb f p := fun z => W.liveS p z hp
theorem SlOk.step {x : Option V} {s : Sl} (st : Step G.B H H') (h : SlOk G nb H x s) : SlOk G nb H' x s := by
  cases s with
  | no => trivial
  | d f d => obtain ⟨v, e, h⟩ := h; exact ⟨v, e, h.keep st.butS⟩
  | own a f ds => obtain ⟨e, n, q, xs, hx, hd⟩ := h; exact ⟨e, n, q, xs, st.1 _ _ q hx, hd.keep st.butS⟩
  | bag => exact h
  | raw v => exact h
  | dic a f ks => obtain ⟨e, n, q, xs, hx, hd⟩ := h; exact ⟨e, n, q, xs, st.1 _ _ q hx, hd.keep st.butS⟩
  | cu c =>
    obtain ⟨e, n, p⟩ := h
    refine ⟨e, n, c.keep (.of fun a o ha e => st.1 a o ?_ e) p⟩
    rcases ha with ha | ha
    · exact Classical.byContradiction fun z => ha (.inr (.inr (.inl z)))
    · exact (n a ha).2
theorem ne_none_keep (n : NB B a) (st : Step B H H') (h : H a ≠ none) : H' a ≠ none := by
 cases e : H a with
 | none => exact absurd e h
 | some o => rw [st.1 a o n e]; exact Option.some_ne_none _
theorem Wd.step (W : Wd G nb ρ σ H) (st : Step G.B H H') : Wd G nb ρ σ H' where
 bag := st.2
 live := fun a n => by
  by_cases q : NB G.B a
  ·exact ne_none_keep q st (W.live a n)
  ·exact NB.bag_live st.2 q
 old := fun a o n e => st.1 a o n (W.old a o n e)
 nbo := W.nbo
 gA := W.gA
 len := W.len
 gB := W.gB
 hld := fun h m => (W.hld h m).keep st.butS
 ok := fun i s e => by
  obtain ⟨x, e1, h⟩ := W.ok i s e
  exact ⟨x, e1, h.step st⟩
 apart := W.apart
 apd := W.apd
 apc := W.apc
theorem Wd.set {i : Nat} {s : Sl} {x : Option V} (W : Wd G nb ρ σ H) (h : SlOk G nb H x s) (hs : ∀ a f ds, s = .own a f ds -> ∀ j c g cs, j ≠ i -> ρ[j]? = some (.own c g cs) -> a ≠ c) (hd : ∀ a f ds, s = .dic a f ds -> ∀ j c g cs, j ≠ i -> ρ[j]? = some (.dic c g cs) -> a ≠ c := by intro _ _ _ z; cases z) (hcu : ∀ a ∈ s.adr, ∀ j t, j ≠ i -> ρ[j]? = some t -> (∃ c, s = .cu c) \/ (∃ c, t = .cu c) -> a ∉ t.adr := by intro _ z; cases z) : Wd G nb (ρ.set i s) (σ.set i x) H where
 bag := W.bag
 live := W.live
 old := W.old
 nbo := W.nbo
 gA := W.gA
 len := by rw [List.length_set, List.length_set]; exact W.len
 gB := W.gB
 hld := W.hld
 ok := fun j t e => by
  by_cases hij : i = j
  ·subst hij
   have hl : i < ρ.length := by have := (List.getElem?_eq_some_iff.mp e).1; rwa [List.length_set] at this
   rw [List.getElem?_set_self hl] at e
   cases e
   exact ⟨x, List.getElem?_set_self (by rw [W.len]; exact hl), h⟩
  ·rw [List.getElem?_set_ne hij] at e ⊢
   exact W.ok j t e
 apart := fun j k a f as c g cs hjk e1 e2 => by
  by_cases hj : i = j
  ·subst hj
   have hl : i < ρ.length := by have := (List.getElem?_eq_some_iff.mp e1).1; rwa [List.length_set] at this
   rw [List.getElem?_set_self hl] at e1
   cases e1
   rw [List.getElem?_set_ne hjk] at e2
   exact hs a f as rfl k c g cs (Ne.symm hjk) e2
  ·by_cases hk : i = k
   ·subst hk
    have hl : i < ρ.length := by have := (List.getElem?_eq_some_iff.mp e2).1; rwa [List.length_set] at this
    rw [List.getElem?_set_self hl] at e2
    cases e2
    rw [List.getElem?_set_ne hj] at e1
    exact (hs c g cs rfl j a f as hjk e1).symm
   ·rw [List.getElem?_set_ne hj] at e1
    rw [List.getElem?_set_ne hk] at e2
    exact W.apart j k a f as c g cs hjk e1 e2
 apd := fun j k a f as c g cs hjk e1 e2 => by
  by_cases hj : i = j
  ·subst hj
   have hl : i < ρ.length := by have := (List.getElem?_eq_some_iff.mp e1).1; rwa [List.length_set] at this
   rw [List.getElem?_set_self hl] at e1
   cases e1
   rw [List.getElem?_set_ne hjk] at e2
   exact hd a f as rfl k c g cs (Ne.symm hjk) e2
  ·by_cases hk : i = k
   ·subst hk
    have hl : i < ρ.length := by have := (List.getElem?_eq_some_iff.mp e2).1; rwa [List.length_set] at this
    rw [List.getElem?_set_self hl] at e2
    cases e2
    rw [List.getElem?_set_ne hj] at e1
    exact (hd c g cs rfl j a f as hjk e1).symm
   ·rw [List.getElem?_set_ne hj] at e1
    rw [List.getElem?_set_ne hk] at e2
    exact W.apd j k a f as c g cs hjk e1 e2
 apc := fun j k c t hjk e1 e2 a ha => by
  by_cases hj : i = j
  ·subst hj
   have hl : i < ρ.length := by have := (List.getElem?_eq_some_iff.mp e1).1; rwa [List.length_set] at this
   rw [List.getElem?_set_self hl] at e1
   cases e1
   rw [List.getElem?_set_ne hjk] at e2
   exact hcu a ha k t (Ne.symm hjk) e2 (.inl ⟨c, rfl⟩)
  ·by_cases hk : i = k
   ·subst hk
    have hl : i < ρ.length := by have := (List.getElem?_eq_some_iff.mp e2).1; rwa [List.length_set] at this
    rw [List.getElem?_set_self hl] at e2
    cases e2
    rw [List.getElem?_set_ne hj] at e1
    exact fun z => hcu a z j (.cu c) hjk e1 (.inr ⟨c, rfl⟩) ha
   ·rw [List.getElem?_set_ne hj] at e1
    rw [List.getElem?_set_ne hk] at e2
    exact W.apc j k c t hjk e1 e2 a ha
theorem Wd.setD {i : Nat} (W : Wd G nb ρ σ H) (h : IsD (G.S nb f) H d v) : Wd G nb (ρ.set i (.d f d)) (σ.set i (some v)) H := W.set ⟨v, rfl, h⟩ fun _ _ _ e => by cases e
inductive Wk : Rh -> Rh -> Prop
 | nil : Wk [] []
 | no {s : Sl} {r r' : Rh} (h : Wk r r') : Wk (.no :: r) (s :: r')
 | eq {s : Sl} {r r' : Rh} (h : Wk r r') : Wk (s :: r) (s :: r')
theorem Wk.at : ∀ {r r' : Rh} {i : Nat} {s : Sl}, Wk r r' -> r[i]? = some s -> s = .no /\ (∃ t, r'[i]? = some t) \/ r'[i]? = some s
 | _, _, _, _, .nil, e => by simp at e
 | _, _, 0, _, .no h, e => by simp at e; subst e; exact .inl ⟨rfl, _, rfl⟩
 | _, _, 0, _, .eq h, e => by simp at e; subst e; exact .inr rfl
 | _, _, i + 1, _, .no h, e => by simpa using Wk.at (i := i) h (by simpa using e)
 | _, _, i + 1, _, .eq h, e => by simpa using Wk.at (i := i) h (by simpa using e)
theorem Wk.len {r r' : Rh} (h : Wk r r') : r.length = r'.length := by
 induction h with
 | nil => rfl
 | no _ ih => simp [ih]
 | eq _ ih => simp [ih]
theorem Wd.wk {ρ' : Rh} (W : Wd G nb ρ' σ H) (h : Wk ρ ρ') : Wd G nb ρ σ H where
 bag := W.bag
 live := W.live
 old := W.old
 nbo := W.nbo
 gA := W.gA
 len := by rw [h.len]; exact W.len
 gB := W.gB
 hld := W.hld
 ok := fun i s e => by
  rcases h.at e with ⟨rfl, t, e'⟩ | e'
  ·obtain ⟨x, e1, _⟩ := W.ok i t e'; exact ⟨x, e1, trivial⟩
  ·exact W.ok i s e'
 apart := fun i j a f as c g cs hij e1 e2 => by
  rcases h.at e1 with ⟨z, _⟩ | e1'
  ·cases z
  rcases h.at e2 with ⟨z, _⟩ | e2'
  ·cases z
  exact W.apart i j a f as c g cs hij e1' e2'
 apd := fun i j a f as c g cs hij e1 e2 => by
  rcases h.at e1 with ⟨z, _⟩ | e1'
  ·cases z
  rcases h.at e2 with ⟨z, _⟩ | e2'
  ·cases z
  exact W.apd i j a f as c g cs hij e1' e2'
 apc := fun i j c s hij e1 e2 a ha => by
  rcases h.at e1 with ⟨z, _⟩ | e1'
  ·cases z
  rcases h.at e2 with ⟨z, _⟩ | e2'
  ·subst z; exact fun z => by cases z
  exact W.apc i j c s hij e1' e2' a ha
theorem Wd.more (W : Wd G nb ρ σ H) (hp : H p = none) {o : HO} : Wd G (fun a => nb a \/ a = p) ρ σ (upd H p o) := by
 have hS : Same H (upd H p o) := same_new hp
 have hN : NB G.B p := fun b l e z => by
  subst z
  obtain ⟨_, _, _, _, _, h1, _⟩ := W.bag _ _ e
  rw [h1] at hp; cases hp
 have W' := W.step (Step.same W.bag hS)
 have hA : ∀ f a, G.S (fun a => nb a \/ a = p) f a -> (G.S nb f a \/ a = p) := fun f a z => by
  rcases z with (z | z) | z | z | z
  ·exact .inl (.inl z)
  ·exact .inr z
  ·exact .inl (.inr (.inl z))
  ·exact .inl (.inr (.inr (.inl z)))
  ·exact .inl (.inr (.inr (.inr z)))
 refine ⟨W'.bag, fun a n => ?_, W'.old, fun a n q => ?_, W.gA, W.len, W.gB, fun h m => (((W.hld h m).fresh hp).av (hA h.1)).keep (But.of hS), fun i s e => ?_, W.apart, W.apd, W.apc⟩
 ·rcases n with n | n
  ·exact W'.live a n
  ·subst n; rw [upd_same]; exact Option.some_ne_none _
 ·rcases n with n | n
  ·exact W.nbo a n q
  ·subst n
   cases e : G.H0 a with
   | none => rfl
   | some o => rw [W.old a o q e] at hp; cases hp
 ·obtain ⟨x, e1, h⟩ := W.ok i s e
  refine ⟨x, e1, ?_⟩
  cases s with
  | no => trivial
  | d f d => obtain ⟨v, e, h⟩ := h; exact ⟨v, e, ((h.fresh hp).av (hA f)).keep (But.of hS)⟩
  | own a f ds => obtain ⟨e, n, q, xs, hx, hd⟩ := h; exact ⟨e, .inl n, q, xs, hS _ _ hx, ((hd.fresh hp).av (hA f)).keep (But.of hS)⟩
  | bag => exact h
  | raw v => exact h
  | dic a f ds => obtain ⟨e, n, q, xs, hx, hd⟩ := h; exact ⟨e, .inl n, q, xs, hS _ _ hx, ((hd.fresh hp).av (hA f)).keep (But.of hS)⟩
  | cu c => obtain ⟨e, n, q⟩ := h; exact ⟨e, fun a ha => ⟨.inl (n a ha).1, (n a ha).2⟩, c.keep (.of fun a o _ e => hS a o e) (c.av (hA c.f) (c.fresh hp q))⟩
theorem Wd.write (W : Wd G nb ρ σ H) {o : HO} (hp : nb p) (hN : NB G.B p) (ho : ∀ (i : Nat) a f ds, ρ[i]? = some (.own a f ds) -> a ≠ p) (hod : ∀ (i : Nat) a f ds, ρ[i]? = some (.dic a f ds) -> a ≠ p) (hoc : ∀ (i : Nat) c, ρ[i]? = some (.cu c) -> p ∉ c.F) : Wd G nb ρ σ (upd H p o) := by
  have hl : ∀ b l, G.B = some (b, l) -> p ≠ l := fun b l e z => by
    obtain ⟨_, _, _, _, _, _, h2, _⟩ := W.gB b l e
    rw [<- z, W.nbo p hp hN] at h2; cases h2
  have hB : BagOk G.B (upd H p o) := fun b l e => (W.bag b l e).put2 ⟨hN b l e, hl b l e⟩
  have bt : ∀ f, But (G.S nb f) H (upd H p o) := fun f => But.set (.inl hp)
  refine ⟨hB, fun a n => ?_, fun a o' n e => ?_, W.nbo, W.gA, W.len, W.gB, fun h m => (W.hld h m).keep (bt h.1), fun i s e => ?_, W.apart, W.apd, W.apc⟩
  · by_cases z : a = p
    · subst z; rw [upd_same]; exact Option.some_ne_none _
    · rw [upd_ne z]; exact W.live a n
  · have z : a ≠ p := fun z => by subst z; rw [W.nbo a hp n] at e; cases e
    rw [upd_ne z]; exact W.old a o' n e
  · obtain ⟨x, e1, h⟩ := W.ok i s e
    refine ⟨x, e1, ?_⟩
    cases s with
    | no => trivial
    | d f d => obtain ⟨v, e, h⟩ := h; exact ⟨v, e, h.keep (bt f)⟩
    | own a f ds => obtain ⟨e', n, q, xs, hx, hd⟩ := h; exact ⟨e', n, q, xs, by rw [upd_ne (ho i a f ds e)]; exact hx, hd.keep (bt f)⟩
    | bag => exact h
    | raw v => exact h
    | dic a f ds => obtain ⟨e', n, q, xs, hx, hd⟩ := h; exact ⟨e', n, q, xs, by rw [upd_ne (hod i a f ds e)]; exact hx, hd.keep (bt f)⟩
    | cu c =>
      obtain ⟨e', n, q⟩ := h
      refine ⟨e', n, c.keep (.of fun a o' ha e'' => ?_) q⟩
      rw [upd_ne]
      · exact e''
      · rintro rfl
        rcases ha with ha | ha
        · exact ha (.inl hp)
        · exact hoc i c e ha
end
end L2
set_option maxRecDepth 100000
set_option maxHeartbeats 1000000
namespace L2
open PySem PySem.Spec PyProof.Rows
abbrev Pd := Bool -> PyData -> Prop
def Ev (G : Gx) (ρ : Rh) (te : TE) (Φ : Pd) : Prop := ∀ nb σ H (Q : VK), Wd G nb ρ σ H -> (∀ f v H' d, Φ f d -> Step G.B H H' -> IsD (G.S nb f) H' d v -> Q v H') -> te σ H Q
def EvN (G : Gx) (ρ : Rh) (te : TE) (Φ : Bool -> List PyData -> Prop) : Prop := ∀ nb σ H (Q : VK), Wd G nb ρ σ H ->
 (∀ f a xs H' ds, Φ f ds -> Step G.B H H' -> H a = none -> H' a = some (.lst xs) -> IsDs (fun x => G.S nb f x \/ x = a) H' ds xs -> Q (.ref a) H') -> te σ H Q
def Tv (G : Gx) (ρ : Rh) (tt : TT) (Φ : Bool -> Prop) : Prop := ∀ nb σ H (Q : Bool -> Hp -> Prop), Wd G nb ρ σ H -> (∀ b H', Φ b -> Step G.B H H' -> Q b H') -> tt σ H Q
def Ov (G : Gx) (ρ : Rh) (to : TO) (Φ : Option Int -> Prop) : Prop := ∀ nb σ H (Q : Option Int -> Hp -> Prop), Wd G nb ρ σ H -> (∀ o H', Φ o -> Step G.B H H' -> Q o H') -> to σ H Q
abbrev Fd := Bool × PyData
def IsF (G : Gx) (nb : Addr -> Prop) (H : Hp) : List Fd -> List V -> Prop
 | [], vs => vs = []
 | e :: es, vs => ∃ v ws, vs = v :: ws /\ IsD (G.S nb e.1) H e.2 v /\ IsF G nb H es ws
def Av (G : Gx) (ρ : Rh) (ta : TA) (Φ : List Fd -> Prop) : Prop := ∀ nb σ H (Q : List V -> Hp -> Prop), Wd G nb ρ σ H -> (∀ es vs H', Φ es -> Step G.B H H' -> IsF G nb H' es vs -> Q vs H') -> ta σ H Q
def Gv (G : Gx) (ρ : Rh) (g : TG) (f : Bool) (d : PyData) (Φ : Rh -> Prop) : Prop := ∀ nb σ H v (Q : St -> Hp -> Prop), Wd G nb ρ σ H -> IsD (G.S nb f) H d v -> (∀ σ' ρ', Φ ρ' -> Wd G nb ρ' σ' H -> Q σ' H) -> g v σ H Q
def Gvs (G : Gx) (ρ : Rh) (g : TGs) (f : Bool) (ds : List PyData) (Φ : Rh -> Prop) : Prop := ∀ nb σ H vs (Q : St -> Hp -> Prop), Wd G nb ρ σ H -> IsDs (G.S nb f) H ds vs -> (∀ σ' ρ', Φ ρ' -> Wd G nb ρ' σ' H -> Q σ' H) -> g vs σ H Q
structure DE where
 nx : Rh -> Prop
 rt : Pd
 bk : Rh -> Prop := fun _ => False
 ct : Rh -> Prop := fun _ => False
structure EndsOk (G : Gx) (E : DE) (D : Ends) : Prop where
 nx : ∀ nb ρ σ H, E.nx ρ -> Wd G nb ρ σ H -> D.nx σ H
 bk : ∀ nb ρ σ H, E.bk ρ -> Wd G nb ρ σ H -> D.bk σ H
 ct : ∀ nb ρ σ H, E.ct ρ -> Wd G nb ρ σ H -> D.ct σ H
 rt : ∀ nb ρ σ f v H d, E.rt f d -> Wd G nb ρ σ H -> IsD (G.S (fun _ => False) f) H d v -> D.rt v H
def Sv (G : Gx) (ρ : Rh) (ts : TS) (E : DE) : Prop := ∀ nb σ H D, Wd G nb ρ σ H -> EndsOk G E D -> ts D σ H
def scB : PyData -> Bool
 | .none => true | .bool _ => true | .int _ => true | .str _ => true | _ => false
def toV : PyData -> V
 | .bool b => .bl b | .int i => .int i | .str x => .str x | _ => .non
section
variable {nb nb' : Addr -> Prop} {H H' : Hp} {d e : PyData} {v : V}
theorem IsD.sc (h : scB d = true) : IsD nb H d (toV d) := by
 cases d <;> first | (cases h; done) | (unfold IsD; rfl)
theorem IsD.scEq (h : scB d = true) (q : IsD nb H d v) : v = toV d := by
 cases d <;> first | (cases h; done) | (unfold IsD at q; exact q)
theorem IsD.scAny (h : scB d = true) (q : IsD nb H d v) : IsD nb' H' d v := by
 rw [q.scEq h]; exact .sc h
theorem IsDs.scAny : ∀ {ds : List PyData} {xs : List V}, ds.all scB = true -> IsDs nb H ds xs -> IsDs nb' H' ds xs
  | [], _, _, q => by unfold IsDs at q ⊢; exact q
  | d :: ds, _, h, q => by
    rw [List.all_cons, Bool.and_eq_true] at h
    unfold IsDs at q ⊢
    obtain ⟨y, ys, e, h1, h2⟩ := q
    exact ⟨y, ys, e, h1.scAny h.1, IsDs.scAny h.2 h2⟩
end
section
variable {G : Gx} {ρ : Rh} {Φ Ψ : Pd} {ta tb te : TE} {t : TA} {i : Nat} {f g : Bool} {d e : PyData} {ds es : List PyData} {K : PySem.W.Frag}
theorem Ev.mono (h : Ev G ρ te Ψ) (q : ∀ f d, Ψ f d -> Φ f d) : Ev G ρ te Φ := fun nb σ H Q W z => h nb σ H Q W fun f v H' d p => z f v H' d (q f d p)
theorem EvN.ev (h : EvN G ρ te fun f ds => Φ f (.list ds)) : Ev G ρ te Φ := fun nb σ H Q W z => h nb σ H Q W fun f a xs H' ds p st n e hd =>
 z f _ H' _ p st (.lst (W.fresh n) e (hd.av fun _ x => .inl x))
namespace Ev
theorem var (e : ρ[i]? = some (.d f d)) (h : Φ f d) : Ev G ρ (tVar i) Φ := fun nb σ H Q W z => by
 obtain ⟨x, e1, v, rfl, hd⟩ := W.ok i _ e
 exact ⟨v, e1, z f v H d h (.refl W.bag) hd⟩
theorem int {n : Int} (h : Φ true (.int n)) : Ev G ρ (tC (.int n)) Φ := fun nb σ H Q W z => z true _ H _ h (.refl W.bag) (.int n)
theorem bl {b : Bool} (h : Φ true (.bool b)) : Ev G ρ (tC (.bl b)) Φ := fun nb σ H Q W z => z true _ H _ h (.refl W.bag) (.bl b)
theorem non (h : Φ true .none) : Ev G ρ (tC .non) Φ := fun nb σ H Q W z => z true _ H _ h (.refl W.bag) .non
theorem op2 {r : R2} (h : Ev G ρ ta fun f x => Ev G ρ tb fun g y => ∀ nb σ H u v (Q : VK), Wd G nb ρ σ H -> IsD (G.S nb f) H x u -> IsD (G.S nb g) H y v -> (∀ f w H' d, Φ f d -> Step G.B H H' -> IsD (G.S nb f) H' d w -> Q w H') -> r u v H Q) : Ev G ρ (tOp r ta tb) Φ := fun nb σ H Q W z =>
 h nb σ H _ W fun f v1 H1 d1 p1 s1 q1 => p1 nb σ H1 _ (W.step s1) fun g v2 H2 d2 p2 s2 q2 => p2 nb σ H2 _ _ _ ((W.step s1).step s2) (q1.keep s2.butS) q2 fun f w H' d p st q => z f w H' d p (s1.trans (s2.trans st)) q
theorem rI {C : Int -> Int -> Prop} {k : Int -> Int -> Int} (h : Ev G ρ ta fun _ x => ∃ i, x = .int i /\ Ev G ρ tb fun _ y => ∃ j, y = .int j /\ C i j /\ Φ true (.int (k i j))) : Ev G ρ (tOp (L2.rI C fun i j => .int (k i j)) ta tb) Φ :=
 op2 (h.mono fun f x ⟨i, ex, q⟩ => q.mono fun g y ⟨j, ey, hc, p⟩ nb σ H u v Q W hu hv z => by
  subst ex ey; exact ⟨i, j, hu.ofI, hv.ofI, hc, z true _ H _ p (.refl W.bag) (.int _)⟩)
theorem rI0 {k : Int -> Int -> Int} (h : Ev G ρ ta fun _ x => ∃ i, x = .int i /\ Ev G ρ tb fun _ y => ∃ j, y = .int j /\ Φ true (.int (k i j))) : Ev G ρ (tOp (L2.rI0 fun i j => .int (k i j)) ta tb) Φ :=
 op2 (h.mono fun f x ⟨i, ex, q⟩ => q.mono fun g y ⟨j, ey, p⟩ nb σ H u v Q W hu hv z => by
  subst ex ey; exact ⟨i, j, hu.ofI, hv.ofI, z true _ H _ p (.refl W.bag) (.int _)⟩)
theorem rB0 {k : Int -> Int -> Bool} (h : Ev G ρ ta fun _ x => ∃ i, x = .int i /\ Ev G ρ tb fun _ y => ∃ j, y = .int j /\ Φ true (.bool (k i j))) : Ev G ρ (tOp (L2.rI0 fun i j => .bl (k i j)) ta tb) Φ :=
 op2 (h.mono fun f x ⟨i, ex, q⟩ => q.mono fun g y ⟨j, ey, p⟩ nb σ H u v Q W hu hv z => by
  subst ex ey; exact ⟨i, j, hu.ofI, hv.ofI, z true _ H _ p (.refl W.bag) (.bl _)⟩)
theorem un {r : V -> Hp -> VK -> Prop} (h : Ev G ρ ta fun f x => ∀ nb σ H u (Q : VK), Wd G nb ρ σ H -> IsD (G.S nb f) H x u -> (∀ f w H' d, Φ f d -> Step G.B H H' -> IsD (G.S nb f) H' d w -> Q w H') -> r u H Q) : Ev G ρ (tUn r ta) Φ := fun nb σ H Q W z =>
 h nb σ H _ W fun f v1 H1 d1 p1 s1 q1 => p1 nb σ H1 _ _ (W.step s1) q1 fun f w H' d p st q => z f w H' d p (s1.trans st) q
theorem rU {k : Int -> Int} (h : Ev G ρ ta fun _ x => ∃ i, x = .int i /\ Φ true (.int (k i))) : Ev G ρ (tUn (L2.rU fun i => .int (k i)) ta) Φ :=
 un (h.mono fun f x ⟨i, ex, p⟩ nb σ H u Q W hu z => by subst ex; exact ⟨i, hu.ofI, z true _ H _ p (.refl W.bag) (.int _)⟩)
end Ev
inductive EqD : PyData -> PyData -> Bool -> Prop
 | ii (i j : Int) : EqD (.int i) (.int j) (decide (i = j))
 | ni (i : Int) : EqD .none (.int i) false
 | i_n (i : Int) : EqD (.int i) .none false
 | nn : EqD .none .none true
 | bb (a b : Bool) : EqD (.bool a) (.bool b) (a == b)
 | ss (x : Str) : EqD (.str x) (.str x) true
 | sd (x y : Str) : EqD (.str x) (.str y) (decide (x = y))
theorem EqD.v {nb nb' : Addr -> Prop} {H : Hp} {x y : PyData} {b : Bool} {u v : V} (h : EqD x y b) (hu : IsD nb H x u) (hv : IsD nb' H y v) : scal u v = true /\ decide (u = v) = b := by
 cases h <;> (unfold IsD at hu hv; subst hu hv; refine ⟨rfl, ?_⟩)
 ·exact R.dec_i
 ·rfl
 ·rfl
 ·rfl
 ·rename_i a b; cases a <;> cases b <;> rfl
 ·exact decide_eq_true rfl
 ·rename_i x y
  by_cases c : x = y
  ·subst c; rw [decide_eq_true rfl, decide_eq_true rfl]
  ·rw [decide_eq_false c, decide_eq_false (fun z => c (V.str.inj z))]
theorem EqD.self {d : PyData} (h : scB d = true) : EqD d d true := by
 cases d <;> first | (cases h; done) | skip
 ·exact .nn
 ·rename_i b; have := EqD.bb b b; rwa [beq_self_eq_true] at this
 ·rename_i i; have := EqD.ii i i; rwa [decide_eq_true rfl] at this
 ·exact .ss _
namespace Ev
theorem eq (h : Ev G ρ ta fun _ x => Ev G ρ tb fun _ y => ∃ b, EqD x y b /\ Φ true (.bool b)) : Ev G ρ (tOp rEq ta tb) Φ :=
 op2 (h.mono fun f x q => q.mono fun g y ⟨b, e, p⟩ nb σ H u v Q W hu hv z => by
  obtain ⟨h1, h2⟩ := e.v hu hv
  exact ⟨h1, by rw [h2]; exact z true _ H _ p (.refl W.bag) (.bl _)⟩)
theorem ne (h : Ev G ρ ta fun _ x => Ev G ρ tb fun _ y => ∃ b, EqD x y b /\ Φ true (.bool !b)) : Ev G ρ (tOp rNe ta tb) Φ :=
 op2 (h.mono fun f x q => q.mono fun g y ⟨b, e, p⟩ nb σ H u v Q W hu hv z => by
  obtain ⟨h1, h2⟩ := e.v hu hv
  exact ⟨h1, by rw [h2]; exact z true _ H _ p (.refl W.bag) (.bl _)⟩)
theorem eqD {ng : Bool} (h : Ev G ρ ta fun _ x => Ev G ρ tb fun _ y => SeqAt.shaped x = true /\ SeqAt.shaped y = true /\ Φ true (.bool (PyData.eqv x y != ng))) : Ev G ρ (tOp (rEqD ng) ta tb) Φ :=
 op2 (h.mono fun f x q => q.mono fun g y ⟨h1, h2, p⟩ nb σ H u v Q W hu hv z =>
  ⟨G.S nb false, x, y, hu.av (S_mono (fun z => by cases z) fun _ z => z), hv.av (S_mono (fun z => by cases z) fun _ z => z), h1, h2, z true _ H _ p (.refl W.bag) (.bl _)⟩)
end Ev
def isN : PyData -> Bool
 | .none => true
 | _ => false
theorem isN_v {nb : Addr -> Prop} {H : Hp} {d : PyData} {v : V} (h : IsD nb H d v) : decide (v = .non) = isN d := by
 cases d <;> unfold IsD at h
 all_goals first
  | (subst h; rfl)
  | (obtain ⟨a, xs, rfl, _⟩ := h; rfl)
  | exact h.elim
namespace Ev
theorem is (h : Ev G ρ ta fun _ x => Φ true (.bool (isN x))) : Ev G ρ (tOp rIs ta (tC .non)) Φ :=
 op2 (h.mono fun f x p => Ev.non fun nb σ H u v Q W hu hv z => ⟨hv.ofN, by rw [isN_v hu]; exact z true _ H _ p (.refl W.bag) (.bl _)⟩)
theorem isNot (h : Ev G ρ ta fun _ x => Φ true (.bool !isN x)) : Ev G ρ (tOp rIsNot ta (tC .non)) Φ :=
 op2 (h.mono fun f x p => Ev.non fun nb σ H u v Q W hu hv z => ⟨hv.ofN, by rw [isN_v hu]; exact z true _ H _ p (.refl W.bag) (.bl _)⟩)
end Ev
theorem IsDs.atI {nb : Addr -> Prop} {H : Hp} {ds : List PyData} {xs : List V} {k : Int} {e : PyData} (h : IsDs nb H ds xs) (q : L2.atI ds k = some e) : ∃ v, L2.atI xs k = some v /\ IsD nb H e v := by
 unfold L2.atI at q ⊢
 rw [h.length]
 cases z : ixN ds.length k with
 | none => rw [z] at q; cases q
 | some j => rw [z] at q; exact h.get q
namespace Ev
theorem ixL (h : Ev G ρ ta fun f x => ∃ ds, x = .list ds /\ Ev G ρ tb fun _ y => ∃ k, y = .int k /\ ∃ e, atI ds k = some e /\ Φ f e) : Ev G ρ (tOp (rIxL K) ta tb) Φ :=
 op2 (h.mono fun f x ⟨ds, ex, q⟩ => q.mono fun g y ⟨k, ey, e, he, p⟩ nb σ H u v Q W hu hv z => by
  subst ex ey
  obtain ⟨a, xs, rfl, n, hx, hd⟩ := hu.ofL
  obtain ⟨w, hw, hD⟩ := hd.atI he
  exact ⟨a, xs, k, w, rfl, hv.ofI, .of hx, hw, z f _ H _ p (.refl W.bag) hD⟩)
theorem ixT (h : Ev G ρ ta fun f x => ∃ ds, x = .tuple ds /\ Ev G ρ tb fun _ y => ∃ k, y = .int k /\ ∃ e, atI ds k = some e /\ Φ f e) : Ev G ρ (tOp (rIxT K) ta tb) Φ :=
 op2 (h.mono fun f x ⟨ds, ex, q⟩ => q.mono fun g y ⟨k, ey, e, he, p⟩ nb σ H u v Q W hu hv z => by
  subst ex ey
  obtain ⟨a, xs, rfl, n, hx, hd⟩ := hu.ofT
  obtain ⟨w, hw, hD⟩ := hd.atI he
  exact ⟨a, xs, k, w, rfl, hv.ofI, .of hx, hw, z f _ H _ p (.refl W.bag) hD⟩)
theorem andV (h : Ev G ρ ta fun _ x => ∃ b, x = .bool b /\ if b = true then Ev G ρ tb Φ else Φ true (.bool false)) : Ev G ρ (tAndV ta tb) Φ := fun nb σ H Q W z =>
 h nb σ H _ W fun f v H1 d ⟨b, e, q⟩ s1 hv => by
  subst e
  refine ⟨b, by unfold IsD at hv; exact hv, ?_⟩
  cases b with
  | true => rw [if_pos rfl] at q ⊢; exact q nb σ H1 _ (W.step s1) fun f v H' d p st => z f v H' d p (s1.trans st)
  | false => rw [if_neg Bool.false_ne_true] at q ⊢; exact z true _ H1 _ q s1 (.bl false)
theorem ifE {c : TT} (h : Tv G ρ c fun b => if b = true then Ev G ρ ta Φ else Ev G ρ tb Φ) : Ev G ρ (tIf c ta tb) Φ := fun nb σ H Q W z =>
 h nb σ H _ W fun b H1 q s1 => by
  cases b with
  | true => rw [if_pos rfl] at q ⊢; exact q nb σ H1 _ (W.step s1) fun f v H' d p st => z f v H' d p (s1.trans st)
  | false => rw [if_neg Bool.false_ne_true] at q ⊢; exact q nb σ H1 _ (W.step s1) fun f v H' d p st => z f v H' d p (s1.trans st)
end Ev
namespace Tv
variable {Θ : Bool -> Prop} {t u : TT}
theorem test (h : Ev G ρ te fun _ x => ∃ b, x = .bool b /\ Θ b) : Tv G ρ (tTest te) Θ := fun nb σ H Q W z =>
 h nb σ H _ W fun f v H1 d ⟨b, e, q⟩ s1 hv => by subst e; exact ⟨b, by unfold IsD at hv; exact hv, z b H1 q s1⟩
theorem and (h : Tv G ρ t fun b => if b = true then Tv G ρ u Θ else Θ false) : Tv G ρ (tAnd t u) Θ := fun nb σ H Q W z =>
 h nb σ H _ W fun b H1 q s1 => by
  cases b with
  | true => rw [if_pos rfl] at q ⊢; exact q nb σ H1 _ (W.step s1) fun b H' p st => z b H' p (s1.trans st)
  | false => rw [if_neg Bool.false_ne_true] at q ⊢; exact z false H1 q s1
theorem or (h : Tv G ρ t fun b => if b = true then Θ true else Tv G ρ u Θ) : Tv G ρ (tOr t u) Θ := fun nb σ H Q W z =>
 h nb σ H _ W fun b H1 q s1 => by
  cases b with
  | false => rw [if_neg Bool.false_ne_true] at q ⊢; exact q nb σ H1 _ (W.step s1) fun b H' p st => z b H' p (s1.trans st)
  | true => rw [if_pos rfl] at q ⊢; exact z true H1 q s1
theorem not (h : Tv G ρ t fun b => Θ (!b)) : Tv G ρ (tNot t) Θ := fun nb σ H Q W z => h nb σ H _ W fun b H1 q s1 => z _ H1 q s1
theorem noTest (h : Θ true) : Tv G ρ tNoTest Θ := fun nb σ H Q W z => z true H h (.refl W.bag)
end Tv
def tTruth (K : PySem.W.Frag) (ta : TE) : TT := fun σ H Q => ta σ H fun x H1 => ∃ k, TruV K x H1 k /\ Q k H1
theorem Tv.truB {Θ : Bool -> Prop} (h : Ev G ρ te fun _ x => ∃ b, x = .bool b /\ Θ b) : Tv G ρ (tTruth K te) Θ := fun nb σ H Q W z =>
 h nb σ H _ W fun f v H1 d ⟨b, e, q⟩ s1 hv => by subst e; exact ⟨b, by unfold IsD at hv; subst hv; rfl, z b H1 q s1⟩
namespace Av
variable {Θ : List Fd -> Prop}
theorem nil (h : Θ []) : Av G ρ tNil Θ := fun nb σ H Q W z => z [] [] H h (.refl W.bag) rfl
theorem cons (h : Ev G ρ te fun f d => Av G ρ t fun es => Θ ((f, d) :: es)) : Av G ρ (tCons te t) Θ := fun nb σ H Q W z =>
 h nb σ H _ W fun f v H1 d p1 s1 q1 => p1 nb σ H1 _ (W.step s1) fun es vs H2 p2 s2 q2 => z _ _ H2 p2 (s1.trans s2) ⟨v, vs, rfl, q1.keep s2.butS, q2⟩
theorem cints {is : List Int} (h : Θ (is.map fun i => (true, .int i))) : Av G ρ (tInts is) Θ := fun nb σ H Q W z => z _ _ H h (.refl W.bag) (by
 clear h
 induction is with
 | nil => rfl
 | cons i r ih => exact ⟨_, _, rfl, .int i, ih⟩)
end Av
def allF (es : List Fd) : Bool := es.all (·.1)
theorem IsF.all {nb : Addr -> Prop} {H : Hp} : ∀ {es : List Fd} {vs : List V} {f : Bool}, IsF G nb H es vs -> (f = true -> allF es = true) -> IsDs (G.S nb f) H (es.map (·.2)) vs
  | [], _, _, h, _ => by unfold IsF at h; subst h; exact .nil
  | e :: es, _, f, h, hf => by
    obtain ⟨v, ws, rfl, h1, h2⟩ := h
    refine .cons (h1.av (S_mono (fun z => ?_) fun _ z => z)) (h2.all fun z => ?_)
    · have := hf z; simp only [allF, List.all_cons, Bool.and_eq_true] at this; exact this.1
    · have := hf z; simp only [allF, List.all_cons, Bool.and_eq_true] at this; exact this.2
theorem IsF.len {nb : Addr -> Prop} {H : Hp} {es : List Fd} {vs : List V} (h : IsF G nb H es vs) : vs.length = es.length := by
 have := (h.all (f := false) (fun z => by cases z)).length
 simpa using this
theorem EvN.lst {Φ : Bool -> List PyData -> Prop} (h : Av G ρ t fun es => es.length <= 10000 /\ Φ (allF es) (es.map (·.2))) : EvN G ρ (tLst t) Φ := fun nb σ H Q W z =>
  h nb σ H _ W fun es vs H1 ⟨hl, p⟩ s1 q1 => ⟨Nat.le_trans (by rw [q1.len]; exact hl) (by decide), fun a ha => by
    have W1 := W.step s1
    refine z _ a vs _ _ p (s1.trans (.same W1.bag (same_new ha))) ?_ upd_same (((q1.all fun z => z).fresh ha).keep (But.of (same_new ha)))
    cases e : H a with
    | none => rfl
    | some o =>
      by_cases n : NB G.B a
      · rw [s1.1 a o n e] at ha; cases ha
      · exact absurd ha (NB.bag_live s1.2 n)⟩
theorem Ev.lst (h : Av G ρ t fun es => es.length <= 10000 /\ Φ (allF es) (.list (es.map (·.2)))) : Ev G ρ (tLst t) Φ := (EvN.lst (Φ := fun f ds => Φ f (.list ds)) h).ev
end
end L2
set_option maxRecDepth 100000
set_option maxHeartbeats 1000000
namespace L2
open PySem PySem.Spec PyProof.Rows
def rLen (K : PySem.W.Frag) : List V -> Hp -> VK -> Prop := fun xs H Q => ∃ p ys, xs = [.ref p] /\ (SqL K H p ys \/ SqT K H p ys) /\ Q (.int ys.length) H
theorem call_lenM {X : Cx} : CallR X (.builtin "len") (rLen X.K) := call_len_seq
def rMin : List V -> Hp -> VK -> Prop := fun xs H Q => ∃ i j, xs = [.int i, .int j] /\ Q (.int (if j < i then j else i)) H
def rInt : List V -> Hp -> VK -> Prop := fun xs H Q => (∃ i, xs = [.int i] /\ Q (.int i) H) \/ ∃ k, xs = [.bl k] /\ Q (.int (if k then 1 else 0)) H
theorem call_minM {X : Cx} (hc : X.calm = true) : CallR X (.builtin "min") rMin := call_min2 hc
theorem call_intM {X : Cx} : CallR X (.type "int") rInt := call_int1
def cutA {α : Type} (xs : List α) (lo hi : Option Int) : List α := (xs.drop (HT.sIx xs.length 0 lo)).take (HT.sIx xs.length xs.length hi - HT.sIx xs.length 0 lo)
theorem IsDs.cut {nb : Addr -> Prop} {H : Hp} {ds : List PyData} {xs : List V} {lo hi : Option Int} (h : IsDs nb H ds xs) : IsDs nb H (cutA ds lo hi) (cutV xs lo hi) := by
 unfold cutA cutV
 rw [h.length]
 exact (h.drop _).take _
def scAll (ds : List PyData) : Bool := ds.all scB
section
variable {G : Gx} {ρ : Rh} {Φ Ψ : Pd} {ta tb te : TE} {t : TA} {i : Nat} {f g : Bool} {d e : PyData} {ds es : List PyData} {K : PySem.W.Frag}
theorem Wd.none_of {nb : Addr -> Prop} {σ : St} {H H1 : Hp} {a : Addr} (W : Wd G nb ρ σ H) (s1 : Step G.B H H1) (ha : H1 a = none) : H a = none := by
  cases e : H a with
  | none => rfl
  | some o =>
    by_cases n : NB G.B a
    · rw [s1.1 a o n e] at ha; cases ha
    · exact absurd ha (NB.bag_live s1.2 n)
theorem EvN.fin {nb : Addr -> Prop} {σ : St} {H H1 : Hp} {Q : VK} {Φ : Bool -> List PyData -> Prop} {a : Addr} {xs : List V} (W : Wd G nb ρ σ H) (s1 : Step G.B H H1) (ha : H1 a = none) (hd : IsDs (G.S nb f) H1 ds xs) (p : Φ (f || scAll ds) ds)
  (z : ∀ f a xs H' ds, Φ f ds -> Step G.B H H' -> H a = none -> H' a = some (.lst xs) -> IsDs (fun x => G.S nb f x \/ x = a) H' ds xs -> Q (.ref a) H') : Q (.ref a) (upd H1 a (.lst xs)) := by
 refine z _ a xs _ ds p (s1.trans (.same s1.2 (same_new ha))) (W.none_of s1 ha) upd_same ?_
 cases hs : scAll ds with
 | true => exact IsDs.scAny hs hd
 | false => rw [Bool.or_false]; exact (hd.fresh ha).keep (But.of (same_new ha))
namespace Ov
variable {Θ : Option Int -> Prop}
theorem none (h : Θ none) : Ov G ρ tNoPart Θ := fun nb σ H Q W z => z _ H h (.refl W.bag)
theorem some (h : Ev G ρ te fun _ x => ∃ k, x = .int k /\ Θ (some k)) : Ov G ρ (tPart te) Θ := fun nb σ H Q W z =>
 h nb σ H _ W fun f v H1 d ⟨k, e, q⟩ s1 hv => by subst e; exact ⟨k, hv.ofI, z _ H1 q s1⟩
end Ov
namespace EvN
variable {Θ : Bool -> List PyData -> Prop}
theorem sl {tl th : TO} (h : Ev G ρ te fun f x => ∃ ds, x = .list ds /\ Ov G ρ tl fun lo => Ov G ρ th fun hi => Θ (f || scAll (cutA ds lo hi)) (cutA ds lo hi)) : EvN G ρ (tSl (rSlL K) te tl th) Θ := fun nb σ H Q W z =>
 h nb σ H _ W fun f v H1 d ⟨ds, e, q⟩ s1 hv => q nb σ H1 _ (W.step s1) fun lo H2 q2 s2 => q2 nb σ H2 _ ((W.step s1).step s2) fun hi H3 q3 s3 => by
  subst e
  obtain ⟨a, xs, rfl, n, hx, hd⟩ := ((hv.keep s2.butS).keep s3.butS).ofL
  exact ⟨a, xs, rfl, .of hx, fun p hp => EvN.fin W (s1.trans (s2.trans s3)) hp hd.cut q3 z⟩
theorem listOf (h : Ev G ρ te fun f x => ∃ ds, (x = .list ds \/ x = .tuple ds) /\ Θ (f || scAll ds) ds) : EvN G ρ (tCB (rListOf K) (tCons te tNil)) Θ := fun nb σ H Q W z =>
 h nb σ H _ W fun f v H1 d ⟨ds, e, q⟩ s1 hv => by
  rcases e with e | e
  ·subst e
   obtain ⟨a, xs, rfl, n, hx, hd⟩ := hv.ofL
   exact ⟨a, xs, rfl, .inl (.of hx), fun p hp => EvN.fin W s1 hp hd q z⟩
  ·subst e
   obtain ⟨a, xs, rfl, n, hx, hd⟩ := hv.ofT
   exact ⟨a, xs, rfl, .inr (.of hx), fun p hp => EvN.fin W s1 hp hd q z⟩
theorem cat (h : Ev G ρ ta fun f x => ∃ ds, x = .list ds /\ Ev G ρ tb fun g y => ∃ es, y = .list es /\ ds.length + es.length <= 10000 /\ Θ ((f && g) || scAll (ds ++ es)) (ds ++ es)) : EvN G ρ (tOp rCat ta tb) Θ := fun nb σ H Q W z =>
 h nb σ H _ W fun f v H1 d ⟨ds, e, q⟩ s1 hv => q nb σ H1 _ (W.step s1) fun g u H2 d2 ⟨es, e2, hl, p⟩ s2 hu => by
  subst e e2
  obtain ⟨a, xs, rfl, n, hx, hd⟩ := (hv.keep s2.butS).ofL
  obtain ⟨c, ys, rfl, m, hy, hc⟩ := hu.ofL
  refine ⟨a, c, xs, ys, rfl, rfl, hx, hy, Nat.le_trans (by rw [hd.length, hc.length]; exact hl) (by decide), fun p' hp => EvN.fin (f := f && g) W (s1.trans s2) hp ?_ p z⟩
  exact IsDs.append (hd.av (S_mono (fun z => (Bool.and_eq_true _ _ ▸ z).1) fun _ z => z)) (hc.av (S_mono (fun z => (Bool.and_eq_true _ _ ▸ z).2) fun _ z => z))
end EvN
namespace Ev
theorem sl {tl th : TO} (h : Ev G ρ te fun f x => ∃ ds, x = .list ds /\ Ov G ρ tl fun lo => Ov G ρ th fun hi => Φ (f || scAll (cutA ds lo hi)) (.list (cutA ds lo hi))) : Ev G ρ (tSl (rSlL K) te tl th) Φ := (EvN.sl (Θ := fun f ds => Φ f (.list ds)) h).ev
theorem listOf (h : Ev G ρ te fun f x => ∃ ds, (x = .list ds \/ x = .tuple ds) /\ Φ (f || scAll ds) (.list ds)) : Ev G ρ (tCB (rListOf K) (tCons te tNil)) Φ := (EvN.listOf (Θ := fun f ds => Φ f (.list ds)) h).ev
theorem cat (h : Ev G ρ ta fun f x => ∃ ds, x = .list ds /\ Ev G ρ tb fun g y => ∃ es, y = .list es /\ ds.length + es.length <= 10000 /\ Φ ((f && g) || scAll (ds ++ es)) (.list (ds ++ es))) : Ev G ρ (tOp rCat ta tb) Φ := (EvN.cat (Θ := fun f ds => Φ f (.list ds)) h).ev
theorem lenOwn {a : Addr} (e : ρ[i]? = some (.own a f ds)) (h : Φ true (.int ds.length)) : Ev G ρ (tCB (rLen K) (tCons (tVar i) tNil)) Φ := fun nb σ H Q W z => by
 obtain ⟨x, e1, h1, h2, h3, xs, hx, hd⟩ := W.ok i _ e
 subst h1
 exact ⟨.ref a, e1, a, xs, rfl, .inl (.of hx), by rw [hd.length]; exact z true _ H _ h (.refl W.bag) (.int _)⟩
theorem min2 (h : Ev G ρ ta fun _ x => ∃ i, x = .int i /\ Ev G ρ tb fun _ y => ∃ j, y = .int j /\ Φ true (.int (if j < i then j else i))) : Ev G ρ (tCB rMin (tCons ta (tCons tb tNil))) Φ := fun nb σ H Q W z =>
 h nb σ H _ W fun f v H1 d ⟨i, e, q⟩ s1 hv => q nb σ H1 _ (W.step s1) fun g u H2 d2 ⟨j, e2, p⟩ s2 hu => by
  subst e e2
  exact ⟨i, j, by rw [hv.ofI, hu.ofI], z true _ H2 _ p (s1.trans s2) (.int _)⟩
theorem intB (h : Ev G ρ ta fun _ x => ∃ b, x = .bool b /\ Φ true (.int (if b then 1 else 0))) : Ev G ρ (tCB rInt (tCons ta tNil)) Φ := fun nb σ H Q W z =>
 h nb σ H _ W fun f v H1 d ⟨b, e, q⟩ s1 hv => by subst e; unfold IsD at hv; subst hv; exact .inr ⟨b, rfl, z true _ H1 _ q s1 (.int _)⟩
end Ev
abbrev DF := List PyData -> Pd -> Prop
def spD (n : Nat) (F : DF) : Sp := fun vs H Q _ => vs.length = n /\ ∃ (nb : Addr -> Prop) (ds : List PyData), Live nb H /\ IsDs nb H ds vs /\ F ds fun f d => ∀ v H', Same H H' -> IsD (fun a => nb a \/ (f = true /\ H a ≠ none)) H' d v -> Q v H'
def spB (n : Nat) (F : DF) : Sp := fun vs H Q _ => vs.length = n /\ ∃ (b l : Addr) (ws : List V) (nb : Addr -> Prop) (ds : List PyData), vs = .ref b :: ws /\ BagAt H b l /\ Live nb H /\ nb b /\ IsDs nb H ds ws /\
 F ds fun f d => ∀ v H', But (Nb b) H H' -> BagAt H' b l -> IsD (fun a => nb a \/ (f = true /\ H a ≠ none)) H' d v -> Q v H'
def MonoF (F : DF) : Prop := ∀ ds (Φ Ψ : Pd), F ds Φ -> (∀ f d, Φ f d -> Ψ f d) -> F ds Ψ
theorem Ev.callD {n : Nat} {F : DF} (hm : MonoF F) (h : Av G ρ t fun es => es.length = n /\ F (es.map (·.2)) fun f d => Φ (f || allF es) d) : Ev G ρ (tCall (spD n F) [] E0 t) Φ := fun nb σ H Q W z =>
 h nb σ H _ W fun es vs H1 ⟨hl, p⟩ s1 q1 => by
  have W1 := W.step s1
  rw [List.append_nil]
  refine ⟨by rw [q1.len, hl], G.S nb (allF es), es.map (·.2), W1.liveS, q1.all fun z => z, hm _ _ _ p fun f d hp v H' sm hd => z _ v H' d hp (s1.trans (.same W1.bag sm)) (hd.av fun a q => ?_)⟩
  cases f with
  | false => rw [Bool.false_or] at q; exact .inl q
  | true => exact .inr ⟨rfl, W1.liveS a q⟩
theorem Step.ofBut {b l : Addr} {H H' : Hp} (hB : G.B = some (b, l)) (bt : But (Nb b) H H') (B' : BagAt H' b l) : Step G.B H H' :=
 ⟨fun a o n e => bt a o (n b l hB) e, fun b' l' e => by rw [hB] at e; cases e; exact B'⟩
theorem Wd.theBag {nb : Addr -> Prop} {σ : St} {H : Hp} (W : Wd G nb ρ σ H) (e : ρ[i]? = some .bag) : ∃ b l, G.B = some (b, l) /\ σ[i]? = some (some (.ref b)) /\ BagAt H b l := by
 obtain ⟨x, e1, b, l, hB, rfl⟩ := W.ok i _ e
 exact ⟨b, l, hB, e1, W.bag b l hB⟩
theorem Ev.callB {n : Nat} {F : DF} (hm : MonoF F) (e : ρ[i]? = some .bag) (h : Av G ρ t fun es => es.length + 1 = n /\ F (es.map (·.2)) fun f d => Φ (f || allF es) d) : Ev G ρ (tCall (spB n F) [] E0 (tCons (tVar i) t)) Φ := fun nb σ H Q W z => by
 obtain ⟨b, l, hB, e1, B⟩ := W.theBag e
 refine ⟨.ref b, e1, h nb σ H _ W fun es vs H1 ⟨hl, p⟩ s1 q1 => ?_⟩
 have W1 := W.step s1
 show spB n F ((V.ref b :: vs) ++ []) H1 Q E0
 rw [List.append_nil]
 have hb : ∀ f, G.S nb f b := fun f => .inr (.inr (.inl fun n => n b l hB rfl))
 refine ⟨by rw [List.length_cons, q1.len, hl], b, l, vs, G.S nb (allF es), es.map (·.2), rfl, W1.bag b l hB, W1.liveS, hb _, q1.all fun z => z, hm _ _ _ p fun f d hp v H' bt B' hd => z _ v H' d hp (s1.trans (.ofBut hB bt B')) (hd.av fun a q => ?_)⟩
 cases f with
 | false => rw [Bool.false_or] at q; exact .inl q
 | true => exact .inr ⟨rfl, W1.liveS a q⟩
theorem Ev.draw (e : ρ[i]? = some .bag) (h : Ev G ρ te fun _ x => ∃ m : Int, x = .int m /\ 0 < m /\ Sm m /\ ∀ r : Int, 0 <= r -> r < m -> Φ true (.int r)) : Ev G ρ (tCall spDraw [] E0 (tCons (tVar i) (tCons te tNil))) Φ := fun nb σ H Q W z => by
 obtain ⟨b, l, hB, e1, B⟩ := W.theBag e
 refine ⟨.ref b, e1, h nb σ H _ W fun f v H1 d ⟨m, ed, h1, h2, p⟩ s1 hv => ?_⟩
 subst ed
 exact ⟨b, l, m, by rw [hv.ofI]; rfl, s1.2 b l hB, h1, h2, fun r H' r1 r2 bt B' => z true _ H' _ (p r r1 r2) (s1.trans (.ofBut hB bt B')) (.int r)⟩
theorem Ev.prime (e : ρ[i]? = some .bag) (h : ∀ p : Int, IsP p -> Φ true (.int p)) : Ev G ρ (tCall spPrime [] E0 (tCons (tVar i) tNil)) Φ := fun nb σ H Q W z => by
 obtain ⟨b, l, hB, e1, B⟩ := W.theBag e
 exact ⟨.ref b, e1, b, l, rfl, B, fun p H' hp bt B' => z true _ H' _ (h p hp) (.ofBut hB bt B') (.int p)⟩
theorem Ev.total (h : Av G ρ t fun es => ∃ (p : Int) (prs : List (Int × Int)) (wd : List (Option Int)), es.map (·.2) = [.int p, .list (prs.map pairD), .list (wd.map optD)] /\ 0 < p /\ (∀ pr ∈ prs, 0 <= pr.1 /\ pr.1 < wd.length /\ Sm pr.2) /\ (∀ x, some x ∈ wd -> Sm x) /\ Φ true (.int (dueSum prs wd % p))) :
  Ev G ρ (tCall spTotal [] E0 t) Φ := fun nb σ H Q W z =>
 h nb σ H _ W fun es vs H1 ⟨p, prs, wd, e, h1, h2, h3, q⟩ s1 q1 => by
  have hd := q1.all (f := false) (fun z => by cases z)
  rw [e] at hd
  unfold IsDs at hd
  obtain ⟨y, ys, rfl, d1, hd⟩ := hd
  unfold IsDs at hd
  obtain ⟨y2, ys, rfl, d2, hd⟩ := hd
  unfold IsDs at hd
  obtain ⟨y3, ys, rfl, d3, hd⟩ := hd
  unfold IsDs at hd
  subst hd
  exact ⟨G.S nb false, p, y2, y3, prs, wd, by rw [d1.ofI]; rfl, d2, d3, h1, h2, h3, z true _ H1 _ q s1 (.int _)⟩
theorem Ev.whole (h : Ev G ρ te fun _ x => ∃ n, x = .int n /\ Φ true (.bool true)) : Ev G ρ (tCall spWhole [] E0 (tCons te tNil)) Φ := fun nb σ H Q W z =>
 h nb σ H _ W fun f v H1 d ⟨n, e, q⟩ s1 hv => by subst e; exact ⟨n, by rw [hv.ofI]; rfl, z true _ H1 _ q s1 (.bl _)⟩
namespace Gv
variable {Θ : Rh -> Prop}
theorem name (h : Θ (ρ.set i (.d f d))) : Gv G ρ (gName i) f d Θ := fun nb σ H v Q W hv z => z _ _ h (W.setD hv)
theorem nameT (h : Θ (ρ.set i (.d true d))) : Gv G ρ (gName i) true d Θ := name h
theorem nameF (h : Θ (ρ.set i (.d false d))) : Gv G ρ (gName i) f d Θ := fun nb σ H v Q W hv z => z _ _ h (W.setD (hv.av (S_mono (fun z => by cases z) fun _ z => z)))
theorem nameS (hs : scB d = true) (h : Θ (ρ.set i (.d true d))) : Gv G ρ (gName i) f d Θ := fun nb σ H v Q W hv z => z _ _ h (W.setD (hv.scAny hs))
theorem nameI {n : Int} (h : Θ (ρ.set i (.d true (.int n)))) : Gv G ρ (gName i) f (.int n) Θ := nameS rfl h
theorem tup {n : Nat} {u : TGs} (hl : ds.length = n) (h : Gvs G ρ u f ds Θ) : Gv G ρ (gTup K n u) f (.tuple ds) Θ := fun nb σ H v Q W hv z => by
 obtain ⟨a, xs, rfl, m, hx, hd⟩ := hv.ofT
 exact ⟨a, xs, rfl, .of hx, by rw [hd.length]; exact hl, h nb σ H xs Q W hd z⟩
theorem snil (h : Θ ρ) : Gvs G ρ gNil f [] Θ := fun nb σ H vs Q W hv z => by unfold IsDs at hv; exact ⟨hv, z _ _ h W⟩
theorem scons {u : TG} {us : TGs} (h : Gv G ρ u f d fun ρ1 => Gvs G ρ1 us f ds Θ) : Gvs G ρ (gCons u us) f (d :: ds) Θ := fun nb σ H vs Q W hv z => by
 unfold IsDs at hv
 obtain ⟨y, ys, rfl, h1, h2⟩ := hv
 exact ⟨y, ys, rfl, h nb σ H y _ W h1 fun σ' ρ' q W' => q nb σ' H ys Q W' h2 z⟩
end Gv
namespace Sv
variable {E : DE} {s u : TS}
theorem seq (h : Sv G ρ s { E with nx := fun ρ1 => Sv G ρ1 u E }) : Sv G ρ (tSeq s u) E := fun nb σ H D W K => h nb σ H _ W ⟨fun nb' ρ' σ' H' q W' => q nb' σ' H' D W' K, K.bk, K.ct, K.rt⟩
theorem next (h : E.nx ρ) : Sv G ρ tNext E := fun nb σ H D W K => K.nx nb ρ σ H h W
theorem cont (h : E.ct ρ) : Sv G ρ tCont E := fun nb σ H D W K => K.ct nb ρ σ H h W
theorem asg {g : TG} (h : Ev G ρ te fun f d => Gv G ρ g f d E.nx) : Sv G ρ (tAsg te g) E := fun nb σ H D W K => h nb σ H _ W fun f v H1 d q s1 hv => q nb σ H1 v _ (W.step s1) hv fun σ' ρ' p W' => K.nx nb ρ' σ' H1 p W'
theorem setCF (h : Ev G ρ te fun _ d => E.nx (ρ.set i (.d false d))) : Sv G ρ (tSetC i te) E := fun nb σ H D W K => h nb σ H _ W fun f v H1 d q s1 hv => K.nx nb _ _ H1 q ((W.step s1).setD (hv.av (S_mono (fun z => by cases z) fun _ z => z)))
theorem ret (h : Ev G ρ te E.rt) : Sv G ρ (tRet te) E := fun nb σ H D W K => h nb σ H _ W fun f v H1 d q s1 hv => K.rt nb ρ σ f v H1 d q (W.step s1) (hv.av (S_mono (fun z => z) fun _ z => z.elim))
theorem retOwn {a : Addr} (e : ρ[i]? = some (.own a f ds)) (h : E.rt f (.list ds)) : Sv G ρ (tRet (tVar i)) E := fun nb σ H D W K => by
 obtain ⟨x, e1, h1, h2, h3, xs, hx, hd⟩ := W.ok i _ e
 subst h1
 refine ⟨.ref a, e1, K.rt nb ρ σ f _ H _ h W (.lst (fun z => ?_) hx (hd.av (S_mono (fun z => z) fun _ z => z.elim)))⟩
 rcases z with z | z | z | z
 ·exact z
 ·exact W.gA a z (W.nbo a h2 h3)
 ·exact z h3
 ·exact z.2 (W.nbo a h2 h3)
theorem ifS {c : TT} (h : Tv G ρ c fun b => if b = true then Sv G ρ s E else Sv G ρ u E) : Sv G ρ (tIfS c s u) E := fun nb σ H D W K => h nb σ H _ W fun b H1 q s1 => by
 cases b with
 | true => rw [if_pos rfl] at q ⊢; exact q nb σ H1 D (W.step s1) K
 | false => rw [if_neg Bool.false_ne_true] at q ⊢; exact q nb σ H1 D (W.step s1) K
theorem own_of {nb : Addr -> Prop} {σ : St} {H H1 : Hp} {a : Addr} {xs : List V} (W : Wd G nb ρ σ H) (s1 : Step G.B H H1) (ha : H a = none) (e : H1 a = some (.lst xs)) (hd : IsDs (fun x => G.S nb f x \/ x = a) H1 ds xs) :
    Wd G (fun x => nb x \/ x = a) (ρ.set i (.own a f ds)) (σ.set i (some (.ref a))) H1 := by
  have hN : NB G.B a := fun b l e z => by
    subst z
    obtain ⟨_, _, _, _, _, h1, _⟩ := W.bag _ _ e
    rw [h1] at ha; cases ha
  have hA : ∀ f x, G.S (fun x => nb x \/ x = a) f x -> (G.S nb f x \/ x = a) := fun f x z => by
    rcases z with (z | z) | z | z | z
    · exact .inl (.inl z)
    · exact .inr z
    · exact .inl (.inr (.inl z))
    · exact .inl (.inr (.inr (.inl z)))
    · exact .inl (.inr (.inr (.inr z)))
  have W1 := W.step s1
  have W2 : Wd G (fun x => nb x \/ x = a) ρ σ H1 := by
    refine ⟨W1.bag, fun x n => ?_, W1.old, fun x n q => ?_, W.gA, W.len, W.gB, fun h m => (((W.hld h m).fresh ha).keep (s1.but fun x z => .inl (.inr (.inr (.inl z))))).av (hA h.1), fun j s e' => ?_, W.apart, W.apd, W.apc⟩
    · rcases n with n | n
      · exact W1.live x n
      · subst n; rw [e]; exact Option.some_ne_none _
    · rcases n with n | n
      · exact W.nbo x n q
      · subst n
        cases z : G.H0 x with
        | none => rfl
        | some o => rw [W.old x o q z] at ha; cases ha
    · obtain ⟨x, e1, h⟩ := W.ok j s e'
      refine ⟨x, e1, ?_⟩
      cases s with
      | no => trivial
      | d f d => obtain ⟨v, e, h⟩ := h; exact ⟨v, e, ((h.fresh ha).keep (s1.but fun x z => .inl (.inr (.inr (.inl z))))).av (hA f)⟩
      | own c f es => obtain ⟨e, n, q, xs, hx, hd⟩ := h; exact ⟨e, .inl n, q, xs, s1.1 _ _ q hx, ((hd.fresh ha).keep (s1.but fun x z => .inl (.inr (.inr (.inl z))))).av (hA f)⟩
      | bag => exact h
      | raw v => exact h
      | dic c f es => obtain ⟨e, n, q, xs, hx, hd⟩ := h; exact ⟨e, .inl n, q, xs, s1.1 _ _ q hx, ((hd.fresh ha).keep (s1.but fun x z => .inl (.inr (.inr (.inl z))))).av (hA f)⟩
      | cu c =>
        obtain ⟨e, n, q⟩ := h
        refine ⟨e, fun a ha => ⟨.inl (n a ha).1, (n a ha).2⟩, c.av (hA c.f) (c.keep (.of fun x o hx e => s1.1 x o ?_ e) (c.fresh ha q))⟩
        rcases hx with hx | hx
        · exact Classical.byContradiction fun z => hx (.inl (.inr (.inr (.inl z))))
        · exact (n x hx).2
  refine W2.set ⟨rfl, .inr rfl, hN, xs, e, hd.av (hA f)⟩ ?_ (fun _ _ _ z => by cases z) (fun x hx j t hj ht hc => ?_)
  rotate_left
  · have hx : x = a := List.mem_singleton.mp hx
    subst hx
    rcases hc with ⟨c, z⟩ | ⟨c, rfl⟩
    · cases z
    · exact fun z => W.live x ((W.ok j _ ht).choose_spec.2.2.1 x z).1 ha
  rintro a' f' ds' ⟨rfl, rfl, rfl⟩ j c g cs hj hc z
  subst z
  obtain ⟨x, e1, h1, h2, h3, ys, hy, _⟩ := W.ok j _ hc
  rw [hy] at ha; cases ha
theorem asgN (h : EvN G ρ te fun f ds => ∀ a, E.nx (ρ.set i (.own a f ds))) : Sv G ρ (tAsg te (gName i)) E := fun nb σ H D W K => h nb σ H _ W fun f a xs H1 ds q s1 ha e hd => K.nx _ _ _ H1 (q a) (own_of W s1 ha e hd)
theorem writeOwn {nb : Addr -> Prop} {σ : St} {H : Hp} {a : Addr} {xs : List V} (W : Wd G nb ρ σ H) (e : ρ[i]? = some (.own a f ds)) (hd : IsDs (G.S nb g) H es xs) : Wd G nb (ρ.set i (.own a g es)) σ (upd H a (.lst xs)) := by
  obtain ⟨x, e1, h1, h2, h3, ys, hy, _⟩ := W.ok i _ e
  subst h1
  have hil : i < ρ.length := (List.getElem?_eq_some_iff.mp e).1
  have W0 : Wd G nb (ρ.set i .no) (σ.set i (some (.ref a))) H := W.set trivial fun _ _ _ z => by cases z
  have W1 : Wd G nb (ρ.set i .no) (σ.set i (some (.ref a))) (upd H a (.lst xs)) := W0.write h2 h3 (fun j c f' cs hc => by
    by_cases hij : i = j
    · subst hij; rw [List.getElem?_set_self hil] at hc; cases hc
    · rw [List.getElem?_set_ne hij] at hc
      exact (W.apart i j _ _ _ _ _ _ hij e hc).symm
   ) (fun j c f' cs hc z => by
      subst z
      have hij : i ≠ j := fun z => by subst z; rw [List.getElem?_set_self hil] at hc; cases hc
      rw [List.getElem?_set_ne hij] at hc
      obtain ⟨_, _, _, _, _, ps, hp, _⟩ := W.ok j _ hc
      rw [hy] at hp; cases hp) (fun j c hc z => by
      have hij : i ≠ j := fun z => by subst z; rw [List.getElem?_set_self hil] at hc; cases hc
      rw [List.getElem?_set_ne hij] at hc
      exact W.apc j i c _ (Ne.symm hij) hc e a z (List.mem_singleton.mpr rfl))
  have W2 := W1.set (i := i) (s := .own a g es) (x := some (.ref a)) ⟨rfl, h2, h3, xs, upd_same, hd.keep (But.set (.inl h2))⟩ (by
    rintro a' f' ds' ⟨rfl, rfl, rfl⟩ j c g' cs hj hc
    rw [List.getElem?_set_ne (Ne.symm hj)] at hc
    exact W.apart i j _ _ _ _ _ _ (Ne.symm hj) e hc) (fun _ _ _ z => by cases z) (fun x hx j t hj ht hc z => by
    rw [List.getElem?_set_ne (Ne.symm hj)] at ht
    have hx : x = a := List.mem_singleton.mp hx
    subst hx
    rcases hc with ⟨c, q⟩ | ⟨c, rfl⟩
    · cases q
    · exact W.apc j i c _ hj ht e x z (List.mem_singleton.mpr rfl))
  rw [List.set_set, List.set_set] at W2
  have : σ.set i (some (.ref a)) = σ := by
    apply List.ext_getElem?
    intro j
    by_cases hij : i = j
    · subst hij; rw [List.getElem?_set_self (by rw [W.len]; exact hil), e1]
    · rw [List.getElem?_set_ne hij]
  rwa [this] at W2
theorem append {a : Addr} (e : ρ[i]? = some (.own a f ds)) (h : Ev G ρ te fun g d => ds.length < 10000 /\ E.nx (ρ.set i (.own a (f && g) (ds ++ [d])))) : Sv G ρ (tDrop (tBM K "list" rAppend (tVar i) (tCons te tNil))) E := fun nb σ H D W KK => by
 obtain ⟨x, e1, h1, h2, h3, xs, hx, hd⟩ := W.ok i _ e
 subst h1
 refine ⟨.ref a, e1, .inl ⟨rfl, _, SqL.of hx⟩, h nb σ H _ W fun g v H1 d ⟨hl, q⟩ s1 hv => ?_⟩
 have W1 := W.step s1
 have hx1 := s1.1 _ _ h3 hx
 refine ⟨a, xs, v, rfl, rfl, hx1, Nat.lt_of_lt_of_le (by rw [hd.length]; exact hl) (by decide), KK.nx nb _ _ _ q (writeOwn W1 e ?_)⟩
 exact IsDs.snoc (hv.av (S_mono (fun z => (Bool.and_eq_true _ _ ▸ z).2) fun _ z => z)) ((hd.keep s1.butS).av (S_mono (fun z => (Bool.and_eq_true _ _ ▸ z).1) fun _ z => z))
theorem IsDs.set' {nb : Addr -> Prop} {H : Hp} {x : V} (hd : IsD nb H d x) : ∀ {ds : List PyData} {xs : List V} (j : Nat), IsDs nb H ds xs -> IsDs nb H (ds.set j d) (xs.set j x)
 | [], _, j, h => by unfold IsDs at h; subst h; exact .nil
 | e :: ds, _, 0, h => by unfold IsDs at h; obtain ⟨y, ys, rfl, h1, h2⟩ := h; exact .cons hd h2
 | e :: ds, _, j + 1, h => by unfold IsDs at h; obtain ⟨y, ys, rfl, h1, h2⟩ := h; exact .cons h1 (IsDs.set' hd j h2)
theorem setOwn {a : Addr} (e : ρ[i]? = some (.own a f ds)) (h : Ev G ρ te fun g d => Ev G ρ tb fun _ y => ∃ k j, y = .int k /\ ixN ds.length k = some j /\ E.nx (ρ.set i (.own a (f && g) (ds.set j d)))) : Sv G ρ (tAsg te (gSub (tVar i) tb rSetL)) E := fun nb σ H D W KK =>
 h nb σ H _ W fun g v H1 d q s1 hv => by
  obtain ⟨x, e1, h1, h2, h3, xs, hx, hd⟩ := (W.step s1).ok i _ e
  subst h1
  refine ⟨.ref a, e1, q nb σ H1 _ (W.step s1) fun g' u H2 y ⟨k, j, ey, hj, p⟩ s2 hu => ?_⟩
  subst ey
  have W2 := (W.step s1).step s2
  refine ⟨a, xs, k, j, rfl, hu.ofI, s2.1 _ _ h3 hx, by rw [hd.length]; exact hj, KK.nx nb _ _ _ p (writeOwn W2 e ?_)⟩
  exact IsDs.set' ((hv.keep s2.butS).av (S_mono (fun z => (Bool.and_eq_true _ _ ▸ z).2) fun _ z => z)) j ((hd.keep s2.butS).av (S_mono (fun z => (Bool.and_eq_true _ _ ▸ z).1) fun _ z => z))
theorem share {nb : Addr -> Prop} {σ : St} {H : Hp} {a : Addr} (W : Wd G nb ρ σ H) (e : ρ[i]? = some (.own a f ds)) : Wd G (fun x => nb x /\ x ≠ a) (ρ.set i (.d f (.list ds))) σ H := by
  obtain ⟨x, e1, h1, h2, h3, xs, hx, hd⟩ := W.ok i _ e
  subst h1
  have hil : i < ρ.length := (List.getElem?_eq_some_iff.mp e).1
  have W0 : Wd G nb (ρ.set i .no) (σ.set i (some (.ref a))) H := W.set trivial fun _ _ _ z => by cases z
  have W1 : Wd G (fun x => nb x /\ x ≠ a) (ρ.set i .no) (σ.set i (some (.ref a))) H := by
    refine ⟨W0.bag, fun x n => W0.live x n.1, W0.old, fun x n => W0.nbo x n.1, W0.gA, W0.len, W0.gB, fun h m => (W0.hld h m).av (S_mono (fun z => z) fun _ z => z.1), fun j s e' => ?_, W0.apart, W0.apd, W0.apc⟩
    obtain ⟨x, e1', h⟩ := W0.ok j s e'
    refine ⟨x, e1', ?_⟩
    have hij : s ≠ .no -> i ≠ j := fun n z => by subst z; rw [List.getElem?_set_self hil] at e'; cases e'; exact n rfl
    cases s with
    | no => trivial
    | d f d => obtain ⟨v, e, h⟩ := h; exact ⟨v, e, h.av (S_mono (fun z => z) fun _ z => z.1)⟩
    | own c f es =>
      obtain ⟨e2, n, q, xs, hx, hd⟩ := h
      have hij := hij (by intro z; cases z)
      rw [List.getElem?_set_ne hij] at e'
      exact ⟨e2, ⟨n, (W.apart i j _ _ _ _ _ _ hij e e').symm⟩, q, xs, hx, hd.av (S_mono (fun z => z) fun _ z => z.1)⟩
    | bag => exact h
    | raw v => exact h
    | dic c f es =>
      obtain ⟨e2, n, q, ps, hp, hd⟩ := h
      have hca : c ≠ a := fun z => by subst z; rw [hx] at hp; cases hp
      exact ⟨e2, ⟨n, hca⟩, q, ps, hp, hd.av (S_mono (fun z => z) fun _ z => z.1)⟩
    | cu c =>
      obtain ⟨e2, n, q⟩ := h
      have hij := hij (by intro z; cases z)
      rw [List.getElem?_set_ne hij] at e'
      exact ⟨e2, fun x hx => ⟨⟨(n x hx).1, fun z => W.apc j i c _ (Ne.symm hij) e' e x hx (by rw [z]; exact List.mem_singleton.mpr rfl)⟩, (n x hx).2⟩, c.av (S_mono (fun z => z) fun _ z => z.1) q⟩
  have W2 := W1.setD (i := i) (f := f) (d := .list ds) (v := .ref a) (.lst (fun z => by
    rcases z with z | z | z | z
    · exact z.2 rfl
    · exact W.gA a z (W.nbo a h2 h3)
    · exact z h3
    · exact z.2 (W.nbo a h2 h3)) hx (hd.av (S_mono (fun z => z) fun _ z => z.1)))
  rw [List.set_set, List.set_set] at W2
  have : σ.set i (some (.ref a)) = σ := by
    apply List.ext_getElem?
    intro j
    by_cases hij : i = j
    · subst hij; rw [List.getElem?_set_self (by rw [W.len]; exact hil), e1]
    · rw [List.getElem?_set_ne hij]
  rwa [this] at W2
theorem demote {a : Addr} (i : Nat) (e : ρ[i]? = some (.own a f ds)) (h : Sv G (ρ.set i (.d f (.list ds))) s E) : Sv G ρ s E := fun nb σ H D W K => h _ σ H D (share W e) K
theorem wk {ρ' : Rh} (w : Wk ρ' ρ) (h : Sv G ρ' s E) : Sv G ρ s E := fun nb σ H D W K => h nb σ H D (W.wk w) K
end Sv
end
end L2
set_option maxRecDepth 100000
set_option maxHeartbeats 1000000
namespace L2
open PySem PySem.Spec PyProof.Rows
abbrev Gx.hd (G : Gx) (f : Bool) (d : PyData) (v : V) : Gx := { G with hold := (f, .d d, v) :: G.hold }
section
variable {G : Gx} {ρ ρc : Rh} {Φ Ψ : Pd} {ta tb te : TE} {t : TA} {i : Nat} {f g : Bool} {d e : PyData} {ds es : List PyData} {K : PySem.W.Frag}
theorem Wd.hd {nb : Addr -> Prop} {σ : St} {H : Hp} {v : V} (W : Wd G nb ρ σ H) (h : IsD (G.S nb f) H d v) : Wd (G.hd f d v) nb ρ σ H :=
 ⟨W.bag, W.live, W.old, W.nbo, W.gA, W.len, W.gB, fun x m => by
  rcases List.mem_cons.mp m with e | m
  ·subst e; exact h
  ·exact W.hld x m, fun i s e => by
   obtain ⟨x, e1, h⟩ := W.ok i s e
   refine ⟨x, e1, ?_⟩
   cases s <;> exact h, W.apart, W.apd, W.apc⟩
theorem Wd.unhd {nb : Addr -> Prop} {σ : St} {H : Hp} {v : V} (W : Wd (G.hd f d v) nb ρ σ H) : Wd G nb ρ σ H /\ IsD (G.S nb f) H d v :=
 ⟨⟨W.bag, W.live, W.old, W.nbo, W.gA, W.len, W.gB, fun x m => W.hld x (List.mem_cons_of_mem _ m), fun i s e => by
   obtain ⟨x, e1, h⟩ := W.ok i s e
   refine ⟨x, e1, ?_⟩
   cases s <;> exact h, W.apart, W.apd, W.apc⟩, W.hld _ (List.mem_cons_self ..)⟩
namespace Sv
variable {E : DE} {s : TS} {gt : TG}
def Turns (G : Gx) (ρ : Rh) (n : Nat) (it : Nat -> PyData -> Prop) (fi : Bool) (gt : TG) (s : TS) (E : DE) : Prop :=
 ∃ I : Nat -> Rh -> Prop, I 0 ρ /\ (∀ i d ρ', it i d -> I i ρ' -> Gv G ρ' gt fi d fun ρ2 => Sv G ρ2 s { nx := I (i + 1), rt := E.rt, bk := E.nx, ct := I (i + 1) }) /\ ∀ ρ', I n ρ' -> E.nx ρ'
theorem loopR {lo : Int} {n : Nat} {nb : Addr -> Prop} {σ : St} {H : Hp} {D : Ends} (W : Wd G nb ρ σ H) (KK : EndsOk G E D) (h : Turns G ρ n (fun i d => i < n /\ d = .int (lo + i)) true gt s E) :
  ∃ W : Nat -> Nat -> St -> Hp -> Prop, (∃ m, W 0 m σ H) /\ ∀ i m σ H, W i m σ H ->
   ((Itr lo n).stop i H /\ D.nx σ H) \/ ((Itr lo n).go i H /\ ∃ N : St -> Hp -> Prop, (∀ σ' H', N σ' H' -> ∃ m', m' < m /\ W (i + 1) m' σ' H') /\ ∀ x H', (Itr lo n).yld i H x H' -> gt x σ H' fun σ2 H2 => s { D with nx := N, ct := N, bk := D.nx } σ2 H2) := by
 obtain ⟨I, h0, ht, he⟩ := h
 refine for_range (fun i σ H => ∃ nb ρ', I i ρ' /\ Wd G nb ρ' σ H) ⟨nb, ρ, h0, W⟩ ?_ ?_
 ·rintro i σ H hi ⟨nb, ρ', hI, W⟩
  refine ht i _ ρ' ⟨hi, rfl⟩ hI nb σ H _ _ W (.int _) fun σ2 ρ2 q W2 => q nb σ2 H _ W2 ?_
  exact ⟨fun nb ρ σ H q W => ⟨nb, ρ, q, W⟩, KK.nx, fun nb ρ σ H q W => ⟨nb, ρ, q, W⟩, KK.rt⟩
 ·rintro σ H ⟨nb, ρ', hI, W⟩
  exact KK.nx nb ρ' σ H (he ρ' hI) W
theorem forR1 (h : Ev G ρ te fun _ x => ∃ n : Int, x = .int n /\ -(2 ^ 62) <= n /\ n < 2 ^ 62 /\ Turns G ρ n.toNat (fun i d => i < n.toNat /\ d = .int (0 + i)) true gt s E) : Sv G ρ (tFor (iRng1 (tCons te tNil)) gt s) E := fun nb σ H D W KK =>
 h nb σ H _ W fun f v H1 x ⟨n, ex, h1, h2, q⟩ s1 hv => by
  subst ex
  rw [hv.ofI]
  exact ⟨n, rfl, h1, h2, loopR (W.step s1) KK q⟩
theorem forL (h : Ev G ρ te fun f x => ∃ ds, x = .list ds /\ ∀ v, Turns (G.hd f (.list ds) v) ρ ds.length (fun i d => ds[i]? = some d) f gt s E) : Sv G ρ (tFor (iList K te) gt s) E := fun nb σ H D W KK =>
 h nb σ H _ W fun f v H1 x ⟨ds, ex, q⟩ s1 hv => by
  subst ex
  obtain ⟨I, h0, ht, he⟩ := q v
  have W1 := (W.step s1).hd hv
  obtain ⟨a, xs, rfl, n, hx, hd⟩ := hv.ofL
  have key : ∀ {nb ρ' σ H}, Wd (G.hd f (.list ds) (.ref a)) nb ρ' σ H -> ∃ xs, H a = some (.lst xs) /\ IsDs (G.S nb f) H ds xs := fun W => by
   obtain ⟨a', xs', e', _, h', d'⟩ := W.unhd.2.ofL
   cases e'
   exact ⟨xs', h', d'⟩
  refine ⟨a, rfl, ⟨xs, .of hx⟩, ?_⟩
  refine ⟨fun i m σ H => m = ds.length - i /\ i <= ds.length /\ ∃ nb ρ', I i ρ' /\ Wd (G.hd f (.list ds) (.ref a)) nb ρ' σ H, ⟨ds.length, by simp, Nat.zero_le _, nb, ρ, h0, W1⟩, ?_⟩
  rintro i m σ H ⟨rfl, hi, nb, ρ', hI, W⟩
  obtain ⟨ys, hy, hD⟩ := key W
  have hl := hD.length
  by_cases hlt : i < ds.length
  ·refine .inr ⟨⟨ys, ys[i]'(by omega), .of hy, List.getElem?_eq_getElem _⟩, fun σ H => ∃ nb ρ', I (i + 1) ρ' /\ Wd (G.hd f (.list ds) (.ref a)) nb ρ' σ H, fun σ' H' q => ⟨ds.length - (i + 1), by omega, rfl, hlt, q⟩, fun x H' y => ?_⟩
   obtain ⟨e, y⟩ := y
   subst e
   have hx := y ys (.of hy)
   obtain ⟨x', hx', dx⟩ := hD.get (List.getElem?_eq_getElem hlt)
   rw [hx] at hx'; cases hx'
   refine ht i _ ρ' (List.getElem?_eq_getElem hlt) hI nb σ _ _ _ W dx fun σ2 ρ2 q W2 => q nb σ2 _ _ W2 ?_
   exact ⟨fun nb ρ σ H q W => ⟨nb, ρ, q, W⟩, fun nb ρ σ H q W => KK.nx nb ρ σ H q W.unhd.1, fun nb ρ σ H q W => ⟨nb, ρ, q, W⟩, fun nb ρ σ f v H d q W hv => KK.rt nb ρ σ f v H d q W.unhd.1 hv⟩
  ·have e : i = ds.length := by omega
   subst e
   exact .inl ⟨⟨ys, .of hy, by omega⟩, KK.nx nb ρ' σ H (he ρ' hI) W.unhd.1⟩
theorem while_ {c : TT} (I : Rh -> Prop) (μ : Rh -> Nat) (h0 : I ρ) (h : ∀ ρ', I ρ' -> Tv G ρ' c fun b => if b = true then Sv G ρ' s { nx := fun ρ2 => I ρ2 /\ μ ρ2 < μ ρ', rt := E.rt, bk := E.nx, ct := fun ρ2 => I ρ2 /\ μ ρ2 < μ ρ' } else E.nx ρ') : Sv G ρ (tWhile c s) E := fun nb σ H D W KK => by
  refine ⟨fun m σ H => ∃ nb ρ', I ρ' /\ Wd G nb ρ' σ H /\ m = μ ρ', ⟨_, nb, ρ, h0, W, rfl⟩, ?_⟩
  rintro m σ H ⟨nb, ρ', hI, W, rfl⟩
  refine h ρ' hI nb σ H _ W fun b H1 q s1 => ?_
  cases b with
  | true =>
    rw [if_pos rfl] at q ⊢
    refine ⟨fun σ' H' => ∃ nb ρ2, (I ρ2 /\ μ ρ2 < μ ρ') /\ Wd G nb ρ2 σ' H', fun σ' H' ⟨nb, ρ2, ⟨q1, q2⟩, W2⟩ => ⟨μ ρ2, q2, nb, ρ2, q1, W2, rfl⟩, q nb σ H1 _ (W.step s1) ?_⟩
    exact ⟨fun nb ρ σ H q W => ⟨nb, ρ, q, W⟩, KK.nx, fun nb ρ σ H q W => ⟨nb, ρ, q, W⟩, KK.rt⟩
  | false => rw [if_neg Bool.false_ne_true] at q ⊢; exact KK.nx nb ρ' σ H1 q (W.step s1)
end Sv
def startR (mp : List (Option Nat)) (ρ : Rh) : Rh := mp.map fun o => match o with | none => .no | some j => match ρ[j]? with | some s => s | none => .no
theorem mp_inj {mp : List (Option Nat)} (h : (mp.filterMap id).Nodup) : ∀ {i j k : Nat}, mp[i]? = some (some k) -> mp[j]? = some (some k) -> i = j := by
  induction mp with
  | nil => intro i j k e; simp at e
  | cons o r ih =>
    intro i j k e1 e2
    have hr : (r.filterMap id).Nodup := by
      cases o with
      | none => simpa using h
      | some x => rw [List.filterMap_cons_some (by rfl)] at h; exact (List.nodup_cons.mp h).2
    have hn : ∀ {m : Nat}, r[m]? = some (some k) -> o ≠ some k := fun {m} hm e => by
      subst e
      rw [List.filterMap_cons_some (by rfl)] at h
      exact (List.nodup_cons.mp h).1 (List.mem_filterMap.mpr ⟨some k, List.mem_of_getElem? hm, rfl⟩)
    cases i with
    | zero =>
      cases j with
      | zero => rfl
      | succ j => simp at e1 e2; exact absurd e1 (hn e2)
    | succ i =>
      cases j with
      | zero => simp at e1 e2; exact absurd e2 (hn e1)
      | succ j => simp at e1 e2; rw [ih hr e1 e2]
theorem Wd.startC {nb : Addr -> Prop} {σ : St} {H : Hp} {mp : List (Option Nat)} (W : Wd G nb ρ σ H) (hm : (mp.filterMap id).Nodup) : Wd G nb (startR mp ρ) (startC mp σ) H := by
  have hat : ∀ {i : Nat} {s : Sl}, (startR mp ρ)[i]? = some s -> s = .no \/ ∃ k, mp[i]? = some (some k) /\ ρ[k]? = some s := fun {i s} e => by
    unfold startR at e
    rw [List.getElem?_map] at e
    obtain ⟨o, ho, e⟩ := Option.map_eq_some_iff.mp e
    cases o with
    | none => exact .inl e.symm
    | some k =>
      cases hk : ρ[k]? with
      | none => simp only [hk] at e; exact .inl e.symm
      | some s' => simp only [hk] at e; subst e; exact .inr ⟨k, ho, hk⟩
  refine ⟨W.bag, W.live, W.old, W.nbo, W.gA, by unfold L2.startC startR; rw [List.length_map, List.length_map], W.gB, W.hld, fun i s e => ?_, fun i j a f as c g cs hij e1 e2 => ?_, fun i j a f as c g cs hij e1 e2 => ?_, fun i j c t hij e1 e2 a ha => ?_⟩
  · have hi : i < mp.length := by have := (List.getElem?_eq_some_iff.mp e).1; unfold startR at this; rwa [List.length_map] at this
    rcases hat e with rfl | ⟨k, hk, hs⟩
    · exact ⟨_, by unfold L2.startC; rw [List.getElem?_map, List.getElem?_eq_getElem hi]; rfl, trivial⟩
    · obtain ⟨x, e1, h⟩ := W.ok k s hs
      refine ⟨x, ?_, h⟩
      unfold L2.startC
      rw [List.getElem?_map, hk]
      simp only [Option.map_some, e1]
  · rcases hat e1 with z | ⟨k, hk, hs⟩
    · cases z
    rcases hat e2 with z | ⟨k', hk', hs'⟩
    · cases z
    exact W.apart k k' a f as c g cs (fun z => by subst z; exact hij (mp_inj hm hk hk')) hs hs'
  · rcases hat e1 with z | ⟨k, hk, hs⟩
    · cases z
    rcases hat e2 with z | ⟨k', hk', hs'⟩
    · cases z
    exact W.apd k k' a f as c g cs (fun z => by subst z; exact hij (mp_inj hm hk hk')) hs hs'
  · rcases hat e1 with z | ⟨k, hk, hs⟩
    · cases z
    rcases hat e2 with z | ⟨k', hk', hs'⟩
    · subst z; exact fun z => by cases z
    exact W.apc k k' c t (fun z => by subst z; exact hij (mp_inj hm hk hk')) hs hs' a ha
def NoOwn (ρ : Rh) (acc : Addr) : Prop := (∀ (j : Nat) a f ds, ρ[j]? = some (.own a f ds) -> a ≠ acc) /\ ∀ (j : Nat) c, ρ[j]? = some (.cu c) -> acc ∉ c.F
def CompD (G : Gx) (ρc : Rh) (n : Nat) (it : Nat -> PyData -> Prop) (fi : Bool) (gt : TG) (tc : TT) (te : TE) (Θ : Bool -> List PyData -> Prop) : Prop :=
 ∃ (fl : Bool) (I : Nat -> List PyData -> Prop), I 0 [] /\ (∀ i d ds, it i d -> ds.length <= i -> I i ds -> Gv G ρc gt fi d fun ρ1 => Wk ρc ρ1 /\ Tv G ρ1 tc fun b => if b = true then Ev G ρ1 te fun f e => (fl = true -> f = true) /\ I (i + 1) (ds ++ [e]) else I (i + 1) ds) /\
  ∀ ds, ds.length <= n -> I n ds -> Θ (fl || scAll ds) ds
theorem comp_turn {gt : TG} {tc : TT} {nb : Addr -> Prop} {acc : Addr} {σ : St} {H H1 : Hp} {x : V} {fi fl : Bool} {I : Nat -> List PyData -> Prop} {xs : List V} {N : St -> Hp -> Prop} {ds : List PyData} {n : Nat} (hn : n <= 10000) (hi : i < n)
    (W : Wd G nb ρc σ H) (ha : nb acc) (hN : NB G.B acc) (hno : NoOwn ρc acc) (st : Step G.B H1 H) (hacc : H1 acc = none) (hx : H acc = some (.lst xs)) (hd : IsDs (G.S nb fl) H ds xs) (hl : ds.length <= i) (hxd : IsD (G.S nb fi) H d x)
    (h : Gv G ρc gt fi d fun ρ1 => Wk ρc ρ1 /\ Tv G ρ1 tc fun b => if b = true then Ev G ρ1 te fun f e => (fl = true -> f = true) /\ I (i + 1) (ds ++ [e]) else I (i + 1) ds)
    (z : ∀ σ' H' ds' xs', Wd G nb ρc σ' H' -> Step G.B H1 H' -> H' acc = some (.lst xs') -> IsDs (G.S nb fl) H' ds' xs' -> ds'.length <= i + 1 -> I (i + 1) ds' -> N σ' H') :
    gt x σ H fun σ2 H2 => tc σ2 H2 fun b H3 => if b = true then te σ2 H3 fun v H4 => ∃ ys, H4 acc = some (.lst ys) /\ ys.length < sizeLine /\ N σ2 (upd H4 acc (.lst (ys ++ [v]))) else N σ2 H3 := by
  refine h nb σ H x _ W hxd fun σ2 ρ1 ⟨wk, q⟩ W2 => q nb σ2 H _ W2 fun b H3 q3 s3 => ?_
  have hx3 := s3.1 _ _ hN hx
  have hd3 := hd.keep (s3.butS (nb := nb) (f := fl))
  cases b with
  | false =>
    rw [if_neg Bool.false_ne_true] at q3 ⊢
    exact z σ2 H3 ds xs ((W2.step s3).wk wk) (st.trans s3) hx3 hd3 (by omega) q3
  | true =>
    rw [if_pos rfl] at q3 ⊢
    refine q3 nb σ2 H3 _ (W2.step s3) fun f v H4 e ⟨hf, hI⟩ s4 hv => ?_
    have hx4 := s4.1 _ _ hN hx3
    have hd4 := hd3.keep (s4.butS (nb := nb) (f := fl))
    have hlen := hd.length
    refine ⟨xs, hx4, Nat.lt_of_lt_of_le (show xs.length < 10001 by omega) (by decide), ?_⟩
    have W4 : Wd G nb ρc σ2 H4 := ((W2.step s3).step s4).wk wk
    have bt : But (G.S nb fl) H4 (upd H4 acc (.lst (xs ++ [v]))) := But.set (.inl ha)
    have W5 : Wd G nb ρc σ2 (upd H4 acc (.lst (xs ++ [v]))) := W4.write ha hN hno.1 (fun j a f ds e z => by
      subst z
      obtain ⟨_, _, _, _, _, ps, hp, _⟩ := W4.ok j _ e
      rw [hx4] at hp; cases hp) hno.2
    refine z σ2 _ (ds ++ [e]) (xs ++ [v]) W5 ⟨fun a o n q => ?_, W5.bag⟩ upd_same (IsDs.snoc ((hv.av (S_mono hf fun _ z => z)).keep bt) (hd4.keep bt)) (by rw [List.length_append, List.length_singleton]; omega) hI
    have hne : a ≠ acc := fun z => by subst z; rw [hacc] at q; cases q
    rw [upd_ne hne]
    exact (st.trans (s3.trans s4)).1 a o n q
theorem no_own {nb : Addr -> Prop} {σ : St} {H : Hp} {a : Addr} (W : Wd G nb ρ σ H) (ha : H a = none) : NoOwn ρ a := by
 refine ⟨fun j c f ds e z => ?_, fun j c e z => ?_⟩
 ·subst z
  obtain ⟨x, e1, h1, h2, h3, ys, hy, _⟩ := W.ok j _ e
  rw [hy] at ha; cases ha
 ·obtain ⟨x, e1, h1, h2, h3⟩ := W.ok j _ e
  exact W.live a (h2 a z).1 ha
theorem hA_more {nb : Addr -> Prop} {a : Addr} {f : Bool} : ∀ x, (G.S nb f x \/ x = a) -> G.S (fun x => nb x \/ x = a) f x := fun x z => by
 rcases z with (z | z | z | z) | z
 ·exact .inl (.inl z)
 ·exact .inr (.inl z)
 ·exact .inr (.inr (.inl z))
 ·exact .inr (.inr (.inr z))
 ·exact .inl (.inr z)
theorem comp_end {nb : Addr -> Prop} {acc : Addr} {H H1 H' : Hp} {σ : St} {Q : VK} {Θ : Bool -> List PyData -> Prop} {xs : List V} {ds : List PyData} {fl : Bool} (W : Wd G nb ρ σ H) (s1 : Step G.B H H1) (hacc : H1 acc = none) (s2 : Step G.B H1 H') (hx : H' acc = some (.lst xs)) (hd : IsDs (G.S (fun x => nb x \/ x = acc) fl) H' ds xs) (p : Θ (fl || scAll ds) ds)
  (z : ∀ f a xs H' ds, Θ f ds -> Step G.B H H' -> H a = none -> H' a = some (.lst xs) -> IsDs (fun x => G.S nb f x \/ x = a) H' ds xs -> Q (.ref a) H') : Q (.ref acc) H' := by
 refine z _ acc xs H' ds p (s1.trans s2) (W.none_of s1 hacc) hx ?_
 cases hs : scAll ds with
 | true => exact IsDs.scAny hs hd
 | false => rw [Bool.or_false]; exact hd.av hA_more
theorem NB.new {B : Bg} {H : Hp} {a : Addr} (h : BagOk B H) (ha : H a = none) : NB B a := Classical.byContradiction fun z => NB.bag_live h z ha
namespace EvN
variable {Θ : Bool -> List PyData -> Prop} {gt : TG} {tc : TT} {mp : List (Option Nat)}
theorem compR {lo : Int} {n : Nat} {nb : Addr -> Prop} {σ : St} {H H1 : Hp} {Q : VK} (W : Wd G nb ρ σ H) (s1 : Step G.B H H1) (hm : (mp.filterMap id).Nodup) (hρ : startR mp ρ = ρc) (hn : n <= 10000) (h : CompD G ρc n (fun i d => i < n /\ d = .int (lo + i)) true gt tc te Θ)
  (z : ∀ f a xs H' ds, Θ f ds -> Step G.B H H' -> H a = none -> H' a = some (.lst xs) -> IsDs (fun x => G.S nb f x \/ x = a) H' ds xs -> Q (.ref a) H') (acc : Addr) (hacc : H1 acc = none) : CompW (Itr lo n) gt tc te acc (fun H' => Q (.ref acc) H') (startC mp σ) (upd H1 acc (.lst [])) := by
 obtain ⟨fl, I, h0, ht, he⟩ := h
 have W0 : Wd G nb ρc (L2.startC mp σ) H1 := by rw [<- hρ]; exact (W.step s1).startC hm
 have W1 := W0.more hacc (o := .lst [])
 have hN := NB.new s1.2 hacc
 have hno := no_own W0 hacc
 have st0 : Step G.B H1 (upd H1 acc (.lst [])) := .same s1.2 (same_new hacc)
 refine R.comp_range (fun i σ H => ∃ ds xs, Wd G (fun x => nb x \/ x = acc) ρc σ H /\ Step G.B H1 H /\ H acc = some (.lst xs) /\ IsDs (G.S (fun x => nb x \/ x = acc) fl) H ds xs /\ ds.length <= i /\ I i ds) ⟨[], [], W1, st0, upd_same, .nil, Nat.le_refl _, h0⟩ ?_ ?_
 ·rintro i σ H hi ⟨ds, xs, W, st, hx, hd, hl, hI⟩
  exact comp_turn hn hi W (.inr rfl) hN hno st hacc hx hd hl (.int _) (ht i _ ds ⟨hi, rfl⟩ hl hI) fun σ' H' ds' xs' W' st' hx' hd' hl' hI' => ⟨ds', xs', W', st', hx', hd', hl', hI'⟩
 ·rintro σ H' ⟨ds, xs, W', st, hx, hd, hl, hI⟩
  exact comp_end W s1 hacc st hx hd (he ds hl hI) z
theorem compR1 {t0 : TE} (hm : (mp.filterMap id).Nodup) (hρ : startR mp ρ = ρc) (h : Ev G ρ t0 fun _ x => ∃ n : Int, x = .int n /\ -10000 <= n /\ n <= 10000 /\ CompD G ρc n.toNat (fun i d => i < n.toNat /\ d = .int (0 + i)) true gt tc te Θ) : EvN G ρ (tComp (iRng1 (tCons t0 tNil)) gt tc te mp) Θ := fun nb σ H Q W z =>
 h nb σ H _ W fun f v H1 x ⟨n, ex, h1, h2, q⟩ s1 hv => by
  subst ex
  rw [hv.ofI]
  exact ⟨n, rfl, by omega, by omega, compR W s1 hm hρ (by omega) q z⟩
theorem compL {t0 : TE} (hm : (mp.filterMap id).Nodup) (hρ : startR mp ρ = ρc) (h : Ev G ρ t0 fun fi x => ∃ es, x = .list es /\ es.length <= 10000 /\ ∀ v, CompD (G.hd fi (.list es) v) ρc es.length (fun i d => es[i]? = some d) fi gt tc te Θ) : EvN G ρ (tComp (iList K t0) gt tc te mp) Θ := fun nb σ H Q W z =>
 h nb σ H _ W fun fi v H1 x ⟨es, ex, hn, q⟩ s1 hv => by
  subst ex
  obtain ⟨fl, I, h0, ht, he⟩ := q v
  have W0 := (W.step s1).hd hv
  obtain ⟨a, xs, rfl, n, hx, hd⟩ := hv.ofL
  refine ⟨a, rfl, ⟨xs, .of hx⟩, fun acc hacc => ?_⟩
  have W0' : Wd (G.hd fi (.list es) (.ref a)) nb ρc (L2.startC mp σ) H1 := by rw [<- hρ]; exact W0.startC hm
  have W1 := W0'.more hacc (o := .lst [])
  have hN := NB.new s1.2 hacc
  have hno := no_own W0' hacc
  have st0 : Step G.B H1 (upd H1 acc (.lst [])) := .same s1.2 (same_new hacc)
  have hNa : NB G.B a := Classical.byContradiction fun z => n (.inr (.inr (.inl z)))
  refine R.comp_list (xs := xs) (fun i σ H => ∃ ds ys, Wd (G.hd fi (.list es) (.ref a)) (fun x => nb x \/ x = acc) ρc σ H /\ Step G.B H1 H /\ H acc = some (.lst ys) /\ IsDs (G.S (fun x => nb x \/ x = acc) fl) H ds ys /\ ds.length <= i /\ I i ds) ⟨[], [], W1, st0, upd_same, .nil, Nat.le_refl _, h0⟩ ?_ ?_ ?_
  ·rintro i σ H hi ⟨ds, ys, W, st, _⟩
   exact .of (st.1 _ _ hNa hx)
  ·rintro i x σ H hi ⟨ds, ys, W, st, hy, hd', hl, hI⟩
   obtain ⟨a', xs', e', _, h', d'⟩ := W.unhd.2.ofL
   cases e'
   rw [st.1 _ _ hNa hx] at h'; cases h'
   have hil : i < es.length := by have := (List.getElem?_eq_some_iff.mp hi).1; have := d'.length; omega
   obtain ⟨x', hx', dx⟩ := d'.get (List.getElem?_eq_getElem hil)
   rw [hi] at hx'; cases hx'
   exact comp_turn (G := G.hd fi (.list es) (.ref a)) hn hil W (.inr rfl) hN hno st hacc hy hd' hl dx (ht i _ ds (List.getElem?_eq_getElem hil) hl hI) fun σ' H' ds' xs' W' st' hx' hd' hl' hI' => ⟨ds', xs', W', st', hx', hd', hl', hI'⟩
  ·rintro σ H' ⟨ds, ys, W', st, hy, hd', hl, hI⟩
   rw [hd.length] at hl hI
   exact comp_end W s1 hacc st hy hd' (he ds hl hI) z
end EvN
end
end L2
set_option maxRecDepth 100000
set_option maxHeartbeats 1000000
namespace L2
open PySem PySem.Spec PyProof.Rows
section
variable {ρ : Rh} {t : TS} {N : List Str} {vs : List V} {ds : List PyData} {nb : Addr -> Prop} {H : Hp} {Q : VK} {Φ : Pd} {b l : Addr}
theorem isDs_at {xs : List V} (h : IsDs nb H ds xs) {i : Nat} {s : Sl} (e : (ds.map (Sl.d false))[i]? = some s) : ∃ v d, xs[i]? = some v /\ s = .d false d /\ IsD nb H d v := by
 rw [List.getElem?_map] at e
 obtain ⟨d, hd, e⟩ := Option.map_eq_some_iff.mp e
 obtain ⟨v, hv, q⟩ := h.get hd
 exact ⟨v, d, hv, e.symm, q⟩
theorem Sv.enterD (hl : Live nb H) (hd : IsDs nb H ds vs) (hΦ : ∀ f d v H', Φ f d -> Same H H' -> IsD (fun a => nb a \/ (f = true /\ H a ≠ none)) H' d v -> Q v H')
  (hρ : ρ = ds.map (Sl.d false) ++ List.replicate (N.length - ds.length) .no) (h : Sv ⟨none, H, nb, []⟩ ρ t { nx := fun _ => Φ true .none, rt := Φ }) : t { nx := fun _ H' => Q .non H', rt := Q } (start N vs) H := by
 have hlen := hd.length
 have sm : ∀ {nb' ρ' σ' H'}, Wd ⟨none, H, nb, []⟩ nb' ρ' σ' H' -> Same H H' := fun W a o e => W.old a o (fun _ _ z => (by cases z)) e
 refine h (fun _ => False) _ H _ ⟨fun _ _ z => (by cases z), fun _ z => z.elim, fun _ _ _ e => e, fun _ z => z.elim, hl, ?_, fun _ _ z => (by cases z), fun _ m => (by cases m), fun i s e => ?_, ?_, ?_, ?_⟩ ⟨fun nb' ρ' σ' H' q W => hΦ _ _ _ _ q (sm W) .non, fun _ _ _ _ q _ => q.elim, fun _ _ _ _ q _ => q.elim, fun nb' ρ' σ' f v H' d q W hv => hΦ f d v H' q (sm W) (hv.av fun a z => ?_)⟩
 ·rw [hρ]; unfold start; simp [hlen]
 ·rw [hρ] at e
  unfold start
  by_cases hi : i < ds.length
  ·rw [List.getElem?_append_left (by rw [List.length_map]; exact hi)] at e
   obtain ⟨v, d, hv, rfl, q⟩ := isDs_at hd e
   refine ⟨some v, ?_, v, rfl, q.av fun a z => ?_⟩
   ·rw [List.getElem?_append_left (by rw [List.length_map, hlen]; exact hi), List.getElem?_map, hv]; rfl
   ·rcases z with z | z | z | z
    ·exact z.elim
    ·exact z
    ·exact absurd (fun _ _ z => (by cases z)) z
    ·cases z.1
  ·rw [List.getElem?_append_right (by rw [List.length_map]; omega), List.getElem?_replicate] at e
   split at e
   ·rename_i h'
    cases e
    refine ⟨none, ?_, trivial⟩
    rw [List.length_map] at h'
    rw [List.getElem?_append_right (by rw [List.length_map]; omega), List.getElem?_replicate, if_pos (by rw [List.length_map, hlen]; exact h')]
   ·cases e
 ·intro i j a f as c g cs hij e1
  rw [hρ] at e1
  by_cases hi : i < ds.length
  ·rw [List.getElem?_append_left (by rw [List.length_map]; exact hi)] at e1
   obtain ⟨_, _, _, z, _⟩ := isDs_at hd e1
   cases z
  ·rw [List.getElem?_append_right (by rw [List.length_map]; omega), List.getElem?_replicate] at e1
   split at e1 <;> cases e1
 ·intro i j a f as c g cs hij e1
  rw [hρ] at e1
  by_cases hi : i < ds.length
  ·rw [List.getElem?_append_left (by rw [List.length_map]; exact hi)] at e1
   obtain ⟨_, _, _, z, _⟩ := isDs_at hd e1
   cases z
  ·rw [List.getElem?_append_right (by rw [List.length_map]; omega), List.getElem?_replicate] at e1
   split at e1 <;> cases e1
 ·intro i j c t hij e1
  rw [hρ] at e1
  by_cases hi : i < ds.length
  ·rw [List.getElem?_append_left (by rw [List.length_map]; exact hi)] at e1
   obtain ⟨_, _, _, z, _⟩ := isDs_at hd e1
   cases z
  ·rw [List.getElem?_append_right (by rw [List.length_map]; omega), List.getElem?_replicate] at e1
   split at e1 <;> cases e1
 ·rcases z with z | z
  ·exact .inr (.inl z)
  ·exact .inr (.inr (.inr z))
theorem Sv.enterB (hB : BagAt H b l) (hl : Live nb H) (hb : nb b) (hd : IsDs nb H ds vs) (hΦ : ∀ f d v H', Φ f d -> But (Nb b) H H' -> BagAt H' b l -> IsD (fun a => nb a \/ (f = true /\ H a ≠ none)) H' d v -> Q v H')
    (hρ : ρ = .bag :: ds.map (Sl.d false) ++ List.replicate (N.length - (ds.length + 1)) .no) (h : Sv ⟨some (b, l), H, nb, []⟩ ρ t { nx := fun _ => Φ true .none, rt := Φ }) : t { nx := fun _ H' => Q .non H', rt := Q } (start N (.ref b :: vs)) H := by
  have hlen := hd.length
  have hNB : ∀ a, a ≠ b -> NB (some (b, l)) a := fun a n b' l' e => by cases e; exact n
  have hNB' : ∀ a, ¬ NB (some (b, l)) a -> a = b := fun a n => Classical.byContradiction fun z => n (hNB a z)
  have bt : ∀ {nb' ρ' σ' H'}, Wd ⟨some (b, l), H, nb, []⟩ nb' ρ' σ' H' -> But (Nb b) H H' := fun W a o n e => W.old a o (hNB a n) e
  have bg : ∀ {nb' ρ' σ' H'}, Wd ⟨some (b, l), H, nb, []⟩ nb' ρ' σ' H' -> BagAt H' b l := fun W => W.bag b l rfl
  refine h (fun _ => False) _ H _ ⟨fun b' l' e => (by cases e; exact hB), fun _ z => z.elim, fun _ _ _ e => e, fun _ z => z.elim, hl, ?_, fun b' l' e => (by cases e; exact hB), fun _ m => (by cases m), fun i s e => ?_, ?_, ?_, ?_⟩ ⟨fun nb' ρ' σ' H' q W => hΦ _ _ _ _ q (bt W) (bg W) .non, fun _ _ _ _ q _ => q.elim, fun _ _ _ _ q _ => q.elim, fun nb' ρ' σ' f v H' d q W hv => hΦ f d v H' q (bt W) (bg W) (hv.av fun a z => ?_)⟩
  · rw [hρ]; unfold start; simp [hlen]
  · rw [hρ] at e
    unfold start
    cases i with
    | zero => simp at e; subst e; exact ⟨some (.ref b), by simp, b, l, rfl, rfl⟩
    | succ i =>
      simp only [List.cons_append, List.getElem?_cons_succ, List.map_cons, List.length_cons] at e ⊢
      by_cases hi : i < ds.length
      · rw [List.getElem?_append_left (by rw [List.length_map]; exact hi)] at e
        obtain ⟨v, d, hv, rfl, q⟩ := isDs_at hd e
        refine ⟨some v, ?_, v, rfl, q.av fun a z => ?_⟩
        · rw [List.getElem?_append_left (by rw [List.length_map, hlen]; exact hi), List.getElem?_map, hv]; rfl
        · rcases z with z | z | z | z
          · exact z.elim
          · exact z
          · rw [hNB' a z]; exact hb
          · cases z.1
      · rw [List.getElem?_append_right (by rw [List.length_map]; omega), List.getElem?_replicate] at e
        split at e
        · rename_i h'
          cases e
          refine ⟨none, ?_, trivial⟩
          rw [List.length_map] at h'
          rw [List.getElem?_append_right (by rw [List.length_map]; omega), List.getElem?_replicate, if_pos (by rw [List.length_map, hlen]; exact h')]
        · cases e
  · intro i j a f as c g cs hij e1
    rw [hρ] at e1
    cases i with
    | zero => simp at e1
    | succ i =>
      simp only [List.cons_append, List.getElem?_cons_succ] at e1
      by_cases hi : i < ds.length
      · rw [List.getElem?_append_left (by rw [List.length_map]; exact hi)] at e1
        obtain ⟨_, _, _, z, _⟩ := isDs_at hd e1
        cases z
      · rw [List.getElem?_append_right (by rw [List.length_map]; omega), List.getElem?_replicate] at e1
        split at e1 <;> cases e1
  · intro i j a f as c g cs hij e1
    rw [hρ] at e1
    cases i with
    | zero => simp at e1
    | succ i =>
      simp only [List.cons_append, List.getElem?_cons_succ] at e1
      by_cases hi : i < ds.length
      · rw [List.getElem?_append_left (by rw [List.length_map]; exact hi)] at e1
        obtain ⟨_, _, _, z, _⟩ := isDs_at hd e1
        cases z
      · rw [List.getElem?_append_right (by rw [List.length_map]; omega), List.getElem?_replicate] at e1
        split at e1 <;> cases e1
  · intro i j c t hij e1
    rw [hρ] at e1
    cases i with
    | zero => simp at e1
    | succ i =>
      simp only [List.cons_append, List.getElem?_cons_succ] at e1
      by_cases hi : i < ds.length
      · rw [List.getElem?_append_left (by rw [List.length_map]; exact hi)] at e1
        obtain ⟨_, _, _, z, _⟩ := isDs_at hd e1
        cases z
      · rw [List.getElem?_append_right (by rw [List.length_map]; omega), List.getElem?_replicate] at e1
        split at e1 <;> cases e1
  · rcases z with z | z
    · exact .inr (.inl z)
    · exact .inr (.inr (.inr z))
def lawG (b l : Addr) (H : Hp) : Gx := ⟨some (b, l), H, fun _ => False, []⟩
theorem law_wdS {a : Addr} {m : Nat} (hB : BagAt H b l) : Wd (lawG b l H) (fun _ => False) (.raw (.ref a) :: .bag :: List.replicate m .no) (some (.ref a) :: some (.ref b) :: List.replicate m none) H := by
  refine ⟨fun b' l' e => (by cases e; exact hB), fun _ z => z.elim, fun _ _ _ e => e, fun _ z => z.elim, fun _ z => z.elim, by simp, fun b' l' e => (by cases e; exact hB), fun _ m => (by cases m), fun i s e => ?_, ?_, ?_, ?_⟩
  · match i with
    | 0 => simp at e; subst e; exact ⟨_, rfl, rfl⟩
    | 1 => simp at e; subst e; exact ⟨some (.ref b), rfl, b, l, rfl, rfl⟩
    | i + 2 =>
      simp only [List.getElem?_cons_succ, List.getElem?_replicate] at e ⊢
      split at e
      · rename_i h; cases e; exact ⟨none, if_pos h, trivial⟩
      · cases e
  · intro i j a f as c g cs hij e1
    match i with
    | 0 => simp at e1
    | 1 => simp at e1
    | i + 2 =>
      simp only [List.getElem?_cons_succ, List.getElem?_replicate] at e1
      split at e1 <;> cases e1
  · intro i j a f as c g cs hij e1
    match i with
    | 0 => simp at e1
    | 1 => simp at e1
    | i + 2 =>
      simp only [List.getElem?_cons_succ, List.getElem?_replicate] at e1
      split at e1 <;> cases e1
  · intro i j c t hij e1
    match i with
    | 0 => simp at e1
    | 1 => simp at e1
    | i + 2 =>
      simp only [List.getElem?_cons_succ, List.getElem?_replicate] at e1
      split at e1 <;> cases e1
theorem Ev.lenRaw {G : Gx} {i : Nat} {a : Addr} {ns : List Int} {K : PySem.W.Frag} (e : ρ[i]? = some (.raw (.ref a))) (hS : SqL K G.H0 a (ns.map V.int)) (h : Φ true (.int ns.length)) : Ev G ρ (tCB (rLen K) (tCons (tVar i) tNil)) Φ := fun nb σ H Q W z => by
 obtain ⟨x, e1, h1⟩ := W.ok i _ e
 have h1 : x = some (.ref a) := h1
 subst h1
 have hS' : SqL K H a (ns.map V.int) := by
  rcases hS with hr | hk
  ·have hn : NB G.B a := fun b l hb z => by
    subst z
    obtain ⟨_, _, _, _, _, g1, _⟩ := W.gB _ _ hb
    rcases hr with hr | ⟨o, hr⟩
    ·rw [g1] at hr
     have := HO.lst.inj (Option.some.inj hr)
     cases ns with
     | nil => cases this
     | cons n r => rw [List.map_cons] at this; cases (List.cons.inj this).1
    ·rw [g1] at hr; cases hr
   rcases hr with hr | ⟨o, hr⟩
   ·exact .inl (.inl (W.old _ _ hn hr))
   ·exact .inl (.inr ⟨o, W.old _ _ hn hr⟩)
  ·exact .inr hk
 refine ⟨.ref a, e1, a, _, rfl, .inl hS', ?_⟩
 rw [List.length_map]
 exact z true _ H _ h (.refl W.bag) (.int _)
theorem law_endsR {D : Ends} (h2 : ∀ H, D.rt (.bl true) H) : EndsOk (lawG b l H) { nx := fun _ => False, rt := fun _ d => d = .bool true } D :=
 ⟨fun _ _ _ _ q _ => q.elim, fun _ _ _ _ q _ => q.elim, fun _ _ _ _ q _ => q.elim, fun _ _ _ f v H d q _ hv => by subst q; unfold IsD at hv; subst hv; exact h2 H⟩
end
namespace R
theorem di {P : Int -> Prop} {i : Int} (h : P i) : ∃ j, PyData.int i = .int j /\ P j := ⟨i, rfl, h⟩
theorem db {P : Bool -> Prop} {i : Bool} (h : P i) : ∃ j, PyData.bool i = .bool j /\ P j := ⟨i, rfl, h⟩
theorem dl {P : List PyData -> Prop} {i : List PyData} (h : P i) : ∃ j, PyData.list i = .list j /\ P j := ⟨i, rfl, h⟩
theorem dt {P : List PyData -> Prop} {i : List PyData} (h : P i) : ∃ j, PyData.tuple i = .tuple j /\ P j := ⟨i, rfl, h⟩
theorem dll {P : List PyData -> Prop} {i : List PyData} (h : P i) : ∃ j, (PyData.list i = .list j \/ PyData.list i = .tuple j) /\ P j := ⟨i, .inl rfl, h⟩
theorem dlt {P : List PyData -> Prop} {i : List PyData} (h : P i) : ∃ j, (PyData.tuple i = .list j \/ PyData.tuple i = .tuple j) /\ P j := ⟨i, .inr rfl, h⟩
theorem eqii {P : Bool -> Prop} {i j : Int} (h : P (decide (i = j))) : ∃ b, EqD (.int i) (.int j) b /\ P b := ⟨_, .ii i j, h⟩
theorem eqbb {P : Bool -> Prop} {x y : Bool} (h : P (x == y)) : ∃ b, EqD (.bool x) (.bool y) b /\ P b := ⟨_, .bb x y, h⟩
theorem at_ {ds : List PyData} {k : Int} {e : PyData} {P : PyData -> Prop} (h : atI ds k = some e) (q : P e) : ∃ e, atI ds k = some e /\ P e := ⟨e, h, q⟩
theorem lnil {A : Prop} (q : A) : ([] : List Fd).length <= 10000 /\ A := ⟨by decide, q⟩
theorem cnd {C A : Prop} (c : C) (q : A) : C /\ A := ⟨c, q⟩
end R
end L2
set_option maxRecDepth 100000
set_option maxHeartbeats 1000000
namespace L2
open PySem PySem.Spec PyProof.Rows
abbrev Prs := List (Int × Int)
abbrev Wo := List (Option Int)
abbrev prsD (prs : Prs) : PyData := .list (prs.map pairD)
abbrev woD (wd : Wo) : PyData := .list (wd.map optD)
abbrev netD (p n : Int) (cs : List Prs) : PyData := .tuple [.int p, .int n, .list (cs.map prsD)]
def lostIn (prs : Prs) (wd : Wo) : Prop := ∃ pr ∈ prs, wd[pr.1.toNat]? = some none
instance {prs : Prs} {wd : Wo} : Decidable (lostIn prs wd) := by unfold lostIn; infer_instance
def sumOpt (p : Int) (prs : Prs) (wd : Wo) : Option Int := if lostIn prs wd then none else some (dueSum prs wd % p)
def PrsOk (prs : Prs) (m : Nat) : Prop := ∀ pr ∈ prs, 0 <= pr.1 /\ pr.1 < m /\ Sm pr.2
def WoOk (wd : Wo) : Prop := ∀ x, some x ∈ wd -> Sm x
theorem atI_nat' {α β : Type} {xs : List α} (φ : α -> β) {k : Int} {m : Nat} (h0 : 0 <= k) (h1 : k < m) (hm : m = xs.length) : ∃ x, xs[k.toNat]? = some x /\ atI (xs.map φ) k = some (φ x) := by
 have hk : k.toNat < xs.length := by omega
 exact ⟨xs[k.toNat], List.getElem?_eq_getElem hk, atI_some h0 (by rw [List.getElem?_map, List.getElem?_eq_getElem hk]; rfl)⟩
theorem map_at {α β : Type} {xs : List α} {φ : α -> β} {i : Nat} {d : β} (h : (xs.map φ)[i]? = some d) : ∃ x, xs[i]? = some x /\ d = φ x := by
 rw [List.getElem?_map] at h
 obtain ⟨x, hx, e⟩ := Option.map_eq_some_iff.mp h
 exact ⟨x, hx, e.symm⟩
theorem take_snoc {α : Type} {xs : List α} {i : Nat} {x : α} (h : xs[i]? = some x) : xs.take (i + 1) = xs.take i ++ [x] := by
 rw [List.take_add_one, h]; rfl
theorem isN_opt (o : Option Int) : isN (optD o) = o.isNone := by cases o <;> rfl
end L2
set_option maxRecDepth 100000
set_option maxHeartbeats 4000000
namespace L2
open PySem PySem.Spec PyProof.Rows
structure Eu (p b L lt r t : Int) : Prop where
 l0 : 0 < L
 r0 : 0 <= r
 lp : L <= p
 rp : r <= p
 lc : ∃ k, L = lt * b + p * k
 rc : ∃ k, r = t * b + p * k
 dv : ∀ d, d ∣ L -> d ∣ r -> d ∣ p /\ d ∣ b % p
 sz : (t.natAbs : Int) * L + (lt.natAbs : Int) * r <= p
theorem Eu.start {p b : Int} (hp : 2 <= p) : Eu p b p 0 (b % p) 1 := by
 have m1 := Int.emod_nonneg b (show p ≠ 0 by omega)
 have m2 := Int.emod_lt_of_pos b (show 0 < p by omega)
 refine ⟨by omega, m1, Int.le_refl _, by omega, ⟨1, by rw [Int.zero_mul, Int.zero_add, Int.mul_one]⟩, ⟨-(b / p), ?_⟩, fun d h1 h2 => ⟨h1, h2⟩, ?_⟩
 ·have := Int.mul_ediv_add_emod b p
  rw [Int.one_mul, Int.mul_neg]
  omega
 ·show (1 : Int) * p + 0 * (b % p) <= p
  rw [Int.one_mul, Int.zero_mul]
  omega
theorem Eu.tb {p b L lt r t : Int} (h : Eu p b L lt r t) : -p <= t /\ t <= p := by
 have h1 : (t.natAbs : Int) * 1 <= (t.natAbs : Int) * L := Int.mul_le_mul_of_nonneg_left (by have := h.l0; omega) (by omega)
 have h2 : 0 <= (lt.natAbs : Int) * r := Int.mul_nonneg (by omega) h.r0
 have := h.sz
 omega
theorem Eu.next {p b L lt r t : Int} (h : Eu p b L lt r t) (hr : 0 < r) : Eu p b r t (L - L / r * r) (lt - L / r * t) /\ L - L / r * r < r := by
 have e := Int.mul_ediv_add_emod L r
 have m1 := Int.emod_nonneg L (show r ≠ 0 by omega)
 have m2 := Int.emod_lt_of_pos L hr
 have e' : L - L / r * r = L % r := by rw [Int.mul_comm (L / r) r]; omega
 have q0 : 0 <= L / r := Int.ediv_nonneg (by have := h.l0; omega) (by omega)
 obtain ⟨k1, c1⟩ := h.lc
 obtain ⟨k2, c2⟩ := h.rc
 refine ⟨⟨hr, by omega, h.rp, by have := h.rp; omega, h.rc, ⟨k1 - L / r * k2, ?_⟩, fun d d1 d2 => ?_, ?_⟩, by omega⟩
 ·rw [Int.sub_mul, Int.mul_sub]
  generalize L / r = q at *
  have z : q * r = q * (t * b) + q * (p * k2) := by rw [<- Int.mul_add, <- c2]
  have z1 : q * (t * b) = q * t * b := (Int.mul_assoc q t b).symm
  have z2 : q * (p * k2) = p * (q * k2) := by rw [<- Int.mul_assoc, Int.mul_comm q p, Int.mul_assoc]
  omega
 ·have dL : d ∣ L := by
   have z : d ∣ (L - L / r * r) + L / r * r := Int.dvd_add d2 (Int.dvd_mul_of_dvd_right d1)
   have z2 : (L - L / r * r) + L / r * r = L := by omega
   rwa [z2] at z
  exact h.dv d dL d1
 ·generalize L / r = q at *
  have a1 : ((lt - q * t).natAbs : Int) <= (lt.natAbs : Int) + q * (t.natAbs : Int) := by
   have b1 : (lt - q * t).natAbs <= lt.natAbs + (q * t).natAbs := by omega
   have b2 : ((q * t).natAbs : Int) = q * (t.natAbs : Int) := by
    rw [Int.natAbs_mul]
    have : (q.natAbs : Int) = q := by omega
    rw [Int.natCast_mul, this]
   omega
  have a2 : ((lt - q * t).natAbs : Int) * r <= ((lt.natAbs : Int) + q * (t.natAbs : Int)) * r := Int.mul_le_mul_of_nonneg_right a1 (by omega)
  have a3 : ((lt.natAbs : Int) + q * (t.natAbs : Int)) * r = (lt.natAbs : Int) * r + q * (t.natAbs : Int) * r := Int.add_mul _ _ _
  have a4 : (t.natAbs : Int) * (L - q * r) = (t.natAbs : Int) * L - q * (t.natAbs : Int) * r := by
   rw [Int.mul_sub, <- Int.mul_assoc, Int.mul_comm (t.natAbs : Int) q]
  have := h.sz
  omega
theorem ln1 {α : Type} {us : List α} (h : us.length = 1) : ∃ a, us = [a] := by
  cases us with
  | nil => cases h
  | cons a us =>
    cases us with
    | nil => exact ⟨a, rfl⟩
    | cons _ _ => cases h
theorem ln2 {α : Type} {us : List α} (h : us.length = 2) : ∃ a b, us = [a, b] := by
  cases us with
  | nil => cases h
  | cons a us =>
    obtain ⟨b, rfl⟩ := ln1 (us := us) (Nat.succ.inj h)
    exact ⟨a, b, rfl⟩
theorem ln3 {α : Type} {us : List α} (h : us.length = 3) : ∃ a b c, us = [a, b, c] := by
  cases us with
  | nil => cases h
  | cons a us =>
    obtain ⟨b, c, rfl⟩ := ln2 (us := us) (Nat.succ.inj h)
    exact ⟨a, b, c, rfl⟩
theorem ln4 {α : Type} {us : List α} (h : us.length = 4) : ∃ a b c d, us = [a, b, c, d] := by
  cases us with
  | nil => cases h
  | cons a us =>
    obtain ⟨b, c, d, rfl⟩ := ln3 (us := us) (Nat.succ.inj h)
    exact ⟨a, b, c, d, rfl⟩
theorem ln5 {α : Type} {us : List α} (h : us.length = 5) : ∃ a b c d e, us = [a, b, c, d, e] := by
  cases us with
  | nil => cases h
  | cons a us =>
    obtain ⟨b, c, d, e, rfl⟩ := ln4 (us := us) (Nat.succ.inj h)
    exact ⟨a, b, c, d, e, rfl⟩
end L2
set_option maxRecDepth 100000
set_option maxHeartbeats 1000000
namespace L2
open PySem PySem.Spec PyProof.Rows
def Ris (xs : Array Nat) : Prop := ∀ (i j x y : Nat), i < j -> xs[i]? = some x -> xs[j]? = some y -> x < y
theorem below_go {xs : Array Nat} {q : Nat} (hr : Ris xs) : ∀ (f lo hi : Nat), hi <= xs.size -> lo <= hi -> hi - lo <= f -> (∀ i x, i < lo -> xs[i]? = some x -> x < q) -> (∀ i x, hi <= i -> xs[i]? = some x -> q <= x) ->
    lo <= SetTable.below.go xs q f lo hi /\ SetTable.below.go xs q f lo hi <= hi /\ (∀ i x, i < SetTable.below.go xs q f lo hi -> xs[i]? = some x -> x < q) /\ (∀ i x, SetTable.below.go xs q f lo hi <= i -> xs[i]? = some x -> q <= x) := by
  intro f
  induction f with
  | zero =>
    intro lo hi h1 h2 h3 h4 h5
    have e : lo = hi := by omega
    subst e
    exact ⟨Nat.le_refl _, Nat.le_refl _, h4, h5⟩
  | succ f ih =>
    intro lo hi h1 h2 h3 h4 h5
    unfold SetTable.below.go
    by_cases hlt : lo < hi
    · rw [if_pos hlt]
      have hm : (lo + hi) / 2 < xs.size := by omega
      have hg : xs[(lo + hi) / 2]? = some xs[(lo + hi) / 2] := Array.getElem?_eq_getElem hm
      have hgd : xs.getD ((lo + hi) / 2) q = xs[(lo + hi) / 2] := by rw [Array.getD_eq_getD_getElem?, hg]; rfl
      dsimp only
      rw [hgd]
      by_cases hc : xs[(lo + hi) / 2] < q
      · rw [if_pos hc]
        obtain ⟨a1, a2, a3, a4⟩ := ih ((lo + hi) / 2 + 1) hi h1 (by omega) (by omega) (fun i x hi' e => by
          rcases Nat.lt_or_ge i ((lo + hi) / 2) with z | z
          · exact Nat.lt_trans (hr i _ x _ z e hg) hc
          · have : i = (lo + hi) / 2 := by omega
            subst this; rw [hg] at e; cases e; exact hc) h5
        exact ⟨by omega, a2, a3, a4⟩
      · rw [if_neg hc]
        obtain ⟨a1, a2, a3, a4⟩ := ih lo ((lo + hi) / 2) (by omega) (by omega) (by omega) h4 (fun i x hi' e => by
          rcases Nat.lt_or_ge ((lo + hi) / 2) i with z | z
          · exact Nat.le_of_lt (Nat.lt_of_le_of_lt (Nat.le_of_not_lt hc) (hr _ i _ x z hg e))
          · have : i = (lo + hi) / 2 := by omega
            subst this; rw [hg] at e; cases e; exact Nat.le_of_not_lt hc)
        exact ⟨a1, by omega, a3, a4⟩
    · rw [if_neg hlt]
      have e : lo = hi := by omega
      subst e
      exact ⟨Nat.le_refl _, Nat.le_refl _, h4, h5⟩
theorem below_at {xs : Array Nat} {q : Nat} (hr : Ris xs) : SetTable.below xs q <= xs.size /\ (∀ i x, i < SetTable.below xs q -> xs[i]? = some x -> x < q) /\ (∀ i x, SetTable.below xs q <= i -> xs[i]? = some x -> q <= x) := by
 obtain ⟨_, h2, h3, h4⟩ := below_go (q := q) hr xs.size 0 xs.size (Nat.le_refl _) (Nat.zero_le _) (by omega) (fun i x h => absurd h (Nat.not_lt_zero _)) (fun i x h e => by
  have := (Array.getElem?_eq_some_iff.mp e).1; omega)
 exact ⟨h2, h3, h4⟩
theorem insertAt_get {α : Type} {xs : Array α} {p : Nat} {x : α} (hp : p <= xs.size) (i : Nat) : (SetTable.insertAt xs p x)[i]? = if i < p then xs[i]? else if i = p then some x else xs[i - 1]? := by
 unfold SetTable.insertAt
 rw [Array.getElem?_append]
 have e1 : ((xs.extract 0 p).push x).size = p + 1 := by rw [Array.size_push, Array.size_extract]; omega
 rw [e1]
 by_cases h1 : i < p
 ·rw [if_pos (show i < p + 1 by omega), if_pos h1, Array.getElem?_push, if_neg (by rw [Array.size_extract]; omega), Array.getElem?_extract_of_lt (by omega)]
  simp
 ·rw [if_neg h1]
  by_cases h2 : i = p
  ·rw [if_pos (show i < p + 1 by omega), if_pos h2, Array.getElem?_push, if_pos (by rw [Array.size_extract]; omega)]
  ·rw [if_neg (show ¬ i < p + 1 by omega), if_neg h2]
   by_cases h3 : i - (p + 1) < xs.size - p
   ·rw [Array.getElem?_extract_of_lt (by omega), <- Array.getElem?_eq_getElem, show p + (i - (p + 1)) = i - 1 by omega]
   ·rw [Array.getElem?_eq_none (by rw [Array.size_extract]; omega), Array.getElem?_eq_none (by omega)]
theorem Ris.insert {xs : Array Nat} {q : Nat} (hr : Ris xs) (hq : xs[SetTable.below xs q]? ≠ some q) : Ris (SetTable.insertAt xs (SetTable.below xs q) q) := by
 obtain ⟨h1, h2, h3⟩ := below_at (q := q) hr
 have h3' : ∀ i x, SetTable.below xs q <= i -> xs[i]? = some x -> q < x := fun i x hi e => by
  rcases Nat.lt_or_eq_of_le (h3 i x hi e) with z | z
  ·exact z
  ·subst z
   rcases Nat.lt_or_eq_of_le hi with z | z
   ·have hb : SetTable.below xs q < xs.size := Nat.lt_of_lt_of_le z (Nat.le_of_lt (Array.getElem?_eq_some_iff.mp e).1)
    have hg : xs[SetTable.below xs q]? = some xs[SetTable.below xs q] := Array.getElem?_eq_getElem hb
    have := hr _ i _ q z hg e
    have := h3 _ _ (Nat.le_refl _) hg
    omega
   ·rw [<- z] at e; exact absurd e hq
 intro i j x y hij ex ey
 rw [insertAt_get h1] at ex ey
 by_cases a : i < SetTable.below xs q
 ·rw [if_pos a] at ex
  by_cases b : j < SetTable.below xs q
  ·rw [if_pos b] at ey; exact hr i j x y hij ex ey
  ·rw [if_neg b] at ey
   by_cases c : j = SetTable.below xs q
   ·rw [if_pos c] at ey; cases ey; exact h2 i x a ex
   ·rw [if_neg c] at ey; exact hr i (j - 1) x y (by omega) ex ey
 ·rw [if_neg a] at ex
  by_cases c : i = SetTable.below xs q
  ·rw [if_pos c] at ex; cases ex
   rw [if_neg (by omega), if_neg (by omega)] at ey
   exact h3' (j - 1) y (by omega) ey
  ·rw [if_neg c] at ex
   rw [if_neg (by omega), if_neg (by omega)] at ey
   exact hr (i - 1) (j - 1) x y (by omega) ex ey
theorem probe_free {t : SetTable} {ha : Nat -> Int} {h : Int} : ∀ (f : Nat) (p : SetTable.Probe) (j : Nat) (dm : Option Nat), (∀ d, p.dummy = some d -> t.slot d = .dummy) -> SetTable.probe.go t ha h f p = some (.empty j dm) -> t.slot j = .empty /\ ∀ d, dm = some d -> t.slot d = .dummy := by
  intro f
  induction f with
  | zero => intro p j dm _ e; unfold SetTable.probe.go at e; cases e
  | succ f ih =>
    intro p j dm hd e
    have adv : ∀ p : SetTable.Probe, (t.advance p).dummy = p.dummy := fun p => by unfold SetTable.advance; split <;> rfl
    unfold SetTable.probe.go at e
    cases hs : t.slot p.j with
    | empty => rw [hs] at e; cases e; exact ⟨hs, hd⟩
    | dummy => rw [hs] at e; exact ih _ j dm (fun d h' => by rw [adv] at h'; cases h'; exact hs) e
    | live i =>
      rw [hs] at e
      dsimp only at e
      split at e
      · cases e
      · exact ih _ j dm (fun d h' => by rw [adv] at h'; exact hd d h') e
theorem free_not_live {t : SetTable} {h : Int} {j : Nat} {wd : Bool} (e : t.freeSlot h = some (j, wd)) : ∀ i, t.slot j ≠ .live i := by
 unfold SetTable.freeSlot SetTable.probe at e
 intro i z
 split at e
 ·rename_i j0 dm he
  obtain ⟨h1, h2⟩ := probe_free (10 * SetTable.turns t.mask) (t.probeStart h) j0 dm (fun d h' => by unfold SetTable.probeStart at h'; cases h') he
  cases dm with
  | none => cases e; simp at z; rw [h1] at z; cases z
  | some d => cases e; simp at z; rw [h2 d rfl] at z; cases z
 ·cases e
structure TOk (bt : Bool) (t : SetTable) : Prop where
 led : bt = false -> t.led = true
 ris : t.plain = true -> Ris t.place
theorem TOk.standIn {bt : Bool} {t : SetTable} (h : TOk bt t) (n : Nat) : TOk bt (t.standIn n) := ⟨h.led, fun z => by cases z⟩
theorem TOk.off {bt : Bool} {t : SetTable} (h : TOk bt t) : TOk bt { t with plain := false } := ⟨h.led, fun z => by cases z⟩
theorem TOk.put {bt : Bool} {t : SetTable} {j : Nat} (h : TOk bt t) (hj : ∀ i, t.slot j ≠ .live i) : TOk bt (t.put j).1 := by
 refine ⟨h.led, fun z => ?_⟩
 refine Ris.insert (h.ris z) fun e => hj (SetTable.below t.place j) ?_
 unfold SetTable.slot
 dsimp only
 rw [if_pos (by rw [e]; exact beq_self_eq_true _)]
theorem TOk.layNew {bt : Bool} {t : SetTable} {es : Array (Int × Value)} {h : Int} {x : Value} (ok : TOk bt t) : TOk bt (layNew t es h x).2.1 := by
 unfold PySem.layNew
 split
 ·rename_i slot wd e
  dsimp only
  unfold SetTable.orStandIn
  split
  ·exact ok.put (free_not_live e)
  ·exact (ok.put (free_not_live e)).standIn _
 ·exact ok.standIn _
theorem range_rise (n : Nat) (φ : Nat -> Option Nat) : Ris (((List.range n).filterMap fun j => (φ j).map (j, ·)).map (·.1)).toArray := by
  have hp : (((List.range n).filterMap fun j => (φ j).map (j, ·)).map (·.1)).Pairwise (· < ·) := by
    have hs : List.Sublist (((List.range n).filterMap fun j => (φ j).map (j, ·)).map (·.1)) (List.range n) := by
      induction List.range n with
      | nil => simp
      | cons a r ih =>
        rw [List.filterMap_cons]
        cases φ a with
        | none => exact ih.cons a
        | some y => exact ih.cons₂ a
    exact List.pairwise_lt_range.sublist hs
  intro i j x y hij ex ey
  rw [List.getElem?_toArray] at ex ey
  obtain ⟨hi, rfl⟩ := List.getElem?_eq_some_iff.mp ex
  obtain ⟨hj, rfl⟩ := List.getElem?_eq_some_iff.mp ey
  exact List.pairwise_iff_getElem.mp hp i j hi hj hij
theorem TOk.relay {bt : Bool} {t : SetTable} {es : Array (Int × Value)} {n : Nat} (ok : TOk bt t) : TOk bt (relayAll t es n).2.1 := by
  unfold relayAll
  split
  · rename_i t' order e
    dsimp only
    split
    · unfold SetTable.relaid SetTable.laid at e
      cases hl : SetTable.layClean (SetTable.sizeAbove n - 1) (es.map (·.1)) with
      | none => rw [hl] at e; cases e
      | some owner =>
        rw [hl] at e
        cases e
        exact ⟨ok.led, fun _ => range_rise _ _⟩
    · exact ok.standIn _
  · exact ok.standIn _
theorem TOk.fresh {bt : Bool} : TOk bt (.fresh 0 0 (!bt)) := ⟨fun h => by rw [h]; rfl, fun _ i j x y _ e => by simp [SetTable.fresh] at e⟩
end L2
set_option maxRecDepth 100000
set_option maxHeartbeats 4000000
namespace L2
open PySem PySem.Spec PyProof.Rows
def TAt (bt : Bool) (h : Heap) (a : Addr) : Prop := ∀ o es ep t, h.get? a = some o -> o.data = .set es ep t -> TOk bt t
theorem TAt.of {bt : Bool} {h : Heap} {a : Addr} {o : Obj} {es : Array (Int × Value)} {ep : Nat} {t : SetTable} (e : h.get? a = some o) (d : o.data = .set es ep t) (k : TOk bt t) : TAt bt h a := fun o' es' ep' t' e' d' => by
 rw [e] at e'; cases e'; rw [d] at d'; cases d'; exact k
theorem TAt.keep {bt : Bool} {h h' : Heap} {a : Addr} {o : Obj} (k : TAt bt h a) (e : h.get? a = some o) (e' : h'.get? a = some o) : TAt bt h' a := fun o1 es ep t x d => by
 rw [e'] at x; cases x; exact k o es ep t e d
section
variable {prog : Program} {w : World} {A : Around} {E : Value -> Shared -> Prop} {s : Shared} {a : Addr} {bt : Bool}
abbrev IK (prog : Program) (w : World) := intKind prog w
theorem store_G {o : Obj} {es es' : Array (Int × Value)} {ep : Nat} {t t' : SetTable} {T : Int -> Bool} {h : Heap} (g1 : h.get? a = some o) (g2 : o.ExactSet) (g3 : o.data = .set es ep t) (l1 : ElemsOf (IK prog w) es'.toList)
  (l2 : ∀ k, T k = true ↔ ∃ e ∈ es'.toList, (IK prog w).is k e.2 = true) (l3 : es'.size < scanBound) (l4 : t'.fits es'.size = true) (tk : TOk bt t') :
  (∃ o', (h.update a (Obj.putSet es' t')).get? a = some o' /\ o'.ExactSet /\ o'.data = .set es' (ep + 1) t') /\ (h.update a (Obj.putSet es' t')).SetOf (IK prog w) a T es'.size /\ TAt bt (h.update a (Obj.putSet es' t')) a := by
 obtain ⟨q1, q2⟩ := SetOf_store (knd := IK prog w) (es' := es') (t' := t') (S' := T) g1 g2 g3 l1 l2 l3 l4
 exact ⟨⟨_, q1, g2, rfl⟩, q2, .of q1 rfl tk⟩
theorem tail_G {gg : Bool -> Sem Unit} (hgg : ∀ (b : Bool) (s₁ : Shared) (Q₁ : Unit -> Shared -> Prop), Q₁ () s₁ -> wpAny (model prog w) A (gg b) Q₁ E s₁) {o : Obj} {es : Array (Int × Value)} {ep : Nat} {t : SetTable}
    (g1 : s.heap.get? a = some o) (g2 : o.ExactSet) (g3 : o.data = .set es ep t) {es1 : Array (Int × Value)} {t2 : SetTable} {T : Int -> Bool} (l1 : ElemsOf (IK prog w) es1.toList) (l2 : ∀ k, T k = true ↔ ∃ e ∈ es1.toList, (IK prog w).is k e.2 = true)
    (l3 : es1.size < scanBound) (l4 : t2.fits es1.size = true) (tk : TOk bt t2) {wd : Bool} {R : Option Bool -> Shared -> Prop}
    (fin : ∀ h', Heap.SameBut a s.heap h' -> h'.SetOf (IK prog w) a T es1.size -> TAt bt h' a -> R (some true) { s with heap := h' }) :
    wpAny (model prog w) A (do storeSet a es1 t2
                               if (!wd && t2.tooFull) = true then do
                                 gg (relayAll t2 es1 (SetTable.grown es1.size)).2.2
                                 storeSet a (relayAll t2 es1 (SetTable.grown es1.size)).1 (relayAll t2 es1 (SetTable.grown es1.size)).2.1
                                 pure (some true)
                               else pure (some true)) R E s := by
  obtain ⟨⟨o1, k1, k2, k3⟩, q1, q2⟩ := store_G (T := T) g1 g2 g3 l1 l2 l3 l4 tk
  have sb := Heap.SameBut.update s.heap a (Obj.putSet es1 t2)
  refine wpAny_bind (wpAny_storeSet_of g1 g3 ?_ (fits_of_scanBound l3))
  by_cases c : (!wd && t2.tooFull) = true
  · rw [if_pos c]
    have pp := relayAll_perm t2 es1 (SetTable.grown es1.size)
    have pf := relayAll_fits t2 es1 (SetTable.grown es1.size)
    have pt := tk.relay (es := es1) (n := SetTable.grown es1.size)
    generalize relayAll t2 es1 (SetTable.grown es1.size) = Z at pp pf pt ⊢
    obtain ⟨es2, t3, gave⟩ := Z
    dsimp only at pp pf pt ⊢
    have sz : es2.size = es1.size := by have := pp.length_eq; rwa [Array.length_toList, Array.length_toList] at this
    have l2' : ∀ k, T k = true ↔ ∃ e ∈ es2.toList, (IK prog w).is k e.2 = true := fun k => (l2 k).trans ⟨fun ⟨e, m, z⟩ => ⟨e, pp.mem_iff.mpr m, z⟩, fun ⟨e, m, z⟩ => ⟨e, pp.mem_iff.mp m, z⟩⟩
    obtain ⟨_, r1, r2⟩ := store_G (T := T) k1 k2 k3 (l1.perm pp) l2' (by rw [sz]; exact l3) pf pt
    refine wpAny_bind (hgg _ _ _ (wpAny_bind (wpAny_storeSet_of k1 k3 ?_ (fits_of_scanBound (by rw [sz]; exact l3)))))
    rw [sz] at r1
    exact wpAny_pure (fin _ (sb.trans (Heap.SameBut.update _ a _)) r1 r2)
  · rw [if_neg c]
    exact wpAny_pure (fin _ sb q1 q2)
theorem add_G {S : Int -> Bool} {n : Nat} {k : Int} {x : Value} {Q : Bool -> Shared -> Prop} (hx : (IK prog w).is k x = true) (sc : x.scannable = true) (hS : s.heap.SetOf (IK prog w) a S n) (hT : TAt bt s.heap a) (room : n + 1 < scanBound)
    (fin : ∀ h', Heap.SameBut a s.heap h' -> h'.SetOf (IK prog w) a (fun j => S j || decide (j = k)) (if S k then n else n + 1) -> TAt bt h' a -> Q (!S k) { s with heap := h' }) :
    wpAny (model prog w) A (setAddHashed a x ((IK prog w).hash k)) Q E s := by
  obtain ⟨o, es, ep, t, g1, g2, g3, l1, l2, l3, l4, sz⟩ := hS
  have tk := hT o es ep t g1 g3
  unfold setAddHashed setAddHashedIn
  refine wpAny_holding (wpAny_bind (wpAny_setState_of g1 g3 l4 ?_))
  dsimp only
  rw [if_pos (byScan_of sc l3 l1)]
  unfold setAddByScan
  refine wpAny_bind (wpAny_bind (wpAny_rule (wpAny_bind (wpAny_setScan_of hx g1 g3 l4 l1 ?_))))
  cases fr : List.findIdx? (fun e => (IK prog w).is k e.2) es.toList with
  | some j =>
    obtain ⟨hj, pj, _⟩ := List.findIdx?_eq_some_iff_getElem.mp fr
    have yes : S k = true := (l2 k).mpr ⟨_, List.getElem_mem hj, pj⟩
    have z := fin s.heap (.refl a s.heap) ⟨o, es, ep, t, g1, g2, g3, l1, fun j => by
      rw [Bool.or_eq_true, decide_eq_true_eq, <- l2 j]
      exact ⟨fun q => q.elim id fun e => e ▸ yes, .inl⟩, l3, l4, by rw [if_pos yes]; exact sz⟩ hT
    rw [yes] at z
    exact wpAny_pure (wpAny_pure z)
  | none =>
    have no : S k = false := by
      cases q : S k with
      | false => rfl
      | true =>
        obtain ⟨e, m, p⟩ := (l2 k).mp q
        rw [List.findIdx?_eq_none_iff.mp fr e m] at p; cases p
    have pp := layNew_perm t es ((IK prog w).hash k) x
    have pf := layNew_fits t es ((IK prog w).hash k) x
    have pt := tk.layNew (es := es) (h := (IK prog w).hash k) (x := x)
    dsimp only
    generalize layNew t es ((IK prog w).hash k) x = Z at pp pf pt ⊢
    obtain ⟨es1, t1, wd, gave⟩ := Z
    dsimp only at pp pf pt ⊢
    rw [Array.toList_push] at pp
    have sz1 : es1.size = n + 1 := by have := pp.length_eq; rw [List.length_append, Array.length_toList, Array.length_toList, sz] at this; exact this
    have fin' : ∀ h', Heap.SameBut a s.heap h' -> h'.SetOf (IK prog w) a (fun j => S j || decide (j = k)) es1.size -> TAt bt h' a -> Q true { s with heap := h' } := fun h' x1 x2 x3 => by
      have := fin h' x1; rw [no, if_neg Bool.false_ne_true] at this; rw [sz1] at x2; exact this x2 x3
    have gw : ∀ (b : Bool) (s₁ : Shared) (Q₁ : Unit -> Shared -> Prop), Q₁ () s₁ -> wpAny (model prog w) A (match b with | true => rule "set.scan.the-table-gave-way" | false => pure ()) Q₁ E s₁ := fun b s₁ Q₁ q => by
      cases b
      · exact wpAny_pure q
      · exact wpAny_rule q
    refine wpAny_bind (gw _ _ _ ?_)
    have e1 := (l1.push hx sc).perm pp
    have e2 := mem_push_iff hx l2 pp
    have e3 : es1.size < scanBound := by rw [sz1]; exact room
    by_cases pl : t1.plain = true
    · rw [if_pos pl, hashByValue_scannable 8 sc]
      refine wpAny_bind (wpAny_pure ?_)
      refine tail_G gw g1 g2 g3 e1 e2 e3 ?_ ?_ fun h' x1 x2 x3 => wpAny_pure (fin' h' x1 x2 x3)
      · split
        · exact pf
        · exact SetTable.fits_plain_off pf
      · split
        · exact pt
        · exact pt.off
    · rw [if_neg pl]
      refine wpAny_bind (wpAny_pure ?_)
      rw [if_pos rfl]
      exact tail_G gw g1 g2 g3 e1 e2 e3 pf pt fun h' x1 x2 x3 => wpAny_pure (fin' h' x1 x2 x3)
end
end L2
set_option maxRecDepth 100000
set_option maxHeartbeats 4000000
namespace L2
open PySem PySem.Spec PyProof.Rows
section
variable {prog : Program} {w : World} {A : Around} {R : Result -> Shared -> Prop} {I : Addr} {fp wr : List Addr} {G : Array GenState -> Array GenState -> Prop} {n : Nat} {P : Nat -> Value -> Prop} {St : Nat -> Shared -> Prop} {bt : Bool}
abbrev met (val : Nat -> Int) (i : Nat) : Int -> Bool := fun k => (firstMet val i).any (· == k)
theorem loop_G (W : WalksS prog w A.in1 I fp wr G n P St) (C : Addr) (nC : C ∉ fp) (val : Nat -> Int) (hv : ∀ i v, P i v -> ∃ t, v = .int (val i) t) (room : n + 1 < scanBound) (fuel : Nat) :
    ∀ (i : Nat) (s : Shared), n - i = fuel -> i <= n -> St i s -> s.heap.SetOf (IK prog w) C (met val i) (firstMet val i).length -> TAt bt s.heap C ->
      (∀ s', Moved (C :: wr) G s s' -> s'.heap.SetOf (IK prog w) C (met val n) (firstMet val n).length -> TAt bt s'.heap C -> R (.ok (.ret .none)) s') ->
      codeAny (model prog w) A (.builtin "set.update.loop" ⟨[.ref C, .ref I], []⟩) R s := by
  have nw : C ∉ wr := fun z => nC (W.sub _ z)
  have up : ∀ b ∈ wr, b ∈ C :: wr := fun b z => List.mem_cons_of_mem _ z
  have mv : ∀ {s s' : Shared} {T : Int -> Bool} {m : Nat}, Moved wr G s s' -> s.heap.SetOf (IK prog w) C T m -> TAt bt s.heap C -> s'.heap.SetOf (IK prog w) C T m /\ TAt bt s'.heap C := fun mo q tt => by
    obtain ⟨o, es, ep, t, ho, r⟩ := q
    exact ⟨⟨o, es, ep, t, mo.heap C _ nw ho, r⟩, tt.keep ho (mo.heap C _ nw ho)⟩
  induction fuel with
  | zero =>
    intro i s e1 e2 st q tt fin
    obtain rfl : i = n := by omega
    refine codeAny_builtin F.entry_set_update_loop ?_
    rw [Around.under_plainId F.plain_set_update_loop _]
    refine wpAny_bind (W.done s _ _ st fun s' mo => ?_)
    exact wpAny_pure (fin s' (mo.mono up) (mv mo q tt).1 (mv mo q tt).2)
  | succ fuel ih =>
    intro i s e1 e2 st q tt fin
    have lt : i < n := by omega
    refine codeAny_builtin F.entry_set_update_loop ?_
    rw [Around.under_plainId F.plain_set_update_loop _]
    refine wpAny_bind (W.item i s _ _ lt st fun v s' hP st' mo => ?_)
    obtain ⟨tok, rfl⟩ := hv i v hP
    obtain ⟨q', tt'⟩ := mv mo q tt
    show wpAny _ A.in1 (holding [Value.int (val i) tok] (setAdd C (.int (val i) tok)) >>= _) _ _ s'
    unfold setAdd
    refine wpAny_bind (wpAny_holding (wpAny_holding (wpAny_bind ((IK prog w).pyHash (k := val i) (intKind_is _ _ _ _) ?_))))
    refine add_G (bt := bt) (s := { s' with toks := s'.toks + 1 }) (intKind_is _ _ _ _) rfl q' tt' (by have := firstMet_length_le val i; omega) fun h' sb q2 tt2 => ?_
    have q3 : h'.SetOf (IK prog w) C (met val (i + 1)) (firstMet val (i + 1)).length := SetOf_congr q2 (fun j => by unfold met; rw [firstMet_succ, step_any]) (by rw [firstMet_succ, step_length])
    refine wpAny_pure ⟨plainId_quiet F.plain_set_update_loop _, ih (i + 1) _ (by omega) lt (W.frame _ s' _ _ st' (Nat.le_succ _) fun b hb o e => ?_) q3 tt2 fun s2 mo2 q4 tt4 => ?_⟩
    · rw [sb.2 b fun z : b = C => nC (z ▸ hb)]; exact e
    · refine fin s2 (Moved.trans W.gtrans ((mo.mono up).then_heap (Nat.le_succ _) fun b o hb e => ?_) mo2) q4 tt4
      rw [sb.2 b fun z : b = C => hb (z ▸ List.mem_cons_self)]; exact e
end
section
variable {prog : Program} {w : World} {A : Around} {E : Value -> Shared -> Prop} {s : Shared}
abbrev byText (w : World) : Bool := w.params.followText "set-order"
abbrev newSetO (w : World) : Obj := { cls := .type "set", dict := none, data := .set #[] 0 (.fresh 0 0 (!byText w)) }
theorem new_G (a : Value) {Q₁ : Value -> Shared -> Prop} (fin : Q₁ (.ref s.heap.objs.size) { s with heap := s.heap.push (newSetO w) }) : codeAny (model prog w) A (.call (.builtin "set.__new__") ⟨[.type "set", a], []⟩) (wants Q₁ E) s := by
 refine codeAny_of_tree ?_
 show wpAny _ A.in1 (do checkBuiltinCall "set.__new__" ⟨[.type "set", a], []⟩; again (.builtin "set.__new__" ⟨[.type "set", a], []⟩)) _ _ s
 refine wpAny_bind (wpAny_of_eq (F.newCall_set_1 a) (wpAny_pure ⟨plainId_quiet F.plain_set_new _, codeAny_builtin F.entry_set_new ?_⟩))
 rw [Around.under_plainId F.plain_set_new _]
 unfold Builtin.«set.__new__» Builtin.Frozenset.newClass
 have hsub := sub_set_self
 obtain ⟨hp, g, d, tk, os⟩ := s
 dsimp only at fin ⊢
 wp_walk
 refine wpAny_askSetting (wpAny_pure ?_)
 dsimp only
 simp only [newObj]
 exact wpAny_bind (wpAny_alloc (wpAny_pure (wpAny_pure fin)))
theorem callset_G {l : Addr} {items : Array Value} {ns : List Int} {Q : Value -> Shared -> Prop} (hh : A.handled = none) (hl : s.heap.IsList l items) (hi : IntsAre items.toList ns) (room : items.size + 1 < scanBound)
    (fin : ∀ (h' : Heap) (tk : Nat), h'.SetOf (IK prog w) s.heap.objs.size (met (fun i => ns.getD i 0) items.size) (firstMet (fun i => ns.getD i 0) items.size).length -> TAt (byText w) h' s.heap.objs.size ->
      (∀ b o, b < s.heap.objs.size -> s.heap.get? b = some o -> h'.get? b = some o) -> Q (.ref s.heap.objs.size) { s with heap := h', toks := tk }) : wpAny (model prog w) A (call (.type "set") [.ref l]) Q E s := by
  obtain ⟨c, tl, hmro⟩ := F.called_set.mro
  have hmade := F.called_set.made
  have hsub := F.called_set.sub
  have h1 := F.called_set.notType
  have h2 := F.called_set.canCreate
  have hct := F.typeCall_set_1 (.ref l)
  refine wpAny_call (codeAny_of_tree ?_)
  show wpAny _ _ (callAny (.type "set") _) _ _ _
  refine wpAny_pure ⟨Code.quiet_builtin _ (by decide +kernel), codeAny_builtin F.entry_type_call ?_⟩
  rw [Around.under_plain (weight_type_call_type "set" [.ref l] []) rfl]
  repeat (any_goals (first | assumption | wp_step))
  refine codeAny_mono (new_G (.ref l) (E := E) (Q₁ := fun obj s₁ => obj = .ref s.heap.objs.size /\ s₁ = { s with heap := s.heap.push (newSetO w) }) ⟨rfl, rfl⟩) fun r s₁ hr => ?_
  cases r with
  | error e => exact hr
  | ok fl =>
    cases fl with
    | ret obj =>
      obtain ⟨rfl, rfl⟩ := hr
      have hS : (s.heap.push (newSetO w)).get? s.heap.objs.size = some (newSetO w) := Heap.get?_push_size _ rfl
      have hT : Shared.TypeIs { s with heap := s.heap.push (newSetO w) } (.ref s.heap.objs.size) "set" := ⟨_, hS, rfl⟩
      have hli := F.called_set.init.lookup
      have hbi := F.called_set.init.bind (.ref s.heap.objs.size)
      repeat (any_goals (first | assumption | wp_step))
      refine codeAny_mono (codeAny_call_builtin (R := wants (fun r s₂ => r = .none /\ ∃ h' tk, s₂ = { s with heap := h', toks := tk } /\ h'.SetOf (IK prog w) s.heap.objs.size (met (fun i => ns.getD i 0) items.size) (firstMet (fun i => ns.getD i 0) items.size).length /\ TAt (byText w) h' s.heap.objs.size /\
          (∀ b o, b < s.heap.objs.size -> s.heap.get? b = some o -> h'.get? b = some o)) E) F.called_set.init.plain F.entry_set_init (check_set_init_1 hT ?_)) fun r₂ s₂ hr₂ => ?_
      · obtain ⟨ol, hol, hcl, nl, hdl⟩ := hl
        obtain ⟨ocls, odict, odata, oslots⟩ := ol
        simp only at hcl hdl
        subst hcl; subst hdl
        have hol' := Heap.get?_push_of_some (newSetO w) hol
        have hsls := F.sub_list_set
        have hslf := F.sub_list_frozenset
        have hne : (Value.type "list" == Value.type "dict") = false := by decide
        have hl1 : (s.heap.push (newSetO w)).IsList l items := ⟨_, hol', rfl, nl, rfl⟩
        unfold Builtin.«set.__init__» noKeywords Builtin.Frozenset.updateFrom
        generalize hPI : pyIter = PI
        wp_walk
        subst hPI
        refine wpAny_pyIter_list hl1 (wpAny_bind (wpAny_runValue ?_))
        have hlS : l < s.heap.objs.size := Heap.lt_size hol
        have sz1 : (s.heap.push (newSetO w)).objs.size = s.heap.objs.size + 1 := Heap.size_push ..
        have n1 : l ≠ (s.heap.push (newSetO w)).objs.size := by rw [sz1]; exact Nat.ne_of_lt (Nat.lt_succ_of_lt hlS)
        have n2 : s.heap.objs.size ∉ [(s.heap.push (newSetO w)).objs.size, l] := by
          rw [sz1]; intro z; rcases List.mem_cons.mp z with z | z
          · exact absurd z (Nat.ne_of_lt (Nat.lt_succ_self _))
          · exact absurd (List.mem_singleton.mp z) (Nat.ne_of_gt hlS)
        have h3 : A.in1.in1.in1.handled = none := by simp [hh]
        have hS' := Heap.get?_push_of_some ({ cls := .type "list_iterator", data := .fields #[.ref l, .int 0 0] } : Obj) hS
        refine loop_G (bt := byText w) ((Walks.list h3 _ l n1 items).toS) s.heap.objs.size n2 (fun i => ns.getD i 0) (fun i v e => IntsAre.int_at hi i v (by rw [Array.getElem?_toList]; exact e)) room (items.size - 0) 0 _ (by omega) (Nat.zero_le _)
          ⟨⟨_, Heap.get?_push_size _ rfl, rfl, rfl⟩, (hl1.push _)⟩ (SetOf_congr ((setObjOf_fresh (knd := IK prog w) (!byText w)).setOf hS' (by unfold scanBound; omega)) (fun _ => rfl) rfl) (.of hS' rfl .fresh) ?_
        intro s' mo q tt
        obtain ⟨h', g', d', tk', os'⟩ := s'
        obtain rfl : g' = s.gens := mo.gens
        obtain rfl : d' = s.drawn := mo.drawn
        obtain rfl : os' = s.os := mo.os
        refine wpAny_pure (wpAny_pure ⟨rfl, h', tk', rfl, q, tt, fun b o hb e => ?_⟩)
        refine mo.heap b o (fun z => ?_) (Heap.get?_push_of_some _ (Heap.get?_push_of_some _ e))
        rcases List.mem_cons.mp z with z | z
        · exact absurd z (Nat.ne_of_lt hb)
        · rw [sz1] at z; exact absurd (List.mem_singleton.mp z) (Nat.ne_of_lt (Nat.lt_succ_of_lt hb))
      · cases r₂ with
        | error e => exact hr₂
        | ok fl₂ =>
          cases fl₂ with
          | ret r =>
            obtain ⟨rfl, h', tk, rfl, q1, q2, q3⟩ := hr₂
            repeat (any_goals (first | assumption | wp_step))
            exact fin _ _ q1 q2 q3
          | _ => exact hr₂.elim
    | _ => exact hr.elim
end
end L2
set_option maxRecDepth 100000
set_option maxHeartbeats 4000000
namespace L2
open PySem PySem.Spec PyProof.Rows
theorem sl_setiter_next : Slot "set_iterator" "__next__" "set_iterator.__next__" := .of (owner := "set_iterator") (n := "__next__") (by rw [typeLookup_type, builtinLookup_eq_fast]; kernel_rfl) (by decide +kernel) (by decide +kernel) (by decide +kernel) (by first | exact .inl (by decide +kernel) | exact .inr (by decide +kernel)) (by rw [isSubtype_type]; kernel_rfl)
theorem en_setiter_next : entryFor table "set_iterator.__next__" = some Builtin.«set_iterator.__next__» := entryFor_of_tree (by kernel_rfl)
theorem ar_setiter_next (a : Value) : argsOk "set_iterator.__next__" ⟨[a], []⟩ := by unfold argsOk; kernel_rfl
theorem sl_set_iter : Slot "set" "__iter__" "set.__iter__" := .of (owner := "set") (n := "__iter__") (by rw [typeLookup_type, builtinLookup_eq_fast]; kernel_rfl) (by decide +kernel) (by decide +kernel) (by decide +kernel) (by first | exact .inl (by decide +kernel) | exact .inr (by decide +kernel)) (by rw [isSubtype_type]; kernel_rfl)
theorem en_set_iter : entryFor table "set.__iter__" = some Builtin.«frozenset.__iter__» := entryFor_alias (id' := "frozenset.__iter__") (by kernel_rfl) rfl (by decide +kernel) (by kernel_rfl)
theorem ar_set_iter (a : Value) : argsOk "set.__iter__" ⟨[a], []⟩ := by unfold argsOk; kernel_rfl
theorem sl_setiter_iter : Slot "set_iterator" "__iter__" "set_iterator.__iter__" := .of (owner := "set_iterator") (n := "__iter__") (by rw [typeLookup_type, builtinLookup_eq_fast]; kernel_rfl) (by decide +kernel) (by decide +kernel) (by decide +kernel) (by first | exact .inl (by decide +kernel) | exact .inr (by decide +kernel)) (by rw [isSubtype_type]; kernel_rfl)
theorem en_setiter_iter : entryFor table "set_iterator.__iter__" = some Builtin.«dict_keyiterator.__iter__» := entryFor_alias (id' := "dict_keyiterator.__iter__") (by kernel_rfl) rfl (by decide +kernel) (by kernel_rfl)
theorem ar_setiter_iter (a : Value) : argsOk "set_iterator.__iter__" ⟨[a], []⟩ := by unfold argsOk; kernel_rfl
end L2
set_option maxRecDepth 100000
set_option maxHeartbeats 4000000
namespace L2
open PySem PySem.Spec PyProof.Rows
section
variable {prog : Program} {w : World} {A : Around} {E : Value -> Shared -> Prop} {s : Shared} {a it tp : Addr} {o : Obj} {es : Array (Int × Value)} {ep : Nat} {t : SetTable}
theorem erase_perm {α : Type} : ∀ {l : List α} {i : Nat} (h : i < l.length), (l[i] :: l.eraseIdx i).Perm l
  | b :: r, 0, _ => by simp
  | b :: r, i + 1, h => by
    have := erase_perm (l := r) (i := i) (by simpa using h)
    simp only [List.getElem_cons_succ, List.eraseIdx_cons_succ]
    exact (List.Perm.swap b _ _).trans (this.cons b)
theorem pick_perm {α : Type} (nx : Nat -> Nat) : ∀ (f k : Nat) (l : List α) (out : Array α), l.length <= f -> (pickOrder.go nx f k l out).toList.Perm (out.toList ++ l) := by
  intro f
  induction f with
  | zero =>
    intro k l out h
    have : l = [] := List.length_eq_zero_iff.mp (by omega)
    subst this
    unfold pickOrder.go
    simp
  | succ f ih =>
    intro k l out h
    unfold pickOrder.go
    cases l with
    | nil => simp
    | cons b r =>
      have hlt : nx k % (b :: r).length < (b :: r).length := Nat.mod_lt _ (by simp)
      rw [List.getElem?_eq_getElem hlt]
      dsimp only
      refine (ih (k + 1) _ _ (by rw [List.length_eraseIdx_of_lt hlt]; omega)).trans ?_
      rw [Array.toList_push, List.append_assoc]
      refine List.Perm.append_left _ ?_
      exact erase_perm hlt
theorem next_text (bt : byText w = true) (g1 : s.heap.get? a = some o) (g3 : o.data = .set es ep t) (g4 : t.fits es.size = true) {i sl : Nat} {Q : Option (Value × Nat) -> Shared -> Prop}
  (h : Q (((pickOrder (w.params.setOrder a ep) es)[i]?).map fun e => (e.2, sl)) s) : wpAny (model prog w) A (setNext a sl i ep) Q E s := by
 unfold setNext
 refine wpAny_bind (wpAny_setState_of g1 g3 g4 ?_)
 dsimp only
 unfold setsByText
 refine wpAny_bind (wpAny_bind (wpAny_askSetting (wpAny_pure ?_)))
 show wpAny _ _ (if byText w = true then _ else _) _ _ _
 rw [if_pos bt]
 rw [if_neg (by simp)]
 refine wpAny_bind ?_
 unfold setWalk
 refine wpAny_bind (wpAny_setState_of g1 g3 g4 ?_)
 dsimp only
 unfold setsByText
 refine wpAny_bind (wpAny_bind (wpAny_askSetting (wpAny_pure ?_)))
 show wpAny _ _ (if byText w = true then _ else _) _ _ _
 rw [if_pos bt]
 refine wpAny_bind (wpAny_askSetting (wpAny_pure ?_))
 exact wpAny_pure h
theorem next_plain (bt : byText w = false) (g1 : s.heap.get? a = some o) (g3 : o.data = .set es ep t) (g4 : t.fits es.size = true) (tk : TOk (byText w) t) (pl : t.plain = true \/ es.size <= 1) {i sl : Nat} {Q : Option (Value × Nat) -> Shared -> Prop}
  (h : Q (match es[SetTable.below t.place sl]?, t.place[SetTable.below t.place sl]? with | some (_, x), some j => some (x, j + 1) | _, _ => none) s) : wpAny (model prog w) A (setNext a sl i ep) Q E s := by
 unfold setNext
 refine wpAny_bind (wpAny_setState_of g1 g3 g4 ?_)
 dsimp only
 unfold setsByText
 refine wpAny_bind (wpAny_bind (wpAny_askSetting (wpAny_pure ?_)))
 show wpAny _ _ (if byText w = true then _ else _) _ _ _
 rw [bt, if_neg Bool.false_ne_true]
 show wpAny _ _ (if (!t.plain && decide (es.size > 1)) = true then _ else _) _ _ _
 rw [if_neg (by
  intro z
  rw [Bool.and_eq_true, Bool.not_eq_true', decide_eq_true_eq] at z
  rcases pl with p | p
  ·rw [p] at z; cases z.1
  ·omega)]
 refine wpAny_bind ?_
 show wpAny _ _ (if (!t.led && !es.isEmpty) = true then _ else _) _ _ _
 rw [if_neg (by rw [tk.led bt]; simp)]
 refine wpAny_pure ?_
 exact wpAny_pure h
theorem next_drawn (g1 : s.heap.get? a = some o) (g3 : o.data = .set es ep t) (g4 : t.fits es.size = true) {pl : Nat} {hx : Int} {x : Value} {Q : Value -> Shared -> Prop} (e : es[pl]? = some (hx, x)) (h : Q x s) : wpAny (model prog w) A (setNextDrawn a pl ep) Q E s := by
 unfold setNextDrawn
 refine wpAny_bind (wpAny_setState_of g1 g3 g4 ?_)
 dsimp only
 rw [if_neg (by simp)]
 rw [e]
 exact wpAny_pure h
def SIt (h : Heap) (it a : Addr) (first : Value) (i n ep : Nat) : Prop := ∃ o, h.get? it = some o /\ o.cls = .type "set_iterator" /\ o.data = .fields #[first, .int i 0, .ref a, .int n 0, .int ep 0]
theorem SIt.ty {first : Value} {i n : Nat} (h : SIt s.heap it a first i n ep) : s.TypeIs (.ref it) "set_iterator" := let ⟨o, e, c, _⟩ := h; ⟨o, e, c⟩
theorem sit_head {first : Value} {i n : Nat} {QQ : Fin -> Shared -> Prop} {EE : Value -> Shared -> Prop} (hit : SIt s.heap it a first i n ep) (g1 : s.heap.get? a = some o) (g3 : o.data = .set es ep t) (g4 : t.fits es.size = true) (hn : es.size = n)
    (h : wpAny (model prog w) A (match first with
      | .int slot _ => (do
        match <- setNext a slot.toNat i ep with
        | some (x, next) => do
          setField (.ref it) 0 (rawInt next)
          setField (.ref it) 1 (rawInt ((i : Int) + 1))
          ret x
        | none => do
          setField (.ref it) 2 .none
          raiseNew (<- newExc (.type "StopIteration") []))
      | _ => (do
        let some places <- seqItems? first | unsupported "internal:set_iterator"
        match places[i]? with
        | some (.int place _) => do
          let x <- setNextDrawn a place.toNat ep
          setField (.ref it) 1 (rawInt ((i : Int) + 1))
          ret x
        | some _ => unsupported "internal:set_iterator"
        | none => do
          setField (.ref it) 0 (rawInt 0)
          setField (.ref it) 2 .none
          raiseNew (<- newExc (.type "StopIteration") []))) QQ EE s) : wpAny (model prog w) A (Builtin.«set_iterator.__next__» ⟨[.ref it], []⟩) QQ EE s := by
  obtain ⟨oi, ho, hc, hd⟩ := hit
  unfold Builtin.«set_iterator.__next__»
  refine wpAny_bind (wpAny_pure ?_)
  refine wpAny_bind (wpAny_fieldsOf ho hd ?_)
  dsimp only
  refine wpAny_bind (wpAny_setEntries_of g1 g3 g4 ?_)
  rw [if_neg (by rw [hn]; simp)]
  cases first <;> exact h
theorem sit_upd {h : Heap} {first : Value} {i n k : Nat} {x : Value} {oi : Obj} {vs : Array Value} (ho : h.get? it = some oi) (hc : oi.cls = .type "set_iterator") (hd : oi.data = .fields vs) :
  (h.update it (Obj.mapFields (·.setIfInBounds k x))).get? it = some (Obj.mapFields (·.setIfInBounds k x) oi) /\ (Obj.mapFields (·.setIfInBounds k x) oi).cls = .type "set_iterator" /\ (Obj.mapFields (·.setIfInBounds k x) oi).data = .fields (vs.setIfInBounds k x) := by
 refine ⟨Heap.get?_update_self _ ho (Obj.isFreed_of_fields (Obj.data_mapFields hd _)), (Obj.cls_mapFields ..).trans hc, Obj.data_mapFields hd _⟩
theorem sit_item {sl i n nx : Nat} {x : Value} {Q : Option Value -> Shared -> Prop} (hit : SIt s.heap it a (.int sl 0) i n ep) (g1 : s.heap.get? a = some o) (g3 : o.data = .set es ep t) (g4 : t.fits es.size = true) (hn : es.size = n)
  (hN : ∀ (Q : Option (Value × Nat) -> Shared -> Prop) (E : Value -> Shared -> Prop), Q (some (x, nx)) s -> wpAny (model prog w) A.in1 (setNext a sl i ep) Q E s)
  (hQ : ∀ h', SIt h' it a (.int nx 0) (i + 1) n ep -> (∀ b, b ≠ it -> h'.get? b = s.heap.get? b) -> Q (some x) { s with heap := h' }) : wpAny (model prog w) A (pyNext (.ref it)) Q E s := by
 obtain ⟨oi, ho, hc, hd⟩ := id hit
 unfold pyNext
 refine wpAny_bind (wpAny_attempt (wpAny_callSpecial?_slot (name := Str.ofString "__next__") hit.ty sl_setiter_next (wpAny_call_entry sl_setiter_next hit.ty en_setiter_next ?_ (ar_setiter_next _))))
 refine sit_head hit g1 g3 g4 hn ?_
 dsimp only
 refine wpAny_bind (hN _ _ ?_)
 dsimp only
 obtain ⟨u1, u2, u3⟩ := sit_upd (first := .none) (i := 0) (n := 0) (k := 0) (x := rawInt nx) ho hc hd
 obtain ⟨w1, w2, w3⟩ := sit_upd (first := .none) (i := 0) (n := 0) (k := 1) (x := rawInt ((i : Int) + 1)) u1 u2 u3
 refine wpAny_bind (wpAny_setField ho hd (by simp) ?_)
 refine wpAny_bind (wpAny_setField u1 u3 (by simp) ?_)
 refine wpAny_pure ⟨x, rfl, wpAny_pure (hQ _ ⟨_, w1, w2, ?_⟩ fun b hb => ?_)⟩
 ·rw [w3]; simp [rawInt]
 ·exact ((Heap.get?_update_other _ _ (Ne.symm hb))).trans (Heap.get?_update_other _ _ (Ne.symm hb))
theorem stop_raise {QQ : Fin -> Shared -> Prop} {B : Around} {Q : Option Value -> Shared -> Prop} (hh : B.handled = none) (hQ : ∀ o1 o2, Q none { s with heap := (s.heap.push o1).push o2 }) : wpAny (model prog w) B (do raiseNew (<- newExc (.type "StopIteration") [])) QQ
  (fun e s' => wpAny (model prog w) A (do if <- isInstance e (.type "StopIteration") then pure none else throw e) Q E s') s := by
 refine wpAny_bind ?_
 simp only [newExc, newTuple]
 refine wpAny_bind (wpAny_newObj_type ?_ (by size_fits))
 refine wpAny_bind (m := firstArgMember _ _) (wpAny_of_eq (a := Value.none) (by first | rfl | (simp only [firstArgMember]; rfl)) (wpAny_newObj_type ?_ (by size_fits)))
 simp only [raiseNew]
 refine wpAny_bind (wpAny_handled ?_)
 rw [hh]
 refine wpAny_bind (wpAny_pure (wpAny_throw ?_))
 refine wpAny_bind (wpAny_isInstance (b := true) (T := "StopIteration") ⟨_, Heap.get?_push_size _ rfl, rfl⟩ isSubtype_stop ?_)
 exact wpAny_pure (hQ _ _)
theorem sit_end {sl i n : Nat} {Q : Option Value -> Shared -> Prop} (hh : A.handled = none) (hit : SIt s.heap it a (.int sl 0) i n ep) (g1 : s.heap.get? a = some o) (g3 : o.data = .set es ep t) (g4 : t.fits es.size = true) (hn : es.size = n)
  (hN : ∀ (Q : Option (Value × Nat) -> Shared -> Prop) (E : Value -> Shared -> Prop), Q none s -> wpAny (model prog w) A.in1 (setNext a sl i ep) Q E s)
  (hQ : ∀ h', (∀ b o, b ≠ it -> s.heap.get? b = some o -> h'.get? b = some o) -> Q none { s with heap := h' }) : wpAny (model prog w) A (pyNext (.ref it)) Q E s := by
 obtain ⟨oi, ho, hc, hd⟩ := id hit
 unfold pyNext
 refine wpAny_bind (wpAny_attempt (wpAny_callSpecial?_slot (name := Str.ofString "__next__") hit.ty sl_setiter_next (wpAny_call_entry sl_setiter_next hit.ty en_setiter_next ?_ (ar_setiter_next _))))
 refine sit_head hit g1 g3 g4 hn ?_
 dsimp only
 refine wpAny_bind (hN _ _ ?_)
 dsimp only
 refine wpAny_bind (wpAny_setField ho hd (by simp) ?_)
 exact stop_raise (B := A.in1) hh fun o1 o2 => hQ _ fun b o hb e => Heap.get?_push_of_some _ (Heap.get?_push_of_some _ ((Heap.get?_update_other _ _ (Ne.symm hb)).trans e))
theorem sit_itemT {i n pl : Nat} {hx : Int} {x : Value} {pls : Array Value} {Q : Option Value -> Shared -> Prop} (hit : SIt s.heap it a (.ref tp) i n ep) (g1 : s.heap.get? a = some o) (g3 : o.data = .set es ep t) (g4 : t.fits es.size = true) (hn : es.size = n)
  (htp : ∃ ot m, s.heap.get? tp = some ot /\ ot.data = .seq pls m) (hp : pls[i]? = some (.int pl 0)) (he : es[pl]? = some (hx, x))
  (hQ : ∀ h', SIt h' it a (.ref tp) (i + 1) n ep -> (∀ b, b ≠ it -> h'.get? b = s.heap.get? b) -> Q (some x) { s with heap := h' }) : wpAny (model prog w) A (pyNext (.ref it)) Q E s := by
 obtain ⟨oi, ho, hc, hd⟩ := id hit
 obtain ⟨ot, m, t1, t2⟩ := htp
 unfold pyNext
 refine wpAny_bind (wpAny_attempt (wpAny_callSpecial?_slot (name := Str.ofString "__next__") hit.ty sl_setiter_next (wpAny_call_entry sl_setiter_next hit.ty en_setiter_next ?_ (ar_setiter_next _))))
 refine sit_head hit g1 g3 g4 hn ?_
 dsimp only
 refine wpAny_bind (wpAny_seqItems t1 t2 ?_)
 dsimp only
 rw [hp]
 dsimp only
 refine wpAny_bind (next_drawn g1 g3 g4 (by simpa using he) ?_)
 obtain ⟨w1, w2, w3⟩ := sit_upd (first := .none) (i := 0) (n := 0) (k := 1) (x := rawInt ((i : Int) + 1)) ho hc hd
 refine wpAny_bind (wpAny_setField ho hd (by simp) (wpAny_pure ⟨x, rfl, wpAny_pure (hQ _ ⟨_, w1, w2, ?_⟩ fun b hb => Heap.get?_update_other _ _ (Ne.symm hb))⟩))
 rw [w3]; simp [rawInt]
theorem sit_endT {i n : Nat} {pls : Array Value} {Q : Option Value -> Shared -> Prop} (hh : A.handled = none) (hit : SIt s.heap it a (.ref tp) i n ep) (g1 : s.heap.get? a = some o) (g3 : o.data = .set es ep t) (g4 : t.fits es.size = true) (hn : es.size = n)
  (htp : ∃ ot m, s.heap.get? tp = some ot /\ ot.data = .seq pls m) (hp : pls[i]? = none)
  (hQ : ∀ h', (∀ b o, b ≠ it -> s.heap.get? b = some o -> h'.get? b = some o) -> Q none { s with heap := h' }) : wpAny (model prog w) A (pyNext (.ref it)) Q E s := by
 obtain ⟨oi, ho, hc, hd⟩ := id hit
 obtain ⟨ot, m, t1, t2⟩ := htp
 unfold pyNext
 refine wpAny_bind (wpAny_attempt (wpAny_callSpecial?_slot (name := Str.ofString "__next__") hit.ty sl_setiter_next (wpAny_call_entry sl_setiter_next hit.ty en_setiter_next ?_ (ar_setiter_next _))))
 refine sit_head hit g1 g3 g4 hn ?_
 dsimp only
 refine wpAny_bind (wpAny_seqItems t1 t2 ?_)
 dsimp only
 rw [hp]
 dsimp only
 obtain ⟨u1, u2, u3⟩ := sit_upd (first := .none) (i := 0) (n := 0) (k := 0) (x := rawInt 0) ho hc hd
 refine wpAny_bind (wpAny_setField ho hd (by simp) (wpAny_bind (wpAny_setField u1 u3 (by simp) ?_)))
 exact stop_raise (B := A.in1) hh fun o1 o2 => hQ _ fun b o hb e => Heap.get?_push_of_some _ (Heap.get?_push_of_some _ ((Heap.get?_update_other _ _ (Ne.symm hb)).trans ((Heap.get?_update_other _ _ (Ne.symm hb)).trans e)))
end
end L2
set_option maxRecDepth 100000
set_option maxHeartbeats 4000000
namespace L2
open PySem PySem.Spec PyProof.Rows
def slotAt (xs : Array Nat) : Nat -> Nat
 | 0 => 0
 | i + 1 => xs.getD i 0 + 1
theorem slot_z (xs : Array Nat) : slotAt xs 0 = 0 := rfl
theorem slot_s (xs : Array Nat) (i : Nat) : slotAt xs (i + 1) = xs.getD i 0 + 1 := rfl
theorem below_slot {xs : Array Nat} (hr : Ris xs) {i : Nat} (hi : i <= xs.size) : SetTable.below xs (slotAt xs i) = i := by
  obtain ⟨h1, h2, h3⟩ := below_at (q := slotAt xs i) hr
  have g : ∀ {j : Nat}, j < xs.size -> ∃ y, xs[j]? = some y /\ xs.getD j 0 = y := fun {j} hj => ⟨xs[j], Array.getElem?_eq_getElem hj, by rw [Array.getD_eq_getD_getElem?, Array.getElem?_eq_getElem hj]; rfl⟩
  rcases Nat.lt_trichotomy (SetTable.below xs (slotAt xs i)) i with z | z | z
  · obtain ⟨y, e, _⟩ := g (Nat.lt_of_lt_of_le z hi)
    have := h3 _ y (Nat.le_refl _) e
    cases i with
    | zero => omega
    | succ i =>
      obtain ⟨y', e', d'⟩ := g (j := i) (by omega)
      have es := slot_s xs i
      rw [d'] at es
      rcases Nat.lt_or_eq_of_le (Nat.le_of_lt_succ z) with z | z
      · have := hr _ _ _ _ z e e'; omega
      · rw [z, e'] at e; cases e; omega
  · exact z
  · obtain ⟨y, e, d⟩ := g (j := i) (by omega)
    have := h2 i y z e
    cases i with
    | zero => rw [slot_z] at this; omega
    | succ i =>
      obtain ⟨y', e', d'⟩ := g (j := i) (by omega)
      rw [slot_s, d'] at this
      have := hr i (i + 1) _ _ (by omega) e' e
      omega
section
variable {prog : Program} {w : World} {a I tp : Addr} {o : Obj} {es : Array (Int × Value)} {ep : Nat} {t : SetTable}
theorem fits_size (h : t.fits es.size = true) : t.place.size = es.size := by
 unfold SetTable.fits at h
 rw [Bool.and_eq_true] at h
 exact eq_of_beq h.1
theorem walks_text {A : Around} (hh : A.handled = none) (bt : byText w = true) (g3 : o.data = .set es ep t) (g4 : t.fits es.size = true) (hne : a ≠ I) :
  Walks prog w A I [I, a] [I] es.size (fun i v => ((pickOrder (w.params.setOrder a ep) es).toList.map (·.2))[i]? = some v) (fun i h => SIt h I a (.int (0 : Nat) 0) i es.size ep /\ h.get? a = some o) where
 sub := fun b hb => by simp at hb; simp [hb]
 frame := fun i h h' st hk => by
  obtain ⟨⟨oi, h1, h2, h3⟩, h4⟩ := st
  exact ⟨⟨oi, hk I (by simp) _ h1, h2, h3⟩, hk a (by simp) _ h4⟩
 item := fun i s Q E hi st hQ => by
  have hsz : (pickOrder (w.params.setOrder a ep) es).toList.length = es.size := by
   have := (pick_perm (w.params.setOrder a ep) es.size 0 es.toList #[] (by simp)).length_eq
   simpa [pickOrder] using this
  have hlt : i < (pickOrder (w.params.setOrder a ep) es).toList.length := by omega
  have e1 : (pickOrder (w.params.setOrder a ep) es)[i]? = some (pickOrder (w.params.setOrder a ep) es).toList[i] := by rw [<- Array.getElem?_toList]; exact List.getElem?_eq_getElem hlt
  refine sit_item st.1 st.2 g3 g4 rfl (x := (pickOrder (w.params.setOrder a ep) es).toList[i].2) (nx := 0) (fun Q E q => next_text bt st.2 g3 g4 (by rw [e1]; exact q)) fun h' x1 x2 => ?_
  refine hQ _ h' s.toks (by rw [List.getElem?_map, List.getElem?_eq_getElem hlt]; rfl) ⟨x1, (x2 a hne).trans st.2⟩ fun b o' hb e => (x2 b (fun z => hb (by simp [z]))).trans e
 done := fun s Q E st hQ => by
  have hsz : (pickOrder (w.params.setOrder a ep) es).toList.length = es.size := by
   have := (pick_perm (w.params.setOrder a ep) es.size 0 es.toList #[] (by simp)).length_eq
   simpa [pickOrder] using this
  refine sit_end hh st.1 st.2 g3 g4 rfl (fun Q E q => next_text bt st.2 g3 g4 (by rw [<- Array.getElem?_toList, List.getElem?_eq_none (by omega)]; exact q)) fun h' x1 => hQ h' s.toks fun b o' hb e => x1 b o' (fun z => hb (by simp [z])) e
 self := fun i s Q E st hQ => by
  refine wpAny_pyIter_slot st.1.ty sl_setiter_iter (wpAny_call_entry sl_setiter_iter st.1.ty en_setiter_iter ?_ (ar_setiter_iter _))
  exact wpAny_pure ⟨_, rfl, "set_iterator", _, st.1.ty, sl_setiter_next.lookup, hQ⟩
theorem walks_plain {A : Around} (hh : A.handled = none) (bt : byText w = false) (g3 : o.data = .set es ep t) (g4 : t.fits es.size = true) (tk : TOk (byText w) t) (pl : t.plain = true \/ es.size <= 1) (hne : a ≠ I) :
  Walks prog w A I [I, a] [I] es.size (fun i v => (es.toList.map (·.2))[i]? = some v) (fun i h => SIt h I a (.int (slotAt t.place i) 0) i es.size ep /\ h.get? a = some o) where
 sub := fun b hb => by simp at hb; simp [hb]
 frame := fun i h h' st hk => by
  obtain ⟨⟨oi, h1, h2, h3⟩, h4⟩ := st
  exact ⟨⟨oi, hk I (by simp) _ h1, h2, h3⟩, hk a (by simp) _ h4⟩
 item := fun i s Q E hi st hQ => by
  have hps := fits_size g4
  have hr : Ris t.place := by
   rcases pl with p | p
   ·exact tk.ris p
   ·intro i j x y hij ex ey
    have := (Array.getElem?_eq_some_iff.mp ey).1; omega
  have hlt : i < es.toList.length := by simpa using hi
  have e1 : es[i]? = some es.toList[i] := by rw [<- Array.getElem?_toList]; exact List.getElem?_eq_getElem hlt
  have e2 : t.place[i]? = some (t.place.getD i 0) := by rw [Array.getD_eq_getD_getElem?, Array.getElem?_eq_getElem (by omega)]; rfl
  refine sit_item st.1 st.2 g3 g4 rfl (x := es.toList[i].2) (nx := slotAt t.place (i + 1)) (fun Q E q => next_plain bt st.2 g3 g4 tk pl (by rw [below_slot hr (by omega), e1, e2]; exact q)) fun h' x1 x2 => ?_
  refine hQ _ h' s.toks (by rw [List.getElem?_map, List.getElem?_eq_getElem hlt]; rfl) ⟨x1, (x2 a hne).trans st.2⟩ fun b o' hb e => (x2 b (fun z => hb (by simp [z]))).trans e
 done := fun s Q E st hQ => by
  have hps := fits_size g4
  have hr : Ris t.place := by
   rcases pl with p | p
   ·exact tk.ris p
   ·intro i j x y hij ex ey
    have := (Array.getElem?_eq_some_iff.mp ey).1; omega
  refine sit_end hh st.1 st.2 g3 g4 rfl (fun Q E q => next_plain bt st.2 g3 g4 tk pl (by rw [below_slot hr (by omega), Array.getElem?_eq_none (Nat.le_refl _)]; exact q)) fun h' x1 => hQ h' s.toks fun b o' hb e => x1 b o' (fun z => hb (by simp [z])) e
 self := fun i s Q E st hQ => by
  refine wpAny_pyIter_slot st.1.ty sl_setiter_iter (wpAny_call_entry sl_setiter_iter st.1.ty en_setiter_iter ?_ (ar_setiter_iter _))
  exact wpAny_pure ⟨_, rfl, "set_iterator", _, st.1.ty, sl_setiter_next.lookup, hQ⟩
theorem walks_drawn {A : Around} {ks : List Nat} (hh : A.handled = none) (g3 : o.data = .set es ep t) (g4 : t.fits es.size = true) (hk : ks.Perm (List.range es.size)) (hne : a ≠ I) (hnt : tp ≠ I) :
    Walks prog w A I [I, a, tp] [I] es.size (fun i v => ((ks.filterMap (es[·]?)).map (·.2))[i]? = some v) (fun i h => SIt h I a (.ref tp) i es.size ep /\ h.get? a = some o /\ ∃ ot m, h.get? tp = some ot /\ ot.data = .seq (ks.map fun (k : Nat) => rawInt k).toArray m) where
  sub := fun b hb => by simp at hb; simp [hb]
  frame := fun i h h' st hk => by
    obtain ⟨⟨oi, h1, h2, h3⟩, h4, ot, m, h5, h6⟩ := st
    exact ⟨⟨oi, hk I (by simp) _ h1, h2, h3⟩, hk a (by simp) _ h4, ot, m, hk tp (by simp) _ h5, h6⟩
  item := fun i s Q E hi st hQ => by
    have hlen : ks.length = es.size := by rw [hk.length_eq]; simp
    have hin : ∀ k ∈ ks, k < es.size := fun k m => by simpa using hk.mem_iff.mp m
    have hi' : i < ks.length := by omega
    have hki := hin ks[i] (List.getElem_mem hi')
    have e1 : es[ks[i]]? = some es[ks[i]] := Array.getElem?_eq_getElem hki
    have fm : ∀ (l : List Nat), (∀ k ∈ l, k < es.size) -> ∀ j (hj : j < l.length), (l.filterMap (es[·]?))[j]? = es[l[j]]? := by
      intro l
      induction l with
      | nil => intro _ j hj; simp at hj
      | cons b r ih =>
        intro hl j hj
        have hb := hl b (List.mem_cons_self ..)
        rw [List.filterMap_cons, Array.getElem?_eq_getElem hb]
        cases j with
        | zero => simp [Array.getElem?_eq_getElem hb]
        | succ j => simpa using ih (fun k m => hl k (List.mem_cons_of_mem _ m)) j (by simpa using hj)
    refine sit_itemT st.1 st.2.1 g3 g4 rfl st.2.2 (pl := ks[i]) (hx := es[ks[i]].1) (x := es[ks[i]].2) (by simp [List.getElem?_eq_getElem hi', rawInt]) e1 fun h' x1 x2 => ?_
    obtain ⟨ot, m, t1, t2⟩ := st.2.2
    refine hQ _ h' s.toks ?_ ⟨x1, (x2 a hne).trans st.2.1, ot, m, (x2 tp hnt).trans t1, t2⟩ fun b o' hb e => (x2 b (fun z => hb (by simp [z]))).trans e
    rw [List.getElem?_map, fm ks hin i hi', e1]; rfl
  done := fun s Q E st hQ => by
    have hlen : ks.length = es.size := by rw [hk.length_eq]; simp
    exact sit_endT hh st.1 st.2.1 g3 g4 rfl st.2.2 (by simp; omega) fun h' x1 => hQ h' s.toks fun b o' hb e => x1 b o' (fun z => hb (by simp [z])) e
  self := fun i s Q E st hQ => by
    refine wpAny_pyIter_slot st.1.ty sl_setiter_iter (wpAny_call_entry sl_setiter_iter st.1.ty en_setiter_iter ?_ (ar_setiter_iter _))
    exact wpAny_pure ⟨_, rfl, "set_iterator", _, st.1.ty, sl_setiter_next.lookup, hQ⟩
end
section
variable {prog : Program} {w : World} {A : Around} {E : Value -> Shared -> Prop} {s : Shared} {a : Addr} {o : Obj} {es : Array (Int × Value)} {ep : Nat} {t : SetTable}
theorem range_get {α : Type} : ∀ l : List α, (List.range l.length).filterMap (fun i => l[i]?) = l
  | [] => rfl
  | x :: l => by
    have := range_get l
    rw [List.length_cons, List.range_succ_eq_map, List.filterMap_cons, List.filterMap_map]
    simpa [Function.comp_def] using this
theorem choose_any {src : Source} {n : Nat} {Q : Nat -> Shared -> Prop} (hn : n ≠ 0) (h : ∀ i d', i < n -> Q i { s with drawn := d' }) : wpAny (model prog w) A (choose src n) Q E s := fun Γ p _ => ⟨hn, h _ _ (Nat.mod_lt _ (Nat.pos_of_ne_zero hn))⟩
theorem draw_perm {α : Type} : ∀ (n : Nat) (xs : List α) (s : Shared) (Q : List α -> Shared -> Prop), xs.length <= n -> (∀ ks d', ks.Perm xs -> Q ks { s with drawn := d' }) -> wpAny (model prog w) A (drawOrder n xs) Q E s
  | 0, xs, s, Q, hl, h => by
    have : xs = [] := List.length_eq_zero_iff.mp (by omega)
    subst this
    unfold drawOrder
    exact wpAny_pure (h [] s.drawn .nil)
  | n + 1, [], s, Q, hl, h => by
    unfold drawOrder
    exact wpAny_pure (h [] s.drawn .nil)
  | n + 1, x :: xs, s, Q, hl, h => by
    unfold drawOrder
    refine wpAny_bind (choose_any (by simp) fun i d' hi => ?_)
    rw [List.getElem?_eq_getElem hi]
    dsimp only
    refine wpAny_bind (draw_perm n _ _ _ (by rw [List.length_eraseIdx_of_lt hi]; simp at hl ⊢; omega) fun ks d2 hk => ?_)
    exact wpAny_pure (h _ d2 ((hk.cons _).trans (erase_perm hi)))
theorem drawn_of (g1 : s.heap.get? a = some o) (g3 : o.data = .set es ep t) (g4 : t.fits es.size = true) {Q : Bool -> Shared -> Prop} (h : Q (!byText w && (!t.plain && decide (es.size > 1))) s) : wpAny (model prog w) A (setDrawn a) Q E s := by
 unfold setDrawn
 refine wpAny_bind (wpAny_setState_of g1 g3 g4 ?_)
 dsimp only
 unfold setsByText
 refine wpAny_bind (wpAny_bind (wpAny_askSetting (wpAny_pure ?_)))
 exact wpAny_pure h
theorem epoch_of (g1 : s.heap.get? a = some o) (g3 : o.data = .set es ep t) (g4 : t.fits es.size = true) {Q : Nat -> Shared -> Prop} (h : Q ep s) : wpAny (model prog w) A (setEpoch a) Q E s := by
 unfold setEpoch
 exact wpAny_bind (wpAny_setState_of g1 g3 g4 (wpAny_pure h))
theorem iter_G {Q : Value -> Shared -> Prop} (hb : es.size < scanBound) (g1 : s.heap.get? a = some o) (g2 : o.ExactSet) (g3 : o.data = .set es ep t) (g4 : t.fits es.size = true) (tk : TOk (byText w) t)
    (hQ : ∀ (I : Addr) (h' : Heap) d' (items : List Value) (fp : List Addr) (St : Nat -> Heap -> Prop), (∀ b o, s.heap.get? b = some o -> h'.get? b = some o) -> s.heap.objs.size <= I -> (∀ b ∈ fp, b = a \/ s.heap.objs.size <= b) -> I ∈ fp -> (∀ b ∈ fp, b < h'.objs.size) -> items.Perm (es.toList.map (·.2)) ->
      (∀ B : Around, B.handled = none -> Walks prog w B I fp [I] items.length (fun i v => items[i]? = some v) St) -> St 0 h' -> Q (.ref I) { s with heap := h', drawn := d' }) : wpAny (model prog w) A (pyIter (.ref a)) Q E s := by
  have hT : s.TypeIs (.ref a) "set" := ⟨o, g1, g2.1⟩
  have hlt := Heap.lt_size g1
  refine wpAny_pyIter_slot hT sl_set_iter (wpAny_call_entry sl_set_iter hT en_set_iter ?_ (ar_set_iter _))
  unfold Builtin.«frozenset.__iter__»
  unfold Builtin.Frozenset.slot0 slotArgs
  simp only [List.isEmpty_nil, Bool.not_true, Bool.false_eq_true, ↓reduceIte, bind_assoc, List.length_nil, bne_self_eq_false]
  unfold Builtin.Frozenset.addrOf Builtin.Frozenset.sizeOf
  refine wpAny_bind (wpAny_pure ?_)
  try dsimp only
  refine wpAny_bind (wpAny_pure ?_)
  refine wpAny_bind (wpAny_bind (wpAny_setEntries_of g1 g3 g4 (wpAny_pure ?_)))
  refine wpAny_bind (drawn_of g1 g3 g4 ?_)
  by_cases c : (!byText w && (!t.plain && decide (es.size > 1))) = true
  · rw [if_pos c]
    refine wpAny_bind (draw_perm es.size (List.range es.size) s _ (by simp) fun ks d' hk => ?_)
    unfold newTuple
    refine wpAny_bind (wpAny_newObj_type ?_ ?_)
    rotate_left
    · have hk0 : ks.length = es.size := by rw [hk.length_eq]; simp
      show (List.map (fun (i : Nat) => rawInt i) ks).toArray.size <= sizeLine
      rw [List.size_toArray, List.length_map, hk0]
      exact fits_of_scanBound hb
    have g1' := Heap.get?_push_of_some ({ cls := .type "tuple", data := .seq (ks.map fun (i : Nat) => rawInt i).toArray } : Obj) g1
    refine wpAny_bind (epoch_of (s := { s with heap := _, drawn := d' }) g1' g3 g4 ?_)
    unfold newFields
    refine wpAny_bind (wpAny_newObj_type ?_)
    have hk0 : ks.length = es.size := by rw [hk.length_eq]; simp
    have fin := hQ
    clear hQ
    have sz1 : (s.heap.push ({ cls := .type "tuple", data := .seq (ks.map fun (i : Nat) => rawInt i).toArray } : Obj)).objs.size = s.heap.objs.size + 1 := Heap.size_push ..
    have gT : (s.heap.push ({ cls := .type "tuple", data := .seq (ks.map fun (i : Nat) => rawInt i).toArray } : Obj)).get? s.heap.objs.size = some { cls := .type "tuple", data := .seq (ks.map fun (i : Nat) => rawInt i).toArray } := Heap.get?_push_size _ rfl
    have gO : ∀ b o, s.heap.get? b = some o -> (s.heap.push ({ cls := .type "tuple", data := .seq (ks.map fun (i : Nat) => rawInt i).toArray } : Obj)).get? b = some o := fun b o e => Heap.get?_push_of_some _ e
    generalize hh1 : s.heap.push ({ cls := .type "tuple", data := .seq (ks.map fun (i : Nat) => rawInt i).toArray } : Obj) = h1 at g1' sz1 gT gO ⊢
    have gI : (h1.push ({ cls := .type "set_iterator", data := .fields #[.ref s.heap.objs.size, rawInt 0, .ref a, rawInt es.size, rawInt ep] } : Obj)).get? h1.objs.size = some { cls := .type "set_iterator", data := .fields #[.ref s.heap.objs.size, rawInt 0, .ref a, rawInt es.size, rawInt ep] } := Heap.get?_push_size _ rfl
    have gS := Heap.get?_push_of_some ({ cls := .type "set_iterator", data := .fields #[.ref s.heap.objs.size, rawInt 0, .ref a, rawInt es.size, rawInt ep] } : Obj) g1'
    have gT' := Heap.get?_push_of_some ({ cls := .type "set_iterator", data := .fields #[.ref s.heap.objs.size, rawInt 0, .ref a, rawInt es.size, rawInt ep] } : Obj) gT
    have sz2 : (h1.push ({ cls := .type "set_iterator", data := .fields #[.ref s.heap.objs.size, rawInt 0, .ref a, rawInt es.size, rawInt ep] } : Obj)).objs.size = h1.objs.size + 1 := Heap.size_push ..
    subst hh1
    refine wpAny_pure ⟨_, rfl, "set_iterator", _, ⟨_, gI, rfl⟩, sl_setiter_next.lookup, ?_⟩
    have pp : (ks.filterMap (es[·]?)).Perm es.toList := by
      have := hk.filterMap (es[·]?)
      have e : (List.range es.size).filterMap (es[·]?) = es.toList := by
        have := range_get es.toList
        simpa using this
      rwa [e] at this
    have hn : ((ks.filterMap (es[·]?)).map (·.2)).length = es.size := by rw [List.length_map, pp.length_eq]; simp
    have nlt := Nat.lt_of_lt_of_eq (Nat.lt_succ_self s.heap.objs.size) sz1.symm
    refine fin _ _ d' ((ks.filterMap (es[·]?)).map (·.2)) [_, a, s.heap.objs.size] _ (fun b o e => Heap.get?_push_of_some _ (gO b o e)) (Nat.le_of_lt nlt) (fun b m => ?_) (List.mem_cons_self ..) (fun b m => ?_) (pp.map _) (fun B hB => by rw [hn]; exact walks_drawn hB g3 g4 hk (Nat.ne_of_lt (Nat.lt_trans hlt nlt)) (Nat.ne_of_lt nlt)) ?_
    · rcases List.mem_cons.mp m with e | m
      · exact .inr (by rw [e]; exact Nat.le_of_lt nlt)
      · rcases List.mem_cons.mp m with e | m
        · exact .inl e
        · exact .inr (Nat.le_of_eq (List.mem_singleton.mp m).symm)
    · refine Nat.lt_of_lt_of_eq ?_ sz2.symm
      rcases List.mem_cons.mp m with e | m
      · rw [e]; exact Nat.lt_succ_self _
      · rcases List.mem_cons.mp m with e | m
        · rw [e]; exact Nat.lt_succ_of_lt (Nat.lt_trans hlt nlt)
        · rw [List.mem_singleton.mp m]; exact Nat.lt_succ_of_lt nlt
    · exact ⟨⟨_, gI, rfl, rfl⟩, gS, _, _, gT', rfl⟩
  · rw [if_neg c]
    refine wpAny_bind (wpAny_pure ?_)
    refine wpAny_bind (epoch_of g1 g3 g4 ?_)
    unfold newFields
    refine wpAny_bind (wpAny_newObj_type ?_)
    have gI : (s.heap.push ({ cls := .type "set_iterator", data := .fields #[rawInt 0, rawInt 0, .ref a, rawInt es.size, rawInt ep] } : Obj)).get? s.heap.objs.size = some { cls := .type "set_iterator", data := .fields #[rawInt 0, rawInt 0, .ref a, rawInt es.size, rawInt ep] } := Heap.get?_push_size _ rfl
    have gS := Heap.get?_push_of_some ({ cls := .type "set_iterator", data := .fields #[rawInt 0, rawInt 0, .ref a, rawInt es.size, rawInt ep] } : Obj) g1
    have hfp : ∀ b ∈ [s.heap.objs.size, a], b = a \/ s.heap.objs.size <= b := fun b m => by
      rcases List.mem_cons.mp m with e | m
      · exact .inr (Nat.le_of_eq e.symm)
      · exact .inl (List.mem_singleton.mp m)
    have hsz : (s.heap.push ({ cls := .type "set_iterator", data := .fields #[rawInt 0, rawInt 0, .ref a, rawInt es.size, rawInt ep] } : Obj)).objs.size = s.heap.objs.size + 1 := Heap.size_push ..
    have hlts : ∀ b ∈ [s.heap.objs.size, a], b < (s.heap.push ({ cls := .type "set_iterator", data := .fields #[rawInt 0, rawInt 0, .ref a, rawInt es.size, rawInt ep] } : Obj)).objs.size := fun b m => by
      rw [hsz]
      rcases List.mem_cons.mp m with e | m
      · rw [e]; exact Nat.lt_succ_self _
      · rw [List.mem_singleton.mp m]; exact Nat.lt_succ_of_lt hlt
    refine wpAny_pure ⟨_, rfl, "set_iterator", _, ⟨_, gI, rfl⟩, sl_setiter_next.lookup, ?_⟩
    cases bt : byText w with
    | true =>
      have pp : (pickOrder (w.params.setOrder a ep) es).toList.Perm es.toList := by simpa [pickOrder] using pick_perm (w.params.setOrder a ep) es.size 0 es.toList #[] (by simp)
      have hn : ((pickOrder (w.params.setOrder a ep) es).toList.map (·.2)).length = es.size := by rw [List.length_map, pp.length_eq]; simp
      refine hQ _ _ s.drawn ((pickOrder (w.params.setOrder a ep) es).toList.map (·.2)) [s.heap.objs.size, a] _ (fun b o e => Heap.get?_push_of_some _ e) (Nat.le_refl _) hfp (by simp) hlts (pp.map _) (fun B hB => by rw [hn]; exact walks_text hB bt g3 g4 (Nat.ne_of_lt hlt)) ?_
      exact ⟨⟨_, gI, rfl, rfl⟩, gS⟩
    | false =>
      have pl : t.plain = true \/ es.size <= 1 := by
        rw [bt, Bool.not_false, Bool.true_and] at c
        cases hp : t.plain with
        | true => exact .inl rfl
        | false =>
          rw [hp, Bool.not_false, Bool.true_and, decide_eq_true_eq] at c
          exact .inr (by omega)
      have hn : (es.toList.map (·.2)).length = es.size := by simp
      refine hQ _ _ s.drawn (es.toList.map (·.2)) [s.heap.objs.size, a] _ (fun b o e => Heap.get?_push_of_some _ e) (Nat.le_refl _) hfp (by simp) hlts (.refl _) (fun B hB => by rw [hn]; exact walks_plain hB bt g3 g4 tk pl (Nat.ne_of_lt hlt)) ?_
      exact ⟨⟨_, gI, rfl, rfl⟩, gS⟩
end
end L2
set_option maxRecDepth 100000
set_option maxHeartbeats 4000000
namespace L2
open PySem PySem.Spec PyProof.Rows
section
variable {prog : Program} {w : World} {A : Around} {E : Value -> Shared -> Prop} {s : Shared} {a : Addr} {o : Obj} {es : Array (Int × Value)} {ep : Nat} {t : SetTable}
theorem hint_set {Q : Bool -> Shared -> Prop} (hT : s.TypeIs (.ref a) "set") (h : Q false s) : wpAny (model prog w) A (Builtin.List.listLengthHint (.ref a)) Q E s := by
 unfold Builtin.List.listLengthHint
 refine wpAny_bind (wpAny_specialOf hT PySem.F.slot_set_len.lookup ?_)
 generalize hid : ("set.__len__" : String) = id0
 wp_delta
 rw [show splitId id0 = some ("set", "__len__") from by subst hid; decide +kernel]
 subst hid
 refine wpAny_bind (wpAny_isInstance (b := true) (T := "set") hT (by rw [isSubtype_type]; kernel_rfl) ?_)
 refine wpAny_ite_split (fun z => absurd z (by decide)) fun _ => wpAny_ite_split (fun _ => ?_) fun z => absurd (by decide +kernel) z
 exact wpAny_bind (wpAny_typeOf hT (wpAny_pure h))
theorem items_eq {items : List Value} {acc : Array Value} (h : ItemsOf (fun i v => items[i]? = some v) acc items.length) : acc.toList = items := by
 apply List.ext_getElem?
 intro i
 by_cases hi : i < acc.size
 ·have e : acc[i]? = some acc[i] := Array.getElem?_eq_getElem hi
  rw [Array.getElem?_toList, e, h.2 i _ e]
 ·have := h.1
  rw [List.getElem?_eq_none (by simp; omega), List.getElem?_eq_none (by omega)]
theorem collect_set {Q : List Value -> Shared -> Prop} (hh : A.handled = none) (hb : es.size < scanBound) (g1 : s.heap.get? a = some o) (g2 : o.ExactSet) (g3 : o.data = .set es ep t) (g4 : t.fits es.size = true) (tk : TOk (byText w) t)
  (hQ : ∀ h' d' tk' items, (∀ b o, s.heap.get? b = some o -> h'.get? b = some o) -> s.heap.objs.size <= h'.objs.size -> items.Perm (es.toList.map (·.2)) -> Q items { s with heap := h', drawn := d', toks := tk' }) : wpAny (model prog w) A (collect (.ref a)) Q E s := by
 have hlt := Heap.lt_size g1
 unfold collect
 refine wpAny_bind (wpAny_runValue (codeAny_builtin PySem.F.entry_proto_collect ?_))
 rw [Around.under_plainId PySem.F.plain_proto_collect _]
 show wpAny _ A.in1 (newList [] >>= fun l => again (.builtin "list.__iadd__" ⟨[l, .ref a], []⟩)) _ _ s
 refine wpAny_bind (wpAny_newObj_type ?_)
 refine wpAny_pure ⟨plainId_quiet PySem.F.plain_list_iadd _, codeAny_builtin PySem.F.entry_list_iadd ?_⟩
 rw [Around.under_plainId PySem.F.plain_list_iadd _]
 have gL : (s.heap.push ({ cls := .type "list", data := .seq ([] : List Value).toArray } : Obj)).get? s.heap.objs.size = some { cls := .type "list", data := .seq ([] : List Value).toArray } := Heap.get?_push_size _ rfl
 have gA := Heap.get?_push_of_some ({ cls := .type "list", data := .seq ([] : List Value).toArray } : Obj) g1
 have szL : (s.heap.push ({ cls := .type "list", data := .seq ([] : List Value).toArray } : Obj)).objs.size = s.heap.objs.size + 1 := Heap.size_push ..
 show wpAny _ A.in1 (Builtin.List.listExtendWith (.ref s.heap.objs.size) (.ref a) (.ref s.heap.objs.size)) _ _ { s with heap := s.heap.push ({ cls := .type "list", data := .seq ([] : List Value).toArray } : Obj) }
 have hkeep : ∀ b o, s.heap.get? b = some o -> (s.heap.push ({ cls := .type "list", data := .seq ([] : List Value).toArray } : Obj)).get? b = some o := fun b o e => Heap.get?_push_of_some _ e
 generalize s.heap.push ({ cls := .type "list", data := .seq ([] : List Value).toArray } : Obj) = h1 at gL gA szL hkeep ⊢
 unfold Builtin.List.listExtendWith
 refine wpAny_bind (wpAny_typeOf (T := "set") ⟨o, gA, g2.1⟩ ?_)
 have n1 : Builtin.List.listSameRef (.ref s.heap.objs.size) (.ref a) = false := by
  show (s.heap.objs.size == a) = false
  exact beq_eq_false_iff_ne.mpr (Nat.ne_of_gt hlt)
 have n2 : (Value.type "set" == Value.type "list") = false := by decide
 have n3 : (Value.type "set" == Value.type "tuple") = false := by decide
 simp only [n1, n2, n3, Bool.or_false, Bool.false_eq_true, if_false]
 refine wpAny_bind (iter_G (s := { s with heap := h1 }) hb gA g2 g3 g4 tk fun I h2 d' items fp St k1 k2 k3 k4 k5 pp W st => ?_)
 have gA2 := k1 _ _ gA
 have gL2 := k1 _ _ gL
 refine wpAny_bind (wpAny_holding (hint_set (s := { s with heap := h2, drawn := d' }) ⟨o, gA2, g2.1⟩ ?_))
 have lS : s.heap.objs.size < h1.objs.size := Nat.lt_of_lt_of_eq (Nat.lt_succ_self _) szL.symm
 have nS : s.heap.objs.size ∉ fp := fun m => by
  rcases k3 _ m with e | e
  ·exact absurd e (Nat.ne_of_gt hlt)
  ·exact absurd (Nat.lt_of_lt_of_le lS e) (Nat.lt_irrefl _)
 have hil : items.length <= sizeLine := by
  rw [pp.length_eq, List.length_map, Array.length_toList]; exact fits_of_scanBound hb
 have key : ∀ (h3 : Heap) (c : Nat), St 0 h3 -> (∀ b o, b ≠ s.heap.objs.size -> h2.get? b = some o -> h3.get? b = some o) -> h3.get? s.heap.objs.size = some { cls := .type "list", data := .seq #[] c } ->
   codeAny (model prog w) A (.builtin "list.extend.loop" ⟨[.ref s.heap.objs.size, .ref I, .ref s.heap.objs.size], []⟩) (fun r s' => match r with
    | .ok (.ret v) => wpAny (model prog w) A (match v with | .ref x => (do match (<- load x).data with | .seq xs _ => pure xs.toList | _ => unsupported "internal:collect") | _ => unsupported "internal:collect") Q E s'
    | .ok _ => False
    | .error e => E e s') { s with heap := h3, drawn := d' } := by
  intro h3 c st3 q1 q2
  refine codeAny_extend_loopS ((W A.in1 hh).toS) hil _ nS _ items.length 0 _ #[] c rfl (Nat.zero_le _) st3 q2 (ItemsOf.nil _) fun s' acc c' mo q3 q4 => ?_
  refine wpAny_bind (wpAny_load q3 (wpAny_pure ?_))
  rw [items_eq q4, Moved.eq_with mo]
  refine hQ s'.heap d' s'.toks items (fun b o e => ?_) ?_ pp
  ·have nb : b ≠ s.heap.objs.size := Nat.ne_of_lt (Heap.lt_size e)
   refine mo.heap b o (fun m => ?_) (q1 b o nb (k1 b o (hkeep b o e)))
   rcases List.mem_cons.mp m with z | z
   ·exact nb z
   ·have z := List.mem_singleton.mp z
    rw [z] at e
    exact absurd (Nat.lt_of_lt_of_le (Nat.lt_trans (Heap.lt_size e) lS) k2) (Nat.lt_irrefl _)
  ·exact Nat.le_of_lt (Heap.lt_size q3)
 refine wpAny_ite_split (fun _ => ?_) fun _ => wpAny_pure ⟨plainId_quiet PySem.F.plain_extend_loop _, key h2 _ st (fun _ _ _ e => e) gL2⟩
 refine wpAny_bind (wpAny_rule (wpAny_bind ?_))
 show wpAny _ A.in1 (updateSeq s.heap.objs.size (·.push .none) >>= fun _ => updateSeq s.heap.objs.size (·.pop)) _ _ _
 have u1 := Heap.get?_update_self (Obj.mapSeq (·.push Value.none)) gL2 rfl
 have u2 := Heap.get?_update_self (Obj.mapSeq (·.pop)) u1 rfl
 refine wpAny_bind (wpAny_updateSeq gL2 rfl (wpAny_updateSeq (hz := by seq_fits) u1 rfl ?_))
 have oth : ∀ b o, b ≠ s.heap.objs.size -> h2.get? b = some o -> ((h2.update s.heap.objs.size (Obj.mapSeq (·.push Value.none))).update s.heap.objs.size (Obj.mapSeq (·.pop))).get? b = some o := fun b o nb e => (Heap.get?_update_other _ _ (Ne.symm nb)).trans ((Heap.get?_update_other _ _ (Ne.symm nb)).trans e)
 exact wpAny_pure ⟨plainId_quiet PySem.F.plain_extend_loop _, key _ _ ((W A.in1 hh).frame 0 _ _ st fun b m o e => oth b o (fun z => nS (z ▸ m)) e) oth u2⟩
theorem ints_all {ks : List Int -> Prop} : ∀ {vs : List Value}, (∀ v ∈ vs, ∃ k t, v = .int k t) -> ∃ ns, IntsAre vs ns
  | [], _ => ⟨[], .nil⟩
  | v :: vs, h => by
    obtain ⟨k, t, rfl⟩ := h v (List.mem_cons_self ..)
    obtain ⟨ns, hn⟩ := ints_all (ks := ks) fun v m => h v (List.mem_cons_of_mem _ m)
    exact ⟨k :: ns, .cons k t hn⟩
theorem ints_mem : ∀ {vs : List Value} {ns : List Int}, IntsAre vs ns -> ∀ k, k ∈ ns ↔ ∃ t, .int k t ∈ vs
  | _, _, .nil, k => by simp
  | _, _, .cons j t h, k => by
    rw [List.mem_cons, ints_mem h k]
    constructor
    · rintro (rfl | ⟨t', m⟩)
      · exact ⟨_, List.mem_cons_self ..⟩
      · exact ⟨t', List.mem_cons_of_mem _ m⟩
    · rintro ⟨t', m⟩
      rcases List.mem_cons.mp m with e | m
      · cases e; exact .inl rfl
      · exact .inr ⟨t', m⟩
theorem sorted_set {S : Int -> Bool} {n : Nat} {Q : Value -> Shared -> Prop} (hh : A.handled = none) (hS : s.heap.SetOf (IK prog w) a S n) (hT : TAt (byText w) s.heap a) (h64 : n < 64)
  (h : ∀ h' d' tk' (l : Addr) (out : List Value) (ns : List Int) (e : Nat), (∀ b o, s.heap.get? b = some o -> h'.get? b = some o) -> s.heap.objs.size <= l -> h'.get? l = some (seqObj "list" out.toArray e) -> IntsAre out ns -> ns.Pairwise (· <= ·) -> (∀ k, S k = true ↔ k ∈ ns) -> ns.length = n ->
   Q (.ref l) { s with heap := h', drawn := d', toks := tk' }) : wpAny (model prog w) A (call (.builtin "sorted") [.ref a]) Q E s := by
 obtain ⟨o, es, ep, t, g1, g2, g3, l1, l2, l3, l4, sz⟩ := hS
 refine Calls.call_function_entry kind_sorted plain_sorted entry_sorted (args_sorted1 _) ?_
 unfold Builtin.«sorted»
 refine wpAny_bind (m := checkCount "sorted" 1 1 _) (wpAny_pure (wpAny_bind ?_))
 refine collect_set (A := A.in1) hh l3 g1 g2 g3 l4 (hT o es ep t g1 g3) fun h1 d1 tk1 items k1 k2 pp => ?_
 have hint : ∀ v ∈ items, ∃ k t, v = .int k t := fun v m => by
  obtain ⟨e, m', rfl⟩ := List.mem_map.mp (pp.mem_iff.mp m)
  obtain ⟨⟨k, hk, _⟩, _⟩ := l1 e m'
  obtain ⟨t, ht⟩ := Value.isInt_shape hk
  exact ⟨k, t, ht⟩
 obtain ⟨ns, hI⟩ := ints_all (ks := fun _ => True) hint
 have hlen : items.length = n := by rw [pp.length_eq, List.length_map, Array.length_toList, sz]
 refine wpAny_bind (wpAny_newList ?_)
 have gL : (h1.push (seqObj "list" items.toArray 0)).get? h1.objs.size = some (seqObj "list" items.toArray 0) := Heap.get?_push_size _ rfl
 refine wpAny_bind (wpAny_holding (wpAny_call_entry slot_list_sort ⟨_, gL, rfl⟩ entry_list_sort (list_sort_tree gL hI (by omega) fun out ns' a1 a2 a3 => ⟨_, rfl, ?_⟩) (args_list_sort _)))
 obtain ⟨e, he⟩ := sortedHeap_at (out := out) gL
 refine wpAny_pure ⟨_, rfl, h _ d1 tk1 h1.objs.size out.toList ns' e (fun b o q => ?_) k2 (by simpa using he) a1 a3 (fun k => ?_) ?_⟩
 ·have lb := Heap.lt_size (k1 b o q)
  rw [sortedHeap_old (Nat.ne_of_lt lb) (by rw [Heap.size_push]; exact Nat.lt_succ_of_lt lb)]
  exact Heap.get?_push_of_some _ (k1 b o q)
 ·rw [a2.mem_iff, ints_mem hI, l2 k]
  constructor
  ·rintro ⟨e, m, q⟩
   obtain ⟨t, ht⟩ := Value.isInt_shape q
   exact ⟨t, pp.mem_iff.mpr (ht ▸ List.mem_map.mpr ⟨e, m, rfl⟩)⟩
  ·rintro ⟨t, m⟩
   obtain ⟨e, m', q⟩ := List.mem_map.mp (pp.mem_iff.mp m)
   exact ⟨e, m', by rw [q]; exact intKind_is _ _ _ _⟩
 ·rw [a2.length_eq, <- hI.length, hlen]
end
end L2
set_option maxRecDepth 100000
set_option maxHeartbeats 4000000
namespace L2
open PySem PySem.Spec PyProof.Rows
def SetX (P : Program) (w : World) (a : Addr) (S : Int -> Bool) (n : Nat) : HO := .ext fun h => h.SetOf (IK P w) a S n /\ TAt (byText w) h a
theorem Inv.dr {X : Cx} {pins : List (Addr × Obj)} {σ : St} {H : Hp} {s : Shared} (I : Inv X pins σ H s) (d : Drawn) : Inv X pins σ H { s with drawn := d } :=
 ⟨I.ok, I.os, I.bare, I.base, I.loc, I.cell, I.free, I.freeC, I.pin, I.hok, I.len⟩
theorem vals_intsA : ∀ {ns : List Int} {us : List Value}, Vals (ns.map V.int) us -> IntsAre us ns
  | [], _, .nil => .nil
  | n :: ns, _, .cons r t => by
    obtain ⟨k, rfl⟩ := r
    exact .cons n k (vals_intsA t)
theorem ints_vals : ∀ {us : List Value} {ns : List Int}, IntsAre us ns -> Vals (ns.map V.int) us
 | _, _, .nil => .nil
 | _, _, .cons k t h => .cons ⟨t, rfl⟩ (ints_vals h)
theorem nodup_step {σ : List Int} {k : Int} (h : σ.Nodup) : (step_dedup σ k).Nodup := by
 unfold step_dedup
 split
 ·exact h
 ·rename_i q
  rw [List.nodup_append]
  refine ⟨h, by simp, fun x hx y hy => ?_⟩
  rw [List.mem_singleton.mp hy]
  intro e
  subst e
  exact q (by simp [hx])
theorem firstMet_nodup (val : Nat -> Int) : ∀ i, (firstMet val i).Nodup
 | 0 => List.nodup_nil
 | i + 1 => by rw [firstMet_succ]; exact nodup_step (firstMet_nodup val i)
theorem perm_of_sub : ∀ {ds ns : List Int}, ds.Nodup -> (∀ k ∈ ds, k ∈ ns) -> ns.length <= ds.length -> ds.Perm ns
  | [], ns, _, _, hl => by
    have : ns = [] := List.length_eq_zero_iff.mp (by simpa using hl)
    rw [this]
  | d :: ds, ns, hd, hs, hl => by
    have hm := hs d (List.mem_cons_self ..)
    obtain ⟨h1, h2⟩ := List.nodup_cons.mp hd
    have hp := List.perm_cons_erase hm
    refine (List.Perm.cons d (perm_of_sub h2 (fun k hk => ?_) ?_)).trans hp.symm
    · rcases List.mem_cons.mp (hp.mem_iff.mp (hs k (List.mem_cons_of_mem _ hk))) with e | e
      · subst e; exact absurd hk h1
      · exact e
    · have := hp.length_eq; simp at this hl ⊢; omega
def rSetOf (P : Program) (w : World) (K : PySem.W.Frag) : List V -> Hp -> VK -> Prop := fun xs H Q => ∃ p, ∃ ns : List Int, xs = [.ref p] /\ SqL K H p (ns.map V.int) /\ ns.length <= 4000 /\ ∀ a (ms : List Int), H a = none -> ms.Nodup -> (∀ k, k ∈ ms ↔ k ∈ ns) -> Q (.ref a) (upd H a (SetX P w a (fun k => ms.any (· == k)) ms.length))
def rSorted (P : Program) (w : World) : List V -> Hp -> VK -> Prop := fun xs H Q => ∃ a, ∃ ms : List Int, xs = [.ref a] /\ H a = some (SetX P w a (fun k => ms.any (· == k)) ms.length) /\ ms.Nodup /\ ms.length < 64 /\
 ∀ l (rs : List Int), H l = none -> rs.Pairwise (· < ·) -> (∀ k, k ∈ rs ↔ k ∈ ms) -> Q (.ref l) (upd H l (.lst (rs.map V.int)))
section
variable {X : Cx}
theorem call_setM (hc : X.calm = true) : CallR X (.type "set") (rSetOf X.prog X.w X.K) := by
 intro pins s σ H xs us Q I rv h
 obtain ⟨p, ns, rfl, hp, hn, q⟩ := h
 obtain ⟨u, rfl, ru⟩ := vals1 rv
 cases ru
 obtain ⟨its, rs, il, hz⟩ := I.list hp
 have hI := vals_intsA rs
 have hlen := hI.length
 refine callset_G (I.ok.hd hc) il.isList (by simpa using hI) (by rw [List.size_toArray]; unfold scanBound; omega) fun h' tk q1 q2 q3 => ?_
 have hmem : ∀ k, k ∈ firstMet (fun i => ns.getD i 0) its.toArray.size ↔ k ∈ ns := fun k => by
  have e := firstMet_any (fun i => ns.getD i 0) its.toArray.size k
  have e2 : (List.range its.toArray.size).map (fun i => ns.getD i 0) = ns := by
   rw [List.size_toArray, hlen]
   apply List.ext_getElem
   ·simp
   ·intro i h1 h2
    simp [List.getD_eq_getElem?_getD, List.getElem?_eq_getElem h2]
  rw [e2] at e
  have a1 : ∀ (l : List Int), (l.any (· == k)) = true ↔ k ∈ l := fun l => by
   rw [List.any_eq_true]
   exact ⟨fun ⟨x, m, z⟩ => (beq_iff_eq.mp z) ▸ m, fun m => ⟨k, m, beq_self_eq_true _⟩⟩
  rw [<- a1, <- a1, e]
 have kp : ∀ b u, s.heap.get? b = some u -> h'.get? b = some u := fun b u e => q3 b u (Heap.lt_size e) e
 have new : ObjOk X.prog X.w (upd H s.heap.objs.size (SetX X.prog X.w s.heap.objs.size (fun k => (firstMet (fun i => ns.getD i 0) its.toArray.size).any (· == k)) (firstMet (fun i => ns.getD i 0) its.toArray.size).length)) h' s.heap.objs.size (SetX X.prog X.w s.heap.objs.size (fun k => (firstMet (fun i => ns.getD i 0) its.toArray.size).any (· == k)) (firstMet (fun i => ns.getD i 0) its.toArray.size).length) := by
  refine ⟨⟨q1, q2⟩, ?_, fun h1 h2 z k => ?_⟩
  ·obtain ⟨o, _, _, _, ho, _⟩ := q1; exact ⟨o, ho⟩
  ·obtain ⟨⟨o, es, ep, t, ho, r⟩, tt⟩ := z
   exact ⟨⟨o, es, ep, t, k o ho, r⟩, tt.keep ho (k o ho)⟩
 exact ⟨.ref s.heap.objs.size, _, I.laid (t' := tk) kp (Nat.le_refl _) new, rfl, q _ _ (I.hok.fresh (Nat.le_refl _)) (firstMet_nodup _ _) hmem⟩
theorem call_sortM (hc : X.calm = true) : CallR X (.builtin "sorted") (rSorted X.prog X.w) := by
 intro pins s σ H xs us Q I rv h
 obtain ⟨a, ms, rfl, hH, nd, h64, q⟩ := h
 obtain ⟨u, rfl, ru⟩ := vals1 rv
 cases ru
 obtain ⟨⟨q1, q2⟩, _, _⟩ := I.hok a _ hH
 refine sorted_set (I.ok.hd hc) q1 q2 h64 fun h' d' tk' l out ns e kp hl gl hI pw hm hn => ?_
 have a1 : ∀ k, (ms.any (· == k)) = true ↔ k ∈ ms := fun k => by
  rw [List.any_eq_true]
  exact ⟨fun ⟨x, m, z⟩ => (beq_iff_eq.mp z) ▸ m, fun m => ⟨k, m, beq_self_eq_true _⟩⟩
 have hm' : ∀ k, k ∈ ns ↔ k ∈ ms := fun k => by rw [<- hm k, a1]
 have pp := perm_of_sub nd (fun k m => (hm' k).mpr m) (Nat.le_of_eq hn)
 have ndn : ns.Nodup := pp.nodup_iff.mp nd
 have lt : ns.Pairwise (· < ·) := by
  have := pw.and ndn
  exact this.imp fun ⟨x, y⟩ => by omega
 have new : ObjOk X.prog X.w (upd H l (.lst (ns.map V.int))) h' l (.lst (ns.map V.int)) := by
  refine ⟨?_, out, e, ints_vals hI, gl⟩
  rw [List.length_map, hn]; exact Nat.le_trans (Nat.le_of_lt h64) (by decide)
 exact ⟨.ref l, _, (I.laid (t' := tk') kp hl new).dr d', rfl, q _ _ (I.hok.fresh hl) lt hm'⟩
end
theorem EvN.sortedSet {G : Gx} {ρ : Rh} {te : TE} {P : Program} {w : World} {K : PySem.W.Frag} {Θ : Bool -> List PyData -> Prop} (h : Ev G ρ te fun _ x => ∃ ns : List Int, x = .list (ns.map .int) /\ ns.length < 64 /\ ∀ rs : List Int, rs.Pairwise (· < ·) -> (∀ k, k ∈ rs ↔ k ∈ ns) -> Θ true (rs.map .int)) :
  EvN G ρ (tCB (rSorted P w) (tCons (tCB (rSetOf P w K) (tCons te tNil)) tNil)) Θ := fun nb σ H Q W z =>
 h nb σ H _ W fun f v H1 x ⟨ns, ex, hn, q⟩ s1 hv => by
  subst ex
  obtain ⟨a, xs, rfl, na, hx, hd⟩ := hv.ofL
  have e := isDs_ints_eq hd
  subst e
  refine ⟨a, ns, rfl, .of hx, by omega, fun b ms hb nd hm => ?_⟩
  have hms : ms.length <= ns.length := List.Nodup.length_le_of_subset nd fun k m => (hm k).mp m
  refine ⟨b, ms, rfl, upd_same, nd, by omega, fun l rs hl lt hm' => ?_⟩
  have s2 : Step G.B H1 (upd H1 b (SetX P w b (fun k => ms.any (· == k)) ms.length)) := .same s1.2 (same_new hb)
  exact EvN.fin (f := true) W (s1.trans s2) hl (isDs_intsL rs) (q rs lt fun k => (hm' k).trans (hm k)) z
end L2
set_option maxRecDepth 100000
set_option maxHeartbeats 4000000
namespace L2
open PySem PySem.Spec PyProof.Rows
def rRange1 : List V -> Hp -> VK -> Prop := fun xs H Q => ∃ j : Int, xs = [.int j] /\ ∀ a, H a = none -> Q (.ref a) (upd H a (.rng 0 j))
def rListR : List V -> Hp -> VK -> Prop := fun xs H Q => ∃ (a : Addr) (lo hi : Int), xs = [.ref a] /\ H a = some (.rng lo hi) /\ (-10000 <= lo /\ lo <= 10000 /\ -10000 <= hi /\ hi <= 10000) /\ ∀ l, H l = none -> Q (.ref l) (upd H l (.lst (((List.range (hi - lo).toNat).map fun (i : Nat) => lo + (i : Int)).map V.int)))
def rSum (K : PySem.W.Frag) : List V -> Hp -> VK -> Prop := fun xs H Q => ∃ p, ∃ ns : List Int, xs = [.ref p] /\ SqL K H p (ns.map V.int) /\ Q (.int ns.sum) H
def rAll (K : PySem.W.Frag) : List V -> Hp -> VK -> Prop := fun xs H Q => ∃ p, ∃ bs : List Bool, xs = [.ref p] /\ SqL K H p (bs.map V.bl) /\ Q (.bl (bs.all id)) H
section
variable {X : Cx}
theorem call_rangeM : CallR X (.type "range") rRange1 := by
 intro pins s σ H xs us Q I rv h
 obtain ⟨j, rfl, q⟩ := h
 obtain ⟨u, rfl, ru⟩ := vals1 rv
 obtain ⟨t, rfl⟩ := ru
 refine call_range_1 ?_
 exact ⟨.ref s.heap.objs.size, _, I.laid (t' := s.toks + 1 + 1) (o := .rng 0 j) (fun b o e => Heap.get?_push_of_some _ e) (Nat.le_refl _) ⟨_, _, _, Heap.get?_push_size _ rfl⟩, rfl, q _ (I.hok.fresh (Nat.le_refl _))⟩
theorem call_listR (hc : X.calm = true) : CallR X (.type "list") rListR := by
  intro pins s σ H xs us Q I rv h
  obtain ⟨a, lo, hi, rfl, hH, hb, q⟩ := h
  obtain ⟨u, rfl, ru⟩ := vals1 rv
  cases ru
  obtain ⟨t, u, v, e⟩ := (show ObjOk X.prog X.w H s.heap a (.rng lo hi) from I.hok a _ hH)
  refine call_list_range (n := (hi - lo).toNat) (I.ok.hd hc) (show IsRange s.heap a lo hi 1 t u v from e) (small_one (by omega) (by omega) (by omega) (by omega)) (rangeSize_nat lo hi) (by omega) fun h' tk acc c' kp hl hi' => ?_
  have vv : Vals (((List.range (hi - lo).toNat).map fun (i : Nat) => lo + (i : Int)).map V.int) acc.toList := by
    have key : ∀ (n : Nat) (l : List Value), l.length = n -> ∀ b : Int, (∀ (j : Nat) (v : Value), l[j]? = some v -> ∃ t, v = Value.int (b + (j : Int)) t) -> Vals (((List.range n).map fun (i : Nat) => b + (i : Int)).map V.int) l := by
      intro n
      induction n with
      | zero => intro l hl b _; rw [List.length_eq_zero_iff.mp hl]; exact .nil
      | succ n ih =>
        intro l hl b hv
        cases l with
        | nil => cases hl
        | cons x r =>
          obtain ⟨t, e⟩ := hv 0 x rfl
          rw [List.range_succ_eq_map, List.map_cons, List.map_cons]
          refine .cons ⟨t, by simpa using e⟩ ?_
          have := ih r (by simpa using hl) (b + 1) (fun j v e => by
            obtain ⟨t, z⟩ := hv (j + 1) v (by simpa using e)
            exact ⟨t, by rw [z]; congr 1; omega⟩)
          rw [List.map_map] at this ⊢
          rw [List.map_map]
          have e : ∀ i : Nat, ((V.int ∘ fun (i : Nat) => b + (i : Int)) ∘ Nat.succ) i = (V.int ∘ fun (i : Nat) => b + 1 + (i : Int)) i := fun i => by
            show V.int (b + ((i + 1 : Nat) : Int)) = V.int (b + 1 + (i : Int)); congr 1; omega
          rw [List.map_congr_left fun i _ => e i]
          exact this
    refine key _ _ (by rw [Array.length_toList]; exact hi'.1) lo fun j v e => ?_
    obtain ⟨t, z⟩ := hi'.2 j v (by rw [<- Array.getElem?_toList]; exact e)
    exact ⟨t, by rw [z]; congr 1; omega⟩
  refine ⟨.ref s.heap.objs.size, _, I.laid (t' := tk) (o := .lst (((List.range (hi - lo).toNat).map fun (i : Nat) => lo + (i : Int)).map V.int)) kp (Nat.le_refl _) ⟨?_, acc.toList, c', vv, by simpa using hl⟩, rfl, q _ (I.hok.fresh (Nat.le_refl _))⟩
  rw [List.length_map, List.length_map, List.length_range]
  exact Nat.le_trans (show (hi - lo).toNat <= 20000 by omega) (by decide)
theorem call_sumM (hc : X.calm = true) : CallR X (.builtin "sum") (rSum X.K) := by
 intro pins s σ H xs us Q I rv h
 obtain ⟨p, ns, rfl, hp, q⟩ := h
 obtain ⟨u, rfl, ru⟩ := vals1 rv
 cases ru
 obtain ⟨its, rs, il, hz⟩ := I.list hp
 have hI := vals_intsA rs
 obtain ⟨ys, e⟩ := hI.allInts.items
 have hn := hI.numsOf
 refine sum_intListG (xs := ys) (I.ok.hd hc) (by rw [<- e]; exact il.isList) fun h' tk t' kp => ?_
 have e2 : preSum (numAt ys) ys.size = ns.sum := by
  rw [preSum_eq, List.take_of_length_le (by simp), <- nums_intItems, <- e, <- hn]
 rw [e2]
 exact ⟨.int ns.sum, H, I.kept kp, ⟨_, rfl⟩, q⟩
theorem call_allM (hc : X.calm = true) : CallR X (.builtin "all") (rAll X.K) := by
  intro pins s σ H xs us Q I rv h
  obtain ⟨p, bs, rfl, hp, q⟩ := h
  obtain ⟨u, rfl, ru⟩ := vals1 rv
  cases ru
  obtain ⟨its, rs, il, hz⟩ := I.list hp
  have hl := rs.length
  have hv : ∀ (i : Nat) (v : Value), its.toArray[i]? = some v -> v = .bool (bs.getD i false) := fun i v e => by
    have hi : i < bs.length := by
      have := (Array.getElem?_eq_some_iff.mp e).1
      rw [List.length_map] at hl
      simp at this; omega
    obtain ⟨u, hu, ru⟩ := rs.get (i := i) (x := .bl bs[i]) (by rw [List.getElem?_map, List.getElem?_eq_getElem hi]; rfl)
    rw [List.getElem?_toArray, hu] at e
    cases e
    rw [List.getD_eq_getElem?_getD, List.getElem?_eq_getElem hi]
    exact ru
  have ll := il.isList
  have hlt : p < s.heap.objs.size := by obtain ⟨o, e, _⟩ := ll; exact Heap.lt_size e
  refine call_all_walk (wpAny_pyIter_list ll ⟨s.heap.objs.size, _, _, _, _, _, fun i => bs.getD i false, rfl, Walks.list (A := X.A.in1) (I.ok.hd hc) _ p (Nat.ne_of_lt hlt) its.toArray, ⟨⟨_, Heap.get?_push_size _ rfl, rfl, rfl⟩, ll.push _⟩, fun i v s Q E hP hQ => ?_, fun h' tk kp => ?_⟩)
  · rw [hv i v hP]; exact wpAny_truthy_bool hQ
  · have e : (List.range its.toArray.size).all (fun i => bs.getD i false) = bs.all id := by
      have hs : its.toArray.size = bs.length := by rw [List.length_map] at hl; simp; omega
      rw [hs]
      clear hv hl rs q hp hs hz
      induction bs with
      | nil => rfl
      | cons b r ih =>
        rw [List.length_cons, List.range_succ_eq_map, List.all_cons, List.all_cons, List.all_map]
        simpa [Function.comp_def] using congrArg (b && ·) ih
    rw [e]
    refine ⟨.bl (bs.all id), H, I.kept fun b o q => kp b o (fun m => ?_) (Heap.get?_push_of_some _ q), rfl, q⟩
    have := List.mem_singleton.mp m
    rw [this] at q
    exact absurd (Heap.lt_size q) (Nat.lt_irrefl _)
end
section
variable {G : Gx} {ρ : Rh} {te : TE} {K : PySem.W.Frag} {Φ : Pd}
theorem EvN.listRange {Θ : Bool -> List PyData -> Prop} (h : Ev G ρ te fun _ x => ∃ n : Int, x = .int n /\ -10000 <= n /\ n <= 10000 /\ Θ true (((List.range n.toNat).map fun (i : Nat) => (0 : Int) + (i : Int)).map .int)) : EvN G ρ (tCB rListR (tCons (tCB rRange1 (tCons te tNil)) tNil)) Θ := fun nb σ H Q W z =>
 h nb σ H _ W fun f v H1 x ⟨n, ex, h1, h2, q⟩ s1 hv => by
  subst ex
  rw [hv.ofI]
  refine ⟨n, rfl, fun a ha => ⟨a, 0, n, rfl, upd_same, by omega, fun l hl => ?_⟩⟩
  rw [Int.sub_zero]
  exact EvN.fin (f := true) W (s1.trans (.same s1.2 (same_new ha))) hl (isDs_intsL _) q z
theorem Ev.sum (h : Ev G ρ te fun _ x => ∃ ns : List Int, x = .list (ns.map .int) /\ Φ true (.int ns.sum)) : Ev G ρ (tCB (rSum K) (tCons te tNil)) Φ := fun nb σ H Q W z =>
 h nb σ H _ W fun f v H1 x ⟨ns, ex, q⟩ s1 hv => by
  subst ex
  obtain ⟨a, xs, rfl, na, hx, hd⟩ := hv.ofL
  have e := isDs_ints_eq hd
  subst e
  exact ⟨a, ns, rfl, .of hx, z true _ H1 _ q s1 (.int _)⟩
theorem isDs_bools_eq {nb : Addr -> Prop} {H : Hp} : ∀ {is : List Bool} {xs : List V}, IsDs nb H (is.map PyData.bool) xs -> xs = is.map V.bl
  | [], _, h => by unfold List.map IsDs at h; exact h
  | i :: is, _, h => by
    rw [List.map_cons] at h
    unfold IsDs at h
    obtain ⟨y, ys, rfl, h1, h2⟩ := h
    unfold IsD at h1
    rw [List.map_cons, h1, isDs_bools_eq h2]
theorem Ev.all (h : Ev G ρ te fun _ x => ∃ bs : List Bool, x = .list (bs.map .bool) /\ Φ true (.bool (bs.all id))) : Ev G ρ (tCB (rAll K) (tCons te tNil)) Φ := fun nb σ H Q W z =>
 h nb σ H _ W fun f v H1 x ⟨bs, ex, q⟩ s1 hv => by
  subst ex
  obtain ⟨a, xs, rfl, na, hx, hd⟩ := hv.ofL
  have e := isDs_bools_eq hd
  subst e
  exact ⟨a, bs, rfl, .of hx, z true _ H1 _ q s1 (.bl _)⟩
end
end L2
set_option maxRecDepth 100000
set_option maxHeartbeats 4000000
namespace L2
open PySem PySem.Spec PyProof.Rows
def isiD : PyData -> String -> Bool
 | .bool _, T => T == "bool" || T == "int"
 | .int _, T => T == "int"
 | .str _, T => T == "str"
 | .list _, T => T == "list"
 | .tuple _, T => T == "tuple"
 | _, _ => false
def tyD : PyData -> String
 | .none => "NoneType" | .bool _ => "bool" | .int _ => "int" | .str _ => "str" | .list _ => "list" | .tuple _ => "tuple" | .dict _ => "dict"
theorem isi_list (ds : List PyData) : isiD (.list ds) "list" = true /\ isiD (.list ds) "tuple" = false := ⟨rfl, rfl⟩
theorem isi_tuple (ds : List PyData) : isiD (.tuple ds) "list" = false /\ isiD (.tuple ds) "tuple" = true := ⟨rfl, rfl⟩
theorem tyD_of {K : PySem.W.Frag} {nb : Addr -> Prop} {H : Hp} {d : PyData} {v : V} (h : IsD nb H d v) : TyOf K H v (.type (tyD d)) := by
 cases d <;> unfold IsD at h
 ·subst h; exact .non
 ·subst h; exact .bl _
 ·subst h; exact .int _
 ·subst h; exact .str _
 ·obtain ⟨a, xs, rfl, _, e, _⟩ := h; exact .lst e
 ·obtain ⟨a, xs, rfl, _, e, _⟩ := h; exact .tup e
 ·obtain ⟨a, xs, rfl, _, e, _⟩ := h; exact e.elim .dK fun ⟨_, e⟩ => .fzd e
def five (T : String) : Prop := T = "int" \/ T = "bool" \/ T = "list" \/ T = "tuple" \/ T = "str"
theorem kit_of {K : PySem.W.Frag} {d : PyData} {T : String} (hT : five T) : PySem.W.kitOne K (.type (tyD d)) (.type T) = some (isiD d T) := by
 rcases hT with rfl | rfl | rfl | rfl | rfl <;> cases d <;> (with_unfolding_all rfl)
theorem kit_any {K : PySem.W.Frag} {d : PyData} : ∀ {Ts : List String}, (∀ T ∈ Ts, five T) -> PySem.W.kitAny K (.type (tyD d)) (Ts.map Value.type) = some (Ts.any (isiD d))
  | [], _ => rfl
  | T :: r, h => by
    rw [List.map_cons]
    unfold PySem.W.kitAny
    rw [kit_of (h T (List.mem_cons_self ..)), List.any_cons]
    cases isiD d T with
    | true => rfl
    | false => exact kit_any fun T m => h T (List.mem_cons_of_mem _ m)
def rIsiT : List V -> Hp -> VK -> Prop := fun xs H Q => ∃ (x : V) (tp : Addr) (Ts : List String) (nb : Addr -> Prop) (d : PyData), xs = [x, .ref tp] /\ H tp = some (.tup (Ts.map V.ty)) /\ IsD nb H d x /\ (∀ T ∈ Ts, five T) /\ Q (.bl (Ts.any (isiD d))) H
theorem vals_ty : ∀ {Ts : List String} {us : List Value}, Vals (Ts.map V.ty) us -> us = Ts.map Value.type
 | [], _, .nil => rfl
 | T :: r, _, .cons h t => by rw [List.map_cons, vals_ty t, show _ = Value.type T from h]
section
variable {X : Cx}
theorem call_isiT : CallR X (.builtin "isinstance") rIsiT := by
 intro pins s σ H xs us Q I rv h
 obtain ⟨x, tp, Ts, nb, d, rfl, ht, hd, h5, q⟩ := h
 obtain ⟨u, v, rfl, ru, rv⟩ := rv.two
 cases (show v = Value.ref tp from rv)
 obtain ⟨_, its, vt, o, ho, hc, n, hdat⟩ := (show ObjOk X.prog X.w H s.heap tp (.tup (Ts.map V.ty)) from I.hok tp _ ht)
 have e := vals_ty vt
 subst e
 obtain ⟨c0, d0, dt, sl⟩ := o
 dsimp only at hc hdat
 subst hc hdat
 have fin : ∀ tk, EP X pins σ Q (.bool (Ts.any (isiD d))) { s with toks := tk } := fun tk => ⟨.bl _, H, I.tok tk, rfl, q⟩
 have ka := kit_any (K := X.K) (d := d) h5
 cases d <;> unfold IsD at hd
 ·subst hd; cases (show u = Value.none from ru); exact PySem.W.kia_tup PySem.W.kitx_none I.kIn True.intro ho ka (fun z => nomatch z) fin
 ·subst hd; cases (show u = Value.bool _ from ru); exact PySem.W.kia_tup PySem.W.kitx_bool I.kIn True.intro ho ka (fun z => nomatch z) fin
 ·subst hd; obtain ⟨t, rfl⟩ := (show ∃ t, u = Value.int _ t from ru); exact PySem.W.kia_tup PySem.W.kitx_int I.kIn True.intro ho ka (fun z => nomatch z) fin
 ·subst hd; obtain ⟨t, rfl⟩ := (show ∃ t, u = Value.str _ t from ru); exact PySem.W.kia_tup PySem.W.kitx_str I.kIn True.intro ho ka (fun z => nomatch z) fin
 ·obtain ⟨a, ys, rfl, _, ea, _⟩ := hd
  cases (show u = Value.ref a from ru)
  obtain ⟨_, _, n, _, h1⟩ := (show ObjOk X.prog X.w H s.heap a (.lst ys) from I.hok a _ ea)
  exact PySem.W.kia_tup PySem.W.kitx_list I.kIn ⟨_, h1, rfl⟩ ho ka (fun z => nomatch z) fin
 ·obtain ⟨a, ys, rfl, _, ea, _⟩ := hd
  cases (show u = Value.ref a from ru)
  obtain ⟨_, _, _, o', h1, h2, _⟩ := (show ObjOk X.prog X.w H s.heap a (.tup ys) from I.hok a _ ea)
  exact PySem.W.kia_tup PySem.W.kitx_tuple I.kIn ⟨o', h1, h2⟩ ho ka (fun z => nomatch z) fin
 ·obtain ⟨a, ys, rfl, _, ea, _⟩ := hd
  cases (show u = Value.ref a from ru)
  obtain ⟨_, _, vs, _, dd⟩ := (show ObjOk X.prog X.w H s.heap a (.dK ys) from ea.ok I.hok)
  exact PySem.W.kia_tup PySem.W.kitx_dict I.kIn dd.typeIs ho ka (fun z => nomatch z) fin
end
section
variable {G : Gx} {ρ : Rh} {ta tb te : TE} {K : PySem.W.Frag} {Φ : Pd} {T U : String}
theorem Ev.isi (hT : five T) (h : Ev G ρ te fun _ x => Φ true (.bool (isiD x T))) : Ev G ρ (tCB (rIsi K) (tCons te (tCons (tC (.ty T)) tNil))) Φ := fun nb σ H Q W z =>
 h nb σ H _ W fun f v H1 d q s1 hv => ⟨v, T, _, _, rfl, tyD_of hv, kit_of hT, z true _ H1 _ q s1 (.bl _)⟩
theorem Ev.isi2 (hT : five T) (hU : five U) (h : Ev G ρ te fun _ x => Φ true (.bool (isiD x T || isiD x U))) : Ev G ρ (tCB rIsiT (tCons te (tCons (tTup (tCons (tC (.ty T)) (tCons (tC (.ty U)) tNil))) tNil))) Φ := fun nb σ H Q W z =>
 h nb σ H _ W fun f v H1 d q s1 hv => by
  refine ⟨by show 2 <= sizeLine; decide, fun p hp => ⟨v, p, [T, U], G.S nb f, d, rfl, upd_same, hv.keep (But.of (same_new hp)), fun S m => ?_, ?_⟩⟩
  ·rcases List.mem_cons.mp m with e | m
   ·rw [e]; exact hT
   ·rw [List.mem_singleton.mp m]; exact hU
  ·rw [List.any_cons, List.any_cons, List.any_nil, Bool.or_false]
   exact z true _ _ _ q (s1.trans (.same s1.2 (same_new hp))) (.bl _)
theorem Ev.lenS (h : Ev G ρ te fun _ x => ∃ ds, (x = .list ds \/ x = .tuple ds) /\ Φ true (.int ds.length)) : Ev G ρ (tCB (rLen K) (tCons te tNil)) Φ := fun nb σ H Q W z =>
 h nb σ H _ W fun f v H1 d ⟨ds, e, q⟩ s1 hv => by
  rcases e with e | e
  ·subst e
   obtain ⟨a, xs, rfl, n, hx, hd⟩ := hv.ofL
   exact ⟨a, xs, rfl, .inl (.of hx), by rw [hd.length]; exact z true _ H1 _ q s1 (.int _)⟩
  ·subst e
   obtain ⟨a, xs, rfl, n, hx, hd⟩ := hv.ofT
   exact ⟨a, xs, rfl, .inr (.of hx), by rw [hd.length]; exact z true _ H1 _ q s1 (.int _)⟩
theorem Ev.ixS (h : Ev G ρ ta fun f x => ∃ ds, (x = .list ds \/ x = .tuple ds) /\ Ev G ρ tb fun _ y => ∃ k, y = .int k /\ ∃ e, atI ds k = some e /\ Φ f e) : Ev G ρ (tOp (rIx K) ta tb) Φ :=
 Ev.op2 (h.mono fun f x ⟨ds, ex, q⟩ => q.mono fun g y ⟨k, ey, e, he, p⟩ nb σ H u v Q W hu hv z => by
  subst ey
  rcases ex with ex | ex
  ·subst ex
   obtain ⟨a, xs, rfl, n, hx, hd⟩ := hu.ofL
   obtain ⟨w, hw, hD⟩ := hd.atI he
   exact .inl ⟨a, xs, k, w, rfl, hv.ofI, .of hx, hw, z f _ H _ p (.refl W.bag) hD⟩
  ·subst ex
   obtain ⟨a, xs, rfl, n, hx, hd⟩ := hu.ofT
   obtain ⟨w, hw, hD⟩ := hd.atI he
   exact .inr (.inl ⟨a, xs, k, w, rfl, hv.ofI, .of hx, hw, z f _ H _ p (.refl W.bag) hD⟩))
end
theorem Callee.void {P : Program} {w : World} {K : PySem.W.Frag} {mg : Str -> Option Value} {base : Heap} {x : Str} {st : Stmt} {k : Nat} {ps : List Str} {sp : Sp} {f : Addr} {fd : FuncData} (F : Fun K x x st f fd) (b : Binds K fd ps []) (m : mg x = some (.ref f)) (hv : ∀ vs H Q E, ¬ sp vs H Q E) : Callee P w K mg base x k ps sp :=
 ⟨f, fd, ⟨fun vs H Q E h => (hv vs H Q E h).elim, fun A outer s H args us vs Q E _ _ _ _ h => (hv vs H Q E h).elim⟩, b, F.kp, m⟩
end L2
set_option maxRecDepth 100000
set_option maxHeartbeats 4000000
namespace L2
open PySem PySem.Spec PyProof.Rows
section
variable {G : Gx} {ρ ρc : Rh} {te : TE} {gt : TG} {n i : Nat} {it : Nat -> PyData -> Prop} {fi : Bool} {Θ : Bool -> List PyData -> Prop} {E : DE}
theorem scAll_ints (os : List Int) : scAll (os.map PyData.int) = true := by
 unfold scAll
 rw [List.all_eq_true]
 intro x hx
 obtain ⟨y, _, rfl⟩ := List.mem_map.mp hx
 rfl
theorem CompD.ints (P : Int -> Prop) (ht : ∀ i d, it i d -> Gv G ρc gt fi d fun ρ1 => Wk ρc ρ1 /\ Ev G ρ1 te fun _ e => ∃ r : Int, e = .int r /\ P r) (h : ∀ os : List Int, os.length = n -> (∀ x ∈ os, P x) -> Θ true (os.map .int)) : CompD G ρc n it fi gt tNoTest te Θ := by
 refine ⟨false, fun i ds => ds.length = i /\ ∃ os : List Int, ds = os.map .int /\ ∀ x ∈ os, P x, ⟨rfl, [], rfl, fun _ h => nomatch h⟩, ?_, ?_⟩
 ·rintro i d ds hd hl ⟨hl2, os, rfl, ho⟩
  refine fun nb σ H v Q W hv z => ht i d hd nb σ H v Q W hv fun σ' ρ' ⟨w, q⟩ W' => z σ' ρ' ⟨w, Tv.noTest (iteT (q.mono fun f e ⟨r, ee, hr⟩ => ⟨fun z => (by cases z), ?_, os ++ [r], ?_, fun x hx => ?_⟩))⟩ W'
  ·rw [List.length_append, List.length_singleton, hl2]
  ·rw [ee]; simp
  ·rcases List.mem_append.mp hx with h | h
   ·exact ho x h
   ·rw [List.mem_singleton.mp h]; exact hr
 ·rintro ds hl ⟨hl2, os, rfl, ho⟩
  rw [scAll_ints, Bool.or_true]
  exact h os (by rw [List.length_map] at hl2; exact hl2) ho
theorem CompD.rel {α : Type} (φ : α -> PyData) (fl : Bool) (P : Nat -> α -> Prop) (ht : ∀ i d, it i d -> Gv G ρc gt fi d fun ρ1 => Wk ρc ρ1 /\ Ev G ρ1 te fun f e => (fl = true -> f = true) /\ ∃ r : α, e = φ r /\ P i r)
  (h : ∀ os : List α, os.length = n -> (∀ (i : Nat) x, os[i]? = some x -> P i x) -> Θ (fl || scAll (os.map φ)) (os.map φ)) : CompD G ρc n it fi gt tNoTest te Θ := by
 refine ⟨fl, fun i ds => ds.length = i /\ ∃ os : List α, ds = os.map φ /\ ∀ (i : Nat) x, os[i]? = some x -> P i x, ⟨rfl, [], rfl, fun j x e => by simp at e⟩, ?_, ?_⟩
 ·rintro i d ds hd hl ⟨hl2, os, rfl, ho⟩
  refine fun nb σ H v Q W hv z => ht i d hd nb σ H v Q W hv fun σ' ρ' ⟨w, q⟩ W' => z σ' ρ' ⟨w, Tv.noTest (iteT (q.mono fun f e ⟨hf, r, ee, hr⟩ => ⟨hf, ?_, os ++ [r], ?_, fun j x hj => ?_⟩))⟩ W'
  ·rw [List.length_append, List.length_singleton, hl2]
  ·rw [ee]; simp
  ·rw [List.length_map] at hl2
   rcases Nat.lt_trichotomy j os.length with h | h | h
   ·exact ho j x (by rwa [List.getElem?_append_left h] at hj)
   ·subst h
    simp at hj
    subst hj
    rw [hl2]; exact hr
   ·rw [List.getElem?_eq_none (by rw [List.length_append, List.length_singleton]; omega)] at hj
    cases hj
 ·rintro ds hl ⟨hl2, os, rfl, ho⟩
  exact h os (by rw [List.length_map] at hl2; exact hl2) ho
theorem Sv.asgNil (h : ∀ a, E.nx (ρ.set i (.own a true []))) : Sv G ρ (tAsg (tLst tNil) (gName i)) E := Sv.asgN (EvN.lst (Av.nil ⟨by decide, fun a => h a⟩))
end
def rIsB : R2 := fun x y H Q => ∃ a b : Bool, x = .bl a /\ y = .bl b /\ Q (.bl (a == b)) H
theorem Ev.isB {G : Gx} {ρ : Rh} {ta : TE} {b : Bool} {Φ : Pd} (h : Ev G ρ ta fun _ x => ∃ a, x = .bool a /\ Φ true (.bool (a == b))) : Ev G ρ (tOp rIsB ta (tC (.bl b))) Φ := fun nb σ H Q W z =>
 h nb σ H _ W fun f v H1 d ⟨a, e, q⟩ s1 hv => by
  subst e
  unfold IsD at hv
  subst hv
  exact ⟨a, b, rfl, rfl, z true _ H1 _ q s1 (.bl _)⟩
theorem pt_truthK {X : Cx} {K : PySem.W.Frag} {a : Expr} {ta : TE} (hK : X.K = K) (ha : PE X a ta) (he : ∀ whole, isTrue a X.env whole = (do let v <- whole; standAt a.pos; holding [v] (truthy v))) : PT X a (tTruth K ta) := by
 subst hK
 exact pt_truth ha he
theorem pg_tupM {X : Cx} {K : PySem.W.Frag} {es : List Expr} {k : Nat} {t : TGs} {n : Nat} {pos : Pos} (hK : X.K = K) (hc : X.calm = true) (h : PGs X es t) (hn : (assignEach es X.env).length = n := by rfl) (hst : (assignEach es X.env).findIdx? (·.1) = none := by rfl) : PG X (.Tuple es k pos) (gTup K n t) := by
 subst hK
 exact pg_tup hc h hn hst
def POk (p : Int) : Prop := 2 <= p /\ p <= 10 ^ 60
theorem pick {L : List Int} {k : Int} (h0 : 0 <= k) (h1 : k < L.length) (P : Int -> Prop) (hP : ∀ x ∈ L, P x) : ∃ x, atI (L.map PyData.int) k = some (.int x) /\ P x := by
 have hL : k.toNat < L.length := by omega
 exact ⟨L[k.toNat], atI_some h0 (by rw [List.getElem?_map, List.getElem?_eq_getElem hL]; rfl), hP _ (List.getElem_mem hL)⟩
end L2
set_option maxRecDepth 100000
set_option maxHeartbeats 4000000
namespace L2
open PySem PySem.Spec PyProof.Rows
theorem dueSum_append (a b : Prs) (wd : Wo) : dueSum (a ++ b) wd = dueSum a wd + dueSum b wd := by
 unfold dueSum; rw [List.map_append, List.sum_append]
theorem dueSum_cons (a : Int × Int) (b : Prs) (wd : Wo) : dueSum (a :: b) wd = termOf wd a + dueSum b wd := by
 unfold dueSum; rw [List.map_cons, List.sum_cons]
end L2
set_option maxRecDepth 100000
set_option maxHeartbeats 4000000
namespace L2
open PySem PySem.Spec PyProof.Rows
def mixW (p : Int) (xs : List Int) (a : Int) (ys : List Int) (b : Int) : List Int := List.zipWith (fun x y => (a * x + b * y) % p) xs ys
theorem termOf_some {w : List Int} {pr : Int × Int} {x : Int} (h : w[pr.1.toNat]? = some x) : termOf (w.map some) pr = pr.2 * x := by
 unfold termOf
 rw [List.getElem?_map, h]; rfl
theorem dueSum_mix {p a b : Int} {xs ys : List Int} (hl : xs.length = ys.length) : ∀ {prs : Prs}, (∀ pr ∈ prs, 0 <= pr.1 /\ pr.1 < xs.length) ->
    dueSum prs ((mixW p xs a ys b).map some) % p = (a * (dueSum prs (xs.map some) % p) + b * (dueSum prs (ys.map some) % p)) % p
  | [], _ => by simp [dueSum]
  | pr :: prs, h => by
    have ih := dueSum_mix (p := p) (a := a) (b := b) hl (prs := prs) fun q hq => h q (List.mem_cons_of_mem _ hq)
    obtain ⟨h0, h1⟩ := h pr (List.mem_cons_self ..)
    have k1 : pr.1.toNat < xs.length := by omega
    have k2 : pr.1.toNat < ys.length := by omega
    have e1 := termOf_some (w := xs) (List.getElem?_eq_getElem k1)
    have e2 := termOf_some (w := ys) (List.getElem?_eq_getElem k2)
    have e3 : termOf ((mixW p xs a ys b).map some) pr = pr.2 * ((a * xs[pr.1.toNat] + b * ys[pr.1.toNat]) % p) := by
      refine termOf_some ?_
      unfold mixW
      rw [List.getElem?_zipWith, List.getElem?_eq_getElem k1, List.getElem?_eq_getElem k2]
    rw [dueSum_cons, dueSum_cons, dueSum_cons, e1, e2, e3]
    generalize xs[pr.1.toNat] = x
    generalize ys[pr.1.toNat] = y
    generalize dueSum prs ((mixW p xs a ys b).map some) = M at *
    generalize dueSum prs (xs.map some) = A at *
    generalize dueSum prs (ys.map some) = B at *
    have m1 := Int.mul_ediv_add_emod M p
    have m2 := Int.mul_ediv_add_emod (a * (A % p) + b * (B % p)) p
    have m3 := Int.mul_ediv_add_emod A p
    have m4 := Int.mul_ediv_add_emod B p
    have m5 := Int.mul_ediv_add_emod (a * x + b * y) p
    have m6 := Int.mul_ediv_add_emod (pr.2 * x + A) p
    have m7 := Int.mul_ediv_add_emod (pr.2 * y + B) p
    generalize pr.2 = f at *
    generalize M / p = q1 at *
    generalize (a * (A % p) + b * (B % p)) / p = q2 at *
    generalize A / p = q3 at *
    generalize B / p = q4 at *
    generalize (a * x + b * y) / p = q5 at *
    generalize (f * x + A) / p = q6 at *
    generalize (f * y + B) / p = q7 at *
    generalize (a * x + b * y) % p = r5 at *
    generalize (f * x + A) % p = r6 at *
    generalize (f * y + B) % p = r7 at *
    generalize A % p = r3 at *
    generalize B % p = r4 at *
    have key : f * r5 + M = a * r6 + b * r7 + p * (a * q6 + b * q7 - f * q5 + q1 - q2 - a * q3 - b * q4) := by
      have e5 : r5 = a * x + b * y - p * q5 := by omega
      have e6 : r6 = f * x + A - p * q6 := by omega
      have e7 : r7 = f * y + B - p * q7 := by omega
      have eM : M = a * r3 + b * r4 - p * q2 + p * q1 := by omega
      have eA : A = p * q3 + r3 := by omega
      have eB : B = p * q4 + r4 := by omega
      rw [e5, e6, e7, eM, eA, eB]
      grind
    rw [key, Int.add_mul_emod_self_left]
end L2
set_option maxRecDepth 100000
set_option maxHeartbeats 4000000
namespace L2
open PySem PySem.Spec PyProof.Rows
def tRev (K : PySem.W.Frag) (te : TE) (ts : TO) : TE := fun σ H Q => te σ H fun x H1 => ts σ H1 fun k H2 => k = some (-1) /\ ∃ a xs, x = .ref a /\ SqL K H2 a xs /\ ∀ p, H2 p = none -> Q (.ref p) (upd H2 p (.lst xs.reverse))
theorem IsDs.rev {nb : Addr -> Prop} {H : Hp} : ∀ {ds : List PyData} {xs : List V}, IsDs nb H ds xs -> IsDs nb H ds.reverse xs.reverse
  | [], xs, h => by unfold IsDs at h; subst h; exact .nil
  | d :: ds, xs, h => by
    unfold IsDs at h
    obtain ⟨y, ys, e, h1, h2⟩ := h
    subst e
    rw [List.reverse_cons, List.reverse_cons]
    exact IsDs.append (IsDs.rev h2) (.cons h1 .nil)
section
variable {G : Gx} {ρ : Rh} {Φ : Pd} {ta tb te : TE} {K : PySem.W.Frag}
theorem EvN.rev {ts : TO} {Θ : Bool -> List PyData -> Prop} (h : Ev G ρ te fun f x => ∃ ds, x = .list ds /\ Ov G ρ ts fun o => o = some (-1) /\ Θ (f || scAll ds.reverse) ds.reverse) : EvN G ρ (tRev K te ts) Θ := fun nb σ H Q W z =>
 h nb σ H _ W fun f v H1 d ⟨ds, e, q⟩ s1 hv => q nb σ H1 _ (W.step s1) fun o H2 ⟨eo, q2⟩ s2 => by
  subst e
  obtain ⟨a, xs, rfl, n, hx, hd⟩ := (hv.keep s2.butS).ofL
  exact ⟨eo, a, xs, rfl, .of hx, fun p hp => EvN.fin W (s1.trans s2) hp hd.rev q2 z⟩
theorem Ev.rev {ts : TO} (h : Ev G ρ te fun f x => ∃ ds, x = .list ds /\ Ov G ρ ts fun o => o = some (-1) /\ Φ (f || scAll ds.reverse) (.list ds.reverse)) : Ev G ρ (tRev K te ts) Φ := (EvN.rev (Θ := fun f ds => Φ f (.list ds)) h).ev
theorem Ev.inI {ng : Bool} (h : Ev G ρ ta fun _ x => ∃ k : Int, x = .int k /\ Ev G ρ tb fun _ y => ∃ ns : List Int, y = .list (ns.map .int) /\ Φ true (.bool (decide (k ∈ ns) != ng))) : Ev G ρ (tOp (rIn K ng) ta tb) Φ := fun nb σ H Q W z =>
 h nb σ H _ W fun f v H1 d ⟨k, e, q⟩ s1 hv => q nb σ H1 _ (W.step s1) fun g u H2 d2 ⟨ns, e2, p⟩ s2 hu => by
  subst e e2
  have hk := hv.ofI
  subst hk
  obtain ⟨a, xs, rfl, na, hx, hd⟩ := hu.ofL
  have ex := isDs_ints_eq hd
  subst ex
  refine ⟨a, ns.map V.int, rfl, .inl (.of hx), rfl, ?_, ?_⟩
  ·rw [List.all_eq_true]
   intro x hx
   obtain ⟨o, _, rfl⟩ := List.mem_map.mp hx
   rfl
  ·have e : inV (V.int k) (ns.map V.int) = decide (k ∈ ns) := by
    unfold inV
    rw [List.any_map, Bool.eq_iff_iff, List.any_eq_true, decide_eq_true_eq]
    constructor
    ·rintro ⟨o, m, h⟩
     have : o = k := eq_of_beq h
     exact this ▸ m
    ·intro m
     exact ⟨k, m, beq_self_eq_true k⟩
   have e2 : (if ng = true then !inV (V.int k) (ns.map V.int) else inV (V.int k) (ns.map V.int)) = (decide (k ∈ ns) != ng) := by
    rw [e]
    cases ng <;> simp
   rw [e2]
   exact z true _ H2 _ p (s1.trans s2) (.bl _)
end
end L2
set_option maxRecDepth 100000
set_option maxHeartbeats 1000000
namespace PC
def PrimeN (n : Nat) : Prop := 2 <= n /\ ∀ d, d ∣ n -> d = 1 \/ d = n
def tr (q : Nat) : Nat -> Nat -> Bool
 | 0, _ => false
 | f + 1, d => if q < d * d then true else if q % d = 0 then false else tr q f (d + 1)
theorem tr_no {q : Nat} : ∀ {f d : Nat}, tr q f d = true -> ∀ e, d <= e -> e * e <= q -> q % e ≠ 0
  | 0, _, h => by simp [tr] at h
  | f + 1, d, h => by
    intro e hde hee
    unfold tr at h
    by_cases h1 : q < d * d
    · have := Nat.mul_le_mul hde hde
      omega
    · rw [if_neg h1] at h
      by_cases h2 : q % d = 0
      · rw [if_pos h2] at h; cases h
      · rw [if_neg h2] at h
        by_cases h3 : d = e
        · rw [<- h3]; exact h2
        · exact tr_no h e (by omega) hee
theorem prime_of_no {q : Nat} (h2 : 2 <= q) (h : ∀ e, 2 <= e -> e * e <= q -> q % e ≠ 0) : PrimeN q := by
 refine ⟨h2, fun d hd => ?_⟩
 obtain ⟨e, he⟩ := hd
 by_cases d1 : d = 1
 ·exact .inl d1
 by_cases e1 : e = 1
 ·right; rw [he, e1, Nat.mul_one]
 exfalso
 have d0 : d ≠ 0 := fun z => by rw [z, Nat.zero_mul] at he; omega
 have e0 : e ≠ 0 := fun z => by rw [z, Nat.mul_zero] at he; omega
 by_cases hle : d <= e
 ·refine h d (by omega) (by rw [he]; exact Nat.mul_le_mul_left d hle) ?_
  rw [he]; exact Nat.mul_mod_right d e
 ·refine h e (by omega) (by rw [he]; exact Nat.mul_le_mul_right e (by omega)) ?_
  rw [he]; exact Nat.mul_mod_left d e
theorem prime_tr (f : Nat) {q : Nat} (h2 : 2 <= q) (h : tr q f 2 = true) : PrimeN q := prime_of_no h2 (tr_no h)
def pw (N : Nat) : Nat -> Nat -> Nat -> Nat -> Nat
 | 0, _, _, acc => acc
 | f + 1, e, g, acc => pw N f (e / 2) (g * g % N) (if e % 2 = 1 then acc * g % N else acc)
theorem pw_eq {N : Nat} : ∀ (f e g acc : Nat), e < 2 ^ f -> pw N f e g acc % N = acc * g ^ e % N
  | 0, e, g, acc, h => by
    have : e = 0 := by simp at h; exact h
    subst this
    simp [pw]
  | f + 1, e, g, acc, h => by
    have h2 : e / 2 < 2 ^ f := by rw [Nat.pow_succ] at h; omega
    unfold pw
    rw [pw_eq f _ _ _ h2]
    have e2 : g ^ e = (g * g) ^ (e / 2) * g ^ (e % 2) := by
      conv => lhs; rw [<- Nat.div_add_mod e 2]
      rw [Nat.pow_add, Nat.pow_mul, Nat.pow_two]
    have m1 : (g * g % N) ^ (e / 2) % N = (g * g) ^ (e / 2) % N := (Nat.pow_mod _ _ _).symm
    rw [e2]
    by_cases ho : e % 2 = 1
    · rw [if_pos ho, ho, Nat.pow_one, Nat.mul_mod, m1, Nat.mod_mod, <- Nat.mul_mod]
      congr 1
      rw [Nat.mul_assoc, Nat.mul_comm g]
    · have ho' : e % 2 = 0 := by omega
      rw [if_neg ho, ho', Nat.pow_zero, Nat.mul_one, Nat.mul_mod, m1, <- Nat.mul_mod]
theorem exists_min {P : Nat -> Prop} : ∀ n, P n -> ∃ m, P m /\ ∀ k, k < m -> ¬ P k := by
  intro n
  induction n using Nat.strongRecOn with
  | _ n ih =>
    intro h
    by_cases hk : ∃ k, k < n /\ P k
    · obtain ⟨k, hk1, hk2⟩ := hk
      exact ih k hk1 hk2
    · exact ⟨n, h, fun k hk1 hk2 => hk ⟨k, hk1, hk2⟩⟩
theorem php : ∀ (n : Nat) (f : Nat -> Nat), (∀ i, i < n + 1 -> f i < n) -> ∃ i j, i < j /\ j < n + 1 /\ f i = f j
  | 0, f, h => absurd (h 0 (by omega)) (by omega)
  | n + 1, f, h => by
    by_cases he : ∃ i, i < n + 1 /\ f i = f (n + 1)
    · obtain ⟨i, h1, h2⟩ := he
      exact ⟨i, n + 1, h1, by omega, h2⟩
    · have hne : ∀ i, i < n + 1 -> f i ≠ f (n + 1) := fun i hi e => he ⟨i, hi, e⟩
      have hlast := h (n + 1) (by omega)
      obtain ⟨i, j, h1, h2, h3⟩ := php n (fun i => if f i = n then f (n + 1) else f i) (fun i hi => by
        have g1 := h i (by omega)
        have g2 := hne i hi
        by_cases c : f i = n
        · simp only [c, if_true]
          have : f (n + 1) ≠ n := fun z => g2 (c.trans z.symm)
          omega
        · simp only [c, if_false]
          omega)
      refine ⟨i, j, h1, by omega, ?_⟩
      have gi := hne i (by omega)
      have gj := hne j (by omega)
      by_cases ci : f i = n
      · by_cases cj : f j = n
        · rw [ci, cj]
        · simp only [ci, cj, if_true, if_false] at h3
          exact absurd h3.symm gj
      · by_cases cj : f j = n
        · simp only [ci, cj, if_true, if_false] at h3
          exact absurd h3 gi
        · simpa only [ci, cj, if_false] using h3
def lcms : List (Nat × Nat) -> Nat
 | [] => 1
 | qe :: r => Nat.lcm (qe.1 ^ qe.2) (lcms r)
theorem lcms_dvd {o : Nat} : ∀ {fs : List (Nat × Nat)}, (∀ qe ∈ fs, qe.1 ^ qe.2 ∣ o) -> lcms fs ∣ o
 | [], _ => ⟨o, by simp [lcms]⟩
 | qe :: r, h => Nat.lcm_dvd (h qe List.mem_cons_self) (lcms_dvd fun x hx => h x (List.mem_cons_of_mem _ hx))
theorem coprime_of {q m : Nat} (hq : PrimeN q) (h : ¬ q ∣ m) : Nat.Coprime q m := by
 rcases hq.2 _ (Nat.gcd_dvd_left q m) with e | e
 ·exact e
 ·exact absurd (e ▸ Nat.gcd_dvd_right q m) h
theorem coprime_pow {q m : Nat} (h : Nat.Coprime q m) (e : Nat) : Nat.Coprime (q ^ e) m := Nat.Coprime.pow_left e h
theorem mm3 (a b c d : Nat) : (a % d) * (b % d) % d * (c % d) % d = a * b * c % d := by
 rw [<- Nat.mul_mod a b, <- Nat.mul_mod (a * b) c]
theorem order_big {N g d : Nat} {fs : List (Nat × Nat)} (hN : 2 <= N) (hd : d ∣ N) (d1 : 1 < d) (h1 : g ^ (N - 1) % N = 1 % N)
  (hq : ∀ qe ∈ fs, PrimeN qe.1 /\ qe.1 ^ qe.2 ∣ N - 1 /\ Nat.gcd (g ^ ((N - 1) / qe.1) % N + (N - 1)) N = 1) : lcms fs < d := by
 have down : ∀ {a b : Nat}, a % N = b % N -> a % d = b % d := fun {a b} e => by
  rw [<- Nat.mod_mod_of_dvd a hd, e, Nat.mod_mod_of_dvd b hd]
 have one : 1 % d = 1 := Nat.mod_eq_of_lt d1
 have f1 : g ^ (N - 1) % d = 1 := by rw [down h1, one]
 obtain ⟨o, ⟨o0, o1⟩, omin⟩ := exists_min (P := fun k => 0 < k /\ g ^ k % d = 1) (N - 1) ⟨by omega, f1⟩
 have per : ∀ q r : Nat, g ^ (o * q + r) % d = g ^ r % d := fun q r => by
  rw [Nat.pow_add, Nat.pow_mul, Nat.mul_mod, Nat.pow_mod, o1, Nat.one_pow, one, Nat.one_mul, Nat.mod_mod]
 have odvd : ∀ k, g ^ k % d = 1 -> o ∣ k := fun k hk => by
  have e := Nat.div_add_mod k o
  rw [<- e, per] at hk
  by_cases h0 : k % o = 0
  ·exact Nat.dvd_of_mod_eq_zero h0
  ·exact absurd ⟨by omega, hk⟩ (omin (k % o) (Nat.mod_lt _ o0))
 have od := odvd _ f1
 have parts : lcms fs ∣ o := lcms_dvd fun qe hqe => by
  obtain ⟨pq, ⟨c, hc⟩, gq⟩ := hq qe hqe
  obtain ⟨m, hm⟩ := od
  by_cases hqm : qe.1 ∣ m
  ·exfalso
   obtain ⟨m', hm'⟩ := hqm
   have q0 : 0 < qe.1 := by have := pq.1; omega
   have ek : (N - 1) / qe.1 = o * m' := by
    rw [hm, hm', show o * (qe.1 * m') = qe.1 * (o * m') by rw [<- Nat.mul_assoc, Nat.mul_comm o, Nat.mul_assoc], Nat.mul_div_cancel_left _ q0]
   have e1 : g ^ ((N - 1) / qe.1) % d = 1 := by
    have := per m' 0
    rw [Nat.add_zero, Nat.pow_zero, one] at this
    rw [ek]; exact this
   have e2 : d ∣ g ^ ((N - 1) / qe.1) % N + (N - 1) := by
    have e3 : (g ^ ((N - 1) / qe.1) % N) % d = 1 := by rw [Nat.mod_mod_of_dvd _ hd]; exact e1
    obtain ⟨k, hk⟩ := hd
    have e4 := Nat.div_add_mod (g ^ ((N - 1) / qe.1) % N) d
    rw [e3] at e4
    refine ⟨(g ^ ((N - 1) / qe.1) % N) / d + k, ?_⟩
    rw [Nat.mul_add, <- hk]
    omega
   have e5 := Nat.dvd_gcd e2 hd
   rw [gq] at e5
   have := Nat.le_of_dvd (by omega) e5
   omega
  ·have cp := coprime_pow (coprime_of pq hqm) qe.2
   have hdv : qe.1 ^ qe.2 ∣ o * m := ⟨c, by rw [<- hm]; exact hc⟩
   exact cp.dvd_of_dvd_mul_right hdv
 have olt : o < d := by
  refine Nat.lt_of_not_le fun hle => ?_
  have unit : ∀ i, i <= N - 1 -> (g ^ i % d) * (g ^ (N - 1 - i) % d) % d = 1 := fun i hi => by
   rw [<- Nat.mul_mod, <- Nat.pow_add, show i + (N - 1 - i) = N - 1 by omega]; exact f1
  have ole : o <= N - 1 := Nat.le_of_dvd (by omega) od
  have pos : ∀ i, i < o -> 0 < g ^ i % d := fun i hi => by
   refine Nat.pos_of_ne_zero fun z => ?_
   have := unit i (by omega)
   rw [z, Nat.zero_mul, Nat.zero_mod] at this
   cases this
  obtain ⟨i, j, h1, h2, h3⟩ := php (d - 1) (fun i => g ^ i % d - 1) (fun i hi => by
   have a1 := pos i (by omega)
   have a2 := Nat.mod_lt (g ^ i) (show d > 0 by omega)
   omega)
  have pi := pos i (by omega)
  have pj := pos j (by omega)
  have e : g ^ i % d = g ^ j % d := by omega
  have ej : g ^ j = g ^ i * g ^ (j - i) := by rw [<- Nat.pow_add, show i + (j - i) = j by omega]
  have u := unit i (by omega)
  have k1 : g ^ (j - i) % d = 1 := by
   have w : (g ^ i % d) * (g ^ (N - 1 - i) % d) % d * (g ^ (j - i) % d) % d = (g ^ j % d) * (g ^ (N - 1 - i) % d) % d := by
    rw [mm3, <- Nat.mul_mod (g ^ j), ej]
    congr 1
    rw [Nat.mul_assoc, Nat.mul_assoc, Nat.mul_comm (g ^ (N - 1 - i))]
   rw [u, Nat.one_mul, Nat.mod_mod, <- e, u] at w
   exact w
  exact omin (j - i) (by omega) ⟨by omega, k1⟩
 exact Nat.lt_of_le_of_lt (Nat.le_of_dvd o0 parts) olt
theorem pock {N g : Nat} (fs : List (Nat × Nat)) (hN : 2 <= N) (h1 : g ^ (N - 1) % N = 1 % N)
  (hq : ∀ qe ∈ fs, PrimeN qe.1 /\ qe.1 ^ qe.2 ∣ N - 1 /\ Nat.gcd (g ^ ((N - 1) / qe.1) % N + (N - 1)) N = 1) (hF : N < (lcms fs + 1) * (lcms fs + 1)) : PrimeN N := by
 refine ⟨hN, fun d hd => ?_⟩
 obtain ⟨e, he⟩ := id hd
 by_cases d1 : d = 1
 ·exact .inl d1
 by_cases e1 : e = 1
 ·right; rw [he, e1, Nat.mul_one]
 exfalso
 have d0 : d ≠ 0 := fun z => by rw [z, Nat.zero_mul] at he; omega
 have e0 : e ≠ 0 := fun z => by rw [z, Nat.mul_zero] at he; omega
 have b1 := order_big hN hd (by omega) h1 hq
 have b2 := order_big hN ⟨d, by rw [he, Nat.mul_comm]⟩ (show 1 < e by omega) h1 hq
 have := Nat.mul_le_mul (show lcms fs + 1 <= d from b1) (show lcms fs + 1 <= e from b2)
 omega
def chk (N g : Nat) (fs : List (Nat × Nat)) : Bool :=
 decide (2 <= N) && decide (N < 2 ^ 140) && (pw N 140 (N - 1) g 1 % N == 1) && fs.all (fun qe => ((N - 1) % qe.1 ^ qe.2 == 0) && (Nat.gcd (pw N 140 ((N - 1) / qe.1) g 1 % N + (N - 1)) N == 1)) && decide (N < (lcms fs + 1) * (lcms fs + 1))
theorem by_chk {N : Nat} (g : Nat) (fs : List (Nat × Nat)) (hp : ∀ qe ∈ fs, PrimeN qe.1) (h : chk N g fs = true) : PrimeN N := by
 unfold chk at h
 simp only [Bool.and_eq_true, decide_eq_true_eq, beq_iff_eq, List.all_eq_true] at h
 obtain ⟨⟨⟨⟨h1, h2⟩, h3⟩, h4⟩, h5⟩ := h
 have P : ∀ e, e <= N - 1 -> pw N 140 e g 1 % N = g ^ e % N := fun e he => by
  rw [pw_eq 140 e g 1 (by omega), Nat.one_mul]
 refine pock (g := g) fs h1 (by rw [<- P _ (Nat.le_refl _), h3, Nat.mod_eq_of_lt (by omega)]) (fun qe hqe => ?_) h5
 obtain ⟨g1, g2⟩ := h4 qe hqe
 refine ⟨hp qe hqe, Nat.dvd_of_mod_eq_zero g1, ?_⟩
 rw [<- P _ (Nat.div_le_self _ _)]
 exact g2
end PC
set_option maxRecDepth 100000
set_option maxHeartbeats 1000000
namespace PC
theorem pr_2 : PrimeN 2 := prime_tr 4 (by decide) (by decide +kernel)
theorem pr_3 : PrimeN 3 := prime_tr 4 (by decide) (by decide +kernel)
theorem pr_5 : PrimeN 5 := prime_tr 5 (by decide) (by decide +kernel)
theorem pr_7 : PrimeN 7 := prime_tr 5 (by decide) (by decide +kernel)
theorem pr_11 : PrimeN 11 := prime_tr 6 (by decide) (by decide +kernel)
theorem pr_101 : PrimeN 101 := prime_tr 13 (by decide) (by decide +kernel)
theorem pr_10007 : PrimeN 10007 := prime_tr 103 (by decide) (by decide +kernel)
theorem pr_65537 : PrimeN 65537 := prime_tr 259 (by decide) (by decide +kernel)
theorem pr_1000003 : PrimeN 1000003 := prime_tr 1003 (by decide) (by decide +kernel)
theorem pr_17 : PrimeN 17 := prime_tr 7 (by decide) (by decide +kernel)
theorem pr_998244353 : PrimeN 998244353 := by_chk 3 [(17, 1), (7, 1), (2, 23)] (fun qe h => by
 simp only [List.mem_cons, List.not_mem_nil, or_false] at h
 rcases h with rfl | rfl | rfl
 ·exact pr_17
 ·exact pr_7
 ·exact pr_2) (by decide +kernel)
theorem pr_148721 : PrimeN 148721 := prime_tr 388 (by decide) (by decide +kernel)
theorem pr_500000003 : PrimeN 500000003 := by_chk 2 [(148721, 1)] (fun qe h => by
 simp only [List.mem_cons, List.not_mem_nil, or_false] at h
 subst h; exact pr_148721) (by decide +kernel)
theorem pr_1000000007 : PrimeN 1000000007 := by_chk 2 [(500000003, 1)] (fun qe h => by
 simp only [List.mem_cons, List.not_mem_nil, or_false] at h
 subst h; exact pr_500000003) (by decide +kernel)
theorem pr_331 : PrimeN 331 := prime_tr 21 (by decide) (by decide +kernel)
theorem pr_151 : PrimeN 151 := prime_tr 15 (by decide) (by decide +kernel)
theorem pr_2147483647 : PrimeN 2147483647 := by_chk 3 [(331, 1), (151, 1)] (fun qe h => by
 simp only [List.mem_cons, List.not_mem_nil, or_false] at h
 rcases h with rfl | rfl
 ·exact pr_331
 ·exact pr_151) (by decide +kernel)
theorem pr_250049 : PrimeN 250049 := prime_tr 503 (by decide) (by decide +kernel)
theorem pr_26005097 : PrimeN 26005097 := by_chk 2 [(250049, 1)] (fun qe h => by
 simp only [List.mem_cons, List.not_mem_nil, or_false] at h
 subst h; exact pr_250049) (by decide +kernel)
theorem pr_1000000000039 : PrimeN 1000000000039 := by_chk 2 [(26005097, 1)] (fun qe h => by
 simp only [List.mem_cons, List.not_mem_nil, or_false] at h
 subst h; exact pr_26005097) (by decide +kernel)
theorem pr_234931 : PrimeN 234931 := prime_tr 487 (by decide) (by decide +kernel)
theorem pr_8740842787 : PrimeN 8740842787 := by_chk 2 [(234931, 1)] (fun qe h => by
 simp only [List.mem_cons, List.not_mem_nil, or_false] at h
 subst h; exact pr_234931) (by decide +kernel)
theorem pr_52445056723 : PrimeN 52445056723 := by_chk 2 [(8740842787, 1)] (fun qe h => by
 simp only [List.mem_cons, List.not_mem_nil, or_false] at h
 subst h; exact pr_8740842787) (by decide +kernel)
theorem pr_1000000000000000003 : PrimeN 1000000000000000003 := by_chk 2 [(52445056723, 1)] (fun qe h => by
 simp only [List.mem_cons, List.not_mem_nil, or_false] at h
 subst h; exact pr_52445056723) (by decide +kernel)
theorem pr_15331 : PrimeN 15331 := prime_tr 126 (by decide) (by decide +kernel)
theorem pr_2131 : PrimeN 2131 := prime_tr 49 (by decide) (by decide +kernel)
theorem pr_5594472617641 : PrimeN 5594472617641 := by_chk 2 [(15331, 1), (2131, 1)] (fun qe h => by
 simp only [List.mem_cons, List.not_mem_nil, or_false] at h
 rcases h with rfl | rfl
 ·exact pr_15331
 ·exact pr_2131) (by decide +kernel)
theorem pr_18446744073709551557 : PrimeN 18446744073709551557 := by_chk 2 [(5594472617641, 1)] (fun qe h => by
 simp only [List.mem_cons, List.not_mem_nil, or_false] at h
 subst h; exact pr_5594472617641) (by decide +kernel)
theorem pr_1321 : PrimeN 1321 := prime_tr 39 (by decide) (by decide +kernel)
theorem pr_61 : PrimeN 61 := prime_tr 10 (by decide) (by decide +kernel)
theorem pr_2305843009213693951 : PrimeN 2305843009213693951 := by_chk 3 [(1321, 1), (331, 1), (151, 1), (61, 1)] (fun qe h => by
 simp only [List.mem_cons, List.not_mem_nil, or_false] at h
 rcases h with rfl | rfl | rfl | rfl
 ·exact pr_1321
 ·exact pr_331
 ·exact pr_151
 ·exact pr_61) (by decide +kernel)
theorem pr_8707 : PrimeN 8707 := prime_tr 96 (by decide) (by decide +kernel)
theorem pr_1913 : PrimeN 1913 := prime_tr 46 (by decide) (by decide +kernel)
theorem pr_2931542417 : PrimeN 2931542417 := by_chk 3 [(8707, 1), (1913, 1)] (fun qe h => by
 simp only [List.mem_cons, List.not_mem_nil, or_false] at h
 rcases h with rfl | rfl
 ·exact pr_8707
 ·exact pr_1913) (by decide +kernel)
theorem pr_2113 : PrimeN 2113 := prime_tr 48 (by decide) (by decide +kernel)
theorem pr_683 : PrimeN 683 := prime_tr 29 (by decide) (by decide +kernel)
theorem pr_618970019642690137449562111 : PrimeN 618970019642690137449562111 := by_chk 3 [(2931542417, 1), (2113, 1), (683, 1)] (fun qe h => by
 simp only [List.mem_cons, List.not_mem_nil, or_false] at h
 rcases h with rfl | rfl | rfl
 ·exact pr_2931542417
 ·exact pr_2113
 ·exact pr_683) (by decide +kernel)
theorem pr_1097 : PrimeN 1097 := prime_tr 36 (by decide) (by decide +kernel)
theorem pr_131 : PrimeN 131 := prime_tr 14 (by decide) (by decide +kernel)
theorem pr_67254877 : PrimeN 67254877 := by_chk 2 [(1097, 1), (131, 1)] (fun qe h => by
 simp only [List.mem_cons, List.not_mem_nil, or_false] at h
 rcases h with rfl | rfl
 ·exact pr_1097
 ·exact pr_131) (by decide +kernel)
theorem pr_28059810762433 : PrimeN 28059810762433 := by_chk 3 [(67254877, 1)] (fun qe h => by
 simp only [List.mem_cons, List.not_mem_nil, or_false] at h
 subst h; exact pr_67254877) (by decide +kernel)
theorem pr_53 : PrimeN 53 := prime_tr 10 (by decide) (by decide +kernel)
theorem pr_37 : PrimeN 37 := prime_tr 9 (by decide) (by decide +kernel)
theorem pr_13 : PrimeN 13 := prime_tr 6 (by decide) (by decide +kernel)
theorem pr_20394401 : PrimeN 20394401 := by_chk 3 [(53, 1), (37, 1), (13, 1)] (fun qe h => by
 simp only [List.mem_cons, List.not_mem_nil, or_false] at h
 rcases h with rfl | rfl | rfl
 ·exact pr_53
 ·exact pr_37
 ·exact pr_13) (by decide +kernel)
theorem pr_162259276829213363391578010288127 : PrimeN 162259276829213363391578010288127 := by_chk 3 [(28059810762433, 1), (20394401, 1)] (fun qe h => by
 simp only [List.mem_cons, List.not_mem_nil, or_false] at h
 rcases h with rfl | rfl
 ·exact pr_28059810762433
 ·exact pr_20394401) (by decide +kernel)
theorem pr_699053 : PrimeN 699053 := prime_tr 839 (by decide) (by decide +kernel)
theorem pr_77158673929 : PrimeN 77158673929 := by_chk 3 [(699053, 1)] (fun qe h => by
 simp only [List.mem_cons, List.not_mem_nil, or_false] at h
 subst h; exact pr_699053) (by decide +kernel)
theorem pr_649657 : PrimeN 649657 := prime_tr 809 (by decide) (by decide +kernel)
theorem pr_92737 : PrimeN 92737 := prime_tr 307 (by decide) (by decide +kernel)
theorem pr_170141183460469231731687303715884105727 : PrimeN 170141183460469231731687303715884105727 := by_chk 3 [(77158673929, 1), (649657, 1), (92737, 1)] (fun qe h => by
 simp only [List.mem_cons, List.not_mem_nil, or_false] at h
 rcases h with rfl | rfl | rfl
 ·exact pr_77158673929
 ·exact pr_649657
 ·exact pr_92737) (by decide +kernel)
theorem pr_7963 : PrimeN 7963 := prime_tr 92 (by decide) (by decide +kernel)
theorem pr_3011 : PrimeN 3011 := prime_tr 57 (by decide) (by decide +kernel)
theorem pr_575438233 : PrimeN 575438233 := by_chk 2 [(7963, 1), (3011, 1)] (fun qe h => by
 simp only [List.mem_cons, List.not_mem_nil, or_false] at h
 rcases h with rfl | rfl
 ·exact pr_7963
 ·exact pr_3011) (by decide +kernel)
theorem pr_52316542391429 : PrimeN 52316542391429 := by_chk 2 [(575438233, 1)] (fun qe h => by
 simp only [List.mem_cons, List.not_mem_nil, or_false] at h
 subst h; exact pr_575438233) (by decide +kernel)
theorem pr_104633084782859 : PrimeN 104633084782859 := by_chk 2 [(52316542391429, 1)] (fun qe h => by
 simp only [List.mem_cons, List.not_mem_nil, or_false] at h
 subst h; exact pr_52316542391429) (by decide +kernel)
theorem pr_179 : PrimeN 179 := prime_tr 16 (by decide) (by decide +kernel)
theorem pr_31 : PrimeN 31 := prime_tr 8 (by decide) (by decide +kernel)
theorem pr_7935071 : PrimeN 7935071 := by_chk 2 [(179, 1), (31, 1)] (fun qe h => by
 simp only [List.mem_cons, List.not_mem_nil, or_false] at h
 rcases h with rfl | rfl
 ·exact pr_179
 ·exact pr_31) (by decide +kernel)
theorem pr_15870143 : PrimeN 15870143 := by_chk 2 [(7935071, 1)] (fun qe h => by
 simp only [List.mem_cons, List.not_mem_nil, or_false] at h
 subst h; exact pr_7935071) (by decide +kernel)
theorem pr_401321030361983486780957614729 : PrimeN 401321030361983486780957614729 := by_chk 2 [(104633084782859, 1), (15870143, 1)] (fun qe h => by
 simp only [List.mem_cons, List.not_mem_nil, or_false] at h
 rcases h with rfl | rfl
 ·exact pr_104633084782859
 ·exact pr_15870143) (by decide +kernel)
theorem pr_1000000000000000000000000000000000000003 : PrimeN 1000000000000000000000000000000000000003 := by_chk 2 [(401321030361983486780957614729, 1)] (fun qe h => by
 simp only [List.mem_cons, List.not_mem_nil, or_false] at h
 subst h; exact pr_401321030361983486780957614729) (by decide +kernel)
theorem pr_25733 : PrimeN 25733 := prime_tr 163 (by decide) (by decide +kernel)
theorem pr_1151 : PrimeN 1151 := prime_tr 36 (by decide) (by decide +kernel)
theorem pr_4916701379 : PrimeN 4916701379 := by_chk 2 [(25733, 1), (1151, 1)] (fun qe h => by
 simp only [List.mem_cons, List.not_mem_nil, or_false] at h
 rcases h with rfl | rfl
 ·exact pr_25733
 ·exact pr_1151) (by decide +kernel)
theorem pr_83 : PrimeN 83 := prime_tr 12 (by decide) (by decide +kernel)
theorem pr_23 : PrimeN 23 := prime_tr 7 (by decide) (by decide +kernel)
theorem pr_1676254721 : PrimeN 1676254721 := by_chk 5 [(83, 1), (23, 1), (7, 3)] (fun qe h => by
 simp only [List.mem_cons, List.not_mem_nil, or_false] at h
 rcases h with rfl | rfl | rfl
 ·exact pr_83
 ·exact pr_23
 ·exact pr_7) (by decide +kernel)
theorem pr_149927568276670622397029177 : PrimeN 149927568276670622397029177 := by_chk 2 [(4916701379, 1), (1676254721, 1)] (fun qe h => by
 simp only [List.mem_cons, List.not_mem_nil, or_false] at h
 rcases h with rfl | rfl
 ·exact pr_4916701379
 ·exact pr_1676254721) (by decide +kernel)
theorem pr_9999999999999999999999999999999999999983 : PrimeN 9999999999999999999999999999999999999983 := by_chk 2 [(149927568276670622397029177, 1)] (fun qe h => by
 simp only [List.mem_cons, List.not_mem_nil, or_false] at h
 subst h; exact pr_149927568276670622397029177) (by decide +kernel)
end PC
namespace L2
open PC
def PrimeZ (p : Int) : Prop := 2 <= p /\ ∀ d : Int, 0 < d -> d ∣ p -> d = 1 \/ d = p
theorem primeZ_of {n : Nat} (h : PrimeN n) : PrimeZ (n : Int) := by
 refine ⟨by have := h.1; omega, fun d d0 hd => ?_⟩
 obtain ⟨k, rfl⟩ := Int.eq_ofNat_of_zero_le (Int.le_of_lt d0)
 rcases h.2 k (Int.natCast_dvd_natCast.mp hd) with e | e
 ·left; rw [e]; rfl
 ·right; rw [e]
theorem primeZ_no {p : Int} (h2 : 2 <= p) (h : NoDiv p) : PrimeZ p := by
 obtain ⟨n, rfl⟩ := Int.eq_ofNat_of_zero_le (show 0 <= p by omega)
 refine primeZ_of (prime_of_no (by omega) fun e e1 e2 e3 => ?_)
 refine h (e : Int) (by omega) (by rw [<- Int.natCast_mul]; exact Int.ofNat_le.mpr e2) ?_
 have := congrArg (Nat.cast : Nat -> Int) e3
 simpa using this
theorem primeZ_list : ∀ p ∈ primeList, PrimeZ p := by
 intro p hp
 simp only [primeList, List.mem_cons, List.not_mem_nil, or_false] at hp
 rcases hp with rfl | rfl | rfl | rfl | rfl | rfl | rfl | rfl | rfl | rfl | rfl | rfl | rfl | rfl | rfl | rfl | rfl | rfl | rfl | rfl | rfl | rfl
 ·exact primeZ_of pr_2
 ·exact primeZ_of pr_3
 ·exact primeZ_of pr_5
 ·exact primeZ_of pr_7
 ·exact primeZ_of pr_2
 ·exact primeZ_of pr_11
 ·exact primeZ_of pr_101
 ·exact primeZ_of pr_10007
 ·exact primeZ_of pr_65537
 ·exact primeZ_of pr_1000003
 ·exact primeZ_of pr_998244353
 ·exact primeZ_of pr_1000000007
 ·exact primeZ_of pr_2147483647
 ·exact primeZ_of pr_1000000000039
 ·exact primeZ_of pr_1000000000000000003
 ·exact primeZ_of pr_18446744073709551557
 ·exact primeZ_of pr_2305843009213693951
 ·exact primeZ_of pr_618970019642690137449562111
 ·exact primeZ_of pr_162259276829213363391578010288127
 ·exact primeZ_of pr_170141183460469231731687303715884105727
 ·exact primeZ_of pr_1000000000000000000000000000000000000003
 ·exact primeZ_of pr_9999999999999999999999999999999999999983
def spInverse : Sp := fun vs H Q _ => ∃ p b : Int, vs = [.int p, .int b] /\ PrimeZ p /\ p < 10 ^ 40 /\ b % p ≠ 0 /\ ∀ u : Int, 0 <= u -> u < p -> (∃ k, u * b = 1 + p * k) -> Q (.int u) H
end L2
set_option maxRecDepth 100000
set_option maxHeartbeats 4000000
namespace L2
open PySem PySem.Spec PyProof.Rows
theorem prime_mul {p a b : Int} (hp : PrimeZ p) (h : p ∣ a * b) (ha : ¬ p ∣ a) : p ∣ b := by
 have p2 := hp.1
 have g1 : ((Int.gcd a p : Nat) : Int) ∣ p := Int.gcd_dvd_right ..
 have g2 : ((Int.gcd a p : Nat) : Int) ∣ a := Int.gcd_dvd_left ..
 have g0 : 0 < ((Int.gcd a p : Nat) : Int) := by
  have : Int.gcd a p ≠ 0 := fun z => by have := (Int.gcd_eq_zero_iff.mp z).2; omega
  omega
 rcases hp.2 _ g0 g1 with e | e
 ·have c : Nat.Coprime p.natAbs a.natAbs := by
   show Nat.gcd p.natAbs a.natAbs = 1
   have : Int.gcd a p = 1 := by omega
   rw [Nat.gcd_comm]; exact this
  have h' : p.natAbs ∣ b.natAbs * a.natAbs := by rw [Nat.mul_comm, <- Int.natAbs_mul]; exact Int.natAbs_dvd_natAbs.mpr h
  exact Int.natAbs_dvd_natAbs.mp (c.dvd_of_dvd_mul_right h')
 ·rw [e] at g2; exact absurd g2 ha
theorem small_dvd {p a b : Int} (ha : 0 <= a) (ha' : a < p) (hb : 0 <= b) (hb' : b < p) (h : p ∣ a - b) : a = b := by
 obtain ⟨k, e⟩ := h
 rcases Int.lt_trichotomy k 0 with z | z | z
 ·have : p * k <= p * (-1) := Int.mul_le_mul_of_nonneg_left (by omega) (by omega)
  omega
 ·subst z; omega
 ·have : p * 1 <= p * k := Int.mul_le_mul_of_nonneg_left (by omega) (by omega)
  omega
end L2
set_option maxRecDepth 100000
set_option maxHeartbeats 4000000
namespace L2
open PySem PySem.Spec PyProof.Rows
section
variable {X : Cx} {pins : List (Addr × Obj)} {σ : List (Option V)} {H : Hp} {s : Shared} {h' : Heap}
theorem Inv.turnedLaid {t' : Nat} {e it T : Addr} {o : HO} (I : Inv X pins σ H s) (k : ∀ b u, b ≠ e -> b ≠ it -> s.heap.get? b = some u -> h'.get? b = some u) (fe : FpOk X pins H e) (fi : FpOk X pins H it) (hT : s.heap.objs.size <= T) (hTe : T ≠ e) (hTi : T ≠ it)
  (le : ∃ u, s.heap.get? e = some u) (li : ∃ u, s.heap.get? it = some u) (new : ObjOk X.prog X.w (upd H T o) h' T o) : Inv X pins σ (upd H T o) { s with heap := h', toks := t' } := by
 have hn := I.hok.fresh hT
 obtain ⟨e0, e1, e2, e3, e4, e5⟩ := fe
 obtain ⟨i0, i1, i2, i3, i4, i5⟩ := fi
 have ne : ∀ b u, H b = some u -> b ≠ e := fun b u q z => by rw [z, e0] at q; cases q
 have ni : ∀ b u, H b = some u -> b ≠ it := fun b u q z => by rw [z, i0] at q; cases q
 have nT : ∀ b u, H b = some u -> b ≠ T := fun b u q z => by rw [z, hn] at q; cases q
 refine I.step (g' := s.gens) (d' := s.drawn) (ch := [e, it]) (fun b hb => ?_) (fun b o _ _ hc q _ => k b o (fun z => hc (by simp [z])) (fun z => hc (by simp [z])) q) (fun b o _ _ hc q _ => ⟨o.slots, k b o (fun z => hc (by simp [z])) (fun z => hc (by simp [z])) q⟩)
  (fun b o hc q n => ?_) (fun b o hc q => ⟨o, k b o (fun z => hc (by simp [z])) (fun z => hc (by simp [z])) q⟩) (fun b xs q => by rw [upd_ne (nT b _ q)]; exact q) (fun b o u q => by rw [upd_ne (nT b _ q)]; exact q) (fun b ps q => ⟨#[], by rw [upd_ne (nT b _ q), q]; simp⟩) (fun m hm => ?_) (fun b u q => ?_) I.bare
 ·rcases (show b = e \/ b = it by simpa using hb) with z | z
  ·subst z; exact ⟨e3, e1, e4, e5⟩
  ·subst z; exact ⟨i3, i1, i4, i5⟩
 ·rw [upd_ne (fun z => absurd (Nat.lt_of_lt_of_le (Heap.lt_size q) (by rw [z]; exact hT)) (Nat.lt_irrefl _))]; exact n
 ·obtain ⟨o, es, ep, ho, r⟩ := hm
  exact ⟨o, es, ep, k _ o (Ne.symm e1) (Ne.symm i1) ho, r⟩
 ·by_cases hb : b = T
  ·subst hb; rw [upd_same] at q; cases q; exact new
  ·rw [upd_ne hb] at q
   refine (I.hok b u q).stay (fun c v hc z => ?_) (fun c z => by rw [upd_ne (nT c _ z)]; exact z) fun c xs z => by rw [upd_ne (nT c _ z)]; exact z
   rcases hc with y | y
   ·subst y; exact k _ v (ne _ u q) (ni _ u q) z
   ·exact k c v (ne c _ y) (ni c _ y) z
theorem Inv.turned2 {t' : Nat} {e it : Addr} (I : Inv X pins σ H s) (k : ∀ b u, b ≠ e -> b ≠ it -> s.heap.get? b = some u -> h'.get? b = some u) (fe : FpOk X pins H e) (fi : FpOk X pins H it) : Inv X pins σ H { s with heap := h', toks := t' } := by
 obtain ⟨e0, e1, e2, e3, e4, e5⟩ := fe
 obtain ⟨i0, i1, i2, i3, i4, i5⟩ := fi
 have ne : ∀ b u, H b = some u -> b ≠ e := fun b u q z => by rw [z, e0] at q; cases q
 have ni : ∀ b u, H b = some u -> b ≠ it := fun b u q z => by rw [z, i0] at q; cases q
 refine I.step (g' := s.gens) (d' := s.drawn) (ch := [e, it]) (fun b hb => ?_) (fun b o _ _ hc q _ => k b o (fun z => hc (by simp [z])) (fun z => hc (by simp [z])) q) (fun b o _ _ hc q _ => ⟨o.slots, k b o (fun z => hc (by simp [z])) (fun z => hc (by simp [z])) q⟩)
  (fun _ _ _ _ n => n) (fun b o hc q => ⟨o, k b o (fun z => hc (by simp [z])) (fun z => hc (by simp [z])) q⟩) (fun _ _ q => q) (fun _ _ _ q => q) (fun b ps q => ⟨#[], by rw [q]; simp⟩) (fun m hm => ?_) (fun b u q => ?_) I.bare
 ·rcases (show b = e \/ b = it by simpa using hb) with z | z
  ·subst z; exact ⟨e3, e1, e4, e5⟩
  ·subst z; exact ⟨i3, i1, i4, i5⟩
 ·obtain ⟨o, es, ep, ho, r⟩ := hm
  exact ⟨o, es, ep, k _ o (Ne.symm e1) (Ne.symm i1) ho, r⟩
 ·refine (I.hok b u q).stay (fun c v hc z => ?_) (fun c z => z) fun c xs z => z
  rcases hc with y | y
  ·subst y; exact k _ v (ne _ u q) (ni _ u q) z
  ·exact k c v (ne c _ y) (ni c _ y) z
end
def Ite (K : PySem.W.Frag) (a : Addr) : It :=
 ⟨fun i H => ∃ xs x, SqL K H a xs /\ xs[i]? = some x, fun i H x H' => ∃ p y, x = .ref p /\ H p = none /\ (∀ xs, SqL K H a xs -> xs[i]? = some y) /\ H' = upd H p (.tup [.int i, y]), fun i H => ∃ xs, SqL K H a xs /\ xs.length = i⟩
theorem turn_enum {P : Program} {w : World} {K : PySem.W.Frag} {elts : List Expr} {k : Nat} {pos : Pos} (a e it : Addr) (hei : e ≠ it) :
  Turn P w K (.Tuple elts k pos) (Ite K a) [e, it] e (fun i h => (∃ old, IsEnum h e it i old) /\ h.IsListIter it a i) where
 mem := by simp
 obj := fun i h st b hb => by
  obtain ⟨⟨old, s1⟩, ⟨o, e1, c, d⟩⟩ := st
  rcases (show b = e \/ b = it by simpa using hb) with z | z
  ·subst z
   exact ⟨_, s1, fun v z => by
    have z' : Data.fields _ = Data.cell v := z
    cases z'⟩
  ·subst z
   exact ⟨o, e1, fun v z => by rw [d] at z; cases z⟩
 keep := fun i h h' st k => ⟨let ⟨old, s1⟩ := st.1; ⟨old, k e (by simp) _ s1⟩, st.2.at fun o q => k it (by simp) o q⟩
 item := by
  intro X hP hw hK hc i pins s σ H E I hf st hg
  subst hP hw hK
  obtain ⟨xs, x, hq, hx⟩ := hg
  obtain ⟨its, rv, p, hz⟩ := I.list hq
  obtain ⟨u, hu, ru⟩ := rv.get hx
  have fe := hf e (by simp)
  have fi := hf it (by simp)
  obtain ⟨⟨old, s1⟩, s2⟩ := st
  obtain ⟨ol, l1, l2, l3⟩ := id p.isList
  obtain ⟨oi, i1, i2, i3⟩ := id s2
  have hae : a ≠ e := fun z => by
   subst z
   rw [s1] at l1; cases l1
   exact absurd l2 (by simp)
  have hai : a ≠ it := fun z => by
   subst z
   rw [i1] at l1; cases l1
   rw [i2] at l2
   exact absurd l2 (by simp)
  have W := WalksT.enumerate (prog := X.prog) (w := X.w) (I.ok.hd hc) e it a hei hae hai its.toArray
  have hi : i < its.toArray.size := by
   have := (List.getElem?_eq_some_iff.mp hu).1
   simpa using this
  refine W.item i s _ _ hi ⟨⟨old, s1⟩, s2, p.isList⟩ fun T vals h' tk hv hT hTup hMid kp => ⟨.ref T, rfl, ?_⟩
  refine W.go elts k pos i T _ _ _ hMid fun h'' st' kp2 => ?_
  obtain ⟨t, x', hx', hvv⟩ := hv
  have hxu : x' = u := by
   have : its.toArray[i]? = some u := by simpa using hu
   rw [hx'] at this; exact Option.some.inj this
  subst hxu hvv
  have hTw := W.apart i T h' hMid
  obtain ⟨_, _, _, hTe, hTi⟩ := hMid
  obtain ⟨oT, t1, t2, nT, t3⟩ := hTup
  have t1' := kp2 T oT hTw t1
  refine ⟨.ref T, upd H T (.tup [.int i, x]), I.turnedLaid (fun b v h1 h2 q => kp2 b v (by simp [h1, h2]) (kp b v (by simp [h1, h2]) q)) fe fi hT hTe hTi ⟨_, s1⟩ ⟨_, i1⟩ ?_, rfl, ⟨T, x, rfl, I.hok.fresh hT, fun ys hy => by rw [I.list_inj hy hq]; exact hx, rfl⟩, ⟨st'.1, st'.2.1⟩, fun b hb => ?_⟩
  ·exact ⟨by show 2 <= sizeLine; decide, [.int i t, x'], .cons ⟨t, rfl⟩ (.cons ru .nil), oT, t1', t2, nT, t3⟩
  ·rw [upd_ne, (hf b hb).1]
   rcases (show b = e \/ b = it by simpa using hb) with z | z
   ·rw [z]; exact Ne.symm hTe
   ·rw [z]; exact Ne.symm hTi
 done := by
  intro X hP hw hK hc i pins s σ H E I hf st hg
  subst hP hw hK
  obtain ⟨xs, hq, hx⟩ := hg
  obtain ⟨its, rv, p, hz⟩ := I.list hq
  have fe := hf e (by simp)
  have fi := hf it (by simp)
  obtain ⟨⟨old, s1⟩, s2⟩ := st
  obtain ⟨ol, l1, l2, l3⟩ := id p.isList
  obtain ⟨oi, i1, i2, i3⟩ := id s2
  have hl := rv.length
  have hae : a ≠ e := fun z => by
   subst z
   rw [s1] at l1; cases l1
   exact absurd l2 (by simp)
  have hai : a ≠ it := fun z => by
   subst z
   rw [i1] at l1; cases l1
   rw [i2] at l2
   exact absurd l2 (by simp)
  have W := WalksT.enumerate (prog := X.prog) (w := X.w) (I.ok.hd hc) e it a hei hae hai its.toArray
  have hn : its.toArray.size = i := by rw [List.size_toArray]; omega
  refine W.done s _ _ (by rw [hn]; exact ⟨⟨old, s1⟩, s2, p.isList⟩) fun h' tk kp => ⟨rfl, ?_⟩
  exact I.turned2 (fun b v h1 h2 q => kp b v (by simp [h1, h2]) q) fe fi
 self := fun _ _ _ _ _ st h => let ⟨old, s1⟩ := st.1; wpAny_pyIter_enum s1 h
def iEnum (K : PySem.W.Frag) (tl : TE) : TI := fun σ H R => tl σ H fun x H1 => ∃ a, x = .ref a /\ (∃ xs, SqL K H1 a xs) /\ R (Ite K a) H1
theorem pi_enum {X : Cx} {K : PySem.W.Frag} {elts : List Expr} {k : Nat} {tpos : Pos} {l : Expr} {tl : TE} {p pos : Pos} (hK : X.K = K) (hg : Gl X "enumerate") (hm : X.mg "enumerate" = none) (hl : PE X l tl) (hs : starEach [l] X.env = [(false, eval l X.env)] := by rfl) :
    PI X (.Tuple elts k tpos) (.Call (.Name "enumerate" p) [l] [] pos) (iEnum K tl) := by
  subst hK
  intro pins s σ H R I h
  have ha : PA X [l] (tCons tl tNil) := pa_cons hl pa_nil (by rw [hs]; rfl)
  refine Call_ (ld_blt I hg hm boot_enumerate (PyProof.Rows.callWith_type1 (thn (ha pos pins s σ H (fun vs H1 => match vs with | [x] => ∃ a, x = .ref a /\ (∃ xs, SqL X.K H1 a xs) /\ R (Ite X.K a) H1 | _ => False) I h) fun us s1 ⟨vs, H1, I1, r1, q1⟩ => ?_) hs rfl))
  cases r1 with
  | nil => exact q1.elim
  | cons r rr =>
    cases rr with
    | cons _ _ => exact q1.elim
    | nil =>
    obtain ⟨a, e2, ⟨xs, hq⟩, q⟩ := q1
    subst e2
    cases r
    obtain ⟨its, rv, p, hz⟩ := I1.list hq
    obtain ⟨m, hn, _⟩ := I1.loc
    refine enum_rows (h₀ := { objs := #[] }) (L := X.env.locals) (m := m) ⟨hn, fun b o z => ?_, Nat.zero_le _⟩ p.isList fun h' e1 e2 e3 e4 kp ne n1 n2 _ _ => ?_
    · cases z
    refine wpAny_pyIter_enum e1 ?_
    have I2 : Inv X pins σ H1 { s1 with heap := h' } := I1.kept (t' := s1.toks) kp
    refine ⟨s1.heap.objs.size + 1, [s1.heap.objs.size + 1, s1.heap.objs.size], _, _, H1, rfl, I2, turn_enum a _ _ ne, ⟨⟨_, e1⟩, e2⟩, fun b hb => ?_, q⟩
    rcases (show b = s1.heap.objs.size + 1 \/ b = s1.heap.objs.size by simpa using hb) with z | z
    · subst z; exact I1.fpOk (Nat.le_succ _) (I1.hok.fresh (Nat.le_succ _))
    · subst z; exact I1.fpOk (Nat.le_refl _) (I1.hok.fresh (Nat.le_refl _))
end L2
set_option maxRecDepth 100000
set_option maxHeartbeats 4000000
namespace L2
open PySem PySem.Spec PyProof.Rows
section
variable {G : Gx} {ρ ρc : Rh} {te : TE} {s : TS} {gt : TG} {E : DE} {K : PySem.W.Frag} {Θ : Bool -> List PyData -> Prop} {tc : TT} {mp : List (Option Nat)}
theorem Sv.forE (h : Ev G ρ te fun f x => ∃ ds, x = .list ds /\ ∀ v, Turns (G.hd f (.list ds) v) ρ ds.length (fun i d => ∃ e, ds[i]? = some e /\ d = .tuple [.int i, e]) f gt s E) : Sv G ρ (tFor (iEnum K te) gt s) E := fun nb σ H D W KK =>
 h nb σ H _ W fun f v H1 x ⟨ds, ex, q⟩ s1 hv => by
  subst ex
  obtain ⟨I, h0, ht, he⟩ := q v
  have W1 := (W.step s1).hd hv
  obtain ⟨a, xs, rfl, n, hx, hd⟩ := hv.ofL
  have key : ∀ {nb ρ' σ H}, Wd (G.hd f (.list ds) (.ref a)) nb ρ' σ H -> ∃ xs, H a = some (.lst xs) /\ IsDs (G.S nb f) H ds xs := fun W => by
   obtain ⟨a', xs', e', _, h', d'⟩ := W.unhd.2.ofL
   cases e'
   exact ⟨xs', h', d'⟩
  refine ⟨a, rfl, ⟨xs, .of hx⟩, ?_⟩
  refine ⟨fun i m σ H => m = ds.length - i /\ i <= ds.length /\ ∃ nb ρ', I i ρ' /\ Wd (G.hd f (.list ds) (.ref a)) nb ρ' σ H, ⟨ds.length, by simp, Nat.zero_le _, nb, ρ, h0, W1⟩, ?_⟩
  rintro i m σ H ⟨rfl, hi, nb, ρ', hI, W⟩
  obtain ⟨ys, hy, hD⟩ := key W
  have hl := hD.length
  by_cases hlt : i < ds.length
  ·refine .inr ⟨⟨ys, ys[i]'(by omega), .of hy, List.getElem?_eq_getElem _⟩, fun σ H => ∃ nb ρ', I (i + 1) ρ' /\ Wd (G.hd f (.list ds) (.ref a)) nb ρ' σ H, fun σ' H' q => ⟨ds.length - (i + 1), by omega, rfl, hlt, q⟩, fun x H' y => ?_⟩
   obtain ⟨p, y, e, hn, hz, e2⟩ := y
   subst e e2
   have hx := hz ys (.of hy)
   obtain ⟨x', hx', dx⟩ := hD.get (List.getElem?_eq_getElem hlt)
   rw [hx] at hx'; cases hx'
   have st : Step (G.hd f (.list ds) (.ref a)).B H (upd H p (.tup [.int i, y])) := .same W.bag (same_new hn)
   refine ht i _ ρ' ⟨_, List.getElem?_eq_getElem hlt, rfl⟩ hI nb σ _ _ _ (W.step st) (.tup (W.fresh hn) upd_same (.cons (.int _) (.cons (dx.keep st.butS) .nil))) fun σ2 ρ2 q W2 => q nb σ2 _ _ W2 ?_
   exact ⟨fun nb ρ σ H q W => ⟨nb, ρ, q, W⟩, fun nb ρ σ H q W => KK.nx nb ρ σ H q W.unhd.1, fun nb ρ σ H q W => ⟨nb, ρ, q, W⟩, fun nb ρ σ f v H d q W hv => KK.rt nb ρ σ f v H d q W.unhd.1 hv⟩
  ·have e : i = ds.length := by omega
   subst e
   exact .inl ⟨⟨ys, .of hy, by omega⟩, KK.nx nb ρ' σ H (he ρ' hI) W.unhd.1⟩
end
end L2
set_option maxRecDepth 100000
set_option maxHeartbeats 4000000
namespace L2
open PySem PySem.Spec PyProof.Rows
section
variable {G : Gx} {ρ : Rh} {Φ : Pd} {te : TE} {t : TA} {i n : Nat} {f : Bool} {ds : List PyData} {Θ : List PyData -> Prop}
theorem Ev.tupS (h : Av G ρ t fun es => es.length <= 10000 /\ Φ (allF es || scAll (es.map (·.2))) (.tuple (es.map (·.2)))) : Ev G ρ (tTup t) Φ := fun nb σ H Q W z =>
 h nb σ H _ W fun es vs H1 ⟨hl, p⟩ s1 q1 => ⟨Nat.le_trans (by rw [q1.len]; exact hl) (by decide), fun a ha => z _ _ _ _ p (s1.trans (.same (W.step s1).bag (same_new ha))) (by
  cases hs : scAll (es.map (·.2)) with
  | true => rw [Bool.or_true]; exact .tup ((W.step s1).fresh ha) upd_same ((q1.all (f := false) fun z => by cases z).scAny hs)
  | false => rw [Bool.or_false]; exact .tup ((W.step s1).fresh ha) upd_same ((q1.all fun z => z).keep (But.of (same_new ha))))⟩
theorem Ev.primeFrom (h : Ev G ρ te fun _ x => ∃ n : Int, x = .int n /\ 2 <= n /\ n <= 10002 /\ ∀ r : Int, PrimeZ r -> r < 10 ^ 40 -> Φ true (.int r)) : Ev G ρ (tCall spPrimeFrom [] E0 (tCons te tNil)) Φ := fun nb σ H Q W z =>
 h nb σ H _ W fun f v H1 d ⟨n, e, h1, h2, p⟩ s1 hv => by
  subst e
  exact ⟨n, by rw [hv.ofI]; rfl, h1, h2, fun r H' sm r1 r2 r3 => z true _ H' _ (p r (primeZ_no r1 r3) (by omega)) (s1.trans (.same (W.step s1).bag sm)) (.int r)⟩
theorem Ev.str {x : Str} (h : Φ true (.str x)) : Ev G ρ (tC (.str x)) Φ := fun nb σ H Q W z => z true _ H _ h (.refl W.bag) (by unfold IsD; rfl)
end
theorem Eu.fin {p b L lt t : Int} (h : Eu p b L lt 0 t) (hp : PrimeZ p) (hb : b % p ≠ 0) : ∃ k, lt % p * b = 1 + p * k := by
 obtain ⟨g1, g2⟩ := h.dv L (Int.dvd_refl L) (Int.dvd_zero L)
 have m1 := Int.emod_nonneg b (show p ≠ 0 by have := hp.1; omega)
 have m2 := Int.emod_lt_of_pos b (show 0 < p by have := hp.1; omega)
 have hL : L = 1 := by
  rcases hp.2 L h.l0 g1 with e | e
  ·exact e
  ·exfalso
   rw [e] at g2
   have := Int.le_of_dvd (by omega) g2
   omega
 obtain ⟨k, hk⟩ := h.lc
 have e := Int.mul_ediv_add_emod lt p
 refine ⟨-k - lt / p * b, ?_⟩
 have e2 : lt % p = lt - p * (lt / p) := by omega
 rw [e2, Int.sub_mul, Int.mul_sub, Int.mul_neg, Int.mul_assoc]
 omega
noncomputable def sol (p b a : Int) : Int := open Classical in if h : ∃ x, 0 <= x /\ x < p /\ ∃ k, b * x - a = p * k then Classical.choose h else 0
theorem sol_eq {p b a x : Int} (hp : PrimeZ p) (hb : b % p ≠ 0) (h0 : 0 <= x) (h1 : x < p) (hx : ∃ k, b * x - a = p * k) : x = sol p b a := by
 have ex : ∃ x, 0 <= x /\ x < p /\ ∃ k, b * x - a = p * k := ⟨x, h0, h1, hx⟩
 unfold sol
 rw [dif_pos ex]
 obtain ⟨g0, g1, k', hk'⟩ := Classical.choose_spec ex
 generalize Classical.choose ex = y at *
 obtain ⟨k, hk⟩ := hx
 refine small_dvd h0 h1 g0 g1 (prime_mul hp (a := b) ⟨k - k', ?_⟩ fun z => hb (Int.emod_eq_zero_of_dvd z))
 rw [Int.mul_sub, Int.mul_sub]; omega
theorem sol_range {p b a : Int} (hp : 0 < p) : 0 <= sol p b a /\ sol p b a < p := by
 unfold sol
 split
 ·rename_i h
  obtain ⟨g0, g1, _⟩ := Classical.choose_spec h
  exact ⟨g0, g1⟩
 ·omega
end L2
set_option maxRecDepth 100000
set_option maxHeartbeats 4000000
namespace L2
open PySem PySem.Spec PyProof.Rows
def fAll (es : List Fd) : Bool := es.all fun e => e.1 || scB e.2
section
variable {G : Gx} {ρ : Rh} {Φ : Pd} {t : TA} {te : TE}
theorem IsF.allS {nb : Addr -> Prop} {H : Hp} : ∀ {es : List Fd} {vs : List V} {f : Bool}, IsF G nb H es vs -> (f = true -> fAll es = true) -> IsDs (G.S nb f) H (es.map (·.2)) vs
  | [], _, _, h, _ => by unfold IsF at h; subst h; exact .nil
  | e :: es, _, f, h, hf => by
    obtain ⟨v, ws, rfl, h1, h2⟩ := h
    have hh : f = true -> (e.1 || scB e.2) = true /\ fAll es = true := fun z => by
      have := hf z
      unfold fAll at this
      rw [List.all_cons, Bool.and_eq_true] at this
      exact this
    refine .cons ?_ (h2.allS fun z => (hh z).2)
    cases hs : scB e.2 with
    | true => exact h1.scAny hs
    | false => exact h1.av (S_mono (fun z => by have := (hh z).1; rw [hs, Bool.or_false] at this; exact this) fun _ z => z)
theorem Ev.tupF (h : Av G ρ t fun es => es.length <= 10000 /\ Φ (fAll es) (.tuple (es.map (·.2)))) : Ev G ρ (tTup t) Φ := fun nb σ H Q W z =>
 h nb σ H _ W fun es vs H1 ⟨hl, p⟩ s1 q1 => ⟨Nat.le_trans (by rw [q1.len]; exact hl) (by decide), fun a ha => z _ _ _ _ p (s1.trans (.same (W.step s1).bag (same_new ha)))
  (.tup ((W.step s1).fresh ha) upd_same ((q1.allS fun z => z).keep (But.of (same_new ha))))⟩
end
def rIsNotB : R2 := fun x y H Q => ∃ a b : Bool, x = .bl a /\ y = .bl b /\ Q (.bl (!(a == b))) H
theorem Ev.isNotB {G : Gx} {ρ : Rh} {ta : TE} {b : Bool} {Φ : Pd} (h : Ev G ρ ta fun _ x => ∃ a, x = .bool a /\ Φ true (.bool (!(a == b)))) : Ev G ρ (tOp rIsNotB ta (tC (.bl b))) Φ := fun nb σ H Q W z =>
 h nb σ H _ W fun f v H1 d ⟨a, e, q⟩ s1 hv => by
  subst e
  unfold IsD at hv
  subst hv
  exact ⟨a, b, rfl, rfl, z true _ H1 _ q s1 (.bl _)⟩
abbrev rowD (r : List Int) : PyData := .list (r.map .int)
end L2
set_option maxRecDepth 100000
set_option maxHeartbeats 4000000
set_option maxRecDepth 100000
namespace L2
open PySem PySem.Spec PyProof.Rows
section
variable {κ : Type} [DecidableEq κ]
def valV (kvs : List (κ × V)) (k : κ) : Option V := (kvs.find? fun kv => decide (kv.1 = k)).map (·.2)
def putK (kvs : List (κ × V)) (k : κ) (v : V) : List (κ × V) :=
 if (kvs.any fun kv => decide (kv.1 = k)) = true then kvs.map (fun kv => if kv.1 = k then (kv.1, v) else kv) else kvs ++ [(k, v)]
theorem valV_nil {k : κ} : valV ([] : List (κ × V)) k = none := rfl
theorem valV_pos {p : κ × V} {r : List (κ × V)} {k : κ} (e : p.1 = k) : valV (p :: r) k = some p.2 := by simp [valV, List.find?_cons, e]
theorem valV_neg {p : κ × V} {r : List (κ × V)} {k : κ} (e : ¬ p.1 = k) : valV (p :: r) k = valV r k := by simp [valV, List.find?_cons, e]
theorem valV_any (k : κ) : ∀ kvs : List (κ × V), (kvs.any fun kv => decide (kv.1 = k)) = (valV kvs k).isSome
  | [] => rfl
  | p :: r => by
    rw [List.any_cons]
    by_cases e : p.1 = k
    · simp only [valV_pos e, decide_eq_true e, Bool.true_or, Option.isSome_some]
    · rw [valV_neg e, decide_eq_false e, Bool.false_or]; exact valV_any k r
theorem length_putK (kvs : List (κ × V)) (k : κ) (v : V) : (putK kvs k v).length <= kvs.length + 1 := by
 unfold putK
 split
 ·rw [List.length_map]; omega
 ·rw [List.length_append, List.length_cons, List.length_nil]; omega
theorem putK_new {kvs : List (κ × V)} {k : κ} (v : V) (h : valV kvs k = none) : putK kvs k v = kvs ++ [(k, v)] := by
 unfold putK
 rw [valV_any, h]
 exact if_neg (by decide)
theorem RelO.isSome_eq {o : Option V} {u : Option Value} (r : RelO o u) : o.isSome = u.isSome := by
  cases o with
  | none => cases u with
    | none => rfl
    | some _ => exact (show False from r).elim
  | some _ => cases u with
    | none => exact (show False from r).elim
    | some _ => rfl
theorem RelO.getD {o : Option V} {u : Option Value} {d : V} {d' : Value} (r : RelO o u) (rd : RelV d d') : RelV (o.getD d) (u.getD d') := by
  cases o with
  | none => cases u with
    | none => exact rd
    | some _ => exact (show False from r).elim
  | some _ => cases u with
    | none => exact (show False from r).elim
    | some _ => exact r
theorem KV.val {kvs : List (κ × V)} {vs : List (κ × Value)} (r : KV kvs vs) (k : κ) : RelO (valV kvs k) (valueAt vs k) := by
  unfold KV at r
  induction r with
  | nil => exact True.intro
  | @cons p q ps qs h t ih =>
    obtain ⟨h1, h2⟩ := h
    by_cases e : p.1 = k
    · have e' : q.1 = k := h1.symm.trans e
      have b : valueAt (q :: qs) k = some q.2 := by simp [valueAt, List.find?_cons, e']
      rw [valV_pos e, b]; exact h2
    · have e' : ¬ q.1 = k := fun z => e (h1.trans z)
      have b : valueAt (q :: qs) k = valueAt qs k := by simp [valueAt, List.find?_cons, e']
      rw [valV_neg e, b]; exact ih
theorem KV.any {kvs : List (κ × V)} {vs : List (κ × Value)} (r : KV kvs vs) (k : κ) : (kvs.any fun kv => decide (kv.1 = k)) = vs.any fun kv => decide (kv.1 = k) := by
 unfold KV at r
 induction r with
 | nil => rfl
 | cons h t ih => rw [List.any_cons, List.any_cons, ih, h.1]
theorem KV.repl {kvs : List (κ × V)} {vs : List (κ × Value)} (r : KV kvs vs) (k : κ) {y : V} {u : Value} (ry : RelV y u) :
    KV (kvs.map fun kv => if kv.1 = k then (kv.1, y) else kv) (vs.map fun kv => if kv.1 = k then (kv.1, u) else kv) := by
  unfold KV at r ⊢
  induction r with
  | nil => exact .nil
  | @cons p q ps qs h t ih =>
    rw [List.map_cons, List.map_cons]
    refine .cons ?_ ih
    obtain ⟨h1, h2⟩ := h
    by_cases e : p.1 = k
    · rw [if_pos e, if_pos (h1.symm.trans e)]; exact ⟨h1, ry⟩
    · rw [if_neg e, if_neg (fun z => e (h1.trans z))]; exact ⟨h1, h2⟩
theorem KV.put {kvs : List (κ × V)} {vs : List (κ × Value)} (r : KV kvs vs) (k : κ) {y : V} {u : Value} (ry : RelV y u) : KV (putK kvs k y) (stored vs k u) := by
 unfold putK stored
 rw [r.any k]
 by_cases e : (vs.any fun kv => decide (kv.1 = k)) = true
 ·rw [if_pos e, if_pos e]; exact r.repl k ry
 ·rw [if_neg e, if_neg e]; exact Paired.snoc r ⟨rfl, ry⟩
theorem KV.keys {kvs : List (κ × V)} {vs : List (κ × Value)} (r : KV kvs vs) : kvs.map (·.1) = vs.map (·.1) := by
 unfold KV at r
 induction r with
 | nil => rfl
 | cons h t ih => rw [List.map_cons, List.map_cons, ih, h.1]
theorem KV.length {kvs : List (κ × V)} {vs : List (κ × Value)} (r : KV kvs vs) : kvs.length = vs.length := Paired.length r
end
theorem kV_is {P : Program} {w : World} {k : Key} {u : Value} (r : RelV (kV k) u) : (mixKind P w).is k u = true := by
 cases k with
 | inl i => obtain ⟨t, e⟩ := (show ∃ t, u = Value.int i t from r); subst e; exact mixKind_int P w i t
 | inr x => obtain ⟨t, e⟩ := (show ∃ t, u = Value.str x t from r); subst e; exact mixKind_str P w x t
theorem items_are {P : Program} {w : World} : ∀ {ks : List Key} {us : List Value}, Vals (ks.map kV) us -> ItemsAre (mixKind P w) ks us
  | [], _, r => by rw [List.map_nil] at r; cases r; exact .nil
  | k :: ks, _, r => by
    rw [List.map_cons] at r
    cases r with
    | cons h t => exact .cons (kV_is h) (items_are t)
abbrev KT (H : Hp) : List (List Key × V) -> List (List Key × Addr × Value) -> Prop := Paired fun p q => p.1 = q.1 /\ H q.2.1 = some (.tup (p.1.map kV)) /\ RelV p.2 q.2.2
theorem KT.val {H : Hp} {kvs : List (List Key × V)} {xs : List (List Key × Addr × Value)} (r : KT H kvs xs) (k : List Key) : RelO (valV kvs k) ((atKey xs k).map (·.2)) := by
  induction r with
  | nil => exact True.intro
  | @cons p q ps qs h t ih =>
    obtain ⟨h1, _, h2⟩ := h
    by_cases e : p.1 = k
    · have e' : q.1 = k := h1.symm.trans e
      have b : atKey (q :: qs) k = some q.2 := by simp [atKey, List.find?_cons, e']
      rw [valV_pos e, b]; exact h2
    · have e' : ¬ q.1 = k := fun z => e (h1.trans z)
      have b : atKey (q :: qs) k = atKey qs k := by simp [atKey, List.find?_cons, e']
      rw [valV_neg e, b]; exact ih
section
variable {P : Program} {w : World} {H : Hp} {h : Heap} {a : Addr}
theorem rd_of {u : HO} (ok : HOk P w H h) (e : Rd H a u) : ObjOk P w H h a u := e.ok ok
theorem dk_rd {kvs : List (Key × V)} (ok : HOk P w H h) (e : Rd H a (.dK kvs)) : kvs.length <= sizeLine /\ (a == sysModules) = false /\ ∃ vs, KV kvs vs /\ h.DictOf (mixKind P w) a vs :=
 show ObjOk P w H h a (.dK kvs) from rd_of ok e
theorem dk_of {kvs : List (Key × V)} (ok : HOk P w H h) (e : H a = some (.dK kvs)) : kvs.length <= sizeLine /\ (a == sysModules) = false /\ ∃ vs, KV kvs vs /\ h.DictOf (mixKind P w) a vs := dk_rd ok (.inl e)
theorem key_of {ks : List Key} (ok : HOk P w H h) (e : H a = some (.tup (ks.map kV))) : (tupleKind (mixKind P w)).is h ks a := by
 obtain ⟨_, its, r, o, h1, h2, n, h3⟩ := (show ObjOk P w H h a (.tup (ks.map kV)) from ok a _ e)
 exact ⟨o, its.toArray, n, h1, h2, h3, by simpa using items_are r⟩
theorem dt_rd {kvs : List (List Key × V)} (ok : HOk P w H h) (e : Rd H a (.dT kvs)) : kvs.length <= sizeLine /\ (a == sysModules) = false /\
    ∃ xs, KT H kvs xs /\ h.DictOfH (tupleKind (mixKind P w)) a xs := by
  obtain ⟨z, y, xs, r, o, es, ep, h1, h2, h3, h4, h5⟩ := (show ObjOk P w H h a (.dT kvs) from rd_of ok e)
  refine ⟨z, y, xs, r, o, es, ep, h1, h2, h3, h4, fun x hx => ?_, h5⟩
  have all : ∀ {l : List (List Key × V)} {m : List (List Key × Addr × Value)}, KT H l m -> ∀ x ∈ m, (tupleKind (mixKind P w)).is h x.1 x.2.1 := by
    intro l m q
    induction q with
    | nil => intro x hx; exact nomatch hx
    | @cons p q ps qs hq t ih =>
      intro x hx
      rcases List.mem_cons.mp hx with e | hx
      · subst e
        exact key_of ok (by rw [<- hq.1]; exact hq.2.1)
      · exact ih x hx
  exact all r x hx
end
def DGet (H : Hp) (a : Addr) (y : V) (r : Option V) : Prop :=
 (∃ kvs k, Rd H a (.dK kvs) /\ y = kV k /\ r = valV kvs k) \/ ∃ kvs k b, Rd H a (.dT kvs) /\ y = .ref b /\ H b = some (.tup (k.map kV)) /\ r = valV kvs k
section
variable {X : Cx} {pins : List (Addr × Obj)} {σ : St} {H : Hp} {s : Shared} {a : Addr} {y v : V} {u r : Value} {o : Option V} {A : Around} {E : Value -> Shared -> Prop}
theorem Inv.big (I : Inv X pins σ H s) : sysModules < s.heap.objs.size := by
 have h : mainGlobals < s.heap.objs.size := (I.mod.glob.keeps I.bk).lt
 exact Nat.lt_trans (by decide) h
theorem d_in {Q : Value -> Shared -> Prop} (hu : A.units + 1 < cLine) (I : Inv X pins σ H s) (g : DGet H a y o) (ry : RelV y u) (h : ∀ s', Inv X pins σ H s' -> Q (.bool o.isSome) s') :
  wpAny (model X.prog X.w) A (compareOp .In u (.ref a)) Q E s := by
 rcases g with ⟨kvs, k, e, ey, l⟩ | ⟨kvs, k, b, e, ey, eb, l⟩
 ·subst ey
  obtain ⟨z, hd, vs, rel, dd⟩ := dk_rd I.hok e
  refine wpAny_in_of (kV_is ry) hd dd.mapOf ?_
  rw [<- (rel.val k).isSome_eq, <- l]
  exact h _ (I.tok _)
 ·subst ey
  cases (show u = Value.ref b from ry)
  obtain ⟨z, hd, xs, rel, dd⟩ := dt_rd I.hok e
  refine wpAny_in_heap (tupleKind_room_in1 hu) (key_of I.hok eb) hd dd ?_
  have q := (rel.val k).isSome_eq
  rw [Option.isSome_map] at q
  rw [<- q, <- l]
  exact h _ (I.tok _)
theorem d_write {h' : Heap} {t' : Nat} {ob : HO} (I : Inv X pins σ H s) (mu : Mut (H a)) (hs : Heap.SameBut a s.heap h') (he : ∃ q, h'.get? a = some q) (new : ObjOk X.prog X.w (upd H a ob) h' a ob) :
  Inv X pins σ (upd H a ob) { s with heap := h', toks := t' } :=
 I.write (x := a) (e := a) mu (.inl rfl) (fun b q hb z => (hs.2 b hb).trans z) he new
theorem dk_new {P : Program} {w : World} {H' : Hp} {h' : Heap} {kvs : List (Key × V)} {vs : List (Key × Value)} (z : kvs.length <= sizeLine) (hd : (a == sysModules) = false) (rel : KV kvs vs) (dd : h'.DictOf (mixKind P w) a vs) :
  ObjOk P w H' h' a (.dK kvs) := ⟨z, hd, vs, rel, dd⟩
end
theorem dk_empty {P : Program} {w : World} {H : Hp} (h : Heap) (hb : sysModules < h.objs.size) : ObjOk P w H (h.push { cls := .type "dict", data := .dict #[] }) h.objs.size (.dK []) :=
 ⟨Nat.zero_le _, beq_eq_false_iff_ne.mpr (Ne.symm (Nat.ne_of_lt hb)), [], .nil, Heap.DictOf.new h⟩
def tDNewK : TE := fun _ H Q => ∀ p, H p = none -> Q (.ref p) (upd H p (.dK []))
section
variable {X : Cx} {pos : Pos}
theorem pe_dnewK : PE X (.Dict [] [] pos) tDNewK := fun pins s σ H Q I h =>
 wpAny_Dict_empty ⟨.ref s.heap.objs.size, _, I.laid (a := s.heap.objs.size) (o := .dK []) (t' := s.toks) (fun _ _ q => Heap.get?_push_of_some _ q) (Nat.le_refl _) (dk_empty s.heap I.big), rfl, h _ (I.hok.fresh (Nat.le_refl _))⟩
end
def mergeK (kvs more : List (Key × V)) : List (Key × V) := more.foldl (fun acc kv => putK acc kv.1 kv.2) kvs
theorem KV.merge : ∀ {more : List (Key × V)} {rs : List (Key × Value)} {kvs : List (Key × V)} {vs : List (Key × Value)}, KV more rs -> KV kvs vs -> KV (mergeK kvs more) (merged vs rs) := by
  intro more rs kvs vs r
  unfold KV at r
  induction r generalizing kvs vs with
  | nil => intro q; exact q
  | @cons p q ps qs h t ih =>
    intro r0
    have e : KV (putK kvs p.1 p.2) (stored vs q.1 q.2) := by
      have := r0.put p.1 h.2
      rw [<- h.1]; exact this
    exact ih e
theorem length_mergeK : ∀ (more kvs : List (Key × V)), (mergeK kvs more).length <= kvs.length + more.length
  | [], kvs => by show kvs.length <= kvs.length + 0; omega
  | p :: r, kvs => by
    have h1 := length_mergeK r (putK kvs p.1 p.2)
    have h2 := length_putK kvs p.1 p.2
    show (mergeK (putK kvs p.1 p.2) r).length <= _
    rw [List.length_cons]; omega
end L2
/- THE LAST THEOREM (shape; LID, My.* are yours):
   My.Adr: a structure of the addresses that your layer names (classes, functions); My.Txt K t: a structure (Prop) of the equations over K;
   My.txt_mk : {K} {implicit addresses ..} (e1 : nsIn K mainGlobals "law" = some (some (.ref f))) (e2 : K.lookup f = some ⟨oc, od, .func (fnOf "law" "law" params body scope dV kV doc pm an cdv ct), sl⟩) (e3 : codeIn K cdv "law" = true) .. : ∃ t, My.Txt K t
set_option maxRecDepth 100000 in
set_option maxHeartbeats 0 in
(the tactic k_is has no namespace: write k_is) -/
set_option maxRecDepth 100000
set_option maxHeartbeats 4000000
namespace L2
open PySem PySem.Spec PyProof.Rows
section
variable {prog : Program} {w : World} {A : Around} {E : Value -> Shared -> Prop} {s : Shared}
theorem collect_kdl {T : String} {r d : Addr} {n : Nat} {P : Nat -> Value -> Prop} {OK : Heap -> Prop} {Q : List Value -> Shared -> Prop} (K : PySem.W.KdlSrc prog w T r d n P OK) (hh : A.handled = none) (hok : OK s.heap) (hn : n <= sizeLine)
  (hQ : ∀ h' tk' items, (∀ b o, s.heap.get? b = some o -> h'.get? b = some o) -> s.heap.objs.size <= h'.objs.size -> items.length = n -> (∀ (i : Nat) v, items[i]? = some v -> P i v) -> Q items { s with heap := h', toks := tk' }) : wpAny (model prog w) A (collect (.ref r)) Q E s := by
 obtain ⟨lr, ld⟩ := K.there _ hok
 unfold collect
 refine wpAny_bind (wpAny_runValue (codeAny_builtin PySem.F.entry_proto_collect ?_))
 rw [Around.under_plainId PySem.F.plain_proto_collect _]
 show wpAny _ A.in1 (newList [] >>= fun l => again (.builtin "list.__iadd__" ⟨[l, .ref r], []⟩)) _ _ s
 refine wpAny_bind (wpAny_newObj_type ?_)
 refine wpAny_pure ⟨plainId_quiet PySem.F.plain_list_iadd _, codeAny_builtin PySem.F.entry_list_iadd ?_⟩
 rw [Around.under_plainId PySem.F.plain_list_iadd _]
 have gL : (s.heap.push ({ cls := .type "list", data := .seq ([] : List Value).toArray } : Obj)).get? s.heap.objs.size = some { cls := .type "list", data := .seq ([] : List Value).toArray } := Heap.get?_push_size _ rfl
 show wpAny _ A.in1 (Builtin.List.listExtendWith (.ref s.heap.objs.size) (.ref r) (.ref s.heap.objs.size)) _ _ { s with heap := s.heap.push ({ cls := .type "list", data := .seq ([] : List Value).toArray } : Obj) }
 refine PySem.W.kdl_extend (A := A) (R := fun r s' => match r with
    | .ok (.ret v) => wpAny (model prog w) A (match v with | .ref x => (do match (<- load x).data with | .seq xs _ => pure xs.toList | _ => unsupported "internal:collect") | _ => unsupported "internal:collect") Q E s'
    | .ok _ => False
    | .error e => E e s') (s := { s with heap := s.heap.push ({ cls := .type "list", data := .seq ([] : List Value).toArray } : Obj) }) K hh (K.keep _ _ hok fun b _ o e => Heap.get?_push_of_some _ e) s.heap.objs.size (Nat.ne_of_gt lr) (Nat.ne_of_gt ld) _ _ gL (fun h' tk acc' c' hk hS hacc => ?_) hn
 refine wpAny_bind (wpAny_load hS (wpAny_pure ?_))
 refine hQ h' tk acc'.toList (fun b o e => hk b o (Nat.ne_of_lt (Heap.lt_size e)) (Heap.get?_push_of_some _ e)) (Nat.le_of_lt (Heap.lt_size hS)) (by rw [Array.length_toList]; exact hacc.1) fun i v e => hacc.2 i v (by rw [<- Array.getElem?_toList]; exact e)
theorem sorted_dictI {a : Addr} {vs : List (Key × Value)} {ms : List Int} {Q : Value -> Shared -> Prop} (hh : A.handled = none) (lo : (a == sysModules) = false) (hd : s.heap.DictOf (mixKind prog w) a vs) (hk : vs.map (·.1) = ms.map Sum.inl) (h64 : ms.length < 64)
    (h : ∀ h' tk' (l : Addr) (out : List Value) (ns : List Int) (e : Nat), (∀ b o, s.heap.get? b = some o -> h'.get? b = some o) -> s.heap.objs.size <= l -> h'.get? l = some (seqObj "list" out.toArray e) -> IntsAre out ns -> ns.Pairwise (· <= ·) -> ns.Perm ms ->
      Q (.ref l) { s with heap := h', toks := tk' }) : wpAny (model prog w) A (call (.builtin "sorted") [.ref a]) Q E s := by
  obtain ⟨ep, hat⟩ := hd.dictAt
  have hvl : vs.length = ms.length := by have := congrArg List.length hk; simpa using this
  refine Calls.call_function_entry kind_sorted plain_sorted entry_sorted (args_sorted1 _) ?_
  unfold Builtin.«sorted»
  refine wpAny_bind (m := checkCount "sorted" 1 1 _) (wpAny_pure (wpAny_bind ?_))
  refine collect_kdl (A := A.in1) (PySem.W.kdl_dict lo) hh hat (by rw [hvl]; exact Nat.le_trans (Nat.le_of_lt h64) (by decide)) fun h1 tk1 items k1 k2 hil hit => ?_
  have hI : IntsAre items ms := by
    have key : ∀ (its : List Value) (us : List (Key × Value)) (ms : List Int), us.map (·.1) = ms.map Sum.inl -> its.length = us.length -> (∀ (i : Nat) v, its[i]? = some v -> ∃ k x, us[i]? = some (k, x) /\ (mixKind prog w).is k v = true) -> IntsAre its ms := by
      intro its
      induction its with
      | nil =>
        intro us ms e l _
        cases us with
        | nil => cases ms with
          | nil => exact .nil
          | cons _ _ => cases e
        | cons _ _ => cases l
      | cons v its ih =>
        intro us ms e l hp
        cases us with
        | nil => cases l
        | cons u us => cases ms with
          | nil => cases e
          | cons m ms =>
            have e1 : u.1 = Sum.inl m := by injection e
            have e2 : us.map (·.1) = ms.map Sum.inl := by injection e
            obtain ⟨k, x, q1, q2⟩ := hp 0 v rfl
            have q1 : u = (k, x) := by simpa using q1
            subst q1
            have e1 : k = Sum.inl m := e1
            subst e1
            obtain ⟨t, rfl⟩ := Value.isInt_shape (k := m) (v := v) q2
            exact .cons m t (ih us ms e2 (by simpa using l) fun i v q => by simpa using hp (i + 1) v (by simpa using q))
    exact key items vs ms hk hil hit
  have hlen : items.length = ms.length := by rw [hil, hvl]
  refine wpAny_bind (wpAny_newList ?_)
  have gL : (h1.push (seqObj "list" items.toArray 0)).get? h1.objs.size = some (seqObj "list" items.toArray 0) := Heap.get?_push_size _ rfl
  refine wpAny_bind (wpAny_holding (wpAny_call_entry slot_list_sort ⟨_, gL, rfl⟩ entry_list_sort (list_sort_tree gL hI (by omega) fun out ns' a1 a2 a3 => ⟨_, rfl, ?_⟩) (args_list_sort _)))
  obtain ⟨e, he⟩ := sortedHeap_at (out := out) gL
  refine wpAny_pure ⟨_, rfl, h _ tk1 h1.objs.size out.toList ns' e (fun b o q => ?_) k2 (by simpa using he) a1 a3 a2⟩
  have lb := Heap.lt_size (k1 b o q)
  rw [sortedHeap_old (Nat.ne_of_lt lb) (by rw [Heap.size_push]; exact Nat.lt_succ_of_lt lb)]
  exact Heap.get?_push_of_some _ (k1 b o q)
end
def rSortedD : List V -> Hp -> VK -> Prop := fun xs H Q => ∃ a, ∃ kvs : List (Key × V), ∃ ms : List Int, xs = [.ref a] /\ Rd H a (.dK kvs) /\ kvs.map (·.1) = ms.map Sum.inl /\ ms.length < 64 /\
 ∀ l (rs : List Int), H l = none -> rs.Pairwise (· <= ·) -> rs.Perm ms -> Q (.ref l) (upd H l (.lst (rs.map V.int)))
theorem call_sortD {X : Cx} (hc : X.calm = true) : CallR X (.builtin "sorted") rSortedD := by
 intro pins s σ H xs us Q I rv h
 obtain ⟨a, kvs, ms, rfl, hH, hk, h64, q⟩ := h
 obtain ⟨u, rfl, ru⟩ := vals1 rv
 cases ru
 obtain ⟨z, hd, vs, rel, dd⟩ := dk_rd I.hok hH
 refine sorted_dictI (I.ok.hd hc) hd dd (by rw [<- rel.keys]; exact hk) h64 fun h' tk' l out ns e kp hl gl hI pw pp => ?_
 have new : ObjOk X.prog X.w (upd H l (.lst (ns.map V.int))) h' l (.lst (ns.map V.int)) := by
  refine ⟨?_, out, e, ints_vals hI, gl⟩
  rw [List.length_map, pp.length_eq]; exact Nat.le_trans (Nat.le_of_lt h64) (by decide)
 exact ⟨.ref l, _, I.laid (t' := tk') kp hl new, rfl, q _ _ (I.hok.fresh hl) pw pp⟩
section
variable {X : Cx}
def rIxD : R2 := fun x y H Q => ∃ a kvs k v, x = .ref a /\ y = kV k /\ Rd H a (.dK kvs) /\ valV kvs k = some v /\ Q v H
theorem ix_dict : IxR X rIxD := by
 intro value slice pins s σ H x y v u Q I rx ry h hs
 obtain ⟨a, kvs, k, z, rfl, rfl, hH, hv, q⟩ := h
 cases rx
 obtain ⟨hz, hd, vs, rel, dd⟩ := dk_rd I.hok hH
 have hT := dd.typeIs (s := s)
 obtain ⟨w', hw, rw'⟩ := RelO.some_of (v := z) (o := valueAt vs k) (by rw [<- hv]; exact rel.val k)
 unfold subscriptTail
 refine wpAny_bind ?_
 rw [getitemInPython_of_ne hT.not_modules]
 refine wpAny_bind (wpAny_specialOf hT PySem.F.slot_dict_getitem.lookup ?_)
 have fin : wpAny (model X.prog X.w) X.A (subscripted slice false (.ref a) u) (fun r s₃ => wpAny (model X.prog X.w) X.A (letTemporaryGo value (.ref a) r >>= fun _ => pure r) (EP X pins σ Q) X.xe s₃) X.xe s := by
  rw [hs]
  refine wpAny_operating (wpAny_getItem_of (kV_is ry) dd.mapOf hw ?_)
  exact wpAny_bind (wpAny_letTemporaryGo (wpAny_pure ⟨z, H, I.tok _, rw', q⟩))
 first
  | exact wpAny_pure (wpAny_bind fin)
  | exact wpAny_bind (wpAny_pure (wpAny_bind fin))
  | exact wpAny_bind fin
def rPutD : V -> V -> V -> Hp -> (Hp -> Prop) -> Prop := fun o i v H Q => ∃ a kvs k, o = .ref a /\ i = kV k /\ H a = some (.dK kvs) /\ kvs.length < sizeLine /\ Q (upd H a (.dK (putK kvs k v)))
theorem set_dict : PSet X rPutD := by
 intro pins s σ H o i v ov iv u Q I ro ri rv h
 obtain ⟨a, kvs, k, rfl, rfl, hH, hl0, q⟩ := h
 cases ro
 obtain ⟨z, hd, vs, rel, dd⟩ := dk_of I.hok hH
 have hz : vs.length <= sizeLine := by rw [<- rel.length]; exact z
 have hl : (putK kvs k v).length <= sizeLine := by have := length_putK kvs k v; omega
 refine wpAny_setItem_pairs (hsz := hz) (kV_is ri) dd fun h' dd' hs => ?_
 have he : ∃ q, h'.get? a = some q := let ⟨q, _, _, hq, _⟩ := dd'; ⟨q, hq⟩
 exact ⟨_, d_write I (by rw [hH]; exact True.intro) hs he (dk_new hl hd (rel.put k rv) dd'), q⟩
def rGetD2 : V -> List V -> Hp -> VK -> Prop := fun x vs H Q => ∃ a kvs k d, x = .ref a /\ vs = [kV k, d] /\ Rd H a (.dK kvs) /\ Q ((valV kvs k).getD d) H
theorem mt_get2 : MtR X "dict.get" rGetD2 := by
  intro pins s σ H x xs v us Q I rx rv h
  obtain ⟨a, kvs, k, d, rfl, rfl, hH, q⟩ := h
  cases rx
  cases rv with
  | cons r1 r2 =>
    obtain ⟨r, rfl, rd⟩ := vals1 r2
    obtain ⟨z, hd, vs, rel, dd⟩ := dk_rd I.hok hH
    refine call_meetsIn PySem.F.slot_dict_get dd.typeIs PySem.F.entry_dict_get (PySem.F.args_dict_get_3 _ _ _) (meets_dict_get_default (mixKind X.prog X.w) a (kV_is r1) hd r) ⟨_, dd.mapOf, ?_⟩
    exact ⟨_, H, I.tok _, (rel.val k).getD rd, q⟩
end
end L2
set_option maxRecDepth 100000
set_option maxHeartbeats 4000000
namespace L2
open PySem PySem.Spec PyProof.Rows
theorem lk_list_keys : typeLookup (.type "list") "keys" = pure none := by rw [typeLookup_type, builtinLookup_eq_fast]; kernel_rfl
theorem lk_list_getattr : typeLookup (.type "list") "__getattr__" = pure none := by rw [typeLookup_type, builtinLookup_eq_fast]; kernel_rfl
section
variable {prog : Program} {w : World} {A : Around} {E : Value -> Shared -> Prop} {h : Heap} {g : Array GenState} {d : Drawn} {t : Nat} {os : OsState} {a : Addr} {o : Obj}
theorem keys_entry_list {tk : Tok} {Q : Fin -> Shared -> Prop} {xs : Array Value} {n : Nat} (hh : A.handled = none) (hx : h.get? a = some (seqObj "list" xs n))
  (hq : ∀ h' tk e, Heap.NewAttrErr h h' e (.ref a) "keys" -> E (.ref e) ⟨h', g, d, tk, os⟩) :
  wpAny (model prog w) A (Builtin.«object.__getattribute__» ⟨[.ref a, .str "keys" tk], []⟩) Q E ⟨h, g, d, t, os⟩ := by
 have hT : (⟨h, g, d, t, os⟩ : Shared).TypeIs (.ref a) "list" := ⟨_, hx, rfl⟩
 have f4 := lk_list_keys
 unfold Builtin.«object.__getattribute__»
 repeat (any_goals (first | assumption | wp_step))
 exact wpAny_raiseAttrError hh hq (attrMsg_fits (by decide +kernel) (by size_fits))
theorem keys_call_list {tk : Tok} {R : Result -> Shared -> Prop} {xs : Array Value} {n : Nat} (hh : A.handled = none) (hx : h.get? a = some (seqObj "list" xs n)) (hq : ∀ h' tk e, Heap.NewAttrErr h h' e (.ref a) "keys" -> R (.error (.ref e)) ⟨h', g, d, tk, os⟩) :
  codeAny (model prog w) A (.call (.builtin "list.__getattribute__") ⟨[.ref a, .str "keys" tk], []⟩) R ⟨h, g, d, t, os⟩ :=
 codeAny_call_builtin PySem.F.slot_list_getattribute.plain PySem.F.entry_list_ga (PySem.F.slot_list_getattribute.check _ _ _ _ _ _ _ _ (show (⟨h, g, d, t, os⟩ : Shared).TypeIs (.ref a) "list" from ⟨_, hx, rfl⟩) (PySem.F.args_list_getattribute_2 _ _) (keys_entry_list (by exact hh) hx hq))
theorem no_keys_list {Q : Option Value -> Shared -> Prop} {xs : Array Value} {n : Nat} (hh : A.handled = none) (hx : h.get? a = some (seqObj "list" xs n))
  (hq : ∀ h' tk, (∀ b ob, h.get? b = some ob -> h'.get? b = some ob) -> Q none ⟨h', g, d, tk, os⟩) : wpAny (model prog w) A (getAttr? (.ref a) "keys") Q E ⟨h, g, d, t, os⟩ := by
 have hT : (⟨h, g, d, t, os⟩ : Shared).TypeIs (.ref a) "list" := ⟨_, hx, rfl⟩
 have f1 := sub_AttributeError
 have f2 := PySem.F.slot_list_getattribute.lookup
 have f3 := PySem.F.slot_list_getattribute.bind (.ref a)
 have f5 := lk_list_getattr
 unfold getAttr? getAttrBy? getAttrBy
 repeat (any_goals (first | assumption | wp_step))
 refine keys_call_list hh hx fun h' tk e hx' => ?_
 obtain ⟨t', u', he⟩ := hx'.there
 unfold getattributeRaised
 repeat (any_goals (first | assumption | wp_step))
 exact hq _ _ hx'.keeps
end
end L2
set_option maxRecDepth 100000
set_option maxHeartbeats 4000000
namespace L2
open PySem PySem.Spec PyProof.Rows
theorem entry_dict_loop : entryFor table "dict.update.loop" = some Builtin.«dict.update.loop» := entryFor_of_tree (by kernel_rfl)
theorem plain_dict_loop : plainId "dict.update.loop" = true := by decide +kernel
def KvAt (P : Program) (w : World) (h : Heap) (v : Value) (p : Key × Value) : Prop := ∃ a o m ku, v = .ref a /\ h.get? a = some o /\ o.cls = .type "tuple" /\ o.data = .seq #[ku, p.2] m /\ (mixKind P w).is p.1 ku = true
section
variable {prog : Program} {w : World} {A : Around} {E : Value -> Shared -> Prop} {s : Shared}
theorem dict_loop {R : Result -> Shared -> Prop} {d it l : Addr} {its : List Value} {ps : List (Key × Value)} (hh : A.in1.handled = none) (hdl : d ≠ l) (hdi : d ≠ it) (hil : l ≠ it) (hlen : its.length = ps.length) (hsz : its.length <= 10000) :
    ∀ (k i : Nat) (s : Shared) (t : Tok), its.length - i = k -> i <= its.length -> s.heap.IsListIter it l i -> s.heap.IsList l its.toArray -> (∀ (j : Nat) (v : Value) (p : Key × Value), its[j]? = some v -> ps[j]? = some p -> KvAt prog w s.heap v p) -> (∀ (j : Nat) (v : Value), its[j]? = some v -> v ≠ Value.ref d /\ v ≠ Value.ref it) ->
      s.heap.DictOf (mixKind prog w) d (merged [] (ps.take i)) -> (merged [] (ps.take i)).length <= i ->
      (∀ h' tk, (∀ b o, b ≠ d -> b ≠ it -> s.heap.get? b = some o -> h'.get? b = some o) -> h'.DictOf (mixKind prog w) d (merged [] ps) -> R (.ok (.ret .none)) { s with heap := h', toks := tk }) ->
      codeAny (model prog w) A (.builtin "dict.update.loop" ⟨[.ref d, .ref it, .int i t, .none], []⟩) R s := by
  intro k
  induction k with
  | zero =>
    intro i s t hk hi hit hl hp hne hD hDl hR
    have hin : i = its.length := by omega
    subst hin
    refine codeAny_builtin entry_dict_loop ?_
    rw [Around.under_plainId plain_dict_loop _]
    show wpAny _ A.in1 (pyNext (.ref it) >>= _) _ _ s
    refine wpAny_bind (wpAny_pyNext_list_end hh hit hl (by simp) fun h' he => ?_)
    show wpAny _ A.in1 (ret Value.none) _ _ _
    rw [hlen, List.take_length] at hD
    exact wpAny_pure (hR h' s.toks (fun b o _ n e => he b o n e) (hD.extBut he hdi))
  | succ k ih =>
    intro i s t hk hi hit hl hp hne hD hDl hR
    have hlt : i < its.length := by omega
    obtain ⟨v, hv⟩ : ∃ v, its[i]? = some v := ⟨_, List.getElem?_eq_getElem hlt⟩
    obtain ⟨p, hpp⟩ : ∃ p, ps[i]? = some p := ⟨_, List.getElem?_eq_getElem (by omega)⟩
    obtain ⟨hn1, hn2⟩ := hne i v hv
    obtain ⟨a, o, m, ku, rfl, g1, g2, g3, g4⟩ := hp i v p hv hpp
    have had : a ≠ d := fun z => hn1 (by rw [z])
    have hai : a ≠ it := fun z => hn2 (by rw [z])
    refine codeAny_builtin entry_dict_loop ?_
    rw [Around.under_plainId plain_dict_loop _]
    show wpAny _ A.in1 (pyNext (.ref it) >>= _) _ _ s
    refine wpAny_bind (wpAny_pyNext_list_item hit hl (x := .ref a) (by simpa using hv) fun h1 hit1 sb1 => ?_)
    have g1' : h1.get? a = some o := (sb1.2 a hai).trans g1
    have hT : (⟨h1, s.gens, s.drawn, s.toks, s.os⟩ : Shared).TypeIs (.ref a) "tuple" := ⟨o, g1', g2⟩
    show wpAny _ A.in1 (holding [Value.ref a] _ >>= _) _ _ _
    refine wpAny_bind (wpAny_holding (wpAny_bind (wpAny_tryCatch ?_)))
    show wpAny _ A.in1 (Builtin.Dict.pairItems (.ref a)) _ _ _
    unfold Builtin.Dict.pairItems
    refine wpAny_bind (wpAny_typeOf hT ?_)
    rw [if_pos (by decide)]
    refine wpAny_bind (wpAny_seqItems g1' g3 (wpAny_pure ?_))
    show wpAny _ A.in1 (holding [ku, p.2] (dictSet d ku p.2)) _ _ _
    have hD1 : h1.DictOf (mixKind prog w) d (merged [] (ps.take i)) := hD.sameBut sb1 hdi
    refine wpAny_holding (wpAny_dictSet_pairs (s := ⟨h1, s.gens, s.drawn, s.toks, s.os⟩) g4 hD1 (fun h2 hD2 sb2 => ?_) (Nat.le_trans hDl (Nat.le_trans hi (Nat.le_trans hsz (by decide)))))
    have e : stored (merged [] (ps.take i)) p.1 p.2 = merged [] (ps.take (i + 1)) := by rw [take_snoc hpp]; unfold merged; rw [List.foldl_append]; rfl
    rw [e] at hD2
    have kk : ∀ b o, b ≠ d -> b ≠ it -> s.heap.get? b = some o -> h2.get? b = some o := fun b o n1 n2 z => (sb2.2 b n1).trans ((sb1.2 b n2).trans z)
    refine wpAny_pure ⟨plainId_quiet plain_dict_loop _, ih (i + 1) ⟨h2, s.gens, s.drawn, s.toks + 1, s.os⟩ _ (by omega) hlt ?_ ?_ ?_ hne hD2 ?_ fun h' tk k' hD' => ?_⟩
    · exact hit1.at fun o z => (sb2.2 it (Ne.symm hdi)).trans z
    · exact hl.at fun o z => kk l o (Ne.symm hdl) hil z
    · intro j v' p' hv' hp'
      obtain ⟨hn1, hn2⟩ := hne j v' hv'
      obtain ⟨a, o, m, ku, rfl, q1, q2, q3, q4⟩ := hp j v' p' hv' hp'
      exact ⟨a, o, m, ku, rfl, kk a o (fun z => hn1 (by rw [z])) (fun z => hn2 (by rw [z])) q1, q2, q3, q4⟩
    · rw [<- e]
      unfold stored
      split
      · rw [List.length_map]; omega
      · rw [List.length_append, List.length_singleton]; omega
    · exact hR h' tk (fun b o n1 n2 z => k' b o n1 n2 (kk b o n1 n2 z)) hD'
theorem call_dict_list {l : Addr} {its : List Value} {n : Nat} {ps : List (Key × Value)} {Q : Value -> Shared -> Prop} (hh : A.handled = none) (hlo : s.heap.get? l = some (seqObj "list" its.toArray n)) (hlen : its.length = ps.length) (hsz : its.length <= 10000)
  (hp : ∀ (j : Nat) (v : Value) (p : Key × Value), its[j]? = some v -> ps[j]? = some p -> KvAt prog w s.heap v p)
  (h : ∀ h' tk, h'.DictOf (mixKind prog w) s.heap.objs.size (merged [] ps) -> (∀ b o, s.heap.get? b = some o -> h'.get? b = some o) -> Q (.ref s.heap.objs.size) { s with heap := h', toks := tk }) :
  wpAny (model prog w) A (call (.type "dict") [.ref l]) Q E s := by
 refine callType_codes (Q₁ := fun obj s₁ => obj = .ref s.heap.objs.size /\ s₁ = { s with heap := s.heap.push { cls := .type "dict", data := .dict #[] } }) PySem.F.kt_called_dict (PySem.F.kt_typeCall_dict_1 _) PySem.F.entry_dict_init (kt_code_dict_new _ ⟨rfl, rfl⟩) ?_
 rintro obj s₁ ⟨rfl, rfl⟩
 have hnew : (s.heap.push { cls := .type "dict", data := .dict #[] }).DictOf (mixKind prog w) s.heap.objs.size [] := Heap.DictOf.new s.heap
 have hl1 : (s.heap.push { cls := .type "dict", data := .dict #[] }).get? l = some (seqObj "list" its.toArray n) := Heap.get?_push_of_some _ hlo
 have hll : l < s.heap.objs.size := Heap.lt_size hlo
 refine ⟨hnew.typeIs, PySem.F.args_dict_init_2 _ _, ?_⟩
 unfold Builtin.«dict.__init__»
 refine wpAny_bind ?_
 unfold Builtin.Dict.selfAndRest
 refine wpAny_bind (wpAny_notOrdered_dict hnew.typeIs ?_)
 show wpAny _ _ (pure (s.heap.objs.size, [Value.ref l])) _ _ _
 refine wpAny_pure ?_
 show wpAny _ _ (Builtin.Dict.updateFrom "dict.__init__" s.heap.objs.size (.ref l) [] .none) _ _ _
 unfold Builtin.Dict.updateFrom
 refine wpAny_bind (wpAny_typeOf (T := "list") ⟨_, hl1, rfl⟩ ?_)
 rw [if_pos (by decide)]
 refine wpAny_bind (no_keys_list (A := A.in1.in1) hh hl1 fun h1 tk k1 => ?_)
 rw [if_pos (show (none : Option Value).isNone = true from rfl)]
 refine wpAny_bind (wpAny_rule (wpAny_bind ?_))
 have hl2 : h1.get? l = some (seqObj "list" its.toArray n) := k1 _ _ hl1
 have hD1 : h1.DictOf (mixKind prog w) s.heap.objs.size [] := let ⟨o', es, ep, ho, r⟩ := hnew; ⟨o', es, ep, k1 _ _ ho, r⟩
 have hs1 : s.heap.objs.size < h1.objs.size := by obtain ⟨o', es, ep, ho, _⟩ := hD1; exact Heap.lt_size ho
 have L2' : h1.IsList l its.toArray := ⟨_, hl2, rfl, n, rfl⟩
 refine wpAny_pyIter_list L2' ?_
 refine wpAny_pure ⟨plainId_quiet plain_dict_loop _, ?_⟩
 refine dict_loop (A := A.in1) (its := its) (ps := ps) hh (Ne.symm (Nat.ne_of_lt hll)) (Nat.ne_of_lt hs1) (Nat.ne_of_lt (Nat.lt_trans hll hs1)) hlen hsz its.length 0 _ _ (by omega) (Nat.zero_le _) ⟨_, Heap.get?_push_size _ rfl, rfl, rfl⟩ (L2'.push _) ?_ ?_ (hD1.push _) (Nat.le_refl _) fun h' tk' k' hD' => ?_
 ·intro j v p hv hpp
  obtain ⟨a, o, m, ku, rfl, q1, q2, q3, q4⟩ := hp j v p hv hpp
  exact ⟨a, o, m, ku, rfl, Heap.get?_push_of_some _ (k1 _ _ (Heap.get?_push_of_some _ q1)), q2, q3, q4⟩
 ·intro j v hv
  obtain ⟨p, hpp⟩ : ∃ p, ps[j]? = some p := ⟨_, List.getElem?_eq_getElem (by have := (List.getElem?_eq_some_iff.mp hv).1; omega)⟩
  obtain ⟨a, o, m, ku, rfl, q1, _⟩ := hp j v p hv hpp
  have la := Heap.lt_size q1
  refine ⟨fun z => ?_, fun z => ?_⟩
  ·cases z; exact absurd la (Nat.lt_irrefl _)
  ·have z' : a = h1.objs.size := by cases z; rfl
   rw [z'] at la
   exact absurd (Nat.lt_trans la hs1) (Nat.lt_irrefl _)
 ·refine ⟨rfl, h h' tk' hD' fun b o z => ?_⟩
  have lb := Heap.lt_size z
  exact k' b o (Nat.ne_of_lt lb) (Nat.ne_of_lt (Nat.lt_trans lb hs1)) (Heap.get?_push_of_some _ (k1 _ _ (Heap.get?_push_of_some _ z)))
end
def rDictL : List V -> Hp -> VK -> Prop := fun xs H Q => ∃ (l : Addr) (ys : List V) (kvs : List (Key × V)), xs = [.ref l] /\ H l = some (.lst ys) /\ ys.length = kvs.length /\ ys.length <= 10000 /\
 (∀ (j : Nat) (y : V) (p : Key × V), ys[j]? = some y -> kvs[j]? = some p -> ∃ a, y = .ref a /\ H a = some (.tup [kV p.1, p.2])) /\ ∀ d, H d = none -> Q (.ref d) (upd H d (.dK (mergeK [] kvs)))
theorem call_dictL {X : Cx} (hc : X.calm = true) : CallR X (.type "dict") rDictL := by
  intro pins s σ H xs us Q I rv h
  obtain ⟨l, ys, kvs, rfl, hH, hlen, hsz, hy, q⟩ := h
  obtain ⟨u, rfl, ru⟩ := vals1 rv
  cases ru
  obtain ⟨_, its, n, rs, h1⟩ := (show ObjOk X.prog X.w H s.heap l (.lst ys) from I.hok l _ hH)
  have hli := rs.length
  have key : ∃ ps : List (Key × Value), KV kvs ps /\ ∀ (j : Nat) (v : Value) (p : Key × Value), its[j]? = some v -> ps[j]? = some p -> KvAt X.prog X.w s.heap v p := by
    have gen : ∀ (ys : List V) (its : List Value) (kvs : List (Key × V)), Vals ys its -> ys.length = kvs.length -> (∀ (j : Nat) (y : V) (p : Key × V), ys[j]? = some y -> kvs[j]? = some p -> ∃ a, y = .ref a /\ H a = some (.tup [kV p.1, p.2])) -> ∃ ps : List (Key × Value), KV kvs ps /\ ∀ (j : Nat) (v : Value) (p : Key × Value), its[j]? = some v -> ps[j]? = some p -> KvAt X.prog X.w s.heap v p := by
      intro ys
      induction ys with
      | nil =>
        intro its kvs r e _
        cases r
        cases kvs with
        | nil => exact ⟨[], .nil, fun j v p z => by simp at z⟩
        | cons _ _ => cases e
      | cons y ys ih =>
        intro its kvs r e hq
        cases r with
        | cons r1 r2 =>
          cases kvs with
          | nil => cases e
          | cons kv kvs =>
            obtain ⟨ps, g1, g2⟩ := ih _ kvs r2 (by simpa using e) fun j y p a b => hq (j + 1) y p (by simpa using a) (by simpa using b)
            obtain ⟨a, rfl, ha⟩ := hq 0 y kv rfl rfl
            cases r1
            obtain ⟨_, its2, rv2, o, w1, w2, m, w3⟩ := (show ObjOk X.prog X.w H s.heap a (.tup [kV kv.1, kv.2]) from I.hok a _ ha)
            cases rv2 with
            | cons x1 x2 =>
              cases x2 with
              | cons y1 y2 =>
                cases y2
                refine ⟨(kv.1, _) :: ps, .cons ⟨rfl, y1⟩ g1, fun j v p a b => ?_⟩
                cases j with
                | zero =>
                  simp at a b
                  subst a b
                  exact ⟨_, o, m, _, rfl, w1, w2, w3, kV_is x1⟩
                | succ j => exact g2 j v p (by simpa using a) (by simpa using b)
    exact gen ys its kvs rs hlen hy
  obtain ⟨ps, rel, hps⟩ := key
  have hpl := rel.length
  refine call_dict_list (I.ok.hd hc) h1 (by omega) (by omega) hps fun h' tk' hD k => ?_
  have hml := length_mergeK kvs []
  have new : ObjOk X.prog X.w (upd H s.heap.objs.size (.dK (mergeK [] kvs))) h' s.heap.objs.size (.dK (mergeK [] kvs)) := by
    refine dk_new (Nat.le_trans hml (Nat.le_trans (show _ <= 10000 by simp; omega) (by decide))) ?_ (rel.merge .nil) hD
    have hb := I.big
    have : s.heap.objs.size ≠ sysModules := Nat.ne_of_gt hb
    simpa using this
  exact ⟨.ref s.heap.objs.size, _, I.laid (t' := tk') k (Nat.le_refl _) new, rfl, q _ (I.hok.fresh (Nat.le_refl _))⟩
end L2
set_option maxRecDepth 100000
set_option maxHeartbeats 4000000
namespace L2
open PySem PySem.Spec PyProof.Rows
abbrev Ks := List (Int × PyData)
def valI (ks : Ks) (k : Int) : Option PyData := (ks.find? fun p => decide (p.1 = k)).map (·.2)
def hasI (ks : Ks) (k : Int) : Bool := ks.any fun p => decide (p.1 = k)
def putI (ks : Ks) (k : Int) (d : PyData) : Ks := if hasI ks k then ks.map fun p => if p.1 = k then (p.1, d) else p else ks ++ [(k, d)]
theorem valI_has (ks : Ks) (k : Int) : (valI ks k).isSome = hasI ks k := by
  unfold valI hasI
  rw [Option.isSome_map]
  induction ks with
  | nil => rfl
  | cons p r ih =>
    rw [List.find?_cons, List.any_cons]
    by_cases h : p.1 = k
    · simp [h]
    · simp only [h, decide_false, Bool.false_or]; exact ih
theorem hasI_iff {ks : Ks} {k : Int} : hasI ks k = true ↔ k ∈ ks.map (·.1) := by
 unfold hasI
 rw [List.any_eq_true, List.mem_map]
 constructor
 ·rintro ⟨p, h1, h2⟩; exact ⟨p, h1, by simpa using h2⟩
 ·rintro ⟨p, h1, h2⟩; exact ⟨p, h1, by simpa using h2⟩
theorem valI_nil {k : Int} : valI [] k = none := rfl
theorem valI_cons {p : Int × PyData} {r : Ks} {k : Int} : valI (p :: r) k = if p.1 = k then some p.2 else valI r k := by
 unfold valI
 rw [List.find?_cons]
 by_cases h : p.1 = k <;> simp [h]
theorem valI_append {ks : Ks} {k j : Int} {d : PyData} : valI (ks ++ [(k, d)]) j = match valI ks j with | some x => some x | none => if j = k then some d else none := by
  induction ks with
  | nil =>
    rw [List.nil_append, valI_cons, valI_nil]
    by_cases h : k = j
    · subst h; simp
    · have h' : ¬ j = k := fun z => h z.symm
      simp [h, h']
  | cons p r ih =>
    rw [List.cons_append, valI_cons, valI_cons, ih]
    by_cases h : p.1 = j <;> simp [h]
section
variable {S : Addr -> Prop} {H : Hp}
theorem IsKs.val : ∀ {ks : Ks} {ps : List (Key × V)} (k : Int), IsKs S H (ks.map kvD) ps -> match valI ks k with | some d => ∃ v, valV ps (Sum.inl k) = some v /\ IsD S H d v | none => valV ps (Sum.inl k) = none
  | [], ps, k, h => by unfold IsKs at h; subst h; exact valV_nil
  | p :: r, ps, k, h => by
    rw [List.map_cons] at h
    unfold IsKs at h
    obtain ⟨q, qs, rfl, h1, h2⟩ := h
    unfold IsK at h1
    obtain ⟨h3, h4⟩ := h1
    have h3 : q.1 = Sum.inl p.1 := h3
    rw [valI_cons]
    have ih := IsKs.val k h2
    by_cases e : p.1 = k
    · rw [if_pos e]
      refine ⟨q.2, ?_, h4⟩
      rw [valV_pos (by rw [h3, e])]
    · rw [if_neg e, valV_neg (fun z => e (by rw [h3] at z; exact Sum.inl.inj z))]
      exact ih
theorem IsKs.snoc : ∀ {ks : Ks} {ps : List (Key × V)} {k : Int} {d : PyData} {v : V}, IsKs S H (ks.map kvD) ps -> IsD S H d v -> IsKs S H ((ks ++ [(k, d)]).map kvD) (ps ++ [(Sum.inl k, v)])
  | [], ps, k, d, v, h, hd => by
    unfold IsKs at h; subst h
    show IsKs S H [kvD (k, d)] [(Sum.inl k, v)]
    unfold IsKs
    exact ⟨_, _, rfl, by unfold IsK; exact ⟨rfl, hd⟩, by unfold IsKs; rfl⟩
  | p :: r, ps, k, d, v, h, hd => by
    rw [List.map_cons] at h
    unfold IsKs at h
    obtain ⟨q, qs, rfl, h1, h2⟩ := h
    rw [List.cons_append, List.map_cons, List.cons_append]
    unfold IsKs
    exact ⟨q, _, rfl, h1, IsKs.snoc h2 hd⟩
theorem IsKs.repl : ∀ {ks : Ks} {ps : List (Key × V)} {k : Int} {d : PyData} {v : V}, IsKs S H (ks.map kvD) ps -> IsD S H d v -> IsKs S H ((ks.map fun p => if p.1 = k then (p.1, d) else p).map kvD) (ps.map fun kv => if kv.1 = Sum.inl k then (kv.1, v) else kv)
  | [], ps, k, d, v, h, hd => by unfold IsKs at h; subst h; simp only [List.map_nil]; unfold IsKs; rfl
  | p :: r, ps, k, d, v, h, hd => by
    rw [List.map_cons] at h
    unfold IsKs at h
    obtain ⟨q, qs, rfl, h1, h2⟩ := h
    rw [List.map_cons, List.map_cons, List.map_cons]
    unfold IsK at h1
    obtain ⟨h3, h4⟩ := h1
    have h3 : q.1 = Sum.inl p.1 := h3
    unfold IsKs
    refine ⟨_, _, rfl, ?_, IsKs.repl h2 hd⟩
    by_cases e : p.1 = k
    · rw [if_pos e, if_pos (by rw [h3, e])]
      unfold IsK
      exact ⟨h3, hd⟩
    · rw [if_neg e, if_neg (fun z => e (by rw [h3] at z; exact Sum.inl.inj z))]
      unfold IsK
      exact ⟨h3, h4⟩
theorem IsKs.any : ∀ {ks : Ks} {ps : List (Key × V)} (k : Int), IsKs S H (ks.map kvD) ps -> (ps.any fun kv => decide (kv.1 = Sum.inl k)) = hasI ks k := fun {ks ps} k h => by
 rw [valV_any, <- valI_has]
 have := IsKs.val k h
 cases hv : valI ks k with
 | none => rw [hv] at this; rw [this]; rfl
 | some d => rw [hv] at this; obtain ⟨v, e, _⟩ := this; rw [e]; rfl
theorem IsKs.put {ks : Ks} {ps : List (Key × V)} {k : Int} {d : PyData} {v : V} (h : IsKs S H (ks.map kvD) ps) (hd : IsD S H d v) : IsKs S H ((putI ks k d).map kvD) (putK ps (Sum.inl k) v) := by
 unfold putI putK
 rw [IsKs.any k h]
 split
 ·exact IsKs.repl h hd
 ·exact IsKs.snoc h hd
theorem IsKs.len : ∀ {ks : Ks} {ps : List (Key × V)}, IsKs S H (ks.map kvD) ps -> ps.length = ks.length
  | [], ps, h => by unfold IsKs at h; subst h; rfl
  | p :: r, ps, h => by
    rw [List.map_cons] at h
    unfold IsKs at h
    obtain ⟨q, qs, rfl, _, h2⟩ := h
    simp [IsKs.len h2]
theorem IsKs.keys : ∀ {ks : Ks} {ps : List (Key × V)}, IsKs S H (ks.map kvD) ps -> ps.map (·.1) = (ks.map (·.1)).map Sum.inl
  | [], ps, h => by unfold IsKs at h; subst h; rfl
  | p :: r, ps, h => by
    rw [List.map_cons] at h
    unfold IsKs at h
    obtain ⟨q, qs, rfl, h1, h2⟩ := h
    unfold IsK at h1
    have h3 : q.1 = Sum.inl p.1 := h1.1
    simp [IsKs.keys h2, h3]
end
def EvK (G : Gx) (ρ : Rh) (te : TE) (Φ : Bool -> Ks -> Prop) : Prop := ∀ nb σ H (Q : VK), Wd G nb ρ σ H ->
 (∀ f a ps H' ks, Φ f ks -> Step G.B H H' -> H a = none -> H' a = some (.dK ps) -> IsKs (fun x => G.S nb f x \/ x = a) H' (ks.map kvD) ps -> Q (.ref a) H') -> te σ H Q
section
variable {G : Gx} {ρ ρc : Rh} {Φ Ψ : Pd} {ta tb te : TE} {t : TA} {i : Nat} {f g : Bool} {d e : PyData} {ks : Ks} {K : PySem.W.Frag} {E : DE} {Θ : Bool -> Ks -> Prop}
theorem Wd.grow {nb : Addr -> Prop} {σ : St} {H H1 : Hp} {a : Addr} {o : HO} (W : Wd G nb ρ σ H) (s1 : Step G.B H H1) (ha : H a = none) (e : H1 a = some o) : Wd G (fun x => nb x \/ x = a) ρ σ H1 /\ NB G.B a /\ ∀ f x, G.S (fun x => nb x \/ x = a) f x -> (G.S nb f x \/ x = a) := by
  have hN : NB G.B a := NB.new W.bag ha
  have hA : ∀ f x, G.S (fun x => nb x \/ x = a) f x -> (G.S nb f x \/ x = a) := fun f x z => by
    rcases z with (z | z) | z | z | z
    · exact .inl (.inl z)
    · exact .inr z
    · exact .inl (.inr (.inl z))
    · exact .inl (.inr (.inr (.inl z)))
    · exact .inl (.inr (.inr (.inr z)))
  have W1 := W.step s1
  refine ⟨?_, hN, hA⟩
  refine ⟨W1.bag, fun x n => ?_, W1.old, fun x n q => ?_, W.gA, W.len, W.gB, fun h m => (((W.hld h m).fresh ha).keep (s1.but fun x z => .inl (.inr (.inr (.inl z))))).av (hA h.1), fun j s e' => ?_, W.apart, W.apd, W.apc⟩
  · rcases n with n | n
    · exact W1.live x n
    · subst n; rw [e]; exact Option.some_ne_none _
  · rcases n with n | n
    · exact W.nbo x n q
    · subst n
      cases z : G.H0 x with
      | none => rfl
      | some o => rw [W.old x o q z] at ha; cases ha
  · obtain ⟨x, e1, h⟩ := W.ok j s e'
    refine ⟨x, e1, ?_⟩
    cases s with
    | no => trivial
    | d f d => obtain ⟨v, e, h⟩ := h; exact ⟨v, e, ((h.fresh ha).keep (s1.but fun x z => .inl (.inr (.inr (.inl z))))).av (hA f)⟩
    | own c f es => obtain ⟨e, n, q, xs, hx, hd⟩ := h; exact ⟨e, .inl n, q, xs, s1.1 _ _ q hx, ((hd.fresh ha).keep (s1.but fun x z => .inl (.inr (.inr (.inl z))))).av (hA f)⟩
    | bag => exact h
    | raw v => exact h
    | dic c f es => obtain ⟨e, n, q, xs, hx, hd⟩ := h; exact ⟨e, .inl n, q, xs, s1.1 _ _ q hx, ((hd.fresh ha).keep (s1.but fun x z => .inl (.inr (.inr (.inl z))))).av (hA f)⟩
    | cu c =>
      obtain ⟨e, n, q⟩ := h
      refine ⟨e, fun a ha => ⟨.inl (n a ha).1, (n a ha).2⟩, c.av (hA c.f) (c.keep (.of fun x o hx e => s1.1 x o ?_ e) (c.fresh ha q))⟩
      rcases hx with hx | hx
      · exact Classical.byContradiction fun z => hx (.inl (.inr (.inr (.inl z))))
      · exact (n x hx).2
theorem dic_of {nb : Addr -> Prop} {σ : St} {H H1 : Hp} {a : Addr} {ps : List (Key × V)} (W : Wd G nb ρ σ H) (s1 : Step G.B H H1) (ha : H a = none) (e : H1 a = some (.dK ps)) (hd : IsKs (fun x => G.S nb f x \/ x = a) H1 (ks.map kvD) ps) :
  Wd G (fun x => nb x \/ x = a) (ρ.set i (.dic a f ks)) (σ.set i (some (.ref a))) H1 := by
 obtain ⟨W2, hN, hA⟩ := W.grow s1 ha e
 refine W2.set ⟨rfl, .inr rfl, hN, ps, e, hd.av (hA f)⟩ (fun _ _ _ z => by cases z) ?_ (fun x hx j t hj ht hc => ?_)
 rotate_left
 ·have hx : x = a := List.mem_singleton.mp hx
  subst hx
  rcases hc with ⟨c, z⟩ | ⟨c, rfl⟩
  ·cases z
  ·exact fun z => W.live x ((W.ok j _ ht).choose_spec.2.2.1 x z).1 ha
 rintro a' f' ds' ⟨rfl, rfl, rfl⟩ j c g cs hj hc z
 subst z
 obtain ⟨x, e1, h1, h2, h3, ys, hy, _⟩ := W.ok j _ hc
 rw [hy] at ha; cases ha
theorem Sv.asgK (h : EvK G ρ te fun f ks => ∀ a, E.nx (ρ.set i (.dic a f ks))) : Sv G ρ (tAsg te (gName i)) E := fun nb σ H D W K => h nb σ H _ W fun f a ps H1 ks q s1 ha e hd => K.nx _ _ _ H1 (q a) (dic_of W s1 ha e hd)
theorem EvK.new (h : Θ true []) : EvK G ρ tDNewK Θ := fun nb σ H Q W z p hp => z true p [] _ [] h (.same W.bag (same_new hp)) hp upd_same (by unfold IsKs; rfl)
@[reducible] def itD (p : Int × PyData) : PyData := .tuple [.int p.1, p.2]
theorem writeDic {nb : Addr -> Prop} {σ : St} {H : Hp} {a : Addr} {ps : List (Key × V)} {ks' : Ks} (W : Wd G nb ρ σ H) (e : ρ[i]? = some (.dic a f ks)) (hd : IsKs (G.S nb g) H (ks'.map kvD) ps) : Wd G nb (ρ.set i (.dic a g ks')) σ (upd H a (.dK ps)) := by
 obtain ⟨x, e1, h1, h2, h3, ys, hy, _⟩ := W.ok i _ e
 subst h1
 have hil : i < ρ.length := (List.getElem?_eq_some_iff.mp e).1
 have W0 : Wd G nb (ρ.set i .no) (σ.set i (some (.ref a))) H := W.set trivial fun _ _ _ z => by cases z
 have W1 : Wd G nb (ρ.set i .no) (σ.set i (some (.ref a))) (upd H a (.dK ps)) := W0.write h2 h3 (fun j c f' cs hc z => by
   subst z
   have hij : i ≠ j := fun z => by subst z; rw [List.getElem?_set_self hil] at hc; cases hc
   rw [List.getElem?_set_ne hij] at hc
   obtain ⟨_, _, _, _, _, ps, hp, _⟩ := W.ok j _ hc
   rw [hy] at hp; cases hp) (fun j c f' cs hc => by
   by_cases hij : i = j
   ·subst hij; rw [List.getElem?_set_self hil] at hc; cases hc
   ·rw [List.getElem?_set_ne hij] at hc
    exact (W.apd i j _ _ _ _ _ _ hij e hc).symm) (fun j c hc z => by
   have hij : i ≠ j := fun z => by subst z; rw [List.getElem?_set_self hil] at hc; cases hc
   rw [List.getElem?_set_ne hij] at hc
   exact W.apc j i c _ (Ne.symm hij) hc e a z (List.mem_singleton.mpr rfl))
 have W2 := W1.set (i := i) (s := .dic a g ks') (x := some (.ref a)) ⟨rfl, h2, h3, ps, upd_same, hd.keep (But.set (.inl h2))⟩ (fun _ _ _ z => by cases z) (by
  rintro a' f' ds' ⟨rfl, rfl, rfl⟩ j c g' cs hj hc
  rw [List.getElem?_set_ne (Ne.symm hj)] at hc
  exact W.apd i j _ _ _ _ _ _ (Ne.symm hj) e hc) (fun x hx j t hj ht hc z => by
  rw [List.getElem?_set_ne (Ne.symm hj)] at ht
  have hx : x = a := List.mem_singleton.mp hx
  subst hx
  rcases hc with ⟨c, q⟩ | ⟨c, rfl⟩
  ·cases q
  ·exact W.apc j i c _ hj ht e x z (List.mem_singleton.mpr rfl))
 rw [List.set_set, List.set_set] at W2
 have : σ.set i (some (.ref a)) = σ := by
  apply List.ext_getElem?
  intro j
  by_cases hij : i = j
  ·subst hij; rw [List.getElem?_set_self (by rw [W.len]; exact hil), e1]
  ·rw [List.getElem?_set_ne hij]
 rwa [this] at W2
theorem Sv.putDic {a : Addr} (e : ρ[i]? = some (.dic a f ks)) (h : Ev G ρ te fun g d => Ev G ρ tb fun _ y => ∃ k, y = .int k /\ ks.length < 10000 /\ E.nx (ρ.set i (.dic a (f && g) (putI ks k d)))) : Sv G ρ (tAsg te (gSub (tVar i) tb rPutD)) E := fun nb σ H D W KK =>
 h nb σ H _ W fun g v H1 d q s1 hv => by
  obtain ⟨x, e1, h1, h2, h3, ps, hp, hd⟩ := (W.step s1).ok i _ e
  subst h1
  refine ⟨.ref a, e1, q nb σ H1 _ (W.step s1) fun g' u H2 y ⟨k, ey, hl, p⟩ s2 hu => ?_⟩
  subst ey
  have W2 := (W.step s1).step s2
  have hlen := hd.len
  refine ⟨a, ps, .inl k, rfl, hu.ofI, s2.1 _ _ h3 hp, Nat.lt_of_lt_of_le (by rw [hlen]; exact hl) (by decide), KK.nx nb _ _ _ p (writeDic W2 e ?_)⟩
  exact IsKs.put ((hd.keep s2.butS).av (S_mono (fun z => (Bool.and_eq_true _ _ ▸ z).1) fun _ z => z)) ((hv.keep s2.butS).av (S_mono (fun z => (Bool.and_eq_true _ _ ▸ z).2) fun _ z => z))
namespace Ev
theorem ixDic {a : Addr} (e : ρ[i]? = some (.dic a f ks)) (h : Ev G ρ tb fun _ y => ∃ k, y = .int k /\ ∃ d, valI ks k = some d /\ Φ f d) : Ev G ρ (tOp rIxD (tVar i) tb) Φ := fun nb σ H Q W z => by
 obtain ⟨x, e1, h1, h2, h3, ps, hp, hd⟩ := W.ok i _ e
 subst h1
 refine ⟨.ref a, e1, h nb σ H _ W fun g w H1 y ⟨k, ey, d, hv, p⟩ s1 hw => ?_⟩
 subst ey
 have := IsKs.val k (hd.keep s1.butS)
 rw [hv] at this
 obtain ⟨v, hv', hD⟩ := this
 exact ⟨a, ps, .inl k, v, rfl, hw.ofI, .inl (s1.1 _ _ h3 hp), hv', z f _ H1 _ p s1 hD⟩
theorem getDic {a : Addr} (e : ρ[i]? = some (.dic a f ks)) (h : Ev G ρ ta fun _ y => ∃ k, y = .int k /\ Ev G ρ tb fun g x => Φ (f && g) ((valI ks k).getD x)) : Ev G ρ (tBM K "dict" rGetD2 (tVar i) (tCons ta (tCons tb tNil))) Φ := fun nb σ H Q W z => by
  obtain ⟨x, e1, h1, h2, h3, ps, hp, hd⟩ := W.ok i _ e
  subst h1
  refine ⟨.ref a, e1, .inr (.inr (.inl ⟨rfl, .inl ⟨_, hp⟩⟩)), ?_⟩
  refine h nb σ H _ W fun g w H1 y ⟨k, ey, q⟩ s1 hw => q nb σ H1 _ (W.step s1) fun g' u H2 x p s2 hu => ?_
  subst ey
  have hd2 := (hd.keep s1.butS).keep s2.butS
  have hv := IsKs.val k hd2
  refine ⟨a, ps, .inl k, u, rfl, by rw [hw.ofI]; rfl, .inl (s2.1 _ _ h3 (s1.1 _ _ h3 hp)), ?_⟩
  cases hk : valI ks k with
  | none =>
    rw [hk] at hv p
    rw [hv]
    exact z _ _ H2 _ p (s1.trans s2) (hu.av (S_mono (fun z => (Bool.and_eq_true _ _ ▸ z).2) fun _ z => z))
  | some d =>
    rw [hk] at hv p
    obtain ⟨v, e', hD⟩ := hv
    rw [e']
    exact z _ _ H2 _ p (s1.trans s2) (hD.av (S_mono (fun z => (Bool.and_eq_true _ _ ▸ z).1) fun _ z => z))
end Ev
end
def rInD (ng : Bool) : R2 := fun x y H Q => ∃ a o, y = .ref a /\ DGet H a x o /\ Q (.bl (o.isSome != ng)) H
theorem op_inD {X : Cx} (hu : X.A.units + 64 < cLine) : OpR X (compareOp .In) (rInD false) := by
 intro pins s σ H x y v u Q I rx ry h
 obtain ⟨a, o, rfl, g, q⟩ := h
 cases ry
 exact d_in (by omega) I g rx fun s' I' => ⟨.bl o.isSome, H, I', rfl, by simpa using q⟩
section
variable {G : Gx} {ρ : Rh} {Φ : Pd} {ta tb te : TE} {i : Nat} {f : Bool} {ks : Ks} {K : PySem.W.Frag} {E : DE}
theorem shareDic {nb : Addr -> Prop} {σ : St} {H : Hp} {a : Addr} (W : Wd G nb ρ σ H) (e : ρ[i]? = some (.dic a f ks)) : Wd G (fun x => nb x /\ x ≠ a) (ρ.set i (.d f (.dict (ks.map kvD)))) σ H := by
  obtain ⟨x, e1, h1, h2, h3, xs, hx, hd⟩ := W.ok i _ e
  subst h1
  have hil : i < ρ.length := (List.getElem?_eq_some_iff.mp e).1
  have W0 : Wd G nb (ρ.set i .no) (σ.set i (some (.ref a))) H := W.set trivial fun _ _ _ z => by cases z
  have W1 : Wd G (fun x => nb x /\ x ≠ a) (ρ.set i .no) (σ.set i (some (.ref a))) H := by
    refine ⟨W0.bag, fun x n => W0.live x n.1, W0.old, fun x n => W0.nbo x n.1, W0.gA, W0.len, W0.gB, fun h m => (W0.hld h m).av (S_mono (fun z => z) fun _ z => z.1), fun j s e' => ?_, W0.apart, W0.apd, W0.apc⟩
    obtain ⟨x, e1', h⟩ := W0.ok j s e'
    refine ⟨x, e1', ?_⟩
    have hij : s ≠ .no -> i ≠ j := fun n z => by subst z; rw [List.getElem?_set_self hil] at e'; cases e'; exact n rfl
    cases s with
    | no => trivial
    | d f d => obtain ⟨v, e, h⟩ := h; exact ⟨v, e, h.av (S_mono (fun z => z) fun _ z => z.1)⟩
    | own c f es =>
      obtain ⟨e2, n, q, ys, hy, hd'⟩ := h
      have hca : c ≠ a := fun z => by subst z; rw [hx] at hy; cases hy
      exact ⟨e2, ⟨n, hca⟩, q, ys, hy, hd'.av (S_mono (fun z => z) fun _ z => z.1)⟩
    | bag => exact h
    | raw v => exact h
    | dic c f es =>
      obtain ⟨e2, n, q, ps, hp, hd'⟩ := h
      have hij := hij (by intro z; cases z)
      rw [List.getElem?_set_ne hij] at e'
      exact ⟨e2, ⟨n, (W.apd i j _ _ _ _ _ _ hij e e').symm⟩, q, ps, hp, hd'.av (S_mono (fun z => z) fun _ z => z.1)⟩
    | cu c =>
      obtain ⟨e2, n, q⟩ := h
      have hij := hij (by intro z; cases z)
      rw [List.getElem?_set_ne hij] at e'
      exact ⟨e2, fun x hx => ⟨⟨(n x hx).1, fun z => W.apc j i c _ (Ne.symm hij) e' e x hx (by rw [z]; exact List.mem_singleton.mpr rfl)⟩, (n x hx).2⟩, c.av (S_mono (fun z => z) fun _ z => z.1) q⟩
  have W2 := W1.setD (i := i) (f := f) (d := .dict (ks.map kvD)) (v := .ref a) (by
    unfold IsD
    refine ⟨a, xs, rfl, fun z => ?_, .inl hx, hd.av (S_mono (fun z => z) fun _ z => z.1)⟩
    rcases z with z | z | z | z
    · exact z.2 rfl
    · exact W.gA a z (W.nbo a h2 h3)
    · exact z h3
    · exact z.2 (W.nbo a h2 h3))
  rw [List.set_set, List.set_set] at W2
  have : σ.set i (some (.ref a)) = σ := by
    apply List.ext_getElem?
    intro j
    by_cases hij : i = j
    · subst hij; rw [List.getElem?_set_self (by rw [W.len]; exact hil), e1]
    · rw [List.getElem?_set_ne hij]
  rwa [this] at W2
theorem Sv.demoteDic {s : TS} {a : Addr} (i : Nat) (e : ρ[i]? = some (.dic a f ks)) (h : Sv G (ρ.set i (.d f (.dict (ks.map kvD)))) s E) : Sv G ρ s E := fun nb σ H D W K => h _ σ H D (shareDic W e) K
theorem Ev.ixDd (h : Ev G ρ ta fun f x => ∃ ks : Ks, x = .dict (ks.map kvD) /\ Ev G ρ tb fun _ y => ∃ k, y = .int k /\ ∃ d, valI ks k = some d /\ Φ f d) : Ev G ρ (tOp rIxD ta tb) Φ :=
 Ev.op2 (h.mono fun f x ⟨ks, ex, q⟩ => q.mono fun g y ⟨k, ey, d, hv', p⟩ nb σ H u v Q W hu hv z => by
  subst ex ey
  unfold IsD at hu
  obtain ⟨a, ps, rfl, n, hp, hd⟩ := hu
  have := IsKs.val k hd
  rw [hv'] at this
  obtain ⟨w, hw, hD⟩ := this
  exact ⟨a, ps, .inl k, w, rfl, hv.ofI, hp, hw, z f _ H _ p (.refl W.bag) hD⟩)
end
end L2
set_option maxRecDepth 100000
set_option maxHeartbeats 4000000
namespace L2
abbrev Cn := List (Int × Int)
structure CntOk (cs : Cn) : Prop where
 rng : ∀ c ∈ cs, 0 <= c.1 /\ c.1 <= 12 /\ 0 <= c.2 /\ c.2 <= 10 ^ 7
 nd : (cs.map (·.1)).Nodup
 len : cs.length <= 14
 pos : ∃ c ∈ cs, 0 < c.1 /\ 0 < c.2
def sumS : Cn -> Rat -> Rat
 | [], _ => 0
 | c :: r, v => (if 0 < c.1 then ((c.1 * c.2 : Int) : Rat) * v ^ (c.1.toNat - 1) else 0) + sumS r v
def sumW : Cn -> Int
 | [] => 0
 | c :: r => c.1 * c.2 + sumW r
def tellT (cs : Cn) (v : Rat) : Rat := sumS cs v / (sumW cs : Int)
def growG (l c : Cn) (s v : Rat) : Rat := s * tellT l (1 - tellT c (1 - v))
section
variable {l c : Cn} {s : Rat} (hl : CntOk l) (hc : CntOk c) (s0 : 0 <= s)
include hl hc s0
end
def ceilR (x : Rat) : Int := -((-x).floor)
end L2
namespace L2
structure Gw where
 l : Cn
 c : Cn
 s : Rat
 u : Int
def Gw.gr (g : Gw) (x : Int) : Rat := growG g.l g.c g.s ((x : Rat) / g.u) * g.u
def Gw.lo (g : Gw) : Nat -> Int
 | 0 => (g.s * g.u).floor
 | k + 1 => (g.gr (g.lo k)).floor
def Gw.hi (g : Gw) : Nat -> Int
 | 0 => ceilR (g.s * g.u)
 | k + 1 => ceilR (g.gr (g.hi k))
end L2
set_option maxRecDepth 100000
set_option maxHeartbeats 4000000
namespace L2
open PySem PySem.Spec PyProof.Rows
@[reducible] def bdD (g : Gw) (k : Nat) : PyData := .tuple [.int (g.lo k), .int (g.hi k)]
@[reducible] def fallD (n : Nat) : PyData := .tuple [.str "falls", .int n]
@[reducible] def stayD (x : Int) : PyData := .tuple [.str "stays", .int x]
@[reducible] def openD : PyData := .tuple [.str "open"]
def gLst (K : PySem.W.Frag) (n : Nat) (t : TGs) : TG := fun v σ H Q => ∃ a xs, v = .ref a /\ SqL K H a xs /\ xs.length = n /\ t xs σ H Q
theorem Gv.lst {G : Gx} {ρ : Rh} {f : Bool} {ds : List PyData} {K : PySem.W.Frag} {Θ : Rh -> Prop} {n : Nat} {u : TGs} (hl : ds.length = n) (h : Gvs G ρ u f ds Θ) : Gv G ρ (gLst K n u) f (.list ds) Θ := fun nb σ H v Q W hv z => by
 obtain ⟨a, xs, rfl, m, hx, hd⟩ := hv.ofL
 exact ⟨a, xs, rfl, .of hx, by rw [hd.length]; exact hl, h nb σ H xs Q W hd z⟩
end L2
set_option maxRecDepth 100000
set_option maxHeartbeats 4000000
namespace L2
open PySem PySem.Spec PyProof.Rows PySem.W
section
variable {n : Nat} {cmp : Nat -> Nat -> (Bool -> Shared -> Prop) -> Shared -> Prop} {s : Shared}
def VP (n : Nat) (p : Array Nat) : Prop := p.toList.Perm (List.range n)
theorem VP.of {p q : Array Nat} (h : VP n p) (z : q.Perm p) : VP n q := (Array.perm_iff_toList_perm.mp z).trans h
theorem VP.lt {p : Array Nat} (h0 : 0 < n) (h : VP n p) (k : Nat) : p.getD k 0 < n := by
 by_cases hk : k < p.size
 ·have e : p.getD k 0 = p[k] := by simp [Array.getD, hk]
  rw [e]
  have m : p[k] ∈ p.toList := by simp
  exact List.mem_range.mp (h.mem_iff.mp m)
 ·have e : p.getD k 0 = 0 := by simp [Array.getD, hk]
  rw [e]; exact h0
variable (h0 : 0 < n) (hc : ∀ i j C, i < n -> j < n -> (∀ b, C b s) -> cmp i j C s)
include h0 hc
end
def PairAt (h : Heap) (v : Value) : Prop := ∃ a o i j t u m, v = .ref a /\ h.get? a = some o /\ o.cls = .type "tuple" /\ o.data = .seq #[.int i t, .int j u] m
section
variable {prog : Program} {w : World} {A : Around} {E : Value -> Shared -> Prop} {s : Shared}
theorem pairs_kind {M : Model} {vs : List Value} {Q : SortKind -> Shared -> Prop} (hp : ∀ v ∈ vs, PairAt s.heap v) (hne : 0 < vs.length) (h : Q (tuples' true) s) : wpAny M A (keyKind' vs.toArray) Q E s := by
  obtain ⟨fs, hf, hl, hT⟩ : ∃ fs : List Value, KatTups s.heap vs fs /\ fs.length = vs.length /\ ∀ v ∈ fs, ∃ i t, v = .int i t := by
    clear hne h
    induction vs with
    | nil => exact ⟨[], .nil, rfl, fun _ h => nomatch h⟩
    | cons v r ih =>
      obtain ⟨fs, h1, h2, h3⟩ := ih fun x hx => hp x (List.mem_cons_of_mem _ hx)
      obtain ⟨a, o, i, j, t, u, m, rfl, g1, g2, g3⟩ := hp v (List.mem_cons_self ..)
      refine ⟨.int i t :: fs, .cons g1 g2 g3 rfl h1, by simp [h2], fun x hx => ?_⟩
      rcases List.mem_cons.mp hx with e | hx
      · exact ⟨i, t, e⟩
      · exact h3 x hx
  refine kat_kind (T := .type "int") hf (by omega) (fun v hv => ?_) (by decide) h
  obtain ⟨i, t, rfl⟩ := hT v hv
  exact Looks.of_pure rfl
end
end L2
set_option maxRecDepth 100000
set_option maxHeartbeats 4000000
namespace L2
open PySem PySem.Spec PyProof.Rows PySem.W
section
variable {n : Nat} {key : Nat -> Int} {cmp : Nat -> Nat -> (Bool -> Shared -> Prop) -> Shared -> Prop} {s : Shared}
def Kp' (key : Nat -> Int) (p : Array Nat) (x : Nat) : Int := key (p.getD x 0)
def So (key : Nat -> Int) (p : Array Nat) (b : Nat) : Prop := ∀ i j, i <= j -> j < b -> Kp' key p i <= Kp' key p j
def Ni (key : Nat -> Int) (p : Array Nat) (b : Nat) : Prop := ∀ i j, i <= j -> j < b -> Kp' key p j <= Kp' key p i
theorem VP.size {p : Array Nat} (h : VP n p) : p.size = n := by
 have := h.length_eq
 rw [List.length_range, Array.length_toList] at this
 exact this
theorem kp_eq (p : Array Nat) (x : Nat) : Kp' key p x = key ((p[x]?).getD 0) := by unfold Kp'; rw [Array.getD_eq_getD_getElem?]
theorem kp_rev {p : Array Nat} {i j : Nat} (hj : j <= p.size) (k : Nat) : Kp' key (kas_rev p i j) k = if i <= k /\ k < j then Kp' key p (i + j - 1 - k) else Kp' key p k := by
 rw [kp_eq, kp_eq, kp_eq]
 unfold kas_rev
 rw [getElem?_mirror_all hj k]
 split <;> rfl
theorem kp_bub {p : Array Nat} {k d : Nat} (hk : k < p.size) (hd : d <= k) (x : Nat) : Kp' key (bubble p k d) x = if x = k - d then Kp' key p k else if k - d < x /\ x <= k then Kp' key p (x - 1) else Kp' key p x := by
 rw [kp_eq, kp_eq, kp_eq, kp_eq, getElem?_bubble hk d hd x]
 split
 ·rfl
 ·split <;> rfl
theorem VP.rev {p : Array Nat} (h : VP n p) (i j : Nat) : VP n (kas_rev p i j) := h.of (mirror_perm _ _ _ _)
theorem kp_revEq {p : Array Nat} {i j : Nat} (hj : j <= p.size) (he : ∀ a b, i <= a -> a < j -> i <= b -> b < j -> Kp' key p a = Kp' key p b) (k : Nat) : Kp' key (kas_rev p i j) k = Kp' key p k := by
 rw [kp_rev hj]
 split
 ·exact he _ _ (by omega) (by omega) (by omega) (by omega)
 ·rfl
theorem ni_rev {p : Array Nat} {m : Nat} (hm : m <= p.size) (h : Ni key p m) : So key (kas_rev p 0 m) m := by
 intro i j hij hj
 rw [kp_rev hm, kp_rev hm, if_pos (by omega), if_pos (by omega)]
 exact h _ _ (by omega) (by omega)
variable (h0 : 0 < n) (hc : ∀ i j C, i < n -> j < n -> C (decide (key i < key j)) s -> cmp i j C s)
include h0 hc
theorem asc_ris {p : Array Nat} (hp : VP n p) {Q : Nat -> Shared -> Prop} : ∀ f m, 1 <= m -> m + f <= n -> So key p m -> (∀ r, m <= r -> r <= m + f -> So key p r -> (r = m + f \/ Kp' key p r < Kp' key p (r - 1)) -> Q r s) -> (kas_asc p f m).kasWp cmp Q s
  | 0, m, _, _, hs, hQ => hQ m (Nat.le_refl _) (Nat.le_refl _) hs (.inl rfl)
  | f + 1, m, m1, hm, hs, hQ => hc _ _ _ (hp.lt h0 _) (hp.lt h0 _) (by
    by_cases c : Kp' key p m < Kp' key p (m - 1)
    · rw [show decide (key (p.getD m 0) < key (p.getD (m - 1) 0)) = true from decide_eq_true c]
      exact hQ m (Nat.le_refl _) (by omega) hs (.inr c)
    · rw [show decide (key (p.getD m 0) < key (p.getD (m - 1) 0)) = false from decide_eq_false c]
      refine asc_ris hp f (m + 1) (by omega) (by omega) (fun i j hij hj => ?_) fun r r1 r2 r3 r4 => hQ r (by omega) (by omega) r3 (r4.elim (fun z => .inl (by omega)) .inr)
      by_cases e : j = m
      · subst e
        by_cases e2 : i = j
        · subst e2; exact Int.le_refl _
        · have := hs i (j - 1) (by omega) (by omega)
          omega
      · exact hs i j hij (by omega))
theorem desc_ris {Q : Array Nat × Nat × Nat -> Shared -> Prop} : ∀ f p m q, VP n p -> 1 <= m -> m + f <= n -> q + 1 <= m -> Ni key p m -> (∀ a b, m - (q + 1) <= a -> a < m -> m - (q + 1) <= b -> b < m -> Kp' key p a = Kp' key p b) ->
    (∀ p' m' q', VP n p' -> m <= m' -> m' <= m + f -> q' + 1 <= m' -> Ni key p' m' -> (∀ a b, m' - (q' + 1) <= a -> a < m' -> m' - (q' + 1) <= b -> b < m' -> Kp' key p' a = Kp' key p' b) -> Q (p', m', q') s) -> (kas_desc f p m q).kasWp cmp Q s
  | 0, p, m, q, hp, m1, hm, hq, hn, he, hQ => hQ p m q hp (Nat.le_refl _) (Nat.le_refl _) hq hn he
  | f + 1, p, m, q, hp, m1, hm, hq, hn, he, hQ => hc _ _ _ (hp.lt h0 _) (hp.lt h0 _) (by
    have hps := hp.size
    by_cases c : Kp' key p m < Kp' key p (m - 1)
    · rw [show decide (key (p.getD m 0) < key (p.getD (m - 1) 0)) = true from decide_eq_true c]
      have hn1 : Ni key p (m + 1) := fun i j hij hj => by
        by_cases e : j = m
        · subst e
          by_cases e2 : i = j
          · subst e2; exact Int.le_refl _
          · have := hn i (j - 1) (by omega) (by omega)
            omega
        · exact hn i j hij (by omega)
      simp only [if_true]
      split
      · have hk := kp_revEq (key := key) (p := p) (i := m - (q + 1)) (j := m) (by omega) he
        refine desc_ris f _ _ _ (hp.rev _ _) (by omega) (by omega) (by omega) (fun i j hij hj => by rw [hk, hk]; exact hn1 i j hij hj) (fun a b a1 a2 b1 b2 => by rw [show a = b by omega]) fun p' m' q' g1 g2 g3 g4 g5 g6 => hQ p' m' q' g1 (by omega) (by omega) g4 g5 g6
      · exact desc_ris f _ _ _ hp (by omega) (by omega) (by omega) hn1 (fun a b a1 a2 b1 b2 => by rw [show a = b by omega]) fun p' m' q' g1 g2 g3 g4 g5 g6 => hQ p' m' q' g1 (by omega) (by omega) g4 g5 g6
    · rw [show decide (key (p.getD m 0) < key (p.getD (m - 1) 0)) = false from decide_eq_false c]
      simp only [Bool.false_eq_true, if_false]
      refine hc _ _ _ (hp.lt h0 _) (hp.lt h0 _) ?_
      by_cases c2 : Kp' key p (m - 1) < Kp' key p m
      · rw [show decide (key (p.getD (m - 1) 0) < key (p.getD m 0)) = true from decide_eq_true c2]
        simp only [if_true]
        exact hQ p m q hp (Nat.le_refl _) (by omega) hq hn he
      · rw [show decide (key (p.getD (m - 1) 0) < key (p.getD m 0)) = false from decide_eq_false c2]
        simp only [Bool.false_eq_true, if_false]
        have ee : Kp' key p m = Kp' key p (m - 1) := by omega
        have hn1 : Ni key p (m + 1) := fun i j hij hj => by
          by_cases e : j = m
          · subst e
            by_cases e2 : i = j
            · subst e2; exact Int.le_refl _
            · have := hn i (j - 1) (by omega) (by omega)
              omega
          · exact hn i j hij (by omega)
        have hel : ∀ a, m - (q + 1) <= a -> a < m + 1 -> Kp' key p a = Kp' key p (m - 1) := fun a a1 a2 => by
          by_cases e : a = m
          · rw [e, ee]
          · exact he a (m - 1) a1 (by omega) (by omega) (by omega)
        refine desc_ris f p (m + 1) (q + 1) hp (by omega) (by omega) (by omega) hn1 (fun a b a1 a2 b1 b2 => by rw [hel a (by omega) a2, hel b (by omega) b2]) fun p' m' q' g1 g2 g3 g4 g5 g6 => hQ p' m' q' g1 (by omega) (by omega) g4 g5 g6)
theorem tail3_ris {p : Array Nat} (hp : VP n p) {Q : Nat × Array Nat -> Shared -> Prop} {m : Nat} (m1 : 1 <= m) (hm : m <= n) (hn : Ni key p m) (hQ : ∀ m p, VP n p -> m <= n -> So key p m -> Q (m, p) s) : (kas_tail3 m n p).kasWp cmp Q s := by
 unfold kas_tail3
 rw [KasT.kasWp_bind]
 have hp' : VP n (kas_rev p 0 m) := hp.of (mirror_perm _ _ _ _)
 have hps := hp.size
 exact asc_ris h0 hc hp' (n - m) m m1 (by omega) (ni_rev (by omega) hn) fun r r1 r2 r3 _ => hQ r _ hp' (by omega) r3
theorem descPart_ris {p : Array Nat} (hp : VP n p) {Q : Nat × Array Nat -> Shared -> Prop} {m : Nat} (m1 : 1 <= m) (hm : m + 1 <= n) (hn : Ni key p (m + 1)) (hQ : ∀ m p, VP n p -> m <= n -> So key p m -> Q (m, p) s) : (kas_descPart m n p).kasWp cmp Q s := by
 unfold kas_descPart
 rw [KasT.kasWp_bind]
 refine desc_ris h0 hc (n - (m + 1)) p (m + 1) 0 hp (by omega) (by omega) (by omega) hn (fun a b a1 a2 b1 b2 => by rw [show a = b by omega]) fun p' m' q' g1 g2 g3 g4 g5 g6 => ?_
 have hps := g1.size
 dsimp only
 split
 ·have hk := kp_revEq (key := key) (p := p') (i := m' - (q' + 1)) (j := m') (by omega) g6
  exact tail3_ris h0 hc (g1.rev _ _) (by omega) (by omega) (fun i j hij hj => by rw [hk, hk]; exact g5 i j hij hj) hQ
 ·exact tail3_ris h0 hc g1 (by omega) (by omega) g5 hQ
theorem count_ris {p : Array Nat} (hp : VP n p) {Q : Nat × Array Nat -> Shared -> Prop} (hQ : ∀ m p, VP n p -> m <= n -> So key p m -> Q (m, p) s) : (kas_count n p).kasWp cmp Q s := by
 unfold kas_count
 rw [KasT.kasWp_bind]
 have hps := hp.size
 refine asc_ris h0 hc hp (n - 1) 1 (by omega) (by omega) (fun i j hij hj => by rw [show i = j by omega]; exact Int.le_refl _) fun m m1 m2 m3 m4 => ?_
 split
 ·exact hQ _ _ hp (by omega) m3
 rename_i c1
 have c1 : m ≠ n := by simpa using c1
 have hlt : Kp' key p m < Kp' key p (m - 1) := m4.elim (fun z => absurd z (by omega)) id
 split
 ·refine hc _ _ _ (hp.lt h0 _) (hp.lt h0 _) ?_
  by_cases c2 : Kp' key p 0 < Kp' key p (m - 1)
  ·rw [show decide (key (p.getD 0 0) < key (p.getD (m - 1) 0)) = true from decide_eq_true c2]
   simp only [if_true]
   exact hQ _ _ hp (by omega) m3
  ·rw [show decide (key (p.getD 0 0) < key (p.getD (m - 1) 0)) = false from decide_eq_false c2]
   simp only [Bool.false_eq_true, if_false]
   have he : ∀ a, a < m -> Kp' key p a = Kp' key p 0 := fun a ha => by
    have e1 := m3 0 a (by omega) ha
    have e2 := m3 a (m - 1) (by omega) (by omega)
    omega
   have hk := kp_revEq (key := key) (p := p) (i := 0) (j := m) (by omega) fun a b _ a2 _ b2 => by rw [he a a2, he b b2]
   refine descPart_ris h0 hc (hp.rev _ _) m1 (by omega) (fun i j hij hj => ?_) hQ
   rw [hk, hk]
   by_cases e : j = m
   ·subst e
    by_cases e2 : i = j
    ·subst e2; exact Int.le_refl _
    ·have e3 := he i (by omega)
     have e4 := he (j - 1) (by omega)
     omega
   ·rw [he i (by omega), he j (by omega)]
    exact Int.le_refl _
 ·have : m = 1 := by omega
  subst this
  refine descPart_ris h0 hc hp m1 (by omega) (fun i j hij hj => ?_) hQ
  by_cases e : i = j
  ·subst e; exact Int.le_refl _
  ·have : i = 0 := by omega
   have : j = 1 := by omega
   subst i j
   exact Int.le_of_lt hlt
theorem place_ris {p : Array Nat} (hp : VP n p) {k : Nat} (hs : So key p k) {Q : Nat -> Shared -> Prop} (hQ : ∀ l, l <= k -> (∀ i, i < l -> Kp' key p i <= Kp' key p k) -> (∀ i, l <= i -> i < k -> Kp' key p k < Kp' key p i) -> Q l s) :
    ∀ f l r, l <= r -> r <= k -> r - l <= f -> (∀ i, i < l -> Kp' key p i <= Kp' key p k) -> (∀ i, r <= i -> i < k -> Kp' key p k < Kp' key p i) -> (kas_place p k f l r).kasWp cmp Q s
  | 0, l, r, h1, h2, h3, h4, h5 => hQ l (by omega) h4 (by rw [show l = r by omega]; exact h5)
  | f + 1, l, r, h1, h2, h3, h4, h5 => by
    unfold kas_place
    split
    · exact hQ l (by omega) h4 (by rw [show l = r by omega]; exact h5)
    · refine hc _ _ _ (hp.lt h0 _) (hp.lt h0 _) ?_
      by_cases c : Kp' key p k < Kp' key p ((l + r) / 2)
      · rw [show decide (key (p.getD k 0) < key (p.getD ((l + r) / 2) 0)) = true from decide_eq_true c]
        simp only [if_true]
        exact place_ris hp hs hQ f _ _ (by omega) (by omega) (by omega) h4 fun i i1 i2 => by have := hs _ i i1 i2; omega
      · rw [show decide (key (p.getD k 0) < key (p.getD ((l + r) / 2) 0)) = false from decide_eq_false c]
        simp only [Bool.false_eq_true, if_false]
        exact place_ris hp hs hQ f _ _ (by omega) (by omega) (by omega) (fun i i1 => by have := hs i ((l + r) / 2) (by omega) (by omega); omega) h5
theorem bin_ris {Q : Array Nat -> Shared -> Prop} (hQ : ∀ p, VP n p -> So key p n -> Q p s) : ∀ f p k, VP n p -> f + k = n -> So key p k -> (kas_bin f p k).kasWp cmp Q s
  | 0, p, k, hp, hf, hs => hQ p hp (by rw [show n = k by omega]; exact hs)
  | f + 1, p, k, hp, hf, hs => by
    unfold kas_bin
    rw [KasT.kasWp_bind]
    have hps := hp.size
    refine place_ris h0 hc hp hs (fun l l1 l2 l3 => ?_) k 0 k (by omega) (by omega) (by omega) (fun i hi => by omega) (fun i i1 i2 => by omega)
    refine bin_ris hQ f _ _ (hp.of (bubble_perm _ _ _)) (by omega) fun i j hij hj => ?_
    rw [kp_bub (by omega) (by omega), kp_bub (by omega) (by omega), show k - (k - l) = l by omega]
    by_cases e1 : i = l
    · rw [if_pos e1]
      by_cases e2 : j = l
      · rw [if_pos e2]; exact Int.le_refl _
      · rw [if_neg e2, if_pos (by omega)]
        exact Int.le_of_lt (l3 _ (by omega) (by omega))
    · rw [if_neg e1]
      by_cases e2 : j = l
      · rw [if_pos e2, if_neg (by omega)]
        exact l2 i (by omega)
      · rw [if_neg e2]
        by_cases e3 : l < i /\ i <= k
        · rw [if_pos e3, if_pos (by omega)]
          exact hs _ _ (by omega) (by omega)
        · rw [if_neg e3]
          by_cases e4 : l < j /\ j <= k
          · rw [if_pos e4]
            exact hs _ _ (by omega) (by omega)
          · rw [if_neg e4]
            exact hs _ _ (by omega) (by omega)
theorem sort_ris {Q : Array Nat -> Shared -> Prop} (hQ : ∀ p, VP n p -> So key p n -> Q p s) : (kas_sort n).kasWp cmp Q s := by
 unfold kas_sort
 rw [KasT.kasWp_bind]
 refine count_ris h0 hc (p := List.toArray (List.range n)) (by unfold VP; exact .refl _) fun m p hp hm hs => ?_
 dsimp only
 split
 ·refine bin_ris h0 hc hQ _ _ _ hp (by omega) fun i j hij hj => ?_
  by_cases e : i = j
  ·rw [e]; exact Int.le_refl _
  ·exact hs i j hij (by omega)
 ·exact hQ _ hp (by rw [show n = m by omega]; exact hs)
end
end L2
set_option maxRecDepth 100000
set_option maxHeartbeats 4000000
namespace L2
open PySem PySem.Spec PyProof.Rows PySem.W
def lexB (c d : Int × Int) : Bool := if c.1 = d.1 then decide (c.2 < d.2) else decide (c.1 < d.1)
def encP (M : Int) (c : Int × Int) : Int := c.1 * M + c.2
theorem enc_ex : ∀ cs : List (Int × Int), ∃ M : Int, 0 < M /\ ∀ c ∈ cs, -M < 2 * c.2 /\ 2 * c.2 < M
  | [] => ⟨1, by decide, fun _ h => nomatch h⟩
  | c :: cs => by
    obtain ⟨M, h0, h⟩ := enc_ex cs
    refine ⟨M + 2 * c.2.natAbs + 1, by omega, fun d hd => ?_⟩
    rcases List.mem_cons.mp hd with e | e
    · subst e; omega
    · have := h d e; omega
theorem enc_lex {M : Int} {c d : Int × Int} (h0 : 0 < M) (hc : -M < 2 * c.2 /\ 2 * c.2 < M) (hd : -M < 2 * d.2 /\ 2 * d.2 < M) : lexB c d = decide (encP M c < encP M d) := by
 unfold lexB encP
 split
 ·rename_i e
  rw [e]
  apply decide_eq_decide.mpr
  omega
 ·rename_i e
  apply decide_eq_decide.mpr
  constructor
  ·intro z
   have : (c.1 + 1) * M <= d.1 * M := Int.mul_le_mul_of_nonneg_right (by omega) (by omega)
   rw [Int.add_mul, Int.one_mul] at this
   omega
  ·intro z
   rcases Int.lt_trichotomy c.1 d.1 with y | y | y
   ·exact y
   ·exact absurd y e
   ·have : (d.1 + 1) * M <= c.1 * M := Int.mul_le_mul_of_nonneg_right (by omega) (by omega)
    rw [Int.add_mul, Int.one_mul] at this
    omega
def PairIs (h : Heap) (c : Int × Int) (v : Value) : Prop := ∃ a o t u m, v = .ref a /\ h.get? a = some o /\ o.cls = .type "tuple" /\ o.data = .seq #[.int c.1 t, .int c.2 u] m
def PairsAre (h : Heap) (cs : List (Int × Int)) (vs : List Value) : Prop := vs.length = cs.length /\ ∀ k, k < cs.length -> PairIs h (cs.getD k (0, 0)) (vs.getD k .none)
theorem PairIs.at {h : Heap} {c : Int × Int} {v : Value} (x : PairIs h c v) : PairAt h v := by
 obtain ⟨a, o, t, u, m, e, h1, h2, h3⟩ := x
 exact ⟨a, o, _, _, t, u, m, e, h1, h2, h3⟩
theorem PairIs.keep {h h' : Heap} {c : Int × Int} {v : Value} (x : PairIs h c v) (k : ∀ b o, v = .ref b -> h.get? b = some o -> h'.get? b = some o) : PairIs h' c v := by
 obtain ⟨a, o, t, u, m, e, h1, h2, h3⟩ := x
 exact ⟨a, o, t, u, m, e, k _ _ e h1, h2, h3⟩
theorem PairsAre.at {h : Heap} {cs : List (Int × Int)} {vs : List Value} (x : PairsAre h cs vs) : ∀ v ∈ vs, PairAt h v := fun v hv => by
 obtain ⟨k, hk, e⟩ := List.mem_iff_getElem.mp hv
 have := x.2 k (by rw [<- x.1]; exact hk)
 rw [List.getD_eq_getElem?_getD (l := vs), List.getElem?_eq_getElem hk, e] at this
 exact this.at
section
variable {prog : Program} {w : World} {A : Around} {E : Value -> Shared -> Prop} {s : Shared}
theorem pair_ltR {x y : Value} {c d : Int × Int} {C : Bool -> Shared -> Prop} (hx : PairIs s.heap c x) (hy : PairIs s.heap d y) (h : C (lexB c d) s) : wpAny (model prog w) A (keyLt' (tuples' true) x y) C E s := by
 obtain ⟨a, o, t, u, m, rfl, h1, h2, h3⟩ := hx
 obtain ⟨a', o', t', u', m', rfl, h1', h2', h3'⟩ := hy
 unfold lexB at h
 refine kat_lt h1 h3 h1' h3' ?_
 refine kat_cons (wpAny_eqBool_int ?_)
 by_cases e1 : c.1 = d.1
 ·rw [if_pos e1] at h
  rw [show (c.1 == d.1) = true from beq_iff_eq.mpr e1]
  refine kat_yes (kat_cons (wpAny_eqBool_int ?_))
  by_cases e2 : c.2 = d.2
  ·rw [show (c.2 == d.2) = true from beq_iff_eq.mpr e2]
   refine kat_yes (kat_nil ?_)
   rw [decide_eq_false (by omega)] at h
   exact h
  ·rw [show (c.2 == d.2) = false from beq_eq_false_iff_ne.mpr e2]
   refine kat_no ?_
   refine kat_one _ _ (lt_int ?_)
   exact h
 ·rw [if_neg e1] at h
  rw [show (c.1 == d.1) = false from beq_eq_false_iff_ne.mpr e1]
  refine kat_no ?_
  exact oneLt_int h
theorem list_sort_pairsR {a : Addr} {vs : List Value} {cs : List (Int × Int)} {n : Nat} {P : Fin -> Shared -> Prop} (ho : s.heap.get? a = some (seqObj "list" vs.toArray n)) (hp : PairsAre s.heap cs vs) (hna : ∀ v ∈ vs, v ≠ .ref a) (h64 : vs.length < 64)
  (h : ∀ (out : Array Value) (ix : List Nat), ix.Perm (List.range vs.length) -> out.toList = ix.map (fun i => vs.getD i .none) -> (ix.map fun i => cs.getD i (0, 0)).Pairwise (fun c d => lexB d c = false) -> P (.done (.ret .none)) { s with heap := sortedHeap s.heap a vs out }) :
  wpAny (model prog w) A (Builtin.«list.sort» ⟨[.ref a], []⟩) P E s := by
 rw [list_sort_plain]
 have ha : a < s.heap.objs.size := Heap.lt_size ho
 refine wpAny_bind (listItems_at ho rfl ?_)
 refine wpAny_bind (listUpdate_at ho rfl ?_)
 obtain ⟨e1, ho1⟩ : ∃ e1, (s.heap.update a (Obj.mapSeq fun _ => #[])).get? a = some (seqObj "list" #[] e1) := ⟨_, get?_update_seq ho (fun _ => #[])⟩
 refine wpAny_bind (seqEpoch_at ho1 rfl ?_)
 refine wpAny_bind (wpAny_newTuple ?_)
 refine wpAny_bind (wpAny_newList ?_)
 refine wpAny_holding ?_
 have ho6 : (((s.heap.update a (Obj.mapSeq fun _ => #[])).push (seqObj "tuple" vs.toArray 0)).push (seqObj "list" #[] 0)).get? a = some (seqObj "list" #[] e1) := by
  rw [Heap.get?_push_ne _ _ _ (by rw [size_push', Heap.size_update]; exact Nat.ne_of_lt (Nat.lt_succ_of_lt ha)), Heap.get?_push_ne _ _ _ (by rw [Heap.size_update]; exact Nat.ne_of_lt ha)]
  exact ho1
 show wpAny (model prog w) A _ P E { s with heap := ((s.heap.update a (Obj.mapSeq fun _ => #[])).push (seqObj "tuple" vs.toArray 0)).push (seqObj "list" #[] 0) }
 dsimp only
 have hsz : vs.toArray.size = vs.length := by simp
 have hp6 : PairsAre (((s.heap.update a (Obj.mapSeq fun _ => #[])).push (seqObj "tuple" vs.toArray 0)).push (seqObj "list" #[] 0)) cs vs := ⟨hp.1, fun k hk => by
  have hm : vs.getD k .none ∈ vs := by
   have : k < vs.length := by rw [hp.1]; exact hk
   rw [List.getD_eq_getElem?_getD, List.getElem?_eq_getElem this]
   exact List.getElem_mem _
  refine (hp.2 k hk).keep fun b o e g1 => Heap.get?_push_of_some _ (Heap.get?_push_of_some _ ?_)
  have hb : b ≠ a := fun z => hna _ hm (by rw [e, z])
  rw [Heap.get?_update_ne _ _ _ _ hb]; exact g1⟩
 by_cases h2 : vs.toArray.size < 2
 ·rw [if_pos h2, if_pos h2]
  refine wpAny_bind (wpAny_pure ?_)
  rw [StateT.run_pure]
  refine wpAny_bind (wpAny_pure ?_)
  dsimp only
  refine wpAny_bind (seqEpoch_at ho6 rfl ?_)
  refine wpAny_bind (listUpdate_at ho6 rfl ?_ (hsz2 := by rw [Array.size_map]; show (pairsOf vs).size <= _; rw [pairsOf_size, sizeLine_eq]; omega))
  simp only [bne_self_eq_false, Bool.false_eq_true, if_false]
  refine wpAny_pure (h _ (List.range vs.length) (.refl _) ?_ ?_)
  ·have e : (Array.map (fun x => x.2) (vs.toArray.zip vs.toArray)).toList = vs := by
    rw [Array.toList_map, Array.toList_zip]
    simp [List.map_snd_zip]
   show (Array.map (fun x => x.2) (vs.toArray.zip vs.toArray)).toList = _
   rw [e]
   refine List.ext_getElem? fun k => ?_
   rw [List.getElem?_map]
   by_cases hk : k < vs.length
   ·rw [List.getElem?_range hk, List.getElem?_eq_getElem hk]; simp [hk]
   ·rw [List.getElem?_eq_none (by omega), List.getElem?_eq_none (by rw [List.length_range]; omega)]; rfl
  ·have : vs.length < 2 := by omega
   rcases Nat.lt_or_ge vs.length 1 with z | z
   ·rw [show vs.length = 0 by omega]; exact .nil
   ·rw [show vs.length = 1 by omega]
    show List.Pairwise _ [_]
    exact List.pairwise_singleton _ _
 ·rw [if_neg h2, if_neg h2]
  refine wpAny_bind (pairs_kind hp6.at (by omega) ?_)
  obtain ⟨M, M0, hM⟩ := enc_ex cs
  have hMd : ∀ i, i < vs.length -> -M < 2 * (cs.getD i (0, 0)).2 /\ 2 * (cs.getD i (0, 0)).2 < M := fun i hi => by
   have : i < cs.length := by rw [<- hp.1]; exact hi
   rw [List.getD_eq_getElem?_getD, List.getElem?_eq_getElem this]
   exact hM _ (List.getElem_mem _)
  refine wpAny_bind (wpAny_mono (kat_run (κ := tuples' true) (vs := vs) (ks := vs) (s := { s with heap := ((s.heap.update a (Obj.mapSeq fun _ => #[])).push (seqObj "tuple" vs.toArray 0)).push (seqObj "list" #[] 0) }) (Q := fun st' s' => s' = { s with heap := ((s.heap.update a (Obj.mapSeq fun _ => #[])).push (seqObj "tuple" vs.toArray 0)).push (seqObj "list" #[] 0) } /\ failedOf st' = none /\ ∃ ix : List Nat, ix.Perm (List.range vs.length) /\ ((arrOf st').map (·.2)).toList = ix.map (fun i => vs.getD i .none) /\ (ix.map fun i => cs.getD i (0, 0)).Pairwise (fun c d => lexB d c = false))
   (G := fun p s' => s' = { s with heap := ((s.heap.update a (Obj.mapSeq fun _ => #[])).push (seqObj "tuple" vs.toArray 0)).push (seqObj "list" #[] 0) } /\ VP vs.length p /\ So (fun i => encP M (cs.getD i (0, 0))) p vs.length) rfl (by omega) h64 (fun p st' s' g1 g2 g3 ⟨g4, g5, g6⟩ => ⟨g4, g3, p.toList, g5, ?_, ?_⟩) (sort_ris (n := vs.length) (key := fun i => encP M (cs.getD i (0, 0))) (by omega) (fun i j C hi hj hC => ?_) fun p hp hs => ⟨rfl, hp, hs⟩)) ?_ fun _ _ e => e)
  ·rw [kat_snds rfl g2]
  ·rw [List.pairwise_map]
   have hps := g5.length_eq
   rw [List.length_range, Array.length_toList] at hps
   rw [List.pairwise_iff_getElem]
   intro i j hi hj hij
   rw [Array.length_toList] at hi hj
   have := g6 i j (by omega) (by omega)
   unfold Kp' at this
   have ei : p.getD i 0 = p.toList[i] := by simp [Array.getD, hi]
   have ej : p.getD j 0 = p.toList[j] := by simp [Array.getD, hj]
   rw [ei, ej] at this
   dsimp only at this
   have li : p.toList[i] < vs.length := List.mem_range.mp (g5.mem_iff.mp (List.getElem_mem _))
   have lj : p.toList[j] < vs.length := List.mem_range.mp (g5.mem_iff.mp (List.getElem_mem _))
   rw [enc_lex M0 (hMd _ lj) (hMd _ li)]
   apply decide_eq_false
   omega
  ·rw [kat_ask_eq (vs := vs) rfl]
   unfold kas_cmp
   rw [kat_item rfl, kat_item rfl]
   refine pair_ltR (hp6.2 i (by rw [<- hp.1]; exact hi)) (hp6.2 j (by rw [<- hp.1]; exact hj)) ?_
   rw [enc_lex M0 (hMd _ hi) (hMd _ hj)]
   exact hC
  rintro ⟨⟨⟩, st'⟩ s' ⟨rfl, hf, ix, hs, hs2, hs3⟩
  dsimp only
  refine wpAny_bind (seqEpoch_at ho6 rfl ?_)
  refine wpAny_bind (listUpdate_at ho6 rfl ?_ (hsz2 := by
   have e := congrArg List.length hs2
   rw [Array.length_toList, List.length_map, hs.length_eq, List.length_range] at e
   rw [sizeLine_eq]
   have e' : (Array.map (fun x => x.2) (arrOf st')).size = vs.length := e
   omega))
  rw [hf]
  simp only [bne_self_eq_false, Bool.false_eq_true, if_false]
  exact wpAny_pure (h _ ix hs hs2 hs3)
theorem sorted_pairsR {l : Addr} {vs : List Value} {cs : List (Int × Int)} {Q : Value -> Shared -> Prop} (hl : s.heap.IsList l vs.toArray) (hp : PairsAre s.heap cs vs) (h64 : vs.length < 64)
  (h : ∀ (out : Array Value) (ix : List Nat), ix.Perm (List.range vs.length) -> out.toList = ix.map (fun i => vs.getD i .none) -> (ix.map fun i => cs.getD i (0, 0)).Pairwise (fun c d => lexB d c = false) -> Q (.ref (s.heap.objs.size + 1)) { s with heap := sortedAll s.heap vs out }) :
  wpAny (model prog w) A (call (.builtin "sorted") [.ref l]) Q E s := by
 refine Calls.call_function_entry kind_sorted plain_sorted entry_sorted (args_sorted1 _) ?_
 unfold Builtin.«sorted»
 refine wpAny_bind (m := checkCount "sorted" 1 1 _) (wpAny_pure ?_)
 refine wpAny_bind (collect_list hl ?_)
 refine wpAny_bind (wpAny_newList ?_)
 have hsz : ((s.heap.push (seqObj "list" #[] 0)).update s.heap.objs.size (Obj.mapSeq (· ++ vs.toArray))).objs.size = s.heap.objs.size + 1 := by
  rw [Heap.size_update, size_push']
 have hoL : (((s.heap.push (seqObj "list" #[] 0)).update s.heap.objs.size (Obj.mapSeq (· ++ vs.toArray))).push (seqObj "list" vs.toArray 0)).get? (s.heap.objs.size + 1) = some (seqObj "list" vs.toArray 0) := by
  rw [<- hsz]; exact Heap.get?_push_size _ rfl
 have keep : ∀ b o, s.heap.get? b = some o -> (((s.heap.push (seqObj "list" #[] 0)).update s.heap.objs.size (Obj.mapSeq (· ++ vs.toArray))).push (seqObj "list" vs.toArray 0)).get? b = some o := fun b o q => by
  have hlt : b < s.heap.objs.size := Heap.lt_size q
  rw [Heap.get?_push_ne _ _ _ (by rw [hsz]; exact Nat.ne_of_lt (Nat.lt_succ_of_lt hlt)), Heap.get?_update_ne _ _ _ _ (Nat.ne_of_lt hlt), Heap.get?_push_ne _ _ _ (Nat.ne_of_lt hlt)]
  exact q
 show wpAny _ _ _ _ _ { s with heap := ((s.heap.push (seqObj "list" #[] 0)).update s.heap.objs.size (Obj.mapSeq (· ++ vs.toArray))).push (seqObj "list" vs.toArray 0) }
 rw [hsz]
 refine wpAny_bind (wpAny_holding (wpAny_call_entry slot_list_sort ⟨_, hoL, rfl⟩ entry_list_sort (list_sort_pairsR hoL ⟨hp.1, fun k hk => (hp.2 k hk).keep fun b o _ => keep b o⟩ (fun v hv z => ?_) h64 fun out ix a1 a2 a3 => ⟨_, rfl, ?_⟩) (args_list_sort _)))
 ·obtain ⟨b, o, i, j, t, u, m, rfl, g1, _⟩ := hp.at v hv
  have := Heap.lt_size g1
  have z' : b = s.heap.objs.size + 1 := by cases z; rfl
  rw [z'] at this
  exact absurd this (Nat.not_lt.mpr (Nat.le_succ _))
 ·exact wpAny_pure ⟨_, rfl, h out ix a1 a2 a3⟩
end
def rSortP (K : PySem.W.Frag) : List V -> Hp -> VK -> Prop := fun xs H Q => ∃ (p : Addr) (ys : List V) (cs : List (Int × Int)), xs = [.ref p] /\ SqL K H p ys /\ ys.length = cs.length /\ ys.length < 64 /\ (∀ k, k < cs.length -> ∃ a, ys.getD k (.int 0) = .ref a /\ H a = some (.tup [.int (cs.getD k (0, 0)).1, .int (cs.getD k (0, 0)).2])) /\
 ∀ ix : List Nat, ix.Perm (List.range ys.length) -> (ix.map fun i => cs.getD i (0, 0)).Pairwise (fun c d => lexB d c = false) -> ∀ l, H l = none -> Q (.ref l) (upd H l (.lst (ix.map fun i => ys.getD i (.int 0))))
theorem vals_ix {ys : List V} {vs : List Value} (h : Vals ys vs) : ∀ ix : List Nat, (∀ i ∈ ix, i < ys.length) -> Vals (ix.map fun i => ys.getD i (.int 0)) (ix.map fun i => vs.getD i Value.none)
  | [], _ => .nil
  | i :: ix, hi => by
    have hl := hi i (List.mem_cons_self ..)
    obtain ⟨v, hv, rv⟩ := h.get (i := i) (x := ys[i]) (List.getElem?_eq_getElem hl)
    refine .cons ?_ (vals_ix h ix fun j hj => hi j (List.mem_cons_of_mem _ hj))
    dsimp only
    rw [List.getD_eq_getElem?_getD, List.getElem?_eq_getElem hl, List.getD_eq_getElem?_getD, hv]
    exact rv
theorem call_sortP {X : Cx} : CallR X (.builtin "sorted") (rSortP X.K) := by
  intro pins s σ H xs us Q I rv h
  obtain ⟨p, ys, cs, rfl, hp, hyc, h64, hy, q⟩ := h
  obtain ⟨u, rfl, ru⟩ := vals1 rv
  cases ru
  obtain ⟨its, rs, il, hz⟩ := I.list hp
  have hl := rs.length
  refine sorted_pairsR (vs := its) (cs := cs) il.isList ⟨by omega, fun k hk => ?_⟩ (by omega) fun out ix ho ho2 ho3 => ?_
  · have hk' : k < ys.length := by omega
    obtain ⟨v', hv', rv'⟩ := rs.get (i := k) (x := ys[k]) (List.getElem?_eq_getElem hk')
    obtain ⟨a, ea, ha⟩ := hy k hk
    rw [List.getD_eq_getElem?_getD, List.getElem?_eq_getElem hk'] at ea
    have ea : ys[k] = .ref a := ea
    rw [ea] at rv'
    rw [List.getD_eq_getElem?_getD (l := its), hv']
    cases rv'
    obtain ⟨_, its2, rv2, o, g1, g2, m, g3⟩ := (show ObjOk X.prog X.w H s.heap a (.tup [.int (cs.getD k (0, 0)).1, .int (cs.getD k (0, 0)).2]) from I.hok a _ ha)
    cases rv2 with
    | cons x1 x2 =>
      cases x2 with
      | cons y1 y2 =>
        cases y2
        obtain ⟨t, rfl⟩ := x1
        obtain ⟨t2, rfl⟩ := y1
        exact ⟨a, o, t, t2, m, rfl, g1, g2, g3⟩
  · rw [hl.symm] at ho
    obtain ⟨e, ge⟩ := sortedAll_at s.heap its out
    have hlt : ∀ i ∈ ix, i < ys.length := fun i hi => List.mem_range.mp (ho.mem_iff.mp hi)
    have h1 := vals_ix rs ix hlt
    rw [<- ho2] at h1
    have new : ObjOk X.prog X.w (upd H (s.heap.objs.size + 1) (.lst (ix.map fun i => ys.getD i (.int 0)))) (sortedAll s.heap its out) (s.heap.objs.size + 1) (.lst (ix.map fun i => ys.getD i (.int 0))) := by
      refine ⟨?_, out.toList, e, h1, by simpa using ge⟩
      rw [List.length_map, ho.length_eq, List.length_range]; exact Nat.le_trans (Nat.le_of_lt h64) (by decide)
    exact ⟨.ref (s.heap.objs.size + 1), _, I.laid (t' := s.toks) (fun b o z => sortedAll_old z) (Nat.le_succ _) new, rfl, q ix ho ho3 _ (I.hok.fresh (Nat.le_succ _))⟩
theorem isDs_nth {nb : Addr -> Prop} {H : Hp} : ∀ {ds : List PyData} {xs : List V}, IsDs nb H ds xs -> ∀ k, k < ds.length -> IsD nb H (ds.getD k .none) (xs.getD k (.int 0))
  | [], xs, h, k, hk => absurd hk (Nat.not_lt_zero _)
  | d :: ds, xs, h, k, hk => by
    unfold IsDs at h
    obtain ⟨z, zs, rfl, h1, h2⟩ := h
    cases k with
    | zero => exact h1
    | succ k => exact isDs_nth h2 k (Nat.lt_of_succ_lt_succ hk)
theorem isDs_ix {nb : Addr -> Prop} {H : Hp} {ds : List PyData} {xs : List V} (h : IsDs nb H ds xs) : ∀ ix : List Nat, (∀ i ∈ ix, i < ds.length) -> IsDs nb H (ix.map fun i => ds.getD i .none) (ix.map fun i => xs.getD i (.int 0))
 | [], _ => .nil
 | i :: ix, hi => .cons (isDs_nth h i (hi i (List.mem_cons_self ..))) (isDs_ix h ix fun j hj => hi j (List.mem_cons_of_mem _ hj))
theorem ix_perm {α : Type} {x : α} {l : List α} {ix : List Nat} (h : ix.Perm (List.range l.length)) : (ix.map fun i => l.getD i x).Perm l := by
 have := h.map fun i => l.getD i x
 refine this.trans (List.Perm.of_eq ?_)
 refine List.ext_getElem? fun k => ?_
 rw [List.getElem?_map]
 by_cases hk : k < l.length
 ·rw [List.getElem?_range hk, List.getElem?_eq_getElem hk]; simp [hk]
 ·rw [List.getElem?_eq_none (by rw [List.length_range]; omega), List.getElem?_eq_none (by omega)]; rfl
theorem EvN.sortP {G : Gx} {ρ : Rh} {te : TE} {K : PySem.W.Frag} {Θ : Bool -> List PyData -> Prop} (h : Ev G ρ te fun f x => ∃ cs : Cn, x = .list (cs.map pairD) /\ cs.length < 64 /\ ∀ (cs' : Cn) (g : Bool), cs'.Perm cs -> cs'.Pairwise (fun c d => lexB d c = false) -> Θ g (cs'.map pairD)) : EvN G ρ (tCB (rSortP K) (tCons te tNil)) Θ := fun nb σ H Q W z =>
 h nb σ H _ W fun f v H1 x ⟨cs, ex, hn, q⟩ s1 hv => by
  subst ex
  obtain ⟨a, xs, rfl, na, hx, hd⟩ := hv.ofL
  have hl := hd.length
  rw [List.length_map] at hl
  refine ⟨a, xs, cs, rfl, .of hx, hl, by omega, fun k hk => ?_, fun ix hix hr l hll => ?_⟩
  ·have hk' : k < xs.length := by omega
   have hm : xs.getD k (.int 0) ∈ xs := by rw [List.getD_eq_getElem?_getD, List.getElem?_eq_getElem hk']; exact List.getElem_mem _
   have h1 := isDs_nth hd k (by rw [List.length_map]; exact hk)
   have e : (cs.map pairD).getD k .none = pairD (cs.getD k (0, 0)) := by rw [List.getD_eq_getElem?_getD, List.getElem?_map, List.getD_eq_getElem?_getD, List.getElem?_eq_getElem hk]; rfl
   rw [e] at h1
   obtain ⟨b, ws, eb, n, hx, hd⟩ := h1.ofT
   have : ws = [V.int (cs.getD k (0, 0)).1, V.int (cs.getD k (0, 0)).2] := isDs_ints_eq (is := [(cs.getD k (0, 0)).1, (cs.getD k (0, 0)).2]) hd
   subst this
   exact ⟨b, eb, hx⟩
  ·rw [hl] at hix
   have hlt : ∀ i ∈ ix, i < cs.length := fun i hi => List.mem_range.mp (hix.mem_iff.mp hi)
   have e : (ix.map fun i => (cs.map pairD).getD i .none) = (ix.map fun i => cs.getD i (0, 0)).map pairD := by
    rw [List.map_map]
    apply List.map_congr_left
    intro i hi
    show (cs.map pairD).getD i .none = pairD (cs.getD i (0, 0))
    rw [List.getD_eq_getElem?_getD, List.getElem?_map, List.getD_eq_getElem?_getD, List.getElem?_eq_getElem (hlt i hi)]; rfl
   have h2 := isDs_ix hd ix fun i hi => by rw [List.length_map]; exact hlt i hi
   rw [e] at h2
   exact EvN.fin (f := f) W s1 hll h2 (q _ _ (ix_perm hix) hr) z
end L2
set_option maxRecDepth 100000
set_option maxHeartbeats 4000000
set_option maxRecDepth 100000
set_option maxHeartbeats 4000000
set_option maxRecDepth 100000
set_option maxHeartbeats 4000000
set_option maxRecDepth 100000
set_option maxHeartbeats 4000000
set_option maxRecDepth 100000
set_option maxHeartbeats 1000000
set_option maxRecDepth 100000
set_option maxHeartbeats 4000000
namespace L2
open PySem PySem.Spec PyProof.Rows
def CntK (L : List Int) (ks : Ks) : Prop := ∃ ms : List Int, ms.Nodup /\ (∀ c, c ∈ ms ↔ c ∈ L) /\ ks = ms.map fun c => (c, PyData.int (L.count c))
theorem valI_mapK {g : Int -> PyData} {c : Int} : ∀ {ms : List Int}, valI (ms.map fun c => (c, g c)) c = if c ∈ ms then some (g c) else none
  | [] => rfl
  | m :: ms => by
    rw [List.map_cons, valI_cons, valI_mapK]
    by_cases h : m = c
    · subst h; simp
    · have h' : ¬ c = m := fun z => h z.symm
      simp [h, h']
theorem CntK.nil : CntK [] [] := ⟨[], List.nodup_nil, fun _ => Iff.rfl, rfl⟩
theorem CntK.get {L : List Int} {ks : Ks} (h : CntK L ks) (c : Int) : (valI ks c).getD (.int 0) = .int (L.count c) := by
 obtain ⟨ms, nd, hm, rfl⟩ := h
 rw [valI_mapK]
 by_cases e : c ∈ ms
 ·rw [if_pos e]; rfl
 ·rw [if_neg e]
  have : L.count c = 0 := List.count_eq_zero.mpr fun z => e ((hm c).mpr z)
  rw [this]; rfl
theorem CntK.put {L : List Int} {ks : Ks} (h : CntK L ks) (c : Int) : CntK (L ++ [c]) (putI ks c (.int ((L.count c : Int) + 1))) := by
 obtain ⟨ms, nd, hm, rfl⟩ := h
 have hcc : ∀ x, (L ++ [c]).count x = L.count x + if c = x then 1 else 0 := fun x => by
  rw [List.count_append, List.count_singleton]
  by_cases e : c = x
  ·subst e; simp
  ·simp [e]
 unfold putI
 have hk : hasI (ms.map fun c => (c, PyData.int (L.count c))) c = decide (c ∈ ms) := by
  rw [Bool.eq_iff_iff, hasI_iff, List.map_map, decide_eq_true_eq]
  have : (ms.map ((·.1) ∘ fun c => (c, PyData.int (L.count c)))) = ms := List.map_id'' (fun _ => rfl) ms
  rw [this]
 rw [hk]
 by_cases e : c ∈ ms
 ·rw [if_pos (decide_eq_true e)]
  refine ⟨ms, nd, fun x => ?_, ?_⟩
  ·rw [List.mem_append, List.mem_singleton, hm x]
   exact ⟨.inl, fun z => z.elim id fun z => by rw [z]; exact (hm c).mp e⟩
  ·rw [List.map_map]
   apply List.map_congr_left
   intro x hx
   show (if x = c then (x, PyData.int ((L.count c : Int) + 1)) else (x, .int (L.count x))) = _
   rw [hcc x]
   by_cases z : x = c
   ·subst z; simp
   ·rw [if_neg z, if_neg (fun w => z w.symm)]; rfl
 ·rw [if_neg (by simpa using e)]
  refine ⟨ms ++ [c], ?_, fun x => ?_, ?_⟩
  ·rw [List.nodup_append]
   exact ⟨nd, by simp, fun a ha b hb z => by rw [List.mem_singleton.mp hb] at z; exact e (z ▸ ha)⟩
  ·rw [List.mem_append, List.mem_append, hm x]
  ·rw [List.map_append]
   congr 1
   ·apply List.map_congr_left
    intro x hx
    rw [hcc x, if_neg (fun w => by subst w; exact e hx)]; rfl
   ·show [(c, PyData.int ((L.count c : Int) + 1))] = [(c, PyData.int (((L ++ [c]).count c : Nat) : Int))]
    rw [hcc c, if_pos rfl]; rfl
end L2
set_option maxRecDepth 100000
set_option maxHeartbeats 4000000
set_option maxRecDepth 100000
set_option maxHeartbeats 4000000
namespace L2
open PySem PySem.Spec PyProof.Rows
@[reducible] def insK (S : List Int) : Ks := S.map fun x => (x, PyData.bool true)
end L2
set_option maxRecDepth 100000
set_option maxHeartbeats 4000000
set_option maxRecDepth 100000
set_option maxHeartbeats 4000000
set_option maxRecDepth 100000
set_option maxHeartbeats 4000000
set_option maxRecDepth 100000
set_option maxHeartbeats 4000000
namespace L2
open PySem PySem.Spec PyProof.Rows
def gI (r : List Int) (i : Nat) : Int := r.getD i 0
theorem Ev.inv {G : Gx} {ρ : Rh} {t : TA} {Φ : Pd} (h : Av G ρ t fun es => ∃ p b : Int, es.map (·.2) = [.int p, .int b] /\ PrimeZ p /\ p < 10 ^ 40 /\ b % p ≠ 0 /\ ∀ u : Int, 0 <= u -> u < p -> (∃ k, u * b = 1 + p * k) -> Φ true (.int u)) :
  Ev G ρ (tCall spInverse [] E0 t) Φ := fun nb σ H Q W z =>
 h nb σ H _ W fun es vs H1 ⟨p, b, e, h1, h2, h3, q⟩ s1 q1 => by
  have hd := q1.all (f := false) (fun z => by cases z)
  rw [e] at hd
  unfold IsDs at hd
  obtain ⟨x, ys, rfl, d1, hd⟩ := hd
  unfold IsDs at hd
  obtain ⟨y, zs, rfl, d2, hd⟩ := hd
  unfold IsDs at hd
  subst hd
  rw [d1.ofI, d2.ofI]
  exact ⟨p, b, rfl, h1, h2, h3, fun u u0 u1 u2 => z true _ H1 _ (q u u0 u1 u2) s1 (.int u)⟩
def co (prs : Prs) (j : Nat) : Int := (prs.map fun pr => if pr.1.toNat = j then pr.2 else 0).sum
def PrsQ (p : Int) (m : Nat) (prs : Prs) : Prop := (prs.map (·.1)).Nodup /\ prs.length <= 1000 /\ ∀ pr ∈ prs, 0 <= pr.1 /\ pr.1 < m /\ 1 <= pr.2 /\ pr.2 < p
end L2
set_option maxRecDepth 100000
set_option maxHeartbeats 4000000
namespace L2
open PySem PySem.Spec PyProof.Rows
def Itk (a : Addr) (o : Obj) (ps : List (Key × V)) : It :=
 ⟨fun i H => H a = some (.frz o (.dK ps)) /\ i < ps.length, fun i H x H' => H' = H /\ ∃ p, ps[i]? = some p /\ x = kV p.1, fun i H => H a = some (.frz o (.dK ps)) /\ ps.length = i⟩
theorem rel_key {P : Program} {w : World} {k : Key} {v : Value} (h : (mixKind P w).is k v = true) : RelV (kV k) v := by
 cases k with
 | inl i => obtain ⟨t, rfl⟩ := Value.isInt_shape (k := i) (v := v) h; exact ⟨t, rfl⟩
 | inr x => obtain ⟨t, rfl⟩ := Value.isStrOf_shape (v := v) h; exact ⟨t, rfl⟩
theorem turn_keys {P : Program} {w : World} {K : PySem.W.Frag} {tg : Expr} (a it : Addr) (hne : a ≠ it) {o : Obj} {ps : List (Key × V)} {vs : List (Key × Value)} {ep : Nat} (rel : KV ps vs)
  (hD : ∀ h : Heap, h.get? a = some o -> h.DictAt (mixKind P w) a vs ep) : Turn P w K tg (Itk a o ps) [it] it (fun i h => h.IsKeyIter it a i vs.length ep) where
 mem := by simp
 obj := fun i h st b hb => by
  have e : b = it := by simpa using hb
  subst e
  obtain ⟨o, e, c, d⟩ := st
  exact ⟨o, e, fun v z => by rw [d] at z; cases z⟩
 keep := fun i h h' st k => st.at fun o e => k it (by simp) o e
 item := by
  intro X hP hw hK hc i pins s σ H E I hf st hg
  subst hP hw hK
  obtain ⟨hq, hi⟩ := hg
  obtain ⟨ho, _⟩ := (show ObjOk X.prog X.w H s.heap a (.frz o (.dK ps)) from I.hok a _ hq)
  have W := Walks.dictKeys (knd := mixKind X.prog X.w) (A := X.A) (I.ok.hd hc) it a hne vs ep
  obtain ⟨f0, f1, f2, f3, f4, f5⟩ := hf it (by simp)
  refine W.item i s _ _ (by rw [<- rel.length]; exact hi) ⟨st, hD _ ho⟩ fun v h' tk hv st' kp => ?_
  obtain ⟨k, x, hk, hkv⟩ := hv
  have I1 : Inv X pins σ H { s with heap := h', toks := tk } := I.turned (t' := tk) (fun b o hb e => kp b o (by simpa using hb) e) f0 f1 f3 f4 f5
  obtain ⟨oi, e, c, d⟩ := id st'.1
  have hpk : ∃ p, ps[i]? = some p /\ kV k = kV p.1 := by
   have h1 : (ps.map (·.1))[i]? = (vs.map (·.1))[i]? := by rw [rel.keys]
   rw [List.getElem?_map, List.getElem?_map, hk, List.getElem?_eq_getElem hi] at h1
   exact ⟨_, List.getElem?_eq_getElem hi, congrArg kV (Option.some.inj h1).symm⟩
  exact ⟨v, rfl, go_of (s := { s with heap := h', toks := tk }) e c d (by decide) ⟨kV k, H, I1, rel_key hkv, ⟨rfl, hpk⟩, st'.1, fun b hb => (hf b hb).1⟩⟩
 done := by
  intro X hP hw hK hc i pins s σ H E I hf st hg
  subst hP hw hK
  obtain ⟨hq, hi⟩ := hg
  obtain ⟨ho, _⟩ := (show ObjOk X.prog X.w H s.heap a (.frz o (.dK ps)) from I.hok a _ hq)
  have W := Walks.dictKeys (knd := mixKind X.prog X.w) (A := X.A) (I.ok.hd hc) it a hne vs ep
  obtain ⟨f0, f1, f2, f3, f4, f5⟩ := hf it (by simp)
  have hl := rel.length
  refine W.done s _ _ ⟨by rw [<- hl, hi]; rw [<- hl, hi] at st; exact st, hD _ ho⟩ fun h' tk kp => ⟨rfl, ?_⟩
  exact I.turned (t' := tk) (fun b o hb e => kp b o (by simpa using hb) e) f0 f1 f3 f4 f5
 self := fun _ _ _ _ _ st h => wpAny_pyIter_keyiter st h
def NFx (X : Cx) (a : Addr) : Prop := ∀ o u, X.H₀ a ≠ some (.frz o u)
section
variable {X : Cx} {pins : List (Addr × Obj)} {σ : List (Option V)} {H : Hp} {s : Shared}
theorem Inv.freeze {a : Addr} {ps : List (Key × V)} {o : Obj} (I : Inv X pins σ H s) (h : H a = some (.dK ps)) (ho : s.heap.get? a = some o) : Inv X pins σ (upd H a (.frz o (.dK ps))) s := by
 have ne : ∀ b u, H b = some u -> (∀ z, u ≠ .dK z) -> b ≠ a := fun b u q z e => by subst e; rw [h] at q; cases q; exact z _ rfl
 have nn : ∀ b, H b = none -> b ≠ a := fun b q e => by subst e; rw [h] at q; cases q
 refine I.step (h' := s.heap) (g' := s.gens) (d' := s.drawn) (t' := s.toks) (ch := []) (fun _ z => nomatch z) (fun b o _ _ _ e _ => e) (fun b o _ _ _ e _ => ⟨o.slots, e⟩) (fun b o _ e n => by rw [upd_ne (nn b n)]; exact n) (fun b o _ e => ⟨o, e⟩)
  (fun b xs q => by rw [upd_ne (ne b _ q (fun z => nofun))]; exact q) (fun b o u q => by rw [upd_ne (ne b _ q (fun z => nofun))]; exact q) (fun b p q => ⟨#[], by rw [upd_ne (ne b _ q (fun z => nofun)), q]; simp⟩) (fun m hm => hm) (fun b u q => ?_) I.bare
 by_cases hb : b = a
 ·subst hb
  rw [upd_same] at q; cases q
  refine ⟨ho, (I.hok b _ h).stay (fun c v hc z => z) (fun c z => ?_) fun c xs z => ?_⟩
  ·rw [upd_ne (ne c _ z (fun z => nofun))]; exact z
  ·rw [upd_ne (ne c _ z (fun z => nofun))]; exact z
 ·rw [upd_ne hb] at q
  refine (I.hok b u q).stay (fun c v hc z => z) (fun c z => ?_) fun c xs z => ?_
  ·rw [upd_ne (ne c _ z (fun z => nofun))]; exact z
  ·rw [upd_ne (ne c _ z (fun z => nofun))]; exact z
theorem Inv.thaw {a : Addr} {ps : List (Key × V)} {o : Obj} (I : Inv X pins σ H s) (h : H a = some (.frz o (.dK ps))) (nf : NFx X a) : Inv X pins σ (upd H a (.dK ps)) s := by
 have ne : ∀ b u, H b = some u -> (∀ z z', u ≠ .frz z z') -> b ≠ a := fun b u q z e => by subst e; rw [h] at q; cases q; exact z _ _ rfl
 have nn : ∀ b, H b = none -> b ≠ a := fun b q e => by subst e; rw [h] at q; cases q
 refine ⟨I.ok, I.os, I.bare, ⟨I.base.keep, I.base.slot, fun b o q n hx => ?_, I.base.there, fun b xs q => ?_, fun b o u q => ?_, fun b p q => ?_⟩, I.loc, I.cell, ?_, fun x c e => ?_, fun p hp => ?_, fun b u q => ?_, I.len⟩
 ·have z := I.base.free b o q n hx
  rw [upd_ne (nn b z)]; exact z
 ·have z := I.base.tups b xs q
  rw [upd_ne (ne b _ z (fun _ z => nofun))]; exact z
 ·have z := I.base.frzs b o u q
  have : b ≠ a := fun e => by subst e; exact nf _ _ q
  rw [upd_ne this]; exact z
 ·obtain ⟨m, z⟩ := I.base.tbls b p q
  exact ⟨m, by rw [upd_ne (ne b _ z (fun _ z => nofun))]; exact z⟩
 ·rw [upd_ne (nn _ I.free)]; exact I.free
 ·rw [upd_ne (nn _ (I.freeC x c e))]; exact I.freeC x c e
 ·obtain ⟨z1, z2, z3⟩ := I.pin p hp
  exact ⟨z1, by rw [upd_ne (nn _ z2)]; exact z2, z3⟩
 ·by_cases hb : b = a
  ·subst hb
   rw [upd_same] at q; cases q
   have w := (show ObjOk X.prog X.w H s.heap b (.dK ps) from (Rd.ok (.inr ⟨o, h⟩) I.hok))
   refine w.stay (fun c v hc z => z) (fun c z => ?_) fun c xs z => ?_
   ·rw [upd_ne (ne c _ z (fun _ z => nofun))]; exact z
   ·rw [upd_ne (ne c _ z (fun _ z => nofun))]; exact z
  ·rw [upd_ne hb] at q
   refine (I.hok b u q).stay (fun c v hc z => z) (fun c z => ?_) fun c xs z => ?_
   ·rw [upd_ne (ne c _ z (fun _ z => nofun))]; exact z
   ·rw [upd_ne (ne c _ z (fun _ z => nofun))]; exact z
end
def Thw (NF : Addr -> Prop) (Q : Hp -> Prop) (H : Hp) : Prop := Q H \/ ∃ a o ps, H a = some (.frz o (.dK ps)) /\ NF a /\ Q (upd H a (.dK ps))
def thawD (NF : Addr -> Prop) (D : Ends) : Ends := { nx := fun σ => Thw NF (D.nx σ), rt := fun v => Thw NF (D.rt v), bk := fun σ => Thw NF (D.bk σ), ct := fun σ => Thw NF (D.ct σ) }
def tThaw (NF : Addr -> Prop) (ts : TS) : TS := fun D σ H => ts (thawD NF D) σ H
section
variable {X : Cx}
theorem Thw.inv {pins : List (Addr × Obj)} {σ : St} {H : Hp} {s : Shared} {Q : Hp -> Prop} (I : Inv X pins σ H s) (h : Thw (NFx X) Q H) : ∃ H', Inv X pins σ H' s /\ Q H' := by
 rcases h with h | ⟨a, o, ps, e, nf, q⟩
 ·exact ⟨H, I, h⟩
 ·exact ⟨_, I.thaw e nf, q⟩
theorem ps_thaw {st : Stmt} {ts : TS} (h : PS X st ts) : PS X st (tThaw (NFx X) ts) := by
 intro pins s σ H D I q
 refine thn (h pins s σ H _ I q) fun f s7 q7 => ?_
 cases f with
 | next => obtain ⟨σ7, H7, I7, n7⟩ := q7; obtain ⟨H8, I8, q8⟩ := Thw.inv I7 n7; exact ⟨σ7, H8, I8, q8⟩
 | cont => obtain ⟨σ7, H7, I7, n7⟩ := q7; obtain ⟨H8, I8, q8⟩ := Thw.inv I7 n7; exact ⟨σ7, H8, I8, q8⟩
 | brk => obtain ⟨σ7, H7, I7, n7⟩ := q7; obtain ⟨H8, I8, q8⟩ := Thw.inv I7 n7; exact ⟨σ7, H8, I8, q8⟩
 | ret v => obtain ⟨x7, σ7, H7, I7, r7, n7⟩ := q7; obtain ⟨H8, I8, q8⟩ := Thw.inv I7 n7; exact ⟨x7, σ7, H8, I8, r7, q8⟩
def iKeys (NF : Addr -> Prop) (tl : TE) : TI := fun σ H R => tl σ H fun x H1 => ∃ a ps, x = .ref a /\ ((H1 a = some (.dK ps) /\ ∀ o, NF a -> R (Itk a o ps) (upd H1 a (.frz o (.dK ps)))) \/ ∃ o, H1 a = some (.frz o (.dK ps)) /\ R (Itk a o ps) H1)
theorem pi_keys {tg l : Expr} {tl : TE} (hl : PE X l tl) : PI X tg l (iKeys (NFx X) tl) := by
 intro pins s σ H R I h
 refine thn (hl pins s σ H _ I h) fun v s1 ⟨x, H1, I1, r1, q1⟩ => ?_
 obtain ⟨a, ps, e, q⟩ := q1
 subst e
 cases r1
 have key : ∃ o H2, s1.heap.get? a = some o /\ H2 a = some (.frz o (.dK ps)) /\ Inv X pins σ H2 s1 /\ R (Itk a o ps) H2 := by
  rcases q with ⟨h1, q⟩ | ⟨o, h1, q⟩
  ·obtain ⟨z, hd, vs, rel, o, es, ep, ho, r⟩ := dk_of I1.hok h1
   refine ⟨o, _, ho, upd_same, I1.freeze h1 ho, q o fun o' u' z => ?_⟩
   rw [I1.base.frzs _ _ _ z] at h1; cases h1
  ·obtain ⟨ho, _⟩ := (show ObjOk X.prog X.w H1 s1.heap a (.frz o (.dK ps)) from I1.hok a _ h1)
   exact ⟨o, H1, ho, h1, I1, q⟩
 obtain ⟨o, H2, ho, h2, I2, q⟩ := key
 obtain ⟨z, hd, vs, rel, dd⟩ := dk_rd I2.hok (.inr ⟨o, h2⟩)
 obtain ⟨ep, hat⟩ := dd.dictAt
 refine wpAny_pyIter_dict hd hat ?_
 refine ⟨s1.heap.objs.size, [s1.heap.objs.size], _, _, H2, rfl, I2.kept (t' := s1.toks) fun b o e => Heap.get?_push_of_some _ e, turn_keys a _ (Nat.ne_of_lt (Heap.lt_size ho)) rel (fun h hh => hat.at' fun o' e => by rw [ho] at e; cases e; exact hh), ⟨_, Heap.get?_push_size _ rfl, rfl, rfl⟩, fun b hb => ?_, q⟩
 have e : b = s1.heap.objs.size := by simpa using hb
 subst e
 exact I2.fpOk (Nat.le_refl _) (I2.hok.fresh (Nat.le_refl _))
end
structure Mv (H H' : Hp) : Prop where
 lst : ∀ b xs, H b = some (.lst xs) -> H' b = some (.lst xs)
 tup : ∀ b xs, H b = some (.tup xs) -> H' b = some (.tup xs)
 dic : ∀ b ps, Rd H b (.dK ps) -> Rd H' b (.dK ps)
mutual
theorem IsD.mv {S : Addr -> Prop} {H H' : Hp} (m : Mv H H') : ∀ {d : PyData} {v : V}, IsD S H d v -> IsD S H' d v
 | .none, _, h => by unfold IsD at h ⊢; exact h
 | .bool _, _, h => by unfold IsD at h ⊢; exact h
 | .int _, _, h => by unfold IsD at h ⊢; exact h
 | .str _, _, h => by unfold IsD at h ⊢; exact h
 | .list ds, _, h => by unfold IsD at h ⊢; obtain ⟨a, xs, e, n, s, r⟩ := h; exact ⟨a, xs, e, n, m.lst _ _ s, IsDs.mv m r⟩
 | .tuple ds, _, h => by unfold IsD at h ⊢; obtain ⟨a, xs, e, n, s, r⟩ := h; exact ⟨a, xs, e, n, m.tup _ _ s, IsDs.mv m r⟩
 | .dict kvs, _, h => by unfold IsD at h ⊢; obtain ⟨a, xs, e, n, s, r⟩ := h; exact ⟨a, xs, e, n, m.dic _ _ s, IsKs.mv m r⟩
theorem IsDs.mv {S : Addr -> Prop} {H H' : Hp} (m : Mv H H') : ∀ {ds : List PyData} {vs : List V}, IsDs S H ds vs -> IsDs S H' ds vs
 | [], _, h => by unfold IsDs at h ⊢; exact h
 | d :: ds, _, h => by unfold IsDs at h ⊢; obtain ⟨y, ys, e, h1, h2⟩ := h; exact ⟨y, ys, e, IsD.mv m h1, IsDs.mv m h2⟩
theorem IsKs.mv {S : Addr -> Prop} {H H' : Hp} (m : Mv H H') : ∀ {ds : List (PyData × PyData)} {vs : List (Key × V)}, IsKs S H ds vs -> IsKs S H' ds vs
 | [], _, h => by unfold IsKs at h ⊢; exact h
 | d :: ds, _, h => by unfold IsKs at h ⊢; obtain ⟨y, ys, e, h1, h2⟩ := h; exact ⟨y, ys, e, IsK.mv m h1, IsKs.mv m h2⟩
theorem IsK.mv {S : Addr -> Prop} {H H' : Hp} (m : Mv H H') : ∀ {d : PyData × PyData} {v : Key × V}, IsK S H d v -> IsK S H' d v
 | (k, d), _, h => by unfold IsK at h ⊢; exact ⟨h.1, IsD.mv m h.2⟩
end
theorem Mv.frz {H : Hp} {a : Addr} {o : Obj} {ps : List (Key × V)} (h : H a = some (.dK ps)) : Mv H (upd H a (.frz o (.dK ps))) where
 lst := fun b xs q => by rw [upd_ne (fun e => by subst e; rw [h] at q; cases q)]; exact q
 tup := fun b xs q => by rw [upd_ne (fun e => by subst e; rw [h] at q; cases q)]; exact q
 dic := fun b qs q => by
  by_cases e : b = a
  ·subst e
   rcases q with q | ⟨u, q⟩
   ·rw [h] at q; cases q; exact .inr ⟨o, upd_same⟩
   ·rw [h] at q; cases q
  ·rcases q with q | ⟨u, q⟩
   ·exact .inl (by rw [upd_ne e]; exact q)
   ·exact .inr ⟨u, by rw [upd_ne e]; exact q⟩
theorem Mv.thaw {H : Hp} {a : Addr} {o : Obj} {ps : List (Key × V)} (h : H a = some (.frz o (.dK ps))) : Mv H (upd H a (.dK ps)) where
 lst := fun b xs q => by rw [upd_ne (fun e => by subst e; rw [h] at q; cases q)]; exact q
 tup := fun b xs q => by rw [upd_ne (fun e => by subst e; rw [h] at q; cases q)]; exact q
 dic := fun b qs q => by
  by_cases e : b = a
  ·subst e
   rcases q with q | ⟨u, q⟩
   ·rw [h] at q; cases q
   ·rw [h] at q; cases q; exact .inl upd_same
  ·rcases q with q | ⟨u, q⟩
   ·exact .inl (by rw [upd_ne e]; exact q)
   ·exact .inr ⟨u, by rw [upd_ne e]; exact q⟩
def fzH (a : Addr) (u : HO) (H : Hp) : Hp := fun b => if b = a /\ H a ≠ none then some u else H b
theorem fzH_none {a b : Addr} {u : HO} {H : Hp} : fzH a u H b = none ↔ H b = none := by
 unfold fzH
 by_cases c : b = a /\ H a ≠ none
 ·rw [if_pos c]
  constructor
  ·intro z; cases z
  ·intro z; rw [c.1] at z; exact absurd z c.2
 ·rw [if_neg c]
theorem fzH_ne {a b : Addr} {u : HO} {H : Hp} (h : b ≠ a) : fzH a u H b = H b := by
 unfold fzH; rw [if_neg (fun z => h z.1)]
abbrev Gx.fz (G : Gx) (a : Addr) (o : Obj) (ps : List (Key × V)) : Gx := { G with H0 := fzH a (.frz o (.dK ps)) G.H0, hold := (false, .fz o ps, .ref a) :: G.hold }
section
variable {G : Gx} {ρ ρc : Rh} {Φ Ψ : Pd} {ta tb te : TE} {t : TA} {i : Nat} {f g : Bool} {d e : PyData} {ds es : List PyData} {K : PySem.W.Frag} {nb : Addr -> Prop} {σ : St} {H : Hp} {a : Addr} {o : Obj} {ps : List (Key × V)}
theorem Gx.fz_S {b : Addr} : (G.fz a o ps).S nb f b ↔ G.S nb f b := by
 unfold Gx.S
 constructor
 ·rintro (z | z | z | ⟨z, q⟩)
  ·exact .inl z
  ·exact .inr (.inl z)
  ·exact .inr (.inr (.inl z))
  ·exact .inr (.inr (.inr ⟨z, fun w => q (fzH_none.mpr w)⟩))
 ·rintro (z | z | z | ⟨z, q⟩)
  ·exact .inl z
  ·exact .inr (.inl z)
  ·exact .inr (.inr (.inl z))
  ·exact .inr (.inr (.inr ⟨z, fun w => q (fzH_none.mp w)⟩))
theorem BagAt.mv {H H' : Hp} {b l : Addr} (h : BagAt H b l) (k : ∀ c xs, H c = some (.lst xs) -> H' c = some (.lst xs)) : BagAt H' b l := by
 obtain ⟨ns, x1, x2, x3, x4, h1, h2, h3⟩ := h
 exact ⟨ns, x1, x2, x3, x4, k _ _ h1, k _ _ h2, h3⟩
theorem Wd.freeze (W : Wd G nb ρ σ H) (h : H a = some (.dK ps)) (hS : ¬ G.S nb false a) : Wd (G.fz a o ps) nb ρ σ (upd H a (.frz o (.dK ps))) := by
  have mv := Mv.frz (o := o) h
  have hN : NB G.B a := Classical.byContradiction fun z => hS (.inr (.inr (.inl z)))
  have hnb : ¬ nb a := fun z => hS (.inl z)
  have hG : ∀ u, G.H0 a = some u -> u = .dK ps := fun u e => by have := W.old a u hN e; rw [h] at this; exact (Option.some.inj this).symm
  have toS : ∀ f b, (G.fz a o ps).S nb f b -> G.S nb f b := fun f b z => Gx.fz_S.mp z
  refine ⟨fun b l e => (W.bag b l e).mv mv.lst, fun b n => ?_, fun b u n e => ?_, fun b n q => fzH_none.mpr (W.nbo b n q), fun b n e => W.gA b n (fzH_none.mp e), W.len, fun b l e => (W.gB b l e).mv fun c xs q => ?_, fun x m => ?_, fun i s e => ?_, W.apart, W.apd, W.apc⟩
  · by_cases hb : b = a
    · subst hb; exact absurd n hnb
    · rw [upd_ne hb]; exact W.live b n
  · by_cases hb : b = a
    · subst hb
      rw [upd_same]
      change fzH b _ G.H0 b = some u at e
      unfold fzH at e
      by_cases c : b = b /\ G.H0 b ≠ none
      · rw [if_pos c] at e; exact e
      · rw [if_neg c] at e; exact absurd ⟨rfl, by rw [e]; exact Option.some_ne_none _⟩ c
    · rw [upd_ne hb]
      change fzH a _ G.H0 b = some u at e
      rw [fzH_ne hb] at e
      exact W.old b u n e
  · have hc : c ≠ a := fun z => by subst z; have := hG _ q; cases this
    show fzH a _ G.H0 c = _
    rw [fzH_ne hc]; exact q
  · rcases List.mem_cons.mp m with e | m
    · subst e
      exact ⟨a, rfl, fun z => hS (toS _ _ z), upd_same⟩
    · have w := W.hld x m
      obtain ⟨f, x, v⟩ := x
      cases x with
      | d x => exact (IsD.mv mv w).av (toS f)
      | fz u qs =>
        obtain ⟨c, e1, e2, e3⟩ := w
        by_cases hc : c = a
        · subst hc
          rw [h] at e3; cases e3
        · exact ⟨c, e1, fun z => e2 (toS _ _ z), by rw [upd_ne hc]; exact e3⟩
  · obtain ⟨x, e1, w⟩ := W.ok i s e
    refine ⟨x, e1, ?_⟩
    cases s with
    | no => trivial
    | d f d => obtain ⟨v, e, w⟩ := w; exact ⟨v, e, (IsD.mv mv w).av (toS f)⟩
    | own c f es => obtain ⟨e, n, q, xs, hx, hd⟩ := w; exact ⟨e, n, q, xs, mv.lst _ _ hx, (IsDs.mv mv hd).av (toS f)⟩
    | bag => exact w
    | raw v => exact w
    | dic c f es =>
      obtain ⟨e, n, q, xs, hx, hd⟩ := w
      exact ⟨e, n, q, xs, by rw [upd_ne (fun z => by subst z; exact hnb n)]; exact hx, (IsKs.mv mv hd).av (toS f)⟩
    | cu c =>
      obtain ⟨e, n, q⟩ := w
      exact ⟨e, n, c.av (toS c.f) (c.keep ⟨fun b hb o e => by rw [upd_ne (fun z => by subst z; exact hnb (n _ hb).1)]; exact e, fun b xs _ => mv.lst b xs, fun b xs _ => mv.tup b xs, fun b qs _ => mv.dic b qs⟩ q)⟩
theorem Wd.thaw (W : Wd (G.fz a o ps) nb ρ σ H) (hG : ∀ u, G.H0 a = some u -> u = .dK ps) (hF : ∀ f o' qs v, (f, HD.fz o' qs, v) ∈ G.hold -> v ≠ .ref a) : Wd G nb ρ σ (upd H a (.dK ps)) /\ H a = some (.frz o (.dK ps)) := by
  obtain ⟨a', ea, hS', h⟩ := (show IsH ((G.fz a o ps).S nb false) H (.fz o ps) (.ref a) from W.hld _ (List.mem_cons_self ..))
  cases ea
  have mv := Mv.thaw h
  have toS : ∀ f b, G.S nb f b -> (G.fz a o ps).S nb f b := fun f b z => Gx.fz_S.mpr z
  have hS : ¬ G.S nb false a := fun z => hS' (toS _ _ z)
  have hN : NB G.B a := Classical.byContradiction fun z => hS (.inr (.inr (.inl z)))
  have hnb : ¬ nb a := fun z => hS (.inl z)
  refine ⟨⟨fun b l e => (W.bag b l e).mv mv.lst, fun b n => ?_, fun b u n e => ?_, fun b n q => fzH_none.mp (W.nbo b n q), fun b n e => W.gA b n (fzH_none.mpr e), W.len, fun b l e => (W.gB b l e).mv fun c xs q => ?_, fun x m => ?_, fun i s e => ?_, W.apart, W.apd, W.apc⟩, h⟩
  · by_cases hb : b = a
    · subst hb; exact absurd n hnb
    · rw [upd_ne hb]; exact W.live b n
  · by_cases hb : b = a
    · subst hb
      rw [upd_same, hG u e]
    · rw [upd_ne hb]
      exact W.old b u n (by show fzH a _ G.H0 b = _; rw [fzH_ne hb]; exact e)
  · change fzH a _ G.H0 c = _ at q
    by_cases hc : c = a
    · subst hc
      unfold fzH at q
      by_cases z : c = c /\ G.H0 c ≠ none
      · rw [if_pos z] at q; cases q
      · rw [if_neg z] at q; exact q
    · rw [fzH_ne hc] at q; exact q
  · have w := W.hld x (List.mem_cons_of_mem _ m)
    obtain ⟨f, x, v⟩ := x
    cases x with
    | d x => exact (IsD.mv mv w).av (toS f)
    | fz u qs =>
      obtain ⟨c, e1, e2, e3⟩ := w
      subst e1
      have hc : c ≠ a := fun z => hF f u qs _ m (by rw [z])
      exact ⟨c, rfl, fun z => e2 (toS _ _ z), by rw [upd_ne hc]; exact e3⟩
  · obtain ⟨x, e1, w⟩ := W.ok i s e
    refine ⟨x, e1, ?_⟩
    cases s with
    | no => trivial
    | d f d => obtain ⟨v, e, w⟩ := w; exact ⟨v, e, (IsD.mv mv w).av (toS f)⟩
    | own c f es => obtain ⟨e, n, q, xs, hx, hd⟩ := w; exact ⟨e, n, q, xs, mv.lst _ _ hx, (IsDs.mv mv hd).av (toS f)⟩
    | bag => exact w
    | raw v => exact w
    | dic c f es =>
      obtain ⟨e, n, q, xs, hx, hd⟩ := w
      exact ⟨e, n, q, xs, by rw [upd_ne (fun z => by subst z; exact hnb n)]; exact hx, (IsKs.mv mv hd).av (toS f)⟩
    | cu c =>
      obtain ⟨e, n, q⟩ := w
      exact ⟨e, n, c.av (toS c.f) (c.keep ⟨fun b hb o e => by rw [upd_ne (fun z => by subst z; exact hnb (n _ hb).1)]; exact e, fun b xs _ => mv.lst b xs, fun b xs _ => mv.tup b xs, fun b qs _ => mv.dic b qs⟩ q)⟩
abbrev Gx.hz (G : Gx) (a : Addr) (o : Obj) (ps : List (Key × V)) : Gx := { G with hold := (false, .fz o ps, .ref a) :: G.hold }
theorem Wd.hz (W : Wd G nb ρ σ H) (hS : ¬ G.S nb false a) (h : H a = some (.frz o (.dK ps))) : Wd (G.hz a o ps) nb ρ σ H :=
 ⟨W.bag, W.live, W.old, W.nbo, W.gA, W.len, W.gB, fun x m => by
  rcases List.mem_cons.mp m with e | m
  ·subst e; exact ⟨a, rfl, hS, h⟩
  ·exact W.hld x m, fun i s e => by
   obtain ⟨x, e1, h⟩ := W.ok i s e
   refine ⟨x, e1, ?_⟩
   cases s <;> exact h, W.apart, W.apd, W.apc⟩
theorem Wd.unhz (W : Wd (G.hz a o ps) nb ρ σ H) : Wd G nb ρ σ H /\ H a = some (.frz o (.dK ps)) := by
 refine ⟨⟨W.bag, W.live, W.old, W.nbo, W.gA, W.len, W.gB, fun x m => W.hld x (List.mem_cons_of_mem _ m), fun i s e => by
   obtain ⟨x, e1, h⟩ := W.ok i s e
   refine ⟨x, e1, ?_⟩
   cases s <;> exact h, W.apart, W.apd, W.apc⟩, ?_⟩
 obtain ⟨a', ea, _, h⟩ := (show IsH ((G.hz a o ps).S nb false) H (.fz o ps) (.ref a) from W.hld _ (List.mem_cons_self ..))
 cases ea
 exact h
theorem keys_loop {G' : Gx} {ks : Ks} {D : Ends} {E : DE} {gt : TG} {s : TS} {dd : PyData} (W3 : Wd (G'.hd f dd (.ref a)) nb ρ σ H) (hl : ps.map (·.1) = (ks.map (·.1)).map Sum.inl)
  (hz : ∀ {nb ρ σ H}, Wd G' nb ρ σ H -> H a = some (.frz o (.dK ps))) (KK : EndsOk G' { E with bk := fun _ => False, ct := fun _ => False } D)
  (q : Sv.Turns (G'.hd f dd (.ref a)) ρ ks.length (fun i d => ∃ p, ks[i]? = some p /\ d = .int p.1) true gt s E) :
  ∃ W : Nat -> Nat -> St -> Hp -> Prop, (∃ m, W 0 m σ H) /\ ∀ i m σ H, W i m σ H ->
   ((Itk a o ps).stop i H /\ D.nx σ H) \/ ((Itk a o ps).go i H /\ ∃ N : St -> Hp -> Prop, (∀ σ' H', N σ' H' -> ∃ m', m' < m /\ W (i + 1) m' σ' H') /\ ∀ x H', (Itk a o ps).yld i H x H' -> gt x σ H' fun σ2 H2 => s { D with nx := N, ct := N, bk := D.nx } σ2 H2) := by
 obtain ⟨I, h0, ht, he⟩ := q
 have hlen : ps.length = ks.length := by have := congrArg List.length hl; simpa using this
 refine ⟨fun i m σ H => m = ks.length - i /\ i <= ks.length /\ ∃ nb ρ', I i ρ' /\ Wd (G'.hd f dd (.ref a)) nb ρ' σ H, ⟨ks.length, by simp, Nat.zero_le _, nb, ρ, h0, W3⟩, ?_⟩
 rintro i m σ H ⟨rfl, hi, nb, ρ', hI, W⟩
 have hfz := hz W.unhd.1
 by_cases hlt : i < ks.length
 ·refine .inr ⟨⟨hfz, by omega⟩, fun σ H => ∃ nb ρ', I (i + 1) ρ' /\ Wd (G'.hd f dd (.ref a)) nb ρ' σ H, fun σ' H' q => ⟨ks.length - (i + 1), by omega, rfl, hlt, q⟩, fun x H' y => ?_⟩
  obtain ⟨e1, p, hpi, e2⟩ := y
  subst e1 e2
  have hk : p.1 = Sum.inl ks[i].1 := by
   have h1 : (ps.map (·.1))[i]? = ((ks.map (·.1)).map Sum.inl)[i]? := by rw [hl]
   rw [List.getElem?_map, List.getElem?_map, List.getElem?_map, hpi, List.getElem?_eq_getElem hlt] at h1
   exact Option.some.inj h1
  rw [hk]
  refine ht i _ ρ' ⟨_, List.getElem?_eq_getElem hlt, rfl⟩ hI nb σ _ _ _ W (.int _) fun σ2 ρ2 q W2 => q nb σ2 _ _ W2 ?_
  exact ⟨fun nb ρ σ H q W => ⟨nb, ρ, q, W⟩, fun nb ρ σ H q W => KK.nx nb ρ σ H q W.unhd.1, fun nb ρ σ H q W => ⟨nb, ρ, q, W⟩, fun nb ρ σ f v H d q W hv => KK.rt nb ρ σ f v H d q W.unhd.1 hv⟩
 ·have e : i = ks.length := by omega
  subst e
  exact .inl ⟨⟨hfz, hlen⟩, KK.nx nb ρ' σ H (he ρ' hI) W.unhd.1⟩
theorem Sv.forK {NF : Addr -> Prop} {E : DE} {gt : TG} {s : TS} (h : Ev G ρ te fun f x => ∃ ks : Ks, x = .dict (ks.map kvD) /\ ∀ G' v, Turns (Gx.hd G' f x v) ρ ks.length (fun i d => ∃ p, ks[i]? = some p /\ d = .int p.1) true gt s E) :
  Sv G ρ (tThaw NF (tFor (iKeys NF te) gt s)) E := fun nb σ H D W KK =>
 h nb σ H _ W fun f v H1 x ⟨ks, ex, q⟩ s1 hv => by
  subst ex
  have W1 := W.step s1
  have hv0 := hv
  unfold IsD at hv
  obtain ⟨a, ps, rfl, n, hp, hd⟩ := hv
  have hkeys := IsKs.keys hd
  have hS : ¬ G.S nb false a := fun z => n (S_mono (fun w => by cases w) (fun _ w => w) a z)
  have hN : NB G.B a := Classical.byContradiction fun z => hS (.inr (.inr (.inl z)))
  refine ⟨a, ps, rfl, ?_⟩
  rcases hp with hp | ⟨o, hp⟩
  ·refine .inl ⟨hp, fun o nf => ?_⟩
   have hG : ∀ u, G.H0 a = some u -> u = .dK ps := fun u e => by have := W1.old a u hN e; rw [hp] at this; exact (Option.some.inj this).symm
   have hF : ∀ f o' qs v, (f, HD.fz o' qs, v) ∈ G.hold -> v ≠ .ref a := fun f o' qs v m e => by
    obtain ⟨c, e1, _, e3⟩ := (show IsH (G.S nb f) H1 (.fz o' qs) v from W1.hld _ m)
    rw [e1] at e; cases e
    rw [hp] at e3; cases e3
   have W2 := W1.freeze (o := o) hp hS
   have mv := Mv.frz (o := o) hp
   have W3 := W2.hd (f := f) (d := .dict (ks.map kvD)) (v := .ref a) ((IsD.mv mv hv0).av fun b z => Gx.fz_S.mp z)
   refine keys_loop (E := E) W3 hkeys (fun W => (W.thaw hG hF).2) ⟨fun nb ρ σ H q W => ?_, fun _ _ _ _ q _ => q.elim, fun _ _ _ _ q _ => q.elim, fun nb ρ σ f v H d q W hv => ?_⟩ (q _ _)
   ·obtain ⟨W', hz⟩ := W.thaw hG hF
    exact .inr ⟨a, o, ps, hz, nf, KK.nx nb ρ σ _ q W'⟩
   ·obtain ⟨W', hz⟩ := W.thaw hG hF
    exact .inr ⟨a, o, ps, hz, nf, KK.rt nb ρ σ f v _ d q W' ((IsD.mv (Mv.thaw hz) hv).av fun b z => Gx.fz_S.mpr z)⟩
  ·refine .inr ⟨o, hp, ?_⟩
   have W2 := W1.hz hS hp
   have W3 := W2.hd (f := f) (d := .dict (ks.map kvD)) (v := .ref a) hv0
   refine keys_loop (E := E) W3 hkeys (fun W => W.unhz.2) ⟨fun nb ρ σ H q W => .inl (KK.nx nb ρ σ H q W.unhz.1), fun _ _ _ _ q _ => q.elim, fun _ _ _ _ q _ => q.elim, fun nb ρ σ f v H d q W hv => .inl (KK.rt nb ρ σ f v H d q W.unhz.1 hv)⟩ (q _ _)
end
end L2
set_option maxRecDepth 100000
set_option maxHeartbeats 4000000
set_option maxRecDepth 100000
set_option maxHeartbeats 4000000
namespace L2
open PySem PySem.Spec PyProof.Rows
theorem freshL {P : (Addr -> Prop) -> Prop} {H : Hp} (hP : ∀ {S S' : Addr -> Prop}, (∀ a, S' a -> S a) -> P S -> P S') (hf : ∀ {S : Addr -> Prop} {p : Addr}, H p = none -> P S -> P fun a => S a \/ a = p) : ∀ {L : List Addr} {S : Addr -> Prop}, (∀ a ∈ L, H a = none) -> P S -> P fun a => S a \/ a ∈ L
 | [], S, _, h => hP (fun a z => z.elim (fun z => z) fun z => by cases z) h
 | p :: L, S, hL, h => hP (fun a z => by
   rcases z with z | z
   ·exact .inl (.inl z)
   ·rcases List.mem_cons.mp z with z | z
    ·exact .inr z
    ·exact .inl (.inr z)) (hf (hL p (List.mem_cons_self ..)) (freshL hP hf (L := L) (fun a m => hL a (List.mem_cons_of_mem _ m)) h))
section
variable {G : Gx} {ρ : Rh} {nb : Addr -> Prop} {σ : St} {H H1 : Hp} {i : Nat} {L : List Addr} {c c' : Cu} {f : Bool} {d : PyData} {p : Addr} {o : HO} {E : DE}
theorem Wd.growL (W : Wd G nb ρ σ H) (s1 : Step G.B H H1) (ha : ∀ a ∈ L, H a = none) (e : ∀ a ∈ L, H1 a ≠ none) : Wd G (fun x => nb x \/ x ∈ L) ρ σ H1 /\ (∀ a ∈ L, NB G.B a) /\ ∀ f x, G.S (fun x => nb x \/ x ∈ L) f x -> (G.S nb f x \/ x ∈ L) := by
  have hN : ∀ a ∈ L, NB G.B a := fun a m => NB.new W.bag (ha a m)
  have hA : ∀ f x, G.S (fun x => nb x \/ x ∈ L) f x -> (G.S nb f x \/ x ∈ L) := fun f x z => by
    rcases z with (z | z) | z | z | z
    · exact .inl (.inl z)
    · exact .inr z
    · exact .inl (.inr (.inl z))
    · exact .inl (.inr (.inr (.inl z)))
    · exact .inl (.inr (.inr (.inr z)))
  have W1 := W.step s1
  have fD : ∀ {S : Addr -> Prop} {d : PyData} {v : V}, IsD S H d v -> IsD (fun a => S a \/ a ∈ L) H d v := fun {S d v} h => freshL (P := fun S => IsD S H d v) (fun z h => IsD.av z h) (fun hp h => IsD.fresh hp h) ha h
  have fDs : ∀ {S : Addr -> Prop} {d : List PyData} {v : List V}, IsDs S H d v -> IsDs (fun a => S a \/ a ∈ L) H d v := fun {S d v} h => freshL (P := fun S => IsDs S H d v) (fun z h => IsDs.av z h) (fun hp h => IsDs.fresh hp h) ha h
  have fKs : ∀ {S : Addr -> Prop} {d : List (PyData × PyData)} {v : List (Key × V)}, IsKs S H d v -> IsKs (fun a => S a \/ a ∈ L) H d v := fun {S d v} h => freshL (P := fun S => IsKs S H d v) (fun z h => IsKs.av z h) (fun hp h => IsKs.fresh hp h) ha h
  have fH : ∀ {S : Addr -> Prop} {d : HD} {v : V}, IsH S H d v -> IsH (fun a => S a \/ a ∈ L) H d v := fun {S d v} h => freshL (P := fun S => IsH S H d v) (fun z h => IsH.av h z) (fun hp h => IsH.fresh h hp) ha h
  refine ⟨?_, hN, hA⟩
  refine ⟨W1.bag, fun x n => ?_, W1.old, fun x n q => ?_, W.gA, W.len, W.gB, fun h m => ((fH (W.hld h m)).keep (s1.but fun x z => .inl (.inr (.inr (.inl z))))).av (hA h.1), fun j s e' => ?_, W.apart, W.apd, W.apc⟩
  · rcases n with n | n
    · exact W1.live x n
    · exact e x n
  · rcases n with n | n
    · exact W.nbo x n q
    · cases z : G.H0 x with
      | none => rfl
      | some o => have := ha x n; rw [W.old x o q z] at this; cases this
  · obtain ⟨x, e1, h⟩ := W.ok j s e'
    refine ⟨x, e1, ?_⟩
    cases s with
    | no => trivial
    | d f d => obtain ⟨v, e, h⟩ := h; exact ⟨v, e, ((fD h).keep (s1.but fun x z => .inl (.inr (.inr (.inl z))))).av (hA f)⟩
    | own c f es => obtain ⟨e, n, q, xs, hx, hd⟩ := h; exact ⟨e, .inl n, q, xs, s1.1 _ _ q hx, ((fDs hd).keep (s1.but fun x z => .inl (.inr (.inr (.inl z))))).av (hA f)⟩
    | bag => exact h
    | raw v => exact h
    | dic c f es => obtain ⟨e, n, q, xs, hx, hd⟩ := h; exact ⟨e, .inl n, q, xs, s1.1 _ _ q hx, ((fKs hd).keep (s1.but fun x z => .inl (.inr (.inr (.inl z))))).av (hA f)⟩
    | cu c =>
      obtain ⟨e, n, q⟩ := h
      refine ⟨e, fun a ha => ⟨.inl (n a ha).1, (n a ha).2⟩, c.av (hA c.f) (c.keep (.of fun x o hx e => s1.1 x o ?_ e) (freshL (P := fun S => c.P S H) (fun z h => c.av z h) (fun hp h => c.fresh hp h) ha q))⟩
      rcases hx with hx | hx
      · exact Classical.byContradiction fun z => hx (.inl (.inr (.inr (.inl z))))
      · exact (n x hx).2
theorem SlOk.adr_nb {x : Option V} {s : Sl} (h : SlOk G nb H x s) : ∀ a ∈ s.adr, nb a /\ NB G.B a := by
 cases s with
 | own a f ds => intro x hx; rw [List.mem_singleton.mp hx]; exact ⟨h.2.1, h.2.2.1⟩
 | dic a f ds => intro x hx; rw [List.mem_singleton.mp hx]; exact ⟨h.2.1, h.2.2.1⟩
 | cu c => exact h.2.1
 | no => intro _ z; cases z
 | d _ _ => intro _ z; cases z
 | bag => intro _ z; cases z
 | raw _ => intro _ z; cases z
theorem Wd.cu_of (W : Wd G nb ρ σ H) (s1 : Step G.B H H1) (ha : ∀ a ∈ c.F, H a = none) (e : ∀ a ∈ c.F, H1 a ≠ none) (hP : c.P (fun x => G.S nb c.f x \/ x ∈ c.F) H1) : Wd G (fun x => nb x \/ x ∈ c.F) (ρ.set i (.cu c)) (σ.set i (some c.v)) H1 := by
 obtain ⟨W2, hN, hA⟩ := W.growL s1 ha e
 refine W2.set ⟨rfl, fun a m => ⟨.inr m, hN a m⟩, c.av (hA c.f) hP⟩ (fun _ _ _ z => by cases z) (fun _ _ _ z => by cases z) (fun x hx j t hj ht hc z => ?_)
 obtain ⟨y, e1, h⟩ := W.ok j _ ht
 exact W.live x (h.adr_nb x z).1 (ha x hx)
theorem Wd.writeCu (W : Wd G nb ρ σ H) (e : ρ[i]? = some (.cu c)) (hp : p ∈ c.F) (hv : c'.v = c.v) (hF : ∀ a ∈ c'.F, a ∈ c.F) (h : c'.P (G.S nb c'.f) (upd H p o)) : Wd G nb (ρ.set i (.cu c')) σ (upd H p o) := by
 obtain ⟨x, e1, h1, h2, h3⟩ := W.ok i _ e
 subst h1
 have hil : i < ρ.length := (List.getElem?_eq_some_iff.mp e).1
 have W0 : Wd G nb (ρ.set i .no) (σ.set i (some c.v)) H := W.set trivial fun _ _ _ z => by cases z
 have other : ∀ (j : Nat) s, (ρ.set i .no)[j]? = some s -> s ≠ .no -> p ∉ s.adr := fun j s hs hn => by
  have hij : i ≠ j := fun z => by subst z; rw [List.getElem?_set_self hil] at hs; cases hs; exact hn rfl
  rw [List.getElem?_set_ne hij] at hs
  exact W.apc i j c s hij e hs p hp
 have W1 : Wd G nb (ρ.set i .no) (σ.set i (some c.v)) (upd H p o) := W0.write (h2 p hp).1 (h2 p hp).2 (fun j a f ds hs z => other j _ hs (by intro z; cases z) (List.mem_singleton.mpr z.symm)) (fun j a f ds hs z => other j _ hs (by intro z; cases z) (List.mem_singleton.mpr z.symm)) (fun j c hs => other j _ hs (by intro z; cases z))
 have W2 := W1.set (i := i) (s := .cu c') (x := some c.v) ⟨by rw [hv], fun a m => h2 a (hF a m), h⟩ (fun _ _ _ z => by cases z) (fun _ _ _ z => by cases z) (fun x hx j t hj ht hc => by
  rw [List.getElem?_set_ne (Ne.symm hj)] at ht
  exact W.apc i j c t (Ne.symm hj) e ht x (hF x hx))
 rw [List.set_set, List.set_set] at W2
 have : σ.set i (some c.v) = σ := by
  apply List.ext_getElem?
  intro j
  by_cases hij : i = j
  ·subst hij; rw [List.getElem?_set_self (by rw [W.len]; exact hil), e1]
  ·rw [List.getElem?_set_ne hij]
 rwa [this] at W2
theorem Wd.shareCu (W : Wd G nb ρ σ H) (e : ρ[i]? = some (.cu c)) (h : c.P (G.S nb c.f) H -> (∀ a ∈ c.F, G.H0 a = none /\ ¬ G.A a /\ NB G.B a) -> IsD (G.S (fun x => nb x /\ x ∉ c.F) f) H d c.v) : Wd G (fun x => nb x /\ x ∉ c.F) (ρ.set i (.d f d)) σ H := by
 obtain ⟨x, e1, h1, h2, h3⟩ := W.ok i _ e
 subst h1
 have hil : i < ρ.length := (List.getElem?_eq_some_iff.mp e).1
 have W0 : Wd G nb (ρ.set i .no) (σ.set i (some c.v)) H := W.set trivial fun _ _ _ z => by cases z
 have W1 : Wd G (fun x => nb x /\ x ∉ c.F) (ρ.set i .no) (σ.set i (some c.v)) H := by
  refine ⟨W0.bag, fun x n => W0.live x n.1, W0.old, fun x n => W0.nbo x n.1, W0.gA, W0.len, W0.gB, fun h m => (W0.hld h m).av (S_mono (fun z => z) fun _ z => z.1), fun j s e' => ?_, W0.apart, W0.apd, W0.apc⟩
  obtain ⟨x, e1', hh⟩ := W0.ok j s e'
  refine ⟨x, e1', ?_⟩
  have hij : s ≠ .no -> i ≠ j := fun n z => by subst z; rw [List.getElem?_set_self hil] at e'; cases e'; exact n rfl
  have ap : s ≠ .no -> ∀ a ∈ s.adr, a ∉ c.F := fun n a m z => by
   have hij := hij n
   rw [List.getElem?_set_ne hij] at e'
   exact W.apc i j c s hij e e' a z m
  cases s with
  | no => trivial
  | d f d => obtain ⟨v, e, hh⟩ := hh; exact ⟨v, e, hh.av (S_mono (fun z => z) fun _ z => z.1)⟩
  | own a f es => obtain ⟨e2, n, q, xs, hx, hd⟩ := hh; exact ⟨e2, ⟨n, ap (by intro z; cases z) a (List.mem_singleton.mpr rfl)⟩, q, xs, hx, hd.av (S_mono (fun z => z) fun _ z => z.1)⟩
  | bag => exact hh
  | raw v => exact hh
  | dic a f es => obtain ⟨e2, n, q, xs, hx, hd⟩ := hh; exact ⟨e2, ⟨n, ap (by intro z; cases z) a (List.mem_singleton.mpr rfl)⟩, q, xs, hx, hd.av (S_mono (fun z => z) fun _ z => z.1)⟩
  | cu c2 => obtain ⟨e2, n, q⟩ := hh; exact ⟨e2, fun a m => ⟨⟨(n a m).1, ap (by intro z; cases z) a m⟩, (n a m).2⟩, c2.av (S_mono (fun z => z) fun _ z => z.1) q⟩
 have W2 := W1.setD (i := i) (f := f) (d := d) (v := c.v) (h h3 fun a m => ⟨W.nbo a (h2 a m).1 (h2 a m).2, fun z => W.gA a z (W.nbo a (h2 a m).1 (h2 a m).2), (h2 a m).2⟩)
 rw [List.set_set, List.set_set] at W2
 have : σ.set i (some c.v) = σ := by
  apply List.ext_getElem?
  intro j
  by_cases hij : i = j
  ·subst hij; rw [List.getElem?_set_self (by rw [W.len]; exact hil), e1]
  ·rw [List.getElem?_set_ne hij]
 rwa [this] at W2
end
end L2
set_option maxRecDepth 100000
set_option maxHeartbeats 4000000
namespace L2
open PySem PySem.Spec PyProof.Rows
abbrev GRow := Int × Addr × List PyData
structure GdP (a : Addr) (rows : List GRow) (S : Addr -> Prop) (H : Hp) : Prop where
 hd : H a = some (.dK (rows.map fun r => (Sum.inl r.1, V.ref r.2.1)))
 nd : (a :: rows.map (·.2.1)).Nodup
 kd : (rows.map (·.1)).Nodup
 row : ∀ r ∈ rows, ∃ xs, H r.2.1 = some (.lst xs) /\ IsDs S H r.2.2 xs
def gdC (a : Addr) (f : Bool) (rows : List GRow) : Cu where
 v := .ref a
 F := a :: rows.map (·.2.1)
 f := f
 P := GdP a rows
 keep := fun k p => ⟨k.own _ (List.mem_cons_self ..) _ p.hd, p.nd, p.kd, fun r hr => by
  obtain ⟨xs, h1, h2⟩ := p.row r hr
  exact ⟨xs, k.own _ (List.mem_cons_of_mem _ (List.mem_map_of_mem hr)) _ h1, IsDs.kp k h2⟩⟩
 av := fun z p => ⟨p.hd, p.nd, p.kd, fun r hr => by
  obtain ⟨xs, h1, h2⟩ := p.row r hr
  exact ⟨xs, h1, h2.av z⟩⟩
 fresh := fun hp p => ⟨p.hd, p.nd, p.kd, fun r hr => by
  obtain ⟨xs, h1, h2⟩ := p.row r hr
  exact ⟨xs, h1, h2.fresh hp⟩⟩
def addRow (rows : List GRow) (k : Int) (d : PyData) : List GRow := rows.map fun r => if r.1 = k then (r.1, r.2.1, r.2.2 ++ [d]) else r
theorem addRow_key (rows : List GRow) (k : Int) (d : PyData) : (addRow rows k d).map (·.1) = rows.map (·.1) := by
 unfold addRow
 rw [List.map_map]
 apply List.map_congr_left
 intro r _
 show (if r.1 = k then _ else r).1 = r.1
 split <;> rfl
theorem addRow_adr (rows : List GRow) (k : Int) (d : PyData) : (addRow rows k d).map (·.2.1) = rows.map (·.2.1) := by
 unfold addRow
 rw [List.map_map]
 apply List.map_congr_left
 intro r _
 show (if r.1 = k then _ else r).2.1 = r.2.1
 split <;> rfl
theorem addRow_kv (rows : List GRow) (k : Int) (d : PyData) : ((addRow rows k d).map fun r => ((Sum.inl r.1 : Key), V.ref r.2.1)) = rows.map fun r => (Sum.inl r.1, V.ref r.2.1) := by
 unfold addRow
 rw [List.map_map]
 apply List.map_congr_left
 intro r _
 show (Sum.inl (if r.1 = k then _ else r).1, V.ref (if r.1 = k then _ else r).2.1) = _
 split <;> rfl
theorem addRow_dat (rows : List GRow) (k : Int) (d : PyData) : ((addRow rows k d).map fun r => (r.1, r.2.2)) = (rows.map fun r => (r.1, r.2.2)).map fun q => if q.1 = k then (q.1, q.2 ++ [d]) else q := by
 unfold addRow
 rw [List.map_map, List.map_map]
 apply List.map_congr_left
 intro r _
 show ((if r.1 = k then _ else r).1, (if r.1 = k then _ else r).2.2) = if r.1 = k then _ else _
 split <;> rfl
theorem valV_gd : ∀ {rows : List GRow} {r : GRow}, (rows.map (·.1)).Nodup -> r ∈ rows -> valV (rows.map fun r => ((Sum.inl r.1 : Key), V.ref r.2.1)) (Sum.inl r.1) = some (.ref r.2.1)
  | [], _, _, h => by cases h
  | q :: rows, r, nd, h => by
    rw [List.map_cons, List.nodup_cons] at nd
    rw [List.map_cons]
    rcases List.mem_cons.mp h with z | z
    · subst z; exact valV_pos rfl
    · rw [valV_neg (fun e => nd.1 (by injection e with e; rw [e]; exact List.mem_map_of_mem z))]
      exact valV_gd nd.2 z
theorem valV_gdn : ∀ {rows : List GRow} {k : Int}, k ∉ rows.map (·.1) -> valV (rows.map fun r => ((Sum.inl r.1 : Key), V.ref r.2.1)) (Sum.inl k) = none
  | [], _, _ => rfl
  | q :: rows, k, h => by
    rw [List.map_cons, List.mem_cons, not_or] at h
    rw [List.map_cons, valV_neg (fun e => h.1 (by injection e with e; exact e.symm))]
    exact valV_gdn h.2
section
variable {G : Gx} {ρ : Rh} {ta tb te tk : TE} {E : DE} {i : Nat} {f : Bool} {K : PySem.W.Frag} {Φ : Pd} {a : Addr} {rows : List GRow}
theorem Ev.inGd {ng : Bool} (e : ρ[i]? = some (.cu (gdC a f rows))) (h : Ev G ρ ta fun _ y => ∃ k, y = .int k /\ Φ true (.bool (decide (k ∈ rows.map (·.1)) != ng))) : Ev G ρ (tOp (rInD ng) ta (tVar i)) Φ := fun nb σ H Q W z =>
 h nb σ H _ W fun g v H1 y ⟨k, ey, q⟩ s1 hv => by
  subst ey
  have W1 := W.step s1
  obtain ⟨x, e1, h1, h2, h3⟩ := W1.ok i _ e
  have h1 : x = some (.ref a) := h1
  subst h1
  refine ⟨.ref a, e1, a, _, rfl, by rw [hv.ofI]; exact .inl ⟨_, .inl k, .inl h3.hd, rfl, rfl⟩, ?_⟩
  have : (valV (rows.map fun r => ((Sum.inl r.1 : Key), V.ref r.2.1)) (Sum.inl k)).isSome = decide (k ∈ rows.map (·.1)) := by
   by_cases c : k ∈ rows.map (·.1)
   ·obtain ⟨r, hr, e⟩ := List.mem_map.mp c
    rw [<- e, valV_gd h3.kd hr, decide_eq_true (by rw [e]; exact c)]; rfl
   ·rw [valV_gdn c, decide_eq_false c]; rfl
  rw [this]
  exact z true _ H1 _ q s1 (.bl _)
theorem Sv.appGd (e : ρ[i]? = some (.cu (gdC a f rows))) (h : Ev G ρ tk fun _ y => ∃ k, y = .int k /\ k ∈ rows.map (·.1) /\ (∀ r ∈ rows, r.2.2.length < 10000) /\ Ev G ρ te fun g d => E.nx (ρ.set i (.cu (gdC a (f && g) (addRow rows k d))))) :
  Sv G ρ (tDrop (tBM K "list" rAppend (tOp rIxD (tVar i) tk) (tCons te tNil))) E := fun nb σ H D W KK => by
 obtain ⟨x, e1, h1, h2, h3⟩ := W.ok i _ e
 have h1 : x = some (.ref a) := h1
 subst h1
 refine ⟨.ref a, e1, h nb σ H _ W fun g v H1 y ⟨k, ey, hk, hlen, q⟩ s1 hv => ?_⟩
 subst ey
 have W1 := W.step s1
 obtain ⟨x, e1', _, h2, h3⟩ := W1.ok i _ e
 obtain ⟨r, hr, er⟩ := List.mem_map.mp hk
 have hval := valV_gd h3.kd hr
 obtain ⟨xs, hx, hxd⟩ := h3.row r hr
 have hrF : r.2.1 ∈ (gdC a f rows).F := List.mem_cons_of_mem _ (List.mem_map_of_mem hr)
 refine ⟨a, _, .inl k, .ref r.2.1, rfl, hv.ofI, .inl h3.hd, by rw [<- er]; exact hval, .inl ⟨rfl, _, SqL.of hx⟩, ?_⟩
 refine q nb σ H1 _ W1 fun g2 u H2 d p s2 hu => ?_
 have W2 := W1.step s2
 obtain ⟨x, e1', _, h2, h4⟩ := W2.ok i _ e
 obtain ⟨xs, hx, hxd⟩ := h4.row r hr
 refine ⟨r.2.1, xs, u, rfl, rfl, hx, Nat.lt_of_lt_of_le (by rw [hxd.length]; exact hlen r hr) (by decide), KK.nx nb _ _ _ p (W2.writeCu e hrF rfl (fun b hb => ?_) ?_)⟩
 ·have : (gdC a (f && g2) (addRow rows k d)).F = (gdC a f rows).F := by show a :: _ = a :: _; rw [addRow_adr]
  rw [this] at hb; exact hb
 ·have bt : But (G.S nb (f && g2)) H2 (upd H2 r.2.1 (.lst (xs ++ [u]))) := But.set (.inl (h2 _ hrF).1)
  have hnd := h4.nd
  rw [List.nodup_cons] at hnd
  have har : a ≠ r.2.1 := fun z => hnd.1 (by rw [z]; exact List.mem_map_of_mem hr)
  refine ⟨?_, ?_, ?_, fun r' hr' => ?_⟩
  ·rw [upd_ne har, addRow_kv]; exact h4.hd
  ·rw [addRow_adr]; exact h4.nd
  ·rw [addRow_key]; exact h4.kd
  ·unfold addRow at hr'
   obtain ⟨r0, hr0, rfl⟩ := List.mem_map.mp hr'
   by_cases c : r0.1 = k
   ·rw [if_pos c]
    have er0 : r0 = r := by
     have nd := h4.kd
     obtain ⟨j, hj⟩ := List.getElem?_of_mem hr0
     obtain ⟨j2, hj2⟩ := List.getElem?_of_mem hr
     obtain ⟨l1, g1⟩ := List.getElem?_eq_some_iff.mp hj
     obtain ⟨l2, g2⟩ := List.getElem?_eq_some_iff.mp hj2
     have := (List.getElem_inj (i := j) (j := j2) (h₀ := by rw [List.length_map]; exact l1) (h₁ := by rw [List.length_map]; exact l2) nd).mp (by rw [List.getElem_map, List.getElem_map, g1, g2, c, er])
     subst this
     rw [<- g1, <- g2]
    subst er0
    exact ⟨xs ++ [u], upd_same, IsDs.snoc ((hu.av (S_mono (fun z => (Bool.and_eq_true _ _ ▸ z).2) fun _ z => z)).keep bt) ((hxd.av (S_mono (fun z => (Bool.and_eq_true _ _ ▸ z).1) fun _ z => z)).keep bt)⟩
   ·rw [if_neg c]
    obtain ⟨ys, hy, hyd⟩ := h4.row r0 hr0
    have hne : r0.2.1 ≠ r.2.1 := fun z => c (by
     obtain ⟨j, hj⟩ := List.getElem?_of_mem hr0
     obtain ⟨j2, hj2⟩ := List.getElem?_of_mem hr
     obtain ⟨l1, g1⟩ := List.getElem?_eq_some_iff.mp hj
     obtain ⟨l2, g2⟩ := List.getElem?_eq_some_iff.mp hj2
     have := (List.getElem_inj (i := j) (j := j2) (h₀ := by rw [List.length_map]; exact l1) (h₁ := by rw [List.length_map]; exact l2) hnd.2).mp (by rw [List.getElem_map, List.getElem_map, g1, g2, z])
     subst this
     rw [<- g1, g2, er])
    exact ⟨ys, by rw [upd_ne hne]; exact hy, (hyd.av (S_mono (fun z => (Bool.and_eq_true _ _ ▸ z).1) fun _ z => z)).keep bt⟩
theorem Sv.demoteGd {s : TS} (i : Nat) (e : ρ[i]? = some (.cu (gdC a f rows))) (h : Sv G (ρ.set i (.d f (.dict ((rows.map fun r => (r.1, PyData.list r.2.2)).map kvD)))) s E) : Sv G ρ s E := fun nb σ H D W K => by
  refine h _ σ H D (W.shareCu e fun p hn => ?_) K
  have p : GdP a rows (G.S nb f) H := p
  have out : ∀ b ∈ (gdC a f rows).F, ¬ G.S (fun x => nb x /\ x ∉ (gdC a f rows).F) f b := fun b hb z => by
    obtain ⟨q1, q2, q3⟩ := hn b hb
    rcases z with z | z | z | z
    · exact z.2 hb
    · exact q2 z
    · exact z q3
    · exact z.2 q1
  show IsD _ H _ (.ref a)
  unfold IsD
  refine ⟨a, _, rfl, out a (List.mem_cons_self ..), .inl p.hd, ?_⟩
  have key : ∀ rs : List GRow, (∀ r ∈ rs, r ∈ rows) -> IsKs (G.S (fun x => nb x /\ x ∉ (gdC a f rows).F) f) H ((rs.map fun r => (r.1, PyData.list r.2.2)).map kvD) (rs.map fun r => ((Sum.inl r.1 : Key), V.ref r.2.1)) := by
    intro rs
    induction rs with
    | nil => intro _; simp only [List.map_nil]; unfold IsKs; rfl
    | cons r rs ih =>
      intro hm
      rw [List.map_cons, List.map_cons, List.map_cons]
      unfold IsKs
      refine ⟨_, _, rfl, ?_, ih fun q hq => hm q (List.mem_cons_of_mem _ hq)⟩
      unfold IsK
      obtain ⟨xs, hx, hxd⟩ := p.row r (hm r (List.mem_cons_self ..))
      exact ⟨rfl, .lst (out _ (List.mem_cons_of_mem _ (List.mem_map_of_mem (hm r (List.mem_cons_self ..))))) hx (hxd.av (S_mono (fun z => z) fun _ z => z.1))⟩
  exact key rows fun _ h => h
theorem mergeK_new : ∀ {more acc : List (Key × V)}, (more.map (·.1)).Nodup -> (∀ q ∈ more, valV acc q.1 = none) -> mergeK acc more = acc ++ more
  | [], acc, _, _ => by rw [List.append_nil]; rfl
  | q :: more, acc, nd, h => by
    rw [List.map_cons, List.nodup_cons] at nd
    show mergeK (putK acc q.1 q.2) more = _
    rw [putK_new _ (h q (List.mem_cons_self ..)), mergeK_new nd.2 (fun r hr => ?_), List.append_assoc]
    · rfl
    · have hne : q.1 ≠ r.1 := fun z => nd.1 (by rw [z]; exact List.mem_map_of_mem hr)
      have := h r (List.mem_cons_of_mem _ hr)
      unfold valV at this ⊢
      rw [List.find?_append]
      cases e : acc.find? (fun kv => decide (kv.1 = r.1)) with
      | some z => rw [e] at this; cases this
      | none => simp [hne]
theorem Sv.newGd (h : Ev G ρ te fun _ x => ∃ ks : List Int, x = .list (ks.map .int) /\ ks.Nodup /\ ks.length <= 9999 /\ ∀ a rows, (rows.map fun r => (r.1, r.2.2)) = ks.map (fun k => (k, [])) -> E.nx (ρ.set i (.cu (gdC a true rows)))) :
    Sv G ρ (tAsg (tCB rDictL (tCons (tComp (iList K te) (gName 0) tNoTest (tTup (tCons (tVar 0) (tCons (tLst tNil) tNil))) [none]) tNil)) (gName i)) E := fun nb σ H D W KK =>
  h nb σ H _ W fun f v H1 x ⟨ks, ex, nd, hl, q⟩ s1 hv => by
    subst ex
    obtain ⟨l, xs, rfl, nl, hx, hd⟩ := hv.ofL
    have e := isDs_ints_eq hd
    subst e
    refine ⟨l, rfl, ⟨_, .of hx⟩, fun acc hacc => ?_⟩
    refine R.comp_list (xs := ks.map V.int) (fun j σ H2 => σ.length = 1 /\ ∃ (ts bs : List Addr), ts.length = j /\ bs.length = j /\ H2 acc = some (.lst (ts.map V.ref)) /\ bs.Nodup /\ (∀ b ∈ bs, H1 b = none /\ H2 b = some (.lst [])) /\
      (∀ (m : Nat) t b k, ts[m]? = some t -> bs[m]? = some b -> ks[m]? = some k -> H2 t = some (.tup [.int k, .ref b])) /\ (∀ t ∈ ts, t ≠ acc) /\ acc ∉ bs /\ ∀ b o, H1 b = some o -> H2 b = some o) ⟨rfl, [], [], rfl, rfl, upd_same, List.nodup_nil, (fun _ z => by cases z), (fun _ _ _ _ z => by simp at z), (fun _ z => by cases z), (fun z => by cases z), fun b o e => by rw [upd_ne (fun z => by rw [z, hacc] at e; cases e)]; exact e⟩ ?_ ?_ ?_
    · rintro j σ H2 hj ⟨_, ts, bs, _, _, _, _, _, _, _, _, hk⟩
      exact .of (hk _ _ hx)
    · rintro j x σ H2 hxj ⟨hσ, ts, bs, htl, hbl, hA, hbn, hb, ht, htA, hbA, hk⟩
      rw [List.getElem?_map] at hxj
      obtain ⟨k, hkj, rfl⟩ := Option.map_eq_some_iff.mp hxj
      have hjl := (List.getElem?_eq_some_iff.mp hkj).1
      have e0 : (σ.set 0 (some (V.int k)))[0]? = some (some (.int k)) := List.getElem?_set_self (by omega)
      refine ⟨.int k, e0, Nat.zero_le _, fun b hbn0 => ⟨Nat.le_of_ble_eq_true rfl, fun t htn0 => ?_⟩⟩
      have hbt : b ≠ t := fun z => by rw [<- z, upd_same] at htn0; cases htn0
      have hbacc : b ≠ acc := fun z => by rw [z, hA] at hbn0; cases hbn0
      have htn : H2 t = none := by rw [upd_ne (Ne.symm hbt)] at htn0; exact htn0
      have htacc : t ≠ acc := fun z => by rw [z, hA] at htn; cases htn
      have hbH1 : H1 b = none := by
        cases e : H1 b with
        | none => rfl
        | some o => rw [hk b o e] at hbn0; cases hbn0
      refine ⟨ts.map V.ref, by rw [upd_ne (Ne.symm htacc), upd_ne (Ne.symm hbacc)]; exact hA, by rw [List.length_map, htl]; exact Nat.lt_of_lt_of_le (show j < 10000 by omega) (by decide), by rw [List.length_set]; exact hσ, ts ++ [t], bs ++ [b], by rw [List.length_append, htl]; rfl, by rw [List.length_append, hbl]; rfl, by rw [upd_same, List.map_append]; rfl, ?_, ?_, ?_, ?_, ?_, ?_⟩
      · rw [List.nodup_append]
        refine ⟨hbn, by simp, fun x hx y hy z => ?_⟩
        rw [List.mem_singleton.mp hy] at z
        have := (hb x hx).2
        rw [z, hbn0] at this; cases this
      · intro x hx
        rcases List.mem_append.mp hx with z | z
        · have := hb x z
          refine ⟨this.1, ?_⟩
          rw [upd_ne (fun y => hbA (by rw [<- y]; exact z)), upd_ne (fun y => by have := this.2; rw [y, htn] at this; cases this), upd_ne (fun y => by have := this.2; rw [y, hbn0] at this; cases this)]
          exact this.2
        · rw [List.mem_singleton.mp z]
          exact ⟨hbH1, by rw [upd_ne hbacc, upd_ne hbt, upd_same]⟩
      · intro m t' b' k' h1 h2 h3
        rcases Nat.lt_trichotomy m j with c | c | c
        · rw [List.getElem?_append_left (by omega)] at h1 h2
          have := ht m t' b' k' h1 h2 h3
          rw [upd_ne (htA t' (List.mem_of_getElem? h1)), upd_ne (fun y => by rw [y, htn] at this; cases this), upd_ne (fun y => by rw [y, hbn0] at this; cases this)]
          exact this
        · subst c
          rw [List.getElem?_append_right (by omega), htl, Nat.sub_self] at h1
          rw [List.getElem?_append_right (by omega), hbl, Nat.sub_self] at h2
          simp at h1 h2
          subst h1 h2
          rw [hkj] at h3; cases h3
          rw [upd_ne htacc, upd_same]
        · rw [List.getElem?_eq_none (by rw [List.length_append, List.length_singleton]; omega)] at h1; cases h1
      · intro x hx
        rcases List.mem_append.mp hx with z | z
        · exact htA x z
        · rw [List.mem_singleton.mp z]; exact htacc
      · intro z
        rcases List.mem_append.mp z with z | z
        · exact hbA z
        · exact hbacc (List.mem_singleton.mp z).symm
      · intro b' o e
        have := hk b' o e
        rw [upd_ne (fun z => by rw [z, hacc] at e; cases e), upd_ne (fun y => by rw [y, htn] at this; cases this), upd_ne (fun y => by rw [y, hbn0] at this; cases this)]
        exact this
    · rintro σ2 H2 ⟨_, ts, bs, htl, hbl, hA, hbn, hb, ht, htA, hbA, hk⟩
      rw [List.length_map] at htl hbl
      obtain ⟨rows, er⟩ : ∃ rows : List GRow, rows = List.zipWith (fun k b => (k, b, [])) ks bs := ⟨_, rfl⟩
      have hrl : rows.length = ks.length := by rw [er, List.length_zipWith]; omega
      have hrat : ∀ {m : Nat} {r : GRow}, rows[m]? = some r -> ∃ k b, ks[m]? = some k /\ bs[m]? = some b /\ r = (k, b, []) := fun {m r} hm => by
        rw [er, List.getElem?_zipWith] at hm
        cases e1 : ks[m]? with
        | none => rw [e1] at hm; cases hm
        | some k =>
          cases e2 : bs[m]? with
          | none => rw [e1, e2] at hm; cases hm
          | some b => rw [e1, e2] at hm; cases hm; exact ⟨k, b, rfl, rfl, rfl⟩
      have hk1 : rows.map (·.1) = ks := by
        apply List.ext_getElem?
        intro m
        rw [List.getElem?_map]
        cases e : rows[m]? with
        | none => rw [List.getElem?_eq_none (by have := List.getElem?_eq_none_iff.mp e; omega)]; rfl
        | some r => obtain ⟨k, b, e1, e2, rfl⟩ := hrat e; rw [e1]; rfl
      have hb1 : rows.map (·.2.1) = bs := by
        apply List.ext_getElem?
        intro m
        rw [List.getElem?_map]
        cases e : rows[m]? with
        | none => rw [List.getElem?_eq_none (by have := List.getElem?_eq_none_iff.mp e; omega)]; rfl
        | some r => obtain ⟨k, b, e1, e2, rfl⟩ := hrat e; rw [e2]; rfl
      have hq1 : (rows.map fun r => (r.1, r.2.2)) = ks.map (fun k => (k, [])) := by
        apply List.ext_getElem?
        intro m
        rw [List.getElem?_map, List.getElem?_map]
        cases e : rows[m]? with
        | none => rw [List.getElem?_eq_none (by have := List.getElem?_eq_none_iff.mp e; omega)]; rfl
        | some r => obtain ⟨k, b, e1, e2, rfl⟩ := hrat e; rw [e1]; rfl
      refine ⟨acc, ts.map V.ref, rows.map fun r => (Sum.inl r.1, V.ref r.2.1), rfl, hA, by rw [List.length_map, List.length_map]; omega, by rw [List.length_map]; omega, fun m y p hy hp => ?_, fun d hd0 => ?_⟩
      · rw [List.getElem?_map] at hy hp
        obtain ⟨t, e1, rfl⟩ := Option.map_eq_some_iff.mp hy
        obtain ⟨r, e2, rfl⟩ := Option.map_eq_some_iff.mp hp
        obtain ⟨k, b, g1, g2, rfl⟩ := hrat e2
        exact ⟨t, rfl, ht m t b k e1 g2 g1⟩
      · have hm : mergeK [] (rows.map fun r => ((Sum.inl r.1 : Key), V.ref r.2.1)) = rows.map fun r => (Sum.inl r.1, V.ref r.2.1) := by
          rw [mergeK_new, List.nil_append]
          · rw [List.map_map, show ((fun (x : Key × V) => x.1) ∘ fun (r : GRow) => ((Sum.inl r.1 : Key), V.ref r.2.1)) = (Sum.inl : Int -> Key) ∘ (fun (r : GRow) => r.1) from rfl, <- List.map_map, hk1]
            exact nd.map _ (fun a b h1 h2 => h1 (by injection h2))
          · intro q _; rfl
        rw [hm]
        have hdb : ∀ b ∈ bs, b ≠ d := fun b hb' z => by have := (hb b hb').2; rw [z, hd0] at this; cases this
        have sm : ∀ b o, H1 b = some o -> (upd H2 d (.dK (rows.map fun r => (Sum.inl r.1, V.ref r.2.1)))) b = some o := fun b o e => by
          have := hk b o e
          rw [upd_ne (fun z => by rw [z, hd0] at this; cases this)]; exact this
        have s2 : Step G.B H (upd H2 d (.dK (rows.map fun r => (Sum.inl r.1, V.ref r.2.1)))) := s1.trans (.same s1.2 sm)
        have hd1 : H1 d = none := by
          cases e : H1 d with
          | none => rfl
          | some o => rw [hk d o e] at hd0; cases hd0
        have hF : ∀ b ∈ (gdC d true rows).F, b = d \/ b ∈ bs := fun b hb' => by
          rcases List.mem_cons.mp hb' with z | z
          · exact .inl z
          · rw [hb1] at z; exact .inr z
        refine KK.nx _ _ _ _ (q d rows hq1) (W.cu_of (c := gdC d true rows) s2 (fun b hb' => ?_) (fun b hb' => ?_) ?_)
        · rcases hF b hb' with z | z
          · rw [z]; exact W.none_of s1 hd1
          · exact W.none_of s1 (hb b z).1
        · rcases hF b hb' with z | z
          · rw [z, upd_same]; exact Option.some_ne_none _
          · rw [upd_ne (hdb b z), (hb b z).2]; exact Option.some_ne_none _
        · refine ⟨upd_same, ?_, by rw [hk1]; exact nd, fun r hr => ?_⟩
          · rw [hb1, List.nodup_cons]
            exact ⟨fun z => hdb d z rfl, hbn⟩
          · obtain ⟨m, hm⟩ := List.getElem?_of_mem hr
            obtain ⟨k, b, g1, g2, rfl⟩ := hrat hm
            have hbm := List.mem_of_getElem? g2
            exact ⟨[], by show upd H2 d _ b = _; rw [upd_ne (hdb b hbm)]; exact (hb b hbm).2, .nil⟩
theorem EvN.sortedDd {Θ : Bool -> List PyData -> Prop} (h : Ev G ρ te fun _ x => ∃ ks : Ks, x = .dict (ks.map kvD) /\ ks.length < 64 /\ ∀ rs : List Int, rs.Pairwise (· <= ·) -> rs.Perm (ks.map (·.1)) -> Θ true (rs.map .int)) : EvN G ρ (tCB rSortedD (tCons te tNil)) Θ := fun nb σ H Q W z =>
 h nb σ H _ W fun f v H1 x ⟨ks, ex, hl, q⟩ s1 hv => by
  subst ex
  unfold IsD at hv
  obtain ⟨a, ps, rfl, n, hp, hd⟩ := hv
  refine ⟨a, ps, ks.map (·.1), rfl, hp, IsKs.keys hd, by rw [List.length_map]; exact hl, fun l rs hl' hw hpm => ?_⟩
  exact EvN.fin (f := true) W s1 hl' (isDs_intsL rs) (q rs hw hpm) z
end
end L2
set_option maxRecDepth 100000
set_option maxHeartbeats 4000000
namespace L2
open PySem PySem.Spec PyProof.Rows
def facOf (prs : Prs) (pl : Int) : Option Int := (prs.find? fun pr => decide (pr.1 = pl)).map (·.2)
theorem facOf_nil (pl : Int) : facOf [] pl = none := rfl
theorem facOf_snoc (prs : Prs) (pr : Int × Int) (pl : Int) : facOf (prs ++ [pr]) pl = match facOf prs pl with | some f => some f | none => if pr.1 = pl then some pr.2 else none := by
  unfold facOf
  rw [List.find?_append]
  cases prs.find? (fun pr => decide (pr.1 = pl)) with
  | some q => rfl
  | none =>
    by_cases c : pr.1 = pl
    · simp [c]
    · simp [c]
theorem facOf_none {prs : Prs} {pl : Int} (h : pl ∉ prs.map (·.1)) : facOf prs pl = none := by
 unfold facOf
 rw [List.find?_eq_none.mpr]
 ·rfl
 ·intro pr hpr z
  exact h (by rw [<- of_decide_eq_true z]; exact List.mem_map_of_mem hpr)
noncomputable def vc1 (p : Int) (c : Nat) : Option Int -> List (Int × Int)
 | some f => [((c : Int), sol p f 1)]
 | none => []
noncomputable def vcTo (p : Int) (cs : List Prs) (pl : Int) (i : Nat) : List (Int × Int) := (List.range i).flatMap fun c => vc1 p c (facOf (cs.getD c []) pl)
theorem vcTo_succ {p : Int} {cs : List Prs} {pl : Int} {i : Nat} {prs : Prs} (h : cs[i]? = some prs) : vcTo p cs pl (i + 1) = vcTo p cs pl i ++ vc1 p i (facOf prs pl) := by
 unfold vcTo
 rw [List.range_succ, List.flatMap_append, List.flatMap_singleton, List.getD_eq_getElem?_getD, h]
 rfl
theorem vcTo_len {p : Int} {cs : List Prs} {pl : Int} : ∀ i, (vcTo p cs pl i).length <= i
  | 0 => Nat.le_refl _
  | i + 1 => by
    unfold vcTo
    rw [List.range_succ, List.flatMap_append, List.length_append, List.flatMap_singleton]
    have := vcTo_len (p := p) (cs := cs) (pl := pl) i
    have h2 : ∀ o, (vc1 p i o).length <= 1 := fun o => by cases o <;> simp [vc1]
    have := h2 (facOf (cs.getD i []) pl)
    unfold vcTo at *
    omega
theorem vcTo_mem {p : Int} {cs : List Prs} {pl : Int} {q : Int × Int} {i : Nat} (hi : i <= cs.length) (h : q ∈ vcTo p cs pl i) : ∃ (c : Nat) (prs : Prs) (f : Int), cs[c]? = some prs /\ c < i /\ facOf prs pl = some f /\ q = ((c : Int), sol p f 1) := by
  unfold vcTo at h
  obtain ⟨c, hc, hq⟩ := List.mem_flatMap.mp h
  have hc := List.mem_range.mp hc
  have e : cs[c]? = some cs[c] := List.getElem?_eq_getElem (by omega)
  rw [List.getD_eq_getElem?_getD, e] at hq
  cases hf : facOf cs[c] pl with
  | none => simp [vc1, hf] at hq
  | some f =>
    have hq : q ∈ vc1 p c (facOf cs[c] pl) := hq
    rw [hf] at hq
    exact ⟨c, cs[c], f, e, hc, hf, List.mem_singleton.mp hq⟩
noncomputable def vcPart (p : Int) (cs : List Prs) (c : Nat) (prs : Prs) (pl : Int) : Int × List PyData := (pl, (vcTo p cs pl c ++ vc1 p c (facOf prs pl)).map pairD)
theorem vcPart_start {p : Int} {cs : List Prs} {c : Nat} {pls : List Int} : (pls.map fun pl => (pl, (vcTo p cs pl c).map pairD)) = pls.map (vcPart p cs c []) := by
 apply List.map_congr_left
 intro pl _
 unfold vcPart
 rw [facOf_nil]
 show _ = (pl, (vcTo p cs pl c ++ []).map pairD)
 rw [List.append_nil]
theorem vcPart_out {p : Int} {cs : List Prs} {c : Nat} {prs : Prs} {pr : Int × Int} {pls : List Int} (h : pr.1 ∉ pls) : pls.map (vcPart p cs c (prs ++ [pr])) = pls.map (vcPart p cs c prs) := by
 apply List.map_congr_left
 intro pl hpl
 unfold vcPart
 rw [facOf_snoc]
 have : ¬ pr.1 = pl := fun e => h (by rw [e]; exact hpl)
 cases facOf prs pl <;> simp [this]
theorem vcPart_in {p : Int} {cs : List Prs} {c : Nat} {prs : Prs} {pr : Int × Int} {pls : List Int} (h : pr.1 ∉ prs.map (·.1)) : pls.map (vcPart p cs c (prs ++ [pr])) = (pls.map (vcPart p cs c prs)).map fun q => if q.1 = pr.1 then (q.1, q.2 ++ [pairD ((c : Int), sol p pr.2 1)]) else q := by
 rw [List.map_map]
 apply List.map_congr_left
 intro pl _
 show vcPart p cs c (prs ++ [pr]) pl = if pl = pr.1 then _ else _
 unfold vcPart
 rw [facOf_snoc]
 by_cases e : pl = pr.1
 ·subst e
  rw [if_pos rfl, facOf_none h]
  simp [vc1]
 ·rw [if_neg e]
  have : ¬ pr.1 = pl := fun z => e z.symm
  cases facOf prs pl <;> simp [this]
noncomputable def votesL (p : Int) (cs : List Prs) (ws : List Int) (pl : Int) : List Int :=
 (vcTo p cs pl cs.length).map fun q => (ws.getD pl.toNat 0 - dueSum (cs.getD q.1.toNat []) (ws.map some) % p * q.2) % p
structure VNet (p n : Int) (cs : List Prs) : Prop where
 hp : PrimeZ p
 p40 : p < 10 ^ 40
 n0 : 1 <= n
 n1 : n <= 400
 cl : cs.length <= 400
 ok : ∀ prs ∈ cs, PrsQ p n.toNat prs
noncomputable def sumsV (p : Int) (cs : List Prs) (ws : List Int) : List Int := cs.map fun prs => dueSum prs (ws.map some) % p
theorem sumsV_at {p : Int} {cs : List Prs} {ws : List Int} (c : Nat) (h : c < cs.length) : (sumsV p cs ws).getD c 0 = dueSum (cs.getD c []) (ws.map some) % p := by
 unfold sumsV
 rw [List.getD_eq_getElem?_getD, List.getElem?_map, List.getD_eq_getElem?_getD, List.getElem?_eq_getElem h]
 rfl
theorem sums_whole (p : Int) (cs : List Prs) (ws : List Int) : (cs.map fun prs => optD (sumOpt p prs (ws.map some))) = (sumsV p cs ws).map PyData.int := by
 unfold sumsV
 rw [List.map_map]
 apply List.map_congr_left
 intro prs _
 have : ¬ lostIn prs (ws.map some) := by
  rintro ⟨pr, _, z⟩
  rw [List.getElem?_map] at z
  cases h : ws[pr.1.toNat]? with
  | none => rw [h] at z; cases z
  | some x => rw [h] at z; cases z
 unfold sumOpt
 rw [if_neg this]
 rfl
theorem rising_uniq : ∀ {a b : List Int}, a.Pairwise (· < ·) -> b.Pairwise (· < ·) -> (∀ k, k ∈ a ↔ k ∈ b) -> a = b
  | [], [], _, _, _ => rfl
  | [], y :: b, _, _, h => absurd ((h y).mpr (List.mem_cons_self ..)) (by simp)
  | x :: a, [], _, _, h => absurd ((h x).mp (List.mem_cons_self ..)) (by simp)
  | x :: a, y :: b, ha, hb, h => by
    rw [List.pairwise_cons] at ha hb
    have exy : x = y := by
      rcases List.mem_cons.mp ((h x).mp (List.mem_cons_self ..)) with z | z
      · exact z
      · rcases List.mem_cons.mp ((h y).mpr (List.mem_cons_self ..)) with w | w
        · exact w.symm
        · have h1 := hb.1 x z
          have h2 := ha.1 y w
          omega
    subst exy
    rw [rising_uniq ha.2 hb.2 fun k => ?_]
    constructor
    · intro z
      rcases List.mem_cons.mp ((h k).mp (List.mem_cons_of_mem _ z)) with w | w
      · have := ha.1 k z; omega
      · exact w
    · intro z
      rcases List.mem_cons.mp ((h k).mpr (List.mem_cons_of_mem _ z)) with w | w
      · have := hb.1 k z; omega
      · exact w
theorem putI_len (ks : Ks) (k : Int) (d : PyData) : (putI ks k d).length <= ks.length + 1 := by
 unfold putI
 split
 ·rw [List.length_map]; omega
 ·rw [List.length_append, List.length_singleton]; omega
end L2
set_option maxRecDepth 100000
set_option maxHeartbeats 4000000
namespace L2
open PySem PySem.Spec PyProof.Rows
theorem count_two {x y : Int} (h : x ≠ y) : ∀ L : List Int, L.count x + L.count y <= L.length
  | [] => Nat.le_refl _
  | z :: L => by
    have ih := count_two h L
    rw [List.count_cons, List.count_cons, List.length_cons]
    by_cases c1 : z = x
    · have : ¬ z = y := fun e => h (c1.symm.trans e)
      simp [c1, h]
      omega
    · simp [c1]
      split <;> omega
def goodV (L : List Int) (w x : Int) : Bool := decide (x ≠ w) && decide (L.length < 2 * L.count x)
def mjL (L : List Int) (w : Int) : List Int := (L.filter (goodV L w)).take 1
theorem goodV_uniq {L : List Int} {w x y : Int} (hx : goodV L w x = true) (hy : goodV L w y = true) : x = y := by
 unfold goodV at hx hy
 rw [Bool.and_eq_true, decide_eq_true_eq, decide_eq_true_eq] at hx hy
 refine Classical.byContradiction fun h => ?_
 have := count_two h L
 omega
theorem mj_filter {L ms : List Int} {w : Int} (nd : ms.Nodup) (hm : ∀ k, k ∈ ms ↔ k ∈ L) : ms.filter (goodV L w) = mjL L w := by
  unfold mjL
  cases e : L.filter (goodV L w) with
  | nil =>
    rw [List.filter_eq_nil_iff] at e
    show _ = []
    rw [List.filter_eq_nil_iff]
    exact fun x hx => e x ((hm x).mp hx)
  | cons x r =>
    have hx : x ∈ L.filter (goodV L w) := by rw [e]; exact List.mem_cons_self ..
    rw [List.mem_filter] at hx
    have hxm : x ∈ ms.filter (goodV L w) := List.mem_filter.mpr ⟨(hm x).mpr hx.1, hx.2⟩
    have hall : ∀ y ∈ ms.filter (goodV L w), y = x := fun y hy => goodV_uniq (List.mem_filter.mp hy).2 hx.2
    have hnd : (ms.filter (goodV L w)).Nodup := nd.filter _
    show _ = [x]
    cases e2 : ms.filter (goodV L w) with
    | nil => rw [e2] at hxm; cases hxm
    | cons y r2 =>
      rw [e2] at hall hnd
      have ey := hall y (List.mem_cons_self ..)
      subst ey
      cases r2 with
      | nil => rfl
      | cons z r3 =>
        have := hall z (List.mem_cons_of_mem _ (List.mem_cons_self ..))
        subst this
        rw [List.nodup_cons] at hnd
        exact absurd (List.mem_cons_self ..) hnd.1
@[reducible] def trD (t : Int × Int × Int) : PyData := .tuple [.int t.1, .int t.2.1, .int t.2.2]
noncomputable def trnAt (p : Int) (cs : List Prs) (ws : List Int) (i : Nat) : List (Int × Int × Int) := (mjL (votesL p cs ws (i : Int)) (ws.getD i 0)).map fun x => ((i : Int), ws.getD i 0, x)
noncomputable def trnTo (p : Int) (cs : List Prs) (ws : List Int) (m : Nat) : List (Int × Int × Int) := (List.range m).flatMap (trnAt p cs ws)
theorem trnTo_succ {p : Int} {cs : List Prs} {ws : List Int} {m : Nat} : trnTo p cs ws (m + 1) = trnTo p cs ws m ++ trnAt p cs ws m := by
 unfold trnTo
 rw [List.range_succ, List.flatMap_append, List.flatMap_singleton]
theorem mjL_len {L : List Int} {w : Int} : (mjL L w).length <= 1 := by unfold mjL; rw [List.length_take]; omega
theorem trnTo_len {p : Int} {cs : List Prs} {ws : List Int} : ∀ m, (trnTo p cs ws m).length <= m
  | 0 => Nat.le_refl _
  | m + 1 => by
    rw [trnTo_succ, List.length_append]
    have := trnTo_len (p := p) (cs := cs) (ws := ws) m
    have : (trnAt p cs ws m).length <= 1 := by unfold trnAt; rw [List.length_map]; exact mjL_len
    omega
theorem mjL_mem {L : List Int} {w x : Int} (h : x ∈ mjL L w) : x ∈ L := (List.mem_filter.mp (List.mem_of_mem_take h)).1
theorem trnTo_mem {p : Int} {cs : List Prs} {ws : List Int} {m : Nat} {t : Int × Int × Int} (h : t ∈ trnTo p cs ws m) : ∃ i < m, t.1 = (i : Int) /\ t.2.1 = ws.getD i 0 /\ t.2.2 ∈ votesL p cs ws (i : Int) := by
 unfold trnTo at h
 obtain ⟨i, hi, ht⟩ := List.mem_flatMap.mp h
 unfold trnAt at ht
 obtain ⟨x, hx, rfl⟩ := List.mem_map.mp ht
 exact ⟨i, List.mem_range.mp hi, rfl, rfl, mjL_mem hx⟩
def putT (ws : List Int) (ts : List (Int × Int × Int)) : List Int := ts.foldl (fun w t => w.set t.1.toNat t.2.2) ws
theorem putT_snoc (ws : List Int) (ts : List (Int × Int × Int)) (t : Int × Int × Int) : putT ws (ts ++ [t]) = (putT ws ts).set t.1.toNat t.2.2 := by unfold putT; rw [List.foldl_append]; rfl
theorem putT_len (ws : List Int) : ∀ ts, (putT ws ts).length = ws.length := by
 intro ts
 unfold putT
 induction ts generalizing ws with
 | nil => rfl
 | cons t ts ih => rw [List.foldl_cons, ih, List.length_set]
theorem putT_mem {ws : List Int} {P : Int -> Prop} (h : ∀ x ∈ ws, P x) : ∀ ts : List (Int × Int × Int), (∀ t ∈ ts, P t.2.2) -> ∀ x ∈ putT ws ts, P x := by
  intro ts
  unfold putT
  induction ts generalizing ws with
  | nil => exact fun _ => h
  | cons t ts ih =>
    intro ht
    rw [List.foldl_cons]
    refine ih (fun x hx => ?_) fun q hq => ht q (List.mem_cons_of_mem _ hq)
    rcases List.mem_or_eq_of_mem_set hx with z | z
    · exact h x z
    · rw [z]; exact ht t (List.mem_cons_self ..)
theorem votesL_rg {p : Int} {cs : List Prs} {ws : List Int} {pl : Int} (hp : 0 < p) : ∀ x ∈ votesL p cs ws pl, 0 <= x /\ x < p := fun x hx => by
 unfold votesL at hx
 obtain ⟨y, _, rfl⟩ := List.mem_map.mp hx
 exact ⟨Int.emod_nonneg _ (by omega), Int.emod_lt_of_pos _ hp⟩
theorem votesL_len {p : Int} {cs : List Prs} {ws : List Int} {pl : Int} : (votesL p cs ws pl).length <= cs.length := by
 unfold votesL
 rw [List.length_map]
 exact vcTo_len cs.length
noncomputable def vcAll (p : Int) (cs : List Prs) (n : Nat) : Ks := ((List.range n).map fun (i : Nat) => (i : Int)).map fun pl => (pl, PyData.list ((vcTo p cs pl cs.length).map pairD))
theorem vcAll_val {p : Int} {cs : List Prs} {n i : Nat} (h : i < n) : valI (vcAll p cs n) (i : Int) = some (.list ((vcTo p cs (i : Int) cs.length).map pairD)) := by
 unfold vcAll
 rw [valI_mapK, if_pos (List.mem_map.mpr ⟨i, List.mem_range.mpr h, rfl⟩)]
end L2
set_option maxRecDepth 100000
set_option maxHeartbeats 4000000
namespace L2
open PySem PySem.Spec PyProof.Rows
def brk (p : Int) (cs : List Prs) (ws : List Int) : Nat := cs.countP fun prs => decide (dueSum prs (ws.map some) % p ≠ 0)
end L2
set_option maxRecDepth 100000
set_option maxHeartbeats 4000000
namespace L2
open PySem PySem.Spec PyProof.Rows
abbrev Trn := Int × Int × Int
noncomputable def vrun (p : Int) (cs : List Prs) (n : Nat) : Nat -> List Int -> List Int × List (List Trn) × Str
  | 0, ws => (ws, [], if brk p cs ws = 0 then Str.ofString "held" else Str.ofString "far")
  | k + 1, ws => if brk p cs ws = 0 then (ws, [], Str.ofString "held") else if trnTo p cs ws n = [] then (ws, [], Str.ofString "stuck")
    else ((vrun p cs n k (putT ws (trnTo p cs ws n))).1, trnTo p cs ws n :: (vrun p cs n k (putT ws (trnTo p cs ws n))).2.1, (vrun p cs n k (putT ws (trnTo p cs ws n))).2.2)
theorem vrun_held {p : Int} {cs : List Prs} {n k : Nat} {ws : List Int} (h : brk p cs ws = 0) : vrun p cs n k ws = (ws, [], Str.ofString "held") := by
 cases k with
 | zero => rw [vrun, if_pos h]
 | succ k => rw [vrun, if_pos h]
theorem vrun_far {p : Int} {cs : List Prs} {n : Nat} {ws : List Int} (h : brk p cs ws ≠ 0) : vrun p cs n 0 ws = (ws, [], Str.ofString "far") := by
 rw [vrun, if_neg h]
theorem vrun_stuck {p : Int} {cs : List Prs} {n k : Nat} {ws : List Int} (h : brk p cs ws ≠ 0) (h2 : trnTo p cs ws n = []) : vrun p cs n (k + 1) ws = (ws, [], Str.ofString "stuck") := by
 rw [vrun, if_neg h, if_pos h2]
theorem vrun_on {p : Int} {cs : List Prs} {n k : Nat} {ws : List Int} (h : brk p cs ws ≠ 0) (h2 : trnTo p cs ws n ≠ []) : vrun p cs n (k + 1) ws = ((vrun p cs n k (putT ws (trnTo p cs ws n))).1, trnTo p cs ws n :: (vrun p cs n k (putT ws (trnTo p cs ws n))).2.1, (vrun p cs n k (putT ws (trnTo p cs ws n))).2.2) := by
 rw [vrun, if_neg h, if_neg h2]
theorem sumsV_brk {p : Int} {cs : List Prs} {ws : List Int} : (sumsV p cs ws).countP (fun s => decide (s ≠ 0)) = brk p cs ws := by
 unfold sumsV brk
 rw [List.countP_map]
 rfl
def rndD (ts : List Trn) : PyData := .list (ts.map trD)
def runD (r : List Int × List (List Trn) × Str) : PyData := .tuple [rowD r.1, .list (r.2.1.map rndD), .tuple [.str r.2.2]]
theorem round_in {p : Int} {cs : List Prs} {n : Nat} {ws : List Int} (hp : 0 < p) (hl : ws.length = n) (hw : ∀ x ∈ ws, 0 <= x /\ x < p) : (putT ws (trnTo p cs ws n)).length = n /\ ∀ x ∈ putT ws (trnTo p cs ws n), 0 <= x /\ x < p := by
 refine ⟨by rw [putT_len, hl], putT_mem hw _ fun t ht => ?_⟩
 obtain ⟨i, _, _, _, h⟩ := trnTo_mem ht
 exact votesL_rg hp _ h
theorem shaped_trn (ts : List Trn) : SeqAt.shaped (.list (ts.map trD)) = true := by
 have h : PyData.depthAll (ts.map trD) <= 1 /\ PyData.canLayAll0 (ts.map trD) = true := by
  induction ts with
  | nil => simp [PyData.depthAll, PyData.canLayAll0]
  | cons a r ih => simp [trD, PyData.depthAll, PyData.depth, PyData.canLayAll0, PyData.canLay0, ih.2]; have := ih.1; omega
 unfold SeqAt.shaped
 simp only [PyData.canLay0, PyData.depth, h.2, Bool.true_and]
 have := h.1
 simp
 omega
theorem shaped_nilL : SeqAt.shaped (.list []) = true := by with_unfolding_all rfl
theorem eqv_trn (ts : List Trn) : (PyData.eqv (.list (ts.map trD)) (.list []) != false) = decide (ts = []) := by
 cases ts <;> simp [PyData.eqv, PyData.eqvAll]
end L2
set_option maxRecDepth 100000
set_option maxHeartbeats 4000000
namespace L2
open PySem PySem.Spec PyProof.Rows
def shW (p : Int) (ws fs : List Int) : List Int := mixW p ws 1 fs 1
def shX (p f x : Int) : Int := (x + f) % p
def shT (p : Int) (fs : List Int) (t : Trn) : Trn := (t.1, shX p (fs.getD t.1.toNat 0) t.2.1, shX p (fs.getD t.1.toNat 0) t.2.2)
def TrueW (p : Int) (cs : List Prs) (fs : List Int) : Prop := ∀ prs ∈ cs, dueSum prs (fs.map some) % p = 0
theorem shW_len {p : Int} {ws fs : List Int} (h : fs.length = ws.length) : (shW p ws fs).length = ws.length := by
 unfold shW mixW
 rw [List.length_zipWith, h, Nat.min_self]
theorem shW_at {p : Int} {ws fs : List Int} (h : fs.length = ws.length) (i : Nat) : (shW p ws fs)[i]? = (ws[i]?).map fun x => shX p (fs.getD i 0) x := by
 unfold shW mixW shX
 rw [List.getElem?_zipWith]
 by_cases hi : i < ws.length
 ·have hf : i < fs.length := by omega
  rw [List.getElem?_eq_getElem hi, List.getElem?_eq_getElem hf, List.getD_eq_getElem?_getD, List.getElem?_eq_getElem hf]
  simp
 ·rw [List.getElem?_eq_none (by omega), List.getElem?_eq_none (by omega)]
  rfl
theorem shW_getD {p : Int} {ws fs : List Int} (h : fs.length = ws.length) {i : Nat} (hi : i < ws.length) : (shW p ws fs).getD i 0 = shX p (fs.getD i 0) (ws.getD i 0) := by
 rw [List.getD_eq_getElem?_getD, shW_at h, List.getElem?_eq_getElem hi, List.getD_eq_getElem?_getD (l := ws), List.getElem?_eq_getElem hi]
 rfl
theorem shW_rg {p : Int} {ws fs : List Int} (hp : 0 < p) : ∀ x ∈ shW p ws fs, 0 <= x /\ x < p := by
 intro x hx
 unfold shW mixW at hx
 obtain ⟨i, hi, e⟩ := List.mem_iff_getElem.mp hx
 rw [List.getElem_zipWith] at e
 rw [<- e]
 exact ⟨Int.emod_nonneg _ (by omega), Int.emod_lt_of_pos _ hp⟩
theorem due_sh {p : Int} {prs : Prs} {ws fs : List Int} (h : fs.length = ws.length) (hr : ∀ pr ∈ prs, 0 <= pr.1 /\ pr.1 < ws.length) (ht : dueSum prs (fs.map some) % p = 0) : dueSum prs ((shW p ws fs).map some) % p = dueSum prs (ws.map some) % p := by
 unfold shW
 rw [dueSum_mix h.symm hr, ht]
 simp
theorem brk_sh {p : Int} {cs : List Prs} {ws fs : List Int} (h : fs.length = ws.length) (hq : ∀ prs ∈ cs, PrsQ p ws.length prs) (ht : TrueW p cs fs) : brk p cs (shW p ws fs) = brk p cs ws := by
 unfold brk
 apply List.countP_congr
 intro prs hprs
 rw [due_sh h (fun pr hpr => ⟨((hq prs hprs).2.2 pr hpr).1, ((hq prs hprs).2.2 pr hpr).2.1⟩) (ht prs hprs)]
theorem votes_sh {p : Int} {cs : List Prs} {ws fs : List Int} {pl : Nat} (h : fs.length = ws.length) (hq : ∀ prs ∈ cs, PrsQ p ws.length prs) (ht : TrueW p cs fs) (hpl : pl < ws.length) : votesL p cs (shW p ws fs) (pl : Int) = (votesL p cs ws (pl : Int)).map (shX p (fs.getD pl 0)) := by
 unfold votesL
 rw [List.map_map]
 apply List.map_congr_left
 intro q hqm
 obtain ⟨c, prs, f, e1, e2, e3, rfl⟩ := vcTo_mem (Nat.le_refl _) hqm
 have hm : prs ∈ cs := List.mem_of_getElem? e1
 have eg : cs.getD c [] = prs := by rw [List.getD_eq_getElem?_getD, e1]; rfl
 show (_ : Int) = shX p _ _
 dsimp only
 rw [Int.toNat_natCast, Int.toNat_natCast, eg, due_sh h (fun pr hpr => ⟨((hq prs hm).2.2 pr hpr).1, ((hq prs hm).2.2 pr hpr).2.1⟩) (ht prs hm), shW_getD h hpl]
 unfold shX
 rw [Int.emod_add_emod, Int.emod_sub_emod]
 congr 1
 omega
theorem shX_inj {p f x y : Int} (x0 : 0 <= x) (x1 : x < p) (y0 : 0 <= y) (y1 : y < p) (h : shX p f x = shX p f y) : x = y := by
 unfold shX at h
 have := Int.emod_emod_of_dvd
 have h2 : (x + f - (y + f)) % p = 0 := Int.emod_eq_emod_iff_emod_sub_eq_zero.mp h
 rw [show x + f - (y + f) = x - y by omega] at h2
 obtain ⟨k, hk⟩ := Int.dvd_of_emod_eq_zero h2
 rcases Int.lt_trichotomy k 0 with z | z | z
 ·have : p * k <= p * (-1) := Int.mul_le_mul_of_nonneg_left (by omega) (by omega)
  omega
 ·subst z; omega
 ·have : p * 1 <= p * k := Int.mul_le_mul_of_nonneg_left (by omega) (by omega)
  omega
theorem count_sh {p f x : Int} (x0 : 0 <= x) (x1 : x < p) : ∀ {L : List Int}, (∀ y ∈ L, 0 <= y /\ y < p) -> (L.map (shX p f)).count (shX p f x) = L.count x
  | [], _ => rfl
  | y :: L, h => by
    rw [List.map_cons, List.count_cons, List.count_cons, count_sh x0 x1 fun z hz => h z (List.mem_cons_of_mem _ hz)]
    obtain ⟨y0, y1⟩ := h y (List.mem_cons_self ..)
    congr 1
    by_cases e : y = x
    · rw [e]; simp
    · have : shX p f y ≠ shX p f x := fun z => e (shX_inj y0 y1 x0 x1 z)
      simp [e, this]
theorem good_sh {p f w x : Int} {L : List Int} (hL : ∀ y ∈ L, 0 <= y /\ y < p) (w0 : 0 <= w) (w1 : w < p) (x0 : 0 <= x) (x1 : x < p) : goodV (L.map (shX p f)) (shX p f w) (shX p f x) = goodV L w x := by
 unfold goodV
 rw [count_sh x0 x1 hL, List.length_map]
 congr 1
 apply decide_eq_decide.mpr
 exact ⟨fun z e => z (by rw [e]), fun z e => z (shX_inj x0 x1 w0 w1 e)⟩
theorem mj_sh {p f w : Int} {L : List Int} (hL : ∀ y ∈ L, 0 <= y /\ y < p) (w0 : 0 <= w) (w1 : w < p) : mjL (L.map (shX p f)) (shX p f w) = (mjL L w).map (shX p f) := by
 unfold mjL
 rw [List.filter_map, <- List.map_take]
 congr 2
 apply List.filter_congr
 intro x hx
 exact good_sh hL w0 w1 (hL x hx).1 (hL x hx).2
theorem trnTo_sh {p : Int} {cs : List Prs} {ws fs : List Int} (hp : 0 < p) (h : fs.length = ws.length) (hq : ∀ prs ∈ cs, PrsQ p ws.length prs) (ht : TrueW p cs fs) (hw : ∀ x ∈ ws, 0 <= x /\ x < p) : ∀ n, n <= ws.length -> trnTo p cs (shW p ws fs) n = (trnTo p cs ws n).map (shT p fs)
  | 0, _ => rfl
  | n + 1, hn => by
    rw [trnTo_succ, trnTo_succ, List.map_append, trnTo_sh hp h hq ht hw n (by omega)]
    congr 1
    unfold trnAt
    have hg : ws.getD n 0 = ws[n] := by rw [List.getD_eq_getElem?_getD, List.getElem?_eq_getElem (show n < ws.length by omega)]; rfl
    obtain ⟨g0, g1⟩ := hw _ (List.getElem_mem (show n < ws.length by omega))
    rw [votes_sh h hq ht (by omega), shW_getD h (by omega), mj_sh (votesL_rg hp) (by rw [hg]; exact g0) (by rw [hg]; exact g1), List.map_map, List.map_map]
    apply List.map_congr_left
    intro x _
    show ((n : Int), _, _) = shT p fs ((n : Int), _, _)
    unfold shT
    dsimp only
    rw [Int.toNat_natCast]
theorem set_sh {p : Int} {ws fs : List Int} (h : fs.length = ws.length) (i : Nat) (x : Int) : (shW p ws fs).set i (shX p (fs.getD i 0) x) = shW p (ws.set i x) fs := by
 apply List.ext_getElem?
 intro k
 rw [List.getElem?_set, shW_at h, shW_at (by rw [List.length_set]; exact h), List.getElem?_set, shW_len h]
 by_cases e : i = k
 ·subst e
  rw [if_pos rfl, if_pos rfl]
  split <;> rfl
 ·rw [if_neg e, if_neg e]
theorem putT_sh {p : Int} {fs : List Int} : ∀ (ts : List Trn) {ws : List Int}, fs.length = ws.length -> putT (shW p ws fs) (ts.map (shT p fs)) = shW p (putT ws ts) fs
  | [], ws, _ => rfl
  | t :: ts, ws, h => by
    show putT ((shW p ws fs).set t.1.toNat (shX p (fs.getD t.1.toNat 0) t.2.2)) (ts.map (shT p fs)) = shW p (putT (ws.set t.1.toNat t.2.2) ts) fs
    rw [set_sh h]
    exact putT_sh ts (by rw [List.length_set]; exact h)
theorem vrun_sh {p : Int} {cs : List Prs} {fs : List Int} {n : Nat} (hp : 0 < p) (hq : ∀ prs ∈ cs, PrsQ p n prs) (hf : fs.length = n) (ht : TrueW p cs fs) : ∀ k {ws : List Int}, ws.length = n -> (∀ x ∈ ws, 0 <= x /\ x < p) ->
    vrun p cs n k (shW p ws fs) = (shW p (vrun p cs n k ws).1 fs, (vrun p cs n k ws).2.1.map (fun ts => ts.map (shT p fs)), (vrun p cs n k ws).2.2)
  | k, ws, hl, hw => by
    have hfl : fs.length = ws.length := by omega
    have hq' : ∀ prs ∈ cs, PrsQ p ws.length prs := by rw [hl]; exact hq
    have hb := brk_sh hfl hq' ht
    have htr := trnTo_sh hp hfl hq' ht hw n (by omega)
    by_cases c : brk p cs ws = 0
    · rw [vrun_held c, vrun_held (by rw [hb]; exact c)]; rfl
    · cases k with
      | zero => rw [vrun_far c, vrun_far (by rw [hb]; exact c)]; rfl
      | succ k =>
        by_cases c2 : trnTo p cs ws n = []
        · rw [vrun_stuck c c2, vrun_stuck (by rw [hb]; exact c) (by rw [htr, c2]; rfl)]; rfl
        · have c3 : trnTo p cs (shW p ws fs) n ≠ [] := by rw [htr]; simpa using c2
          obtain ⟨g1, g2⟩ := round_in (cs := cs) hp hl hw
          rw [vrun_on c c2, vrun_on (by rw [hb]; exact c) c3, htr, putT_sh _ hfl, vrun_sh hp hq hf ht k g1 g2]
          rfl
theorem votes_true {p : Int} {cs : List Prs} {fs : List Int} {pl : Nat} (hf : ∀ x ∈ fs, 0 <= x /\ x < p) (ht : TrueW p cs fs) (hpl : pl < fs.length) : ∀ x ∈ votesL p cs fs (pl : Int), x = fs.getD pl 0 := by
 intro x hx
 unfold votesL at hx
 obtain ⟨q, hqm, rfl⟩ := List.mem_map.mp hx
 obtain ⟨c, prs, f, e1, e2, e3, rfl⟩ := vcTo_mem (Nat.le_refl _) hqm
 have eg : cs.getD c [] = prs := by rw [List.getD_eq_getElem?_getD, e1]; rfl
 have hg : fs.getD pl 0 = fs[pl] := by rw [List.getD_eq_getElem?_getD, List.getElem?_eq_getElem hpl]; rfl
 obtain ⟨g0, g1⟩ := hf _ (List.getElem_mem hpl)
 dsimp only
 rw [Int.toNat_natCast, Int.toNat_natCast, eg, ht prs (List.mem_of_getElem? e1), Int.zero_mul, Int.sub_zero, hg, Int.emod_eq_of_lt g0 g1]
theorem trn_true {p : Int} {cs : List Prs} {fs : List Int} (hf : ∀ x ∈ fs, 0 <= x /\ x < p) (ht : TrueW p cs fs) : ∀ n, n <= fs.length -> trnTo p cs fs n = []
  | 0, _ => rfl
  | n + 1, hn => by
    rw [trnTo_succ, trn_true hf ht n (by omega)]
    show trnAt p cs fs n = []
    unfold trnAt mjL
    have : (votesL p cs fs (n : Int)).filter (goodV (votesL p cs fs (n : Int)) (fs.getD n 0)) = [] := by
      rw [List.filter_eq_nil_iff]
      intro x hx
      have e := votes_true hf ht (by omega) x hx
      unfold goodV
      simp [e]
    rw [this]
    rfl
theorem brk_true {p : Int} {cs : List Prs} {fs : List Int} (ht : TrueW p cs fs) : brk p cs fs = 0 := by
 unfold brk
 rw [List.countP_eq_zero]
 intro prs hprs
 simp [ht prs hprs]
theorem lex_first {c d : Int × Int} (h : lexB d c = false) : c.1 <= d.1 := by
 unfold lexB at h
 split at h
 ·omega
 ·have := of_decide_eq_false h; omega
theorem rise_votes {p f : Int} {L rs ss : List Int} {qs : List (Int × Int)} (hL : ∀ y ∈ L, 0 <= y /\ y < p) (h1 : rs.Pairwise (· < ·)) (h2 : ∀ k, k ∈ rs ↔ k ∈ L) (g1 : ss.Pairwise (· < ·)) (g2 : ∀ k, k ∈ ss ↔ k ∈ L.map (shX p f))
  (hp : qs.Perm (rs.map fun r => (shX p f r, (L.count r : Int)))) (hr : qs.Pairwise fun c d => lexB d c = false) : qs = ss.map fun r => (r, ((L.map (shX p f)).count r : Int)) := by
 have hm : ∀ q ∈ qs, ∃ r ∈ L, q = (shX p f r, (L.count r : Int)) := fun q hq => by
  obtain ⟨r, hr, e⟩ := List.mem_map.mp (hp.mem_iff.mp hq)
  exact ⟨r, (h2 r).mp hr, e.symm⟩
 have e1 : qs = (qs.map (·.1)).map fun r => (r, ((L.map (shX p f)).count r : Int)) := by
  rw [List.map_map]
  conv => lhs; rw [<- List.map_id qs]
  apply List.map_congr_left
  intro q hq
  obtain ⟨r, hr, e⟩ := hm q hq
  rw [e]
  show (shX p f r, (L.count r : Int)) = (shX p f r, ((L.map (shX p f)).count (shX p f r) : Int))
  rw [count_sh (hL r hr).1 (hL r hr).2 hL]
 have hf : (qs.map (·.1)).Perm (rs.map (shX p f)) := by
  have := hp.map (·.1)
  rw [List.map_map] at this
  exact this
 have nd : (qs.map (·.1)).Nodup := by
  refine hf.nodup_iff.mpr ?_
  rw [List.Nodup, List.pairwise_map]
  refine h1.imp_of_mem fun {a b} ha hb hab z => ?_
  have := shX_inj (hL a ((h2 a).mp ha)).1 (hL a ((h2 a).mp ha)).2 (hL b ((h2 b).mp hb)).1 (hL b ((h2 b).mp hb)).2 z
  omega
 have hs : (qs.map (·.1)).Pairwise (· < ·) := by
  have h3 : (qs.map (·.1)).Pairwise (· <= ·) := by
   rw [List.pairwise_map]
   exact hr.imp fun h => lex_first h
  exact (h3.and nd).imp fun h => by omega
 rw [e1]
 congr 1
 refine rising_uniq hs g1 fun k => ?_
 rw [hf.mem_iff, g2 k]
 constructor
 ·intro z
  obtain ⟨r, hr, e⟩ := List.mem_map.mp z
  exact List.mem_map.mpr ⟨r, (h2 r).mp hr, e⟩
 ·intro z
  obtain ⟨r, hr, e⟩ := List.mem_map.mp z
  exact List.mem_map.mpr ⟨r, (h2 r).mpr hr, e⟩
def TrnIn (p : Int) (n : Nat) (ts : List Trn) : Prop := ts.length <= n /\ ∀ t ∈ ts, 0 <= t.1 /\ t.1 < n /\ 0 <= t.2.1 /\ t.2.1 < p /\ 0 <= t.2.2 /\ t.2.2 < p
theorem trn_in {p : Int} {cs : List Prs} {n : Nat} {ws : List Int} (hp : 0 < p) (hl : ws.length = n) (hw : ∀ x ∈ ws, 0 <= x /\ x < p) : TrnIn p n (trnTo p cs ws n) := by
 refine ⟨trnTo_len n, fun t ht => ?_⟩
 obtain ⟨i, hi, e1, e2, e3⟩ := trnTo_mem ht
 have hg : ws.getD i 0 = ws[i] := by rw [List.getD_eq_getElem?_getD, List.getElem?_eq_getElem (show i < ws.length by omega)]; rfl
 obtain ⟨g0, g1⟩ := hw _ (List.getElem_mem (show i < ws.length by omega))
 obtain ⟨v0, v1⟩ := votesL_rg hp _ e3
 rw [hg] at e2
 exact ⟨by omega, by omega, by omega, by omega, v0, v1⟩
theorem vrun_in {p : Int} {cs : List Prs} {n : Nat} (hp : 0 < p) : ∀ k {ws : List Int}, ws.length = n -> (∀ x ∈ ws, 0 <= x /\ x < p) ->
    (vrun p cs n k ws).1.length = n /\ (∀ x ∈ (vrun p cs n k ws).1, 0 <= x /\ x < p) /\ (vrun p cs n k ws).2.1.length <= k /\ ∀ ts ∈ (vrun p cs n k ws).2.1, TrnIn p n ts
  | k, ws, hl, hw => by
    by_cases c : brk p cs ws = 0
    · rw [vrun_held c]; exact ⟨hl, hw, Nat.zero_le _, fun _ h => nomatch h⟩
    · cases k with
      | zero => rw [vrun_far c]; exact ⟨hl, hw, Nat.zero_le _, fun _ h => nomatch h⟩
      | succ k =>
        by_cases c2 : trnTo p cs ws n = []
        · rw [vrun_stuck c c2]; exact ⟨hl, hw, Nat.zero_le _, fun _ h => nomatch h⟩
        · obtain ⟨g1, g2⟩ := round_in (cs := cs) hp hl hw
          obtain ⟨i1, i2, i3, i4⟩ := vrun_in (cs := cs) hp k g1 g2
          rw [vrun_on c c2]
          refine ⟨i1, i2, Nat.succ_le_succ i3, fun ts hts => ?_⟩
          rcases List.mem_cons.mp hts with e | e
          · rw [e]; exact trn_in hp hl hw
          · exact i4 ts e
end L2
set_option maxRecDepth 100000
set_option maxHeartbeats 8000000
namespace K57
open PySem L2
def top (i : Nat) : Stmt := PySem.Challenge.pw_fewchecks_k57_whole_votes_hang_on_what_i.main.body.getD i (.Pass ⟨0, 0, 0, 0⟩)
abbrev sInverse : Stmt := top 1
abbrev sTotal : Stmt := top 2
abbrev sSums : Stmt := top 4
abbrev sSumOf : Stmt := top 5
abbrev sVoices : Stmt := top 7
abbrev sAllVoices : Stmt := top 8
abbrev sCountsOf : Stmt := top 9
abbrev sVotes : Stmt := top 10
abbrev sTurnsOf : Stmt := top 11
abbrev sTurned : Stmt := top 12
abbrev sWithTurns : Stmt := top 13
abbrev sVoted : Stmt := top 14
abbrev sBrokenOf : Stmt := top 15
abbrev sLawBag : Stmt := top 17
abbrev sLawStirred : Stmt := top 18
abbrev sLawDraw : Stmt := top 19
abbrev sLawPrimeFrom : Stmt := top 20
abbrev sLawPrime : Stmt := top 21
abbrev sLawLetters : Stmt := top 22
abbrev sLawOver : Stmt := top 23
abbrev sLawSum : Stmt := top 24
abbrev sLawPlantedCheck : Stmt := top 25
abbrev sLawPlanted : Stmt := top 26
abbrev sLawAlike : Stmt := top 27
abbrev sLawCopy : Stmt := top 28
abbrev sLawWordPut : Stmt := top 29
abbrev sLawVotesPut : Stmt := top 30
abbrev sLawTurnsPut : Stmt := top 31
abbrev sLawKinds : Stmt := top 32
abbrev sLawBoth : Stmt := top 33
abbrev sLaw : Stmt := top 34
local macro_rules | `(tactic| walk_at "d0") => `(tactic| first | omega | assumption | decide | (unfold Sm at *; omega) | (unfold CMul; omega) | (unfold CPow; decide) | (unfold CPow; omega))
local macro_rules | `(tactic| walk_at "ds") => `(tactic| ((try dsimp only); first | walk_at "d0" | (refine And.intro ?_ ?_ <;> walk_at "d0") | (refine Or.inl ?_; walk_at "d0") | (refine Or.inr (And.intro ?_ ?_) <;> walk_at "d0")))
local macro_rules | `(tactic| walk_at "s1") => `(tactic| with_reducible first
 | refine R.seq ?_ | refine R.asg ?_ | refine R.setC ?_ | refine R.ifS ?_ | refine R.ret ?_ | refine R.drop ?_ | refine R.next ?_ | refine R.c ?_ | refine R.op ?_ | refine R.un ?_ | refine R.test ?_ | refine R.bl ?_ | refine R.tru ?_
 | refine R.and ?_ | refine R.or ?_ | refine R.not ?_ | refine R.notV ?_ | refine R.ifE ?_ | refine R.cb ?_ | refine R.call ?_ | refine R.nil ?_ | refine R.cints ?_ | refine R.cons ?_
 | refine R.tup ?_ | refine R.lst ?_ | refine R.sl ?_ | refine R.noPart ?_ | refine R.part ?_ | refine R.bm0 ?_ | refine R.bm ?_ | refine R.tyInt ?_ | refine R.gname ?_ | refine R.gsub ?_ | refine R.gcons ?_ | refine R.gnil ?_ | refine R.noTest ?_
 | refine R.rI0 ?_ | refine R.rU ?_ | refine R.eqI ?_ | refine R.neI ?_ | refine R.eqNI ?_ | refine R.eqIN ?_ | refine R.isI ?_ | refine R.isN ?_ | refine R.notI ?_ | refine R.notN ?_ | refine R.intB ?_ | refine R.bits ?_
 | refine iteT ?_ | refine iteF ?_ | refine R.nilE ?_ | refine R.isiII ?_ | refine R.isiIB ?_ | refine R.rng1 ?_ | refine R.rng2 ?_ | refine R.iL ?_ | refine R.for_ ?_ | refine R.comp ?_)
local macro_rules | `(tactic| walk_at "st") => `(tactic| repeat (first
 | walk_at "s1"
 | ((with_reducible refine' R.var ?h0 ?_); (case h0 => rfl))
 | ((with_reducible refine' R.rI ?h1 ?_); (case h1 => walk_at "ds"))
 | ((with_reducible refine' R.ixS (o := .lst []) ?h1 ?_); (case h1 => rfl))
 | ((with_reducible refine' R.ixM ?h0 ?h1 ?_); (case h0 => assumption); (case h1 => rfl))
 | ((with_reducible refine' R.ixTM ?h0 ?h1 ?_); (case h0 => assumption); (case h1 => rfl))
 | ((with_reducible refine' R.setS ?h1 ?_); (case h1 => rfl))
 | ((with_reducible refine' R.setM ?h0 ?h1 ?_); (case h0 => assumption); (case h1 => rfl))
 | ((with_reducible refine' R.lenM ?h0 ?_); (case h0 => assumption))
 | ((with_reducible refine' R.lenL ?h0 ?_); (case h0 => assumption))
 | ((with_reducible refine' R.rng1I ?h0 ?h1 ?_); (case h0 => walk_at "ds"); (case h1 => walk_at "ds"))
 | ((with_reducible refine' R.rng2I ?h0 ?_); (case h0 => walk_at "ds"))
 | ((with_reducible refine' R.iL1 ?h0 ?_); (case h0 => assumption))
 | ((with_reducible refine' R.iteP ?h0 ?_); (case h0 => first | exact R.dT (by omega) | exact R.dTn (by omega) | decide))
 | ((with_reducible refine' R.iteN ?h0 ?_); (case h0 => first | exact R.dF (by omega) | exact R.dFn (by omega) | decide))
 | (with_reducible refine R.min2 ?_) | (with_reducible refine R.abs1 ?_) | (with_reducible refine R.partI ?_)))
local macro_rules | `(tactic| walk_at "fv") => `(tactic| first | exact Or.inl rfl | exact Or.inr (Or.inl rfl) | exact Or.inr (Or.inr (Or.inl rfl)) | exact Or.inr (Or.inr (Or.inr (Or.inl rfl))) | exact Or.inr (Or.inr (Or.inr (Or.inr rfl))))
local macro_rules | `(tactic| walk_at "d1") => `(tactic| with_reducible first
 | refine Sv.seq ?_ | refine Sv.asgNil ?_ | refine Sv.asg ?_ | refine Sv.setCF ?_ | refine Sv.ifS ?_ | refine Sv.ret ?_ | refine Sv.next ?_ | refine Sv.retN ?_
 | refine Ev.int ?_ | refine Ev.bl ?_ | refine Ev.non ?_ | refine Ev.rI0 ?_ | refine Ev.rB0 ?_ | refine Ev.rI ?_ | refine Ev.rU ?_ | refine Ev.eq ?_ | refine Ev.ne ?_ | refine Ev.is ?_ | refine Ev.isB ?_ | refine Ev.isNotB ?_ | refine Ev.isNot ?_ | refine Ev.eqD ?_ | refine Ev.rev ?_ | refine Ev.inI ?_ | refine Ev.str ?_ | refine Ev.primeFrom ?_ | refine Ev.slT ?_ | refine Ev.catT ?_
 | refine Ev.andV ?_ | refine Ev.orV ?_ | refine Ev.notV ?_ | refine Ev.ifE ?_ | refine Tv.test ?_ | refine Tv.and ?_ | refine Tv.or ?_ | refine Tv.not ?_ | refine Tv.noTest ?_ | refine Tv.truB ?_
 | refine Ev.tupF ?_ | refine Ev.tupS ?_ | refine Ev.tup ?_ | refine Ev.lst ?_ | refine Av.nil ?_ | refine Av.cons ?_ | refine Av.cints ?_ | refine Ov.none ?_ | refine Ov.some ?_ | refine Ev.min2 ?_ | refine Ev.max2 ?_ | refine Ev.abs1 ?_ | refine Ev.intB ?_ | refine Ev.whole ?_
 | refine R.di ?_ | refine R.db ?_ | refine R.dl ?_ | refine R.dt ?_ | refine R.dll ?_ | refine R.dlt ?_ | refine R.eqii ?_ | refine R.eqni ?_ | refine R.eqin ?_ | refine R.eqnn ?_ | refine R.eqbb ?_
 | refine Gv.nameI ?_ | refine Gv.nameB ?_ | refine Gv.nameN ?_ | refine Gv.nameT ?_ | refine Gv.nameF ?_ | refine Gv.snil ?_ | refine Gv.scons ?_ | refine iteT ?_ | refine iteF ?_)
local macro_rules | `(tactic| walk_at "dt") => `(tactic| repeat (first
 | ((with_reducible refine' Sv.retOwn ?h0 ?_); (case h0 => rfl))
 | ((with_reducible refine' Sv.setOwn ?h0 ?_); (case h0 => rfl))
 | walk_at "d1"
 | ((with_reducible refine' Ev.var ?h0 ?_); (case h0 => rfl))
 | ((with_reducible refine' Ev.draw ?h0 ?_); (case h0 => rfl))
 | ((with_reducible refine' Ev.prime ?h0 ?_); (case h0 => rfl))
 | ((with_reducible refine' Ev.ixOwn ?h0 ?_); (case h0 => rfl))
 | ((with_reducible refine' Ev.lenOwn ?h0 ?_); (case h0 => rfl))
 | ((with_reducible refine' Ev.lenRaw ?h0 ?h1 ?_); (case h0 => rfl); (case h1 => assumption))
 | ((with_reducible refine' Ev.listOwn ?h0 ?_); (case h0 => rfl))
 | ((with_reducible refine' Ev.slOwn ?h0 ?_); (case h0 => rfl))
 | ((with_reducible refine' Sv.append ?h0 ?_); (case h0 => rfl))
 | ((with_reducible refine' Sv.setOwn ?h0 ?_); (case h0 => rfl))
 | ((with_reducible refine' Sv.retOwn ?h0 ?_); (case h0 => rfl))
 | ((with_reducible refine' Gv.tup ?h0 ?_); (case h0 => rfl))
 | ((with_reducible refine' Gv.lst ?h0 ?_); (case h0 => rfl))
 | ((with_reducible refine' R.at_ ?h0 ?_); (case h0 => first | rfl | assumption))
 | (with_reducible refine Ev.ixL ?_) | (with_reducible refine Ev.ixT ?_) | (with_reducible refine Ev.listOf ?_) | (with_reducible refine Ev.sl ?_) | (with_reducible refine Ev.cat ?_) | (with_reducible refine Ev.lenS ?_)
 | ((with_reducible refine' Ev.isi ?h0 ?_); (case h0 => walk_at "fv"))
 | ((with_reducible refine' Ev.isi2 ?h0 ?h1 ?_); (case h0 => walk_at "fv"); (case h1 => walk_at "fv"))
 | (with_reducible refine Ev.all ?_) | (with_reducible refine Ev.sum ?_) | (with_reducible refine Ev.ixS ?_)
 | ((with_reducible refine' R.lnil ?_))
 | ((with_reducible refine' R.iteP ?h0 ?_); (case h0 => first | exact R.dT (by omega) | exact R.dTn (by omega) | rfl))
 | ((with_reducible refine' R.iteN ?h0 ?_); (case h0 => first | exact R.dF (by omega) | exact R.dFn (by omega) | exact Bool.false_ne_true))
 | ((with_reducible refine' R.cnd ?h0 ?_); (case h0 => first | walk_at "ds" | exact Nat.le_of_ble_eq_true rfl))))
local macro_rules | `(tactic| walk_at "wk") => `(tactic| repeat (first | exact Wk.nil | apply Wk.no | apply Wk.eq))
section
variable {P : Program} {w : World} {K : PySem.W.Frag} {mg : Str -> Option Value} {base : Heap} {f : Addr} {fd : FuncData}
theorem scInverse : FnScope ["p", "b", "last_rest", "last_times", "rest", "times", "quotient", "next_rest", "next_times"] ["p", "b"] (defScope sInverse) := ⟨rfl, rfl, rfl, by decide +kernel, rfl, by decide +kernel, by decide +kernel⟩
theorem ok_inverse (F : Fun K "inverse" "inverse" sInverse f fd)    :
  FnOk P w K mg base CX0 1 f fd ["p", "b"] spInverse := by
 refine F.ok scInverse (fun vs H Q E h => ?_) (fun cdv A outer s H vs Q E hr h => ?_)
 ·obtain ⟨p, b, rfl, hp, hp3, hb, q⟩ := h
  rfl
 obtain ⟨p, b, rfl, hp, hp3, hb, q⟩ := h
 refine ⟨_, (@pss_cons _ _ _ _ _ (@ps_set _ _ (2) _ _ _ _ scInverse.nd rfl (Or.inl rfl) (pv 0) (by rfl) (by first | exact .inl rfl | exact .inr rfl | assumption)) (@pss_cons _ _ _ _ _ (@ps_set _ _ (3) _ _ _ _ scInverse.nd rfl (Or.inl rfl) pe_int (by rfl) (by first | exact .inl rfl | exact .inr rfl | assumption)) (@pss_cons _ _ _ _ _ (@ps_set _ _ (4) _ _ _ _ scInverse.nd rfl (Or.inl rfl) (@pe_op _ _ _ _ _ _ _ _ op_mod (pv 1) (pv 0)) (by rfl) (by first | exact .inl rfl | exact .inr rfl | assumption)) (@pss_cons _ _ _ _ _ (@ps_set _ _ (5) _ _ _ _ scInverse.nd rfl (Or.inl rfl) pe_int (by rfl) (by first | exact .inl rfl | exact .inr rfl | assumption)) (@pss_cons _ _ _ _ _ (@ps_while _ _ _ _ _ _ PassesOwn.never (@pt_cmpR _ _ _ _ _ _ _ _ op_ne (pv 4) pe_int (nomark _)) (@pss_cons _ _ _ _ _ (@ps_set _ _ (6) _ _ _ _ scInverse.nd rfl (Or.inl rfl) (@pe_op _ _ _ _ _ _ _ _ op_fdivS (pv 2) (pv 4)) (by rfl) (by first | exact .inl rfl | exact .inr rfl | assumption)) (@pss_cons _ _ _ _ _ (@ps_set _ _ (7) _ _ _ _ scInverse.nd rfl (Or.inl rfl) (@pe_op _ _ _ _ _ _ _ _ op_sub (pv 2) (@pe_op _ _ _ _ _ _ _ _ op_mulA (pv 6) (pv 4))) (by rfl) (by first | exact .inl rfl | exact .inr rfl | assumption)) (@pss_cons _ _ _ _ _ (@ps_set _ _ (8) _ _ _ _ scInverse.nd rfl (Or.inl rfl) (@pe_op _ _ _ _ _ _ _ _ op_sub (pv 3) (@pe_op _ _ _ _ _ _ _ _ op_mulA (pv 6) (pv 5))) (by rfl) (by first | exact .inl rfl | exact .inr rfl | assumption)) (@pss_cons _ _ _ _ _ (@ps_set _ _ (2) _ _ _ _ scInverse.nd rfl (Or.inl rfl) (pv 4) (by rfl) (by first | exact .inl rfl | exact .inr rfl | assumption)) (@pss_cons _ _ _ _ _ (@ps_set _ _ (3) _ _ _ _ scInverse.nd rfl (Or.inl rfl) (pv 5) (by rfl) (by first | exact .inl rfl | exact .inr rfl | assumption)) (@pss_cons _ _ _ _ _ (@ps_set _ _ (4) _ _ _ _ scInverse.nd rfl (Or.inl rfl) (pv 7) (by rfl) (by first | exact .inl rfl | exact .inr rfl | assumption)) (@pss_one _ _ _ (@ps_set _ _ (5) _ _ _ _ scInverse.nd rfl (Or.inl rfl) (pv 8) (by rfl) (by first | exact .inl rfl | exact .inr rfl | assumption)))))))))) (@pss_one _ _ _ (@ps_ret _ _ _ _ (@pe_op _ _ _ _ _ _ _ _ op_mod (pv 3) (pv 0))))))))), ?_⟩
 have hp2 := hp.1
 walk_at "st"
 refine while_by (fun σ H1 => H1 = H /\ ∃ (L lt r t : Int) (x6 x7 x8 : Option V), σ = [some (.int p), some (.int b), some (.int L), some (.int lt), some (.int r), some (.int t), x6, x7, x8] /\ Eu p b L lt r t) (fun (σ : St) (_ : Hp) => match σ[4]? with | some (some (V.int r)) => r.toNat | _ => 0) ⟨rfl, _, _, _, _, _, _, _, rfl, Eu.start hp2⟩ ?_ ?_
 ·rintro σ H1 ⟨rfl, L, lt, r, t, x6, x7, x8, rfl, E⟩
  obtain ⟨t1, t2⟩ := E.tb
  have e1 := E.l0
  have e2 := E.r0
  have e3 := E.lp
  have e4 := E.rp
  walk_at "st"
  refine ite2 (fun c => ?_) (fun c => ?_)
  ·have c : r ≠ 0 := of_decide_eq_true c
   have hr : 0 < r := by omega
   have q1 : 0 <= L / r := Int.ediv_nonneg (by omega) (by omega)
   have q2 : L / r <= L := Int.ediv_le_self _ (by omega)
   obtain ⟨N1, N2⟩ := E.next hr
   walk_at "st"
   refine ⟨⟨rfl, _, _, _, _, _, _, _, rfl, N1⟩, ?_⟩
   show (L - L / r * r).toNat < r.toNat
   omega
  ·have c : r = 0 := by simpa using c
   subst c
   walk_at "st"
   exact q _ (Int.emod_nonneg _ (by omega)) (Int.emod_lt_of_pos _ (by omega)) (E.fin hp hb)
 ·exact fun σ H Q Q' h ⟨v, e, s, k, ek, z⟩ => ⟨v, e, s, k, ek, h _ _ z⟩
theorem scTotal : FnScope ["p", "pairs", "word", "reached", "place", "factor"] ["p", "pairs", "word"] (defScope sTotal) := ⟨rfl, rfl, rfl, by decide +kernel, rfl, by decide +kernel, by decide +kernel⟩
theorem ok_total (F : Fun K "total" "total" sTotal f fd)    :
    FnOk P w K mg base CX0 1 f fd ["p", "pairs", "word"] spTotal := by
  refine F.ok scTotal (fun vs H Q E h => ?_) (fun cdv A outer s H vs Q E hr h => ?_)
  · obtain ⟨nb, p, va, vc, prs, wd, rfl, hA, hC, hp, h1, h2, q⟩ := h
    rfl
  obtain ⟨nb, p, va, vc, prs, wd, rfl, hA, hC, hp, h1, h2, q⟩ := h
  refine ⟨_, (@pss_cons _ _ _ _ _ (@ps_set _ _ (3) _ _ _ _ scTotal.nd rfl (Or.inl rfl) pe_int (by rfl) (by first | exact .inl rfl | exact .inr rfl | assumption)) (@pss_cons _ _ _ _ _ (@ps_for _ _ _ _ _ _ _ _ PassesOwn.never rfl (@pi_list _ _ _ _ (pv 1)) (pg_tup rfl (@pgs_cons _ _ _ _ _ (pg_name (i := 4) scTotal.nd rfl (Or.inl rfl)) (@pgs_cons _ _ _ _ _ (pg_name (i := 5) scTotal.nd rfl (Or.inl rfl)) pgs_nil (by rfl)) (by rfl))) (@pss_one _ _ _ (@ps_if _ _ _ _ _ _ _ _ (@pt_cmpR _ _ _ _ _ _ _ _ op_notM (@pe_ix _ _ _ _ _ _ _ ix_list (pv 2) (pv 4) (fun _ _ => rfl)) pe_non (nomark _)) (@pss_one _ _ _ (@ps_set _ _ (3) _ _ _ _ scTotal.nd rfl (Or.inl rfl) (@pe_op _ _ _ _ _ _ _ _ op_mod (@pe_op _ _ _ _ _ _ _ _ op_add (pv 3) (@pe_op _ _ _ _ _ _ _ _ op_mulA (pv 5) (@pe_ix _ _ _ _ _ _ _ ix_list (pv 2) (pv 4) (fun _ _ => rfl)))) (pv 0)) (by rfl) (by first | exact .inl rfl | exact .inr rfl | assumption))) pss_nil)) (by intro _; rfl)) (@pss_one _ _ _ (@ps_ret _ _ _ _ (pv 3))))), ?_⟩
  obtain ⟨a, xs, rfl, na, ha, da⟩ := hA.ofL
  obtain ⟨c, ws, rfl, nc, hc, dc⟩ := hC.ofL
  have hxl := da.length
  rw [List.length_map] at hxl
  have ew := isDs_opt dc
  subst ew
  walk_at "st"
  refine R.iL1 (SqL.of ha) ?_
  refine for_list (xs := xs) (fun i σ H1 => H1 = H /\ ∃ (r : Int) (x y : Option V), σ = [some (.int p), some (.ref a), some (.ref c), some (.int r), x, y] /\ r = dueSum (prs.take i) wd % p) ⟨rfl, 0, none, none, rfl, by simp [dueSum]⟩ ?_ ?_ ?_
  · rintro i σ H1 hi ⟨rfl, _⟩
    exact SqL.of ha
  · rintro i x σ H1 hx ⟨rfl, r, y, z, rfl, hr⟩
    have hi : i < prs.length := by have := (List.getElem?_eq_some_iff.mp hx).1; omega
    obtain ⟨x', hx', dx⟩ := da.get (i := i) (by rw [List.getElem?_map, List.getElem?_eq_getElem hi]; rfl)
    rw [hx] at hx'; cases hx'
    obtain ⟨t, rfl, nt, ht⟩ := isD_pair dx
    obtain ⟨g1, g2, g3⟩ := h1 _ (List.getElem_mem hi)
    have hk : prs[i].fst.toNat < wd.length := by omega
    have hat : atI (wd.map optV) prs[i].fst = some (optV wd[prs[i].fst.toNat]) := atI_some g1 (by rw [List.getElem?_map, List.getElem?_eq_getElem hk]; rfl)
    have htm : termOf wd prs[i] = match wd[prs[i].fst.toNat] with | some x => prs[i].snd * x | none => 0 := by
      unfold termOf
      rw [List.getElem?_eq_getElem hk]
      cases wd[prs[i].fst.toNat] <;> rfl
    have hs2 : ∀ x, wd[prs[i].fst.toNat] = some x -> Sm x := fun x e => h2 x (by rw [<- e]; exact List.getElem_mem hk)
    have hd := dueSum_snoc (wd := wd) hi
    refine R.gtup (SqT.of ht) rfl ?_
    walk_at "st"
    refine R.ixM hc hat ?_
    walk_at "st"
    generalize wd[prs[i].fst.toNat] = o at hat htm hs2 ⊢
    cases o with
    | none =>
      refine R.notN ?_
      walk_at "st"
      refine ⟨rfl, _, _, _, rfl, ?_⟩
      rw [hd, htm, hr, Int.add_zero]
    | some x =>
      have hsx := hs2 x rfl
      refine R.notI ?_
      walk_at "st"
      refine R.ixM hc hat ?_
      refine R.rI (Or.inr ⟨g3, hsx⟩) ?_
      walk_at "st"
      refine ⟨rfl, _, _, _, rfl, ?_⟩
      rw [hd, htm, hr, Int.emod_add_emod]
  · rintro σ H1 ⟨rfl, r, x, y, rfl, hr⟩
    walk_at "st"
    rw [hxl, List.take_length] at hr
    rw [hr]
    exact q
def F_sum_of : DF := fun ds Φ => ∃ (p : Int) (prs : Prs) (wd : Wo), ds = [.int p, prsD prs, woD wd] /\ 0 < p /\ PrsOk prs wd.length /\ WoOk wd /\ Φ true (optD (sumOpt p prs wd))
theorem mono_sum_of : MonoF F_sum_of := by
 intro ds Φ Ψ hm z
 obtain ⟨p, prs, wd, e, h1, h2, h3, q⟩ := hm
 exact ⟨p, prs, wd, e, h1, h2, h3, z _ _ q⟩
theorem scSumOf : FnScope ["p", "pairs", "word", "place", "factor"] ["p", "pairs", "word"] (defScope sSumOf) := ⟨rfl, rfl, rfl, by decide +kernel, rfl, by decide +kernel, by decide +kernel⟩
theorem ok_sum_of (F : Fun K "sum_of" "sum_of" sSumOf f fd) (c_total : Callee P w K mg base "total" 1 ["p", "pairs", "word"] spTotal)   :
    FnOk P w K mg base CX0 2 f fd ["p", "pairs", "word"] (spD 3 F_sum_of) := by
  refine F.ok scSumOf (fun vs H Q E h => h.1) (fun cdv A outer s H vs Q E hr h => ?_)
  obtain ⟨_, nb, ds, hlive, hds, hF⟩ := h
  obtain ⟨Φ, hΦ, hF⟩ : ∃ Φ : Pd, (∀ f d v H', Φ f d -> Same H H' -> IsD (fun a => nb a \/ (f = true /\ H a ≠ none)) H' d v -> Q v H') /\ F_sum_of ds Φ := ⟨_, fun f d v H' q => q v H', hF⟩
  obtain ⟨p, prs, wd, rfl, hp, h1, h2, q⟩ := hF
  refine ⟨_, (@pss_cons _ _ _ _ _ (@ps_for _ _ _ _ _ _ _ _ PassesOwn.never rfl (@pi_list _ _ _ _ (pv 1)) (@pg_tupM _ (K) _ _ _ (2) _ rfl rfl (@pgs_cons _ _ _ _ _ (pg_name (i := 3) scSumOf.nd rfl (Or.inl rfl)) (@pgs_cons _ _ _ _ _ (pg_name (i := 4) scSumOf.nd rfl (Or.inl rfl)) pgs_nil (by rfl)) (by rfl)) (by rfl) (by rfl)) (@pss_one _ _ _ (@ps_if _ _ _ _ _ _ _ _ (@pt_cmpR _ _ _ _ _ _ _ _ op_isM (@pe_ix _ _ _ _ _ _ (rIxL K) ix_list (pv 2) (pv 3) (fun _ _ => rfl)) pe_non (nomark _)) (@pss_one _ _ _ (@ps_ret _ _ _ _ pe_non)) pss_nil)) (by intro _; rfl)) (@pss_one _ _ _ (@ps_ret _ _ _ _ (@pe_callC _ _ _ _ _ _ _ _ _ _ c_total (hr.mono (by decide)) (@pa_cons _ _ _ _ _ (pv 0) (@pa_cons _ _ _ _ _ (pv 1) (@pa_cons _ _ _ _ _ (pv 2) pa_nil rfl) rfl) rfl) (by rfl) (by decide) (by rfl) (by rfl))))), ?_⟩
  refine Sv.enterD hlive hds hΦ (ρ := [.d false _, .d false _, .d false _, .no, .no]) rfl ?_
  clear hΦ hds
  walk_at "dt"
  refine Sv.forL (Ev.var rfl ⟨_, rfl, fun v => ?_⟩)
  refine ⟨fun i ρ => (∃ x y, ρ = [.d false (.int p), .d false (prsD prs), .d false (woD wd), x, y]) /\ ∀ pr ∈ prs.take i, wd[pr.1.toNat]? ≠ some none, ⟨⟨_, _, rfl⟩, by simp⟩, ?_, ?_⟩
  · rintro i d ρ hd ⟨⟨x, y, rfl⟩, hI⟩
    obtain ⟨pr, hpr, rfl⟩ := map_at hd
    obtain ⟨g1, g2, g3⟩ := h1 pr (List.mem_of_getElem? hpr)
    obtain ⟨o, ho, hat⟩ := atI_nat' (xs := wd) optD g1 g2 rfl
    walk_at "dt"
    rw [isN_opt]
    cases o with
    | none =>
      walk_at "dt"
      have e : sumOpt p prs wd = none := if_pos ⟨pr, List.mem_of_getElem? hpr, ho⟩
      rw [e] at q
      exact q
    | some z =>
      walk_at "dt"
      refine ⟨⟨_, _, rfl⟩, fun pr' h' => ?_⟩
      rw [take_snoc hpr] at h'
      rcases List.mem_append.mp h' with h' | h'
      · exact hI pr' h'
      · rw [List.mem_singleton.mp h', ho]; exact fun z => by cases z
  · rintro ρ ⟨⟨x, y, rfl⟩, hI⟩
    walk_at "dt"
    refine Ev.total ?_
    walk_at "dt"
    refine ⟨p, prs, wd, rfl, hp, h1, h2, ?_⟩
    have e : sumOpt p prs wd = some (dueSum prs wd % p) := if_neg fun ⟨pr, h, e⟩ => hI pr (by rw [List.length_map, List.take_length]; exact h) e
    rw [e] at q
    exact q
def F_sums : DF := fun ds Φ => ∃ (p n : Int) (cs : List Prs) (wd : Wo), ds = [netD p n cs, woD wd] /\ 0 < p /\ cs.length <= 10000 /\ (∀ prs ∈ cs, PrsOk prs wd.length) /\ WoOk wd /\ Φ true (.list (cs.map fun prs => optD (sumOpt p prs wd)))
theorem mono_sums : MonoF F_sums := by
 intro ds Φ Ψ hm z
 obtain ⟨p, n, cs, wd, e, h1, h2, h3, h4, q⟩ := hm
 exact ⟨p, n, cs, wd, e, h1, h2, h3, h4, z _ _ q⟩
theorem scSums : FnScope ["net", "word"] ["net", "word"] (defScope sSums) := ⟨rfl, rfl, rfl, by decide +kernel, rfl, by decide +kernel, by decide +kernel⟩
theorem ok_sums (F : Fun K "sums" "sums" sSums f fd) (c_sum_of : Callee P w K mg base "sum_of" 2 ["p", "pairs", "word"] (spD 3 F_sum_of))   :
  FnOk P w K mg base CX0 3 f fd ["net", "word"] (spD 2 F_sums) := by
 refine F.ok scSums (fun vs H Q E h => h.1) (fun cdv A outer s H vs Q E hr h => ?_)
 obtain ⟨_, nb, ds, hlive, hds, hF⟩ := h
 obtain ⟨Φ, hΦ, hF⟩ : ∃ Φ : Pd, (∀ f d v H', Φ f d -> Same H H' -> IsD (fun a => nb a \/ (f = true /\ H a ≠ none)) H' d v -> Q v H') /\ F_sums ds Φ := ⟨_, fun f d v H' q => q v H', hF⟩
 obtain ⟨p, n, cs, wd, rfl, hp, hl, h1, h2, q⟩ := hF
 refine ⟨_, (@pss_one _ _ _ (@ps_ret _ _ _ _ (pe_lcomp (CompOk.of (show compOkB (defScope sSums) ["net", "word"] _ ["pairs", "net", "word"] [none, some 0, some 1] = true by decide +kernel)) (@pi_list _ _ _ _ (@pe_ix _ _ _ _ _ _ (rIxT K) ix_tup (pv 0) pe_int (fun _ _ => rfl))) (fun _ _ _ _ => ⟨(pg_name (i := 0) (by show List.Nodup (["pairs", "net", "word"] : List Str); decide +kernel) rfl (Or.inl rfl)), pts_nil, (@pe_callC _ _ _ _ _ _ _ _ _ _ c_sum_of (hr.mono (by decide)) (@pa_cons _ _ _ _ _ (@pe_ix _ _ _ _ _ _ (rIxT K) ix_tup (pv 1) pe_int (fun _ _ => rfl)) (@pa_cons _ _ _ _ _ (pv 0) (@pa_cons _ _ _ _ _ (pv 2) pa_nil rfl) rfl) rfl) (by rfl) (by decide) (by rfl) (by rfl))⟩)))), ?_⟩
 refine Sv.enterD hlive hds hΦ (ρ := [.d false _, .d false _]) rfl ?_
 clear hΦ hds
 walk_at "dt"
 refine EvN.ev (EvN.compL (by decide) rfl ?_)
 walk_at "dt"
 refine ⟨by rw [List.length_map]; exact hl, fun v => ⟨true, fun i ds => ds = (cs.take i).map fun prs => optD (sumOpt p prs wd), rfl, ?_, ?_⟩⟩
 ·rintro i d ds hd hl' rfl
  obtain ⟨prs, hprs, rfl⟩ := map_at hd
  walk_at "dt"
  refine ⟨by walk_at "wk", ?_⟩
  walk_at "dt"
  refine Ev.callD mono_sum_of ?_
  walk_at "dt"
  refine ⟨rfl, p, prs, wd, rfl, hp, h1 prs (List.mem_of_getElem? hprs), h2, fun _ => rfl, ?_⟩
  show _ = List.map _ _
  rw [take_snoc hprs, List.map_append]
  rfl
 ·rintro ds hl' rfl
  rw [List.length_map, List.take_length]
  exact q
def F_voices : DF := fun ds Φ => ∃ (p n : Int) (cs : List Prs) (pls : List Int), ds = [netD p n cs, .list (pls.map .int)] /\ VNet p n cs /\ pls.Nodup /\ pls.length <= 1000 /\
 ∀ f, Φ f (.dict ((pls.map fun pl => (pl, PyData.list ((vcTo p cs pl cs.length).map pairD))).map kvD))
theorem mono_voices : MonoF F_voices := by
 intro ds Φ Ψ hm z
 obtain ⟨p, n, cs, pls, e, h1, h2, h3, q⟩ := hm
 exact ⟨p, n, cs, pls, e, h1, h2, h3, fun f => z _ _ (q f)⟩
theorem scVoices : FnScope ["net", "places", "found", "c", "pairs", "place", "factor"] ["net", "places"] (defScope sVoices) := ⟨rfl, rfl, rfl, by decide +kernel, rfl, by decide +kernel, by decide +kernel⟩
theorem ok_voices (F : Fun K "voices" "voices" sVoices f fd) (c_inverse : Callee P w K mg base "inverse" 1 ["p", "b"] spInverse) (m_dict : mg "dict" = none) (m_enumerate : mg "enumerate" = none)  :
  FnOk P w K mg base CX0 2 f fd ["net", "places"] (spD 2 F_voices) := by
 refine F.ok scVoices (fun vs H Q E h => h.1) (fun cdv A outer s H vs Q E hr h => ?_)
 obtain ⟨_, nb, ds, hlive, hds, hF⟩ := h
 obtain ⟨Φ, hΦ, hF⟩ : ∃ Φ : Pd, (∀ f d v H', Φ f d -> Same H H' -> IsD (fun a => nb a \/ (f = true /\ H a ≠ none)) H' d v -> Q v H') /\ F_voices ds Φ := ⟨_, fun f d v H' q => q v H', hF⟩
 obtain ⟨p, n, cs, pls, rfl, hN, hnd, hpl, q⟩ := hF
 refine ⟨_, (@pss_cons _ _ _ _ _ (@ps_set _ _ (2) _ _ _ _ scVoices.nd rfl (Or.inl rfl) (@pe_callTy _ _ _ _ _ _ _ _ (rDictL) (call_dictL rfl) rfl m_dict PyProof.Rows.boot_dict (@pa_cons _ _ _ _ _ (pe_lcomp (CompOk.of (show compOkB (defScope sVoices) ["net", "places", "found", "c", "pairs", "place", "factor"] _ ["place"] [none] = true by decide +kernel)) (@pi_list _ _ _ _ (pv 1)) (fun _ _ _ _ => ⟨(pg_name (i := 0) (by show List.Nodup (["place"] : List Str); decide +kernel) rfl (Or.inl rfl)), pts_nil, (@pe_tup _ _ _ _ _ (@pa_cons _ _ _ _ _ (pv 0) (@pa_cons _ _ _ _ _ (@pe_lst _ _ _ _ pa_nil) pa_nil rfl) rfl))⟩)) pa_nil rfl) (by decide) (by decide) (by rfl) (by rfl)) (by rfl) (by first | exact .inl rfl | exact .inr rfl | assumption)) (@pss_cons _ _ _ _ _ (@ps_for _ _ _ _ _ _ _ _ PassesOwn.never rfl (@pi_enum _ (K) _ _ _ _ _ _ _ rfl rfl m_enumerate (@pe_ix _ _ _ _ _ _ (rIxT K) ix_tup (pv 0) pe_int (fun _ _ => rfl)) (by rfl)) (@pg_tupM _ (K) _ _ _ (2) _ rfl rfl (@pgs_cons _ _ _ _ _ (pg_name (i := 3) scVoices.nd rfl (Or.inl rfl)) (@pgs_cons _ _ _ _ _ (pg_name (i := 4) scVoices.nd rfl (Or.inl rfl)) pgs_nil (by rfl)) (by rfl)) (by rfl) (by rfl)) (@pss_one _ _ _ (@ps_for _ _ _ _ _ _ _ _ PassesOwn.never rfl (@pi_list _ _ _ _ (pv 4)) (@pg_tupM _ (K) _ _ _ (2) _ rfl rfl (@pgs_cons _ _ _ _ _ (pg_name (i := 5) scVoices.nd rfl (Or.inl rfl)) (@pgs_cons _ _ _ _ _ (pg_name (i := 6) scVoices.nd rfl (Or.inl rfl)) pgs_nil (by rfl)) (by rfl)) (by rfl) (by rfl)) (@pss_one _ _ _ (@ps_if _ _ _ _ _ _ _ _ (@pt_cmpR _ _ _ _ _ _ _ _ (op_inD hr.units) (pv 5) (pv 2) (by with_unfolding_all rfl)) (@pss_one _ _ _ (@ps_expr _ _ _ _ (pe_bm PySem.F.plainAttrs_list PySem.F.slot_list_append PySem.F.type_list_append mt_append (@pe_ix _ _ _ _ _ _ (rIxD) ix_dict (pv 2) (pv 5) (fun _ _ => rfl)) (@pa_cons _ _ _ _ _ (@pe_tup _ _ _ _ _ (@pa_cons _ _ _ _ _ (pv 3) (@pa_cons _ _ _ _ _ (@pe_callC _ _ _ _ _ _ _ _ _ _ c_inverse (hr.mono (by decide)) (@pa_cons _ _ _ _ _ (@pe_ix _ _ _ _ _ _ (rIxT K) ix_tup (pv 0) pe_int (fun _ _ => rfl)) (@pa_cons _ _ _ _ _ (pv 6) pa_nil rfl) rfl) (by rfl) (by decide) (by rfl) (by rfl)) pa_nil rfl) rfl)) pa_nil rfl)) (by rfl))) pss_nil)) (by intro _; rfl))) (by intro _; rfl)) (@pss_one _ _ _ (@ps_ret _ _ _ _ (pv 2))))), ?_⟩
 refine Sv.enterD hlive hds hΦ (ρ := [.d false _, .d false _, .no, .no, .no, .no, .no]) rfl ?_
 clear hΦ hds
 have p2 := hN.hp.1
 have p40 := hN.p40
 have n0 := hN.n0
 have n1 := hN.n1
 have hcl := hN.cl
 have hcm : (cs.map prsD).length = cs.length := List.length_map ..
 refine Sv.seq ?_
 refine Sv.newGd ?_
 walk_at "dt"
 refine ⟨pls, rfl, hnd, by omega, fun A2 rows0 hr0 => ?_⟩
 refine Sv.seq ?_
 refine Sv.forE ?_
 walk_at "dt"
 refine fun v => ⟨fun i ρ => ∃ (rows : List GRow) (f2 : Bool) (x3 x4 x5 x6 : Sl), (rows.map fun r => (r.1, r.2.2)) = (pls.map fun pl => (pl, (vcTo p cs pl i).map pairD)) /\ ρ = [.d false (netD p n cs), .d false (.list (pls.map .int)), .cu (gdC A2 f2 rows), x3, x4, x5, x6], ⟨rows0, true, _, _, _, _, hr0, rfl⟩, ?_, ?_⟩
 ·rintro i d ρ ⟨e, he, rfl⟩ ⟨rows, f2, x3, x4, x5, x6, hr, rfl⟩
  obtain ⟨prs, hprs, rfl⟩ := map_at he
  have hil := (List.getElem?_eq_some_iff.mp hprs).1
  obtain ⟨g1, g2, g3⟩ := hN.ok prs (List.mem_of_getElem? hprs)
  walk_at "dt"
  refine Sv.forL ?_
  walk_at "dt"
  refine fun v => ⟨fun m ρ => ∃ (rows : List GRow) (f2 : Bool) (x5 x6 : Sl), (rows.map fun r => (r.1, r.2.2)) = pls.map (vcPart p cs i (prs.take m)) /\ ρ = [.d false (netD p n cs), .d false (.list (pls.map .int)), .cu (gdC A2 f2 rows), .d true (.int i), .d false (prsD prs), x5, x6], ⟨rows, f2, _, _, by rw [hr]; exact vcPart_start, rfl⟩, ?_, ?_⟩
  ·rintro m d ρ hd ⟨rows, f2, x5, x6, hr, rfl⟩
   obtain ⟨pr, hpr, rfl⟩ := map_at hd
   have hml := (List.getElem?_eq_some_iff.mp hpr).1
   obtain ⟨a0, a1, a2, a3⟩ := g3 pr (List.mem_of_getElem? hpr)
   have hkeys : rows.map (·.1) = pls := by
    have := congrArg (List.map (·.1)) hr
    rw [List.map_map, List.map_map] at this
    have e1 : ((fun (x : Int × List PyData) => x.1) ∘ fun (r : GRow) => (r.1, r.2.2)) = fun (r : GRow) => r.1 := rfl
    have e2 : ((fun (x : Int × List PyData) => x.1) ∘ vcPart p cs i (prs.take m)) = id := rfl
    rw [e1, e2, List.map_id] at this
    exact this
   have hlens : ∀ r ∈ rows, r.2.2.length < 10000 := fun r hr' => by
    have hm : (r.1, r.2.2) ∈ rows.map fun r => (r.1, r.2.2) := List.mem_map_of_mem (f := fun r : GRow => (r.1, r.2.2)) hr'
    rw [hr] at hm
    obtain ⟨pl, _, e⟩ := List.mem_map.mp hm
    have : r.2.2 = (vcPart p cs i (prs.take m) pl).2 := by rw [e]
    rw [this]
    unfold vcPart
    rw [List.length_map, List.length_append]
    have h1 := vcTo_len (p := p) (cs := cs) (pl := pl) i
    have h2 : ∀ o, (vc1 p i o).length <= 1 := fun o => by cases o <;> simp [vc1]
    have := h2 (facOf (prs.take m) pl)
    omega
   have hnew : pr.1 ∉ (prs.take m).map (·.1) := fun z => by
    rw [List.map_take] at z
    obtain ⟨j, hj⟩ := List.getElem?_of_mem z
    have hjm : j < m := by have := (List.getElem?_eq_some_iff.mp hj).1; rw [List.length_take] at this; omega
    rw [List.getElem?_take_of_lt hjm] at hj
    obtain ⟨l1, e1⟩ := List.getElem?_eq_some_iff.mp hj
    have l2 : m < (prs.map (·.1)).length := by rw [List.length_map]; exact hml
    have := (List.getElem_inj (h₀ := l1) (h₁ := l2) g1).mp (by rw [e1, List.getElem_map, (List.getElem?_eq_some_iff.mp hpr).2])
    omega
   have hts := take_snoc hpr
   walk_at "dt"
   refine Ev.inGd rfl ?_
   walk_at "dt"
   by_cases c : pr.1 ∈ rows.map (·.1)
   ·rw [if_pos (by simp [c])]
    have hpm : pr.2 % p ≠ 0 := by rw [Int.emod_eq_of_lt (by omega) (by omega)]; omega
    refine Sv.appGd rfl ?_
    walk_at "dt"
    refine Ev.inv ?_
    walk_at "dt"
    refine ⟨p, pr.2, rfl, hN.hp, p40, hpm, fun u u0 u1 hu => ?_⟩
    have eu : u = sol p pr.2 1 := sol_eq hN.hp hpm u0 u1 (by obtain ⟨k, hk⟩ := hu; exact ⟨k, by rw [Int.mul_comm, hk]; omega⟩)
    subst eu
    walk_at "dt"
    refine ⟨_, _, _, _, ?_, rfl⟩
    rw [hts, vcPart_in hnew, <- hr, addRow_dat]
    rfl
   ·rw [if_neg (by simp [c])]
    walk_at "dt"
    refine ⟨rows, f2, _, _, ?_, rfl⟩
    rw [hts, vcPart_out (by rw [<- hkeys]; exact c)]
    exact hr
  ·rintro ρ ⟨rows, f2, x5, x6, hr, rfl⟩
   rw [List.length_map, List.take_length] at hr
   refine ⟨rows, f2, _, _, _, _, ?_, rfl⟩
   rw [hr]
   apply List.map_congr_left
   intro pl _
   unfold vcPart
   rw [vcTo_succ hprs]
 ·rintro ρ ⟨rows, f2, x3, x4, x5, x6, hr, rfl⟩
  rw [hcm] at hr
  refine Sv.demoteGd 2 rfl ?_
  walk_at "dt"
  have e : (rows.map fun r => (r.1, PyData.list r.2.2)) = pls.map fun pl => (pl, PyData.list ((vcTo p cs pl cs.length).map pairD)) := by
   have := congrArg (List.map fun q : Int × List PyData => (q.1, PyData.list q.2)) hr
   rw [List.map_map, List.map_map] at this
   exact this
  rw [e]
  exact q _
def F_all_voices : DF := fun ds Φ => ∃ (p n : Int) (cs : List Prs), ds = [netD p n cs] /\ VNet p n cs /\ ∀ f, Φ f (.dict ((vcAll p cs n.toNat).map kvD))
theorem mono_all_voices : MonoF F_all_voices := by
 intro ds Φ Ψ hm z
 obtain ⟨p, n, cs, e, h1, q⟩ := hm
 exact ⟨p, n, cs, e, h1, fun f => z _ _ (q f)⟩
theorem scAllVoices : FnScope ["net"] ["net"] (defScope sAllVoices) := ⟨rfl, rfl, rfl, by decide +kernel, rfl, by decide +kernel, by decide +kernel⟩
theorem ok_all_voices (F : Fun K "all_voices" "all_voices" sAllVoices f fd) (c_voices : Callee P w K mg base "voices" 2 ["net", "places"] (spD 2 F_voices)) (m_list : mg "list" = none) (m_range : mg "range" = none)  :
  FnOk P w K mg base CX0 3 f fd ["net"] (spD 1 F_all_voices) := by
 refine F.ok scAllVoices (fun vs H Q E h => h.1) (fun cdv A outer s H vs Q E hr h => ?_)
 obtain ⟨_, nb, ds, hlive, hds, hF⟩ := h
 obtain ⟨Φ, hΦ, hF⟩ : ∃ Φ : Pd, (∀ f d v H', Φ f d -> Same H H' -> IsD (fun a => nb a \/ (f = true /\ H a ≠ none)) H' d v -> Q v H') /\ F_all_voices ds Φ := ⟨_, fun f d v H' q => q v H', hF⟩
 obtain ⟨p, n, cs, rfl, hN, q⟩ := hF
 refine ⟨_, (@pss_one _ _ _ (@ps_ret _ _ _ _ (@pe_callC _ _ _ _ _ _ _ _ _ _ c_voices (hr.mono (by decide)) (@pa_cons _ _ _ _ _ (pv 0) (@pa_cons _ _ _ _ _ (@pe_callTy _ _ _ _ _ _ _ _ _ (call_listR rfl) rfl m_list PyProof.Rows.boot_list (@pa_cons _ _ _ _ _ (@pe_callTy _ _ _ _ _ _ _ _ _ call_rangeM rfl m_range PyProof.Rows.boot_range (@pa_cons _ _ _ _ _ (@pe_ix _ _ _ _ _ _ (rIxT K) ix_tup (pv 0) pe_int (fun _ _ => rfl)) pa_nil rfl) (by decide) (by decide) (by rfl) (by rfl)) pa_nil rfl) (by decide) (by decide) (by rfl) (by rfl)) pa_nil rfl) rfl) (by rfl) (by decide) (by rfl) (by rfl)))), ?_⟩
 refine Sv.enterD hlive hds hΦ (ρ := [.d false _]) rfl ?_
 clear hΦ hds
 have n0 := hN.n0
 have n1 := hN.n1
 walk_at "dt"
 refine Ev.callD mono_voices ?_
 walk_at "dt"
 refine EvN.ev (EvN.listRange ?_)
 walk_at "dt"
 refine ⟨rfl, p, n, cs, (List.range n.toNat).map fun (i : Nat) => (i : Int), ?_, hN, ?_, by rw [List.length_map, List.length_range]; omega, fun f => q _⟩
 ·show [_, PyData.list _] = [_, PyData.list _]
  have : ((List.range n.toNat).map fun (i : Nat) => (0 : Int) + i) = (List.range n.toNat).map fun (i : Nat) => (i : Int) := List.map_congr_left fun i _ => by omega
  rw [this]
 exact List.nodup_range.map _ fun a b h z => h (by omega)
def F_counts_of : DF := fun ds Φ => ∃ (p letter : Int) (vs : List (Int × Int)) (ss : List Int), ds = [.int p, .list (vs.map pairD), .list (ss.map .int), .int letter] /\ 0 < p /\ p < 10 ^ 40 /\ vs.length <= 1000 /\ (∀ q ∈ vs, 0 <= q.1 /\ q.1 < ss.length /\ 0 <= q.2 /\ q.2 < p) /\ (∀ s ∈ ss, 0 <= s /\ s < p) /\
 ∀ ks, CntK (vs.map fun q => (letter - ss.getD q.1.toNat 0 * q.2) % p) ks -> ks.length <= vs.length -> Φ true (.dict (ks.map kvD))
theorem mono_counts_of : MonoF F_counts_of := by
 intro ds Φ Ψ hm z
 obtain ⟨p, l, vs, ss, e, h1, h2, h3, h4, h5, q⟩ := hm
 exact ⟨p, l, vs, ss, e, h1, h2, h3, h4, h5, fun ks a b => z _ _ (q ks a b)⟩
theorem scCountsOf : FnScope ["p", "there", "reached", "letter", "counts", "c", "inverted", "voted_for"] ["p", "there", "reached", "letter"] (defScope sCountsOf) := ⟨rfl, rfl, rfl, by decide +kernel, rfl, by decide +kernel, by decide +kernel⟩
theorem ok_counts_of (F : Fun K "counts_of" "counts_of" sCountsOf f fd)    :
  FnOk P w K mg base CX0 1 f fd ["p", "there", "reached", "letter"] (spD 4 F_counts_of) := by
 refine F.ok scCountsOf (fun vs H Q E h => h.1) (fun cdv A outer s H vs Q E hr h => ?_)
 obtain ⟨_, nb, ds, hlive, hds, hF⟩ := h
 obtain ⟨Φ, hΦ, hF⟩ : ∃ Φ : Pd, (∀ f d v H', Φ f d -> Same H H' -> IsD (fun a => nb a \/ (f = true /\ H a ≠ none)) H' d v -> Q v H') /\ F_counts_of ds Φ := ⟨_, fun f d v H' q => q v H', hF⟩
 obtain ⟨p, letter, vs, ss, rfl, p0, p40, hvl, hvs, hss, q⟩ := hF
 refine ⟨_, (@pss_cons _ _ _ _ _ (@ps_set _ _ (4) _ _ _ _ scCountsOf.nd rfl (Or.inl rfl) pe_dnewK (by rfl) (by first | exact .inl rfl | exact .inr rfl | assumption)) (@pss_cons _ _ _ _ _ (@ps_for _ _ _ _ _ _ _ _ PassesOwn.never rfl (@pi_list _ _ _ _ (pv 1)) (@pg_tupM _ (K) _ _ _ (2) _ rfl rfl (@pgs_cons _ _ _ _ _ (pg_name (i := 5) scCountsOf.nd rfl (Or.inl rfl)) (@pgs_cons _ _ _ _ _ (pg_name (i := 6) scCountsOf.nd rfl (Or.inl rfl)) pgs_nil (by rfl)) (by rfl)) (by rfl) (by rfl)) (@pss_cons _ _ _ _ _ (@ps_set _ _ (7) _ _ _ _ scCountsOf.nd rfl (Or.inl rfl) (@pe_op _ _ _ _ _ _ _ _ op_mod (@pe_op _ _ _ _ _ _ _ _ op_sub (pv 3) (@pe_op _ _ _ _ _ _ _ _ op_mulA (@pe_ix _ _ _ _ _ _ (rIxL K) ix_list (pv 2) (pv 5) (fun _ _ => rfl)) (pv 6))) (pv 0)) (by rfl) (by first | exact .inl rfl | exact .inr rfl | assumption)) (@pss_one _ _ _ (@ps_asg _ _ _ _ _ _ (@pe_op _ _ _ _ _ _ _ _ op_add (pe_bm PySem.F.plainAttrs_dict PySem.F.slot_dict_get PySem.F.type_dict_get mt_get2 (pv 4) (@pa_cons _ _ _ _ _ (pv 7) (@pa_cons _ _ _ _ _ pe_int pa_nil rfl) rfl)) pe_int) (pg_sub (pv 4) (pv 7) set_dict) (by rfl) (by rfl) (by rfl)))) (by intro _; rfl)) (@pss_one _ _ _ (@ps_ret _ _ _ _ (pv 4))))), ?_⟩
 refine Sv.enterD hlive hds hΦ (ρ := [.d false _, .d false _, .d false _, .d false _, .no, .no, .no, .no]) rfl ?_
 clear hΦ hds
 have hvm : (vs.map pairD).length = vs.length := List.length_map ..
 refine Sv.seq ?_
 refine Sv.asgK (EvK.new ?_)
 intro A4
 refine Sv.seq ?_
 refine Sv.forL ?_
 refine Ev.var rfl ?_
 refine ⟨_, rfl, fun v => ⟨fun i ρ => ∃ (ks : Ks) (x5 x6 x7 : Sl), CntK ((vs.take i).map fun q => (letter - ss.getD q.1.toNat 0 * q.2) % p) ks /\ ks.length <= i /\ ρ = [.d false (.int p), .d false (.list (vs.map pairD)), .d false (.list (ss.map .int)), .d false (.int letter), .dic A4 true ks, x5, x6, x7], ⟨[], _, _, _, CntK.nil, Nat.le_refl _, rfl⟩, ?_, ?_⟩⟩
 ·rintro i d ρ hd ⟨ks, x5, x6, x7, hK, hkl, rfl⟩
  obtain ⟨qq, hq, rfl⟩ := map_at hd
  have hil := (List.getElem?_eq_some_iff.mp hq).1
  obtain ⟨a0, a1, a2, a3⟩ := hvs qq (List.mem_of_getElem? hq)
  have hsl : qq.1.toNat < ss.length := by omega
  have hat : atI (ss.map PyData.int) qq.1 = some (.int (ss.getD qq.1.toNat 0)) := atI_some a0 (by rw [List.getElem?_map, List.getElem?_eq_getElem hsl, List.getD_eq_getElem?_getD, List.getElem?_eq_getElem hsl]; rfl)
  obtain ⟨b0, b1⟩ : 0 <= ss.getD qq.1.toNat 0 /\ ss.getD qq.1.toNat 0 < p := by
   rw [List.getD_eq_getElem?_getD, List.getElem?_eq_getElem hsl]
   exact hss _ (List.getElem_mem hsl)
  have s1 : Sm (ss.getD qq.1.toNat 0) := by unfold Sm; omega
  have s2 : Sm qq.2 := by unfold Sm; omega
  generalize htl : (tAsg _ (gSub (tVar 4) _ rPutD) : TS) = tl
  walk_at "dt"
  subst htl
  refine Sv.putDic rfl ?_
  walk_at "dt"
  refine Ev.getDic rfl ?_
  walk_at "dt"
  rw [hK.get]
  walk_at "dt"
  refine ⟨_, _, _, _, ?_, ?_, rfl⟩
  ·rw [take_snoc hq, List.map_append]
   exact hK.put _
  ·have := putI_len ks ((letter - ss.getD qq.1.toNat 0 * qq.2) % p) (.int (((List.map (fun q => (letter - ss.getD q.1.toNat 0 * q.2) % p) (List.take i vs)).count ((letter - ss.getD qq.1.toNat 0 * qq.2) % p) : Int) + 1))
   omega
 ·rintro ρ ⟨ks, x5, x6, x7, hK, hkl, rfl⟩
  rw [hvm] at hK hkl
  rw [List.take_length] at hK
  refine Sv.demoteDic 4 rfl ?_
  walk_at "dt"
  exact q ks hK hkl
def F_votes : DF := fun ds Φ => ∃ (p n : Int) (cs : List Prs) (ws : List Int) (pl : Int), ds = [netD p n cs, rowD ws, .int pl] /\ VNet p n cs /\ cs.length <= 62 /\ ws.length = n.toNat /\ (∀ x ∈ ws, 0 <= x /\ x < p) /\ 0 <= pl /\ pl < n /\
 ∀ rs : List Int, rs.Pairwise (· < ·) -> (∀ k, k ∈ rs ↔ k ∈ votesL p cs ws pl) -> Φ true (.list (rs.map fun r => pairD (r, ((votesL p cs ws pl).count r : Int))))
theorem mono_votes : MonoF F_votes := by
 intro ds Φ Ψ hm z
 obtain ⟨p, n, cs, ws, pl, e, h1, h2, h3, h4, h5, h6, q⟩ := hm
 exact ⟨p, n, cs, ws, pl, e, h1, h2, h3, h4, h5, h6, fun rs a b => z _ _ (q rs a b)⟩
theorem scVotes : FnScope ["net", "word", "place", "there", "counts"] ["net", "word", "place"] (defScope sVotes) := ⟨rfl, rfl, rfl, by decide +kernel, rfl, by decide +kernel, by decide +kernel⟩
theorem ok_votes (F : Fun K "votes" "votes" sVotes f fd) (c_counts_of : Callee P w K mg base "counts_of" 1 ["p", "there", "reached", "letter"] (spD 4 F_counts_of)) (c_voices : Callee P w K mg base "voices" 2 ["net", "places"] (spD 2 F_voices)) (c_sums : Callee P w K mg base "sums" 3 ["net", "word"] (spD 2 F_sums)) (m_sorted : mg "sorted" = none)  :
  FnOk P w K mg base CX0 4 f fd ["net", "word", "place"] (spD 3 F_votes) := by
 refine F.ok scVotes (fun vs H Q E h => h.1) (fun cdv A outer s H vs Q E hr h => ?_)
 obtain ⟨_, nb, ds, hlive, hds, hF⟩ := h
 obtain ⟨Φ, hΦ, hF⟩ : ∃ Φ : Pd, (∀ f d v H', Φ f d -> Same H H' -> IsD (fun a => nb a \/ (f = true /\ H a ≠ none)) H' d v -> Q v H') /\ F_votes ds Φ := ⟨_, fun f d v H' q => q v H', hF⟩
 obtain ⟨p, n, cs, ws, pl, rfl, hN, hc62, hwl, hws, pl0, pl1, q⟩ := hF
 refine ⟨_, (@pss_cons _ _ _ _ _ (@ps_set _ _ (3) _ _ _ _ scVotes.nd rfl (Or.inl rfl) (@pe_ix _ _ _ _ _ _ (rIxD) ix_dict (@pe_callC _ _ _ _ _ _ _ _ _ _ c_voices (hr.mono (by decide)) (@pa_cons _ _ _ _ _ (pv 0) (@pa_cons _ _ _ _ _ (@pe_lst _ _ _ _ (@pa_cons _ _ _ _ _ (pv 2) pa_nil rfl)) pa_nil rfl) rfl) (by rfl) (by decide) (by rfl) (by rfl)) (pv 2) (fun _ _ => rfl)) (by rfl) (by first | exact .inl rfl | exact .inr rfl | assumption)) (@pss_cons _ _ _ _ _ (@ps_set _ _ (4) _ _ _ _ scVotes.nd rfl (Or.inr rfl) (@pe_callC _ _ _ _ _ _ _ _ _ _ c_counts_of (hr.mono (by decide)) (@pa_cons _ _ _ _ _ (@pe_ix _ _ _ _ _ _ (rIxT K) ix_tup (pv 0) pe_int (fun _ _ => rfl)) (@pa_cons _ _ _ _ _ (pv 3) (@pa_cons _ _ _ _ _ (@pe_callC _ _ _ _ _ _ _ _ _ _ c_sums (hr.mono (by decide)) (@pa_cons _ _ _ _ _ (pv 0) (@pa_cons _ _ _ _ _ (pv 1) pa_nil rfl) rfl) (by rfl) (by decide) (by rfl) (by rfl)) (@pa_cons _ _ _ _ _ (@pe_ix _ _ _ _ _ _ (rIxL K) ix_list (pv 1) (pv 2) (fun _ _ => rfl)) pa_nil rfl) rfl) rfl) rfl) (by rfl) (by decide) (by rfl) (by rfl)) (by rfl) (by first | exact .inl rfl | exact .inr rfl | assumption)) (@pss_one _ _ _ (@ps_ret _ _ _ _ (pe_lcomp (CompOk.of (show compOkB (defScope sVotes) ["net", "word", "place", "there", "counts"] _ ["letter", "counts"] [none, some 4] = true by decide +kernel)) (@pi_list _ _ _ _ (@pe_callB _ _ _ _ _ _ _ _ (rSortedD) (call_sortD rfl) rfl m_sorted PyProof.Rows.boot_sorted (@pa_cons _ _ _ _ _ (pv 4) pa_nil rfl) (by decide) (by decide) (by rfl) (by rfl))) (fun _ _ _ _ => ⟨(pg_name (i := 0) (by show List.Nodup (["letter", "counts"] : List Str); decide +kernel) rfl (Or.inl rfl)), pts_nil, (@pe_tup _ _ _ _ _ (@pa_cons _ _ _ _ _ (pv 0) (@pa_cons _ _ _ _ _ (@pe_ix _ _ _ _ _ _ (rIxD) ix_dict (pv 1) (pv 0) (fun _ _ => rfl)) pa_nil rfl) rfl))⟩)))))), ?_⟩
 refine Sv.enterD hlive hds hΦ (ρ := [.d false _, .d false _, .d false _, .no, .no]) rfl ?_
 clear hΦ hds
 have p2 := hN.hp.1
 have p40 := hN.p40
 have n0 := hN.n0
 have n1 := hN.n1
 have hws' : rowD ws = woD (ws.map some) := by show PyData.list _ = PyData.list _; rw [List.map_map]; rfl
 have hws2 : (ws.map some).length = n.toNat := by rw [List.length_map]; exact hwl
 have hPO : ∀ prs ∈ cs, PrsOk prs (ws.map some).length := fun prs hprs pr hpr => by
  obtain ⟨_, _, g⟩ := hN.ok prs hprs
  obtain ⟨a0, a1, a2, a3⟩ := g pr hpr
  exact ⟨a0, by omega, by unfold Sm; omega⟩
 have hWO : WoOk (ws.map some) := fun x hx => by
  obtain ⟨y, hy, e⟩ := List.mem_map.mp hx
  cases e
  obtain ⟨a0, a1⟩ := hws x hy
  unfold Sm; omega
 have hplw : pl.toNat < ws.length := by omega
 have hat : atI (ws.map PyData.int) pl = some (.int (ws.getD pl.toNat 0)) := atI_some pl0 (by rw [List.getElem?_map, List.getElem?_eq_getElem hplw, List.getD_eq_getElem?_getD, List.getElem?_eq_getElem hplw]; rfl)
 have hvl := vcTo_len (p := p) (cs := cs) (pl := pl) cs.length
 walk_at "dt"
 refine Ev.ixDd ?_
 refine Ev.callD mono_voices ?_
 walk_at "dt"
 refine ⟨rfl, p, n, cs, [pl], rfl, hN, by simp, by show 1 <= 1000; omega, fun f0 => ?_⟩
 refine ⟨[(pl, PyData.list ((vcTo p cs pl cs.length).map pairD))], rfl, ?_⟩
 walk_at "dt"
 refine ⟨_, by rw [valI_cons, if_pos rfl], ?_⟩
 walk_at "dt"
 refine Ev.callD mono_counts_of ?_
 walk_at "dt"
 refine Ev.callD mono_sums ?_
 walk_at "dt"
 refine ⟨rfl, p, n, cs, ws.map some, by show [_, _] = _; rw [hws'], by omega, by omega, hPO, hWO, ?_⟩
 rw [sums_whole]
 walk_at "dt"
 refine ⟨rfl, p, ws.getD pl.toNat 0, vcTo p cs pl cs.length, sumsV p cs ws, rfl, by omega, p40, by omega, fun qq hq => ?_, fun s hs => ?_, fun ks hK hkl => ?_⟩
 ·obtain ⟨c, prs, ff, e1, e2, e3, rfl⟩ := vcTo_mem (Nat.le_refl _) hq
  have hr := sol_range (p := p) (b := ff) (a := 1) (by omega)
  refine ⟨by show (0 : Int) <= c; omega, ?_, hr.1, hr.2⟩
  show (c : Int) < _
  unfold sumsV
  rw [List.length_map]
  omega
 ·unfold sumsV at hs
  obtain ⟨prs, _, rfl⟩ := List.mem_map.mp hs
  exact ⟨Int.emod_nonneg _ (by omega), Int.emod_lt_of_pos _ (by omega)⟩
 have eL : (vcTo p cs pl cs.length).map (fun q => (ws.getD pl.toNat 0 - (sumsV p cs ws).getD q.1.toNat 0 * q.2) % p) = votesL p cs ws pl := by
  unfold votesL
  apply List.map_congr_left
  intro qq hq
  obtain ⟨c, prs, ff, e1, e2, e3, rfl⟩ := vcTo_mem (Nat.le_refl _) hq
  dsimp only
  rw [Int.toNat_natCast, sumsV_at c e2]
 rw [eL] at hK
 walk_at "dt"
 refine EvN.ev (EvN.compL (by decide) rfl ?_)
 refine EvN.ev (EvN.sortedDd ?_)
 walk_at "dt"
 refine ⟨ks, rfl, by omega, fun rs hrs hpm => ?_⟩
 obtain ⟨ms, nd, hm, rfl⟩ := id hK
 rw [List.map_map, show ((fun (x : Int × PyData) => x.1) ∘ fun c => (c, PyData.int ((votesL p cs ws pl).count c))) = id from rfl, List.map_id] at hpm
 have hrnd : rs.Nodup := hpm.nodup_iff.mpr nd
 have hrs' : rs.Pairwise (· < ·) := (hrs.and hrnd).imp fun ⟨x, y⟩ => by omega
 have hmem : ∀ k, k ∈ rs ↔ k ∈ votesL p cs ws pl := fun k => by rw [hpm.mem_iff, hm k]
 rw [List.length_map] at hkl
 have hrl : rs.length <= 1000 := by rw [hpm.length_eq]; omega
 walk_at "dt"
 refine ⟨by rw [List.length_map]; omega, fun v => ⟨true, fun i ds => ds = (rs.take i).map fun r => pairD (r, ((votesL p cs ws pl).count r : Int)), rfl, ?_, ?_⟩⟩
 ·rintro i d ds hd hl' rfl
  obtain ⟨r, hr, rfl⟩ := map_at hd
  have hrm : r ∈ ms := hpm.mem_iff.mp (List.mem_of_getElem? hr)
  walk_at "dt"
  refine ⟨by walk_at "wk", ?_⟩
  walk_at "dt"
  refine Ev.ixDd ?_
  walk_at "dt"
  refine ⟨_, rfl, ?_⟩
  walk_at "dt"
  refine ⟨_, by rw [valI_mapK, if_pos hrm], ?_⟩
  walk_at "dt"
  refine ⟨fun _ => rfl, ?_⟩
  show _ = List.map _ (List.take (i + 1) rs)
  rw [take_snoc hr, List.map_append]
  rfl
 ·rintro ds hl' rfl
  rw [List.length_map, List.take_length]
  exact q rs hrs' hmem
def F_turns_of : DF := fun ds Φ => ∃ (p n : Int) (cs : List Prs) (ws : List Int), ds = [.int p, .dict ((vcAll p cs n.toNat).map kvD), .list ((sumsV p cs ws).map .int), rowD ws] /\ VNet p n cs /\ ws.length = n.toNat /\ (∀ x ∈ ws, 0 <= x /\ x < p) /\ Φ true (.list ((trnTo p cs ws n.toNat).map trD))
theorem mono_turns_of : MonoF F_turns_of := by
 intro ds Φ Ψ hm z
 obtain ⟨p, n, cs, ws, e, h1, h2, h3, q⟩ := hm
 exact ⟨p, n, cs, ws, e, h1, h2, h3, z _ _ q⟩
theorem scTurnsOf : FnScope ["p", "found", "reached", "word", "turns", "place", "old", "counts", "new"] ["p", "found", "reached", "word"] (defScope sTurnsOf) := ⟨rfl, rfl, rfl, by decide +kernel, rfl, by decide +kernel, by decide +kernel⟩
theorem ok_turns_of (F : Fun K "turns_of" "turns_of" sTurnsOf f fd) (c_counts_of : Callee P w K mg base "counts_of" 1 ["p", "there", "reached", "letter"] (spD 4 F_counts_of)) (m_enumerate : mg "enumerate" = none) (m_len : mg "len" = none)  :
  FnOk P w K mg base CX0 2 f fd ["p", "found", "reached", "word"] (spD 4 F_turns_of) := by
 refine F.ok scTurnsOf (fun vs H Q E h => h.1) (fun cdv A outer s H vs Q E hr h => ?_)
 obtain ⟨_, nb, ds, hlive, hds, hF⟩ := h
 obtain ⟨Φ, hΦ, hF⟩ : ∃ Φ : Pd, (∀ f d v H', Φ f d -> Same H H' -> IsD (fun a => nb a \/ (f = true /\ H a ≠ none)) H' d v -> Q v H') /\ F_turns_of ds Φ := ⟨_, fun f d v H' q => q v H', hF⟩
 obtain ⟨p, n, cs, ws, rfl, hN, hwl, hws, q⟩ := hF
 refine ⟨_, (@pss_cons _ _ _ _ _ (@ps_set _ _ (4) _ _ _ _ scTurnsOf.nd rfl (Or.inl rfl) (@pe_lst _ _ _ _ pa_nil) (by rfl) (by first | exact .inl rfl | exact .inr rfl | assumption)) (@pss_cons _ _ _ _ _ (@ps_for _ _ _ _ _ _ _ _ PassesOwn.never rfl (@pi_enum _ (K) _ _ _ _ _ _ _ rfl rfl m_enumerate (pv 3) (by rfl)) (@pg_tupM _ (K) _ _ _ (2) _ rfl rfl (@pgs_cons _ _ _ _ _ (pg_name (i := 5) scTurnsOf.nd rfl (Or.inl rfl)) (@pgs_cons _ _ _ _ _ (pg_name (i := 6) scTurnsOf.nd rfl (Or.inl rfl)) pgs_nil (by rfl)) (by rfl)) (by rfl) (by rfl)) (@pss_cons _ _ _ _ _ (@ps_set _ _ (7) _ _ _ _ scTurnsOf.nd rfl (Or.inl rfl) (@pe_callC _ _ _ _ _ _ _ _ _ _ c_counts_of (hr.mono (by decide)) (@pa_cons _ _ _ _ _ (pv 0) (@pa_cons _ _ _ _ _ (@pe_ix _ _ _ _ _ _ (rIxD) ix_dict (pv 1) (pv 5) (fun _ _ => rfl)) (@pa_cons _ _ _ _ _ (pv 2) (@pa_cons _ _ _ _ _ (pv 6) pa_nil rfl) rfl) rfl) rfl) (by rfl) (by decide) (by rfl) (by rfl)) (by rfl) (by first | exact .inl rfl | exact .inr rfl | assumption)) (@pss_one _ _ _ (@ps_thaw _ _ _ (@ps_for _ _ _ _ _ _ _ _ PassesOwn.never rfl (@pi_keys _ _ _ _ (pv 7)) (pg_name (i := 8) scTurnsOf.nd rfl (Or.inl rfl)) (@pss_one _ _ _ (@ps_if _ _ _ _ _ _ _ _ (PW.pt (pw_and (@pt_cmpR _ _ _ _ _ _ _ _ op_ne (pv 8) (pv 6) (nomark _)) (pw_and1 (@pt_cmpR _ _ _ _ _ _ _ _ op_gt (@pe_op _ _ _ _ _ _ _ _ op_mulA pe_int (@pe_ix _ _ _ _ _ _ (rIxD) ix_dict (pv 7) (pv 8) (fun _ _ => rfl))) (@pe_callB _ _ _ _ _ _ _ _ (rLen K) call_lenM rfl m_len PySem.boot_len (@pa_cons _ _ _ _ _ (@pe_ix _ _ _ _ _ _ (rIxD) ix_dict (pv 1) (pv 5) (fun _ _ => rfl)) pa_nil rfl) (by decide) (by decide) (by rfl) (by rfl)) (nomark _))))) (@pss_one _ _ _ (@ps_expr _ _ _ _ (pe_bm PySem.F.plainAttrs_list PySem.F.slot_list_append PySem.F.type_list_append mt_append (pv 4) (@pa_cons _ _ _ _ _ (@pe_tup _ _ _ _ _ (@pa_cons _ _ _ _ _ (pv 5) (@pa_cons _ _ _ _ _ (pv 6) (@pa_cons _ _ _ _ _ (pv 8) pa_nil rfl) rfl) rfl)) pa_nil rfl)) (by rfl))) pss_nil)) (by intro _; rfl))))) (by intro _; rfl)) (@pss_one _ _ _ (@ps_ret _ _ _ _ (pv 4))))), ?_⟩
 refine Sv.enterD hlive hds hΦ (ρ := [.d false _, .d false _, .d false _, .d false _, .no, .no, .no, .no, .no]) rfl ?_
 clear hΦ hds
 have p2 := hN.hp.1
 have p40 := hN.p40
 have n0 := hN.n0
 have n1 := hN.n1
 have hcl := hN.cl
 have hwm : (ws.map PyData.int).length = ws.length := List.length_map ..
 have hsl : (sumsV p cs ws).length = cs.length := by unfold sumsV; exact List.length_map ..
 have hsr : ∀ s ∈ sumsV p cs ws, 0 <= s /\ s < p := fun s hs => by
  unfold sumsV at hs
  obtain ⟨prs, _, rfl⟩ := List.mem_map.mp hs
  exact ⟨Int.emod_nonneg _ (by omega), Int.emod_lt_of_pos _ (by omega)⟩
 walk_at "dt"
 intro A4
 refine Sv.seq ?_
 refine Sv.forE ?_
 walk_at "dt"
 refine fun v => ⟨fun i ρ => ∃ (x5 x6 x7 x8 : Sl), ρ = [.d false (.int p), .d false (.dict ((vcAll p cs n.toNat).map kvD)), .d false (.list ((sumsV p cs ws).map .int)), .d false (rowD ws), .own A4 true ((trnTo p cs ws i).map trD), x5, x6, x7, x8], ⟨_, _, _, _, rfl⟩, ?_, ?_⟩
 ·rintro i d ρ ⟨e, he, rfl⟩ ⟨x5, x6, x7, x8, rfl⟩
  obtain ⟨old, hold, rfl⟩ := map_at he
  have hil := (List.getElem?_eq_some_iff.mp hold).1
  have hin : i < n.toNat := by omega
  have hval := vcAll_val (p := p) (cs := cs) hin
  have hog : ws.getD i 0 = old := by rw [List.getD_eq_getElem?_getD, hold]; rfl
  have hvl := vcTo_len (p := p) (cs := cs) (pl := (i : Int)) cs.length
  have htl := trnTo_len (p := p) (cs := cs) (ws := ws) i
  have eL : (vcTo p cs (i : Int) cs.length).map (fun q => (old - (sumsV p cs ws).getD q.1.toNat 0 * q.2) % p) = votesL p cs ws (i : Int) := by
   unfold votesL
   apply List.map_congr_left
   intro qq hq
   obtain ⟨c, prs, ff, e1, e2, e3, rfl⟩ := vcTo_mem (Nat.le_refl _) hq
   dsimp only
   rw [Int.toNat_natCast, Int.toNat_natCast, sumsV_at c e2, hog]
  have hVl : (vcTo p cs (i : Int) cs.length).length = (votesL p cs ws (i : Int)).length := by unfold votesL; rw [List.length_map]
  walk_at "dt"
  refine Ev.callD mono_counts_of ?_
  walk_at "dt"
  refine Ev.ixDd ?_
  walk_at "dt"
  refine ⟨_, rfl, ?_⟩
  walk_at "dt"
  refine ⟨_, hval, ?_⟩
  walk_at "dt"
  refine ⟨rfl, p, old, vcTo p cs (i : Int) cs.length, sumsV p cs ws, rfl, by omega, p40, by omega, fun qq hq => ?_, hsr, fun ks hK hkl => ?_⟩
  ·obtain ⟨c, prs, ff, e1, e2, e3, rfl⟩ := vcTo_mem (Nat.le_refl _) hq
   have hr := sol_range (p := p) (b := ff) (a := 1) (by omega)
   exact ⟨by show (0 : Int) <= c; omega, by show (c : Int) < _; omega, hr.1, hr.2⟩
  rw [eL] at hK
  obtain ⟨ms, nd, hm, rfl⟩ := id hK
  rw [List.length_map] at hkl
  obtain ⟨VL, hVL⟩ : ∃ VL, votesL p cs ws (i : Int) = VL := ⟨_, rfl⟩
  rw [hVL] at hm hVl hK
  have hVrg : ∀ x ∈ VL, 0 <= x /\ x < p := by rw [<- hVL]; exact votesL_rg (by omega)
  simp only [hVL]
  refine Gv.name ?_
  refine Sv.forK ?_
  walk_at "dt"
  refine ⟨_, rfl, fun G' v => ?_⟩
  have hmsm : (ms.map fun c => (c, PyData.int (VL.count c))).length = ms.length := List.length_map ..
  refine ⟨fun j ρ => ∃ (x8 : Sl), ρ = [.d false (.int p), .d false (.dict ((vcAll p cs n.toNat).map kvD)), .d false (.list ((sumsV p cs ws).map .int)), .d false (rowD ws), .own A4 true ((trnTo p cs ws i ++ ((ms.take j).filter (goodV VL old)).map fun x => ((i : Int), old, x)).map trD), .d true (.int i), .d true (.int old), .d true (.dict ((ms.map fun c => (c, PyData.int (VL.count c))).map kvD)), x8], ?_, ?_, ?_⟩
  ·refine ⟨x8, ?_⟩
   rw [List.take_zero, List.filter_nil, List.map_nil, List.append_nil]
   rfl
  ·rintro j d ρ ⟨kv, hkv, rfl⟩ ⟨x8, rfl⟩
   rw [List.getElem?_map] at hkv
   obtain ⟨x, hx, rfl⟩ := Option.map_eq_some_iff.mp hkv
   have hxm := List.mem_of_getElem? hx
   have hjl := (List.getElem?_eq_some_iff.mp hx).1
   have hcx : VL.count x <= VL.length := List.count_le_length
   have s1 : Sm (VL.count x : Int) := by unfold Sm; omega
   have s2 : Sm 2 := by unfold Sm; omega
   have hlenT : (trnTo p cs ws i ++ ((ms.take j).filter (goodV VL old)).map fun x => ((i : Int), old, x)).length < 9999 := by
    rw [List.length_append, List.length_map]
    have := List.length_filter_le (goodV VL old) (ms.take j)
    rw [List.length_take] at this
    omega
   have hts := take_snoc hx
   refine Gv.nameI ?_
   walk_at "dt"
   by_cases c1 : x = old
   ·rw [if_neg (by simp [c1])]
    walk_at "dt"
    refine ⟨.d true (.int x), ?_⟩
    rw [hts, List.filter_append, show [x].filter (goodV VL old) = [] by simp [goodV, c1], List.append_nil]
    rfl
   ·rw [if_pos (by simp [c1])]
    walk_at "dt"
    refine Ev.ixDd ?_
    walk_at "dt"
    refine ⟨_, rfl, ?_⟩
    walk_at "dt"
    refine ⟨_, by rw [valI_mapK, if_pos hxm], ?_⟩
    walk_at "dt"
    refine Ev.ixDd ?_
    walk_at "dt"
    refine ⟨_, rfl, ?_⟩
    walk_at "dt"
    refine ⟨_, hval, ?_⟩
    walk_at "dt"
    have hlm : ((vcTo p cs (i : Int) cs.length).map pairD).length = VL.length := by rw [List.length_map, hVl]
    rw [hlm]
    by_cases c2 : VL.length < 2 * VL.count x
    ·rw [if_pos (by simp; omega)]
     walk_at "dt"
     refine ⟨by rw [List.length_map]; omega, ?_⟩
     refine ⟨.d true (.int x), ?_⟩
     have heq : (trnTo p cs ws i ++ ((ms.take (j + 1)).filter (goodV VL old)).map fun x => ((i : Int), old, x)).map trD = (trnTo p cs ws i ++ ((ms.take j).filter (goodV VL old)).map fun x => ((i : Int), old, x)).map trD ++ [trD ((i : Int), old, x)] := by
      rw [hts, List.filter_append, show [x].filter (goodV VL old) = [x] by simp [goodV, c1, c2]]
      simp
     rw [heq]
     rfl
    ·rw [if_neg (by simp; omega)]
     walk_at "dt"
     refine ⟨.d true (.int x), ?_⟩
     rw [hts, List.filter_append, show [x].filter (goodV VL old) = [] by simp [goodV, c2], List.append_nil]
     rfl
  ·rintro ρ ⟨x8, rfl⟩
   rw [hmsm, List.take_length, mj_filter nd hm]
   have hs : trnTo p cs ws (i + 1) = trnTo p cs ws i ++ (mjL VL old).map fun x => ((i : Int), old, x) := by
    rw [trnTo_succ]
    unfold trnAt
    rw [hVL, hog]
   rw [<- hs]
   exact ⟨_, _, _, _, rfl⟩
 ·rintro ρ ⟨x5, x6, x7, x8, rfl⟩
  rw [hwm, hwl]
  walk_at "dt"
  exact q
def F_with_turns : DF := fun ds Φ => ∃ (ws : List Int) (ts : List (Int × Int × Int)), ds = [rowD ws, .list (ts.map trD)] /\ ws.length <= 9000 /\ (∀ t ∈ ts, 0 <= t.1 /\ t.1 < ws.length) /\ Φ true (rowD (putT ws ts))
theorem mono_with_turns : MonoF F_with_turns := by
 intro ds Φ Ψ hm z
 obtain ⟨ws, ts, e, h1, h2, q⟩ := hm
 exact ⟨ws, ts, e, h1, h2, z _ _ q⟩
theorem scWithTurns : FnScope ["word", "turns", "told", "place", "old", "new"] ["word", "turns"] (defScope sWithTurns) := ⟨rfl, rfl, rfl, by decide +kernel, rfl, by decide +kernel, by decide +kernel⟩
theorem ok_with_turns (F : Fun K "with_turns" "with_turns" sWithTurns f fd)  (m_list : mg "list" = none)  :
  FnOk P w K mg base CX0 1 f fd ["word", "turns"] (spD 2 F_with_turns) := by
 refine F.ok scWithTurns (fun vs H Q E h => h.1) (fun cdv A outer s H vs Q E hr h => ?_)
 obtain ⟨_, nb, ds, hlive, hds, hF⟩ := h
 obtain ⟨Φ, hΦ, hF⟩ : ∃ Φ : Pd, (∀ f d v H', Φ f d -> Same H H' -> IsD (fun a => nb a \/ (f = true /\ H a ≠ none)) H' d v -> Q v H') /\ F_with_turns ds Φ := ⟨_, fun f d v H' q => q v H', hF⟩
 obtain ⟨ws, ts, rfl, hwl, hts, q⟩ := hF
 refine ⟨_, (@pss_cons _ _ _ _ _ (@ps_set _ _ (2) _ _ _ _ scWithTurns.nd rfl (Or.inl rfl) (@pe_callTy _ _ _ _ _ _ _ _ (rListOf K) call_listM rfl m_list PyProof.Rows.boot_list (@pa_cons _ _ _ _ _ (pv 0) pa_nil rfl) (by decide) (by decide) (by rfl) (by rfl)) (by rfl) (by first | exact .inl rfl | exact .inr rfl | assumption)) (@pss_cons _ _ _ _ _ (@ps_for _ _ _ _ _ _ _ _ PassesOwn.never rfl (@pi_list _ _ _ _ (pv 1)) (@pg_tupM _ (K) _ _ _ (3) _ rfl rfl (@pgs_cons _ _ _ _ _ (pg_name (i := 3) scWithTurns.nd rfl (Or.inl rfl)) (@pgs_cons _ _ _ _ _ (pg_name (i := 4) scWithTurns.nd rfl (Or.inl rfl)) (@pgs_cons _ _ _ _ _ (pg_name (i := 5) scWithTurns.nd rfl (Or.inl rfl)) pgs_nil (by rfl)) (by rfl)) (by rfl)) (by rfl) (by rfl)) (@pss_one _ _ _ (@ps_asg _ _ _ _ _ _ (pv 5) (pg_sub (pv 2) (pv 3) set_list) (by rfl) (by rfl) (by rfl))) (by intro _; rfl)) (@pss_one _ _ _ (@ps_ret _ _ _ _ (pv 2))))), ?_⟩
 refine Sv.enterD hlive hds hΦ (ρ := [.d false _, .d false _, .no, .no, .no, .no]) rfl ?_
 clear hΦ hds
 refine Sv.seq ?_
 refine Sv.asgN (EvN.listOf ?_)
 walk_at "dt"
 intro A2
 rw [scAll_ints, Bool.or_true]
 refine Sv.seq ?_
 refine Sv.forL ?_
 walk_at "dt"
 refine fun v => ⟨fun i ρ => ∃ (x3 x4 x5 : Sl), ρ = [.d false (rowD ws), .d false (.list (ts.map trD)), .own A2 true ((putT ws (ts.take i)).map .int), x3, x4, x5], ⟨_, _, _, rfl⟩, ?_, ?_⟩
 ·rintro i d ρ hd ⟨x3, x4, x5, rfl⟩
  obtain ⟨t, ht, rfl⟩ := map_at hd
  obtain ⟨t0, t1⟩ := hts t (List.mem_of_getElem? ht)
  have hl := putT_len ws (ts.take i)
  have hix : ixN ((putT ws (ts.take i)).map PyData.int).length t.1 = some t.1.toNat := by
   unfold ixN
   rw [List.length_map]
   repeat (first | rw [if_pos (by omega)] | rw [if_neg (by omega)])
  walk_at "dt"
  refine ⟨_, _, rfl, hix, ?_⟩
  rw [<- List.map_set, <- putT_snoc, <- take_snoc ht]
  exact ⟨_, _, _, rfl⟩
 ·rintro ρ ⟨x3, x4, x5, rfl⟩
  rw [List.length_map, List.take_length]
  walk_at "dt"
  exact q
def F_turned : DF := fun ds Φ => ∃ (p n : Int) (cs : List Prs) (ws : List Int), ds = [netD p n cs, rowD ws] /\ VNet p n cs /\ ws.length = n.toNat /\ (∀ x ∈ ws, 0 <= x /\ x < p) /\ Φ true (.tuple [rowD (putT ws (trnTo p cs ws n.toNat)), .list ((trnTo p cs ws n.toNat).map trD)])
theorem mono_turned : MonoF F_turned := by
 intro ds Φ Ψ hm z
 obtain ⟨p, n, cs, ws, e, h1, h2, h3, q⟩ := hm
 exact ⟨p, n, cs, ws, e, h1, h2, h3, z _ _ q⟩
theorem scTurned : FnScope ["net", "word", "turns"] ["net", "word"] (defScope sTurned) := ⟨rfl, rfl, rfl, by decide +kernel, rfl, by decide +kernel, by decide +kernel⟩
theorem ok_turned (F : Fun K "turned" "turned" sTurned f fd) (c_turns_of : Callee P w K mg base "turns_of" 2 ["p", "found", "reached", "word"] (spD 4 F_turns_of)) (c_all_voices : Callee P w K mg base "all_voices" 3 ["net"] (spD 1 F_all_voices)) (c_sums : Callee P w K mg base "sums" 3 ["net", "word"] (spD 2 F_sums)) (c_with_turns : Callee P w K mg base "with_turns" 1 ["word", "turns"] (spD 2 F_with_turns))   :
  FnOk P w K mg base CX0 4 f fd ["net", "word"] (spD 2 F_turned) := by
 refine F.ok scTurned (fun vs H Q E h => h.1) (fun cdv A outer s H vs Q E hr h => ?_)
 obtain ⟨_, nb, ds, hlive, hds, hF⟩ := h
 obtain ⟨Φ, hΦ, hF⟩ : ∃ Φ : Pd, (∀ f d v H', Φ f d -> Same H H' -> IsD (fun a => nb a \/ (f = true /\ H a ≠ none)) H' d v -> Q v H') /\ F_turned ds Φ := ⟨_, fun f d v H' q => q v H', hF⟩
 obtain ⟨p, n, cs, ws, rfl, hN, hwl, hws, q⟩ := hF
 refine ⟨_, (@pss_cons _ _ _ _ _ (@ps_set _ _ (2) _ _ _ _ scTurned.nd rfl (Or.inl rfl) (@pe_callC _ _ _ _ _ _ _ _ _ _ c_turns_of (hr.mono (by decide)) (@pa_cons _ _ _ _ _ (@pe_ix _ _ _ _ _ _ (rIxT K) ix_tup (pv 0) pe_int (fun _ _ => rfl)) (@pa_cons _ _ _ _ _ (@pe_callC _ _ _ _ _ _ _ _ _ _ c_all_voices (hr.mono (by decide)) (@pa_cons _ _ _ _ _ (pv 0) pa_nil rfl) (by rfl) (by decide) (by rfl) (by rfl)) (@pa_cons _ _ _ _ _ (@pe_callC _ _ _ _ _ _ _ _ _ _ c_sums (hr.mono (by decide)) (@pa_cons _ _ _ _ _ (pv 0) (@pa_cons _ _ _ _ _ (pv 1) pa_nil rfl) rfl) (by rfl) (by decide) (by rfl) (by rfl)) (@pa_cons _ _ _ _ _ (pv 1) pa_nil rfl) rfl) rfl) rfl) (by rfl) (by decide) (by rfl) (by rfl)) (by rfl) (by first | exact .inl rfl | exact .inr rfl | assumption)) (@pss_one _ _ _ (@ps_ret _ _ _ _ (@pe_tup _ _ _ _ _ (@pa_cons _ _ _ _ _ (@pe_callC _ _ _ _ _ _ _ _ _ _ c_with_turns (hr.mono (by decide)) (@pa_cons _ _ _ _ _ (pv 1) (@pa_cons _ _ _ _ _ (pv 2) pa_nil rfl) rfl) (by rfl) (by decide) (by rfl) (by rfl)) (@pa_cons _ _ _ _ _ (pv 2) pa_nil rfl) rfl))))), ?_⟩
 refine Sv.enterD hlive hds hΦ (ρ := [.d false _, .d false _, .no]) rfl ?_
 clear hΦ hds
 have p2 := hN.hp.1
 have p40 := hN.p40
 have n0 := hN.n0
 have n1 := hN.n1
 have hcl := hN.cl
 have ewo : rowD ws = woD (ws.map some) := by show PyData.list _ = PyData.list _; rw [List.map_map]; rfl
 have hPO : ∀ prs ∈ cs, PrsOk prs (ws.map some).length := fun prs hprs pr hpr => by
  obtain ⟨_, _, g⟩ := hN.ok prs hprs
  obtain ⟨a0, a1, a2, a3⟩ := g pr hpr
  exact ⟨a0, by rw [List.length_map]; omega, by unfold Sm; omega⟩
 have hWO : WoOk (ws.map some) := fun x hx => by
  obtain ⟨y, hy, e⟩ := List.mem_map.mp hx
  cases e
  obtain ⟨a0, a1⟩ := hws x hy
  unfold Sm; omega
 walk_at "dt"
 refine Ev.callD mono_turns_of ?_
 walk_at "dt"
 refine Ev.callD mono_all_voices ?_
 walk_at "dt"
 refine ⟨rfl, p, n, cs, rfl, hN, fun f0 => ?_⟩
 walk_at "dt"
 refine Ev.callD mono_sums ?_
 walk_at "dt"
 refine ⟨rfl, p, n, cs, ws.map some, by show [_, _] = _; rw [ewo], by omega, by omega, hPO, hWO, ?_⟩
 rw [sums_whole]
 walk_at "dt"
 refine ⟨rfl, p, n, cs, ws, rfl, hN, hwl, hws, ?_⟩
 refine Gv.name ?_
 walk_at "dt"
 refine Ev.callD mono_with_turns ?_
 walk_at "dt"
 refine ⟨rfl, ws, _, rfl, by omega, fun t ht => ?_, ?_⟩
 ·obtain ⟨i, hi, e1, _⟩ := trnTo_mem ht
  omega
 walk_at "dt"
 exact q
def F_broken_of : DF := fun ds Φ => ∃ (ss : List Int), ds = [.list (ss.map .int)] /\ ss.length <= 9000 /\ Φ true (.int (ss.countP fun s => decide (s ≠ 0) : Nat))
theorem mono_broken_of : MonoF F_broken_of := by
 intro ds Φ Ψ hm z
 obtain ⟨ss, e, h1, q⟩ := hm
 exact ⟨ss, e, h1, z _ _ q⟩
theorem scBrokenOf : FnScope ["reached"] ["reached"] (defScope sBrokenOf) := ⟨rfl, rfl, rfl, by decide +kernel, rfl, by decide +kernel, by decide +kernel⟩
theorem ok_broken_of (F : Fun K "broken_of" "broken_of" sBrokenOf f fd)  (m_len : mg "len" = none)  :
  FnOk P w K mg base CX0 1 f fd ["reached"] (spD 1 F_broken_of) := by
 refine F.ok scBrokenOf (fun vs H Q E h => h.1) (fun cdv A outer s H vs Q E hr h => ?_)
 obtain ⟨_, nb, ds, hlive, hds, hF⟩ := h
 obtain ⟨Φ, hΦ, hF⟩ : ∃ Φ : Pd, (∀ f d v H', Φ f d -> Same H H' -> IsD (fun a => nb a \/ (f = true /\ H a ≠ none)) H' d v -> Q v H') /\ F_broken_of ds Φ := ⟨_, fun f d v H' q => q v H', hF⟩
 obtain ⟨ss, rfl, hl, q⟩ := hF
 refine ⟨_, (@pss_one _ _ _ (@ps_ret _ _ _ _ (@pe_callB _ _ _ _ _ _ _ _ (rLen K) call_lenM rfl m_len PySem.boot_len (@pa_cons _ _ _ _ _ (pe_lcomp (CompOk.of (show compOkB (defScope sBrokenOf) ["reached"] _ ["number"] [none] = true by decide +kernel)) (@pi_list _ _ _ _ (pv 0)) (fun _ _ _ _ => ⟨(pg_name (i := 0) (by show List.Nodup (["number"] : List Str); decide +kernel) rfl (Or.inl rfl)), (pts_one (@pt_cmpR _ _ _ _ _ _ _ _ op_ne (pv 0) pe_int (nomark _))), (pv 0)⟩)) pa_nil rfl) (by decide) (by decide) (by rfl) (by rfl)))), ?_⟩
 refine Sv.enterD hlive hds hΦ (ρ := [.d false _]) rfl ?_
 clear hΦ hds
 walk_at "dt"
 refine EvN.ev (EvN.compL (by decide) rfl ?_)
 walk_at "dt"
 refine ⟨by rw [List.length_map]; omega, fun v => ⟨false, fun i ds => ds.length = (ss.take i).countP fun s => decide (s ≠ 0), rfl, ?_, ?_⟩⟩
 ·rintro i d ds hd hl' hds
  obtain ⟨s, hs, rfl⟩ := map_at hd
  have hts := take_snoc hs
  walk_at "dt"
  refine ⟨by walk_at "wk", ?_⟩
  walk_at "dt"
  by_cases c : s = 0
  ·rw [if_neg (by simp [c])]
   show ds.length = (ss.take (i + 1)).countP _
   rw [hds, hts, List.countP_append, List.countP_singleton, if_neg (by simp [c])]
   rfl
  ·rw [if_pos (by simp [c])]
   walk_at "dt"
   show (ds ++ [_]).length = (ss.take (i + 1)).countP _
   rw [List.length_append, List.length_singleton, hds, hts, List.countP_append, List.countP_singleton, if_pos (by simp [c])]
 ·rintro ds hl' hds
  rw [List.length_map, List.take_length] at hds
  refine ⟨ds, .inl rfl, ?_⟩
  rw [hds]
  walk_at "dt"
  exact q
def F_voted : DF := fun ds Φ => ∃ (p n : Int) (cs : List Prs) (ws : List Int) (m : Nat), ds = [netD p n cs, rowD ws, .int m] /\ VNet p n cs /\ m <= 5000 /\ ws.length = n.toNat /\ (∀ x ∈ ws, 0 <= x /\ x < p) /\ Φ true (runD (vrun p cs n.toNat m ws))
theorem mono_voted : MonoF F_voted := by
 intro ds Φ Ψ hm z
 obtain ⟨p, n, cs, ws, m, e, h1, h2, h3, h4, q⟩ := hm
 exact ⟨p, n, cs, ws, m, e, h1, h2, h3, h4, z _ _ q⟩
theorem scVoted : FnScope ["net", "word", "most", "found", "told", "rounds", "reached", "turns"] ["net", "word", "most"] (defScope sVoted) := ⟨rfl, rfl, rfl, by decide +kernel, rfl, by decide +kernel, by decide +kernel⟩
theorem ok_voted (F : Fun K "voted" "voted" sVoted f fd) (c_all_voices : Callee P w K mg base "all_voices" 3 ["net"] (spD 1 F_all_voices)) (c_sums : Callee P w K mg base "sums" 3 ["net", "word"] (spD 2 F_sums)) (c_turns_of : Callee P w K mg base "turns_of" 2 ["p", "found", "reached", "word"] (spD 4 F_turns_of)) (c_with_turns : Callee P w K mg base "with_turns" 1 ["word", "turns"] (spD 2 F_with_turns)) (c_broken_of : Callee P w K mg base "broken_of" 1 ["reached"] (spD 1 F_broken_of)) (m_list : mg "list" = none) (m_len : mg "len" = none)  :
  FnOk P w K mg base CX0 4 f fd ["net", "word", "most"] (spD 3 F_voted) := by
 refine F.ok scVoted (fun vs H Q E h => h.1) (fun cdv A outer s H vs Q E hr h => ?_)
 obtain ⟨_, nb, ds, hlive, hds, hF⟩ := h
 obtain ⟨Φ, hΦ, hF⟩ : ∃ Φ : Pd, (∀ f d v H', Φ f d -> Same H H' -> IsD (fun a => nb a \/ (f = true /\ H a ≠ none)) H' d v -> Q v H') /\ F_voted ds Φ := ⟨_, fun f d v H' q => q v H', hF⟩
 obtain ⟨p, n, cs, ws, m, rfl, hN, hm, hwl, hws, q⟩ := hF
 refine ⟨_, (@pss_cons _ _ _ _ _ (@ps_set _ _ (3) _ _ _ _ scVoted.nd rfl (Or.inl rfl) (@pe_callC _ _ _ _ _ _ _ _ _ _ c_all_voices (hr.mono (by decide)) (@pa_cons _ _ _ _ _ (pv 0) pa_nil rfl) (by rfl) (by decide) (by rfl) (by rfl)) (by rfl) (by first | exact .inl rfl | exact .inr rfl | assumption)) (@pss_cons _ _ _ _ _ (@ps_set _ _ (4) _ _ _ _ scVoted.nd rfl (Or.inl rfl) (@pe_callTy _ _ _ _ _ _ _ _ (rListOf K) call_listM rfl m_list PyProof.Rows.boot_list (@pa_cons _ _ _ _ _ (pv 1) pa_nil rfl) (by decide) (by decide) (by rfl) (by rfl)) (by rfl) (by first | exact .inl rfl | exact .inr rfl | assumption)) (@pss_cons _ _ _ _ _ (@ps_set _ _ (5) _ _ _ _ scVoted.nd rfl (Or.inl rfl) (@pe_lst _ _ _ _ pa_nil) (by rfl) (by first | exact .inl rfl | exact .inr rfl | assumption)) (@pss_one _ _ _ (@ps_while _ _ _ _ _ _ PassesOwn.never (@pt_truthK _ (K) _ _ rfl pe_bl (fun _ => rfl)) (@pss_cons _ _ _ _ _ (@ps_set _ _ (6) _ _ _ _ scVoted.nd rfl (Or.inl rfl) (@pe_callC _ _ _ _ _ _ _ _ _ _ c_sums (hr.mono (by decide)) (@pa_cons _ _ _ _ _ (pv 0) (@pa_cons _ _ _ _ _ (pv 4) pa_nil rfl) rfl) (by rfl) (by decide) (by rfl) (by rfl)) (by rfl) (by first | exact .inl rfl | exact .inr rfl | assumption)) (@pss_cons _ _ _ _ _ (@ps_if _ _ _ _ _ _ _ _ (@pt_cmpR _ _ _ _ _ _ _ _ op_eq (@pe_callC _ _ _ _ _ _ _ _ _ _ c_broken_of (hr.mono (by decide)) (@pa_cons _ _ _ _ _ (pv 6) pa_nil rfl) (by rfl) (by decide) (by rfl) (by rfl)) pe_int (nomark _)) (@pss_one _ _ _ (@ps_ret _ _ _ _ (@pe_tup _ _ _ _ _ (@pa_cons _ _ _ _ _ (pv 4) (@pa_cons _ _ _ _ _ (pv 5) (@pa_cons _ _ _ _ _ (@pe_tup _ _ _ _ _ (@pa_cons _ _ _ _ _ pe_str pa_nil rfl)) pa_nil rfl) rfl) rfl)))) pss_nil) (@pss_cons _ _ _ _ _ (@ps_if _ _ _ _ _ _ _ _ (@pt_cmpR _ _ _ _ _ _ _ _ op_ge (@pe_callB _ _ _ _ _ _ _ _ (rLen K) call_lenM rfl m_len PySem.boot_len (@pa_cons _ _ _ _ _ (pv 5) pa_nil rfl) (by decide) (by decide) (by rfl) (by rfl)) (pv 2) (nomark _)) (@pss_one _ _ _ (@ps_ret _ _ _ _ (@pe_tup _ _ _ _ _ (@pa_cons _ _ _ _ _ (pv 4) (@pa_cons _ _ _ _ _ (pv 5) (@pa_cons _ _ _ _ _ (@pe_tup _ _ _ _ _ (@pa_cons _ _ _ _ _ pe_str pa_nil rfl)) pa_nil rfl) rfl) rfl)))) pss_nil) (@pss_cons _ _ _ _ _ (@ps_set _ _ (7) _ _ _ _ scVoted.nd rfl (Or.inl rfl) (@pe_callC _ _ _ _ _ _ _ _ _ _ c_turns_of (hr.mono (by decide)) (@pa_cons _ _ _ _ _ (@pe_ix _ _ _ _ _ _ (rIxT K) ix_tup (pv 0) pe_int (fun _ _ => rfl)) (@pa_cons _ _ _ _ _ (pv 3) (@pa_cons _ _ _ _ _ (pv 6) (@pa_cons _ _ _ _ _ (pv 4) pa_nil rfl) rfl) rfl) rfl) (by rfl) (by decide) (by rfl) (by rfl)) (by rfl) (by first | exact .inl rfl | exact .inr rfl | assumption)) (@pss_cons _ _ _ _ _ (@ps_if _ _ _ _ _ _ _ _ (@pt_cmpR _ _ _ _ _ _ _ _ (op_eqD hr.units) (pv 7) (@pe_lst _ _ _ _ pa_nil) (nomark _)) (@pss_one _ _ _ (@ps_ret _ _ _ _ (@pe_tup _ _ _ _ _ (@pa_cons _ _ _ _ _ (pv 4) (@pa_cons _ _ _ _ _ (pv 5) (@pa_cons _ _ _ _ _ (@pe_tup _ _ _ _ _ (@pa_cons _ _ _ _ _ pe_str pa_nil rfl)) pa_nil rfl) rfl) rfl)))) pss_nil) (@pss_cons _ _ _ _ _ (@ps_set _ _ (4) _ _ _ _ scVoted.nd rfl (Or.inl rfl) (@pe_callC _ _ _ _ _ _ _ _ _ _ c_with_turns (hr.mono (by decide)) (@pa_cons _ _ _ _ _ (pv 4) (@pa_cons _ _ _ _ _ (pv 7) pa_nil rfl) rfl) (by rfl) (by decide) (by rfl) (by rfl)) (by rfl) (by first | exact .inl rfl | exact .inr rfl | assumption)) (@pss_one _ _ _ (@ps_expr _ _ _ _ (pe_bm PySem.F.plainAttrs_list PySem.F.slot_list_append PySem.F.type_list_append mt_append (pv 5) (@pa_cons _ _ _ _ _ (pv 7) pa_nil rfl)) (by rfl)))))))))))))), ?_⟩
 refine Sv.enterD hlive hds hΦ (ρ := [.d false _, .d false _, .d false _, .no, .no, .no, .no, .no]) rfl ?_
 clear hΦ hds
 have p2 := hN.hp.1
 have p40 := hN.p40
 have n0 := hN.n0
 have n1 := hN.n1
 have hcl := hN.cl
 walk_at "dt"
 refine Ev.callD mono_all_voices ?_
 walk_at "dt"
 refine ⟨rfl, p, n, cs, rfl, hN, fun f0 => ?_⟩
 refine Gv.nameF ?_
 refine Sv.seq ?_
 refine Sv.asg ?_
 generalize hg4 : (gName 4 : TG) = g4
 walk_at "dt"
 subst hg4
 rw [scAll_ints, Bool.or_true]
 refine Gv.name ?_
 walk_at "dt"
 intro A5
 obtain ⟨wf, hwf⟩ : ∃ wf, (vrun p cs n.toNat m ws).1 = wf := ⟨_, rfl⟩
 obtain ⟨rf, hrf⟩ : ∃ rf, (vrun p cs n.toNat m ws).2.1 = rf := ⟨_, rfl⟩
 obtain ⟨ef, hef⟩ : ∃ ef, (vrun p cs n.toNat m ws).2.2 = ef := ⟨_, rfl⟩
 have q : Φ true (runD (wf, rf, ef)) := by rw [<- hwf, <- hrf, <- hef]; exact q
 refine Sv.while_ (fun ρ => ∃ (w : List Int) (st : List (List Trn)) (k : Nat) (x6 x7 : Sl), w.length = n.toNat /\ (∀ x ∈ w, 0 <= x /\ x < p) /\ (vrun p cs n.toNat k w).1 = wf /\ st ++ (vrun p cs n.toNat k w).2.1 = rf /\ (vrun p cs n.toNat k w).2.2 = ef /\ st.length + k = m /\ ρ = [.d false (netD p n cs), .d false (rowD ws), .d false (.int m), .d false (.dict ((vcAll p cs n.toNat).map kvD)), .d true (rowD w), .own A5 true (st.map rndD), x6, x7]) (fun (ρ : Rh) => match ρ[5]? with | some (Sl.own _ _ ds) => m - ds.length | _ => 0) ⟨ws, [], m, _, _, hwl, hws, hwf, hrf, hef, by simp, rfl⟩ ?_
 rintro ρ' ⟨w, st, k, x6, x7, hl, hr, h1, h2, h3, h4, rfl⟩
 have ewo : rowD w = woD (w.map some) := by show PyData.list _ = PyData.list _; rw [List.map_map]; rfl
 have hPO : ∀ prs ∈ cs, PrsOk prs (w.map some).length := fun prs hprs pr hpr => by
  obtain ⟨_, _, g⟩ := hN.ok prs hprs
  obtain ⟨a0, a1, a2, a3⟩ := g pr hpr
  exact ⟨a0, by rw [List.length_map]; omega, by unfold Sm; omega⟩
 have hWO : WoOk (w.map some) := fun x hx => by
  obtain ⟨y, hy, e⟩ := List.mem_map.mp hx
  cases e
  obtain ⟨a0, a1⟩ := hr x hy
  unfold Sm; omega
 walk_at "dt"
 refine Ev.callD mono_sums ?_
 walk_at "dt"
 refine ⟨rfl, p, n, cs, w.map some, by show [_, _] = _; rw [ewo], by omega, by omega, hPO, hWO, ?_⟩
 rw [sums_whole]
 walk_at "dt"
 refine Ev.callD mono_broken_of ?_
 walk_at "dt"
 refine ⟨rfl, _, rfl, by unfold sumsV; rw [List.length_map]; omega, ?_⟩
 rw [sumsV_brk]
 walk_at "dt"
 by_cases c1 : brk p cs w = 0
 ·rw [if_pos (by simpa using c1)]
  rw [vrun_held c1] at h1 h2 h3
  rw [List.append_nil] at h2
  dsimp only at h1 h3
  subst h1 h2 h3
  refine Sv.demote 5 rfl ?_
  walk_at "dt"
  exact q
 rw [if_neg (by simpa using c1)]
 walk_at "dt"
 rw [List.length_map]
 by_cases c2 : k = 0
 ·subst c2
  rw [if_pos (by simp; omega)]
  rw [vrun_far c1] at h1 h2 h3
  rw [List.append_nil] at h2
  dsimp only at h1 h3
  subst h1 h2 h3
  refine Sv.demote 5 rfl ?_
  walk_at "dt"
  exact q
 rw [if_neg (by simp; omega)]
 obtain ⟨k, rfl⟩ : ∃ k', k = k' + 1 := ⟨k - 1, by omega⟩
 walk_at "dt"
 refine Ev.callD mono_turns_of ?_
 walk_at "dt"
 refine ⟨rfl, p, n, cs, w, rfl, hN, hl, hr, ?_⟩
 refine Gv.name ?_
 obtain ⟨ts, hts⟩ : ∃ ts, trnTo p cs w n.toNat = ts := ⟨_, rfl⟩
 rw [hts]
 walk_at "dt"
 refine ⟨shaped_trn ts, shaped_nilL, _, rfl, ?_⟩
 rw [List.map_nil, eqv_trn]
 by_cases c3 : ts = []
 ·have c4 := hts
  rw [c3] at c4
  rw [vrun_stuck c1 c4] at h1 h2 h3
  rw [List.append_nil] at h2
  dsimp only at h1 h3
  subst h1 h2 h3
  subst c3
  rw [if_pos (by simp)]
  refine Sv.demote 5 rfl ?_
  walk_at "dt"
  exact q
 rw [if_neg (by simpa using c3)]
 rw [vrun_on c1 (by rw [hts]; exact c3), hts] at h1 h2 h3
 dsimp only at h1 h2 h3
 have hrd := round_in (cs := cs) (by omega) hl hr
 rw [hts] at hrd
 refine Sv.next ?_
 refine Sv.seq ?_
 refine Sv.asg ?_
 generalize hg4 : (gName 4 : TG) = g4
 refine Ev.callD mono_with_turns ?_
 walk_at "dt"
 refine ⟨rfl, w, ts, rfl, by omega, fun t ht => ?_, ?_⟩
 ·rw [<- hts] at ht
  obtain ⟨i, hi, e1, _⟩ := trnTo_mem ht
  omega
 subst hg4
 refine Gv.name ?_
 walk_at "dt"
 refine ⟨by rw [List.length_map]; omega, ?_⟩
 refine ⟨⟨putT w ts, st ++ [ts], k, .d false (.list ((sumsV p cs w).map .int)), .d true (.list (ts.map trD)), hrd.1, hrd.2, h1, by rw [List.append_assoc]; exact h2, h3, by rw [List.length_append, List.length_singleton]; omega, by rw [List.map_append]; rfl⟩, ?_⟩
 show m - (List.map rndD st ++ [_]).length < m - (List.map rndD st).length
 rw [List.length_append, List.length_singleton, List.length_map]
 omega
theorem scLawBag : FnScope ["script", "stir", "cell"] ["script"] (defScope sLawBag) := ⟨rfl, rfl, rfl, by decide +kernel, rfl, by decide +kernel, by decide +kernel⟩
theorem ok__law_bag (F : Fun K "_law_bag" "_law_bag" sLawBag f fd)  (m_abs : mg "abs" = none)  :
  FnOk P w K mg base CX0 1 f fd ["script"] (spBag K) := by
 refine F.ok scLawBag (fun vs H Q E h => ?_) (fun cdv A outer s H vs Q E hr h => ?_)
 ·obtain ⟨a, ns, rfl, hS, hl, q⟩ := h
  rfl
 obtain ⟨a, ns, rfl, hS, hl, q⟩ := h
 refine ⟨_, (@pss_cons _ _ _ _ _ (@ps_set _ _ (1) _ _ _ _ scLawBag.nd rfl (Or.inl rfl) pe_int (by rfl) (by first | exact .inl rfl | exact .inr rfl | assumption)) (@pss_cons _ _ _ _ _ (@ps_for _ _ _ _ _ _ _ _ PassesOwn.never rfl (@pi_list _ _ _ _ (@pe_slice _ _ _ _ _ _ _ _ _ _ sl_list (pv 0) po_none (@po_some _ _ _ pe_int))) (pg_name (i := 2) scLawBag.nd rfl (Or.inl rfl)) (@pss_one _ _ _ (@ps_set _ _ (1) _ _ _ _ scLawBag.nd rfl (Or.inl rfl) (@pe_op _ _ _ _ _ _ _ _ op_mod (@pe_op _ _ _ _ _ _ _ _ op_add (@pe_op _ _ _ _ _ _ _ _ op_add (@pe_op _ _ _ _ _ _ _ _ op_mulA (pv 1) pe_int) (@pe_op _ _ _ _ _ _ _ _ op_mod (pv 2) pe_int)) pe_int) pe_int) (by rfl) (by first | exact .inl rfl | exact .inr rfl | assumption))) (by intro _; rfl)) (@pss_one _ _ _ (@ps_ret _ _ _ _ (@pe_lst _ _ _ _ (@pa_cons _ _ _ _ _ (pe_lcomp (CompOk.of (show compOkB (defScope sLawBag) ["script", "stir", "cell"] _ ["cell"] [none] = true by decide +kernel)) (@pi_list _ _ _ _ (@pe_slice _ _ _ _ _ _ _ _ _ _ sl_list (pv 0) po_none (@po_some _ _ _ pe_int))) (fun _ _ _ _ => ⟨(pg_name (i := 0) (by show List.Nodup (["cell"] : List Str); decide +kernel) rfl (Or.inl rfl)), pts_nil, (@pe_op _ _ _ _ _ _ _ _ op_mod (@pe_callB _ _ _ _ _ _ _ _ _ call_abs rfl m_abs PyProof.Rows.boot_abs (@pa_cons _ _ _ _ _ (pv 0) pa_nil rfl) (by decide) (by decide) (by rfl) (by rfl)) (@pe_op _ _ _ _ _ _ _ _ op_pow pe_int pe_int))⟩)) (@pa_cons _ _ _ _ _ pe_int (@pa_cons _ _ _ _ _ pe_int (@pa_cons _ _ _ _ _ (pv 1) (@pa_cons _ _ _ _ _ pe_int pa_nil rfl) rfl) rfl) rfl) rfl)))))), ?_⟩
 have hcut : cutV (ns.map V.int) none (some 63) = ns.map V.int := by
  have e : (ns.map V.int).length = ns.length := List.length_map _
  show List.take (min 63 (ns.map V.int).length - 0) (List.drop 0 (ns.map V.int)) = _
  rw [List.drop_zero]
  exact List.take_of_length_le (by omega)
 walk_at "st"
 refine R.slL hS fun c hc => ?_
 rw [hcut]
 refine R.iL1 (SqL.of upd_same) ?_
 refine for_list (xs := ns.map V.int) (fun i σ H1 => ∃ (st : Int) (x : Option V), σ = [some (.ref a), some (.int st), x] /\ 0 <= st /\ st < 2147483647 /\ H1 = upd H c (.lst (ns.map V.int))) ⟨19, none, rfl, by omega, by omega, rfl⟩ ?_ ?_ ?_
 ·rintro i σ H1 hi ⟨st, x, rfl, h1, h2, rfl⟩
  exact SqL.of upd_same
 ·rintro i x σ H1 hx ⟨st, y, rfl, h1, h2, rfl⟩
  rw [List.getElem?_map] at hx
  obtain ⟨n, _, rfl⟩ := Option.map_eq_some_iff.mp hx
  walk_at "st"
  exact ⟨_, _, rfl, Int.emod_nonneg _ (by decide), Int.emod_lt_of_pos _ (by decide), rfl⟩
 ·rintro σ H1 ⟨st, x, rfl, h1, h2, rfl⟩
  walk_at "st"
  refine R.slL ((same_new hc).seq hS) fun c2 hc2 => ?_
  rw [hcut]
  refine R.iL1 (SqL.of upd_same) ?_
  intro acc hacc
  refine R.comp_list (xs := ns.map V.int) (fun i σ H2 => ∃ (x : Option V), σ = [x] /\ H2 = upd (upd (upd H c (.lst (ns.map V.int))) c2 (.lst (ns.map V.int))) acc (.lst (((ns.take i).map fun n => (if n < 0 then -n else n) % 10 ^ 60).map V.int))) ⟨none, rfl, rfl⟩ ?_ ?_ ?_
  ·rintro i σ H1 hi ⟨x, rfl, rfl⟩
   refine SqL.of ?_
   rw [upd_ne (ne_of_none upd_same hacc)]
   exact upd_same
  ·rintro i x σ H1 hx ⟨y, rfl, rfl⟩
   rw [List.getElem?_map] at hx
   obtain ⟨n, hn, rfl⟩ := Option.map_eq_some_iff.mp hx
   walk_at "st"
   refine ⟨_, upd_same, ?_, _, rfl, ?_⟩
   ·rw [List.length_map, List.length_map, List.length_take]
    exact small1000 (by omega)
   ·rw [upd_upd, List.take_add_one, hn, List.map_append, List.map_append]
    rfl
  ·rintro σ H1 ⟨x, rfl, rfl⟩
   walk_at "st"
   refine (show mkL _ _ _ from ⟨by show 5 <= sizeLine; decide, fun p hp => ?_⟩)
   have hn1 := ne_of_none (upd_same (H := upd (upd H c (.lst (ns.map V.int))) c2 (.lst (ns.map V.int))) (a := acc)) hp
   have s1 : Same H (upd (upd (upd H c (.lst (ns.map V.int))) c2 (.lst (ns.map V.int))) acc (.lst (((ns.take (ns.map V.int).length).map fun n => (if n < 0 then -n else n) % 10 ^ 60).map V.int))) := (same_new hc).trans ((same_new hc2).trans (same_new hacc))
   refine q p acc _ (s1.trans (same_new hp)) (s1.free hp) ⟨_, 0, 0, st, 0, upd_same, by rw [upd_ne hn1]; exact upd_same, ?_, ?_, by omega, by omega, by omega, h1, h2⟩
   ·intro y hy
    obtain ⟨z, _, rfl⟩ := List.mem_map.mp hy
    exact ⟨Int.emod_nonneg _ (by decide), Int.emod_lt_of_pos _ (by decide)⟩
   ·rw [List.length_map, List.length_take]
    omega
theorem scLawStirred : FnScope ["bag", "many", "found", "k"] ["bag", "many"] (defScope sLawStirred) := ⟨rfl, rfl, rfl, by decide +kernel, rfl, by decide +kernel, by decide +kernel⟩
theorem ok__law_stirred (F : Fun K "_law_stirred" "_law_stirred" sLawStirred f fd)  (m_range : mg "range" = none)  :
  FnOk P w K mg base CX0 1 f fd ["bag", "many"] spDraw := by
 refine F.ok scLawStirred (fun vs H Q E h => ?_) (fun cdv A outer s H vs Q E hr h => ?_)
 ·obtain ⟨b, l, many, rfl, hB, hm, hs, q⟩ := h
  rfl
 obtain ⟨b, l, many, rfl, hB, hm, hs, q⟩ := h
 refine ⟨_, (@pss_cons _ _ _ _ _ (@ps_set _ _ (2) _ _ _ _ scLawStirred.nd rfl (Or.inl rfl) pe_int (by rfl) (by first | exact .inl rfl | exact .inr rfl | assumption)) (@pss_cons _ _ _ _ _ (@ps_for _ _ _ _ _ _ _ _ PassesOwn.never rfl (@pi_range1 _ _ _ _ _ _ rfl m_range (@pa_cons _ _ _ _ _ (@pe_op _ _ _ _ _ _ _ _ op_add pe_int (@pe_op _ _ _ _ _ _ _ _ op_fdivS (pe_bm0 PySem.F.plainAttrs_int PySem.F.slot_int_bit_length PySem.F.type_int_bit_length mt_bits (pv 1)) pe_int)) pa_nil rfl) (by rfl)) (pg_name (i := 3) scLawStirred.nd rfl (Or.inl rfl)) (@pss_cons _ _ _ _ _ (@ps_asg _ _ _ _ _ _ (@pe_op _ _ _ _ _ _ _ _ op_add (@pe_ix _ _ _ _ _ _ _ ix_list (pv 0) pe_int (fun _ _ => rfl)) pe_int) (pg_sub (pv 0) pe_int set_list) (by rfl) (by rfl) (by rfl)) (@pss_cons _ _ _ _ _ (@ps_asg _ _ _ _ _ _ (@pe_op _ _ _ _ _ _ _ _ op_mod (@pe_op _ _ _ _ _ _ _ _ op_add (@pe_op _ _ _ _ _ _ _ _ op_add (@pe_op _ _ _ _ _ _ _ _ op_add (@pe_op _ _ _ _ _ _ _ _ op_pow (@pe_ix _ _ _ _ _ _ _ ix_list (pv 0) pe_int (fun _ _ => rfl)) pe_int) (@pe_op _ _ _ _ _ _ _ _ op_mulA pe_int (@pe_ix _ _ _ _ _ _ _ ix_list (pv 0) pe_int (fun _ _ => rfl)))) (@pe_op _ _ _ _ _ _ _ _ op_mulA pe_int (@pe_ix _ _ _ _ _ _ _ ix_list (pv 0) pe_int (fun _ _ => rfl)))) pe_int) pe_int) (pg_sub (pv 0) pe_int set_list) (by rfl) (by rfl) (by rfl)) (@pss_one _ _ _ (@ps_set _ _ (2) _ _ _ _ scLawStirred.nd rfl (Or.inl rfl) (@pe_op _ _ _ _ _ _ _ _ op_add (@pe_op _ _ _ _ _ _ _ _ op_mulA (pv 2) pe_int) (@pe_op _ _ _ _ _ _ _ _ op_fdivS (@pe_ix _ _ _ _ _ _ _ ix_list (pv 0) pe_int (fun _ _ => rfl)) pe_int)) (by rfl) (by first | exact .inl rfl | exact .inr rfl | assumption))))) (by intro _; rfl)) (@pss_one _ _ _ (@ps_ret _ _ _ _ (@pe_op _ _ _ _ _ _ _ _ op_mod (pv 2) (pv 1)))))), ?_⟩
 have hbits := sm_bits hs
 walk_at "st"
 refine for_range (fun i σ H1 => ∃ (fv : Int) (x : Option V), σ = [some (.ref b), some (.int many), some (.int fv), x] /\ But (Nb b) H H1 /\ BagAt H1 b l) ⟨0, none, rfl, But.refl _ _, hB⟩ ?_ ?_
 ·rintro i σ H1 hi ⟨fv, x, rfl, bt, ns, j, c, st, n, h1, h2, h3, h4, h5, h6, h7, h8, h9⟩
  have hlb := bag_ne h1 h2
  walk_at "st"
  refine ⟨_, _, rfl, bt.trans (But.set rfl), ?_⟩
  exact BagAt.put hlb h2 h3 h4 h5 h6 h7 (Int.emod_nonneg _ (by decide)) (Int.emod_lt_of_pos _ (by decide))
 ·rintro σ H1 ⟨fv, x, rfl, bt, B⟩
  walk_at "st"
  exact q _ _ (Int.emod_nonneg _ (by omega)) (Int.emod_lt_of_pos _ hm) bt B
theorem scLawDraw : FnScope ["bag", "many", "found"] ["bag", "many"] (defScope sLawDraw) := ⟨rfl, rfl, rfl, by decide +kernel, rfl, by decide +kernel, by decide +kernel⟩
theorem ok__law_draw (F : Fun K "_law_draw" "_law_draw" sLawDraw f fd) (c__law_stirred : Callee P w K mg base "_law_stirred" 1 ["bag", "many"] spDraw) (m_len : mg "len" = none)  :
  FnOk P w K mg base CX0 2 f fd ["bag", "many"] spDraw := by
 refine F.ok scLawDraw (fun vs H Q E h => ?_) (fun cdv A outer s H vs Q E hr h => ?_)
 ·obtain ⟨b, l, many, rfl, hB, hm, hs, q⟩ := h
  rfl
 obtain ⟨b, l, many, rfl, hB, hm, hs, q⟩ := h
 refine ⟨_, (@pss_cons _ _ _ _ _ (@ps_if _ _ _ _ _ _ _ _ (PW.pt (pw_and (@pt_cmpR _ _ _ _ _ _ _ _ op_eq (@pe_ix _ _ _ _ _ _ _ ix_list (pv 0) pe_int (fun _ _ => rfl)) pe_int (nomark _)) (pw_and1 (@pt_cmpR _ _ _ _ _ _ _ _ op_lt (@pe_ix _ _ _ _ _ _ _ ix_list (pv 0) pe_int (fun _ _ => rfl)) (@pe_callB _ _ _ _ _ _ _ _ _ call_len_seq rfl m_len PySem.boot_len (@pa_cons _ _ _ _ _ (@pe_ix _ _ _ _ _ _ _ ix_list (pv 0) pe_int (fun _ _ => rfl)) pa_nil rfl) (by decide) (by decide) (by rfl) (by rfl)) (nomark _))))) (@pss_cons _ _ _ _ _ (@ps_asg _ _ _ _ _ _ (@pe_ix _ _ _ _ _ _ _ ix_list (@pe_ix _ _ _ _ _ _ _ ix_list (pv 0) pe_int (fun _ _ => rfl)) (@pe_ix _ _ _ _ _ _ _ ix_list (pv 0) pe_int (fun _ _ => rfl)) (fun _ _ => rfl)) (pg_sub (pv 0) pe_int set_list) (by rfl) (by rfl) (by rfl)) (@pss_one _ _ _ (@ps_asg _ _ _ _ _ _ (@pe_op _ _ _ _ _ _ _ _ op_add (@pe_ix _ _ _ _ _ _ _ ix_list (pv 0) pe_int (fun _ _ => rfl)) pe_int) (pg_sub (pv 0) pe_int set_list) (by rfl) (by rfl) (by rfl)))) (@pss_one _ _ _ (@ps_if _ _ _ _ _ _ _ _ (@pt_cmpR _ _ _ _ _ _ _ _ op_eq (@pe_ix _ _ _ _ _ _ _ ix_list (pv 0) pe_int (fun _ _ => rfl)) pe_int (nomark _)) (@pss_one _ _ _ (@ps_ret _ _ _ _ (@pe_callC _ _ _ _ _ _ _ _ _ _ c__law_stirred (hr.mono (by decide)) (@pa_cons _ _ _ _ _ (pv 0) (@pa_cons _ _ _ _ _ (pv 1) pa_nil rfl) rfl) (by rfl) (by decide) (by rfl) (by rfl)))) pss_nil))) (@pss_cons _ _ _ _ _ (@ps_set _ _ (2) _ _ _ _ scLawDraw.nd rfl (Or.inl rfl) (@pe_op _ _ _ _ _ _ _ _ op_mod (@pe_ix _ _ _ _ _ _ _ ix_list (pv 0) pe_int (fun _ _ => rfl)) (pv 1)) (by rfl) (by first | exact .inl rfl | exact .inr rfl | assumption)) (@pss_cons _ _ _ _ _ (@ps_asg _ _ _ _ _ _ (@pe_op _ _ _ _ _ _ _ _ op_fdivS (@pe_ix _ _ _ _ _ _ _ ix_list (pv 0) pe_int (fun _ _ => rfl)) (pv 1)) (pg_sub (pv 0) pe_int set_list) (by rfl) (by rfl) (by rfl)) (@pss_one _ _ _ (@ps_ret _ _ _ _ (pv 2)))))), ?_⟩
 obtain ⟨ns, i, c, st, n, h1, h2, h3, h4, h5, h6, h7, h8, h9⟩ := id hB
 have hlb := bag_ne h1 h2
 have fin : ∀ (H1 : Hp) (i' c' : Int), H1 b = some (.lst [.ref l, .int i', .int c', .int st, .int n]) -> But (Nb b) H H1 -> 0 <= i' -> 0 <= c' -> c' < 10 ^ 60 ->
   ∀ (H2 : Hp), H2 = upd H1 b (.lst [.ref l, .int i', .int (c' / many), .int st, .int n]) -> Q (.int (c' % many)) H2 := fun H1 i' c' e1 bt g1 g2 g3 H2 e2 => by
  subst e2
  have hd1 : 0 <= c' / many := Int.ediv_nonneg g2 (by omega)
  have hd2 : c' / many <= c' := Int.ediv_le_self _ g2
  exact q _ _ (Int.emod_nonneg _ (by omega)) (Int.emod_lt_of_pos _ hm) (bt.trans (But.set rfl)) (BagAt.put hlb (bt _ _ hlb h2) h3 h4 g1 hd1 (by omega) h8 h9)
 walk_at "st"
 refine ite2 (fun c1 => ?_) (fun c1 => ?_)
 ·have c1 : c = 0 := of_decide_eq_true c1
  walk_at "st"
  refine ite2 (fun c2 => ?_) (fun c2 => ?_)
  ·have c2 : i < (List.map V.int ns).length := of_decide_eq_true c2
   rw [List.length_map] at c2
   have hi : i.toNat < ns.length := by omega
   obtain ⟨g1, g2⟩ := h3 _ (List.getElem_mem hi)
   walk_at "st"
   refine R.ixM h2 (v := .int ns[i.toNat]) (atI_some h5 (by rw [List.getElem?_map, List.getElem?_eq_getElem hi]; rfl)) ?_
   walk_at "st"
   refine fin (upd H b (.lst [.ref l, .int (i + 1), .int ns[i.toNat], .int st, .int n])) (i + 1) ns[i.toNat] upd_same (But.set rfl) (by omega) g1 g2 _ ?_
   rw [upd_upd]
   rfl
  ·walk_at "st"
   exact ⟨b, l, many, rfl, hB, hm, hs, q⟩
 ·have c1 : ¬ c = 0 := of_decide_eq_false (Bool.eq_false_iff.mpr c1)
  walk_at "st"
  exact fin H i c h1 (But.refl _ _) h5 h6 h7 _ rfl
theorem eqv_nilP (is : List Int) : PyData.eqv (.list (is.map PyData.int)) (.list []) = decide (is = []) := by
 cases is <;> simp [PyData.eqv, PyData.eqvAll]
theorem shaped_intsP (is : List Int) : SeqAt.shaped (.list (is.map PyData.int)) = true := by
 have h : PyData.depthAll (is.map PyData.int) = 0 /\ PyData.canLayAll0 (is.map PyData.int) = true := by
  induction is with
  | nil => simp [PyData.depthAll, PyData.canLayAll0]
  | cons a r ih => simp [PyData.depthAll, PyData.depth, PyData.canLayAll0, PyData.canLay0, ih.2, ih.1]
 unfold SeqAt.shaped
 simp [PyData.canLay0, PyData.depth, h.2, h.1]
theorem isDs_intsP {nb : Addr -> Prop} {H : Hp} : ∀ is : List Int, IsDs nb H (is.map PyData.int) (is.map V.int)
 | [] => IsDs.nil
 | i :: is => IsDs.cons (.int i) (isDs_intsP is)
theorem noDiv_of {r : Int} (h0 : r <= 10100) (h : ∀ d : Int, 2 <= d -> d < 102 -> ¬ (d * d <= r /\ r % d = 0)) : NoDiv r := fun d d1 d2 e => by
 by_cases hd : d < 102
 ·exact h d d1 hd ⟨d2, e⟩
 ·have : 102 * 102 <= d * d := Int.mul_le_mul (by omega) (by omega) (by omega) (by omega)
  omega
theorem scLawPrimeFrom : FnScope ["number", "found"] ["number"] (defScope sLawPrimeFrom) := ⟨rfl, rfl, rfl, by decide +kernel, rfl, by decide +kernel, by decide +kernel⟩
theorem ok__law_prime_from (F : Fun K "_law_prime_from" "_law_prime_from" sLawPrimeFrom f fd)  (m_range : mg "range" = none)  :
  FnOk P w K mg base CX0 1 f fd ["number"] spPrimeFrom := by
 refine F.ok scLawPrimeFrom (fun vs H Q E h => ?_) (fun cdv A outer s H vs Q E hr h => ?_)
 ·obtain ⟨n, rfl, hn1, hn2, q⟩ := h
  rfl
 obtain ⟨n, rfl, hn1, hn2, q⟩ := h
 refine ⟨_, (@pss_cons _ _ _ _ _ (@ps_for _ _ _ _ _ _ _ _ PassesOwn.never rfl (@pi_range2 _ _ _ _ _ _ _ rfl m_range (@pa_cons _ _ _ _ _ (pv 0) (@pa_cons _ _ _ _ _ (@pe_op _ _ _ _ _ _ _ _ op_add (pv 0) pe_int) pa_nil rfl) rfl) (by rfl) (by rfl)) (pg_name (i := 1) scLawPrimeFrom.nd rfl (Or.inr rfl)) (@pss_one _ _ _ (@ps_if _ _ _ _ _ _ _ _ (@pt_cmpR _ _ _ _ _ _ _ _ (op_eqD hr.units) (pe_lcomp (CompOk.of (show compOkB (defScope sLawPrimeFrom) ["number", "found"] _ ["k", "found"] [none, some 1] = true by decide +kernel)) (@pi_range2 _ _ _ _ _ _ _ rfl m_range (@pa_cons _ _ _ _ _ pe_int (@pa_cons _ _ _ _ _ pe_int pa_nil rfl) rfl) (by rfl) (by rfl)) (fun _ _ _ _ => ⟨(pg_name (i := 0) (by show List.Nodup (["k", "found"] : List Str); decide +kernel) rfl (Or.inl rfl)), (pts_one (PW.pt (pw_and (@pt_cmpR _ _ _ _ _ _ _ _ op_le (@pe_op _ _ _ _ _ _ _ _ op_mulA (pv 0) (pv 0)) (pv 1) (nomark _)) (pw_and1 (@pt_cmpR _ _ _ _ _ _ _ _ op_eq (@pe_op _ _ _ _ _ _ _ _ op_mod (pv 1) (pv 0)) pe_int (nomark _)))))), (pv 0)⟩)) (@pe_lst _ _ _ _ pa_nil) (nomark _)) (@pss_one _ _ _ (@ps_ret _ _ _ _ (pv 1))) pss_nil)) (by intro _; rfl)) (@pss_one _ _ _ (@ps_ret _ _ _ _ pe_int))), ?_⟩
 walk_at "st"
 refine for_range (fun i σ H1 => Same H H1 /\ ∃ (x : Option V), σ = [some (.int n), x]) ⟨Same.refl _, none, rfl⟩ ?_ ?_
 ·rintro i σ H1 hi ⟨s1, x, rfl⟩
  have hi2 : (i : Int) < 60 := by omega
  walk_at "st"
  intro acc hacc
  refine R.comp_range (fun j σ H2 => Same H1 H2 /\ (∃ x : Option V, σ = [x, some (.int (n + i))]) /\ ∃ is : List Int, H2 acc = some (.lst (is.map V.int)) /\ is.length <= j /\ (is = [] -> ∀ d : Int, 2 <= d -> d < 2 + j -> ¬ (d * d <= n + i /\ (n + i) % d = 0))) ?_ ?_ ?_
  ·exact ⟨same_new hacc, ⟨none, rfl⟩, [], upd_same, Nat.zero_le _, fun _ d d1 d2 => by omega⟩
  ·rintro j σ H2 hj ⟨s2, ⟨x, rfl⟩, is, e2, l2, h2⟩
   have hj2 : (j : Int) < 100 := by omega
   have next : ∀ d : Int, d < 2 + ((j + 1 : Nat) : Int) -> d < 2 + j \/ d = 2 + j := fun d h => by omega
   walk_at "st"
   refine ite2 (fun c1 => ?_) (fun c1 => ?_)
   ·have c1 : (2 + (j : Int)) * (2 + j) <= n + i := of_decide_eq_true c1
    walk_at "st"
    refine ite2 (fun c2 => ?_) (fun c2 => ?_)
    ·have c2 : (n + i) % (2 + (j : Int)) = 0 := of_decide_eq_true c2
     walk_at "st"
     refine ⟨_, e2, ?_, ?_, ⟨_, rfl⟩, is ++ [2 + (j : Int)], ?_, ?_, fun e => ?_⟩
     ·rw [List.length_map]; exact small1000 (by omega)
     ·exact fun a o h => by rw [upd_ne (ne_of_none h hacc)]; exact s2 _ _ h
     ·rw [upd_same, List.map_append]; rfl
     ·rw [List.length_append, List.length_singleton]; omega
     ·simp at e
    ·have c2 : ¬ (n + i) % (2 + (j : Int)) = 0 := of_decide_eq_false (Bool.eq_false_iff.mpr c2)
     refine ⟨s2, ⟨_, rfl⟩, is, e2, by omega, fun e d d1 d2 => ?_⟩
     rcases next d d2 with h | h
     ·exact h2 e d d1 h
     ·rw [h]; exact fun z => c2 z.2
   ·have c1 : ¬ (2 + (j : Int)) * (2 + j) <= n + i := of_decide_eq_false (Bool.eq_false_iff.mpr c1)
    walk_at "st"
    refine ⟨s2, ⟨_, rfl⟩, is, e2, by omega, fun e d d1 d2 => ?_⟩
    rcases next d d2 with h | h
    ·exact h2 e d d1 h
    ·rw [h]; exact fun z => c1 z.1
  ·rintro σ H2 ⟨s2, ⟨x, rfl⟩, is, e2, l2, h2⟩
   walk_at "st"
   refine R.lstA (by decide) fun p H3 s3 f3 e3 => ?_
   refine ⟨fun _ => False, .list (is.map PyData.int), .list [], .lst id (s3 _ _ e2) (isDs_intsP is), .lst id e3 IsDs.nil, shaped_intsP is, by decide, ?_⟩
   rw [eqv_nilP]
   walk_at "st"
   have s : Same H H3 := s1.trans (s2.trans s3)
   refine ite2 (fun c => ?_) (fun c => ?_)
   ·have c : is = [] := by simpa using c
    walk_at "st"
    exact q _ _ s (by omega) (by omega) (noDiv_of (by omega) fun d d1 d2 => h2 c d d1 (by omega))
   ·walk_at "st"
    exact ⟨s, _, rfl⟩
 ·rintro σ H1 ⟨s1, x, rfl⟩
  walk_at "st"
  refine q _ _ s1 (by omega) (by omega) fun d d1 d2 => ?_
  have : 2 * 2 <= d * d := Int.mul_le_mul d1 d1 (by omega) (by omega)
  omega
def F__law_prime : DF := fun ds Φ => ds = [] /\ ∀ p : Int, PrimeZ p -> p < 10 ^ 40 -> ∀ f, Φ f (.int p)
theorem mono__law_prime : MonoF F__law_prime := by
 intro ds Φ Ψ hm z
 obtain ⟨e, q⟩ := hm
 exact ⟨e, fun p h1 h2 f => z _ _ (q p h1 h2 f)⟩
theorem prime_pick : ∀ x ∈ ([2, 3, 5, 7, 2, 11, 101, 10007, 65537, 1000003, 998244353, 1000000007, 2147483647, 1000000000039, 1000000000000000003, 18446744073709551557, 2305843009213693951, 618970019642690137449562111, 162259276829213363391578010288127, 170141183460469231731687303715884105727, 1000000000000000000000000000000000000003, 9999999999999999999999999999999999999983] : List Int), x ∈ primeList /\ x < 10 ^ 40 := by decide +kernel
theorem scLawPrime : FnScope ["bag", "some", "way"] ["bag"] (defScope sLawPrime) := ⟨rfl, rfl, rfl, by decide +kernel, rfl, by decide +kernel, by decide +kernel⟩
theorem ok__law_prime (F : Fun K "_law_prime" "_law_prime" sLawPrime f fd) (c__law_draw : Callee P w K mg base "_law_draw" 2 ["bag", "many"] spDraw) (c__law_prime_from : Callee P w K mg base "_law_prime_from" 1 ["number"] spPrimeFrom)   :
  FnOk P w K mg base CX0 3 f fd ["bag"] (spB 1 F__law_prime) := by
 refine F.ok scLawPrime (fun vs H Q E h => h.1) (fun cdv A outer s H vs Q E hr h => ?_)
 obtain ⟨_, b, l, ws, nb, ds, rfl, hB, hlive, hnb, hds, hF⟩ := h
 obtain ⟨Φ, hΦ, hF⟩ : ∃ Φ : Pd, (∀ f d v H', Φ f d -> But (Nb b) H H' -> BagAt H' b l -> IsD (fun a => nb a \/ (f = true /\ H a ≠ none)) H' d v -> Q v H') /\ F__law_prime ds Φ := ⟨_, fun f d v H' q => q v H', hF⟩
 obtain ⟨rfl, q⟩ := hF
 refine ⟨_, (@pss_cons _ _ _ _ _ (@ps_setInts _ 1 _ _ _ _ _ _ scLawPrime.nd rfl (Or.inl rfl) rfl (Or.inl rfl)) (@pss_cons _ _ _ _ _ (@ps_set _ _ (1) _ _ _ _ scLawPrime.nd rfl (Or.inl rfl) (@pe_op _ _ _ _ _ _ _ _ op_cat (pv 1) (@pe_lst _ _ _ _ (@pa_consts _ _ _ rfl))) (by rfl) (by first | exact .inl rfl | exact .inr rfl | assumption)) (@pss_cons _ _ _ _ _ (@ps_set _ _ (1) _ _ _ _ scLawPrime.nd rfl (Or.inl rfl) (@pe_op _ _ _ _ _ _ _ _ op_cat (pv 1) (@pe_lst _ _ _ _ (@pa_cons _ _ _ _ _ pe_int (@pa_cons _ _ _ _ _ pe_int pa_nil rfl) rfl))) (by rfl) (by first | exact .inl rfl | exact .inr rfl | assumption)) (@pss_cons _ _ _ _ _ (@ps_set _ _ (1) _ _ _ _ scLawPrime.nd rfl (Or.inl rfl) (@pe_op _ _ _ _ _ _ _ _ op_cat (pv 1) (@pe_lst _ _ _ _ (@pa_cons _ _ _ _ _ pe_int (@pa_cons _ _ _ _ _ pe_int pa_nil rfl) rfl))) (by rfl) (by first | exact .inl rfl | exact .inr rfl | assumption)) (@pss_cons _ _ _ _ _ (@ps_set _ _ (2) _ _ _ _ scLawPrime.nd rfl (Or.inl rfl) (@pe_callC _ _ _ _ _ _ _ _ _ _ c__law_draw (hr.mono (by decide)) (@pa_cons _ _ _ _ _ (pv 0) (@pa_cons _ _ _ _ _ pe_int pa_nil rfl) rfl) (by rfl) (by decide) (by rfl) (by rfl)) (by rfl) (by first | exact .inl rfl | exact .inr rfl | assumption)) (@pss_one _ _ _ (@ps_ret _ _ _ _ (@pe_ifExp _ _ _ _ _ _ _ _ (@pt_cmpR _ _ _ _ _ _ _ _ op_lt (pv 2) pe_int (nomark _)) (@pe_ix _ _ _ _ _ _ (rIxL K) ix_list (pv 1) (pv 2) (fun _ _ => rfl)) (@pe_callC _ _ _ _ _ _ _ _ _ _ c__law_prime_from (hr.mono (by decide)) (@pa_cons _ _ _ _ _ (@pe_op _ _ _ _ _ _ _ _ op_add pe_int (@pe_callC _ _ _ _ _ _ _ _ _ _ c__law_draw (hr.mono (by decide)) (@pa_cons _ _ _ _ _ (pv 0) (@pa_cons _ _ _ _ _ pe_int pa_nil rfl) rfl) (by rfl) (by decide) (by rfl) (by rfl))) pa_nil rfl) (by rfl) (by decide) (by rfl) (by rfl)))))))))), ?_⟩
 refine Sv.enterB hB hlive hnb hds hΦ (ρ := [.bag, .no, .no]) rfl ?_
 clear hΦ hds
 walk_at "dt"
 intro way w1 w2
 by_cases c : way < 22
 ·walk_at "dt"
  obtain ⟨m, em, hm1, hm2⟩ := pick (L := [2, 3, 5, 7, 2, 11, 101, 10007, 65537, 1000003, 998244353, 1000000007, 2147483647, 1000000000039, 1000000000000000003, 18446744073709551557, 2305843009213693951, 618970019642690137449562111, 162259276829213363391578010288127, 170141183460469231731687303715884105727, 1000000000000000000000000000000000000003, 9999999999999999999999999999999999999983]) (k := way) w1 (by show _ < (22 : Int); omega) _ prime_pick
  refine ⟨_, em, ?_⟩
  exact q m (primeZ_list m hm1) hm2 _
 ·walk_at "dt"
  intro r r1 r2
  walk_at "dt"
  exact fun r' h1 h2 => q r' h1 h2 _
def F__law_letters : DF := fun ds Φ => ∃ p n : Int, ds = [.int p, .int n] /\ POk p /\ 0 <= n /\ n <= 10000 /\ ∀ os : List Int, (os.length : Int) = n -> (∀ x ∈ os, 0 <= x /\ x < p) -> Φ true (.list (os.map .int))
theorem mono__law_letters : MonoF F__law_letters := by
 intro ds Φ Ψ hm z
 obtain ⟨p, n, e, h1, h2, h3, q⟩ := hm
 exact ⟨p, n, e, h1, h2, h3, fun os a b => z _ _ (q os a b)⟩
theorem scLawLetters : FnScope ["bag", "p", "n", "way"] ["bag", "p", "n"] (defScope sLawLetters) := ⟨rfl, rfl, rfl, by decide +kernel, rfl, by decide +kernel, by decide +kernel⟩
theorem ok__law_letters (F : Fun K "_law_letters" "_law_letters" sLawLetters f fd) (c__law_draw : Callee P w K mg base "_law_draw" 2 ["bag", "many"] spDraw) (m_range : mg "range" = none) (m_int : mg "int" = none) (m_min : mg "min" = none)  :
  FnOk P w K mg base CX0 3 f fd ["bag", "p", "n"] (spB 3 F__law_letters) := by
 refine F.ok scLawLetters (fun vs H Q E h => h.1) (fun cdv A outer s H vs Q E hr h => ?_)
 obtain ⟨_, b, l, ws, nb, ds, rfl, hB, hlive, hnb, hds, hF⟩ := h
 obtain ⟨Φ, hΦ, hF⟩ : ∃ Φ : Pd, (∀ f d v H', Φ f d -> But (Nb b) H H' -> BagAt H' b l -> IsD (fun a => nb a \/ (f = true /\ H a ≠ none)) H' d v -> Q v H') /\ F__law_letters ds Φ := ⟨_, fun f d v H' q => q v H', hF⟩
 obtain ⟨p, n, rfl, ⟨p2, p60⟩, n0, n1, q⟩ := hF
 refine ⟨_, (@pss_cons _ _ _ _ _ (@ps_set _ _ (3) _ _ _ _ scLawLetters.nd rfl (Or.inr rfl) (@pe_callC _ _ _ _ _ _ _ _ _ _ c__law_draw (hr.mono (by decide)) (@pa_cons _ _ _ _ _ (pv 0) (@pa_cons _ _ _ _ _ pe_int pa_nil rfl) rfl) (by rfl) (by decide) (by rfl) (by rfl)) (by rfl) (by first | exact .inl rfl | exact .inr rfl | assumption)) (@pss_cons _ _ _ _ _ (@ps_if _ _ _ _ _ _ _ _ (@pt_cmpR _ _ _ _ _ _ _ _ op_eq (pv 3) pe_int (nomark _)) (@pss_one _ _ _ (@ps_ret _ _ _ _ (pe_lcomp (CompOk.of (show compOkB (defScope sLawLetters) ["bag", "p", "n", "way"] _ ["k", "bag", "p"] [none, some 0, some 1] = true by decide +kernel)) (@pi_range1 _ _ _ _ _ _ rfl m_range (@pa_cons _ _ _ _ _ (pv 2) pa_nil rfl) (by rfl)) (fun _ _ _ _ => ⟨(pg_name (i := 0) (by show List.Nodup (["k", "bag", "p"] : List Str); decide +kernel) rfl (Or.inl rfl)), pts_nil, (@pe_op _ _ _ _ _ _ _ _ op_mulA (@pe_callC _ _ _ _ _ _ _ _ _ _ c__law_draw (hr.mono (by decide)) (@pa_cons _ _ _ _ _ (pv 1) (@pa_cons _ _ _ _ _ (pv 2) pa_nil rfl) rfl) (by rfl) (by decide) (by rfl) (by rfl)) (@pe_callTy _ _ _ _ _ _ _ _ _ call_intM rfl m_int PyProof.Rows.boot_int (@pa_cons _ _ _ _ _ (@pe_cmpR _ _ _ _ _ _ _ _ op_eq (@pe_callC _ _ _ _ _ _ _ _ _ _ c__law_draw (hr.mono (by decide)) (@pa_cons _ _ _ _ _ (pv 1) (@pa_cons _ _ _ _ _ pe_int pa_nil rfl) rfl) (by rfl) (by decide) (by rfl) (by rfl)) pe_int (nomark _)) pa_nil rfl) (by decide) (by decide) (by rfl) (by rfl)))⟩)))) pss_nil) (@pss_one _ _ _ (@ps_ret _ _ _ _ (pe_lcomp (CompOk.of (show compOkB (defScope sLawLetters) ["bag", "p", "n", "way"] _ ["k", "bag", "p", "way"] [none, some 0, some 1, some 3] = true by decide +kernel)) (@pi_range1 _ _ _ _ _ _ rfl m_range (@pa_cons _ _ _ _ _ (pv 2) pa_nil rfl) (by rfl)) (fun _ _ _ _ => ⟨(pg_name (i := 0) (by show List.Nodup (["k", "bag", "p", "way"] : List Str); decide +kernel) rfl (Or.inl rfl)), pts_nil, (@pe_callC _ _ _ _ _ _ _ _ _ _ c__law_draw (hr.mono (by decide)) (@pa_cons _ _ _ _ _ (pv 1) (@pa_cons _ _ _ _ _ (@pe_ix _ _ _ _ _ _ (rIxL K) ix_list (@pe_lst _ _ _ _ (@pa_cons _ _ _ _ _ (pv 2) (@pa_cons _ _ _ _ _ (@pe_callB _ _ _ _ _ _ _ _ _ (call_minM rfl) rfl m_min PyProof.Rows.boot_min (@pa_cons _ _ _ _ _ (pv 2) (@pa_cons _ _ _ _ _ pe_int pa_nil rfl) rfl) (by decide) (by decide) (by rfl) (by rfl)) pa_nil rfl) rfl)) (pv 3) (fun _ _ => rfl)) pa_nil rfl) rfl) (by rfl) (by decide) (by rfl) (by rfl))⟩)))))), ?_⟩
 refine Sv.enterB hB hlive hnb hds hΦ (ρ := [.bag, .d false _, .d false _, .no]) rfl ?_
 clear hΦ hds
 walk_at "dt"
 intro way w1 w2
 by_cases c : way = 2
 ·walk_at "dt"
  refine EvN.ev (EvN.compR1 (by decide) rfl ?_)
  walk_at "dt"
  refine CompD.ints (fun x => 0 <= x /\ x < p) ?_ fun os hol hos => q os (by omega) hos
  rintro i d ⟨hi, rfl⟩
  walk_at "dt"
  refine ⟨by walk_at "wk", ?_⟩
  walk_at "dt"
  intro r r1 r2
  walk_at "dt"
  intro s s1 s2
  by_cases c2 : s = 3
  ·walk_at "dt"
   rw [decide_eq_true c2]
   exact ⟨by simp; omega, by simp; omega⟩
  ·walk_at "dt"
   rw [decide_eq_false c2]
   exact ⟨by simp, by simp; omega⟩
 ·obtain ⟨m, em, m1, m2⟩ : ∃ m : Int, atI [PyData.int p, .int (if 3 < p then 3 else p)] way = some (.int m) /\ 1 <= m /\ m <= p := by
   rcases (show way = 0 \/ way = 1 by omega) with rfl | rfl
   ·exact ⟨p, rfl, by omega, by omega⟩
   ·exact ⟨_, rfl, by split <;> omega, by split <;> omega⟩
  walk_at "dt"
  refine EvN.ev (EvN.compR1 (by decide) rfl ?_)
  walk_at "dt"
  refine CompD.ints (fun x => 0 <= x /\ x < p) ?_ fun os hol hos => q os (by omega) hos
  rintro i d ⟨hi, rfl⟩
  walk_at "dt"
  refine ⟨by walk_at "wk", ?_⟩
  walk_at "dt"
  exact fun r r1 r2 => ⟨r, rfl, r1, by omega⟩
def F__law_over : DF := fun ds Φ => ∃ p a b : Int, ds = [.int p, .int a, .int b] /\ PrimeZ p /\ p < 10 ^ 40 /\ b % p ≠ 0 /\ -(10 ^ 61) <= a /\ a <= 10 ^ 61 /\ ((∃ k, b * sol p b a - a = p * k) -> Φ true (.int (sol p b a)))
theorem mono__law_over : MonoF F__law_over := by
 intro ds Φ Ψ hm z
 obtain ⟨p, a, b, e, h1, h2, h3, h4, h5, q⟩ := hm
 exact ⟨p, a, b, e, h1, h2, h3, h4, h5, fun h => z _ _ (q h)⟩
theorem scLawOver : FnScope ["p", "a", "b", "old", "new", "one", "two", "times"] ["p", "a", "b"] (defScope sLawOver) := ⟨rfl, rfl, rfl, by decide +kernel, rfl, by decide +kernel, by decide +kernel⟩
theorem ok__law_over (F : Fun K "_law_over" "_law_over" sLawOver f fd)    :
  FnOk P w K mg base CX0 1 f fd ["p", "a", "b"] (spD 3 F__law_over) := by
 refine F.ok scLawOver (fun vs H Q E h => h.1) (fun cdv A outer s H vs Q E hr h => ?_)
 obtain ⟨_, nb, ds, hlive, hds, hF⟩ := h
 obtain ⟨Φ, hΦ, hF⟩ : ∃ Φ : Pd, (∀ f d v H', Φ f d -> Same H H' -> IsD (fun a => nb a \/ (f = true /\ H a ≠ none)) H' d v -> Q v H') /\ F__law_over ds Φ := ⟨_, fun f d v H' q => q v H', hF⟩
 obtain ⟨p, a, b, rfl, hp, hp40, hb, a0, a1, q⟩ := hF
 refine ⟨_, (@pss_cons _ _ _ _ _ (@ps_asg _ _ _ _ _ _ (@pe_tup _ _ _ _ _ (@pa_cons _ _ _ _ _ (@pe_op _ _ _ _ _ _ _ _ op_mod (pv 2) (pv 0)) (@pa_cons _ _ _ _ _ (pv 0) (@pa_cons _ _ _ _ _ pe_int (@pa_cons _ _ _ _ _ pe_int pa_nil rfl) rfl) rfl) rfl)) (@pg_tupM _ (K) _ _ _ (4) _ rfl rfl (@pgs_cons _ _ _ _ _ (pg_name (i := 3) scLawOver.nd rfl (Or.inl rfl)) (@pgs_cons _ _ _ _ _ (pg_name (i := 4) scLawOver.nd rfl (Or.inl rfl)) (@pgs_cons _ _ _ _ _ (pg_name (i := 5) scLawOver.nd rfl (Or.inl rfl)) (@pgs_cons _ _ _ _ _ (pg_name (i := 6) scLawOver.nd rfl (Or.inl rfl)) pgs_nil (by rfl)) (by rfl)) (by rfl)) (by rfl)) (by rfl) (by rfl)) (by rfl) (by rfl) (by rfl)) (@pss_cons _ _ _ _ _ (@ps_while _ _ _ _ _ _ PassesOwn.never (@pt_cmpR _ _ _ _ _ _ _ _ op_ne (pv 4) pe_int (nomark _)) (@pss_cons _ _ _ _ _ (@ps_set _ _ (7) _ _ _ _ scLawOver.nd rfl (Or.inl rfl) (@pe_op _ _ _ _ _ _ _ _ op_fdivS (pv 3) (pv 4)) (by rfl) (by first | exact .inl rfl | exact .inr rfl | assumption)) (@pss_one _ _ _ (@ps_asg _ _ _ _ _ _ (@pe_tup _ _ _ _ _ (@pa_cons _ _ _ _ _ (pv 4) (@pa_cons _ _ _ _ _ (@pe_op _ _ _ _ _ _ _ _ op_sub (pv 3) (@pe_op _ _ _ _ _ _ _ _ op_mulA (pv 7) (pv 4))) (@pa_cons _ _ _ _ _ (pv 6) (@pa_cons _ _ _ _ _ (@pe_op _ _ _ _ _ _ _ _ op_sub (pv 5) (@pe_op _ _ _ _ _ _ _ _ op_mulA (pv 7) (pv 6))) pa_nil rfl) rfl) rfl) rfl)) (@pg_tupM _ (K) _ _ _ (4) _ rfl rfl (@pgs_cons _ _ _ _ _ (pg_name (i := 3) scLawOver.nd rfl (Or.inl rfl)) (@pgs_cons _ _ _ _ _ (pg_name (i := 4) scLawOver.nd rfl (Or.inl rfl)) (@pgs_cons _ _ _ _ _ (pg_name (i := 5) scLawOver.nd rfl (Or.inl rfl)) (@pgs_cons _ _ _ _ _ (pg_name (i := 6) scLawOver.nd rfl (Or.inl rfl)) pgs_nil (by rfl)) (by rfl)) (by rfl)) (by rfl)) (by rfl) (by rfl)) (by rfl) (by rfl) (by rfl))))) (@pss_one _ _ _ (@ps_ret _ _ _ _ (@pe_op _ _ _ _ _ _ _ _ op_mod (@pe_op _ _ _ _ _ _ _ _ op_mulA (pv 1) (pv 5)) (pv 0)))))), ?_⟩
 refine Sv.enterD hlive hds hΦ (ρ := [.d false _, .d false _, .d false _, .no, .no, .no, .no, .no]) rfl ?_
 clear hΦ hds
 have p2 := hp.1
 have m1 := Int.emod_nonneg b (show p ≠ 0 by omega)
 have m2 := Int.emod_lt_of_pos b (show 0 < p by omega)
 walk_at "dt"
 show Gvs _ _ _ _ [PyData.int (b % p), .int p, .int 1, .int 0] _
 walk_at "dt"
 refine Sv.while_ (fun ρ => ∃ (L lt r t : Int) (x6 : Sl), ρ = [.d false (.int p), .d false (.int a), .d false (.int b), .d true (.int L), .d true (.int r), .d true (.int lt), .d true (.int t), x6] /\ (-p <= lt /\ lt <= p) /\ ((L = b % p /\ r = p /\ lt = 1 /\ t = 0) \/ Eu p b L lt r t)) (fun ρ : Rh => match ρ[4]? with | some (Sl.d _ (PyData.int r)) => r.toNat | _ => 0) ⟨_, _, _, _, _, rfl, by omega, .inl ⟨rfl, rfl, rfl, rfl⟩⟩ ?_
 rintro ρ ⟨L, lt, r, t, x6, rfl, hlt, hI⟩
 by_cases c : r = 0
 ·rcases hI with ⟨_, h, _, _⟩ | hE
  ·omega
  subst c
  obtain ⟨k, hk⟩ := hE.fin hp hb
  obtain ⟨t1, t2⟩ := hE.tb
  have sa : Sm a := by unfold Sm; omega
  have sl : Sm lt := by unfold Sm; omega
  walk_at "dt"
  have e := Int.mul_ediv_add_emod (a * lt) p
  have ef := Int.mul_ediv_add_emod lt p
  have ex : ∃ k, b * (a * lt % p) - a = p * k := ⟨a * k + a * (lt / p) * b - a * lt / p * b, by
   generalize a * lt / p = Q1 at *
   generalize a * lt % p = R1 at *
   generalize lt / p = Q2 at *
   generalize lt % p = R2 at *
   have h1 : R1 = a * lt - p * Q1 := by omega
   have h2 : lt = p * Q2 + R2 := by omega
   rw [h1]
   have h3 : a * (R2 * b) = a * (1 + p * k) := by rw [hk]
   grind⟩
  have es := sol_eq (x := a * lt % p) (a := a) hp hb (Int.emod_nonneg _ (by omega)) (Int.emod_lt_of_pos _ (by omega)) ex
  rw [es]
  rw [es] at ex
  exact q ex
 ·rcases hI with ⟨rfl, rfl, rfl, rfl⟩ | hE
  ·have e0 : b % r / r = 0 := Int.ediv_eq_zero_of_lt m1 m2
   walk_at "dt"
   show Gvs _ _ _ _ [PyData.int r, .int (b % r - b % r / r * r), .int 0, .int (1 - b % r / r * 0)] _
   rw [e0]
   walk_at "dt"
   refine ⟨⟨_, _, _, _, _, rfl, by omega, .inr ?_⟩, ?_⟩
   ·rw [Int.zero_mul, Int.sub_zero, Int.mul_zero, Int.sub_zero]
    exact Eu.start p2
   ·show (b % r - 0 * r).toNat < r.toNat
    rw [Int.zero_mul]; omega
  ·obtain ⟨t1, t2⟩ := hE.tb
   have e1 := hE.l0
   have e2 := hE.r0
   have e3 := hE.lp
   have e4 := hE.rp
   have hr : 0 < r := by omega
   have q1 : 0 <= L / r := Int.ediv_nonneg (by omega) (by omega)
   have q2 : L / r <= L := Int.ediv_le_self _ (by omega)
   obtain ⟨N1, N2⟩ := hE.next hr
   walk_at "dt"
   show Gvs _ _ _ _ [PyData.int r, .int (L - L / r * r), .int t, .int (lt - L / r * t)] _
   walk_at "dt"
   exact ⟨⟨_, _, _, _, _, rfl, ⟨t1, t2⟩, .inr N1⟩, by show (L - L / r * r).toNat < r.toNat; omega⟩
def F__law_sum : DF := fun ds Φ => ∃ (p : Int) (prs : Prs) (wd : Wo), ds = [.int p, prsD prs, woD wd] /\ 0 < p /\ prs.length <= 10000 /\ PrsOk prs wd.length /\ WoOk wd /\ Φ true (.int (dueSum prs wd % p))
theorem mono__law_sum : MonoF F__law_sum := by
 intro ds Φ Ψ hm z
 obtain ⟨p, prs, wd, e, h1, h2, h3, h4, q⟩ := hm
 exact ⟨p, prs, wd, e, h1, h2, h3, h4, z _ _ q⟩
theorem scLawSum : FnScope ["p", "pairs", "word"] ["p", "pairs", "word"] (defScope sLawSum) := ⟨rfl, rfl, rfl, by decide +kernel, rfl, by decide +kernel, by decide +kernel⟩
theorem ok__law_sum (F : Fun K "_law_sum" "_law_sum" sLawSum f fd)  (m_sum : mg "sum" = none)  :
    FnOk P w K mg base CX0 1 f fd ["p", "pairs", "word"] (spD 3 F__law_sum) := by
  refine F.ok scLawSum (fun vs H Q E h => h.1) (fun cdv A outer s H vs Q E hr h => ?_)
  obtain ⟨_, nb, ds, hlive, hds, hF⟩ := h
  obtain ⟨Φ, hΦ, hF⟩ : ∃ Φ : Pd, (∀ f d v H', Φ f d -> Same H H' -> IsD (fun a => nb a \/ (f = true /\ H a ≠ none)) H' d v -> Q v H') /\ F__law_sum ds Φ := ⟨_, fun f d v H' q => q v H', hF⟩
  obtain ⟨p, prs, wd, rfl, hp, hl, h1, h2, q⟩ := hF
  refine ⟨_, (@pss_one _ _ _ (@ps_ret _ _ _ _ (@pe_op _ _ _ _ _ _ _ _ op_mod (@pe_callB _ _ _ _ _ _ _ _ (rSum K) (call_sumM rfl) rfl m_sum PyProof.Rows.boot_sum (@pa_cons _ _ _ _ _ (pe_lcomp (CompOk.of (show compOkB (defScope sLawSum) ["p", "pairs", "word"] _ ["place", "factor", "word"] [none, none, some 2] = true by decide +kernel)) (@pi_list _ _ _ _ (pv 1)) (fun _ _ _ _ => ⟨(@pg_tupM _ (K) _ _ _ (2) _ rfl rfl (@pgs_cons _ _ _ _ _ (pg_name (i := 0) (by show List.Nodup (["place", "factor", "word"] : List Str); decide +kernel) rfl (Or.inl rfl)) (@pgs_cons _ _ _ _ _ (pg_name (i := 1) (by show List.Nodup (["place", "factor", "word"] : List Str); decide +kernel) rfl (Or.inl rfl)) pgs_nil (by rfl)) (by rfl)) (by rfl) (by rfl)), (pts_one (@pt_cmpR _ _ _ _ _ _ _ _ op_notM (@pe_ix _ _ _ _ _ _ (rIxL K) ix_list (pv 2) (pv 0) (fun _ _ => rfl)) pe_non (nomark _))), (@pe_op _ _ _ _ _ _ _ _ op_mulA (pv 1) (@pe_ix _ _ _ _ _ _ (rIxL K) ix_list (pv 2) (pv 0) (fun _ _ => rfl)))⟩)) pa_nil rfl) (by decide) (by decide) (by rfl) (by rfl)) (pv 0)))), ?_⟩
  refine Sv.enterD hlive hds hΦ (ρ := [.d false _, .d false _, .d false _]) rfl ?_
  clear hΦ hds
  walk_at "dt"
  refine EvN.ev (EvN.compL (by decide) rfl ?_)
  walk_at "dt"
  refine ⟨by rw [List.length_map]; exact hl, fun v => ⟨false, fun i ds => ∃ ns : List Int, ds = ns.map .int /\ ns.sum = dueSum (prs.take i) wd, ⟨[], rfl, by simp [dueSum]⟩, ?_, ?_⟩⟩
  · rintro i d ds hd hl' ⟨ns, rfl, hs⟩
    obtain ⟨pr, hpr, rfl⟩ := map_at hd
    obtain ⟨g1, g2, g3⟩ := h1 pr (List.mem_of_getElem? hpr)
    obtain ⟨o, ho, hat⟩ := atI_nat' (xs := wd) optD g1 g2 rfl
    have hi : i < prs.length := (List.getElem?_eq_some_iff.mp hpr).1
    have hsn := dueSum_snoc (wd := wd) hi
    have hpe : prs[i] = pr := (List.getElem?_eq_some_iff.mp hpr).2
    rw [hpe] at hsn
    walk_at "dt"
    refine ⟨by walk_at "wk", ?_⟩
    walk_at "dt"
    rw [isN_opt]
    cases o with
    | none =>
      walk_at "dt"
      refine ⟨ns, rfl, ?_⟩
      rw [hsn, hs]
      unfold termOf
      rw [ho]; simp
    | some x =>
      have hx : Sm x := h2 x (List.mem_of_getElem? ho)
      have hat' : atI (wd.map optD) pr.1 = some (.int x) := hat
      walk_at "dt"
      refine ⟨ns ++ [pr.2 * x], by simp, ?_⟩
      rw [hsn, List.sum_append, hs]
      unfold termOf
      rw [ho]; simp
  · rintro ds hl' ⟨ns, rfl, hs⟩
    rw [List.length_map, List.take_length] at hs
    refine ⟨ns, rfl, ?_⟩
    rw [hs]
    walk_at "dt"
    exact q
def optPrsD : Option Prs -> PyData
 | none => .none
 | some prs => prsD prs
def F__law_planted_check : DF := fun ds Φ => ∃ (p wide : Int) (wd : List Int), ds = [.int p, .list (wd.map .int), .int wide] /\ PrimeZ p /\ p < 10 ^ 40 /\ 1 <= wd.length /\ wd.length <= 400 /\ (∀ x ∈ wd, 0 <= x /\ x < p) /\ 1 <= wide /\ wide <= 60 /\ ∀ (o : Option Prs) (f : Bool), (∀ prs, o = some prs -> PrsQ p wd.length prs /\ dueSum prs (wd.map some) % p = 0) -> Φ f (optPrsD o)
theorem mono__law_planted_check : MonoF F__law_planted_check := by
 intro ds Φ Ψ hm z
 obtain ⟨p, w, wd, e, h1, h2, h3, h4, h5, h6, h7, q⟩ := hm
 exact ⟨p, w, wd, e, h1, h2, h3, h4, h5, h6, h7, fun o f h => z _ _ (q o f h)⟩
theorem scLawPlantedCheck : FnScope ["bag", "p", "word", "wide", "n", "places", "pairs", "rest", "last"] ["bag", "p", "word", "wide"] (defScope sLawPlantedCheck) := ⟨rfl, rfl, rfl, by decide +kernel, rfl, by decide +kernel, by decide +kernel⟩
theorem ok__law_planted_check (F : Fun K "_law_planted_check" "_law_planted_check" sLawPlantedCheck f fd) (c__law_sum : Callee P w K mg base "_law_sum" 1 ["p", "pairs", "word"] (spD 3 F__law_sum)) (c__law_draw : Callee P w K mg base "_law_draw" 2 ["bag", "many"] spDraw) (c__law_over : Callee P w K mg base "_law_over" 1 ["p", "a", "b"] (spD 3 F__law_over)) (m_len : mg "len" = none) (m_sorted : mg "sorted" = none) (m_set : mg "set" = none) (m_range : mg "range" = none)  :
  FnOk P w K mg base CX0 3 f fd ["bag", "p", "word", "wide"] (spB 4 F__law_planted_check) := by
 refine F.ok scLawPlantedCheck (fun vs H Q E h => h.1) (fun cdv A outer s H vs Q E hr h => ?_)
 obtain ⟨_, b, l, ws, nb, ds, rfl, hB, hlive, hnb, hds, hF⟩ := h
 obtain ⟨Φ, hΦ, hF⟩ : ∃ Φ : Pd, (∀ f d v H', Φ f d -> But (Nb b) H H' -> BagAt H' b l -> IsD (fun a => nb a \/ (f = true /\ H a ≠ none)) H' d v -> Q v H') /\ F__law_planted_check ds Φ := ⟨_, fun f d v H' q => q v H', hF⟩
 obtain ⟨p, wide, wd, rfl, hp, hp40, w1, w2, hwd, d1, d2, q⟩ := hF
 refine ⟨_, (@pss_cons _ _ _ _ _ (@ps_set _ _ (4) _ _ _ _ scLawPlantedCheck.nd rfl (Or.inr rfl) (@pe_callB _ _ _ _ _ _ _ _ (rLen K) call_lenM rfl m_len PySem.boot_len (@pa_cons _ _ _ _ _ (pv 2) pa_nil rfl) (by decide) (by decide) (by rfl) (by rfl)) (by rfl) (by first | exact .inl rfl | exact .inr rfl | assumption)) (@pss_cons _ _ _ _ _ (@ps_set _ _ (5) _ _ _ _ scLawPlantedCheck.nd rfl (Or.inl rfl) (@pe_callB _ _ _ _ _ _ _ _ (rSorted P w) (call_sortM rfl) rfl m_sorted PyProof.Rows.boot_sorted (@pa_cons _ _ _ _ _ (@pe_callTy _ _ _ _ _ _ _ _ (rSetOf P w K) (call_setM rfl) rfl m_set PyProof.Rows.boot_set (@pa_cons _ _ _ _ _ (pe_lcomp (CompOk.of (show compOkB (defScope sLawPlantedCheck) ["bag", "p", "word", "wide", "n", "places", "pairs", "rest", "last"] _ ["k", "bag", "n"] [none, some 0, some 4] = true by decide +kernel)) (@pi_range1 _ _ _ _ _ _ rfl m_range (@pa_cons _ _ _ _ _ (@pe_op _ _ _ _ _ _ _ _ op_add pe_int (@pe_callC _ _ _ _ _ _ _ _ _ _ c__law_draw (hr.mono (by decide)) (@pa_cons _ _ _ _ _ (pv 0) (@pa_cons _ _ _ _ _ (pv 3) pa_nil rfl) rfl) (by rfl) (by decide) (by rfl) (by rfl))) pa_nil rfl) (by rfl)) (fun _ _ _ _ => ⟨(pg_name (i := 0) (by show List.Nodup (["k", "bag", "n"] : List Str); decide +kernel) rfl (Or.inl rfl)), pts_nil, (@pe_callC _ _ _ _ _ _ _ _ _ _ c__law_draw (hr.mono (by decide)) (@pa_cons _ _ _ _ _ (pv 1) (@pa_cons _ _ _ _ _ (pv 2) pa_nil rfl) rfl) (by rfl) (by decide) (by rfl) (by rfl))⟩)) pa_nil rfl) (by decide) (by decide) (by rfl) (by rfl)) pa_nil rfl) (by decide) (by decide) (by rfl) (by rfl)) (by rfl) (by first | exact .inl rfl | exact .inr rfl | assumption)) (@pss_cons _ _ _ _ _ (ps_setC (i := 6) scLawPlantedCheck.nd rfl rfl (CompOk.of (show compOkB (defScope sLawPlantedCheck) ["bag", "p", "word", "wide", "n", "places", "pairs", "rest", "last"] _ ["place", "bag", "p"] [none, some 0, some 1] = true by decide +kernel)) (@pi_list _ _ _ _ (pv 5)) (fun _ _ _ _ => ⟨(pg_name (i := 0) (by show List.Nodup (["place", "bag", "p"] : List Str); decide +kernel) rfl (Or.inl rfl)), pts_nil, (@pe_tup _ _ _ _ _ (@pa_cons _ _ _ _ _ (pv 0) (@pa_cons _ _ _ _ _ (@pe_op _ _ _ _ _ _ _ _ op_add pe_int (@pe_callC _ _ _ _ _ _ _ _ _ _ c__law_draw (hr.mono (by decide)) (@pa_cons _ _ _ _ _ (pv 1) (@pa_cons _ _ _ _ _ (@pe_op _ _ _ _ _ _ _ _ op_sub (pv 2) pe_int) pa_nil rfl) rfl) (by rfl) (by decide) (by rfl) (by rfl))) pa_nil rfl) rfl))⟩)) (@pss_cons _ _ _ _ _ (@ps_set _ _ (7) _ _ _ _ scLawPlantedCheck.nd rfl (Or.inl rfl) (@pe_callC _ _ _ _ _ _ _ _ _ _ c__law_sum (hr.mono (by decide)) (@pa_cons _ _ _ _ _ (pv 1) (@pa_cons _ _ _ _ _ (@pe_slice _ _ _ _ _ _ _ _ _ (rSlL K) sl_list (pv 6) po_none (@po_some _ _ _ (@pe_un _ _ _ _ _ _ un_neg pe_int))) (@pa_cons _ _ _ _ _ (pv 2) pa_nil rfl) rfl) rfl) (by rfl) (by decide) (by rfl) (by rfl)) (by rfl) (by first | exact .inl rfl | exact .inr rfl | assumption)) (@pss_cons _ _ _ _ _ (@ps_set _ _ (8) _ _ _ _ scLawPlantedCheck.nd rfl (Or.inl rfl) (@pe_ix _ _ _ _ _ _ (rIxL K) ix_list (pv 5) (@pe_un _ _ _ _ _ _ un_neg pe_int) (fun _ _ => rfl)) (by rfl) (by first | exact .inl rfl | exact .inr rfl | assumption)) (@pss_cons _ _ _ _ _ (@ps_if _ _ _ _ _ _ _ _ (PW.pt (pw_and (@pt_cmpR _ _ _ _ _ _ _ _ op_ne (pv 7) pe_int (nomark _)) (pw_and1 (@pt_cmpR _ _ _ _ _ _ _ _ op_ne (@pe_ix _ _ _ _ _ _ (rIxL K) ix_list (pv 2) (pv 8) (fun _ _ => rfl)) pe_int (nomark _))))) (@pss_one _ _ _ (@ps_ret _ _ _ _ (@pe_op _ _ _ _ _ _ _ _ op_cat (@pe_slice _ _ _ _ _ _ _ _ _ (rSlL K) sl_list (pv 6) po_none (@po_some _ _ _ (@pe_un _ _ _ _ _ _ un_neg pe_int))) (@pe_lst _ _ _ _ (@pa_cons _ _ _ _ _ (@pe_tup _ _ _ _ _ (@pa_cons _ _ _ _ _ (pv 8) (@pa_cons _ _ _ _ _ (@pe_callC _ _ _ _ _ _ _ _ _ _ c__law_over (hr.mono (by decide)) (@pa_cons _ _ _ _ _ (pv 1) (@pa_cons _ _ _ _ _ (@pe_op _ _ _ _ _ _ _ _ op_sub pe_int (pv 7)) (@pa_cons _ _ _ _ _ (@pe_ix _ _ _ _ _ _ (rIxL K) ix_list (pv 2) (pv 8) (fun _ _ => rfl)) pa_nil rfl) rfl) rfl) (by rfl) (by decide) (by rfl) (by rfl)) pa_nil rfl) rfl)) pa_nil rfl))))) pss_nil) (@pss_cons _ _ _ _ _ (@ps_if _ _ _ _ _ _ _ _ (PW.pt (pw_and (@pt_cmpR _ _ _ _ _ _ _ _ op_eq (pv 7) pe_int (nomark _)) (pw_and1 (@pt_cmpR _ _ _ _ _ _ _ _ op_eq (@pe_ix _ _ _ _ _ _ (rIxL K) ix_list (pv 2) (pv 8) (fun _ _ => rfl)) pe_int (nomark _))))) (@pss_one _ _ _ (@ps_ret _ _ _ _ (pv 6))) pss_nil) (@pss_one _ _ _ (@ps_ret _ _ _ _ (@pe_ifExp _ _ _ _ _ _ _ _ (PW.pt (pw_and (@pt_cmpR _ _ _ _ _ _ _ _ op_eq (pv 7) pe_int (nomark _)) (pw_and1 (@pt_cmpR _ _ _ _ _ _ _ _ op_gt (@pe_callB _ _ _ _ _ _ _ _ (rLen K) call_lenM rfl m_len PySem.boot_len (@pa_cons _ _ _ _ _ (pv 6) pa_nil rfl) (by decide) (by decide) (by rfl) (by rfl)) pe_int (nomark _))))) (@pe_slice _ _ _ _ _ _ _ _ _ (rSlL K) sl_list (pv 6) po_none (@po_some _ _ _ (@pe_un _ _ _ _ _ _ un_neg pe_int))) pe_non)))))))))), ?_⟩
 refine Sv.enterB hB hlive hnb hds hΦ (ρ := [.bag, .d false _, .d false _, .d false _, .no, .no, .no, .no, .no]) rfl ?_
 clear hΦ hds
 have p2 := hp.1
 have hlw : (wd.map PyData.int).length = wd.length := List.length_map ..
 have hsm : ∀ x : Int, 0 <= x -> x <= p -> Sm x := fun x x0 x1 => by unfold Sm; omega
 walk_at "dt"
 refine EvN.ev (EvN.sortedSet (EvN.ev (EvN.compR1 (by decide) rfl ?_)))
 walk_at "dt"
 intro k0 k1 k2
 walk_at "dt"
 refine CompD.ints (fun x => 0 <= x /\ x < (wd.map PyData.int).length) ?_ fun os hol hos => ⟨os, rfl, by omega, fun rs hrs0 hmem => ?_⟩
 ·rintro i d ⟨hi, rfl⟩
  walk_at "dt"
  refine ⟨by walk_at "wk", ?_⟩
  walk_at "dt"
  exact fun r r1 r2 => ⟨r, rfl, r1, r2⟩
 have hrs : rs.Nodup := hrs0.imp fun h => by omega
 have hrl : 0 < rs.length := by
  have : 0 < os.length := by omega
  obtain ⟨y, hy⟩ := List.exists_mem_of_length_pos this
  exact List.length_pos_of_mem ((hmem y).mpr hy)
 have hrl2 : rs.length <= os.length := List.Nodup.length_le_of_subset hrs fun k hk => (hmem k).mp hk
 walk_at "dt"
 refine EvN.ev (EvN.compL (by decide) rfl ?_)
 walk_at "dt"
 refine ⟨by rw [List.length_map]; omega, fun v => CompD.rel pairD true (fun i pr => rs[i]? = some pr.1 /\ 1 <= pr.2 /\ pr.2 < p) ?_ fun prs hpl hprs => ?_⟩
 ·rintro i d hd
  obtain ⟨x, hx, rfl⟩ := map_at hd
  walk_at "dt"
  refine ⟨by walk_at "wk", ?_⟩
  walk_at "dt"
  intro r r1 r2
  walk_at "dt"
  exact ⟨fun _ => rfl, (x, 1 + r), rfl, hx, by show 1 <= 1 + r; omega, by show 1 + r < p; omega⟩
 rw [List.length_map] at hpl
 have eprs : prs.map (·.1) = rs := by
  apply List.ext_getElem?
  intro j
  rw [List.getElem?_map]
  cases e : prs[j]? with
  | none => rw [List.getElem?_eq_none (by have := List.getElem?_eq_none_iff.mp e; omega)]; rfl
  | some pr => exact (hprs j pr e).1.symm
 have hQ : PrsQ p wd.length prs := ⟨by rw [eprs]; exact hrs, by omega, fun pr hpr => by
  obtain ⟨k, hk⟩ := List.getElem?_of_mem hpr
  have h2 := hprs k pr hk
  have h1 := hos pr.1 ((hmem _).mp (List.mem_of_getElem? h2.1))
  omega⟩
 have hlp : (prs.map pairD).length = prs.length := List.length_map ..
 have ecut : cutA (prs.map pairD) none (some (-1)) = prs.dropLast.map pairD := by
  unfold cutA HT.sIx
  simp only [List.drop_zero, Nat.sub_zero]
  rw [List.dropLast_eq_take, List.map_take, hlp]
  congr 1
  first | omega | (split <;> omega)
 have hdl : prs.dropLast.length = prs.length - 1 := List.length_dropLast ..
 have hQd : PrsQ p wd.length prs.dropLast := ⟨((List.dropLast_sublist prs).map _).nodup hQ.1, by omega, fun pr hpr => hQ.2.2 pr (List.dropLast_subset _ hpr)⟩
 have hrl1 : rs.length - 1 < rs.length := by omega
 have hat1 : atI (rs.map PyData.int) (-1) = some (.int rs[rs.length - 1]) := by
  unfold atI ixN
  rw [if_neg (by decide), if_pos (by rw [List.length_map]; omega)]
  show (rs.map PyData.int)[_]? = _
  rw [List.getElem?_map, List.length_map, show (-1 + (rs.length : Int)).toNat = rs.length - 1 by omega, List.getElem?_eq_getElem hrl1]; rfl
 obtain ⟨last, hlast⟩ : ∃ x, rs[rs.length - 1] = x := ⟨_, rfl⟩
 rw [hlast] at hat1
 have hlm : 0 <= last /\ last < wd.length := by
  have := hos last ((hmem _).mp (hlast ▸ List.getElem_mem hrl1))
  omega
 have hlt : last.toNat < wd.length := by omega
 have hat2 : atI (wd.map PyData.int) last = some (.int wd[last.toNat]) := atI_some hlm.1 (by rw [List.getElem?_map, List.getElem?_eq_getElem hlt]; rfl)
 have hwl := hwd _ (List.getElem_mem hlt)
 have hterm : ∀ x : Int, termOf (wd.map some) (last, x) = x * wd[last.toNat] := fun x => termOf_some (pr := (last, x)) (List.getElem?_eq_getElem hlt)
 generalize wd[last.toNat] = wl at *
 have hD : wd.map PyData.int = (wd.map some).map optD := by rw [List.map_map]; rfl
 have hPd : PrsOk prs.dropLast (wd.map some).length := fun pr hpr => by
  have := hQd.2.2 pr hpr
  rw [List.length_map]
  exact ⟨this.1, this.2.1, hsm _ (by omega) (by omega)⟩
 have hWo : WoOk (wd.map some) := fun x hx => by
  obtain ⟨y, hy, e⟩ := List.mem_map.mp hx
  cases e
  have := hwd x hy
  exact hsm x (by omega) (by omega)
 walk_at "dt"
 refine Ev.callD mono__law_sum ?_
 walk_at "dt"
 refine ⟨rfl, p, prs.dropLast, wd.map some, by show [_, PyData.list _, PyData.list _] = _; rw [ecut, hD], by omega, by omega, hPd, hWo, ?_⟩
 have R0 := Int.emod_nonneg (dueSum prs.dropLast (wd.map some)) (show p ≠ 0 by omega)
 have R1 := Int.emod_lt_of_pos (dueSum prs.dropLast (wd.map some)) (show 0 < p by omega)
 have hall : ∃ x : Int, prs = prs.dropLast ++ [(last, x)] := by
  have hne : prs ≠ [] := List.ne_nil_of_length_pos (by omega)
  have e := List.dropLast_concat_getLast hne
  refine ⟨(prs.getLast hne).2, ?_⟩
  have e2 : (prs.getLast hne).1 = last := by
   rw [<- hlast, List.getLast_eq_getElem]
   have hz := hprs (prs.length - 1) _ (List.getElem?_eq_getElem (by omega))
   have e3 : rs[prs.length - 1]? = some rs[rs.length - 1] := by rw [show prs.length - 1 = rs.length - 1 by omega]; exact List.getElem?_eq_getElem hrl1
   rw [e3] at hz
   exact (Option.some.inj hz.1).symm
  rw [<- e2]
  exact e.symm
 have hdue : ∀ x : Int, dueSum (prs.dropLast ++ [(last, x)]) (wd.map some) % p = (dueSum prs.dropLast (wd.map some) % p + x * wl) % p := fun x => by
  rw [dueSum_append, dueSum_cons, hterm, Int.emod_add_emod]
  congr 1
  show _ + (_ + 0) = _
  omega
 obtain ⟨R, eR⟩ : ∃ R, dueSum prs.dropLast (wd.map some) % p = R := ⟨_, rfl⟩
 simp only [eR] at hdue R0 R1 ⊢
 walk_at "dt"
 by_cases cR : R = 0
 ·walk_at "dt"
  by_cases cw : wl = 0
  ·walk_at "dt"
   obtain ⟨x, hx⟩ := hall
   exact q (some prs) _ (fun _ e => by
    cases e
    refine ⟨hQ, ?_⟩
    rw [hx, hdue, cR, cw, Int.mul_zero]
    simp)
  ·walk_at "dt"
   by_cases cl : 1 < ((prs.map pairD).length : Int)
   ·walk_at "dt"
    rw [ecut]
    exact q (some prs.dropLast) _ (fun _ e => by cases e; exact ⟨hQd, by rw [eR, cR]⟩)
   ·walk_at "dt"
    exact q none _ (fun _ e => by cases e)
 ·walk_at "dt"
  by_cases cw : wl = 0
  ·walk_at "dt"
   exact q none _ (fun _ e => by cases e)
  ·have hwp : wl % p ≠ 0 := by rw [Int.emod_eq_of_lt (by omega) (by omega)]; exact cw
   walk_at "dt"
   refine Ev.callD mono__law_over ?_
   walk_at "dt"
   refine ⟨rfl, p, 0 - R, wl, rfl, hp, hp40, hwp, by omega, by omega, fun ⟨k, hk⟩ => ?_⟩
   have hs := sol_range (p := p) (b := wl) (a := 0 - R) (by omega)
   generalize sol p wl (0 - R) = sl at *
   have hs1 : sl ≠ 0 := fun z => by
    subst z
    rw [Int.mul_zero] at hk
    have hkR : R = p * k := by omega
    rcases Int.lt_trichotomy k 0 with z | z | z
    ·have : p * k <= p * (-1) := Int.mul_le_mul_of_nonneg_left (by omega) (by omega)
     omega
    ·subst z; omega
    ·have : p * 1 <= p * k := Int.mul_le_mul_of_nonneg_left (by omega) (by omega)
     omega
   walk_at "dt"
   refine ⟨by rw [ecut, List.length_map]; show _ + 1 <= 10000; omega, ?_⟩
   show Φ _ (.list (cutA (prs.map pairD) none (some (-1)) ++ [pairD (last, sl)]))
   rw [ecut, show (prs.dropLast.map pairD ++ [pairD (last, sl)]) = (prs.dropLast ++ [(last, sl)]).map pairD by rw [List.map_append]; rfl]
   refine q (some (prs.dropLast ++ [(last, sl)])) _ (fun _ e => ?_)
   cases e
   have hz : (R + sl * wl) % p = 0 := by
    rw [show R + sl * wl = p * k by rw [Int.mul_comm sl wl]; omega]
    exact Int.mul_emod_right p k
   refine ⟨?_, by rw [hdue]; exact hz⟩
   have hdr : (prs.dropLast ++ [(last, sl)]).map (·.1) = rs := by
    rw [List.map_append, List.map_dropLast, eprs, List.map_singleton, <- hlast]
    have := List.dropLast_concat_getLast (List.ne_nil_of_length_pos hrl)
    rw [List.getLast_eq_getElem] at this
    exact this
   refine ⟨by rw [hdr]; exact hrs, by rw [List.length_append, List.length_singleton]; omega, fun pr hpr => ?_⟩
   rcases List.mem_append.mp hpr with h | h
   ·exact hQd.2.2 pr h
   ·rw [List.mem_singleton.mp h]
    exact ⟨hlm.1, hlm.2, by show 1 <= sl; omega, hs.2⟩
def F__law_planted : DF := fun ds Φ => ∃ (p many wide : Int) (wd : List Int), ds = [.int p, .list (wd.map .int), .int many, .int wide] /\ PrimeZ p /\ p < 10 ^ 40 /\ 1 <= wd.length /\ wd.length <= 400 /\ (∀ x ∈ wd, 0 <= x /\ x < p) /\ 0 <= many /\ many <= 400 /\ 1 <= wide /\ wide <= 60 /\ ∀ (cs : List Prs) (f : Bool), (cs.length : Int) <= many -> (∀ prs ∈ cs, PrsQ p wd.length prs /\ dueSum prs (wd.map some) % p = 0) -> Φ f (netD p wd.length cs)
theorem mono__law_planted : MonoF F__law_planted := by
 intro ds Φ Ψ hm z
 obtain ⟨p, m, w, wd, e, h1, h2, h3, h4, h5, h6, h7, h8, h9, q⟩ := hm
 exact ⟨p, m, w, wd, e, h1, h2, h3, h4, h5, h6, h7, h8, h9, fun cs f a b => z _ _ (q cs f a b)⟩
theorem isN_optPrs (o : Option Prs) : isN (optPrsD o) = o.isNone := by cases o <;> rfl
theorem scLawPlanted : FnScope ["bag", "p", "word", "many", "wide", "checks"] ["bag", "p", "word", "many", "wide"] (defScope sLawPlanted) := ⟨rfl, rfl, rfl, by decide +kernel, rfl, by decide +kernel, by decide +kernel⟩
theorem ok__law_planted (F : Fun K "_law_planted" "_law_planted" sLawPlanted f fd) (c__law_planted_check : Callee P w K mg base "_law_planted_check" 3 ["bag", "p", "word", "wide"] (spB 4 F__law_planted_check)) (m_len : mg "len" = none) (m_range : mg "range" = none)  :
    FnOk P w K mg base CX0 4 f fd ["bag", "p", "word", "many", "wide"] (spB 5 F__law_planted) := by
  refine F.ok scLawPlanted (fun vs H Q E h => h.1) (fun cdv A outer s H vs Q E hr h => ?_)
  obtain ⟨_, b, l, ws, nb, ds, rfl, hB, hlive, hnb, hds, hF⟩ := h
  obtain ⟨Φ, hΦ, hF⟩ : ∃ Φ : Pd, (∀ f d v H', Φ f d -> But (Nb b) H H' -> BagAt H' b l -> IsD (fun a => nb a \/ (f = true /\ H a ≠ none)) H' d v -> Q v H') /\ F__law_planted ds Φ := ⟨_, fun f d v H' q => q v H', hF⟩
  obtain ⟨p, many, wide, wd, rfl, hp, hp40, w1, w2, hwd, m1, m2, d1, d2, q⟩ := hF
  refine ⟨_, (@pss_cons _ _ _ _ _ (ps_setC (i := 5) scLawPlanted.nd rfl rfl (CompOk.of (show compOkB (defScope sLawPlanted) ["bag", "p", "word", "many", "wide", "checks"] _ ["c", "bag", "p", "word", "wide"] [none, some 0, some 1, some 2, some 4] = true by decide +kernel)) (@pi_range1 _ _ _ _ _ _ rfl m_range (@pa_cons _ _ _ _ _ (pv 3) pa_nil rfl) (by rfl)) (fun _ _ _ _ => ⟨(pg_name (i := 0) (by show List.Nodup (["c", "bag", "p", "word", "wide"] : List Str); decide +kernel) rfl (Or.inl rfl)), pts_nil, (@pe_callC _ _ _ _ _ _ _ _ _ _ c__law_planted_check (hr.mono (by decide)) (@pa_cons _ _ _ _ _ (pv 1) (@pa_cons _ _ _ _ _ (pv 2) (@pa_cons _ _ _ _ _ (pv 3) (@pa_cons _ _ _ _ _ (pv 4) pa_nil rfl) rfl) rfl) rfl) (by rfl) (by decide) (by rfl) (by rfl))⟩)) (@pss_one _ _ _ (@ps_ret _ _ _ _ (@pe_tup _ _ _ _ _ (@pa_cons _ _ _ _ _ (pv 1) (@pa_cons _ _ _ _ _ (@pe_callB _ _ _ _ _ _ _ _ (rLen K) call_lenM rfl m_len PySem.boot_len (@pa_cons _ _ _ _ _ (pv 2) pa_nil rfl) (by decide) (by decide) (by rfl) (by rfl)) (@pa_cons _ _ _ _ _ (pe_lcomp (CompOk.of (show compOkB (defScope sLawPlanted) ["bag", "p", "word", "many", "wide", "checks"] _ ["pairs"] [none] = true by decide +kernel)) (@pi_list _ _ _ _ (pv 5)) (fun _ _ _ _ => ⟨(pg_name (i := 0) (by show List.Nodup (["pairs"] : List Str); decide +kernel) rfl (Or.inl rfl)), (pts_one (@pt_cmpR _ _ _ _ _ _ _ _ op_notM (pv 0) pe_non (nomark _))), (pv 0)⟩)) pa_nil rfl) rfl) rfl))))), ?_⟩
  refine Sv.enterB hB hlive hnb hds hΦ (ρ := [.bag, .d false _, .d false _, .d false _, .d false _, .no]) rfl ?_
  clear hΦ hds
  have hlw : (wd.map PyData.int).length = wd.length := List.length_map ..
  walk_at "dt"
  refine EvN.ev (EvN.compR1 (by decide) rfl ?_)
  walk_at "dt"
  refine CompD.rel optPrsD false (fun _ o => ∀ prs, o = some prs -> PrsQ p wd.length prs /\ dueSum prs (wd.map some) % p = 0) ?_ fun os hol hos => ?_
  · rintro i d ⟨hi, rfl⟩
    walk_at "dt"
    refine ⟨by walk_at "wk", ?_⟩
    refine Ev.callB mono__law_planted_check rfl ?_
    walk_at "dt"
    exact ⟨rfl, p, wide, wd, rfl, hp, hp40, w1, w2, hwd, d1, d2, fun o f h => ⟨(fun z => by cases z), o, rfl, h⟩⟩
  walk_at "dt"
  refine EvN.ev (EvN.compL (by decide) rfl ?_)
  walk_at "dt"
  refine ⟨by rw [List.length_map]; omega, fun v => ⟨false, fun i ds => ∃ es : List Prs, ds = es.map prsD /\ es.length <= i /\ ∀ prs ∈ es, PrsQ p wd.length prs /\ dueSum prs (wd.map some) % p = 0, ⟨[], rfl, Nat.le_refl _, (fun _ h => nomatch h)⟩, ?_, ?_⟩⟩
  · rintro j d ds hd hl' ⟨es, rfl, hel, hes⟩
    obtain ⟨o, ho, rfl⟩ := map_at hd
    walk_at "dt"
    refine ⟨by walk_at "wk", ?_⟩
    walk_at "dt"
    rw [isN_optPrs]
    cases o with
    | none =>
      walk_at "dt"
      exact ⟨es, rfl, by omega, hes⟩
    | some prs =>
      rw [show optPrsD (some prs) = prsD prs from rfl]
      walk_at "dt"
      refine ⟨es ++ [prs], by rw [List.map_append]; rfl, by simp; omega, fun q hq => ?_⟩
      rcases List.mem_append.mp hq with h | h
      · exact hes q h
      · rw [List.mem_singleton.mp h]; exact hos j _ ho prs rfl
  rintro ds hl' ⟨es, rfl, hel, hes⟩
  walk_at "dt"
  rw [List.length_map] at hel
  show Φ _ (.tuple [.int p, .int ((wd.map PyData.int).length : Int), .list (es.map prsD)])
  rw [hlw]
  exact q es _ (by omega) hes
def alikeOk : Nat -> PyData -> Prop
 | 0, _ => False
 | n + 1, d => scB d = true \/ ∃ ds, (d = .list ds \/ d = .tuple ds) /\ ds.length <= 10000 /\ ∀ e ∈ ds, alikeOk n e
def F__law_alike (n : Nat) : DF := fun ds Φ => ∃ d, ds = [d, d] /\ alikeOk n d /\ Φ true (.bool true)
theorem mono__law_alike (n : Nat) : MonoF (F__law_alike n) := fun ds Φ Ψ ⟨d, e, h, q⟩ z => ⟨d, e, h, z _ _ q⟩
theorem void__law_alike : ∀ vs H Q E, ¬ spD 2 (F__law_alike 0) vs H Q E := fun vs H Q E ⟨_, _, _, _, _, d, _, h, _⟩ => h
theorem scLawAlike : FnScope ["found", "due"] ["found", "due"] (defScope sLawAlike) := ⟨rfl, rfl, rfl, by decide +kernel, rfl, by decide +kernel, by decide +kernel⟩
theorem ok__law_alike (n : Nat) (F : Fun K "_law_alike" "_law_alike" sLawAlike f fd) (c__law_alike : Callee P w K mg base "_law_alike" (n) ["found", "due"] (spD 2 (F__law_alike n)))  (m_isinstance : mg "isinstance" = none) (m_list : mg "list" = none) (m_tuple : mg "tuple" = none) (m_all : mg "all" = none) (m_len : mg "len" = none) (m_bool : mg "bool" = none) (m_int : mg "int" = none) (m_str : mg "str" = none) (m_range : mg "range" = none)  :
  FnOk P w K mg base CX0 (n + 1) f fd ["found", "due"] (spD 2 (F__law_alike (n + 1))) := by
 refine F.ok scLawAlike (fun vs H Q E h => h.1) (fun cdv A outer s H vs Q E hr h => ?_)
 obtain ⟨_, nb, ds, hlive, hds, hF⟩ := h
 obtain ⟨Φ, hΦ, hF⟩ : ∃ Φ : Pd, (∀ f d v H', Φ f d -> Same H H' -> IsD (fun a => nb a \/ (f = true /\ H a ≠ none)) H' d v -> Q v H') /\ F__law_alike (n + 1) ds Φ := ⟨_, fun f d v H' q => q v H', hF⟩
 obtain ⟨d, rfl, hok, q⟩ := hF
 refine ⟨_, (@pss_cons _ _ _ _ _ (@ps_if _ _ _ _ _ _ _ _ (@pt_truthK _ (K) _ _ rfl (@pe_callB _ _ _ _ _ _ _ _ (rIsiT) call_isiT rfl m_isinstance PyProof.Rows.boot_isinstance (@pa_cons _ _ _ _ _ (pv 1) (@pa_cons _ _ _ _ _ (@pe_tup _ _ _ _ _ (@pa_cons _ _ _ _ _ (pe_bltn (v := .ty "list") rfl m_list PyProof.Rows.boot_list rfl) (@pa_cons _ _ _ _ _ (pe_bltn (v := .ty "tuple") rfl m_tuple PyProof.Rows.boot_tuple rfl) pa_nil rfl) rfl)) pa_nil rfl) rfl) (by decide) (by decide) (by rfl) (by rfl)) (fun _ => rfl)) (@pss_cons _ _ _ _ _ (@ps_if _ _ _ _ _ _ _ _ (PW.pt (pw_or (@pt_not _ _ _ _ (@pt_truthK _ (K) _ _ rfl (@pe_callB _ _ _ _ _ _ _ _ (rIsiT) call_isiT rfl m_isinstance PyProof.Rows.boot_isinstance (@pa_cons _ _ _ _ _ (pv 0) (@pa_cons _ _ _ _ _ (@pe_tup _ _ _ _ _ (@pa_cons _ _ _ _ _ (pe_bltn (v := .ty "list") rfl m_list PyProof.Rows.boot_list rfl) (@pa_cons _ _ _ _ _ (pe_bltn (v := .ty "tuple") rfl m_tuple PyProof.Rows.boot_tuple rfl) pa_nil rfl) rfl)) pa_nil rfl) rfl) (by decide) (by decide) (by rfl) (by rfl)) (fun _ => rfl))) (pw_or1 (@pt_cmpR _ _ _ _ _ _ _ _ op_ne (@pe_callB _ _ _ _ _ _ _ _ (rIsi K) call_isi rfl m_isinstance PyProof.Rows.boot_isinstance (@pa_cons _ _ _ _ _ (pv 0) (@pa_cons _ _ _ _ _ (pe_bltn (v := .ty "list") rfl m_list PyProof.Rows.boot_list rfl) pa_nil rfl) rfl) (by decide) (by decide) (by rfl) (by rfl)) (@pe_callB _ _ _ _ _ _ _ _ (rIsi K) call_isi rfl m_isinstance PyProof.Rows.boot_isinstance (@pa_cons _ _ _ _ _ (pv 1) (@pa_cons _ _ _ _ _ (pe_bltn (v := .ty "list") rfl m_list PyProof.Rows.boot_list rfl) pa_nil rfl) rfl) (by decide) (by decide) (by rfl) (by rfl)) (nomark _))))) (@pss_one _ _ _ (@ps_ret _ _ _ _ pe_bl)) pss_nil) (@pss_cons _ _ _ _ _ (@ps_if _ _ _ _ _ _ _ _ (@pt_cmpR _ _ _ _ _ _ _ _ op_ne (@pe_callB _ _ _ _ _ _ _ _ (rLen K) call_lenM rfl m_len PySem.boot_len (@pa_cons _ _ _ _ _ (pv 0) pa_nil rfl) (by decide) (by decide) (by rfl) (by rfl)) (@pe_callB _ _ _ _ _ _ _ _ (rLen K) call_lenM rfl m_len PySem.boot_len (@pa_cons _ _ _ _ _ (pv 1) pa_nil rfl) (by decide) (by decide) (by rfl) (by rfl)) (nomark _)) (@pss_one _ _ _ (@ps_ret _ _ _ _ pe_bl)) pss_nil) (@pss_one _ _ _ (@ps_ret _ _ _ _ (@pe_callB _ _ _ _ _ _ _ _ (rAll K) (call_allM rfl) rfl m_all PyProof.Rows.boot_all (@pa_cons _ _ _ _ _ (pe_lcomp (CompOk.of (show compOkB (defScope sLawAlike) ["found", "due"] _ ["k", "found", "due"] [none, some 0, some 1] = true by decide +kernel)) (@pi_range1 _ _ _ _ _ _ rfl m_range (@pa_cons _ _ _ _ _ (@pe_callB _ _ _ _ _ _ _ _ (rLen K) call_lenM rfl m_len PySem.boot_len (@pa_cons _ _ _ _ _ (pv 1) pa_nil rfl) (by decide) (by decide) (by rfl) (by rfl)) pa_nil rfl) (by rfl)) (fun _ _ _ _ => ⟨(pg_name (i := 0) (by show List.Nodup (["k", "found", "due"] : List Str); decide +kernel) rfl (Or.inl rfl)), pts_nil, (@pe_callC _ _ _ _ _ _ _ _ _ _ c__law_alike (hr.mono (Nat.le_refl _)) (@pa_cons _ _ _ _ _ (@pe_ix _ _ _ _ _ _ (rIx K) ix_seq (pv 1) (pv 0) (fun _ _ => rfl)) (@pa_cons _ _ _ _ _ (@pe_ix _ _ _ _ _ _ (rIx K) ix_seq (pv 2) (pv 0) (fun _ _ => rfl)) pa_nil rfl) rfl) (by rfl) (by decide) (by rfl) (by rfl))⟩)) pa_nil rfl) (by decide) (by decide) (by rfl) (by rfl)))))) pss_nil) (@pss_cons _ _ _ _ _ (@ps_if _ _ _ _ _ _ _ _ (PW.pt (pw_or (@pt_cmpR _ _ _ _ _ _ _ _ op_ne (@pe_callB _ _ _ _ _ _ _ _ (rIsi K) call_isi rfl m_isinstance PyProof.Rows.boot_isinstance (@pa_cons _ _ _ _ _ (pv 0) (@pa_cons _ _ _ _ _ (pe_bltn (v := .ty "bool") rfl m_bool PyProof.Rows.boot_bool rfl) pa_nil rfl) rfl) (by decide) (by decide) (by rfl) (by rfl)) (@pe_callB _ _ _ _ _ _ _ _ (rIsi K) call_isi rfl m_isinstance PyProof.Rows.boot_isinstance (@pa_cons _ _ _ _ _ (pv 1) (@pa_cons _ _ _ _ _ (pe_bltn (v := .ty "bool") rfl m_bool PyProof.Rows.boot_bool rfl) pa_nil rfl) rfl) (by decide) (by decide) (by rfl) (by rfl)) (nomark _)) (pw_or1 (@pt_cmpR _ _ _ _ _ _ _ _ op_ne (@pe_callB _ _ _ _ _ _ _ _ (rIsi K) call_isi rfl m_isinstance PyProof.Rows.boot_isinstance (@pa_cons _ _ _ _ _ (pv 0) (@pa_cons _ _ _ _ _ (pe_bltn (v := .ty "int") rfl m_int PyProof.Rows.boot_int rfl) pa_nil rfl) rfl) (by decide) (by decide) (by rfl) (by rfl)) (@pe_callB _ _ _ _ _ _ _ _ (rIsi K) call_isi rfl m_isinstance PyProof.Rows.boot_isinstance (@pa_cons _ _ _ _ _ (pv 1) (@pa_cons _ _ _ _ _ (pe_bltn (v := .ty "int") rfl m_int PyProof.Rows.boot_int rfl) pa_nil rfl) rfl) (by decide) (by decide) (by rfl) (by rfl)) (nomark _))))) (@pss_one _ _ _ (@ps_ret _ _ _ _ pe_bl)) pss_nil) (@pss_one _ _ _ (@ps_ret _ _ _ _ (@pe_and _ _ _ _ _ _ _ (@pe_cmpR _ _ _ _ _ _ _ _ op_eq (@pe_callB _ _ _ _ _ _ _ _ (rIsi K) call_isi rfl m_isinstance PyProof.Rows.boot_isinstance (@pa_cons _ _ _ _ _ (pv 0) (@pa_cons _ _ _ _ _ (pe_bltn (v := .ty "str") rfl m_str PyProof.Rows.boot_str rfl) pa_nil rfl) rfl) (by decide) (by decide) (by rfl) (by rfl)) (@pe_callB _ _ _ _ _ _ _ _ (rIsi K) call_isi rfl m_isinstance PyProof.Rows.boot_isinstance (@pa_cons _ _ _ _ _ (pv 1) (@pa_cons _ _ _ _ _ (pe_bltn (v := .ty "str") rfl m_str PyProof.Rows.boot_str rfl) pa_nil rfl) rfl) (by decide) (by decide) (by rfl) (by rfl)) (nomark _)) (@pe_one _ _ _ _ _ (@pe_cmpR _ _ _ _ _ _ _ _ op_eq (pv 0) (pv 1) (nomark _)))))))), ?_⟩
 refine Sv.enterD hlive hds hΦ (ρ := [.d false _, .d false _]) rfl ?_
 clear hΦ hds
 walk_at "dt"
 rcases hok with hs | ⟨ds, hd, hl, he⟩
 ·have h1 : (isiD d "list" || isiD d "tuple") = false := by cases d <;> first | rfl | cases hs
  rw [h1]
  walk_at "dt"
  rw [beq_self_eq_true]
  walk_at "dt"
  rw [beq_self_eq_true]
  walk_at "dt"
  rw [beq_self_eq_true]
  walk_at "dt"
  exact ⟨true, .self hs, q⟩
 rcases hd with rfl | rfl
 ·rw [(isi_list ds).1, (isi_list ds).2, Bool.true_or]
  walk_at "dt"
  refine EvN.ev (EvN.compR1 (by decide) rfl ?_)
  walk_at "dt"
  refine ⟨true, fun i es => es = List.replicate i (.bool true), rfl, ?_, ?_⟩
  ·rintro i d' es ⟨hi, rfl⟩ hl' rfl
   have hi' : i < ds.length := by omega
   have hat : atI ds (0 + (i : Int)) = some ds[i] := atI_some (by omega) (by rw [show (0 + (i : Int)).toNat = i by omega]; exact List.getElem?_eq_getElem hi')
   walk_at "dt"
   refine ⟨by walk_at "wk", ?_⟩
   walk_at "dt"
   refine Ev.callD (mono__law_alike n) ?_
   walk_at "dt"
   refine ⟨rfl, ds[i], rfl, he _ (List.getElem_mem hi'), fun _ => rfl, ?_⟩
   show _ = List.replicate (i + 1) _
   rw [List.replicate_succ']
  ·rintro es hl' rfl
   refine ⟨List.replicate ds.length true, by simp, ?_⟩
   rw [show (List.replicate ds.length true).all id = true by simp]
   exact q
 ·rw [(isi_tuple ds).1, (isi_tuple ds).2, Bool.false_or]
  walk_at "dt"
  refine EvN.ev (EvN.compR1 (by decide) rfl ?_)
  walk_at "dt"
  refine ⟨true, fun i es => es = List.replicate i (.bool true), rfl, ?_, ?_⟩
  ·rintro i d' es ⟨hi, rfl⟩ hl' rfl
   have hi' : i < ds.length := by omega
   have hat : atI ds (0 + (i : Int)) = some ds[i] := atI_some (by omega) (by rw [show (0 + (i : Int)).toNat = i by omega]; exact List.getElem?_eq_getElem hi')
   walk_at "dt"
   refine ⟨by walk_at "wk", ?_⟩
   walk_at "dt"
   refine Ev.callD (mono__law_alike n) ?_
   walk_at "dt"
   refine ⟨rfl, ds[i], rfl, he _ (List.getElem_mem hi'), fun _ => rfl, ?_⟩
   show _ = List.replicate (i + 1) _
   rw [List.replicate_succ']
  ·rintro es hl' rfl
   refine ⟨List.replicate ds.length true, by simp, ?_⟩
   rw [show (List.replicate ds.length true).all id = true by simp]
   exact q
def F__law_copy : DF := fun ds Φ => ∃ (p n : Int) (cs : List Prs), ds = [netD p n cs] /\ cs.length <= 10000 /\ ∀ f, Φ f (netD p n cs)
theorem mono__law_copy : MonoF F__law_copy := by
 intro ds Φ Ψ hm z
 obtain ⟨p, n, cs, e, h, q⟩ := hm
 exact ⟨p, n, cs, e, h, fun f => z _ _ (q f)⟩
theorem scLawCopy : FnScope ["net"] ["net"] (defScope sLawCopy) := ⟨rfl, rfl, rfl, by decide +kernel, rfl, by decide +kernel, by decide +kernel⟩
theorem ok__law_copy (F : Fun K "_law_copy" "_law_copy" sLawCopy f fd)  (m_list : mg "list" = none)  :
  FnOk P w K mg base CX0 1 f fd ["net"] (spD 1 F__law_copy) := by
 refine F.ok scLawCopy (fun vs H Q E h => h.1) (fun cdv A outer s H vs Q E hr h => ?_)
 obtain ⟨_, nb, ds, hlive, hds, hF⟩ := h
 obtain ⟨Φ, hΦ, hF⟩ : ∃ Φ : Pd, (∀ f d v H', Φ f d -> Same H H' -> IsD (fun a => nb a \/ (f = true /\ H a ≠ none)) H' d v -> Q v H') /\ F__law_copy ds Φ := ⟨_, fun f d v H' q => q v H', hF⟩
 obtain ⟨p, n, cs, rfl, hl, q⟩ := hF
 refine ⟨_, (@pss_one _ _ _ (@ps_ret _ _ _ _ (@pe_tup _ _ _ _ _ (@pa_cons _ _ _ _ _ (@pe_ix _ _ _ _ _ _ (rIxT K) ix_tup (pv 0) pe_int (fun _ _ => rfl)) (@pa_cons _ _ _ _ _ (@pe_ix _ _ _ _ _ _ (rIxT K) ix_tup (pv 0) pe_int (fun _ _ => rfl)) (@pa_cons _ _ _ _ _ (pe_lcomp (CompOk.of (show compOkB (defScope sLawCopy) ["net"] _ ["pairs"] [none] = true by decide +kernel)) (@pi_list _ _ _ _ (@pe_ix _ _ _ _ _ _ (rIxT K) ix_tup (pv 0) pe_int (fun _ _ => rfl))) (fun _ _ _ _ => ⟨(pg_name (i := 0) (by show List.Nodup (["pairs"] : List Str); decide +kernel) rfl (Or.inl rfl)), pts_nil, (@pe_callTy _ _ _ _ _ _ _ _ (rListOf K) call_listM rfl m_list PyProof.Rows.boot_list (@pa_cons _ _ _ _ _ (pv 0) pa_nil rfl) (by decide) (by decide) (by rfl) (by rfl))⟩)) pa_nil rfl) rfl) rfl)))), ?_⟩
 refine Sv.enterD hlive hds hΦ (ρ := [.d false _]) rfl ?_
 clear hΦ hds
 walk_at "dt"
 refine EvN.ev (EvN.compL (by decide) rfl ?_)
 walk_at "dt"
 refine ⟨by rw [List.length_map]; exact hl, fun v => ⟨false, fun i ds => ds = (cs.take i).map prsD, rfl, ?_, ?_⟩⟩
 ·rintro i d ds hd hl' rfl
  obtain ⟨prs, hprs, rfl⟩ := map_at hd
  walk_at "dt"
  refine ⟨by walk_at "wk", ?_⟩
  walk_at "dt"
  refine ⟨fun z => (by cases z), ?_⟩
  show _ = List.map _ _
  rw [take_snoc hprs, List.map_append]
  rfl
 ·rintro ds hl' rfl
  rw [List.length_map, List.take_length]
  walk_at "dt"
  exact q _
def F__law_word_put : DF := fun ds Φ => ∃ (p : Int) (xs ys : List Int), ds = [.int p, rowD xs, rowD ys] /\ 0 < p /\ p < 10 ^ 40 /\ ys.length = xs.length /\ xs.length <= 9000 /\ (∀ x ∈ xs, 0 <= x /\ x < p) /\ (∀ x ∈ ys, 0 <= x /\ x < p) /\ ∀ f, Φ f (rowD (shW p xs ys))
theorem mono__law_word_put : MonoF F__law_word_put := by
 intro ds Φ Ψ hm z
 obtain ⟨p, xs, ys, e, h1, h2, h3, h4, h5, h6, q⟩ := hm
 exact ⟨p, xs, ys, e, h1, h2, h3, h4, h5, h6, fun f => z _ _ (q f)⟩
theorem scLawWordPut : FnScope ["p", "one", "other"] ["p", "one", "other"] (defScope sLawWordPut) := ⟨rfl, rfl, rfl, by decide +kernel, rfl, by decide +kernel, by decide +kernel⟩
theorem ok__law_word_put (F : Fun K "_law_word_put" "_law_word_put" sLawWordPut f fd)  (m_range : mg "range" = none) (m_len : mg "len" = none)  :
  FnOk P w K mg base CX0 1 f fd ["p", "one", "other"] (spD 3 F__law_word_put) := by
 refine F.ok scLawWordPut (fun vs H Q E h => h.1) (fun cdv A outer s H vs Q E hr h => ?_)
 obtain ⟨_, nb, ds, hlive, hds, hF⟩ := h
 obtain ⟨Φ, hΦ, hF⟩ : ∃ Φ : Pd, (∀ f d v H', Φ f d -> Same H H' -> IsD (fun a => nb a \/ (f = true /\ H a ≠ none)) H' d v -> Q v H') /\ F__law_word_put ds Φ := ⟨_, fun f d v H' q => q v H', hF⟩
 obtain ⟨p, xs, ys, rfl, p0, p40, hl, hx9, hxs, hys, q⟩ := hF
 refine ⟨_, (@pss_one _ _ _ (@ps_ret _ _ _ _ (pe_lcomp (CompOk.of (show compOkB (defScope sLawWordPut) ["p", "one", "other"] _ ["k", "p", "one", "other"] [none, some 0, some 1, some 2] = true by decide +kernel)) (@pi_range1 _ _ _ _ _ _ rfl m_range (@pa_cons _ _ _ _ _ (@pe_callB _ _ _ _ _ _ _ _ (rLen K) call_lenM rfl m_len PySem.boot_len (@pa_cons _ _ _ _ _ (pv 1) pa_nil rfl) (by decide) (by decide) (by rfl) (by rfl)) pa_nil rfl) (by rfl)) (fun _ _ _ _ => ⟨(pg_name (i := 0) (by show List.Nodup (["k", "p", "one", "other"] : List Str); decide +kernel) rfl (Or.inl rfl)), pts_nil, (@pe_op _ _ _ _ _ _ _ _ op_mod (@pe_op _ _ _ _ _ _ _ _ op_add (@pe_ix _ _ _ _ _ _ (rIxL K) ix_list (pv 2) (pv 0) (fun _ _ => rfl)) (@pe_ix _ _ _ _ _ _ (rIxL K) ix_list (pv 3) (pv 0) (fun _ _ => rfl))) (pv 1))⟩)))), ?_⟩
 refine Sv.enterD hlive hds hΦ (ρ := [.d false _, .d false _, .d false _]) rfl ?_
 clear hΦ hds
 have hxm : (xs.map PyData.int).length = xs.length := List.length_map ..
 have hsl := shW_len (p := p) hl
 walk_at "dt"
 refine EvN.ev (EvN.compR1 (by decide) rfl ?_)
 walk_at "dt"
 refine ⟨false, fun j ds => ds = ((shW p xs ys).take j).map PyData.int, rfl, ?_, ?_⟩
 ·rintro i d ds ⟨hi, rfl⟩ hl' rfl
  have hix : i < xs.length := by omega
  have hiy : i < ys.length := by omega
  obtain ⟨x0, x1⟩ := hxs _ (List.getElem_mem hix)
  obtain ⟨y0, y1⟩ := hys _ (List.getElem_mem hiy)
  have a1 : atI (xs.map PyData.int) (0 + (i : Int)) = some (.int xs[i]) := atI_some (by omega) (by rw [show (0 + (i : Int)).toNat = i by omega, List.getElem?_map, List.getElem?_eq_getElem hix]; rfl)
  have a2 : atI (ys.map PyData.int) (0 + (i : Int)) = some (.int ys[i]) := atI_some (by omega) (by rw [show (0 + (i : Int)).toNat = i by omega, List.getElem?_map, List.getElem?_eq_getElem hiy]; rfl)
  have s1 : Sm xs[i] := by unfold Sm; omega
  have s2 : Sm ys[i] := by unfold Sm; omega
  have hat := shW_at (p := p) hl i
  rw [List.getElem?_eq_getElem hix, List.getD_eq_getElem?_getD, List.getElem?_eq_getElem hiy] at hat
  have hts := take_snoc hat
  walk_at "dt"
  refine ⟨by walk_at "wk", ?_⟩
  walk_at "dt"
  show _ = List.map _ (List.take (i + 1) _)
  rw [hts, List.map_append]
  show _ = _ ++ [PyData.int ((xs[i] + ys[i]) % p)]
  rfl
 rintro ds hl' rfl
 rw [show ((List.map PyData.int xs).length : Int).toNat = (shW p xs ys).length by omega, List.take_length]
 exact q _
def F__law_votes_put : DF := fun ds Φ => ∃ (p f : Int) (L rs : List Int), ds = [.int p, .list (rs.map fun r => pairD (r, (L.count r : Int))), .int f] /\ 0 < p /\ p < 10 ^ 40 /\ 0 <= f /\ f < p /\ L.length <= 62 /\ (∀ y ∈ L, 0 <= y /\ y < p) /\ rs.Pairwise (· < ·) /\ (∀ k, k ∈ rs ↔ k ∈ L) /\
 ∀ (qs : List (Int × Int)) (g : Bool), qs.Perm (rs.map fun r => (shX p f r, (L.count r : Int))) -> (qs.Pairwise fun c d => lexB d c = false) -> Φ g (.list (qs.map pairD))
theorem mono__law_votes_put : MonoF F__law_votes_put := by
 intro ds Φ Ψ hm z
 obtain ⟨p, f, L, rs, e, h1, h2, h3, h4, h5, h6, h7, h8, q⟩ := hm
 exact ⟨p, f, L, rs, e, h1, h2, h3, h4, h5, h6, h7, h8, fun qs g a b => z _ _ (q qs g a b)⟩
theorem scLawVotesPut : FnScope ["p", "some", "letter"] ["p", "some", "letter"] (defScope sLawVotesPut) := ⟨rfl, rfl, rfl, by decide +kernel, rfl, by decide +kernel, by decide +kernel⟩
theorem ok__law_votes_put (F : Fun K "_law_votes_put" "_law_votes_put" sLawVotesPut f fd)  (m_sorted : mg "sorted" = none)  :
  FnOk P w K mg base CX0 1 f fd ["p", "some", "letter"] (spD 3 F__law_votes_put) := by
 refine F.ok scLawVotesPut (fun vs H Q E h => h.1) (fun cdv A outer s H vs Q E hr h => ?_)
 obtain ⟨_, nb, ds, hlive, hds, hF⟩ := h
 obtain ⟨Φ, hΦ, hF⟩ : ∃ Φ : Pd, (∀ f d v H', Φ f d -> Same H H' -> IsD (fun a => nb a \/ (f = true /\ H a ≠ none)) H' d v -> Q v H') /\ F__law_votes_put ds Φ := ⟨_, fun f d v H' q => q v H', hF⟩
 obtain ⟨p, f, L, rs, rfl, p0, p40, f0, f1, hLl, hL, h1, h2, q⟩ := hF
 refine ⟨_, (@pss_one _ _ _ (@ps_ret _ _ _ _ (@pe_callB _ _ _ _ _ _ _ _ (rSortP K) call_sortP rfl m_sorted PyProof.Rows.boot_sorted (@pa_cons _ _ _ _ _ (pe_lcomp (CompOk.of (show compOkB (defScope sLawVotesPut) ["p", "some", "letter"] _ ["one", "many", "p", "letter"] [none, none, some 0, some 2] = true by decide +kernel)) (@pi_list _ _ _ _ (pv 1)) (fun _ _ _ _ => ⟨(@pg_tupM _ (K) _ _ _ (2) _ rfl rfl (@pgs_cons _ _ _ _ _ (pg_name (i := 0) (by show List.Nodup (["one", "many", "p", "letter"] : List Str); decide +kernel) rfl (Or.inl rfl)) (@pgs_cons _ _ _ _ _ (pg_name (i := 1) (by show List.Nodup (["one", "many", "p", "letter"] : List Str); decide +kernel) rfl (Or.inl rfl)) pgs_nil (by rfl)) (by rfl)) (by rfl) (by rfl)), pts_nil, (@pe_tup _ _ _ _ _ (@pa_cons _ _ _ _ _ (@pe_op _ _ _ _ _ _ _ _ op_mod (@pe_op _ _ _ _ _ _ _ _ op_add (pv 0) (pv 3)) (pv 2)) (@pa_cons _ _ _ _ _ (pv 1) pa_nil rfl) rfl))⟩)) pa_nil rfl) (by decide) (by decide) (by rfl) (by rfl)))), ?_⟩
 refine Sv.enterD hlive hds hΦ (ρ := [.d false _, .d false _, .d false _]) rfl ?_
 clear hΦ hds
 have hrm : (rs.map fun r => pairD (r, (L.count r : Int))).length = rs.length := List.length_map ..
 have hrl : rs.length <= 62 := by
  have := List.Nodup.length_le_of_subset (h1.imp fun {a b} h => by omega : rs.Nodup) fun k hk => (h2 k).mp hk
  omega
 refine Sv.ret ?_
 refine EvN.ev (EvN.sortP (EvN.ev (EvN.compL (by decide) rfl ?_)))
 walk_at "dt"
 refine fun v => ⟨false, fun j ds => ds = ((rs.take j).map fun r => (shX p f r, (L.count r : Int))).map pairD, rfl, ?_, ?_⟩
 ·rintro i d ds hd hl' rfl
  obtain ⟨r, hr, rfl⟩ := map_at hd
  obtain ⟨r0, r1⟩ := hL r ((h2 r).mp (List.mem_of_getElem? hr))
  have hts := take_snoc hr
  have s1 : Sm r := by unfold Sm; omega
  have s2 : Sm f := by unfold Sm; omega
  have hcx : L.count r <= L.length := List.count_le_length
  walk_at "dt"
  refine ⟨by walk_at "wk", ?_⟩
  walk_at "dt"
  refine ⟨(fun z => by cases z), ?_⟩
  show _ = List.map _ (List.map _ (List.take (i + 1) rs))
  rw [hts, List.map_append, List.map_append]
  rfl
 rintro ds hl' rfl
 rw [hrm, List.take_length]
 refine ⟨_, rfl, by rw [List.length_map]; omega, fun qs g hp hr => ?_⟩
 exact q qs _ hp hr
def F__law_turns_put : DF := fun ds Φ => ∃ (p : Int) (ts : List Trn) (ws : List Int), ds = [.int p, .list (ts.map trD), rowD ws] /\ 0 < p /\ p < 10 ^ 40 /\ ts.length <= 9000 /\ (∀ x ∈ ws, 0 <= x /\ x < p) /\ (∀ t ∈ ts, 0 <= t.1 /\ t.1 < ws.length /\ 0 <= t.2.1 /\ t.2.1 < p /\ 0 <= t.2.2 /\ t.2.2 < p) /\ ∀ f, Φ f (.list ((ts.map (shT p ws)).map trD))
theorem mono__law_turns_put : MonoF F__law_turns_put := by
 intro ds Φ Ψ hm z
 obtain ⟨p, xs, ys, e, h1, h2, h3, h4, h5, q⟩ := hm
 exact ⟨p, xs, ys, e, h1, h2, h3, h4, h5, fun f => z _ _ (q f)⟩
theorem scLawTurnsPut : FnScope ["p", "turns", "word"] ["p", "turns", "word"] (defScope sLawTurnsPut) := ⟨rfl, rfl, rfl, by decide +kernel, rfl, by decide +kernel, by decide +kernel⟩
theorem ok__law_turns_put (F : Fun K "_law_turns_put" "_law_turns_put" sLawTurnsPut f fd)    :
  FnOk P w K mg base CX0 1 f fd ["p", "turns", "word"] (spD 3 F__law_turns_put) := by
 refine F.ok scLawTurnsPut (fun vs H Q E h => h.1) (fun cdv A outer s H vs Q E hr h => ?_)
 obtain ⟨_, nb, ds, hlive, hds, hF⟩ := h
 obtain ⟨Φ, hΦ, hF⟩ : ∃ Φ : Pd, (∀ f d v H', Φ f d -> Same H H' -> IsD (fun a => nb a \/ (f = true /\ H a ≠ none)) H' d v -> Q v H') /\ F__law_turns_put ds Φ := ⟨_, fun f d v H' q => q v H', hF⟩
 obtain ⟨p, ts, ws, rfl, p0, p40, htl, hws, hts, q⟩ := hF
 refine ⟨_, (@pss_one _ _ _ (@ps_ret _ _ _ _ (pe_lcomp (CompOk.of (show compOkB (defScope sLawTurnsPut) ["p", "turns", "word"] _ ["place", "old", "new", "p", "word"] [none, none, none, some 0, some 2] = true by decide +kernel)) (@pi_list _ _ _ _ (pv 1)) (fun _ _ _ _ => ⟨(@pg_tupM _ (K) _ _ _ (3) _ rfl rfl (@pgs_cons _ _ _ _ _ (pg_name (i := 0) (by show List.Nodup (["place", "old", "new", "p", "word"] : List Str); decide +kernel) rfl (Or.inl rfl)) (@pgs_cons _ _ _ _ _ (pg_name (i := 1) (by show List.Nodup (["place", "old", "new", "p", "word"] : List Str); decide +kernel) rfl (Or.inl rfl)) (@pgs_cons _ _ _ _ _ (pg_name (i := 2) (by show List.Nodup (["place", "old", "new", "p", "word"] : List Str); decide +kernel) rfl (Or.inl rfl)) pgs_nil (by rfl)) (by rfl)) (by rfl)) (by rfl) (by rfl)), pts_nil, (@pe_tup _ _ _ _ _ (@pa_cons _ _ _ _ _ (pv 0) (@pa_cons _ _ _ _ _ (@pe_op _ _ _ _ _ _ _ _ op_mod (@pe_op _ _ _ _ _ _ _ _ op_add (pv 1) (@pe_ix _ _ _ _ _ _ (rIxL K) ix_list (pv 4) (pv 0) (fun _ _ => rfl))) (pv 3)) (@pa_cons _ _ _ _ _ (@pe_op _ _ _ _ _ _ _ _ op_mod (@pe_op _ _ _ _ _ _ _ _ op_add (pv 2) (@pe_ix _ _ _ _ _ _ (rIxL K) ix_list (pv 4) (pv 0) (fun _ _ => rfl))) (pv 3)) pa_nil rfl) rfl) rfl))⟩)))), ?_⟩
 refine Sv.enterD hlive hds hΦ (ρ := [.d false _, .d false _, .d false _]) rfl ?_
 clear hΦ hds
 have htm : (ts.map trD).length = ts.length := List.length_map ..
 walk_at "dt"
 refine EvN.ev (EvN.compL (by decide) rfl ?_)
 walk_at "dt"
 refine fun v => ⟨false, fun j ds => ds = ((ts.take j).map (shT p ws)).map trD, rfl, ?_, ?_⟩
 ·rintro i d ds hd hl' rfl
  obtain ⟨t, ht, rfl⟩ := map_at hd
  obtain ⟨t0, t1, o0, o1, n0, n1⟩ := hts t (List.mem_of_getElem? ht)
  have hk : t.1.toNat < ws.length := by omega
  obtain ⟨w0, w1⟩ := hws _ (List.getElem_mem hk)
  have a1 : atI (ws.map PyData.int) t.1 = some (.int ws[t.1.toNat]) := atI_some t0 (by rw [List.getElem?_map, List.getElem?_eq_getElem hk]; rfl)
  have s1 : Sm ws[t.1.toNat] := by unfold Sm; omega
  have s2 : Sm t.2.1 := by unfold Sm; omega
  have s3 : Sm t.2.2 := by unfold Sm; omega
  have hts := take_snoc ht
  have hg : ws.getD t.1.toNat 0 = ws[t.1.toNat] := by rw [List.getD_eq_getElem?_getD, List.getElem?_eq_getElem hk]; rfl
  walk_at "dt"
  refine ⟨by walk_at "wk", ?_⟩
  walk_at "dt"
  refine ⟨(fun z => by cases z), ?_⟩
  show _ = List.map _ (List.map _ (List.take (i + 1) ts))
  rw [hts, List.map_append, List.map_append]
  show _ = _ ++ [trD (shT p ws t)]
  unfold shT
  rw [hg]
  rfl
 rintro ds hl' rfl
 rw [htm, List.take_length]
 exact q _
def F__law_kinds : DF := fun ds Φ => ∃ (p : Int) (qs : List (Int × Int)), ds = [.int p, .list (qs.map pairD)] /\ 0 < p /\ p < 10 ^ 40 /\ qs.length <= 9000 /\ (∀ q ∈ qs, 0 <= q.1 /\ q.1 < p) /\ (qs.map (·.1)).Pairwise (· < ·) /\ Φ true (.bool true)
theorem mono__law_kinds : MonoF F__law_kinds := by
 intro ds Φ Ψ hm z
 obtain ⟨p, qs, e, h1, h2, h3, h4, h5, q⟩ := hm
 exact ⟨p, qs, e, h1, h2, h3, h4, h5, z _ _ q⟩
def lastQ (qs : List (Int × Int)) (i : Nat) : Int := if i = 0 then -1 else (qs.getD (i - 1) (0, 0)).1
theorem scLawKinds : FnScope ["p", "some", "last", "pair"] ["p", "some"] (defScope sLawKinds) := ⟨rfl, rfl, rfl, by decide +kernel, rfl, by decide +kernel, by decide +kernel⟩
theorem ok__law_kinds (F : Fun K "_law_kinds" "_law_kinds" sLawKinds f fd)  (m_isinstance : mg "isinstance" = none) (m_list : mg "list" = none) (m_tuple : mg "tuple" = none) (m_len : mg "len" = none) (m_int : mg "int" = none)  :
  FnOk P w K mg base CX0 1 f fd ["p", "some"] (spD 2 F__law_kinds) := by
 refine F.ok scLawKinds (fun vs H Q E h => h.1) (fun cdv A outer s H vs Q E hr h => ?_)
 obtain ⟨_, nb, ds, hlive, hds, hF⟩ := h
 obtain ⟨Φ, hΦ, hF⟩ : ∃ Φ : Pd, (∀ f d v H', Φ f d -> Same H H' -> IsD (fun a => nb a \/ (f = true /\ H a ≠ none)) H' d v -> Q v H') /\ F__law_kinds ds Φ := ⟨_, fun f d v H' q => q v H', hF⟩
 obtain ⟨p, qs, rfl, p0, p40, hql, hqs, hr, q⟩ := hF
 refine ⟨_, (@pss_cons _ _ _ _ _ (@ps_if _ _ _ _ _ _ _ _ (@pt_not _ _ _ _ (@pt_truthK _ (K) _ _ rfl (@pe_callB _ _ _ _ _ _ _ _ (rIsi K) call_isi rfl m_isinstance PyProof.Rows.boot_isinstance (@pa_cons _ _ _ _ _ (pv 1) (@pa_cons _ _ _ _ _ (pe_bltn (v := .ty "list") rfl m_list PyProof.Rows.boot_list rfl) pa_nil rfl) rfl) (by decide) (by decide) (by rfl) (by rfl)) (fun _ => rfl))) (@pss_one _ _ _ (@ps_ret _ _ _ _ pe_bl)) pss_nil) (@pss_cons _ _ _ _ _ (@ps_set _ _ (2) _ _ _ _ scLawKinds.nd rfl (Or.inl rfl) (@pe_un _ _ _ _ _ _ un_neg pe_int) (by rfl) (by first | exact .inl rfl | exact .inr rfl | assumption)) (@pss_cons _ _ _ _ _ (@ps_for _ _ _ _ _ _ _ _ PassesOwn.never rfl (@pi_list _ _ _ _ (pv 1)) (pg_name (i := 3) scLawKinds.nd rfl (Or.inl rfl)) (@pss_cons _ _ _ _ _ (@ps_if _ _ _ _ _ _ _ _ (PW.pt (pw_or (@pt_not _ _ _ _ (@pt_truthK _ (K) _ _ rfl (@pe_callB _ _ _ _ _ _ _ _ (rIsi K) call_isi rfl m_isinstance PyProof.Rows.boot_isinstance (@pa_cons _ _ _ _ _ (pv 3) (@pa_cons _ _ _ _ _ (pe_bltn (v := .ty "tuple") rfl m_tuple PyProof.Rows.boot_tuple rfl) pa_nil rfl) rfl) (by decide) (by decide) (by rfl) (by rfl)) (fun _ => rfl))) (pw_or (@pt_cmpR _ _ _ _ _ _ _ _ op_ne (@pe_callB _ _ _ _ _ _ _ _ (rLen K) call_lenM rfl m_len PySem.boot_len (@pa_cons _ _ _ _ _ (pv 3) pa_nil rfl) (by decide) (by decide) (by rfl) (by rfl)) pe_int (nomark _)) (pw_or (@pt_not _ _ _ _ (@pt_truthK _ (K) _ _ rfl (@pe_callB _ _ _ _ _ _ _ _ (rIsi K) call_isi rfl m_isinstance PyProof.Rows.boot_isinstance (@pa_cons _ _ _ _ _ (@pe_ix _ _ _ _ _ _ (rIxT K) ix_tup (pv 3) pe_int (fun _ _ => rfl)) (@pa_cons _ _ _ _ _ (pe_bltn (v := .ty "int") rfl m_int PyProof.Rows.boot_int rfl) pa_nil rfl) rfl) (by decide) (by decide) (by rfl) (by rfl)) (fun _ => rfl))) (pw_or1 (@pt_cmpR _ _ _ _ _ _ _ _ op_le (@pe_ix _ _ _ _ _ _ (rIxT K) ix_tup (pv 3) pe_int (fun _ _ => rfl)) (pv 2) (nomark _))))))) (@pss_one _ _ _ (@ps_ret _ _ _ _ pe_bl)) pss_nil) (@pss_one _ _ _ (@ps_set _ _ (2) _ _ _ _ scLawKinds.nd rfl (Or.inl rfl) (@pe_ix _ _ _ _ _ _ (rIxT K) ix_tup (pv 3) pe_int (fun _ _ => rfl)) (by rfl) (by first | exact .inl rfl | exact .inr rfl | assumption)))) (by intro _; rfl)) (@pss_one _ _ _ (@ps_ret _ _ _ _ (@pe_cmpR _ _ _ _ _ _ _ _ op_lt (pv 2) (pv 0) (nomark _))))))), ?_⟩
 refine Sv.enterD hlive hds hΦ (ρ := [.d false _, .d false _, .no, .no]) rfl ?_
 clear hΦ hds
 have hqm : (qs.map pairD).length = qs.length := List.length_map ..
 walk_at "dt"
 refine Sv.forL ?_
 walk_at "dt"
 refine fun v => ⟨fun i ρ => ∃ (x3 : Sl), ρ = [.d false (.int p), .d false (.list (qs.map pairD)), .d true (.int (lastQ qs i)), x3], ⟨_, rfl⟩, ?_, ?_⟩
 ·rintro i d ρ hd ⟨x3, rfl⟩
  obtain ⟨c, hc, rfl⟩ := map_at hd
  obtain ⟨c0, c1⟩ := hqs c (List.mem_of_getElem? hc)
  have hcl := (List.getElem?_eq_some_iff.mp hc).1
  have hlast : lastQ qs i < c.1 := by
   unfold lastQ
   split
   ·omega
   ·rename_i hi0
    rw [List.pairwise_map] at hr
    have h3 := List.pairwise_iff_getElem.mp hr (i - 1) i (by omega) hcl (by omega)
    rw [List.getD_eq_getElem?_getD, List.getElem?_eq_getElem (show i - 1 < qs.length by omega)]
    rw [(List.getElem?_eq_some_iff.mp hc).2] at h3
    exact h3
  walk_at "dt"
  refine ⟨.d false (pairD c), ?_⟩
  have e : lastQ qs (i + 1) = c.1 := by
   unfold lastQ
   rw [if_neg (by omega), Nat.add_sub_cancel, List.getD_eq_getElem?_getD, hc]
   rfl
  rw [e]
  rfl
 ·rintro ρ ⟨x3, rfl⟩
  walk_at "dt"
  have e : lastQ qs (qs.map pairD).length < p := by
   rw [hqm]
   unfold lastQ
   split
   ·omega
   ·have hlt : qs.length - 1 < qs.length := by omega
    rw [List.getD_eq_getElem?_getD, List.getElem?_eq_getElem hlt]
    exact (hqs _ (List.getElem_mem hlt)).2
  rw [decide_eq_true e]
  exact q
def F__law_both : DF := fun ds Φ => ∃ (p n : Int) (cs : List Prs) (fs ws : List Int) (m : Nat), ds = [netD p n cs, rowD fs, rowD ws, .int m] /\ VNet p n cs /\ cs.length <= 60 /\ n <= 60 /\ m <= 5000 /\ fs.length = n.toNat /\ ws.length = n.toNat /\ (∀ x ∈ fs, 0 <= x /\ x < p) /\ (∀ x ∈ ws, 0 <= x /\ x < p) /\ TrueW p cs fs /\ Φ true (.bool true)
theorem mono__law_both : MonoF F__law_both := by
 intro ds Φ Ψ hm z
 obtain ⟨p, n, cs, fs, ws, m, e, h1, h2, h3, h4, h5, h6, h7, h8, h9, q⟩ := hm
 exact ⟨p, n, cs, fs, ws, m, e, h1, h2, h3, h4, h5, h6, h7, h8, h9, z _ _ q⟩
theorem alike_row {n : Nat} {ws : List Int} (h : ws.length <= 10000) : alikeOk (n + 2) (rowD ws) := by
 refine .inr ⟨_, .inl rfl, by rw [List.length_map]; exact h, fun e he => ?_⟩
 obtain ⟨x, _, rfl⟩ := List.mem_map.mp he
 exact .inl rfl
theorem alike_trn {n : Nat} {ts : List Trn} (h : ts.length <= 10000) : alikeOk (n + 3) (.list (ts.map trD)) := by
 refine .inr ⟨_, .inl rfl, by rw [List.length_map]; exact h, fun e he => ?_⟩
 obtain ⟨t, _, rfl⟩ := List.mem_map.mp he
 refine .inr ⟨_, .inr rfl, by show 3 <= 10000; omega, fun e he => ?_⟩
 simp only [List.mem_cons, List.not_mem_nil, or_false] at he
 rcases he with rfl | rfl | rfl <;> exact .inl rfl
theorem alike_run {r : List Int × List (List Trn) × Str} (h1 : r.1.length <= 10000) (h2 : r.2.1.length <= 10000) (h3 : ∀ ts ∈ r.2.1, ts.length <= 10000) : alikeOk 5 (runD r) := by
 refine .inr ⟨_, .inr rfl, by show 3 <= 10000; omega, fun e he => ?_⟩
 simp only [List.mem_cons, List.not_mem_nil, or_false] at he
 rcases he with rfl | rfl | rfl
 ·exact alike_row h1
 ·refine .inr ⟨_, .inl rfl, by rw [List.length_map]; exact h2, fun e he => ?_⟩
  obtain ⟨ts, hts, rfl⟩ := List.mem_map.mp he
  exact alike_trn (h3 ts hts)
 ·refine .inr ⟨_, .inr rfl, by show 1 <= 10000; omega, fun e he => ?_⟩
  simp only [List.mem_cons, List.not_mem_nil, or_false] at he
  rw [he]
  exact .inl rfl
theorem scLawBoth : FnScope ["net", "first", "word", "most", "p", "put", "place", "some", "after", "turns", "due", "rounds", "end"] ["net", "first", "word", "most"] (defScope sLawBoth) := ⟨rfl, rfl, rfl, by decide +kernel, rfl, by decide +kernel, by decide +kernel⟩
theorem ok__law_both (F : Fun K "_law_both" "_law_both" sLawBoth f fd) (c__law_word_put : Callee P w K mg base "_law_word_put" 1 ["p", "one", "other"] (spD 3 F__law_word_put)) (c_turned : Callee P w K mg base "turned" 4 ["net", "word"] (spD 2 F_turned)) (c_voted : Callee P w K mg base "voted" 4 ["net", "word", "most"] (spD 3 F_voted)) (c__law_alike : Callee P w K mg base "_law_alike" 5 ["found", "due"] (spD 2 (F__law_alike 5))) (c_votes : Callee P w K mg base "votes" 4 ["net", "word", "place"] (spD 3 F_votes)) (c__law_copy : Callee P w K mg base "_law_copy" 1 ["net"] (spD 1 F__law_copy)) (c__law_turns_put : Callee P w K mg base "_law_turns_put" 1 ["p", "turns", "word"] (spD 3 F__law_turns_put)) (c__law_kinds : Callee P w K mg base "_law_kinds" 1 ["p", "some"] (spD 2 F__law_kinds)) (c__law_votes_put : Callee P w K mg base "_law_votes_put" 1 ["p", "some", "letter"] (spD 3 F__law_votes_put)) (m_range : mg "range" = none) (m_list : mg "list" = none)  :
  FnOk P w K mg base CX0 6 f fd ["net", "first", "word", "most"] (spD 4 F__law_both) := by
 refine F.ok scLawBoth (fun vs H Q E h => h.1) (fun cdv A outer s H vs Q E hr h => ?_)
 obtain ⟨_, nb, ds, hlive, hds, hF⟩ := h
 obtain ⟨Φ, hΦ, hF⟩ : ∃ Φ : Pd, (∀ f d v H', Φ f d -> Same H H' -> IsD (fun a => nb a \/ (f = true /\ H a ≠ none)) H' d v -> Q v H') /\ F__law_both ds Φ := ⟨_, fun f d v H' q => q v H', hF⟩
 obtain ⟨p, n, cs, fs, ws, m, rfl, hN, hc60, hn60, hm, hfl, hwl, hfs, hws, hT, q⟩ := hF
 refine ⟨_, (@pss_cons _ _ _ _ _ (@ps_set _ _ (4) _ _ _ _ scLawBoth.nd rfl (Or.inr rfl) (@pe_ix _ _ _ _ _ _ (rIxT K) ix_tup (pv 0) pe_int (fun _ _ => rfl)) (by rfl) (by first | exact .inl rfl | exact .inr rfl | assumption)) (@pss_cons _ _ _ _ _ (@ps_set _ _ (5) _ _ _ _ scLawBoth.nd rfl (Or.inl rfl) (@pe_callC _ _ _ _ _ _ _ _ _ _ c__law_word_put (hr.mono (by decide)) (@pa_cons _ _ _ _ _ (pv 4) (@pa_cons _ _ _ _ _ (pv 2) (@pa_cons _ _ _ _ _ (pv 1) pa_nil rfl) rfl) rfl) (by rfl) (by decide) (by rfl) (by rfl)) (by rfl) (by first | exact .inl rfl | exact .inr rfl | assumption)) (@pss_cons _ _ _ _ _ (@ps_for _ _ _ _ _ _ _ _ PassesOwn.never rfl (@pi_range1 _ _ _ _ _ _ rfl m_range (@pa_cons _ _ _ _ _ (@pe_ix _ _ _ _ _ _ (rIxT K) ix_tup (pv 0) pe_int (fun _ _ => rfl)) pa_nil rfl) (by rfl)) (pg_name (i := 6) scLawBoth.nd rfl (Or.inl rfl)) (@pss_cons _ _ _ _ _ (@ps_set _ _ (7) _ _ _ _ scLawBoth.nd rfl (Or.inl rfl) (@pe_callC _ _ _ _ _ _ _ _ _ _ c_votes (hr.mono (by decide)) (@pa_cons _ _ _ _ _ (@pe_callC _ _ _ _ _ _ _ _ _ _ c__law_copy (hr.mono (by decide)) (@pa_cons _ _ _ _ _ (pv 0) pa_nil rfl) (by rfl) (by decide) (by rfl) (by rfl)) (@pa_cons _ _ _ _ _ (@pe_callTy _ _ _ _ _ _ _ _ (rListOf K) call_listM rfl m_list PyProof.Rows.boot_list (@pa_cons _ _ _ _ _ (pv 2) pa_nil rfl) (by decide) (by decide) (by rfl) (by rfl)) (@pa_cons _ _ _ _ _ (pv 6) pa_nil rfl) rfl) rfl) (by rfl) (by decide) (by rfl) (by rfl)) (by rfl) (by first | exact .inl rfl | exact .inr rfl | assumption)) (@pss_cons _ _ _ _ _ (@ps_if _ _ _ _ _ _ _ _ (@pt_not _ _ _ _ (@pt_truthK _ (K) _ _ rfl (@pe_callC _ _ _ _ _ _ _ _ _ _ c__law_kinds (hr.mono (by decide)) (@pa_cons _ _ _ _ _ (pv 4) (@pa_cons _ _ _ _ _ (pv 7) pa_nil rfl) rfl) (by rfl) (by decide) (by rfl) (by rfl)) (fun _ => rfl))) (@pss_one _ _ _ (@ps_ret _ _ _ _ pe_bl)) pss_nil) (@pss_one _ _ _ (@ps_if _ _ _ _ _ _ _ _ (@pt_not _ _ _ _ (@pt_truthK _ (K) _ _ rfl (@pe_callC _ _ _ _ _ _ _ _ _ _ c__law_alike (hr.mono (by decide)) (@pa_cons _ _ _ _ _ (@pe_callC _ _ _ _ _ _ _ _ _ _ c_votes (hr.mono (by decide)) (@pa_cons _ _ _ _ _ (@pe_callC _ _ _ _ _ _ _ _ _ _ c__law_copy (hr.mono (by decide)) (@pa_cons _ _ _ _ _ (pv 0) pa_nil rfl) (by rfl) (by decide) (by rfl) (by rfl)) (@pa_cons _ _ _ _ _ (@pe_callTy _ _ _ _ _ _ _ _ (rListOf K) call_listM rfl m_list PyProof.Rows.boot_list (@pa_cons _ _ _ _ _ (pv 5) pa_nil rfl) (by decide) (by decide) (by rfl) (by rfl)) (@pa_cons _ _ _ _ _ (pv 6) pa_nil rfl) rfl) rfl) (by rfl) (by decide) (by rfl) (by rfl)) (@pa_cons _ _ _ _ _ (@pe_callC _ _ _ _ _ _ _ _ _ _ c__law_votes_put (hr.mono (by decide)) (@pa_cons _ _ _ _ _ (pv 4) (@pa_cons _ _ _ _ _ (pv 7) (@pa_cons _ _ _ _ _ (@pe_ix _ _ _ _ _ _ (rIxL K) ix_list (pv 1) (pv 6) (fun _ _ => rfl)) pa_nil rfl) rfl) rfl) (by rfl) (by decide) (by rfl) (by rfl)) pa_nil rfl) rfl) (by rfl) (by decide) (by rfl) (by rfl)) (fun _ => rfl))) (@pss_one _ _ _ (@ps_ret _ _ _ _ pe_bl)) pss_nil)))) (by intro _; rfl)) (@pss_cons _ _ _ _ _ (@ps_asg _ _ _ _ _ _ (@pe_callC _ _ _ _ _ _ _ _ _ _ c_turned (hr.mono (by decide)) (@pa_cons _ _ _ _ _ (@pe_callC _ _ _ _ _ _ _ _ _ _ c__law_copy (hr.mono (by decide)) (@pa_cons _ _ _ _ _ (pv 0) pa_nil rfl) (by rfl) (by decide) (by rfl) (by rfl)) (@pa_cons _ _ _ _ _ (@pe_callTy _ _ _ _ _ _ _ _ (rListOf K) call_listM rfl m_list PyProof.Rows.boot_list (@pa_cons _ _ _ _ _ (pv 2) pa_nil rfl) (by decide) (by decide) (by rfl) (by rfl)) pa_nil rfl) rfl) (by rfl) (by decide) (by rfl) (by rfl)) (@pg_tupM _ (K) _ _ _ (2) _ rfl rfl (@pgs_cons _ _ _ _ _ (pg_name (i := 8) scLawBoth.nd rfl (Or.inl rfl)) (@pgs_cons _ _ _ _ _ (pg_name (i := 9) scLawBoth.nd rfl (Or.inl rfl)) pgs_nil (by rfl)) (by rfl)) (by rfl) (by rfl)) (by rfl) (by rfl) (by rfl)) (@pss_cons _ _ _ _ _ (@ps_set _ _ (10) _ _ _ _ scLawBoth.nd rfl (Or.inl rfl) (@pe_tup _ _ _ _ _ (@pa_cons _ _ _ _ _ (@pe_callC _ _ _ _ _ _ _ _ _ _ c__law_word_put (hr.mono (by decide)) (@pa_cons _ _ _ _ _ (pv 4) (@pa_cons _ _ _ _ _ (pv 8) (@pa_cons _ _ _ _ _ (pv 1) pa_nil rfl) rfl) rfl) (by rfl) (by decide) (by rfl) (by rfl)) (@pa_cons _ _ _ _ _ (@pe_callC _ _ _ _ _ _ _ _ _ _ c__law_turns_put (hr.mono (by decide)) (@pa_cons _ _ _ _ _ (pv 4) (@pa_cons _ _ _ _ _ (pv 9) (@pa_cons _ _ _ _ _ (pv 1) pa_nil rfl) rfl) rfl) (by rfl) (by decide) (by rfl) (by rfl)) pa_nil rfl) rfl)) (by rfl) (by first | exact .inl rfl | exact .inr rfl | assumption)) (@pss_cons _ _ _ _ _ (@ps_if _ _ _ _ _ _ _ _ (@pt_not _ _ _ _ (@pt_truthK _ (K) _ _ rfl (@pe_callC _ _ _ _ _ _ _ _ _ _ c__law_alike (hr.mono (by decide)) (@pa_cons _ _ _ _ _ (@pe_callC _ _ _ _ _ _ _ _ _ _ c_turned (hr.mono (by decide)) (@pa_cons _ _ _ _ _ (@pe_callC _ _ _ _ _ _ _ _ _ _ c__law_copy (hr.mono (by decide)) (@pa_cons _ _ _ _ _ (pv 0) pa_nil rfl) (by rfl) (by decide) (by rfl) (by rfl)) (@pa_cons _ _ _ _ _ (@pe_callTy _ _ _ _ _ _ _ _ (rListOf K) call_listM rfl m_list PyProof.Rows.boot_list (@pa_cons _ _ _ _ _ (pv 5) pa_nil rfl) (by decide) (by decide) (by rfl) (by rfl)) pa_nil rfl) rfl) (by rfl) (by decide) (by rfl) (by rfl)) (@pa_cons _ _ _ _ _ (pv 10) pa_nil rfl) rfl) (by rfl) (by decide) (by rfl) (by rfl)) (fun _ => rfl))) (@pss_one _ _ _ (@ps_ret _ _ _ _ pe_bl)) pss_nil) (@pss_cons _ _ _ _ _ (@ps_asg _ _ _ _ _ _ (@pe_callC _ _ _ _ _ _ _ _ _ _ c_voted (hr.mono (by decide)) (@pa_cons _ _ _ _ _ (@pe_callC _ _ _ _ _ _ _ _ _ _ c__law_copy (hr.mono (by decide)) (@pa_cons _ _ _ _ _ (pv 0) pa_nil rfl) (by rfl) (by decide) (by rfl) (by rfl)) (@pa_cons _ _ _ _ _ (@pe_callTy _ _ _ _ _ _ _ _ (rListOf K) call_listM rfl m_list PyProof.Rows.boot_list (@pa_cons _ _ _ _ _ (pv 2) pa_nil rfl) (by decide) (by decide) (by rfl) (by rfl)) (@pa_cons _ _ _ _ _ (pv 3) pa_nil rfl) rfl) rfl) (by rfl) (by decide) (by rfl) (by rfl)) (@pg_tupM _ (K) _ _ _ (3) _ rfl rfl (@pgs_cons _ _ _ _ _ (pg_name (i := 8) scLawBoth.nd rfl (Or.inl rfl)) (@pgs_cons _ _ _ _ _ (pg_name (i := 11) scLawBoth.nd rfl (Or.inl rfl)) (@pgs_cons _ _ _ _ _ (pg_name (i := 12) scLawBoth.nd rfl (Or.inl rfl)) pgs_nil (by rfl)) (by rfl)) (by rfl)) (by rfl) (by rfl)) (by rfl) (by rfl) (by rfl)) (@pss_cons _ _ _ _ _ (@ps_set _ _ (10) _ _ _ _ scLawBoth.nd rfl (Or.inl rfl) (@pe_tup _ _ _ _ _ (@pa_cons _ _ _ _ _ (@pe_callC _ _ _ _ _ _ _ _ _ _ c__law_word_put (hr.mono (by decide)) (@pa_cons _ _ _ _ _ (pv 4) (@pa_cons _ _ _ _ _ (pv 8) (@pa_cons _ _ _ _ _ (pv 1) pa_nil rfl) rfl) rfl) (by rfl) (by decide) (by rfl) (by rfl)) (@pa_cons _ _ _ _ _ (pe_lcomp (CompOk.of (show compOkB (defScope sLawBoth) ["net", "first", "word", "most", "p", "put", "place", "some", "after", "turns", "due", "rounds", "end"] _ ["row", "first", "p"] [none, some 1, some 4] = true by decide +kernel)) (@pi_list _ _ _ _ (pv 11)) (fun _ _ _ _ => ⟨(pg_name (i := 0) (by show List.Nodup (["row", "first", "p"] : List Str); decide +kernel) rfl (Or.inl rfl)), pts_nil, (@pe_callC _ _ _ _ _ _ _ _ _ _ c__law_turns_put (hr.mono (by decide)) (@pa_cons _ _ _ _ _ (pv 2) (@pa_cons _ _ _ _ _ (pv 0) (@pa_cons _ _ _ _ _ (pv 1) pa_nil rfl) rfl) rfl) (by rfl) (by decide) (by rfl) (by rfl))⟩)) (@pa_cons _ _ _ _ _ (pv 12) pa_nil rfl) rfl) rfl)) (by rfl) (by first | exact .inl rfl | exact .inr rfl | assumption)) (@pss_one _ _ _ (@ps_ret _ _ _ _ (@pe_callC _ _ _ _ _ _ _ _ _ _ c__law_alike (hr.mono (by decide)) (@pa_cons _ _ _ _ _ (@pe_callC _ _ _ _ _ _ _ _ _ _ c_voted (hr.mono (by decide)) (@pa_cons _ _ _ _ _ (@pe_callC _ _ _ _ _ _ _ _ _ _ c__law_copy (hr.mono (by decide)) (@pa_cons _ _ _ _ _ (pv 0) pa_nil rfl) (by rfl) (by decide) (by rfl) (by rfl)) (@pa_cons _ _ _ _ _ (@pe_callTy _ _ _ _ _ _ _ _ (rListOf K) call_listM rfl m_list PyProof.Rows.boot_list (@pa_cons _ _ _ _ _ (pv 5) pa_nil rfl) (by decide) (by decide) (by rfl) (by rfl)) (@pa_cons _ _ _ _ _ (pv 3) pa_nil rfl) rfl) rfl) (by rfl) (by decide) (by rfl) (by rfl)) (@pa_cons _ _ _ _ _ (pv 10) pa_nil rfl) rfl) (by rfl) (by decide) (by rfl) (by rfl)))))))))))), ?_⟩
 refine Sv.enterD hlive hds hΦ (ρ := [.d false _, .d false _, .d false _, .d false _, .no, .no, .no, .no, .no, .no, .no, .no, .no]) rfl ?_
 clear hΦ hds
 have p2 := hN.hp.1
 have p40 := hN.p40
 have n0 := hN.n0
 have n1 := hN.n1
 have hfw : fs.length = ws.length := by omega
 have hpl := shW_len (p := p) hfw
 have hpr := shW_rg (p := p) (ws := ws) (fs := fs) (by omega)
 have hq : ∀ prs ∈ cs, PrsQ p ws.length prs := fun prs hprs => by rw [hwl]; exact hN.ok prs hprs
 walk_at "dt"
 refine Ev.callD mono__law_word_put ?_
 walk_at "dt"
 refine ⟨rfl, p, ws, fs, rfl, by omega, p40, hfw, by omega, hws, hfs, fun g => ?_⟩
 walk_at "dt"
 refine Sv.forR1 ?_
 walk_at "dt"
 refine ⟨fun i ρ => ∃ (x6 x7 : Sl), ρ = [.d false (netD p n cs), .d false (rowD fs), .d false (rowD ws), .d false (.int m), .d true (.int p), .d false (rowD (shW p ws fs)), x6, x7, .no, .no, .no, .no, .no], ⟨_, _, rfl⟩, ?_, ?_⟩
 ·rintro i d ρ ⟨hi, rfl⟩ ⟨x6, x7, rfl⟩
  have e0 : (0 + (i : Int)) = i := by omega
  have hif : i < fs.length := by omega
  obtain ⟨f0, f1⟩ := hfs _ (List.getElem_mem hif)
  have hfg : fs.getD i 0 = fs[i] := by rw [List.getD_eq_getElem?_getD, List.getElem?_eq_getElem hif]; rfl
  have a1 : atI (fs.map PyData.int) (i : Int) = some (.int (fs.getD i 0)) := atI_some (by omega) (by rw [Int.toNat_natCast, List.getElem?_map, List.getElem?_eq_getElem hif, hfg]; rfl)
  have hvs := votes_sh (p := p) (pl := i) hfw hq hT (by omega)
  obtain ⟨L, hL⟩ : ∃ L, votesL p cs ws (i : Int) = L := ⟨_, rfl⟩
  have hLr : ∀ y ∈ L, 0 <= y /\ y < p := by rw [<- hL]; exact votesL_rg (by omega)
  have hLl : L.length <= cs.length := by rw [<- hL]; exact votesL_len
  rw [hL] at hvs
  refine Gv.nameI ?_
  walk_at "dt"
  refine Ev.callD mono_votes ?_
  walk_at "dt"
  refine Ev.callD mono__law_copy ?_
  walk_at "dt"
  refine ⟨rfl, p, n, cs, rfl, by omega, fun fc => ?_⟩
  walk_at "dt"
  refine ⟨rfl, p, n, cs, ws, 0 + (i : Int), rfl, hN, by omega, hwl, hws, by omega, by omega, fun rs h1 h2 => ?_⟩
  rw [e0, hL] at h2 ⊢
  have hrl : rs.length <= L.length := List.Nodup.length_le_of_subset (h1.imp fun {a b} h => by omega : rs.Nodup) fun k hk => (h2 k).mp hk
  refine Gv.name ?_
  walk_at "dt"
  refine Ev.callD mono__law_kinds ?_
  walk_at "dt"
  refine ⟨rfl, p, rs.map fun r => (r, (L.count r : Int)), by show [_, PyData.list _] = _; rw [List.map_map]; rfl, by omega, p40, by rw [List.length_map]; omega, fun q hqm => ?_, ?_, ?_⟩
  ·obtain ⟨r, hr, rfl⟩ := List.mem_map.mp hqm
   exact hLr r ((h2 r).mp hr)
  ·rw [List.map_map]
   show (rs.map fun r => r).Pairwise _
   rw [List.map_id']
   exact h1
  walk_at "dt"
  refine Ev.callD (mono__law_alike 5) ?_
  walk_at "dt"
  refine Ev.callD mono_votes ?_
  walk_at "dt"
  refine Ev.callD mono__law_copy ?_
  walk_at "dt"
  refine ⟨rfl, p, n, cs, rfl, by omega, fun fc2 => ?_⟩
  walk_at "dt"
  refine ⟨rfl, p, n, cs, shW p ws fs, (i : Int), rfl, hN, by omega, by omega, hpr, by omega, by omega, fun ss g1 g2 => ?_⟩
  rw [hvs] at g2 ⊢
  have hsl : ss.length <= L.length := by
   have := List.Nodup.length_le_of_subset (g1.imp fun {a b} h => by omega : ss.Nodup) fun k hk => (g2 k).mp hk
   rw [List.length_map] at this
   exact this
  walk_at "dt"
  refine Ev.callD mono__law_votes_put ?_
  walk_at "dt"
  refine ⟨rfl, p, fs.getD i 0, L, rs, rfl, by omega, p40, by rw [hfg]; exact f0, by rw [hfg]; exact f1, by omega, hLr, h1, h2, fun qs g3 hpm hrs => ?_⟩
  rw [rise_votes hLr h1 h2 g1 g2 hpm hrs]
  walk_at "dt"
  refine ⟨rfl, _, by show [PyData.list _, PyData.list _] = _; rw [List.map_map]; rfl, ?_, ?_⟩
  ·refine .inr ⟨_, .inl rfl, by rw [List.length_map]; omega, fun e he => ?_⟩
   obtain ⟨x, _, rfl⟩ := List.mem_map.mp he
   refine .inr ⟨_, .inr rfl, by show 2 <= 10000; omega, fun e he => ?_⟩
   simp only [List.mem_cons, List.not_mem_nil, or_false] at he
   rcases he with rfl | rfl <;> exact .inl rfl
  walk_at "dt"
  exact ⟨_, _, rfl⟩
 ·rintro ρ ⟨x6, x7, rfl⟩
  have hq' : ∀ prs ∈ cs, PrsQ p ws.length prs := hq
  have htr := trnTo_sh (by omega) hfw hq hT hws n.toNat (by omega)
  have hpt := putT_sh (p := p) (trnTo p cs ws n.toNat) hfw
  have hti := trn_in (p := p) (cs := cs) (by omega) hwl hws
  obtain ⟨hr1, hr2⟩ := round_in (p := p) (cs := cs) (by omega) hwl hws
  obtain ⟨v1, v2, v3, v4⟩ := vrun_in (p := p) (cs := cs) (by omega) m hwl hws
  have hvr := vrun_sh (p := p) (cs := cs) (by omega) hN.ok hfl hT m hwl hws
  obtain ⟨TS, hTS⟩ : ∃ TS, trnTo p cs ws n.toNat = TS := ⟨_, rfl⟩
  rw [hTS] at htr hpt hti hr1 hr2
  have htl := hti.1
  refine Sv.seq ?_
  refine Sv.asg ?_
  refine Ev.callD mono_turned ?_
  walk_at "dt"
  refine Ev.callD mono__law_copy ?_
  walk_at "dt"
  refine ⟨rfl, p, n, cs, rfl, by omega, fun fc => ?_⟩
  walk_at "dt"
  refine ⟨rfl, p, n, cs, ws, rfl, hN, hwl, hws, ?_⟩
  rw [hTS]
  walk_at "dt"
  refine Ev.callD mono__law_word_put ?_
  walk_at "dt"
  refine ⟨rfl, p, putT ws TS, fs, rfl, by omega, p40, by omega, by omega, hr2, hfs, fun g1 => ?_⟩
  walk_at "dt"
  refine Ev.callD mono__law_turns_put ?_
  walk_at "dt"
  refine ⟨rfl, p, TS, fs, rfl, by omega, p40, by omega, hfs, fun t ht => by have := hti.2 t ht; omega, fun g2 => ?_⟩
  walk_at "dt"
  refine Ev.callD (mono__law_alike 5) ?_
  walk_at "dt"
  refine Ev.callD mono_turned ?_
  walk_at "dt"
  refine Ev.callD mono__law_copy ?_
  walk_at "dt"
  refine ⟨rfl, p, n, cs, rfl, by omega, fun fc2 => ?_⟩
  walk_at "dt"
  refine ⟨rfl, p, n, cs, shW p ws fs, rfl, hN, by omega, hpr, ?_⟩
  rw [htr, hpt]
  walk_at "dt"
  refine ⟨rfl, _, rfl, ?_, ?_⟩
  ·refine .inr ⟨_, .inr rfl, by show 2 <= 10000; omega, fun e he => ?_⟩
   simp only [List.map_cons, List.map_nil, List.mem_cons, List.not_mem_nil, or_false] at he
   rcases he with rfl | rfl
   ·exact alike_row (by rw [shW_len (by omega)]; omega)
   ·exact alike_trn (by rw [List.length_map]; omega)
  obtain ⟨R, hR⟩ : ∃ R, vrun p cs n.toNat m ws = R := ⟨_, rfl⟩
  rw [hR] at v1 v2 v3 v4 hvr
  walk_at "dt"
  refine Ev.callD mono_voted ?_
  walk_at "dt"
  refine Ev.callD mono__law_copy ?_
  walk_at "dt"
  refine ⟨rfl, p, n, cs, rfl, by omega, fun fc3 => ?_⟩
  walk_at "dt"
  refine ⟨rfl, p, n, cs, ws, m, rfl, hN, hm, hwl, hws, ?_⟩
  rw [hR]
  unfold runD
  walk_at "dt"
  refine Ev.callD mono__law_word_put ?_
  walk_at "dt"
  refine ⟨rfl, p, R.1, fs, rfl, by omega, p40, by omega, by omega, v2, hfs, fun g3 => ?_⟩
  walk_at "dt"
  have hrm : (R.2.1.map rndD).length = R.2.1.length := List.length_map ..
  refine EvN.ev (EvN.compL (by decide) rfl ?_)
  walk_at "dt"
  refine fun v => ⟨false, fun j ds => ds = ((R.2.1.take j).map fun ts => ts.map (shT p fs)).map rndD, rfl, ?_, ?_⟩
  ·rintro i d ds hd hl' rfl
   obtain ⟨ts, hts, rfl⟩ := map_at hd
   have hin := v4 ts (List.mem_of_getElem? hts)
   have hin1 := hin.1
   have htk := take_snoc hts
   refine Gv.nameF ?_
   refine ⟨by walk_at "wk", ?_⟩
   walk_at "dt"
   refine Ev.callD mono__law_turns_put ?_
   walk_at "dt"
   refine ⟨rfl, p, ts, fs, rfl, by omega, p40, by omega, hfs, fun t ht => by have := hin.2 t ht; omega, fun g4 => ?_⟩
   refine ⟨(fun z => by cases z), ?_⟩
   show _ = List.map _ (List.map _ (List.take (i + 1) R.2.1))
   rw [htk, List.map_append, List.map_append]
   rfl
  rintro ds hl' rfl
  rw [hrm, List.take_length]
  walk_at "dt"
  refine Ev.callD (mono__law_alike 5) ?_
  walk_at "dt"
  refine Ev.callD mono_voted ?_
  walk_at "dt"
  refine Ev.callD mono__law_copy ?_
  walk_at "dt"
  refine ⟨rfl, p, n, cs, rfl, by omega, fun fc4 => ?_⟩
  walk_at "dt"
  refine ⟨rfl, p, n, cs, shW p ws fs, m, rfl, hN, hm, by omega, hpr, ?_⟩
  rw [hvr]
  walk_at "dt"
  refine ⟨rfl, _, rfl, ?_, ?_⟩
  ·refine alike_run (r := (shW p R.1 fs, R.2.1.map fun ts => ts.map (shT p fs), R.2.2)) (by rw [shW_len (by omega)]; omega) (by rw [List.length_map]; omega) fun ts hts => ?_
   obtain ⟨t, ht, rfl⟩ := List.mem_map.mp hts
   have := (v4 t ht).1
   rw [List.length_map]
   omega
  exact q
theorem law_dummy : True := trivial
theorem scLaw : FnScope ["script", "bag", "most", "great", "p", "first", "net", "word"] ["script"] (defScope sLaw) := ⟨rfl, rfl, rfl, by decide +kernel, rfl, by decide +kernel, by decide +kernel⟩
theorem ok_law (F : Fun K "law" "law" sLaw f fd) (c__law_bag : Callee P w K mg base "_law_bag" 1 ["script"] (spBag K)) (c__law_draw : Callee P w K mg base "_law_draw" 2 ["bag", "many"] spDraw) (c__law_prime : Callee P w K mg base "_law_prime" 3 ["bag"] (spB 1 F__law_prime)) (c__law_letters : Callee P w K mg base "_law_letters" 3 ["bag", "p", "n"] (spB 3 F__law_letters)) (c__law_planted : Callee P w K mg base "_law_planted" 4 ["bag", "p", "word", "many", "wide"] (spB 5 F__law_planted)) (c__law_alike : Callee P w K mg base "_law_alike" 5 ["found", "due"] (spD 2 (F__law_alike 5))) (c__law_both : Callee P w K mg base "_law_both" 6 ["net", "first", "word", "most"] (spD 4 F__law_both)) (c_voted : Callee P w K mg base "voted" 4 ["net", "word", "most"] (spD 3 F_voted)) (c_turned : Callee P w K mg base "turned" 4 ["net", "word"] (spD 2 F_turned)) (c__law_copy : Callee P w K mg base "_law_copy" 1 ["net"] (spD 1 F__law_copy)) (m_len : mg "len" = none) (m_list : mg "list" = none)  :
  FnOk P w K mg base CX0 7 f fd ["script"] (spLaw K) := by
 refine F.ok scLaw (fun vs H Q E h => ?_) (fun cdv A outer s H vs Q E hr h => ?_)
 ·obtain ⟨a, ns, rfl, hS, hl, q⟩ := h
  rfl
 obtain ⟨a, ns, rfl, hS, hl, q⟩ := h
 refine ⟨_, (@pss_cons _ _ _ _ _ (@ps_set _ _ (1) _ _ _ _ scLaw.nd rfl (Or.inl rfl) (@pe_callC _ _ _ _ _ _ _ _ _ _ c__law_bag (hr.mono (by decide)) (@pa_cons _ _ _ _ _ (pv 0) pa_nil rfl) (by rfl) (by decide) (by rfl) (by rfl)) (by rfl) (by first | exact .inl rfl | exact .inr rfl | assumption)) (@pss_cons _ _ _ _ _ (@ps_set _ _ (2) _ _ _ _ scLaw.nd rfl (Or.inl rfl) (@pe_callC _ _ _ _ _ _ _ _ _ _ c__law_draw (hr.mono (by decide)) (@pa_cons _ _ _ _ _ (pv 1) (@pa_cons _ _ _ _ _ pe_int pa_nil rfl) rfl) (by rfl) (by decide) (by rfl) (by rfl)) (by rfl) (by first | exact .inl rfl | exact .inr rfl | assumption)) (@pss_cons _ _ _ _ _ (@ps_set _ _ (3) _ _ _ _ scLaw.nd rfl (Or.inl rfl) (@pe_op _ _ _ _ _ _ _ _ op_fdivS (@pe_callC _ _ _ _ _ _ _ _ _ _ c__law_draw (hr.mono (by decide)) (@pa_cons _ _ _ _ _ (pv 1) (@pa_cons _ _ _ _ _ pe_int pa_nil rfl) rfl) (by rfl) (by decide) (by rfl) (by rfl)) pe_int) (by rfl) (by first | exact .inl rfl | exact .inr rfl | assumption)) (@pss_cons _ _ _ _ _ (@ps_set _ _ (4) _ _ _ _ scLaw.nd rfl (Or.inl rfl) (@pe_callC _ _ _ _ _ _ _ _ _ _ c__law_prime (hr.mono (by decide)) (@pa_cons _ _ _ _ _ (pv 1) pa_nil rfl) (by rfl) (by decide) (by rfl) (by rfl)) (by rfl) (by first | exact .inl rfl | exact .inr rfl | assumption)) (@pss_cons _ _ _ _ _ (@ps_set _ _ (5) _ _ _ _ scLaw.nd rfl (Or.inl rfl) (@pe_callC _ _ _ _ _ _ _ _ _ _ c__law_letters (hr.mono (by decide)) (@pa_cons _ _ _ _ _ (pv 1) (@pa_cons _ _ _ _ _ (pv 4) (@pa_cons _ _ _ _ _ (@pe_op _ _ _ _ _ _ _ _ op_add pe_int (@pe_callC _ _ _ _ _ _ _ _ _ _ c__law_draw (hr.mono (by decide)) (@pa_cons _ _ _ _ _ (pv 1) (@pa_cons _ _ _ _ _ (@pe_ix _ _ _ _ _ _ (rIxL K) ix_list (@pe_lst _ _ _ _ (@pa_cons _ _ _ _ _ pe_int (@pa_cons _ _ _ _ _ pe_int pa_nil rfl) rfl)) (pv 3) (fun _ _ => rfl)) pa_nil rfl) rfl) (by rfl) (by decide) (by rfl) (by rfl))) pa_nil rfl) rfl) rfl) (by rfl) (by decide) (by rfl) (by rfl)) (by rfl) (by first | exact .inl rfl | exact .inr rfl | assumption)) (@pss_cons _ _ _ _ _ (@ps_set _ _ (6) _ _ _ _ scLaw.nd rfl (Or.inl rfl) (@pe_callC _ _ _ _ _ _ _ _ _ _ c__law_planted (hr.mono (by decide)) (@pa_cons _ _ _ _ _ (pv 1) (@pa_cons _ _ _ _ _ (pv 4) (@pa_cons _ _ _ _ _ (pv 5) (@pa_cons _ _ _ _ _ (@pe_callC _ _ _ _ _ _ _ _ _ _ c__law_draw (hr.mono (by decide)) (@pa_cons _ _ _ _ _ (pv 1) (@pa_cons _ _ _ _ _ (@pe_ix _ _ _ _ _ _ (rIxL K) ix_list (@pe_lst _ _ _ _ (@pa_cons _ _ _ _ _ pe_int (@pa_cons _ _ _ _ _ pe_int pa_nil rfl) rfl)) (pv 3) (fun _ _ => rfl)) pa_nil rfl) rfl) (by rfl) (by decide) (by rfl) (by rfl)) (@pa_cons _ _ _ _ _ (@pe_ix _ _ _ _ _ _ (rIxL K) ix_list (@pe_lst _ _ _ _ (@pa_cons _ _ _ _ _ pe_int (@pa_cons _ _ _ _ _ pe_int pa_nil rfl) rfl)) (pv 3) (fun _ _ => rfl)) pa_nil rfl) rfl) rfl) rfl) rfl) (by rfl) (by decide) (by rfl) (by rfl)) (by rfl) (by first | exact .inl rfl | exact .inr rfl | assumption)) (@pss_cons _ _ _ _ _ (@ps_set _ _ (7) _ _ _ _ scLaw.nd rfl (Or.inl rfl) (@pe_callC _ _ _ _ _ _ _ _ _ _ c__law_letters (hr.mono (by decide)) (@pa_cons _ _ _ _ _ (pv 1) (@pa_cons _ _ _ _ _ (pv 4) (@pa_cons _ _ _ _ _ (@pe_callB _ _ _ _ _ _ _ _ (rLen K) call_lenM rfl m_len PySem.boot_len (@pa_cons _ _ _ _ _ (pv 5) pa_nil rfl) (by decide) (by decide) (by rfl) (by rfl)) pa_nil rfl) rfl) rfl) (by rfl) (by decide) (by rfl) (by rfl)) (by rfl) (by first | exact .inl rfl | exact .inr rfl | assumption)) (@pss_cons _ _ _ _ _ (@ps_if _ _ _ _ _ _ _ _ (@pt_not _ _ _ _ (@pt_truthK _ (K) _ _ rfl (@pe_callC _ _ _ _ _ _ _ _ _ _ c__law_both (hr.mono (by decide)) (@pa_cons _ _ _ _ _ (pv 6) (@pa_cons _ _ _ _ _ (pv 5) (@pa_cons _ _ _ _ _ (pv 7) (@pa_cons _ _ _ _ _ (pv 2) pa_nil rfl) rfl) rfl) rfl) (by rfl) (by decide) (by rfl) (by rfl)) (fun _ => rfl))) (@pss_one _ _ _ (@ps_ret _ _ _ _ pe_bl)) pss_nil) (@pss_cons _ _ _ _ _ (@ps_if _ _ _ _ _ _ _ _ (@pt_not _ _ _ _ (@pt_truthK _ (K) _ _ rfl (@pe_callC _ _ _ _ _ _ _ _ _ _ c__law_alike (hr.mono (by decide)) (@pa_cons _ _ _ _ _ (@pe_callC _ _ _ _ _ _ _ _ _ _ c_turned (hr.mono (by decide)) (@pa_cons _ _ _ _ _ (@pe_callC _ _ _ _ _ _ _ _ _ _ c__law_copy (hr.mono (by decide)) (@pa_cons _ _ _ _ _ (pv 6) pa_nil rfl) (by rfl) (by decide) (by rfl) (by rfl)) (@pa_cons _ _ _ _ _ (@pe_callTy _ _ _ _ _ _ _ _ (rListOf K) call_listM rfl m_list PyProof.Rows.boot_list (@pa_cons _ _ _ _ _ (pv 5) pa_nil rfl) (by decide) (by decide) (by rfl) (by rfl)) pa_nil rfl) rfl) (by rfl) (by decide) (by rfl) (by rfl)) (@pa_cons _ _ _ _ _ (@pe_tup _ _ _ _ _ (@pa_cons _ _ _ _ _ (pv 5) (@pa_cons _ _ _ _ _ (@pe_lst _ _ _ _ pa_nil) pa_nil rfl) rfl)) pa_nil rfl) rfl) (by rfl) (by decide) (by rfl) (by rfl)) (fun _ => rfl))) (@pss_one _ _ _ (@ps_ret _ _ _ _ pe_bl)) pss_nil) (@pss_one _ _ _ (@ps_ret _ _ _ _ (@pe_callC _ _ _ _ _ _ _ _ _ _ c__law_alike (hr.mono (by decide)) (@pa_cons _ _ _ _ _ (@pe_callC _ _ _ _ _ _ _ _ _ _ c_voted (hr.mono (by decide)) (@pa_cons _ _ _ _ _ (@pe_callC _ _ _ _ _ _ _ _ _ _ c__law_copy (hr.mono (by decide)) (@pa_cons _ _ _ _ _ (pv 6) pa_nil rfl) (by rfl) (by decide) (by rfl) (by rfl)) (@pa_cons _ _ _ _ _ (@pe_callTy _ _ _ _ _ _ _ _ (rListOf K) call_listM rfl m_list PyProof.Rows.boot_list (@pa_cons _ _ _ _ _ (pv 5) pa_nil rfl) (by decide) (by decide) (by rfl) (by rfl)) (@pa_cons _ _ _ _ _ (pv 2) pa_nil rfl) rfl) rfl) (by rfl) (by decide) (by rfl) (by rfl)) (@pa_cons _ _ _ _ _ (@pe_tup _ _ _ _ _ (@pa_cons _ _ _ _ _ (pv 5) (@pa_cons _ _ _ _ _ (@pe_lst _ _ _ _ pa_nil) (@pa_cons _ _ _ _ _ (@pe_tup _ _ _ _ _ (@pa_cons _ _ _ _ _ pe_str pa_nil rfl)) pa_nil rfl) rfl) rfl)) pa_nil rfl) rfl) (by rfl) (by decide) (by rfl) (by rfl))))))))))))), ?_⟩
 walk_at "st"
 refine ⟨a, ns, rfl, hS, hl, fun b l H1 s1 f1 B1 => ?_⟩
 have hS1 := s1.seq hS
 have key : ∀ (t : TS) (D : Ends), (∀ H, D.rt (.bl true) H) -> Sv (lawG b l H1) [.raw (.ref a), .bag, .no, .no, .no, .no, .no, .no] t { nx := fun _ => False, rt := fun _ d => d = .bool true } -> t D [some (.ref a), some (.ref b), none, none, none, none, none, none] H1 := fun t D d2 h => h _ _ _ D (law_wdS (m := 6) B1) (law_endsR d2)
 refine R.gname ?_
 dsimp only
 refine key _ _ (fun H => ?_) ?_
 ·exact q _
 walk_at "dt"
 intro most m0 m1
 walk_at "dt"
 intro way y0 y1
 walk_at "dt"
 obtain ⟨k, ek, k0, k1⟩ : ∃ k : Int, way / 3 = k /\ 0 <= k /\ k < 2 := ⟨_, rfl, by omega, by omega⟩
 rw [ek]
 have pick : ∀ x y : Int, 1 <= x -> x <= 25 -> 1 <= y -> y <= 25 -> ∃ A : Int, atI ([.int x, .int y] : List PyData) k = some (.int A) /\ 1 <= A /\ A <= 25 := by
  intro x y _ _ _ _
  have : k = 0 \/ k = 1 := by omega
  rcases this with rfl | rfl
  ·exact ⟨x, rfl, by omega, by omega⟩
  ·exact ⟨y, rfl, by omega, by omega⟩
 obtain ⟨A, eA, A0, A1⟩ := pick 8 24 (by decide) (by decide) (by decide) (by decide)
 obtain ⟨B, eB, B0, B1'⟩ := pick 10 25 (by decide) (by decide) (by decide) (by decide)
 obtain ⟨C, eC, C0, C1⟩ := pick 4 10 (by decide) (by decide) (by decide) (by decide)
 walk_at "dt"
 refine Ev.callB mono__law_prime rfl ?_
 walk_at "dt"
 refine ⟨rfl, fun p hp p40 f => ?_⟩
 have p2 := hp.1
 have hpk : POk p := ⟨by omega, by omega⟩
 walk_at "dt"
 refine Ev.callB mono__law_letters rfl ?_
 walk_at "dt"
 intro r r0 r1
 walk_at "dt"
 refine ⟨rfl, p, 1 + r, rfl, hpk, by omega, by omega, fun fs hfl hfs => ?_⟩
 have hfm : (fs.map PyData.int).length = fs.length := List.length_map ..
 refine Gv.name ?_
 walk_at "dt"
 refine Ev.callB mono__law_planted rfl ?_
 walk_at "dt"
 intro c c0 c1
 walk_at "dt"
 refine ⟨rfl, p, c, C, fs, rfl, hp, p40, by omega, by omega, hfs, by omega, by omega, C0, by omega, fun cs g hcl hcs => ?_⟩
 obtain ⟨n, hn⟩ : ∃ n : Int, (fs.length : Int) = n := ⟨_, rfl⟩
 rw [hn]
 have hN : VNet p n cs := ⟨hp, p40, by omega, by omega, by omega, fun prs hprs => by have := (hcs prs hprs).1; rwa [show fs.length = n.toNat by omega] at this⟩
 have hT : TrueW p cs fs := fun prs hprs => (hcs prs hprs).2
 refine Gv.name ?_
 walk_at "dt"
 refine Ev.callB mono__law_letters rfl ?_
 walk_at "dt"
 refine ⟨rfl, p, n, by show [_, PyData.int ((fs.map PyData.int).length : Int)] = _; rw [hfm, hn], hpk, by omega, by omega, fun ws hwl hws => ?_⟩
 refine Gv.name ?_
 obtain ⟨m, rfl⟩ : ∃ m : Nat, most = m := ⟨most.toNat, by omega⟩
 walk_at "dt"
 refine Ev.callD mono__law_both ?_
 walk_at "dt"
 refine ⟨rfl, p, n, cs, fs, ws, m, rfl, hN, by omega, by omega, by omega, by omega, by omega, hfs, hws, hT, ?_⟩
 walk_at "dt"
 have ht0 := trn_true hfs hT n.toNat (by omega)
 refine Ev.callD (mono__law_alike 5) ?_
 walk_at "dt"
 refine Ev.callD mono_turned ?_
 walk_at "dt"
 refine Ev.callD mono__law_copy ?_
 walk_at "dt"
 refine ⟨rfl, p, n, cs, rfl, by omega, fun fc => ?_⟩
 walk_at "dt"
 refine ⟨rfl, p, n, cs, fs, rfl, hN, by omega, hfs, ?_⟩
 rw [ht0]
 walk_at "dt"
 refine ⟨rfl, _, rfl, ?_, ?_⟩
 ·refine .inr ⟨_, .inr rfl, by show 2 <= 10000; omega, fun e he => ?_⟩
  simp only [List.map_cons, List.map_nil, List.mem_cons, List.not_mem_nil, or_false] at he
  rcases he with rfl | rfl
  ·exact alike_row (ws := fs) (by omega)
  ·exact alike_trn (ts := []) (by show 0 <= 10000; omega)
 walk_at "dt"
 refine Ev.callD (mono__law_alike 5) ?_
 walk_at "dt"
 refine Ev.callD mono_voted ?_
 walk_at "dt"
 refine Ev.callD mono__law_copy ?_
 walk_at "dt"
 refine ⟨rfl, p, n, cs, rfl, by omega, fun fc => ?_⟩
 walk_at "dt"
 refine ⟨rfl, p, n, cs, fs, m, rfl, hN, by omega, by omega, hfs, ?_⟩
 rw [vrun_held (brk_true hT)]
 walk_at "dt"
 refine ⟨rfl, _, rfl, ?_, ?_⟩
 ·exact alike_run (r := (fs, [], Str.ofString "held")) (by show fs.length <= _; omega) (by show 0 <= 10000; omega) (fun _ h => nomatch h)
 rfl
end
theorem all_mk {l : PySem.W.OpenLaw} {w : World} {K : PySem.W.Frag} {h : Heap} {mg : Str -> Option Value} {fa : Addr} {f0 f1 f2 f3 f4 f5 f6 f7 f8 f9 f10 f11 f12 f13 f14 f15 f16 f17 f18 f19 f20 f21 f22 f23 f24 f25 f26 f27 f28 f29 f30 : Addr} (X : K.In h) (G : h.Ns mainGlobals mg) (hfa : mg "law" = some (.ref fa))
  {od0 an0 : Option Addr} {sl0 : Array (Option Value)} {oc0 kV0 dc0 pm0 cd0 ct0 : Value} {od1 an1 : Option Addr} {sl1 : Array (Option Value)} {oc1 kV1 dc1 pm1 cd1 ct1 : Value} {od2 an2 : Option Addr} {sl2 : Array (Option Value)} {oc2 kV2 dc2 pm2 cd2 ct2 : Value} {od3 an3 : Option Addr} {sl3 : Array (Option Value)} {oc3 kV3 dc3 pm3 cd3 ct3 : Value} {od4 an4 : Option Addr} {sl4 : Array (Option Value)} {oc4 kV4 dc4 pm4 cd4 ct4 : Value} {od5 an5 : Option Addr} {sl5 : Array (Option Value)} {oc5 kV5 dc5 pm5 cd5 ct5 : Value} {od6 an6 : Option Addr} {sl6 : Array (Option Value)} {oc6 kV6 dc6 pm6 cd6 ct6 : Value} {od7 an7 : Option Addr} {sl7 : Array (Option Value)} {oc7 kV7 dc7 pm7 cd7 ct7 : Value} {od8 an8 : Option Addr} {sl8 : Array (Option Value)} {oc8 kV8 dc8 pm8 cd8 ct8 : Value} {od9 an9 : Option Addr} {sl9 : Array (Option Value)} {oc9 kV9 dc9 pm9 cd9 ct9 : Value} {od10 an10 : Option Addr} {sl10 : Array (Option Value)} {oc10 kV10 dc10 pm10 cd10 ct10 : Value} {od11 an11 : Option Addr} {sl11 : Array (Option Value)} {oc11 kV11 dc11 pm11 cd11 ct11 : Value} {od12 an12 : Option Addr} {sl12 : Array (Option Value)} {oc12 kV12 dc12 pm12 cd12 ct12 : Value} {od13 an13 : Option Addr} {sl13 : Array (Option Value)} {oc13 kV13 dc13 pm13 cd13 ct13 : Value} {od14 an14 : Option Addr} {sl14 : Array (Option Value)} {oc14 kV14 dc14 pm14 cd14 ct14 : Value} {od15 an15 : Option Addr} {sl15 : Array (Option Value)} {oc15 kV15 dc15 pm15 cd15 ct15 : Value} {od16 an16 : Option Addr} {sl16 : Array (Option Value)} {oc16 kV16 dc16 pm16 cd16 ct16 : Value} {od17 an17 : Option Addr} {sl17 : Array (Option Value)} {oc17 kV17 dc17 pm17 cd17 ct17 : Value} {od18 an18 : Option Addr} {sl18 : Array (Option Value)} {oc18 kV18 dc18 pm18 cd18 ct18 : Value} {od19 an19 : Option Addr} {sl19 : Array (Option Value)} {oc19 kV19 dc19 pm19 cd19 ct19 : Value} {od20 an20 : Option Addr} {sl20 : Array (Option Value)} {oc20 kV20 dc20 pm20 cd20 ct20 : Value} {od21 an21 : Option Addr} {sl21 : Array (Option Value)} {oc21 kV21 dc21 pm21 cd21 ct21 : Value} {od22 an22 : Option Addr} {sl22 : Array (Option Value)} {oc22 kV22 dc22 pm22 cd22 ct22 : Value} {od23 an23 : Option Addr} {sl23 : Array (Option Value)} {oc23 kV23 dc23 pm23 cd23 ct23 : Value} {od24 an24 : Option Addr} {sl24 : Array (Option Value)} {oc24 kV24 dc24 pm24 cd24 ct24 : Value} {od25 an25 : Option Addr} {sl25 : Array (Option Value)} {oc25 kV25 dc25 pm25 cd25 ct25 : Value} {od26 an26 : Option Addr} {sl26 : Array (Option Value)} {oc26 kV26 dc26 pm26 cd26 ct26 : Value} {od27 an27 : Option Addr} {sl27 : Array (Option Value)} {oc27 kV27 dc27 pm27 cd27 ct27 : Value} {od28 an28 : Option Addr} {sl28 : Array (Option Value)} {oc28 kV28 dc28 pm28 cd28 ct28 : Value} {od29 an29 : Option Addr} {sl29 : Array (Option Value)} {oc29 kV29 dc29 pm29 cd29 ct29 : Value} {od30 an30 : Option Addr} {sl30 : Array (Option Value)} {oc30 kV30 dc30 pm30 cd30 ct30 : Value}
  (a0 : PySem.W.nsIn K mainGlobals "inverse" = some (some (.ref f0))) (l0 : K.lookup f0 = some ⟨oc0, od0, .func (PySem.W.fnOf "inverse" "inverse" (defArgs sInverse) (defBody sInverse) (defScope sInverse) .none kV0 dc0 pm0 an0 cd0 ct0), sl0⟩) (c0 : PySem.W.codeIn K cd0 "inverse" = true) (k0 : PySem.W.keepIn K (.ref f0) = true)
  (a1 : PySem.W.nsIn K mainGlobals "total" = some (some (.ref f1))) (l1 : K.lookup f1 = some ⟨oc1, od1, .func (PySem.W.fnOf "total" "total" (defArgs sTotal) (defBody sTotal) (defScope sTotal) .none kV1 dc1 pm1 an1 cd1 ct1), sl1⟩) (c1 : PySem.W.codeIn K cd1 "total" = true) (k1 : PySem.W.keepIn K (.ref f1) = true)
  (a2 : PySem.W.nsIn K mainGlobals "sums" = some (some (.ref f2))) (l2 : K.lookup f2 = some ⟨oc2, od2, .func (PySem.W.fnOf "sums" "sums" (defArgs sSums) (defBody sSums) (defScope sSums) .none kV2 dc2 pm2 an2 cd2 ct2), sl2⟩) (c2 : PySem.W.codeIn K cd2 "sums" = true) (k2 : PySem.W.keepIn K (.ref f2) = true)
  (a3 : PySem.W.nsIn K mainGlobals "sum_of" = some (some (.ref f3))) (l3 : K.lookup f3 = some ⟨oc3, od3, .func (PySem.W.fnOf "sum_of" "sum_of" (defArgs sSumOf) (defBody sSumOf) (defScope sSumOf) .none kV3 dc3 pm3 an3 cd3 ct3), sl3⟩) (c3 : PySem.W.codeIn K cd3 "sum_of" = true) (k3 : PySem.W.keepIn K (.ref f3) = true)
  (a4 : PySem.W.nsIn K mainGlobals "voices" = some (some (.ref f4))) (l4 : K.lookup f4 = some ⟨oc4, od4, .func (PySem.W.fnOf "voices" "voices" (defArgs sVoices) (defBody sVoices) (defScope sVoices) .none kV4 dc4 pm4 an4 cd4 ct4), sl4⟩) (c4 : PySem.W.codeIn K cd4 "voices" = true) (k4 : PySem.W.keepIn K (.ref f4) = true)
  (a5 : PySem.W.nsIn K mainGlobals "all_voices" = some (some (.ref f5))) (l5 : K.lookup f5 = some ⟨oc5, od5, .func (PySem.W.fnOf "all_voices" "all_voices" (defArgs sAllVoices) (defBody sAllVoices) (defScope sAllVoices) .none kV5 dc5 pm5 an5 cd5 ct5), sl5⟩) (c5 : PySem.W.codeIn K cd5 "all_voices" = true) (k5 : PySem.W.keepIn K (.ref f5) = true)
  (a6 : PySem.W.nsIn K mainGlobals "counts_of" = some (some (.ref f6))) (l6 : K.lookup f6 = some ⟨oc6, od6, .func (PySem.W.fnOf "counts_of" "counts_of" (defArgs sCountsOf) (defBody sCountsOf) (defScope sCountsOf) .none kV6 dc6 pm6 an6 cd6 ct6), sl6⟩) (c6 : PySem.W.codeIn K cd6 "counts_of" = true) (k6 : PySem.W.keepIn K (.ref f6) = true)
  (a7 : PySem.W.nsIn K mainGlobals "votes" = some (some (.ref f7))) (l7 : K.lookup f7 = some ⟨oc7, od7, .func (PySem.W.fnOf "votes" "votes" (defArgs sVotes) (defBody sVotes) (defScope sVotes) .none kV7 dc7 pm7 an7 cd7 ct7), sl7⟩) (c7 : PySem.W.codeIn K cd7 "votes" = true) (k7 : PySem.W.keepIn K (.ref f7) = true)
  (a8 : PySem.W.nsIn K mainGlobals "turns_of" = some (some (.ref f8))) (l8 : K.lookup f8 = some ⟨oc8, od8, .func (PySem.W.fnOf "turns_of" "turns_of" (defArgs sTurnsOf) (defBody sTurnsOf) (defScope sTurnsOf) .none kV8 dc8 pm8 an8 cd8 ct8), sl8⟩) (c8 : PySem.W.codeIn K cd8 "turns_of" = true) (k8 : PySem.W.keepIn K (.ref f8) = true)
  (a9 : PySem.W.nsIn K mainGlobals "turned" = some (some (.ref f9))) (l9 : K.lookup f9 = some ⟨oc9, od9, .func (PySem.W.fnOf "turned" "turned" (defArgs sTurned) (defBody sTurned) (defScope sTurned) .none kV9 dc9 pm9 an9 cd9 ct9), sl9⟩) (c9 : PySem.W.codeIn K cd9 "turned" = true) (k9 : PySem.W.keepIn K (.ref f9) = true)
  (a10 : PySem.W.nsIn K mainGlobals "with_turns" = some (some (.ref f10))) (l10 : K.lookup f10 = some ⟨oc10, od10, .func (PySem.W.fnOf "with_turns" "with_turns" (defArgs sWithTurns) (defBody sWithTurns) (defScope sWithTurns) .none kV10 dc10 pm10 an10 cd10 ct10), sl10⟩) (c10 : PySem.W.codeIn K cd10 "with_turns" = true) (k10 : PySem.W.keepIn K (.ref f10) = true)
  (a11 : PySem.W.nsIn K mainGlobals "voted" = some (some (.ref f11))) (l11 : K.lookup f11 = some ⟨oc11, od11, .func (PySem.W.fnOf "voted" "voted" (defArgs sVoted) (defBody sVoted) (defScope sVoted) .none kV11 dc11 pm11 an11 cd11 ct11), sl11⟩) (c11 : PySem.W.codeIn K cd11 "voted" = true) (k11 : PySem.W.keepIn K (.ref f11) = true)
  (a12 : PySem.W.nsIn K mainGlobals "broken_of" = some (some (.ref f12))) (l12 : K.lookup f12 = some ⟨oc12, od12, .func (PySem.W.fnOf "broken_of" "broken_of" (defArgs sBrokenOf) (defBody sBrokenOf) (defScope sBrokenOf) .none kV12 dc12 pm12 an12 cd12 ct12), sl12⟩) (c12 : PySem.W.codeIn K cd12 "broken_of" = true) (k12 : PySem.W.keepIn K (.ref f12) = true)
  (a13 : PySem.W.nsIn K mainGlobals "_law_bag" = some (some (.ref f13))) (l13 : K.lookup f13 = some ⟨oc13, od13, .func (PySem.W.fnOf "_law_bag" "_law_bag" (defArgs sLawBag) (defBody sLawBag) (defScope sLawBag) .none kV13 dc13 pm13 an13 cd13 ct13), sl13⟩) (c13 : PySem.W.codeIn K cd13 "_law_bag" = true) (k13 : PySem.W.keepIn K (.ref f13) = true)
  (a14 : PySem.W.nsIn K mainGlobals "_law_stirred" = some (some (.ref f14))) (l14 : K.lookup f14 = some ⟨oc14, od14, .func (PySem.W.fnOf "_law_stirred" "_law_stirred" (defArgs sLawStirred) (defBody sLawStirred) (defScope sLawStirred) .none kV14 dc14 pm14 an14 cd14 ct14), sl14⟩) (c14 : PySem.W.codeIn K cd14 "_law_stirred" = true) (k14 : PySem.W.keepIn K (.ref f14) = true)
  (a15 : PySem.W.nsIn K mainGlobals "_law_draw" = some (some (.ref f15))) (l15 : K.lookup f15 = some ⟨oc15, od15, .func (PySem.W.fnOf "_law_draw" "_law_draw" (defArgs sLawDraw) (defBody sLawDraw) (defScope sLawDraw) .none kV15 dc15 pm15 an15 cd15 ct15), sl15⟩) (c15 : PySem.W.codeIn K cd15 "_law_draw" = true) (k15 : PySem.W.keepIn K (.ref f15) = true)
  (a16 : PySem.W.nsIn K mainGlobals "_law_prime_from" = some (some (.ref f16))) (l16 : K.lookup f16 = some ⟨oc16, od16, .func (PySem.W.fnOf "_law_prime_from" "_law_prime_from" (defArgs sLawPrimeFrom) (defBody sLawPrimeFrom) (defScope sLawPrimeFrom) .none kV16 dc16 pm16 an16 cd16 ct16), sl16⟩) (c16 : PySem.W.codeIn K cd16 "_law_prime_from" = true) (k16 : PySem.W.keepIn K (.ref f16) = true)
  (a17 : PySem.W.nsIn K mainGlobals "_law_prime" = some (some (.ref f17))) (l17 : K.lookup f17 = some ⟨oc17, od17, .func (PySem.W.fnOf "_law_prime" "_law_prime" (defArgs sLawPrime) (defBody sLawPrime) (defScope sLawPrime) .none kV17 dc17 pm17 an17 cd17 ct17), sl17⟩) (c17 : PySem.W.codeIn K cd17 "_law_prime" = true) (k17 : PySem.W.keepIn K (.ref f17) = true)
  (a18 : PySem.W.nsIn K mainGlobals "_law_letters" = some (some (.ref f18))) (l18 : K.lookup f18 = some ⟨oc18, od18, .func (PySem.W.fnOf "_law_letters" "_law_letters" (defArgs sLawLetters) (defBody sLawLetters) (defScope sLawLetters) .none kV18 dc18 pm18 an18 cd18 ct18), sl18⟩) (c18 : PySem.W.codeIn K cd18 "_law_letters" = true) (k18 : PySem.W.keepIn K (.ref f18) = true)
  (a19 : PySem.W.nsIn K mainGlobals "_law_over" = some (some (.ref f19))) (l19 : K.lookup f19 = some ⟨oc19, od19, .func (PySem.W.fnOf "_law_over" "_law_over" (defArgs sLawOver) (defBody sLawOver) (defScope sLawOver) .none kV19 dc19 pm19 an19 cd19 ct19), sl19⟩) (c19 : PySem.W.codeIn K cd19 "_law_over" = true) (k19 : PySem.W.keepIn K (.ref f19) = true)
  (a20 : PySem.W.nsIn K mainGlobals "_law_sum" = some (some (.ref f20))) (l20 : K.lookup f20 = some ⟨oc20, od20, .func (PySem.W.fnOf "_law_sum" "_law_sum" (defArgs sLawSum) (defBody sLawSum) (defScope sLawSum) .none kV20 dc20 pm20 an20 cd20 ct20), sl20⟩) (c20 : PySem.W.codeIn K cd20 "_law_sum" = true) (k20 : PySem.W.keepIn K (.ref f20) = true)
  (a21 : PySem.W.nsIn K mainGlobals "_law_planted_check" = some (some (.ref f21))) (l21 : K.lookup f21 = some ⟨oc21, od21, .func (PySem.W.fnOf "_law_planted_check" "_law_planted_check" (defArgs sLawPlantedCheck) (defBody sLawPlantedCheck) (defScope sLawPlantedCheck) .none kV21 dc21 pm21 an21 cd21 ct21), sl21⟩) (c21 : PySem.W.codeIn K cd21 "_law_planted_check" = true) (k21 : PySem.W.keepIn K (.ref f21) = true)
  (a22 : PySem.W.nsIn K mainGlobals "_law_planted" = some (some (.ref f22))) (l22 : K.lookup f22 = some ⟨oc22, od22, .func (PySem.W.fnOf "_law_planted" "_law_planted" (defArgs sLawPlanted) (defBody sLawPlanted) (defScope sLawPlanted) .none kV22 dc22 pm22 an22 cd22 ct22), sl22⟩) (c22 : PySem.W.codeIn K cd22 "_law_planted" = true) (k22 : PySem.W.keepIn K (.ref f22) = true)
  (a23 : PySem.W.nsIn K mainGlobals "_law_alike" = some (some (.ref f23))) (l23 : K.lookup f23 = some ⟨oc23, od23, .func (PySem.W.fnOf "_law_alike" "_law_alike" (defArgs sLawAlike) (defBody sLawAlike) (defScope sLawAlike) .none kV23 dc23 pm23 an23 cd23 ct23), sl23⟩) (c23 : PySem.W.codeIn K cd23 "_law_alike" = true) (k23 : PySem.W.keepIn K (.ref f23) = true)
  (a24 : PySem.W.nsIn K mainGlobals "_law_copy" = some (some (.ref f24))) (l24 : K.lookup f24 = some ⟨oc24, od24, .func (PySem.W.fnOf "_law_copy" "_law_copy" (defArgs sLawCopy) (defBody sLawCopy) (defScope sLawCopy) .none kV24 dc24 pm24 an24 cd24 ct24), sl24⟩) (c24 : PySem.W.codeIn K cd24 "_law_copy" = true) (k24 : PySem.W.keepIn K (.ref f24) = true)
  (a25 : PySem.W.nsIn K mainGlobals "_law_word_put" = some (some (.ref f25))) (l25 : K.lookup f25 = some ⟨oc25, od25, .func (PySem.W.fnOf "_law_word_put" "_law_word_put" (defArgs sLawWordPut) (defBody sLawWordPut) (defScope sLawWordPut) .none kV25 dc25 pm25 an25 cd25 ct25), sl25⟩) (c25 : PySem.W.codeIn K cd25 "_law_word_put" = true) (k25 : PySem.W.keepIn K (.ref f25) = true)
  (a26 : PySem.W.nsIn K mainGlobals "_law_votes_put" = some (some (.ref f26))) (l26 : K.lookup f26 = some ⟨oc26, od26, .func (PySem.W.fnOf "_law_votes_put" "_law_votes_put" (defArgs sLawVotesPut) (defBody sLawVotesPut) (defScope sLawVotesPut) .none kV26 dc26 pm26 an26 cd26 ct26), sl26⟩) (c26 : PySem.W.codeIn K cd26 "_law_votes_put" = true) (k26 : PySem.W.keepIn K (.ref f26) = true)
  (a27 : PySem.W.nsIn K mainGlobals "_law_turns_put" = some (some (.ref f27))) (l27 : K.lookup f27 = some ⟨oc27, od27, .func (PySem.W.fnOf "_law_turns_put" "_law_turns_put" (defArgs sLawTurnsPut) (defBody sLawTurnsPut) (defScope sLawTurnsPut) .none kV27 dc27 pm27 an27 cd27 ct27), sl27⟩) (c27 : PySem.W.codeIn K cd27 "_law_turns_put" = true) (k27 : PySem.W.keepIn K (.ref f27) = true)
  (a28 : PySem.W.nsIn K mainGlobals "_law_kinds" = some (some (.ref f28))) (l28 : K.lookup f28 = some ⟨oc28, od28, .func (PySem.W.fnOf "_law_kinds" "_law_kinds" (defArgs sLawKinds) (defBody sLawKinds) (defScope sLawKinds) .none kV28 dc28 pm28 an28 cd28 ct28), sl28⟩) (c28 : PySem.W.codeIn K cd28 "_law_kinds" = true) (k28 : PySem.W.keepIn K (.ref f28) = true)
  (a29 : PySem.W.nsIn K mainGlobals "_law_both" = some (some (.ref f29))) (l29 : K.lookup f29 = some ⟨oc29, od29, .func (PySem.W.fnOf "_law_both" "_law_both" (defArgs sLawBoth) (defBody sLawBoth) (defScope sLawBoth) .none kV29 dc29 pm29 an29 cd29 ct29), sl29⟩) (c29 : PySem.W.codeIn K cd29 "_law_both" = true) (k29 : PySem.W.keepIn K (.ref f29) = true)
  (a30 : PySem.W.nsIn K mainGlobals "law" = some (some (.ref f30))) (l30 : K.lookup f30 = some ⟨oc30, od30, .func (PySem.W.fnOf "law" "law" (defArgs sLaw) (defBody sLaw) (defScope sLaw) .none kV30 dc30 pm30 an30 cd30 ct30), sl30⟩) (c30 : PySem.W.codeIn K cd30 "law" = true) (k30 : PySem.W.keepIn K (.ref f30) = true)
  (z_abs : PySem.W.nsIn K mainGlobals "abs" = some none)
  (z_all : PySem.W.nsIn K mainGlobals "all" = some none)
  (z_bool : PySem.W.nsIn K mainGlobals "bool" = some none)
  (z_dict : PySem.W.nsIn K mainGlobals "dict" = some none)
  (z_enumerate : PySem.W.nsIn K mainGlobals "enumerate" = some none)
  (z_int : PySem.W.nsIn K mainGlobals "int" = some none)
  (z_isinstance : PySem.W.nsIn K mainGlobals "isinstance" = some none)
  (z_len : PySem.W.nsIn K mainGlobals "len" = some none)
  (z_list : PySem.W.nsIn K mainGlobals "list" = some none)
  (z_min : PySem.W.nsIn K mainGlobals "min" = some none)
  (z_range : PySem.W.nsIn K mainGlobals "range" = some none)
  (z_set : PySem.W.nsIn K mainGlobals "set" = some none)
  (z_sorted : PySem.W.nsIn K mainGlobals "sorted" = some none)
  (z_str : PySem.W.nsIn K mainGlobals "str" = some none)
  (z_sum : PySem.W.nsIn K mainGlobals "sum" = some none)
  (z_tuple : PySem.W.nsIn K mainGlobals "tuple" = some none)
  : ∃ fd : FuncData, (∀ (s : Shared) (v : Value), BindsTo s fd ⟨[v], []⟩ [("script", v)]) /\ ∀ base : Heap, K.In base -> base.Ns mainGlobals mg -> FnOk l.prog w K mg base CX0 7 fa fd ["script"] (spLaw K) := by
 have e := hfa.symm.trans (PySem.W.mg_of X G a30)
 cases e
 have F0 := fun_mk (st := sInverse) l0 c0 k0
 have b0 := F0.binds (ps := ["p", "b"]) fun _ _ _ _ _ _ us hl => by obtain ⟨_, _, rfl⟩ := ln2 hl; rfl
 have F1 := fun_mk (st := sTotal) l1 c1 k1
 have b1 := F1.binds (ps := ["p", "pairs", "word"]) fun _ _ _ _ _ _ us hl => by obtain ⟨_, _, _, rfl⟩ := ln3 hl; rfl
 have F2 := fun_mk (st := sSums) l2 c2 k2
 have b2 := F2.binds (ps := ["net", "word"]) fun _ _ _ _ _ _ us hl => by obtain ⟨_, _, rfl⟩ := ln2 hl; rfl
 have F3 := fun_mk (st := sSumOf) l3 c3 k3
 have b3 := F3.binds (ps := ["p", "pairs", "word"]) fun _ _ _ _ _ _ us hl => by obtain ⟨_, _, _, rfl⟩ := ln3 hl; rfl
 have F4 := fun_mk (st := sVoices) l4 c4 k4
 have b4 := F4.binds (ps := ["net", "places"]) fun _ _ _ _ _ _ us hl => by obtain ⟨_, _, rfl⟩ := ln2 hl; rfl
 have F5 := fun_mk (st := sAllVoices) l5 c5 k5
 have b5 := F5.binds (ps := ["net"]) fun _ _ _ _ _ _ us hl => by obtain ⟨_, rfl⟩ := ln1 hl; rfl
 have F6 := fun_mk (st := sCountsOf) l6 c6 k6
 have b6 := F6.binds (ps := ["p", "there", "reached", "letter"]) fun _ _ _ _ _ _ us hl => by obtain ⟨_, _, _, _, rfl⟩ := ln4 hl; rfl
 have F7 := fun_mk (st := sVotes) l7 c7 k7
 have b7 := F7.binds (ps := ["net", "word", "place"]) fun _ _ _ _ _ _ us hl => by obtain ⟨_, _, _, rfl⟩ := ln3 hl; rfl
 have F8 := fun_mk (st := sTurnsOf) l8 c8 k8
 have b8 := F8.binds (ps := ["p", "found", "reached", "word"]) fun _ _ _ _ _ _ us hl => by obtain ⟨_, _, _, _, rfl⟩ := ln4 hl; rfl
 have F9 := fun_mk (st := sTurned) l9 c9 k9
 have b9 := F9.binds (ps := ["net", "word"]) fun _ _ _ _ _ _ us hl => by obtain ⟨_, _, rfl⟩ := ln2 hl; rfl
 have F10 := fun_mk (st := sWithTurns) l10 c10 k10
 have b10 := F10.binds (ps := ["word", "turns"]) fun _ _ _ _ _ _ us hl => by obtain ⟨_, _, rfl⟩ := ln2 hl; rfl
 have F11 := fun_mk (st := sVoted) l11 c11 k11
 have b11 := F11.binds (ps := ["net", "word", "most"]) fun _ _ _ _ _ _ us hl => by obtain ⟨_, _, _, rfl⟩ := ln3 hl; rfl
 have F12 := fun_mk (st := sBrokenOf) l12 c12 k12
 have b12 := F12.binds (ps := ["reached"]) fun _ _ _ _ _ _ us hl => by obtain ⟨_, rfl⟩ := ln1 hl; rfl
 have F13 := fun_mk (st := sLawBag) l13 c13 k13
 have b13 := F13.binds (ps := ["script"]) fun _ _ _ _ _ _ us hl => by obtain ⟨_, rfl⟩ := ln1 hl; rfl
 have F14 := fun_mk (st := sLawStirred) l14 c14 k14
 have b14 := F14.binds (ps := ["bag", "many"]) fun _ _ _ _ _ _ us hl => by obtain ⟨_, _, rfl⟩ := ln2 hl; rfl
 have F15 := fun_mk (st := sLawDraw) l15 c15 k15
 have b15 := F15.binds (ps := ["bag", "many"]) fun _ _ _ _ _ _ us hl => by obtain ⟨_, _, rfl⟩ := ln2 hl; rfl
 have F16 := fun_mk (st := sLawPrimeFrom) l16 c16 k16
 have b16 := F16.binds (ps := ["number"]) fun _ _ _ _ _ _ us hl => by obtain ⟨_, rfl⟩ := ln1 hl; rfl
 have F17 := fun_mk (st := sLawPrime) l17 c17 k17
 have b17 := F17.binds (ps := ["bag"]) fun _ _ _ _ _ _ us hl => by obtain ⟨_, rfl⟩ := ln1 hl; rfl
 have F18 := fun_mk (st := sLawLetters) l18 c18 k18
 have b18 := F18.binds (ps := ["bag", "p", "n"]) fun _ _ _ _ _ _ us hl => by obtain ⟨_, _, _, rfl⟩ := ln3 hl; rfl
 have F19 := fun_mk (st := sLawOver) l19 c19 k19
 have b19 := F19.binds (ps := ["p", "a", "b"]) fun _ _ _ _ _ _ us hl => by obtain ⟨_, _, _, rfl⟩ := ln3 hl; rfl
 have F20 := fun_mk (st := sLawSum) l20 c20 k20
 have b20 := F20.binds (ps := ["p", "pairs", "word"]) fun _ _ _ _ _ _ us hl => by obtain ⟨_, _, _, rfl⟩ := ln3 hl; rfl
 have F21 := fun_mk (st := sLawPlantedCheck) l21 c21 k21
 have b21 := F21.binds (ps := ["bag", "p", "word", "wide"]) fun _ _ _ _ _ _ us hl => by obtain ⟨_, _, _, _, rfl⟩ := ln4 hl; rfl
 have F22 := fun_mk (st := sLawPlanted) l22 c22 k22
 have b22 := F22.binds (ps := ["bag", "p", "word", "many", "wide"]) fun _ _ _ _ _ _ us hl => by obtain ⟨_, _, _, _, _, rfl⟩ := ln5 hl; rfl
 have F23 := fun_mk (st := sLawAlike) l23 c23 k23
 have b23 := F23.binds (ps := ["found", "due"]) fun _ _ _ _ _ _ us hl => by obtain ⟨_, _, rfl⟩ := ln2 hl; rfl
 have F24 := fun_mk (st := sLawCopy) l24 c24 k24
 have b24 := F24.binds (ps := ["net"]) fun _ _ _ _ _ _ us hl => by obtain ⟨_, rfl⟩ := ln1 hl; rfl
 have F25 := fun_mk (st := sLawWordPut) l25 c25 k25
 have b25 := F25.binds (ps := ["p", "one", "other"]) fun _ _ _ _ _ _ us hl => by obtain ⟨_, _, _, rfl⟩ := ln3 hl; rfl
 have F26 := fun_mk (st := sLawVotesPut) l26 c26 k26
 have b26 := F26.binds (ps := ["p", "some", "letter"]) fun _ _ _ _ _ _ us hl => by obtain ⟨_, _, _, rfl⟩ := ln3 hl; rfl
 have F27 := fun_mk (st := sLawTurnsPut) l27 c27 k27
 have b27 := F27.binds (ps := ["p", "turns", "word"]) fun _ _ _ _ _ _ us hl => by obtain ⟨_, _, _, rfl⟩ := ln3 hl; rfl
 have F28 := fun_mk (st := sLawKinds) l28 c28 k28
 have b28 := F28.binds (ps := ["p", "some"]) fun _ _ _ _ _ _ us hl => by obtain ⟨_, _, rfl⟩ := ln2 hl; rfl
 have F29 := fun_mk (st := sLawBoth) l29 c29 k29
 have b29 := F29.binds (ps := ["net", "first", "word", "most"]) fun _ _ _ _ _ _ us hl => by obtain ⟨_, _, _, _, rfl⟩ := ln4 hl; rfl
 have F30 := fun_mk (st := sLaw) l30 c30 k30
 have m_abs := PySem.W.mg_none_of X G z_abs
 have m_all := PySem.W.mg_none_of X G z_all
 have m_bool := PySem.W.mg_none_of X G z_bool
 have m_dict := PySem.W.mg_none_of X G z_dict
 have m_enumerate := PySem.W.mg_none_of X G z_enumerate
 have m_int := PySem.W.mg_none_of X G z_int
 have m_isinstance := PySem.W.mg_none_of X G z_isinstance
 have m_len := PySem.W.mg_none_of X G z_len
 have m_list := PySem.W.mg_none_of X G z_list
 have m_min := PySem.W.mg_none_of X G z_min
 have m_range := PySem.W.mg_none_of X G z_range
 have m_set := PySem.W.mg_none_of X G z_set
 have m_sorted := PySem.W.mg_none_of X G z_sorted
 have m_str := PySem.W.mg_none_of X G z_str
 have m_sum := PySem.W.mg_none_of X G z_sum
 have m_tuple := PySem.W.mg_none_of X G z_tuple
 refine ⟨PySem.W.fnOf "law" "law" (defArgs sLaw) (defBody sLaw) (defScope sLaw) .none kV30 dc30 pm30 an30 cd30 ct30, fun s v => .of_eq rfl, fun base _ _ => ?_⟩
 have C_inverse := Callee.mk' F0 (ok_inverse (P := l.prog) (w := w) (base := base) F0) b0 (PySem.W.mg_of X G a0)
 have C_total := Callee.mk' F1 (ok_total (P := l.prog) (w := w) (base := base) F1) b1 (PySem.W.mg_of X G a1)
 have C_sum_of := Callee.mk' F3 (ok_sum_of (P := l.prog) (w := w) (base := base) F3 C_total) b3 (PySem.W.mg_of X G a3)
 have C_sums := Callee.mk' F2 (ok_sums (P := l.prog) (w := w) (base := base) F2 C_sum_of) b2 (PySem.W.mg_of X G a2)
 have C_voices := Callee.mk' F4 (ok_voices (P := l.prog) (w := w) (base := base) F4 C_inverse m_dict m_enumerate) b4 (PySem.W.mg_of X G a4)
 have C_all_voices := Callee.mk' F5 (ok_all_voices (P := l.prog) (w := w) (base := base) F5 C_voices m_list m_range) b5 (PySem.W.mg_of X G a5)
 have C_counts_of := Callee.mk' F6 (ok_counts_of (P := l.prog) (w := w) (base := base) F6) b6 (PySem.W.mg_of X G a6)
 have C_votes := Callee.mk' F7 (ok_votes (P := l.prog) (w := w) (base := base) F7 C_counts_of C_voices C_sums m_sorted) b7 (PySem.W.mg_of X G a7)
 have C_turns_of := Callee.mk' F8 (ok_turns_of (P := l.prog) (w := w) (base := base) F8 C_counts_of m_enumerate m_len) b8 (PySem.W.mg_of X G a8)
 have C_with_turns := Callee.mk' F10 (ok_with_turns (P := l.prog) (w := w) (base := base) F10 m_list) b10 (PySem.W.mg_of X G a10)
 have C_turned := Callee.mk' F9 (ok_turned (P := l.prog) (w := w) (base := base) F9 C_turns_of C_all_voices C_sums C_with_turns) b9 (PySem.W.mg_of X G a9)
 have C_broken_of := Callee.mk' F12 (ok_broken_of (P := l.prog) (w := w) (base := base) F12 m_len) b12 (PySem.W.mg_of X G a12)
 have C_voted := Callee.mk' F11 (ok_voted (P := l.prog) (w := w) (base := base) F11 C_all_voices C_sums C_turns_of C_with_turns C_broken_of m_list m_len) b11 (PySem.W.mg_of X G a11)
 have C__law_bag := Callee.mk' F13 (ok__law_bag (P := l.prog) (w := w) (base := base) F13 m_abs) b13 (PySem.W.mg_of X G a13)
 have C__law_stirred := Callee.mk' F14 (ok__law_stirred (P := l.prog) (w := w) (base := base) F14 m_range) b14 (PySem.W.mg_of X G a14)
 have C__law_draw := Callee.mk' F15 (ok__law_draw (P := l.prog) (w := w) (base := base) F15 C__law_stirred m_len) b15 (PySem.W.mg_of X G a15)
 have C__law_prime_from := Callee.mk' F16 (ok__law_prime_from (P := l.prog) (w := w) (base := base) F16 m_range) b16 (PySem.W.mg_of X G a16)
 have C__law_prime := Callee.mk' F17 (ok__law_prime (P := l.prog) (w := w) (base := base) F17 C__law_draw C__law_prime_from) b17 (PySem.W.mg_of X G a17)
 have C__law_letters := Callee.mk' F18 (ok__law_letters (P := l.prog) (w := w) (base := base) F18 C__law_draw m_range m_int m_min) b18 (PySem.W.mg_of X G a18)
 have C__law_over := Callee.mk' F19 (ok__law_over (P := l.prog) (w := w) (base := base) F19) b19 (PySem.W.mg_of X G a19)
 have C__law_sum := Callee.mk' F20 (ok__law_sum (P := l.prog) (w := w) (base := base) F20 m_sum) b20 (PySem.W.mg_of X G a20)
 have C__law_planted_check := Callee.mk' F21 (ok__law_planted_check (P := l.prog) (w := w) (base := base) F21 C__law_sum C__law_draw C__law_over m_len m_sorted m_set m_range) b21 (PySem.W.mg_of X G a21)
 have C__law_planted := Callee.mk' F22 (ok__law_planted (P := l.prog) (w := w) (base := base) F22 C__law_planted_check m_len m_range) b22 (PySem.W.mg_of X G a22)
 have C__law_alike_0 := Callee.void (P := l.prog) (w := w) (base := base) (k := 0) (sp := spD 2 (F__law_alike 0)) F23 b23 (PySem.W.mg_of X G a23) void__law_alike
 have C__law_alike_1 := Callee.mk' F23 (ok__law_alike (P := l.prog) (w := w) (base := base) 0 F23 C__law_alike_0 m_isinstance m_list m_tuple m_all m_len m_bool m_int m_str m_range) b23 (PySem.W.mg_of X G a23)
 have C__law_alike_2 := Callee.mk' F23 (ok__law_alike (P := l.prog) (w := w) (base := base) 1 F23 C__law_alike_1 m_isinstance m_list m_tuple m_all m_len m_bool m_int m_str m_range) b23 (PySem.W.mg_of X G a23)
 have C__law_alike_3 := Callee.mk' F23 (ok__law_alike (P := l.prog) (w := w) (base := base) 2 F23 C__law_alike_2 m_isinstance m_list m_tuple m_all m_len m_bool m_int m_str m_range) b23 (PySem.W.mg_of X G a23)
 have C__law_alike_4 := Callee.mk' F23 (ok__law_alike (P := l.prog) (w := w) (base := base) 3 F23 C__law_alike_3 m_isinstance m_list m_tuple m_all m_len m_bool m_int m_str m_range) b23 (PySem.W.mg_of X G a23)
 have C__law_alike_5 := Callee.mk' F23 (ok__law_alike (P := l.prog) (w := w) (base := base) 4 F23 C__law_alike_4 m_isinstance m_list m_tuple m_all m_len m_bool m_int m_str m_range) b23 (PySem.W.mg_of X G a23)
 have C__law_alike := C__law_alike_5
 have C__law_copy := Callee.mk' F24 (ok__law_copy (P := l.prog) (w := w) (base := base) F24 m_list) b24 (PySem.W.mg_of X G a24)
 have C__law_word_put := Callee.mk' F25 (ok__law_word_put (P := l.prog) (w := w) (base := base) F25 m_range m_len) b25 (PySem.W.mg_of X G a25)
 have C__law_votes_put := Callee.mk' F26 (ok__law_votes_put (P := l.prog) (w := w) (base := base) F26 m_sorted) b26 (PySem.W.mg_of X G a26)
 have C__law_turns_put := Callee.mk' F27 (ok__law_turns_put (P := l.prog) (w := w) (base := base) F27) b27 (PySem.W.mg_of X G a27)
 have C__law_kinds := Callee.mk' F28 (ok__law_kinds (P := l.prog) (w := w) (base := base) F28 m_isinstance m_list m_tuple m_len m_int) b28 (PySem.W.mg_of X G a28)
 have C__law_both := Callee.mk' F29 (ok__law_both (P := l.prog) (w := w) (base := base) F29 C__law_word_put C_turned C_voted C__law_alike C_votes C__law_copy C__law_turns_put C__law_kinds C__law_votes_put m_range m_list) b29 (PySem.W.mg_of X G a29)
 exact ok_law F30 C__law_bag C__law_draw C__law_prime C__law_letters C__law_planted C__law_alike C__law_both C_voted C_turned C__law_copy m_len m_list
theorem walk {l : PySem.W.OpenLaw} {q : Program} {loose : List Str} {XP : (Str -> Option Value) -> Heap -> Prop} {YP : World -> Heap -> Prop} {d : DefRec} {K : Params -> PySem.W.Frag} (hn : l.most = some 63) (hdf : d.params.defaults = [])
  (hY : ∀ (w : World) (h : Heap), YP w h -> (K w.params).In h)
  (F : ∀ (w : World) (mg : Str -> Option Value) (fa : Addr) (h : Heap), (K w.params).In h -> h.Ns mainGlobals mg -> mg d.name = some (.ref fa) ->
   ∃ fd : FuncData, (∀ (s : Shared) (u : Value), BindsTo s fd ⟨[u], []⟩ [("script", u)]) /\ ∀ base : Heap, (K w.params).In base -> base.Ns mainGlobals mg -> FnOk l.prog w (K w.params) mg base CX0 7 fa fd ["script"] (spLaw (K w.params))) :
  PySem.W.WalkO q loose XP YP l.row.toRowW d [] (fun f vs => PySem.call f vs) :=
 L2.walk_of (n := 63) (k := 7) (x := "script") (CX := fun _ => CX0) (sp := fun w => spLaw (K w.params)) hn (by decide) hdf ⟨rfl, by decide, by decide⟩ hY F (fun _ _ a ns hl _ hS => ⟨a, ns, rfl, hS, hl, fun _ => rfl⟩) fun _ _ _ _ _ z => z
end K57
open PySem PySem.W PyProof.Rows
set_option maxRecDepth 100000 in
set_option maxHeartbeats 0 in
theorem PySem.Challenge.cw_fewchecks_k57_whole_votes_hang_on_what_i_holds : PySem.Challenge.rw_fewchecks_k57_whole_votes_hang_on_what_i.Holds := by
 w_on; o_law; k_head; (case hw => w_witness2)
 k_fill
 refine K57.walk (l := PySem.Challenge.rw_fewchecks_k57_whole_votes_hang_on_what_i) rfl rfl (fun w h Y => PySem.W.kIn_of Y) ?F
 case F =>
  intro w mg fa h KX G hmg
  refine' K57.all_mk KX G hmg ?a0 ?l0 ?c0 ?k0 ?a1 ?l1 ?c1 ?k1 ?a2 ?l2 ?c2 ?k2 ?a3 ?l3 ?c3 ?k3 ?a4 ?l4 ?c4 ?k4 ?a5 ?l5 ?c5 ?k5 ?a6 ?l6 ?c6 ?k6 ?a7 ?l7 ?c7 ?k7 ?a8 ?l8 ?c8 ?k8 ?a9 ?l9 ?c9 ?k9 ?a10 ?l10 ?c10 ?k10 ?a11 ?l11 ?c11 ?k11 ?a12 ?l12 ?c12 ?k12 ?a13 ?l13 ?c13 ?k13 ?a14 ?l14 ?c14 ?k14 ?a15 ?l15 ?c15 ?k15 ?a16 ?l16 ?c16 ?k16 ?a17 ?l17 ?c17 ?k17 ?a18 ?l18 ?c18 ?k18 ?a19 ?l19 ?c19 ?k19 ?a20 ?l20 ?c20 ?k20 ?a21 ?l21 ?c21 ?k21 ?a22 ?l22 ?c22 ?k22 ?a23 ?l23 ?c23 ?k23 ?a24 ?l24 ?c24 ?k24 ?a25 ?l25 ?c25 ?k25 ?a26 ?l26 ?c26 ?k26 ?a27 ?l27 ?c27 ?k27 ?a28 ?l28 ?c28 ?k28 ?a29 ?l29 ?c29 ?k29 ?a30 ?l30 ?c30 ?k30 ?z_abs ?z_all ?z_bool ?z_dict ?z_enumerate ?z_int ?z_isinstance ?z_len ?z_list ?z_min ?z_range ?z_set ?z_sorted ?z_str ?z_sum ?z_tuple
  (case a0 => k_is)
  (case l0 => k_is)
  (case c0 => k_is)
  (case k0 => k_is)
  (case a1 => k_is)
  (case l1 => k_is)
  (case c1 => k_is)
  (case k1 => k_is)
  (case a2 => k_is)
  (case l2 => k_is)
  (case c2 => k_is)
  (case k2 => k_is)
  (case a3 => k_is)
  (case l3 => k_is)
  (case c3 => k_is)
  (case k3 => k_is)
  (case a4 => k_is)
  (case l4 => k_is)
  (case c4 => k_is)
  (case k4 => k_is)
  (case a5 => k_is)
  (case l5 => k_is)
  (case c5 => k_is)
  (case k5 => k_is)
  (case a6 => k_is)
  (case l6 => k_is)
  (case c6 => k_is)
  (case k6 => k_is)
  (case a7 => k_is)
  (case l7 => k_is)
  (case c7 => k_is)
  (case k7 => k_is)
  (case a8 => k_is)
  (case l8 => k_is)
  (case c8 => k_is)
  (case k8 => k_is)
  (case a9 => k_is)
  (case l9 => k_is)
  (case c9 => k_is)
  (case k9 => k_is)
  (case a10 => k_is)
  (case l10 => k_is)
  (case c10 => k_is)
  (case k10 => k_is)
  (case a11 => k_is)
  (case l11 => k_is)
  (case c11 => k_is)
  (case k11 => k_is)
  (case a12 => k_is)
  (case l12 => k_is)
  (case c12 => k_is)
  (case k12 => k_is)
  (case a13 => k_is)
  (case l13 => k_is)
  (case c13 => k_is)
  (case k13 => k_is)
  (case a14 => k_is)
  (case l14 => k_is)
  (case c14 => k_is)
  (case k14 => k_is)
  (case a15 => k_is)
  (case l15 => k_is)
  (case c15 => k_is)
  (case k15 => k_is)
  (case a16 => k_is)
  (case l16 => k_is)
  (case c16 => k_is)
  (case k16 => k_is)
  (case a17 => k_is)
  (case l17 => k_is)
  (case c17 => k_is)
  (case k17 => k_is)
  (case a18 => k_is)
  (case l18 => k_is)
  (case c18 => k_is)
  (case k18 => k_is)
  (case a19 => k_is)
  (case l19 => k_is)
  (case c19 => k_is)
  (case k19 => k_is)
  (case a20 => k_is)
  (case l20 => k_is)
  (case c20 => k_is)
  (case k20 => k_is)
  (case a21 => k_is)
  (case l21 => k_is)
  (case c21 => k_is)
  (case k21 => k_is)
  (case a22 => k_is)
  (case l22 => k_is)
  (case c22 => k_is)
  (case k22 => k_is)
  (case a23 => k_is)
  (case l23 => k_is)
  (case c23 => k_is)
  (case k23 => k_is)
  (case a24 => k_is)
  (case l24 => k_is)
  (case c24 => k_is)
  (case k24 => k_is)
  (case a25 => k_is)
  (case l25 => k_is)
  (case c25 => k_is)
  (case k25 => k_is)
  (case a26 => k_is)
  (case l26 => k_is)
  (case c26 => k_is)
  (case k26 => k_is)
  (case a27 => k_is)
  (case l27 => k_is)
  (case c27 => k_is)
  (case k27 => k_is)
  (case a28 => k_is)
  (case l28 => k_is)
  (case c28 => k_is)
  (case k28 => k_is)
  (case a29 => k_is)
  (case l29 => k_is)
  (case c29 => k_is)
  (case k29 => k_is)
  (case a30 => k_is)
  (case l30 => k_is)
  (case c30 => k_is)
  (case k30 => k_is)
  (case z_abs => k_is)
  (case z_all => k_is)
  (case z_bool => k_is)
  (case z_dict => k_is)
  (case z_enumerate => k_is)
  (case z_int => k_is)
  (case z_isinstance => k_is)
  (case z_len => k_is)
  (case z_list => k_is)
  (case z_min => k_is)
  (case z_range => k_is)
  (case z_set => k_is)
  (case z_sorted => k_is)
  (case z_str => k_is)
  (case z_sum => k_is)
  (case z_tuple => k_is)
