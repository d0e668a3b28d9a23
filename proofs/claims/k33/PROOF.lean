import PyProof.Rows.All
import Wide.All
import OpenK.AllK
import Wide.FinOn
import Lean
import PyProof.EqAt
import PyProof.EqKinds
import PyProof.TupleCall
import PySem.Challenge.RW_fewchecks_k33_whole_one_place_more_or_le
set_option compiler.extract_closed false
-- CHANGE: your row's module here, as the last of these rows
set_option Elab.async false
set_option linter.all false
set_option maxRecDepth 100000
namespace L2
open PySem PySem.Spec PyProof.Rows

abbrev Key := Sum Int Str
def keyIs : Key → Value → Bool
  | .inl k, v => Value.isInt k v
  | .inr x, v => Value.isStrOf x v
def keyH (w : World) : Key → Int
  | .inl k => hashInt k
  | .inr x => hashStr w x
theorem keyIs_shape : ∀ {k : Key} {v : Value}, keyIs k v = true → (∃ i t, k = Sum.inl i ∧ v = Value.int i t) ∨ (∃ x t, k = Sum.inr x ∧ v = Value.str x t)
  | .inl i, v, h => by
    obtain ⟨t, e⟩ := Value.isInt_shape (k := i) (v := v) h
    exact .inl ⟨i, t, rfl, e⟩
  | .inr x, v, h => by
    obtain ⟨t, e⟩ := Value.isStrOf_shape (x := x) (v := v) h
    exact .inr ⟨x, t, rfl, e⟩
theorem keyIs_int (i : Int) (t : Tok) : keyIs (.inl i) (.int i t) = true := by simp [keyIs, Value.isInt]
theorem keyIs_str (x : Str) (t : Tok) : keyIs (.inr x) (.str x t) = true := by simp [keyIs, Value.isStrOf]
theorem key_ll (a b : Int) : decide ((Sum.inl a : Key) = Sum.inl b) = (a == b) := by
  by_cases e : a = b
  · subst e; simp
  · have h : ¬ (Sum.inl a : Key) = Sum.inl b := fun q => e (Sum.inl.inj q)
    rw [decide_eq_false h]
    exact (beq_eq_false_iff_ne.mpr e).symm
theorem key_rr (a b : Str) : decide ((Sum.inr a : Key) = Sum.inr b) = decide (a = b) := by
  by_cases e : a = b
  · subst e; simp
  · have h : ¬ (Sum.inr a : Key) = Sum.inr b := fun q => e (Sum.inr.inj q)
    rw [decide_eq_false h, decide_eq_false e]
theorem key_lr (a : Int) (b : Str) : decide ((Sum.inl a : Key) = Sum.inr b) = false := decide_eq_false (fun q => nomatch q)
theorem key_rl (a : Str) (b : Int) : decide ((Sum.inr a : Key) = Sum.inl b) = false := decide_eq_false (fun q => nomatch q)

def mixKind (prog : Program) (w : World) : PySem.KeyKind prog w Key where
  is := keyIs
  hash := keyH w
  inj := fun v a b ha hb => by
    rcases keyIs_shape ha with ⟨i, t, rfl, rfl⟩ | ⟨x, t, rfl, rfl⟩
    · rcases keyIs_shape hb with ⟨j, u, rfl, e⟩ | ⟨y, u, rfl, e⟩
      · injection e with e1 _; rw [e1]
      · exact nomatch e
    · rcases keyIs_shape hb with ⟨j, u, rfl, e⟩ | ⟨y, u, rfl, e⟩
      · exact nomatch e
      · injection e with e1 _; rw [e1]
  byValue := fun k v h => by
    rcases keyIs_shape h with ⟨i, t, rfl, rfl⟩ | ⟨x, t, rfl, rfl⟩ <;> rfl
  pyHash := fun hv h => by
    rcases keyIs_shape hv with ⟨i, t, rfl, rfl⟩ | ⟨x, t, rfl, rfl⟩
    · exact wpAny_pyHash_int h
    · exact wpAny_pyHash_str h
  eqBool := fun hu hv h => by
    rcases keyIs_shape hu with ⟨i, t, rfl, rfl⟩ | ⟨x, t, rfl, rfl⟩
    · rcases keyIs_shape hv with ⟨j, u, rfl, rfl⟩ | ⟨y, u, rfl, rfl⟩
      · rw [key_ll] at h; exact wpAny_eqBool_int h
      · rw [key_lr] at h; exact SeqAt.EqAt.int_str i t y u _ _ _ _ h
    · rcases keyIs_shape hv with ⟨j, u, rfl, rfl⟩ | ⟨y, u, rfl, rfl⟩
      · rw [key_rl] at h; exact SeqAt.EqAt.str_int x t j u _ _ _ _ h
      · rw [key_rr] at h; exact wpAny_eqBool_str h
  «strs» := fun k x t v h => by
    rcases keyIs_shape h with ⟨i, u, rfl, e⟩ | ⟨y, u, rfl, e⟩
    · exact nomatch e
    · injection e with e1 _
      subst e1
      cases v <;> rfl

theorem mixKind_int (prog : Program) (w : World) (i : Int) (t : Tok) : (mixKind prog w).is (.inl i) (.int i t) = true := keyIs_int i t
theorem mixKind_str (prog : Program) (w : World) (x : Str) (t : Tok) : (mixKind prog w).is (.inr x) (.str x t) = true := keyIs_str x t
end L2

namespace L2
open PySem PySem.Spec PyProof.Rows

inductive V where
  | non | bl (b : Bool) | int (i : Int) | str (x : Str) | byt (b : Array UInt8) | flt (b : UInt64) | ref (a : Addr) | ty (n : String)
  deriving DecidableEq

def RelV : V → Value → Prop
  | .non, u => u = Value.none
  | .bl b, u => u = Value.bool b
  | .int i, u => ∃ t, u = Value.int i t
  | .str x, u => ∃ t, u = Value.str x t
  | .byt b, u => ∃ t, u = Value.bytes b t
  | .flt b, u => ∃ t, u = Value.float b t
  | .ref a, u => u = Value.ref a
  | .ty n, u => u = Value.type n

abbrev Vals : List V → List Value → Prop := Paired RelV
theorem Vals.length {xs : List V} {us : List Value} (r : Vals xs us) : xs.length = us.length := Paired.length r
theorem Vals.get : ∀ {xs : List V} {us : List Value} {i : Nat} {x : V}, Vals xs us → xs[i]? = some x → ∃ u, us[i]? = some u ∧ RelV x u
  | _, _, _, _, .nil, e => by simp at e
  | _, _, 0, _, .cons r _, e => by simp at e; subst e; exact ⟨_, rfl, r⟩
  | _, _, i + 1, x, .cons _ t, e => by
    obtain ⟨u, h1, h2⟩ := Vals.get (i := i) (x := x) t (by simpa using e)
    exact ⟨u, by simpa using h1, h2⟩
theorem Vals.set {x : V} {u : Value} (r : RelV x u) : ∀ {xs : List V} {us : List Value} (i : Nat), Vals xs us → Vals (xs.set i x) (us.set i u)
  | _, _, _, .nil => .nil
  | _, _, 0, .cons _ t => .cons r t
  | _, _, i + 1, .cons q t => .cons q (Vals.set r i t)
theorem Vals.append : ∀ {xs ys : List V} {us ws : List Value}, Vals xs us → Vals ys ws → Vals (xs ++ ys) (us ++ ws)
  | _, _, _, _, .nil, s => s
  | _, _, _, _, .cons r t, s => .cons r (Vals.append t s)
theorem Vals.take : ∀ {xs : List V} {us : List Value} (n : Nat), Vals xs us → Vals (xs.take n) (us.take n)
  | _, _, 0, _ => .nil
  | _, _, _ + 1, .nil => .nil
  | _, _, n + 1, .cons r t => .cons r (Vals.take n t)
theorem Vals.drop : ∀ {xs : List V} {us : List Value} (n : Nat), Vals xs us → Vals (xs.drop n) (us.drop n)
  | _, _, 0, r => r
  | _, _, _ + 1, .nil => .nil
  | _, _, n + 1, .cons _ t => Vals.drop n t
def RelO : Option V → Option Value → Prop
  | some v, some u => RelV v u
  | none, none => True
  | _, _ => False
def KV {κ : Type} : List (κ × V) → List (κ × Value) → Prop := Paired fun (p : κ × V) (q : κ × Value) => p.1 = q.1 ∧ RelV p.2 q.2

def kV : Key → V
  | .inl i => .int i
  | .inr x => .str x

inductive HO where
    | lst (xs : List V)
    | tup (xs : List V)
    | dK (kvs : List (Key × V)) | dT (kvs : List (List Key × V))
    | set (S : Int → Bool) (n : Nat)
    | ins (C dx : Addr) (fs : List (Str × V))
    | own (x : Addr)
    | xd (fs : List (Str × V))
    | met (f x : Addr)
    | rng (lo hi : Int)
    | frz (o : Obj) (u : HO)
    | tbl (ps : Array Value)
    | ext (φ : Heap → Prop)

abbrev Hp := Addr → Option HO
def upd (H : Hp) (a : Addr) (o : HO) : Hp := fun b => if b = a then some o else H b
theorem upd_same {H : Hp} {a : Addr} {o : HO} : upd H a o a = some o := by unfold upd; rw [if_pos rfl]
theorem upd_ne {H : Hp} {a b : Addr} {o : HO} (h : b ≠ a) : upd H a o b = H b := by unfold upd; rw [if_neg h]
theorem upd_upd {H : Hp} {a : Addr} {o u : HO} : upd (upd H a o) a u = upd H a u := by
  funext b; unfold upd; split <;> rfl
theorem ne_of_none {H : Hp} {a b : Addr} {o : HO} (h : H a = some o) (h' : H b = none) : a ≠ b := by
  intro e; subst e; rw [h] at h'; cases h'

section
variable (P : Program) (w : World)
def ObjOk (H : Hp) (h : Heap) (a : Addr) : HO → Prop
  | .lst xs => xs.length ≤ sizeLine ∧ ∃ (its : List Value) (n : Nat), Vals xs its ∧ h.get? a = some { cls := .type "list", data := .seq its.toArray n }
  | .tup xs => xs.length ≤ sizeLine ∧ ∃ its : List Value, Vals xs its ∧ IsTup h a its.toArray
  | .dK kvs => kvs.length ≤ sizeLine ∧ (a == sysModules) = false ∧ ∃ vs, KV kvs vs ∧ h.DictOf (mixKind P w) a vs
  | .dT kvs => kvs.length ≤ sizeLine ∧ (a == sysModules) = false ∧ ∃ xs : List (List Key × Addr × Value),
      Paired (fun (p : List Key × V) (q : List Key × Addr × Value) => p.1 = q.1 ∧ H q.2.1 = some (.tup (p.1.map kV)) ∧ RelV p.2 q.2.2) kvs xs ∧
      ∃ o es ep, h.get? a = some o ∧ o.ExactDict ∧ o.data = .dict es ep ∧ es.toList = xs.map (entryOfKey (tupleKind (mixKind P w))) ∧ (xs.map (·.1)).Nodup
  | .set S n => h.SetOf (intKind P w) a S n
  | .ins C dx fs => H dx = some (.own a) ∧ fs.length ≤ 1000 ∧ dx ≠ a ∧ h.get? a = some (PySem.W.instObj C dx) ∧
      ∃ mA, h.Ns1 dx mA ∧ (∀ f, RelO (fs.lookup f) (mA f)) ∧ PySem.Within mA (fs.map (·.1))
  | .own _ => ∃ o, h.get? a = some o
  | .xd fs => ∃ mA, h.Ns1 a mA ∧ ∀ f, RelO (fs.lookup f) (mA f)
  | .rng lo hi => ∃ t u v, h.get? a = some { cls := .type "range", data := .fields #[.int lo t, .int hi u, .int 1 v] }
  | .frz o u => h.get? a = some o ∧ ObjOk H h a u
  | .tbl ps => h.get? a = some { cls := .none, data := .fields ps }
  | .met f x => h.get? a = some (PySem.W.methodObj (.ref f) (.ref x))
  | .ext φ => φ h ∧ (∃ o, h.get? a = some o) ∧ ∀ h1 h2 : Heap, φ h1 → (∀ o, h1.get? a = some o → h2.get? a = some o) → φ h2
def HOk (H : Hp) (h : Heap) : Prop := ∀ a o, H a = some o → ObjOk P w H h a o
end

section
variable {P : Program} {w : World} {H H' : Hp} {h h' : Heap} {a : Addr} {o : HO}
theorem ObjOk.lt (x : ObjOk P w H h a o) : a < h.objs.size := by
  cases o with
  | lst xs => obtain ⟨_, _, _, _, e⟩ := x; exact Heap.lt_size e
  | tup xs => obtain ⟨_, _, _, p⟩ := x; exact p.lt
  | dK kvs => obtain ⟨_, _, _, _, o, _, _, e, _⟩ := x; exact Heap.lt_size e
  | dT kvs => obtain ⟨_, _, _, _, o, _, _, e, _⟩ := x; exact Heap.lt_size e
  | set S n => obtain ⟨o, _, _, _, e, _⟩ := x; exact Heap.lt_size e
  | ins C dx fs => obtain ⟨_, _, _, e, _⟩ := x; exact Heap.lt_size e
  | own y => obtain ⟨_, e⟩ := x; exact Heap.lt_size e
  | xd fs => obtain ⟨_, ⟨_, _, _, e, _⟩, _⟩ := x; exact Heap.lt_size e
  | rng lo hi => obtain ⟨_, _, _, e⟩ := x; exact Heap.lt_size e
  | frz ob u => obtain ⟨e, _⟩ := x; exact Heap.lt_size e
  | tbl ps => exact Heap.lt_size (show h.get? a = some _ from x)
  | met f y => exact Heap.lt_size (show h.get? a = some _ from x)
  | ext φ => obtain ⟨_, ⟨_, e⟩, _⟩ := x; exact Heap.lt_size e
theorem Paired.mapP {α β : Type} {F G : α → β → Prop} : ∀ {l₁ : List α} {l₂ : List β}, Paired F l₁ l₂ → (∀ a b, F a b → G a b) → Paired G l₁ l₂
  | _, _, .nil, _ => .nil
  | _, _, .cons r t, f => .cons (f _ _ r) (Paired.mapP t f)
theorem ObjOk.stay (x : ObjOk P w H h a o) (k : ∀ b u, (b = a ∨ H b = some (.own a)) → h.get? b = some u → h'.get? b = some u)
    (ho : ∀ b, H b = some (.own a) → H' b = some (.own a)) (ht : ∀ b xs, H b = some (.tup xs) → H' b = some (.tup xs)) : ObjOk P w H' h' a o := by
  induction o with
  | lst xs => obtain ⟨z, its, n, r, e⟩ := x; exact ⟨z, its, n, r, k _ _ (.inl rfl) e⟩
  | tup xs => obtain ⟨z, its, r, ob, e, c⟩ := x; exact ⟨z, its, r, ob, k _ _ (.inl rfl) e, c⟩
  | dK kvs => obtain ⟨z, y, vs, r, ob, es, ep, e, c⟩ := x; exact ⟨z, y, vs, r, ob, es, ep, k _ _ (.inl rfl) e, c⟩
  | dT kvs =>
    obtain ⟨z, y, xs, r, ob, es, ep, e, c⟩ := x
    exact ⟨z, y, xs, Paired.mapP r fun p q z => ⟨z.1, ht _ _ z.2.1, z.2.2⟩, ob, es, ep, k _ _ (.inl rfl) e, c⟩
  | set S n => obtain ⟨ob, es, ep, t, e, c⟩ := x; exact ⟨ob, es, ep, t, k _ _ (.inl rfl) e, c⟩
  | ins C dx fs =>
    obtain ⟨d, z, ne, e, mA, ⟨od, es, ep, e2, c⟩, r⟩ := x
    exact ⟨ho _ d, z, ne, k _ _ (.inl rfl) e, mA, ⟨od, es, ep, k _ _ (.inr d) e2, c⟩, r⟩
  | own y => obtain ⟨ob, e⟩ := x; exact ⟨ob, k _ _ (.inl rfl) e⟩
  | xd fs => obtain ⟨mA, ⟨od, es, ep, e, c⟩, r⟩ := x; exact ⟨mA, ⟨od, es, ep, k _ _ (.inl rfl) e, c⟩, r⟩
  | rng lo hi => obtain ⟨t, u, v, e⟩ := x; exact ⟨t, u, v, k _ _ (.inl rfl) e⟩
  | frz ob u ih => obtain ⟨e, q⟩ := x; exact ⟨k _ _ (.inl rfl) e, ih q⟩
  | tbl ps =>
    have e : h.get? a = some { cls := .none, data := .fields ps } := x
    show h'.get? a = some { cls := .none, data := .fields ps }
    exact k a _ (.inl rfl) e
  | met f y =>
    have e : h.get? a = some (PySem.W.methodObj (.ref f) (.ref y)) := x
    show h'.get? a = some (PySem.W.methodObj (.ref f) (.ref y))
    exact k a _ (.inl rfl) e
  | ext φ => obtain ⟨p, ⟨o, e⟩, st⟩ := x; exact ⟨st _ _ p fun o q => k _ _ (.inl rfl) q, ⟨o, k _ _ (.inl rfl) e⟩, st⟩
theorem HOk.lt (x : HOk P w H h) (e : H a = some o) : a < h.objs.size := (x a o e).lt
theorem HOk.fresh (x : HOk P w H h) (e : h.objs.size ≤ a) : H a = none := by
  cases q : H a with
  | none => rfl
  | some u => exact absurd (Nat.lt_of_lt_of_le (x.lt q) e) (Nat.lt_irrefl _)
theorem HOk.kept (x : HOk P w H h) (k : ∀ b u, h.get? b = some u → h'.get? b = some u) : HOk P w H h' := fun a o e =>
  (x a o e).stay (fun b u _ q => k b u q) (fun _ q => q) fun _ _ q => q
theorem HOk.laid (x : HOk P w H h) (k : ∀ b u, h.get? b = some u → h'.get? b = some u) (hp : h.objs.size ≤ a) (new : ObjOk P w (upd H a o) h' a o) : HOk P w (upd H a o) h' := fun b u e => by
  have hn := x.fresh hp
  by_cases hb : b = a
  · subst hb; rw [upd_same] at e; cases e; exact new
  · rw [upd_ne hb] at e
    exact (x b u e).stay (fun c v _ q => k c v q) (fun c q => by rw [upd_ne (ne_of_none q hn)]; exact q) fun c xs q => by rw [upd_ne (ne_of_none q hn)]; exact q
end

def Rd (H : Hp) (a : Addr) (u : HO) : Prop := H a = some u ∨ ∃ o, H a = some (.frz o u)
theorem Rd.of {H : Hp} {a : Addr} {u : HO} (h : H a = some u) : Rd H a u := .inl h
theorem Rd.ok {P : Program} {w : World} {H : Hp} {h : Heap} {a : Addr} {u : HO} (r : Rd H a u) (x : HOk P w H h) : ObjOk P w H h a u := by
  rcases r with r | ⟨o, r⟩
  · exact x a u r
  · obtain ⟨_, q⟩ := x a _ r
    exact q
def Mut : Option HO → Prop
  | some (.lst _) => True
  | some (.dK _) => True
  | some (.dT _) => True
  | some (.set _ _) => True
  | some (.ins _ _ _) => True
  | some (.ext _) => True
  | _ => False
section
variable {P : Program} {w : World} {H : Hp} {h h' : Heap} {x e : Addr} {o' : HO}
theorem HOk.write (ok : HOk P w H h) (mu : Mut (H x)) (he : e = x ∨ H e = some (.own x)) (k : ∀ b u, b ≠ e → h.get? b = some u → h'.get? b = some u) (heo : ∃ u, h'.get? e = some u)
    (new : ObjOk P w (upd H x o') h' x o') : HOk P w (upd H x o') h' := fun b u q => by
  have nown : ∀ c y, H c = some (.own y) → c ≠ x := fun c y r z => by subst z; rw [r] at mu; exact mu
  have ntup : ∀ c xs, H c = some (.tup xs) → c ≠ x := fun c xs r z => by subst z; rw [r] at mu; exact mu
  by_cases hb : b = x
  · subst hb; rw [upd_same] at q; cases q; exact new
  · rw [upd_ne hb] at q
    by_cases hbe : b = e
    · have q' : H b = some (.own x) := by
        rcases he with z | z
        · exact absurd (hbe.trans z) hb
        · rw [hbe]; exact z
      rw [q] at q'; cases q'
      obtain ⟨v, hv⟩ := heo
      exact ⟨v, by rw [hbe]; exact hv⟩
    · refine (ok b u q).stay (fun c v hc r => k c v ?_ r) (fun c r => by rw [upd_ne (nown c b r)]; exact r) fun c xs r => by rw [upd_ne (ntup c xs r)]; exact r
      rcases hc with rfl | hc
      · exact hbe
      · rintro rfl
        rcases he with z | z
        · exact nown c b hc z
        · rw [hc] at z; cases z; exact hb rfl
end

structure Un (fs ex : List Addr) (H H' : Hp) (h h' : Heap) : Prop where
  keep : ∀ b o, h.get? b = some o → H b = none → b ∉ fs → b ∉ ex → h'.get? b = some o
  slot : ∀ b o, h.get? b = some o → H b = none → b ∈ fs → b ∉ ex → ∃ sl, h'.get? b = some { o with slots := sl }
  free : ∀ b o, h.get? b = some o → H b = none → b ∉ ex → H' b = none
  there : ∀ b o, h.get? b = some o → b ∉ ex → ∃ o', h'.get? b = some o'
  tups : ∀ b xs, H b = some (.tup xs) → H' b = some (.tup xs)
  frzs : ∀ b o u, H b = some (.frz o u) → H' b = some (.frz o u)
  tbls : ∀ b ps, H b = some (.tbl ps) → ∃ more, H' b = some (.tbl (ps ++ more))
section
variable {fs fs' ex ex' : List Addr} {H H1 H2 : Hp} {h h1 h2 h' : Heap} {a x e : Addr} {o : HO}
theorem Un.any (u : Un fs ex H H1 h h1) {b : Addr} {ob : Obj} (q : h.get? b = some ob) (n : H b = none) (hx : b ∉ ex) : ∃ sl, h1.get? b = some { ob with slots := sl } := by
  by_cases hb : b ∈ fs
  · exact u.slot b ob q n hb hx
  · exact ⟨ob.slots, u.keep b ob q n hb hx⟩
theorem Un.trans (a : Un fs ex H H1 h h1) (b : Un fs ex H1 H2 h1 h2) : Un fs ex H H2 h h2 where
  keep := fun c ob q n hc hx => b.keep c ob (a.keep c ob q n hc hx) (a.free c ob q n hx) hc hx
  slot := fun c ob q n hc hx => by
    obtain ⟨sl, e1⟩ := a.slot c ob q n hc hx
    obtain ⟨sl', e2⟩ := b.slot c _ e1 (a.free c ob q n hx) hc hx
    exact ⟨sl', e2⟩
  free := fun c ob q n hx => by
    obtain ⟨o', e1⟩ := a.there c ob q hx
    exact b.free c o' e1 (a.free c ob q n hx) hx
  there := fun c ob q hx => by
    obtain ⟨o', e1⟩ := a.there c ob q hx
    exact b.there c o' e1 hx
  tups := fun c xs q => b.tups c xs (a.tups c xs q)
  frzs := fun c ob xs q => b.frzs c ob xs (a.frzs c ob xs q)
  tbls := fun c ps q => by
    obtain ⟨m1, e1⟩ := a.tbls c ps q
    obtain ⟨m2, e2⟩ := b.tbls c _ e1
    exact ⟨m1 ++ m2, by rw [e2, Array.append_assoc]⟩
theorem Un.kept (k : ∀ b u, h.get? b = some u → h'.get? b = some u) : Un fs ex H H h h' :=
  ⟨fun b ob q _ _ _ => k b ob q, fun b ob q _ _ _ => ⟨ob.slots, k b ob q⟩, fun _ _ _ n _ => n, fun b ob q _ => ⟨ob, k b ob q⟩, fun _ _ q => q, fun _ _ _ q => q, fun _ ps q => ⟨#[], by rw [q]; simp⟩⟩
theorem Un.refl : Un fs ex H H h h := Un.kept fun _ _ q => q
theorem Un.laid (k : ∀ b u, h.get? b = some u → h'.get? b = some u) (hp : h.objs.size ≤ a) (hn : H a = none) : Un fs ex H (upd H a o) h h' where
  keep := fun b u q _ _ _ => k b u q
  slot := fun b u q _ _ _ => ⟨u.slots, k b u q⟩
  free := fun b u q n _ => by rw [upd_ne (Nat.ne_of_lt (Nat.lt_of_lt_of_le (Heap.lt_size q) hp))]; exact n
  there := fun b u q _ => ⟨u, k b u q⟩
  tups := fun b xs q => by rw [upd_ne (ne_of_none q hn)]; exact q
  frzs := fun b u xs q => by rw [upd_ne (ne_of_none q hn)]; exact q
  tbls := fun b ps q => ⟨#[], by rw [upd_ne (ne_of_none q hn), q]; simp⟩
theorem Un.write (mu : Mut (H x)) (he : e = x ∨ H e = some (.own x)) (k : ∀ b u, b ≠ e → h.get? b = some u → h'.get? b = some u) (heo : ∃ u, h'.get? e = some u) : Un fs ex H (upd H x o) h h' := by
  have hx : ∀ b, H b = none → b ≠ x := fun b n z => by subst z; rw [n] at mu; exact mu
  have hb : ∀ b, H b = none → b ≠ e := fun b n z => by
    subst z
    rcases he with r | r
    · exact hx b n r
    · rw [n] at r; cases r
  have hm : ∀ b u, H b = some u → ¬ Mut (some u) → b ≠ x := fun b u q nm z => by subst z; rw [q] at mu; exact nm mu
  refine ⟨fun b u q n _ _ => k b u (hb b n) q, fun b u q n _ _ => ⟨u.slots, k b u (hb b n) q⟩, fun b u q n _ => by rw [upd_ne (hx b n)]; exact n, fun b u q _ => ?_,
    fun b xs q => by rw [upd_ne (hm b _ q fun z => z)]; exact q, fun b u xs q => by rw [upd_ne (hm b _ q fun z => z)]; exact q, fun b ps q => ⟨#[], by rw [upd_ne (hm b _ q fun z => z), q]; simp⟩⟩
  by_cases hbe : b = e
  · subst hbe; exact heo
  · exact ⟨u, k b u hbe q⟩
theorem Un.mono (u : Un fs ex H H1 h h1) (hs : ∀ b ∈ fs, b ∈ fs') (hx : ∀ b ∈ ex, b ∈ ex') : Un fs' ex' H H1 h h1 :=
  ⟨fun b ob q n hb he => u.keep b ob q n (fun z => hb (hs b z)) fun z => he (hx b z), fun _ _ q n _ he => u.any q n fun z => he (hx _ z), fun b ob q n he => u.free b ob q n fun z => he (hx b z), fun b ob q he => u.there b ob q fun z => he (hx b z), u.tups, u.frzs, u.tbls⟩
end

def trk (h : Heap) (H : Hp) : List Addr := (List.range h.objs.size).filter fun a => (H a).isSome
def hidT (h : Heap) (H : Hp) : Heap := PySem.W.hideAll h (trk h H)
theorem hidT_size (h : Heap) (H : Hp) : (hidT h H).objs.size = h.objs.size := PySem.W.hideAll_size _ _
theorem hidT_get {h : Heap} {H : Hp} {b : Addr} {o : Obj} (e : h.get? b = some o) (n : H b = none) : (hidT h H).get? b = some o :=
  PySem.W.hideAll_get _ e fun hm => by
    have q : (H b).isSome = true := (List.mem_filter.mp hm).2
    rw [n] at q; simp at q
theorem of_hidT {h : Heap} {H : Hp} {b : Addr} {o : Obj} (e : (hidT h H).get? b = some o) : h.get? b = some o ∧ H b = none := by
  have e' : h.get? b = some o := PySem.W.of_hideAll (trk h H) e
  refine ⟨e', ?_⟩
  cases q : H b with
  | none => rfl
  | some x =>
    have hm : b ∈ trk h H := List.mem_filter.mpr ⟨List.mem_range.mpr (Heap.lt_size e'), by simp [q]⟩
    have z : (hidT h H).get? b = none := PySem.W.hideAll_none (trk h H) hm
    rw [z] at e; cases e

def allNews (g h : Heap) (L : Addr) : List (Addr × Obj) := (List.range h.objs.size).filterMap fun a => if a = L ∨ (g.get? a).isSome = true then none else (h.get? a).map fun o => (a, o)
def rest (g h : Heap) (L d : Addr) : List (Addr × Obj) := (allNews g h L).filter fun p => decide (p.1 ≠ d)
end L2

namespace L2
open PySem PySem.Spec PyProof.Rows

structure Mod (K : PySem.W.Frag) (mg : Str → Option Value) (base : Heap) : Prop where
  kin : K.In base
  glob : base.Ns mainGlobals mg
  blt : ∃ mb, base.Ns builtinsNs mb ∧ ∀ x : Str, x ≠ "__name__" → mb x = bootBuiltins x
  nolimit : base.NoLimit

structure Cx where
  prog : Program
  w : World
  K : PySem.W.Frag
  mg : Str → Option Value
  base : Heap
  A : Around
  N : List Str
  s₀ : Shared
  H₀ : Hp
  env : Env
  outer : List Env
  stack : List Env
  ex : List Addr
  fn : Str → Bool
  calm : Bool
  pn : List (Addr × Obj)
  xe : Value → Shared → Prop
def frs (l : List Env) : List Addr := l.filterMap (·.frame)
abbrev Cx.fs (X : Cx) : List Addr := frs X.outer

def Vis (sc : Scope) (x : Str) : Prop := sc.names.lookup x = some .local ∨ sc.names.lookup x = some .cell ∨ sc.names.lookup x = some .free
def Loc (sc : Scope) (x : Str) : Prop := sc.names.lookup x = some .local ∨ sc.names.lookup x = some .cell
def Look (env : Env) (h : Heap) (m : Str → Option Value) (x : Str) (u : Value) : Prop :=
  (env.kindOf x = some .local ∧ m x = some u) ∨ ((env.kindOf x = some .cell ∨ env.kindOf x = some .free) ∧ ∃ c, env.cells.lookup x = some c ∧ h.IsCell c (some u))

structure Cx.Ok (X : Cx) : Prop where
  mod : Mod X.K X.mg X.base
  kind : X.env.scope.kind = .function
  glob : X.env.globals = mainGlobals
  blt : X.env.builtins = builtinsNs
  above : X.s₀.heap.objs.size ≤ X.env.locals
  inj : ∀ x y c, X.env.cells.lookup x = some c → X.env.cells.lookup y = some c → x = y
  has : ∀ x, (X.env.kindOf x = some .cell ∨ X.env.kindOf x = some .free) → ∃ c, X.env.cells.lookup x = some c
  cab : ∀ x c, X.fn x = true → X.env.cells.lookup x = some c → X.s₀.heap.objs.size ≤ c
  hd : X.calm = true → X.A.handled = none
  frames : X.A.frames = some X.stack
  stk : X.stack = X.outer ∨ (X.stack = X.env :: X.outer ∧ X.env.frame = some X.env.locals)
  exf : ∀ b ∈ X.ex, b ≠ X.env.locals ∧ ∀ x c, X.env.cells.lookup x = some c → c ≠ b
  bs : ∀ b o, X.base.get? b = some o → X.s₀.heap.get? b = some o ∧ X.H₀ b = none
  bsz : X.base.objs.size ≤ X.s₀.heap.objs.size
  noex : ∀ b o, X.base.get? b = some o → b ∉ X.ex
  exfs : ∀ b ∈ X.ex, b ∉ X.fs
  funs : X.s₀.heap.FunFrames X.base X.outer
  frf : ∀ b ∈ X.fs, X.H₀ b = none

structure Inv (X : Cx) (pins : List (Addr × Obj)) (σ : List (Option V)) (H : Hp) (s : Shared) : Prop where
  ok : X.Ok
  os : s.os = X.s₀.os
  bare : AllBare s.gens
  base : Un X.fs X.ex X.H₀ H X.s₀.heap s.heap
  loc : ∃ m, s.heap.Ns X.env.locals m ∧ ∀ (i : Nat) (x : Str) (v : V), X.N[i]? = some x → σ[i]? = some (some v) → Vis X.env.scope x → ∃ u, RelV v u ∧ Look X.env s.heap m x u
  cell : ∀ x c, X.env.cells.lookup x = some c → ∃ v, s.heap.IsCell c v
  free : H X.env.locals = none
  freeC : ∀ x c, X.env.cells.lookup x = some c → H c = none
  pin : ∀ p ∈ X.pn ++ pins, s.heap.get? p.1 = some p.2 ∧ H p.1 = none ∧ p.1 ≠ X.env.locals ∧ p.1 ∉ X.fs ∧ ∀ v, p.2.data ≠ .cell v
  hok : HOk X.prog X.w H s.heap
  len : σ.length = X.N.length

section
variable {X : Cx} {pins : List (Addr × Obj)} {σ : List (Option V)} {H H' : Hp} {s : Shared} {h' : Heap}

theorem Cx.Ok.nofr (ok : X.Ok) {b : Addr} {o : Obj} (e : X.base.get? b = some o) : b ∉ X.fs := fun hb => by
  have := (ok.funs.mem hb).1
  rw [e] at this; cases this
theorem Inv.bs (I : Inv X pins σ H s) : ∀ b o, X.base.get? b = some o → s.heap.get? b = some o ∧ H b = none := fun b o e =>
  ⟨I.base.keep b o (I.ok.bs b o e).1 (I.ok.bs b o e).2 (I.ok.nofr e) (I.ok.noex b o e), I.base.free b o (I.ok.bs b o e).1 (I.ok.bs b o e).2 (I.ok.noex b o e)⟩
theorem Inv.bk (I : Inv X pins σ H s) : ∀ b o, X.base.get? b = some o → s.heap.get? b = some o := fun b o e => (I.bs b o e).1
theorem Inv.mod (I : Inv X pins σ H s) : Mod X.K X.mg X.base := I.ok.mod
theorem Inv.kIn (I : Inv X pins σ H s) : X.K.In s.heap := I.ok.mod.kin.keeps I.bk
theorem Inv.lt (I : Inv X pins σ H s) : X.env.locals < s.heap.objs.size := let ⟨_, hn, _⟩ := I.loc; hn.lt
theorem Inv.sz (I : Inv X pins σ H s) : X.s₀.heap.objs.size ≤ s.heap.objs.size := Nat.le_trans I.ok.above (Nat.le_of_lt I.lt)
theorem Inv.nofs (I : Inv X pins σ H s) {a : Addr} (h : s.heap.objs.size ≤ a) : a ∉ X.fs := fun hb => by
  obtain ⟨_, o, ho, _⟩ := I.ok.funs.mem hb
  exact absurd (Nat.lt_of_lt_of_le (Heap.lt_size ho) (Nat.le_trans I.sz h)) (Nat.lt_irrefl _)
theorem Inv.cne (I : Inv X pins σ H s) : ∀ x c, X.env.cells.lookup x = some c → c ≠ X.env.locals := fun x c e z => by
  obtain ⟨v, o, ho, hd⟩ := I.cell x c e
  obtain ⟨m, ⟨o', es, ep, ho', hd', _⟩, _⟩ := I.loc
  rw [z, ho'] at ho; cases ho; rw [hd'] at hd; cases hd
theorem Inv.funs (I : Inv X pins σ H s) : s.heap.FunFrames X.base X.outer := by
  have all : ∀ (l : List Env), (∀ b ∈ frs l, b ∈ X.fs) → X.s₀.heap.FunFrames X.base l → s.heap.FunFrames X.base l := by
    intro l
    induction l with
    | nil => intro _ _; trivial
    | cons env r ih =>
      intro hs hl
      obtain ⟨hk, ⟨L, o, hf, hn, ho, hd⟩, hr⟩ := hl
      have hL : L ∈ X.fs := hs L (by unfold frs; rw [List.filterMap_cons, hf]; exact List.mem_cons_self)
      obtain ⟨sl, e⟩ := I.base.slot L o ho (I.ok.frf L hL) hL fun z => I.ok.exfs L z hL
      exact ⟨hk, ⟨L, _, hf, hn, e, hd⟩, ih (fun b hb => hs b (by unfold frs; rw [List.filterMap_cons, hf]; exact List.mem_cons_of_mem _ hb)) hr⟩
  exact all X.outer (fun _ hb => hb) I.ok.funs

theorem Inv.stack (I : Inv X pins σ H s) : s.heap.FunFrames X.base X.stack := by
  rcases I.ok.stk with e | ⟨e, hf⟩
  · rw [e]; exact I.funs
  · rw [e]
    obtain ⟨m, hn, _⟩ := I.loc
    refine .cons (by rw [I.ok.kind]; decide) hf hn ?_ I.funs
    exact Heap.get?_none_of_le (Nat.le_trans I.ok.bsz I.ok.above)
theorem Inv.stkSub (I : Inv X pins σ H s) : ∀ b ∈ frs X.stack, b ∈ X.env.locals :: X.fs := fun b hb => by
  rcases I.ok.stk with e | ⟨e, hf⟩
  · rw [e] at hb; exact List.mem_cons_of_mem _ hb
  · rw [e] at hb
    unfold frs at hb
    rw [List.filterMap_cons, hf] at hb
    exact hb
theorem Inv.stkFree (I : Inv X pins σ H s) : ∀ b ∈ frs X.stack, H b = none := fun b hb => by
  rcases List.mem_cons.mp (I.stkSub b hb) with e | hb
  · rw [e]; exact I.free
  · obtain ⟨_, o, ho, _⟩ := I.ok.funs.mem hb
    exact I.base.free b o ho (I.ok.frf b hb) fun z => I.ok.exfs b z hb

theorem Inv.step {g' : Array GenState} {t' : Nat} {d' : Drawn} {ch : List Addr} (I : Inv X pins σ H s)
    (hch : ∀ b ∈ ch, (b ∈ X.ex ∨ X.s₀.heap.objs.size ≤ b) ∧ b ≠ X.env.locals ∧ (∀ x c, X.env.cells.lookup x = some c → c ≠ b) ∧ ∀ p ∈ X.pn ++ pins, p.1 ≠ b)
    (keep : ∀ b o, b ≠ X.env.locals → b ∉ X.fs → b ∉ ch → s.heap.get? b = some o → H b = none → h'.get? b = some o)
    (slot : ∀ b o, b ≠ X.env.locals → b ∈ X.fs → b ∉ ch → s.heap.get? b = some o → H b = none → ∃ sl, h'.get? b = some { o with slots := sl }) (free : ∀ b o, b ∉ ch → s.heap.get? b = some o → H b = none → H' b = none)
    (there : ∀ b o, b ∉ ch → s.heap.get? b = some o → ∃ o', h'.get? b = some o')
    (tups : ∀ b xs, H b = some (.tup xs) → H' b = some (.tup xs)) (frzs : ∀ b o u, H b = some (.frz o u) → H' b = some (.frz o u)) (tbls : ∀ b ps, H b = some (.tbl ps) → ∃ more, H' b = some (.tbl (ps ++ more)))
    (ns : ∀ m, s.heap.Ns X.env.locals m → h'.Ns X.env.locals m) (hok : HOk X.prog X.w H' h') (hg : AllBare g') :
    Inv X pins σ H' { s with heap := h', gens := g', drawn := d', toks := t' } := by
  have neL : ∀ b o, X.s₀.heap.get? b = some o → b ≠ X.env.locals := fun b o e => Nat.ne_of_lt (Nat.lt_of_lt_of_le (Heap.lt_size e) I.ok.above)
  have neC : ∀ b o, X.s₀.heap.get? b = some o → b ∉ X.ex → b ∉ ch := fun b o e hx hb => by
    rcases (hch b hb).1 with z | z
    · exact hx z
    · exact absurd (Nat.lt_of_lt_of_le (Heap.lt_size e) z) (Nat.lt_irrefl _)
  have cellK : ∀ x c, X.env.cells.lookup x = some c → ∀ v, s.heap.IsCell c v → h'.IsCell c v := fun x c e v ⟨o, ho, hd⟩ => by
    have nch : c ∉ ch := fun z => (hch c z).2.2.1 x c e rfl
    by_cases hc : c ∈ X.fs
    · obtain ⟨sl, q⟩ := slot c o (I.cne x c e) hc nch ho (I.freeC x c e)
      exact ⟨_, q, hd⟩
    · exact ⟨o, keep c o (I.cne x c e) hc nch ho (I.freeC x c e), hd⟩
  refine ⟨I.ok, I.os, hg, ⟨fun b o e n hb hx => ?_, fun b o e n hb hx => ?_, fun b o e n hx => ?_, fun b o e hx => ?_, fun b xs e => tups b xs (I.base.tups b xs e), fun b o xs e => frzs b o xs (I.base.frzs b o xs e), fun b ps e => ?_⟩, ?_, fun x c e => ?_, ?_, fun x c e => ?_, fun p hp => ?_, hok, I.len⟩
  · exact keep b o (neL b o e) hb (neC b o e hx) (I.base.keep b o e n hb hx) (I.base.free b o e n hx)
  · obtain ⟨sl, e1⟩ := I.base.slot b o e n hb hx
    obtain ⟨sl', e2⟩ := slot b _ (neL b o e) hb (neC b o e hx) e1 (I.base.free b o e n hx)
    exact ⟨sl', e2⟩
  · obtain ⟨o', e1⟩ := I.base.there b o e hx
    exact free b o' (neC b o e hx) e1 (I.base.free b o e n hx)
  · obtain ⟨o', e1⟩ := I.base.there b o e hx
    exact there b o' (neC b o e hx) e1
  · obtain ⟨m1, e1⟩ := I.base.tbls b ps e
    obtain ⟨m2, e2⟩ := tbls b _ e1
    exact ⟨m1 ++ m2, by rw [e2, Array.append_assoc]⟩
  · obtain ⟨m, hn, hl⟩ := I.loc
    refine ⟨m, ns m hn, fun i x v e1 e2 e3 => ?_⟩
    obtain ⟨u, r, l⟩ := hl i x v e1 e2 e3
    refine ⟨u, r, ?_⟩
    rcases l with l | ⟨k, c, e, z⟩
    · exact .inl l
    · exact .inr ⟨k, c, e, cellK x c e _ z⟩
  · obtain ⟨v, z⟩ := I.cell x c e
    exact ⟨v, cellK x c e v z⟩
  · obtain ⟨m, ⟨o, _, _, ho, _⟩, _⟩ := I.loc
    exact free _ o (fun z => (hch _ z).2.1 rfl) ho I.free
  · obtain ⟨v, o, ho, hd⟩ := I.cell x c e
    exact free c o (fun z => (hch c z).2.2.1 x c e rfl) ho (I.freeC x c e)
  · obtain ⟨e, n, ne, nf, d⟩ := I.pin p hp
    have nch : p.1 ∉ ch := fun z => (hch p.1 z).2.2.2 p hp rfl
    exact ⟨keep p.1 p.2 ne nf nch e n, free p.1 p.2 nch e n, ne, nf, d⟩
theorem Inv.un {t' : Nat} (I : Inv X pins σ H s) (u : Un X.fs [] H H' s.heap h') (hok : HOk X.prog X.w H' h') : Inv X pins σ H' { s with heap := h', toks := t' } := by
  obtain ⟨m, ⟨o, es, ep, ho, r⟩, _⟩ := id I.loc
  obtain ⟨sl, hL⟩ := u.any ho I.free (by simp)
  exact I.step (g' := s.gens) (d' := s.drawn) (ch := []) (fun _ z => nomatch z) (fun b o _ hb _ e n => u.keep b o e n hb (by simp)) (fun b o _ hb _ e n => u.slot b o e n hb (by simp)) (fun b o _ e n => u.free b o e n (by simp)) (fun b o _ e => u.there b o e (by simp)) u.tups u.frzs u.tbls (fun m' hm => by
    obtain ⟨o', es', ep', ho', r'⟩ := hm
    rw [ho] at ho'; cases ho'
    exact ⟨_, es', ep', hL, r'⟩) hok I.bare
theorem Inv.call {g' : Array GenState} {t' : Nat} {d' : Drawn} {ch : List Addr} (I : Inv X pins σ H s) (u : Un (frs X.stack) ch H H' s.heap h') (hok : HOk X.prog X.w H' h') (hg : AllBare g')
    (hch : ∀ b ∈ ch, (b ∈ X.ex ∨ X.s₀.heap.objs.size ≤ b) ∧ b ≠ X.env.locals ∧ (∀ x c, X.env.cells.lookup x = some c → c ≠ b) ∧ ∀ p ∈ X.pn ++ pins, p.1 ≠ b) :
    Inv X pins σ H' { s with heap := h', gens := g', drawn := d', toks := t' } := by
  obtain ⟨m, ⟨o, es, ep, ho, r⟩, _⟩ := id I.loc
  obtain ⟨sl, hL⟩ := u.any ho I.free fun z => (hch _ z).2.1 rfl
  exact I.step (ch := ch) hch (fun b o hL hb hc e n => u.keep b o e n (fun z => (List.mem_cons.mp (I.stkSub b z)).elim hL hb) hc) (fun b o _ _ hc e n => u.any e n hc) (fun b o hc e n => u.free b o e n hc) (fun b o hc e => u.there b o e hc) u.tups u.frzs u.tbls (fun m' hm => by
    obtain ⟨o', es', ep', ho', r'⟩ := hm
    rw [ho] at ho'; cases ho'
    exact ⟨_, es', ep', hL, r'⟩) hok hg
theorem Inv.turned {t' : Nat} {it : Addr} (I : Inv X pins σ H s) (k : ∀ b o, b ≠ it → s.heap.get? b = some o → h'.get? b = some o) (hn : H it = none) (hL : it ≠ X.env.locals)
    (h1 : it ∈ X.ex ∨ X.s₀.heap.objs.size ≤ it) (h2 : ∀ x c, X.env.cells.lookup x = some c → c ≠ it) (h3 : ∀ p ∈ X.pn ++ pins, p.1 ≠ it) : Inv X pins σ H { s with heap := h', toks := t' } := by
  have nit : ∀ b u, H b = some u → b ≠ it := fun b u e z => by rw [z, hn] at e; cases e
  refine I.step (g' := s.gens) (d' := s.drawn) (ch := [it]) (fun b hb => ?_) (fun b o _ _ hc e _ => k b o (fun z => hc (by simp [z])) e) (fun b o _ _ hc e _ => ⟨o.slots, k b o (fun z => hc (by simp [z])) e⟩) (fun _ _ _ _ n => n)
    (fun b o hc e => ⟨o, k b o (fun z => hc (by simp [z])) e⟩) (fun _ _ e => e) (fun _ _ _ e => e) (fun b ps e => ⟨#[], by rw [e]; simp⟩) (fun m hm => ?_) (fun b u e => ?_) I.bare
  · have e : b = it := by simpa using hb
    subst e
    exact ⟨h1, hL, h2, h3⟩
  · obtain ⟨o, es, ep, ho, r⟩ := hm
    exact ⟨o, es, ep, k _ o (Ne.symm hL) ho, r⟩
  · refine (I.hok b u e).stay (fun c v hc q => k c v ?_ q) (fun _ q => q) fun _ _ q => q
    rcases hc with z | z
    · rw [z]; exact nit b u e
    · exact nit c _ z
theorem Inv.tok (I : Inv X pins σ H s) (t : Nat) : Inv X pins σ H { s with toks := t } := I.un (h' := s.heap) (t' := t) Un.refl I.hok
theorem Inv.kept {t' : Nat} (I : Inv X pins σ H s) (k : ∀ b u, s.heap.get? b = some u → h'.get? b = some u) : Inv X pins σ H { s with heap := h', toks := t' } := I.un (Un.kept k) (I.hok.kept k)
theorem Inv.laid {a : Addr} {o : HO} {t' : Nat} (I : Inv X pins σ H s) (k : ∀ b u, s.heap.get? b = some u → h'.get? b = some u) (hp : s.heap.objs.size ≤ a) (new : ObjOk X.prog X.w (upd H a o) h' a o) :
    Inv X pins σ (upd H a o) { s with heap := h', toks := t' } := I.un (Un.laid k hp (I.hok.fresh hp)) (I.hok.laid k hp new)
theorem Inv.write {x e : Addr} {o : HO} {t' : Nat} (I : Inv X pins σ H s) (mu : Mut (H x)) (he : e = x ∨ H e = some (.own x)) (k : ∀ b u, b ≠ e → s.heap.get? b = some u → h'.get? b = some u) (heo : ∃ u, h'.get? e = some u)
    (new : ObjOk X.prog X.w (upd H x o) h' x o) : Inv X pins σ (upd H x o) { s with heap := h', toks := t' } := I.un (Un.write mu he k heo) (I.hok.write mu he k heo new)
theorem Inv.pins_of {pins' : List (Addr × Obj)} (I : Inv X pins σ H s) (h : ∀ p ∈ pins', s.heap.get? p.1 = some p.2 ∧ H p.1 = none ∧ p.1 ≠ X.env.locals ∧ p.1 ∉ X.fs ∧ ∀ v, p.2.data ≠ .cell v) : Inv X pins' σ H s :=
  ⟨I.ok, I.os, I.bare, I.base, I.loc, I.cell, I.free, I.freeC, fun p hp => (List.mem_append.mp hp).elim (fun z => I.pin p (List.mem_append_left _ z)) (h p), I.hok, I.len⟩

theorem nodup_ix {N : List Str} (hN : N.Nodup) {i j : Nat} {x : Str} (a : N[i]? = some x) (b : N[j]? = some x) : i = j := by
  obtain ⟨h1, e1⟩ := List.getElem?_eq_some_iff.mp a
  obtain ⟨h2, e2⟩ := List.getElem?_eq_some_iff.mp b
  exact (List.getElem_inj hN).mp (e1.trans e2.symm)

theorem store_ok2 {M : Model} {A : Around} {E : Value → Shared → Prop} {i : Nat} {x : Str} {v : V} {u : Value} {Q : Unit → Shared → Prop} (I : Inv X pins σ H s) (hN : X.N.Nodup) (hi : X.N[i]? = some x) (hx : Loc X.env.scope x) (r : RelV v u)
    (h : ∀ s', Inv X pins (σ.set i (some v)) H s' → (∃ a, Heap.SameBut a s.heap s'.heap ∧ (a = X.env.locals ∨ X.env.cells.lookup x = some a)) → Q () s') (hf : X.fn x = true ∨ X.env.scope.names.lookup x = some .local := by first | exact .inl rfl | exact .inr rfl | assumption) : wpAny M A (storeName X.env x u) Q E s := by
  obtain ⟨m, hn, hl⟩ := id I.loc
  have hcls : (X.env.scope.kind == .class || (X.env.scope.kind == .module && X.env.locals != X.env.globals)) = false := by rw [I.ok.kind]; rfl
  have hiσ : i < σ.length := by rw [I.len]; exact (List.getElem?_eq_some_iff.mp hi).1
  have cne := I.cne
  have tracked : ∀ {a : Addr} {h' : Heap}, (∃ o, s.heap.get? a = some o ∧ H a = none) → Heap.SameBut a s.heap h' → HOk X.prog X.w H h' := fun {a h'} ha hs b ob e => by
    obtain ⟨_, _, hfree⟩ := ha
    refine (I.hok b ob e).stay (fun c w' hc q => (hs.2 c ?_).trans q) (fun _ q => q) fun _ _ q => q
    rintro rfl
    rcases hc with rfl | hc
    · rw [hfree] at e; cases e
    · rw [hfree] at hc; cases hc
  rcases hx with hk | hk
  · refine wpAny_storeName_local hk hn (fun h' hn' hs => ?_) hcls
    obtain ⟨oL, _, _, hoL, _⟩ := id hn
    refine h _ ⟨I.ok, I.os, I.bare, ⟨fun b o e n hb hx => ?_, fun b o e n hb hx => ?_, I.base.free, fun b o e hx => ?_, I.base.tups, I.base.frzs, I.base.tbls⟩, ⟨_, hn', fun j y v' e1 e2 e3 => ?_⟩, fun y c e => ?_, I.free, I.freeC, fun p hp => ?_, tracked ⟨oL, hoL, I.free⟩ hs, by simpa using I.len⟩ ⟨_, hs, .inl rfl⟩
    · exact (hs.2 b (Nat.ne_of_lt (Nat.lt_of_lt_of_le (Heap.lt_size e) I.ok.above))).trans (I.base.keep b o e n hb hx)
    · obtain ⟨sl, e1⟩ := I.base.slot b o e n hb hx
      exact ⟨sl, (hs.2 b (Nat.ne_of_lt (Nat.lt_of_lt_of_le (Heap.lt_size e) I.ok.above))).trans e1⟩
    · obtain ⟨o', e1⟩ := I.base.there b o e hx
      exact ⟨o', (hs.2 b (Nat.ne_of_lt (Nat.lt_of_lt_of_le (Heap.lt_size e) I.ok.above))).trans e1⟩
    · by_cases hj : j = i
      · subst hj
        rw [hi] at e1; cases e1
        rw [List.getElem?_set_self hiσ] at e2
        cases e2
        exact ⟨u, r, .inl ⟨hk, by simp⟩⟩
      · rw [List.getElem?_set_ne (Ne.symm hj)] at e2
        obtain ⟨u', r', q⟩ := hl j y v' e1 e2 e3
        refine ⟨u', r', ?_⟩
        rcases q with ⟨k, e⟩ | ⟨k, c, e, z⟩
        · refine .inl ⟨k, ?_⟩
          have : y ≠ x := fun e => hj (nodup_ix hN e1 (e ▸ hi))
          simp [this, e]
        · exact .inr ⟨k, c, e, z.sameBut hs (cne y c e)⟩
    · obtain ⟨w', z⟩ := I.cell y c e
      exact ⟨w', z.sameBut hs (cne y c e)⟩
    · obtain ⟨e, n, ne, nf, d⟩ := I.pin p hp
      exact ⟨(hs.2 p.1 ne).trans e, n, ne, nf, d⟩
  · have hfn : X.fn x = true := by
      rcases hf with z | z
      · exact z
      · rw [z] at hk; cases hk
    obtain ⟨c, hc⟩ := I.ok.has x (.inl hk)
    obtain ⟨w', z⟩ := I.cell x c hc
    refine wpAny_storeName_cell I.ok.kind hk hc z (fun h' hc' hs => ?_)
    obtain ⟨oc, hoc, hocd⟩ := id z
    refine h { s with heap := h' } ⟨I.ok, I.os, I.bare, ⟨fun b o e n hb hx => ?_, fun b o e n hb hx => ?_, I.base.free, fun b o e hx => ?_, I.base.tups, I.base.frzs, I.base.tbls⟩, ⟨m, hn.sameBut hs (Ne.symm (cne x c hc)), fun j y v' e1 e2 e3 => ?_⟩, fun y c' e => ?_, I.free, I.freeC, fun p hp => ?_, tracked ⟨oc, hoc, I.freeC x c hc⟩ hs, by simpa using I.len⟩ ⟨c, hs, .inr hc⟩
    · exact (hs.2 b (Nat.ne_of_lt (Nat.lt_of_lt_of_le (Heap.lt_size e) (I.ok.cab x c hfn hc)))).trans (I.base.keep b o e n hb hx)
    · obtain ⟨sl, e1⟩ := I.base.slot b o e n hb hx
      exact ⟨sl, (hs.2 b (Nat.ne_of_lt (Nat.lt_of_lt_of_le (Heap.lt_size e) (I.ok.cab x c hfn hc)))).trans e1⟩
    · obtain ⟨o', e1⟩ := I.base.there b o e hx
      exact ⟨o', (hs.2 b (Nat.ne_of_lt (Nat.lt_of_lt_of_le (Heap.lt_size e) (I.ok.cab x c hfn hc)))).trans e1⟩
    · by_cases hj : j = i
      · subst hj
        rw [hi] at e1; cases e1
        rw [List.getElem?_set_self hiσ] at e2
        cases e2
        exact ⟨u, r, .inr ⟨.inl hk, c, hc, hc'⟩⟩
      · rw [List.getElem?_set_ne (Ne.symm hj)] at e2
        obtain ⟨u', r', q⟩ := hl j y v' e1 e2 e3
        refine ⟨u', r', ?_⟩
        rcases q with q | ⟨k, c', e, z'⟩
        · exact .inl q
        · refine .inr ⟨k, c', e, z'.sameBut hs ?_⟩
          rintro rfl
          exact hj (nodup_ix hN e1 (I.ok.inj _ _ _ e hc ▸ hi))
    · by_cases hcc : c' = c
      · subst hcc; exact ⟨_, hc'⟩
      · obtain ⟨w2, z2⟩ := I.cell y c' e
        exact ⟨w2, z2.sameBut hs hcc⟩
    · obtain ⟨e, n, ne, nf, d⟩ := I.pin p hp
      refine ⟨(hs.2 p.1 ?_).trans e, n, ne, nf, d⟩
      intro q
      rw [q, hoc] at e
      have q' : oc = p.2 := Option.some.inj e
      exact d w' (by rw [← q']; exact hocd)
theorem store_ok {M : Model} {A : Around} {E : Value → Shared → Prop} {i : Nat} {x : Str} {v : V} {u : Value} {Q : Unit → Shared → Prop} (I : Inv X pins σ H s) (hN : X.N.Nodup) (hi : X.N[i]? = some x) (hx : Loc X.env.scope x) (r : RelV v u)
    (h : ∀ s', Inv X pins (σ.set i (some v)) H s' → Q () s') (hf : X.fn x = true ∨ X.env.scope.names.lookup x = some .local := by first | exact .inl rfl | exact .inr rfl | assumption) : wpAny M A (storeName X.env x u) Q E s :=
  store_ok2 I hN hi hx r (fun s' I' _ => h s' I') hf
theorem Inv.call' {s' : Shared} {ch : List Addr} (I : Inv X pins σ H s) (ho : s'.os = s.os) (u : Un (frs X.stack) ch H H' s.heap s'.heap) (hok : HOk X.prog X.w H' s'.heap) (hg : AllBare s'.gens)
    (hch : ∀ b ∈ ch, (b ∈ X.ex ∨ X.s₀.heap.objs.size ≤ b) ∧ b ≠ X.env.locals ∧ (∀ x c, X.env.cells.lookup x = some c → c ≠ b) ∧ ∀ p ∈ X.pn ++ pins, p.1 ≠ b) : Inv X pins σ H' s' := by
  obtain ⟨h', g', d', t', o'⟩ := s'
  have e : o' = s.os := ho
  subst e
  exact I.call (g' := g') (t' := t') (d' := d') u hok hg hch
end

abbrev XK := Value → Option Addr → Hp → Prop
abbrev St := List (Option V)
abbrev VK := V → Hp → Prop
abbrev TE := St → Hp → VK → Prop
abbrev TT := St → Hp → (Bool → Hp → Prop) → Prop
abbrev TA := St → Hp → (List V → Hp → Prop) → Prop
structure Ends where
  nx : St → Hp → Prop
  rt : VK
  bk : St → Hp → Prop := fun _ _ => False
  ct : St → Hp → Prop := fun _ _ => False
abbrev TS := Ends → St → Hp → Prop

def EP (X : Cx) (pins : List (Addr × Obj)) (σ : St) (Q : VK) (u : Value) (s' : Shared) : Prop := ∃ v H', Inv X pins σ H' s' ∧ RelV v u ∧ Q v H'
def TP (X : Cx) (pins : List (Addr × Obj)) (σ : St) (Q : Bool → Hp → Prop) (b : Bool) (s' : Shared) : Prop := ∃ H', Inv X pins σ H' s' ∧ Q b H'
def AP (X : Cx) (pins : List (Addr × Obj)) (σ : St) (Q : List V → Hp → Prop) (us : List Value) (s' : Shared) : Prop := ∃ vs H', Inv X pins σ H' s' ∧ Vals vs us ∧ Q vs H'
def SP (X : Cx) (pins : List (Addr × Obj)) (D : Ends) (f : Flow) (s' : Shared) : Prop :=
  match f with
  | .next => ∃ σ' H', Inv X pins σ' H' s' ∧ D.nx σ' H'
  | .brk => ∃ σ' H', Inv X pins σ' H' s' ∧ D.bk σ' H'
  | .cont => ∃ σ' H', Inv X pins σ' H' s' ∧ D.ct σ' H'
  | .ret u => ∃ v σ' H', Inv X pins σ' H' s' ∧ RelV v u ∧ D.rt v H'

def PE (X : Cx) (e : Expr) (t : TE) : Prop :=
  ∀ (pins : List (Addr × Obj)) (s : Shared) (σ : St) (H : Hp) (Q : VK), Inv X pins σ H s → t σ H Q → wpAny (model X.prog X.w) X.A (eval e X.env) (EP X pins σ Q) X.xe s
def PT (X : Cx) (e : Expr) (t : TT) : Prop :=
  ∀ (pins : List (Addr × Obj)) (s : Shared) (σ : St) (H : Hp) (Q : Bool → Hp → Prop), Inv X pins σ H s → t σ H Q → wpAny (model X.prog X.w) X.A (isTrue e X.env (eval e X.env)) (TP X pins σ Q) X.xe s
def PW (X : Cx) (e : Expr) (t : TT) : Prop :=
  ∀ (whole : Sem Value) (pins : List (Addr × Obj)) (s : Shared) (σ : St) (H : Hp) (Q : Bool → Hp → Prop), Inv X pins σ H s → t σ H Q → wpAny (model X.prog X.w) X.A (isTrue e X.env whole) (TP X pins σ Q) X.xe s
theorem PW.pt {X : Cx} {e : Expr} {t : TT} (h : PW X e t) : PT X e t := h _
def PA (X : Cx) (es : List Expr) (t : TA) : Prop :=
  ∀ (pos : Pos) (pins : List (Addr × Obj)) (s : Shared) (σ : St) (H : Hp) (Q : List V → Hp → Prop), Inv X pins σ H s → t σ H Q → wpAny (model X.prog X.w) X.A (spliced (backTo pos (starEach es X.env))) (AP X pins σ Q) X.xe s
def PS (X : Cx) (st : Stmt) (t : TS) : Prop :=
  ∀ (pins : List (Addr × Obj)) (s : Shared) (σ : St) (H : Hp) (D : Ends), Inv X pins σ H s → t D σ H → wpAny (model X.prog X.w) X.A (exec st X.env) (SP X pins D) X.xe s
def PSs (X : Cx) (st : List Stmt) (t : TS) : Prop :=
  ∀ (pins : List (Addr × Obj)) (s : Shared) (σ : St) (H : Hp) (D : Ends), Inv X pins σ H s → t D σ H → wpAny (model X.prog X.w) X.A (execs st X.env) (SP X pins D) X.xe s
theorem thn {α : Type} {t : Sem α} {Q Q' : α → Shared → Prop} {M : Model} {A : Around} {E : Value → Shared → Prop} {s : Shared} (h : wpAny M A t Q E s) (hQ : ∀ a s, Q a s → Q' a s) : wpAny M A t Q' E s := wpAny_mono h hQ fun _ _ x => x
end L2

namespace L2
open PySem PySem.Spec PyProof.Rows
section
variable {X : Cx}

theorem bin {a b : Expr} {ta tb : TE} (ha : PE X a ta) (hb : PE X b tb) {pins : List (Addr × Obj)} {s : Shared} {σ : St} {H : Hp} {R : V → V → Hp → Prop} (I : Inv X pins σ H s) (h : ta σ H fun x H1 => tb σ H1 fun y H2 => R x y H2)
    {α : Type} {Q : α → Shared → Prop} {f : Value → Value → Sem α}
    (hf : ∀ v u s2 x y H2, Inv X pins σ H2 s2 → RelV x v → RelV y u → R x y H2 → wpAny (model X.prog X.w) X.A (f v u) Q X.xe s2) :
    wpAny (model X.prog X.w) X.A (eval a X.env) (fun v s₁ => wpAny (model X.prog X.w) X.A (eval b X.env) (fun u s₂ => wpAny (model X.prog X.w) X.A (f v u) Q X.xe s₂) X.xe s₁) X.xe s := by
  refine thn (ha pins s σ H _ I h) fun v s1 ⟨x, H1, I1, r1, q1⟩ => ?_
  refine thn (hb pins s1 σ H1 _ I1 q1) fun u s2 ⟨y, H2, I2, r2, q2⟩ => ?_
  exact hf v u s2 x y H2 I2 r1 r2 q2

def tVar (i : Nat) : TE := fun σ H Q => ∃ v, σ[i]? = some (some v) ∧ Q v H
def tC (v : V) : TE := fun _ H Q => Q v H
theorem pe_var {i : Nat} {x : Str} {pos : Pos} (hN : X.N[i]? = some x) (hv : Vis X.env.scope x) (hd : (x == ("__debug__" : Str)) = false := by decide) (hcd : (x == ("__classdict__" : Str)) = false := by decide) : PE X (.Name x pos) (tVar i) := by
  intro pins s σ H Q I h
  obtain ⟨v, e, h⟩ := h
  obtain ⟨m, hn, hl⟩ := I.loc
  obtain ⟨u, r, l⟩ := hl i x v hN e hv
  have fin : EP X pins σ Q u s := ⟨v, H, I, r, h⟩
  rcases l with ⟨hk, hm⟩ | ⟨hk, c, hc, hcell⟩
  · exact wpAny_Name (wpAny_loadName_local I.ok.kind hk hn hm fin) hd
  · rcases hk with hk | hk
    · exact wpAny_Name (wpAny_loadName_cell I.ok.kind hk hc hcell fin) hd
    · exact wpAny_Name (wpAny_loadName_free I.ok.kind hk hc hcell fin hcd) hd
theorem pe_int {i j pos} : PE X (.Constant (.int i) j pos) (tC (.int i)) := fun _ _ _ H _ I h => wpAny_Constant_int ⟨.int i, H, I.tok _, ⟨_, rfl⟩, h⟩
theorem pe_bl {b j pos} : PE X (.Constant (.bool b) j pos) (tC (.bl b)) := fun _ _ _ H _ I h => Constant_bool ⟨.bl b, H, I, rfl, h⟩
def Gl (X : Cx) (x : Str) : Prop := X.env.kindOf x = some .globalImplicit
theorem ld_glob {E : Value → Shared → Prop} {pins : List (Addr × Obj)} {s : Shared} {σ : St} {H : Hp} {x : Str} {u : Value} {pos : Pos} {Q : Value → Shared → Prop} (I : Inv X pins σ H s) (hg : Gl X x) (hm : X.mg x = some u) (h : Q u s)
    (hd : (x == ("__debug__" : Str)) = false := by decide) : wpAny (model X.prog X.w) X.A (eval (.Name x pos) X.env) Q E s :=
  Calls.Name_function_global I.ok.kind hg (Calls.loadGlobal_global (by rw [I.ok.glob]; exact I.mod.glob.keeps I.bk) hm h) hd
theorem ld_blt {E : Value → Shared → Prop} {pins : List (Addr × Obj)} {s : Shared} {σ : St} {H : Hp} {x : Str} {u : Value} {pos : Pos} {Q : Value → Shared → Prop} (I : Inv X pins σ H s) (hg : Gl X x) (hm : X.mg x = none) (hv : bootBuiltins x = some u) (h : Q u s)
    (hn : x ≠ "__name__" := by decide) (hd : (x == ("__debug__" : Str)) = false := by decide) : wpAny (model X.prog X.w) X.A (eval (.Name x pos) X.env) Q E s := by
  obtain ⟨mb, h1, h2⟩ := I.mod.blt
  exact Calls.Name_function_global I.ok.kind hg (Calls.loadGlobal_builtin (by rw [I.ok.glob]; exact I.mod.glob.keeps I.bk) hm (by rw [I.ok.blt]; exact h1.keeps I.bk) ((h2 x hn).trans hv) h) hd
theorem pe_bltn {x : Str} {v : V} {u : Value} {pos : Pos} (hg : Gl X x) (hm : X.mg x = none) (hv : bootBuiltins x = some u) (r : RelV v u) (hn : x ≠ "__name__" := by decide) (hd : (x == ("__debug__" : Str)) = false := by decide) : PE X (.Name x pos) (tC v) :=
  fun _ _ _ H _ I h => ld_blt I hg hm hv ⟨v, H, I, r, h⟩ hn hd

variable {a b : Expr} {ta tb : TE} {pos : Pos}
def PC (X : Cx) (op : CmpOp) (a b : Expr) (t : TE) : Prop :=
  ∀ (pins : List (Addr × Obj)) (s : Shared) (σ : St) (H : Hp) (Q : VK), Inv X pins σ H s → t σ H Q →
    wpAny (model X.prog X.w) X.A (eval a X.env) (fun v s₁ => wpAny (model X.prog X.w) X.A (eval b X.env) (fun u s₂ => wpAny (model X.prog X.w) X.A (compareOp op v u) (EP X pins σ Q) X.xe s₂) X.xe s₁) X.xe s
variable {tA tB' : TT} {rest : List Expr}
def tAnd (t u : TT) : TT := fun σ H Q => t σ H fun c H1 => if c = true then u σ H1 Q else Q false H1
def tOr (t u : TT) : TT := fun σ H Q => t σ H fun c H1 => if c = true then Q true H1 else u σ H1 Q
def tNot (t : TT) : TT := fun σ H Q => t σ H fun c H1 => Q (!c) H1
theorem pw_and1 (ha : PT X a tA) : PW X (.BoolOp .And [a] pos) tA := by
  intro wh pins s σ H Q I h
  refine isTrue_and (thn (ha pins s σ H Q I h) fun c s1 e => ?_)
  cases c with
  | true => exact isTrue_and_nil e
  | false => exact e
theorem pw_or1 (ha : PT X a tA) : PW X (.BoolOp .Or [a] pos) tA := by
  intro wh pins s σ H Q I h
  refine isTrue_or (thn (ha pins s σ H Q I h) fun c s1 e => ?_)
  cases c with
  | false => exact isTrue_or_nil e
  | true => exact e
theorem pw_and (ha : PT X a tA) (hb : PW X (.BoolOp .And (b :: rest) pos) tB') : PW X (.BoolOp .And (a :: b :: rest) pos) (tAnd tA tB') := by
  intro wh pins s σ H Q I h
  refine isTrue_and (thn (ha pins s σ H _ I h) fun c s1 ⟨H1, I1, q1⟩ => ?_)
  cases c with
  | true => exact hb wh pins s1 σ H1 Q I1 q1
  | false => exact ⟨H1, I1, q1⟩
theorem pw_or (ha : PT X a tA) (hb : PW X (.BoolOp .Or (b :: rest) pos) tB') : PW X (.BoolOp .Or (a :: b :: rest) pos) (tOr tA tB') := by
  intro wh pins s σ H Q I h
  refine isTrue_or (thn (ha pins s σ H _ I h) fun c s1 ⟨H1, I1, q1⟩ => ?_)
  cases c with
  | true => exact ⟨H1, I1, q1⟩
  | false => exact hb wh pins s1 σ H1 Q I1 q1
theorem pt_not (ha : PT X a tA) : PT X (.UnaryOp .Not a pos) (tNot tA) := by
  intro pins s σ H Q I h
  exact isTrue_not (ha pins s σ H (fun c H1 => Q (!c) H1) I h)
def tAndV (ta tb : TE) : TE := fun σ H Q => ta σ H fun x H1 => ∃ c, x = .bl c ∧ if c = true then tb σ H1 Q else Q (.bl false) H1
theorem pe_one {op} {t : TE} (h : PE X a t) : PE X (.BoolOp op [a] pos) t := fun pins s σ H Q I hw => BoolOp_one (h pins s σ H Q I hw)
theorem pe_and (ha : PE X a ta) (hb : PE X (.BoolOp .And (b :: rest) pos) tb) : PE X (.BoolOp .And (a :: b :: rest) pos) (tAndV ta tb) := by
  intro pins s σ H Q I h
  refine BoolOp_and (thn (ha pins s σ H _ I h) fun v s1 ⟨x, H1, I1, r1, q1⟩ => ?_)
  obtain ⟨c, rfl, q1⟩ := q1
  cases r1
  refine wpAny_truthy_bool ?_
  cases c with
  | true => exact hb pins s1 σ H1 Q I1 q1
  | false => exact ⟨.bl false, H1, I1, rfl, q1⟩
def tIf (t : TT) (ta tb : TE) : TE := fun σ H Q => t σ H fun c H1 => if c = true then ta σ H1 Q else tb σ H1 Q
theorem pe_ifExp {c : Expr} (hc : PT X c tA) (ha : PE X a ta) (hb : PE X b tb) : PE X (.IfExp c a b pos) (tIf tA ta tb) := by
  intro pins s σ H Q I h
  refine wpAny_IfExp (thn (hc pins s σ H _ I h) fun d s1 ⟨H1, I1, q1⟩ => ?_)
  cases d with
  | true => exact ha pins s1 σ H1 Q I1 q1
  | false => exact hb pins s1 σ H1 Q I1 q1
end
end L2

namespace L2
open PySem PySem.Spec PyProof.Rows

def SqL (K : PySem.W.Frag) (H : Hp) (a : Addr) (xs : List V) : Prop :=
  Rd H a (.lst xs) ∨
    ∃ (o : Obj) (its : Array Value) (n : Nat), K.lookup a = some o ∧ o.cls = .type "list" ∧ o.dict = none ∧ o.data = .seq its n ∧ its.size ≤ sizeLine ∧ Vals xs its.toList
def SqT (K : PySem.W.Frag) (H : Hp) (a : Addr) (xs : List V) : Prop :=
  Rd H a (.tup xs) ∨
    ∃ (o : Obj) (its : Array Value) (n : Nat), K.lookup a = some o ∧ o.cls = .type "tuple" ∧ o.data = .seq its n ∧ its.size ≤ sizeLine ∧ Vals xs its.toList
def absV : Value → Option V
  | .none => some .non
  | .bool b => some (.bl b)
  | .int i _ => some (.int i)
  | .str x _ => some (.str x)
  | .bytes b _ => some (.byt b)
  | .float b _ => some (.flt b)
  | .ref a => some (.ref a)
  | .type n => some (.ty n)
  | _ => none
theorem RelV.abs {x : V} {u : Value} (r : RelV x u) : absV u = some x := by
  cases x with
  | non => cases r; rfl
  | bl _ => cases r; rfl
  | int _ => obtain ⟨t, rfl⟩ := r; rfl
  | str _ => obtain ⟨t, rfl⟩ := r; rfl
  | byt _ => obtain ⟨t, rfl⟩ := r; rfl
  | flt _ => obtain ⟨t, rfl⟩ := r; rfl
  | ref _ => cases r; rfl
  | ty _ => cases r; rfl
theorem RelV.inj {x y : V} {u : Value} (r : RelV x u) (q : RelV y u) : x = y := Option.some.inj (r.abs.symm.trans q.abs)
theorem Vals.inj : ∀ {xs ys : List V} {us : List Value}, Vals xs us → Vals ys us → xs = ys
  | _, _, _, .nil, .nil => rfl
  | _, _, _, .cons r t, .cons r' t' => by rw [r.inj r', Vals.inj t t']
section
variable {X : Cx} {pins : List (Addr × Obj)} {σ : St} {H : Hp} {s : Shared} {a : Addr} {xs ys : List V}
theorem SqL.of {K : PySem.W.Frag} (h : H a = some (.lst xs)) : SqL K H a xs := .inl (.inl h)
theorem SqT.of {K : PySem.W.Frag} (h : H a = some (.tup xs)) : SqT K H a xs := .inl (.inl h)
theorem Inv.list (I : Inv X pins σ H s) (h : SqL X.K H a xs) : ∃ its : List Value, Vals xs its ∧ PlainL s.heap a its.toArray ∧ xs.length ≤ sizeLine := by
  rcases h with h | ⟨o, its, n, hk, hc, hd, hs, hz, r⟩
  · obtain ⟨z, its, n, r, e⟩ := h.ok I.hok
    exact ⟨its, r, ⟨_, n, e, rfl, rfl, rfl⟩, z⟩
  · refine ⟨its.toList, r, ⟨o, n, I.kIn a o hk, hc, hd, by simpa using hs⟩, ?_⟩
    have e := r.length
    simp only [Array.length_toList] at e
    omega
theorem Inv.tuple (I : Inv X pins σ H s) (h : SqT X.K H a xs) : ∃ its : List Value, Vals xs its ∧ IsTup s.heap a its.toArray ∧ xs.length ≤ sizeLine := by
  rcases h with h | ⟨o, its, n, hk, hc, hs, hz, r⟩
  · obtain ⟨z, its, r, p⟩ := h.ok I.hok
    exact ⟨its, r, p, z⟩
  · refine ⟨its.toList, r, ⟨o, I.kIn a o hk, hc, n, by simpa using hs⟩, ?_⟩
    have e := r.length
    simp only [Array.length_toList] at e
    omega
theorem Inv.list_inj (I : Inv X pins σ H s) (h : SqL X.K H a xs) (h' : SqL X.K H a ys) : xs = ys := by
  obtain ⟨its, r, ⟨o, n, e, _, _, d⟩, _⟩ := I.list h
  obtain ⟨its', r', ⟨o', n', e', _, _, d'⟩, _⟩ := I.list h'
  rw [e] at e'; cases e'
  rw [d] at d'
  injection d' with d1 _
  have : its = its' := by simpa using congrArg Array.toList d1
  subst this
  exact r.inj r'
end

abbrev Cx.wish (X : Cx) (E : Value → Shared → Prop) : Cx := { X with xe := E }
abbrev Cx.nox (X : Cx) : Cx := X.wish fun _ _ => False
theorem Cx.Ok.wish {X : Cx} (ok : X.Ok) (E : Value → Shared → Prop) : (X.wish E).Ok :=
  ⟨ok.mod, ok.kind, ok.glob, ok.blt, ok.above, ok.inj, ok.has, ok.cab, ok.hd, ok.frames, ok.stk, ok.exf, ok.bs, ok.bsz, ok.noex, ok.exfs, ok.funs, ok.frf⟩
theorem Cx.Ok.unwish {X : Cx} {E : Value → Shared → Prop} (ok : (X.wish E).Ok) : X.Ok :=
  ⟨ok.mod, ok.kind, ok.glob, ok.blt, ok.above, ok.inj, ok.has, ok.cab, ok.hd, ok.frames, ok.stk, ok.exf, ok.bs, ok.bsz, ok.noex, ok.exfs, ok.funs, ok.frf⟩
section
variable {X : Cx} {pins : List (Addr × Obj)} {σ : St} {H : Hp} {s : Shared} {E : Value → Shared → Prop}
theorem Inv.wish (I : Inv X pins σ H s) (E : Value → Shared → Prop) : Inv (X.wish E) pins σ H s := ⟨I.ok.wish E, I.os, I.bare, I.base, I.loc, I.cell, I.free, I.freeC, I.pin, I.hok, I.len⟩
theorem Inv.unwish (I : Inv (X.wish E) pins σ H s) : Inv X pins σ H s := ⟨I.ok.unwish, I.os, I.bare, I.base, I.loc, I.cell, I.free, I.freeC, I.pin, I.hok, I.len⟩
theorem SP.unwish {D : Ends} {f : Flow} {s' : Shared} (h : SP (X.wish E) pins D f s') : SP X pins D f s' := by
  cases f with
  | next => obtain ⟨σ', H', I, q⟩ := h; exact ⟨σ', H', I.unwish, q⟩
  | brk => obtain ⟨σ', H', I, q⟩ := h; exact ⟨σ', H', I.unwish, q⟩
  | cont => obtain ⟨σ', H', I, q⟩ := h; exact ⟨σ', H', I.unwish, q⟩
  | ret u => obtain ⟨v, σ', H', I, r, q⟩ := h; exact ⟨v, σ', H', I.unwish, r, q⟩
theorem PSs.nox {st : List Stmt} {t : TS} (h : PSs X.nox st t) : PSs X st t := fun pins s σ H D I hw =>
  wpAny_mono (h pins s σ H D (I.wish _) hw) (fun _ _ q => q.unwish) fun _ _ z => False.elim z
end

section
variable {X : Cx} {st : Stmt} {rest : List Stmt} {t u : TS} {e : Expr} {te : TE} {pos : Pos}
def tNext : TS := fun D σ H => D.nx σ H
def tSeq (t u : TS) : TS := fun D σ H => t { D with nx := u D } σ H
theorem pss_nil : PSs X [] tNext := fun _ _ σ H _ I h => wpAny_execs_nil ⟨σ, H, I, h⟩
theorem pss_cons (h1 : PS X st t) (h2 : PSs X rest u) : PSs X (st :: rest) (tSeq t u) := by
  intro pins s σ H D I h
  refine wpAny_execs_cons (thn (h1 pins s σ H { D with nx := u D } I h) fun f s1 q => ?_)
  cases f with
  | next =>
    obtain ⟨σ', H', I', q⟩ := q
    exact h2 pins s1 σ' H' D I' q
  | ret v => exact q
  | brk => exact q
  | cont => exact q
theorem pss_one (h1 : PS X st t) : PSs X [st] t := by
  intro pins s σ H D I h
  refine wpAny_execs_cons (thn (h1 pins s σ H D I h) fun f s1 q => ?_)
  cases f with
  | next => exact wpAny_execs_nil q
  | ret v => exact q
  | brk => exact q
  | cont => exact q
def tBreak : TS := fun D σ H => D.bk σ H
def tCont : TS := fun D σ H => D.ct σ H
theorem Inv.quiet {pins : List (Addr × Obj)} {σ : St} {H : Hp} {s : Shared} (I : Inv X pins σ H s) : interactive X.env = false := by simp [interactive, I.ok.kind]
def tDrop (te : TE) : TS := fun D σ H => te σ H fun _ H1 => D.nx σ H1
theorem ps_expr (he : PE X e te) (hs : swapsWith e none pos.line X.env = pure false := by rfl) : PS X (.Expr e pos) (tDrop te) := by
  intro pins s σ H D I h
  exact wpAny_Expr_any (thn (he pins s σ H _ I h) fun v s1 ⟨x, H1, I1, r1, q1⟩ => ⟨σ, H1, I1, q1⟩) I.quiet hs
def tRet (te : TE) : TS := fun D σ H => te σ H D.rt
theorem ps_ret (he : PE X e te) : PS X (.Return (some e) pos) (tRet te) := by
  intro pins s σ H D I h
  exact wpAny_Return_some (thn (he pins s σ H _ I h) fun v s1 ⟨x, H1, I1, r1, q1⟩ => ⟨x, σ, H1, I1, r1, q1⟩)
def tIfS (c : TT) (t u : TS) : TS := fun D σ H => c σ H fun b H1 => if b = true then t D σ H1 else u D σ H1
theorem ps_if {c : Expr} {a b : List Stmt} {tc : TT} (hc : PT X c tc) (ha : PSs X a t) (hb : PSs X b u) : PS X (.If c a b pos) (tIfS tc t u) := by
  intro pins s σ H D I h
  refine wpAny_If (thn (hc pins s σ H _ I h) fun d s1 ⟨H1, I1, q1⟩ => ?_)
  cases d with
  | true => exact ha pins s1 σ H1 D I1 q1
  | false => exact hb pins s1 σ H1 D I1 q1
end

abbrev TG := V → St → Hp → (St → Hp → Prop) → Prop
abbrev TGs := List V → St → Hp → (St → Hp → Prop) → Prop
def PG (X : Cx) (target : Expr) (t : TG) : Prop :=
  ∀ (pins : List (Addr × Obj)) (s : Shared) (σ : St) (H : Hp) (v : V) (u : Value) (Q : St → Hp → Prop), Inv X pins σ H s → RelV v u → t v σ H Q →
    wpAny (model X.prog X.w) X.A (assign target X.env u) (fun _ s' => ∃ σ' H', Inv X pins σ' H' s' ∧ Q σ' H') X.xe s
def PGs (X : Cx) (ts : List Expr) (t : TGs) : Prop :=
  ∀ (pins : List (Addr × Obj)) (s : Shared) (σ : St) (H : Hp) (vs : List V) (us : List Value) (Q : St → Hp → Prop), Inv X pins σ H s → Vals vs us → t vs σ H Q →
    wpAny (model X.prog X.w) X.A (assignInOrder ((assignEach ts X.env).map (·.2)) us) (fun _ s' => ∃ σ' H', Inv X pins σ' H' s' ∧ Q σ' H') X.xe s
abbrev TSet := V → V → V → Hp → (Hp → Prop) → Prop
def PSet (X : Cx) (t : TSet) : Prop :=
  ∀ (pins : List (Addr × Obj)) (s : Shared) (σ : St) (H : Hp) (o i v : V) (ov iv u : Value) (Q : Hp → Prop), Inv X pins σ H s → RelV o ov → RelV i iv → RelV v u → t o i v H Q →
    wpAny (model X.prog X.w) X.A (setItem ov iv u) (fun _ s' => ∃ H', Inv X pins σ H' s' ∧ Q H') X.xe s
abbrev TIp := V → V → Hp → VK → Prop
def PIp (X : Cx) (op : Operator) (t : TIp) : Prop :=
  ∀ (pins : List (Addr × Obj)) (s : Shared) (σ : St) (H : Hp) (x y : V) (v u : Value) (Q : VK), Inv X pins σ H s → RelV x v → RelV y u → t x y H Q →
    wpAny (model X.prog X.w) X.A (inplaceOp op v u) (EP X pins σ Q) X.xe s
section
variable {X : Cx} {pos : Pos}
def gName (i : Nat) : TG := fun v σ H Q => Q (σ.set i (some v)) H
theorem pg_name {i : Nat} {x : Str} (hN : X.N.Nodup) (hi : X.N[i]? = some x) (hx : Loc X.env.scope x) (hf : X.fn x = true ∨ X.env.scope.names.lookup x = some .local := by first | exact .inl rfl | exact .inr rfl | assumption) : PG X (.Name x pos) (gName i) := by
  intro pins s σ H v u Q I r h
  exact wpAny_assign_Name (store_ok I hN hi hx r (fun s' I' => ⟨_, H, I', h⟩) hf)
def gNil : TGs := fun vs σ H Q => vs = [] ∧ Q σ H
def gCons (t : TG) (u : TGs) : TGs := fun vs σ H Q => ∃ v r, vs = v :: r ∧ t v σ H fun σ' H' => u r σ' H' Q
theorem pgs_nil : PGs X [] gNil := by
  intro pins s σ H vs us Q I r h
  obtain ⟨e, h⟩ := h
  subst e
  cases r
  exact assignInOrder_nil ⟨σ, H, I, h⟩
theorem pgs_cons {e : Expr} {es : List Expr} {t : TG} {u : TGs} (h1 : PG X e t) (h2 : PGs X es u)
    (hs : (assignEach (e :: es) X.env).map (·.2) = assign e X.env :: (assignEach es X.env).map (·.2) := by rfl) : PGs X (e :: es) (gCons t u) := by
  intro pins s σ H vs us Q I r h
  obtain ⟨v, vr, e1, h⟩ := h
  subst e1
  cases r with
  | cons r rr =>
    rw [hs]
    refine assignInOrder_cons (thn (h1 pins s σ H _ _ _ I r h) fun _ s1 ⟨σ1, H1, I1, q1⟩ => ?_)
    exact h2 pins s1 σ1 H1 _ _ Q I1 rr q1
def gTup (K : PySem.W.Frag) (n : Nat) (t : TGs) : TG := fun v σ H Q => ∃ a xs, v = .ref a ∧ SqT K H a xs ∧ xs.length = n ∧ t xs σ H Q
theorem pg_tup {es : List Expr} {k : Nat} {t : TGs} {n : Nat} (hc : X.calm = true) (h : PGs X es t)
    (hn : (assignEach es X.env).length = n := by rfl) (hst : (assignEach es X.env).findIdx? (·.1) = none := by rfl) : PG X (.Tuple es k pos) (gTup X.K n t) := by
  intro pins s σ H v u Q I r hw
  obtain ⟨a, xs, e1, hq, hl, hw⟩ := hw
  subst e1
  cases r
  obtain ⟨its, rv, ht, hz⟩ := I.tuple hq
  refine assign_Tuple_tuple (I.ok.hd hc) ht (by simp [hn, ← hl, rv.length]) hst fun h' hx => ?_
  have I1 : Inv X pins σ H { s with heap := h' } := I.kept (t' := s.toks) fun b o e => hx b o (Nat.ne_of_lt (Heap.lt_size e)) e
  exact h pins _ σ H xs _ Q I1 (by simpa using rv) hw
def gSub (to ti : TE) (t : TSet) : TG := fun v σ H Q => to σ H fun o H1 => ti σ H1 fun i H2 => t o i v H2 fun H3 => Q σ H3
theorem pg_sub {o i : Expr} {to ti : TE} {t : TSet} (ho : PE X o to) (hi : PE X i ti) (hs : PSet X t)
    (ha : ∀ v, assign (.Subscript o i pos) X.env v = (do
      let ov ← holding [v] (eval o X.env)
      let iv ← holding [v, ov] (eval i X.env)
      standAt pos
      holding [v, ov, iv] (setItem ov iv v)
      release [v, ov, iv] []) := by intro _; rfl) : PG X (.Subscript o i pos) (gSub to ti t) := by
  intro pins s σ H v u Q I r h
  rw [ha]
  refine wpAny_bind (wpAny_holding (thn (ho pins s σ H _ I h) fun ov s1 ⟨x, H1, I1, r1, q1⟩ => ?_))
  refine wpAny_bind (wpAny_holding (thn (hi pins s1 σ H1 _ I1 q1) fun iv s2 ⟨y, H2, I2, r2, q2⟩ => ?_))
  refine wpAny_bind (wpAny_standAt (wpAny_bind (wpAny_holding (thn (hs pins s2 σ H2 x y v ov iv u _ I2 r1 r2 r q2) fun _ s3 ⟨H3, I3, q3⟩ => ?_))))
  exact wpAny_release ⟨σ, H3, I3, q3⟩
def tAsg (te : TE) (g : TG) : TS := fun D σ H => te σ H fun x H1 => g x σ H1 D.nx
theorem ps_asg {tg e : Expr} {te : TE} {g : TG} (he : PE X e te) (hg : PG X tg g) (hs : swapsWithSole [tg] e pos.line X.env = pure false := by rfl) (hw : swappedStores [tg] e X.env = pure none := by rfl)
    (h1 : (assignEach [tg] X.env).map (·.2) = [assign tg X.env] := by rfl) : PS X (.Assign [tg] e pos) (tAsg te g) := by
  intro pins s σ H D I h
  refine wpAny_Assign_stores (thn (he pins s σ H _ I h) fun v s1 ⟨x, H1, I1, r1, q1⟩ => ?_) hs hw
  rw [h1]
  exact thn (hg pins s1 σ H1 x v _ I1 r1 q1) fun _ s2 q => q
theorem ps_set {i : Nat} {x : Str} {e : Expr} {te : TE} {pos' : Pos} (hN : X.N.Nodup) (hi : X.N[i]? = some x) (hx : Loc X.env.scope x) (he : PE X e te) (hs : swapsWith e (some (.Name x pos')) pos.line X.env = pure false := by rfl) (hf : X.fn x = true ∨ X.env.scope.names.lookup x = some .local := by first | exact .inl rfl | exact .inr rfl | assumption) :
    PS X (.Assign [.Name x pos'] e pos) (tAsg te (gName i)) := by
  intro pins s σ H D I h
  refine wpAny_Assign_Name (thn (he pins s σ H _ I h) fun v s1 ⟨y, H1, I1, r1, q1⟩ => ?_) hs
  exact store_ok I1 hN hi hx r1 (fun s2 I2 => ⟨_, H1, I2, q1⟩) hf
def tAugS (to ti te : TE) (tget : V → V → Hp → VK → Prop) (tip : TIp) (tset : TSet) : TS := fun D σ H => to σ H fun o H1 => ti σ H1 fun i H2 => tget o i H2 fun x H3 => te σ H3 fun y H4 => tip x y H4 fun z H5 => tset o i z H5 fun H6 => D.nx σ H6
def PGet (X : Cx) (t : V → V → Hp → VK → Prop) : Prop :=
  ∀ (pins : List (Addr × Obj)) (s : Shared) (σ : St) (H : Hp) (o i : V) (ov iv : Value) (Q : VK), Inv X pins σ H s → RelV o ov → RelV i iv → t o i H Q →
    wpAny (model X.prog X.w) X.A (getItem ov iv) (EP X pins σ Q) X.xe s
theorem ps_augS {o i e : Expr} {to ti te : TE} {tget : V → V → Hp → VK → Prop} {tip : TIp} {tset : TSet} {op : Operator} {tpos : Pos} (ho : PE X o to) (hi : PE X i ti) (hg : PGet X tget) (he : PE X e te) (hp : PIp X op tip) (hs : PSet X tset)
    (ha : ∀ ov iv new, augStore i ov iv new = (do holding [new, ov, iv] (setItem ov iv new); release [new, ov, iv] []; pure .next) := by intros; rfl) : PS X (.AugAssign (.Subscript o i tpos) op e pos) (tAugS to ti te tget tip tset) := by
  intro pins s σ H D I h
  refine wpAny_AugAssign_SubscriptAny (thn (ho pins s σ H _ I h) fun ov s1 ⟨x1, H1, I1, r1, q1⟩ => ?_) ha
  refine thn (hi pins s1 σ H1 _ I1 q1) fun iv s2 ⟨x2, H2, I2, r2, q2⟩ => ?_
  refine thn (hg pins s2 σ H2 x1 x2 ov iv _ I2 r1 r2 q2) fun old s3 ⟨x3, H3, I3, r3, q3⟩ => ?_
  refine thn (he pins s3 σ H3 _ I3 q3) fun v s4 ⟨x4, H4, I4, r4, q4⟩ => ?_
  refine thn (hp pins s4 σ H4 x3 x4 old v _ I4 r3 r4 q4) fun new s5 ⟨x5, H5, I5, r5, q5⟩ => ?_
  exact thn (hs pins s5 σ H5 x1 x2 x5 ov iv new _ I5 r1 r2 r5 q5) fun _ s6 ⟨H6, I6, q6⟩ => ⟨σ, H6, I6, q6⟩
def ipI (f : Int → Int → Int) : TIp := fun x y H Q => ∃ i j, x = .int i ∧ y = .int j ∧ Q (.int (f i j)) H
theorem ip_sub : PIp X .Sub (ipI fun i j => i - j) := by
  intro pins s σ H x y v u Q I r1 r2 h
  obtain ⟨i, j, e1, e2, q⟩ := h
  subst e1; subst e2
  obtain ⟨t, rfl⟩ := r1
  obtain ⟨t', rfl⟩ := r2
  exact isub_int ⟨.int _, H, I.tok _, ⟨_, rfl⟩, q⟩
end

section
variable {X : Cx} {pos : Pos}
def tWhile (c : TT) (tb : TS) : TS := fun D σ H => ∃ W : Nat → St → Hp → Prop, (∃ m, W m σ H) ∧ ∀ m σ H, W m σ H →
  c σ H fun b H1 => if b = true then ∃ N : St → Hp → Prop, (∀ σ' H', N σ' H' → ∃ m', m' < m ∧ W m' σ' H') ∧ tb { D with nx := N, ct := N, bk := D.nx } σ H1 else D.nx σ H1
theorem ps_while {c : Expr} {body : List Stmt} {tc : TT} {tb : TS} (hp : PassesOwn (model X.prog X.w) X.A X.env X.xe) (hc : PT X c tc) (hb : PSs X body tb) : PS X (.While c body [] pos) (tWhile tc tb) := by
  intro pins s σ H D I h
  obtain ⟨W, ⟨m0, w0⟩, turn⟩ := h
  refine wpAny_While (codeAny_whileLoop (fun n s' => ∃ σ' H', Inv X pins σ' H' s' ∧ W n σ' H') ?_ m0 ⟨σ, H, I, w0⟩)
  rintro n s1 ⟨σ1, H1, I1, w1⟩
  refine wpAny_passesOwn hp (thn (hc pins s1 σ1 H1 _ I1 (turn n σ1 H1 w1)) fun b s2 ⟨H2, I2, q2⟩ => ?_)
  cases b with
  | true =>
    obtain ⟨N, hN, q2⟩ := q2
    rw [if_pos rfl]
    refine wpAny_passesOwn hp (thn (hb pins s2 σ1 H2 _ I2 q2) fun f s3 q3 => ?_)
    cases f with
    | next =>
      obtain ⟨σ3, H3, I3, n3⟩ := q3
      obtain ⟨m', hm, w3⟩ := hN σ3 H3 n3
      exact ⟨m', hm, σ3, H3, I3, w3⟩
    | cont =>
      obtain ⟨σ3, H3, I3, n3⟩ := q3
      obtain ⟨m', hm, w3⟩ := hN σ3 H3 n3
      exact ⟨m', hm, σ3, H3, I3, w3⟩
    | brk => exact q3
    | ret v => exact q3
  | false =>
    rw [if_neg Bool.false_ne_true]
    exact wpAny_execs_nil ⟨σ1, H2, I2, q2⟩
end

structure It where
  go : Nat → Hp → Prop
  yld : Nat → Hp → V → Hp → Prop
  stop : Nat → Hp → Prop
def FpOk (X : Cx) (pins : List (Addr × Obj)) (H : Hp) (b : Addr) : Prop :=
  H b = none ∧ b ≠ X.env.locals ∧ b ∉ X.fs ∧ (b ∈ X.ex ∨ X.s₀.heap.objs.size ≤ b) ∧ (∀ x c, X.env.cells.lookup x = some c → c ≠ b) ∧ ∀ p ∈ X.pn ++ pins, p.1 ≠ b
theorem Inv.fpOk {X : Cx} {pins : List (Addr × Obj)} {σ : St} {H H' : Hp} {s : Shared} {b : Addr} (I : Inv X pins σ H s) (hb : s.heap.objs.size ≤ b) (hn : H' b = none) : FpOk X pins H' b := by
  refine ⟨hn, Nat.ne_of_gt (Nat.lt_of_lt_of_le I.lt hb), I.nofs hb, .inr (Nat.le_trans I.sz hb), fun x c e z => ?_, fun p hp z => ?_⟩
  · obtain ⟨v, q⟩ := I.cell x c e
    exact absurd (Nat.lt_of_lt_of_le q.lt (by rw [z]; exact hb)) (Nat.lt_irrefl _)
  · exact absurd (Nat.lt_of_lt_of_le (Heap.lt_size (I.pin p hp).1) (by rw [z]; exact hb)) (Nat.lt_irrefl _)
structure Turn (P : Program) (w : World) (K : PySem.W.Frag) (tg : Expr) (J : It) (fp : List Addr) (it : Addr) (tn : Nat → Heap → Prop) : Prop where
  mem : it ∈ fp
  obj : ∀ i h, tn i h → ∀ b ∈ fp, ∃ o, h.get? b = some o ∧ ∀ v, o.data ≠ .cell v
  keep : ∀ i h h', tn i h → (∀ b ∈ fp, ∀ o, h.get? b = some o → h'.get? b = some o) → tn i h'
  item : ∀ (X : Cx), X.prog = P → X.w = w → X.K = K → X.calm = true → ∀ (i : Nat) (pins : List (Addr × Obj)) (s : Shared) (σ : St) (H : Hp) (E : Value → Shared → Prop), Inv X pins σ H s → (∀ b ∈ fp, FpOk X pins H b) → tn i s.heap → J.go i H →
    wpAny (model P w) X.A (pyNext (.ref it)) (fun r s1 => ∃ u, r = some u ∧
      wpAny (model P w) X.A (letOwnedTupleGo tg (.ref it) u) (fun _ s2 => ∃ x H', Inv X pins σ H' s2 ∧ RelV x u ∧ J.yld i H x H' ∧ tn (i + 1) s2.heap ∧ ∀ b ∈ fp, H' b = none) E s1) E s
  done : ∀ (X : Cx), X.prog = P → X.w = w → X.K = K → X.calm = true → ∀ (i : Nat) (pins : List (Addr × Obj)) (s : Shared) (σ : St) (H : Hp) (E : Value → Shared → Prop), Inv X pins σ H s → (∀ b ∈ fp, FpOk X pins H b) → tn i s.heap → J.stop i H →
    wpAny (model P w) X.A (pyNext (.ref it)) (fun r s1 => r = none ∧ Inv X pins σ H s1) E s
  self : ∀ (A : Around) (i : Nat) (s : Shared) (Q : Value → Shared → Prop) (E : Value → Shared → Prop), tn i s.heap → Q (.ref it) s → wpAny (model P w) A (pyIter (.ref it)) Q E s
abbrev TI := St → Hp → (It → Hp → Prop) → Prop
def PIE (X : Cx) (pins : List (Addr × Obj)) (σ : St) (tg : Expr) (R : It → Hp → Prop) (itv : Value) (s2 : Shared) : Prop :=
  ∃ (it : Addr) (fp : List Addr) (tn : Nat → Heap → Prop) (J : It) (H' : Hp), itv = .ref it ∧ Inv X pins σ H' s2 ∧ Turn X.prog X.w X.K tg J fp it tn ∧ tn 0 s2.heap ∧ (∀ b ∈ fp, FpOk X pins H' b) ∧ R J H'
def PI (X : Cx) (tg iter : Expr) (wi : TI) : Prop :=
  ∀ (pins : List (Addr × Obj)) (s : Shared) (σ : St) (H : Hp) (R : It → Hp → Prop), Inv X pins σ H s → wi σ H R →
    wpAny (model X.prog X.w) X.A (eval iter X.env) (fun v s1 => wpAny (model X.prog X.w) X.A (pyIter v) (PIE X pins σ tg R) X.xe s1) X.xe s

theorem go_of {M : Model} {A : Around} {E : Value → Shared → Prop} {s : Shared} {tg : Expr} {it : Addr} {u : Value} {o : Obj} {n : String} {vs : Array Value} {Q : Unit → Shared → Prop} (ho : s.heap.get? it = some o) (hc : o.cls = .type n) (hd : o.data = .fields vs)
    (hn : ["enumerate", "zip", "dict_itemiterator", "dict_reverseitemiterator", "odict_iterator", "itertools.zip_longest", "itertools.pairwise"].contains n = false) (hQ : Q () s) : wpAny M A (letOwnedTupleGo tg (.ref it) u) Q E s := by
  unfold letOwnedTupleGo
  cases tg <;> first
    | exact wpAny_pure hQ
    | (cases u <;> first
        | exact wpAny_pure hQ
        | (refine wpAny_bind (wpAny_load ho ?_)
           rw [hc, hd]
           show wpAny M A (if (["enumerate", "zip", "dict_itemiterator", "dict_reverseitemiterator", "odict_iterator", "itertools.zip_longest", "itertools.pairwise"].contains n && vs[0]? == some (rawInt _)) = true then _ else _) Q E s
           rw [if_neg (by intro h; rw [hn, Bool.false_and] at h; cases h)]
           exact wpAny_pure hQ))

def Itl (K : PySem.W.Frag) (a : Addr) : It :=
  ⟨fun i H => ∃ xs x, SqL K H a xs ∧ xs[i]? = some x, fun i H x H' => H' = H ∧ ∀ xs, SqL K H a xs → xs[i]? = some x, fun i H => ∃ xs, SqL K H a xs ∧ xs.length ≤ i⟩
def Itr (lo : Int) (n : Nat) : It := ⟨fun i _ => i < n, fun i H x H' => H' = H ∧ x = .int (lo + i), fun i _ => n ≤ i⟩
theorem turn_list {P : Program} {w : World} {K : PySem.W.Frag} {tg : Expr} (a it : Addr) : Turn P w K tg (Itl K a) [it] it (fun i h => h.IsListIter it a i) where
  mem := by simp
  obj := fun i h st b hb => by
    have e : b = it := by simpa using hb
    subst e
    obtain ⟨o, e, c, d⟩ := st
    exact ⟨o, e, fun v z => by rw [d] at z; cases z⟩
  keep := fun i h h' st k => st.at fun o e => k it (by simp) o e
  item := by
    intro X hP hw hK hc i pins s σ H E I hf st hg
    subst hP hw hK
    obtain ⟨xs, x, hq, hx⟩ := hg
    obtain ⟨its, rv, p, hz⟩ := I.list hq
    obtain ⟨u, hu, ru⟩ := rv.get hx
    obtain ⟨f0, f1, f2, f3, f4, f5⟩ := hf it (by simp)
    refine wpAny_pyNext_list_item st p.isList (x := u) (by simpa using hu) fun h' st' sb => ?_
    have I1 : Inv X pins σ H { s with heap := h' } := I.turned (t' := s.toks) (fun b o hb e => (sb.2 b hb).trans e) f0 f1 f3 f4 f5
    obtain ⟨o, e, c, d⟩ := id st'
    exact ⟨u, rfl, go_of (s := { s with heap := h' }) e c d (by decide) ⟨x, H, I1, ru, ⟨rfl, fun ys hy => by rw [I.list_inj hy hq]; exact hx⟩, st', fun b hb => (hf b hb).1⟩⟩
  done := by
    intro X hP hw hK hc i pins s σ H E I hf st hg
    subst hP hw hK
    obtain ⟨xs, hq, hx⟩ := hg
    obtain ⟨its, rv, p, hz⟩ := I.list hq
    obtain ⟨f0, f1, f2, f3, f4, f5⟩ := hf it (by simp)
    have hl := rv.length
    exact wpAny_pyNext_list_end (I.ok.hd hc) st p.isList (by simp; omega) fun h' eb => ⟨rfl, I.turned (t' := s.toks) (fun b o hb e => eb b o hb e) f0 f1 f3 f4 f5⟩
  self := fun _ _ _ _ _ st h => wpAny_pyIter_listiter st h
theorem turn_range {P : Program} {w : World} {K : PySem.W.Frag} {tg : Expr} (it : Addr) (lo : Int) (n : Nat) : Turn P w K tg (Itr lo n) [it] it (fun i h => IsRangeIter h it (lo + (i : Nat) * 1) ((n : Int) - (i : Nat)) 1) where
  mem := by simp
  obj := fun i h st b hb => by
    have e : b = it := by simpa using hb
    subst e
    exact ⟨_, st, fun v z => by
      have z' : Data.fields _ = Data.cell v := z
      cases z'⟩
  keep := fun i h h' st k => k it (by simp) _ st
  item := by
    intro X hP hw hK hc i pins s σ H E I hf st hg
    subst hP hw hK
    obtain ⟨f0, f1, f2, f3, f4, f5⟩ := hf it (by simp)
    have W := Walks.range (prog := X.prog) (w := X.w) (I.ok.hd hc) it lo 1 n
    refine W.item i s _ _ hg st fun v h' tk hv st' kk => ?_
    obtain ⟨t, rfl⟩ := hv
    have I1 : Inv X pins σ H { s with heap := h', toks := tk } := I.turned (fun b o hb e => kk b o (by simpa using hb) e) f0 f1 f3 f4 f5
    refine ⟨_, rfl, go_of (s := { s with heap := h', toks := tk }) (n := "range_iterator") st' rfl rfl (by decide) ⟨.int (lo + i), H, I1, ⟨t, ?_⟩, ⟨rfl, rfl⟩, st', fun b hb => (hf b hb).1⟩⟩
    rw [Int.mul_one]
  done := by
    intro X hP hw hK hc i pins s σ H E I hf st hg
    subst hP hw hK
    obtain ⟨f0, f1, f2, f3, f4, f5⟩ := hf it (by simp)
    exact wpAny_pyNext_range_end (I.ok.hd hc) st (by have : n ≤ i := hg; omega) fun h' eb => ⟨rfl, I.turned (t' := s.toks) (fun b o hb e => eb b o hb e) f0 f1 f3 f4 f5⟩
  self := fun _ _ _ _ _ st h => wpAny_pyIter_rangeiter st h
end L2

namespace L2
open PySem PySem.Spec PyProof.Rows
section
variable {X : Cx} {tg : Expr}
def iList (K : PySem.W.Frag) (tl : TE) : TI := fun σ H R => tl σ H fun x H1 => ∃ a, x = .ref a ∧ (∃ xs, SqL K H1 a xs) ∧ R (Itl K a) H1
theorem pi_list {l : Expr} {tl : TE} (hl : PE X l tl) : PI X tg l (iList X.K tl) := by
  intro pins s σ H R I h
  refine thn (hl pins s σ H _ I h) fun v s1 ⟨x, H1, I1, r1, q1⟩ => ?_
  obtain ⟨a, e, ⟨xs, hq⟩, q⟩ := q1
  subst e
  cases r1
  obtain ⟨its, rv, p, hz⟩ := I1.list hq
  refine wpAny_pyIter_list p.isList ?_
  refine ⟨s1.heap.objs.size, [s1.heap.objs.size], _, _, H1, rfl, I1.kept (t' := s1.toks) fun b o e => Heap.get?_push_of_some _ e, turn_list a _, ⟨_, Heap.get?_push_size _ rfl, rfl, rfl⟩, fun b hb => ?_, q⟩
  have e : b = s1.heap.objs.size := by simpa using hb
  subst e
  exact I1.fpOk (Nat.le_refl _) (I1.hok.fresh (Nat.le_refl _))
theorem range_it {pins : List (Addr × Obj)} {σ : St} {H : Hp} {s : Shared} {R : It → Hp → Prop} {E : Value → Shared → Prop} {lo hi : Int} {t u v : Tok} {tk : Nat} (I : Inv X pins σ H s) (h1 : -(2 ^ 62) ≤ lo) (h2 : lo < 2 ^ 62) (h3 : -(2 ^ 62) ≤ hi) (h4 : hi < 2 ^ 62)
    (q : R (Itr lo (hi - lo).toNat) H) : wpAny (model X.prog X.w) X.A (pyIter (.ref s.heap.objs.size)) (PIE X pins σ tg R) E { s with heap := s.heap.push { cls := .type "range", data := .fields #[.int lo t, .int hi u, .int 1 v] }, toks := tk } := by
  refine wpAny_pyIter_range (IsRange.new ..) (small_one h1 h2 h3 h4) ?_
  have I1 : Inv X pins σ H { s with heap := s.heap.push { cls := .type "range", data := .fields #[.int lo t, .int hi u, .int 1 v] }, toks := tk } := I.kept fun b o e => Heap.get?_push_of_some _ e
  refine ⟨(s.heap.push { cls := .type "range", data := .fields #[.int lo t, .int hi u, .int 1 v] }).objs.size, [(s.heap.push { cls := .type "range", data := .fields #[.int lo t, .int hi u, .int 1 v] }).objs.size], _, _, H, rfl,
    I1.kept (t' := tk) fun b o e => Heap.get?_push_of_some _ e, turn_range _ lo (hi - lo).toNat, ?_, fun b hb => ?_, q⟩
  · have e1 : lo + ((0 : Nat) : Int) * 1 = lo := by simp
    have e2 : (((hi - lo).toNat : Nat) : Int) - ((0 : Nat) : Int) = Builtin.Range.rangeSize lo hi 1 := by rw [rangeSize_one]; split <;> omega
    show IsRangeIter _ _ (lo + ((0 : Nat) : Int) * 1) ((((hi - lo).toNat : Nat) : Int) - ((0 : Nat) : Int)) 1
    rw [e1, e2]
    exact Heap.get?_push_size _ rfl
  · have e : b = (s.heap.push { cls := .type "range", data := .fields #[.int lo t, .int hi u, .int 1 v] }).objs.size := by simpa using hb
    subst e
    exact I1.fpOk (Nat.le_refl _) (I1.hok.fresh (Nat.le_refl _))
def iRng1 (ta : TA) : TI := fun σ H R => ta σ H fun vs H1 => ∃ j : Int, vs = [.int j] ∧ -(2 ^ 62) ≤ j ∧ j < 2 ^ 62 ∧ R (Itr 0 j.toNat) H1
def iRng2 (ta : TA) : TI := fun σ H R => ta σ H fun vs H1 => ∃ i j : Int, vs = [.int i, .int j] ∧ (-(2 ^ 62) ≤ i ∧ i < 2 ^ 62 ∧ -(2 ^ 62) ≤ j ∧ j < 2 ^ 62) ∧ R (Itr i (j - i).toNat) H1
theorem pi_range1 {a : Expr} {ta : TA} {p pos : Pos} (hg : Gl X "range") (hm : X.mg "range" = none) (ha : PA X [a] ta) (hs : starEach [a] X.env = [(false, eval a X.env)] := by rfl) : PI X tg (.Call (.Name "range" p) [a] [] pos) (iRng1 ta) := by
  intro pins s σ H R I h
  refine Call_ (ld_blt I hg hm boot_range (PyProof.Rows.callWith_type1 (thn (ha pos pins s σ H _ I h) fun us s1 ⟨vs, H1, I1, r1, q1⟩ => ?_) hs rfl))
  obtain ⟨j, e, q1, q2, q⟩ := q1
  subst e
  cases r1 with
  | cons r rr =>
    cases rr
    obtain ⟨t, rfl⟩ := r
    exact call_range_1 (range_it I1 (by omega) (by omega) q1 q2 (by simpa using q))
theorem pi_range2 {a b : Expr} {ta : TA} {p pos : Pos} (hg : Gl X "range") (hm : X.mg "range" = none) (ha : PA X [a, b] ta) (hs : starEach [a, b] X.env = [(false, eval a X.env), (false, eval b X.env)] := by rfl) (hs2 : starEach [b] X.env = [(false, eval b X.env)] := by rfl) :
    PI X tg (.Call (.Name "range" p) [a, b] [] pos) (iRng2 ta) := by
  intro pins s σ H R I h
  refine Call_ (ld_blt I hg hm boot_range (PyProof.Rows.callWith_type1 (thn (ha pos pins s σ H _ I h) fun us s1 ⟨vs, H1, I1, r1, q1⟩ => ?_) (by rw [hs, hs2]) (by rw [hs2]; rfl)))
  obtain ⟨i, j, e, ⟨q1, q2, q3, q4⟩, q⟩ := q1
  subst e
  cases r1 with
  | cons r rr =>
    cases rr with
    | cons r' rr =>
      cases rr
      obtain ⟨t, rfl⟩ := r
      obtain ⟨t', rfl⟩ := r'
      exact call_range_2 (range_it I1 q1 q2 q3 q4 q)

def tFor (wi : TI) (g : TG) (tb : TS) : TS := fun D σ H => wi σ H fun J H1 => ∃ W : Nat → Nat → St → Hp → Prop, (∃ m, W 0 m σ H1) ∧ ∀ i m σ H, W i m σ H →
  (J.stop i H ∧ D.nx σ H) ∨ (J.go i H ∧ ∃ N : St → Hp → Prop, (∀ σ' H', N σ' H' → ∃ m', m' < m ∧ W (i + 1) m' σ' H') ∧ ∀ x H', J.yld i H x H' → g x σ H' fun σ2 H2 => tb { D with nx := N, ct := N, bk := D.nx } σ2 H2)
def pinsAt (fp : List Addr) (h : Heap) : List (Addr × Obj) := fp.filterMap fun b => (h.get? b).map fun o => (b, o)
theorem mem_pinsAt {fp : List Addr} {h : Heap} {b : Addr} {o : Obj} (hb : b ∈ fp) (e : h.get? b = some o) : (b, o) ∈ pinsAt fp h := List.mem_filterMap.mpr ⟨b, hb, by rw [e]; rfl⟩
theorem of_pinsAt {fp : List Addr} {h : Heap} {p : Addr × Obj} (hp : p ∈ pinsAt fp h) : p.1 ∈ fp ∧ h.get? p.1 = some p.2 := by
  obtain ⟨b, hb, e⟩ := List.mem_filterMap.mp hp
  cases q : h.get? b with
  | none => rw [q] at e; cases e
  | some o =>
    rw [q] at e
    have e' : (b, o) = p := Option.some.inj e
    subst e'
    exact ⟨hb, q⟩
theorem Inv.pinned {pins : List (Addr × Obj)} {σ : St} {H : Hp} {s : Shared} {fp : List Addr} (I : Inv X pins σ H s) (hf : ∀ b ∈ fp, FpOk X pins H b) (ho : ∀ b ∈ fp, ∃ o, s.heap.get? b = some o ∧ ∀ v, o.data ≠ .cell v) : Inv X (pins ++ pinsAt fp s.heap) σ H s :=
  I.pins_of fun p hp => (List.mem_append.mp hp).elim (fun z => I.pin p (List.mem_append_right _ z)) fun z => by
    obtain ⟨hb, e⟩ := of_pinsAt z
    obtain ⟨f0, f1, f2, _⟩ := hf p.1 hb
    obtain ⟨o, e', d⟩ := ho p.1 hb
    rw [e] at e'; cases e'
    exact ⟨e, f0, f1, f2, d⟩
theorem Inv.unpinned {pins pl : List (Addr × Obj)} {σ : St} {H : Hp} {s : Shared} (I : Inv X (pins ++ pl) σ H s) : Inv X pins σ H s := I.pins_of fun p hp => I.pin p (List.mem_append_right _ (List.mem_append_left _ hp))
theorem ps_for {iter : Expr} {body : List Stmt} {wi : TI} {g : TG} {tb : TS} {pos : Pos} (hp : PassesOwn (model X.prog X.w) X.A X.env X.xe) (hc : X.calm = true) (hi : PI X tg iter wi) (hg : PG X tg g) (hb : PSs X body tb)
    (hs : ∀ x, foldedSetIterable iter X.env x = pure x := by intro _; rfl) : PS X (.For tg iter body [] pos) (tFor wi g tb) := by
  intro pins s σ H D I h
  refine wpAny_For (thn (hi pins s σ H _ I h) fun v s1 h1 => thn h1 fun itv s2 h2 => ?_) hs
  obtain ⟨it, fp, tn, J, H2, e, I2, T, st2, f2, W, ⟨m0, w0⟩, turn⟩ := h2
  subst e
  -- what stays true of the iterator's objects through the loop
  have stat : ∀ {H' : Hp}, (∀ b ∈ fp, H' b = none) → ∀ b ∈ fp, FpOk X pins H' b := fun hn b hb => ⟨hn b hb, (f2 b hb).2⟩
  refine codeAny_forLoop_any (fun n s' => ∃ i σ' H', Inv X pins σ' H' s' ∧ tn i s'.heap ∧ (∀ b ∈ fp, H' b = none) ∧ W i n σ' H') ?_ m0 ⟨0, σ, H2, I2, st2, fun b hb => (f2 b hb).1, w0⟩
  rintro n s3 ⟨i, σ3, H3, I3, st3, fr3, w3⟩
  rcases turn i n σ3 H3 w3 with ⟨stop, qn⟩ | ⟨go, N, hN, step⟩
  · refine wpAny_passesOwn hp (thn (T.done X rfl rfl rfl hc i pins s3 σ3 H3 X.xe I3 (stat fr3) st3 stop) fun r s4 ⟨hr, I4⟩ => ?_)
    subst hr
    exact wpAny_execs_nil ⟨σ3, H3, I4, qn⟩
  · refine wpAny_passesOwn hp (thn (T.item X rfl rfl rfl hc i pins s3 σ3 H3 X.xe I3 (stat fr3) st3 go) fun r s4 ⟨u, hr, h4⟩ => ?_)
    subst hr
    refine wpAny_passesOwn hp (thn h4 fun _ s5 ⟨x, H5, I5, r5, y5, st5, fr5⟩ => ?_)
    have I5' := I5.pinned (stat fr5) (T.obj _ _ st5)
    refine wpAny_passesOwn hp (thn (hg _ s5 σ3 H5 x u _ I5' r5 (step x H5 y5)) fun _ s6 ⟨σ6, H6, I6, q6⟩ => ?_)
    refine wpAny_passesOwn hp (thn (hb _ s6 σ6 H6 _ I6 q6) fun f s7 q7 => ?_)
    have again : ∀ {σ7 : St} {H7 : Hp}, Inv X (pins ++ pinsAt fp s5.heap) σ7 H7 s7 → N σ7 H7 → ∃ m, m < n ∧ ∃ i σ' H', Inv X pins σ' H' s7 ∧ tn i s7.heap ∧ (∀ b ∈ fp, H' b = none) ∧ W i m σ' H' := fun {σ7 H7} I7 n7 => by
      obtain ⟨m', hm, w7⟩ := hN σ7 H7 n7
      refine ⟨m', hm, i + 1, σ7, H7, I7.unpinned, T.keep _ _ _ st5 fun b hb o e => (I7.pin (b, o) (List.mem_append_right _ (List.mem_append_right _ (mem_pinsAt hb e)))).1, fun b hb => ?_, w7⟩
      obtain ⟨o, e, d⟩ := T.obj _ _ st5 b hb
      exact (I7.pin (b, o) (List.mem_append_right _ (List.mem_append_right _ (mem_pinsAt hb e)))).2.1
    cases f with
    | next => obtain ⟨σ7, H7, I7, n7⟩ := q7; exact again I7 n7
    | cont => obtain ⟨σ7, H7, I7, n7⟩ := q7; exact again I7 n7
    | brk => obtain ⟨σ7, H7, I7, q7⟩ := q7; exact ⟨σ7, H7, I7.unpinned, q7⟩
    | ret v => obtain ⟨x7, σ7, H7, I7, r7, q7⟩ := q7; exact ⟨x7, σ7, H7, I7.unpinned, r7, q7⟩
end

theorem for_list {K : PySem.W.Frag} {a : Addr} {xs : List V} {g : TG} {tb : TS} {D : Ends} {σ : St} {H : Hp} (Pv : Nat → St → Hp → Prop) (h0 : Pv 0 σ H) (hl : ∀ i σ H, i ≤ xs.length → Pv i σ H → SqL K H a xs)
    (hs : ∀ i x σ H, xs[i]? = some x → Pv i σ H → g x σ H fun σ2 H2 => tb { D with nx := Pv (i + 1), ct := Pv (i + 1), bk := D.nx } σ2 H2) (hd : ∀ σ H, Pv xs.length σ H → D.nx σ H) :
    ∃ W : Nat → Nat → St → Hp → Prop, (∃ m, W 0 m σ H) ∧ ∀ i m σ H, W i m σ H →
      ((Itl K a).stop i H ∧ D.nx σ H) ∨ ((Itl K a).go i H ∧ ∃ N : St → Hp → Prop, (∀ σ' H', N σ' H' → ∃ m', m' < m ∧ W (i + 1) m' σ' H') ∧ ∀ x H', (Itl K a).yld i H x H' → g x σ H' fun σ2 H2 => tb { D with nx := N, ct := N, bk := D.nx } σ2 H2) := by
  refine ⟨fun i m σ H => m = xs.length - i ∧ i ≤ xs.length ∧ Pv i σ H, ⟨xs.length, by simp, Nat.zero_le _, h0⟩, ?_⟩
  rintro i m σ H ⟨rfl, hi, p⟩
  have q := hl i σ H hi p
  by_cases hlt : i < xs.length
  · refine .inr ⟨⟨xs, xs[i], q, by simp [hlt]⟩, Pv (i + 1), fun σ' H' p' => ⟨xs.length - (i + 1), by omega, rfl, hlt, p'⟩, fun x H' y => ?_⟩
    obtain ⟨e, y⟩ := y
    subst e
    exact hs i x σ _ (y xs q) p
  · have e : i = xs.length := by omega
    subst e
    exact .inl ⟨⟨xs, q, Nat.le_refl _⟩, hd σ H p⟩
theorem for_range {lo : Int} {n : Nat} {g : TG} {tb : TS} {D : Ends} {σ : St} {H : Hp} (Pv : Nat → St → Hp → Prop) (h0 : Pv 0 σ H)
    (hs : ∀ i σ H, i < n → Pv i σ H → g (.int (lo + i)) σ H fun σ2 H2 => tb { D with nx := Pv (i + 1), ct := Pv (i + 1), bk := D.nx } σ2 H2) (hd : ∀ σ H, Pv n σ H → D.nx σ H) :
    ∃ W : Nat → Nat → St → Hp → Prop, (∃ m, W 0 m σ H) ∧ ∀ i m σ H, W i m σ H →
      ((Itr lo n).stop i H ∧ D.nx σ H) ∨ ((Itr lo n).go i H ∧ ∃ N : St → Hp → Prop, (∀ σ' H', N σ' H' → ∃ m', m' < m ∧ W (i + 1) m' σ' H') ∧ ∀ x H', (Itr lo n).yld i H x H' → g x σ H' fun σ2 H2 => tb { D with nx := N, ct := N, bk := D.nx } σ2 H2) := by
  refine ⟨fun i m σ H => m = n - i ∧ i ≤ n ∧ Pv i σ H, ⟨n, by simp, Nat.zero_le _, h0⟩, ?_⟩
  rintro i m σ H ⟨rfl, hi, p⟩
  by_cases hlt : i < n
  · refine .inr ⟨hlt, Pv (i + 1), fun σ' H' p' => ⟨n - (i + 1), by omega, rfl, hlt, p'⟩, fun x H' y => ?_⟩
    obtain ⟨e, y⟩ := y
    subst e y
    exact hs i σ _ hlt p
  · have e : i = n := by omega
    subst e
    exact .inl ⟨Nat.le_refl _, hd σ H p⟩
end L2

namespace L2
open PySem PySem.Spec PyProof.Rows

abbrev R2 := V → V → Hp → VK → Prop
def OpR (X : Cx) (f : Value → Value → Sem Value) (r : R2) : Prop :=
  ∀ (pins : List (Addr × Obj)) (s : Shared) (σ : St) (H : Hp) (x y : V) (v u : Value) (Q : VK), Inv X pins σ H s → RelV x v → RelV y u → r x y H Q →
    wpAny (model X.prog X.w) X.A (f v u) (EP X pins σ Q) X.xe s
def UnR (X : Cx) (f : Value → Sem Value) (r : V → Hp → VK → Prop) : Prop :=
  ∀ (pins : List (Addr × Obj)) (s : Shared) (σ : St) (H : Hp) (x : V) (v : Value) (Q : VK), Inv X pins σ H s → RelV x v → r x H Q →
    wpAny (model X.prog X.w) X.A (f v) (EP X pins σ Q) X.xe s
def CallR (X : Cx) (f : Value) (r : List V → Hp → VK → Prop) : Prop :=
  ∀ (pins : List (Addr × Obj)) (s : Shared) (σ : St) (H : Hp) (xs : List V) (us : List Value) (Q : VK), Inv X pins σ H s → Vals xs us → r xs H Q →
    wpAny (model X.prog X.w) X.A (call f us) (EP X pins σ Q) X.xe s
def TruR (X : Cx) (r : V → Hp → (Bool → Hp → Prop) → Prop) : Prop :=
  ∀ (pins : List (Addr × Obj)) (s : Shared) (σ : St) (H : Hp) (x : V) (v : Value) (Q : Bool → Hp → Prop), Inv X pins σ H s → RelV x v → r x H Q →
    wpAny (model X.prog X.w) X.A (truthy v) (TP X pins σ Q) X.xe s

def tOp (r : R2) (ta tb : TE) : TE := fun σ H Q => ta σ H fun x H1 => tb σ H1 fun y H2 => r x y H2 Q
def tUn (r : V → Hp → VK → Prop) (ta : TE) : TE := fun σ H Q => ta σ H fun x H1 => r x H1 Q
def rI (C : Int → Int → Prop) (g : Int → Int → V) : R2 := fun x y H Q => ∃ i j, x = .int i ∧ y = .int j ∧ C i j ∧ Q (g i j) H
def rI0 (g : Int → Int → V) : R2 := fun x y H Q => ∃ i j, x = .int i ∧ y = .int j ∧ Q (g i j) H
def rU (g : Int → V) : V → Hp → VK → Prop := fun x H Q => ∃ i, x = .int i ∧ Q (g i) H

section
variable {X : Cx} {a b c : Expr} {ta tb tc : TE} {pos : Pos}

theorem binT (ha : PE X a ta) (hb : PE X b tb) {pins : List (Addr × Obj)} {s : Shared} {σ : St} {H : Hp} {R : V → V → Hp → Prop} (I : Inv X pins σ H s)
    (h : ta σ H fun x H1 => tb σ H1 fun y H2 => R x y H2) {Q : Value → Shared → Prop} {f : Value → Value → Sem Value}
    (hf : ∀ v u s2 x y H2, Inv X pins σ H2 s2 → RelV x v → RelV y u → R x y H2 → wpAny (model X.prog X.w) X.A (f v u) Q X.xe s2) :
    wpAny (model X.prog X.w) X.A (eval a X.env) (fun v s₁ => wpAny (model X.prog X.w) X.A (eval b X.env) (fun u s₂ => wpAny (model X.prog X.w) X.A (f v u) Q X.xe s₂) X.xe s₁) X.xe s := by
  refine thn (ha pins s σ H _ I h) fun v s1 ⟨x, H1, I1, r1, q1⟩ => ?_
  refine thn (hb pins s1 σ H1 _ I1 q1) fun u s2 ⟨y, H2, I2, r2, q2⟩ => ?_
  exact hf v u s2 x y H2 I2 r1 r2 q2

theorem pe_op {op : Operator} {r : R2} (ho : OpR X (binaryOp op) r) (ha : PE X a ta) (hb : PE X b tb) : PE X (.BinOp a op b pos) (tOp r ta tb) := by
  intro pins s σ H Q I h
  exact wpAny_BinOp (binT ha hb I h fun v u s2 x y H2 I2 rx ry q => ho pins s2 σ H2 x y v u Q I2 rx ry q)
theorem pe_un {op : UnaryOp} {r : V → Hp → VK → Prop} (ho : UnR X (unaryOp op) r) (ha : PE X a ta) : PE X (.UnaryOp op a pos) (tUn r ta) := by
  intro pins s σ H Q I h
  exact UnaryOp_ (thn (ha pins s σ H _ I h) fun v s1 ⟨x, H1, I1, r1, q1⟩ => ho pins s1 σ H1 x v Q I1 r1 q1)
theorem opI {f : Value → Value → Sem Value} {C : Int → Int → Prop} {g : Int → Int → Int}
    (rule : ∀ (i j : Int) (t u : Tok) (s : Shared) (Q : Value → Shared → Prop) (E : Value → Shared → Prop), C i j → Q (.int (g i j) s.toks) { s with toks := s.toks + 1 } → wpAny (model X.prog X.w) X.A (f (.int i t) (.int j u)) Q E s) :
    OpR X f (rI C fun i j => .int (g i j)) := by
  intro pins s σ H x y v u Q I rx ry h
  obtain ⟨i, j, rfl, rfl, hc, q⟩ := h
  obtain ⟨t, rfl⟩ := rx
  obtain ⟨t', rfl⟩ := ry
  exact rule i j t t' s _ _ hc ⟨.int (g i j), H, I.tok _, ⟨_, rfl⟩, q⟩
theorem opI0 {f : Value → Value → Sem Value} {g : Int → Int → Int}
    (rule : ∀ (i j : Int) (t u : Tok) (s : Shared) (Q : Value → Shared → Prop) (E : Value → Shared → Prop), Q (.int (g i j) s.toks) { s with toks := s.toks + 1 } → wpAny (model X.prog X.w) X.A (f (.int i t) (.int j u)) Q E s) :
    OpR X f (rI0 fun i j => .int (g i j)) := by
  intro pins s σ H x y v u Q I rx ry h
  obtain ⟨i, j, rfl, rfl, q⟩ := h
  obtain ⟨t, rfl⟩ := rx
  obtain ⟨t', rfl⟩ := ry
  exact rule i j t t' s _ _ ⟨.int (g i j), H, I.tok _, ⟨_, rfl⟩, q⟩
theorem opB0 {f : Value → Value → Sem Value} {g : Int → Int → Bool}
    (rule : ∀ (i j : Int) (t u : Tok) (s : Shared) (Q : Value → Shared → Prop) (E : Value → Shared → Prop), Q (.bool (g i j)) s → wpAny (model X.prog X.w) X.A (f (.int i t) (.int j u)) Q E s) :
    OpR X f (rI0 fun i j => .bl (g i j)) := by
  intro pins s σ H x y v u Q I rx ry h
  obtain ⟨i, j, rfl, rfl, q⟩ := h
  obtain ⟨t, rfl⟩ := rx
  obtain ⟨t', rfl⟩ := ry
  exact rule i j t t' s _ _ ⟨.bl (g i j), H, I, rfl, q⟩

def CPow (i j : Int) : Prop := 0 ≤ j ∧ j ≤ 1000000 ∧ i.natAbs < 2 ^ 64
def CMul (i j : Int) : Prop := (-(2 ^ 64) < i ∧ i < 2 ^ 64) ∨ (-(2 ^ 64) < j ∧ j < 2 ^ 64)
theorem CMul.ok {i j : Int} (h : CMul i j) : IntMulOk i j := by
  rcases h with ⟨h1, h2⟩ | ⟨h1, h2⟩
  · exact .of_left (intBits_le_64 h1 h2)
  · exact .of_right (intBits_le_64 h1 h2)
theorem op_add : OpR X (binaryOp .Add) (rI0 fun i j => .int (i + j)) := opI0 fun _ _ _ _ _ _ _ q => add_int q
theorem op_sub : OpR X (binaryOp .Sub) (rI0 fun i j => .int (i - j)) := opI0 fun _ _ _ _ _ _ _ q => sub_int q
theorem op_mod : OpR X (binaryOp .Mod) (rI (fun _ j => 0 < j) fun i j => .int (i % j)) := opI fun i j _ _ _ _ _ hc q => by
  have h1 : (0 : Int) < j := hc
  exact mod_int' (by omega) (by rw [Int.fmod_eq_emod_of_nonneg i (by omega)]; exact q)
theorem op_pow : OpR X (binaryOp .Pow) (rI CPow fun i j => .int (i ^ j.toNat)) := opI fun _ _ _ _ _ _ _ hc q => pow_int_small hc.1 hc.2.1 hc.2.2 q
theorem unI {f : Value → Sem Value} {g : Int → Int}
    (rule : ∀ (i : Int) (t : Tok) (s : Shared) (Q : Value → Shared → Prop) (E : Value → Shared → Prop), Q (.int (g i) s.toks) { s with toks := s.toks + 1 } → wpAny (model X.prog X.w) X.A (f (.int i t)) Q E s) :
    UnR X f (rU fun i => .int (g i)) := by
  intro pins s σ H x v Q I rx h
  obtain ⟨i, rfl, q⟩ := h
  obtain ⟨t, rfl⟩ := rx
  exact rule i t s _ _ ⟨.int (g i), H, I.tok _, ⟨_, rfl⟩, q⟩
theorem un_neg : UnR X (unaryOp .USub) (rU fun i => .int (-i)) := unI fun _ _ _ _ _ q => neg_int q
end

def scal : V → V → Bool
  | .non, .non => true | .non, .int _ => true | .int _, .non => true | .non, .bl _ => true | .bl _, .non => true | .non, .str _ => true | .str _, .non => true
  | .int _, .int _ => true | .bl _, .bl _ => true | .str _, .str _ => true | .byt _, .byt _ => true
  | .int _, .str _ => true | .str _, .int _ => true | .bl _, .str _ => true | .str _, .bl _ => true
  | _, _ => false
def rEq : R2 := fun x y H Q => scal x y = true ∧ Q (.bl (decide (x = y))) H
def rNe : R2 := fun x y H Q => scal x y = true ∧ Q (.bl (!decide (x = y))) H

theorem dec_int {i j : Int} : decide (V.int i = V.int j) = (i == j) := by
  rw [Bool.eq_iff_iff]
  simp
theorem dec_bl {i j : Bool} : decide (V.bl i = V.bl j) = (i == j) := by
  rw [Bool.eq_iff_iff]
  simp
theorem dec_str {i j : Str} : decide (V.str i = V.str j) = (i == j) := by
  rw [Bool.eq_iff_iff]
  simp
theorem dec_byt {i j : Array UInt8} : decide (V.byt i = V.byt j) = (i.toList == j.toList) := by
  rw [Bool.eq_iff_iff]
  cases i
  cases j
  simp

section
variable {X : Cx} {a b c : Expr} {ta tb tc : TE} {pos : Pos}
theorem fin_bl {pins : List (Addr × Obj)} {σ : St} {H : Hp} {s : Shared} {Q : VK} {k k' : Bool} (I : Inv X pins σ H s) (q : Q (.bl k) H) (e : k = k') : EP X pins σ Q (.bool k') s := by
  subst e
  exact ⟨.bl k, H, I, rfl, q⟩
theorem op_eq : OpR X (compareOp .Eq) rEq := by
  intro pins s σ H x y v u Q I rx ry h
  obtain ⟨hs, q⟩ := h
  cases x with
  | non =>
    cases rx
    cases y with
    | non => cases ry; exact PySem.EqNone.eq_none_none (fin_bl I q (by simp))
    | bl j => cases ry; exact PySem.EqNone.eq_none_bool (fin_bl I q (by simp))
    | int j => obtain ⟨t', rfl⟩ := ry; exact PySem.EqNone.eq_none_int (fin_bl I q (by simp))
    | str j => obtain ⟨t', rfl⟩ := ry; exact PySem.EqNone.eq_none_str (fin_bl I q (by simp))
    | _ => exact absurd (show false = true from hs) Bool.false_ne_true
  | bl i =>
    cases rx
    cases y with
    | non => cases ry; exact PySem.EqNone.eq_bool_none (fin_bl I q (by simp))
    | bl j => cases ry; exact eq_bool (fin_bl I q dec_bl)
    | str j => obtain ⟨t', rfl⟩ := ry; exact PySem.EqMixed.eq_bool_str (fin_bl I q (by simp))
    | _ => exact absurd (show false = true from hs) Bool.false_ne_true
  | int i =>
    obtain ⟨t, rfl⟩ := rx
    cases y with
    | non => cases ry; exact PySem.EqNone.eq_int_none (fin_bl I q (by simp))
    | int j => obtain ⟨t', rfl⟩ := ry; exact eq_int (fin_bl I q dec_int)
    | str j => obtain ⟨t', rfl⟩ := ry; exact PySem.EqMixed.eq_int_str (fin_bl I q (by simp))
    | _ => exact absurd (show false = true from hs) Bool.false_ne_true
  | str i =>
    obtain ⟨t, rfl⟩ := rx
    cases y with
    | non => cases ry; exact PySem.EqNone.eq_str_none (fin_bl I q (by simp))
    | bl j => cases ry; exact PySem.EqMixed.eq_str_bool (fin_bl I q (by simp))
    | int j => obtain ⟨t', rfl⟩ := ry; exact PySem.EqMixed.eq_str_int (fin_bl I q (by simp))
    | str j => obtain ⟨t', rfl⟩ := ry; exact eq_str (fin_bl I q dec_str)
    | _ => exact absurd (show false = true from hs) Bool.false_ne_true
  | byt i =>
    obtain ⟨t, rfl⟩ := rx
    cases y with
    | byt j => obtain ⟨t', rfl⟩ := ry; exact PySem.W.eq_bytes (fin_bl I q dec_byt)
    | _ => exact absurd (show false = true from hs) Bool.false_ne_true
  | _ => cases y <;> exact absurd (show false = true from hs) Bool.false_ne_true
theorem op_ne : OpR X (compareOp .NotEq) rNe := by
  intro pins s σ H x y v u Q I rx ry h
  obtain ⟨hs, q⟩ := h
  cases x with
  | non =>
    cases rx
    cases y with
    | non => cases ry; exact PySem.EqNone.ne_none_none (fin_bl I q (by simp))
    | bl j => cases ry; exact PySem.EqNone.ne_none_bool (fin_bl I q (by simp))
    | int j => obtain ⟨t', rfl⟩ := ry; exact PySem.EqNone.ne_none_int (fin_bl I q (by simp))
    | str j => obtain ⟨t', rfl⟩ := ry; exact PySem.EqNone.ne_none_str (fin_bl I q (by simp))
    | _ => exact absurd (show false = true from hs) Bool.false_ne_true
  | bl i =>
    cases rx
    cases y with
    | non => cases ry; exact PySem.EqNone.ne_bool_none (fin_bl I q (by simp))
    | bl j => cases ry; exact ne_bool (fin_bl I q (congrArg not dec_bl))
    | str j => obtain ⟨t', rfl⟩ := ry; exact PySem.EqMixed.ne_bool_str (fin_bl I q (by simp))
    | _ => exact absurd (show false = true from hs) Bool.false_ne_true
  | int i =>
    obtain ⟨t, rfl⟩ := rx
    cases y with
    | non => cases ry; exact PySem.EqNone.ne_int_none (fin_bl I q (by simp))
    | int j => obtain ⟨t', rfl⟩ := ry; exact ne_int (fin_bl I q (congrArg not dec_int))
    | str j => obtain ⟨t', rfl⟩ := ry; exact PySem.EqMixed.ne_int_str (fin_bl I q (by simp))
    | _ => exact absurd (show false = true from hs) Bool.false_ne_true
  | str i =>
    obtain ⟨t, rfl⟩ := rx
    cases y with
    | non => cases ry; exact PySem.EqNone.ne_str_none (fin_bl I q (by simp))
    | bl j => cases ry; exact PySem.EqMixed.ne_str_bool (fin_bl I q (by simp))
    | int j => obtain ⟨t', rfl⟩ := ry; exact PySem.EqMixed.ne_str_int (fin_bl I q (by simp))
    | str j => obtain ⟨t', rfl⟩ := ry; exact ne_str (fin_bl I q (congrArg not dec_str))
    | _ => exact absurd (show false = true from hs) Bool.false_ne_true
  | byt i =>
    obtain ⟨t, rfl⟩ := rx
    cases y with
    | byt j => obtain ⟨t', rfl⟩ := ry; exact PySem.W.ne_bytes (fin_bl I q (congrArg not dec_byt))
    | _ => exact absurd (show false = true from hs) Bool.false_ne_true
  | _ => cases y <;> exact absurd (show false = true from hs) Bool.false_ne_true

theorem op_lt : OpR X (compareOp .Lt) (rI0 fun i j => .bl (decide (i < j))) := opB0 fun _ _ _ _ _ _ _ q => lt_int q
theorem op_le : OpR X (compareOp .LtE) (rI0 fun i j => .bl (decide (i ≤ j))) := opB0 fun _ _ _ _ _ _ _ q => le_int q
theorem op_gt : OpR X (compareOp .Gt) (rI0 fun i j => .bl (decide (j < i))) := opB0 fun _ _ _ _ _ _ _ q => gt_int q
theorem nomark (b : Expr) {op : CmpOp} (h : op ≠ .In := by decide) (h2 : op ≠ .NotIn := by decide) : behindInMarks op b = false := by
  have e1 : (op == CmpOp.In) = false := by cases op <;> first | rfl | exact absurd rfl h
  have e2 : (op == CmpOp.NotIn) = false := by cases op <;> first | rfl | exact absurd rfl h2
  cases b <;> simp [behindInMarks, e1, e2]
theorem pe_cmpR {op : CmpOp} {r : R2} (ho : OpR X (compareOp op) r) (ha : PE X a ta) (hb : PE X b tb) (hm : behindInMarks op b = false) : PE X (.Compare a [op] [b] pos) (tOp r ta tb) := by
  intro pins s σ H Q I h
  exact wpAny_Compare1 (binT ha hb I h fun v u s2 x y H2 I2 rx ry q => ho pins s2 σ H2 x y v u Q I2 rx ry q) hm
def tTest (t : TE) : TT := fun σ H Q => t σ H fun x H' => ∃ k, x = .bl k ∧ Q k H'
theorem pt_cmpR {op : CmpOp} {r : R2} (ho : OpR X (compareOp op) r) (ha : PE X a ta) (hb : PE X b tb) (hm : behindInMarks op b = false) : PT X (.Compare a [op] [b] pos) (tTest (tOp r ta tb)) := by
  intro pins s σ H Q I h
  refine wpAny_isTrue_Compare1 (thn (ha pins s σ H _ I h) fun v s1 ⟨x, H1, I1, r1, q1⟩ => thn (hb pins s1 σ H1 _ I1 q1) fun u s2 ⟨y, H2, I2, r2, q2⟩ =>
    thn (ho pins s2 σ H2 x y v u _ I2 r1 r2 q2) fun c s3 ⟨z, H3, I3, r3, k, e, q3⟩ => ?_) hm
  subst e
  cases r3
  exact wpAny_truthy_bool ⟨H3, I3, q3⟩
def TruV (K : PySem.W.Frag) (x : V) (H : Hp) (k : Bool) : Prop :=
  match x with
  | .non => k = false
  | .bl b => k = b
  | .int i => k = (i != 0)
  | .str y => y.length ≤ sizeLine ∧ k = ((y.length : Int) != 0)
  | .byt y => y.size ≤ sizeLine ∧ k = ((y.size : Int) != 0)
  | .ref p => (∃ xs, SqL K H p xs ∧ k = !xs.isEmpty) ∨ (∃ xs, SqT K H p xs ∧ k = !xs.isEmpty) ∨ ∃ kvs, H p = some (.dK kvs) ∧ k = !kvs.isEmpty
  | _ => False
theorem isEmpty_kv {κ : Type} {kvs : List (κ × V)} {vs : List (κ × Value)} (r : KV kvs vs) : (!vs.isEmpty) = !kvs.isEmpty := by
  cases r <;> rfl
theorem isEmpty_of {xs : List V} {its : List Value} (r : Vals xs its) : (!its.toArray.isEmpty) = !xs.isEmpty := by
  cases r <;> simp
theorem line63 : (sizeLine : Nat) < 2 ^ 63 := by rw [sizeLine_eq]; decide
theorem tru_ok : TruR X (fun x H Q => ∃ k, TruV X.K x H k ∧ Q k H) := by
  intro pins s σ H x v Q I rx h
  obtain ⟨k, e, q⟩ := h
  have hl := line63
  have hs : sizeLine = 16777216 := sizeLine_eq
  cases x with
  | non =>
    cases rx
    have e' : k = false := e
    subst e'
    exact truthy_none ⟨H, I, q⟩
  | bl b =>
    cases rx
    have e' : k = b := e
    subst e'
    exact wpAny_truthy_bool ⟨H, I, q⟩
  | int i =>
    obtain ⟨t, rfl⟩ := rx
    have e' : k = (i != 0) := e
    subst e'
    exact PySem.P.truthy_int ⟨H, I, q⟩
  | str y =>
    obtain ⟨t, rfl⟩ := rx
    obtain ⟨hy, e'⟩ : y.length ≤ sizeLine ∧ k = ((y.length : Int) != 0) := e
    subst e'
    exact PySem.P.truthy_str (by omega) ⟨H, I.tok _, q⟩
  | byt y =>
    obtain ⟨t, rfl⟩ := rx
    obtain ⟨hy, e'⟩ : y.size ≤ sizeLine ∧ k = ((y.size : Int) != 0) := e
    subst e'
    exact PySem.W.truthy_bytes (by omega) ⟨H, I.tok _, q⟩
  | ref p =>
    cases rx
    have e' : (∃ xs, SqL X.K H p xs ∧ k = !xs.isEmpty) ∨ (∃ xs, SqT X.K H p xs ∧ k = !xs.isEmpty) ∨ ∃ kvs, H p = some (.dK kvs) ∧ k = !kvs.isEmpty := e
    rcases e' with ⟨xs, hx, e'⟩ | ⟨xs, hx, e'⟩ | ⟨kvs, hx, e'⟩
    · subst e'
      obtain ⟨its, r, pl, hz⟩ := I.list hx
      have hlen := r.length
      exact wpAny_truthy_list pl.isList (by simp only [List.size_toArray]; omega) ⟨H, I.tok _, by rw [isEmpty_of r]; exact q⟩
    · subst e'
      obtain ⟨its, r, pl, hz⟩ := I.tuple hx
      have hlen := r.length
      exact truthy_tuple pl (by simp only [List.size_toArray]; omega) ⟨H, I.tok _, by rw [isEmpty_of r]; exact q⟩
    · subst e'
      obtain ⟨hz, hS, vs, r, m⟩ : kvs.length ≤ sizeLine ∧ (p == sysModules) = false ∧ ∃ vs, KV kvs vs ∧ s.heap.DictOf (mixKind X.prog X.w) p vs := I.hok p _ hx
      have hlen : kvs.length = vs.length := Paired.length r
      exact wpAny_truthy_dict hS m (by omega) ⟨H, I.tok _, by rw [isEmpty_kv r]; exact q⟩
  | _ => exact (show False from e).elim
theorem pt_truth (ha : PE X a ta) (he : ∀ whole, isTrue a X.env whole = (do let v ← whole; standAt a.pos; holding [v] (truthy v))) :
    PT X a (fun σ H Q => ta σ H fun x H' => ∃ k, TruV X.K x H' k ∧ Q k H') := by
  intro pins s σ H Q I h
  exact isTrue_plain (thn (ha pins s σ H _ I h) fun v s1 ⟨x, H1, I1, r1, q1⟩ => tru_ok pins s1 σ H1 x v Q I1 r1 q1) (he _)

theorem vals1 {x : V} {us : List Value} (r : Vals [x] us) : ∃ u, us = [u] ∧ RelV x u := by
  cases r with
  | cons r1 r2 => cases r2; exact ⟨_, rfl, r1⟩
theorem call_abs : CallR X (.builtin "abs") (fun xs H Q => ∃ i, xs = [.int i] ∧ Q (.int (if i < 0 then -i else i)) H) := by
  intro pins s σ H xs us Q I r h
  obtain ⟨i, rfl, q⟩ := h
  obtain ⟨u, rfl, t, rfl⟩ := vals1 r
  exact call_abs_int fun u tk => ⟨.int (if i < 0 then -i else i), H, I.tok _, ⟨_, rfl⟩, q⟩
theorem call_int1 : CallR X (.type "int") (fun xs H Q => (∃ i, xs = [.int i] ∧ Q (.int i) H) ∨ ∃ k, xs = [.bl k] ∧ Q (.int (if k then 1 else 0)) H) := by
  intro pins s σ H xs us Q I r h
  rcases h with ⟨i, rfl, q⟩ | ⟨k, rfl, q⟩
  · obtain ⟨u, rfl, t, rfl⟩ := vals1 r
    exact call_int_int ⟨.int i, H, I, ⟨_, rfl⟩, q⟩
  · obtain ⟨u, rfl, r1⟩ := vals1 r
    cases r1
    exact call_int_bool ⟨.int (if k then 1 else 0), H, I.tok _, ⟨_, rfl⟩, q⟩
end
end L2

namespace L2
open PySem PySem.Spec PyProof.Rows

structure ObjM (h : Heap) (x dx C : Addr) (mA : Str → Option Value) : Prop where
  obj : h.get? x = some (PySem.W.instObj C dx)
  ns : h.Ns1 dx mA
  ne : dx ≠ x

theorem lookIn_ns {h : Heap} {dx : Addr} {mA : Str → Option Value} (n : h.Ns1 dx mA) : ∃ od, h.get? dx = some od ∧ ∀ name, PySem.W.lookIn name od = some (mA name) := by
  obtain ⟨o, es, ep, ho, hd, hk, _, hm⟩ := n
  refine ⟨o, ho, fun name => ?_⟩
  have e := hm name
  unfold nsFind findBy at e
  rw [← Array.find?_toList] at e
  unfold PySem.W.lookIn
  rw [hd]
  dsimp only
  split
  · rename_i y q
    rw [q] at e
    exact congrArg some e
  · rename_i q
    rw [q] at e
    have a : es.toList.any (·.refKey) = false := by
      rw [List.any_eq_false]
      intro y hy
      obtain ⟨z, t, hkey⟩ := hk y (Array.mem_toList_iff.mp hy)
      simp [DictEntry.refKey, hkey]
    have a' : ¬ es.toList.any (·.refKey) = true := by rw [a]; exact Bool.false_ne_true
    rw [if_neg a']
    exact congrArg some e

theorem ObjM.look {h : Heap} {x dx C : Addr} {mA : Str → Option Value} (I : ObjM h x dx C mA) : ∃ od, PySem.W.InstAt h x (PySem.W.instObj C dx) C (some od) ∧ ∀ name, PySem.W.lookIn name od = some (mA name) :=
  let ⟨od, ho, hl⟩ := lookIn_ns I.ns
  ⟨od, ⟨I.obj, rfl, rfl, ho⟩, hl⟩

section
variable {prog : Program} {w : World} {A : Around} {E : Value → Shared → Prop} {s : Shared} {K : PySem.W.Frag} {x dx C f : Addr} {mA : Str → Option Value} {name : Str} {v : Value}

end

theorem RelO.some_of {v : V} {o : Option Value} (r : RelO (some v) o) : ∃ u, o = some u ∧ RelV v u := by
  cases o with
  | none => exact (show False from r).elim
  | some u => exact ⟨u, rfl, r⟩
section
variable {P : Program} {w : World} {H H' : Hp} {h h' : Heap} {a C dx : Addr} {fs fs' : List (Str × V)}
theorem ins_get (hok : HOk P w H h) (e : H a = some (.ins C dx fs)) : ∃ mA, ObjM h a dx C mA ∧ (∀ f, RelO (fs.lookup f) (mA f)) ∧ PySem.Within mA (fs.map (·.1)) ∧ fs.length ≤ 1000 ∧ H dx = some (.own a) := by
  obtain ⟨d, z, ne, ob, mA, n, r, q⟩ := (show ObjOk P w H h a (.ins C dx fs) from hok a _ e)
  exact ⟨mA, ⟨ob, n, ne⟩, r, q, z, d⟩
end

structure Cls (K : PySem.W.Frag) (C : Addr) : Prop where
  pg : PySem.W.plainGet K C Str.empty = true
  hd : PySem.W.hasDictIn K C = true
  po : PySem.W.plainOver K C = true
  sa : PySem.W.findIn K (.ref C) "__setattr__" = some (some (.builtin "object.__setattr__"))
theorem Cls.get {K : PySem.W.Frag} {C : Addr} (c : Cls K C) (f : Str) : PySem.W.plainGet K C f = true := c.pg
section
variable {X : Cx} {pins : List (Addr × Obj)} {σ : St} {H : Hp} {s : Shared} {a C dx : Addr} {fs : List (Str × V)} {f : Str} {v : V} {A : Around} {E : Value → Shared → Prop}

end

section
variable {X : Cx} {o e value : Expr} {f : Str} {pos pos' tpos : Pos} {ta tv : TE}
end

section
variable {X : Cx} {pins : List (Addr × Obj)} {σ : St} {H : Hp} {s : Shared} {A : Around} {E : Value → Shared → Prop} {Q : Value → Shared → Prop} {c : Value} {b : Bool}
inductive TyOf (K : PySem.W.Frag) (H : Hp) : V → Value → Prop where
  | non : TyOf K H .non (.type "NoneType")
  | bl (x : Bool) : TyOf K H (.bl x) (.type "bool")
  | int (i : Int) : TyOf K H (.int i) (.type "int")
  | str (x : Str) : TyOf K H (.str x) (.type "str")
  | flt (x : UInt64) : TyOf K H (.flt x) (.type "float")
  | lst {a : Addr} {xs : List V} (e : H a = some (.lst xs)) : TyOf K H (.ref a) (.type "list")
  | frz {a : Addr} {o : Obj} {xs : List V} (e : H a = some (.frz o (.lst xs))) : TyOf K H (.ref a) (.type "list")
  | tup {a : Addr} {xs : List V} (e : H a = some (.tup xs)) : TyOf K H (.ref a) (.type "tuple")
  | dK {a : Addr} {kvs : List (Key × V)} (e : H a = some (.dK kvs)) : TyOf K H (.ref a) (.type "dict")
  | dT {a : Addr} {kvs : List (List Key × V)} (e : H a = some (.dT kvs)) : TyOf K H (.ref a) (.type "dict")
  | ins {a C dx : Addr} {fs : List (Str × V)} (e : H a = some (.ins C dx fs)) (cl : Cls K C) (ha : PySem.W.findIn K (.ref C) "__class__" = some (some (.builtin "object.__class__")))
      (hn : PySem.W.specialIn K (.builtin "object.__class__") "__get__" = some (some (.builtin "getset_descriptor.__get__"))) (htk : PySem.W.takesIn K (.builtin "object.__class__") = some true)
      (hm : PySem.W.mroIn K C (.type "object") = some true) : TyOf K H (.ref a) (.ref C)
theorem isinst_ok {x : V} {u t : Value} (I : Inv X pins σ H s) (rx : RelV x u) (ty : TyOf X.K H x t) (e : PySem.W.kitOne X.K t c = some b) (h : ∀ tk, Q (.bool b) { s with toks := tk }) :
    wpAny (model X.prog X.w) A (call (.builtin "isinstance") [u, c]) Q E s := by
  cases ty with
  | non => cases (show u = Value.none from rx); exact PySem.W.kia_one PySem.W.kitx_none I.kIn True.intro e (fun z => nomatch z) h
  | bl y => cases (show u = Value.bool y from rx); exact PySem.W.kia_one PySem.W.kitx_bool I.kIn True.intro e (fun z => nomatch z) h
  | int i => obtain ⟨t, q⟩ := (show ∃ t, u = Value.int i t from rx); cases q; exact PySem.W.kia_one PySem.W.kitx_int I.kIn True.intro e (fun z => nomatch z) h
  | str y => obtain ⟨t, q⟩ := (show ∃ t, u = Value.str y t from rx); cases q; exact PySem.W.kia_one PySem.W.kitx_str I.kIn True.intro e (fun z => nomatch z) h
  | flt y => obtain ⟨t, q⟩ := (show ∃ t, u = Value.float y t from rx); cases q; exact PySem.W.kia_one PySem.W.kitx_float I.kIn True.intro e (fun z => nomatch z) h
  | @lst a xs ea =>
    cases (show u = Value.ref a from rx)
    obtain ⟨_, _, n, _, h1⟩ := (show ObjOk X.prog X.w H s.heap a (.lst xs) from I.hok a _ ea)
    exact PySem.W.kia_one PySem.W.kitx_list I.kIn ⟨_, h1, rfl⟩ e (fun z => nomatch z) h
  | @frz a ob xs ea =>
    cases (show u = Value.ref a from rx)
    obtain ⟨_, _, _, n, _, h1⟩ := (show ObjOk X.prog X.w H s.heap a (.frz ob (.lst xs)) from I.hok a _ ea)
    exact PySem.W.kia_one PySem.W.kitx_list I.kIn ⟨_, h1, rfl⟩ e (fun z => nomatch z) h
  | @tup a xs ea =>
    cases (show u = Value.ref a from rx)
    obtain ⟨_, _, _, p⟩ := (show ObjOk X.prog X.w H s.heap a (.tup xs) from I.hok a _ ea)
    obtain ⟨o, h1, h2, _⟩ := p
    exact PySem.W.kia_one PySem.W.kitx_tuple I.kIn ⟨o, h1, h2⟩ e (fun z => nomatch z) h
  | @dK a kvs ea =>
    cases (show u = Value.ref a from rx)
    obtain ⟨_, _, vs, _, p⟩ := (show ObjOk X.prog X.w H s.heap a (.dK kvs) from I.hok a _ ea)
    obtain ⟨o, es, ep, h1, h2, _⟩ := p
    exact PySem.W.kia_one PySem.W.kitx_dict I.kIn ⟨o, h1, h2.1⟩ e (fun z => nomatch z) h
  | @dT a kvs ea =>
    cases (show u = Value.ref a from rx)
    obtain ⟨_, _, xs, _, o, es, ep, h1, h2, _⟩ := (show ObjOk X.prog X.w H s.heap a (.dT kvs) from I.hok a _ ea)
    exact PySem.W.kia_one PySem.W.kitx_dict I.kIn ⟨o, h1, h2.1⟩ e (fun z => nomatch z) h
  | @ins a C dx fs ea cl ha hn htk hm =>
    cases (show u = Value.ref a from rx)
    obtain ⟨mA, O, _⟩ := ins_get I.hok ea
    obtain ⟨od, J, _⟩ := O.look
    exact PySem.W.kia_one (PySem.W.kitx_own (cl.get _) cl.hd ha hn htk hm) I.kIn J e (fun z => nomatch z) h
end
end L2

namespace L2
open PySem PySem.Spec PyProof.Rows

structure Room (k : Nat) (A : Around) : Prop where
  hd : A.handled = none
  dp : A.depth + 3 * k + 5 < recursionLimit
  un : A.units + 16 * k + 200 < cLine
theorem Room.mono {j k : Nat} {A : Around} (r : Room k A) (h : j ≤ k) : Room j A := ⟨r.hd, by have := r.dp; omega, by have := r.un; omega⟩
theorem Room.deeper {k : Nat} {A : Around} (r : Room (k + 1) A) (env : Env) : Room k (A.deeper env) :=
  ⟨r.hd, by have := r.dp; show A.depth + 1 + 3 * k + 5 < _; omega, by have := r.un; show A.units + 3 + 16 * k + 200 < _; omega⟩
theorem Room.depth {k : Nat} {A : Around} (r : Room k A) : A.depth < recursionLimit := by have := r.dp; omega
theorem Room.units {k : Nat} {A : Around} (r : Room k A) : A.units + 64 < cLine := by have := r.un; omega
def tNil : TA := fun _ H Q => Q [] H
def tCons (ta : TE) (tr : TA) : TA := fun σ H Q => ta σ H fun x H1 => tr σ H1 fun xs H2 => Q (x :: xs) H2
section
variable {X : Cx} {e : Expr} {es : List Expr} {te : TE} {t : TA} {pos : Pos}
theorem pa_nil : PA X [] tNil := fun _ _ _ _ H Q I h => Calls.spliced_nil ⟨[], H, I, .nil, h⟩
theorem pa_cons (ha : PE X e te) (hr : PA X es t) (hs : starEach (e :: es) X.env = (false, eval e X.env) :: starEach es X.env := by rfl) : PA X (e :: es) (tCons te t) := by
  intro pos pins s σ H Q I h
  rw [hs]
  show wpAny _ _ (spliced ((false, eval e X.env) :: backTo pos (starEach es X.env))) _ _ s
  refine Calls.spliced_cons (thn (ha pins s σ H _ I h) fun u s1 ⟨x, H1, I1, r1, q1⟩ => ?_)
  exact thn (hr pos pins s1 σ H1 _ I1 q1) fun us s2 ⟨xs, H2, I2, r2, q2⟩ => ⟨x :: xs, H2, I2, .cons r1 r2, q2⟩

def tTup (t : TA) : TE := fun σ H Q => t σ H fun xs H1 => xs.length ≤ sizeLine ∧ ∀ p, H1 p = none → Q (.ref p) (upd H1 p (.tup xs))
def tLst (t : TA) : TE := fun σ H Q => t σ H fun xs H1 => xs.length ≤ sizeLine ∧ ∀ p, H1 p = none → Q (.ref p) (upd H1 p (.lst xs))
theorem pe_tup {x1} (h : PA X es t) : PE X (.Tuple es x1 pos) (tTup t) := by
  intro pins s σ H Q I hq
  refine wpAny_Tuple_spliced (thn (h pos pins s σ H _ I hq) fun us s1 ⟨xs, H1, I1, r, z, q⟩ => ⟨by rw [← r.length]; exact z, ?_⟩)
  have hf : H1 s1.heap.objs.size = none := I1.hok.fresh (Nat.le_refl _)
  refine ⟨.ref s1.heap.objs.size, upd H1 s1.heap.objs.size (.tup xs), I1.laid (t' := s1.toks) (fun b u e => Heap.get?_push_of_some _ e) (Nat.le_refl _) ?_, rfl, q _ hf⟩
  exact ⟨z, us, r, ⟨_, Heap.get?_push_size _ rfl, rfl, _, rfl⟩⟩
theorem pe_lst (h : PA X es t) : PE X (.List es pos) (tLst t) := by
  intro pins s σ H Q I hq
  refine wpAny_List_spliced (thn (h pos pins s σ H _ I hq) fun us s1 ⟨xs, H1, I1, r, z, q⟩ => ⟨by rw [← r.length]; exact z, ?_⟩)
  have hf : H1 s1.heap.objs.size = none := I1.hok.fresh (Nat.le_refl _)
  refine ⟨.ref s1.heap.objs.size, upd H1 s1.heap.objs.size (.lst xs), I1.laid (t' := s1.toks) (fun b u e => Heap.get?_push_of_some _ e) (Nat.le_refl _) ?_, rfl, q _ hf⟩
  exact ⟨z, us, 0, r, Heap.get?_push_size _ rfl⟩
end

abbrev Sp := List V → Hp → VK → XK → Prop
abbrev CXT := List Env → Hp → Shared → XK → Value → Shared → Prop

structure Env0 (P : Program) (w : World) (K : PySem.W.Frag) (mg : Str → Option Value) (base : Heap) (A : Around) (outer : List Env) (s : Shared) (H : Hp) : Prop where
  frames : A.frames = some outer
  mod : Mod K mg base
  bs : ∀ b o, base.get? b = some o → s.heap.get? b = some o ∧ H b = none
  bsz : base.objs.size ≤ s.heap.objs.size
  funs : s.heap.FunFrames base outer
  frf : ∀ b ∈ frs outer, H b = none
  hok : HOk P w H s.heap
  bare : AllBare s.gens
def CE (outer : List Env) (P : Program) (w : World) (H : Hp) (s : Shared) (Q : VK) (u : Value) (s' : Shared) : Prop :=
  ∃ v H', s'.os = s.os ∧ AllBare s'.gens ∧ Un (frs outer) [] H H' s.heap s'.heap ∧ HOk P w H' s'.heap ∧ RelV v u ∧ Q v H'
def CR (CX : CXT) (outer : List Env) (P : Program) (w : World) (H : Hp) (s : Shared) (Q : VK) (E : XK) (r : Result) (s' : Shared) : Prop :=
  match r with
  | .ok (.ret u) => CE outer P w H s Q u s'
  | .ok _ => False
  | .error e => CX outer H s E e s'
structure FnOk (P : Program) (w : World) (K : PySem.W.Frag) (mg : Str → Option Value) (base : Heap) (CX : CXT) (k : Nat) (f : Addr) (fd : FuncData) (ps : List Str) (sp : Sp) : Prop where
  len : ∀ vs H Q E, sp vs H Q E → vs.length = ps.length
  run : ∀ (A : Around) (outer : List Env) (s : Shared) (H : Hp) (args : Args) (us : List Value) (vs : List V) (Q : VK) (E : XK), Room k A → Env0 P w K mg base A outer s H → BindsTo s fd args (ps.zip us) → Vals vs us → sp vs H Q E →
    codeAny (model P w) A (.call (.ref f) args) (CR CX outer P w H s Q E) s
theorem FnOk.mono {P : Program} {w : World} {K : PySem.W.Frag} {mg : Str → Option Value} {base : Heap} {CX : CXT} {j k : Nat} {f : Addr} {fd : FuncData} {ps : List Str} {sp : Sp} (F : FnOk P w K mg base CX j f fd ps sp) (h : j ≤ k) :
    FnOk P w K mg base CX k f fd ps sp := ⟨F.len, fun A outer s H args us vs Q E hr => F.run A outer s H args us vs Q E (hr.mono h)⟩
section
variable {X : Cx} {pins : List (Addr × Obj)} {σ : St} {H : Hp} {s s' : Shared}
theorem Inv.env0 (I : Inv X pins σ H s) : Env0 X.prog X.w X.K X.mg X.base X.A X.stack s H :=
  ⟨I.ok.frames, I.ok.mod, I.bs, Nat.le_trans I.ok.bsz I.sz, I.stack, I.stkFree, I.hok, I.bare⟩
theorem Inv.after {Q : VK} {u : Value} (I : Inv X pins σ H s) (h : CE X.stack X.prog X.w H s Q u s') : EP X pins σ Q u s' := by
  obtain ⟨v, H', os, bare, un, hok, r, q⟩ := h
  obtain ⟨hh, g, d, t, os'⟩ := s'
  obtain rfl : os' = s.os := os
  exact ⟨v, H', I.call (h' := hh) (g' := g) (d' := d) (t' := t) (ch := []) un hok bare (fun b z => absurd z (by simp)), r, q⟩
end

def tCall (sp : Sp) (dvs : List V) (E : XK) (t : TA) : TE := fun σ H Q => t σ H fun vs H1 => sp (vs ++ dvs) H1 Q E
def Binds (K : PySem.W.Frag) (fd : FuncData) (ps : List Str) (ds : List Value) : Prop :=
  ∀ (s : Shared) (us : List Value), K.In s.heap → (us ++ ds).length = ps.length → BindsTo s fd ⟨us, []⟩ (ps.zip (us ++ ds))
theorem Binds.all {K : PySem.W.Frag} {fd : FuncData} {ps : List Str} (h : ∀ us : List Value, us.length = ps.length → bindArgs fd ⟨us, []⟩ = pure (ps.zip us)) : Binds K fd ps [] := fun s us _ hl => by
  rw [List.append_nil] at hl ⊢
  exact .of_eq (h us hl)

def Passes (CX : CXT) (X : Cx) (E : XK) : Prop := ∀ (pins : List (Addr × Obj)) (σ : St) (H : Hp) (s : Shared) (e : Value) (s' : Shared), Inv X pins σ H s → CX X.stack H s E e s' → X.xe e s'

section
variable {X : Cx} {CX : CXT} {k : Nat} {f C : Addr} {fd : FuncData} {ps : List Str} {sp : Sp} {dvs : List V} {ds : List Value} {E : XK} {x m : Str} {p pos apos : Pos} {e o : Expr} {es : List Expr} {ta : TE} {t : TA}

theorem run_fn {pins : List (Addr × Obj)} {σ : St} {H : Hp} {s : Shared} {Q : VK} {us : List Value} {vs : List V} (F : FnOk X.prog X.w X.K X.mg X.base CX k f fd ps sp) (hr : Room k X.A) (hb : Binds X.K fd ps ds) (hd : Vals dvs ds) (hx : Passes CX X E)
    (I : Inv X pins σ H s) (r : Vals vs us) (h : sp (vs ++ dvs) H Q E) : wpAny (model X.prog X.w) X.A (call (.ref f) us) (EP X pins σ Q) X.xe s := by
  have r2 : Vals (vs ++ dvs) (us ++ ds) := r.append hd
  have hl : (us ++ ds).length = ps.length := by rw [← r2.length]; exact F.len _ _ _ _ h
  refine wpAny_call (codeAny_mono (F.run X.A X.stack s H ⟨us, []⟩ (us ++ ds) (vs ++ dvs) Q E hr I.env0 (hb s us I.kIn hl) r2 h) fun r s' hq => ?_)
  cases r with
  | error e => exact hx pins σ H s e s' I hq
  | ok fl =>
    cases fl with
    | ret u => exact I.after hq
    | next => exact False.elim hq
    | brk => exact False.elim hq
    | cont => exact False.elim hq

theorem pe_call (F : FnOk X.prog X.w X.K X.mg X.base CX k f fd ps sp) (hr : Room k X.A) (hg : Gl X x) (hm : X.mg x = some (.ref f)) (hk : PySem.W.keepIn X.K (.ref f) = true) (hb : Binds X.K fd ps ds) (hd : Vals dvs ds) (hx : Passes CX X E)
    (ha : PA X (e :: es) t) (hdb : (x == ("__debug__" : Str)) = false := by decide) (he : starEach (e :: es) X.env = (false, eval e X.env) :: starEach es X.env := by rfl) (hpl : (backTo pos (starEach es X.env)).any (·.1) = false := by rfl) :
    PE X (.Call (.Name x p) (e :: es) [] pos) (tCall sp dvs E t) := by
  intro pins s σ H Q I h
  refine wpAny_Call_Name_kw (ld_glob I hg hm ?_ hdb)
  refine PySem.W.callWith_K (h₀ := X.base) I.ok.mod.kin hk (thn (ha pos pins s σ H _ I h) fun us s1 ⟨vs, H1, I1, r, q⟩ => ⟨I1.kIn, ?_⟩) he hpl
  exact run_fn F hr hb hd hx I1 r q
end

section
variable {X : Cx} {CX : CXT} {k : Nat} {f C : Addr} {fd : FuncData} {ps ks : List Str} {sp : Sp} {E : XK} {x m : Str} {p pos apos kpos : Pos} {e o : Expr} {es : List Expr} {kws : List Keyword} {te ta : TE} {t tk : TA} {nm : Option Str}
variable {g : List Value → List Value → List Value} {gV : List V → List V → List V}
end

structure FnScope (N P : List Str) (sc : Scope) : Prop where
  kind : sc.kind = .function
  co : sc.isCoroutine = false
  gen : sc.isGenerator = false
  nd : N.Nodup
  pre : N.take P.length = P
  par : ∀ x ∈ P, sc.names.lookup x = some .local ∨ sc.names.lookup x = some .cell
  nofree : ∀ y ∈ sc.names, y.2 ≠ .free

theorem bindL_out {kindOf : Str → Option NameKind} {x : Str} : ∀ {binds : List (Str × Value)} {m : Str → Option Value}, (∀ v, (x, v) ∉ binds) → bindL kindOf binds m x = m x
  | [], _, _ => rfl
  | (n, v) :: r, m, h => by
    unfold bindL
    rw [bindL_out fun w hw => h w (List.mem_cons_of_mem _ hw)]
    split
    · have : x ≠ n := by rintro rfl; exact h v List.mem_cons_self
      simp [this]
    · rfl
theorem bindC_out {kindOf : Str → Option NameKind} {x : Str} : ∀ {binds : List (Str × Value)} {m : Str → Option Value}, (∀ v, (x, v) ∉ binds) → bindC kindOf binds m x = m x
  | [], _, _ => rfl
  | (n, v) :: r, m, h => by
    unfold bindC
    rw [bindC_out fun w hw => h w (List.mem_cons_of_mem _ hw)]
    split
    · rfl
    · have : x ≠ n := by rintro rfl; exact h v List.mem_cons_self
      simp [this]
theorem bindL_get {kindOf : Str → Option NameKind} {x : Str} {v : Value} : ∀ {P : List Str} {vs : List Value} {i : Nat} {m : Str → Option Value}, P.Nodup → P[i]? = some x → vs[i]? = some v → kindOf x = some .local →
    bindL kindOf (P.zip vs) m x = some v
  | [], _, _, _, _, h, _, _ => by simp at h
  | _ :: _, [], _, _, _, _, h, _ => by simp at h
  | p :: P, w :: vs, 0, m, nd, h1, h2, hk => by
    simp at h1 h2; subst h1; subst h2
    show bindL kindOf ((p, w) :: P.zip vs) m p = _
    unfold bindL
    rw [bindL_out fun v hv => (List.nodup_cons.mp nd).1 (List.of_mem_zip hv).1, if_pos hk]
    simp
  | p :: P, w :: vs, i + 1, m, nd, h1, h2, hk => by
    show bindL kindOf ((p, w) :: P.zip vs) m x = _
    unfold bindL
    exact bindL_get (i := i) (List.nodup_cons.mp nd).2 (by simpa using h1) (by simpa using h2) hk
theorem bindC_get {kindOf : Str → Option NameKind} {x : Str} {v : Value} : ∀ {P : List Str} {vs : List Value} {i : Nat} {m : Str → Option Value}, P.Nodup → P[i]? = some x → vs[i]? = some v → kindOf x ≠ some .local →
    bindC kindOf (P.zip vs) m x = some v
  | [], _, _, _, _, h, _, _ => by simp at h
  | _ :: _, [], _, _, _, _, h, _ => by simp at h
  | p :: P, w :: vs, 0, m, nd, h1, h2, hk => by
    simp at h1 h2; subst h1; subst h2
    show bindC kindOf ((p, w) :: P.zip vs) m p = _
    unfold bindC
    rw [bindC_out fun v hv => (List.nodup_cons.mp nd).1 (List.of_mem_zip hv).1, if_neg hk]
    simp
  | p :: P, w :: vs, i + 1, m, nd, h1, h2, hk => by
    show bindC kindOf ((p, w) :: P.zip vs) m x = _
    unfold bindC
    exact bindC_get (i := i) (List.nodup_cons.mp nd).2 (by simpa using h1) (by simpa using h2) hk

def start (N : List Str) (vs : List V) : St := vs.map some ++ List.replicate (N.length - vs.length) none

def cxOf (CX : CXT) (P : Program) (w : World) (K : PySem.W.Frag) (mg : Str → Option Value) (base : Heap) (N : List Str) (qual : Str) (scope : Scope) (f : Addr) (cd : Value) (A : Around) (outer : List Env) (s : Shared) (H : Hp) (E : XK) : Cx where
  prog := P
  w := w
  K := K
  mg := mg
  base := base
  A := A.deeper (envOfC qual scope s.heap.objs.size f cd)
  N := N
  s₀ := s
  H₀ := H
  env := envOfC qual scope s.heap.objs.size f cd
  outer := outer
  stack := envOfC qual scope s.heap.objs.size f cd :: outer
  ex := []
  calm := true
  fn := fun _ => true
  pn := []
  xe := fun e s' => wpAny (model P w) (A.deeper (envOfC qual scope s.heap.objs.size f cd)) (leaving (envOfC qual scope s.heap.objs.size f cd) e) (fun _ s'' => CX outer H s E e s'') (fun e' s'' => CX outer H s E e' s'') s'

theorem cell_has {sc : Scope} {n : Nat} {x : Str} (h : sc.names.lookup x = some .cell) : ∃ c, (cellsFrom n sc.names []).lookup x = some c := by
  have q := PySem.W.cellsFrom_some sc.names n [] (.inl h)
  exact Option.isSome_iff_exists.mp q

theorem inv_start {CX : CXT} {P : Program} {w : World} {K : PySem.W.Frag} {mg : Str → Option Value} {base : Heap} {N ps : List Str} {qual : Str} {scope : Scope} {f : Addr} {cd : Value} {A : Around} {outer : List Env} {s s1 : Shared} {H : Hp} {E : XK} {us : List Value} {vs : List V}
    (S : FnScope N ps scope) (hd : A.handled = none) (e0 : Env0 P w K mg base A outer s H) (hl : vs.length = ps.length) (r : Vals vs us)
    (x : InCallC s s.heap.objs.size (bindL (envOfC qual scope s.heap.objs.size f cd).kindOf (ps.zip us) fun _ => none) (cellsFrom (s.heap.objs.size + 1) scope.names []) (bindC (envOfC qual scope s.heap.objs.size f cd).kindOf (ps.zip us) fun _ => none) s1) :
    Inv (cxOf CX P w K mg base N qual scope f cd A outer s H E) [] (start N vs) H s1 := by
  have hpl : ps.length ≤ N.length := by have := congrArg List.length S.pre; rw [List.length_take] at this; omega
  obtain ⟨h1, tk, rfl, hk⟩ := x.done
  have noA : ∀ b : Addr, b ∉ (cxOf CX P w K mg base N qual scope f cd A outer s H E).ex := fun b z => absurd (show b ∈ ([] : List Addr) from z) (by simp)
  refine ⟨⟨e0.mod, S.kind, rfl, rfl, Nat.le_refl _, fun y z c h1 h2 => ?_, fun y hy => ?_, fun y c _ h => ?_, fun _ => hd, Around.frames_deeper e0.frames, .inr ⟨rfl, rfl⟩, fun b z => absurd z (noA b), e0.bs, e0.bsz, fun b _ _ => noA b, fun b z => absurd z (noA b), e0.funs, e0.frf⟩,
    rfl, e0.bare, Un.kept hk, ⟨_, x.toInCall.ns, fun i y v h1 h2 h3 => ?_⟩, fun y c h => ⟨_, x.cell y c h⟩, e0.hok.fresh (Nat.le_refl _), fun y c h => ?_, fun p hp => absurd (show p ∈ ([] : List (Addr × Obj)) from hp) (by simp), e0.hok.kept hk, ?_⟩
  · exact name_of_addr x.apart (PySem.mem_of_lookup h1) (PySem.mem_of_lookup h2)
  · have hy : scope.names.lookup y = some .cell ∨ scope.names.lookup y = some .free := hy
    rcases hy with hy | hy
    · exact cell_has hy
    · exact absurd rfl (S.nofree _ (PySem.mem_of_lookup hy))
  · exact Nat.le_of_lt (x.above y c (PySem.mem_of_lookup h))
  · have hi : i < vs.length := by
      unfold start at h2
      by_cases hi : i < vs.length
      · exact hi
      · rw [List.getElem?_append_right (by simpa using hi)] at h2
        rw [List.getElem?_replicate] at h2
        split at h2 <;> cases h2
    have ha : vs[i]? = some v := by
      unfold start at h2
      rw [List.getElem?_append_left (by simpa using hi), List.getElem?_map] at h2
      cases e : vs[i]? with
      | none => rw [e] at h2; cases h2
      | some a => rw [e] at h2; cases h2; rfl
    obtain ⟨u, hu, rv⟩ := r.get ha
    have hp : ps[i]? = some y := by
      rw [← S.pre, List.getElem?_take_of_lt (by omega)]; exact h1
    have ndP : ps.Nodup := by rw [← S.pre]; exact S.nd.sublist (List.take_sublist _ _)
    refine ⟨u, rv, ?_⟩
    rcases S.par y (List.mem_of_getElem? hp) with k | k
    · exact .inl ⟨k, bindL_get ndP hp hu k⟩
    · obtain ⟨c, e⟩ := cell_has (n := s.heap.objs.size + 1) k
      refine .inr ⟨.inl k, c, e, ?_⟩
      have q := x.cell y c e
      rw [bindC_get ndP hp hu (by show scope.names.lookup y ≠ _; rw [k]; decide)] at q
      exact q
  · exact e0.hok.fresh (Nat.le_of_lt (x.above y c (PySem.mem_of_lookup h)))
  · unfold start
    show _ = N.length
    rw [List.length_append, List.length_map, List.length_replicate]
    omega

theorem fn_of {CX : CXT} {P : Program} {w : World} {K : PySem.W.Frag} {mg : Str → Option Value} {base : Heap} {k : Nat} {f : Addr} {name qual : Str} {params : Arguments} {body : List Stmt} {scope : Scope} {dV kV doc pm cdv ct oc : Value} {an od : Option Addr}
    {osl : Array (Option Value)} {N ps : List Str} {sp : Sp} (lk : K.lookup f = some ⟨oc, od, .func (PySem.W.fnOf name qual params body scope dV kV doc pm an cdv ct), osl⟩) (hcd : PySem.W.codeIn K cdv qual = true) (S : FnScope N ps scope)
    (len : ∀ vs H Q E, sp vs H Q E → vs.length = ps.length)
    (hbody : ∀ (A : Around) (outer : List Env) (s : Shared) (H : Hp) (vs : List V) (Q : VK) (E : XK), Room k (A.deeper (envOfC qual scope s.heap.objs.size f cdv)) → sp vs H Q E →
      ∃ t, PSs (cxOf CX P w K mg base N qual scope f cdv A outer s H E) body t ∧ t { nx := fun _ H' => Q .non H', rt := Q } (start N vs) H) :
    FnOk P w K mg base CX (k + 1) f (PySem.W.fnOf name qual params body scope dV kV doc pm an cdv ct) ps sp := by
  refine ⟨len, fun A outer s H args us vs Q E hr e0 hb r hsp => ?_⟩
  have hl := len _ _ _ _ hsp
  have KX : K.In s.heap := e0.mod.kin.keeps fun b o e => (e0.bs b o e).1
  have lim : s.heap.NoLimit := e0.mod.nolimit.keeps fun b o e => (e0.bs b o e).1
  have hkind : ∀ y ∈ ps.zip us, scope.names.lookup y.1 = some .local ∨ (scope.names.lookup y.1 = some .cell ∧ ((cellsFrom (s.heap.objs.size + 1) scope.names []).lookup y.1).isSome = true) := fun ⟨n, v⟩ hy => by
    rcases S.par n (List.of_mem_zip hy).1 with q | q
    · exact .inl q
    · exact .inr ⟨q, PySem.W.cellsFrom_some _ _ _ (.inl q)⟩
  refine codeAny_call_function hr.depth (KX _ _ lk) rfl S.co S.gen rfl (PySem.W.codeRec_of KX hcd) (hb _ _ _ _ ?_)
  refine wpAny_newFunctionEnv_cells S.kind hkind fun env he s1 x => ?_
  subst he
  refine ⟨lim.keeps x.toInCall.keep, codeAny_func ?_⟩
  obtain ⟨t, ht, hq⟩ := hbody A outer s H vs Q E (hr.deeper _) hsp
  have I : Inv (cxOf CX P w K mg base N qual scope f cdv A outer s H E) [] (start N vs) H s1 := inv_start S hr.hd e0 hl r x
  refine wpAny_mono (ht [] s1 (start N vs) H _ I hq) (fun fl s' hs => ?_) fun e s' hs => hs
  have fin : ∀ {σ' : St} {H' : Hp} {v : V} {u : Value}, Inv (cxOf CX P w K mg base N qual scope f cdv A outer s H E) [] σ' H' s' → RelV v u → Q v H' → CE outer P w H s Q u s' :=
    fun {σ' H' v u} J rv q => ⟨v, H', J.os, J.bare, J.base, J.hok, rv, q⟩
  cases fl with
  | ret u =>
    obtain ⟨v, σ', H', J, rv, q⟩ := hs
    exact fin J rv q
  | next =>
    obtain ⟨σ', H', J, q⟩ := hs
    exact fin (v := V.non) (u := Value.none) J rfl q
  | brk =>
    obtain ⟨_, _, _, q⟩ := hs
    exact False.elim q
  | cont =>
    obtain ⟨_, _, _, q⟩ := hs
    exact False.elim q
end L2

namespace L2
open PySem PySem.Spec PyProof.Rows
section
variable {X : Cx} {x : Str} {p pos : Pos} {e : Expr} {es : List Expr} {t : TA} {id T : String} {r : List V → Hp → VK → Prop}

def tCB (r : List V → Hp → VK → Prop) (t : TA) : TE := fun σ H Q => t σ H fun vs H1 => r vs H1 Q
theorem pe_callB (hc : CallR X (.builtin id) r) (hg : Gl X x) (hm : X.mg x = none) (hv : bootBuiltins x = some (.builtin id)) (ha : PA X (e :: es) t) (hn : x ≠ "__name__" := by decide) (hdb : (x == ("__debug__" : Str)) = false := by decide)
    (he : starEach (e :: es) X.env = (false, eval e X.env) :: starEach es X.env := by rfl) (hpl : (backTo pos (starEach es X.env)).any (·.1) = false := by rfl) : PE X (.Call (.Name x p) (e :: es) [] pos) (tCB r t) := by
  intro pins s σ H Q I h
  refine wpAny_Call_Name_kw (ld_blt I hg hm hv ?_ hn hdb)
  exact PyProof.Rows.callWith_builtin1 (thn (ha pos pins s σ H _ I h) fun us s1 ⟨vs, H1, I1, r1, q1⟩ => hc pins s1 σ H1 vs us Q I1 r1 q1) he hpl
theorem pe_callTy (hc : CallR X (.type T) r) (hg : Gl X x) (hm : X.mg x = none) (hv : bootBuiltins x = some (.type T)) (ha : PA X (e :: es) t) (hn : x ≠ "__name__" := by decide) (hdb : (x == ("__debug__" : Str)) = false := by decide)
    (he : starEach (e :: es) X.env = (false, eval e X.env) :: starEach es X.env := by rfl) (hpl : (backTo pos (starEach es X.env)).any (·.1) = false := by rfl) : PE X (.Call (.Name x p) (e :: es) [] pos) (tCB r t) := by
  intro pins s σ H Q I h
  refine wpAny_Call_Name_kw (ld_blt I hg hm hv ?_ hn hdb)
  exact PyProof.Rows.callWith_type1 (thn (ha pos pins s σ H _ I h) fun us s1 ⟨vs, H1, I1, r1, q1⟩ => hc pins s1 σ H1 vs us Q I1 r1 q1) he hpl
end
end L2

namespace HT
open PySem PyProof.Rows

section
open PySem.SeqAt
open PySem.AutoSeq1 (wpAny_loadPart')
open PySem.MeetsSeq PySem.MeetsSeq2 PySem.MeetsSeq3

end

section
variable {prog : Program} {w : World} {A : Around} {E : Value → Shared → Prop} {s : Shared}

def sIx (n d : Nat) : Option Int → Nat
  | none => d
  | some v => if v < 0 then (v + (n : Int)).toNat else min v.toNat n
end
end HT

namespace L2
open PySem PySem.Spec PyProof.Rows

abbrev TO := St → Hp → (Option Int → Hp → Prop) → Prop
def PO (X : Cx) (e : Option Expr) (t : TO) : Prop :=
  ∀ (pins : List (Addr × Obj)) (s : Shared) (σ : St) (H : Hp) (Q : Option Int → Hp → Prop), Inv X pins σ H s → t σ H Q →
    wpAny (model X.prog X.w) X.A (evalPart e X.env) (fun u s' => ∃ o H', Inv X pins σ H' s' ∧ IsPart u o ∧ Q o H') X.xe s
def tNoPart : TO := fun _ H Q => Q none H
def tPart (t : TE) : TO := fun σ H Q => t σ H fun x H1 => ∃ i, x = .int i ∧ Q (some i) H1

section
variable {X : Cx} {e : Expr} {te : TE} {lo hi : Option Expr} {tl th : TO} {pos p2 : Pos}

theorem po_none : PO X none tNoPart := by
  intro pins s σ H Q I h
  rw [evalPart_none]
  exact wpAny_pure ⟨none, H, I, .none, h⟩
theorem po_some (h : PE X e te) : PO X (some e) (tPart te) := by
  intro pins s σ H Q I hw
  rw [evalPart_some]
  refine thn (h pins s σ H _ I hw) fun u s1 ⟨x, H1, I1, r1, q1⟩ => ?_
  obtain ⟨i, rfl, q⟩ := q1
  obtain ⟨t, rfl⟩ := r1
  exact ⟨some i, H1, I1, .int i t, q⟩

def SlR (X : Cx) (r : V → Option Int → Option Int → Hp → VK → Prop) : Prop :=
  ∀ (pins : List (Addr × Obj)) (s : Shared) (σ : St) (H : Hp) (x : V) (v vl vu : Value) (lo hi : Option Int) (sl : Addr) (Q : VK), Inv X pins σ H s → RelV x v → s.heap.IsSliceOf sl vl vu .none → IsPart vl lo → IsPart vu hi → r x lo hi H Q →
    ∃ T id, typeLookup (.type T) "__getitem__" = pure (some (.builtin id)) ∧ s.TypeIs v T ∧ wpAny (model X.prog X.w) X.A (getItem v (.ref sl)) (EP X pins σ Q) X.xe s
def tSl (r : V → Option Int → Option Int → Hp → VK → Prop) (te : TE) (tl th : TO) : TE := fun σ H Q => te σ H fun x H1 => tl σ H1 fun l H2 => th σ H2 fun u H3 => r x l u H3 Q
theorem pe_slice {r : V → Option Int → Option Int → Hp → VK → Prop} (hr : SlR X r) (he : PE X e te) (hl : PO X lo tl) (hu : PO X hi th) : PE X (.Subscript e (.Slice lo hi none p2) pos) (tSl r te tl th) := by
  intro pins s σ H Q I h
  refine Subscript_ (thn (he pins s σ H _ I h) fun v s1 ⟨x, H1, I1, r1, q1⟩ => ?_)
  refine wpAny_Slice (thn (hl pins s1 σ H1 _ I1 q1) fun vl s2 ⟨l, H2, I2, pl, q2⟩ => thn (hu pins s2 σ H2 _ I2 q2) fun vu s3 ⟨u, H3, I3, pu, q3⟩ => ?_)
  rw [evalPart_none]
  refine wpAny_pure ?_
  have I4 : Inv X pins σ H3 { s3 with heap := s3.heap.push { cls := .type "slice", data := .fields #[vl, vu, .none] } } := I3.kept (t' := s3.toks) fun b ob q => Heap.get?_push_of_some _ q
  obtain ⟨T, id, hT, ht, hg⟩ := hr pins { s3 with heap := s3.heap.push { cls := .type "slice", data := .fields #[vl, vu, .none] } } σ H3 x v vl vu l u s3.heap.objs.size Q I4 r1 (Heap.IsSliceOf.new ..) pl pu q3
  show wpAny (model X.prog X.w) X.A (subscriptTail e (.Slice lo hi none p2) v (.ref s3.heap.objs.size)) (EP X pins σ Q) X.xe { s3 with heap := s3.heap.push { cls := .type "slice", data := .fields #[vl, vu, .none] } }
  exact tail_any (ops := [.ref s3.heap.objs.size, v]) ht hT hg (by with_unfolding_all rfl)

def cutV (xs : List V) (lo hi : Option Int) : List V := (xs.drop (HT.sIx xs.length 0 lo)).take (HT.sIx xs.length xs.length hi - HT.sIx xs.length 0 lo)
theorem cutV_length (xs : List V) (lo hi : Option Int) : (cutV xs lo hi).length ≤ xs.length := by
  unfold cutV
  rw [List.length_take, List.length_drop]
  omega
end
end L2

namespace L2
open PySem PySem.Spec PyProof.Rows

def ixN (n : Nat) (i : Int) : Option Nat := if 0 ≤ i then (if i < n then some i.toNat else none) else if -(n : Int) ≤ i then some (i + n).toNat else none
def atI {α : Type} (xs : List α) (i : Int) : Option α := (ixN xs.length i).bind fun j => xs[j]?
theorem ixN_seq {n : Nat} {i : Int} {j : Nat} (h : ixN n i = some j) : seqIndex? i n = some j ∧ j < n ∧ -(n : Int) ≤ i ∧ i < n := by
  unfold ixN at h
  by_cases h0 : 0 ≤ i
  · rw [if_pos h0] at h
    by_cases h1 : i < n
    · rw [if_pos h1] at h
      have e : i.toNat = j := Option.some.inj h
      exact ⟨by rw [seqIndex_of h0 h1, e], by omega, by omega, h1⟩
    · rw [if_neg h1] at h; cases h
  · rw [if_neg h0] at h
    by_cases h1 : -(n : Int) ≤ i
    · rw [if_pos h1] at h
      have e : (i + n).toNat = j := Option.some.inj h
      exact ⟨by rw [seqIndex_neg (by omega) h1, e], by omega, h1, by omega⟩
    · rw [if_neg h1] at h; cases h
theorem atI_get {α : Type} {xs : List α} {i : Int} {v : α} (h : atI xs i = some v) : ∃ j, seqIndex? i xs.length = some j ∧ xs[j]? = some v ∧ j < xs.length ∧ -(xs.length : Int) ≤ i ∧ i < xs.length := by
  unfold atI at h
  cases e : ixN xs.length i with
  | none => rw [e] at h; cases h
  | some j =>
    rw [e] at h
    obtain ⟨h1, h2, h3, h4⟩ := ixN_seq e
    exact ⟨j, h1, h, h2, h3, h4⟩
theorem atI_nat {α : Type} {xs : List α} {j : Nat} {v : α} (h : xs[j]? = some v) : atI xs (j : Int) = some v := by
  have hj : j < xs.length := (List.getElem?_eq_some_iff.mp h).1
  have e : ixN xs.length (j : Int) = some j := by
    unfold ixN
    rw [if_pos (by omega), if_pos (by omega)]; simp
  unfold atI; rw [e]; exact h
def PlainIx (b : Expr) : Prop := ∀ o i, subscripted b false o i = operate [o, i] (getItem o i)
def IxR (X : Cx) (r : R2) : Prop :=
  ∀ (value slice : Expr) (pins : List (Addr × Obj)) (s : Shared) (σ : St) (H : Hp) (x y : V) (v u : Value) (Q : VK), Inv X pins σ H s → RelV x v → RelV y u → r x y H Q →
    subscripted slice false v u = operate [v, u] (getItem v u) → wpAny (model X.prog X.w) X.A (subscriptTail value slice v u) (EP X pins σ Q) X.xe s
def MtR (X : Cx) (id : String) (r : V → List V → Hp → VK → Prop) : Prop :=
  ∀ (pins : List (Addr × Obj)) (s : Shared) (σ : St) (H : Hp) (x : V) (xs : List V) (v : Value) (us : List Value) (Q : VK), Inv X pins σ H s → RelV x v → Vals xs us → r x xs H Q →
    wpAny (model X.prog X.w) X.A (call (.builtin id) (v :: us)) (EP X pins σ Q) X.xe s
section
variable {X : Cx} {a b : Expr} {ta tb : TE} {pos : Pos}
theorem IxR.or {r r' : R2} (h : IxR X r) (h' : IxR X r') : IxR X (fun x y H Q => r x y H Q ∨ r' x y H Q) := by
  intro value slice pins s σ H x y v u Q I rx ry q hs
  rcases q with q | q
  · exact h value slice pins s σ H x y v u Q I rx ry q hs
  · exact h' value slice pins s σ H x y v u Q I rx ry q hs
theorem pe_ix {r : R2} (hr : IxR X r) (ha : PE X a ta) (hb : PE X b tb) (hs : PlainIx b) : PE X (.Subscript a b pos) (tOp r ta tb) := by
  intro pins s σ H Q I h
  exact Subscript_ (binT ha hb I h fun v u s2 x y H2 I2 rx ry q => hr a b pins s2 σ H2 x y v u Q I2 rx ry q (hs _ _))

def rIxL (K : PySem.W.Frag) : R2 := fun x y H Q => ∃ p xs i v, x = .ref p ∧ y = .int i ∧ SqL K H p xs ∧ atI xs i = some v ∧ Q v H
def rIxT (K : PySem.W.Frag) : R2 := fun x y H Q => ∃ p xs i v, x = .ref p ∧ y = .int i ∧ SqT K H p xs ∧ atI xs i = some v ∧ Q v H
def rIxS : R2 := fun x y H Q => ∃ z i c, x = .str z ∧ y = .int i ∧ z.length ≤ sizeLine ∧ atI z.cps.toList i = some c ∧ Q (.str ⟨#[c]⟩) H
theorem ix_list : IxR X (rIxL X.K) := by
  intro value slice pins s σ H x y v u Q I rx ry h hs
  obtain ⟨p, xs, i, z, rfl, rfl, hq, he, q⟩ := h
  cases rx
  obtain ⟨t, rfl⟩ := ry
  obtain ⟨its, r, pl, hz⟩ := I.list hq
  obtain ⟨j, h1, h2, h3, h4, h5⟩ := atI_get he
  obtain ⟨w, ew, rw'⟩ := r.get h2
  have hl := r.length
  have hn := line63
  have fin : EP X pins σ Q w s := ⟨z, H, I, rw', q⟩
  by_cases h0 : 0 ≤ i
  · have hj : i.toNat = j := by
      rw [seqIndex_of h0 h5] at h1
      exact Option.some.inj h1
    exact item_listR pl.isList h0 (by omega) (by rw [hj]; simpa using ew) fin hs
  · have hj : (i + (its.toArray.size : Int)).toNat = j := by
      rw [seqIndex_neg (by omega) h4] at h1
      rw [List.size_toArray, ← hl]
      exact Option.some.inj h1
    exact subscriptTail_builtinR (x := w) pl.isList.typeIs slot_list_getitem.lookup
      (wpAny_getItem_list_neg (Q := fun r s' => r = w ∧ EP X pins σ Q r s') pl.isList (by omega) (by rw [List.size_toArray] <;> omega) (by omega) (by rw [hj]; simpa using ew) ⟨rfl, fin⟩) hs
theorem ix_tup : IxR X (rIxT X.K) := by
  intro value slice pins s σ H x y v u Q I rx ry h hs
  obtain ⟨p, xs, i, z, rfl, rfl, hq, he, q⟩ := h
  cases rx
  obtain ⟨t, rfl⟩ := ry
  obtain ⟨its, r, pl, hz⟩ := I.tuple hq
  obtain ⟨j, h1, h2, h3, h4, h5⟩ := atI_get he
  obtain ⟨w, ew, rw'⟩ := r.get h2
  have hl := r.length
  have hn := line63
  have fin : EP X pins σ Q w s := ⟨z, H, I, rw', q⟩
  exact subscriptTail_builtinR (x := w) pl.typeIs slot_tuple_getitem.lookup
    (getItem_tuple (j := j) (Q := fun r s' => r = w ∧ EP X pins σ Q r s') pl (by omega) (by omega) (by rw [List.size_toArray, ← hl]; exact h1) (by simpa using ew) ⟨rfl, fin⟩) hs
theorem ix_str : IxR X rIxS := by
  intro value slice pins s σ H x y v u Q I rx ry h hs
  obtain ⟨z, i, c, rfl, rfl, hz, he, q⟩ := h
  obtain ⟨t, rfl⟩ := rx
  obtain ⟨t', rfl⟩ := ry
  obtain ⟨j, h1, h2, h3, h4, h5⟩ := atI_get he
  have hl : z.cps.toList.length = z.length := by simp [Str.length]
  rw [hl] at h1 h4 h5
  have hn := line63
  exact tail_any (typeIs_str s z t) slot_str_getitem.lookup (getItem_str (c := c) (by
    have e1 : decide (i < -(2 ^ 63 : Int)) = false := decide_eq_false (by omega)
    have e2 : decide (i ≥ 2 ^ 63) = false := decide_eq_false (by omega)
    rw [e1, e2, Bool.or_false]) (by rw [h1]; simpa using h2) ⟨.str ⟨#[c]⟩, H, I.tok _, ⟨_, rfl⟩, q⟩) hs
def rIx (K : PySem.W.Frag) : R2 := fun x y H Q => rIxL K x y H Q ∨ rIxT K x y H Q ∨ rIxS x y H Q
theorem ix_seq : IxR X (rIx X.K) := ix_list.or (ix_tup.or ix_str)

theorem mapSeq_set (its : List Value) (n j : Nat) (u : Value) : Obj.mapSeq (·.setIfInBounds j u) { cls := .type "list", data := .seq its.toArray n } = { cls := .type "list", data := .seq (its.set j u).toArray n } := by
  simp [Obj.mapSeq]
theorem Inv.lst {pins : List (Addr × Obj)} {σ : St} {H : Hp} {s : Shared} {p : Addr} {xs : List V} (I : Inv X pins σ H s) (h : H p = some (.lst xs)) :
    ∃ (its : List Value) (n : Nat), Vals xs its ∧ s.heap.get? p = some { cls := .type "list", data := .seq its.toArray n } ∧ xs.length ≤ sizeLine := by
  obtain ⟨z, its, n, r, e⟩ := I.hok p _ h
  exact ⟨its, n, r, e, z⟩
theorem Inv.lstUpd {pins : List (Addr × Obj)} {σ : St} {H : Hp} {s : Shared} {p : Addr} {xs ys : List V} {its its' : List Value} {n n' : Nat} {f : Obj → Obj} (I : Inv X pins σ H s) (h : H p = some (.lst xs))
    (ho : s.heap.get? p = some { cls := .type "list", data := .seq its.toArray n }) (hf : f { cls := .type "list", data := .seq its.toArray n } = { cls := .type "list", data := .seq its'.toArray n' }) (r : Vals ys its') (hz : ys.length ≤ sizeLine) (t : Nat) :
    Inv X pins σ (upd H p (.lst ys)) { s with heap := s.heap.update p f, toks := t } := by
  have e : (s.heap.update p f).get? p = some { cls := .type "list", data := .seq its'.toArray n' } := by
    rw [Heap.get?_update_self f ho (by rw [hf] <;> rfl), hf]
  refine I.write (x := p) (e := p) (by rw [h]; trivial) (.inl rfl) (fun b u hb q => (Heap.get?_update_other _ _ (Ne.symm hb)).trans q) ⟨_, e⟩ ?_
  exact ⟨hz, its', n', r, e⟩
def rSetL : V → V → V → Hp → (Hp → Prop) → Prop := fun o i v H Q => ∃ p xs k j, o = .ref p ∧ i = .int k ∧ H p = some (.lst xs) ∧ ixN xs.length k = some j ∧ Q (upd H p (.lst (xs.set j v)))
theorem set_list : PSet X rSetL := by
  intro pins s σ H o i v ov iv u Q I ro ri rv h
  obtain ⟨p, xs, k, j, rfl, rfl, hp, hj, q⟩ := h
  cases ro
  obtain ⟨t, rfl⟩ := ri
  obtain ⟨its, n, r, ho, hz⟩ := I.lst hp
  obtain ⟨h1, h2, h3, h4⟩ := ixN_seq hj
  have hl := r.length
  have hn := line63
  have I' : Inv X pins σ (upd H p (.lst (xs.set j v))) { s with heap := s.heap.update p (Obj.mapSeq (·.setIfInBounds j u)) } :=
    I.lstUpd hp ho (mapSeq_set its n j u) (r.set rv j) (by rw [List.length_set]; exact hz) s.toks
  by_cases h0 : 0 ≤ k
  · have hk : k.toNat = j := by
      rw [seqIndex_of h0 h4] at h1
      exact Option.some.inj h1
    exact PySem.W.ki_setAt ho h0 (by omega) (by rw [List.size_toArray, ← hl]; exact h4) (by rw [hk]; exact ⟨_, I', q⟩)
  · have hk : (k + (its.toArray.size : Int)).toNat = j := by
      rw [seqIndex_neg (by omega) h3] at h1
      rw [List.size_toArray, ← hl]
      exact Option.some.inj h1
    exact PySem.W.ki_setBack ho (by omega) (by rw [List.size_toArray, ← hl]; exact h3) (by omega) (by rw [hk]; exact ⟨_, I', q⟩)

theorem slice_bounds (lo hi : Option Int) (n : Nat) : (sliceBounds lo hi none n).1 = ((HT.sIx n 0 lo : Nat) : Int) ∧ (sliceBounds lo hi none n).2.1 = ((HT.sIx n n hi : Nat) : Int) ∧ (sliceBounds lo hi none n).2.2 = 1 := by
  refine ⟨?_, ?_, rfl⟩
  · cases lo with
    | none => simp [sliceBounds, HT.sIx]
    | some i =>
      simp only [sliceBounds, HT.sIx, Option.getD_none, show (1 : Int) > 0 by decide, if_true]
      by_cases h : i < 0
      · simp only [h, if_true] <;> omega
      · simp only [h, if_false] <;> omega
  · cases hi with
    | none => simp [sliceBounds, HT.sIx]
    | some i =>
      simp only [sliceBounds, HT.sIx, Option.getD_none, show (1 : Int) > 0 by decide, if_true]
      by_cases h : i < 0
      · simp only [h, if_true] <;> omega
      · simp only [h, if_false] <;> omega
theorem slicePick_cut (its : List Value) (lo hi : Option Int) : slicePick its.toArray lo hi none = ((its.drop (HT.sIx its.length 0 lo)).take (HT.sIx its.length its.length hi - HT.sIx its.length 0 lo)).toArray := by
  obtain ⟨h1, h2, h3⟩ := slice_bounds lo hi its.toArray.size
  unfold slicePick
  rw [h1, h2, h3]
  simp only [sliceRange_one, pick_run, List.size_toArray] <;> rfl
def rSlL (K : PySem.W.Frag) : V → Option Int → Option Int → Hp → VK → Prop := fun x lo hi H Q => ∃ a xs, x = .ref a ∧ SqL K H a xs ∧ ∀ p, H p = none → Q (.ref p) (upd H p (.lst (cutV xs lo hi)))
theorem sl_list : SlR X (rSlL X.K) := by
  intro pins s σ H x v vl vu lo hi sl Q I rx hs pl pu h
  obtain ⟨a, xs, rfl, hx, q⟩ := h
  cases rx
  obtain ⟨its, r, ht, hz⟩ := I.list hx
  have hlen := r.length
  refine ⟨"list", _, slot_list_getitem.lookup, ht.isList.typeIs, ?_⟩
  refine wpAny_getItem_list_slice ht.isList hs pl pu .none (by simp) ?_ (by rw [List.size_toArray] <;> omega)
  rw [slicePick_cut, ← hlen]
  refine ⟨.ref s.heap.objs.size, _, I.laid (t' := s.toks) (o := .lst (cutV xs lo hi)) (fun b ob q => Heap.get?_push_of_some _ q) (Nat.le_refl _) ?_, rfl, q _ (I.hok.fresh (Nat.le_refl _))⟩
  exact ⟨Nat.le_trans (cutV_length xs lo hi) hz, _, 0, (r.drop (HT.sIx xs.length 0 lo)).take (HT.sIx xs.length xs.length hi - HT.sIx xs.length 0 lo), Heap.get?_push_size _ rfl⟩

def flatV : V → Bool
  | .non => true
  | .bl _ => true
  | .int _ => true
  | .str _ => true
  | _ => false
def eqV : V → V → Bool
  | .non, .non => true
  | .bl a, .bl b => a == b
  | .bl a, .int b => (if a then 1 else 0) == b
  | .int a, .bl b => a == (if b then 1 else 0)
  | .int a, .int b => a == b
  | .str a, .str b => a == b
  | _, _ => false
theorem eqAt_V {A : Around} {s : Shared} {y x : V} {u v : Value} (ry : RelV y u) (rx : RelV x v) (fy : flatV y = true) (fx : flatV x = true) : SeqAt.EqAt A s u v (eqV y x) := by
  cases y with
  | non =>
    cases ry
    cases x with
    | non => cases rx; exact SeqAt.EqAt.same _
    | bl b => cases rx; exact SeqAt.EqAt.none_bool b
    | int b => obtain ⟨t, rfl⟩ := rx; exact SeqAt.EqAt.none_int b t
    | str b => obtain ⟨t, rfl⟩ := rx; exact SeqAt.EqAt.none_str b t
    | _ => exact absurd (show false = true from fx) Bool.false_ne_true
  | bl a =>
    cases ry
    cases x with
    | non => cases rx; exact SeqAt.EqAt.bool_none a
    | bl b => cases rx; exact SeqAt.EqAt.bool_bool a b
    | int b => obtain ⟨t, rfl⟩ := rx; exact SeqAt.EqAt.bool_int a b t
    | str b => obtain ⟨t, rfl⟩ := rx; exact SeqAt.EqAt.bool_str a b t
    | _ => exact absurd (show false = true from fx) Bool.false_ne_true
  | int a =>
    obtain ⟨t', rfl⟩ := ry
    cases x with
    | non => cases rx; exact SeqAt.EqAt.int_none a t'
    | bl b => cases rx; exact SeqAt.EqAt.int_bool a t' b
    | int b => obtain ⟨t, rfl⟩ := rx; exact SeqAt.EqAt.int_int a t' b t
    | str b => obtain ⟨t, rfl⟩ := rx; exact SeqAt.EqAt.int_str a t' b t
    | _ => exact absurd (show false = true from fx) Bool.false_ne_true
  | str a =>
    obtain ⟨t', rfl⟩ := ry
    cases x with
    | non => cases rx; exact SeqAt.EqAt.str_none a t'
    | bl b => cases rx; exact SeqAt.EqAt.str_bool a t' b
    | int b => obtain ⟨t, rfl⟩ := rx; exact SeqAt.EqAt.str_int a t' b t
    | str b => obtain ⟨t, rfl⟩ := rx; exact SeqAt.EqAt.str_str a t' b t
    | _ => exact absurd (show false = true from fx) Bool.false_ne_true
  | _ => exact absurd (show false = true from fy) Bool.false_ne_true
def eqU (x : V) (u : Value) : Bool := match u with
  | .none => eqV .non x
  | .bool b => eqV (.bl b) x
  | .int i _ => eqV (.int i) x
  | .str z _ => eqV (.str z) x
  | _ => false
theorem eqU_of {x y : V} {u : Value} (r : RelV y u) (f : flatV y = true) : eqU x u = eqV y x := by
  cases y with
  | non => cases r; rfl
  | bl b => cases r; rfl
  | int i => obtain ⟨t, rfl⟩ := r; rfl
  | str z => obtain ⟨t, rfl⟩ := r; rfl
  | _ => exact absurd (show false = true from f) Bool.false_ne_true
theorem any_eqU {x : V} : ∀ {xs : List V} {us : List Value}, Vals xs us → xs.all flatV = true → us.any (eqU x) = xs.any fun y => eqV y x
  | _, _, .nil, _ => rfl
  | y :: xs, u :: us, .cons r t, f => by
    rw [List.all_cons, Bool.and_eq_true] at f
    rw [List.any_cons, List.any_cons, eqU_of r f.1, any_eqU t f.2]
theorem mem_eqAt {A : Around} {s : Shared} {x : V} {v : Value} (rx : RelV x v) (fx : flatV x = true) : ∀ {xs : List V} {us : List Value}, Vals xs us → xs.all flatV = true → ∀ u ∈ us, SeqAt.EqAt A s u v (eqU x u)
  | _, _, .nil, _ => fun u hu => by cases hu
  | y :: xs, u :: us, .cons r t, f => fun u' hu => by
    rw [List.all_cons, Bool.and_eq_true] at f
    rcases List.mem_cons.mp hu with rfl | hu
    · rw [eqU_of r f.1]; exact eqAt_V r rx f.1 fx
    · exact mem_eqAt rx fx t f.2 u' hu
def inV (x : V) (xs : List V) : Bool := xs.any fun y => eqV y x
def rIn (K : PySem.W.Frag) (neg : Bool) : R2 := fun x y H Q => ∃ p xs, y = .ref p ∧ (SqL K H p xs ∨ SqT K H p xs) ∧ flatV x = true ∧ xs.all flatV = true ∧ Q (.bl (if neg then !inV x xs else inV x xs)) H
theorem op_in_seq : OpR X (compareOp .In) (rIn X.K false) := by
  intro pins s σ H x y v u Q I rx ry h
  obtain ⟨p, xs, rfl, hq, fx, fs, q⟩ := h
  cases ry
  rcases hq with hq | hq
  · obtain ⟨its, r, pl, hz⟩ := I.list hq
    refine SeqAt.in_listAt (eqU x) pl.isList (fun w hw => mem_eqAt rx fx r fs w (by simpa using hw)) ⟨.bl _, H, I, rfl, ?_⟩
    rw [show its.toArray.any (eqU x) = its.any (eqU x) by simp, any_eqU r fs]
    exact q
  · obtain ⟨its, r, pl, hz⟩ := I.tuple hq
    refine SeqAt.in_tupleAt (eqU x) pl (fun w hw => mem_eqAt rx fx r fs w (by simpa using hw)) ⟨.bl _, H, I, rfl, ?_⟩
    rw [show its.toArray.any (eqU x) = its.any (eqU x) by simp, any_eqU r fs]
    exact q
theorem op_notIn_seq : OpR X (compareOp .NotIn) (rIn X.K true) := by
  intro pins s σ H x y v u Q I rx ry h
  obtain ⟨p, xs, rfl, hq, fx, fs, q⟩ := h
  cases ry
  rcases hq with hq | hq
  · obtain ⟨its, r, pl, hz⟩ := I.list hq
    refine SeqAt.notIn_listAt (eqU x) pl.isList (fun w hw => mem_eqAt rx fx r fs w (by simpa using hw)) ⟨.bl _, H, I, rfl, ?_⟩
    rw [show its.toArray.any (eqU x) = its.any (eqU x) by simp, any_eqU r fs]
    exact q
  · obtain ⟨its, r, pl, hz⟩ := I.tuple hq
    refine SeqAt.notIn_tupleAt (eqU x) pl (fun w hw => mem_eqAt rx fx r fs w (by simpa using hw)) ⟨.bl _, H, I, rfl, ?_⟩
    rw [show its.toArray.any (eqU x) = its.any (eqU x) by simp, any_eqU r fs]
    exact q
theorem call_len_seq : CallR X (.builtin "len") (fun xs H Q => ∃ p ys, xs = [.ref p] ∧ (SqL X.K H p ys ∨ SqT X.K H p ys) ∧ Q (.int ys.length) H) := by
  intro pins s σ H xs us Q I r h
  obtain ⟨p, ys, rfl, hq, q⟩ := h
  obtain ⟨u, rfl, rx⟩ := vals1 r
  cases rx
  have hn := line63
  rcases hq with hq | hq
  · obtain ⟨its, r', pl, hz⟩ := I.list hq
    have hlen := r'.length
    exact Calls.call_len_list pl.isList (by simp only [List.size_toArray] <;> omega) ⟨.int ys.length, H, I.tok _, ⟨s.toks + 1, by rw [List.size_toArray, hlen]⟩, q⟩
  · obtain ⟨its, r', pl, hz⟩ := I.tuple hq
    have hlen := r'.length
    exact len_tuple pl (by simp only [List.size_toArray] <;> omega) ⟨.int ys.length, H, I.tok _, ⟨s.toks + 1, by rw [List.size_toArray, hlen]⟩, q⟩
theorem call_list_of : CallR X (.type "list") (fun xs H Q => ∃ p ys, xs = [.ref p] ∧ (SqL X.K H p ys ∨ SqT X.K H p ys) ∧ ∀ l, H l = none → Q (.ref l) (upd H l (.lst ys))) := by
  intro pins s σ H xs us Q I r h
  obtain ⟨p, ys, rfl, hq, q⟩ := h
  obtain ⟨u, rfl, rx⟩ := vals1 r
  cases rx
  have fin : ∀ (its : List Value), Vals ys its → ys.length ≤ sizeLine → ∀ (h' : Heap) (c' : Nat), (∀ b o', s.heap.get? b = some o' → h'.get? b = some o') →
      h'.get? s.heap.objs.size = some { cls := .type "list", dict := none, data := .seq its.toArray c', slots := #[] } → EP X pins σ Q (.ref s.heap.objs.size) { s with heap := h' } := fun its r' hz h' c' kp e =>
    ⟨.ref s.heap.objs.size, _, I.laid (t' := s.toks) kp (Nat.le_refl _) (show ObjOk X.prog X.w _ h' _ (.lst ys) from ⟨hz, its, c', r', e⟩), rfl, q _ (I.hok.fresh (Nat.le_refl _))⟩
  rcases hq with hq | hq
  · obtain ⟨its, r', pl, hz⟩ := I.list hq
    have hlen := r'.length
    obtain ⟨o, ho, hc, n, hd⟩ := pl.isList
    exact call_list_seq p (.inl rfl) ho hc hd (fun h' c' kp e => fin its r' hz h' c' kp e) (by simp only [List.size_toArray] <;> omega)
  · obtain ⟨its, r', pl, hz⟩ := I.tuple hq
    have hlen := r'.length
    obtain ⟨o, ho, hc, n, hd⟩ := pl
    exact call_list_seq p (.inr rfl) ho hc hd (fun h' c' kp e => fin its r' hz h' c' kp e) (by simp only [List.size_toArray] <;> omega)
def tyV (K : PySem.W.Frag) (T : String) (x : V) (H : Hp) : Prop := match x with
  | .str _ => T = "str"
  | .int _ => T = "int"
  | .ref p => (T = "list" ∧ ∃ xs, SqL K H p xs) ∨ (T = "tuple" ∧ ∃ o, K.lookup p = some o ∧ o.cls = .type "tuple" ∧ o.dict = none) ∨
      (T = "dict" ∧ ((∃ kvs, H p = some (.dK kvs)) ∨ ∃ kvs, H p = some (.dT kvs))) ∨ (T = "set" ∧ ∃ S n, H p = some (.set S n))
  | _ => False
theorem tyV_is {pins : List (Addr × Obj)} {σ : St} {H : Hp} {s : Shared} {T : String} {x : V} {v : Value} (I : Inv X pins σ H s) (r : RelV x v) (ty : tyV X.K T x H) :
    s.TypeIs v T ∧ ∀ a, v = .ref a → ∃ ob, s.heap.get? a = some ob ∧ ob.dict = none := by
  cases x with
  | str z =>
    obtain ⟨t, rfl⟩ := r
    cases (show T = "str" from ty)
    exact ⟨typeIs_str s z t, fun _ e => nomatch e⟩
  | int i =>
    obtain ⟨t, rfl⟩ := r
    cases (show T = "int" from ty)
    exact ⟨typeIs_int s i t, fun _ e => nomatch e⟩
  | ref p =>
    cases r
    rcases ty with ⟨rfl, xs, hq⟩ | ⟨rfl, o, hk, hc, hd⟩ | ⟨rfl, hk⟩ | ⟨rfl, S, n, hk⟩
    · obtain ⟨its, _, pl, _⟩ := I.list hq
      refine ⟨pl.isList.typeIs, fun a e => ?_⟩
      cases e
      obtain ⟨o, n, e, c, hd, _⟩ := pl
      exact ⟨o, e, hd⟩
    · refine ⟨⟨o, I.kIn p o hk, hc⟩, fun a e => ?_⟩
      cases e
      exact ⟨o, I.kIn _ o hk, hd⟩
    · have z : ∃ o, s.heap.get? p = some o ∧ o.ExactDict := by
        rcases hk with ⟨kvs, hk⟩ | ⟨kvs, hk⟩
        · obtain ⟨_, _, _, _, o, _, _, e, ex, _⟩ := I.hok p _ hk
          exact ⟨o, e, ex⟩
        · obtain ⟨_, _, _, _, o, _, _, e, ex, _⟩ := I.hok p _ hk
          exact ⟨o, e, ex⟩
      obtain ⟨o, e, ex⟩ := z
      refine ⟨⟨o, e, ex.1⟩, fun a e2 => ?_⟩
      cases e2
      exact ⟨o, e, ex.2.1⟩
    · obtain ⟨o, _, _, _, e, ex, _⟩ := I.hok p _ hk
      refine ⟨⟨o, e, ex.1⟩, fun a e2 => ?_⟩
      cases e2
      exact ⟨o, e, ex.2.1⟩
  | _ => exact False.elim ty
def tBM0 (K : PySem.W.Frag) (T : String) (r : V → List V → Hp → VK → Prop) (to : TE) : TE := fun σ H Q => to σ H fun x H1 => tyV K T x H1 ∧ r x [] H1 Q
def tBM (K : PySem.W.Frag) (T : String) (r : V → List V → Hp → VK → Prop) (to : TE) (t : TA) : TE := fun σ H Q => to σ H fun x H1 => tyV K T x H1 ∧ t σ H1 fun xs H2 => r x xs H2 Q
variable {o e : Expr} {es : List Expr} {to : TE} {t : TA} {name : Str} {apos cpos : Pos} {T id : String} {r : V → List V → Hp → VK → Prop}
theorem pe_bm0 (pa : PlainAttrs T) (slot : Slot T name id) (hty : typeOf (.builtin id) = pure (.type "method_descriptor")) (hm : MtR X id r) (ho : PE X o to)
    (hbase : attributeBase o name X.env (eval o X.env) = eval o X.env := by rfl) (hline : (apos.endLine == cpos.line) = true := by rfl) : PE X (.Call (.Attribute o name apos) [] [] cpos) (tBM0 X.K T r to) := by
  intro pins s σ H Q I h
  refine wpAny_Call_method0_late hbase hline (thn (ho pins s σ H _ I h) fun v s1 ⟨x, H1, I1, r1, ty, q1⟩ => ?_)
  obtain ⟨h1, h2⟩ := tyV_is I1 r1 ty
  exact ⟨T, id, pa, slot, hty, h1, h2, Calls.callWith_builtin rfl (PySem.evalArgs_none (hm pins s1 σ H1 x [] v [] Q I1 r1 .nil q1))⟩
theorem pe_bm (pa : PlainAttrs T) (slot : Slot T name id) (hty : typeOf (.builtin id) = pure (.type "method_descriptor")) (hm : MtR X id r) (ho : PE X o to) (ha : PA X (e :: es) t)
    (hbase : attributeBase o name X.env (eval o X.env) = eval o X.env := by rfl)
    (hfew : ((backTo cpos (starEach (e :: es) X.env)).all (fun x => !x.1) && (backToKw cpos (keywordEach [] X.env)).all (fun x => x.1.isSome)
      && decide ((e :: es).length + ([] : List Keyword).length + (if ([] : List Keyword).isEmpty then 0 else 1) < 30)) = true := by rfl)
    (hline : (apos.endLine == cpos.line) = true := by rfl) (hs : starEach (e :: es) X.env = (false, eval e X.env) :: starEach es X.env := by rfl) (hplain : (backTo cpos (starEach es X.env)).any (·.1) = false := by rfl) :
    PE X (.Call (.Attribute o name apos) (e :: es) [] cpos) (tBM X.K T r to t) := by
  intro pins s σ H Q I h
  refine wpAny_Call_method_late hbase hfew hline rfl (thn (ho pins s σ H _ I h) fun v s1 ⟨x, H1, I1, r1, ty, q1⟩ => ?_)
  obtain ⟨h1, h2⟩ := tyV_is I1 r1 ty
  refine ⟨T, id, pa, slot, hty, h1, h2, ?_⟩
  have hA := ha cpos pins s1 σ H1 _ I1 q1
  rw [hs] at hA ⊢
  refine Calls.callWith_builtin (by show (false || (backTo cpos (starEach es X.env)).any (·.1)) = false; rw [hplain] <;> rfl) (Calls.evalArgs_plain ?_)
  exact thn hA fun us s2 ⟨vs, H2, I2, r2, q2⟩ => hm pins s2 σ H2 x vs v us Q I2 r1 r2 q2
/- xs.append(e), list.index on a module's tuple .. are MtR facts of 06m -/
end
end L2

namespace L2
open PySem PySem.Spec PyProof.Rows

def MtM (X : Cx) (id : String) (r : V → List V → Hp → VK → Prop) : Prop :=
  ∀ (pins : List (Addr × Obj)) (s : Shared) (σ : St) (H : Hp) (x : V) (xs : List V) (v : Value) (us : List Value) (Q : VK), Inv X pins σ H s → RelV x v → Vals xs us → r x xs H Q →
    wpAny (model X.prog X.w) X.A (call (.builtin id) (v :: us)) (EP X pins σ Q) X.xe s

theorem Vals.one : ∀ {x : V} {us : List Value}, Vals [x] us → ∃ u, us = [u] ∧ RelV x u
  | _, _, .cons r .nil => ⟨_, rfl, r⟩
theorem Vals.two : ∀ {x y : V} {us : List Value}, Vals [x, y] us → ∃ u v, us = [u, v] ∧ RelV x u ∧ RelV y v
  | _, _, _, .cons r (.cons q .nil) => ⟨_, _, rfl, r, q⟩
theorem Vals.zero : ∀ {us : List Value}, Vals [] us → us = []
  | _, .nil => rfl
theorem Vals.dropLast {xs : List V} {us : List Value} (h : Vals xs us) : Vals xs.dropLast us.dropLast := by
  induction h with
  | nil => exact .nil
  | cons r t ih =>
    cases t with
    | nil => exact .nil
    | cons q t' => exact .cons r ih
theorem Vals.eraseIdx : ∀ {xs : List V} {us : List Value} (i : Nat), Vals xs us → Vals (xs.eraseIdx i) (us.eraseIdx i)
  | _, _, _, .nil => .nil
  | _, _, 0, .cons _ t => t
  | _, _, i + 1, .cons r t => .cons r (Vals.eraseIdx i t)
theorem Vals.reverse {xs : List V} {us : List Value} (h : Vals xs us) : Vals xs.reverse us.reverse := by
  induction h with
  | nil => exact .nil
  | cons r t ih => rw [List.reverse_cons, List.reverse_cons]; exact Vals.append ih (.cons r .nil)
theorem Vals.rep {xs : List V} {us : List Value} (h : Vals xs us) : ∀ k : Nat, Vals (List.replicate k xs).flatten (List.replicate k us).flatten
  | 0 => .nil
  | k + 1 => by
    rw [List.replicate_succ, List.replicate_succ, List.flatten_cons, List.flatten_cons]
    exact Vals.append h (Vals.rep h k)
theorem erase_last {α : Type} (l : List α) : l.eraseIdx (l.length - 1) = l.dropLast := by
  induction l with
  | nil => rfl
  | cons a r ih =>
    cases r with
    | nil => rfl
    | cons b r =>
      have e : (a :: b :: r).length - 1 = ((b :: r).length - 1) + 1 := by
        have h1 : (a :: b :: r).length = r.length + 2 := rfl
        have h2 : (b :: r).length = r.length + 1 := rfl
        omega
      rw [e, List.eraseIdx_cons_succ, ih]
      all_goals rfl
theorem len_erase {α : Type} : ∀ (l : List α) (i : Nat), (l.eraseIdx i).length ≤ l.length
  | [], _ => Nat.le_refl _
  | _ :: _, 0 => Nat.le_succ _
  | _ :: r, i + 1 => Nat.succ_le_succ (len_erase r i)
theorem foldl_rep (its : List Value) : ∀ (k : Nat) (acc : List Value),
    List.foldl (fun x1 x2 => x1 ++ x2) acc.toArray (List.replicate k its.toArray) = (acc ++ (List.replicate k its).flatten).toArray
  | 0, acc => by simp
  | k + 1, acc => by
    have e : acc.toArray ++ its.toArray = (acc ++ its).toArray := by simp
    have e2 : (acc ++ its) ++ (List.replicate k its).flatten = acc ++ (List.replicate (k + 1) its).flatten := by
      rw [List.replicate_succ, List.flatten_cons, List.append_assoc]
    rw [← e2, ← foldl_rep its k (acc ++ its), ← e, List.replicate_succ, List.foldl_cons]

section
variable {X : Cx} {pins : List (Addr × Obj)} {σ : St} {H : Hp} {s : Shared} {l b : Addr} {xs ys zs : List V}

theorem Inv.lset {its its' : List Value} {n : Nat} {f : Array Value → Array Value} {t' : Nat} (I : Inv X pins σ H s) (hH : H l = some (.lst xs))
    (e : s.heap.get? l = some { cls := .type "list", data := .seq its.toArray n }) (hf : f its.toArray = its'.toArray) (hv : Vals ys its') (hz : ys.length ≤ sizeLine) :
    Inv X pins σ (upd H l (.lst ys)) { s with heap := s.heap.update l (Obj.mapSeq f), toks := t' } := by
  have q := PySem.IsL.update e f
  rw [hf] at q
  refine I.write (x := l) (e := l) (by rw [hH]; exact trivial) (.inl rfl) (fun b' u hb hu => (Heap.get?_update_other s.heap (Obj.mapSeq f) (Ne.symm hb)).trans hu) ⟨_, q⟩ ?_
  exact ⟨hz, its', _, hv, q⟩
theorem Inv.lnew {its : List Value} {t' : Nat} (I : Inv X pins σ H s) (hv : Vals ys its) (hz : ys.length ≤ sizeLine) :
    Inv X pins σ (upd H s.heap.objs.size (.lst ys)) { s with heap := s.heap.push { cls := .type "list", data := .seq its.toArray }, toks := t' } :=
  I.laid (fun _ _ q => Heap.get?_push_of_some _ q) (Nat.le_refl _) ⟨hz, its, 0, hv, Heap.get?_push_size _ rfl⟩
theorem Inv.fresh (I : Inv X pins σ H s) : H s.heap.objs.size = none := I.hok.fresh (Nat.le_refl _)
theorem Inv.lstM (I : Inv X pins σ H s) (hH : H l = some (.lst xs)) : xs.length ≤ sizeLine ∧ ∃ (its : List Value) (n : Nat), Vals xs its ∧ xs.length = its.length ∧ s.heap.get? l = some { cls := .type "list", data := .seq its.toArray n } := by
  obtain ⟨z, its, n, r, e⟩ := I.hok l _ hH
  exact ⟨z, its, n, r, r.length, e⟩

theorem notLongL {n : Nat} (h : n ≤ sizeLine) : Builtin.List.listTooLong n = false := by
  unfold Builtin.List.listTooLong
  exact decide_eq_false (by omega)
end

section
variable {X : Cx}

def rAppend : V → List V → Hp → VK → Prop := fun x vs H Q => ∃ l xs y, x = .ref l ∧ vs = [y] ∧ H l = some (.lst xs) ∧ xs.length < sizeLine ∧ Q .non (upd H l (.lst (xs ++ [y])))
theorem mt_append : MtM X "list.append" rAppend := by
  intro pins s σ H x vs v us Q I rx rv h
  obtain ⟨l, xs, y, rfl, rfl, hH, hz, q⟩ := h
  cases rx
  obtain ⟨u, rfl, ru⟩ := rv.one
  obtain ⟨z, its, n, r, hl, e⟩ := I.lstM hH
  refine call_meets F.slot_list_append ⟨_, e, rfl⟩ F.entry_list_append (F.args_list_append_2 _ _) (PySem.list_append l its.toArray n u (by rw [List.size_toArray]; omega)) ⟨e, ?_⟩
  refine ⟨.non, _, I.lset (its' := its ++ [u]) hH e (by simp) (r.append (.cons ru .nil)) ?_, rfl, q⟩
  rw [List.length_append, List.length_singleton]
  omega

def rExtend : V → List V → Hp → VK → Prop := fun x vs H Q => ∃ l b xs zs, x = .ref l ∧ vs = [.ref b] ∧ H l = some (.lst xs) ∧ H b = some (.lst zs) ∧ xs.length + zs.length ≤ sizeLine ∧ Q .non (upd H l (.lst (xs ++ zs)))
theorem mt_extend : MtM X "list.extend" rExtend := by
  intro pins s σ H x vs v us Q I rx rv h
  obtain ⟨l, b, xs, zs, rfl, rfl, hH, hB, hz, q⟩ := h
  cases rx
  obtain ⟨u, rfl, ru⟩ := rv.one
  cases ru
  obtain ⟨z, its, n, r, hl, e⟩ := I.lstM hH
  obtain ⟨z2, its2, n2, r2, hl2, e2⟩ := I.lstM hB
  have hsz : its.toArray.size + its2.toArray.size ≤ sizeLine := by rw [List.size_toArray, List.size_toArray]; omega
  have hlong : ¬ (!its.toArray.isEmpty && Builtin.List.listTooLong (its.toArray.size + its2.toArray.size)) = true := by
    rw [notLongL hsz, Bool.and_false]
    exact Bool.false_ne_true
  refine call_meets F.slot_list_extend ⟨_, e, rfl⟩ F.entry_list_extend (F.args_list_extend_2 _ _)
    (AutoSeq1.list_extend_list_list_0 l its.toArray n b its2.toArray n2 hlong (by rw [List.size_toArray]; omega) (by omega)) ⟨e, e2, ?_⟩
  refine ⟨.non, _, I.lset (its' := its ++ its2) hH e (by simp) (r.append r2) ?_, rfl, q⟩
  rw [List.length_append]
  omega

def rPop : V → List V → Hp → VK → Prop := fun x vs H Q => ∃ l xs y, x = .ref l ∧ vs = [] ∧ H l = some (.lst xs) ∧ xs[xs.length - 1]? = some y ∧ Q y (upd H l (.lst xs.dropLast))
theorem mt_pop : MtM X "list.pop" rPop := by
  intro pins s σ H x vs v us Q I rx rv h
  obtain ⟨l, xs, y, rfl, rfl, hH, hy, q⟩ := h
  cases rx
  have hus := rv.zero
  subst hus
  obtain ⟨z, its, n, r, hl, e⟩ := I.lstM hH
  obtain ⟨u, hu, ru⟩ := r.get hy
  have hy' : its.toArray[its.toArray.size - 1]? = some u := by
    show its.toArray[its.length - 1]? = some u
    rw [← Array.getElem?_toList, ← hl]
    exact hu
  refine call_meets F.slot_list_pop ⟨_, e, rfl⟩ F.entry_list_pop (F.args_list_pop_1 _) (MeetsSeq.list_pop_last l its.toArray n u hy' (by rw [List.size_toArray]; omega)) ⟨e, ?_⟩
  refine ⟨y, _, I.lset (its' := its.dropLast) hH e ?_ r.dropLast ?_, ru, q⟩
  · show its.toArray.eraseIdxIfInBounds (its.toArray.size - 1) = its.dropLast.toArray
    rw [List.size_toArray, List.eraseIdxIfInBounds_toArray, erase_last]
  · rw [List.length_dropLast]
    omega

def rPopAt : V → List V → Hp → VK → Prop := fun x vs H Q => ∃ l xs i k y, x = .ref l ∧ vs = [.int i] ∧ H l = some (.lst xs) ∧ -(2 ^ 63) ≤ i ∧ i < 2 ^ 63 ∧ seqIndex? i xs.length = some k ∧ xs[k]? = some y ∧ Q y (upd H l (.lst (xs.eraseIdx k)))
theorem mt_popAt : MtM X "list.pop" rPopAt := by
  intro pins s σ H x vs v us Q I rx rv h
  obtain ⟨l, xs, i, k, y, rfl, rfl, hH, h1, h2, hk, hy, q⟩ := h
  cases rx
  obtain ⟨u, rfl, ru⟩ := rv.one
  obtain ⟨t, rfl⟩ := ru
  obtain ⟨z, its, n, r, hl, e⟩ := I.lstM hH
  obtain ⟨w, hw, rw'⟩ := r.get hy
  refine call_meets F.slot_list_pop ⟨_, e, rfl⟩ F.entry_list_pop (F.args_list_pop_2 _ _)
    (MeetsSeq.list_pop_at l its.toArray n i t k w (fitsIndex_both h1 h2) (by rw [List.size_toArray, ← hl]; exact hk) (by rw [← Array.getElem?_toList]; exact hw) (by rw [List.size_toArray]; omega)) ⟨e, ?_⟩
  refine ⟨y, _, I.lset (its' := its.eraseIdx k) hH e ?_ (r.eraseIdx k) ?_, rw', q⟩
  · show its.toArray.eraseIdxIfInBounds k = (its.eraseIdx k).toArray
    rw [List.eraseIdxIfInBounds_toArray]
  · have := len_erase xs k
    omega

def rCat : R2 := fun x y H Q => ∃ l b xs zs, x = .ref l ∧ y = .ref b ∧ H l = some (.lst xs) ∧ H b = some (.lst zs) ∧ xs.length + zs.length ≤ sizeLine ∧ ∀ p, H p = none → Q (.ref p) (upd H p (.lst (xs ++ zs)))
theorem op_cat : OpR X (binaryOp .Add) rCat := by
  intro pins s σ H x y v u Q I rx ry h
  obtain ⟨l, b, xs, zs, rfl, rfl, hH, hB, hz, q⟩ := h
  cases rx
  cases ry
  obtain ⟨z, its, n, r, hl, e⟩ := I.lstM hH
  obtain ⟨z2, its2, n2, r2, hl2, e2⟩ := I.lstM hB
  refine PySem.P.add_list e e2 ?_ (by rw [List.size_toArray, List.size_toArray]; omega)
  have ea : its.toArray ++ its2.toArray = (its ++ its2).toArray := by simp
  rw [ea]
  exact ⟨.ref _, _, I.lnew (t' := s.toks) (r.append r2) (by rw [List.length_append]; omega), rfl, q _ I.fresh⟩
def rRep : R2 := fun x y H Q => ∃ l k xs, x = .ref l ∧ y = .int k ∧ H l = some (.lst xs) ∧ -(2 ^ 63) ≤ k ∧ k < 2 ^ 63 ∧ xs.length * k.toNat ≤ sizeLine ∧
  ∀ p, H p = none → Q (.ref p) (upd H p (.lst (List.replicate k.toNat xs).flatten))
theorem len_rep {α : Type} (xs : List α) (k : Nat) : (List.replicate k xs).flatten.length = k * xs.length := by
  induction k with
  | zero => simp
  | succ k ih => rw [List.replicate_succ, List.flatten_cons, List.length_append, ih, Nat.succ_mul, Nat.add_comm]
theorem op_rep : OpR X (binaryOp .Mult) rRep := by
  intro pins s σ H x y v u Q I rx ry h
  obtain ⟨l, k, xs, rfl, rfl, hH, h1, h2, hz, q⟩ := h
  cases rx
  obtain ⟨t, rfl⟩ := ry
  obtain ⟨z, its, n, r, hl, e⟩ := I.lstM hH
  have hlen : its.toArray.size * k.toNat ≤ sizeLine := by rw [List.size_toArray, ← hl]; exact hz
  have hcap : ¬ its.toArray.size * k.toNat > (2 ^ 63 - 1) / 8 := by
    have : (sizeLine : Nat) ≤ (2 ^ 63 - 1) / 8 := by decide
    omega
  have hfit : ¬ (!Builtin.List.listFitsIndex k) = true := by
    rw [fitsIndex_both h1 h2]
    exact Bool.false_ne_true
  have hlong : ¬ Builtin.List.listTooLong (its.toArray.size * k.toNat) = true := by
    rw [notLongL hlen]
    exact Bool.false_ne_true
  have hnew : List.foldl (fun x1 x2 => x1 ++ x2) #[] (List.replicate (if its.toArray.isEmpty = true then 0 else k.toNat) its.toArray) = (List.replicate k.toNat its).flatten.toArray := by
    have f0 : ∀ m : Nat, List.foldl (fun x1 x2 => x1 ++ x2) #[] (List.replicate m its.toArray) = (List.replicate m its).flatten.toArray := fun m => by
      have := foldl_rep its m []
      rw [List.nil_append] at this
      exact this
    rw [f0]
    cases its with
    | nil => simp
    | cons a r' => rw [if_neg (by simp)]
  refine wpAny_binaryOp_repeat_ref (T := "list") (U := "int") (by decide) ⟨_, e, rfl⟩ (fun s' => typeIs_int s' k t) noFill_list_mul F.fills_int_mul F.slot_int_rmul repeat_list F.slot_int_index.lookup
    (call_meets F.slot_int_rmul (typeIs_int s k t) F.entry_int_rmul (F.args_int_rmul_2 _ _) (int___rmul___int_list k t l its.toArray n)
      ⟨e, rfl, ⟨_, e, rfl⟩, call_meets F.slot_list_mul ⟨_, e, rfl⟩ F.entry_list_mul (F.args_list_mul_2 _ _) (AutoListH.list___mul___list_int_3 l its.toArray n k t hfit hcap hlong) ⟨e, ?_⟩⟩)
  rw [hnew]
  exact ⟨.ref _, _, I.lnew (t' := s.toks) (r.rep k.toNat) (by rw [len_rep, Nat.mul_comm]; exact hz), rfl, q _ I.fresh⟩

end

section
variable {prog : Program} {w : World} {A : Around} {E : Value → Shared → Prop} {s : Shared}
end

section
variable {X : Cx}
end
end L2

namespace Att
open PySem PySem.W PySem.Calls PyProof.Rows

theorem ints_of_wellAll {P : Params} {h : Heap} : ∀ (ns : List Int) (vs : List Value), WellAll P h vs (ns.map WData.int) → IntsAre vs ns := by
  intro ns
  induction ns with
  | nil =>
    intro vs w
    rw [List.map_nil] at w
    cases w
    exact .nil
  | cons n ns ih =>
    intro vs w
    rw [List.map_cons] at w
    cases w with
    | cons a b =>
      cases a
      exact .cons _ _ (ih _ b)

theorem script_of {l : OpenLaw} {n : Nat} (hn : l.most = some n) {P : Params} {h : Heap} {args : List WData} {vals : List Value}
    (hpre : l.row.toRowW.claim.pre args = true) (hwl : WellAll P h vals args) :
    ∃ a vs ns, vals = [Value.ref a] ∧ args = [WData.list (ns.map WData.int)] ∧ h.get? a = some { cls := .type "list", data := .seq vs.toArray } ∧ IntsAre vs ns ∧ ns.length ≤ n := by
  have hsh : WShape.hasAll [] args [.list .int] = true := (pre_splitW hpre).1
  have hc : l.pre.holds [] { args := args } = true := (pre_splitW hpre).2
  obtain ⟨d, r, rfl, h1, h2⟩ := hasAllW_cons hsh
  obtain rfl := hasAllW_nil h2
  obtain ⟨xs, rfl, h3⟩ := hasW_list h1
  obtain ⟨ns, rfl⟩ := items_int h3
  have hlen : ns.length ≤ n := by
    unfold OpenLaw.pre at hc
    have h4 : (WTm.not (.lt (.lit (.int (n : Int))) (.len (.arg 0)))).holds [] { args := [.list (ns.map .int)] } = true := by
      have h4 := (holds_andW hc).1
      rw [hn] at h4
      exact h4
    have h5 := condW_of h4 (w_not (w_lt w_lit (w_len_list (w_arg rfl))))
    rw [List.length_map] at h5
    refine Nat.le_of_not_lt fun q => ?_
    have q' : (n : Int) < ((ns.length : Nat) : Int) := by omega
    first
      | (rw [decide_eq_true q'] at h5; exact absurd h5 (by decide))
      | (simp at h5; omega)
  cases hwl with
  | cons w1 w2 =>
    cases w2
    cases w1 with
    | list ho hall => exact ⟨_, _, ns, rfl, rfl, ho, ints_of_wellAll ns _ hall, hlen⟩

theorem post_true (l : OpenLaw) (args : List WData) : l.row.toRowW.claim.post args (.bool true) args = true :=
  postW_of (r := l.row.toRowW) (X := (true == true))
    (show WShape.has [] (.bool true) .bool = true by first | rfl | decide | simp [WShape.has, WShape.arms, WShape.armsAll])
    (show (WTm.eq .res (.lit (.bool true))).value [] { args := args, res := some (.bool true), after := args } = some (.bool (true == true)) from w_eq_bool (w_res rfl) w_lit) rfl

theorem attach_call {l : OpenLaw} {n : Nat} {q : Program} {loose : List Str} {XP : (Str → Option Value) → Heap → Prop} {YP : World → Heap → Prop} {d : DefRec}
    (hn : l.most = some n) (hdf : d.params.defaults = [])
    (call : ∀ (w : World) (s₀ s₁ : Shared) (mg mb : Str → Option Value) (fa : Addr) (o : Obj) (pm cd doc : Value) (a : Addr) (vs : List Value) (ns : List Int),
      Ground q loose [] XP w s₀ mg mb s₁.heap → YP w s₁.heap →
      s₁.heap.get? fa = some o → o.data = .func (docDef d.name d.params d.body d.scope pm cd doc) → s₁.heap.CodeRec cd d.name → mg d.name = some (.ref fa) →
      s₁.heap.get? a = some { cls := .type "list", data := .seq vs.toArray } → IntsAre vs ns → ns.length ≤ n → s₁.gens = #[] →
      codeAny (model l.prog w) callerA (.call (.ref fa) ⟨[.ref a], []⟩) (fun r s' => r = .ok (.ret (.bool true)) ∧ OldK s₁.heap s'.heap ∧ s'.os = s₁.os ∧ AllBare s'.gens) s₁) :
    WalkO q loose XP YP l.row.toRowW d [] (fun f vs => PySem.call f vs) := by
  intro w s₀ s₁ mg mb G Y fa o pm cd doc dV kV ho hd hcd hD hmg hg args vals as hpre hlay hrd hwl hlo
  obtain rfl : dV = .none := Dflts.none hD hdf
  obtain rfl : kV = .none := Dflts.noKw hD
  obtain ⟨a, vs, ns, rfl, rfl, hobj, hints, hlen⟩ := script_of hn hpre hwl
  refine enter_call (codeAny_mono (call w s₀ s₁ mg mb fa o pm cd doc a vs ns G Y ho (fd_plain hd) hcd hmg hobj hints hlen hg) fun r s' hq => ?_)
  obtain ⟨rfl, h2, h3, h4⟩ := hq
  exact ⟨.inl ⟨.bool true, .bool true, [], rfl, fun _ => rfl, .bool true, post_true l _, fun _ => ⟨List.Pairwise.nil, fun _ hm => (nomatch hm)⟩⟩, h2, h3, h4⟩

section
variable {prog : Program} {w : World} {A : Around} {E : Value → Shared → Prop} {s : Shared} {K : Frag}

def ledger (h : Heap) (L d : Addr) : List (Addr × Obj) := (List.range h.objs.size).filterMap fun a => if a = L ∨ a = d then none else (h.get? a).map fun o => (a, o)
end
end Att

namespace L2
open PySem PySem.Spec PyProof.Rows

theorem vals_ints : ∀ {vs : List Value} {ns : List Int}, IntsAre vs ns → Vals (ns.map V.int) vs
  | _, _, .nil => .nil
  | _, _, .cons n t h => .cons ⟨t, rfl⟩ (vals_ints h)

def Only (H : Hp) : Prop := ∀ b, H b = none ∨ ∃ o xs, H b = some (.frz o (.lst xs))

theorem law_call {P : Program} {w : World} {K : PySem.W.Frag} {mg mb : Str → Option Value} {CX : CXT} {k : Nat} {fa a : Addr} {fd : FuncData} {x : Str} {sp : Sp} {s₁ : Shared} {vs : List Value} {ns : List Int}
    (KX : K.In s₁.heap) (hns : s₁.heap.Ns mainGlobals mg) (hb : s₁.heap.Ns builtinsNs mb) (hbb : ∀ x : Str, x ≠ "__name__" → mb x = bootBuiltins x) (hlim : s₁.heap.NoLimit) (hg : s₁.gens = #[])
    (ha : s₁.heap.get? a = some { cls := .type "list", data := .seq vs.toArray }) (hi : IntsAre vs ns) (hl : ns.length ≤ sizeLine) (hr : Room k callerA)
    (F : ∀ base : Heap, K.In base → base.Ns mainGlobals mg → FnOk P w K mg base CX k fa fd [x] sp) (hbind : ∀ (s : Shared) (u : Value), BindsTo s fd ⟨[u], []⟩ [(x, u)])
    (hsp : ∀ H : Hp, Only H → SqL K H a (ns.map V.int) → sp [.ref a] H (fun v _ => v = .bl true) fun _ _ _ => False)
    (hCX : ∀ H e s', CX [] H s₁ (fun _ _ _ => False) e s' → False) :
    codeAny (model P w) callerA (.call (.ref fa) ⟨[.ref a], []⟩) (fun r s' => r = .ok (.ret (.bool true)) ∧ OldK s₁.heap s'.heap ∧ s'.os = s₁.os ∧ AllBare s'.gens) s₁ := by
  have rv := vals_ints hi
  have lenV := hi.length
  -- from an abstract heap in which nothing but the script may be tracked
  have core : ∀ H : Hp, Only H → SqL K H a (ns.map V.int) → HOk P w H s₁.heap → (∀ b, H b ≠ none → b = a) → (H a ≠ none → K.lookup a = none) →
      codeAny (model P w) callerA (.call (.ref fa) ⟨[.ref a], []⟩) (fun r s' => r = .ok (.ret (.bool true)) ∧ OldK s₁.heap s'.heap ∧ s'.os = s₁.os ∧ AllBare s'.gens) s₁ := by
    intro H hO hS hok hA hK
    have base_of : ∀ {b : Addr} {o : Obj}, s₁.heap.get? b = some o → H b = none → (hidT s₁.heap H).get? b = some o := fun e n => hidT_get e n
    have noA : ∀ {b : Addr} {o : Obj} {es : Array DictEntry} {ep : Nat}, s₁.heap.get? b = some o → o.data = .dict es ep → H b = none := fun {b o es ep} e d => by
      cases q : H b with
      | none => rfl
      | some u =>
        have e' : b = a := hA b (by rw [q]; simp)
        subst e'
        rw [ha] at e; cases e
        have d' : Data.seq vs.toArray _ = Data.dict es ep := d
        cases d'
    have nsK : ∀ {b : Addr} {m : Str → Option Value}, s₁.heap.Ns b m → (hidT s₁.heap H).Ns b m := fun {b m} ⟨o, es, ep, e, d, r⟩ => ⟨o, es, ep, base_of e (noA e d), d, r⟩
    have hKb : K.In (hidT s₁.heap H) := fun b o e => base_of (KX b o e) (by
      cases q : H b with
      | none => rfl
      | some u =>
        have e' : b = a := hA b (by rw [q]; simp)
        subst e'
        rw [hK (by rw [q]; simp)] at e; cases e)
    have hM : Mod K mg (hidT s₁.heap H) := ⟨hKb, nsK hns, ⟨mb, nsK hb, hbb⟩, let ⟨mc, h1, h2⟩ := hlim; ⟨mc, nsK h1, h2⟩⟩
    have e0 : Env0 P w K mg (hidT s₁.heap H) callerA [] s₁ H := ⟨rfl, hM, fun b o e => of_hidT e, Nat.le_of_eq (hidT_size _ _), trivial, fun b hb => absurd (show b ∈ ([] : List Addr) from hb) (by simp), hok, .of_eq hg⟩
    refine codeAny_mono ((F _ hKb (nsK hns)).run callerA [] s₁ H ⟨[.ref a], []⟩ [.ref a] [.ref a] _ _ hr e0 (hbind s₁ (.ref a)) (.cons rfl .nil) (hsp H hO hS)) fun r s' h => ?_
    cases r with
    | error e => exact (hCX H e s' h).elim
    | ok fl =>
      cases fl with
      | next => exact False.elim h
      | brk => exact False.elim h
      | cont => exact False.elim h
      | ret u =>
        obtain ⟨v, H', os, bare, un, hok', r', q⟩ := h
        have q' : v = .bl true := q
        subst q'
        obtain rfl : u = Value.bool true := r'
        refine ⟨rfl, OldK.of_keep fun b o e => ?_, os, bare⟩
        cases q : H b with
        | none => exact un.keep b o e q (by intro z; exact absurd (show b ∈ ([] : List Addr) from z) (by simp)) (by simp)
        | some u =>
          rcases hO b with z | ⟨ob, xs, z⟩
          · rw [q] at z; cases z
          · have z2 := un.frzs b ob _ z
            obtain ⟨e1, _⟩ := hok b _ z
            obtain ⟨e2, _⟩ := hok' b _ z2
            rw [e] at e1; cases e1
            exact e2
  cases hk : K.lookup a with
  | some o =>
    -- the script is one of the module's own objects
    have e := KX a o hk
    rw [ha] at e
    cases e
    refine core (fun _ => none) (fun _ => .inl rfl) (.inr ⟨_, vs.toArray, _, hk, rfl, rfl, rfl, by rw [List.size_toArray, lenV]; exact hl, by simpa using rv⟩) (fun b u z => by have z' : (none : Option HO) = some u := z; cases z') (fun b z => absurd rfl z) fun z => absurd rfl z
  | none =>
    refine core (fun b => if b = a then some (.frz { cls := .type "list", data := .seq vs.toArray } (.lst (ns.map V.int))) else none) (fun b => ?_) (.inl (.inr ⟨{ cls := .type "list", data := .seq vs.toArray }, if_pos rfl⟩)) (fun b u z => ?_) (fun b z => ?_) fun _ => hk
    · by_cases hb : b = a
      · exact .inr ⟨_, _, if_pos hb⟩
      · exact .inl (if_neg hb)
    · by_cases hb : b = a
      · have z' := (if_pos hb).symm.trans z
        cases z'
        subst hb
        exact ⟨ha, by rw [List.length_map]; exact hl, vs, _, rv, ha⟩
      · have z' := (if_neg hb).symm.trans z
        cases z'
    · by_cases hb : b = a
      · exact hb
      · exact absurd (if_neg hb) z
end L2

namespace L2
open PySem PySem.Spec PyProof.Rows

theorem walk_of {l : PySem.W.OpenLaw} {n k : Nat} {q : Program} {loose : List Str} {XP : (Str → Option Value) → Heap → Prop} {YP : World → Heap → Prop} {d : DefRec} {K : Params → PySem.W.Frag} {CX : World → CXT} {sp : World → Sp} {x : Str}
    (hn : l.most = some n) (hn2 : n ≤ sizeLine) (hdf : d.params.defaults = []) (hr : Room k callerA)
    (hY : ∀ (w : World) (h : Heap), YP w h → (K w.params).In h)
    (F : ∀ (w : World) (mg : Str → Option Value) (fa : Addr) (h : Heap), (K w.params).In h → h.Ns mainGlobals mg → mg d.name = some (.ref fa) →
      ∃ fd : FuncData, (∀ (s : Shared) (u : Value), BindsTo s fd ⟨[u], []⟩ [(x, u)]) ∧
        ∀ base : Heap, (K w.params).In base → base.Ns mainGlobals mg → FnOk l.prog w (K w.params) mg base (CX w) k fa fd [x] (sp w))
    (hsp : ∀ (w : World) (H : Hp) (a : Addr) (ns : List Int), ns.length ≤ n → Only H → SqL (K w.params) H a (ns.map V.int) → sp w [.ref a] H (fun v _ => v = .bl true) fun _ _ _ => False)
    (hCX : ∀ (w : World) (H : Hp) (s : Shared) (e : Value) (s' : Shared), CX w [] H s (fun _ _ _ => False) e s' → False) :
    PySem.W.WalkO q loose XP YP l.row.toRowW d [] (fun f vs => PySem.call f vs) := by
  refine Att.attach_call hn hdf fun w s₀ s₁ mg mb fa o pm cd doc a vs ns G Y ho hd hcd hmg hobj hints hlen hg => ?_
  have KX := hY w _ Y
  obtain ⟨fd, hb, hF⟩ := F w mg fa _ KX G.T.g hmg
  exact law_call KX G.T.g G.T.b G.T.builtins G.T.nolimit hg hobj hints (Nat.le_trans hlen hn2) hr hF hb (fun H hO hS => hsp w H a ns hlen hO hS) fun H e s' => hCX w H s₁ e s'
end L2

/- THE LAST THEOREM (shape; LID, My.* are yours):
   My.Adr: a structure of the addresses that your layer names (classes, functions); My.Txt K t: a structure (Prop) of the equations over K;
   My.txt_mk : {K} {implicit addresses ..} (e1 : nsIn K mainGlobals "law" = some (some (.ref f))) (e2 : K.lookup f = some ⟨oc, od, .func (fnOf "law" "law" params body scope dV kV doc pm an cdv ct), sl⟩) (e3 : codeIn K cdv "law" = true) .. : ∃ t, My.Txt K t

set_option maxRecDepth 100000 in
set_option maxHeartbeats 0 in
(the tactic k_is has no namespace: write k_is) -/

namespace L2
open PySem PySem.Spec PyProof.Rows

def defArgs (s : Stmt) : Arguments := match s with
  | .FunctionDef _ a _ _ _ _ _ _ _ _ => a
  | _ => { posonlyargs := [], args := [], vararg := none, kwonlyargs := [], kw_defaults := [], kwarg := none, defaults := [] }
def defBody (s : Stmt) : List Stmt := match s with
  | .FunctionDef _ _ b _ _ _ _ _ _ _ => b
  | _ => []
def defScope (s : Stmt) : Scope := match s with
  | .FunctionDef _ _ _ _ _ _ sc _ _ _ => sc
  | _ => { kind := .function, names := [], isGenerator := false, isCoroutine := false }

abbrev CX0 : CXT := fun _ _ _ _ _ _ => False
abbrev E0 : XK := fun _ _ _ => False
theorem pass0 {X : Cx} : Passes CX0 X E0 := fun _ _ _ _ _ _ _ h => h.elim

structure Fun (K : PySem.W.Frag) (x qual : Str) (st : Stmt) (f : Addr) (fd : FuncData) : Prop where
  ex : ∃ (oc : Value) (od : Option Addr) (kV doc pm : Value) (an : Option Addr) (cdv ct : Value) (osl : Array (Option Value)),
    fd = PySem.W.fnOf x qual (defArgs st) (defBody st) (defScope st) .none kV doc pm an cdv ct ∧ K.lookup f = some ⟨oc, od, .func fd, osl⟩ ∧ PySem.W.codeIn K cdv qual = true
  kp : PySem.W.keepIn K (.ref f) = true
section
variable {P : Program} {w : World} {K : PySem.W.Frag} {mg : Str → Option Value} {base : Heap}
theorem Fun.ok {x qual : Str} {st : Stmt} {f : Addr} {fd : FuncData} {N ps : List Str} {k : Nat} {sp : Sp} (F : Fun K x qual st f fd) (S : FnScope N ps (defScope st)) (len : ∀ vs H Q E, sp vs H Q E → vs.length = ps.length)
    (hbody : ∀ (cdv : Value) (A : Around) (outer : List Env) (s : Shared) (H : Hp) (vs : List V) (Q : VK) (E : XK), Room k (A.deeper (envOfC qual (defScope st) s.heap.objs.size f cdv)) → sp vs H Q E →
      ∃ t, PSs (cxOf CX0 P w K mg base N qual (defScope st) f cdv A outer s H E).nox (defBody st) t ∧ t { nx := fun _ H' => Q .non H', rt := Q } (start N vs) H) : FnOk P w K mg base CX0 (k + 1) f fd ps sp := by
  obtain ⟨oc, od, kV, doc, pm, an, cdv, ct, osl, rfl, lk, hcd⟩ := F.ex
  refine fn_of lk hcd S len fun A outer s H vs Q E hr hsp => ?_
  obtain ⟨t, h, q⟩ := hbody cdv A outer s H vs Q E hr hsp
  exact ⟨t, h.nox, q⟩
theorem Fun.binds {x qual : Str} {st : Stmt} {f : Addr} {fd : FuncData} {ps : List Str} (F : Fun K x qual st f fd)
    (h : ∀ (kV doc pm : Value) (an : Option Addr) (cdv ct : Value) (us : List Value), us.length = ps.length → bindArgs (PySem.W.fnOf x qual (defArgs st) (defBody st) (defScope st) .none kV doc pm an cdv ct) ⟨us, []⟩ = pure (ps.zip us)) : Binds K fd ps [] := by
  obtain ⟨oc, od, kV, doc, pm, an, cdv, ct, osl, rfl, lk, hcd⟩ := F.ex
  exact .all (h kV doc pm an cdv ct)
theorem fun_mk {x qual : Str} {st : Stmt} {f : Addr} {oc : Value} {od an : Option Addr} {osl : Array (Option Value)} {kV doc pm cdv ct : Value} (l : K.lookup f = some ⟨oc, od, .func (PySem.W.fnOf x qual (defArgs st) (defBody st) (defScope st) .none kV doc pm an cdv ct), osl⟩)
    (c : PySem.W.codeIn K cdv qual = true) (k : PySem.W.keepIn K (.ref f) = true) : Fun K x qual st f (PySem.W.fnOf x qual (defArgs st) (defBody st) (defScope st) .none kV doc pm an cdv ct) := ⟨⟨oc, od, kV, doc, pm, an, cdv, ct, osl, rfl, l, c⟩, k⟩
end
theorem small1000 {n : Nat} (h : n ≤ 1000) : n < sizeLine := Nat.lt_of_le_of_lt h (by decide)

section
variable {X : Cx}
theorem pv (i : Nat) {x : Str} {pos : Pos} (hN : X.N[i]? = some x := by rfl) (hv : Vis X.env.scope x := by first | exact Or.inl rfl | exact Or.inr (Or.inl rfl) | exact Or.inr (Or.inr rfl)) (hd : (x == ("__debug__" : Str)) = false := by decide)
    (hcd : (x == ("__classdict__" : Str)) = false := by decide) : PE X (.Name x pos) (tVar i) := pe_var hN hv hd hcd
end

theorem iteF {A B : Prop} (h : B) : if false = true then A else B := by
  rw [if_neg Bool.false_ne_true]
  exact h
theorem iteT {A B : Prop} (h : A) : if true = true then A else B := by
  rw [if_pos rfl]
  exact h
theorem ite2 {c A B : Prop} [Decidable c] (h1 : c → A) (h2 : ¬ c → B) : if c then A else B := by
  by_cases h : c
  · rw [if_pos h]
    exact h1 h
  · rw [if_neg h]
    exact h2 h
def Same (H H' : Hp) : Prop := ∀ b o, H b = some o → H' b = some o
theorem Same.refl (H : Hp) : Same H H := fun _ _ h => h
theorem Same.trans {H H1 H2 : Hp} (a : Same H H1) (b : Same H1 H2) : Same H H2 := fun c o h => b c o (a c o h)
theorem Same.free {H H' : Hp} (e : Same H H') {l : Addr} (h : H' l = Option.none) : H l = Option.none := by
  cases q : H l with
  | none => rfl
  | some o =>
    rw [e l o q] at h
    cases h
theorem Same.seq {K : PySem.W.Frag} {H H' : Hp} {a : Addr} {xs : List V} (e : Same H H') (h : SqL K H a xs) : SqL K H' a xs := by
  rcases h with (h | ⟨o, h⟩) | h
  · exact .inl (.inl (e _ _ h))
  · exact .inl (.inr ⟨o, e _ _ h⟩)
  · exact .inr h

end L2

set_option maxRecDepth 100000
set_option maxHeartbeats 1000000
namespace L2
open PySem PySem.Spec PyProof.Rows

def clOf (cells : List (Str × Addr)) : List (Str × NameKind) → List (Str × Addr) → List (Str × Addr)
  | [], acc => acc
  | (n, k) :: r, acc => clOf cells r (if k == NameKind.free then (match cells.lookup n with | some a => (n, a) :: acc | none => acc) else acc)

theorem clOf_run {env : Env} {f : Str × NameKind → List (Str × Addr) → Sem (ForInStep (List (Str × Addr)))}
    (hf : ∀ x acc, f x acc = if (x.2 == NameKind.free) = true then (do let a ← cellOf env x.1; pure (ForInStep.yield ((x.1, a) :: acc))) else pure (ForInStep.yield acc)) :
    ∀ (l : List (Str × NameKind)) (acc : List (Str × Addr)), (∀ x ∈ l, x.2 = .free → ∃ a, env.cells.lookup x.1 = some a) → (forIn l acc f : Sem (List (Str × Addr))) = pure (clOf env.cells l acc)
  | [], acc, _ => by rw [List.forIn_nil]; rfl
  | (n, k) :: r, acc, h => by
    have hr := fun x hx => h x (List.mem_cons_of_mem _ hx)
    rw [List.forIn_cons, hf]
    by_cases hk : (k == NameKind.free) = true
    · have hk' : k = NameKind.free := by simpa using hk
      obtain ⟨a, ha⟩ := h (n, k) List.mem_cons_self hk'
      have hc : cellOf env n = pure a := by unfold cellOf; rw [ha]
      rw [if_pos hk, hc]
      show (forIn r ((n, a) :: acc) f : Sem (List (Str × Addr))) = pure (clOf env.cells r _)
      rw [clOf_run hf r _ hr, if_pos hk, ha]
    · rw [if_neg hk]
      show (forIn r acc f : Sem (List (Str × Addr))) = pure (clOf env.cells r _)
      rw [clOf_run hf r _ hr, if_neg hk]
theorem closureFor_eq {scope : Scope} {env : Env} (h : ∀ x ∈ scope.names, x.2 = .free → ∃ a, env.cells.lookup x.1 = some a) : closureFor scope env = pure (clOf env.cells scope.names []) := by
  simp only [closureFor]
  rw [clOf_run (env := env) (fun ⟨n, k⟩ acc => by dsimp only) scope.names [] h]
  rfl
theorem clOf_sub {cells : List (Str × Addr)} : ∀ {l : List (Str × NameKind)} {acc : List (Str × Addr)} {x : Str} {c : Addr}, (∀ y d, acc.lookup y = some d → cells.lookup y = some d) → (clOf cells l acc).lookup x = some c → cells.lookup x = some c
  | [], _, _, _, ha, h => ha _ _ h
  | (n, k) :: r, acc, x, c, ha, h => by
    refine clOf_sub (l := r) ?_ h
    intro y d hd
    by_cases hk : (k == NameKind.free) = true
    · rw [if_pos hk] at hd
      cases q : cells.lookup n with
      | none => rw [q] at hd; exact ha _ _ hd
      | some a =>
        rw [q] at hd
        by_cases hy : (y == n) = true
        · have hy' : y = n := by simpa using hy
          subst hy'
          simp [List.lookup_cons] at hd
          rw [q, hd]
        · have hy' : (y == n) = false := by simpa using hy
          simp only [List.lookup_cons, hy'] at hd
          exact ha _ _ hd
    · rw [if_neg hk] at hd; exact ha _ _ hd
theorem clOf_keep {cells : List (Str × Addr)} : ∀ {l : List (Str × NameKind)} {acc : List (Str × Addr)} {x : Str}, (acc.lookup x).isSome = true → ((clOf cells l acc).lookup x).isSome = true
  | [], _, _, h => h
  | (n, k) :: r, acc, x, h => by
    refine clOf_keep (l := r) ?_
    by_cases hk : (k == NameKind.free) = true
    · rw [if_pos hk]
      cases q : cells.lookup n with
      | none => exact h
      | some a =>
        by_cases hy : (x == n) = true
        · simp [List.lookup_cons, hy]
        · have hy' : (x == n) = false := by simpa using hy
          simp only [List.lookup_cons, hy']
          exact h
    · rw [if_neg hk]; exact h
theorem clOf_has {cells : List (Str × Addr)} : ∀ {l : List (Str × NameKind)} {acc : List (Str × Addr)} {x : Str} {a : Addr}, (x, NameKind.free) ∈ l → cells.lookup x = some a → ((clOf cells l acc).lookup x).isSome = true
  | [], _, _, _, h, _ => nomatch h
  | (n, k) :: r, acc, x, a, h, hc => by
    rcases List.mem_cons.mp h with e | h
    · obtain ⟨rfl, rfl⟩ := Prod.mk.inj e
      refine clOf_keep (l := r) ?_
      rw [if_pos (by decide), hc]
      simp [List.lookup_cons]
    · exact clOf_has (l := r) h hc
theorem clOf_look {cells : List (Str × Addr)} {l : List (Str × NameKind)} {x : Str} {a : Addr} (h : (x, NameKind.free) ∈ l) (hc : cells.lookup x = some a) : (clOf cells l []).lookup x = some a := by
  obtain ⟨c, e⟩ := Option.isSome_iff_exists.mp (clOf_has (acc := []) h hc)
  have := clOf_sub (fun y d (q : ([] : List (Str × Addr)).lookup y = some d) => by simp at q) e
  rw [hc] at this; cases this
  exact e

theorem relabel_look {env : Env} : ∀ {l : List (Str × NameKind)} {x : Str} {k : NameKind}, (∀ y ∈ l, y.2 ≠ .cell) →
    (l.map fun (n, k) => if (k == NameKind.free && env.scope.kind == .function && env.kindOf n == some .cell) then (n, NameKind.cell) else (n, k)).lookup x = some k → k = .cell ∨ k = .free → l.lookup x = some .free
  | [], _, _, _, h, _ => by simp at h
  | (n, q) :: r, x, k, hc, h, hk => by
    have hr := fun y hy => hc y (List.mem_cons_of_mem _ hy)
    have ih := relabel_look (env := env) (l := r) (x := x) (k := k) hr
    rw [List.map_cons] at h
    dsimp only at h
    by_cases hx : (x == n) = true
    · simp only [List.lookup_cons, hx]
      by_cases hq : (q == NameKind.free && env.scope.kind == .function && env.kindOf n == some .cell) = true
      · have : q = .free := by
          simp only [Bool.and_eq_true] at hq
          simpa using hq.1.1
        rw [this]
      · rw [if_neg hq] at h
        simp only [List.lookup_cons, hx] at h
        have hqk : q = k := Option.some.inj h
        rcases hk with e | e
        · exact absurd (hqk.trans e) (hc (n, q) List.mem_cons_self)
        · rw [hqk, e]
    · have hx' : (x == n) = false := by simpa using hx
      simp only [List.lookup_cons, hx']
      refine ih ?_ hk
      by_cases hq : (q == NameKind.free && env.scope.kind == .function && env.kindOf n == some .cell) = true
      · rw [if_pos hq] at h
        simp only [List.lookup_cons, hx'] at h
        exact h
      · rw [if_neg hq] at h
        simp only [List.lookup_cons, hx'] at h
        exact h
theorem relabel_free {env : Env} : ∀ {l : List (Str × NameKind)} {x : Str}, l.lookup x = some .free →
    (l.map fun (n, k) => if (k == NameKind.free && env.scope.kind == .function && env.kindOf n == some .cell) then (n, NameKind.cell) else (n, k)).lookup x = some .cell ∨
    (l.map fun (n, k) => if (k == NameKind.free && env.scope.kind == .function && env.kindOf n == some .cell) then (n, NameKind.cell) else (n, k)).lookup x = some .free
  | [], _, h => by simp at h
  | (n, q) :: r, x, h => by
    have ih := relabel_free (env := env) (l := r) (x := x)
    rw [List.map_cons]
    dsimp only
    by_cases hx : (x == n) = true
    · simp only [List.lookup_cons, hx] at h
      by_cases hq : (q == NameKind.free && env.scope.kind == .function && env.kindOf n == some .cell) = true
      · rw [if_pos hq]
        left
        simp only [List.lookup_cons, hx]
      · rw [if_neg hq]
        right
        simp only [List.lookup_cons, hx]
        exact h
    · have hx' : (x == n) = false := by simpa using hx
      simp only [List.lookup_cons, hx'] at h
      have := ih h
      by_cases hq : (q == NameKind.free && env.scope.kind == .function && env.kindOf n == some .cell) = true
      · rw [if_pos hq]
        simp only [List.lookup_cons, hx']
        exact this
      · rw [if_neg hq]
        simp only [List.lookup_cons, hx']
        exact this

def compOkB (sx : Scope) (NX : List Str) (scope : Scope) (N : List Str) (mp : List (Option Nat)) : Bool :=
  (scope.kind == .function) && scope.names.all (fun y => y.2 != .cell) && scope.names.all (fun y => y.2 != .local || scope.names.lookup y.1 == some .local) &&
  scope.names.all (fun y => y.2 != .free || sx.names.lookup y.1 == some .cell || sx.names.lookup y.1 == some .free) && (mp.length == N.length) &&
  ((N.zip mp).all fun p => match p.2 with | none => true | some j => NX[j]? == some p.1 && scope.names.lookup p.1 == some .free)
structure CompOk (sx : Scope) (NX : List Str) (scope : Scope) (N : List Str) (mp : List (Option Nat)) : Prop where
  kind : scope.kind = .function
  cell : ∀ y ∈ scope.names, y.2 ≠ .cell
  names : ∀ y ∈ scope.names, y.2 = .local → scope.names.lookup y.1 = some .local
  free : ∀ y ∈ scope.names, y.2 = .free → sx.names.lookup y.1 = some .cell ∨ sx.names.lookup y.1 = some .free
  len : mp.length = N.length
  look : ∀ (i j : Nat) (x : Str), mp[i]? = some (some j) → N[i]? = some x → NX[j]? = some x ∧ scope.names.lookup x = some .free
theorem CompOk.of {sx : Scope} {NX : List Str} {scope : Scope} {N : List Str} {mp : List (Option Nat)} (h : compOkB sx NX scope N mp = true) : CompOk sx NX scope N mp := by
  unfold compOkB at h
  simp only [Bool.and_eq_true, List.all_eq_true] at h
  obtain ⟨⟨⟨⟨⟨h1, h2⟩, h3⟩, h4⟩, h5⟩, h6⟩ := h
  refine ⟨by simpa using h1, fun y hy => by simpa using h2 y hy, fun y hy e => ?_, fun y hy e => ?_, by simpa using h5, fun i j x e1 e2 => ?_⟩
  · have := h3 y hy
    simpa [e] using this
  · have := h4 y hy
    simpa [e] using this
  · have hm : (x, some j) ∈ N.zip mp := by
      have : (N.zip mp)[i]? = some (x, some j) := by
        rw [List.getElem?_zip_eq_some]; exact ⟨e2, e1⟩
      exact List.mem_of_getElem? this
    have := h6 _ hm
    simpa using this

def startC (mp : List (Option Nat)) (σ : St) : St := mp.map fun o => match o with | none => none | some j => match σ[j]? with | some v => v | none => none

def compX (X : Cx) (scope : Scope) (C : Addr) (N : List Str) (s₀ : Shared) (H₀ : Hp) (fp : List Addr) : Cx :=
  { X with N := N, s₀ := s₀, H₀ := H₀, env := compEnvC scope (clOf X.env.cells scope.names []) C X.env, outer := X.stack, ex := fp, fn := fun _ => false, pn := [], xe := fun _ _ => False }

def PTs (X : Cx) (ifs : List Expr) (t : TT) : Prop :=
  ∀ (pins : List (Addr × Obj)) (s : Shared) (σ : St) (H : Hp) (Q : Bool → Hp → Prop), Inv X pins σ H s → t σ H Q →
    wpAny (model X.prog X.w) X.A (forIn ifs true fun c r => if r = true then do let ok ← isTrue c X.env (eval c X.env); pure (ForInStep.yield ok) else pure (ForInStep.yield r)) (TP X pins σ Q) X.xe s
def tNoTest : TT := fun _ H Q => Q true H
theorem pts_nil {X : Cx} : PTs X [] tNoTest := fun pins s σ H Q I h => wpAny_tests_nil ⟨H, I, h⟩
theorem pts_one {X : Cx} {c : Expr} {t : TT} (h : PT X c t) : PTs X [c] t := fun pins s σ H Q I q => wpAny_tests_one (h pins s σ H Q I q)

def CompW (J : It) (g : TG) (tc : TT) (te : TE) (acc : Addr) (Qe : Hp → Prop) (σ : St) (H : Hp) : Prop := ∃ W : Nat → Nat → St → Hp → Prop, (∃ m, W 0 m σ H) ∧ ∀ i m σ H, W i m σ H →
  (J.stop i H ∧ Qe H) ∨ (J.go i H ∧ ∃ Nx : St → Hp → Prop, (∀ σ' H', Nx σ' H' → ∃ m', m' < m ∧ W (i + 1) m' σ' H') ∧ ∀ x H', J.yld i H x H' → g x σ H' fun σ2 H2 => tc σ2 H2 fun b H3 =>
    if b = true then te σ2 H3 fun v H4 => ∃ ys, H4 acc = some (.lst ys) ∧ ys.length < sizeLine ∧ Nx σ2 (upd H4 acc (.lst (ys ++ [v]))) else Nx σ2 H3)
def tComp (wi : TI) (g : TG) (tc : TT) (te : TE) (mp : List (Option Nat)) : TE := fun σ H Q => wi σ H fun J H1 => ∀ acc, H1 acc = none → CompW J g tc te acc (fun H' => Q (.ref acc) H') (startC mp σ) (upd H1 acc (.lst []))

section
variable {prog : Program} {w : World} {A : Around} {R : Result → Shared → Prop} {s : Shared}
theorem codeAny_compLoop_own {elt target iter : Expr} {ifs : List Expr} {scope : Scope} {pos : Pos} {it acc : Value} {env : Env} (I : Nat → Shared → Prop)
    (turn : ∀ n s, I n s → wpAny (model prog w) A (pyNext it) (fun r s₁ => match r with
      | none => R (.ok .next) s₁
      | some v => wpAny (model prog w) A (letOwnedTupleGo target it v) (fun _ s₀ => wpAny (model prog w) A (assign target env v) (fun _ s₂ =>
          wpAny (model prog w) A (forIn ifs true fun c r => if r = true then do let ok ← isTrue c env (eval c env); pure (ForInStep.yield ok) else pure (ForInStep.yield r)) (fun ok s₃ =>
            if ok = true then wpAny (model prog w) A (eval elt env) (fun x s₄ =>
              wpAny (model prog w) A (call (.builtin "list.append") [acc, x]) (fun _ s₅ => ∃ m, m < n ∧ I m s₅) (fun _ _ => False) s₄) (fun _ _ => False) s₃
            else ∃ m, m < n ∧ I m s₃) (fun _ _ => False) s₂) (fun _ _ => False) s₀) (fun _ _ => False) s₁) (fun _ _ => False) s)
    (n : Nat) (h : I n s) :
    codeAny (model prog w) A (.compLoop (.ListComp elt [⟨target, iter, ifs, 0⟩] scope pos) 0 it acc env) R s := by
  refine codeAny_loop rfl I (fun n s hI => ?_) n h
  show wpAny _ A ((compTurn (.ListComp elt [⟨target, iter, ifs, 0⟩] scope pos) 0 it acc env).onRaise (fun x => do noteFrame x env; theTreesLotGoes x)) _ _ s
  refine wpAny_noted ?_
  rw [compTurn_list]
  refine wpAny_bind (wpAny_standAt (wpAny_bind (wpAny_mono (turn n s hI) (fun r s₁ h₁ => ?_) fun _ _ h' => h'.elim)))
  cases r with
  | none => exact wpAny_pure h₁
  | some v =>
    refine wpAny_bind (wpAny_mono h₁ (fun _ s₀ h₀ => ?_) fun _ _ h' => h'.elim)
    refine wpAny_bind (wpAny_mono h₀ (fun _ s₂ h₂ => wpAny_bind (wpAny_mono h₂ (fun ok s₃ h₃ => ?_) fun _ _ h' => h'.elim)) fun _ _ h' => h'.elim)
    cases ok with
    | false => exact wpAny_pure ⟨rfl, h₃⟩
    | true =>
      exact wpAny_bind (wpAny_bind (wpAny_mono h₃ (fun x s₄ h₄ => wpAny_bind (wpAny_mono h₄ (fun _ s₅ h₅ => wpAny_pure (wpAny_pure ⟨rfl, h₅⟩)) fun _ _ h' => h'.elim)) fun _ _ h' => h'.elim))
end

section
variable {X : Cx}
theorem comp_core {elt iter tg : Expr} {ifs : List Expr} {scope : Scope} {pos pos' : Pos} {N : List Str} {mp : List (Option Nat)} {wi : TI} {g : TG} {tc : TT} {te : TE} {use : Option (Value → Sem Unit)}
    {pins : List (Addr × Obj)} {s : Shared} {σ : St} {H : Hp} {Q : VK} {QQ : Value → Shared → Prop}
    (ok : CompOk X.env.scope X.N scope N mp) (hc : X.calm = true) (hi : PI X tg iter wi)
    (hb : ∀ C s₀ H₀ fp, PG (compX X scope C N s₀ H₀ fp) tg g ∧ PTs (compX X scope C N s₀ H₀ fp) ifs tc ∧ PE (compX X scope C N s₀ H₀ fp) elt te)
    (hs : ∀ x, foldedSetIterable iter X.env x = pure x) (I : Inv X pins σ H s) (h : tComp wi g tc te mp σ H Q)
    (fin : ∀ acc C H' s' m, Inv X pins σ H' s' → FpOk X pins H' C → s'.heap.Ns C m → Q (.ref acc) H' → compPost (model X.prog X.w) X.A X.xe use QQ (.ref acc) C (.ok .next) s') :
    wpAny (model X.prog X.w) X.A (comprehension (.ListComp elt [⟨tg, iter, ifs, 0⟩] scope pos) scope X.env pos' (newList []) false (eval iter X.env) use) QQ X.xe s := by
  have hfree : ∀ x ∈ scope.names, x.2 = .free → ∃ a, X.env.cells.lookup x.1 = some a := fun x hx e => I.ok.has x.1 (ok.free x hx e)
  refine wpAny_comprehension_free (use := use) rfl hs (closureFor_eq hfree) ok.kind ok.names (thn (hi pins s σ H _ I h) fun v s1 h1 => thn h1 fun itv s2 h2 => ?_)
  obtain ⟨it, fp, tn, J, H2, e, I2, T, st2, f2, hW⟩ := h2
  subst e
  refine wpAny_newObj_type (wpAny_newFunctionEnv ok.cell (by intro y hy; simp at hy) (fun h₁ hns₁ hsb₁ => ?_) ok.kind)
  dsimp only at hns₁ hsb₁ ⊢
  have I3 := I2.lnew (its := []) (ys := []) (t' := s2.toks) .nil (Nat.zero_le _)
  have hW := hW s2.heap.objs.size I2.fresh
  obtain ⟨W, ⟨m0, w0⟩, turn⟩ := hW
  generalize hHP : s2.heap.push { cls := .type "list", dict := none, data := .seq ([] : List Value).toArray } = HP at hns₁ hsb₁ ⊢
  have I3 : Inv X pins σ (upd H2 s2.heap.objs.size (.lst [])) { s2 with heap := HP } := by rw [← hHP]; exact I3
  generalize hH3 : upd H2 s2.heap.objs.size (.lst []) = H3 at I3 w0
  have hC : HP.objs.size = s2.heap.objs.size + 1 := by rw [← hHP, Heap.size_push]
  have old : ∀ b o, HP.get? b = some o → h₁.get? b = some o := fun b o e => hsb₁.extBut b o (Nat.ne_of_lt (Heap.lt_size e)) (Heap.get?_push_of_some _ e)
  have flt : ∀ b ∈ fp, b < s2.heap.objs.size := fun b hb => by
    obtain ⟨o, e, _⟩ := T.obj 0 _ st2 b hb
    exact Heap.lt_size e
  have fH3 : ∀ b ∈ fp, H3 b = none := fun b hb => by
    rw [← hH3, upd_ne (Nat.ne_of_lt (flt b hb))]
    exact (f2 b hb).1
  have clsub : ∀ {x : Str} {c : Addr}, (clOf X.env.cells scope.names []).lookup x = some c → X.env.cells.lookup x = some c := fun {x c} e => clOf_sub (fun y d q => by simp at q) e
  have yok : (compX X scope HP.objs.size N { s2 with heap := HP } H3 fp).Ok := by
    refine ⟨I2.ok.mod, ok.kind, I2.ok.glob, I2.ok.blt, Nat.le_refl _, fun x y c e1 e2 => I2.ok.inj x y c (clsub e1) (clsub e2), fun x hx => ?_, (fun x c e => absurd (show false = true from e) (by decide)), I2.ok.hd, I2.ok.frames, .inl rfl, fun b hb => ?_, I3.bs, Nat.le_trans I3.ok.bsz I3.sz, fun b o e hb => ?_, fun b hb hz => ?_, I3.stack, I3.stkFree⟩
    · have hx' : scope.names.lookup x = some .free := by
        rcases hx with hx | hx
        · exact relabel_look ok.cell hx (.inl rfl)
        · exact relabel_look ok.cell hx (.inr rfl)
      have hm := PySem.mem_of_lookup hx'
      obtain ⟨a, ha⟩ := hfree _ hm rfl
      exact ⟨a, clOf_look hm ha⟩
    · refine ⟨fun z => ?_, fun x c e => (f2 b hb).2.2.2.2.1 x c (clsub e)⟩
      have z' : b = HP.objs.size := z
      have q := flt b hb
      rw [z', hC] at q
      exact absurd q (Nat.not_lt.mpr (Nat.le_succ _))
    · rcases (f2 b hb).2.2.2.1 with z | z
      · exact I2.ok.noex b o e z
      · exact absurd (Nat.lt_of_lt_of_le (Heap.lt_size (I2.ok.bs b o e).1) z) (Nat.lt_irrefl _)
    · rcases List.mem_cons.mp (I2.stkSub b hz) with z | z
      · exact (f2 b hb).2.1 z
      · exact (f2 b hb).2.2.1 z
  have IY : Inv (compX X scope HP.objs.size N { s2 with heap := HP } H3 fp) [] (startC mp σ) H3 { s2 with heap := h₁, toks := s2.toks + ([] : List (Str × Value)).length } := by
    refine ⟨yok, rfl, I2.bare, Un.kept old, ⟨_, hns₁, fun i x v e1 e2 e3 => ?_⟩, fun x c e => ?_, I3.hok.fresh (Nat.le_refl _), fun x c e => I3.freeC x c (clsub e), fun p hp => absurd (show p ∈ ([] : List (Addr × Obj)) from hp) (by simp), I3.hok.kept old, ?_⟩
    · have hj : ∃ j, mp[i]? = some (some j) ∧ σ[j]? = some (some v) := by
        unfold startC at e2
        rw [List.getElem?_map] at e2
        cases q : mp[i]? with
        | none => rw [q] at e2; cases e2
        | some o =>
          rw [q] at e2
          cases o with
          | none => cases e2
          | some j =>
            refine ⟨j, rfl, ?_⟩
            have e2 : (match σ[j]? with | some v => v | none => none) = some v := Option.some.inj e2
            cases r : σ[j]? with
            | none => rw [r] at e2; cases e2
            | some u =>
              rw [r] at e2
              have e2 : u = some v := e2
              rw [e2]
      obtain ⟨j, hj1, hj2⟩ := hj
      obtain ⟨l1, l2⟩ := ok.look i j x hj1 e1
      have hm := PySem.mem_of_lookup l2
      have kx := ok.free _ hm rfl
      obtain ⟨mm, _, hl⟩ := I3.loc
      obtain ⟨u, ru, lk⟩ := hl j x v l1 hj2 (kx.elim (fun z => .inr (.inl z)) fun z => .inr (.inr z))
      refine ⟨u, ru, .inr ⟨relabel_free l2, ?_⟩⟩
      rcases lk with ⟨k, _⟩ | ⟨_, c, e, z⟩
      · exfalso
        have k' : X.env.scope.names.lookup x = some .local := k
        rcases kx with kx | kx
        · rw [k'] at kx; cases kx
        · rw [k'] at kx; cases kx
      · refine ⟨c, clOf_look hm e, ?_⟩
        obtain ⟨o, ho, hd⟩ := z
        exact ⟨o, old c o ho, hd⟩
    · obtain ⟨v, o, ho, hd⟩ := I3.cell x c (clsub e)
      exact ⟨v, o, old c o ho, hd⟩
    · show (startC mp σ).length = N.length
      unfold startC
      rw [List.length_map, ok.len]
  have stat : ∀ {H' : Hp}, (∀ b ∈ fp, H' b = none) → ∀ b ∈ fp, FpOk (compX X scope HP.objs.size N { s2 with heap := HP } H3 fp) [] H' b := fun {H'} hn b hb =>
    ⟨hn b hb, (yok.exf b hb).1, yok.exfs b hb, .inl hb, (yok.exf b hb).2, fun p hp => absurd (show p ∈ ([] : List (Addr × Obj)) from hp) (by simp)⟩
  have stY : tn 0 h₁ := T.keep 0 _ _ st2 fun b hb o e => old b o (by rw [← hHP]; exact Heap.get?_push_of_some _ e)
  have loop : codeAny (model X.prog X.w) X.A (.compLoop (.ListComp elt [⟨tg, iter, ifs, 0⟩] scope pos) 0 (.ref it) (.ref s2.heap.objs.size) (compEnvC scope (clOf X.env.cells scope.names []) HP.objs.size X.env))
      (compPost (model X.prog X.w) X.A X.xe use QQ (.ref s2.heap.objs.size) HP.objs.size) { s2 with heap := h₁, toks := s2.toks + ([] : List (Str × Value)).length } := by
    obtain ⟨hg, ht, he⟩ := hb HP.objs.size { s2 with heap := HP } H3 fp
    generalize hY : compX X scope HP.objs.size N { s2 with heap := HP } H3 fp = Y at hg ht he IY stat
    have yp : Y.prog = X.prog := by rw [← hY]; rfl
    have yw : Y.w = X.w := by rw [← hY]; rfl
    have yK : Y.K = X.K := by rw [← hY]; rfl
    have yA : Y.A = X.A := by rw [← hY]; rfl
    have yc : Y.calm = true := by rw [← hY]; exact hc
    have yx : Y.xe = fun _ _ => False := by rw [← hY]; rfl
    have yenv : Y.env = compEnvC scope (clOf X.env.cells scope.names []) HP.objs.size X.env := by rw [← hY]; rfl
    rw [← yenv]
    refine codeAny_compLoop_own (fun n s' => ∃ i σ' H', Inv Y [] σ' H' s' ∧ tn i s'.heap ∧ (∀ b ∈ fp, H' b = none) ∧ W i n σ' H') ?_ m0 ⟨0, _, H3, IY, stY, fH3, w0⟩
    rintro n s3 ⟨i, σ3, H4, I4, st3, fr3, w3⟩
    rcases turn i n σ3 H4 w3 with ⟨stop, qn⟩ | ⟨go, Nx, hN, step⟩
    · have q0 := T.done Y yp yw yK yc i [] s3 σ3 H4 (fun _ _ => False) I4 (stat fr3) st3 stop
      rw [yA] at q0
      refine thn q0 fun r s4 ⟨hr, I5⟩ => ?_
      subst hr
      show compPost (model X.prog X.w) X.A X.xe use QQ (.ref s2.heap.objs.size) HP.objs.size (.ok .next) s4
      obtain ⟨m, hm, _⟩ := id I5.loc
      have yl : Y.env.locals = HP.objs.size := by rw [yenv]; rfl
      rw [yl] at hm
      have fC : H4 HP.objs.size = none := by have := I5.free; rw [yl] at this; exact this
      have ub := I5.base
      have ub' : Un (frs X.stack) fp H3 H4 HP s4.heap := by rw [← hY] at ub; exact ub
      have hos : s4.os = s2.os := by have := I5.os; rw [← hY] at this; exact this
      have hok5 : HOk X.prog X.w H4 s4.heap := by have := I5.hok; rw [yp, yw] at this; exact this
      have IX : Inv X pins σ H4 s4 := I3.call' (ch := fp) hos ub' hok5 I5.bare fun b hb => ⟨(f2 b hb).2.2.2.1, (f2 b hb).2.1, (f2 b hb).2.2.2.2.1, (f2 b hb).2.2.2.2.2⟩
      exact fin _ _ H4 s4 m IX (I3.fpOk (Nat.le_refl _) fC) hm qn
    · have q0 := T.item Y yp yw yK yc i [] s3 σ3 H4 (fun _ _ => False) I4 (stat fr3) st3 go
      rw [yA] at q0
      refine thn q0 fun r s4 ⟨u, hr, h4⟩ => ?_
      subst hr
      refine thn h4 fun _ s5 ⟨x, H5, I5, r5, y5, st5, fr5⟩ => ?_
      have I5' := I5.pinned (stat fr5) (T.obj _ _ st5)
      rw [← yx, ← yp, ← yw, ← yA]
      refine thn (hg _ s5 σ3 H5 x u _ I5' r5 (step x H5 y5)) fun _ s6 ⟨σ6, H6, I6, q6⟩ => ?_
      refine thn (ht _ s6 σ6 H6 _ I6 q6) fun b s7 ⟨H7, I7, q7⟩ => ?_
      have again : ∀ {σ8 : St} {H8 : Hp} {s8 : Shared}, Inv Y ([] ++ pinsAt fp s5.heap) σ8 H8 s8 → Nx σ8 H8 → ∃ m, m < n ∧ ∃ i σ' H', Inv Y [] σ' H' s8 ∧ tn i s8.heap ∧ (∀ b ∈ fp, H' b = none) ∧ W i m σ' H' := fun {σ8 H8 s8} I8 n8 => by
        obtain ⟨m', hm, w8⟩ := hN σ8 H8 n8
        refine ⟨m', hm, i + 1, σ8, H8, I8.unpinned, T.keep _ _ _ st5 fun b hb o e => (I8.pin (b, o) (List.mem_append_right _ (List.mem_append_right _ (mem_pinsAt hb e)))).1, fun b hb => ?_, w8⟩
        obtain ⟨o, e, d⟩ := T.obj _ _ st5 b hb
        exact (I8.pin (b, o) (List.mem_append_right _ (List.mem_append_right _ (mem_pinsAt hb e)))).2.1
      cases b with
      | false =>
        rw [if_neg Bool.false_ne_true]
        rw [if_neg Bool.false_ne_true] at q7
        exact again I7 q7
      | true =>
        rw [if_pos rfl]
        rw [if_pos rfl] at q7
        refine thn (he _ s7 σ6 H7 _ I7 q7) fun v s8 ⟨y, H8, I8, r8, ys, e8, z8, n8⟩ => ?_
        refine thn (mt_append _ s8 σ6 H8 (.ref s2.heap.objs.size) [y] (.ref s2.heap.objs.size) [v] (fun _ H9 => H9 = upd H8 s2.heap.objs.size (.lst (ys ++ [y]))) I8 rfl (.cons r8 .nil) ⟨_, ys, y, rfl, rfl, e8, z8, rfl⟩) fun v9 s9 ⟨y9, H9, I9, r9, e9⟩ => ?_
        subst e9
        exact again I9 n8
  refine codeAny_compStart_list loop (T.self _ _ _ _ _ stY loop)

theorem FpOk.turned {pins : List (Addr × Obj)} {s : Shared} {σ : St} {H : Hp} {C : Addr} {h' : Heap} (I : Inv X pins σ H s) (f : FpOk X pins H C) (hs : Heap.SameBut C s.heap h') : Inv X pins σ H { s with heap := h' } :=
  I.turned (t' := s.toks) (fun b o hb e => (hs.2 b hb).trans e) f.1 f.2.1 f.2.2.2.1 f.2.2.2.2.1 f.2.2.2.2.2

theorem pe_lcomp {elt iter tg : Expr} {ifs : List Expr} {scope : Scope} {pos : Pos} {N : List Str} {mp : List (Option Nat)} {wi : TI} {g : TG} {tc : TT} {te : TE}
    (ok : CompOk X.env.scope X.N scope N mp) (hi : PI X tg iter wi)
    (hb : ∀ C s₀ H₀ fp, PG (compX X scope C N s₀ H₀ fp) tg g ∧ PTs (compX X scope C N s₀ H₀ fp) ifs tc ∧ PE (compX X scope C N s₀ H₀ fp) elt te) (hc : X.calm = true := by rfl)
    (hs : ∀ x, foldedSetIterable iter X.env x = pure x := by intro _; rfl) : PE X (.ListComp elt [⟨tg, iter, ifs, 0⟩] scope pos) (tComp wi g tc te mp) := by
  intro pins s σ H Q I h
  rw [eval_ListComp]
  refine comp_core (use := none) ok hc hi hb hs I h fun acc C H' s' m I' f hn q => ?_
  exact ⟨m, hn, fun h' hs' => ⟨.ref acc, H', f.turned I' hs', rfl, q⟩⟩

def tSetC (i : Nat) (t : TE) : TS := fun D σ H => t σ H fun v H' => D.nx (σ.set i (some v)) H'
theorem ps_setC {elt iter tg : Expr} {ifs : List Expr} {scope : Scope} {pos spos py : Pos} {N : List Str} {mp : List (Option Nat)} {wi : TI} {g : TG} {tc : TT} {te : TE} {i : Nat} {y : Str}
    (hN : X.N.Nodup) (hy : X.N[i]? = some y) (hk : X.env.kindOf y = some .local)
    (ok : CompOk X.env.scope X.N scope N mp) (hi : PI X tg iter wi)
    (hb : ∀ C s₀ H₀ fp, PG (compX X scope C N s₀ H₀ fp) tg g ∧ PTs (compX X scope C N s₀ H₀ fp) ifs tc ∧ PE (compX X scope C N s₀ H₀ fp) elt te) (hc : X.calm = true := by rfl)
    (hsw : swapsWith (.ListComp elt [⟨tg, iter, ifs, 0⟩] scope pos) (some (.Name y py)) spos.line X.env = pure true := by rfl)
    (hs : ∀ x, foldedSetIterable iter X.env x = pure x := by intro _; rfl) : PS X (.Assign [.Name y py] (.ListComp elt [⟨tg, iter, ifs, 0⟩] scope pos) spos) (tSetC i (tComp wi g tc te mp)) := by
  intro pins s σ H D I h
  rw [exec_Assign_Name_used _ _ _ _ hsw]
  refine wpAny_bind (wpAny_standAt (wpAny_bind ?_))
  show wpAny _ X.A (do let _ ← comprehension (.ListComp elt [⟨tg, iter, ifs, 0⟩] scope pos) scope X.env _ (newList []) false (eval iter X.env) (some (assign (.Name y py) X.env))) _ _ s
  refine wpAny_bind (wpAny_mono (comp_core (use := some (assign (.Name y py) X.env)) (QQ := fun _ s' => SP X pins D .next s') ok hc hi hb hs I h fun acc C H' s' m I' f hn q => ?_) (fun _ s' hq => wpAny_pure (wpAny_pure hq)) fun _ _ e => e)
  refine wpAny_assign_Name (store_ok2 (v := .ref acc) I' hN hy (.inl hk) rfl (fun s2 I2 ⟨a, sb, ha⟩ => ?_) (.inr hk))
  have hne : C ≠ a := by
    rcases ha with z | z
    · rw [z]; exact f.2.1
    · exact fun e => f.2.2.2.2.1 y a z e.symm
  exact ⟨m, hn.sameBut sb hne, fun h' hs' => ⟨_, H', f.turned I2 hs', q⟩⟩
end
end L2

set_option maxRecDepth 100000
set_option maxHeartbeats 1000000
namespace L2
open PySem PySem.Spec PyProof.Rows

def Sm (i : Int) : Prop := -(2 ^ 250) < i ∧ i < 2 ^ 250
theorem sm_bits {i : Int} (h : Sm i) : Builtin.Int.intBits i ≤ 2 ^ 20 := by
  obtain ⟨h1, h2⟩ := h
  unfold Builtin.Int.intBits
  split
  · exact Nat.zero_le _
  · rename_i h0
    have hn : i.natAbs ≠ 0 := by
      intro e
      apply h0
      simp
      omega
    have h3 : i.natAbs < 2 ^ 250 := by omega
    have h4 : i.natAbs.log2 < 250 := (Nat.log2_lt hn).mpr h3
    have : (2 : Nat) ^ 20 = 1048576 := by decide
    omega
theorem sm_pylong {x y : Int} (h : Sm y) : Builtin.divisionGoesByPylong x y = false := by
  refine PyProof.noPylong_of_log2 ?_
  obtain ⟨h1, h2⟩ := h
  by_cases h0 : y.natAbs = 0
  · rw [h0]; decide +kernel
  · have h3 : y.natAbs < 2 ^ 250 := by omega
    have h4 : y.natAbs.log2 < 250 := (Nat.log2_lt h0).mpr h3
    omega

section
variable {X : Cx}
theorem op_fdivS : OpR X (binaryOp .FloorDiv) (rI (fun _ j => 0 < j ∧ Sm j) fun i j => .int (i / j)) := opI fun i j _ _ _ _ _ hc q =>
  floordiv_int (by omega) (by rw [Int.fdiv_eq_ediv_of_nonneg _ (by omega)]; exact q) (.inl (sm_pylong hc.2))

def rIsi (K : PySem.W.Frag) : List V → Hp → VK → Prop := fun xs H Q => ∃ x T t b, xs = [x, .ty T] ∧ TyOf K H x t ∧ PySem.W.kitOne K t (.type T) = some b ∧ Q (.bl b) H
theorem call_isi : CallR X (.builtin "isinstance") (rIsi X.K) := by
  intro pins s σ H xs us Q I rv h
  obtain ⟨x, T, t, b, rfl, ty, e, q⟩ := h
  obtain ⟨u, v, rfl, ru, rv⟩ := rv.two
  cases (show v = Value.type T from rv)
  exact isinst_ok I ru ty e fun tk => ⟨.bl b, H, I.tok tk, rfl, q⟩

def KeyD : PyData → Key → Prop
  | .int i, k => k = .inl i
  | .str x, k => k = .inr x
  | _, _ => False
mutual
def IsD (nb : Addr → Prop) (H : Hp) : PyData → V → Prop
  | .none, v => v = .non
  | .bool b, v => v = .bl b
  | .int i, v => v = .int i
  | .str x, v => v = .str x
  | .list ds, v => ∃ a xs, v = .ref a ∧ ¬ nb a ∧ H a = some (.lst xs) ∧ IsDs nb H ds xs
  | .tuple ds, v => ∃ a xs, v = .ref a ∧ ¬ nb a ∧ H a = some (.tup xs) ∧ IsDs nb H ds xs
  | .dict kvs, v => ∃ a ps, v = .ref a ∧ ¬ nb a ∧ H a = some (.dK ps) ∧ IsKs nb H kvs ps
termination_by structural d => d
def IsDs (nb : Addr → Prop) (H : Hp) : List PyData → List V → Prop
  | [], xs => xs = []
  | d :: ds, xs => ∃ y ys, xs = y :: ys ∧ IsD nb H d y ∧ IsDs nb H ds ys
termination_by structural d => d
def IsKs (nb : Addr → Prop) (H : Hp) : List (PyData × PyData) → List (Key × V) → Prop
  | [], xs => xs = []
  | d :: ds, xs => ∃ p ys, xs = p :: ys ∧ IsK nb H d p ∧ IsKs nb H ds ys
termination_by structural d => d
def IsK (nb : Addr → Prop) (H : Hp) : PyData × PyData → Key × V → Prop
  | (k, d), p => KeyD k p.1 ∧ IsD nb H d p.2
termination_by structural d => d
end

def But (nb : Addr → Prop) (H H' : Hp) : Prop := ∀ a o, ¬ nb a → H a = some o → H' a = some o
def Nb (b : Addr) : Addr → Prop := fun a => a = b
def Nb2 (b c : Addr) : Addr → Prop := fun a => a = b ∨ a = c
section
variable {nb nb' : Addr → Prop} {H H1 H2 H' : Hp} {a b c p : Addr} {o : HO} {xs : List V}
theorem But.refl (nb : Addr → Prop) (H : Hp) : But nb H H := fun _ _ _ h => h
theorem But.trans (x : But nb H H1) (y : But nb H1 H2) : But nb H H2 := fun a o n h => y a o n (x a o n h)
theorem But.of (x : Same H H') : But nb H H' := fun a o _ h => x a o h
theorem But.set (h : nb p) : But nb H (upd H p o) := fun a u n q => by rw [upd_ne (fun e => n (by rw [e]; exact h))]; exact q
theorem But.mono (x : But nb H H') (h : ∀ a, nb a → nb' a) : But nb' H H' := fun a o n q => x a o (fun z => n (h a z)) q
theorem But.two (x : But (Nb b) H H') : But (Nb2 b c) H H' := x.mono fun _ h => .inl h
end
mutual
theorem IsD.keep {nb : Addr → Prop} {H H' : Hp} (x : But nb H H') : ∀ {d : PyData} {v : V}, IsD nb H d v → IsD nb H' d v
  | .none, _, h => by unfold IsD at h ⊢; exact h
  | .bool _, _, h => by unfold IsD at h ⊢; exact h
  | .int _, _, h => by unfold IsD at h ⊢; exact h
  | .str _, _, h => by unfold IsD at h ⊢; exact h
  | .list ds, _, h => by unfold IsD at h ⊢; obtain ⟨a, xs, e, n, s, r⟩ := h; exact ⟨a, xs, e, n, x _ _ n s, IsDs.keep x r⟩
  | .tuple ds, _, h => by unfold IsD at h ⊢; obtain ⟨a, xs, e, n, s, r⟩ := h; exact ⟨a, xs, e, n, x _ _ n s, IsDs.keep x r⟩
  | .dict kvs, _, h => by unfold IsD at h ⊢; obtain ⟨a, xs, e, n, s, r⟩ := h; exact ⟨a, xs, e, n, x _ _ n s, IsKs.keep x r⟩
theorem IsDs.keep {nb : Addr → Prop} {H H' : Hp} (x : But nb H H') : ∀ {ds : List PyData} {vs : List V}, IsDs nb H ds vs → IsDs nb H' ds vs
  | [], _, h => by unfold IsDs at h ⊢; exact h
  | d :: ds, _, h => by unfold IsDs at h ⊢; obtain ⟨y, ys, e, h1, h2⟩ := h; exact ⟨y, ys, e, IsD.keep x h1, IsDs.keep x h2⟩
theorem IsKs.keep {nb : Addr → Prop} {H H' : Hp} (x : But nb H H') : ∀ {ds : List (PyData × PyData)} {vs : List (Key × V)}, IsKs nb H ds vs → IsKs nb H' ds vs
  | [], _, h => by unfold IsKs at h ⊢; exact h
  | d :: ds, _, h => by unfold IsKs at h ⊢; obtain ⟨y, ys, e, h1, h2⟩ := h; exact ⟨y, ys, e, IsK.keep x h1, IsKs.keep x h2⟩
theorem IsK.keep {nb : Addr → Prop} {H H' : Hp} (x : But nb H H') : ∀ {d : PyData × PyData} {v : Key × V}, IsK nb H d v → IsK nb H' d v
  | (k, d), _, h => by unfold IsK at h ⊢; exact ⟨h.1, IsD.keep x h.2⟩
end
mutual
theorem IsD.av {nb nb' : Addr → Prop} {H : Hp} (x : ∀ a, nb' a → nb a) : ∀ {d : PyData} {v : V}, IsD nb H d v → IsD nb' H d v
  | .none, _, h => by unfold IsD at h ⊢; exact h
  | .bool _, _, h => by unfold IsD at h ⊢; exact h
  | .int _, _, h => by unfold IsD at h ⊢; exact h
  | .str _, _, h => by unfold IsD at h ⊢; exact h
  | .list ds, _, h => by unfold IsD at h ⊢; obtain ⟨a, xs, e, n, s, r⟩ := h; exact ⟨a, xs, e, fun z => n (x a z), s, IsDs.av x r⟩
  | .tuple ds, _, h => by unfold IsD at h ⊢; obtain ⟨a, xs, e, n, s, r⟩ := h; exact ⟨a, xs, e, fun z => n (x a z), s, IsDs.av x r⟩
  | .dict kvs, _, h => by unfold IsD at h ⊢; obtain ⟨a, xs, e, n, s, r⟩ := h; exact ⟨a, xs, e, fun z => n (x a z), s, IsKs.av x r⟩
theorem IsDs.av {nb nb' : Addr → Prop} {H : Hp} (x : ∀ a, nb' a → nb a) : ∀ {ds : List PyData} {vs : List V}, IsDs nb H ds vs → IsDs nb' H ds vs
  | [], _, h => by unfold IsDs at h ⊢; exact h
  | d :: ds, _, h => by unfold IsDs at h ⊢; obtain ⟨y, ys, e, h1, h2⟩ := h; exact ⟨y, ys, e, IsD.av x h1, IsDs.av x h2⟩
theorem IsKs.av {nb nb' : Addr → Prop} {H : Hp} (x : ∀ a, nb' a → nb a) : ∀ {ds : List (PyData × PyData)} {vs : List (Key × V)}, IsKs nb H ds vs → IsKs nb' H ds vs
  | [], _, h => by unfold IsKs at h ⊢; exact h
  | d :: ds, _, h => by unfold IsKs at h ⊢; obtain ⟨y, ys, e, h1, h2⟩ := h; exact ⟨y, ys, e, IsK.av x h1, IsKs.av x h2⟩
theorem IsK.av {nb nb' : Addr → Prop} {H : Hp} (x : ∀ a, nb' a → nb a) : ∀ {d : PyData × PyData} {v : Key × V}, IsK nb H d v → IsK nb' H d v
  | (k, d), _, h => by unfold IsK at h ⊢; exact ⟨h.1, IsD.av x h.2⟩
end
mutual
theorem IsD.fresh {nb : Addr → Prop} {H : Hp} {p : Addr} (hp : H p = none) : ∀ {d : PyData} {v : V}, IsD nb H d v → IsD (fun a => nb a ∨ a = p) H d v
  | .none, _, h => by unfold IsD at h ⊢; exact h
  | .bool _, _, h => by unfold IsD at h ⊢; exact h
  | .int _, _, h => by unfold IsD at h ⊢; exact h
  | .str _, _, h => by unfold IsD at h ⊢; exact h
  | .list ds, _, h => by unfold IsD at h ⊢; obtain ⟨a, xs, e, n, s, r⟩ := h; exact ⟨a, xs, e, fun z => z.elim n (ne_of_none s hp), s, IsDs.fresh hp r⟩
  | .tuple ds, _, h => by unfold IsD at h ⊢; obtain ⟨a, xs, e, n, s, r⟩ := h; exact ⟨a, xs, e, fun z => z.elim n (ne_of_none s hp), s, IsDs.fresh hp r⟩
  | .dict kvs, _, h => by unfold IsD at h ⊢; obtain ⟨a, xs, e, n, s, r⟩ := h; exact ⟨a, xs, e, fun z => z.elim n (ne_of_none s hp), s, IsKs.fresh hp r⟩
theorem IsDs.fresh {nb : Addr → Prop} {H : Hp} {p : Addr} (hp : H p = none) : ∀ {ds : List PyData} {vs : List V}, IsDs nb H ds vs → IsDs (fun a => nb a ∨ a = p) H ds vs
  | [], _, h => by unfold IsDs at h ⊢; exact h
  | d :: ds, _, h => by unfold IsDs at h ⊢; obtain ⟨y, ys, e, h1, h2⟩ := h; exact ⟨y, ys, e, IsD.fresh hp h1, IsDs.fresh hp h2⟩
theorem IsKs.fresh {nb : Addr → Prop} {H : Hp} {p : Addr} (hp : H p = none) : ∀ {ds : List (PyData × PyData)} {vs : List (Key × V)}, IsKs nb H ds vs → IsKs (fun a => nb a ∨ a = p) H ds vs
  | [], _, h => by unfold IsKs at h ⊢; exact h
  | d :: ds, _, h => by unfold IsKs at h ⊢; obtain ⟨y, ys, e, h1, h2⟩ := h; exact ⟨y, ys, e, IsK.fresh hp h1, IsKs.fresh hp h2⟩
theorem IsK.fresh {nb : Addr → Prop} {H : Hp} {p : Addr} (hp : H p = none) : ∀ {d : PyData × PyData} {v : Key × V}, IsK nb H d v → IsK (fun a => nb a ∨ a = p) H d v
  | (k, d), _, h => by unfold IsK at h ⊢; exact ⟨h.1, IsD.fresh hp h.2⟩
end
mutual
theorem IsD.reads {pins : List (Addr × Obj)} {σ : St} {H : Hp} {s : Shared} {nb : Addr → Prop} (I : Inv X pins σ H s) : ∀ {d : PyData} {v : V} {u : Value}, IsD nb H d v → RelV v u → d.canLay0 = true → ∃ as, Reads s.heap u d as
  | .none, _, _, h, r, _ => by unfold IsD at h; subst h; cases r; exact ⟨_, .none⟩
  | .bool _, _, _, h, r, _ => by unfold IsD at h; subst h; cases r; exact ⟨_, .bool _⟩
  | .int _, _, _, h, r, _ => by unfold IsD at h; subst h; obtain ⟨t, rfl⟩ := r; exact ⟨_, .int _ _⟩
  | .str _, _, _, h, r, _ => by unfold IsD at h; subst h; obtain ⟨t, rfl⟩ := r; exact ⟨_, .str _ _⟩
  | .list ds, _, _, h, r, hc0 => by
    unfold IsD at h
    obtain ⟨a, xs, rfl, n, s, q⟩ := h
    cases r
    obtain ⟨its, rv, p, hz⟩ := I.list (SqL.of s)
    obtain ⟨as, ra⟩ := IsDs.reads I q rv (by simpa only [PyData.canLay0] using hc0)
    obtain ⟨o, ho, hc, m, hd⟩ := p.isList
    exact ⟨_, .list ho hc hd (by simpa using ra)⟩
  | .tuple ds, _, _, h, r, hc0 => by
    unfold IsD at h
    obtain ⟨a, xs, rfl, n, s, q⟩ := h
    cases r
    obtain ⟨its, rv, p, hz⟩ := I.tuple (SqT.of s)
    obtain ⟨as, ra⟩ := IsDs.reads I q rv (by simpa only [PyData.canLay0] using hc0)
    obtain ⟨o, ho, hc, m, hd⟩ := p
    exact ⟨_, .tuple ho hc hd (by simpa using ra)⟩
  | .dict _, _, _, h, r, hc0 => by simp [PyData.canLay0] at hc0
theorem IsDs.reads {pins : List (Addr × Obj)} {σ : St} {H : Hp} {s : Shared} {nb : Addr → Prop} (I : Inv X pins σ H s) : ∀ {ds : List PyData} {vs : List V} {us : List Value}, IsDs nb H ds vs → Vals vs us → PyData.canLayAll0 ds = true → ∃ as, ReadsAll s.heap us ds as
  | [], _, _, h, r, _ => by unfold IsDs at h; subst h; cases r; exact ⟨_, .nil⟩
  | d :: ds, _, _, h, r, hc0 => by
    rw [PyData.canLayAll0, Bool.and_eq_true] at hc0
    unfold IsDs at h
    obtain ⟨y, ys, rfl, h1, h2⟩ := h
    cases r with
    | cons r1 r2 =>
      obtain ⟨as, q1⟩ := IsD.reads I h1 r1 hc0.1
      obtain ⟨bs, q2⟩ := IsDs.reads I h2 r2 hc0.2
      exact ⟨_, .cons q1 q2⟩
end
def rEqD (neg : Bool) : R2 := fun x y H Q => ∃ nb d e, IsD nb H d x ∧ IsD nb H e y ∧ SeqAt.shaped d = true ∧ SeqAt.shaped e = true ∧ Q (.bl (PyData.eqv d e != neg)) H
theorem op_eqD (hu : X.A.units + 64 < cLine) : OpR X (compareOp .Eq) (rEqD false) := by
  intro pins s σ H x y v u Q I rx ry h
  obtain ⟨nb, d, e, h1, h2, h3, h4, q⟩ := h
  obtain ⟨as, r1⟩ := h1.reads I rx (SeqAt.canLay_of_shaped h3)
  obtain ⟨bs, r2⟩ := h2.reads I ry (SeqAt.canLay_of_shaped h4)
  exact eq_dataH r1 r2 h3 h4 hu ⟨.bl _, H, I, rfl, by simpa using q⟩
theorem op_neD (hu : X.A.units + 64 < cLine) : OpR X (compareOp .NotEq) (rEqD true) := by
  intro pins s σ H x y v u Q I rx ry h
  obtain ⟨nb, d, e, h1, h2, h3, h4, q⟩ := h
  obtain ⟨as, r1⟩ := h1.reads I rx (SeqAt.canLay_of_shaped h3)
  obtain ⟨bs, r2⟩ := h2.reads I ry (SeqAt.canLay_of_shaped h4)
  exact ne_dataH r1 r2 h3 h4 hu ⟨.bl _, H, I, rfl, by simpa using q⟩
end

mutual
theorem eqv_refl : ∀ d : PyData, SeqAt.shaped d = true ∨ d.canLay0 = true → PyData.eqv d d = true
  | .none, _ => by simp [PyData.eqv]
  | .bool _, _ => by simp [PyData.eqv]
  | .int _, _ => by simp [PyData.eqv]
  | .str _, _ => by simp [PyData.eqv]
  | .list ds, h => by
    have h' : PyData.canLayAll0 ds = true := by
      rcases h with h | h
      · have := SeqAt.canLay_of_shaped h; simpa [PyData.canLay0] using this
      · simpa [PyData.canLay0] using h
    simp only [PyData.eqv]
    exact eqvAll_refl ds h'
  | .tuple ds, h => by
    have h' : PyData.canLayAll0 ds = true := by
      rcases h with h | h
      · have := SeqAt.canLay_of_shaped h; simpa [PyData.canLay0] using this
      · simpa [PyData.canLay0] using h
    simp only [PyData.eqv]
    exact eqvAll_refl ds h'
  | .dict _, h => by
    rcases h with h | h
    · have := SeqAt.canLay_of_shaped h; simp [PyData.canLay0] at this
    · simp [PyData.canLay0] at h
theorem eqvAll_refl : ∀ ds : List PyData, PyData.canLayAll0 ds = true → PyData.eqvAll ds ds = true
  | [], _ => by simp [PyData.eqvAll]
  | d :: ds, h => by
    simp only [PyData.canLayAll0, Bool.and_eq_true] at h
    simp only [PyData.eqvAll, Bool.and_eq_true]
    exact ⟨eqv_refl d (.inr h.1), eqvAll_refl ds h.2⟩
end

structure Callee (P : Program) (w : World) (K : PySem.W.Frag) (mg : Str → Option Value) (base : Heap) (x : Str) (k : Nat) (ps : List Str) (sp : Sp) : Prop where
  ex : ∃ f fd, FnOk P w K mg base CX0 k f fd ps sp ∧ Binds K fd ps [] ∧ PySem.W.keepIn K (.ref f) = true ∧ mg x = some (.ref f)
theorem pe_callC {X : Cx} {x : Str} {k : Nat} {ps : List Str} {sp : Sp} {p pos : Pos} {e : Expr} {es : List Expr} {t : TA} (c : Callee X.prog X.w X.K X.mg X.base x k ps sp) (hr : Room k X.A) (ha : PA X (e :: es) t) (hg : Gl X x := by rfl)
    (hdb : (x == ("__debug__" : Str)) = false := by decide) (he : starEach (e :: es) X.env = (false, eval e X.env) :: starEach es X.env := by rfl) (hpl : (backTo pos (starEach es X.env)).any (·.1) = false := by rfl) :
    PE X (.Call (.Name x p) (e :: es) [] pos) (tCall sp [] E0 t) := by
  obtain ⟨f, fd, F, b, kp, m⟩ := c.ex
  exact pe_call F hr hg m kp b .nil pass0 ha hdb he hpl
theorem Callee.mk' {P : Program} {w : World} {K : PySem.W.Frag} {mg : Str → Option Value} {base : Heap} {x : Str} {st : Stmt} {k : Nat} {ps : List Str} {sp : Sp} {f : Addr} {fd : FuncData} (F : Fun K x x st f fd) (ok : FnOk P w K mg base CX0 k f fd ps sp) (b : Binds K fd ps [])
    (m : mg x = some (.ref f)) : Callee P w K mg base x k ps sp := ⟨f, fd, ok, b, F.kp, m⟩
end L2

set_option maxRecDepth 100000
set_option maxHeartbeats 1000000
namespace L2
open PySem PySem.Spec PyProof.Rows
section
variable {X : Cx}
theorem op_mulA : OpR X (binaryOp .Mult) (rI (fun i j => CMul i j ∨ (Sm i ∧ Sm j)) fun i j => .int (i * j)) := opI fun _ _ _ _ _ _ _ hc q => mul_int q (by
  rcases hc with hc | hc
  · exact hc.ok
  · exact IntMulOk.of_bits (sm_bits hc.1) (sm_bits hc.2))
end
def BagAt (H : Hp) (b l : Addr) : Prop := ∃ (ns : List Int) (i c st n : Int), H b = some (.lst [.ref l, .int i, .int c, .int st, .int n]) ∧ H l = some (.lst (ns.map V.int)) ∧
  (∀ x ∈ ns, 0 ≤ x ∧ x < 10 ^ 60) ∧ ns.length ≤ 63 ∧ 0 ≤ i ∧ 0 ≤ c ∧ c < 10 ^ 60 ∧ 0 ≤ st ∧ st < 2147483647
theorem bag_ne {H : Hp} {b l : Addr} {ns : List Int} {i c st n : V} (h : H b = some (.lst [.ref l, i, c, st, n])) (h' : H l = some (.lst (ns.map V.int))) : l ≠ b := by
  intro e
  subst e
  rw [h] at h'
  have e := HO.lst.inj (Option.some.inj h')
  cases ns with
  | nil => cases e
  | cons x r => rw [List.map_cons] at e; cases (List.cons.inj e).1
theorem BagAt.put {H : Hp} {b l : Addr} {ns : List Int} {i c st n : Int} (hl : l ≠ b) (h' : H l = some (.lst (ns.map V.int))) (h1 : ∀ x ∈ ns, 0 ≤ x ∧ x < 10 ^ 60) (h2 : ns.length ≤ 63)
    (h3 : 0 ≤ i) (h4 : 0 ≤ c) (h5 : c < 10 ^ 60) (h6 : 0 ≤ st) (h7 : st < 2147483647) : BagAt (upd H b (.lst [.ref l, .int i, .int c, .int st, .int n])) b l :=
  ⟨ns, i, c, st, n, upd_same, by rw [upd_ne hl]; exact h', h1, h2, h3, h4, h5, h6, h7⟩
theorem BagAt.ne {H : Hp} {b l p : Addr} (h : BagAt H b l) (hp : H p = none) : p ≠ b ∧ p ≠ l := by
  obtain ⟨_, _, _, _, _, h1, h2, _⟩ := h
  exact ⟨(fun e => by rw [e, h1] at hp; cases hp), (fun e => by rw [e, h2] at hp; cases hp)⟩
theorem BagAt.put2 {H : Hp} {b l p : Addr} {o : HO} (h : BagAt H b l) (hp : p ≠ b ∧ p ≠ l) : BagAt (upd H p o) b l := by
  obtain ⟨ns, i, c, st, n, h1, h2, r⟩ := h
  exact ⟨ns, i, c, st, n, by rw [upd_ne (Ne.symm hp.1)]; exact h1, by rw [upd_ne (Ne.symm hp.2)]; exact h2, r⟩
theorem BagAt.same {H H' : Hp} {b l : Addr} (h : BagAt H b l) (s : Same H H') : BagAt H' b l := by
  obtain ⟨ns, i, c, st, n, h1, h2, r⟩ := h
  exact ⟨ns, i, c, st, n, s _ _ h1, s _ _ h2, r⟩
def spDraw : Sp := fun vs H Q _ => ∃ (b l : Addr) (many : Int), vs = [.ref b, .int many] ∧ BagAt H b l ∧ 0 < many ∧ Sm many ∧ ∀ (r : Int) (H' : Hp), 0 ≤ r → r < many → But (Nb b) H H' → BagAt H' b l → Q (.int r) H'
def spBag (K : PySem.W.Frag) : Sp := fun vs H Q _ => ∃ (a : Addr) (ns : List Int), vs = [.ref a] ∧ SqL K H a (ns.map V.int) ∧ ns.length ≤ 63 ∧ ∀ (b l : Addr) (H' : Hp), Same H H' → H b = none → BagAt H' b l → Q (.ref b) H'
theorem SqL.lst {K : PySem.W.Frag} {H : Hp} {a : Addr} {xs : List V} (h : H a = some (.lst xs)) : SqL K H a xs := SqL.of h
theorem SqT.tup {K : PySem.W.Frag} {H : Hp} {a : Addr} {xs : List V} (h : H a = some (.tup xs)) : SqT K H a xs := SqT.of h
theorem atI_some {α : Type} {xs : List α} {i : Int} {v : α} (h0 : 0 ≤ i) (h : xs[i.toNat]? = some v) : atI xs i = some v := by
  have e : i = ((i.toNat : Nat) : Int) := by omega
  rw [e]
  exact atI_nat h
theorem same_new {H : Hp} {p : Addr} {o : HO} (h : H p = none) : Same H (upd H p o) := fun b u q => by rw [upd_ne (ne_of_none q h)]; exact q
theorem But.ne {nb : Addr → Prop} {p q : Addr} {H H' : Hp} {o : HO} (x : But nb H H') (n : ¬ nb q) (h : H q = some o) (hp : H' p = none) : p ≠ q := fun e => by rw [e, x _ _ n h] at hp; cases hp

section
variable {nb : Addr → Prop} {H H' : Hp}
theorem IsDs.length : ∀ {ds : List PyData} {xs : List V}, IsDs nb H ds xs → xs.length = ds.length
  | [], _, h => by unfold IsDs at h; subst h; rfl
  | d :: ds, _, h => by unfold IsDs at h; obtain ⟨y, ys, rfl, _, h2⟩ := h; simp [IsDs.length h2]
theorem IsDs.get : ∀ {ds : List PyData} {xs : List V} {i : Nat} {d : PyData}, IsDs nb H ds xs → ds[i]? = some d → ∃ x, xs[i]? = some x ∧ IsD nb H d x
  | [], _, _, _, _, e => by simp at e
  | d :: ds, _, 0, _, h, e => by unfold IsDs at h; obtain ⟨y, ys, rfl, h1, h2⟩ := h; simp at e; subst e; exact ⟨y, rfl, h1⟩
  | d :: ds, _, i + 1, _, h, e => by unfold IsDs at h; obtain ⟨y, ys, rfl, h1, h2⟩ := h; simpa using IsDs.get (i := i) h2 (by simpa using e)
theorem IsDs.snoc {d : PyData} {x : V} (hd : IsD nb H d x) : ∀ {ds : List PyData} {xs : List V}, IsDs nb H ds xs → IsDs nb H (ds ++ [d]) (xs ++ [x])
  | [], _, h => by unfold IsDs at h; subst h; unfold IsDs; exact ⟨x, [], rfl, hd, by unfold IsDs; rfl⟩
  | e :: ds, _, h => by unfold IsDs at h; obtain ⟨y, ys, rfl, h1, h2⟩ := h; show IsDs nb H (e :: (ds ++ [d])) _; unfold IsDs; exact ⟨y, ys ++ [x], rfl, h1, IsDs.snoc hd h2⟩
theorem IsDs.append : ∀ {ds es : List PyData} {xs ys : List V}, IsDs nb H ds xs → IsDs nb H es ys → IsDs nb H (ds ++ es) (xs ++ ys)
  | [], _, _, _, h, h' => by unfold IsDs at h; subst h; exact h'
  | e :: ds, es, _, zs, h, h' => by unfold IsDs at h; obtain ⟨y, ys, rfl, h1, h2⟩ := h; show IsDs nb H (e :: (ds ++ es)) _; unfold IsDs; exact ⟨y, ys ++ zs, rfl, h1, IsDs.append h2 h'⟩
theorem IsDs.take : ∀ {ds : List PyData} {xs : List V} (n : Nat), IsDs nb H ds xs → IsDs nb H (ds.take n) (xs.take n)
  | _, _, 0, _ => by simp only [List.take_zero]; unfold IsDs; rfl
  | [], _, n + 1, h => by unfold IsDs at h; subst h; simp only [List.take_nil]; unfold IsDs; rfl
  | d :: ds, _, n + 1, h => by unfold IsDs at h; obtain ⟨y, ys, rfl, h1, h2⟩ := h; simp only [List.take_succ_cons]; unfold IsDs; exact ⟨y, _, rfl, h1, IsDs.take n h2⟩
theorem IsDs.drop : ∀ {ds : List PyData} {xs : List V} (n : Nat), IsDs nb H ds xs → IsDs nb H (ds.drop n) (xs.drop n)
  | _, _, 0, h => h
  | [], _, n + 1, h => by unfold IsDs at h; subst h; simp only [List.drop_nil]; unfold IsDs; rfl
  | d :: ds, _, n + 1, h => by unfold IsDs at h; obtain ⟨y, ys, rfl, h1, h2⟩ := h; simp only [List.drop_succ_cons]; exact IsDs.drop n h2
theorem IsDs.nil : IsDs nb H [] [] := by unfold IsDs; rfl
theorem IsDs.cons {d : PyData} {x : V} {ds : List PyData} {xs : List V} (h1 : IsD nb H d x) (h2 : IsDs nb H ds xs) : IsDs nb H (d :: ds) (x :: xs) := by unfold IsDs; exact ⟨x, xs, rfl, h1, h2⟩
theorem IsD.int (i : Int) : IsD nb H (.int i) (.int i) := by unfold IsD; rfl
theorem IsD.non : IsD nb H .none .non := by unfold IsD; rfl
theorem IsD.bl (b : Bool) : IsD nb H (.bool b) (.bl b) := by unfold IsD; rfl
theorem IsD.lst {a : Addr} {ds : List PyData} {xs : List V} (n : ¬ nb a) (h : H a = some (.lst xs)) (hd : IsDs nb H ds xs) : IsD nb H (.list ds) (.ref a) := by unfold IsD; exact ⟨a, xs, rfl, n, h, hd⟩
theorem IsD.tup {a : Addr} {ds : List PyData} {xs : List V} (n : ¬ nb a) (h : H a = some (.tup xs)) (hd : IsDs nb H ds xs) : IsD nb H (.tuple ds) (.ref a) := by unfold IsD; exact ⟨a, xs, rfl, n, h, hd⟩
theorem IsD.ofL {v : V} {ds : List PyData} (h : IsD nb H (.list ds) v) : ∃ a xs, v = .ref a ∧ ¬ nb a ∧ H a = some (.lst xs) ∧ IsDs nb H ds xs := by unfold IsD at h; exact h
theorem IsD.ofT {v : V} {ds : List PyData} (h : IsD nb H (.tuple ds) v) : ∃ a xs, v = .ref a ∧ ¬ nb a ∧ H a = some (.tup xs) ∧ IsDs nb H ds xs := by unfold IsD at h; exact h
theorem IsD.ofI {v : V} {i : Int} (h : IsD nb H (.int i) v) : v = .int i := by unfold IsD at h; exact h
theorem IsD.ofN {v : V} (h : IsD nb H .none v) : v = .non := by unfold IsD at h; exact h
end
def spWhole : Sp := fun vs H Q _ => ∃ i : Int, vs = [.int i] ∧ Q (.bl true) H
def spLaw (K : PySem.W.Frag) : Sp := fun vs H Q _ => ∃ (a : Addr) (ns : List Int), vs = [.ref a] ∧ SqL K H a (ns.map V.int) ∧ ns.length ≤ 63 ∧ ∀ H', Q (.bl true) H'
end L2

set_option maxRecDepth 100000
set_option maxHeartbeats 1000000
namespace L2
open PySem PySem.Spec PyProof.Rows
def mkL (Q : VK) : List V → Hp → Prop := fun xs H1 => xs.length ≤ sizeLine ∧ ∀ p, H1 p = none → Q (.ref p) (upd H1 p (.lst xs))
def rListOf (K : PySem.W.Frag) : List V → Hp → VK → Prop := fun xs H Q => ∃ p ys, xs = [.ref p] ∧ (SqL K H p ys ∨ SqT K H p ys) ∧ ∀ l, H l = none → Q (.ref l) (upd H l (.lst ys))
theorem call_listM {X : Cx} : CallR X (.type "list") (rListOf X.K) := call_list_of
def rIs : R2 := fun x y H Q => y = .non ∧ Q (.bl (decide (x = .non))) H
def constInts : List Expr → Option (List Int)
  | [] => some []
  | .Constant (.int i) _ _ :: r => (constInts r).map (i :: ·)
  | _ => none
def tInts (is : List Int) : TA := fun _ H Q => Q (is.map V.int) H
theorem pa_consts {X : Cx} : ∀ {es : List Expr} {is : List Int}, constInts es = some is → PA X es (tInts is)
  | [], is, h => by
    have e : is = [] := by simpa [constInts] using h.symm
    subst e
    exact pa_nil
  | .Constant (.int i) k p :: r, is, h => by
    unfold constInts at h
    obtain ⟨js, hj, rfl⟩ := Option.map_eq_some_iff.mp h
    exact pa_cons (te := tC (.int i)) (t := tInts js) pe_int (pa_consts hj)
theorem ps_setInts {X : Cx} {i : Nat} {x : Str} {es : List Expr} {is : List Int} {p1 p2 p3 : Pos} (hN : X.N.Nodup) (hi : X.N[i]? = some x) (hx : Loc X.env.scope x) (h : constInts es = some is) (hf : X.fn x = true ∨ X.env.scope.names.lookup x = some .local) :
    PS X (.Assign [.Name x p1] (.List es p2) p3) (tAsg (tLst (tInts is)) (gName i)) := ps_set hN hi hx (pe_lst (pa_consts h)) rfl hf
namespace R
section
variable {σ : St} {H : Hp} {Q : VK} {D : Ends} {ta tb te : TE} {K : PySem.W.Frag}
theorem seq {t u : TS} (h : t { D with nx := u D } σ H) : tSeq t u D σ H := h
theorem asg {g : TG} (h : te σ H fun x H1 => g x σ H1 D.nx) : tAsg te g D σ H := h
theorem ifS {c : TT} {t u : TS} (h : c σ H fun b H1 => if b = true then t D σ H1 else u D σ H1) : tIfS c t u D σ H := h
theorem ret (h : te σ H D.rt) : tRet te D σ H := h
theorem next (h : D.nx σ H) : tNext D σ H := h
theorem var {i : Nat} {v : V} (e : σ[i]? = some (some v)) (h : Q v H) : tVar i σ H Q := ⟨v, e, h⟩
theorem c {v : V} (h : Q v H) : tC v σ H Q := h
theorem op {r : R2} (h : ta σ H fun x H1 => tb σ H1 fun y H2 => r x y H2 Q) : tOp r ta tb σ H Q := h
theorem test {q : Bool → Hp → Prop} (h : te σ H fun x H' => ∃ k, x = .bl k ∧ q k H') : tTest te σ H q := h
theorem bl {P : Bool → Prop} {b : Bool} (h : P b) : ∃ k, V.bl b = .bl k ∧ P k := ⟨b, rfl, h⟩
theorem and {t u : TT} {q : Bool → Hp → Prop} (h : t σ H fun c H1 => if c = true then u σ H1 q else q false H1) : tAnd t u σ H q := h
theorem ifE {t : TT} (h : t σ H fun c H1 => if c = true then ta σ H1 Q else tb σ H1 Q) : tIf t ta tb σ H Q := h
theorem cb {r : List V → Hp → VK → Prop} {t : TA} (h : t σ H fun vs H1 => r vs H1 Q) : tCB r t σ H Q := h
theorem call {sp : Sp} {t : TA} (h : t σ H fun vs H1 => sp (vs ++ []) H1 Q E0) : tCall sp [] E0 t σ H Q := h
theorem cints {is : List Int} {q : List V → Hp → Prop} (h : q (is.map V.int) H) : tInts is σ H q := h
theorem nil {q : List V → Hp → Prop} (h : q [] H) : tNil σ H q := h
theorem cons {t : TA} {q : List V → Hp → Prop} (h : ta σ H fun x H1 => t σ H1 fun xs H2 => q (x :: xs) H2) : tCons ta t σ H q := h
theorem lst {t : TA} (h : t σ H (mkL Q)) : tLst t σ H Q := h
theorem sl {r : V → Option Int → Option Int → Hp → VK → Prop} {tl th : TO} (h : te σ H fun x H1 => tl σ H1 fun l H2 => th σ H2 fun u H3 => r x l u H3 Q) : tSl r te tl th σ H Q := h
theorem noPart {q : Option Int → Hp → Prop} (h : q none H) : tNoPart σ H q := h
theorem part {q : Option Int → Hp → Prop} (h : te σ H fun x H1 => ∃ i, x = .int i ∧ q (some i) H1) : tPart te σ H q := h
theorem partI {P : Int → Prop} {i : Int} (h : P i) : ∃ j, V.int i = .int j ∧ P j := ⟨i, rfl, h⟩
theorem gname {i : Nat} {v : V} {q : St → Hp → Prop} (h : q (σ.set i (some v)) H) : gName i v σ H q := h
theorem gsub {to ti : TE} {t : TSet} {v : V} {q : St → Hp → Prop} (h : to σ H fun o H1 => ti σ H1 fun i H2 => t o i v H2 fun H3 => q σ H3) : gSub to ti t v σ H q := h
theorem noTest {q : Bool → Hp → Prop} (h : q true H) : tNoTest σ H q := h
theorem rI0 {g : Int → Int → V} {i j : Int} (h : Q (g i j) H) : L2.rI0 g (.int i) (.int j) H Q := ⟨i, j, rfl, rfl, h⟩
theorem rI {C : Int → Int → Prop} {g : Int → Int → V} {i j : Int} (hc : C i j) (h : Q (g i j) H) : L2.rI C g (.int i) (.int j) H Q := ⟨i, j, rfl, rfl, hc, h⟩
theorem dec_i {i j : Int} : decide (V.int i = V.int j) = decide (i = j) := by rw [Bool.eq_iff_iff]; simp
theorem eqI {i j : Int} (h : Q (.bl (decide (i = j))) H) : rEq (.int i) (.int j) H Q := ⟨rfl, by rw [dec_i]; exact h⟩
theorem isN (h : Q (.bl true) H) : rIs .non .non H Q := ⟨rfl, by rw [decide_eq_true rfl]; exact h⟩
theorem ixM {p : Addr} {xs : List V} {i : Int} {v : V} (hp : H p = some (.lst xs)) (e : atI xs i = some v) (h : Q v H) : rIxL K (.ref p) (.int i) H Q := ⟨p, xs, i, v, rfl, rfl, SqL.of hp, e, h⟩
theorem ixS {p : Addr} {o : HO} {xs : List V} {i : Int} {v : V} (e : atI xs i = some v) (h : Q v (upd H p (.lst xs))) : rIxL K (.ref p) (.int i) (upd H p (.lst xs)) Q := ⟨p, xs, i, v, rfl, rfl, SqL.of upd_same, e, h⟩
theorem setM {p : Addr} {xs : List V} {k : Int} {j : Nat} {v : V} {q : Hp → Prop} (hp : H p = some (.lst xs)) (e : ixN xs.length k = some j) (h : q (upd H p (.lst (xs.set j v)))) : rSetL (.ref p) (.int k) v H q := ⟨p, xs, k, j, rfl, rfl, hp, e, h⟩
theorem setS {p : Addr} {xs : List V} {k : Int} {j : Nat} {v : V} {q : Hp → Prop} (e : ixN xs.length k = some j) (h : q (upd H p (.lst (xs.set j v)))) : rSetL (.ref p) (.int k) v (upd H p (.lst xs)) q :=
  ⟨p, xs, k, j, rfl, rfl, upd_same, e, by rw [upd_upd]; exact h⟩
theorem lenM {p : Addr} {xs : List V} {P : List V → Prop} (hp : H p = some (.lst xs)) (h : P xs) : ∃ a ys, [V.ref p] = [.ref a] ∧ (SqL K H a ys ∨ SqT K H a ys) ∧ P ys := ⟨p, xs, rfl, .inl (SqL.of hp), h⟩
theorem slL {p : Addr} {xs : List V} {lo hi : Option Int} (hp : SqL K H p xs) (h : ∀ a, H a = none → Q (.ref a) (upd H a (.lst (cutV xs lo hi)))) : rSlL K (.ref p) lo hi H Q := ⟨p, xs, rfl, hp, h⟩
theorem abs1 {a : Int} {P : Int → Prop} (h : P a) : ∃ i, [V.int a] = [.int i] ∧ P i := ⟨a, rfl, h⟩
theorem lstA {xs : List V} (h : xs.length ≤ 10000) (q : ∀ p H', Same H H' → H p = none → H' p = some (.lst xs) → Q (.ref p) H') : mkL Q xs H :=
  ⟨Nat.le_trans h (by decide), fun p hp => q p _ (same_new hp) hp upd_same⟩
theorem catA {l b : Addr} {xs zs : List V} (h1 : H l = some (.lst xs)) (h2 : H b = some (.lst zs)) (hz : xs.length + zs.length ≤ 10000) (q : ∀ p H', Same H H' → H p = none → H' p = some (.lst (xs ++ zs)) → Q (.ref p) H') : rCat (.ref l) (.ref b) H Q :=
  ⟨l, b, xs, zs, rfl, rfl, h1, h2, Nat.le_trans hz (by decide), fun p hp => q p _ (same_new hp) hp upd_same⟩
theorem iteP {c A B : Prop} [Decidable c] (h : c) (q : A) : if c then A else B := by rw [if_pos h]; exact q
theorem iteN {c A B : Prop} [Decidable c] (h : ¬ c) (q : B) : if c then A else B := by rw [if_neg h]; exact q
theorem dT {c : Prop} [Decidable c] (h : c) : decide c = true := decide_eq_true h
theorem dF {c : Prop} [Decidable c] (h : ¬ c) : ¬ decide c = true := by rw [decide_eq_false h]; exact Bool.false_ne_true
theorem dTn {c : Prop} [Decidable c] (h : ¬ c) : (!decide c) = true := by rw [decide_eq_false h]; rfl
theorem dFn {c : Prop} [Decidable c] (h : c) : ¬ (!decide c) = true := by rw [decide_eq_true h]; decide
theorem rng2 {t : TA} {R : It → Hp → Prop} (h : t σ H fun vs H1 => ∃ i j : Int, vs = [.int i, .int j] ∧ (-(2 ^ 62) ≤ i ∧ i < 2 ^ 62 ∧ -(2 ^ 62) ≤ j ∧ j < 2 ^ 62) ∧ R (Itr i (j - i).toNat) H1) : iRng2 t σ H R := h
theorem rng2I {P : Int → Int → Prop} {a b : Int} (h1 : -(2 ^ 62) ≤ a ∧ a < 2 ^ 62 ∧ -(2 ^ 62) ≤ b ∧ b < 2 ^ 62) (h : P a b) : ∃ i j : Int, [V.int a, V.int b] = [.int i, .int j] ∧ (-(2 ^ 62) ≤ i ∧ i < 2 ^ 62 ∧ -(2 ^ 62) ≤ j ∧ j < 2 ^ 62) ∧ P i j := ⟨a, b, rfl, h1, h⟩
theorem iL {tl : TE} {R : It → Hp → Prop} (h : tl σ H fun x H1 => ∃ a, x = .ref a ∧ (∃ xs, SqL K H1 a xs) ∧ R (Itl K a) H1) : iList K tl σ H R := h
theorem iL1 {P : Addr → Prop} {p : Addr} {xs : List V} (hp : SqL K H p xs) (h : P p) : ∃ a, V.ref p = .ref a ∧ (∃ xs, SqL K H a xs) ∧ P a := ⟨p, rfl, ⟨xs, hp⟩, h⟩
theorem for_ {wi : TI} {g : TG} {tb : TS} (h : wi σ H fun J H1 => ∃ W : Nat → Nat → St → Hp → Prop, (∃ m, W 0 m σ H1) ∧ ∀ i m σ H, W i m σ H →
  (J.stop i H ∧ D.nx σ H) ∨ (J.go i H ∧ ∃ N : St → Hp → Prop, (∀ σ' H', N σ' H' → ∃ m', m' < m ∧ W (i + 1) m' σ' H') ∧ ∀ x H', J.yld i H x H' → g x σ H' fun σ2 H2 => tb { D with nx := N, ct := N, bk := D.nx } σ2 H2)) : tFor wi g tb D σ H := h
theorem comp {wi : TI} {g : TG} {tc : TT} {mp : List (Option Nat)} (h : wi σ H fun J H1 => ∀ acc, H1 acc = none → CompW J g tc te acc (fun H' => Q (.ref acc) H') (startC mp σ) (upd H1 acc (.lst []))) : tComp wi g tc te mp σ H Q := h
end

theorem comp_range {lo : Int} {n : Nat} {g : TG} {tc : TT} {te : TE} {acc : Addr} {Qe : Hp → Prop} {σ : St} {H : Hp} (Pv : Nat → St → Hp → Prop) (h0 : Pv 0 σ H)
    (hs : ∀ i σ H, i < n → Pv i σ H → g (.int (lo + i)) σ H fun σ2 H2 => tc σ2 H2 fun b H3 => if b = true then te σ2 H3 fun v H4 => ∃ ys, H4 acc = some (.lst ys) ∧ ys.length < sizeLine ∧ Pv (i + 1) σ2 (upd H4 acc (.lst (ys ++ [v]))) else Pv (i + 1) σ2 H3)
    (hd : ∀ σ H, Pv n σ H → Qe H) : CompW (Itr lo n) g tc te acc Qe σ H := by
  refine ⟨fun i m σ H => m = n - i ∧ i ≤ n ∧ Pv i σ H, ⟨n, by simp, Nat.zero_le _, h0⟩, ?_⟩
  rintro i m σ H ⟨rfl, hi, p⟩
  by_cases hlt : i < n
  · refine .inr ⟨hlt, Pv (i + 1), fun σ' H' p' => ⟨n - (i + 1), by omega, rfl, hlt, p'⟩, fun x H' y => ?_⟩
    obtain ⟨e, y⟩ := y
    subst e y
    exact hs i σ _ hlt p
  · have e : i = n := by omega
    subst e
    exact .inl ⟨Nat.le_refl _, hd σ H p⟩
theorem comp_list {K : PySem.W.Frag} {a : Addr} {xs : List V} {g : TG} {tc : TT} {te : TE} {acc : Addr} {Qe : Hp → Prop} {σ : St} {H : Hp} (Pv : Nat → St → Hp → Prop) (h0 : Pv 0 σ H) (hl : ∀ i σ H, i ≤ xs.length → Pv i σ H → SqL K H a xs)
    (hs : ∀ i x σ H, xs[i]? = some x → Pv i σ H → g x σ H fun σ2 H2 => tc σ2 H2 fun b H3 => if b = true then te σ2 H3 fun v H4 => ∃ ys, H4 acc = some (.lst ys) ∧ ys.length < sizeLine ∧ Pv (i + 1) σ2 (upd H4 acc (.lst (ys ++ [v]))) else Pv (i + 1) σ2 H3)
    (hd : ∀ σ H, Pv xs.length σ H → Qe H) : CompW (Itl K a) g tc te acc Qe σ H := by
  refine ⟨fun i m σ H => m = xs.length - i ∧ i ≤ xs.length ∧ Pv i σ H, ⟨xs.length, by simp, Nat.zero_le _, h0⟩, ?_⟩
  rintro i m σ H ⟨rfl, hi, p⟩
  have q := hl i σ H hi p
  by_cases hlt : i < xs.length
  · refine .inr ⟨⟨xs, xs[i], q, by simp [hlt]⟩, Pv (i + 1), fun σ' H' p' => ⟨xs.length - (i + 1), by omega, rfl, hlt, p'⟩, fun x H' y => ?_⟩
    obtain ⟨e, y⟩ := y
    subst e
    exact hs i x σ _ (y xs q) p
  · have e : i = xs.length := by omega
    subst e
    exact .inl ⟨⟨xs, q, Nat.le_refl _⟩, hd σ H p⟩
end R
end L2

set_option maxRecDepth 100000
set_option maxHeartbeats 1000000
namespace L2
open PySem PySem.Spec PyProof.Rows
@[reducible] def pairD (pr : Int × Int) : PyData := .tuple [.int pr.1, .int pr.2]
def optD : Option Int → PyData
  | none => .none
  | some i => .int i
def termOf (wd : List (Option Int)) (pr : Int × Int) : Int := match wd[pr.1.toNat]? with
  | some (some x) => pr.2 * x
  | _ => 0
def dueSum (prs : List (Int × Int)) (wd : List (Option Int)) : Int := (prs.map (termOf wd)).sum
theorem isD_pair {nb : Addr → Prop} {H : Hp} {pr : Int × Int} {v : V} (h : IsD nb H (pairD pr) v) : ∃ t, v = .ref t ∧ ¬ nb t ∧ H t = some (.tup [.int pr.1, .int pr.2]) := by
  obtain ⟨t, xs, rfl, n, ht, hd⟩ := h.ofT
  unfold IsDs at hd
  obtain ⟨y, ys, rfl, h1, h2⟩ := hd
  unfold IsDs at h2
  obtain ⟨z, zs, rfl, h3, h4⟩ := h2
  unfold IsDs at h4
  subst h4
  rw [h1.ofI, h3.ofI] at ht
  exact ⟨t, rfl, n, ht⟩
theorem shaped_pairs (prs : List (Int × Int)) : SeqAt.shaped (.list (prs.map pairD)) = true ∧ PyData.depthAll (prs.map pairD) ≤ 1 ∧ PyData.canLayAll0 (prs.map pairD) = true := by
  have h : PyData.depthAll (prs.map pairD) ≤ 1 ∧ PyData.canLayAll0 (prs.map pairD) = true := by
    induction prs with
    | nil => simp [PyData.depthAll, PyData.canLayAll0]
    | cons a r ih => simp [pairD, PyData.depthAll, PyData.depth, PyData.canLayAll0, PyData.canLay0, ih.2]; have := ih.1; omega
  refine ⟨?_, h⟩
  unfold SeqAt.shaped
  simp [PyData.canLay0, PyData.depth, h.2]
  omega
theorem shaped_word (wd : List (Option Int)) : PyData.depthAll (wd.map optD) = 0 ∧ PyData.canLayAll0 (wd.map optD) = true := by
  induction wd with
  | nil => simp [PyData.depthAll, PyData.canLayAll0]
  | cons a r ih => cases a <;> simp [optD, PyData.depthAll, PyData.depth, PyData.canLayAll0, PyData.canLay0, ih.2, ih.1]

def NoDiv (r : Int) : Prop := ∀ d : Int, 2 ≤ d → d * d ≤ r → r % d ≠ 0
def primeList : List Int := [2, 3, 5, 7, 2, 11, 101, 10007, 65537, 1000003, 998244353, 1000000007, 2147483647, 1000000000039, 1000000000000000003, 18446744073709551557, 2305843009213693951, 618970019642690137449562111, 162259276829213363391578010288127, 170141183460469231731687303715884105727, 1000000000000000000000000000000000000003, 9999999999999999999999999999999999999983]
def IsP (p : Int) : Prop := 2 ≤ p ∧ p < 10 ^ 40 ∧ (p ∈ primeList ∨ NoDiv p)
def spPrimeFrom : Sp := fun vs H Q _ => ∃ n : Int, vs = [.int n] ∧ 2 ≤ n ∧ n ≤ 10002 ∧ ∀ (r : Int) (H' : Hp), Same H H' → 2 ≤ r → r ≤ 10100 → NoDiv r → Q (.int r) H'
def spPrime : Sp := fun vs H Q _ => ∃ (b l : Addr), vs = [.ref b] ∧ BagAt H b l ∧ ∀ (p : Int) (H' : Hp), IsP p → But (Nb b) H H' → BagAt H' b l → Q (.int p) H'
theorem isDs_intsL {nb : Addr → Prop} {H : Hp} : ∀ is : List Int, IsDs nb H (is.map PyData.int) (is.map V.int)
  | [] => IsDs.nil
  | i :: is => IsDs.cons (.int i) (isDs_intsL is)
theorem isDs_ints_eq {nb : Addr → Prop} {H : Hp} : ∀ {is : List Int} {xs : List V}, IsDs nb H (is.map PyData.int) xs → xs = is.map V.int
  | [], _, h => by unfold List.map IsDs at h; exact h
  | i :: is, _, h => by
    rw [List.map_cons] at h
    unfold IsDs at h
    obtain ⟨y, ys, rfl, h1, h2⟩ := h
    rw [List.map_cons, h1.ofI, isDs_ints_eq h2]
end L2

set_option maxRecDepth 100000
set_option maxHeartbeats 1000000
namespace L2
open PySem PySem.Spec PyProof.Rows
abbrev Bg := Option (Addr × Addr)
def NB (B : Bg) (a : Addr) : Prop := ∀ b l, B = some (b, l) → a ≠ b
def BagOk (B : Bg) (H : Hp) : Prop := ∀ b l, B = some (b, l) → BagAt H b l
structure Gx where
  B : Bg
  H0 : Hp
  A : Addr → Prop
  hold : List (Bool × PyData × V) := []
def Live (nb : Addr → Prop) (H : Hp) : Prop := ∀ a, nb a → H a ≠ none
inductive Sl where
  | no | d (f : Bool) (d : PyData) | own (a : Addr) (f : Bool) (ds : List PyData) | bag | raw (v : V) | dic (a : Addr) (f : Bool) (ks : List (Int × PyData))
@[reducible] def kvD (p : Int × PyData) : PyData × PyData := (.int p.1, p.2)
abbrev Rh := List Sl
def Gx.S (G : Gx) (nb : Addr → Prop) (f : Bool) : Addr → Prop := fun a => nb a ∨ G.A a ∨ ¬ NB G.B a ∨ (f = true ∧ G.H0 a ≠ none)
def SlOk (G : Gx) (nb : Addr → Prop) (H : Hp) (x : Option V) : Sl → Prop
  | .no => True
  | .d f d => ∃ v, x = some v ∧ IsD (G.S nb f) H d v
  | .own a f ds => x = some (.ref a) ∧ nb a ∧ NB G.B a ∧ ∃ xs, H a = some (.lst xs) ∧ IsDs (G.S nb f) H ds xs
  | .bag => ∃ b l, G.B = some (b, l) ∧ x = some (.ref b)
  | .raw v => x = some v
  | .dic a f ks => x = some (.ref a) ∧ nb a ∧ NB G.B a ∧ ∃ ps, H a = some (.dK ps) ∧ IsKs (G.S nb f) H (ks.map kvD) ps
structure Wd (G : Gx) (nb : Addr → Prop) (ρ : Rh) (σ : St) (H : Hp) : Prop where
  bag : BagOk G.B H
  live : Live nb H
  old : ∀ a o, NB G.B a → G.H0 a = some o → H a = some o
  nbo : ∀ a, nb a → NB G.B a → G.H0 a = none
  gA : Live G.A G.H0
  len : σ.length = ρ.length
  gB : BagOk G.B G.H0
  hld : ∀ h ∈ G.hold, IsD (G.S nb h.1) H h.2.1 h.2.2
  ok : ∀ (i : Nat) (s : Sl), ρ[i]? = some s → ∃ x, σ[i]? = some x ∧ SlOk G nb H x s
  apart : ∀ (i j : Nat) a f as c g cs, i ≠ j → ρ[i]? = some (.own a f as) → ρ[j]? = some (.own c g cs) → a ≠ c
  apd : ∀ (i j : Nat) a f as c g cs, i ≠ j → ρ[i]? = some (.dic a f as) → ρ[j]? = some (.dic c g cs) → a ≠ c
def Step (B : Bg) (H H' : Hp) : Prop := (∀ a o, NB B a → H a = some o → H' a = some o) ∧ BagOk B H'
section
variable {G : Gx} {B : Bg} {nb : Addr → Prop} {ρ : Rh} {σ : St} {H H1 H2 H' : Hp} {f g : Bool} {d : PyData} {ds : List PyData} {v : V} {xs : List V} {a p : Addr}
theorem Step.refl (h : BagOk B H) : Step B H H := ⟨fun _ _ _ e => e, h⟩
theorem Step.trans (x : Step B H H1) (y : Step B H1 H2) : Step B H H2 := ⟨fun a o n e => y.1 a o n (x.1 a o n e), y.2⟩
theorem BagOk.same (h : BagOk B H) (s : Same H H') : BagOk B H' := fun b l e => (h b l e).same s
theorem Step.same (h : BagOk B H) (s : Same H H') : Step B H H' := ⟨fun a o _ e => s a o e, h.same s⟩
theorem Step.but {nb' : Addr → Prop} (s : Step B H H') (h : ∀ a, ¬ NB B a → nb' a) : But nb' H H' := fun a o n e => s.1 a o (Classical.byContradiction fun z => n (h a z)) e
theorem Step.butS (s : Step G.B H H') : But (G.S nb f) H H' := s.but fun a h => .inr (.inr (.inl h))
theorem S_mono (h : g = true → f = true) {nb' : Addr → Prop} (hn : ∀ a, nb a → nb' a) : ∀ a, G.S nb g a → G.S nb' f a := by
  intro a z
  rcases z with z | z | z | ⟨z, q⟩
  · exact .inl (hn a z)
  · exact .inr (.inl z)
  · exact .inr (.inr (.inl z))
  · exact .inr (.inr (.inr ⟨h z, q⟩))
theorem NB.bag_live (h : BagOk B H) (n : ¬ NB B a) : H a ≠ none := by
  intro e
  apply n
  intro b l hb z
  subst z
  obtain ⟨_, _, _, _, _, h1, _⟩ := h _ _ hb
  rw [h1] at e; cases e
theorem Wd.liveS (W : Wd G nb ρ σ H) : Live (G.S nb f) H := by
  intro a z
  rcases z with z | z | z | ⟨_, z⟩
  · exact W.live a z
  · by_cases n : NB G.B a
    · cases e : G.H0 a with
      | none => exact absurd e (W.gA a z)
      | some o => rw [W.old a o n e]; exact Option.some_ne_none _
    · exact NB.bag_live W.bag n
  · exact NB.bag_live W.bag z
  · by_cases n : NB G.B a
    · cases e : G.H0 a with
      | none => exact absurd e z
      | some o => rw [W.old a o n e]; exact Option.some_ne_none _
    · exact NB.bag_live W.bag n
theorem Wd.fresh (W : Wd G nb ρ σ H) (hp : H p = none) : ¬ G.S nb f p := fun z => W.liveS p z hp
theorem SlOk.step {x : Option V} {s : Sl} (st : Step G.B H H') (h : SlOk G nb H x s) : SlOk G nb H' x s := by
  cases s with
  | no => trivial
  | d f d => obtain ⟨v, e, h⟩ := h; exact ⟨v, e, h.keep st.butS⟩
  | own a f ds => obtain ⟨e, n, q, xs, hx, hd⟩ := h; exact ⟨e, n, q, xs, st.1 _ _ q hx, hd.keep st.butS⟩
  | bag => exact h
  | raw v => exact h
  | dic a f ks => obtain ⟨e, n, q, xs, hx, hd⟩ := h; exact ⟨e, n, q, xs, st.1 _ _ q hx, hd.keep st.butS⟩
theorem ne_none_keep (n : NB B a) (st : Step B H H') (h : H a ≠ none) : H' a ≠ none := by
  cases e : H a with
  | none => exact absurd e h
  | some o => rw [st.1 a o n e]; exact Option.some_ne_none _
theorem Wd.step (W : Wd G nb ρ σ H) (st : Step G.B H H') : Wd G nb ρ σ H' where
  bag := st.2
  live := fun a n => by
    by_cases q : NB G.B a
    · exact ne_none_keep q st (W.live a n)
    · exact NB.bag_live st.2 q
  old := fun a o n e => st.1 a o n (W.old a o n e)
  nbo := W.nbo
  gA := W.gA
  len := W.len
  gB := W.gB
  hld := fun h m => (W.hld h m).keep st.butS
  ok := fun i s e => by
    obtain ⟨x, e1, h⟩ := W.ok i s e
    exact ⟨x, e1, h.step st⟩
  apart := W.apart
  apd := W.apd
theorem Wd.set {i : Nat} {s : Sl} {x : Option V} (W : Wd G nb ρ σ H) (h : SlOk G nb H x s) (hs : ∀ a f ds, s = .own a f ds → ∀ j c g cs, j ≠ i → ρ[j]? = some (.own c g cs) → a ≠ c) (hd : ∀ a f ds, s = .dic a f ds → ∀ j c g cs, j ≠ i → ρ[j]? = some (.dic c g cs) → a ≠ c := by intro _ _ _ z; cases z) : Wd G nb (ρ.set i s) (σ.set i x) H where
  bag := W.bag
  live := W.live
  old := W.old
  nbo := W.nbo
  gA := W.gA
  len := by rw [List.length_set, List.length_set]; exact W.len
  gB := W.gB
  hld := W.hld
  ok := fun j t e => by
    by_cases hij : i = j
    · subst hij
      have hl : i < ρ.length := by have := (List.getElem?_eq_some_iff.mp e).1; rwa [List.length_set] at this
      rw [List.getElem?_set_self hl] at e
      cases e
      exact ⟨x, List.getElem?_set_self (by rw [W.len]; exact hl), h⟩
    · rw [List.getElem?_set_ne hij] at e ⊢
      exact W.ok j t e
  apart := fun j k a f as c g cs hjk e1 e2 => by
    by_cases hj : i = j
    · subst hj
      have hl : i < ρ.length := by have := (List.getElem?_eq_some_iff.mp e1).1; rwa [List.length_set] at this
      rw [List.getElem?_set_self hl] at e1
      cases e1
      rw [List.getElem?_set_ne hjk] at e2
      exact hs a f as rfl k c g cs (Ne.symm hjk) e2
    · by_cases hk : i = k
      · subst hk
        have hl : i < ρ.length := by have := (List.getElem?_eq_some_iff.mp e2).1; rwa [List.length_set] at this
        rw [List.getElem?_set_self hl] at e2
        cases e2
        rw [List.getElem?_set_ne hj] at e1
        exact (hs c g cs rfl j a f as hjk e1).symm
      · rw [List.getElem?_set_ne hj] at e1
        rw [List.getElem?_set_ne hk] at e2
        exact W.apart j k a f as c g cs hjk e1 e2
  apd := fun j k a f as c g cs hjk e1 e2 => by
    by_cases hj : i = j
    · subst hj
      have hl : i < ρ.length := by have := (List.getElem?_eq_some_iff.mp e1).1; rwa [List.length_set] at this
      rw [List.getElem?_set_self hl] at e1
      cases e1
      rw [List.getElem?_set_ne hjk] at e2
      exact hd a f as rfl k c g cs (Ne.symm hjk) e2
    · by_cases hk : i = k
      · subst hk
        have hl : i < ρ.length := by have := (List.getElem?_eq_some_iff.mp e2).1; rwa [List.length_set] at this
        rw [List.getElem?_set_self hl] at e2
        cases e2
        rw [List.getElem?_set_ne hj] at e1
        exact (hd c g cs rfl j a f as hjk e1).symm
      · rw [List.getElem?_set_ne hj] at e1
        rw [List.getElem?_set_ne hk] at e2
        exact W.apd j k a f as c g cs hjk e1 e2
theorem Wd.setD {i : Nat} (W : Wd G nb ρ σ H) (h : IsD (G.S nb f) H d v) : Wd G nb (ρ.set i (.d f d)) (σ.set i (some v)) H := W.set ⟨v, rfl, h⟩ fun _ _ _ e => by cases e
inductive Wk : Rh → Rh → Prop
  | nil : Wk [] []
  | no {s : Sl} {r r' : Rh} (h : Wk r r') : Wk (.no :: r) (s :: r')
  | eq {s : Sl} {r r' : Rh} (h : Wk r r') : Wk (s :: r) (s :: r')
theorem Wk.at : ∀ {r r' : Rh} {i : Nat} {s : Sl}, Wk r r' → r[i]? = some s → s = .no ∧ (∃ t, r'[i]? = some t) ∨ r'[i]? = some s
  | _, _, _, _, .nil, e => by simp at e
  | _, _, 0, _, .no h, e => by simp at e; subst e; exact .inl ⟨rfl, _, rfl⟩
  | _, _, 0, _, .eq h, e => by simp at e; subst e; exact .inr rfl
  | _, _, i + 1, _, .no h, e => by simpa using Wk.at (i := i) h (by simpa using e)
  | _, _, i + 1, _, .eq h, e => by simpa using Wk.at (i := i) h (by simpa using e)
theorem Wk.len {r r' : Rh} (h : Wk r r') : r.length = r'.length := by
  induction h with
  | nil => rfl
  | no _ ih => simp [ih]
  | eq _ ih => simp [ih]
theorem Wd.wk {ρ' : Rh} (W : Wd G nb ρ' σ H) (h : Wk ρ ρ') : Wd G nb ρ σ H where
  bag := W.bag
  live := W.live
  old := W.old
  nbo := W.nbo
  gA := W.gA
  len := by rw [h.len]; exact W.len
  gB := W.gB
  hld := W.hld
  ok := fun i s e => by
    rcases h.at e with ⟨rfl, t, e'⟩ | e'
    · obtain ⟨x, e1, _⟩ := W.ok i t e'; exact ⟨x, e1, trivial⟩
    · exact W.ok i s e'
  apart := fun i j a f as c g cs hij e1 e2 => by
    rcases h.at e1 with ⟨z, _⟩ | e1'
    · cases z
    rcases h.at e2 with ⟨z, _⟩ | e2'
    · cases z
    exact W.apart i j a f as c g cs hij e1' e2'
  apd := fun i j a f as c g cs hij e1 e2 => by
    rcases h.at e1 with ⟨z, _⟩ | e1'
    · cases z
    rcases h.at e2 with ⟨z, _⟩ | e2'
    · cases z
    exact W.apd i j a f as c g cs hij e1' e2'
theorem Wd.more (W : Wd G nb ρ σ H) (hp : H p = none) {o : HO} : Wd G (fun a => nb a ∨ a = p) ρ σ (upd H p o) := by
  have hS : Same H (upd H p o) := same_new hp
  have hN : NB G.B p := fun b l e z => by
    subst z
    obtain ⟨_, _, _, _, _, h1, _⟩ := W.bag _ _ e
    rw [h1] at hp; cases hp
  have W' := W.step (Step.same W.bag hS)
  have hA : ∀ f a, G.S (fun a => nb a ∨ a = p) f a → (G.S nb f a ∨ a = p) := fun f a z => by
    rcases z with (z | z) | z | z | z
    · exact .inl (.inl z)
    · exact .inr z
    · exact .inl (.inr (.inl z))
    · exact .inl (.inr (.inr (.inl z)))
    · exact .inl (.inr (.inr (.inr z)))
  refine ⟨W'.bag, fun a n => ?_, W'.old, fun a n q => ?_, W.gA, W.len, W.gB, fun h m => (((W.hld h m).fresh hp).av (hA h.1)).keep (But.of hS), fun i s e => ?_, W.apart, W.apd⟩
  · rcases n with n | n
    · exact W'.live a n
    · subst n; rw [upd_same]; exact Option.some_ne_none _
  · rcases n with n | n
    · exact W.nbo a n q
    · subst n
      cases e : G.H0 a with
      | none => rfl
      | some o => rw [W.old a o q e] at hp; cases hp
  · obtain ⟨x, e1, h⟩ := W.ok i s e
    refine ⟨x, e1, ?_⟩
    cases s with
    | no => trivial
    | d f d => obtain ⟨v, e, h⟩ := h; exact ⟨v, e, ((h.fresh hp).av (hA f)).keep (But.of hS)⟩
    | own a f ds => obtain ⟨e, n, q, xs, hx, hd⟩ := h; exact ⟨e, .inl n, q, xs, hS _ _ hx, ((hd.fresh hp).av (hA f)).keep (But.of hS)⟩
    | bag => exact h
    | raw v => exact h
    | dic a f ds => obtain ⟨e, n, q, xs, hx, hd⟩ := h; exact ⟨e, .inl n, q, xs, hS _ _ hx, ((hd.fresh hp).av (hA f)).keep (But.of hS)⟩
theorem Wd.write (W : Wd G nb ρ σ H) {o : HO} (hp : nb p) (hN : NB G.B p) (ho : ∀ (i : Nat) a f ds, ρ[i]? = some (.own a f ds) → a ≠ p) (hod : ∀ (i : Nat) a f ds, ρ[i]? = some (.dic a f ds) → a ≠ p) : Wd G nb ρ σ (upd H p o) := by
  have hl : ∀ b l, G.B = some (b, l) → p ≠ l := fun b l e z => by
    obtain ⟨_, _, _, _, _, _, h2, _⟩ := W.gB b l e
    rw [← z, W.nbo p hp hN] at h2; cases h2
  have hB : BagOk G.B (upd H p o) := fun b l e => (W.bag b l e).put2 ⟨hN b l e, hl b l e⟩
  have bt : ∀ f, But (G.S nb f) H (upd H p o) := fun f => But.set (.inl hp)
  refine ⟨hB, fun a n => ?_, fun a o' n e => ?_, W.nbo, W.gA, W.len, W.gB, fun h m => (W.hld h m).keep (bt h.1), fun i s e => ?_, W.apart, W.apd⟩
  · by_cases z : a = p
    · subst z; rw [upd_same]; exact Option.some_ne_none _
    · rw [upd_ne z]; exact W.live a n
  · have z : a ≠ p := fun z => by subst z; rw [W.nbo a hp n] at e; cases e
    rw [upd_ne z]; exact W.old a o' n e
  · obtain ⟨x, e1, h⟩ := W.ok i s e
    refine ⟨x, e1, ?_⟩
    cases s with
    | no => trivial
    | d f d => obtain ⟨v, e, h⟩ := h; exact ⟨v, e, h.keep (bt f)⟩
    | own a f ds => obtain ⟨e', n, q, xs, hx, hd⟩ := h; exact ⟨e', n, q, xs, by rw [upd_ne (ho i a f ds e)]; exact hx, hd.keep (bt f)⟩
    | bag => exact h
    | raw v => exact h
    | dic a f ds => obtain ⟨e', n, q, xs, hx, hd⟩ := h; exact ⟨e', n, q, xs, by rw [upd_ne (hod i a f ds e)]; exact hx, hd.keep (bt f)⟩
end
end L2

set_option maxRecDepth 100000
set_option maxHeartbeats 1000000
namespace L2
open PySem PySem.Spec PyProof.Rows
abbrev Pd := Bool → PyData → Prop
def Ev (G : Gx) (ρ : Rh) (te : TE) (Φ : Pd) : Prop := ∀ nb σ H (Q : VK), Wd G nb ρ σ H → (∀ f v H' d, Φ f d → Step G.B H H' → IsD (G.S nb f) H' d v → Q v H') → te σ H Q
def EvN (G : Gx) (ρ : Rh) (te : TE) (Φ : Bool → List PyData → Prop) : Prop := ∀ nb σ H (Q : VK), Wd G nb ρ σ H →
  (∀ f a xs H' ds, Φ f ds → Step G.B H H' → H a = none → H' a = some (.lst xs) → IsDs (fun x => G.S nb f x ∨ x = a) H' ds xs → Q (.ref a) H') → te σ H Q
def Tv (G : Gx) (ρ : Rh) (tt : TT) (Φ : Bool → Prop) : Prop := ∀ nb σ H (Q : Bool → Hp → Prop), Wd G nb ρ σ H → (∀ b H', Φ b → Step G.B H H' → Q b H') → tt σ H Q
def Ov (G : Gx) (ρ : Rh) (to : TO) (Φ : Option Int → Prop) : Prop := ∀ nb σ H (Q : Option Int → Hp → Prop), Wd G nb ρ σ H → (∀ o H', Φ o → Step G.B H H' → Q o H') → to σ H Q
abbrev Fd := Bool × PyData
def IsF (G : Gx) (nb : Addr → Prop) (H : Hp) : List Fd → List V → Prop
  | [], vs => vs = []
  | e :: es, vs => ∃ v ws, vs = v :: ws ∧ IsD (G.S nb e.1) H e.2 v ∧ IsF G nb H es ws
def Av (G : Gx) (ρ : Rh) (ta : TA) (Φ : List Fd → Prop) : Prop := ∀ nb σ H (Q : List V → Hp → Prop), Wd G nb ρ σ H → (∀ es vs H', Φ es → Step G.B H H' → IsF G nb H' es vs → Q vs H') → ta σ H Q
def Gv (G : Gx) (ρ : Rh) (g : TG) (f : Bool) (d : PyData) (Φ : Rh → Prop) : Prop := ∀ nb σ H v (Q : St → Hp → Prop), Wd G nb ρ σ H → IsD (G.S nb f) H d v → (∀ σ' ρ', Φ ρ' → Wd G nb ρ' σ' H → Q σ' H) → g v σ H Q
def Gvs (G : Gx) (ρ : Rh) (g : TGs) (f : Bool) (ds : List PyData) (Φ : Rh → Prop) : Prop := ∀ nb σ H vs (Q : St → Hp → Prop), Wd G nb ρ σ H → IsDs (G.S nb f) H ds vs → (∀ σ' ρ', Φ ρ' → Wd G nb ρ' σ' H → Q σ' H) → g vs σ H Q
structure DE where
  nx : Rh → Prop
  rt : Pd
  bk : Rh → Prop := fun _ => False
  ct : Rh → Prop := fun _ => False
structure EndsOk (G : Gx) (E : DE) (D : Ends) : Prop where
  nx : ∀ nb ρ σ H, E.nx ρ → Wd G nb ρ σ H → D.nx σ H
  bk : ∀ nb ρ σ H, E.bk ρ → Wd G nb ρ σ H → D.bk σ H
  ct : ∀ nb ρ σ H, E.ct ρ → Wd G nb ρ σ H → D.ct σ H
  rt : ∀ nb ρ σ f v H d, E.rt f d → Wd G nb ρ σ H → IsD (G.S (fun _ => False) f) H d v → D.rt v H
def Sv (G : Gx) (ρ : Rh) (ts : TS) (E : DE) : Prop := ∀ nb σ H D, Wd G nb ρ σ H → EndsOk G E D → ts D σ H
def scB : PyData → Bool
  | .none => true | .bool _ => true | .int _ => true | .str _ => true | _ => false
def toV : PyData → V
  | .bool b => .bl b | .int i => .int i | .str x => .str x | _ => .non
section
variable {nb nb' : Addr → Prop} {H H' : Hp} {d e : PyData} {v : V}
theorem IsD.sc (h : scB d = true) : IsD nb H d (toV d) := by
  cases d <;> first | (cases h; done) | (unfold IsD; rfl)
theorem IsD.scEq (h : scB d = true) (q : IsD nb H d v) : v = toV d := by
  cases d <;> first | (cases h; done) | (unfold IsD at q; exact q)
theorem IsD.scAny (h : scB d = true) (q : IsD nb H d v) : IsD nb' H' d v := by
  rw [q.scEq h]; exact .sc h
theorem IsDs.scAny : ∀ {ds : List PyData} {xs : List V}, ds.all scB = true → IsDs nb H ds xs → IsDs nb' H' ds xs
  | [], _, _, q => by unfold IsDs at q ⊢; exact q
  | d :: ds, _, h, q => by
    rw [List.all_cons, Bool.and_eq_true] at h
    unfold IsDs at q ⊢
    obtain ⟨y, ys, e, h1, h2⟩ := q
    exact ⟨y, ys, e, h1.scAny h.1, IsDs.scAny h.2 h2⟩
end
section
variable {G : Gx} {ρ : Rh} {Φ Ψ : Pd} {ta tb te : TE} {t : TA} {i : Nat} {f g : Bool} {d e : PyData} {ds es : List PyData} {K : PySem.W.Frag}
theorem Ev.mono (h : Ev G ρ te Ψ) (q : ∀ f d, Ψ f d → Φ f d) : Ev G ρ te Φ := fun nb σ H Q W z => h nb σ H Q W fun f v H' d p => z f v H' d (q f d p)
theorem EvN.ev (h : EvN G ρ te fun f ds => Φ f (.list ds)) : Ev G ρ te Φ := fun nb σ H Q W z => h nb σ H Q W fun f a xs H' ds p st n e hd =>
  z f _ H' _ p st (.lst (W.fresh n) e (hd.av fun _ x => .inl x))
namespace Ev
theorem var (e : ρ[i]? = some (.d f d)) (h : Φ f d) : Ev G ρ (tVar i) Φ := fun nb σ H Q W z => by
  obtain ⟨x, e1, v, rfl, hd⟩ := W.ok i _ e
  exact ⟨v, e1, z f v H d h (.refl W.bag) hd⟩
theorem int {n : Int} (h : Φ true (.int n)) : Ev G ρ (tC (.int n)) Φ := fun nb σ H Q W z => z true _ H _ h (.refl W.bag) (.int n)
theorem bl {b : Bool} (h : Φ true (.bool b)) : Ev G ρ (tC (.bl b)) Φ := fun nb σ H Q W z => z true _ H _ h (.refl W.bag) (.bl b)
theorem non (h : Φ true .none) : Ev G ρ (tC .non) Φ := fun nb σ H Q W z => z true _ H _ h (.refl W.bag) .non
theorem op2 {r : R2} (h : Ev G ρ ta fun f x => Ev G ρ tb fun g y => ∀ nb σ H u v (Q : VK), Wd G nb ρ σ H → IsD (G.S nb f) H x u → IsD (G.S nb g) H y v → (∀ f w H' d, Φ f d → Step G.B H H' → IsD (G.S nb f) H' d w → Q w H') → r u v H Q) : Ev G ρ (tOp r ta tb) Φ := fun nb σ H Q W z =>
  h nb σ H _ W fun f v1 H1 d1 p1 s1 q1 => p1 nb σ H1 _ (W.step s1) fun g v2 H2 d2 p2 s2 q2 => p2 nb σ H2 _ _ _ ((W.step s1).step s2) (q1.keep s2.butS) q2 fun f w H' d p st q => z f w H' d p (s1.trans (s2.trans st)) q
theorem rI {C : Int → Int → Prop} {k : Int → Int → Int} (h : Ev G ρ ta fun _ x => ∃ i, x = .int i ∧ Ev G ρ tb fun _ y => ∃ j, y = .int j ∧ C i j ∧ Φ true (.int (k i j))) : Ev G ρ (tOp (L2.rI C fun i j => .int (k i j)) ta tb) Φ :=
  op2 (h.mono fun f x ⟨i, ex, q⟩ => q.mono fun g y ⟨j, ey, hc, p⟩ nb σ H u v Q W hu hv z => by
    subst ex ey; exact ⟨i, j, hu.ofI, hv.ofI, hc, z true _ H _ p (.refl W.bag) (.int _)⟩)
theorem rI0 {k : Int → Int → Int} (h : Ev G ρ ta fun _ x => ∃ i, x = .int i ∧ Ev G ρ tb fun _ y => ∃ j, y = .int j ∧ Φ true (.int (k i j))) : Ev G ρ (tOp (L2.rI0 fun i j => .int (k i j)) ta tb) Φ :=
  op2 (h.mono fun f x ⟨i, ex, q⟩ => q.mono fun g y ⟨j, ey, p⟩ nb σ H u v Q W hu hv z => by
    subst ex ey; exact ⟨i, j, hu.ofI, hv.ofI, z true _ H _ p (.refl W.bag) (.int _)⟩)
theorem rB0 {k : Int → Int → Bool} (h : Ev G ρ ta fun _ x => ∃ i, x = .int i ∧ Ev G ρ tb fun _ y => ∃ j, y = .int j ∧ Φ true (.bool (k i j))) : Ev G ρ (tOp (L2.rI0 fun i j => .bl (k i j)) ta tb) Φ :=
  op2 (h.mono fun f x ⟨i, ex, q⟩ => q.mono fun g y ⟨j, ey, p⟩ nb σ H u v Q W hu hv z => by
    subst ex ey; exact ⟨i, j, hu.ofI, hv.ofI, z true _ H _ p (.refl W.bag) (.bl _)⟩)
theorem un {r : V → Hp → VK → Prop} (h : Ev G ρ ta fun f x => ∀ nb σ H u (Q : VK), Wd G nb ρ σ H → IsD (G.S nb f) H x u → (∀ f w H' d, Φ f d → Step G.B H H' → IsD (G.S nb f) H' d w → Q w H') → r u H Q) : Ev G ρ (tUn r ta) Φ := fun nb σ H Q W z =>
  h nb σ H _ W fun f v1 H1 d1 p1 s1 q1 => p1 nb σ H1 _ _ (W.step s1) q1 fun f w H' d p st q => z f w H' d p (s1.trans st) q
theorem rU {k : Int → Int} (h : Ev G ρ ta fun _ x => ∃ i, x = .int i ∧ Φ true (.int (k i))) : Ev G ρ (tUn (L2.rU fun i => .int (k i)) ta) Φ :=
  un (h.mono fun f x ⟨i, ex, p⟩ nb σ H u Q W hu z => by subst ex; exact ⟨i, hu.ofI, z true _ H _ p (.refl W.bag) (.int _)⟩)
end Ev
inductive EqD : PyData → PyData → Bool → Prop
  | ii (i j : Int) : EqD (.int i) (.int j) (decide (i = j))
  | ni (i : Int) : EqD .none (.int i) false
  | i_n (i : Int) : EqD (.int i) .none false
  | nn : EqD .none .none true
  | bb (a b : Bool) : EqD (.bool a) (.bool b) (a == b)
  | ss (x : Str) : EqD (.str x) (.str x) true
  | sd (x y : Str) : EqD (.str x) (.str y) (decide (x = y))
theorem EqD.v {nb nb' : Addr → Prop} {H : Hp} {x y : PyData} {b : Bool} {u v : V} (h : EqD x y b) (hu : IsD nb H x u) (hv : IsD nb' H y v) : scal u v = true ∧ decide (u = v) = b := by
  cases h <;> (unfold IsD at hu hv; subst hu hv; refine ⟨rfl, ?_⟩)
  · exact R.dec_i
  · rfl
  · rfl
  · rfl
  · rename_i a b; cases a <;> cases b <;> rfl
  · exact decide_eq_true rfl
  · rename_i x y
    by_cases c : x = y
    · subst c; rw [decide_eq_true rfl, decide_eq_true rfl]
    · rw [decide_eq_false c, decide_eq_false (fun z => c (V.str.inj z))]
theorem EqD.self {d : PyData} (h : scB d = true) : EqD d d true := by
  cases d <;> first | (cases h; done) | skip
  · exact .nn
  · rename_i b; have := EqD.bb b b; rwa [beq_self_eq_true] at this
  · rename_i i; have := EqD.ii i i; rwa [decide_eq_true rfl] at this
  · exact .ss _
namespace Ev
theorem eq (h : Ev G ρ ta fun _ x => Ev G ρ tb fun _ y => ∃ b, EqD x y b ∧ Φ true (.bool b)) : Ev G ρ (tOp rEq ta tb) Φ :=
  op2 (h.mono fun f x q => q.mono fun g y ⟨b, e, p⟩ nb σ H u v Q W hu hv z => by
    obtain ⟨h1, h2⟩ := e.v hu hv
    exact ⟨h1, by rw [h2]; exact z true _ H _ p (.refl W.bag) (.bl _)⟩)
theorem ne (h : Ev G ρ ta fun _ x => Ev G ρ tb fun _ y => ∃ b, EqD x y b ∧ Φ true (.bool !b)) : Ev G ρ (tOp rNe ta tb) Φ :=
  op2 (h.mono fun f x q => q.mono fun g y ⟨b, e, p⟩ nb σ H u v Q W hu hv z => by
    obtain ⟨h1, h2⟩ := e.v hu hv
    exact ⟨h1, by rw [h2]; exact z true _ H _ p (.refl W.bag) (.bl _)⟩)
theorem eqD {ng : Bool} (h : Ev G ρ ta fun _ x => Ev G ρ tb fun _ y => SeqAt.shaped x = true ∧ SeqAt.shaped y = true ∧ Φ true (.bool (PyData.eqv x y != ng))) : Ev G ρ (tOp (rEqD ng) ta tb) Φ :=
  op2 (h.mono fun f x q => q.mono fun g y ⟨h1, h2, p⟩ nb σ H u v Q W hu hv z =>
    ⟨G.S nb false, x, y, hu.av (S_mono (fun z => by cases z) fun _ z => z), hv.av (S_mono (fun z => by cases z) fun _ z => z), h1, h2, z true _ H _ p (.refl W.bag) (.bl _)⟩)
end Ev
def isN : PyData → Bool
  | .none => true
  | _ => false
theorem isN_v {nb : Addr → Prop} {H : Hp} {d : PyData} {v : V} (h : IsD nb H d v) : decide (v = .non) = isN d := by
  cases d <;> unfold IsD at h
  all_goals first
    | (subst h; rfl)
    | (obtain ⟨a, xs, rfl, _⟩ := h; rfl)
    | exact h.elim
namespace Ev
theorem is (h : Ev G ρ ta fun _ x => Φ true (.bool (isN x))) : Ev G ρ (tOp rIs ta (tC .non)) Φ :=
  op2 (h.mono fun f x p => Ev.non fun nb σ H u v Q W hu hv z => ⟨hv.ofN, by rw [isN_v hu]; exact z true _ H _ p (.refl W.bag) (.bl _)⟩)
end Ev
theorem IsDs.atI {nb : Addr → Prop} {H : Hp} {ds : List PyData} {xs : List V} {k : Int} {e : PyData} (h : IsDs nb H ds xs) (q : L2.atI ds k = some e) : ∃ v, L2.atI xs k = some v ∧ IsD nb H e v := by
  unfold L2.atI at q ⊢
  rw [h.length]
  cases z : ixN ds.length k with
  | none => rw [z] at q; cases q
  | some j => rw [z] at q; exact h.get q
namespace Ev
theorem ixL (h : Ev G ρ ta fun f x => ∃ ds, x = .list ds ∧ Ev G ρ tb fun _ y => ∃ k, y = .int k ∧ ∃ e, atI ds k = some e ∧ Φ f e) : Ev G ρ (tOp (rIxL K) ta tb) Φ :=
  op2 (h.mono fun f x ⟨ds, ex, q⟩ => q.mono fun g y ⟨k, ey, e, he, p⟩ nb σ H u v Q W hu hv z => by
    subst ex ey
    obtain ⟨a, xs, rfl, n, hx, hd⟩ := hu.ofL
    obtain ⟨w, hw, hD⟩ := hd.atI he
    exact ⟨a, xs, k, w, rfl, hv.ofI, .of hx, hw, z f _ H _ p (.refl W.bag) hD⟩)
theorem ixT (h : Ev G ρ ta fun f x => ∃ ds, x = .tuple ds ∧ Ev G ρ tb fun _ y => ∃ k, y = .int k ∧ ∃ e, atI ds k = some e ∧ Φ f e) : Ev G ρ (tOp (rIxT K) ta tb) Φ :=
  op2 (h.mono fun f x ⟨ds, ex, q⟩ => q.mono fun g y ⟨k, ey, e, he, p⟩ nb σ H u v Q W hu hv z => by
    subst ex ey
    obtain ⟨a, xs, rfl, n, hx, hd⟩ := hu.ofT
    obtain ⟨w, hw, hD⟩ := hd.atI he
    exact ⟨a, xs, k, w, rfl, hv.ofI, .of hx, hw, z f _ H _ p (.refl W.bag) hD⟩)
theorem ixOwn {a : Addr} (e : ρ[i]? = some (.own a f ds)) (h : Ev G ρ tb fun _ y => ∃ k, y = .int k ∧ ∃ e, atI ds k = some e ∧ Φ f e) : Ev G ρ (tOp (rIxL K) (tVar i) tb) Φ := fun nb σ H Q W z => by
  obtain ⟨x, e1, h1, h2, h3, xs, hx, hd⟩ := W.ok i _ e
  subst h1
  refine ⟨.ref a, e1, h nb σ H _ W fun g w H1 y ⟨k, ey, e', he, p⟩ s1 hv => ?_⟩
  subst ey
  obtain ⟨u, hu, hD⟩ := (hd.keep s1.butS).atI he
  exact ⟨a, xs, k, u, rfl, hv.ofI, .of (s1.1 _ _ h3 hx), hu, z f _ H1 _ p s1 hD⟩
theorem andV (h : Ev G ρ ta fun _ x => ∃ b, x = .bool b ∧ if b = true then Ev G ρ tb Φ else Φ true (.bool false)) : Ev G ρ (tAndV ta tb) Φ := fun nb σ H Q W z =>
  h nb σ H _ W fun f v H1 d ⟨b, e, q⟩ s1 hv => by
    subst e
    refine ⟨b, by unfold IsD at hv; exact hv, ?_⟩
    cases b with
    | true => rw [if_pos rfl] at q ⊢; exact q nb σ H1 _ (W.step s1) fun f v H' d p st => z f v H' d p (s1.trans st)
    | false => rw [if_neg Bool.false_ne_true] at q ⊢; exact z true _ H1 _ q s1 (.bl false)
theorem ifE {c : TT} (h : Tv G ρ c fun b => if b = true then Ev G ρ ta Φ else Ev G ρ tb Φ) : Ev G ρ (tIf c ta tb) Φ := fun nb σ H Q W z =>
  h nb σ H _ W fun b H1 q s1 => by
    cases b with
    | true => rw [if_pos rfl] at q ⊢; exact q nb σ H1 _ (W.step s1) fun f v H' d p st => z f v H' d p (s1.trans st)
    | false => rw [if_neg Bool.false_ne_true] at q ⊢; exact q nb σ H1 _ (W.step s1) fun f v H' d p st => z f v H' d p (s1.trans st)
end Ev
namespace Tv
variable {Θ : Bool → Prop} {t u : TT}
theorem test (h : Ev G ρ te fun _ x => ∃ b, x = .bool b ∧ Θ b) : Tv G ρ (tTest te) Θ := fun nb σ H Q W z =>
  h nb σ H _ W fun f v H1 d ⟨b, e, q⟩ s1 hv => by subst e; exact ⟨b, by unfold IsD at hv; exact hv, z b H1 q s1⟩
theorem and (h : Tv G ρ t fun b => if b = true then Tv G ρ u Θ else Θ false) : Tv G ρ (tAnd t u) Θ := fun nb σ H Q W z =>
  h nb σ H _ W fun b H1 q s1 => by
    cases b with
    | true => rw [if_pos rfl] at q ⊢; exact q nb σ H1 _ (W.step s1) fun b H' p st => z b H' p (s1.trans st)
    | false => rw [if_neg Bool.false_ne_true] at q ⊢; exact z false H1 q s1
theorem or (h : Tv G ρ t fun b => if b = true then Θ true else Tv G ρ u Θ) : Tv G ρ (tOr t u) Θ := fun nb σ H Q W z =>
  h nb σ H _ W fun b H1 q s1 => by
    cases b with
    | false => rw [if_neg Bool.false_ne_true] at q ⊢; exact q nb σ H1 _ (W.step s1) fun b H' p st => z b H' p (s1.trans st)
    | true => rw [if_pos rfl] at q ⊢; exact z true H1 q s1
theorem not (h : Tv G ρ t fun b => Θ (!b)) : Tv G ρ (tNot t) Θ := fun nb σ H Q W z => h nb σ H _ W fun b H1 q s1 => z _ H1 q s1
theorem noTest (h : Θ true) : Tv G ρ tNoTest Θ := fun nb σ H Q W z => z true H h (.refl W.bag)
end Tv
def tTruth (K : PySem.W.Frag) (ta : TE) : TT := fun σ H Q => ta σ H fun x H1 => ∃ k, TruV K x H1 k ∧ Q k H1
theorem Tv.truB {Θ : Bool → Prop} (h : Ev G ρ te fun _ x => ∃ b, x = .bool b ∧ Θ b) : Tv G ρ (tTruth K te) Θ := fun nb σ H Q W z =>
  h nb σ H _ W fun f v H1 d ⟨b, e, q⟩ s1 hv => by subst e; exact ⟨b, by unfold IsD at hv; subst hv; rfl, z b H1 q s1⟩
namespace Av
variable {Θ : List Fd → Prop}
theorem nil (h : Θ []) : Av G ρ tNil Θ := fun nb σ H Q W z => z [] [] H h (.refl W.bag) rfl
theorem cons (h : Ev G ρ te fun f d => Av G ρ t fun es => Θ ((f, d) :: es)) : Av G ρ (tCons te t) Θ := fun nb σ H Q W z =>
  h nb σ H _ W fun f v H1 d p1 s1 q1 => p1 nb σ H1 _ (W.step s1) fun es vs H2 p2 s2 q2 => z _ _ H2 p2 (s1.trans s2) ⟨v, vs, rfl, q1.keep s2.butS, q2⟩
end Av
def allF (es : List Fd) : Bool := es.all (·.1)
theorem IsF.all {nb : Addr → Prop} {H : Hp} : ∀ {es : List Fd} {vs : List V} {f : Bool}, IsF G nb H es vs → (f = true → allF es = true) → IsDs (G.S nb f) H (es.map (·.2)) vs
  | [], _, _, h, _ => by unfold IsF at h; subst h; exact .nil
  | e :: es, _, f, h, hf => by
    obtain ⟨v, ws, rfl, h1, h2⟩ := h
    refine .cons (h1.av (S_mono (fun z => ?_) fun _ z => z)) (h2.all fun z => ?_)
    · have := hf z; simp only [allF, List.all_cons, Bool.and_eq_true] at this; exact this.1
    · have := hf z; simp only [allF, List.all_cons, Bool.and_eq_true] at this; exact this.2
theorem IsF.len {nb : Addr → Prop} {H : Hp} {es : List Fd} {vs : List V} (h : IsF G nb H es vs) : vs.length = es.length := by
  have := (h.all (f := false) (fun z => by cases z)).length
  simpa using this
namespace Ev
theorem tup (h : Av G ρ t fun es => es.length ≤ 10000 ∧ Φ (allF es) (.tuple (es.map (·.2)))) : Ev G ρ (tTup t) Φ := fun nb σ H Q W z =>
  h nb σ H _ W fun es vs H1 ⟨hl, p⟩ s1 q1 => ⟨Nat.le_trans (by rw [q1.len]; exact hl) (by decide), fun a ha => z _ _ _ _ p (s1.trans (.same (W.step s1).bag (same_new ha)))
    (.tup ((W.step s1).fresh ha) upd_same ((q1.all fun z => z).keep (But.of (same_new ha))))⟩
end Ev
theorem EvN.lst {Φ : Bool → List PyData → Prop} (h : Av G ρ t fun es => es.length ≤ 10000 ∧ Φ (allF es) (es.map (·.2))) : EvN G ρ (tLst t) Φ := fun nb σ H Q W z =>
  h nb σ H _ W fun es vs H1 ⟨hl, p⟩ s1 q1 => ⟨Nat.le_trans (by rw [q1.len]; exact hl) (by decide), fun a ha => by
    have W1 := W.step s1
    refine z _ a vs _ _ p (s1.trans (.same W1.bag (same_new ha))) ?_ upd_same (((q1.all fun z => z).fresh ha).keep (But.of (same_new ha)))
    cases e : H a with
    | none => rfl
    | some o => 
      by_cases n : NB G.B a
      · rw [s1.1 a o n e] at ha; cases ha
      · exact absurd ha (NB.bag_live s1.2 n)⟩
theorem Ev.lst (h : Av G ρ t fun es => es.length ≤ 10000 ∧ Φ (allF es) (.list (es.map (·.2)))) : Ev G ρ (tLst t) Φ := (EvN.lst (Φ := fun f ds => Φ f (.list ds)) h).ev
end
end L2

set_option maxRecDepth 100000
set_option maxHeartbeats 1000000
namespace L2
open PySem PySem.Spec PyProof.Rows
def rLen (K : PySem.W.Frag) : List V → Hp → VK → Prop := fun xs H Q => ∃ p ys, xs = [.ref p] ∧ (SqL K H p ys ∨ SqT K H p ys) ∧ Q (.int ys.length) H
theorem call_lenM {X : Cx} : CallR X (.builtin "len") (rLen X.K) := call_len_seq
def rInt : List V → Hp → VK → Prop := fun xs H Q => (∃ i, xs = [.int i] ∧ Q (.int i) H) ∨ ∃ k, xs = [.bl k] ∧ Q (.int (if k then 1 else 0)) H
theorem call_intM {X : Cx} : CallR X (.type "int") rInt := call_int1
def scAll (ds : List PyData) : Bool := ds.all scB
section
variable {G : Gx} {ρ : Rh} {Φ Ψ : Pd} {ta tb te : TE} {t : TA} {i : Nat} {f g : Bool} {d e : PyData} {ds es : List PyData} {K : PySem.W.Frag}
theorem Wd.none_of {nb : Addr → Prop} {σ : St} {H H1 : Hp} {a : Addr} (W : Wd G nb ρ σ H) (s1 : Step G.B H H1) (ha : H1 a = none) : H a = none := by
  cases e : H a with
  | none => rfl
  | some o =>
    by_cases n : NB G.B a
    · rw [s1.1 a o n e] at ha; cases ha
    · exact absurd ha (NB.bag_live s1.2 n)
theorem EvN.fin {nb : Addr → Prop} {σ : St} {H H1 : Hp} {Q : VK} {Φ : Bool → List PyData → Prop} {a : Addr} {xs : List V} (W : Wd G nb ρ σ H) (s1 : Step G.B H H1) (ha : H1 a = none) (hd : IsDs (G.S nb f) H1 ds xs) (p : Φ (f || scAll ds) ds)
    (z : ∀ f a xs H' ds, Φ f ds → Step G.B H H' → H a = none → H' a = some (.lst xs) → IsDs (fun x => G.S nb f x ∨ x = a) H' ds xs → Q (.ref a) H') : Q (.ref a) (upd H1 a (.lst xs)) := by
  refine z _ a xs _ ds p (s1.trans (.same s1.2 (same_new ha))) (W.none_of s1 ha) upd_same ?_
  cases hs : scAll ds with
  | true => exact IsDs.scAny hs hd
  | false => rw [Bool.or_false]; exact (hd.fresh ha).keep (But.of (same_new ha))
namespace Ov
variable {Θ : Option Int → Prop}
theorem none (h : Θ none) : Ov G ρ tNoPart Θ := fun nb σ H Q W z => z _ H h (.refl W.bag)
theorem some (h : Ev G ρ te fun _ x => ∃ k, x = .int k ∧ Θ (some k)) : Ov G ρ (tPart te) Θ := fun nb σ H Q W z =>
  h nb σ H _ W fun f v H1 d ⟨k, e, q⟩ s1 hv => by subst e; exact ⟨k, hv.ofI, z _ H1 q s1⟩
end Ov
namespace EvN
variable {Θ : Bool → List PyData → Prop}
theorem listOf (h : Ev G ρ te fun f x => ∃ ds, (x = .list ds ∨ x = .tuple ds) ∧ Θ (f || scAll ds) ds) : EvN G ρ (tCB (rListOf K) (tCons te tNil)) Θ := fun nb σ H Q W z =>
  h nb σ H _ W fun f v H1 d ⟨ds, e, q⟩ s1 hv => by
    rcases e with e | e
    · subst e
      obtain ⟨a, xs, rfl, n, hx, hd⟩ := hv.ofL
      exact ⟨a, xs, rfl, .inl (.of hx), fun p hp => EvN.fin W s1 hp hd q z⟩
    · subst e
      obtain ⟨a, xs, rfl, n, hx, hd⟩ := hv.ofT
      exact ⟨a, xs, rfl, .inr (.of hx), fun p hp => EvN.fin W s1 hp hd q z⟩
theorem cat (h : Ev G ρ ta fun f x => ∃ ds, x = .list ds ∧ Ev G ρ tb fun g y => ∃ es, y = .list es ∧ ds.length + es.length ≤ 10000 ∧ Θ ((f && g) || scAll (ds ++ es)) (ds ++ es)) : EvN G ρ (tOp rCat ta tb) Θ := fun nb σ H Q W z =>
  h nb σ H _ W fun f v H1 d ⟨ds, e, q⟩ s1 hv => q nb σ H1 _ (W.step s1) fun g u H2 d2 ⟨es, e2, hl, p⟩ s2 hu => by
    subst e e2
    obtain ⟨a, xs, rfl, n, hx, hd⟩ := (hv.keep s2.butS).ofL
    obtain ⟨c, ys, rfl, m, hy, hc⟩ := hu.ofL
    refine ⟨a, c, xs, ys, rfl, rfl, hx, hy, Nat.le_trans (by rw [hd.length, hc.length]; exact hl) (by decide), fun p' hp => EvN.fin (f := f && g) W (s1.trans s2) hp ?_ p z⟩
    exact IsDs.append (hd.av (S_mono (fun z => (Bool.and_eq_true _ _ ▸ z).1) fun _ z => z)) (hc.av (S_mono (fun z => (Bool.and_eq_true _ _ ▸ z).2) fun _ z => z))
end EvN
namespace Ev
theorem listOf (h : Ev G ρ te fun f x => ∃ ds, (x = .list ds ∨ x = .tuple ds) ∧ Φ (f || scAll ds) (.list ds)) : Ev G ρ (tCB (rListOf K) (tCons te tNil)) Φ := (EvN.listOf (Θ := fun f ds => Φ f (.list ds)) h).ev
theorem cat (h : Ev G ρ ta fun f x => ∃ ds, x = .list ds ∧ Ev G ρ tb fun g y => ∃ es, y = .list es ∧ ds.length + es.length ≤ 10000 ∧ Φ ((f && g) || scAll (ds ++ es)) (.list (ds ++ es))) : Ev G ρ (tOp rCat ta tb) Φ := (EvN.cat (Θ := fun f ds => Φ f (.list ds)) h).ev
theorem lenOwn {a : Addr} (e : ρ[i]? = some (.own a f ds)) (h : Φ true (.int ds.length)) : Ev G ρ (tCB (rLen K) (tCons (tVar i) tNil)) Φ := fun nb σ H Q W z => by
  obtain ⟨x, e1, h1, h2, h3, xs, hx, hd⟩ := W.ok i _ e
  subst h1
  exact ⟨.ref a, e1, a, xs, rfl, .inl (.of hx), by rw [hd.length]; exact z true _ H _ h (.refl W.bag) (.int _)⟩
theorem intB (h : Ev G ρ ta fun _ x => ∃ b, x = .bool b ∧ Φ true (.int (if b then 1 else 0))) : Ev G ρ (tCB rInt (tCons ta tNil)) Φ := fun nb σ H Q W z =>
  h nb σ H _ W fun f v H1 d ⟨b, e, q⟩ s1 hv => by subst e; unfold IsD at hv; subst hv; exact .inr ⟨b, rfl, z true _ H1 _ q s1 (.int _)⟩
end Ev
abbrev DF := List PyData → Pd → Prop
def spD (n : Nat) (F : DF) : Sp := fun vs H Q _ => vs.length = n ∧ ∃ (nb : Addr → Prop) (ds : List PyData), Live nb H ∧ IsDs nb H ds vs ∧ F ds fun f d => ∀ v H', Same H H' → IsD (fun a => nb a ∨ (f = true ∧ H a ≠ none)) H' d v → Q v H'
def spB (n : Nat) (F : DF) : Sp := fun vs H Q _ => vs.length = n ∧ ∃ (b l : Addr) (ws : List V) (nb : Addr → Prop) (ds : List PyData), vs = .ref b :: ws ∧ BagAt H b l ∧ Live nb H ∧ nb b ∧ IsDs nb H ds ws ∧
  F ds fun f d => ∀ v H', But (Nb b) H H' → BagAt H' b l → IsD (fun a => nb a ∨ (f = true ∧ H a ≠ none)) H' d v → Q v H'
def MonoF (F : DF) : Prop := ∀ ds (Φ Ψ : Pd), F ds Φ → (∀ f d, Φ f d → Ψ f d) → F ds Ψ
theorem Ev.callD {n : Nat} {F : DF} (hm : MonoF F) (h : Av G ρ t fun es => es.length = n ∧ F (es.map (·.2)) fun f d => Φ (f || allF es) d) : Ev G ρ (tCall (spD n F) [] E0 t) Φ := fun nb σ H Q W z =>
  h nb σ H _ W fun es vs H1 ⟨hl, p⟩ s1 q1 => by
    have W1 := W.step s1
    rw [List.append_nil]
    refine ⟨by rw [q1.len, hl], G.S nb (allF es), es.map (·.2), W1.liveS, q1.all fun z => z, hm _ _ _ p fun f d hp v H' sm hd => z _ v H' d hp (s1.trans (.same W1.bag sm)) (hd.av fun a q => ?_)⟩
    cases f with
    | false => rw [Bool.false_or] at q; exact .inl q
    | true => exact .inr ⟨rfl, W1.liveS a q⟩
theorem Step.ofBut {b l : Addr} {H H' : Hp} (hB : G.B = some (b, l)) (bt : But (Nb b) H H') (B' : BagAt H' b l) : Step G.B H H' :=
  ⟨fun a o n e => bt a o (n b l hB) e, fun b' l' e => by rw [hB] at e; cases e; exact B'⟩
theorem Wd.theBag {nb : Addr → Prop} {σ : St} {H : Hp} (W : Wd G nb ρ σ H) (e : ρ[i]? = some .bag) : ∃ b l, G.B = some (b, l) ∧ σ[i]? = some (some (.ref b)) ∧ BagAt H b l := by
  obtain ⟨x, e1, b, l, hB, rfl⟩ := W.ok i _ e
  exact ⟨b, l, hB, e1, W.bag b l hB⟩
theorem Ev.callB {n : Nat} {F : DF} (hm : MonoF F) (e : ρ[i]? = some .bag) (h : Av G ρ t fun es => es.length + 1 = n ∧ F (es.map (·.2)) fun f d => Φ (f || allF es) d) : Ev G ρ (tCall (spB n F) [] E0 (tCons (tVar i) t)) Φ := fun nb σ H Q W z => by
  obtain ⟨b, l, hB, e1, B⟩ := W.theBag e
  refine ⟨.ref b, e1, h nb σ H _ W fun es vs H1 ⟨hl, p⟩ s1 q1 => ?_⟩
  have W1 := W.step s1
  show spB n F ((V.ref b :: vs) ++ []) H1 Q E0
  rw [List.append_nil]
  have hb : ∀ f, G.S nb f b := fun f => .inr (.inr (.inl fun n => n b l hB rfl))
  refine ⟨by rw [List.length_cons, q1.len, hl], b, l, vs, G.S nb (allF es), es.map (·.2), rfl, W1.bag b l hB, W1.liveS, hb _, q1.all fun z => z, hm _ _ _ p fun f d hp v H' bt B' hd => z _ v H' d hp (s1.trans (.ofBut hB bt B')) (hd.av fun a q => ?_)⟩
  cases f with
  | false => rw [Bool.false_or] at q; exact .inl q
  | true => exact .inr ⟨rfl, W1.liveS a q⟩
theorem Ev.draw (e : ρ[i]? = some .bag) (h : Ev G ρ te fun _ x => ∃ m : Int, x = .int m ∧ 0 < m ∧ Sm m ∧ ∀ r : Int, 0 ≤ r → r < m → Φ true (.int r)) : Ev G ρ (tCall spDraw [] E0 (tCons (tVar i) (tCons te tNil))) Φ := fun nb σ H Q W z => by
  obtain ⟨b, l, hB, e1, B⟩ := W.theBag e
  refine ⟨.ref b, e1, h nb σ H _ W fun f v H1 d ⟨m, ed, h1, h2, p⟩ s1 hv => ?_⟩
  subst ed
  exact ⟨b, l, m, by rw [hv.ofI]; rfl, s1.2 b l hB, h1, h2, fun r H' r1 r2 bt B' => z true _ H' _ (p r r1 r2) (s1.trans (.ofBut hB bt B')) (.int r)⟩
theorem Ev.prime (e : ρ[i]? = some .bag) (h : ∀ p : Int, IsP p → Φ true (.int p)) : Ev G ρ (tCall spPrime [] E0 (tCons (tVar i) tNil)) Φ := fun nb σ H Q W z => by
  obtain ⟨b, l, hB, e1, B⟩ := W.theBag e
  exact ⟨.ref b, e1, b, l, rfl, B, fun p H' hp bt B' => z true _ H' _ (h p hp) (.ofBut hB bt B') (.int p)⟩
theorem Ev.whole (h : Ev G ρ te fun _ x => ∃ n, x = .int n ∧ Φ true (.bool true)) : Ev G ρ (tCall spWhole [] E0 (tCons te tNil)) Φ := fun nb σ H Q W z =>
  h nb σ H _ W fun f v H1 d ⟨n, e, q⟩ s1 hv => by subst e; exact ⟨n, by rw [hv.ofI]; rfl, z true _ H1 _ q s1 (.bl _)⟩
namespace Gv
variable {Θ : Rh → Prop}
theorem name (h : Θ (ρ.set i (.d f d))) : Gv G ρ (gName i) f d Θ := fun nb σ H v Q W hv z => z _ _ h (W.setD hv)
theorem nameT (h : Θ (ρ.set i (.d true d))) : Gv G ρ (gName i) true d Θ := name h
theorem nameF (h : Θ (ρ.set i (.d false d))) : Gv G ρ (gName i) f d Θ := fun nb σ H v Q W hv z => z _ _ h (W.setD (hv.av (S_mono (fun z => by cases z) fun _ z => z)))
theorem nameS (hs : scB d = true) (h : Θ (ρ.set i (.d true d))) : Gv G ρ (gName i) f d Θ := fun nb σ H v Q W hv z => z _ _ h (W.setD (hv.scAny hs))
theorem nameI {n : Int} (h : Θ (ρ.set i (.d true (.int n)))) : Gv G ρ (gName i) f (.int n) Θ := nameS rfl h
theorem nameB {n : Bool} (h : Θ (ρ.set i (.d true (.bool n)))) : Gv G ρ (gName i) f (.bool n) Θ := nameS rfl h
theorem tup {n : Nat} {u : TGs} (hl : ds.length = n) (h : Gvs G ρ u f ds Θ) : Gv G ρ (gTup K n u) f (.tuple ds) Θ := fun nb σ H v Q W hv z => by
  obtain ⟨a, xs, rfl, m, hx, hd⟩ := hv.ofT
  exact ⟨a, xs, rfl, .of hx, by rw [hd.length]; exact hl, h nb σ H xs Q W hd z⟩
theorem snil (h : Θ ρ) : Gvs G ρ gNil f [] Θ := fun nb σ H vs Q W hv z => by unfold IsDs at hv; exact ⟨hv, z _ _ h W⟩
theorem scons {u : TG} {us : TGs} (h : Gv G ρ u f d fun ρ1 => Gvs G ρ1 us f ds Θ) : Gvs G ρ (gCons u us) f (d :: ds) Θ := fun nb σ H vs Q W hv z => by
  unfold IsDs at hv
  obtain ⟨y, ys, rfl, h1, h2⟩ := hv
  exact ⟨y, ys, rfl, h nb σ H y _ W h1 fun σ' ρ' q W' => q nb σ' H ys Q W' h2 z⟩
end Gv
namespace Sv
variable {E : DE} {s u : TS}
theorem seq (h : Sv G ρ s { E with nx := fun ρ1 => Sv G ρ1 u E }) : Sv G ρ (tSeq s u) E := fun nb σ H D W K => h nb σ H _ W ⟨fun nb' ρ' σ' H' q W' => q nb' σ' H' D W' K, K.bk, K.ct, K.rt⟩
theorem next (h : E.nx ρ) : Sv G ρ tNext E := fun nb σ H D W K => K.nx nb ρ σ H h W
theorem brk (h : E.bk ρ) : Sv G ρ tBreak E := fun nb σ H D W K => K.bk nb ρ σ H h W
theorem cont (h : E.ct ρ) : Sv G ρ tCont E := fun nb σ H D W K => K.ct nb ρ σ H h W
theorem asg {g : TG} (h : Ev G ρ te fun f d => Gv G ρ g f d E.nx) : Sv G ρ (tAsg te g) E := fun nb σ H D W K => h nb σ H _ W fun f v H1 d q s1 hv => q nb σ H1 v _ (W.step s1) hv fun σ' ρ' p W' => K.nx nb ρ' σ' H1 p W'
theorem setCF (h : Ev G ρ te fun _ d => E.nx (ρ.set i (.d false d))) : Sv G ρ (tSetC i te) E := fun nb σ H D W K => h nb σ H _ W fun f v H1 d q s1 hv => K.nx nb _ _ H1 q ((W.step s1).setD (hv.av (S_mono (fun z => by cases z) fun _ z => z)))
theorem ret (h : Ev G ρ te E.rt) : Sv G ρ (tRet te) E := fun nb σ H D W K => h nb σ H _ W fun f v H1 d q s1 hv => K.rt nb ρ σ f v H1 d q (W.step s1) (hv.av (S_mono (fun z => z) fun _ z => z.elim))
theorem ifS {c : TT} (h : Tv G ρ c fun b => if b = true then Sv G ρ s E else Sv G ρ u E) : Sv G ρ (tIfS c s u) E := fun nb σ H D W K => h nb σ H _ W fun b H1 q s1 => by
  cases b with
  | true => rw [if_pos rfl] at q ⊢; exact q nb σ H1 D (W.step s1) K
  | false => rw [if_neg Bool.false_ne_true] at q ⊢; exact q nb σ H1 D (W.step s1) K
theorem own_of {nb : Addr → Prop} {σ : St} {H H1 : Hp} {a : Addr} {xs : List V} (W : Wd G nb ρ σ H) (s1 : Step G.B H H1) (ha : H a = none) (e : H1 a = some (.lst xs)) (hd : IsDs (fun x => G.S nb f x ∨ x = a) H1 ds xs) :
    Wd G (fun x => nb x ∨ x = a) (ρ.set i (.own a f ds)) (σ.set i (some (.ref a))) H1 := by
  have hN : NB G.B a := fun b l e z => by
    subst z
    obtain ⟨_, _, _, _, _, h1, _⟩ := W.bag _ _ e
    rw [h1] at ha; cases ha
  have hA : ∀ f x, G.S (fun x => nb x ∨ x = a) f x → (G.S nb f x ∨ x = a) := fun f x z => by
    rcases z with (z | z) | z | z | z
    · exact .inl (.inl z)
    · exact .inr z
    · exact .inl (.inr (.inl z))
    · exact .inl (.inr (.inr (.inl z)))
    · exact .inl (.inr (.inr (.inr z)))
  have W1 := W.step s1
  have W2 : Wd G (fun x => nb x ∨ x = a) ρ σ H1 := by
    refine ⟨W1.bag, fun x n => ?_, W1.old, fun x n q => ?_, W.gA, W.len, W.gB, fun h m => (((W.hld h m).fresh ha).keep (s1.but fun x z => .inl (.inr (.inr (.inl z))))).av (hA h.1), fun j s e' => ?_, W.apart, W.apd⟩
    · rcases n with n | n
      · exact W1.live x n
      · subst n; rw [e]; exact Option.some_ne_none _
    · rcases n with n | n
      · exact W.nbo x n q
      · subst n
        cases z : G.H0 x with
        | none => rfl
        | some o => rw [W.old x o q z] at ha; cases ha
    · obtain ⟨x, e1, h⟩ := W.ok j s e'
      refine ⟨x, e1, ?_⟩
      cases s with
      | no => trivial
      | d f d => obtain ⟨v, e, h⟩ := h; exact ⟨v, e, ((h.fresh ha).keep (s1.but fun x z => .inl (.inr (.inr (.inl z))))).av (hA f)⟩
      | own c f es => obtain ⟨e, n, q, xs, hx, hd⟩ := h; exact ⟨e, .inl n, q, xs, s1.1 _ _ q hx, ((hd.fresh ha).keep (s1.but fun x z => .inl (.inr (.inr (.inl z))))).av (hA f)⟩
      | bag => exact h
      | raw v => exact h
      | dic c f es => obtain ⟨e, n, q, xs, hx, hd⟩ := h; exact ⟨e, .inl n, q, xs, s1.1 _ _ q hx, ((hd.fresh ha).keep (s1.but fun x z => .inl (.inr (.inr (.inl z))))).av (hA f)⟩
  refine W2.set ⟨rfl, .inr rfl, hN, xs, e, hd.av (hA f)⟩ ?_
  rintro a' f' ds' ⟨rfl, rfl, rfl⟩ j c g cs hj hc z
  subst z
  obtain ⟨x, e1, h1, h2, h3, ys, hy, _⟩ := W.ok j _ hc
  rw [hy] at ha; cases ha
theorem asgN (h : EvN G ρ te fun f ds => ∀ a, E.nx (ρ.set i (.own a f ds))) : Sv G ρ (tAsg te (gName i)) E := fun nb σ H D W K => h nb σ H _ W fun f a xs H1 ds q s1 ha e hd => K.nx _ _ _ H1 (q a) (own_of W s1 ha e hd)
theorem setCN (h : EvN G ρ te fun f ds => ∀ a, E.nx (ρ.set i (.own a f ds))) : Sv G ρ (tSetC i te) E := fun nb σ H D W K => h nb σ H _ W fun f a xs H1 ds q s1 ha e hd => K.nx _ _ _ H1 (q a) (own_of W s1 ha e hd)
theorem writeOwn {nb : Addr → Prop} {σ : St} {H : Hp} {a : Addr} {xs : List V} (W : Wd G nb ρ σ H) (e : ρ[i]? = some (.own a f ds)) (hd : IsDs (G.S nb g) H es xs) : Wd G nb (ρ.set i (.own a g es)) σ (upd H a (.lst xs)) := by
  obtain ⟨x, e1, h1, h2, h3, ys, hy, _⟩ := W.ok i _ e
  subst h1
  have hil : i < ρ.length := (List.getElem?_eq_some_iff.mp e).1
  have W0 : Wd G nb (ρ.set i .no) (σ.set i (some (.ref a))) H := W.set trivial fun _ _ _ z => by cases z
  have W1 : Wd G nb (ρ.set i .no) (σ.set i (some (.ref a))) (upd H a (.lst xs)) := W0.write h2 h3 (fun j c f' cs hc => by
    by_cases hij : i = j
    · subst hij; rw [List.getElem?_set_self hil] at hc; cases hc
    · rw [List.getElem?_set_ne hij] at hc
      exact (W.apart i j _ _ _ _ _ _ hij e hc).symm
   ) (fun j c f' cs hc z => by
      subst z
      have hij : i ≠ j := fun z => by subst z; rw [List.getElem?_set_self hil] at hc; cases hc
      rw [List.getElem?_set_ne hij] at hc
      obtain ⟨_, _, _, _, _, ps, hp, _⟩ := W.ok j _ hc
      rw [hy] at hp; cases hp)
  have W2 := W1.set (i := i) (s := .own a g es) (x := some (.ref a)) ⟨rfl, h2, h3, xs, upd_same, hd.keep (But.set (.inl h2))⟩ (by
    rintro a' f' ds' ⟨rfl, rfl, rfl⟩ j c g' cs hj hc
    rw [List.getElem?_set_ne (Ne.symm hj)] at hc
    exact W.apart i j _ _ _ _ _ _ (Ne.symm hj) e hc)
  rw [List.set_set, List.set_set] at W2
  have : σ.set i (some (.ref a)) = σ := by
    apply List.ext_getElem?
    intro j
    by_cases hij : i = j
    · subst hij; rw [List.getElem?_set_self (by rw [W.len]; exact hil), e1]
    · rw [List.getElem?_set_ne hij]
  rwa [this] at W2
theorem append {a : Addr} (e : ρ[i]? = some (.own a f ds)) (h : Ev G ρ te fun g d => ds.length < 10000 ∧ E.nx (ρ.set i (.own a (f && g) (ds ++ [d])))) : Sv G ρ (tDrop (tBM K "list" rAppend (tVar i) (tCons te tNil))) E := fun nb σ H D W KK => by
  obtain ⟨x, e1, h1, h2, h3, xs, hx, hd⟩ := W.ok i _ e
  subst h1
  refine ⟨.ref a, e1, .inl ⟨rfl, _, SqL.of hx⟩, h nb σ H _ W fun g v H1 d ⟨hl, q⟩ s1 hv => ?_⟩
  have W1 := W.step s1
  have hx1 := s1.1 _ _ h3 hx
  refine ⟨a, xs, v, rfl, rfl, hx1, Nat.lt_of_lt_of_le (by rw [hd.length]; exact hl) (by decide), KK.nx nb _ _ _ q (writeOwn W1 e ?_)⟩
  exact IsDs.snoc (hv.av (S_mono (fun z => (Bool.and_eq_true _ _ ▸ z).2) fun _ z => z)) ((hd.keep s1.butS).av (S_mono (fun z => (Bool.and_eq_true _ _ ▸ z).1) fun _ z => z))
theorem IsDs.set' {nb : Addr → Prop} {H : Hp} {x : V} (hd : IsD nb H d x) : ∀ {ds : List PyData} {xs : List V} (j : Nat), IsDs nb H ds xs → IsDs nb H (ds.set j d) (xs.set j x)
  | [], _, j, h => by unfold IsDs at h; subst h; exact .nil
  | e :: ds, _, 0, h => by unfold IsDs at h; obtain ⟨y, ys, rfl, h1, h2⟩ := h; exact .cons hd h2
  | e :: ds, _, j + 1, h => by unfold IsDs at h; obtain ⟨y, ys, rfl, h1, h2⟩ := h; exact .cons h1 (IsDs.set' hd j h2)
theorem share {nb : Addr → Prop} {σ : St} {H : Hp} {a : Addr} (W : Wd G nb ρ σ H) (e : ρ[i]? = some (.own a f ds)) : Wd G (fun x => nb x ∧ x ≠ a) (ρ.set i (.d f (.list ds))) σ H := by
  obtain ⟨x, e1, h1, h2, h3, xs, hx, hd⟩ := W.ok i _ e
  subst h1
  have hil : i < ρ.length := (List.getElem?_eq_some_iff.mp e).1
  have W0 : Wd G nb (ρ.set i .no) (σ.set i (some (.ref a))) H := W.set trivial fun _ _ _ z => by cases z
  have W1 : Wd G (fun x => nb x ∧ x ≠ a) (ρ.set i .no) (σ.set i (some (.ref a))) H := by
    refine ⟨W0.bag, fun x n => W0.live x n.1, W0.old, fun x n => W0.nbo x n.1, W0.gA, W0.len, W0.gB, fun h m => (W0.hld h m).av (S_mono (fun z => z) fun _ z => z.1), fun j s e' => ?_, W0.apart, W0.apd⟩
    obtain ⟨x, e1', h⟩ := W0.ok j s e'
    refine ⟨x, e1', ?_⟩
    have hij : s ≠ .no → i ≠ j := fun n z => by subst z; rw [List.getElem?_set_self hil] at e'; cases e'; exact n rfl
    cases s with
    | no => trivial
    | d f d => obtain ⟨v, e, h⟩ := h; exact ⟨v, e, h.av (S_mono (fun z => z) fun _ z => z.1)⟩
    | own c f es =>
      obtain ⟨e2, n, q, xs, hx, hd⟩ := h
      have hij := hij (by intro z; cases z)
      rw [List.getElem?_set_ne hij] at e'
      exact ⟨e2, ⟨n, (W.apart i j _ _ _ _ _ _ hij e e').symm⟩, q, xs, hx, hd.av (S_mono (fun z => z) fun _ z => z.1)⟩
    | bag => exact h
    | raw v => exact h
    | dic c f es =>
      obtain ⟨e2, n, q, ps, hp, hd⟩ := h
      have hca : c ≠ a := fun z => by subst z; rw [hx] at hp; cases hp
      exact ⟨e2, ⟨n, hca⟩, q, ps, hp, hd.av (S_mono (fun z => z) fun _ z => z.1)⟩
  have W2 := W1.setD (i := i) (f := f) (d := .list ds) (v := .ref a) (.lst (fun z => by
    rcases z with z | z | z | z
    · exact z.2 rfl
    · exact W.gA a z (W.nbo a h2 h3)
    · exact z h3
    · exact z.2 (W.nbo a h2 h3)) hx (hd.av (S_mono (fun z => z) fun _ z => z.1)))
  rw [List.set_set, List.set_set] at W2
  have : σ.set i (some (.ref a)) = σ := by
    apply List.ext_getElem?
    intro j
    by_cases hij : i = j
    · subst hij; rw [List.getElem?_set_self (by rw [W.len]; exact hil), e1]
    · rw [List.getElem?_set_ne hij]
  rwa [this] at W2
theorem demote {a : Addr} (i : Nat) (e : ρ[i]? = some (.own a f ds)) (h : Sv G (ρ.set i (.d f (.list ds))) s E) : Sv G ρ s E := fun nb σ H D W K => h _ σ H D (share W e) K
theorem wk {ρ' : Rh} (w : Wk ρ' ρ) (h : Sv G ρ' s E) : Sv G ρ s E := fun nb σ H D W K => h nb σ H D (W.wk w) K
end Sv
end
end L2

set_option maxRecDepth 100000
set_option maxHeartbeats 1000000
namespace L2
open PySem PySem.Spec PyProof.Rows
abbrev Gx.hd (G : Gx) (f : Bool) (d : PyData) (v : V) : Gx := { G with hold := (f, d, v) :: G.hold }
section
variable {G : Gx} {ρ ρc : Rh} {Φ Ψ : Pd} {ta tb te : TE} {t : TA} {i : Nat} {f g : Bool} {d e : PyData} {ds es : List PyData} {K : PySem.W.Frag}
theorem Wd.hd {nb : Addr → Prop} {σ : St} {H : Hp} {v : V} (W : Wd G nb ρ σ H) (h : IsD (G.S nb f) H d v) : Wd (G.hd f d v) nb ρ σ H :=
  ⟨W.bag, W.live, W.old, W.nbo, W.gA, W.len, W.gB, fun x m => by
    rcases List.mem_cons.mp m with e | m
    · subst e; exact h
    · exact W.hld x m, fun i s e => by
      obtain ⟨x, e1, h⟩ := W.ok i s e
      refine ⟨x, e1, ?_⟩
      cases s <;> exact h, W.apart, W.apd⟩
theorem Wd.unhd {nb : Addr → Prop} {σ : St} {H : Hp} {v : V} (W : Wd (G.hd f d v) nb ρ σ H) : Wd G nb ρ σ H ∧ IsD (G.S nb f) H d v :=
  ⟨⟨W.bag, W.live, W.old, W.nbo, W.gA, W.len, W.gB, fun x m => W.hld x (List.mem_cons_of_mem _ m), fun i s e => by
      obtain ⟨x, e1, h⟩ := W.ok i s e
      refine ⟨x, e1, ?_⟩
      cases s <;> exact h, W.apart, W.apd⟩, W.hld _ (List.mem_cons_self ..)⟩
namespace Sv
variable {E : DE} {s : TS} {gt : TG}
def Turns (G : Gx) (ρ : Rh) (n : Nat) (it : Nat → PyData → Prop) (fi : Bool) (gt : TG) (s : TS) (E : DE) : Prop :=
  ∃ I : Nat → Rh → Prop, I 0 ρ ∧ (∀ i d ρ', it i d → I i ρ' → Gv G ρ' gt fi d fun ρ2 => Sv G ρ2 s { nx := I (i + 1), rt := E.rt, bk := E.nx, ct := I (i + 1) }) ∧ ∀ ρ', I n ρ' → E.nx ρ'
theorem loopR {lo : Int} {n : Nat} {nb : Addr → Prop} {σ : St} {H : Hp} {D : Ends} (W : Wd G nb ρ σ H) (KK : EndsOk G E D) (h : Turns G ρ n (fun i d => i < n ∧ d = .int (lo + i)) true gt s E) : 
    ∃ W : Nat → Nat → St → Hp → Prop, (∃ m, W 0 m σ H) ∧ ∀ i m σ H, W i m σ H →
      ((Itr lo n).stop i H ∧ D.nx σ H) ∨ ((Itr lo n).go i H ∧ ∃ N : St → Hp → Prop, (∀ σ' H', N σ' H' → ∃ m', m' < m ∧ W (i + 1) m' σ' H') ∧ ∀ x H', (Itr lo n).yld i H x H' → gt x σ H' fun σ2 H2 => s { D with nx := N, ct := N, bk := D.nx } σ2 H2) := by
  obtain ⟨I, h0, ht, he⟩ := h
  refine for_range (fun i σ H => ∃ nb ρ', I i ρ' ∧ Wd G nb ρ' σ H) ⟨nb, ρ, h0, W⟩ ?_ ?_
  · rintro i σ H hi ⟨nb, ρ', hI, W⟩
    refine ht i _ ρ' ⟨hi, rfl⟩ hI nb σ H _ _ W (.int _) fun σ2 ρ2 q W2 => q nb σ2 H _ W2 ?_
    exact ⟨fun nb ρ σ H q W => ⟨nb, ρ, q, W⟩, KK.nx, fun nb ρ σ H q W => ⟨nb, ρ, q, W⟩, KK.rt⟩
  · rintro σ H ⟨nb, ρ', hI, W⟩
    exact KK.nx nb ρ' σ H (he ρ' hI) W
theorem forR1 (h : Ev G ρ te fun _ x => ∃ n : Int, x = .int n ∧ -(2 ^ 62) ≤ n ∧ n < 2 ^ 62 ∧ Turns G ρ n.toNat (fun i d => i < n.toNat ∧ d = .int (0 + i)) true gt s E) : Sv G ρ (tFor (iRng1 (tCons te tNil)) gt s) E := fun nb σ H D W KK =>
  h nb σ H _ W fun f v H1 x ⟨n, ex, h1, h2, q⟩ s1 hv => by
    subst ex
    rw [hv.ofI]
    exact ⟨n, rfl, h1, h2, loopR (W.step s1) KK q⟩
theorem forL (h : Ev G ρ te fun f x => ∃ ds, x = .list ds ∧ ∀ v, Turns (G.hd f (.list ds) v) ρ ds.length (fun i d => ds[i]? = some d) f gt s E) : Sv G ρ (tFor (iList K te) gt s) E := fun nb σ H D W KK =>
  h nb σ H _ W fun f v H1 x ⟨ds, ex, q⟩ s1 hv => by
    subst ex
    obtain ⟨I, h0, ht, he⟩ := q v
    have W1 := (W.step s1).hd hv
    obtain ⟨a, xs, rfl, n, hx, hd⟩ := hv.ofL
    have key : ∀ {nb ρ' σ H}, Wd (G.hd f (.list ds) (.ref a)) nb ρ' σ H → ∃ xs, H a = some (.lst xs) ∧ IsDs (G.S nb f) H ds xs := fun W => by
      obtain ⟨a', xs', e', _, h', d'⟩ := W.unhd.2.ofL
      cases e'
      exact ⟨xs', h', d'⟩
    refine ⟨a, rfl, ⟨xs, .of hx⟩, ?_⟩
    refine ⟨fun i m σ H => m = ds.length - i ∧ i ≤ ds.length ∧ ∃ nb ρ', I i ρ' ∧ Wd (G.hd f (.list ds) (.ref a)) nb ρ' σ H, ⟨ds.length, by simp, Nat.zero_le _, nb, ρ, h0, W1⟩, ?_⟩
    rintro i m σ H ⟨rfl, hi, nb, ρ', hI, W⟩
    obtain ⟨ys, hy, hD⟩ := key W
    have hl := hD.length
    by_cases hlt : i < ds.length
    · refine .inr ⟨⟨ys, ys[i]'(by omega), .of hy, List.getElem?_eq_getElem _⟩, fun σ H => ∃ nb ρ', I (i + 1) ρ' ∧ Wd (G.hd f (.list ds) (.ref a)) nb ρ' σ H, fun σ' H' q => ⟨ds.length - (i + 1), by omega, rfl, hlt, q⟩, fun x H' y => ?_⟩
      obtain ⟨e, y⟩ := y
      subst e
      have hx := y ys (.of hy)
      obtain ⟨x', hx', dx⟩ := hD.get (List.getElem?_eq_getElem hlt)
      rw [hx] at hx'; cases hx'
      refine ht i _ ρ' (List.getElem?_eq_getElem hlt) hI nb σ _ _ _ W dx fun σ2 ρ2 q W2 => q nb σ2 _ _ W2 ?_
      exact ⟨fun nb ρ σ H q W => ⟨nb, ρ, q, W⟩, fun nb ρ σ H q W => KK.nx nb ρ σ H q W.unhd.1, fun nb ρ σ H q W => ⟨nb, ρ, q, W⟩, fun nb ρ σ f v H d q W hv => KK.rt nb ρ σ f v H d q W.unhd.1 hv⟩
    · have e : i = ds.length := by omega
      subst e
      exact .inl ⟨⟨ys, .of hy, by omega⟩, KK.nx nb ρ' σ H (he ρ' hI) W.unhd.1⟩
theorem while_ {c : TT} (I : Rh → Prop) (μ : Rh → Nat) (h0 : I ρ) (h : ∀ ρ', I ρ' → Tv G ρ' c fun b => if b = true then Sv G ρ' s { nx := fun ρ2 => I ρ2 ∧ μ ρ2 < μ ρ', rt := E.rt, bk := E.nx, ct := fun ρ2 => I ρ2 ∧ μ ρ2 < μ ρ' } else E.nx ρ') : Sv G ρ (tWhile c s) E := fun nb σ H D W KK => by
  refine ⟨fun m σ H => ∃ nb ρ', I ρ' ∧ Wd G nb ρ' σ H ∧ m = μ ρ', ⟨_, nb, ρ, h0, W, rfl⟩, ?_⟩
  rintro m σ H ⟨nb, ρ', hI, W, rfl⟩
  refine h ρ' hI nb σ H _ W fun b H1 q s1 => ?_
  cases b with
  | true =>
    rw [if_pos rfl] at q ⊢
    refine ⟨fun σ' H' => ∃ nb ρ2, (I ρ2 ∧ μ ρ2 < μ ρ') ∧ Wd G nb ρ2 σ' H', fun σ' H' ⟨nb, ρ2, ⟨q1, q2⟩, W2⟩ => ⟨μ ρ2, q2, nb, ρ2, q1, W2, rfl⟩, q nb σ H1 _ (W.step s1) ?_⟩
    exact ⟨fun nb ρ σ H q W => ⟨nb, ρ, q, W⟩, KK.nx, fun nb ρ σ H q W => ⟨nb, ρ, q, W⟩, KK.rt⟩
  | false => rw [if_neg Bool.false_ne_true] at q ⊢; exact KK.nx nb ρ' σ H1 q (W.step s1)
end Sv
def startR (mp : List (Option Nat)) (ρ : Rh) : Rh := mp.map fun o => match o with | none => .no | some j => match ρ[j]? with | some s => s | none => .no
theorem mp_inj {mp : List (Option Nat)} (h : (mp.filterMap id).Nodup) : ∀ {i j k : Nat}, mp[i]? = some (some k) → mp[j]? = some (some k) → i = j := by
  induction mp with
  | nil => intro i j k e; simp at e
  | cons o r ih =>
    intro i j k e1 e2
    have hr : (r.filterMap id).Nodup := by
      cases o with
      | none => simpa using h
      | some x => rw [List.filterMap_cons_some (by rfl)] at h; exact (List.nodup_cons.mp h).2
    have hn : ∀ {m : Nat}, r[m]? = some (some k) → o ≠ some k := fun {m} hm e => by
      subst e
      rw [List.filterMap_cons_some (by rfl)] at h
      exact (List.nodup_cons.mp h).1 (List.mem_filterMap.mpr ⟨some k, List.mem_of_getElem? hm, rfl⟩)
    cases i with
    | zero =>
      cases j with
      | zero => rfl
      | succ j => simp at e1 e2; exact absurd e1 (hn e2)
    | succ i =>
      cases j with
      | zero => simp at e1 e2; exact absurd e2 (hn e1)
      | succ j => simp at e1 e2; rw [ih hr e1 e2]
theorem Wd.startC {nb : Addr → Prop} {σ : St} {H : Hp} {mp : List (Option Nat)} (W : Wd G nb ρ σ H) (hm : (mp.filterMap id).Nodup) : Wd G nb (startR mp ρ) (startC mp σ) H := by
  have hat : ∀ {i : Nat} {s : Sl}, (startR mp ρ)[i]? = some s → s = .no ∨ ∃ k, mp[i]? = some (some k) ∧ ρ[k]? = some s := fun {i s} e => by
    unfold startR at e
    rw [List.getElem?_map] at e
    obtain ⟨o, ho, e⟩ := Option.map_eq_some_iff.mp e
    cases o with
    | none => exact .inl e.symm
    | some k =>
      cases hk : ρ[k]? with
      | none => simp only [hk] at e; exact .inl e.symm
      | some s' => simp only [hk] at e; subst e; exact .inr ⟨k, ho, hk⟩
  refine ⟨W.bag, W.live, W.old, W.nbo, W.gA, by unfold L2.startC startR; rw [List.length_map, List.length_map], W.gB, W.hld, fun i s e => ?_, fun i j a f as c g cs hij e1 e2 => ?_, fun i j a f as c g cs hij e1 e2 => ?_⟩
  · have hi : i < mp.length := by have := (List.getElem?_eq_some_iff.mp e).1; unfold startR at this; rwa [List.length_map] at this
    rcases hat e with rfl | ⟨k, hk, hs⟩
    · exact ⟨_, by unfold L2.startC; rw [List.getElem?_map, List.getElem?_eq_getElem hi]; rfl, trivial⟩
    · obtain ⟨x, e1, h⟩ := W.ok k s hs
      refine ⟨x, ?_, h⟩
      unfold L2.startC
      rw [List.getElem?_map, hk]
      simp only [Option.map_some, e1]
  · rcases hat e1 with z | ⟨k, hk, hs⟩
    · cases z
    rcases hat e2 with z | ⟨k', hk', hs'⟩
    · cases z
    exact W.apart k k' a f as c g cs (fun z => by subst z; exact hij (mp_inj hm hk hk')) hs hs'
  · rcases hat e1 with z | ⟨k, hk, hs⟩
    · cases z
    rcases hat e2 with z | ⟨k', hk', hs'⟩
    · cases z
    exact W.apd k k' a f as c g cs (fun z => by subst z; exact hij (mp_inj hm hk hk')) hs hs'
def CompD (G : Gx) (ρc : Rh) (n : Nat) (it : Nat → PyData → Prop) (fi : Bool) (gt : TG) (tc : TT) (te : TE) (Θ : Bool → List PyData → Prop) : Prop :=
  ∃ (fl : Bool) (I : Nat → List PyData → Prop), I 0 [] ∧ (∀ i d ds, it i d → ds.length ≤ i → I i ds → Gv G ρc gt fi d fun ρ1 => Wk ρc ρ1 ∧ Tv G ρ1 tc fun b => if b = true then Ev G ρ1 te fun f e => (fl = true → f = true) ∧ I (i + 1) (ds ++ [e]) else I (i + 1) ds) ∧
    ∀ ds, ds.length ≤ n → I n ds → Θ (fl || scAll ds) ds
theorem comp_turn {gt : TG} {tc : TT} {nb : Addr → Prop} {acc : Addr} {σ : St} {H H1 : Hp} {x : V} {fi fl : Bool} {I : Nat → List PyData → Prop} {xs : List V} {N : St → Hp → Prop} {ds : List PyData} {n : Nat} (hn : n ≤ 10000) (hi : i < n)
    (W : Wd G nb ρc σ H) (ha : nb acc) (hN : NB G.B acc) (hno : ∀ (j : Nat) a f ds, ρc[j]? = some (.own a f ds) → a ≠ acc) (st : Step G.B H1 H) (hacc : H1 acc = none) (hx : H acc = some (.lst xs)) (hd : IsDs (G.S nb fl) H ds xs) (hl : ds.length ≤ i) (hxd : IsD (G.S nb fi) H d x)
    (h : Gv G ρc gt fi d fun ρ1 => Wk ρc ρ1 ∧ Tv G ρ1 tc fun b => if b = true then Ev G ρ1 te fun f e => (fl = true → f = true) ∧ I (i + 1) (ds ++ [e]) else I (i + 1) ds)
    (z : ∀ σ' H' ds' xs', Wd G nb ρc σ' H' → Step G.B H1 H' → H' acc = some (.lst xs') → IsDs (G.S nb fl) H' ds' xs' → ds'.length ≤ i + 1 → I (i + 1) ds' → N σ' H') :
    gt x σ H fun σ2 H2 => tc σ2 H2 fun b H3 => if b = true then te σ2 H3 fun v H4 => ∃ ys, H4 acc = some (.lst ys) ∧ ys.length < sizeLine ∧ N σ2 (upd H4 acc (.lst (ys ++ [v]))) else N σ2 H3 := by
  refine h nb σ H x _ W hxd fun σ2 ρ1 ⟨wk, q⟩ W2 => q nb σ2 H _ W2 fun b H3 q3 s3 => ?_
  have hx3 := s3.1 _ _ hN hx
  have hd3 := hd.keep (s3.butS (nb := nb) (f := fl))
  cases b with
  | false =>
    rw [if_neg Bool.false_ne_true] at q3 ⊢
    exact z σ2 H3 ds xs ((W2.step s3).wk wk) (st.trans s3) hx3 hd3 (by omega) q3
  | true =>
    rw [if_pos rfl] at q3 ⊢
    refine q3 nb σ2 H3 _ (W2.step s3) fun f v H4 e ⟨hf, hI⟩ s4 hv => ?_
    have hx4 := s4.1 _ _ hN hx3
    have hd4 := hd3.keep (s4.butS (nb := nb) (f := fl))
    have hlen := hd.length
    refine ⟨xs, hx4, Nat.lt_of_lt_of_le (show xs.length < 10001 by omega) (by decide), ?_⟩
    have W4 : Wd G nb ρc σ2 H4 := ((W2.step s3).step s4).wk wk
    have bt : But (G.S nb fl) H4 (upd H4 acc (.lst (xs ++ [v]))) := But.set (.inl ha)
    have W5 : Wd G nb ρc σ2 (upd H4 acc (.lst (xs ++ [v]))) := W4.write ha hN hno (fun j a f ds e z => by
      subst z
      obtain ⟨_, _, _, _, _, ps, hp, _⟩ := W4.ok j _ e
      rw [hx4] at hp; cases hp)
    refine z σ2 _ (ds ++ [e]) (xs ++ [v]) W5 ⟨fun a o n q => ?_, W5.bag⟩ upd_same (IsDs.snoc ((hv.av (S_mono hf fun _ z => z)).keep bt) (hd4.keep bt)) (by rw [List.length_append, List.length_singleton]; omega) hI
    have hne : a ≠ acc := fun z => by subst z; rw [hacc] at q; cases q
    rw [upd_ne hne]
    exact (st.trans (s3.trans s4)).1 a o n q
theorem no_own {nb : Addr → Prop} {σ : St} {H : Hp} {a : Addr} (W : Wd G nb ρ σ H) (ha : H a = none) : ∀ (j : Nat) c f ds, ρ[j]? = some (.own c f ds) → c ≠ a := fun j c f ds e z => by
  subst z
  obtain ⟨x, e1, h1, h2, h3, ys, hy, _⟩ := W.ok j _ e
  rw [hy] at ha; cases ha
theorem hA_more {nb : Addr → Prop} {a : Addr} {f : Bool} : ∀ x, (G.S nb f x ∨ x = a) → G.S (fun x => nb x ∨ x = a) f x := fun x z => by
  rcases z with (z | z | z | z) | z
  · exact .inl (.inl z)
  · exact .inr (.inl z)
  · exact .inr (.inr (.inl z))
  · exact .inr (.inr (.inr z))
  · exact .inl (.inr z)
theorem comp_end {nb : Addr → Prop} {acc : Addr} {H H1 H' : Hp} {σ : St} {Q : VK} {Θ : Bool → List PyData → Prop} {xs : List V} {ds : List PyData} {fl : Bool} (W : Wd G nb ρ σ H) (s1 : Step G.B H H1) (hacc : H1 acc = none) (s2 : Step G.B H1 H') (hx : H' acc = some (.lst xs)) (hd : IsDs (G.S (fun x => nb x ∨ x = acc) fl) H' ds xs) (p : Θ (fl || scAll ds) ds)
    (z : ∀ f a xs H' ds, Θ f ds → Step G.B H H' → H a = none → H' a = some (.lst xs) → IsDs (fun x => G.S nb f x ∨ x = a) H' ds xs → Q (.ref a) H') : Q (.ref acc) H' := by
  refine z _ acc xs H' ds p (s1.trans s2) (W.none_of s1 hacc) hx ?_
  cases hs : scAll ds with
  | true => exact IsDs.scAny hs hd
  | false => rw [Bool.or_false]; exact hd.av hA_more
theorem NB.new {B : Bg} {H : Hp} {a : Addr} (h : BagOk B H) (ha : H a = none) : NB B a := Classical.byContradiction fun z => NB.bag_live h z ha
namespace EvN
variable {Θ : Bool → List PyData → Prop} {gt : TG} {tc : TT} {mp : List (Option Nat)}
theorem compR {lo : Int} {n : Nat} {nb : Addr → Prop} {σ : St} {H H1 : Hp} {Q : VK} (W : Wd G nb ρ σ H) (s1 : Step G.B H H1) (hm : (mp.filterMap id).Nodup) (hρ : startR mp ρ = ρc) (hn : n ≤ 10000) (h : CompD G ρc n (fun i d => i < n ∧ d = .int (lo + i)) true gt tc te Θ)
    (z : ∀ f a xs H' ds, Θ f ds → Step G.B H H' → H a = none → H' a = some (.lst xs) → IsDs (fun x => G.S nb f x ∨ x = a) H' ds xs → Q (.ref a) H') (acc : Addr) (hacc : H1 acc = none) : CompW (Itr lo n) gt tc te acc (fun H' => Q (.ref acc) H') (startC mp σ) (upd H1 acc (.lst [])) := by
  obtain ⟨fl, I, h0, ht, he⟩ := h
  have W0 : Wd G nb ρc (L2.startC mp σ) H1 := by rw [← hρ]; exact (W.step s1).startC hm
  have W1 := W0.more hacc (o := .lst [])
  have hN := NB.new s1.2 hacc
  have hno := no_own W0 hacc
  have st0 : Step G.B H1 (upd H1 acc (.lst [])) := .same s1.2 (same_new hacc)
  refine R.comp_range (fun i σ H => ∃ ds xs, Wd G (fun x => nb x ∨ x = acc) ρc σ H ∧ Step G.B H1 H ∧ H acc = some (.lst xs) ∧ IsDs (G.S (fun x => nb x ∨ x = acc) fl) H ds xs ∧ ds.length ≤ i ∧ I i ds) ⟨[], [], W1, st0, upd_same, .nil, Nat.le_refl _, h0⟩ ?_ ?_
  · rintro i σ H hi ⟨ds, xs, W, st, hx, hd, hl, hI⟩
    exact comp_turn hn hi W (.inr rfl) hN hno st hacc hx hd hl (.int _) (ht i _ ds ⟨hi, rfl⟩ hl hI) fun σ' H' ds' xs' W' st' hx' hd' hl' hI' => ⟨ds', xs', W', st', hx', hd', hl', hI'⟩
  · rintro σ H' ⟨ds, xs, W', st, hx, hd, hl, hI⟩
    exact comp_end W s1 hacc st hx hd (he ds hl hI) z
theorem compR1 {t0 : TE} (hm : (mp.filterMap id).Nodup) (hρ : startR mp ρ = ρc) (h : Ev G ρ t0 fun _ x => ∃ n : Int, x = .int n ∧ -10000 ≤ n ∧ n ≤ 10000 ∧ CompD G ρc n.toNat (fun i d => i < n.toNat ∧ d = .int (0 + i)) true gt tc te Θ) : EvN G ρ (tComp (iRng1 (tCons t0 tNil)) gt tc te mp) Θ := fun nb σ H Q W z =>
  h nb σ H _ W fun f v H1 x ⟨n, ex, h1, h2, q⟩ s1 hv => by
    subst ex
    rw [hv.ofI]
    exact ⟨n, rfl, by omega, by omega, compR W s1 hm hρ (by omega) q z⟩
theorem compL {t0 : TE} (hm : (mp.filterMap id).Nodup) (hρ : startR mp ρ = ρc) (h : Ev G ρ t0 fun fi x => ∃ es, x = .list es ∧ es.length ≤ 10000 ∧ ∀ v, CompD (G.hd fi (.list es) v) ρc es.length (fun i d => es[i]? = some d) fi gt tc te Θ) : EvN G ρ (tComp (iList K t0) gt tc te mp) Θ := fun nb σ H Q W z =>
  h nb σ H _ W fun fi v H1 x ⟨es, ex, hn, q⟩ s1 hv => by
    subst ex
    obtain ⟨fl, I, h0, ht, he⟩ := q v
    have W0 := (W.step s1).hd hv
    obtain ⟨a, xs, rfl, n, hx, hd⟩ := hv.ofL
    refine ⟨a, rfl, ⟨xs, .of hx⟩, fun acc hacc => ?_⟩
    have W0' : Wd (G.hd fi (.list es) (.ref a)) nb ρc (L2.startC mp σ) H1 := by rw [← hρ]; exact W0.startC hm
    have W1 := W0'.more hacc (o := .lst [])
    have hN := NB.new s1.2 hacc
    have hno := no_own W0' hacc
    have st0 : Step G.B H1 (upd H1 acc (.lst [])) := .same s1.2 (same_new hacc)
    have hNa : NB G.B a := Classical.byContradiction fun z => n (.inr (.inr (.inl z)))
    refine R.comp_list (xs := xs) (fun i σ H => ∃ ds ys, Wd (G.hd fi (.list es) (.ref a)) (fun x => nb x ∨ x = acc) ρc σ H ∧ Step G.B H1 H ∧ H acc = some (.lst ys) ∧ IsDs (G.S (fun x => nb x ∨ x = acc) fl) H ds ys ∧ ds.length ≤ i ∧ I i ds) ⟨[], [], W1, st0, upd_same, .nil, Nat.le_refl _, h0⟩ ?_ ?_ ?_
    · rintro i σ H hi ⟨ds, ys, W, st, _⟩
      exact .of (st.1 _ _ hNa hx)
    · rintro i x σ H hi ⟨ds, ys, W, st, hy, hd', hl, hI⟩
      obtain ⟨a', xs', e', _, h', d'⟩ := W.unhd.2.ofL
      cases e'
      rw [st.1 _ _ hNa hx] at h'; cases h'
      have hil : i < es.length := by have := (List.getElem?_eq_some_iff.mp hi).1; have := d'.length; omega
      obtain ⟨x', hx', dx⟩ := d'.get (List.getElem?_eq_getElem hil)
      rw [hi] at hx'; cases hx'
      exact comp_turn (G := G.hd fi (.list es) (.ref a)) hn hil W (.inr rfl) hN hno st hacc hy hd' hl dx (ht i _ ds (List.getElem?_eq_getElem hil) hl hI) fun σ' H' ds' xs' W' st' hx' hd' hl' hI' => ⟨ds', xs', W', st', hx', hd', hl', hI'⟩
    · rintro σ H' ⟨ds, ys, W', st, hy, hd', hl, hI⟩
      rw [hd.length] at hl hI
      exact comp_end W s1 hacc st hy hd' (he ds hl hI) z
end EvN
end
end L2

set_option maxRecDepth 100000
set_option maxHeartbeats 1000000
namespace L2
open PySem PySem.Spec PyProof.Rows
section
variable {ρ : Rh} {t : TS} {N : List Str} {vs : List V} {ds : List PyData} {nb : Addr → Prop} {H : Hp} {Q : VK} {Φ : Pd} {b l : Addr}
theorem isDs_at {xs : List V} (h : IsDs nb H ds xs) {i : Nat} {s : Sl} (e : (ds.map (Sl.d false))[i]? = some s) : ∃ v d, xs[i]? = some v ∧ s = .d false d ∧ IsD nb H d v := by
  rw [List.getElem?_map] at e
  obtain ⟨d, hd, e⟩ := Option.map_eq_some_iff.mp e
  obtain ⟨v, hv, q⟩ := h.get hd
  exact ⟨v, d, hv, e.symm, q⟩
theorem Sv.enterD (hl : Live nb H) (hd : IsDs nb H ds vs) (hΦ : ∀ f d v H', Φ f d → Same H H' → IsD (fun a => nb a ∨ (f = true ∧ H a ≠ none)) H' d v → Q v H')
    (hρ : ρ = ds.map (Sl.d false) ++ List.replicate (N.length - ds.length) .no) (h : Sv ⟨none, H, nb, []⟩ ρ t { nx := fun _ => Φ true .none, rt := Φ }) : t { nx := fun _ H' => Q .non H', rt := Q } (start N vs) H := by
  have hlen := hd.length
  have sm : ∀ {nb' ρ' σ' H'}, Wd ⟨none, H, nb, []⟩ nb' ρ' σ' H' → Same H H' := fun W a o e => W.old a o (fun _ _ z => (by cases z)) e
  refine h (fun _ => False) _ H _ ⟨fun _ _ z => (by cases z), fun _ z => z.elim, fun _ _ _ e => e, fun _ z => z.elim, hl, ?_, fun _ _ z => (by cases z), fun _ m => (by cases m), fun i s e => ?_, ?_, ?_⟩ ⟨fun nb' ρ' σ' H' q W => hΦ _ _ _ _ q (sm W) .non, fun _ _ _ _ q _ => q.elim, fun _ _ _ _ q _ => q.elim, fun nb' ρ' σ' f v H' d q W hv => hΦ f d v H' q (sm W) (hv.av fun a z => ?_)⟩
  · rw [hρ]; unfold start; simp [hlen]
  · rw [hρ] at e
    unfold start
    by_cases hi : i < ds.length
    · rw [List.getElem?_append_left (by rw [List.length_map]; exact hi)] at e
      obtain ⟨v, d, hv, rfl, q⟩ := isDs_at hd e
      refine ⟨some v, ?_, v, rfl, q.av fun a z => ?_⟩
      · rw [List.getElem?_append_left (by rw [List.length_map, hlen]; exact hi), List.getElem?_map, hv]; rfl
      · rcases z with z | z | z | z
        · exact z.elim
        · exact z
        · exact absurd (fun _ _ z => (by cases z)) z
        · cases z.1
    · rw [List.getElem?_append_right (by rw [List.length_map]; omega), List.getElem?_replicate] at e
      split at e
      · rename_i h'
        cases e
        refine ⟨none, ?_, trivial⟩
        rw [List.length_map] at h'
        rw [List.getElem?_append_right (by rw [List.length_map]; omega), List.getElem?_replicate, if_pos (by rw [List.length_map, hlen]; exact h')]
      · cases e
  · intro i j a f as c g cs hij e1
    rw [hρ] at e1
    by_cases hi : i < ds.length
    · rw [List.getElem?_append_left (by rw [List.length_map]; exact hi)] at e1
      obtain ⟨_, _, _, z, _⟩ := isDs_at hd e1
      cases z
    · rw [List.getElem?_append_right (by rw [List.length_map]; omega), List.getElem?_replicate] at e1
      split at e1 <;> cases e1
  · intro i j a f as c g cs hij e1
    rw [hρ] at e1
    by_cases hi : i < ds.length
    · rw [List.getElem?_append_left (by rw [List.length_map]; exact hi)] at e1
      obtain ⟨_, _, _, z, _⟩ := isDs_at hd e1
      cases z
    · rw [List.getElem?_append_right (by rw [List.length_map]; omega), List.getElem?_replicate] at e1
      split at e1 <;> cases e1
  · rcases z with z | z
    · exact .inr (.inl z)
    · exact .inr (.inr (.inr z))
theorem Sv.enterB (hB : BagAt H b l) (hl : Live nb H) (hb : nb b) (hd : IsDs nb H ds vs) (hΦ : ∀ f d v H', Φ f d → But (Nb b) H H' → BagAt H' b l → IsD (fun a => nb a ∨ (f = true ∧ H a ≠ none)) H' d v → Q v H')
    (hρ : ρ = .bag :: ds.map (Sl.d false) ++ List.replicate (N.length - (ds.length + 1)) .no) (h : Sv ⟨some (b, l), H, nb, []⟩ ρ t { nx := fun _ => Φ true .none, rt := Φ }) : t { nx := fun _ H' => Q .non H', rt := Q } (start N (.ref b :: vs)) H := by
  have hlen := hd.length
  have hNB : ∀ a, a ≠ b → NB (some (b, l)) a := fun a n b' l' e => by cases e; exact n
  have hNB' : ∀ a, ¬ NB (some (b, l)) a → a = b := fun a n => Classical.byContradiction fun z => n (hNB a z)
  have bt : ∀ {nb' ρ' σ' H'}, Wd ⟨some (b, l), H, nb, []⟩ nb' ρ' σ' H' → But (Nb b) H H' := fun W a o n e => W.old a o (hNB a n) e
  have bg : ∀ {nb' ρ' σ' H'}, Wd ⟨some (b, l), H, nb, []⟩ nb' ρ' σ' H' → BagAt H' b l := fun W => W.bag b l rfl
  refine h (fun _ => False) _ H _ ⟨fun b' l' e => (by cases e; exact hB), fun _ z => z.elim, fun _ _ _ e => e, fun _ z => z.elim, hl, ?_, fun b' l' e => (by cases e; exact hB), fun _ m => (by cases m), fun i s e => ?_, ?_, ?_⟩ ⟨fun nb' ρ' σ' H' q W => hΦ _ _ _ _ q (bt W) (bg W) .non, fun _ _ _ _ q _ => q.elim, fun _ _ _ _ q _ => q.elim, fun nb' ρ' σ' f v H' d q W hv => hΦ f d v H' q (bt W) (bg W) (hv.av fun a z => ?_)⟩
  · rw [hρ]; unfold start; simp [hlen]
  · rw [hρ] at e
    unfold start
    cases i with
    | zero => simp at e; subst e; exact ⟨some (.ref b), by simp, b, l, rfl, rfl⟩
    | succ i =>
      simp only [List.cons_append, List.getElem?_cons_succ, List.map_cons, List.length_cons] at e ⊢
      by_cases hi : i < ds.length
      · rw [List.getElem?_append_left (by rw [List.length_map]; exact hi)] at e
        obtain ⟨v, d, hv, rfl, q⟩ := isDs_at hd e
        refine ⟨some v, ?_, v, rfl, q.av fun a z => ?_⟩
        · rw [List.getElem?_append_left (by rw [List.length_map, hlen]; exact hi), List.getElem?_map, hv]; rfl
        · rcases z with z | z | z | z
          · exact z.elim
          · exact z
          · rw [hNB' a z]; exact hb
          · cases z.1
      · rw [List.getElem?_append_right (by rw [List.length_map]; omega), List.getElem?_replicate] at e
        split at e
        · rename_i h'
          cases e
          refine ⟨none, ?_, trivial⟩
          rw [List.length_map] at h'
          rw [List.getElem?_append_right (by rw [List.length_map]; omega), List.getElem?_replicate, if_pos (by rw [List.length_map, hlen]; exact h')]
        · cases e
  · intro i j a f as c g cs hij e1
    rw [hρ] at e1
    cases i with
    | zero => simp at e1
    | succ i =>
      simp only [List.cons_append, List.getElem?_cons_succ] at e1
      by_cases hi : i < ds.length
      · rw [List.getElem?_append_left (by rw [List.length_map]; exact hi)] at e1
        obtain ⟨_, _, _, z, _⟩ := isDs_at hd e1
        cases z
      · rw [List.getElem?_append_right (by rw [List.length_map]; omega), List.getElem?_replicate] at e1
        split at e1 <;> cases e1
  · intro i j a f as c g cs hij e1
    rw [hρ] at e1
    cases i with
    | zero => simp at e1
    | succ i =>
      simp only [List.cons_append, List.getElem?_cons_succ] at e1
      by_cases hi : i < ds.length
      · rw [List.getElem?_append_left (by rw [List.length_map]; exact hi)] at e1
        obtain ⟨_, _, _, z, _⟩ := isDs_at hd e1
        cases z
      · rw [List.getElem?_append_right (by rw [List.length_map]; omega), List.getElem?_replicate] at e1
        split at e1 <;> cases e1
  · rcases z with z | z
    · exact .inr (.inl z)
    · exact .inr (.inr (.inr z))
def lawG (b l : Addr) (H : Hp) : Gx := ⟨some (b, l), H, fun _ => False, []⟩
theorem law_wdS {a : Addr} {m : Nat} (hB : BagAt H b l) : Wd (lawG b l H) (fun _ => False) (.raw (.ref a) :: .bag :: List.replicate m .no) (some (.ref a) :: some (.ref b) :: List.replicate m none) H := by
  refine ⟨fun b' l' e => (by cases e; exact hB), fun _ z => z.elim, fun _ _ _ e => e, fun _ z => z.elim, fun _ z => z.elim, by simp, fun b' l' e => (by cases e; exact hB), fun _ m => (by cases m), fun i s e => ?_, ?_, ?_⟩
  · match i with
    | 0 => simp at e; subst e; exact ⟨_, rfl, rfl⟩
    | 1 => simp at e; subst e; exact ⟨some (.ref b), rfl, b, l, rfl, rfl⟩
    | i + 2 =>
      simp only [List.getElem?_cons_succ, List.getElem?_replicate] at e ⊢
      split at e
      · rename_i h; cases e; exact ⟨none, if_pos h, trivial⟩
      · cases e
  · intro i j a f as c g cs hij e1
    match i with
    | 0 => simp at e1
    | 1 => simp at e1
    | i + 2 =>
      simp only [List.getElem?_cons_succ, List.getElem?_replicate] at e1
      split at e1 <;> cases e1
  · intro i j a f as c g cs hij e1
    match i with
    | 0 => simp at e1
    | 1 => simp at e1
    | i + 2 =>
      simp only [List.getElem?_cons_succ, List.getElem?_replicate] at e1
      split at e1 <;> cases e1
theorem Ev.lenRaw {G : Gx} {i : Nat} {a : Addr} {ns : List Int} {K : PySem.W.Frag} (e : ρ[i]? = some (.raw (.ref a))) (hS : SqL K G.H0 a (ns.map V.int)) (h : Φ true (.int ns.length)) : Ev G ρ (tCB (rLen K) (tCons (tVar i) tNil)) Φ := fun nb σ H Q W z => by
  obtain ⟨x, e1, h1⟩ := W.ok i _ e
  have h1 : x = some (.ref a) := h1
  subst h1
  have hS' : SqL K H a (ns.map V.int) := by
    rcases hS with hr | hk
    · have hn : NB G.B a := fun b l hb z => by
        subst z
        obtain ⟨_, _, _, _, _, g1, _⟩ := W.gB _ _ hb
        rcases hr with hr | ⟨o, hr⟩
        · rw [g1] at hr
          have := HO.lst.inj (Option.some.inj hr)
          cases ns with
          | nil => cases this
          | cons n r => rw [List.map_cons] at this; cases (List.cons.inj this).1
        · rw [g1] at hr; cases hr
      rcases hr with hr | ⟨o, hr⟩
      · exact .inl (.inl (W.old _ _ hn hr))
      · exact .inl (.inr ⟨o, W.old _ _ hn hr⟩)
    · exact .inr hk
  refine ⟨.ref a, e1, a, _, rfl, .inl hS', ?_⟩
  rw [List.length_map]
  exact z true _ H _ h (.refl W.bag) (.int _)
theorem law_endsR {D : Ends} (h2 : ∀ H, D.rt (.bl true) H) : EndsOk (lawG b l H) { nx := fun _ => False, rt := fun _ d => d = .bool true } D :=
  ⟨fun _ _ _ _ q _ => q.elim, fun _ _ _ _ q _ => q.elim, fun _ _ _ _ q _ => q.elim, fun _ _ _ f v H d q _ hv => by subst q; unfold IsD at hv; subst hv; exact h2 H⟩
end
namespace R
theorem di {P : Int → Prop} {i : Int} (h : P i) : ∃ j, PyData.int i = .int j ∧ P j := ⟨i, rfl, h⟩
theorem db {P : Bool → Prop} {i : Bool} (h : P i) : ∃ j, PyData.bool i = .bool j ∧ P j := ⟨i, rfl, h⟩
theorem dl {P : List PyData → Prop} {i : List PyData} (h : P i) : ∃ j, PyData.list i = .list j ∧ P j := ⟨i, rfl, h⟩
theorem dt {P : List PyData → Prop} {i : List PyData} (h : P i) : ∃ j, PyData.tuple i = .tuple j ∧ P j := ⟨i, rfl, h⟩
theorem dll {P : List PyData → Prop} {i : List PyData} (h : P i) : ∃ j, (PyData.list i = .list j ∨ PyData.list i = .tuple j) ∧ P j := ⟨i, .inl rfl, h⟩
theorem dlt {P : List PyData → Prop} {i : List PyData} (h : P i) : ∃ j, (PyData.tuple i = .list j ∨ PyData.tuple i = .tuple j) ∧ P j := ⟨i, .inr rfl, h⟩
theorem eqii {P : Bool → Prop} {i j : Int} (h : P (decide (i = j))) : ∃ b, EqD (.int i) (.int j) b ∧ P b := ⟨_, .ii i j, h⟩
theorem eqbb {P : Bool → Prop} {x y : Bool} (h : P (x == y)) : ∃ b, EqD (.bool x) (.bool y) b ∧ P b := ⟨_, .bb x y, h⟩
theorem at_ {ds : List PyData} {k : Int} {e : PyData} {P : PyData → Prop} (h : atI ds k = some e) (q : P e) : ∃ e, atI ds k = some e ∧ P e := ⟨e, h, q⟩
theorem lnil {A : Prop} (q : A) : ([] : List Fd).length ≤ 10000 ∧ A := ⟨by decide, q⟩
theorem cnd {C A : Prop} (c : C) (q : A) : C ∧ A := ⟨c, q⟩
end R
end L2

set_option maxRecDepth 100000
set_option maxHeartbeats 1000000
namespace L2
open PySem PySem.Spec PyProof.Rows
abbrev Prs := List (Int × Int)
abbrev Wo := List (Option Int)
abbrev prsD (prs : Prs) : PyData := .list (prs.map pairD)
abbrev netD (p n : Int) (cs : List Prs) : PyData := .tuple [.int p, .int n, .list (cs.map prsD)]
theorem atI_nat' {α β : Type} {xs : List α} (φ : α → β) {k : Int} {m : Nat} (h0 : 0 ≤ k) (h1 : k < m) (hm : m = xs.length) : ∃ x, xs[k.toNat]? = some x ∧ atI (xs.map φ) k = some (φ x) := by
  have hk : k.toNat < xs.length := by omega
  exact ⟨xs[k.toNat], List.getElem?_eq_getElem hk, atI_some h0 (by rw [List.getElem?_map, List.getElem?_eq_getElem hk]; rfl)⟩
theorem map_at {α β : Type} {xs : List α} {φ : α → β} {i : Nat} {d : β} (h : (xs.map φ)[i]? = some d) : ∃ x, xs[i]? = some x ∧ d = φ x := by
  rw [List.getElem?_map] at h
  obtain ⟨x, hx, e⟩ := Option.map_eq_some_iff.mp h
  exact ⟨x, hx, e.symm⟩
theorem take_snoc {α : Type} {xs : List α} {i : Nat} {x : α} (h : xs[i]? = some x) : xs.take (i + 1) = xs.take i ++ [x] := by
  rw [List.take_add_one, h]; rfl
end L2

set_option maxRecDepth 100000
set_option maxHeartbeats 4000000
namespace L2
open PySem PySem.Spec PyProof.Rows
structure Eu (p b L lt r t : Int) : Prop where
  l0 : 0 < L
  r0 : 0 ≤ r
  lp : L ≤ p
  rp : r ≤ p
  lc : ∃ k, L = lt * b + p * k
  rc : ∃ k, r = t * b + p * k
  dv : ∀ d, d ∣ L → d ∣ r → d ∣ p ∧ d ∣ b % p
  sz : (t.natAbs : Int) * L + (lt.natAbs : Int) * r ≤ p
end L2

set_option maxRecDepth 100000
set_option maxHeartbeats 1000000
namespace L2
open PySem PySem.Spec PyProof.Rows
def Ris (xs : Array Nat) : Prop := ∀ (i j x y : Nat), i < j → xs[i]? = some x → xs[j]? = some y → x < y
theorem below_go {xs : Array Nat} {q : Nat} (hr : Ris xs) : ∀ (f lo hi : Nat), hi ≤ xs.size → lo ≤ hi → hi - lo ≤ f → (∀ i x, i < lo → xs[i]? = some x → x < q) → (∀ i x, hi ≤ i → xs[i]? = some x → q ≤ x) →
    lo ≤ SetTable.below.go xs q f lo hi ∧ SetTable.below.go xs q f lo hi ≤ hi ∧ (∀ i x, i < SetTable.below.go xs q f lo hi → xs[i]? = some x → x < q) ∧ (∀ i x, SetTable.below.go xs q f lo hi ≤ i → xs[i]? = some x → q ≤ x) := by
  intro f
  induction f with
  | zero =>
    intro lo hi h1 h2 h3 h4 h5
    have e : lo = hi := by omega
    subst e
    exact ⟨Nat.le_refl _, Nat.le_refl _, h4, h5⟩
  | succ f ih =>
    intro lo hi h1 h2 h3 h4 h5
    unfold SetTable.below.go
    by_cases hlt : lo < hi
    · rw [if_pos hlt]
      have hm : (lo + hi) / 2 < xs.size := by omega
      have hg : xs[(lo + hi) / 2]? = some xs[(lo + hi) / 2] := Array.getElem?_eq_getElem hm
      have hgd : xs.getD ((lo + hi) / 2) q = xs[(lo + hi) / 2] := by rw [Array.getD_eq_getD_getElem?, hg]; rfl
      dsimp only
      rw [hgd]
      by_cases hc : xs[(lo + hi) / 2] < q
      · rw [if_pos hc]
        obtain ⟨a1, a2, a3, a4⟩ := ih ((lo + hi) / 2 + 1) hi h1 (by omega) (by omega) (fun i x hi' e => by
          rcases Nat.lt_or_ge i ((lo + hi) / 2) with z | z
          · exact Nat.lt_trans (hr i _ x _ z e hg) hc
          · have : i = (lo + hi) / 2 := by omega
            subst this; rw [hg] at e; cases e; exact hc) h5
        exact ⟨by omega, a2, a3, a4⟩
      · rw [if_neg hc]
        obtain ⟨a1, a2, a3, a4⟩ := ih lo ((lo + hi) / 2) (by omega) (by omega) (by omega) h4 (fun i x hi' e => by
          rcases Nat.lt_or_ge ((lo + hi) / 2) i with z | z
          · exact Nat.le_of_lt (Nat.lt_of_le_of_lt (Nat.le_of_not_lt hc) (hr _ i _ x z hg e))
          · have : i = (lo + hi) / 2 := by omega
            subst this; rw [hg] at e; cases e; exact Nat.le_of_not_lt hc)
        exact ⟨a1, by omega, a3, a4⟩
    · rw [if_neg hlt]
      have e : lo = hi := by omega
      subst e
      exact ⟨Nat.le_refl _, Nat.le_refl _, h4, h5⟩
theorem below_at {xs : Array Nat} {q : Nat} (hr : Ris xs) : SetTable.below xs q ≤ xs.size ∧ (∀ i x, i < SetTable.below xs q → xs[i]? = some x → x < q) ∧ (∀ i x, SetTable.below xs q ≤ i → xs[i]? = some x → q ≤ x) := by
  obtain ⟨_, h2, h3, h4⟩ := below_go (q := q) hr xs.size 0 xs.size (Nat.le_refl _) (Nat.zero_le _) (by omega) (fun i x h => absurd h (Nat.not_lt_zero _)) (fun i x h e => by
    have := (Array.getElem?_eq_some_iff.mp e).1; omega)
  exact ⟨h2, h3, h4⟩
theorem insertAt_get {α : Type} {xs : Array α} {p : Nat} {x : α} (hp : p ≤ xs.size) (i : Nat) : (SetTable.insertAt xs p x)[i]? = if i < p then xs[i]? else if i = p then some x else xs[i - 1]? := by
  unfold SetTable.insertAt
  rw [Array.getElem?_append]
  have e1 : ((xs.extract 0 p).push x).size = p + 1 := by rw [Array.size_push, Array.size_extract]; omega
  rw [e1]
  by_cases h1 : i < p
  · rw [if_pos (show i < p + 1 by omega), if_pos h1, Array.getElem?_push, if_neg (by rw [Array.size_extract]; omega), Array.getElem?_extract_of_lt (by omega)]
    simp
  · rw [if_neg h1]
    by_cases h2 : i = p
    · rw [if_pos (show i < p + 1 by omega), if_pos h2, Array.getElem?_push, if_pos (by rw [Array.size_extract]; omega)]
    · rw [if_neg (show ¬ i < p + 1 by omega), if_neg h2]
      by_cases h3 : i - (p + 1) < xs.size - p
      · rw [Array.getElem?_extract_of_lt (by omega), ← Array.getElem?_eq_getElem, show p + (i - (p + 1)) = i - 1 by omega]
      · rw [Array.getElem?_eq_none (by rw [Array.size_extract]; omega), Array.getElem?_eq_none (by omega)]
theorem Ris.insert {xs : Array Nat} {q : Nat} (hr : Ris xs) (hq : xs[SetTable.below xs q]? ≠ some q) : Ris (SetTable.insertAt xs (SetTable.below xs q) q) := by
  obtain ⟨h1, h2, h3⟩ := below_at (q := q) hr
  have h3' : ∀ i x, SetTable.below xs q ≤ i → xs[i]? = some x → q < x := fun i x hi e => by
    rcases Nat.lt_or_eq_of_le (h3 i x hi e) with z | z
    · exact z
    · subst z
      rcases Nat.lt_or_eq_of_le hi with z | z
      · have hb : SetTable.below xs q < xs.size := Nat.lt_of_lt_of_le z (Nat.le_of_lt (Array.getElem?_eq_some_iff.mp e).1)
        have hg : xs[SetTable.below xs q]? = some xs[SetTable.below xs q] := Array.getElem?_eq_getElem hb
        have := hr _ i _ q z hg e
        have := h3 _ _ (Nat.le_refl _) hg
        omega
      · rw [← z] at e; exact absurd e hq
  intro i j x y hij ex ey
  rw [insertAt_get h1] at ex ey
  by_cases a : i < SetTable.below xs q
  · rw [if_pos a] at ex
    by_cases b : j < SetTable.below xs q
    · rw [if_pos b] at ey; exact hr i j x y hij ex ey
    · rw [if_neg b] at ey
      by_cases c : j = SetTable.below xs q
      · rw [if_pos c] at ey; cases ey; exact h2 i x a ex
      · rw [if_neg c] at ey; exact hr i (j - 1) x y (by omega) ex ey
  · rw [if_neg a] at ex
    by_cases c : i = SetTable.below xs q
    · rw [if_pos c] at ex; cases ex
      rw [if_neg (by omega), if_neg (by omega)] at ey
      exact h3' (j - 1) y (by omega) ey
    · rw [if_neg c] at ex
      rw [if_neg (by omega), if_neg (by omega)] at ey
      exact hr (i - 1) (j - 1) x y (by omega) ex ey
theorem probe_free {t : SetTable} {ha : Nat → Int} {h : Int} : ∀ (f : Nat) (p : SetTable.Probe) (j : Nat) (dm : Option Nat), (∀ d, p.dummy = some d → t.slot d = .dummy) → SetTable.probe.go t ha h f p = some (.empty j dm) → t.slot j = .empty ∧ ∀ d, dm = some d → t.slot d = .dummy := by
  intro f
  induction f with
  | zero => intro p j dm _ e; unfold SetTable.probe.go at e; cases e
  | succ f ih =>
    intro p j dm hd e
    have adv : ∀ p : SetTable.Probe, (t.advance p).dummy = p.dummy := fun p => by unfold SetTable.advance; split <;> rfl
    unfold SetTable.probe.go at e
    cases hs : t.slot p.j with
    | empty => rw [hs] at e; cases e; exact ⟨hs, hd⟩
    | dummy => rw [hs] at e; exact ih _ j dm (fun d h' => by rw [adv] at h'; cases h'; exact hs) e
    | live i =>
      rw [hs] at e
      dsimp only at e
      split at e
      · cases e
      · exact ih _ j dm (fun d h' => by rw [adv] at h'; exact hd d h') e
theorem free_not_live {t : SetTable} {h : Int} {j : Nat} {wd : Bool} (e : t.freeSlot h = some (j, wd)) : ∀ i, t.slot j ≠ .live i := by
  unfold SetTable.freeSlot SetTable.probe at e
  intro i z
  split at e
  · rename_i j0 dm he
    obtain ⟨h1, h2⟩ := probe_free (10 * SetTable.turns t.mask) (t.probeStart h) j0 dm (fun d h' => by unfold SetTable.probeStart at h'; cases h') he
    cases dm with
    | none => cases e; simp at z; rw [h1] at z; cases z
    | some d => cases e; simp at z; rw [h2 d rfl] at z; cases z
  · cases e
structure TOk (bt : Bool) (t : SetTable) : Prop where
  led : bt = false → t.led = true
  ris : t.plain = true → Ris t.place
theorem TOk.standIn {bt : Bool} {t : SetTable} (h : TOk bt t) (n : Nat) : TOk bt (t.standIn n) := ⟨h.led, fun z => by cases z⟩
theorem TOk.off {bt : Bool} {t : SetTable} (h : TOk bt t) : TOk bt { t with plain := false } := ⟨h.led, fun z => by cases z⟩
theorem TOk.put {bt : Bool} {t : SetTable} {j : Nat} (h : TOk bt t) (hj : ∀ i, t.slot j ≠ .live i) : TOk bt (t.put j).1 := by
  refine ⟨h.led, fun z => ?_⟩
  refine Ris.insert (h.ris z) fun e => hj (SetTable.below t.place j) ?_
  unfold SetTable.slot
  dsimp only
  rw [if_pos (by rw [e]; exact beq_self_eq_true _)]
theorem TOk.layNew {bt : Bool} {t : SetTable} {es : Array (Int × Value)} {h : Int} {x : Value} (ok : TOk bt t) : TOk bt (layNew t es h x).2.1 := by
  unfold PySem.layNew
  split
  · rename_i slot wd e
    dsimp only
    unfold SetTable.orStandIn
    split
    · exact ok.put (free_not_live e)
    · exact (ok.put (free_not_live e)).standIn _
  · exact ok.standIn _
theorem range_rise (n : Nat) (φ : Nat → Option Nat) : Ris (((List.range n).filterMap fun j => (φ j).map (j, ·)).map (·.1)).toArray := by
  have hp : (((List.range n).filterMap fun j => (φ j).map (j, ·)).map (·.1)).Pairwise (· < ·) := by
    have hs : List.Sublist (((List.range n).filterMap fun j => (φ j).map (j, ·)).map (·.1)) (List.range n) := by
      induction List.range n with
      | nil => simp
      | cons a r ih =>
        rw [List.filterMap_cons]
        cases φ a with
        | none => exact ih.cons a
        | some y => exact ih.cons₂ a
    exact List.pairwise_lt_range.sublist hs
  intro i j x y hij ex ey
  rw [List.getElem?_toArray] at ex ey
  obtain ⟨hi, rfl⟩ := List.getElem?_eq_some_iff.mp ex
  obtain ⟨hj, rfl⟩ := List.getElem?_eq_some_iff.mp ey
  exact List.pairwise_iff_getElem.mp hp i j hi hj hij
theorem TOk.relay {bt : Bool} {t : SetTable} {es : Array (Int × Value)} {n : Nat} (ok : TOk bt t) : TOk bt (relayAll t es n).2.1 := by
  unfold relayAll
  split
  · rename_i t' order e
    dsimp only
    split
    · unfold SetTable.relaid SetTable.laid at e
      cases hl : SetTable.layClean (SetTable.sizeAbove n - 1) (es.map (·.1)) with
      | none => rw [hl] at e; cases e
      | some owner =>
        rw [hl] at e
        cases e
        exact ⟨ok.led, fun _ => range_rise _ _⟩
    · exact ok.standIn _
  · exact ok.standIn _
theorem TOk.fresh {bt : Bool} : TOk bt (.fresh 0 0 (!bt)) := ⟨fun h => by rw [h]; rfl, fun _ i j x y _ e => by simp [SetTable.fresh] at e⟩
end L2

set_option maxRecDepth 100000
set_option maxHeartbeats 4000000
namespace L2
open PySem PySem.Spec PyProof.Rows
def TAt (bt : Bool) (h : Heap) (a : Addr) : Prop := ∀ o es ep t, h.get? a = some o → o.data = .set es ep t → TOk bt t
theorem TAt.of {bt : Bool} {h : Heap} {a : Addr} {o : Obj} {es : Array (Int × Value)} {ep : Nat} {t : SetTable} (e : h.get? a = some o) (d : o.data = .set es ep t) (k : TOk bt t) : TAt bt h a := fun o' es' ep' t' e' d' => by
  rw [e] at e'; cases e'; rw [d] at d'; cases d'; exact k
theorem TAt.keep {bt : Bool} {h h' : Heap} {a : Addr} {o : Obj} (k : TAt bt h a) (e : h.get? a = some o) (e' : h'.get? a = some o) : TAt bt h' a := fun o1 es ep t x d => by
  rw [e'] at x; cases x; exact k o es ep t e d
section
variable {prog : Program} {w : World} {A : Around} {E : Value → Shared → Prop} {s : Shared} {a : Addr} {bt : Bool}
abbrev IK (prog : Program) (w : World) := intKind prog w
theorem store_G {o : Obj} {es es' : Array (Int × Value)} {ep : Nat} {t t' : SetTable} {T : Int → Bool} {h : Heap} (g1 : h.get? a = some o) (g2 : o.ExactSet) (g3 : o.data = .set es ep t) (l1 : ElemsOf (IK prog w) es'.toList)
    (l2 : ∀ k, T k = true ↔ ∃ e ∈ es'.toList, (IK prog w).is k e.2 = true) (l3 : es'.size < scanBound) (l4 : t'.fits es'.size = true) (tk : TOk bt t') :
    (∃ o', (h.update a (Obj.putSet es' t')).get? a = some o' ∧ o'.ExactSet ∧ o'.data = .set es' (ep + 1) t') ∧ (h.update a (Obj.putSet es' t')).SetOf (IK prog w) a T es'.size ∧ TAt bt (h.update a (Obj.putSet es' t')) a := by
  obtain ⟨q1, q2⟩ := SetOf_store (knd := IK prog w) (es' := es') (t' := t') (S' := T) g1 g2 g3 l1 l2 l3 l4
  exact ⟨⟨_, q1, g2, rfl⟩, q2, .of q1 rfl tk⟩
theorem tail_G {gg : Bool → Sem Unit} (hgg : ∀ (b : Bool) (s₁ : Shared) (Q₁ : Unit → Shared → Prop), Q₁ () s₁ → wpAny (model prog w) A (gg b) Q₁ E s₁) {o : Obj} {es : Array (Int × Value)} {ep : Nat} {t : SetTable}
    (g1 : s.heap.get? a = some o) (g2 : o.ExactSet) (g3 : o.data = .set es ep t) {es1 : Array (Int × Value)} {t2 : SetTable} {T : Int → Bool} (l1 : ElemsOf (IK prog w) es1.toList) (l2 : ∀ k, T k = true ↔ ∃ e ∈ es1.toList, (IK prog w).is k e.2 = true)
    (l3 : es1.size < scanBound) (l4 : t2.fits es1.size = true) (tk : TOk bt t2) {wd : Bool} {R : Option Bool → Shared → Prop}
    (fin : ∀ h', Heap.SameBut a s.heap h' → h'.SetOf (IK prog w) a T es1.size → TAt bt h' a → R (some true) { s with heap := h' }) :
    wpAny (model prog w) A (do storeSet a es1 t2
                               if (!wd && t2.tooFull) = true then do
                                 gg (relayAll t2 es1 (SetTable.grown es1.size)).2.2
                                 storeSet a (relayAll t2 es1 (SetTable.grown es1.size)).1 (relayAll t2 es1 (SetTable.grown es1.size)).2.1
                                 pure (some true)
                               else pure (some true)) R E s := by
  obtain ⟨⟨o1, k1, k2, k3⟩, q1, q2⟩ := store_G (T := T) g1 g2 g3 l1 l2 l3 l4 tk
  have sb := Heap.SameBut.update s.heap a (Obj.putSet es1 t2)
  refine wpAny_bind (wpAny_storeSet_of g1 g3 ?_ (fits_of_scanBound l3))
  by_cases c : (!wd && t2.tooFull) = true
  · rw [if_pos c]
    have pp := relayAll_perm t2 es1 (SetTable.grown es1.size)
    have pf := relayAll_fits t2 es1 (SetTable.grown es1.size)
    have pt := tk.relay (es := es1) (n := SetTable.grown es1.size)
    generalize relayAll t2 es1 (SetTable.grown es1.size) = Z at pp pf pt ⊢
    obtain ⟨es2, t3, gave⟩ := Z
    dsimp only at pp pf pt ⊢
    have sz : es2.size = es1.size := by have := pp.length_eq; rwa [Array.length_toList, Array.length_toList] at this
    have l2' : ∀ k, T k = true ↔ ∃ e ∈ es2.toList, (IK prog w).is k e.2 = true := fun k => (l2 k).trans ⟨fun ⟨e, m, z⟩ => ⟨e, pp.mem_iff.mpr m, z⟩, fun ⟨e, m, z⟩ => ⟨e, pp.mem_iff.mp m, z⟩⟩
    obtain ⟨_, r1, r2⟩ := store_G (T := T) k1 k2 k3 (l1.perm pp) l2' (by rw [sz]; exact l3) pf pt
    refine wpAny_bind (hgg _ _ _ (wpAny_bind (wpAny_storeSet_of k1 k3 ?_ (fits_of_scanBound (by rw [sz]; exact l3)))))
    rw [sz] at r1
    exact wpAny_pure (fin _ (sb.trans (Heap.SameBut.update _ a _)) r1 r2)
  · rw [if_neg c]
    exact wpAny_pure (fin _ sb q1 q2)
theorem add_G {S : Int → Bool} {n : Nat} {k : Int} {x : Value} {Q : Bool → Shared → Prop} (hx : (IK prog w).is k x = true) (sc : x.scannable = true) (hS : s.heap.SetOf (IK prog w) a S n) (hT : TAt bt s.heap a) (room : n + 1 < scanBound)
    (fin : ∀ h', Heap.SameBut a s.heap h' → h'.SetOf (IK prog w) a (fun j => S j || decide (j = k)) (if S k then n else n + 1) → TAt bt h' a → Q (!S k) { s with heap := h' }) :
    wpAny (model prog w) A (setAddHashed a x ((IK prog w).hash k)) Q E s := by
  obtain ⟨o, es, ep, t, g1, g2, g3, l1, l2, l3, l4, sz⟩ := hS
  have tk := hT o es ep t g1 g3
  unfold setAddHashed setAddHashedIn
  refine wpAny_holding (wpAny_bind (wpAny_setState_of g1 g3 l4 ?_))
  dsimp only
  rw [if_pos (byScan_of sc l3 l1)]
  unfold setAddByScan
  refine wpAny_bind (wpAny_bind (wpAny_rule (wpAny_bind (wpAny_setScan_of hx g1 g3 l4 l1 ?_))))
  cases fr : List.findIdx? (fun e => (IK prog w).is k e.2) es.toList with
  | some j =>
    obtain ⟨hj, pj, _⟩ := List.findIdx?_eq_some_iff_getElem.mp fr
    have yes : S k = true := (l2 k).mpr ⟨_, List.getElem_mem hj, pj⟩
    have z := fin s.heap (.refl a s.heap) ⟨o, es, ep, t, g1, g2, g3, l1, fun j => by
      rw [Bool.or_eq_true, decide_eq_true_eq, ← l2 j]
      exact ⟨fun q => q.elim id fun e => e ▸ yes, .inl⟩, l3, l4, by rw [if_pos yes]; exact sz⟩ hT
    rw [yes] at z
    exact wpAny_pure (wpAny_pure z)
  | none =>
    have no : S k = false := by
      cases q : S k with
      | false => rfl
      | true =>
        obtain ⟨e, m, p⟩ := (l2 k).mp q
        rw [List.findIdx?_eq_none_iff.mp fr e m] at p; cases p
    have pp := layNew_perm t es ((IK prog w).hash k) x
    have pf := layNew_fits t es ((IK prog w).hash k) x
    have pt := tk.layNew (es := es) (h := (IK prog w).hash k) (x := x)
    dsimp only
    generalize layNew t es ((IK prog w).hash k) x = Z at pp pf pt ⊢
    obtain ⟨es1, t1, wd, gave⟩ := Z
    dsimp only at pp pf pt ⊢
    rw [Array.toList_push] at pp
    have sz1 : es1.size = n + 1 := by have := pp.length_eq; rw [List.length_append, Array.length_toList, Array.length_toList, sz] at this; exact this
    have fin' : ∀ h', Heap.SameBut a s.heap h' → h'.SetOf (IK prog w) a (fun j => S j || decide (j = k)) es1.size → TAt bt h' a → Q true { s with heap := h' } := fun h' x1 x2 x3 => by
      have := fin h' x1; rw [no, if_neg Bool.false_ne_true] at this; rw [sz1] at x2; exact this x2 x3
    have gw : ∀ (b : Bool) (s₁ : Shared) (Q₁ : Unit → Shared → Prop), Q₁ () s₁ → wpAny (model prog w) A (match b with | true => rule "set.scan.the-table-gave-way" | false => pure ()) Q₁ E s₁ := fun b s₁ Q₁ q => by
      cases b
      · exact wpAny_pure q
      · exact wpAny_rule q
    refine wpAny_bind (gw _ _ _ ?_)
    have e1 := (l1.push hx sc).perm pp
    have e2 := mem_push_iff hx l2 pp
    have e3 : es1.size < scanBound := by rw [sz1]; exact room
    by_cases pl : t1.plain = true
    · rw [if_pos pl, hashByValue_scannable 8 sc]
      refine wpAny_bind (wpAny_pure ?_)
      refine tail_G gw g1 g2 g3 e1 e2 e3 ?_ ?_ fun h' x1 x2 x3 => wpAny_pure (fin' h' x1 x2 x3)
      · split
        · exact pf
        · exact SetTable.fits_plain_off pf
      · split
        · exact pt
        · exact pt.off
    · rw [if_neg pl]
      refine wpAny_bind (wpAny_pure ?_)
      rw [if_pos rfl]
      exact tail_G gw g1 g2 g3 e1 e2 e3 pf pt fun h' x1 x2 x3 => wpAny_pure (fin' h' x1 x2 x3)
end
end L2

set_option maxRecDepth 100000
set_option maxHeartbeats 4000000
namespace L2
open PySem PySem.Spec PyProof.Rows
section
variable {prog : Program} {w : World} {A : Around} {R : Result → Shared → Prop} {I : Addr} {fp wr : List Addr} {G : Array GenState → Array GenState → Prop} {n : Nat} {P : Nat → Value → Prop} {St : Nat → Shared → Prop} {bt : Bool}
abbrev met (val : Nat → Int) (i : Nat) : Int → Bool := fun k => (firstMet val i).any (· == k)
theorem loop_G (W : WalksS prog w A.in1 I fp wr G n P St) (C : Addr) (nC : C ∉ fp) (val : Nat → Int) (hv : ∀ i v, P i v → ∃ t, v = .int (val i) t) (room : n + 1 < scanBound) (fuel : Nat) :
    ∀ (i : Nat) (s : Shared), n - i = fuel → i ≤ n → St i s → s.heap.SetOf (IK prog w) C (met val i) (firstMet val i).length → TAt bt s.heap C →
      (∀ s', Moved (C :: wr) G s s' → s'.heap.SetOf (IK prog w) C (met val n) (firstMet val n).length → TAt bt s'.heap C → R (.ok (.ret .none)) s') →
      codeAny (model prog w) A (.builtin "set.update.loop" ⟨[.ref C, .ref I], []⟩) R s := by
  have nw : C ∉ wr := fun z => nC (W.sub _ z)
  have up : ∀ b ∈ wr, b ∈ C :: wr := fun b z => List.mem_cons_of_mem _ z
  have mv : ∀ {s s' : Shared} {T : Int → Bool} {m : Nat}, Moved wr G s s' → s.heap.SetOf (IK prog w) C T m → TAt bt s.heap C → s'.heap.SetOf (IK prog w) C T m ∧ TAt bt s'.heap C := fun mo q tt => by
    obtain ⟨o, es, ep, t, ho, r⟩ := q
    exact ⟨⟨o, es, ep, t, mo.heap C _ nw ho, r⟩, tt.keep ho (mo.heap C _ nw ho)⟩
  induction fuel with
  | zero =>
    intro i s e1 e2 st q tt fin
    obtain rfl : i = n := by omega
    refine codeAny_builtin F.entry_set_update_loop ?_
    rw [Around.under_plainId F.plain_set_update_loop _]
    refine wpAny_bind (W.done s _ _ st fun s' mo => ?_)
    exact wpAny_pure (fin s' (mo.mono up) (mv mo q tt).1 (mv mo q tt).2)
  | succ fuel ih =>
    intro i s e1 e2 st q tt fin
    have lt : i < n := by omega
    refine codeAny_builtin F.entry_set_update_loop ?_
    rw [Around.under_plainId F.plain_set_update_loop _]
    refine wpAny_bind (W.item i s _ _ lt st fun v s' hP st' mo => ?_)
    obtain ⟨tok, rfl⟩ := hv i v hP
    obtain ⟨q', tt'⟩ := mv mo q tt
    show wpAny _ A.in1 (holding [Value.int (val i) tok] (setAdd C (.int (val i) tok)) >>= _) _ _ s'
    unfold setAdd
    refine wpAny_bind (wpAny_holding (wpAny_holding (wpAny_bind ((IK prog w).pyHash (k := val i) (intKind_is _ _ _ _) ?_))))
    refine add_G (bt := bt) (s := { s' with toks := s'.toks + 1 }) (intKind_is _ _ _ _) rfl q' tt' (by have := firstMet_length_le val i; omega) fun h' sb q2 tt2 => ?_
    have q3 : h'.SetOf (IK prog w) C (met val (i + 1)) (firstMet val (i + 1)).length := SetOf_congr q2 (fun j => by unfold met; rw [firstMet_succ, step_any]) (by rw [firstMet_succ, step_length])
    refine wpAny_pure ⟨plainId_quiet F.plain_set_update_loop _, ih (i + 1) _ (by omega) lt (W.frame _ s' _ _ st' (Nat.le_succ _) fun b hb o e => ?_) q3 tt2 fun s2 mo2 q4 tt4 => ?_⟩
    · rw [sb.2 b fun z : b = C => nC (z ▸ hb)]; exact e
    · refine fin s2 (Moved.trans W.gtrans ((mo.mono up).then_heap (Nat.le_succ _) fun b o hb e => ?_) mo2) q4 tt4
      rw [sb.2 b fun z : b = C => hb (z ▸ List.mem_cons_self)]; exact e
end
section
variable {prog : Program} {w : World} {A : Around} {E : Value → Shared → Prop} {s : Shared}
abbrev byText (w : World) : Bool := w.params.followText "set-order"
abbrev newSetO (w : World) : Obj := { cls := .type "set", dict := none, data := .set #[] 0 (.fresh 0 0 (!byText w)) }
theorem new_G (a : Value) {Q₁ : Value → Shared → Prop} (fin : Q₁ (.ref s.heap.objs.size) { s with heap := s.heap.push (newSetO w) }) : codeAny (model prog w) A (.call (.builtin "set.__new__") ⟨[.type "set", a], []⟩) (wants Q₁ E) s := by
  refine codeAny_of_tree ?_
  show wpAny _ A.in1 (do checkBuiltinCall "set.__new__" ⟨[.type "set", a], []⟩; again (.builtin "set.__new__" ⟨[.type "set", a], []⟩)) _ _ s
  refine wpAny_bind (wpAny_of_eq (F.newCall_set_1 a) (wpAny_pure ⟨plainId_quiet F.plain_set_new _, codeAny_builtin F.entry_set_new ?_⟩))
  rw [Around.under_plainId F.plain_set_new _]
  unfold Builtin.«set.__new__» Builtin.Frozenset.newClass
  have hsub := sub_set_self
  obtain ⟨hp, g, d, tk, os⟩ := s
  dsimp only at fin ⊢
  wp_walk
  refine wpAny_askSetting (wpAny_pure ?_)
  dsimp only
  simp only [newObj]
  exact wpAny_bind (wpAny_alloc (wpAny_pure (wpAny_pure fin)))
theorem callset_G {l : Addr} {items : Array Value} {ns : List Int} {Q : Value → Shared → Prop} (hh : A.handled = none) (hl : s.heap.IsList l items) (hi : IntsAre items.toList ns) (room : items.size + 1 < scanBound)
    (fin : ∀ (h' : Heap) (tk : Nat), h'.SetOf (IK prog w) s.heap.objs.size (met (fun i => ns.getD i 0) items.size) (firstMet (fun i => ns.getD i 0) items.size).length → TAt (byText w) h' s.heap.objs.size →
      (∀ b o, b < s.heap.objs.size → s.heap.get? b = some o → h'.get? b = some o) → Q (.ref s.heap.objs.size) { s with heap := h', toks := tk }) : wpAny (model prog w) A (call (.type "set") [.ref l]) Q E s := by
  obtain ⟨c, tl, hmro⟩ := F.called_set.mro
  have hmade := F.called_set.made
  have hsub := F.called_set.sub
  have h1 := F.called_set.notType
  have h2 := F.called_set.canCreate
  have hct := F.typeCall_set_1 (.ref l)
  refine wpAny_call (codeAny_of_tree ?_)
  show wpAny _ _ (callAny (.type "set") _) _ _ _
  refine wpAny_pure ⟨Code.quiet_builtin _ (by decide +kernel), codeAny_builtin F.entry_type_call ?_⟩
  rw [Around.under_plain (weight_type_call_type "set" [.ref l] []) rfl]
  repeat (any_goals (first | assumption | wp_step))
  refine codeAny_mono (new_G (.ref l) (E := E) (Q₁ := fun obj s₁ => obj = .ref s.heap.objs.size ∧ s₁ = { s with heap := s.heap.push (newSetO w) }) ⟨rfl, rfl⟩) fun r s₁ hr => ?_
  cases r with
  | error e => exact hr
  | ok fl =>
    cases fl with
    | ret obj =>
      obtain ⟨rfl, rfl⟩ := hr
      have hS : (s.heap.push (newSetO w)).get? s.heap.objs.size = some (newSetO w) := Heap.get?_push_size _ rfl
      have hT : Shared.TypeIs { s with heap := s.heap.push (newSetO w) } (.ref s.heap.objs.size) "set" := ⟨_, hS, rfl⟩
      have hli := F.called_set.init.lookup
      have hbi := F.called_set.init.bind (.ref s.heap.objs.size)
      repeat (any_goals (first | assumption | wp_step))
      refine codeAny_mono (codeAny_call_builtin (R := wants (fun r s₂ => r = .none ∧ ∃ h' tk, s₂ = { s with heap := h', toks := tk } ∧ h'.SetOf (IK prog w) s.heap.objs.size (met (fun i => ns.getD i 0) items.size) (firstMet (fun i => ns.getD i 0) items.size).length ∧ TAt (byText w) h' s.heap.objs.size ∧
          (∀ b o, b < s.heap.objs.size → s.heap.get? b = some o → h'.get? b = some o)) E) F.called_set.init.plain F.entry_set_init (check_set_init_1 hT ?_)) fun r₂ s₂ hr₂ => ?_
      · obtain ⟨ol, hol, hcl, nl, hdl⟩ := hl
        obtain ⟨ocls, odict, odata, oslots⟩ := ol
        simp only at hcl hdl
        subst hcl; subst hdl
        have hol' := Heap.get?_push_of_some (newSetO w) hol
        have hsls := F.sub_list_set
        have hslf := F.sub_list_frozenset
        have hne : (Value.type "list" == Value.type "dict") = false := by decide
        have hl1 : (s.heap.push (newSetO w)).IsList l items := ⟨_, hol', rfl, nl, rfl⟩
        unfold Builtin.«set.__init__» noKeywords Builtin.Frozenset.updateFrom
        generalize hPI : pyIter = PI
        wp_walk
        subst hPI
        refine wpAny_pyIter_list hl1 (wpAny_bind (wpAny_runValue ?_))
        have hlS : l < s.heap.objs.size := Heap.lt_size hol
        have sz1 : (s.heap.push (newSetO w)).objs.size = s.heap.objs.size + 1 := Heap.size_push ..
        have n1 : l ≠ (s.heap.push (newSetO w)).objs.size := by rw [sz1]; exact Nat.ne_of_lt (Nat.lt_succ_of_lt hlS)
        have n2 : s.heap.objs.size ∉ [(s.heap.push (newSetO w)).objs.size, l] := by
          rw [sz1]; intro z; rcases List.mem_cons.mp z with z | z
          · exact absurd z (Nat.ne_of_lt (Nat.lt_succ_self _))
          · exact absurd (List.mem_singleton.mp z) (Nat.ne_of_gt hlS)
        have h3 : A.in1.in1.in1.handled = none := by simp [hh]
        have hS' := Heap.get?_push_of_some ({ cls := .type "list_iterator", data := .fields #[.ref l, .int 0 0] } : Obj) hS
        refine loop_G (bt := byText w) ((Walks.list h3 _ l n1 items).toS) s.heap.objs.size n2 (fun i => ns.getD i 0) (fun i v e => IntsAre.int_at hi i v (by rw [Array.getElem?_toList]; exact e)) room (items.size - 0) 0 _ (by omega) (Nat.zero_le _)
          ⟨⟨_, Heap.get?_push_size _ rfl, rfl, rfl⟩, (hl1.push _)⟩ (SetOf_congr ((setObjOf_fresh (knd := IK prog w) (!byText w)).setOf hS' (by unfold scanBound; omega)) (fun _ => rfl) rfl) (.of hS' rfl .fresh) ?_
        intro s' mo q tt
        obtain ⟨h', g', d', tk', os'⟩ := s'
        obtain rfl : g' = s.gens := mo.gens
        obtain rfl : d' = s.drawn := mo.drawn
        obtain rfl : os' = s.os := mo.os
        refine wpAny_pure (wpAny_pure ⟨rfl, h', tk', rfl, q, tt, fun b o hb e => ?_⟩)
        refine mo.heap b o (fun z => ?_) (Heap.get?_push_of_some _ (Heap.get?_push_of_some _ e))
        rcases List.mem_cons.mp z with z | z
        · exact absurd z (Nat.ne_of_lt hb)
        · rw [sz1] at z; exact absurd (List.mem_singleton.mp z) (Nat.ne_of_lt (Nat.lt_succ_of_lt hb))
      · cases r₂ with
        | error e => exact hr₂
        | ok fl₂ =>
          cases fl₂ with
          | ret r =>
            obtain ⟨rfl, h', tk, rfl, q1, q2, q3⟩ := hr₂
            repeat (any_goals (first | assumption | wp_step))
            exact fin _ _ q1 q2 q3
          | _ => exact hr₂.elim
    | _ => exact hr.elim
end
end L2

set_option maxRecDepth 100000
set_option maxHeartbeats 4000000
namespace L2
open PySem PySem.Spec PyProof.Rows
theorem sl_setiter_next : Slot "set_iterator" "__next__" "set_iterator.__next__" := .of (owner := "set_iterator") (n := "__next__") (by rw [typeLookup_type, builtinLookup_eq_fast]; kernel_rfl) (by decide +kernel) (by decide +kernel) (by decide +kernel) (by first | exact .inl (by decide +kernel) | exact .inr (by decide +kernel)) (by rw [isSubtype_type]; kernel_rfl)
theorem en_setiter_next : entryFor table "set_iterator.__next__" = some Builtin.«set_iterator.__next__» := entryFor_of_tree (by kernel_rfl)
theorem ar_setiter_next (a : Value) : argsOk "set_iterator.__next__" ⟨[a], []⟩ := by unfold argsOk; kernel_rfl
theorem sl_set_iter : Slot "set" "__iter__" "set.__iter__" := .of (owner := "set") (n := "__iter__") (by rw [typeLookup_type, builtinLookup_eq_fast]; kernel_rfl) (by decide +kernel) (by decide +kernel) (by decide +kernel) (by first | exact .inl (by decide +kernel) | exact .inr (by decide +kernel)) (by rw [isSubtype_type]; kernel_rfl)
theorem en_set_iter : entryFor table "set.__iter__" = some Builtin.«frozenset.__iter__» := entryFor_alias (id' := "frozenset.__iter__") (by kernel_rfl) rfl (by decide +kernel) (by kernel_rfl)
theorem ar_set_iter (a : Value) : argsOk "set.__iter__" ⟨[a], []⟩ := by unfold argsOk; kernel_rfl
theorem sl_setiter_iter : Slot "set_iterator" "__iter__" "set_iterator.__iter__" := .of (owner := "set_iterator") (n := "__iter__") (by rw [typeLookup_type, builtinLookup_eq_fast]; kernel_rfl) (by decide +kernel) (by decide +kernel) (by decide +kernel) (by first | exact .inl (by decide +kernel) | exact .inr (by decide +kernel)) (by rw [isSubtype_type]; kernel_rfl)
theorem en_setiter_iter : entryFor table "set_iterator.__iter__" = some Builtin.«dict_keyiterator.__iter__» := entryFor_alias (id' := "dict_keyiterator.__iter__") (by kernel_rfl) rfl (by decide +kernel) (by kernel_rfl)
theorem ar_setiter_iter (a : Value) : argsOk "set_iterator.__iter__" ⟨[a], []⟩ := by unfold argsOk; kernel_rfl
end L2

set_option maxRecDepth 100000
set_option maxHeartbeats 4000000
namespace L2
open PySem PySem.Spec PyProof.Rows
section
variable {prog : Program} {w : World} {A : Around} {E : Value → Shared → Prop} {s : Shared} {a it tp : Addr} {o : Obj} {es : Array (Int × Value)} {ep : Nat} {t : SetTable}
theorem erase_perm {α : Type} : ∀ {l : List α} {i : Nat} (h : i < l.length), (l[i] :: l.eraseIdx i).Perm l
  | b :: r, 0, _ => by simp
  | b :: r, i + 1, h => by
    have := erase_perm (l := r) (i := i) (by simpa using h)
    simp only [List.getElem_cons_succ, List.eraseIdx_cons_succ]
    exact (List.Perm.swap b _ _).trans (this.cons b)
theorem pick_perm {α : Type} (nx : Nat → Nat) : ∀ (f k : Nat) (l : List α) (out : Array α), l.length ≤ f → (pickOrder.go nx f k l out).toList.Perm (out.toList ++ l) := by
  intro f
  induction f with
  | zero =>
    intro k l out h
    have : l = [] := List.length_eq_zero_iff.mp (by omega)
    subst this
    unfold pickOrder.go
    simp
  | succ f ih =>
    intro k l out h
    unfold pickOrder.go
    cases l with
    | nil => simp
    | cons b r =>
      have hlt : nx k % (b :: r).length < (b :: r).length := Nat.mod_lt _ (by simp)
      rw [List.getElem?_eq_getElem hlt]
      dsimp only
      refine (ih (k + 1) _ _ (by rw [List.length_eraseIdx_of_lt hlt]; omega)).trans ?_
      rw [Array.toList_push, List.append_assoc]
      refine List.Perm.append_left _ ?_
      exact erase_perm hlt
theorem next_text (bt : byText w = true) (g1 : s.heap.get? a = some o) (g3 : o.data = .set es ep t) (g4 : t.fits es.size = true) {i sl : Nat} {Q : Option (Value × Nat) → Shared → Prop}
    (h : Q (((pickOrder (w.params.setOrder a ep) es)[i]?).map fun e => (e.2, sl)) s) : wpAny (model prog w) A (setNext a sl i ep) Q E s := by
  unfold setNext
  refine wpAny_bind (wpAny_setState_of g1 g3 g4 ?_)
  dsimp only
  unfold setsByText
  refine wpAny_bind (wpAny_bind (wpAny_askSetting (wpAny_pure ?_)))
  show wpAny _ _ (if byText w = true then _ else _) _ _ _
  rw [if_pos bt]
  rw [if_neg (by simp)]
  refine wpAny_bind ?_
  unfold setWalk
  refine wpAny_bind (wpAny_setState_of g1 g3 g4 ?_)
  dsimp only
  unfold setsByText
  refine wpAny_bind (wpAny_bind (wpAny_askSetting (wpAny_pure ?_)))
  show wpAny _ _ (if byText w = true then _ else _) _ _ _
  rw [if_pos bt]
  refine wpAny_bind (wpAny_askSetting (wpAny_pure ?_))
  exact wpAny_pure h
theorem next_plain (bt : byText w = false) (g1 : s.heap.get? a = some o) (g3 : o.data = .set es ep t) (g4 : t.fits es.size = true) (tk : TOk (byText w) t) (pl : t.plain = true ∨ es.size ≤ 1) {i sl : Nat} {Q : Option (Value × Nat) → Shared → Prop}
    (h : Q (match es[SetTable.below t.place sl]?, t.place[SetTable.below t.place sl]? with | some (_, x), some j => some (x, j + 1) | _, _ => none) s) : wpAny (model prog w) A (setNext a sl i ep) Q E s := by
  unfold setNext
  refine wpAny_bind (wpAny_setState_of g1 g3 g4 ?_)
  dsimp only
  unfold setsByText
  refine wpAny_bind (wpAny_bind (wpAny_askSetting (wpAny_pure ?_)))
  show wpAny _ _ (if byText w = true then _ else _) _ _ _
  rw [bt, if_neg Bool.false_ne_true]
  show wpAny _ _ (if (!t.plain && decide (es.size > 1)) = true then _ else _) _ _ _
  rw [if_neg (by
    intro z
    rw [Bool.and_eq_true, Bool.not_eq_true', decide_eq_true_eq] at z
    rcases pl with p | p
    · rw [p] at z; cases z.1
    · omega)]
  refine wpAny_bind ?_
  show wpAny _ _ (if (!t.led && !es.isEmpty) = true then _ else _) _ _ _
  rw [if_neg (by rw [tk.led bt]; simp)]
  refine wpAny_pure ?_
  exact wpAny_pure h
theorem next_drawn (g1 : s.heap.get? a = some o) (g3 : o.data = .set es ep t) (g4 : t.fits es.size = true) {pl : Nat} {hx : Int} {x : Value} {Q : Value → Shared → Prop} (e : es[pl]? = some (hx, x)) (h : Q x s) : wpAny (model prog w) A (setNextDrawn a pl ep) Q E s := by
  unfold setNextDrawn
  refine wpAny_bind (wpAny_setState_of g1 g3 g4 ?_)
  dsimp only
  rw [if_neg (by simp)]
  rw [e]
  exact wpAny_pure h
def SIt (h : Heap) (it a : Addr) (first : Value) (i n ep : Nat) : Prop := ∃ o, h.get? it = some o ∧ o.cls = .type "set_iterator" ∧ o.data = .fields #[first, .int i 0, .ref a, .int n 0, .int ep 0]
theorem SIt.ty {first : Value} {i n : Nat} (h : SIt s.heap it a first i n ep) : s.TypeIs (.ref it) "set_iterator" := let ⟨o, e, c, _⟩ := h; ⟨o, e, c⟩
theorem sit_head {first : Value} {i n : Nat} {QQ : Fin → Shared → Prop} {EE : Value → Shared → Prop} (hit : SIt s.heap it a first i n ep) (g1 : s.heap.get? a = some o) (g3 : o.data = .set es ep t) (g4 : t.fits es.size = true) (hn : es.size = n)
    (h : wpAny (model prog w) A (match first with
      | .int slot _ => (do
        match ← setNext a slot.toNat i ep with
        | some (x, next) => do
          setField (.ref it) 0 (rawInt next)
          setField (.ref it) 1 (rawInt ((i : Int) + 1))
          ret x
        | none => do
          setField (.ref it) 2 .none
          raiseNew (← newExc (.type "StopIteration") []))
      | _ => (do
        let some places ← seqItems? first | unsupported "internal:set_iterator"
        match places[i]? with
        | some (.int place _) => do
          let x ← setNextDrawn a place.toNat ep
          setField (.ref it) 1 (rawInt ((i : Int) + 1))
          ret x
        | some _ => unsupported "internal:set_iterator"
        | none => do
          setField (.ref it) 0 (rawInt 0)
          setField (.ref it) 2 .none
          raiseNew (← newExc (.type "StopIteration") []))) QQ EE s) : wpAny (model prog w) A (Builtin.«set_iterator.__next__» ⟨[.ref it], []⟩) QQ EE s := by
  obtain ⟨oi, ho, hc, hd⟩ := hit
  unfold Builtin.«set_iterator.__next__»
  refine wpAny_bind (wpAny_pure ?_)
  refine wpAny_bind (wpAny_fieldsOf ho hd ?_)
  dsimp only
  refine wpAny_bind (wpAny_setEntries_of g1 g3 g4 ?_)
  rw [if_neg (by rw [hn]; simp)]
  cases first <;> exact h
theorem sit_upd {h : Heap} {first : Value} {i n k : Nat} {x : Value} {oi : Obj} {vs : Array Value} (ho : h.get? it = some oi) (hc : oi.cls = .type "set_iterator") (hd : oi.data = .fields vs) :
    (h.update it (Obj.mapFields (·.setIfInBounds k x))).get? it = some (Obj.mapFields (·.setIfInBounds k x) oi) ∧ (Obj.mapFields (·.setIfInBounds k x) oi).cls = .type "set_iterator" ∧ (Obj.mapFields (·.setIfInBounds k x) oi).data = .fields (vs.setIfInBounds k x) := by
  refine ⟨Heap.get?_update_self _ ho (Obj.isFreed_of_fields (Obj.data_mapFields hd _)), (Obj.cls_mapFields ..).trans hc, Obj.data_mapFields hd _⟩
theorem sit_item {sl i n nx : Nat} {x : Value} {Q : Option Value → Shared → Prop} (hit : SIt s.heap it a (.int sl 0) i n ep) (g1 : s.heap.get? a = some o) (g3 : o.data = .set es ep t) (g4 : t.fits es.size = true) (hn : es.size = n)
    (hN : ∀ (Q : Option (Value × Nat) → Shared → Prop) (E : Value → Shared → Prop), Q (some (x, nx)) s → wpAny (model prog w) A.in1 (setNext a sl i ep) Q E s)
    (hQ : ∀ h', SIt h' it a (.int nx 0) (i + 1) n ep → (∀ b, b ≠ it → h'.get? b = s.heap.get? b) → Q (some x) { s with heap := h' }) : wpAny (model prog w) A (pyNext (.ref it)) Q E s := by
  obtain ⟨oi, ho, hc, hd⟩ := id hit
  unfold pyNext
  refine wpAny_bind (wpAny_attempt (wpAny_callSpecial?_slot (name := Str.ofString "__next__") hit.ty sl_setiter_next (wpAny_call_entry sl_setiter_next hit.ty en_setiter_next ?_ (ar_setiter_next _))))
  refine sit_head hit g1 g3 g4 hn ?_
  dsimp only
  refine wpAny_bind (hN _ _ ?_)
  dsimp only
  obtain ⟨u1, u2, u3⟩ := sit_upd (first := .none) (i := 0) (n := 0) (k := 0) (x := rawInt nx) ho hc hd
  obtain ⟨w1, w2, w3⟩ := sit_upd (first := .none) (i := 0) (n := 0) (k := 1) (x := rawInt ((i : Int) + 1)) u1 u2 u3
  refine wpAny_bind (wpAny_setField ho hd (by simp) ?_)
  refine wpAny_bind (wpAny_setField u1 u3 (by simp) ?_)
  refine wpAny_pure ⟨x, rfl, wpAny_pure (hQ _ ⟨_, w1, w2, ?_⟩ fun b hb => ?_)⟩
  · rw [w3]; simp [rawInt]
  · exact ((Heap.get?_update_other _ _ (Ne.symm hb))).trans (Heap.get?_update_other _ _ (Ne.symm hb))
theorem stop_raise {QQ : Fin → Shared → Prop} {B : Around} {Q : Option Value → Shared → Prop} (hh : B.handled = none) (hQ : ∀ o1 o2, Q none { s with heap := (s.heap.push o1).push o2 }) : wpAny (model prog w) B (do raiseNew (← newExc (.type "StopIteration") [])) QQ
    (fun e s' => wpAny (model prog w) A (do if ← isInstance e (.type "StopIteration") then pure none else throw e) Q E s') s := by
  refine wpAny_bind ?_
  simp only [newExc, newTuple]
  refine wpAny_bind (wpAny_newObj_type ?_ (by size_fits))
  refine wpAny_bind (m := firstArgMember _ _) (wpAny_of_eq (a := Value.none) (by first | rfl | (simp only [firstArgMember]; rfl)) (wpAny_newObj_type ?_ (by size_fits)))
  simp only [raiseNew]
  refine wpAny_bind (wpAny_handled ?_)
  rw [hh]
  refine wpAny_bind (wpAny_pure (wpAny_throw ?_))
  refine wpAny_bind (wpAny_isInstance (b := true) (T := "StopIteration") ⟨_, Heap.get?_push_size _ rfl, rfl⟩ isSubtype_stop ?_)
  exact wpAny_pure (hQ _ _)
theorem sit_end {sl i n : Nat} {Q : Option Value → Shared → Prop} (hh : A.handled = none) (hit : SIt s.heap it a (.int sl 0) i n ep) (g1 : s.heap.get? a = some o) (g3 : o.data = .set es ep t) (g4 : t.fits es.size = true) (hn : es.size = n)
    (hN : ∀ (Q : Option (Value × Nat) → Shared → Prop) (E : Value → Shared → Prop), Q none s → wpAny (model prog w) A.in1 (setNext a sl i ep) Q E s)
    (hQ : ∀ h', (∀ b o, b ≠ it → s.heap.get? b = some o → h'.get? b = some o) → Q none { s with heap := h' }) : wpAny (model prog w) A (pyNext (.ref it)) Q E s := by
  obtain ⟨oi, ho, hc, hd⟩ := id hit
  unfold pyNext
  refine wpAny_bind (wpAny_attempt (wpAny_callSpecial?_slot (name := Str.ofString "__next__") hit.ty sl_setiter_next (wpAny_call_entry sl_setiter_next hit.ty en_setiter_next ?_ (ar_setiter_next _))))
  refine sit_head hit g1 g3 g4 hn ?_
  dsimp only
  refine wpAny_bind (hN _ _ ?_)
  dsimp only
  refine wpAny_bind (wpAny_setField ho hd (by simp) ?_)
  exact stop_raise (B := A.in1) hh fun o1 o2 => hQ _ fun b o hb e => Heap.get?_push_of_some _ (Heap.get?_push_of_some _ ((Heap.get?_update_other _ _ (Ne.symm hb)).trans e))
theorem sit_itemT {i n pl : Nat} {hx : Int} {x : Value} {pls : Array Value} {Q : Option Value → Shared → Prop} (hit : SIt s.heap it a (.ref tp) i n ep) (g1 : s.heap.get? a = some o) (g3 : o.data = .set es ep t) (g4 : t.fits es.size = true) (hn : es.size = n)
    (htp : ∃ ot m, s.heap.get? tp = some ot ∧ ot.data = .seq pls m) (hp : pls[i]? = some (.int pl 0)) (he : es[pl]? = some (hx, x))
    (hQ : ∀ h', SIt h' it a (.ref tp) (i + 1) n ep → (∀ b, b ≠ it → h'.get? b = s.heap.get? b) → Q (some x) { s with heap := h' }) : wpAny (model prog w) A (pyNext (.ref it)) Q E s := by
  obtain ⟨oi, ho, hc, hd⟩ := id hit
  obtain ⟨ot, m, t1, t2⟩ := htp
  unfold pyNext
  refine wpAny_bind (wpAny_attempt (wpAny_callSpecial?_slot (name := Str.ofString "__next__") hit.ty sl_setiter_next (wpAny_call_entry sl_setiter_next hit.ty en_setiter_next ?_ (ar_setiter_next _))))
  refine sit_head hit g1 g3 g4 hn ?_
  dsimp only
  refine wpAny_bind (wpAny_seqItems t1 t2 ?_)
  dsimp only
  rw [hp]
  dsimp only
  refine wpAny_bind (next_drawn g1 g3 g4 (by simpa using he) ?_)
  obtain ⟨w1, w2, w3⟩ := sit_upd (first := .none) (i := 0) (n := 0) (k := 1) (x := rawInt ((i : Int) + 1)) ho hc hd
  refine wpAny_bind (wpAny_setField ho hd (by simp) (wpAny_pure ⟨x, rfl, wpAny_pure (hQ _ ⟨_, w1, w2, ?_⟩ fun b hb => Heap.get?_update_other _ _ (Ne.symm hb))⟩))
  rw [w3]; simp [rawInt]
theorem sit_endT {i n : Nat} {pls : Array Value} {Q : Option Value → Shared → Prop} (hh : A.handled = none) (hit : SIt s.heap it a (.ref tp) i n ep) (g1 : s.heap.get? a = some o) (g3 : o.data = .set es ep t) (g4 : t.fits es.size = true) (hn : es.size = n)
    (htp : ∃ ot m, s.heap.get? tp = some ot ∧ ot.data = .seq pls m) (hp : pls[i]? = none)
    (hQ : ∀ h', (∀ b o, b ≠ it → s.heap.get? b = some o → h'.get? b = some o) → Q none { s with heap := h' }) : wpAny (model prog w) A (pyNext (.ref it)) Q E s := by
  obtain ⟨oi, ho, hc, hd⟩ := id hit
  obtain ⟨ot, m, t1, t2⟩ := htp
  unfold pyNext
  refine wpAny_bind (wpAny_attempt (wpAny_callSpecial?_slot (name := Str.ofString "__next__") hit.ty sl_setiter_next (wpAny_call_entry sl_setiter_next hit.ty en_setiter_next ?_ (ar_setiter_next _))))
  refine sit_head hit g1 g3 g4 hn ?_
  dsimp only
  refine wpAny_bind (wpAny_seqItems t1 t2 ?_)
  dsimp only
  rw [hp]
  dsimp only
  obtain ⟨u1, u2, u3⟩ := sit_upd (first := .none) (i := 0) (n := 0) (k := 0) (x := rawInt 0) ho hc hd
  refine wpAny_bind (wpAny_setField ho hd (by simp) (wpAny_bind (wpAny_setField u1 u3 (by simp) ?_)))
  exact stop_raise (B := A.in1) hh fun o1 o2 => hQ _ fun b o hb e => Heap.get?_push_of_some _ (Heap.get?_push_of_some _ ((Heap.get?_update_other _ _ (Ne.symm hb)).trans ((Heap.get?_update_other _ _ (Ne.symm hb)).trans e)))
end
end L2

set_option maxRecDepth 100000
set_option maxHeartbeats 4000000
namespace L2
open PySem PySem.Spec PyProof.Rows
def slotAt (xs : Array Nat) : Nat → Nat
  | 0 => 0
  | i + 1 => xs.getD i 0 + 1
theorem slot_z (xs : Array Nat) : slotAt xs 0 = 0 := rfl
theorem slot_s (xs : Array Nat) (i : Nat) : slotAt xs (i + 1) = xs.getD i 0 + 1 := rfl
theorem below_slot {xs : Array Nat} (hr : Ris xs) {i : Nat} (hi : i ≤ xs.size) : SetTable.below xs (slotAt xs i) = i := by
  obtain ⟨h1, h2, h3⟩ := below_at (q := slotAt xs i) hr
  have g : ∀ {j : Nat}, j < xs.size → ∃ y, xs[j]? = some y ∧ xs.getD j 0 = y := fun {j} hj => ⟨xs[j], Array.getElem?_eq_getElem hj, by rw [Array.getD_eq_getD_getElem?, Array.getElem?_eq_getElem hj]; rfl⟩
  rcases Nat.lt_trichotomy (SetTable.below xs (slotAt xs i)) i with z | z | z
  · obtain ⟨y, e, _⟩ := g (Nat.lt_of_lt_of_le z hi)
    have := h3 _ y (Nat.le_refl _) e
    cases i with
    | zero => omega
    | succ i =>
      obtain ⟨y', e', d'⟩ := g (j := i) (by omega)
      have es := slot_s xs i
      rw [d'] at es
      rcases Nat.lt_or_eq_of_le (Nat.le_of_lt_succ z) with z | z
      · have := hr _ _ _ _ z e e'; omega
      · rw [z, e'] at e; cases e; omega
  · exact z
  · obtain ⟨y, e, d⟩ := g (j := i) (by omega)
    have := h2 i y z e
    cases i with
    | zero => rw [slot_z] at this; omega
    | succ i =>
      obtain ⟨y', e', d'⟩ := g (j := i) (by omega)
      rw [slot_s, d'] at this
      have := hr i (i + 1) _ _ (by omega) e' e
      omega
section
variable {prog : Program} {w : World} {a I tp : Addr} {o : Obj} {es : Array (Int × Value)} {ep : Nat} {t : SetTable}
theorem fits_size (h : t.fits es.size = true) : t.place.size = es.size := by
  unfold SetTable.fits at h
  rw [Bool.and_eq_true] at h
  exact eq_of_beq h.1
theorem walks_text {A : Around} (hh : A.handled = none) (bt : byText w = true) (g3 : o.data = .set es ep t) (g4 : t.fits es.size = true) (hne : a ≠ I) :
    Walks prog w A I [I, a] [I] es.size (fun i v => ((pickOrder (w.params.setOrder a ep) es).toList.map (·.2))[i]? = some v) (fun i h => SIt h I a (.int (0 : Nat) 0) i es.size ep ∧ h.get? a = some o) where
  sub := fun b hb => by simp at hb; simp [hb]
  frame := fun i h h' st hk => by
    obtain ⟨⟨oi, h1, h2, h3⟩, h4⟩ := st
    exact ⟨⟨oi, hk I (by simp) _ h1, h2, h3⟩, hk a (by simp) _ h4⟩
  item := fun i s Q E hi st hQ => by
    have hsz : (pickOrder (w.params.setOrder a ep) es).toList.length = es.size := by
      have := (pick_perm (w.params.setOrder a ep) es.size 0 es.toList #[] (by simp)).length_eq
      simpa [pickOrder] using this
    have hlt : i < (pickOrder (w.params.setOrder a ep) es).toList.length := by omega
    have e1 : (pickOrder (w.params.setOrder a ep) es)[i]? = some (pickOrder (w.params.setOrder a ep) es).toList[i] := by rw [← Array.getElem?_toList]; exact List.getElem?_eq_getElem hlt
    refine sit_item st.1 st.2 g3 g4 rfl (x := (pickOrder (w.params.setOrder a ep) es).toList[i].2) (nx := 0) (fun Q E q => next_text bt st.2 g3 g4 (by rw [e1]; exact q)) fun h' x1 x2 => ?_
    refine hQ _ h' s.toks (by rw [List.getElem?_map, List.getElem?_eq_getElem hlt]; rfl) ⟨x1, (x2 a hne).trans st.2⟩ fun b o' hb e => (x2 b (fun z => hb (by simp [z]))).trans e
  done := fun s Q E st hQ => by
    have hsz : (pickOrder (w.params.setOrder a ep) es).toList.length = es.size := by
      have := (pick_perm (w.params.setOrder a ep) es.size 0 es.toList #[] (by simp)).length_eq
      simpa [pickOrder] using this
    refine sit_end hh st.1 st.2 g3 g4 rfl (fun Q E q => next_text bt st.2 g3 g4 (by rw [← Array.getElem?_toList, List.getElem?_eq_none (by omega)]; exact q)) fun h' x1 => hQ h' s.toks fun b o' hb e => x1 b o' (fun z => hb (by simp [z])) e
  self := fun i s Q E st hQ => by
    refine wpAny_pyIter_slot st.1.ty sl_setiter_iter (wpAny_call_entry sl_setiter_iter st.1.ty en_setiter_iter ?_ (ar_setiter_iter _))
    exact wpAny_pure ⟨_, rfl, "set_iterator", _, st.1.ty, sl_setiter_next.lookup, hQ⟩
theorem walks_plain {A : Around} (hh : A.handled = none) (bt : byText w = false) (g3 : o.data = .set es ep t) (g4 : t.fits es.size = true) (tk : TOk (byText w) t) (pl : t.plain = true ∨ es.size ≤ 1) (hne : a ≠ I) :
    Walks prog w A I [I, a] [I] es.size (fun i v => (es.toList.map (·.2))[i]? = some v) (fun i h => SIt h I a (.int (slotAt t.place i) 0) i es.size ep ∧ h.get? a = some o) where
  sub := fun b hb => by simp at hb; simp [hb]
  frame := fun i h h' st hk => by
    obtain ⟨⟨oi, h1, h2, h3⟩, h4⟩ := st
    exact ⟨⟨oi, hk I (by simp) _ h1, h2, h3⟩, hk a (by simp) _ h4⟩
  item := fun i s Q E hi st hQ => by
    have hps := fits_size g4
    have hr : Ris t.place := by
      rcases pl with p | p
      · exact tk.ris p
      · intro i j x y hij ex ey
        have := (Array.getElem?_eq_some_iff.mp ey).1; omega
    have hlt : i < es.toList.length := by simpa using hi
    have e1 : es[i]? = some es.toList[i] := by rw [← Array.getElem?_toList]; exact List.getElem?_eq_getElem hlt
    have e2 : t.place[i]? = some (t.place.getD i 0) := by rw [Array.getD_eq_getD_getElem?, Array.getElem?_eq_getElem (by omega)]; rfl
    refine sit_item st.1 st.2 g3 g4 rfl (x := es.toList[i].2) (nx := slotAt t.place (i + 1)) (fun Q E q => next_plain bt st.2 g3 g4 tk pl (by rw [below_slot hr (by omega), e1, e2]; exact q)) fun h' x1 x2 => ?_
    refine hQ _ h' s.toks (by rw [List.getElem?_map, List.getElem?_eq_getElem hlt]; rfl) ⟨x1, (x2 a hne).trans st.2⟩ fun b o' hb e => (x2 b (fun z => hb (by simp [z]))).trans e
  done := fun s Q E st hQ => by
    have hps := fits_size g4
    have hr : Ris t.place := by
      rcases pl with p | p
      · exact tk.ris p
      · intro i j x y hij ex ey
        have := (Array.getElem?_eq_some_iff.mp ey).1; omega
    refine sit_end hh st.1 st.2 g3 g4 rfl (fun Q E q => next_plain bt st.2 g3 g4 tk pl (by rw [below_slot hr (by omega), Array.getElem?_eq_none (Nat.le_refl _)]; exact q)) fun h' x1 => hQ h' s.toks fun b o' hb e => x1 b o' (fun z => hb (by simp [z])) e
  self := fun i s Q E st hQ => by
    refine wpAny_pyIter_slot st.1.ty sl_setiter_iter (wpAny_call_entry sl_setiter_iter st.1.ty en_setiter_iter ?_ (ar_setiter_iter _))
    exact wpAny_pure ⟨_, rfl, "set_iterator", _, st.1.ty, sl_setiter_next.lookup, hQ⟩
theorem walks_drawn {A : Around} {ks : List Nat} (hh : A.handled = none) (g3 : o.data = .set es ep t) (g4 : t.fits es.size = true) (hk : ks.Perm (List.range es.size)) (hne : a ≠ I) (hnt : tp ≠ I) :
    Walks prog w A I [I, a, tp] [I] es.size (fun i v => ((ks.filterMap (es[·]?)).map (·.2))[i]? = some v) (fun i h => SIt h I a (.ref tp) i es.size ep ∧ h.get? a = some o ∧ ∃ ot m, h.get? tp = some ot ∧ ot.data = .seq (ks.map fun (k : Nat) => rawInt k).toArray m) where
  sub := fun b hb => by simp at hb; simp [hb]
  frame := fun i h h' st hk => by
    obtain ⟨⟨oi, h1, h2, h3⟩, h4, ot, m, h5, h6⟩ := st
    exact ⟨⟨oi, hk I (by simp) _ h1, h2, h3⟩, hk a (by simp) _ h4, ot, m, hk tp (by simp) _ h5, h6⟩
  item := fun i s Q E hi st hQ => by
    have hlen : ks.length = es.size := by rw [hk.length_eq]; simp
    have hin : ∀ k ∈ ks, k < es.size := fun k m => by simpa using hk.mem_iff.mp m
    have hi' : i < ks.length := by omega
    have hki := hin ks[i] (List.getElem_mem hi')
    have e1 : es[ks[i]]? = some es[ks[i]] := Array.getElem?_eq_getElem hki
    have fm : ∀ (l : List Nat), (∀ k ∈ l, k < es.size) → ∀ j (hj : j < l.length), (l.filterMap (es[·]?))[j]? = es[l[j]]? := by
      intro l
      induction l with
      | nil => intro _ j hj; simp at hj
      | cons b r ih =>
        intro hl j hj
        have hb := hl b (List.mem_cons_self ..)
        rw [List.filterMap_cons, Array.getElem?_eq_getElem hb]
        cases j with
        | zero => simp [Array.getElem?_eq_getElem hb]
        | succ j => simpa using ih (fun k m => hl k (List.mem_cons_of_mem _ m)) j (by simpa using hj)
    refine sit_itemT st.1 st.2.1 g3 g4 rfl st.2.2 (pl := ks[i]) (hx := es[ks[i]].1) (x := es[ks[i]].2) (by simp [List.getElem?_eq_getElem hi', rawInt]) e1 fun h' x1 x2 => ?_
    obtain ⟨ot, m, t1, t2⟩ := st.2.2
    refine hQ _ h' s.toks ?_ ⟨x1, (x2 a hne).trans st.2.1, ot, m, (x2 tp hnt).trans t1, t2⟩ fun b o' hb e => (x2 b (fun z => hb (by simp [z]))).trans e
    rw [List.getElem?_map, fm ks hin i hi', e1]; rfl
  done := fun s Q E st hQ => by
    have hlen : ks.length = es.size := by rw [hk.length_eq]; simp
    exact sit_endT hh st.1 st.2.1 g3 g4 rfl st.2.2 (by simp; omega) fun h' x1 => hQ h' s.toks fun b o' hb e => x1 b o' (fun z => hb (by simp [z])) e
  self := fun i s Q E st hQ => by
    refine wpAny_pyIter_slot st.1.ty sl_setiter_iter (wpAny_call_entry sl_setiter_iter st.1.ty en_setiter_iter ?_ (ar_setiter_iter _))
    exact wpAny_pure ⟨_, rfl, "set_iterator", _, st.1.ty, sl_setiter_next.lookup, hQ⟩
end
section
variable {prog : Program} {w : World} {A : Around} {E : Value → Shared → Prop} {s : Shared} {a : Addr} {o : Obj} {es : Array (Int × Value)} {ep : Nat} {t : SetTable}
theorem range_get {α : Type} : ∀ l : List α, (List.range l.length).filterMap (fun i => l[i]?) = l
  | [] => rfl
  | x :: l => by
    have := range_get l
    rw [List.length_cons, List.range_succ_eq_map, List.filterMap_cons, List.filterMap_map]
    simpa [Function.comp_def] using this
theorem choose_any {src : Source} {n : Nat} {Q : Nat → Shared → Prop} (hn : n ≠ 0) (h : ∀ i d', i < n → Q i { s with drawn := d' }) : wpAny (model prog w) A (choose src n) Q E s := fun Γ p _ => ⟨hn, h _ _ (Nat.mod_lt _ (Nat.pos_of_ne_zero hn))⟩
theorem draw_perm {α : Type} : ∀ (n : Nat) (xs : List α) (s : Shared) (Q : List α → Shared → Prop), xs.length ≤ n → (∀ ks d', ks.Perm xs → Q ks { s with drawn := d' }) → wpAny (model prog w) A (drawOrder n xs) Q E s
  | 0, xs, s, Q, hl, h => by
    have : xs = [] := List.length_eq_zero_iff.mp (by omega)
    subst this
    unfold drawOrder
    exact wpAny_pure (h [] s.drawn .nil)
  | n + 1, [], s, Q, hl, h => by
    unfold drawOrder
    exact wpAny_pure (h [] s.drawn .nil)
  | n + 1, x :: xs, s, Q, hl, h => by
    unfold drawOrder
    refine wpAny_bind (choose_any (by simp) fun i d' hi => ?_)
    rw [List.getElem?_eq_getElem hi]
    dsimp only
    refine wpAny_bind (draw_perm n _ _ _ (by rw [List.length_eraseIdx_of_lt hi]; simp at hl ⊢; omega) fun ks d2 hk => ?_)
    exact wpAny_pure (h _ d2 ((hk.cons _).trans (erase_perm hi)))
theorem drawn_of (g1 : s.heap.get? a = some o) (g3 : o.data = .set es ep t) (g4 : t.fits es.size = true) {Q : Bool → Shared → Prop} (h : Q (!byText w && (!t.plain && decide (es.size > 1))) s) : wpAny (model prog w) A (setDrawn a) Q E s := by
  unfold setDrawn
  refine wpAny_bind (wpAny_setState_of g1 g3 g4 ?_)
  dsimp only
  unfold setsByText
  refine wpAny_bind (wpAny_bind (wpAny_askSetting (wpAny_pure ?_)))
  exact wpAny_pure h
theorem epoch_of (g1 : s.heap.get? a = some o) (g3 : o.data = .set es ep t) (g4 : t.fits es.size = true) {Q : Nat → Shared → Prop} (h : Q ep s) : wpAny (model prog w) A (setEpoch a) Q E s := by
  unfold setEpoch
  exact wpAny_bind (wpAny_setState_of g1 g3 g4 (wpAny_pure h))
theorem iter_G {Q : Value → Shared → Prop} (hb : es.size < scanBound) (g1 : s.heap.get? a = some o) (g2 : o.ExactSet) (g3 : o.data = .set es ep t) (g4 : t.fits es.size = true) (tk : TOk (byText w) t)
    (hQ : ∀ (I : Addr) (h' : Heap) d' (items : List Value) (fp : List Addr) (St : Nat → Heap → Prop), (∀ b o, s.heap.get? b = some o → h'.get? b = some o) → s.heap.objs.size ≤ I → (∀ b ∈ fp, b = a ∨ s.heap.objs.size ≤ b) → I ∈ fp → (∀ b ∈ fp, b < h'.objs.size) → items.Perm (es.toList.map (·.2)) →
      (∀ B : Around, B.handled = none → Walks prog w B I fp [I] items.length (fun i v => items[i]? = some v) St) → St 0 h' → Q (.ref I) { s with heap := h', drawn := d' }) : wpAny (model prog w) A (pyIter (.ref a)) Q E s := by
  have hT : s.TypeIs (.ref a) "set" := ⟨o, g1, g2.1⟩
  have hlt := Heap.lt_size g1
  refine wpAny_pyIter_slot hT sl_set_iter (wpAny_call_entry sl_set_iter hT en_set_iter ?_ (ar_set_iter _))
  unfold Builtin.«frozenset.__iter__»
  unfold Builtin.Frozenset.slot0 slotArgs
  simp only [List.isEmpty_nil, Bool.not_true, Bool.false_eq_true, ↓reduceIte, bind_assoc, List.length_nil, bne_self_eq_false]
  unfold Builtin.Frozenset.addrOf Builtin.Frozenset.sizeOf
  refine wpAny_bind (wpAny_pure ?_)
  try dsimp only
  refine wpAny_bind (wpAny_pure ?_)
  refine wpAny_bind (wpAny_bind (wpAny_setEntries_of g1 g3 g4 (wpAny_pure ?_)))
  refine wpAny_bind (drawn_of g1 g3 g4 ?_)
  by_cases c : (!byText w && (!t.plain && decide (es.size > 1))) = true
  · rw [if_pos c]
    refine wpAny_bind (draw_perm es.size (List.range es.size) s _ (by simp) fun ks d' hk => ?_)
    unfold newTuple
    refine wpAny_bind (wpAny_newObj_type ?_ ?_)
    rotate_left
    · have hk0 : ks.length = es.size := by rw [hk.length_eq]; simp
      show (List.map (fun (i : Nat) => rawInt i) ks).toArray.size ≤ sizeLine
      rw [List.size_toArray, List.length_map, hk0]
      exact fits_of_scanBound hb
    have g1' := Heap.get?_push_of_some ({ cls := .type "tuple", data := .seq (ks.map fun (i : Nat) => rawInt i).toArray } : Obj) g1
    refine wpAny_bind (epoch_of (s := { s with heap := _, drawn := d' }) g1' g3 g4 ?_)
    unfold newFields
    refine wpAny_bind (wpAny_newObj_type ?_)
    have hk0 : ks.length = es.size := by rw [hk.length_eq]; simp
    have fin := hQ
    clear hQ
    have sz1 : (s.heap.push ({ cls := .type "tuple", data := .seq (ks.map fun (i : Nat) => rawInt i).toArray } : Obj)).objs.size = s.heap.objs.size + 1 := Heap.size_push ..
    have gT : (s.heap.push ({ cls := .type "tuple", data := .seq (ks.map fun (i : Nat) => rawInt i).toArray } : Obj)).get? s.heap.objs.size = some { cls := .type "tuple", data := .seq (ks.map fun (i : Nat) => rawInt i).toArray } := Heap.get?_push_size _ rfl
    have gO : ∀ b o, s.heap.get? b = some o → (s.heap.push ({ cls := .type "tuple", data := .seq (ks.map fun (i : Nat) => rawInt i).toArray } : Obj)).get? b = some o := fun b o e => Heap.get?_push_of_some _ e
    generalize hh1 : s.heap.push ({ cls := .type "tuple", data := .seq (ks.map fun (i : Nat) => rawInt i).toArray } : Obj) = h1 at g1' sz1 gT gO ⊢
    have gI : (h1.push ({ cls := .type "set_iterator", data := .fields #[.ref s.heap.objs.size, rawInt 0, .ref a, rawInt es.size, rawInt ep] } : Obj)).get? h1.objs.size = some { cls := .type "set_iterator", data := .fields #[.ref s.heap.objs.size, rawInt 0, .ref a, rawInt es.size, rawInt ep] } := Heap.get?_push_size _ rfl
    have gS := Heap.get?_push_of_some ({ cls := .type "set_iterator", data := .fields #[.ref s.heap.objs.size, rawInt 0, .ref a, rawInt es.size, rawInt ep] } : Obj) g1'
    have gT' := Heap.get?_push_of_some ({ cls := .type "set_iterator", data := .fields #[.ref s.heap.objs.size, rawInt 0, .ref a, rawInt es.size, rawInt ep] } : Obj) gT
    have sz2 : (h1.push ({ cls := .type "set_iterator", data := .fields #[.ref s.heap.objs.size, rawInt 0, .ref a, rawInt es.size, rawInt ep] } : Obj)).objs.size = h1.objs.size + 1 := Heap.size_push ..
    subst hh1
    refine wpAny_pure ⟨_, rfl, "set_iterator", _, ⟨_, gI, rfl⟩, sl_setiter_next.lookup, ?_⟩
    have pp : (ks.filterMap (es[·]?)).Perm es.toList := by
      have := hk.filterMap (es[·]?)
      have e : (List.range es.size).filterMap (es[·]?) = es.toList := by
        have := range_get es.toList
        simpa using this
      rwa [e] at this
    have hn : ((ks.filterMap (es[·]?)).map (·.2)).length = es.size := by rw [List.length_map, pp.length_eq]; simp
    have nlt := Nat.lt_of_lt_of_eq (Nat.lt_succ_self s.heap.objs.size) sz1.symm
    refine fin _ _ d' ((ks.filterMap (es[·]?)).map (·.2)) [_, a, s.heap.objs.size] _ (fun b o e => Heap.get?_push_of_some _ (gO b o e)) (Nat.le_of_lt nlt) (fun b m => ?_) (List.mem_cons_self ..) (fun b m => ?_) (pp.map _) (fun B hB => by rw [hn]; exact walks_drawn hB g3 g4 hk (Nat.ne_of_lt (Nat.lt_trans hlt nlt)) (Nat.ne_of_lt nlt)) ?_
    · rcases List.mem_cons.mp m with e | m
      · exact .inr (by rw [e]; exact Nat.le_of_lt nlt)
      · rcases List.mem_cons.mp m with e | m
        · exact .inl e
        · exact .inr (Nat.le_of_eq (List.mem_singleton.mp m).symm)
    · refine Nat.lt_of_lt_of_eq ?_ sz2.symm
      rcases List.mem_cons.mp m with e | m
      · rw [e]; exact Nat.lt_succ_self _
      · rcases List.mem_cons.mp m with e | m
        · rw [e]; exact Nat.lt_succ_of_lt (Nat.lt_trans hlt nlt)
        · rw [List.mem_singleton.mp m]; exact Nat.lt_succ_of_lt nlt
    · exact ⟨⟨_, gI, rfl, rfl⟩, gS, _, _, gT', rfl⟩
  · rw [if_neg c]
    refine wpAny_bind (wpAny_pure ?_)
    refine wpAny_bind (epoch_of g1 g3 g4 ?_)
    unfold newFields
    refine wpAny_bind (wpAny_newObj_type ?_)
    have gI : (s.heap.push ({ cls := .type "set_iterator", data := .fields #[rawInt 0, rawInt 0, .ref a, rawInt es.size, rawInt ep] } : Obj)).get? s.heap.objs.size = some { cls := .type "set_iterator", data := .fields #[rawInt 0, rawInt 0, .ref a, rawInt es.size, rawInt ep] } := Heap.get?_push_size _ rfl
    have gS := Heap.get?_push_of_some ({ cls := .type "set_iterator", data := .fields #[rawInt 0, rawInt 0, .ref a, rawInt es.size, rawInt ep] } : Obj) g1
    have hfp : ∀ b ∈ [s.heap.objs.size, a], b = a ∨ s.heap.objs.size ≤ b := fun b m => by
      rcases List.mem_cons.mp m with e | m
      · exact .inr (Nat.le_of_eq e.symm)
      · exact .inl (List.mem_singleton.mp m)
    have hsz : (s.heap.push ({ cls := .type "set_iterator", data := .fields #[rawInt 0, rawInt 0, .ref a, rawInt es.size, rawInt ep] } : Obj)).objs.size = s.heap.objs.size + 1 := Heap.size_push ..
    have hlts : ∀ b ∈ [s.heap.objs.size, a], b < (s.heap.push ({ cls := .type "set_iterator", data := .fields #[rawInt 0, rawInt 0, .ref a, rawInt es.size, rawInt ep] } : Obj)).objs.size := fun b m => by
      rw [hsz]
      rcases List.mem_cons.mp m with e | m
      · rw [e]; exact Nat.lt_succ_self _
      · rw [List.mem_singleton.mp m]; exact Nat.lt_succ_of_lt hlt
    refine wpAny_pure ⟨_, rfl, "set_iterator", _, ⟨_, gI, rfl⟩, sl_setiter_next.lookup, ?_⟩
    cases bt : byText w with
    | true =>
      have pp : (pickOrder (w.params.setOrder a ep) es).toList.Perm es.toList := by simpa [pickOrder] using pick_perm (w.params.setOrder a ep) es.size 0 es.toList #[] (by simp)
      have hn : ((pickOrder (w.params.setOrder a ep) es).toList.map (·.2)).length = es.size := by rw [List.length_map, pp.length_eq]; simp
      refine hQ _ _ s.drawn ((pickOrder (w.params.setOrder a ep) es).toList.map (·.2)) [s.heap.objs.size, a] _ (fun b o e => Heap.get?_push_of_some _ e) (Nat.le_refl _) hfp (by simp) hlts (pp.map _) (fun B hB => by rw [hn]; exact walks_text hB bt g3 g4 (Nat.ne_of_lt hlt)) ?_
      exact ⟨⟨_, gI, rfl, rfl⟩, gS⟩
    | false =>
      have pl : t.plain = true ∨ es.size ≤ 1 := by
        rw [bt, Bool.not_false, Bool.true_and] at c
        cases hp : t.plain with
        | true => exact .inl rfl
        | false =>
          rw [hp, Bool.not_false, Bool.true_and, decide_eq_true_eq] at c
          exact .inr (by omega)
      have hn : (es.toList.map (·.2)).length = es.size := by simp
      refine hQ _ _ s.drawn (es.toList.map (·.2)) [s.heap.objs.size, a] _ (fun b o e => Heap.get?_push_of_some _ e) (Nat.le_refl _) hfp (by simp) hlts (.refl _) (fun B hB => by rw [hn]; exact walks_plain hB bt g3 g4 tk pl (Nat.ne_of_lt hlt)) ?_
      exact ⟨⟨_, gI, rfl, rfl⟩, gS⟩
end
end L2

set_option maxRecDepth 100000
set_option maxHeartbeats 4000000
namespace L2
open PySem PySem.Spec PyProof.Rows
section
variable {prog : Program} {w : World} {A : Around} {E : Value → Shared → Prop} {s : Shared} {a : Addr} {o : Obj} {es : Array (Int × Value)} {ep : Nat} {t : SetTable}
theorem hint_set {Q : Bool → Shared → Prop} (hT : s.TypeIs (.ref a) "set") (h : Q false s) : wpAny (model prog w) A (Builtin.List.listLengthHint (.ref a)) Q E s := by
  unfold Builtin.List.listLengthHint
  refine wpAny_bind (wpAny_specialOf hT PySem.F.slot_set_len.lookup ?_)
  generalize hid : ("set.__len__" : String) = id0
  wp_delta
  rw [show splitId id0 = some ("set", "__len__") from by subst hid; decide +kernel]
  subst hid
  refine wpAny_bind (wpAny_isInstance (b := true) (T := "set") hT (by rw [isSubtype_type]; kernel_rfl) ?_)
  refine wpAny_ite_split (fun z => absurd z (by decide)) fun _ => wpAny_ite_split (fun _ => ?_) fun z => absurd (by decide +kernel) z
  exact wpAny_bind (wpAny_typeOf hT (wpAny_pure h))
theorem items_eq {items : List Value} {acc : Array Value} (h : ItemsOf (fun i v => items[i]? = some v) acc items.length) : acc.toList = items := by
  apply List.ext_getElem?
  intro i
  by_cases hi : i < acc.size
  · have e : acc[i]? = some acc[i] := Array.getElem?_eq_getElem hi
    rw [Array.getElem?_toList, e, h.2 i _ e]
  · have := h.1
    rw [List.getElem?_eq_none (by simp; omega), List.getElem?_eq_none (by omega)]
theorem collect_set {Q : List Value → Shared → Prop} (hh : A.handled = none) (hb : es.size < scanBound) (g1 : s.heap.get? a = some o) (g2 : o.ExactSet) (g3 : o.data = .set es ep t) (g4 : t.fits es.size = true) (tk : TOk (byText w) t)
    (hQ : ∀ h' d' tk' items, (∀ b o, s.heap.get? b = some o → h'.get? b = some o) → s.heap.objs.size ≤ h'.objs.size → items.Perm (es.toList.map (·.2)) → Q items { s with heap := h', drawn := d', toks := tk' }) : wpAny (model prog w) A (collect (.ref a)) Q E s := by
  have hlt := Heap.lt_size g1
  unfold collect
  refine wpAny_bind (wpAny_runValue (codeAny_builtin PySem.F.entry_proto_collect ?_))
  rw [Around.under_plainId PySem.F.plain_proto_collect _]
  show wpAny _ A.in1 (newList [] >>= fun l => again (.builtin "list.__iadd__" ⟨[l, .ref a], []⟩)) _ _ s
  refine wpAny_bind (wpAny_newObj_type ?_)
  refine wpAny_pure ⟨plainId_quiet PySem.F.plain_list_iadd _, codeAny_builtin PySem.F.entry_list_iadd ?_⟩
  rw [Around.under_plainId PySem.F.plain_list_iadd _]
  have gL : (s.heap.push ({ cls := .type "list", data := .seq ([] : List Value).toArray } : Obj)).get? s.heap.objs.size = some { cls := .type "list", data := .seq ([] : List Value).toArray } := Heap.get?_push_size _ rfl
  have gA := Heap.get?_push_of_some ({ cls := .type "list", data := .seq ([] : List Value).toArray } : Obj) g1
  have szL : (s.heap.push ({ cls := .type "list", data := .seq ([] : List Value).toArray } : Obj)).objs.size = s.heap.objs.size + 1 := Heap.size_push ..
  show wpAny _ A.in1 (Builtin.List.listExtendWith (.ref s.heap.objs.size) (.ref a) (.ref s.heap.objs.size)) _ _ { s with heap := s.heap.push ({ cls := .type "list", data := .seq ([] : List Value).toArray } : Obj) }
  have hkeep : ∀ b o, s.heap.get? b = some o → (s.heap.push ({ cls := .type "list", data := .seq ([] : List Value).toArray } : Obj)).get? b = some o := fun b o e => Heap.get?_push_of_some _ e
  generalize s.heap.push ({ cls := .type "list", data := .seq ([] : List Value).toArray } : Obj) = h1 at gL gA szL hkeep ⊢
  unfold Builtin.List.listExtendWith
  refine wpAny_bind (wpAny_typeOf (T := "set") ⟨o, gA, g2.1⟩ ?_)
  have n1 : Builtin.List.listSameRef (.ref s.heap.objs.size) (.ref a) = false := by
    show (s.heap.objs.size == a) = false
    exact beq_eq_false_iff_ne.mpr (Nat.ne_of_gt hlt)
  have n2 : (Value.type "set" == Value.type "list") = false := by decide
  have n3 : (Value.type "set" == Value.type "tuple") = false := by decide
  simp only [n1, n2, n3, Bool.or_false, Bool.false_eq_true, if_false]
  refine wpAny_bind (iter_G (s := { s with heap := h1 }) hb gA g2 g3 g4 tk fun I h2 d' items fp St k1 k2 k3 k4 k5 pp W st => ?_)
  have gA2 := k1 _ _ gA
  have gL2 := k1 _ _ gL
  refine wpAny_bind (wpAny_holding (hint_set (s := { s with heap := h2, drawn := d' }) ⟨o, gA2, g2.1⟩ ?_))
  have lS : s.heap.objs.size < h1.objs.size := Nat.lt_of_lt_of_eq (Nat.lt_succ_self _) szL.symm
  have nS : s.heap.objs.size ∉ fp := fun m => by
    rcases k3 _ m with e | e
    · exact absurd e (Nat.ne_of_gt hlt)
    · exact absurd (Nat.lt_of_lt_of_le lS e) (Nat.lt_irrefl _)
  have hil : items.length ≤ sizeLine := by
    rw [pp.length_eq, List.length_map, Array.length_toList]; exact fits_of_scanBound hb
  have key : ∀ (h3 : Heap) (c : Nat), St 0 h3 → (∀ b o, b ≠ s.heap.objs.size → h2.get? b = some o → h3.get? b = some o) → h3.get? s.heap.objs.size = some { cls := .type "list", data := .seq #[] c } →
      codeAny (model prog w) A (.builtin "list.extend.loop" ⟨[.ref s.heap.objs.size, .ref I, .ref s.heap.objs.size], []⟩) (fun r s' => match r with
        | .ok (.ret v) => wpAny (model prog w) A (match v with | .ref x => (do match (← load x).data with | .seq xs _ => pure xs.toList | _ => unsupported "internal:collect") | _ => unsupported "internal:collect") Q E s'
        | .ok _ => False
        | .error e => E e s') { s with heap := h3, drawn := d' } := by
    intro h3 c st3 q1 q2
    refine codeAny_extend_loopS ((W A.in1 hh).toS) hil _ nS _ items.length 0 _ #[] c rfl (Nat.zero_le _) st3 q2 (ItemsOf.nil _) fun s' acc c' mo q3 q4 => ?_
    refine wpAny_bind (wpAny_load q3 (wpAny_pure ?_))
    rw [items_eq q4, Moved.eq_with mo]
    refine hQ s'.heap d' s'.toks items (fun b o e => ?_) ?_ pp
    · have nb : b ≠ s.heap.objs.size := Nat.ne_of_lt (Heap.lt_size e)
      refine mo.heap b o (fun m => ?_) (q1 b o nb (k1 b o (hkeep b o e)))
      rcases List.mem_cons.mp m with z | z
      · exact nb z
      · have z := List.mem_singleton.mp z
        rw [z] at e
        exact absurd (Nat.lt_of_lt_of_le (Nat.lt_trans (Heap.lt_size e) lS) k2) (Nat.lt_irrefl _)
    · exact Nat.le_of_lt (Heap.lt_size q3)
  refine wpAny_ite_split (fun _ => ?_) fun _ => wpAny_pure ⟨plainId_quiet PySem.F.plain_extend_loop _, key h2 _ st (fun _ _ _ e => e) gL2⟩
  refine wpAny_bind (wpAny_rule (wpAny_bind ?_))
  show wpAny _ A.in1 (updateSeq s.heap.objs.size (·.push .none) >>= fun _ => updateSeq s.heap.objs.size (·.pop)) _ _ _
  have u1 := Heap.get?_update_self (Obj.mapSeq (·.push Value.none)) gL2 rfl
  have u2 := Heap.get?_update_self (Obj.mapSeq (·.pop)) u1 rfl
  refine wpAny_bind (wpAny_updateSeq gL2 rfl (wpAny_updateSeq (hz := by seq_fits) u1 rfl ?_))
  have oth : ∀ b o, b ≠ s.heap.objs.size → h2.get? b = some o → ((h2.update s.heap.objs.size (Obj.mapSeq (·.push Value.none))).update s.heap.objs.size (Obj.mapSeq (·.pop))).get? b = some o := fun b o nb e => (Heap.get?_update_other _ _ (Ne.symm nb)).trans ((Heap.get?_update_other _ _ (Ne.symm nb)).trans e)
  exact wpAny_pure ⟨plainId_quiet PySem.F.plain_extend_loop _, key _ _ ((W A.in1 hh).frame 0 _ _ st fun b m o e => oth b o (fun z => nS (z ▸ m)) e) oth u2⟩
theorem ints_all {ks : List Int → Prop} : ∀ {vs : List Value}, (∀ v ∈ vs, ∃ k t, v = .int k t) → ∃ ns, IntsAre vs ns
  | [], _ => ⟨[], .nil⟩
  | v :: vs, h => by
    obtain ⟨k, t, rfl⟩ := h v (List.mem_cons_self ..)
    obtain ⟨ns, hn⟩ := ints_all (ks := ks) fun v m => h v (List.mem_cons_of_mem _ m)
    exact ⟨k :: ns, .cons k t hn⟩
theorem ints_mem : ∀ {vs : List Value} {ns : List Int}, IntsAre vs ns → ∀ k, k ∈ ns ↔ ∃ t, .int k t ∈ vs
  | _, _, .nil, k => by simp
  | _, _, .cons j t h, k => by
    rw [List.mem_cons, ints_mem h k]
    constructor
    · rintro (rfl | ⟨t', m⟩)
      · exact ⟨_, List.mem_cons_self ..⟩
      · exact ⟨t', List.mem_cons_of_mem _ m⟩
    · rintro ⟨t', m⟩
      rcases List.mem_cons.mp m with e | m
      · cases e; exact .inl rfl
      · exact .inr ⟨t', m⟩
theorem sorted_set {S : Int → Bool} {n : Nat} {Q : Value → Shared → Prop} (hh : A.handled = none) (hS : s.heap.SetOf (IK prog w) a S n) (hT : TAt (byText w) s.heap a) (h64 : n < 64)
    (h : ∀ h' d' tk' (l : Addr) (out : List Value) (ns : List Int) (e : Nat), (∀ b o, s.heap.get? b = some o → h'.get? b = some o) → s.heap.objs.size ≤ l → h'.get? l = some (seqObj "list" out.toArray e) → IntsAre out ns → ns.Pairwise (· ≤ ·) → (∀ k, S k = true ↔ k ∈ ns) → ns.length = n →
      Q (.ref l) { s with heap := h', drawn := d', toks := tk' }) : wpAny (model prog w) A (call (.builtin "sorted") [.ref a]) Q E s := by
  obtain ⟨o, es, ep, t, g1, g2, g3, l1, l2, l3, l4, sz⟩ := hS
  refine Calls.call_function_entry kind_sorted plain_sorted entry_sorted (args_sorted1 _) ?_
  unfold Builtin.«sorted»
  refine wpAny_bind (m := checkCount "sorted" 1 1 _) (wpAny_pure (wpAny_bind ?_))
  refine collect_set (A := A.in1) hh l3 g1 g2 g3 l4 (hT o es ep t g1 g3) fun h1 d1 tk1 items k1 k2 pp => ?_
  have hint : ∀ v ∈ items, ∃ k t, v = .int k t := fun v m => by
    obtain ⟨e, m', rfl⟩ := List.mem_map.mp (pp.mem_iff.mp m)
    obtain ⟨⟨k, hk, _⟩, _⟩ := l1 e m'
    obtain ⟨t, ht⟩ := Value.isInt_shape hk
    exact ⟨k, t, ht⟩
  obtain ⟨ns, hI⟩ := ints_all (ks := fun _ => True) hint
  have hlen : items.length = n := by rw [pp.length_eq, List.length_map, Array.length_toList, sz]
  refine wpAny_bind (wpAny_newList ?_)
  have gL : (h1.push (seqObj "list" items.toArray 0)).get? h1.objs.size = some (seqObj "list" items.toArray 0) := Heap.get?_push_size _ rfl
  refine wpAny_bind (wpAny_holding (wpAny_call_entry slot_list_sort ⟨_, gL, rfl⟩ entry_list_sort (list_sort_tree gL hI (by omega) fun out ns' a1 a2 a3 => ⟨_, rfl, ?_⟩) (args_list_sort _)))
  obtain ⟨e, he⟩ := sortedHeap_at (out := out) gL
  refine wpAny_pure ⟨_, rfl, h _ d1 tk1 h1.objs.size out.toList ns' e (fun b o q => ?_) k2 (by simpa using he) a1 a3 (fun k => ?_) ?_⟩
  · have lb := Heap.lt_size (k1 b o q)
    rw [sortedHeap_old (Nat.ne_of_lt lb) (by rw [Heap.size_push]; exact Nat.lt_succ_of_lt lb)]
    exact Heap.get?_push_of_some _ (k1 b o q)
  · rw [a2.mem_iff, ints_mem hI, l2 k]
    constructor
    · rintro ⟨e, m, q⟩
      obtain ⟨t, ht⟩ := Value.isInt_shape q
      exact ⟨t, pp.mem_iff.mpr (ht ▸ List.mem_map.mpr ⟨e, m, rfl⟩)⟩
    · rintro ⟨t, m⟩
      obtain ⟨e, m', q⟩ := List.mem_map.mp (pp.mem_iff.mp m)
      exact ⟨e, m', by rw [q]; exact intKind_is _ _ _ _⟩
  · rw [a2.length_eq, ← hI.length, hlen]
end
end L2

set_option maxRecDepth 100000
set_option maxHeartbeats 4000000
namespace L2
open PySem PySem.Spec PyProof.Rows
def SetX (P : Program) (w : World) (a : Addr) (S : Int → Bool) (n : Nat) : HO := .ext fun h => h.SetOf (IK P w) a S n ∧ TAt (byText w) h a
theorem Inv.dr {X : Cx} {pins : List (Addr × Obj)} {σ : St} {H : Hp} {s : Shared} (I : Inv X pins σ H s) (d : Drawn) : Inv X pins σ H { s with drawn := d } :=
  ⟨I.ok, I.os, I.bare, I.base, I.loc, I.cell, I.free, I.freeC, I.pin, I.hok, I.len⟩
theorem vals_intsA : ∀ {ns : List Int} {us : List Value}, Vals (ns.map V.int) us → IntsAre us ns
  | [], _, .nil => .nil
  | n :: ns, _, .cons r t => by
    obtain ⟨k, rfl⟩ := r
    exact .cons n k (vals_intsA t)
theorem ints_vals : ∀ {us : List Value} {ns : List Int}, IntsAre us ns → Vals (ns.map V.int) us
  | _, _, .nil => .nil
  | _, _, .cons k t h => .cons ⟨t, rfl⟩ (ints_vals h)
theorem nodup_step {σ : List Int} {k : Int} (h : σ.Nodup) : (step_dedup σ k).Nodup := by
  unfold step_dedup
  split
  · exact h
  · rename_i q
    rw [List.nodup_append]
    refine ⟨h, by simp, fun x hx y hy => ?_⟩
    rw [List.mem_singleton.mp hy]
    intro e
    subst e
    exact q (by simp [hx])
theorem firstMet_nodup (val : Nat → Int) : ∀ i, (firstMet val i).Nodup
  | 0 => List.nodup_nil
  | i + 1 => by rw [firstMet_succ]; exact nodup_step (firstMet_nodup val i)
theorem perm_of_sub : ∀ {ds ns : List Int}, ds.Nodup → (∀ k ∈ ds, k ∈ ns) → ns.length ≤ ds.length → ds.Perm ns
  | [], ns, _, _, hl => by
    have : ns = [] := List.length_eq_zero_iff.mp (by simpa using hl)
    rw [this]
  | d :: ds, ns, hd, hs, hl => by
    have hm := hs d (List.mem_cons_self ..)
    obtain ⟨h1, h2⟩ := List.nodup_cons.mp hd
    have hp := List.perm_cons_erase hm
    refine (List.Perm.cons d (perm_of_sub h2 (fun k hk => ?_) ?_)).trans hp.symm
    · rcases List.mem_cons.mp (hp.mem_iff.mp (hs k (List.mem_cons_of_mem _ hk))) with e | e
      · subst e; exact absurd hk h1
      · exact e
    · have := hp.length_eq; simp at this hl ⊢; omega
def rSetOf (P : Program) (w : World) (K : PySem.W.Frag) : List V → Hp → VK → Prop := fun xs H Q => ∃ p, ∃ ns : List Int, xs = [.ref p] ∧ SqL K H p (ns.map V.int) ∧ ns.length ≤ 4000 ∧ ∀ a (ms : List Int), H a = none → ms.Nodup → (∀ k, k ∈ ms ↔ k ∈ ns) → Q (.ref a) (upd H a (SetX P w a (fun k => ms.any (· == k)) ms.length))
def rSorted (P : Program) (w : World) : List V → Hp → VK → Prop := fun xs H Q => ∃ a, ∃ ms : List Int, xs = [.ref a] ∧ H a = some (SetX P w a (fun k => ms.any (· == k)) ms.length) ∧ ms.Nodup ∧ ms.length < 64 ∧
  ∀ l (rs : List Int), H l = none → rs.Pairwise (· < ·) → (∀ k, k ∈ rs ↔ k ∈ ms) → Q (.ref l) (upd H l (.lst (rs.map V.int)))
section
variable {X : Cx}
theorem call_setM (hc : X.calm = true) : CallR X (.type "set") (rSetOf X.prog X.w X.K) := by
  intro pins s σ H xs us Q I rv h
  obtain ⟨p, ns, rfl, hp, hn, q⟩ := h
  obtain ⟨u, rfl, ru⟩ := vals1 rv
  cases ru
  obtain ⟨its, rs, il, hz⟩ := I.list hp
  have hI := vals_intsA rs
  have hlen := hI.length
  refine callset_G (I.ok.hd hc) il.isList (by simpa using hI) (by rw [List.size_toArray]; unfold scanBound; omega) fun h' tk q1 q2 q3 => ?_
  have hmem : ∀ k, k ∈ firstMet (fun i => ns.getD i 0) its.toArray.size ↔ k ∈ ns := fun k => by
    have e := firstMet_any (fun i => ns.getD i 0) its.toArray.size k
    have e2 : (List.range its.toArray.size).map (fun i => ns.getD i 0) = ns := by
      rw [List.size_toArray, hlen]
      apply List.ext_getElem
      · simp
      · intro i h1 h2
        simp [List.getD_eq_getElem?_getD, List.getElem?_eq_getElem h2]
    rw [e2] at e
    have a1 : ∀ (l : List Int), (l.any (· == k)) = true ↔ k ∈ l := fun l => by
      rw [List.any_eq_true]
      exact ⟨fun ⟨x, m, z⟩ => (beq_iff_eq.mp z) ▸ m, fun m => ⟨k, m, beq_self_eq_true _⟩⟩
    rw [← a1, ← a1, e]
  have kp : ∀ b u, s.heap.get? b = some u → h'.get? b = some u := fun b u e => q3 b u (Heap.lt_size e) e
  have new : ObjOk X.prog X.w (upd H s.heap.objs.size (SetX X.prog X.w s.heap.objs.size (fun k => (firstMet (fun i => ns.getD i 0) its.toArray.size).any (· == k)) (firstMet (fun i => ns.getD i 0) its.toArray.size).length)) h' s.heap.objs.size (SetX X.prog X.w s.heap.objs.size (fun k => (firstMet (fun i => ns.getD i 0) its.toArray.size).any (· == k)) (firstMet (fun i => ns.getD i 0) its.toArray.size).length) := by
    refine ⟨⟨q1, q2⟩, ?_, fun h1 h2 z k => ?_⟩
    · obtain ⟨o, _, _, _, ho, _⟩ := q1; exact ⟨o, ho⟩
    · obtain ⟨⟨o, es, ep, t, ho, r⟩, tt⟩ := z
      exact ⟨⟨o, es, ep, t, k o ho, r⟩, tt.keep ho (k o ho)⟩
  exact ⟨.ref s.heap.objs.size, _, I.laid (t' := tk) kp (Nat.le_refl _) new, rfl, q _ _ (I.hok.fresh (Nat.le_refl _)) (firstMet_nodup _ _) hmem⟩
theorem call_sortM (hc : X.calm = true) : CallR X (.builtin "sorted") (rSorted X.prog X.w) := by
  intro pins s σ H xs us Q I rv h
  obtain ⟨a, ms, rfl, hH, nd, h64, q⟩ := h
  obtain ⟨u, rfl, ru⟩ := vals1 rv
  cases ru
  obtain ⟨⟨q1, q2⟩, _, _⟩ := I.hok a _ hH
  refine sorted_set (I.ok.hd hc) q1 q2 h64 fun h' d' tk' l out ns e kp hl gl hI pw hm hn => ?_
  have a1 : ∀ k, (ms.any (· == k)) = true ↔ k ∈ ms := fun k => by
    rw [List.any_eq_true]
    exact ⟨fun ⟨x, m, z⟩ => (beq_iff_eq.mp z) ▸ m, fun m => ⟨k, m, beq_self_eq_true _⟩⟩
  have hm' : ∀ k, k ∈ ns ↔ k ∈ ms := fun k => by rw [← hm k, a1]
  have pp := perm_of_sub nd (fun k m => (hm' k).mpr m) (Nat.le_of_eq hn)
  have ndn : ns.Nodup := pp.nodup_iff.mp nd
  have lt : ns.Pairwise (· < ·) := by
    have := pw.and ndn
    exact this.imp fun ⟨x, y⟩ => by omega
  have new : ObjOk X.prog X.w (upd H l (.lst (ns.map V.int))) h' l (.lst (ns.map V.int)) := by
    refine ⟨?_, out, e, ints_vals hI, gl⟩
    rw [List.length_map, hn]; exact Nat.le_trans (Nat.le_of_lt h64) (by decide)
  exact ⟨.ref l, _, (I.laid (t' := tk') kp hl new).dr d', rfl, q _ _ (I.hok.fresh hl) lt hm'⟩
end
theorem EvN.sortedSet {G : Gx} {ρ : Rh} {te : TE} {P : Program} {w : World} {K : PySem.W.Frag} {Θ : Bool → List PyData → Prop} (h : Ev G ρ te fun _ x => ∃ ns : List Int, x = .list (ns.map .int) ∧ ns.length < 64 ∧ ∀ rs : List Int, rs.Pairwise (· < ·) → (∀ k, k ∈ rs ↔ k ∈ ns) → Θ true (rs.map .int)) :
    EvN G ρ (tCB (rSorted P w) (tCons (tCB (rSetOf P w K) (tCons te tNil)) tNil)) Θ := fun nb σ H Q W z =>
  h nb σ H _ W fun f v H1 x ⟨ns, ex, hn, q⟩ s1 hv => by
    subst ex
    obtain ⟨a, xs, rfl, na, hx, hd⟩ := hv.ofL
    have e := isDs_ints_eq hd
    subst e
    refine ⟨a, ns, rfl, .of hx, by omega, fun b ms hb nd hm => ?_⟩
    have hms : ms.length ≤ ns.length := List.Nodup.length_le_of_subset nd fun k m => (hm k).mp m
    refine ⟨b, ms, rfl, upd_same, nd, by omega, fun l rs hl lt hm' => ?_⟩
    have s2 : Step G.B H1 (upd H1 b (SetX P w b (fun k => ms.any (· == k)) ms.length)) := .same s1.2 (same_new hb)
    exact EvN.fin (f := true) W (s1.trans s2) hl (isDs_intsL rs) (q rs lt fun k => (hm' k).trans (hm k)) z
end L2

set_option maxRecDepth 100000
set_option maxHeartbeats 4000000
namespace L2
open PySem PySem.Spec PyProof.Rows
def rRange1 : List V → Hp → VK → Prop := fun xs H Q => ∃ j : Int, xs = [.int j] ∧ ∀ a, H a = none → Q (.ref a) (upd H a (.rng 0 j))
def rListR : List V → Hp → VK → Prop := fun xs H Q => ∃ (a : Addr) (lo hi : Int), xs = [.ref a] ∧ H a = some (.rng lo hi) ∧ (-10000 ≤ lo ∧ lo ≤ 10000 ∧ -10000 ≤ hi ∧ hi ≤ 10000) ∧ ∀ l, H l = none → Q (.ref l) (upd H l (.lst (((List.range (hi - lo).toNat).map fun (i : Nat) => lo + (i : Int)).map V.int)))
def rSum (K : PySem.W.Frag) : List V → Hp → VK → Prop := fun xs H Q => ∃ p, ∃ ns : List Int, xs = [.ref p] ∧ SqL K H p (ns.map V.int) ∧ Q (.int ns.sum) H
def rAll (K : PySem.W.Frag) : List V → Hp → VK → Prop := fun xs H Q => ∃ p, ∃ bs : List Bool, xs = [.ref p] ∧ SqL K H p (bs.map V.bl) ∧ Q (.bl (bs.all id)) H
section
variable {X : Cx}
theorem call_rangeM : CallR X (.type "range") rRange1 := by
  intro pins s σ H xs us Q I rv h
  obtain ⟨j, rfl, q⟩ := h
  obtain ⟨u, rfl, ru⟩ := vals1 rv
  obtain ⟨t, rfl⟩ := ru
  refine call_range_1 ?_
  exact ⟨.ref s.heap.objs.size, _, I.laid (t' := s.toks + 1 + 1) (o := .rng 0 j) (fun b o e => Heap.get?_push_of_some _ e) (Nat.le_refl _) ⟨_, _, _, Heap.get?_push_size _ rfl⟩, rfl, q _ (I.hok.fresh (Nat.le_refl _))⟩
theorem call_listR (hc : X.calm = true) : CallR X (.type "list") rListR := by
  intro pins s σ H xs us Q I rv h
  obtain ⟨a, lo, hi, rfl, hH, hb, q⟩ := h
  obtain ⟨u, rfl, ru⟩ := vals1 rv
  cases ru
  obtain ⟨t, u, v, e⟩ := (show ObjOk X.prog X.w H s.heap a (.rng lo hi) from I.hok a _ hH)
  refine call_list_range (n := (hi - lo).toNat) (I.ok.hd hc) (show IsRange s.heap a lo hi 1 t u v from e) (small_one (by omega) (by omega) (by omega) (by omega)) (rangeSize_nat lo hi) (by omega) fun h' tk acc c' kp hl hi' => ?_
  have vv : Vals (((List.range (hi - lo).toNat).map fun (i : Nat) => lo + (i : Int)).map V.int) acc.toList := by
    have key : ∀ (n : Nat) (l : List Value), l.length = n → ∀ b : Int, (∀ (j : Nat) (v : Value), l[j]? = some v → ∃ t, v = Value.int (b + (j : Int)) t) → Vals (((List.range n).map fun (i : Nat) => b + (i : Int)).map V.int) l := by
      intro n
      induction n with
      | zero => intro l hl b _; rw [List.length_eq_zero_iff.mp hl]; exact .nil
      | succ n ih =>
        intro l hl b hv
        cases l with
        | nil => cases hl
        | cons x r =>
          obtain ⟨t, e⟩ := hv 0 x rfl
          rw [List.range_succ_eq_map, List.map_cons, List.map_cons]
          refine .cons ⟨t, by simpa using e⟩ ?_
          have := ih r (by simpa using hl) (b + 1) (fun j v e => by
            obtain ⟨t, z⟩ := hv (j + 1) v (by simpa using e)
            exact ⟨t, by rw [z]; congr 1; omega⟩)
          rw [List.map_map] at this ⊢
          rw [List.map_map]
          have e : ∀ i : Nat, ((V.int ∘ fun (i : Nat) => b + (i : Int)) ∘ Nat.succ) i = (V.int ∘ fun (i : Nat) => b + 1 + (i : Int)) i := fun i => by
            show V.int (b + ((i + 1 : Nat) : Int)) = V.int (b + 1 + (i : Int)); congr 1; omega
          rw [List.map_congr_left fun i _ => e i]
          exact this
    refine key _ _ (by rw [Array.length_toList]; exact hi'.1) lo fun j v e => ?_
    obtain ⟨t, z⟩ := hi'.2 j v (by rw [← Array.getElem?_toList]; exact e)
    exact ⟨t, by rw [z]; congr 1; omega⟩
  refine ⟨.ref s.heap.objs.size, _, I.laid (t' := tk) (o := .lst (((List.range (hi - lo).toNat).map fun (i : Nat) => lo + (i : Int)).map V.int)) kp (Nat.le_refl _) ⟨?_, acc.toList, c', vv, by simpa using hl⟩, rfl, q _ (I.hok.fresh (Nat.le_refl _))⟩
  rw [List.length_map, List.length_map, List.length_range]
  exact Nat.le_trans (show (hi - lo).toNat ≤ 20000 by omega) (by decide)
theorem call_allM (hc : X.calm = true) : CallR X (.builtin "all") (rAll X.K) := by
  intro pins s σ H xs us Q I rv h
  obtain ⟨p, bs, rfl, hp, q⟩ := h
  obtain ⟨u, rfl, ru⟩ := vals1 rv
  cases ru
  obtain ⟨its, rs, il, hz⟩ := I.list hp
  have hl := rs.length
  have hv : ∀ (i : Nat) (v : Value), its.toArray[i]? = some v → v = .bool (bs.getD i false) := fun i v e => by
    have hi : i < bs.length := by
      have := (Array.getElem?_eq_some_iff.mp e).1
      rw [List.length_map] at hl
      simp at this; omega
    obtain ⟨u, hu, ru⟩ := rs.get (i := i) (x := .bl bs[i]) (by rw [List.getElem?_map, List.getElem?_eq_getElem hi]; rfl)
    rw [List.getElem?_toArray, hu] at e
    cases e
    rw [List.getD_eq_getElem?_getD, List.getElem?_eq_getElem hi]
    exact ru
  have ll := il.isList
  have hlt : p < s.heap.objs.size := by obtain ⟨o, e, _⟩ := ll; exact Heap.lt_size e
  refine call_all_walk (wpAny_pyIter_list ll ⟨s.heap.objs.size, _, _, _, _, _, fun i => bs.getD i false, rfl, Walks.list (A := X.A.in1) (I.ok.hd hc) _ p (Nat.ne_of_lt hlt) its.toArray, ⟨⟨_, Heap.get?_push_size _ rfl, rfl, rfl⟩, ll.push _⟩, fun i v s Q E hP hQ => ?_, fun h' tk kp => ?_⟩)
  · rw [hv i v hP]; exact wpAny_truthy_bool hQ
  · have e : (List.range its.toArray.size).all (fun i => bs.getD i false) = bs.all id := by
      have hs : its.toArray.size = bs.length := by rw [List.length_map] at hl; simp; omega
      rw [hs]
      clear hv hl rs q hp hs hz
      induction bs with
      | nil => rfl
      | cons b r ih =>
        rw [List.length_cons, List.range_succ_eq_map, List.all_cons, List.all_cons, List.all_map]
        simpa [Function.comp_def] using congrArg (b && ·) ih
    rw [e]
    refine ⟨.bl (bs.all id), H, I.kept fun b o q => kp b o (fun m => ?_) (Heap.get?_push_of_some _ q), rfl, q⟩
    have := List.mem_singleton.mp m
    rw [this] at q
    exact absurd (Heap.lt_size q) (Nat.lt_irrefl _)
end
section
variable {G : Gx} {ρ : Rh} {te : TE} {K : PySem.W.Frag} {Φ : Pd}
theorem EvN.listRange {Θ : Bool → List PyData → Prop} (h : Ev G ρ te fun _ x => ∃ n : Int, x = .int n ∧ -10000 ≤ n ∧ n ≤ 10000 ∧ Θ true (((List.range n.toNat).map fun (i : Nat) => (0 : Int) + (i : Int)).map .int)) : EvN G ρ (tCB rListR (tCons (tCB rRange1 (tCons te tNil)) tNil)) Θ := fun nb σ H Q W z =>
  h nb σ H _ W fun f v H1 x ⟨n, ex, h1, h2, q⟩ s1 hv => by
    subst ex
    rw [hv.ofI]
    refine ⟨n, rfl, fun a ha => ⟨a, 0, n, rfl, upd_same, by omega, fun l hl => ?_⟩⟩
    rw [Int.sub_zero]
    exact EvN.fin (f := true) W (s1.trans (.same s1.2 (same_new ha))) hl (isDs_intsL _) q z
theorem Ev.sum (h : Ev G ρ te fun _ x => ∃ ns : List Int, x = .list (ns.map .int) ∧ Φ true (.int ns.sum)) : Ev G ρ (tCB (rSum K) (tCons te tNil)) Φ := fun nb σ H Q W z =>
  h nb σ H _ W fun f v H1 x ⟨ns, ex, q⟩ s1 hv => by
    subst ex
    obtain ⟨a, xs, rfl, na, hx, hd⟩ := hv.ofL
    have e := isDs_ints_eq hd
    subst e
    exact ⟨a, ns, rfl, .of hx, z true _ H1 _ q s1 (.int _)⟩
theorem isDs_bools_eq {nb : Addr → Prop} {H : Hp} : ∀ {is : List Bool} {xs : List V}, IsDs nb H (is.map PyData.bool) xs → xs = is.map V.bl
  | [], _, h => by unfold List.map IsDs at h; exact h
  | i :: is, _, h => by
    rw [List.map_cons] at h
    unfold IsDs at h
    obtain ⟨y, ys, rfl, h1, h2⟩ := h
    unfold IsD at h1
    rw [List.map_cons, h1, isDs_bools_eq h2]
theorem Ev.all (h : Ev G ρ te fun _ x => ∃ bs : List Bool, x = .list (bs.map .bool) ∧ Φ true (.bool (bs.all id))) : Ev G ρ (tCB (rAll K) (tCons te tNil)) Φ := fun nb σ H Q W z =>
  h nb σ H _ W fun f v H1 x ⟨bs, ex, q⟩ s1 hv => by
    subst ex
    obtain ⟨a, xs, rfl, na, hx, hd⟩ := hv.ofL
    have e := isDs_bools_eq hd
    subst e
    exact ⟨a, bs, rfl, .of hx, z true _ H1 _ q s1 (.bl _)⟩
end
end L2

set_option maxRecDepth 100000
set_option maxHeartbeats 4000000
namespace L2
open PySem PySem.Spec PyProof.Rows
def isiD : PyData → String → Bool
  | .bool _, T => T == "bool" || T == "int"
  | .int _, T => T == "int"
  | .str _, T => T == "str"
  | .list _, T => T == "list"
  | .tuple _, T => T == "tuple"
  | _, _ => false
def tyD : PyData → String
  | .none => "NoneType" | .bool _ => "bool" | .int _ => "int" | .str _ => "str" | .list _ => "list" | .tuple _ => "tuple" | .dict _ => "dict"
theorem isi_list (ds : List PyData) : isiD (.list ds) "list" = true ∧ isiD (.list ds) "tuple" = false := ⟨rfl, rfl⟩
theorem isi_tuple (ds : List PyData) : isiD (.tuple ds) "list" = false ∧ isiD (.tuple ds) "tuple" = true := ⟨rfl, rfl⟩
theorem tyD_of {K : PySem.W.Frag} {nb : Addr → Prop} {H : Hp} {d : PyData} {v : V} (h : IsD nb H d v) : TyOf K H v (.type (tyD d)) := by
  cases d <;> unfold IsD at h
  · subst h; exact .non
  · subst h; exact .bl _
  · subst h; exact .int _
  · subst h; exact .str _
  · obtain ⟨a, xs, rfl, _, e, _⟩ := h; exact .lst e
  · obtain ⟨a, xs, rfl, _, e, _⟩ := h; exact .tup e
  · obtain ⟨a, xs, rfl, _, e, _⟩ := h; exact .dK e
def five (T : String) : Prop := T = "int" ∨ T = "bool" ∨ T = "list" ∨ T = "tuple" ∨ T = "str"
theorem kit_of {K : PySem.W.Frag} {d : PyData} {T : String} (hT : five T) : PySem.W.kitOne K (.type (tyD d)) (.type T) = some (isiD d T) := by
  rcases hT with rfl | rfl | rfl | rfl | rfl <;> cases d <;> (with_unfolding_all rfl)
theorem kit_any {K : PySem.W.Frag} {d : PyData} : ∀ {Ts : List String}, (∀ T ∈ Ts, five T) → PySem.W.kitAny K (.type (tyD d)) (Ts.map Value.type) = some (Ts.any (isiD d))
  | [], _ => rfl
  | T :: r, h => by
    rw [List.map_cons]
    unfold PySem.W.kitAny
    rw [kit_of (h T (List.mem_cons_self ..)), List.any_cons]
    cases isiD d T with
    | true => rfl
    | false => exact kit_any fun T m => h T (List.mem_cons_of_mem _ m)
def rIsiT : List V → Hp → VK → Prop := fun xs H Q => ∃ (x : V) (tp : Addr) (Ts : List String) (nb : Addr → Prop) (d : PyData), xs = [x, .ref tp] ∧ H tp = some (.tup (Ts.map V.ty)) ∧ IsD nb H d x ∧ (∀ T ∈ Ts, five T) ∧ Q (.bl (Ts.any (isiD d))) H
theorem vals_ty : ∀ {Ts : List String} {us : List Value}, Vals (Ts.map V.ty) us → us = Ts.map Value.type
  | [], _, .nil => rfl
  | T :: r, _, .cons h t => by rw [List.map_cons, vals_ty t, show _ = Value.type T from h]
section
variable {X : Cx}
theorem call_isiT : CallR X (.builtin "isinstance") rIsiT := by
  intro pins s σ H xs us Q I rv h
  obtain ⟨x, tp, Ts, nb, d, rfl, ht, hd, h5, q⟩ := h
  obtain ⟨u, v, rfl, ru, rv⟩ := rv.two
  cases (show v = Value.ref tp from rv)
  obtain ⟨_, its, vt, o, ho, hc, n, hdat⟩ := (show ObjOk X.prog X.w H s.heap tp (.tup (Ts.map V.ty)) from I.hok tp _ ht)
  have e := vals_ty vt
  subst e
  obtain ⟨c0, d0, dt, sl⟩ := o
  dsimp only at hc hdat
  subst hc hdat
  have fin : ∀ tk, EP X pins σ Q (.bool (Ts.any (isiD d))) { s with toks := tk } := fun tk => ⟨.bl _, H, I.tok tk, rfl, q⟩
  have ka := kit_any (K := X.K) (d := d) h5
  cases d <;> unfold IsD at hd
  · subst hd; cases (show u = Value.none from ru); exact PySem.W.kia_tup PySem.W.kitx_none I.kIn True.intro ho ka (fun z => nomatch z) fin
  · subst hd; cases (show u = Value.bool _ from ru); exact PySem.W.kia_tup PySem.W.kitx_bool I.kIn True.intro ho ka (fun z => nomatch z) fin
  · subst hd; obtain ⟨t, rfl⟩ := (show ∃ t, u = Value.int _ t from ru); exact PySem.W.kia_tup PySem.W.kitx_int I.kIn True.intro ho ka (fun z => nomatch z) fin
  · subst hd; obtain ⟨t, rfl⟩ := (show ∃ t, u = Value.str _ t from ru); exact PySem.W.kia_tup PySem.W.kitx_str I.kIn True.intro ho ka (fun z => nomatch z) fin
  · obtain ⟨a, ys, rfl, _, ea, _⟩ := hd
    cases (show u = Value.ref a from ru)
    obtain ⟨_, _, n, _, h1⟩ := (show ObjOk X.prog X.w H s.heap a (.lst ys) from I.hok a _ ea)
    exact PySem.W.kia_tup PySem.W.kitx_list I.kIn ⟨_, h1, rfl⟩ ho ka (fun z => nomatch z) fin
  · obtain ⟨a, ys, rfl, _, ea, _⟩ := hd
    cases (show u = Value.ref a from ru)
    obtain ⟨_, _, _, o', h1, h2, _⟩ := (show ObjOk X.prog X.w H s.heap a (.tup ys) from I.hok a _ ea)
    exact PySem.W.kia_tup PySem.W.kitx_tuple I.kIn ⟨o', h1, h2⟩ ho ka (fun z => nomatch z) fin
  · obtain ⟨a, ys, rfl, _, ea, _⟩ := hd
    cases (show u = Value.ref a from ru)
    obtain ⟨_, _, vs, _, dd⟩ := (show ObjOk X.prog X.w H s.heap a (.dK ys) from I.hok a _ ea)
    exact PySem.W.kia_tup PySem.W.kitx_dict I.kIn dd.typeIs ho ka (fun z => nomatch z) fin
end
section
variable {G : Gx} {ρ : Rh} {ta tb te : TE} {K : PySem.W.Frag} {Φ : Pd} {T U : String}
theorem Ev.isi (hT : five T) (h : Ev G ρ te fun _ x => Φ true (.bool (isiD x T))) : Ev G ρ (tCB (rIsi K) (tCons te (tCons (tC (.ty T)) tNil))) Φ := fun nb σ H Q W z =>
  h nb σ H _ W fun f v H1 d q s1 hv => ⟨v, T, _, _, rfl, tyD_of hv, kit_of hT, z true _ H1 _ q s1 (.bl _)⟩
theorem Ev.isi2 (hT : five T) (hU : five U) (h : Ev G ρ te fun _ x => Φ true (.bool (isiD x T || isiD x U))) : Ev G ρ (tCB rIsiT (tCons te (tCons (tTup (tCons (tC (.ty T)) (tCons (tC (.ty U)) tNil))) tNil))) Φ := fun nb σ H Q W z =>
  h nb σ H _ W fun f v H1 d q s1 hv => by
    refine ⟨by show 2 ≤ sizeLine; decide, fun p hp => ⟨v, p, [T, U], G.S nb f, d, rfl, upd_same, hv.keep (But.of (same_new hp)), fun S m => ?_, ?_⟩⟩
    · rcases List.mem_cons.mp m with e | m
      · rw [e]; exact hT
      · rw [List.mem_singleton.mp m]; exact hU
    · rw [List.any_cons, List.any_cons, List.any_nil, Bool.or_false]
      exact z true _ _ _ q (s1.trans (.same s1.2 (same_new hp))) (.bl _)
theorem Ev.lenS (h : Ev G ρ te fun _ x => ∃ ds, (x = .list ds ∨ x = .tuple ds) ∧ Φ true (.int ds.length)) : Ev G ρ (tCB (rLen K) (tCons te tNil)) Φ := fun nb σ H Q W z =>
  h nb σ H _ W fun f v H1 d ⟨ds, e, q⟩ s1 hv => by
    rcases e with e | e
    · subst e
      obtain ⟨a, xs, rfl, n, hx, hd⟩ := hv.ofL
      exact ⟨a, xs, rfl, .inl (.of hx), by rw [hd.length]; exact z true _ H1 _ q s1 (.int _)⟩
    · subst e
      obtain ⟨a, xs, rfl, n, hx, hd⟩ := hv.ofT
      exact ⟨a, xs, rfl, .inr (.of hx), by rw [hd.length]; exact z true _ H1 _ q s1 (.int _)⟩
theorem Ev.ixS (h : Ev G ρ ta fun f x => ∃ ds, (x = .list ds ∨ x = .tuple ds) ∧ Ev G ρ tb fun _ y => ∃ k, y = .int k ∧ ∃ e, atI ds k = some e ∧ Φ f e) : Ev G ρ (tOp (rIx K) ta tb) Φ :=
  Ev.op2 (h.mono fun f x ⟨ds, ex, q⟩ => q.mono fun g y ⟨k, ey, e, he, p⟩ nb σ H u v Q W hu hv z => by
    subst ey
    rcases ex with ex | ex
    · subst ex
      obtain ⟨a, xs, rfl, n, hx, hd⟩ := hu.ofL
      obtain ⟨w, hw, hD⟩ := hd.atI he
      exact .inl ⟨a, xs, k, w, rfl, hv.ofI, .of hx, hw, z f _ H _ p (.refl W.bag) hD⟩
    · subst ex
      obtain ⟨a, xs, rfl, n, hx, hd⟩ := hu.ofT
      obtain ⟨w, hw, hD⟩ := hd.atI he
      exact .inr (.inl ⟨a, xs, k, w, rfl, hv.ofI, .of hx, hw, z f _ H _ p (.refl W.bag) hD⟩))
end
theorem Callee.void {P : Program} {w : World} {K : PySem.W.Frag} {mg : Str → Option Value} {base : Heap} {x : Str} {st : Stmt} {k : Nat} {ps : List Str} {sp : Sp} {f : Addr} {fd : FuncData} (F : Fun K x x st f fd) (b : Binds K fd ps []) (m : mg x = some (.ref f)) (hv : ∀ vs H Q E, ¬ sp vs H Q E) : Callee P w K mg base x k ps sp :=
  ⟨f, fd, ⟨fun vs H Q E h => (hv vs H Q E h).elim, fun A outer s H args us vs Q E _ _ _ _ h => (hv vs H Q E h).elim⟩, b, F.kp, m⟩
end L2

set_option maxRecDepth 100000
set_option maxHeartbeats 4000000
namespace L2
open PySem PySem.Spec PyProof.Rows
section
variable {G : Gx} {ρ ρc : Rh} {te : TE} {gt : TG} {n i : Nat} {it : Nat → PyData → Prop} {fi : Bool} {Θ : Bool → List PyData → Prop} {E : DE}
theorem scAll_ints (os : List Int) : scAll (os.map PyData.int) = true := by
  unfold scAll
  rw [List.all_eq_true]
  intro x hx
  obtain ⟨y, _, rfl⟩ := List.mem_map.mp hx
  rfl
theorem CompD.ints (P : Int → Prop) (ht : ∀ i d, it i d → Gv G ρc gt fi d fun ρ1 => Wk ρc ρ1 ∧ Ev G ρ1 te fun _ e => ∃ r : Int, e = .int r ∧ P r) (h : ∀ os : List Int, os.length = n → (∀ x ∈ os, P x) → Θ true (os.map .int)) : CompD G ρc n it fi gt tNoTest te Θ := by
  refine ⟨false, fun i ds => ds.length = i ∧ ∃ os : List Int, ds = os.map .int ∧ ∀ x ∈ os, P x, ⟨rfl, [], rfl, fun _ h => nomatch h⟩, ?_, ?_⟩
  · rintro i d ds hd hl ⟨hl2, os, rfl, ho⟩
    refine fun nb σ H v Q W hv z => ht i d hd nb σ H v Q W hv fun σ' ρ' ⟨w, q⟩ W' => z σ' ρ' ⟨w, Tv.noTest (iteT (q.mono fun f e ⟨r, ee, hr⟩ => ⟨fun z => (by cases z), ?_, os ++ [r], ?_, fun x hx => ?_⟩))⟩ W'
    · rw [List.length_append, List.length_singleton, hl2]
    · rw [ee]; simp
    · rcases List.mem_append.mp hx with h | h
      · exact ho x h
      · rw [List.mem_singleton.mp h]; exact hr
  · rintro ds hl ⟨hl2, os, rfl, ho⟩
    rw [scAll_ints, Bool.or_true]
    exact h os (by rw [List.length_map] at hl2; exact hl2) ho
theorem CompD.rel {α : Type} (φ : α → PyData) (fl : Bool) (P : Nat → α → Prop) (ht : ∀ i d, it i d → Gv G ρc gt fi d fun ρ1 => Wk ρc ρ1 ∧ Ev G ρ1 te fun f e => (fl = true → f = true) ∧ ∃ r : α, e = φ r ∧ P i r)
    (h : ∀ os : List α, os.length = n → (∀ (i : Nat) x, os[i]? = some x → P i x) → Θ (fl || scAll (os.map φ)) (os.map φ)) : CompD G ρc n it fi gt tNoTest te Θ := by
  refine ⟨fl, fun i ds => ds.length = i ∧ ∃ os : List α, ds = os.map φ ∧ ∀ (i : Nat) x, os[i]? = some x → P i x, ⟨rfl, [], rfl, fun j x e => by simp at e⟩, ?_, ?_⟩
  · rintro i d ds hd hl ⟨hl2, os, rfl, ho⟩
    refine fun nb σ H v Q W hv z => ht i d hd nb σ H v Q W hv fun σ' ρ' ⟨w, q⟩ W' => z σ' ρ' ⟨w, Tv.noTest (iteT (q.mono fun f e ⟨hf, r, ee, hr⟩ => ⟨hf, ?_, os ++ [r], ?_, fun j x hj => ?_⟩))⟩ W'
    · rw [List.length_append, List.length_singleton, hl2]
    · rw [ee]; simp
    · rw [List.length_map] at hl2
      rcases Nat.lt_trichotomy j os.length with h | h | h
      · exact ho j x (by rwa [List.getElem?_append_left h] at hj)
      · subst h
        simp at hj
        subst hj
        rw [hl2]; exact hr
      · rw [List.getElem?_eq_none (by rw [List.length_append, List.length_singleton]; omega)] at hj
        cases hj
  · rintro ds hl ⟨hl2, os, rfl, ho⟩
    exact h os (by rw [List.length_map] at hl2; exact hl2) ho
theorem Sv.asgNil (h : ∀ a, E.nx (ρ.set i (.own a true []))) : Sv G ρ (tAsg (tLst tNil) (gName i)) E := Sv.asgN (EvN.lst (Av.nil ⟨by decide, fun a => h a⟩))
end
def rIsB : R2 := fun x y H Q => ∃ a b : Bool, x = .bl a ∧ y = .bl b ∧ Q (.bl (a == b)) H
theorem op_isB {X : Cx} : OpR X (compareOp .Is) rIsB := by
  intro pins s σ H x y v u Q I rx ry h
  obtain ⟨a, b, rfl, rfl, q⟩ := h
  cases (show v = Value.bool a from rx)
  cases (show u = Value.bool b from ry)
  have : compareOp .Is (Value.bool a) (Value.bool b) = pure (Value.bool (a == b)) := by cases a <;> cases b <;> rfl
  rw [this]
  exact wpAny_pure ⟨.bl _, H, I, rfl, q⟩
theorem Ev.isB {G : Gx} {ρ : Rh} {ta : TE} {b : Bool} {Φ : Pd} (h : Ev G ρ ta fun _ x => ∃ a, x = .bool a ∧ Φ true (.bool (a == b))) : Ev G ρ (tOp rIsB ta (tC (.bl b))) Φ := fun nb σ H Q W z =>
  h nb σ H _ W fun f v H1 d ⟨a, e, q⟩ s1 hv => by
    subst e
    unfold IsD at hv
    subst hv
    exact ⟨a, b, rfl, rfl, z true _ H1 _ q s1 (.bl _)⟩
theorem pt_truthK {X : Cx} {K : PySem.W.Frag} {a : Expr} {ta : TE} (hK : X.K = K) (ha : PE X a ta) (he : ∀ whole, isTrue a X.env whole = (do let v ← whole; standAt a.pos; holding [v] (truthy v))) : PT X a (tTruth K ta) := by
  subst hK
  exact pt_truth ha he
theorem pg_tupM {X : Cx} {K : PySem.W.Frag} {es : List Expr} {k : Nat} {t : TGs} {n : Nat} {pos : Pos} (hK : X.K = K) (hc : X.calm = true) (h : PGs X es t) (hn : (assignEach es X.env).length = n := by rfl) (hst : (assignEach es X.env).findIdx? (·.1) = none := by rfl) : PG X (.Tuple es k pos) (gTup K n t) := by
  subst hK
  exact pg_tup hc h hn hst
theorem eqv_nil (ds : List PyData) : PyData.eqv (.list ds) (.list []) = ds.isEmpty := by cases ds <;> simp [PyData.eqv, PyData.eqvAll]
section
variable {G : Gx} {ρ : Rh} {t : TA} {i n : Nat} {f : Bool} {ds : List PyData} {Φ : Pd} {Θ : Bool → List PyData → Prop}
end
theorem shaped_checks (cs : List Prs) : PyData.depthAll (cs.map prsD) ≤ 2 ∧ PyData.canLayAll0 (cs.map prsD) = true := by
  induction cs with
  | nil => simp [PyData.depthAll, PyData.canLayAll0]
  | cons a r ih =>
    have h := shaped_pairs a
    simp [PyData.depthAll, PyData.depth, PyData.canLayAll0, PyData.canLay0, ih.2, h.2.2]
    have := ih.1
    have := h.2.1
    omega
theorem Sv.conseq {G : Gx} {ρ : Rh} {s : TS} {E : DE} (I : Rh → Prop) (h : Sv G ρ s { E with nx := I }) (hI : ∀ ρ', I ρ' → E.nx ρ') : Sv G ρ s E := fun nb σ H D W K => h nb σ H D W ⟨fun nb ρ σ H q W => K.nx nb ρ σ H (hI ρ q) W, K.bk, K.ct, K.rt⟩
theorem pick {L : List Int} {k : Int} (h0 : 0 ≤ k) (h1 : k < L.length) (P : Int → Prop) (hP : ∀ x ∈ L, P x) : ∃ x, atI (L.map PyData.int) k = some (.int x) ∧ P x := by
  have hL : k.toNat < L.length := by omega
  exact ⟨L[k.toNat], atI_some h0 (by rw [List.getElem?_map, List.getElem?_eq_getElem hL]; rfl), hP _ (List.getElem_mem hL)⟩
end L2

set_option maxRecDepth 100000
set_option maxHeartbeats 4000000
namespace L2
open PySem PySem.Spec PyProof.Rows
end L2

set_option maxRecDepth 100000
set_option maxHeartbeats 4000000
namespace L2
open PySem PySem.Spec PyProof.Rows
theorem shaped_ints (xs : List Int) : SeqAt.shaped (.list (xs.map .int)) = true := by
  have h := shaped_word (xs.map some)
  have e : (xs.map some).map optD = xs.map PyData.int := by rw [List.map_map]; rfl
  rw [e] at h
  unfold SeqAt.shaped
  simp [PyData.canLay0, PyData.depth, h.1, h.2]
end L2
namespace L2
open PySem PySem.Spec PyProof.Rows
end L2

set_option maxRecDepth 100000
set_option maxHeartbeats 4000000
namespace L2
open PySem PySem.Spec PyProof.Rows
def tRev (K : PySem.W.Frag) (te : TE) (ts : TO) : TE := fun σ H Q => te σ H fun x H1 => ts σ H1 fun k H2 => k = some (-1) ∧ ∃ a xs, x = .ref a ∧ SqL K H2 a xs ∧ ∀ p, H2 p = none → Q (.ref p) (upd H2 p (.lst xs.reverse))
theorem IsDs.rev {nb : Addr → Prop} {H : Hp} : ∀ {ds : List PyData} {xs : List V}, IsDs nb H ds xs → IsDs nb H ds.reverse xs.reverse
  | [], xs, h => by unfold IsDs at h; subst h; exact .nil
  | d :: ds, xs, h => by
    unfold IsDs at h
    obtain ⟨y, ys, e, h1, h2⟩ := h
    subst e
    rw [List.reverse_cons, List.reverse_cons]
    exact IsDs.append (IsDs.rev h2) (.cons h1 .nil)
section
variable {G : Gx} {ρ : Rh} {Φ : Pd} {ta tb te : TE} {K : PySem.W.Frag}
theorem EvN.rev {ts : TO} {Θ : Bool → List PyData → Prop} (h : Ev G ρ te fun f x => ∃ ds, x = .list ds ∧ Ov G ρ ts fun o => o = some (-1) ∧ Θ (f || scAll ds.reverse) ds.reverse) : EvN G ρ (tRev K te ts) Θ := fun nb σ H Q W z =>
  h nb σ H _ W fun f v H1 d ⟨ds, e, q⟩ s1 hv => q nb σ H1 _ (W.step s1) fun o H2 ⟨eo, q2⟩ s2 => by
    subst e
    obtain ⟨a, xs, rfl, n, hx, hd⟩ := (hv.keep s2.butS).ofL
    exact ⟨eo, a, xs, rfl, .of hx, fun p hp => EvN.fin W (s1.trans s2) hp hd.rev q2 z⟩
theorem Ev.rev {ts : TO} (h : Ev G ρ te fun f x => ∃ ds, x = .list ds ∧ Ov G ρ ts fun o => o = some (-1) ∧ Φ (f || scAll ds.reverse) (.list ds.reverse)) : Ev G ρ (tRev K te ts) Φ := (EvN.rev (Θ := fun f ds => Φ f (.list ds)) h).ev
theorem op_inK {X : Cx} {K : PySem.W.Frag} (hK : X.K = K) : OpR X (compareOp .In) (rIn K false) := by subst hK; exact op_in_seq
theorem op_notInK {X : Cx} {K : PySem.W.Frag} (hK : X.K = K) : OpR X (compareOp .NotIn) (rIn K true) := by subst hK; exact op_notIn_seq
theorem Ev.inI {ng : Bool} (h : Ev G ρ ta fun _ x => ∃ k : Int, x = .int k ∧ Ev G ρ tb fun _ y => ∃ ns : List Int, y = .list (ns.map .int) ∧ Φ true (.bool (decide (k ∈ ns) != ng))) : Ev G ρ (tOp (rIn K ng) ta tb) Φ := fun nb σ H Q W z =>
  h nb σ H _ W fun f v H1 d ⟨k, e, q⟩ s1 hv => q nb σ H1 _ (W.step s1) fun g u H2 d2 ⟨ns, e2, p⟩ s2 hu => by
    subst e e2
    have hk := hv.ofI
    subst hk
    obtain ⟨a, xs, rfl, na, hx, hd⟩ := hu.ofL
    have ex := isDs_ints_eq hd
    subst ex
    refine ⟨a, ns.map V.int, rfl, .inl (.of hx), rfl, ?_, ?_⟩
    · rw [List.all_eq_true]
      intro x hx
      obtain ⟨o, _, rfl⟩ := List.mem_map.mp hx
      rfl
    · have e : inV (V.int k) (ns.map V.int) = decide (k ∈ ns) := by
        unfold inV
        rw [List.any_map, Bool.eq_iff_iff, List.any_eq_true, decide_eq_true_eq]
        constructor
        · rintro ⟨o, m, h⟩
          have : o = k := eq_of_beq h
          exact this ▸ m
        · intro m
          exact ⟨k, m, beq_self_eq_true k⟩
      have e2 : (if ng = true then !inV (V.int k) (ns.map V.int) else inV (V.int k) (ns.map V.int)) = (decide (k ∈ ns) != ng) := by
        rw [e]
        cases ng <;> simp
      rw [e2]
      exact z true _ H2 _ p (s1.trans s2) (.bl _)
end
theorem shaped_net1 (p n : Int) (cs : List Prs) : SeqAt.shaped (netD p n cs) = true := by
  have h1 := shaped_checks cs
  unfold SeqAt.shaped netD
  simp [PyData.canLay0, PyData.canLayAll0, PyData.depth, PyData.depthAll, h1.2]
  have := h1.1
  omega
end L2

set_option maxRecDepth 100000
set_option maxHeartbeats 1000000
namespace PC
def PrimeN (n : Nat) : Prop := 2 ≤ n ∧ ∀ d, d ∣ n → d = 1 ∨ d = n
def tr (q : Nat) : Nat → Nat → Bool
  | 0, _ => false
  | f + 1, d => if q < d * d then true else if q % d = 0 then false else tr q f (d + 1)
theorem prime_of_no {q : Nat} (h2 : 2 ≤ q) (h : ∀ e, 2 ≤ e → e * e ≤ q → q % e ≠ 0) : PrimeN q := by
  refine ⟨h2, fun d hd => ?_⟩
  obtain ⟨e, he⟩ := hd
  by_cases d1 : d = 1
  · exact .inl d1
  by_cases e1 : e = 1
  · right; rw [he, e1, Nat.mul_one]
  exfalso
  have d0 : d ≠ 0 := fun z => by rw [z, Nat.zero_mul] at he; omega
  have e0 : e ≠ 0 := fun z => by rw [z, Nat.mul_zero] at he; omega
  by_cases hle : d ≤ e
  · refine h d (by omega) (by rw [he]; exact Nat.mul_le_mul_left d hle) ?_
    rw [he]; exact Nat.mul_mod_right d e
  · refine h e (by omega) (by rw [he]; exact Nat.mul_le_mul_right e (by omega)) ?_
    rw [he]; exact Nat.mul_mod_left d e
def pw (N : Nat) : Nat → Nat → Nat → Nat → Nat
  | 0, _, _, acc => acc
  | f + 1, e, g, acc => pw N f (e / 2) (g * g % N) (if e % 2 = 1 then acc * g % N else acc)
end PC

set_option maxRecDepth 100000
set_option maxHeartbeats 1000000
namespace PC
end PC
namespace L2
open PC
def PrimeZ (p : Int) : Prop := 2 ≤ p ∧ ∀ d : Int, 0 < d → d ∣ p → d = 1 ∨ d = p
theorem primeZ_of {n : Nat} (h : PrimeN n) : PrimeZ (n : Int) := by
  refine ⟨by have := h.1; omega, fun d d0 hd => ?_⟩
  obtain ⟨k, rfl⟩ := Int.eq_ofNat_of_zero_le (Int.le_of_lt d0)
  rcases h.2 k (Int.natCast_dvd_natCast.mp hd) with e | e
  · left; rw [e]; rfl
  · right; rw [e]
theorem primeZ_no {p : Int} (h2 : 2 ≤ p) (h : NoDiv p) : PrimeZ p := by
  obtain ⟨n, rfl⟩ := Int.eq_ofNat_of_zero_le (show 0 ≤ p by omega)
  refine primeZ_of (prime_of_no (by omega) fun e e1 e2 e3 => ?_)
  refine h (e : Int) (by omega) (by rw [← Int.natCast_mul]; exact Int.ofNat_le.mpr e2) ?_
  have := congrArg (Nat.cast : Nat → Int) e3
  simpa using this
end L2

set_option maxRecDepth 100000
set_option maxHeartbeats 4000000
namespace L2
open PySem PySem.Spec PyProof.Rows
end L2

set_option maxRecDepth 100000
set_option maxHeartbeats 4000000
namespace L2
open PySem PySem.Spec PyProof.Rows
section
variable {X : Cx} {pins : List (Addr × Obj)} {σ : List (Option V)} {H : Hp} {s : Shared} {h' : Heap}
theorem Inv.turnedLaid {t' : Nat} {e it T : Addr} {o : HO} (I : Inv X pins σ H s) (k : ∀ b u, b ≠ e → b ≠ it → s.heap.get? b = some u → h'.get? b = some u) (fe : FpOk X pins H e) (fi : FpOk X pins H it) (hT : s.heap.objs.size ≤ T) (hTe : T ≠ e) (hTi : T ≠ it)
    (le : ∃ u, s.heap.get? e = some u) (li : ∃ u, s.heap.get? it = some u) (new : ObjOk X.prog X.w (upd H T o) h' T o) : Inv X pins σ (upd H T o) { s with heap := h', toks := t' } := by
  have hn := I.hok.fresh hT
  obtain ⟨e0, e1, e2, e3, e4, e5⟩ := fe
  obtain ⟨i0, i1, i2, i3, i4, i5⟩ := fi
  have ne : ∀ b u, H b = some u → b ≠ e := fun b u q z => by rw [z, e0] at q; cases q
  have ni : ∀ b u, H b = some u → b ≠ it := fun b u q z => by rw [z, i0] at q; cases q
  have nT : ∀ b u, H b = some u → b ≠ T := fun b u q z => by rw [z, hn] at q; cases q
  refine I.step (g' := s.gens) (d' := s.drawn) (ch := [e, it]) (fun b hb => ?_) (fun b o _ _ hc q _ => k b o (fun z => hc (by simp [z])) (fun z => hc (by simp [z])) q) (fun b o _ _ hc q _ => ⟨o.slots, k b o (fun z => hc (by simp [z])) (fun z => hc (by simp [z])) q⟩)
    (fun b o hc q n => ?_) (fun b o hc q => ⟨o, k b o (fun z => hc (by simp [z])) (fun z => hc (by simp [z])) q⟩) (fun b xs q => by rw [upd_ne (nT b _ q)]; exact q) (fun b o u q => by rw [upd_ne (nT b _ q)]; exact q) (fun b ps q => ⟨#[], by rw [upd_ne (nT b _ q), q]; simp⟩) (fun m hm => ?_) (fun b u q => ?_) I.bare
  · rcases (show b = e ∨ b = it by simpa using hb) with z | z
    · subst z; exact ⟨e3, e1, e4, e5⟩
    · subst z; exact ⟨i3, i1, i4, i5⟩
  · rw [upd_ne (fun z => absurd (Nat.lt_of_lt_of_le (Heap.lt_size q) (by rw [z]; exact hT)) (Nat.lt_irrefl _))]; exact n
  · obtain ⟨o, es, ep, ho, r⟩ := hm
    exact ⟨o, es, ep, k _ o (Ne.symm e1) (Ne.symm i1) ho, r⟩
  · by_cases hb : b = T
    · subst hb; rw [upd_same] at q; cases q; exact new
    · rw [upd_ne hb] at q
      refine (I.hok b u q).stay (fun c v hc z => ?_) (fun c z => by rw [upd_ne (nT c _ z)]; exact z) fun c xs z => by rw [upd_ne (nT c _ z)]; exact z
      rcases hc with y | y
      · subst y; exact k _ v (ne _ u q) (ni _ u q) z
      · exact k c v (ne c _ y) (ni c _ y) z
theorem Inv.turned2 {t' : Nat} {e it : Addr} (I : Inv X pins σ H s) (k : ∀ b u, b ≠ e → b ≠ it → s.heap.get? b = some u → h'.get? b = some u) (fe : FpOk X pins H e) (fi : FpOk X pins H it) : Inv X pins σ H { s with heap := h', toks := t' } := by
  obtain ⟨e0, e1, e2, e3, e4, e5⟩ := fe
  obtain ⟨i0, i1, i2, i3, i4, i5⟩ := fi
  have ne : ∀ b u, H b = some u → b ≠ e := fun b u q z => by rw [z, e0] at q; cases q
  have ni : ∀ b u, H b = some u → b ≠ it := fun b u q z => by rw [z, i0] at q; cases q
  refine I.step (g' := s.gens) (d' := s.drawn) (ch := [e, it]) (fun b hb => ?_) (fun b o _ _ hc q _ => k b o (fun z => hc (by simp [z])) (fun z => hc (by simp [z])) q) (fun b o _ _ hc q _ => ⟨o.slots, k b o (fun z => hc (by simp [z])) (fun z => hc (by simp [z])) q⟩)
    (fun _ _ _ _ n => n) (fun b o hc q => ⟨o, k b o (fun z => hc (by simp [z])) (fun z => hc (by simp [z])) q⟩) (fun _ _ q => q) (fun _ _ _ q => q) (fun b ps q => ⟨#[], by rw [q]; simp⟩) (fun m hm => ?_) (fun b u q => ?_) I.bare
  · rcases (show b = e ∨ b = it by simpa using hb) with z | z
    · subst z; exact ⟨e3, e1, e4, e5⟩
    · subst z; exact ⟨i3, i1, i4, i5⟩
  · obtain ⟨o, es, ep, ho, r⟩ := hm
    exact ⟨o, es, ep, k _ o (Ne.symm e1) (Ne.symm i1) ho, r⟩
  · refine (I.hok b u q).stay (fun c v hc z => ?_) (fun c z => z) fun c xs z => z
    rcases hc with y | y
    · subst y; exact k _ v (ne _ u q) (ni _ u q) z
    · exact k c v (ne c _ y) (ni c _ y) z
end
def Ite (K : PySem.W.Frag) (a : Addr) : It :=
  ⟨fun i H => ∃ xs x, SqL K H a xs ∧ xs[i]? = some x, fun i H x H' => ∃ p y, x = .ref p ∧ H p = none ∧ (∀ xs, SqL K H a xs → xs[i]? = some y) ∧ H' = upd H p (.tup [.int i, y]), fun i H => ∃ xs, SqL K H a xs ∧ xs.length = i⟩
theorem turn_enum {P : Program} {w : World} {K : PySem.W.Frag} {elts : List Expr} {k : Nat} {pos : Pos} (a e it : Addr) (hei : e ≠ it) :
    Turn P w K (.Tuple elts k pos) (Ite K a) [e, it] e (fun i h => (∃ old, IsEnum h e it i old) ∧ h.IsListIter it a i) where
  mem := by simp
  obj := fun i h st b hb => by
    obtain ⟨⟨old, s1⟩, ⟨o, e1, c, d⟩⟩ := st
    rcases (show b = e ∨ b = it by simpa using hb) with z | z
    · subst z
      exact ⟨_, s1, fun v z => by
        have z' : Data.fields _ = Data.cell v := z
        cases z'⟩
    · subst z
      exact ⟨o, e1, fun v z => by rw [d] at z; cases z⟩
  keep := fun i h h' st k => ⟨let ⟨old, s1⟩ := st.1; ⟨old, k e (by simp) _ s1⟩, st.2.at fun o q => k it (by simp) o q⟩
  item := by
    intro X hP hw hK hc i pins s σ H E I hf st hg
    subst hP hw hK
    obtain ⟨xs, x, hq, hx⟩ := hg
    obtain ⟨its, rv, p, hz⟩ := I.list hq
    obtain ⟨u, hu, ru⟩ := rv.get hx
    have fe := hf e (by simp)
    have fi := hf it (by simp)
    obtain ⟨⟨old, s1⟩, s2⟩ := st
    obtain ⟨ol, l1, l2, l3⟩ := id p.isList
    obtain ⟨oi, i1, i2, i3⟩ := id s2
    have hae : a ≠ e := fun z => by
      subst z
      rw [s1] at l1; cases l1
      exact absurd l2 (by simp)
    have hai : a ≠ it := fun z => by
      subst z
      rw [i1] at l1; cases l1
      rw [i2] at l2
      exact absurd l2 (by simp)
    have W := WalksT.enumerate (prog := X.prog) (w := X.w) (I.ok.hd hc) e it a hei hae hai its.toArray
    have hi : i < its.toArray.size := by
      have := (List.getElem?_eq_some_iff.mp hu).1
      simpa using this
    refine W.item i s _ _ hi ⟨⟨old, s1⟩, s2, p.isList⟩ fun T vals h' tk hv hT hTup hMid kp => ⟨.ref T, rfl, ?_⟩
    refine W.go elts k pos i T _ _ _ hMid fun h'' st' kp2 => ?_
    obtain ⟨t, x', hx', hvv⟩ := hv
    have hxu : x' = u := by
      have : its.toArray[i]? = some u := by simpa using hu
      rw [hx'] at this; exact Option.some.inj this
    subst hxu hvv
    have hTw := W.apart i T h' hMid
    obtain ⟨_, _, _, hTe, hTi⟩ := hMid
    obtain ⟨oT, t1, t2, nT, t3⟩ := hTup
    have t1' := kp2 T oT hTw t1
    refine ⟨.ref T, upd H T (.tup [.int i, x]), I.turnedLaid (fun b v h1 h2 q => kp2 b v (by simp [h1, h2]) (kp b v (by simp [h1, h2]) q)) fe fi hT hTe hTi ⟨_, s1⟩ ⟨_, i1⟩ ?_, rfl, ⟨T, x, rfl, I.hok.fresh hT, fun ys hy => by rw [I.list_inj hy hq]; exact hx, rfl⟩, ⟨st'.1, st'.2.1⟩, fun b hb => ?_⟩
    · exact ⟨by show 2 ≤ sizeLine; decide, [.int i t, x'], .cons ⟨t, rfl⟩ (.cons ru .nil), oT, t1', t2, nT, t3⟩
    · rw [upd_ne, (hf b hb).1]
      rcases (show b = e ∨ b = it by simpa using hb) with z | z
      · rw [z]; exact Ne.symm hTe
      · rw [z]; exact Ne.symm hTi
  done := by
    intro X hP hw hK hc i pins s σ H E I hf st hg
    subst hP hw hK
    obtain ⟨xs, hq, hx⟩ := hg
    obtain ⟨its, rv, p, hz⟩ := I.list hq
    have fe := hf e (by simp)
    have fi := hf it (by simp)
    obtain ⟨⟨old, s1⟩, s2⟩ := st
    obtain ⟨ol, l1, l2, l3⟩ := id p.isList
    obtain ⟨oi, i1, i2, i3⟩ := id s2
    have hl := rv.length
    have hae : a ≠ e := fun z => by
      subst z
      rw [s1] at l1; cases l1
      exact absurd l2 (by simp)
    have hai : a ≠ it := fun z => by
      subst z
      rw [i1] at l1; cases l1
      rw [i2] at l2
      exact absurd l2 (by simp)
    have W := WalksT.enumerate (prog := X.prog) (w := X.w) (I.ok.hd hc) e it a hei hae hai its.toArray
    have hn : its.toArray.size = i := by rw [List.size_toArray]; omega
    refine W.done s _ _ (by rw [hn]; exact ⟨⟨old, s1⟩, s2, p.isList⟩) fun h' tk kp => ⟨rfl, ?_⟩
    exact I.turned2 (fun b v h1 h2 q => kp b v (by simp [h1, h2]) q) fe fi
  self := fun _ _ _ _ _ st h => let ⟨old, s1⟩ := st.1; wpAny_pyIter_enum s1 h
def iEnum (K : PySem.W.Frag) (tl : TE) : TI := fun σ H R => tl σ H fun x H1 => ∃ a, x = .ref a ∧ (∃ xs, SqL K H1 a xs) ∧ R (Ite K a) H1
theorem pi_enum {X : Cx} {K : PySem.W.Frag} {elts : List Expr} {k : Nat} {tpos : Pos} {l : Expr} {tl : TE} {p pos : Pos} (hK : X.K = K) (hg : Gl X "enumerate") (hm : X.mg "enumerate" = none) (hl : PE X l tl) (hs : starEach [l] X.env = [(false, eval l X.env)] := by rfl) :
    PI X (.Tuple elts k tpos) (.Call (.Name "enumerate" p) [l] [] pos) (iEnum K tl) := by
  subst hK
  intro pins s σ H R I h
  have ha : PA X [l] (tCons tl tNil) := pa_cons hl pa_nil (by rw [hs]; rfl)
  refine Call_ (ld_blt I hg hm boot_enumerate (PyProof.Rows.callWith_type1 (thn (ha pos pins s σ H (fun vs H1 => match vs with | [x] => ∃ a, x = .ref a ∧ (∃ xs, SqL X.K H1 a xs) ∧ R (Ite X.K a) H1 | _ => False) I h) fun us s1 ⟨vs, H1, I1, r1, q1⟩ => ?_) hs rfl))
  cases r1 with
  | nil => exact q1.elim
  | cons r rr =>
    cases rr with
    | cons _ _ => exact q1.elim
    | nil =>
    obtain ⟨a, e2, ⟨xs, hq⟩, q⟩ := q1
    subst e2
    cases r
    obtain ⟨its, rv, p, hz⟩ := I1.list hq
    obtain ⟨m, hn, _⟩ := I1.loc
    refine enum_rows (h₀ := { objs := #[] }) (L := X.env.locals) (m := m) ⟨hn, fun b o z => ?_, Nat.zero_le _⟩ p.isList fun h' e1 e2 e3 e4 kp ne n1 n2 _ _ => ?_
    · cases z
    refine wpAny_pyIter_enum e1 ?_
    have I2 : Inv X pins σ H1 { s1 with heap := h' } := I1.kept (t' := s1.toks) kp
    refine ⟨s1.heap.objs.size + 1, [s1.heap.objs.size + 1, s1.heap.objs.size], _, _, H1, rfl, I2, turn_enum a _ _ ne, ⟨⟨_, e1⟩, e2⟩, fun b hb => ?_, q⟩
    rcases (show b = s1.heap.objs.size + 1 ∨ b = s1.heap.objs.size by simpa using hb) with z | z
    · subst z; exact I1.fpOk (Nat.le_succ _) (I1.hok.fresh (Nat.le_succ _))
    · subst z; exact I1.fpOk (Nat.le_refl _) (I1.hok.fresh (Nat.le_refl _))
end L2

set_option maxRecDepth 100000
set_option maxHeartbeats 4000000
namespace L2
open PySem PySem.Spec PyProof.Rows
theorem R.comp_enum {K : PySem.W.Frag} {a : Addr} {xs : List V} {g : TG} {tc : TT} {te : TE} {acc : Addr} {Qe : Hp → Prop} {σ : St} {H : Hp} (Pv : Nat → St → Hp → Prop) (h0 : Pv 0 σ H) (hl : ∀ i σ H, i ≤ xs.length → Pv i σ H → SqL K H a xs)
    (hs : ∀ i x σ H p, xs[i]? = some x → Pv i σ H → H p = none → g (.ref p) σ (upd H p (.tup [.int i, x])) fun σ2 H2 => tc σ2 H2 fun b H3 => if b = true then te σ2 H3 fun v H4 => ∃ ys, H4 acc = some (.lst ys) ∧ ys.length < sizeLine ∧ Pv (i + 1) σ2 (upd H4 acc (.lst (ys ++ [v]))) else Pv (i + 1) σ2 H3)
    (hd : ∀ σ H, Pv xs.length σ H → Qe H) : CompW (Ite K a) g tc te acc Qe σ H := by
  refine ⟨fun i m σ H => m = xs.length - i ∧ i ≤ xs.length ∧ Pv i σ H, ⟨xs.length, by simp, Nat.zero_le _, h0⟩, ?_⟩
  rintro i m σ H ⟨rfl, hi, p⟩
  have q := hl i σ H hi p
  by_cases hlt : i < xs.length
  · refine .inr ⟨⟨xs, xs[i], q, by simp [hlt]⟩, Pv (i + 1), fun σ' H' p' => ⟨xs.length - (i + 1), by omega, rfl, hlt, p'⟩, fun x H' y => ?_⟩
    obtain ⟨pp, y, e, hn, hy, e2⟩ := y
    subst e e2
    exact hs i y σ H pp (hy xs q) p hn
  · have e : i = xs.length := by omega
    subst e
    exact .inl ⟨⟨xs, q, rfl⟩, hd σ H p⟩
section
variable {G : Gx} {ρ ρc : Rh} {te : TE} {s : TS} {gt : TG} {E : DE} {K : PySem.W.Frag} {Θ : Bool → List PyData → Prop} {tc : TT} {mp : List (Option Nat)}
theorem EvN.compE {t0 : TE} (hm : (mp.filterMap id).Nodup) (hρ : startR mp ρ = ρc) (h : Ev G ρ t0 fun fi x => ∃ es, x = .list es ∧ es.length ≤ 10000 ∧ ∀ v, CompD (G.hd fi (.list es) v) ρc es.length (fun i d => ∃ e, es[i]? = some e ∧ d = .tuple [.int i, e]) fi gt tc te Θ) : EvN G ρ (tComp (iEnum K t0) gt tc te mp) Θ := fun nb σ H Q W z =>
  h nb σ H _ W fun fi v H1 x ⟨es, ex, hn, q⟩ s1 hv => by
    subst ex
    obtain ⟨fl, I, h0, ht, he⟩ := q v
    have W0 := (W.step s1).hd hv
    obtain ⟨a, xs, rfl, n, hx, hd⟩ := hv.ofL
    refine ⟨a, rfl, ⟨xs, .of hx⟩, fun acc hacc => ?_⟩
    have W0' : Wd (G.hd fi (.list es) (.ref a)) nb ρc (L2.startC mp σ) H1 := by rw [← hρ]; exact W0.startC hm
    have W1 := W0'.more hacc (o := .lst [])
    have hN := NB.new s1.2 hacc
    have hno := no_own W0' hacc
    have st0 : Step G.B H1 (upd H1 acc (.lst [])) := .same s1.2 (same_new hacc)
    have hNa : NB G.B a := Classical.byContradiction fun z => n (.inr (.inr (.inl z)))
    refine R.comp_enum (xs := xs) (fun i σ H => ∃ ds ys, Wd (G.hd fi (.list es) (.ref a)) (fun x => nb x ∨ x = acc) ρc σ H ∧ Step G.B H1 H ∧ H acc = some (.lst ys) ∧ IsDs (G.S (fun x => nb x ∨ x = acc) fl) H ds ys ∧ ds.length ≤ i ∧ I i ds ∧ H a = some (.lst xs)) ⟨[], [], W1, st0, upd_same, .nil, Nat.le_refl _, h0, st0.1 _ _ hNa hx⟩ ?_ ?_ ?_
    · rintro i σ H hi ⟨ds, ys, W, st, _, _, _, _, ha⟩
      exact .of ha
    · rintro i x σ H p hi ⟨ds, ys, W, st, hy, hd', hl, hI, ha⟩ hp
      obtain ⟨a', xs', e', _, h', d'⟩ := W.unhd.2.ofL
      cases e'
      rw [ha] at h'; cases h'
      have hil : i < es.length := by have := (List.getElem?_eq_some_iff.mp hi).1; have := d'.length; omega
      obtain ⟨x', hx', dx⟩ := d'.get (List.getElem?_eq_getElem hil)
      rw [hi] at hx'; cases hx'
      have st2 : Step (G.hd fi (.list es) (.ref a)).B H (upd H p (.tup [.int i, x])) := .same W.bag (same_new hp)
      have hap : acc ≠ p := fun z => by subst z; rw [hp] at hy; cases hy
      have haa : a ≠ p := fun z => by subst z; rw [hp] at ha; cases ha
      refine comp_turn (G := G.hd fi (.list es) (.ref a)) hn hil (W.step st2) (.inr rfl) hN hno (st.trans st2) hacc (by rw [upd_ne hap]; exact hy) (hd'.keep st2.butS) hl (.tup (W.fresh hp) upd_same (.cons (.int _) (.cons (dx.keep st2.butS) .nil))) (ht i _ ds ⟨_, List.getElem?_eq_getElem hil, rfl⟩ hl hI) fun σ' H' ds' xs' W' st' hx' hd' hl' hI' => ⟨ds', xs', W', st', hx', hd', hl', hI', st'.1 _ _ hNa hx⟩
    · rintro σ H' ⟨ds, ys, W', st, hy, hd', hl, hI, _⟩
      rw [hd.length] at hl hI
      exact comp_end W s1 hacc st hy hd' (he ds hl hI) z
end
end L2

set_option maxRecDepth 100000
set_option maxHeartbeats 4000000
namespace L2
open PySem PySem.Spec PyProof.Rows
def OwnA (ρ : Rh) (a : Addr) : Prop := ∃ (i : Nat) (f : Bool) (ds : List PyData), ρ[i]? = some (.own a f ds)
def AvO (G : Gx) (ρ : Rh) (ta : TA) (Φ : List PyData → Prop) : Prop := ∀ nb σ H (Q : List V → Hp → Prop), Wd G nb ρ σ H → (∀ ds vs H', Φ ds → Step G.B H H' → IsDs (fun c => G.S nb false c ∧ ¬ OwnA ρ c) H' ds vs → Q vs H') → ta σ H Q
section
variable {G : Gx} {ρ : Rh} {Φ : Pd} {te : TE} {t : TA} {i n : Nat} {f : Bool} {ds : List PyData} {Θ : List PyData → Prop}
theorem AvO.nil (h : Θ []) : AvO G ρ tNil Θ := fun nb σ H Q W z => z [] [] H h (.refl W.bag) .nil
theorem AvO.cons (h : Ev G ρ te fun _ d => AvO G ρ t fun ds => Θ (d :: ds)) : AvO G ρ (tCons te t) Θ := fun nb σ H Q W z =>
  h nb σ H _ W fun f v H1 d p1 s1 q1 => p1 nb σ H1 _ (W.step s1) fun ds vs H2 p2 s2 q2 => z _ _ H2 p2 (s1.trans s2) (.cons ((q1.keep s2.butS).av fun c hc => S_mono (fun z => by cases z) (fun _ z => z) c hc.1) q2)
theorem AvO.own {a : Addr} (e : ρ[i]? = some (.own a f ds)) (h : AvO G ρ t fun es => Θ (.list ds :: es)) : AvO G ρ (tCons (tVar i) t) Θ := fun nb σ H Q W z => by
  obtain ⟨x, e1, h1, h2, h3, xs, hx, hd⟩ := W.ok i _ e
  subst h1
  refine ⟨.ref a, e1, h nb σ H _ W fun es vs H1 p s1 q1 => z _ _ H1 p s1 (.cons ?_ q1)⟩
  exact .lst (fun hc => hc.2 ⟨i, f, ds, e⟩) (s1.1 _ _ h3 hx) ((hd.keep s1.butS).av fun c hc => S_mono (fun z => by cases z) (fun _ z => z) c hc.1)
theorem Ev.tupS (h : Av G ρ t fun es => es.length ≤ 10000 ∧ Φ (allF es || scAll (es.map (·.2))) (.tuple (es.map (·.2)))) : Ev G ρ (tTup t) Φ := fun nb σ H Q W z =>
  h nb σ H _ W fun es vs H1 ⟨hl, p⟩ s1 q1 => ⟨Nat.le_trans (by rw [q1.len]; exact hl) (by decide), fun a ha => z _ _ _ _ p (s1.trans (.same (W.step s1).bag (same_new ha))) (by
    cases hs : scAll (es.map (·.2)) with
    | true => rw [Bool.or_true]; exact .tup ((W.step s1).fresh ha) upd_same ((q1.all (f := false) fun z => by cases z).scAny hs)
    | false => rw [Bool.or_false]; exact .tup ((W.step s1).fresh ha) upd_same ((q1.all fun z => z).keep (But.of (same_new ha))))⟩
theorem Ev.primeFrom (h : Ev G ρ te fun _ x => ∃ n : Int, x = .int n ∧ 2 ≤ n ∧ n ≤ 10002 ∧ ∀ r : Int, PrimeZ r → r < 10 ^ 40 → Φ true (.int r)) : Ev G ρ (tCall spPrimeFrom [] E0 (tCons te tNil)) Φ := fun nb σ H Q W z =>
  h nb σ H _ W fun f v H1 d ⟨n, e, h1, h2, p⟩ s1 hv => by
    subst e
    exact ⟨n, by rw [hv.ofI]; rfl, h1, h2, fun r H' sm r1 r2 r3 => z true _ H' _ (p r (primeZ_no r1 r3) (by omega)) (s1.trans (.same (W.step s1).bag sm)) (.int r)⟩
theorem Ev.str {x : Str} (h : Φ true (.str x)) : Ev G ρ (tC (.str x)) Φ := fun nb σ H Q W z => z true _ H _ h (.refl W.bag) (by unfold IsD; rfl)
end
theorem Eu.fin {p b L lt t : Int} (h : Eu p b L lt 0 t) (hp : PrimeZ p) (hb : b % p ≠ 0) : ∃ k, lt % p * b = 1 + p * k := by
  obtain ⟨g1, g2⟩ := h.dv L (Int.dvd_refl L) (Int.dvd_zero L)
  have m1 := Int.emod_nonneg b (show p ≠ 0 by have := hp.1; omega)
  have m2 := Int.emod_lt_of_pos b (show 0 < p by have := hp.1; omega)
  have hL : L = 1 := by
    rcases hp.2 L h.l0 g1 with e | e
    · exact e
    · exfalso
      rw [e] at g2
      have := Int.le_of_dvd (by omega) g2
      omega
  obtain ⟨k, hk⟩ := h.lc
  have e := Int.mul_ediv_add_emod lt p
  refine ⟨-k - lt / p * b, ?_⟩
  have e2 : lt % p = lt - p * (lt / p) := by omega
  rw [e2, Int.sub_mul, Int.mul_sub, Int.mul_neg, Int.mul_assoc]
  omega
noncomputable def sol (p b a : Int) : Int := open Classical in if h : ∃ x, 0 ≤ x ∧ x < p ∧ ∃ k, b * x - a = p * k then Classical.choose h else 0
def lostP (wd : Wo) (prs : Prs) : Prs := prs.filter fun pr => wd[pr.1.toNat]? == some none
noncomputable def toldF (p : Int) (prs : Prs) (rest : Int) (wd : Wo) : Option (Int × Int) := match lostP wd prs with
  | [pr] => some (pr.1, sol p pr.2 (rest - dueSum prs wd % p))
  | _ => none
def lostOf (wd : Wo) : List Int := ((List.range wd.length).filter fun i => wd[i]? == some none).map fun (i : Nat) => (i : Int)
abbrev Mend := Int × Int × Int
noncomputable def mendF (p : Int) (cs : List Prs) (wd : Wo) (m : Mend) : PyData :=
  if m.2.1 < 0 ∨ (cs.length : Int) ≤ m.2.1 then .str "check" else match toldF p (cs.getD m.2.1.toNat []) 0 wd with
  | none => .str "place"
  | some (a, x) => if a ≠ m.1 then .str "place" else if x ≠ m.2.2 then .str "letter" else .none
def putAll (wd : Wo) (ms : List Mend) : Wo := ms.foldl (fun w m => w.set m.1.toNat (some m.2.2)) wd
def okM (p : Int) (cs : List Prs) (wd : Wo) (ms : List Mend) (j : Nat) : Prop := ∃ m, ms[j]? = some m ∧ mendF p cs (putAll wd (ms.take j)) m = .none
noncomputable def outs (p : Int) (cs : List Prs) (w : Wo) : List Nat := (List.range cs.length).filter fun c => (toldF p (cs.getD c []) 0 w).isSome
noncomputable def endF (p : Int) (cs : List Prs) (w : Wo) (left : List Int) : PyData :=
  if left ≠ lostOf w then .tuple [.str "left", .int 0] else match (outs p cs w).head? with
  | none => .none
  | some c => .tuple [.str "out", .int c]
def IsFault (p : Int) (cs : List Prs) (wd : Wo) (ms : List Mend) (left : List Int) (d : PyData) : Prop :=
  (∃ (i : Nat) (m : Mend) (x : Str), (∀ j < i, okM p cs wd ms j) ∧ ms[i]? = some m ∧ mendF p cs (putAll wd (ms.take i)) m = .str x ∧ d = .tuple [.str x, .int i]) ∨ ((∀ j < ms.length, okM p cs wd ms j) ∧ d = endF p cs (putAll wd ms) left)
theorem IsFault.uniq {p : Int} {cs : List Prs} {wd : Wo} {ms : List Mend} {left : List Int} {d e : PyData} (h : IsFault p cs wd ms left d) (q : IsFault p cs wd ms left e) : d = e := by
  have no : ∀ {i : Nat} {m : Mend} {x : Str}, ms[i]? = some m → mendF p cs (putAll wd (ms.take i)) m = .str x → ¬ okM p cs wd ms i := fun e1 e2 ⟨m', e3, e4⟩ => by
    rw [e1] at e3; cases e3
    rw [e2] at e4; cases e4
  have lt : ∀ {i : Nat} {m : Mend}, ms[i]? = some m → i < ms.length := fun e => (List.getElem?_eq_some_iff.mp e).1
  rcases h with ⟨i, m, x, a1, a2, a3, rfl⟩ | ⟨a1, rfl⟩
  · rcases q with ⟨i', m', x', b1, b2, b3, rfl⟩ | ⟨b1, rfl⟩
    · have : i = i' := by
        rcases Nat.lt_trichotomy i i' with z | z | z
        · exact absurd (b1 i z) (no a2 a3)
        · exact z
        · exact absurd (a1 i' z) (no b2 b3)
      subst this
      rw [a2] at b2; cases b2
      rw [a3] at b3; cases b3
      rfl
    · exact absurd (b1 i (lt a2)) (no a2 a3)
  · rcases q with ⟨i', m', x', b1, b2, b3, rfl⟩ | ⟨b1, rfl⟩
    · exact absurd (a1 i' (lt b2)) (no b2 b3)
    · rfl
theorem pi_listK {X : Cx} {K : PySem.W.Frag} {tg l : Expr} {tl : TE} (hK : X.K = K) (hl : PE X l tl) : PI X tg l (iList K tl) := by subst hK; exact pi_list hl
theorem lookup_relabel {env : Env} {n : Str} {l : List (Str × NameKind)} : (List.lookup n l = some .cell ∨ List.lookup n l = some .free) →
    (List.lookup n (l.map fun x => match x with | (n, k) => if (k == NameKind.free && env.scope.kind == ScopeKind.function && env.kindOf n == some NameKind.cell) = true then (n, NameKind.cell) else (n, k)) = some .cell ∨
     List.lookup n (l.map fun x => match x with | (n, k) => if (k == NameKind.free && env.scope.kind == ScopeKind.function && env.kindOf n == some NameKind.cell) = true then (n, NameKind.cell) else (n, k)) = some .free) := by
  induction l with
  | nil => intro h; simpa using h
  | cons a r ih =>
    obtain ⟨m, k⟩ := a
    intro h
    rw [List.map_cons]
    by_cases c : n = m
    · subst c
      rw [List.lookup_cons_self] at h
      dsimp only
      split
      · rw [List.lookup_cons_self]; exact .inl rfl
      · rw [List.lookup_cons_self]; exact h
    · have hb : (n == m) = false := by simpa using c
      have e1 : List.lookup n ((m, k) :: r) = List.lookup n r := by rw [List.lookup_cons, hb]
      rw [e1] at h
      dsimp only
      split
      · rw [List.lookup_cons, hb]; exact ih h
      · rw [List.lookup_cons, hb]; exact ih h
theorem CompOk.rel {sx : Scope} {env : Env} {NX : List Str} {scope : Scope} {N : List Str} {mp : List (Option Nat)} (h : CompOk sx NX scope N mp) : CompOk (relabel sx env) NX scope N mp :=
  ⟨h.kind, h.cell, h.names, fun y hy e => lookup_relabel (h.free y hy e), h.len, h.look⟩
end L2

set_option maxRecDepth 100000
set_option maxHeartbeats 4000000
namespace L2
open PySem PySem.Spec PyProof.Rows
def fAll (es : List Fd) : Bool := es.all fun e => e.1 || scB e.2
section
variable {G : Gx} {ρ : Rh} {Φ : Pd} {t : TA} {te : TE}
theorem IsF.allS {nb : Addr → Prop} {H : Hp} : ∀ {es : List Fd} {vs : List V} {f : Bool}, IsF G nb H es vs → (f = true → fAll es = true) → IsDs (G.S nb f) H (es.map (·.2)) vs
  | [], _, _, h, _ => by unfold IsF at h; subst h; exact .nil
  | e :: es, _, f, h, hf => by
    obtain ⟨v, ws, rfl, h1, h2⟩ := h
    have hh : f = true → (e.1 || scB e.2) = true ∧ fAll es = true := fun z => by
      have := hf z
      unfold fAll at this
      rw [List.all_cons, Bool.and_eq_true] at this
      exact this
    refine .cons ?_ (h2.allS fun z => (hh z).2)
    cases hs : scB e.2 with
    | true => exact h1.scAny hs
    | false => exact h1.av (S_mono (fun z => by have := (hh z).1; rw [hs, Bool.or_false] at this; exact this) fun _ z => z)
theorem Ev.tupF (h : Av G ρ t fun es => es.length ≤ 10000 ∧ Φ (fAll es) (.tuple (es.map (·.2)))) : Ev G ρ (tTup t) Φ := fun nb σ H Q W z =>
  h nb σ H _ W fun es vs H1 ⟨hl, p⟩ s1 q1 => ⟨Nat.le_trans (by rw [q1.len]; exact hl) (by decide), fun a ha => z _ _ _ _ p (s1.trans (.same (W.step s1).bag (same_new ha)))
    (.tup ((W.step s1).fresh ha) upd_same ((q1.allS fun z => z).keep (But.of (same_new ha))))⟩
end
def rIsNotB : R2 := fun x y H Q => ∃ a b : Bool, x = .bl a ∧ y = .bl b ∧ Q (.bl (!(a == b))) H
theorem Ev.isNotB {G : Gx} {ρ : Rh} {ta : TE} {b : Bool} {Φ : Pd} (h : Ev G ρ ta fun _ x => ∃ a, x = .bool a ∧ Φ true (.bool (!(a == b)))) : Ev G ρ (tOp rIsNotB ta (tC (.bl b))) Φ := fun nb σ H Q W z =>
  h nb σ H _ W fun f v H1 d ⟨a, e, q⟩ s1 hv => by
    subst e
    unfold IsD at hv
    subst hv
    exact ⟨a, b, rfl, rfl, z true _ H1 _ q s1 (.bl _)⟩
abbrev rowD (r : List Int) : PyData := .list (r.map .int)
end L2

set_option maxRecDepth 100000
set_option maxHeartbeats 4000000
namespace L2
open PySem PySem.Spec PyProof.Rows
theorem for_enum {K : PySem.W.Frag} {a : Addr} {xs : List V} {g : TG} {tb : TS} {D : Ends} {σ : St} {H : Hp} (Pv : Nat → St → Hp → Prop) (h0 : Pv 0 σ H) (hl : ∀ i σ H, i ≤ xs.length → Pv i σ H → SqL K H a xs)
    (hs : ∀ i x σ H p, xs[i]? = some x → Pv i σ H → H p = none → g (.ref p) σ (upd H p (.tup [.int i, x])) fun σ2 H2 => tb { D with nx := Pv (i + 1), ct := Pv (i + 1), bk := D.nx } σ2 H2) (hd : ∀ σ H, Pv xs.length σ H → D.nx σ H) :
    ∃ W : Nat → Nat → St → Hp → Prop, (∃ m, W 0 m σ H) ∧ ∀ i m σ H, W i m σ H →
      ((Ite K a).stop i H ∧ D.nx σ H) ∨ ((Ite K a).go i H ∧ ∃ N : St → Hp → Prop, (∀ σ' H', N σ' H' → ∃ m', m' < m ∧ W (i + 1) m' σ' H') ∧ ∀ x H', (Ite K a).yld i H x H' → g x σ H' fun σ2 H2 => tb { D with nx := N, ct := N, bk := D.nx } σ2 H2) := by
  refine ⟨fun i m σ H => m = xs.length - i ∧ i ≤ xs.length ∧ Pv i σ H, ⟨xs.length, by simp, Nat.zero_le _, h0⟩, ?_⟩
  rintro i m σ H ⟨rfl, hi, p⟩
  have q := hl i σ H hi p
  by_cases hlt : i < xs.length
  · refine .inr ⟨⟨xs, xs[i], q, by simp [hlt]⟩, Pv (i + 1), fun σ' H' p' => ⟨xs.length - (i + 1), by omega, rfl, hlt, p'⟩, fun x H' y => ?_⟩
    obtain ⟨pp, y, e, hn, hy, e2⟩ := y
    subst e e2
    exact hs i y σ H pp (hy xs q) p hn
  · have e : i = xs.length := by omega
    subst e
    exact .inl ⟨⟨xs, q, rfl⟩, hd σ H p⟩
structure Grid (H0 H : Hp) (L : Addr) (as : List Addr) (rows : List (List Int)) : Prop where
  same : ∀ a o, H0 a = some o → H a = some o
  hL : H L = some (.lst (as.map V.ref))
  fL : H0 L = none
  fa : ∀ c ∈ as, H0 c = none
  nL : L ∉ as
  nd : as.Nodup
  len : as.length = rows.length
  row : ∀ (i : Nat) c r, as[i]? = some c → rows[i]? = some r → H c = some (.lst (r.map V.int))
section
variable {H0 H : Hp} {L c q : Addr} {as : List Addr} {rows : List (List Int)} {k : Nat} {r : List Int} {o : HO} {x : Int}
theorem Grid.new (g : Grid H0 H L as rows) (hq : H q = none) : Grid H0 (upd H q o) L as rows := by
  refine ⟨fun a o e => ?_, ?_, g.fL, g.fa, g.nL, g.nd, g.len, fun i c r e1 e2 => ?_⟩
  · have h := g.same a o e
    rw [upd_ne (fun z => by rw [z, hq] at h; cases h)]; exact h
  · rw [upd_ne (fun z => by have h := g.hL; rw [z, hq] at h; cases h)]; exact g.hL
  · have h := g.row i c r e1 e2
    rw [upd_ne (fun z => by rw [z, hq] at h; cases h)]; exact h
theorem Grid.app (g : Grid H0 H L as rows) (hc : as[k]? = some c) (hr : rows[k]? = some r) : Grid H0 (upd H c (.lst (r.map V.int ++ [.int x]))) L as (rows.set k (r ++ [x])) := by
  have hm : c ∈ as := List.mem_of_getElem? hc
  have hk : k < rows.length := (List.getElem?_eq_some_iff.mp hr).1
  refine ⟨fun a o e => ?_, ?_, g.fL, g.fa, g.nL, g.nd, by rw [List.length_set]; exact g.len, fun i d s e1 e2 => ?_⟩
  · rw [upd_ne (fun z => by have h := g.fa c hm; rw [← z, e] at h; cases h)]; exact g.same a o e
  · rw [upd_ne (fun z => g.nL (by rw [z]; exact hm))]; exact g.hL
  · by_cases hik : k = i
    · subst hik
      rw [hc] at e1; cases e1
      rw [List.getElem?_set_self hk] at e2; cases e2
      rw [upd_same, List.map_append]; rfl
    · rw [List.getElem?_set_ne hik] at e2
      have hdc : d ≠ c := fun z => by
        subst z
        obtain ⟨l1, e3⟩ := List.getElem?_eq_some_iff.mp hc
        obtain ⟨l2, e4⟩ := List.getElem?_eq_some_iff.mp e1
        exact hik ((List.getElem_inj g.nd).mp (e3.trans e4.symm))
      rw [upd_ne hdc]
      exact g.row i d s e1 e2
end
def stepR (rows : List (List Int)) (c : Int) (pr : Int × Int) : List (List Int) := rows.set pr.1.toNat (rows.getD pr.1.toNat [] ++ [c])
def rowsC (rows : List (List Int)) (c : Int) (prs : Prs) : List (List Int) := prs.foldl (fun rs pr => stepR rs c pr) rows
def rowsTo (n : Nat) (cs : List Prs) (i : Nat) : List (List Int) := (List.range i).foldl (fun rs (c : Nat) => rowsC rs c (cs.getD c [])) (List.replicate n [])
theorem rowsC_snoc {rows : List (List Int)} {c : Int} {prs : Prs} {pr : Int × Int} : rowsC rows c (prs ++ [pr]) = stepR (rowsC rows c prs) c pr := by unfold rowsC; rw [List.foldl_append]; rfl
theorem rowsC_len {rows : List (List Int)} {c : Int} {prs : Prs} : (rowsC rows c prs).length = rows.length := by
  unfold rowsC
  induction prs generalizing rows with
  | nil => rfl
  | cons p r ih => rw [List.foldl_cons, ih]; unfold stepR; rw [List.length_set]
theorem rowsTo_succ {n : Nat} {cs : List Prs} {i : Nat} {prs : Prs} (h : cs[i]? = some prs) : rowsTo n cs (i + 1) = rowsC (rowsTo n cs i) i prs := by
  unfold rowsTo
  rw [List.range_succ, List.foldl_append]
  show rowsC _ _ (cs.getD i []) = _
  rw [List.getD_eq_getElem?_getD, h]; rfl
theorem rowsTo_len {n : Nat} {cs : List Prs} {i : Nat} : (rowsTo n cs i).length = n := by
  unfold rowsTo
  induction i with
  | zero => simp
  | succ i ih => rw [List.range_succ, List.foldl_append]; show (rowsC _ _ _).length = n; rw [rowsC_len]; exact ih
def Short (rows : List (List Int)) (m : Nat) : Prop := ∀ r ∈ rows, r.length ≤ m
def spSeats : Sp := fun vs H Q _ => ∃ (nb : Addr → Prop) (p n : Int) (cs : List Prs) (v : V), vs = [v] ∧ Live nb H ∧ IsD nb H (netD p n cs) v ∧ 0 ≤ n ∧ n ≤ 1000 ∧ (∀ prs ∈ cs, ∀ pr ∈ prs, 0 ≤ pr.1 ∧ pr.1 < n) ∧
  (∀ i m : Nat, ∀ prs, cs[i]? = some prs → Short (rowsC (rowsTo n.toNat cs i) i (prs.take m)) 10000) ∧
  ∀ (L : Addr) (as : List Addr) (H' : Hp), Grid H H' L as (rowsTo n.toNat cs cs.length) → Q (.ref L) H'
theorem seats_run {K : PySem.W.Frag} {D : Ends} {H : Hp} {v : V} (h : spSeats [v] H D.rt E0) :
    tSeq (tSetC 1 (tComp (iRng1 (tCons (tOp (rIxT K) (tVar 0) (tC (.int 1))) tNil)) (gName 0) tNoTest (tLst tNil) [none]))
      (tSeq (tFor (iEnum K (tOp (rIxT K) (tVar 0) (tC (.int 2)))) (gTup K 2 (gCons (gName 2) (gCons (gName 3) gNil)))
        (tFor (iList K (tVar 3)) (gTup K 2 (gCons (gName 4) (gCons (gName 5) gNil))) (tDrop (tBM K "list" rAppend (tOp (rIxL K) (tVar 1) (tVar 4)) (tCons (tVar 2) tNil)))))
        (tRet (tVar 1))) D [some v, none, none, none, none, none] H := by
  obtain ⟨nb, p, n, cs, v', e, hlive, hv, n0, n1, hpl, hsh, q⟩ := h
  cases e
  obtain ⟨tp, xs3, rfl, ntp, htp, hds⟩ := hv.ofT
  unfold IsDs at hds
  obtain ⟨vp, r1, rfl, _, hds⟩ := hds
  unfold IsDs at hds
  obtain ⟨vn, r2, rfl, hvn, hds⟩ := hds
  unfold IsDs at hds
  obtain ⟨vL, r3, rfl, hvL, hds⟩ := hds
  unfold IsDs at hds
  subst hds
  have hvn := hvn.ofI
  subst hvn
  obtain ⟨NL, ys, rfl, nNL, hNL, hys⟩ := hvL.ofL
  have hyl := hys.length
  rw [List.length_map] at hyl
  -- told = [[] for place in range(n)]
  refine ⟨.ref tp, rfl, tp, _, 1, .int n, rfl, rfl, .of htp, rfl, n, rfl, by omega, by omega, fun acc hacc => ?_⟩
  refine R.comp_range (fun j σ H1 => ∃ as, as.length = j ∧ Grid H H1 acc as (List.replicate j [])) ?_ ?_ ?_
  · refine ⟨[], rfl, fun a o e => ?_, upd_same, hacc, fun _ z => (by cases z), by simp, List.nodup_nil, rfl, fun i c r e => by simp at e⟩
    rw [upd_ne (fun z => by rw [z, hacc] at e; cases e)]; exact e
  · rintro j σ H1 hj ⟨as, hal, g⟩
    refine ⟨by decide, fun q1 hq1 => ?_⟩
    have hq1a : q1 ≠ acc := fun z => by have h := g.hL; rw [← z, hq1] at h; cases h
    have hq1s : q1 ∉ as := fun z => by
      obtain ⟨i, hi⟩ := List.getElem?_of_mem z
      have h := g.row i q1 [] hi (by rw [List.getElem?_replicate, if_pos (by have := (List.getElem?_eq_some_iff.mp hi).1; omega)])
      rw [hq1] at h; cases h
    have hq10 : H q1 = none := by
      cases e : H q1 with
      | none => rfl
      | some o => have h := g.same q1 o e; rw [hq1] at h; cases h
    refine ⟨as.map V.ref, by rw [upd_ne (Ne.symm hq1a)]; exact g.hL, by rw [List.length_map]; exact Nat.lt_of_lt_of_le (show as.length < 10000 by omega) (by decide), as ++ [q1], by simp [hal], fun a o e => ?_, ?_, g.fL, fun c hc => ?_, ?_, ?_, by simp [hal], fun i c r e1 e2 => ?_⟩
    · have h := g.same a o e
      rw [upd_ne (fun z => by rw [z, hacc] at e; cases e), upd_ne (fun z => by rw [z, hq1] at h; cases h)]; exact h
    · rw [upd_same, List.map_append]; rfl
    · rcases List.mem_append.mp hc with z | z
      · exact g.fa c z
      · rw [List.mem_singleton.mp z]; exact hq10
    · intro z
      rcases List.mem_append.mp z with z | z
      · exact g.nL z
      · exact hq1a (List.mem_singleton.mp z).symm
    · rw [List.nodup_append]
      exact ⟨g.nd, by simp, fun a ha b hb z => by rw [List.mem_singleton.mp hb] at z; exact hq1s (z ▸ ha)⟩
    · rw [List.getElem?_replicate] at e2
      split at e2
      · cases e2
        by_cases hi : i < as.length
        · rw [List.getElem?_append_left hi] at e1
          have hm := List.mem_of_getElem? e1
          have h := g.row i c [] e1 (by rw [List.getElem?_replicate, if_pos (by omega)])
          rw [upd_ne (fun z => g.nL (by rw [← z]; exact hm)), upd_ne (fun z => hq1s (by rw [← z]; exact hm))]; exact h
        · have : i = as.length := by omega
          subst this
          rw [List.getElem?_append_right (Nat.le_refl _), Nat.sub_self] at e1
          cases e1
          rw [upd_ne hq1a, upd_same]; rfl
      · cases e2
  rintro σ1 H1 ⟨as, hal, g⟩
  refine ⟨.ref tp, rfl, tp, _, 2, .ref NL, rfl, rfl, .of (g.same _ _ htp), rfl, NL, rfl, ⟨ys, .of (g.same _ _ hNL)⟩, ?_⟩
  refine for_enum (xs := ys) (fun i σ H2 => ∃ x2 x3 x4 x5 : Option V, σ = [some (.ref tp), some (.ref acc), x2, x3, x4, x5] ∧ Grid H H2 acc as (rowsTo n.toNat cs i)) ⟨_, _, _, _, rfl, g⟩ ?_ ?_ ?_
  · rintro i σ H2 hi ⟨_, _, _, _, _, g2⟩
    exact .of (g2.same _ _ hNL)
  · rintro i x σ H2 pp hx ⟨x2, x3, x4, x5, rfl, g2⟩ hpp
    have hil : i < cs.length := by have := (List.getElem?_eq_some_iff.mp hx).1; omega
    obtain ⟨prs, eprs⟩ : ∃ prs, cs[i]? = some prs := ⟨_, List.getElem?_eq_getElem hil⟩
    obtain ⟨x', e1, e2⟩ := hys.get (i := i) (d := prsD prs) (by rw [List.getElem?_map, eprs]; rfl)
    rw [hx] at e1; cases e1
    obtain ⟨PL, zs, rfl, nPL, hPL, hzs⟩ := e2.ofL
    have hzl := hzs.length
    rw [List.length_map] at hzl
    have g3 := g2.new (o := .tup [.int i, .ref PL]) hpp
    refine ⟨pp, [.int i, .ref PL], rfl, .of upd_same, rfl, .int i, [.ref PL], rfl, .ref PL, [], rfl, rfl, ?_⟩
    refine ⟨.ref PL, rfl, PL, rfl, ⟨zs, .of (g3.same _ _ hPL)⟩, ?_⟩
    refine for_list (xs := zs) (fun m σ H4 => ∃ x4 x5 : Option V, σ = [some (.ref tp), some (.ref acc), some (.int i), some (.ref PL), x4, x5] ∧ Grid H H4 acc as (rowsC (rowsTo n.toNat cs i) i (prs.take m))) ⟨_, _, rfl, by simpa [rowsC] using g3⟩ ?_ ?_ ?_
    · rintro m σ H4 hm ⟨_, _, _, g4⟩
      exact .of (g4.same _ _ hPL)
    · rintro m z σ H4 hz ⟨x4, x5, rfl, g4⟩
      have hml : m < prs.length := by have := (List.getElem?_eq_some_iff.mp hz).1; omega
      obtain ⟨pr, epr⟩ : ∃ pr, prs[m]? = some pr := ⟨_, List.getElem?_eq_getElem hml⟩
      obtain ⟨z', e3, e4⟩ := hzs.get (i := m) (d := pairD pr) (by rw [List.getElem?_map, epr]; rfl)
      rw [hz] at e3; cases e3
      obtain ⟨t, rfl, nt, ht⟩ := isD_pair e4
      obtain ⟨k0, k1⟩ := hpl prs (List.mem_of_getElem? eprs) pr (List.mem_of_getElem? epr)
      have hrl : (rowsC (rowsTo n.toNat cs i) (i : Int) (prs.take m)).length = n.toNat := by rw [rowsC_len, rowsTo_len]
      have hal2 := g4.len
      have hk : pr.1.toNat < as.length := by omega
      have hk2 : pr.1.toNat < (rowsC (rowsTo n.toNat cs i) (i : Int) (prs.take m)).length := by omega
      obtain ⟨c, hc⟩ : ∃ c, as[pr.1.toNat]? = some c := ⟨_, List.getElem?_eq_getElem hk⟩
      obtain ⟨r, hr⟩ : ∃ r, (rowsC (rowsTo n.toNat cs i) (i : Int) (prs.take m))[pr.1.toNat]? = some r := ⟨_, List.getElem?_eq_getElem hk2⟩
      have hcl := g4.row _ _ _ hc hr
      have hrs := hsh i m prs eprs r (List.mem_of_getElem? hr)
      refine ⟨t, _, rfl, .of (g4.same _ _ ht), rfl, _, _, rfl, _, _, rfl, rfl, ?_⟩
      refine ⟨.ref acc, rfl, .int pr.1, rfl, acc, as.map V.ref, pr.1, .ref c, rfl, rfl, .of g4.hL, atI_some k0 (by rw [List.getElem?_map, hc]; rfl), .inl ⟨rfl, _, SqL.of hcl⟩, .int i, rfl, c, r.map V.int, .int i, rfl, rfl, hcl, by rw [List.length_map]; exact Nat.lt_of_le_of_lt hrs (by decide), _, _, rfl, ?_⟩
      rw [take_snoc epr, rowsC_snoc]
      unfold stepR
      rw [List.getD_eq_getElem?_getD, hr]
      exact g4.app hc hr
    · rintro σ H4 ⟨x4, x5, rfl, g4⟩
      rw [hzl, List.take_length] at g4
      refine ⟨_, _, _, _, rfl, ?_⟩
      rw [rowsTo_succ eprs]
      exact g4
  · rintro σ H2 ⟨x2, x3, x4, x5, rfl, g2⟩
    rw [hyl] at g2
    exact ⟨.ref acc, rfl, q acc as H2 g2⟩
theorem IsDs.ofGet {S : Addr → Prop} {H : Hp} : ∀ {ds : List PyData} {xs : List V}, ds.length = xs.length → (∀ (i : Nat) d x, ds[i]? = some d → xs[i]? = some x → IsD S H d x) → IsDs S H ds xs
  | [], [], _, _ => .nil
  | [], _ :: _, h, _ => by simp at h
  | _ :: _, [], h, _ => by simp at h
  | d :: ds, x :: xs, h, q => .cons (q 0 d x rfl rfl) (IsDs.ofGet (by simpa using h) fun i d' x' e1 e2 => q (i + 1) d' x' (by simpa using e1) (by simpa using e2))
section
variable {H0 H H' : Hp} {L : Addr} {as : List Addr} {rows : List (List Int)}
theorem Grid.isD (g : Grid H0 H L as rows) {S : Addr → Prop} (hS : ∀ a, S a → H0 a ≠ none) : IsD S H (.list (rows.map rowD)) (.ref L) := by
  refine .lst (fun z => hS L z g.fL) g.hL (IsDs.ofGet (by rw [List.length_map, List.length_map, g.len]) fun i d x e1 e2 => ?_)
  obtain ⟨r, hr, rfl⟩ := map_at e1
  rw [List.getElem?_map] at e2
  obtain ⟨c, hc, rfl⟩ := Option.map_eq_some_iff.mp e2
  exact .lst (fun z => hS c z (g.fa c (List.mem_of_getElem? hc))) (g.row i c r hc hr) (isDs_intsL r)
theorem Grid.step (g : Grid H0 H L as rows) (s : ∀ a o, H a = some o → H' a = some o) : Grid H0 H' L as rows :=
  ⟨fun a o e => s _ _ (g.same a o e), s _ _ g.hL, g.fL, g.fa, g.nL, g.nd, g.len, fun i c r e1 e2 => s _ _ (g.row i c r e1 e2)⟩
end
def SeatOk (n : Int) (cs : List Prs) : Prop := 0 ≤ n ∧ n ≤ 1000 ∧ (∀ prs ∈ cs, ∀ pr ∈ prs, 0 ≤ pr.1 ∧ pr.1 < n) ∧ ∀ i m : Nat, ∀ prs, cs[i]? = some prs → Short (rowsC (rowsTo n.toNat cs i) i (prs.take m)) 10000
section
variable {G : Gx} {ρ : Rh} {Φ : Pd} {te : TE} {E : DE} {K : PySem.W.Frag}
theorem Ev.seats (h : Ev G ρ te fun _ x => ∃ (p n : Int) (cs : List Prs), x = netD p n cs ∧ SeatOk n cs ∧ Φ true (.list ((rowsTo n.toNat cs cs.length).map rowD))) : Ev G ρ (tCall spSeats [] E0 (tCons te tNil)) Φ := fun nb σ H Q W z =>
  h nb σ H _ W fun f v H1 d ⟨p, n, cs, e, ⟨h1, h2, h3, h4⟩, q⟩ s1 hv => by
    subst e
    have W1 := W.step s1
    refine ⟨G.S nb f, p, n, cs, v, rfl, W1.liveS, hv, h1, h2, h3, h4, fun L as H' g => ?_⟩
    exact z true _ H' _ q (s1.trans (.same W1.bag fun a o e => g.same a o e)) (g.isD fun a q => W1.liveS a q)
end
theorem short_step {rows : List (List Int)} {b : Nat} {c : Int} {pr : Int × Int} (h : Short rows b) : Short (stepR rows c pr) (b + 1) := fun r hr => by
  unfold stepR at hr
  rcases List.mem_or_eq_of_mem_set hr with z | z
  · have := h r z; omega
  · subst z
    rw [List.length_append, List.length_singleton]
    by_cases hk : pr.1.toNat < rows.length
    · have : (rows.getD pr.1.toNat []).length ≤ b := by
        rw [List.getD_eq_getElem?_getD, List.getElem?_eq_getElem hk]; exact h _ (List.getElem_mem hk)
      omega
    · rw [List.getD_eq_getElem?_getD, List.getElem?_eq_none (by omega)]
      simp
theorem short_C {c : Int} : ∀ {prs : Prs} {rows : List (List Int)} {b : Nat}, Short rows b → Short (rowsC rows c prs) (b + prs.length)
  | [], rows, b, h => h
  | pr :: prs, rows, b, h => by
    have := short_C (c := c) (prs := prs) (short_step (c := c) (pr := pr) h)
    show Short (rowsC (stepR rows c pr) c prs) _
    rw [List.length_cons, show b + (prs.length + 1) = b + 1 + prs.length by omega]
    exact this
theorem shaped_rows (rows : List (List Int)) : SeqAt.shaped (.list (rows.map rowD)) = true := by
  have h : PyData.depthAll (rows.map rowD) ≤ 1 ∧ PyData.canLayAll0 (rows.map rowD) = true := by
    induction rows with
    | nil => simp [PyData.depthAll, PyData.canLayAll0]
    | cons r rs ih =>
      have h2 := shaped_word (r.map some)
      have e : (r.map some).map optD = r.map PyData.int := by rw [List.map_map]; rfl
      rw [e] at h2
      simp [PyData.depthAll, PyData.depth, PyData.canLayAll0, PyData.canLay0, h2.1, h2.2, ih.2]
      have := ih.1
      omega
  unfold SeqAt.shaped
  simp [PyData.canLay0, PyData.depth, h.2]
  have := h.1
  omega
end L2

-- CHANGE: your row's module here, as the last of these rows
set_option maxRecDepth 100000
namespace L2
open PySem PySem.Spec PyProof.Rows

end L2

namespace L2
open PySem PySem.Spec PyProof.Rows

section
variable (P : Program) (w : World)
end

section
variable {P : Program} {w : World} {H H' : Hp} {h h' : Heap} {a : Addr} {o : HO}
end

section
variable {P : Program} {w : World} {H : Hp} {h h' : Heap} {x e : Addr} {o' : HO}
end

section
variable {fs fs' ex ex' : List Addr} {H H1 H2 : Hp} {h h1 h2 h' : Heap} {a x e : Addr} {o : HO}
end

end L2

namespace L2
open PySem PySem.Spec PyProof.Rows

section
variable {X : Cx} {pins : List (Addr × Obj)} {σ : List (Option V)} {H H' : Hp} {s : Shared} {h' : Heap}

end

end L2

namespace L2
open PySem PySem.Spec PyProof.Rows
section
variable {X : Cx}

variable {a b : Expr} {ta tb : TE} {pos : Pos}
variable {tA tB' : TT} {rest : List Expr}
end
end L2

namespace L2
open PySem PySem.Spec PyProof.Rows

section
variable {X : Cx} {pins : List (Addr × Obj)} {σ : St} {H : Hp} {s : Shared} {a : Addr} {xs ys : List V}
end

section
variable {X : Cx} {pins : List (Addr × Obj)} {σ : St} {H : Hp} {s : Shared} {E : Value → Shared → Prop}
end

section
variable {X : Cx} {st : Stmt} {rest : List Stmt} {t u : TS} {e : Expr} {te : TE} {pos : Pos}
end

section
variable {X : Cx} {pos : Pos}
end

section
variable {X : Cx} {pos : Pos}
end

end L2

namespace L2
open PySem PySem.Spec PyProof.Rows
section
variable {X : Cx} {tg : Expr}
end

end L2

namespace L2
open PySem PySem.Spec PyProof.Rows

section
variable {X : Cx} {a b c : Expr} {ta tb tc : TE} {pos : Pos}

end

section
variable {X : Cx} {a b c : Expr} {ta tb tc : TE} {pos : Pos}
end
end L2

namespace L2
open PySem PySem.Spec PyProof.Rows

section
variable {prog : Program} {w : World} {A : Around} {E : Value → Shared → Prop} {s : Shared} {K : PySem.W.Frag} {x dx C f : Addr} {mA : Str → Option Value} {name : Str} {v : Value}

end

section
variable {P : Program} {w : World} {H H' : Hp} {h h' : Heap} {a C dx : Addr} {fs fs' : List (Str × V)}
end

section
variable {X : Cx} {pins : List (Addr × Obj)} {σ : St} {H : Hp} {s : Shared} {a C dx : Addr} {fs : List (Str × V)} {f : Str} {v : V} {A : Around} {E : Value → Shared → Prop}

end

section
variable {X : Cx} {o e value : Expr} {f : Str} {pos pos' tpos : Pos} {ta tv : TE}
end

section
variable {X : Cx} {pins : List (Addr × Obj)} {σ : St} {H : Hp} {s : Shared} {A : Around} {E : Value → Shared → Prop} {Q : Value → Shared → Prop} {c : Value} {b : Bool}
end
end L2

namespace L2
open PySem PySem.Spec PyProof.Rows

section
variable {X : Cx} {e : Expr} {es : List Expr} {te : TE} {t : TA} {pos : Pos}
end

section
variable {X : Cx} {pins : List (Addr × Obj)} {σ : St} {H : Hp} {s s' : Shared}
end

section
variable {X : Cx} {CX : CXT} {k : Nat} {f C : Addr} {fd : FuncData} {ps : List Str} {sp : Sp} {dvs : List V} {ds : List Value} {E : XK} {x m : Str} {p pos apos : Pos} {e o : Expr} {es : List Expr} {ta : TE} {t : TA}

end

section
variable {X : Cx} {CX : CXT} {k : Nat} {f C : Addr} {fd : FuncData} {ps ks : List Str} {sp : Sp} {E : XK} {x m : Str} {p pos apos kpos : Pos} {e o : Expr} {es : List Expr} {kws : List Keyword} {te ta : TE} {t tk : TA} {nm : Option Str}
variable {g : List Value → List Value → List Value} {gV : List V → List V → List V}
end

end L2

namespace L2
open PySem PySem.Spec PyProof.Rows
section
variable {X : Cx} {x : Str} {p pos : Pos} {e : Expr} {es : List Expr} {t : TA} {id T : String} {r : List V → Hp → VK → Prop}

end
end L2

namespace L2
open PySem PySem.Spec PyProof.Rows

section
variable {κ : Type} [DecidableEq κ]
def valV (kvs : List (κ × V)) (k : κ) : Option V := (kvs.find? fun kv => decide (kv.1 = k)).map (·.2)
def putK (kvs : List (κ × V)) (k : κ) (v : V) : List (κ × V) :=
  if (kvs.any fun kv => decide (kv.1 = k)) = true then kvs.map (fun kv => if kv.1 = k then (kv.1, v) else kv) else kvs ++ [(k, v)]
def dropK (kvs : List (κ × V)) (k : κ) : List (κ × V) := kvs.filter fun kv => decide (kv.1 ≠ k)

theorem valV_nil {k : κ} : valV ([] : List (κ × V)) k = none := rfl
theorem valV_pos {p : κ × V} {r : List (κ × V)} {k : κ} (e : p.1 = k) : valV (p :: r) k = some p.2 := by simp [valV, List.find?_cons, e]
theorem valV_neg {p : κ × V} {r : List (κ × V)} {k : κ} (e : ¬ p.1 = k) : valV (p :: r) k = valV r k := by simp [valV, List.find?_cons, e]
theorem valV_any (k : κ) : ∀ kvs : List (κ × V), (kvs.any fun kv => decide (kv.1 = k)) = (valV kvs k).isSome
  | [] => rfl
  | p :: r => by
    rw [List.any_cons]
    by_cases e : p.1 = k
    · simp only [valV_pos e, decide_eq_true e, Bool.true_or, Option.isSome_some]
    · rw [valV_neg e, decide_eq_false e, Bool.false_or]; exact valV_any k r
theorem length_putK (kvs : List (κ × V)) (k : κ) (v : V) : (putK kvs k v).length ≤ kvs.length + 1 := by
  unfold putK
  split
  · rw [List.length_map]; omega
  · rw [List.length_append, List.length_cons, List.length_nil]; omega
theorem RelO.isSome_eq {o : Option V} {u : Option Value} (r : RelO o u) : o.isSome = u.isSome := by
  cases o with
  | none => cases u with
    | none => rfl
    | some _ => exact (show False from r).elim
  | some _ => cases u with
    | none => exact (show False from r).elim
    | some _ => rfl
theorem RelO.getD {o : Option V} {u : Option Value} {d : V} {d' : Value} (r : RelO o u) (rd : RelV d d') : RelV (o.getD d) (u.getD d') := by
  cases o with
  | none => cases u with
    | none => exact rd
    | some _ => exact (show False from r).elim
  | some _ => cases u with
    | none => exact (show False from r).elim
    | some _ => exact r

theorem KV.val {kvs : List (κ × V)} {vs : List (κ × Value)} (r : KV kvs vs) (k : κ) : RelO (valV kvs k) (valueAt vs k) := by
  unfold KV at r
  induction r with
  | nil => exact True.intro
  | @cons p q ps qs h t ih =>
    obtain ⟨h1, h2⟩ := h
    by_cases e : p.1 = k
    · have e' : q.1 = k := h1.symm.trans e
      have b : valueAt (q :: qs) k = some q.2 := by simp [valueAt, List.find?_cons, e']
      rw [valV_pos e, b]; exact h2
    · have e' : ¬ q.1 = k := fun z => e (h1.trans z)
      have b : valueAt (q :: qs) k = valueAt qs k := by simp [valueAt, List.find?_cons, e']
      rw [valV_neg e, b]; exact ih
theorem KV.any {kvs : List (κ × V)} {vs : List (κ × Value)} (r : KV kvs vs) (k : κ) : (kvs.any fun kv => decide (kv.1 = k)) = vs.any fun kv => decide (kv.1 = k) := by
  unfold KV at r
  induction r with
  | nil => rfl
  | cons h t ih => rw [List.any_cons, List.any_cons, ih, h.1]
theorem KV.repl {kvs : List (κ × V)} {vs : List (κ × Value)} (r : KV kvs vs) (k : κ) {y : V} {u : Value} (ry : RelV y u) :
    KV (kvs.map fun kv => if kv.1 = k then (kv.1, y) else kv) (vs.map fun kv => if kv.1 = k then (kv.1, u) else kv) := by
  unfold KV at r ⊢
  induction r with
  | nil => exact .nil
  | @cons p q ps qs h t ih =>
    rw [List.map_cons, List.map_cons]
    refine .cons ?_ ih
    obtain ⟨h1, h2⟩ := h
    by_cases e : p.1 = k
    · rw [if_pos e, if_pos (h1.symm.trans e)]; exact ⟨h1, ry⟩
    · rw [if_neg e, if_neg (fun z => e (h1.trans z))]; exact ⟨h1, h2⟩
theorem KV.put {kvs : List (κ × V)} {vs : List (κ × Value)} (r : KV kvs vs) (k : κ) {y : V} {u : Value} (ry : RelV y u) : KV (putK kvs k y) (stored vs k u) := by
  unfold putK stored
  rw [r.any k]
  by_cases e : (vs.any fun kv => decide (kv.1 = k)) = true
  · rw [if_pos e, if_pos e]; exact r.repl k ry
  · rw [if_neg e, if_neg e]; exact Paired.snoc r ⟨rfl, ry⟩
theorem KV.drop {kvs : List (κ × V)} {vs : List (κ × Value)} (r : KV kvs vs) (k : κ) : KV (dropK kvs k) (without vs k) := by
  unfold KV at r ⊢
  unfold dropK without
  induction r with
  | nil => exact .nil
  | @cons p q ps qs h t ih =>
    obtain ⟨h1, h2⟩ := h
    rw [List.filter_cons, List.filter_cons]
    by_cases e : p.1 = k
    · have a : ¬ decide (p.1 ≠ k) = true := by simp [e]
      have b : ¬ decide (q.1 ≠ k) = true := by simp [h1.symm.trans e]
      rw [if_neg a, if_neg b]; exact ih
    · have e' : ¬ q.1 = k := fun z => e (h1.trans z)
      have a : decide (p.1 ≠ k) = true := by simp [e]
      have b : decide (q.1 ≠ k) = true := by simp [e']
      rw [if_pos a, if_pos b]; exact .cons ⟨h1, h2⟩ ih
theorem KV.keys {kvs : List (κ × V)} {vs : List (κ × Value)} (r : KV kvs vs) : kvs.map (·.1) = vs.map (·.1) := by
  unfold KV at r
  induction r with
  | nil => rfl
  | cons h t ih => rw [List.map_cons, List.map_cons, ih, h.1]
theorem KV.length {kvs : List (κ × V)} {vs : List (κ × Value)} (r : KV kvs vs) : kvs.length = vs.length := Paired.length r
theorem dropK_le (kvs : List (κ × V)) (k : κ) : (dropK kvs k).length ≤ kvs.length := List.length_filter_le _ _
end


theorem kV_is {P : Program} {w : World} {k : Key} {u : Value} (r : RelV (kV k) u) : (mixKind P w).is k u = true := by
  cases k with
  | inl i => obtain ⟨t, e⟩ := (show ∃ t, u = Value.int i t from r); subst e; exact mixKind_int P w i t
  | inr x => obtain ⟨t, e⟩ := (show ∃ t, u = Value.str x t from r); subst e; exact mixKind_str P w x t
theorem items_are {P : Program} {w : World} : ∀ {ks : List Key} {us : List Value}, Vals (ks.map kV) us → ItemsAre (mixKind P w) ks us
  | [], _, r => by rw [List.map_nil] at r; cases r; exact .nil
  | k :: ks, _, r => by
    rw [List.map_cons] at r
    cases r with
    | cons h t => exact .cons (kV_is h) (items_are t)

abbrev KT (H : Hp) : List (List Key × V) → List (List Key × Addr × Value) → Prop := Paired fun p q => p.1 = q.1 ∧ H q.2.1 = some (.tup (p.1.map kV)) ∧ RelV p.2 q.2.2
theorem KT.val {H : Hp} {kvs : List (List Key × V)} {xs : List (List Key × Addr × Value)} (r : KT H kvs xs) (k : List Key) : RelO (valV kvs k) ((atKey xs k).map (·.2)) := by
  induction r with
  | nil => exact True.intro
  | @cons p q ps qs h t ih =>
    obtain ⟨h1, _, h2⟩ := h
    by_cases e : p.1 = k
    · have e' : q.1 = k := h1.symm.trans e
      have b : atKey (q :: qs) k = some q.2 := by simp [atKey, List.find?_cons, e']
      rw [valV_pos e, b]; exact h2
    · have e' : ¬ q.1 = k := fun z => e (h1.trans z)
      have b : atKey (q :: qs) k = atKey qs k := by simp [atKey, List.find?_cons, e']
      rw [valV_neg e, b]; exact ih
section
variable {P : Program} {w : World} {H : Hp} {h : Heap} {a : Addr}
theorem rd_of {u : HO} (ok : HOk P w H h) (e : Rd H a u) : ObjOk P w H h a u := e.ok ok
theorem dk_rd {kvs : List (Key × V)} (ok : HOk P w H h) (e : Rd H a (.dK kvs)) : kvs.length ≤ sizeLine ∧ (a == sysModules) = false ∧ ∃ vs, KV kvs vs ∧ h.DictOf (mixKind P w) a vs :=
  show ObjOk P w H h a (.dK kvs) from rd_of ok e
theorem dk_of {kvs : List (Key × V)} (ok : HOk P w H h) (e : H a = some (.dK kvs)) : kvs.length ≤ sizeLine ∧ (a == sysModules) = false ∧ ∃ vs, KV kvs vs ∧ h.DictOf (mixKind P w) a vs := dk_rd ok (.inl e)
theorem key_of {ks : List Key} (ok : HOk P w H h) (e : H a = some (.tup (ks.map kV))) : (tupleKind (mixKind P w)).is h ks a := by
  obtain ⟨_, its, r, o, h1, h2, n, h3⟩ := (show ObjOk P w H h a (.tup (ks.map kV)) from ok a _ e)
  exact ⟨o, its.toArray, n, h1, h2, h3, by simpa using items_are r⟩
theorem dt_rd {kvs : List (List Key × V)} (ok : HOk P w H h) (e : Rd H a (.dT kvs)) : kvs.length ≤ sizeLine ∧ (a == sysModules) = false ∧
    ∃ xs, KT H kvs xs ∧ h.DictOfH (tupleKind (mixKind P w)) a xs := by
  obtain ⟨z, y, xs, r, o, es, ep, h1, h2, h3, h4, h5⟩ := (show ObjOk P w H h a (.dT kvs) from rd_of ok e)
  refine ⟨z, y, xs, r, o, es, ep, h1, h2, h3, h4, fun x hx => ?_, h5⟩
  have all : ∀ {l : List (List Key × V)} {m : List (List Key × Addr × Value)}, KT H l m → ∀ x ∈ m, (tupleKind (mixKind P w)).is h x.1 x.2.1 := by
    intro l m q
    induction q with
    | nil => intro x hx; exact nomatch hx
    | @cons p q ps qs hq t ih =>
      intro x hx
      rcases List.mem_cons.mp hx with e | hx
      · subst e
        exact key_of ok (by rw [← hq.1]; exact hq.2.1)
      · exact ih x hx
  exact all r x hx
end

def DGet (H : Hp) (a : Addr) (y : V) (r : Option V) : Prop :=
  (∃ kvs k, Rd H a (.dK kvs) ∧ y = kV k ∧ r = valV kvs k) ∨ ∃ kvs k b, Rd H a (.dT kvs) ∧ y = .ref b ∧ H b = some (.tup (k.map kV)) ∧ r = valV kvs k
theorem DGet.k {H : Hp} {a : Addr} {kvs : List (Key × V)} {k : Key} (e : H a = some (.dK kvs)) : DGet H a (kV k) (valV kvs k) := .inl ⟨kvs, k, .inl e, rfl, rfl⟩
section
variable {X : Cx} {pins : List (Addr × Obj)} {σ : St} {H : Hp} {s : Shared} {a : Addr} {y v : V} {u r : Value} {o : Option V} {A : Around} {E : Value → Shared → Prop}

theorem Inv.big (I : Inv X pins σ H s) : sysModules < s.heap.objs.size := by
  have h : mainGlobals < s.heap.objs.size := (I.mod.glob.keeps I.bk).lt
  exact Nat.lt_trans (by decide) h

theorem d_in {Q : Value → Shared → Prop} (hu : A.units + 1 < cLine) (I : Inv X pins σ H s) (g : DGet H a y o) (ry : RelV y u) (h : ∀ s', Inv X pins σ H s' → Q (.bool o.isSome) s') :
    wpAny (model X.prog X.w) A (compareOp .In u (.ref a)) Q E s := by
  rcases g with ⟨kvs, k, e, ey, l⟩ | ⟨kvs, k, b, e, ey, eb, l⟩
  · subst ey
    obtain ⟨z, hd, vs, rel, dd⟩ := dk_rd I.hok e
    refine wpAny_in_of (kV_is ry) hd dd.mapOf ?_
    rw [← (rel.val k).isSome_eq, ← l]
    exact h _ (I.tok _)
  · subst ey
    cases (show u = Value.ref b from ry)
    obtain ⟨z, hd, xs, rel, dd⟩ := dt_rd I.hok e
    refine wpAny_in_heap (tupleKind_room_in1 hu) (key_of I.hok eb) hd dd ?_
    have q := (rel.val k).isSome_eq
    rw [Option.isSome_map] at q
    rw [← q, ← l]
    exact h _ (I.tok _)
theorem d_write {h' : Heap} {t' : Nat} {ob : HO} (I : Inv X pins σ H s) (mu : Mut (H a)) (hs : Heap.SameBut a s.heap h') (he : ∃ q, h'.get? a = some q) (new : ObjOk X.prog X.w (upd H a ob) h' a ob) :
    Inv X pins σ (upd H a ob) { s with heap := h', toks := t' } :=
  I.write (x := a) (e := a) mu (.inl rfl) (fun b q hb z => (hs.2 b hb).trans z) he new
theorem dk_new {P : Program} {w : World} {H' : Hp} {h' : Heap} {kvs : List (Key × V)} {vs : List (Key × Value)} (z : kvs.length ≤ sizeLine) (hd : (a == sysModules) = false) (rel : KV kvs vs) (dd : h'.DictOf (mixKind P w) a vs) :
    ObjOk P w H' h' a (.dK kvs) := ⟨z, hd, vs, rel, dd⟩
end

section
variable {X : Cx} {pins : List (Addr × Obj)} {σ : St} {H : Hp} {s : Shared} {a : Addr} {kvs : List (Key × V)} {k : Key} {u : Value} {A : Around} {E : Value → Shared → Prop}
theorem d_delItem {Q : Unit → Shared → Prop} (I : Inv X pins σ H s) (e : H a = some (.dK kvs)) (ry : RelV (kV k) u) (l : (valV kvs k).isSome = true) (h : ∀ s', Inv X pins σ (upd H a (.dK (dropK kvs k))) s' → Q () s') :
    wpAny (model X.prog X.w) A (delItem (.ref a) u) Q E s := by
  obtain ⟨z, hd, vs, rel, dd⟩ := dk_of I.hok e
  refine wpAny_delItem_slot dd.typeIs (by decide) PySem.F.slot_dict_delitem
    (call_meetsIn PySem.F.slot_dict_delitem dd.typeIs PySem.F.entry_dict_delitem (PySem.F.args_dict_delitem_2 _ _) (meets_dict_delitem_pairs (mixKind X.prog X.w) a (kV_is ry)) ⟨vs, dd, by rw [← rel.length]; exact z, by rw [← (rel.val k).isSome_eq]; exact l, fun h' dd' hs => h _ ?_⟩)
  have he : ∃ q, h'.get? a = some q := let ⟨q, _, _, hq, _⟩ := dd'; ⟨q, hq⟩
  exact d_write I (by rw [e]; exact True.intro) hs he (dk_new (Nat.le_trans (dropK_le kvs k) z) hd (rel.drop k) dd')
theorem d_pop {v : V} {more : List Value} {Q : Value → Shared → Prop} (I : Inv X pins σ H s) (e : H a = some (.dK kvs)) (ry : RelV (kV k) u) (l : valV kvs k = some v) (hm : more = [] ∨ ∃ x, more = [x])
    (h : ∀ w' s', Inv X pins σ (upd H a (.dK (dropK kvs k))) s' → RelV v w' → Q w' s') : wpAny (model X.prog X.w) A (call (.builtin "dict.pop") (.ref a :: u :: more)) Q E s := by
  obtain ⟨z, hd, vs, rel, dd⟩ := dk_of I.hok e
  obtain ⟨w', hw, rw'⟩ := RelO.some_of (v := v) (o := valueAt vs k) (by rw [← l]; exact rel.val k)
  have hp : (keyPart u).isSome = true := by
    cases k with
    | inl i => obtain ⟨t, q⟩ := (show ∃ t, u = Value.int i t from ry); subst q; rfl
    | inr x => obtain ⟨t, q⟩ := (show ∃ t, u = Value.str x t from ry); subst q; rfl
  have ha : argsOk "dict.pop" ⟨.ref a :: u :: more, []⟩ := by
    rcases hm with q | ⟨x, q⟩
    · subst q; exact PySem.F.args_dict_pop_2 _ _
    · subst q; exact PySem.F.args_dict_pop_3 _ _ _
  refine call_meetsIn PySem.F.slot_dict_pop dd.typeIs PySem.F.entry_dict_pop ha (meets_dict_pop_there (mixKind X.prog X.w) a (kV_is ry) more hm hp)
    ⟨vs, w', dd, by rw [← rel.length]; exact z, hw, fun h' dd' hs => h w' _ ?_ rw'⟩
  have he : ∃ q, h'.get? a = some q := let ⟨q, _, _, hq, _⟩ := dd'; ⟨q, hq⟩
  exact d_write I (by rw [e]; exact True.intro) hs he (dk_new (Nat.le_trans (dropK_le kvs k) z) hd (rel.drop k) dd')
theorem d_len {Q : Value → Shared → Prop} (I : Inv X pins σ H s) (e : Rd H a (.dK kvs)) (h : ∀ t s', Inv X pins σ H s' → Q (.int kvs.length t) s') : wpAny (model X.prog X.w) A (call (.builtin "len") [.ref a]) Q E s := by
  obtain ⟨z, hd, vs, rel, dd⟩ := dk_rd I.hok e
  refine call_len_dict hd dd (by rw [← rel.length]; rw [sizeLine_eq] at z; omega) ?_
  rw [← rel.length]
  exact h _ _ (I.tok _)
end


section
variable {X : Cx} {o i e value : Expr} {pos pos' tpos : Pos} {td ty tv : TE}
end


theorem dk_empty {P : Program} {w : World} {H : Hp} (h : Heap) (hb : sysModules < h.objs.size) : ObjOk P w H (h.push { cls := .type "dict", data := .dict #[] }) h.objs.size (.dK []) :=
  ⟨Nat.zero_le _, beq_eq_false_iff_ne.mpr (Ne.symm (Nat.ne_of_lt hb)), [], .nil, Heap.DictOf.new h⟩
def tDNewK : TE := fun _ H Q => ∀ p, H p = none → Q (.ref p) (upd H p (.dK []))
section
variable {X : Cx} {pos : Pos}
theorem pe_dnewK : PE X (.Dict [] [] pos) tDNewK := fun pins s σ H Q I h =>
  wpAny_Dict_empty ⟨.ref s.heap.objs.size, _, I.laid (a := s.heap.objs.size) (o := .dK []) (t' := s.toks) (fun _ _ q => Heap.get?_push_of_some _ q) (Nat.le_refl _) (dk_empty s.heap I.big), rfl, h _ (I.hok.fresh (Nat.le_refl _))⟩
end

def mergeK (kvs more : List (Key × V)) : List (Key × V) := more.foldl (fun acc kv => putK acc kv.1 kv.2) kvs
theorem KV.merge : ∀ {more : List (Key × V)} {rs : List (Key × Value)} {kvs : List (Key × V)} {vs : List (Key × Value)}, KV more rs → KV kvs vs → KV (mergeK kvs more) (merged vs rs) := by
  intro more rs kvs vs r
  unfold KV at r
  induction r generalizing kvs vs with
  | nil => intro q; exact q
  | @cons p q ps qs h t ih =>
    intro r0
    have e : KV (putK kvs p.1 p.2) (stored vs q.1 q.2) := by
      have := r0.put p.1 h.2
      rw [← h.1]; exact this
    exact ih e
theorem length_mergeK : ∀ (more kvs : List (Key × V)), (mergeK kvs more).length ≤ kvs.length + more.length
  | [], kvs => by show kvs.length ≤ kvs.length + 0; omega
  | p :: r, kvs => by
    have h1 := length_mergeK r (putK kvs p.1 p.2)
    have h2 := length_putK kvs p.1 p.2
    show (mergeK (putK kvs p.1 p.2) r).length ≤ _
    rw [List.length_cons]; omega
section
variable {X : Cx} {pins : List (Addr × Obj)} {σ : St} {H : Hp} {s : Shared} {a : Addr} {y d : V} {u r : Value} {o : Option V} {A : Around} {E : Value → Shared → Prop}
end

section
variable {X : Cx} {o e f : Expr} {apos cpos : Pos} {td ty tx : TE}
end

section
variable {X : Cx} {pins : List (Addr × Obj)} {σ : St} {H : Hp} {s : Shared} {a : Addr} {kvs : List (Key × V)} {A : Around} {E : Value → Shared → Prop}
end


section
variable {X : Cx} {pins : List (Addr × Obj)} {σ : St} {H : Hp} {s : Shared} {a : Addr} {y : V} {u : Value} {A : Around} {E : Value → Shared → Prop}
end
end L2

namespace Att
open PySem PySem.W PySem.Calls PyProof.Rows

section
variable {prog : Program} {w : World} {A : Around} {E : Value → Shared → Prop} {s : Shared} {K : Frag}

end
end Att

namespace L2
open PySem PySem.Spec PyProof.Rows

end L2

namespace L2
open PySem PySem.Spec PyProof.Rows

end L2

/- THE LAST THEOREM (shape; LID, My.* are yours):
   My.Adr: a structure of the addresses that your layer names (classes, functions); My.Txt K t: a structure (Prop) of the equations over K;
   My.txt_mk : {K} {implicit addresses ..} (e1 : nsIn K mainGlobals "law" = some (some (.ref f))) (e2 : K.lookup f = some ⟨oc, od, .func (fnOf "law" "law" params body scope dV kV doc pm an cdv ct), sl⟩) (e3 : codeIn K cdv "law" = true) .. : ∃ t, My.Txt K t

set_option maxRecDepth 100000 in
set_option maxHeartbeats 0 in
(the tactic k_is has no namespace: write k_is) -/

namespace L2
open PySem PySem.Spec PyProof.Rows

section
variable {P : Program} {w : World} {K : PySem.W.Frag} {mg : Str → Option Value} {base : Heap}
end
section
variable {X : Cx}
theorem call_lenD : CallR X (.builtin "len") (fun xs H Q => ∃ a kvs, xs = [V.ref a] ∧ H a = some (.dK kvs) ∧ Q (.int kvs.length) H) := by
  intro pins s σ H xs us Q I r h
  obtain ⟨a, kvs, rfl, ha, q⟩ := h
  obtain ⟨u, rfl, ru⟩ := vals1 r
  cases ru
  exact d_len I (.inl ha) fun t s' I' => ⟨.int kvs.length, H, I', ⟨t, rfl⟩, q⟩
end

section
variable {κ : Type} [DecidableEq κ]
end
end L2


set_option maxRecDepth 100000
set_option maxHeartbeats 4000000
namespace L2
open PySem PySem.Spec PyProof.Rows
section
variable {prog : Program} {w : World} {A : Around} {E : Value → Shared → Prop} {s : Shared}
theorem collect_kdl {T : String} {r d : Addr} {n : Nat} {P : Nat → Value → Prop} {OK : Heap → Prop} {Q : List Value → Shared → Prop} (K : PySem.W.KdlSrc prog w T r d n P OK) (hh : A.handled = none) (hok : OK s.heap) (hn : n ≤ sizeLine)
    (hQ : ∀ h' tk' items, (∀ b o, s.heap.get? b = some o → h'.get? b = some o) → s.heap.objs.size ≤ h'.objs.size → items.length = n → (∀ (i : Nat) v, items[i]? = some v → P i v) → Q items { s with heap := h', toks := tk' }) : wpAny (model prog w) A (collect (.ref r)) Q E s := by
  obtain ⟨lr, ld⟩ := K.there _ hok
  unfold collect
  refine wpAny_bind (wpAny_runValue (codeAny_builtin PySem.F.entry_proto_collect ?_))
  rw [Around.under_plainId PySem.F.plain_proto_collect _]
  show wpAny _ A.in1 (newList [] >>= fun l => again (.builtin "list.__iadd__" ⟨[l, .ref r], []⟩)) _ _ s
  refine wpAny_bind (wpAny_newObj_type ?_)
  refine wpAny_pure ⟨plainId_quiet PySem.F.plain_list_iadd _, codeAny_builtin PySem.F.entry_list_iadd ?_⟩
  rw [Around.under_plainId PySem.F.plain_list_iadd _]
  have gL : (s.heap.push ({ cls := .type "list", data := .seq ([] : List Value).toArray } : Obj)).get? s.heap.objs.size = some { cls := .type "list", data := .seq ([] : List Value).toArray } := Heap.get?_push_size _ rfl
  show wpAny _ A.in1 (Builtin.List.listExtendWith (.ref s.heap.objs.size) (.ref r) (.ref s.heap.objs.size)) _ _ { s with heap := s.heap.push ({ cls := .type "list", data := .seq ([] : List Value).toArray } : Obj) }
  refine PySem.W.kdl_extend (A := A) (R := fun r s' => match r with
        | .ok (.ret v) => wpAny (model prog w) A (match v with | .ref x => (do match (← load x).data with | .seq xs _ => pure xs.toList | _ => unsupported "internal:collect") | _ => unsupported "internal:collect") Q E s'
        | .ok _ => False
        | .error e => E e s') (s := { s with heap := s.heap.push ({ cls := .type "list", data := .seq ([] : List Value).toArray } : Obj) }) K hh (K.keep _ _ hok fun b _ o e => Heap.get?_push_of_some _ e) s.heap.objs.size (Nat.ne_of_gt lr) (Nat.ne_of_gt ld) _ _ gL (fun h' tk acc' c' hk hS hacc => ?_) hn
  refine wpAny_bind (wpAny_load hS (wpAny_pure ?_))
  refine hQ h' tk acc'.toList (fun b o e => hk b o (Nat.ne_of_lt (Heap.lt_size e)) (Heap.get?_push_of_some _ e)) (Nat.le_of_lt (Heap.lt_size hS)) (by rw [Array.length_toList]; exact hacc.1) fun i v e => hacc.2 i v (by rw [← Array.getElem?_toList]; exact e)
theorem sorted_dictI {a : Addr} {vs : List (Key × Value)} {ms : List Int} {Q : Value → Shared → Prop} (hh : A.handled = none) (lo : (a == sysModules) = false) (hd : s.heap.DictOf (mixKind prog w) a vs) (hk : vs.map (·.1) = ms.map Sum.inl) (h64 : ms.length < 64)
    (h : ∀ h' tk' (l : Addr) (out : List Value) (ns : List Int) (e : Nat), (∀ b o, s.heap.get? b = some o → h'.get? b = some o) → s.heap.objs.size ≤ l → h'.get? l = some (seqObj "list" out.toArray e) → IntsAre out ns → ns.Pairwise (· ≤ ·) → ns.Perm ms →
      Q (.ref l) { s with heap := h', toks := tk' }) : wpAny (model prog w) A (call (.builtin "sorted") [.ref a]) Q E s := by
  obtain ⟨ep, hat⟩ := hd.dictAt
  have hvl : vs.length = ms.length := by have := congrArg List.length hk; simpa using this
  refine Calls.call_function_entry kind_sorted plain_sorted entry_sorted (args_sorted1 _) ?_
  unfold Builtin.«sorted»
  refine wpAny_bind (m := checkCount "sorted" 1 1 _) (wpAny_pure (wpAny_bind ?_))
  refine collect_kdl (A := A.in1) (PySem.W.kdl_dict lo) hh hat (by rw [hvl]; exact Nat.le_trans (Nat.le_of_lt h64) (by decide)) fun h1 tk1 items k1 k2 hil hit => ?_
  have hI : IntsAre items ms := by
    have key : ∀ (its : List Value) (us : List (Key × Value)) (ms : List Int), us.map (·.1) = ms.map Sum.inl → its.length = us.length → (∀ (i : Nat) v, its[i]? = some v → ∃ k x, us[i]? = some (k, x) ∧ (mixKind prog w).is k v = true) → IntsAre its ms := by
      intro its
      induction its with
      | nil =>
        intro us ms e l _
        cases us with
        | nil => cases ms with
          | nil => exact .nil
          | cons _ _ => cases e
        | cons _ _ => cases l
      | cons v its ih =>
        intro us ms e l hp
        cases us with
        | nil => cases l
        | cons u us => cases ms with
          | nil => cases e
          | cons m ms =>
            have e1 : u.1 = Sum.inl m := by injection e
            have e2 : us.map (·.1) = ms.map Sum.inl := by injection e
            obtain ⟨k, x, q1, q2⟩ := hp 0 v rfl
            have q1 : u = (k, x) := by simpa using q1
            subst q1
            have e1 : k = Sum.inl m := e1
            subst e1
            obtain ⟨t, rfl⟩ := Value.isInt_shape (k := m) (v := v) q2
            exact .cons m t (ih us ms e2 (by simpa using l) fun i v q => by simpa using hp (i + 1) v (by simpa using q))
    exact key items vs ms hk hil hit
  have hlen : items.length = ms.length := by rw [hil, hvl]
  refine wpAny_bind (wpAny_newList ?_)
  have gL : (h1.push (seqObj "list" items.toArray 0)).get? h1.objs.size = some (seqObj "list" items.toArray 0) := Heap.get?_push_size _ rfl
  refine wpAny_bind (wpAny_holding (wpAny_call_entry slot_list_sort ⟨_, gL, rfl⟩ entry_list_sort (list_sort_tree gL hI (by omega) fun out ns' a1 a2 a3 => ⟨_, rfl, ?_⟩) (args_list_sort _)))
  obtain ⟨e, he⟩ := sortedHeap_at (out := out) gL
  refine wpAny_pure ⟨_, rfl, h _ tk1 h1.objs.size out.toList ns' e (fun b o q => ?_) k2 (by simpa using he) a1 a3 a2⟩
  have lb := Heap.lt_size (k1 b o q)
  rw [sortedHeap_old (Nat.ne_of_lt lb) (by rw [Heap.size_push]; exact Nat.lt_succ_of_lt lb)]
  exact Heap.get?_push_of_some _ (k1 b o q)
end
def rSortedD : List V → Hp → VK → Prop := fun xs H Q => ∃ a, ∃ kvs : List (Key × V), ∃ ms : List Int, xs = [.ref a] ∧ H a = some (.dK kvs) ∧ kvs.map (·.1) = ms.map Sum.inl ∧ ms.length < 64 ∧
  ∀ l (rs : List Int), H l = none → rs.Pairwise (· ≤ ·) → rs.Perm ms → Q (.ref l) (upd H l (.lst (rs.map V.int)))
theorem call_sortD {X : Cx} (hc : X.calm = true) : CallR X (.builtin "sorted") rSortedD := by
  intro pins s σ H xs us Q I rv h
  obtain ⟨a, kvs, ms, rfl, hH, hk, h64, q⟩ := h
  obtain ⟨u, rfl, ru⟩ := vals1 rv
  cases ru
  obtain ⟨z, hd, vs, rel, dd⟩ := dk_of I.hok hH
  refine sorted_dictI (I.ok.hd hc) hd dd (by rw [← rel.keys]; exact hk) h64 fun h' tk' l out ns e kp hl gl hI pw pp => ?_
  have new : ObjOk X.prog X.w (upd H l (.lst (ns.map V.int))) h' l (.lst (ns.map V.int)) := by
    refine ⟨?_, out, e, ints_vals hI, gl⟩
    rw [List.length_map, pp.length_eq]; exact Nat.le_trans (Nat.le_of_lt h64) (by decide)
  exact ⟨.ref l, _, I.laid (t' := tk') kp hl new, rfl, q _ _ (I.hok.fresh hl) pw pp⟩
end L2
namespace L2
open PySem PySem.Spec PyProof.Rows
section
variable {X : Cx}
def rPutD : V → V → V → Hp → (Hp → Prop) → Prop := fun o i v H Q => ∃ a kvs k, o = .ref a ∧ i = kV k ∧ H a = some (.dK kvs) ∧ kvs.length < sizeLine ∧ Q (upd H a (.dK (putK kvs k v)))
theorem set_dict : PSet X rPutD := by
  intro pins s σ H o i v ov iv u Q I ro ri rv h
  obtain ⟨a, kvs, k, rfl, rfl, hH, hl0, q⟩ := h
  cases ro
  obtain ⟨z, hd, vs, rel, dd⟩ := dk_of I.hok hH
  have hz : vs.length ≤ sizeLine := by rw [← rel.length]; exact z
  have hl : (putK kvs k v).length ≤ sizeLine := by have := length_putK kvs k v; omega
  refine wpAny_setItem_pairs (hsz := hz) (kV_is ri) dd fun h' dd' hs => ?_
  have he : ∃ q, h'.get? a = some q := let ⟨q, _, _, hq, _⟩ := dd'; ⟨q, hq⟩
  exact ⟨_, d_write I (by rw [hH]; exact True.intro) hs he (dk_new hl hd (rel.put k rv) dd'), q⟩
def rGetD2 : V → List V → Hp → VK → Prop := fun x vs H Q => ∃ a kvs k d, x = .ref a ∧ vs = [kV k, d] ∧ H a = some (.dK kvs) ∧ Q ((valV kvs k).getD d) H
theorem mt_get2 : MtR X "dict.get" rGetD2 := by
  intro pins s σ H x xs v us Q I rx rv h
  obtain ⟨a, kvs, k, d, rfl, rfl, hH, q⟩ := h
  cases rx
  cases rv with
  | cons r1 r2 =>
    obtain ⟨r, rfl, rd⟩ := vals1 r2
    obtain ⟨z, hd, vs, rel, dd⟩ := dk_of I.hok hH
    refine call_meetsIn PySem.F.slot_dict_get dd.typeIs PySem.F.entry_dict_get (PySem.F.args_dict_get_3 _ _ _) (meets_dict_get_default (mixKind X.prog X.w) a (kV_is r1) hd r) ⟨_, dd.mapOf, ?_⟩
    exact ⟨_, H, I.tok _, (rel.val k).getD rd, q⟩
end
end L2

set_option maxRecDepth 100000
set_option maxHeartbeats 4000000
namespace L2
open PySem PySem.Spec PyProof.Rows
theorem lk_list_keys : typeLookup (.type "list") "keys" = pure none := by rw [typeLookup_type, builtinLookup_eq_fast]; kernel_rfl
theorem lk_list_getattr : typeLookup (.type "list") "__getattr__" = pure none := by rw [typeLookup_type, builtinLookup_eq_fast]; kernel_rfl
section
variable {prog : Program} {w : World} {A : Around} {E : Value → Shared → Prop} {h : Heap} {g : Array GenState} {d : Drawn} {t : Nat} {os : OsState} {a : Addr} {o : Obj}
theorem keys_entry_list {tk : Tok} {Q : Fin → Shared → Prop} {xs : Array Value} {n : Nat} (hh : A.handled = none) (hx : h.get? a = some (seqObj "list" xs n))
    (hq : ∀ h' tk e, Heap.NewAttrErr h h' e (.ref a) "keys" → E (.ref e) ⟨h', g, d, tk, os⟩) :
    wpAny (model prog w) A (Builtin.«object.__getattribute__» ⟨[.ref a, .str "keys" tk], []⟩) Q E ⟨h, g, d, t, os⟩ := by
  have hT : (⟨h, g, d, t, os⟩ : Shared).TypeIs (.ref a) "list" := ⟨_, hx, rfl⟩
  have f4 := lk_list_keys
  unfold Builtin.«object.__getattribute__»
  repeat (any_goals (first | assumption | wp_step))
  exact wpAny_raiseAttrError hh hq (attrMsg_fits (by decide +kernel) (by size_fits))
theorem keys_call_list {tk : Tok} {R : Result → Shared → Prop} {xs : Array Value} {n : Nat} (hh : A.handled = none) (hx : h.get? a = some (seqObj "list" xs n)) (hq : ∀ h' tk e, Heap.NewAttrErr h h' e (.ref a) "keys" → R (.error (.ref e)) ⟨h', g, d, tk, os⟩) :
    codeAny (model prog w) A (.call (.builtin "list.__getattribute__") ⟨[.ref a, .str "keys" tk], []⟩) R ⟨h, g, d, t, os⟩ :=
  codeAny_call_builtin PySem.F.slot_list_getattribute.plain PySem.F.entry_list_ga (PySem.F.slot_list_getattribute.check _ _ _ _ _ _ _ _ (show (⟨h, g, d, t, os⟩ : Shared).TypeIs (.ref a) "list" from ⟨_, hx, rfl⟩) (PySem.F.args_list_getattribute_2 _ _) (keys_entry_list (by exact hh) hx hq))
theorem no_keys_list {Q : Option Value → Shared → Prop} {xs : Array Value} {n : Nat} (hh : A.handled = none) (hx : h.get? a = some (seqObj "list" xs n))
    (hq : ∀ h' tk, (∀ b ob, h.get? b = some ob → h'.get? b = some ob) → Q none ⟨h', g, d, tk, os⟩) : wpAny (model prog w) A (getAttr? (.ref a) "keys") Q E ⟨h, g, d, t, os⟩ := by
  have hT : (⟨h, g, d, t, os⟩ : Shared).TypeIs (.ref a) "list" := ⟨_, hx, rfl⟩
  have f1 := sub_AttributeError
  have f2 := PySem.F.slot_list_getattribute.lookup
  have f3 := PySem.F.slot_list_getattribute.bind (.ref a)
  have f5 := lk_list_getattr
  unfold getAttr? getAttrBy? getAttrBy
  repeat (any_goals (first | assumption | wp_step))
  refine keys_call_list hh hx fun h' tk e hx' => ?_
  obtain ⟨t', u', he⟩ := hx'.there
  unfold getattributeRaised
  repeat (any_goals (first | assumption | wp_step))
  exact hq _ _ hx'.keeps
end

end L2

set_option maxRecDepth 100000
set_option maxHeartbeats 4000000
namespace L2
open PySem PySem.Spec PyProof.Rows
theorem entry_dict_loop : entryFor table "dict.update.loop" = some Builtin.«dict.update.loop» := entryFor_of_tree (by kernel_rfl)
theorem plain_dict_loop : plainId "dict.update.loop" = true := by decide +kernel
def KvAt (P : Program) (w : World) (h : Heap) (v : Value) (p : Key × Value) : Prop := ∃ a o m ku, v = .ref a ∧ h.get? a = some o ∧ o.cls = .type "tuple" ∧ o.data = .seq #[ku, p.2] m ∧ (mixKind P w).is p.1 ku = true
section
variable {prog : Program} {w : World} {A : Around} {E : Value → Shared → Prop} {s : Shared}
theorem dict_loop {R : Result → Shared → Prop} {d it l : Addr} {its : List Value} {ps : List (Key × Value)} (hh : A.in1.handled = none) (hdl : d ≠ l) (hdi : d ≠ it) (hil : l ≠ it) (hlen : its.length = ps.length) (hsz : its.length ≤ 10000) :
    ∀ (k i : Nat) (s : Shared) (t : Tok), its.length - i = k → i ≤ its.length → s.heap.IsListIter it l i → s.heap.IsList l its.toArray → (∀ (j : Nat) (v : Value) (p : Key × Value), its[j]? = some v → ps[j]? = some p → KvAt prog w s.heap v p) → (∀ (j : Nat) (v : Value), its[j]? = some v → v ≠ Value.ref d ∧ v ≠ Value.ref it) →
      s.heap.DictOf (mixKind prog w) d (merged [] (ps.take i)) → (merged [] (ps.take i)).length ≤ i →
      (∀ h' tk, (∀ b o, b ≠ d → b ≠ it → s.heap.get? b = some o → h'.get? b = some o) → h'.DictOf (mixKind prog w) d (merged [] ps) → R (.ok (.ret .none)) { s with heap := h', toks := tk }) →
      codeAny (model prog w) A (.builtin "dict.update.loop" ⟨[.ref d, .ref it, .int i t, .none], []⟩) R s := by
  intro k
  induction k with
  | zero =>
    intro i s t hk hi hit hl hp hne hD hDl hR
    have hin : i = its.length := by omega
    subst hin
    refine codeAny_builtin entry_dict_loop ?_
    rw [Around.under_plainId plain_dict_loop _]
    show wpAny _ A.in1 (pyNext (.ref it) >>= _) _ _ s
    refine wpAny_bind (wpAny_pyNext_list_end hh hit hl (by simp) fun h' he => ?_)
    show wpAny _ A.in1 (ret Value.none) _ _ _
    rw [hlen, List.take_length] at hD
    exact wpAny_pure (hR h' s.toks (fun b o _ n e => he b o n e) (hD.extBut he hdi))
  | succ k ih =>
    intro i s t hk hi hit hl hp hne hD hDl hR
    have hlt : i < its.length := by omega
    obtain ⟨v, hv⟩ : ∃ v, its[i]? = some v := ⟨_, List.getElem?_eq_getElem hlt⟩
    obtain ⟨p, hpp⟩ : ∃ p, ps[i]? = some p := ⟨_, List.getElem?_eq_getElem (by omega)⟩
    obtain ⟨hn1, hn2⟩ := hne i v hv
    obtain ⟨a, o, m, ku, rfl, g1, g2, g3, g4⟩ := hp i v p hv hpp
    have had : a ≠ d := fun z => hn1 (by rw [z])
    have hai : a ≠ it := fun z => hn2 (by rw [z])
    refine codeAny_builtin entry_dict_loop ?_
    rw [Around.under_plainId plain_dict_loop _]
    show wpAny _ A.in1 (pyNext (.ref it) >>= _) _ _ s
    refine wpAny_bind (wpAny_pyNext_list_item hit hl (x := .ref a) (by simpa using hv) fun h1 hit1 sb1 => ?_)
    have g1' : h1.get? a = some o := (sb1.2 a hai).trans g1
    have hT : (⟨h1, s.gens, s.drawn, s.toks, s.os⟩ : Shared).TypeIs (.ref a) "tuple" := ⟨o, g1', g2⟩
    show wpAny _ A.in1 (holding [Value.ref a] _ >>= _) _ _ _
    refine wpAny_bind (wpAny_holding (wpAny_bind (wpAny_tryCatch ?_)))
    show wpAny _ A.in1 (Builtin.Dict.pairItems (.ref a)) _ _ _
    unfold Builtin.Dict.pairItems
    refine wpAny_bind (wpAny_typeOf hT ?_)
    rw [if_pos (by decide)]
    refine wpAny_bind (wpAny_seqItems g1' g3 (wpAny_pure ?_))
    show wpAny _ A.in1 (holding [ku, p.2] (dictSet d ku p.2)) _ _ _
    have hD1 : h1.DictOf (mixKind prog w) d (merged [] (ps.take i)) := hD.sameBut sb1 hdi
    refine wpAny_holding (wpAny_dictSet_pairs (s := ⟨h1, s.gens, s.drawn, s.toks, s.os⟩) g4 hD1 (fun h2 hD2 sb2 => ?_) (Nat.le_trans hDl (Nat.le_trans hi (Nat.le_trans hsz (by decide)))))
    have e : stored (merged [] (ps.take i)) p.1 p.2 = merged [] (ps.take (i + 1)) := by rw [take_snoc hpp]; unfold merged; rw [List.foldl_append]; rfl
    rw [e] at hD2
    have kk : ∀ b o, b ≠ d → b ≠ it → s.heap.get? b = some o → h2.get? b = some o := fun b o n1 n2 z => (sb2.2 b n1).trans ((sb1.2 b n2).trans z)
    refine wpAny_pure ⟨plainId_quiet plain_dict_loop _, ih (i + 1) ⟨h2, s.gens, s.drawn, s.toks + 1, s.os⟩ _ (by omega) hlt ?_ ?_ ?_ hne hD2 ?_ fun h' tk k' hD' => ?_⟩
    · exact hit1.at fun o z => (sb2.2 it (Ne.symm hdi)).trans z
    · exact hl.at fun o z => kk l o (Ne.symm hdl) hil z
    · intro j v' p' hv' hp'
      obtain ⟨hn1, hn2⟩ := hne j v' hv'
      obtain ⟨a, o, m, ku, rfl, q1, q2, q3, q4⟩ := hp j v' p' hv' hp'
      exact ⟨a, o, m, ku, rfl, kk a o (fun z => hn1 (by rw [z])) (fun z => hn2 (by rw [z])) q1, q2, q3, q4⟩
    · rw [← e]
      unfold stored
      split
      · rw [List.length_map]; omega
      · rw [List.length_append, List.length_singleton]; omega
    · exact hR h' tk (fun b o n1 n2 z => k' b o n1 n2 (kk b o n1 n2 z)) hD'
theorem call_dict_list {l : Addr} {its : List Value} {n : Nat} {ps : List (Key × Value)} {Q : Value → Shared → Prop} (hh : A.handled = none) (hlo : s.heap.get? l = some (seqObj "list" its.toArray n)) (hlen : its.length = ps.length) (hsz : its.length ≤ 10000)
    (hp : ∀ (j : Nat) (v : Value) (p : Key × Value), its[j]? = some v → ps[j]? = some p → KvAt prog w s.heap v p)
    (h : ∀ h' tk, h'.DictOf (mixKind prog w) s.heap.objs.size (merged [] ps) → (∀ b o, s.heap.get? b = some o → h'.get? b = some o) → Q (.ref s.heap.objs.size) { s with heap := h', toks := tk }) :
    wpAny (model prog w) A (call (.type "dict") [.ref l]) Q E s := by
  refine callType_codes (Q₁ := fun obj s₁ => obj = .ref s.heap.objs.size ∧ s₁ = { s with heap := s.heap.push { cls := .type "dict", data := .dict #[] } }) PySem.F.kt_called_dict (PySem.F.kt_typeCall_dict_1 _) PySem.F.entry_dict_init (kt_code_dict_new _ ⟨rfl, rfl⟩) ?_
  rintro obj s₁ ⟨rfl, rfl⟩
  have hnew : (s.heap.push { cls := .type "dict", data := .dict #[] }).DictOf (mixKind prog w) s.heap.objs.size [] := Heap.DictOf.new s.heap
  have hl1 : (s.heap.push { cls := .type "dict", data := .dict #[] }).get? l = some (seqObj "list" its.toArray n) := Heap.get?_push_of_some _ hlo
  have hll : l < s.heap.objs.size := Heap.lt_size hlo
  refine ⟨hnew.typeIs, PySem.F.args_dict_init_2 _ _, ?_⟩
  unfold Builtin.«dict.__init__»
  refine wpAny_bind ?_
  unfold Builtin.Dict.selfAndRest
  refine wpAny_bind (wpAny_notOrdered_dict hnew.typeIs ?_)
  show wpAny _ _ (pure (s.heap.objs.size, [Value.ref l])) _ _ _
  refine wpAny_pure ?_
  show wpAny _ _ (Builtin.Dict.updateFrom "dict.__init__" s.heap.objs.size (.ref l) [] .none) _ _ _
  unfold Builtin.Dict.updateFrom
  refine wpAny_bind (wpAny_typeOf (T := "list") ⟨_, hl1, rfl⟩ ?_)
  rw [if_pos (by decide)]
  refine wpAny_bind (no_keys_list (A := A.in1.in1) hh hl1 fun h1 tk k1 => ?_)
  rw [if_pos (show (none : Option Value).isNone = true from rfl)]
  refine wpAny_bind (wpAny_rule (wpAny_bind ?_))
  have hl2 : h1.get? l = some (seqObj "list" its.toArray n) := k1 _ _ hl1
  have hD1 : h1.DictOf (mixKind prog w) s.heap.objs.size [] := let ⟨o', es, ep, ho, r⟩ := hnew; ⟨o', es, ep, k1 _ _ ho, r⟩
  have hs1 : s.heap.objs.size < h1.objs.size := by obtain ⟨o', es, ep, ho, _⟩ := hD1; exact Heap.lt_size ho
  have L2' : h1.IsList l its.toArray := ⟨_, hl2, rfl, n, rfl⟩
  refine wpAny_pyIter_list L2' ?_
  refine wpAny_pure ⟨plainId_quiet plain_dict_loop _, ?_⟩
  refine dict_loop (A := A.in1) (its := its) (ps := ps) hh (Ne.symm (Nat.ne_of_lt hll)) (Nat.ne_of_lt hs1) (Nat.ne_of_lt (Nat.lt_trans hll hs1)) hlen hsz its.length 0 _ _ (by omega) (Nat.zero_le _) ⟨_, Heap.get?_push_size _ rfl, rfl, rfl⟩ (L2'.push _) ?_ ?_ (hD1.push _) (Nat.le_refl _) fun h' tk' k' hD' => ?_
  · intro j v p hv hpp
    obtain ⟨a, o, m, ku, rfl, q1, q2, q3, q4⟩ := hp j v p hv hpp
    exact ⟨a, o, m, ku, rfl, Heap.get?_push_of_some _ (k1 _ _ (Heap.get?_push_of_some _ q1)), q2, q3, q4⟩
  · intro j v hv
    obtain ⟨p, hpp⟩ : ∃ p, ps[j]? = some p := ⟨_, List.getElem?_eq_getElem (by have := (List.getElem?_eq_some_iff.mp hv).1; omega)⟩
    obtain ⟨a, o, m, ku, rfl, q1, _⟩ := hp j v p hv hpp
    have la := Heap.lt_size q1
    refine ⟨fun z => ?_, fun z => ?_⟩
    · cases z; exact absurd la (Nat.lt_irrefl _)
    · have z' : a = h1.objs.size := by cases z; rfl
      rw [z'] at la
      exact absurd (Nat.lt_trans la hs1) (Nat.lt_irrefl _)
  · refine ⟨rfl, h h' tk' hD' fun b o z => ?_⟩
    have lb := Heap.lt_size z
    exact k' b o (Nat.ne_of_lt lb) (Nat.ne_of_lt (Nat.lt_trans lb hs1)) (Heap.get?_push_of_some _ (k1 _ _ (Heap.get?_push_of_some _ z)))
end
def rDictL : List V → Hp → VK → Prop := fun xs H Q => ∃ (l : Addr) (ys : List V) (kvs : List (Key × V)), xs = [.ref l] ∧ H l = some (.lst ys) ∧ ys.length = kvs.length ∧ ys.length ≤ 10000 ∧
  (∀ (j : Nat) (y : V) (p : Key × V), ys[j]? = some y → kvs[j]? = some p → ∃ a, y = .ref a ∧ H a = some (.tup [kV p.1, p.2])) ∧ ∀ d, H d = none → Q (.ref d) (upd H d (.dK (mergeK [] kvs)))
theorem call_dictL {X : Cx} (hc : X.calm = true) : CallR X (.type "dict") rDictL := by
  intro pins s σ H xs us Q I rv h
  obtain ⟨l, ys, kvs, rfl, hH, hlen, hsz, hy, q⟩ := h
  obtain ⟨u, rfl, ru⟩ := vals1 rv
  cases ru
  obtain ⟨_, its, n, rs, h1⟩ := (show ObjOk X.prog X.w H s.heap l (.lst ys) from I.hok l _ hH)
  have hli := rs.length
  have key : ∃ ps : List (Key × Value), KV kvs ps ∧ ∀ (j : Nat) (v : Value) (p : Key × Value), its[j]? = some v → ps[j]? = some p → KvAt X.prog X.w s.heap v p := by
    have gen : ∀ (ys : List V) (its : List Value) (kvs : List (Key × V)), Vals ys its → ys.length = kvs.length → (∀ (j : Nat) (y : V) (p : Key × V), ys[j]? = some y → kvs[j]? = some p → ∃ a, y = .ref a ∧ H a = some (.tup [kV p.1, p.2])) → ∃ ps : List (Key × Value), KV kvs ps ∧ ∀ (j : Nat) (v : Value) (p : Key × Value), its[j]? = some v → ps[j]? = some p → KvAt X.prog X.w s.heap v p := by
      intro ys
      induction ys with
      | nil =>
        intro its kvs r e _
        cases r
        cases kvs with
        | nil => exact ⟨[], .nil, fun j v p z => by simp at z⟩
        | cons _ _ => cases e
      | cons y ys ih =>
        intro its kvs r e hq
        cases r with
        | cons r1 r2 =>
          cases kvs with
          | nil => cases e
          | cons kv kvs =>
            obtain ⟨ps, g1, g2⟩ := ih _ kvs r2 (by simpa using e) fun j y p a b => hq (j + 1) y p (by simpa using a) (by simpa using b)
            obtain ⟨a, rfl, ha⟩ := hq 0 y kv rfl rfl
            cases r1
            obtain ⟨_, its2, rv2, o, w1, w2, m, w3⟩ := (show ObjOk X.prog X.w H s.heap a (.tup [kV kv.1, kv.2]) from I.hok a _ ha)
            cases rv2 with
            | cons x1 x2 =>
              cases x2 with
              | cons y1 y2 =>
                cases y2
                refine ⟨(kv.1, _) :: ps, .cons ⟨rfl, y1⟩ g1, fun j v p a b => ?_⟩
                cases j with
                | zero =>
                  simp at a b
                  subst a b
                  exact ⟨_, o, m, _, rfl, w1, w2, w3, kV_is x1⟩
                | succ j => exact g2 j v p (by simpa using a) (by simpa using b)
    exact gen ys its kvs rs hlen hy
  obtain ⟨ps, rel, hps⟩ := key
  have hpl := rel.length
  refine call_dict_list (I.ok.hd hc) h1 (by omega) (by omega) hps fun h' tk' hD k => ?_
  have hml := length_mergeK kvs []
  have new : ObjOk X.prog X.w (upd H s.heap.objs.size (.dK (mergeK [] kvs))) h' s.heap.objs.size (.dK (mergeK [] kvs)) := by
    refine dk_new (Nat.le_trans hml (Nat.le_trans (show _ ≤ 10000 by simp; omega) (by decide))) ?_ (rel.merge .nil) hD
    have hb := I.big
    have : s.heap.objs.size ≠ sysModules := Nat.ne_of_gt hb
    simpa using this
  exact ⟨.ref s.heap.objs.size, _, I.laid (t' := tk') k (Nat.le_refl _) new, rfl, q _ (I.hok.fresh (Nat.le_refl _))⟩
end L2

set_option maxRecDepth 100000
set_option maxHeartbeats 4000000
namespace L2
open PySem PySem.Spec PyProof.Rows
abbrev Ks := List (Int × PyData)
def valI (ks : Ks) (k : Int) : Option PyData := (ks.find? fun p => decide (p.1 = k)).map (·.2)
def hasI (ks : Ks) (k : Int) : Bool := ks.any fun p => decide (p.1 = k)
def putI (ks : Ks) (k : Int) (d : PyData) : Ks := if hasI ks k then ks.map fun p => if p.1 = k then (p.1, d) else p else ks ++ [(k, d)]
def dropI (ks : Ks) (k : Int) : Ks := ks.filter fun p => decide (p.1 ≠ k)
theorem valI_has (ks : Ks) (k : Int) : (valI ks k).isSome = hasI ks k := by
  unfold valI hasI
  rw [Option.isSome_map]
  induction ks with
  | nil => rfl
  | cons p r ih =>
    rw [List.find?_cons, List.any_cons]
    by_cases h : p.1 = k
    · simp [h]
    · simp only [h, decide_false, Bool.false_or]; exact ih
theorem hasI_iff {ks : Ks} {k : Int} : hasI ks k = true ↔ k ∈ ks.map (·.1) := by
  unfold hasI
  rw [List.any_eq_true, List.mem_map]
  constructor
  · rintro ⟨p, h1, h2⟩; exact ⟨p, h1, by simpa using h2⟩
  · rintro ⟨p, h1, h2⟩; exact ⟨p, h1, by simpa using h2⟩
theorem valI_nil {k : Int} : valI [] k = none := rfl
theorem valI_cons {p : Int × PyData} {r : Ks} {k : Int} : valI (p :: r) k = if p.1 = k then some p.2 else valI r k := by
  unfold valI
  rw [List.find?_cons]
  by_cases h : p.1 = k <;> simp [h]
theorem valI_append {ks : Ks} {k j : Int} {d : PyData} : valI (ks ++ [(k, d)]) j = match valI ks j with | some x => some x | none => if j = k then some d else none := by
  induction ks with
  | nil =>
    rw [List.nil_append, valI_cons, valI_nil]
    by_cases h : k = j
    · subst h; simp
    · have h' : ¬ j = k := fun z => h z.symm
      simp [h, h']
  | cons p r ih =>
    rw [List.cons_append, valI_cons, valI_cons, ih]
    by_cases h : p.1 = j <;> simp [h]
section
variable {S : Addr → Prop} {H : Hp}
theorem IsKs.val : ∀ {ks : Ks} {ps : List (Key × V)} (k : Int), IsKs S H (ks.map kvD) ps → match valI ks k with | some d => ∃ v, valV ps (Sum.inl k) = some v ∧ IsD S H d v | none => valV ps (Sum.inl k) = none
  | [], ps, k, h => by unfold IsKs at h; subst h; exact valV_nil
  | p :: r, ps, k, h => by
    rw [List.map_cons] at h
    unfold IsKs at h
    obtain ⟨q, qs, rfl, h1, h2⟩ := h
    unfold IsK at h1
    obtain ⟨h3, h4⟩ := h1
    have h3 : q.1 = Sum.inl p.1 := h3
    rw [valI_cons]
    have ih := IsKs.val k h2
    by_cases e : p.1 = k
    · rw [if_pos e]
      refine ⟨q.2, ?_, h4⟩
      rw [valV_pos (by rw [h3, e])]
    · rw [if_neg e, valV_neg (fun z => e (by rw [h3] at z; exact Sum.inl.inj z))]
      exact ih
theorem IsKs.snoc : ∀ {ks : Ks} {ps : List (Key × V)} {k : Int} {d : PyData} {v : V}, IsKs S H (ks.map kvD) ps → IsD S H d v → IsKs S H ((ks ++ [(k, d)]).map kvD) (ps ++ [(Sum.inl k, v)])
  | [], ps, k, d, v, h, hd => by
    unfold IsKs at h; subst h
    show IsKs S H [kvD (k, d)] [(Sum.inl k, v)]
    unfold IsKs
    exact ⟨_, _, rfl, by unfold IsK; exact ⟨rfl, hd⟩, by unfold IsKs; rfl⟩
  | p :: r, ps, k, d, v, h, hd => by
    rw [List.map_cons] at h
    unfold IsKs at h
    obtain ⟨q, qs, rfl, h1, h2⟩ := h
    rw [List.cons_append, List.map_cons, List.cons_append]
    unfold IsKs
    exact ⟨q, _, rfl, h1, IsKs.snoc h2 hd⟩
theorem IsKs.repl : ∀ {ks : Ks} {ps : List (Key × V)} {k : Int} {d : PyData} {v : V}, IsKs S H (ks.map kvD) ps → IsD S H d v → IsKs S H ((ks.map fun p => if p.1 = k then (p.1, d) else p).map kvD) (ps.map fun kv => if kv.1 = Sum.inl k then (kv.1, v) else kv)
  | [], ps, k, d, v, h, hd => by unfold IsKs at h; subst h; simp only [List.map_nil]; unfold IsKs; rfl
  | p :: r, ps, k, d, v, h, hd => by
    rw [List.map_cons] at h
    unfold IsKs at h
    obtain ⟨q, qs, rfl, h1, h2⟩ := h
    rw [List.map_cons, List.map_cons, List.map_cons]
    unfold IsK at h1
    obtain ⟨h3, h4⟩ := h1
    have h3 : q.1 = Sum.inl p.1 := h3
    unfold IsKs
    refine ⟨_, _, rfl, ?_, IsKs.repl h2 hd⟩
    by_cases e : p.1 = k
    · rw [if_pos e, if_pos (by rw [h3, e])]
      unfold IsK
      exact ⟨h3, hd⟩
    · rw [if_neg e, if_neg (fun z => e (by rw [h3] at z; exact Sum.inl.inj z))]
      unfold IsK
      exact ⟨h3, h4⟩
theorem IsKs.any : ∀ {ks : Ks} {ps : List (Key × V)} (k : Int), IsKs S H (ks.map kvD) ps → (ps.any fun kv => decide (kv.1 = Sum.inl k)) = hasI ks k := fun {ks ps} k h => by
  rw [valV_any, ← valI_has]
  have := IsKs.val k h
  cases hv : valI ks k with
  | none => rw [hv] at this; rw [this]; rfl
  | some d => rw [hv] at this; obtain ⟨v, e, _⟩ := this; rw [e]; rfl
theorem IsKs.put {ks : Ks} {ps : List (Key × V)} {k : Int} {d : PyData} {v : V} (h : IsKs S H (ks.map kvD) ps) (hd : IsD S H d v) : IsKs S H ((putI ks k d).map kvD) (putK ps (Sum.inl k) v) := by
  unfold putI putK
  rw [IsKs.any k h]
  split
  · exact IsKs.repl h hd
  · exact IsKs.snoc h hd
theorem IsKs.len : ∀ {ks : Ks} {ps : List (Key × V)}, IsKs S H (ks.map kvD) ps → ps.length = ks.length
  | [], ps, h => by unfold IsKs at h; subst h; rfl
  | p :: r, ps, h => by
    rw [List.map_cons] at h
    unfold IsKs at h
    obtain ⟨q, qs, rfl, _, h2⟩ := h
    simp [IsKs.len h2]
theorem IsKs.keys : ∀ {ks : Ks} {ps : List (Key × V)}, IsKs S H (ks.map kvD) ps → ps.map (·.1) = (ks.map (·.1)).map Sum.inl
  | [], ps, h => by unfold IsKs at h; subst h; rfl
  | p :: r, ps, h => by
    rw [List.map_cons] at h
    unfold IsKs at h
    obtain ⟨q, qs, rfl, h1, h2⟩ := h
    unfold IsK at h1
    have h3 : q.1 = Sum.inl p.1 := h1.1
    simp [IsKs.keys h2, h3]
end
def EvK (G : Gx) (ρ : Rh) (te : TE) (Φ : Bool → Ks → Prop) : Prop := ∀ nb σ H (Q : VK), Wd G nb ρ σ H →
  (∀ f a ps H' ks, Φ f ks → Step G.B H H' → H a = none → H' a = some (.dK ps) → IsKs (fun x => G.S nb f x ∨ x = a) H' (ks.map kvD) ps → Q (.ref a) H') → te σ H Q
section
variable {G : Gx} {ρ ρc : Rh} {Φ Ψ : Pd} {ta tb te : TE} {t : TA} {i : Nat} {f g : Bool} {d e : PyData} {ks : Ks} {K : PySem.W.Frag} {E : DE} {Θ : Bool → Ks → Prop}
theorem Wd.grow {nb : Addr → Prop} {σ : St} {H H1 : Hp} {a : Addr} {o : HO} (W : Wd G nb ρ σ H) (s1 : Step G.B H H1) (ha : H a = none) (e : H1 a = some o) : Wd G (fun x => nb x ∨ x = a) ρ σ H1 ∧ NB G.B a ∧ ∀ f x, G.S (fun x => nb x ∨ x = a) f x → (G.S nb f x ∨ x = a) := by
  have hN : NB G.B a := NB.new W.bag ha
  have hA : ∀ f x, G.S (fun x => nb x ∨ x = a) f x → (G.S nb f x ∨ x = a) := fun f x z => by
    rcases z with (z | z) | z | z | z
    · exact .inl (.inl z)
    · exact .inr z
    · exact .inl (.inr (.inl z))
    · exact .inl (.inr (.inr (.inl z)))
    · exact .inl (.inr (.inr (.inr z)))
  have W1 := W.step s1
  refine ⟨?_, hN, hA⟩
  refine ⟨W1.bag, fun x n => ?_, W1.old, fun x n q => ?_, W.gA, W.len, W.gB, fun h m => (((W.hld h m).fresh ha).keep (s1.but fun x z => .inl (.inr (.inr (.inl z))))).av (hA h.1), fun j s e' => ?_, W.apart, W.apd⟩
  · rcases n with n | n
    · exact W1.live x n
    · subst n; rw [e]; exact Option.some_ne_none _
  · rcases n with n | n
    · exact W.nbo x n q
    · subst n
      cases z : G.H0 x with
      | none => rfl
      | some o => rw [W.old x o q z] at ha; cases ha
  · obtain ⟨x, e1, h⟩ := W.ok j s e'
    refine ⟨x, e1, ?_⟩
    cases s with
    | no => trivial
    | d f d => obtain ⟨v, e, h⟩ := h; exact ⟨v, e, ((h.fresh ha).keep (s1.but fun x z => .inl (.inr (.inr (.inl z))))).av (hA f)⟩
    | own c f es => obtain ⟨e, n, q, xs, hx, hd⟩ := h; exact ⟨e, .inl n, q, xs, s1.1 _ _ q hx, ((hd.fresh ha).keep (s1.but fun x z => .inl (.inr (.inr (.inl z))))).av (hA f)⟩
    | bag => exact h
    | raw v => exact h
    | dic c f es => obtain ⟨e, n, q, xs, hx, hd⟩ := h; exact ⟨e, .inl n, q, xs, s1.1 _ _ q hx, ((hd.fresh ha).keep (s1.but fun x z => .inl (.inr (.inr (.inl z))))).av (hA f)⟩
theorem dic_of {nb : Addr → Prop} {σ : St} {H H1 : Hp} {a : Addr} {ps : List (Key × V)} (W : Wd G nb ρ σ H) (s1 : Step G.B H H1) (ha : H a = none) (e : H1 a = some (.dK ps)) (hd : IsKs (fun x => G.S nb f x ∨ x = a) H1 (ks.map kvD) ps) :
    Wd G (fun x => nb x ∨ x = a) (ρ.set i (.dic a f ks)) (σ.set i (some (.ref a))) H1 := by
  obtain ⟨W2, hN, hA⟩ := W.grow s1 ha e
  refine W2.set ⟨rfl, .inr rfl, hN, ps, e, hd.av (hA f)⟩ (fun _ _ _ z => by cases z) ?_
  rintro a' f' ds' ⟨rfl, rfl, rfl⟩ j c g cs hj hc z
  subst z
  obtain ⟨x, e1, h1, h2, h3, ys, hy, _⟩ := W.ok j _ hc
  rw [hy] at ha; cases ha
theorem Sv.asgK (h : EvK G ρ te fun f ks => ∀ a, E.nx (ρ.set i (.dic a f ks))) : Sv G ρ (tAsg te (gName i)) E := fun nb σ H D W K => h nb σ H _ W fun f a ps H1 ks q s1 ha e hd => K.nx _ _ _ H1 (q a) (dic_of W s1 ha e hd)
theorem EvK.new (h : Θ true []) : EvK G ρ tDNewK Θ := fun nb σ H Q W z p hp => z true p [] _ [] h (.same W.bag (same_new hp)) hp upd_same (by unfold IsKs; rfl)
@[reducible] def itD (p : Int × PyData) : PyData := .tuple [.int p.1, p.2]
def putsI (ks : Ks) (more : Ks) : Ks := more.foldl (fun acc p => putI acc p.1 p.2) ks
theorem isKs_merge {S : Addr → Prop} {H : Hp} : ∀ {more : Ks} {ms : List (Key × V)} {ks : Ks} {ps : List (Key × V)}, IsKs S H (more.map kvD) ms → IsKs S H (ks.map kvD) ps → IsKs S H ((putsI ks more).map kvD) (mergeK ps ms)
  | [], ms, ks, ps, h, g => by unfold IsKs at h; subst h; exact g
  | p :: r, ms, ks, ps, h, g => by
    rw [List.map_cons] at h
    unfold IsKs at h
    obtain ⟨q, qs, rfl, h1, h2⟩ := h
    unfold IsK at h1
    obtain ⟨k, v⟩ := q
    have h3 : k = Sum.inl p.1 := h1.1
    subst h3
    show IsKs S H ((putsI (putI ks p.1 p.2) r).map kvD) (mergeK (putK ps (Sum.inl p.1) v) qs)
    exact isKs_merge (more := r) h2 (IsKs.put g h1.2)
theorem EvK.dictL (h : Ev G ρ te fun f x => ∃ es : Ks, x = .list (es.map itD) ∧ es.length ≤ 10000 ∧ Θ f (putsI [] es)) : EvK G ρ (tCB rDictL (tCons te tNil)) Θ := fun nb σ H Q W z =>
  h nb σ H _ W fun f v H1 x ⟨es, ex, hl, q⟩ s1 hv => by
    subst ex
    obtain ⟨a, xs, rfl, n, hx, hd⟩ := hv.ofL
    have key : ∀ {es : Ks} {xs : List V}, IsDs (G.S nb f) H1 (es.map itD) xs → ∃ kvs : List (Key × V), xs.length = kvs.length ∧ (∀ (j : Nat) (y : V) (p : Key × V), xs[j]? = some y → kvs[j]? = some p → ∃ a, y = .ref a ∧ H1 a = some (.tup [kV p.1, p.2])) ∧ IsKs (G.S nb f) H1 (es.map kvD) kvs := by
      intro es
      induction es with
      | nil => intro xs h; unfold IsDs at h; subst h; exact ⟨[], rfl, fun j y p z => by simp at z, by simp only [List.map_nil]; unfold IsKs; rfl⟩
      | cons e es ih =>
        intro xs h
        rw [List.map_cons] at h
        unfold IsDs at h
        obtain ⟨y, ys, rfl, h1, h2⟩ := h
        obtain ⟨kvs, g1, g2, g3⟩ := ih h2
        obtain ⟨b, ws, rfl, nb', hb, hws⟩ := h1.ofT
        unfold IsDs at hws
        obtain ⟨w1, wr, rfl, k1, hws⟩ := hws
        unfold IsDs at hws
        obtain ⟨w2, wr, rfl, k2, hws⟩ := hws
        unfold IsDs at hws
        subst hws
        rw [k1.ofI] at hb
        refine ⟨(Sum.inl e.1, w2) :: kvs, by simp [g1], fun j y p a b' => ?_, ?_⟩
        · cases j with
          | zero => simp at a b'; subst a b'; exact ⟨b, rfl, hb⟩
          | succ j => exact g2 j y p (by simpa using a) (by simpa using b')
        · rw [List.map_cons]
          unfold IsKs
          exact ⟨_, _, rfl, by unfold IsK; exact ⟨rfl, k2⟩, g3⟩
    obtain ⟨kvs, g1, g2, g3⟩ := key hd
    have hlx := hd.length
    rw [List.length_map] at hlx
    refine ⟨a, xs, kvs, rfl, hx, g1, by omega, g2, fun p hp => ?_⟩
    have hnil : IsKs (G.S nb f) H1 (([] : Ks).map kvD) [] := by simp only [List.map_nil]; unfold IsKs; rfl
    exact z f p _ _ _ q (s1.trans (.same s1.2 (same_new hp))) (W.none_of s1 hp) upd_same (((isKs_merge g3 hnil).fresh hp).keep (But.of (same_new hp)))
theorem writeDic {nb : Addr → Prop} {σ : St} {H : Hp} {a : Addr} {ps : List (Key × V)} {ks' : Ks} (W : Wd G nb ρ σ H) (e : ρ[i]? = some (.dic a f ks)) (hd : IsKs (G.S nb g) H (ks'.map kvD) ps) : Wd G nb (ρ.set i (.dic a g ks')) σ (upd H a (.dK ps)) := by
  obtain ⟨x, e1, h1, h2, h3, ys, hy, _⟩ := W.ok i _ e
  subst h1
  have hil : i < ρ.length := (List.getElem?_eq_some_iff.mp e).1
  have W0 : Wd G nb (ρ.set i .no) (σ.set i (some (.ref a))) H := W.set trivial fun _ _ _ z => by cases z
  have W1 : Wd G nb (ρ.set i .no) (σ.set i (some (.ref a))) (upd H a (.dK ps)) := W0.write h2 h3 (fun j c f' cs hc z => by
      subst z
      have hij : i ≠ j := fun z => by subst z; rw [List.getElem?_set_self hil] at hc; cases hc
      rw [List.getElem?_set_ne hij] at hc
      obtain ⟨_, _, _, _, _, ps, hp, _⟩ := W.ok j _ hc
      rw [hy] at hp; cases hp) (fun j c f' cs hc => by
      by_cases hij : i = j
      · subst hij; rw [List.getElem?_set_self hil] at hc; cases hc
      · rw [List.getElem?_set_ne hij] at hc
        exact (W.apd i j _ _ _ _ _ _ hij e hc).symm)
  have W2 := W1.set (i := i) (s := .dic a g ks') (x := some (.ref a)) ⟨rfl, h2, h3, ps, upd_same, hd.keep (But.set (.inl h2))⟩ (fun _ _ _ z => by cases z) (by
    rintro a' f' ds' ⟨rfl, rfl, rfl⟩ j c g' cs hj hc
    rw [List.getElem?_set_ne (Ne.symm hj)] at hc
    exact W.apd i j _ _ _ _ _ _ (Ne.symm hj) e hc)
  rw [List.set_set, List.set_set] at W2
  have : σ.set i (some (.ref a)) = σ := by
    apply List.ext_getElem?
    intro j
    by_cases hij : i = j
    · subst hij; rw [List.getElem?_set_self (by rw [W.len]; exact hil), e1]
    · rw [List.getElem?_set_ne hij]
  rwa [this] at W2
theorem Sv.putDic {a : Addr} (e : ρ[i]? = some (.dic a f ks)) (h : Ev G ρ te fun g d => Ev G ρ tb fun _ y => ∃ k, y = .int k ∧ ks.length < 10000 ∧ E.nx (ρ.set i (.dic a (f && g) (putI ks k d)))) : Sv G ρ (tAsg te (gSub (tVar i) tb rPutD)) E := fun nb σ H D W KK =>
  h nb σ H _ W fun g v H1 d q s1 hv => by
    obtain ⟨x, e1, h1, h2, h3, ps, hp, hd⟩ := (W.step s1).ok i _ e
    subst h1
    refine ⟨.ref a, e1, q nb σ H1 _ (W.step s1) fun g' u H2 y ⟨k, ey, hl, p⟩ s2 hu => ?_⟩
    subst ey
    have W2 := (W.step s1).step s2
    have hlen := hd.len
    refine ⟨a, ps, .inl k, rfl, hu.ofI, s2.1 _ _ h3 hp, Nat.lt_of_lt_of_le (by rw [hlen]; exact hl) (by decide), KK.nx nb _ _ _ p (writeDic W2 e ?_)⟩
    exact IsKs.put ((hd.keep s2.butS).av (S_mono (fun z => (Bool.and_eq_true _ _ ▸ z).1) fun _ z => z)) ((hv.keep s2.butS).av (S_mono (fun z => (Bool.and_eq_true _ _ ▸ z).2) fun _ z => z))
namespace Ev
theorem getDic {a : Addr} (e : ρ[i]? = some (.dic a f ks)) (h : Ev G ρ ta fun _ y => ∃ k, y = .int k ∧ Ev G ρ tb fun g x => Φ (f && g) ((valI ks k).getD x)) : Ev G ρ (tBM K "dict" rGetD2 (tVar i) (tCons ta (tCons tb tNil))) Φ := fun nb σ H Q W z => by
  obtain ⟨x, e1, h1, h2, h3, ps, hp, hd⟩ := W.ok i _ e
  subst h1
  refine ⟨.ref a, e1, .inr (.inr (.inl ⟨rfl, .inl ⟨_, hp⟩⟩)), ?_⟩
  refine h nb σ H _ W fun g w H1 y ⟨k, ey, q⟩ s1 hw => q nb σ H1 _ (W.step s1) fun g' u H2 x p s2 hu => ?_
  subst ey
  have hd2 := (hd.keep s1.butS).keep s2.butS
  have hv := IsKs.val k hd2
  refine ⟨a, ps, .inl k, u, rfl, by rw [hw.ofI]; rfl, s2.1 _ _ h3 (s1.1 _ _ h3 hp), ?_⟩
  cases hk : valI ks k with
  | none =>
    rw [hk] at hv p
    rw [hv]
    exact z _ _ H2 _ p (s1.trans s2) (hu.av (S_mono (fun z => (Bool.and_eq_true _ _ ▸ z).2) fun _ z => z))
  | some d =>
    rw [hk] at hv p
    obtain ⟨v, e', hD⟩ := hv
    rw [e']
    exact z _ _ H2 _ p (s1.trans s2) (hD.av (S_mono (fun z => (Bool.and_eq_true _ _ ▸ z).1) fun _ z => z))
end Ev
end
def rInD (ng : Bool) : R2 := fun x y H Q => ∃ a o, y = .ref a ∧ DGet H a x o ∧ Q (.bl (o.isSome != ng)) H
theorem op_inD {X : Cx} (hu : X.A.units + 64 < cLine) : OpR X (compareOp .In) (rInD false) := by
  intro pins s σ H x y v u Q I rx ry h
  obtain ⟨a, o, rfl, g, q⟩ := h
  cases ry
  exact d_in (by omega) I g rx fun s' I' => ⟨.bl o.isSome, H, I', rfl, by simpa using q⟩
section
variable {G : Gx} {ρ : Rh} {Φ : Pd} {ta tb te : TE} {i : Nat} {f : Bool} {ks : Ks} {K : PySem.W.Frag} {E : DE}
theorem Ev.inDic {a : Addr} {ng : Bool} (e : ρ[i]? = some (.dic a f ks)) (h : Ev G ρ ta fun _ y => ∃ k, y = .int k ∧ Φ true (.bool (hasI ks k != ng))) : Ev G ρ (tOp (rInD ng) ta (tVar i)) Φ := fun nb σ H Q W z =>
  h nb σ H _ W fun g w H1 y ⟨k, ey, p⟩ s1 hw => by
    obtain ⟨x, e1, h1, h2, h3, ps, hp, hd⟩ := (W.step s1).ok i _ e
    subst h1 ey
    refine ⟨.ref a, e1, a, _, rfl, by rw [hw.ofI]; exact DGet.k (k := .inl k) hp, ?_⟩
    have : (valV ps (Sum.inl k)).isSome = hasI ks k := by rw [← valV_any]; exact IsKs.any k hd
    rw [this]
    exact z true _ H1 _ p s1 (.bl _)
theorem shareDic {nb : Addr → Prop} {σ : St} {H : Hp} {a : Addr} (W : Wd G nb ρ σ H) (e : ρ[i]? = some (.dic a f ks)) : Wd G (fun x => nb x ∧ x ≠ a) (ρ.set i (.d f (.dict (ks.map kvD)))) σ H := by
  obtain ⟨x, e1, h1, h2, h3, xs, hx, hd⟩ := W.ok i _ e
  subst h1
  have hil : i < ρ.length := (List.getElem?_eq_some_iff.mp e).1
  have W0 : Wd G nb (ρ.set i .no) (σ.set i (some (.ref a))) H := W.set trivial fun _ _ _ z => by cases z
  have W1 : Wd G (fun x => nb x ∧ x ≠ a) (ρ.set i .no) (σ.set i (some (.ref a))) H := by
    refine ⟨W0.bag, fun x n => W0.live x n.1, W0.old, fun x n => W0.nbo x n.1, W0.gA, W0.len, W0.gB, fun h m => (W0.hld h m).av (S_mono (fun z => z) fun _ z => z.1), fun j s e' => ?_, W0.apart, W0.apd⟩
    obtain ⟨x, e1', h⟩ := W0.ok j s e'
    refine ⟨x, e1', ?_⟩
    have hij : s ≠ .no → i ≠ j := fun n z => by subst z; rw [List.getElem?_set_self hil] at e'; cases e'; exact n rfl
    cases s with
    | no => trivial
    | d f d => obtain ⟨v, e, h⟩ := h; exact ⟨v, e, h.av (S_mono (fun z => z) fun _ z => z.1)⟩
    | own c f es =>
      obtain ⟨e2, n, q, ys, hy, hd'⟩ := h
      have hca : c ≠ a := fun z => by subst z; rw [hx] at hy; cases hy
      exact ⟨e2, ⟨n, hca⟩, q, ys, hy, hd'.av (S_mono (fun z => z) fun _ z => z.1)⟩
    | bag => exact h
    | raw v => exact h
    | dic c f es =>
      obtain ⟨e2, n, q, ps, hp, hd'⟩ := h
      have hij := hij (by intro z; cases z)
      rw [List.getElem?_set_ne hij] at e'
      exact ⟨e2, ⟨n, (W.apd i j _ _ _ _ _ _ hij e e').symm⟩, q, ps, hp, hd'.av (S_mono (fun z => z) fun _ z => z.1)⟩
  have W2 := W1.setD (i := i) (f := f) (d := .dict (ks.map kvD)) (v := .ref a) (by
    unfold IsD
    refine ⟨a, xs, rfl, fun z => ?_, hx, hd.av (S_mono (fun z => z) fun _ z => z.1)⟩
    rcases z with z | z | z | z
    · exact z.2 rfl
    · exact W.gA a z (W.nbo a h2 h3)
    · exact z h3
    · exact z.2 (W.nbo a h2 h3))
  rw [List.set_set, List.set_set] at W2
  have : σ.set i (some (.ref a)) = σ := by
    apply List.ext_getElem?
    intro j
    by_cases hij : i = j
    · subst hij; rw [List.getElem?_set_self (by rw [W.len]; exact hil), e1]
    · rw [List.getElem?_set_ne hij]
  rwa [this] at W2
theorem Ev.inDd {ng : Bool} (h : Ev G ρ ta fun _ y => ∃ k, y = .int k ∧ Ev G ρ tb fun _ x => ∃ ks : Ks, x = .dict (ks.map kvD) ∧ Φ true (.bool (hasI ks k != ng))) : Ev G ρ (tOp (rInD ng) ta tb) Φ :=
  Ev.op2 (h.mono fun f x ⟨k, ex, q⟩ => q.mono fun g y ⟨ks, ey, p⟩ nb σ H u v Q W hu hv z => by
    subst ex ey
    unfold IsD at hv
    obtain ⟨a, ps, rfl, n, hp, hd⟩ := hv
    refine ⟨a, _, rfl, by rw [hu.ofI]; exact DGet.k (k := .inl k) hp, ?_⟩
    have : (valV ps (Sum.inl k)).isSome = hasI ks k := by rw [← valV_any]; exact IsKs.any k hd
    rw [this]
    exact z true _ H _ p (.refl W.bag) (.bl _))
end
end L2

set_option maxRecDepth 100000
set_option maxHeartbeats 4000000
namespace L2
open PySem PySem.Spec PyProof.Rows
section
variable {prog : Program} {w : World} {A : Around} {E : Value → Shared → Prop} {s : Shared}
theorem sorted_intsS {l : Addr} {vs : List Value} {ns : List Int} {Q : Value → Shared → Prop} (hl : s.heap.IsList l vs.toArray) (hI : IntsAre vs ns) (hz : vs.length < 64)
    (h : ∀ (out : Array Value) (ns' : List Int), IntsAre out.toList ns' → ns'.Perm ns → ns'.Pairwise (· ≤ ·) → Q (.ref (s.heap.objs.size + 1)) { s with heap := sortedAll s.heap vs out }) :
    wpAny (model prog w) A (call (.builtin "sorted") [.ref l]) Q E s := by
  have hZ : vs.length ≤ sizeLine := by rw [sizeLine_eq]; omega
  refine Calls.call_function_entry kind_sorted plain_sorted entry_sorted (args_sorted1 _) ?_
  unfold Builtin.«sorted»
  refine wpAny_bind (m := checkCount "sorted" 1 1 _) (wpAny_pure ?_)
  refine wpAny_bind (collect_list hl ?_ (hsz := hZ))
  refine wpAny_bind (wpAny_newList ?_)
  have hsz : ((s.heap.push (seqObj "list" #[] 0)).update s.heap.objs.size (Obj.mapSeq (· ++ vs.toArray))).objs.size = s.heap.objs.size + 1 := by
    rw [Heap.size_update, size_push']
  have hoL : (((s.heap.push (seqObj "list" #[] 0)).update s.heap.objs.size (Obj.mapSeq (· ++ vs.toArray))).push (seqObj "list" vs.toArray 0)).get? (s.heap.objs.size + 1) = some (seqObj "list" vs.toArray 0) := by
    rw [← hsz]; exact Heap.get?_push_size _ rfl
  show wpAny _ _ _ _ _ { s with heap := ((s.heap.push (seqObj "list" #[] 0)).update s.heap.objs.size (Obj.mapSeq (· ++ vs.toArray))).push (seqObj "list" vs.toArray 0) }
  rw [hsz]
  refine wpAny_bind (wpAny_holding (wpAny_call_entry slot_list_sort ⟨_, hoL, rfl⟩ entry_list_sort (list_sort_tree hoL hI hz fun out ns' a1 a2 a3 => ⟨_, rfl, ?_⟩) (args_list_sort _)))
  exact wpAny_pure ⟨_, rfl, h out ns' a1 a2 a3⟩
end
def rSortLS (K : PySem.W.Frag) : List V → Hp → VK → Prop := fun xs H Q => ∃ p, ∃ ns : List Int, xs = [.ref p] ∧ SqL K H p (ns.map V.int) ∧ ns.length < 64 ∧ ∀ rs : List Int, rs.Perm ns → rs.Pairwise (· ≤ ·) → ∀ l, H l = none → Q (.ref l) (upd H l (.lst (rs.map V.int)))
theorem call_sortLS {X : Cx} : CallR X (.builtin "sorted") (rSortLS X.K) := by
  intro pins s σ H xs us Q I rv h
  obtain ⟨p, ns, rfl, hp, hn, q⟩ := h
  obtain ⟨u, rfl, ru⟩ := vals1 rv
  cases ru
  obtain ⟨its, rs, il, hz⟩ := I.list hp
  have hI := vals_intsA rs
  have hlen := hI.length
  refine sorted_intsS (vs := its) il.isList hI (by omega) fun out ns' h1 h2 h3 => ?_
  obtain ⟨e, ge⟩ := sortedAll_at s.heap its out
  have new : ObjOk X.prog X.w (upd H (s.heap.objs.size + 1) (.lst (ns'.map V.int))) (sortedAll s.heap its out) (s.heap.objs.size + 1) (.lst (ns'.map V.int)) := by
    refine ⟨?_, out.toList, e, ints_vals h1, by simpa using ge⟩
    rw [List.length_map, h2.length_eq]; exact Nat.le_trans (Nat.le_of_lt hn) (by decide)
  exact ⟨.ref (s.heap.objs.size + 1), _, I.laid (t' := s.toks) (fun b o z => sortedAll_old z) (Nat.le_succ _) new, rfl, q _ h2 h3 _ (I.hok.fresh (Nat.le_succ _))⟩
theorem EvN.sortLS {G : Gx} {ρ : Rh} {te : TE} {K : PySem.W.Frag} {Θ : Bool → List PyData → Prop} (h : Ev G ρ te fun _ x => ∃ ns : List Int, x = .list (ns.map .int) ∧ ns.length < 64 ∧ ∀ rs : List Int, rs.Perm ns → rs.Pairwise (· ≤ ·) → Θ true (rs.map .int)) :
    EvN G ρ (tCB (rSortLS K) (tCons te tNil)) Θ := fun nb σ H Q W z =>
  h nb σ H _ W fun f v H1 x ⟨ns, ex, hn, q⟩ s1 hv => by
    subst ex
    obtain ⟨a, xs, rfl, na, hx, hd⟩ := hv.ofL
    have e := isDs_ints_eq hd
    subst e
    refine ⟨a, ns, rfl, .of hx, hn, fun rs hp hw l hl => ?_⟩
    exact EvN.fin (f := true) W s1 hl (isDs_intsL rs) (q rs hp hw) z
theorem EvN.sortedDic {G : Gx} {ρ : Rh} {i : Nat} {a : Addr} {f : Bool} {ks : Ks} {Θ : Bool → List PyData → Prop} (e : ρ[i]? = some (.dic a f ks)) (hl : ks.length < 64) (h : ∀ rs : List Int, rs.Pairwise (· ≤ ·) → rs.Perm (ks.map (·.1)) → Θ true (rs.map .int)) :
    EvN G ρ (tCB rSortedD (tCons (tVar i) tNil)) Θ := fun nb σ H Q W z => by
  obtain ⟨x, e1, h1, h2, h3, ps, hp, hd⟩ := W.ok i _ e
  subst h1
  refine ⟨.ref a, e1, a, ps, ks.map (·.1), rfl, hp, IsKs.keys hd, by rw [List.length_map]; exact hl, fun l rs hl' hw hpm => ?_⟩
  exact EvN.fin (f := true) W (.refl W.bag) hl' (isDs_intsL rs) (h rs hw hpm) z
def rLenD : List V → Hp → VK → Prop := fun xs H Q => ∃ a kvs, xs = [V.ref a] ∧ H a = some (.dK kvs) ∧ Q (.int kvs.length) H
theorem call_lenDD {X : Cx} : CallR X (.builtin "len") rLenD := call_lenD
theorem Ev.lenDic {G : Gx} {ρ : Rh} {Φ : Pd} {i : Nat} {a : Addr} {f : Bool} {ks : Ks} (e : ρ[i]? = some (.dic a f ks)) (h : Φ true (.int ks.length)) : Ev G ρ (tCB rLenD (tCons (tVar i) tNil)) Φ := fun nb σ H Q W z => by
  obtain ⟨x, e1, h1, h2, h3, ps, hp, hd⟩ := W.ok i _ e
  subst h1
  refine ⟨.ref a, e1, a, ps, rfl, hp, ?_⟩
  rw [hd.len]
  exact z true _ H _ h (.refl W.bag) (.int _)
end L2

namespace L2
def Lg (n : Nat) (i : Int) : Prop := -(2 ^ n : Int) < i ∧ i < 2 ^ n
theorem p2_le {n m : Nat} (h : n ≤ m) : (2 : Int) ^ n ≤ 2 ^ m := by
  have := Nat.pow_le_pow_right (n := 2) (by decide) h
  exact_mod_cast this
theorem Lg.mono {n m : Nat} {i : Int} (h : Lg n i) (hn : n ≤ m) : Lg m i := by
  have := p2_le hn
  obtain ⟨h1, h2⟩ := h
  exact ⟨by omega, by omega⟩
theorem lg_nat {n : Nat} {i : Int} : Lg n i ↔ i.natAbs < 2 ^ n := by
  have e : ((2 ^ n : Nat) : Int) = (2 : Int) ^ n := by simp
  unfold Lg
  rw [← e]
  omega
theorem Lg.mul {n m : Nat} {i j : Int} (h : Lg n i) (g : Lg m j) : Lg (n + m) (i * j) := by
  rw [lg_nat] at *
  rw [Int.natAbs_mul, Nat.pow_add]
  exact Nat.mul_lt_mul'' h g
theorem Lg.le {n : Nat} {i j : Int} (h : Lg n j) (h0 : 0 ≤ i) (hi : i ≤ j) : Lg n i := by
  rw [lg_nat] at *; omega
theorem Lg.lit {n : Nat} {i : Int} (h : decide (i.natAbs < 2 ^ n) = true) : Lg n i := lg_nat.mpr (of_decide_eq_true h)
theorem Lg.pow {n : Nat} {i : Int} (h : Lg n i) : ∀ k, Lg (n * k + 1) (i ^ k)
  | 0 => by rw [Int.pow_zero]; exact Lg.mono (n := 1) (.lit rfl) (by omega)
  | k + 1 => by
    rw [Int.pow_succ]
    exact ((Lg.pow h k).mul h).mono (by rw [Nat.mul_succ]; omega)
abbrev Cn := List (Int × Int)
structure CntOk (cs : Cn) : Prop where
  rng : ∀ c ∈ cs, 0 ≤ c.1 ∧ c.1 ≤ 12 ∧ 0 ≤ c.2 ∧ c.2 ≤ 10 ^ 7
  nd : (cs.map (·.1)).Nodup
  len : cs.length ≤ 14
  pos : ∃ c ∈ cs, 0 < c.1 ∧ 0 < c.2
def evW : List Int → Rat → Rat
  | [], _ => 0
  | w :: r, v => (w : Rat) + v * evW r v
def sumS : Cn → Rat → Rat
  | [], _ => 0
  | c :: r, v => (if 0 < c.1 then ((c.1 * c.2 : Int) : Rat) * v ^ (c.1.toNat - 1) else 0) + sumS r v
def sumW : Cn → Int
  | [] => 0
  | c :: r => c.1 * c.2 + sumW r
theorem evW_set {ws : List Int} {k : Nat} {x y : Int} {v : Rat} (h : ws[k]? = some y) : evW (ws.set k x) v = evW ws v + ((x : Rat) - y) * v ^ k := by
  induction ws generalizing k with
  | nil => simp at h
  | cons w r ih =>
    cases k with
    | zero => simp at h; subst h; simp only [List.set_cons_zero, evW, Rat.pow_zero]; grind
    | succ k =>
      simp at h
      simp only [List.set_cons_succ, evW, ih h, Rat.pow_succ]
      grind
def wset (ws : List Int) (c : Int × Int) : List Int := if 0 < c.1 then ws.set (c.1.toNat - 1) (c.1 * c.2) else ws
theorem wset_len {ws : List Int} {c : Int × Int} : (wset ws c).length = ws.length := by unfold wset; split <;> simp
def wts (D : Nat) (cs : Cn) : List Int := cs.foldl wset (List.replicate D 0)
theorem foldl_wset_len (cs : Cn) : ∀ ws : List Int, (cs.foldl wset ws).length = ws.length := by
  induction cs with
  | nil => intro ws; rfl
  | cons c r ih => intro ws; rw [List.foldl_cons, ih, wset_len]
theorem wts_len (D : Nat) (cs : Cn) : (wts D cs).length = D := by unfold wts; rw [foldl_wset_len, List.length_replicate]
theorem evW_fold {v : Rat} (cs : Cn) : ∀ ws : List Int, (∀ c ∈ cs, 0 < c.1 → ws[c.1.toNat - 1]? = some 0) → (∀ c ∈ cs, 0 ≤ c.1) → (cs.map (·.1)).Nodup → evW (cs.foldl wset ws) v = evW ws v + sumS cs v := by
  induction cs with
  | nil => intro ws _ _ _; simp only [List.foldl_nil, sumS]; grind
  | cons c r ih =>
    intro ws h hp hn
    rw [List.map_cons, List.nodup_cons] at hn
    rw [List.foldl_cons, ih]
    · unfold wset
      split
      · rename_i hc
        rw [evW_set (h c (List.mem_cons_self ..) hc)]
        simp only [sumS, hc, if_true]
        grind
      · rename_i hc
        simp only [sumS, hc, if_false]
        grind
    · intro d hd hd0
      have h1 := h d (List.mem_cons_of_mem _ hd) hd0
      unfold wset
      split
      · rename_i hc
        rw [List.getElem?_set_ne]
        · exact h1
        · intro e
          apply hn.1
          have : d.1 = c.1 := by omega
          exact List.mem_map.mpr ⟨d, hd, this⟩
      · exact h1
    · exact fun d hd => hp d (List.mem_cons_of_mem _ hd)
    · exact hn.2
theorem evW_zeros (D : Nat) (v : Rat) : evW (List.replicate D 0) v = 0 := by
  induction D with
  | zero => rfl
  | succ D ih => rw [List.replicate_succ]; simp only [evW, ih]; grind
theorem evW_wts {D : Nat} {cs : Cn} {v : Rat} (h : CntOk cs) (hD : ∀ c ∈ cs, c.1 ≤ D) : evW (wts D cs) v = sumS cs v := by
  unfold wts
  rw [evW_fold cs _ (fun c hc h0 => ?_) (fun c hc => (h.rng c hc).1) h.nd, evW_zeros]
  · grind
  · have := hD c hc
    rw [List.getElem?_replicate, if_pos (by omega)]
theorem evW_one (ws : List Int) : evW ws 1 = (ws.sum : Int) := by
  induction ws with
  | nil => rfl
  | cons w r ih => simp only [evW, List.sum_cons, ih]; rw [Rat.intCast_add]; grind
theorem evW_nonneg {ws : List Int} (h : ∀ w ∈ ws, 0 ≤ w) {v : Rat} (hv : 0 ≤ v) : 0 ≤ evW ws v := by
  induction ws with
  | nil => simp [evW]
  | cons w r ih =>
    have h1 := h w (List.mem_cons_self ..)
    have h2 := ih fun x hx => h x (List.mem_cons_of_mem _ hx)
    have h3 : (0 : Rat) ≤ w := by exact_mod_cast h1
    have h4 := Rat.mul_nonneg hv h2
    simp only [evW]; grind
theorem evW_mono {ws : List Int} (h : ∀ w ∈ ws, 0 ≤ w) {u v : Rat} (hu : 0 ≤ u) (hv : u ≤ v) : evW ws u ≤ evW ws v := by
  induction ws with
  | nil => simp only [evW]; grind
  | cons w r ih =>
    have hr : ∀ x ∈ r, 0 ≤ x := fun x hx => h x (List.mem_cons_of_mem _ hx)
    have h2 := ih hr
    have h3 := evW_nonneg hr (show (0 : Rat) ≤ v by grind)
    have h4 := Rat.mul_le_mul_of_nonneg_left h2 hu
    have h5 := Rat.mul_le_mul_of_nonneg_right hv h3
    simp only [evW]; grind
theorem wset_nonneg {ws : List Int} {c : Int × Int} (h : ∀ w ∈ ws, 0 ≤ w) (hc : 0 ≤ c.1 ∧ 0 ≤ c.2) : ∀ w ∈ wset ws c, 0 ≤ w := by
  intro w hw
  unfold wset at hw
  split at hw
  · rcases List.mem_or_eq_of_mem_set hw with h1 | h1
    · exact h w h1
    · subst h1; exact Int.mul_nonneg hc.1 hc.2
  · exact h w hw
theorem foldl_nonneg (cs : Cn) (hc : ∀ c ∈ cs, 0 ≤ c.1 ∧ 0 ≤ c.2) : ∀ ws : List Int, (∀ w ∈ ws, 0 ≤ w) → ∀ w ∈ cs.foldl wset ws, 0 ≤ w := by
  induction cs with
  | nil => intro ws h; exact h
  | cons c r ih => intro ws h; rw [List.foldl_cons]; exact ih (fun d hd => hc d (List.mem_cons_of_mem _ hd)) _ (wset_nonneg h (hc c (List.mem_cons_self ..)))
theorem wts_nonneg {D : Nat} {cs : Cn} (h : CntOk cs) : ∀ w ∈ wts D cs, 0 ≤ w := by
  refine foldl_nonneg cs (fun c hc => ⟨(h.rng c hc).1, (h.rng c hc).2.2.1⟩) _ fun w hw => ?_
  have := (List.mem_replicate.mp hw).2
  omega
theorem sumS_one {cs : Cn} (h : ∀ c ∈ cs, 0 ≤ c.1) : sumS cs 1 = (sumW cs : Int) := by
  induction cs with
  | nil => rfl
  | cons c r ih =>
    have h0 := h c (List.mem_cons_self ..)
    simp only [sumS, sumW, ih fun d hd => h d (List.mem_cons_of_mem _ hd)]
    rw [Rat.intCast_add]
    split
    · have : ∀ n : Nat, (1 : Rat) ^ n = 1 := fun n => by induction n with | zero => rfl | succ n ih => rw [Rat.pow_succ, ih]; grind
      rw [this]; grind
    · have : c.1 = 0 := by omega
      rw [this, Int.zero_mul]; simp
theorem sumW_pos : ∀ {cs : Cn}, (∀ c ∈ cs, 0 ≤ c.1 ∧ 0 ≤ c.2) → 0 ≤ sumW cs ∧ ((∃ c ∈ cs, 0 < c.1 ∧ 0 < c.2) → 0 < sumW cs)
  | [], _ => ⟨by simp [sumW], fun ⟨_, h, _⟩ => by cases h⟩
  | c :: r, h => by
    have h0 := h c (List.mem_cons_self ..)
    obtain ⟨i1, i2⟩ := sumW_pos fun d hd => h d (List.mem_cons_of_mem _ hd)
    have m := Int.mul_nonneg h0.1 h0.2
    refine ⟨by simp only [sumW]; omega, fun ⟨d, hd, hd1, hd2⟩ => ?_⟩
    simp only [sumW]
    rcases List.mem_cons.mp hd with e | hd
    · subst e; have := Int.mul_pos hd1 hd2; omega
    · have := i2 ⟨d, hd, hd1, hd2⟩; omega
theorem CntOk.two {cs : Cn} (h : CntOk cs) : ∀ c ∈ cs, 0 ≤ c.1 ∧ 0 ≤ c.2 := fun c hc => ⟨(h.rng c hc).1, (h.rng c hc).2.2.1⟩
theorem CntOk.W {cs : Cn} (h : CntOk cs) : 0 < sumW cs := (sumW_pos h.two).2 h.pos
theorem sumW_le : ∀ {cs : Cn}, (∀ c ∈ cs, 0 ≤ c.1 ∧ c.1 ≤ 12 ∧ 0 ≤ c.2 ∧ c.2 ≤ 10 ^ 7) → sumW cs ≤ 12 * 10 ^ 7 * cs.length
  | [], _ => by simp [sumW]
  | c :: r, h => by
    obtain ⟨h1, h2, h3, h4⟩ := h c (List.mem_cons_self ..)
    have ih := sumW_le fun d hd => h d (List.mem_cons_of_mem _ hd)
    have m : c.1 * c.2 ≤ 12 * 10 ^ 7 := Int.mul_le_mul h2 h4 h3 (by decide)
    simp only [sumW, List.length_cons]
    omega
theorem CntOk.WLg {cs : Cn} (h : CntOk cs) : Lg 31 (sumW cs) := by
  have h1 := h.W
  have h2 := sumW_le h.rng
  have h3 := h.len
  refine Lg.le (j := 2147483647) (.lit (by decide)) (by omega) (by omega)
def tellT (cs : Cn) (v : Rat) : Rat := sumS cs v / (sumW cs : Int)
theorem tellT_mul {cs : Cn} (h : CntOk cs) (v : Rat) : tellT cs v * (sumW cs : Int) = sumS cs v := by
  have : ((sumW cs : Int) : Rat) ≠ 0 := by have := h.W; exact_mod_cast (by omega : sumW cs ≠ 0)
  unfold tellT; grind
structure Sh (v : Rat) (a b : Int) (k : Nat) : Prop where
  a0 : 0 ≤ a
  ab : a ≤ b
  b0 : 0 < b
  bk : Lg k b
  e : (a : Rat) = v * b
theorem Sh.mono {v : Rat} {a b : Int} {k m : Nat} (h : Sh v a b k) (hk : k ≤ m) : Sh v a b m := ⟨h.a0, h.ab, h.b0, h.bk.mono hk, h.e⟩
theorem Sh.of {a b : Int} {k : Nat} (h0 : 0 ≤ a) (h1 : a ≤ b) (h2 : 0 < b) (hk : Lg k b) : Sh ((a : Rat) / b) a b k := by
  have : (b : Rat) ≠ 0 := by exact_mod_cast (by omega : b ≠ 0)
  exact ⟨h0, h1, h2, hk, by grind⟩
theorem Sh.mul {v s : Rat} {a b c d : Int} {k m : Nat} (h : Sh v a b k) (g : Sh s c d m) : Sh (s * v) (c * a) (d * b) (m + k) :=
  ⟨Int.mul_nonneg g.a0 h.a0, Int.mul_le_mul g.ab h.ab h.a0 (by have := g.b0; omega), Int.mul_pos g.b0 h.b0, g.bk.mul h.bk, by rw [Rat.intCast_mul, Rat.intCast_mul, g.e, h.e]; grind⟩
def growG (l c : Cn) (s v : Rat) : Rat := s * tellT l (1 - tellT c (1 - v))
section
variable {l c : Cn} {s : Rat} (hl : CntOk l) (hc : CntOk c) (s0 : 0 ≤ s)
include hl hc s0
end
structure Hn (ws : List Int) (v : Rat) (b : Int) (j : Nat) (re be : Int) : Prop where
  eb : be = b ^ j
  er : (re : Rat) = be * evW (ws.drop (ws.length - 1 - j)) v
theorem Hn.step {ws : List Int} {v : Rat} {a b w : Int} {j : Nat} {re be : Int} (h : Hn ws v b j re be) (ha : (a : Rat) = v * b) (hj : j + 1 < ws.length) (hw : ws[ws.length - 1 - (j + 1)]? = some w) : Hn ws v b (j + 1) (re * a + w * (be * b)) (be * b) := by
  obtain ⟨hl, e⟩ := List.getElem?_eq_some_iff.mp hw
  refine ⟨by rw [h.eb, Int.pow_succ], ?_⟩
  rw [List.drop_eq_getElem_cons hl, e, show ws.length - 1 - (j + 1) + 1 = ws.length - 1 - j by omega]
  simp only [evW]
  have := h.er
  rw [Rat.intCast_add, Rat.intCast_mul, Rat.intCast_mul, Rat.intCast_mul, h.er, ha]
  grind
theorem sum_nonneg {ws : List Int} (h : ∀ w ∈ ws, 0 ≤ w) : 0 ≤ ws.sum := by
  induction ws with
  | nil => simp
  | cons w r ih => have := h w (List.mem_cons_self ..); have := ih fun x hx => h x (List.mem_cons_of_mem _ hx); rw [List.sum_cons]; omega
theorem sum_drop_le {ws : List Int} (h : ∀ w ∈ ws, 0 ≤ w) (k : Nat) : (ws.drop k).sum ≤ ws.sum := by
  have e : ws.sum = (ws.take k).sum + (ws.drop k).sum := by rw [← List.sum_append, List.take_append_drop]
  have := sum_nonneg fun w hw => h w (List.mem_of_mem_take (i := k) hw)
  omega
theorem Hn.range {ws : List Int} {v : Rat} {b : Int} {j : Nat} {re be : Int} (h : Hn ws v b j re be) (hw : ∀ w ∈ ws, 0 ≤ w) (hb : 0 < b) (v0 : 0 ≤ v) (v1 : v ≤ 1) : 0 ≤ re ∧ re ≤ be * ws.sum ∧ 0 < be := by
  have hd : ∀ w ∈ ws.drop (ws.length - 1 - j), 0 ≤ w := fun w hx => hw w (List.mem_of_mem_drop hx)
  have hbe : 0 < be := by rw [h.eb]; exact Int.pow_pos hb
  have hbq : (0 : Rat) ≤ be := by exact_mod_cast (by omega : 0 ≤ be)
  have e0 := evW_nonneg hd v0
  have e1 := evW_mono hd v0 v1
  rw [evW_one] at e1
  have e2 : (((ws.drop (ws.length - 1 - j)).sum : Int) : Rat) ≤ (ws.sum : Int) := by exact_mod_cast sum_drop_le hw _
  have m0 := Rat.mul_nonneg hbq e0
  have m1 := Rat.mul_le_mul_of_nonneg_left (show evW (ws.drop (ws.length - 1 - j)) v ≤ (ws.sum : Int) by grind) hbq
  have er := h.er
  refine ⟨?_, ?_, hbe⟩
  · have : (0 : Rat) ≤ (re : Int) := by rw [er]; exact m0
    exact_mod_cast this
  · have : ((re : Int) : Rat) ≤ ((be * ws.sum : Int) : Rat) := by rw [er, Rat.intCast_mul]; exact m1
    exact_mod_cast this
theorem Hn.done {cs : Cn} {D : Nat} {v : Rat} {b : Int} {re be : Int} {k : Nat} (hc : CntOk cs) (hD : ∀ c ∈ cs, c.1 ≤ D) (h12 : D ≤ 12) (hD1 : 1 ≤ D) (h : Hn (wts D cs) v b (D - 1) re be) (hb : 0 < b) (hk : Lg k b) (v0 : 0 ≤ v) (v1 : v ≤ 1) : Sh (tellT cs v) re (be * (wts D cs).sum) (11 * k + 32) := by
  have hs : (wts D cs).sum = sumW cs := by
    have h1 := evW_wts (v := 1) hc hD
    rw [evW_one, sumS_one fun c hx => (hc.rng c hx).1] at h1
    exact_mod_cast h1
  have hW := hc.W
  obtain ⟨r1, r2, r3⟩ := h.range (wts_nonneg hc) hb v0 v1
  have er := h.er
  rw [wts_len, Nat.sub_self, List.drop_zero, evW_wts hc hD, ← tellT_mul hc v] at er
  refine ⟨r1, r2, Int.mul_pos r3 (by omega), ?_, ?_⟩
  · rw [hs]
    have h1 := (hk.pow (D - 1)).mul hc.WLg
    rw [← h.eb] at h1
    refine h1.mono ?_
    have := Nat.mul_le_mul_left k (show D - 1 ≤ 11 by omega)
    omega
  · rw [er, hs, Rat.intCast_mul]; grind
def ceilR (x : Rat) : Int := -((-x).floor)
end L2
namespace L2
structure Gw where
  l : Cn
  c : Cn
  s : Rat
  u : Int
def Gw.gr (g : Gw) (x : Int) : Rat := growG g.l g.c g.s ((x : Rat) / g.u) * g.u
def Gw.lo (g : Gw) : Nat → Int
  | 0 => (g.s * g.u).floor
  | k + 1 => (g.gr (g.lo k)).floor
def Gw.hi (g : Gw) : Nat → Int
  | 0 => ceilR (g.s * g.u)
  | k + 1 => ceilR (g.gr (g.hi k))
end L2
namespace L2
end L2
namespace L2
end L2

set_option maxRecDepth 100000
set_option maxHeartbeats 4000000
namespace L2
open PySem PySem.Spec PyProof.Rows
structure CLg (i j : Int) : Prop where
  one : Lg 100000 i
  two : Lg 100000 j
structure CLd (i j : Int) : Prop where
  one : 0 < j
  two : Lg 8900 j
theorem CLg.of {n m : Nat} {i j : Int} (h : Lg n i) (g : Lg m j) (hn : n ≤ 100000 := by omega) (hm : m ≤ 100000 := by omega) : CLg i j := ⟨h.mono hn, g.mono hm⟩
theorem CLd.of {m : Nat} {i j : Int} (h : 0 < j) (g : Lg m j) (hm : m ≤ 8900 := by omega) : CLd i j := ⟨h, g.mono hm⟩
section
variable {X : Cx}
end
section
variable {G : Gx} {ρ : Rh} {te ta tb : TE} {s : TS} {gt : TG} {E : DE} {K : PySem.W.Frag} {Φ : Pd}
end
@[reducible] def bdD (g : Gw) (k : Nat) : PyData := .tuple [.int (g.lo k), .int (g.hi k)]
@[reducible] def fallD (n : Nat) : PyData := .tuple [.str "falls", .int n]
@[reducible] def stayD (x : Int) : PyData := .tuple [.str "stays", .int x]
@[reducible] def openD : PyData := .tuple [.str "open"]
section
variable {prog : Program} {w : World} {A : Around} {E : Value → Shared → Prop} {s : Shared}
end
def gLst (K : PySem.W.Frag) (n : Nat) (t : TGs) : TG := fun v σ H Q => ∃ a xs, v = .ref a ∧ SqL K H a xs ∧ xs.length = n ∧ t xs σ H Q
theorem Gv.lst {G : Gx} {ρ : Rh} {f : Bool} {ds : List PyData} {K : PySem.W.Frag} {Θ : Rh → Prop} {n : Nat} {u : TGs} (hl : ds.length = n) (h : Gvs G ρ u f ds Θ) : Gv G ρ (gLst K n u) f (.list ds) Θ := fun nb σ H v Q W hv z => by
  obtain ⟨a, xs, rfl, m, hx, hd⟩ := hv.ofL
  exact ⟨a, xs, rfl, .of hx, by rw [hd.length]; exact hl, h nb σ H xs Q W hd z⟩

end L2

set_option maxRecDepth 100000
set_option maxHeartbeats 4000000
namespace L2
open PySem PySem.Spec PyProof.Rows PySem.W
section
variable {n : Nat} {cmp : Nat → Nat → (Bool → Shared → Prop) → Shared → Prop} {s : Shared}
def VP (n : Nat) (p : Array Nat) : Prop := p.toList.Perm (List.range n)
theorem VP.of {p q : Array Nat} (h : VP n p) (z : q.Perm p) : VP n q := (Array.perm_iff_toList_perm.mp z).trans h
variable (h0 : 0 < n) (hc : ∀ i j C, i < n → j < n → (∀ b, C b s) → cmp i j C s)
include h0 hc
end
def PairAt (h : Heap) (v : Value) : Prop := ∃ a o i j t u m, v = .ref a ∧ h.get? a = some o ∧ o.cls = .type "tuple" ∧ o.data = .seq #[.int i t, .int j u] m
section
variable {prog : Program} {w : World} {A : Around} {E : Value → Shared → Prop} {s : Shared}
theorem PairAt.keep {h h' : Heap} {v : Value} (x : PairAt h v) (k : ∀ b o, h.get? b = some o → h'.get? b = some o) : PairAt h' v := by
  obtain ⟨a, o, i, j, t, u, m, e, h1, h2, h3⟩ := x
  exact ⟨a, o, i, j, t, u, m, e, k _ _ h1, h2, h3⟩
end

theorem EvN.repD {G : Gx} {ρ : Rh} {te tb : TE} {Θ : Bool → List PyData → Prop} (h : Ev G ρ te fun f d => Ev G ρ tb fun _ y => ∃ k, y = .int k ∧ k ≤ 10000 ∧ -(10000) ≤ k ∧ ∀ g, Θ g (List.replicate k.toNat d)) : EvN G ρ (tOp rRep (tLst (tCons te tNil)) tb) Θ := fun nb σ H Q W z =>
  h nb σ H _ W fun f v H1 d' q s1 hv => by
    refine ⟨by show 1 ≤ sizeLine; decide, fun p hp => ?_⟩
    have W1 := W.step s1
    have s2 : Step G.B H1 (upd H1 p (.lst [v])) := .same W1.bag (same_new hp)
    refine q nb σ _ _ (W1.step s2) fun g u H2 d2 ⟨k, e2, h1, h2, p2⟩ s3 hu => ?_
    subst e2
    have hN : NB G.B p := fun b l e z => by
      subst z
      exact NB.bag_live (B := G.B) (a := p) s1.2 (fun z => z _ _ e rfl) hp
    refine ⟨p, k, [v], rfl, hu.ofI, s3.1 _ _ hN upd_same, by omega, by omega, ?_, fun a ha => ?_⟩
    · show 1 * k.toNat ≤ sizeLine
      exact Nat.le_trans (show 1 * k.toNat ≤ 10000 by omega) (by decide)
    · have hv2 := (hv.keep s2.butS).keep s3.butS
      have hd : IsDs (G.S nb f) H2 (List.replicate k.toNat d') (List.replicate k.toNat [v]).flatten := by
        induction k.toNat with
        | zero => exact .nil
        | succ m ih => rw [List.replicate_succ, List.replicate_succ, List.flatten_cons]; exact .cons hv2 ih
      exact EvN.fin (f := f) W (s1.trans (s2.trans s3)) ha hd (p2 _) z
end L2

set_option maxRecDepth 100000
set_option maxHeartbeats 4000000
namespace L2
open PySem PySem.Spec PyProof.Rows
theorem Tv.lend {G : Gx} {ρ : Rh} {t : TT} {Θ : Bool → Prop} {a : Addr} {f : Bool} {ds : List PyData} (i : Nat) (e : ρ[i]? = some (.own a f ds)) (h : Tv G (ρ.set i (.d f (.list ds))) t Θ) : Tv G ρ t Θ := fun nb σ H Q W z =>
  h _ σ H Q (Sv.share W e) z
end L2

set_option maxRecDepth 100000
set_option maxHeartbeats 4000000
namespace L2
open PySem PySem.Spec PyProof.Rows
end L2

set_option maxRecDepth 100000
set_option maxHeartbeats 4000000
namespace L2
open PySem PySem.Spec PyProof.Rows
theorem IsDs.era {nb : Addr → Prop} {H : Hp} : ∀ {ds : List PyData} {xs : List V} (m : Nat), IsDs nb H ds xs → IsDs nb H (ds.eraseIdx m) (xs.eraseIdx m)
  | [], _, m, h => by unfold IsDs at h; subst h; exact .nil
  | e :: ds, _, 0, h => by unfold IsDs at h; obtain ⟨y, ys, rfl, h1, h2⟩ := h; exact h2
  | e :: ds, _, m + 1, h => by unfold IsDs at h; obtain ⟨y, ys, rfl, h1, h2⟩ := h; exact .cons h1 (IsDs.era m h2)
section
variable {X : Cx}
end
section
variable {G : Gx} {ρ : Rh} {te : TE} {E : DE} {i j : Nat} {f : Bool} {ds : List PyData} {K : PySem.W.Frag}
end
end L2

set_option maxRecDepth 100000
set_option maxHeartbeats 4000000
namespace L2
open PySem PySem.Spec PyProof.Rows
def rRemove : V → List V → Hp → VK → Prop := fun x vs H Q => ∃ l, ∃ ns : List Int, ∃ k : Int, x = .ref l ∧ vs = [.int k] ∧ H l = some (.lst (ns.map V.int)) ∧ k ∈ ns ∧ Q .non (upd H l (.lst ((ns.erase k).map V.int)))
theorem ints_at : ∀ {its : List Value} {ns : List Int} {m : Nat} {v : Value}, IntsAre its ns → its[m]? = some v → ∃ k t, ns[m]? = some k ∧ v = .int k t
  | _, _, _, _, .nil, e => by simp at e
  | _, _, 0, _, .cons n t h, e => by simp at e; exact ⟨n, t, rfl, e.symm⟩
  | _, _, m + 1, _, .cons n t h, e => by simpa using ints_at (m := m) h (by simpa using e)
theorem erase_map {α β : Type} (f : α → β) : ∀ (xs : List α) (k : Nat), (xs.map f).eraseIdx k = (xs.eraseIdx k).map f
  | [], _ => rfl
  | x :: xs, 0 => rfl
  | x :: xs, k + 1 => by show f x :: (xs.map f).eraseIdx k = _; rw [erase_map f xs k]; rfl
section
variable {X : Cx}
theorem mt_remove : MtM X "list.remove" rRemove := by
  intro pins s σ H x vs v us Q I rx rv h
  obtain ⟨l, ns, k, rfl, rfl, hH, hk, q⟩ := h
  cases rx
  obtain ⟨u, rfl, ru⟩ := rv.one
  obtain ⟨t, rfl⟩ := ru
  obtain ⟨z, its, n, r, hl, e⟩ := I.lstM hH
  have hI := vals_intsA r
  have hlen := hI.length
  have hj : ns.idxOf k < ns.length := List.idxOf_lt_length_of_mem hk
  have hat : ∀ m (hm : m < its.toArray.size), isInt k its.toArray[m] = decide (ns[m]'(by rw [List.size_toArray] at hm; omega) = k) := fun m hm => by
    rw [List.size_toArray] at hm
    obtain ⟨k', t', e1, e2⟩ := ints_at (m := m) (v := its[m]) hI (List.getElem?_eq_getElem hm)
    have e3 : ns[m]'(by omega) = k' := by rw [List.getElem?_eq_getElem (by omega)] at e1; exact Option.some.inj e1
    rw [List.getElem_toArray, e2, e3]
    unfold isInt
    first | rfl | (simp) | skip
  refine call_meets PySem.F.slot_list_remove ⟨_, e, rfl⟩ PySem.F.entry_list_remove (PySem.F.args_list_remove_2 _ _)
    (MeetsSeq.list_remove l its.toArray n (.int k t) (isInt k) (fun y hy => eq_isInt k t hI y (by simpa using hy)) (ns.idxOf k) (by rw [List.size_toArray]; omega) ?_ ?_ (by rw [List.size_toArray]; omega)) ⟨e, ?_⟩
  · rw [hat]
    exact decide_eq_true (List.getElem_idxOf hj)
  · intro m hm hlt
    rw [hat]
    exact decide_eq_false fun z => by
      have := List.not_of_lt_findIdx (p := (· == k)) (xs := ns) (i := m) (by exact hlt)
      simp at this
      exact this z
  · refine ⟨.non, _, I.lset (its' := its.eraseIdx (ns.idxOf k)) hH e ?_ (by rw [List.erase_eq_eraseIdx_of_idxOf rfl, ← erase_map]; exact r.eraseIdx _) ?_, rfl, q⟩
    · show its.toArray.eraseIdxIfInBounds _ = _
      rw [List.eraseIdxIfInBounds_toArray]
    · have := List.length_erase_le (a := k) (l := ns)
      rw [List.length_map] at hl z ⊢
      omega
end
section
variable {G : Gx} {ρ : Rh} {te : TE} {E : DE} {i j : Nat} {f : Bool} {K : PySem.W.Frag}
theorem Sv.remove {a : Addr} {ns : List Int} (e : ρ[i]? = some (.own a f (ns.map .int))) (h : Ev G ρ te fun _ y => ∃ k, y = .int k ∧ k ∈ ns ∧ E.nx (ρ.set i (.own a f ((ns.erase k).map .int)))) :
    Sv G ρ (tDrop (tBM K "list" rRemove (tVar i) (tCons te tNil))) E := fun nb σ H D W KK => by
  obtain ⟨x, e1, h1, h2, h3, xs, hx, hd⟩ := W.ok i _ e
  subst h1
  have hxs := isDs_ints_eq hd
  subst hxs
  refine ⟨.ref a, e1, .inl ⟨rfl, _, SqL.of hx⟩, h nb σ H _ W fun g v H1 y ⟨k, ey, hk, q⟩ s1 hv => ?_⟩
  subst ey
  have hk' := hv.ofI
  subst hk'
  exact ⟨a, ns, k, rfl, rfl, s1.1 _ _ h3 hx, hk, KK.nx nb _ _ _ q (writeOwn (W.step s1) e (isDs_intsL _))⟩
end
def ViewX (p d : Addr) : HO := .ext fun h => h.IsValuesView p d
def rValues : V → List V → Hp → VK → Prop := fun x vs H Q => ∃ a kvs, x = .ref a ∧ vs = [] ∧ H a = some (.dK kvs) ∧ ∀ p, H p = none → Q (.ref p) (upd H p (ViewX p a))
def rListV : List V → Hp → VK → Prop := fun xs H Q => ∃ p a kvs, xs = [.ref p] ∧ H p = some (ViewX p a) ∧ H a = some (.dK kvs) ∧ ∀ l, H l = none → Q (.ref l) (upd H l (.lst (kvs.map (·.2))))
theorem KV.vals : ∀ {kvs : List (Key × V)} {vs : List (Key × Value)}, KV kvs vs → Vals (kvs.map (·.2)) (vs.map (·.2))
  | [], [], _ => .nil
  | a :: r, b :: t, .cons h1 h2 => .cons h1.2 (KV.vals h2)
section
variable {X : Cx}
theorem mt_values : MtR X "dict.values" rValues := by
  intro pins s σ H x vs v us Q I rx rv h
  obtain ⟨a, kvs, rfl, rfl, hH, q⟩ := h
  cases rx
  have hus := rv.zero
  subst hus
  obtain ⟨z, hd, ps, rel, dd⟩ := dk_of I.hok hH
  refine call_meetsIn PySem.F.slot_dict_values dd.typeIs PySem.F.entry_dict_values (PySem.F.args_dict_values_1 _) (meets_dict_values (mixKind X.prog X.w) a hd) ⟨⟨ps, dd⟩, ?_⟩
  have new : ObjOk X.prog X.w (upd H s.heap.objs.size (ViewX s.heap.objs.size a)) (s.heap.push { cls := .type "dict_values", data := .fields #[.ref a] }) s.heap.objs.size (ViewX s.heap.objs.size a) := by
    refine ⟨⟨_, Heap.get?_push_size _ rfl, rfl, rfl⟩, ⟨_, Heap.get?_push_size _ rfl⟩, fun h1 h2 z k => ?_⟩
    obtain ⟨o, ho, r⟩ := z
    exact ⟨o, k o ho, r⟩
  exact ⟨.ref s.heap.objs.size, _, I.laid (t' := s.toks) (fun b o e => Heap.get?_push_of_some _ e) (Nat.le_refl _) new, rfl, q _ (I.hok.fresh (Nat.le_refl _))⟩

theorem call_listV (hc : X.calm = true) : CallR X (.type "list") rListV := by
  intro pins s σ H xs us Q I rv h
  obtain ⟨p, a, kvs, rfl, hp, hH, q⟩ := h
  obtain ⟨u, rfl, ru⟩ := vals1 rv
  cases ru
  obtain ⟨z, hd, ps, rel, dd⟩ := dk_of I.hok hH
  obtain ⟨hv, _, _⟩ := I.hok p _ hp
  obtain ⟨ep, hat⟩ := dd.dictAt
  have hz : ps.length ≤ sizeLine := by rw [← rel.length]; exact z
  refine PySem.W.kdl_call (PySem.W.kdl_values (knd := mixKind X.prog X.w) (kvs := ps) (ep := ep)) (I.ok.hd hc) ⟨hv, hat⟩ hz fun h' tk acc' c' hk hS hacc => ?_
  have e : acc'.toList = ps.map (·.2) := PySem.W.kdl_vals_eq acc'.toList (by rw [Array.length_toList]; exact hacc.1) fun j v e => hacc.2 j v (by rw [← Array.getElem?_toList]; exact e)
  have new : ObjOk X.prog X.w (upd H s.heap.objs.size (.lst (kvs.map (·.2)))) h' s.heap.objs.size (.lst (kvs.map (·.2))) := by
    refine ⟨by rw [List.length_map]; exact z, ps.map (·.2), c', KV.vals rel, ?_⟩
    rw [← e, Array.toArray_toList]; exact hS
  exact ⟨.ref s.heap.objs.size, _, I.laid (t' := tk) hk (Nat.le_refl _) new, rfl, q _ (I.hok.fresh (Nat.le_refl _))⟩
end
theorem IsKs.vals {S : Addr → Prop} {H : Hp} : ∀ {ks : Ks} {ps : List (Key × V)}, IsKs S H (ks.map kvD) ps → IsDs S H (ks.map (·.2)) (ps.map (·.2))
  | [], ps, h => by unfold IsKs at h; subst h; exact .nil
  | p :: r, ps, h => by
    rw [List.map_cons] at h
    unfold IsKs at h
    obtain ⟨q, qs, rfl, h1, h2⟩ := h
    unfold IsK at h1
    exact .cons h1.2 (IsKs.vals h2)
section
variable {G : Gx} {ρ : Rh} {ta tb te : TE} {t : TA} {E : DE} {i j : Nat} {f : Bool} {K : PySem.W.Frag} {Φ : Pd} {Θ : Bool → List PyData → Prop}
theorem EvN.listVals {a : Addr} {ks : Ks} (e : ρ[i]? = some (.dic a f ks)) (h : Θ (f || scAll (ks.map (·.2))) (ks.map (·.2))) : EvN G ρ (tCB rListV (tCons (tBM K "dict" rValues (tVar i) tNil) tNil)) Θ := fun nb σ H Q W z => by
  obtain ⟨x, e1, h1, h2, h3, ps, hp, hd⟩ := W.ok i _ e
  subst h1
  refine ⟨.ref a, e1, .inr (.inr (.inl ⟨rfl, .inl ⟨_, hp⟩⟩)), a, ps, rfl, rfl, hp, fun p hpn => ?_⟩
  have hne : a ≠ p := fun z => by rw [z, hpn] at hp; cases hp
  refine ⟨p, a, ps, rfl, upd_same, by rw [upd_ne hne]; exact hp, fun l hl => ?_⟩
  have s1 : Step G.B H (upd H p (ViewX p a)) := .same W.bag (same_new hpn)
  exact EvN.fin (f := f) W s1 hl ((IsKs.vals hd).keep s1.butS) h z
def rInX (K : PySem.W.Frag) (ng : Bool) : R2 := fun x y H Q => rIn K ng x y H Q ∨ rInD ng x y H Q
end
theorem op_inX {X : Cx} {K : PySem.W.Frag} (hK : X.K = K) (hu : X.A.units + 64 < cLine) : OpR X (compareOp .In) (rInX K false) := by
  intro pins s σ H x y v u Q I rx ry h
  rcases h with h | h
  · exact op_inK hK pins s σ H x y v u Q I rx ry h
  · exact op_inD hu pins s σ H x y v u Q I rx ry h
section
variable {G : Gx} {ρ : Rh} {ta tb te : TE} {t : TA} {E : DE} {i j : Nat} {f : Bool} {K : PySem.W.Frag} {Φ : Pd} {Θ : Bool → List PyData → Prop}
theorem Ev.inXI {ng : Bool} (h : Ev G ρ ta fun _ x => ∃ k : Int, x = .int k ∧ Ev G ρ tb fun _ y => ∃ ns : List Int, y = .list (ns.map .int) ∧ Φ true (.bool (decide (k ∈ ns) != ng))) : Ev G ρ (tOp (rInX K ng) ta tb) Φ := fun nb σ H Q W z =>
  h nb σ H _ W fun f v H1 d ⟨k, e, q⟩ s1 hv => q nb σ H1 _ (W.step s1) fun g u H2 d2 ⟨ns, e2, p⟩ s2 hu => by
    subst e e2
    have hk := hv.ofI
    subst hk
    obtain ⟨a, xs, rfl, na, hx, hd⟩ := hu.ofL
    have ex := isDs_ints_eq hd
    subst ex
    refine Or.inl ⟨a, ns.map V.int, rfl, .inl (.of hx), rfl, ?_, ?_⟩
    · rw [List.all_eq_true]
      intro x hx
      obtain ⟨o, _, rfl⟩ := List.mem_map.mp hx
      rfl
    · have e : inV (V.int k) (ns.map V.int) = decide (k ∈ ns) := by
        unfold inV
        rw [List.any_map, Bool.eq_iff_iff, List.any_eq_true, decide_eq_true_eq]
        constructor
        · rintro ⟨o, m, h⟩
          have : o = k := eq_of_beq h
          exact this ▸ m
        · intro m
          exact ⟨k, m, beq_self_eq_true k⟩
      have e2 : (if ng = true then !inV (V.int k) (ns.map V.int) else inV (V.int k) (ns.map V.int)) = (decide (k ∈ ns) != ng) := by
        rw [e]
        cases ng <;> simp
      rw [e2]
      exact z true _ H2 _ p (s1.trans s2) (.bl _)
theorem Ev.inXD {ng : Bool} (h : Ev G ρ ta fun _ y => ∃ k, y = .int k ∧ Ev G ρ tb fun _ x => ∃ ks : Ks, x = .dict (ks.map kvD) ∧ Φ true (.bool (hasI ks k != ng))) : Ev G ρ (tOp (rInX K ng) ta tb) Φ :=
  Ev.op2 (h.mono fun f x ⟨k, ex, q⟩ => q.mono fun g y ⟨ks, ey, p⟩ nb σ H u v Q W hu hv z => by
    subst ex ey
    unfold IsD at hv
    obtain ⟨a, ps, rfl, n, hp, hd⟩ := hv
    refine Or.inr ⟨a, _, rfl, by rw [hu.ofI]; exact DGet.k (k := .inl k) hp, ?_⟩
    have : (valV ps (Sum.inl k)).isSome = hasI ks k := by rw [← valV_any]; exact IsKs.any k hd
    rw [this]
    exact z true _ H _ p (.refl W.bag) (.bl _))
end
theorem KeyD.fn : ∀ {d e : PyData} {k : Key}, KeyD d k → KeyD e k → d = e
  | .int i, e, k, h, g => by
    have h : k = .inl i := h
    cases e <;> first | exact g.elim | (have g : k = _ := g; rw [h] at g; injection g with g; subst g; rfl) | (have g : k = _ := g; rw [h] at g; cases g)
  | .str i, e, k, h, g => by
    have h : k = .inr i := h
    cases e <;> first | exact g.elim | (have g : k = _ := g; rw [h] at g; injection g with g; subst g; rfl) | (have g : k = _ := g; rw [h] at g; cases g)
  | .none, _, _, h, _ => h.elim
  | .bool _, _, _, h, _ => h.elim
  | .list _, _, _, h, _ => h.elim
  | .tuple _, _, _, h, _ => h.elim
  | .dict _, _, _, h, _ => h.elim
mutual
theorem IsD.fn {S S' : Addr → Prop} {H : Hp} : ∀ {d e : PyData} {v : V}, IsD S H d v → IsD S' H e v → d = e
  | .none, e, v, h, g => by
    unfold IsD at h; subst h
    cases e <;> unfold IsD at g <;> first | rfl | (cases g; done) | (obtain ⟨_, _, z, _⟩ := g; cases z)
  | .bool b, e, v, h, g => by
    unfold IsD at h; subst h
    cases e <;> unfold IsD at g <;> first | (cases g; done) | (cases g; rfl) | (obtain ⟨_, _, z, _⟩ := g; cases z)
  | .int b, e, v, h, g => by
    unfold IsD at h; subst h
    cases e <;> unfold IsD at g <;> first | (cases g; done) | (cases g; rfl) | (obtain ⟨_, _, z, _⟩ := g; cases z)
  | .str b, e, v, h, g => by
    unfold IsD at h; subst h
    cases e <;> unfold IsD at g <;> first | (cases g; done) | (cases g; rfl) | (obtain ⟨_, _, z, _⟩ := g; cases z)
  | .list ds, e, v, h, g => by
    unfold IsD at h
    obtain ⟨a, xs, rfl, n, hx, hd⟩ := h
    cases e <;> unfold IsD at g <;> first | (cases g; done) | skip
    all_goals (obtain ⟨a', xs', z, n', hx', hd'⟩ := g; cases z; rw [hx] at hx'; cases hx')
    rw [IsDs.fn hd hd']
  | .tuple ds, e, v, h, g => by
    unfold IsD at h
    obtain ⟨a, xs, rfl, n, hx, hd⟩ := h
    cases e <;> unfold IsD at g <;> first | (cases g; done) | skip
    all_goals (obtain ⟨a', xs', z, n', hx', hd'⟩ := g; cases z; rw [hx] at hx'; cases hx')
    rw [IsDs.fn hd hd']
  | .dict ds, e, v, h, g => by
    unfold IsD at h
    obtain ⟨a, xs, rfl, n, hx, hd⟩ := h
    cases e <;> unfold IsD at g <;> first | (cases g; done) | skip
    all_goals (obtain ⟨a', xs', z, n', hx', hd'⟩ := g; cases z; rw [hx] at hx'; cases hx')
    rw [IsKs.fn hd hd']
theorem IsDs.fn {S S' : Addr → Prop} {H : Hp} : ∀ {ds es : List PyData} {vs : List V}, IsDs S H ds vs → IsDs S' H es vs → ds = es
  | [], es, vs, h, g => by
    unfold IsDs at h; subst h
    cases es with
    | nil => rfl
    | cons e es => unfold IsDs at g; obtain ⟨_, _, z, _⟩ := g; cases z
  | d :: ds, es, vs, h, g => by
    unfold IsDs at h
    obtain ⟨y, ys, rfl, h1, h2⟩ := h
    cases es with
    | nil => unfold IsDs at g; cases g
    | cons e es =>
      unfold IsDs at g
      obtain ⟨y', ys', z, g1, g2⟩ := g
      cases z
      rw [IsD.fn h1 g1, IsDs.fn h2 g2]
theorem IsKs.fn {S S' : Addr → Prop} {H : Hp} : ∀ {ds es : List (PyData × PyData)} {vs : List (Key × V)}, IsKs S H ds vs → IsKs S' H es vs → ds = es
  | [], es, vs, h, g => by
    unfold IsKs at h; subst h
    cases es with
    | nil => rfl
    | cons e es => unfold IsKs at g; obtain ⟨_, _, z, _⟩ := g; cases z
  | d :: ds, es, vs, h, g => by
    unfold IsKs at h
    obtain ⟨y, ys, rfl, h1, h2⟩ := h
    cases es with
    | nil => unfold IsKs at g; cases g
    | cons e es =>
      unfold IsKs at g
      obtain ⟨y', ys', z, g1, g2⟩ := g
      cases z
      rw [IsK.fn h1 g1, IsKs.fn h2 g2]
theorem IsK.fn {S S' : Addr → Prop} {H : Hp} : ∀ {d e : PyData × PyData} {v : Key × V}, IsK S H d v → IsK S' H e v → d = e
  | (k, d), (k', e), v, h, g => by
    unfold IsK at h g
    rw [KeyD.fn h.1 g.1, IsD.fn h.2 g.2]
end
mutual
theorem IsD.out {S : Addr → Prop} {H : Hp} {c : Addr} {D : PyData} (hc : IsD S H D (.ref c)) : ∀ {d : PyData} {v : V}, sizeOf d < sizeOf D → IsD S H d v → IsD (fun x => S x ∨ x = c) H d v
  | .none, _, _, h => by unfold IsD at h ⊢; exact h
  | .bool _, _, _, h => by unfold IsD at h ⊢; exact h
  | .int _, _, _, h => by unfold IsD at h ⊢; exact h
  | .str _, _, _, h => by unfold IsD at h ⊢; exact h
  | .list ds, v, hs, h => by
    have h0 := h
    unfold IsD at h ⊢
    obtain ⟨a, xs, rfl, n, hx, hd⟩ := h
    refine ⟨a, xs, rfl, fun z => z.elim n fun z => ?_, hx, IsDs.out hc (by simp at hs; omega) hd⟩
    subst z
    rw [IsD.fn hc h0] at hs
    exact absurd hs (Nat.lt_irrefl _)
  | .tuple ds, v, hs, h => by
    have h0 := h
    unfold IsD at h ⊢
    obtain ⟨a, xs, rfl, n, hx, hd⟩ := h
    refine ⟨a, xs, rfl, fun z => z.elim n fun z => ?_, hx, IsDs.out hc (by simp at hs; omega) hd⟩
    subst z
    rw [IsD.fn hc h0] at hs
    exact absurd hs (Nat.lt_irrefl _)
  | .dict ds, v, hs, h => by
    have h0 := h
    unfold IsD at h ⊢
    obtain ⟨a, xs, rfl, n, hx, hd⟩ := h
    refine ⟨a, xs, rfl, fun z => z.elim n fun z => ?_, hx, IsKs.out hc (by simp at hs; omega) hd⟩
    subst z
    rw [IsD.fn hc h0] at hs
    exact absurd hs (Nat.lt_irrefl _)
theorem IsDs.out {S : Addr → Prop} {H : Hp} {c : Addr} {D : PyData} (hc : IsD S H D (.ref c)) : ∀ {ds : List PyData} {vs : List V}, sizeOf ds < sizeOf D → IsDs S H ds vs → IsDs (fun x => S x ∨ x = c) H ds vs
  | [], _, _, h => by unfold IsDs at h ⊢; exact h
  | d :: ds, _, hs, h => by
    unfold IsDs at h ⊢
    obtain ⟨y, ys, e, h1, h2⟩ := h
    exact ⟨y, ys, e, IsD.out hc (by simp at hs; omega) h1, IsDs.out hc (by simp at hs; omega) h2⟩
theorem IsKs.out {S : Addr → Prop} {H : Hp} {c : Addr} {D : PyData} (hc : IsD S H D (.ref c)) : ∀ {ds : List (PyData × PyData)} {vs : List (Key × V)}, sizeOf ds < sizeOf D → IsKs S H ds vs → IsKs (fun x => S x ∨ x = c) H ds vs
  | [], _, _, h => by unfold IsKs at h ⊢; exact h
  | d :: ds, _, hs, h => by
    unfold IsKs at h ⊢
    obtain ⟨y, ys, e, h1, h2⟩ := h
    exact ⟨y, ys, e, IsK.out hc (by simp at hs; omega) h1, IsKs.out hc (by simp at hs; omega) h2⟩
theorem IsK.out {S : Addr → Prop} {H : Hp} {c : Addr} {D : PyData} (hc : IsD S H D (.ref c)) : ∀ {d : PyData × PyData} {v : Key × V}, sizeOf d < sizeOf D → IsK S H d v → IsK (fun x => S x ∨ x = c) H d v
  | (k, d), _, hs, h => by
    unfold IsK at h ⊢
    exact ⟨h.1, IsD.out hc (by simp at hs; omega) h.2⟩
end
def EvF (G : Gx) (ρ : Rh) (te : TE) (Φ : PyData → Prop) : Prop := ∀ nb σ H (Q : VK), Wd G nb ρ σ H → (∀ v H' d, Φ d → Step G.B H H' → IsD (fun a => H a ≠ none) H' d v → Q v H') → te σ H Q
section
variable {G : Gx} {ρ : Rh} {ta tb te : TE} {t : TA} {E : DE} {i j k m : Nat} {f : Bool} {K : PySem.W.Frag} {Φ : PyData → Prop}
theorem Wd.live_of {nb : Addr → Prop} {σ : St} {H H1 : Hp} {a : Addr} (W : Wd G nb ρ σ H) (s : Step G.B H H1) (h : H a ≠ none) : H1 a ≠ none := fun e => h (W.none_of s e)
theorem EvF.callB {n : Nat} {F : DF} (hm : MonoF F) (e : ρ[i]? = some .bag) (h : Av G ρ t fun es => es.length + 1 = n ∧ F (es.map (·.2)) fun f d => f = true ∧ Φ d) : EvF G ρ (tCall (spB n F) [] E0 (tCons (tVar i) t)) Φ := fun nb σ H Q W z => by
  obtain ⟨b, l, hB, e1, B⟩ := W.theBag e
  refine ⟨.ref b, e1, h nb σ H _ W fun es vs H1 ⟨hl, p⟩ s1 q1 => ?_⟩
  have W1 := W.step s1
  show spB n F ((V.ref b :: vs) ++ []) H1 Q E0
  rw [List.append_nil]
  have hb : ∀ f, G.S nb f b := fun f => .inr (.inr (.inl fun n => n b l hB rfl))
  refine ⟨by rw [List.length_cons, q1.len, hl], b, l, vs, G.S nb (allF es), es.map (·.2), rfl, W1.bag b l hB, W1.liveS, hb _, q1.all fun z => z, hm _ _ _ p fun f d ⟨hf, hp⟩ v H' bt B' hd => z v H' d hp (s1.trans (.ofBut hB bt B')) (hd.av fun a q => ?_)⟩
  exact .inr ⟨hf, W.live_of s1 q⟩
theorem EvF.callD {n : Nat} {F : DF} (hm : MonoF F) (h : Av G ρ t fun es => es.length = n ∧ F (es.map (·.2)) fun f d => f = true ∧ Φ d) : EvF G ρ (tCall (spD n F) [] E0 t) Φ := fun nb σ H Q W z =>
  h nb σ H _ W fun es vs H1 ⟨hl, p⟩ s1 q1 => by
    have W1 := W.step s1
    rw [List.append_nil]
    refine ⟨by rw [q1.len, hl], G.S nb (allF es), es.map (·.2), W1.liveS, q1.all fun z => z, hm _ _ _ p fun f d ⟨hf, hp⟩ v H' sm hd => z v H' d hp (s1.trans (.same W1.bag sm)) (hd.av fun a q => ?_)⟩
    exact .inr ⟨hf, W.live_of s1 q⟩
end
end L2

set_option maxRecDepth 100000
set_option maxHeartbeats 1000000
namespace L2
open PySem PySem.Spec PyProof.Rows
theorem cells_inj : ∀ {names : List (Str × NameKind)} {n : Nat} {acc : List (Str × Addr)}, (∀ x y c, acc.lookup x = some c → acc.lookup y = some c → x = y) → (∀ x c, acc.lookup x = some c → c < n) → ∀ {x y : Str} {c : Addr}, (cellsFrom n names acc).lookup x = some c → (cellsFrom n names acc).lookup y = some c → x = y
  | [], n, acc, h1, h2, x, y, c, e1, e2 => h1 x y c e1 e2
  | (m, k) :: r, n, acc, h1, h2, x, y, c, e1, e2 => by
    unfold cellsFrom at e1 e2
    by_cases hk : (k == .cell) = true
    · rw [if_pos hk] at e1 e2
      have look : ∀ {z : Str} {d : Addr}, ((m, n) :: acc).lookup z = some d → (z = m ∧ d = n) ∨ acc.lookup z = some d := fun {z d} e => by
        by_cases hz : (z == m) = true
        · rw [List.lookup_cons, hz] at e
          cases e
          exact .inl ⟨by simpa using hz, rfl⟩
        · have hz : (z == m) = false := by simpa using hz
          rw [List.lookup_cons, hz] at e
          exact .inr e
      refine cells_inj (names := r) (n := n + 1) (acc := (m, n) :: acc) (fun x y c g1 g2 => ?_) (fun x c g => ?_) e1 e2
      · rcases look g1 with ⟨a1, a2⟩ | a
        · rcases look g2 with ⟨b1, b2⟩ | b
          · rw [a1, b1]
          · rw [a2] at b; exact absurd (h2 _ _ b) (Nat.lt_irrefl _)
        · rcases look g2 with ⟨b1, b2⟩ | b
          · rw [b2] at a; exact absurd (h2 _ _ a) (Nat.lt_irrefl _)
          · exact h1 _ _ _ a b
      · rcases look g with ⟨a1, a2⟩ | a
        · rw [a2]; exact Nat.lt_succ_self n
        · exact Nat.lt_succ_of_lt (h2 _ _ a)
    · rw [if_neg hk] at e1 e2
      exact cells_inj (names := r) h1 h2 e1 e2
theorem cells_keep {x : Str} : ∀ {names : List (Str × NameKind)} {n : Nat} {acc : List (Str × Addr)}, (∀ k, (x, k) ∈ names → k ≠ .cell) → (cellsFrom n names acc).lookup x = acc.lookup x
  | [], n, acc, h => rfl
  | (m, k) :: r, n, acc, h => by
    unfold cellsFrom
    by_cases hk : (k == .cell) = true
    · rw [if_pos hk, cells_keep (names := r) fun k hk => h k (List.mem_cons_of_mem _ hk)]
      have hne : (x == m) = false := by
        rw [beq_eq_false_iff_ne]
        intro z
        subst z
        exact h k (List.mem_cons_self ..) (by simpa using hk)
      rw [List.lookup_cons, hne]
    · rw [if_neg hk]
      exact cells_keep (names := r) fun k hk => h k (List.mem_cons_of_mem _ hk)
theorem cells_up {x : Str} {lo : Nat} : ∀ {names : List (Str × NameKind)} {n : Nat} {acc : List (Str × Addr)} {c : Addr}, lo ≤ n → ((∃ d, acc.lookup x = some d ∧ lo ≤ d) ∨ (x, NameKind.cell) ∈ names) → (cellsFrom n names acc).lookup x = some c → lo ≤ c
  | [], n, acc, c, hl, h, e => by
    rcases h with ⟨d, e', z⟩ | h
    · have e : acc.lookup x = some c := e
      rw [e'] at e; cases e; exact z
    · cases h
  | (m, k) :: r, n, acc, c, hl, h, e => by
    unfold cellsFrom at e
    by_cases hk : (k == .cell) = true
    · rw [if_pos hk] at e
      refine cells_up (names := r) (Nat.le_succ_of_le hl) ?_ e
      by_cases hx : (x == m) = true
      · exact .inl ⟨n, by rw [List.lookup_cons, hx], hl⟩
      · have hx' : (x == m) = false := by simpa using hx
        rcases h with ⟨d, e', z⟩ | h
        · exact .inl ⟨d, by rw [List.lookup_cons, hx']; exact e', z⟩
        · rcases List.mem_cons.mp h with z | z
          · cases z; simp at hx
          · exact .inr z
    · rw [if_neg hk] at e
      refine cells_up (names := r) hl ?_ e
      rcases h with h | h
      · exact .inl h
      · rcases List.mem_cons.mp h with z | z
        · cases z; exact absurd (by rfl) hk
        · exact .inr z
theorem cells_new {x : Str} {c : Addr} : ∀ {names : List (Str × NameKind)} {n : Nat} {acc : List (Str × Addr)} {h : Heap}, h.objs.size = n → (cellsFrom n names acc).lookup x = some c → (n ≤ c ∧ (pushCells h names).IsCell c none) ∨ acc.lookup x = some c
  | [], n, acc, h, hn, e => .inr e
  | (m, k) :: r, n, acc, h, hn, e => by
    unfold cellsFrom at e
    unfold pushCells
    by_cases hk : (k == .cell) = true
    · rw [if_pos hk] at e ⊢
      rcases cells_new (names := r) (h := h.push { cls := .type "cell", data := .cell none }) (by rw [Heap.size_push, hn]) e with ⟨z1, z2⟩ | z
      · exact .inl ⟨Nat.le_of_succ_le z1, z2⟩
      · by_cases hx : (x == m) = true
        · rw [List.lookup_cons, hx] at z
          cases z
          refine .inl ⟨Nat.le_refl _, ?_⟩
          subst hn
          exact ⟨_, pushCells_keeps _ _ _ _ (Heap.get?_push_size _ rfl), rfl⟩
        · have hx' : (x == m) = false := by simpa using hx
          rw [List.lookup_cons, hx'] at z
          exact .inr z
    · rw [if_neg hk] at e ⊢
      exact cells_new (names := r) hn e
theorem relabel_lookC {env : Env} : ∀ {l : List (Str × NameKind)} {x : Str} {k : NameKind},
    (l.map fun (n, k) => if (k == NameKind.free && env.scope.kind == .function && env.kindOf n == some .cell) then (n, NameKind.cell) else (n, k)).lookup x = some k → k = .cell ∨ k = .free → l.lookup x = some .free ∨ l.lookup x = some .cell
  | [], _, _, h, _ => by simp at h
  | (n, q) :: r, x, k, h, hk => by
    have ih := relabel_lookC (env := env) (l := r) (x := x) (k := k)
    rw [List.map_cons] at h
    dsimp only at h
    by_cases hx : (x == n) = true
    · simp only [List.lookup_cons, hx]
      by_cases hq : (q == NameKind.free && env.scope.kind == .function && env.kindOf n == some .cell) = true
      · have : q = .free := by
          simp only [Bool.and_eq_true] at hq
          simpa using hq.1.1
        rw [this]; exact .inl rfl
      · rw [if_neg hq] at h
        simp only [List.lookup_cons, hx] at h
        have hqk : q = k := Option.some.inj h
        rcases hk with e | e
        · rw [hqk, e]; exact .inr rfl
        · rw [hqk, e]; exact .inl rfl
    · have hx' : (x == n) = false := by simpa using hx
      simp only [List.lookup_cons, hx']
      refine ih ?_ hk
      by_cases hq : (q == NameKind.free && env.scope.kind == .function && env.kindOf n == some .cell) = true
      · rw [if_pos hq] at h
        simp only [List.lookup_cons, hx'] at h
        exact h
      · rw [if_neg hq] at h
        simp only [List.lookup_cons, hx'] at h
        exact h
def compOkBC (sx : Scope) (NX : List Str) (scope : Scope) (N : List Str) (mp : List (Option Nat)) : Bool :=
  (scope.kind == .function) && scope.names.all (fun y => y.2 != .cell || scope.names.lookup y.1 != some .free) && scope.names.all (fun y => y.2 != .local || scope.names.lookup y.1 == some .local) &&
  scope.names.all (fun y => y.2 != .free || sx.names.lookup y.1 == some .cell || sx.names.lookup y.1 == some .free) && (mp.length == N.length) &&
  ((N.zip mp).all fun p => match p.2 with | none => true | some j => NX[j]? == some p.1 && scope.names.lookup p.1 == some .free)
structure CompOkC (sx : Scope) (NX : List Str) (scope : Scope) (N : List Str) (mp : List (Option Nat)) : Prop where
  kind : scope.kind = .function
  own : ∀ x, scope.names.lookup x = some .free → ∀ k, (x, k) ∈ scope.names → k ≠ .cell
  names : ∀ y ∈ scope.names, y.2 = .local → scope.names.lookup y.1 = some .local
  free : ∀ y ∈ scope.names, y.2 = .free → sx.names.lookup y.1 = some .cell ∨ sx.names.lookup y.1 = some .free
  len : mp.length = N.length
  look : ∀ (i j : Nat) (x : Str), mp[i]? = some (some j) → N[i]? = some x → NX[j]? = some x ∧ scope.names.lookup x = some .free
theorem CompOkC.of {sx : Scope} {NX : List Str} {scope : Scope} {N : List Str} {mp : List (Option Nat)} (h : compOkBC sx NX scope N mp = true) : CompOkC sx NX scope N mp := by
  unfold compOkBC at h
  simp only [Bool.and_eq_true, List.all_eq_true] at h
  obtain ⟨⟨⟨⟨⟨h1, h2⟩, h3⟩, h4⟩, h5⟩, h6⟩ := h
  refine ⟨by simpa using h1, fun x e k m z => ?_, fun y hy e => ?_, fun y hy e => ?_, by simpa using h5, fun i j x e1 e2 => ?_⟩
  · subst z
    have := h2 (x, .cell) m
    simp [e] at this
  · have := h3 y hy
    simpa [e] using this
  · have := h4 y hy
    simpa [e] using this
  · have hm : (x, some j) ∈ N.zip mp := by
      have : (N.zip mp)[i]? = some (x, some j) := by
        rw [List.getElem?_zip_eq_some]; exact ⟨e2, e1⟩
      exact List.mem_of_getElem? this
    have := h6 _ hm
    simpa using this


def clC (X : Cx) (scope : Scope) (C : Addr) : List (Str × Addr) := cellsFrom (C + 1) scope.names (clOf X.env.cells scope.names [])
def compXC (X : Cx) (scope : Scope) (C : Addr) (N : List Str) (s₀ : Shared) (H₀ : Hp) (fp : List Addr) : Cx :=
  { X with N := N, s₀ := s₀, H₀ := H₀, env := compEnvC scope (clC X scope C) C X.env, outer := X.stack, ex := fp, fn := fun x => scope.names.lookup x == some .cell, pn := [], xe := fun _ _ => False }
theorem newEnvC {M : Model} {A : Around} {E : Value → Shared → Prop} {s : Shared} {scope : Scope} {globals : Addr} {closure : List (Str × Addr)} {qual : Str} {outer : Env} {builtins : Addr} {Q : Env → Shared → Prop}
    (hQ : ∀ h', h' = pushCells (s.heap.push { cls := .type "dict", data := .dict #[] }) scope.names → h'.Ns s.heap.objs.size (fun _ => none) → (∀ b o, s.heap.get? b = some o → h'.get? b = some o) →
      Q (newEnv scope s.heap.objs.size globals (cellsFrom (s.heap.objs.size + 1) scope.names closure) qual none .none (some outer) builtins) { s with heap := h' }) :
    wpAny M A (newFunctionEnv scope globals closure [] qual none .none (some outer) builtins) Q E s := by
  simp only [newFunctionEnv, Option.isSome_some, if_true]
  refine wpAny_bind (wpAny_alloc ?_)
  refine wpAny_bind (wpAny_layCells _ (fun name kind cells => by cases hkc : kind == NameKind.cell <;> simp [hkc]) _ _ _ _ ?_)
  rw [show ({ s with heap := s.heap.push { cls := .type "dict", data := .dict #[] } } : Shared).heap.objs.size = s.heap.objs.size + 1 from Heap.size_push ..]
  rw [List.forIn_nil]
  refine wpAny_bind (wpAny_pure (wpAny_pure ?_))
  exact hQ _ rfl ((Heap.Ns.new s.heap (.type "dict")).keeps (pushCells_keeps _ _)) fun b o e => pushCells_keeps _ _ b o (Heap.get?_push_of_some _ e)
section
variable {X : Cx}
theorem comp_coreC {elt iter tg : Expr} {ifs : List Expr} {scope : Scope} {pos pos' : Pos} {N : List Str} {mp : List (Option Nat)} {wi : TI} {g : TG} {tc : TT} {te : TE} {use : Option (Value → Sem Unit)}
    {pins : List (Addr × Obj)} {s : Shared} {σ : St} {H : Hp} {Q : VK} {QQ : Value → Shared → Prop}
    (ok : CompOkC X.env.scope X.N scope N mp) (hc : X.calm = true) (hi : PI X tg iter wi)
    (hb : ∀ C s₀ H₀ fp, PG (compXC X scope C N s₀ H₀ fp) tg g ∧ PTs (compXC X scope C N s₀ H₀ fp) ifs tc ∧ PE (compXC X scope C N s₀ H₀ fp) elt te)
    (hs : ∀ x, foldedSetIterable iter X.env x = pure x) (I : Inv X pins σ H s) (h : tComp wi g tc te mp σ H Q)
    (fin : ∀ acc C H' s' m, Inv X pins σ H' s' → FpOk X pins H' C → s'.heap.Ns C m → Q (.ref acc) H' → compPost (model X.prog X.w) X.A X.xe use QQ (.ref acc) C (.ok .next) s') :
    wpAny (model X.prog X.w) X.A (comprehension (.ListComp elt [⟨tg, iter, ifs, 0⟩] scope pos) scope X.env pos' (newList []) false (eval iter X.env) use) QQ X.xe s := by
  have hfree : ∀ x ∈ scope.names, x.2 = .free → ∃ a, X.env.cells.lookup x.1 = some a := fun x hx e => I.ok.has x.1 (ok.free x hx e)
  refine wpAny_comprehension_free (use := use) rfl hs (closureFor_eq hfree) ok.kind ok.names (thn (hi pins s σ H _ I h) fun v s1 h1 => thn h1 fun itv s2 h2 => ?_)
  obtain ⟨it, fp, tn, J, H2, e, I2, T, st2, f2, hW⟩ := h2
  subst e
  refine wpAny_newObj_type (newEnvC (fun h₁ hh₁ hns₁ old₁ => ?_))
  dsimp only at hns₁ hh₁ old₁ ⊢
  have I3 := I2.lnew (its := []) (ys := []) (t' := s2.toks) .nil (Nat.zero_le _)
  have hW := hW s2.heap.objs.size I2.fresh
  obtain ⟨W, ⟨m0, w0⟩, turn⟩ := hW
  generalize hHP : s2.heap.push { cls := .type "list", dict := none, data := .seq ([] : List Value).toArray } = HP at hns₁ hh₁ old₁ ⊢
  have I3 : Inv X pins σ (upd H2 s2.heap.objs.size (.lst [])) { s2 with heap := HP } := by rw [← hHP]; exact I3
  generalize hH3 : upd H2 s2.heap.objs.size (.lst []) = H3 at I3 w0
  have hC : HP.objs.size = s2.heap.objs.size + 1 := by rw [← hHP, Heap.size_push]
  have old := old₁
  have flt : ∀ b ∈ fp, b < s2.heap.objs.size := fun b hb => by
    obtain ⟨o, e, _⟩ := T.obj 0 _ st2 b hb
    exact Heap.lt_size e
  have fH3 : ∀ b ∈ fp, H3 b = none := fun b hb => by
    rw [← hH3, upd_ne (Nat.ne_of_lt (flt b hb))]
    exact (f2 b hb).1
  have clsub : ∀ {x : Str} {c : Addr}, (clC X scope HP.objs.size).lookup x = some c → (HP.objs.size + 1 ≤ c ∧ h₁.IsCell c none) ∨ X.env.cells.lookup x = some c := fun {x c} e => by
    rcases cells_new (h := HP.push { cls := .type "dict", data := .dict #[] }) (by rw [Heap.size_push]) e with z | z
    · rw [hh₁]; exact .inl z
    · exact .inr (clOf_sub (fun y d q => by simp at q) z)
  have cllt : ∀ {x : Str} {c : Addr}, X.env.cells.lookup x = some c → c < HP.objs.size := fun {x c} e => by
    obtain ⟨v, o, ho, hd⟩ := I3.cell x c e
    exact Heap.lt_size ho
  have yok : (compXC X scope HP.objs.size N { s2 with heap := HP } H3 fp).Ok := by
    refine ⟨I2.ok.mod, ok.kind, I2.ok.glob, I2.ok.blt, Nat.le_refl _, fun x y c e1 e2 => ?_, fun x hx => ?_, fun x c e1 e2 => ?_, I2.ok.hd, I2.ok.frames, .inl rfl, fun b hb => ?_, I3.bs, Nat.le_trans I3.ok.bsz I3.sz, fun b o e hb => ?_, fun b hb hz => ?_, I3.stack, I3.stkFree⟩
    · refine cells_inj (n := HP.objs.size + 1) (acc := clOf X.env.cells scope.names []) (fun x y c g1 g2 => I2.ok.inj x y c (clOf_sub (fun y d q => by simp at q) g1) (clOf_sub (fun y d q => by simp at q) g2)) (fun x c g => Nat.lt_succ_of_lt (cllt (clOf_sub (fun y d q => by simp at q) g))) e1 e2
    · have hx' : scope.names.lookup x = some .free ∨ scope.names.lookup x = some .cell := by
        rcases hx with hx | hx
        · exact relabel_lookC hx (.inl rfl)
        · exact relabel_lookC hx (.inr rfl)
      rcases hx' with hx' | hx'
      · have hm := PySem.mem_of_lookup hx'
        obtain ⟨a, ha⟩ := hfree _ hm rfl
        refine ⟨a, ?_⟩
        show (clC X scope HP.objs.size).lookup x = some a
        unfold clC
        rw [cells_keep (ok.own x hx')]
        exact clOf_look hm ha
      · exact Option.isSome_iff_exists.mp (PySem.W.cellsFrom_some _ _ _ (.inl hx'))
    · have e1 : scope.names.lookup x = some .cell := by
        have e1 : (scope.names.lookup x == some NameKind.cell) = true := e1
        simpa using e1
      exact Nat.le_of_succ_le (cells_up (lo := HP.objs.size + 1) (Nat.le_refl _) (.inr (PySem.mem_of_lookup e1)) e2)
    · refine ⟨fun z => ?_, fun x c e => ?_⟩
      rotate_left
      · rcases clsub e with ⟨z, _⟩ | z
        · have q := flt b hb
          intro w
          rw [hC] at z
          rw [w] at z
          exact absurd (Nat.lt_of_lt_of_le (Nat.lt_succ_of_lt (Nat.lt_succ_of_lt q)) z) (Nat.lt_irrefl _)
        · exact (f2 b hb).2.2.2.2.1 x c z
      have z' : b = HP.objs.size := z
      have q := flt b hb
      rw [z', hC] at q
      exact absurd q (Nat.not_lt.mpr (Nat.le_succ _))
    · rcases (f2 b hb).2.2.2.1 with z | z
      · exact I2.ok.noex b o e z
      · exact absurd (Nat.lt_of_lt_of_le (Heap.lt_size (I2.ok.bs b o e).1) z) (Nat.lt_irrefl _)
    · rcases List.mem_cons.mp (I2.stkSub b hz) with z | z
      · exact (f2 b hb).2.1 z
      · exact (f2 b hb).2.2.1 z
  have IY : Inv (compXC X scope HP.objs.size N { s2 with heap := HP } H3 fp) [] (startC mp σ) H3 { s2 with heap := h₁ } := by
    refine ⟨yok, rfl, I2.bare, Un.kept old, ⟨_, hns₁, fun i x v e1 e2 e3 => ?_⟩, fun x c e => ?_, I3.hok.fresh (Nat.le_refl _), fun x c e => ?_, fun p hp => absurd (show p ∈ ([] : List (Addr × Obj)) from hp) (by simp), I3.hok.kept old, ?_⟩
    · have hj : ∃ j, mp[i]? = some (some j) ∧ σ[j]? = some (some v) := by
        unfold startC at e2
        rw [List.getElem?_map] at e2
        cases q : mp[i]? with
        | none => rw [q] at e2; cases e2
        | some o =>
          rw [q] at e2
          cases o with
          | none => cases e2
          | some j =>
            refine ⟨j, rfl, ?_⟩
            have e2 : (match σ[j]? with | some v => v | none => none) = some v := Option.some.inj e2
            cases r : σ[j]? with
            | none => rw [r] at e2; cases e2
            | some u =>
              rw [r] at e2
              have e2 : u = some v := e2
              rw [e2]
      obtain ⟨j, hj1, hj2⟩ := hj
      obtain ⟨l1, l2⟩ := ok.look i j x hj1 e1
      have hm := PySem.mem_of_lookup l2
      have kx := ok.free _ hm rfl
      obtain ⟨mm, _, hl⟩ := I3.loc
      obtain ⟨u, ru, lk⟩ := hl j x v l1 hj2 (kx.elim (fun z => .inr (.inl z)) fun z => .inr (.inr z))
      refine ⟨u, ru, .inr ⟨relabel_free l2, ?_⟩⟩
      rcases lk with ⟨k, _⟩ | ⟨_, c, e, z⟩
      · exfalso
        have k' : X.env.scope.names.lookup x = some .local := k
        rcases kx with kx | kx
        · rw [k'] at kx; cases kx
        · rw [k'] at kx; cases kx
      · refine ⟨c, (cells_keep (ok.own x l2)).trans (clOf_look hm e), ?_⟩
        obtain ⟨o, ho, hd⟩ := z
        exact ⟨o, old c o ho, hd⟩
    · rcases clsub e with ⟨_, z⟩ | z
      · exact ⟨none, z⟩
      · obtain ⟨v, o, ho, hd⟩ := I3.cell x c z
        exact ⟨v, o, old c o ho, hd⟩
    · rcases clsub e with ⟨z, _⟩ | z
      · exact I3.hok.fresh (Nat.le_of_succ_le z)
      · exact I3.freeC x c z
    · show (startC mp σ).length = N.length
      unfold startC
      rw [List.length_map, ok.len]
  have stat : ∀ {H' : Hp}, (∀ b ∈ fp, H' b = none) → ∀ b ∈ fp, FpOk (compXC X scope HP.objs.size N { s2 with heap := HP } H3 fp) [] H' b := fun {H'} hn b hb =>
    ⟨hn b hb, (yok.exf b hb).1, yok.exfs b hb, .inl hb, (yok.exf b hb).2, fun p hp => absurd (show p ∈ ([] : List (Addr × Obj)) from hp) (by simp)⟩
  have stY : tn 0 h₁ := T.keep 0 _ _ st2 fun b hb o e => old b o (by rw [← hHP]; exact Heap.get?_push_of_some _ e)
  have loop : codeAny (model X.prog X.w) X.A (.compLoop (.ListComp elt [⟨tg, iter, ifs, 0⟩] scope pos) 0 (.ref it) (.ref s2.heap.objs.size) (compEnvC scope (clC X scope HP.objs.size) HP.objs.size X.env))
      (compPost (model X.prog X.w) X.A X.xe use QQ (.ref s2.heap.objs.size) HP.objs.size) { s2 with heap := h₁ } := by
    obtain ⟨hg, ht, he⟩ := hb HP.objs.size { s2 with heap := HP } H3 fp
    generalize hY : compXC X scope HP.objs.size N { s2 with heap := HP } H3 fp = Y at hg ht he IY stat
    have yp : Y.prog = X.prog := by rw [← hY]; rfl
    have yw : Y.w = X.w := by rw [← hY]; rfl
    have yK : Y.K = X.K := by rw [← hY]; rfl
    have yA : Y.A = X.A := by rw [← hY]; rfl
    have yc : Y.calm = true := by rw [← hY]; exact hc
    have yx : Y.xe = fun _ _ => False := by rw [← hY]; rfl
    have yenv : Y.env = compEnvC scope (clC X scope HP.objs.size) HP.objs.size X.env := by rw [← hY]; rfl
    rw [← yenv]
    refine codeAny_compLoop_own (fun n s' => ∃ i σ' H', Inv Y [] σ' H' s' ∧ tn i s'.heap ∧ (∀ b ∈ fp, H' b = none) ∧ W i n σ' H') ?_ m0 ⟨0, _, H3, IY, stY, fH3, w0⟩
    rintro n s3 ⟨i, σ3, H4, I4, st3, fr3, w3⟩
    rcases turn i n σ3 H4 w3 with ⟨stop, qn⟩ | ⟨go, Nx, hN, step⟩
    · have q0 := T.done Y yp yw yK yc i [] s3 σ3 H4 (fun _ _ => False) I4 (stat fr3) st3 stop
      rw [yA] at q0
      refine thn q0 fun r s4 ⟨hr, I5⟩ => ?_
      subst hr
      show compPost (model X.prog X.w) X.A X.xe use QQ (.ref s2.heap.objs.size) HP.objs.size (.ok .next) s4
      obtain ⟨m, hm, _⟩ := id I5.loc
      have yl : Y.env.locals = HP.objs.size := by rw [yenv]; rfl
      rw [yl] at hm
      have fC : H4 HP.objs.size = none := by have := I5.free; rw [yl] at this; exact this
      have ub := I5.base
      have ub' : Un (frs X.stack) fp H3 H4 HP s4.heap := by rw [← hY] at ub; exact ub
      have hos : s4.os = s2.os := by have := I5.os; rw [← hY] at this; exact this
      have hok5 : HOk X.prog X.w H4 s4.heap := by have := I5.hok; rw [yp, yw] at this; exact this
      have IX : Inv X pins σ H4 s4 := I3.call' (ch := fp) hos ub' hok5 I5.bare fun b hb => ⟨(f2 b hb).2.2.2.1, (f2 b hb).2.1, (f2 b hb).2.2.2.2.1, (f2 b hb).2.2.2.2.2⟩
      exact fin _ _ H4 s4 m IX (I3.fpOk (Nat.le_refl _) fC) hm qn
    · have q0 := T.item Y yp yw yK yc i [] s3 σ3 H4 (fun _ _ => False) I4 (stat fr3) st3 go
      rw [yA] at q0
      refine thn q0 fun r s4 ⟨u, hr, h4⟩ => ?_
      subst hr
      refine thn h4 fun _ s5 ⟨x, H5, I5, r5, y5, st5, fr5⟩ => ?_
      have I5' := I5.pinned (stat fr5) (T.obj _ _ st5)
      rw [← yx, ← yp, ← yw, ← yA]
      refine thn (hg _ s5 σ3 H5 x u _ I5' r5 (step x H5 y5)) fun _ s6 ⟨σ6, H6, I6, q6⟩ => ?_
      refine thn (ht _ s6 σ6 H6 _ I6 q6) fun b s7 ⟨H7, I7, q7⟩ => ?_
      have again : ∀ {σ8 : St} {H8 : Hp} {s8 : Shared}, Inv Y ([] ++ pinsAt fp s5.heap) σ8 H8 s8 → Nx σ8 H8 → ∃ m, m < n ∧ ∃ i σ' H', Inv Y [] σ' H' s8 ∧ tn i s8.heap ∧ (∀ b ∈ fp, H' b = none) ∧ W i m σ' H' := fun {σ8 H8 s8} I8 n8 => by
        obtain ⟨m', hm, w8⟩ := hN σ8 H8 n8
        refine ⟨m', hm, i + 1, σ8, H8, I8.unpinned, T.keep _ _ _ st5 fun b hb o e => (I8.pin (b, o) (List.mem_append_right _ (List.mem_append_right _ (mem_pinsAt hb e)))).1, fun b hb => ?_, w8⟩
        obtain ⟨o, e, d⟩ := T.obj _ _ st5 b hb
        exact (I8.pin (b, o) (List.mem_append_right _ (List.mem_append_right _ (mem_pinsAt hb e)))).2.1
      cases b with
      | false =>
        rw [if_neg Bool.false_ne_true]
        rw [if_neg Bool.false_ne_true] at q7
        exact again I7 q7
      | true =>
        rw [if_pos rfl]
        rw [if_pos rfl] at q7
        refine thn (he _ s7 σ6 H7 _ I7 q7) fun v s8 ⟨y, H8, I8, r8, ys, e8, z8, n8⟩ => ?_
        refine thn (mt_append _ s8 σ6 H8 (.ref s2.heap.objs.size) [y] (.ref s2.heap.objs.size) [v] (fun _ H9 => H9 = upd H8 s2.heap.objs.size (.lst (ys ++ [y]))) I8 rfl (.cons r8 .nil) ⟨_, ys, y, rfl, rfl, e8, z8, rfl⟩) fun v9 s9 ⟨y9, H9, I9, r9, e9⟩ => ?_
        subst e9
        exact again I9 n8
  refine codeAny_compStart_list loop (T.self _ _ _ _ _ stY loop)

theorem pe_lcompC {elt iter tg : Expr} {ifs : List Expr} {scope : Scope} {pos : Pos} {N : List Str} {mp : List (Option Nat)} {wi : TI} {g : TG} {tc : TT} {te : TE}
    (ok : CompOkC X.env.scope X.N scope N mp) (hi : PI X tg iter wi)
    (hb : ∀ C s₀ H₀ fp, PG (compXC X scope C N s₀ H₀ fp) tg g ∧ PTs (compXC X scope C N s₀ H₀ fp) ifs tc ∧ PE (compXC X scope C N s₀ H₀ fp) elt te) (hc : X.calm = true := by rfl)
    (hs : ∀ x, foldedSetIterable iter X.env x = pure x := by intro _; rfl) : PE X (.ListComp elt [⟨tg, iter, ifs, 0⟩] scope pos) (tComp wi g tc te mp) := by
  intro pins s σ H Q I h
  rw [eval_ListComp]
  refine comp_coreC (use := none) ok hc hi hb hs I h fun acc C H' s' m I' f hn q => ?_
  exact ⟨m, hn, fun h' hs' => ⟨.ref acc, H', f.turned I' hs', rfl, q⟩⟩

end
theorem pe_lcompNC {X : Cx} {scope : Scope} {C : Addr} {N : List Str} {s₀ : Shared} {H₀ : Hp} {fp : List Addr} {elt iter tg : Expr} {ifs : List Expr} {scope2 : Scope} {pos : Pos} {N2 : List Str} {mp : List (Option Nat)} {wi : TI} {g : TG} {tc : TT} {te : TE}
    (ok : CompOk scope N scope2 N2 mp) (hi : PI (compXC X scope C N s₀ H₀ fp) tg iter wi)
    (hb : ∀ C' s₀' H₀' fp', PG (compX (compXC X scope C N s₀ H₀ fp) scope2 C' N2 s₀' H₀' fp') tg g ∧ PTs (compX (compXC X scope C N s₀ H₀ fp) scope2 C' N2 s₀' H₀' fp') ifs tc ∧ PE (compX (compXC X scope C N s₀ H₀ fp) scope2 C' N2 s₀' H₀' fp') elt te) (hc : X.calm = true := by rfl)
    (hs : ∀ x, foldedSetIterable iter (compXC X scope C N s₀ H₀ fp).env x = pure x := by intro _; rfl) : PE (compXC X scope C N s₀ H₀ fp) (.ListComp elt [⟨tg, iter, ifs, 0⟩] scope2 pos) (tComp wi g tc te mp) :=
  pe_lcomp (X := compXC X scope C N s₀ H₀ fp) (CompOk.rel ok) hi hb hc hs
end L2

set_option maxRecDepth 100000
set_option maxHeartbeats 4000000
namespace L2
open PySem PySem.Spec PyProof.Rows
def inLot (lot : List Int) (prs : Prs) : Nat := (prs.filter fun pr => decide (pr.1 ∈ lot)).length
def holdB (cs : List Prs) (lot : List Int) : Bool := cs.all fun prs => decide (inLot lot prs ≠ 1)
def Lr (rows : List (List Int)) (lot : List Int) : List Int := lot.flatMap fun p => rows.getD p.toNat []
def noOne (L : List Int) : Bool := L.all fun c => decide (L.count c ≠ 1)
def tot (cs : List Prs) : Nat := (cs.map List.length).sum
structure LotNet (n : Int) (cs : List Prs) : Prop where
  n0 : 1 ≤ n
  n1 : n ≤ 400
  cl : cs.length ≤ 400
  tl : tot cs ≤ 9000
  ok : ∀ prs ∈ cs, ∀ pr ∈ prs, 0 ≤ pr.1 ∧ pr.1 < n
theorem tot_take {cs : List Prs} {i : Nat} {prs : Prs} (e : cs[i]? = some prs) : tot (cs.take (i + 1)) = tot (cs.take i) + prs.length := by
  unfold tot
  rw [take_snoc e, List.map_append, List.sum_append]
  simp
theorem tot_le {cs : List Prs} : ∀ i, tot (cs.take i) ≤ tot cs := fun i => by
  have : tot cs = tot (cs.take i) + tot (cs.drop i) := by
    unfold tot
    rw [← List.sum_append, ← List.map_append, List.take_append_drop]
  omega
theorem short_tot {n : Nat} {cs : List Prs} : ∀ i, i ≤ cs.length → Short (rowsTo n cs i) (tot (cs.take i))
  | 0, _ => fun r hr => by
    unfold rowsTo at hr
    rw [List.eq_of_mem_replicate hr]; simp
  | i + 1, hi => by
    have ih := short_tot (n := n) (cs := cs) i (by omega)
    have e : cs[i]? = some cs[i] := List.getElem?_eq_getElem (by omega)
    rw [rowsTo_succ e, tot_take e]
    exact short_C (c := (i : Int)) (prs := cs[i]) ih
theorem LotNet.seat {n : Int} {cs : List Prs} (h : LotNet n cs) : SeatOk n cs := by
  have h0 := h.n0
  have h1 := h.n1
  refine ⟨by omega, by omega, h.ok, fun i m prs e r hr => ?_⟩
  have hi := (List.getElem?_eq_some_iff.mp e).1
  have a1 := short_C (c := (i : Int)) (prs := prs.take m) (short_tot (n := n.toNat) (cs := cs) i (by omega)) r hr
  have a3 : (prs.take m).length ≤ prs.length := by rw [List.length_take]; omega
  have a4 := tot_take e
  have a5 := tot_le (cs := cs) (i + 1)
  have := h.tl
  omega
theorem count_nat {k : Nat} {place : Int} (e : place = (k : Int)) : ∀ {L : Prs}, (∀ x ∈ L, 0 ≤ x.1) → (L.map fun pr => pr.1.toNat).count k = (L.map (·.1)).count place
  | [], _ => rfl
  | x :: L, h => by
    have h0 := h x (List.mem_cons_self ..)
    rw [List.map_cons, List.count_cons, List.map_cons, List.count_cons, count_nat e fun y hy => h y (List.mem_cons_of_mem _ hy)]
    congr 1
    by_cases e' : x.1 = place
    · rw [if_pos (by simp; omega), if_pos (by simp [e'])]
    · rw [if_neg (by simp; omega), if_neg (by simpa using e')]
theorem rowsC_count {c x : Int} : ∀ {prs : Prs} {rows : List (List Int)} {g : Nat → Nat}, (∀ (k : Nat) r, rows[k]? = some r → r.count x = g k) → ∀ (k : Nat) r, (rowsC rows c prs)[k]? = some r → r.count x = g k + if x = c then (prs.map fun pr => pr.1.toNat).count k else 0
  | [], rows, g, h, k, r, e => by simpa using h k r e
  | pr :: prs, rows, g, h, k, r, e => by
    have := rowsC_count (c := c) (x := x) (prs := prs) (rows := stepR rows c pr) (g := fun k => g k + if pr.1.toNat = k then (if x = c then 1 else 0) else 0) (fun k r e => by
      unfold stepR at e
      by_cases hk : pr.1.toNat = k
      · rw [if_pos hk]
        subst hk
        by_cases hl : pr.1.toNat < rows.length
        · rw [List.getElem?_set_self hl] at e
          cases e
          have := h _ _ (List.getElem?_eq_getElem hl)
          rw [List.getD_eq_getElem?_getD, List.getElem?_eq_getElem hl, List.count_append, ← this]
          congr 1
          by_cases hx : x = c
          · simp [hx]
          · rw [if_neg hx, List.count_singleton, if_neg (by simpa using fun z => hx z.symm)]
        · rw [List.getElem?_eq_none (by rw [List.length_set]; omega)] at e; cases e
      · rw [if_neg hk]
        rw [List.getElem?_set_ne hk] at e
        exact h k r e) k r e
    rw [List.map_cons, List.count_cons]
    by_cases hk : pr.1.toNat = k
    · by_cases hx : x = c
      · simp [hk, hx] at this ⊢; omega
      · simp [hk, hx] at this ⊢; omega
    · simp [hk] at this ⊢; omega
theorem rowsTo_count {n : Nat} {cs : List Prs} {x : Int} : ∀ i, i ≤ cs.length → ∀ (k : Nat) r, (rowsTo n cs i)[k]? = some r → r.count x = if 0 ≤ x ∧ x < i then ((cs.getD x.toNat []).map fun pr => pr.1.toNat).count k else 0
  | 0, _, k, r, e => by
    unfold rowsTo at e
    have := List.mem_of_getElem? e
    rw [List.eq_of_mem_replicate this, if_neg (by omega)]; rfl
  | i + 1, hi, k, r, e => by
    obtain ⟨prs, eprs⟩ : ∃ prs, cs[i]? = some prs := ⟨_, List.getElem?_eq_getElem (by omega)⟩
    rw [rowsTo_succ eprs] at e
    have h1 := rowsC_count (rowsTo_count (x := x) i (by omega)) k r e
    rw [h1]
    by_cases hx : x = (i : Int)
    · subst hx
      have e1 : ((i : Int)).toNat = i := Int.toNat_natCast i
      rw [if_neg (by omega), if_pos rfl, if_pos (by omega), e1, List.getD_eq_getElem?_getD, eprs]
      simp
    · rw [if_neg hx, Nat.add_zero]
      by_cases h2 : 0 ≤ x ∧ x < i
      · rw [if_pos h2, if_pos (by omega)]
      · rw [if_neg h2, if_neg (by omega)]
theorem rowsTo_mem {n : Nat} {cs : List Prs} {k : Nat} {r : List Int} {x : Int} (e : (rowsTo n cs cs.length)[k]? = some r) (h : x ∈ r) : 0 ≤ x ∧ x < cs.length := by
  have h1 := rowsTo_count (x := x) cs.length (Nat.le_refl _) k r e
  have h2 := List.count_pos_iff.mpr h
  by_cases c : 0 ≤ x ∧ x < cs.length
  · exact c
  · rw [if_neg c] at h1; omega
theorem filter_count : ∀ {lot : List Int} {prs : Prs}, lot.Nodup → (lot.map fun p => (prs.map (·.1)).count p).sum = inLot lot prs
  | [], prs, _ => by
    unfold inLot
    rw [List.filter_eq_nil_iff.mpr (fun x _ => by simp)]; rfl
  | a :: lot, prs, nd => by
    obtain ⟨n1, n2⟩ := List.nodup_cons.mp nd
    rw [List.map_cons, List.sum_cons, filter_count n2]
    unfold inLot
    clear n2 nd
    induction prs with
    | nil => rfl
    | cons pr prs ih =>
      rw [List.map_cons, List.count_cons, List.filter_cons, List.filter_cons]
      by_cases h1 : pr.1 = a
      · have h2 : pr.1 ∉ lot := by rw [h1]; exact n1
        rw [if_pos (by simp [h1]), if_neg (by simpa using h2), if_pos (by simp [h1]), List.length_cons]
        omega
      · by_cases h2 : pr.1 ∈ lot
        · rw [if_neg (by simpa using h1), if_pos (by simpa using h2), if_pos (by simp [h2]), List.length_cons, List.length_cons]
          omega
        · rw [if_neg (by simpa using h1), if_neg (by simpa using h2), if_neg (by simp [h1, h2])]
          omega
theorem Lr_count {n : Int} {cs : List Prs} {lot : List Int} (h : LotNet n cs) (nd : lot.Nodup) (hl : ∀ p ∈ lot, 0 ≤ p ∧ p < n) (x : Int) : (Lr (rowsTo n.toNat cs cs.length) lot).count x = if 0 ≤ x ∧ x < cs.length then inLot lot (cs.getD x.toNat []) else 0 := by
  have h1 := h.n0
  have key : ∀ p ∈ lot, ((rowsTo n.toNat cs cs.length).getD p.toNat []).count x = if 0 ≤ x ∧ x < cs.length then ((cs.getD x.toNat []).map (·.1)).count p else 0 := fun p hp => by
    obtain ⟨p0, p1⟩ := hl p hp
    have hk : p.toNat < (rowsTo n.toNat cs cs.length).length := by rw [rowsTo_len]; omega
    rw [List.getD_eq_getElem?_getD, List.getElem?_eq_getElem hk]
    have := rowsTo_count (x := x) cs.length (Nat.le_refl _) p.toNat _ (List.getElem?_eq_getElem hk)
    show List.count x (rowsTo n.toNat cs cs.length)[p.toNat] = _
    rw [this]
    by_cases c : 0 ≤ x ∧ x < cs.length
    · rw [if_pos c, if_pos c]
      refine count_nat (by omega) fun y hy => ?_
      have hx : x.toNat < cs.length := by omega
      rw [List.getD_eq_getElem?_getD, List.getElem?_eq_getElem hx] at hy
      exact (h.ok _ (List.getElem_mem hx) y hy).1
    · rw [if_neg c, if_neg c]
  unfold Lr
  rw [List.count_flatMap]
  by_cases c : 0 ≤ x ∧ x < cs.length
  · rw [if_pos c, ← filter_count nd]
    congr 1
    apply List.map_congr_left
    intro p hp
    show List.count x _ = _
    rw [key p hp, if_pos c]
  · rw [if_neg c]
    have : lot.map (List.count x ∘ fun p => (rowsTo n.toNat cs cs.length).getD p.toNat []) = lot.map fun _ => 0 := by
      apply List.map_congr_left
      intro p hp
      show List.count x _ = _
      rw [key p hp, if_neg c]
    rw [this]
    clear this key nd hl
    induction lot with
    | nil => rfl
    | cons a l ih => simpa using ih
theorem noOne_hold {n : Int} {cs : List Prs} {lot : List Int} (h : LotNet n cs) (nd : lot.Nodup) (hl : ∀ p ∈ lot, 0 ≤ p ∧ p < n) : noOne (Lr (rowsTo n.toNat cs cs.length) lot) = holdB cs lot := by
  unfold noOne holdB
  rw [Bool.eq_iff_iff, List.all_eq_true, List.all_eq_true]
  constructor
  · intro g prs hp
    obtain ⟨i, hi⟩ := List.getElem?_of_mem hp
    have hil := (List.getElem?_eq_some_iff.mp hi).1
    refine decide_eq_true fun z => ?_
    have e := Lr_count h nd hl (i : Int)
    rw [if_pos (by omega), Int.toNat_natCast, List.getD_eq_getElem?_getD, hi] at e
    have e' : (Lr (rowsTo n.toNat cs cs.length) lot).count (i : Int) = 1 := by rw [e]; exact z
    have := of_decide_eq_true (g (i : Int) (List.count_pos_iff.mp (by omega)))
    exact this e'
  · intro g x hx
    refine decide_eq_true fun z => ?_
    have e := Lr_count h nd hl x
    rw [z] at e
    by_cases c : 0 ≤ x ∧ x < cs.length
    · rw [if_pos c] at e
      have hi : x.toNat < cs.length := by omega
      rw [List.getD_eq_getElem?_getD, List.getElem?_eq_getElem hi] at e
      exact of_decide_eq_true (g _ (List.getElem_mem hi)) e.symm
    · rw [if_neg c] at e; omega
def CntK (L : List Int) (ks : Ks) : Prop := ∃ ms : List Int, ms.Nodup ∧ (∀ c, c ∈ ms ↔ c ∈ L) ∧ ks = ms.map fun c => (c, PyData.int (L.count c))
theorem valI_mapK {g : Int → PyData} {c : Int} : ∀ {ms : List Int}, valI (ms.map fun c => (c, g c)) c = if c ∈ ms then some (g c) else none
  | [] => rfl
  | m :: ms => by
    rw [List.map_cons, valI_cons, valI_mapK]
    by_cases h : m = c
    · subst h; simp
    · have h' : ¬ c = m := fun z => h z.symm
      simp [h, h']
theorem CntK.nil : CntK [] [] := ⟨[], List.nodup_nil, fun _ => Iff.rfl, rfl⟩
theorem CntK.get {L : List Int} {ks : Ks} (h : CntK L ks) (c : Int) : (valI ks c).getD (.int 0) = .int (L.count c) := by
  obtain ⟨ms, nd, hm, rfl⟩ := h
  rw [valI_mapK]
  by_cases e : c ∈ ms
  · rw [if_pos e]; rfl
  · rw [if_neg e]
    have : L.count c = 0 := List.count_eq_zero.mpr fun z => e ((hm c).mpr z)
    rw [this]; rfl
theorem CntK.put {L : List Int} {ks : Ks} (h : CntK L ks) (c : Int) : CntK (L ++ [c]) (putI ks c (.int ((L.count c : Int) + 1))) := by
  obtain ⟨ms, nd, hm, rfl⟩ := h
  have hcc : ∀ x, (L ++ [c]).count x = L.count x + if c = x then 1 else 0 := fun x => by
    rw [List.count_append, List.count_singleton]
    by_cases e : c = x
    · subst e; simp
    · simp [e]
  unfold putI
  have hk : hasI (ms.map fun c => (c, PyData.int (L.count c))) c = decide (c ∈ ms) := by
    rw [Bool.eq_iff_iff, hasI_iff, List.map_map, decide_eq_true_eq]
    have : (ms.map ((·.1) ∘ fun c => (c, PyData.int (L.count c)))) = ms := List.map_id'' (fun _ => rfl) ms
    rw [this]
  rw [hk]
  by_cases e : c ∈ ms
  · rw [if_pos (decide_eq_true e)]
    refine ⟨ms, nd, fun x => ?_, ?_⟩
    · rw [List.mem_append, List.mem_singleton, hm x]
      exact ⟨.inl, fun z => z.elim id fun z => by rw [z]; exact (hm c).mp e⟩
    · rw [List.map_map]
      apply List.map_congr_left
      intro x hx
      show (if x = c then (x, PyData.int ((L.count c : Int) + 1)) else (x, .int (L.count x))) = _
      rw [hcc x]
      by_cases z : x = c
      · subst z; simp
      · rw [if_neg z, if_neg (fun w => z w.symm)]; rfl
  · rw [if_neg (by simpa using e)]
    refine ⟨ms ++ [c], ?_, fun x => ?_, ?_⟩
    · rw [List.nodup_append]
      exact ⟨nd, by simp, fun a ha b hb z => by rw [List.mem_singleton.mp hb] at z; exact e (z ▸ ha)⟩
    · rw [List.mem_append, List.mem_append, hm x]
    · rw [List.map_append]
      congr 1
      · apply List.map_congr_left
        intro x hx
        rw [hcc x, if_neg (fun w => by subst w; exact e hx)]; rfl
      · show [(c, PyData.int ((L.count c : Int) + 1))] = [(c, PyData.int (((L ++ [c]).count c : Nat) : Int))]
        rw [hcc c, if_pos rfl]; rfl
theorem CntK.len {L : List Int} {ks : Ks} (h : CntK L ks) {m : Nat} (hb : ∀ c ∈ L, 0 ≤ c ∧ c < m) : ks.length ≤ m := by
  obtain ⟨ms, nd, hm, rfl⟩ := h
  rw [List.length_map]
  have := List.Nodup.length_le_of_subset (l₂ := (List.range m).map fun (i : Nat) => (i : Int)) nd fun k hk => by
    obtain ⟨a, b⟩ := hb k ((hm k).mp hk)
    exact List.mem_map.mpr ⟨k.toNat, List.mem_range.mpr (by omega), by omega⟩
  simpa using this
theorem CntK.vals {L : List Int} {ks : Ks} (h : CntK L ks) : ∃ ns : List Int, ks.map (·.2) = ns.map PyData.int ∧ (decide ((1 : Int) ∈ ns) != true) = noOne L := by
  obtain ⟨ms, nd, hm, rfl⟩ := h
  refine ⟨ms.map fun c => (L.count c : Int), by rw [List.map_map, List.map_map]; rfl, ?_⟩
  unfold noOne
  have hb : ∀ b : Bool, (b != true) = !b := by decide
  rw [hb, Bool.eq_iff_iff, List.all_eq_true, Bool.not_eq_true', decide_eq_false_iff_not, List.mem_map]
  constructor
  · intro g c hc
    exact decide_eq_true fun z => g ⟨c, (hm c).mpr hc, by rw [z]; rfl⟩
  · rintro g ⟨c, hc, e⟩
    exact of_decide_eq_true (g c ((hm c).mp hc)) (by omega)
theorem Lr_snoc (rows : List (List Int)) (lot : List Int) (p : Int) : Lr rows (lot ++ [p]) = Lr rows lot ++ rows.getD p.toNat [] := by unfold Lr; simp
structure LotOk (n : Int) (l : List Int) : Prop where
  nd : l.Nodup
  rg : ∀ x ∈ l, 0 ≤ x ∧ x < n
theorem LotOk.len {n : Int} {l : List Int} (h : LotOk n l) (hn : n ≤ 400) : l.length ≤ 400 := by
  have := List.Nodup.length_le_of_subset (l₂ := (List.range n.toNat).map fun (i : Nat) => (i : Int)) h.nd fun k hk => by
    obtain ⟨a, b⟩ := h.rg k hk
    exact List.mem_map.mpr ⟨k.toNat, List.mem_range.mpr (by omega), by omega⟩
  rw [List.length_map, List.length_range] at this
  omega
theorem LotOk.nil {n : Int} : LotOk n [] := ⟨List.nodup_nil, fun _ h => nomatch h⟩
theorem LotOk.perm {n : Int} {l r : List Int} (h : LotOk n l) (p : r.Perm l) : LotOk n r := ⟨p.nodup_iff.mpr h.nd, fun x hx => h.rg x (p.mem_iff.mp hx)⟩
theorem LotOk.filter {n : Int} {l : List Int} (h : LotOk n l) (q : Int → Bool) : LotOk n (l.filter q) := ⟨h.nd.filter q, fun x hx => h.rg x (List.mem_filter.mp hx).1⟩
theorem LotOk.snoc {n x : Int} {l : List Int} (h : LotOk n l) (hx : x ∉ l) (h0 : 0 ≤ x) (h1 : x < n) : LotOk n (l ++ [x]) := by
  refine ⟨?_, fun y hy => ?_⟩
  · rw [List.nodup_append]
    exact ⟨h.nd, by simp, fun a ha b hb z => by rw [List.mem_singleton.mp hb] at z; exact hx (z ▸ ha)⟩
  · rcases List.mem_append.mp hy with z | z
    · exact h.rg y z
    · rw [List.mem_singleton.mp z]; exact ⟨h0, h1⟩
theorem LotOk.erase {n x : Int} {l : List Int} (h : LotOk n l) : LotOk n (l.erase x) := ⟨h.nd.erase x, fun y hy => h.rg y (List.mem_of_mem_erase hy)⟩
theorem LotOk.range {n : Int} (hn : 0 ≤ n) : LotOk n ((List.range n.toNat).map fun (i : Nat) => (i : Int)) := by
  refine ⟨?_, fun x hx => ?_⟩
  · rw [List.nodup_iff_pairwise_ne, List.pairwise_map]
    exact List.pairwise_lt_range.imp fun h => by omega
  · obtain ⟨i, hi, rfl⟩ := List.mem_map.mp hx
    have := List.mem_range.mp hi
    omega
def LotD (lot : List Int) (d : PyData) : Prop := d = .list (lot.map .int) ∨ ∃ ks : Ks, d = .dict (ks.map kvD) ∧ ∀ k, hasI ks k = decide (k ∈ lot)
theorem inLot_snoc (lot : List Int) (prs : Prs) (pr : Int × Int) : (prs ++ [pr]).filter (fun pr => decide (pr.1 ∈ lot)) = prs.filter (fun pr => decide (pr.1 ∈ lot)) ++ if pr.1 ∈ lot then [pr] else [] := by
  rw [List.filter_append]
  congr 1
  by_cases h : pr.1 ∈ lot
  · simp [h]
  · simp [h]
def CksOk (n : Int) (cs : List Prs) : Prop := ∀ prs ∈ cs, LotOk n (prs.map (·.1))
theorem CksOk.lot {n : Int} {cs : List Prs} (h : CksOk n cs) (h0 : 1 ≤ n) (h1 : n ≤ 400) (hc : cs.length ≤ 400) (ht : tot cs ≤ 9000) : LotNet n cs := ⟨h0, h1, hc, ht, fun prs hp pr hpr => (h prs hp).rg pr.1 (List.mem_map.mpr ⟨pr, hpr, rfl⟩)⟩
theorem tot_mul {cs : List Prs} {w : Nat} : (∀ prs ∈ cs, prs.length ≤ w) → tot cs ≤ cs.length * w := by
  induction cs with
  | nil => intro _; simp [tot]
  | cons a cs ih =>
    intro h
    have h1 := h a (List.mem_cons_self ..)
    have h2 := ih fun p hp => h p (List.mem_cons_of_mem _ hp)
    have e : tot (a :: cs) = a.length + tot cs := by unfold tot; simp
    rw [e, List.length_cons, Nat.succ_mul]
    omega
theorem Tv.mono {G : Gx} {ρ : Rh} {t : TT} {Ψ Θ : Bool → Prop} (h : Tv G ρ t Ψ) (q : ∀ b, Ψ b → Θ b) : Tv G ρ t Θ := fun nb σ H Q W z => h nb σ H Q W fun b H' p => z b H' (q b p)
def LotsOk (n : Int) (lots : List (List Int)) : Prop := ∀ l ∈ lots, LotOk n l ∧ l ≠ []
theorem filter_snoc (q : Int → Bool) {xs : List Int} {j : Nat} {x : Int} (e : xs[j]? = some x) : (xs.take (j + 1)).filter q = (xs.take j).filter q ++ if q x = true then [x] else [] := by
  rw [take_snoc e, List.filter_append]
  congr 1
  rw [List.filter_cons, List.filter_nil]
theorem LotOk.range0 {n : Int} (hn : 0 ≤ n) : LotOk n ((List.range n.toNat).map fun (i : Nat) => 0 + (i : Int)) := by
  have e : ((List.range n.toNat).map fun (i : Nat) => 0 + (i : Int)) = ((List.range n.toNat).map fun (i : Nat) => (i : Int)) := List.map_congr_left fun i _ => by omega
  rw [e]; exact .range hn
theorem LotOk.lenN {n : Int} {l : List Int} (h : LotOk n l) : l.length ≤ n.toNat := by
  have := List.Nodup.length_le_of_subset (l₂ := (List.range n.toNat).map fun (i : Nat) => (i : Int)) h.nd fun k hk => by
    obtain ⟨a, b⟩ := h.rg k hk
    exact List.mem_map.mpr ⟨k.toNat, List.mem_range.mpr (by omega), by omega⟩
  rwa [List.length_map, List.length_range] at this
theorem LotOk.len60 {n : Int} {l : List Int} (h : LotOk n l) (hn : n ≤ 60) : l.length ≤ 60 := by
  have := h.lenN
  omega
end L2

set_option maxRecDepth 100000
set_option maxHeartbeats 4000000
namespace L2
open PySem PySem.Spec PyProof.Rows
theorem pe_bmJ {X : Cx} {K : PySem.W.Frag} {e : Expr} {T : String} {r : V → List V → Hp → VK → Prop} {to : TE} {t : TA} (hK : X.K = K) (h : PE X e (tBM X.K T r to t)) : PE X e (tBM K T r to t) := by subst hK; exact h
theorem perm_eraseIdx {α : Type} {d : α} : ∀ {ds : List α} {r : Nat}, ds[r]? = some d → (d :: ds.eraseIdx r).Perm ds
  | x :: ds, 0, e => by simp at e; subst e; exact .refl _
  | x :: ds, r + 1, e => (List.Perm.swap x d _).trans ((perm_eraseIdx (ds := ds) (r := r) (by simpa using e)).cons x)
  | [], r, e => by simp at e
section
variable {G : Gx} {ρ : Rh} {t0 : TE} {E : DE} {i0 j : Nat} {f : Bool} {K K2 : PySem.W.Frag}
theorem Sv.retTurn {a : Addr} {ds : List PyData} (e0 : ρ[i0]? = some .bag) (ej : ρ[j]? = some (.own a f ds)) (hl : ds.length ≤ 9000) (hlen : Ev G ρ t0 fun _ x => x = .int ds.length) (h : ∀ rs : List PyData, rs.Perm ds → E.rt f (.list rs)) :
    Sv G ρ (tRet (tComp (iRng1 (tCons t0 tNil)) (gName 0) tNoTest (tBM K "list" rPopAt (tVar 2) (tCons (tCall spDraw [] E0 (tCons (tVar 1) (tCons (tCB (rLen K2) (tCons (tVar 2) tNil)) tNil))) tNil)) [none, some i0, some j])) E := fun nb σ H D W KK => by
  refine hlen nb σ H _ W fun g v H1 x ex s1 hv => ?_
  subst ex
  rw [hv.ofI]
  refine ⟨ds.length, rfl, by omega, by omega, fun acc hacc => ?_⟩
  have hij : i0 ≠ j := fun z => by subst z; rw [e0] at ej; cases ej
  have hρ : startR [none, some i0, some j] ρ = [.no, .bag, .own a f ds] := by unfold startR; simp [e0, ej]
  have W0 : Wd G nb [.no, .bag, .own a f ds] (L2.startC [none, some i0, some j] σ) H1 := by rw [← hρ]; exact (W.step s1).startC (by simp [hij])
  have W1 := W0.more hacc (o := .lst [])
  have hN := NB.new s1.2 hacc
  have haa : a ≠ acc := no_own W0 hacc 2 a f ds rfl
  rw [Int.toNat_natCast]
  refine R.comp_range (fun i σ H2 => ∃ (s0 : Sl) (ds' es : List PyData) (xs : List V), (∀ a f ds, s0 ≠ .own a f ds) ∧ (∀ a f ds, s0 ≠ .dic a f ds) ∧ Wd G (fun x => nb x ∨ x = acc) [s0, .bag, .own a f ds'] σ H2 ∧ H2 acc = some (.lst xs) ∧ IsDs (G.S (fun x => nb x ∨ x = acc) f) H2 es xs ∧ (es ++ ds').Perm ds ∧ es.length = i) ⟨.no, ds, [], [], (fun _ _ _ z => by cases z), (fun _ _ _ z => by cases z), W1, upd_same, .nil, by simp, rfl⟩ ?_ ?_
  · rintro i σ H2 hi ⟨s0, ds', es, xs, hs0, hs1, W2, hx2, hd2, hp, hel⟩
    have hlen' := hp.length_eq
    rw [List.length_append] at hlen'
    have W3 := W2.setD (i := 0) (f := true) (d := .int (0 + (i : Int))) (v := .int (0 + (i : Int))) (.int _)
    dsimp only [gName, tNoTest]
    rw [if_pos rfl]
    obtain ⟨x, e1, h1, h2, h3, ys, hy, hdy⟩ := W3.ok 2 _ rfl
    subst h1
    refine ⟨.ref a, e1, .inl ⟨rfl, _, SqL.of hy⟩, ?_⟩
    refine Ev.draw (i := 1) (Φ := fun _ d => ∃ r : Nat, d = .int (r : Int) ∧ r < ds'.length) rfl (Ev.lenOwn (i := 2) rfl ?_) _ _ _ _ W3 fun g v H3 d ⟨r, er, hr⟩ s3 hv => ?_
    · refine ⟨_, rfl, by omega, by unfold Sm; omega, fun r r1 r2 => ⟨r.toNat, ?_, by omega⟩⟩
      rw [Int.toNat_of_nonneg r1]
    subst er
    have hk := hv.ofI
    subst hk
    have W4 := W3.step s3
    have hy3 := s3.1 _ _ h3 hy
    have hx3 := s3.1 _ _ hN hx2
    have hdy3 := hdy.keep s3.butS
    have hd3 := hd2.keep (s3.butS (nb := fun x => nb x ∨ x = acc) (f := f))
    obtain ⟨d, edd⟩ : ∃ d, ds'[r]? = some d := ⟨_, List.getElem?_eq_getElem hr⟩
    obtain ⟨y', hy', hD⟩ := hdy3.get edd
    have hml : r < ys.length := (List.getElem?_eq_some_iff.mp hy').1
    have hix : seqIndex? (r : Int) ys.length = some r := by
      have : ixN ys.length (r : Int) = some r := by
        unfold ixN
        rw [if_pos (by omega), if_pos (by omega), Int.toNat_natCast]
      exact (ixN_seq this).1
    have W5 := Sv.writeOwn W4 (i := 2) rfl (hdy3.era r)
    have bt1 : But (G.S (fun x => nb x ∨ x = acc) f) H3 (upd H3 a (.lst (ys.eraseIdx r))) := But.set (.inl h2)
    have hx5 : (upd H3 a (.lst (ys.eraseIdx r))) acc = some (.lst xs) := by rw [upd_ne (Ne.symm haa)]; exact hx3
    refine ⟨a, ys, (r : Int), r, y', rfl, rfl, hy3, by omega, by omega, hix, hy', ?_⟩
    have hxl := hd2.length
    refine ⟨xs, hx5, Nat.lt_of_lt_of_le (show xs.length < 10000 by omega) (by decide), ?_⟩
    have bt2 : But (G.S (fun x => nb x ∨ x = acc) f) (upd H3 a (.lst (ys.eraseIdx r))) (upd (upd H3 a (.lst (ys.eraseIdx r))) acc (.lst (xs ++ [y']))) := But.set (.inl (.inr rfl))
    have W6 := W5.write (p := acc) (o := .lst (xs ++ [y'])) (.inr rfl) hN (fun k c f' cs hc => by
      match k with
      | 0 => cases hc
      | 1 => cases hc
      | 2 => cases hc; exact haa
      | k + 3 => simp at hc) (fun k c f' cs hc => by
      match k with
      | 0 => cases hc
      | 1 => cases hc
      | 2 => cases hc
      | k + 3 => simp at hc)
    refine ⟨_, ds'.eraseIdx r, es ++ [d], xs ++ [y'], ?_, ?_, W6, upd_same, IsDs.snoc ((hD.keep bt1).keep bt2) ((hd3.keep bt1).keep bt2), ?_, by simp [hel]⟩
    · intro _ _ _ z; cases z
    · intro _ _ _ z; cases z
    · have := perm_eraseIdx edd
      rw [List.append_assoc]
      exact ((List.perm_append_left_iff es).mpr this).trans hp
  · rintro σ H2 ⟨s0, ds', es, xs, hs0, hs1, W2, hx2, hd2, hp, hel⟩
    have hlen' := hp.length_eq
    rw [List.length_append] at hlen'
    have e9 : ds' = [] := List.length_eq_zero_iff.mp (by omega)
    subst e9
    rw [List.append_nil] at hp
    refine KK.rt _ _ _ f _ H2 _ (h es hp) W2 (.lst (fun z => ?_) hx2 (hd2.av (S_mono (fun z => z) fun _ z => z.elim)))
    have hn := W2.nbo acc (.inr rfl) hN
    rcases z with z | z | z | z
    · exact z
    · exact W2.gA acc z hn
    · exact z hN
    · exact z.2 hn
end
theorem atI_end {α β : Type} {xs : List α} (φ : α → β) {x : α} (h : xs[xs.length - 1]? = some x) : atI (xs.map φ) (-1) = some (φ x) := by
  have hl := (List.getElem?_eq_some_iff.mp h).1
  unfold atI ixN
  rw [List.length_map]
  repeat (first | rw [if_pos (by omega)] | rw [if_neg (by omega)])
  show (xs.map φ)[((-1 : Int) + (xs.length : Int)).toNat]? = _
  have e : ((-1 : Int) + (xs.length : Int)).toNat = xs.length - 1 := by omega
  rw [e, List.getElem?_map, h]
  rfl
section
variable {G : Gx} {ρ : Rh} {te : TE} {i : Nat} {f : Bool} {K : PySem.W.Frag}
theorem Tv.truOwn {Θ : Bool → Prop} {a : Addr} {ds : List PyData} (e : ρ[i]? = some (.own a f ds)) (h : Θ (!ds.isEmpty)) : Tv G ρ (tTruth K (tVar i)) Θ := fun nb σ H Q W z => by
  obtain ⟨x, e1, h1, h2, h3, xs, hx, hd⟩ := W.ok i _ e
  subst h1
  have hl := hd.length
  have : xs.isEmpty = ds.isEmpty := by cases xs <;> cases ds <;> first | rfl | (simp at hl)
  refine ⟨.ref a, e1, _, .inl ⟨xs, .of hx, rfl⟩, ?_⟩
  rw [this]
  exact z _ H h (.refl W.bag)
theorem Tv.truL {Θ : Bool → Prop} (h : Ev G ρ te fun _ x => ∃ ds, x = .list ds ∧ Θ (!ds.isEmpty)) : Tv G ρ (tTruth K te) Θ := fun nb σ H Q W z =>
  h nb σ H _ W fun f v H1 d ⟨ds, e, q⟩ s1 hv => by
    subst e
    obtain ⟨a, xs, rfl, n, hx, hd⟩ := hv.ofL
    have hl := hd.length
    have : xs.isEmpty = ds.isEmpty := by cases xs <;> cases ds <;> first | rfl | (simp at hl)
    refine ⟨_, .inl ⟨xs, .of hx, rfl⟩, ?_⟩
    rw [this]
    exact z _ H1 q s1
end
end L2

set_option maxRecDepth 100000
set_option maxHeartbeats 4000000
namespace L2
open PySem PySem.Spec PyProof.Rows
def rPopD : V → List V → Hp → VK → Prop := fun x vs H Q => ∃ a kvs k v, x = .ref a ∧ vs = [kV k] ∧ H a = some (.dK kvs) ∧ valV kvs k = some v ∧ Q v (upd H a (.dK (dropK kvs k)))
theorem mt_popD {X : Cx} : MtM X "dict.pop" rPopD := by
  intro pins s σ H x vs v us Q I rx rv h
  obtain ⟨a, kvs, k, w, rfl, rfl, hH, hv, q⟩ := h
  cases rx
  obtain ⟨u, rfl, ru⟩ := rv.one
  exact d_pop I hH ru hv (.inl rfl) fun w' s' I' r' => ⟨w, _, I', r', q⟩
theorem IsKs.drop {S : Addr → Prop} {H : Hp} {k : Int} : ∀ {ks : Ks} {ps : List (Key × V)}, IsKs S H (ks.map kvD) ps → IsKs S H ((dropI ks k).map kvD) (dropK ps (Sum.inl k))
  | [], ps, h => by unfold IsKs at h; subst h; unfold dropI dropK; simp only [List.filter_nil, List.map_nil]; unfold IsKs; rfl
  | p :: r, ps, h => by
    rw [List.map_cons] at h
    unfold IsKs at h
    obtain ⟨q, qs, rfl, h1, h2⟩ := h
    have ih := IsKs.drop (k := k) h2
    have h0 := h1
    unfold IsK at h1
    have h3 : q.1 = Sum.inl p.1 := h1.1
    unfold dropI dropK at ih ⊢
    rw [List.filter_cons, List.filter_cons]
    by_cases e : p.1 = k
    · rw [if_neg (by simpa using e), if_neg (by rw [h3, e]; simp)]
      exact ih
    · rw [if_pos (by simpa using e), if_pos (by rw [h3]; simpa using e), List.map_cons]
      unfold IsKs
      exact ⟨q, _, rfl, h0, ih⟩
section
variable {G : Gx} {ρ : Rh} {ta tb te : TE} {t : TA} {E : DE} {i j m n : Nat} {f : Bool} {K K2 K3 : PySem.W.Frag} {Φ : Pd}
theorem Sv.popDic {a : Addr} {ks : Ks} (e : ρ[i]? = some (.dic a f ks)) (h : Ev G ρ te fun _ y => ∃ k, y = .int k ∧ hasI ks k = true ∧ E.nx (ρ.set i (.dic a f (dropI ks k)))) :
    Sv G ρ (tDrop (tBM K "dict" rPopD (tVar i) (tCons te tNil))) E := fun nb σ H D W KK => by
  obtain ⟨x, e1, h1, h2, h3, ps, hp, hd⟩ := W.ok i _ e
  subst h1
  refine ⟨.ref a, e1, .inr (.inr (.inl ⟨rfl, .inl ⟨_, hp⟩⟩)), h nb σ H _ W fun g v H1 y ⟨k, ey, hk, q⟩ s1 hv => ?_⟩
  subst ey
  have hk' := hv.ofI
  subst hk'
  have hd1 := hd.keep s1.butS
  have := IsKs.val k hd1
  rw [← valI_has] at hk
  obtain ⟨d, ed⟩ := Option.isSome_iff_exists.mp hk
  rw [ed] at this
  obtain ⟨v, hv', _⟩ := this
  exact ⟨a, ps, .inl k, v, rfl, rfl, s1.1 _ _ h3 hp, hv', KK.nx nb _ _ _ q (writeDic (W.step s1) e (IsKs.drop hd1))⟩
theorem EvF.lendDic {Ψ : PyData → Prop} {a : Addr} {ks : Ks} (i : Nat) (e : ρ[i]? = some (.dic a f ks)) (h : EvF G (ρ.set i (.d f (.dict (ks.map kvD)))) te Ψ) : EvF G ρ te Ψ := fun nb σ H Q W z => h _ σ H Q (shareDic W e) z
theorem Ev.ofF (h : EvF G ρ te fun d => Φ true d) : Ev G ρ te Φ := fun nb σ H Q W z => h nb σ H Q W fun v H' d p st hd => z true v H' d p st (hd.av fun a q => W.liveS a q)
theorem EvN.lendS {Θ : Bool → List PyData → Prop} {a : Addr} {ds : List PyData} (i : Nat) (e : ρ[i]? = some (.own a f ds)) (h : EvN G (ρ.set i (.d f (.list ds))) te fun _ es => es.all scB = true ∧ Θ true es) : EvN G ρ te Θ := fun nb σ H Q W z =>
  h _ σ H Q (Sv.share W e) fun f c xs H' es ⟨hs, p⟩ st hc hx hd => z true c xs H' es p st hc hx (IsDs.scAny hs hd)
def rGetL : V → V → Hp → VK → Prop := fun o i H Q => ∃ a xs k v, o = .ref a ∧ i = .int k ∧ H a = some (.lst xs) ∧ 0 ≤ k ∧ atI xs k = some v ∧ Q v H
theorem Sv.augOwn {a : Addr} {ds : List PyData} {g : Int → Int → Int} {c : Int} (e : ρ[i]? = some (.own a f ds)) (h : Ev G ρ tb fun _ y => ∃ k m x, y = .int k ∧ 0 ≤ k ∧ ixN ds.length k = some m ∧ atI ds k = some (.int x) ∧ E.nx (ρ.set i (.own a f (ds.set m (.int (g x c)))))) :
    Sv G ρ (tAugS (tVar i) tb (tC (.int c)) rGetL (ipI g) rSetL) E := fun nb σ H D W KK => by
  obtain ⟨x, e1, h1, h2, h3, xs, hx, hd⟩ := W.ok i _ e
  subst h1
  refine ⟨.ref a, e1, h nb σ H _ W fun g' u H2 y ⟨k, m, x, ey, k0, hm, ha, p⟩ s2 hu => ?_⟩
  subst ey
  have hk := hu.ofI
  subst hk
  have hx2 := s2.1 _ _ h3 hx
  have hd2 := hd.keep s2.butS
  obtain ⟨w, hw, hD⟩ := hd2.atI ha
  have hw' := hD.ofI
  subst hw'
  refine ⟨a, xs, k, _, rfl, rfl, hx2, k0, hw, x, c, rfl, rfl, a, xs, k, m, rfl, rfl, hx2, by rw [hd.length]; exact hm, KK.nx nb _ _ _ p (writeOwn (W.step s2) e ?_)⟩
  exact IsDs.set' (.int _) m hd2
theorem Sv.popCall {F : DF} {i0 q : Nat} {a aq : Addr} {f0 fq : Bool} {ds0 ws cs : List PyData} {ks : Ks} {c : Int} {dd : PyData} (hm : MonoF F) (hjq : j ≠ q)
    (e0 : ρ[i0]? = some (.d f0 (.tuple ds0))) (e2 : atI ds0 2 = some (.list cs)) (ej : ρ[j]? = some (.own a f (ws ++ [.int c]))) (eq : ρ[q]? = some (.dic aq fq ks)) (hc : atI cs c = some dd)
    (h : F [dd, .dict (ks.map kvD)] fun g d => g = true ∧ E.nx ((ρ.set j (.own a f ws)).set m (.d true d))) :
    Sv G ρ (tAsg (tCall (spD 2 F) [] E0 (tCons (tOp (rIxL K) (tOp (rIxT K2) (tVar i0) (tC (.int 2))) (tBM K3 "list" rPop (tVar j) tNil)) (tCons (tVar q) tNil))) (gName m)) E := fun nb σ H D W KK => by
  obtain ⟨x0, e01, v0, rfl, hd0⟩ := W.ok i0 _ e0
  obtain ⟨a0, xs0, rfl, n0, hx0, hds0⟩ := hd0.ofT
  obtain ⟨w2, hw2, hD2⟩ := hds0.atI e2
  obtain ⟨aL, xsL, rfl, nL, hxL, hdL⟩ := hD2.ofL
  obtain ⟨wc, hwc, hDc⟩ := hdL.atI hc
  obtain ⟨x, e1, h1, h2, h3, xs, hx, hd⟩ := W.ok j _ ej
  subst h1
  have hlx := hd.length
  rw [List.length_append, List.length_singleton] at hlx
  obtain ⟨vl, hvl, hDl⟩ := hd.get (i := ws.length) (d := .int c) (by rw [List.getElem?_append_right (Nat.le_refl _), Nat.sub_self]; rfl)
  have hvl' := hDl.ofI
  subst hvl'
  have hne : aL ≠ a := fun z => nL (by rw [z]; exact .inl h2)
  have hxs : xs.dropLast = xs.take ws.length := by rw [List.dropLast_eq_take, hlx]; rfl
  have hdw : IsDs (G.S nb f) H ws xs.dropLast := by
    have := hd.take ws.length
    rw [List.take_left] at this
    rw [hxs]; exact this
  have W1 := writeOwn W ej hdw
  have eq' : (ρ.set j (.own a f ws))[q]? = some (.dic aq fq ks) := by rw [List.getElem?_set_ne hjq]; exact eq
  obtain ⟨y, e3, k1, k2, k3, ps, hp, hdp⟩ := W1.ok q _ eq'
  subst k1
  have S1 := shareDic W1 eq'
  refine ⟨.ref a0, e01, a0, xs0, 2, .ref aL, rfl, rfl, .of hx0, hw2, .ref a, e1, .inl ⟨rfl, _, SqL.of hx⟩, a, xs, .int c, rfl, rfl, hx, by rw [hlx, Nat.add_sub_cancel]; exact hvl, ?_⟩
  refine ⟨aL, xsL, c, wc, rfl, rfl, .of (by rw [upd_ne hne]; exact hxL), hwc, .ref aq, e3, ?_⟩
  -- the call
  have hDc' : IsD (G.S nb f0) (upd H a (.lst xs.dropLast)) dd wc := hDc.keep (But.set (.inl h2))
  have hqL : ((ρ.set j (.own a f ws)).set q (.d fq (.dict (ks.map kvD))))[q]? = some (.d fq (.dict (ks.map kvD))) := List.getElem?_set_self (by rw [List.length_set]; exact (List.getElem?_eq_some_iff.mp eq).1)
  obtain ⟨y', e4, v4, e5, hdq⟩ := S1.ok q _ hqL
  rw [e3] at e4
  cases e4
  cases e5
  refine ⟨rfl, (fun x => G.S (fun x => nb x ∧ x ≠ aq) false x), [dd, .dict (ks.map kvD)], S1.liveS, .cons (hDc'.av fun x z => ?_) (.cons (hdq.av (S_mono (fun z => by cases z) fun _ z => z)) .nil), hm _ _ _ h fun g d ⟨hg, p⟩ v H' sm hv => ?_⟩
  · rcases z with z | z | z | z
    · exact .inl z.1
    · exact .inr (.inl z)
    · exact .inr (.inr (.inl z))
    · cases z.1
  · subst hg
    have st : Step G.B (upd H a (.lst xs.dropLast)) H' := .same W1.bag sm
    refine KK.nx nb _ _ _ p ((W1.step st).setD (i := m) (f := true) (hv.av fun x z => .inr ⟨rfl, W1.liveS x z⟩))
end
theorem get_listL {X : Cx} : PGet X rGetL := by
  intro pins s σ H o i ov iv Q I ro ri h
  obtain ⟨a, xs, k, v, rfl, rfl, hH, k0, hv, q⟩ := h
  cases ro
  obtain ⟨t, rfl⟩ := ri
  obtain ⟨its, r, pl, hz⟩ := I.list (SqL.of hH)
  obtain ⟨j, h1, h2, h3, h4, h5⟩ := atI_get hv
  obtain ⟨w, ew, rw'⟩ := r.get h2
  have hl := r.length
  have hn := line63
  have hj : k.toNat = j := by
    rw [seqIndex_of k0 h5] at h1
    exact Option.some.inj h1
  exact wpAny_getItem_list pl.isList k0 (by omega) (by rw [hj]; simpa using ew) ⟨v, H, I, rw', q⟩

structure Great (cs : List Prs) (lot g : List Int) : Prop where
  sub : ∃ q : Int → Bool, g = lot.filter q
  out : holdB cs g = true
  max : ∀ T : List Int, (∀ x ∈ T, x ∈ lot) → holdB cs T = true → ∀ x ∈ T, x ∈ g
structure GI (cs : List Prs) (lot S cn ws : List Int) : Prop where
  sub : ∃ q : Int → Bool, S = lot.filter q
  cnt : cn = cs.map fun prs => (inLot S prs : Int)
  nd : ws.Nodup
  rg : ∀ w ∈ ws, 0 ≤ w ∧ w < cs.length
  one : ∀ (c : Nat) prs, cs[c]? = some prs → inLot S prs = 1 → (c : Int) ∈ ws
  few : ∀ w ∈ ws, ∀ prs, cs[w.toNat]? = some prs → inLot S prs ≤ 1
  max : ∀ T : List Int, (∀ x ∈ T, x ∈ lot) → holdB cs T = true → ∀ x ∈ T, x ∈ S
theorem GI.mem {cs : List Prs} {lot S cn ws : List Int} (h : GI cs lot S cn ws) : ∀ x ∈ S, x ∈ lot := fun x hx => by
  obtain ⟨q, e⟩ := h.sub
  rw [e] at hx
  exact (List.mem_filter.mp hx).1
theorem GI.done {cs : List Prs} {lot S cn : List Int} (h : GI cs lot S cn []) : Great cs lot S := by
  refine ⟨h.sub, ?_, h.max⟩
  unfold holdB
  rw [List.all_eq_true]
  intro prs hp
  refine decide_eq_true fun z => ?_
  obtain ⟨c, hc⟩ := List.getElem?_of_mem hp
  exact absurd (h.one c prs hc z) (by simp)
theorem GI.drop {cs : List Prs} {lot S cn ws : List Int} {w : Int} {prs : Prs} (h : GI cs lot S cn (ws ++ [w])) (hp : cs[w.toNat]? = some prs) (h0 : inLot S prs = 0) : GI cs lot S cn ws := by
  obtain ⟨n1, _, n3⟩ := List.nodup_append.mp h.nd
  refine ⟨h.sub, h.cnt, n1, fun x hx => h.rg x (List.mem_append_left _ hx), fun c u hu h1 => ?_, fun x hx => h.few x (List.mem_append_left _ hx), h.max⟩
  rcases List.mem_append.mp (h.one c u hu h1) with z | z
  · exact z
  · have e := List.mem_singleton.mp z
    rw [← e, Int.toNat_natCast, hu] at hp
    cases hp
    omega
theorem inLot_mono {S T : List Int} (h : ∀ x ∈ T, x ∈ S) (prs : Prs) : inLot T prs ≤ inLot S prs := by
  unfold inLot
  induction prs with
  | nil => exact Nat.le_refl _
  | cons pr prs ih =>
    rw [List.filter_cons, List.filter_cons]
    by_cases c : pr.1 ∈ T
    · rw [if_pos (by simpa using c), if_pos (by simpa using h _ c), List.length_cons, List.length_cons]; omega
    · rw [if_neg (by simpa using c)]
      by_cases c2 : pr.1 ∈ S
      · rw [if_pos (by simpa using c2), List.length_cons]; omega
      · rw [if_neg (by simpa using c2)]; exact ih
theorem inLot_less {S : List Int} {x : Int} (hx : x ∈ S) (prs : Prs) : inLot S prs = (prs.map (·.1)).count x + inLot (S.filter fun y => decide (y ≠ x)) prs := by
  unfold inLot
  induction prs with
  | nil => rfl
  | cons pr prs ih =>
    rw [List.filter_cons, List.filter_cons, List.map_cons, List.count_cons]
    by_cases c : pr.1 = x
    · rw [if_pos (by simp [c, hx]), if_pos (by simp [c]), if_neg (by simp [c]), List.length_cons, ih]; omega
    · by_cases c2 : pr.1 ∈ S
      · rw [if_pos (by simpa using c2), if_neg (by simpa using c), if_pos (by simp [c, c2]), List.length_cons, List.length_cons, ih]; omega
      · rw [if_neg (by simpa using c2), if_neg (by simpa using c), if_neg (by simp [c2]), ih]; omega
theorem inLot_pos {T : List Int} {x : Int} {prs : Prs} (hx : x ∈ T) (h : x ∈ prs.map (·.1)) : 1 ≤ inLot T prs := by
  obtain ⟨pr, hp, e⟩ := List.mem_map.mp h
  unfold inLot
  exact List.length_pos_of_mem (List.mem_filter.mpr ⟨hp, by rw [e]; simpa using hx⟩)
structure GJ (cs : List Prs) (S row : List Int) (c0 : Int) (m : Nat) (cn ws : List Int) : Prop where
  len : cn.length = cs.length
  cnt : ∀ (c : Nat) prs, cs[c]? = some prs → cn[c]? = some ((inLot S prs : Int) - ((row.take m).count (c : Int) : Int))
  nd : ws.Nodup
  rg : ∀ w ∈ ws, 0 ≤ w ∧ w < cs.length
  one : ∀ (c : Nat), cn[c]? = some 1 → (c : Int) ∈ ws ∨ (c : Int) = c0
  few : ∀ w ∈ ws, ∀ v, cn[w.toNat]? = some v → v ≤ 1
theorem GI.start {cs : List Prs} {lot S cn ws row : List Int} {c0 : Int} (h : GI cs lot S cn (ws ++ [c0])) : GJ cs S row c0 0 cn ws := by
  obtain ⟨n1, _, n3⟩ := List.nodup_append.mp h.nd
  have hcn : ∀ (c : Nat) v, cn[c]? = some v → ∃ prs, cs[c]? = some prs ∧ v = (inLot S prs : Int) := fun c v e => by
    rw [h.cnt] at e
    exact map_at e
  refine ⟨by rw [h.cnt, List.length_map], fun c prs e => ?_, n1, fun x hx => h.rg x (List.mem_append_left _ hx), fun c e => ?_, fun x hx v e => ?_⟩
  · rw [h.cnt, List.getElem?_map, e]
    simp
  · obtain ⟨prs, e1, e2⟩ := hcn c 1 e
    rcases List.mem_append.mp (h.one c prs e1 (by omega)) with z | z
    · exact .inl z
    · exact .inr (List.mem_singleton.mp z)
  · obtain ⟨prs, e1, e2⟩ := hcn _ v e
    have := h.few x (List.mem_append_left _ hx) prs e1
    omega
theorem GJ.at {cs : List Prs} {S row cn ws : List Int} {c0 : Int} {m : Nat} (h : GJ cs S row c0 m cn ws) {c : Int} (h0 : 0 ≤ c) (h1 : c < cs.length) : ∃ v, cn[c.toNat]? = some v := by
  have := h.len
  exact ⟨_, List.getElem?_eq_getElem (by omega)⟩
theorem GJ.step {cs : List Prs} {S row cn ws : List Int} {c0 c v : Int} {m : Nat} (h : GJ cs S row c0 m cn ws) (hm : row[m]? = some c) (h0 : 0 ≤ c) (h1 : c < cs.length) (hv : cn[c.toNat]? = some v) :
    GJ cs S row c0 (m + 1) (cn.set c.toNat (v - 1)) (if v - 1 = 1 then ws ++ [c] else ws) := by
  have hlc : c.toNat < cn.length := (List.getElem?_eq_some_iff.mp hv).1
  have hcc : ((c.toNat : Nat) : Int) = c := by omega
  have few' : ∀ w ∈ ws, ∀ u, (cn.set c.toNat (v - 1))[w.toNat]? = some u → u ≤ 1 := fun w hw u e => by
    by_cases z : c.toNat = w.toNat
    · rw [z, List.getElem?_set_self (by omega)] at e
      cases e
      rw [z] at hv
      have := h.few w hw v hv
      omega
    · rw [List.getElem?_set_ne z] at e
      exact h.few w hw u e
  refine ⟨by rw [List.length_set]; exact h.len, fun k prs e => ?_, ?_, ?_, fun k e => ?_, ?_⟩
  · have e0 := h.cnt k prs e
    rw [take_snoc hm, List.count_append, List.count_singleton]
    by_cases z : c.toNat = k
    · subst z
      rw [List.getElem?_set_self hlc, hcc]
      rw [e0, hcc] at hv
      cases hv
      rw [if_pos (by simp)]
      congr 1
      omega
    · rw [List.getElem?_set_ne z, e0, if_neg (by simp; omega)]
      rfl
  · split
    · rename_i hone
      rw [List.nodup_append]
      refine ⟨h.nd, by simp, fun a ha b hb z => ?_⟩
      rw [List.mem_singleton.mp hb] at z
      subst z
      have := h.few a ha v hv
      omega
    · exact h.nd
  · split
    · intro w hw
      rcases List.mem_append.mp hw with z | z
      · exact h.rg w z
      · rw [List.mem_singleton.mp z]; exact ⟨h0, h1⟩
    · exact h.rg
  · by_cases z : c.toNat = k
    · subst z
      rw [List.getElem?_set_self hlc] at e
      have e := Option.some.inj e
      rw [if_pos e, hcc]
      exact .inl (List.mem_append_right _ (by simp))
    · rw [List.getElem?_set_ne z] at e
      rcases h.one k e with q | q
      · split
        · exact .inl (List.mem_append_left _ q)
        · exact .inl q
      · exact .inr q
  · split
    · rename_i hone
      intro w hw u e
      rcases List.mem_append.mp hw with z | z
      · exact few' w z u e
      · rw [List.mem_singleton.mp z, List.getElem?_set_self hlc] at e
        cases e
        omega
    · exact few'
theorem GJ.fin {cs : List Prs} {lot S cn cn' ws ws' row : List Int} {c0 x : Int} {prs0 : Prs} (h : GI cs lot S cn (ws ++ [c0])) (hp0 : cs[c0.toNat]? = some prs0) (hx : x ∈ S) (hx0 : x ∈ prs0.map (·.1)) (hrow : ∀ (c : Nat) prs, cs[c]? = some prs → row.count (c : Int) = (prs.map (·.1)).count x)
    (j : GJ cs S row c0 row.length cn' ws') : GI cs lot (S.filter fun y => decide (y ≠ x)) cn' ws' := by
  have hc0 := h.rg c0 (List.mem_append_right _ (by simp))
  have hfew := h.few c0 (List.mem_append_right _ (by simp)) prs0 hp0
  have hone := inLot_pos hx hx0
  have hn : ∀ prs, inLot (S.filter fun y => decide (y ≠ x)) prs = inLot S prs - (prs.map (·.1)).count x := fun prs => by have := inLot_less hx prs; omega
  have hcn : ∀ (c : Nat) prs, cs[c]? = some prs → cn'[c]? = some (inLot (S.filter fun y => decide (y ≠ x)) prs : Int) := fun c prs e => by
    rw [j.cnt c prs e, List.take_length, hrow c prs e]
    have := inLot_less hx prs
    congr 1
    omega
  refine ⟨?_, ?_, j.nd, j.rg, fun c prs e h1 => ?_, fun w hw prs e => ?_, fun T hT ho y hy => ?_⟩
  · obtain ⟨q, e⟩ := h.sub
    exact ⟨_, by rw [e, List.filter_filter]⟩
  · apply List.ext_getElem?
    intro k
    rw [List.getElem?_map]
    cases e : cs[k]? with
    | none =>
      have := List.getElem?_eq_none_iff.mp e
      rw [List.getElem?_eq_none (by have := j.len; omega)]; rfl
    | some prs => rw [hcn k prs e]; rfl
  · have e1 := hcn c prs e
    rw [h1] at e1
    rcases j.one c e1 with z | z
    · exact z
    · rw [← z, Int.toNat_natCast, e] at hp0
      have e9 := Option.some.inj hp0
      subst e9
      have := inLot_less hx prs
      have hcp : 0 < (prs.map (·.1)).count x := List.count_pos_iff.mpr hx0
      omega
  · have hw0 := j.rg w hw
    have e1 := hcn w.toNat prs e
    have := j.few w hw _ e1
    omega
  · refine List.mem_filter.mpr ⟨h.max T hT ho y hy, decide_eq_true fun z => ?_⟩
    subst z
    have hTS := h.max T hT ho
    have a1 := inLot_mono hTS prs0
    have a2 := inLot_pos hy hx0
    unfold holdB at ho
    rw [List.all_eq_true] at ho
    exact of_decide_eq_true (ho prs0 (List.mem_of_getElem? hp0)) (by omega)
theorem GI.init {cs : List Prs} {lot ws : List Int} (hws : ws = ((List.range cs.length).filter fun c => decide (inLot lot (cs.getD c []) = 1)).map fun (c : Nat) => (c : Int)) : GI cs lot lot (cs.map fun prs => (inLot lot prs : Int)) ws := by
  subst hws
  refine ⟨⟨fun _ => true, (List.filter_eq_self.mpr fun _ _ => rfl).symm⟩, rfl, ?_, fun w hw => ?_, fun c prs e h1 => ?_, fun w hw prs e => ?_, fun T hT _ y hy => hT y hy⟩
  · rw [List.nodup_iff_pairwise_ne, List.pairwise_map]
    exact (List.pairwise_lt_range.filter _).imp fun h => by omega
  · obtain ⟨c, hc, rfl⟩ := List.mem_map.mp hw
    have := List.mem_range.mp (List.mem_filter.mp hc).1
    omega
  · refine List.mem_map.mpr ⟨c, List.mem_filter.mpr ⟨List.mem_range.mpr (List.getElem?_eq_some_iff.mp e).1, ?_⟩, rfl⟩
    rw [List.getD_eq_getElem?_getD, e]
    exact decide_eq_true h1
  · obtain ⟨c, hc, rfl⟩ := List.mem_map.mp hw
    have := of_decide_eq_true (List.mem_filter.mp hc).2
    rw [Int.toNat_natCast] at e
    rw [List.getD_eq_getElem?_getD, e] at this
    have h1 : inLot lot prs = 1 := this
    omega
theorem GI.len {cs : List Prs} {lot S cn ws : List Int} (h : GI cs lot S cn ws) : ws.length ≤ cs.length := by
  have := List.Nodup.length_le_of_subset (l₂ := (List.range cs.length).map fun (i : Nat) => (i : Int)) h.nd fun k hk => by
    obtain ⟨a, b⟩ := h.rg k hk
    exact List.mem_map.mpr ⟨k.toNat, List.mem_range.mpr (by omega), by omega⟩
  simpa using this
theorem GJ.wlen {cs : List Prs} {S row cn ws : List Int} {c0 : Int} {m : Nat} (h : GJ cs S row c0 m cn ws) : ws.length ≤ cs.length := by
  have := List.Nodup.length_le_of_subset (l₂ := (List.range cs.length).map fun (i : Nat) => (i : Int)) h.nd fun k hk => by
    obtain ⟨a, b⟩ := h.rg k hk
    exact List.mem_map.mpr ⟨k.toNat, List.mem_range.mpr (by omega), by omega⟩
  simpa using this
@[reducible] def insK (S : List Int) : Ks := S.map fun x => (x, PyData.bool true)
theorem insK_has (S : List Int) (k : Int) : hasI (insK S) k = decide (k ∈ S) := by
  rw [Bool.eq_iff_iff, hasI_iff, List.map_map, decide_eq_true_eq]
  have : S.map ((·.1) ∘ fun x => (x, PyData.bool true)) = S := List.map_id'' (fun _ => rfl) S
  rw [this]
theorem insK_drop (S : List Int) (k : Int) : dropI (insK S) k = insK (S.filter fun y => decide (y ≠ k)) := by
  unfold dropI insK
  rw [List.filter_map]
  rfl
theorem insK_puts {S : List Int} (nd : S.Nodup) : putsI [] (insK S) = insK S := by
  have key : ∀ (S : List Int) (acc : List Int), (acc ++ S).Nodup → putsI (insK acc) (insK S) = insK (acc ++ S) := by
    intro S
    induction S with
    | nil => intro acc _; simp [putsI, insK]
    | cons x S ih =>
      intro acc nd
      have hx : x ∉ acc := fun z => (List.nodup_append.mp nd).2.2 x z x (by simp) rfl
      show putsI (putI (insK acc) x (.bool true)) (insK S) = _
      have e : putI (insK acc) x (.bool true) = insK (acc ++ [x]) := by
        unfold putI
        rw [insK_has, if_neg (by simpa using hx)]
        unfold insK
        rw [List.map_append]; rfl
      rw [e, ih (acc ++ [x]) (by rw [List.append_assoc]; exact nd), List.append_assoc]
      rfl
  have := key S [] (by simpa using nd)
  simpa using this
theorem Great.uniq {cs : List Prs} {lot g g' : List Int} (h : Great cs lot g) (h' : Great cs lot g') : g = g' := by
  obtain ⟨q, e⟩ := h.sub
  obtain ⟨q', e'⟩ := h'.sub
  have m1 : ∀ x ∈ g, x ∈ lot := fun x hx => by rw [e] at hx; exact (List.mem_filter.mp hx).1
  have m2 : ∀ x ∈ g', x ∈ lot := fun x hx => by rw [e'] at hx; exact (List.mem_filter.mp hx).1
  rw [e, e']
  apply List.filter_congr
  intro x hx
  rw [Bool.eq_iff_iff]
  constructor
  · intro hq
    have : x ∈ g := by rw [e]; exact List.mem_filter.mpr ⟨hx, hq⟩
    have := h'.max g m1 h.out x this
    rw [e'] at this
    exact (List.mem_filter.mp this).2
  · intro hq
    have : x ∈ g' := by rw [e']; exact List.mem_filter.mpr ⟨hx, hq⟩
    have := h.max g' m2 h'.out x this
    rw [e] at this
    exact (List.mem_filter.mp this).2
def Bare (cs : List Prs) (lot : List Int) : Prop := lot ≠ [] ∧ holdB cs lot = true ∧ ∀ T : List Int, T ≠ [] → (∀ x ∈ T, x ∈ lot) → (∃ y ∈ lot, y ∉ T) → holdB cs T = false
theorem great_nil {cs : List Prs} {lot g : List Int} (h : Great cs lot g) : g = [] ↔ ∀ T : List Int, T ≠ [] → (∀ x ∈ T, x ∈ lot) → holdB cs T = false := by
  constructor
  · rintro rfl T hT hs
    refine Bool.eq_false_iff.mpr fun z => ?_
    obtain ⟨x, t, e⟩ := List.exists_cons_of_ne_nil hT
    have := h.max T hs z x (by rw [e]; exact List.mem_cons_self ..)
    simp at this
  · intro z
    refine Classical.byContradiction fun hg => ?_
    have := z g hg (fun x hx => by obtain ⟨q, e⟩ := h.sub; rw [e] at hx; exact (List.mem_filter.mp hx).1)
    rw [h.out] at this
    cases this
end L2

set_option maxRecDepth 100000
set_option maxHeartbeats 4000000
namespace L2
open PySem PySem.Spec PyProof.Rows
theorem rise_uniq : ∀ {a b : List Int}, a.Pairwise (· < ·) → b.Pairwise (· < ·) → (∀ k, k ∈ a ↔ k ∈ b) → a = b
  | [], [], _, _, _ => rfl
  | [], y :: b, _, _, h => absurd ((h y).mpr (List.mem_cons_self ..)) (by simp)
  | x :: a, [], _, _, h => absurd ((h x).mp (List.mem_cons_self ..)) (by simp)
  | x :: a, y :: b, ha, hb, h => by
    obtain ⟨ha1, ha2⟩ := List.pairwise_cons.mp ha
    obtain ⟨hb1, hb2⟩ := List.pairwise_cons.mp hb
    have e : x = y := by
      rcases List.mem_cons.mp ((h x).mp (List.mem_cons_self ..)) with z | z
      · exact z
      · rcases List.mem_cons.mp ((h y).mpr (List.mem_cons_self ..)) with w | w
        · exact w.symm
        · have := hb1 x z; have := ha1 y w; omega
    subst e
    have : a = b := rise_uniq ha2 hb2 fun k => by
      constructor
      · intro hk
        rcases List.mem_cons.mp ((h k).mp (List.mem_cons_of_mem _ hk)) with z | z
        · have := ha1 k hk; omega
        · exact z
      · intro hk
        rcases List.mem_cons.mp ((h k).mpr (List.mem_cons_of_mem _ hk)) with z | z
        · have := hb1 k hk; omega
        · exact z
    rw [this]
theorem sorted_is {a b : List Int} (h : b.Pairwise (· < ·)) (hs : a.Pairwise (· ≤ ·)) (hp : a.Perm b) : a = b := by
  have nd : a.Nodup := hp.nodup_iff.mpr (h.imp fun h => by omega)
  have hlt : a.Pairwise (· < ·) := (hs.and nd).imp fun ⟨h1, h2⟩ => by omega
  exact rise_uniq hlt h fun k => hp.mem_iff
theorem peel_max {cs : List Prs} {lot S : List Int} {prs : Prs} {x : Int} (h : ∀ T : List Int, (∀ x ∈ T, x ∈ lot) → holdB cs T = true → ∀ x ∈ T, x ∈ S) (hp : prs ∈ cs) (h1 : inLot S prs = 1) (hx0 : x ∈ prs.map (·.1)) :
    ∀ T : List Int, (∀ x ∈ T, x ∈ lot) → holdB cs T = true → ∀ y ∈ T, y ∈ S.filter fun y => decide (y ≠ x) := fun T hT ho y hy => by
  refine List.mem_filter.mpr ⟨h T hT ho y hy, decide_eq_true fun z => ?_⟩
  subst z
  have a1 := inLot_mono (h T hT ho) prs
  have a2 := inLot_pos hy hx0
  unfold holdB at ho
  rw [List.all_eq_true] at ho
  exact of_decide_eq_true (ho prs hp) (by omega)
theorem holdB_nil (cs : List Prs) : holdB cs [] = true := by
  unfold holdB
  rw [List.all_eq_true]
  intro prs _
  refine decide_eq_true fun z => ?_
  have : inLot [] prs = 0 := by unfold inLot; rw [List.filter_eq_nil_iff.mpr (fun x _ => by simp)]; rfl
  omega
theorem Great.mem {cs : List Prs} {lot g : List Int} (h : Great cs lot g) : ∀ x ∈ g, x ∈ lot := fun x hx => by
  obtain ⟨q, e⟩ := h.sub
  rw [e] at hx
  exact (List.mem_filter.mp hx).1
theorem Great.up {cs : List Prs} {lot g : List Int} (h : Great cs lot g) (hl : lot.Pairwise (· < ·)) : g.Pairwise (· < ·) := by
  obtain ⟨q, e⟩ := h.sub
  rw [e]
  exact hl.filter q
theorem Great.lot {cs : List Prs} {lot g : List Int} {n : Int} (h : Great cs lot g) (hl : LotOk n lot) : LotOk n g := by
  obtain ⟨q, e⟩ := h.sub
  rw [e]
  exact hl.filter q
open Classical in
noncomputable def grF (cs : List Prs) (lot : List Int) : List Int := if h : ∃ g, Great cs lot g then Classical.choose h else []
theorem grF_eq {cs : List Prs} {lot g : List Int} (h : Great cs lot g) : grF cs lot = g := by
  unfold grF
  have hx : ∃ g, Great cs lot g := ⟨g, h⟩
  rw [dif_pos hx]
  exact (Classical.choose_spec hx).uniq h
noncomputable def stepF (cs : List Prs) (l : List Int) (x : Int) : List Int := if x ∈ l then (if grF cs (l.filter fun y => decide (y ≠ x)) = [] then l else grF cs (l.filter fun y => decide (y ≠ x))) else l
structure BF (cs : List Prs) (l0 ps m : List Int) : Prop where
  sub : ∃ q : Int → Bool, m = l0.filter q
  ne : m ≠ []
  out : holdB cs m = true
  done : ∀ x ∈ ps, x ∈ m → ∀ T : List Int, T ≠ [] → (∀ y ∈ T, y ∈ m ∧ y ≠ x) → holdB cs T = false
theorem BF.step {cs : List Prs} {l0 ps m g : List Int} {x : Int} (h : BF cs l0 ps m) (hg : x ∈ m → Great cs (m.filter fun y => decide (y ≠ x)) g) : BF cs l0 (ps ++ [x]) (stepF cs m x) := by
  unfold stepF
  by_cases c : x ∈ m
  · have hG := hg c
    rw [if_pos c, grF_eq hG]
    by_cases c2 : g = []
    · rw [if_pos c2]
      refine ⟨h.sub, h.ne, h.out, fun y hy hym T hT hs => ?_⟩
      rcases List.mem_append.mp hy with z | z
      · exact h.done y z hym T hT hs
      · rw [List.mem_singleton.mp z] at hs
        exact (great_nil hG).mp c2 T hT fun w hw => List.mem_filter.mpr ⟨(hs w hw).1, decide_eq_true (hs w hw).2⟩
    · rw [if_neg c2]
      have hgm : ∀ w ∈ g, w ∈ m ∧ w ≠ x := fun w hw => by
        obtain ⟨a, b⟩ := List.mem_filter.mp (hG.mem w hw)
        exact ⟨a, of_decide_eq_true b⟩
      refine ⟨?_, c2, hG.out, fun y hy hyg T hT hs => ?_⟩
      · obtain ⟨q1, e1⟩ := hG.sub
        obtain ⟨q2, e2⟩ := h.sub
        exact ⟨_, by rw [e1, e2, List.filter_filter, List.filter_filter]⟩
      · rcases List.mem_append.mp hy with z | z
        · exact h.done y z (hgm y hyg).1 T hT fun w hw => ⟨(hgm w (hs w hw).1).1, (hs w hw).2⟩
        · rw [List.mem_singleton.mp z] at hyg
          exact absurd rfl (hgm x hyg).2
  · rw [if_neg c]
    refine ⟨h.sub, h.ne, h.out, fun y hy hym T hT hs => ?_⟩
    rcases List.mem_append.mp hy with z | z
    · exact h.done y z hym T hT hs
    · rw [List.mem_singleton.mp z] at hym
      exact absurd hym c
end L2

set_option maxRecDepth 100000
set_option maxHeartbeats 8000000
namespace K33
open PySem L2
def top (i : Nat) : Stmt := PySem.Challenge.pw_fewchecks_k33_whole_one_place_more_or_le.main.body.getD i (.Pass ⟨0, 0, 0, 0⟩)
abbrev sSeats : Stmt := top 1
abbrev sHoldsOut : Stmt := top 3
abbrev sStands : Stmt := top 4
abbrev sGreatest : Stmt := top 5
abbrev sInsideOf : Stmt := top 6
abbrev sIsBare : Stmt := top 7
abbrev sWithout : Stmt := top 8
abbrev sLawBag : Stmt := top 10
abbrev sLawDraw : Stmt := top 11
abbrev sLawPrimeFrom : Stmt := top 12
abbrev sLawPrime : Stmt := top 13
abbrev sLawFactor : Stmt := top 14
abbrev sLawPlaces : Stmt := top 15
abbrev sLawJustOne : Stmt := top 16
abbrev sLawHolds : Stmt := top 17
abbrev sLawLot : Stmt := top 18
abbrev sLawWithMore : Stmt := top 19
abbrev sLawLotsNet : Stmt := top 20
abbrev sLawPeeled : Stmt := top 21
abbrev sLawTurned : Stmt := top 22
abbrev sLawCopy : Stmt := top 23
abbrev sLawAlike : Stmt := top 24
abbrev sLawSays : Stmt := top 25
abbrev sLawWithout : Stmt := top 26
abbrev sLawBare : Stmt := top 27
abbrev sLawBared : Stmt := top 28
abbrev sLawAsked : Stmt := top 29
abbrev sLaw : Stmt := top 30
local macro_rules | `(tactic| walk_at "d0") => `(tactic| first | omega | assumption | decide | (unfold Sm at *; omega) | (unfold CMul; omega) | (unfold CPow; decide) | (unfold CPow; omega))
local macro_rules | `(tactic| walk_at "ds") => `(tactic| ((try dsimp only); first | walk_at "d0" | (refine And.intro ?_ ?_ <;> walk_at "d0") | (refine Or.inl ?_; walk_at "d0") | (refine Or.inr (And.intro ?_ ?_) <;> walk_at "d0")))
local macro_rules | `(tactic| walk_at "s1") => `(tactic| with_reducible first
  | refine R.seq ?_ | refine R.asg ?_ | refine R.setC ?_ | refine R.ifS ?_ | refine R.ret ?_ | refine R.drop ?_ | refine R.next ?_ | refine R.c ?_ | refine R.op ?_ | refine R.un ?_ | refine R.test ?_ | refine R.bl ?_ | refine R.tru ?_
  | refine R.and ?_ | refine R.or ?_ | refine R.not ?_ | refine R.notV ?_ | refine R.ifE ?_ | refine R.cb ?_ | refine R.call ?_ | refine R.nil ?_ | refine R.cints ?_ | refine R.cons ?_
  | refine R.tup ?_ | refine R.lst ?_ | refine R.sl ?_ | refine R.noPart ?_ | refine R.part ?_ | refine R.bm0 ?_ | refine R.bm ?_ | refine R.tyInt ?_ | refine R.gname ?_ | refine R.gsub ?_ | refine R.gcons ?_ | refine R.gnil ?_ | refine R.noTest ?_
  | refine R.rI0 ?_ | refine R.rU ?_ | refine R.eqI ?_ | refine R.neI ?_ | refine R.eqNI ?_ | refine R.eqIN ?_ | refine R.isI ?_ | refine R.isN ?_ | refine R.notI ?_ | refine R.notN ?_ | refine R.intB ?_ | refine R.bits ?_
  | refine iteT ?_ | refine iteF ?_ | refine R.nilE ?_ | refine R.isiII ?_ | refine R.isiIB ?_ | refine R.rng1 ?_ | refine R.rng2 ?_ | refine R.iL ?_ | refine R.for_ ?_ | refine R.comp ?_)
local macro_rules | `(tactic| walk_at "st") => `(tactic| repeat (first
  | walk_at "s1"
  | ((with_reducible refine' R.var ?h0 ?_); (case h0 => rfl))
  | ((with_reducible refine' R.rI ?h1 ?_); (case h1 => walk_at "ds"))
  | ((with_reducible refine' R.ixS (o := .lst []) ?h1 ?_); (case h1 => rfl))
  | ((with_reducible refine' R.ixM ?h0 ?h1 ?_); (case h0 => assumption); (case h1 => rfl))
  | ((with_reducible refine' R.ixTM ?h0 ?h1 ?_); (case h0 => assumption); (case h1 => rfl))
  | ((with_reducible refine' R.setS ?h1 ?_); (case h1 => rfl))
  | ((with_reducible refine' R.setM ?h0 ?h1 ?_); (case h0 => assumption); (case h1 => rfl))
  | ((with_reducible refine' R.lenM ?h0 ?_); (case h0 => assumption))
  | ((with_reducible refine' R.lenL ?h0 ?_); (case h0 => assumption))
  | ((with_reducible refine' R.rng1I ?h0 ?h1 ?_); (case h0 => walk_at "ds"); (case h1 => walk_at "ds"))
  | ((with_reducible refine' R.rng2I ?h0 ?_); (case h0 => walk_at "ds"))
  | ((with_reducible refine' R.iL1 ?h0 ?_); (case h0 => assumption))
  | ((with_reducible refine' R.iteP ?h0 ?_); (case h0 => first | exact R.dT (by omega) | exact R.dTn (by omega) | decide))
  | ((with_reducible refine' R.iteN ?h0 ?_); (case h0 => first | exact R.dF (by omega) | exact R.dFn (by omega) | decide))
  | (with_reducible refine R.min2 ?_) | (with_reducible refine R.abs1 ?_) | (with_reducible refine R.partI ?_)))
local macro_rules | `(tactic| walk_at "fv") => `(tactic| first | exact Or.inl rfl | exact Or.inr (Or.inl rfl) | exact Or.inr (Or.inr (Or.inl rfl)) | exact Or.inr (Or.inr (Or.inr (Or.inl rfl))) | exact Or.inr (Or.inr (Or.inr (Or.inr rfl))))
local macro_rules | `(tactic| walk_at "d1") => `(tactic| with_reducible first
  | refine Sv.seq ?_ | refine Sv.asgNil ?_ | refine Sv.asg ?_ | refine Sv.setCF ?_ | refine Sv.ifS ?_ | refine Sv.ret ?_ | refine Sv.next ?_ | refine Sv.retN ?_
  | refine Ev.int ?_ | refine Ev.bl ?_ | refine Ev.non ?_ | refine Ev.rI0 ?_ | refine Ev.rB0 ?_ | refine Ev.rI ?_ | refine Ev.rU ?_ | refine Ev.eq ?_ | refine Ev.ne ?_ | refine Ev.is ?_ | refine Ev.isB ?_ | refine Ev.isNotB ?_ | refine Ev.isNot ?_ | refine Ev.eqD ?_ | refine Ev.rev ?_ | refine Ev.inI ?_ | refine Ev.str ?_ | refine Ev.primeFrom ?_ | refine Ev.slT ?_ | refine Ev.catT ?_
  | refine Ev.andV ?_ | refine Ev.orV ?_ | refine Ev.notV ?_ | refine Ev.ifE ?_ | refine Tv.test ?_ | refine Tv.and ?_ | refine Tv.or ?_ | refine Tv.not ?_ | refine Tv.noTest ?_ | refine Tv.truB ?_
  | refine Ev.tupF ?_ | refine Ev.tupS ?_ | refine Ev.tup ?_ | refine Ev.lst ?_ | refine Av.nil ?_ | refine Av.cons ?_ | refine Av.cints ?_ | refine Ov.none ?_ | refine Ov.some ?_ | refine Ev.min2 ?_ | refine Ev.max2 ?_ | refine Ev.abs1 ?_ | refine Ev.intB ?_ | refine Ev.whole ?_
  | refine R.di ?_ | refine R.db ?_ | refine R.dl ?_ | refine R.dt ?_ | refine R.dll ?_ | refine R.dlt ?_ | refine R.eqii ?_ | refine R.eqni ?_ | refine R.eqin ?_ | refine R.eqnn ?_ | refine R.eqbb ?_
  | refine Gv.nameI ?_ | refine Gv.nameB ?_ | refine Gv.nameN ?_ | refine Gv.nameT ?_ | refine Gv.nameF ?_ | refine Gv.snil ?_ | refine Gv.scons ?_ | refine iteT ?_ | refine iteF ?_)
local macro_rules | `(tactic| walk_at "dt") => `(tactic| repeat (first
  | ((with_reducible refine' Sv.retOwn ?h0 ?_); (case h0 => rfl))
  | ((with_reducible refine' Sv.setOwn ?h0 ?_); (case h0 => rfl))
  | walk_at "d1"
  | ((with_reducible refine' Ev.var ?h0 ?_); (case h0 => rfl))
  | ((with_reducible refine' Ev.draw ?h0 ?_); (case h0 => rfl))
  | ((with_reducible refine' Ev.prime ?h0 ?_); (case h0 => rfl))
  | ((with_reducible refine' Ev.ixOwn ?h0 ?_); (case h0 => rfl))
  | ((with_reducible refine' Ev.lenOwn ?h0 ?_); (case h0 => rfl))
  | ((with_reducible refine' Ev.lenRaw ?h0 ?h1 ?_); (case h0 => rfl); (case h1 => assumption))
  | ((with_reducible refine' Ev.listOwn ?h0 ?_); (case h0 => rfl))
  | ((with_reducible refine' Ev.slOwn ?h0 ?_); (case h0 => rfl))
  | ((with_reducible refine' Sv.append ?h0 ?_); (case h0 => rfl))
  | ((with_reducible refine' Sv.setOwn ?h0 ?_); (case h0 => rfl))
  | ((with_reducible refine' Sv.retOwn ?h0 ?_); (case h0 => rfl))
  | ((with_reducible refine' Gv.tup ?h0 ?_); (case h0 => rfl))
  | ((with_reducible refine' Gv.lst ?h0 ?_); (case h0 => rfl))
  | ((with_reducible refine' R.at_ ?h0 ?_); (case h0 => first | rfl | assumption))
  | (with_reducible refine Ev.ixL ?_) | (with_reducible refine Ev.ixT ?_) | (with_reducible refine Ev.listOf ?_) | (with_reducible refine Ev.sl ?_) | (with_reducible refine Ev.cat ?_) | (with_reducible refine Ev.lenS ?_)
  | ((with_reducible refine' Ev.isi ?h0 ?_); (case h0 => walk_at "fv"))
  | ((with_reducible refine' Ev.isi2 ?h0 ?h1 ?_); (case h0 => walk_at "fv"); (case h1 => walk_at "fv"))
  | (with_reducible refine Ev.all ?_) | (with_reducible refine Ev.sum ?_) | (with_reducible refine Ev.ixS ?_)
  | ((with_reducible refine' R.lnil ?_))
  | ((with_reducible refine' R.iteP ?h0 ?_); (case h0 => first | exact R.dT (by omega) | exact R.dTn (by omega) | rfl))
  | ((with_reducible refine' R.iteN ?h0 ?_); (case h0 => first | exact R.dF (by omega) | exact R.dFn (by omega) | exact Bool.false_ne_true))
  | ((with_reducible refine' R.cnd ?h0 ?_); (case h0 => first | walk_at "ds" | exact Nat.le_of_ble_eq_true rfl))))
local macro_rules | `(tactic| walk_at "wk") => `(tactic| repeat (first | exact Wk.nil | apply Wk.no | apply Wk.eq))

section
variable {P : Program} {w : World} {K : PySem.W.Frag} {mg : Str → Option Value} {base : Heap} {f : Addr} {fd : FuncData}
theorem scSeats : FnScope ["net", "told", "c", "pairs", "place", "factor"] ["net"] (defScope sSeats) := ⟨rfl, rfl, rfl, by decide +kernel, rfl, by decide +kernel, by decide +kernel⟩
theorem ok_seats (F : Fun K "seats" "seats" sSeats f fd)  (m_enumerate : mg "enumerate" = none) (m_range : mg "range" = none)  :
    FnOk P w K mg base CX0 1 f fd ["net"] spSeats := by
  refine F.ok scSeats (fun vs H Q E h => ?_) (fun cdv A outer s H vs Q E hr h => ?_)
  · obtain ⟨nb, p, n, cs, v, rfl, hrest⟩ := h
    rfl
  obtain ⟨nb, p, n, cs, v, rfl, hrest⟩ := h
  refine ⟨_, (@pss_cons _ _ _ _ _ (ps_setC (i := 1) scSeats.nd rfl rfl (CompOk.of (show compOkB (defScope sSeats) ["net", "told", "c", "pairs", "place", "factor"] _ ["place"] [none] = true by decide +kernel)) (@pi_range1 _ _ _ _ _ _ rfl m_range (@pa_cons _ _ _ _ _ (@pe_ix _ _ _ _ _ _ (rIxT K) ix_tup (pv 0) pe_int (fun _ _ => rfl)) pa_nil rfl) (by rfl)) (fun _ _ _ _ => ⟨(pg_name (i := 0) (by show List.Nodup (["place"] : List Str); decide +kernel) rfl (Or.inl rfl)), pts_nil, (@pe_lst _ _ _ _ pa_nil)⟩)) (@pss_cons _ _ _ _ _ (@ps_for _ _ _ _ _ _ _ _ PassesOwn.never rfl (@pi_enum _ (K) _ _ _ _ _ _ _ rfl rfl m_enumerate (@pe_ix _ _ _ _ _ _ (rIxT K) ix_tup (pv 0) pe_int (fun _ _ => rfl)) (by rfl)) (@pg_tupM _ (K) _ _ _ (2) _ rfl rfl (@pgs_cons _ _ _ _ _ (pg_name (i := 2) scSeats.nd rfl (Or.inl rfl)) (@pgs_cons _ _ _ _ _ (pg_name (i := 3) scSeats.nd rfl (Or.inl rfl)) pgs_nil (by rfl)) (by rfl)) (by rfl) (by rfl)) (@pss_one _ _ _ (@ps_for _ _ _ _ _ _ _ _ PassesOwn.never rfl (@pi_list _ _ _ _ (pv 3)) (@pg_tupM _ (K) _ _ _ (2) _ rfl rfl (@pgs_cons _ _ _ _ _ (pg_name (i := 4) scSeats.nd rfl (Or.inl rfl)) (@pgs_cons _ _ _ _ _ (pg_name (i := 5) scSeats.nd rfl (Or.inl rfl)) pgs_nil (by rfl)) (by rfl)) (by rfl) (by rfl)) (@pss_one _ _ _ (@ps_expr _ _ _ _ (pe_bm PySem.F.plainAttrs_list PySem.F.slot_list_append PySem.F.type_list_append mt_append (@pe_ix _ _ _ _ _ _ (rIxL K) ix_list (pv 1) (pv 4) (fun _ _ => rfl)) (@pa_cons _ _ _ _ _ (pv 2) pa_nil rfl)) (by rfl))) (by intro _; rfl))) (by intro _; rfl)) (@pss_one _ _ _ (@ps_ret _ _ _ _ (pv 1))))), ?_⟩
  exact seats_run ⟨nb, p, n, cs, v, rfl, hrest⟩
def F_stands : DF := fun ds Φ => ∃ (rows : List (List Int)) (lot : List Int), ds = [.list (rows.map rowD), .list (lot.map .int)] ∧ (∀ p ∈ lot, 0 ≤ p ∧ p < rows.length) ∧ (∀ r ∈ rows, ∀ c ∈ r, 0 ≤ c ∧ c < (1000 : Nat)) ∧ Φ true (.bool (noOne (Lr rows lot)))
theorem mono_stands : MonoF F_stands := fun ds Φ Ψ ⟨rows, lot, e, h1, h2, q⟩ z => ⟨rows, lot, e, h1, h2, z _ _ q⟩
theorem Lr_mem {rows : List (List Int)} {lot : List Int} {c : Int} (h : c ∈ Lr rows lot) : ∃ r ∈ rows, c ∈ r := by
  obtain ⟨p, _, h⟩ := List.mem_flatMap.mp h
  rw [List.getD_eq_getElem?_getD] at h
  cases e : rows[p.toNat]? with
  | none => rw [e] at h; simp at h
  | some r => rw [e] at h; exact ⟨r, List.mem_of_getElem? e, h⟩
theorem scStands : FnScope ["seated", "lot", "counts", "place", "c"] ["seated", "lot"] (defScope sStands) := ⟨rfl, rfl, rfl, by decide +kernel, rfl, by decide +kernel, by decide +kernel⟩
theorem ok_stands (F : Fun K "stands" "stands" sStands f fd)  (m_list : mg "list" = none)  :
    FnOk P w K mg base CX0 1 f fd ["seated", "lot"] (spD 2 F_stands) := by
  refine F.ok scStands (fun vs H Q E h => h.1) (fun cdv A outer s H vs Q E hr h => ?_)
  obtain ⟨_, nb, ds, hlive, hds, hF⟩ := h
  obtain ⟨Φ, hΦ, hF⟩ : ∃ Φ : Pd, (∀ f d v H', Φ f d → Same H H' → IsD (fun a => nb a ∨ (f = true ∧ H a ≠ none)) H' d v → Q v H') ∧ F_stands ds Φ := ⟨_, fun f d v H' q => q v H', hF⟩
  obtain ⟨rows, lot, rfl, hp, hc, q⟩ := hF
  refine ⟨_, (@pss_cons _ _ _ _ _ (@ps_set _ _ (2) _ _ _ _ scStands.nd rfl (Or.inl rfl) pe_dnewK (by rfl) (by first | exact .inl rfl | exact .inr rfl | assumption)) (@pss_cons _ _ _ _ _ (@ps_for _ _ _ _ _ _ _ _ PassesOwn.never rfl (@pi_list _ _ _ _ (pv 1)) (pg_name (i := 3) scStands.nd rfl (Or.inl rfl)) (@pss_one _ _ _ (@ps_for _ _ _ _ _ _ _ _ PassesOwn.never rfl (@pi_list _ _ _ _ (@pe_ix _ _ _ _ _ _ (rIxL K) ix_list (pv 0) (pv 3) (fun _ _ => rfl))) (pg_name (i := 4) scStands.nd rfl (Or.inl rfl)) (@pss_one _ _ _ (@ps_asg _ _ _ _ _ _ (@pe_op _ _ _ _ _ _ _ _ op_add (pe_bm PySem.F.plainAttrs_dict PySem.F.slot_dict_get PySem.F.type_dict_get mt_get2 (pv 2) (@pa_cons _ _ _ _ _ (pv 4) (@pa_cons _ _ _ _ _ pe_int pa_nil rfl) rfl)) pe_int) (pg_sub (pv 2) (pv 4) set_dict) (by rfl) (by rfl) (by rfl))) (by intro _; rfl))) (by intro _; rfl)) (@pss_one _ _ _ (@ps_ret _ _ _ _ (pe_cmpR (op_notInK (K := K) (by rfl)) pe_int (@pe_callTy _ _ _ _ _ _ _ _ (rListV) (call_listV rfl) rfl m_list PyProof.Rows.boot_list (@pa_cons _ _ _ _ _ (pe_bm0 PySem.F.plainAttrs_dict PySem.F.slot_dict_values PySem.F.type_dict_values mt_values (pv 2)) pa_nil rfl) (by decide) (by decide) (by rfl) (by rfl)) (by with_unfolding_all rfl)))))), ?_⟩
  refine Sv.enterD hlive hds hΦ (ρ := [.d false _, .d false _, .no, .no, .no]) rfl ?_
  clear hΦ hds
  refine Sv.seq ?_
  refine Sv.asgK (EvK.new ?_)
  intro A2
  refine Sv.seq ?_
  refine Sv.forL ?_
  walk_at "dt"
  refine fun v1 => ⟨fun i ρ => ∃ (ks : Ks) (f : Bool) (x3 x4 : Sl), CntK (Lr rows (lot.take i)) ks ∧ ρ = [.d false (.list (rows.map rowD)), .d false (.list (lot.map .int)), .dic A2 f ks, x3, x4], ⟨[], _, _, _, CntK.nil, rfl⟩, ?_, ?_⟩
  · rintro i d ρ hd ⟨ks, f, x3, x4, hk, rfl⟩
    obtain ⟨p, hpr, rfl⟩ := map_at hd
    obtain ⟨p0, p1⟩ := hp p (List.mem_of_getElem? hpr)
    obtain ⟨row, er, eat⟩ := atI_nat' (xs := rows) rowD p0 p1 rfl
    refine Gv.nameI ?_
    refine Sv.forL ?_
    walk_at "dt"
    refine fun v2 => ⟨fun m ρ => ∃ (ks : Ks) (f : Bool) (x4 : Sl), CntK (Lr rows (lot.take i) ++ row.take m) ks ∧ ρ = [.d false (.list (rows.map rowD)), .d false (.list (lot.map .int)), .dic A2 f ks, .d true (.int p), x4], ⟨ks, _, _, by simpa using hk, rfl⟩, ?_, ?_⟩
    · rintro m d ρ hd ⟨ks, f, x4, hk, rfl⟩
      obtain ⟨c, hcm, rfl⟩ := map_at hd
      refine Gv.nameI ?_
      refine Sv.putDic rfl ?_
      refine Ev.rI0 ?_
      refine Ev.getDic rfl ?_
      walk_at "dt"
      rw [hk.get c]
      walk_at "dt"
      have hlen := hk.len (m := 1000) fun x hx => by
        rcases List.mem_append.mp hx with h | h
        · obtain ⟨r, hr, hx⟩ := Lr_mem h
          exact hc r hr x hx
        · exact hc row (List.mem_of_getElem? er) x (List.mem_of_mem_take h)
      refine ⟨by omega, ?_⟩
      refine ⟨_, _, _, ?_, rfl⟩
      rw [take_snoc hcm, ← List.append_assoc]
      exact hk.put c
    · rintro ρ ⟨ks, f, x4, hk, rfl⟩
      rw [List.length_map, List.take_length] at hk
      refine ⟨ks, _, _, _, ?_, rfl⟩
      rw [take_snoc hpr, Lr_snoc, List.getD_eq_getElem?_getD, er]
      exact hk
  · rintro ρ ⟨ks, f, x3, x4, hk, rfl⟩
    rw [List.length_map, List.take_length] at hk
    obtain ⟨ns, e1, e2⟩ := hk.vals
    refine Sv.ret ?_
    refine Ev.inI ?_
    walk_at "dt"
    refine EvN.ev (EvN.listVals rfl ?_)
    rw [e1]
    refine ⟨ns, rfl, ?_⟩
    rw [e2]
    exact q
def F_holds_out : DF := fun ds Φ => ∃ (p n : Int) (cs : List Prs) (lot : List Int), ds = [netD p n cs, .list (lot.map .int)] ∧ LotNet n cs ∧ lot.Nodup ∧ (∀ x ∈ lot, 0 ≤ x ∧ x < n) ∧ Φ true (.bool (holdB cs lot))
theorem mono_holds_out : MonoF F_holds_out := fun ds Φ Ψ ⟨p, n, cs, lot, e, h1, h2, h3, q⟩ z => ⟨p, n, cs, lot, e, h1, h2, h3, z _ _ q⟩
theorem scHoldsOut : FnScope ["net", "lot"] ["net", "lot"] (defScope sHoldsOut) := ⟨rfl, rfl, rfl, by decide +kernel, rfl, by decide +kernel, by decide +kernel⟩
theorem ok_holds_out (F : Fun K "holds_out" "holds_out" sHoldsOut f fd) (c_stands : Callee P w K mg base "stands" 1 ["seated", "lot"] (spD 2 F_stands)) (c_seats : Callee P w K mg base "seats" 1 ["net"] spSeats)   :
    FnOk P w K mg base CX0 2 f fd ["net", "lot"] (spD 2 F_holds_out) := by
  refine F.ok scHoldsOut (fun vs H Q E h => h.1) (fun cdv A outer s H vs Q E hr h => ?_)
  obtain ⟨_, nb, ds, hlive, hds, hF⟩ := h
  obtain ⟨Φ, hΦ, hF⟩ : ∃ Φ : Pd, (∀ f d v H', Φ f d → Same H H' → IsD (fun a => nb a ∨ (f = true ∧ H a ≠ none)) H' d v → Q v H') ∧ F_holds_out ds Φ := ⟨_, fun f d v H' q => q v H', hF⟩
  obtain ⟨p, n, cs, lot, rfl, hN, nd, hl, q⟩ := hF
  refine ⟨_, (@pss_one _ _ _ (@ps_ret _ _ _ _ (@pe_callC _ _ _ _ _ _ _ _ _ _ c_stands (hr.mono (by decide)) (@pa_cons _ _ _ _ _ (@pe_callC _ _ _ _ _ _ _ _ _ _ c_seats (hr.mono (by decide)) (@pa_cons _ _ _ _ _ (pv 0) pa_nil rfl) (by rfl) (by decide) (by rfl) (by rfl)) (@pa_cons _ _ _ _ _ (pv 1) pa_nil rfl) rfl) (by rfl) (by decide) (by rfl) (by rfl)))), ?_⟩
  refine Sv.enterD hlive hds hΦ (ρ := [.d false _, .d false _]) rfl ?_
  clear hΦ hds
  have n0 := hN.n0
  refine Sv.ret ?_
  refine Ev.callD mono_stands ?_
  refine Av.cons ?_
  refine Ev.seats ?_
  walk_at "dt"
  refine ⟨p, n, cs, rfl, hN.seat, ?_⟩
  walk_at "dt"
  refine ⟨rfl, rowsTo n.toNat cs cs.length, lot, rfl, fun x hx => ?_, fun r hr c hc => ?_, ?_⟩
  · rw [rowsTo_len]
    have := hl x hx
    omega
  · obtain ⟨k, hk⟩ := List.getElem?_of_mem hr
    have := rowsTo_mem hk hc
    have := hN.cl
    omega
  · rw [noOne_hold hN nd hl]
    exact q
def F_inside_of : DF := fun ds Φ => ∃ (prs : Prs) (S : List Int) (ks : Ks), ds = [prsD prs, .dict (ks.map kvD)] ∧ (∀ k, hasI ks k = decide (k ∈ S)) ∧ prs.length ≤ 10000 ∧ Φ true (.list ((prs.filter fun pr => decide (pr.1 ∈ S)).map fun pr => .int pr.1))
theorem mono_inside_of : MonoF F_inside_of := fun ds Φ Ψ ⟨prs, S, ks, e, h1, h2, q⟩ z => ⟨prs, S, ks, e, h1, h2, z _ _ q⟩
theorem scInsideOf : FnScope ["pairs", "inside"] ["pairs", "inside"] (defScope sInsideOf) := ⟨rfl, rfl, rfl, by decide +kernel, rfl, by decide +kernel, by decide +kernel⟩
theorem ok_inside_of (F : Fun K "inside_of" "inside_of" sInsideOf f fd)    :
    FnOk P w K mg base CX0 1 f fd ["pairs", "inside"] (spD 2 F_inside_of) := by
  refine F.ok scInsideOf (fun vs H Q E h => h.1) (fun cdv A outer s H vs Q E hr h => ?_)
  obtain ⟨_, nb, ds, hlive, hds, hF⟩ := h
  obtain ⟨Φ, hΦ, hF⟩ : ∃ Φ : Pd, (∀ f d v H', Φ f d → Same H H' → IsD (fun a => nb a ∨ (f = true ∧ H a ≠ none)) H' d v → Q v H') ∧ F_inside_of ds Φ := ⟨_, fun f d v H' q => q v H', hF⟩
  obtain ⟨prs, S, ks, rfl, hS, hl, q⟩ := hF
  refine ⟨_, (@pss_one _ _ _ (@ps_ret _ _ _ _ (pe_lcomp (CompOk.of (show compOkB (defScope sInsideOf) ["pairs", "inside"] _ ["place", "factor", "inside"] [none, none, some 1] = true by decide +kernel)) (@pi_list _ _ _ _ (pv 0)) (fun _ _ _ _ => ⟨(@pg_tupM _ (K) _ _ _ (2) _ rfl rfl (@pgs_cons _ _ _ _ _ (pg_name (i := 0) (by show List.Nodup (["place", "factor", "inside"] : List Str); decide +kernel) rfl (Or.inl rfl)) (@pgs_cons _ _ _ _ _ (pg_name (i := 1) (by show List.Nodup (["place", "factor", "inside"] : List Str); decide +kernel) rfl (Or.inl rfl)) pgs_nil (by rfl)) (by rfl)) (by rfl) (by rfl)), (pts_one (@pt_cmpR _ _ _ _ _ _ _ _ (op_inD hr.units) (pv 0) (pv 2) (by with_unfolding_all rfl))), (pv 0)⟩)))), ?_⟩
  refine Sv.enterD hlive hds hΦ (ρ := [.d false _, .d false _]) rfl ?_
  clear hΦ hds
  have hlm : (prs.map pairD).length = prs.length := List.length_map ..
  refine Sv.ret ?_
  refine EvN.ev (EvN.compL (by decide) rfl ?_)
  walk_at "dt"
  refine fun v => ⟨true, fun i ds => ds = ((prs.take i).filter fun pr => decide (pr.1 ∈ S)).map fun pr => .int pr.1, rfl, ?_, ?_⟩
  · rintro i d ds hd hl' rfl
    obtain ⟨pr, hpr, rfl⟩ := map_at hd
    walk_at "dt"
    refine ⟨by walk_at "wk", ?_⟩
    refine Tv.test ?_
    refine Ev.inDd ?_
    walk_at "dt"
    refine ⟨ks, rfl, ?_⟩
    rw [hS]
    refine ⟨_, rfl, ?_⟩
    by_cases c : pr.1 ∈ S
    · rw [if_pos (by simpa using c)]
      walk_at "dt"
      show _ = List.map _ (List.filter _ (prs.take (i + 1)))
      rw [take_snoc hpr, inLot_snoc, if_pos c, List.map_append]
      rfl
    · rw [if_neg (by simpa using c)]
      show _ = List.map _ (List.filter _ (prs.take (i + 1)))
      rw [take_snoc hpr, inLot_snoc, if_neg c, List.append_nil]
  · rintro ds hl' rfl
    rw [hlm, List.take_length]
    exact q
def F_greatest : DF := fun ds Φ => ∃ (p n : Int) (cs : List Prs) (lot : List Int), ds = [netD p n cs, .list (lot.map .int)] ∧ LotNet n cs ∧ LotOk n lot ∧ (∀ prs ∈ cs, prs.length ≤ 10000) ∧ ∀ g : List Int, Great cs lot g → Φ true (.list (g.map .int))
theorem mono_greatest : MonoF F_greatest := fun ds Φ Ψ ⟨p, n, cs, lot, e, h1, h2, h3, q⟩ z => ⟨p, n, cs, lot, e, h1, h2, h3, fun g a => z _ _ (q g a)⟩
def gmu (ρ : Rh) : Nat := match (ρ[3]? : Option Sl), (ρ[5]? : Option Sl) with
  | some (Sl.dic _ _ ks), some (Sl.own _ _ ds) => ks.length * 1000 + ds.length
  | _, _ => 0
theorem scGreatest : FnScope ["net", "lot", "seated", "inside", "counts", "waiting", "alone", "c"] ["net", "lot"] (defScope sGreatest) := ⟨rfl, rfl, rfl, by decide +kernel, rfl, by decide +kernel, by decide +kernel⟩
theorem ok_greatest (F : Fun K "greatest" "greatest" sGreatest f fd) (c_seats : Callee P w K mg base "seats" 1 ["net"] spSeats) (c_inside_of : Callee P w K mg base "inside_of" 1 ["pairs", "inside"] (spD 2 F_inside_of)) (m_dict : mg "dict" = none) (m_len : mg "len" = none) (m_enumerate : mg "enumerate" = none)  :
    FnOk P w K mg base CX0 2 f fd ["net", "lot"] (spD 2 F_greatest) := by
  refine F.ok scGreatest (fun vs H Q E h => h.1) (fun cdv A outer s H vs Q E hr h => ?_)
  obtain ⟨_, nb, ds, hlive, hds, hF⟩ := h
  obtain ⟨Φ, hΦ, hF⟩ : ∃ Φ : Pd, (∀ f d v H', Φ f d → Same H H' → IsD (fun a => nb a ∨ (f = true ∧ H a ≠ none)) H' d v → Q v H') ∧ F_greatest ds Φ := ⟨_, fun f d v H' q => q v H', hF⟩
  obtain ⟨p, n, cs, lot, rfl, hN, hlot, hpl, q⟩ := hF
  refine ⟨_, (@pss_cons _ _ _ _ _ (@ps_set _ _ (2) _ _ _ _ scGreatest.nd rfl (Or.inl rfl) (@pe_callC _ _ _ _ _ _ _ _ _ _ c_seats (hr.mono (by decide)) (@pa_cons _ _ _ _ _ (pv 0) pa_nil rfl) (by rfl) (by decide) (by rfl) (by rfl)) (by rfl) (by first | exact .inl rfl | exact .inr rfl | assumption)) (@pss_cons _ _ _ _ _ (@ps_set _ _ (3) _ _ _ _ scGreatest.nd rfl (Or.inr rfl) (@pe_callTy _ _ _ _ _ _ _ _ (rDictL) (call_dictL rfl) rfl m_dict PyProof.Rows.boot_dict (@pa_cons _ _ _ _ _ (pe_lcomp (CompOk.of (show compOkB (defScope sGreatest) ["net", "lot", "seated", "inside", "counts", "waiting", "alone", "c"] _ ["place"] [none] = true by decide +kernel)) (@pi_list _ _ _ _ (pv 1)) (fun _ _ _ _ => ⟨(pg_name (i := 0) (by show List.Nodup (["place"] : List Str); decide +kernel) rfl (Or.inl rfl)), pts_nil, (@pe_tup _ _ _ _ _ (@pa_cons _ _ _ _ _ (pv 0) (@pa_cons _ _ _ _ _ pe_bl pa_nil rfl) rfl))⟩)) pa_nil rfl) (by decide) (by decide) (by rfl) (by rfl)) (by rfl) (by first | exact .inl rfl | exact .inr rfl | assumption)) (@pss_cons _ _ _ _ _ (ps_setC (i := 4) scGreatest.nd rfl rfl (CompOk.of (show compOkB (defScope sGreatest) ["net", "lot", "seated", "inside", "counts", "waiting", "alone", "c"] _ ["pairs", "inside"] [none, some 3] = true by decide +kernel)) (@pi_list _ _ _ _ (@pe_ix _ _ _ _ _ _ (rIxT K) ix_tup (pv 0) pe_int (fun _ _ => rfl))) (fun _ _ _ _ => ⟨(pg_name (i := 0) (by show List.Nodup (["pairs", "inside"] : List Str); decide +kernel) rfl (Or.inl rfl)), pts_nil, (@pe_callB _ _ _ _ _ _ _ _ (rLen K) call_lenM rfl m_len PySem.boot_len (@pa_cons _ _ _ _ _ (@pe_callC _ _ _ _ _ _ _ _ _ _ c_inside_of (hr.mono (by decide)) (@pa_cons _ _ _ _ _ (pv 0) (@pa_cons _ _ _ _ _ (pv 1) pa_nil rfl) rfl) (by rfl) (by decide) (by rfl) (by rfl)) pa_nil rfl) (by decide) (by decide) (by rfl) (by rfl))⟩)) (@pss_cons _ _ _ _ _ (ps_setC (i := 5) scGreatest.nd rfl rfl (CompOk.of (show compOkB (defScope sGreatest) ["net", "lot", "seated", "inside", "counts", "waiting", "alone", "c"] _ ["c", "many"] [none, none] = true by decide +kernel)) (@pi_enum _ (K) _ _ _ _ _ _ _ rfl rfl m_enumerate (pv 4) (by rfl)) (fun _ _ _ _ => ⟨(@pg_tupM _ (K) _ _ _ (2) _ rfl rfl (@pgs_cons _ _ _ _ _ (pg_name (i := 0) (by show List.Nodup (["c", "many"] : List Str); decide +kernel) rfl (Or.inl rfl)) (@pgs_cons _ _ _ _ _ (pg_name (i := 1) (by show List.Nodup (["c", "many"] : List Str); decide +kernel) rfl (Or.inl rfl)) pgs_nil (by rfl)) (by rfl)) (by rfl) (by rfl)), (pts_one (@pt_cmpR _ _ _ _ _ _ _ _ op_eq (pv 1) pe_int (nomark _))), (pv 0)⟩)) (@pss_cons _ _ _ _ _ (@ps_while _ _ _ _ _ _ PassesOwn.never (@pt_truthK _ (K) _ _ rfl (pv 5) (fun _ => rfl)) (@pss_cons _ _ _ _ _ (@ps_set _ _ (6) _ _ _ _ scGreatest.nd rfl (Or.inl rfl) (@pe_callC _ _ _ _ _ _ _ _ _ _ c_inside_of (hr.mono (by decide)) (@pa_cons _ _ _ _ _ (@pe_ix _ _ _ _ _ _ (rIxL K) ix_list (@pe_ix _ _ _ _ _ _ (rIxT K) ix_tup (pv 0) pe_int (fun _ _ => rfl)) (pe_bm0 PySem.F.plainAttrs_list PySem.F.slot_list_pop PySem.F.type_list_pop mt_pop (pv 5)) (fun _ _ => rfl)) (@pa_cons _ _ _ _ _ (pv 3) pa_nil rfl) rfl) (by rfl) (by decide) (by rfl) (by rfl)) (by rfl) (by first | exact .inl rfl | exact .inr rfl | assumption)) (@pss_one _ _ _ (@ps_if _ _ _ _ _ _ _ _ (@pt_truthK _ (K) _ _ rfl (pv 6) (fun _ => rfl)) (@pss_cons _ _ _ _ _ (@ps_expr _ _ _ _ (pe_bm PySem.F.plainAttrs_dict PySem.F.slot_dict_pop PySem.F.type_dict_pop mt_popD (pv 3) (@pa_cons _ _ _ _ _ (@pe_ix _ _ _ _ _ _ (rIxL K) ix_list (pv 6) pe_int (fun _ _ => rfl)) pa_nil rfl)) (by rfl)) (@pss_one _ _ _ (@ps_for _ _ _ _ _ _ _ _ PassesOwn.never rfl (@pi_list _ _ _ _ (@pe_ix _ _ _ _ _ _ (rIxL K) ix_list (pv 2) (@pe_ix _ _ _ _ _ _ (rIxL K) ix_list (pv 6) pe_int (fun _ _ => rfl)) (fun _ _ => rfl))) (pg_name (i := 7) scGreatest.nd rfl (Or.inl rfl)) (@pss_cons _ _ _ _ _ (ps_augS (pv 4) (pv 7) get_listL pe_int ip_sub set_list) (@pss_one _ _ _ (@ps_if _ _ _ _ _ _ _ _ (@pt_cmpR _ _ _ _ _ _ _ _ op_eq (@pe_ix _ _ _ _ _ _ (rIxL K) ix_list (pv 4) (pv 7) (fun _ _ => rfl)) pe_int (nomark _)) (@pss_one _ _ _ (@ps_expr _ _ _ _ (pe_bm PySem.F.plainAttrs_list PySem.F.slot_list_append PySem.F.type_list_append mt_append (pv 5) (@pa_cons _ _ _ _ _ (pv 7) pa_nil rfl)) (by rfl))) pss_nil))) (by intro _; rfl)))) pss_nil)))) (@pss_one _ _ _ (@ps_ret _ _ _ _ (pe_lcomp (CompOk.of (show compOkB (defScope sGreatest) ["net", "lot", "seated", "inside", "counts", "waiting", "alone", "c"] _ ["place", "inside"] [none, some 3] = true by decide +kernel)) (@pi_list _ _ _ _ (pv 1)) (fun _ _ _ _ => ⟨(pg_name (i := 0) (by show List.Nodup (["place", "inside"] : List Str); decide +kernel) rfl (Or.inl rfl)), (pts_one (@pt_cmpR _ _ _ _ _ _ _ _ (op_inD hr.units) (pv 0) (pv 1) (by with_unfolding_all rfl))), (pv 0)⟩))))))))), ?_⟩
  refine Sv.enterD hlive hds hΦ (ρ := [.d false _, .d false _, .no, .no, .no, .no, .no, .no]) rfl ?_
  clear hΦ hds
  have n0 := hN.n0
  have n1 := hN.n1
  have hcl := hN.cl
  have hll := hlot.len n1
  have hlm : (lot.map PyData.int).length = lot.length := List.length_map ..
  have hcm : (cs.map prsD).length = cs.length := List.length_map ..
  obtain ⟨rows, erows⟩ : ∃ rows, rowsTo n.toNat cs cs.length = rows := ⟨_, rfl⟩
  have hrl : rows.length = n.toNat := by rw [← erows]; exact rowsTo_len
  refine Sv.seq ?_
  refine Sv.asg ?_
  refine Ev.seats ?_
  walk_at "dt"
  refine ⟨p, n, cs, rfl, hN.seat, ?_⟩
  rw [erows]
  refine Gv.nameT ?_
  refine Sv.seq ?_
  refine Sv.asgK (EvK.dictL ?_)
  refine EvN.ev (EvN.compL (by decide) rfl ?_)
  walk_at "dt"
  refine fun v => ⟨true, fun i ds => ds = (insK (lot.take i)).map itD, rfl, ?_, ?_⟩
  · rintro i d ds hd hl' rfl
    obtain ⟨x, hx, rfl⟩ := map_at hd
    walk_at "dt"
    refine ⟨by walk_at "wk", ?_⟩
    walk_at "dt"
    refine ⟨fun _ => rfl, ?_⟩
    show _ = (insK (lot.take (i + 1))).map itD
    unfold insK
    rw [take_snoc hx, List.map_append, List.map_append]
    rfl
  rintro ds hl' rfl
  rw [hlm, List.take_length]
  refine ⟨insK lot, rfl, by unfold insK; rw [List.length_map]; omega, ?_⟩
  rw [insK_puts hlot.nd]
  intro A3
  refine Sv.seq ?_
  refine Sv.setCN ?_
  refine EvN.compL (by decide) rfl ?_
  walk_at "dt"
  refine fun v => ⟨true, fun i ds => ds = (cs.take i).map fun prs => .int (inLot lot prs), rfl, ?_, ?_⟩
  · rintro i d ds hd hl' rfl
    obtain ⟨prs, hprs, rfl⟩ := map_at hd
    walk_at "dt"
    refine ⟨by walk_at "wk", ?_⟩
    refine Tv.noTest ?_
    rw [if_pos rfl]
    refine Ev.lenS ?_
    refine Ev.ofF ?_
    refine EvF.lendDic 1 rfl ?_
    refine EvF.callD mono_inside_of ?_
    walk_at "dt"
    refine ⟨rfl, prs, lot, insK lot, rfl, insK_has lot, hpl prs (List.mem_of_getElem? hprs), rfl, _, .inl rfl, fun _ => rfl, ?_⟩
    show _ = List.map _ (cs.take (i + 1))
    rw [take_snoc hprs, List.map_append, List.length_map]
    rfl
  rintro ds hl' rfl
  rw [hcm, List.take_length]
  intro A4
  refine Sv.seq ?_
  refine Sv.setCN ?_
  refine EvN.lendS 4 rfl ?_
  refine EvN.compE (by decide) rfl ?_
  walk_at "dt"
  have hcm2 : (cs.map fun prs => PyData.int (inLot lot prs)).length = cs.length := List.length_map ..
  refine ⟨by omega, fun v => ⟨true, fun i ds => ds = ((List.range i).filter fun c => decide (inLot lot (cs.getD c []) = 1)).map fun (c : Nat) => .int (c : Int), rfl, ?_, ?_⟩⟩
  · rintro i d ds ⟨e, he, rfl⟩ hl' rfl
    obtain ⟨prs, hprs, rfl⟩ := map_at he
    have hgd : cs.getD i [] = prs := by rw [List.getD_eq_getElem?_getD, hprs]; rfl
    walk_at "dt"
    refine ⟨by walk_at "wk", ?_⟩
    walk_at "dt"
    have hsn : (List.range (i + 1)).filter (fun c => decide (inLot lot (cs.getD c []) = 1)) = (List.range i).filter (fun c => decide (inLot lot (cs.getD c []) = 1)) ++ if inLot lot prs = 1 then [i] else [] := by
      rw [List.range_succ, List.filter_append, List.filter_cons, List.filter_nil, hgd]
      by_cases c : inLot lot prs = 1 <;> simp [c]
    by_cases c : inLot lot prs = 1
    · rw [if_pos (decide_eq_true (by omega))]
      walk_at "dt"
      show _ = List.map _ (List.filter _ (List.range (i + 1)))
      rw [hsn, if_pos c, List.map_append]
      rfl
    · rw [if_neg (by simp; omega)]
      show _ = List.map _ (List.filter _ (List.range (i + 1)))
      rw [hsn, if_neg c, List.append_nil]
  rintro ds hl' rfl
  rw [hcm2]
  refine ⟨?_, ?_⟩
  · rw [List.all_eq_true]
    intro d hd
    obtain ⟨c, _, rfl⟩ := List.mem_map.mp hd
    rfl
  intro A5
  have hcell : ∀ (S cn ws : List Int), GI cs lot S cn ws → ∀ x ∈ S, 0 ≤ x ∧ x < n := fun S cn ws h x hx => hlot.rg x (h.mem x hx)
  refine Sv.seq ?_
  refine Sv.while_ (fun ρ => ∃ (S cn ws : List Int) (f3 f4 f5 : Bool) (x6 x7 : Sl), GI cs lot S cn ws ∧ ρ = [.d false (netD p n cs), .d false (.list (lot.map .int)), .d true (.list (rows.map rowD)), .dic A3 f3 (insK S), .own A4 f4 (cn.map .int), .own A5 f5 (ws.map .int), x6, x7]) gmu ?_ ?_
  · refine ⟨lot, cs.map fun prs => (inLot lot prs : Int), ((List.range cs.length).filter fun c => decide (inLot lot (cs.getD c []) = 1)).map fun (c : Nat) => (c : Int), true, true, true, .no, .no, GI.init rfl, ?_⟩
    simp only [List.map_map]
    rfl
  rintro ρ ⟨S, cn, ws, f3, f4, f5, x6, x7, hG, rfl⟩
  refine Tv.truOwn rfl ?_
  rcases List.eq_nil_or_concat ws with ews | ⟨ws', c0, ews⟩
  · subst ews
    rw [if_neg (by simp)]
    have hgr := hG.done
    refine Sv.ret ?_
    refine EvN.ev (EvN.compL (by decide) rfl ?_)
    walk_at "dt"
    refine fun v => ⟨true, fun i ds => ds = ((lot.take i).filter fun x => decide (x ∈ S)).map .int, rfl, ?_, ?_⟩
    · rintro i d ds hd hl' rfl
      obtain ⟨x, hx, rfl⟩ := map_at hd
      walk_at "dt"
      refine ⟨by walk_at "wk", ?_⟩
      refine Tv.test ?_
      refine Ev.inDic rfl ?_
      walk_at "dt"
      rw [insK_has]
      by_cases c : x ∈ S
      · rw [if_pos (by simpa using c)]
        walk_at "dt"
        show _ = List.map _ (List.filter _ (lot.take (i + 1)))
        rw [filter_snoc _ hx, if_pos (by simpa using c), List.map_append]
        rfl
      · rw [if_neg (by simpa using c)]
        show _ = List.map _ (List.filter _ (lot.take (i + 1)))
        rw [filter_snoc _ hx, if_neg (by simpa using c), List.append_nil]
    · rintro ds hl' rfl
      rw [hlm, List.take_length]
      have e : lot.filter (fun x => decide (x ∈ S)) = S := by
        obtain ⟨qq, eq⟩ := hG.sub
        conv => rhs; rw [eq]
        apply List.filter_congr
        intro x hx
        rw [Bool.eq_iff_iff, decide_eq_true_eq, eq, List.mem_filter]
        exact ⟨fun z => z.2, fun z => ⟨hx, z⟩⟩
      rw [e]
      exact q S hgr
  · rw [List.concat_eq_append] at ews
    subst ews
    rw [if_pos (by simp)]
    have hc0 := hG.rg c0 (List.mem_append_right _ (by simp))
    obtain ⟨prs0, hp0, eat0⟩ := atI_nat' (xs := cs) prsD hc0.1 hc0.2 rfl
    have hfew := hG.few c0 (List.mem_append_right _ (by simp)) prs0 hp0
    rw [List.map_append]
    refine Sv.seq ?_
    refine Sv.popCall (j := 5) (q := 3) (i0 := 0) mono_inside_of (by decide) rfl rfl rfl rfl eat0 ?_
    refine ⟨prs0, S, insK S, rfl, insK_has S, hpl prs0 (List.mem_of_getElem? hp0), rfl, ?_⟩
    refine Sv.ifS ?_
    refine Tv.truL ?_
    walk_at "dt"
    cases efl : prs0.filter (fun pr => decide (pr.1 ∈ S)) with
    | nil =>
      rw [if_neg (by simp)]
      refine Sv.next ?_
      have h0 : inLot S prs0 = 0 := by unfold inLot; rw [efl]; rfl
      refine ⟨⟨S, cn, ws', _, _, _, _, _, hG.drop hp0 h0, rfl⟩, ?_⟩
      show (insK S).length * 1000 + (ws'.map PyData.int).length < (insK S).length * 1000 + (ws'.map PyData.int ++ [PyData.int c0]).length
      rw [List.length_append, List.length_singleton]
      omega
    | cons pr rest =>
      rw [if_pos (by simp)]
      have hpm : pr ∈ prs0.filter (fun pr => decide (pr.1 ∈ S)) := by rw [efl]; exact List.mem_cons_self ..
      obtain ⟨hpm1, hpm2⟩ := List.mem_filter.mp hpm
      have hxS : pr.1 ∈ S := by simpa using hpm2
      have hx0 : pr.1 ∈ prs0.map (·.1) := List.mem_map.mpr ⟨pr, hpm1, rfl⟩
      obtain ⟨x0, x1⟩ := hcell S cn _ hG pr.1 hxS
      obtain ⟨row, erow, eatr⟩ := atI_nat' (xs := rows) (k := pr.1) (m := rows.length) rowD x0 (by omega) rfl
      have hrow : ∀ (c : Nat) prs, cs[c]? = some prs → row.count (c : Int) = (prs.map (·.1)).count pr.1 := fun c prs e => by
        have hc := (List.getElem?_eq_some_iff.mp e).1
        have e1 := rowsTo_count (n := n.toNat) (cs := cs) (x := (c : Int)) cs.length (Nat.le_refl _) pr.1.toNat row (by rw [erows]; exact erow)
        rw [if_pos (by omega), Int.toNat_natCast, List.getD_eq_getElem?_getD, e] at e1
        rw [e1]
        exact count_nat (by omega) fun y hy => (hN.ok prs (List.mem_of_getElem? e) y hy).1
      have hrmem : ∀ c ∈ row, 0 ≤ c ∧ c < cs.length := fun c hc => rowsTo_mem (n := n.toNat) (cs := cs) (k := pr.1.toNat) (r := row) (by rw [erows]; exact erow) hc
      refine Sv.seq ?_
      have hatx : atI ((pr :: rest).map fun pr => PyData.int pr.1) 0 = some (.int pr.1) := atI_some (by decide) rfl
      refine Sv.popDic rfl ?_
      refine Ev.ixL ?_
      refine Ev.var rfl ?_
      refine ⟨_, rfl, ?_⟩
      refine Ev.int ?_
      refine ⟨0, rfl, .int pr.1, hatx, ?_⟩
      refine ⟨pr.1, rfl, by rw [insK_has]; exact decide_eq_true hxS, ?_⟩
      rw [insK_drop]
      refine Sv.forL ?_
      walk_at "dt"
      have hrm : (row.map PyData.int).length = row.length := List.length_map ..
      refine fun v => ⟨fun m ρ => ∃ (cn' ws'' : List Int) (f4 f5 : Bool) (x7 : Sl), GJ cs S row c0 m cn' ws'' ∧ ρ = [.d false (netD p n cs), .d false (.list (lot.map .int)), .d true (.list (rows.map rowD)), .dic A3 f3 (insK (S.filter fun y => decide (y ≠ pr.1))), .own A4 f4 (cn'.map .int), .own A5 f5 (ws''.map .int), .d true (.list ((pr :: rest).map fun pr => .int pr.1)), x7], ⟨cn, ws', _, _, _, hG.start, rfl⟩, ?_, ?_⟩
      · rintro m d ρ hd ⟨cn', ws'', f4', f5', x7', hJ, rfl⟩
        obtain ⟨c, hcm, rfl⟩ := map_at hd
        obtain ⟨k0, k1⟩ := hrmem c (List.mem_of_getElem? hcm)
        obtain ⟨val, hval⟩ := hJ.at k0 k1
        have hcnl := hJ.len
        have hwl := hJ.wlen
        have hJ' := hJ.step hcm k0 k1 hval
        refine Gv.nameI ?_
        refine Sv.seq ?_
        refine Sv.augOwn rfl ?_
        refine Ev.var rfl ?_
        have hix : ixN (cn'.map PyData.int).length c = some c.toNat := by
          unfold ixN
          rw [List.length_map]
          repeat (first | rw [if_pos (by omega)] | rw [if_neg (by omega)])
        refine ⟨c, c.toNat, val, rfl, k0, hix, atI_some k0 (by rw [List.getElem?_map, hval]; rfl), ?_⟩
        rw [← List.map_set]
        have hat2 : atI ((cn'.set c.toNat (val - 1)).map PyData.int) c = some (.int (val - 1)) := atI_some k0 (by rw [List.getElem?_map, List.getElem?_set_self (by omega)]; rfl)
        refine Sv.ifS ?_
        refine Tv.test ?_
        refine Ev.eq ?_
        refine Ev.ixOwn rfl ?_
        refine Ev.var rfl ?_
        refine ⟨c, rfl, _, hat2, ?_⟩
        walk_at "dt"
        by_cases c1 : val - 1 = 1
        · rw [if_pos (decide_eq_true c1)]
          rw [if_pos c1] at hJ'
          refine Sv.append rfl ?_
          refine Ev.var rfl ?_
          refine ⟨by rw [List.length_map]; omega, ?_⟩
          exact ⟨_, ws'' ++ [c], _, _, _, hJ', by rw [List.map_append]; rfl⟩
        · rw [if_neg (by simpa using c1)]
          rw [if_neg c1] at hJ'
          refine Sv.next ?_
          exact ⟨_, ws'', _, _, _, hJ', rfl⟩
      · rintro ρ ⟨cn', ws'', f4', f5', x7', hJ, rfl⟩
        rw [hrm] at hJ
        have hG' := GJ.fin hG hp0 hxS hx0 hrow hJ
        have hwl := hG'.len
        refine ⟨⟨_, cn', ws'', _, _, _, _, _, hG', rfl⟩, ?_⟩
        show (insK (S.filter fun y => decide (y ≠ pr.1))).length * 1000 + (ws''.map PyData.int).length < (insK S).length * 1000 + (ws'.map PyData.int ++ [PyData.int c0]).length
        have hlt : (S.filter fun y => decide (y ≠ pr.1)).length < S.length := by
          have h1 : (S.filter fun y => decide (y ≠ pr.1)).length ≤ S.length := List.length_filter_le _ _
          have h2 : (S.filter fun y => decide (y ≠ pr.1)).length ≠ S.length := fun z => by
            have := List.length_filter_eq_length_iff.mp z pr.1 hxS
            simp at this
          omega
        unfold insK
        rw [List.length_map, List.length_map, List.length_map, List.length_append]
        omega
def F_without : DF := fun ds Φ => ∃ (lot : List Int) (x : Int), ds = [.list (lot.map .int), .int x] ∧ lot.length ≤ 10000 ∧ Φ true (.list ((lot.filter fun y => decide (y ≠ x)).map .int))
theorem mono_without : MonoF F_without := fun ds Φ Ψ ⟨lot, x, e, h1, q⟩ z => ⟨lot, x, e, h1, z _ _ q⟩
theorem scWithout : FnScope ["lot", "place"] ["lot", "place"] (defScope sWithout) := ⟨rfl, rfl, rfl, by decide +kernel, rfl, by decide +kernel, by decide +kernel⟩
theorem ok_without (F : Fun K "without" "without" sWithout f fd)    :
    FnOk P w K mg base CX0 1 f fd ["lot", "place"] (spD 2 F_without) := by
  refine F.ok scWithout (fun vs H Q E h => h.1) (fun cdv A outer s H vs Q E hr h => ?_)
  obtain ⟨_, nb, ds, hlive, hds, hF⟩ := h
  obtain ⟨Φ, hΦ, hF⟩ : ∃ Φ : Pd, (∀ f d v H', Φ f d → Same H H' → IsD (fun a => nb a ∨ (f = true ∧ H a ≠ none)) H' d v → Q v H') ∧ F_without ds Φ := ⟨_, fun f d v H' q => q v H', hF⟩
  obtain ⟨lot, x, rfl, hl, q⟩ := hF
  refine ⟨_, (@pss_one _ _ _ (@ps_ret _ _ _ _ (pe_lcomp (CompOk.of (show compOkB (defScope sWithout) ["lot", "place"] _ ["other", "place"] [none, some 1] = true by decide +kernel)) (@pi_list _ _ _ _ (pv 0)) (fun _ _ _ _ => ⟨(pg_name (i := 0) (by show List.Nodup (["other", "place"] : List Str); decide +kernel) rfl (Or.inl rfl)), (pts_one (@pt_cmpR _ _ _ _ _ _ _ _ op_ne (pv 0) (pv 1) (nomark _))), (pv 0)⟩)))), ?_⟩
  refine Sv.enterD hlive hds hΦ (ρ := [.d false _, .d false _]) rfl ?_
  clear hΦ hds
  have hlm : (lot.map PyData.int).length = lot.length := List.length_map ..
  refine Sv.ret ?_
  refine EvN.ev (EvN.compL (by decide) rfl ?_)
  walk_at "dt"
  refine fun v => ⟨true, fun j es => es = ((lot.take j).filter fun y => decide (y ≠ x)).map .int, rfl, ?_, ?_⟩
  · rintro j d es hd hl' rfl
    obtain ⟨y, hy, rfl⟩ := map_at hd
    walk_at "dt"
    refine ⟨by walk_at "wk", ?_⟩
    by_cases c : y = x
    · walk_at "dt"
      show _ = List.map _ (List.filter _ (lot.take (j + 1)))
      rw [filter_snoc _ hy, if_neg (by simpa using c), List.append_nil]
    · walk_at "dt"
      show _ = List.map _ (List.filter _ (lot.take (j + 1)))
      rw [filter_snoc _ hy, if_pos (by simpa using c), List.map_append]
      rfl
  rintro es hl' rfl
  rw [hlm, List.take_length]
  exact q
def F_is_bare : DF := fun ds Φ => ∃ (p n : Int) (cs : List Prs) (lot : List Int), ds = [netD p n cs, .list (lot.map .int)] ∧ LotNet n cs ∧ LotOk n lot ∧ (∀ prs ∈ cs, prs.length ≤ 10000) ∧ ∀ b : Bool, (b = true ↔ Bare cs lot) → Φ true (.bool b)
theorem mono_is_bare : MonoF F_is_bare := fun ds Φ Ψ ⟨p, n, cs, lot, e, h1, h2, h3, q⟩ z => ⟨p, n, cs, lot, e, h1, h2, h3, fun b a => z _ _ (q b a)⟩
theorem scIsBare : FnScope ["net", "lot", "place"] ["net", "lot"] (defScope sIsBare) := ⟨rfl, rfl, rfl, by decide +kernel, rfl, by decide +kernel, by decide +kernel⟩
theorem ok_is_bare (F : Fun K "is_bare" "is_bare" sIsBare f fd) (c_holds_out : Callee P w K mg base "holds_out" 2 ["net", "lot"] (spD 2 F_holds_out)) (c_greatest : Callee P w K mg base "greatest" 2 ["net", "lot"] (spD 2 F_greatest)) (c_without : Callee P w K mg base "without" 1 ["lot", "place"] (spD 2 F_without))   :
    FnOk P w K mg base CX0 3 f fd ["net", "lot"] (spD 2 F_is_bare) := by
  refine F.ok scIsBare (fun vs H Q E h => h.1) (fun cdv A outer s H vs Q E hr h => ?_)
  obtain ⟨_, nb, ds, hlive, hds, hF⟩ := h
  obtain ⟨Φ, hΦ, hF⟩ : ∃ Φ : Pd, (∀ f d v H', Φ f d → Same H H' → IsD (fun a => nb a ∨ (f = true ∧ H a ≠ none)) H' d v → Q v H') ∧ F_is_bare ds Φ := ⟨_, fun f d v H' q => q v H', hF⟩
  obtain ⟨p, n, cs, lot, rfl, hN, hlot, hpl, q⟩ := hF
  refine ⟨_, (@pss_cons _ _ _ _ _ (@ps_if _ _ _ _ _ _ _ _ (PW.pt (pw_or (@pt_cmpR _ _ _ _ _ _ _ _ (op_eqD hr.units) (pv 1) (@pe_lst _ _ _ _ pa_nil) (nomark _)) (pw_or1 (@pt_not _ _ _ _ (@pt_truthK _ (K) _ _ rfl (@pe_callC _ _ _ _ _ _ _ _ _ _ c_holds_out (hr.mono (by decide)) (@pa_cons _ _ _ _ _ (pv 0) (@pa_cons _ _ _ _ _ (pv 1) pa_nil rfl) rfl) (by rfl) (by decide) (by rfl) (by rfl)) (fun _ => rfl)))))) (@pss_one _ _ _ (@ps_ret _ _ _ _ pe_bl)) pss_nil) (@pss_cons _ _ _ _ _ (@ps_for _ _ _ _ _ _ _ _ PassesOwn.never rfl (@pi_list _ _ _ _ (pv 1)) (pg_name (i := 2) scIsBare.nd rfl (Or.inl rfl)) (@pss_one _ _ _ (@ps_if _ _ _ _ _ _ _ _ (@pt_cmpR _ _ _ _ _ _ _ _ (op_neD hr.units) (@pe_callC _ _ _ _ _ _ _ _ _ _ c_greatest (hr.mono (by decide)) (@pa_cons _ _ _ _ _ (pv 0) (@pa_cons _ _ _ _ _ (@pe_callC _ _ _ _ _ _ _ _ _ _ c_without (hr.mono (by decide)) (@pa_cons _ _ _ _ _ (pv 1) (@pa_cons _ _ _ _ _ (pv 2) pa_nil rfl) rfl) (by rfl) (by decide) (by rfl) (by rfl)) pa_nil rfl) rfl) (by rfl) (by decide) (by rfl) (by rfl)) (@pe_lst _ _ _ _ pa_nil) (nomark _)) (@pss_one _ _ _ (@ps_ret _ _ _ _ pe_bl)) pss_nil)) (by intro _; rfl)) (@pss_one _ _ _ (@ps_ret _ _ _ _ pe_bl)))), ?_⟩
  refine Sv.enterD hlive hds hΦ (ρ := [.d false _, .d false _, .no]) rfl ?_
  clear hΦ hds
  have n1 := hN.n1
  have hll := hlot.len n1
  refine Sv.seq ?_
  refine Sv.ifS ?_
  refine Tv.or ?_
  walk_at "dt"
  refine ⟨shaped_ints lot, rfl, ?_⟩
  by_cases c : lot = []
  · subst c
    refine ⟨true, rfl, ?_⟩
    walk_at "dt"
    exact q false ⟨fun z => (by cases z), fun z => absurd rfl z.1⟩
  refine ⟨false, by obtain ⟨x, t, e⟩ := List.exists_cons_of_ne_nil c; subst e; rfl, ?_⟩
  walk_at "dt"
  refine Ev.callD mono_holds_out ?_
  walk_at "dt"
  refine ⟨rfl, p, n, cs, lot, rfl, hN, hlot.nd, hlot.rg, ?_⟩
  refine ⟨_, rfl, ?_⟩
  cases ho : holdB cs lot with
  | false =>
    walk_at "dt"
    exact q false ⟨fun z => (by cases z), fun z => absurd z.2.1 (by rw [ho]; exact Bool.false_ne_true)⟩
  | true =>
    walk_at "dt"
    refine Sv.forL ?_
    walk_at "dt"
    refine fun v => ⟨fun i ρ => ∃ x2 : Sl, (∀ x ∈ lot.take i, ∀ T : List Int, T ≠ [] → (∀ y ∈ T, y ∈ lot ∧ y ≠ x) → holdB cs T = false) ∧ ρ = [.d false (netD p n cs), .d false (.list (lot.map .int)), x2], ⟨_, fun _ h => by simp at h, rfl⟩, ?_, ?_⟩
    · rintro i d ρ hd ⟨x2, hI, rfl⟩
      obtain ⟨x, hx, rfl⟩ := map_at hd
      refine Gv.nameI ?_
      refine Sv.ifS ?_
      refine Tv.test ?_
      refine Ev.eqD ?_
      refine Ev.callD mono_greatest ?_
      refine Av.cons ?_
      walk_at "dt"
      refine Ev.callD mono_without ?_
      walk_at "dt"
      refine ⟨rfl, lot, x, rfl, by omega, ?_⟩
      walk_at "dt"
      refine ⟨rfl, p, n, cs, _, rfl, hN, hlot.filter _, hpl, fun g hg => ?_⟩
      walk_at "dt"
      refine ⟨shaped_ints g, rfl, ?_⟩
      have hn := great_nil hg
      by_cases cg : g = []
      · refine ⟨false, by subst cg; rfl, ?_⟩
        rw [if_neg Bool.false_ne_true]
        walk_at "dt"
        refine ⟨_, fun y hy T hT hs => ?_, rfl⟩
        rw [take_snoc hx] at hy
        rcases List.mem_append.mp hy with h | h
        · exact hI y h T hT hs
        · rw [List.mem_singleton.mp h] at hs
          exact hn.mp cg T hT fun z hz => List.mem_filter.mpr ⟨(hs z hz).1, decide_eq_true (hs z hz).2⟩
      · refine ⟨true, by obtain ⟨u, t, e⟩ := List.exists_cons_of_ne_nil cg; subst e; rfl, ?_⟩
        rw [if_pos rfl]
        walk_at "dt"
        refine q false ⟨fun z => (by cases z), fun z => ?_⟩
        refine absurd (hn.mpr fun T hT hs => z.2.2 T hT (fun y hy => (List.mem_filter.mp (hs y hy)).1) ⟨x, List.mem_of_getElem? hx, fun w => ?_⟩) cg
        have := (List.mem_filter.mp (hs x w)).2
        simp at this
    · rintro ρ ⟨x2, hI, rfl⟩
      rw [List.length_map, List.take_length] at hI
      walk_at "dt"
      exact q true ⟨fun _ => ⟨c, ho, fun T hT hs ⟨y, hy, hyT⟩ => hI y hy T hT fun z hz => ⟨hs z hz, fun w => hyT (w ▸ hz)⟩⟩, fun _ => rfl⟩
theorem scLawBag : FnScope ["script", "stir", "cell"] ["script"] (defScope sLawBag) := ⟨rfl, rfl, rfl, by decide +kernel, rfl, by decide +kernel, by decide +kernel⟩
theorem ok__law_bag (F : Fun K "_law_bag" "_law_bag" sLawBag f fd)  (m_abs : mg "abs" = none)  :
    FnOk P w K mg base CX0 1 f fd ["script"] (spBag K) := by
  refine F.ok scLawBag (fun vs H Q E h => ?_) (fun cdv A outer s H vs Q E hr h => ?_)
  · obtain ⟨a, ns, rfl, hS, hl, q⟩ := h
    rfl
  obtain ⟨a, ns, rfl, hS, hl, q⟩ := h
  refine ⟨_, (@pss_cons _ _ _ _ _ (@ps_set _ _ (1) _ _ _ _ scLawBag.nd rfl (Or.inl rfl) pe_int (by rfl) (by first | exact .inl rfl | exact .inr rfl | assumption)) (@pss_cons _ _ _ _ _ (@ps_for _ _ _ _ _ _ _ _ PassesOwn.never rfl (@pi_list _ _ _ _ (@pe_slice _ _ _ _ _ _ _ _ _ _ sl_list (pv 0) po_none (@po_some _ _ _ pe_int))) (pg_name (i := 2) scLawBag.nd rfl (Or.inl rfl)) (@pss_one _ _ _ (@ps_set _ _ (1) _ _ _ _ scLawBag.nd rfl (Or.inl rfl) (@pe_op _ _ _ _ _ _ _ _ op_mod (@pe_op _ _ _ _ _ _ _ _ op_add (@pe_op _ _ _ _ _ _ _ _ op_add (@pe_op _ _ _ _ _ _ _ _ op_mulA (pv 1) pe_int) (@pe_op _ _ _ _ _ _ _ _ op_mod (pv 2) pe_int)) pe_int) pe_int) (by rfl) (by first | exact .inl rfl | exact .inr rfl | assumption))) (by intro _; rfl)) (@pss_one _ _ _ (@ps_ret _ _ _ _ (@pe_lst _ _ _ _ (@pa_cons _ _ _ _ _ (pe_lcomp (CompOk.of (show compOkB (defScope sLawBag) ["script", "stir", "cell"] _ ["cell"] [none] = true by decide +kernel)) (@pi_list _ _ _ _ (@pe_slice _ _ _ _ _ _ _ _ _ _ sl_list (pv 0) po_none (@po_some _ _ _ pe_int))) (fun _ _ _ _ => ⟨(pg_name (i := 0) (by show List.Nodup (["cell"] : List Str); decide +kernel) rfl (Or.inl rfl)), pts_nil, (@pe_op _ _ _ _ _ _ _ _ op_mod (@pe_callB _ _ _ _ _ _ _ _ _ call_abs rfl m_abs PyProof.Rows.boot_abs (@pa_cons _ _ _ _ _ (pv 0) pa_nil rfl) (by decide) (by decide) (by rfl) (by rfl)) (@pe_op _ _ _ _ _ _ _ _ op_pow pe_int pe_int))⟩)) (@pa_cons _ _ _ _ _ pe_int (@pa_cons _ _ _ _ _ pe_int (@pa_cons _ _ _ _ _ (pv 1) (@pa_cons _ _ _ _ _ pe_int pa_nil rfl) rfl) rfl) rfl) rfl)))))), ?_⟩
  have hcut : cutV (ns.map V.int) none (some 63) = ns.map V.int := by
    have e : (ns.map V.int).length = ns.length := List.length_map _
    show List.take (min 63 (ns.map V.int).length - 0) (List.drop 0 (ns.map V.int)) = _
    rw [List.drop_zero]
    exact List.take_of_length_le (by omega)
  walk_at "st"
  refine R.slL hS fun c hc => ?_
  rw [hcut]
  refine R.iL1 (SqL.of upd_same) ?_
  refine for_list (xs := ns.map V.int) (fun i σ H1 => ∃ (st : Int) (x : Option V), σ = [some (.ref a), some (.int st), x] ∧ 0 ≤ st ∧ st < 2147483647 ∧ H1 = upd H c (.lst (ns.map V.int))) ⟨19, none, rfl, by omega, by omega, rfl⟩ ?_ ?_ ?_
  · rintro i σ H1 hi ⟨st, x, rfl, h1, h2, rfl⟩
    exact SqL.of upd_same
  · rintro i x σ H1 hx ⟨st, y, rfl, h1, h2, rfl⟩
    rw [List.getElem?_map] at hx
    obtain ⟨n, _, rfl⟩ := Option.map_eq_some_iff.mp hx
    walk_at "st"
    exact ⟨_, _, rfl, Int.emod_nonneg _ (by decide), Int.emod_lt_of_pos _ (by decide), rfl⟩
  · rintro σ H1 ⟨st, x, rfl, h1, h2, rfl⟩
    walk_at "st"
    refine R.slL ((same_new hc).seq hS) fun c2 hc2 => ?_
    rw [hcut]
    refine R.iL1 (SqL.of upd_same) ?_
    intro acc hacc
    refine R.comp_list (xs := ns.map V.int) (fun i σ H2 => ∃ (x : Option V), σ = [x] ∧ H2 = upd (upd (upd H c (.lst (ns.map V.int))) c2 (.lst (ns.map V.int))) acc (.lst (((ns.take i).map fun n => (if n < 0 then -n else n) % 10 ^ 60).map V.int))) ⟨none, rfl, rfl⟩ ?_ ?_ ?_
    · rintro i σ H1 hi ⟨x, rfl, rfl⟩
      refine SqL.of ?_
      rw [upd_ne (ne_of_none upd_same hacc)]
      exact upd_same
    · rintro i x σ H1 hx ⟨y, rfl, rfl⟩
      rw [List.getElem?_map] at hx
      obtain ⟨n, hn, rfl⟩ := Option.map_eq_some_iff.mp hx
      walk_at "st"
      refine ⟨_, upd_same, ?_, _, rfl, ?_⟩
      · rw [List.length_map, List.length_map, List.length_take]
        exact small1000 (by omega)
      · rw [upd_upd, List.take_add_one, hn, List.map_append, List.map_append]
        rfl
    · rintro σ H1 ⟨x, rfl, rfl⟩
      walk_at "st"
      refine (show mkL _ _ _ from ⟨by show 5 ≤ sizeLine; decide, fun p hp => ?_⟩)
      have hn1 := ne_of_none (upd_same (H := upd (upd H c (.lst (ns.map V.int))) c2 (.lst (ns.map V.int))) (a := acc)) hp
      have s1 : Same H (upd (upd (upd H c (.lst (ns.map V.int))) c2 (.lst (ns.map V.int))) acc (.lst (((ns.take (ns.map V.int).length).map fun n => (if n < 0 then -n else n) % 10 ^ 60).map V.int))) := (same_new hc).trans ((same_new hc2).trans (same_new hacc))
      refine q p acc _ (s1.trans (same_new hp)) (s1.free hp) ⟨_, 0, 0, st, 0, upd_same, by rw [upd_ne hn1]; exact upd_same, ?_, ?_, by omega, by omega, by omega, h1, h2⟩
      · intro y hy
        obtain ⟨z, _, rfl⟩ := List.mem_map.mp hy
        exact ⟨Int.emod_nonneg _ (by decide), Int.emod_lt_of_pos _ (by decide)⟩
      · rw [List.length_map, List.length_take]
        omega
theorem scLawDraw : FnScope ["bag", "many", "found"] ["bag", "many"] (defScope sLawDraw) := ⟨rfl, rfl, rfl, by decide +kernel, rfl, by decide +kernel, by decide +kernel⟩
theorem ok__law_draw (F : Fun K "_law_draw" "_law_draw" sLawDraw f fd)  (m_len : mg "len" = none)  :
    FnOk P w K mg base CX0 1 f fd ["bag", "many"] spDraw := by
  refine F.ok scLawDraw (fun vs H Q E h => ?_) (fun cdv A outer s H vs Q E hr h => ?_)
  · obtain ⟨b, l, many, rfl, hB, hm, hs, q⟩ := h
    rfl
  obtain ⟨b, l, many, rfl, hB, hm, hs, q⟩ := h
  refine ⟨_, (@pss_cons _ _ _ _ _ (@ps_if _ _ _ _ _ _ _ _ (PW.pt (pw_and (@pt_cmpR _ _ _ _ _ _ _ _ op_eq (@pe_ix _ _ _ _ _ _ _ ix_list (pv 0) pe_int (fun _ _ => rfl)) pe_int (nomark _)) (pw_and1 (@pt_cmpR _ _ _ _ _ _ _ _ op_lt (@pe_ix _ _ _ _ _ _ _ ix_list (pv 0) pe_int (fun _ _ => rfl)) (@pe_callB _ _ _ _ _ _ _ _ _ call_len_seq rfl m_len PySem.boot_len (@pa_cons _ _ _ _ _ (@pe_ix _ _ _ _ _ _ _ ix_list (pv 0) pe_int (fun _ _ => rfl)) pa_nil rfl) (by decide) (by decide) (by rfl) (by rfl)) (nomark _))))) (@pss_cons _ _ _ _ _ (@ps_asg _ _ _ _ _ _ (@pe_ix _ _ _ _ _ _ _ ix_list (@pe_ix _ _ _ _ _ _ _ ix_list (pv 0) pe_int (fun _ _ => rfl)) (@pe_ix _ _ _ _ _ _ _ ix_list (pv 0) pe_int (fun _ _ => rfl)) (fun _ _ => rfl)) (pg_sub (pv 0) pe_int set_list) (by rfl) (by rfl) (by rfl)) (@pss_one _ _ _ (@ps_asg _ _ _ _ _ _ (@pe_op _ _ _ _ _ _ _ _ op_add (@pe_ix _ _ _ _ _ _ _ ix_list (pv 0) pe_int (fun _ _ => rfl)) pe_int) (pg_sub (pv 0) pe_int set_list) (by rfl) (by rfl) (by rfl)))) (@pss_one _ _ _ (@ps_if _ _ _ _ _ _ _ _ (@pt_cmpR _ _ _ _ _ _ _ _ op_eq (@pe_ix _ _ _ _ _ _ _ ix_list (pv 0) pe_int (fun _ _ => rfl)) pe_int (nomark _)) (@pss_cons _ _ _ _ _ (@ps_asg _ _ _ _ _ _ (@pe_op _ _ _ _ _ _ _ _ op_add (@pe_ix _ _ _ _ _ _ _ ix_list (pv 0) pe_int (fun _ _ => rfl)) pe_int) (pg_sub (pv 0) pe_int set_list) (by rfl) (by rfl) (by rfl)) (@pss_cons _ _ _ _ _ (@ps_asg _ _ _ _ _ _ (@pe_op _ _ _ _ _ _ _ _ op_mod (@pe_op _ _ _ _ _ _ _ _ op_add (@pe_op _ _ _ _ _ _ _ _ op_add (@pe_op _ _ _ _ _ _ _ _ op_add (@pe_op _ _ _ _ _ _ _ _ op_pow (@pe_ix _ _ _ _ _ _ _ ix_list (pv 0) pe_int (fun _ _ => rfl)) pe_int) (@pe_op _ _ _ _ _ _ _ _ op_mulA pe_int (@pe_ix _ _ _ _ _ _ _ ix_list (pv 0) pe_int (fun _ _ => rfl)))) (@pe_op _ _ _ _ _ _ _ _ op_mulA pe_int (@pe_ix _ _ _ _ _ _ _ ix_list (pv 0) pe_int (fun _ _ => rfl)))) pe_int) pe_int) (pg_sub (pv 0) pe_int set_list) (by rfl) (by rfl) (by rfl)) (@pss_one _ _ _ (@ps_ret _ _ _ _ (@pe_op _ _ _ _ _ _ _ _ op_mod (@pe_op _ _ _ _ _ _ _ _ op_fdivS (@pe_ix _ _ _ _ _ _ _ ix_list (pv 0) pe_int (fun _ _ => rfl)) pe_int) (pv 1)))))) pss_nil))) (@pss_cons _ _ _ _ _ (@ps_set _ _ (2) _ _ _ _ scLawDraw.nd rfl (Or.inl rfl) (@pe_op _ _ _ _ _ _ _ _ op_mod (@pe_ix _ _ _ _ _ _ _ ix_list (pv 0) pe_int (fun _ _ => rfl)) (pv 1)) (by rfl) (by first | exact .inl rfl | exact .inr rfl | assumption)) (@pss_cons _ _ _ _ _ (@ps_asg _ _ _ _ _ _ (@pe_op _ _ _ _ _ _ _ _ op_fdivS (@pe_ix _ _ _ _ _ _ _ ix_list (pv 0) pe_int (fun _ _ => rfl)) (pv 1)) (pg_sub (pv 0) pe_int set_list) (by rfl) (by rfl) (by rfl)) (@pss_one _ _ _ (@ps_ret _ _ _ _ (pv 2)))))), ?_⟩
  obtain ⟨ns, i, c, st, n, h1, h2, h3, h4, h5, h6, h7, h8, h9⟩ := id hB
  have hlb := bag_ne h1 h2
  have fin : ∀ (H1 : Hp) (i' c' : Int), H1 b = some (.lst [.ref l, .int i', .int c', .int st, .int n]) → But (Nb b) H H1 → 0 ≤ i' → 0 ≤ c' → c' < 10 ^ 60 →
      ∀ (H2 : Hp), H2 = upd H1 b (.lst [.ref l, .int i', .int (c' / many), .int st, .int n]) → Q (.int (c' % many)) H2 := fun H1 i' c' e1 bt g1 g2 g3 H2 e2 => by
    subst e2
    have hd1 : 0 ≤ c' / many := Int.ediv_nonneg g2 (by omega)
    have hd2 : c' / many ≤ c' := Int.ediv_le_self _ g2
    exact q _ _ (Int.emod_nonneg _ (by omega)) (Int.emod_lt_of_pos _ hm) (bt.trans (But.set rfl)) (BagAt.put hlb (bt _ _ hlb h2) h3 h4 g1 hd1 (by omega) h8 h9)
  walk_at "st"
  refine ite2 (fun c1 => ?_) (fun c1 => ?_)
  · have c1 : c = 0 := of_decide_eq_true c1
    walk_at "st"
    refine ite2 (fun c2 => ?_) (fun c2 => ?_)
    · have c2 : i < (List.map V.int ns).length := of_decide_eq_true c2
      rw [List.length_map] at c2
      have hi : i.toNat < ns.length := by omega
      obtain ⟨g1, g2⟩ := h3 _ (List.getElem_mem hi)
      walk_at "st"
      refine R.ixM h2 (v := .int ns[i.toNat]) (atI_some h5 (by rw [List.getElem?_map, List.getElem?_eq_getElem hi]; rfl)) ?_
      walk_at "st"
      refine fin (upd H b (.lst [.ref l, .int (i + 1), .int ns[i.toNat], .int st, .int n])) (i + 1) ns[i.toNat] upd_same (But.set rfl) (by omega) g1 g2 _ ?_
      rw [upd_upd]
      rfl
    · walk_at "st"
      exact q _ _ (Int.emod_nonneg _ (by omega)) (Int.emod_lt_of_pos _ hm) (But.set rfl) (BagAt.put hlb h2 h3 h4 h5 h6 h7 (Int.emod_nonneg _ (by decide)) (Int.emod_lt_of_pos _ (by decide)))
  · have c1 : ¬ c = 0 := of_decide_eq_false (Bool.eq_false_iff.mpr c1)
    walk_at "st"
    exact fin H i c h1 (But.refl _ _) h5 h6 h7 _ rfl
theorem eqv_nil (is : List Int) : PyData.eqv (.list (is.map PyData.int)) (.list []) = decide (is = []) := by
  cases is <;> simp [PyData.eqv, PyData.eqvAll]
theorem shaped_ints (is : List Int) : SeqAt.shaped (.list (is.map PyData.int)) = true := by
  have h : PyData.depthAll (is.map PyData.int) = 0 ∧ PyData.canLayAll0 (is.map PyData.int) = true := by
    induction is with
    | nil => simp [PyData.depthAll, PyData.canLayAll0]
    | cons a r ih => simp [PyData.depthAll, PyData.depth, PyData.canLayAll0, PyData.canLay0, ih.2, ih.1]
  unfold SeqAt.shaped
  simp [PyData.canLay0, PyData.depth, h.2, h.1]
theorem isDs_ints {nb : Addr → Prop} {H : Hp} : ∀ is : List Int, IsDs nb H (is.map PyData.int) (is.map V.int)
  | [] => IsDs.nil
  | i :: is => IsDs.cons (.int i) (isDs_ints is)
theorem noDiv_of {r : Int} (h0 : r ≤ 10100) (h : ∀ d : Int, 2 ≤ d → d < 102 → ¬ (d * d ≤ r ∧ r % d = 0)) : NoDiv r := fun d d1 d2 e => by
  by_cases hd : d < 102
  · exact h d d1 hd ⟨d2, e⟩
  · have : 102 * 102 ≤ d * d := Int.mul_le_mul (by omega) (by omega) (by omega) (by omega)
    omega
theorem scLawPrimeFrom : FnScope ["number", "found"] ["number"] (defScope sLawPrimeFrom) := ⟨rfl, rfl, rfl, by decide +kernel, rfl, by decide +kernel, by decide +kernel⟩
theorem ok__law_prime_from (F : Fun K "_law_prime_from" "_law_prime_from" sLawPrimeFrom f fd)  (m_range : mg "range" = none)  :
    FnOk P w K mg base CX0 1 f fd ["number"] spPrimeFrom := by
  refine F.ok scLawPrimeFrom (fun vs H Q E h => ?_) (fun cdv A outer s H vs Q E hr h => ?_)
  · obtain ⟨n, rfl, hn1, hn2, q⟩ := h
    rfl
  obtain ⟨n, rfl, hn1, hn2, q⟩ := h
  refine ⟨_, (@pss_cons _ _ _ _ _ (@ps_for _ _ _ _ _ _ _ _ PassesOwn.never rfl (@pi_range2 _ _ _ _ _ _ _ rfl m_range (@pa_cons _ _ _ _ _ (pv 0) (@pa_cons _ _ _ _ _ (@pe_op _ _ _ _ _ _ _ _ op_add (pv 0) pe_int) pa_nil rfl) rfl) (by rfl) (by rfl)) (pg_name (i := 1) scLawPrimeFrom.nd rfl (Or.inr rfl)) (@pss_one _ _ _ (@ps_if _ _ _ _ _ _ _ _ (@pt_cmpR _ _ _ _ _ _ _ _ (op_eqD hr.units) (pe_lcomp (CompOk.of (show compOkB (defScope sLawPrimeFrom) ["number", "found"] _ ["k", "found"] [none, some 1] = true by decide +kernel)) (@pi_range2 _ _ _ _ _ _ _ rfl m_range (@pa_cons _ _ _ _ _ pe_int (@pa_cons _ _ _ _ _ pe_int pa_nil rfl) rfl) (by rfl) (by rfl)) (fun _ _ _ _ => ⟨(pg_name (i := 0) (by show List.Nodup (["k", "found"] : List Str); decide +kernel) rfl (Or.inl rfl)), (pts_one (PW.pt (pw_and (@pt_cmpR _ _ _ _ _ _ _ _ op_le (@pe_op _ _ _ _ _ _ _ _ op_mulA (pv 0) (pv 0)) (pv 1) (nomark _)) (pw_and1 (@pt_cmpR _ _ _ _ _ _ _ _ op_eq (@pe_op _ _ _ _ _ _ _ _ op_mod (pv 1) (pv 0)) pe_int (nomark _)))))), (pv 0)⟩)) (@pe_lst _ _ _ _ pa_nil) (nomark _)) (@pss_one _ _ _ (@ps_ret _ _ _ _ (pv 1))) pss_nil)) (by intro _; rfl)) (@pss_one _ _ _ (@ps_ret _ _ _ _ pe_int))), ?_⟩
  walk_at "st"
  refine for_range (fun i σ H1 => Same H H1 ∧ ∃ (x : Option V), σ = [some (.int n), x]) ⟨Same.refl _, none, rfl⟩ ?_ ?_
  · rintro i σ H1 hi ⟨s1, x, rfl⟩
    have hi2 : (i : Int) < 60 := by omega
    walk_at "st"
    intro acc hacc
    refine R.comp_range (fun j σ H2 => Same H1 H2 ∧ (∃ x : Option V, σ = [x, some (.int (n + i))]) ∧ ∃ is : List Int, H2 acc = some (.lst (is.map V.int)) ∧ is.length ≤ j ∧ (is = [] → ∀ d : Int, 2 ≤ d → d < 2 + j → ¬ (d * d ≤ n + i ∧ (n + i) % d = 0))) ?_ ?_ ?_
    · exact ⟨same_new hacc, ⟨none, rfl⟩, [], upd_same, Nat.zero_le _, fun _ d d1 d2 => by omega⟩
    · rintro j σ H2 hj ⟨s2, ⟨x, rfl⟩, is, e2, l2, h2⟩
      have hj2 : (j : Int) < 100 := by omega
      have next : ∀ d : Int, d < 2 + ((j + 1 : Nat) : Int) → d < 2 + j ∨ d = 2 + j := fun d h => by omega
      walk_at "st"
      refine ite2 (fun c1 => ?_) (fun c1 => ?_)
      · have c1 : (2 + (j : Int)) * (2 + j) ≤ n + i := of_decide_eq_true c1
        walk_at "st"
        refine ite2 (fun c2 => ?_) (fun c2 => ?_)
        · have c2 : (n + i) % (2 + (j : Int)) = 0 := of_decide_eq_true c2
          walk_at "st"
          refine ⟨_, e2, ?_, ?_, ⟨_, rfl⟩, is ++ [2 + (j : Int)], ?_, ?_, fun e => ?_⟩
          · rw [List.length_map]; exact small1000 (by omega)
          · exact fun a o h => by rw [upd_ne (ne_of_none h hacc)]; exact s2 _ _ h
          · rw [upd_same, List.map_append]; rfl
          · rw [List.length_append, List.length_singleton]; omega
          · simp at e
        · have c2 : ¬ (n + i) % (2 + (j : Int)) = 0 := of_decide_eq_false (Bool.eq_false_iff.mpr c2)
          refine ⟨s2, ⟨_, rfl⟩, is, e2, by omega, fun e d d1 d2 => ?_⟩
          rcases next d d2 with h | h
          · exact h2 e d d1 h
          · rw [h]; exact fun z => c2 z.2
      · have c1 : ¬ (2 + (j : Int)) * (2 + j) ≤ n + i := of_decide_eq_false (Bool.eq_false_iff.mpr c1)
        walk_at "st"
        refine ⟨s2, ⟨_, rfl⟩, is, e2, by omega, fun e d d1 d2 => ?_⟩
        rcases next d d2 with h | h
        · exact h2 e d d1 h
        · rw [h]; exact fun z => c1 z.1
    · rintro σ H2 ⟨s2, ⟨x, rfl⟩, is, e2, l2, h2⟩
      walk_at "st"
      refine R.lstA (by decide) fun p H3 s3 f3 e3 => ?_
      refine ⟨fun _ => False, .list (is.map PyData.int), .list [], .lst id (s3 _ _ e2) (isDs_ints is), .lst id e3 IsDs.nil, shaped_ints is, by decide, ?_⟩
      rw [eqv_nil]
      walk_at "st"
      have s : Same H H3 := s1.trans (s2.trans s3)
      refine ite2 (fun c => ?_) (fun c => ?_)
      · have c : is = [] := by simpa using c
        walk_at "st"
        exact q _ _ s (by omega) (by omega) (noDiv_of (by omega) fun d d1 d2 => h2 c d d1 (by omega))
      · walk_at "st"
        exact ⟨s, _, rfl⟩
  · rintro σ H1 ⟨s1, x, rfl⟩
    walk_at "st"
    refine q _ _ s1 (by omega) (by omega) fun d d1 d2 => ?_
    have : 2 * 2 ≤ d * d := Int.mul_le_mul d1 d1 (by omega) (by omega)
    omega
theorem primeList_ok : ∀ x ∈ primeList, 2 ≤ x ∧ x < 10 ^ 40 := by decide
def primeK : List Int := [2, 3, 5, 7, 2, 11, 101, 10007, 65537, 1000003, 998244353, 1000000007, 2147483647, 1000000000039, 10 ^ 39 + 3, 10 ^ 40 - 17, 2305843009213693951, 618970019642690137449562111, 162259276829213363391578010288127, 170141183460469231731687303715884105727]
theorem primeK_in : ∀ x ∈ primeK, x ∈ primeList := by decide
theorem scLawPrime : FnScope ["bag", "some", "way"] ["bag"] (defScope sLawPrime) := ⟨rfl, rfl, rfl, by decide +kernel, rfl, by decide +kernel, by decide +kernel⟩
theorem ok__law_prime (F : Fun K "_law_prime" "_law_prime" sLawPrime f fd) (c__law_draw : Callee P w K mg base "_law_draw" 1 ["bag", "many"] spDraw) (c__law_prime_from : Callee P w K mg base "_law_prime_from" 1 ["number"] spPrimeFrom)   :
    FnOk P w K mg base CX0 2 f fd ["bag"] spPrime := by
  refine F.ok scLawPrime (fun vs H Q E h => ?_) (fun cdv A outer s H vs Q E hr h => ?_)
  · obtain ⟨b, l, rfl, hB, q⟩ := h
    rfl
  obtain ⟨b, l, rfl, hB, q⟩ := h
  refine ⟨_, (@pss_cons _ _ _ _ _ (@ps_setInts _ 1 _ _ _ _ _ _ scLawPrime.nd rfl (Or.inl rfl) rfl (Or.inl rfl)) (@pss_cons _ _ _ _ _ (@ps_set _ _ (1) _ _ _ _ scLawPrime.nd rfl (Or.inl rfl) (@pe_op _ _ _ _ _ _ _ _ op_cat (pv 1) (@pe_lst _ _ _ _ (@pa_cons _ _ _ _ _ (@pe_op _ _ _ _ _ _ _ _ op_add (@pe_op _ _ _ _ _ _ _ _ op_pow pe_int pe_int) pe_int) (@pa_cons _ _ _ _ _ (@pe_op _ _ _ _ _ _ _ _ op_sub (@pe_op _ _ _ _ _ _ _ _ op_pow pe_int pe_int) pe_int) (@pa_cons _ _ _ _ _ pe_int (@pa_cons _ _ _ _ _ pe_int pa_nil rfl) rfl) rfl) rfl))) (by rfl) (by first | exact .inl rfl | exact .inr rfl | assumption)) (@pss_cons _ _ _ _ _ (@ps_set _ _ (1) _ _ _ _ scLawPrime.nd rfl (Or.inl rfl) (@pe_op _ _ _ _ _ _ _ _ op_cat (pv 1) (@pe_lst _ _ _ _ (@pa_cons _ _ _ _ _ pe_int (@pa_cons _ _ _ _ _ pe_int pa_nil rfl) rfl))) (by rfl) (by first | exact .inl rfl | exact .inr rfl | assumption)) (@pss_cons _ _ _ _ _ (@ps_set _ _ (2) _ _ _ _ scLawPrime.nd rfl (Or.inl rfl) (@pe_callC _ _ _ _ _ _ _ _ _ _ c__law_draw (hr.mono (by decide)) (@pa_cons _ _ _ _ _ (pv 0) (@pa_cons _ _ _ _ _ pe_int pa_nil rfl) rfl) (by rfl) (by decide) (by rfl) (by rfl)) (by rfl) (by first | exact .inl rfl | exact .inr rfl | assumption)) (@pss_one _ _ _ (@ps_ret _ _ _ _ (@pe_ifExp _ _ _ _ _ _ _ _ (@pt_cmpR _ _ _ _ _ _ _ _ op_lt (pv 2) pe_int (nomark _)) (@pe_ix _ _ _ _ _ _ _ ix_list (pv 1) (pv 2) (fun _ _ => rfl)) (@pe_callC _ _ _ _ _ _ _ _ _ _ c__law_prime_from (hr.mono (by decide)) (@pa_cons _ _ _ _ _ (@pe_op _ _ _ _ _ _ _ _ op_add pe_int (@pe_callC _ _ _ _ _ _ _ _ _ _ c__law_draw (hr.mono (by decide)) (@pa_cons _ _ _ _ _ (pv 0) (@pa_cons _ _ _ _ _ pe_int pa_nil rfl) rfl) (by rfl) (by decide) (by rfl) (by rfl))) pa_nil rfl) (by rfl) (by decide) (by rfl) (by rfl))))))))), ?_⟩
  walk_at "st"
  refine R.lstA (by decide) fun p1 H1 s1 f1 e1 => ?_
  walk_at "st"
  refine R.lstA (by decide) fun p2 H2 s2 f2 e2 => ?_
  refine R.catA (s2 _ _ e1) e2 (by decide) fun p3 H3 s3 f3 e3 => ?_
  walk_at "st"
  refine R.lstA (by decide) fun p4 H4 s4 f4 e4 => ?_
  refine R.catA (s4 _ _ e3) e4 (by decide) fun p5 H5 s5 f5 e5 => ?_
  have s : Same H H5 := s1.trans (s2.trans (s3.trans (s4.trans s5)))
  have s16 : Same H H4 := s1.trans (s2.trans (s3.trans s4))
  have B7 := hB.same s
  have ne7 := (hB.same s16).ne f5
  have e7' : H5 p5 = some (.lst (primeK.map V.int)) := e5
  walk_at "st"
  refine ⟨b, l, 24, rfl, B7, by omega, by walk_at "ds", fun way H8 w1 w2 bt8 B8 => ?_⟩
  have e8 := bt8 _ _ (show ¬ Nb b p5 from ne7.1) e7'
  walk_at "st"
  refine ite2 (fun c => ?_) (fun c => ?_)
  · have c : way < 20 := of_decide_eq_true c
    have hw : way.toNat < primeK.length := by show way.toNat < 20; omega
    walk_at "st"
    refine R.ixM e8 (v := .int primeK[way.toNat]) (atI_some w1 (by rw [List.getElem?_map, List.getElem?_eq_getElem hw]; rfl)) ?_
    have hm := primeK_in _ (List.getElem_mem hw)
    obtain ⟨g1, g2⟩ := primeList_ok _ hm
    exact q _ _ ⟨g1, g2, .inl hm⟩ ((But.of s).trans bt8) B8
  · walk_at "st"
    refine ⟨b, l, 10000, rfl, B8, by omega, by walk_at "ds", fun r H9 r1 r2 bt9 B9 => ?_⟩
    walk_at "st"
    refine ⟨2 + r, rfl, by omega, by omega, fun p H10 s10 p1 p2 nd => ?_⟩
    exact q _ _ ⟨p1, by omega, .inr nd⟩ ((But.of s).trans (bt8.trans (bt9.trans (But.of s10)))) (B9.same s10)
def F__law_factor : DF := fun ds Φ => ∃ p : Int, ds = [.int p] ∧ 2 ≤ p ∧ p < 10 ^ 40 ∧ ∀ x : Int, Φ true (.int x)
theorem mono__law_factor : MonoF F__law_factor := fun ds Φ Ψ ⟨p, e, h1, h2, q⟩ z => ⟨p, e, h1, h2, fun x => z _ _ (q x)⟩
theorem scLawFactor : FnScope ["bag", "p"] ["bag", "p"] (defScope sLawFactor) := ⟨rfl, rfl, rfl, by decide +kernel, rfl, by decide +kernel, by decide +kernel⟩
theorem ok__law_factor (F : Fun K "_law_factor" "_law_factor" sLawFactor f fd) (c__law_draw : Callee P w K mg base "_law_draw" 1 ["bag", "many"] spDraw)   :
    FnOk P w K mg base CX0 2 f fd ["bag", "p"] (spB 2 F__law_factor) := by
  refine F.ok scLawFactor (fun vs H Q E h => h.1) (fun cdv A outer s H vs Q E hr h => ?_)
  obtain ⟨_, b, l, ws, nb, ds, rfl, hB, hlive, hnb, hds, hF⟩ := h
  obtain ⟨Φ, hΦ, hF⟩ : ∃ Φ : Pd, (∀ f d v H', Φ f d → But (Nb b) H H' → BagAt H' b l → IsD (fun a => nb a ∨ (f = true ∧ H a ≠ none)) H' d v → Q v H') ∧ F__law_factor ds Φ := ⟨_, fun f d v H' q => q v H', hF⟩
  obtain ⟨p, rfl, p2, p40, q⟩ := hF
  refine ⟨_, (@pss_one _ _ _ (@ps_ret _ _ _ _ (@pe_op _ _ _ _ _ _ _ _ op_mod (@pe_op _ _ _ _ _ _ _ _ op_mulA (@pe_op _ _ _ _ _ _ _ _ op_add pe_int (@pe_callC _ _ _ _ _ _ _ _ _ _ c__law_draw (hr.mono (by decide)) (@pa_cons _ _ _ _ _ (pv 0) (@pa_cons _ _ _ _ _ (@pe_op _ _ _ _ _ _ _ _ op_sub (pv 1) pe_int) pa_nil rfl) rfl) (by rfl) (by decide) (by rfl) (by rfl))) (@pe_op _ _ _ _ _ _ _ _ op_add (@pe_op _ _ _ _ _ _ _ _ op_fdivS (pv 1) pe_int) pe_int)) (pv 1)))), ?_⟩
  refine Sv.enterB hB hlive hnb hds hΦ (ρ := [.bag, .d false _]) rfl ?_
  clear hΦ hds
  walk_at "dt"
  intro r r1 r2
  walk_at "dt"
  exact q _
def F__law_places : DF := fun ds Φ => ∃ n wide : Int, ds = [.int n, .int wide] ∧ 1 ≤ n ∧ n ≤ 420 ∧ 1 ≤ wide ∧ wide ≤ 60 ∧ ∀ rs : List Int, rs ≠ [] → rs.length ≤ 420 → rs.Nodup → (∀ x ∈ rs, 0 ≤ x ∧ x < n) → Φ true (.list (rs.map .int))
theorem mono__law_places : MonoF F__law_places := fun ds Φ Ψ ⟨n, wide, e, h1, h2, h3, h4, q⟩ z => ⟨n, wide, e, h1, h2, h3, h4, fun rs a b c d => z _ _ (q rs a b c d)⟩
theorem scLawPlaces : FnScope ["bag", "n", "wide"] ["bag", "n", "wide"] (defScope sLawPlaces) := ⟨rfl, rfl, rfl, by decide +kernel, rfl, by decide +kernel, by decide +kernel⟩
theorem ok__law_places (F : Fun K "_law_places" "_law_places" sLawPlaces f fd) (c__law_draw : Callee P w K mg base "_law_draw" 1 ["bag", "many"] spDraw) (m_sorted : mg "sorted" = none) (m_list : mg "list" = none) (m_set : mg "set" = none) (m_range : mg "range" = none)  :
    FnOk P w K mg base CX0 2 f fd ["bag", "n", "wide"] (spB 3 F__law_places) := by
  refine F.ok scLawPlaces (fun vs H Q E h => h.1) (fun cdv A outer s H vs Q E hr h => ?_)
  obtain ⟨_, b, l, ws, nb, ds, rfl, hB, hlive, hnb, hds, hF⟩ := h
  obtain ⟨Φ, hΦ, hF⟩ : ∃ Φ : Pd, (∀ f d v H', Φ f d → But (Nb b) H H' → BagAt H' b l → IsD (fun a => nb a ∨ (f = true ∧ H a ≠ none)) H' d v → Q v H') ∧ F__law_places ds Φ := ⟨_, fun f d v H' q => q v H', hF⟩
  obtain ⟨n, wide, rfl, n0, n1, w0, w1, q⟩ := hF
  refine ⟨_, (@pss_cons _ _ _ _ _ (@ps_if _ _ _ _ _ _ _ _ (PW.pt (pw_and (@pt_cmpR _ _ _ _ _ _ _ _ op_le (pv 1) pe_int (nomark _)) (pw_and1 (@pt_cmpR _ _ _ _ _ _ _ _ op_eq (@pe_callC _ _ _ _ _ _ _ _ _ _ c__law_draw (hr.mono (by decide)) (@pa_cons _ _ _ _ _ (pv 0) (@pa_cons _ _ _ _ _ pe_int pa_nil rfl) rfl) (by rfl) (by decide) (by rfl) (by rfl)) pe_int (nomark _))))) (@pss_one _ _ _ (@ps_ret _ _ _ _ (@pe_callTy _ _ _ _ _ _ _ _ _ (call_listR rfl) rfl m_list PyProof.Rows.boot_list (@pa_cons _ _ _ _ _ (@pe_callTy _ _ _ _ _ _ _ _ _ call_rangeM rfl m_range PyProof.Rows.boot_range (@pa_cons _ _ _ _ _ (pv 1) pa_nil rfl) (by decide) (by decide) (by rfl) (by rfl)) pa_nil rfl) (by decide) (by decide) (by rfl) (by rfl)))) pss_nil) (@pss_one _ _ _ (@ps_ret _ _ _ _ (@pe_callB _ _ _ _ _ _ _ _ (rSorted P w) (call_sortM rfl) rfl m_sorted PyProof.Rows.boot_sorted (@pa_cons _ _ _ _ _ (@pe_callTy _ _ _ _ _ _ _ _ (rSetOf P w K) (call_setM rfl) rfl m_set PyProof.Rows.boot_set (@pa_cons _ _ _ _ _ (pe_lcomp (CompOk.of (show compOkB (defScope sLawPlaces) ["bag", "n", "wide"] _ ["k", "bag", "n"] [none, some 0, some 1] = true by decide +kernel)) (@pi_range1 _ _ _ _ _ _ rfl m_range (@pa_cons _ _ _ _ _ (@pe_op _ _ _ _ _ _ _ _ op_add pe_int (@pe_callC _ _ _ _ _ _ _ _ _ _ c__law_draw (hr.mono (by decide)) (@pa_cons _ _ _ _ _ (pv 0) (@pa_cons _ _ _ _ _ (pv 2) pa_nil rfl) rfl) (by rfl) (by decide) (by rfl) (by rfl))) pa_nil rfl) (by rfl)) (fun _ _ _ _ => ⟨(pg_name (i := 0) (by show List.Nodup (["k", "bag", "n"] : List Str); decide +kernel) rfl (Or.inl rfl)), pts_nil, (@pe_callC _ _ _ _ _ _ _ _ _ _ c__law_draw (hr.mono (by decide)) (@pa_cons _ _ _ _ _ (pv 1) (@pa_cons _ _ _ _ _ (pv 2) pa_nil rfl) rfl) (by rfl) (by decide) (by rfl) (by rfl))⟩)) pa_nil rfl) (by decide) (by decide) (by rfl) (by rfl)) pa_nil rfl) (by decide) (by decide) (by rfl) (by rfl))))), ?_⟩
  refine Sv.enterB hB hlive hnb hds hΦ (ρ := [.bag, .d false _, .d false _]) rfl ?_
  clear hΦ hds
  have main : Ev { B := some (b, l), H0 := H, A := nb } [Sl.bag, Sl.d false (PyData.int n), Sl.d false (PyData.int wide)]
                    (tCB (rSorted P w)
                      (tCons
                        (tCB (rSetOf P w K)
                          (tCons
                            (tComp
                              (iRng1
                                (tCons
                                  (tOp (rI0 fun i j => V.int (i + j)) (tC (V.int 1))
                                    (tCall spDraw [] E0 (tCons (tVar 0) (tCons (tVar 2) tNil))))
                                  tNil))
                              (gName 0) tNoTest (tCall spDraw [] E0 (tCons (tVar 1) (tCons (tVar 2) tNil)))
                              [none, some 0, some 1])
                            tNil))
                        tNil)) Φ := by
    refine EvN.ev (EvN.sortedSet (EvN.ev (EvN.compR1 (by decide) rfl ?_)))
    walk_at "dt"
    intro m0 m1 m2
    walk_at "dt"
    refine CompD.ints (fun x => 0 ≤ x ∧ x < n) ?_ fun os hol hos => ⟨os, rfl, by omega, fun rs hrs hmem => ?_⟩
    · rintro i d ⟨hi, rfl⟩
      walk_at "dt"
      refine ⟨by walk_at "wk", ?_⟩
      walk_at "dt"
      exact fun r r1 r2 => ⟨r, rfl, r1, r2⟩
    have hrl : 0 < rs.length := by
      have : 0 < os.length := by omega
      obtain ⟨y, hy⟩ := List.exists_mem_of_length_pos this
      exact List.length_pos_of_mem ((hmem y).mpr hy)
    have hrl2 : rs.length ≤ os.length := List.Nodup.length_le_of_subset (hrs.imp fun h => by omega) fun k hk => (hmem k).mp hk
    exact q rs (fun z => by rw [z] at hrl; simp at hrl) (by omega) (hrs.imp fun h => by omega) fun x hx => hos x ((hmem x).mp hx)
  walk_at "dt"
  by_cases c : n ≤ 20
  · rw [if_pos (decide_eq_true c)]
    walk_at "dt"
    intro r r1 r2
    by_cases c2 : r = 15
    · walk_at "dt"
      refine EvN.ev (EvN.listRange ?_)
      walk_at "dt"
      refine q _ ?_ ?_ ?_ ?_
      · intro z
        have := congrArg List.length z
        simp at this
        omega
      · simp; omega
      · rw [List.nodup_iff_pairwise_ne, List.pairwise_map]
        exact List.pairwise_lt_range.imp fun h => by omega
      · intro x hx
        obtain ⟨i, hi, rfl⟩ := List.mem_map.mp hx
        have := List.mem_range.mp hi
        omega
    · walk_at "dt"
      exact main
  · rw [if_neg (by simpa using c)]
    walk_at "dt"
    exact main
def F__law_just_one : DF := fun ds Φ => ∃ (prs : Prs) (lot : List Int) (d : PyData), ds = [prsD prs, d] ∧ LotD lot d ∧ prs.length ≤ 10000 ∧ Φ true (.bool (decide (inLot lot prs = 1)))
theorem mono__law_just_one : MonoF F__law_just_one := fun ds Φ Ψ ⟨prs, lot, d, e, h1, h2, q⟩ z => ⟨prs, lot, d, e, h1, h2, z _ _ q⟩
theorem scLawJustOne : FnScope ["pairs", "lot"] ["pairs", "lot"] (defScope sLawJustOne) := ⟨rfl, rfl, rfl, by decide +kernel, rfl, by decide +kernel, by decide +kernel⟩
theorem ok__law_just_one (F : Fun K "_law_just_one" "_law_just_one" sLawJustOne f fd)  (m_len : mg "len" = none)  :
    FnOk P w K mg base CX0 1 f fd ["pairs", "lot"] (spD 2 F__law_just_one) := by
  refine F.ok scLawJustOne (fun vs H Q E h => h.1) (fun cdv A outer s H vs Q E hr h => ?_)
  obtain ⟨_, nb, ds, hlive, hds, hF⟩ := h
  obtain ⟨Φ, hΦ, hF⟩ : ∃ Φ : Pd, (∀ f d v H', Φ f d → Same H H' → IsD (fun a => nb a ∨ (f = true ∧ H a ≠ none)) H' d v → Q v H') ∧ F__law_just_one ds Φ := ⟨_, fun f d v H' q => q v H', hF⟩
  obtain ⟨prs, lot, d0, rfl, hL, hl, q⟩ := hF
  refine ⟨_, (@pss_one _ _ _ (@ps_ret _ _ _ _ (@pe_cmpR _ _ _ _ _ _ _ _ op_eq (@pe_callB _ _ _ _ _ _ _ _ (rLen K) call_lenM rfl m_len PySem.boot_len (@pa_cons _ _ _ _ _ (pe_lcomp (CompOk.of (show compOkB (defScope sLawJustOne) ["pairs", "lot"] _ ["place", "factor", "lot"] [none, none, some 1] = true by decide +kernel)) (@pi_list _ _ _ _ (pv 0)) (fun _ _ _ _ => ⟨(@pg_tupM _ (K) _ _ _ (2) _ rfl rfl (@pgs_cons _ _ _ _ _ (pg_name (i := 0) (by show List.Nodup (["place", "factor", "lot"] : List Str); decide +kernel) rfl (Or.inl rfl)) (@pgs_cons _ _ _ _ _ (pg_name (i := 1) (by show List.Nodup (["place", "factor", "lot"] : List Str); decide +kernel) rfl (Or.inl rfl)) pgs_nil (by rfl)) (by rfl)) (by rfl) (by rfl)), (pts_one (pt_cmpR (op_inX (K := K) (by rfl) hr.units) (pv 0) (pv 2) (by with_unfolding_all rfl))), (pv 0)⟩)) pa_nil rfl) (by decide) (by decide) (by rfl) (by rfl)) pe_int (nomark _)))), ?_⟩
  refine Sv.enterD hlive hds hΦ (ρ := [.d false _, .d false _]) rfl ?_
  clear hΦ hds
  have hlm : (prs.map pairD).length = prs.length := List.length_map ..
  refine Sv.ret ?_
  refine Ev.eq ?_
  refine Ev.lenS ?_
  refine EvN.ev (EvN.compL (by decide) rfl ?_)
  walk_at "dt"
  refine fun v => ⟨true, fun i ds => ds = ((prs.take i).filter fun pr => decide (pr.1 ∈ lot)).map fun pr => .int pr.1, rfl, ?_, ?_⟩
  · rintro i d ds hd hl' rfl
    obtain ⟨pr, hpr, rfl⟩ := map_at hd
    walk_at "dt"
    refine ⟨by walk_at "wk", ?_⟩
    have fin : Tv (Gx.hd { B := none, H0 := H, A := nb } false (.list (prs.map pairD)) v) [.d true (.int pr.1), .d true (.int pr.2), .d false d0] (tTest (tOp (rInX K false) (tVar 0) (tVar 2))) (fun b => b = decide (pr.1 ∈ lot)) := by
      refine Tv.test ?_
      rcases hL with rfl | ⟨ks, rfl, hks⟩
      · refine Ev.inXI ?_
        walk_at "dt"
        refine ⟨lot, rfl, ?_⟩
        refine ⟨_, rfl, ?_⟩
        simp
      · refine Ev.inXD ?_
        walk_at "dt"
        refine ⟨ks, rfl, ?_⟩
        refine ⟨_, rfl, ?_⟩
        rw [hks]
        simp
    refine fin.mono ?_
    rintro b rfl
    by_cases c : pr.1 ∈ lot
    · rw [if_pos (decide_eq_true c)]
      walk_at "dt"
      show _ = List.map _ (List.filter _ (prs.take (i + 1)))
      rw [take_snoc hpr, inLot_snoc, if_pos c, List.map_append]
      rfl
    · rw [if_neg (by simpa using c)]
      show _ = List.map _ (List.filter _ (prs.take (i + 1)))
      rw [take_snoc hpr, inLot_snoc, if_neg c, List.append_nil]
  · rintro ds hl' rfl
    rw [hlm, List.take_length]
    refine ⟨_, .inl rfl, ?_⟩
    walk_at "dt"
    rw [List.length_map]
    have e : decide (((prs.filter fun pr => decide (pr.1 ∈ lot)).length : Int) = 1) = decide (inLot lot prs = 1) := by
      unfold inLot
      rw [decide_eq_decide]
      omega
    rw [e]
    exact q
def F__law_holds : DF := fun ds Φ => ∃ (cs : List Prs) (lot : List Int), ds = [.list (cs.map prsD), .list (lot.map .int)] ∧ (∀ prs ∈ cs, prs.length ≤ 10000) ∧ lot.length ≤ 10000 ∧ Φ true (.bool (holdB cs lot))
theorem mono__law_holds : MonoF F__law_holds := fun ds Φ Ψ ⟨cs, lot, e, h1, h2, q⟩ z => ⟨cs, lot, e, h1, h2, z _ _ q⟩
theorem scLawHolds : FnScope ["checks", "lot", "pairs"] ["checks", "lot"] (defScope sLawHolds) := ⟨rfl, rfl, rfl, by decide +kernel, rfl, by decide +kernel, by decide +kernel⟩
theorem ok__law_holds (F : Fun K "_law_holds" "_law_holds" sLawHolds f fd) (c__law_just_one : Callee P w K mg base "_law_just_one" 1 ["pairs", "lot"] (spD 2 F__law_just_one))   :
    FnOk P w K mg base CX0 2 f fd ["checks", "lot"] (spD 2 F__law_holds) := by
  refine F.ok scLawHolds (fun vs H Q E h => h.1) (fun cdv A outer s H vs Q E hr h => ?_)
  obtain ⟨_, nb, ds, hlive, hds, hF⟩ := h
  obtain ⟨Φ, hΦ, hF⟩ : ∃ Φ : Pd, (∀ f d v H', Φ f d → Same H H' → IsD (fun a => nb a ∨ (f = true ∧ H a ≠ none)) H' d v → Q v H') ∧ F__law_holds ds Φ := ⟨_, fun f d v H' q => q v H', hF⟩
  obtain ⟨cs, lot, rfl, hpl, hll, q⟩ := hF
  refine ⟨_, (@pss_cons _ _ _ _ _ (@ps_for _ _ _ _ _ _ _ _ PassesOwn.never rfl (@pi_list _ _ _ _ (pv 0)) (pg_name (i := 2) scLawHolds.nd rfl (Or.inl rfl)) (@pss_one _ _ _ (@ps_if _ _ _ _ _ _ _ _ (@pt_truthK _ (K) _ _ rfl (@pe_callC _ _ _ _ _ _ _ _ _ _ c__law_just_one (hr.mono (by decide)) (@pa_cons _ _ _ _ _ (pv 2) (@pa_cons _ _ _ _ _ (pv 1) pa_nil rfl) rfl) (by rfl) (by decide) (by rfl) (by rfl)) (fun _ => rfl)) (@pss_one _ _ _ (@ps_ret _ _ _ _ pe_bl)) pss_nil)) (by intro _; rfl)) (@pss_one _ _ _ (@ps_ret _ _ _ _ pe_bl))), ?_⟩
  refine Sv.enterD hlive hds hΦ (ρ := [.d false _, .d false _, .no]) rfl ?_
  clear hΦ hds
  refine Sv.seq ?_
  refine Sv.forL ?_
  walk_at "dt"
  refine fun v2 => ⟨fun i ρ => ∃ (x4 : Sl), (∀ prs ∈ cs.take i, inLot lot prs ≠ 1) ∧ ρ = [.d false (.list (cs.map prsD)), .d false (.list (lot.map .int)), x4], ⟨_, fun _ h => by simp at h, rfl⟩, ?_, ?_⟩
  · rintro i d ρ hd ⟨x4, hI, rfl⟩
    obtain ⟨prs, hprs, rfl⟩ := map_at hd
    refine Gv.nameF ?_
    refine Sv.ifS ?_
    refine Tv.truB ?_
    refine Ev.callD mono__law_just_one ?_
    walk_at "dt"
    refine ⟨rfl, prs, lot, _, rfl, .inl rfl, hpl prs (List.mem_of_getElem? hprs), ?_⟩
    refine ⟨_, rfl, ?_⟩
    by_cases c : inLot lot prs = 1
    · rw [if_pos (decide_eq_true c)]
      walk_at "dt"
      have e : holdB cs lot = false := by
        unfold holdB
        rw [List.all_eq_false]
        exact ⟨prs, List.mem_of_getElem? hprs, by simp [c]⟩
      rw [e] at q
      exact q
    · rw [if_neg (by simpa using c)]
      walk_at "dt"
      refine ⟨_, fun u hu => ?_, rfl⟩
      rw [take_snoc hprs] at hu
      rcases List.mem_append.mp hu with h | h
      · exact hI u h
      · rw [List.mem_singleton.mp h]; exact c
  · rintro ρ ⟨x4, hI, rfl⟩
    rw [List.length_map, List.take_length] at hI
    walk_at "dt"
    have e : holdB cs lot = true := by
      unfold holdB
      rw [List.all_eq_true]
      exact fun u hu => decide_eq_true (hI u hu)
    rw [e] at q
    exact q
def F__law_lot : DF := fun ds Φ => ∃ n most : Int, ds = [.int n, .int most] ∧ 1 ≤ n ∧ n ≤ 420 ∧ 1 ≤ most ∧ most ≤ 60 ∧ ∀ rs : List Int, rs ≠ [] → rs.Pairwise (· < ·) → LotOk n rs → (rs.length : Int) ≤ most → Φ true (.list (rs.map .int))
theorem mono__law_lot : MonoF F__law_lot := fun ds Φ Ψ ⟨n, most, e, h1, h2, h3, h4, q⟩ z => ⟨n, most, e, h1, h2, h3, h4, fun rs a b c d => z _ _ (q rs a b c d)⟩
theorem scLawLot : FnScope ["bag", "n", "most"] ["bag", "n", "most"] (defScope sLawLot) := ⟨rfl, rfl, rfl, by decide +kernel, rfl, by decide +kernel, by decide +kernel⟩
theorem ok__law_lot (F : Fun K "_law_lot" "_law_lot" sLawLot f fd) (c__law_draw : Callee P w K mg base "_law_draw" 1 ["bag", "many"] spDraw) (m_sorted : mg "sorted" = none) (m_set : mg "set" = none) (m_range : mg "range" = none)  :
    FnOk P w K mg base CX0 2 f fd ["bag", "n", "most"] (spB 3 F__law_lot) := by
  refine F.ok scLawLot (fun vs H Q E h => h.1) (fun cdv A outer s H vs Q E hr h => ?_)
  obtain ⟨_, b, l, ws, nb, ds, rfl, hB, hlive, hnb, hds, hF⟩ := h
  obtain ⟨Φ, hΦ, hF⟩ : ∃ Φ : Pd, (∀ f d v H', Φ f d → But (Nb b) H H' → BagAt H' b l → IsD (fun a => nb a ∨ (f = true ∧ H a ≠ none)) H' d v → Q v H') ∧ F__law_lot ds Φ := ⟨_, fun f d v H' q => q v H', hF⟩
  obtain ⟨n, most, rfl, n0, n1, w0, w1, q⟩ := hF
  refine ⟨_, (@pss_one _ _ _ (@ps_ret _ _ _ _ (@pe_callB _ _ _ _ _ _ _ _ (rSorted P w) (call_sortM rfl) rfl m_sorted PyProof.Rows.boot_sorted (@pa_cons _ _ _ _ _ (@pe_callTy _ _ _ _ _ _ _ _ (rSetOf P w K) (call_setM rfl) rfl m_set PyProof.Rows.boot_set (@pa_cons _ _ _ _ _ (pe_lcomp (CompOk.of (show compOkB (defScope sLawLot) ["bag", "n", "most"] _ ["k", "bag", "n"] [none, some 0, some 1] = true by decide +kernel)) (@pi_range1 _ _ _ _ _ _ rfl m_range (@pa_cons _ _ _ _ _ (@pe_op _ _ _ _ _ _ _ _ op_add pe_int (@pe_callC _ _ _ _ _ _ _ _ _ _ c__law_draw (hr.mono (by decide)) (@pa_cons _ _ _ _ _ (pv 0) (@pa_cons _ _ _ _ _ (pv 2) pa_nil rfl) rfl) (by rfl) (by decide) (by rfl) (by rfl))) pa_nil rfl) (by rfl)) (fun _ _ _ _ => ⟨(pg_name (i := 0) (by show List.Nodup (["k", "bag", "n"] : List Str); decide +kernel) rfl (Or.inl rfl)), pts_nil, (@pe_callC _ _ _ _ _ _ _ _ _ _ c__law_draw (hr.mono (by decide)) (@pa_cons _ _ _ _ _ (pv 1) (@pa_cons _ _ _ _ _ (pv 2) pa_nil rfl) rfl) (by rfl) (by decide) (by rfl) (by rfl))⟩)) pa_nil rfl) (by decide) (by decide) (by rfl) (by rfl)) pa_nil rfl) (by decide) (by decide) (by rfl) (by rfl)))), ?_⟩
  refine Sv.enterB hB hlive hnb hds hΦ (ρ := [.bag, .d false _, .d false _]) rfl ?_
  clear hΦ hds
  refine Sv.ret ?_
  refine EvN.ev (EvN.sortedSet (EvN.ev (EvN.compR1 (by decide) rfl ?_)))
  walk_at "dt"
  intro m0 m1 m2
  walk_at "dt"
  refine CompD.ints (fun x => 0 ≤ x ∧ x < n) ?_ fun os hol hos => ⟨os, rfl, by omega, fun rs hrs hmem => ?_⟩
  · rintro i d ⟨hi, rfl⟩
    walk_at "dt"
    refine ⟨by walk_at "wk", ?_⟩
    walk_at "dt"
    exact fun r r1 r2 => ⟨r, rfl, r1, r2⟩
  have hrl : 0 < rs.length := by
    have : 0 < os.length := by omega
    obtain ⟨y, hy⟩ := List.exists_mem_of_length_pos this
    exact List.length_pos_of_mem ((hmem y).mpr hy)
  have hrl2 : rs.length ≤ os.length := List.Nodup.length_le_of_subset (hrs.imp fun h => by omega) fun k hk => (hmem k).mp hk
  exact q rs (fun z => by rw [z] at hrl; simp at hrl) hrs ⟨hrs.imp fun h => by omega, fun x hx => hos x ((hmem x).mp hx)⟩ (by omega)
def F__law_with_more : DF := fun ds Φ => ∃ (n : Int) (places : List Int) (lots : List (List Int)), ds = [.list (places.map .int), .list (lots.map rowD)] ∧ n ≤ 60 ∧ LotOk n places ∧ LotsOk n lots ∧ lots.length ≤ 100 ∧ ∀ rs : List Int, LotOk n rs → Φ true (.list (rs.map .int))
theorem mono__law_with_more : MonoF F__law_with_more := fun ds Φ Ψ ⟨n, places, lots, e, h1, h2, h3, h4, q⟩ z => ⟨n, places, lots, e, h1, h2, h3, h4, fun rs a => z _ _ (q rs a)⟩
theorem scLawWithMore : FnScope ["bag", "places", "lots", "found", "lot", "others"] ["bag", "places", "lots"] (defScope sLawWithMore) := ⟨rfl, rfl, rfl, by decide +kernel, rfl, by decide +kernel, by decide +kernel⟩
theorem ok__law_with_more (F : Fun K "_law_with_more" "_law_with_more" sLawWithMore f fd) (c__law_draw : Callee P w K mg base "_law_draw" 1 ["bag", "many"] spDraw) (m_list : mg "list" = none) (m_sorted : mg "sorted" = none) (m_len : mg "len" = none)  :
    FnOk P w K mg base CX0 2 f fd ["bag", "places", "lots"] (spB 3 F__law_with_more) := by
  refine F.ok scLawWithMore (fun vs H Q E h => h.1) (fun cdv A outer s H vs Q E hr h => ?_)
  obtain ⟨_, b, l, ws, nb, ds, rfl, hB, hlive, hnb, hds, hF⟩ := h
  obtain ⟨Φ, hΦ, hF⟩ : ∃ Φ : Pd, (∀ f d v H', Φ f d → But (Nb b) H H' → BagAt H' b l → IsD (fun a => nb a ∨ (f = true ∧ H a ≠ none)) H' d v → Q v H') ∧ F__law_with_more ds Φ := ⟨_, fun f d v H' q => q v H', hF⟩
  obtain ⟨n, places, lots, rfl, n1, hpl, hlo, hll, q⟩ := hF
  refine ⟨_, (@pss_cons _ _ _ _ _ (@ps_set _ _ (3) _ _ _ _ scLawWithMore.nd rfl (Or.inr rfl) (@pe_callTy _ _ _ _ _ _ _ _ (rListOf K) call_listM rfl m_list PyProof.Rows.boot_list (@pa_cons _ _ _ _ _ (pv 1) pa_nil rfl) (by decide) (by decide) (by rfl) (by rfl)) (by rfl) (by first | exact .inl rfl | exact .inr rfl | assumption)) (@pss_cons _ _ _ _ _ (@ps_for _ _ _ _ _ _ _ _ PassesOwn.never rfl (@pi_list _ _ _ _ (@pe_op _ _ _ _ _ _ _ _ op_cat (pv 2) (pv 2))) (pg_name (i := 4) scLawWithMore.nd rfl (Or.inl rfl)) (@pss_cons _ _ _ _ _ (ps_setC (i := 5) scLawWithMore.nd rfl rfl (CompOk.of (show compOkB (defScope sLawWithMore) ["bag", "places", "lots", "found", "lot", "others"] _ ["place", "found"] [none, some 3] = true by decide +kernel)) (@pi_list _ _ _ _ (pv 4)) (fun _ _ _ _ => ⟨(pg_name (i := 0) (by show List.Nodup (["place", "found"] : List Str); decide +kernel) rfl (Or.inl rfl)), (pts_one (pt_cmpR (op_notInK (K := K) (by rfl)) (pv 0) (pv 1) (by with_unfolding_all rfl))), (pv 0)⟩)) (@pss_one _ _ _ (@ps_if _ _ _ _ _ _ _ _ (PW.pt (pw_and (@pt_cmpR _ _ _ _ _ _ _ _ op_eq (@pe_op _ _ _ _ _ _ _ _ op_sub (@pe_callB _ _ _ _ _ _ _ _ (rLen K) call_lenM rfl m_len PySem.boot_len (@pa_cons _ _ _ _ _ (pv 4) pa_nil rfl) (by decide) (by decide) (by rfl) (by rfl)) (@pe_callB _ _ _ _ _ _ _ _ (rLen K) call_lenM rfl m_len PySem.boot_len (@pa_cons _ _ _ _ _ (pv 5) pa_nil rfl) (by decide) (by decide) (by rfl) (by rfl))) pe_int (nomark _)) (pw_and1 (@pt_cmpR _ _ _ _ _ _ _ _ (op_neD hr.units) (pv 5) (@pe_lst _ _ _ _ pa_nil) (nomark _))))) (@pss_one _ _ _ (@ps_expr _ _ _ _ (pe_bm PySem.F.plainAttrs_list PySem.F.slot_list_append PySem.F.type_list_append mt_append (pv 3) (@pa_cons _ _ _ _ _ (@pe_ix _ _ _ _ _ _ (rIxL K) ix_list (pv 5) (@pe_callC _ _ _ _ _ _ _ _ _ _ c__law_draw (hr.mono (by decide)) (@pa_cons _ _ _ _ _ (pv 0) (@pa_cons _ _ _ _ _ (@pe_callB _ _ _ _ _ _ _ _ (rLen K) call_lenM rfl m_len PySem.boot_len (@pa_cons _ _ _ _ _ (pv 5) pa_nil rfl) (by decide) (by decide) (by rfl) (by rfl)) pa_nil rfl) rfl) (by rfl) (by decide) (by rfl) (by rfl)) (fun _ _ => rfl)) pa_nil rfl)) (by rfl))) (@pss_one _ _ _ (@ps_if _ _ _ _ _ _ _ _ (PW.pt (pw_and (@pt_cmpR _ _ _ _ _ _ _ _ op_eq (@pe_op _ _ _ _ _ _ _ _ op_sub (@pe_callB _ _ _ _ _ _ _ _ (rLen K) call_lenM rfl m_len PySem.boot_len (@pa_cons _ _ _ _ _ (pv 4) pa_nil rfl) (by decide) (by decide) (by rfl) (by rfl)) (@pe_callB _ _ _ _ _ _ _ _ (rLen K) call_lenM rfl m_len PySem.boot_len (@pa_cons _ _ _ _ _ (pv 5) pa_nil rfl) (by decide) (by decide) (by rfl) (by rfl))) pe_int (nomark _)) (pw_and1 (@pt_cmpR _ _ _ _ _ _ _ _ op_gt (@pe_callB _ _ _ _ _ _ _ _ (rLen K) call_lenM rfl m_len PySem.boot_len (@pa_cons _ _ _ _ _ (pv 3) pa_nil rfl) (by decide) (by decide) (by rfl) (by rfl)) pe_int (nomark _))))) (@pss_one _ _ _ (@ps_expr _ _ _ _ (pe_bm PySem.F.plainAttrs_list PySem.F.slot_list_remove PySem.F.type_list_remove mt_remove (pv 3) (@pa_cons _ _ _ _ _ (@pe_ix _ _ _ _ _ _ (rIxL K) ix_list (pv 4) pe_int (fun _ _ => rfl)) pa_nil rfl)) (by rfl))) pss_nil))))) (by intro _; rfl)) (@pss_one _ _ _ (@ps_ret _ _ _ _ (@pe_callB _ _ _ _ _ _ _ _ (rSortLS K) call_sortLS rfl m_sorted PyProof.Rows.boot_sorted (@pa_cons _ _ _ _ _ (pv 3) pa_nil rfl) (by decide) (by decide) (by rfl) (by rfl)))))), ?_⟩
  refine Sv.enterB hB hlive hnb hds hΦ (ρ := [.bag, .d false _, .d false _, .no, .no, .no]) rfl ?_
  clear hΦ hds
  refine Sv.seq ?_
  refine Sv.asgN (EvN.listOf ?_)
  walk_at "dt"
  intro A3
  refine Sv.seq ?_
  refine Sv.forL ?_
  walk_at "dt"
  have hlm : (lots.map rowD).length = lots.length := List.length_map ..
  refine ⟨by omega, _, rfl, ?_⟩
  refine fun v1 => ⟨fun i ρ => ∃ (fs : List Int) (f : Bool) (x4 x5 : Sl), LotOk n fs ∧ ρ = [.bag, .d false (.list (places.map .int)), .d false (.list (lots.map rowD)), .own A3 f (fs.map .int), x4, x5], ⟨places, _, _, _, hpl, rfl⟩, ?_, ?_⟩
  · rintro i d ρ hd ⟨fs, f, x4, x5, hok, rfl⟩
    obtain ⟨lot, hlot, rfl⟩ : ∃ lot ∈ lots, d = rowD lot := by
      have := List.mem_of_getElem? hd
      rcases List.mem_append.mp this with h | h <;> (obtain ⟨x, hx, e⟩ := List.mem_map.mp h; exact ⟨x, hx, e.symm⟩)
    obtain ⟨hl1, hl2⟩ := hlo lot hlot
    have hll := hl1.len60 n1
    have hfl := hok.len60 n1
    refine Gv.nameF ?_
    refine Sv.seq ?_
    refine Sv.setCF ?_
    refine EvN.ev (EvN.compL (by decide) rfl ?_)
    have hlm2 : (lot.map PyData.int).length = lot.length := List.length_map ..
    walk_at "dt"
    refine fun v2 => ⟨true, fun j ds => ds = ((lot.take j).filter fun x => decide (x ∉ fs)).map .int, rfl, ?_, ?_⟩
    · rintro j d ds hd hl' rfl
      obtain ⟨x, hx, rfl⟩ := map_at hd
      walk_at "dt"
      refine ⟨by walk_at "wk", ?_⟩
      refine Tv.lend 1 rfl ?_
      walk_at "dt"
      refine ⟨fs, rfl, ?_⟩
      refine ⟨_, rfl, ?_⟩
      by_cases c : x ∈ fs
      · rw [if_neg (by simpa using c)]
        show _ = List.map _ (List.filter _ (lot.take (j + 1)))
        rw [filter_snoc _ hx, if_neg (by simpa using c), List.append_nil]
      · rw [if_pos (by simpa using c)]
        walk_at "dt"
        show _ = List.map _ (List.filter _ (lot.take (j + 1)))
        rw [filter_snoc _ hx, if_pos (by simpa using c), List.map_append]
        rfl
    rintro ds hl' rfl
    rw [hlm2, List.take_length]
    obtain ⟨os, eos⟩ : ∃ os, lot.filter (fun x => decide (x ∉ fs)) = os := ⟨_, rfl⟩
    rw [eos]
    have hos : ∀ x ∈ os, x ∈ lot ∧ x ∉ fs := fun x hx => by
      rw [← eos] at hx
      obtain ⟨a, b⟩ := List.mem_filter.mp hx
      exact ⟨a, by simpa using b⟩
    have hol : os.length ≤ lot.length := by rw [← eos]; exact List.length_filter_le _ _
    have hlm3 : (os.map PyData.int).length = os.length := List.length_map ..
    have keep : ∃ (fs' : List Int) (f' : Bool) (x4 x5 : Sl), LotOk n fs' ∧ [Sl.bag, .d false (.list (places.map .int)), .d false (.list (lots.map rowD)), .own A3 f (fs.map .int), .d false (.list (lot.map .int)), .d false (.list (os.map .int))] = [Sl.bag, .d false (.list (places.map .int)), .d false (.list (lots.map rowD)), .own A3 f' (fs'.map .int), x4, x5] := ⟨fs, f, _, _, hok, rfl⟩
    by_cases c1 : (lot.length : Int) - (os.length : Int) = 1
    · by_cases c2 : os = []
      · subst c2
        obtain ⟨x, ex⟩ : ∃ x, lot = [x] := List.length_eq_one_iff.mp (by simp at c1; omega)
        subst ex
        have hxf : x ∈ fs := Classical.byContradiction fun z => by
          have : x ∈ ([x] : List Int).filter fun x => decide (x ∉ fs) := List.mem_filter.mpr ⟨by simp, by simpa using z⟩
          rw [eos] at this
          simp at this
        walk_at "dt"
        by_cases c3 : (1 : Int) < ((fs.map PyData.int).length : Nat)
        · rw [if_pos (decide_eq_true c3)]
          refine Sv.remove rfl ?_
          walk_at "dt"
          exact ⟨fs.erase x, _, _, _, hok.erase, rfl⟩
        · rw [if_neg (by simpa using c3)]
          walk_at "dt"
          exact keep
      · obtain ⟨y, ys, ey⟩ := List.exists_cons_of_ne_nil c2
        have hpos : 0 < os.length := by rw [ey]; simp
        walk_at "dt"
        refine ⟨shaped_ints os, rfl, ?_⟩
        refine ⟨true, by subst ey; rfl, ?_⟩
        rw [if_pos rfl]
        refine Sv.append rfl ?_
        walk_at "dt"
        rw [hlm3]
        refine fun z z1 z2 => ?_
        obtain ⟨o, eo, eat⟩ := atI_nat' (xs := os) PyData.int z1 z2 rfl
        refine ⟨_, rfl, _, eat, ?_⟩
        have ho := hos o (List.mem_of_getElem? eo)
        have hr1 := hl1.rg o ho.1
        exact ⟨by rw [List.length_map]; omega, fs ++ [o], _, _, _, hok.snoc ho.2 hr1.1 hr1.2, by rw [List.map_append]; rfl⟩
    · walk_at "dt"
      exact keep
  · rintro ρ ⟨fs, f, x4, x5, hok, rfl⟩
    have hfl := hok.len60 n1
    refine Sv.demote 3 rfl ?_
    refine Sv.ret ?_
    refine EvN.ev (EvN.sortLS ?_)
    walk_at "dt"
    refine ⟨fs, rfl, by omega, fun rs hp _ => ?_⟩
    exact q rs (hok.perm hp)
def F__law_lots_net : DF := fun ds Φ => ∃ (n many : Int) (lots : List (List Int)), ds = [.int n, .int many, .list (lots.map rowD)] ∧ 1 ≤ n ∧ n ≤ 60 ∧ 0 ≤ many ∧ many ≤ 400 ∧ LotsOk n lots ∧ lots.length ≤ 100 ∧ ∀ (p : Int) (cs : List Prs), IsP p → CksOk n cs → (cs.length : Int) ≤ many → (∀ lot ∈ lots, holdB cs lot = true) → Φ true (netD p n cs)
theorem mono__law_lots_net : MonoF F__law_lots_net := fun ds Φ Ψ ⟨n, many, lots, e, h1, h2, h3, h4, h5, h6, q⟩ z => ⟨n, many, lots, e, h1, h2, h3, h4, h5, h6, fun p cs a b c d => z _ _ (q p cs a b c d)⟩
theorem scLawLotsNet : FnScope ["bag", "n", "many", "lots", "p", "wide", "checks", "c", "places"] ["bag", "n", "many", "lots"] (defScope sLawLotsNet) := ⟨rfl, rfl, rfl, by decide +kernel, rfl, by decide +kernel, by decide +kernel⟩
theorem ok__law_lots_net (F : Fun K "_law_lots_net" "_law_lots_net" sLawLotsNet f fd) (c__law_prime : Callee P w K mg base "_law_prime" 2 ["bag"] spPrime) (c__law_draw : Callee P w K mg base "_law_draw" 1 ["bag", "many"] spDraw) (c__law_with_more : Callee P w K mg base "_law_with_more" 2 ["bag", "places", "lots"] (spB 3 F__law_with_more)) (c__law_places : Callee P w K mg base "_law_places" 2 ["bag", "n", "wide"] (spB 3 F__law_places)) (c__law_factor : Callee P w K mg base "_law_factor" 2 ["bag", "p"] (spB 2 F__law_factor)) (c__law_just_one : Callee P w K mg base "_law_just_one" 1 ["pairs", "lot"] (spD 2 F__law_just_one)) (m_range : mg "range" = none)  :
    FnOk P w K mg base CX0 3 f fd ["bag", "n", "many", "lots"] (spB 4 F__law_lots_net) := by
  refine F.ok scLawLotsNet (fun vs H Q E h => h.1) (fun cdv A outer s H vs Q E hr h => ?_)
  obtain ⟨_, b, l, ws, nb, ds, rfl, hB, hlive, hnb, hds, hF⟩ := h
  obtain ⟨Φ, hΦ, hF⟩ : ∃ Φ : Pd, (∀ f d v H', Φ f d → But (Nb b) H H' → BagAt H' b l → IsD (fun a => nb a ∨ (f = true ∧ H a ≠ none)) H' d v → Q v H') ∧ F__law_lots_net ds Φ := ⟨_, fun f d v H' q => q v H', hF⟩
  obtain ⟨n, many, lots, rfl, n0, n1, m0, m1, hlo, hll, q⟩ := hF
  refine ⟨_, (@pss_cons _ _ _ _ _ (@ps_set _ _ (4) _ _ _ _ scLawLotsNet.nd rfl (Or.inr rfl) (@pe_callC _ _ _ _ _ _ _ _ _ _ c__law_prime (hr.mono (by decide)) (@pa_cons _ _ _ _ _ (pv 0) pa_nil rfl) (by rfl) (by decide) (by rfl) (by rfl)) (by rfl) (by first | exact .inl rfl | exact .inr rfl | assumption)) (@pss_cons _ _ _ _ _ (@ps_set _ _ (5) _ _ _ _ scLawLotsNet.nd rfl (Or.inl rfl) (@pe_op _ _ _ _ _ _ _ _ op_add pe_int (@pe_callC _ _ _ _ _ _ _ _ _ _ c__law_draw (hr.mono (by decide)) (@pa_cons _ _ _ _ _ (pv 0) (@pa_cons _ _ _ _ _ pe_int pa_nil rfl) rfl) (by rfl) (by decide) (by rfl) (by rfl))) (by rfl) (by first | exact .inl rfl | exact .inr rfl | assumption)) (@pss_cons _ _ _ _ _ (@ps_set _ _ (6) _ _ _ _ scLawLotsNet.nd rfl (Or.inl rfl) (@pe_lst _ _ _ _ pa_nil) (by rfl) (by first | exact .inl rfl | exact .inr rfl | assumption)) (@pss_cons _ _ _ _ _ (@ps_for _ _ _ _ _ _ _ _ PassesOwn.never rfl (@pi_range1 _ _ _ _ _ _ rfl m_range (@pa_cons _ _ _ _ _ (pv 2) pa_nil rfl) (by rfl)) (pg_name (i := 7) scLawLotsNet.nd rfl (Or.inl rfl)) (@pss_cons _ _ _ _ _ (@ps_set _ _ (8) _ _ _ _ scLawLotsNet.nd rfl (Or.inl rfl) (@pe_callC _ _ _ _ _ _ _ _ _ _ c__law_with_more (hr.mono (by decide)) (@pa_cons _ _ _ _ _ (pv 0) (@pa_cons _ _ _ _ _ (@pe_callC _ _ _ _ _ _ _ _ _ _ c__law_places (hr.mono (by decide)) (@pa_cons _ _ _ _ _ (pv 0) (@pa_cons _ _ _ _ _ (pv 1) (@pa_cons _ _ _ _ _ (pv 5) pa_nil rfl) rfl) rfl) (by rfl) (by decide) (by rfl) (by rfl)) (@pa_cons _ _ _ _ _ (pv 3) pa_nil rfl) rfl) rfl) (by rfl) (by decide) (by rfl) (by rfl)) (by rfl) (by first | exact .inl rfl | exact .inr rfl | assumption)) (@pss_one _ _ _ (@ps_expr _ _ _ _ (pe_bm PySem.F.plainAttrs_list PySem.F.slot_list_append PySem.F.type_list_append mt_append (pv 6) (@pa_cons _ _ _ _ _ (pe_lcomp (CompOk.of (show compOkB (defScope sLawLotsNet) ["bag", "n", "many", "lots", "p", "wide", "checks", "c", "places"] _ ["place", "bag", "p"] [none, some 0, some 4] = true by decide +kernel)) (@pi_list _ _ _ _ (pv 8)) (fun _ _ _ _ => ⟨(pg_name (i := 0) (by show List.Nodup (["place", "bag", "p"] : List Str); decide +kernel) rfl (Or.inl rfl)), pts_nil, (@pe_tup _ _ _ _ _ (@pa_cons _ _ _ _ _ (pv 0) (@pa_cons _ _ _ _ _ (@pe_callC _ _ _ _ _ _ _ _ _ _ c__law_factor (hr.mono (by decide)) (@pa_cons _ _ _ _ _ (pv 1) (@pa_cons _ _ _ _ _ (pv 2) pa_nil rfl) rfl) (by rfl) (by decide) (by rfl) (by rfl)) pa_nil rfl) rfl))⟩)) pa_nil rfl)) (by rfl)))) (by intro _; rfl)) (@pss_one _ _ _ (@ps_ret _ _ _ _ (@pe_tup _ _ _ _ _ (@pa_cons _ _ _ _ _ (pv 4) (@pa_cons _ _ _ _ _ (pv 1) (@pa_cons _ _ _ _ _ (pe_lcompC (CompOkC.of (show compOkBC (defScope sLawLotsNet) ["bag", "n", "many", "lots", "p", "wide", "checks", "c", "places"] _ ["pairs", "lots"] [none, some 3] = true by decide +kernel)) (@pi_list _ _ _ _ (pv 6)) (fun _ _ _ _ => ⟨(pg_name (i := 0) (by show List.Nodup (["pairs", "lots"] : List Str); decide +kernel) rfl (Or.inr rfl)), (pts_one (@pt_cmpR _ _ _ _ _ _ _ _ (op_eqD hr.units) (by (refine' pe_lcompNC (CompOk.of (NX := ["pairs", "lots"]) (N := ["lot", "pairs"]) (mp := [none, some 0]) ?nc0) ?ni0 ?nb0); (case ni0 => exact (pi_listK (K := K) rfl (pv 1))); (case nb0 => exact (fun _ _ _ _ => ⟨(pg_name (i := 0) (by show List.Nodup (["lot", "pairs"] : List Str); decide +kernel) rfl (Or.inl rfl)), (pts_one (pt_truthK (K := K) rfl (pe_callC c__law_just_one (hr.mono (by decide)) (pa_cons (pv 1) (pa_cons (pv 0) pa_nil rfl) rfl)) (fun _ => rfl))), (pv 0)⟩)); (case nc0 => decide +kernel)) (@pe_lst _ _ _ _ pa_nil) (nomark _))), (pv 0)⟩)) pa_nil rfl) rfl) rfl)))))))), ?_⟩
  refine Sv.enterB hB hlive hnb hds hΦ (ρ := [.bag, .d false _, .d false _, .d false _, .no, .no, .no, .no, .no]) rfl ?_
  clear hΦ hds
  walk_at "dt"
  intro p hp
  obtain ⟨p2, p40, _⟩ := id hp
  walk_at "dt"
  intro w0 w1 w2
  obtain ⟨wide, ew, wd0, wd1⟩ : ∃ wide : Int, 2 + w0 = wide ∧ 1 ≤ wide ∧ wide ≤ 60 := ⟨_, rfl, by omega, by omega⟩
  refine ⟨_, rfl, Gv.nameI ?_⟩
  rw [ew]
  walk_at "dt"
  intro A6
  walk_at "dt"
  refine Sv.forR1 ?_
  walk_at "dt"
  refine ⟨fun i ρ => ∃ (x7 x8 : Sl) (cs : List Prs), ρ = [.bag, .d false (.int n), .d false (.int many), .d false (.list (lots.map rowD)), .d true (.int p), .d true (.int wide), .own A6 true (cs.map prsD), x7, x8] ∧ cs.length = i ∧ CksOk n cs, ⟨_, _, [], rfl, rfl, (fun _ h => nomatch h)⟩, ?_, ?_⟩
  · rintro i d ρ ⟨hi, rfl⟩ ⟨x7, x8, cs, rfl, hcl, hcs⟩
    have hlk : (cs.map prsD).length = cs.length := List.length_map ..
    walk_at "dt"
    refine Ev.callB mono__law_with_more rfl ?_
    refine Av.cons ?_
    refine Ev.callB mono__law_places rfl ?_
    walk_at "dt"
    refine ⟨rfl, n, wide, rfl, n0, by omega, wd0, wd1, fun rs r0 r1 r2 r3 => ?_⟩
    walk_at "dt"
    refine ⟨rfl, n, rs, lots, rfl, n1, ⟨r2, r3⟩, hlo, hll, fun ps hps => ?_⟩
    have hpl := hps.len60 n1
    walk_at "dt"
    refine EvN.ev (EvN.compL (by decide) rfl ?_)
    have hlm : (ps.map PyData.int).length = ps.length := List.length_map ..
    walk_at "dt"
    refine fun v => CompD.rel pairD true (fun i pr => ps[i]? = some pr.1) ?_ fun prs hpl2 hprs => ?_
    · rintro j d hd
      obtain ⟨x, hx, rfl⟩ := map_at hd
      walk_at "dt"
      refine ⟨by walk_at "wk", ?_⟩
      walk_at "dt"
      refine Ev.callB mono__law_factor rfl ?_
      walk_at "dt"
      refine ⟨rfl, p, rfl, p2, p40, fun y => ?_⟩
      walk_at "dt"
      exact ⟨fun _ => rfl, (x, y), rfl, hx⟩
    have ep : prs.map (·.1) = ps := by
      rw [hlm] at hpl2
      apply List.ext_getElem?
      intro k
      rw [List.getElem?_map]
      cases e : prs[k]? with
      | none =>
        have := List.getElem?_eq_none_iff.mp e
        rw [List.getElem?_eq_none (by omega)]; rfl
      | some pr => rw [hprs k pr e]; rfl
    refine ⟨by omega, _, _, cs ++ [prs], by rw [List.map_append]; rfl, by simp [hcl], fun u hu => ?_⟩
    rcases List.mem_append.mp hu with h | h
    · exact hcs u h
    · rw [List.mem_singleton.mp h, ep]; exact hps
  · rintro ρ ⟨x7, x8, cs, rfl, hcl, hcs⟩
    have hlk : (cs.map prsD).length = cs.length := List.length_map ..
    refine Sv.demote 6 rfl ?_
    walk_at "dt"
    refine EvN.ev (EvN.compL (by decide) rfl ?_)
    walk_at "dt"
    refine fun v => ⟨true, fun i ds => ∃ ks : List Prs, ds = ks.map prsD ∧ (∀ prs ∈ ks, prs ∈ cs ∧ ∀ lot ∈ lots, inLot lot prs ≠ 1), ⟨[], rfl, fun _ h => nomatch h⟩, ?_, ?_⟩
    · rintro i d ds hd hl' ⟨ks, rfl, hks⟩
      obtain ⟨prs, hprs, rfl⟩ := map_at hd
      have hok := hcs prs (List.mem_of_getElem? hprs)
      have hpl := hok.len60 n1
      rw [List.length_map] at hpl
      walk_at "dt"
      refine ⟨by walk_at "wk", ?_⟩
      refine Tv.test ?_
      refine Ev.eqD ?_
      refine EvN.ev (EvN.compL (by decide) rfl ?_)
      walk_at "dt"
      have hlm : (lots.map rowD).length = lots.length := List.length_map ..
      refine ⟨by omega, fun v2 => ⟨false, fun j es => ∃ ls : List (List Int), es = ls.map rowD ∧ (ls = [] ↔ ∀ lot ∈ lots.take j, inLot lot prs ≠ 1), ⟨[], rfl, ⟨fun _ _ h => (by simp at h), fun _ => rfl⟩⟩, ?_, ?_⟩⟩
      · rintro j d es hd hl2 ⟨ls, rfl, hls⟩
        obtain ⟨lot, hlot, rfl⟩ := map_at hd
        walk_at "dt"
        refine ⟨by walk_at "wk", ?_⟩
        refine Tv.truB ?_
        refine Ev.callD mono__law_just_one ?_
        walk_at "dt"
        refine ⟨rfl, prs, lot, _, rfl, .inl rfl, by omega, ?_⟩
        refine ⟨_, rfl, ?_⟩
        by_cases c : inLot lot prs = 1
        · rw [if_pos (decide_eq_true c)]
          walk_at "dt"
          refine ⟨ls ++ [lot], by rw [List.map_append]; rfl, ⟨fun z => absurd z (by simp), fun z => ?_⟩⟩
          exact absurd c (z lot (by rw [take_snoc hlot]; exact List.mem_append_right _ (by simp)))
        · rw [if_neg (by simpa using c)]
          refine ⟨ls, rfl, ⟨fun z u hu => ?_, fun z => hls.mpr fun u hu => z u (by rw [take_snoc hlot]; exact List.mem_append_left _ hu)⟩⟩
          rw [take_snoc hlot] at hu
          rcases List.mem_append.mp hu with h | h
          · exact hls.mp z u h
          · rw [List.mem_singleton.mp h]; exact c
      · rintro es hl2 ⟨ls, rfl, hls⟩
        rw [hlm, List.take_length] at hls
        walk_at "dt"
        refine ⟨shaped_rows ls, rfl, ?_⟩
        by_cases cl : ls = []
        · refine ⟨true, by subst cl; rfl, ?_⟩
          rw [if_pos rfl]
          walk_at "dt"
          refine ⟨ks ++ [prs], by rw [List.map_append]; rfl, fun u hu => ?_⟩
          rcases List.mem_append.mp hu with h | h
          · exact hks u h
          · rw [List.mem_singleton.mp h]; exact ⟨List.mem_of_getElem? hprs, hls.mp cl⟩
        · refine ⟨false, by obtain ⟨u, t, e⟩ := List.exists_cons_of_ne_nil cl; subst e; rfl, ?_⟩
          rw [if_neg Bool.false_ne_true]
          exact ⟨ks, rfl, hks⟩
    · rintro ds hl' ⟨ks, rfl, hks⟩
      rw [List.length_map, List.length_map] at hl'
      walk_at "dt"
      exact q p ks hp (fun u hu => hcs u (hks u hu).1) (by omega) fun lot hlot => by
        unfold holdB
        rw [List.all_eq_true]
        exact fun u hu => decide_eq_true ((hks u hu).2 lot hlot)
def F__law_peeled : DF := fun ds Φ => ∃ (cs : List Prs) (lot : List Int), ds = [.list (cs.map prsD), .list (lot.map .int)] ∧ lot.Pairwise (· < ·) ∧ lot.length < 64 ∧ (∀ prs ∈ cs, prs.length ≤ 10000) ∧ ∀ g : List Int, Great cs lot g → Φ true (.list (g.map .int))
theorem mono__law_peeled : MonoF F__law_peeled := fun ds Φ Ψ ⟨cs, lot, e, h1, h2, h3, q⟩ z => ⟨cs, lot, e, h1, h2, h3, fun g a => z _ _ (q g a)⟩
theorem putI_ins {S : List Int} {x : Int} (h : x ∉ S) : putI (insK S) x (.bool true) = insK (S ++ [x]) := by
  unfold putI
  rw [insK_has, if_neg (by simpa using h)]
  unfold insK
  rw [List.map_append]; rfl
theorem scLawPeeled : FnScope ["checks", "lot", "left", "place", "k", "many", "pairs", "here"] ["checks", "lot"] (defScope sLawPeeled) := ⟨rfl, rfl, rfl, by decide +kernel, rfl, by decide +kernel, by decide +kernel⟩
theorem ok__law_peeled (F : Fun K "_law_peeled" "_law_peeled" sLawPeeled f fd)  (m_range : mg "range" = none) (m_sorted : mg "sorted" = none) (m_len : mg "len" = none)  :
    FnOk P w K mg base CX0 1 f fd ["checks", "lot"] (spD 2 F__law_peeled) := by
  refine F.ok scLawPeeled (fun vs H Q E h => h.1) (fun cdv A outer s H vs Q E hr h => ?_)
  obtain ⟨_, nb, ds, hlive, hds, hF⟩ := h
  obtain ⟨Φ, hΦ, hF⟩ : ∃ Φ : Pd, (∀ f d v H', Φ f d → Same H H' → IsD (fun a => nb a ∨ (f = true ∧ H a ≠ none)) H' d v → Q v H') ∧ F__law_peeled ds Φ := ⟨_, fun f d v H' q => q v H', hF⟩
  obtain ⟨cs, lot, rfl, hup, hl64, hpl, q⟩ := hF
  refine ⟨_, (@pss_cons _ _ _ _ _ (@ps_set _ _ (2) _ _ _ _ scLawPeeled.nd rfl (Or.inr rfl) pe_dnewK (by rfl) (by first | exact .inl rfl | exact .inr rfl | assumption)) (@pss_cons _ _ _ _ _ (@ps_for _ _ _ _ _ _ _ _ PassesOwn.never rfl (@pi_list _ _ _ _ (pv 1)) (pg_name (i := 3) scLawPeeled.nd rfl (Or.inl rfl)) (@pss_one _ _ _ (@ps_asg _ _ _ _ _ _ pe_bl (pg_sub (pv 2) (pv 3) set_dict) (by rfl) (by rfl) (by rfl))) (by intro _; rfl)) (@pss_cons _ _ _ _ _ (@ps_for _ _ _ _ _ _ _ _ PassesOwn.never rfl (@pi_range1 _ _ _ _ _ _ rfl m_range (@pa_cons _ _ _ _ _ (@pe_callB _ _ _ _ _ _ _ _ (rLen K) call_lenM rfl m_len PySem.boot_len (@pa_cons _ _ _ _ _ (pv 1) pa_nil rfl) (by decide) (by decide) (by rfl) (by rfl)) pa_nil rfl) (by rfl)) (pg_name (i := 4) scLawPeeled.nd rfl (Or.inl rfl)) (@pss_cons _ _ _ _ _ (@ps_set _ _ (5) _ _ _ _ scLawPeeled.nd rfl (Or.inl rfl) (@pe_callB _ _ _ _ _ _ _ _ (rLenD) call_lenDD rfl m_len PySem.boot_len (@pa_cons _ _ _ _ _ (pv 2) pa_nil rfl) (by decide) (by decide) (by rfl) (by rfl)) (by rfl) (by first | exact .inl rfl | exact .inr rfl | assumption)) (@pss_cons _ _ _ _ _ (@ps_for _ _ _ _ _ _ _ _ PassesOwn.never rfl (@pi_list _ _ _ _ (pv 0)) (pg_name (i := 6) scLawPeeled.nd rfl (Or.inl rfl)) (@pss_cons _ _ _ _ _ (ps_setC (i := 7) scLawPeeled.nd rfl rfl (CompOk.of (show compOkB (defScope sLawPeeled) ["checks", "lot", "left", "place", "k", "many", "pairs", "here"] _ ["place", "factor", "left"] [none, none, some 2] = true by decide +kernel)) (@pi_list _ _ _ _ (pv 6)) (fun _ _ _ _ => ⟨(@pg_tupM _ (K) _ _ _ (2) _ rfl rfl (@pgs_cons _ _ _ _ _ (pg_name (i := 0) (by show List.Nodup (["place", "factor", "left"] : List Str); decide +kernel) rfl (Or.inl rfl)) (@pgs_cons _ _ _ _ _ (pg_name (i := 1) (by show List.Nodup (["place", "factor", "left"] : List Str); decide +kernel) rfl (Or.inl rfl)) pgs_nil (by rfl)) (by rfl)) (by rfl) (by rfl)), (pts_one (@pt_cmpR _ _ _ _ _ _ _ _ (op_inD hr.units) (pv 0) (pv 2) (by with_unfolding_all rfl))), (pv 0)⟩)) (@pss_one _ _ _ (@ps_if _ _ _ _ _ _ _ _ (@pt_cmpR _ _ _ _ _ _ _ _ op_eq (@pe_callB _ _ _ _ _ _ _ _ (rLen K) call_lenM rfl m_len PySem.boot_len (@pa_cons _ _ _ _ _ (pv 7) pa_nil rfl) (by decide) (by decide) (by rfl) (by rfl)) pe_int (nomark _)) (@pss_one _ _ _ (@ps_expr _ _ _ _ (pe_bm PySem.F.plainAttrs_dict PySem.F.slot_dict_pop PySem.F.type_dict_pop mt_popD (pv 2) (@pa_cons _ _ _ _ _ (@pe_ix _ _ _ _ _ _ (rIxL K) ix_list (pv 7) pe_int (fun _ _ => rfl)) pa_nil rfl)) (by rfl))) pss_nil))) (by intro _; rfl)) (@pss_one _ _ _ (@ps_if _ _ _ _ _ _ _ _ (@pt_cmpR _ _ _ _ _ _ _ _ op_eq (@pe_callB _ _ _ _ _ _ _ _ (rLenD) call_lenDD rfl m_len PySem.boot_len (@pa_cons _ _ _ _ _ (pv 2) pa_nil rfl) (by decide) (by decide) (by rfl) (by rfl)) (pv 5) (nomark _)) (@pss_one _ _ _ (@ps_ret _ _ _ _ (@pe_callB _ _ _ _ _ _ _ _ (rSortedD) (call_sortD rfl) rfl m_sorted PyProof.Rows.boot_sorted (@pa_cons _ _ _ _ _ (pv 2) pa_nil rfl) (by decide) (by decide) (by rfl) (by rfl)))) pss_nil)))) (by intro _; rfl)) (@pss_one _ _ _ (@ps_ret _ _ _ _ (@pe_callB _ _ _ _ _ _ _ _ (rSortedD) (call_sortD rfl) rfl m_sorted PyProof.Rows.boot_sorted (@pa_cons _ _ _ _ _ (pv 2) pa_nil rfl) (by decide) (by decide) (by rfl) (by rfl))))))), ?_⟩
  refine Sv.enterD hlive hds hΦ (ρ := [.d false _, .d false _, .no, .no, .no, .no, .no, .no]) rfl ?_
  clear hΦ hds
  have hnd : lot.Nodup := hup.imp fun h => by omega
  have hlm : (lot.map PyData.int).length = lot.length := List.length_map ..
  refine Sv.seq ?_
  refine Sv.asgK (EvK.new ?_)
  intro A2
  refine Sv.seq ?_
  refine Sv.forL ?_
  walk_at "dt"
  refine fun v1 => ⟨fun i ρ => ∃ (f : Bool) (x3 x4 x5 x6 x7 : Sl), ρ = [.d false (.list (cs.map prsD)), .d false (.list (lot.map .int)), .dic A2 f (insK (lot.take i)), x3, x4, x5, x6, x7], ⟨_, _, _, _, _, _, rfl⟩, ?_, ?_⟩
  · rintro i d ρ hd ⟨f, x3, x4, x5, x6, x7, rfl⟩
    obtain ⟨x, hx, rfl⟩ := map_at hd
    have hil := (List.getElem?_eq_some_iff.mp hx).1
    have hxn : x ∉ lot.take i := fun z => by
      have h1 := hnd
      obtain ⟨k, hk⟩ := List.getElem?_of_mem z
      have hki : k < i := by have := (List.getElem?_eq_some_iff.mp hk).1; rw [List.length_take] at this; omega
      rw [List.getElem?_take_of_lt hki] at hk
      obtain ⟨l1, e1⟩ := List.getElem?_eq_some_iff.mp hk
      obtain ⟨l2, e2⟩ := List.getElem?_eq_some_iff.mp hx
      have := (List.getElem_inj h1).mp (e1.trans e2.symm)
      omega
    refine Gv.nameI ?_
    refine Sv.putDic rfl ?_
    walk_at "dt"
    refine ⟨by unfold insK; rw [List.length_map, List.length_take]; omega, ?_⟩
    rw [putI_ins hxn, ← take_snoc hx]
    exact ⟨_, _, _, _, _, _, rfl⟩
  rintro ρ ⟨f, x3, x4, x5, x6, x7, rfl⟩
  rw [hlm, List.take_length]
  have fin : ∀ (S : List Int) (f : Bool) (x3 x4 x5 x6 x7 : Sl), (∃ q : Int → Bool, S = lot.filter q) → Great cs lot S → EvN { B := none, H0 := H, A := nb } [.d false (.list (cs.map prsD)), .d false (.list (lot.map .int)), .dic A2 f (insK S), x3, x4, x5, x6, x7] (tCB rSortedD (tCons (tVar 2) tNil)) (fun f ds => Φ f (.list ds)) := fun S f x3 x4 x5 x6 x7 hq hG => by
    have hSl : S.length ≤ lot.length := by obtain ⟨qq, e⟩ := hq; rw [e]; exact List.length_filter_le _ _
    refine EvN.sortedDic rfl (by unfold insK; rw [List.length_map]; omega) fun rs hs hp => ?_
    have e : (insK S).map (·.1) = S := by unfold insK; rw [List.map_map]; exact List.map_id'' (fun _ => rfl) S
    rw [e] at hp
    rw [sorted_is (hG.up hup) hs hp]
    exact q S hG
  refine Sv.seq ?_
  refine Sv.forR1 ?_
  walk_at "dt"
  refine ⟨fun t ρ => ∃ (S : List Int) (f : Bool) (x3 x4 x5 x6 x7 : Sl), ((∃ q : Int → Bool, S = lot.filter q) ∧ S.length + t ≤ lot.length ∧ ∀ T : List Int, (∀ x ∈ T, x ∈ lot) → holdB cs T = true → ∀ x ∈ T, x ∈ S) ∧ ρ = [.d false (.list (cs.map prsD)), .d false (.list (lot.map .int)), .dic A2 f (insK S), x3, x4, x5, x6, x7], ⟨lot, _, _, _, _, _, _, ⟨⟨fun _ => true, (List.filter_eq_self.mpr fun _ _ => rfl).symm⟩, Nat.le_refl _, fun T hT _ => hT⟩, rfl⟩, ?_, ?_⟩
  · rintro t d ρ ⟨ht, rfl⟩ ⟨S0, f, x3, x4, x5, x6, x7, ⟨hS1, hS2, hS3⟩, rfl⟩
    refine Gv.nameI ?_
    refine Sv.seq ?_
    refine Sv.asg ?_
    refine Ev.lenDic rfl ?_
    refine Gv.nameI ?_
    have hsl : (insK S0).length = S0.length := by unfold insK; rw [List.length_map]
    rw [hsl]
    refine Sv.seq ?_
    refine Sv.forL ?_
    walk_at "dt"
    refine fun v2 => ⟨fun i ρ => ∃ (S : List Int) (f : Bool) (x6 x7 : Sl), ((∃ q : Int → Bool, S = lot.filter q) ∧ S.length ≤ S0.length ∧ (S.length = S0.length → ∀ prs ∈ cs.take i, inLot S prs ≠ 1) ∧ ∀ T : List Int, (∀ x ∈ T, x ∈ lot) → holdB cs T = true → ∀ x ∈ T, x ∈ S) ∧ ρ = [.d false (.list (cs.map prsD)), .d false (.list (lot.map .int)), .dic A2 f (insK S), x3, .d true (.int (0 + (t : Int))), .d true (.int (S0.length : Int)), x6, x7], ⟨S0, _, _, _, ⟨hS1, Nat.le_refl _, fun _ _ h => (by simp at h), hS3⟩, rfl⟩, ?_, ?_⟩
    · rintro i d ρ hd ⟨S, f, x6, x7, ⟨g1, g2, g3, g4⟩, rfl⟩
      obtain ⟨prs, hprs, rfl⟩ := map_at hd
      have hpm := List.mem_of_getElem? hprs
      have hplm : (prs.map pairD).length = prs.length := List.length_map ..
      have hplen := hpl prs hpm
      refine Gv.nameF ?_
      refine Sv.seq ?_
      refine Sv.setCF ?_
      refine EvN.ev (EvN.compL (by decide) rfl ?_)
      walk_at "dt"
      refine fun v => ⟨true, fun i ds => ds = ((prs.take i).filter fun pr => decide (pr.1 ∈ S)).map fun pr => .int pr.1, rfl, ?_, ?_⟩
      · rintro i d ds hd hl' rfl
        obtain ⟨pr, hpr, rfl⟩ := map_at hd
        walk_at "dt"
        refine ⟨by walk_at "wk", ?_⟩
        refine Tv.test ?_
        refine Ev.inDic rfl ?_
        walk_at "dt"
        rw [insK_has]
        by_cases c : pr.1 ∈ S
        · rw [if_pos (by simpa using c)]
          walk_at "dt"
          show _ = List.map _ (List.filter _ (prs.take (i + 1)))
          rw [take_snoc hpr, inLot_snoc, if_pos c, List.map_append]
          rfl
        · rw [if_neg (by simpa using c)]
          show _ = List.map _ (List.filter _ (prs.take (i + 1)))
          rw [take_snoc hpr, inLot_snoc, if_neg c, List.append_nil]
      rintro ds hl' rfl
      rw [hplm, List.take_length]
      refine Sv.ifS ?_
      refine Tv.test ?_
      refine Ev.eq ?_
      refine Ev.lenS ?_
      walk_at "dt"
      rw [List.length_map]
      by_cases c : inLot S prs = 1
      · rw [if_pos (decide_eq_true (by unfold inLot at c; omega))]
        obtain ⟨pr, efl⟩ := List.length_eq_one_iff.mp (show (prs.filter fun pr => decide (pr.1 ∈ S)).length = 1 from c)
        have hpm2 : pr ∈ prs.filter fun pr => decide (pr.1 ∈ S) := by rw [efl]; exact List.mem_singleton.mpr rfl
        obtain ⟨h1, h2⟩ := List.mem_filter.mp hpm2
        have hxS : pr.1 ∈ S := of_decide_eq_true h2
        have hx0 : pr.1 ∈ prs.map (·.1) := List.mem_map.mpr ⟨pr, h1, rfl⟩
        rw [efl]
        refine Sv.popDic rfl ?_
        walk_at "dt"
        refine ⟨by rw [insK_has]; exact decide_eq_true hxS, ?_⟩
        rw [insK_drop]
        have hlt : (S.filter fun y => decide (y ≠ pr.1)).length < S.length := by
          have h1 : (S.filter fun y => decide (y ≠ pr.1)).length ≤ S.length := List.length_filter_le _ _
          have h2 : (S.filter fun y => decide (y ≠ pr.1)).length ≠ S.length := fun z => by
            have := List.length_filter_eq_length_iff.mp z pr.1 hxS
            simp at this
          omega
        refine ⟨_, _, _, _, ⟨?_, by omega, fun z => by omega, peel_max g4 hpm c hx0⟩, rfl⟩
        obtain ⟨qq, e⟩ := g1
        exact ⟨_, by rw [e, List.filter_filter]⟩
      · rw [if_neg (by simp; unfold inLot at c; omega)]
        refine Sv.next ?_
        refine ⟨S, _, _, _, ⟨g1, g2, fun z u hu => ?_, g4⟩, rfl⟩
        rw [take_snoc hprs] at hu
        rcases List.mem_append.mp hu with h | h
        · exact g3 z u h
        · rw [List.mem_singleton.mp h]; exact c
    · rintro ρ ⟨S, f, x6, x7, ⟨g1, g2, g3, g4⟩, rfl⟩
      rw [List.length_map, List.take_length] at g3
      have hsl : (insK S).length = S.length := by unfold insK; rw [List.length_map]
      refine Sv.ifS ?_
      refine Tv.test ?_
      refine Ev.eq ?_
      refine Ev.lenDic rfl ?_
      rw [hsl]
      walk_at "dt"
      by_cases c : S.length = S0.length
      · rw [if_pos (decide_eq_true (by omega))]
        refine Sv.ret ?_
        refine EvN.ev (fin S _ _ _ _ _ _ g1 ⟨g1, ?_, g4⟩)
        unfold holdB
        rw [List.all_eq_true]
        exact fun u hu => decide_eq_true (g3 c u hu)
      · rw [if_neg (by simp; omega)]
        refine Sv.next ?_
        exact ⟨S, _, _, _, _, _, _, ⟨g1, by omega, g4⟩, rfl⟩
  · rintro ρ ⟨S, f, x3, x4, x5, x6, x7, ⟨g1, g2, g4⟩, rfl⟩
    have e9 : S = [] := List.length_eq_zero_iff.mp (by omega)
    refine Sv.ret ?_
    refine EvN.ev (fin S _ _ _ _ _ _ g1 ⟨g1, ?_, g4⟩)
    rw [e9]
    exact holdB_nil cs
def F__law_turned : DF := fun ds Φ => ∃ es : List PyData, ds = [.list es] ∧ es.length ≤ 9000 ∧ ∀ (f : Bool) (rs : List PyData), rs.Perm es → Φ f (.list rs)
theorem mono__law_turned : MonoF F__law_turned := fun ds Φ Ψ ⟨es, e, h1, q⟩ z => ⟨es, e, h1, fun f rs a => z _ _ (q f rs a)⟩
theorem scLawTurned : FnScope ["bag", "row", "left"] ["bag", "row"] (defScope sLawTurned) := ⟨rfl, rfl, rfl, by decide +kernel, rfl, by decide +kernel, by decide +kernel⟩
theorem ok__law_turned (F : Fun K "_law_turned" "_law_turned" sLawTurned f fd) (c__law_draw : Callee P w K mg base "_law_draw" 1 ["bag", "many"] spDraw) (m_list : mg "list" = none) (m_range : mg "range" = none) (m_len : mg "len" = none)  :
    FnOk P w K mg base CX0 2 f fd ["bag", "row"] (spB 2 F__law_turned) := by
  refine F.ok scLawTurned (fun vs H Q E h => h.1) (fun cdv A outer s H vs Q E hr h => ?_)
  obtain ⟨_, b, l, ws, nb, ds, rfl, hB, hlive, hnb, hds, hF⟩ := h
  obtain ⟨Φ, hΦ, hF⟩ : ∃ Φ : Pd, (∀ f d v H', Φ f d → But (Nb b) H H' → BagAt H' b l → IsD (fun a => nb a ∨ (f = true ∧ H a ≠ none)) H' d v → Q v H') ∧ F__law_turned ds Φ := ⟨_, fun f d v H' q => q v H', hF⟩
  obtain ⟨es, rfl, hl, q⟩ := hF
  refine ⟨_, (@pss_cons _ _ _ _ _ (@ps_set _ _ (2) _ _ _ _ scLawTurned.nd rfl (Or.inr rfl) (@pe_callTy _ _ _ _ _ _ _ _ (rListOf K) call_listM rfl m_list PyProof.Rows.boot_list (@pa_cons _ _ _ _ _ (pv 1) pa_nil rfl) (by decide) (by decide) (by rfl) (by rfl)) (by rfl) (by first | exact .inl rfl | exact .inr rfl | assumption)) (@pss_one _ _ _ (@ps_ret _ _ _ _ (pe_lcomp (CompOk.of (show compOkB (defScope sLawTurned) ["bag", "row", "left"] _ ["k", "bag", "left"] [none, some 0, some 2] = true by decide +kernel)) (@pi_range1 _ _ _ _ _ _ rfl m_range (@pa_cons _ _ _ _ _ (@pe_callB _ _ _ _ _ _ _ _ (rLen K) call_lenM rfl m_len PySem.boot_len (@pa_cons _ _ _ _ _ (pv 1) pa_nil rfl) (by decide) (by decide) (by rfl) (by rfl)) pa_nil rfl) (by rfl)) (fun _ _ _ _ => ⟨(pg_name (i := 0) (by show List.Nodup (["k", "bag", "left"] : List Str); decide +kernel) rfl (Or.inl rfl)), pts_nil, (pe_bmJ (K := K) rfl (pe_bm PySem.F.plainAttrs_list PySem.F.slot_list_pop PySem.F.type_list_pop mt_popAt (pv 2) (@pa_cons _ _ _ _ _ (@pe_callC _ _ _ _ _ _ _ _ _ _ c__law_draw (hr.mono (by decide)) (@pa_cons _ _ _ _ _ (pv 1) (@pa_cons _ _ _ _ _ (@pe_callB _ _ _ _ _ _ _ _ (rLen K) call_lenM rfl m_len PySem.boot_len (@pa_cons _ _ _ _ _ (pv 2) pa_nil rfl) (by decide) (by decide) (by rfl) (by rfl)) pa_nil rfl) rfl) (by rfl) (by decide) (by rfl) (by rfl)) pa_nil rfl)))⟩))))), ?_⟩
  refine Sv.enterB hB hlive hnb hds hΦ (ρ := [.bag, .d false _, .no]) rfl ?_
  clear hΦ hds
  refine Sv.seq ?_
  refine Sv.asgN (EvN.listOf ?_)
  walk_at "dt"
  intro A2
  refine Sv.retTurn rfl rfl hl ?_ (fun rs hp => q _ rs hp)
  walk_at "dt"
  rfl
def F__law_copy : DF := fun ds Φ => ∃ (p n : Int) (cs : List Prs), ds = [netD p n cs] ∧ cs.length ≤ 10000 ∧ ∀ f, Φ f (netD p n cs)
theorem mono__law_copy : MonoF F__law_copy := fun ds Φ Ψ ⟨p, n, cs, e, h, q⟩ z => ⟨p, n, cs, e, h, fun f => z _ _ (q f)⟩
theorem scLawCopy : FnScope ["net"] ["net"] (defScope sLawCopy) := ⟨rfl, rfl, rfl, by decide +kernel, rfl, by decide +kernel, by decide +kernel⟩
theorem ok__law_copy (F : Fun K "_law_copy" "_law_copy" sLawCopy f fd)  (m_list : mg "list" = none)  :
    FnOk P w K mg base CX0 1 f fd ["net"] (spD 1 F__law_copy) := by
  refine F.ok scLawCopy (fun vs H Q E h => h.1) (fun cdv A outer s H vs Q E hr h => ?_)
  obtain ⟨_, nb, ds, hlive, hds, hF⟩ := h
  obtain ⟨Φ, hΦ, hF⟩ : ∃ Φ : Pd, (∀ f d v H', Φ f d → Same H H' → IsD (fun a => nb a ∨ (f = true ∧ H a ≠ none)) H' d v → Q v H') ∧ F__law_copy ds Φ := ⟨_, fun f d v H' q => q v H', hF⟩
  obtain ⟨p, n, cs, rfl, hl, q⟩ := hF
  refine ⟨_, (@pss_one _ _ _ (@ps_ret _ _ _ _ (@pe_tup _ _ _ _ _ (@pa_cons _ _ _ _ _ (@pe_ix _ _ _ _ _ _ (rIxT K) ix_tup (pv 0) pe_int (fun _ _ => rfl)) (@pa_cons _ _ _ _ _ (@pe_ix _ _ _ _ _ _ (rIxT K) ix_tup (pv 0) pe_int (fun _ _ => rfl)) (@pa_cons _ _ _ _ _ (pe_lcomp (CompOk.of (show compOkB (defScope sLawCopy) ["net"] _ ["pairs"] [none] = true by decide +kernel)) (@pi_list _ _ _ _ (@pe_ix _ _ _ _ _ _ (rIxT K) ix_tup (pv 0) pe_int (fun _ _ => rfl))) (fun _ _ _ _ => ⟨(pg_name (i := 0) (by show List.Nodup (["pairs"] : List Str); decide +kernel) rfl (Or.inl rfl)), pts_nil, (@pe_callTy _ _ _ _ _ _ _ _ (rListOf K) call_listM rfl m_list PyProof.Rows.boot_list (@pa_cons _ _ _ _ _ (pv 0) pa_nil rfl) (by decide) (by decide) (by rfl) (by rfl))⟩)) pa_nil rfl) rfl) rfl)))), ?_⟩
  refine Sv.enterD hlive hds hΦ (ρ := [.d false _]) rfl ?_
  clear hΦ hds
  walk_at "dt"
  refine EvN.ev (EvN.compL (by decide) rfl ?_)
  walk_at "dt"
  refine ⟨by rw [List.length_map]; exact hl, fun v => ⟨false, fun i ds => ds = (cs.take i).map prsD, rfl, ?_, ?_⟩⟩
  · rintro i d ds hd hl' rfl
    obtain ⟨prs, hprs, rfl⟩ := map_at hd
    walk_at "dt"
    refine ⟨by walk_at "wk", ?_⟩
    walk_at "dt"
    refine ⟨fun z => (by cases z), ?_⟩
    show _ = List.map _ _
    rw [take_snoc hprs, List.map_append]
    rfl
  · rintro ds hl' rfl
    rw [List.length_map, List.take_length]
    walk_at "dt"
    exact q _
def alikeOk : Nat → PyData → Prop
  | 0, _ => False
  | n + 1, d => scB d = true ∨ ∃ ds, (d = .list ds ∨ d = .tuple ds) ∧ ds.length ≤ 10000 ∧ ∀ e ∈ ds, alikeOk n e
def F__law_alike (n : Nat) : DF := fun ds Φ => ∃ d, ds = [d, d] ∧ alikeOk n d ∧ Φ true (.bool true)
theorem mono__law_alike (n : Nat) : MonoF (F__law_alike n) := fun ds Φ Ψ ⟨d, e, h, q⟩ z => ⟨d, e, h, z _ _ q⟩
theorem void__law_alike : ∀ vs H Q E, ¬ spD 2 (F__law_alike 0) vs H Q E := fun vs H Q E ⟨_, _, _, _, _, d, _, h, _⟩ => h
theorem scLawAlike : FnScope ["found", "due"] ["found", "due"] (defScope sLawAlike) := ⟨rfl, rfl, rfl, by decide +kernel, rfl, by decide +kernel, by decide +kernel⟩
theorem ok__law_alike (n : Nat) (F : Fun K "_law_alike" "_law_alike" sLawAlike f fd) (c__law_alike : Callee P w K mg base "_law_alike" (n) ["found", "due"] (spD 2 (F__law_alike n)))  (m_isinstance : mg "isinstance" = none) (m_list : mg "list" = none) (m_tuple : mg "tuple" = none) (m_all : mg "all" = none) (m_len : mg "len" = none) (m_bool : mg "bool" = none) (m_int : mg "int" = none) (m_str : mg "str" = none) (m_range : mg "range" = none)  :
    FnOk P w K mg base CX0 (n + 1) f fd ["found", "due"] (spD 2 (F__law_alike (n + 1))) := by
  refine F.ok scLawAlike (fun vs H Q E h => h.1) (fun cdv A outer s H vs Q E hr h => ?_)
  obtain ⟨_, nb, ds, hlive, hds, hF⟩ := h
  obtain ⟨Φ, hΦ, hF⟩ : ∃ Φ : Pd, (∀ f d v H', Φ f d → Same H H' → IsD (fun a => nb a ∨ (f = true ∧ H a ≠ none)) H' d v → Q v H') ∧ F__law_alike (n + 1) ds Φ := ⟨_, fun f d v H' q => q v H', hF⟩
  obtain ⟨d, rfl, hok, q⟩ := hF
  refine ⟨_, (@pss_cons _ _ _ _ _ (@ps_if _ _ _ _ _ _ _ _ (@pt_truthK _ (K) _ _ rfl (@pe_callB _ _ _ _ _ _ _ _ (rIsiT) call_isiT rfl m_isinstance PyProof.Rows.boot_isinstance (@pa_cons _ _ _ _ _ (pv 1) (@pa_cons _ _ _ _ _ (@pe_tup _ _ _ _ _ (@pa_cons _ _ _ _ _ (pe_bltn (v := .ty "list") rfl m_list PyProof.Rows.boot_list rfl) (@pa_cons _ _ _ _ _ (pe_bltn (v := .ty "tuple") rfl m_tuple PyProof.Rows.boot_tuple rfl) pa_nil rfl) rfl)) pa_nil rfl) rfl) (by decide) (by decide) (by rfl) (by rfl)) (fun _ => rfl)) (@pss_cons _ _ _ _ _ (@ps_if _ _ _ _ _ _ _ _ (PW.pt (pw_or (@pt_not _ _ _ _ (@pt_truthK _ (K) _ _ rfl (@pe_callB _ _ _ _ _ _ _ _ (rIsiT) call_isiT rfl m_isinstance PyProof.Rows.boot_isinstance (@pa_cons _ _ _ _ _ (pv 0) (@pa_cons _ _ _ _ _ (@pe_tup _ _ _ _ _ (@pa_cons _ _ _ _ _ (pe_bltn (v := .ty "list") rfl m_list PyProof.Rows.boot_list rfl) (@pa_cons _ _ _ _ _ (pe_bltn (v := .ty "tuple") rfl m_tuple PyProof.Rows.boot_tuple rfl) pa_nil rfl) rfl)) pa_nil rfl) rfl) (by decide) (by decide) (by rfl) (by rfl)) (fun _ => rfl))) (pw_or1 (@pt_cmpR _ _ _ _ _ _ _ _ op_ne (@pe_callB _ _ _ _ _ _ _ _ (rIsi K) call_isi rfl m_isinstance PyProof.Rows.boot_isinstance (@pa_cons _ _ _ _ _ (pv 0) (@pa_cons _ _ _ _ _ (pe_bltn (v := .ty "list") rfl m_list PyProof.Rows.boot_list rfl) pa_nil rfl) rfl) (by decide) (by decide) (by rfl) (by rfl)) (@pe_callB _ _ _ _ _ _ _ _ (rIsi K) call_isi rfl m_isinstance PyProof.Rows.boot_isinstance (@pa_cons _ _ _ _ _ (pv 1) (@pa_cons _ _ _ _ _ (pe_bltn (v := .ty "list") rfl m_list PyProof.Rows.boot_list rfl) pa_nil rfl) rfl) (by decide) (by decide) (by rfl) (by rfl)) (nomark _))))) (@pss_one _ _ _ (@ps_ret _ _ _ _ pe_bl)) pss_nil) (@pss_cons _ _ _ _ _ (@ps_if _ _ _ _ _ _ _ _ (@pt_cmpR _ _ _ _ _ _ _ _ op_ne (@pe_callB _ _ _ _ _ _ _ _ (rLen K) call_lenM rfl m_len PySem.boot_len (@pa_cons _ _ _ _ _ (pv 0) pa_nil rfl) (by decide) (by decide) (by rfl) (by rfl)) (@pe_callB _ _ _ _ _ _ _ _ (rLen K) call_lenM rfl m_len PySem.boot_len (@pa_cons _ _ _ _ _ (pv 1) pa_nil rfl) (by decide) (by decide) (by rfl) (by rfl)) (nomark _)) (@pss_one _ _ _ (@ps_ret _ _ _ _ pe_bl)) pss_nil) (@pss_one _ _ _ (@ps_ret _ _ _ _ (@pe_callB _ _ _ _ _ _ _ _ (rAll K) (call_allM rfl) rfl m_all PyProof.Rows.boot_all (@pa_cons _ _ _ _ _ (pe_lcomp (CompOk.of (show compOkB (defScope sLawAlike) ["found", "due"] _ ["k", "found", "due"] [none, some 0, some 1] = true by decide +kernel)) (@pi_range1 _ _ _ _ _ _ rfl m_range (@pa_cons _ _ _ _ _ (@pe_callB _ _ _ _ _ _ _ _ (rLen K) call_lenM rfl m_len PySem.boot_len (@pa_cons _ _ _ _ _ (pv 1) pa_nil rfl) (by decide) (by decide) (by rfl) (by rfl)) pa_nil rfl) (by rfl)) (fun _ _ _ _ => ⟨(pg_name (i := 0) (by show List.Nodup (["k", "found", "due"] : List Str); decide +kernel) rfl (Or.inl rfl)), pts_nil, (@pe_callC _ _ _ _ _ _ _ _ _ _ c__law_alike (hr.mono (Nat.le_refl _)) (@pa_cons _ _ _ _ _ (@pe_ix _ _ _ _ _ _ (rIx K) ix_seq (pv 1) (pv 0) (fun _ _ => rfl)) (@pa_cons _ _ _ _ _ (@pe_ix _ _ _ _ _ _ (rIx K) ix_seq (pv 2) (pv 0) (fun _ _ => rfl)) pa_nil rfl) rfl) (by rfl) (by decide) (by rfl) (by rfl))⟩)) pa_nil rfl) (by decide) (by decide) (by rfl) (by rfl)))))) pss_nil) (@pss_cons _ _ _ _ _ (@ps_if _ _ _ _ _ _ _ _ (PW.pt (pw_or (@pt_cmpR _ _ _ _ _ _ _ _ op_ne (@pe_callB _ _ _ _ _ _ _ _ (rIsi K) call_isi rfl m_isinstance PyProof.Rows.boot_isinstance (@pa_cons _ _ _ _ _ (pv 0) (@pa_cons _ _ _ _ _ (pe_bltn (v := .ty "bool") rfl m_bool PyProof.Rows.boot_bool rfl) pa_nil rfl) rfl) (by decide) (by decide) (by rfl) (by rfl)) (@pe_callB _ _ _ _ _ _ _ _ (rIsi K) call_isi rfl m_isinstance PyProof.Rows.boot_isinstance (@pa_cons _ _ _ _ _ (pv 1) (@pa_cons _ _ _ _ _ (pe_bltn (v := .ty "bool") rfl m_bool PyProof.Rows.boot_bool rfl) pa_nil rfl) rfl) (by decide) (by decide) (by rfl) (by rfl)) (nomark _)) (pw_or1 (@pt_cmpR _ _ _ _ _ _ _ _ op_ne (@pe_callB _ _ _ _ _ _ _ _ (rIsi K) call_isi rfl m_isinstance PyProof.Rows.boot_isinstance (@pa_cons _ _ _ _ _ (pv 0) (@pa_cons _ _ _ _ _ (pe_bltn (v := .ty "int") rfl m_int PyProof.Rows.boot_int rfl) pa_nil rfl) rfl) (by decide) (by decide) (by rfl) (by rfl)) (@pe_callB _ _ _ _ _ _ _ _ (rIsi K) call_isi rfl m_isinstance PyProof.Rows.boot_isinstance (@pa_cons _ _ _ _ _ (pv 1) (@pa_cons _ _ _ _ _ (pe_bltn (v := .ty "int") rfl m_int PyProof.Rows.boot_int rfl) pa_nil rfl) rfl) (by decide) (by decide) (by rfl) (by rfl)) (nomark _))))) (@pss_one _ _ _ (@ps_ret _ _ _ _ pe_bl)) pss_nil) (@pss_one _ _ _ (@ps_ret _ _ _ _ (@pe_and _ _ _ _ _ _ _ (@pe_cmpR _ _ _ _ _ _ _ _ op_eq (@pe_callB _ _ _ _ _ _ _ _ (rIsi K) call_isi rfl m_isinstance PyProof.Rows.boot_isinstance (@pa_cons _ _ _ _ _ (pv 0) (@pa_cons _ _ _ _ _ (pe_bltn (v := .ty "str") rfl m_str PyProof.Rows.boot_str rfl) pa_nil rfl) rfl) (by decide) (by decide) (by rfl) (by rfl)) (@pe_callB _ _ _ _ _ _ _ _ (rIsi K) call_isi rfl m_isinstance PyProof.Rows.boot_isinstance (@pa_cons _ _ _ _ _ (pv 1) (@pa_cons _ _ _ _ _ (pe_bltn (v := .ty "str") rfl m_str PyProof.Rows.boot_str rfl) pa_nil rfl) rfl) (by decide) (by decide) (by rfl) (by rfl)) (nomark _)) (@pe_one _ _ _ _ _ (@pe_cmpR _ _ _ _ _ _ _ _ op_eq (pv 0) (pv 1) (nomark _)))))))), ?_⟩
  refine Sv.enterD hlive hds hΦ (ρ := [.d false _, .d false _]) rfl ?_
  clear hΦ hds
  walk_at "dt"
  rcases hok with hs | ⟨ds, hd, hl, he⟩
  · have h1 : (isiD d "list" || isiD d "tuple") = false := by cases d <;> first | rfl | cases hs
    rw [h1]
    walk_at "dt"
    rw [beq_self_eq_true]
    walk_at "dt"
    rw [beq_self_eq_true]
    walk_at "dt"
    rw [beq_self_eq_true]
    walk_at "dt"
    exact ⟨true, .self hs, q⟩
  rcases hd with rfl | rfl
  · rw [(isi_list ds).1, (isi_list ds).2, Bool.true_or]
    walk_at "dt"
    refine EvN.ev (EvN.compR1 (by decide) rfl ?_)
    walk_at "dt"
    refine ⟨true, fun i es => es = List.replicate i (.bool true), rfl, ?_, ?_⟩
    · rintro i d' es ⟨hi, rfl⟩ hl' rfl
      have hi' : i < ds.length := by omega
      have hat : atI ds (0 + (i : Int)) = some ds[i] := atI_some (by omega) (by rw [show (0 + (i : Int)).toNat = i by omega]; exact List.getElem?_eq_getElem hi')
      walk_at "dt"
      refine ⟨by walk_at "wk", ?_⟩
      walk_at "dt"
      refine Ev.callD (mono__law_alike n) ?_
      walk_at "dt"
      refine ⟨rfl, ds[i], rfl, he _ (List.getElem_mem hi'), fun _ => rfl, ?_⟩
      show _ = List.replicate (i + 1) _
      rw [List.replicate_succ']
    · rintro es hl' rfl
      refine ⟨List.replicate ds.length true, by simp, ?_⟩
      rw [show (List.replicate ds.length true).all id = true by simp]
      exact q
  · rw [(isi_tuple ds).1, (isi_tuple ds).2, Bool.false_or]
    walk_at "dt"
    refine EvN.ev (EvN.compR1 (by decide) rfl ?_)
    walk_at "dt"
    refine ⟨true, fun i es => es = List.replicate i (.bool true), rfl, ?_, ?_⟩
    · rintro i d' es ⟨hi, rfl⟩ hl' rfl
      have hi' : i < ds.length := by omega
      have hat : atI ds (0 + (i : Int)) = some ds[i] := atI_some (by omega) (by rw [show (0 + (i : Int)).toNat = i by omega]; exact List.getElem?_eq_getElem hi')
      walk_at "dt"
      refine ⟨by walk_at "wk", ?_⟩
      walk_at "dt"
      refine Ev.callD (mono__law_alike n) ?_
      walk_at "dt"
      refine ⟨rfl, ds[i], rfl, he _ (List.getElem_mem hi'), fun _ => rfl, ?_⟩
      show _ = List.replicate (i + 1) _
      rw [List.replicate_succ']
    · rintro es hl' rfl
      refine ⟨List.replicate ds.length true, by simp, ?_⟩
      rw [show (List.replicate ds.length true).all id = true by simp]
      exact q
def F__law_says : DF := fun ds Φ => ∃ b : Bool, ds = [.bool b, .bool b] ∧ Φ true (.bool true)
theorem mono__law_says : MonoF F__law_says := fun ds Φ Ψ ⟨b, e, q⟩ z => ⟨b, e, z _ _ q⟩
theorem scLawSays : FnScope ["found", "due"] ["found", "due"] (defScope sLawSays) := ⟨rfl, rfl, rfl, by decide +kernel, rfl, by decide +kernel, by decide +kernel⟩
theorem ok__law_says (F : Fun K "_law_says" "_law_says" sLawSays f fd)    :
    FnOk P w K mg base CX0 1 f fd ["found", "due"] (spD 2 F__law_says) := by
  refine F.ok scLawSays (fun vs H Q E h => h.1) (fun cdv A outer s H vs Q E hr h => ?_)
  obtain ⟨_, nb, ds, hlive, hds, hF⟩ := h
  obtain ⟨Φ, hΦ, hF⟩ : ∃ Φ : Pd, (∀ f d v H', Φ f d → Same H H' → IsD (fun a => nb a ∨ (f = true ∧ H a ≠ none)) H' d v → Q v H') ∧ F__law_says ds Φ := ⟨_, fun f d v H' q => q v H', hF⟩
  obtain ⟨b, rfl, q⟩ := hF
  refine ⟨_, (@pss_one _ _ _ (@ps_ret _ _ _ _ (@pe_ifExp _ _ _ _ _ _ _ _ (@pt_truthK _ (K) _ _ rfl (pv 1) (fun _ => rfl)) (@pe_cmpR _ _ _ _ _ _ _ _ op_isB (pv 0) pe_bl (nomark _)) (@pe_cmpR _ _ _ _ _ _ _ _ op_isB (pv 0) pe_bl (nomark _))))), ?_⟩
  refine Sv.enterD hlive hds hΦ (ρ := [.d false _, .d false _]) rfl ?_
  clear hΦ hds
  cases b with
  | true =>
    walk_at "dt"
    exact q
  | false =>
    walk_at "dt"
    exact q
def F__law_without : DF := fun ds Φ => ∃ (lot : List Int) (x : Int), ds = [.list (lot.map .int), .int x] ∧ lot.length ≤ 10000 ∧ Φ true (.list ((lot.filter fun y => decide (y ≠ x)).map .int))
theorem mono__law_without : MonoF F__law_without := fun ds Φ Ψ ⟨lot, x, e, h1, q⟩ z => ⟨lot, x, e, h1, z _ _ q⟩
theorem scLawWithout : FnScope ["lot", "place"] ["lot", "place"] (defScope sLawWithout) := ⟨rfl, rfl, rfl, by decide +kernel, rfl, by decide +kernel, by decide +kernel⟩
theorem ok__law_without (F : Fun K "_law_without" "_law_without" sLawWithout f fd)    :
    FnOk P w K mg base CX0 1 f fd ["lot", "place"] (spD 2 F__law_without) := by
  refine F.ok scLawWithout (fun vs H Q E h => h.1) (fun cdv A outer s H vs Q E hr h => ?_)
  obtain ⟨_, nb, ds, hlive, hds, hF⟩ := h
  obtain ⟨Φ, hΦ, hF⟩ : ∃ Φ : Pd, (∀ f d v H', Φ f d → Same H H' → IsD (fun a => nb a ∨ (f = true ∧ H a ≠ none)) H' d v → Q v H') ∧ F__law_without ds Φ := ⟨_, fun f d v H' q => q v H', hF⟩
  obtain ⟨lot, x, rfl, hl, q⟩ := hF
  refine ⟨_, (@pss_one _ _ _ (@ps_ret _ _ _ _ (pe_lcomp (CompOk.of (show compOkB (defScope sLawWithout) ["lot", "place"] _ ["one", "place"] [none, some 1] = true by decide +kernel)) (@pi_list _ _ _ _ (pv 0)) (fun _ _ _ _ => ⟨(pg_name (i := 0) (by show List.Nodup (["one", "place"] : List Str); decide +kernel) rfl (Or.inl rfl)), (pts_one (@pt_cmpR _ _ _ _ _ _ _ _ op_ne (pv 0) (pv 1) (nomark _))), (pv 0)⟩)))), ?_⟩
  refine Sv.enterD hlive hds hΦ (ρ := [.d false _, .d false _]) rfl ?_
  clear hΦ hds
  have hlm : (lot.map PyData.int).length = lot.length := List.length_map ..
  refine Sv.ret ?_
  refine EvN.ev (EvN.compL (by decide) rfl ?_)
  walk_at "dt"
  refine fun v => ⟨true, fun j es => es = ((lot.take j).filter fun y => decide (y ≠ x)).map .int, rfl, ?_, ?_⟩
  · rintro j d es hd hl' rfl
    obtain ⟨y, hy, rfl⟩ := map_at hd
    walk_at "dt"
    refine ⟨by walk_at "wk", ?_⟩
    by_cases c : y = x
    · walk_at "dt"
      show _ = List.map _ (List.filter _ (lot.take (j + 1)))
      rw [filter_snoc _ hy, if_neg (by simpa using c), List.append_nil]
    · walk_at "dt"
      show _ = List.map _ (List.filter _ (lot.take (j + 1)))
      rw [filter_snoc _ hy, if_pos (by simpa using c), List.map_append]
      rfl
  rintro es hl' rfl
  rw [hlm, List.take_length]
  exact q
def F__law_bare : DF := fun ds Φ => ∃ (cs : List Prs) (lot : List Int), ds = [.list (cs.map prsD), .list (lot.map .int)] ∧ lot.Pairwise (· < ·) ∧ lot.length < 64 ∧ (∀ prs ∈ cs, prs.length ≤ 10000) ∧ ∀ b : Bool, (b = true ↔ Bare cs lot) → Φ true (.bool b)
theorem mono__law_bare : MonoF F__law_bare := fun ds Φ Ψ ⟨cs, lot, e, h1, h2, h3, q⟩ z => ⟨cs, lot, e, h1, h2, h3, fun b a => z _ _ (q b a)⟩
theorem scLawBare : FnScope ["checks", "lot"] ["checks", "lot"] (defScope sLawBare) := ⟨rfl, rfl, rfl, by decide +kernel, rfl, by decide +kernel, by decide +kernel⟩
theorem ok__law_bare (F : Fun K "_law_bare" "_law_bare" sLawBare f fd) (c__law_holds : Callee P w K mg base "_law_holds" 2 ["checks", "lot"] (spD 2 F__law_holds)) (c__law_peeled : Callee P w K mg base "_law_peeled" 1 ["checks", "lot"] (spD 2 F__law_peeled)) (c__law_without : Callee P w K mg base "_law_without" 1 ["lot", "place"] (spD 2 F__law_without))   :
    FnOk P w K mg base CX0 3 f fd ["checks", "lot"] (spD 2 F__law_bare) := by
  refine F.ok scLawBare (fun vs H Q E h => h.1) (fun cdv A outer s H vs Q E hr h => ?_)
  obtain ⟨_, nb, ds, hlive, hds, hF⟩ := h
  obtain ⟨Φ, hΦ, hF⟩ : ∃ Φ : Pd, (∀ f d v H', Φ f d → Same H H' → IsD (fun a => nb a ∨ (f = true ∧ H a ≠ none)) H' d v → Q v H') ∧ F__law_bare ds Φ := ⟨_, fun f d v H' q => q v H', hF⟩
  obtain ⟨cs, lot, rfl, hup, hl64, hpl, q⟩ := hF
  refine ⟨_, (@pss_cons _ _ _ _ _ (@ps_if _ _ _ _ _ _ _ _ (PW.pt (pw_or (@pt_cmpR _ _ _ _ _ _ _ _ (op_eqD hr.units) (pv 1) (@pe_lst _ _ _ _ pa_nil) (nomark _)) (pw_or1 (@pt_not _ _ _ _ (@pt_truthK _ (K) _ _ rfl (@pe_callC _ _ _ _ _ _ _ _ _ _ c__law_holds (hr.mono (by decide)) (@pa_cons _ _ _ _ _ (pv 0) (@pa_cons _ _ _ _ _ (pv 1) pa_nil rfl) rfl) (by rfl) (by decide) (by rfl) (by rfl)) (fun _ => rfl)))))) (@pss_one _ _ _ (@ps_ret _ _ _ _ pe_bl)) pss_nil) (@pss_one _ _ _ (@ps_ret _ _ _ _ (@pe_cmpR _ _ _ _ _ _ _ _ (op_eqD hr.units) (pe_lcomp (CompOk.of (show compOkB (defScope sLawBare) ["checks", "lot"] _ ["place", "checks", "lot"] [none, some 0, some 1] = true by decide +kernel)) (@pi_list _ _ _ _ (pv 1)) (fun _ _ _ _ => ⟨(pg_name (i := 0) (by show List.Nodup (["place", "checks", "lot"] : List Str); decide +kernel) rfl (Or.inl rfl)), (pts_one (@pt_cmpR _ _ _ _ _ _ _ _ (op_neD hr.units) (@pe_callC _ _ _ _ _ _ _ _ _ _ c__law_peeled (hr.mono (by decide)) (@pa_cons _ _ _ _ _ (pv 1) (@pa_cons _ _ _ _ _ (@pe_callC _ _ _ _ _ _ _ _ _ _ c__law_without (hr.mono (by decide)) (@pa_cons _ _ _ _ _ (pv 2) (@pa_cons _ _ _ _ _ (pv 0) pa_nil rfl) rfl) (by rfl) (by decide) (by rfl) (by rfl)) pa_nil rfl) rfl) (by rfl) (by decide) (by rfl) (by rfl)) (@pe_lst _ _ _ _ pa_nil) (nomark _))), (pv 0)⟩)) (@pe_lst _ _ _ _ pa_nil) (nomark _))))), ?_⟩
  refine Sv.enterD hlive hds hΦ (ρ := [.d false _, .d false _]) rfl ?_
  clear hΦ hds
  have hlm : (lot.map PyData.int).length = lot.length := List.length_map ..
  refine Sv.seq ?_
  refine Sv.ifS ?_
  refine Tv.or ?_
  walk_at "dt"
  refine ⟨shaped_ints lot, rfl, ?_⟩
  by_cases c : lot = []
  · subst c
    refine ⟨true, rfl, ?_⟩
    walk_at "dt"
    exact q false ⟨fun z => (by cases z), fun z => absurd rfl z.1⟩
  refine ⟨false, by obtain ⟨x, t, e⟩ := List.exists_cons_of_ne_nil c; subst e; rfl, ?_⟩
  walk_at "dt"
  refine Ev.callD mono__law_holds ?_
  walk_at "dt"
  refine ⟨rfl, cs, lot, rfl, hpl, by omega, ?_⟩
  refine ⟨_, rfl, ?_⟩
  cases ho : holdB cs lot with
  | false =>
    walk_at "dt"
    exact q false ⟨fun z => (by cases z), fun z => absurd z.2.1 (by rw [ho]; exact Bool.false_ne_true)⟩
  | true =>
    walk_at "dt"
    refine EvN.ev (EvN.compL (by decide) rfl ?_)
    walk_at "dt"
    refine fun v => ⟨true, fun i ds => ∃ os : List Int, ds = os.map .int ∧ (os = [] ↔ ∀ x ∈ lot.take i, ∀ T : List Int, T ≠ [] → (∀ y ∈ T, y ∈ lot ∧ y ≠ x) → holdB cs T = false), ⟨[], rfl, ⟨fun _ _ h => (by simp at h), fun _ => rfl⟩⟩, ?_, ?_⟩
    · rintro i d ds hd hl' ⟨os, rfl, ho1⟩
      obtain ⟨x, hx, rfl⟩ := map_at hd
      walk_at "dt"
      refine ⟨by walk_at "wk", ?_⟩
      refine Tv.test ?_
      refine Ev.eqD ?_
      refine Ev.callD mono__law_peeled ?_
      refine Av.cons ?_
      walk_at "dt"
      refine Ev.callD mono__law_without ?_
      walk_at "dt"
      refine ⟨rfl, lot, x, rfl, by omega, ?_⟩
      walk_at "dt"
      refine ⟨rfl, cs, _, rfl, hup.filter _, Nat.lt_of_le_of_lt (List.length_filter_le _ _) hl64, hpl, fun g hg => ?_⟩
      walk_at "dt"
      refine ⟨shaped_ints g, rfl, ?_⟩
      have hn := great_nil hg
      by_cases cg : g = []
      · refine ⟨false, by subst cg; rfl, ?_⟩
        rw [if_neg Bool.false_ne_true]
        refine ⟨os, rfl, ⟨fun z y hy T hT hs => ?_, fun z => ho1.mpr fun y hy => z y ?_⟩⟩
        · rw [take_snoc hx] at hy
          rcases List.mem_append.mp hy with h | h
          · exact ho1.mp z y h T hT hs
          · rw [List.mem_singleton.mp h] at hs
            exact hn.mp cg T hT fun w hw => List.mem_filter.mpr ⟨(hs w hw).1, decide_eq_true (hs w hw).2⟩
        · rw [take_snoc hx]; exact List.mem_append_left _ hy
      · refine ⟨true, by obtain ⟨u, t, e⟩ := List.exists_cons_of_ne_nil cg; subst e; rfl, ?_⟩
        rw [if_pos rfl]
        walk_at "dt"
        refine ⟨os ++ [x], by rw [List.map_append]; rfl, ⟨fun z => absurd z (by simp), fun z => ?_⟩⟩
        refine absurd (hn.mpr fun T hT hs => z x (by rw [take_snoc hx]; exact List.mem_append_right _ (by simp)) T hT fun y hy => ?_) cg
        obtain ⟨h1, h2⟩ := List.mem_filter.mp (hs y hy)
        exact ⟨h1, of_decide_eq_true h2⟩
    · rintro ds hl' ⟨os, rfl, ho1⟩
      rw [hlm, List.take_length] at ho1
      walk_at "dt"
      refine ⟨shaped_ints os, rfl, ?_⟩
      refine q _ ?_
      have e : ((PyData.list (os.map PyData.int)).eqv (PyData.list (([] : List Fd).map (·.2))) != false) = true ↔ os = [] := by
        cases os with
        | nil => exact ⟨fun _ => rfl, fun _ => rfl⟩
        | cons u t => exact ⟨fun z => (by cases z), fun z => (by cases z)⟩
      rw [e, ho1]
      constructor
      · intro h
        exact ⟨c, ho, fun T hT hs ⟨y, hy, hyT⟩ => h y hy T hT fun z hz => ⟨hs z hz, fun w => hyT (w ▸ hz)⟩⟩
      · intro h x hx T hT hs
        exact h.2.2 T hT (fun y hy => (hs y hy).1) ⟨x, hx, fun w => (hs x w).2 rfl⟩
def F__law_bared : DF := fun ds Φ => ∃ (cs : List Prs) (lot : List Int), ds = [.list (cs.map prsD), .list (lot.map .int)] ∧ lot.Pairwise (· < ·) ∧ lot.length < 64 ∧ (∀ prs ∈ cs, prs.length ≤ 10000) ∧ ∀ m : List Int, (∃ q : Int → Bool, m = lot.filter q) → Φ true (.list (m.map .int))
theorem mono__law_bared : MonoF F__law_bared := fun ds Φ Ψ ⟨cs, lot, e, h1, h2, h3, q⟩ z => ⟨cs, lot, e, h1, h2, h3, fun m a => z _ _ (q m a)⟩
theorem scLawBared : FnScope ["checks", "lot", "left", "place", "smaller"] ["checks", "lot"] (defScope sLawBared) := ⟨rfl, rfl, rfl, by decide +kernel, rfl, by decide +kernel, by decide +kernel⟩
theorem ok__law_bared (F : Fun K "_law_bared" "_law_bared" sLawBared f fd) (c__law_peeled : Callee P w K mg base "_law_peeled" 1 ["checks", "lot"] (spD 2 F__law_peeled)) (c__law_without : Callee P w K mg base "_law_without" 1 ["lot", "place"] (spD 2 F__law_without)) (m_list : mg "list" = none)  :
    FnOk P w K mg base CX0 2 f fd ["checks", "lot"] (spD 2 F__law_bared) := by
  refine F.ok scLawBared (fun vs H Q E h => h.1) (fun cdv A outer s H vs Q E hr h => ?_)
  obtain ⟨_, nb, ds, hlive, hds, hF⟩ := h
  obtain ⟨Φ, hΦ, hF⟩ : ∃ Φ : Pd, (∀ f d v H', Φ f d → Same H H' → IsD (fun a => nb a ∨ (f = true ∧ H a ≠ none)) H' d v → Q v H') ∧ F__law_bared ds Φ := ⟨_, fun f d v H' q => q v H', hF⟩
  obtain ⟨cs, lot, rfl, hup, hl64, hpl, q⟩ := hF
  refine ⟨_, (@pss_cons _ _ _ _ _ (@ps_set _ _ (2) _ _ _ _ scLawBared.nd rfl (Or.inl rfl) (@pe_callTy _ _ _ _ _ _ _ _ (rListOf K) call_listM rfl m_list PyProof.Rows.boot_list (@pa_cons _ _ _ _ _ (pv 1) pa_nil rfl) (by decide) (by decide) (by rfl) (by rfl)) (by rfl) (by first | exact .inl rfl | exact .inr rfl | assumption)) (@pss_cons _ _ _ _ _ (@ps_for _ _ _ _ _ _ _ _ PassesOwn.never rfl (@pi_list _ _ _ _ (pv 1)) (pg_name (i := 3) scLawBared.nd rfl (Or.inl rfl)) (@pss_cons _ _ _ _ _ (@ps_set _ _ (4) _ _ _ _ scLawBared.nd rfl (Or.inl rfl) (@pe_callC _ _ _ _ _ _ _ _ _ _ c__law_peeled (hr.mono (by decide)) (@pa_cons _ _ _ _ _ (pv 0) (@pa_cons _ _ _ _ _ (@pe_callC _ _ _ _ _ _ _ _ _ _ c__law_without (hr.mono (by decide)) (@pa_cons _ _ _ _ _ (pv 2) (@pa_cons _ _ _ _ _ (pv 3) pa_nil rfl) rfl) (by rfl) (by decide) (by rfl) (by rfl)) pa_nil rfl) rfl) (by rfl) (by decide) (by rfl) (by rfl)) (by rfl) (by first | exact .inl rfl | exact .inr rfl | assumption)) (@pss_one _ _ _ (@ps_if _ _ _ _ _ _ _ _ (@pt_cmpR _ _ _ _ _ _ _ _ (op_neD hr.units) (pv 4) (@pe_lst _ _ _ _ pa_nil) (nomark _)) (@pss_one _ _ _ (@ps_set _ _ (2) _ _ _ _ scLawBared.nd rfl (Or.inl rfl) (pv 4) (by rfl) (by first | exact .inl rfl | exact .inr rfl | assumption))) pss_nil))) (by intro _; rfl)) (@pss_one _ _ _ (@ps_ret _ _ _ _ (pv 2))))), ?_⟩
  refine Sv.enterD hlive hds hΦ (ρ := [.d false _, .d false _, .no, .no, .no]) rfl ?_
  clear hΦ hds
  refine Sv.seq ?_
  refine Sv.asg ?_
  refine Ev.listOf ?_
  refine Ev.var rfl ?_
  refine ⟨_, .inl rfl, ?_⟩
  rw [scAll_ints, Bool.or_true]
  refine Gv.nameT ?_
  refine Sv.seq ?_
  refine Sv.forL ?_
  walk_at "dt"
  refine fun v => ⟨fun i ρ => ∃ (m : List Int) (x3 x4 : Sl), (∃ q : Int → Bool, m = lot.filter q) ∧ ρ = [.d false (.list (cs.map prsD)), .d false (.list (lot.map .int)), .d true (.list (m.map .int)), x3, x4], ⟨lot, _, _, ⟨fun _ => true, (List.filter_eq_self.mpr fun _ _ => rfl).symm⟩, rfl⟩, ?_, ?_⟩
  · rintro i d ρ hd ⟨m, x3, x4, ⟨qm, em⟩, rfl⟩
    obtain ⟨x, hx, rfl⟩ := map_at hd
    have hmu : m.Pairwise (· < ·) := by rw [em]; exact hup.filter _
    have hml : m.length < 64 := by rw [em]; exact Nat.lt_of_le_of_lt (List.length_filter_le _ _) hl64
    refine Gv.nameI ?_
    refine Sv.seq ?_
    refine Sv.asg ?_
    refine Ev.callD mono__law_peeled ?_
    refine Av.cons ?_
    walk_at "dt"
    refine Ev.callD mono__law_without ?_
    walk_at "dt"
    refine ⟨rfl, m, x, rfl, by omega, ?_⟩
    walk_at "dt"
    refine ⟨rfl, cs, _, rfl, hmu.filter _, Nat.lt_of_le_of_lt (List.length_filter_le _ _) hml, hpl, fun g hg => ?_⟩
    refine Gv.nameT ?_
    refine Sv.ifS ?_
    refine Tv.test ?_
    refine Ev.eqD ?_
    walk_at "dt"
    refine ⟨shaped_ints g, rfl, ?_⟩
    by_cases cg : g = []
    · refine ⟨false, by subst cg; rfl, ?_⟩
      rw [if_neg Bool.false_ne_true]
      refine Sv.next ?_
      exact ⟨m, _, _, ⟨qm, em⟩, rfl⟩
    · refine ⟨true, by obtain ⟨u, t, e⟩ := List.exists_cons_of_ne_nil cg; subst e; rfl, ?_⟩
      rw [if_pos rfl]
      refine Sv.asg ?_
      refine Ev.var rfl ?_
      refine Gv.nameT ?_
      refine ⟨g, _, _, ?_, rfl⟩
      obtain ⟨q1, e1⟩ := hg.sub
      exact ⟨_, by rw [e1, em, List.filter_filter, List.filter_filter]⟩
  · rintro ρ ⟨m, x3, x4, hm, rfl⟩
    refine Sv.ret ?_
    refine Ev.var rfl ?_
    exact q m hm
theorem alike_row {n : Nat} (r : List Int) (h : r.length ≤ 10000) : alikeOk (n + 2) (rowD r) := .inr ⟨_, .inl rfl, by rw [List.length_map]; exact h, fun e he => by
  obtain ⟨x, _, rfl⟩ := List.mem_map.mp he
  exact .inl rfl⟩
def F__law_asked : DF := fun ds Φ => ∃ (p n way : Int) (cs : List Prs) (lot : List Int), ds = [netD p n cs, .list (lot.map .int), .int way] ∧ LotNet n cs ∧ n ≤ 60 ∧ LotOk n lot ∧ lot.Pairwise (· < ·) ∧ (∀ prs ∈ cs, prs.length ≤ 10000) ∧ Φ true (.bool true)
theorem mono__law_asked : MonoF F__law_asked := fun ds Φ Ψ ⟨p, n, way, cs, lot, e, h1, h2, h3, h4, h5, q⟩ z => ⟨p, n, way, cs, lot, e, h1, h2, h3, h4, h5, z _ _ q⟩
theorem scLawAsked : FnScope ["net", "lot", "way", "handed", "right"] ["net", "lot", "way"] (defScope sLawAsked) := ⟨rfl, rfl, rfl, by decide +kernel, rfl, by decide +kernel, by decide +kernel⟩
theorem ok__law_asked (F : Fun K "_law_asked" "_law_asked" sLawAsked f fd) (c__law_copy : Callee P w K mg base "_law_copy" 1 ["net"] (spD 1 F__law_copy)) (c__law_says : Callee P w K mg base "_law_says" 1 ["found", "due"] (spD 2 F__law_says)) (c__law_alike : Callee P w K mg base "_law_alike" 3 ["found", "due"] (spD 2 (F__law_alike 3))) (c_holds_out : Callee P w K mg base "holds_out" 2 ["net", "lot"] (spD 2 F_holds_out)) (c__law_holds : Callee P w K mg base "_law_holds" 2 ["checks", "lot"] (spD 2 F__law_holds)) (c_is_bare : Callee P w K mg base "is_bare" 3 ["net", "lot"] (spD 2 F_is_bare)) (c__law_bare : Callee P w K mg base "_law_bare" 3 ["checks", "lot"] (spD 2 F__law_bare)) (c_greatest : Callee P w K mg base "greatest" 2 ["net", "lot"] (spD 2 F_greatest)) (c__law_peeled : Callee P w K mg base "_law_peeled" 1 ["checks", "lot"] (spD 2 F__law_peeled)) (m_list : mg "list" = none)  :
    FnOk P w K mg base CX0 4 f fd ["net", "lot", "way"] (spD 3 F__law_asked) := by
  refine F.ok scLawAsked (fun vs H Q E h => h.1) (fun cdv A outer s H vs Q E hr h => ?_)
  obtain ⟨_, nb, ds, hlive, hds, hF⟩ := h
  obtain ⟨Φ, hΦ, hF⟩ : ∃ Φ : Pd, (∀ f d v H', Φ f d → Same H H' → IsD (fun a => nb a ∨ (f = true ∧ H a ≠ none)) H' d v → Q v H') ∧ F__law_asked ds Φ := ⟨_, fun f d v H' q => q v H', hF⟩
  obtain ⟨p, n, way, cs, lot, rfl, hN, n60, hlot, hup, hpl, q⟩ := hF
  refine ⟨_, (@pss_cons _ _ _ _ _ (@ps_set _ _ (3) _ _ _ _ scLawAsked.nd rfl (Or.inl rfl) (@pe_tup _ _ _ _ _ (@pa_cons _ _ _ _ _ (@pe_callC _ _ _ _ _ _ _ _ _ _ c__law_copy (hr.mono (by decide)) (@pa_cons _ _ _ _ _ (pv 0) pa_nil rfl) (by rfl) (by decide) (by rfl) (by rfl)) (@pa_cons _ _ _ _ _ (@pe_callTy _ _ _ _ _ _ _ _ (rListOf K) call_listM rfl m_list PyProof.Rows.boot_list (@pa_cons _ _ _ _ _ (pv 1) pa_nil rfl) (by decide) (by decide) (by rfl) (by rfl)) pa_nil rfl) rfl)) (by rfl) (by first | exact .inl rfl | exact .inr rfl | assumption)) (@pss_cons _ _ _ _ _ (@ps_set _ _ (4) _ _ _ _ scLawAsked.nd rfl (Or.inl rfl) pe_bl (by rfl) (by first | exact .inl rfl | exact .inr rfl | assumption)) (@pss_cons _ _ _ _ _ (@ps_if _ _ _ _ _ _ _ _ (@pt_cmpR _ _ _ _ _ _ _ _ op_eq (pv 2) pe_int (nomark _)) (@pss_one _ _ _ (@ps_set _ _ (4) _ _ _ _ scLawAsked.nd rfl (Or.inl rfl) (@pe_callC _ _ _ _ _ _ _ _ _ _ c__law_says (hr.mono (by decide)) (@pa_cons _ _ _ _ _ (@pe_callC _ _ _ _ _ _ _ _ _ _ c_holds_out (hr.mono (by decide)) (@pa_cons _ _ _ _ _ (@pe_ix _ _ _ _ _ _ (rIxT K) ix_tup (pv 3) pe_int (fun _ _ => rfl)) (@pa_cons _ _ _ _ _ (@pe_ix _ _ _ _ _ _ (rIxT K) ix_tup (pv 3) pe_int (fun _ _ => rfl)) pa_nil rfl) rfl) (by rfl) (by decide) (by rfl) (by rfl)) (@pa_cons _ _ _ _ _ (@pe_callC _ _ _ _ _ _ _ _ _ _ c__law_holds (hr.mono (by decide)) (@pa_cons _ _ _ _ _ (@pe_ix _ _ _ _ _ _ (rIxT K) ix_tup (pv 0) pe_int (fun _ _ => rfl)) (@pa_cons _ _ _ _ _ (pv 1) pa_nil rfl) rfl) (by rfl) (by decide) (by rfl) (by rfl)) pa_nil rfl) rfl) (by rfl) (by decide) (by rfl) (by rfl)) (by rfl) (by first | exact .inl rfl | exact .inr rfl | assumption))) pss_nil) (@pss_cons _ _ _ _ _ (@ps_if _ _ _ _ _ _ _ _ (@pt_cmpR _ _ _ _ _ _ _ _ op_eq (pv 2) pe_int (nomark _)) (@pss_one _ _ _ (@ps_set _ _ (4) _ _ _ _ scLawAsked.nd rfl (Or.inl rfl) (@pe_callC _ _ _ _ _ _ _ _ _ _ c__law_says (hr.mono (by decide)) (@pa_cons _ _ _ _ _ (@pe_callC _ _ _ _ _ _ _ _ _ _ c_is_bare (hr.mono (by decide)) (@pa_cons _ _ _ _ _ (@pe_ix _ _ _ _ _ _ (rIxT K) ix_tup (pv 3) pe_int (fun _ _ => rfl)) (@pa_cons _ _ _ _ _ (@pe_ix _ _ _ _ _ _ (rIxT K) ix_tup (pv 3) pe_int (fun _ _ => rfl)) pa_nil rfl) rfl) (by rfl) (by decide) (by rfl) (by rfl)) (@pa_cons _ _ _ _ _ (@pe_callC _ _ _ _ _ _ _ _ _ _ c__law_bare (hr.mono (by decide)) (@pa_cons _ _ _ _ _ (@pe_ix _ _ _ _ _ _ (rIxT K) ix_tup (pv 0) pe_int (fun _ _ => rfl)) (@pa_cons _ _ _ _ _ (pv 1) pa_nil rfl) rfl) (by rfl) (by decide) (by rfl) (by rfl)) pa_nil rfl) rfl) (by rfl) (by decide) (by rfl) (by rfl)) (by rfl) (by first | exact .inl rfl | exact .inr rfl | assumption))) pss_nil) (@pss_cons _ _ _ _ _ (@ps_if _ _ _ _ _ _ _ _ (@pt_cmpR _ _ _ _ _ _ _ _ op_eq (pv 2) pe_int (nomark _)) (@pss_one _ _ _ (@ps_set _ _ (4) _ _ _ _ scLawAsked.nd rfl (Or.inl rfl) (@pe_callC _ _ _ _ _ _ _ _ _ _ c__law_alike (hr.mono (by decide)) (@pa_cons _ _ _ _ _ (@pe_callC _ _ _ _ _ _ _ _ _ _ c_greatest (hr.mono (by decide)) (@pa_cons _ _ _ _ _ (@pe_ix _ _ _ _ _ _ (rIxT K) ix_tup (pv 3) pe_int (fun _ _ => rfl)) (@pa_cons _ _ _ _ _ (@pe_ix _ _ _ _ _ _ (rIxT K) ix_tup (pv 3) pe_int (fun _ _ => rfl)) pa_nil rfl) rfl) (by rfl) (by decide) (by rfl) (by rfl)) (@pa_cons _ _ _ _ _ (@pe_callC _ _ _ _ _ _ _ _ _ _ c__law_peeled (hr.mono (by decide)) (@pa_cons _ _ _ _ _ (@pe_ix _ _ _ _ _ _ (rIxT K) ix_tup (pv 0) pe_int (fun _ _ => rfl)) (@pa_cons _ _ _ _ _ (pv 1) pa_nil rfl) rfl) (by rfl) (by decide) (by rfl) (by rfl)) pa_nil rfl) rfl) (by rfl) (by decide) (by rfl) (by rfl)) (by rfl) (by first | exact .inl rfl | exact .inr rfl | assumption))) pss_nil) (@pss_one _ _ _ (@ps_ret _ _ _ _ (@pe_and _ _ _ _ _ _ _ (pv 4) (@pe_and _ _ _ _ _ _ _ (@pe_cmpR _ _ _ _ _ _ _ _ (op_eqD hr.units) (@pe_ix _ _ _ _ _ _ (rIxT K) ix_tup (pv 3) pe_int (fun _ _ => rfl)) (pv 0) (nomark _)) (@pe_one _ _ _ _ _ (@pe_cmpR _ _ _ _ _ _ _ _ (op_eqD hr.units) (@pe_ix _ _ _ _ _ _ (rIxT K) ix_tup (pv 3) pe_int (fun _ _ => rfl)) (pv 1) (nomark _)))))))))))), ?_⟩
  refine Sv.enterD hlive hds hΦ (ρ := [.d false _, .d false _, .d false _, .no, .no]) rfl ?_
  clear hΦ hds
  have hcl := hN.cl
  have hll := hlot.len60 n60
  generalize htl : (tSeq (tIfS _ _ _) _ : TS) = tl
  refine Sv.seq ?_
  refine Sv.asg ?_
  refine Ev.tup ?_
  refine Av.cons ?_
  refine Ev.callD mono__law_copy ?_
  walk_at "dt"
  refine ⟨rfl, p, n, cs, rfl, by omega, fun f2 => ?_⟩
  walk_at "dt"
  subst htl
  refine Sv.seq ?_
  refine Sv.conseq (fun ρ' => ρ' = [.d false (netD p n cs), .d false (.list (lot.map .int)), .d false (.int way), .d false (.tuple [netD p n cs, .list (lot.map .int)]), .d true (.bool true)]) ?_ ?_
  · refine Sv.ifS ?_
    by_cases c : way = 0
    · walk_at "dt"
      refine Ev.callD mono__law_says ?_
      refine Av.cons ?_
      refine Ev.callD mono_holds_out ?_
      walk_at "dt"
      refine ⟨rfl, p, n, cs, lot, rfl, hN, hlot.nd, hlot.rg, ?_⟩
      refine Av.cons ?_
      refine Ev.callD mono__law_holds ?_
      walk_at "dt"
      refine ⟨rfl, cs, lot, rfl, hpl, by omega, ?_⟩
      walk_at "dt"
      refine ⟨rfl, holdB cs lot, rfl, ?_⟩
      walk_at "dt"
      rfl
    · walk_at "dt"
      rfl
  rintro ρ' rfl
  refine Sv.seq ?_
  refine Sv.conseq (fun ρ' => ρ' = [.d false (netD p n cs), .d false (.list (lot.map .int)), .d false (.int way), .d false (.tuple [netD p n cs, .list (lot.map .int)]), .d true (.bool true)]) ?_ ?_
  · refine Sv.ifS ?_
    by_cases c : way = 1
    · walk_at "dt"
      refine Ev.callD mono__law_says ?_
      refine Av.cons ?_
      refine Ev.callD mono_is_bare ?_
      walk_at "dt"
      refine ⟨rfl, p, n, cs, lot, rfl, hN, hlot, hpl, fun b1 hb1 => ?_⟩
      refine Av.cons ?_
      refine Ev.callD mono__law_bare ?_
      walk_at "dt"
      refine ⟨rfl, cs, lot, rfl, hup, by omega, hpl, fun b2 hb2 => ?_⟩
      have hbb : b1 = b2 := by rw [Bool.eq_iff_iff, hb1, hb2]
      subst hbb
      walk_at "dt"
      refine ⟨rfl, b1, rfl, ?_⟩
      walk_at "dt"
      rfl
    · walk_at "dt"
      rfl
  rintro ρ' rfl
  refine Sv.seq ?_
  refine Sv.conseq (fun ρ' => ρ' = [.d false (netD p n cs), .d false (.list (lot.map .int)), .d false (.int way), .d false (.tuple [netD p n cs, .list (lot.map .int)]), .d true (.bool true)]) ?_ ?_
  · refine Sv.ifS ?_
    by_cases c : way = 2
    · walk_at "dt"
      refine Ev.callD (mono__law_alike 3) ?_
      refine Av.cons ?_
      refine Ev.callD mono_greatest ?_
      walk_at "dt"
      refine ⟨rfl, p, n, cs, lot, rfl, hN, hlot, hpl, fun g1 hg1 => ?_⟩
      refine Av.cons ?_
      refine Ev.callD mono__law_peeled ?_
      walk_at "dt"
      refine ⟨rfl, cs, lot, rfl, hup, by omega, hpl, fun g2 hg2 => ?_⟩
      have hgg : g1 = g2 := hg1.uniq hg2
      subst hgg
      have := (hg1.lot hlot).len60 n60
      walk_at "dt"
      refine ⟨rfl, rowD g1, rfl, alike_row g1 (by omega), ?_⟩
      walk_at "dt"
      rfl
    · walk_at "dt"
      rfl
  rintro ρ' rfl
  walk_at "dt"
  refine ⟨shaped_net1 _ _ _, shaped_net1 _ _ _, ?_⟩
  show ∃ b, PyData.bool ((netD p n cs).eqv (netD p n cs) != false) = PyData.bool b ∧ _
  rw [eqv_refl _ (.inl (shaped_net1 _ _ _))]
  walk_at "dt"
  refine ⟨shaped_ints lot, shaped_ints lot, ?_⟩
  rw [eqv_refl _ (.inl (shaped_ints lot))]
  exact q
theorem scLaw : FnScope ["script", "bag", "way", "first", "large", "n", "lots", "net", "lot", "place", "near", "k"] ["script"] (defScope sLaw) := ⟨rfl, rfl, rfl, by decide +kernel, rfl, by decide +kernel, by decide +kernel⟩
theorem ok_law (F : Fun K "law" "law" sLaw f fd) (c__law_bag : Callee P w K mg base "_law_bag" 1 ["script"] (spBag K)) (c__law_draw : Callee P w K mg base "_law_draw" 1 ["bag", "many"] spDraw) (c__law_lots_net : Callee P w K mg base "_law_lots_net" 3 ["bag", "n", "many", "lots"] (spB 4 F__law_lots_net)) (c__law_lot : Callee P w K mg base "_law_lot" 2 ["bag", "n", "most"] (spB 3 F__law_lot)) (c__law_peeled : Callee P w K mg base "_law_peeled" 1 ["checks", "lot"] (spD 2 F__law_peeled)) (c__law_bared : Callee P w K mg base "_law_bared" 2 ["checks", "lot"] (spD 2 F__law_bared)) (c__law_turned : Callee P w K mg base "_law_turned" 2 ["bag", "row"] (spB 2 F__law_turned)) (c__law_asked : Callee P w K mg base "_law_asked" 4 ["net", "lot", "way"] (spD 3 F__law_asked)) (c__law_without : Callee P w K mg base "_law_without" 1 ["lot", "place"] (spD 2 F__law_without)) (m_sorted : mg "sorted" = none) (m_list : mg "list" = none) (m_range : mg "range" = none) (m_set : mg "set" = none) (m_int : mg "int" = none)  :
    FnOk P w K mg base CX0 5 f fd ["script"] (spLaw K) := by
  refine F.ok scLaw (fun vs H Q E h => ?_) (fun cdv A outer s H vs Q E hr h => ?_)
  · obtain ⟨a, ns, rfl, hS, hl, q⟩ := h
    rfl
  obtain ⟨a, ns, rfl, hS, hl, q⟩ := h
  refine ⟨_, (@pss_cons _ _ _ _ _ (@ps_set _ _ (1) _ _ _ _ scLaw.nd rfl (Or.inr rfl) (@pe_callC _ _ _ _ _ _ _ _ _ _ c__law_bag (hr.mono (by decide)) (@pa_cons _ _ _ _ _ (pv 0) pa_nil rfl) (by rfl) (by decide) (by rfl) (by rfl)) (by rfl) (by first | exact .inl rfl | exact .inr rfl | assumption)) (@pss_cons _ _ _ _ _ (@ps_set _ _ (2) _ _ _ _ scLaw.nd rfl (Or.inl rfl) (@pe_callC _ _ _ _ _ _ _ _ _ _ c__law_draw (hr.mono (by decide)) (@pa_cons _ _ _ _ _ (pv 1) (@pa_cons _ _ _ _ _ pe_int pa_nil rfl) rfl) (by rfl) (by decide) (by rfl) (by rfl)) (by rfl) (by first | exact .inl rfl | exact .inr rfl | assumption)) (@pss_cons _ _ _ _ _ (@ps_set _ _ (3) _ _ _ _ scLaw.nd rfl (Or.inl rfl) (@pe_callC _ _ _ _ _ _ _ _ _ _ c__law_draw (hr.mono (by decide)) (@pa_cons _ _ _ _ _ (pv 1) (@pa_cons _ _ _ _ _ pe_int pa_nil rfl) rfl) (by rfl) (by decide) (by rfl) (by rfl)) (by rfl) (by first | exact .inl rfl | exact .inr rfl | assumption)) (@pss_cons _ _ _ _ _ (@ps_set _ _ (4) _ _ _ _ scLaw.nd rfl (Or.inr rfl) (@pe_op _ _ _ _ _ _ _ _ op_fdivS (@pe_callC _ _ _ _ _ _ _ _ _ _ c__law_draw (hr.mono (by decide)) (@pa_cons _ _ _ _ _ (pv 1) (@pa_cons _ _ _ _ _ pe_int pa_nil rfl) rfl) (by rfl) (by decide) (by rfl) (by rfl)) pe_int) (by rfl) (by first | exact .inl rfl | exact .inr rfl | assumption)) (@pss_cons _ _ _ _ _ (@ps_set _ _ (5) _ _ _ _ scLaw.nd rfl (Or.inr rfl) (@pe_op _ _ _ _ _ _ _ _ op_add pe_int (@pe_callC _ _ _ _ _ _ _ _ _ _ c__law_draw (hr.mono (by decide)) (@pa_cons _ _ _ _ _ (pv 1) (@pa_cons _ _ _ _ _ (@pe_ix _ _ _ _ _ _ (rIxL K) ix_list (@pe_lst _ _ _ _ (@pa_cons _ _ _ _ _ pe_int (@pa_cons _ _ _ _ _ pe_int pa_nil rfl) rfl)) (pv 4) (fun _ _ => rfl)) pa_nil rfl) rfl) (by rfl) (by decide) (by rfl) (by rfl))) (by rfl) (by first | exact .inl rfl | exact .inr rfl | assumption)) (@pss_cons _ _ _ _ _ (ps_setC (i := 6) scLaw.nd rfl rfl (CompOk.of (show compOkB (defScope sLaw) ["script", "bag", "way", "first", "large", "n", "lots", "net", "lot", "place", "near", "k"] _ ["k", "bag", "large", "n"] [none, some 1, some 4, some 5] = true by decide +kernel)) (@pi_range1 _ _ _ _ _ _ rfl m_range (@pa_cons _ _ _ _ _ (@pe_op _ _ _ _ _ _ _ _ op_add pe_int (@pe_callC _ _ _ _ _ _ _ _ _ _ c__law_draw (hr.mono (by decide)) (@pa_cons _ _ _ _ _ (pv 1) (@pa_cons _ _ _ _ _ pe_int pa_nil rfl) rfl) (by rfl) (by decide) (by rfl) (by rfl))) pa_nil rfl) (by rfl)) (fun _ _ _ _ => ⟨(pg_name (i := 0) (by show List.Nodup (["k", "bag", "large", "n"] : List Str); decide +kernel) rfl (Or.inl rfl)), pts_nil, (@pe_callC _ _ _ _ _ _ _ _ _ _ c__law_lot (hr.mono (by decide)) (@pa_cons _ _ _ _ _ (pv 1) (@pa_cons _ _ _ _ _ (pv 3) (@pa_cons _ _ _ _ _ (@pe_op _ _ _ _ _ _ _ _ op_add pe_int (@pe_op _ _ _ _ _ _ _ _ op_mulA pe_int (pv 2))) pa_nil rfl) rfl) rfl) (by rfl) (by decide) (by rfl) (by rfl))⟩)) (@pss_cons _ _ _ _ _ (@ps_set _ _ (7) _ _ _ _ scLaw.nd rfl (Or.inl rfl) (@pe_callC _ _ _ _ _ _ _ _ _ _ c__law_lots_net (hr.mono (by decide)) (@pa_cons _ _ _ _ _ (pv 1) (@pa_cons _ _ _ _ _ (pv 5) (@pa_cons _ _ _ _ _ (@pe_callC _ _ _ _ _ _ _ _ _ _ c__law_draw (hr.mono (by decide)) (@pa_cons _ _ _ _ _ (pv 1) (@pa_cons _ _ _ _ _ (@pe_ix _ _ _ _ _ _ (rIxL K) ix_list (@pe_lst _ _ _ _ (@pa_cons _ _ _ _ _ pe_int (@pa_cons _ _ _ _ _ pe_int pa_nil rfl) rfl)) (pv 4) (fun _ _ => rfl)) pa_nil rfl) rfl) (by rfl) (by decide) (by rfl) (by rfl)) (@pa_cons _ _ _ _ _ (pv 6) pa_nil rfl) rfl) rfl) rfl) (by rfl) (by decide) (by rfl) (by rfl)) (by rfl) (by first | exact .inl rfl | exact .inr rfl | assumption)) (@pss_cons _ _ _ _ _ (@ps_set _ _ (8) _ _ _ _ scLaw.nd rfl (Or.inl rfl) (@pe_ix _ _ _ _ _ _ (rIxL K) ix_list (pv 6) pe_int (fun _ _ => rfl)) (by rfl) (by first | exact .inl rfl | exact .inr rfl | assumption)) (@pss_cons _ _ _ _ _ (@ps_if _ _ _ _ _ _ _ _ (@pt_cmpR _ _ _ _ _ _ _ _ op_eq (pv 2) pe_int (nomark _)) (@pss_one _ _ _ (@ps_set _ _ (8) _ _ _ _ scLaw.nd rfl (Or.inl rfl) (@pe_callB _ _ _ _ _ _ _ _ (rSorted P w) (call_sortM rfl) rfl m_sorted PyProof.Rows.boot_sorted (@pa_cons _ _ _ _ _ (@pe_callTy _ _ _ _ _ _ _ _ (rSetOf P w K) (call_setM rfl) rfl m_set PyProof.Rows.boot_set (@pa_cons _ _ _ _ _ (@pe_op _ _ _ _ _ _ _ _ op_cat (@pe_ix _ _ _ _ _ _ (rIxL K) ix_list (pv 6) pe_int (fun _ _ => rfl)) (@pe_ix _ _ _ _ _ _ (rIxL K) ix_list (pv 6) (@pe_un _ _ _ _ _ _ un_neg pe_int) (fun _ _ => rfl))) pa_nil rfl) (by decide) (by decide) (by rfl) (by rfl)) pa_nil rfl) (by decide) (by decide) (by rfl) (by rfl)) (by rfl) (by first | exact .inl rfl | exact .inr rfl | assumption))) pss_nil) (@pss_cons _ _ _ _ _ (@ps_if _ _ _ _ _ _ _ _ (@pt_cmpR _ _ _ _ _ _ _ _ op_gt (pv 2) pe_int (nomark _)) (@pss_one _ _ _ (@ps_set _ _ (8) _ _ _ _ scLaw.nd rfl (Or.inl rfl) (@pe_callC _ _ _ _ _ _ _ _ _ _ c__law_peeled (hr.mono (by decide)) (@pa_cons _ _ _ _ _ (@pe_ix _ _ _ _ _ _ (rIxT K) ix_tup (pv 7) pe_int (fun _ _ => rfl)) (@pa_cons _ _ _ _ _ (@pe_callTy _ _ _ _ _ _ _ _ _ (call_listR rfl) rfl m_list PyProof.Rows.boot_list (@pa_cons _ _ _ _ _ (@pe_callTy _ _ _ _ _ _ _ _ _ call_rangeM rfl m_range PyProof.Rows.boot_range (@pa_cons _ _ _ _ _ (pv 5) pa_nil rfl) (by decide) (by decide) (by rfl) (by rfl)) pa_nil rfl) (by decide) (by decide) (by rfl) (by rfl)) pa_nil rfl) rfl) (by rfl) (by decide) (by rfl) (by rfl)) (by rfl) (by first | exact .inl rfl | exact .inr rfl | assumption))) pss_nil) (@pss_cons _ _ _ _ _ (@ps_if _ _ _ _ _ _ _ _ (@pt_cmpR _ _ _ _ _ _ _ _ op_eq (pv 2) pe_int (nomark _)) (@pss_one _ _ _ (@ps_set _ _ (8) _ _ _ _ scLaw.nd rfl (Or.inl rfl) (@pe_callC _ _ _ _ _ _ _ _ _ _ c__law_bared (hr.mono (by decide)) (@pa_cons _ _ _ _ _ (@pe_ix _ _ _ _ _ _ (rIxT K) ix_tup (pv 7) pe_int (fun _ _ => rfl)) (@pa_cons _ _ _ _ _ (pv 8) pa_nil rfl) rfl) (by rfl) (by decide) (by rfl) (by rfl)) (by rfl) (by first | exact .inl rfl | exact .inr rfl | assumption))) pss_nil) (@pss_cons _ _ _ _ _ (@ps_for _ _ _ _ _ _ _ _ PassesOwn.never rfl (@pi_list _ _ _ _ (@pe_op _ _ _ _ _ _ _ _ op_cat (@pe_lst _ _ _ _ (@pa_cons _ _ _ _ _ (pv 5) pa_nil rfl)) (@pe_callC _ _ _ _ _ _ _ _ _ _ c__law_turned (hr.mono (by decide)) (@pa_cons _ _ _ _ _ (pv 1) (@pa_cons _ _ _ _ _ (@pe_callTy _ _ _ _ _ _ _ _ _ (call_listR rfl) rfl m_list PyProof.Rows.boot_list (@pa_cons _ _ _ _ _ (@pe_callTy _ _ _ _ _ _ _ _ _ call_rangeM rfl m_range PyProof.Rows.boot_range (@pa_cons _ _ _ _ _ (pv 5) pa_nil rfl) (by decide) (by decide) (by rfl) (by rfl)) pa_nil rfl) (by decide) (by decide) (by rfl) (by rfl)) pa_nil rfl) rfl) (by rfl) (by decide) (by rfl) (by rfl)))) (pg_name (i := 9) scLaw.nd rfl (Or.inl rfl)) (@pss_cons _ _ _ _ _ (@ps_set _ _ (10) _ _ _ _ scLaw.nd rfl (Or.inl rfl) (@pe_callTy _ _ _ _ _ _ _ _ (rListOf K) call_listM rfl m_list PyProof.Rows.boot_list (@pa_cons _ _ _ _ _ (pv 8) pa_nil rfl) (by decide) (by decide) (by rfl) (by rfl)) (by rfl) (by first | exact .inl rfl | exact .inr rfl | assumption)) (@pss_cons _ _ _ _ _ (@ps_if _ _ _ _ _ _ _ _ (@pt_cmpR _ _ _ _ _ _ _ _ op_lt (pv 9) (pv 5) (nomark _)) (@pss_one _ _ _ (@ps_set _ _ (10) _ _ _ _ scLaw.nd rfl (Or.inl rfl) (@pe_callB _ _ _ _ _ _ _ _ (rSortLS K) call_sortLS rfl m_sorted PyProof.Rows.boot_sorted (@pa_cons _ _ _ _ _ (@pe_op _ _ _ _ _ _ _ _ op_cat (@pe_callC _ _ _ _ _ _ _ _ _ _ c__law_without (hr.mono (by decide)) (@pa_cons _ _ _ _ _ (pv 8) (@pa_cons _ _ _ _ _ (pv 9) pa_nil rfl) rfl) (by rfl) (by decide) (by rfl) (by rfl)) (@pe_op _ _ _ _ _ _ _ _ op_rep (@pe_lst _ _ _ _ (@pa_cons _ _ _ _ _ (pv 9) pa_nil rfl)) (@pe_callTy _ _ _ _ _ _ _ _ _ call_intM rfl m_int PyProof.Rows.boot_int (@pa_cons _ _ _ _ _ (pe_cmpR (op_notInK (K := K) (by rfl)) (pv 9) (pv 8) (by with_unfolding_all rfl)) pa_nil rfl) (by decide) (by decide) (by rfl) (by rfl)))) pa_nil rfl) (by decide) (by decide) (by rfl) (by rfl)) (by rfl) (by first | exact .inl rfl | exact .inr rfl | assumption))) pss_nil) (@pss_one _ _ _ (@ps_for _ _ _ _ _ _ _ _ PassesOwn.never rfl (@pi_range1 _ _ _ _ _ _ rfl m_range (@pa_cons _ _ _ _ _ pe_int pa_nil rfl) (by rfl)) (pg_name (i := 11) scLaw.nd rfl (Or.inl rfl)) (@pss_one _ _ _ (@ps_if _ _ _ _ _ _ _ _ (@pt_not _ _ _ _ (@pt_truthK _ (K) _ _ rfl (@pe_callC _ _ _ _ _ _ _ _ _ _ c__law_asked (hr.mono (by decide)) (@pa_cons _ _ _ _ _ (pv 7) (@pa_cons _ _ _ _ _ (pv 10) (@pa_cons _ _ _ _ _ (@pe_op _ _ _ _ _ _ _ _ op_mod (@pe_op _ _ _ _ _ _ _ _ op_add (pv 3) (pv 11)) pe_int) pa_nil rfl) rfl) rfl) (by rfl) (by decide) (by rfl) (by rfl)) (fun _ => rfl))) (@pss_one _ _ _ (@ps_ret _ _ _ _ pe_bl)) pss_nil)) (by intro _; rfl))))) (by intro _; rfl)) (@pss_one _ _ _ (@ps_ret _ _ _ _ pe_bl)))))))))))))), ?_⟩
  walk_at "st"
  refine ⟨a, ns, rfl, hS, hl, fun b l H1 s1 f1 B1 => ?_⟩
  have hS1 := s1.seq hS
  have key : ∀ (t : TS) (D : Ends), (∀ H, D.rt (.bl true) H) → Sv (lawG b l H1) [.raw (.ref a), .bag, .no, .no, .no, .no, .no, .no, .no, .no, .no, .no] t { nx := fun _ => False, rt := fun _ d => d = .bool true } → t D [some (.ref a), some (.ref b), none, none, none, none, none, none, none, none, none, none] H1 := fun t D d2 h => h _ _ _ D (law_wdS (m := 10) B1) (law_endsR d2)
  refine R.gname ?_
  dsimp only
  refine key _ _ (fun H => ?_) ?_
  · exact q _
  walk_at "dt"
  intro way w0 w1
  walk_at "dt"
  intro first i0 i1
  walk_at "dt"
  intro g0 g1 g2
  obtain ⟨lg, elg, lg0, lg1⟩ : ∃ lg : Int, g0 / 7 = lg ∧ 0 ≤ lg ∧ lg ≤ 1 := ⟨_, rfl, by omega, by omega⟩
  walk_at "dt"
  rw [elg]
  obtain ⟨mx, emx, mx1, mx2⟩ := pick (L := [9, 16]) (k := lg) (by omega) (by show lg < 2; omega) (fun x => 1 ≤ x ∧ x ≤ 16) (by decide)
  refine ⟨_, emx, _, rfl, by omega, by unfold Sm; omega, fun n' n1' n2' => ⟨_, rfl, Gv.nameI ?_⟩⟩
  obtain ⟨n, en, n0, n1⟩ : ∃ n : Int, 1 + n' = n ∧ 1 ≤ n ∧ n ≤ 16 := ⟨_, rfl, by omega, by omega⟩
  rw [en]
  refine Sv.seq ?_
  refine Sv.setCF ?_
  refine EvN.ev (EvN.compR1 (by decide) rfl ?_)
  walk_at "dt"
  intro k0 k1 k2
  walk_at "dt"
  refine CompD.rel rowD true (fun _ lot => ((LotOk n lot ∧ lot ≠ []) ∧ lot.Pairwise (· < ·)) ∧ lot.length ≤ 10) ?_ fun lots hll hlo => ?_
  · rintro i d ⟨hi, rfl⟩
    walk_at "dt"
    refine ⟨by walk_at "wk", ?_⟩
    refine Ev.callB mono__law_lot rfl ?_
    walk_at "dt"
    refine ⟨rfl, n, 5 + 5 * lg, rfl, n0, by omega, by omega, by omega, fun rs r0 r9 r1 r2 => ?_⟩
    exact ⟨fun _ => rfl, rs, rfl, ⟨⟨r1, r0⟩, r9⟩, by omega⟩
  have hlo5 : ∀ lot ∈ lots, ((LotOk n lot ∧ lot ≠ []) ∧ lot.Pairwise (· < ·)) ∧ lot.length ≤ 10 := fun lot hlot => by
    obtain ⟨k, hk⟩ := List.getElem?_of_mem hlot
    exact hlo k lot hk
  have hlo : LotsOk n lots := fun lot hlot => (hlo5 lot hlot).1.1
  have hl3 : lots.length ≤ 100 := by omega
  have hl1 : 0 < lots.length := by omega
  obtain ⟨lotL, elotL⟩ : ∃ lotL, lots[lots.length - 1]? = some lotL := ⟨_, List.getElem?_eq_getElem (by omega)⟩
  have hatL : atI (lots.map rowD) (-1) = some (rowD lotL) := atI_end rowD elotL
  obtain ⟨⟨⟨hL1, hL2⟩, hLu⟩, hL3⟩ := hlo5 lotL (List.mem_of_getElem? elotL)
  obtain ⟨lot0, elot0⟩ : ∃ lot0, lots[0]? = some lot0 := ⟨_, List.getElem?_eq_getElem hl1⟩
  have hat0 : atI (lots.map rowD) 0 = some (rowD lot0) := atI_some (by decide) (by rw [List.getElem?_map]; show Option.map rowD lots[0]? = _; rw [elot0]; rfl)
  obtain ⟨⟨⟨h01, h02⟩, h0u⟩, h03⟩ := hlo5 lot0 (List.mem_of_getElem? elot0)
  refine Sv.seq ?_
  refine Sv.asg ?_
  refine Ev.callB mono__law_lots_net rfl ?_
  walk_at "dt"
  obtain ⟨mz, emz, mz1, mz2⟩ := pick (L := [9, 25]) (k := lg) (by omega) (by show lg < 2; omega) (fun x => 1 ≤ x ∧ x ≤ 25) (by decide)
  refine ⟨_, emz, _, rfl, by omega, by unfold Sm; omega, fun many m0 m1 => ?_⟩
  walk_at "dt"
  refine ⟨rfl, n, many, lots, rfl, n0, by omega, m0, by omega, hlo, hl3, fun p cs hp hcs hcl hho => ?_⟩
  refine Gv.nameF ?_
  have hcl9 : cs.length ≤ 40 := by omega
  have hpl : ∀ prs ∈ cs, prs.length ≤ 40 := fun prs hp => by
    have := (hcs prs hp).lenN
    rw [List.length_map] at this
    omega
  have hN : LotNet n cs := hcs.lot n0 (by omega) (by omega) (by
    have := tot_mul hpl
    have h2 : cs.length * 40 ≤ 40 * 40 := Nat.mul_le_mul_right _ hcl9
    omega)
  have hplb : ∀ prs ∈ cs, prs.length ≤ 10000 := fun u hu => by have := hpl u hu; omega
  refine Sv.seq ?_
  refine Sv.asg ?_
  refine Ev.ixL ?_
  refine Ev.var rfl ?_
  refine ⟨_, rfl, ?_⟩
  refine Ev.int ?_
  refine ⟨0, rfl, _, hat0, ?_⟩
  refine Gv.nameF ?_
  refine Sv.seq ?_
  refine Sv.conseq (fun ρ' => ∃ (ls : List Int) (f : Bool), (LotOk n ls ∧ ls.Pairwise (· < ·)) ∧ ρ' = [.raw (.ref a), .bag, .d true (.int way), .d true (.int first), .d true (.int lg), .d true (.int n), .d false (.list (lots.map rowD)), .d false (netD p n cs), .d f (.list (ls.map .int)), .no, .no, .no]) ?_ ?_
  · refine Sv.ifS ?_
    by_cases c : way = 1
    · walk_at "dt"
      refine EvN.ev (EvN.sortedSet ?_)
      walk_at "dt"
      refine ⟨by rw [List.length_map, List.length_map]; omega, lot0 ++ lotL, by rw [List.map_append], by rw [List.length_append]; omega, fun rs hrs hmem => ?_⟩
      refine Gv.nameF ?_
      refine ⟨rs, _, ⟨⟨hrs.imp fun h => by omega, fun x hx => ?_⟩, hrs⟩, rfl⟩
      rcases List.mem_append.mp ((hmem x).mp hx) with h | h
      · exact h01.rg x h
      · exact hL1.rg x h
    · walk_at "dt"
      exact ⟨lot0, _, ⟨h01, h0u⟩, rfl⟩
  rintro ρ' ⟨ls, f, ⟨hok, hup⟩, rfl⟩
  refine Sv.seq ?_
  refine Sv.conseq (fun ρ' => ∃ (ls : List Int) (f : Bool), (LotOk n ls ∧ ls.Pairwise (· < ·)) ∧ ρ' = [.raw (.ref a), .bag, .d true (.int way), .d true (.int first), .d true (.int lg), .d true (.int n), .d false (.list (lots.map rowD)), .d false (netD p n cs), .d f (.list (ls.map .int)), .no, .no, .no]) ?_ ?_
  · refine Sv.ifS ?_
    by_cases c : 1 < way
    · walk_at "dt"
      refine Ev.callD mono__law_peeled ?_
      refine Av.cons ?_
      walk_at "dt"
      refine EvN.ev (EvN.listRange ?_)
      walk_at "dt"
      have hru : ((List.range n.toNat).map fun (i : Nat) => 0 + (i : Int)).Pairwise (· < ·) := by
        rw [List.pairwise_map]
        exact List.pairwise_lt_range.imp fun h => by omega
      refine ⟨rfl, cs, (List.range n.toNat).map fun (i : Nat) => 0 + (i : Int), rfl, hru, by rw [List.length_map, List.length_range]; omega, hplb, fun g hg => ?_⟩
      refine Gv.nameF ?_
      exact ⟨g, _, ⟨hg.lot (LotOk.range0 (by omega)), hg.up hru⟩, rfl⟩
    · walk_at "dt"
      exact ⟨ls, _, ⟨hok, hup⟩, rfl⟩
  rintro ρ' ⟨ls, f, ⟨hok, hup⟩, rfl⟩
  refine Sv.seq ?_
  refine Sv.conseq (fun ρ' => ∃ (ls : List Int) (f : Bool), (LotOk n ls ∧ ls.Pairwise (· < ·)) ∧ ρ' = [.raw (.ref a), .bag, .d true (.int way), .d true (.int first), .d true (.int lg), .d true (.int n), .d false (.list (lots.map rowD)), .d false (netD p n cs), .d f (.list (ls.map .int)), .no, .no, .no]) ?_ ?_
  · refine Sv.ifS ?_
    by_cases c : way = 3
    · have hll := hok.lenN
      walk_at "dt"
      refine Ev.callD mono__law_bared ?_
      walk_at "dt"
      refine ⟨rfl, cs, ls, rfl, hup, by omega, hplb, fun m ⟨qm, em⟩ => ?_⟩
      refine Gv.nameF ?_
      exact ⟨m, _, ⟨by rw [em]; exact hok.filter _, by rw [em]; exact hup.filter _⟩, rfl⟩
    · walk_at "dt"
      exact ⟨ls, _, ⟨hok, hup⟩, rfl⟩
  rintro ρ' ⟨ls, f, ⟨hok, hup⟩, rfl⟩
  have hll := hok.lenN
  have hlm : (ls.map PyData.int).length = ls.length := List.length_map ..
  refine Sv.seq ?_
  refine Sv.forL ?_
  refine Ev.cat ?_
  walk_at "dt"
  refine Ev.callB mono__law_turned rfl ?_
  refine Av.cons ?_
  refine EvN.ev (EvN.listRange ?_)
  walk_at "dt"
  refine ⟨rfl, _, rfl, by rw [List.length_map, List.length_map, List.length_range]; omega, fun fr rs hperm => ?_⟩
  have hrl := hperm.length_eq
  rw [List.length_map, List.length_map, List.length_range] at hrl
  have hrs : ∀ d ∈ rs, ∃ x : Int, d = .int x ∧ 0 ≤ x := fun d hd => by
    obtain ⟨x, hx, rfl⟩ := List.mem_map.mp (hperm.mem_iff.mp hd)
    obtain ⟨k, _, rfl⟩ := List.mem_map.mp hx
    exact ⟨_, rfl, by omega⟩
  refine ⟨_, rfl, by rw [hrl]; show 1 + n.toNat ≤ 10000; omega, _, rfl, fun v => ?_⟩
  refine ⟨fun i ρ => ∃ (x9 x10 x11 : Sl), ρ = [.raw (.ref a), .bag, .d true (.int way), .d true (.int first), .d true (.int lg), .d true (.int n), .d false (.list (lots.map rowD)), .d false (netD p n cs), .d f (.list (ls.map .int)), x9, x10, x11], ⟨_, _, _, rfl⟩, ?_, ?_⟩
  rotate_left
  · rintro ρ ⟨x9, x10, x11, rfl⟩
    walk_at "dt"
    rfl
  rintro i d ρ hd ⟨x9, x10, x11, rfl⟩
  obtain ⟨place, rfl, p0⟩ : ∃ x : Int, d = .int x ∧ 0 ≤ x := by
    have := List.mem_of_getElem? hd
    rcases List.mem_append.mp this with h | h
    · rw [List.mem_singleton.mp h]; exact ⟨n, rfl, by omega⟩
    · exact hrs d h
  refine Gv.nameI ?_
  refine Sv.seq ?_
  refine Sv.asg ?_
  refine Ev.listOf ?_
  refine Ev.var rfl ?_
  refine ⟨_, .inl rfl, ?_⟩
  refine Gv.nameF ?_
  refine Sv.seq ?_
  refine Sv.conseq (fun ρ' => ∃ (ms : List Int) (f2 : Bool), (LotOk n ms ∧ ms.Pairwise (· < ·)) ∧ ρ' = [.raw (.ref a), .bag, .d true (.int way), .d true (.int first), .d true (.int lg), .d true (.int n), .d false (.list (lots.map rowD)), .d false (netD p n cs), .d f (.list (ls.map .int)), .d true (.int place), .d f2 (.list (ms.map .int)), x11]) ?_ ?_
  · refine Sv.ifS ?_
    by_cases c : place < n
    · walk_at "dt"
      refine EvN.ev (EvN.sortLS ?_)
      refine Ev.cat ?_
      refine Ev.callD mono__law_without ?_
      walk_at "dt"
      refine ⟨rfl, ls, place, rfl, by omega, ?_⟩
      have hfl : (ls.filter fun x => decide (x ≠ place)).length ≤ ls.length := List.length_filter_le _ _
      refine ⟨_, rfl, ?_⟩
      refine EvN.ev (EvN.repD ?_)
      walk_at "dt"
      refine ⟨ls, rfl, ?_⟩
      by_cases ci : place ∈ ls
      · refine ⟨false, by simp [ci], 0, rfl, by omega, by omega, fun g => ⟨[], rfl, by rw [List.length_map, List.length_nil]; omega, ?_⟩⟩
        refine ⟨ls.filter fun x => decide (x ≠ place), by rw [List.append_nil], by omega, fun rs hp hs => ?_⟩
        refine Gv.nameF ?_
        rw [sorted_is (hup.filter _) hs hp]
        exact ⟨_, _, ⟨hok.filter _, hup.filter _⟩, rfl⟩
      · refine ⟨true, by simp [ci], 1, rfl, by omega, by omega, fun g => ⟨[.int place], rfl, by rw [List.length_map, List.length_singleton]; omega, ?_⟩⟩
        refine ⟨(ls.filter fun x => decide (x ≠ place)) ++ [place], by rw [List.map_append]; rfl, by rw [List.length_append, List.length_singleton]; omega, fun rs hp hs => ?_⟩
        refine Gv.nameF ?_
        have hL := (hok.filter fun x => decide (x ≠ place)).snoc (x := place) (by simp) p0 c
        have hR := hL.perm hp
        have hlt : rs.Pairwise (· < ·) := (hs.and hR.nd).imp fun ⟨h1, h2⟩ => by omega
        exact ⟨rs, _, ⟨hR, hlt⟩, rfl⟩
    · walk_at "dt"
      exact ⟨ls, _, ⟨hok, hup⟩, rfl⟩
  rintro ρ' ⟨ms, f2, ⟨hmk, hmu⟩, rfl⟩
  refine Sv.forR1 ?_
  walk_at "dt"
  refine ⟨fun k ρ => ∃ (x11 : Sl), ρ = [.raw (.ref a), .bag, .d true (.int way), .d true (.int first), .d true (.int lg), .d true (.int n), .d false (.list (lots.map rowD)), .d false (netD p n cs), .d f (.list (ls.map .int)), .d true (.int place), .d f2 (.list (ms.map .int)), x11], ⟨_, rfl⟩, ?_, ?_⟩
  · rintro k d ρ ⟨hk, rfl⟩ ⟨x11, rfl⟩
    refine Gv.nameI ?_
    refine Sv.ifS ?_
    refine Tv.not ?_
    refine Tv.truB ?_
    refine Ev.callD mono__law_asked ?_
    walk_at "dt"
    refine ⟨rfl, p, n, _, cs, ms, rfl, hN, by omega, hmk, hmu, hplb, ?_⟩
    walk_at "dt"
    exact ⟨_, rfl⟩
  · rintro ρ ⟨x11, rfl⟩
    exact ⟨_, _, _, rfl⟩
end
theorem all_mk {l : PySem.W.OpenLaw} {w : World} {K : PySem.W.Frag} {h : Heap} {mg : Str → Option Value} {fa : Addr} {f0 f1 f2 f3 f4 f5 f6 f7 f8 f9 f10 f11 f12 f13 f14 f15 f16 f17 f18 f19 f20 f21 f22 f23 f24 f25 f26 f27 : Addr} (X : K.In h) (G : h.Ns mainGlobals mg) (hfa : mg "law" = some (.ref fa))
    {od0 an0 : Option Addr} {sl0 : Array (Option Value)} {oc0 kV0 dc0 pm0 cd0 ct0 : Value} {od1 an1 : Option Addr} {sl1 : Array (Option Value)} {oc1 kV1 dc1 pm1 cd1 ct1 : Value} {od2 an2 : Option Addr} {sl2 : Array (Option Value)} {oc2 kV2 dc2 pm2 cd2 ct2 : Value} {od3 an3 : Option Addr} {sl3 : Array (Option Value)} {oc3 kV3 dc3 pm3 cd3 ct3 : Value} {od4 an4 : Option Addr} {sl4 : Array (Option Value)} {oc4 kV4 dc4 pm4 cd4 ct4 : Value} {od5 an5 : Option Addr} {sl5 : Array (Option Value)} {oc5 kV5 dc5 pm5 cd5 ct5 : Value} {od6 an6 : Option Addr} {sl6 : Array (Option Value)} {oc6 kV6 dc6 pm6 cd6 ct6 : Value} {od7 an7 : Option Addr} {sl7 : Array (Option Value)} {oc7 kV7 dc7 pm7 cd7 ct7 : Value} {od8 an8 : Option Addr} {sl8 : Array (Option Value)} {oc8 kV8 dc8 pm8 cd8 ct8 : Value} {od9 an9 : Option Addr} {sl9 : Array (Option Value)} {oc9 kV9 dc9 pm9 cd9 ct9 : Value} {od10 an10 : Option Addr} {sl10 : Array (Option Value)} {oc10 kV10 dc10 pm10 cd10 ct10 : Value} {od11 an11 : Option Addr} {sl11 : Array (Option Value)} {oc11 kV11 dc11 pm11 cd11 ct11 : Value} {od12 an12 : Option Addr} {sl12 : Array (Option Value)} {oc12 kV12 dc12 pm12 cd12 ct12 : Value} {od13 an13 : Option Addr} {sl13 : Array (Option Value)} {oc13 kV13 dc13 pm13 cd13 ct13 : Value} {od14 an14 : Option Addr} {sl14 : Array (Option Value)} {oc14 kV14 dc14 pm14 cd14 ct14 : Value} {od15 an15 : Option Addr} {sl15 : Array (Option Value)} {oc15 kV15 dc15 pm15 cd15 ct15 : Value} {od16 an16 : Option Addr} {sl16 : Array (Option Value)} {oc16 kV16 dc16 pm16 cd16 ct16 : Value} {od17 an17 : Option Addr} {sl17 : Array (Option Value)} {oc17 kV17 dc17 pm17 cd17 ct17 : Value} {od18 an18 : Option Addr} {sl18 : Array (Option Value)} {oc18 kV18 dc18 pm18 cd18 ct18 : Value} {od19 an19 : Option Addr} {sl19 : Array (Option Value)} {oc19 kV19 dc19 pm19 cd19 ct19 : Value} {od20 an20 : Option Addr} {sl20 : Array (Option Value)} {oc20 kV20 dc20 pm20 cd20 ct20 : Value} {od21 an21 : Option Addr} {sl21 : Array (Option Value)} {oc21 kV21 dc21 pm21 cd21 ct21 : Value} {od22 an22 : Option Addr} {sl22 : Array (Option Value)} {oc22 kV22 dc22 pm22 cd22 ct22 : Value} {od23 an23 : Option Addr} {sl23 : Array (Option Value)} {oc23 kV23 dc23 pm23 cd23 ct23 : Value} {od24 an24 : Option Addr} {sl24 : Array (Option Value)} {oc24 kV24 dc24 pm24 cd24 ct24 : Value} {od25 an25 : Option Addr} {sl25 : Array (Option Value)} {oc25 kV25 dc25 pm25 cd25 ct25 : Value} {od26 an26 : Option Addr} {sl26 : Array (Option Value)} {oc26 kV26 dc26 pm26 cd26 ct26 : Value} {od27 an27 : Option Addr} {sl27 : Array (Option Value)} {oc27 kV27 dc27 pm27 cd27 ct27 : Value}
    (a0 : PySem.W.nsIn K mainGlobals "seats" = some (some (.ref f0))) (l0 : K.lookup f0 = some ⟨oc0, od0, .func (PySem.W.fnOf "seats" "seats" (defArgs sSeats) (defBody sSeats) (defScope sSeats) .none kV0 dc0 pm0 an0 cd0 ct0), sl0⟩) (c0 : PySem.W.codeIn K cd0 "seats" = true) (k0 : PySem.W.keepIn K (.ref f0) = true)
    (a1 : PySem.W.nsIn K mainGlobals "holds_out" = some (some (.ref f1))) (l1 : K.lookup f1 = some ⟨oc1, od1, .func (PySem.W.fnOf "holds_out" "holds_out" (defArgs sHoldsOut) (defBody sHoldsOut) (defScope sHoldsOut) .none kV1 dc1 pm1 an1 cd1 ct1), sl1⟩) (c1 : PySem.W.codeIn K cd1 "holds_out" = true) (k1 : PySem.W.keepIn K (.ref f1) = true)
    (a2 : PySem.W.nsIn K mainGlobals "stands" = some (some (.ref f2))) (l2 : K.lookup f2 = some ⟨oc2, od2, .func (PySem.W.fnOf "stands" "stands" (defArgs sStands) (defBody sStands) (defScope sStands) .none kV2 dc2 pm2 an2 cd2 ct2), sl2⟩) (c2 : PySem.W.codeIn K cd2 "stands" = true) (k2 : PySem.W.keepIn K (.ref f2) = true)
    (a3 : PySem.W.nsIn K mainGlobals "greatest" = some (some (.ref f3))) (l3 : K.lookup f3 = some ⟨oc3, od3, .func (PySem.W.fnOf "greatest" "greatest" (defArgs sGreatest) (defBody sGreatest) (defScope sGreatest) .none kV3 dc3 pm3 an3 cd3 ct3), sl3⟩) (c3 : PySem.W.codeIn K cd3 "greatest" = true) (k3 : PySem.W.keepIn K (.ref f3) = true)
    (a4 : PySem.W.nsIn K mainGlobals "inside_of" = some (some (.ref f4))) (l4 : K.lookup f4 = some ⟨oc4, od4, .func (PySem.W.fnOf "inside_of" "inside_of" (defArgs sInsideOf) (defBody sInsideOf) (defScope sInsideOf) .none kV4 dc4 pm4 an4 cd4 ct4), sl4⟩) (c4 : PySem.W.codeIn K cd4 "inside_of" = true) (k4 : PySem.W.keepIn K (.ref f4) = true)
    (a5 : PySem.W.nsIn K mainGlobals "is_bare" = some (some (.ref f5))) (l5 : K.lookup f5 = some ⟨oc5, od5, .func (PySem.W.fnOf "is_bare" "is_bare" (defArgs sIsBare) (defBody sIsBare) (defScope sIsBare) .none kV5 dc5 pm5 an5 cd5 ct5), sl5⟩) (c5 : PySem.W.codeIn K cd5 "is_bare" = true) (k5 : PySem.W.keepIn K (.ref f5) = true)
    (a6 : PySem.W.nsIn K mainGlobals "without" = some (some (.ref f6))) (l6 : K.lookup f6 = some ⟨oc6, od6, .func (PySem.W.fnOf "without" "without" (defArgs sWithout) (defBody sWithout) (defScope sWithout) .none kV6 dc6 pm6 an6 cd6 ct6), sl6⟩) (c6 : PySem.W.codeIn K cd6 "without" = true) (k6 : PySem.W.keepIn K (.ref f6) = true)
    (a7 : PySem.W.nsIn K mainGlobals "_law_bag" = some (some (.ref f7))) (l7 : K.lookup f7 = some ⟨oc7, od7, .func (PySem.W.fnOf "_law_bag" "_law_bag" (defArgs sLawBag) (defBody sLawBag) (defScope sLawBag) .none kV7 dc7 pm7 an7 cd7 ct7), sl7⟩) (c7 : PySem.W.codeIn K cd7 "_law_bag" = true) (k7 : PySem.W.keepIn K (.ref f7) = true)
    (a8 : PySem.W.nsIn K mainGlobals "_law_draw" = some (some (.ref f8))) (l8 : K.lookup f8 = some ⟨oc8, od8, .func (PySem.W.fnOf "_law_draw" "_law_draw" (defArgs sLawDraw) (defBody sLawDraw) (defScope sLawDraw) .none kV8 dc8 pm8 an8 cd8 ct8), sl8⟩) (c8 : PySem.W.codeIn K cd8 "_law_draw" = true) (k8 : PySem.W.keepIn K (.ref f8) = true)
    (a9 : PySem.W.nsIn K mainGlobals "_law_prime_from" = some (some (.ref f9))) (l9 : K.lookup f9 = some ⟨oc9, od9, .func (PySem.W.fnOf "_law_prime_from" "_law_prime_from" (defArgs sLawPrimeFrom) (defBody sLawPrimeFrom) (defScope sLawPrimeFrom) .none kV9 dc9 pm9 an9 cd9 ct9), sl9⟩) (c9 : PySem.W.codeIn K cd9 "_law_prime_from" = true) (k9 : PySem.W.keepIn K (.ref f9) = true)
    (a10 : PySem.W.nsIn K mainGlobals "_law_prime" = some (some (.ref f10))) (l10 : K.lookup f10 = some ⟨oc10, od10, .func (PySem.W.fnOf "_law_prime" "_law_prime" (defArgs sLawPrime) (defBody sLawPrime) (defScope sLawPrime) .none kV10 dc10 pm10 an10 cd10 ct10), sl10⟩) (c10 : PySem.W.codeIn K cd10 "_law_prime" = true) (k10 : PySem.W.keepIn K (.ref f10) = true)
    (a11 : PySem.W.nsIn K mainGlobals "_law_factor" = some (some (.ref f11))) (l11 : K.lookup f11 = some ⟨oc11, od11, .func (PySem.W.fnOf "_law_factor" "_law_factor" (defArgs sLawFactor) (defBody sLawFactor) (defScope sLawFactor) .none kV11 dc11 pm11 an11 cd11 ct11), sl11⟩) (c11 : PySem.W.codeIn K cd11 "_law_factor" = true) (k11 : PySem.W.keepIn K (.ref f11) = true)
    (a12 : PySem.W.nsIn K mainGlobals "_law_places" = some (some (.ref f12))) (l12 : K.lookup f12 = some ⟨oc12, od12, .func (PySem.W.fnOf "_law_places" "_law_places" (defArgs sLawPlaces) (defBody sLawPlaces) (defScope sLawPlaces) .none kV12 dc12 pm12 an12 cd12 ct12), sl12⟩) (c12 : PySem.W.codeIn K cd12 "_law_places" = true) (k12 : PySem.W.keepIn K (.ref f12) = true)
    (a13 : PySem.W.nsIn K mainGlobals "_law_just_one" = some (some (.ref f13))) (l13 : K.lookup f13 = some ⟨oc13, od13, .func (PySem.W.fnOf "_law_just_one" "_law_just_one" (defArgs sLawJustOne) (defBody sLawJustOne) (defScope sLawJustOne) .none kV13 dc13 pm13 an13 cd13 ct13), sl13⟩) (c13 : PySem.W.codeIn K cd13 "_law_just_one" = true) (k13 : PySem.W.keepIn K (.ref f13) = true)
    (a14 : PySem.W.nsIn K mainGlobals "_law_holds" = some (some (.ref f14))) (l14 : K.lookup f14 = some ⟨oc14, od14, .func (PySem.W.fnOf "_law_holds" "_law_holds" (defArgs sLawHolds) (defBody sLawHolds) (defScope sLawHolds) .none kV14 dc14 pm14 an14 cd14 ct14), sl14⟩) (c14 : PySem.W.codeIn K cd14 "_law_holds" = true) (k14 : PySem.W.keepIn K (.ref f14) = true)
    (a15 : PySem.W.nsIn K mainGlobals "_law_lot" = some (some (.ref f15))) (l15 : K.lookup f15 = some ⟨oc15, od15, .func (PySem.W.fnOf "_law_lot" "_law_lot" (defArgs sLawLot) (defBody sLawLot) (defScope sLawLot) .none kV15 dc15 pm15 an15 cd15 ct15), sl15⟩) (c15 : PySem.W.codeIn K cd15 "_law_lot" = true) (k15 : PySem.W.keepIn K (.ref f15) = true)
    (a16 : PySem.W.nsIn K mainGlobals "_law_with_more" = some (some (.ref f16))) (l16 : K.lookup f16 = some ⟨oc16, od16, .func (PySem.W.fnOf "_law_with_more" "_law_with_more" (defArgs sLawWithMore) (defBody sLawWithMore) (defScope sLawWithMore) .none kV16 dc16 pm16 an16 cd16 ct16), sl16⟩) (c16 : PySem.W.codeIn K cd16 "_law_with_more" = true) (k16 : PySem.W.keepIn K (.ref f16) = true)
    (a17 : PySem.W.nsIn K mainGlobals "_law_lots_net" = some (some (.ref f17))) (l17 : K.lookup f17 = some ⟨oc17, od17, .func (PySem.W.fnOf "_law_lots_net" "_law_lots_net" (defArgs sLawLotsNet) (defBody sLawLotsNet) (defScope sLawLotsNet) .none kV17 dc17 pm17 an17 cd17 ct17), sl17⟩) (c17 : PySem.W.codeIn K cd17 "_law_lots_net" = true) (k17 : PySem.W.keepIn K (.ref f17) = true)
    (a18 : PySem.W.nsIn K mainGlobals "_law_peeled" = some (some (.ref f18))) (l18 : K.lookup f18 = some ⟨oc18, od18, .func (PySem.W.fnOf "_law_peeled" "_law_peeled" (defArgs sLawPeeled) (defBody sLawPeeled) (defScope sLawPeeled) .none kV18 dc18 pm18 an18 cd18 ct18), sl18⟩) (c18 : PySem.W.codeIn K cd18 "_law_peeled" = true) (k18 : PySem.W.keepIn K (.ref f18) = true)
    (a19 : PySem.W.nsIn K mainGlobals "_law_turned" = some (some (.ref f19))) (l19 : K.lookup f19 = some ⟨oc19, od19, .func (PySem.W.fnOf "_law_turned" "_law_turned" (defArgs sLawTurned) (defBody sLawTurned) (defScope sLawTurned) .none kV19 dc19 pm19 an19 cd19 ct19), sl19⟩) (c19 : PySem.W.codeIn K cd19 "_law_turned" = true) (k19 : PySem.W.keepIn K (.ref f19) = true)
    (a20 : PySem.W.nsIn K mainGlobals "_law_copy" = some (some (.ref f20))) (l20 : K.lookup f20 = some ⟨oc20, od20, .func (PySem.W.fnOf "_law_copy" "_law_copy" (defArgs sLawCopy) (defBody sLawCopy) (defScope sLawCopy) .none kV20 dc20 pm20 an20 cd20 ct20), sl20⟩) (c20 : PySem.W.codeIn K cd20 "_law_copy" = true) (k20 : PySem.W.keepIn K (.ref f20) = true)
    (a21 : PySem.W.nsIn K mainGlobals "_law_alike" = some (some (.ref f21))) (l21 : K.lookup f21 = some ⟨oc21, od21, .func (PySem.W.fnOf "_law_alike" "_law_alike" (defArgs sLawAlike) (defBody sLawAlike) (defScope sLawAlike) .none kV21 dc21 pm21 an21 cd21 ct21), sl21⟩) (c21 : PySem.W.codeIn K cd21 "_law_alike" = true) (k21 : PySem.W.keepIn K (.ref f21) = true)
    (a22 : PySem.W.nsIn K mainGlobals "_law_says" = some (some (.ref f22))) (l22 : K.lookup f22 = some ⟨oc22, od22, .func (PySem.W.fnOf "_law_says" "_law_says" (defArgs sLawSays) (defBody sLawSays) (defScope sLawSays) .none kV22 dc22 pm22 an22 cd22 ct22), sl22⟩) (c22 : PySem.W.codeIn K cd22 "_law_says" = true) (k22 : PySem.W.keepIn K (.ref f22) = true)
    (a23 : PySem.W.nsIn K mainGlobals "_law_without" = some (some (.ref f23))) (l23 : K.lookup f23 = some ⟨oc23, od23, .func (PySem.W.fnOf "_law_without" "_law_without" (defArgs sLawWithout) (defBody sLawWithout) (defScope sLawWithout) .none kV23 dc23 pm23 an23 cd23 ct23), sl23⟩) (c23 : PySem.W.codeIn K cd23 "_law_without" = true) (k23 : PySem.W.keepIn K (.ref f23) = true)
    (a24 : PySem.W.nsIn K mainGlobals "_law_bare" = some (some (.ref f24))) (l24 : K.lookup f24 = some ⟨oc24, od24, .func (PySem.W.fnOf "_law_bare" "_law_bare" (defArgs sLawBare) (defBody sLawBare) (defScope sLawBare) .none kV24 dc24 pm24 an24 cd24 ct24), sl24⟩) (c24 : PySem.W.codeIn K cd24 "_law_bare" = true) (k24 : PySem.W.keepIn K (.ref f24) = true)
    (a25 : PySem.W.nsIn K mainGlobals "_law_bared" = some (some (.ref f25))) (l25 : K.lookup f25 = some ⟨oc25, od25, .func (PySem.W.fnOf "_law_bared" "_law_bared" (defArgs sLawBared) (defBody sLawBared) (defScope sLawBared) .none kV25 dc25 pm25 an25 cd25 ct25), sl25⟩) (c25 : PySem.W.codeIn K cd25 "_law_bared" = true) (k25 : PySem.W.keepIn K (.ref f25) = true)
    (a26 : PySem.W.nsIn K mainGlobals "_law_asked" = some (some (.ref f26))) (l26 : K.lookup f26 = some ⟨oc26, od26, .func (PySem.W.fnOf "_law_asked" "_law_asked" (defArgs sLawAsked) (defBody sLawAsked) (defScope sLawAsked) .none kV26 dc26 pm26 an26 cd26 ct26), sl26⟩) (c26 : PySem.W.codeIn K cd26 "_law_asked" = true) (k26 : PySem.W.keepIn K (.ref f26) = true)
    (a27 : PySem.W.nsIn K mainGlobals "law" = some (some (.ref f27))) (l27 : K.lookup f27 = some ⟨oc27, od27, .func (PySem.W.fnOf "law" "law" (defArgs sLaw) (defBody sLaw) (defScope sLaw) .none kV27 dc27 pm27 an27 cd27 ct27), sl27⟩) (c27 : PySem.W.codeIn K cd27 "law" = true) (k27 : PySem.W.keepIn K (.ref f27) = true)
    (z_abs : PySem.W.nsIn K mainGlobals "abs" = some none)
    (z_all : PySem.W.nsIn K mainGlobals "all" = some none)
    (z_bool : PySem.W.nsIn K mainGlobals "bool" = some none)
    (z_dict : PySem.W.nsIn K mainGlobals "dict" = some none)
    (z_enumerate : PySem.W.nsIn K mainGlobals "enumerate" = some none)
    (z_int : PySem.W.nsIn K mainGlobals "int" = some none)
    (z_isinstance : PySem.W.nsIn K mainGlobals "isinstance" = some none)
    (z_len : PySem.W.nsIn K mainGlobals "len" = some none)
    (z_list : PySem.W.nsIn K mainGlobals "list" = some none)
    (z_range : PySem.W.nsIn K mainGlobals "range" = some none)
    (z_set : PySem.W.nsIn K mainGlobals "set" = some none)
    (z_sorted : PySem.W.nsIn K mainGlobals "sorted" = some none)
    (z_str : PySem.W.nsIn K mainGlobals "str" = some none)
    (z_tuple : PySem.W.nsIn K mainGlobals "tuple" = some none)
    : ∃ fd : FuncData, (∀ (s : Shared) (v : Value), BindsTo s fd ⟨[v], []⟩ [("script", v)]) ∧ ∀ base : Heap, K.In base → base.Ns mainGlobals mg → FnOk l.prog w K mg base CX0 5 fa fd ["script"] (spLaw K) := by
  have e := hfa.symm.trans (PySem.W.mg_of X G a27)
  cases e
  have F0 := fun_mk (st := sSeats) l0 c0 k0
  have b0 := F0.binds (ps := ["net"]) fun _ _ _ _ _ _ us hl => match us, hl with | [_], _ => rfl
  have F1 := fun_mk (st := sHoldsOut) l1 c1 k1
  have b1 := F1.binds (ps := ["net", "lot"]) fun _ _ _ _ _ _ us hl => match us, hl with | [_, _], _ => rfl
  have F2 := fun_mk (st := sStands) l2 c2 k2
  have b2 := F2.binds (ps := ["seated", "lot"]) fun _ _ _ _ _ _ us hl => match us, hl with | [_, _], _ => rfl
  have F3 := fun_mk (st := sGreatest) l3 c3 k3
  have b3 := F3.binds (ps := ["net", "lot"]) fun _ _ _ _ _ _ us hl => match us, hl with | [_, _], _ => rfl
  have F4 := fun_mk (st := sInsideOf) l4 c4 k4
  have b4 := F4.binds (ps := ["pairs", "inside"]) fun _ _ _ _ _ _ us hl => match us, hl with | [_, _], _ => rfl
  have F5 := fun_mk (st := sIsBare) l5 c5 k5
  have b5 := F5.binds (ps := ["net", "lot"]) fun _ _ _ _ _ _ us hl => match us, hl with | [_, _], _ => rfl
  have F6 := fun_mk (st := sWithout) l6 c6 k6
  have b6 := F6.binds (ps := ["lot", "place"]) fun _ _ _ _ _ _ us hl => match us, hl with | [_, _], _ => rfl
  have F7 := fun_mk (st := sLawBag) l7 c7 k7
  have b7 := F7.binds (ps := ["script"]) fun _ _ _ _ _ _ us hl => match us, hl with | [_], _ => rfl
  have F8 := fun_mk (st := sLawDraw) l8 c8 k8
  have b8 := F8.binds (ps := ["bag", "many"]) fun _ _ _ _ _ _ us hl => match us, hl with | [_, _], _ => rfl
  have F9 := fun_mk (st := sLawPrimeFrom) l9 c9 k9
  have b9 := F9.binds (ps := ["number"]) fun _ _ _ _ _ _ us hl => match us, hl with | [_], _ => rfl
  have F10 := fun_mk (st := sLawPrime) l10 c10 k10
  have b10 := F10.binds (ps := ["bag"]) fun _ _ _ _ _ _ us hl => match us, hl with | [_], _ => rfl
  have F11 := fun_mk (st := sLawFactor) l11 c11 k11
  have b11 := F11.binds (ps := ["bag", "p"]) fun _ _ _ _ _ _ us hl => match us, hl with | [_, _], _ => rfl
  have F12 := fun_mk (st := sLawPlaces) l12 c12 k12
  have b12 := F12.binds (ps := ["bag", "n", "wide"]) fun _ _ _ _ _ _ us hl => match us, hl with | [_, _, _], _ => rfl
  have F13 := fun_mk (st := sLawJustOne) l13 c13 k13
  have b13 := F13.binds (ps := ["pairs", "lot"]) fun _ _ _ _ _ _ us hl => match us, hl with | [_, _], _ => rfl
  have F14 := fun_mk (st := sLawHolds) l14 c14 k14
  have b14 := F14.binds (ps := ["checks", "lot"]) fun _ _ _ _ _ _ us hl => match us, hl with | [_, _], _ => rfl
  have F15 := fun_mk (st := sLawLot) l15 c15 k15
  have b15 := F15.binds (ps := ["bag", "n", "most"]) fun _ _ _ _ _ _ us hl => match us, hl with | [_, _, _], _ => rfl
  have F16 := fun_mk (st := sLawWithMore) l16 c16 k16
  have b16 := F16.binds (ps := ["bag", "places", "lots"]) fun _ _ _ _ _ _ us hl => match us, hl with | [_, _, _], _ => rfl
  have F17 := fun_mk (st := sLawLotsNet) l17 c17 k17
  have b17 := F17.binds (ps := ["bag", "n", "many", "lots"]) fun _ _ _ _ _ _ us hl => match us, hl with | [_, _, _, _], _ => rfl
  have F18 := fun_mk (st := sLawPeeled) l18 c18 k18
  have b18 := F18.binds (ps := ["checks", "lot"]) fun _ _ _ _ _ _ us hl => match us, hl with | [_, _], _ => rfl
  have F19 := fun_mk (st := sLawTurned) l19 c19 k19
  have b19 := F19.binds (ps := ["bag", "row"]) fun _ _ _ _ _ _ us hl => match us, hl with | [_, _], _ => rfl
  have F20 := fun_mk (st := sLawCopy) l20 c20 k20
  have b20 := F20.binds (ps := ["net"]) fun _ _ _ _ _ _ us hl => match us, hl with | [_], _ => rfl
  have F21 := fun_mk (st := sLawAlike) l21 c21 k21
  have b21 := F21.binds (ps := ["found", "due"]) fun _ _ _ _ _ _ us hl => match us, hl with | [_, _], _ => rfl
  have F22 := fun_mk (st := sLawSays) l22 c22 k22
  have b22 := F22.binds (ps := ["found", "due"]) fun _ _ _ _ _ _ us hl => match us, hl with | [_, _], _ => rfl
  have F23 := fun_mk (st := sLawWithout) l23 c23 k23
  have b23 := F23.binds (ps := ["lot", "place"]) fun _ _ _ _ _ _ us hl => match us, hl with | [_, _], _ => rfl
  have F24 := fun_mk (st := sLawBare) l24 c24 k24
  have b24 := F24.binds (ps := ["checks", "lot"]) fun _ _ _ _ _ _ us hl => match us, hl with | [_, _], _ => rfl
  have F25 := fun_mk (st := sLawBared) l25 c25 k25
  have b25 := F25.binds (ps := ["checks", "lot"]) fun _ _ _ _ _ _ us hl => match us, hl with | [_, _], _ => rfl
  have F26 := fun_mk (st := sLawAsked) l26 c26 k26
  have b26 := F26.binds (ps := ["net", "lot", "way"]) fun _ _ _ _ _ _ us hl => match us, hl with | [_, _, _], _ => rfl
  have F27 := fun_mk (st := sLaw) l27 c27 k27
  have m_abs := PySem.W.mg_none_of X G z_abs
  have m_all := PySem.W.mg_none_of X G z_all
  have m_bool := PySem.W.mg_none_of X G z_bool
  have m_dict := PySem.W.mg_none_of X G z_dict
  have m_enumerate := PySem.W.mg_none_of X G z_enumerate
  have m_int := PySem.W.mg_none_of X G z_int
  have m_isinstance := PySem.W.mg_none_of X G z_isinstance
  have m_len := PySem.W.mg_none_of X G z_len
  have m_list := PySem.W.mg_none_of X G z_list
  have m_range := PySem.W.mg_none_of X G z_range
  have m_set := PySem.W.mg_none_of X G z_set
  have m_sorted := PySem.W.mg_none_of X G z_sorted
  have m_str := PySem.W.mg_none_of X G z_str
  have m_tuple := PySem.W.mg_none_of X G z_tuple
  refine ⟨PySem.W.fnOf "law" "law" (defArgs sLaw) (defBody sLaw) (defScope sLaw) .none kV27 dc27 pm27 an27 cd27 ct27, fun s v => .of_eq rfl, fun base _ _ => ?_⟩
  have C_seats := Callee.mk' F0 (ok_seats (P := l.prog) (w := w) (base := base) F0 m_enumerate m_range) b0 (PySem.W.mg_of X G a0)
  have C_stands := Callee.mk' F2 (ok_stands (P := l.prog) (w := w) (base := base) F2 m_list) b2 (PySem.W.mg_of X G a2)
  have C_holds_out := Callee.mk' F1 (ok_holds_out (P := l.prog) (w := w) (base := base) F1 C_stands C_seats) b1 (PySem.W.mg_of X G a1)
  have C_inside_of := Callee.mk' F4 (ok_inside_of (P := l.prog) (w := w) (base := base) F4) b4 (PySem.W.mg_of X G a4)
  have C_greatest := Callee.mk' F3 (ok_greatest (P := l.prog) (w := w) (base := base) F3 C_seats C_inside_of m_dict m_len m_enumerate) b3 (PySem.W.mg_of X G a3)
  have C_without := Callee.mk' F6 (ok_without (P := l.prog) (w := w) (base := base) F6) b6 (PySem.W.mg_of X G a6)
  have C_is_bare := Callee.mk' F5 (ok_is_bare (P := l.prog) (w := w) (base := base) F5 C_holds_out C_greatest C_without) b5 (PySem.W.mg_of X G a5)
  have C__law_bag := Callee.mk' F7 (ok__law_bag (P := l.prog) (w := w) (base := base) F7 m_abs) b7 (PySem.W.mg_of X G a7)
  have C__law_draw := Callee.mk' F8 (ok__law_draw (P := l.prog) (w := w) (base := base) F8 m_len) b8 (PySem.W.mg_of X G a8)
  have C__law_prime_from := Callee.mk' F9 (ok__law_prime_from (P := l.prog) (w := w) (base := base) F9 m_range) b9 (PySem.W.mg_of X G a9)
  have C__law_prime := Callee.mk' F10 (ok__law_prime (P := l.prog) (w := w) (base := base) F10 C__law_draw C__law_prime_from) b10 (PySem.W.mg_of X G a10)
  have C__law_factor := Callee.mk' F11 (ok__law_factor (P := l.prog) (w := w) (base := base) F11 C__law_draw) b11 (PySem.W.mg_of X G a11)
  have C__law_places := Callee.mk' F12 (ok__law_places (P := l.prog) (w := w) (base := base) F12 C__law_draw m_sorted m_list m_set m_range) b12 (PySem.W.mg_of X G a12)
  have C__law_just_one := Callee.mk' F13 (ok__law_just_one (P := l.prog) (w := w) (base := base) F13 m_len) b13 (PySem.W.mg_of X G a13)
  have C__law_holds := Callee.mk' F14 (ok__law_holds (P := l.prog) (w := w) (base := base) F14 C__law_just_one) b14 (PySem.W.mg_of X G a14)
  have C__law_lot := Callee.mk' F15 (ok__law_lot (P := l.prog) (w := w) (base := base) F15 C__law_draw m_sorted m_set m_range) b15 (PySem.W.mg_of X G a15)
  have C__law_with_more := Callee.mk' F16 (ok__law_with_more (P := l.prog) (w := w) (base := base) F16 C__law_draw m_list m_sorted m_len) b16 (PySem.W.mg_of X G a16)
  have C__law_lots_net := Callee.mk' F17 (ok__law_lots_net (P := l.prog) (w := w) (base := base) F17 C__law_prime C__law_draw C__law_with_more C__law_places C__law_factor C__law_just_one m_range) b17 (PySem.W.mg_of X G a17)
  have C__law_peeled := Callee.mk' F18 (ok__law_peeled (P := l.prog) (w := w) (base := base) F18 m_range m_sorted m_len) b18 (PySem.W.mg_of X G a18)
  have C__law_turned := Callee.mk' F19 (ok__law_turned (P := l.prog) (w := w) (base := base) F19 C__law_draw m_list m_range m_len) b19 (PySem.W.mg_of X G a19)
  have C__law_copy := Callee.mk' F20 (ok__law_copy (P := l.prog) (w := w) (base := base) F20 m_list) b20 (PySem.W.mg_of X G a20)
  have C__law_alike_0 := Callee.void (P := l.prog) (w := w) (base := base) (k := 0) (sp := spD 2 (F__law_alike 0)) F21 b21 (PySem.W.mg_of X G a21) void__law_alike
  have C__law_alike_1 := Callee.mk' F21 (ok__law_alike (P := l.prog) (w := w) (base := base) 0 F21 C__law_alike_0 m_isinstance m_list m_tuple m_all m_len m_bool m_int m_str m_range) b21 (PySem.W.mg_of X G a21)
  have C__law_alike_2 := Callee.mk' F21 (ok__law_alike (P := l.prog) (w := w) (base := base) 1 F21 C__law_alike_1 m_isinstance m_list m_tuple m_all m_len m_bool m_int m_str m_range) b21 (PySem.W.mg_of X G a21)
  have C__law_alike_3 := Callee.mk' F21 (ok__law_alike (P := l.prog) (w := w) (base := base) 2 F21 C__law_alike_2 m_isinstance m_list m_tuple m_all m_len m_bool m_int m_str m_range) b21 (PySem.W.mg_of X G a21)
  have C__law_alike := C__law_alike_3
  have C__law_says := Callee.mk' F22 (ok__law_says (P := l.prog) (w := w) (base := base) F22) b22 (PySem.W.mg_of X G a22)
  have C__law_without := Callee.mk' F23 (ok__law_without (P := l.prog) (w := w) (base := base) F23) b23 (PySem.W.mg_of X G a23)
  have C__law_bare := Callee.mk' F24 (ok__law_bare (P := l.prog) (w := w) (base := base) F24 C__law_holds C__law_peeled C__law_without) b24 (PySem.W.mg_of X G a24)
  have C__law_bared := Callee.mk' F25 (ok__law_bared (P := l.prog) (w := w) (base := base) F25 C__law_peeled C__law_without m_list) b25 (PySem.W.mg_of X G a25)
  have C__law_asked := Callee.mk' F26 (ok__law_asked (P := l.prog) (w := w) (base := base) F26 C__law_copy C__law_says C__law_alike C_holds_out C__law_holds C_is_bare C__law_bare C_greatest C__law_peeled m_list) b26 (PySem.W.mg_of X G a26)
  exact ok_law F27 C__law_bag C__law_draw C__law_lots_net C__law_lot C__law_peeled C__law_bared C__law_turned C__law_asked C__law_without m_sorted m_list m_range m_set m_int
theorem walk {l : PySem.W.OpenLaw} {q : Program} {loose : List Str} {XP : (Str → Option Value) → Heap → Prop} {YP : World → Heap → Prop} {d : DefRec} {K : Params → PySem.W.Frag} (hn : l.most = some 63) (hdf : d.params.defaults = [])
    (hY : ∀ (w : World) (h : Heap), YP w h → (K w.params).In h)
    (F : ∀ (w : World) (mg : Str → Option Value) (fa : Addr) (h : Heap), (K w.params).In h → h.Ns mainGlobals mg → mg d.name = some (.ref fa) →
      ∃ fd : FuncData, (∀ (s : Shared) (u : Value), BindsTo s fd ⟨[u], []⟩ [("script", u)]) ∧ ∀ base : Heap, (K w.params).In base → base.Ns mainGlobals mg → FnOk l.prog w (K w.params) mg base CX0 5 fa fd ["script"] (spLaw (K w.params))) :
    PySem.W.WalkO q loose XP YP l.row.toRowW d [] (fun f vs => PySem.call f vs) :=
  L2.walk_of (n := 63) (k := 5) (x := "script") (CX := fun _ => CX0) (sp := fun w => spLaw (K w.params)) hn (by decide) hdf ⟨rfl, by decide, by decide⟩ hY F (fun _ _ a ns hl _ hS => ⟨a, ns, rfl, hS, hl, fun _ => rfl⟩) fun _ _ _ _ _ z => z
end K33
open PySem PySem.W PyProof.Rows
set_option maxRecDepth 100000 in
set_option maxHeartbeats 0 in
theorem PySem.Challenge.cw_fewchecks_k33_whole_one_place_more_or_le_holds : PySem.Challenge.rw_fewchecks_k33_whole_one_place_more_or_le.Holds := by
  w_on; o_law; k_head; (case hw => w_witness2)
  k_fill
  refine K33.walk (l := PySem.Challenge.rw_fewchecks_k33_whole_one_place_more_or_le) rfl rfl (fun w h Y => PySem.W.kIn_of Y) ?F
  case F =>
    intro w mg fa h KX G hmg
    refine' K33.all_mk KX G hmg ?a0 ?l0 ?c0 ?k0 ?a1 ?l1 ?c1 ?k1 ?a2 ?l2 ?c2 ?k2 ?a3 ?l3 ?c3 ?k3 ?a4 ?l4 ?c4 ?k4 ?a5 ?l5 ?c5 ?k5 ?a6 ?l6 ?c6 ?k6 ?a7 ?l7 ?c7 ?k7 ?a8 ?l8 ?c8 ?k8 ?a9 ?l9 ?c9 ?k9 ?a10 ?l10 ?c10 ?k10 ?a11 ?l11 ?c11 ?k11 ?a12 ?l12 ?c12 ?k12 ?a13 ?l13 ?c13 ?k13 ?a14 ?l14 ?c14 ?k14 ?a15 ?l15 ?c15 ?k15 ?a16 ?l16 ?c16 ?k16 ?a17 ?l17 ?c17 ?k17 ?a18 ?l18 ?c18 ?k18 ?a19 ?l19 ?c19 ?k19 ?a20 ?l20 ?c20 ?k20 ?a21 ?l21 ?c21 ?k21 ?a22 ?l22 ?c22 ?k22 ?a23 ?l23 ?c23 ?k23 ?a24 ?l24 ?c24 ?k24 ?a25 ?l25 ?c25 ?k25 ?a26 ?l26 ?c26 ?k26 ?a27 ?l27 ?c27 ?k27 ?z_abs ?z_all ?z_bool ?z_dict ?z_enumerate ?z_int ?z_isinstance ?z_len ?z_list ?z_range ?z_set ?z_sorted ?z_str ?z_tuple
    (case a0 => k_is)
    (case l0 => k_is)
    (case c0 => k_is)
    (case k0 => k_is)
    (case a1 => k_is)
    (case l1 => k_is)
    (case c1 => k_is)
    (case k1 => k_is)
    (case a2 => k_is)
    (case l2 => k_is)
    (case c2 => k_is)
    (case k2 => k_is)
    (case a3 => k_is)
    (case l3 => k_is)
    (case c3 => k_is)
    (case k3 => k_is)
    (case a4 => k_is)
    (case l4 => k_is)
    (case c4 => k_is)
    (case k4 => k_is)
    (case a5 => k_is)
    (case l5 => k_is)
    (case c5 => k_is)
    (case k5 => k_is)
    (case a6 => k_is)
    (case l6 => k_is)
    (case c6 => k_is)
    (case k6 => k_is)
    (case a7 => k_is)
    (case l7 => k_is)
    (case c7 => k_is)
    (case k7 => k_is)
    (case a8 => k_is)
    (case l8 => k_is)
    (case c8 => k_is)
    (case k8 => k_is)
    (case a9 => k_is)
    (case l9 => k_is)
    (case c9 => k_is)
    (case k9 => k_is)
    (case a10 => k_is)
    (case l10 => k_is)
    (case c10 => k_is)
    (case k10 => k_is)
    (case a11 => k_is)
    (case l11 => k_is)
    (case c11 => k_is)
    (case k11 => k_is)
    (case a12 => k_is)
    (case l12 => k_is)
    (case c12 => k_is)
    (case k12 => k_is)
    (case a13 => k_is)
    (case l13 => k_is)
    (case c13 => k_is)
    (case k13 => k_is)
    (case a14 => k_is)
    (case l14 => k_is)
    (case c14 => k_is)
    (case k14 => k_is)
    (case a15 => k_is)
    (case l15 => k_is)
    (case c15 => k_is)
    (case k15 => k_is)
    (case a16 => k_is)
    (case l16 => k_is)
    (case c16 => k_is)
    (case k16 => k_is)
    (case a17 => k_is)
    (case l17 => k_is)
    (case c17 => k_is)
    (case k17 => k_is)
    (case a18 => k_is)
    (case l18 => k_is)
    (case c18 => k_is)
    (case k18 => k_is)
    (case a19 => k_is)
    (case l19 => k_is)
    (case c19 => k_is)
    (case k19 => k_is)
    (case a20 => k_is)
    (case l20 => k_is)
    (case c20 => k_is)
    (case k20 => k_is)
    (case a21 => k_is)
    (case l21 => k_is)
    (case c21 => k_is)
    (case k21 => k_is)
    (case a22 => k_is)
    (case l22 => k_is)
    (case c22 => k_is)
    (case k22 => k_is)
    (case a23 => k_is)
    (case l23 => k_is)
    (case c23 => k_is)
    (case k23 => k_is)
    (case a24 => k_is)
    (case l24 => k_is)
    (case c24 => k_is)
    (case k24 => k_is)
    (case a25 => k_is)
    (case l25 => k_is)
    (case c25 => k_is)
    (case k25 => k_is)
    (case a26 => k_is)
    (case l26 => k_is)
    (case c26 => k_is)
    (case k26 => k_is)
    (case a27 => k_is)
    (case l27 => k_is)
    (case c27 => k_is)
    (case k27 => k_is)
    (case z_abs => k_is)
    (case z_all => k_is)
    (case z_bool => k_is)
    (case z_dict => k_is)
    (case z_enumerate => k_is)
    (case z_int => k_is)
    (case z_isinstance => k_is)
    (case z_len => k_is)
    (case z_list => k_is)
    (case z_range => k_is)
    (case z_set => k_is)
    (case z_sorted => k_is)
    (case z_str => k_is)
    (case z_tuple => k_is)
