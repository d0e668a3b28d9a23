import PyProof.Rows.All
import Wide.All
import OpenK.AllK
import Wide.FinOn
import Lean
import PyProof.EqAt
import PyProof.EqKinds
import PyProof.TupleCall
import PySem.Challenge.RW_fewchecks_k44_ranks
set_option compiler.extract_closed false
set_option Elab.async false
set_option linter.all false
set_option maxRecDepth 100000
def zq0x := @List.length_map
def zq1x := @List.getElem?_eq_getElem
def zq2x := @List.getD_eq_getElem?_getD
def zq3x := @List.mem_cons
def zq4x := @List.mem_of_getElem?
def zq5x := @Nat.le_refl
def zq6x := @List.getElem?_set_ne
def zq7x := @List.mem_map
def zq8x := @List.getElem?_eq_some_iff
def zq9x := @List.map_cons
def zq10x := @List.getElem?_map
def zq11x := @Ne.symm
def zq12x := @List.not_mem_nil
def zq13x := @List.size_toArray
def zq14x := @PySem.Heap.lt_size
def zq15x := @Bool.false_ne_true
def zq16x := @List.map_append
def zq17x := @List.mem_singleton
def zq18x := @List.getElem?_set_self
def zq19x := @List.length_take
def zq20x := @PySem.W.mg_of
def zq21x := @List.mem_cons_of_mem
def zq22x := @List.mem_append
def zq23x := @Bool.and_eq_true
def zq24x := @Int.emod_nonneg
def zq25x := @List.length_append
def zq26x := @Nat.lt_of_lt_of_le
def zq27x := @List.mem_cons_self
def zq28x := @Int.emod_lt_of_pos
def zq29x := @List.getElem_mem
def zq30x := @Int.mul_zero
def zq31x := @Nat.le_trans
def zq32x := @Option.some.inj
def zq33x := @List.mem_append_right
def zq34x := @List.getElem?_of_mem
def zq35x := @PySem.PassesOwn.never
def zq36x := @List.getElem?_replicate
def zq37x := @List.length_set
def zq38x := @List.lookup_cons
def zq39x := @List.mem_range
def zq40x := @List.length_drop
def zq41x := @List.getElem?_append_left
def zq42x := @List.length_range
def zq43x := @Nat.zero_le
def zq44x := @List.getElem?_append_right
def zq45x := @Int.zero_mul
def zq46x := @PySem.boot_len
def zq47x := @Nat.ne_of_lt
def zq48x := @List.mem_append_left
def zq49x := @PySem.Heap.get?_push_of_some
def zq50x := @PySem.W.kia_one
def zq51x := @List.length_cons
def zq52x := @List.length_singleton
def zq53x := @List.take_length
def zq54x := @PySem.W.mg_none_of
def zq55x := @List.nodup_cons
def zq56x := @List.length_replicate
def zq57x := @Nat.mul_comm
def zq58x := @Option.map_eq_some_iff
def zq59x := @Classical.byContradiction
def zq60x := @List.getElem?_eq_none
def zq61x := @Nat.mul_mod
def zq62x := @Int.le_of_dvd
def zq63x := @Int.emod_def
def zq64x := @Nat.lt_irrefl
def zq65x := @Option.some_ne_none
def zq66x := @List.set_set
def zq67x := @List.getElem?_cons_succ
def zq68x := @List.map_map
def zq69x := @Nat.mul_assoc
def zq70x := @List.find?_cons
def zq71x := @Int.emod_eq_of_lt
def zq72x := @List.pairwise_map
def zq73x := @PySem.F.plainAttrs_list
def zq74x := @List.map_take
def zq75x := @PySem.Heap.get?_push_size
def zq76x := @Bool.eq_iff_iff
def zq77x := @List.append_nil
def zq78x := @PySem.mem_of_lookup
def zq79x := @List.replicate_succ
def zq80x := @Prod.mk.inj
def zq81x := @PySem.SeqAt.canLay_of_shaped
def zq82x := @List.ext_getElem?
def zq83x := @List.cons_append
def zq84x := @Int.toNat_natCast
def zq85x := @List.length_zipWith
def zq86x := @List.mem_of_mem_take
def zq87x := @List.map_set
def zq88x := @List.mem_filter
def zq89x := @List.getElem?_take_of_lt
def zq90x := @List.all_eq_true
def zq91x := @Int.one_mul
def zq92x := @Int.dvd_mul_of_dvd_right
def zq93x := @Nat.pow_add
def zq94x := @List.sum_cons
def zq95x := @List.map_drop
def zq96x := @List.eraseIdx_eq_take_drop_succ
def zq97x := @PyProof.Rows.callWith_type1
def zq98x := @List.flatten_cons
def zq99x := @Int.mul_comm
def zq100x := @Int.mul_assoc
def zq101x := @Int.dvd_add
def zq102x := @List.length_eq_zero_iff
def zq103x := @List.map_congr_left
def zq104x := @Int.sub_zero
def zq105x := @Bool.or_true
def zq106x := @List.getElem?_zipWith
def zq107x := @List.ext_getElem
def zq108x := @Int.zero_emod
def zq109x := @List.mem_or_eq_of_mem_set
def zq110x := @Int.add_zero
def zq111x := @List.mem_of_mem_eraseIdx
def zq112x := @Int.mul_one
def zq113x := @Nat.le_succ
def zq114x := @List.map_nil
def zq115x := @List.cons.inj
def zq116x := @List.all_cons
def zq117x := @Bool.or_false
def zq118x := @Bool.false_or
def zq119x := @Int.zero_add
def zq120x := @Int.mul_sub
def zq121x := @Nat.mul_one
def zq122x := @Nat.zero_mul
def zq123x := @List.any_cons
def zq124x := @Bool.true_or
def zq125x := @Nat.le_add_right
def zq126x := @List.getElem_zipWith
def zq127x := @Int.dvd_mul_right
def zq128x := @List.mem_map_of_mem
def zq129x := @Nat.min_eq_left
def zq130x := @List.getElem?_drop
def zq131x := @List.mem_of_mem_drop
def zq132x := @List.take_append_drop
def zq133x := @Int.toNat_of_nonneg
def zq134x := @List.length_eraseIdx_of_lt
def zq135x := @Sum.inl.inj
def zq136x := @Nat.le_of_lt
def zq137x := @List.filterMap_cons
def zq138x := @Array.length_toList
def zq139x := @List.mem_filterMap
def zq140x := @PySem.W.kitx_dict
def zq141x := @List.of_mem_zip
def zq142x := @Nat.le_of_eq
def zq143x := @List.take_add_one
def zq144x := @Int.le_refl
def zq145x := @Int.mul_ediv_add_emod
def zq146x := @Int.ediv_nonneg
def zq147x := @Nat.succ.inj
def zq148x := @Nat.pow_succ
def zq149x := @Nat.div_add_mod
def zq150x := @Nat.mod_mod
def zq151x := @Nat.pow_zero
def zq152x := @Nat.mod_mod_of_dvd
def zq153x := @Nat.one_mul
def zq154x := @Nat.le_of_dvd
def zq155x := @Option.isSome_map
def zq156x := @PySem.F.slot_list_insert
def zq157x := @List.getElem?_zipIdx
def zq158x := @List.nodup_range
def zq159x := @List.mem_flatMap
def zq160x := @List.length_flatMap
def zq161x := @List.pairwise_flatMap
def zq162x := @PySem.F.slot_list_append
def zq163x := @PySem.F.type_list_append
def zq164x := @List.map_replicate
def zq165x := @PyProof.Rows.boot_list
def zq166x := @Bool.eq_false_iff
def zq167x := @PySem.F.slot_list_pop
def zq168x := @PySem.F.type_list_pop
def zq169x := @PySem.Calls.Name_function_global
def zq170x := @PySem.W.cellsFrom_some
def zq171x := @Option.isSome_iff_exists
def zq172x := @Array.getElem?_toList
def zq173x := @List.filterMap_cons_some
def zq174x := @Nat.dvd_of_mod_eq_zero
def zq175x := @Int.eq_ofNat_of_zero_le
def zq176x := @Int.gcd_eq_zero_iff
def zq177x := @Int.natAbs_dvd_natAbs
def zq178x := @List.take_of_length_le
def zq179x := @List.sum_replicate_nat
def zq180x := @Nat.pow_le_pow_iff_right
def zq181x := @Int.dvd_of_emod_eq_zero
def zq182x := @List.mem_of_find?_eq_some
def zq183x := @PyProof.Rows.boot_range
def zq184x := @PyProof.Rows.boot_isinstance
def zq185x := @List.length_pos_iff
def zq186x := @PySem.F.type_list_insert
def zq187x := @List.pairwise_iff_getElem
def zq188x := @List.mem_eraseIdx_iff_getElem?
def zq189x := @Bool.and_eq_true_iff
namespace L2
open PySem PySem.Spec PyProof.Rows
abbrev Key := Sum Int Str
def keyIs : Key -> Value -> Bool
 | .inl k, v => Value.isInt k v
 | .inr x, v => Value.isStrOf x v
def keyH (w : World) : Key -> Int
 | .inl k => hashInt k
 | .inr x => hashStr w x
theorem keyIs_shape : ∀ {k : Key} {v : Value}, keyIs k v = true -> (∃ i t, k = Sum.inl i /\ v = Value.int i t) \/ (∃ x t, k = Sum.inr x /\ v = Value.str x t)
  | .inl i, v, h => by
    obtain ⟨t, e⟩ := Value.isInt_shape (k := i) (v := v) h
    exact .inl ⟨i, t, rfl, e⟩
  | .inr x, v, h => by
    obtain ⟨t, e⟩ := Value.isStrOf_shape (x := x) (v := v) h
    exact .inr ⟨x, t, rfl, e⟩
theorem keyIs_int (i : Int) (t : Tok) : keyIs (.inl i) (.int i t) = true := by simp [keyIs, Value.isInt]
theorem keyIs_str (x : Str) (t : Tok) : keyIs (.inr x) (.str x t) = true := by simp [keyIs, Value.isStrOf]
theorem key_ll (a b : Int) : decide ((Sum.inl a : Key) = Sum.inl b) = (a == b) := by
 by_cases e : a = b
 ·subst e; simp
 ·have h : ¬ (Sum.inl a : Key) = Sum.inl b := fun q => e (zq135x q)
  rw [decide_eq_false h]
  exact (beq_eq_false_iff_ne.mpr e).symm
theorem key_rr (a b : Str) : decide ((Sum.inr a : Key) = Sum.inr b) = decide (a = b) := by
 by_cases e : a = b
 ·subst e; simp
 ·have h : ¬ (Sum.inr a : Key) = Sum.inr b := fun q => e (Sum.inr.inj q)
  rw [decide_eq_false h, decide_eq_false e]
theorem key_lr (a : Int) (b : Str) : decide ((Sum.inl a : Key) = Sum.inr b) = false := decide_eq_false (fun q => nomatch q)
theorem key_rl (a : Str) (b : Int) : decide ((Sum.inr a : Key) = Sum.inl b) = false := decide_eq_false (fun q => nomatch q)
def mixKind (prog : Program) (w : World) : PySem.KeyKind prog w Key where
 is := keyIs
 hash := keyH w
 inj := fun v a b ha hb => by
  rcases keyIs_shape ha with ⟨i, t, rfl, rfl⟩ | ⟨x, t, rfl, rfl⟩
  ·rcases keyIs_shape hb with ⟨j, u, rfl, e⟩ | ⟨y, u, rfl, e⟩
   ·injection e with e1 _; rw [e1]
   ·exact nomatch e
  ·rcases keyIs_shape hb with ⟨j, u, rfl, e⟩ | ⟨y, u, rfl, e⟩
   ·exact nomatch e
   ·injection e with e1 _; rw [e1]
 byValue := fun k v h => by
  rcases keyIs_shape h with ⟨i, t, rfl, rfl⟩ | ⟨x, t, rfl, rfl⟩ <;> rfl
 pyHash := fun hv h => by
  rcases keyIs_shape hv with ⟨i, t, rfl, rfl⟩ | ⟨x, t, rfl, rfl⟩
  ·exact wpAny_pyHash_int h
  ·exact wpAny_pyHash_str h
 eqBool := fun hu hv h => by
  rcases keyIs_shape hu with ⟨i, t, rfl, rfl⟩ | ⟨x, t, rfl, rfl⟩
  ·rcases keyIs_shape hv with ⟨j, u, rfl, rfl⟩ | ⟨y, u, rfl, rfl⟩
   ·rw [key_ll] at h; exact wpAny_eqBool_int h
   ·rw [key_lr] at h; exact SeqAt.EqAt.int_str i t y u _ _ _ _ h
  ·rcases keyIs_shape hv with ⟨j, u, rfl, rfl⟩ | ⟨y, u, rfl, rfl⟩
   ·rw [key_rl] at h; exact SeqAt.EqAt.str_int x t j u _ _ _ _ h
   ·rw [key_rr] at h; exact wpAny_eqBool_str h
 «strs» := fun k x t v h => by
  rcases keyIs_shape h with ⟨i, u, rfl, e⟩ | ⟨y, u, rfl, e⟩
  ·exact nomatch e
  ·injection e with e1 _
   subst e1
   cases v <;> rfl
theorem mixKind_int (prog : Program) (w : World) (i : Int) (t : Tok) : (mixKind prog w).is (.inl i) (.int i t) = true := keyIs_int i t
theorem mixKind_str (prog : Program) (w : World) (x : Str) (t : Tok) : (mixKind prog w).is (.inr x) (.str x t) = true := keyIs_str x t
inductive V where
 | non | bl (b : Bool) | int (i : Int) | str (x : Str) | byt (b : Array UInt8) | flt (b : UInt64) | ref (a : Addr) | ty (n : String)
 deriving DecidableEq
def RelV : V -> Value -> Prop
 | .non, u => u = Value.none
 | .bl b, u => u = Value.bool b
 | .int i, u => ∃ t, u = Value.int i t
 | .str x, u => ∃ t, u = Value.str x t
 | .byt b, u => ∃ t, u = Value.bytes b t
 | .flt b, u => ∃ t, u = Value.float b t
 | .ref a, u => u = Value.ref a
 | .ty n, u => u = Value.type n
abbrev Vals : List V -> List Value -> Prop := Paired RelV
theorem Vals.length {xs : List V} {us : List Value} (r : Vals xs us) : xs.length = us.length := Paired.length r
theorem Vals.get : ∀ {xs : List V} {us : List Value} {i : Nat} {x : V}, Vals xs us -> xs[i]? = some x -> ∃ u, us[i]? = some u /\ RelV x u
  | _, _, _, _, .nil, e => by simp at e
  | _, _, 0, _, .cons r _, e => by simp at e; subst e; exact ⟨_, rfl, r⟩
  | _, _, i + 1, x, .cons _ t, e => by
    obtain ⟨u, h1, h2⟩ := Vals.get (i := i) (x := x) t (by simpa using e)
    exact ⟨u, by simpa using h1, h2⟩
theorem Vals.set {x : V} {u : Value} (r : RelV x u) : ∀ {xs : List V} {us : List Value} (i : Nat), Vals xs us -> Vals (xs.set i x) (us.set i u)
 | _, _, _, .nil => .nil
 | _, _, 0, .cons _ t => .cons r t
 | _, _, i + 1, .cons q t => .cons q (Vals.set r i t)
theorem Vals.append : ∀ {xs ys : List V} {us ws : List Value}, Vals xs us -> Vals ys ws -> Vals (xs ++ ys) (us ++ ws)
 | _, _, _, _, .nil, s => s
 | _, _, _, _, .cons r t, s => .cons r (Vals.append t s)
theorem Vals.take : ∀ {xs : List V} {us : List Value} (n : Nat), Vals xs us -> Vals (xs.take n) (us.take n)
 | _, _, 0, _ => .nil
 | _, _, _ + 1, .nil => .nil
 | _, _, n + 1, .cons r t => .cons r (Vals.take n t)
theorem Vals.drop : ∀ {xs : List V} {us : List Value} (n : Nat), Vals xs us -> Vals (xs.drop n) (us.drop n)
 | _, _, 0, r => r
 | _, _, _ + 1, .nil => .nil
 | _, _, n + 1, .cons _ t => Vals.drop n t
def RelO : Option V -> Option Value -> Prop
 | some v, some u => RelV v u
 | none, none => True
 | _, _ => False
def KV {κ : Type} : List (κ × V) -> List (κ × Value) -> Prop := Paired fun (p : κ × V) (q : κ × Value) => p.1 = q.1 /\ RelV p.2 q.2
def kV : Key -> V
 | .inl i => .int i
 | .inr x => .str x
inductive HO where
  | lst (xs : List V)
  | tup (xs : List V)
  | dK (kvs : List (Key × V)) | dT (kvs : List (List Key × V))
  | set (S : Int -> Bool) (n : Nat)
  | ins (C dx : Addr) (fs : List (Str × V))
  | own (x : Addr)
  | xd (fs : List (Str × V))
  | met (f x : Addr)
  | rng (lo hi : Int)
  | frz (o : Obj) (u : HO)
  | tbl (ps : Array Value)
  | ext (φ : Heap -> Prop)
abbrev Hp := Addr -> Option HO
def upd (H : Hp) (a : Addr) (o : HO) : Hp := fun b => if b = a then some o else H b
theorem upd_same {H : Hp} {a : Addr} {o : HO} : upd H a o a = some o := by unfold upd; rw [if_pos rfl]
theorem upd_ne {H : Hp} {a b : Addr} {o : HO} (h : b ≠ a) : upd H a o b = H b := by unfold upd; rw [if_neg h]
theorem upd_upd {H : Hp} {a : Addr} {o u : HO} : upd (upd H a o) a u = upd H a u := by
 funext b; unfold upd; split <;> rfl
theorem ne_of_none {H : Hp} {a b : Addr} {o : HO} (h : H a = some o) (h' : H b = none) : a ≠ b := by
 intro e; subst e; rw [h] at h'; cases h'
section
variable (P : Program) (w : World)
def ObjOk (H : Hp) (h : Heap) (a : Addr) : HO -> Prop
 | .lst xs => xs.length <= sizeLine /\ ∃ (its : List Value) (n : Nat), Vals xs its /\ h.get? a = some { cls := .type "list", data := .seq its.toArray n }
 | .tup xs => xs.length <= sizeLine /\ ∃ its : List Value, Vals xs its /\ IsTup h a its.toArray
 | .dK kvs => kvs.length <= sizeLine /\ (a == sysModules) = false /\ ∃ vs, KV kvs vs /\ h.DictOf (mixKind P w) a vs
 | .dT kvs => kvs.length <= sizeLine /\ (a == sysModules) = false /\ ∃ xs : List (List Key × Addr × Value),
   Paired (fun (p : List Key × V) (q : List Key × Addr × Value) => p.1 = q.1 /\ H q.2.1 = some (.tup (p.1.map kV)) /\ RelV p.2 q.2.2) kvs xs /\
   ∃ o es ep, h.get? a = some o /\ o.ExactDict /\ o.data = .dict es ep /\ es.toList = xs.map (entryOfKey (tupleKind (mixKind P w))) /\ (xs.map (·.1)).Nodup
 | .set S n => h.SetOf (intKind P w) a S n
 | .ins C dx fs => H dx = some (.own a) /\ fs.length <= 1000 /\ dx ≠ a /\ h.get? a = some (PySem.W.instObj C dx) /\
   ∃ mA, h.Ns1 dx mA /\ (∀ f, RelO (fs.lookup f) (mA f)) /\ PySem.Within mA (fs.map (·.1))
 | .own _ => ∃ o, h.get? a = some o
 | .xd fs => ∃ mA, h.Ns1 a mA /\ ∀ f, RelO (fs.lookup f) (mA f)
 | .rng lo hi => ∃ t u v, h.get? a = some { cls := .type "range", data := .fields #[.int lo t, .int hi u, .int 1 v] }
 | .frz o u => h.get? a = some o /\ ObjOk H h a u
 | .tbl ps => h.get? a = some { cls := .none, data := .fields ps }
 | .met f x => h.get? a = some (PySem.W.methodObj (.ref f) (.ref x))
 | .ext φ => φ h /\ (∃ o, h.get? a = some o) /\ ∀ h1 h2 : Heap, φ h1 -> (∀ o, h1.get? a = some o -> h2.get? a = some o) -> φ h2
def HOk (H : Hp) (h : Heap) : Prop := ∀ a o, H a = some o -> ObjOk P w H h a o
end
section
variable {P : Program} {w : World} {H H' : Hp} {h h' : Heap} {a : Addr} {o : HO}
theorem ObjOk.lt (x : ObjOk P w H h a o) : a < h.objs.size := by
 cases o with
 | lst xs => obtain ⟨_, _, _, _, e⟩ := x; exact zq14x e
 | tup xs => obtain ⟨_, _, _, p⟩ := x; exact p.lt
 | dK kvs => obtain ⟨_, _, _, _, o, _, _, e, _⟩ := x; exact zq14x e
 | dT kvs => obtain ⟨_, _, _, _, o, _, _, e, _⟩ := x; exact zq14x e
 | set S n => obtain ⟨o, _, _, _, e, _⟩ := x; exact zq14x e
 | ins C dx fs => obtain ⟨_, _, _, e, _⟩ := x; exact zq14x e
 | own y => obtain ⟨_, e⟩ := x; exact zq14x e
 | xd fs => obtain ⟨_, ⟨_, _, _, e, _⟩, _⟩ := x; exact zq14x e
 | rng lo hi => obtain ⟨_, _, _, e⟩ := x; exact zq14x e
 | frz ob u => obtain ⟨e, _⟩ := x; exact zq14x e
 | tbl ps => exact zq14x (show h.get? a = some _ from x)
 | met f y => exact zq14x (show h.get? a = some _ from x)
 | ext φ => obtain ⟨_, ⟨_, e⟩, _⟩ := x; exact zq14x e
theorem Paired.mapP {α β : Type} {F G : α -> β -> Prop} : ∀ {l₁ : List α} {l₂ : List β}, Paired F l₁ l₂ -> (∀ a b, F a b -> G a b) -> Paired G l₁ l₂
 | _, _, .nil, _ => .nil
 | _, _, .cons r t, f => .cons (f _ _ r) (Paired.mapP t f)
theorem ObjOk.stay (x : ObjOk P w H h a o) (k : ∀ b u, (b = a \/ H b = some (.own a)) -> h.get? b = some u -> h'.get? b = some u)
    (ho : ∀ b, H b = some (.own a) -> H' b = some (.own a)) (ht : ∀ b xs, H b = some (.tup xs) -> H' b = some (.tup xs)) : ObjOk P w H' h' a o := by
  induction o with
  | lst xs => obtain ⟨z, its, n, r, e⟩ := x; exact ⟨z, its, n, r, k _ _ (.inl rfl) e⟩
  | tup xs => obtain ⟨z, its, r, ob, e, c⟩ := x; exact ⟨z, its, r, ob, k _ _ (.inl rfl) e, c⟩
  | dK kvs => obtain ⟨z, y, vs, r, ob, es, ep, e, c⟩ := x; exact ⟨z, y, vs, r, ob, es, ep, k _ _ (.inl rfl) e, c⟩
  | dT kvs =>
    obtain ⟨z, y, xs, r, ob, es, ep, e, c⟩ := x
    exact ⟨z, y, xs, Paired.mapP r fun p q z => ⟨z.1, ht _ _ z.2.1, z.2.2⟩, ob, es, ep, k _ _ (.inl rfl) e, c⟩
  | set S n => obtain ⟨ob, es, ep, t, e, c⟩ := x; exact ⟨ob, es, ep, t, k _ _ (.inl rfl) e, c⟩
  | ins C dx fs =>
    obtain ⟨d, z, ne, e, mA, ⟨od, es, ep, e2, c⟩, r⟩ := x
    exact ⟨ho _ d, z, ne, k _ _ (.inl rfl) e, mA, ⟨od, es, ep, k _ _ (.inr d) e2, c⟩, r⟩
  | own y => obtain ⟨ob, e⟩ := x; exact ⟨ob, k _ _ (.inl rfl) e⟩
  | xd fs => obtain ⟨mA, ⟨od, es, ep, e, c⟩, r⟩ := x; exact ⟨mA, ⟨od, es, ep, k _ _ (.inl rfl) e, c⟩, r⟩
  | rng lo hi => obtain ⟨t, u, v, e⟩ := x; exact ⟨t, u, v, k _ _ (.inl rfl) e⟩
  | frz ob u ih => obtain ⟨e, q⟩ := x; exact ⟨k _ _ (.inl rfl) e, ih q⟩
  | tbl ps =>
    have e : h.get? a = some { cls := .none, data := .fields ps } := x
    show h'.get? a = some { cls := .none, data := .fields ps }
    exact k a _ (.inl rfl) e
  | met f y =>
    have e : h.get? a = some (PySem.W.methodObj (.ref f) (.ref y)) := x
    show h'.get? a = some (PySem.W.methodObj (.ref f) (.ref y))
    exact k a _ (.inl rfl) e
  | ext φ => obtain ⟨p, ⟨o, e⟩, st⟩ := x; exact ⟨st _ _ p fun o q => k _ _ (.inl rfl) q, ⟨o, k _ _ (.inl rfl) e⟩, st⟩
theorem HOk.lt (x : HOk P w H h) (e : H a = some o) : a < h.objs.size := (x a o e).lt
theorem HOk.fresh (x : HOk P w H h) (e : h.objs.size <= a) : H a = none := by
 cases q : H a with
 | none => rfl
 | some u => exact absurd (zq26x (x.lt q) e) (zq64x _)
theorem HOk.kept (x : HOk P w H h) (k : ∀ b u, h.get? b = some u -> h'.get? b = some u) : HOk P w H h' := fun a o e =>
 (x a o e).stay (fun b u _ q => k b u q) (fun _ q => q) fun _ _ q => q
theorem HOk.laid (x : HOk P w H h) (k : ∀ b u, h.get? b = some u -> h'.get? b = some u) (hp : h.objs.size <= a) (new : ObjOk P w (upd H a o) h' a o) : HOk P w (upd H a o) h' := fun b u e => by
 have hn := x.fresh hp
 by_cases hb : b = a
 ·subst hb; rw [upd_same] at e; cases e; exact new
 ·rw [upd_ne hb] at e
  exact (x b u e).stay (fun c v _ q => k c v q) (fun c q => by rw [upd_ne (ne_of_none q hn)]; exact q) fun c xs q => by rw [upd_ne (ne_of_none q hn)]; exact q
end
def Rd (H : Hp) (a : Addr) (u : HO) : Prop := H a = some u \/ ∃ o, H a = some (.frz o u)
theorem Rd.ok {P : Program} {w : World} {H : Hp} {h : Heap} {a : Addr} {u : HO} (r : Rd H a u) (x : HOk P w H h) : ObjOk P w H h a u := by
 rcases r with r | ⟨o, r⟩
 ·exact x a u r
 ·obtain ⟨_, q⟩ := x a _ r
  exact q
def Mut : Option HO -> Prop
 | some (.lst _) => True
 | some (.dK _) => True
 | some (.dT _) => True
 | some (.set _ _) => True
 | some (.ins _ _ _) => True
 | some (.ext _) => True
 | _ => False
section
variable {P : Program} {w : World} {H : Hp} {h h' : Heap} {x e : Addr} {o' : HO}
theorem HOk.write (ok : HOk P w H h) (mu : Mut (H x)) (he : e = x \/ H e = some (.own x)) (k : ∀ b u, b ≠ e -> h.get? b = some u -> h'.get? b = some u) (heo : ∃ u, h'.get? e = some u)
  (new : ObjOk P w (upd H x o') h' x o') : HOk P w (upd H x o') h' := fun b u q => by
 have nown : ∀ c y, H c = some (.own y) -> c ≠ x := fun c y r z => by subst z; rw [r] at mu; exact mu
 have ntup : ∀ c xs, H c = some (.tup xs) -> c ≠ x := fun c xs r z => by subst z; rw [r] at mu; exact mu
 by_cases hb : b = x
 ·subst hb; rw [upd_same] at q; cases q; exact new
 ·rw [upd_ne hb] at q
  by_cases hbe : b = e
  ·have q' : H b = some (.own x) := by
    rcases he with z | z
    ·exact absurd (hbe.trans z) hb
    ·rw [hbe]; exact z
   rw [q] at q'; cases q'
   obtain ⟨v, hv⟩ := heo
   exact ⟨v, by rw [hbe]; exact hv⟩
  ·refine (ok b u q).stay (fun c v hc r => k c v ?_ r) (fun c r => by rw [upd_ne (nown c b r)]; exact r) fun c xs r => by rw [upd_ne (ntup c xs r)]; exact r
   rcases hc with rfl | hc
   ·exact hbe
   ·rintro rfl
    rcases he with z | z
    ·exact nown c b hc z
    ·rw [hc] at z; cases z; exact hb rfl
end
structure Un (fs ex : List Addr) (H H' : Hp) (h h' : Heap) : Prop where
 keep : ∀ b o, h.get? b = some o -> H b = none -> b ∉ fs -> b ∉ ex -> h'.get? b = some o
 slot : ∀ b o, h.get? b = some o -> H b = none -> b ∈ fs -> b ∉ ex -> ∃ sl, h'.get? b = some { o with slots := sl }
 free : ∀ b o, h.get? b = some o -> H b = none -> b ∉ ex -> H' b = none
 there : ∀ b o, h.get? b = some o -> b ∉ ex -> ∃ o', h'.get? b = some o'
 tups : ∀ b xs, H b = some (.tup xs) -> H' b = some (.tup xs)
 frzs : ∀ b o u, H b = some (.frz o u) -> H' b = some (.frz o u)
 tbls : ∀ b ps, H b = some (.tbl ps) -> ∃ more, H' b = some (.tbl (ps ++ more))
section
variable {fs fs' ex ex' : List Addr} {H H1 H2 : Hp} {h h1 h2 h' : Heap} {a x e : Addr} {o : HO}
theorem Un.any (u : Un fs ex H H1 h h1) {b : Addr} {ob : Obj} (q : h.get? b = some ob) (n : H b = none) (hx : b ∉ ex) : ∃ sl, h1.get? b = some { ob with slots := sl } := by
 by_cases hb : b ∈ fs
 ·exact u.slot b ob q n hb hx
 ·exact ⟨ob.slots, u.keep b ob q n hb hx⟩
theorem Un.kept (k : ∀ b u, h.get? b = some u -> h'.get? b = some u) : Un fs ex H H h h' :=
 ⟨fun b ob q _ _ _ => k b ob q, fun b ob q _ _ _ => ⟨ob.slots, k b ob q⟩, fun _ _ _ n _ => n, fun b ob q _ => ⟨ob, k b ob q⟩, fun _ _ q => q, fun _ _ _ q => q, fun _ ps q => ⟨#[], by rw [q]; simp⟩⟩
theorem Un.refl : Un fs ex H H h h := Un.kept fun _ _ q => q
theorem Un.laid (k : ∀ b u, h.get? b = some u -> h'.get? b = some u) (hp : h.objs.size <= a) (hn : H a = none) : Un fs ex H (upd H a o) h h' where
 keep := fun b u q _ _ _ => k b u q
 slot := fun b u q _ _ _ => ⟨u.slots, k b u q⟩
 free := fun b u q n _ => by rw [upd_ne (zq47x (zq26x (zq14x q) hp))]; exact n
 there := fun b u q _ => ⟨u, k b u q⟩
 tups := fun b xs q => by rw [upd_ne (ne_of_none q hn)]; exact q
 frzs := fun b u xs q => by rw [upd_ne (ne_of_none q hn)]; exact q
 tbls := fun b ps q => ⟨#[], by rw [upd_ne (ne_of_none q hn), q]; simp⟩
theorem Un.write (mu : Mut (H x)) (he : e = x \/ H e = some (.own x)) (k : ∀ b u, b ≠ e -> h.get? b = some u -> h'.get? b = some u) (heo : ∃ u, h'.get? e = some u) : Un fs ex H (upd H x o) h h' := by
 have hx : ∀ b, H b = none -> b ≠ x := fun b n z => by subst z; rw [n] at mu; exact mu
 have hb : ∀ b, H b = none -> b ≠ e := fun b n z => by
  subst z
  rcases he with r | r
  ·exact hx b n r
  ·rw [n] at r; cases r
 have hm : ∀ b u, H b = some u -> ¬ Mut (some u) -> b ≠ x := fun b u q nm z => by subst z; rw [q] at mu; exact nm mu
 refine ⟨fun b u q n _ _ => k b u (hb b n) q, fun b u q n _ _ => ⟨u.slots, k b u (hb b n) q⟩, fun b u q n _ => by rw [upd_ne (hx b n)]; exact n, fun b u q _ => ?_,
  fun b xs q => by rw [upd_ne (hm b _ q fun z => z)]; exact q, fun b u xs q => by rw [upd_ne (hm b _ q fun z => z)]; exact q, fun b ps q => ⟨#[], by rw [upd_ne (hm b _ q fun z => z), q]; simp⟩⟩
 by_cases hbe : b = e
 ·subst hbe; exact heo
 ·exact ⟨u, k b u hbe q⟩
end
def trk (h : Heap) (H : Hp) : List Addr := (List.range h.objs.size).filter fun a => (H a).isSome
def hidT (h : Heap) (H : Hp) : Heap := PySem.W.hideAll h (trk h H)
theorem hidT_size (h : Heap) (H : Hp) : (hidT h H).objs.size = h.objs.size := PySem.W.hideAll_size _ _
theorem hidT_get {h : Heap} {H : Hp} {b : Addr} {o : Obj} (e : h.get? b = some o) (n : H b = none) : (hidT h H).get? b = some o :=
 PySem.W.hideAll_get _ e fun hm => by
  have q : (H b).isSome = true := (zq88x.mp hm).2
  rw [n] at q; simp at q
theorem of_hidT {h : Heap} {H : Hp} {b : Addr} {o : Obj} (e : (hidT h H).get? b = some o) : h.get? b = some o /\ H b = none := by
  have e' : h.get? b = some o := PySem.W.of_hideAll (trk h H) e
  refine ⟨e', ?_⟩
  cases q : H b with
  | none => rfl
  | some x =>
    have hm : b ∈ trk h H := zq88x.mpr ⟨zq39x.mpr (zq14x e'), by simp [q]⟩
    have z : (hidT h H).get? b = none := PySem.W.hideAll_none (trk h H) hm
    rw [z] at e; cases e
def allNews (g h : Heap) (L : Addr) : List (Addr × Obj) := (List.range h.objs.size).filterMap fun a => if a = L \/ (g.get? a).isSome = true then none else (h.get? a).map fun o => (a, o)
def rest (g h : Heap) (L d : Addr) : List (Addr × Obj) := (allNews g h L).filter fun p => decide (p.1 ≠ d)
structure Mod (K : PySem.W.Frag) (mg : Str -> Option Value) (base : Heap) : Prop where
 kin : K.In base
 glob : base.Ns mainGlobals mg
 blt : ∃ mb, base.Ns builtinsNs mb /\ ∀ x : Str, x ≠ "__name__" -> mb x = bootBuiltins x
 nolimit : base.NoLimit
structure Cx where
 prog : Program
 w : World
 K : PySem.W.Frag
 mg : Str -> Option Value
 base : Heap
 A : Around
 N : List Str
 s₀ : Shared
 H₀ : Hp
 env : Env
 outer : List Env
 stack : List Env
 ex : List Addr
 fn : Str -> Bool
 calm : Bool
 pn : List (Addr × Obj)
 xe : Value -> Shared -> Prop
def frs (l : List Env) : List Addr := l.filterMap (·.frame)
abbrev Cx.fs (X : Cx) : List Addr := frs X.outer
def Vis (sc : Scope) (x : Str) : Prop := sc.names.lookup x = some .local \/ sc.names.lookup x = some .cell \/ sc.names.lookup x = some .free
def Loc (sc : Scope) (x : Str) : Prop := sc.names.lookup x = some .local \/ sc.names.lookup x = some .cell
def Look (env : Env) (h : Heap) (m : Str -> Option Value) (x : Str) (u : Value) : Prop :=
 (env.kindOf x = some .local /\ m x = some u) \/ ((env.kindOf x = some .cell \/ env.kindOf x = some .free) /\ ∃ c, env.cells.lookup x = some c /\ h.IsCell c (some u))
structure Cx.Ok (X : Cx) : Prop where
 mod : Mod X.K X.mg X.base
 kind : X.env.scope.kind = .function
 glob : X.env.globals = mainGlobals
 blt : X.env.builtins = builtinsNs
 above : X.s₀.heap.objs.size <= X.env.locals
 inj : ∀ x y c, X.env.cells.lookup x = some c -> X.env.cells.lookup y = some c -> x = y
 has : ∀ x, (X.env.kindOf x = some .cell \/ X.env.kindOf x = some .free) -> ∃ c, X.env.cells.lookup x = some c
 cab : ∀ x c, X.fn x = true -> X.env.cells.lookup x = some c -> X.s₀.heap.objs.size <= c
 hd : X.calm = true -> X.A.handled = none
 frames : X.A.frames = some X.stack
 stk : X.stack = X.outer \/ (X.stack = X.env :: X.outer /\ X.env.frame = some X.env.locals)
 exf : ∀ b ∈ X.ex, b ≠ X.env.locals /\ ∀ x c, X.env.cells.lookup x = some c -> c ≠ b
 bs : ∀ b o, X.base.get? b = some o -> X.s₀.heap.get? b = some o /\ X.H₀ b = none
 bsz : X.base.objs.size <= X.s₀.heap.objs.size
 noex : ∀ b o, X.base.get? b = some o -> b ∉ X.ex
 exfs : ∀ b ∈ X.ex, b ∉ X.fs
 funs : X.s₀.heap.FunFrames X.base X.outer
 frf : ∀ b ∈ X.fs, X.H₀ b = none
structure Inv (X : Cx) (pins : List (Addr × Obj)) (σ : List (Option V)) (H : Hp) (s : Shared) : Prop where
 ok : X.Ok
 os : s.os = X.s₀.os
 bare : AllBare s.gens
 base : Un X.fs X.ex X.H₀ H X.s₀.heap s.heap
 loc : ∃ m, s.heap.Ns X.env.locals m /\ ∀ (i : Nat) (x : Str) (v : V), X.N[i]? = some x -> σ[i]? = some (some v) -> Vis X.env.scope x -> ∃ u, RelV v u /\ Look X.env s.heap m x u
 cell : ∀ x c, X.env.cells.lookup x = some c -> ∃ v, s.heap.IsCell c v
 free : H X.env.locals = none
 freeC : ∀ x c, X.env.cells.lookup x = some c -> H c = none
 pin : ∀ p ∈ X.pn ++ pins, s.heap.get? p.1 = some p.2 /\ H p.1 = none /\ p.1 ≠ X.env.locals /\ p.1 ∉ X.fs /\ ∀ v, p.2.data ≠ .cell v
 hok : HOk X.prog X.w H s.heap
 len : σ.length = X.N.length
section
variable {X : Cx} {pins : List (Addr × Obj)} {σ : List (Option V)} {H H' : Hp} {s : Shared} {h' : Heap}
theorem Cx.Ok.nofr (ok : X.Ok) {b : Addr} {o : Obj} (e : X.base.get? b = some o) : b ∉ X.fs := fun hb => by
 have := (ok.funs.mem hb).1
 rw [e] at this; cases this
theorem Inv.bs (I : Inv X pins σ H s) : ∀ b o, X.base.get? b = some o -> s.heap.get? b = some o /\ H b = none := fun b o e =>
 ⟨I.base.keep b o (I.ok.bs b o e).1 (I.ok.bs b o e).2 (I.ok.nofr e) (I.ok.noex b o e), I.base.free b o (I.ok.bs b o e).1 (I.ok.bs b o e).2 (I.ok.noex b o e)⟩
theorem Inv.bk (I : Inv X pins σ H s) : ∀ b o, X.base.get? b = some o -> s.heap.get? b = some o := fun b o e => (I.bs b o e).1
theorem Inv.mod (I : Inv X pins σ H s) : Mod X.K X.mg X.base := I.ok.mod
theorem Inv.kIn (I : Inv X pins σ H s) : X.K.In s.heap := I.ok.mod.kin.keeps I.bk
theorem Inv.lt (I : Inv X pins σ H s) : X.env.locals < s.heap.objs.size := let ⟨_, hn, _⟩ := I.loc; hn.lt
theorem Inv.sz (I : Inv X pins σ H s) : X.s₀.heap.objs.size <= s.heap.objs.size := zq31x I.ok.above (zq136x I.lt)
theorem Inv.nofs (I : Inv X pins σ H s) {a : Addr} (h : s.heap.objs.size <= a) : a ∉ X.fs := fun hb => by
 obtain ⟨_, o, ho, _⟩ := I.ok.funs.mem hb
 exact absurd (zq26x (zq14x ho) (zq31x I.sz h)) (zq64x _)
theorem Inv.cne (I : Inv X pins σ H s) : ∀ x c, X.env.cells.lookup x = some c -> c ≠ X.env.locals := fun x c e z => by
 obtain ⟨v, o, ho, hd⟩ := I.cell x c e
 obtain ⟨m, ⟨o', es, ep, ho', hd', _⟩, _⟩ := I.loc
 rw [z, ho'] at ho; cases ho; rw [hd'] at hd; cases hd
theorem Inv.funs (I : Inv X pins σ H s) : s.heap.FunFrames X.base X.outer := by
  have all : ∀ (l : List Env), (∀ b ∈ frs l, b ∈ X.fs) -> X.s₀.heap.FunFrames X.base l -> s.heap.FunFrames X.base l := by
    intro l
    induction l with
    | nil => intro _ _; trivial
    | cons env r ih =>
      intro hs hl
      obtain ⟨hk, ⟨L, o, hf, hn, ho, hd⟩, hr⟩ := hl
      have hL : L ∈ X.fs := hs L (by unfold frs; rw [zq137x, hf]; exact zq27x)
      obtain ⟨sl, e⟩ := I.base.slot L o ho (I.ok.frf L hL) hL fun z => I.ok.exfs L z hL
      exact ⟨hk, ⟨L, _, hf, hn, e, hd⟩, ih (fun b hb => hs b (by unfold frs; rw [zq137x, hf]; exact zq21x _ hb)) hr⟩
  exact all X.outer (fun _ hb => hb) I.ok.funs
theorem Inv.stack (I : Inv X pins σ H s) : s.heap.FunFrames X.base X.stack := by
 rcases I.ok.stk with e | ⟨e, hf⟩
 ·rw [e]; exact I.funs
 ·rw [e]
  obtain ⟨m, hn, _⟩ := I.loc
  refine .cons (by rw [I.ok.kind]; decide) hf hn ?_ I.funs
  exact Heap.get?_none_of_le (zq31x I.ok.bsz I.ok.above)
theorem Inv.stkSub (I : Inv X pins σ H s) : ∀ b ∈ frs X.stack, b ∈ X.env.locals :: X.fs := fun b hb => by
 rcases I.ok.stk with e | ⟨e, hf⟩
 ·rw [e] at hb; exact zq21x _ hb
 ·rw [e] at hb
  unfold frs at hb
  rw [zq137x, hf] at hb
  exact hb
theorem Inv.stkFree (I : Inv X pins σ H s) : ∀ b ∈ frs X.stack, H b = none := fun b hb => by
 rcases zq3x.mp (I.stkSub b hb) with e | hb
 ·rw [e]; exact I.free
 ·obtain ⟨_, o, ho, _⟩ := I.ok.funs.mem hb
  exact I.base.free b o ho (I.ok.frf b hb) fun z => I.ok.exfs b z hb
theorem Inv.step {g' : Array GenState} {t' : Nat} {d' : Drawn} {ch : List Addr} (I : Inv X pins σ H s)
  (hch : ∀ b ∈ ch, (b ∈ X.ex \/ X.s₀.heap.objs.size <= b) /\ b ≠ X.env.locals /\ (∀ x c, X.env.cells.lookup x = some c -> c ≠ b) /\ ∀ p ∈ X.pn ++ pins, p.1 ≠ b)
  (keep : ∀ b o, b ≠ X.env.locals -> b ∉ X.fs -> b ∉ ch -> s.heap.get? b = some o -> H b = none -> h'.get? b = some o)
  (slot : ∀ b o, b ≠ X.env.locals -> b ∈ X.fs -> b ∉ ch -> s.heap.get? b = some o -> H b = none -> ∃ sl, h'.get? b = some { o with slots := sl }) (free : ∀ b o, b ∉ ch -> s.heap.get? b = some o -> H b = none -> H' b = none)
  (there : ∀ b o, b ∉ ch -> s.heap.get? b = some o -> ∃ o', h'.get? b = some o')
  (tups : ∀ b xs, H b = some (.tup xs) -> H' b = some (.tup xs)) (frzs : ∀ b o u, H b = some (.frz o u) -> H' b = some (.frz o u)) (tbls : ∀ b ps, H b = some (.tbl ps) -> ∃ more, H' b = some (.tbl (ps ++ more)))
  (ns : ∀ m, s.heap.Ns X.env.locals m -> h'.Ns X.env.locals m) (hok : HOk X.prog X.w H' h') (hg : AllBare g') :
  Inv X pins σ H' { s with heap := h', gens := g', drawn := d', toks := t' } := by
 have neL : ∀ b o, X.s₀.heap.get? b = some o -> b ≠ X.env.locals := fun b o e => zq47x (zq26x (zq14x e) I.ok.above)
 have neC : ∀ b o, X.s₀.heap.get? b = some o -> b ∉ X.ex -> b ∉ ch := fun b o e hx hb => by
  rcases (hch b hb).1 with z | z
  ·exact hx z
  ·exact absurd (zq26x (zq14x e) z) (zq64x _)
 have cellK : ∀ x c, X.env.cells.lookup x = some c -> ∀ v, s.heap.IsCell c v -> h'.IsCell c v := fun x c e v ⟨o, ho, hd⟩ => by
  have nch : c ∉ ch := fun z => (hch c z).2.2.1 x c e rfl
  by_cases hc : c ∈ X.fs
  ·obtain ⟨sl, q⟩ := slot c o (I.cne x c e) hc nch ho (I.freeC x c e)
   exact ⟨_, q, hd⟩
  ·exact ⟨o, keep c o (I.cne x c e) hc nch ho (I.freeC x c e), hd⟩
 refine ⟨I.ok, I.os, hg, ⟨fun b o e n hb hx => ?_, fun b o e n hb hx => ?_, fun b o e n hx => ?_, fun b o e hx => ?_, fun b xs e => tups b xs (I.base.tups b xs e), fun b o xs e => frzs b o xs (I.base.frzs b o xs e), fun b ps e => ?_⟩, ?_, fun x c e => ?_, ?_, fun x c e => ?_, fun p hp => ?_, hok, I.len⟩
 ·exact keep b o (neL b o e) hb (neC b o e hx) (I.base.keep b o e n hb hx) (I.base.free b o e n hx)
 ·obtain ⟨sl, e1⟩ := I.base.slot b o e n hb hx
  obtain ⟨sl', e2⟩ := slot b _ (neL b o e) hb (neC b o e hx) e1 (I.base.free b o e n hx)
  exact ⟨sl', e2⟩
 ·obtain ⟨o', e1⟩ := I.base.there b o e hx
  exact free b o' (neC b o e hx) e1 (I.base.free b o e n hx)
 ·obtain ⟨o', e1⟩ := I.base.there b o e hx
  exact there b o' (neC b o e hx) e1
 ·obtain ⟨m1, e1⟩ := I.base.tbls b ps e
  obtain ⟨m2, e2⟩ := tbls b _ e1
  exact ⟨m1 ++ m2, by rw [e2, Array.append_assoc]⟩
 ·obtain ⟨m, hn, hl⟩ := I.loc
  refine ⟨m, ns m hn, fun i x v e1 e2 e3 => ?_⟩
  obtain ⟨u, r, l⟩ := hl i x v e1 e2 e3
  refine ⟨u, r, ?_⟩
  rcases l with l | ⟨k, c, e, z⟩
  ·exact .inl l
  ·exact .inr ⟨k, c, e, cellK x c e _ z⟩
 ·obtain ⟨v, z⟩ := I.cell x c e
  exact ⟨v, cellK x c e v z⟩
 ·obtain ⟨m, ⟨o, _, _, ho, _⟩, _⟩ := I.loc
  exact free _ o (fun z => (hch _ z).2.1 rfl) ho I.free
 ·obtain ⟨v, o, ho, hd⟩ := I.cell x c e
  exact free c o (fun z => (hch c z).2.2.1 x c e rfl) ho (I.freeC x c e)
 ·obtain ⟨e, n, ne, nf, d⟩ := I.pin p hp
  have nch : p.1 ∉ ch := fun z => (hch p.1 z).2.2.2 p hp rfl
  exact ⟨keep p.1 p.2 ne nf nch e n, free p.1 p.2 nch e n, ne, nf, d⟩
theorem Inv.un {t' : Nat} (I : Inv X pins σ H s) (u : Un X.fs [] H H' s.heap h') (hok : HOk X.prog X.w H' h') : Inv X pins σ H' { s with heap := h', toks := t' } := by
 obtain ⟨m, ⟨o, es, ep, ho, r⟩, _⟩ := id I.loc
 obtain ⟨sl, hL⟩ := u.any ho I.free (by simp)
 exact I.step (g' := s.gens) (d' := s.drawn) (ch := []) (fun _ z => nomatch z) (fun b o _ hb _ e n => u.keep b o e n hb (by simp)) (fun b o _ hb _ e n => u.slot b o e n hb (by simp)) (fun b o _ e n => u.free b o e n (by simp)) (fun b o _ e => u.there b o e (by simp)) u.tups u.frzs u.tbls (fun m' hm => by
  obtain ⟨o', es', ep', ho', r'⟩ := hm
  rw [ho] at ho'; cases ho'
  exact ⟨_, es', ep', hL, r'⟩) hok I.bare
theorem Inv.call {g' : Array GenState} {t' : Nat} {d' : Drawn} {ch : List Addr} (I : Inv X pins σ H s) (u : Un (frs X.stack) ch H H' s.heap h') (hok : HOk X.prog X.w H' h') (hg : AllBare g')
  (hch : ∀ b ∈ ch, (b ∈ X.ex \/ X.s₀.heap.objs.size <= b) /\ b ≠ X.env.locals /\ (∀ x c, X.env.cells.lookup x = some c -> c ≠ b) /\ ∀ p ∈ X.pn ++ pins, p.1 ≠ b) :
  Inv X pins σ H' { s with heap := h', gens := g', drawn := d', toks := t' } := by
 obtain ⟨m, ⟨o, es, ep, ho, r⟩, _⟩ := id I.loc
 obtain ⟨sl, hL⟩ := u.any ho I.free fun z => (hch _ z).2.1 rfl
 exact I.step (ch := ch) hch (fun b o hL hb hc e n => u.keep b o e n (fun z => (zq3x.mp (I.stkSub b z)).elim hL hb) hc) (fun b o _ _ hc e n => u.any e n hc) (fun b o hc e n => u.free b o e n hc) (fun b o hc e => u.there b o e hc) u.tups u.frzs u.tbls (fun m' hm => by
  obtain ⟨o', es', ep', ho', r'⟩ := hm
  rw [ho] at ho'; cases ho'
  exact ⟨_, es', ep', hL, r'⟩) hok hg
theorem Inv.turned {t' : Nat} {it : Addr} (I : Inv X pins σ H s) (k : ∀ b o, b ≠ it -> s.heap.get? b = some o -> h'.get? b = some o) (hn : H it = none) (hL : it ≠ X.env.locals)
  (h1 : it ∈ X.ex \/ X.s₀.heap.objs.size <= it) (h2 : ∀ x c, X.env.cells.lookup x = some c -> c ≠ it) (h3 : ∀ p ∈ X.pn ++ pins, p.1 ≠ it) : Inv X pins σ H { s with heap := h', toks := t' } := by
 have nit : ∀ b u, H b = some u -> b ≠ it := fun b u e z => by rw [z, hn] at e; cases e
 refine I.step (g' := s.gens) (d' := s.drawn) (ch := [it]) (fun b hb => ?_) (fun b o _ _ hc e _ => k b o (fun z => hc (by simp [z])) e) (fun b o _ _ hc e _ => ⟨o.slots, k b o (fun z => hc (by simp [z])) e⟩) (fun _ _ _ _ n => n)
  (fun b o hc e => ⟨o, k b o (fun z => hc (by simp [z])) e⟩) (fun _ _ e => e) (fun _ _ _ e => e) (fun b ps e => ⟨#[], by rw [e]; simp⟩) (fun m hm => ?_) (fun b u e => ?_) I.bare
 ·have e : b = it := by simpa using hb
  subst e
  exact ⟨h1, hL, h2, h3⟩
 ·obtain ⟨o, es, ep, ho, r⟩ := hm
  exact ⟨o, es, ep, k _ o (zq11x hL) ho, r⟩
 ·refine (I.hok b u e).stay (fun c v hc q => k c v ?_ q) (fun _ q => q) fun _ _ q => q
  rcases hc with z | z
  ·rw [z]; exact nit b u e
  ·exact nit c _ z
theorem Inv.tok (I : Inv X pins σ H s) (t : Nat) : Inv X pins σ H { s with toks := t } := I.un (h' := s.heap) (t' := t) Un.refl I.hok
theorem Inv.kept {t' : Nat} (I : Inv X pins σ H s) (k : ∀ b u, s.heap.get? b = some u -> h'.get? b = some u) : Inv X pins σ H { s with heap := h', toks := t' } := I.un (Un.kept k) (I.hok.kept k)
theorem Inv.laid {a : Addr} {o : HO} {t' : Nat} (I : Inv X pins σ H s) (k : ∀ b u, s.heap.get? b = some u -> h'.get? b = some u) (hp : s.heap.objs.size <= a) (new : ObjOk X.prog X.w (upd H a o) h' a o) :
  Inv X pins σ (upd H a o) { s with heap := h', toks := t' } := I.un (Un.laid k hp (I.hok.fresh hp)) (I.hok.laid k hp new)
theorem Inv.write {x e : Addr} {o : HO} {t' : Nat} (I : Inv X pins σ H s) (mu : Mut (H x)) (he : e = x \/ H e = some (.own x)) (k : ∀ b u, b ≠ e -> s.heap.get? b = some u -> h'.get? b = some u) (heo : ∃ u, h'.get? e = some u)
  (new : ObjOk X.prog X.w (upd H x o) h' x o) : Inv X pins σ (upd H x o) { s with heap := h', toks := t' } := I.un (Un.write mu he k heo) (I.hok.write mu he k heo new)
theorem Inv.pins_of {pins' : List (Addr × Obj)} (I : Inv X pins σ H s) (h : ∀ p ∈ pins', s.heap.get? p.1 = some p.2 /\ H p.1 = none /\ p.1 ≠ X.env.locals /\ p.1 ∉ X.fs /\ ∀ v, p.2.data ≠ .cell v) : Inv X pins' σ H s :=
 ⟨I.ok, I.os, I.bare, I.base, I.loc, I.cell, I.free, I.freeC, fun p hp => (zq22x.mp hp).elim (fun z => I.pin p (zq48x _ z)) (h p), I.hok, I.len⟩
theorem nodup_ix {N : List Str} (hN : N.Nodup) {i j : Nat} {x : Str} (a : N[i]? = some x) (b : N[j]? = some x) : i = j := by
 obtain ⟨h1, e1⟩ := zq8x.mp a
 obtain ⟨h2, e2⟩ := zq8x.mp b
 exact (List.getElem_inj hN).mp (e1.trans e2.symm)
theorem store_ok2 {M : Model} {A : Around} {E : Value -> Shared -> Prop} {i : Nat} {x : Str} {v : V} {u : Value} {Q : Unit -> Shared -> Prop} (I : Inv X pins σ H s) (hN : X.N.Nodup) (hi : X.N[i]? = some x) (hx : Loc X.env.scope x) (r : RelV v u)
  (h : ∀ s', Inv X pins (σ.set i (some v)) H s' -> (∃ a, Heap.SameBut a s.heap s'.heap /\ (a = X.env.locals \/ X.env.cells.lookup x = some a)) -> Q () s') (hf : X.fn x = true \/ X.env.scope.names.lookup x = some .local := by first | exact .inl rfl | exact .inr rfl | assumption) : wpAny M A (storeName X.env x u) Q E s := by
 obtain ⟨m, hn, hl⟩ := id I.loc
 have hcls : (X.env.scope.kind == .class || (X.env.scope.kind == .module && X.env.locals != X.env.globals)) = false := by rw [I.ok.kind]; rfl
 have hiσ : i < σ.length := by rw [I.len]; exact (zq8x.mp hi).1
 have cne := I.cne
 have tracked : ∀ {a : Addr} {h' : Heap}, (∃ o, s.heap.get? a = some o /\ H a = none) -> Heap.SameBut a s.heap h' -> HOk X.prog X.w H h' := fun {a h'} ha hs b ob e => by
  obtain ⟨_, _, hfree⟩ := ha
  refine (I.hok b ob e).stay (fun c w' hc q => (hs.2 c ?_).trans q) (fun _ q => q) fun _ _ q => q
  rintro rfl
  rcases hc with rfl | hc
  ·rw [hfree] at e; cases e
  ·rw [hfree] at hc; cases hc
 rcases hx with hk | hk
 ·refine wpAny_storeName_local hk hn (fun h' hn' hs => ?_) hcls
  obtain ⟨oL, _, _, hoL, _⟩ := id hn
  refine h _ ⟨I.ok, I.os, I.bare, ⟨fun b o e n hb hx => ?_, fun b o e n hb hx => ?_, I.base.free, fun b o e hx => ?_, I.base.tups, I.base.frzs, I.base.tbls⟩, ⟨_, hn', fun j y v' e1 e2 e3 => ?_⟩, fun y c e => ?_, I.free, I.freeC, fun p hp => ?_, tracked ⟨oL, hoL, I.free⟩ hs, by simpa using I.len⟩ ⟨_, hs, .inl rfl⟩
  ·exact (hs.2 b (zq47x (zq26x (zq14x e) I.ok.above))).trans (I.base.keep b o e n hb hx)
  ·obtain ⟨sl, e1⟩ := I.base.slot b o e n hb hx
   exact ⟨sl, (hs.2 b (zq47x (zq26x (zq14x e) I.ok.above))).trans e1⟩
  ·obtain ⟨o', e1⟩ := I.base.there b o e hx
   exact ⟨o', (hs.2 b (zq47x (zq26x (zq14x e) I.ok.above))).trans e1⟩
  ·by_cases hj : j = i
   ·subst hj
    rw [hi] at e1; cases e1
    rw [zq18x hiσ] at e2
    cases e2
    exact ⟨u, r, .inl ⟨hk, by simp⟩⟩
   ·rw [zq6x (zq11x hj)] at e2
    obtain ⟨u', r', q⟩ := hl j y v' e1 e2 e3
    refine ⟨u', r', ?_⟩
    rcases q with ⟨k, e⟩ | ⟨k, c, e, z⟩
    ·refine .inl ⟨k, ?_⟩
     have : y ≠ x := fun e => hj (nodup_ix hN e1 (e ▸ hi))
     simp [this, e]
    ·exact .inr ⟨k, c, e, z.sameBut hs (cne y c e)⟩
  ·obtain ⟨w', z⟩ := I.cell y c e
   exact ⟨w', z.sameBut hs (cne y c e)⟩
  ·obtain ⟨e, n, ne, nf, d⟩ := I.pin p hp
   exact ⟨(hs.2 p.1 ne).trans e, n, ne, nf, d⟩
 ·have hfn : X.fn x = true := by
   rcases hf with z | z
   ·exact z
   ·rw [z] at hk; cases hk
  obtain ⟨c, hc⟩ := I.ok.has x (.inl hk)
  obtain ⟨w', z⟩ := I.cell x c hc
  refine wpAny_storeName_cell I.ok.kind hk hc z (fun h' hc' hs => ?_)
  obtain ⟨oc, hoc, hocd⟩ := id z
  refine h { s with heap := h' } ⟨I.ok, I.os, I.bare, ⟨fun b o e n hb hx => ?_, fun b o e n hb hx => ?_, I.base.free, fun b o e hx => ?_, I.base.tups, I.base.frzs, I.base.tbls⟩, ⟨m, hn.sameBut hs (zq11x (cne x c hc)), fun j y v' e1 e2 e3 => ?_⟩, fun y c' e => ?_, I.free, I.freeC, fun p hp => ?_, tracked ⟨oc, hoc, I.freeC x c hc⟩ hs, by simpa using I.len⟩ ⟨c, hs, .inr hc⟩
  ·exact (hs.2 b (zq47x (zq26x (zq14x e) (I.ok.cab x c hfn hc)))).trans (I.base.keep b o e n hb hx)
  ·obtain ⟨sl, e1⟩ := I.base.slot b o e n hb hx
   exact ⟨sl, (hs.2 b (zq47x (zq26x (zq14x e) (I.ok.cab x c hfn hc)))).trans e1⟩
  ·obtain ⟨o', e1⟩ := I.base.there b o e hx
   exact ⟨o', (hs.2 b (zq47x (zq26x (zq14x e) (I.ok.cab x c hfn hc)))).trans e1⟩
  ·by_cases hj : j = i
   ·subst hj
    rw [hi] at e1; cases e1
    rw [zq18x hiσ] at e2
    cases e2
    exact ⟨u, r, .inr ⟨.inl hk, c, hc, hc'⟩⟩
   ·rw [zq6x (zq11x hj)] at e2
    obtain ⟨u', r', q⟩ := hl j y v' e1 e2 e3
    refine ⟨u', r', ?_⟩
    rcases q with q | ⟨k, c', e, z'⟩
    ·exact .inl q
    ·refine .inr ⟨k, c', e, z'.sameBut hs ?_⟩
     rintro rfl
     exact hj (nodup_ix hN e1 (I.ok.inj _ _ _ e hc ▸ hi))
  ·by_cases hcc : c' = c
   ·subst hcc; exact ⟨_, hc'⟩
   ·obtain ⟨w2, z2⟩ := I.cell y c' e
    exact ⟨w2, z2.sameBut hs hcc⟩
  ·obtain ⟨e, n, ne, nf, d⟩ := I.pin p hp
   refine ⟨(hs.2 p.1 ?_).trans e, n, ne, nf, d⟩
   intro q
   rw [q, hoc] at e
   have q' : oc = p.2 := zq32x e
   exact d w' (by rw [<- q']; exact hocd)
theorem store_ok {M : Model} {A : Around} {E : Value -> Shared -> Prop} {i : Nat} {x : Str} {v : V} {u : Value} {Q : Unit -> Shared -> Prop} (I : Inv X pins σ H s) (hN : X.N.Nodup) (hi : X.N[i]? = some x) (hx : Loc X.env.scope x) (r : RelV v u)
  (h : ∀ s', Inv X pins (σ.set i (some v)) H s' -> Q () s') (hf : X.fn x = true \/ X.env.scope.names.lookup x = some .local := by first | exact .inl rfl | exact .inr rfl | assumption) : wpAny M A (storeName X.env x u) Q E s :=
 store_ok2 I hN hi hx r (fun s' I' _ => h s' I') hf
theorem Inv.call' {s' : Shared} {ch : List Addr} (I : Inv X pins σ H s) (ho : s'.os = s.os) (u : Un (frs X.stack) ch H H' s.heap s'.heap) (hok : HOk X.prog X.w H' s'.heap) (hg : AllBare s'.gens)
  (hch : ∀ b ∈ ch, (b ∈ X.ex \/ X.s₀.heap.objs.size <= b) /\ b ≠ X.env.locals /\ (∀ x c, X.env.cells.lookup x = some c -> c ≠ b) /\ ∀ p ∈ X.pn ++ pins, p.1 ≠ b) : Inv X pins σ H' s' := by
 obtain ⟨h', g', d', t', o'⟩ := s'
 have e : o' = s.os := ho
 subst e
 exact I.call (g' := g') (t' := t') (d' := d') u hok hg hch
end
abbrev XK := Value -> Option Addr -> Hp -> Prop
abbrev St := List (Option V)
abbrev VK := V -> Hp -> Prop
abbrev TE := St -> Hp -> VK -> Prop
abbrev TT := St -> Hp -> (Bool -> Hp -> Prop) -> Prop
abbrev TA := St -> Hp -> (List V -> Hp -> Prop) -> Prop
structure Ends where
 nx : St -> Hp -> Prop
 rt : VK
 bk : St -> Hp -> Prop := fun _ _ => False
 ct : St -> Hp -> Prop := fun _ _ => False
abbrev TS := Ends -> St -> Hp -> Prop
def EP (X : Cx) (pins : List (Addr × Obj)) (σ : St) (Q : VK) (u : Value) (s' : Shared) : Prop := ∃ v H', Inv X pins σ H' s' /\ RelV v u /\ Q v H'
def TP (X : Cx) (pins : List (Addr × Obj)) (σ : St) (Q : Bool -> Hp -> Prop) (b : Bool) (s' : Shared) : Prop := ∃ H', Inv X pins σ H' s' /\ Q b H'
def AP (X : Cx) (pins : List (Addr × Obj)) (σ : St) (Q : List V -> Hp -> Prop) (us : List Value) (s' : Shared) : Prop := ∃ vs H', Inv X pins σ H' s' /\ Vals vs us /\ Q vs H'
def SP (X : Cx) (pins : List (Addr × Obj)) (D : Ends) (f : Flow) (s' : Shared) : Prop :=
 match f with
 | .next => ∃ σ' H', Inv X pins σ' H' s' /\ D.nx σ' H'
 | .brk => ∃ σ' H', Inv X pins σ' H' s' /\ D.bk σ' H'
 | .cont => ∃ σ' H', Inv X pins σ' H' s' /\ D.ct σ' H'
 | .ret u => ∃ v σ' H', Inv X pins σ' H' s' /\ RelV v u /\ D.rt v H'
def PE (X : Cx) (e : Expr) (t : TE) : Prop :=
 ∀ (pins : List (Addr × Obj)) (s : Shared) (σ : St) (H : Hp) (Q : VK), Inv X pins σ H s -> t σ H Q -> wpAny (model X.prog X.w) X.A (eval e X.env) (EP X pins σ Q) X.xe s
def PT (X : Cx) (e : Expr) (t : TT) : Prop :=
 ∀ (pins : List (Addr × Obj)) (s : Shared) (σ : St) (H : Hp) (Q : Bool -> Hp -> Prop), Inv X pins σ H s -> t σ H Q -> wpAny (model X.prog X.w) X.A (isTrue e X.env (eval e X.env)) (TP X pins σ Q) X.xe s
def PW (X : Cx) (e : Expr) (t : TT) : Prop :=
 ∀ (whole : Sem Value) (pins : List (Addr × Obj)) (s : Shared) (σ : St) (H : Hp) (Q : Bool -> Hp -> Prop), Inv X pins σ H s -> t σ H Q -> wpAny (model X.prog X.w) X.A (isTrue e X.env whole) (TP X pins σ Q) X.xe s
theorem PW.pt {X : Cx} {e : Expr} {t : TT} (h : PW X e t) : PT X e t := h _
def PA (X : Cx) (es : List Expr) (t : TA) : Prop :=
 ∀ (pos : Pos) (pins : List (Addr × Obj)) (s : Shared) (σ : St) (H : Hp) (Q : List V -> Hp -> Prop), Inv X pins σ H s -> t σ H Q -> wpAny (model X.prog X.w) X.A (spliced (backTo pos (starEach es X.env))) (AP X pins σ Q) X.xe s
def PS (X : Cx) (st : Stmt) (t : TS) : Prop :=
 ∀ (pins : List (Addr × Obj)) (s : Shared) (σ : St) (H : Hp) (D : Ends), Inv X pins σ H s -> t D σ H -> wpAny (model X.prog X.w) X.A (exec st X.env) (SP X pins D) X.xe s
def PSs (X : Cx) (st : List Stmt) (t : TS) : Prop :=
 ∀ (pins : List (Addr × Obj)) (s : Shared) (σ : St) (H : Hp) (D : Ends), Inv X pins σ H s -> t D σ H -> wpAny (model X.prog X.w) X.A (execs st X.env) (SP X pins D) X.xe s
theorem thn {α : Type} {t : Sem α} {Q Q' : α -> Shared -> Prop} {M : Model} {A : Around} {E : Value -> Shared -> Prop} {s : Shared} (h : wpAny M A t Q E s) (hQ : ∀ a s, Q a s -> Q' a s) : wpAny M A t Q' E s := wpAny_mono h hQ fun _ _ x => x
section
variable {X : Cx}
theorem bin {a b : Expr} {ta tb : TE} (ha : PE X a ta) (hb : PE X b tb) {pins : List (Addr × Obj)} {s : Shared} {σ : St} {H : Hp} {R : V -> V -> Hp -> Prop} (I : Inv X pins σ H s) (h : ta σ H fun x H1 => tb σ H1 fun y H2 => R x y H2)
  {α : Type} {Q : α -> Shared -> Prop} {f : Value -> Value -> Sem α}
  (hf : ∀ v u s2 x y H2, Inv X pins σ H2 s2 -> RelV x v -> RelV y u -> R x y H2 -> wpAny (model X.prog X.w) X.A (f v u) Q X.xe s2) :
  wpAny (model X.prog X.w) X.A (eval a X.env) (fun v s₁ => wpAny (model X.prog X.w) X.A (eval b X.env) (fun u s₂ => wpAny (model X.prog X.w) X.A (f v u) Q X.xe s₂) X.xe s₁) X.xe s := by
 refine thn (ha pins s σ H _ I h) fun v s1 ⟨x, H1, I1, r1, q1⟩ => ?_
 refine thn (hb pins s1 σ H1 _ I1 q1) fun u s2 ⟨y, H2, I2, r2, q2⟩ => ?_
 exact hf v u s2 x y H2 I2 r1 r2 q2
def tVar (i : Nat) : TE := fun σ H Q => ∃ v, σ[i]? = some (some v) /\ Q v H
def tC (v : V) : TE := fun _ H Q => Q v H
theorem pe_var {i : Nat} {x : Str} {pos : Pos} (hN : X.N[i]? = some x) (hv : Vis X.env.scope x) (hd : (x == ("__debug__" : Str)) = false := by decide) (hcd : (x == ("__classdict__" : Str)) = false := by decide) : PE X (.Name x pos) (tVar i) := by
 intro pins s σ H Q I h
 obtain ⟨v, e, h⟩ := h
 obtain ⟨m, hn, hl⟩ := I.loc
 obtain ⟨u, r, l⟩ := hl i x v hN e hv
 have fin : EP X pins σ Q u s := ⟨v, H, I, r, h⟩
 rcases l with ⟨hk, hm⟩ | ⟨hk, c, hc, hcell⟩
 ·exact wpAny_Name (wpAny_loadName_local I.ok.kind hk hn hm fin) hd
 ·rcases hk with hk | hk
  ·exact wpAny_Name (wpAny_loadName_cell I.ok.kind hk hc hcell fin) hd
  ·exact wpAny_Name (wpAny_loadName_free I.ok.kind hk hc hcell fin hcd) hd
theorem pe_int {i j pos} : PE X (.Constant (.int i) j pos) (tC (.int i)) := fun _ _ _ H _ I h => wpAny_Constant_int ⟨.int i, H, I.tok _, ⟨_, rfl⟩, h⟩
theorem pe_bl {b j pos} : PE X (.Constant (.bool b) j pos) (tC (.bl b)) := fun _ _ _ H _ I h => Constant_bool ⟨.bl b, H, I, rfl, h⟩
theorem pe_non {j pos} : PE X (.Constant .none j pos) (tC .non) := fun _ _ _ H _ I h => Constant_none ⟨.non, H, I, rfl, h⟩
def Gl (X : Cx) (x : Str) : Prop := X.env.kindOf x = some .globalImplicit
theorem ld_glob {E : Value -> Shared -> Prop} {pins : List (Addr × Obj)} {s : Shared} {σ : St} {H : Hp} {x : Str} {u : Value} {pos : Pos} {Q : Value -> Shared -> Prop} (I : Inv X pins σ H s) (hg : Gl X x) (hm : X.mg x = some u) (h : Q u s)
  (hd : (x == ("__debug__" : Str)) = false := by decide) : wpAny (model X.prog X.w) X.A (eval (.Name x pos) X.env) Q E s :=
 zq169x I.ok.kind hg (Calls.loadGlobal_global (by rw [I.ok.glob]; exact I.mod.glob.keeps I.bk) hm h) hd
theorem ld_blt {E : Value -> Shared -> Prop} {pins : List (Addr × Obj)} {s : Shared} {σ : St} {H : Hp} {x : Str} {u : Value} {pos : Pos} {Q : Value -> Shared -> Prop} (I : Inv X pins σ H s) (hg : Gl X x) (hm : X.mg x = none) (hv : bootBuiltins x = some u) (h : Q u s)
  (hn : x ≠ "__name__" := by decide) (hd : (x == ("__debug__" : Str)) = false := by decide) : wpAny (model X.prog X.w) X.A (eval (.Name x pos) X.env) Q E s := by
 obtain ⟨mb, h1, h2⟩ := I.mod.blt
 exact zq169x I.ok.kind hg (Calls.loadGlobal_builtin (by rw [I.ok.glob]; exact I.mod.glob.keeps I.bk) hm (by rw [I.ok.blt]; exact h1.keeps I.bk) ((h2 x hn).trans hv) h) hd
theorem pe_bltn {x : Str} {v : V} {u : Value} {pos : Pos} (hg : Gl X x) (hm : X.mg x = none) (hv : bootBuiltins x = some u) (r : RelV v u) (hn : x ≠ "__name__" := by decide) (hd : (x == ("__debug__" : Str)) = false := by decide) : PE X (.Name x pos) (tC v) :=
 fun _ _ _ H _ I h => ld_blt I hg hm hv ⟨v, H, I, r, h⟩ hn hd
variable {a b : Expr} {ta tb : TE} {pos : Pos}
def PC (X : Cx) (op : CmpOp) (a b : Expr) (t : TE) : Prop :=
 ∀ (pins : List (Addr × Obj)) (s : Shared) (σ : St) (H : Hp) (Q : VK), Inv X pins σ H s -> t σ H Q ->
  wpAny (model X.prog X.w) X.A (eval a X.env) (fun v s₁ => wpAny (model X.prog X.w) X.A (eval b X.env) (fun u s₂ => wpAny (model X.prog X.w) X.A (compareOp op v u) (EP X pins σ Q) X.xe s₂) X.xe s₁) X.xe s
variable {tA tB' : TT} {rest : List Expr}
def tAnd (t u : TT) : TT := fun σ H Q => t σ H fun c H1 => if c = true then u σ H1 Q else Q false H1
def tOr (t u : TT) : TT := fun σ H Q => t σ H fun c H1 => if c = true then Q true H1 else u σ H1 Q
def tNot (t : TT) : TT := fun σ H Q => t σ H fun c H1 => Q (!c) H1
theorem pw_and1 (ha : PT X a tA) : PW X (.BoolOp .And [a] pos) tA := by
 intro wh pins s σ H Q I h
 refine isTrue_and (thn (ha pins s σ H Q I h) fun c s1 e => ?_)
 cases c with
 | true => exact isTrue_and_nil e
 | false => exact e
theorem pw_or1 (ha : PT X a tA) : PW X (.BoolOp .Or [a] pos) tA := by
 intro wh pins s σ H Q I h
 refine isTrue_or (thn (ha pins s σ H Q I h) fun c s1 e => ?_)
 cases c with
 | false => exact isTrue_or_nil e
 | true => exact e
theorem pw_and (ha : PT X a tA) (hb : PW X (.BoolOp .And (b :: rest) pos) tB') : PW X (.BoolOp .And (a :: b :: rest) pos) (tAnd tA tB') := by
 intro wh pins s σ H Q I h
 refine isTrue_and (thn (ha pins s σ H _ I h) fun c s1 ⟨H1, I1, q1⟩ => ?_)
 cases c with
 | true => exact hb wh pins s1 σ H1 Q I1 q1
 | false => exact ⟨H1, I1, q1⟩
theorem pw_or (ha : PT X a tA) (hb : PW X (.BoolOp .Or (b :: rest) pos) tB') : PW X (.BoolOp .Or (a :: b :: rest) pos) (tOr tA tB') := by
 intro wh pins s σ H Q I h
 refine isTrue_or (thn (ha pins s σ H _ I h) fun c s1 ⟨H1, I1, q1⟩ => ?_)
 cases c with
 | true => exact ⟨H1, I1, q1⟩
 | false => exact hb wh pins s1 σ H1 Q I1 q1
theorem pt_not (ha : PT X a tA) : PT X (.UnaryOp .Not a pos) (tNot tA) := by
 intro pins s σ H Q I h
 exact isTrue_not (ha pins s σ H (fun c H1 => Q (!c) H1) I h)
def tAndV (ta tb : TE) : TE := fun σ H Q => ta σ H fun x H1 => ∃ c, x = .bl c /\ if c = true then tb σ H1 Q else Q (.bl false) H1
def tNotV (ta : TE) : TE := fun σ H Q => ta σ H fun x H1 => ∃ c, x = .bl c /\ Q (.bl (!c)) H1
theorem pe_one {op} {t : TE} (h : PE X a t) : PE X (.BoolOp op [a] pos) t := fun pins s σ H Q I hw => BoolOp_one (h pins s σ H Q I hw)
theorem pe_and (ha : PE X a ta) (hb : PE X (.BoolOp .And (b :: rest) pos) tb) : PE X (.BoolOp .And (a :: b :: rest) pos) (tAndV ta tb) := by
 intro pins s σ H Q I h
 refine BoolOp_and (thn (ha pins s σ H _ I h) fun v s1 ⟨x, H1, I1, r1, q1⟩ => ?_)
 obtain ⟨c, rfl, q1⟩ := q1
 cases r1
 refine wpAny_truthy_bool ?_
 cases c with
 | true => exact hb pins s1 σ H1 Q I1 q1
 | false => exact ⟨.bl false, H1, I1, rfl, q1⟩
theorem pe_not (ha : PE X a ta) : PE X (.UnaryOp .Not a pos) (tNotV ta) := by
 intro pins s σ H Q I h
 refine UnaryOp_ (thn (ha pins s σ H _ I h) fun v s1 ⟨x, H1, I1, r1, q1⟩ => ?_)
 obtain ⟨c, rfl, q1⟩ := q1
 cases r1
 exact not_of (wpAny_truthy_bool ⟨.bl (!c), H1, I1, rfl, q1⟩)
def tIf (t : TT) (ta tb : TE) : TE := fun σ H Q => t σ H fun c H1 => if c = true then ta σ H1 Q else tb σ H1 Q
theorem pe_ifExp {c : Expr} (hc : PT X c tA) (ha : PE X a ta) (hb : PE X b tb) : PE X (.IfExp c a b pos) (tIf tA ta tb) := by
 intro pins s σ H Q I h
 refine wpAny_IfExp (thn (hc pins s σ H _ I h) fun d s1 ⟨H1, I1, q1⟩ => ?_)
 cases d with
 | true => exact ha pins s1 σ H1 Q I1 q1
 | false => exact hb pins s1 σ H1 Q I1 q1
end
def SqL (K : PySem.W.Frag) (H : Hp) (a : Addr) (xs : List V) : Prop :=
 Rd H a (.lst xs) \/
  ∃ (o : Obj) (its : Array Value) (n : Nat), K.lookup a = some o /\ o.cls = .type "list" /\ o.dict = none /\ o.data = .seq its n /\ its.size <= sizeLine /\ Vals xs its.toList
def SqT (K : PySem.W.Frag) (H : Hp) (a : Addr) (xs : List V) : Prop :=
 Rd H a (.tup xs) \/
  ∃ (o : Obj) (its : Array Value) (n : Nat), K.lookup a = some o /\ o.cls = .type "tuple" /\ o.data = .seq its n /\ its.size <= sizeLine /\ Vals xs its.toList
def absV : Value -> Option V
 | .none => some .non
 | .bool b => some (.bl b)
 | .int i _ => some (.int i)
 | .str x _ => some (.str x)
 | .bytes b _ => some (.byt b)
 | .float b _ => some (.flt b)
 | .ref a => some (.ref a)
 | .type n => some (.ty n)
 | _ => none
theorem RelV.abs {x : V} {u : Value} (r : RelV x u) : absV u = some x := by
 cases x with
 | non => cases r; rfl
 | bl _ => cases r; rfl
 | int _ => obtain ⟨t, rfl⟩ := r; rfl
 | str _ => obtain ⟨t, rfl⟩ := r; rfl
 | byt _ => obtain ⟨t, rfl⟩ := r; rfl
 | flt _ => obtain ⟨t, rfl⟩ := r; rfl
 | ref _ => cases r; rfl
 | ty _ => cases r; rfl
theorem RelV.inj {x y : V} {u : Value} (r : RelV x u) (q : RelV y u) : x = y := zq32x (r.abs.symm.trans q.abs)
theorem Vals.inj {xs ys : List V} {us : List Value} (h : Vals xs us) (k : Vals ys us) : xs = ys := by
 induction h generalizing ys with
 | nil => cases k; rfl
 | cons r t ih => cases k with | cons r' t' => rw [r.inj r', ih t']
section
variable {X : Cx} {pins : List (Addr × Obj)} {σ : St} {H : Hp} {s : Shared} {a : Addr} {xs ys : List V}
theorem SqL.of {K : PySem.W.Frag} (h : H a = some (.lst xs)) : SqL K H a xs := .inl (.inl h)
theorem SqT.of {K : PySem.W.Frag} (h : H a = some (.tup xs)) : SqT K H a xs := .inl (.inl h)
theorem Inv.list (I : Inv X pins σ H s) (h : SqL X.K H a xs) : ∃ its : List Value, Vals xs its /\ PlainL s.heap a its.toArray /\ xs.length <= sizeLine := by
 rcases h with h | ⟨o, its, n, hk, hc, hd, hs, hz, r⟩
 ·obtain ⟨z, its, n, r, e⟩ := h.ok I.hok
  exact ⟨its, r, ⟨_, n, e, rfl, rfl, rfl⟩, z⟩
 ·refine ⟨its.toList, r, ⟨o, n, I.kIn a o hk, hc, hd, by simpa using hs⟩, ?_⟩
  have e := r.length
  simp only [zq138x] at e
  omega
theorem Inv.tuple (I : Inv X pins σ H s) (h : SqT X.K H a xs) : ∃ its : List Value, Vals xs its /\ IsTup s.heap a its.toArray /\ xs.length <= sizeLine := by
 rcases h with h | ⟨o, its, n, hk, hc, hs, hz, r⟩
 ·obtain ⟨z, its, r, p⟩ := h.ok I.hok
  exact ⟨its, r, p, z⟩
 ·refine ⟨its.toList, r, ⟨o, I.kIn a o hk, hc, n, by simpa using hs⟩, ?_⟩
  have e := r.length
  simp only [zq138x] at e
  omega
theorem Inv.list_inj (I : Inv X pins σ H s) (h : SqL X.K H a xs) (h' : SqL X.K H a ys) : xs = ys := by
 obtain ⟨its, r, ⟨o, n, e, _, _, d⟩, _⟩ := I.list h
 obtain ⟨its', r', ⟨o', n', e', _, _, d'⟩, _⟩ := I.list h'
 rw [e] at e'; cases e'
 rw [d] at d'
 injection d' with d1 _
 have : its = its' := by simpa using congrArg Array.toList d1
 subst this
 exact r.inj r'
end
abbrev Cx.wish (X : Cx) (E : Value -> Shared -> Prop) : Cx := { X with xe := E }
abbrev Cx.nox (X : Cx) : Cx := X.wish fun _ _ => False
theorem Cx.Ok.wish {X : Cx} (ok : X.Ok) (E : Value -> Shared -> Prop) : (X.wish E).Ok :=
 ⟨ok.mod, ok.kind, ok.glob, ok.blt, ok.above, ok.inj, ok.has, ok.cab, ok.hd, ok.frames, ok.stk, ok.exf, ok.bs, ok.bsz, ok.noex, ok.exfs, ok.funs, ok.frf⟩
theorem Cx.Ok.unwish {X : Cx} {E : Value -> Shared -> Prop} (ok : (X.wish E).Ok) : X.Ok :=
 ⟨ok.mod, ok.kind, ok.glob, ok.blt, ok.above, ok.inj, ok.has, ok.cab, ok.hd, ok.frames, ok.stk, ok.exf, ok.bs, ok.bsz, ok.noex, ok.exfs, ok.funs, ok.frf⟩
section
variable {X : Cx} {pins : List (Addr × Obj)} {σ : St} {H : Hp} {s : Shared} {E : Value -> Shared -> Prop}
theorem Inv.wish (I : Inv X pins σ H s) (E : Value -> Shared -> Prop) : Inv (X.wish E) pins σ H s := ⟨I.ok.wish E, I.os, I.bare, I.base, I.loc, I.cell, I.free, I.freeC, I.pin, I.hok, I.len⟩
theorem Inv.unwish (I : Inv (X.wish E) pins σ H s) : Inv X pins σ H s := ⟨I.ok.unwish, I.os, I.bare, I.base, I.loc, I.cell, I.free, I.freeC, I.pin, I.hok, I.len⟩
theorem SP.unwish {D : Ends} {f : Flow} {s' : Shared} (h : SP (X.wish E) pins D f s') : SP X pins D f s' := by
 cases f with
 | next => obtain ⟨σ', H', I, q⟩ := h; exact ⟨σ', H', I.unwish, q⟩
 | brk => obtain ⟨σ', H', I, q⟩ := h; exact ⟨σ', H', I.unwish, q⟩
 | cont => obtain ⟨σ', H', I, q⟩ := h; exact ⟨σ', H', I.unwish, q⟩
 | ret u => obtain ⟨v, σ', H', I, r, q⟩ := h; exact ⟨v, σ', H', I.unwish, r, q⟩
theorem PSs.nox {st : List Stmt} {t : TS} (h : PSs X.nox st t) : PSs X st t := fun pins s σ H D I hw =>
 wpAny_mono (h pins s σ H D (I.wish _) hw) (fun _ _ q => q.unwish) fun _ _ z => False.elim z
end
section
variable {X : Cx} {st : Stmt} {rest : List Stmt} {t u : TS} {e : Expr} {te : TE} {pos : Pos}
def tNext : TS := fun D σ H => D.nx σ H
def tSeq (t u : TS) : TS := fun D σ H => t { D with nx := u D } σ H
theorem pss_nil : PSs X [] tNext := fun _ _ σ H _ I h => wpAny_execs_nil ⟨σ, H, I, h⟩
theorem pss_cons (h1 : PS X st t) (h2 : PSs X rest u) : PSs X (st :: rest) (tSeq t u) := by
  intro pins s σ H D I h
  refine wpAny_execs_cons (thn (h1 pins s σ H { D with nx := u D } I h) fun f s1 q => ?_)
  cases f with
  | next =>
    obtain ⟨σ', H', I', q⟩ := q
    exact h2 pins s1 σ' H' D I' q
  | ret v => exact q
  | brk => exact q
  | cont => exact q
theorem pss_one (h1 : PS X st t) : PSs X [st] t := by
 intro pins s σ H D I h
 refine wpAny_execs_cons (thn (h1 pins s σ H D I h) fun f s1 q => ?_)
 cases f with
 | next => exact wpAny_execs_nil q
 | ret v => exact q
 | brk => exact q
 | cont => exact q
def tBreak : TS := fun D σ H => D.bk σ H
def tCont : TS := fun D σ H => D.ct σ H
theorem Inv.quiet {pins : List (Addr × Obj)} {σ : St} {H : Hp} {s : Shared} (I : Inv X pins σ H s) : interactive X.env = false := by simp [interactive, I.ok.kind]
def tDrop (te : TE) : TS := fun D σ H => te σ H fun _ H1 => D.nx σ H1
theorem ps_expr (he : PE X e te) (hs : swapsWith e none pos.line X.env = pure false := by rfl) : PS X (.Expr e pos) (tDrop te) := by
 intro pins s σ H D I h
 exact wpAny_Expr_any (thn (he pins s σ H _ I h) fun v s1 ⟨x, H1, I1, r1, q1⟩ => ⟨σ, H1, I1, q1⟩) I.quiet hs
def tRet (te : TE) : TS := fun D σ H => te σ H D.rt
theorem ps_ret (he : PE X e te) : PS X (.Return (some e) pos) (tRet te) := by
 intro pins s σ H D I h
 exact wpAny_Return_some (thn (he pins s σ H _ I h) fun v s1 ⟨x, H1, I1, r1, q1⟩ => ⟨x, σ, H1, I1, r1, q1⟩)
def tIfS (c : TT) (t u : TS) : TS := fun D σ H => c σ H fun b H1 => if b = true then t D σ H1 else u D σ H1
theorem ps_if {c : Expr} {a b : List Stmt} {tc : TT} (hc : PT X c tc) (ha : PSs X a t) (hb : PSs X b u) : PS X (.If c a b pos) (tIfS tc t u) := by
 intro pins s σ H D I h
 refine wpAny_If (thn (hc pins s σ H _ I h) fun d s1 ⟨H1, I1, q1⟩ => ?_)
 cases d with
 | true => exact ha pins s1 σ H1 D I1 q1
 | false => exact hb pins s1 σ H1 D I1 q1
end
abbrev TG := V -> St -> Hp -> (St -> Hp -> Prop) -> Prop
abbrev TGs := List V -> St -> Hp -> (St -> Hp -> Prop) -> Prop
def PG (X : Cx) (target : Expr) (t : TG) : Prop :=
 ∀ (pins : List (Addr × Obj)) (s : Shared) (σ : St) (H : Hp) (v : V) (u : Value) (Q : St -> Hp -> Prop), Inv X pins σ H s -> RelV v u -> t v σ H Q ->
  wpAny (model X.prog X.w) X.A (assign target X.env u) (fun _ s' => ∃ σ' H', Inv X pins σ' H' s' /\ Q σ' H') X.xe s
def PGs (X : Cx) (ts : List Expr) (t : TGs) : Prop :=
 ∀ (pins : List (Addr × Obj)) (s : Shared) (σ : St) (H : Hp) (vs : List V) (us : List Value) (Q : St -> Hp -> Prop), Inv X pins σ H s -> Vals vs us -> t vs σ H Q ->
  wpAny (model X.prog X.w) X.A (assignInOrder ((assignEach ts X.env).map (·.2)) us) (fun _ s' => ∃ σ' H', Inv X pins σ' H' s' /\ Q σ' H') X.xe s
abbrev TSet := V -> V -> V -> Hp -> (Hp -> Prop) -> Prop
def PSet (X : Cx) (t : TSet) : Prop :=
 ∀ (pins : List (Addr × Obj)) (s : Shared) (σ : St) (H : Hp) (o i v : V) (ov iv u : Value) (Q : Hp -> Prop), Inv X pins σ H s -> RelV o ov -> RelV i iv -> RelV v u -> t o i v H Q ->
  wpAny (model X.prog X.w) X.A (setItem ov iv u) (fun _ s' => ∃ H', Inv X pins σ H' s' /\ Q H') X.xe s
section
variable {X : Cx} {pos : Pos}
def gName (i : Nat) : TG := fun v σ H Q => Q (σ.set i (some v)) H
theorem pg_name {i : Nat} {x : Str} (hN : X.N.Nodup) (hi : X.N[i]? = some x) (hx : Loc X.env.scope x) (hf : X.fn x = true \/ X.env.scope.names.lookup x = some .local := by first | exact .inl rfl | exact .inr rfl | assumption) : PG X (.Name x pos) (gName i) := by
 intro pins s σ H v u Q I r h
 exact wpAny_assign_Name (store_ok I hN hi hx r (fun s' I' => ⟨_, H, I', h⟩) hf)
def gNil : TGs := fun vs σ H Q => vs = [] /\ Q σ H
def gCons (t : TG) (u : TGs) : TGs := fun vs σ H Q => ∃ v r, vs = v :: r /\ t v σ H fun σ' H' => u r σ' H' Q
theorem pgs_nil : PGs X [] gNil := by
 intro pins s σ H vs us Q I r h
 obtain ⟨e, h⟩ := h
 subst e
 cases r
 exact assignInOrder_nil ⟨σ, H, I, h⟩
theorem pgs_cons {e : Expr} {es : List Expr} {t : TG} {u : TGs} (h1 : PG X e t) (h2 : PGs X es u)
    (hs : (assignEach (e :: es) X.env).map (·.2) = assign e X.env :: (assignEach es X.env).map (·.2) := by rfl) : PGs X (e :: es) (gCons t u) := by
  intro pins s σ H vs us Q I r h
  obtain ⟨v, vr, e1, h⟩ := h
  subst e1
  cases r with
  | cons r rr =>
    rw [hs]
    refine assignInOrder_cons (thn (h1 pins s σ H _ _ _ I r h) fun _ s1 ⟨σ1, H1, I1, q1⟩ => ?_)
    exact h2 pins s1 σ1 H1 _ _ Q I1 rr q1
def gTup (K : PySem.W.Frag) (n : Nat) (t : TGs) : TG := fun v σ H Q => ∃ a xs, v = .ref a /\ SqT K H a xs /\ xs.length = n /\ t xs σ H Q
theorem pg_tup {es : List Expr} {k : Nat} {t : TGs} {n : Nat} (hc : X.calm = true) (h : PGs X es t)
  (hn : (assignEach es X.env).length = n := by rfl) (hst : (assignEach es X.env).findIdx? (·.1) = none := by rfl) : PG X (.Tuple es k pos) (gTup X.K n t) := by
 intro pins s σ H v u Q I r hw
 obtain ⟨a, xs, e1, hq, hl, hw⟩ := hw
 subst e1
 cases r
 obtain ⟨its, rv, ht, hz⟩ := I.tuple hq
 refine assign_Tuple_tuple (I.ok.hd hc) ht (by simp [hn, <- hl, rv.length]) hst fun h' hx => ?_
 have I1 : Inv X pins σ H { s with heap := h' } := I.kept (t' := s.toks) fun b o e => hx b o (zq47x (zq14x e)) e
 exact h pins _ σ H xs _ Q I1 (by simpa using rv) hw
def gSub (to ti : TE) (t : TSet) : TG := fun v σ H Q => to σ H fun o H1 => ti σ H1 fun i H2 => t o i v H2 fun H3 => Q σ H3
theorem pg_sub {o i : Expr} {to ti : TE} {t : TSet} (ho : PE X o to) (hi : PE X i ti) (hs : PSet X t)
  (ha : ∀ v, assign (.Subscript o i pos) X.env v = (do
   let ov <- holding [v] (eval o X.env)
   let iv <- holding [v, ov] (eval i X.env)
   standAt pos
   holding [v, ov, iv] (setItem ov iv v)
   release [v, ov, iv] []) := by intro _; rfl) : PG X (.Subscript o i pos) (gSub to ti t) := by
 intro pins s σ H v u Q I r h
 rw [ha]
 refine wpAny_bind (wpAny_holding (thn (ho pins s σ H _ I h) fun ov s1 ⟨x, H1, I1, r1, q1⟩ => ?_))
 refine wpAny_bind (wpAny_holding (thn (hi pins s1 σ H1 _ I1 q1) fun iv s2 ⟨y, H2, I2, r2, q2⟩ => ?_))
 refine wpAny_bind (wpAny_standAt (wpAny_bind (wpAny_holding (thn (hs pins s2 σ H2 x y v ov iv u _ I2 r1 r2 r q2) fun _ s3 ⟨H3, I3, q3⟩ => ?_))))
 exact wpAny_release ⟨σ, H3, I3, q3⟩
def tAsg (te : TE) (g : TG) : TS := fun D σ H => te σ H fun x H1 => g x σ H1 D.nx
theorem ps_asg {tg e : Expr} {te : TE} {g : TG} (he : PE X e te) (hg : PG X tg g) (hs : swapsWithSole [tg] e pos.line X.env = pure false := by rfl) (hw : swappedStores [tg] e X.env = pure none := by rfl)
  (h1 : (assignEach [tg] X.env).map (·.2) = [assign tg X.env] := by rfl) : PS X (.Assign [tg] e pos) (tAsg te g) := by
 intro pins s σ H D I h
 refine wpAny_Assign_stores (thn (he pins s σ H _ I h) fun v s1 ⟨x, H1, I1, r1, q1⟩ => ?_) hs hw
 rw [h1]
 exact thn (hg pins s1 σ H1 x v _ I1 r1 q1) fun _ s2 q => q
theorem ps_set {i : Nat} {x : Str} {e : Expr} {te : TE} {pos' : Pos} (hN : X.N.Nodup) (hi : X.N[i]? = some x) (hx : Loc X.env.scope x) (he : PE X e te) (hs : swapsWith e (some (.Name x pos')) pos.line X.env = pure false := by rfl) (hf : X.fn x = true \/ X.env.scope.names.lookup x = some .local := by first | exact .inl rfl | exact .inr rfl | assumption) :
  PS X (.Assign [.Name x pos'] e pos) (tAsg te (gName i)) := by
 intro pins s σ H D I h
 refine wpAny_Assign_Name (thn (he pins s σ H _ I h) fun v s1 ⟨y, H1, I1, r1, q1⟩ => ?_) hs
 exact store_ok I1 hN hi hx r1 (fun s2 I2 => ⟨_, H1, I2, q1⟩) hf
end
section
variable {X : Cx} {pos : Pos}
def tWhile (c : TT) (tb : TS) : TS := fun D σ H => ∃ W : Nat -> St -> Hp -> Prop, (∃ m, W m σ H) /\ ∀ m σ H, W m σ H ->
 c σ H fun b H1 => if b = true then ∃ N : St -> Hp -> Prop, (∀ σ' H', N σ' H' -> ∃ m', m' < m /\ W m' σ' H') /\ tb { D with nx := N, ct := N, bk := D.nx } σ H1 else D.nx σ H1
theorem ps_while {c : Expr} {body : List Stmt} {tc : TT} {tb : TS} (hp : PassesOwn (model X.prog X.w) X.A X.env X.xe) (hc : PT X c tc) (hb : PSs X body tb) : PS X (.While c body [] pos) (tWhile tc tb) := by
  intro pins s σ H D I h
  obtain ⟨W, ⟨m0, w0⟩, turn⟩ := h
  refine wpAny_While (codeAny_whileLoop (fun n s' => ∃ σ' H', Inv X pins σ' H' s' /\ W n σ' H') ?_ m0 ⟨σ, H, I, w0⟩)
  rintro n s1 ⟨σ1, H1, I1, w1⟩
  refine wpAny_passesOwn hp (thn (hc pins s1 σ1 H1 _ I1 (turn n σ1 H1 w1)) fun b s2 ⟨H2, I2, q2⟩ => ?_)
  cases b with
  | true =>
    obtain ⟨N, hN, q2⟩ := q2
    rw [if_pos rfl]
    refine wpAny_passesOwn hp (thn (hb pins s2 σ1 H2 _ I2 q2) fun f s3 q3 => ?_)
    cases f with
    | next =>
      obtain ⟨σ3, H3, I3, n3⟩ := q3
      obtain ⟨m', hm, w3⟩ := hN σ3 H3 n3
      exact ⟨m', hm, σ3, H3, I3, w3⟩
    | cont =>
      obtain ⟨σ3, H3, I3, n3⟩ := q3
      obtain ⟨m', hm, w3⟩ := hN σ3 H3 n3
      exact ⟨m', hm, σ3, H3, I3, w3⟩
    | brk => exact q3
    | ret v => exact q3
  | false =>
    rw [if_neg zq15x]
    exact wpAny_execs_nil ⟨σ1, H2, I2, q2⟩
end
structure It where
 go : Nat -> Hp -> Prop
 yld : Nat -> Hp -> V -> Hp -> Prop
 stop : Nat -> Hp -> Prop
def FpOk (X : Cx) (pins : List (Addr × Obj)) (H : Hp) (b : Addr) : Prop :=
 H b = none /\ b ≠ X.env.locals /\ b ∉ X.fs /\ (b ∈ X.ex \/ X.s₀.heap.objs.size <= b) /\ (∀ x c, X.env.cells.lookup x = some c -> c ≠ b) /\ ∀ p ∈ X.pn ++ pins, p.1 ≠ b
theorem Inv.fpOk {X : Cx} {pins : List (Addr × Obj)} {σ : St} {H H' : Hp} {s : Shared} {b : Addr} (I : Inv X pins σ H s) (hb : s.heap.objs.size <= b) (hn : H' b = none) : FpOk X pins H' b := by
 refine ⟨hn, Nat.ne_of_gt (zq26x I.lt hb), I.nofs hb, .inr (zq31x I.sz hb), fun x c e z => ?_, fun p hp z => ?_⟩
 ·obtain ⟨v, q⟩ := I.cell x c e
  exact absurd (zq26x q.lt (by rw [z]; exact hb)) (zq64x _)
 ·exact absurd (zq26x (zq14x (I.pin p hp).1) (by rw [z]; exact hb)) (zq64x _)
structure Turn (P : Program) (w : World) (K : PySem.W.Frag) (tg : Expr) (J : It) (fp : List Addr) (it : Addr) (tn : Nat -> Heap -> Prop) : Prop where
 mem : it ∈ fp
 obj : ∀ i h, tn i h -> ∀ b ∈ fp, ∃ o, h.get? b = some o /\ ∀ v, o.data ≠ .cell v
 keep : ∀ i h h', tn i h -> (∀ b ∈ fp, ∀ o, h.get? b = some o -> h'.get? b = some o) -> tn i h'
 item : ∀ (X : Cx), X.prog = P -> X.w = w -> X.K = K -> X.calm = true -> ∀ (i : Nat) (pins : List (Addr × Obj)) (s : Shared) (σ : St) (H : Hp) (E : Value -> Shared -> Prop), Inv X pins σ H s -> (∀ b ∈ fp, FpOk X pins H b) -> tn i s.heap -> J.go i H ->
  wpAny (model P w) X.A (pyNext (.ref it)) (fun r s1 => ∃ u, r = some u /\
   wpAny (model P w) X.A (letOwnedTupleGo tg (.ref it) u) (fun _ s2 => ∃ x H', Inv X pins σ H' s2 /\ RelV x u /\ J.yld i H x H' /\ tn (i + 1) s2.heap /\ ∀ b ∈ fp, H' b = none) E s1) E s
 done : ∀ (X : Cx), X.prog = P -> X.w = w -> X.K = K -> X.calm = true -> ∀ (i : Nat) (pins : List (Addr × Obj)) (s : Shared) (σ : St) (H : Hp) (E : Value -> Shared -> Prop), Inv X pins σ H s -> (∀ b ∈ fp, FpOk X pins H b) -> tn i s.heap -> J.stop i H ->
  wpAny (model P w) X.A (pyNext (.ref it)) (fun r s1 => r = none /\ Inv X pins σ H s1) E s
 self : ∀ (A : Around) (i : Nat) (s : Shared) (Q : Value -> Shared -> Prop) (E : Value -> Shared -> Prop), tn i s.heap -> Q (.ref it) s -> wpAny (model P w) A (pyIter (.ref it)) Q E s
abbrev TI := St -> Hp -> (It -> Hp -> Prop) -> Prop
def PIE (X : Cx) (pins : List (Addr × Obj)) (σ : St) (tg : Expr) (R : It -> Hp -> Prop) (itv : Value) (s2 : Shared) : Prop :=
 ∃ (it : Addr) (fp : List Addr) (tn : Nat -> Heap -> Prop) (J : It) (H' : Hp), itv = .ref it /\ Inv X pins σ H' s2 /\ Turn X.prog X.w X.K tg J fp it tn /\ tn 0 s2.heap /\ (∀ b ∈ fp, FpOk X pins H' b) /\ R J H'
def PI (X : Cx) (tg iter : Expr) (wi : TI) : Prop :=
 ∀ (pins : List (Addr × Obj)) (s : Shared) (σ : St) (H : Hp) (R : It -> Hp -> Prop), Inv X pins σ H s -> wi σ H R ->
  wpAny (model X.prog X.w) X.A (eval iter X.env) (fun v s1 => wpAny (model X.prog X.w) X.A (pyIter v) (PIE X pins σ tg R) X.xe s1) X.xe s
theorem go_of {M : Model} {A : Around} {E : Value -> Shared -> Prop} {s : Shared} {tg : Expr} {it : Addr} {u : Value} {o : Obj} {n : String} {vs : Array Value} {Q : Unit -> Shared -> Prop} (ho : s.heap.get? it = some o) (hc : o.cls = .type n) (hd : o.data = .fields vs)
    (hn : ["enumerate", "zip", "dict_itemiterator", "dict_reverseitemiterator", "odict_iterator", "itertools.zip_longest", "itertools.pairwise"].contains n = false) (hQ : Q () s) : wpAny M A (letOwnedTupleGo tg (.ref it) u) Q E s := by
  unfold letOwnedTupleGo
  cases tg <;> first
    | exact wpAny_pure hQ
    | (cases u <;> first
        | exact wpAny_pure hQ
        | (refine wpAny_bind (wpAny_load ho ?_)
           rw [hc, hd]
           show wpAny M A (if (["enumerate", "zip", "dict_itemiterator", "dict_reverseitemiterator", "odict_iterator", "itertools.zip_longest", "itertools.pairwise"].contains n && vs[0]? == some (rawInt _)) = true then _ else _) Q E s
           rw [if_neg (by intro h; rw [hn, Bool.false_and] at h; cases h)]
           exact wpAny_pure hQ))
def Itl (K : PySem.W.Frag) (a : Addr) : It :=
 ⟨fun i H => ∃ xs x, SqL K H a xs /\ xs[i]? = some x, fun i H x H' => H' = H /\ ∀ xs, SqL K H a xs -> xs[i]? = some x, fun i H => ∃ xs, SqL K H a xs /\ xs.length <= i⟩
def Itr (lo : Int) (n : Nat) : It := ⟨fun i _ => i < n, fun i H x H' => H' = H /\ x = .int (lo + i), fun i _ => n <= i⟩
theorem turn_list {P : Program} {w : World} {K : PySem.W.Frag} {tg : Expr} (a it : Addr) : Turn P w K tg (Itl K a) [it] it (fun i h => h.IsListIter it a i) where
 mem := by simp
 obj := fun i h st b hb => by
  have e : b = it := by simpa using hb
  subst e
  obtain ⟨o, e, c, d⟩ := st
  exact ⟨o, e, fun v z => by rw [d] at z; cases z⟩
 keep := fun i h h' st k => st.at fun o e => k it (by simp) o e
 item := by
  intro X hP hw hK hc i pins s σ H E I hf st hg
  subst hP hw hK
  obtain ⟨xs, x, hq, hx⟩ := hg
  obtain ⟨its, rv, p, hz⟩ := I.list hq
  obtain ⟨u, hu, ru⟩ := rv.get hx
  obtain ⟨f0, f1, f2, f3, f4, f5⟩ := hf it (by simp)
  refine wpAny_pyNext_list_item st p.isList (x := u) (by simpa using hu) fun h' st' sb => ?_
  have I1 : Inv X pins σ H { s with heap := h' } := I.turned (t' := s.toks) (fun b o hb e => (sb.2 b hb).trans e) f0 f1 f3 f4 f5
  obtain ⟨o, e, c, d⟩ := id st'
  exact ⟨u, rfl, go_of (s := { s with heap := h' }) e c d (by decide) ⟨x, H, I1, ru, ⟨rfl, fun ys hy => by rw [I.list_inj hy hq]; exact hx⟩, st', fun b hb => (hf b hb).1⟩⟩
 done := by
  intro X hP hw hK hc i pins s σ H E I hf st hg
  subst hP hw hK
  obtain ⟨xs, hq, hx⟩ := hg
  obtain ⟨its, rv, p, hz⟩ := I.list hq
  obtain ⟨f0, f1, f2, f3, f4, f5⟩ := hf it (by simp)
  have hl := rv.length
  exact wpAny_pyNext_list_end (I.ok.hd hc) st p.isList (by simp; omega) fun h' eb => ⟨rfl, I.turned (t' := s.toks) (fun b o hb e => eb b o hb e) f0 f1 f3 f4 f5⟩
 self := fun _ _ _ _ _ st h => wpAny_pyIter_listiter st h
theorem turn_range {P : Program} {w : World} {K : PySem.W.Frag} {tg : Expr} (it : Addr) (lo : Int) (n : Nat) : Turn P w K tg (Itr lo n) [it] it (fun i h => IsRangeIter h it (lo + (i : Nat) * 1) ((n : Int) - (i : Nat)) 1) where
 mem := by simp
 obj := fun i h st b hb => by
  have e : b = it := by simpa using hb
  subst e
  exact ⟨_, st, fun v z => by
   have z' : Data.fields _ = Data.cell v := z
   cases z'⟩
 keep := fun i h h' st k => k it (by simp) _ st
 item := by
  intro X hP hw hK hc i pins s σ H E I hf st hg
  subst hP hw hK
  obtain ⟨f0, f1, f2, f3, f4, f5⟩ := hf it (by simp)
  have W := Walks.range (prog := X.prog) (w := X.w) (I.ok.hd hc) it lo 1 n
  refine W.item i s _ _ hg st fun v h' tk hv st' kk => ?_
  obtain ⟨t, rfl⟩ := hv
  have I1 : Inv X pins σ H { s with heap := h', toks := tk } := I.turned (fun b o hb e => kk b o (by simpa using hb) e) f0 f1 f3 f4 f5
  refine ⟨_, rfl, go_of (s := { s with heap := h', toks := tk }) (n := "range_iterator") st' rfl rfl (by decide) ⟨.int (lo + i), H, I1, ⟨t, ?_⟩, ⟨rfl, rfl⟩, st', fun b hb => (hf b hb).1⟩⟩
  rw [zq112x]
 done := by
  intro X hP hw hK hc i pins s σ H E I hf st hg
  subst hP hw hK
  obtain ⟨f0, f1, f2, f3, f4, f5⟩ := hf it (by simp)
  exact wpAny_pyNext_range_end (I.ok.hd hc) st (by have : n <= i := hg; omega) fun h' eb => ⟨rfl, I.turned (t' := s.toks) (fun b o hb e => eb b o hb e) f0 f1 f3 f4 f5⟩
 self := fun _ _ _ _ _ st h => wpAny_pyIter_rangeiter st h
section
variable {X : Cx} {tg : Expr}
def iList (K : PySem.W.Frag) (tl : TE) : TI := fun σ H R => tl σ H fun x H1 => ∃ a, x = .ref a /\ (∃ xs, SqL K H1 a xs) /\ R (Itl K a) H1
theorem pi_list {l : Expr} {tl : TE} (hl : PE X l tl) : PI X tg l (iList X.K tl) := by
 intro pins s σ H R I h
 refine thn (hl pins s σ H _ I h) fun v s1 ⟨x, H1, I1, r1, q1⟩ => ?_
 obtain ⟨a, e, ⟨xs, hq⟩, q⟩ := q1
 subst e
 cases r1
 obtain ⟨its, rv, p, hz⟩ := I1.list hq
 refine wpAny_pyIter_list p.isList ?_
 refine ⟨s1.heap.objs.size, [s1.heap.objs.size], _, _, H1, rfl, I1.kept (t' := s1.toks) fun b o e => zq49x _ e, turn_list a _, ⟨_, zq75x _ rfl, rfl, rfl⟩, fun b hb => ?_, q⟩
 have e : b = s1.heap.objs.size := by simpa using hb
 subst e
 exact I1.fpOk (zq5x _) (I1.hok.fresh (zq5x _))
theorem range_it {pins : List (Addr × Obj)} {σ : St} {H : Hp} {s : Shared} {R : It -> Hp -> Prop} {E : Value -> Shared -> Prop} {lo hi : Int} {t u v : Tok} {tk : Nat} (I : Inv X pins σ H s) (h1 : -(2 ^ 62) <= lo) (h2 : lo < 2 ^ 62) (h3 : -(2 ^ 62) <= hi) (h4 : hi < 2 ^ 62)
  (q : R (Itr lo (hi - lo).toNat) H) : wpAny (model X.prog X.w) X.A (pyIter (.ref s.heap.objs.size)) (PIE X pins σ tg R) E { s with heap := s.heap.push { cls := .type "range", data := .fields #[.int lo t, .int hi u, .int 1 v] }, toks := tk } := by
 refine wpAny_pyIter_range (IsRange.new ..) (small_one h1 h2 h3 h4) ?_
 have I1 : Inv X pins σ H { s with heap := s.heap.push { cls := .type "range", data := .fields #[.int lo t, .int hi u, .int 1 v] }, toks := tk } := I.kept fun b o e => zq49x _ e
 refine ⟨(s.heap.push { cls := .type "range", data := .fields #[.int lo t, .int hi u, .int 1 v] }).objs.size, [(s.heap.push { cls := .type "range", data := .fields #[.int lo t, .int hi u, .int 1 v] }).objs.size], _, _, H, rfl,
  I1.kept (t' := tk) fun b o e => zq49x _ e, turn_range _ lo (hi - lo).toNat, ?_, fun b hb => ?_, q⟩
 ·have e1 : lo + ((0 : Nat) : Int) * 1 = lo := by simp
  have e2 : (((hi - lo).toNat : Nat) : Int) - ((0 : Nat) : Int) = Builtin.Range.rangeSize lo hi 1 := by rw [rangeSize_one]; split <;> omega
  show IsRangeIter _ _ (lo + ((0 : Nat) : Int) * 1) ((((hi - lo).toNat : Nat) : Int) - ((0 : Nat) : Int)) 1
  rw [e1, e2]
  exact zq75x _ rfl
 ·have e : b = (s.heap.push { cls := .type "range", data := .fields #[.int lo t, .int hi u, .int 1 v] }).objs.size := by simpa using hb
  subst e
  exact I1.fpOk (zq5x _) (I1.hok.fresh (zq5x _))
def iRng1 (ta : TA) : TI := fun σ H R => ta σ H fun vs H1 => ∃ j : Int, vs = [.int j] /\ -(2 ^ 62) <= j /\ j < 2 ^ 62 /\ R (Itr 0 j.toNat) H1
def iRng2 (ta : TA) : TI := fun σ H R => ta σ H fun vs H1 => ∃ i j : Int, vs = [.int i, .int j] /\ (-(2 ^ 62) <= i /\ i < 2 ^ 62 /\ -(2 ^ 62) <= j /\ j < 2 ^ 62) /\ R (Itr i (j - i).toNat) H1
theorem pi_range1 {a : Expr} {ta : TA} {p pos : Pos} (hg : Gl X "range") (hm : X.mg "range" = none) (ha : PA X [a] ta) (hs : starEach [a] X.env = [(false, eval a X.env)] := by rfl) : PI X tg (.Call (.Name "range" p) [a] [] pos) (iRng1 ta) := by
  intro pins s σ H R I h
  refine Call_ (ld_blt I hg hm boot_range (zq97x (thn (ha pos pins s σ H _ I h) fun us s1 ⟨vs, H1, I1, r1, q1⟩ => ?_) hs rfl))
  obtain ⟨j, e, q1, q2, q⟩ := q1
  subst e
  cases r1 with
  | cons r rr =>
    cases rr
    obtain ⟨t, rfl⟩ := r
    exact call_range_1 (range_it I1 (by omega) (by omega) q1 q2 (by simpa using q))
theorem pi_range2 {a b : Expr} {ta : TA} {p pos : Pos} (hg : Gl X "range") (hm : X.mg "range" = none) (ha : PA X [a, b] ta) (hs : starEach [a, b] X.env = [(false, eval a X.env), (false, eval b X.env)] := by rfl) (hs2 : starEach [b] X.env = [(false, eval b X.env)] := by rfl) :
    PI X tg (.Call (.Name "range" p) [a, b] [] pos) (iRng2 ta) := by
  intro pins s σ H R I h
  refine Call_ (ld_blt I hg hm boot_range (zq97x (thn (ha pos pins s σ H _ I h) fun us s1 ⟨vs, H1, I1, r1, q1⟩ => ?_) (by rw [hs, hs2]) (by rw [hs2]; rfl)))
  obtain ⟨i, j, e, ⟨q1, q2, q3, q4⟩, q⟩ := q1
  subst e
  cases r1 with
  | cons r rr =>
    cases rr with
    | cons r' rr =>
      cases rr
      obtain ⟨t, rfl⟩ := r
      obtain ⟨t', rfl⟩ := r'
      exact call_range_2 (range_it I1 q1 q2 q3 q4 q)
def tFor (wi : TI) (g : TG) (tb : TS) : TS := fun D σ H => wi σ H fun J H1 => ∃ W : Nat -> Nat -> St -> Hp -> Prop, (∃ m, W 0 m σ H1) /\ ∀ i m σ H, W i m σ H ->
 (J.stop i H /\ D.nx σ H) \/ (J.go i H /\ ∃ N : St -> Hp -> Prop, (∀ σ' H', N σ' H' -> ∃ m', m' < m /\ W (i + 1) m' σ' H') /\ ∀ x H', J.yld i H x H' -> g x σ H' fun σ2 H2 => tb { D with nx := N, ct := N, bk := D.nx } σ2 H2)
def pinsAt (fp : List Addr) (h : Heap) : List (Addr × Obj) := fp.filterMap fun b => (h.get? b).map fun o => (b, o)
theorem mem_pinsAt {fp : List Addr} {h : Heap} {b : Addr} {o : Obj} (hb : b ∈ fp) (e : h.get? b = some o) : (b, o) ∈ pinsAt fp h := zq139x.mpr ⟨b, hb, by rw [e]; rfl⟩
theorem of_pinsAt {fp : List Addr} {h : Heap} {p : Addr × Obj} (hp : p ∈ pinsAt fp h) : p.1 ∈ fp /\ h.get? p.1 = some p.2 := by
  obtain ⟨b, hb, e⟩ := zq139x.mp hp
  cases q : h.get? b with
  | none => rw [q] at e; cases e
  | some o =>
    rw [q] at e
    have e' : (b, o) = p := zq32x e
    subst e'
    exact ⟨hb, q⟩
theorem Inv.pinned {pins : List (Addr × Obj)} {σ : St} {H : Hp} {s : Shared} {fp : List Addr} (I : Inv X pins σ H s) (hf : ∀ b ∈ fp, FpOk X pins H b) (ho : ∀ b ∈ fp, ∃ o, s.heap.get? b = some o /\ ∀ v, o.data ≠ .cell v) : Inv X (pins ++ pinsAt fp s.heap) σ H s :=
 I.pins_of fun p hp => (zq22x.mp hp).elim (fun z => I.pin p (zq33x _ z)) fun z => by
  obtain ⟨hb, e⟩ := of_pinsAt z
  obtain ⟨f0, f1, f2, _⟩ := hf p.1 hb
  obtain ⟨o, e', d⟩ := ho p.1 hb
  rw [e] at e'; cases e'
  exact ⟨e, f0, f1, f2, d⟩
theorem Inv.unpinned {pins pl : List (Addr × Obj)} {σ : St} {H : Hp} {s : Shared} (I : Inv X (pins ++ pl) σ H s) : Inv X pins σ H s := I.pins_of fun p hp => I.pin p (zq33x _ (zq48x _ hp))
theorem ps_for {iter : Expr} {body : List Stmt} {wi : TI} {g : TG} {tb : TS} {pos : Pos} (hp : PassesOwn (model X.prog X.w) X.A X.env X.xe) (hc : X.calm = true) (hi : PI X tg iter wi) (hg : PG X tg g) (hb : PSs X body tb)
  (hs : ∀ x, foldedSetIterable iter X.env x = pure x := by intro _; rfl) : PS X (.For tg iter body [] pos) (tFor wi g tb) := by
 intro pins s σ H D I h
 refine wpAny_For (thn (hi pins s σ H _ I h) fun v s1 h1 => thn h1 fun itv s2 h2 => ?_) hs
 obtain ⟨it, fp, tn, J, H2, e, I2, T, st2, f2, W, ⟨m0, w0⟩, turn⟩ := h2
 subst e
 have stat : ∀ {H' : Hp}, (∀ b ∈ fp, H' b = none) -> ∀ b ∈ fp, FpOk X pins H' b := fun hn b hb => ⟨hn b hb, (f2 b hb).2⟩
 refine codeAny_forLoop_any (fun n s' => ∃ i σ' H', Inv X pins σ' H' s' /\ tn i s'.heap /\ (∀ b ∈ fp, H' b = none) /\ W i n σ' H') ?_ m0 ⟨0, σ, H2, I2, st2, fun b hb => (f2 b hb).1, w0⟩
 rintro n s3 ⟨i, σ3, H3, I3, st3, fr3, w3⟩
 rcases turn i n σ3 H3 w3 with ⟨stop, qn⟩ | ⟨go, N, hN, step⟩
 ·refine wpAny_passesOwn hp (thn (T.done X rfl rfl rfl hc i pins s3 σ3 H3 X.xe I3 (stat fr3) st3 stop) fun r s4 ⟨hr, I4⟩ => ?_)
  subst hr
  exact wpAny_execs_nil ⟨σ3, H3, I4, qn⟩
 ·refine wpAny_passesOwn hp (thn (T.item X rfl rfl rfl hc i pins s3 σ3 H3 X.xe I3 (stat fr3) st3 go) fun r s4 ⟨u, hr, h4⟩ => ?_)
  subst hr
  refine wpAny_passesOwn hp (thn h4 fun _ s5 ⟨x, H5, I5, r5, y5, st5, fr5⟩ => ?_)
  have I5' := I5.pinned (stat fr5) (T.obj _ _ st5)
  refine wpAny_passesOwn hp (thn (hg _ s5 σ3 H5 x u _ I5' r5 (step x H5 y5)) fun _ s6 ⟨σ6, H6, I6, q6⟩ => ?_)
  refine wpAny_passesOwn hp (thn (hb _ s6 σ6 H6 _ I6 q6) fun f s7 q7 => ?_)
  have again : ∀ {σ7 : St} {H7 : Hp}, Inv X (pins ++ pinsAt fp s5.heap) σ7 H7 s7 -> N σ7 H7 -> ∃ m, m < n /\ ∃ i σ' H', Inv X pins σ' H' s7 /\ tn i s7.heap /\ (∀ b ∈ fp, H' b = none) /\ W i m σ' H' := fun {σ7 H7} I7 n7 => by
   obtain ⟨m', hm, w7⟩ := hN σ7 H7 n7
   refine ⟨m', hm, i + 1, σ7, H7, I7.unpinned, T.keep _ _ _ st5 fun b hb o e => (I7.pin (b, o) (zq33x _ (zq33x _ (mem_pinsAt hb e)))).1, fun b hb => ?_, w7⟩
   obtain ⟨o, e, d⟩ := T.obj _ _ st5 b hb
   exact (I7.pin (b, o) (zq33x _ (zq33x _ (mem_pinsAt hb e)))).2.1
  cases f with
  | next => obtain ⟨σ7, H7, I7, n7⟩ := q7; exact again I7 n7
  | cont => obtain ⟨σ7, H7, I7, n7⟩ := q7; exact again I7 n7
  | brk => obtain ⟨σ7, H7, I7, q7⟩ := q7; exact ⟨σ7, H7, I7.unpinned, q7⟩
  | ret v => obtain ⟨x7, σ7, H7, I7, r7, q7⟩ := q7; exact ⟨x7, σ7, H7, I7.unpinned, r7, q7⟩
end
theorem for_list {K : PySem.W.Frag} {a : Addr} {xs : List V} {g : TG} {tb : TS} {D : Ends} {σ : St} {H : Hp} (Pv : Nat -> St -> Hp -> Prop) (h0 : Pv 0 σ H) (hl : ∀ i σ H, i <= xs.length -> Pv i σ H -> SqL K H a xs)
  (hs : ∀ i x σ H, xs[i]? = some x -> Pv i σ H -> g x σ H fun σ2 H2 => tb { D with nx := Pv (i + 1), ct := Pv (i + 1), bk := D.nx } σ2 H2) (hd : ∀ σ H, Pv xs.length σ H -> D.nx σ H) :
  ∃ W : Nat -> Nat -> St -> Hp -> Prop, (∃ m, W 0 m σ H) /\ ∀ i m σ H, W i m σ H ->
   ((Itl K a).stop i H /\ D.nx σ H) \/ ((Itl K a).go i H /\ ∃ N : St -> Hp -> Prop, (∀ σ' H', N σ' H' -> ∃ m', m' < m /\ W (i + 1) m' σ' H') /\ ∀ x H', (Itl K a).yld i H x H' -> g x σ H' fun σ2 H2 => tb { D with nx := N, ct := N, bk := D.nx } σ2 H2) := by
 refine ⟨fun i m σ H => m = xs.length - i /\ i <= xs.length /\ Pv i σ H, ⟨xs.length, by simp, zq43x _, h0⟩, ?_⟩
 rintro i m σ H ⟨rfl, hi, p⟩
 have q := hl i σ H hi p
 by_cases hlt : i < xs.length
 ·refine .inr ⟨⟨xs, xs[i], q, by simp [hlt]⟩, Pv (i + 1), fun σ' H' p' => ⟨xs.length - (i + 1), by omega, rfl, hlt, p'⟩, fun x H' y => ?_⟩
  obtain ⟨e, y⟩ := y
  subst e
  exact hs i x σ _ (y xs q) p
 ·have e : i = xs.length := by omega
  subst e
  exact .inl ⟨⟨xs, q, zq5x _⟩, hd σ H p⟩
theorem for_range {lo : Int} {n : Nat} {g : TG} {tb : TS} {D : Ends} {σ : St} {H : Hp} (Pv : Nat -> St -> Hp -> Prop) (h0 : Pv 0 σ H)
  (hs : ∀ i σ H, i < n -> Pv i σ H -> g (.int (lo + i)) σ H fun σ2 H2 => tb { D with nx := Pv (i + 1), ct := Pv (i + 1), bk := D.nx } σ2 H2) (hd : ∀ σ H, Pv n σ H -> D.nx σ H) :
  ∃ W : Nat -> Nat -> St -> Hp -> Prop, (∃ m, W 0 m σ H) /\ ∀ i m σ H, W i m σ H ->
   ((Itr lo n).stop i H /\ D.nx σ H) \/ ((Itr lo n).go i H /\ ∃ N : St -> Hp -> Prop, (∀ σ' H', N σ' H' -> ∃ m', m' < m /\ W (i + 1) m' σ' H') /\ ∀ x H', (Itr lo n).yld i H x H' -> g x σ H' fun σ2 H2 => tb { D with nx := N, ct := N, bk := D.nx } σ2 H2) := by
 refine ⟨fun i m σ H => m = n - i /\ i <= n /\ Pv i σ H, ⟨n, by simp, zq43x _, h0⟩, ?_⟩
 rintro i m σ H ⟨rfl, hi, p⟩
 by_cases hlt : i < n
 ·refine .inr ⟨hlt, Pv (i + 1), fun σ' H' p' => ⟨n - (i + 1), by omega, rfl, hlt, p'⟩, fun x H' y => ?_⟩
  obtain ⟨e, y⟩ := y
  subst e y
  exact hs i σ _ hlt p
 ·have e : i = n := by omega
  subst e
  exact .inl ⟨zq5x _, hd σ H p⟩
theorem while_by {c : TT} {tb : TS} {D : Ends} {σ : St} {H : Hp} (Pv : St -> Hp -> Prop) (μ : St -> Hp -> Nat) (h0 : Pv σ H)
  (hs : ∀ σ H, Pv σ H -> c σ H fun b H1 => if b = true then tb { D with nx := fun σ' H' => Pv σ' H' /\ μ σ' H' < μ σ H, ct := fun σ' H' => Pv σ' H' /\ μ σ' H' < μ σ H, bk := D.nx } σ H1 else D.nx σ H1)
  (mono : ∀ σ H Q Q', (∀ b H1, Q b H1 -> Q' b H1) -> c σ H Q -> c σ H Q') : tWhile c tb D σ H := by
 refine ⟨fun m σ H => m = μ σ H /\ Pv σ H, ⟨_, rfl, h0⟩, ?_⟩
 rintro m σ H ⟨rfl, p⟩
 refine mono σ H _ _ (fun b H1 q => ?_) (hs σ H p)
 cases b with
 | true => exact ⟨_, fun σ' H' ⟨p', l⟩ => ⟨_, l, rfl, p'⟩, q⟩
 | false => exact q
abbrev R2 := V -> V -> Hp -> VK -> Prop
def OpR (X : Cx) (f : Value -> Value -> Sem Value) (r : R2) : Prop :=
 ∀ (pins : List (Addr × Obj)) (s : Shared) (σ : St) (H : Hp) (x y : V) (v u : Value) (Q : VK), Inv X pins σ H s -> RelV x v -> RelV y u -> r x y H Q ->
  wpAny (model X.prog X.w) X.A (f v u) (EP X pins σ Q) X.xe s
def UnR (X : Cx) (f : Value -> Sem Value) (r : V -> Hp -> VK -> Prop) : Prop :=
 ∀ (pins : List (Addr × Obj)) (s : Shared) (σ : St) (H : Hp) (x : V) (v : Value) (Q : VK), Inv X pins σ H s -> RelV x v -> r x H Q ->
  wpAny (model X.prog X.w) X.A (f v) (EP X pins σ Q) X.xe s
def CallR (X : Cx) (f : Value) (r : List V -> Hp -> VK -> Prop) : Prop :=
 ∀ (pins : List (Addr × Obj)) (s : Shared) (σ : St) (H : Hp) (xs : List V) (us : List Value) (Q : VK), Inv X pins σ H s -> Vals xs us -> r xs H Q ->
  wpAny (model X.prog X.w) X.A (call f us) (EP X pins σ Q) X.xe s
def TruR (X : Cx) (r : V -> Hp -> (Bool -> Hp -> Prop) -> Prop) : Prop :=
 ∀ (pins : List (Addr × Obj)) (s : Shared) (σ : St) (H : Hp) (x : V) (v : Value) (Q : Bool -> Hp -> Prop), Inv X pins σ H s -> RelV x v -> r x H Q ->
  wpAny (model X.prog X.w) X.A (truthy v) (TP X pins σ Q) X.xe s
def tOp (r : R2) (ta tb : TE) : TE := fun σ H Q => ta σ H fun x H1 => tb σ H1 fun y H2 => r x y H2 Q
def tUn (r : V -> Hp -> VK -> Prop) (ta : TE) : TE := fun σ H Q => ta σ H fun x H1 => r x H1 Q
def rI (C : Int -> Int -> Prop) (g : Int -> Int -> V) : R2 := fun x y H Q => ∃ i j, x = .int i /\ y = .int j /\ C i j /\ Q (g i j) H
def rI0 (g : Int -> Int -> V) : R2 := fun x y H Q => ∃ i j, x = .int i /\ y = .int j /\ Q (g i j) H
def rU (g : Int -> V) : V -> Hp -> VK -> Prop := fun x H Q => ∃ i, x = .int i /\ Q (g i) H
section
variable {X : Cx} {a b c : Expr} {ta tb tc : TE} {pos : Pos}
theorem binT (ha : PE X a ta) (hb : PE X b tb) {pins : List (Addr × Obj)} {s : Shared} {σ : St} {H : Hp} {R : V -> V -> Hp -> Prop} (I : Inv X pins σ H s)
  (h : ta σ H fun x H1 => tb σ H1 fun y H2 => R x y H2) {Q : Value -> Shared -> Prop} {f : Value -> Value -> Sem Value}
  (hf : ∀ v u s2 x y H2, Inv X pins σ H2 s2 -> RelV x v -> RelV y u -> R x y H2 -> wpAny (model X.prog X.w) X.A (f v u) Q X.xe s2) :
  wpAny (model X.prog X.w) X.A (eval a X.env) (fun v s₁ => wpAny (model X.prog X.w) X.A (eval b X.env) (fun u s₂ => wpAny (model X.prog X.w) X.A (f v u) Q X.xe s₂) X.xe s₁) X.xe s := by
 refine thn (ha pins s σ H _ I h) fun v s1 ⟨x, H1, I1, r1, q1⟩ => ?_
 refine thn (hb pins s1 σ H1 _ I1 q1) fun u s2 ⟨y, H2, I2, r2, q2⟩ => ?_
 exact hf v u s2 x y H2 I2 r1 r2 q2
theorem pe_op {op : Operator} {r : R2} (ho : OpR X (binaryOp op) r) (ha : PE X a ta) (hb : PE X b tb) : PE X (.BinOp a op b pos) (tOp r ta tb) := by
 intro pins s σ H Q I h
 exact wpAny_BinOp (binT ha hb I h fun v u s2 x y H2 I2 rx ry q => ho pins s2 σ H2 x y v u Q I2 rx ry q)
theorem pe_un {op : UnaryOp} {r : V -> Hp -> VK -> Prop} (ho : UnR X (unaryOp op) r) (ha : PE X a ta) : PE X (.UnaryOp op a pos) (tUn r ta) := by
 intro pins s σ H Q I h
 exact UnaryOp_ (thn (ha pins s σ H _ I h) fun v s1 ⟨x, H1, I1, r1, q1⟩ => ho pins s1 σ H1 x v Q I1 r1 q1)
theorem opI {f : Value -> Value -> Sem Value} {C : Int -> Int -> Prop} {g : Int -> Int -> Int}
  (rule : ∀ (i j : Int) (t u : Tok) (s : Shared) (Q : Value -> Shared -> Prop) (E : Value -> Shared -> Prop), C i j -> Q (.int (g i j) s.toks) { s with toks := s.toks + 1 } -> wpAny (model X.prog X.w) X.A (f (.int i t) (.int j u)) Q E s) :
  OpR X f (rI C fun i j => .int (g i j)) := by
 intro pins s σ H x y v u Q I rx ry h
 obtain ⟨i, j, rfl, rfl, hc, q⟩ := h
 obtain ⟨t, rfl⟩ := rx
 obtain ⟨t', rfl⟩ := ry
 exact rule i j t t' s _ _ hc ⟨.int (g i j), H, I.tok _, ⟨_, rfl⟩, q⟩
theorem opI0 {f : Value -> Value -> Sem Value} {g : Int -> Int -> Int}
  (rule : ∀ (i j : Int) (t u : Tok) (s : Shared) (Q : Value -> Shared -> Prop) (E : Value -> Shared -> Prop), Q (.int (g i j) s.toks) { s with toks := s.toks + 1 } -> wpAny (model X.prog X.w) X.A (f (.int i t) (.int j u)) Q E s) :
  OpR X f (rI0 fun i j => .int (g i j)) := by
 intro pins s σ H x y v u Q I rx ry h
 obtain ⟨i, j, rfl, rfl, q⟩ := h
 obtain ⟨t, rfl⟩ := rx
 obtain ⟨t', rfl⟩ := ry
 exact rule i j t t' s _ _ ⟨.int (g i j), H, I.tok _, ⟨_, rfl⟩, q⟩
theorem opB0 {f : Value -> Value -> Sem Value} {g : Int -> Int -> Bool}
  (rule : ∀ (i j : Int) (t u : Tok) (s : Shared) (Q : Value -> Shared -> Prop) (E : Value -> Shared -> Prop), Q (.bool (g i j)) s -> wpAny (model X.prog X.w) X.A (f (.int i t) (.int j u)) Q E s) :
  OpR X f (rI0 fun i j => .bl (g i j)) := by
 intro pins s σ H x y v u Q I rx ry h
 obtain ⟨i, j, rfl, rfl, q⟩ := h
 obtain ⟨t, rfl⟩ := rx
 obtain ⟨t', rfl⟩ := ry
 exact rule i j t t' s _ _ ⟨.bl (g i j), H, I, rfl, q⟩
def CPow (i j : Int) : Prop := 0 <= j /\ j <= 1000000 /\ i.natAbs < 2 ^ 64
def CMul (i j : Int) : Prop := (-(2 ^ 64) < i /\ i < 2 ^ 64) \/ (-(2 ^ 64) < j /\ j < 2 ^ 64)
theorem CMul.ok {i j : Int} (h : CMul i j) : IntMulOk i j := by
 rcases h with ⟨h1, h2⟩ | ⟨h1, h2⟩
 ·exact .of_left (intBits_le_64 h1 h2)
 ·exact .of_right (intBits_le_64 h1 h2)
theorem op_add : OpR X (binaryOp .Add) (rI0 fun i j => .int (i + j)) := opI0 fun _ _ _ _ _ _ _ q => add_int q
theorem op_sub : OpR X (binaryOp .Sub) (rI0 fun i j => .int (i - j)) := opI0 fun _ _ _ _ _ _ _ q => sub_int q
theorem op_mod : OpR X (binaryOp .Mod) (rI (fun _ j => 0 < j) fun i j => .int (i % j)) := opI fun i j _ _ _ _ _ hc q => by
 have h1 : (0 : Int) < j := hc
 exact mod_int' (by omega) (by rw [Int.fmod_eq_emod_of_nonneg i (by omega)]; exact q)
theorem op_pow : OpR X (binaryOp .Pow) (rI CPow fun i j => .int (i ^ j.toNat)) := opI fun _ _ _ _ _ _ _ hc q => pow_int_small hc.1 hc.2.1 hc.2.2 q
theorem unI {f : Value -> Sem Value} {g : Int -> Int}
  (rule : ∀ (i : Int) (t : Tok) (s : Shared) (Q : Value -> Shared -> Prop) (E : Value -> Shared -> Prop), Q (.int (g i) s.toks) { s with toks := s.toks + 1 } -> wpAny (model X.prog X.w) X.A (f (.int i t)) Q E s) :
  UnR X f (rU fun i => .int (g i)) := by
 intro pins s σ H x v Q I rx h
 obtain ⟨i, rfl, q⟩ := h
 obtain ⟨t, rfl⟩ := rx
 exact rule i t s _ _ ⟨.int (g i), H, I.tok _, ⟨_, rfl⟩, q⟩
theorem un_neg : UnR X (unaryOp .USub) (rU fun i => .int (-i)) := unI fun _ _ _ _ _ q => neg_int q
end
def scal : V -> V -> Bool
 | .non, .non => true | .non, .int _ => true | .int _, .non => true | .non, .bl _ => true | .bl _, .non => true | .non, .str _ => true | .str _, .non => true
 | .int _, .int _ => true | .bl _, .bl _ => true | .str _, .str _ => true | .byt _, .byt _ => true
 | .int _, .str _ => true | .str _, .int _ => true | .bl _, .str _ => true | .str _, .bl _ => true
 | _, _ => false
def rEq : R2 := fun x y H Q => scal x y = true /\ Q (.bl (decide (x = y))) H
def rNe : R2 := fun x y H Q => scal x y = true /\ Q (.bl (!decide (x = y))) H
theorem dec_int {i j : Int} : decide (V.int i = V.int j) = (i == j) := by
 rw [zq76x]
 simp
theorem dec_bl {i j : Bool} : decide (V.bl i = V.bl j) = (i == j) := by
 rw [zq76x]
 simp
theorem dec_str {i j : Str} : decide (V.str i = V.str j) = (i == j) := by
 rw [zq76x]
 simp
theorem dec_byt {i j : Array UInt8} : decide (V.byt i = V.byt j) = (i.toList == j.toList) := by
 rw [zq76x]
 cases i
 cases j
 simp
section
variable {X : Cx} {a b c : Expr} {ta tb tc : TE} {pos : Pos}
theorem fin_bl {pins : List (Addr × Obj)} {σ : St} {H : Hp} {s : Shared} {Q : VK} {k k' : Bool} (I : Inv X pins σ H s) (q : Q (.bl k) H) (e : k = k') : EP X pins σ Q (.bool k') s := by
 subst e
 exact ⟨.bl k, H, I, rfl, q⟩
theorem op_eq : OpR X (compareOp .Eq) rEq := by
  intro pins s σ H x y v u Q I rx ry h
  obtain ⟨hs, q⟩ := h
  cases x with
  | non =>
    cases rx
    cases y with
    | non => cases ry; exact PySem.EqNone.eq_none_none (fin_bl I q (by simp))
    | bl j => cases ry; exact PySem.EqNone.eq_none_bool (fin_bl I q (by simp))
    | int j => obtain ⟨t', rfl⟩ := ry; exact PySem.EqNone.eq_none_int (fin_bl I q (by simp))
    | str j => obtain ⟨t', rfl⟩ := ry; exact PySem.EqNone.eq_none_str (fin_bl I q (by simp))
    | _ => exact absurd (show false = true from hs) zq15x
  | bl i =>
    cases rx
    cases y with
    | non => cases ry; exact PySem.EqNone.eq_bool_none (fin_bl I q (by simp))
    | bl j => cases ry; exact eq_bool (fin_bl I q dec_bl)
    | str j => obtain ⟨t', rfl⟩ := ry; exact PySem.EqMixed.eq_bool_str (fin_bl I q (by simp))
    | _ => exact absurd (show false = true from hs) zq15x
  | int i =>
    obtain ⟨t, rfl⟩ := rx
    cases y with
    | non => cases ry; exact PySem.EqNone.eq_int_none (fin_bl I q (by simp))
    | int j => obtain ⟨t', rfl⟩ := ry; exact eq_int (fin_bl I q dec_int)
    | str j => obtain ⟨t', rfl⟩ := ry; exact PySem.EqMixed.eq_int_str (fin_bl I q (by simp))
    | _ => exact absurd (show false = true from hs) zq15x
  | str i =>
    obtain ⟨t, rfl⟩ := rx
    cases y with
    | non => cases ry; exact PySem.EqNone.eq_str_none (fin_bl I q (by simp))
    | bl j => cases ry; exact PySem.EqMixed.eq_str_bool (fin_bl I q (by simp))
    | int j => obtain ⟨t', rfl⟩ := ry; exact PySem.EqMixed.eq_str_int (fin_bl I q (by simp))
    | str j => obtain ⟨t', rfl⟩ := ry; exact eq_str (fin_bl I q dec_str)
    | _ => exact absurd (show false = true from hs) zq15x
  | byt i =>
    obtain ⟨t, rfl⟩ := rx
    cases y with
    | byt j => obtain ⟨t', rfl⟩ := ry; exact PySem.W.eq_bytes (fin_bl I q dec_byt)
    | _ => exact absurd (show false = true from hs) zq15x
  | _ => cases y <;> exact absurd (show false = true from hs) zq15x
theorem op_ne : OpR X (compareOp .NotEq) rNe := by
  intro pins s σ H x y v u Q I rx ry h
  obtain ⟨hs, q⟩ := h
  cases x with
  | non =>
    cases rx
    cases y with
    | non => cases ry; exact PySem.EqNone.ne_none_none (fin_bl I q (by simp))
    | bl j => cases ry; exact PySem.EqNone.ne_none_bool (fin_bl I q (by simp))
    | int j => obtain ⟨t', rfl⟩ := ry; exact PySem.EqNone.ne_none_int (fin_bl I q (by simp))
    | str j => obtain ⟨t', rfl⟩ := ry; exact PySem.EqNone.ne_none_str (fin_bl I q (by simp))
    | _ => exact absurd (show false = true from hs) zq15x
  | bl i =>
    cases rx
    cases y with
    | non => cases ry; exact PySem.EqNone.ne_bool_none (fin_bl I q (by simp))
    | bl j => cases ry; exact ne_bool (fin_bl I q (congrArg not dec_bl))
    | str j => obtain ⟨t', rfl⟩ := ry; exact PySem.EqMixed.ne_bool_str (fin_bl I q (by simp))
    | _ => exact absurd (show false = true from hs) zq15x
  | int i =>
    obtain ⟨t, rfl⟩ := rx
    cases y with
    | non => cases ry; exact PySem.EqNone.ne_int_none (fin_bl I q (by simp))
    | int j => obtain ⟨t', rfl⟩ := ry; exact ne_int (fin_bl I q (congrArg not dec_int))
    | str j => obtain ⟨t', rfl⟩ := ry; exact PySem.EqMixed.ne_int_str (fin_bl I q (by simp))
    | _ => exact absurd (show false = true from hs) zq15x
  | str i =>
    obtain ⟨t, rfl⟩ := rx
    cases y with
    | non => cases ry; exact PySem.EqNone.ne_str_none (fin_bl I q (by simp))
    | bl j => cases ry; exact PySem.EqMixed.ne_str_bool (fin_bl I q (by simp))
    | int j => obtain ⟨t', rfl⟩ := ry; exact PySem.EqMixed.ne_str_int (fin_bl I q (by simp))
    | str j => obtain ⟨t', rfl⟩ := ry; exact ne_str (fin_bl I q (congrArg not dec_str))
    | _ => exact absurd (show false = true from hs) zq15x
  | byt i =>
    obtain ⟨t, rfl⟩ := rx
    cases y with
    | byt j => obtain ⟨t', rfl⟩ := ry; exact PySem.W.ne_bytes (fin_bl I q (congrArg not dec_byt))
    | _ => exact absurd (show false = true from hs) zq15x
  | _ => cases y <;> exact absurd (show false = true from hs) zq15x
theorem op_lt : OpR X (compareOp .Lt) (rI0 fun i j => .bl (decide (i < j))) := opB0 fun _ _ _ _ _ _ _ q => lt_int q
theorem op_le : OpR X (compareOp .LtE) (rI0 fun i j => .bl (decide (i <= j))) := opB0 fun _ _ _ _ _ _ _ q => le_int q
theorem op_gt : OpR X (compareOp .Gt) (rI0 fun i j => .bl (decide (j < i))) := opB0 fun _ _ _ _ _ _ _ q => gt_int q
theorem op_isN : OpR X (compareOp .Is) (fun x y H Q => y = .non /\ Q (.bl (decide (x = .non))) H) := by
 intro pins s σ H x y v u Q I rx ry h
 obtain ⟨rfl, q⟩ := h
 cases ry
 refine is_none_gen (fin_bl I q ?_)
 cases x <;> first
  | (cases rx; rfl)
  | (obtain ⟨t, rfl⟩ := rx; rfl)
theorem op_notN : OpR X (compareOp .IsNot) (fun x y H Q => y = .non /\ Q (.bl (!decide (x = .non))) H) := by
 intro pins s σ H x y v u Q I rx ry h
 obtain ⟨rfl, q⟩ := h
 cases ry
 refine isnot_none_gen (fin_bl I q ?_)
 cases x <;> first
  | (cases rx; rfl)
  | (obtain ⟨t, rfl⟩ := rx; rfl)
theorem nomark (b : Expr) {op : CmpOp} (h : op ≠ .In := by decide) (h2 : op ≠ .NotIn := by decide) : behindInMarks op b = false := by
 have e1 : (op == CmpOp.In) = false := by cases op <;> first | rfl | exact absurd rfl h
 have e2 : (op == CmpOp.NotIn) = false := by cases op <;> first | rfl | exact absurd rfl h2
 cases b <;> simp [behindInMarks, e1, e2]
theorem pe_cmpR {op : CmpOp} {r : R2} (ho : OpR X (compareOp op) r) (ha : PE X a ta) (hb : PE X b tb) (hm : behindInMarks op b = false) : PE X (.Compare a [op] [b] pos) (tOp r ta tb) := by
 intro pins s σ H Q I h
 exact wpAny_Compare1 (binT ha hb I h fun v u s2 x y H2 I2 rx ry q => ho pins s2 σ H2 x y v u Q I2 rx ry q) hm
def tTest (t : TE) : TT := fun σ H Q => t σ H fun x H' => ∃ k, x = .bl k /\ Q k H'
theorem pt_cmpR {op : CmpOp} {r : R2} (ho : OpR X (compareOp op) r) (ha : PE X a ta) (hb : PE X b tb) (hm : behindInMarks op b = false) : PT X (.Compare a [op] [b] pos) (tTest (tOp r ta tb)) := by
 intro pins s σ H Q I h
 refine wpAny_isTrue_Compare1 (thn (ha pins s σ H _ I h) fun v s1 ⟨x, H1, I1, r1, q1⟩ => thn (hb pins s1 σ H1 _ I1 q1) fun u s2 ⟨y, H2, I2, r2, q2⟩ =>
  thn (ho pins s2 σ H2 x y v u _ I2 r1 r2 q2) fun c s3 ⟨z, H3, I3, r3, k, e, q3⟩ => ?_) hm
 subst e
 cases r3
 exact wpAny_truthy_bool ⟨H3, I3, q3⟩
def TruV (K : PySem.W.Frag) (x : V) (H : Hp) (k : Bool) : Prop :=
 match x with
 | .non => k = false
 | .bl b => k = b
 | .int i => k = (i != 0)
 | .str y => y.length <= sizeLine /\ k = ((y.length : Int) != 0)
 | .byt y => y.size <= sizeLine /\ k = ((y.size : Int) != 0)
 | .ref p => (∃ xs, SqL K H p xs /\ k = !xs.isEmpty) \/ (∃ xs, SqT K H p xs /\ k = !xs.isEmpty) \/ ∃ kvs, H p = some (.dK kvs) /\ k = !kvs.isEmpty
 | _ => False
theorem isEmpty_kv {κ : Type} {kvs : List (κ × V)} {vs : List (κ × Value)} (r : KV kvs vs) : (!vs.isEmpty) = !kvs.isEmpty := by
 cases r <;> rfl
theorem isEmpty_of {xs : List V} {its : List Value} (r : Vals xs its) : (!its.toArray.isEmpty) = !xs.isEmpty := by
 cases r <;> simp
theorem line63 : (sizeLine : Nat) < 2 ^ 63 := by rw [sizeLine_eq]; decide
theorem tru_ok : TruR X (fun x H Q => ∃ k, TruV X.K x H k /\ Q k H) := by
  intro pins s σ H x v Q I rx h
  obtain ⟨k, e, q⟩ := h
  have hl := line63
  have hs : sizeLine = 16777216 := sizeLine_eq
  cases x with
  | non =>
    cases rx
    have e' : k = false := e
    subst e'
    exact truthy_none ⟨H, I, q⟩
  | bl b =>
    cases rx
    have e' : k = b := e
    subst e'
    exact wpAny_truthy_bool ⟨H, I, q⟩
  | int i =>
    obtain ⟨t, rfl⟩ := rx
    have e' : k = (i != 0) := e
    subst e'
    exact PySem.P.truthy_int ⟨H, I, q⟩
  | str y =>
    obtain ⟨t, rfl⟩ := rx
    obtain ⟨hy, e'⟩ : y.length <= sizeLine /\ k = ((y.length : Int) != 0) := e
    subst e'
    exact PySem.P.truthy_str (by omega) ⟨H, I.tok _, q⟩
  | byt y =>
    obtain ⟨t, rfl⟩ := rx
    obtain ⟨hy, e'⟩ : y.size <= sizeLine /\ k = ((y.size : Int) != 0) := e
    subst e'
    exact PySem.W.truthy_bytes (by omega) ⟨H, I.tok _, q⟩
  | ref p =>
    cases rx
    have e' : (∃ xs, SqL X.K H p xs /\ k = !xs.isEmpty) \/ (∃ xs, SqT X.K H p xs /\ k = !xs.isEmpty) \/ ∃ kvs, H p = some (.dK kvs) /\ k = !kvs.isEmpty := e
    rcases e' with ⟨xs, hx, e'⟩ | ⟨xs, hx, e'⟩ | ⟨kvs, hx, e'⟩
    · subst e'
      obtain ⟨its, r, pl, hz⟩ := I.list hx
      have hlen := r.length
      exact wpAny_truthy_list pl.isList (by simp only [zq13x]; omega) ⟨H, I.tok _, by rw [isEmpty_of r]; exact q⟩
    · subst e'
      obtain ⟨its, r, pl, hz⟩ := I.tuple hx
      have hlen := r.length
      exact truthy_tuple pl (by simp only [zq13x]; omega) ⟨H, I.tok _, by rw [isEmpty_of r]; exact q⟩
    · subst e'
      obtain ⟨hz, hS, vs, r, m⟩ : kvs.length <= sizeLine /\ (p == sysModules) = false /\ ∃ vs, KV kvs vs /\ s.heap.DictOf (mixKind X.prog X.w) p vs := I.hok p _ hx
      have hlen : kvs.length = vs.length := Paired.length r
      exact wpAny_truthy_dict hS m (by omega) ⟨H, I.tok _, by rw [isEmpty_kv r]; exact q⟩
  | _ => exact (show False from e).elim
theorem pt_truth (ha : PE X a ta) (he : ∀ whole, isTrue a X.env whole = (do let v <- whole; standAt a.pos; holding [v] (truthy v))) :
  PT X a (fun σ H Q => ta σ H fun x H' => ∃ k, TruV X.K x H' k /\ Q k H') := by
 intro pins s σ H Q I h
 exact isTrue_plain (thn (ha pins s σ H _ I h) fun v s1 ⟨x, H1, I1, r1, q1⟩ => tru_ok pins s1 σ H1 x v Q I1 r1 q1) (he _)
theorem vals1 {x : V} {us : List Value} (r : Vals [x] us) : ∃ u, us = [u] /\ RelV x u := by
 cases r with
 | cons r1 r2 => cases r2; exact ⟨_, rfl, r1⟩
theorem vals2 {x y : V} {us : List Value} (r : Vals [x, y] us) : ∃ u w', us = [u, w'] /\ RelV x u /\ RelV y w' := by
  cases r with
  | cons r1 r2 =>
    cases r2 with
    | cons r3 r4 => cases r4; exact ⟨_, _, rfl, r1, r3⟩
theorem call_abs : CallR X (.builtin "abs") (fun xs H Q => ∃ i, xs = [.int i] /\ Q (.int (if i < 0 then -i else i)) H) := by
 intro pins s σ H xs us Q I r h
 obtain ⟨i, rfl, q⟩ := h
 obtain ⟨u, rfl, t, rfl⟩ := vals1 r
 exact call_abs_int fun u tk => ⟨.int (if i < 0 then -i else i), H, I.tok _, ⟨_, rfl⟩, q⟩
theorem call_max2 (hc : X.calm = true) : CallR X (.builtin "max") (fun xs H Q => ∃ i j, xs = [.int i, .int j] /\ Q (.int (if j > i then j else i)) H) := by
 intro pins s σ H xs us Q I r h
 obtain ⟨i, j, rfl, q⟩ := h
 obtain ⟨u, w', rfl, ⟨t, rfl⟩, ⟨t', rfl⟩⟩ := vals2 r
 refine max_two_ints (I.ok.hd hc) fun h' tk k => ⟨_, H, I.kept k, ?_, q⟩
 by_cases hj : j > i
 ·rw [if_pos hj, if_pos hj]; exact ⟨_, rfl⟩
 ·rw [if_neg hj, if_neg hj]; exact ⟨_, rfl⟩
theorem call_min2 (hc : X.calm = true) : CallR X (.builtin "min") (fun xs H Q => ∃ i j, xs = [.int i, .int j] /\ Q (.int (if j < i then j else i)) H) := by
 intro pins s σ H xs us Q I r h
 obtain ⟨i, j, rfl, q⟩ := h
 obtain ⟨u, w', rfl, ⟨t, rfl⟩, ⟨t', rfl⟩⟩ := vals2 r
 refine min_two_ints (I.ok.hd hc) fun h' tk k => ⟨_, H, I.kept k, ?_, q⟩
 by_cases hj : j < i
 ·rw [if_pos hj, if_pos hj]; exact ⟨_, rfl⟩
 ·rw [if_neg hj, if_neg hj]; exact ⟨_, rfl⟩
end
structure ObjM (h : Heap) (x dx C : Addr) (mA : Str -> Option Value) : Prop where
 obj : h.get? x = some (PySem.W.instObj C dx)
 ns : h.Ns1 dx mA
 ne : dx ≠ x
theorem lookIn_ns {h : Heap} {dx : Addr} {mA : Str -> Option Value} (n : h.Ns1 dx mA) : ∃ od, h.get? dx = some od /\ ∀ name, PySem.W.lookIn name od = some (mA name) := by
 obtain ⟨o, es, ep, ho, hd, hk, _, hm⟩ := n
 refine ⟨o, ho, fun name => ?_⟩
 have e := hm name
 unfold nsFind findBy at e
 rw [<- Array.find?_toList] at e
 unfold PySem.W.lookIn
 rw [hd]
 dsimp only
 split
 ·rename_i y q
  rw [q] at e
  exact congrArg some e
 ·rename_i q
  rw [q] at e
  have a : es.toList.any (·.refKey) = false := by
   rw [List.any_eq_false]
   intro y hy
   obtain ⟨z, t, hkey⟩ := hk y (Array.mem_toList_iff.mp hy)
   simp [DictEntry.refKey, hkey]
  have a' : ¬ es.toList.any (·.refKey) = true := by rw [a]; exact zq15x
  rw [if_neg a']
  exact congrArg some e
theorem ObjM.look {h : Heap} {x dx C : Addr} {mA : Str -> Option Value} (I : ObjM h x dx C mA) : ∃ od, PySem.W.InstAt h x (PySem.W.instObj C dx) C (some od) /\ ∀ name, PySem.W.lookIn name od = some (mA name) :=
 let ⟨od, ho, hl⟩ := lookIn_ns I.ns
 ⟨od, ⟨I.obj, rfl, rfl, ho⟩, hl⟩
section
variable {P : Program} {w : World} {H H' : Hp} {h h' : Heap} {a C dx : Addr} {fs fs' : List (Str × V)}
theorem ins_get (hok : HOk P w H h) (e : H a = some (.ins C dx fs)) : ∃ mA, ObjM h a dx C mA /\ (∀ f, RelO (fs.lookup f) (mA f)) /\ PySem.Within mA (fs.map (·.1)) /\ fs.length <= 1000 /\ H dx = some (.own a) := by
 obtain ⟨d, z, ne, ob, mA, n, r, q⟩ := (show ObjOk P w H h a (.ins C dx fs) from hok a _ e)
 exact ⟨mA, ⟨ob, n, ne⟩, r, q, z, d⟩
end
structure Cls (K : PySem.W.Frag) (C : Addr) : Prop where
 pg : PySem.W.plainGet K C Str.empty = true
 hd : PySem.W.hasDictIn K C = true
 po : PySem.W.plainOver K C = true
 sa : PySem.W.findIn K (.ref C) "__setattr__" = some (some (.builtin "object.__setattr__"))
theorem Cls.get {K : PySem.W.Frag} {C : Addr} (c : Cls K C) (f : Str) : PySem.W.plainGet K C f = true := c.pg
section
variable {X : Cx} {pins : List (Addr × Obj)} {σ : St} {H : Hp} {s : Shared} {A : Around} {E : Value -> Shared -> Prop} {Q : Value -> Shared -> Prop} {c : Value} {b : Bool}
inductive TyOf (K : PySem.W.Frag) (H : Hp) : V -> Value -> Prop where
 | non : TyOf K H .non (.type "NoneType")
 | bl (x : Bool) : TyOf K H (.bl x) (.type "bool")
 | int (i : Int) : TyOf K H (.int i) (.type "int")
 | str (x : Str) : TyOf K H (.str x) (.type "str")
 | flt (x : UInt64) : TyOf K H (.flt x) (.type "float")
 | lst {a : Addr} {xs : List V} (e : H a = some (.lst xs)) : TyOf K H (.ref a) (.type "list")
 | frz {a : Addr} {o : Obj} {xs : List V} (e : H a = some (.frz o (.lst xs))) : TyOf K H (.ref a) (.type "list")
 | tup {a : Addr} {xs : List V} (e : H a = some (.tup xs)) : TyOf K H (.ref a) (.type "tuple")
 | dK {a : Addr} {kvs : List (Key × V)} (e : H a = some (.dK kvs)) : TyOf K H (.ref a) (.type "dict")
 | dT {a : Addr} {kvs : List (List Key × V)} (e : H a = some (.dT kvs)) : TyOf K H (.ref a) (.type "dict")
 | fzd {a : Addr} {o : Obj} {kvs : List (Key × V)} (e : H a = some (.frz o (.dK kvs))) : TyOf K H (.ref a) (.type "dict")
 | ins {a C dx : Addr} {fs : List (Str × V)} (e : H a = some (.ins C dx fs)) (cl : Cls K C) (ha : PySem.W.findIn K (.ref C) "__class__" = some (some (.builtin "object.__class__")))
   (hn : PySem.W.specialIn K (.builtin "object.__class__") "__get__" = some (some (.builtin "getset_descriptor.__get__"))) (htk : PySem.W.takesIn K (.builtin "object.__class__") = some true)
   (hm : PySem.W.mroIn K C (.type "object") = some true) : TyOf K H (.ref a) (.ref C)
theorem isinst_ok {x : V} {u t : Value} (I : Inv X pins σ H s) (rx : RelV x u) (ty : TyOf X.K H x t) (e : PySem.W.kitOne X.K t c = some b) (h : ∀ tk, Q (.bool b) { s with toks := tk }) :
    wpAny (model X.prog X.w) A (call (.builtin "isinstance") [u, c]) Q E s := by
  cases ty with
  | non => cases (show u = Value.none from rx); exact zq50x PySem.W.kitx_none I.kIn True.intro e (fun z => nomatch z) h
  | bl y => cases (show u = Value.bool y from rx); exact zq50x PySem.W.kitx_bool I.kIn True.intro e (fun z => nomatch z) h
  | int i => obtain ⟨t, q⟩ := (show ∃ t, u = Value.int i t from rx); cases q; exact zq50x PySem.W.kitx_int I.kIn True.intro e (fun z => nomatch z) h
  | str y => obtain ⟨t, q⟩ := (show ∃ t, u = Value.str y t from rx); cases q; exact zq50x PySem.W.kitx_str I.kIn True.intro e (fun z => nomatch z) h
  | flt y => obtain ⟨t, q⟩ := (show ∃ t, u = Value.float y t from rx); cases q; exact zq50x PySem.W.kitx_float I.kIn True.intro e (fun z => nomatch z) h
  | @lst a xs ea =>
    cases (show u = Value.ref a from rx)
    obtain ⟨_, _, n, _, h1⟩ := (show ObjOk X.prog X.w H s.heap a (.lst xs) from I.hok a _ ea)
    exact zq50x PySem.W.kitx_list I.kIn ⟨_, h1, rfl⟩ e (fun z => nomatch z) h
  | @frz a ob xs ea =>
    cases (show u = Value.ref a from rx)
    obtain ⟨_, _, _, n, _, h1⟩ := (show ObjOk X.prog X.w H s.heap a (.frz ob (.lst xs)) from I.hok a _ ea)
    exact zq50x PySem.W.kitx_list I.kIn ⟨_, h1, rfl⟩ e (fun z => nomatch z) h
  | @tup a xs ea =>
    cases (show u = Value.ref a from rx)
    obtain ⟨_, _, _, p⟩ := (show ObjOk X.prog X.w H s.heap a (.tup xs) from I.hok a _ ea)
    obtain ⟨o, h1, h2, _⟩ := p
    exact zq50x PySem.W.kitx_tuple I.kIn ⟨o, h1, h2⟩ e (fun z => nomatch z) h
  | @dK a kvs ea =>
    cases (show u = Value.ref a from rx)
    obtain ⟨_, _, vs, _, p⟩ := (show ObjOk X.prog X.w H s.heap a (.dK kvs) from I.hok a _ ea)
    obtain ⟨o, es, ep, h1, h2, _⟩ := p
    exact zq50x zq140x I.kIn ⟨o, h1, h2.1⟩ e (fun z => nomatch z) h
  | @dT a kvs ea =>
    cases (show u = Value.ref a from rx)
    obtain ⟨_, _, xs, _, o, es, ep, h1, h2, _⟩ := (show ObjOk X.prog X.w H s.heap a (.dT kvs) from I.hok a _ ea)
    exact zq50x zq140x I.kIn ⟨o, h1, h2.1⟩ e (fun z => nomatch z) h
  | @fzd a ob kvs ea =>
    cases (show u = Value.ref a from rx)
    obtain ⟨_, _, _, vs, _, o, es, ep, h1, h2, _⟩ := I.hok a _ ea
    exact zq50x zq140x I.kIn ⟨o, h1, h2.1⟩ e (fun z => nomatch z) h
  | @ins a C dx fs ea cl ha hn htk hm =>
    cases (show u = Value.ref a from rx)
    obtain ⟨mA, O, _⟩ := ins_get I.hok ea
    obtain ⟨od, J, _⟩ := O.look
    exact zq50x (PySem.W.kitx_own (cl.get _) cl.hd ha hn htk hm) I.kIn J e (fun z => nomatch z) h
end
structure Room (k : Nat) (A : Around) : Prop where
 hd : A.handled = none
 dp : A.depth + 3 * k + 5 < recursionLimit
 un : A.units + 16 * k + 200 < cLine
theorem Room.mono {j k : Nat} {A : Around} (r : Room k A) (h : j <= k) : Room j A := ⟨r.hd, by have := r.dp; omega, by have := r.un; omega⟩
theorem Room.deeper {k : Nat} {A : Around} (r : Room (k + 1) A) (env : Env) : Room k (A.deeper env) :=
 ⟨r.hd, by have := r.dp; show A.depth + 1 + 3 * k + 5 < _; omega, by have := r.un; show A.units + 3 + 16 * k + 200 < _; omega⟩
theorem Room.depth {k : Nat} {A : Around} (r : Room k A) : A.depth < recursionLimit := by have := r.dp; omega
theorem Room.units {k : Nat} {A : Around} (r : Room k A) : A.units + 64 < cLine := by have := r.un; omega
def tNil : TA := fun _ H Q => Q [] H
def tCons (ta : TE) (tr : TA) : TA := fun σ H Q => ta σ H fun x H1 => tr σ H1 fun xs H2 => Q (x :: xs) H2
section
variable {X : Cx} {e : Expr} {es : List Expr} {te : TE} {t : TA} {pos : Pos}
theorem pa_nil : PA X [] tNil := fun _ _ _ _ H Q I h => Calls.spliced_nil ⟨[], H, I, .nil, h⟩
theorem pa_cons (ha : PE X e te) (hr : PA X es t) (hs : starEach (e :: es) X.env = (false, eval e X.env) :: starEach es X.env := by rfl) : PA X (e :: es) (tCons te t) := by
 intro pos pins s σ H Q I h
 rw [hs]
 show wpAny _ _ (spliced ((false, eval e X.env) :: backTo pos (starEach es X.env))) _ _ s
 refine Calls.spliced_cons (thn (ha pins s σ H _ I h) fun u s1 ⟨x, H1, I1, r1, q1⟩ => ?_)
 exact thn (hr pos pins s1 σ H1 _ I1 q1) fun us s2 ⟨xs, H2, I2, r2, q2⟩ => ⟨x :: xs, H2, I2, .cons r1 r2, q2⟩
def tTup (t : TA) : TE := fun σ H Q => t σ H fun xs H1 => xs.length <= sizeLine /\ ∀ p, H1 p = none -> Q (.ref p) (upd H1 p (.tup xs))
def tLst (t : TA) : TE := fun σ H Q => t σ H fun xs H1 => xs.length <= sizeLine /\ ∀ p, H1 p = none -> Q (.ref p) (upd H1 p (.lst xs))
theorem pe_tup {x1} (h : PA X es t) : PE X (.Tuple es x1 pos) (tTup t) := by
 intro pins s σ H Q I hq
 refine wpAny_Tuple_spliced (thn (h pos pins s σ H _ I hq) fun us s1 ⟨xs, H1, I1, r, z, q⟩ => ⟨by rw [<- r.length]; exact z, ?_⟩)
 have hf : H1 s1.heap.objs.size = none := I1.hok.fresh (zq5x _)
 refine ⟨.ref s1.heap.objs.size, upd H1 s1.heap.objs.size (.tup xs), I1.laid (t' := s1.toks) (fun b u e => zq49x _ e) (zq5x _) ?_, rfl, q _ hf⟩
 exact ⟨z, us, r, ⟨_, zq75x _ rfl, rfl, _, rfl⟩⟩
theorem pe_lst (h : PA X es t) : PE X (.List es pos) (tLst t) := by
 intro pins s σ H Q I hq
 refine wpAny_List_spliced (thn (h pos pins s σ H _ I hq) fun us s1 ⟨xs, H1, I1, r, z, q⟩ => ⟨by rw [<- r.length]; exact z, ?_⟩)
 have hf : H1 s1.heap.objs.size = none := I1.hok.fresh (zq5x _)
 refine ⟨.ref s1.heap.objs.size, upd H1 s1.heap.objs.size (.lst xs), I1.laid (t' := s1.toks) (fun b u e => zq49x _ e) (zq5x _) ?_, rfl, q _ hf⟩
 exact ⟨z, us, 0, r, zq75x _ rfl⟩
end
abbrev Sp := List V -> Hp -> VK -> XK -> Prop
abbrev CXT := List Env -> Hp -> Shared -> XK -> Value -> Shared -> Prop
structure Env0 (P : Program) (w : World) (K : PySem.W.Frag) (mg : Str -> Option Value) (base : Heap) (A : Around) (outer : List Env) (s : Shared) (H : Hp) : Prop where
 frames : A.frames = some outer
 mod : Mod K mg base
 bs : ∀ b o, base.get? b = some o -> s.heap.get? b = some o /\ H b = none
 bsz : base.objs.size <= s.heap.objs.size
 funs : s.heap.FunFrames base outer
 frf : ∀ b ∈ frs outer, H b = none
 hok : HOk P w H s.heap
 bare : AllBare s.gens
def CE (outer : List Env) (P : Program) (w : World) (H : Hp) (s : Shared) (Q : VK) (u : Value) (s' : Shared) : Prop :=
 ∃ v H', s'.os = s.os /\ AllBare s'.gens /\ Un (frs outer) [] H H' s.heap s'.heap /\ HOk P w H' s'.heap /\ RelV v u /\ Q v H'
def CR (CX : CXT) (outer : List Env) (P : Program) (w : World) (H : Hp) (s : Shared) (Q : VK) (E : XK) (r : Result) (s' : Shared) : Prop :=
 match r with
 | .ok (.ret u) => CE outer P w H s Q u s'
 | .ok _ => False
 | .error e => CX outer H s E e s'
structure FnOk (P : Program) (w : World) (K : PySem.W.Frag) (mg : Str -> Option Value) (base : Heap) (CX : CXT) (k : Nat) (f : Addr) (fd : FuncData) (ps : List Str) (sp : Sp) : Prop where
 len : ∀ vs H Q E, sp vs H Q E -> vs.length = ps.length
 run : ∀ (A : Around) (outer : List Env) (s : Shared) (H : Hp) (args : Args) (us : List Value) (vs : List V) (Q : VK) (E : XK), Room k A -> Env0 P w K mg base A outer s H -> BindsTo s fd args (ps.zip us) -> Vals vs us -> sp vs H Q E ->
  codeAny (model P w) A (.call (.ref f) args) (CR CX outer P w H s Q E) s
section
variable {X : Cx} {pins : List (Addr × Obj)} {σ : St} {H : Hp} {s s' : Shared}
theorem Inv.env0 (I : Inv X pins σ H s) : Env0 X.prog X.w X.K X.mg X.base X.A X.stack s H :=
 ⟨I.ok.frames, I.ok.mod, I.bs, zq31x I.ok.bsz I.sz, I.stack, I.stkFree, I.hok, I.bare⟩
theorem Inv.after {Q : VK} {u : Value} (I : Inv X pins σ H s) (h : CE X.stack X.prog X.w H s Q u s') : EP X pins σ Q u s' := by
 obtain ⟨v, H', os, bare, un, hok, r, q⟩ := h
 obtain ⟨hh, g, d, t, os'⟩ := s'
 obtain rfl : os' = s.os := os
 exact ⟨v, H', I.call (h' := hh) (g' := g) (d' := d) (t' := t) (ch := []) un hok bare (fun b z => absurd z (by simp)), r, q⟩
end
def tCall (sp : Sp) (dvs : List V) (E : XK) (t : TA) : TE := fun σ H Q => t σ H fun vs H1 => sp (vs ++ dvs) H1 Q E
def Binds (K : PySem.W.Frag) (fd : FuncData) (ps : List Str) (ds : List Value) : Prop :=
 ∀ (s : Shared) (us : List Value), K.In s.heap -> (us ++ ds).length = ps.length -> BindsTo s fd ⟨us, []⟩ (ps.zip (us ++ ds))
theorem Binds.all {K : PySem.W.Frag} {fd : FuncData} {ps : List Str} (h : ∀ us : List Value, us.length = ps.length -> bindArgs fd ⟨us, []⟩ = pure (ps.zip us)) : Binds K fd ps [] := fun s us _ hl => by
 rw [zq77x] at hl ⊢
 exact .of_eq (h us hl)
def Passes (CX : CXT) (X : Cx) (E : XK) : Prop := ∀ (pins : List (Addr × Obj)) (σ : St) (H : Hp) (s : Shared) (e : Value) (s' : Shared), Inv X pins σ H s -> CX X.stack H s E e s' -> X.xe e s'
section
variable {X : Cx} {CX : CXT} {k : Nat} {f C : Addr} {fd : FuncData} {ps : List Str} {sp : Sp} {dvs : List V} {ds : List Value} {E : XK} {x m : Str} {p pos apos : Pos} {e o : Expr} {es : List Expr} {ta : TE} {t : TA}
theorem run_fn {pins : List (Addr × Obj)} {σ : St} {H : Hp} {s : Shared} {Q : VK} {us : List Value} {vs : List V} (F : FnOk X.prog X.w X.K X.mg X.base CX k f fd ps sp) (hr : Room k X.A) (hb : Binds X.K fd ps ds) (hd : Vals dvs ds) (hx : Passes CX X E)
    (I : Inv X pins σ H s) (r : Vals vs us) (h : sp (vs ++ dvs) H Q E) : wpAny (model X.prog X.w) X.A (call (.ref f) us) (EP X pins σ Q) X.xe s := by
  have r2 : Vals (vs ++ dvs) (us ++ ds) := r.append hd
  have hl : (us ++ ds).length = ps.length := by rw [<- r2.length]; exact F.len _ _ _ _ h
  refine wpAny_call (codeAny_mono (F.run X.A X.stack s H ⟨us, []⟩ (us ++ ds) (vs ++ dvs) Q E hr I.env0 (hb s us I.kIn hl) r2 h) fun r s' hq => ?_)
  cases r with
  | error e => exact hx pins σ H s e s' I hq
  | ok fl =>
    cases fl with
    | ret u => exact I.after hq
    | next => exact False.elim hq
    | brk => exact False.elim hq
    | cont => exact False.elim hq
theorem pe_call (F : FnOk X.prog X.w X.K X.mg X.base CX k f fd ps sp) (hr : Room k X.A) (hg : Gl X x) (hm : X.mg x = some (.ref f)) (hk : PySem.W.keepIn X.K (.ref f) = true) (hb : Binds X.K fd ps ds) (hd : Vals dvs ds) (hx : Passes CX X E)
  (ha : PA X (e :: es) t) (hdb : (x == ("__debug__" : Str)) = false := by decide) (he : starEach (e :: es) X.env = (false, eval e X.env) :: starEach es X.env := by rfl) (hpl : (backTo pos (starEach es X.env)).any (·.1) = false := by rfl) :
  PE X (.Call (.Name x p) (e :: es) [] pos) (tCall sp dvs E t) := by
 intro pins s σ H Q I h
 refine wpAny_Call_Name_kw (ld_glob I hg hm ?_ hdb)
 refine PySem.W.callWith_K (h₀ := X.base) I.ok.mod.kin hk (thn (ha pos pins s σ H _ I h) fun us s1 ⟨vs, H1, I1, r, q⟩ => ⟨I1.kIn, ?_⟩) he hpl
 exact run_fn F hr hb hd hx I1 r q
end
structure FnScope (N P : List Str) (sc : Scope) : Prop where
 kind : sc.kind = .function
 co : sc.isCoroutine = false
 gen : sc.isGenerator = false
 nd : N.Nodup
 pre : N.take P.length = P
 par : ∀ x ∈ P, sc.names.lookup x = some .local \/ sc.names.lookup x = some .cell
 nofree : ∀ y ∈ sc.names, y.2 ≠ .free
theorem bindL_out {kindOf : Str -> Option NameKind} {x : Str} : ∀ {binds : List (Str × Value)} {m : Str -> Option Value}, (∀ v, (x, v) ∉ binds) -> bindL kindOf binds m x = m x
  | [], _, _ => rfl
  | (n, v) :: r, m, h => by
    unfold bindL
    rw [bindL_out fun w hw => h w (zq21x _ hw)]
    split
    · have : x ≠ n := by rintro rfl; exact h v zq27x
      simp [this]
    · rfl
theorem bindC_out {kindOf : Str -> Option NameKind} {x : Str} : ∀ {binds : List (Str × Value)} {m : Str -> Option Value}, (∀ v, (x, v) ∉ binds) -> bindC kindOf binds m x = m x
  | [], _, _ => rfl
  | (n, v) :: r, m, h => by
    unfold bindC
    rw [bindC_out fun w hw => h w (zq21x _ hw)]
    split
    · rfl
    · have : x ≠ n := by rintro rfl; exact h v zq27x
      simp [this]
theorem bindL_get {kindOf : Str -> Option NameKind} {x : Str} {v : Value} : ∀ {P : List Str} {vs : List Value} {i : Nat} {m : Str -> Option Value}, P.Nodup -> P[i]? = some x -> vs[i]? = some v -> kindOf x = some .local ->
    bindL kindOf (P.zip vs) m x = some v
  | [], _, _, _, _, h, _, _ => by simp at h
  | _ :: _, [], _, _, _, _, h, _ => by simp at h
  | p :: P, w :: vs, 0, m, nd, h1, h2, hk => by
    simp at h1 h2; subst h1; subst h2
    show bindL kindOf ((p, w) :: P.zip vs) m p = _
    unfold bindL
    rw [bindL_out fun v hv => (zq55x.mp nd).1 (zq141x hv).1, if_pos hk]
    simp
  | p :: P, w :: vs, i + 1, m, nd, h1, h2, hk => by
    show bindL kindOf ((p, w) :: P.zip vs) m x = _
    unfold bindL
    exact bindL_get (i := i) (zq55x.mp nd).2 (by simpa using h1) (by simpa using h2) hk
theorem bindC_get {kindOf : Str -> Option NameKind} {x : Str} {v : Value} : ∀ {P : List Str} {vs : List Value} {i : Nat} {m : Str -> Option Value}, P.Nodup -> P[i]? = some x -> vs[i]? = some v -> kindOf x ≠ some .local ->
    bindC kindOf (P.zip vs) m x = some v
  | [], _, _, _, _, h, _, _ => by simp at h
  | _ :: _, [], _, _, _, _, h, _ => by simp at h
  | p :: P, w :: vs, 0, m, nd, h1, h2, hk => by
    simp at h1 h2; subst h1; subst h2
    show bindC kindOf ((p, w) :: P.zip vs) m p = _
    unfold bindC
    rw [bindC_out fun v hv => (zq55x.mp nd).1 (zq141x hv).1, if_neg hk]
    simp
  | p :: P, w :: vs, i + 1, m, nd, h1, h2, hk => by
    show bindC kindOf ((p, w) :: P.zip vs) m x = _
    unfold bindC
    exact bindC_get (i := i) (zq55x.mp nd).2 (by simpa using h1) (by simpa using h2) hk
def start (N : List Str) (vs : List V) : St := vs.map some ++ List.replicate (N.length - vs.length) none
def cxOf (CX : CXT) (P : Program) (w : World) (K : PySem.W.Frag) (mg : Str -> Option Value) (base : Heap) (N : List Str) (qual : Str) (scope : Scope) (f : Addr) (cd : Value) (A : Around) (outer : List Env) (s : Shared) (H : Hp) (E : XK) : Cx where
 prog := P
 w := w
 K := K
 mg := mg
 base := base
 A := A.deeper (envOfC qual scope s.heap.objs.size f cd)
 N := N
 s₀ := s
 H₀ := H
 env := envOfC qual scope s.heap.objs.size f cd
 outer := outer
 stack := envOfC qual scope s.heap.objs.size f cd :: outer
 ex := []
 calm := true
 fn := fun _ => true
 pn := []
 xe := fun e s' => wpAny (model P w) (A.deeper (envOfC qual scope s.heap.objs.size f cd)) (leaving (envOfC qual scope s.heap.objs.size f cd) e) (fun _ s'' => CX outer H s E e s'') (fun e' s'' => CX outer H s E e' s'') s'
theorem cell_has {sc : Scope} {n : Nat} {x : Str} (h : sc.names.lookup x = some .cell) : ∃ c, (cellsFrom n sc.names []).lookup x = some c := by
 have q := zq170x sc.names n [] (.inl h)
 exact zq171x.mp q
theorem inv_start {CX : CXT} {P : Program} {w : World} {K : PySem.W.Frag} {mg : Str -> Option Value} {base : Heap} {N ps : List Str} {qual : Str} {scope : Scope} {f : Addr} {cd : Value} {A : Around} {outer : List Env} {s s1 : Shared} {H : Hp} {E : XK} {us : List Value} {vs : List V}
  (S : FnScope N ps scope) (hd : A.handled = none) (e0 : Env0 P w K mg base A outer s H) (hl : vs.length = ps.length) (r : Vals vs us)
  (x : InCallC s s.heap.objs.size (bindL (envOfC qual scope s.heap.objs.size f cd).kindOf (ps.zip us) fun _ => none) (cellsFrom (s.heap.objs.size + 1) scope.names []) (bindC (envOfC qual scope s.heap.objs.size f cd).kindOf (ps.zip us) fun _ => none) s1) :
  Inv (cxOf CX P w K mg base N qual scope f cd A outer s H E) [] (start N vs) H s1 := by
 have hpl : ps.length <= N.length := by have := congrArg List.length S.pre; rw [zq19x] at this; omega
 obtain ⟨h1, tk, rfl, hk⟩ := x.done
 have noA : ∀ b : Addr, b ∉ (cxOf CX P w K mg base N qual scope f cd A outer s H E).ex := fun b z => absurd (show b ∈ ([] : List Addr) from z) (by simp)
 refine ⟨⟨e0.mod, S.kind, rfl, rfl, zq5x _, fun y z c h1 h2 => ?_, fun y hy => ?_, fun y c _ h => ?_, fun _ => hd, Around.frames_deeper e0.frames, .inr ⟨rfl, rfl⟩, fun b z => absurd z (noA b), e0.bs, e0.bsz, fun b _ _ => noA b, fun b z => absurd z (noA b), e0.funs, e0.frf⟩,
  rfl, e0.bare, Un.kept hk, ⟨_, x.toInCall.ns, fun i y v h1 h2 h3 => ?_⟩, fun y c h => ⟨_, x.cell y c h⟩, e0.hok.fresh (zq5x _), fun y c h => ?_, fun p hp => absurd (show p ∈ ([] : List (Addr × Obj)) from hp) (by simp), e0.hok.kept hk, ?_⟩
 ·exact name_of_addr x.apart (zq78x h1) (zq78x h2)
 ·have hy : scope.names.lookup y = some .cell \/ scope.names.lookup y = some .free := hy
  rcases hy with hy | hy
  ·exact cell_has hy
  ·exact absurd rfl (S.nofree _ (zq78x hy))
 ·exact zq136x (x.above y c (zq78x h))
 ·have hi : i < vs.length := by
   unfold start at h2
   by_cases hi : i < vs.length
   ·exact hi
   ·rw [zq44x (by simpa using hi)] at h2
    rw [zq36x] at h2
    split at h2 <;> cases h2
  have ha : vs[i]? = some v := by
   unfold start at h2
   rw [zq41x (by simpa using hi), zq10x] at h2
   cases e : vs[i]? with
   | none => rw [e] at h2; cases h2
   | some a => rw [e] at h2; cases h2; rfl
  obtain ⟨u, hu, rv⟩ := r.get ha
  have hp : ps[i]? = some y := by
   rw [<- S.pre, zq89x (by omega)]; exact h1
  have ndP : ps.Nodup := by rw [<- S.pre]; exact S.nd.sublist (List.take_sublist _ _)
  refine ⟨u, rv, ?_⟩
  rcases S.par y (zq4x hp) with k | k
  ·exact .inl ⟨k, bindL_get ndP hp hu k⟩
  ·obtain ⟨c, e⟩ := cell_has (n := s.heap.objs.size + 1) k
   refine .inr ⟨.inl k, c, e, ?_⟩
   have q := x.cell y c e
   rw [bindC_get ndP hp hu (by show scope.names.lookup y ≠ _; rw [k]; decide)] at q
   exact q
 ·exact e0.hok.fresh (zq136x (x.above y c (zq78x h)))
 ·unfold start
  show _ = N.length
  rw [zq25x, zq0x, zq56x]
  omega
theorem fn_of {CX : CXT} {P : Program} {w : World} {K : PySem.W.Frag} {mg : Str -> Option Value} {base : Heap} {k : Nat} {f : Addr} {name qual : Str} {params : Arguments} {body : List Stmt} {scope : Scope} {dV kV doc pm cdv ct oc : Value} {an od : Option Addr}
    {osl : Array (Option Value)} {N ps : List Str} {sp : Sp} (lk : K.lookup f = some ⟨oc, od, .func (PySem.W.fnOf name qual params body scope dV kV doc pm an cdv ct), osl⟩) (hcd : PySem.W.codeIn K cdv qual = true) (S : FnScope N ps scope)
    (len : ∀ vs H Q E, sp vs H Q E -> vs.length = ps.length)
    (hbody : ∀ (A : Around) (outer : List Env) (s : Shared) (H : Hp) (vs : List V) (Q : VK) (E : XK), Room k (A.deeper (envOfC qual scope s.heap.objs.size f cdv)) -> sp vs H Q E ->
      ∃ t, PSs (cxOf CX P w K mg base N qual scope f cdv A outer s H E) body t /\ t { nx := fun _ H' => Q .non H', rt := Q } (start N vs) H) :
    FnOk P w K mg base CX (k + 1) f (PySem.W.fnOf name qual params body scope dV kV doc pm an cdv ct) ps sp := by
  refine ⟨len, fun A outer s H args us vs Q E hr e0 hb r hsp => ?_⟩
  have hl := len _ _ _ _ hsp
  have KX : K.In s.heap := e0.mod.kin.keeps fun b o e => (e0.bs b o e).1
  have lim : s.heap.NoLimit := e0.mod.nolimit.keeps fun b o e => (e0.bs b o e).1
  have hkind : ∀ y ∈ ps.zip us, scope.names.lookup y.1 = some .local \/ (scope.names.lookup y.1 = some .cell /\ ((cellsFrom (s.heap.objs.size + 1) scope.names []).lookup y.1).isSome = true) := fun ⟨n, v⟩ hy => by
    rcases S.par n (zq141x hy).1 with q | q
    · exact .inl q
    · exact .inr ⟨q, zq170x _ _ _ (.inl q)⟩
  refine codeAny_call_function hr.depth (KX _ _ lk) rfl S.co S.gen rfl (PySem.W.codeRec_of KX hcd) (hb _ _ _ _ ?_)
  refine wpAny_newFunctionEnv_cells S.kind hkind fun env he s1 x => ?_
  subst he
  refine ⟨lim.keeps x.toInCall.keep, codeAny_func ?_⟩
  obtain ⟨t, ht, hq⟩ := hbody A outer s H vs Q E (hr.deeper _) hsp
  have I : Inv (cxOf CX P w K mg base N qual scope f cdv A outer s H E) [] (start N vs) H s1 := inv_start S hr.hd e0 hl r x
  refine wpAny_mono (ht [] s1 (start N vs) H _ I hq) (fun fl s' hs => ?_) fun e s' hs => hs
  have fin : ∀ {σ' : St} {H' : Hp} {v : V} {u : Value}, Inv (cxOf CX P w K mg base N qual scope f cdv A outer s H E) [] σ' H' s' -> RelV v u -> Q v H' -> CE outer P w H s Q u s' :=
    fun {σ' H' v u} J rv q => ⟨v, H', J.os, J.bare, J.base, J.hok, rv, q⟩
  cases fl with
  | ret u =>
    obtain ⟨v, σ', H', J, rv, q⟩ := hs
    exact fin J rv q
  | next =>
    obtain ⟨σ', H', J, q⟩ := hs
    exact fin (v := V.non) (u := Value.none) J rfl q
  | brk =>
    obtain ⟨_, _, _, q⟩ := hs
    exact False.elim q
  | cont =>
    obtain ⟨_, _, _, q⟩ := hs
    exact False.elim q
section
variable {X : Cx} {x : Str} {p pos : Pos} {e : Expr} {es : List Expr} {t : TA} {id T : String} {r : List V -> Hp -> VK -> Prop}
def tCB (r : List V -> Hp -> VK -> Prop) (t : TA) : TE := fun σ H Q => t σ H fun vs H1 => r vs H1 Q
theorem pe_callB (hc : CallR X (.builtin id) r) (hg : Gl X x) (hm : X.mg x = none) (hv : bootBuiltins x = some (.builtin id)) (ha : PA X (e :: es) t) (hn : x ≠ "__name__" := by decide) (hdb : (x == ("__debug__" : Str)) = false := by decide)
  (he : starEach (e :: es) X.env = (false, eval e X.env) :: starEach es X.env := by rfl) (hpl : (backTo pos (starEach es X.env)).any (·.1) = false := by rfl) : PE X (.Call (.Name x p) (e :: es) [] pos) (tCB r t) := by
 intro pins s σ H Q I h
 refine wpAny_Call_Name_kw (ld_blt I hg hm hv ?_ hn hdb)
 exact PyProof.Rows.callWith_builtin1 (thn (ha pos pins s σ H _ I h) fun us s1 ⟨vs, H1, I1, r1, q1⟩ => hc pins s1 σ H1 vs us Q I1 r1 q1) he hpl
theorem pe_callTy (hc : CallR X (.type T) r) (hg : Gl X x) (hm : X.mg x = none) (hv : bootBuiltins x = some (.type T)) (ha : PA X (e :: es) t) (hn : x ≠ "__name__" := by decide) (hdb : (x == ("__debug__" : Str)) = false := by decide)
  (he : starEach (e :: es) X.env = (false, eval e X.env) :: starEach es X.env := by rfl) (hpl : (backTo pos (starEach es X.env)).any (·.1) = false := by rfl) : PE X (.Call (.Name x p) (e :: es) [] pos) (tCB r t) := by
 intro pins s σ H Q I h
 refine wpAny_Call_Name_kw (ld_blt I hg hm hv ?_ hn hdb)
 exact zq97x (thn (ha pos pins s σ H _ I h) fun us s1 ⟨vs, H1, I1, r1, q1⟩ => hc pins s1 σ H1 vs us Q I1 r1 q1) he hpl
end
end L2
namespace HT
open PySem PyProof.Rows
section
open PySem.SeqAt
open PySem.AutoSeq1 (wpAny_loadPart')
open PySem.MeetsSeq PySem.MeetsSeq2 PySem.MeetsSeq3
end
section
variable {prog : Program} {w : World} {A : Around} {E : Value -> Shared -> Prop} {s : Shared}
def sIx (n d : Nat) : Option Int -> Nat
 | none => d
 | some v => if v < 0 then (v + (n : Int)).toNat else min v.toNat n
end
end HT
namespace L2
open PySem PySem.Spec PyProof.Rows
abbrev TO := St -> Hp -> (Option Int -> Hp -> Prop) -> Prop
def PO (X : Cx) (e : Option Expr) (t : TO) : Prop :=
 ∀ (pins : List (Addr × Obj)) (s : Shared) (σ : St) (H : Hp) (Q : Option Int -> Hp -> Prop), Inv X pins σ H s -> t σ H Q ->
  wpAny (model X.prog X.w) X.A (evalPart e X.env) (fun u s' => ∃ o H', Inv X pins σ H' s' /\ IsPart u o /\ Q o H') X.xe s
def tNoPart : TO := fun _ H Q => Q none H
def tPart (t : TE) : TO := fun σ H Q => t σ H fun x H1 => ∃ i, x = .int i /\ Q (some i) H1
section
variable {X : Cx} {e : Expr} {te : TE} {lo hi : Option Expr} {tl th : TO} {pos p2 : Pos}
theorem po_none : PO X none tNoPart := by
 intro pins s σ H Q I h
 rw [evalPart_none]
 exact wpAny_pure ⟨none, H, I, .none, h⟩
theorem po_some (h : PE X e te) : PO X (some e) (tPart te) := by
 intro pins s σ H Q I hw
 rw [evalPart_some]
 refine thn (h pins s σ H _ I hw) fun u s1 ⟨x, H1, I1, r1, q1⟩ => ?_
 obtain ⟨i, rfl, q⟩ := q1
 obtain ⟨t, rfl⟩ := r1
 exact ⟨some i, H1, I1, .int i t, q⟩
def SlR (X : Cx) (r : V -> Option Int -> Option Int -> Hp -> VK -> Prop) : Prop :=
 ∀ (pins : List (Addr × Obj)) (s : Shared) (σ : St) (H : Hp) (x : V) (v vl vu : Value) (lo hi : Option Int) (sl : Addr) (Q : VK), Inv X pins σ H s -> RelV x v -> s.heap.IsSliceOf sl vl vu .none -> IsPart vl lo -> IsPart vu hi -> r x lo hi H Q ->
  ∃ T id, typeLookup (.type T) "__getitem__" = pure (some (.builtin id)) /\ s.TypeIs v T /\ wpAny (model X.prog X.w) X.A (getItem v (.ref sl)) (EP X pins σ Q) X.xe s
def tSl (r : V -> Option Int -> Option Int -> Hp -> VK -> Prop) (te : TE) (tl th : TO) : TE := fun σ H Q => te σ H fun x H1 => tl σ H1 fun l H2 => th σ H2 fun u H3 => r x l u H3 Q
theorem pe_slice {r : V -> Option Int -> Option Int -> Hp -> VK -> Prop} (hr : SlR X r) (he : PE X e te) (hl : PO X lo tl) (hu : PO X hi th) : PE X (.Subscript e (.Slice lo hi none p2) pos) (tSl r te tl th) := by
 intro pins s σ H Q I h
 refine Subscript_ (thn (he pins s σ H _ I h) fun v s1 ⟨x, H1, I1, r1, q1⟩ => ?_)
 refine wpAny_Slice (thn (hl pins s1 σ H1 _ I1 q1) fun vl s2 ⟨l, H2, I2, pl, q2⟩ => thn (hu pins s2 σ H2 _ I2 q2) fun vu s3 ⟨u, H3, I3, pu, q3⟩ => ?_)
 rw [evalPart_none]
 refine wpAny_pure ?_
 have I4 : Inv X pins σ H3 { s3 with heap := s3.heap.push { cls := .type "slice", data := .fields #[vl, vu, .none] } } := I3.kept (t' := s3.toks) fun b ob q => zq49x _ q
 obtain ⟨T, id, hT, ht, hg⟩ := hr pins { s3 with heap := s3.heap.push { cls := .type "slice", data := .fields #[vl, vu, .none] } } σ H3 x v vl vu l u s3.heap.objs.size Q I4 r1 (Heap.IsSliceOf.new ..) pl pu q3
 show wpAny (model X.prog X.w) X.A (subscriptTail e (.Slice lo hi none p2) v (.ref s3.heap.objs.size)) (EP X pins σ Q) X.xe { s3 with heap := s3.heap.push { cls := .type "slice", data := .fields #[vl, vu, .none] } }
 exact tail_any (ops := [.ref s3.heap.objs.size, v]) ht hT hg (by with_unfolding_all rfl)
def cutV (xs : List V) (lo hi : Option Int) : List V := (xs.drop (HT.sIx xs.length 0 lo)).take (HT.sIx xs.length xs.length hi - HT.sIx xs.length 0 lo)
theorem cutV_length (xs : List V) (lo hi : Option Int) : (cutV xs lo hi).length <= xs.length := by
 unfold cutV
 rw [zq19x, zq40x]
 omega
def rSlT (K : PySem.W.Frag) : V -> Option Int -> Option Int -> Hp -> VK -> Prop := fun x lo hi H Q => ∃ a xs, x = .ref a /\ SqT K H a xs /\
 ¬ (HT.sIx xs.length 0 lo = 0 /\ HT.sIx xs.length xs.length hi = xs.length) /\ ∀ p, H p = none -> Q (.ref p) (upd H p (.tup (cutV xs lo hi)))
def rCatT (K : PySem.W.Frag) : R2 := fun x y H Q => ∃ a b xs ys, x = .ref a /\ y = .ref b /\ SqT K H a xs /\ SqT K H b ys /\ xs ≠ [] /\ xs.length + ys.length <= sizeLine /\
 (ys = [] -> Q (.ref a) H) /\ (ys ≠ [] -> ∀ p, H p = none -> Q (.ref p) (upd H p (.tup (xs ++ ys))))
end
def ixN (n : Nat) (i : Int) : Option Nat := if 0 <= i then (if i < n then some i.toNat else none) else if -(n : Int) <= i then some (i + n).toNat else none
def atI {α : Type} (xs : List α) (i : Int) : Option α := (ixN xs.length i).bind fun j => xs[j]?
theorem ixN_seq {n : Nat} {i : Int} {j : Nat} (h : ixN n i = some j) : seqIndex? i n = some j /\ j < n /\ -(n : Int) <= i /\ i < n := by
 unfold ixN at h
 by_cases h0 : 0 <= i
 ·rw [if_pos h0] at h
  by_cases h1 : i < n
  ·rw [if_pos h1] at h
   have e : i.toNat = j := zq32x h
   exact ⟨by rw [seqIndex_of h0 h1, e], by omega, by omega, h1⟩
  ·rw [if_neg h1] at h; cases h
 ·rw [if_neg h0] at h
  by_cases h1 : -(n : Int) <= i
  ·rw [if_pos h1] at h
   have e : (i + n).toNat = j := zq32x h
   exact ⟨by rw [seqIndex_neg (by omega) h1, e], by omega, h1, by omega⟩
  ·rw [if_neg h1] at h; cases h
theorem atI_get {α : Type} {xs : List α} {i : Int} {v : α} (h : atI xs i = some v) : ∃ j, seqIndex? i xs.length = some j /\ xs[j]? = some v /\ j < xs.length /\ -(xs.length : Int) <= i /\ i < xs.length := by
  unfold atI at h
  cases e : ixN xs.length i with
  | none => rw [e] at h; cases h
  | some j =>
    rw [e] at h
    obtain ⟨h1, h2, h3, h4⟩ := ixN_seq e
    exact ⟨j, h1, h, h2, h3, h4⟩
theorem atI_nat {α : Type} {xs : List α} {j : Nat} {v : α} (h : xs[j]? = some v) : atI xs (j : Int) = some v := by
 have hj : j < xs.length := (zq8x.mp h).1
 have e : ixN xs.length (j : Int) = some j := by
  unfold ixN
  rw [if_pos (by omega), if_pos (by omega)]; simp
 unfold atI; rw [e]; exact h
def PlainIx (b : Expr) : Prop := ∀ o i, subscripted b false o i = operate [o, i] (getItem o i)
def IxR (X : Cx) (r : R2) : Prop :=
 ∀ (value slice : Expr) (pins : List (Addr × Obj)) (s : Shared) (σ : St) (H : Hp) (x y : V) (v u : Value) (Q : VK), Inv X pins σ H s -> RelV x v -> RelV y u -> r x y H Q ->
  subscripted slice false v u = operate [v, u] (getItem v u) -> wpAny (model X.prog X.w) X.A (subscriptTail value slice v u) (EP X pins σ Q) X.xe s
def MtR (X : Cx) (id : String) (r : V -> List V -> Hp -> VK -> Prop) : Prop :=
 ∀ (pins : List (Addr × Obj)) (s : Shared) (σ : St) (H : Hp) (x : V) (xs : List V) (v : Value) (us : List Value) (Q : VK), Inv X pins σ H s -> RelV x v -> Vals xs us -> r x xs H Q ->
  wpAny (model X.prog X.w) X.A (call (.builtin id) (v :: us)) (EP X pins σ Q) X.xe s
section
variable {X : Cx} {a b : Expr} {ta tb : TE} {pos : Pos}
theorem pe_ix {r : R2} (hr : IxR X r) (ha : PE X a ta) (hb : PE X b tb) (hs : PlainIx b) : PE X (.Subscript a b pos) (tOp r ta tb) := by
 intro pins s σ H Q I h
 exact Subscript_ (binT ha hb I h fun v u s2 x y H2 I2 rx ry q => hr a b pins s2 σ H2 x y v u Q I2 rx ry q (hs _ _))
def rIxL (K : PySem.W.Frag) : R2 := fun x y H Q => ∃ p xs i v, x = .ref p /\ y = .int i /\ SqL K H p xs /\ atI xs i = some v /\ Q v H
def rIxT (K : PySem.W.Frag) : R2 := fun x y H Q => ∃ p xs i v, x = .ref p /\ y = .int i /\ SqT K H p xs /\ atI xs i = some v /\ Q v H
def rIxS : R2 := fun x y H Q => ∃ z i c, x = .str z /\ y = .int i /\ z.length <= sizeLine /\ atI z.cps.toList i = some c /\ Q (.str ⟨#[c]⟩) H
theorem ix_list : IxR X (rIxL X.K) := by
 intro value slice pins s σ H x y v u Q I rx ry h hs
 obtain ⟨p, xs, i, z, rfl, rfl, hq, he, q⟩ := h
 cases rx
 obtain ⟨t, rfl⟩ := ry
 obtain ⟨its, r, pl, hz⟩ := I.list hq
 obtain ⟨j, h1, h2, h3, h4, h5⟩ := atI_get he
 obtain ⟨w, ew, rw'⟩ := r.get h2
 have hl := r.length
 have hn := line63
 have fin : EP X pins σ Q w s := ⟨z, H, I, rw', q⟩
 by_cases h0 : 0 <= i
 ·have hj : i.toNat = j := by
   rw [seqIndex_of h0 h5] at h1
   exact zq32x h1
  exact item_listR pl.isList h0 (by omega) (by rw [hj]; simpa using ew) fin hs
 ·have hj : (i + (its.toArray.size : Int)).toNat = j := by
   rw [seqIndex_neg (by omega) h4] at h1
   rw [zq13x, <- hl]
   exact zq32x h1
  exact subscriptTail_builtinR (x := w) pl.isList.typeIs slot_list_getitem.lookup
   (wpAny_getItem_list_neg (Q := fun r s' => r = w /\ EP X pins σ Q r s') pl.isList (by omega) (by rw [zq13x] <;> omega) (by omega) (by rw [hj]; simpa using ew) ⟨rfl, fin⟩) hs
theorem ix_tup : IxR X (rIxT X.K) := by
 intro value slice pins s σ H x y v u Q I rx ry h hs
 obtain ⟨p, xs, i, z, rfl, rfl, hq, he, q⟩ := h
 cases rx
 obtain ⟨t, rfl⟩ := ry
 obtain ⟨its, r, pl, hz⟩ := I.tuple hq
 obtain ⟨j, h1, h2, h3, h4, h5⟩ := atI_get he
 obtain ⟨w, ew, rw'⟩ := r.get h2
 have hl := r.length
 have hn := line63
 have fin : EP X pins σ Q w s := ⟨z, H, I, rw', q⟩
 exact subscriptTail_builtinR (x := w) pl.typeIs slot_tuple_getitem.lookup
  (getItem_tuple (j := j) (Q := fun r s' => r = w /\ EP X pins σ Q r s') pl (by omega) (by omega) (by rw [zq13x, <- hl]; exact h1) (by simpa using ew) ⟨rfl, fin⟩) hs
def rIx (K : PySem.W.Frag) : R2 := fun x y H Q => rIxL K x y H Q \/ rIxT K x y H Q \/ rIxS x y H Q
theorem mapSeq_set (its : List Value) (n j : Nat) (u : Value) : Obj.mapSeq (·.setIfInBounds j u) { cls := .type "list", data := .seq its.toArray n } = { cls := .type "list", data := .seq (its.set j u).toArray n } := by
 simp [Obj.mapSeq]
theorem Inv.lst {pins : List (Addr × Obj)} {σ : St} {H : Hp} {s : Shared} {p : Addr} {xs : List V} (I : Inv X pins σ H s) (h : H p = some (.lst xs)) :
  ∃ (its : List Value) (n : Nat), Vals xs its /\ s.heap.get? p = some { cls := .type "list", data := .seq its.toArray n } /\ xs.length <= sizeLine := by
 obtain ⟨z, its, n, r, e⟩ := I.hok p _ h
 exact ⟨its, n, r, e, z⟩
theorem Inv.lstUpd {pins : List (Addr × Obj)} {σ : St} {H : Hp} {s : Shared} {p : Addr} {xs ys : List V} {its its' : List Value} {n n' : Nat} {f : Obj -> Obj} (I : Inv X pins σ H s) (h : H p = some (.lst xs))
  (ho : s.heap.get? p = some { cls := .type "list", data := .seq its.toArray n }) (hf : f { cls := .type "list", data := .seq its.toArray n } = { cls := .type "list", data := .seq its'.toArray n' }) (r : Vals ys its') (hz : ys.length <= sizeLine) (t : Nat) :
  Inv X pins σ (upd H p (.lst ys)) { s with heap := s.heap.update p f, toks := t } := by
 have e : (s.heap.update p f).get? p = some { cls := .type "list", data := .seq its'.toArray n' } := by
  rw [Heap.get?_update_self f ho (by rw [hf] <;> rfl), hf]
 refine I.write (x := p) (e := p) (by rw [h]; trivial) (.inl rfl) (fun b u hb q => (Heap.get?_update_other _ _ (zq11x hb)).trans q) ⟨_, e⟩ ?_
 exact ⟨hz, its', n', r, e⟩
def rSetL : V -> V -> V -> Hp -> (Hp -> Prop) -> Prop := fun o i v H Q => ∃ p xs k j, o = .ref p /\ i = .int k /\ H p = some (.lst xs) /\ ixN xs.length k = some j /\ Q (upd H p (.lst (xs.set j v)))
theorem set_list : PSet X rSetL := by
 intro pins s σ H o i v ov iv u Q I ro ri rv h
 obtain ⟨p, xs, k, j, rfl, rfl, hp, hj, q⟩ := h
 cases ro
 obtain ⟨t, rfl⟩ := ri
 obtain ⟨its, n, r, ho, hz⟩ := I.lst hp
 obtain ⟨h1, h2, h3, h4⟩ := ixN_seq hj
 have hl := r.length
 have hn := line63
 have I' : Inv X pins σ (upd H p (.lst (xs.set j v))) { s with heap := s.heap.update p (Obj.mapSeq (·.setIfInBounds j u)) } :=
  I.lstUpd hp ho (mapSeq_set its n j u) (r.set rv j) (by rw [zq37x]; exact hz) s.toks
 by_cases h0 : 0 <= k
 ·have hk : k.toNat = j := by
   rw [seqIndex_of h0 h4] at h1
   exact zq32x h1
  exact PySem.W.ki_setAt ho h0 (by omega) (by rw [zq13x, <- hl]; exact h4) (by rw [hk]; exact ⟨_, I', q⟩)
 ·have hk : (k + (its.toArray.size : Int)).toNat = j := by
   rw [seqIndex_neg (by omega) h3] at h1
   rw [zq13x, <- hl]
   exact zq32x h1
  exact PySem.W.ki_setBack ho (by omega) (by rw [zq13x, <- hl]; exact h3) (by omega) (by rw [hk]; exact ⟨_, I', q⟩)
theorem slice_bounds (lo hi : Option Int) (n : Nat) : (sliceBounds lo hi none n).1 = ((HT.sIx n 0 lo : Nat) : Int) /\ (sliceBounds lo hi none n).2.1 = ((HT.sIx n n hi : Nat) : Int) /\ (sliceBounds lo hi none n).2.2 = 1 := by
  refine ⟨?_, ?_, rfl⟩
  · cases lo with
    | none => simp [sliceBounds, HT.sIx]
    | some i =>
      simp only [sliceBounds, HT.sIx, Option.getD_none, show (1 : Int) > 0 by decide, if_true]
      by_cases h : i < 0
      · simp only [h, if_true] <;> omega
      · simp only [h, if_false] <;> omega
  · cases hi with
    | none => simp [sliceBounds, HT.sIx]
    | some i =>
      simp only [sliceBounds, HT.sIx, Option.getD_none, show (1 : Int) > 0 by decide, if_true]
      by_cases h : i < 0
      · simp only [h, if_true] <;> omega
      · simp only [h, if_false] <;> omega
theorem slicePick_cut (its : List Value) (lo hi : Option Int) : slicePick its.toArray lo hi none = ((its.drop (HT.sIx its.length 0 lo)).take (HT.sIx its.length its.length hi - HT.sIx its.length 0 lo)).toArray := by
 obtain ⟨h1, h2, h3⟩ := slice_bounds lo hi its.toArray.size
 unfold slicePick
 rw [h1, h2, h3]
 simp only [sliceRange_one, pick_run, zq13x] <;> rfl
def rSlL (K : PySem.W.Frag) : V -> Option Int -> Option Int -> Hp -> VK -> Prop := fun x lo hi H Q => ∃ a xs, x = .ref a /\ SqL K H a xs /\ ∀ p, H p = none -> Q (.ref p) (upd H p (.lst (cutV xs lo hi)))
theorem sl_list : SlR X (rSlL X.K) := by
 intro pins s σ H x v vl vu lo hi sl Q I rx hs pl pu h
 obtain ⟨a, xs, rfl, hx, q⟩ := h
 cases rx
 obtain ⟨its, r, ht, hz⟩ := I.list hx
 have hlen := r.length
 refine ⟨"list", _, slot_list_getitem.lookup, ht.isList.typeIs, ?_⟩
 refine wpAny_getItem_list_slice ht.isList hs pl pu .none (by simp) ?_ (by rw [zq13x] <;> omega)
 rw [slicePick_cut, <- hlen]
 refine ⟨.ref s.heap.objs.size, _, I.laid (t' := s.toks) (o := .lst (cutV xs lo hi)) (fun b ob q => zq49x _ q) (zq5x _) ?_, rfl, q _ (I.hok.fresh (zq5x _))⟩
 exact ⟨zq31x (cutV_length xs lo hi) hz, _, 0, (r.drop (HT.sIx xs.length 0 lo)).take (HT.sIx xs.length xs.length hi - HT.sIx xs.length 0 lo), zq75x _ rfl⟩
def flatV : V -> Bool
 | .non => true
 | .bl _ => true
 | .int _ => true
 | .str _ => true
 | _ => false
def eqV : V -> V -> Bool
 | .non, .non => true
 | .bl a, .bl b => a == b
 | .bl a, .int b => (if a then 1 else 0) == b
 | .int a, .bl b => a == (if b then 1 else 0)
 | .int a, .int b => a == b
 | .str a, .str b => a == b
 | _, _ => false
def inV (x : V) (xs : List V) : Bool := xs.any fun y => eqV y x
def rIn (K : PySem.W.Frag) (neg : Bool) : R2 := fun x y H Q => ∃ p xs, y = .ref p /\ (SqL K H p xs \/ SqT K H p xs) /\ flatV x = true /\ xs.all flatV = true /\ Q (.bl (if neg then !inV x xs else inV x xs)) H
theorem call_len_seq : CallR X (.builtin "len") (fun xs H Q => ∃ p ys, xs = [.ref p] /\ (SqL X.K H p ys \/ SqT X.K H p ys) /\ Q (.int ys.length) H) := by
 intro pins s σ H xs us Q I r h
 obtain ⟨p, ys, rfl, hq, q⟩ := h
 obtain ⟨u, rfl, rx⟩ := vals1 r
 cases rx
 have hn := line63
 rcases hq with hq | hq
 ·obtain ⟨its, r', pl, hz⟩ := I.list hq
  have hlen := r'.length
  exact Calls.call_len_list pl.isList (by simp only [zq13x] <;> omega) ⟨.int ys.length, H, I.tok _, ⟨s.toks + 1, by rw [zq13x, hlen]⟩, q⟩
 ·obtain ⟨its, r', pl, hz⟩ := I.tuple hq
  have hlen := r'.length
  exact len_tuple pl (by simp only [zq13x] <;> omega) ⟨.int ys.length, H, I.tok _, ⟨s.toks + 1, by rw [zq13x, hlen]⟩, q⟩
theorem call_list_of : CallR X (.type "list") (fun xs H Q => ∃ p ys, xs = [.ref p] /\ (SqL X.K H p ys \/ SqT X.K H p ys) /\ ∀ l, H l = none -> Q (.ref l) (upd H l (.lst ys))) := by
 intro pins s σ H xs us Q I r h
 obtain ⟨p, ys, rfl, hq, q⟩ := h
 obtain ⟨u, rfl, rx⟩ := vals1 r
 cases rx
 have fin : ∀ (its : List Value), Vals ys its -> ys.length <= sizeLine -> ∀ (h' : Heap) (c' : Nat), (∀ b o', s.heap.get? b = some o' -> h'.get? b = some o') ->
   h'.get? s.heap.objs.size = some { cls := .type "list", dict := none, data := .seq its.toArray c', slots := #[] } -> EP X pins σ Q (.ref s.heap.objs.size) { s with heap := h' } := fun its r' hz h' c' kp e =>
  ⟨.ref s.heap.objs.size, _, I.laid (t' := s.toks) kp (zq5x _) (show ObjOk X.prog X.w _ h' _ (.lst ys) from ⟨hz, its, c', r', e⟩), rfl, q _ (I.hok.fresh (zq5x _))⟩
 rcases hq with hq | hq
 ·obtain ⟨its, r', pl, hz⟩ := I.list hq
  have hlen := r'.length
  obtain ⟨o, ho, hc, n, hd⟩ := pl.isList
  exact call_list_seq p (.inl rfl) ho hc hd (fun h' c' kp e => fin its r' hz h' c' kp e) (by simp only [zq13x] <;> omega)
 ·obtain ⟨its, r', pl, hz⟩ := I.tuple hq
  have hlen := r'.length
  obtain ⟨o, ho, hc, n, hd⟩ := pl
  exact call_list_seq p (.inr rfl) ho hc hd (fun h' c' kp e => fin its r' hz h' c' kp e) (by simp only [zq13x] <;> omega)
def tyV (K : PySem.W.Frag) (T : String) (x : V) (H : Hp) : Prop := match x with
 | .str _ => T = "str"
 | .int _ => T = "int"
 | .ref p => (T = "list" /\ ∃ xs, SqL K H p xs) \/ (T = "tuple" /\ ∃ o, K.lookup p = some o /\ o.cls = .type "tuple" /\ o.dict = none) \/
   (T = "dict" /\ ((∃ kvs, H p = some (.dK kvs)) \/ (∃ kvs, H p = some (.dT kvs)) \/ ∃ o kvs, H p = some (.frz o (.dK kvs)))) \/ (T = "set" /\ ∃ S n, H p = some (.set S n))
 | _ => False
theorem tyV_is {pins : List (Addr × Obj)} {σ : St} {H : Hp} {s : Shared} {T : String} {x : V} {v : Value} (I : Inv X pins σ H s) (r : RelV x v) (ty : tyV X.K T x H) :
    s.TypeIs v T /\ ∀ a, v = .ref a -> ∃ ob, s.heap.get? a = some ob /\ ob.dict = none := by
  cases x with
  | str z =>
    obtain ⟨t, rfl⟩ := r
    cases (show T = "str" from ty)
    exact ⟨typeIs_str s z t, fun _ e => nomatch e⟩
  | int i =>
    obtain ⟨t, rfl⟩ := r
    cases (show T = "int" from ty)
    exact ⟨typeIs_int s i t, fun _ e => nomatch e⟩
  | ref p =>
    cases r
    rcases ty with ⟨rfl, xs, hq⟩ | ⟨rfl, o, hk, hc, hd⟩ | ⟨rfl, hk⟩ | ⟨rfl, S, n, hk⟩
    · obtain ⟨its, _, pl, _⟩ := I.list hq
      refine ⟨pl.isList.typeIs, fun a e => ?_⟩
      cases e
      obtain ⟨o, n, e, c, hd, _⟩ := pl
      exact ⟨o, e, hd⟩
    · refine ⟨⟨o, I.kIn p o hk, hc⟩, fun a e => ?_⟩
      cases e
      exact ⟨o, I.kIn _ o hk, hd⟩
    · have z : ∃ o, s.heap.get? p = some o /\ o.ExactDict := by
        rcases hk with ⟨kvs, hk⟩ | ⟨kvs, hk⟩ | ⟨ob, kvs, hk⟩
        · obtain ⟨_, _, _, _, o, _, _, e, ex, _⟩ := I.hok p _ hk
          exact ⟨o, e, ex⟩
        · obtain ⟨_, _, _, _, o, _, _, e, ex, _⟩ := I.hok p _ hk
          exact ⟨o, e, ex⟩
        · obtain ⟨_, _, _, _, _, o, _, _, e, ex, _⟩ := I.hok p _ hk
          exact ⟨o, e, ex⟩
      obtain ⟨o, e, ex⟩ := z
      refine ⟨⟨o, e, ex.1⟩, fun a e2 => ?_⟩
      cases e2
      exact ⟨o, e, ex.2.1⟩
    · obtain ⟨o, _, _, _, e, ex, _⟩ := I.hok p _ hk
      refine ⟨⟨o, e, ex.1⟩, fun a e2 => ?_⟩
      cases e2
      exact ⟨o, e, ex.2.1⟩
  | _ => exact False.elim ty
def tBM0 (K : PySem.W.Frag) (T : String) (r : V -> List V -> Hp -> VK -> Prop) (to : TE) : TE := fun σ H Q => to σ H fun x H1 => tyV K T x H1 /\ r x [] H1 Q
def tBM (K : PySem.W.Frag) (T : String) (r : V -> List V -> Hp -> VK -> Prop) (to : TE) (t : TA) : TE := fun σ H Q => to σ H fun x H1 => tyV K T x H1 /\ t σ H1 fun xs H2 => r x xs H2 Q
variable {o e : Expr} {es : List Expr} {to : TE} {t : TA} {name : Str} {apos cpos : Pos} {T id : String} {r : V -> List V -> Hp -> VK -> Prop}
theorem pe_bm0 (pa : PlainAttrs T) (slot : Slot T name id) (hty : typeOf (.builtin id) = pure (.type "method_descriptor")) (hm : MtR X id r) (ho : PE X o to)
  (hbase : attributeBase o name X.env (eval o X.env) = eval o X.env := by rfl) (hline : (apos.endLine == cpos.line) = true := by rfl) : PE X (.Call (.Attribute o name apos) [] [] cpos) (tBM0 X.K T r to) := by
 intro pins s σ H Q I h
 refine wpAny_Call_method0_late hbase hline (thn (ho pins s σ H _ I h) fun v s1 ⟨x, H1, I1, r1, ty, q1⟩ => ?_)
 obtain ⟨h1, h2⟩ := tyV_is I1 r1 ty
 exact ⟨T, id, pa, slot, hty, h1, h2, Calls.callWith_builtin rfl (PySem.evalArgs_none (hm pins s1 σ H1 x [] v [] Q I1 r1 .nil q1))⟩
theorem pe_bm (pa : PlainAttrs T) (slot : Slot T name id) (hty : typeOf (.builtin id) = pure (.type "method_descriptor")) (hm : MtR X id r) (ho : PE X o to) (ha : PA X (e :: es) t)
  (hbase : attributeBase o name X.env (eval o X.env) = eval o X.env := by rfl)
  (hfew : ((backTo cpos (starEach (e :: es) X.env)).all (fun x => !x.1) && (backToKw cpos (keywordEach [] X.env)).all (fun x => x.1.isSome)
   && decide ((e :: es).length + ([] : List Keyword).length + (if ([] : List Keyword).isEmpty then 0 else 1) < 30)) = true := by rfl)
  (hline : (apos.endLine == cpos.line) = true := by rfl) (hs : starEach (e :: es) X.env = (false, eval e X.env) :: starEach es X.env := by rfl) (hplain : (backTo cpos (starEach es X.env)).any (·.1) = false := by rfl) :
  PE X (.Call (.Attribute o name apos) (e :: es) [] cpos) (tBM X.K T r to t) := by
 intro pins s σ H Q I h
 refine wpAny_Call_method_late hbase hfew hline rfl (thn (ho pins s σ H _ I h) fun v s1 ⟨x, H1, I1, r1, ty, q1⟩ => ?_)
 obtain ⟨h1, h2⟩ := tyV_is I1 r1 ty
 refine ⟨T, id, pa, slot, hty, h1, h2, ?_⟩
 have hA := ha cpos pins s1 σ H1 _ I1 q1
 rw [hs] at hA ⊢
 refine Calls.callWith_builtin (by show (false || (backTo cpos (starEach es X.env)).any (·.1)) = false; rw [hplain] <;> rfl) (Calls.evalArgs_plain ?_)
 exact thn hA fun us s2 ⟨vs, H2, I2, r2, q2⟩ => hm pins s2 σ H2 x vs v us Q I2 r1 r2 q2
/- xs.append(e), list.index on a module's tuple .. are MtR facts of 06m -/
end
def MtM (X : Cx) (id : String) (r : V -> List V -> Hp -> VK -> Prop) : Prop :=
 ∀ (pins : List (Addr × Obj)) (s : Shared) (σ : St) (H : Hp) (x : V) (xs : List V) (v : Value) (us : List Value) (Q : VK), Inv X pins σ H s -> RelV x v -> Vals xs us -> r x xs H Q ->
  wpAny (model X.prog X.w) X.A (call (.builtin id) (v :: us)) (EP X pins σ Q) X.xe s
theorem Vals.one {x : V} {us : List Value} (h : Vals [x] us) : ∃ u, us = [u] /\ RelV x u := by
 cases h with
 | cons r t => cases t; exact ⟨_, rfl, r⟩
theorem Vals.two {x y : V} {us : List Value} (h : Vals [x, y] us) : ∃ u v, us = [u, v] /\ RelV x u /\ RelV y v := by
  cases h with
  | cons r t =>
    obtain ⟨v, e, q⟩ := Vals.one t
    exact ⟨_, v, by rw [e], r, q⟩
theorem Vals.dropLast {xs : List V} {us : List Value} (h : Vals xs us) : Vals xs.dropLast us.dropLast := by
  induction h with
  | nil => exact .nil
  | cons r t ih =>
    cases t with
    | nil => exact .nil
    | cons q t' => exact .cons r ih
theorem Vals.eraseIdx : ∀ {xs : List V} {us : List Value} (i : Nat), Vals xs us -> Vals (xs.eraseIdx i) (us.eraseIdx i)
 | _, _, _, .nil => .nil
 | _, _, 0, .cons _ t => t
 | _, _, i + 1, .cons r t => .cons r (Vals.eraseIdx i t)
theorem Vals.rep {xs : List V} {us : List Value} (h : Vals xs us) : ∀ k : Nat, Vals (List.replicate k xs).flatten (List.replicate k us).flatten
  | 0 => .nil
  | k + 1 => by
    rw [zq79x, zq79x, zq98x, zq98x]
    exact Vals.append h (Vals.rep h k)
theorem len_erase {α : Type} : ∀ (l : List α) (i : Nat), (l.eraseIdx i).length <= l.length
 | [], _ => zq5x _
 | _ :: _, 0 => zq113x _
 | _ :: r, i + 1 => Nat.succ_le_succ (len_erase r i)
theorem foldl_rep (its : List Value) : ∀ (k : Nat) (acc : List Value),
    List.foldl (fun x1 x2 => x1 ++ x2) acc.toArray (List.replicate k its.toArray) = (acc ++ (List.replicate k its).flatten).toArray
  | 0, acc => by simp
  | k + 1, acc => by
    have e : acc.toArray ++ its.toArray = (acc ++ its).toArray := by simp
    have e2 : (acc ++ its) ++ (List.replicate k its).flatten = acc ++ (List.replicate (k + 1) its).flatten := by
      rw [zq79x, zq98x, List.append_assoc]
    rw [<- e2, <- foldl_rep its k (acc ++ its), <- e, zq79x, List.foldl_cons]
section
variable {X : Cx} {pins : List (Addr × Obj)} {σ : St} {H : Hp} {s : Shared} {l b : Addr} {xs ys zs : List V}
theorem Inv.lset {its its' : List Value} {n : Nat} {f : Array Value -> Array Value} {t' : Nat} (I : Inv X pins σ H s) (hH : H l = some (.lst xs))
  (e : s.heap.get? l = some { cls := .type "list", data := .seq its.toArray n }) (hf : f its.toArray = its'.toArray) (hv : Vals ys its') (hz : ys.length <= sizeLine) :
  Inv X pins σ (upd H l (.lst ys)) { s with heap := s.heap.update l (Obj.mapSeq f), toks := t' } := by
 have q := PySem.IsL.update e f
 rw [hf] at q
 refine I.write (x := l) (e := l) (by rw [hH]; exact trivial) (.inl rfl) (fun b' u hb hu => (Heap.get?_update_other s.heap (Obj.mapSeq f) (zq11x hb)).trans hu) ⟨_, q⟩ ?_
 exact ⟨hz, its', _, hv, q⟩
theorem Inv.lnew {its : List Value} {t' : Nat} (I : Inv X pins σ H s) (hv : Vals ys its) (hz : ys.length <= sizeLine) :
  Inv X pins σ (upd H s.heap.objs.size (.lst ys)) { s with heap := s.heap.push { cls := .type "list", data := .seq its.toArray }, toks := t' } :=
 I.laid (fun _ _ q => zq49x _ q) (zq5x _) ⟨hz, its, 0, hv, zq75x _ rfl⟩
theorem Inv.fresh (I : Inv X pins σ H s) : H s.heap.objs.size = none := I.hok.fresh (zq5x _)
theorem Inv.lstM (I : Inv X pins σ H s) (hH : H l = some (.lst xs)) : xs.length <= sizeLine /\ ∃ (its : List Value) (n : Nat), Vals xs its /\ xs.length = its.length /\ s.heap.get? l = some { cls := .type "list", data := .seq its.toArray n } := by
 obtain ⟨z, its, n, r, e⟩ := I.hok l _ hH
 exact ⟨z, its, n, r, r.length, e⟩
theorem notLongL {n : Nat} (h : n <= sizeLine) : Builtin.List.listTooLong n = false := by
 unfold Builtin.List.listTooLong
 exact decide_eq_false (by omega)
end
section
variable {X : Cx}
def rAppend : V -> List V -> Hp -> VK -> Prop := fun x vs H Q => ∃ l xs y, x = .ref l /\ vs = [y] /\ H l = some (.lst xs) /\ xs.length < sizeLine /\ Q .non (upd H l (.lst (xs ++ [y])))
theorem mt_append : MtM X "list.append" rAppend := by
 intro pins s σ H x vs v us Q I rx rv h
 obtain ⟨l, xs, y, rfl, rfl, hH, hz, q⟩ := h
 cases rx
 obtain ⟨u, rfl, ru⟩ := rv.one
 obtain ⟨z, its, n, r, hl, e⟩ := I.lstM hH
 refine call_meets F.slot_list_append ⟨_, e, rfl⟩ F.entry_list_append (F.args_list_append_2 _ _) (PySem.list_append l its.toArray n u (by rw [zq13x]; omega)) ⟨e, ?_⟩
 refine ⟨.non, _, I.lset (its' := its ++ [u]) hH e (by simp) (r.append (.cons ru .nil)) ?_, rfl, q⟩
 rw [zq25x, zq52x]
 omega
def rExtend : V -> List V -> Hp -> VK -> Prop := fun x vs H Q => ∃ l b xs zs, x = .ref l /\ vs = [.ref b] /\ H l = some (.lst xs) /\ H b = some (.lst zs) /\ xs.length + zs.length <= sizeLine /\ Q .non (upd H l (.lst (xs ++ zs)))
theorem mt_extend : MtM X "list.extend" rExtend := by
 intro pins s σ H x vs v us Q I rx rv h
 obtain ⟨l, b, xs, zs, rfl, rfl, hH, hB, hz, q⟩ := h
 cases rx
 obtain ⟨u, rfl, ru⟩ := rv.one
 cases ru
 obtain ⟨z, its, n, r, hl, e⟩ := I.lstM hH
 obtain ⟨z2, its2, n2, r2, hl2, e2⟩ := I.lstM hB
 have hsz : its.toArray.size + its2.toArray.size <= sizeLine := by rw [zq13x, zq13x]; omega
 have hlong : ¬ (!its.toArray.isEmpty && Builtin.List.listTooLong (its.toArray.size + its2.toArray.size)) = true := by
  rw [notLongL hsz, Bool.and_false]
  exact zq15x
 refine call_meets F.slot_list_extend ⟨_, e, rfl⟩ F.entry_list_extend (F.args_list_extend_2 _ _)
  (AutoSeq1.list_extend_list_list_0 l its.toArray n b its2.toArray n2 hlong (by rw [zq13x]; omega) (by omega)) ⟨e, e2, ?_⟩
 refine ⟨.non, _, I.lset (its' := its ++ its2) hH e (by simp) (r.append r2) ?_, rfl, q⟩
 rw [zq25x]
 omega
def rPopAt : V -> List V -> Hp -> VK -> Prop := fun x vs H Q => ∃ l xs i k y, x = .ref l /\ vs = [.int i] /\ H l = some (.lst xs) /\ -(2 ^ 63) <= i /\ i < 2 ^ 63 /\ seqIndex? i xs.length = some k /\ xs[k]? = some y /\ Q y (upd H l (.lst (xs.eraseIdx k)))
theorem mt_popAt : MtM X "list.pop" rPopAt := by
 intro pins s σ H x vs v us Q I rx rv h
 obtain ⟨l, xs, i, k, y, rfl, rfl, hH, h1, h2, hk, hy, q⟩ := h
 cases rx
 obtain ⟨u, rfl, ru⟩ := rv.one
 obtain ⟨t, rfl⟩ := ru
 obtain ⟨z, its, n, r, hl, e⟩ := I.lstM hH
 obtain ⟨w, hw, rw'⟩ := r.get hy
 refine call_meets F.slot_list_pop ⟨_, e, rfl⟩ F.entry_list_pop (F.args_list_pop_2 _ _)
  (MeetsSeq.list_pop_at l its.toArray n i t k w (fitsIndex_both h1 h2) (by rw [zq13x, <- hl]; exact hk) (by rw [<- zq172x]; exact hw) (by rw [zq13x]; omega)) ⟨e, ?_⟩
 refine ⟨y, _, I.lset (its' := its.eraseIdx k) hH e ?_ (r.eraseIdx k) ?_, rw', q⟩
 ·show its.toArray.eraseIdxIfInBounds k = (its.eraseIdx k).toArray
  rw [List.eraseIdxIfInBounds_toArray]
 ·have := len_erase xs k
  omega
def rCat : R2 := fun x y H Q => ∃ l b xs zs, x = .ref l /\ y = .ref b /\ H l = some (.lst xs) /\ H b = some (.lst zs) /\ xs.length + zs.length <= sizeLine /\ ∀ p, H p = none -> Q (.ref p) (upd H p (.lst (xs ++ zs)))
theorem op_cat : OpR X (binaryOp .Add) rCat := by
 intro pins s σ H x y v u Q I rx ry h
 obtain ⟨l, b, xs, zs, rfl, rfl, hH, hB, hz, q⟩ := h
 cases rx
 cases ry
 obtain ⟨z, its, n, r, hl, e⟩ := I.lstM hH
 obtain ⟨z2, its2, n2, r2, hl2, e2⟩ := I.lstM hB
 refine PySem.P.add_list e e2 ?_ (by rw [zq13x, zq13x]; omega)
 have ea : its.toArray ++ its2.toArray = (its ++ its2).toArray := by simp
 rw [ea]
 exact ⟨.ref _, _, I.lnew (t' := s.toks) (r.append r2) (by rw [zq25x]; omega), rfl, q _ I.fresh⟩
def rRep : R2 := fun x y H Q => ∃ l k xs, x = .ref l /\ y = .int k /\ H l = some (.lst xs) /\ -(2 ^ 63) <= k /\ k < 2 ^ 63 /\ xs.length * k.toNat <= sizeLine /\
 ∀ p, H p = none -> Q (.ref p) (upd H p (.lst (List.replicate k.toNat xs).flatten))
theorem len_rep {α : Type} (xs : List α) (k : Nat) : (List.replicate k xs).flatten.length = k * xs.length := by
 induction k with
 | zero => simp
 | succ k ih => rw [zq79x, zq98x, zq25x, ih, Nat.succ_mul, Nat.add_comm]
theorem op_rep : OpR X (binaryOp .Mult) rRep := by
 intro pins s σ H x y v u Q I rx ry h
 obtain ⟨l, k, xs, rfl, rfl, hH, h1, h2, hz, q⟩ := h
 cases rx
 obtain ⟨t, rfl⟩ := ry
 obtain ⟨z, its, n, r, hl, e⟩ := I.lstM hH
 have hlen : its.toArray.size * k.toNat <= sizeLine := by rw [zq13x, <- hl]; exact hz
 have hcap : ¬ its.toArray.size * k.toNat > (2 ^ 63 - 1) / 8 := by
  have : (sizeLine : Nat) <= (2 ^ 63 - 1) / 8 := by decide
  omega
 have hfit : ¬ (!Builtin.List.listFitsIndex k) = true := by
  rw [fitsIndex_both h1 h2]
  exact zq15x
 have hlong : ¬ Builtin.List.listTooLong (its.toArray.size * k.toNat) = true := by
  rw [notLongL hlen]
  exact zq15x
 have hnew : List.foldl (fun x1 x2 => x1 ++ x2) #[] (List.replicate (if its.toArray.isEmpty = true then 0 else k.toNat) its.toArray) = (List.replicate k.toNat its).flatten.toArray := by
  have f0 : ∀ m : Nat, List.foldl (fun x1 x2 => x1 ++ x2) #[] (List.replicate m its.toArray) = (List.replicate m its).flatten.toArray := fun m => by
   have := foldl_rep its m []
   rw [List.nil_append] at this
   exact this
  rw [f0]
  cases its with
  | nil => simp
  | cons a r' => rw [if_neg (by simp)]
 refine wpAny_binaryOp_repeat_ref (T := "list") (U := "int") (by decide) ⟨_, e, rfl⟩ (fun s' => typeIs_int s' k t) noFill_list_mul F.fills_int_mul F.slot_int_rmul repeat_list F.slot_int_index.lookup
  (call_meets F.slot_int_rmul (typeIs_int s k t) F.entry_int_rmul (F.args_int_rmul_2 _ _) (int___rmul___int_list k t l its.toArray n)
   ⟨e, rfl, ⟨_, e, rfl⟩, call_meets F.slot_list_mul ⟨_, e, rfl⟩ F.entry_list_mul (F.args_list_mul_2 _ _) (AutoListH.list___mul___list_int_3 l its.toArray n k t hfit hcap hlong) ⟨e, ?_⟩⟩)
 rw [hnew]
 exact ⟨.ref _, _, I.lnew (t' := s.toks) (r.rep k.toNat) (by rw [len_rep, zq57x]; exact hz), rfl, q _ I.fresh⟩
end
end L2
namespace Att
open PySem PySem.W PySem.Calls PyProof.Rows
theorem ints_of_wellAll {P : Params} {h : Heap} : ∀ (ns : List Int) (vs : List Value), WellAll P h vs (ns.map WData.int) -> IntsAre vs ns := by
  intro ns
  induction ns with
  | nil =>
    intro vs w
    rw [zq114x] at w
    cases w
    exact .nil
  | cons n ns ih =>
    intro vs w
    rw [zq9x] at w
    cases w with
    | cons a b =>
      cases a
      exact .cons _ _ (ih _ b)
theorem script_of {l : OpenLaw} {n : Nat} (hn : l.most = some n) {P : Params} {h : Heap} {args : List WData} {vals : List Value}
    (hpre : l.row.toRowW.claim.pre args = true) (hwl : WellAll P h vals args) :
    ∃ a vs ns, vals = [Value.ref a] /\ args = [WData.list (ns.map WData.int)] /\ h.get? a = some { cls := .type "list", data := .seq vs.toArray } /\ IntsAre vs ns /\ ns.length <= n := by
  have hsh : WShape.hasAll [] args [.list .int] = true := (pre_splitW hpre).1
  have hc : l.pre.holds [] { args := args } = true := (pre_splitW hpre).2
  obtain ⟨d, r, rfl, h1, h2⟩ := hasAllW_cons hsh
  obtain rfl := hasAllW_nil h2
  obtain ⟨xs, rfl, h3⟩ := hasW_list h1
  obtain ⟨ns, rfl⟩ := items_int h3
  have hlen : ns.length <= n := by
    unfold OpenLaw.pre at hc
    have h4 : (WTm.not (.lt (.lit (.int (n : Int))) (.len (.arg 0)))).holds [] { args := [.list (ns.map .int)] } = true := by
      have h4 := (holds_andW hc).1
      rw [hn] at h4
      exact h4
    have h5 := condW_of h4 (w_not (w_lt w_lit (w_len_list (w_arg rfl))))
    rw [zq0x] at h5
    refine Nat.le_of_not_lt fun q => ?_
    have q' : (n : Int) < ((ns.length : Nat) : Int) := by omega
    first
      | (rw [decide_eq_true q'] at h5; exact absurd h5 (by decide))
      | (simp at h5; omega)
  cases hwl with
  | cons w1 w2 =>
    cases w2
    cases w1 with
    | list ho hall => exact ⟨_, _, ns, rfl, rfl, ho, ints_of_wellAll ns _ hall, hlen⟩
theorem post_true (l : OpenLaw) (args : List WData) : l.row.toRowW.claim.post args (.bool true) args = true :=
 postW_of (r := l.row.toRowW) (X := (true == true))
  (show WShape.has [] (.bool true) .bool = true by first | rfl | decide | simp [WShape.has, WShape.arms, WShape.armsAll])
  (show (WTm.eq .res (.lit (.bool true))).value [] { args := args, res := some (.bool true), after := args } = some (.bool (true == true)) from w_eq_bool (w_res rfl) w_lit) rfl
theorem attach_call {l : OpenLaw} {n : Nat} {q : Program} {loose : List Str} {XP : (Str -> Option Value) -> Heap -> Prop} {YP : World -> Heap -> Prop} {d : DefRec}
  (hn : l.most = some n) (hdf : d.params.defaults = [])
  (call : ∀ (w : World) (s₀ s₁ : Shared) (mg mb : Str -> Option Value) (fa : Addr) (o : Obj) (pm cd doc : Value) (a : Addr) (vs : List Value) (ns : List Int),
   Ground q loose [] XP w s₀ mg mb s₁.heap -> YP w s₁.heap ->
   s₁.heap.get? fa = some o -> o.data = .func (docDef d.name d.params d.body d.scope pm cd doc) -> s₁.heap.CodeRec cd d.name -> mg d.name = some (.ref fa) ->
   s₁.heap.get? a = some { cls := .type "list", data := .seq vs.toArray } -> IntsAre vs ns -> ns.length <= n -> s₁.gens = #[] ->
   codeAny (model l.prog w) callerA (.call (.ref fa) ⟨[.ref a], []⟩) (fun r s' => r = .ok (.ret (.bool true)) /\ OldK s₁.heap s'.heap /\ s'.os = s₁.os /\ AllBare s'.gens) s₁) :
  WalkO q loose XP YP l.row.toRowW d [] (fun f vs => PySem.call f vs) := by
 intro w s₀ s₁ mg mb G Y fa o pm cd doc dV kV ho hd hcd hD hmg hg args vals as hpre hlay hrd hwl hlo
 obtain rfl : dV = .none := Dflts.none hD hdf
 obtain rfl : kV = .none := Dflts.noKw hD
 obtain ⟨a, vs, ns, rfl, rfl, hobj, hints, hlen⟩ := script_of hn hpre hwl
 refine enter_call (codeAny_mono (call w s₀ s₁ mg mb fa o pm cd doc a vs ns G Y ho (fd_plain hd) hcd hmg hobj hints hlen hg) fun r s' hq => ?_)
 obtain ⟨rfl, h2, h3, h4⟩ := hq
 exact ⟨.inl ⟨.bool true, .bool true, [], rfl, fun _ => rfl, .bool true, post_true l _, fun _ => ⟨List.Pairwise.nil, fun _ hm => (nomatch hm)⟩⟩, h2, h3, h4⟩
section
variable {prog : Program} {w : World} {A : Around} {E : Value -> Shared -> Prop} {s : Shared} {K : Frag}
def ledger (h : Heap) (L d : Addr) : List (Addr × Obj) := (List.range h.objs.size).filterMap fun a => if a = L \/ a = d then none else (h.get? a).map fun o => (a, o)
end
end Att
namespace L2
open PySem PySem.Spec PyProof.Rows
theorem vals_ints : ∀ {vs : List Value} {ns : List Int}, IntsAre vs ns -> Vals (ns.map V.int) vs
 | _, _, .nil => .nil
 | _, _, .cons n t h => .cons ⟨t, rfl⟩ (vals_ints h)
def Only (H : Hp) : Prop := ∀ b, H b = none \/ ∃ o xs, H b = some (.frz o (.lst xs))
theorem law_call {P : Program} {w : World} {K : PySem.W.Frag} {mg mb : Str -> Option Value} {CX : CXT} {k : Nat} {fa a : Addr} {fd : FuncData} {x : Str} {sp : Sp} {s₁ : Shared} {vs : List Value} {ns : List Int}
    (KX : K.In s₁.heap) (hns : s₁.heap.Ns mainGlobals mg) (hb : s₁.heap.Ns builtinsNs mb) (hbb : ∀ x : Str, x ≠ "__name__" -> mb x = bootBuiltins x) (hlim : s₁.heap.NoLimit) (hg : s₁.gens = #[])
    (ha : s₁.heap.get? a = some { cls := .type "list", data := .seq vs.toArray }) (hi : IntsAre vs ns) (hl : ns.length <= sizeLine) (hr : Room k callerA)
    (F : ∀ base : Heap, K.In base -> base.Ns mainGlobals mg -> FnOk P w K mg base CX k fa fd [x] sp) (hbind : ∀ (s : Shared) (u : Value), BindsTo s fd ⟨[u], []⟩ [(x, u)])
    (hsp : ∀ H : Hp, Only H -> SqL K H a (ns.map V.int) -> sp [.ref a] H (fun v _ => v = .bl true) fun _ _ _ => False)
    (hCX : ∀ H e s', CX [] H s₁ (fun _ _ _ => False) e s' -> False) :
    codeAny (model P w) callerA (.call (.ref fa) ⟨[.ref a], []⟩) (fun r s' => r = .ok (.ret (.bool true)) /\ OldK s₁.heap s'.heap /\ s'.os = s₁.os /\ AllBare s'.gens) s₁ := by
  have rv := vals_ints hi
  have lenV := hi.length
  have core : ∀ H : Hp, Only H -> SqL K H a (ns.map V.int) -> HOk P w H s₁.heap -> (∀ b, H b ≠ none -> b = a) -> (H a ≠ none -> K.lookup a = none) ->
      codeAny (model P w) callerA (.call (.ref fa) ⟨[.ref a], []⟩) (fun r s' => r = .ok (.ret (.bool true)) /\ OldK s₁.heap s'.heap /\ s'.os = s₁.os /\ AllBare s'.gens) s₁ := by
    intro H hO hS hok hA hK
    have base_of : ∀ {b : Addr} {o : Obj}, s₁.heap.get? b = some o -> H b = none -> (hidT s₁.heap H).get? b = some o := fun e n => hidT_get e n
    have noA : ∀ {b : Addr} {o : Obj} {es : Array DictEntry} {ep : Nat}, s₁.heap.get? b = some o -> o.data = .dict es ep -> H b = none := fun {b o es ep} e d => by
      cases q : H b with
      | none => rfl
      | some u =>
        have e' : b = a := hA b (by rw [q]; simp)
        subst e'
        rw [ha] at e; cases e
        have d' : Data.seq vs.toArray _ = Data.dict es ep := d
        cases d'
    have nsK : ∀ {b : Addr} {m : Str -> Option Value}, s₁.heap.Ns b m -> (hidT s₁.heap H).Ns b m := fun {b m} ⟨o, es, ep, e, d, r⟩ => ⟨o, es, ep, base_of e (noA e d), d, r⟩
    have hKb : K.In (hidT s₁.heap H) := fun b o e => base_of (KX b o e) (by
      cases q : H b with
      | none => rfl
      | some u =>
        have e' : b = a := hA b (by rw [q]; simp)
        subst e'
        rw [hK (by rw [q]; simp)] at e; cases e)
    have hM : Mod K mg (hidT s₁.heap H) := ⟨hKb, nsK hns, ⟨mb, nsK hb, hbb⟩, let ⟨mc, h1, h2⟩ := hlim; ⟨mc, nsK h1, h2⟩⟩
    have e0 : Env0 P w K mg (hidT s₁.heap H) callerA [] s₁ H := ⟨rfl, hM, fun b o e => of_hidT e, zq142x (hidT_size _ _), trivial, fun b hb => absurd (show b ∈ ([] : List Addr) from hb) (by simp), hok, .of_eq hg⟩
    refine codeAny_mono ((F _ hKb (nsK hns)).run callerA [] s₁ H ⟨[.ref a], []⟩ [.ref a] [.ref a] _ _ hr e0 (hbind s₁ (.ref a)) (.cons rfl .nil) (hsp H hO hS)) fun r s' h => ?_
    cases r with
    | error e => exact (hCX H e s' h).elim
    | ok fl =>
      cases fl with
      | next => exact False.elim h
      | brk => exact False.elim h
      | cont => exact False.elim h
      | ret u =>
        obtain ⟨v, H', os, bare, un, hok', r', q⟩ := h
        have q' : v = .bl true := q
        subst q'
        obtain rfl : u = Value.bool true := r'
        refine ⟨rfl, OldK.of_keep fun b o e => ?_, os, bare⟩
        cases q : H b with
        | none => exact un.keep b o e q (by intro z; exact absurd (show b ∈ ([] : List Addr) from z) (by simp)) (by simp)
        | some u =>
          rcases hO b with z | ⟨ob, xs, z⟩
          · rw [q] at z; cases z
          · have z2 := un.frzs b ob _ z
            obtain ⟨e1, _⟩ := hok b _ z
            obtain ⟨e2, _⟩ := hok' b _ z2
            rw [e] at e1; cases e1
            exact e2
  cases hk : K.lookup a with
  | some o =>
    have e := KX a o hk
    rw [ha] at e
    cases e
    refine core (fun _ => none) (fun _ => .inl rfl) (.inr ⟨_, vs.toArray, _, hk, rfl, rfl, rfl, by rw [zq13x, lenV]; exact hl, by simpa using rv⟩) (fun b u z => by have z' : (none : Option HO) = some u := z; cases z') (fun b z => absurd rfl z) fun z => absurd rfl z
  | none =>
    refine core (fun b => if b = a then some (.frz { cls := .type "list", data := .seq vs.toArray } (.lst (ns.map V.int))) else none) (fun b => ?_) (.inl (.inr ⟨{ cls := .type "list", data := .seq vs.toArray }, if_pos rfl⟩)) (fun b u z => ?_) (fun b z => ?_) fun _ => hk
    · by_cases hb : b = a
      · exact .inr ⟨_, _, if_pos hb⟩
      · exact .inl (if_neg hb)
    · by_cases hb : b = a
      · have z' := (if_pos hb).symm.trans z
        cases z'
        subst hb
        exact ⟨ha, by rw [zq0x]; exact hl, vs, _, rv, ha⟩
      · have z' := (if_neg hb).symm.trans z
        cases z'
    · by_cases hb : b = a
      · exact hb
      · exact absurd (if_neg hb) z
theorem walk_of {l : PySem.W.OpenLaw} {n k : Nat} {q : Program} {loose : List Str} {XP : (Str -> Option Value) -> Heap -> Prop} {YP : World -> Heap -> Prop} {d : DefRec} {K : Params -> PySem.W.Frag} {CX : World -> CXT} {sp : World -> Sp} {x : Str}
  (hn : l.most = some n) (hn2 : n <= sizeLine) (hdf : d.params.defaults = []) (hr : Room k callerA)
  (hY : ∀ (w : World) (h : Heap), YP w h -> (K w.params).In h)
  (F : ∀ (w : World) (mg : Str -> Option Value) (fa : Addr) (h : Heap), (K w.params).In h -> h.Ns mainGlobals mg -> mg d.name = some (.ref fa) ->
   ∃ fd : FuncData, (∀ (s : Shared) (u : Value), BindsTo s fd ⟨[u], []⟩ [(x, u)]) /\
    ∀ base : Heap, (K w.params).In base -> base.Ns mainGlobals mg -> FnOk l.prog w (K w.params) mg base (CX w) k fa fd [x] (sp w))
  (hsp : ∀ (w : World) (H : Hp) (a : Addr) (ns : List Int), ns.length <= n -> Only H -> SqL (K w.params) H a (ns.map V.int) -> sp w [.ref a] H (fun v _ => v = .bl true) fun _ _ _ => False)
  (hCX : ∀ (w : World) (H : Hp) (s : Shared) (e : Value) (s' : Shared), CX w [] H s (fun _ _ _ => False) e s' -> False) :
  PySem.W.WalkO q loose XP YP l.row.toRowW d [] (fun f vs => PySem.call f vs) := by
 refine Att.attach_call hn hdf fun w s₀ s₁ mg mb fa o pm cd doc a vs ns G Y ho hd hcd hmg hobj hints hlen hg => ?_
 have KX := hY w _ Y
 obtain ⟨fd, hb, hF⟩ := F w mg fa _ KX G.T.g hmg
 exact law_call KX G.T.g G.T.b G.T.builtins G.T.nolimit hg hobj hints (zq31x hlen hn2) hr hF hb (fun H hO hS => hsp w H a ns hlen hO hS) fun H e s' => hCX w H s₁ e s'
end L2
/- THE LAST THEOREM (shape; LID, My.* are yours):
   My.Adr: a structure of the addresses that your layer names (classes, functions); My.Txt K t: a structure (Prop) of the equations over K;
   My.txt_mk : {K} {implicit addresses ..} (e1 : nsIn K mainGlobals "law" = some (some (.ref f))) (e2 : K.lookup f = some ⟨oc, od, .func (fnOf "law" "law" params body scope dV kV doc pm an cdv ct), sl⟩) (e3 : codeIn K cdv "law" = true) .. : ∃ t, My.Txt K t
set_option maxRecDepth 100000 in
set_option maxHeartbeats 0 in
(the tactic k_is has no namespace: write k_is) -/
namespace L2
open PySem PySem.Spec PyProof.Rows
def defArgs (s : Stmt) : Arguments := match s with
 | .FunctionDef _ a _ _ _ _ _ _ _ _ => a
 | _ => { posonlyargs := [], args := [], vararg := none, kwonlyargs := [], kw_defaults := [], kwarg := none, defaults := [] }
def defBody (s : Stmt) : List Stmt := match s with
 | .FunctionDef _ _ b _ _ _ _ _ _ _ => b
 | _ => []
def defScope (s : Stmt) : Scope := match s with
 | .FunctionDef _ _ _ _ _ _ sc _ _ _ => sc
 | _ => { kind := .function, names := [], isGenerator := false, isCoroutine := false }
abbrev CX0 : CXT := fun _ _ _ _ _ _ => False
abbrev E0 : XK := fun _ _ _ => False
theorem pass0 {X : Cx} : Passes CX0 X E0 := fun _ _ _ _ _ _ _ h => h.elim
structure Fun (K : PySem.W.Frag) (x qual : Str) (st : Stmt) (f : Addr) (fd : FuncData) : Prop where
 ex : ∃ (oc : Value) (od : Option Addr) (kV doc pm : Value) (an : Option Addr) (cdv ct : Value) (osl : Array (Option Value)),
  fd = PySem.W.fnOf x qual (defArgs st) (defBody st) (defScope st) .none kV doc pm an cdv ct /\ K.lookup f = some ⟨oc, od, .func fd, osl⟩ /\ PySem.W.codeIn K cdv qual = true
 kp : PySem.W.keepIn K (.ref f) = true
section
variable {P : Program} {w : World} {K : PySem.W.Frag} {mg : Str -> Option Value} {base : Heap}
theorem Fun.ok {x qual : Str} {st : Stmt} {f : Addr} {fd : FuncData} {N ps : List Str} {k : Nat} {sp : Sp} (F : Fun K x qual st f fd) (S : FnScope N ps (defScope st)) (len : ∀ vs H Q E, sp vs H Q E -> vs.length = ps.length)
  (hbody : ∀ (cdv : Value) (A : Around) (outer : List Env) (s : Shared) (H : Hp) (vs : List V) (Q : VK) (E : XK), Room k (A.deeper (envOfC qual (defScope st) s.heap.objs.size f cdv)) -> sp vs H Q E ->
   ∃ t, PSs (cxOf CX0 P w K mg base N qual (defScope st) f cdv A outer s H E).nox (defBody st) t /\ t { nx := fun _ H' => Q .non H', rt := Q } (start N vs) H) : FnOk P w K mg base CX0 (k + 1) f fd ps sp := by
 obtain ⟨oc, od, kV, doc, pm, an, cdv, ct, osl, rfl, lk, hcd⟩ := F.ex
 refine fn_of lk hcd S len fun A outer s H vs Q E hr hsp => ?_
 obtain ⟨t, h, q⟩ := hbody cdv A outer s H vs Q E hr hsp
 exact ⟨t, h.nox, q⟩
theorem Fun.binds {x qual : Str} {st : Stmt} {f : Addr} {fd : FuncData} {ps : List Str} (F : Fun K x qual st f fd)
  (h : ∀ (kV doc pm : Value) (an : Option Addr) (cdv ct : Value) (us : List Value), us.length = ps.length -> bindArgs (PySem.W.fnOf x qual (defArgs st) (defBody st) (defScope st) .none kV doc pm an cdv ct) ⟨us, []⟩ = pure (ps.zip us)) : Binds K fd ps [] := by
 obtain ⟨oc, od, kV, doc, pm, an, cdv, ct, osl, rfl, lk, hcd⟩ := F.ex
 exact .all (h kV doc pm an cdv ct)
theorem fun_mk {x qual : Str} {st : Stmt} {f : Addr} {oc : Value} {od an : Option Addr} {osl : Array (Option Value)} {kV doc pm cdv ct : Value} (l : K.lookup f = some ⟨oc, od, .func (PySem.W.fnOf x qual (defArgs st) (defBody st) (defScope st) .none kV doc pm an cdv ct), osl⟩)
  (c : PySem.W.codeIn K cdv qual = true) (k : PySem.W.keepIn K (.ref f) = true) : Fun K x qual st f (PySem.W.fnOf x qual (defArgs st) (defBody st) (defScope st) .none kV doc pm an cdv ct) := ⟨⟨oc, od, kV, doc, pm, an, cdv, ct, osl, rfl, l, c⟩, k⟩
end
theorem small1000 {n : Nat} (h : n <= 1000) : n < sizeLine := Nat.lt_of_le_of_lt h (by decide)
section
variable {X : Cx}
theorem pv (i : Nat) {x : Str} {pos : Pos} (hN : X.N[i]? = some x := by rfl) (hv : Vis X.env.scope x := by first | exact Or.inl rfl | exact Or.inr (Or.inl rfl) | exact Or.inr (Or.inr rfl)) (hd : (x == ("__debug__" : Str)) = false := by decide)
  (hcd : (x == ("__classdict__" : Str)) = false := by decide) : PE X (.Name x pos) (tVar i) := pe_var hN hv hd hcd
end
theorem iteF {A B : Prop} (h : B) : if false = true then A else B := by
 rw [if_neg zq15x]
 exact h
theorem iteT {A B : Prop} (h : A) : if true = true then A else B := by
 rw [if_pos rfl]
 exact h
theorem ite2 {c A B : Prop} [Decidable c] (h1 : c -> A) (h2 : ¬ c -> B) : if c then A else B := by
 by_cases h : c
 ·rw [if_pos h]
  exact h1 h
 ·rw [if_neg h]
  exact h2 h
def Same (H H' : Hp) : Prop := ∀ b o, H b = some o -> H' b = some o
theorem Same.refl (H : Hp) : Same H H := fun _ _ h => h
theorem Same.trans {H H1 H2 : Hp} (a : Same H H1) (b : Same H1 H2) : Same H H2 := fun c o h => b c o (a c o h)
theorem Same.free {H H' : Hp} (e : Same H H') {l : Addr} (h : H' l = Option.none) : H l = Option.none := by
  cases q : H l with
  | none => rfl
  | some o =>
    rw [e l o q] at h
    cases h
theorem Same.seq {K : PySem.W.Frag} {H H' : Hp} {a : Addr} {xs : List V} (e : Same H H') (h : SqL K H a xs) : SqL K H' a xs := by
 rcases h with (h | ⟨o, h⟩) | h
 ·exact .inl (.inl (e _ _ h))
 ·exact .inl (.inr ⟨o, e _ _ h⟩)
 ·exact .inr h
end L2
set_option maxHeartbeats 1000000
namespace L2
open PySem PySem.Spec PyProof.Rows
def clOf (cells : List (Str × Addr)) : List (Str × NameKind) -> List (Str × Addr) -> List (Str × Addr)
 | [], acc => acc
 | (n, k) :: r, acc => clOf cells r (if k == NameKind.free then (match cells.lookup n with | some a => (n, a) :: acc | none => acc) else acc)
theorem clOf_run {env : Env} {f : Str × NameKind -> List (Str × Addr) -> Sem (ForInStep (List (Str × Addr)))}
    (hf : ∀ x acc, f x acc = if (x.2 == NameKind.free) = true then (do let a <- cellOf env x.1; pure (ForInStep.yield ((x.1, a) :: acc))) else pure (ForInStep.yield acc)) :
    ∀ (l : List (Str × NameKind)) (acc : List (Str × Addr)), (∀ x ∈ l, x.2 = .free -> ∃ a, env.cells.lookup x.1 = some a) -> (forIn l acc f : Sem (List (Str × Addr))) = pure (clOf env.cells l acc)
  | [], acc, _ => by rw [List.forIn_nil]; rfl
  | (n, k) :: r, acc, h => by
    have hr := fun x hx => h x (zq21x _ hx)
    rw [List.forIn_cons, hf]
    by_cases hk : (k == NameKind.free) = true
    · have hk' : k = NameKind.free := by simpa using hk
      obtain ⟨a, ha⟩ := h (n, k) zq27x hk'
      have hc : cellOf env n = pure a := by unfold cellOf; rw [ha]
      rw [if_pos hk, hc]
      show (forIn r ((n, a) :: acc) f : Sem (List (Str × Addr))) = pure (clOf env.cells r _)
      rw [clOf_run hf r _ hr, if_pos hk, ha]
    · rw [if_neg hk]
      show (forIn r acc f : Sem (List (Str × Addr))) = pure (clOf env.cells r _)
      rw [clOf_run hf r _ hr, if_neg hk]
theorem closureFor_eq {scope : Scope} {env : Env} (h : ∀ x ∈ scope.names, x.2 = .free -> ∃ a, env.cells.lookup x.1 = some a) : closureFor scope env = pure (clOf env.cells scope.names []) := by
 simp only [closureFor]
 rw [clOf_run (env := env) (fun ⟨n, k⟩ acc => by dsimp only) scope.names [] h]
 rfl
theorem clOf_sub {cells : List (Str × Addr)} : ∀ {l : List (Str × NameKind)} {acc : List (Str × Addr)} {x : Str} {c : Addr}, (∀ y d, acc.lookup y = some d -> cells.lookup y = some d) -> (clOf cells l acc).lookup x = some c -> cells.lookup x = some c
  | [], _, _, _, ha, h => ha _ _ h
  | (n, k) :: r, acc, x, c, ha, h => by
    refine clOf_sub (l := r) ?_ h
    intro y d hd
    by_cases hk : (k == NameKind.free) = true
    · rw [if_pos hk] at hd
      cases q : cells.lookup n with
      | none => rw [q] at hd; exact ha _ _ hd
      | some a =>
        rw [q] at hd
        by_cases hy : (y == n) = true
        · have hy' : y = n := by simpa using hy
          subst hy'
          simp [zq38x] at hd
          rw [q, hd]
        · have hy' : (y == n) = false := by simpa using hy
          simp only [zq38x, hy'] at hd
          exact ha _ _ hd
    · rw [if_neg hk] at hd; exact ha _ _ hd
theorem clOf_keep {cells : List (Str × Addr)} : ∀ {l : List (Str × NameKind)} {acc : List (Str × Addr)} {x : Str}, (acc.lookup x).isSome = true -> ((clOf cells l acc).lookup x).isSome = true
  | [], _, _, h => h
  | (n, k) :: r, acc, x, h => by
    refine clOf_keep (l := r) ?_
    by_cases hk : (k == NameKind.free) = true
    · rw [if_pos hk]
      cases q : cells.lookup n with
      | none => exact h
      | some a =>
        by_cases hy : (x == n) = true
        · simp [zq38x, hy]
        · have hy' : (x == n) = false := by simpa using hy
          simp only [zq38x, hy']
          exact h
    · rw [if_neg hk]; exact h
theorem clOf_has {cells : List (Str × Addr)} : ∀ {l : List (Str × NameKind)} {acc : List (Str × Addr)} {x : Str} {a : Addr}, (x, NameKind.free) ∈ l -> cells.lookup x = some a -> ((clOf cells l acc).lookup x).isSome = true
  | [], _, _, _, h, _ => nomatch h
  | (n, k) :: r, acc, x, a, h, hc => by
    rcases zq3x.mp h with e | h
    · obtain ⟨rfl, rfl⟩ := zq80x e
      refine clOf_keep (l := r) ?_
      rw [if_pos (by decide), hc]
      simp [zq38x]
    · exact clOf_has (l := r) h hc
theorem clOf_look {cells : List (Str × Addr)} {l : List (Str × NameKind)} {x : Str} {a : Addr} (h : (x, NameKind.free) ∈ l) (hc : cells.lookup x = some a) : (clOf cells l []).lookup x = some a := by
 obtain ⟨c, e⟩ := zq171x.mp (clOf_has (acc := []) h hc)
 have := clOf_sub (fun y d (q : ([] : List (Str × Addr)).lookup y = some d) => by simp at q) e
 rw [hc] at this; cases this
 exact e
theorem relabel_look {env : Env} : ∀ {l : List (Str × NameKind)} {x : Str} {k : NameKind}, (∀ y ∈ l, y.2 ≠ .cell) ->
    (l.map fun (n, k) => if (k == NameKind.free && env.scope.kind == .function && env.kindOf n == some .cell) then (n, NameKind.cell) else (n, k)).lookup x = some k -> k = .cell \/ k = .free -> l.lookup x = some .free
  | [], _, _, _, h, _ => by simp at h
  | (n, q) :: r, x, k, hc, h, hk => by
    have hr := fun y hy => hc y (zq21x _ hy)
    have ih := relabel_look (env := env) (l := r) (x := x) (k := k) hr
    rw [zq9x] at h
    dsimp only at h
    by_cases hx : (x == n) = true
    · simp only [zq38x, hx]
      by_cases hq : (q == NameKind.free && env.scope.kind == .function && env.kindOf n == some .cell) = true
      · have : q = .free := by
          simp only [zq23x] at hq
          simpa using hq.1.1
        rw [this]
      · rw [if_neg hq] at h
        simp only [zq38x, hx] at h
        have hqk : q = k := zq32x h
        rcases hk with e | e
        · exact absurd (hqk.trans e) (hc (n, q) zq27x)
        · rw [hqk, e]
    · have hx' : (x == n) = false := by simpa using hx
      simp only [zq38x, hx']
      refine ih ?_ hk
      by_cases hq : (q == NameKind.free && env.scope.kind == .function && env.kindOf n == some .cell) = true
      · rw [if_pos hq] at h
        simp only [zq38x, hx'] at h
        exact h
      · rw [if_neg hq] at h
        simp only [zq38x, hx'] at h
        exact h
theorem relabel_free {env : Env} : ∀ {l : List (Str × NameKind)} {x : Str}, l.lookup x = some .free ->
    (l.map fun (n, k) => if (k == NameKind.free && env.scope.kind == .function && env.kindOf n == some .cell) then (n, NameKind.cell) else (n, k)).lookup x = some .cell \/
    (l.map fun (n, k) => if (k == NameKind.free && env.scope.kind == .function && env.kindOf n == some .cell) then (n, NameKind.cell) else (n, k)).lookup x = some .free
  | [], _, h => by simp at h
  | (n, q) :: r, x, h => by
    have ih := relabel_free (env := env) (l := r) (x := x)
    rw [zq9x]
    dsimp only
    by_cases hx : (x == n) = true
    · simp only [zq38x, hx] at h
      by_cases hq : (q == NameKind.free && env.scope.kind == .function && env.kindOf n == some .cell) = true
      · rw [if_pos hq]
        left
        simp only [zq38x, hx]
      · rw [if_neg hq]
        right
        simp only [zq38x, hx]
        exact h
    · have hx' : (x == n) = false := by simpa using hx
      simp only [zq38x, hx'] at h
      have := ih h
      by_cases hq : (q == NameKind.free && env.scope.kind == .function && env.kindOf n == some .cell) = true
      · rw [if_pos hq]
        simp only [zq38x, hx']
        exact this
      · rw [if_neg hq]
        simp only [zq38x, hx']
        exact this
def compOkB (sx : Scope) (NX : List Str) (scope : Scope) (N : List Str) (mp : List (Option Nat)) : Bool :=
 (scope.kind == .function) && scope.names.all (fun y => y.2 != .cell) && scope.names.all (fun y => y.2 != .local || scope.names.lookup y.1 == some .local) &&
 scope.names.all (fun y => y.2 != .free || sx.names.lookup y.1 == some .cell || sx.names.lookup y.1 == some .free) && (mp.length == N.length) &&
 ((N.zip mp).all fun p => match p.2 with | none => true | some j => NX[j]? == some p.1 && scope.names.lookup p.1 == some .free)
structure CompOk (sx : Scope) (NX : List Str) (scope : Scope) (N : List Str) (mp : List (Option Nat)) : Prop where
 kind : scope.kind = .function
 cell : ∀ y ∈ scope.names, y.2 ≠ .cell
 names : ∀ y ∈ scope.names, y.2 = .local -> scope.names.lookup y.1 = some .local
 free : ∀ y ∈ scope.names, y.2 = .free -> sx.names.lookup y.1 = some .cell \/ sx.names.lookup y.1 = some .free
 len : mp.length = N.length
 look : ∀ (i j : Nat) (x : Str), mp[i]? = some (some j) -> N[i]? = some x -> NX[j]? = some x /\ scope.names.lookup x = some .free
theorem CompOk.of {sx : Scope} {NX : List Str} {scope : Scope} {N : List Str} {mp : List (Option Nat)} (h : compOkB sx NX scope N mp = true) : CompOk sx NX scope N mp := by
 unfold compOkB at h
 simp only [zq23x, zq90x] at h
 obtain ⟨⟨⟨⟨⟨h1, h2⟩, h3⟩, h4⟩, h5⟩, h6⟩ := h
 refine ⟨by simpa using h1, fun y hy => by simpa using h2 y hy, fun y hy e => ?_, fun y hy e => ?_, by simpa using h5, fun i j x e1 e2 => ?_⟩
 ·have := h3 y hy
  simpa [e] using this
 ·have := h4 y hy
  simpa [e] using this
 ·have hm : (x, some j) ∈ N.zip mp := by
   have : (N.zip mp)[i]? = some (x, some j) := by
    rw [List.getElem?_zip_eq_some]; exact ⟨e2, e1⟩
   exact zq4x this
  have := h6 _ hm
  simpa using this
def startC (mp : List (Option Nat)) (σ : St) : St := mp.map fun o => match o with | none => none | some j => match σ[j]? with | some v => v | none => none
def compX (X : Cx) (scope : Scope) (C : Addr) (N : List Str) (s₀ : Shared) (H₀ : Hp) (fp : List Addr) : Cx :=
 { X with N := N, s₀ := s₀, H₀ := H₀, env := compEnvC scope (clOf X.env.cells scope.names []) C X.env, outer := X.stack, ex := fp, fn := fun _ => false, pn := [], xe := fun _ _ => False }
def PTs (X : Cx) (ifs : List Expr) (t : TT) : Prop :=
 ∀ (pins : List (Addr × Obj)) (s : Shared) (σ : St) (H : Hp) (Q : Bool -> Hp -> Prop), Inv X pins σ H s -> t σ H Q ->
  wpAny (model X.prog X.w) X.A (forIn ifs true fun c r => if r = true then do let ok <- isTrue c X.env (eval c X.env); pure (ForInStep.yield ok) else pure (ForInStep.yield r)) (TP X pins σ Q) X.xe s
def tNoTest : TT := fun _ H Q => Q true H
theorem pts_nil {X : Cx} : PTs X [] tNoTest := fun pins s σ H Q I h => wpAny_tests_nil ⟨H, I, h⟩
theorem pts_one {X : Cx} {c : Expr} {t : TT} (h : PT X c t) : PTs X [c] t := fun pins s σ H Q I q => wpAny_tests_one (h pins s σ H Q I q)
def CompW (J : It) (g : TG) (tc : TT) (te : TE) (acc : Addr) (Qe : Hp -> Prop) (σ : St) (H : Hp) : Prop := ∃ W : Nat -> Nat -> St -> Hp -> Prop, (∃ m, W 0 m σ H) /\ ∀ i m σ H, W i m σ H ->
 (J.stop i H /\ Qe H) \/ (J.go i H /\ ∃ Nx : St -> Hp -> Prop, (∀ σ' H', Nx σ' H' -> ∃ m', m' < m /\ W (i + 1) m' σ' H') /\ ∀ x H', J.yld i H x H' -> g x σ H' fun σ2 H2 => tc σ2 H2 fun b H3 =>
  if b = true then te σ2 H3 fun v H4 => ∃ ys, H4 acc = some (.lst ys) /\ ys.length < sizeLine /\ Nx σ2 (upd H4 acc (.lst (ys ++ [v]))) else Nx σ2 H3)
def tComp (wi : TI) (g : TG) (tc : TT) (te : TE) (mp : List (Option Nat)) : TE := fun σ H Q => wi σ H fun J H1 => ∀ acc, H1 acc = none -> CompW J g tc te acc (fun H' => Q (.ref acc) H') (startC mp σ) (upd H1 acc (.lst []))
section
variable {prog : Program} {w : World} {A : Around} {R : Result -> Shared -> Prop} {s : Shared}
theorem codeAny_compLoop_own {elt target iter : Expr} {ifs : List Expr} {scope : Scope} {pos : Pos} {it acc : Value} {env : Env} (I : Nat -> Shared -> Prop)
    (turn : ∀ n s, I n s -> wpAny (model prog w) A (pyNext it) (fun r s₁ => match r with
      | none => R (.ok .next) s₁
      | some v => wpAny (model prog w) A (letOwnedTupleGo target it v) (fun _ s₀ => wpAny (model prog w) A (assign target env v) (fun _ s₂ =>
          wpAny (model prog w) A (forIn ifs true fun c r => if r = true then do let ok <- isTrue c env (eval c env); pure (ForInStep.yield ok) else pure (ForInStep.yield r)) (fun ok s₃ =>
            if ok = true then wpAny (model prog w) A (eval elt env) (fun x s₄ =>
              wpAny (model prog w) A (call (.builtin "list.append") [acc, x]) (fun _ s₅ => ∃ m, m < n /\ I m s₅) (fun _ _ => False) s₄) (fun _ _ => False) s₃
            else ∃ m, m < n /\ I m s₃) (fun _ _ => False) s₂) (fun _ _ => False) s₀) (fun _ _ => False) s₁) (fun _ _ => False) s)
    (n : Nat) (h : I n s) :
    codeAny (model prog w) A (.compLoop (.ListComp elt [⟨target, iter, ifs, 0⟩] scope pos) 0 it acc env) R s := by
  refine codeAny_loop rfl I (fun n s hI => ?_) n h
  show wpAny _ A ((compTurn (.ListComp elt [⟨target, iter, ifs, 0⟩] scope pos) 0 it acc env).onRaise (fun x => do noteFrame x env; theTreesLotGoes x)) _ _ s
  refine wpAny_noted ?_
  rw [compTurn_list]
  refine wpAny_bind (wpAny_standAt (wpAny_bind (wpAny_mono (turn n s hI) (fun r s₁ h₁ => ?_) fun _ _ h' => h'.elim)))
  cases r with
  | none => exact wpAny_pure h₁
  | some v =>
    refine wpAny_bind (wpAny_mono h₁ (fun _ s₀ h₀ => ?_) fun _ _ h' => h'.elim)
    refine wpAny_bind (wpAny_mono h₀ (fun _ s₂ h₂ => wpAny_bind (wpAny_mono h₂ (fun ok s₃ h₃ => ?_) fun _ _ h' => h'.elim)) fun _ _ h' => h'.elim)
    cases ok with
    | false => exact wpAny_pure ⟨rfl, h₃⟩
    | true =>
      exact wpAny_bind (wpAny_bind (wpAny_mono h₃ (fun x s₄ h₄ => wpAny_bind (wpAny_mono h₄ (fun _ s₅ h₅ => wpAny_pure (wpAny_pure ⟨rfl, h₅⟩)) fun _ _ h' => h'.elim)) fun _ _ h' => h'.elim))
end
section
variable {X : Cx}
theorem comp_core {elt iter tg : Expr} {ifs : List Expr} {scope : Scope} {pos pos' : Pos} {N : List Str} {mp : List (Option Nat)} {wi : TI} {g : TG} {tc : TT} {te : TE} {use : Option (Value -> Sem Unit)}
    {pins : List (Addr × Obj)} {s : Shared} {σ : St} {H : Hp} {Q : VK} {QQ : Value -> Shared -> Prop}
    (ok : CompOk X.env.scope X.N scope N mp) (hc : X.calm = true) (hi : PI X tg iter wi)
    (hb : ∀ C s₀ H₀ fp, PG (compX X scope C N s₀ H₀ fp) tg g /\ PTs (compX X scope C N s₀ H₀ fp) ifs tc /\ PE (compX X scope C N s₀ H₀ fp) elt te)
    (hs : ∀ x, foldedSetIterable iter X.env x = pure x) (I : Inv X pins σ H s) (h : tComp wi g tc te mp σ H Q)
    (fin : ∀ acc C H' s' m, Inv X pins σ H' s' -> FpOk X pins H' C -> s'.heap.Ns C m -> Q (.ref acc) H' -> compPost (model X.prog X.w) X.A X.xe use QQ (.ref acc) C (.ok .next) s') :
    wpAny (model X.prog X.w) X.A (comprehension (.ListComp elt [⟨tg, iter, ifs, 0⟩] scope pos) scope X.env pos' (newList []) false (eval iter X.env) use) QQ X.xe s := by
  have hfree : ∀ x ∈ scope.names, x.2 = .free -> ∃ a, X.env.cells.lookup x.1 = some a := fun x hx e => I.ok.has x.1 (ok.free x hx e)
  refine wpAny_comprehension_free (use := use) rfl hs (closureFor_eq hfree) ok.kind ok.names (thn (hi pins s σ H _ I h) fun v s1 h1 => thn h1 fun itv s2 h2 => ?_)
  obtain ⟨it, fp, tn, J, H2, e, I2, T, st2, f2, hW⟩ := h2
  subst e
  refine wpAny_newObj_type (wpAny_newFunctionEnv ok.cell (by intro y hy; simp at hy) (fun h₁ hns₁ hsb₁ => ?_) ok.kind)
  dsimp only at hns₁ hsb₁ ⊢
  have I3 := I2.lnew (its := []) (ys := []) (t' := s2.toks) .nil (zq43x _)
  have hW := hW s2.heap.objs.size I2.fresh
  obtain ⟨W, ⟨m0, w0⟩, turn⟩ := hW
  generalize hHP : s2.heap.push { cls := .type "list", dict := none, data := .seq ([] : List Value).toArray } = HP at hns₁ hsb₁ ⊢
  have I3 : Inv X pins σ (upd H2 s2.heap.objs.size (.lst [])) { s2 with heap := HP } := by rw [<- hHP]; exact I3
  generalize hH3 : upd H2 s2.heap.objs.size (.lst []) = H3 at I3 w0
  have hC : HP.objs.size = s2.heap.objs.size + 1 := by rw [<- hHP, Heap.size_push]
  have old : ∀ b o, HP.get? b = some o -> h₁.get? b = some o := fun b o e => hsb₁.extBut b o (zq47x (zq14x e)) (zq49x _ e)
  have flt : ∀ b ∈ fp, b < s2.heap.objs.size := fun b hb => by
    obtain ⟨o, e, _⟩ := T.obj 0 _ st2 b hb
    exact zq14x e
  have fH3 : ∀ b ∈ fp, H3 b = none := fun b hb => by
    rw [<- hH3, upd_ne (zq47x (flt b hb))]
    exact (f2 b hb).1
  have clsub : ∀ {x : Str} {c : Addr}, (clOf X.env.cells scope.names []).lookup x = some c -> X.env.cells.lookup x = some c := fun {x c} e => clOf_sub (fun y d q => by simp at q) e
  have yok : (compX X scope HP.objs.size N { s2 with heap := HP } H3 fp).Ok := by
    refine ⟨I2.ok.mod, ok.kind, I2.ok.glob, I2.ok.blt, zq5x _, fun x y c e1 e2 => I2.ok.inj x y c (clsub e1) (clsub e2), fun x hx => ?_, (fun x c e => absurd (show false = true from e) (by decide)), I2.ok.hd, I2.ok.frames, .inl rfl, fun b hb => ?_, I3.bs, zq31x I3.ok.bsz I3.sz, fun b o e hb => ?_, fun b hb hz => ?_, I3.stack, I3.stkFree⟩
    · have hx' : scope.names.lookup x = some .free := by
        rcases hx with hx | hx
        · exact relabel_look ok.cell hx (.inl rfl)
        · exact relabel_look ok.cell hx (.inr rfl)
      have hm := zq78x hx'
      obtain ⟨a, ha⟩ := hfree _ hm rfl
      exact ⟨a, clOf_look hm ha⟩
    · refine ⟨fun z => ?_, fun x c e => (f2 b hb).2.2.2.2.1 x c (clsub e)⟩
      have z' : b = HP.objs.size := z
      have q := flt b hb
      rw [z', hC] at q
      exact absurd q (Nat.not_lt.mpr (zq113x _))
    · rcases (f2 b hb).2.2.2.1 with z | z
      · exact I2.ok.noex b o e z
      · exact absurd (zq26x (zq14x (I2.ok.bs b o e).1) z) (zq64x _)
    · rcases zq3x.mp (I2.stkSub b hz) with z | z
      · exact (f2 b hb).2.1 z
      · exact (f2 b hb).2.2.1 z
  have IY : Inv (compX X scope HP.objs.size N { s2 with heap := HP } H3 fp) [] (startC mp σ) H3 { s2 with heap := h₁, toks := s2.toks + ([] : List (Str × Value)).length } := by
    refine ⟨yok, rfl, I2.bare, Un.kept old, ⟨_, hns₁, fun i x v e1 e2 e3 => ?_⟩, fun x c e => ?_, I3.hok.fresh (zq5x _), fun x c e => I3.freeC x c (clsub e), fun p hp => absurd (show p ∈ ([] : List (Addr × Obj)) from hp) (by simp), I3.hok.kept old, ?_⟩
    · have hj : ∃ j, mp[i]? = some (some j) /\ σ[j]? = some (some v) := by
        unfold startC at e2
        rw [zq10x] at e2
        cases q : mp[i]? with
        | none => rw [q] at e2; cases e2
        | some o =>
          rw [q] at e2
          cases o with
          | none => cases e2
          | some j =>
            refine ⟨j, rfl, ?_⟩
            have e2 : (match σ[j]? with | some v => v | none => none) = some v := zq32x e2
            cases r : σ[j]? with
            | none => rw [r] at e2; cases e2
            | some u =>
              rw [r] at e2
              have e2 : u = some v := e2
              rw [e2]
      obtain ⟨j, hj1, hj2⟩ := hj
      obtain ⟨l1, l2⟩ := ok.look i j x hj1 e1
      have hm := zq78x l2
      have kx := ok.free _ hm rfl
      obtain ⟨mm, _, hl⟩ := I3.loc
      obtain ⟨u, ru, lk⟩ := hl j x v l1 hj2 (kx.elim (fun z => .inr (.inl z)) fun z => .inr (.inr z))
      refine ⟨u, ru, .inr ⟨relabel_free l2, ?_⟩⟩
      rcases lk with ⟨k, _⟩ | ⟨_, c, e, z⟩
      · exfalso
        have k' : X.env.scope.names.lookup x = some .local := k
        rcases kx with kx | kx
        · rw [k'] at kx; cases kx
        · rw [k'] at kx; cases kx
      · refine ⟨c, clOf_look hm e, ?_⟩
        obtain ⟨o, ho, hd⟩ := z
        exact ⟨o, old c o ho, hd⟩
    · obtain ⟨v, o, ho, hd⟩ := I3.cell x c (clsub e)
      exact ⟨v, o, old c o ho, hd⟩
    · show (startC mp σ).length = N.length
      unfold startC
      rw [zq0x, ok.len]
  have stat : ∀ {H' : Hp}, (∀ b ∈ fp, H' b = none) -> ∀ b ∈ fp, FpOk (compX X scope HP.objs.size N { s2 with heap := HP } H3 fp) [] H' b := fun {H'} hn b hb =>
    ⟨hn b hb, (yok.exf b hb).1, yok.exfs b hb, .inl hb, (yok.exf b hb).2, fun p hp => absurd (show p ∈ ([] : List (Addr × Obj)) from hp) (by simp)⟩
  have stY : tn 0 h₁ := T.keep 0 _ _ st2 fun b hb o e => old b o (by rw [<- hHP]; exact zq49x _ e)
  have loop : codeAny (model X.prog X.w) X.A (.compLoop (.ListComp elt [⟨tg, iter, ifs, 0⟩] scope pos) 0 (.ref it) (.ref s2.heap.objs.size) (compEnvC scope (clOf X.env.cells scope.names []) HP.objs.size X.env))
      (compPost (model X.prog X.w) X.A X.xe use QQ (.ref s2.heap.objs.size) HP.objs.size) { s2 with heap := h₁, toks := s2.toks + ([] : List (Str × Value)).length } := by
    obtain ⟨hg, ht, he⟩ := hb HP.objs.size { s2 with heap := HP } H3 fp
    generalize hY : compX X scope HP.objs.size N { s2 with heap := HP } H3 fp = Y at hg ht he IY stat
    have yp : Y.prog = X.prog := by rw [<- hY]; rfl
    have yw : Y.w = X.w := by rw [<- hY]; rfl
    have yK : Y.K = X.K := by rw [<- hY]; rfl
    have yA : Y.A = X.A := by rw [<- hY]; rfl
    have yc : Y.calm = true := by rw [<- hY]; exact hc
    have yx : Y.xe = fun _ _ => False := by rw [<- hY]; rfl
    have yenv : Y.env = compEnvC scope (clOf X.env.cells scope.names []) HP.objs.size X.env := by rw [<- hY]; rfl
    rw [<- yenv]
    refine codeAny_compLoop_own (fun n s' => ∃ i σ' H', Inv Y [] σ' H' s' /\ tn i s'.heap /\ (∀ b ∈ fp, H' b = none) /\ W i n σ' H') ?_ m0 ⟨0, _, H3, IY, stY, fH3, w0⟩
    rintro n s3 ⟨i, σ3, H4, I4, st3, fr3, w3⟩
    rcases turn i n σ3 H4 w3 with ⟨stop, qn⟩ | ⟨go, Nx, hN, step⟩
    · have q0 := T.done Y yp yw yK yc i [] s3 σ3 H4 (fun _ _ => False) I4 (stat fr3) st3 stop
      rw [yA] at q0
      refine thn q0 fun r s4 ⟨hr, I5⟩ => ?_
      subst hr
      show compPost (model X.prog X.w) X.A X.xe use QQ (.ref s2.heap.objs.size) HP.objs.size (.ok .next) s4
      obtain ⟨m, hm, _⟩ := id I5.loc
      have yl : Y.env.locals = HP.objs.size := by rw [yenv]; rfl
      rw [yl] at hm
      have fC : H4 HP.objs.size = none := by have := I5.free; rw [yl] at this; exact this
      have ub := I5.base
      have ub' : Un (frs X.stack) fp H3 H4 HP s4.heap := by rw [<- hY] at ub; exact ub
      have hos : s4.os = s2.os := by have := I5.os; rw [<- hY] at this; exact this
      have hok5 : HOk X.prog X.w H4 s4.heap := by have := I5.hok; rw [yp, yw] at this; exact this
      have IX : Inv X pins σ H4 s4 := I3.call' (ch := fp) hos ub' hok5 I5.bare fun b hb => ⟨(f2 b hb).2.2.2.1, (f2 b hb).2.1, (f2 b hb).2.2.2.2.1, (f2 b hb).2.2.2.2.2⟩
      exact fin _ _ H4 s4 m IX (I3.fpOk (zq5x _) fC) hm qn
    · have q0 := T.item Y yp yw yK yc i [] s3 σ3 H4 (fun _ _ => False) I4 (stat fr3) st3 go
      rw [yA] at q0
      refine thn q0 fun r s4 ⟨u, hr, h4⟩ => ?_
      subst hr
      refine thn h4 fun _ s5 ⟨x, H5, I5, r5, y5, st5, fr5⟩ => ?_
      have I5' := I5.pinned (stat fr5) (T.obj _ _ st5)
      rw [<- yx, <- yp, <- yw, <- yA]
      refine thn (hg _ s5 σ3 H5 x u _ I5' r5 (step x H5 y5)) fun _ s6 ⟨σ6, H6, I6, q6⟩ => ?_
      refine thn (ht _ s6 σ6 H6 _ I6 q6) fun b s7 ⟨H7, I7, q7⟩ => ?_
      have again : ∀ {σ8 : St} {H8 : Hp} {s8 : Shared}, Inv Y ([] ++ pinsAt fp s5.heap) σ8 H8 s8 -> Nx σ8 H8 -> ∃ m, m < n /\ ∃ i σ' H', Inv Y [] σ' H' s8 /\ tn i s8.heap /\ (∀ b ∈ fp, H' b = none) /\ W i m σ' H' := fun {σ8 H8 s8} I8 n8 => by
        obtain ⟨m', hm, w8⟩ := hN σ8 H8 n8
        refine ⟨m', hm, i + 1, σ8, H8, I8.unpinned, T.keep _ _ _ st5 fun b hb o e => (I8.pin (b, o) (zq33x _ (zq33x _ (mem_pinsAt hb e)))).1, fun b hb => ?_, w8⟩
        obtain ⟨o, e, d⟩ := T.obj _ _ st5 b hb
        exact (I8.pin (b, o) (zq33x _ (zq33x _ (mem_pinsAt hb e)))).2.1
      cases b with
      | false =>
        rw [if_neg zq15x]
        rw [if_neg zq15x] at q7
        exact again I7 q7
      | true =>
        rw [if_pos rfl]
        rw [if_pos rfl] at q7
        refine thn (he _ s7 σ6 H7 _ I7 q7) fun v s8 ⟨y, H8, I8, r8, ys, e8, z8, n8⟩ => ?_
        refine thn (mt_append _ s8 σ6 H8 (.ref s2.heap.objs.size) [y] (.ref s2.heap.objs.size) [v] (fun _ H9 => H9 = upd H8 s2.heap.objs.size (.lst (ys ++ [y]))) I8 rfl (.cons r8 .nil) ⟨_, ys, y, rfl, rfl, e8, z8, rfl⟩) fun v9 s9 ⟨y9, H9, I9, r9, e9⟩ => ?_
        subst e9
        exact again I9 n8
  refine codeAny_compStart_list loop (T.self _ _ _ _ _ stY loop)
theorem FpOk.turned {pins : List (Addr × Obj)} {s : Shared} {σ : St} {H : Hp} {C : Addr} {h' : Heap} (I : Inv X pins σ H s) (f : FpOk X pins H C) (hs : Heap.SameBut C s.heap h') : Inv X pins σ H { s with heap := h' } :=
 I.turned (t' := s.toks) (fun b o hb e => (hs.2 b hb).trans e) f.1 f.2.1 f.2.2.2.1 f.2.2.2.2.1 f.2.2.2.2.2
theorem pe_lcomp {elt iter tg : Expr} {ifs : List Expr} {scope : Scope} {pos : Pos} {N : List Str} {mp : List (Option Nat)} {wi : TI} {g : TG} {tc : TT} {te : TE}
  (ok : CompOk X.env.scope X.N scope N mp) (hi : PI X tg iter wi)
  (hb : ∀ C s₀ H₀ fp, PG (compX X scope C N s₀ H₀ fp) tg g /\ PTs (compX X scope C N s₀ H₀ fp) ifs tc /\ PE (compX X scope C N s₀ H₀ fp) elt te) (hc : X.calm = true := by rfl)
  (hs : ∀ x, foldedSetIterable iter X.env x = pure x := by intro _; rfl) : PE X (.ListComp elt [⟨tg, iter, ifs, 0⟩] scope pos) (tComp wi g tc te mp) := by
 intro pins s σ H Q I h
 rw [eval_ListComp]
 refine comp_core (use := none) ok hc hi hb hs I h fun acc C H' s' m I' f hn q => ?_
 exact ⟨m, hn, fun h' hs' => ⟨.ref acc, H', f.turned I' hs', rfl, q⟩⟩
def tSetC (i : Nat) (t : TE) : TS := fun D σ H => t σ H fun v H' => D.nx (σ.set i (some v)) H'
theorem ps_setC {elt iter tg : Expr} {ifs : List Expr} {scope : Scope} {pos spos py : Pos} {N : List Str} {mp : List (Option Nat)} {wi : TI} {g : TG} {tc : TT} {te : TE} {i : Nat} {y : Str}
  (hN : X.N.Nodup) (hy : X.N[i]? = some y) (hk : X.env.kindOf y = some .local)
  (ok : CompOk X.env.scope X.N scope N mp) (hi : PI X tg iter wi)
  (hb : ∀ C s₀ H₀ fp, PG (compX X scope C N s₀ H₀ fp) tg g /\ PTs (compX X scope C N s₀ H₀ fp) ifs tc /\ PE (compX X scope C N s₀ H₀ fp) elt te) (hc : X.calm = true := by rfl)
  (hsw : swapsWith (.ListComp elt [⟨tg, iter, ifs, 0⟩] scope pos) (some (.Name y py)) spos.line X.env = pure true := by rfl)
  (hs : ∀ x, foldedSetIterable iter X.env x = pure x := by intro _; rfl) : PS X (.Assign [.Name y py] (.ListComp elt [⟨tg, iter, ifs, 0⟩] scope pos) spos) (tSetC i (tComp wi g tc te mp)) := by
 intro pins s σ H D I h
 rw [exec_Assign_Name_used _ _ _ _ hsw]
 refine wpAny_bind (wpAny_standAt (wpAny_bind ?_))
 show wpAny _ X.A (do let _ <- comprehension (.ListComp elt [⟨tg, iter, ifs, 0⟩] scope pos) scope X.env _ (newList []) false (eval iter X.env) (some (assign (.Name y py) X.env))) _ _ s
 refine wpAny_bind (wpAny_mono (comp_core (use := some (assign (.Name y py) X.env)) (QQ := fun _ s' => SP X pins D .next s') ok hc hi hb hs I h fun acc C H' s' m I' f hn q => ?_) (fun _ s' hq => wpAny_pure (wpAny_pure hq)) fun _ _ e => e)
 refine wpAny_assign_Name (store_ok2 (v := .ref acc) I' hN hy (.inl hk) rfl (fun s2 I2 ⟨a, sb, ha⟩ => ?_) (.inr hk))
 have hne : C ≠ a := by
  rcases ha with z | z
  ·rw [z]; exact f.2.1
  ·exact fun e => f.2.2.2.2.1 y a z e.symm
 exact ⟨m, hn.sameBut sb hne, fun h' hs' => ⟨_, H', f.turned I2 hs', q⟩⟩
end
def Sm (i : Int) : Prop := -(2 ^ 300) < i /\ i < 2 ^ 300
theorem sm_bits {i : Int} (h : Sm i) : Builtin.Int.intBits i <= 2 ^ 20 := by
 obtain ⟨h1, h2⟩ := h
 unfold Builtin.Int.intBits
 split
 ·exact zq43x _
 ·rename_i h0
  have hn : i.natAbs ≠ 0 := by
   intro e
   apply h0
   simp
   omega
  have h3 : i.natAbs < 2 ^ 300 := by omega
  have h4 : i.natAbs.log2 < 300 := (Nat.log2_lt hn).mpr h3
  have : (2 : Nat) ^ 20 = 1048576 := by decide
  omega
theorem sm_pylong {x y : Int} (h : Sm y) : Builtin.divisionGoesByPylong x y = false := by
 refine PyProof.noPylong_of_log2 ?_
 obtain ⟨h1, h2⟩ := h
 by_cases h0 : y.natAbs = 0
 ·rw [h0]; decide +kernel
 ·have h3 : y.natAbs < 2 ^ 300 := by omega
  have h4 : y.natAbs.log2 < 300 := (Nat.log2_lt h0).mpr h3
  omega
section
variable {X : Cx}
theorem op_fdivS : OpR X (binaryOp .FloorDiv) (rI (fun _ j => 0 < j /\ Sm j) fun i j => .int (i / j)) := opI fun i j _ _ _ _ _ hc q =>
 floordiv_int (by omega) (by rw [Int.fdiv_eq_ediv_of_nonneg _ (by omega)]; exact q) (.inl (sm_pylong hc.2))
theorem mt_bits : MtR X "int.bit_length" (fun x xs H Q => ∃ i, x = .int i /\ xs = [] /\ Q (.int (Builtin.Int.intBits i)) H) := by
 intro pins s σ H x xs v us Q I rx rv h
 obtain ⟨i, rfl, rfl, q⟩ := h
 obtain ⟨t, rfl⟩ := rx
 cases rv
 exact call_int_bit_length ⟨.int _, H, I.tok _, ⟨_, rfl⟩, q⟩
def rIsi (K : PySem.W.Frag) : List V -> Hp -> VK -> Prop := fun xs H Q => ∃ x T t b, xs = [x, .ty T] /\ TyOf K H x t /\ PySem.W.kitOne K t (.type T) = some b /\ Q (.bl b) H
theorem call_isi : CallR X (.builtin "isinstance") (rIsi X.K) := by
 intro pins s σ H xs us Q I rv h
 obtain ⟨x, T, t, b, rfl, ty, e, q⟩ := h
 obtain ⟨u, v, rfl, ru, rv⟩ := rv.two
 cases (show v = Value.type T from rv)
 exact isinst_ok I ru ty e fun tk => ⟨.bl b, H, I.tok tk, rfl, q⟩
def KeyD : PyData -> Key -> Prop
 | .int i, k => k = .inl i
 | .str x, k => k = .inr x
 | _, _ => False
mutual
def IsD (nb : Addr -> Prop) (H : Hp) : PyData -> V -> Prop
 | .none, v => v = .non
 | .bool b, v => v = .bl b
 | .int i, v => v = .int i
 | .str x, v => v = .str x
 | .list ds, v => ∃ a xs, v = .ref a /\ ¬ nb a /\ H a = some (.lst xs) /\ IsDs nb H ds xs
 | .tuple ds, v => ∃ a xs, v = .ref a /\ ¬ nb a /\ H a = some (.tup xs) /\ IsDs nb H ds xs
 | .dict kvs, v => ∃ a ps, v = .ref a /\ ¬ nb a /\ Rd H a (.dK ps) /\ IsKs nb H kvs ps
termination_by structural d => d
def IsDs (nb : Addr -> Prop) (H : Hp) : List PyData -> List V -> Prop
 | [], xs => xs = []
 | d :: ds, xs => ∃ y ys, xs = y :: ys /\ IsD nb H d y /\ IsDs nb H ds ys
termination_by structural d => d
def IsKs (nb : Addr -> Prop) (H : Hp) : List (PyData × PyData) -> List (Key × V) -> Prop
 | [], xs => xs = []
 | d :: ds, xs => ∃ p ys, xs = p :: ys /\ IsK nb H d p /\ IsKs nb H ds ys
termination_by structural d => d
def IsK (nb : Addr -> Prop) (H : Hp) : PyData × PyData -> Key × V -> Prop
 | (k, d), p => KeyD k p.1 /\ IsD nb H d p.2
termination_by structural d => d
end
def But (nb : Addr -> Prop) (H H' : Hp) : Prop := ∀ a o, ¬ nb a -> H a = some o -> H' a = some o
def Nb (b : Addr) : Addr -> Prop := fun a => a = b
section
variable {nb nb' : Addr -> Prop} {H H1 H2 H' : Hp} {a b c p : Addr} {o : HO} {xs : List V}
theorem But.refl (nb : Addr -> Prop) (H : Hp) : But nb H H := fun _ _ _ h => h
theorem But.trans (x : But nb H H1) (y : But nb H1 H2) : But nb H H2 := fun a o n h => y a o n (x a o n h)
theorem But.of (x : Same H H') : But nb H H' := fun a o _ h => x a o h
theorem But.set (h : nb p) : But nb H (upd H p o) := fun a u n q => by rw [upd_ne (fun e => n (by rw [e]; exact h))]; exact q
theorem But.rd {u : HO} (x : But nb H H') (n : ¬ nb a) (h : Rd H a u) : Rd H' a u := by
 rcases h with h | ⟨o, h⟩
 ·exact .inl (x _ _ n h)
 ·exact .inr ⟨o, x _ _ n h⟩
end
mutual
theorem IsD.keep {nb : Addr -> Prop} {H H' : Hp} (x : But nb H H') : ∀ {d : PyData} {v : V}, IsD nb H d v -> IsD nb H' d v
 | .none, _, h => by unfold IsD at h ⊢; exact h
 | .bool _, _, h => by unfold IsD at h ⊢; exact h
 | .int _, _, h => by unfold IsD at h ⊢; exact h
 | .str _, _, h => by unfold IsD at h ⊢; exact h
 | .list ds, _, h => by unfold IsD at h ⊢; obtain ⟨a, xs, e, n, s, r⟩ := h; exact ⟨a, xs, e, n, x _ _ n s, IsDs.keep x r⟩
 | .tuple ds, _, h => by unfold IsD at h ⊢; obtain ⟨a, xs, e, n, s, r⟩ := h; exact ⟨a, xs, e, n, x _ _ n s, IsDs.keep x r⟩
 | .dict kvs, _, h => by unfold IsD at h ⊢; obtain ⟨a, xs, e, n, s, r⟩ := h; exact ⟨a, xs, e, n, x.rd n s, IsKs.keep x r⟩
theorem IsDs.keep {nb : Addr -> Prop} {H H' : Hp} (x : But nb H H') : ∀ {ds : List PyData} {vs : List V}, IsDs nb H ds vs -> IsDs nb H' ds vs
 | [], _, h => by unfold IsDs at h ⊢; exact h
 | d :: ds, _, h => by unfold IsDs at h ⊢; obtain ⟨y, ys, e, h1, h2⟩ := h; exact ⟨y, ys, e, IsD.keep x h1, IsDs.keep x h2⟩
theorem IsKs.keep {nb : Addr -> Prop} {H H' : Hp} (x : But nb H H') : ∀ {ds : List (PyData × PyData)} {vs : List (Key × V)}, IsKs nb H ds vs -> IsKs nb H' ds vs
 | [], _, h => by unfold IsKs at h ⊢; exact h
 | d :: ds, _, h => by unfold IsKs at h ⊢; obtain ⟨y, ys, e, h1, h2⟩ := h; exact ⟨y, ys, e, IsK.keep x h1, IsKs.keep x h2⟩
theorem IsK.keep {nb : Addr -> Prop} {H H' : Hp} (x : But nb H H') : ∀ {d : PyData × PyData} {v : Key × V}, IsK nb H d v -> IsK nb H' d v
 | (k, d), _, h => by unfold IsK at h ⊢; exact ⟨h.1, IsD.keep x h.2⟩
end
mutual
theorem IsD.av {nb nb' : Addr -> Prop} {H : Hp} (x : ∀ a, nb' a -> nb a) : ∀ {d : PyData} {v : V}, IsD nb H d v -> IsD nb' H d v
 | .none, _, h => by unfold IsD at h ⊢; exact h
 | .bool _, _, h => by unfold IsD at h ⊢; exact h
 | .int _, _, h => by unfold IsD at h ⊢; exact h
 | .str _, _, h => by unfold IsD at h ⊢; exact h
 | .list ds, _, h => by unfold IsD at h ⊢; obtain ⟨a, xs, e, n, s, r⟩ := h; exact ⟨a, xs, e, fun z => n (x a z), s, IsDs.av x r⟩
 | .tuple ds, _, h => by unfold IsD at h ⊢; obtain ⟨a, xs, e, n, s, r⟩ := h; exact ⟨a, xs, e, fun z => n (x a z), s, IsDs.av x r⟩
 | .dict kvs, _, h => by unfold IsD at h ⊢; obtain ⟨a, xs, e, n, s, r⟩ := h; exact ⟨a, xs, e, fun z => n (x a z), s, IsKs.av x r⟩
theorem IsDs.av {nb nb' : Addr -> Prop} {H : Hp} (x : ∀ a, nb' a -> nb a) : ∀ {ds : List PyData} {vs : List V}, IsDs nb H ds vs -> IsDs nb' H ds vs
 | [], _, h => by unfold IsDs at h ⊢; exact h
 | d :: ds, _, h => by unfold IsDs at h ⊢; obtain ⟨y, ys, e, h1, h2⟩ := h; exact ⟨y, ys, e, IsD.av x h1, IsDs.av x h2⟩
theorem IsKs.av {nb nb' : Addr -> Prop} {H : Hp} (x : ∀ a, nb' a -> nb a) : ∀ {ds : List (PyData × PyData)} {vs : List (Key × V)}, IsKs nb H ds vs -> IsKs nb' H ds vs
 | [], _, h => by unfold IsKs at h ⊢; exact h
 | d :: ds, _, h => by unfold IsKs at h ⊢; obtain ⟨y, ys, e, h1, h2⟩ := h; exact ⟨y, ys, e, IsK.av x h1, IsKs.av x h2⟩
theorem IsK.av {nb nb' : Addr -> Prop} {H : Hp} (x : ∀ a, nb' a -> nb a) : ∀ {d : PyData × PyData} {v : Key × V}, IsK nb H d v -> IsK nb' H d v
 | (k, d), _, h => by unfold IsK at h ⊢; exact ⟨h.1, IsD.av x h.2⟩
end
mutual
theorem IsD.fresh {nb : Addr -> Prop} {H : Hp} {p : Addr} (hp : H p = none) : ∀ {d : PyData} {v : V}, IsD nb H d v -> IsD (fun a => nb a \/ a = p) H d v
 | .none, _, h => by unfold IsD at h ⊢; exact h
 | .bool _, _, h => by unfold IsD at h ⊢; exact h
 | .int _, _, h => by unfold IsD at h ⊢; exact h
 | .str _, _, h => by unfold IsD at h ⊢; exact h
 | .list ds, _, h => by unfold IsD at h ⊢; obtain ⟨a, xs, e, n, s, r⟩ := h; exact ⟨a, xs, e, fun z => z.elim n (ne_of_none s hp), s, IsDs.fresh hp r⟩
 | .tuple ds, _, h => by unfold IsD at h ⊢; obtain ⟨a, xs, e, n, s, r⟩ := h; exact ⟨a, xs, e, fun z => z.elim n (ne_of_none s hp), s, IsDs.fresh hp r⟩
 | .dict kvs, _, h => by unfold IsD at h ⊢; obtain ⟨a, xs, e, n, s, r⟩ := h; exact ⟨a, xs, e, fun z => z.elim n (s.elim (fun s => ne_of_none s hp) fun ⟨_, s⟩ => ne_of_none s hp), s, IsKs.fresh hp r⟩
theorem IsDs.fresh {nb : Addr -> Prop} {H : Hp} {p : Addr} (hp : H p = none) : ∀ {ds : List PyData} {vs : List V}, IsDs nb H ds vs -> IsDs (fun a => nb a \/ a = p) H ds vs
 | [], _, h => by unfold IsDs at h ⊢; exact h
 | d :: ds, _, h => by unfold IsDs at h ⊢; obtain ⟨y, ys, e, h1, h2⟩ := h; exact ⟨y, ys, e, IsD.fresh hp h1, IsDs.fresh hp h2⟩
theorem IsKs.fresh {nb : Addr -> Prop} {H : Hp} {p : Addr} (hp : H p = none) : ∀ {ds : List (PyData × PyData)} {vs : List (Key × V)}, IsKs nb H ds vs -> IsKs (fun a => nb a \/ a = p) H ds vs
 | [], _, h => by unfold IsKs at h ⊢; exact h
 | d :: ds, _, h => by unfold IsKs at h ⊢; obtain ⟨y, ys, e, h1, h2⟩ := h; exact ⟨y, ys, e, IsK.fresh hp h1, IsKs.fresh hp h2⟩
theorem IsK.fresh {nb : Addr -> Prop} {H : Hp} {p : Addr} (hp : H p = none) : ∀ {d : PyData × PyData} {v : Key × V}, IsK nb H d v -> IsK (fun a => nb a \/ a = p) H d v
 | (k, d), _, h => by unfold IsK at h ⊢; exact ⟨h.1, IsD.fresh hp h.2⟩
end
mutual
theorem IsD.reads {pins : List (Addr × Obj)} {σ : St} {H : Hp} {s : Shared} {nb : Addr -> Prop} (I : Inv X pins σ H s) : ∀ {d : PyData} {v : V} {u : Value}, IsD nb H d v -> RelV v u -> d.canLay0 = true -> ∃ as, Reads s.heap u d as
  | .none, _, _, h, r, _ => by unfold IsD at h; subst h; cases r; exact ⟨_, .none⟩
  | .bool _, _, _, h, r, _ => by unfold IsD at h; subst h; cases r; exact ⟨_, .bool _⟩
  | .int _, _, _, h, r, _ => by unfold IsD at h; subst h; obtain ⟨t, rfl⟩ := r; exact ⟨_, .int _ _⟩
  | .str _, _, _, h, r, _ => by unfold IsD at h; subst h; obtain ⟨t, rfl⟩ := r; exact ⟨_, .str _ _⟩
  | .list ds, _, _, h, r, hc0 => by
    unfold IsD at h
    obtain ⟨a, xs, rfl, n, s, q⟩ := h
    cases r
    obtain ⟨its, rv, p, hz⟩ := I.list (SqL.of s)
    obtain ⟨as, ra⟩ := IsDs.reads I q rv (by simpa only [PyData.canLay0] using hc0)
    obtain ⟨o, ho, hc, m, hd⟩ := p.isList
    exact ⟨_, .list ho hc hd (by simpa using ra)⟩
  | .tuple ds, _, _, h, r, hc0 => by
    unfold IsD at h
    obtain ⟨a, xs, rfl, n, s, q⟩ := h
    cases r
    obtain ⟨its, rv, p, hz⟩ := I.tuple (SqT.of s)
    obtain ⟨as, ra⟩ := IsDs.reads I q rv (by simpa only [PyData.canLay0] using hc0)
    obtain ⟨o, ho, hc, m, hd⟩ := p
    exact ⟨_, .tuple ho hc hd (by simpa using ra)⟩
  | .dict _, _, _, h, r, hc0 => by simp [PyData.canLay0] at hc0
theorem IsDs.reads {pins : List (Addr × Obj)} {σ : St} {H : Hp} {s : Shared} {nb : Addr -> Prop} (I : Inv X pins σ H s) : ∀ {ds : List PyData} {vs : List V} {us : List Value}, IsDs nb H ds vs -> Vals vs us -> PyData.canLayAll0 ds = true -> ∃ as, ReadsAll s.heap us ds as
  | [], _, _, h, r, _ => by unfold IsDs at h; subst h; cases r; exact ⟨_, .nil⟩
  | d :: ds, _, _, h, r, hc0 => by
    rw [PyData.canLayAll0, zq23x] at hc0
    unfold IsDs at h
    obtain ⟨y, ys, rfl, h1, h2⟩ := h
    cases r with
    | cons r1 r2 =>
      obtain ⟨as, q1⟩ := IsD.reads I h1 r1 hc0.1
      obtain ⟨bs, q2⟩ := IsDs.reads I h2 r2 hc0.2
      exact ⟨_, .cons q1 q2⟩
end
def rEqD (neg : Bool) : R2 := fun x y H Q => ∃ nb d e, IsD nb H d x /\ IsD nb H e y /\ SeqAt.shaped d = true /\ SeqAt.shaped e = true /\ Q (.bl (PyData.eqv d e != neg)) H
theorem op_eqD (hu : X.A.units + 64 < cLine) : OpR X (compareOp .Eq) (rEqD false) := by
 intro pins s σ H x y v u Q I rx ry h
 obtain ⟨nb, d, e, h1, h2, h3, h4, q⟩ := h
 obtain ⟨as, r1⟩ := h1.reads I rx (zq81x h3)
 obtain ⟨bs, r2⟩ := h2.reads I ry (zq81x h4)
 exact eq_dataH r1 r2 h3 h4 hu ⟨.bl _, H, I, rfl, by simpa using q⟩
theorem op_neD (hu : X.A.units + 64 < cLine) : OpR X (compareOp .NotEq) (rEqD true) := by
 intro pins s σ H x y v u Q I rx ry h
 obtain ⟨nb, d, e, h1, h2, h3, h4, q⟩ := h
 obtain ⟨as, r1⟩ := h1.reads I rx (zq81x h3)
 obtain ⟨bs, r2⟩ := h2.reads I ry (zq81x h4)
 exact ne_dataH r1 r2 h3 h4 hu ⟨.bl _, H, I, rfl, by simpa using q⟩
end
mutual
theorem eqv_refl : ∀ d : PyData, SeqAt.shaped d = true \/ d.canLay0 = true -> PyData.eqv d d = true
  | .none, _ => by simp [PyData.eqv]
  | .bool _, _ => by simp [PyData.eqv]
  | .int _, _ => by simp [PyData.eqv]
  | .str _, _ => by simp [PyData.eqv]
  | .list ds, h => by
    have h' : PyData.canLayAll0 ds = true := by
      rcases h with h | h
      · have := zq81x h; simpa [PyData.canLay0] using this
      · simpa [PyData.canLay0] using h
    simp only [PyData.eqv]
    exact eqvAll_refl ds h'
  | .tuple ds, h => by
    have h' : PyData.canLayAll0 ds = true := by
      rcases h with h | h
      · have := zq81x h; simpa [PyData.canLay0] using this
      · simpa [PyData.canLay0] using h
    simp only [PyData.eqv]
    exact eqvAll_refl ds h'
  | .dict _, h => by
    rcases h with h | h
    · have := zq81x h; simp [PyData.canLay0] at this
    · simp [PyData.canLay0] at h
theorem eqvAll_refl : ∀ ds : List PyData, PyData.canLayAll0 ds = true -> PyData.eqvAll ds ds = true
  | [], _ => by simp [PyData.eqvAll]
  | d :: ds, h => by
    simp only [PyData.canLayAll0, zq23x] at h
    simp only [PyData.eqvAll, zq23x]
    exact ⟨eqv_refl d (.inr h.1), eqvAll_refl ds h.2⟩
end
structure Callee (P : Program) (w : World) (K : PySem.W.Frag) (mg : Str -> Option Value) (base : Heap) (x : Str) (k : Nat) (ps : List Str) (sp : Sp) : Prop where
 ex : ∃ f fd, FnOk P w K mg base CX0 k f fd ps sp /\ Binds K fd ps [] /\ PySem.W.keepIn K (.ref f) = true /\ mg x = some (.ref f)
theorem pe_callC {X : Cx} {x : Str} {k : Nat} {ps : List Str} {sp : Sp} {p pos : Pos} {e : Expr} {es : List Expr} {t : TA} (c : Callee X.prog X.w X.K X.mg X.base x k ps sp) (hr : Room k X.A) (ha : PA X (e :: es) t) (hg : Gl X x := by rfl)
  (hdb : (x == ("__debug__" : Str)) = false := by decide) (he : starEach (e :: es) X.env = (false, eval e X.env) :: starEach es X.env := by rfl) (hpl : (backTo pos (starEach es X.env)).any (·.1) = false := by rfl) :
  PE X (.Call (.Name x p) (e :: es) [] pos) (tCall sp [] E0 t) := by
 obtain ⟨f, fd, F, b, kp, m⟩ := c.ex
 exact pe_call F hr hg m kp b .nil pass0 ha hdb he hpl
theorem Callee.mk' {P : Program} {w : World} {K : PySem.W.Frag} {mg : Str -> Option Value} {base : Heap} {x : Str} {st : Stmt} {k : Nat} {ps : List Str} {sp : Sp} {f : Addr} {fd : FuncData} (F : Fun K x x st f fd) (ok : FnOk P w K mg base CX0 k f fd ps sp) (b : Binds K fd ps [])
  (m : mg x = some (.ref f)) : Callee P w K mg base x k ps sp := ⟨f, fd, ok, b, F.kp, m⟩
def DfAt (K : PySem.W.Frag) (x q : Str) (st : Stmt) (f : Addr) : Prop := PySem.W.nsIn K mainGlobals x = some (some (.ref f)) /\ ∃ fd, Fun K x q st f fd
theorem DfAt.mk {K : PySem.W.Frag} {x q : Str} {st : Stmt} {f : Addr} {oc : Value} {od an : Option Addr} {osl : Array (Option Value)} {kV doc pm cdv ct : Value} (a : PySem.W.nsIn K mainGlobals x = some (some (.ref f))) (l : K.lookup f = some ⟨oc, od, .func (PySem.W.fnOf x q (defArgs st) (defBody st) (defScope st) .none kV doc pm an cdv ct), osl⟩)
  (c : PySem.W.codeIn K cdv q = true) (k : PySem.W.keepIn K (.ref f) = true) : DfAt K x q st f := ⟨a, _, fun_mk l c k⟩
end L2
set_option maxRecDepth 100000
set_option maxHeartbeats 1000000
namespace L2
open PySem PySem.Spec PyProof.Rows
section
variable {X : Cx}
theorem op_mulA : OpR X (binaryOp .Mult) (rI (fun i j => CMul i j \/ (Sm i /\ Sm j)) fun i j => .int (i * j)) := opI fun _ _ _ _ _ _ _ hc q => mul_int q (by
 rcases hc with hc | hc
 ·exact hc.ok
 ·exact IntMulOk.of_bits (sm_bits hc.1) (sm_bits hc.2))
end
def BagAt (H : Hp) (b l : Addr) : Prop := ∃ (ns : List Int) (i c st n : Int), H b = some (.lst [.ref l, .int i, .int c, .int st, .int n]) /\ H l = some (.lst (ns.map V.int)) /\
 (∀ x ∈ ns, 0 <= x /\ x < 10 ^ 60) /\ ns.length <= 63 /\ 0 <= i /\ 0 <= c /\ c < 10 ^ 60 /\ 0 <= st /\ st < 2147483647
theorem bag_ne {H : Hp} {b l : Addr} {ns : List Int} {i c st n : V} (h : H b = some (.lst [.ref l, i, c, st, n])) (h' : H l = some (.lst (ns.map V.int))) : l ≠ b := by
 intro e
 subst e
 rw [h] at h'
 have e := HO.lst.inj (zq32x h')
 cases ns with
 | nil => cases e
 | cons x r => rw [zq9x] at e; cases (zq115x e).1
theorem BagAt.put {H : Hp} {b l : Addr} {ns : List Int} {i c st n : Int} (hl : l ≠ b) (h' : H l = some (.lst (ns.map V.int))) (h1 : ∀ x ∈ ns, 0 <= x /\ x < 10 ^ 60) (h2 : ns.length <= 63)
  (h3 : 0 <= i) (h4 : 0 <= c) (h5 : c < 10 ^ 60) (h6 : 0 <= st) (h7 : st < 2147483647) : BagAt (upd H b (.lst [.ref l, .int i, .int c, .int st, .int n])) b l :=
 ⟨ns, i, c, st, n, upd_same, by rw [upd_ne hl]; exact h', h1, h2, h3, h4, h5, h6, h7⟩
theorem BagAt.put2 {H : Hp} {b l p : Addr} {o : HO} (h : BagAt H b l) (hp : p ≠ b /\ p ≠ l) : BagAt (upd H p o) b l := by
 obtain ⟨ns, i, c, st, n, h1, h2, r⟩ := h
 exact ⟨ns, i, c, st, n, by rw [upd_ne (zq11x hp.1)]; exact h1, by rw [upd_ne (zq11x hp.2)]; exact h2, r⟩
theorem BagAt.same {H H' : Hp} {b l : Addr} (h : BagAt H b l) (s : Same H H') : BagAt H' b l := by
 obtain ⟨ns, i, c, st, n, h1, h2, r⟩ := h
 exact ⟨ns, i, c, st, n, s _ _ h1, s _ _ h2, r⟩
def spDraw : Sp := fun vs H Q _ => ∃ (b l : Addr) (many : Int), vs = [.ref b, .int many] /\ BagAt H b l /\ 0 < many /\ Sm many /\ ∀ (r : Int) (H' : Hp), 0 <= r -> r < many -> But (Nb b) H H' -> BagAt H' b l -> Q (.int r) H'
def spBag (K : PySem.W.Frag) : Sp := fun vs H Q _ => ∃ (a : Addr) (ns : List Int), vs = [.ref a] /\ SqL K H a (ns.map V.int) /\ ns.length <= 63 /\ ∀ (b l : Addr) (H' : Hp), Same H H' -> H b = none -> BagAt H' b l -> Q (.ref b) H'
theorem atI_some {α : Type} {xs : List α} {i : Int} {v : α} (h0 : 0 <= i) (h : xs[i.toNat]? = some v) : atI xs i = some v := by
 have e : i = ((i.toNat : Nat) : Int) := by omega
 rw [e]
 exact atI_nat h
theorem same_new {H : Hp} {p : Addr} {o : HO} (h : H p = none) : Same H (upd H p o) := fun b u q => by rw [upd_ne (ne_of_none q h)]; exact q
section
variable {nb : Addr -> Prop} {H H' : Hp}
theorem IsDs.length : ∀ {ds : List PyData} {xs : List V}, IsDs nb H ds xs -> xs.length = ds.length
 | [], _, h => by unfold IsDs at h; subst h; rfl
 | d :: ds, _, h => by unfold IsDs at h; obtain ⟨y, ys, rfl, _, h2⟩ := h; simp [IsDs.length h2]
theorem IsDs.get : ∀ {ds : List PyData} {xs : List V} {i : Nat} {d : PyData}, IsDs nb H ds xs -> ds[i]? = some d -> ∃ x, xs[i]? = some x /\ IsD nb H d x
 | [], _, _, _, _, e => by simp at e
 | d :: ds, _, 0, _, h, e => by unfold IsDs at h; obtain ⟨y, ys, rfl, h1, h2⟩ := h; simp at e; subst e; exact ⟨y, rfl, h1⟩
 | d :: ds, _, i + 1, _, h, e => by unfold IsDs at h; obtain ⟨y, ys, rfl, h1, h2⟩ := h; simpa using IsDs.get (i := i) h2 (by simpa using e)
theorem IsDs.snoc {d : PyData} {x : V} (hd : IsD nb H d x) : ∀ {ds : List PyData} {xs : List V}, IsDs nb H ds xs -> IsDs nb H (ds ++ [d]) (xs ++ [x])
 | [], _, h => by unfold IsDs at h; subst h; unfold IsDs; exact ⟨x, [], rfl, hd, by unfold IsDs; rfl⟩
 | e :: ds, _, h => by unfold IsDs at h; obtain ⟨y, ys, rfl, h1, h2⟩ := h; show IsDs nb H (e :: (ds ++ [d])) _; unfold IsDs; exact ⟨y, ys ++ [x], rfl, h1, IsDs.snoc hd h2⟩
theorem IsDs.append : ∀ {ds es : List PyData} {xs ys : List V}, IsDs nb H ds xs -> IsDs nb H es ys -> IsDs nb H (ds ++ es) (xs ++ ys)
 | [], _, _, _, h, h' => by unfold IsDs at h; subst h; exact h'
 | e :: ds, es, _, zs, h, h' => by unfold IsDs at h; obtain ⟨y, ys, rfl, h1, h2⟩ := h; show IsDs nb H (e :: (ds ++ es)) _; unfold IsDs; exact ⟨y, ys ++ zs, rfl, h1, IsDs.append h2 h'⟩
theorem IsDs.take : ∀ {ds : List PyData} {xs : List V} (n : Nat), IsDs nb H ds xs -> IsDs nb H (ds.take n) (xs.take n)
 | _, _, 0, _ => by simp only [List.take_zero]; unfold IsDs; rfl
 | [], _, n + 1, h => by unfold IsDs at h; subst h; simp only [List.take_nil]; unfold IsDs; rfl
 | d :: ds, _, n + 1, h => by unfold IsDs at h; obtain ⟨y, ys, rfl, h1, h2⟩ := h; simp only [List.take_succ_cons]; unfold IsDs; exact ⟨y, _, rfl, h1, IsDs.take n h2⟩
theorem IsDs.drop : ∀ {ds : List PyData} {xs : List V} (n : Nat), IsDs nb H ds xs -> IsDs nb H (ds.drop n) (xs.drop n)
 | _, _, 0, h => h
 | [], _, n + 1, h => by unfold IsDs at h; subst h; simp only [List.drop_nil]; unfold IsDs; rfl
 | d :: ds, _, n + 1, h => by unfold IsDs at h; obtain ⟨y, ys, rfl, h1, h2⟩ := h; simp only [List.drop_succ_cons]; exact IsDs.drop n h2
theorem IsDs.nil : IsDs nb H [] [] := by unfold IsDs; rfl
theorem IsDs.cons {d : PyData} {x : V} {ds : List PyData} {xs : List V} (h1 : IsD nb H d x) (h2 : IsDs nb H ds xs) : IsDs nb H (d :: ds) (x :: xs) := by unfold IsDs; exact ⟨x, xs, rfl, h1, h2⟩
theorem IsD.int (i : Int) : IsD nb H (.int i) (.int i) := by unfold IsD; rfl
theorem IsD.non : IsD nb H .none .non := by unfold IsD; rfl
theorem IsD.bl (b : Bool) : IsD nb H (.bool b) (.bl b) := by unfold IsD; rfl
theorem IsD.lst {a : Addr} {ds : List PyData} {xs : List V} (n : ¬ nb a) (h : H a = some (.lst xs)) (hd : IsDs nb H ds xs) : IsD nb H (.list ds) (.ref a) := by unfold IsD; exact ⟨a, xs, rfl, n, h, hd⟩
theorem IsD.tup {a : Addr} {ds : List PyData} {xs : List V} (n : ¬ nb a) (h : H a = some (.tup xs)) (hd : IsDs nb H ds xs) : IsD nb H (.tuple ds) (.ref a) := by unfold IsD; exact ⟨a, xs, rfl, n, h, hd⟩
theorem IsD.ofL {v : V} {ds : List PyData} (h : IsD nb H (.list ds) v) : ∃ a xs, v = .ref a /\ ¬ nb a /\ H a = some (.lst xs) /\ IsDs nb H ds xs := by unfold IsD at h; exact h
theorem IsD.ofT {v : V} {ds : List PyData} (h : IsD nb H (.tuple ds) v) : ∃ a xs, v = .ref a /\ ¬ nb a /\ H a = some (.tup xs) /\ IsDs nb H ds xs := by unfold IsD at h; exact h
theorem IsD.ofI {v : V} {i : Int} (h : IsD nb H (.int i) v) : v = .int i := by unfold IsD at h; exact h
theorem IsD.ofN {v : V} (h : IsD nb H .none v) : v = .non := by unfold IsD at h; exact h
end
def spWhole : Sp := fun vs H Q _ => ∃ i : Int, vs = [.int i] /\ Q (.bl true) H
def spLaw (K : PySem.W.Frag) : Sp := fun vs H Q _ => ∃ (a : Addr) (ns : List Int), vs = [.ref a] /\ SqL K H a (ns.map V.int) /\ ns.length <= 63 /\ ∀ H', Q (.bl true) H'
end L2
set_option maxRecDepth 100000
set_option maxHeartbeats 1000000
namespace L2
open PySem PySem.Spec PyProof.Rows
def mkL (Q : VK) : List V -> Hp -> Prop := fun xs H1 => xs.length <= sizeLine /\ ∀ p, H1 p = none -> Q (.ref p) (upd H1 p (.lst xs))
def rListOf (K : PySem.W.Frag) : List V -> Hp -> VK -> Prop := fun xs H Q => ∃ p ys, xs = [.ref p] /\ (SqL K H p ys \/ SqT K H p ys) /\ ∀ l, H l = none -> Q (.ref l) (upd H l (.lst ys))
theorem call_listM {X : Cx} : CallR X (.type "list") (rListOf X.K) := call_list_of
def rIs : R2 := fun x y H Q => y = .non /\ Q (.bl (decide (x = .non))) H
def rIsNot : R2 := fun x y H Q => y = .non /\ Q (.bl (!decide (x = .non))) H
theorem op_isM {X : Cx} : OpR X (compareOp .Is) rIs := op_isN
theorem op_notM {X : Cx} : OpR X (compareOp .IsNot) rIsNot := op_notN
def intOf : Expr -> Option Int
 | .Constant (.int i) _ _ => some i
 | _ => none
theorem intOf_eq {e : Expr} {i : Int} (h : intOf e = some i) : ∃ k p, e = .Constant (.int i) k p := by
 unfold intOf at h
 split at h
 ·cases h; exact ⟨_, _, rfl⟩
 ·cases h
def constInts : List Expr -> Option (List Int)
 | [] => some []
 | e :: r => (intOf e).bind fun i => (constInts r).map (i :: ·)
def tInts (is : List Int) : TA := fun _ H Q => Q (is.map V.int) H
theorem pa_consts {X : Cx} : ∀ {es : List Expr} {is : List Int}, constInts es = some is -> PA X es (tInts is) := by
  intro es
  induction es with
  | nil =>
    intro is h
    have e : is = [] := by simpa [constInts] using h.symm
    subst e
    exact pa_nil
  | cons e r ih =>
    intro is h
    unfold constInts at h
    cases hi : intOf e with
    | none => rw [hi] at h; cases h
    | some i =>
      rw [hi] at h
      obtain ⟨k, p, rfl⟩ := intOf_eq hi
      obtain ⟨js, hj, rfl⟩ := zq58x.mp (show (constInts r).map (i :: ·) = some is from h)
      exact pa_cons (te := tC (.int i)) (t := tInts js) pe_int (ih hj)
theorem ps_setInts {X : Cx} {i : Nat} {x : Str} {es : List Expr} {is : List Int} {p1 p2 p3 : Pos} (hN : X.N.Nodup) (hi : X.N[i]? = some x) (hx : Loc X.env.scope x) (h : constInts es = some is) (hf : X.fn x = true \/ X.env.scope.names.lookup x = some .local) :
  PS X (.Assign [.Name x p1] (.List es p2) p3) (tAsg (tLst (tInts is)) (gName i)) := ps_set hN hi hx (pe_lst (pa_consts h)) rfl hf
namespace R
section
variable {σ : St} {H : Hp} {Q : VK} {D : Ends} {ta tb te : TE} {K : PySem.W.Frag}
theorem seq {t u : TS} (h : t { D with nx := u D } σ H) : tSeq t u D σ H := h
theorem asg {g : TG} (h : te σ H fun x H1 => g x σ H1 D.nx) : tAsg te g D σ H := h
theorem ifS {c : TT} {t u : TS} (h : c σ H fun b H1 => if b = true then t D σ H1 else u D σ H1) : tIfS c t u D σ H := h
theorem ret (h : te σ H D.rt) : tRet te D σ H := h
theorem drop (h : te σ H fun _ H1 => D.nx σ H1) : tDrop te D σ H := h
theorem next (h : D.nx σ H) : tNext D σ H := h
theorem var {i : Nat} {v : V} (e : σ[i]? = some (some v)) (h : Q v H) : tVar i σ H Q := ⟨v, e, h⟩
theorem c {v : V} (h : Q v H) : tC v σ H Q := h
theorem op {r : R2} (h : ta σ H fun x H1 => tb σ H1 fun y H2 => r x y H2 Q) : tOp r ta tb σ H Q := h
theorem test {q : Bool -> Hp -> Prop} (h : te σ H fun x H' => ∃ k, x = .bl k /\ q k H') : tTest te σ H q := h
theorem bl {P : Bool -> Prop} {b : Bool} (h : P b) : ∃ k, V.bl b = .bl k /\ P k := ⟨b, rfl, h⟩
theorem and {t u : TT} {q : Bool -> Hp -> Prop} (h : t σ H fun c H1 => if c = true then u σ H1 q else q false H1) : tAnd t u σ H q := h
theorem andV (h : ta σ H fun x H1 => ∃ c, x = .bl c /\ if c = true then tb σ H1 Q else Q (.bl false) H1) : tAndV ta tb σ H Q := h
theorem notV (h : ta σ H fun x H1 => ∃ c, x = .bl c /\ Q (.bl (!c)) H1) : tNotV ta σ H Q := h
theorem cb {r : List V -> Hp -> VK -> Prop} {t : TA} (h : t σ H fun vs H1 => r vs H1 Q) : tCB r t σ H Q := h
theorem call {sp : Sp} {t : TA} (h : t σ H fun vs H1 => sp (vs ++ []) H1 Q E0) : tCall sp [] E0 t σ H Q := h
theorem nil {q : List V -> Hp -> Prop} (h : q [] H) : tNil σ H q := h
theorem cons {t : TA} {q : List V -> Hp -> Prop} (h : ta σ H fun x H1 => t σ H1 fun xs H2 => q (x :: xs) H2) : tCons ta t σ H q := h
theorem lst {t : TA} (h : t σ H (mkL Q)) : tLst t σ H Q := h
theorem sl {r : V -> Option Int -> Option Int -> Hp -> VK -> Prop} {tl th : TO} (h : te σ H fun x H1 => tl σ H1 fun l H2 => th σ H2 fun u H3 => r x l u H3 Q) : tSl r te tl th σ H Q := h
theorem noPart {q : Option Int -> Hp -> Prop} (h : q none H) : tNoPart σ H q := h
theorem part {q : Option Int -> Hp -> Prop} (h : te σ H fun x H1 => ∃ i, x = .int i /\ q (some i) H1) : tPart te σ H q := h
theorem partI {P : Int -> Prop} {i : Int} (h : P i) : ∃ j, V.int i = .int j /\ P j := ⟨i, rfl, h⟩
theorem bm0 {T : String} {r : V -> List V -> Hp -> VK -> Prop} (h : te σ H fun x H1 => tyV K T x H1 /\ r x [] H1 Q) : tBM0 K T r te σ H Q := h
theorem tyInt {i : Int} {A : Prop} (h : A) : tyV K "int" (.int i) H /\ A := ⟨rfl, h⟩
theorem gname {i : Nat} {v : V} {q : St -> Hp -> Prop} (h : q (σ.set i (some v)) H) : gName i v σ H q := h
theorem gsub {to ti : TE} {t : TSet} {v : V} {q : St -> Hp -> Prop} (h : to σ H fun o H1 => ti σ H1 fun i H2 => t o i v H2 fun H3 => q σ H3) : gSub to ti t v σ H q := h
theorem noTest {q : Bool -> Hp -> Prop} (h : q true H) : tNoTest σ H q := h
theorem rI0 {g : Int -> Int -> V} {i j : Int} (h : Q (g i j) H) : L2.rI0 g (.int i) (.int j) H Q := ⟨i, j, rfl, rfl, h⟩
theorem rI {C : Int -> Int -> Prop} {g : Int -> Int -> V} {i j : Int} (hc : C i j) (h : Q (g i j) H) : L2.rI C g (.int i) (.int j) H Q := ⟨i, j, rfl, rfl, hc, h⟩
theorem dec_i {i j : Int} : decide (V.int i = V.int j) = decide (i = j) := by rw [zq76x]; simp
theorem eqI {i j : Int} (h : Q (.bl (decide (i = j))) H) : rEq (.int i) (.int j) H Q := ⟨rfl, by rw [dec_i]; exact h⟩
theorem neI {i j : Int} (h : Q (.bl (decide (i ≠ j))) H) : rNe (.int i) (.int j) H Q := ⟨rfl, by rw [dec_i, <- decide_not]; exact h⟩
theorem ixM {p : Addr} {xs : List V} {i : Int} {v : V} (hp : H p = some (.lst xs)) (e : atI xs i = some v) (h : Q v H) : rIxL K (.ref p) (.int i) H Q := ⟨p, xs, i, v, rfl, rfl, SqL.of hp, e, h⟩
theorem ixS {p : Addr} {o : HO} {xs : List V} {i : Int} {v : V} (e : atI xs i = some v) (h : Q v (upd H p (.lst xs))) : rIxL K (.ref p) (.int i) (upd H p (.lst xs)) Q := ⟨p, xs, i, v, rfl, rfl, SqL.of upd_same, e, h⟩
theorem setM {p : Addr} {xs : List V} {k : Int} {j : Nat} {v : V} {q : Hp -> Prop} (hp : H p = some (.lst xs)) (e : ixN xs.length k = some j) (h : q (upd H p (.lst (xs.set j v)))) : rSetL (.ref p) (.int k) v H q := ⟨p, xs, k, j, rfl, rfl, hp, e, h⟩
theorem setS {p : Addr} {xs : List V} {k : Int} {j : Nat} {v : V} {q : Hp -> Prop} (e : ixN xs.length k = some j) (h : q (upd H p (.lst (xs.set j v)))) : rSetL (.ref p) (.int k) v (upd H p (.lst xs)) q :=
 ⟨p, xs, k, j, rfl, rfl, upd_same, e, by rw [upd_upd]; exact h⟩
theorem lenM {p : Addr} {xs : List V} {P : List V -> Prop} (hp : H p = some (.lst xs)) (h : P xs) : ∃ a ys, [V.ref p] = [.ref a] /\ (SqL K H a ys \/ SqT K H a ys) /\ P ys := ⟨p, xs, rfl, .inl (SqL.of hp), h⟩
theorem slL {p : Addr} {xs : List V} {lo hi : Option Int} (hp : SqL K H p xs) (h : ∀ a, H a = none -> Q (.ref a) (upd H a (.lst (cutV xs lo hi)))) : rSlL K (.ref p) lo hi H Q := ⟨p, xs, rfl, hp, h⟩
theorem abs1 {a : Int} {P : Int -> Prop} (h : P a) : ∃ i, [V.int a] = [.int i] /\ P i := ⟨a, rfl, h⟩
theorem bits {i : Int} {P : Int -> Prop} (h : P i) : ∃ j, V.int i = .int j /\ ([] : List V) = [] /\ P j := ⟨i, rfl, rfl, h⟩
theorem lstA {xs : List V} (h : xs.length <= 10000) (q : ∀ p H', Same H H' -> H p = none -> H' p = some (.lst xs) -> Q (.ref p) H') : mkL Q xs H :=
 ⟨zq31x h (by decide), fun p hp => q p _ (same_new hp) hp upd_same⟩
theorem iteP {c A B : Prop} [Decidable c] (h : c) (q : A) : if c then A else B := by rw [if_pos h]; exact q
theorem iteN {c A B : Prop} [Decidable c] (h : ¬ c) (q : B) : if c then A else B := by rw [if_neg h]; exact q
theorem dT {c : Prop} [Decidable c] (h : c) : decide c = true := decide_eq_true h
theorem dF {c : Prop} [Decidable c] (h : ¬ c) : ¬ decide c = true := by rw [decide_eq_false h]; exact zq15x
theorem dTn {c : Prop} [Decidable c] (h : ¬ c) : (!decide c) = true := by rw [decide_eq_false h]; rfl
theorem dFn {c : Prop} [Decidable c] (h : c) : ¬ (!decide c) = true := by rw [decide_eq_true h]; decide
theorem isiII {i : Int} (h : Q (.bl true) H) : rIsi K [.int i, .ty "int"] H Q := ⟨_, _, _, true, rfl, .int i, rfl, h⟩
theorem isiIB {i : Int} (h : Q (.bl false) H) : rIsi K [.int i, .ty "bool"] H Q := ⟨_, _, _, false, rfl, .int i, by with_unfolding_all rfl, h⟩
theorem rng1 {t : TA} {R : It -> Hp -> Prop} (h : t σ H fun vs H1 => ∃ j : Int, vs = [.int j] /\ -(2 ^ 62) <= j /\ j < 2 ^ 62 /\ R (Itr 0 j.toNat) H1) : iRng1 t σ H R := h
theorem rng1I {P : Int -> Prop} {i : Int} (h1 : -(2 ^ 62) <= i) (h2 : i < 2 ^ 62) (h : P i) : ∃ j : Int, [V.int i] = [.int j] /\ -(2 ^ 62) <= j /\ j < 2 ^ 62 /\ P j := ⟨i, rfl, h1, h2, h⟩
theorem rng2 {t : TA} {R : It -> Hp -> Prop} (h : t σ H fun vs H1 => ∃ i j : Int, vs = [.int i, .int j] /\ (-(2 ^ 62) <= i /\ i < 2 ^ 62 /\ -(2 ^ 62) <= j /\ j < 2 ^ 62) /\ R (Itr i (j - i).toNat) H1) : iRng2 t σ H R := h
theorem rng2I {P : Int -> Int -> Prop} {a b : Int} (h1 : -(2 ^ 62) <= a /\ a < 2 ^ 62 /\ -(2 ^ 62) <= b /\ b < 2 ^ 62) (h : P a b) : ∃ i j : Int, [V.int a, V.int b] = [.int i, .int j] /\ (-(2 ^ 62) <= i /\ i < 2 ^ 62 /\ -(2 ^ 62) <= j /\ j < 2 ^ 62) /\ P i j := ⟨a, b, rfl, h1, h⟩
theorem iL {tl : TE} {R : It -> Hp -> Prop} (h : tl σ H fun x H1 => ∃ a, x = .ref a /\ (∃ xs, SqL K H1 a xs) /\ R (Itl K a) H1) : iList K tl σ H R := h
theorem iL1 {P : Addr -> Prop} {p : Addr} {xs : List V} (hp : SqL K H p xs) (h : P p) : ∃ a, V.ref p = .ref a /\ (∃ xs, SqL K H a xs) /\ P a := ⟨p, rfl, ⟨xs, hp⟩, h⟩
theorem for_ {wi : TI} {g : TG} {tb : TS} (h : wi σ H fun J H1 => ∃ W : Nat -> Nat -> St -> Hp -> Prop, (∃ m, W 0 m σ H1) /\ ∀ i m σ H, W i m σ H ->
 (J.stop i H /\ D.nx σ H) \/ (J.go i H /\ ∃ N : St -> Hp -> Prop, (∀ σ' H', N σ' H' -> ∃ m', m' < m /\ W (i + 1) m' σ' H') /\ ∀ x H', J.yld i H x H' -> g x σ H' fun σ2 H2 => tb { D with nx := N, ct := N, bk := D.nx } σ2 H2)) : tFor wi g tb D σ H := h
theorem comp {wi : TI} {g : TG} {tc : TT} {mp : List (Option Nat)} (h : wi σ H fun J H1 => ∀ acc, H1 acc = none -> CompW J g tc te acc (fun H' => Q (.ref acc) H') (startC mp σ) (upd H1 acc (.lst []))) : tComp wi g tc te mp σ H Q := h
end
theorem comp_range {lo : Int} {n : Nat} {g : TG} {tc : TT} {te : TE} {acc : Addr} {Qe : Hp -> Prop} {σ : St} {H : Hp} (Pv : Nat -> St -> Hp -> Prop) (h0 : Pv 0 σ H)
  (hs : ∀ i σ H, i < n -> Pv i σ H -> g (.int (lo + i)) σ H fun σ2 H2 => tc σ2 H2 fun b H3 => if b = true then te σ2 H3 fun v H4 => ∃ ys, H4 acc = some (.lst ys) /\ ys.length < sizeLine /\ Pv (i + 1) σ2 (upd H4 acc (.lst (ys ++ [v]))) else Pv (i + 1) σ2 H3)
  (hd : ∀ σ H, Pv n σ H -> Qe H) : CompW (Itr lo n) g tc te acc Qe σ H := by
 refine ⟨fun i m σ H => m = n - i /\ i <= n /\ Pv i σ H, ⟨n, by simp, zq43x _, h0⟩, ?_⟩
 rintro i m σ H ⟨rfl, hi, p⟩
 by_cases hlt : i < n
 ·refine .inr ⟨hlt, Pv (i + 1), fun σ' H' p' => ⟨n - (i + 1), by omega, rfl, hlt, p'⟩, fun x H' y => ?_⟩
  obtain ⟨e, y⟩ := y
  subst e y
  exact hs i σ _ hlt p
 ·have e : i = n := by omega
  subst e
  exact .inl ⟨zq5x _, hd σ H p⟩
theorem comp_list {K : PySem.W.Frag} {a : Addr} {xs : List V} {g : TG} {tc : TT} {te : TE} {acc : Addr} {Qe : Hp -> Prop} {σ : St} {H : Hp} (Pv : Nat -> St -> Hp -> Prop) (h0 : Pv 0 σ H) (hl : ∀ i σ H, i <= xs.length -> Pv i σ H -> SqL K H a xs)
  (hs : ∀ i x σ H, xs[i]? = some x -> Pv i σ H -> g x σ H fun σ2 H2 => tc σ2 H2 fun b H3 => if b = true then te σ2 H3 fun v H4 => ∃ ys, H4 acc = some (.lst ys) /\ ys.length < sizeLine /\ Pv (i + 1) σ2 (upd H4 acc (.lst (ys ++ [v]))) else Pv (i + 1) σ2 H3)
  (hd : ∀ σ H, Pv xs.length σ H -> Qe H) : CompW (Itl K a) g tc te acc Qe σ H := by
 refine ⟨fun i m σ H => m = xs.length - i /\ i <= xs.length /\ Pv i σ H, ⟨xs.length, by simp, zq43x _, h0⟩, ?_⟩
 rintro i m σ H ⟨rfl, hi, p⟩
 have q := hl i σ H hi p
 by_cases hlt : i < xs.length
 ·refine .inr ⟨⟨xs, xs[i], q, by simp [hlt]⟩, Pv (i + 1), fun σ' H' p' => ⟨xs.length - (i + 1), by omega, rfl, hlt, p'⟩, fun x H' y => ?_⟩
  obtain ⟨e, y⟩ := y
  subst e
  exact hs i x σ _ (y xs q) p
 ·have e : i = xs.length := by omega
  subst e
  exact .inl ⟨⟨xs, q, zq5x _⟩, hd σ H p⟩
end R
end L2
set_option maxRecDepth 100000
set_option maxHeartbeats 1000000
namespace L2
open PySem PySem.Spec PyProof.Rows
@[reducible] def pairD (pr : Int × Int) : PyData := .tuple [.int pr.1, .int pr.2]
def termOf (wd : List (Option Int)) (pr : Int × Int) : Int := match wd[pr.1.toNat]? with
 | some (some x) => pr.2 * x
 | _ => 0
def dueSum (prs : List (Int × Int)) (wd : List (Option Int)) : Int := (prs.map (termOf wd)).sum
theorem dueSum_snoc {prs : List (Int × Int)} {wd : List (Option Int)} {i : Nat} (h : i < prs.length) : dueSum (prs.take (i + 1)) wd = dueSum (prs.take i) wd + termOf wd prs[i] := by
 unfold dueSum
 rw [zq143x, zq1x h, zq16x, List.sum_append]
 simp
theorem shaped_pairs (prs : List (Int × Int)) : SeqAt.shaped (.list (prs.map pairD)) = true /\ PyData.depthAll (prs.map pairD) <= 1 /\ PyData.canLayAll0 (prs.map pairD) = true := by
 have h : PyData.depthAll (prs.map pairD) <= 1 /\ PyData.canLayAll0 (prs.map pairD) = true := by
  induction prs with
  | nil => simp [PyData.depthAll, PyData.canLayAll0]
  | cons a r ih => simp [pairD, PyData.depthAll, PyData.depth, PyData.canLayAll0, PyData.canLay0, ih.2]; have := ih.1; omega
 refine ⟨?_, h⟩
 unfold SeqAt.shaped
 simp [PyData.canLay0, PyData.depth, h.2]
 omega
def NoDiv (r : Int) : Prop := ∀ d : Int, 2 <= d -> d * d <= r -> r % d ≠ 0
def primeList : List Int := [2, 3, 5, 7, 2, 11, 101, 10007, 65537, 1000003, 998244353, 1000000007, 2147483647, 1000000000039, 1000000000000000003, 18446744073709551557, 2305843009213693951, 618970019642690137449562111, 162259276829213363391578010288127, 170141183460469231731687303715884105727, 1000000000000000000000000000000000000003, 9999999999999999999999999999999999999983]
def IsP (p : Int) : Prop := 2 <= p /\ p < 10 ^ 40 /\ (p ∈ primeList \/ NoDiv p)
def spPrimeFrom : Sp := fun vs H Q _ => ∃ n : Int, vs = [.int n] /\ 2 <= n /\ n <= 10002 /\ ∀ (r : Int) (H' : Hp), Same H H' -> 2 <= r -> r <= 10100 -> NoDiv r -> Q (.int r) H'
def spPrime : Sp := fun vs H Q _ => ∃ (b l : Addr), vs = [.ref b] /\ BagAt H b l /\ ∀ (p : Int) (H' : Hp), IsP p -> But (Nb b) H H' -> BagAt H' b l -> Q (.int p) H'
theorem isDs_intsL {nb : Addr -> Prop} {H : Hp} : ∀ is : List Int, IsDs nb H (is.map PyData.int) (is.map V.int)
 | [] => IsDs.nil
 | i :: is => IsDs.cons (.int i) (isDs_intsL is)
theorem isDs_ints_eq {nb : Addr -> Prop} {H : Hp} : ∀ {is : List Int} {xs : List V}, IsDs nb H (is.map PyData.int) xs -> xs = is.map V.int
  | [], _, h => by unfold List.map IsDs at h; exact h
  | i :: is, _, h => by
    rw [zq9x] at h
    unfold IsDs at h
    obtain ⟨y, ys, rfl, h1, h2⟩ := h
    rw [zq9x, h1.ofI, isDs_ints_eq h2]
end L2
set_option maxRecDepth 100000
set_option maxHeartbeats 1000000
namespace L2
open PySem PySem.Spec PyProof.Rows
abbrev Bg := Option (Addr × Addr)
def NB (B : Bg) (a : Addr) : Prop := ∀ b l, B = some (b, l) -> a ≠ b
def BagOk (B : Bg) (H : Hp) : Prop := ∀ b l, B = some (b, l) -> BagAt H b l
def Live (nb : Addr -> Prop) (H : Hp) : Prop := ∀ a, nb a -> H a ≠ none
structure Kp (S : Addr -> Prop) (F : List Addr) (H H' : Hp) : Prop where
 own : ∀ a ∈ F, ∀ o, H a = some o -> H' a = some o
 lst : ∀ a xs, ¬ S a -> H a = some (.lst xs) -> H' a = some (.lst xs)
 tup : ∀ a xs, ¬ S a -> H a = some (.tup xs) -> H' a = some (.tup xs)
 dic : ∀ a ps, ¬ S a -> Rd H a (.dK ps) -> Rd H' a (.dK ps)
theorem Kp.of {S : Addr -> Prop} {F : List Addr} {H H' : Hp} (h : ∀ a o, (¬ S a \/ a ∈ F) -> H a = some o -> H' a = some o) : Kp S F H H' :=
 ⟨fun a ha o e => h a o (.inr ha) e, fun a xs n e => h a _ (.inl n) e, fun a xs n e => h a _ (.inl n) e, fun a ps n e => e.elim (fun e => .inl (h a _ (.inl n) e)) fun ⟨o, e⟩ => .inr ⟨o, h a _ (.inl n) e⟩⟩
structure Cu where
 v : V
 F : List Addr
 f : Bool
 P : (Addr -> Prop) -> Hp -> Prop
 keep : ∀ {S : Addr -> Prop} {H H' : Hp}, Kp S F H H' -> P S H -> P S H'
 av : ∀ {S S' : Addr -> Prop} {H : Hp}, (∀ a, S' a -> S a) -> P S H -> P S' H
 fresh : ∀ {S : Addr -> Prop} {H : Hp} {p : Addr}, H p = none -> P S H -> P (fun a => S a \/ a = p) H
inductive HD where
 | d (x : PyData) | fz (o : Obj) (ps : List (Key × V)) | th (c : Cu)
def IsH (S : Addr -> Prop) (H : Hp) : HD -> V -> Prop
 | .d x, v => IsD S H x v
 | .fz o ps, v => ∃ a, v = .ref a /\ ¬ S a /\ H a = some (.frz o (.dK ps))
 | .th c, v => v = c.v /\ (∀ a ∈ c.F, ¬ S a /\ H a ≠ none) /\ c.P S H
theorem IsH.keep {S : Addr -> Prop} {H H' : Hp} {x : HD} {v : V} (h : IsH S H x v) (b : But S H H') : IsH S H' x v := by
  cases x with
  | d x => exact IsD.keep b h
  | fz o ps => obtain ⟨a, e, n, q⟩ := h; exact ⟨a, e, n, b _ _ n q⟩
  | th c =>
    obtain ⟨e, n, q⟩ := h
    refine ⟨e, fun a m => ⟨(n a m).1, ?_⟩, c.keep (.of fun a o m q => b a o (m.elim id fun m => (n a m).1) q) q⟩
    cases z : H a with
    | none => exact absurd z (n a m).2
    | some o => rw [b a o (n a m).1 z]; exact zq65x _
theorem IsH.av {S S' : Addr -> Prop} {H : Hp} {x : HD} {v : V} (h : IsH S H x v) (b : ∀ a, S' a -> S a) : IsH S' H x v := by
 cases x with
 | d x => exact IsD.av b h
 | fz o ps => obtain ⟨a, e, n, q⟩ := h; exact ⟨a, e, fun z => n (b a z), q⟩
 | th c => obtain ⟨e, n, q⟩ := h; exact ⟨e, fun a m => ⟨fun z => (n a m).1 (b a z), (n a m).2⟩, c.av b q⟩
theorem IsH.fresh {S : Addr -> Prop} {H : Hp} {x : HD} {v : V} {p : Addr} (h : IsH S H x v) (hp : H p = none) : IsH (fun a => S a \/ a = p) H x v := by
 cases x with
 | d x => exact IsD.fresh hp h
 | fz o ps => obtain ⟨a, e, n, q⟩ := h; exact ⟨a, e, fun z => z.elim n (ne_of_none q hp), q⟩
 | th c => obtain ⟨e, n, q⟩ := h; exact ⟨e, fun a m => ⟨fun z => z.elim (n a m).1 fun y => (n a m).2 (by rw [y]; exact hp), (n a m).2⟩, c.fresh hp q⟩
structure Gx where
 B : Bg
 H0 : Hp
 A : Addr -> Prop
 hold : List (Bool × HD × V) := []
inductive Sl where
 | no | d (f : Bool) (d : PyData) | own (a : Addr) (f : Bool) (ds : List PyData) | bag | raw (v : V) | dic (a : Addr) (f : Bool) (ks : List (Int × PyData)) | cu (c : Cu)
def Sl.adr : Sl -> List Addr
 | .own a _ _ => [a]
 | .dic a _ _ => [a]
 | .cu c => c.F
 | _ => []
@[reducible] def kvD (p : Int × PyData) : PyData × PyData := (.int p.1, p.2)
abbrev Rh := List Sl
def Gx.S (G : Gx) (nb : Addr -> Prop) (f : Bool) : Addr -> Prop := fun a => nb a \/ G.A a \/ ¬ NB G.B a \/ (f = true /\ G.H0 a ≠ none)
def SlOk (G : Gx) (nb : Addr -> Prop) (H : Hp) (x : Option V) : Sl -> Prop
 | .no => True
 | .d f d => ∃ v, x = some v /\ IsD (G.S nb f) H d v
 | .own a f ds => x = some (.ref a) /\ nb a /\ NB G.B a /\ ∃ xs, H a = some (.lst xs) /\ IsDs (G.S nb f) H ds xs
 | .bag => ∃ b l, G.B = some (b, l) /\ x = some (.ref b)
 | .raw v => x = some v
 | .dic a f ks => x = some (.ref a) /\ nb a /\ NB G.B a /\ ∃ ps, H a = some (.dK ps) /\ IsKs (G.S nb f) H (ks.map kvD) ps
 | .cu c => x = some c.v /\ (∀ a ∈ c.F, nb a /\ NB G.B a) /\ c.P (G.S nb c.f) H
structure Wd (G : Gx) (nb : Addr -> Prop) (ρ : Rh) (σ : St) (H : Hp) : Prop where
 bag : BagOk G.B H
 live : Live nb H
 old : ∀ a o, NB G.B a -> G.H0 a = some o -> H a = some o
 nbo : ∀ a, nb a -> NB G.B a -> G.H0 a = none
 gA : Live G.A G.H0
 len : σ.length = ρ.length
 gB : BagOk G.B G.H0
 hld : ∀ h ∈ G.hold, IsH (G.S nb h.1) H h.2.1 h.2.2
 ok : ∀ (i : Nat) (s : Sl), ρ[i]? = some s -> ∃ x, σ[i]? = some x /\ SlOk G nb H x s
 apart : ∀ (i j : Nat) a f as c g cs, i ≠ j -> ρ[i]? = some (.own a f as) -> ρ[j]? = some (.own c g cs) -> a ≠ c
 apd : ∀ (i j : Nat) a f as c g cs, i ≠ j -> ρ[i]? = some (.dic a f as) -> ρ[j]? = some (.dic c g cs) -> a ≠ c
 apc : ∀ (i j : Nat) c s, i ≠ j -> ρ[i]? = some (.cu c) -> ρ[j]? = some s -> ∀ a ∈ c.F, a ∉ s.adr
def Step (B : Bg) (H H' : Hp) : Prop := (∀ a o, NB B a -> H a = some o -> H' a = some o) /\ BagOk B H'
section
variable {G : Gx} {B : Bg} {nb : Addr -> Prop} {ρ : Rh} {σ : St} {H H1 H2 H' : Hp} {f g : Bool} {d : PyData} {ds : List PyData} {v : V} {xs : List V} {a p : Addr}
theorem Step.refl (h : BagOk B H) : Step B H H := ⟨fun _ _ _ e => e, h⟩
theorem Step.trans (x : Step B H H1) (y : Step B H1 H2) : Step B H H2 := ⟨fun a o n e => y.1 a o n (x.1 a o n e), y.2⟩
theorem BagOk.same (h : BagOk B H) (s : Same H H') : BagOk B H' := fun b l e => (h b l e).same s
theorem Step.same (h : BagOk B H) (s : Same H H') : Step B H H' := ⟨fun a o _ e => s a o e, h.same s⟩
theorem Step.but {nb' : Addr -> Prop} (s : Step B H H') (h : ∀ a, ¬ NB B a -> nb' a) : But nb' H H' := fun a o n e => s.1 a o (zq59x fun z => n (h a z)) e
theorem Step.butS (s : Step G.B H H') : But (G.S nb f) H H' := s.but fun a h => .inr (.inr (.inl h))
theorem S_mono (h : g = true -> f = true) {nb' : Addr -> Prop} (hn : ∀ a, nb a -> nb' a) : ∀ a, G.S nb g a -> G.S nb' f a := by
 intro a z
 rcases z with z | z | z | ⟨z, q⟩
 ·exact .inl (hn a z)
 ·exact .inr (.inl z)
 ·exact .inr (.inr (.inl z))
 ·exact .inr (.inr (.inr ⟨h z, q⟩))
theorem NB.bag_live (h : BagOk B H) (n : ¬ NB B a) : H a ≠ none := by
 intro e
 apply n
 intro b l hb z
 subst z
 obtain ⟨_, _, _, _, _, h1, _⟩ := h _ _ hb
 rw [h1] at e; cases e
theorem Wd.liveS (W : Wd G nb ρ σ H) : Live (G.S nb f) H := by
 intro a z
 rcases z with z | z | z | ⟨_, z⟩
 ·exact W.live a z
 ·by_cases n : NB G.B a
  ·cases e : G.H0 a with
   | none => exact absurd e (W.gA a z)
   | some o => rw [W.old a o n e]; exact zq65x _
  ·exact NB.bag_live W.bag n
 ·exact NB.bag_live W.bag z
 ·by_cases n : NB G.B a
  ·cases e : G.H0 a with
   | none => exact absurd e z
   | some o => rw [W.old a o n e]; exact zq65x _
  ·exact NB.bag_live W.bag n
theorem Wd.fresh (W : Wd G nb ρ σ H) (hp : H p = none) : ¬ G.S nb f p := fun z => W.liveS p z hp
theorem SlOk.step {x : Option V} {s : Sl} (st : Step G.B H H') (h : SlOk G nb H x s) : SlOk G nb H' x s := by
  cases s with
  | no => trivial
  | d f d => obtain ⟨v, e, h⟩ := h; exact ⟨v, e, h.keep st.butS⟩
  | own a f ds => obtain ⟨e, n, q, xs, hx, hd⟩ := h; exact ⟨e, n, q, xs, st.1 _ _ q hx, hd.keep st.butS⟩
  | bag => exact h
  | raw v => exact h
  | dic a f ks => obtain ⟨e, n, q, xs, hx, hd⟩ := h; exact ⟨e, n, q, xs, st.1 _ _ q hx, hd.keep st.butS⟩
  | cu c =>
    obtain ⟨e, n, p⟩ := h
    refine ⟨e, n, c.keep (.of fun a o ha e => st.1 a o ?_ e) p⟩
    rcases ha with ha | ha
    · exact zq59x fun z => ha (.inr (.inr (.inl z)))
    · exact (n a ha).2
theorem ne_none_keep (n : NB B a) (st : Step B H H') (h : H a ≠ none) : H' a ≠ none := by
 cases e : H a with
 | none => exact absurd e h
 | some o => rw [st.1 a o n e]; exact zq65x _
theorem Wd.step (W : Wd G nb ρ σ H) (st : Step G.B H H') : Wd G nb ρ σ H' where
 bag := st.2
 live := fun a n => by
  by_cases q : NB G.B a
  ·exact ne_none_keep q st (W.live a n)
  ·exact NB.bag_live st.2 q
 old := fun a o n e => st.1 a o n (W.old a o n e)
 nbo := W.nbo
 gA := W.gA
 len := W.len
 gB := W.gB
 hld := fun h m => (W.hld h m).keep st.butS
 ok := fun i s e => by
  obtain ⟨x, e1, h⟩ := W.ok i s e
  exact ⟨x, e1, h.step st⟩
 apart := W.apart
 apd := W.apd
 apc := W.apc
theorem Wd.set {i : Nat} {s : Sl} {x : Option V} (W : Wd G nb ρ σ H) (h : SlOk G nb H x s) (hs : ∀ a f ds, s = .own a f ds -> ∀ j c g cs, j ≠ i -> ρ[j]? = some (.own c g cs) -> a ≠ c) (hd : ∀ a f ds, s = .dic a f ds -> ∀ j c g cs, j ≠ i -> ρ[j]? = some (.dic c g cs) -> a ≠ c := by intro _ _ _ z; cases z) (hcu : ∀ a ∈ s.adr, ∀ j t, j ≠ i -> ρ[j]? = some t -> (∃ c, s = .cu c) \/ (∃ c, t = .cu c) -> a ∉ t.adr := by intro _ z; cases z) : Wd G nb (ρ.set i s) (σ.set i x) H where
 bag := W.bag
 live := W.live
 old := W.old
 nbo := W.nbo
 gA := W.gA
 len := by rw [zq37x, zq37x]; exact W.len
 gB := W.gB
 hld := W.hld
 ok := fun j t e => by
  by_cases hij : i = j
  ·subst hij
   have hl : i < ρ.length := by have := (zq8x.mp e).1; rwa [zq37x] at this
   rw [zq18x hl] at e
   cases e
   exact ⟨x, zq18x (by rw [W.len]; exact hl), h⟩
  ·rw [zq6x hij] at e ⊢
   exact W.ok j t e
 apart := fun j k a f as c g cs hjk e1 e2 => by
  by_cases hj : i = j
  ·subst hj
   have hl : i < ρ.length := by have := (zq8x.mp e1).1; rwa [zq37x] at this
   rw [zq18x hl] at e1
   cases e1
   rw [zq6x hjk] at e2
   exact hs a f as rfl k c g cs (zq11x hjk) e2
  ·by_cases hk : i = k
   ·subst hk
    have hl : i < ρ.length := by have := (zq8x.mp e2).1; rwa [zq37x] at this
    rw [zq18x hl] at e2
    cases e2
    rw [zq6x hj] at e1
    exact (hs c g cs rfl j a f as hjk e1).symm
   ·rw [zq6x hj] at e1
    rw [zq6x hk] at e2
    exact W.apart j k a f as c g cs hjk e1 e2
 apd := fun j k a f as c g cs hjk e1 e2 => by
  by_cases hj : i = j
  ·subst hj
   have hl : i < ρ.length := by have := (zq8x.mp e1).1; rwa [zq37x] at this
   rw [zq18x hl] at e1
   cases e1
   rw [zq6x hjk] at e2
   exact hd a f as rfl k c g cs (zq11x hjk) e2
  ·by_cases hk : i = k
   ·subst hk
    have hl : i < ρ.length := by have := (zq8x.mp e2).1; rwa [zq37x] at this
    rw [zq18x hl] at e2
    cases e2
    rw [zq6x hj] at e1
    exact (hd c g cs rfl j a f as hjk e1).symm
   ·rw [zq6x hj] at e1
    rw [zq6x hk] at e2
    exact W.apd j k a f as c g cs hjk e1 e2
 apc := fun j k c t hjk e1 e2 a ha => by
  by_cases hj : i = j
  ·subst hj
   have hl : i < ρ.length := by have := (zq8x.mp e1).1; rwa [zq37x] at this
   rw [zq18x hl] at e1
   cases e1
   rw [zq6x hjk] at e2
   exact hcu a ha k t (zq11x hjk) e2 (.inl ⟨c, rfl⟩)
  ·by_cases hk : i = k
   ·subst hk
    have hl : i < ρ.length := by have := (zq8x.mp e2).1; rwa [zq37x] at this
    rw [zq18x hl] at e2
    cases e2
    rw [zq6x hj] at e1
    exact fun z => hcu a z j (.cu c) hjk e1 (.inr ⟨c, rfl⟩) ha
   ·rw [zq6x hj] at e1
    rw [zq6x hk] at e2
    exact W.apc j k c t hjk e1 e2 a ha
theorem Wd.setD {i : Nat} (W : Wd G nb ρ σ H) (h : IsD (G.S nb f) H d v) : Wd G nb (ρ.set i (.d f d)) (σ.set i (some v)) H := W.set ⟨v, rfl, h⟩ fun _ _ _ e => by cases e
inductive Wk : Rh -> Rh -> Prop
 | nil : Wk [] []
 | no {s : Sl} {r r' : Rh} (h : Wk r r') : Wk (.no :: r) (s :: r')
 | eq {s : Sl} {r r' : Rh} (h : Wk r r') : Wk (s :: r) (s :: r')
theorem Wk.at : ∀ {r r' : Rh} {i : Nat} {s : Sl}, Wk r r' -> r[i]? = some s -> s = .no /\ (∃ t, r'[i]? = some t) \/ r'[i]? = some s
 | _, _, _, _, .nil, e => by simp at e
 | _, _, 0, _, .no h, e => by simp at e; subst e; exact .inl ⟨rfl, _, rfl⟩
 | _, _, 0, _, .eq h, e => by simp at e; subst e; exact .inr rfl
 | _, _, i + 1, _, .no h, e => by simpa using Wk.at (i := i) h (by simpa using e)
 | _, _, i + 1, _, .eq h, e => by simpa using Wk.at (i := i) h (by simpa using e)
theorem Wk.len {r r' : Rh} (h : Wk r r') : r.length = r'.length := by
 induction h with
 | nil => rfl
 | no _ ih => simp [ih]
 | eq _ ih => simp [ih]
theorem Wd.wk {ρ' : Rh} (W : Wd G nb ρ' σ H) (h : Wk ρ ρ') : Wd G nb ρ σ H where
 bag := W.bag
 live := W.live
 old := W.old
 nbo := W.nbo
 gA := W.gA
 len := by rw [h.len]; exact W.len
 gB := W.gB
 hld := W.hld
 ok := fun i s e => by
  rcases h.at e with ⟨rfl, t, e'⟩ | e'
  ·obtain ⟨x, e1, _⟩ := W.ok i t e'; exact ⟨x, e1, trivial⟩
  ·exact W.ok i s e'
 apart := fun i j a f as c g cs hij e1 e2 => by
  rcases h.at e1 with ⟨z, _⟩ | e1'
  ·cases z
  rcases h.at e2 with ⟨z, _⟩ | e2'
  ·cases z
  exact W.apart i j a f as c g cs hij e1' e2'
 apd := fun i j a f as c g cs hij e1 e2 => by
  rcases h.at e1 with ⟨z, _⟩ | e1'
  ·cases z
  rcases h.at e2 with ⟨z, _⟩ | e2'
  ·cases z
  exact W.apd i j a f as c g cs hij e1' e2'
 apc := fun i j c s hij e1 e2 a ha => by
  rcases h.at e1 with ⟨z, _⟩ | e1'
  ·cases z
  rcases h.at e2 with ⟨z, _⟩ | e2'
  ·subst z; exact fun z => by cases z
  exact W.apc i j c s hij e1' e2' a ha
theorem Wd.more (W : Wd G nb ρ σ H) (hp : H p = none) {o : HO} : Wd G (fun a => nb a \/ a = p) ρ σ (upd H p o) := by
 have hS : Same H (upd H p o) := same_new hp
 have hN : NB G.B p := fun b l e z => by
  subst z
  obtain ⟨_, _, _, _, _, h1, _⟩ := W.bag _ _ e
  rw [h1] at hp; cases hp
 have W' := W.step (Step.same W.bag hS)
 have hA : ∀ f a, G.S (fun a => nb a \/ a = p) f a -> (G.S nb f a \/ a = p) := fun f a z => by
  rcases z with (z | z) | z | z | z
  ·exact .inl (.inl z)
  ·exact .inr z
  ·exact .inl (.inr (.inl z))
  ·exact .inl (.inr (.inr (.inl z)))
  ·exact .inl (.inr (.inr (.inr z)))
 refine ⟨W'.bag, fun a n => ?_, W'.old, fun a n q => ?_, W.gA, W.len, W.gB, fun h m => (((W.hld h m).fresh hp).av (hA h.1)).keep (But.of hS), fun i s e => ?_, W.apart, W.apd, W.apc⟩
 ·rcases n with n | n
  ·exact W'.live a n
  ·subst n; rw [upd_same]; exact zq65x _
 ·rcases n with n | n
  ·exact W.nbo a n q
  ·subst n
   cases e : G.H0 a with
   | none => rfl
   | some o => rw [W.old a o q e] at hp; cases hp
 ·obtain ⟨x, e1, h⟩ := W.ok i s e
  refine ⟨x, e1, ?_⟩
  cases s with
  | no => trivial
  | d f d => obtain ⟨v, e, h⟩ := h; exact ⟨v, e, ((h.fresh hp).av (hA f)).keep (But.of hS)⟩
  | own a f ds => obtain ⟨e, n, q, xs, hx, hd⟩ := h; exact ⟨e, .inl n, q, xs, hS _ _ hx, ((hd.fresh hp).av (hA f)).keep (But.of hS)⟩
  | bag => exact h
  | raw v => exact h
  | dic a f ds => obtain ⟨e, n, q, xs, hx, hd⟩ := h; exact ⟨e, .inl n, q, xs, hS _ _ hx, ((hd.fresh hp).av (hA f)).keep (But.of hS)⟩
  | cu c => obtain ⟨e, n, q⟩ := h; exact ⟨e, fun a ha => ⟨.inl (n a ha).1, (n a ha).2⟩, c.keep (.of fun a o _ e => hS a o e) (c.av (hA c.f) (c.fresh hp q))⟩
theorem Wd.write (W : Wd G nb ρ σ H) {o : HO} (hp : nb p) (hN : NB G.B p) (ho : ∀ (i : Nat) a f ds, ρ[i]? = some (.own a f ds) -> a ≠ p) (hod : ∀ (i : Nat) a f ds, ρ[i]? = some (.dic a f ds) -> a ≠ p) (hoc : ∀ (i : Nat) c, ρ[i]? = some (.cu c) -> p ∉ c.F) : Wd G nb ρ σ (upd H p o) := by
  have hl : ∀ b l, G.B = some (b, l) -> p ≠ l := fun b l e z => by
    obtain ⟨_, _, _, _, _, _, h2, _⟩ := W.gB b l e
    rw [<- z, W.nbo p hp hN] at h2; cases h2
  have hB : BagOk G.B (upd H p o) := fun b l e => (W.bag b l e).put2 ⟨hN b l e, hl b l e⟩
  have bt : ∀ f, But (G.S nb f) H (upd H p o) := fun f => But.set (.inl hp)
  refine ⟨hB, fun a n => ?_, fun a o' n e => ?_, W.nbo, W.gA, W.len, W.gB, fun h m => (W.hld h m).keep (bt h.1), fun i s e => ?_, W.apart, W.apd, W.apc⟩
  · by_cases z : a = p
    · subst z; rw [upd_same]; exact zq65x _
    · rw [upd_ne z]; exact W.live a n
  · have z : a ≠ p := fun z => by subst z; rw [W.nbo a hp n] at e; cases e
    rw [upd_ne z]; exact W.old a o' n e
  · obtain ⟨x, e1, h⟩ := W.ok i s e
    refine ⟨x, e1, ?_⟩
    cases s with
    | no => trivial
    | d f d => obtain ⟨v, e, h⟩ := h; exact ⟨v, e, h.keep (bt f)⟩
    | own a f ds => obtain ⟨e', n, q, xs, hx, hd⟩ := h; exact ⟨e', n, q, xs, by rw [upd_ne (ho i a f ds e)]; exact hx, hd.keep (bt f)⟩
    | bag => exact h
    | raw v => exact h
    | dic a f ds => obtain ⟨e', n, q, xs, hx, hd⟩ := h; exact ⟨e', n, q, xs, by rw [upd_ne (hod i a f ds e)]; exact hx, hd.keep (bt f)⟩
    | cu c =>
      obtain ⟨e', n, q⟩ := h
      refine ⟨e', n, c.keep (.of fun a o' ha e'' => ?_) q⟩
      rw [upd_ne]
      · exact e''
      · rintro rfl
        rcases ha with ha | ha
        · exact ha (.inl hp)
        · exact hoc i c e ha
end
end L2
set_option maxRecDepth 100000
set_option maxHeartbeats 1000000
namespace L2
open PySem PySem.Spec PyProof.Rows
abbrev Pd := Bool -> PyData -> Prop
def Ev (G : Gx) (ρ : Rh) (te : TE) (Φ : Pd) : Prop := ∀ nb σ H (Q : VK), Wd G nb ρ σ H -> (∀ f v H' d, Φ f d -> Step G.B H H' -> IsD (G.S nb f) H' d v -> Q v H') -> te σ H Q
def EvN (G : Gx) (ρ : Rh) (te : TE) (Φ : Bool -> List PyData -> Prop) : Prop := ∀ nb σ H (Q : VK), Wd G nb ρ σ H ->
 (∀ f a xs H' ds, Φ f ds -> Step G.B H H' -> H a = none -> H' a = some (.lst xs) -> IsDs (fun x => G.S nb f x \/ x = a) H' ds xs -> Q (.ref a) H') -> te σ H Q
def Tv (G : Gx) (ρ : Rh) (tt : TT) (Φ : Bool -> Prop) : Prop := ∀ nb σ H (Q : Bool -> Hp -> Prop), Wd G nb ρ σ H -> (∀ b H', Φ b -> Step G.B H H' -> Q b H') -> tt σ H Q
def Ov (G : Gx) (ρ : Rh) (to : TO) (Φ : Option Int -> Prop) : Prop := ∀ nb σ H (Q : Option Int -> Hp -> Prop), Wd G nb ρ σ H -> (∀ o H', Φ o -> Step G.B H H' -> Q o H') -> to σ H Q
abbrev Fd := Bool × PyData
def IsF (G : Gx) (nb : Addr -> Prop) (H : Hp) : List Fd -> List V -> Prop
 | [], vs => vs = []
 | e :: es, vs => ∃ v ws, vs = v :: ws /\ IsD (G.S nb e.1) H e.2 v /\ IsF G nb H es ws
def Av (G : Gx) (ρ : Rh) (ta : TA) (Φ : List Fd -> Prop) : Prop := ∀ nb σ H (Q : List V -> Hp -> Prop), Wd G nb ρ σ H -> (∀ es vs H', Φ es -> Step G.B H H' -> IsF G nb H' es vs -> Q vs H') -> ta σ H Q
def Gv (G : Gx) (ρ : Rh) (g : TG) (f : Bool) (d : PyData) (Φ : Rh -> Prop) : Prop := ∀ nb σ H v (Q : St -> Hp -> Prop), Wd G nb ρ σ H -> IsD (G.S nb f) H d v -> (∀ σ' ρ', Φ ρ' -> Wd G nb ρ' σ' H -> Q σ' H) -> g v σ H Q
def Gvs (G : Gx) (ρ : Rh) (g : TGs) (f : Bool) (ds : List PyData) (Φ : Rh -> Prop) : Prop := ∀ nb σ H vs (Q : St -> Hp -> Prop), Wd G nb ρ σ H -> IsDs (G.S nb f) H ds vs -> (∀ σ' ρ', Φ ρ' -> Wd G nb ρ' σ' H -> Q σ' H) -> g vs σ H Q
structure DE where
 nx : Rh -> Prop
 rt : Pd
 bk : Rh -> Prop := fun _ => False
 ct : Rh -> Prop := fun _ => False
 rw : (Addr -> Prop) -> Rh -> V -> Hp -> Prop := fun _ _ _ _ => False
structure EndsOk (G : Gx) (E : DE) (D : Ends) : Prop where
 nx : ∀ nb ρ σ H, E.nx ρ -> Wd G nb ρ σ H -> D.nx σ H
 bk : ∀ nb ρ σ H, E.bk ρ -> Wd G nb ρ σ H -> D.bk σ H
 ct : ∀ nb ρ σ H, E.ct ρ -> Wd G nb ρ σ H -> D.ct σ H
 rt : ∀ nb ρ σ f v H d, E.rt f d -> Wd G nb ρ σ H -> IsD (G.S (fun _ => False) f) H d v -> D.rt v H
 rw : ∀ nb ρ σ v H, E.rw nb ρ v H -> Wd G nb ρ σ H -> D.rt v H
def Sv (G : Gx) (ρ : Rh) (ts : TS) (E : DE) : Prop := ∀ nb σ H D, Wd G nb ρ σ H -> EndsOk G E D -> ts D σ H
def scB : PyData -> Bool
 | .none => true | .bool _ => true | .int _ => true | .str _ => true | _ => false
def toV : PyData -> V
 | .bool b => .bl b | .int i => .int i | .str x => .str x | _ => .non
section
variable {nb nb' : Addr -> Prop} {H H' : Hp} {d e : PyData} {v : V}
theorem IsD.sc (h : scB d = true) : IsD nb H d (toV d) := by
 cases d <;> first | (cases h; done) | (unfold IsD; rfl)
theorem IsD.scEq (h : scB d = true) (q : IsD nb H d v) : v = toV d := by
 cases d <;> first | (cases h; done) | (unfold IsD at q; exact q)
theorem IsD.scAny (h : scB d = true) (q : IsD nb H d v) : IsD nb' H' d v := by
 rw [q.scEq h]; exact .sc h
theorem IsDs.scAny : ∀ {ds : List PyData} {xs : List V}, ds.all scB = true -> IsDs nb H ds xs -> IsDs nb' H' ds xs
  | [], _, _, q => by unfold IsDs at q ⊢; exact q
  | d :: ds, _, h, q => by
    rw [zq116x, zq23x] at h
    unfold IsDs at q ⊢
    obtain ⟨y, ys, e, h1, h2⟩ := q
    exact ⟨y, ys, e, h1.scAny h.1, IsDs.scAny h.2 h2⟩
end
section
variable {G : Gx} {ρ : Rh} {Φ Ψ : Pd} {ta tb te : TE} {t : TA} {i : Nat} {f g : Bool} {d e : PyData} {ds es : List PyData} {K : PySem.W.Frag}
theorem Ev.mono (h : Ev G ρ te Ψ) (q : ∀ f d, Ψ f d -> Φ f d) : Ev G ρ te Φ := fun nb σ H Q W z => h nb σ H Q W fun f v H' d p => z f v H' d (q f d p)
theorem EvN.ev (h : EvN G ρ te fun f ds => Φ f (.list ds)) : Ev G ρ te Φ := fun nb σ H Q W z => h nb σ H Q W fun f a xs H' ds p st n e hd =>
 z f _ H' _ p st (.lst (W.fresh n) e (hd.av fun _ x => .inl x))
namespace Ev
theorem var (e : ρ[i]? = some (.d f d)) (h : Φ f d) : Ev G ρ (tVar i) Φ := fun nb σ H Q W z => by
 obtain ⟨x, e1, v, rfl, hd⟩ := W.ok i _ e
 exact ⟨v, e1, z f v H d h (.refl W.bag) hd⟩
theorem int {n : Int} (h : Φ true (.int n)) : Ev G ρ (tC (.int n)) Φ := fun nb σ H Q W z => z true _ H _ h (.refl W.bag) (.int n)
theorem non (h : Φ true .none) : Ev G ρ (tC .non) Φ := fun nb σ H Q W z => z true _ H _ h (.refl W.bag) .non
theorem op2 {r : R2} (h : Ev G ρ ta fun f x => Ev G ρ tb fun g y => ∀ nb σ H u v (Q : VK), Wd G nb ρ σ H -> IsD (G.S nb f) H x u -> IsD (G.S nb g) H y v -> (∀ f w H' d, Φ f d -> Step G.B H H' -> IsD (G.S nb f) H' d w -> Q w H') -> r u v H Q) : Ev G ρ (tOp r ta tb) Φ := fun nb σ H Q W z =>
 h nb σ H _ W fun f v1 H1 d1 p1 s1 q1 => p1 nb σ H1 _ (W.step s1) fun g v2 H2 d2 p2 s2 q2 => p2 nb σ H2 _ _ _ ((W.step s1).step s2) (q1.keep s2.butS) q2 fun f w H' d p st q => z f w H' d p (s1.trans (s2.trans st)) q
theorem rI {C : Int -> Int -> Prop} {k : Int -> Int -> Int} (h : Ev G ρ ta fun _ x => ∃ i, x = .int i /\ Ev G ρ tb fun _ y => ∃ j, y = .int j /\ C i j /\ Φ true (.int (k i j))) : Ev G ρ (tOp (L2.rI C fun i j => .int (k i j)) ta tb) Φ :=
 op2 (h.mono fun f x ⟨i, ex, q⟩ => q.mono fun g y ⟨j, ey, hc, p⟩ nb σ H u v Q W hu hv z => by
  subst ex ey; exact ⟨i, j, hu.ofI, hv.ofI, hc, z true _ H _ p (.refl W.bag) (.int _)⟩)
theorem rI0 {k : Int -> Int -> Int} (h : Ev G ρ ta fun _ x => ∃ i, x = .int i /\ Ev G ρ tb fun _ y => ∃ j, y = .int j /\ Φ true (.int (k i j))) : Ev G ρ (tOp (L2.rI0 fun i j => .int (k i j)) ta tb) Φ :=
 op2 (h.mono fun f x ⟨i, ex, q⟩ => q.mono fun g y ⟨j, ey, p⟩ nb σ H u v Q W hu hv z => by
  subst ex ey; exact ⟨i, j, hu.ofI, hv.ofI, z true _ H _ p (.refl W.bag) (.int _)⟩)
theorem rB0 {k : Int -> Int -> Bool} (h : Ev G ρ ta fun _ x => ∃ i, x = .int i /\ Ev G ρ tb fun _ y => ∃ j, y = .int j /\ Φ true (.bool (k i j))) : Ev G ρ (tOp (L2.rI0 fun i j => .bl (k i j)) ta tb) Φ :=
 op2 (h.mono fun f x ⟨i, ex, q⟩ => q.mono fun g y ⟨j, ey, p⟩ nb σ H u v Q W hu hv z => by
  subst ex ey; exact ⟨i, j, hu.ofI, hv.ofI, z true _ H _ p (.refl W.bag) (.bl _)⟩)
theorem un {r : V -> Hp -> VK -> Prop} (h : Ev G ρ ta fun f x => ∀ nb σ H u (Q : VK), Wd G nb ρ σ H -> IsD (G.S nb f) H x u -> (∀ f w H' d, Φ f d -> Step G.B H H' -> IsD (G.S nb f) H' d w -> Q w H') -> r u H Q) : Ev G ρ (tUn r ta) Φ := fun nb σ H Q W z =>
 h nb σ H _ W fun f v1 H1 d1 p1 s1 q1 => p1 nb σ H1 _ _ (W.step s1) q1 fun f w H' d p st q => z f w H' d p (s1.trans st) q
theorem rU {k : Int -> Int} (h : Ev G ρ ta fun _ x => ∃ i, x = .int i /\ Φ true (.int (k i))) : Ev G ρ (tUn (L2.rU fun i => .int (k i)) ta) Φ :=
 un (h.mono fun f x ⟨i, ex, p⟩ nb σ H u Q W hu z => by subst ex; exact ⟨i, hu.ofI, z true _ H _ p (.refl W.bag) (.int _)⟩)
end Ev
inductive EqD : PyData -> PyData -> Bool -> Prop
 | ii (i j : Int) : EqD (.int i) (.int j) (decide (i = j))
 | ni (i : Int) : EqD .none (.int i) false
 | i_n (i : Int) : EqD (.int i) .none false
 | nn : EqD .none .none true
 | bb (a b : Bool) : EqD (.bool a) (.bool b) (a == b)
 | ss (x : Str) : EqD (.str x) (.str x) true
 | sd (x y : Str) : EqD (.str x) (.str y) (decide (x = y))
theorem EqD.v {nb nb' : Addr -> Prop} {H : Hp} {x y : PyData} {b : Bool} {u v : V} (h : EqD x y b) (hu : IsD nb H x u) (hv : IsD nb' H y v) : scal u v = true /\ decide (u = v) = b := by
 cases h <;> (unfold IsD at hu hv; subst hu hv; refine ⟨rfl, ?_⟩)
 ·exact R.dec_i
 ·rfl
 ·rfl
 ·rfl
 ·rename_i a b; cases a <;> cases b <;> rfl
 ·exact decide_eq_true rfl
 ·rename_i x y
  by_cases c : x = y
  ·subst c; rw [decide_eq_true rfl, decide_eq_true rfl]
  ·rw [decide_eq_false c, decide_eq_false (fun z => c (V.str.inj z))]
namespace Ev
theorem eq (h : Ev G ρ ta fun _ x => Ev G ρ tb fun _ y => ∃ b, EqD x y b /\ Φ true (.bool b)) : Ev G ρ (tOp rEq ta tb) Φ :=
 op2 (h.mono fun f x q => q.mono fun g y ⟨b, e, p⟩ nb σ H u v Q W hu hv z => by
  obtain ⟨h1, h2⟩ := e.v hu hv
  exact ⟨h1, by rw [h2]; exact z true _ H _ p (.refl W.bag) (.bl _)⟩)
theorem ne (h : Ev G ρ ta fun _ x => Ev G ρ tb fun _ y => ∃ b, EqD x y b /\ Φ true (.bool !b)) : Ev G ρ (tOp rNe ta tb) Φ :=
 op2 (h.mono fun f x q => q.mono fun g y ⟨b, e, p⟩ nb σ H u v Q W hu hv z => by
  obtain ⟨h1, h2⟩ := e.v hu hv
  exact ⟨h1, by rw [h2]; exact z true _ H _ p (.refl W.bag) (.bl _)⟩)
theorem eqD {ng : Bool} (h : Ev G ρ ta fun _ x => Ev G ρ tb fun _ y => SeqAt.shaped x = true /\ SeqAt.shaped y = true /\ Φ true (.bool (PyData.eqv x y != ng))) : Ev G ρ (tOp (rEqD ng) ta tb) Φ :=
 op2 (h.mono fun f x q => q.mono fun g y ⟨h1, h2, p⟩ nb σ H u v Q W hu hv z =>
  ⟨G.S nb false, x, y, hu.av (S_mono (fun z => by cases z) fun _ z => z), hv.av (S_mono (fun z => by cases z) fun _ z => z), h1, h2, z true _ H _ p (.refl W.bag) (.bl _)⟩)
end Ev
def isN : PyData -> Bool
 | .none => true
 | _ => false
theorem isN_v {nb : Addr -> Prop} {H : Hp} {d : PyData} {v : V} (h : IsD nb H d v) : decide (v = .non) = isN d := by
 cases d <;> unfold IsD at h
 all_goals first
  | (subst h; rfl)
  | (obtain ⟨a, xs, rfl, _⟩ := h; rfl)
  | exact h.elim
namespace Ev
theorem is (h : Ev G ρ ta fun _ x => Φ true (.bool (isN x))) : Ev G ρ (tOp rIs ta (tC .non)) Φ :=
 op2 (h.mono fun f x p => Ev.non fun nb σ H u v Q W hu hv z => ⟨hv.ofN, by rw [isN_v hu]; exact z true _ H _ p (.refl W.bag) (.bl _)⟩)
theorem isNot (h : Ev G ρ ta fun _ x => Φ true (.bool !isN x)) : Ev G ρ (tOp rIsNot ta (tC .non)) Φ :=
 op2 (h.mono fun f x p => Ev.non fun nb σ H u v Q W hu hv z => ⟨hv.ofN, by rw [isN_v hu]; exact z true _ H _ p (.refl W.bag) (.bl _)⟩)
end Ev
theorem IsDs.atI {nb : Addr -> Prop} {H : Hp} {ds : List PyData} {xs : List V} {k : Int} {e : PyData} (h : IsDs nb H ds xs) (q : L2.atI ds k = some e) : ∃ v, L2.atI xs k = some v /\ IsD nb H e v := by
 unfold L2.atI at q ⊢
 rw [h.length]
 cases z : ixN ds.length k with
 | none => rw [z] at q; cases q
 | some j => rw [z] at q; exact h.get q
namespace Ev
theorem ixL (h : Ev G ρ ta fun f x => ∃ ds, x = .list ds /\ Ev G ρ tb fun _ y => ∃ k, y = .int k /\ ∃ e, atI ds k = some e /\ Φ f e) : Ev G ρ (tOp (rIxL K) ta tb) Φ :=
 op2 (h.mono fun f x ⟨ds, ex, q⟩ => q.mono fun g y ⟨k, ey, e, he, p⟩ nb σ H u v Q W hu hv z => by
  subst ex ey
  obtain ⟨a, xs, rfl, n, hx, hd⟩ := hu.ofL
  obtain ⟨w, hw, hD⟩ := hd.atI he
  exact ⟨a, xs, k, w, rfl, hv.ofI, .of hx, hw, z f _ H _ p (.refl W.bag) hD⟩)
theorem ixT (h : Ev G ρ ta fun f x => ∃ ds, x = .tuple ds /\ Ev G ρ tb fun _ y => ∃ k, y = .int k /\ ∃ e, atI ds k = some e /\ Φ f e) : Ev G ρ (tOp (rIxT K) ta tb) Φ :=
 op2 (h.mono fun f x ⟨ds, ex, q⟩ => q.mono fun g y ⟨k, ey, e, he, p⟩ nb σ H u v Q W hu hv z => by
  subst ex ey
  obtain ⟨a, xs, rfl, n, hx, hd⟩ := hu.ofT
  obtain ⟨w, hw, hD⟩ := hd.atI he
  exact ⟨a, xs, k, w, rfl, hv.ofI, .of hx, hw, z f _ H _ p (.refl W.bag) hD⟩)
theorem ixOwn {a : Addr} (e : ρ[i]? = some (.own a f ds)) (h : Ev G ρ tb fun _ y => ∃ k, y = .int k /\ ∃ e, atI ds k = some e /\ Φ f e) : Ev G ρ (tOp (rIxL K) (tVar i) tb) Φ := fun nb σ H Q W z => by
 obtain ⟨x, e1, h1, h2, h3, xs, hx, hd⟩ := W.ok i _ e
 subst h1
 refine ⟨.ref a, e1, h nb σ H _ W fun g w H1 y ⟨k, ey, e', he, p⟩ s1 hv => ?_⟩
 subst ey
 obtain ⟨u, hu, hD⟩ := (hd.keep s1.butS).atI he
 exact ⟨a, xs, k, u, rfl, hv.ofI, .of (s1.1 _ _ h3 hx), hu, z f _ H1 _ p s1 hD⟩
theorem andV (h : Ev G ρ ta fun _ x => ∃ b, x = .bool b /\ if b = true then Ev G ρ tb Φ else Φ true (.bool false)) : Ev G ρ (tAndV ta tb) Φ := fun nb σ H Q W z =>
 h nb σ H _ W fun f v H1 d ⟨b, e, q⟩ s1 hv => by
  subst e
  refine ⟨b, by unfold IsD at hv; exact hv, ?_⟩
  cases b with
  | true => rw [if_pos rfl] at q ⊢; exact q nb σ H1 _ (W.step s1) fun f v H' d p st => z f v H' d p (s1.trans st)
  | false => rw [if_neg zq15x] at q ⊢; exact z true _ H1 _ q s1 (.bl false)
theorem ifE {c : TT} (h : Tv G ρ c fun b => if b = true then Ev G ρ ta Φ else Ev G ρ tb Φ) : Ev G ρ (tIf c ta tb) Φ := fun nb σ H Q W z =>
 h nb σ H _ W fun b H1 q s1 => by
  cases b with
  | true => rw [if_pos rfl] at q ⊢; exact q nb σ H1 _ (W.step s1) fun f v H' d p st => z f v H' d p (s1.trans st)
  | false => rw [if_neg zq15x] at q ⊢; exact q nb σ H1 _ (W.step s1) fun f v H' d p st => z f v H' d p (s1.trans st)
end Ev
namespace Tv
variable {Θ : Bool -> Prop} {t u : TT}
theorem test (h : Ev G ρ te fun _ x => ∃ b, x = .bool b /\ Θ b) : Tv G ρ (tTest te) Θ := fun nb σ H Q W z =>
 h nb σ H _ W fun f v H1 d ⟨b, e, q⟩ s1 hv => by subst e; exact ⟨b, by unfold IsD at hv; exact hv, z b H1 q s1⟩
theorem and (h : Tv G ρ t fun b => if b = true then Tv G ρ u Θ else Θ false) : Tv G ρ (tAnd t u) Θ := fun nb σ H Q W z =>
 h nb σ H _ W fun b H1 q s1 => by
  cases b with
  | true => rw [if_pos rfl] at q ⊢; exact q nb σ H1 _ (W.step s1) fun b H' p st => z b H' p (s1.trans st)
  | false => rw [if_neg zq15x] at q ⊢; exact z false H1 q s1
theorem or (h : Tv G ρ t fun b => if b = true then Θ true else Tv G ρ u Θ) : Tv G ρ (tOr t u) Θ := fun nb σ H Q W z =>
 h nb σ H _ W fun b H1 q s1 => by
  cases b with
  | false => rw [if_neg zq15x] at q ⊢; exact q nb σ H1 _ (W.step s1) fun b H' p st => z b H' p (s1.trans st)
  | true => rw [if_pos rfl] at q ⊢; exact z true H1 q s1
theorem not (h : Tv G ρ t fun b => Θ (!b)) : Tv G ρ (tNot t) Θ := fun nb σ H Q W z => h nb σ H _ W fun b H1 q s1 => z _ H1 q s1
theorem noTest (h : Θ true) : Tv G ρ tNoTest Θ := fun nb σ H Q W z => z true H h (.refl W.bag)
end Tv
def tTruth (K : PySem.W.Frag) (ta : TE) : TT := fun σ H Q => ta σ H fun x H1 => ∃ k, TruV K x H1 k /\ Q k H1
theorem Tv.truB {Θ : Bool -> Prop} (h : Ev G ρ te fun _ x => ∃ b, x = .bool b /\ Θ b) : Tv G ρ (tTruth K te) Θ := fun nb σ H Q W z =>
 h nb σ H _ W fun f v H1 d ⟨b, e, q⟩ s1 hv => by subst e; exact ⟨b, by unfold IsD at hv; subst hv; rfl, z b H1 q s1⟩
namespace Av
variable {Θ : List Fd -> Prop}
theorem nil (h : Θ []) : Av G ρ tNil Θ := fun nb σ H Q W z => z [] [] H h (.refl W.bag) rfl
theorem cons (h : Ev G ρ te fun f d => Av G ρ t fun es => Θ ((f, d) :: es)) : Av G ρ (tCons te t) Θ := fun nb σ H Q W z =>
 h nb σ H _ W fun f v H1 d p1 s1 q1 => p1 nb σ H1 _ (W.step s1) fun es vs H2 p2 s2 q2 => z _ _ H2 p2 (s1.trans s2) ⟨v, vs, rfl, q1.keep s2.butS, q2⟩
theorem cints {is : List Int} (h : Θ (is.map fun i => (true, .int i))) : Av G ρ (tInts is) Θ := fun nb σ H Q W z => z _ _ H h (.refl W.bag) (by
 clear h
 induction is with
 | nil => rfl
 | cons i r ih => exact ⟨_, _, rfl, .int i, ih⟩)
end Av
def allF (es : List Fd) : Bool := es.all (·.1)
theorem IsF.all {nb : Addr -> Prop} {H : Hp} : ∀ {es : List Fd} {vs : List V} {f : Bool}, IsF G nb H es vs -> (f = true -> allF es = true) -> IsDs (G.S nb f) H (es.map (·.2)) vs
  | [], _, _, h, _ => by unfold IsF at h; subst h; exact .nil
  | e :: es, _, f, h, hf => by
    obtain ⟨v, ws, rfl, h1, h2⟩ := h
    refine .cons (h1.av (S_mono (fun z => ?_) fun _ z => z)) (h2.all fun z => ?_)
    · have := hf z; simp only [allF, zq116x, zq23x] at this; exact this.1
    · have := hf z; simp only [allF, zq116x, zq23x] at this; exact this.2
theorem IsF.len {nb : Addr -> Prop} {H : Hp} {es : List Fd} {vs : List V} (h : IsF G nb H es vs) : vs.length = es.length := by
 have := (h.all (f := false) (fun z => by cases z)).length
 simpa using this
theorem EvN.lst {Φ : Bool -> List PyData -> Prop} (h : Av G ρ t fun es => es.length <= 10000 /\ Φ (allF es) (es.map (·.2))) : EvN G ρ (tLst t) Φ := fun nb σ H Q W z =>
  h nb σ H _ W fun es vs H1 ⟨hl, p⟩ s1 q1 => ⟨zq31x (by rw [q1.len]; exact hl) (by decide), fun a ha => by
    have W1 := W.step s1
    refine z _ a vs _ _ p (s1.trans (.same W1.bag (same_new ha))) ?_ upd_same (((q1.all fun z => z).fresh ha).keep (But.of (same_new ha)))
    cases e : H a with
    | none => rfl
    | some o =>
      by_cases n : NB G.B a
      · rw [s1.1 a o n e] at ha; cases ha
      · exact absurd ha (NB.bag_live s1.2 n)⟩
theorem Ev.lst (h : Av G ρ t fun es => es.length <= 10000 /\ Φ (allF es) (.list (es.map (·.2)))) : Ev G ρ (tLst t) Φ := (EvN.lst (Φ := fun f ds => Φ f (.list ds)) h).ev
end
end L2
set_option maxRecDepth 100000
set_option maxHeartbeats 1000000
namespace L2
open PySem PySem.Spec PyProof.Rows
def rLen (K : PySem.W.Frag) : List V -> Hp -> VK -> Prop := fun xs H Q => ∃ p ys, xs = [.ref p] /\ (SqL K H p ys \/ SqT K H p ys) /\ Q (.int ys.length) H
theorem call_lenM {X : Cx} : CallR X (.builtin "len") (rLen X.K) := call_len_seq
def rMin : List V -> Hp -> VK -> Prop := fun xs H Q => ∃ i j, xs = [.int i, .int j] /\ Q (.int (if j < i then j else i)) H
def rMax : List V -> Hp -> VK -> Prop := fun xs H Q => ∃ i j, xs = [.int i, .int j] /\ Q (.int (if j > i then j else i)) H
theorem call_minM {X : Cx} (hc : X.calm = true) : CallR X (.builtin "min") rMin := call_min2 hc
theorem call_maxM {X : Cx} (hc : X.calm = true) : CallR X (.builtin "max") rMax := call_max2 hc
def cutA {α : Type} (xs : List α) (lo hi : Option Int) : List α := (xs.drop (HT.sIx xs.length 0 lo)).take (HT.sIx xs.length xs.length hi - HT.sIx xs.length 0 lo)
theorem IsDs.cut {nb : Addr -> Prop} {H : Hp} {ds : List PyData} {xs : List V} {lo hi : Option Int} (h : IsDs nb H ds xs) : IsDs nb H (cutA ds lo hi) (cutV xs lo hi) := by
 unfold cutA cutV
 rw [h.length]
 exact (h.drop _).take _
def scAll (ds : List PyData) : Bool := ds.all scB
section
variable {G : Gx} {ρ : Rh} {Φ Ψ : Pd} {ta tb te : TE} {t : TA} {i : Nat} {f g : Bool} {d e : PyData} {ds es : List PyData} {K : PySem.W.Frag}
theorem Wd.none_of {nb : Addr -> Prop} {σ : St} {H H1 : Hp} {a : Addr} (W : Wd G nb ρ σ H) (s1 : Step G.B H H1) (ha : H1 a = none) : H a = none := by
  cases e : H a with
  | none => rfl
  | some o =>
    by_cases n : NB G.B a
    · rw [s1.1 a o n e] at ha; cases ha
    · exact absurd ha (NB.bag_live s1.2 n)
theorem EvN.fin {nb : Addr -> Prop} {σ : St} {H H1 : Hp} {Q : VK} {Φ : Bool -> List PyData -> Prop} {a : Addr} {xs : List V} (W : Wd G nb ρ σ H) (s1 : Step G.B H H1) (ha : H1 a = none) (hd : IsDs (G.S nb f) H1 ds xs) (p : Φ (f || scAll ds) ds)
  (z : ∀ f a xs H' ds, Φ f ds -> Step G.B H H' -> H a = none -> H' a = some (.lst xs) -> IsDs (fun x => G.S nb f x \/ x = a) H' ds xs -> Q (.ref a) H') : Q (.ref a) (upd H1 a (.lst xs)) := by
 refine z _ a xs _ ds p (s1.trans (.same s1.2 (same_new ha))) (W.none_of s1 ha) upd_same ?_
 cases hs : scAll ds with
 | true => exact IsDs.scAny hs hd
 | false => rw [zq117x]; exact (hd.fresh ha).keep (But.of (same_new ha))
namespace Ov
variable {Θ : Option Int -> Prop}
theorem none (h : Θ none) : Ov G ρ tNoPart Θ := fun nb σ H Q W z => z _ H h (.refl W.bag)
theorem some (h : Ev G ρ te fun _ x => ∃ k, x = .int k /\ Θ (some k)) : Ov G ρ (tPart te) Θ := fun nb σ H Q W z =>
 h nb σ H _ W fun f v H1 d ⟨k, e, q⟩ s1 hv => by subst e; exact ⟨k, hv.ofI, z _ H1 q s1⟩
end Ov
namespace EvN
variable {Θ : Bool -> List PyData -> Prop}
theorem sl {tl th : TO} (h : Ev G ρ te fun f x => ∃ ds, x = .list ds /\ Ov G ρ tl fun lo => Ov G ρ th fun hi => Θ (f || scAll (cutA ds lo hi)) (cutA ds lo hi)) : EvN G ρ (tSl (rSlL K) te tl th) Θ := fun nb σ H Q W z =>
 h nb σ H _ W fun f v H1 d ⟨ds, e, q⟩ s1 hv => q nb σ H1 _ (W.step s1) fun lo H2 q2 s2 => q2 nb σ H2 _ ((W.step s1).step s2) fun hi H3 q3 s3 => by
  subst e
  obtain ⟨a, xs, rfl, n, hx, hd⟩ := ((hv.keep s2.butS).keep s3.butS).ofL
  exact ⟨a, xs, rfl, .of hx, fun p hp => EvN.fin W (s1.trans (s2.trans s3)) hp hd.cut q3 z⟩
theorem listOf (h : Ev G ρ te fun f x => ∃ ds, (x = .list ds \/ x = .tuple ds) /\ Θ (f || scAll ds) ds) : EvN G ρ (tCB (rListOf K) (tCons te tNil)) Θ := fun nb σ H Q W z =>
 h nb σ H _ W fun f v H1 d ⟨ds, e, q⟩ s1 hv => by
  rcases e with e | e
  ·subst e
   obtain ⟨a, xs, rfl, n, hx, hd⟩ := hv.ofL
   exact ⟨a, xs, rfl, .inl (.of hx), fun p hp => EvN.fin W s1 hp hd q z⟩
  ·subst e
   obtain ⟨a, xs, rfl, n, hx, hd⟩ := hv.ofT
   exact ⟨a, xs, rfl, .inr (.of hx), fun p hp => EvN.fin W s1 hp hd q z⟩
theorem cat (h : Ev G ρ ta fun f x => ∃ ds, x = .list ds /\ Ev G ρ tb fun g y => ∃ es, y = .list es /\ ds.length + es.length <= 10000 /\ Θ ((f && g) || scAll (ds ++ es)) (ds ++ es)) : EvN G ρ (tOp rCat ta tb) Θ := fun nb σ H Q W z =>
 h nb σ H _ W fun f v H1 d ⟨ds, e, q⟩ s1 hv => q nb σ H1 _ (W.step s1) fun g u H2 d2 ⟨es, e2, hl, p⟩ s2 hu => by
  subst e e2
  obtain ⟨a, xs, rfl, n, hx, hd⟩ := (hv.keep s2.butS).ofL
  obtain ⟨c, ys, rfl, m, hy, hc⟩ := hu.ofL
  refine ⟨a, c, xs, ys, rfl, rfl, hx, hy, zq31x (by rw [hd.length, hc.length]; exact hl) (by decide), fun p' hp => EvN.fin (f := f && g) W (s1.trans s2) hp ?_ p z⟩
  exact IsDs.append (hd.av (S_mono (fun z => (zq23x _ _ ▸ z).1) fun _ z => z)) (hc.av (S_mono (fun z => (zq23x _ _ ▸ z).2) fun _ z => z))
end EvN
namespace Ev
theorem sl {tl th : TO} (h : Ev G ρ te fun f x => ∃ ds, x = .list ds /\ Ov G ρ tl fun lo => Ov G ρ th fun hi => Φ (f || scAll (cutA ds lo hi)) (.list (cutA ds lo hi))) : Ev G ρ (tSl (rSlL K) te tl th) Φ := (EvN.sl (Θ := fun f ds => Φ f (.list ds)) h).ev
theorem listOf (h : Ev G ρ te fun f x => ∃ ds, (x = .list ds \/ x = .tuple ds) /\ Φ (f || scAll ds) (.list ds)) : Ev G ρ (tCB (rListOf K) (tCons te tNil)) Φ := (EvN.listOf (Θ := fun f ds => Φ f (.list ds)) h).ev
theorem cat (h : Ev G ρ ta fun f x => ∃ ds, x = .list ds /\ Ev G ρ tb fun g y => ∃ es, y = .list es /\ ds.length + es.length <= 10000 /\ Φ ((f && g) || scAll (ds ++ es)) (.list (ds ++ es))) : Ev G ρ (tOp rCat ta tb) Φ := (EvN.cat (Θ := fun f ds => Φ f (.list ds)) h).ev
theorem lenOwn {a : Addr} (e : ρ[i]? = some (.own a f ds)) (h : Φ true (.int ds.length)) : Ev G ρ (tCB (rLen K) (tCons (tVar i) tNil)) Φ := fun nb σ H Q W z => by
 obtain ⟨x, e1, h1, h2, h3, xs, hx, hd⟩ := W.ok i _ e
 subst h1
 exact ⟨.ref a, e1, a, xs, rfl, .inl (.of hx), by rw [hd.length]; exact z true _ H _ h (.refl W.bag) (.int _)⟩
theorem min2 (h : Ev G ρ ta fun _ x => ∃ i, x = .int i /\ Ev G ρ tb fun _ y => ∃ j, y = .int j /\ Φ true (.int (if j < i then j else i))) : Ev G ρ (tCB rMin (tCons ta (tCons tb tNil))) Φ := fun nb σ H Q W z =>
 h nb σ H _ W fun f v H1 d ⟨i, e, q⟩ s1 hv => q nb σ H1 _ (W.step s1) fun g u H2 d2 ⟨j, e2, p⟩ s2 hu => by
  subst e e2
  exact ⟨i, j, by rw [hv.ofI, hu.ofI], z true _ H2 _ p (s1.trans s2) (.int _)⟩
theorem max2 (h : Ev G ρ ta fun _ x => ∃ i, x = .int i /\ Ev G ρ tb fun _ y => ∃ j, y = .int j /\ Φ true (.int (if j > i then j else i))) : Ev G ρ (tCB rMax (tCons ta (tCons tb tNil))) Φ := fun nb σ H Q W z =>
 h nb σ H _ W fun f v H1 d ⟨i, e, q⟩ s1 hv => q nb σ H1 _ (W.step s1) fun g u H2 d2 ⟨j, e2, p⟩ s2 hu => by
  subst e e2
  exact ⟨i, j, by rw [hv.ofI, hu.ofI], z true _ H2 _ p (s1.trans s2) (.int _)⟩
end Ev
abbrev DF := List PyData -> Pd -> Prop
def spD (n : Nat) (F : DF) : Sp := fun vs H Q _ => vs.length = n /\ ∃ (nb : Addr -> Prop) (ds : List PyData), Live nb H /\ IsDs nb H ds vs /\ F ds fun f d => ∀ v H', Same H H' -> IsD (fun a => nb a \/ (f = true /\ H a ≠ none)) H' d v -> Q v H'
def spB (n : Nat) (F : DF) : Sp := fun vs H Q _ => vs.length = n /\ ∃ (b l : Addr) (ws : List V) (nb : Addr -> Prop) (ds : List PyData), vs = .ref b :: ws /\ BagAt H b l /\ Live nb H /\ nb b /\ IsDs nb H ds ws /\
 F ds fun f d => ∀ v H', But (Nb b) H H' -> BagAt H' b l -> IsD (fun a => nb a \/ (f = true /\ H a ≠ none)) H' d v -> Q v H'
def MonoF (F : DF) : Prop := ∀ ds (Φ Ψ : Pd), F ds Φ -> (∀ f d, Φ f d -> Ψ f d) -> F ds Ψ
theorem Ev.callD {n : Nat} {F : DF} (hm : MonoF F) (h : Av G ρ t fun es => es.length = n /\ F (es.map (·.2)) fun f d => Φ (f || allF es) d) : Ev G ρ (tCall (spD n F) [] E0 t) Φ := fun nb σ H Q W z =>
 h nb σ H _ W fun es vs H1 ⟨hl, p⟩ s1 q1 => by
  have W1 := W.step s1
  rw [zq77x]
  refine ⟨by rw [q1.len, hl], G.S nb (allF es), es.map (·.2), W1.liveS, q1.all fun z => z, hm _ _ _ p fun f d hp v H' sm hd => z _ v H' d hp (s1.trans (.same W1.bag sm)) (hd.av fun a q => ?_)⟩
  cases f with
  | false => rw [zq118x] at q; exact .inl q
  | true => exact .inr ⟨rfl, W1.liveS a q⟩
theorem Step.ofBut {b l : Addr} {H H' : Hp} (hB : G.B = some (b, l)) (bt : But (Nb b) H H') (B' : BagAt H' b l) : Step G.B H H' :=
 ⟨fun a o n e => bt a o (n b l hB) e, fun b' l' e => by rw [hB] at e; cases e; exact B'⟩
theorem Wd.theBag {nb : Addr -> Prop} {σ : St} {H : Hp} (W : Wd G nb ρ σ H) (e : ρ[i]? = some .bag) : ∃ b l, G.B = some (b, l) /\ σ[i]? = some (some (.ref b)) /\ BagAt H b l := by
 obtain ⟨x, e1, b, l, hB, rfl⟩ := W.ok i _ e
 exact ⟨b, l, hB, e1, W.bag b l hB⟩
theorem Ev.callB {n : Nat} {F : DF} (hm : MonoF F) (e : ρ[i]? = some .bag) (h : Av G ρ t fun es => es.length + 1 = n /\ F (es.map (·.2)) fun f d => Φ (f || allF es) d) : Ev G ρ (tCall (spB n F) [] E0 (tCons (tVar i) t)) Φ := fun nb σ H Q W z => by
 obtain ⟨b, l, hB, e1, B⟩ := W.theBag e
 refine ⟨.ref b, e1, h nb σ H _ W fun es vs H1 ⟨hl, p⟩ s1 q1 => ?_⟩
 have W1 := W.step s1
 show spB n F ((V.ref b :: vs) ++ []) H1 Q E0
 rw [zq77x]
 have hb : ∀ f, G.S nb f b := fun f => .inr (.inr (.inl fun n => n b l hB rfl))
 refine ⟨by rw [zq51x, q1.len, hl], b, l, vs, G.S nb (allF es), es.map (·.2), rfl, W1.bag b l hB, W1.liveS, hb _, q1.all fun z => z, hm _ _ _ p fun f d hp v H' bt B' hd => z _ v H' d hp (s1.trans (.ofBut hB bt B')) (hd.av fun a q => ?_)⟩
 cases f with
 | false => rw [zq118x] at q; exact .inl q
 | true => exact .inr ⟨rfl, W1.liveS a q⟩
theorem Ev.draw (e : ρ[i]? = some .bag) (h : Ev G ρ te fun _ x => ∃ m : Int, x = .int m /\ 0 < m /\ Sm m /\ ∀ r : Int, 0 <= r -> r < m -> Φ true (.int r)) : Ev G ρ (tCall spDraw [] E0 (tCons (tVar i) (tCons te tNil))) Φ := fun nb σ H Q W z => by
 obtain ⟨b, l, hB, e1, B⟩ := W.theBag e
 refine ⟨.ref b, e1, h nb σ H _ W fun f v H1 d ⟨m, ed, h1, h2, p⟩ s1 hv => ?_⟩
 subst ed
 exact ⟨b, l, m, by rw [hv.ofI]; rfl, s1.2 b l hB, h1, h2, fun r H' r1 r2 bt B' => z true _ H' _ (p r r1 r2) (s1.trans (.ofBut hB bt B')) (.int r)⟩
theorem Ev.prime (e : ρ[i]? = some .bag) (h : ∀ p : Int, IsP p -> Φ true (.int p)) : Ev G ρ (tCall spPrime [] E0 (tCons (tVar i) tNil)) Φ := fun nb σ H Q W z => by
 obtain ⟨b, l, hB, e1, B⟩ := W.theBag e
 exact ⟨.ref b, e1, b, l, rfl, B, fun p H' hp bt B' => z true _ H' _ (h p hp) (.ofBut hB bt B') (.int p)⟩
theorem Ev.whole (h : Ev G ρ te fun _ x => ∃ n, x = .int n /\ Φ true (.bool true)) : Ev G ρ (tCall spWhole [] E0 (tCons te tNil)) Φ := fun nb σ H Q W z =>
 h nb σ H _ W fun f v H1 d ⟨n, e, q⟩ s1 hv => by subst e; exact ⟨n, by rw [hv.ofI]; rfl, z true _ H1 _ q s1 (.bl _)⟩
namespace Gv
variable {Θ : Rh -> Prop}
theorem name (h : Θ (ρ.set i (.d f d))) : Gv G ρ (gName i) f d Θ := fun nb σ H v Q W hv z => z _ _ h (W.setD hv)
theorem nameF (h : Θ (ρ.set i (.d false d))) : Gv G ρ (gName i) f d Θ := fun nb σ H v Q W hv z => z _ _ h (W.setD (hv.av (S_mono (fun z => by cases z) fun _ z => z)))
theorem nameS (hs : scB d = true) (h : Θ (ρ.set i (.d true d))) : Gv G ρ (gName i) f d Θ := fun nb σ H v Q W hv z => z _ _ h (W.setD (hv.scAny hs))
theorem nameI {n : Int} (h : Θ (ρ.set i (.d true (.int n)))) : Gv G ρ (gName i) f (.int n) Θ := nameS rfl h
theorem tup {n : Nat} {u : TGs} (hl : ds.length = n) (h : Gvs G ρ u f ds Θ) : Gv G ρ (gTup K n u) f (.tuple ds) Θ := fun nb σ H v Q W hv z => by
 obtain ⟨a, xs, rfl, m, hx, hd⟩ := hv.ofT
 exact ⟨a, xs, rfl, .of hx, by rw [hd.length]; exact hl, h nb σ H xs Q W hd z⟩
theorem snil (h : Θ ρ) : Gvs G ρ gNil f [] Θ := fun nb σ H vs Q W hv z => by unfold IsDs at hv; exact ⟨hv, z _ _ h W⟩
theorem scons {u : TG} {us : TGs} (h : Gv G ρ u f d fun ρ1 => Gvs G ρ1 us f ds Θ) : Gvs G ρ (gCons u us) f (d :: ds) Θ := fun nb σ H vs Q W hv z => by
 unfold IsDs at hv
 obtain ⟨y, ys, rfl, h1, h2⟩ := hv
 exact ⟨y, ys, rfl, h nb σ H y _ W h1 fun σ' ρ' q W' => q nb σ' H ys Q W' h2 z⟩
end Gv
namespace Sv
variable {E : DE} {s u : TS}
theorem seq (h : Sv G ρ s { E with nx := fun ρ1 => Sv G ρ1 u E }) : Sv G ρ (tSeq s u) E := fun nb σ H D W K => h nb σ H _ W ⟨fun nb' ρ' σ' H' q W' => q nb' σ' H' D W' K, K.bk, K.ct, K.rt, K.rw⟩
theorem next (h : E.nx ρ) : Sv G ρ tNext E := fun nb σ H D W K => K.nx nb ρ σ H h W
theorem brk (h : E.bk ρ) : Sv G ρ tBreak E := fun nb σ H D W K => K.bk nb ρ σ H h W
theorem cont (h : E.ct ρ) : Sv G ρ tCont E := fun nb σ H D W K => K.ct nb ρ σ H h W
theorem asg {g : TG} (h : Ev G ρ te fun f d => Gv G ρ g f d E.nx) : Sv G ρ (tAsg te g) E := fun nb σ H D W K => h nb σ H _ W fun f v H1 d q s1 hv => q nb σ H1 v _ (W.step s1) hv fun σ' ρ' p W' => K.nx nb ρ' σ' H1 p W'
theorem drop (h : Ev G ρ te fun _ _ => E.nx ρ) : Sv G ρ (tDrop te) E := fun nb σ H D W K => h nb σ H _ W fun f v H1 d q s1 hv => K.nx nb ρ σ H1 q (W.step s1)
theorem ret (h : Ev G ρ te E.rt) : Sv G ρ (tRet te) E := fun nb σ H D W K => h nb σ H _ W fun f v H1 d q s1 hv => K.rt nb ρ σ f v H1 d q (W.step s1) (hv.av (S_mono (fun z => z) fun _ z => z.elim))
theorem retOwn {a : Addr} (e : ρ[i]? = some (.own a f ds)) (h : E.rt f (.list ds)) : Sv G ρ (tRet (tVar i)) E := fun nb σ H D W K => by
 obtain ⟨x, e1, h1, h2, h3, xs, hx, hd⟩ := W.ok i _ e
 subst h1
 refine ⟨.ref a, e1, K.rt nb ρ σ f _ H _ h W (.lst (fun z => ?_) hx (hd.av (S_mono (fun z => z) fun _ z => z.elim)))⟩
 rcases z with z | z | z | z
 ·exact z
 ·exact W.gA a z (W.nbo a h2 h3)
 ·exact z h3
 ·exact z.2 (W.nbo a h2 h3)
theorem ifS {c : TT} (h : Tv G ρ c fun b => if b = true then Sv G ρ s E else Sv G ρ u E) : Sv G ρ (tIfS c s u) E := fun nb σ H D W K => h nb σ H _ W fun b H1 q s1 => by
 cases b with
 | true => rw [if_pos rfl] at q ⊢; exact q nb σ H1 D (W.step s1) K
 | false => rw [if_neg zq15x] at q ⊢; exact q nb σ H1 D (W.step s1) K
theorem own_of {nb : Addr -> Prop} {σ : St} {H H1 : Hp} {a : Addr} {xs : List V} (W : Wd G nb ρ σ H) (s1 : Step G.B H H1) (ha : H a = none) (e : H1 a = some (.lst xs)) (hd : IsDs (fun x => G.S nb f x \/ x = a) H1 ds xs) :
    Wd G (fun x => nb x \/ x = a) (ρ.set i (.own a f ds)) (σ.set i (some (.ref a))) H1 := by
  have hN : NB G.B a := fun b l e z => by
    subst z
    obtain ⟨_, _, _, _, _, h1, _⟩ := W.bag _ _ e
    rw [h1] at ha; cases ha
  have hA : ∀ f x, G.S (fun x => nb x \/ x = a) f x -> (G.S nb f x \/ x = a) := fun f x z => by
    rcases z with (z | z) | z | z | z
    · exact .inl (.inl z)
    · exact .inr z
    · exact .inl (.inr (.inl z))
    · exact .inl (.inr (.inr (.inl z)))
    · exact .inl (.inr (.inr (.inr z)))
  have W1 := W.step s1
  have W2 : Wd G (fun x => nb x \/ x = a) ρ σ H1 := by
    refine ⟨W1.bag, fun x n => ?_, W1.old, fun x n q => ?_, W.gA, W.len, W.gB, fun h m => (((W.hld h m).fresh ha).keep (s1.but fun x z => .inl (.inr (.inr (.inl z))))).av (hA h.1), fun j s e' => ?_, W.apart, W.apd, W.apc⟩
    · rcases n with n | n
      · exact W1.live x n
      · subst n; rw [e]; exact zq65x _
    · rcases n with n | n
      · exact W.nbo x n q
      · subst n
        cases z : G.H0 x with
        | none => rfl
        | some o => rw [W.old x o q z] at ha; cases ha
    · obtain ⟨x, e1, h⟩ := W.ok j s e'
      refine ⟨x, e1, ?_⟩
      cases s with
      | no => trivial
      | d f d => obtain ⟨v, e, h⟩ := h; exact ⟨v, e, ((h.fresh ha).keep (s1.but fun x z => .inl (.inr (.inr (.inl z))))).av (hA f)⟩
      | own c f es => obtain ⟨e, n, q, xs, hx, hd⟩ := h; exact ⟨e, .inl n, q, xs, s1.1 _ _ q hx, ((hd.fresh ha).keep (s1.but fun x z => .inl (.inr (.inr (.inl z))))).av (hA f)⟩
      | bag => exact h
      | raw v => exact h
      | dic c f es => obtain ⟨e, n, q, xs, hx, hd⟩ := h; exact ⟨e, .inl n, q, xs, s1.1 _ _ q hx, ((hd.fresh ha).keep (s1.but fun x z => .inl (.inr (.inr (.inl z))))).av (hA f)⟩
      | cu c =>
        obtain ⟨e, n, q⟩ := h
        refine ⟨e, fun a ha => ⟨.inl (n a ha).1, (n a ha).2⟩, c.av (hA c.f) (c.keep (.of fun x o hx e => s1.1 x o ?_ e) (c.fresh ha q))⟩
        rcases hx with hx | hx
        · exact zq59x fun z => hx (.inl (.inr (.inr (.inl z))))
        · exact (n x hx).2
  refine W2.set ⟨rfl, .inr rfl, hN, xs, e, hd.av (hA f)⟩ ?_ (fun _ _ _ z => by cases z) (fun x hx j t hj ht hc => ?_)
  rotate_left
  · have hx : x = a := zq17x.mp hx
    subst hx
    rcases hc with ⟨c, z⟩ | ⟨c, rfl⟩
    · cases z
    · exact fun z => W.live x ((W.ok j _ ht).choose_spec.2.2.1 x z).1 ha
  rintro a' f' ds' ⟨rfl, rfl, rfl⟩ j c g cs hj hc z
  subst z
  obtain ⟨x, e1, h1, h2, h3, ys, hy, _⟩ := W.ok j _ hc
  rw [hy] at ha; cases ha
theorem asgN (h : EvN G ρ te fun f ds => ∀ a, E.nx (ρ.set i (.own a f ds))) : Sv G ρ (tAsg te (gName i)) E := fun nb σ H D W K => h nb σ H _ W fun f a xs H1 ds q s1 ha e hd => K.nx _ _ _ H1 (q a) (own_of W s1 ha e hd)
theorem setCN (h : EvN G ρ te fun f ds => ∀ a, E.nx (ρ.set i (.own a f ds))) : Sv G ρ (tSetC i te) E := fun nb σ H D W K => h nb σ H _ W fun f a xs H1 ds q s1 ha e hd => K.nx _ _ _ H1 (q a) (own_of W s1 ha e hd)
theorem writeOwn {nb : Addr -> Prop} {σ : St} {H : Hp} {a : Addr} {xs : List V} (W : Wd G nb ρ σ H) (e : ρ[i]? = some (.own a f ds)) (hd : IsDs (G.S nb g) H es xs) : Wd G nb (ρ.set i (.own a g es)) σ (upd H a (.lst xs)) := by
  obtain ⟨x, e1, h1, h2, h3, ys, hy, _⟩ := W.ok i _ e
  subst h1
  have hil : i < ρ.length := (zq8x.mp e).1
  have W0 : Wd G nb (ρ.set i .no) (σ.set i (some (.ref a))) H := W.set trivial fun _ _ _ z => by cases z
  have W1 : Wd G nb (ρ.set i .no) (σ.set i (some (.ref a))) (upd H a (.lst xs)) := W0.write h2 h3 (fun j c f' cs hc => by
    by_cases hij : i = j
    · subst hij; rw [zq18x hil] at hc; cases hc
    · rw [zq6x hij] at hc
      exact (W.apart i j _ _ _ _ _ _ hij e hc).symm
   ) (fun j c f' cs hc z => by
      subst z
      have hij : i ≠ j := fun z => by subst z; rw [zq18x hil] at hc; cases hc
      rw [zq6x hij] at hc
      obtain ⟨_, _, _, _, _, ps, hp, _⟩ := W.ok j _ hc
      rw [hy] at hp; cases hp) (fun j c hc z => by
      have hij : i ≠ j := fun z => by subst z; rw [zq18x hil] at hc; cases hc
      rw [zq6x hij] at hc
      exact W.apc j i c _ (zq11x hij) hc e a z (zq17x.mpr rfl))
  have W2 := W1.set (i := i) (s := .own a g es) (x := some (.ref a)) ⟨rfl, h2, h3, xs, upd_same, hd.keep (But.set (.inl h2))⟩ (by
    rintro a' f' ds' ⟨rfl, rfl, rfl⟩ j c g' cs hj hc
    rw [zq6x (zq11x hj)] at hc
    exact W.apart i j _ _ _ _ _ _ (zq11x hj) e hc) (fun _ _ _ z => by cases z) (fun x hx j t hj ht hc z => by
    rw [zq6x (zq11x hj)] at ht
    have hx : x = a := zq17x.mp hx
    subst hx
    rcases hc with ⟨c, q⟩ | ⟨c, rfl⟩
    · cases q
    · exact W.apc j i c _ hj ht e x z (zq17x.mpr rfl))
  rw [zq66x, zq66x] at W2
  have : σ.set i (some (.ref a)) = σ := by
    apply zq82x
    intro j
    by_cases hij : i = j
    · subst hij; rw [zq18x (by rw [W.len]; exact hil), e1]
    · rw [zq6x hij]
  rwa [this] at W2
theorem append {a : Addr} (e : ρ[i]? = some (.own a f ds)) (h : Ev G ρ te fun g d => ds.length < 10000 /\ E.nx (ρ.set i (.own a (f && g) (ds ++ [d])))) : Sv G ρ (tDrop (tBM K "list" rAppend (tVar i) (tCons te tNil))) E := fun nb σ H D W KK => by
 obtain ⟨x, e1, h1, h2, h3, xs, hx, hd⟩ := W.ok i _ e
 subst h1
 refine ⟨.ref a, e1, .inl ⟨rfl, _, SqL.of hx⟩, h nb σ H _ W fun g v H1 d ⟨hl, q⟩ s1 hv => ?_⟩
 have W1 := W.step s1
 have hx1 := s1.1 _ _ h3 hx
 refine ⟨a, xs, v, rfl, rfl, hx1, zq26x (by rw [hd.length]; exact hl) (by decide), KK.nx nb _ _ _ q (writeOwn W1 e ?_)⟩
 exact IsDs.snoc (hv.av (S_mono (fun z => (zq23x _ _ ▸ z).2) fun _ z => z)) ((hd.keep s1.butS).av (S_mono (fun z => (zq23x _ _ ▸ z).1) fun _ z => z))
theorem IsDs.set' {nb : Addr -> Prop} {H : Hp} {x : V} (hd : IsD nb H d x) : ∀ {ds : List PyData} {xs : List V} (j : Nat), IsDs nb H ds xs -> IsDs nb H (ds.set j d) (xs.set j x)
 | [], _, j, h => by unfold IsDs at h; subst h; exact .nil
 | e :: ds, _, 0, h => by unfold IsDs at h; obtain ⟨y, ys, rfl, h1, h2⟩ := h; exact .cons hd h2
 | e :: ds, _, j + 1, h => by unfold IsDs at h; obtain ⟨y, ys, rfl, h1, h2⟩ := h; exact .cons h1 (IsDs.set' hd j h2)
theorem setOwn {a : Addr} (e : ρ[i]? = some (.own a f ds)) (h : Ev G ρ te fun g d => Ev G ρ tb fun _ y => ∃ k j, y = .int k /\ ixN ds.length k = some j /\ E.nx (ρ.set i (.own a (f && g) (ds.set j d)))) : Sv G ρ (tAsg te (gSub (tVar i) tb rSetL)) E := fun nb σ H D W KK =>
 h nb σ H _ W fun g v H1 d q s1 hv => by
  obtain ⟨x, e1, h1, h2, h3, xs, hx, hd⟩ := (W.step s1).ok i _ e
  subst h1
  refine ⟨.ref a, e1, q nb σ H1 _ (W.step s1) fun g' u H2 y ⟨k, j, ey, hj, p⟩ s2 hu => ?_⟩
  subst ey
  have W2 := (W.step s1).step s2
  refine ⟨a, xs, k, j, rfl, hu.ofI, s2.1 _ _ h3 hx, by rw [hd.length]; exact hj, KK.nx nb _ _ _ p (writeOwn W2 e ?_)⟩
  exact IsDs.set' ((hv.keep s2.butS).av (S_mono (fun z => (zq23x _ _ ▸ z).2) fun _ z => z)) j ((hd.keep s2.butS).av (S_mono (fun z => (zq23x _ _ ▸ z).1) fun _ z => z))
theorem share {nb : Addr -> Prop} {σ : St} {H : Hp} {a : Addr} (W : Wd G nb ρ σ H) (e : ρ[i]? = some (.own a f ds)) : Wd G (fun x => nb x /\ x ≠ a) (ρ.set i (.d f (.list ds))) σ H := by
  obtain ⟨x, e1, h1, h2, h3, xs, hx, hd⟩ := W.ok i _ e
  subst h1
  have hil : i < ρ.length := (zq8x.mp e).1
  have W0 : Wd G nb (ρ.set i .no) (σ.set i (some (.ref a))) H := W.set trivial fun _ _ _ z => by cases z
  have W1 : Wd G (fun x => nb x /\ x ≠ a) (ρ.set i .no) (σ.set i (some (.ref a))) H := by
    refine ⟨W0.bag, fun x n => W0.live x n.1, W0.old, fun x n => W0.nbo x n.1, W0.gA, W0.len, W0.gB, fun h m => (W0.hld h m).av (S_mono (fun z => z) fun _ z => z.1), fun j s e' => ?_, W0.apart, W0.apd, W0.apc⟩
    obtain ⟨x, e1', h⟩ := W0.ok j s e'
    refine ⟨x, e1', ?_⟩
    have hij : s ≠ .no -> i ≠ j := fun n z => by subst z; rw [zq18x hil] at e'; cases e'; exact n rfl
    cases s with
    | no => trivial
    | d f d => obtain ⟨v, e, h⟩ := h; exact ⟨v, e, h.av (S_mono (fun z => z) fun _ z => z.1)⟩
    | own c f es =>
      obtain ⟨e2, n, q, xs, hx, hd⟩ := h
      have hij := hij (by intro z; cases z)
      rw [zq6x hij] at e'
      exact ⟨e2, ⟨n, (W.apart i j _ _ _ _ _ _ hij e e').symm⟩, q, xs, hx, hd.av (S_mono (fun z => z) fun _ z => z.1)⟩
    | bag => exact h
    | raw v => exact h
    | dic c f es =>
      obtain ⟨e2, n, q, ps, hp, hd⟩ := h
      have hca : c ≠ a := fun z => by subst z; rw [hx] at hp; cases hp
      exact ⟨e2, ⟨n, hca⟩, q, ps, hp, hd.av (S_mono (fun z => z) fun _ z => z.1)⟩
    | cu c =>
      obtain ⟨e2, n, q⟩ := h
      have hij := hij (by intro z; cases z)
      rw [zq6x hij] at e'
      exact ⟨e2, fun x hx => ⟨⟨(n x hx).1, fun z => W.apc j i c _ (zq11x hij) e' e x hx (by rw [z]; exact zq17x.mpr rfl)⟩, (n x hx).2⟩, c.av (S_mono (fun z => z) fun _ z => z.1) q⟩
  have W2 := W1.setD (i := i) (f := f) (d := .list ds) (v := .ref a) (.lst (fun z => by
    rcases z with z | z | z | z
    · exact z.2 rfl
    · exact W.gA a z (W.nbo a h2 h3)
    · exact z h3
    · exact z.2 (W.nbo a h2 h3)) hx (hd.av (S_mono (fun z => z) fun _ z => z.1)))
  rw [zq66x, zq66x] at W2
  have : σ.set i (some (.ref a)) = σ := by
    apply zq82x
    intro j
    by_cases hij : i = j
    · subst hij; rw [zq18x (by rw [W.len]; exact hil), e1]
    · rw [zq6x hij]
  rwa [this] at W2
theorem demote {a : Addr} (i : Nat) (e : ρ[i]? = some (.own a f ds)) (h : Sv G (ρ.set i (.d f (.list ds))) s E) : Sv G ρ s E := fun nb σ H D W K => h _ σ H D (share W e) K
theorem wk {ρ' : Rh} (w : Wk ρ' ρ) (h : Sv G ρ' s E) : Sv G ρ s E := fun nb σ H D W K => h nb σ H D (W.wk w) K
end Sv
end
end L2
set_option maxRecDepth 100000
set_option maxHeartbeats 1000000
namespace L2
open PySem PySem.Spec PyProof.Rows
abbrev Gx.hd (G : Gx) (f : Bool) (d : PyData) (v : V) : Gx := { G with hold := (f, .d d, v) :: G.hold }
section
variable {G : Gx} {ρ ρc : Rh} {Φ Ψ : Pd} {ta tb te : TE} {t : TA} {i : Nat} {f g : Bool} {d e : PyData} {ds es : List PyData} {K : PySem.W.Frag}
theorem Wd.hd {nb : Addr -> Prop} {σ : St} {H : Hp} {v : V} (W : Wd G nb ρ σ H) (h : IsD (G.S nb f) H d v) : Wd (G.hd f d v) nb ρ σ H :=
 ⟨W.bag, W.live, W.old, W.nbo, W.gA, W.len, W.gB, fun x m => by
  rcases zq3x.mp m with e | m
  ·subst e; exact h
  ·exact W.hld x m, fun i s e => by
   obtain ⟨x, e1, h⟩ := W.ok i s e
   refine ⟨x, e1, ?_⟩
   cases s <;> exact h, W.apart, W.apd, W.apc⟩
theorem Wd.unhd {nb : Addr -> Prop} {σ : St} {H : Hp} {v : V} (W : Wd (G.hd f d v) nb ρ σ H) : Wd G nb ρ σ H /\ IsD (G.S nb f) H d v :=
 ⟨⟨W.bag, W.live, W.old, W.nbo, W.gA, W.len, W.gB, fun x m => W.hld x (zq21x _ m), fun i s e => by
   obtain ⟨x, e1, h⟩ := W.ok i s e
   refine ⟨x, e1, ?_⟩
   cases s <;> exact h, W.apart, W.apd, W.apc⟩, W.hld _ (zq27x ..)⟩
namespace Sv
variable {E : DE} {s : TS} {gt : TG}
def Turns (G : Gx) (ρ : Rh) (n : Nat) (it : Nat -> PyData -> Prop) (fi : Bool) (gt : TG) (s : TS) (E : DE) : Prop :=
 ∃ I : Nat -> Rh -> Prop, I 0 ρ /\ (∀ i d ρ', it i d -> I i ρ' -> Gv G ρ' gt fi d fun ρ2 => Sv G ρ2 s { nx := I (i + 1), rt := E.rt, bk := E.nx, ct := I (i + 1), rw := E.rw }) /\ ∀ ρ', I n ρ' -> E.nx ρ'
theorem loopR {lo : Int} {n : Nat} {nb : Addr -> Prop} {σ : St} {H : Hp} {D : Ends} (W : Wd G nb ρ σ H) (KK : EndsOk G E D) (h : Turns G ρ n (fun i d => i < n /\ d = .int (lo + i)) true gt s E) :
  ∃ W : Nat -> Nat -> St -> Hp -> Prop, (∃ m, W 0 m σ H) /\ ∀ i m σ H, W i m σ H ->
   ((Itr lo n).stop i H /\ D.nx σ H) \/ ((Itr lo n).go i H /\ ∃ N : St -> Hp -> Prop, (∀ σ' H', N σ' H' -> ∃ m', m' < m /\ W (i + 1) m' σ' H') /\ ∀ x H', (Itr lo n).yld i H x H' -> gt x σ H' fun σ2 H2 => s { D with nx := N, ct := N, bk := D.nx } σ2 H2) := by
 obtain ⟨I, h0, ht, he⟩ := h
 refine for_range (fun i σ H => ∃ nb ρ', I i ρ' /\ Wd G nb ρ' σ H) ⟨nb, ρ, h0, W⟩ ?_ ?_
 ·rintro i σ H hi ⟨nb, ρ', hI, W⟩
  refine ht i _ ρ' ⟨hi, rfl⟩ hI nb σ H _ _ W (.int _) fun σ2 ρ2 q W2 => q nb σ2 H _ W2 ?_
  exact ⟨fun nb ρ σ H q W => ⟨nb, ρ, q, W⟩, KK.nx, fun nb ρ σ H q W => ⟨nb, ρ, q, W⟩, KK.rt, KK.rw⟩
 ·rintro σ H ⟨nb, ρ', hI, W⟩
  exact KK.nx nb ρ' σ H (he ρ' hI) W
theorem forR1 (h : Ev G ρ te fun _ x => ∃ n : Int, x = .int n /\ -(2 ^ 62) <= n /\ n < 2 ^ 62 /\ Turns G ρ n.toNat (fun i d => i < n.toNat /\ d = .int (0 + i)) true gt s E) : Sv G ρ (tFor (iRng1 (tCons te tNil)) gt s) E := fun nb σ H D W KK =>
 h nb σ H _ W fun f v H1 x ⟨n, ex, h1, h2, q⟩ s1 hv => by
  subst ex
  rw [hv.ofI]
  exact ⟨n, rfl, h1, h2, loopR (W.step s1) KK q⟩
theorem forL (h : Ev G ρ te fun f x => ∃ ds, x = .list ds /\ ∀ v, Turns (G.hd f (.list ds) v) ρ ds.length (fun i d => ds[i]? = some d) f gt s E) : Sv G ρ (tFor (iList K te) gt s) E := fun nb σ H D W KK =>
 h nb σ H _ W fun f v H1 x ⟨ds, ex, q⟩ s1 hv => by
  subst ex
  obtain ⟨I, h0, ht, he⟩ := q v
  have W1 := (W.step s1).hd hv
  obtain ⟨a, xs, rfl, n, hx, hd⟩ := hv.ofL
  have key : ∀ {nb ρ' σ H}, Wd (G.hd f (.list ds) (.ref a)) nb ρ' σ H -> ∃ xs, H a = some (.lst xs) /\ IsDs (G.S nb f) H ds xs := fun W => by
   obtain ⟨a', xs', e', _, h', d'⟩ := W.unhd.2.ofL
   cases e'
   exact ⟨xs', h', d'⟩
  refine ⟨a, rfl, ⟨xs, .of hx⟩, ?_⟩
  refine ⟨fun i m σ H => m = ds.length - i /\ i <= ds.length /\ ∃ nb ρ', I i ρ' /\ Wd (G.hd f (.list ds) (.ref a)) nb ρ' σ H, ⟨ds.length, by simp, zq43x _, nb, ρ, h0, W1⟩, ?_⟩
  rintro i m σ H ⟨rfl, hi, nb, ρ', hI, W⟩
  obtain ⟨ys, hy, hD⟩ := key W
  have hl := hD.length
  by_cases hlt : i < ds.length
  ·refine .inr ⟨⟨ys, ys[i]'(by omega), .of hy, zq1x _⟩, fun σ H => ∃ nb ρ', I (i + 1) ρ' /\ Wd (G.hd f (.list ds) (.ref a)) nb ρ' σ H, fun σ' H' q => ⟨ds.length - (i + 1), by omega, rfl, hlt, q⟩, fun x H' y => ?_⟩
   obtain ⟨e, y⟩ := y
   subst e
   have hx := y ys (.of hy)
   obtain ⟨x', hx', dx⟩ := hD.get (zq1x hlt)
   rw [hx] at hx'; cases hx'
   refine ht i _ ρ' (zq1x hlt) hI nb σ _ _ _ W dx fun σ2 ρ2 q W2 => q nb σ2 _ _ W2 ?_
   exact ⟨fun nb ρ σ H q W => ⟨nb, ρ, q, W⟩, fun nb ρ σ H q W => KK.nx nb ρ σ H q W.unhd.1, fun nb ρ σ H q W => ⟨nb, ρ, q, W⟩, fun nb ρ σ f v H d q W hv => KK.rt nb ρ σ f v H d q W.unhd.1 hv, fun nb ρ σ v H q W => KK.rw nb ρ σ v H q W.unhd.1⟩
  ·have e : i = ds.length := by omega
   subst e
   exact .inl ⟨⟨ys, .of hy, by omega⟩, KK.nx nb ρ' σ H (he ρ' hI) W.unhd.1⟩
theorem while_ {c : TT} (I : Rh -> Prop) (μ : Rh -> Nat) (h0 : I ρ) (h : ∀ ρ', I ρ' -> Tv G ρ' c fun b => if b = true then Sv G ρ' s { nx := fun ρ2 => I ρ2 /\ μ ρ2 < μ ρ', rt := E.rt, bk := E.nx, ct := fun ρ2 => I ρ2 /\ μ ρ2 < μ ρ', rw := E.rw } else E.nx ρ') : Sv G ρ (tWhile c s) E := fun nb σ H D W KK => by
  refine ⟨fun m σ H => ∃ nb ρ', I ρ' /\ Wd G nb ρ' σ H /\ m = μ ρ', ⟨_, nb, ρ, h0, W, rfl⟩, ?_⟩
  rintro m σ H ⟨nb, ρ', hI, W, rfl⟩
  refine h ρ' hI nb σ H _ W fun b H1 q s1 => ?_
  cases b with
  | true =>
    rw [if_pos rfl] at q ⊢
    refine ⟨fun σ' H' => ∃ nb ρ2, (I ρ2 /\ μ ρ2 < μ ρ') /\ Wd G nb ρ2 σ' H', fun σ' H' ⟨nb, ρ2, ⟨q1, q2⟩, W2⟩ => ⟨μ ρ2, q2, nb, ρ2, q1, W2, rfl⟩, q nb σ H1 _ (W.step s1) ?_⟩
    exact ⟨fun nb ρ σ H q W => ⟨nb, ρ, q, W⟩, KK.nx, fun nb ρ σ H q W => ⟨nb, ρ, q, W⟩, KK.rt, KK.rw⟩
  | false => rw [if_neg zq15x] at q ⊢; exact KK.nx nb ρ' σ H1 q (W.step s1)
end Sv
def startR (mp : List (Option Nat)) (ρ : Rh) : Rh := mp.map fun o => match o with | none => .no | some j => match ρ[j]? with | some s => s | none => .no
theorem mp_inj {mp : List (Option Nat)} (h : (mp.filterMap id).Nodup) : ∀ {i j k : Nat}, mp[i]? = some (some k) -> mp[j]? = some (some k) -> i = j := by
  induction mp with
  | nil => intro i j k e; simp at e
  | cons o r ih =>
    intro i j k e1 e2
    have hr : (r.filterMap id).Nodup := by
      cases o with
      | none => simpa using h
      | some x => rw [zq173x (by rfl)] at h; exact (zq55x.mp h).2
    have hn : ∀ {m : Nat}, r[m]? = some (some k) -> o ≠ some k := fun {m} hm e => by
      subst e
      rw [zq173x (by rfl)] at h
      exact (zq55x.mp h).1 (zq139x.mpr ⟨some k, zq4x hm, rfl⟩)
    cases i with
    | zero =>
      cases j with
      | zero => rfl
      | succ j => simp at e1 e2; exact absurd e1 (hn e2)
    | succ i =>
      cases j with
      | zero => simp at e1 e2; exact absurd e2 (hn e1)
      | succ j => simp at e1 e2; rw [ih hr e1 e2]
theorem Wd.startC {nb : Addr -> Prop} {σ : St} {H : Hp} {mp : List (Option Nat)} (W : Wd G nb ρ σ H) (hm : (mp.filterMap id).Nodup) : Wd G nb (startR mp ρ) (startC mp σ) H := by
  have hat : ∀ {i : Nat} {s : Sl}, (startR mp ρ)[i]? = some s -> s = .no \/ ∃ k, mp[i]? = some (some k) /\ ρ[k]? = some s := fun {i s} e => by
    unfold startR at e
    rw [zq10x] at e
    obtain ⟨o, ho, e⟩ := zq58x.mp e
    cases o with
    | none => exact .inl e.symm
    | some k =>
      cases hk : ρ[k]? with
      | none => simp only [hk] at e; exact .inl e.symm
      | some s' => simp only [hk] at e; subst e; exact .inr ⟨k, ho, hk⟩
  refine ⟨W.bag, W.live, W.old, W.nbo, W.gA, by unfold L2.startC startR; rw [zq0x, zq0x], W.gB, W.hld, fun i s e => ?_, fun i j a f as c g cs hij e1 e2 => ?_, fun i j a f as c g cs hij e1 e2 => ?_, fun i j c t hij e1 e2 a ha => ?_⟩
  · have hi : i < mp.length := by have := (zq8x.mp e).1; unfold startR at this; rwa [zq0x] at this
    rcases hat e with rfl | ⟨k, hk, hs⟩
    · exact ⟨_, by unfold L2.startC; rw [zq10x, zq1x hi]; rfl, trivial⟩
    · obtain ⟨x, e1, h⟩ := W.ok k s hs
      refine ⟨x, ?_, h⟩
      unfold L2.startC
      rw [zq10x, hk]
      simp only [Option.map_some, e1]
  · rcases hat e1 with z | ⟨k, hk, hs⟩
    · cases z
    rcases hat e2 with z | ⟨k', hk', hs'⟩
    · cases z
    exact W.apart k k' a f as c g cs (fun z => by subst z; exact hij (mp_inj hm hk hk')) hs hs'
  · rcases hat e1 with z | ⟨k, hk, hs⟩
    · cases z
    rcases hat e2 with z | ⟨k', hk', hs'⟩
    · cases z
    exact W.apd k k' a f as c g cs (fun z => by subst z; exact hij (mp_inj hm hk hk')) hs hs'
  · rcases hat e1 with z | ⟨k, hk, hs⟩
    · cases z
    rcases hat e2 with z | ⟨k', hk', hs'⟩
    · subst z; exact fun z => by cases z
    exact W.apc k k' c t (fun z => by subst z; exact hij (mp_inj hm hk hk')) hs hs' a ha
def NoOwn (ρ : Rh) (acc : Addr) : Prop := (∀ (j : Nat) a f ds, ρ[j]? = some (.own a f ds) -> a ≠ acc) /\ ∀ (j : Nat) c, ρ[j]? = some (.cu c) -> acc ∉ c.F
def CompD (G : Gx) (ρc : Rh) (n : Nat) (it : Nat -> PyData -> Prop) (fi : Bool) (gt : TG) (tc : TT) (te : TE) (Θ : Bool -> List PyData -> Prop) : Prop :=
 ∃ (fl : Bool) (I : Nat -> List PyData -> Prop), I 0 [] /\ (∀ i d ds, it i d -> ds.length <= i -> I i ds -> Gv G ρc gt fi d fun ρ1 => Wk ρc ρ1 /\ Tv G ρ1 tc fun b => if b = true then Ev G ρ1 te fun f e => (fl = true -> f = true) /\ I (i + 1) (ds ++ [e]) else I (i + 1) ds) /\
  ∀ ds, ds.length <= n -> I n ds -> Θ (fl || scAll ds) ds
theorem comp_turn {gt : TG} {tc : TT} {nb : Addr -> Prop} {acc : Addr} {σ : St} {H H1 : Hp} {x : V} {fi fl : Bool} {I : Nat -> List PyData -> Prop} {xs : List V} {N : St -> Hp -> Prop} {ds : List PyData} {n : Nat} (hn : n <= 10000) (hi : i < n)
    (W : Wd G nb ρc σ H) (ha : nb acc) (hN : NB G.B acc) (hno : NoOwn ρc acc) (st : Step G.B H1 H) (hacc : H1 acc = none) (hx : H acc = some (.lst xs)) (hd : IsDs (G.S nb fl) H ds xs) (hl : ds.length <= i) (hxd : IsD (G.S nb fi) H d x)
    (h : Gv G ρc gt fi d fun ρ1 => Wk ρc ρ1 /\ Tv G ρ1 tc fun b => if b = true then Ev G ρ1 te fun f e => (fl = true -> f = true) /\ I (i + 1) (ds ++ [e]) else I (i + 1) ds)
    (z : ∀ σ' H' ds' xs', Wd G nb ρc σ' H' -> Step G.B H1 H' -> H' acc = some (.lst xs') -> IsDs (G.S nb fl) H' ds' xs' -> ds'.length <= i + 1 -> I (i + 1) ds' -> N σ' H') :
    gt x σ H fun σ2 H2 => tc σ2 H2 fun b H3 => if b = true then te σ2 H3 fun v H4 => ∃ ys, H4 acc = some (.lst ys) /\ ys.length < sizeLine /\ N σ2 (upd H4 acc (.lst (ys ++ [v]))) else N σ2 H3 := by
  refine h nb σ H x _ W hxd fun σ2 ρ1 ⟨wk, q⟩ W2 => q nb σ2 H _ W2 fun b H3 q3 s3 => ?_
  have hx3 := s3.1 _ _ hN hx
  have hd3 := hd.keep (s3.butS (nb := nb) (f := fl))
  cases b with
  | false =>
    rw [if_neg zq15x] at q3 ⊢
    exact z σ2 H3 ds xs ((W2.step s3).wk wk) (st.trans s3) hx3 hd3 (by omega) q3
  | true =>
    rw [if_pos rfl] at q3 ⊢
    refine q3 nb σ2 H3 _ (W2.step s3) fun f v H4 e ⟨hf, hI⟩ s4 hv => ?_
    have hx4 := s4.1 _ _ hN hx3
    have hd4 := hd3.keep (s4.butS (nb := nb) (f := fl))
    have hlen := hd.length
    refine ⟨xs, hx4, zq26x (show xs.length < 10001 by omega) (by decide), ?_⟩
    have W4 : Wd G nb ρc σ2 H4 := ((W2.step s3).step s4).wk wk
    have bt : But (G.S nb fl) H4 (upd H4 acc (.lst (xs ++ [v]))) := But.set (.inl ha)
    have W5 : Wd G nb ρc σ2 (upd H4 acc (.lst (xs ++ [v]))) := W4.write ha hN hno.1 (fun j a f ds e z => by
      subst z
      obtain ⟨_, _, _, _, _, ps, hp, _⟩ := W4.ok j _ e
      rw [hx4] at hp; cases hp) hno.2
    refine z σ2 _ (ds ++ [e]) (xs ++ [v]) W5 ⟨fun a o n q => ?_, W5.bag⟩ upd_same (IsDs.snoc ((hv.av (S_mono hf fun _ z => z)).keep bt) (hd4.keep bt)) (by rw [zq25x, zq52x]; omega) hI
    have hne : a ≠ acc := fun z => by subst z; rw [hacc] at q; cases q
    rw [upd_ne hne]
    exact (st.trans (s3.trans s4)).1 a o n q
theorem no_own {nb : Addr -> Prop} {σ : St} {H : Hp} {a : Addr} (W : Wd G nb ρ σ H) (ha : H a = none) : NoOwn ρ a := by
 refine ⟨fun j c f ds e z => ?_, fun j c e z => ?_⟩
 ·subst z
  obtain ⟨x, e1, h1, h2, h3, ys, hy, _⟩ := W.ok j _ e
  rw [hy] at ha; cases ha
 ·obtain ⟨x, e1, h1, h2, h3⟩ := W.ok j _ e
  exact W.live a (h2 a z).1 ha
theorem hA_more {nb : Addr -> Prop} {a : Addr} {f : Bool} : ∀ x, (G.S nb f x \/ x = a) -> G.S (fun x => nb x \/ x = a) f x := fun x z => by
 rcases z with (z | z | z | z) | z
 ·exact .inl (.inl z)
 ·exact .inr (.inl z)
 ·exact .inr (.inr (.inl z))
 ·exact .inr (.inr (.inr z))
 ·exact .inl (.inr z)
theorem comp_end {nb : Addr -> Prop} {acc : Addr} {H H1 H' : Hp} {σ : St} {Q : VK} {Θ : Bool -> List PyData -> Prop} {xs : List V} {ds : List PyData} {fl : Bool} (W : Wd G nb ρ σ H) (s1 : Step G.B H H1) (hacc : H1 acc = none) (s2 : Step G.B H1 H') (hx : H' acc = some (.lst xs)) (hd : IsDs (G.S (fun x => nb x \/ x = acc) fl) H' ds xs) (p : Θ (fl || scAll ds) ds)
  (z : ∀ f a xs H' ds, Θ f ds -> Step G.B H H' -> H a = none -> H' a = some (.lst xs) -> IsDs (fun x => G.S nb f x \/ x = a) H' ds xs -> Q (.ref a) H') : Q (.ref acc) H' := by
 refine z _ acc xs H' ds p (s1.trans s2) (W.none_of s1 hacc) hx ?_
 cases hs : scAll ds with
 | true => exact IsDs.scAny hs hd
 | false => rw [zq117x]; exact hd.av hA_more
theorem NB.new {B : Bg} {H : Hp} {a : Addr} (h : BagOk B H) (ha : H a = none) : NB B a := zq59x fun z => NB.bag_live h z ha
namespace EvN
variable {Θ : Bool -> List PyData -> Prop} {gt : TG} {tc : TT} {mp : List (Option Nat)}
theorem compR {lo : Int} {n : Nat} {nb : Addr -> Prop} {σ : St} {H H1 : Hp} {Q : VK} (W : Wd G nb ρ σ H) (s1 : Step G.B H H1) (hm : (mp.filterMap id).Nodup) (hρ : startR mp ρ = ρc) (hn : n <= 10000) (h : CompD G ρc n (fun i d => i < n /\ d = .int (lo + i)) true gt tc te Θ)
  (z : ∀ f a xs H' ds, Θ f ds -> Step G.B H H' -> H a = none -> H' a = some (.lst xs) -> IsDs (fun x => G.S nb f x \/ x = a) H' ds xs -> Q (.ref a) H') (acc : Addr) (hacc : H1 acc = none) : CompW (Itr lo n) gt tc te acc (fun H' => Q (.ref acc) H') (startC mp σ) (upd H1 acc (.lst [])) := by
 obtain ⟨fl, I, h0, ht, he⟩ := h
 have W0 : Wd G nb ρc (L2.startC mp σ) H1 := by rw [<- hρ]; exact (W.step s1).startC hm
 have W1 := W0.more hacc (o := .lst [])
 have hN := NB.new s1.2 hacc
 have hno := no_own W0 hacc
 have st0 : Step G.B H1 (upd H1 acc (.lst [])) := .same s1.2 (same_new hacc)
 refine R.comp_range (fun i σ H => ∃ ds xs, Wd G (fun x => nb x \/ x = acc) ρc σ H /\ Step G.B H1 H /\ H acc = some (.lst xs) /\ IsDs (G.S (fun x => nb x \/ x = acc) fl) H ds xs /\ ds.length <= i /\ I i ds) ⟨[], [], W1, st0, upd_same, .nil, zq5x _, h0⟩ ?_ ?_
 ·rintro i σ H hi ⟨ds, xs, W, st, hx, hd, hl, hI⟩
  exact comp_turn hn hi W (.inr rfl) hN hno st hacc hx hd hl (.int _) (ht i _ ds ⟨hi, rfl⟩ hl hI) fun σ' H' ds' xs' W' st' hx' hd' hl' hI' => ⟨ds', xs', W', st', hx', hd', hl', hI'⟩
 ·rintro σ H' ⟨ds, xs, W', st, hx, hd, hl, hI⟩
  exact comp_end W s1 hacc st hx hd (he ds hl hI) z
theorem compR1 {t0 : TE} (hm : (mp.filterMap id).Nodup) (hρ : startR mp ρ = ρc) (h : Ev G ρ t0 fun _ x => ∃ n : Int, x = .int n /\ -10000 <= n /\ n <= 10000 /\ CompD G ρc n.toNat (fun i d => i < n.toNat /\ d = .int (0 + i)) true gt tc te Θ) : EvN G ρ (tComp (iRng1 (tCons t0 tNil)) gt tc te mp) Θ := fun nb σ H Q W z =>
 h nb σ H _ W fun f v H1 x ⟨n, ex, h1, h2, q⟩ s1 hv => by
  subst ex
  rw [hv.ofI]
  exact ⟨n, rfl, by omega, by omega, compR W s1 hm hρ (by omega) q z⟩
theorem compR2 {t0 t1 : TE} (hm : (mp.filterMap id).Nodup) (hρ : startR mp ρ = ρc) (h : Ev G ρ t0 fun _ x => ∃ m : Int, x = .int m /\ Ev G ρ t1 fun _ y => ∃ n : Int, y = .int n /\ (-10000 <= m /\ m <= 10000 /\ -10000 <= n /\ n <= 10000 /\ n - m <= 10000) /\ CompD G ρc (n - m).toNat (fun i d => i < (n - m).toNat /\ d = .int (m + i)) true gt tc te Θ) : EvN G ρ (tComp (iRng2 (tCons t0 (tCons t1 tNil))) gt tc te mp) Θ := fun nb σ H Q W z =>
 h nb σ H _ W fun f v H1 x ⟨m, ex, q⟩ s1 hv => q nb σ H1 _ (W.step s1) fun f' u H2 y ⟨n, ey, hb, q⟩ s2 hu => by
  subst ex ey
  rw [hv.ofI, hu.ofI]
  exact ⟨m, n, rfl, by omega, compR W (s1.trans s2) hm hρ (by omega) q z⟩
theorem compL {t0 : TE} (hm : (mp.filterMap id).Nodup) (hρ : startR mp ρ = ρc) (h : Ev G ρ t0 fun fi x => ∃ es, x = .list es /\ es.length <= 10000 /\ ∀ v, CompD (G.hd fi (.list es) v) ρc es.length (fun i d => es[i]? = some d) fi gt tc te Θ) : EvN G ρ (tComp (iList K t0) gt tc te mp) Θ := fun nb σ H Q W z =>
 h nb σ H _ W fun fi v H1 x ⟨es, ex, hn, q⟩ s1 hv => by
  subst ex
  obtain ⟨fl, I, h0, ht, he⟩ := q v
  have W0 := (W.step s1).hd hv
  obtain ⟨a, xs, rfl, n, hx, hd⟩ := hv.ofL
  refine ⟨a, rfl, ⟨xs, .of hx⟩, fun acc hacc => ?_⟩
  have W0' : Wd (G.hd fi (.list es) (.ref a)) nb ρc (L2.startC mp σ) H1 := by rw [<- hρ]; exact W0.startC hm
  have W1 := W0'.more hacc (o := .lst [])
  have hN := NB.new s1.2 hacc
  have hno := no_own W0' hacc
  have st0 : Step G.B H1 (upd H1 acc (.lst [])) := .same s1.2 (same_new hacc)
  have hNa : NB G.B a := zq59x fun z => n (.inr (.inr (.inl z)))
  refine R.comp_list (xs := xs) (fun i σ H => ∃ ds ys, Wd (G.hd fi (.list es) (.ref a)) (fun x => nb x \/ x = acc) ρc σ H /\ Step G.B H1 H /\ H acc = some (.lst ys) /\ IsDs (G.S (fun x => nb x \/ x = acc) fl) H ds ys /\ ds.length <= i /\ I i ds) ⟨[], [], W1, st0, upd_same, .nil, zq5x _, h0⟩ ?_ ?_ ?_
  ·rintro i σ H hi ⟨ds, ys, W, st, _⟩
   exact .of (st.1 _ _ hNa hx)
  ·rintro i x σ H hi ⟨ds, ys, W, st, hy, hd', hl, hI⟩
   obtain ⟨a', xs', e', _, h', d'⟩ := W.unhd.2.ofL
   cases e'
   rw [st.1 _ _ hNa hx] at h'; cases h'
   have hil : i < es.length := by have := (zq8x.mp hi).1; have := d'.length; omega
   obtain ⟨x', hx', dx⟩ := d'.get (zq1x hil)
   rw [hi] at hx'; cases hx'
   exact comp_turn (G := G.hd fi (.list es) (.ref a)) hn hil W (.inr rfl) hN hno st hacc hy hd' hl dx (ht i _ ds (zq1x hil) hl hI) fun σ' H' ds' xs' W' st' hx' hd' hl' hI' => ⟨ds', xs', W', st', hx', hd', hl', hI'⟩
  ·rintro σ H' ⟨ds, ys, W', st, hy, hd', hl, hI⟩
   rw [hd.length] at hl hI
   exact comp_end W s1 hacc st hy hd' (he ds hl hI) z
end EvN
end
end L2
set_option maxRecDepth 100000
set_option maxHeartbeats 1000000
namespace L2
open PySem PySem.Spec PyProof.Rows
section
variable {ρ : Rh} {t : TS} {N : List Str} {vs : List V} {ds : List PyData} {nb : Addr -> Prop} {H : Hp} {Q : VK} {Φ : Pd} {b l : Addr}
theorem isDs_at {xs : List V} (h : IsDs nb H ds xs) {i : Nat} {s : Sl} (e : (ds.map (Sl.d false))[i]? = some s) : ∃ v d, xs[i]? = some v /\ s = .d false d /\ IsD nb H d v := by
 rw [zq10x] at e
 obtain ⟨d, hd, e⟩ := zq58x.mp e
 obtain ⟨v, hv, q⟩ := h.get hd
 exact ⟨v, d, hv, e.symm, q⟩
theorem Sv.enterD (hl : Live nb H) (hd : IsDs nb H ds vs) (hΦ : ∀ f d v H', Φ f d -> Same H H' -> IsD (fun a => nb a \/ (f = true /\ H a ≠ none)) H' d v -> Q v H')
  (hρ : ρ = ds.map (Sl.d false) ++ List.replicate (N.length - ds.length) .no) (h : Sv ⟨none, H, nb, []⟩ ρ t { nx := fun _ => Φ true .none, rt := Φ }) : t { nx := fun _ H' => Q .non H', rt := Q } (start N vs) H := by
 have hlen := hd.length
 have sm : ∀ {nb' ρ' σ' H'}, Wd ⟨none, H, nb, []⟩ nb' ρ' σ' H' -> Same H H' := fun W a o e => W.old a o (fun _ _ z => (by cases z)) e
 refine h (fun _ => False) _ H _ ⟨fun _ _ z => (by cases z), fun _ z => z.elim, fun _ _ _ e => e, fun _ z => z.elim, hl, ?_, fun _ _ z => (by cases z), fun _ m => (by cases m), fun i s e => ?_, ?_, ?_, ?_⟩ ⟨fun nb' ρ' σ' H' q W => hΦ _ _ _ _ q (sm W) .non, fun _ _ _ _ q _ => q.elim, fun _ _ _ _ q _ => q.elim, fun nb' ρ' σ' f v H' d q W hv => hΦ f d v H' q (sm W) (hv.av fun a z => ?_), fun _ _ _ _ _ q _ => q.elim⟩
 ·rw [hρ]; unfold start; simp [hlen]
 ·rw [hρ] at e
  unfold start
  by_cases hi : i < ds.length
  ·rw [zq41x (by rw [zq0x]; exact hi)] at e
   obtain ⟨v, d, hv, rfl, q⟩ := isDs_at hd e
   refine ⟨some v, ?_, v, rfl, q.av fun a z => ?_⟩
   ·rw [zq41x (by rw [zq0x, hlen]; exact hi), zq10x, hv]; rfl
   ·rcases z with z | z | z | z
    ·exact z.elim
    ·exact z
    ·exact absurd (fun _ _ z => (by cases z)) z
    ·cases z.1
  ·rw [zq44x (by rw [zq0x]; omega), zq36x] at e
   split at e
   ·rename_i h'
    cases e
    refine ⟨none, ?_, trivial⟩
    rw [zq0x] at h'
    rw [zq44x (by rw [zq0x]; omega), zq36x, if_pos (by rw [zq0x, hlen]; exact h')]
   ·cases e
 ·intro i j a f as c g cs hij e1
  rw [hρ] at e1
  by_cases hi : i < ds.length
  ·rw [zq41x (by rw [zq0x]; exact hi)] at e1
   obtain ⟨_, _, _, z, _⟩ := isDs_at hd e1
   cases z
  ·rw [zq44x (by rw [zq0x]; omega), zq36x] at e1
   split at e1 <;> cases e1
 ·intro i j a f as c g cs hij e1
  rw [hρ] at e1
  by_cases hi : i < ds.length
  ·rw [zq41x (by rw [zq0x]; exact hi)] at e1
   obtain ⟨_, _, _, z, _⟩ := isDs_at hd e1
   cases z
  ·rw [zq44x (by rw [zq0x]; omega), zq36x] at e1
   split at e1 <;> cases e1
 ·intro i j c t hij e1
  rw [hρ] at e1
  by_cases hi : i < ds.length
  ·rw [zq41x (by rw [zq0x]; exact hi)] at e1
   obtain ⟨_, _, _, z, _⟩ := isDs_at hd e1
   cases z
  ·rw [zq44x (by rw [zq0x]; omega), zq36x] at e1
   split at e1 <;> cases e1
 ·rcases z with z | z
  ·exact .inr (.inl z)
  ·exact .inr (.inr (.inr z))
theorem Sv.enterB (hB : BagAt H b l) (hl : Live nb H) (hb : nb b) (hd : IsDs nb H ds vs) (hΦ : ∀ f d v H', Φ f d -> But (Nb b) H H' -> BagAt H' b l -> IsD (fun a => nb a \/ (f = true /\ H a ≠ none)) H' d v -> Q v H')
    (hρ : ρ = .bag :: ds.map (Sl.d false) ++ List.replicate (N.length - (ds.length + 1)) .no) (h : Sv ⟨some (b, l), H, nb, []⟩ ρ t { nx := fun _ => Φ true .none, rt := Φ }) : t { nx := fun _ H' => Q .non H', rt := Q } (start N (.ref b :: vs)) H := by
  have hlen := hd.length
  have hNB : ∀ a, a ≠ b -> NB (some (b, l)) a := fun a n b' l' e => by cases e; exact n
  have hNB' : ∀ a, ¬ NB (some (b, l)) a -> a = b := fun a n => zq59x fun z => n (hNB a z)
  have bt : ∀ {nb' ρ' σ' H'}, Wd ⟨some (b, l), H, nb, []⟩ nb' ρ' σ' H' -> But (Nb b) H H' := fun W a o n e => W.old a o (hNB a n) e
  have bg : ∀ {nb' ρ' σ' H'}, Wd ⟨some (b, l), H, nb, []⟩ nb' ρ' σ' H' -> BagAt H' b l := fun W => W.bag b l rfl
  refine h (fun _ => False) _ H _ ⟨fun b' l' e => (by cases e; exact hB), fun _ z => z.elim, fun _ _ _ e => e, fun _ z => z.elim, hl, ?_, fun b' l' e => (by cases e; exact hB), fun _ m => (by cases m), fun i s e => ?_, ?_, ?_, ?_⟩ ⟨fun nb' ρ' σ' H' q W => hΦ _ _ _ _ q (bt W) (bg W) .non, fun _ _ _ _ q _ => q.elim, fun _ _ _ _ q _ => q.elim, fun nb' ρ' σ' f v H' d q W hv => hΦ f d v H' q (bt W) (bg W) (hv.av fun a z => ?_), fun _ _ _ _ _ q _ => q.elim⟩
  · rw [hρ]; unfold start; simp [hlen]
  · rw [hρ] at e
    unfold start
    cases i with
    | zero => simp at e; subst e; exact ⟨some (.ref b), by simp, b, l, rfl, rfl⟩
    | succ i =>
      simp only [zq83x, zq67x, zq9x, zq51x] at e ⊢
      by_cases hi : i < ds.length
      · rw [zq41x (by rw [zq0x]; exact hi)] at e
        obtain ⟨v, d, hv, rfl, q⟩ := isDs_at hd e
        refine ⟨some v, ?_, v, rfl, q.av fun a z => ?_⟩
        · rw [zq41x (by rw [zq0x, hlen]; exact hi), zq10x, hv]; rfl
        · rcases z with z | z | z | z
          · exact z.elim
          · exact z
          · rw [hNB' a z]; exact hb
          · cases z.1
      · rw [zq44x (by rw [zq0x]; omega), zq36x] at e
        split at e
        · rename_i h'
          cases e
          refine ⟨none, ?_, trivial⟩
          rw [zq0x] at h'
          rw [zq44x (by rw [zq0x]; omega), zq36x, if_pos (by rw [zq0x, hlen]; exact h')]
        · cases e
  · intro i j a f as c g cs hij e1
    rw [hρ] at e1
    cases i with
    | zero => simp at e1
    | succ i =>
      simp only [zq83x, zq67x] at e1
      by_cases hi : i < ds.length
      · rw [zq41x (by rw [zq0x]; exact hi)] at e1
        obtain ⟨_, _, _, z, _⟩ := isDs_at hd e1
        cases z
      · rw [zq44x (by rw [zq0x]; omega), zq36x] at e1
        split at e1 <;> cases e1
  · intro i j a f as c g cs hij e1
    rw [hρ] at e1
    cases i with
    | zero => simp at e1
    | succ i =>
      simp only [zq83x, zq67x] at e1
      by_cases hi : i < ds.length
      · rw [zq41x (by rw [zq0x]; exact hi)] at e1
        obtain ⟨_, _, _, z, _⟩ := isDs_at hd e1
        cases z
      · rw [zq44x (by rw [zq0x]; omega), zq36x] at e1
        split at e1 <;> cases e1
  · intro i j c t hij e1
    rw [hρ] at e1
    cases i with
    | zero => simp at e1
    | succ i =>
      simp only [zq83x, zq67x] at e1
      by_cases hi : i < ds.length
      · rw [zq41x (by rw [zq0x]; exact hi)] at e1
        obtain ⟨_, _, _, z, _⟩ := isDs_at hd e1
        cases z
      · rw [zq44x (by rw [zq0x]; omega), zq36x] at e1
        split at e1 <;> cases e1
  · rcases z with z | z
    · exact .inr (.inl z)
    · exact .inr (.inr (.inr z))
def lawG (b l : Addr) (H : Hp) : Gx := ⟨some (b, l), H, fun _ => False, []⟩
theorem law_wdS {a : Addr} {m : Nat} (hB : BagAt H b l) : Wd (lawG b l H) (fun _ => False) (.raw (.ref a) :: .bag :: List.replicate m .no) (some (.ref a) :: some (.ref b) :: List.replicate m none) H := by
  refine ⟨fun b' l' e => (by cases e; exact hB), fun _ z => z.elim, fun _ _ _ e => e, fun _ z => z.elim, fun _ z => z.elim, by simp, fun b' l' e => (by cases e; exact hB), fun _ m => (by cases m), fun i s e => ?_, ?_, ?_, ?_⟩
  · match i with
    | 0 => simp at e; subst e; exact ⟨_, rfl, rfl⟩
    | 1 => simp at e; subst e; exact ⟨some (.ref b), rfl, b, l, rfl, rfl⟩
    | i + 2 =>
      simp only [zq67x, zq36x] at e ⊢
      split at e
      · rename_i h; cases e; exact ⟨none, if_pos h, trivial⟩
      · cases e
  · intro i j a f as c g cs hij e1
    match i with
    | 0 => simp at e1
    | 1 => simp at e1
    | i + 2 =>
      simp only [zq67x, zq36x] at e1
      split at e1 <;> cases e1
  · intro i j a f as c g cs hij e1
    match i with
    | 0 => simp at e1
    | 1 => simp at e1
    | i + 2 =>
      simp only [zq67x, zq36x] at e1
      split at e1 <;> cases e1
  · intro i j c t hij e1
    match i with
    | 0 => simp at e1
    | 1 => simp at e1
    | i + 2 =>
      simp only [zq67x, zq36x] at e1
      split at e1 <;> cases e1
theorem Ev.lenRaw {G : Gx} {i : Nat} {a : Addr} {ns : List Int} {K : PySem.W.Frag} (e : ρ[i]? = some (.raw (.ref a))) (hS : SqL K G.H0 a (ns.map V.int)) (h : Φ true (.int ns.length)) : Ev G ρ (tCB (rLen K) (tCons (tVar i) tNil)) Φ := fun nb σ H Q W z => by
 obtain ⟨x, e1, h1⟩ := W.ok i _ e
 have h1 : x = some (.ref a) := h1
 subst h1
 have hS' : SqL K H a (ns.map V.int) := by
  rcases hS with hr | hk
  ·have hn : NB G.B a := fun b l hb z => by
    subst z
    obtain ⟨_, _, _, _, _, g1, _⟩ := W.gB _ _ hb
    rcases hr with hr | ⟨o, hr⟩
    ·rw [g1] at hr
     have := HO.lst.inj (zq32x hr)
     cases ns with
     | nil => cases this
     | cons n r => rw [zq9x] at this; cases (zq115x this).1
    ·rw [g1] at hr; cases hr
   rcases hr with hr | ⟨o, hr⟩
   ·exact .inl (.inl (W.old _ _ hn hr))
   ·exact .inl (.inr ⟨o, W.old _ _ hn hr⟩)
  ·exact .inr hk
 refine ⟨.ref a, e1, a, _, rfl, .inl hS', ?_⟩
 rw [zq0x]
 exact z true _ H _ h (.refl W.bag) (.int _)
theorem law_endsR {D : Ends} (h2 : ∀ H, D.rt (.bl true) H) : EndsOk (lawG b l H) { nx := fun _ => False, rt := fun _ d => d = .bool true } D :=
 ⟨fun _ _ _ _ q _ => q.elim, fun _ _ _ _ q _ => q.elim, fun _ _ _ _ q _ => q.elim, fun _ _ _ f v H d q _ hv => by subst q; unfold IsD at hv; subst hv; exact h2 H, fun _ _ _ _ _ q _ => q.elim⟩
end
namespace R
theorem di {P : Int -> Prop} {i : Int} (h : P i) : ∃ j, PyData.int i = .int j /\ P j := ⟨i, rfl, h⟩
theorem db {P : Bool -> Prop} {i : Bool} (h : P i) : ∃ j, PyData.bool i = .bool j /\ P j := ⟨i, rfl, h⟩
theorem dl {P : List PyData -> Prop} {i : List PyData} (h : P i) : ∃ j, PyData.list i = .list j /\ P j := ⟨i, rfl, h⟩
theorem dt {P : List PyData -> Prop} {i : List PyData} (h : P i) : ∃ j, PyData.tuple i = .tuple j /\ P j := ⟨i, rfl, h⟩
theorem dll {P : List PyData -> Prop} {i : List PyData} (h : P i) : ∃ j, (PyData.list i = .list j \/ PyData.list i = .tuple j) /\ P j := ⟨i, .inl rfl, h⟩
theorem eqii {P : Bool -> Prop} {i j : Int} (h : P (decide (i = j))) : ∃ b, EqD (.int i) (.int j) b /\ P b := ⟨_, .ii i j, h⟩
theorem at_ {ds : List PyData} {k : Int} {e : PyData} {P : PyData -> Prop} (h : atI ds k = some e) (q : P e) : ∃ e, atI ds k = some e /\ P e := ⟨e, h, q⟩
theorem lnil {A : Prop} (q : A) : ([] : List Fd).length <= 10000 /\ A := ⟨by decide, q⟩
theorem cnd {C A : Prop} (c : C) (q : A) : C /\ A := ⟨c, q⟩
end R
theorem spD_out {n : Nat} {F : DF} {vs : List V} {H : Hp} {Q : VK} {E : XK} (h : spD n F vs H Q E) : ∃ (nb : Addr -> Prop) (ds : List PyData) (Φ : Pd), Live nb H /\ IsDs nb H ds vs /\ (∀ f d v H', Φ f d -> Same H H' -> IsD (fun a => nb a \/ (f = true /\ H a ≠ none)) H' d v -> Q v H') /\ F ds Φ := by
 obtain ⟨_, nb, ds, h1, h2, h3⟩ := h
 exact ⟨nb, ds, _, h1, h2, fun f d v H' q => q v H', h3⟩
theorem spB_out {n : Nat} {F : DF} {vs : List V} {H : Hp} {Q : VK} {E : XK} (h : spB n F vs H Q E) : ∃ (b l : Addr) (ws : List V) (nb : Addr -> Prop) (ds : List PyData) (Φ : Pd), vs = .ref b :: ws /\ BagAt H b l /\ Live nb H /\ nb b /\ IsDs nb H ds ws /\ (∀ f d v H', Φ f d -> But (Nb b) H H' -> BagAt H' b l -> IsD (fun a => nb a \/ (f = true /\ H a ≠ none)) H' d v -> Q v H') /\ F ds Φ := by
 obtain ⟨_, b, l, ws, nb, ds, e, hB, h1, hb, h2, h3⟩ := h
 exact ⟨b, l, ws, nb, ds, _, e, hB, h1, hb, h2, fun f d v H' q => q v H', h3⟩
end L2
set_option maxRecDepth 100000
set_option maxHeartbeats 1000000
namespace L2
open PySem PySem.Spec PyProof.Rows
abbrev Prs := List (Int × Int)
abbrev Wo := List (Option Int)
abbrev prsD (prs : Prs) : PyData := .list (prs.map pairD)
abbrev netD (p n : Int) (cs : List Prs) : PyData := .tuple [.int p, .int n, .list (cs.map prsD)]
theorem atI_nat' {α β : Type} {xs : List α} (φ : α -> β) {k : Int} {m : Nat} (h0 : 0 <= k) (h1 : k < m) (hm : m = xs.length) : ∃ x, xs[k.toNat]? = some x /\ atI (xs.map φ) k = some (φ x) := by
 have hk : k.toNat < xs.length := by omega
 exact ⟨xs[k.toNat], zq1x hk, atI_some h0 (by rw [zq10x, zq1x hk]; rfl)⟩
theorem map_at {α β : Type} {xs : List α} {φ : α -> β} {i : Nat} {d : β} (h : (xs.map φ)[i]? = some d) : ∃ x, xs[i]? = some x /\ d = φ x := by
 rw [zq10x] at h
 obtain ⟨x, hx, e⟩ := zq58x.mp h
 exact ⟨x, hx, e.symm⟩
theorem take_snoc {α : Type} {xs : List α} {i : Nat} {x : α} (h : xs[i]? = some x) : xs.take (i + 1) = xs.take i ++ [x] := by
 rw [zq143x, h]; rfl
end L2
set_option maxRecDepth 100000
set_option maxHeartbeats 4000000
namespace L2
open PySem PySem.Spec PyProof.Rows
structure Eu (p b L lt r t : Int) : Prop where
 l0 : 0 < L
 r0 : 0 <= r
 lp : L <= p
 rp : r <= p
 lc : ∃ k, L = lt * b + p * k
 rc : ∃ k, r = t * b + p * k
 dv : ∀ d, d ∣ L -> d ∣ r -> d ∣ p /\ d ∣ b % p
 sz : (t.natAbs : Int) * L + (lt.natAbs : Int) * r <= p
theorem Eu.start {p b : Int} (hp : 2 <= p) : Eu p b p 0 (b % p) 1 := by
 have m1 := zq24x b (show p ≠ 0 by omega)
 have m2 := zq28x b (show 0 < p by omega)
 refine ⟨by omega, m1, zq144x _, by omega, ⟨1, by rw [zq45x, zq119x, zq112x]⟩, ⟨-(b / p), ?_⟩, fun d h1 h2 => ⟨h1, h2⟩, ?_⟩
 ·have := zq145x b p
  rw [zq91x, Int.mul_neg]
  omega
 ·show (1 : Int) * p + 0 * (b % p) <= p
  rw [zq91x, zq45x]
  omega
theorem Eu.tb {p b L lt r t : Int} (h : Eu p b L lt r t) : -p <= t /\ t <= p := by
 have h1 : (t.natAbs : Int) * 1 <= (t.natAbs : Int) * L := Int.mul_le_mul_of_nonneg_left (by have := h.l0; omega) (by omega)
 have h2 : 0 <= (lt.natAbs : Int) * r := Int.mul_nonneg (by omega) h.r0
 have := h.sz
 omega
theorem Eu.next {p b L lt r t : Int} (h : Eu p b L lt r t) (hr : 0 < r) : Eu p b r t (L - L / r * r) (lt - L / r * t) /\ L - L / r * r < r := by
 have e := zq145x L r
 have m1 := zq24x L (show r ≠ 0 by omega)
 have m2 := zq28x L hr
 have e' : L - L / r * r = L % r := by rw [zq99x (L / r) r]; omega
 have q0 : 0 <= L / r := zq146x (by have := h.l0; omega) (by omega)
 obtain ⟨k1, c1⟩ := h.lc
 obtain ⟨k2, c2⟩ := h.rc
 refine ⟨⟨hr, by omega, h.rp, by have := h.rp; omega, h.rc, ⟨k1 - L / r * k2, ?_⟩, fun d d1 d2 => ?_, ?_⟩, by omega⟩
 ·rw [Int.sub_mul, zq120x]
  generalize L / r = q at *
  have z : q * r = q * (t * b) + q * (p * k2) := by rw [<- Int.mul_add, <- c2]
  have z1 : q * (t * b) = q * t * b := (zq100x q t b).symm
  have z2 : q * (p * k2) = p * (q * k2) := by rw [<- zq100x, zq99x q p, zq100x]
  omega
 ·have dL : d ∣ L := by
   have z : d ∣ (L - L / r * r) + L / r * r := zq101x d2 (zq92x d1)
   have z2 : (L - L / r * r) + L / r * r = L := by omega
   rwa [z2] at z
  exact h.dv d dL d1
 ·generalize L / r = q at *
  have a1 : ((lt - q * t).natAbs : Int) <= (lt.natAbs : Int) + q * (t.natAbs : Int) := by
   have b1 : (lt - q * t).natAbs <= lt.natAbs + (q * t).natAbs := by omega
   have b2 : ((q * t).natAbs : Int) = q * (t.natAbs : Int) := by
    rw [Int.natAbs_mul]
    have : (q.natAbs : Int) = q := by omega
    rw [Int.natCast_mul, this]
   omega
  have a2 : ((lt - q * t).natAbs : Int) * r <= ((lt.natAbs : Int) + q * (t.natAbs : Int)) * r := Int.mul_le_mul_of_nonneg_right a1 (by omega)
  have a3 : ((lt.natAbs : Int) + q * (t.natAbs : Int)) * r = (lt.natAbs : Int) * r + q * (t.natAbs : Int) * r := Int.add_mul _ _ _
  have a4 : (t.natAbs : Int) * (L - q * r) = (t.natAbs : Int) * L - q * (t.natAbs : Int) * r := by
   rw [zq120x, <- zq100x, zq99x (t.natAbs : Int) q]
  have := h.sz
  omega
theorem ln1 {α : Type} {us : List α} (h : us.length = 1) : ∃ a, us = [a] := by
  cases us with
  | nil => cases h
  | cons a us =>
    cases us with
    | nil => exact ⟨a, rfl⟩
    | cons _ _ => cases h
theorem ln2 {α : Type} {us : List α} (h : us.length = 2) : ∃ a b, us = [a, b] := by
  cases us with
  | nil => cases h
  | cons a us =>
    obtain ⟨b, rfl⟩ := ln1 (us := us) (zq147x h)
    exact ⟨a, b, rfl⟩
theorem ln3 {α : Type} {us : List α} (h : us.length = 3) : ∃ a b c, us = [a, b, c] := by
  cases us with
  | nil => cases h
  | cons a us =>
    obtain ⟨b, c, rfl⟩ := ln2 (us := us) (zq147x h)
    exact ⟨a, b, c, rfl⟩
theorem ln4 {α : Type} {us : List α} (h : us.length = 4) : ∃ a b c d, us = [a, b, c, d] := by
  cases us with
  | nil => cases h
  | cons a us =>
    obtain ⟨b, c, d, rfl⟩ := ln3 (us := us) (zq147x h)
    exact ⟨a, b, c, d, rfl⟩
end L2
set_option maxRecDepth 100000
set_option maxHeartbeats 1000000
set_option maxRecDepth 100000
set_option maxHeartbeats 4000000
set_option maxRecDepth 100000
set_option maxHeartbeats 4000000
namespace L2
open PySem PySem.Spec PyProof.Rows
section
variable {prog : Program} {w : World} {A : Around} {R : Result -> Shared -> Prop} {I : Addr} {fp wr : List Addr} {G : Array GenState -> Array GenState -> Prop} {n : Nat} {P : Nat -> Value -> Prop} {St : Nat -> Shared -> Prop} {bt : Bool}
abbrev met (val : Nat -> Int) (i : Nat) : Int -> Bool := fun k => (firstMet val i).any (· == k)
end
end L2
set_option maxRecDepth 100000
set_option maxHeartbeats 4000000
set_option maxRecDepth 100000
set_option maxHeartbeats 4000000
set_option maxRecDepth 100000
set_option maxHeartbeats 4000000
set_option maxRecDepth 100000
set_option maxHeartbeats 4000000
set_option maxRecDepth 100000
set_option maxHeartbeats 4000000
set_option maxRecDepth 100000
set_option maxHeartbeats 4000000
set_option maxRecDepth 100000
set_option maxHeartbeats 4000000
set_option maxRecDepth 100000
set_option maxHeartbeats 4000000
set_option maxRecDepth 100000
set_option maxHeartbeats 4000000
set_option maxRecDepth 100000
set_option maxHeartbeats 4000000
set_option maxRecDepth 100000
set_option maxHeartbeats 4000000
set_option maxRecDepth 100000
set_option maxHeartbeats 4000000
set_option maxRecDepth 100000
set_option maxHeartbeats 4000000
set_option maxRecDepth 100000
set_option maxHeartbeats 4000000
set_option maxRecDepth 100000
set_option maxHeartbeats 4000000
set_option maxRecDepth 100000
set_option maxHeartbeats 4000000
set_option maxRecDepth 100000
set_option maxHeartbeats 4000000
namespace L2
open PySem PySem.Spec PyProof.Rows
def rRange1 : List V -> Hp -> VK -> Prop := fun xs H Q => ∃ j : Int, xs = [.int j] /\ ∀ a, H a = none -> Q (.ref a) (upd H a (.rng 0 j))
def rListR : List V -> Hp -> VK -> Prop := fun xs H Q => ∃ (a : Addr) (lo hi : Int), xs = [.ref a] /\ H a = some (.rng lo hi) /\ (-10000 <= lo /\ lo <= 10000 /\ -10000 <= hi /\ hi <= 10000) /\ ∀ l, H l = none -> Q (.ref l) (upd H l (.lst (((List.range (hi - lo).toNat).map fun (i : Nat) => lo + (i : Int)).map V.int)))
def rSum (K : PySem.W.Frag) : List V -> Hp -> VK -> Prop := fun xs H Q => ∃ p, ∃ ns : List Int, xs = [.ref p] /\ SqL K H p (ns.map V.int) /\ Q (.int ns.sum) H
def rAll (K : PySem.W.Frag) : List V -> Hp -> VK -> Prop := fun xs H Q => ∃ p, ∃ bs : List Bool, xs = [.ref p] /\ SqL K H p (bs.map V.bl) /\ Q (.bl (bs.all id)) H
section
variable {X : Cx}
theorem call_rangeM : CallR X (.type "range") rRange1 := by
 intro pins s σ H xs us Q I rv h
 obtain ⟨j, rfl, q⟩ := h
 obtain ⟨u, rfl, ru⟩ := vals1 rv
 obtain ⟨t, rfl⟩ := ru
 refine call_range_1 ?_
 exact ⟨.ref s.heap.objs.size, _, I.laid (t' := s.toks + 1 + 1) (o := .rng 0 j) (fun b o e => zq49x _ e) (zq5x _) ⟨_, _, _, zq75x _ rfl⟩, rfl, q _ (I.hok.fresh (zq5x _))⟩
theorem call_listR (hc : X.calm = true) : CallR X (.type "list") rListR := by
  intro pins s σ H xs us Q I rv h
  obtain ⟨a, lo, hi, rfl, hH, hb, q⟩ := h
  obtain ⟨u, rfl, ru⟩ := vals1 rv
  cases ru
  obtain ⟨t, u, v, e⟩ := (show ObjOk X.prog X.w H s.heap a (.rng lo hi) from I.hok a _ hH)
  refine call_list_range (n := (hi - lo).toNat) (I.ok.hd hc) (show IsRange s.heap a lo hi 1 t u v from e) (small_one (by omega) (by omega) (by omega) (by omega)) (rangeSize_nat lo hi) (by omega) fun h' tk acc c' kp hl hi' => ?_
  have vv : Vals (((List.range (hi - lo).toNat).map fun (i : Nat) => lo + (i : Int)).map V.int) acc.toList := by
    have key : ∀ (n : Nat) (l : List Value), l.length = n -> ∀ b : Int, (∀ (j : Nat) (v : Value), l[j]? = some v -> ∃ t, v = Value.int (b + (j : Int)) t) -> Vals (((List.range n).map fun (i : Nat) => b + (i : Int)).map V.int) l := by
      intro n
      induction n with
      | zero => intro l hl b _; rw [zq102x.mp hl]; exact .nil
      | succ n ih =>
        intro l hl b hv
        cases l with
        | nil => cases hl
        | cons x r =>
          obtain ⟨t, e⟩ := hv 0 x rfl
          rw [List.range_succ_eq_map, zq9x, zq9x]
          refine .cons ⟨t, by simpa using e⟩ ?_
          have := ih r (by simpa using hl) (b + 1) (fun j v e => by
            obtain ⟨t, z⟩ := hv (j + 1) v (by simpa using e)
            exact ⟨t, by rw [z]; congr 1; omega⟩)
          rw [zq68x] at this ⊢
          rw [zq68x]
          have e : ∀ i : Nat, ((V.int ∘ fun (i : Nat) => b + (i : Int)) ∘ Nat.succ) i = (V.int ∘ fun (i : Nat) => b + 1 + (i : Int)) i := fun i => by
            show V.int (b + ((i + 1 : Nat) : Int)) = V.int (b + 1 + (i : Int)); congr 1; omega
          rw [zq103x fun i _ => e i]
          exact this
    refine key _ _ (by rw [zq138x]; exact hi'.1) lo fun j v e => ?_
    obtain ⟨t, z⟩ := hi'.2 j v (by rw [<- zq172x]; exact e)
    exact ⟨t, by rw [z]; congr 1; omega⟩
  refine ⟨.ref s.heap.objs.size, _, I.laid (t' := tk) (o := .lst (((List.range (hi - lo).toNat).map fun (i : Nat) => lo + (i : Int)).map V.int)) kp (zq5x _) ⟨?_, acc.toList, c', vv, by simpa using hl⟩, rfl, q _ (I.hok.fresh (zq5x _))⟩
  rw [zq0x, zq0x, zq42x]
  exact zq31x (show (hi - lo).toNat <= 20000 by omega) (by decide)
end
section
variable {G : Gx} {ρ : Rh} {te : TE} {K : PySem.W.Frag} {Φ : Pd}
theorem EvN.listRange {Θ : Bool -> List PyData -> Prop} (h : Ev G ρ te fun _ x => ∃ n : Int, x = .int n /\ -10000 <= n /\ n <= 10000 /\ Θ true (((List.range n.toNat).map fun (i : Nat) => (0 : Int) + (i : Int)).map .int)) : EvN G ρ (tCB rListR (tCons (tCB rRange1 (tCons te tNil)) tNil)) Θ := fun nb σ H Q W z =>
 h nb σ H _ W fun f v H1 x ⟨n, ex, h1, h2, q⟩ s1 hv => by
  subst ex
  rw [hv.ofI]
  refine ⟨n, rfl, fun a ha => ⟨a, 0, n, rfl, upd_same, by omega, fun l hl => ?_⟩⟩
  rw [zq104x]
  exact EvN.fin (f := true) W (s1.trans (.same s1.2 (same_new ha))) hl (isDs_intsL _) q z
theorem Ev.sum (h : Ev G ρ te fun _ x => ∃ ns : List Int, x = .list (ns.map .int) /\ Φ true (.int ns.sum)) : Ev G ρ (tCB (rSum K) (tCons te tNil)) Φ := fun nb σ H Q W z =>
 h nb σ H _ W fun f v H1 x ⟨ns, ex, q⟩ s1 hv => by
  subst ex
  obtain ⟨a, xs, rfl, na, hx, hd⟩ := hv.ofL
  have e := isDs_ints_eq hd
  subst e
  exact ⟨a, ns, rfl, .of hx, z true _ H1 _ q s1 (.int _)⟩
theorem isDs_bools_eq {nb : Addr -> Prop} {H : Hp} : ∀ {is : List Bool} {xs : List V}, IsDs nb H (is.map PyData.bool) xs -> xs = is.map V.bl
  | [], _, h => by unfold List.map IsDs at h; exact h
  | i :: is, _, h => by
    rw [zq9x] at h
    unfold IsDs at h
    obtain ⟨y, ys, rfl, h1, h2⟩ := h
    unfold IsD at h1
    rw [zq9x, h1, isDs_bools_eq h2]
theorem Ev.all (h : Ev G ρ te fun _ x => ∃ bs : List Bool, x = .list (bs.map .bool) /\ Φ true (.bool (bs.all id))) : Ev G ρ (tCB (rAll K) (tCons te tNil)) Φ := fun nb σ H Q W z =>
 h nb σ H _ W fun f v H1 x ⟨bs, ex, q⟩ s1 hv => by
  subst ex
  obtain ⟨a, xs, rfl, na, hx, hd⟩ := hv.ofL
  have e := isDs_bools_eq hd
  subst e
  exact ⟨a, bs, rfl, .of hx, z true _ H1 _ q s1 (.bl _)⟩
end
end L2
set_option maxRecDepth 100000
set_option maxHeartbeats 4000000
namespace L2
open PySem PySem.Spec PyProof.Rows
section
variable {G : Gx} {ρ : Rh} {ta tb te : TE} {K : PySem.W.Frag} {Φ : Pd} {T U : String}
theorem Ev.lenS (h : Ev G ρ te fun _ x => ∃ ds, (x = .list ds \/ x = .tuple ds) /\ Φ true (.int ds.length)) : Ev G ρ (tCB (rLen K) (tCons te tNil)) Φ := fun nb σ H Q W z =>
 h nb σ H _ W fun f v H1 d ⟨ds, e, q⟩ s1 hv => by
  rcases e with e | e
  ·subst e
   obtain ⟨a, xs, rfl, n, hx, hd⟩ := hv.ofL
   exact ⟨a, xs, rfl, .inl (.of hx), by rw [hd.length]; exact z true _ H1 _ q s1 (.int _)⟩
  ·subst e
   obtain ⟨a, xs, rfl, n, hx, hd⟩ := hv.ofT
   exact ⟨a, xs, rfl, .inr (.of hx), by rw [hd.length]; exact z true _ H1 _ q s1 (.int _)⟩
theorem Ev.ixS (h : Ev G ρ ta fun f x => ∃ ds, (x = .list ds \/ x = .tuple ds) /\ Ev G ρ tb fun _ y => ∃ k, y = .int k /\ ∃ e, atI ds k = some e /\ Φ f e) : Ev G ρ (tOp (rIx K) ta tb) Φ :=
 Ev.op2 (h.mono fun f x ⟨ds, ex, q⟩ => q.mono fun g y ⟨k, ey, e, he, p⟩ nb σ H u v Q W hu hv z => by
  subst ey
  rcases ex with ex | ex
  ·subst ex
   obtain ⟨a, xs, rfl, n, hx, hd⟩ := hu.ofL
   obtain ⟨w, hw, hD⟩ := hd.atI he
   exact .inl ⟨a, xs, k, w, rfl, hv.ofI, .of hx, hw, z f _ H _ p (.refl W.bag) hD⟩
  ·subst ex
   obtain ⟨a, xs, rfl, n, hx, hd⟩ := hu.ofT
   obtain ⟨w, hw, hD⟩ := hd.atI he
   exact .inr (.inl ⟨a, xs, k, w, rfl, hv.ofI, .of hx, hw, z f _ H _ p (.refl W.bag) hD⟩))
end
end L2
set_option maxRecDepth 100000
set_option maxHeartbeats 4000000
namespace L2
open PySem PySem.Spec PyProof.Rows
section
variable {G : Gx} {ρ ρc : Rh} {te : TE} {gt : TG} {n i : Nat} {it : Nat -> PyData -> Prop} {fi : Bool} {Θ : Bool -> List PyData -> Prop} {E : DE}
theorem scAll_ints (os : List Int) : scAll (os.map PyData.int) = true := by
 unfold scAll
 rw [zq90x]
 intro x hx
 obtain ⟨y, _, rfl⟩ := zq7x.mp hx
 rfl
theorem CompD.rel {α : Type} (φ : α -> PyData) (fl : Bool) (P : Nat -> α -> Prop) (ht : ∀ i d, it i d -> Gv G ρc gt fi d fun ρ1 => Wk ρc ρ1 /\ Ev G ρ1 te fun f e => (fl = true -> f = true) /\ ∃ r : α, e = φ r /\ P i r)
  (h : ∀ os : List α, os.length = n -> (∀ (i : Nat) x, os[i]? = some x -> P i x) -> Θ (fl || scAll (os.map φ)) (os.map φ)) : CompD G ρc n it fi gt tNoTest te Θ := by
 refine ⟨fl, fun i ds => ds.length = i /\ ∃ os : List α, ds = os.map φ /\ ∀ (i : Nat) x, os[i]? = some x -> P i x, ⟨rfl, [], rfl, fun j x e => by simp at e⟩, ?_, ?_⟩
 ·rintro i d ds hd hl ⟨hl2, os, rfl, ho⟩
  refine fun nb σ H v Q W hv z => ht i d hd nb σ H v Q W hv fun σ' ρ' ⟨w, q⟩ W' => z σ' ρ' ⟨w, Tv.noTest (iteT (q.mono fun f e ⟨hf, r, ee, hr⟩ => ⟨hf, ?_, os ++ [r], ?_, fun j x hj => ?_⟩))⟩ W'
  ·rw [zq25x, zq52x, hl2]
  ·rw [ee]; simp
  ·rw [zq0x] at hl2
   rcases Nat.lt_trichotomy j os.length with h | h | h
   ·exact ho j x (by rwa [zq41x h] at hj)
   ·subst h
    simp at hj
    subst hj
    rw [hl2]; exact hr
   ·rw [zq60x (by rw [zq25x, zq52x]; omega)] at hj
    cases hj
 ·rintro ds hl ⟨hl2, os, rfl, ho⟩
  exact h os (by rw [zq0x] at hl2; exact hl2) ho
theorem Sv.asgNil (h : ∀ a, E.nx (ρ.set i (.own a true []))) : Sv G ρ (tAsg (tLst tNil) (gName i)) E := Sv.asgN (EvN.lst (Av.nil ⟨by decide, fun a => h a⟩))
end
def rIsB : R2 := fun x y H Q => ∃ a b : Bool, x = .bl a /\ y = .bl b /\ Q (.bl (a == b)) H
theorem Ev.isB {G : Gx} {ρ : Rh} {ta : TE} {b : Bool} {Φ : Pd} (h : Ev G ρ ta fun _ x => ∃ a, x = .bool a /\ Φ true (.bool (a == b))) : Ev G ρ (tOp rIsB ta (tC (.bl b))) Φ := fun nb σ H Q W z =>
 h nb σ H _ W fun f v H1 d ⟨a, e, q⟩ s1 hv => by
  subst e
  unfold IsD at hv
  subst hv
  exact ⟨a, b, rfl, rfl, z true _ H1 _ q s1 (.bl _)⟩
theorem pt_truthK {X : Cx} {K : PySem.W.Frag} {a : Expr} {ta : TE} (hK : X.K = K) (ha : PE X a ta) (he : ∀ whole, isTrue a X.env whole = (do let v <- whole; standAt a.pos; holding [v] (truthy v))) : PT X a (tTruth K ta) := by
 subst hK
 exact pt_truth ha he
theorem pg_tupM {X : Cx} {K : PySem.W.Frag} {es : List Expr} {k : Nat} {t : TGs} {n : Nat} {pos : Pos} (hK : X.K = K) (hc : X.calm = true) (h : PGs X es t) (hn : (assignEach es X.env).length = n := by rfl) (hst : (assignEach es X.env).findIdx? (·.1) = none := by rfl) : PG X (.Tuple es k pos) (gTup K n t) := by
 subst hK
 exact pg_tup hc h hn hst
theorem eqv_nil (ds : List PyData) : PyData.eqv (.list ds) (.list []) = ds.isEmpty := by cases ds <;> simp [PyData.eqv, PyData.eqvAll]
theorem shaped_checks (cs : List Prs) : PyData.depthAll (cs.map prsD) <= 2 /\ PyData.canLayAll0 (cs.map prsD) = true := by
  induction cs with
  | nil => simp [PyData.depthAll, PyData.canLayAll0]
  | cons a r ih =>
    have h := shaped_pairs a
    simp [PyData.depthAll, PyData.depth, PyData.canLayAll0, PyData.canLay0, ih.2, h.2.2]
    have := ih.1
    have := h.2.1
    omega
theorem Sv.conseq {G : Gx} {ρ : Rh} {s : TS} {E : DE} (I : Rh -> Prop) (h : Sv G ρ s { E with nx := I }) (hI : ∀ ρ', I ρ' -> E.nx ρ') : Sv G ρ s E := fun nb σ H D W K => h nb σ H D W ⟨fun nb ρ σ H q W => K.nx nb ρ σ H (hI ρ q) W, K.bk, K.ct, K.rt, K.rw⟩
theorem pick {L : List Int} {k : Int} (h0 : 0 <= k) (h1 : k < L.length) (P : Int -> Prop) (hP : ∀ x ∈ L, P x) : ∃ x, atI (L.map PyData.int) k = some (.int x) /\ P x := by
 have hL : k.toNat < L.length := by omega
 exact ⟨L[k.toNat], atI_some h0 (by rw [zq10x, zq1x hL]; rfl), hP _ (zq29x hL)⟩
end L2
set_option maxRecDepth 100000
set_option maxHeartbeats 4000000
namespace L2
open PySem PySem.Spec PyProof.Rows
theorem cut_to {α : Type} {xs : List α} {k : Int} (h0 : 0 <= k) (h1 : k <= xs.length) : cutA xs none (some k) = xs.take k.toNat := by
 unfold cutA HT.sIx
 simp only [List.drop_zero, Nat.sub_zero]
 congr 1
 first | omega | (split <;> omega)
end L2
set_option maxRecDepth 100000
set_option maxHeartbeats 4000000
namespace L2
open PySem PySem.Spec PyProof.Rows
theorem termOf_some {w : List Int} {pr : Int × Int} {x : Int} (h : w[pr.1.toNat]? = some x) : termOf (w.map some) pr = pr.2 * x := by
 unfold termOf
 rw [zq10x, h]; rfl
end L2
set_option maxRecDepth 100000
set_option maxHeartbeats 4000000
namespace L2
open PySem PySem.Spec PyProof.Rows
def tRev (K : PySem.W.Frag) (te : TE) (ts : TO) : TE := fun σ H Q => te σ H fun x H1 => ts σ H1 fun k H2 => k = some (-1) /\ ∃ a xs, x = .ref a /\ SqL K H2 a xs /\ ∀ p, H2 p = none -> Q (.ref p) (upd H2 p (.lst xs.reverse))
theorem IsDs.rev {nb : Addr -> Prop} {H : Hp} : ∀ {ds : List PyData} {xs : List V}, IsDs nb H ds xs -> IsDs nb H ds.reverse xs.reverse
  | [], xs, h => by unfold IsDs at h; subst h; exact .nil
  | d :: ds, xs, h => by
    unfold IsDs at h
    obtain ⟨y, ys, e, h1, h2⟩ := h
    subst e
    rw [List.reverse_cons, List.reverse_cons]
    exact IsDs.append (IsDs.rev h2) (.cons h1 .nil)
section
variable {G : Gx} {ρ : Rh} {Φ : Pd} {ta tb te : TE} {K : PySem.W.Frag}
theorem EvN.rev {ts : TO} {Θ : Bool -> List PyData -> Prop} (h : Ev G ρ te fun f x => ∃ ds, x = .list ds /\ Ov G ρ ts fun o => o = some (-1) /\ Θ (f || scAll ds.reverse) ds.reverse) : EvN G ρ (tRev K te ts) Θ := fun nb σ H Q W z =>
 h nb σ H _ W fun f v H1 d ⟨ds, e, q⟩ s1 hv => q nb σ H1 _ (W.step s1) fun o H2 ⟨eo, q2⟩ s2 => by
  subst e
  obtain ⟨a, xs, rfl, n, hx, hd⟩ := (hv.keep s2.butS).ofL
  exact ⟨eo, a, xs, rfl, .of hx, fun p hp => EvN.fin W (s1.trans s2) hp hd.rev q2 z⟩
theorem Ev.rev {ts : TO} (h : Ev G ρ te fun f x => ∃ ds, x = .list ds /\ Ov G ρ ts fun o => o = some (-1) /\ Φ (f || scAll ds.reverse) (.list ds.reverse)) : Ev G ρ (tRev K te ts) Φ := (EvN.rev (Θ := fun f ds => Φ f (.list ds)) h).ev
theorem Ev.inI {ng : Bool} (h : Ev G ρ ta fun _ x => ∃ k : Int, x = .int k /\ Ev G ρ tb fun _ y => ∃ ns : List Int, y = .list (ns.map .int) /\ Φ true (.bool (decide (k ∈ ns) != ng))) : Ev G ρ (tOp (rIn K ng) ta tb) Φ := fun nb σ H Q W z =>
 h nb σ H _ W fun f v H1 d ⟨k, e, q⟩ s1 hv => q nb σ H1 _ (W.step s1) fun g u H2 d2 ⟨ns, e2, p⟩ s2 hu => by
  subst e e2
  have hk := hv.ofI
  subst hk
  obtain ⟨a, xs, rfl, na, hx, hd⟩ := hu.ofL
  have ex := isDs_ints_eq hd
  subst ex
  refine ⟨a, ns.map V.int, rfl, .inl (.of hx), rfl, ?_, ?_⟩
  ·rw [zq90x]
   intro x hx
   obtain ⟨o, _, rfl⟩ := zq7x.mp hx
   rfl
  ·have e : inV (V.int k) (ns.map V.int) = decide (k ∈ ns) := by
    unfold inV
    rw [List.any_map, zq76x, List.any_eq_true, decide_eq_true_eq]
    constructor
    ·rintro ⟨o, m, h⟩
     have : o = k := eq_of_beq h
     exact this ▸ m
    ·intro m
     exact ⟨k, m, beq_self_eq_true k⟩
   have e2 : (if ng = true then !inV (V.int k) (ns.map V.int) else inV (V.int k) (ns.map V.int)) = (decide (k ∈ ns) != ng) := by
    rw [e]
    cases ng <;> simp
   rw [e2]
   exact z true _ H2 _ p (s1.trans s2) (.bl _)
end
theorem shaped_net1 (p n : Int) (cs : List Prs) : SeqAt.shaped (netD p n cs) = true := by
 have h1 := shaped_checks cs
 unfold SeqAt.shaped netD
 simp [PyData.canLay0, PyData.canLayAll0, PyData.depth, PyData.depthAll, h1.2]
 have := h1.1
 omega
end L2
set_option maxRecDepth 100000
set_option maxHeartbeats 1000000
namespace PC
def PrimeN (n : Nat) : Prop := 2 <= n /\ ∀ d, d ∣ n -> d = 1 \/ d = n
def tr (q : Nat) : Nat -> Nat -> Bool
 | 0, _ => false
 | f + 1, d => if q < d * d then true else if q % d = 0 then false else tr q f (d + 1)
theorem tr_no {q : Nat} : ∀ {f d : Nat}, tr q f d = true -> ∀ e, d <= e -> e * e <= q -> q % e ≠ 0
  | 0, _, h => by simp [tr] at h
  | f + 1, d, h => by
    intro e hde hee
    unfold tr at h
    by_cases h1 : q < d * d
    · have := Nat.mul_le_mul hde hde
      omega
    · rw [if_neg h1] at h
      by_cases h2 : q % d = 0
      · rw [if_pos h2] at h; cases h
      · rw [if_neg h2] at h
        by_cases h3 : d = e
        · rw [<- h3]; exact h2
        · exact tr_no h e (by omega) hee
theorem prime_of_no {q : Nat} (h2 : 2 <= q) (h : ∀ e, 2 <= e -> e * e <= q -> q % e ≠ 0) : PrimeN q := by
 refine ⟨h2, fun d hd => ?_⟩
 obtain ⟨e, he⟩ := hd
 by_cases d1 : d = 1
 ·exact .inl d1
 by_cases e1 : e = 1
 ·right; rw [he, e1, zq121x]
 exfalso
 have d0 : d ≠ 0 := fun z => by rw [z, zq122x] at he; omega
 have e0 : e ≠ 0 := fun z => by rw [z, Nat.mul_zero] at he; omega
 by_cases hle : d <= e
 ·refine h d (by omega) (by rw [he]; exact Nat.mul_le_mul_left d hle) ?_
  rw [he]; exact Nat.mul_mod_right d e
 ·refine h e (by omega) (by rw [he]; exact Nat.mul_le_mul_right e (by omega)) ?_
  rw [he]; exact Nat.mul_mod_left d e
theorem prime_tr (f : Nat) {q : Nat} (h2 : 2 <= q) (h : tr q f 2 = true) : PrimeN q := prime_of_no h2 (tr_no h)
def pw (N : Nat) : Nat -> Nat -> Nat -> Nat -> Nat
 | 0, _, _, acc => acc
 | f + 1, e, g, acc => pw N f (e / 2) (g * g % N) (if e % 2 = 1 then acc * g % N else acc)
theorem pw_eq {N : Nat} : ∀ (f e g acc : Nat), e < 2 ^ f -> pw N f e g acc % N = acc * g ^ e % N
  | 0, e, g, acc, h => by
    have : e = 0 := by simp at h; exact h
    subst this
    simp [pw]
  | f + 1, e, g, acc, h => by
    have h2 : e / 2 < 2 ^ f := by rw [zq148x] at h; omega
    unfold pw
    rw [pw_eq f _ _ _ h2]
    have e2 : g ^ e = (g * g) ^ (e / 2) * g ^ (e % 2) := by
      conv => lhs; rw [<- zq149x e 2]
      rw [zq93x, Nat.pow_mul, Nat.pow_two]
    have m1 : (g * g % N) ^ (e / 2) % N = (g * g) ^ (e / 2) % N := (Nat.pow_mod _ _ _).symm
    rw [e2]
    by_cases ho : e % 2 = 1
    · rw [if_pos ho, ho, Nat.pow_one, zq61x, m1, zq150x, <- zq61x]
      congr 1
      rw [zq69x, zq57x g]
    · have ho' : e % 2 = 0 := by omega
      rw [if_neg ho, ho', zq151x, zq121x, zq61x, m1, <- zq61x]
theorem exists_min {P : Nat -> Prop} : ∀ n, P n -> ∃ m, P m /\ ∀ k, k < m -> ¬ P k := by
  intro n
  induction n using Nat.strongRecOn with
  | _ n ih =>
    intro h
    by_cases hk : ∃ k, k < n /\ P k
    · obtain ⟨k, hk1, hk2⟩ := hk
      exact ih k hk1 hk2
    · exact ⟨n, h, fun k hk1 hk2 => hk ⟨k, hk1, hk2⟩⟩
theorem php : ∀ (n : Nat) (f : Nat -> Nat), (∀ i, i < n + 1 -> f i < n) -> ∃ i j, i < j /\ j < n + 1 /\ f i = f j
  | 0, f, h => absurd (h 0 (by omega)) (by omega)
  | n + 1, f, h => by
    by_cases he : ∃ i, i < n + 1 /\ f i = f (n + 1)
    · obtain ⟨i, h1, h2⟩ := he
      exact ⟨i, n + 1, h1, by omega, h2⟩
    · have hne : ∀ i, i < n + 1 -> f i ≠ f (n + 1) := fun i hi e => he ⟨i, hi, e⟩
      have hlast := h (n + 1) (by omega)
      obtain ⟨i, j, h1, h2, h3⟩ := php n (fun i => if f i = n then f (n + 1) else f i) (fun i hi => by
        have g1 := h i (by omega)
        have g2 := hne i hi
        by_cases c : f i = n
        · simp only [c, if_true]
          have : f (n + 1) ≠ n := fun z => g2 (c.trans z.symm)
          omega
        · simp only [c, if_false]
          omega)
      refine ⟨i, j, h1, by omega, ?_⟩
      have gi := hne i (by omega)
      have gj := hne j (by omega)
      by_cases ci : f i = n
      · by_cases cj : f j = n
        · rw [ci, cj]
        · simp only [ci, cj, if_true, if_false] at h3
          exact absurd h3.symm gj
      · by_cases cj : f j = n
        · simp only [ci, cj, if_true, if_false] at h3
          exact absurd h3 gi
        · simpa only [ci, cj, if_false] using h3
def lcms : List (Nat × Nat) -> Nat
 | [] => 1
 | qe :: r => Nat.lcm (qe.1 ^ qe.2) (lcms r)
theorem lcms_dvd {o : Nat} : ∀ {fs : List (Nat × Nat)}, (∀ qe ∈ fs, qe.1 ^ qe.2 ∣ o) -> lcms fs ∣ o
 | [], _ => ⟨o, by simp [lcms]⟩
 | qe :: r, h => Nat.lcm_dvd (h qe zq27x) (lcms_dvd fun x hx => h x (zq21x _ hx))
theorem coprime_of {q m : Nat} (hq : PrimeN q) (h : ¬ q ∣ m) : Nat.Coprime q m := by
 rcases hq.2 _ (Nat.gcd_dvd_left q m) with e | e
 ·exact e
 ·exact absurd (e ▸ Nat.gcd_dvd_right q m) h
theorem coprime_pow {q m : Nat} (h : Nat.Coprime q m) (e : Nat) : Nat.Coprime (q ^ e) m := Nat.Coprime.pow_left e h
theorem mm3 (a b c d : Nat) : (a % d) * (b % d) % d * (c % d) % d = a * b * c % d := by
 rw [<- zq61x a b, <- zq61x (a * b) c]
theorem order_big {N g d : Nat} {fs : List (Nat × Nat)} (hN : 2 <= N) (hd : d ∣ N) (d1 : 1 < d) (h1 : g ^ (N - 1) % N = 1 % N)
  (hq : ∀ qe ∈ fs, PrimeN qe.1 /\ qe.1 ^ qe.2 ∣ N - 1 /\ Nat.gcd (g ^ ((N - 1) / qe.1) % N + (N - 1)) N = 1) : lcms fs < d := by
 have down : ∀ {a b : Nat}, a % N = b % N -> a % d = b % d := fun {a b} e => by
  rw [<- zq152x a hd, e, zq152x b hd]
 have one : 1 % d = 1 := Nat.mod_eq_of_lt d1
 have f1 : g ^ (N - 1) % d = 1 := by rw [down h1, one]
 obtain ⟨o, ⟨o0, o1⟩, omin⟩ := exists_min (P := fun k => 0 < k /\ g ^ k % d = 1) (N - 1) ⟨by omega, f1⟩
 have per : ∀ q r : Nat, g ^ (o * q + r) % d = g ^ r % d := fun q r => by
  rw [zq93x, Nat.pow_mul, zq61x, Nat.pow_mod, o1, Nat.one_pow, one, zq153x, zq150x]
 have odvd : ∀ k, g ^ k % d = 1 -> o ∣ k := fun k hk => by
  have e := zq149x k o
  rw [<- e, per] at hk
  by_cases h0 : k % o = 0
  ·exact zq174x h0
  ·exact absurd ⟨by omega, hk⟩ (omin (k % o) (Nat.mod_lt _ o0))
 have od := odvd _ f1
 have parts : lcms fs ∣ o := lcms_dvd fun qe hqe => by
  obtain ⟨pq, ⟨c, hc⟩, gq⟩ := hq qe hqe
  obtain ⟨m, hm⟩ := od
  by_cases hqm : qe.1 ∣ m
  ·exfalso
   obtain ⟨m', hm'⟩ := hqm
   have q0 : 0 < qe.1 := by have := pq.1; omega
   have ek : (N - 1) / qe.1 = o * m' := by
    rw [hm, hm', show o * (qe.1 * m') = qe.1 * (o * m') by rw [<- zq69x, zq57x o, zq69x], Nat.mul_div_cancel_left _ q0]
   have e1 : g ^ ((N - 1) / qe.1) % d = 1 := by
    have := per m' 0
    rw [Nat.add_zero, zq151x, one] at this
    rw [ek]; exact this
   have e2 : d ∣ g ^ ((N - 1) / qe.1) % N + (N - 1) := by
    have e3 : (g ^ ((N - 1) / qe.1) % N) % d = 1 := by rw [zq152x _ hd]; exact e1
    obtain ⟨k, hk⟩ := hd
    have e4 := zq149x (g ^ ((N - 1) / qe.1) % N) d
    rw [e3] at e4
    refine ⟨(g ^ ((N - 1) / qe.1) % N) / d + k, ?_⟩
    rw [Nat.mul_add, <- hk]
    omega
   have e5 := Nat.dvd_gcd e2 hd
   rw [gq] at e5
   have := zq154x (by omega) e5
   omega
  ·have cp := coprime_pow (coprime_of pq hqm) qe.2
   have hdv : qe.1 ^ qe.2 ∣ o * m := ⟨c, by rw [<- hm]; exact hc⟩
   exact cp.dvd_of_dvd_mul_right hdv
 have olt : o < d := by
  refine Nat.lt_of_not_le fun hle => ?_
  have unit : ∀ i, i <= N - 1 -> (g ^ i % d) * (g ^ (N - 1 - i) % d) % d = 1 := fun i hi => by
   rw [<- zq61x, <- zq93x, show i + (N - 1 - i) = N - 1 by omega]; exact f1
  have ole : o <= N - 1 := zq154x (by omega) od
  have pos : ∀ i, i < o -> 0 < g ^ i % d := fun i hi => by
   refine Nat.pos_of_ne_zero fun z => ?_
   have := unit i (by omega)
   rw [z, zq122x, Nat.zero_mod] at this
   cases this
  obtain ⟨i, j, h1, h2, h3⟩ := php (d - 1) (fun i => g ^ i % d - 1) (fun i hi => by
   have a1 := pos i (by omega)
   have a2 := Nat.mod_lt (g ^ i) (show d > 0 by omega)
   omega)
  have pi := pos i (by omega)
  have pj := pos j (by omega)
  have e : g ^ i % d = g ^ j % d := by omega
  have ej : g ^ j = g ^ i * g ^ (j - i) := by rw [<- zq93x, show i + (j - i) = j by omega]
  have u := unit i (by omega)
  have k1 : g ^ (j - i) % d = 1 := by
   have w : (g ^ i % d) * (g ^ (N - 1 - i) % d) % d * (g ^ (j - i) % d) % d = (g ^ j % d) * (g ^ (N - 1 - i) % d) % d := by
    rw [mm3, <- zq61x (g ^ j), ej]
    congr 1
    rw [zq69x, zq69x, zq57x (g ^ (N - 1 - i))]
   rw [u, zq153x, zq150x, <- e, u] at w
   exact w
  exact omin (j - i) (by omega) ⟨by omega, k1⟩
 exact Nat.lt_of_le_of_lt (zq154x o0 parts) olt
theorem pock {N g : Nat} (fs : List (Nat × Nat)) (hN : 2 <= N) (h1 : g ^ (N - 1) % N = 1 % N)
  (hq : ∀ qe ∈ fs, PrimeN qe.1 /\ qe.1 ^ qe.2 ∣ N - 1 /\ Nat.gcd (g ^ ((N - 1) / qe.1) % N + (N - 1)) N = 1) (hF : N < (lcms fs + 1) * (lcms fs + 1)) : PrimeN N := by
 refine ⟨hN, fun d hd => ?_⟩
 obtain ⟨e, he⟩ := id hd
 by_cases d1 : d = 1
 ·exact .inl d1
 by_cases e1 : e = 1
 ·right; rw [he, e1, zq121x]
 exfalso
 have d0 : d ≠ 0 := fun z => by rw [z, zq122x] at he; omega
 have e0 : e ≠ 0 := fun z => by rw [z, Nat.mul_zero] at he; omega
 have b1 := order_big hN hd (by omega) h1 hq
 have b2 := order_big hN ⟨d, by rw [he, zq57x]⟩ (show 1 < e by omega) h1 hq
 have := Nat.mul_le_mul (show lcms fs + 1 <= d from b1) (show lcms fs + 1 <= e from b2)
 omega
def chk (N g : Nat) (fs : List (Nat × Nat)) : Bool :=
 decide (2 <= N) && decide (N < 2 ^ 140) && (pw N 140 (N - 1) g 1 % N == 1) && fs.all (fun qe => ((N - 1) % qe.1 ^ qe.2 == 0) && (Nat.gcd (pw N 140 ((N - 1) / qe.1) g 1 % N + (N - 1)) N == 1)) && decide (N < (lcms fs + 1) * (lcms fs + 1))
theorem by_chk {N : Nat} (g : Nat) (fs : List (Nat × Nat)) (hp : ∀ qe ∈ fs, PrimeN qe.1) (h : chk N g fs = true) : PrimeN N := by
 unfold chk at h
 simp only [zq23x, decide_eq_true_eq, beq_iff_eq, zq90x] at h
 obtain ⟨⟨⟨⟨h1, h2⟩, h3⟩, h4⟩, h5⟩ := h
 have P : ∀ e, e <= N - 1 -> pw N 140 e g 1 % N = g ^ e % N := fun e he => by
  rw [pw_eq 140 e g 1 (by omega), zq153x]
 refine pock (g := g) fs h1 (by rw [<- P _ (zq5x _), h3, Nat.mod_eq_of_lt (by omega)]) (fun qe hqe => ?_) h5
 obtain ⟨g1, g2⟩ := h4 qe hqe
 refine ⟨hp qe hqe, zq174x g1, ?_⟩
 rw [<- P _ (Nat.div_le_self _ _)]
 exact g2
end PC
set_option maxRecDepth 100000
set_option maxHeartbeats 1000000
namespace PC
theorem pr_2 : PrimeN 2 := prime_tr 4 (by decide) (by decide +kernel)
theorem pr_3 : PrimeN 3 := prime_tr 4 (by decide) (by decide +kernel)
theorem pr_5 : PrimeN 5 := prime_tr 5 (by decide) (by decide +kernel)
theorem pr_7 : PrimeN 7 := prime_tr 5 (by decide) (by decide +kernel)
theorem pr_11 : PrimeN 11 := prime_tr 6 (by decide) (by decide +kernel)
theorem pr_101 : PrimeN 101 := prime_tr 13 (by decide) (by decide +kernel)
theorem pr_10007 : PrimeN 10007 := prime_tr 103 (by decide) (by decide +kernel)
theorem pr_65537 : PrimeN 65537 := prime_tr 259 (by decide) (by decide +kernel)
theorem pr_1000003 : PrimeN 1000003 := prime_tr 1003 (by decide) (by decide +kernel)
theorem pr_17 : PrimeN 17 := prime_tr 7 (by decide) (by decide +kernel)
theorem pr_998244353 : PrimeN 998244353 := by_chk 3 [(17, 1), (7, 1), (2, 23)] (fun qe h => by
 simp only [zq3x, zq12x, or_false] at h
 rcases h with rfl | rfl | rfl
 ·exact pr_17
 ·exact pr_7
 ·exact pr_2) (by decide +kernel)
theorem pr_148721 : PrimeN 148721 := prime_tr 388 (by decide) (by decide +kernel)
theorem pr_500000003 : PrimeN 500000003 := by_chk 2 [(148721, 1)] (fun qe h => by
 simp only [zq3x, zq12x, or_false] at h
 subst h; exact pr_148721) (by decide +kernel)
theorem pr_1000000007 : PrimeN 1000000007 := by_chk 2 [(500000003, 1)] (fun qe h => by
 simp only [zq3x, zq12x, or_false] at h
 subst h; exact pr_500000003) (by decide +kernel)
theorem pr_331 : PrimeN 331 := prime_tr 21 (by decide) (by decide +kernel)
theorem pr_151 : PrimeN 151 := prime_tr 15 (by decide) (by decide +kernel)
theorem pr_2147483647 : PrimeN 2147483647 := by_chk 3 [(331, 1), (151, 1)] (fun qe h => by
 simp only [zq3x, zq12x, or_false] at h
 rcases h with rfl | rfl
 ·exact pr_331
 ·exact pr_151) (by decide +kernel)
theorem pr_250049 : PrimeN 250049 := prime_tr 503 (by decide) (by decide +kernel)
theorem pr_26005097 : PrimeN 26005097 := by_chk 2 [(250049, 1)] (fun qe h => by
 simp only [zq3x, zq12x, or_false] at h
 subst h; exact pr_250049) (by decide +kernel)
theorem pr_1000000000039 : PrimeN 1000000000039 := by_chk 2 [(26005097, 1)] (fun qe h => by
 simp only [zq3x, zq12x, or_false] at h
 subst h; exact pr_26005097) (by decide +kernel)
theorem pr_234931 : PrimeN 234931 := prime_tr 487 (by decide) (by decide +kernel)
theorem pr_8740842787 : PrimeN 8740842787 := by_chk 2 [(234931, 1)] (fun qe h => by
 simp only [zq3x, zq12x, or_false] at h
 subst h; exact pr_234931) (by decide +kernel)
theorem pr_52445056723 : PrimeN 52445056723 := by_chk 2 [(8740842787, 1)] (fun qe h => by
 simp only [zq3x, zq12x, or_false] at h
 subst h; exact pr_8740842787) (by decide +kernel)
theorem pr_1000000000000000003 : PrimeN 1000000000000000003 := by_chk 2 [(52445056723, 1)] (fun qe h => by
 simp only [zq3x, zq12x, or_false] at h
 subst h; exact pr_52445056723) (by decide +kernel)
theorem pr_15331 : PrimeN 15331 := prime_tr 126 (by decide) (by decide +kernel)
theorem pr_2131 : PrimeN 2131 := prime_tr 49 (by decide) (by decide +kernel)
theorem pr_5594472617641 : PrimeN 5594472617641 := by_chk 2 [(15331, 1), (2131, 1)] (fun qe h => by
 simp only [zq3x, zq12x, or_false] at h
 rcases h with rfl | rfl
 ·exact pr_15331
 ·exact pr_2131) (by decide +kernel)
theorem pr_18446744073709551557 : PrimeN 18446744073709551557 := by_chk 2 [(5594472617641, 1)] (fun qe h => by
 simp only [zq3x, zq12x, or_false] at h
 subst h; exact pr_5594472617641) (by decide +kernel)
theorem pr_1321 : PrimeN 1321 := prime_tr 39 (by decide) (by decide +kernel)
theorem pr_61 : PrimeN 61 := prime_tr 10 (by decide) (by decide +kernel)
theorem pr_2305843009213693951 : PrimeN 2305843009213693951 := by_chk 3 [(1321, 1), (331, 1), (151, 1), (61, 1)] (fun qe h => by
 simp only [zq3x, zq12x, or_false] at h
 rcases h with rfl | rfl | rfl | rfl
 ·exact pr_1321
 ·exact pr_331
 ·exact pr_151
 ·exact pr_61) (by decide +kernel)
theorem pr_8707 : PrimeN 8707 := prime_tr 96 (by decide) (by decide +kernel)
theorem pr_1913 : PrimeN 1913 := prime_tr 46 (by decide) (by decide +kernel)
theorem pr_2931542417 : PrimeN 2931542417 := by_chk 3 [(8707, 1), (1913, 1)] (fun qe h => by
 simp only [zq3x, zq12x, or_false] at h
 rcases h with rfl | rfl
 ·exact pr_8707
 ·exact pr_1913) (by decide +kernel)
theorem pr_2113 : PrimeN 2113 := prime_tr 48 (by decide) (by decide +kernel)
theorem pr_683 : PrimeN 683 := prime_tr 29 (by decide) (by decide +kernel)
theorem pr_618970019642690137449562111 : PrimeN 618970019642690137449562111 := by_chk 3 [(2931542417, 1), (2113, 1), (683, 1)] (fun qe h => by
 simp only [zq3x, zq12x, or_false] at h
 rcases h with rfl | rfl | rfl
 ·exact pr_2931542417
 ·exact pr_2113
 ·exact pr_683) (by decide +kernel)
theorem pr_1097 : PrimeN 1097 := prime_tr 36 (by decide) (by decide +kernel)
theorem pr_131 : PrimeN 131 := prime_tr 14 (by decide) (by decide +kernel)
theorem pr_67254877 : PrimeN 67254877 := by_chk 2 [(1097, 1), (131, 1)] (fun qe h => by
 simp only [zq3x, zq12x, or_false] at h
 rcases h with rfl | rfl
 ·exact pr_1097
 ·exact pr_131) (by decide +kernel)
theorem pr_28059810762433 : PrimeN 28059810762433 := by_chk 3 [(67254877, 1)] (fun qe h => by
 simp only [zq3x, zq12x, or_false] at h
 subst h; exact pr_67254877) (by decide +kernel)
theorem pr_53 : PrimeN 53 := prime_tr 10 (by decide) (by decide +kernel)
theorem pr_37 : PrimeN 37 := prime_tr 9 (by decide) (by decide +kernel)
theorem pr_13 : PrimeN 13 := prime_tr 6 (by decide) (by decide +kernel)
theorem pr_20394401 : PrimeN 20394401 := by_chk 3 [(53, 1), (37, 1), (13, 1)] (fun qe h => by
 simp only [zq3x, zq12x, or_false] at h
 rcases h with rfl | rfl | rfl
 ·exact pr_53
 ·exact pr_37
 ·exact pr_13) (by decide +kernel)
theorem pr_162259276829213363391578010288127 : PrimeN 162259276829213363391578010288127 := by_chk 3 [(28059810762433, 1), (20394401, 1)] (fun qe h => by
 simp only [zq3x, zq12x, or_false] at h
 rcases h with rfl | rfl
 ·exact pr_28059810762433
 ·exact pr_20394401) (by decide +kernel)
theorem pr_699053 : PrimeN 699053 := prime_tr 839 (by decide) (by decide +kernel)
theorem pr_77158673929 : PrimeN 77158673929 := by_chk 3 [(699053, 1)] (fun qe h => by
 simp only [zq3x, zq12x, or_false] at h
 subst h; exact pr_699053) (by decide +kernel)
theorem pr_649657 : PrimeN 649657 := prime_tr 809 (by decide) (by decide +kernel)
theorem pr_92737 : PrimeN 92737 := prime_tr 307 (by decide) (by decide +kernel)
theorem pr_170141183460469231731687303715884105727 : PrimeN 170141183460469231731687303715884105727 := by_chk 3 [(77158673929, 1), (649657, 1), (92737, 1)] (fun qe h => by
 simp only [zq3x, zq12x, or_false] at h
 rcases h with rfl | rfl | rfl
 ·exact pr_77158673929
 ·exact pr_649657
 ·exact pr_92737) (by decide +kernel)
theorem pr_7963 : PrimeN 7963 := prime_tr 92 (by decide) (by decide +kernel)
theorem pr_3011 : PrimeN 3011 := prime_tr 57 (by decide) (by decide +kernel)
theorem pr_575438233 : PrimeN 575438233 := by_chk 2 [(7963, 1), (3011, 1)] (fun qe h => by
 simp only [zq3x, zq12x, or_false] at h
 rcases h with rfl | rfl
 ·exact pr_7963
 ·exact pr_3011) (by decide +kernel)
theorem pr_52316542391429 : PrimeN 52316542391429 := by_chk 2 [(575438233, 1)] (fun qe h => by
 simp only [zq3x, zq12x, or_false] at h
 subst h; exact pr_575438233) (by decide +kernel)
theorem pr_104633084782859 : PrimeN 104633084782859 := by_chk 2 [(52316542391429, 1)] (fun qe h => by
 simp only [zq3x, zq12x, or_false] at h
 subst h; exact pr_52316542391429) (by decide +kernel)
theorem pr_179 : PrimeN 179 := prime_tr 16 (by decide) (by decide +kernel)
theorem pr_31 : PrimeN 31 := prime_tr 8 (by decide) (by decide +kernel)
theorem pr_7935071 : PrimeN 7935071 := by_chk 2 [(179, 1), (31, 1)] (fun qe h => by
 simp only [zq3x, zq12x, or_false] at h
 rcases h with rfl | rfl
 ·exact pr_179
 ·exact pr_31) (by decide +kernel)
theorem pr_15870143 : PrimeN 15870143 := by_chk 2 [(7935071, 1)] (fun qe h => by
 simp only [zq3x, zq12x, or_false] at h
 subst h; exact pr_7935071) (by decide +kernel)
theorem pr_401321030361983486780957614729 : PrimeN 401321030361983486780957614729 := by_chk 2 [(104633084782859, 1), (15870143, 1)] (fun qe h => by
 simp only [zq3x, zq12x, or_false] at h
 rcases h with rfl | rfl
 ·exact pr_104633084782859
 ·exact pr_15870143) (by decide +kernel)
theorem pr_1000000000000000000000000000000000000003 : PrimeN 1000000000000000000000000000000000000003 := by_chk 2 [(401321030361983486780957614729, 1)] (fun qe h => by
 simp only [zq3x, zq12x, or_false] at h
 subst h; exact pr_401321030361983486780957614729) (by decide +kernel)
theorem pr_25733 : PrimeN 25733 := prime_tr 163 (by decide) (by decide +kernel)
theorem pr_1151 : PrimeN 1151 := prime_tr 36 (by decide) (by decide +kernel)
theorem pr_4916701379 : PrimeN 4916701379 := by_chk 2 [(25733, 1), (1151, 1)] (fun qe h => by
 simp only [zq3x, zq12x, or_false] at h
 rcases h with rfl | rfl
 ·exact pr_25733
 ·exact pr_1151) (by decide +kernel)
theorem pr_83 : PrimeN 83 := prime_tr 12 (by decide) (by decide +kernel)
theorem pr_23 : PrimeN 23 := prime_tr 7 (by decide) (by decide +kernel)
theorem pr_1676254721 : PrimeN 1676254721 := by_chk 5 [(83, 1), (23, 1), (7, 3)] (fun qe h => by
 simp only [zq3x, zq12x, or_false] at h
 rcases h with rfl | rfl | rfl
 ·exact pr_83
 ·exact pr_23
 ·exact pr_7) (by decide +kernel)
theorem pr_149927568276670622397029177 : PrimeN 149927568276670622397029177 := by_chk 2 [(4916701379, 1), (1676254721, 1)] (fun qe h => by
 simp only [zq3x, zq12x, or_false] at h
 rcases h with rfl | rfl
 ·exact pr_4916701379
 ·exact pr_1676254721) (by decide +kernel)
theorem pr_9999999999999999999999999999999999999983 : PrimeN 9999999999999999999999999999999999999983 := by_chk 2 [(149927568276670622397029177, 1)] (fun qe h => by
 simp only [zq3x, zq12x, or_false] at h
 subst h; exact pr_149927568276670622397029177) (by decide +kernel)
end PC
namespace L2
open PC
def PrimeZ (p : Int) : Prop := 2 <= p /\ ∀ d : Int, 0 < d -> d ∣ p -> d = 1 \/ d = p
theorem primeZ_of {n : Nat} (h : PrimeN n) : PrimeZ (n : Int) := by
 refine ⟨by have := h.1; omega, fun d d0 hd => ?_⟩
 obtain ⟨k, rfl⟩ := zq175x (Int.le_of_lt d0)
 rcases h.2 k (Int.natCast_dvd_natCast.mp hd) with e | e
 ·left; rw [e]; rfl
 ·right; rw [e]
theorem primeZ_no {p : Int} (h2 : 2 <= p) (h : NoDiv p) : PrimeZ p := by
 obtain ⟨n, rfl⟩ := zq175x (show 0 <= p by omega)
 refine primeZ_of (prime_of_no (by omega) fun e e1 e2 e3 => ?_)
 refine h (e : Int) (by omega) (by rw [<- Int.natCast_mul]; exact Int.ofNat_le.mpr e2) ?_
 have := congrArg (Nat.cast : Nat -> Int) e3
 simpa using this
theorem primeZ_list : ∀ p ∈ primeList, PrimeZ p := by
 intro p hp
 simp only [primeList, zq3x, zq12x, or_false] at hp
 rcases hp with rfl | rfl | rfl | rfl | rfl | rfl | rfl | rfl | rfl | rfl | rfl | rfl | rfl | rfl | rfl | rfl | rfl | rfl | rfl | rfl | rfl | rfl
 ·exact primeZ_of pr_2
 ·exact primeZ_of pr_3
 ·exact primeZ_of pr_5
 ·exact primeZ_of pr_7
 ·exact primeZ_of pr_2
 ·exact primeZ_of pr_11
 ·exact primeZ_of pr_101
 ·exact primeZ_of pr_10007
 ·exact primeZ_of pr_65537
 ·exact primeZ_of pr_1000003
 ·exact primeZ_of pr_998244353
 ·exact primeZ_of pr_1000000007
 ·exact primeZ_of pr_2147483647
 ·exact primeZ_of pr_1000000000039
 ·exact primeZ_of pr_1000000000000000003
 ·exact primeZ_of pr_18446744073709551557
 ·exact primeZ_of pr_2305843009213693951
 ·exact primeZ_of pr_618970019642690137449562111
 ·exact primeZ_of pr_162259276829213363391578010288127
 ·exact primeZ_of pr_170141183460469231731687303715884105727
 ·exact primeZ_of pr_1000000000000000000000000000000000000003
 ·exact primeZ_of pr_9999999999999999999999999999999999999983
def spInverse : Sp := fun vs H Q _ => ∃ p b : Int, vs = [.int p, .int b] /\ PrimeZ p /\ p < 10 ^ 40 /\ b % p ≠ 0 /\ ∀ u : Int, 0 <= u -> u < p -> (∃ k, u * b = 1 + p * k) -> Q (.int u) H
end L2
set_option maxRecDepth 100000
set_option maxHeartbeats 4000000
namespace L2
open PySem PySem.Spec PyProof.Rows
theorem prime_mul {p a b : Int} (hp : PrimeZ p) (h : p ∣ a * b) (ha : ¬ p ∣ a) : p ∣ b := by
 have p2 := hp.1
 have g1 : ((Int.gcd a p : Nat) : Int) ∣ p := Int.gcd_dvd_right ..
 have g2 : ((Int.gcd a p : Nat) : Int) ∣ a := Int.gcd_dvd_left ..
 have g0 : 0 < ((Int.gcd a p : Nat) : Int) := by
  have : Int.gcd a p ≠ 0 := fun z => by have := (zq176x.mp z).2; omega
  omega
 rcases hp.2 _ g0 g1 with e | e
 ·have c : Nat.Coprime p.natAbs a.natAbs := by
   show Nat.gcd p.natAbs a.natAbs = 1
   have : Int.gcd a p = 1 := by omega
   rw [Nat.gcd_comm]; exact this
  have h' : p.natAbs ∣ b.natAbs * a.natAbs := by rw [zq57x, <- Int.natAbs_mul]; exact zq177x.mpr h
  exact zq177x.mp (c.dvd_of_dvd_mul_right h')
 ·rw [e] at g2; exact absurd g2 ha
end L2
set_option maxRecDepth 100000
set_option maxHeartbeats 4000000
namespace L2
open PySem PySem.Spec PyProof.Rows
section
variable {X : Cx} {pins : List (Addr × Obj)} {σ : List (Option V)} {H : Hp} {s : Shared} {h' : Heap}
theorem Inv.turnedLaid {t' : Nat} {e it T : Addr} {o : HO} (I : Inv X pins σ H s) (k : ∀ b u, b ≠ e -> b ≠ it -> s.heap.get? b = some u -> h'.get? b = some u) (fe : FpOk X pins H e) (fi : FpOk X pins H it) (hT : s.heap.objs.size <= T) (hTe : T ≠ e) (hTi : T ≠ it)
  (le : ∃ u, s.heap.get? e = some u) (li : ∃ u, s.heap.get? it = some u) (new : ObjOk X.prog X.w (upd H T o) h' T o) : Inv X pins σ (upd H T o) { s with heap := h', toks := t' } := by
 have hn := I.hok.fresh hT
 obtain ⟨e0, e1, e2, e3, e4, e5⟩ := fe
 obtain ⟨i0, i1, i2, i3, i4, i5⟩ := fi
 have ne : ∀ b u, H b = some u -> b ≠ e := fun b u q z => by rw [z, e0] at q; cases q
 have ni : ∀ b u, H b = some u -> b ≠ it := fun b u q z => by rw [z, i0] at q; cases q
 have nT : ∀ b u, H b = some u -> b ≠ T := fun b u q z => by rw [z, hn] at q; cases q
 refine I.step (g' := s.gens) (d' := s.drawn) (ch := [e, it]) (fun b hb => ?_) (fun b o _ _ hc q _ => k b o (fun z => hc (by simp [z])) (fun z => hc (by simp [z])) q) (fun b o _ _ hc q _ => ⟨o.slots, k b o (fun z => hc (by simp [z])) (fun z => hc (by simp [z])) q⟩)
  (fun b o hc q n => ?_) (fun b o hc q => ⟨o, k b o (fun z => hc (by simp [z])) (fun z => hc (by simp [z])) q⟩) (fun b xs q => by rw [upd_ne (nT b _ q)]; exact q) (fun b o u q => by rw [upd_ne (nT b _ q)]; exact q) (fun b ps q => ⟨#[], by rw [upd_ne (nT b _ q), q]; simp⟩) (fun m hm => ?_) (fun b u q => ?_) I.bare
 ·rcases (show b = e \/ b = it by simpa using hb) with z | z
  ·subst z; exact ⟨e3, e1, e4, e5⟩
  ·subst z; exact ⟨i3, i1, i4, i5⟩
 ·rw [upd_ne (fun z => absurd (zq26x (zq14x q) (by rw [z]; exact hT)) (zq64x _))]; exact n
 ·obtain ⟨o, es, ep, ho, r⟩ := hm
  exact ⟨o, es, ep, k _ o (zq11x e1) (zq11x i1) ho, r⟩
 ·by_cases hb : b = T
  ·subst hb; rw [upd_same] at q; cases q; exact new
  ·rw [upd_ne hb] at q
   refine (I.hok b u q).stay (fun c v hc z => ?_) (fun c z => by rw [upd_ne (nT c _ z)]; exact z) fun c xs z => by rw [upd_ne (nT c _ z)]; exact z
   rcases hc with y | y
   ·subst y; exact k _ v (ne _ u q) (ni _ u q) z
   ·exact k c v (ne c _ y) (ni c _ y) z
theorem Inv.turned2 {t' : Nat} {e it : Addr} (I : Inv X pins σ H s) (k : ∀ b u, b ≠ e -> b ≠ it -> s.heap.get? b = some u -> h'.get? b = some u) (fe : FpOk X pins H e) (fi : FpOk X pins H it) : Inv X pins σ H { s with heap := h', toks := t' } := by
 obtain ⟨e0, e1, e2, e3, e4, e5⟩ := fe
 obtain ⟨i0, i1, i2, i3, i4, i5⟩ := fi
 have ne : ∀ b u, H b = some u -> b ≠ e := fun b u q z => by rw [z, e0] at q; cases q
 have ni : ∀ b u, H b = some u -> b ≠ it := fun b u q z => by rw [z, i0] at q; cases q
 refine I.step (g' := s.gens) (d' := s.drawn) (ch := [e, it]) (fun b hb => ?_) (fun b o _ _ hc q _ => k b o (fun z => hc (by simp [z])) (fun z => hc (by simp [z])) q) (fun b o _ _ hc q _ => ⟨o.slots, k b o (fun z => hc (by simp [z])) (fun z => hc (by simp [z])) q⟩)
  (fun _ _ _ _ n => n) (fun b o hc q => ⟨o, k b o (fun z => hc (by simp [z])) (fun z => hc (by simp [z])) q⟩) (fun _ _ q => q) (fun _ _ _ q => q) (fun b ps q => ⟨#[], by rw [q]; simp⟩) (fun m hm => ?_) (fun b u q => ?_) I.bare
 ·rcases (show b = e \/ b = it by simpa using hb) with z | z
  ·subst z; exact ⟨e3, e1, e4, e5⟩
  ·subst z; exact ⟨i3, i1, i4, i5⟩
 ·obtain ⟨o, es, ep, ho, r⟩ := hm
  exact ⟨o, es, ep, k _ o (zq11x e1) (zq11x i1) ho, r⟩
 ·refine (I.hok b u q).stay (fun c v hc z => ?_) (fun c z => z) fun c xs z => z
  rcases hc with y | y
  ·subst y; exact k _ v (ne _ u q) (ni _ u q) z
  ·exact k c v (ne c _ y) (ni c _ y) z
end
def Ite (K : PySem.W.Frag) (a : Addr) : It :=
 ⟨fun i H => ∃ xs x, SqL K H a xs /\ xs[i]? = some x, fun i H x H' => ∃ p y, x = .ref p /\ H p = none /\ (∀ xs, SqL K H a xs -> xs[i]? = some y) /\ H' = upd H p (.tup [.int i, y]), fun i H => ∃ xs, SqL K H a xs /\ xs.length = i⟩
theorem turn_enum {P : Program} {w : World} {K : PySem.W.Frag} {elts : List Expr} {k : Nat} {pos : Pos} (a e it : Addr) (hei : e ≠ it) :
  Turn P w K (.Tuple elts k pos) (Ite K a) [e, it] e (fun i h => (∃ old, IsEnum h e it i old) /\ h.IsListIter it a i) where
 mem := by simp
 obj := fun i h st b hb => by
  obtain ⟨⟨old, s1⟩, ⟨o, e1, c, d⟩⟩ := st
  rcases (show b = e \/ b = it by simpa using hb) with z | z
  ·subst z
   exact ⟨_, s1, fun v z => by
    have z' : Data.fields _ = Data.cell v := z
    cases z'⟩
  ·subst z
   exact ⟨o, e1, fun v z => by rw [d] at z; cases z⟩
 keep := fun i h h' st k => ⟨let ⟨old, s1⟩ := st.1; ⟨old, k e (by simp) _ s1⟩, st.2.at fun o q => k it (by simp) o q⟩
 item := by
  intro X hP hw hK hc i pins s σ H E I hf st hg
  subst hP hw hK
  obtain ⟨xs, x, hq, hx⟩ := hg
  obtain ⟨its, rv, p, hz⟩ := I.list hq
  obtain ⟨u, hu, ru⟩ := rv.get hx
  have fe := hf e (by simp)
  have fi := hf it (by simp)
  obtain ⟨⟨old, s1⟩, s2⟩ := st
  obtain ⟨ol, l1, l2, l3⟩ := id p.isList
  obtain ⟨oi, i1, i2, i3⟩ := id s2
  have hae : a ≠ e := fun z => by
   subst z
   rw [s1] at l1; cases l1
   exact absurd l2 (by simp)
  have hai : a ≠ it := fun z => by
   subst z
   rw [i1] at l1; cases l1
   rw [i2] at l2
   exact absurd l2 (by simp)
  have W := WalksT.enumerate (prog := X.prog) (w := X.w) (I.ok.hd hc) e it a hei hae hai its.toArray
  have hi : i < its.toArray.size := by
   have := (zq8x.mp hu).1
   simpa using this
  refine W.item i s _ _ hi ⟨⟨old, s1⟩, s2, p.isList⟩ fun T vals h' tk hv hT hTup hMid kp => ⟨.ref T, rfl, ?_⟩
  refine W.go elts k pos i T _ _ _ hMid fun h'' st' kp2 => ?_
  obtain ⟨t, x', hx', hvv⟩ := hv
  have hxu : x' = u := by
   have : its.toArray[i]? = some u := by simpa using hu
   rw [hx'] at this; exact zq32x this
  subst hxu hvv
  have hTw := W.apart i T h' hMid
  obtain ⟨_, _, _, hTe, hTi⟩ := hMid
  obtain ⟨oT, t1, t2, nT, t3⟩ := hTup
  have t1' := kp2 T oT hTw t1
  refine ⟨.ref T, upd H T (.tup [.int i, x]), I.turnedLaid (fun b v h1 h2 q => kp2 b v (by simp [h1, h2]) (kp b v (by simp [h1, h2]) q)) fe fi hT hTe hTi ⟨_, s1⟩ ⟨_, i1⟩ ?_, rfl, ⟨T, x, rfl, I.hok.fresh hT, fun ys hy => by rw [I.list_inj hy hq]; exact hx, rfl⟩, ⟨st'.1, st'.2.1⟩, fun b hb => ?_⟩
  ·exact ⟨by show 2 <= sizeLine; decide, [.int i t, x'], .cons ⟨t, rfl⟩ (.cons ru .nil), oT, t1', t2, nT, t3⟩
  ·rw [upd_ne, (hf b hb).1]
   rcases (show b = e \/ b = it by simpa using hb) with z | z
   ·rw [z]; exact zq11x hTe
   ·rw [z]; exact zq11x hTi
 done := by
  intro X hP hw hK hc i pins s σ H E I hf st hg
  subst hP hw hK
  obtain ⟨xs, hq, hx⟩ := hg
  obtain ⟨its, rv, p, hz⟩ := I.list hq
  have fe := hf e (by simp)
  have fi := hf it (by simp)
  obtain ⟨⟨old, s1⟩, s2⟩ := st
  obtain ⟨ol, l1, l2, l3⟩ := id p.isList
  obtain ⟨oi, i1, i2, i3⟩ := id s2
  have hl := rv.length
  have hae : a ≠ e := fun z => by
   subst z
   rw [s1] at l1; cases l1
   exact absurd l2 (by simp)
  have hai : a ≠ it := fun z => by
   subst z
   rw [i1] at l1; cases l1
   rw [i2] at l2
   exact absurd l2 (by simp)
  have W := WalksT.enumerate (prog := X.prog) (w := X.w) (I.ok.hd hc) e it a hei hae hai its.toArray
  have hn : its.toArray.size = i := by rw [zq13x]; omega
  refine W.done s _ _ (by rw [hn]; exact ⟨⟨old, s1⟩, s2, p.isList⟩) fun h' tk kp => ⟨rfl, ?_⟩
  exact I.turned2 (fun b v h1 h2 q => kp b v (by simp [h1, h2]) q) fe fi
 self := fun _ _ _ _ _ st h => let ⟨old, s1⟩ := st.1; wpAny_pyIter_enum s1 h
def iEnum (K : PySem.W.Frag) (tl : TE) : TI := fun σ H R => tl σ H fun x H1 => ∃ a, x = .ref a /\ (∃ xs, SqL K H1 a xs) /\ R (Ite K a) H1
theorem pi_enum {X : Cx} {K : PySem.W.Frag} {elts : List Expr} {k : Nat} {tpos : Pos} {l : Expr} {tl : TE} {p pos : Pos} (hK : X.K = K) (hg : Gl X "enumerate") (hm : X.mg "enumerate" = none) (hl : PE X l tl) (hs : starEach [l] X.env = [(false, eval l X.env)] := by rfl) :
    PI X (.Tuple elts k tpos) (.Call (.Name "enumerate" p) [l] [] pos) (iEnum K tl) := by
  subst hK
  intro pins s σ H R I h
  have ha : PA X [l] (tCons tl tNil) := pa_cons hl pa_nil (by rw [hs]; rfl)
  refine Call_ (ld_blt I hg hm boot_enumerate (zq97x (thn (ha pos pins s σ H (fun vs H1 => match vs with | [x] => ∃ a, x = .ref a /\ (∃ xs, SqL X.K H1 a xs) /\ R (Ite X.K a) H1 | _ => False) I h) fun us s1 ⟨vs, H1, I1, r1, q1⟩ => ?_) hs rfl))
  cases r1 with
  | nil => exact q1.elim
  | cons r rr =>
    cases rr with
    | cons _ _ => exact q1.elim
    | nil =>
    obtain ⟨a, e2, ⟨xs, hq⟩, q⟩ := q1
    subst e2
    cases r
    obtain ⟨its, rv, p, hz⟩ := I1.list hq
    obtain ⟨m, hn, _⟩ := I1.loc
    refine enum_rows (h₀ := { objs := #[] }) (L := X.env.locals) (m := m) ⟨hn, fun b o z => ?_, zq43x _⟩ p.isList fun h' e1 e2 e3 e4 kp ne n1 n2 _ _ => ?_
    · cases z
    refine wpAny_pyIter_enum e1 ?_
    have I2 : Inv X pins σ H1 { s1 with heap := h' } := I1.kept (t' := s1.toks) kp
    refine ⟨s1.heap.objs.size + 1, [s1.heap.objs.size + 1, s1.heap.objs.size], _, _, H1, rfl, I2, turn_enum a _ _ ne, ⟨⟨_, e1⟩, e2⟩, fun b hb => ?_, q⟩
    rcases (show b = s1.heap.objs.size + 1 \/ b = s1.heap.objs.size by simpa using hb) with z | z
    · subst z; exact I1.fpOk (zq113x _) (I1.hok.fresh (zq113x _))
    · subst z; exact I1.fpOk (zq5x _) (I1.hok.fresh (zq5x _))
end L2
set_option maxRecDepth 100000
set_option maxHeartbeats 4000000
namespace L2
open PySem PySem.Spec PyProof.Rows
section
variable {G : Gx} {ρ ρc : Rh} {te : TE} {s : TS} {gt : TG} {E : DE} {K : PySem.W.Frag} {Θ : Bool -> List PyData -> Prop} {tc : TT} {mp : List (Option Nat)}
theorem Sv.forE (h : Ev G ρ te fun f x => ∃ ds, x = .list ds /\ ∀ v, Turns (G.hd f (.list ds) v) ρ ds.length (fun i d => ∃ e, ds[i]? = some e /\ d = .tuple [.int i, e]) f gt s E) : Sv G ρ (tFor (iEnum K te) gt s) E := fun nb σ H D W KK =>
 h nb σ H _ W fun f v H1 x ⟨ds, ex, q⟩ s1 hv => by
  subst ex
  obtain ⟨I, h0, ht, he⟩ := q v
  have W1 := (W.step s1).hd hv
  obtain ⟨a, xs, rfl, n, hx, hd⟩ := hv.ofL
  have key : ∀ {nb ρ' σ H}, Wd (G.hd f (.list ds) (.ref a)) nb ρ' σ H -> ∃ xs, H a = some (.lst xs) /\ IsDs (G.S nb f) H ds xs := fun W => by
   obtain ⟨a', xs', e', _, h', d'⟩ := W.unhd.2.ofL
   cases e'
   exact ⟨xs', h', d'⟩
  refine ⟨a, rfl, ⟨xs, .of hx⟩, ?_⟩
  refine ⟨fun i m σ H => m = ds.length - i /\ i <= ds.length /\ ∃ nb ρ', I i ρ' /\ Wd (G.hd f (.list ds) (.ref a)) nb ρ' σ H, ⟨ds.length, by simp, zq43x _, nb, ρ, h0, W1⟩, ?_⟩
  rintro i m σ H ⟨rfl, hi, nb, ρ', hI, W⟩
  obtain ⟨ys, hy, hD⟩ := key W
  have hl := hD.length
  by_cases hlt : i < ds.length
  ·refine .inr ⟨⟨ys, ys[i]'(by omega), .of hy, zq1x _⟩, fun σ H => ∃ nb ρ', I (i + 1) ρ' /\ Wd (G.hd f (.list ds) (.ref a)) nb ρ' σ H, fun σ' H' q => ⟨ds.length - (i + 1), by omega, rfl, hlt, q⟩, fun x H' y => ?_⟩
   obtain ⟨p, y, e, hn, hz, e2⟩ := y
   subst e e2
   have hx := hz ys (.of hy)
   obtain ⟨x', hx', dx⟩ := hD.get (zq1x hlt)
   rw [hx] at hx'; cases hx'
   have st : Step (G.hd f (.list ds) (.ref a)).B H (upd H p (.tup [.int i, y])) := .same W.bag (same_new hn)
   refine ht i _ ρ' ⟨_, zq1x hlt, rfl⟩ hI nb σ _ _ _ (W.step st) (.tup (W.fresh hn) upd_same (.cons (.int _) (.cons (dx.keep st.butS) .nil))) fun σ2 ρ2 q W2 => q nb σ2 _ _ W2 ?_
   exact ⟨fun nb ρ σ H q W => ⟨nb, ρ, q, W⟩, fun nb ρ σ H q W => KK.nx nb ρ σ H q W.unhd.1, fun nb ρ σ H q W => ⟨nb, ρ, q, W⟩, fun nb ρ σ f v H d q W hv => KK.rt nb ρ σ f v H d q W.unhd.1 hv, fun nb ρ σ v H q W => KK.rw nb ρ σ v H q W.unhd.1⟩
  ·have e : i = ds.length := by omega
   subst e
   exact .inl ⟨⟨ys, .of hy, by omega⟩, KK.nx nb ρ' σ H (he ρ' hI) W.unhd.1⟩
end
end L2
set_option maxRecDepth 100000
set_option maxHeartbeats 4000000
namespace L2
open PySem PySem.Spec PyProof.Rows
section
variable {G : Gx} {ρ : Rh} {Φ : Pd} {te : TE} {t : TA} {i n : Nat} {f : Bool} {ds : List PyData} {Θ : List PyData -> Prop}
theorem Ev.tupS (h : Av G ρ t fun es => es.length <= 10000 /\ Φ (allF es || scAll (es.map (·.2))) (.tuple (es.map (·.2)))) : Ev G ρ (tTup t) Φ := fun nb σ H Q W z =>
 h nb σ H _ W fun es vs H1 ⟨hl, p⟩ s1 q1 => ⟨zq31x (by rw [q1.len]; exact hl) (by decide), fun a ha => z _ _ _ _ p (s1.trans (.same (W.step s1).bag (same_new ha))) (by
  cases hs : scAll (es.map (·.2)) with
  | true => rw [zq105x]; exact .tup ((W.step s1).fresh ha) upd_same ((q1.all (f := false) fun z => by cases z).scAny hs)
  | false => rw [zq117x]; exact .tup ((W.step s1).fresh ha) upd_same ((q1.all fun z => z).keep (But.of (same_new ha))))⟩
theorem Ev.primeFrom (h : Ev G ρ te fun _ x => ∃ n : Int, x = .int n /\ 2 <= n /\ n <= 10002 /\ ∀ r : Int, PrimeZ r -> r < 10 ^ 40 -> Φ true (.int r)) : Ev G ρ (tCall spPrimeFrom [] E0 (tCons te tNil)) Φ := fun nb σ H Q W z =>
 h nb σ H _ W fun f v H1 d ⟨n, e, h1, h2, p⟩ s1 hv => by
  subst e
  exact ⟨n, by rw [hv.ofI]; rfl, h1, h2, fun r H' sm r1 r2 r3 => z true _ H' _ (p r (primeZ_no r1 r3) (by omega)) (s1.trans (.same (W.step s1).bag sm)) (.int r)⟩
theorem Ev.str {x : Str} (h : Φ true (.str x)) : Ev G ρ (tC (.str x)) Φ := fun nb σ H Q W z => z true _ H _ h (.refl W.bag) (by unfold IsD; rfl)
end
theorem Eu.fin {p b L lt t : Int} (h : Eu p b L lt 0 t) (hp : PrimeZ p) (hb : b % p ≠ 0) : ∃ k, lt % p * b = 1 + p * k := by
 obtain ⟨g1, g2⟩ := h.dv L (Int.dvd_refl L) (Int.dvd_zero L)
 have m1 := zq24x b (show p ≠ 0 by have := hp.1; omega)
 have m2 := zq28x b (show 0 < p by have := hp.1; omega)
 have hL : L = 1 := by
  rcases hp.2 L h.l0 g1 with e | e
  ·exact e
  ·exfalso
   rw [e] at g2
   have := zq62x (by omega) g2
   omega
 obtain ⟨k, hk⟩ := h.lc
 have e := zq145x lt p
 refine ⟨-k - lt / p * b, ?_⟩
 have e2 : lt % p = lt - p * (lt / p) := by omega
 rw [e2, Int.sub_mul, zq120x, Int.mul_neg, zq100x]
 omega
noncomputable def sol (p b a : Int) : Int := open Classical in if h : ∃ x, 0 <= x /\ x < p /\ ∃ k, b * x - a = p * k then Classical.choose h else 0
theorem pi_listK {X : Cx} {K : PySem.W.Frag} {tg l : Expr} {tl : TE} (hK : X.K = K) (hl : PE X l tl) : PI X tg l (iList K tl) := by subst hK; exact pi_list hl
end L2
set_option maxRecDepth 100000
set_option maxHeartbeats 4000000
namespace L2
open PySem PySem.Spec PyProof.Rows
section
variable {G : Gx} {ρ : Rh} {Φ : Pd} {ta tb te : TE} {E : DE} {K : PySem.W.Frag}
theorem Ev.slT {tl th : TO} (h : Ev G ρ te fun f x => ∃ ds, x = .tuple ds /\ Ov G ρ tl fun lo => Ov G ρ th fun hi => ¬ (HT.sIx ds.length 0 lo = 0 /\ HT.sIx ds.length ds.length hi = ds.length) /\ Φ f (.tuple (cutA ds lo hi))) : Ev G ρ (tSl (rSlT K) te tl th) Φ := fun nb σ H Q W z =>
 h nb σ H _ W fun f v H1 d ⟨ds, e, q⟩ s1 hv => q nb σ H1 _ (W.step s1) fun lo H2 q2 s2 => q2 nb σ H2 _ ((W.step s1).step s2) fun hi H3 ⟨hn, q3⟩ s3 => by
  subst e
  obtain ⟨a, xs, rfl, n, hx, hd⟩ := ((hv.keep s2.butS).keep s3.butS).ofT
  have W3 := ((W.step s1).step s2).step s3
  refine ⟨a, xs, rfl, .of hx, by rw [hd.length]; exact hn, fun p hp => ?_⟩
  exact z f _ _ _ q3 (s1.trans (s2.trans (s3.trans (.same W3.bag (same_new hp))))) (.tup (W3.fresh hp) upd_same (hd.cut.keep (But.of (same_new hp))))
theorem Ev.catT (h : Ev G ρ ta fun f x => ∃ ds, x = .tuple ds /\ ds ≠ [] /\ Ev G ρ tb fun g y => ∃ es, y = .tuple es /\ es ≠ [] /\ ds.length + es.length <= 10000 /\ Φ (f && g) (.tuple (ds ++ es))) : Ev G ρ (tOp (rCatT K) ta tb) Φ := fun nb σ H Q W z =>
 h nb σ H _ W fun f v H1 d ⟨ds, e, hne, q⟩ s1 hv => q nb σ H1 _ (W.step s1) fun g u H2 d2 ⟨es, e2, hne2, hl, p⟩ s2 hu => by
  subst e e2
  obtain ⟨a, xs, rfl, n, hx, hd⟩ := (hv.keep s2.butS).ofT
  obtain ⟨c, ys, rfl, m, hy, hc⟩ := hu.ofT
  have W2 := (W.step s1).step s2
  have hxl := hd.length
  have hyl := hc.length
  refine ⟨a, c, xs, ys, rfl, rfl, .of hx, .of hy, fun z => hne (zq102x.mp (by rw [<- hxl, z]; rfl)), zq31x (by rw [hxl, hyl]; exact hl) (by decide), fun z => absurd (zq102x.mp (by rw [<- hyl, z]; rfl)) hne2, fun _ q hq => ?_⟩
  refine z (f && g) _ _ _ p (s1.trans (s2.trans (.same W2.bag (same_new hq)))) (.tup (W2.fresh hq) upd_same ?_)
  exact (IsDs.append (hd.av (S_mono (fun z => (zq23x _ _ ▸ z).1) fun _ z => z)) (hc.av (S_mono (fun z => (zq23x _ _ ▸ z).2) fun _ z => z))).keep (But.of (same_new hq))
end
end L2
set_option maxRecDepth 100000
set_option maxHeartbeats 4000000
namespace L2
open PySem PySem.Spec PyProof.Rows
def fAll (es : List Fd) : Bool := es.all fun e => e.1 || scB e.2
section
variable {G : Gx} {ρ : Rh} {Φ : Pd} {t : TA} {te : TE}
theorem IsF.allS {nb : Addr -> Prop} {H : Hp} : ∀ {es : List Fd} {vs : List V} {f : Bool}, IsF G nb H es vs -> (f = true -> fAll es = true) -> IsDs (G.S nb f) H (es.map (·.2)) vs
  | [], _, _, h, _ => by unfold IsF at h; subst h; exact .nil
  | e :: es, _, f, h, hf => by
    obtain ⟨v, ws, rfl, h1, h2⟩ := h
    have hh : f = true -> (e.1 || scB e.2) = true /\ fAll es = true := fun z => by
      have := hf z
      unfold fAll at this
      rw [zq116x, zq23x] at this
      exact this
    refine .cons ?_ (h2.allS fun z => (hh z).2)
    cases hs : scB e.2 with
    | true => exact h1.scAny hs
    | false => exact h1.av (S_mono (fun z => by have := (hh z).1; rw [hs, zq117x] at this; exact this) fun _ z => z)
theorem Ev.tupF (h : Av G ρ t fun es => es.length <= 10000 /\ Φ (fAll es) (.tuple (es.map (·.2)))) : Ev G ρ (tTup t) Φ := fun nb σ H Q W z =>
 h nb σ H _ W fun es vs H1 ⟨hl, p⟩ s1 q1 => ⟨zq31x (by rw [q1.len]; exact hl) (by decide), fun a ha => z _ _ _ _ p (s1.trans (.same (W.step s1).bag (same_new ha)))
  (.tup ((W.step s1).fresh ha) upd_same ((q1.allS fun z => z).keep (But.of (same_new ha))))⟩
end
def rIsNotB : R2 := fun x y H Q => ∃ a b : Bool, x = .bl a /\ y = .bl b /\ Q (.bl (!(a == b))) H
theorem Ev.isNotB {G : Gx} {ρ : Rh} {ta : TE} {b : Bool} {Φ : Pd} (h : Ev G ρ ta fun _ x => ∃ a, x = .bool a /\ Φ true (.bool (!(a == b)))) : Ev G ρ (tOp rIsNotB ta (tC (.bl b))) Φ := fun nb σ H Q W z =>
 h nb σ H _ W fun f v H1 d ⟨a, e, q⟩ s1 hv => by
  subst e
  unfold IsD at hv
  subst hv
  exact ⟨a, b, rfl, rfl, z true _ H1 _ q s1 (.bl _)⟩
abbrev rowD (r : List Int) : PyData := .list (r.map .int)
end L2
set_option maxRecDepth 100000
set_option maxHeartbeats 4000000
set_option maxRecDepth 100000
namespace L2
open PySem PySem.Spec PyProof.Rows
section
variable {κ : Type} [DecidableEq κ]
def valV (kvs : List (κ × V)) (k : κ) : Option V := (kvs.find? fun kv => decide (kv.1 = k)).map (·.2)
def putK (kvs : List (κ × V)) (k : κ) (v : V) : List (κ × V) :=
 if (kvs.any fun kv => decide (kv.1 = k)) = true then kvs.map (fun kv => if kv.1 = k then (kv.1, v) else kv) else kvs ++ [(k, v)]
theorem valV_nil {k : κ} : valV ([] : List (κ × V)) k = none := rfl
theorem valV_pos {p : κ × V} {r : List (κ × V)} {k : κ} (e : p.1 = k) : valV (p :: r) k = some p.2 := by simp [valV, zq70x, e]
theorem valV_neg {p : κ × V} {r : List (κ × V)} {k : κ} (e : ¬ p.1 = k) : valV (p :: r) k = valV r k := by simp [valV, zq70x, e]
theorem valV_any (k : κ) : ∀ kvs : List (κ × V), (kvs.any fun kv => decide (kv.1 = k)) = (valV kvs k).isSome
  | [] => rfl
  | p :: r => by
    rw [zq123x]
    by_cases e : p.1 = k
    · simp only [valV_pos e, decide_eq_true e, zq124x, Option.isSome_some]
    · rw [valV_neg e, decide_eq_false e, zq118x]; exact valV_any k r
theorem length_putK (kvs : List (κ × V)) (k : κ) (v : V) : (putK kvs k v).length <= kvs.length + 1 := by
 unfold putK
 split
 ·rw [zq0x]; omega
 ·rw [zq25x, zq51x, List.length_nil]; omega
theorem RelO.isSome_eq {o : Option V} {u : Option Value} (r : RelO o u) : o.isSome = u.isSome := by
  cases o with
  | none => cases u with
    | none => rfl
    | some _ => exact (show False from r).elim
  | some _ => cases u with
    | none => exact (show False from r).elim
    | some _ => rfl
theorem KV.val {kvs : List (κ × V)} {vs : List (κ × Value)} (r : KV kvs vs) (k : κ) : RelO (valV kvs k) (valueAt vs k) := by
  unfold KV at r
  induction r with
  | nil => exact True.intro
  | @cons p q ps qs h t ih =>
    obtain ⟨h1, h2⟩ := h
    by_cases e : p.1 = k
    · have e' : q.1 = k := h1.symm.trans e
      have b : valueAt (q :: qs) k = some q.2 := by simp [valueAt, zq70x, e']
      rw [valV_pos e, b]; exact h2
    · have e' : ¬ q.1 = k := fun z => e (h1.trans z)
      have b : valueAt (q :: qs) k = valueAt qs k := by simp [valueAt, zq70x, e']
      rw [valV_neg e, b]; exact ih
theorem KV.any {kvs : List (κ × V)} {vs : List (κ × Value)} (r : KV kvs vs) (k : κ) : (kvs.any fun kv => decide (kv.1 = k)) = vs.any fun kv => decide (kv.1 = k) := by
 unfold KV at r
 induction r with
 | nil => rfl
 | cons h t ih => rw [zq123x, zq123x, ih, h.1]
theorem KV.repl {kvs : List (κ × V)} {vs : List (κ × Value)} (r : KV kvs vs) (k : κ) {y : V} {u : Value} (ry : RelV y u) :
    KV (kvs.map fun kv => if kv.1 = k then (kv.1, y) else kv) (vs.map fun kv => if kv.1 = k then (kv.1, u) else kv) := by
  unfold KV at r ⊢
  induction r with
  | nil => exact .nil
  | @cons p q ps qs h t ih =>
    rw [zq9x, zq9x]
    refine .cons ?_ ih
    obtain ⟨h1, h2⟩ := h
    by_cases e : p.1 = k
    · rw [if_pos e, if_pos (h1.symm.trans e)]; exact ⟨h1, ry⟩
    · rw [if_neg e, if_neg (fun z => e (h1.trans z))]; exact ⟨h1, h2⟩
theorem KV.put {kvs : List (κ × V)} {vs : List (κ × Value)} (r : KV kvs vs) (k : κ) {y : V} {u : Value} (ry : RelV y u) : KV (putK kvs k y) (stored vs k u) := by
 unfold putK stored
 rw [r.any k]
 by_cases e : (vs.any fun kv => decide (kv.1 = k)) = true
 ·rw [if_pos e, if_pos e]; exact r.repl k ry
 ·rw [if_neg e, if_neg e]; exact Paired.snoc r ⟨rfl, ry⟩
theorem KV.length {kvs : List (κ × V)} {vs : List (κ × Value)} (r : KV kvs vs) : kvs.length = vs.length := Paired.length r
end
theorem kV_is {P : Program} {w : World} {k : Key} {u : Value} (r : RelV (kV k) u) : (mixKind P w).is k u = true := by
 cases k with
 | inl i => obtain ⟨t, e⟩ := (show ∃ t, u = Value.int i t from r); subst e; exact mixKind_int P w i t
 | inr x => obtain ⟨t, e⟩ := (show ∃ t, u = Value.str x t from r); subst e; exact mixKind_str P w x t
theorem items_are {P : Program} {w : World} : ∀ {ks : List Key} {us : List Value}, Vals (ks.map kV) us -> ItemsAre (mixKind P w) ks us
  | [], _, r => by rw [zq114x] at r; cases r; exact .nil
  | k :: ks, _, r => by
    rw [zq9x] at r
    cases r with
    | cons h t => exact .cons (kV_is h) (items_are t)
abbrev KT (H : Hp) : List (List Key × V) -> List (List Key × Addr × Value) -> Prop := Paired fun p q => p.1 = q.1 /\ H q.2.1 = some (.tup (p.1.map kV)) /\ RelV p.2 q.2.2
theorem KT.val {H : Hp} {kvs : List (List Key × V)} {xs : List (List Key × Addr × Value)} (r : KT H kvs xs) (k : List Key) : RelO (valV kvs k) ((atKey xs k).map (·.2)) := by
  induction r with
  | nil => exact True.intro
  | @cons p q ps qs h t ih =>
    obtain ⟨h1, _, h2⟩ := h
    by_cases e : p.1 = k
    · have e' : q.1 = k := h1.symm.trans e
      have b : atKey (q :: qs) k = some q.2 := by simp [atKey, zq70x, e']
      rw [valV_pos e, b]; exact h2
    · have e' : ¬ q.1 = k := fun z => e (h1.trans z)
      have b : atKey (q :: qs) k = atKey qs k := by simp [atKey, zq70x, e']
      rw [valV_neg e, b]; exact ih
section
variable {P : Program} {w : World} {H : Hp} {h : Heap} {a : Addr}
theorem rd_of {u : HO} (ok : HOk P w H h) (e : Rd H a u) : ObjOk P w H h a u := e.ok ok
theorem dk_rd {kvs : List (Key × V)} (ok : HOk P w H h) (e : Rd H a (.dK kvs)) : kvs.length <= sizeLine /\ (a == sysModules) = false /\ ∃ vs, KV kvs vs /\ h.DictOf (mixKind P w) a vs :=
 show ObjOk P w H h a (.dK kvs) from rd_of ok e
theorem dk_of {kvs : List (Key × V)} (ok : HOk P w H h) (e : H a = some (.dK kvs)) : kvs.length <= sizeLine /\ (a == sysModules) = false /\ ∃ vs, KV kvs vs /\ h.DictOf (mixKind P w) a vs := dk_rd ok (.inl e)
theorem key_of {ks : List Key} (ok : HOk P w H h) (e : H a = some (.tup (ks.map kV))) : (tupleKind (mixKind P w)).is h ks a := by
 obtain ⟨_, its, r, o, h1, h2, n, h3⟩ := (show ObjOk P w H h a (.tup (ks.map kV)) from ok a _ e)
 exact ⟨o, its.toArray, n, h1, h2, h3, by simpa using items_are r⟩
theorem dt_rd {kvs : List (List Key × V)} (ok : HOk P w H h) (e : Rd H a (.dT kvs)) : kvs.length <= sizeLine /\ (a == sysModules) = false /\
    ∃ xs, KT H kvs xs /\ h.DictOfH (tupleKind (mixKind P w)) a xs := by
  obtain ⟨z, y, xs, r, o, es, ep, h1, h2, h3, h4, h5⟩ := (show ObjOk P w H h a (.dT kvs) from rd_of ok e)
  refine ⟨z, y, xs, r, o, es, ep, h1, h2, h3, h4, fun x hx => ?_, h5⟩
  have all : ∀ {l : List (List Key × V)} {m : List (List Key × Addr × Value)}, KT H l m -> ∀ x ∈ m, (tupleKind (mixKind P w)).is h x.1 x.2.1 := by
    intro l m q
    induction q with
    | nil => intro x hx; exact nomatch hx
    | @cons p q ps qs hq t ih =>
      intro x hx
      rcases zq3x.mp hx with e | hx
      · subst e
        exact key_of ok (by rw [<- hq.1]; exact hq.2.1)
      · exact ih x hx
  exact all r x hx
end
def DGet (H : Hp) (a : Addr) (y : V) (r : Option V) : Prop :=
 (∃ kvs k, Rd H a (.dK kvs) /\ y = kV k /\ r = valV kvs k) \/ ∃ kvs k b, Rd H a (.dT kvs) /\ y = .ref b /\ H b = some (.tup (k.map kV)) /\ r = valV kvs k
section
variable {X : Cx} {pins : List (Addr × Obj)} {σ : St} {H : Hp} {s : Shared} {a : Addr} {y v : V} {u r : Value} {o : Option V} {A : Around} {E : Value -> Shared -> Prop}
theorem Inv.big (I : Inv X pins σ H s) : sysModules < s.heap.objs.size := by
 have h : mainGlobals < s.heap.objs.size := (I.mod.glob.keeps I.bk).lt
 exact Nat.lt_trans (by decide) h
theorem d_in {Q : Value -> Shared -> Prop} (hu : A.units + 1 < cLine) (I : Inv X pins σ H s) (g : DGet H a y o) (ry : RelV y u) (h : ∀ s', Inv X pins σ H s' -> Q (.bool o.isSome) s') :
  wpAny (model X.prog X.w) A (compareOp .In u (.ref a)) Q E s := by
 rcases g with ⟨kvs, k, e, ey, l⟩ | ⟨kvs, k, b, e, ey, eb, l⟩
 ·subst ey
  obtain ⟨z, hd, vs, rel, dd⟩ := dk_rd I.hok e
  refine wpAny_in_of (kV_is ry) hd dd.mapOf ?_
  rw [<- (rel.val k).isSome_eq, <- l]
  exact h _ (I.tok _)
 ·subst ey
  cases (show u = Value.ref b from ry)
  obtain ⟨z, hd, xs, rel, dd⟩ := dt_rd I.hok e
  refine wpAny_in_heap (tupleKind_room_in1 hu) (key_of I.hok eb) hd dd ?_
  have q := (rel.val k).isSome_eq
  rw [zq155x] at q
  rw [<- q, <- l]
  exact h _ (I.tok _)
theorem d_notIn {Q : Value -> Shared -> Prop} (hu : A.units + 1 < cLine) (I : Inv X pins σ H s) (g : DGet H a y o) (ry : RelV y u) (h : ∀ s', Inv X pins σ H s' -> Q (.bool (!o.isSome)) s') :
  wpAny (model X.prog X.w) A (compareOp .NotIn u (.ref a)) Q E s := by
 rcases g with ⟨kvs, k, e, ey, l⟩ | ⟨kvs, k, b, e, ey, eb, l⟩
 ·subst ey
  obtain ⟨z, hd, vs, rel, dd⟩ := dk_rd I.hok e
  refine wpAny_notIn_of (kV_is ry) hd dd.mapOf ?_
  rw [<- (rel.val k).isSome_eq, <- l]
  exact h _ (I.tok _)
 ·subst ey
  cases (show u = Value.ref b from ry)
  obtain ⟨z, hd, xs, rel, dd⟩ := dt_rd I.hok e
  refine wpAny_notIn_heap (tupleKind_room_in1 hu) (key_of I.hok eb) hd dd ?_
  have q := (rel.val k).isSome_eq
  rw [zq155x] at q
  rw [<- q, <- l]
  exact h _ (I.tok _)
theorem d_write {h' : Heap} {t' : Nat} {ob : HO} (I : Inv X pins σ H s) (mu : Mut (H a)) (hs : Heap.SameBut a s.heap h') (he : ∃ q, h'.get? a = some q) (new : ObjOk X.prog X.w (upd H a ob) h' a ob) :
  Inv X pins σ (upd H a ob) { s with heap := h', toks := t' } :=
 I.write (x := a) (e := a) mu (.inl rfl) (fun b q hb z => (hs.2 b hb).trans z) he new
theorem dk_new {P : Program} {w : World} {H' : Hp} {h' : Heap} {kvs : List (Key × V)} {vs : List (Key × Value)} (z : kvs.length <= sizeLine) (hd : (a == sysModules) = false) (rel : KV kvs vs) (dd : h'.DictOf (mixKind P w) a vs) :
  ObjOk P w H' h' a (.dK kvs) := ⟨z, hd, vs, rel, dd⟩
end
section
variable {X : Cx} {pins : List (Addr × Obj)} {σ : St} {H : Hp} {s : Shared} {a : Addr} {kvs : List (Key × V)} {k : Key} {u : Value} {A : Around} {E : Value -> Shared -> Prop}
theorem d_len {Q : Value -> Shared -> Prop} (I : Inv X pins σ H s) (e : Rd H a (.dK kvs)) (h : ∀ t s', Inv X pins σ H s' -> Q (.int kvs.length t) s') : wpAny (model X.prog X.w) A (call (.builtin "len") [.ref a]) Q E s := by
 obtain ⟨z, hd, vs, rel, dd⟩ := dk_rd I.hok e
 refine call_len_dict hd dd (by rw [<- rel.length]; rw [sizeLine_eq] at z; omega) ?_
 rw [<- rel.length]
 exact h _ _ (I.tok _)
end
theorem dk_empty {P : Program} {w : World} {H : Hp} (h : Heap) (hb : sysModules < h.objs.size) : ObjOk P w H (h.push { cls := .type "dict", data := .dict #[] }) h.objs.size (.dK []) :=
 ⟨zq43x _, beq_eq_false_iff_ne.mpr (zq11x (zq47x hb)), [], .nil, Heap.DictOf.new h⟩
def tDNewK : TE := fun _ H Q => ∀ p, H p = none -> Q (.ref p) (upd H p (.dK []))
section
variable {X : Cx} {pos : Pos}
theorem pe_dnewK : PE X (.Dict [] [] pos) tDNewK := fun pins s σ H Q I h =>
 wpAny_Dict_empty ⟨.ref s.heap.objs.size, _, I.laid (a := s.heap.objs.size) (o := .dK []) (t' := s.toks) (fun _ _ q => zq49x _ q) (zq5x _) (dk_empty s.heap I.big), rfl, h _ (I.hok.fresh (zq5x _))⟩
end
end L2
/- THE LAST THEOREM (shape; LID, My.* are yours):
   My.Adr: a structure of the addresses that your layer names (classes, functions); My.Txt K t: a structure (Prop) of the equations over K;
   My.txt_mk : {K} {implicit addresses ..} (e1 : nsIn K mainGlobals "law" = some (some (.ref f))) (e2 : K.lookup f = some ⟨oc, od, .func (fnOf "law" "law" params body scope dV kV doc pm an cdv ct), sl⟩) (e3 : codeIn K cdv "law" = true) .. : ∃ t, My.Txt K t
set_option maxRecDepth 100000 in
set_option maxHeartbeats 0 in
(the tactic k_is has no namespace: write k_is) -/
set_option maxRecDepth 100000
set_option maxHeartbeats 4000000
namespace L2
open PySem PySem.Spec PyProof.Rows
section
variable {X : Cx}
def rPutD : V -> V -> V -> Hp -> (Hp -> Prop) -> Prop := fun o i v H Q => ∃ a kvs k, o = .ref a /\ i = kV k /\ H a = some (.dK kvs) /\ kvs.length < sizeLine /\ Q (upd H a (.dK (putK kvs k v)))
theorem set_dict : PSet X rPutD := by
 intro pins s σ H o i v ov iv u Q I ro ri rv h
 obtain ⟨a, kvs, k, rfl, rfl, hH, hl0, q⟩ := h
 cases ro
 obtain ⟨z, hd, vs, rel, dd⟩ := dk_of I.hok hH
 have hz : vs.length <= sizeLine := by rw [<- rel.length]; exact z
 have hl : (putK kvs k v).length <= sizeLine := by have := length_putK kvs k v; omega
 refine wpAny_setItem_pairs (hsz := hz) (kV_is ri) dd fun h' dd' hs => ?_
 have he : ∃ q, h'.get? a = some q := let ⟨q, _, _, hq, _⟩ := dd'; ⟨q, hq⟩
 exact ⟨_, d_write I (by rw [hH]; exact True.intro) hs he (dk_new hl hd (rel.put k rv) dd'), q⟩
end
end L2
set_option maxRecDepth 100000
set_option maxHeartbeats 4000000
set_option maxRecDepth 100000
set_option maxHeartbeats 4000000
namespace L2
abbrev Cn := List (Int × Int)
structure CntOk (cs : Cn) : Prop where
 rng : ∀ c ∈ cs, 0 <= c.1 /\ c.1 <= 12 /\ 0 <= c.2 /\ c.2 <= 10 ^ 7
 nd : (cs.map (·.1)).Nodup
 len : cs.length <= 14
 pos : ∃ c ∈ cs, 0 < c.1 /\ 0 < c.2
def sumS : Cn -> Rat -> Rat
 | [], _ => 0
 | c :: r, v => (if 0 < c.1 then ((c.1 * c.2 : Int) : Rat) * v ^ (c.1.toNat - 1) else 0) + sumS r v
def sumW : Cn -> Int
 | [] => 0
 | c :: r => c.1 * c.2 + sumW r
def tellT (cs : Cn) (v : Rat) : Rat := sumS cs v / (sumW cs : Int)
def growG (l c : Cn) (s v : Rat) : Rat := s * tellT l (1 - tellT c (1 - v))
section
variable {l c : Cn} {s : Rat} (hl : CntOk l) (hc : CntOk c) (s0 : 0 <= s)
include hl hc s0
end
def ceilR (x : Rat) : Int := -((-x).floor)
end L2
namespace L2
structure Gw where
 l : Cn
 c : Cn
 s : Rat
 u : Int
def Gw.gr (g : Gw) (x : Int) : Rat := growG g.l g.c g.s ((x : Rat) / g.u) * g.u
def Gw.lo (g : Gw) : Nat -> Int
 | 0 => (g.s * g.u).floor
 | k + 1 => (g.gr (g.lo k)).floor
def Gw.hi (g : Gw) : Nat -> Int
 | 0 => ceilR (g.s * g.u)
 | k + 1 => ceilR (g.gr (g.hi k))
end L2
set_option maxRecDepth 100000
set_option maxHeartbeats 4000000
namespace L2
open PySem PySem.Spec PyProof.Rows
@[reducible] def bdD (g : Gw) (k : Nat) : PyData := .tuple [.int (g.lo k), .int (g.hi k)]
@[reducible] def fallD (n : Nat) : PyData := .tuple [.str "falls", .int n]
@[reducible] def stayD (x : Int) : PyData := .tuple [.str "stays", .int x]
@[reducible] def openD : PyData := .tuple [.str "open"]
def gLst (K : PySem.W.Frag) (n : Nat) (t : TGs) : TG := fun v σ H Q => ∃ a xs, v = .ref a /\ SqL K H a xs /\ xs.length = n /\ t xs σ H Q
theorem Gv.lst {G : Gx} {ρ : Rh} {f : Bool} {ds : List PyData} {K : PySem.W.Frag} {Θ : Rh -> Prop} {n : Nat} {u : TGs} (hl : ds.length = n) (h : Gvs G ρ u f ds Θ) : Gv G ρ (gLst K n u) f (.list ds) Θ := fun nb σ H v Q W hv z => by
 obtain ⟨a, xs, rfl, m, hx, hd⟩ := hv.ofL
 exact ⟨a, xs, rfl, .of hx, by rw [hd.length]; exact hl, h nb σ H xs Q W hd z⟩
end L2
set_option maxRecDepth 100000
set_option maxHeartbeats 4000000
namespace L2
open PySem PySem.Spec PyProof.Rows PySem.W
section
variable {n : Nat} {cmp : Nat -> Nat -> (Bool -> Shared -> Prop) -> Shared -> Prop} {s : Shared}
variable (h0 : 0 < n) (hc : ∀ i j C, i < n -> j < n -> (∀ b, C b s) -> cmp i j C s)
include h0 hc
end
theorem EvN.repD {G : Gx} {ρ : Rh} {te tb : TE} {Θ : Bool -> List PyData -> Prop} (h : Ev G ρ te fun f d => Ev G ρ tb fun _ y => ∃ k, y = .int k /\ k <= 10000 /\ -(10000) <= k /\ ∀ g, Θ g (List.replicate k.toNat d)) : EvN G ρ (tOp rRep (tLst (tCons te tNil)) tb) Θ := fun nb σ H Q W z =>
 h nb σ H _ W fun f v H1 d' q s1 hv => by
  refine ⟨by show 1 <= sizeLine; decide, fun p hp => ?_⟩
  have W1 := W.step s1
  have s2 : Step G.B H1 (upd H1 p (.lst [v])) := .same W1.bag (same_new hp)
  refine q nb σ _ _ (W1.step s2) fun g u H2 d2 ⟨k, e2, h1, h2, p2⟩ s3 hu => ?_
  subst e2
  have hN : NB G.B p := fun b l e z => by
   subst z
   exact NB.bag_live (B := G.B) (a := p) s1.2 (fun z => z _ _ e rfl) hp
  refine ⟨p, k, [v], rfl, hu.ofI, s3.1 _ _ hN upd_same, by omega, by omega, ?_, fun a ha => ?_⟩
  ·show 1 * k.toNat <= sizeLine
   exact zq31x (show 1 * k.toNat <= 10000 by omega) (by decide)
  ·have hv2 := (hv.keep s2.butS).keep s3.butS
   have hd : IsDs (G.S nb f) H2 (List.replicate k.toNat d') (List.replicate k.toNat [v]).flatten := by
    induction k.toNat with
    | zero => exact .nil
    | succ m ih => rw [zq79x, zq79x, zq98x]; exact .cons hv2 ih
   exact EvN.fin (f := f) W (s1.trans (s2.trans s3)) ha hd (p2 _) z
end L2
set_option maxRecDepth 100000
set_option maxHeartbeats 4000000
namespace L2
open PySem PySem.Spec PyProof.Rows PySem.W
section
variable {n : Nat} {key : Nat -> Int} {cmp : Nat -> Nat -> (Bool -> Shared -> Prop) -> Shared -> Prop} {s : Shared}
variable (h0 : 0 < n) (hc : ∀ i j C, i < n -> j < n -> C (decide (key i < key j)) s -> cmp i j C s)
include h0 hc
end
end L2
set_option maxRecDepth 100000
set_option maxHeartbeats 4000000
set_option maxRecDepth 100000
set_option maxHeartbeats 4000000
namespace L2
open PySem PySem.Spec PyProof.Rows
@[reducible] def gwOf (l c : Cn) (u p : Int) : Gw := ⟨l, c, (p : Rat) / u, u⟩
end L2
set_option maxRecDepth 100000
set_option maxHeartbeats 4000000
namespace L2
open PySem PySem.Spec PyProof.Rows
theorem Ev.lend {G : Gx} {ρ : Rh} {te : TE} {Φ : Pd} {a : Addr} {f : Bool} {ds : List PyData} (i : Nat) (e : ρ[i]? = some (.own a f ds)) (h : Ev G (ρ.set i (.d f (.list ds))) te fun _ d => scB d = true /\ Φ true d) : Ev G ρ te Φ := fun nb σ H Q W z =>
 h _ σ H Q (Sv.share W e) fun f v H' d ⟨hs, p⟩ st hv => z true v H' d p st (hv.scAny hs)
theorem Tv.lend {G : Gx} {ρ : Rh} {t : TT} {Θ : Bool -> Prop} {a : Addr} {f : Bool} {ds : List PyData} (i : Nat) (e : ρ[i]? = some (.own a f ds)) (h : Tv G (ρ.set i (.d f (.list ds))) t Θ) : Tv G ρ t Θ := fun nb σ H Q W z =>
 h _ σ H Q (Sv.share W e) z
end L2
set_option maxRecDepth 100000
set_option maxHeartbeats 4000000
set_option maxRecDepth 100000
set_option maxHeartbeats 4000000
set_option maxRecDepth 100000
set_option maxHeartbeats 4000000
namespace L2
open PySem PySem.Spec PyProof.Rows
abbrev Ks := List (Int × PyData)
def valI (ks : Ks) (k : Int) : Option PyData := (ks.find? fun p => decide (p.1 = k)).map (·.2)
def hasI (ks : Ks) (k : Int) : Bool := ks.any fun p => decide (p.1 = k)
def putI (ks : Ks) (k : Int) (d : PyData) : Ks := if hasI ks k then ks.map fun p => if p.1 = k then (p.1, d) else p else ks ++ [(k, d)]
theorem valI_has (ks : Ks) (k : Int) : (valI ks k).isSome = hasI ks k := by
  unfold valI hasI
  rw [zq155x]
  induction ks with
  | nil => rfl
  | cons p r ih =>
    rw [zq70x, zq123x]
    by_cases h : p.1 = k
    · simp [h]
    · simp only [h, decide_false, zq118x]; exact ih
theorem valI_nil {k : Int} : valI [] k = none := rfl
theorem valI_cons {p : Int × PyData} {r : Ks} {k : Int} : valI (p :: r) k = if p.1 = k then some p.2 else valI r k := by
 unfold valI
 rw [zq70x]
 by_cases h : p.1 = k <;> simp [h]
theorem valI_append {ks : Ks} {k j : Int} {d : PyData} : valI (ks ++ [(k, d)]) j = match valI ks j with | some x => some x | none => if j = k then some d else none := by
  induction ks with
  | nil =>
    rw [List.nil_append, valI_cons, valI_nil]
    by_cases h : k = j
    · subst h; simp
    · have h' : ¬ j = k := fun z => h z.symm
      simp [h, h']
  | cons p r ih =>
    rw [zq83x, valI_cons, valI_cons, ih]
    by_cases h : p.1 = j <;> simp [h]
section
variable {S : Addr -> Prop} {H : Hp}
theorem IsKs.val : ∀ {ks : Ks} {ps : List (Key × V)} (k : Int), IsKs S H (ks.map kvD) ps -> match valI ks k with | some d => ∃ v, valV ps (Sum.inl k) = some v /\ IsD S H d v | none => valV ps (Sum.inl k) = none
  | [], ps, k, h => by unfold IsKs at h; subst h; exact valV_nil
  | p :: r, ps, k, h => by
    rw [zq9x] at h
    unfold IsKs at h
    obtain ⟨q, qs, rfl, h1, h2⟩ := h
    unfold IsK at h1
    obtain ⟨h3, h4⟩ := h1
    have h3 : q.1 = Sum.inl p.1 := h3
    rw [valI_cons]
    have ih := IsKs.val k h2
    by_cases e : p.1 = k
    · rw [if_pos e]
      refine ⟨q.2, ?_, h4⟩
      rw [valV_pos (by rw [h3, e])]
    · rw [if_neg e, valV_neg (fun z => e (by rw [h3] at z; exact zq135x z))]
      exact ih
theorem IsKs.snoc : ∀ {ks : Ks} {ps : List (Key × V)} {k : Int} {d : PyData} {v : V}, IsKs S H (ks.map kvD) ps -> IsD S H d v -> IsKs S H ((ks ++ [(k, d)]).map kvD) (ps ++ [(Sum.inl k, v)])
  | [], ps, k, d, v, h, hd => by
    unfold IsKs at h; subst h
    show IsKs S H [kvD (k, d)] [(Sum.inl k, v)]
    unfold IsKs
    exact ⟨_, _, rfl, by unfold IsK; exact ⟨rfl, hd⟩, by unfold IsKs; rfl⟩
  | p :: r, ps, k, d, v, h, hd => by
    rw [zq9x] at h
    unfold IsKs at h
    obtain ⟨q, qs, rfl, h1, h2⟩ := h
    rw [zq83x, zq9x, zq83x]
    unfold IsKs
    exact ⟨q, _, rfl, h1, IsKs.snoc h2 hd⟩
theorem IsKs.repl : ∀ {ks : Ks} {ps : List (Key × V)} {k : Int} {d : PyData} {v : V}, IsKs S H (ks.map kvD) ps -> IsD S H d v -> IsKs S H ((ks.map fun p => if p.1 = k then (p.1, d) else p).map kvD) (ps.map fun kv => if kv.1 = Sum.inl k then (kv.1, v) else kv)
  | [], ps, k, d, v, h, hd => by unfold IsKs at h; subst h; simp only [zq114x]; unfold IsKs; rfl
  | p :: r, ps, k, d, v, h, hd => by
    rw [zq9x] at h
    unfold IsKs at h
    obtain ⟨q, qs, rfl, h1, h2⟩ := h
    rw [zq9x, zq9x, zq9x]
    unfold IsK at h1
    obtain ⟨h3, h4⟩ := h1
    have h3 : q.1 = Sum.inl p.1 := h3
    unfold IsKs
    refine ⟨_, _, rfl, ?_, IsKs.repl h2 hd⟩
    by_cases e : p.1 = k
    · rw [if_pos e, if_pos (by rw [h3, e])]
      unfold IsK
      exact ⟨h3, hd⟩
    · rw [if_neg e, if_neg (fun z => e (by rw [h3] at z; exact zq135x z))]
      unfold IsK
      exact ⟨h3, h4⟩
theorem IsKs.any : ∀ {ks : Ks} {ps : List (Key × V)} (k : Int), IsKs S H (ks.map kvD) ps -> (ps.any fun kv => decide (kv.1 = Sum.inl k)) = hasI ks k := fun {ks ps} k h => by
 rw [valV_any, <- valI_has]
 have := IsKs.val k h
 cases hv : valI ks k with
 | none => rw [hv] at this; rw [this]; rfl
 | some d => rw [hv] at this; obtain ⟨v, e, _⟩ := this; rw [e]; rfl
theorem IsKs.put {ks : Ks} {ps : List (Key × V)} {k : Int} {d : PyData} {v : V} (h : IsKs S H (ks.map kvD) ps) (hd : IsD S H d v) : IsKs S H ((putI ks k d).map kvD) (putK ps (Sum.inl k) v) := by
 unfold putI putK
 rw [IsKs.any k h]
 split
 ·exact IsKs.repl h hd
 ·exact IsKs.snoc h hd
theorem IsKs.len : ∀ {ks : Ks} {ps : List (Key × V)}, IsKs S H (ks.map kvD) ps -> ps.length = ks.length
  | [], ps, h => by unfold IsKs at h; subst h; rfl
  | p :: r, ps, h => by
    rw [zq9x] at h
    unfold IsKs at h
    obtain ⟨q, qs, rfl, _, h2⟩ := h
    simp [IsKs.len h2]
theorem IsKs.keys : ∀ {ks : Ks} {ps : List (Key × V)}, IsKs S H (ks.map kvD) ps -> ps.map (·.1) = (ks.map (·.1)).map Sum.inl
  | [], ps, h => by unfold IsKs at h; subst h; rfl
  | p :: r, ps, h => by
    rw [zq9x] at h
    unfold IsKs at h
    obtain ⟨q, qs, rfl, h1, h2⟩ := h
    unfold IsK at h1
    have h3 : q.1 = Sum.inl p.1 := h1.1
    simp [IsKs.keys h2, h3]
end
def EvK (G : Gx) (ρ : Rh) (te : TE) (Φ : Bool -> Ks -> Prop) : Prop := ∀ nb σ H (Q : VK), Wd G nb ρ σ H ->
 (∀ f a ps H' ks, Φ f ks -> Step G.B H H' -> H a = none -> H' a = some (.dK ps) -> IsKs (fun x => G.S nb f x \/ x = a) H' (ks.map kvD) ps -> Q (.ref a) H') -> te σ H Q
section
variable {G : Gx} {ρ ρc : Rh} {Φ Ψ : Pd} {ta tb te : TE} {t : TA} {i : Nat} {f g : Bool} {d e : PyData} {ks : Ks} {K : PySem.W.Frag} {E : DE} {Θ : Bool -> Ks -> Prop}
theorem Wd.grow {nb : Addr -> Prop} {σ : St} {H H1 : Hp} {a : Addr} {o : HO} (W : Wd G nb ρ σ H) (s1 : Step G.B H H1) (ha : H a = none) (e : H1 a = some o) : Wd G (fun x => nb x \/ x = a) ρ σ H1 /\ NB G.B a /\ ∀ f x, G.S (fun x => nb x \/ x = a) f x -> (G.S nb f x \/ x = a) := by
  have hN : NB G.B a := NB.new W.bag ha
  have hA : ∀ f x, G.S (fun x => nb x \/ x = a) f x -> (G.S nb f x \/ x = a) := fun f x z => by
    rcases z with (z | z) | z | z | z
    · exact .inl (.inl z)
    · exact .inr z
    · exact .inl (.inr (.inl z))
    · exact .inl (.inr (.inr (.inl z)))
    · exact .inl (.inr (.inr (.inr z)))
  have W1 := W.step s1
  refine ⟨?_, hN, hA⟩
  refine ⟨W1.bag, fun x n => ?_, W1.old, fun x n q => ?_, W.gA, W.len, W.gB, fun h m => (((W.hld h m).fresh ha).keep (s1.but fun x z => .inl (.inr (.inr (.inl z))))).av (hA h.1), fun j s e' => ?_, W.apart, W.apd, W.apc⟩
  · rcases n with n | n
    · exact W1.live x n
    · subst n; rw [e]; exact zq65x _
  · rcases n with n | n
    · exact W.nbo x n q
    · subst n
      cases z : G.H0 x with
      | none => rfl
      | some o => rw [W.old x o q z] at ha; cases ha
  · obtain ⟨x, e1, h⟩ := W.ok j s e'
    refine ⟨x, e1, ?_⟩
    cases s with
    | no => trivial
    | d f d => obtain ⟨v, e, h⟩ := h; exact ⟨v, e, ((h.fresh ha).keep (s1.but fun x z => .inl (.inr (.inr (.inl z))))).av (hA f)⟩
    | own c f es => obtain ⟨e, n, q, xs, hx, hd⟩ := h; exact ⟨e, .inl n, q, xs, s1.1 _ _ q hx, ((hd.fresh ha).keep (s1.but fun x z => .inl (.inr (.inr (.inl z))))).av (hA f)⟩
    | bag => exact h
    | raw v => exact h
    | dic c f es => obtain ⟨e, n, q, xs, hx, hd⟩ := h; exact ⟨e, .inl n, q, xs, s1.1 _ _ q hx, ((hd.fresh ha).keep (s1.but fun x z => .inl (.inr (.inr (.inl z))))).av (hA f)⟩
    | cu c =>
      obtain ⟨e, n, q⟩ := h
      refine ⟨e, fun a ha => ⟨.inl (n a ha).1, (n a ha).2⟩, c.av (hA c.f) (c.keep (.of fun x o hx e => s1.1 x o ?_ e) (c.fresh ha q))⟩
      rcases hx with hx | hx
      · exact zq59x fun z => hx (.inl (.inr (.inr (.inl z))))
      · exact (n x hx).2
theorem dic_of {nb : Addr -> Prop} {σ : St} {H H1 : Hp} {a : Addr} {ps : List (Key × V)} (W : Wd G nb ρ σ H) (s1 : Step G.B H H1) (ha : H a = none) (e : H1 a = some (.dK ps)) (hd : IsKs (fun x => G.S nb f x \/ x = a) H1 (ks.map kvD) ps) :
  Wd G (fun x => nb x \/ x = a) (ρ.set i (.dic a f ks)) (σ.set i (some (.ref a))) H1 := by
 obtain ⟨W2, hN, hA⟩ := W.grow s1 ha e
 refine W2.set ⟨rfl, .inr rfl, hN, ps, e, hd.av (hA f)⟩ (fun _ _ _ z => by cases z) ?_ (fun x hx j t hj ht hc => ?_)
 rotate_left
 ·have hx : x = a := zq17x.mp hx
  subst hx
  rcases hc with ⟨c, z⟩ | ⟨c, rfl⟩
  ·cases z
  ·exact fun z => W.live x ((W.ok j _ ht).choose_spec.2.2.1 x z).1 ha
 rintro a' f' ds' ⟨rfl, rfl, rfl⟩ j c g cs hj hc z
 subst z
 obtain ⟨x, e1, h1, h2, h3, ys, hy, _⟩ := W.ok j _ hc
 rw [hy] at ha; cases ha
theorem Sv.asgK (h : EvK G ρ te fun f ks => ∀ a, E.nx (ρ.set i (.dic a f ks))) : Sv G ρ (tAsg te (gName i)) E := fun nb σ H D W K => h nb σ H _ W fun f a ps H1 ks q s1 ha e hd => K.nx _ _ _ H1 (q a) (dic_of W s1 ha e hd)
theorem EvK.new (h : Θ true []) : EvK G ρ tDNewK Θ := fun nb σ H Q W z p hp => z true p [] _ [] h (.same W.bag (same_new hp)) hp upd_same (by unfold IsKs; rfl)
@[reducible] def itD (p : Int × PyData) : PyData := .tuple [.int p.1, p.2]
theorem writeDic {nb : Addr -> Prop} {σ : St} {H : Hp} {a : Addr} {ps : List (Key × V)} {ks' : Ks} (W : Wd G nb ρ σ H) (e : ρ[i]? = some (.dic a f ks)) (hd : IsKs (G.S nb g) H (ks'.map kvD) ps) : Wd G nb (ρ.set i (.dic a g ks')) σ (upd H a (.dK ps)) := by
 obtain ⟨x, e1, h1, h2, h3, ys, hy, _⟩ := W.ok i _ e
 subst h1
 have hil : i < ρ.length := (zq8x.mp e).1
 have W0 : Wd G nb (ρ.set i .no) (σ.set i (some (.ref a))) H := W.set trivial fun _ _ _ z => by cases z
 have W1 : Wd G nb (ρ.set i .no) (σ.set i (some (.ref a))) (upd H a (.dK ps)) := W0.write h2 h3 (fun j c f' cs hc z => by
   subst z
   have hij : i ≠ j := fun z => by subst z; rw [zq18x hil] at hc; cases hc
   rw [zq6x hij] at hc
   obtain ⟨_, _, _, _, _, ps, hp, _⟩ := W.ok j _ hc
   rw [hy] at hp; cases hp) (fun j c f' cs hc => by
   by_cases hij : i = j
   ·subst hij; rw [zq18x hil] at hc; cases hc
   ·rw [zq6x hij] at hc
    exact (W.apd i j _ _ _ _ _ _ hij e hc).symm) (fun j c hc z => by
   have hij : i ≠ j := fun z => by subst z; rw [zq18x hil] at hc; cases hc
   rw [zq6x hij] at hc
   exact W.apc j i c _ (zq11x hij) hc e a z (zq17x.mpr rfl))
 have W2 := W1.set (i := i) (s := .dic a g ks') (x := some (.ref a)) ⟨rfl, h2, h3, ps, upd_same, hd.keep (But.set (.inl h2))⟩ (fun _ _ _ z => by cases z) (by
  rintro a' f' ds' ⟨rfl, rfl, rfl⟩ j c g' cs hj hc
  rw [zq6x (zq11x hj)] at hc
  exact W.apd i j _ _ _ _ _ _ (zq11x hj) e hc) (fun x hx j t hj ht hc z => by
  rw [zq6x (zq11x hj)] at ht
  have hx : x = a := zq17x.mp hx
  subst hx
  rcases hc with ⟨c, q⟩ | ⟨c, rfl⟩
  ·cases q
  ·exact W.apc j i c _ hj ht e x z (zq17x.mpr rfl))
 rw [zq66x, zq66x] at W2
 have : σ.set i (some (.ref a)) = σ := by
  apply zq82x
  intro j
  by_cases hij : i = j
  ·subst hij; rw [zq18x (by rw [W.len]; exact hil), e1]
  ·rw [zq6x hij]
 rwa [this] at W2
theorem Sv.putDic {a : Addr} (e : ρ[i]? = some (.dic a f ks)) (h : Ev G ρ te fun g d => Ev G ρ tb fun _ y => ∃ k, y = .int k /\ ks.length < 10000 /\ E.nx (ρ.set i (.dic a (f && g) (putI ks k d)))) : Sv G ρ (tAsg te (gSub (tVar i) tb rPutD)) E := fun nb σ H D W KK =>
 h nb σ H _ W fun g v H1 d q s1 hv => by
  obtain ⟨x, e1, h1, h2, h3, ps, hp, hd⟩ := (W.step s1).ok i _ e
  subst h1
  refine ⟨.ref a, e1, q nb σ H1 _ (W.step s1) fun g' u H2 y ⟨k, ey, hl, p⟩ s2 hu => ?_⟩
  subst ey
  have W2 := (W.step s1).step s2
  have hlen := hd.len
  refine ⟨a, ps, .inl k, rfl, hu.ofI, s2.1 _ _ h3 hp, zq26x (by rw [hlen]; exact hl) (by decide), KK.nx nb _ _ _ p (writeDic W2 e ?_)⟩
  exact IsKs.put ((hd.keep s2.butS).av (S_mono (fun z => (zq23x _ _ ▸ z).1) fun _ z => z)) ((hv.keep s2.butS).av (S_mono (fun z => (zq23x _ _ ▸ z).2) fun _ z => z))
end
def rInD (ng : Bool) : R2 := fun x y H Q => ∃ a o, y = .ref a /\ DGet H a x o /\ Q (.bl (o.isSome != ng)) H
theorem op_inD {X : Cx} (hu : X.A.units + 64 < cLine) : OpR X (compareOp .In) (rInD false) := by
 intro pins s σ H x y v u Q I rx ry h
 obtain ⟨a, o, rfl, g, q⟩ := h
 cases ry
 exact d_in (by omega) I g rx fun s' I' => ⟨.bl o.isSome, H, I', rfl, by simpa using q⟩
theorem op_notInD {X : Cx} (hu : X.A.units + 64 < cLine) : OpR X (compareOp .NotIn) (rInD true) := by
 intro pins s σ H x y v u Q I rx ry h
 obtain ⟨a, o, rfl, g, q⟩ := h
 cases ry
 exact d_notIn (by omega) I g rx fun s' I' => ⟨.bl (!o.isSome), H, I', rfl, by simpa using q⟩
section
variable {G : Gx} {ρ : Rh} {Φ : Pd} {ta tb te : TE} {i : Nat} {f : Bool} {ks : Ks} {K : PySem.W.Frag} {E : DE}
theorem shareDic {nb : Addr -> Prop} {σ : St} {H : Hp} {a : Addr} (W : Wd G nb ρ σ H) (e : ρ[i]? = some (.dic a f ks)) : Wd G (fun x => nb x /\ x ≠ a) (ρ.set i (.d f (.dict (ks.map kvD)))) σ H := by
  obtain ⟨x, e1, h1, h2, h3, xs, hx, hd⟩ := W.ok i _ e
  subst h1
  have hil : i < ρ.length := (zq8x.mp e).1
  have W0 : Wd G nb (ρ.set i .no) (σ.set i (some (.ref a))) H := W.set trivial fun _ _ _ z => by cases z
  have W1 : Wd G (fun x => nb x /\ x ≠ a) (ρ.set i .no) (σ.set i (some (.ref a))) H := by
    refine ⟨W0.bag, fun x n => W0.live x n.1, W0.old, fun x n => W0.nbo x n.1, W0.gA, W0.len, W0.gB, fun h m => (W0.hld h m).av (S_mono (fun z => z) fun _ z => z.1), fun j s e' => ?_, W0.apart, W0.apd, W0.apc⟩
    obtain ⟨x, e1', h⟩ := W0.ok j s e'
    refine ⟨x, e1', ?_⟩
    have hij : s ≠ .no -> i ≠ j := fun n z => by subst z; rw [zq18x hil] at e'; cases e'; exact n rfl
    cases s with
    | no => trivial
    | d f d => obtain ⟨v, e, h⟩ := h; exact ⟨v, e, h.av (S_mono (fun z => z) fun _ z => z.1)⟩
    | own c f es =>
      obtain ⟨e2, n, q, ys, hy, hd'⟩ := h
      have hca : c ≠ a := fun z => by subst z; rw [hx] at hy; cases hy
      exact ⟨e2, ⟨n, hca⟩, q, ys, hy, hd'.av (S_mono (fun z => z) fun _ z => z.1)⟩
    | bag => exact h
    | raw v => exact h
    | dic c f es =>
      obtain ⟨e2, n, q, ps, hp, hd'⟩ := h
      have hij := hij (by intro z; cases z)
      rw [zq6x hij] at e'
      exact ⟨e2, ⟨n, (W.apd i j _ _ _ _ _ _ hij e e').symm⟩, q, ps, hp, hd'.av (S_mono (fun z => z) fun _ z => z.1)⟩
    | cu c =>
      obtain ⟨e2, n, q⟩ := h
      have hij := hij (by intro z; cases z)
      rw [zq6x hij] at e'
      exact ⟨e2, fun x hx => ⟨⟨(n x hx).1, fun z => W.apc j i c _ (zq11x hij) e' e x hx (by rw [z]; exact zq17x.mpr rfl)⟩, (n x hx).2⟩, c.av (S_mono (fun z => z) fun _ z => z.1) q⟩
  have W2 := W1.setD (i := i) (f := f) (d := .dict (ks.map kvD)) (v := .ref a) (by
    unfold IsD
    refine ⟨a, xs, rfl, fun z => ?_, .inl hx, hd.av (S_mono (fun z => z) fun _ z => z.1)⟩
    rcases z with z | z | z | z
    · exact z.2 rfl
    · exact W.gA a z (W.nbo a h2 h3)
    · exact z h3
    · exact z.2 (W.nbo a h2 h3))
  rw [zq66x, zq66x] at W2
  have : σ.set i (some (.ref a)) = σ := by
    apply zq82x
    intro j
    by_cases hij : i = j
    · subst hij; rw [zq18x (by rw [W.len]; exact hil), e1]
    · rw [zq6x hij]
  rwa [this] at W2
theorem Sv.demoteDic {s : TS} {a : Addr} (i : Nat) (e : ρ[i]? = some (.dic a f ks)) (h : Sv G (ρ.set i (.d f (.dict (ks.map kvD)))) s E) : Sv G ρ s E := fun nb σ H D W K => h _ σ H D (shareDic W e) K
theorem Ev.inDd {ng : Bool} (h : Ev G ρ ta fun _ y => ∃ k, y = .int k /\ Ev G ρ tb fun _ x => ∃ ks : Ks, x = .dict (ks.map kvD) /\ Φ true (.bool (hasI ks k != ng))) : Ev G ρ (tOp (rInD ng) ta tb) Φ :=
 Ev.op2 (h.mono fun f x ⟨k, ex, q⟩ => q.mono fun g y ⟨ks, ey, p⟩ nb σ H u v Q W hu hv z => by
  subst ex ey
  unfold IsD at hv
  obtain ⟨a, ps, rfl, n, hp, hd⟩ := hv
  refine ⟨a, _, rfl, by rw [hu.ofI]; exact .inl ⟨ps, .inl k, hp, rfl, rfl⟩, ?_⟩
  have : (valV ps (Sum.inl k)).isSome = hasI ks k := by rw [<- valV_any]; exact IsKs.any k hd
  rw [this]
  exact z true _ H _ p (.refl W.bag) (.bl _))
end
end L2
set_option maxRecDepth 100000
set_option maxHeartbeats 4000000
set_option maxRecDepth 100000
set_option maxHeartbeats 4000000
namespace L2
open PySem PySem.Spec PyProof.Rows
structure NetK (n : Int) (cs : List Prs) : Prop where
 n0 : 1 <= n
 n1 : n <= 10
 c0 : cs ≠ []
 c1 : cs.length <= 8
 ok : ∀ prs ∈ cs, prs ≠ [] /\ prs.length <= 4 /\ (prs.map (·.1)).Pairwise (· < ·) /\ ∀ pr ∈ prs, 0 <= pr.1 /\ pr.1 < n
section
variable {n : Int} {cs : List Prs} (h : NetK n cs)
include h
end
end L2
set_option maxRecDepth 100000
set_option maxHeartbeats 4000000
namespace L2
open PySem PySem.Spec PyProof.Rows
theorem bezN : ∀ m n : Nat, ∃ u v : Int, u * m + v * n = (Nat.gcd m n : Int) := fun m n => by
  induction m, n using Nat.gcd.induction with
  | H0 n => exact ⟨0, 1, by simp⟩
  | H1 m n hm ih =>
    obtain ⟨u, v, e⟩ := ih
    rw [Nat.gcd_rec]
    refine ⟨v - u * (n / m : Nat), u, ?_⟩
    rw [<- e]
    have h : (n : Int) = ((n % m : Nat) : Int) + (m : Int) * ((n / m : Nat) : Int) := by exact_mod_cast (Nat.mod_add_div n m).symm
    generalize ((n / m : Nat) : Int) = z at h ⊢
    generalize ((n % m : Nat) : Int) = y at h ⊢
    rw [h]
    grind
theorem sol_ok {p b a : Int} (hp : PrimeZ p) (hb : b % p ≠ 0) : ∃ k, b * sol p b a - a = p * k := by
 have p2 := hp.1
 have hex : ∃ x, 0 <= x /\ x < p /\ ∃ k, b * x - a = p * k := by
  have hg : Nat.gcd p.natAbs b.natAbs = 1 := by
   have d1 : (Int.gcd p b : Int) ∣ p := Int.gcd_dvd_left ..
   have d2 : (Int.gcd p b : Int) ∣ b := Int.gcd_dvd_right ..
   have h0 : 0 < (Int.gcd p b : Int) := by
    have : Int.gcd p b ≠ 0 := fun z => by have := (zq176x.mp z).1; omega
    omega
   rcases hp.2 _ h0 d1 with e | e
   ·show Int.gcd p b = 1
    omega
   ·rw [e] at d2; exact absurd (Int.emod_eq_zero_of_dvd d2) hb
  obtain ⟨u, v, e⟩ := bezN p.natAbs b.natAbs
  rw [hg] at e
  obtain ⟨v', e'⟩ : ∃ v', u * p + v' * b = 1 := by
   have hpn : (p.natAbs : Int) = p := by omega
   rw [hpn] at e
   rcases (show (b.natAbs : Int) = b \/ (b.natAbs : Int) = -b by omega) with h | h <;> rw [h] at e
   ·exact ⟨v, e⟩
   ·exact ⟨-v, by have e2 : u * p + v * -b = 1 := e; rw [<- e2]; grind⟩
  refine ⟨(v' * a) % p, zq24x _ (by omega), zq28x _ (by omega), ?_⟩
  have h1 := Int.emod_add_mul_ediv (v' * a) p
  generalize v' * a / p = t at h1
  generalize hx : v' * a % p = x at h1
  refine ⟨- u * a - b * t, ?_⟩
  have : b * x = b * (v' * a) - b * (p * t) := by rw [<- h1]; grind
  rw [this]
  have h2 : b * (v' * a) = (1 - u * p) * a := by rw [<- e']; grind
  rw [h2]
  grind
 unfold sol
 rw [dif_pos hex]
 exact (Classical.choose_spec hex).2.2
end L2
set_option maxRecDepth 100000
set_option maxHeartbeats 4000000
namespace L2
open PySem PySem.Spec PyProof.Rows
theorem IsDs.era {nb : Addr -> Prop} {H : Hp} : ∀ {ds : List PyData} {xs : List V} (m : Nat), IsDs nb H ds xs -> IsDs nb H (ds.eraseIdx m) (xs.eraseIdx m)
 | [], _, m, h => by unfold IsDs at h; subst h; exact .nil
 | e :: ds, _, 0, h => by unfold IsDs at h; obtain ⟨y, ys, rfl, h1, h2⟩ := h; exact h2
 | e :: ds, _, m + 1, h => by unfold IsDs at h; obtain ⟨y, ys, rfl, h1, h2⟩ := h; exact .cons h1 (IsDs.era m h2)
section
variable {X : Cx}
theorem Vals.ins {y : V} {u : Value} (r : RelV y u) : ∀ {xs : List V} {us : List Value} (k : Nat), Vals xs us -> Vals (xs.take k ++ y :: xs.drop k) (us.take k ++ u :: us.drop k)
 | _, _, 0, h => .cons r h
 | [], _, k + 1, h => by cases h; exact .cons r .nil
 | _ :: _, _, k + 1, .cons a h => .cons a (Vals.ins r k h)
def rInsert : V -> List V -> Hp -> VK -> Prop := fun x vs H Q => ∃ l xs y, ∃ i : Int, x = .ref l /\ vs = [.int i, y] /\ H l = some (.lst xs) /\ 0 <= i /\ i <= xs.length /\ xs.length < 10000 /\ Q .non (upd H l (.lst (xs.take i.toNat ++ y :: xs.drop i.toNat)))
theorem mt_insert : MtM X "list.insert" rInsert := by
  intro pins s σ H x vs v us Q I rx rv h
  obtain ⟨l, xs, y, i, rfl, rfl, hH, h0, h1, hz, q⟩ := h
  cases rx
  cases rv with
  | cons r1 r2 =>
    obtain ⟨t, rfl⟩ := r1
    obtain ⟨u, rfl, ru⟩ := vals1 r2
    obtain ⟨z, its, n, r, hl, e⟩ := I.lstM hH
    have hfit : ¬ (!Builtin.List.listFitsIndex i) = true := by
      have := fitsIndex_both (k := i) (by omega) (by omega)
      simpa using this
    refine call_meets zq156x ⟨_, e, rfl⟩ PySem.F.entry_list_insert (PySem.F.args_list_insert_3 _ _ _) (AutoSeq1.list_insert_list_int_val_1 l its.toArray n i t u hfit (by rw [zq13x]; omega)) ⟨e, ?_⟩
    refine ⟨.non, _, I.lset (its' := its.take i.toNat ++ u :: its.drop i.toNat) hH e ?_ (Vals.ins ru i.toNat r) ?_, rfl, q⟩
    · have hk : (if i < 0 then (i + ((its.toArray.size : Nat) : Int)).toNat else min i.toNat its.toArray.size) = i.toNat := by
        rw [if_neg (by omega), zq13x]; omega
      simp only [hk]
      apply Array.ext'
      simp [zq178x]
    · rw [zq25x, zq51x, zq19x, zq40x]
      have : sizeLine = sizeLine := rfl
      rw [sizeLine_eq]
      omega
end
section
variable {G : Gx} {ρ : Rh} {te : TE} {E : DE} {i j : Nat} {f : Bool} {ds : List PyData} {K : PySem.W.Frag}
theorem Sv.popAt {a : Addr} (e : ρ[i]? = some (.own a f ds)) (h : Ev G ρ te fun _ y => ∃ (m : Nat) (d : PyData), y = .int (m : Int) /\ m < 2 ^ 62 /\ ds[m]? = some d /\ E.nx ((ρ.set i (.own a f (ds.eraseIdx m))).set j (.d f d))) :
  Sv G ρ (tAsg (tBM K "list" rPopAt (tVar i) (tCons te tNil)) (gName j)) E := fun nb σ H D W KK => by
 obtain ⟨x, e1, h1, h2, h3, xs, hx, hd⟩ := W.ok i _ e
 subst h1
 refine ⟨.ref a, e1, .inl ⟨rfl, _, SqL.of hx⟩, h nb σ H _ W fun g v H1 y ⟨m, d, ey, hm, hdm, q⟩ s1 hv => ?_⟩
 subst ey
 have hk := hv.ofI
 subst hk
 have W1 := W.step s1
 have hx1 := s1.1 _ _ h3 hx
 have hd1 := hd.keep s1.butS
 obtain ⟨y', hy', hD⟩ := hd1.get hdm
 have hml : m < xs.length := (zq8x.mp hy').1
 have hix : seqIndex? (m : Int) xs.length = some m := by
  have : ixN xs.length (m : Int) = some m := by
   unfold ixN
   rw [if_pos (by omega), if_pos (by omega), zq84x]
  exact (ixN_seq this).1
 refine ⟨a, xs, (m : Int), m, y', rfl, rfl, hx1, by omega, by omega, hix, hy', ?_⟩
 have W2 := writeOwn W1 e (hd1.era m)
 exact KK.nx nb _ _ _ q (W2.setD (hD.keep (But.set (.inl h2))))
theorem IsDs.ins {nb : Addr -> Prop} {H : Hp} {d : PyData} {x : V} (hd : IsD nb H d x) : ∀ {ds : List PyData} {xs : List V} (k : Nat), IsDs nb H ds xs -> IsDs nb H (ds.take k ++ d :: ds.drop k) (xs.take k ++ x :: xs.drop k)
 | _, _, 0, h => .cons hd h
 | [], _, k + 1, h => by unfold IsDs at h; subst h; exact .cons hd .nil
 | e :: ds, _, k + 1, h => by unfold IsDs at h; obtain ⟨y, ys, rfl, h1, h2⟩ := h; exact .cons h1 (IsDs.ins hd k h2)
theorem Sv.insert {a : Addr} {tb : TE} (e : ρ[i]? = some (.own a f ds)) (h : Ev G ρ te fun _ y => ∃ k : Int, y = .int k /\ 0 <= k /\ k <= ds.length /\ ds.length < 10000 /\ Ev G ρ tb fun g d => E.nx (ρ.set i (.own a (f && g) (ds.take k.toNat ++ d :: ds.drop k.toNat)))) :
  Sv G ρ (tDrop (tBM K "list" rInsert (tVar i) (tCons te (tCons tb tNil)))) E := fun nb σ H D W KK => by
 obtain ⟨x, e1, h1, h2, h3, xs, hx, hd⟩ := W.ok i _ e
 subst h1
 refine ⟨.ref a, e1, .inl ⟨rfl, _, SqL.of hx⟩, h nb σ H _ W fun g0 v H1 y ⟨k, ey, k0, k1, hl, q⟩ s1 hv => ?_⟩
 subst ey
 have hk := hv.ofI
 subst hk
 refine q nb σ H1 _ (W.step s1) fun g u H2 d p s2 hu => ?_
 have W2 := (W.step s1).step s2
 have hx2 := s2.1 _ _ h3 (s1.1 _ _ h3 hx)
 have hd2 := (hd.keep s1.butS).keep s2.butS
 have hlen := hd.length
 refine ⟨a, xs, u, k, rfl, rfl, hx2, k0, by omega, by omega, KK.nx nb _ _ _ p (writeOwn W2 e ?_)⟩
 exact IsDs.ins (hu.av (S_mono (fun z => (zq23x _ _ ▸ z).2) fun _ z => z)) _ (hd2.av (S_mono (fun z => (zq23x _ _ ▸ z).1) fun _ z => z))
end
end L2
set_option maxRecDepth 100000
set_option maxHeartbeats 4000000
namespace L2
open PySem PySem.Spec PyProof.Rows
def EvF (G : Gx) (ρ : Rh) (te : TE) (Φ : PyData -> Prop) : Prop := ∀ nb σ H (Q : VK), Wd G nb ρ σ H -> (∀ v H' d, Φ d -> Step G.B H H' -> IsD (fun a => H a ≠ none) H' d v -> Q v H') -> te σ H Q
section
variable {G : Gx} {ρ : Rh} {ta tb te : TE} {t : TA} {E : DE} {i j k m : Nat} {f : Bool} {K : PySem.W.Frag} {Φ : PyData -> Prop}
theorem Wd.live_of {nb : Addr -> Prop} {σ : St} {H H1 : Hp} {a : Addr} (W : Wd G nb ρ σ H) (s : Step G.B H H1) (h : H a ≠ none) : H1 a ≠ none := fun e => h (W.none_of s e)
theorem EvF.callB {n : Nat} {F : DF} (hm : MonoF F) (e : ρ[i]? = some .bag) (h : Av G ρ t fun es => es.length + 1 = n /\ F (es.map (·.2)) fun f d => f = true /\ Φ d) : EvF G ρ (tCall (spB n F) [] E0 (tCons (tVar i) t)) Φ := fun nb σ H Q W z => by
 obtain ⟨b, l, hB, e1, B⟩ := W.theBag e
 refine ⟨.ref b, e1, h nb σ H _ W fun es vs H1 ⟨hl, p⟩ s1 q1 => ?_⟩
 have W1 := W.step s1
 show spB n F ((V.ref b :: vs) ++ []) H1 Q E0
 rw [zq77x]
 have hb : ∀ f, G.S nb f b := fun f => .inr (.inr (.inl fun n => n b l hB rfl))
 refine ⟨by rw [zq51x, q1.len, hl], b, l, vs, G.S nb (allF es), es.map (·.2), rfl, W1.bag b l hB, W1.liveS, hb _, q1.all fun z => z, hm _ _ _ p fun f d ⟨hf, hp⟩ v H' bt B' hd => z v H' d hp (s1.trans (.ofBut hB bt B')) (hd.av fun a q => ?_)⟩
 exact .inr ⟨hf, W.live_of s1 q⟩
theorem EvF.callD {n : Nat} {F : DF} (hm : MonoF F) (h : Av G ρ t fun es => es.length = n /\ F (es.map (·.2)) fun f d => f = true /\ Φ d) : EvF G ρ (tCall (spD n F) [] E0 t) Φ := fun nb σ H Q W z =>
 h nb σ H _ W fun es vs H1 ⟨hl, p⟩ s1 q1 => by
  have W1 := W.step s1
  rw [zq77x]
  refine ⟨by rw [q1.len, hl], G.S nb (allF es), es.map (·.2), W1.liveS, q1.all fun z => z, hm _ _ _ p fun f d ⟨hf, hp⟩ v H' sm hd => z v H' d hp (s1.trans (.same W1.bag sm)) (hd.av fun a q => ?_)⟩
  exact .inr ⟨hf, W.live_of s1 q⟩
end
end L2
set_option maxRecDepth 100000
set_option maxHeartbeats 1000000
set_option maxRecDepth 100000
set_option maxHeartbeats 4000000
namespace L2
open PySem PySem.Spec PyProof.Rows
def inLot (lot : List Int) (prs : Prs) : Nat := (prs.filter fun pr => decide (pr.1 ∈ lot)).length
def holdB (cs : List Prs) (lot : List Int) : Bool := cs.all fun prs => decide (inLot lot prs ≠ 1)
end L2
set_option maxRecDepth 100000
set_option maxHeartbeats 4000000
namespace L2
open PySem PySem.Spec PyProof.Rows
section
variable {G : Gx} {ρ : Rh} {t0 : TE} {E : DE} {i0 j : Nat} {f : Bool} {K K2 : PySem.W.Frag}
theorem Sv.popDrop {i : Nat} {te : TE} {a : Addr} {ds : List PyData} (e : ρ[i]? = some (.own a f ds)) (h : Ev G ρ te fun _ y => ∃ (m : Nat), y = .int (m : Int) /\ m < ds.length /\ m < 2 ^ 62 /\ E.nx (ρ.set i (.own a f (ds.eraseIdx m)))) :
  Sv G ρ (tDrop (tBM K "list" rPopAt (tVar i) (tCons te tNil))) E := fun nb σ H D W KK => by
 obtain ⟨x, e1, h1, h2, h3, xs, hx, hd⟩ := W.ok i _ e
 subst h1
 refine ⟨.ref a, e1, .inl ⟨rfl, _, SqL.of hx⟩, h nb σ H _ W fun g v H1 y ⟨m, ey, hm, hm2, q⟩ s1 hv => ?_⟩
 subst ey
 have hk := hv.ofI
 subst hk
 have W1 := W.step s1
 have hx1 := s1.1 _ _ h3 hx
 have hd1 := hd.keep s1.butS
 obtain ⟨y', hy', hD⟩ := hd1.get (zq1x hm)
 have hml : m < xs.length := (zq8x.mp hy').1
 have hix : seqIndex? (m : Int) xs.length = some m := by
  have : ixN xs.length (m : Int) = some m := by
   unfold ixN
   rw [if_pos (by omega), if_pos (by omega), zq84x]
  exact (ixN_seq this).1
 refine ⟨a, xs, (m : Int), m, y', rfl, rfl, hx1, by omega, by omega, hix, hy', ?_⟩
 exact KK.nx nb _ _ _ q (Sv.writeOwn W1 e (hd1.era m))
end
end L2
set_option maxRecDepth 100000
set_option maxHeartbeats 4000000
namespace L2
open PySem PySem.Spec PyProof.Rows
section
variable {G : Gx} {ρ : Rh} {ta tb te : TE} {t : TA} {E : DE} {i j m n : Nat} {f : Bool} {K K2 K3 : PySem.W.Frag} {Φ : Pd}
theorem EvF.lendDic {Ψ : PyData -> Prop} {a : Addr} {ks : Ks} (i : Nat) (e : ρ[i]? = some (.dic a f ks)) (h : EvF G (ρ.set i (.d f (.dict (ks.map kvD)))) te Ψ) : EvF G ρ te Ψ := fun nb σ H Q W z => h _ σ H Q (shareDic W e) z
theorem Ev.ofF (h : EvF G ρ te fun d => Φ true d) : Ev G ρ te Φ := fun nb σ H Q W z => h nb σ H Q W fun v H' d p st hd => z true v H' d p st (hd.av fun a q => W.liveS a q)
end
structure Great (cs : List Prs) (lot g : List Int) : Prop where
 sub : ∃ q : Int -> Bool, g = lot.filter q
 out : holdB cs g = true
 max : ∀ T : List Int, (∀ x ∈ T, x ∈ lot) -> holdB cs T = true -> ∀ x ∈ T, x ∈ g
@[reducible] def insK (S : List Int) : Ks := S.map fun x => (x, PyData.bool true)
end L2
set_option maxRecDepth 100000
set_option maxHeartbeats 4000000
namespace L2
open PySem PySem.Spec PyProof.Rows
theorem Great.mem {cs : List Prs} {lot g : List Int} (h : Great cs lot g) : ∀ x ∈ g, x ∈ lot := fun x hx => by
 obtain ⟨q, e⟩ := h.sub
 rw [e] at hx
 exact (zq88x.mp hx).1
end L2
set_option maxRecDepth 100000
set_option maxHeartbeats 4000000
namespace L2
open PySem PySem.Spec PyProof.Rows
def fst0 (row : List Int) : Int := match row.getLast? with | none => 0 | some l => l + 1
def aft (n : Int) (row : List Int) : List Int := (List.range (n - fst0 row).toNat).map fun (i : Nat) => fst0 row + (i : Int)
def ext (n : Int) (row : List Int) : List (List Int) := (aft n row).map fun p => row ++ [p]
@[reducible] def optRow : Option (List Int) -> PyData
 | none => .none
 | some r => rowD r
end L2
set_option maxRecDepth 100000
set_option maxHeartbeats 4000000
set_option maxRecDepth 100000
set_option maxHeartbeats 4000000
namespace L2
open PySem PySem.Spec PyProof.Rows
section
variable {X : Cx} {pins : List (Addr × Obj)} {σ : List (Option V)} {H : Hp} {s : Shared} {h' : Heap}
theorem Inv.turnedLaidL {t' : Nat} {ch : List Addr} {T : Addr} {o : HO} (I : Inv X pins σ H s) (k : ∀ b u, b ∉ ch -> s.heap.get? b = some u -> h'.get? b = some u) (f : ∀ b ∈ ch, FpOk X pins H b) (hT : s.heap.objs.size <= T) (hTc : T ∉ ch)
  (new : ObjOk X.prog X.w (upd H T o) h' T o) : Inv X pins σ (upd H T o) { s with heap := h', toks := t' } := by
 have hn := I.hok.fresh hT
 have ne : ∀ b u, H b = some u -> b ∉ ch := fun b u q z => by rw [(f b z).1] at q; cases q
 have nT : ∀ b u, H b = some u -> b ≠ T := fun b u q z => by rw [z, hn] at q; cases q
 have nl : X.env.locals ∉ ch := fun z => (f _ z).2.1 rfl
 refine I.step (g' := s.gens) (d' := s.drawn) (ch := ch) (fun b hb => ?_) (fun b o _ _ hc q _ => k b o hc q) (fun b o _ _ hc q _ => ⟨o.slots, k b o hc q⟩)
  (fun b o hc q n => ?_) (fun b o hc q => ⟨o, k b o hc q⟩) (fun b xs q => by rw [upd_ne (nT b _ q)]; exact q) (fun b o u q => by rw [upd_ne (nT b _ q)]; exact q) (fun b ps q => ⟨#[], by rw [upd_ne (nT b _ q), q]; simp⟩) (fun m hm => ?_) (fun b u q => ?_) I.bare
 ·obtain ⟨e0, e1, e2, e3, e4, e5⟩ := f b hb
  exact ⟨e3, e1, e4, e5⟩
 ·rw [upd_ne (fun z => absurd (zq26x (zq14x q) (by rw [z]; exact hT)) (zq64x _))]; exact n
 ·obtain ⟨o, es, ep, ho, r⟩ := hm
  exact ⟨o, es, ep, k _ o nl ho, r⟩
 ·by_cases hb : b = T
  ·subst hb; rw [upd_same] at q; cases q; exact new
  ·rw [upd_ne hb] at q
   refine (I.hok b u q).stay (fun c v hc z => ?_) (fun c z => by rw [upd_ne (nT c _ z)]; exact z) fun c xs z => by rw [upd_ne (nT c _ z)]; exact z
   rcases hc with y | y
   ·subst y; exact k _ v (ne _ u q) z
   ·exact k c v (ne c _ y) z
theorem Inv.turnedL {t' : Nat} {ch : List Addr} (I : Inv X pins σ H s) (k : ∀ b u, b ∉ ch -> s.heap.get? b = some u -> h'.get? b = some u) (f : ∀ b ∈ ch, FpOk X pins H b) : Inv X pins σ H { s with heap := h', toks := t' } := by
 have ne : ∀ b u, H b = some u -> b ∉ ch := fun b u q z => by rw [(f b z).1] at q; cases q
 have nl : X.env.locals ∉ ch := fun z => (f _ z).2.1 rfl
 refine I.step (g' := s.gens) (d' := s.drawn) (ch := ch) (fun b hb => ?_) (fun b o _ _ hc q _ => k b o hc q) (fun b o _ _ hc q _ => ⟨o.slots, k b o hc q⟩)
  (fun _ _ _ _ n => n) (fun b o hc q => ⟨o, k b o hc q⟩) (fun _ _ q => q) (fun _ _ _ q => q) (fun b ps q => ⟨#[], by rw [q]; simp⟩) (fun m hm => ?_) (fun b u q => ?_) I.bare
 ·obtain ⟨e0, e1, e2, e3, e4, e5⟩ := f b hb
  exact ⟨e3, e1, e4, e5⟩
 ·obtain ⟨o, es, ep, ho, r⟩ := hm
  exact ⟨o, es, ep, k _ o nl ho, r⟩
 ·refine (I.hok b u q).stay (fun c v hc z => ?_) (fun c z => z) fun c xs z => z
  rcases hc with y | y
  ·subst y; exact k _ v (ne _ u q) z
  ·exact k c v (ne c _ y) z
end
def Itz (K : PySem.W.Frag) (a b : Addr) : It :=
 ⟨fun i H => ∃ xs ys x y, SqL K H a xs /\ SqL K H b ys /\ xs[i]? = some x /\ ys[i]? = some y, fun i H v H' => ∃ p x y, v = .ref p /\ H p = none /\ (∀ xs, SqL K H a xs -> xs[i]? = some x) /\ (∀ ys, SqL K H b ys -> ys[i]? = some y) /\ H' = upd H p (.tup [x, y]), fun i H => ∃ xs ys, SqL K H a xs /\ SqL K H b ys /\ min xs.length ys.length = i⟩
def ZSt (z TI TO i1 i2 a b : Addr) (i : Nat) (h : Heap) : Prop := IsZip h z TI TO .none /\ IsPair h TI (.ref i1) (.ref i2) /\ (∃ u v, IsPair h TO u v) /\ h.IsListIter i1 a i /\ h.IsListIter i2 b i
theorem zapart {X : Cx} {z TI TO i1 i2 a b : Addr} {h : Heap} {i : Nat} {xs ys : Array Value} (h1 : h.IsList a xs) (h2 : h.IsList b ys) (st : ZSt z TI TO i1 i2 a b i h) (hd : [z, TI, TO, i1, i2].Nodup) : ZipApart z TI TO i1 i2 a b := by
 obtain ⟨s1, s2, ⟨u, v, s3⟩, s4, s5⟩ := st
 have n1 : ∀ {l : Addr} {xs : Array Value}, h.IsList l xs -> l ≠ z /\ l ≠ TO /\ l ≠ i1 /\ l ≠ i2 := fun {l xs} hl => by
  obtain ⟨ol, l1, l2, l3⟩ := hl
  refine ⟨fun q => ?_, fun q => ?_, fun q => ?_, fun q => ?_⟩
  ·subst q; rw [s1] at l1; cases l1; exact absurd l2 (by simp)
  ·subst q; rw [s3] at l1; cases l1; exact absurd l2 (by simp)
  ·subst q
   obtain ⟨oi, e1, e2, e3⟩ := s4
   rw [e1] at l1; cases l1; rw [e2] at l2; exact absurd l2 (by simp)
  ·subst q
   obtain ⟨oi, e1, e2, e3⟩ := s5
   rw [e1] at l1; cases l1; rw [e2] at l2; exact absurd l2 (by simp)
 obtain ⟨a1, a2, a3, a4⟩ := n1 h1
 obtain ⟨b1, b2, b3, b4⟩ := n1 h2
 simp only [zq55x, zq3x, zq12x, not_or, or_false, not_false_eq_true, List.nodup_nil, and_true] at hd
 obtain ⟨⟨d1, d2, d3, d4⟩, ⟨d5, d6, d7⟩, ⟨d8, d9⟩, d10⟩ := hd
 exact ⟨zq11x d1, zq11x d2, zq11x d3, zq11x d4, d5, d6, d7, d8, d9, d10, a1, a2, a3, a4, b1, b2, b3, b4⟩
theorem turn_zip {P : Program} {w : World} {K : PySem.W.Frag} {elts : List Expr} {k : Nat} {pos : Pos} (z TI TO i1 i2 a b : Addr) (hd : [z, TI, TO, i1, i2].Nodup) :
  Turn P w K (.Tuple elts k pos) (Itz K a b) [z, TI, TO, i1, i2] z (ZSt z TI TO i1 i2 a b) where
 mem := by simp
 obj := fun i h st c hc => by
  obtain ⟨s1, s2, ⟨u, v, s3⟩, ⟨o4, e4, c4, d4⟩, ⟨o5, e5, c5, d5⟩⟩ := st
  have hc : c = z \/ c = TI \/ c = TO \/ c = i1 \/ c = i2 := by simpa using hc
  rcases hc with q | q | q | q | q
  ·subst q; exact ⟨_, s1, fun v z => by have z' : Data.fields _ = Data.cell v := z; cases z'⟩
  ·subst q; exact ⟨_, s2, fun v z => by have z' : Data.seq _ _ = Data.cell v := z; cases z'⟩
  ·subst q; exact ⟨_, s3, fun v z => by have z' : Data.seq _ _ = Data.cell v := z; cases z'⟩
  ·subst q; exact ⟨o4, e4, fun v z => by rw [d4] at z; cases z⟩
  ·subst q; exact ⟨o5, e5, fun v z => by rw [d5] at z; cases z⟩
 keep := fun i h h' st k => by
  obtain ⟨s1, s2, ⟨u, v, s3⟩, s4, s5⟩ := st
  exact ⟨k z (by simp) _ s1, k TI (by simp) _ s2, ⟨u, v, k TO (by simp) _ s3⟩, s4.at fun o q => k i1 (by simp) o q, s5.at fun o q => k i2 (by simp) o q⟩
 item := by
  intro X hP hw hK hc i pins s σ H E I hf st hg
  subst hP hw hK
  obtain ⟨xs, ys, x, y, hq1, hq2, hx, hy⟩ := hg
  obtain ⟨its, rv, p, hz⟩ := I.list hq1
  obtain ⟨its2, rv2, p2, hz2⟩ := I.list hq2
  obtain ⟨u, hu, ru⟩ := rv.get hx
  obtain ⟨u2, hu2, ru2⟩ := rv2.get hy
  have D := zapart (X := X) p.isList p2.isList st hd
  have W := WalksT.zip2 (prog := X.prog) (w := X.w) (I.ok.hd hc) z TI TO i1 i2 a b D its.toArray its2.toArray
  have hi : i < min its.toArray.size its2.toArray.size := by
   have h1 := (zq8x.mp hu).1
   have h2 := (zq8x.mp hu2).1
   rw [zq13x, zq13x]
   omega
  obtain ⟨s1, s2, s3, s4, s5⟩ := id st
  refine W.item i s _ _ hi ⟨s1, s2, s3, s4, s5, p.isList, p2.isList⟩ fun T vals h' tk hv hT hTup hMid kp => ⟨.ref T, rfl, ?_⟩
  refine W.go elts k pos i T _ _ _ hMid fun h'' st' kp2 => ?_
  obtain ⟨x', y', hx', hy', hvv⟩ := hv
  have e1 : x' = u := by
   have : its.toArray[i]? = some u := by simpa using hu
   rw [hx'] at this; exact zq32x this
  have e2 : y' = u2 := by
   have : its2.toArray[i]? = some u2 := by simpa using hu2
   rw [hy'] at this; exact zq32x this
  subst e1 e2 hvv
  have hTw := W.apart i T h' hMid
  have hTI : T ≠ TI := fun q => by
   rw [q] at hT
   exact absurd (zq14x s2) (Nat.not_lt.mpr hT)
  obtain ⟨_, _, _, _, _, _, _, t1, t2, t3, t4⟩ := hMid
  obtain ⟨oT, g1, g2, nT, g3⟩ := hTup
  have g1' := kp2 T oT hTw g1
  have hTc : T ∉ [z, TI, TO, i1, i2] := by simp [t1, hTI, t2, t3, t4]
  refine ⟨.ref T, upd H T (.tup [x, y]), I.turnedLaidL (ch := [z, TI, TO, i1, i2]) (fun c v hc q => kp2 c v (fun m => hc (by simp at m ⊢; rcases m with m | m | m | m <;> simp [m])) (kp c v (fun m => hc (by simp at m ⊢; rcases m with m | m | m | m <;> simp [m])) q)) hf hT hTc ?_, rfl, ⟨T, x, y, rfl, I.hok.fresh hT, fun zs hy => by rw [I.list_inj hy hq1]; exact hx, fun zs hy' => by rw [I.list_inj hy' hq2]; exact hy, rfl⟩, ?_, fun c hc => ?_⟩
  ·exact ⟨by show 2 <= sizeLine; decide, [x', y'], .cons ru (.cons ru2 .nil), oT, g1', g2, nT, g3⟩
  ·obtain ⟨q1, q2, q3, q4, q5, _, _⟩ := st'
   exact ⟨q1, q2, q3, q4, q5⟩
  ·rw [upd_ne (fun q => hTc (by rw [<- q]; exact hc)), (hf c hc).1]
 done := by
  intro X hP hw hK hc i pins s σ H E I hf st hg
  subst hP hw hK
  obtain ⟨xs, ys, hq1, hq2, hx⟩ := hg
  obtain ⟨its, rv, p, hz⟩ := I.list hq1
  obtain ⟨its2, rv2, p2, hz2⟩ := I.list hq2
  have D := zapart (X := X) p.isList p2.isList st hd
  have W := WalksT.zip2 (prog := X.prog) (w := X.w) (I.ok.hd hc) z TI TO i1 i2 a b D its.toArray its2.toArray
  have l1 := rv.length
  have l2 := rv2.length
  have hn : min its.toArray.size its2.toArray.size = i := by rw [zq13x, zq13x, <- l1, <- l2]; exact hx
  obtain ⟨s1, s2, s3, s4, s5⟩ := id st
  refine W.done s _ _ (by rw [hn]; exact ⟨s1, s2, s3, s4, s5, p.isList, p2.isList⟩) fun h' tk kp => ⟨rfl, ?_⟩
  exact I.turnedL (ch := [z, TI, TO, i1, i2]) (fun c v hc q => kp c v (fun m => hc (by simp at m ⊢; rcases m with m | m | m | m <;> simp [m])) q) hf
 self := fun _ _ _ _ _ st h => wpAny_pyIter_zip st.1 h
def iZip (K : PySem.W.Frag) (ta tb : TE) : TI := fun σ H R => ta σ H fun x H1 => tb σ H1 fun y H2 => ∃ a b, x = .ref a /\ y = .ref b /\ (∃ xs, SqL K H2 a xs) /\ (∃ ys, SqL K H2 b ys) /\ R (Itz K a b) H2
theorem pi_zip {X : Cx} {K : PySem.W.Frag} {elts : List Expr} {k : Nat} {tpos : Pos} {l1 l2 : Expr} {ta tb : TE} {p pos : Pos} (hK : X.K = K) (hg : Gl X "zip") (hm : X.mg "zip" = none) (ha : PE X l1 ta) (hb : PE X l2 tb) (hs : starEach [l1, l2] X.env = [(false, eval l1 X.env), (false, eval l2 X.env)] := by rfl) (hs2 : starEach [l2] X.env = [(false, eval l2 X.env)] := by rfl) (hpl : (backTo pos (starEach [l2] X.env)).any (·.1) = false := by rfl) :
    PI X (.Tuple elts k tpos) (.Call (.Name "zip" p) [l1, l2] [] pos) (iZip K ta tb) := by
  subst hK
  intro pins s σ H R I h
  have hA : PA X [l1, l2] (tCons ta (tCons tb tNil)) := pa_cons ha (pa_cons hb pa_nil (by rw [hs2]; rfl)) (by rw [hs, hs2])
  refine Call_ (ld_blt I hg hm boot_zip (zq97x (thn (hA pos pins s σ H (fun vs H1 => match vs with | [x, y] => ∃ a b, x = .ref a /\ y = .ref b /\ (∃ xs, SqL X.K H1 a xs) /\ (∃ ys, SqL X.K H1 b ys) /\ R (Itz X.K a b) H1 | _ => False) I h) fun us s1 ⟨vs, H1, I1, r1, q1⟩ => ?_) (by rw [hs, hs2]) hpl))
  cases r1 with
  | nil => exact q1.elim
  | cons r rr =>
    cases rr with
    | nil => exact q1.elim
    | cons r2 rr =>
    cases rr with
    | cons _ _ => exact q1.elim
    | nil =>
    obtain ⟨a, b, e1, e2, ⟨xs, hq⟩, ⟨ys, hq2⟩, q⟩ := q1
    subst e1 e2
    cases r
    cases r2
    obtain ⟨its, rv, p, hz⟩ := I1.list hq
    obtain ⟨its2, rv2, p2, hz2⟩ := I1.list hq2
    refine call_zip_2 p.isList p2.isList fun h' hz hTI hTO hi1 hi2 hsz hk => ?_
    refine wpAny_pyIter_zip hz ?_
    have I2 : Inv X pins σ H1 { s1 with heap := h' } := I1.kept (t' := s1.toks) hk
    refine ⟨s1.heap.objs.size + 4, [s1.heap.objs.size + 4, s1.heap.objs.size + 2, s1.heap.objs.size + 3, s1.heap.objs.size, s1.heap.objs.size + 1], _, _, H1, rfl, I2, turn_zip _ _ _ _ _ a b (by simp), ⟨hz, hTI, ⟨_, _, hTO⟩, hi1, hi2⟩, fun b hb => ?_, q⟩
    have hb' : s1.heap.objs.size <= b := by
      simp only [zq3x, zq12x, or_false] at hb
      rcases hb with z | z | z | z | z <;> subst z
      · exact zq125x _ _
      · exact zq125x _ _
      · exact zq125x _ _
      · exact zq5x _
      · exact zq125x _ _
    exact I1.fpOk hb' (I1.hok.fresh hb')
theorem R.comp_zip {K : PySem.W.Frag} {a b : Addr} {xs ys : List V} {g : TG} {tc : TT} {te : TE} {acc : Addr} {Qe : Hp -> Prop} {σ : St} {H : Hp} (hlen : ys.length = xs.length) (Pv : Nat -> St -> Hp -> Prop) (h0 : Pv 0 σ H) (hl : ∀ i σ H, i <= xs.length -> Pv i σ H -> SqL K H a xs /\ SqL K H b ys)
  (hs : ∀ i x y σ H p, xs[i]? = some x -> ys[i]? = some y -> Pv i σ H -> H p = none -> g (.ref p) σ (upd H p (.tup [x, y])) fun σ2 H2 => tc σ2 H2 fun b H3 => if b = true then te σ2 H3 fun v H4 => ∃ ys, H4 acc = some (.lst ys) /\ ys.length < sizeLine /\ Pv (i + 1) σ2 (upd H4 acc (.lst (ys ++ [v]))) else Pv (i + 1) σ2 H3)
  (hd : ∀ σ H, Pv xs.length σ H -> Qe H) : CompW (Itz K a b) g tc te acc Qe σ H := by
 refine ⟨fun i m σ H => m = xs.length - i /\ i <= xs.length /\ Pv i σ H, ⟨xs.length, by simp, zq43x _, h0⟩, ?_⟩
 rintro i m σ H ⟨rfl, hi, p⟩
 obtain ⟨q, q2⟩ := hl i σ H hi p
 by_cases hlt : i < xs.length
 ·refine .inr ⟨⟨xs, ys, xs[i], ys[i]'(by omega), q, q2, by simp [hlt], zq1x _⟩, Pv (i + 1), fun σ' H' p' => ⟨xs.length - (i + 1), by omega, rfl, hlt, p'⟩, fun x H' y => ?_⟩
  obtain ⟨pp, y, y2, e, hn, hy, hy2, e2⟩ := y
  subst e e2
  exact hs i y y2 σ H pp (hy xs q) (hy2 ys q2) p hn
 ·have e : i = xs.length := by omega
  subst e
  exact .inl ⟨⟨xs, ys, q, q2, by omega⟩, hd σ H p⟩
section
variable {G : Gx} {ρ ρc : Rh} {te : TE} {s : TS} {gt : TG} {E : DE} {K : PySem.W.Frag} {Θ : Bool -> List PyData -> Prop} {tc : TT} {mp : List (Option Nat)}
theorem EvN.compZ {t1 t2 : TE} (hm : (mp.filterMap id).Nodup) (hρ : startR mp ρ = ρc) (h : Ev G ρ t1 fun f1 x => ∃ es, x = .list es /\ scAll es = true /\ es.length <= 10000 /\ ∀ v, Ev (G.hd f1 (.list es) v) ρ t2 fun f2 y => ∃ es2, y = .list es2 /\ scAll es2 = true /\ es2.length = es.length /\ ∀ v2, CompD ((G.hd f1 (.list es) v).hd f2 (.list es2) v2) ρc es.length (fun i d => ∃ e e2, es[i]? = some e /\ es2[i]? = some e2 /\ d = .tuple [e, e2]) true gt tc te Θ) : EvN G ρ (tComp (iZip K t1 t2) gt tc te mp) Θ := fun nb σ H Q W z =>
 h nb σ H _ W fun f1 v H0 x ⟨es, ex, hs, hn, q⟩ s0 hv => by
  subst ex
  have Wa := (W.step s0).hd hv
  refine q v nb σ H0 _ Wa fun f2 v2 H1 y ⟨es2, ey, hs2, hlen, q⟩ s1 hv2 => ?_
  subst ey
  obtain ⟨fl, I, h0, ht, he⟩ := q v2
  have W0 := (Wa.step s1).hd hv2
  obtain ⟨_, hv'⟩ := (Wa.step s1).unhd
  obtain ⟨a, xs, rfl, n, hx, hd⟩ := hv'.ofL
  obtain ⟨b, xs2, rfl, n2, hx2, hd2⟩ := hv2.ofL
  have l1 := hd.length
  have l2 := hd2.length
  refine ⟨a, b, rfl, rfl, ⟨xs, .of hx⟩, ⟨xs2, .of hx2⟩, fun acc hacc => ?_⟩
  have W0' : Wd ((G.hd f1 (.list es) (.ref a)).hd f2 (.list es2) (.ref b)) nb ρc (L2.startC mp σ) H1 := by rw [<- hρ]; exact W0.startC hm
  have W1 := W0'.more hacc (o := .lst [])
  have s01 : Step G.B H H1 := s0.trans s1
  have hN := NB.new s01.2 hacc
  have hno := no_own W0' hacc
  have st0 : Step G.B H1 (upd H1 acc (.lst [])) := .same s01.2 (same_new hacc)
  have hNa : NB G.B a := zq59x fun z => n (.inr (.inr (.inl z)))
  have hNb : NB G.B b := zq59x fun z => n2 (.inr (.inr (.inl z)))
  refine R.comp_zip (xs := xs) (ys := xs2) (by omega) (fun i σ H => ∃ ds ys, Wd ((G.hd f1 (.list es) (.ref a)).hd f2 (.list es2) (.ref b)) (fun x => nb x \/ x = acc) ρc σ H /\ Step G.B H1 H /\ H acc = some (.lst ys) /\ IsDs (G.S (fun x => nb x \/ x = acc) fl) H ds ys /\ ds.length <= i /\ I i ds /\ H a = some (.lst xs) /\ H b = some (.lst xs2)) ⟨[], [], W1, st0, upd_same, .nil, zq5x _, h0, st0.1 _ _ hNa hx, st0.1 _ _ hNb hx2⟩ ?_ ?_ ?_
  ·rintro i σ H hi ⟨ds, ys, W, st, _, _, _, _, ha, hb⟩
   exact ⟨.of ha, .of hb⟩
  ·rintro i x y σ H p hi hi2 ⟨ds, ys, W, st, hy, hd', hl, hI, ha, hb⟩ hp
   have hil : i < es.length := by have := (zq8x.mp hi).1; omega
   obtain ⟨x', hx', dx⟩ := hd.get (zq1x hil)
   rw [hi] at hx'; cases hx'
   obtain ⟨y', hy', dy⟩ := hd2.get (zq1x (show i < es2.length by omega))
   rw [hi2] at hy'; cases hy'
   have st2 : Step ((G.hd f1 (.list es) (.ref a)).hd f2 (.list es2) (.ref b)).B H (upd H p (.tup [x, y])) := .same W.bag (same_new hp)
   have hap : acc ≠ p := fun z => by subst z; rw [hp] at hy; cases hy
   have sx := zq90x.mp hs _ (zq29x hil)
   have sy := zq90x.mp hs2 _ (zq29x (show i < es2.length by omega))
   refine comp_turn (G := (G.hd f1 (.list es) (.ref a)).hd f2 (.list es2) (.ref b)) hn hil (W.step st2) (.inr rfl) hN hno (st.trans st2) hacc (by rw [upd_ne hap]; exact hy) (hd'.keep st2.butS) hl (.tup (W.fresh hp) upd_same (.cons (dx.scAny sx) (.cons (dy.scAny sy) .nil))) (ht i _ ds ⟨_, _, zq1x hil, zq1x (show i < es2.length by omega), rfl⟩ hl hI) fun σ' H' ds' xs' W' st' hx' hd' hl' hI' => ⟨ds', xs', W', st', hx', hd', hl', hI', st'.1 _ _ hNa hx, st'.1 _ _ hNb hx2⟩
  ·rintro σ H' ⟨ds, ys, W', st, hy, hd', hl, hI, _⟩
   rw [show xs.length = es.length by omega] at hl hI
   exact comp_end W s01 hacc st hy hd' (he ds hl hI) z
end
end L2
set_option maxRecDepth 100000
set_option maxHeartbeats 4000000
set_option maxRecDepth 100000
set_option maxHeartbeats 4000000
namespace L2
open PySem PySem.Spec PyProof.Rows
def lin : (Nat -> Int) -> List Int -> Int
 | _, [] => 0
 | f, x :: xs => f 0 * x + lin (fun i => f (i + 1)) xs
def mulR (p c : Int) (r : List Int) : List Int := r.map fun x => c * x % p
def lessR (p c : Int) (r o : List Int) : List Int := List.zipWith (fun x y => (x - c * y) % p) r o
def gI (r : List Int) (i : Nat) : Int := r.getD i 0
structure RwL (p : Int) (w : Nat) (r : List Int) : Prop where
 len : r.length = w
 rg : ∀ x ∈ r, 0 <= x /\ x < p
theorem RwL.g {p : Int} {w i : Nat} {r : List Int} (h : RwL p w r) (hp : 0 < p) : 0 <= gI r i /\ gI r i < p := by
 unfold gI
 rw [zq2x]
 cases e : r[i]? with
 | none => exact ⟨zq144x 0, hp⟩
 | some x => exact h.rg x (zq4x e)
theorem RwL.at {p : Int} {w i : Nat} {r : List Int} (h : RwL p w r) (hi : i < w) : r[i]? = some (gI r i) := by
 unfold gI
 rw [zq2x, zq1x (by rw [h.len]; exact hi)]
 rfl
theorem lin_mul (p c : Int) : ∀ (f : Nat -> Int) (r : List Int), ∃ k, lin f (mulR p c r) = c * lin f r + p * k
  | _, [] => ⟨0, by simp [lin, mulR]⟩
  | f, x :: xs => by
    obtain ⟨k, hk⟩ := lin_mul p c (fun i => f (i + 1)) xs
    refine ⟨k - f 0 * (c * x / p), ?_⟩
    show f 0 * (c * x % p) + lin _ (mulR p c xs) = c * (f 0 * x + lin _ xs) + _
    rw [hk, zq63x]
    grind
theorem lin_less (p c : Int) : ∀ (f : Nat -> Int) (r o : List Int), r.length = o.length -> ∃ k, lin f (lessR p c r o) = lin f r - c * lin f o + p * k
  | _, [], [], _ => ⟨0, by simp [lin, lessR]⟩
  | _, [], _ :: _, h => by simp at h
  | _, _ :: _, [], h => by simp at h
  | f, x :: xs, y :: ys, h => by
    obtain ⟨k, hk⟩ := lin_less p c (fun i => f (i + 1)) xs ys (by simpa using h)
    refine ⟨k - f 0 * ((x - c * y) / p), ?_⟩
    show f 0 * ((x - c * y) % p) + lin _ (lessR p c xs ys) = (f 0 * x + lin _ xs) - c * (f 0 * y + lin _ ys) + _
    rw [hk, zq63x]
    grind
theorem gI_mul {p c : Int} {r : List Int} {i : Nat} (hi : i < r.length) : gI (mulR p c r) i = c * gI r i % p := by
 unfold gI mulR
 rw [zq2x, zq10x, zq2x, zq1x hi]
 rfl
theorem gI_less {p c : Int} {r o : List Int} {i : Nat} (hi : i < r.length) (ho : i < o.length) : gI (lessR p c r o) i = (gI r i - c * gI o i) % p := by
 unfold gI lessR
 rw [zq2x, zq106x, zq2x, zq2x, zq1x hi, zq1x ho]
 rfl
theorem RwL.mul {p c : Int} {w : Nat} {r : List Int} (h : RwL p w r) (hp : 0 < p) : RwL p w (mulR p c r) := by
 refine ⟨by unfold mulR; rw [zq0x, h.len], fun x hx => ?_⟩
 obtain ⟨y, _, rfl⟩ := zq7x.mp hx
 exact ⟨zq24x _ (by omega), zq28x _ hp⟩
theorem RwL.less {p c : Int} {w : Nat} {r o : List Int} (h : RwL p w r) (h2 : RwL p w o) (hp : 0 < p) : RwL p w (lessR p c r o) := by
 refine ⟨by unfold lessR; rw [zq85x, h.len, h2.len]; omega, fun x hx => ?_⟩
 obtain ⟨i, hi⟩ := zq34x hx
 unfold lessR at hi
 rw [zq106x] at hi
 cases e1 : r[i]? <;> cases e2 : o[i]? <;> rw [e1, e2] at hi <;> simp at hi
 subst hi
 exact ⟨zq24x _ (by omega), zq28x _ hp⟩
theorem lessR_zero {p : Int} {w : Nat} {r o : List Int} (h : RwL p w r) (h2 : RwL p w o) : lessR p 0 r o = r := by
 apply zq107x
 ·unfold lessR; rw [zq85x, h.len, h2.len]; omega
 ·intro i h3 h4
  have e : (lessR p 0 r o)[i]'h3 = (r[i] - 0 * o[i]'(by rw [h2.len, <- h.len]; exact h4)) % p := zq126x ..
  rw [e]
  obtain ⟨a, b⟩ := h.rg _ (zq29x h4)
  rw [zq45x, zq104x, zq71x a b]
def clearR (p inv : Int) (R : List (List Int)) (k pl : Nat) : List (List Int) :=
 (R.map fun r => lessR p (gI r pl) r (mulR p inv (R.getD k []))).set k (mulR p inv (R.getD k []))
def RwsL (p : Int) (w : Nat) (R : List (List Int)) : Prop := ∀ r ∈ R, RwL p w r
def SameSp (p : Int) (R R' : List (List Int)) : Prop := ∀ f : Nat -> Int, (∀ r ∈ R, p ∣ lin f r) ↔ ∀ r ∈ R', p ∣ lin f r
theorem SameSp.refl (p : Int) (R : List (List Int)) : SameSp p R R := fun _ => Iff.rfl
theorem SameSp.trans {p : Int} {R R' R'' : List (List Int)} (a : SameSp p R R') (b : SameSp p R' R'') : SameSp p R R'' := fun f => (a f).trans (b f)
section
variable {p inv : Int} {w k pl : Nat} {R : List (List Int)}
theorem clearR_len : (clearR p inv R k pl).length = R.length := by unfold clearR; rw [zq37x, zq0x]
theorem clearR_at {i : Nat} {r : List Int} (h : (clearR p inv R k pl)[i]? = some r) (hk : k < R.length) : ∃ r0, R[i]? = some r0 /\ ((i = k /\ r = mulR p inv r0) \/ (i ≠ k /\ r = lessR p (gI r0 pl) r0 (mulR p inv (R.getD k [])))) := by
 unfold clearR at h
 by_cases c : k = i
 ·subst c
  rw [zq18x (by rw [zq0x]; exact hk)] at h
  refine ⟨R[k], zq1x hk, .inl ⟨rfl, ?_⟩⟩
  rw [zq2x, zq1x hk] at h
  exact (zq32x h).symm
 ·rw [zq6x c, zq10x] at h
  obtain ⟨r0, e, h⟩ := zq58x.mp h
  exact ⟨r0, e, .inr ⟨fun z => c z.symm, h.symm⟩⟩
theorem clearR_ok (hR : RwsL p w R) (hp : 0 < p) (hk : k < R.length) : RwsL p w (clearR p inv R k pl) := fun r hr => by
 obtain ⟨i, hi⟩ := zq34x hr
 obtain ⟨r0, e, ⟨_, rfl⟩ | ⟨_, rfl⟩⟩ := clearR_at hi hk
 ·exact (hR r0 (zq4x e)).mul hp
 ·have : RwL p w (R.getD k []) := by rw [zq2x, zq1x hk]; exact hR _ (zq29x hk)
  exact (hR r0 (zq4x e)).less (this.mul hp) hp
theorem clearR_span (hR : RwsL p w R) (hp : 0 < p) (hk : k < R.length) (hinv : ∃ j, inv * gI (R.getD k []) pl = 1 + p * j) : SameSp p R (clearR p inv R k pl) := by
 have hkk : R.getD k [] = R[k] := by rw [zq2x, zq1x hk]; rfl
 have hkr : RwL p w R[k] := hR _ (zq29x hk)
 obtain ⟨j, hj⟩ := hinv
 rw [hkk] at hj
 intro f
 obtain ⟨k1, e1⟩ := lin_mul p inv f R[k]
 constructor
 ·intro h r hr
  obtain ⟨i, hi⟩ := zq34x hr
  obtain ⟨r0, e, ⟨_, rfl⟩ | ⟨_, rfl⟩⟩ := clearR_at hi hk
  ·obtain ⟨k2, e2⟩ := lin_mul p inv f r0
   rw [e2]
   exact zq101x (zq92x (h r0 (zq4x e))) (zq127x ..)
  ·rw [hkk]
   obtain ⟨k2, e2⟩ := lin_less p (gI r0 pl) f r0 (mulR p inv R[k]) (by rw [(hR r0 (zq4x e)).len, (hkr.mul hp).len])
   rw [e2, e1]
   refine zq101x (Int.dvd_sub (h r0 (zq4x e)) (zq92x ?_)) (zq127x ..)
   exact zq101x (zq92x (h _ (zq29x hk))) (zq127x ..)
 ·intro h
  have hown : p ∣ lin f (mulR p inv R[k]) := by
   refine h _ ?_
   have : (clearR p inv R k pl)[k]? = some (mulR p inv R[k]) := by
    unfold clearR
    rw [zq18x (by rw [zq0x]; exact hk), hkk]
   exact zq4x this
  intro r hr
  obtain ⟨i, hi⟩ := zq34x hr
  by_cases c : i = k
  ·subst c
   rw [zq1x hk] at hi
   cases hi
   rw [e1] at hown
   obtain ⟨q, hq⟩ := hown
   refine ⟨gI R[i] pl * (q - k1) - lin f R[i] * j, ?_⟩
   have : lin f R[i] = (inv * gI R[i] pl - p * j) * lin f R[i] := by rw [hj]; grind
   rw [this]
   grind
  ·have hm : lessR p (gI r pl) r (mulR p inv R[k]) ∈ clearR p inv R k pl := by
    have : (clearR p inv R k pl)[i]? = some (lessR p (gI r pl) r (mulR p inv R[k])) := by
     unfold clearR
     rw [zq6x (fun z => c z.symm), zq10x, hi, hkk]
     rfl
    exact zq4x this
   obtain ⟨k2, e2⟩ := lin_less p (gI r pl) f r (mulR p inv R[k]) (by rw [(hR r hr).len, (hkr.mul hp).len])
   have h3 := h _ hm
   rw [e2] at h3
   have : lin f r = (lin f r - gI r pl * lin f (mulR p inv R[k]) + p * k2) + gI r pl * lin f (mulR p inv R[k]) - p * k2 := by omega
   rw [this]
   exact Int.dvd_sub (zq101x h3 (zq92x hown)) (zq127x ..)
theorem gRow {R : List (List Int)} {i : Nat} (hi : i < R.length) : R.getD i [] = R[i] := by rw [zq2x, zq1x hi]; rfl
theorem clearR_g {i d : Nat} (hR : RwsL p w R) (hp : 0 < p) (hk : k < R.length) (hi : i < R.length) (hd : d < w) :
  gI ((clearR p inv R k pl).getD i []) d = if i = k then inv * gI (R.getD k []) d % p else (gI (R.getD i []) d - gI (R.getD i []) pl * (inv * gI (R.getD k []) d % p)) % p := by
 have hkr : RwL p w R[k] := hR _ (zq29x hk)
 have hir : RwL p w R[i] := hR _ (zq29x hi)
 unfold clearR
 rw [zq2x]
 by_cases c : i = k
 ·subst c
  rw [if_pos rfl, zq18x (by rw [zq0x]; exact hi), gRow hi]
  exact gI_mul (by rw [hir.len]; exact hd)
 ·rw [if_neg c, zq6x (fun z => c z.symm), zq10x, zq1x hi, gRow hk, gRow hi]
  show gI (lessR p (gI R[i] pl) R[i] (mulR p inv R[k])) d = _
  rw [gI_less (by rw [hir.len]; exact hd) (by rw [(hkr.mul hp).len]; exact hd), gI_mul (by rw [hkr.len]; exact hd)]
end
theorem pre_of {D D1 D2 : List Nat} {x d : Nat} (e : D ++ [d] = D1 ++ x :: D2) (hx : x ∈ D) (hn : x ∉ D1) : ∃ D3, D = D1 ++ x :: D3 := by
 rcases List.eq_nil_or_concat D2 with rfl | ⟨D3, y, rfl⟩
 ·have h := List.append_inj' e rfl
  rw [h.1] at hx
  exact absurd hx hn
 ·have e' : D ++ [d] = (D1 ++ x :: D3) ++ [y] := by rw [e]; simp
  exact ⟨D3, (List.append_inj' e' rfl).1⟩
structure SwI (p : Int) (w : Nat) (R0 R : List (List Int)) (T : List (Nat × Nat)) (D : List Nat) : Prop where
 ok : RwsL p w R
 len : R.length = R0.length
 sp : SameSp p R0 R
 nd : (T.map (·.1)).Nodup
 rg : ∀ q ∈ T, q.1 < R.length /\ q.2 ∈ D
 one : ∀ q ∈ T, ∀ i < R.length, gI (R.getD i []) q.2 = if i = q.1 then 1 else 0
 zero : ∀ i < R.length, i ∉ T.map (·.1) -> ∀ d ∈ D, gI (R.getD i []) d = 0
 ah : ∀ D1 D2 q, q ∈ T -> D = D1 ++ q.2 :: D2 -> q.2 ∉ D1 -> ∀ d ∈ D1, gI (R.getD q.1 []) d = 0
section
variable {p inv : Int} {w k d : Nat} {R R0 : List (List Int)} {T : List (Nat × Nat)} {D : List Nat}
theorem SwI.init (h : RwsL p w R) : SwI p w R R [] [] := ⟨h, rfl, .refl _ _, .nil, (fun q hq => by cases hq), (fun q hq => by cases hq), (fun _ _ _ d hd => by cases hd), fun _ _ q hq => by cases hq⟩
theorem SwI.skip (h : SwI p w R0 R T D) (hz : ∀ i < R.length, i ∉ T.map (·.1) -> gI (R.getD i []) d = 0) : SwI p w R0 R T (D ++ [d]) :=
 ⟨h.ok, h.len, h.sp, h.nd, fun q hq => ⟨(h.rg q hq).1, zq48x _ (h.rg q hq).2⟩, h.one, fun i hi hn e he => by
  rcases zq22x.mp he with z | z
  ·exact h.zero i hi hn e z
  ·rw [zq17x.mp z]; exact hz i hi hn, fun D1 D2 q hq e hn x hx => by
  obtain ⟨D3, e3⟩ := pre_of e (h.rg q hq).2 hn
  exact h.ah D1 D3 q hq e3 hn x hx⟩
theorem SwI.take (h : SwI p w R0 R T D) (hp : 1 < p) (hDw : ∀ e ∈ D, e < w) (hdw : d < w) (hk : k < R.length) (hkT : k ∉ T.map (·.1)) (hne : gI (R.getD k []) d ≠ 0) (hinv : ∃ j, inv * gI (R.getD k []) d = 1 + p * j) : SwI p w R0 (clearR p inv R k d) (T ++ [(k, d)]) (D ++ [d]) := by
 have hp0 : 0 < p := by omega
 have e1 : inv * gI (R.getD k []) d % p = 1 := by
  obtain ⟨j, hj⟩ := hinv
  rw [hj, Int.add_mul_emod_self_left, zq71x (by omega) hp]
 have hk0 : ∀ e ∈ D, gI (R.getD k []) e = 0 := fun e he => h.zero k hk hkT e he
 have atD : ∀ e ∈ D, ∀ i < R.length, gI ((clearR p inv R k d).getD i []) e = if i = k then 0 else gI (R.getD i []) e := fun e he i hi => by
  rw [clearR_g h.ok hp0 hk hi (hDw e he), hk0 e he]
  by_cases c : i = k
  ·rw [if_pos c, if_pos c, zq30x, zq108x]
  ·rw [if_neg c, if_neg c, zq30x, zq108x, zq30x, zq104x]
   have hr : RwL p w (R.getD i []) := by rw [gRow hi]; exact h.ok _ (zq29x hi)
   obtain ⟨a, b⟩ := hr.g (i := e) hp0
   exact zq71x a b
 have atd : ∀ i < R.length, gI ((clearR p inv R k d).getD i []) d = if i = k then 1 else 0 := fun i hi => by
  rw [clearR_g h.ok hp0 hk hi hdw, e1]
  by_cases c : i = k
  ·rw [if_pos c, if_pos c]
  ·rw [if_neg c, if_neg c, zq112x, Int.sub_self, zq108x]
 refine ⟨clearR_ok h.ok hp0 hk, by rw [clearR_len, h.len], h.sp.trans (clearR_span h.ok hp0 hk hinv), ?_, fun q hq => ?_, fun q hq i hi => ?_, fun i hi hn e he => ?_, fun D1 D2 q hq e hn x hx => ?_⟩
 ·rw [zq16x, List.nodup_append]
  refine ⟨h.nd, by simp, fun a ha b hb => ?_⟩
  rw [List.map_singleton, zq17x] at hb
  rw [hb]
  exact fun z => hkT (by rw [show a = k from z] at ha; exact ha)
 ·rw [clearR_len]
  rcases zq22x.mp hq with z | z
  ·exact ⟨(h.rg q z).1, zq48x _ (h.rg q z).2⟩
  ·rw [zq17x.mp z]; exact ⟨hk, zq33x _ (by simp)⟩
 ·rw [clearR_len] at hi
  rcases zq22x.mp hq with z | z
  ·rw [atD _ (h.rg q z).2 i hi]
   have hkq : k ≠ q.1 := fun y => hkT (y ▸ zq128x z)
   by_cases c : i = k
   ·rw [if_pos c, if_neg (by rw [c]; exact hkq)]
   ·rw [if_neg c, h.one q z i hi]
  ·rw [zq17x.mp z]; exact atd i hi
 ·rw [clearR_len] at hi
  rw [zq16x, zq22x, not_or] at hn
  have hik : i ≠ k := fun y => hn.2 (by rw [y]; simp)
  rcases zq22x.mp he with z | z
  ·rw [atD e z i hi, if_neg hik]
   exact h.zero i hi hn.1 e z
  ·rw [zq17x.mp z, atd i hi, if_neg hik]
 ·rcases zq22x.mp hq with z | z
  ·obtain ⟨D3, e3⟩ := pre_of e (h.rg q z).2 hn
   have hxD : x ∈ D := by rw [e3]; exact zq48x _ hx
   rw [atD x hxD q.1 (h.rg q z).1, if_neg (fun y => hkT (by rw [<- y]; exact zq128x z))]
   exact h.ah D1 D3 q z e3 hn x hx
  ·rw [zq17x.mp z] at e hn ⊢
   have hxD : x ∈ D := by
    have hx' : x ∈ D ++ [d] := by rw [e]; exact zq48x _ hx
    rcases zq22x.mp hx' with y | y
    ·exact y
    ·rw [zq17x.mp y] at hx; exact absurd hx hn
   rw [atD x hxD k hk, if_pos rfl]
end
theorem lin_add (f g : Nat -> Int) : ∀ r : List Int, lin (fun i => f i + g i) r = lin f r + lin g r
  | [] => by simp [lin]
  | x :: xs => by
    show (f 0 + g 0) * x + lin _ xs = (f 0 * x + lin _ xs) + (g 0 * x + lin _ xs)
    rw [lin_add (fun i => f (i + 1)) (fun i => g (i + 1)) xs]
    grind
theorem lin_zero : ∀ (f : Nat -> Int) (r : List Int), (∀ i < r.length, f i * gI r i = 0) -> lin f r = 0
  | _, [], _ => rfl
  | f, x :: xs, h => by
    show f 0 * x + lin _ xs = 0
    rw [lin_zero (fun i => f (i + 1)) xs fun i hi => h (i + 1) (by simpa using hi)]
    have : f 0 * x = 0 := h 0 (by simp)
    omega
theorem lin_one : ∀ (f : Nat -> Int) (r : List Int) (pl : Nat), pl < r.length -> (∀ i < r.length, i ≠ pl -> f i * gI r i = 0) -> lin f r = f pl * gI r pl
  | _, [], _, h, _ => by simp at h
  | f, x :: xs, 0, _, h => by
    show f 0 * x + lin _ xs = f 0 * x
    rw [lin_zero (fun i => f (i + 1)) xs fun i hi => h (i + 1) (by simpa using hi) (by omega)]
    omega
  | f, x :: xs, pl + 1, hl, h => by
    show f 0 * x + lin _ xs = f (pl + 1) * gI xs pl
    rw [lin_one (fun i => f (i + 1)) xs pl (by simpa using hl) fun i hi c => h (i + 1) (by simpa using hi) (by omega)]
    have : f 0 * x = 0 := h 0 (by simp) (by omega)
    omega
theorem lin_set : ∀ (f : Nat -> Int) (r : List Int) (i : Nat) (x : Int), i < r.length -> lin f (r.set i x) = lin f r + f i * (x - gI r i)
  | _, [], _, _, h => by simp at h
  | f, y :: ys, 0, x, _ => by
    show f 0 * x + lin _ ys = f 0 * y + lin _ ys + f 0 * (x - y)
    grind
  | f, y :: ys, i + 1, x, h => by
    show f 0 * y + lin _ (ys.set i x) = f 0 * y + lin _ ys + f (i + 1) * (x - gI ys i)
    rw [lin_set (fun i => f (i + 1)) ys i x (by simpa using h)]
    grind
theorem lin_nought : ∀ (f : Nat -> Int) (n : Nat), lin f (List.replicate n 0) = 0
  | _, 0 => rfl
  | f, n + 1 => by
    show f 0 * 0 + lin _ (List.replicate n 0) = 0
    rw [lin_nought]
    omega
theorem Ev.inv {G : Gx} {ρ : Rh} {t : TA} {Φ : Pd} (h : Av G ρ t fun es => ∃ p b : Int, es.map (·.2) = [.int p, .int b] /\ PrimeZ p /\ p < 10 ^ 40 /\ b % p ≠ 0 /\ ∀ u : Int, 0 <= u -> u < p -> (∃ k, u * b = 1 + p * k) -> Φ true (.int u)) :
  Ev G ρ (tCall spInverse [] E0 t) Φ := fun nb σ H Q W z =>
 h nb σ H _ W fun es vs H1 ⟨p, b, e, h1, h2, h3, q⟩ s1 q1 => by
  have hd := q1.all (f := false) (fun z => by cases z)
  rw [e] at hd
  unfold IsDs at hd
  obtain ⟨x, ys, rfl, d1, hd⟩ := hd
  unfold IsDs at hd
  obtain ⟨y, zs, rfl, d2, hd⟩ := hd
  unfold IsDs at hd
  subst hd
  rw [d1.ofI, d2.ofI]
  exact ⟨p, b, rfl, h1, h2, h3, fun u u0 u1 u2 => z true _ H1 _ (q u u0 u1 u2) s1 (.int u)⟩
structure SNet (p n : Int) (cs : List Prs) : Prop where
 hp : PrimeZ p
 p40 : p < 10 ^ 40
 n0 : 1 <= n
 n1 : n <= 400
 cl : cs.length <= 500
 ok : ∀ prs ∈ cs, (prs.map (·.1)).Nodup /\ prs.length <= 1000 /\ ∀ pr ∈ prs, 0 <= pr.1 /\ pr.1 < n /\ 0 <= pr.2 /\ pr.2 < p
def setP (r : List Int) (prs : Prs) : List Int := prs.foldl (fun r pr => r.set pr.1.toNat pr.2) r
def rowS (n m c : Nat) (prs : Prs) : List Int := (setP (List.replicate (n + m) 0) prs).set (n + c) 1
def rowsS (n m : Nat) (cs : List Prs) : List (List Int) := cs.zipIdx.map fun q => rowS n m q.2 q.1
theorem setP_len : ∀ (prs : Prs) (r : List Int), (setP r prs).length = r.length
  | [], _ => rfl
  | pr :: prs, r => by
    show (setP (r.set pr.1.toNat pr.2) prs).length = _
    rw [setP_len prs, zq37x]
theorem setP_mem : ∀ (prs : Prs) (r : List Int) (x : Int), x ∈ setP r prs -> x ∈ r \/ x ∈ prs.map (·.2)
  | [], _, x, h => .inl h
  | pr :: prs, r, x, h => by
    rcases setP_mem prs (r.set pr.1.toNat pr.2) x h with z | z
    · rcases zq109x z with y | y
      · exact .inl y
      · exact .inr (by rw [y]; simp)
    · exact .inr (by rw [zq9x]; exact zq21x _ z)
theorem setP_g : ∀ (prs : Prs) (r : List Int) (i : Nat), (∀ pr ∈ prs, pr.1.toNat ≠ i) -> gI (setP r prs) i = gI r i
  | [], _, _, _ => rfl
  | pr :: prs, r, i, h => by
    show gI (setP (r.set pr.1.toNat pr.2) prs) i = _
    rw [setP_g prs _ i fun q hq => h q (zq21x _ hq)]
    unfold gI
    rw [zq2x, zq6x (h pr (zq27x ..)), zq2x]
theorem setP_lin (f : Nat -> Int) : ∀ (prs : Prs) (r : List Int), (prs.map (·.1)).Nodup -> (∀ pr ∈ prs, 0 <= pr.1 /\ pr.1.toNat < r.length /\ gI r pr.1.toNat = 0) -> lin f (setP r prs) = lin f r + (prs.map fun pr => f pr.1.toNat * pr.2).sum
  | [], r, _, _ => by simp [setP]
  | pr :: prs, r, hn, h => by
    rw [zq9x, zq55x] at hn
    obtain ⟨h0, h1, h2⟩ := h pr (zq27x ..)
    show lin f (setP (r.set pr.1.toNat pr.2) prs) = _
    rw [setP_lin f prs _ hn.2 fun q hq => ?_, lin_set f r _ _ h1, h2, zq9x, zq94x]
    · grind
    · obtain ⟨g0, g1, g2⟩ := h q (zq21x _ hq)
      refine ⟨g0, by rw [zq37x]; exact g1, ?_⟩
      have : pr.1.toNat ≠ q.1.toNat := fun z => hn.1 (by
        have e : pr.1 = q.1 := by omega
        rw [e]; exact zq128x hq)
      unfold gI
      rw [zq2x, zq6x this, <- zq2x]
      exact g2
theorem gI_nought (n i : Nat) : gI (List.replicate n 0) i = 0 := by
 unfold gI
 rw [zq2x, zq36x]
 split <;> rfl
section
variable {p n : Int} {cs : List Prs} {prs : Prs} {m c : Nat}
theorem rowS_lin (f : Nat -> Int) (hn : (prs.map (·.1)).Nodup) (h : ∀ pr ∈ prs, 0 <= pr.1 /\ pr.1 < n) (n0 : 0 <= n) (hc : c < m) : lin f (rowS n.toNat m c prs) = (prs.map fun pr => f pr.1.toNat * pr.2).sum + f (n.toNat + c) := by
 unfold rowS
 have h1 : gI (setP (List.replicate (n.toNat + m) 0) prs) (n.toNat + c) = 0 := by
  rw [setP_g _ _ _ fun pr hpr => by have := h pr hpr; omega, gI_nought]
 rw [lin_set _ _ _ _ (by rw [setP_len, zq56x]; omega), h1, setP_lin f prs _ hn fun pr hpr => ?_, lin_nought]
 ·omega
 ·have := h pr hpr
  exact ⟨this.1, by rw [zq56x]; omega, gI_nought ..⟩
theorem rowS_ok (hp : 1 < p) (h : ∀ pr ∈ prs, 0 <= pr.2 /\ pr.2 < p) : RwL p (n.toNat + m) (rowS n.toNat m c prs) := by
 unfold rowS
 refine ⟨by rw [zq37x, setP_len, zq56x], fun x hx => ?_⟩
 rcases zq109x hx with z | z
 ·rcases setP_mem _ _ _ z with y | y
  ·rw [List.mem_replicate] at y; omega
  ·obtain ⟨pr, hpr, rfl⟩ := zq7x.mp y
   exact h pr hpr
 ·omega
theorem rowsS_at {r : List Int} (h : r ∈ rowsS n.toNat m cs) : ∃ c prs, cs[c]? = some prs /\ r = rowS n.toNat m c prs := by
 obtain ⟨q, hq, rfl⟩ := zq7x.mp h
 obtain ⟨i, hi⟩ := zq34x hq
 rw [zq157x] at hi
 obtain ⟨x, e, h2⟩ := zq58x.mp hi
 subst h2
 exact ⟨_, x, by simpa using e, by simp⟩
theorem rowsS_len : (rowsS n.toNat m cs).length = cs.length := by unfold rowsS; rw [zq0x, List.length_zipIdx]
theorem rowsS_get {c : Nat} (h : cs[c]? = some prs) : rowS n.toNat m c prs ∈ rowsS n.toNat m cs := by
 unfold rowsS
 refine zq7x.mpr ⟨(prs, c), ?_, rfl⟩
 refine zq4x (i := c) ?_
 rw [zq157x, h]
 simp
theorem SNet.rows (h : SNet p n cs) : RwsL p (n.toNat + cs.length) (rowsS n.toNat cs.length cs) := fun r hr => by
 obtain ⟨c, prs, e, rfl⟩ := rowsS_at hr
 exact rowS_ok h.hp.1 fun pr hpr => ((h.ok prs (zq4x e)).2.2 pr hpr).2.2
end
theorem SwI.inj {p : Int} {w : Nat} {R0 R : List (List Int)} {T : List (Nat × Nat)} {D : List Nat} (h : SwI p w R0 R T D) {a b : Nat × Nat} (ha : a ∈ T) (hb : b ∈ T) (e : a.2 = b.2) : a.1 = b.1 := by
 have h1 := h.one a ha a.1 (h.rg a ha).1
 have h2 := h.one b hb a.1 (h.rg a ha).1
 rw [if_pos rfl] at h1
 rw [<- e, h1] at h2
 by_cases c : a.1 = b.1
 ·exact c
 ·rw [if_neg c] at h2; omega
theorem gI_set {r : List Int} {i : Nat} {x : Int} (hi : i < r.length) (j : Nat) : gI (r.set i x) j = if j = i then x else gI r j := by
 unfold gI
 rw [zq2x]
 by_cases c : j = i
 ·subst c; rw [zq18x hi, if_pos rfl]; rfl
 ·rw [zq6x (fun z => c z.symm), if_neg c, zq2x]
theorem due_all {v : List Int} {n : Int} (hv : v.length = n.toNat) : ∀ (prs : Prs), (∀ pr ∈ prs, 0 <= pr.1 /\ pr.1 < n) -> dueSum prs (v.map some) = (prs.map fun pr => gI v pr.1.toNat * pr.2).sum
  | [], _ => rfl
  | pr :: prs, h => by
    show termOf _ pr + dueSum prs _ = _
    rw [due_all hv prs fun q hq => h q (zq21x _ hq), zq9x, zq94x]
    congr 1
    obtain ⟨h0, h1⟩ := h pr (zq27x ..)
    unfold termOf gI
    rw [zq10x, zq2x, zq1x (show pr.1.toNat < v.length by omega)]
    exact zq99x ..
def co (prs : Prs) (j : Nat) : Int := (prs.map fun pr => if pr.1.toNat = j then pr.2 else 0).sum
def cmbF : List Prs -> List Int -> Nat -> Int
 | prs :: cs, x :: xs, j => co prs j * x + cmbF cs xs j
 | _, _, _ => 0
theorem lin_split : ∀ (n : Nat) (f : Nat -> Int) (r : List Int), n <= r.length -> lin f r = lin f (r.take n) + lin (fun i => f (n + i)) (r.drop n)
  | 0, f, r, _ => by simp [lin]
  | n + 1, f, [], h => by simp at h
  | n + 1, f, x :: xs, h => by
    show f 0 * x + lin _ xs = (f 0 * x + lin _ (xs.take n)) + lin _ (xs.drop n)
    rw [lin_split n (fun i => f (i + 1)) xs (by simpa using h), Int.add_assoc]
    congr 2
    congr 1
    funext i
    rw [show n + i + 1 = n + 1 + i by omega]
theorem lin_cmb (j : Nat) : ∀ (cs : List Prs) (xs : List Int), xs.length = cs.length -> lin (fun i => -(co (cs.getD i []) j)) xs = -cmbF cs xs j
  | [], [], _ => rfl
  | [], _ :: _, h => by simp at h
  | _ :: _, [], h => by simp at h
  | prs :: cs, x :: xs, h => by
    show -(co prs j) * x + lin (fun i => -(co (cs.getD i []) j)) xs = -(co prs j * x + cmbF cs xs j)
    rw [lin_cmb j cs xs (by simpa using h)]
    grind
theorem rows_sums {p n : Int} {cs : List Prs} {R : List (List Int)} {T : List (Nat × Nat)} {D : List Nat} (hN : SNet p n cs) (hS : SwI p (n.toNat + cs.length) (rowsS n.toNat cs.length cs) R T D) {r : List Int} (hr : r ∈ R) {j : Nat} (hj : j < n.toNat) : p ∣ gI r j - cmbF cs (r.drop n.toNat) j := by
 have n0 := hN.n0
 obtain ⟨f, ef⟩ : ∃ f : Nat -> Int, ∀ i, f i = if i = j then 1 else if n.toNat <= i then -(co (cs.getD (i - n.toNat) []) j) else 0 := ⟨_, fun _ => rfl⟩
 have h0 : ∀ r ∈ rowsS n.toNat cs.length cs, p ∣ lin f r := fun r0 hr0 => by
  obtain ⟨c, prs, e, rfl⟩ := rowsS_at hr0
  obtain ⟨g1, g2, g3⟩ := hN.ok prs (zq4x e)
  have hcl := (zq8x.mp e).1
  rw [rowS_lin f g1 (fun pr hpr => ⟨(g3 pr hpr).1, (g3 pr hpr).2.1⟩) (by omega) hcl, ef (n.toNat + c), if_neg (by omega), if_pos (by omega), show n.toNat + c - n.toNat = c by omega]
  have e1 : cs.getD c [] = prs := by rw [zq2x, e]; rfl
  have e2 : (prs.map fun pr => f pr.1.toNat * pr.2).sum = co prs j := by
   unfold co
   congr 1
   apply zq103x
   intro pr hpr
   have := g3 pr hpr
   rw [ef]
   by_cases c : pr.1.toNat = j
   ·rw [if_pos c, if_pos c, zq91x]
   ·rw [if_neg c, if_neg c, if_neg (by omega), zq45x]
  rw [e1, e2]
  exact ⟨0, by omega⟩
 have h1 := (hS.sp f).mp h0 r hr
 have hl := (hS.ok r hr).len
 rw [lin_split n.toNat f r (by omega), lin_one f (r.take n.toNat) j (by rw [zq19x]; omega) fun i hi hne => ?_] at h1
 ·have e3 : (fun i => f (n.toNat + i)) = fun i => -(co (cs.getD i []) j) := by
   funext i
   rw [ef, if_neg (by omega), if_pos (by omega), show n.toNat + i - n.toNat = i by omega]
  have e4 : gI (r.take n.toNat) j = gI r j := by
   unfold gI
   rw [zq2x, zq89x hj, zq2x]
  rw [e3, lin_cmb j cs (r.drop n.toNat) (by rw [zq40x]; omega), ef, if_pos rfl, e4, zq91x] at h1
  exact h1
 ·rw [zq19x] at hi
  rw [ef, if_neg hne, if_neg (by omega), zq45x]
def spCopyT : Sp := fun vs H Q _ => ∃ (nb : Addr -> Prop) (p n : Int) (cs : List Prs) (v : V), vs = [v] /\ Live nb H /\ IsD nb H (netD p n cs) v /\ cs.length <= 10000 /\
 ∀ T L xs H', Same H H' -> H T = none -> H L = none -> H' T = some (.tup [.int p, .int n, .ref L]) -> H' L = some (.lst xs) -> IsDs (fun a => nb a \/ a = L) H' (cs.map prsD) xs -> Q (.ref T) H'
section
variable {G : Gx} {ρ : Rh} {t : TA} {Φ : Pd} {E : DE} {K : PySem.W.Frag} {i j k : Nat}
theorem one_val {S : Addr -> Prop} {H : Hp} {d : PyData} {vs : List V} (h : IsDs S H [d] vs) : ∃ v, vs = [v] /\ IsD S H d v := by
 unfold IsDs at h
 obtain ⟨v, r, rfl, h1, h⟩ := h
 unfold IsDs at h
 subst h
 exact ⟨v, rfl, h1⟩
theorem Ev.copyT (h : Av G ρ t fun es => ∃ (p n : Int) (cs : List Prs), es.map (·.2) = [netD p n cs] /\ cs.length <= 10000 /\ Φ false (netD p n cs)) : Ev G ρ (tCall spCopyT [] E0 t) Φ := fun nb σ H Q W z =>
 h nb σ H _ W fun es vs H1 ⟨p, n, cs, e, hl, q⟩ s1 q1 => by
  have hd := q1.all (f := false) (fun z => by cases z)
  rw [e] at hd
  obtain ⟨v, rfl, hv⟩ := one_val hd
  have W1 := W.step s1
  refine ⟨G.S nb false, p, n, cs, v, rfl, W1.liveS, hv, hl, fun T L xs H' sm hT hL eT eL hds => ?_⟩
  have hT0 : ¬ G.S nb false T := fun y => absurd hT (W1.liveS T y)
  have hL0 : ¬ G.S nb false L := fun y => absurd hL (W1.liveS L y)
  refine z false _ H' _ q (s1.trans (.same s1.2 sm)) (.tup hT0 eT (.cons (.int _) (.cons (.int _) (.cons (.lst hL0 eL (hds.av fun a y => .inl y)) .nil))))
theorem Sv.copy3 (hij : i ≠ k /\ j ≠ k) (h : Av G ρ t fun es => ∃ (p n : Int) (cs : List Prs), es.map (·.2) = [netD p n cs] /\ cs.length <= 10000 /\ ∀ c, E.nx (((ρ.set k (.own c false (cs.map prsD))).set i (.d true (.int p))).set j (.d true (.int n)))) :
  Sv G ρ (tAsg (tCall spCopyT [] E0 t) (gTup K 3 (gCons (gName i) (gCons (gName j) (gCons (gName k) gNil))))) E := fun nb σ H D W KK =>
 h nb σ H _ W fun es vs H1 ⟨p, n, cs, e, hl, q⟩ s1 q1 => by
  have hd := q1.all (f := false) (fun z => by cases z)
  rw [e] at hd
  obtain ⟨v, rfl, hv⟩ := one_val hd
  have W1 := W.step s1
  refine ⟨G.S nb false, p, n, cs, v, rfl, W1.liveS, hv, hl, fun T L xs H' sm hT hL eT eL hds => ?_⟩
  have W2 := Wd.setD (i := j) (f := true) (d := .int n) (v := .int n) (Wd.setD (i := i) (f := true) (d := .int p) (v := .int p) (own_of (i := k) W1 (.same s1.2 sm) hL eL hds) (.int p)) (.int n)
  refine ⟨T, _, rfl, .of eT, rfl, _, _, rfl, _, _, rfl, _, _, rfl, rfl, ?_⟩
  have e1 : ((σ.set k (some (V.ref L))).set i (some (.int p))).set j (some (.int n)) = ((σ.set i (some (.int p))).set j (some (.int n))).set k (some (V.ref L)) := by
   rw [List.set_comm _ _ (zq11x hij.1), List.set_comm _ _ (zq11x hij.2)]
  have h9 := KK.nx _ _ _ _ (q L) W2
  rw [e1] at h9
  exact h9
end
theorem enterT {N : List Str} {vs : List V} {ds : List PyData} {nb : Addr -> Prop} {H : Hp} {ρ : Rh} {P : St -> Hp -> Prop} (hl : Live nb H) (hd : IsDs nb H ds vs) (hρ : ρ = ds.map (Sl.d false) ++ List.replicate (N.length - ds.length) .no)
  (h : ∀ nb' σ H1, Wd ⟨none, H, nb, []⟩ nb' ρ σ H1 -> P σ H1) : P (start N vs) H :=
 Sv.enterD (t := fun _ σ H1 => P σ H1) (Φ := fun _ _ => False) (Q := fun _ _ => True) hl hd (fun _ _ _ _ z => z.elim) hρ (fun nb' σ H1 _ W _ => h nb' σ H1 W)
theorem cmbF_snoc (j : Nat) (prs : Prs) (x : Int) : ∀ (cs : List Prs) (xs : List Int), cs.length = xs.length -> cmbF (cs ++ [prs]) (xs ++ [x]) j = cmbF cs xs j + co prs j * x
  | [], [], _ => by simp [cmbF]
  | [], _ :: _, h => by simp at h
  | _ :: _, [], h => by simp at h
  | q :: cs, y :: ys, h => by
    show co q j * y + cmbF (cs ++ [prs]) (ys ++ [x]) j = co q j * y + cmbF cs ys j + _
    rw [cmbF_snoc j prs x cs ys (by simpa using h)]
    omega
structure CmbI (p n : Int) (cs : List Prs) (fac : List Int) (c : Nat) (prs : Prs) (x : Int) (r : List Int) : Prop where
 ok : RwL p n.toNat r
 sum : ∀ i < n.toNat, p ∣ gI r i - (cmbF (cs.take c) (fac.take c) i + co prs i * x)
theorem CmbI.init {p n : Int} {cs : List Prs} {fac : List Int} (hp : 0 < p) : CmbI p n cs fac 0 [] 0 (List.replicate n.toNat 0) := by
 refine ⟨⟨zq56x, fun x hx => by rw [List.mem_replicate] at hx; omega⟩, fun i hi => ?_⟩
 rw [gI_nought]
 simp [cmbF, co]
def PrsQ (p : Int) (m : Nat) (prs : Prs) : Prop := (prs.map (·.1)).Nodup /\ prs.length <= 1000 /\ ∀ pr ∈ prs, 0 <= pr.1 /\ pr.1 < m /\ 1 <= pr.2 /\ pr.2 < p
theorem RwL.put {p : Int} {w i : Nat} {r : List Int} {x : Int} (h : RwL p w r) (h0 : 0 <= x) (h1 : x < p) : RwL p w (r.set i x) := by
 refine ⟨by rw [zq37x]; exact h.len, fun y hy => ?_⟩
 rcases zq109x hy with z | z
 ·exact h.rg y z
 ·rw [z]; exact ⟨h0, h1⟩
def nzP (r : List Int) (i : Nat) : Prs := ((List.range i).filter fun k => decide (gI r k ≠ 0)).map fun (k : Nat) => ((k : Int), gI r k)
theorem nzP_ok {p : Int} {w : Nat} {r : List Int} (h : RwL p w r) (hp : 0 < p) (hw : w <= 1000) : PrsQ p w (nzP r w) := by
 refine ⟨?_, ?_, fun pr hpr => ?_⟩
 ·unfold nzP
  rw [zq68x]
  show (List.map (fun (k : Nat) => (k : Int)) _).Nodup
  rw [List.Nodup, zq72x]
  exact (zq158x.filter _).imp fun {a b} h z => h (by omega)
 ·unfold nzP
  rw [zq0x]
  exact zq31x (List.length_filter_le ..) (by rw [zq42x]; exact hw)
 ·obtain ⟨k, hk, rfl⟩ := zq7x.mp hpr
  rw [zq88x, zq39x] at hk
  have h1 := h.g (i := k) hp
  have h2 : gI r k ≠ 0 := by simpa using hk.2
  exact ⟨by show (0 : Int) <= k; omega, by show (k : Int) < w; omega, by show 1 <= gI r k; omega, h1.2⟩
theorem nzP_succ (r : List Int) (i : Nat) : nzP r (i + 1) = nzP r i ++ if gI r i ≠ 0 then [((i : Int), gI r i)] else [] := by
 unfold nzP
 rw [List.range_succ, List.filter_append, zq16x]
 congr 1
 by_cases c : gI r i = 0 <;> simp [c]
theorem EvF.lendOwn {G : Gx} {ρ : Rh} {te : TE} {f : Bool} {Ψ : PyData -> Prop} {a : Addr} {ds : List PyData} (i : Nat) (e : ρ[i]? = some (.own a f ds)) (h : EvF G (ρ.set i (.d f (.list ds))) te Ψ) : EvF G ρ te Ψ := fun nb σ H Q W z => h _ σ H Q (Sv.share W e) z
end L2
set_option maxRecDepth 100000
set_option maxHeartbeats 4000000
set_option maxRecDepth 100000
set_option maxHeartbeats 4000000
namespace L2
open PySem PySem.Spec PyProof.Rows
theorem Sv.lift {G : Gx} {ρ : Rh} {s : TS} {E : DE} {f : Bool} {ds : List PyData} {a : Addr} (i : Nat) (e : ρ[i]? = some (.own a f ds)) (hs : scAll ds = true) (h : Sv G (ρ.set i (.own a true ds)) s E) : Sv G ρ s E := fun nb σ H D W K => by
 obtain ⟨x, e1, h1, h2, h3, xs, hx, hd⟩ := W.ok i _ e
 have W' := Sv.writeOwn (g := true) W e (IsDs.scAny (nb' := G.S nb true) (H' := H) hs hd)
 have : upd H a (.lst xs) = H := by
  funext b
  by_cases c : b = a
  ·subst c; rw [upd_same, hx]
  ·rw [upd_ne c]
 rw [this] at W'
 exact h nb σ H D W' K
end L2
set_option maxRecDepth 100000
set_option maxHeartbeats 4000000
namespace L2
open PySem PySem.Spec PyProof.Rows
theorem lin_mapadd (g h : Nat -> Int) : ∀ (l : List Nat) (f : Nat -> Int), lin f (l.map fun j => g j + h j) = lin f (l.map g) + lin f (l.map h)
  | [], _ => rfl
  | j :: l, f => by
    show f 0 * (g j + h j) + lin _ _ = (f 0 * g j + lin _ _) + (f 0 * h j + lin _ _)
    rw [lin_mapadd g h l]
    grind
theorem lin_mapmul (g : Nat -> Int) (x : Int) : ∀ (l : List Nat) (f : Nat -> Int), lin f (l.map fun j => g j * x) = lin f (l.map g) * x
  | [], _ => by simp [lin]
  | j :: l, f => by
    show f 0 * (g j * x) + lin _ _ = (f 0 * g j + lin _ _) * x
    rw [lin_mapmul g x l]
    grind
theorem gI_range {n i : Nat} (g : Nat -> Int) (h : i < n) : gI ((List.range n).map g) i = g i := by
 unfold gI
 rw [zq2x, zq10x, List.getElem?_range h]
 rfl
theorem lin_co {n : Nat} (f : Nat -> Int) : ∀ prs : Prs, (∀ pr ∈ prs, pr.1.toNat < n) -> lin f ((List.range n).map (co prs)) = (prs.map fun pr => f pr.1.toNat * pr.2).sum
  | [], _ => by
    rw [lin_zero _ _ fun i hi => by rw [zq0x, zq42x] at hi; rw [gI_range _ hi]; show f i * 0 = 0; rw [zq30x]]
    rfl
  | pr :: prs, h => by
    have e : (co (pr :: prs)) = fun j => (if pr.1.toNat = j then pr.2 else 0) + co prs j := by funext j; rfl
    rw [e, lin_mapadd, lin_co f prs fun q hq => h q (zq21x _ hq), zq9x, zq94x]
    have hp := h pr (zq27x ..)
    congr 1
    rw [lin_one f _ pr.1.toNat (by rw [zq0x, zq42x]; exact hp) fun i hi hne => ?_, gI_range _ hp, if_pos rfl]
    rw [zq0x, zq42x] at hi
    rw [gI_range _ hi, if_neg (fun z => hne z.symm), zq30x]
theorem true_cmb {p n : Int} {v : List Int} (hv : v.length = n.toNat) : ∀ (cs : List Prs) (fac : List Int), (∀ prs ∈ cs, ∀ pr ∈ prs, 0 <= pr.1 /\ pr.1 < n) -> (∀ prs ∈ cs, p ∣ dueSum prs (v.map some)) -> p ∣ lin (gI v) ((List.range n.toNat).map (cmbF cs fac))
  | [], fac, _, _ => by
    refine ⟨0, ?_⟩
    rw [zq30x]
    refine lin_zero _ _ fun i hi => ?_
    rw [zq0x, zq42x] at hi
    rw [gI_range _ hi]
    show gI v i * 0 = 0
    rw [zq30x]
  | prs :: cs, [], _, _ => by
    refine ⟨0, ?_⟩
    rw [zq30x]
    refine lin_zero _ _ fun i hi => ?_
    rw [zq0x, zq42x] at hi
    rw [gI_range _ hi]
    show gI v i * 0 = 0
    rw [zq30x]
  | prs :: cs, x :: fac, h1, h2 => by
    have e : cmbF (prs :: cs) (x :: fac) = fun j => co prs j * x + cmbF cs fac j := by funext j; rfl
    have hr := h1 prs (zq27x ..)
    rw [e, lin_mapadd, lin_mapmul, lin_co _ _ fun pr hpr => by have := hr pr hpr; omega, <- due_all hv prs hr]
    obtain ⟨a, ha⟩ := h2 prs (zq27x ..)
    obtain ⟨b, hb⟩ := true_cmb hv cs fac (fun q hq => h1 q (zq21x _ hq)) fun q hq => h2 q (zq21x _ hq)
    exact ⟨a * x + b, by rw [ha, hb]; grind⟩
theorem lin_diffR {p : Int} : ∀ (f : Nat -> Int) (r s : List Int), r.length = s.length -> (∀ i < r.length, p ∣ f i * (gI r i - gI s i)) -> p ∣ lin f r - lin f s
  | _, [], [], _, _ => ⟨0, by simp [lin]⟩
  | f, x :: r, y :: s, hl, h => by
    obtain ⟨a, ha⟩ := lin_diffR (fun i => f (i + 1)) r s (by simpa using hl) fun i hi => h (i + 1) (by simpa using hi)
    obtain ⟨b, hb⟩ := h 0 (by simp)
    have hb : f 0 * (x - y) = p * b := hb
    refine ⟨b + a, ?_⟩
    show (f 0 * x + lin _ r) - (f 0 * y + lin _ s) = _
    grind
theorem lin_end : ∀ (f : Nat -> Int) (xs : List Int) (x : Int), lin f (xs ++ [x]) = lin f xs + f xs.length * x
  | f, [], x => by simp [lin]
  | f, y :: ys, x => by
    show f 0 * y + lin _ (ys ++ [x]) = _
    rw [lin_end]
    show _ = f 0 * y + lin _ ys + _
    rw [zq51x]
    omega
theorem nz_due {n : Int} {v r : List Int} (hv : v.length = n.toNat) (hr : r.length = n.toNat) : dueSum (nzP r n.toNat) (v.map some) = lin (gI v) r := by
  rw [due_all (n := n) hv _ fun pr hpr => by
    unfold nzP at hpr
    obtain ⟨k, hk, rfl⟩ := zq7x.mp hpr
    have := zq39x.mp (zq88x.mp hk).1
    dsimp only
    omega]
  have key : ∀ i, i <= n.toNat -> ((nzP r i).map fun pr => gI v pr.1.toNat * pr.2).sum = lin (gI v) (r.take i) := by
    intro i
    induction i with
    | zero => intro _; rfl
    | succ i ih =>
      intro hi
      have e : r[i]? = some r[i] := zq1x (by omega)
      have g : gI r i = r[i] := by unfold gI; rw [zq2x, e]; rfl
      rw [nzP_succ, zq16x, List.sum_append, ih (by omega), take_snoc e, lin_end, zq19x, zq129x (by omega), g]
      by_cases c : r[i] = 0
      · rw [if_neg (by simpa using c), c]
        simp
      · rw [if_pos c]
        simp
  rw [key _ (zq5x _), <- hr, zq53x]
theorem lin_pair {p l : Int} {v r : List Int} {pr : Int × Int} {S : Int} (hp : 0 < p) (hi : pr.1.toNat < r.length) (h : p ∣ lin (gI v) r - l * S) : p ∣ lin (gI v) (r.set pr.1.toNat ((gI r pr.1.toNat + l * pr.2) % p)) - l * (S + gI v pr.1.toNat * pr.2) := by
 rw [lin_set _ _ _ _ hi, zq63x]
 obtain ⟨a, ha⟩ := h
 refine ⟨a - gI v pr.1.toNat * ((gI r pr.1.toNat + l * pr.2) / p), ?_⟩
 grind
end L2
set_option maxRecDepth 100000
set_option maxHeartbeats 4000000
set_option maxRecDepth 100000
set_option maxHeartbeats 4000000
namespace L2
open PySem PySem.Spec PyProof.Rows
abbrev GRow := Int × Addr × List PyData
end L2
set_option maxRecDepth 100000
set_option maxHeartbeats 4000000
set_option maxRecDepth 100000
set_option maxHeartbeats 4000000
namespace L2
open PySem PySem.Spec PyProof.Rows
@[reducible] def trD (t : Int × Int × Int) : PyData := .tuple [.int t.1, .int t.2.1, .int t.2.2]
end L2
set_option maxRecDepth 100000
set_option maxHeartbeats 4000000
namespace L2
open PySem PySem.Spec PyProof.Rows
def brk (p : Int) (cs : List Prs) (ws : List Int) : Nat := cs.countP fun prs => decide (dueSum prs (ws.map some) % p ≠ 0)
end L2
set_option maxRecDepth 100000
set_option maxHeartbeats 4000000
set_option maxRecDepth 100000
set_option maxHeartbeats 4000000
set_option maxRecDepth 100000
set_option maxHeartbeats 4000000
namespace L2
open PySem PySem.Spec PyProof.Rows
abbrev CF := Cu -> List PyData -> (Cu -> Pd) -> Prop
end L2
set_option maxRecDepth 100000
set_option maxHeartbeats 4000000
namespace L2
open PySem PySem.Spec PyProof.Rows
inductive Fl where
 | d (d : PyData) | cu (c : Cu)
abbrev Fs := List (Str × Fl)
end L2
set_option maxRecDepth 100000
set_option maxHeartbeats 4000000
set_option maxRecDepth 100000
set_option maxHeartbeats 4000000
set_option maxRecDepth 100000
set_option maxHeartbeats 4000000
set_option maxRecDepth 100000
set_option maxHeartbeats 4000000
set_option maxRecDepth 100000
set_option maxHeartbeats 4000000
namespace L2
open PySem PySem.Spec PyProof.Rows
inductive Oi where
 | own (b : Addr) | dat (x : PyData)
inductive OO where
 | lst (xs : List Oi) | tup (xs : List Oi) | dic (ks : List (Int × Oi))
abbrev Sto := List (Addr × OO)
end L2
set_option maxRecDepth 100000
set_option maxHeartbeats 4000000
set_option maxRecDepth 100000
set_option maxHeartbeats 4000000
set_option maxRecDepth 100000
set_option maxHeartbeats 4000000
set_option maxRecDepth 100000
set_option maxHeartbeats 4000000
set_option maxRecDepth 100000
set_option maxHeartbeats 4000000
set_option maxRecDepth 100000
set_option maxHeartbeats 4000000
namespace L2
open PySem PySem.Spec PyProof.Rows
theorem cut_mid {α : Type} {xs : List α} {a b : Int} (h0 : 0 <= a) (h1 : a <= b) (h2 : b <= xs.length) : cutA xs (some a) (some b) = (xs.drop a.toNat).take (b - a).toNat := by
 unfold cutA HT.sIx
 show List.take ((if b < 0 then _ else _) - if a < 0 then _ else _) (List.drop (if a < 0 then _ else _) _) = _
 rw [if_neg (by omega), if_neg (by omega), zq129x (by omega), zq129x (by omega)]
 congr 1
 omega
theorem ixN_at {m : Nat} {k : Int} (h0 : 0 <= k) (h1 : k < m) : ixN m k = some k.toNat := by
 unfold ixN
 repeat (first | rw [if_pos (by omega)] | rw [if_neg (by omega)])
theorem dvd_small {p x : Int} (h : p ∣ x) (h0 : 0 <= x) (h1 : x < p) : x = 0 := by
 rcases Int.lt_or_eq_of_le h0 with z | z
 ·have := zq62x z h
  omega
 ·exact z.symm
theorem SNet.take {p n : Int} {cs : List Prs} (h : SNet p n cs) (k : Nat) : SNet p n (cs.take k) := ⟨h.hp, h.p40, h.n0, h.n1, zq31x (List.length_take_le' ..) h.cl, fun q hq => h.ok q (zq86x hq)⟩
def wordsP (p : Nat) : Nat -> List (List Int)
 | 0 => [[]]
 | n + 1 => (List.range p).flatMap fun (a : Nat) => (wordsP p n).map fun w => (a : Int) :: w
theorem wordsP_mem {p : Int} (hp : 0 <= p) : ∀ {n : Nat} {w : List Int}, w ∈ wordsP p.toNat n ↔ RwL p n w
  | 0, w => by
    show w ∈ [[]] ↔ _
    rw [zq17x]
    constructor
    · rintro rfl; exact ⟨rfl, fun x h => by cases h⟩
    · intro h; exact zq102x.mp h.len
  | n + 1, w => by
    show w ∈ List.flatMap _ _ ↔ _
    rw [zq159x]
    constructor
    · rintro ⟨a, ha, hw⟩
      obtain ⟨u, hu, rfl⟩ := zq7x.mp hw
      have h := (wordsP_mem hp).mp hu
      rw [zq39x] at ha
      refine ⟨by rw [zq51x, h.len], fun x hx => ?_⟩
      rcases zq3x.mp hx with z | z
      · omega
      · exact h.rg x z
    · intro h
      cases w with
      | nil => have := h.len; cases this
      | cons x xs =>
        have hx := h.rg x (zq27x ..)
        refine ⟨x.toNat, zq39x.mpr (by omega), zq7x.mpr ⟨xs, (wordsP_mem hp).mpr ⟨?_, fun y hy => h.rg y (zq21x _ hy)⟩, ?_⟩⟩
        · have := h.len; rw [zq51x] at this; omega
        · rw [show ((x.toNat : Nat) : Int) = x by omega]
theorem wordsP_len (p : Nat) : ∀ n, (wordsP p n).length = p ^ n
  | 0 => rfl
  | n + 1 => by
    show (List.flatMap _ _).length = _
    rw [zq160x]
    have : (List.map (fun a => ((wordsP p n).map fun w => ((a : Nat) : Int) :: w).length) (List.range p)) = List.replicate p (p ^ n) := by
      apply zq107x
      · simp
      · intro i h1 h2; simp [wordsP_len p n]
    rw [this, zq179x, zq148x, zq57x]
theorem wordsP_nodup (p : Nat) : ∀ n, (wordsP p n).Nodup
  | 0 => by simp [wordsP]
  | n + 1 => by
    show (List.flatMap _ _).Nodup
    rw [List.Nodup, zq161x]
    refine ⟨fun a _ => ?_, ?_⟩
    · rw [zq72x]
      exact (wordsP_nodup p n).imp fun h z => h (zq115x z).2
    · refine (zq158x (n := p)).imp ?_
      intro a b h x hx y hy z
      obtain ⟨u, _, rfl⟩ := zq7x.mp hx
      obtain ⟨v, _, rfl⟩ := zq7x.mp hy
      have := (zq115x z).1
      omega
theorem inj_len {α β : Type} [DecidableEq β] (f : α -> β) : ∀ (l : List α) (m : List β), l.Nodup -> (∀ x ∈ l, f x ∈ m) -> (∀ x ∈ l, ∀ y ∈ l, f x = f y -> x = y) -> l.length <= m.length
  | [], _, _, _, _ => zq43x _
  | x :: l, m, hn, hm, hi => by
    obtain ⟨h1, h2⟩ := zq55x.mp hn
    have hx := hm x (zq27x ..)
    have ih := inj_len f l (m.erase (f x)) h2 (fun y hy => (List.mem_erase_of_ne (fun z => h1 (by
      rw [<- hi y (zq21x _ hy) x (zq27x ..) z]; exact hy))).mpr (hm y (zq21x _ hy))) fun y hy z hz => hi y (zq21x _ hy) z (zq21x _ hz)
    rw [List.length_erase_of_mem hx] at ih
    have := List.length_pos_of_mem hx
    rw [zq51x]
    omega
noncomputable def selW (p n : Nat) (V : List Int -> Prop) : List (List Int) := (wordsP p n).filter fun w => @decide (V w) (Classical.propDecidable _)
theorem selW_mem {p : Int} {n : Nat} {V : List Int -> Prop} (hp : 0 <= p) {w : List Int} : w ∈ selW p.toNat n V ↔ RwL p n w /\ V w := by
 unfold selW
 simp only [zq88x, wordsP_mem hp, decide_eq_true_eq]
theorem selW_nodup {p n : Nat} {V : List Int -> Prop} : (selW p n V).Nodup := (wordsP_nodup p n).filter _
def Rk (p : Int) (n : Nat) (V : List Int -> Prop) (k : Nat) : Prop := (selW p.toNat n V).length * p.toNat ^ k = p.toNat ^ n
section
variable {p : Int} {n k k' : Nat} {V V' : List Int -> Prop} {R : List (List Int)} {r : List Int}
theorem Rk.congr (h : Rk p n V k) (hp : 0 <= p) (e : ∀ w, RwL p n w -> (V w ↔ V' w)) : Rk p n V' k := by
 have : selW p.toNat n V = selW p.toNat n V' := by
  unfold selW
  refine List.filter_congr fun w hw => ?_
  rw [decide_eq_decide]
  exact e w ((wordsP_mem hp).mp hw)
 unfold Rk at h ⊢
 rw [<- this]; exact h
theorem Rk.uniq (h : Rk p n V k) (h' : Rk p n V k') (hp : 2 <= p) : k = k' := by
 unfold Rk at h h'
 have e := h.trans h'.symm
 have h0 : 0 < (selW p.toNat n V).length := by
  rcases Nat.eq_zero_or_pos (selW p.toNat n V).length with z | z
  ·rw [z, zq122x] at h
   have : 0 < p.toNat ^ n := Nat.pow_pos (by omega)
   omega
  ·exact z
 have e2 := Nat.eq_of_mul_eq_mul_left h0 e
 have h1 := (zq180x (a := p.toNat) (by omega)).mp (zq142x e2)
 have h2 := (zq180x (a := p.toNat) (by omega)).mp (zq142x e2.symm)
 omega
theorem Rk.all : Rk p n (fun _ => True) 0 := by
 have : selW p.toNat n (fun _ => True) = wordsP p.toNat n := by
  unfold selW
  exact List.filter_eq_self.mpr fun w _ => by simp
 unfold Rk
 rw [this, wordsP_len, zq151x, zq121x]
def addW (p : Int) (w : List Int) (a : Int) (v : List Int) : List Int := List.zipWith (fun x y => (x + a * y) % p) w v
theorem RwL.add {w v : List Int} {a : Int} (h : RwL p n w) (h2 : RwL p n v) (hp : 0 < p) : RwL p n (addW p w a v) := by
 refine ⟨by unfold addW; rw [zq85x, h.len, h2.len, Nat.min_self], fun x hx => ?_⟩
 unfold addW at hx
 obtain ⟨i, hi⟩ := zq34x hx
 rw [zq106x] at hi
 cases e1 : w[i]? <;> cases e2 : v[i]? <;> rw [e1, e2] at hi <;> simp at hi
 subst hi
 exact ⟨zq24x _ (by omega), zq28x _ hp⟩
theorem gI_out {r : List Int} {i : Nat} (h : r.length <= i) : gI r i = 0 := by
 unfold gI; rw [zq2x, zq60x h]; rfl
theorem gI_add {w v : List Int} {a : Int} (h : RwL p n w) (h2 : RwL p n v) (i : Nat) : gI (addW p w a v) i = (gI w i + a * gI v i) % p := by
 by_cases c : i < n
 ·unfold gI addW
  rw [zq2x, zq106x, zq2x, zq2x, zq1x (show i < w.length by rw [h.len]; exact c), zq1x (show i < v.length by rw [h2.len]; exact c)]
  rfl
 ·rw [gI_out (by unfold addW; rw [zq85x, h.len, h2.len, Nat.min_self]; omega), gI_out (by rw [h.len]; omega), gI_out (by rw [h2.len]; omega), zq30x, zq110x, zq108x]
theorem lin_modf : ∀ (r : List Int) (f g : Nat -> Int), (∀ i, p ∣ f i - g i) -> p ∣ lin f r - lin g r
  | [], _, _, _ => ⟨0, by simp [lin]⟩
  | x :: xs, f, g, h => by
    obtain ⟨a, ha⟩ := lin_modf xs (fun i => f (i + 1)) (fun i => g (i + 1)) fun i => h (i + 1)
    obtain ⟨b, hb⟩ := h 0
    refine ⟨b * x + a, ?_⟩
    show (f 0 * x + lin _ xs) - (g 0 * x + lin _ xs) = _
    have e : f 0 = g 0 + p * b := by omega
    rw [e]
    grind
theorem lin_smul (a : Int) : ∀ (f : Nat -> Int) (r : List Int), lin (fun i => a * f i) r = a * lin f r
  | _, [] => by simp [lin]
  | f, x :: xs => by
    show a * f 0 * x + lin (fun i => a * f (i + 1)) xs = a * (f 0 * x + lin _ xs)
    rw [lin_smul a (fun i => f (i + 1)) xs]
    grind
theorem lin_addW {w v : List Int} {a : Int} (h : RwL p n w) (h2 : RwL p n v) (r : List Int) : p ∣ lin (gI (addW p w a v)) r - (lin (gI w) r + a * lin (gI v) r) := by
 rw [<- lin_smul, <- lin_add]
 refine lin_modf r _ _ fun i => ?_
 rw [gI_add h h2, zq63x]
 exact ⟨-((gI w i + a * gI v i) / p), by grind⟩
theorem addW_back {w v : List Int} {a b : Int} (h : RwL p n w) (h2 : RwL p n v) (hp : 0 < p) (e : a + b = 0) : addW p (addW p w a v) b v = w := by
 have h3 := h.add (a := a) h2 hp
 have h4 := h3.add (a := b) h2 hp
 apply zq107x
 ·rw [h4.len, h.len]
 ·intro i g1 g2
  have hi : i < n := by rw [h.len] at g2; exact g2
  have e1 := gI_add (a := b) h3 h2 i
  rw [gI_add h h2] at e1
  have e2 : gI (addW p (addW p w a v) b v) i = (addW p (addW p w a v) b v)[i] := by unfold gI; rw [zq2x, zq1x g1]; rfl
  have e3 : gI w i = w[i] := by unfold gI; rw [zq2x, zq1x g2]; rfl
  rw [<- e2, e1, <- e3, Int.emod_add_emod, Int.add_assoc, <- Int.add_mul, e, zq45x, zq110x]
  have := h.g (i := i) hp
  exact zq71x this.1 this.2
def LnV (p : Int) (n : Nat) (V : List Int -> Prop) : Prop := ∀ w v a, RwL p n w -> RwL p n v -> V w -> V v -> V (addW p w a v)
theorem Rk.skip (h : Rk p n V k) (hp : 0 <= p) (hz : ∀ w, RwL p n w -> V w -> p ∣ lin (gI w) r) : Rk p n (fun w => V w /\ p ∣ lin (gI w) r) k :=
 h.congr hp fun w hw => ⟨fun v => ⟨v, hz w hw v⟩, fun v => v.1⟩
theorem Rk.step (h : Rk p n V k) (hp : PrimeZ p) (hV : LnV p n V) {v0 : List Int} (hv0 : RwL p n v0) (hVv : V v0) (hne : ¬ p ∣ lin (gI v0) r) : Rk p n (fun w => V w /\ p ∣ lin (gI w) r) (k + 1) := by
 have p2 := hp.1
 have hp0 : 0 < p := by omega
 obtain ⟨v1, hv1, hVv1, m1, e1⟩ : ∃ v1, RwL p n v1 /\ V v1 /\ ∃ m, lin (gI v1) r = 1 + p * m := by
  obtain ⟨j, hj⟩ := sol_ok (p := p) (b := lin (gI v0) r) (a := 1) hp (fun z => hne (zq181x z))
  refine ⟨addW p v0 (sol p (lin (gI v0) r) 1 - 1) v0, hv0.add hv0 hp0, hV _ _ _ hv0 hv0 hVv hVv, ?_⟩
  obtain ⟨t, ht⟩ := lin_addW (a := sol p (lin (gI v0) r) 1 - 1) hv0 hv0 r
  exact ⟨t + j, by grind⟩
 have hB : ∀ w, RwL p n w -> V w -> ∀ a, p ∣ lin (gI w) r + a -> (V (addW p w a v1) /\ p ∣ lin (gI (addW p w a v1)) r) := fun w hw hVw a ha => by
  refine ⟨hV _ _ _ hw hv1 hVw hVv1, ?_⟩
  obtain ⟨t, ht⟩ := lin_addW (a := a) hw hv1 r
  obtain ⟨s, hs⟩ := ha
  exact ⟨t + s + a * m1, by rw [e1] at ht; grind⟩
 obtain ⟨Pr, ePr⟩ : ∃ Pr : List (Nat × List Int), Pr = (List.range p.toNat).flatMap fun a => (selW p.toNat n fun w => V w /\ p ∣ lin (gI w) r).map fun w => (a, w) := ⟨_, rfl⟩
 have hPm : ∀ q, q ∈ Pr ↔ q.1 < p.toNat /\ q.2 ∈ selW p.toNat n fun w => V w /\ p ∣ lin (gI w) r := fun q => by
  rw [ePr, zq159x]
  constructor
  ·rintro ⟨a, ha, hq⟩
   obtain ⟨w, hw, rfl⟩ := zq7x.mp hq
   exact ⟨zq39x.mp ha, hw⟩
  ·rintro ⟨ha, hw⟩
   exact ⟨q.1, zq39x.mpr ha, zq7x.mpr ⟨q.2, hw, rfl⟩⟩
 have hPl : Pr.length = p.toNat * (selW p.toNat n fun w => V w /\ p ∣ lin (gI w) r).length := by
  rw [ePr, zq160x]
  have : (List.map (fun a => ((selW p.toNat n fun w => V w /\ p ∣ lin (gI w) r).map fun w => ((a : Nat), w)).length) (List.range p.toNat)) = List.replicate p.toNat (selW p.toNat n fun w => V w /\ p ∣ lin (gI w) r).length := by
   apply zq107x
   ·simp
   ·intro i h1 h2; simp
  rw [this, zq179x]
 have hPn : Pr.Nodup := by
  rw [ePr, List.Nodup, zq161x]
  refine ⟨fun a _ => ?_, ?_⟩
  ·rw [zq72x]
   exact selW_nodup.imp fun h z => h (zq80x z).2
  ·refine (zq158x (n := p.toNat)).imp ?_
   intro a b h x hx y hy z
   obtain ⟨u, _, rfl⟩ := zq7x.mp hx
   obtain ⟨v, _, rfl⟩ := zq7x.mp hy
   exact h (zq80x z).1
 have key : ∀ w, RwL p n w -> addW p (addW p w (-(lin (gI w) r % p)) v1) (lin (gI w) r % p) v1 = w := fun w hw => addW_back hw hv1 hp0 (by omega)
 have le1 : (selW p.toNat n V).length <= Pr.length := by
  refine inj_len (fun w => ((lin (gI w) r % p).toNat, addW p w (-(lin (gI w) r % p)) v1)) _ _ selW_nodup (fun w hw => ?_) fun w hw u hu e => ?_
  ·obtain ⟨hw, hVw⟩ := (selW_mem (by omega)).mp hw
   have m0 := zq24x (lin (gI w) r) (show p ≠ 0 by omega)
   have m1 := zq28x (lin (gI w) r) hp0
   rw [hPm]
   refine ⟨by show (lin (gI w) r % p).toNat < p.toNat; omega, (selW_mem (by omega)).mpr ⟨hw.add hv1 hp0, hB w hw hVw _ ?_⟩⟩
   rw [zq63x]
   exact ⟨lin (gI w) r / p, by omega⟩
  ·obtain ⟨hw, hVw⟩ := (selW_mem (by omega)).mp hw
   obtain ⟨hu, hVu⟩ := (selW_mem (by omega)).mp hu
   obtain ⟨f1, f2⟩ := zq80x e
   have a0 := zq24x (lin (gI w) r) (show p ≠ 0 by omega)
   have b0 := zq24x (lin (gI u) r) (show p ≠ 0 by omega)
   have f3 : lin (gI w) r % p = lin (gI u) r % p := by omega
   rw [<- key w hw, <- key u hu, f2, f3]
 have le2 : Pr.length <= (selW p.toNat n V).length := by
  refine inj_len (fun q : Nat × List Int => addW p q.2 q.1 v1) _ _ hPn (fun q hq => ?_) fun q hq q' hq' e => ?_
  ·obtain ⟨_, hw⟩ := (hPm q).mp hq
   obtain ⟨hw, hVw, _⟩ := (selW_mem (by omega)).mp hw
   exact (selW_mem (by omega)).mpr ⟨hw.add hv1 hp0, hV _ _ _ hw hv1 hVw hVv1⟩
  ·obtain ⟨ha, hw⟩ := (hPm q).mp hq
   obtain ⟨hw, hVw, s, hs⟩ := (selW_mem (by omega)).mp hw
   obtain ⟨ha', hw'⟩ := (hPm q').mp hq'
   obtain ⟨hw', hVw', s', hs'⟩ := (selW_mem (by omega)).mp hw'
   obtain ⟨t, ht⟩ := lin_addW (a := q.1) hw hv1 r
   obtain ⟨t', ht'⟩ := lin_addW (a := q'.1) hw' hv1 r
   have e : addW p q.2 q.1 v1 = addW p q'.2 q'.1 v1 := e
   rw [e] at ht
   have hd : p ∣ (q.1 : Int) - q'.1 := ⟨t' - t - s + s' + (q'.1 : Int) * m1 - (q.1 : Int) * m1, by rw [e1] at ht ht'; grind⟩
   have ea : q.1 = q'.1 := by
    rcases Nat.lt_trichotomy q.1 q'.1 with z | z | z
    ·have := zq62x (a := p) (b := (q'.1 : Int) - q.1) (by omega) (by have := Int.dvd_neg.mpr hd; rwa [Int.neg_sub] at this)
     omega
    ·exact z
    ·have := zq62x (a := p) (b := (q.1 : Int) - q'.1) (by omega) hd
     omega
   have ew : q.2 = q'.2 := by
    rw [<- addW_back (a := q.1) (b := -(q.1 : Int)) hw hv1 hp0 (by omega), e, ea, addW_back hw' hv1 hp0 (by omega)]
   exact Prod.ext ea ew
 unfold Rk at h ⊢
 have : (selW p.toNat n V).length = p.toNat * (selW p.toNat n fun w => V w /\ p ∣ lin (gI w) r).length := by omega
 rw [this] at h
 rw [<- h, zq148x]
 generalize (selW p.toNat n fun w => V w /\ p ∣ lin (gI w) r).length = L
 generalize p.toNat ^ k = M
 rw [zq57x M, <- zq69x, zq57x L]
def VR (p : Int) (R : List (List Int)) (w : List Int) : Prop := ∀ r ∈ R, p ∣ lin (gI w) r
theorem VR.ln : LnV p n (VR p R) := fun w v a hw hv h1 h2 r hr => by
 obtain ⟨t, ht⟩ := lin_addW (a := a) hw hv r
 obtain ⟨x, hx⟩ := h1 r hr
 obtain ⟨y, hy⟩ := h2 r hr
 exact ⟨t + x + a * y, by rw [hx, hy] at ht; grind⟩
theorem VR.cons_iff {w : List Int} : VR p (r :: R) w ↔ VR p R w /\ p ∣ lin (gI w) r :=
 ⟨fun h => ⟨fun s hs => h s (zq21x _ hs), h r (zq27x ..)⟩, fun h s hs => (zq3x.mp hs).elim (fun e => e ▸ h.2) (h.1 s)⟩
theorem VR.nil {w : List Int} : VR p [] w := fun _ h => nomatch h
def unW (n pl : Nat) : List Int := (List.range n).map fun i => if i = pl then 1 else 0
theorem unW_ok {pl : Nat} (hp : 2 <= p) : RwL p n (unW n pl) := by
 refine ⟨by unfold unW; rw [zq0x, zq42x], fun x hx => ?_⟩
 obtain ⟨i, _, rfl⟩ := zq7x.mp hx
 split <;> omega
theorem unW_g {pl : Nat} (hpl : pl < n) (i : Nat) : gI (unW n pl) i = if i = pl then 1 else 0 := by
 by_cases c : i < n
 ·exact gI_range (fun i => if i = pl then 1 else 0) c
 ·rw [gI_out (by unfold unW; rw [zq0x, zq42x]; omega), if_neg (by omega)]
theorem lin_un {pl : Nat} (hpl : pl < n) (r : List Int) : lin (gI (unW n pl)) r = gI r pl := by
 by_cases c : pl < r.length
 ·rw [lin_one _ r pl c fun i _ hne => by rw [unW_g hpl, if_neg hne, zq45x], unW_g hpl, if_pos rfl, zq91x]
 ·rw [gI_out (by omega)]
  exact lin_zero _ r fun i hi => by rw [unW_g hpl, if_neg (by omega), zq45x]
theorem Rk.tri (hp : PrimeZ p) : ∀ (L : List (List Int × Nat)), (∀ q ∈ L, q.2 < n /\ ¬ p ∣ gI q.1 q.2) -> L.Pairwise (fun a b => p ∣ gI b.1 a.2) -> Rk p n (VR p (L.map (·.1))) L.length
  | [], _, _ => (Rk.all (p := p) (n := n)).congr (by have := hp.1; omega) fun w _ => ⟨fun _ => VR.nil, fun _ => trivial⟩
  | q :: L, h, hl => by
    rw [List.pairwise_cons] at hl
    obtain ⟨h1, h2⟩ := h q (zq27x ..)
    have ih := Rk.tri hp L (fun x hx => h x (zq21x _ hx)) hl.2
    refine (ih.step hp VR.ln (r := q.1) (unW_ok (pl := q.2) hp.1) (fun r hr => ?_) (by rw [lin_un h1]; exact h2)).congr (by have := hp.1; omega) fun w _ => VR.cons_iff.symm
    obtain ⟨x, hx, rfl⟩ := zq7x.mp hr
    rw [lin_un h1]
    exact hl.1 x hx
end
theorem lin_row {p a : Int} : ∀ (f : Nat -> Int) (r' r o : List Int), r'.length = r.length -> o.length = r.length -> (∀ i < r.length, p ∣ gI r' i - (gI r i + a * gI o i)) -> p ∣ lin f r' - (lin f r + a * lin f o)
  | _, [], [], [], _, _, _ => ⟨0, by simp [lin]⟩
  | f, x :: xs, y :: ys, z :: zs, h1, h2, h => by
    obtain ⟨s, hs⟩ := lin_row (fun i => f (i + 1)) xs ys zs (by simpa using h1) (by simpa using h2) fun i hi => h (i + 1) (by simpa using hi)
    obtain ⟨t, ht⟩ := h 0 (by simp)
    have ht : x - (y + a * z) = p * t := ht
    refine ⟨f 0 * t + s, ?_⟩
    show (f 0 * x + lin _ xs) - ((f 0 * y + lin _ ys) + a * (f 0 * z + lin _ zs)) = _
    grind
theorem VR.set {p a : Int} {n i o : Nat} {R : List (List Int)} {r' : List Int} {w : List Int} (hR : RwsL p n R) (hr : r'.length = n) (hi : i < R.length) (ho : o < R.length) (hne : i ≠ o) (h : ∀ k < n, p ∣ gI r' k - (gI (R.getD i []) k + a * gI (R.getD o []) k)) : VR p (R.set i r') w ↔ VR p R w := by
 have hil := (hR _ (zq29x hi)).len
 have hol := (hR _ (zq29x ho)).len
 rw [gRow hi, gRow ho] at h
 have key := lin_row (gI w) r' R[i] R[o] (by omega) (by omega) fun k hk => h k (by omega)
 obtain ⟨t, ht⟩ := key
 have hom : R[o] ∈ R.set i r' := by
  have : (R.set i r')[o]? = some R[o] := by rw [zq6x hne, zq1x ho]
  exact zq4x this
 have him : r' ∈ R.set i r' := by
  have : (R.set i r')[i]? = some r' := zq18x hi
  exact zq4x this
 constructor
 ·intro hV r hr
  obtain ⟨j, hj⟩ := zq34x hr
  by_cases c : i = j
  ·subst c
   rw [zq1x hi] at hj
   cases hj
   obtain ⟨x, hx⟩ := hV _ him
   obtain ⟨y, hy⟩ := hV _ hom
   exact ⟨x - t - a * y, by rw [hx, hy] at ht; grind⟩
  ·have : (R.set i r')[j]? = some r := by rw [zq6x c]; exact hj
   exact hV r (zq4x this)
 ·intro hV r hr
  rcases zq109x hr with z | z
  ·exact hV r z
  ·subst z
   obtain ⟨x, hx⟩ := hV _ (zq29x hi)
   obtain ⟨y, hy⟩ := hV _ (zq29x ho)
   exact ⟨t + x + a * y, by rw [hx, hy] at ht; grind⟩
def VN (p : Int) (cs : List Prs) (w : List Int) : Prop := ∀ q ∈ cs, p ∣ dueSum q (w.map some)
section
variable {p n : Int} {cs : List Prs} {R : List (List Int)} {T : List (Nat × Nat)} {k : Nat}
theorem rowS_due {prs : Prs} {w : List Int} {m c : Nat} (hw : w.length = n.toNat) (n0 : 0 <= n) (hn : (prs.map (·.1)).Nodup) (h : ∀ pr ∈ prs, 0 <= pr.1 /\ pr.1 < n) (hc : c < m) : lin (gI w) (rowS n.toNat m c prs) = dueSum prs (w.map some) := by
 rw [rowS_lin (gI w) hn h n0 hc, due_all hw prs h, gI_out (by omega), zq110x]
theorem VN.rows (hN : SNet p n cs) {w : List Int} (hw : w.length = n.toNat) : VR p (rowsS n.toNat cs.length cs) w ↔ VN p cs w := by
 have n0 := hN.n0
 constructor
 ·intro h q hq
  obtain ⟨c, hc⟩ := zq34x hq
  obtain ⟨g1, g2, g3⟩ := hN.ok q hq
  have := h _ (rowsS_get (n := n) (m := cs.length) hc)
  rwa [rowS_due hw (by omega) g1 (fun pr hpr => ⟨(g3 pr hpr).1, (g3 pr hpr).2.1⟩) (zq8x.mp hc).1] at this
 ·intro h r hr
  obtain ⟨c, prs, e, rfl⟩ := rowsS_at hr
  obtain ⟨g1, g2, g3⟩ := hN.ok prs (zq4x e)
  rw [rowS_due hw (by omega) g1 (fun pr hpr => ⟨(g3 pr hpr).1, (g3 pr hpr).2.1⟩) (zq8x.mp e).1]
  exact h prs (zq4x e)
theorem VN.ln (hN : ∀ q ∈ cs, ∀ pr ∈ q, 0 <= pr.1 /\ pr.1 < n) : LnV p n.toNat (VN p cs) := fun w v a hw hv h1 h2 q hq => by
 by_cases hp : 0 < p
 ·have e := fun (u : List Int) (hu : RwL p n.toNat u) => due_all hu.len q (hN q hq)
  have z : ∀ u : List Int, (q.map fun pr => gI u pr.1.toNat * pr.2).sum = lin (gI u) ((List.range n.toNat).map (co q)) := fun u => (lin_co (gI u) q fun pr hpr => by have := hN q hq pr hpr; omega).symm
  rw [e _ (hw.add hv hp), z]
  obtain ⟨t, ht⟩ := lin_addW (a := a) hw hv ((List.range n.toNat).map (co q))
  obtain ⟨x, hx⟩ := h1 q hq
  obtain ⟨y, hy⟩ := h2 q hq
  rw [e _ hw, z] at hx
  rw [e _ hv, z] at hy
  exact ⟨t + x + a * y, by rw [hx, hy] at ht; grind⟩
 ·have h0 : p = 0 \/ p < 0 := by omega
  have : ∀ u : List Int, RwL p n.toNat u -> u = [] := fun u hu => by
   cases u with
   | nil => rfl
   | cons x xs => have := hu.rg x (zq27x ..); omega
  rw [this w hw] at h1 ⊢
  exact h1 q hq
theorem SwI.rank (hN : SNet p n cs) (hS : SwI p (n.toNat + cs.length) (rowsS n.toNat cs.length cs) R T (List.range n.toNat)) : Rk p n.toNat (VN p cs) T.length := by
 have p2 := hN.hp.1
 have h1 := Rk.tri (p := p) (n := n.toNat) hN.hp (T.map fun q => (R.getD q.1 [], q.2)) (fun x hx => by
  obtain ⟨q, hq, rfl⟩ := zq7x.mp hx
  obtain ⟨g1, g2⟩ := hS.rg q hq
  refine ⟨zq39x.mp g2, ?_⟩
  show ¬ p ∣ gI (R.getD q.1 []) q.2
  rw [hS.one q hq q.1 g1, if_pos rfl]
  intro z
  have := zq62x (by decide) z
  omega) (by
  rw [zq72x]
  have hnd := hS.nd
  rw [List.Nodup, zq72x] at hnd
  refine List.Pairwise.imp_of_mem (fun {a b} ha hb hne => ?_) hnd
  show p ∣ gI (R.getD b.1 []) a.2
  rw [hS.one a ha b.1 (hS.rg b hb).1, if_neg (fun z => hne z.symm)]
  exact ⟨0, by omega⟩)
 rw [zq0x] at h1
 refine h1.congr (by omega) fun w hw => ?_
 rw [<- VN.rows hN hw.len]
 refine Iff.trans ?_ (hS.sp (gI w)).symm
 constructor
 ·intro h r hr
  obtain ⟨i, hi⟩ := zq34x hr
  have hil := (zq8x.mp hi).1
  have hg : R.getD i [] = r := by rw [zq2x, hi]; rfl
  by_cases c : i ∈ T.map (·.1)
  ·obtain ⟨q, hq, rfl⟩ := zq7x.mp c
   exact h r (zq7x.mpr ⟨(R.getD q.1 [], q.2), zq7x.mpr ⟨q, hq, rfl⟩, hg⟩)
  ·refine ⟨0, ?_⟩
   rw [zq30x]
   refine lin_zero _ r fun j hj => ?_
   by_cases cj : j < n.toNat
   ·have := hS.zero i hil c j (zq39x.mpr cj)
    rw [hg] at this
    rw [this, zq30x]
   ·rw [gI_out (by rw [hw.len]; omega), zq45x]
 ·intro h r hr
  obtain ⟨x, hx, rfl⟩ := zq7x.mp hr
  obtain ⟨q, hq, rfl⟩ := zq7x.mp hx
  have := (hS.rg q hq).1
  refine h _ ?_
  show R.getD q.1 [] ∈ R
  rw [gRow this]
  exact zq29x _
end
def LastC (w : Nat) (R : List (List Int)) (T : List (Nat × Nat)) : Prop := ∀ i < R.length, i ∉ T.map (·.1) -> gI (R.getD i []) (w - 1) = if i + 1 = R.length then 1 else 0
theorem LastC.take {p inv : Int} {w k d : Nat} {R R0 : List (List Int)} {T : List (Nat × Nat)} {D : List Nat} (h : LastC w R T) (hS : SwI p w R0 R T D) (hp : 1 < p) (hw : 0 < w) (hk : k < R.length) (hkT : k ∉ T.map (·.1)) (hfst : ∀ i < k, i ∉ T.map (·.1) -> gI (R.getD i []) d = 0) : LastC w (clearR p inv R k d) (T ++ [(k, d)]) := by
 intro i hi hn
 rw [clearR_len] at hi ⊢
 rw [zq16x, zq22x, not_or] at hn
 have hik : i ≠ k := fun y => hn.2 (by rw [y]; simp)
 have h1 := h i hi hn.1
 have h2 := h k hk hkT
 rw [clearR_g hS.ok (by omega) hk hi (by omega), if_neg hik]
 have hr : RwL p w (R.getD i []) := by rw [gRow hi]; exact hS.ok _ (zq29x hi)
 have hb := hr.g (i := w - 1) (by omega)
 have e : gI (R.getD i []) d * (inv * gI (R.getD k []) (w - 1) % p) = 0 := by
  by_cases c : k + 1 = R.length
  ·rw [hfst i (by omega) hn.1, zq45x]
  ·rw [h2, if_neg c, zq30x, zq108x, zq30x]
 rw [e, zq104x, zq71x hb.1 hb.2, h1]
theorem rowS_last {p n : Int} {cs : List Prs} (hN : SNet p n cs) : LastC (n.toNat + cs.length) (rowsS n.toNat cs.length cs) [] := by
 intro i hi _
 rw [rowsS_len] at hi ⊢
 have n0 := hN.n0
 have hc : cs[i]? = some cs[i] := zq1x hi
 obtain ⟨g1, g2, g3⟩ := hN.ok _ (zq4x hc)
 have e : (rowsS n.toNat cs.length cs).getD i [] = rowS n.toNat cs.length i cs[i] := by
  unfold rowsS
  rw [zq2x, zq10x, zq157x, hc]
  simp
 rw [e]
 unfold rowS
 rw [gI_set (by rw [setP_len, zq56x]; omega), setP_g _ _ _ fun pr hpr => by have := g3 pr hpr; omega, gI_nought]
 by_cases c : i + 1 = cs.length
 ·rw [if_pos (by omega), if_pos c]
 ·rw [if_neg (by omega), if_neg c]
section
variable {p n : Int} {cs : List Prs} {R : List (List Int)} {T : List (Nat × Nat)} {k : Nat} {prs : Prs}
theorem last_none (hN : SNet p n (cs ++ [prs])) (hS : SwI p (n.toNat + (cs ++ [prs]).length) (rowsS n.toNat (cs ++ [prs]).length (cs ++ [prs])) R T (List.range n.toNat)) (hL : LastC (n.toNat + (cs ++ [prs]).length) R T) (hT : cs.length ∈ T.map (·.1)) :
    ∃ w, RwL p n.toNat w /\ VN p cs w /\ p ∣ dueSum prs (w.map some) + 1 := by
  have p2 := hN.hp.1
  have n0 := hN.n0
  have hm : (cs ++ [prs]).length = cs.length + 1 := by simp
  obtain ⟨m, em⟩ : ∃ m, m = (cs ++ [prs]).length := ⟨_, rfl⟩
  rw [<- em] at hS hL hm
  have hRl : R.length = m := by rw [hS.len, rowsS_len, <- em]
  obtain ⟨w, ew⟩ : ∃ w : List Int, w = (List.range n.toNat).map fun j => match T.find? (fun q => q.2 == j) with | some q => (-(gI (R.getD q.1 []) (n.toNat + cs.length))) % p | none => 0 := ⟨_, rfl⟩
  have hw : RwL p n.toNat w := by
    rw [ew]
    refine ⟨by rw [zq0x, zq42x], fun x hx => ?_⟩
    obtain ⟨j, _, rfl⟩ := zq7x.mp hx
    split
    · exact ⟨zq24x _ (by omega), zq28x _ (by omega)⟩
    · omega
  have hwq : ∀ q ∈ T, gI w q.2 = (-(gI (R.getD q.1 []) (n.toNat + cs.length))) % p := fun q hq => by
    rw [ew, gI_range _ (zq39x.mp (hS.rg q hq).2)]
    cases e : T.find? (fun z => z.2 == q.2) with
    | none => have := List.find?_eq_none.mp e q hq; simp at this
    | some z =>
      have hz := zq182x e
      have he : z.2 = q.2 := by simpa using List.find?_some e
      show (-(gI (R.getD z.1 []) _)) % p = _
      rw [hS.inj hz hq he]
  have hw0 : ∀ j, (∀ q ∈ T, q.2 ≠ j) -> gI w j = 0 := fun j hj => by
    by_cases c : j < n.toNat
    · rw [ew, gI_range _ c]
      cases e : T.find? (fun z => z.2 == j) with
      | none => rfl
      | some z => exact absurd (by simpa using List.find?_some e) (hj z (zq182x e))
    · exact gI_out (by rw [hw.len]; omega)
  obtain ⟨f, ef⟩ : ∃ f : Nat -> Int, ∀ i, f i = gI w i + if i = n.toNat + cs.length then 1 else 0 := ⟨_, fun _ => rfl⟩
  have efl : ∀ r : List Int, n.toNat + cs.length < r.length -> lin f r = lin (gI w) r + gI r (n.toNat + cs.length) := fun r hr => by
    have e1 : f = fun i => gI w i + (fun i => if i = n.toNat + cs.length then (1 : Int) else 0) i := by funext i; exact ef i
    rw [e1, lin_add, lin_one (fun i => if i = n.toNat + cs.length then (1 : Int) else 0) r (n.toNat + cs.length) hr fun i _ hne => by rw [if_neg hne, zq45x], if_pos rfl, zq91x]
  have hall : ∀ r ∈ R, p ∣ lin f r := fun r hr => by
    obtain ⟨i, hi⟩ := zq34x hr
    have hil := (zq8x.mp hi).1
    have hg : R.getD i [] = r := by rw [zq2x, hi]; rfl
    have hrl := (hS.ok r hr).len
    rw [efl r (by omega)]
    by_cases c : i ∈ T.map (·.1)
    · obtain ⟨q, hq, rfl⟩ := zq7x.mp c
      have hq2 := zq39x.mp (hS.rg q hq).2
      have h1 := hS.one q hq q.1 hil
      rw [if_pos rfl, hg] at h1
      rw [lin_one (gI w) r q.2 (by omega) fun j hj hne => ?_, h1, zq112x, hwq q hq, hg, zq63x]
      · exact ⟨-(-(gI r (n.toNat + cs.length)) / p), by grind⟩
      · by_cases ct : ∃ q' ∈ T, q'.2 = j
        · obtain ⟨q', hq', rfl⟩ := ct
          have h2 := hS.one q' hq' q.1 hil
          rw [hg] at h2
          have : q.1 ≠ q'.1 := fun z => by
            rw [if_pos z] at h2
            have h3 := hS.nd
            have key : ∀ (T : List (Nat × Nat)), (T.map (·.1)).Nodup -> ∀ a b : Nat × Nat, a ∈ T -> b ∈ T -> a.1 = b.1 -> a = b := by
              intro T
              induction T with
              | nil => intro _ a b ha; cases ha
              | cons t T ih =>
                intro hn a b ha hb e
                rw [zq9x, zq55x] at hn
                rcases zq3x.mp ha with y | y <;> rcases zq3x.mp hb with y2 | y2
                · rw [y, y2]
                · exact absurd (zq7x.mpr ⟨b, y2, by rw [<- e, y]⟩) hn.1
                · exact absurd (zq7x.mpr ⟨a, y, by rw [e, y2]⟩) hn.1
                · exact ih hn.2 a b y y2 e
            exact hne (congrArg Prod.snd (key T h3 q' q hq' hq z.symm))
          rw [h2, if_neg this, zq30x]
        · rw [hw0 j fun q' hq' e => ct ⟨q', hq', e⟩, zq45x]
    · have h4 := hL i hil c
      rw [hg, if_neg (fun z => c (by rw [show i = cs.length by omega]; exact hT)), show n.toNat + m - 1 = n.toNat + cs.length by omega] at h4
      rw [h4, zq110x]
      refine ⟨0, ?_⟩
      rw [zq30x]
      refine lin_zero _ r fun j hj => ?_
      by_cases cj : j < n.toNat
      · have := hS.zero i hil c j (zq39x.mpr cj)
        rw [hg] at this
        rw [this, zq30x]
      · rw [gI_out (by rw [hw.len]; omega), zq45x]
  have hback := (hS.sp f).mpr hall
  have atc : ∀ (c : Nat) q, (cs ++ [prs])[c]? = some q -> p ∣ dueSum q (w.map some) + if c = cs.length then 1 else 0 := fun c q hc => by
    have hcl := (zq8x.mp hc).1
    obtain ⟨g1, g2, g3⟩ := hN.ok q (zq4x hc)
    have hpr : ∀ pr ∈ q, 0 <= pr.1 /\ pr.1 < n := fun pr hpr => ⟨(g3 pr hpr).1, (g3 pr hpr).2.1⟩
    have := hback _ (rowsS_get (n := n) (m := m) hc)
    rw [efl _ (by have := (rowS_ok (p := p) (n := n) (m := m) (c := c) (prs := q) (by omega) fun pr hpr => (g3 pr hpr).2.2).len; omega), rowS_due hw.len (by omega) g1 hpr (by omega)] at this
    have e2 : gI (rowS n.toNat m c q) (n.toNat + cs.length) = if c = cs.length then 1 else 0 := by
      unfold rowS
      rw [gI_set (by rw [setP_len, zq56x]; omega), setP_g _ _ _ fun pr hp' => by have := hpr pr hp'; omega, gI_nought]
      by_cases cc : c = cs.length
      · rw [if_pos (by omega), if_pos cc]
      · rw [if_neg (by omega), if_neg cc]
    rw [e2] at this
    exact this
  refine ⟨w, hw, fun q hq => ?_, ?_⟩
  · obtain ⟨c, hc⟩ := zq34x hq
    have hcl := (zq8x.mp hc).1
    have := atc c q (by rw [zq41x hcl]; exact hc)
    rwa [if_neg (by omega), zq110x] at this
  · have := atc cs.length prs (by rw [zq44x (zq5x _), Nat.sub_self]; rfl)
    rwa [if_pos rfl] at this
theorem last_sum (hN : SNet p n (cs ++ [prs])) (hS : SwI p (n.toNat + (cs ++ [prs]).length) (rowsS n.toNat (cs ++ [prs]).length (cs ++ [prs])) R T (List.range n.toNat)) (hL : LastC (n.toNat + (cs ++ [prs]).length) R T) (hT : cs.length ∉ T.map (·.1)) (fac : List Int) (hfl : fac.length = cs.length)
    (hf : ∀ i < cs.length, p ∣ gI fac i + gI (R.getD cs.length []) (n.toNat + i)) : ∀ j < n.toNat, p ∣ co prs j - cmbF cs fac j := by
  intro j hj
  have p2 := hN.hp.1
  have n0 := hN.n0
  have hm : (cs ++ [prs]).length = cs.length + 1 := by simp
  have hRl : R.length = cs.length + 1 := by rw [hS.len, rowsS_len, hm]
  have hlt : cs.length < R.length := by omega
  have hmem : R.getD cs.length [] ∈ R := by rw [gRow hlt]; exact zq29x _
  have h1 := rows_sums hN hS hmem hj
  have hrl := (hS.ok _ hmem).len
  rw [hS.zero cs.length hlt hT j (zq39x.mpr hj)] at h1
  have h2 := hL cs.length hlt hT
  rw [if_pos (by omega), hm, show n.toNat + (cs.length + 1) - 1 = n.toNat + cs.length by omega] at h2
  obtain ⟨r, er⟩ : ∃ r, r = R.getD cs.length [] := ⟨_, rfl⟩
  rw [<- er] at h1 h2 hrl hf
  rw [hm] at hrl
  have e : r.drop n.toNat = (r.drop n.toNat).take cs.length ++ [1] := by
    apply zq82x
    intro i
    by_cases c : i < cs.length
    · rw [zq41x (by rw [zq19x, zq40x]; omega), zq89x c]
    · by_cases c2 : i = cs.length
      · subst c2
        rw [zq44x (by rw [zq19x, zq40x]; omega), zq19x, zq40x, show cs.length - min cs.length (r.length - n.toNat) = 0 by omega, zq130x]
        unfold gI at h2
        rw [zq2x] at h2
        rw [zq1x (by omega)] at h2 ⊢
        simp at h2 ⊢
        exact h2
      · rw [zq60x (by rw [zq40x]; omega), zq60x (by rw [zq25x, zq19x, zq40x, zq52x]; omega)]
  rw [e, cmbF_snoc j prs 1 cs _ (by rw [zq19x, zq40x]; omega)] at h1
  have h3 : ∀ (cs : List Prs) (a b : List Int), a.length = cs.length -> b.length = cs.length -> (∀ i < cs.length, p ∣ gI a i + gI b i) -> p ∣ cmbF cs a j + cmbF cs b j := by
    intro cs
    induction cs with
    | nil => intro a b _ _ _; exact ⟨0, by simp [cmbF]⟩
    | cons q cs ih =>
      intro a b ha hb h
      cases a with
      | nil => simp at ha
      | cons x a =>
        cases b with
        | nil => simp at hb
        | cons y b =>
          obtain ⟨s, hs⟩ := ih a b (by simpa using ha) (by simpa using hb) fun i hi => h (i + 1) (by simpa using hi)
          obtain ⟨t, ht⟩ := h 0 (by simp)
          have ht : x + y = p * t := ht
          refine ⟨co q j * t + s, ?_⟩
          show (co q j * x + cmbF cs a j) + (co q j * y + cmbF cs b j) = _
          grind
  obtain ⟨s, hs⟩ := h3 cs fac ((r.drop n.toNat).take cs.length) hfl (by rw [zq19x, zq40x]; omega) fun i hi => by
    have e2 : gI ((r.drop n.toNat).take cs.length) i = gI r (n.toNat + i) := by
      unfold gI
      rw [zq2x, zq89x hi, zq130x, zq2x]
    rw [e2]
    exact hf i hi
  obtain ⟨t, ht⟩ := h1
  exact ⟨-t - s, by grind⟩
theorem sum_true {fac : List Int} {w : List Int} (hw : w.length = n.toNat) (hok : ∀ q ∈ cs, ∀ pr ∈ q, 0 <= pr.1 /\ pr.1 < n) (hpr : ∀ pr ∈ prs, 0 <= pr.1 /\ pr.1 < n) (h : ∀ j < n.toNat, p ∣ co prs j - cmbF cs fac j) (hV : VN p cs w) : p ∣ dueSum prs (w.map some) := by
 rw [due_all hw prs hpr, <- lin_co (n := n.toNat) (gI w) prs fun pr hp => by have := hpr pr hp; omega]
 have h1 := true_cmb hw cs fac hok hV
 have h2 := lin_diffR (p := p) (gI w) ((List.range n.toNat).map (co prs)) ((List.range n.toNat).map (cmbF cs fac)) (by simp) fun i hi => by
  rw [zq0x, zq42x] at hi
  rw [gI_range _ hi, gI_range _ hi]
  exact zq92x (h i hi)
 obtain ⟨a, ha⟩ := h1
 obtain ⟨b, hb⟩ := h2
 exact ⟨a + b, by grind⟩
end
end L2
set_option maxRecDepth 100000
set_option maxHeartbeats 4000000
namespace L2
open PySem PySem.Spec PyProof.Rows
abbrev RF := Cu -> List PyData -> Pd -> Prop
end L2
set_option maxRecDepth 100000
set_option maxHeartbeats 4000000
set_option maxRecDepth 100000
set_option maxHeartbeats 4000000
set_option maxRecDepth 100000
set_option maxHeartbeats 4000000
namespace L2
open PySem PySem.Spec PyProof.Rows
def rLenR : List V -> Hp -> VK -> Prop := fun xs H Q => ∃ a kvs, xs = [V.ref a] /\ Rd H a (.dK kvs) /\ Q (.int kvs.length) H
theorem call_lenR {X : Cx} : CallR X (.builtin "len") rLenR := by
 intro pins s σ H xs us Q I r h
 obtain ⟨a, kvs, rfl, ha, q⟩ := h
 obtain ⟨u, rfl, ru⟩ := vals1 r
 cases ru
 exact d_len I ha fun t s' I' => ⟨.int kvs.length, H, I', ⟨t, rfl⟩, q⟩
theorem Ev.lenDd {G : Gx} {ρ : Rh} {Φ : Pd} {te : TE} (h : Ev G ρ te fun _ x => ∃ ks : Ks, x = .dict (ks.map kvD) /\ Φ true (.int ks.length)) : Ev G ρ (tCB rLenR (tCons te tNil)) Φ := fun nb σ H Q W z =>
 h nb σ H _ W fun f v H1 x ⟨ks, ex, q⟩ s1 hv => by
  subst ex
  unfold IsD at hv
  obtain ⟨a, ps, rfl, n, hp, hd⟩ := hv
  have hlen : ps.length = ks.length := by have := congrArg List.length (IsKs.keys hd); simpa using this
  refine ⟨a, ps, rfl, hp, ?_⟩
  rw [hlen]
  exact z true _ H1 _ q s1 (.int _)
theorem RwL.take {p : Int} {n m : Nat} {w : List Int} (h : RwL p (n + m) w) : RwL p n (w.take n) := ⟨by rw [zq19x, h.len]; omega, fun x hx => h.rg x (zq86x hx)⟩
theorem RwL.drop {p : Int} {n m : Nat} {w : List Int} (h : RwL p (n + m) w) : RwL p m (w.drop n) := ⟨by rw [zq40x, h.len]; omega, fun x hx => h.rg x (zq131x hx)⟩
theorem Rk.both {p : Int} {n m k1 k2 : Nat} {V1 V2 V : List Int -> Prop} (hp : 0 <= p) (h1 : Rk p n V1 k1) (h2 : Rk p m V2 k2) (hV : ∀ w, RwL p (n + m) w -> (V w ↔ V1 (w.take n) /\ V2 (w.drop n))) : Rk p (n + m) V (k1 + k2) := by
 obtain ⟨Pr, ePr⟩ : ∃ Pr : List (List Int × List Int), Pr = (selW p.toNat n V1).flatMap fun a => (selW p.toNat m V2).map fun b => (a, b) := ⟨_, rfl⟩
 have hPm : ∀ q, q ∈ Pr ↔ q.1 ∈ selW p.toNat n V1 /\ q.2 ∈ selW p.toNat m V2 := fun q => by
  rw [ePr, zq159x]
  constructor
  ·rintro ⟨a, ha, hq⟩
   obtain ⟨w, hw, rfl⟩ := zq7x.mp hq
   exact ⟨ha, hw⟩
  ·rintro ⟨ha, hw⟩
   exact ⟨q.1, ha, zq7x.mpr ⟨q.2, hw, rfl⟩⟩
 have hPl : Pr.length = (selW p.toNat n V1).length * (selW p.toNat m V2).length := by
  rw [ePr, zq160x]
  generalize selW p.toNat n V1 = A
  induction A with
  | nil => simp
  | cons a A ih => rw [zq9x, zq94x, ih, zq51x, zq0x, Nat.succ_mul]; omega
 have hPn : Pr.Nodup := by
  rw [ePr, List.Nodup, zq161x]
  refine ⟨fun a _ => ?_, ?_⟩
  ·rw [zq72x]
   exact selW_nodup.imp fun h z => h (zq80x z).2
  ·refine (selW_nodup (p := p.toNat) (n := n) (V := V1)).imp ?_
   intro a b h x hx y hy z
   obtain ⟨u, _, rfl⟩ := zq7x.mp hx
   obtain ⟨v, _, rfl⟩ := zq7x.mp hy
   exact h (zq80x z).1
 have le1 : (selW p.toNat (n + m) V).length <= Pr.length := by
  refine inj_len (fun w => (w.take n, w.drop n)) _ _ selW_nodup (fun w hw => ?_) fun w hw u hu e => ?_
  ·obtain ⟨hw, hVw⟩ := (selW_mem hp).mp hw
   obtain ⟨g1, g2⟩ := (hV w hw).mp hVw
   exact (hPm _).mpr ⟨(selW_mem hp).mpr ⟨hw.take, g1⟩, (selW_mem hp).mpr ⟨hw.drop, g2⟩⟩
  ·obtain ⟨f1, f2⟩ := zq80x e
   rw [<- zq132x n w, <- zq132x n u, f1, f2]
 have le2 : Pr.length <= (selW p.toNat (n + m) V).length := by
  refine inj_len (fun q : List Int × List Int => q.1 ++ q.2) _ _ hPn (fun q hq => ?_) fun q hq q' hq' e => ?_
  ·obtain ⟨h3, h4⟩ := (hPm q).mp hq
   obtain ⟨a1, a2⟩ := (selW_mem hp).mp h3
   obtain ⟨b1, b2⟩ := (selW_mem hp).mp h4
   have hw : RwL p (n + m) (q.1 ++ q.2) := ⟨by rw [zq25x, a1.len, b1.len], fun x hx => (zq22x.mp hx).elim (a1.rg x) (b1.rg x)⟩
   refine (selW_mem hp).mpr ⟨hw, (hV _ hw).mpr ?_⟩
   rw [show (q.1 ++ q.2).take n = q.1 by rw [<- a1.len, List.take_left'] <;> rfl, show (q.1 ++ q.2).drop n = q.2 by rw [<- a1.len, List.drop_left'] <;> rfl]
   exact ⟨a2, b2⟩
  ·obtain ⟨h3, h4⟩ := (hPm q).mp hq
   obtain ⟨h5, h6⟩ := (hPm q').mp hq'
   have l1 := ((selW_mem hp).mp h3).1.len
   have l2 := ((selW_mem hp).mp h5).1.len
   have e : q.1 ++ q.2 = q'.1 ++ q'.2 := e
   obtain ⟨e1, e2⟩ := List.append_inj e (by rw [l1, l2])
   exact Prod.ext e1 e2
 unfold Rk at h1 h2 ⊢
 have e : (selW p.toNat (n + m) V).length = (selW p.toNat n V1).length * (selW p.toNat m V2).length := by omega
 rw [e, zq93x, zq93x, <- h1, <- h2]
 generalize (selW p.toNat n V1).length = A
 generalize (selW p.toNat m V2).length = B
 generalize p.toNat ^ k1 = C
 generalize p.toNat ^ k2 = D
 rw [zq69x, zq69x, Nat.mul_left_comm B C D]
def shP (n : Int) (q : Prs) : Prs := q.map fun pr => (n + pr.1, pr.2)
section
variable {p n m : Int} {w : List Int} {q : Prs}
theorem due_take (n0 : 0 <= n) (m0 : 0 <= m) (hw : w.length = (n + m).toNat) (hq : ∀ pr ∈ q, 0 <= pr.1 /\ pr.1 < n) : dueSum q (w.map some) = dueSum q ((w.take n.toNat).map some) := by
 rw [due_all hw q fun pr h => by have := hq pr h; omega, due_all (n := n) (by rw [zq19x]; omega) q hq]
 congr 1
 refine zq103x fun pr h => ?_
 have := hq pr h
 have e : gI (w.take n.toNat) pr.1.toNat = gI w pr.1.toNat := by
  unfold gI
  rw [zq2x, zq89x (by omega), zq2x]
 rw [e]
theorem due_drop (n0 : 0 <= n) (m0 : 0 <= m) (hw : w.length = (n + m).toNat) (hq : ∀ pr ∈ q, 0 <= pr.1 /\ pr.1 < m) : dueSum (shP n q) (w.map some) = dueSum q ((w.drop n.toNat).map some) := by
 rw [due_all hw (shP n q) fun pr h => by
  obtain ⟨x, hx, rfl⟩ := zq7x.mp h
  have := hq x hx
  exact ⟨by show 0 <= n + x.1; omega, by show n + x.1 < n + m; omega⟩, due_all (n := m) (by rw [zq40x]; omega) q hq]
 unfold shP
 rw [zq68x]
 congr 1
 refine zq103x fun pr h => ?_
 have := hq pr h
 show gI w (n + pr.1).toNat * pr.2 = _
 have e : gI (w.drop n.toNat) pr.1.toNat = gI w (n + pr.1).toNat := by
  unfold gI
  rw [zq2x, zq130x, zq2x, show n.toNat + pr.1.toNat = (n + pr.1).toNat by omega]
 rw [e]
theorem Rk.nets {c1 c2 cs : List Prs} {k1 k2 : Nat} (hp : 0 <= p) (n0 : 0 <= n) (m0 : 0 <= m) (h1 : Rk p n.toNat (VN p c1) k1) (h2 : Rk p m.toNat (VN p c2) k2) (hc : ∀ q, q ∈ cs ↔ q ∈ c1 \/ ∃ q' ∈ c2, q = shP n q') (g1 : ∀ q ∈ c1, ∀ pr ∈ q, 0 <= pr.1 /\ pr.1 < n) (g2 : ∀ q ∈ c2, ∀ pr ∈ q, 0 <= pr.1 /\ pr.1 < m) : Rk p (n + m).toNat (VN p cs) (k1 + k2) := by
 rw [show (n + m).toNat = n.toNat + m.toNat by omega]
 refine Rk.both hp h1 h2 fun w hw => ?_
 have hl : w.length = (n + m).toNat := by rw [hw.len]; omega
 constructor
 ·intro h
  refine ⟨fun q hq => ?_, fun q hq => ?_⟩
  ·rw [<- due_take n0 m0 hl (g1 q hq)]; exact h q ((hc q).mpr (.inl hq))
  ·rw [<- due_drop n0 m0 hl (g2 q hq)]; exact h _ ((hc _).mpr (.inr ⟨q, hq, rfl⟩))
 ·rintro ⟨h1, h2⟩ q hq
  rcases (hc q).mp hq with z | ⟨q', z, rfl⟩
  ·rw [due_take n0 m0 hl (g1 q z)]; exact h1 q z
  ·rw [due_drop n0 m0 hl (g2 q' z)]; exact h2 q' z
def tmP (p le : Int) (q : Prs) : Prs := q.map fun pr => (pr.1, pr.2 * le % p)
theorem due_times {le : Int} (hw : w.length = n.toNat) (hq : ∀ pr ∈ q, 0 <= pr.1 /\ pr.1 < n) : p ∣ dueSum (tmP p le q) (w.map some) - le * dueSum q (w.map some) := by
  rw [due_all hw q hq, due_all hw (tmP p le q) fun pr h => by
    obtain ⟨x, hx, rfl⟩ := zq7x.mp h
    exact hq x hx]
  unfold tmP
  rw [zq68x]
  clear hq
  induction q with
  | nil => exact ⟨0, by simp⟩
  | cons pr q ih =>
    obtain ⟨t, ht⟩ := ih
    rw [zq9x, zq94x, zq9x, zq94x]
    show p ∣ (gI w pr.1.toNat * (pr.2 * le % p) + _) - _
    rw [zq63x]
    generalize pr.2 * le / p = dd
    exact ⟨t - gI w pr.1.toNat * dd, by grind⟩
theorem times_iff {le : Int} (hp : PrimeZ p) (l0 : 0 < le) (l1 : le < p) (hw : w.length = n.toNat) (hq : ∀ pr ∈ q, 0 <= pr.1 /\ pr.1 < n) : p ∣ dueSum (tmP p le q) (w.map some) ↔ p ∣ dueSum q (w.map some) := by
 obtain ⟨t, ht⟩ := due_times (p := p) (le := le) hw hq
 constructor
 ·rintro ⟨s, hs⟩
  refine prime_mul hp (a := le) ⟨s - t, by grind⟩ fun z => ?_
  have := zq62x l0 z
  omega
 ·rintro ⟨s, hs⟩
  exact ⟨t + le * s, by grind⟩
theorem tmP_ok {le : Int} {k : Nat} (hp : PrimeZ p) (l0 : 0 < le) (l1 : le < p) (h : PrsQ p k q) : PrsQ p k (tmP p le q) := by
 have p2 := hp.1
 obtain ⟨h1, h2, h3⟩ := h
 refine ⟨by unfold tmP; rw [zq68x]; exact h1, by unfold tmP; rw [zq0x]; exact h2, fun pr hpr => ?_⟩
 obtain ⟨x, hx, rfl⟩ := zq7x.mp hpr
 obtain ⟨a0, a1, a2, a3⟩ := h3 x hx
 have e0 := zq24x (x.2 * le) (show p ≠ 0 by omega)
 have e1 := zq28x (x.2 * le) (show 0 < p by omega)
 refine ⟨a0, a1, ?_, e1⟩
 show 1 <= x.2 * le % p
 rcases Int.lt_or_eq_of_le e0 with z | z
 ·omega
 ·exfalso
  have hd : p ∣ x.2 * le := zq181x z.symm
  have h4 := prime_mul hp hd fun y => by have := zq62x (by omega) y; omega
  have := zq62x l0 h4
  omega
theorem shP_ok {k : Nat} (n0 : 0 <= n) (h : PrsQ p k q) : PrsQ p (n.toNat + k) (shP n q) := by
 obtain ⟨h1, h2, h3⟩ := h
 refine ⟨?_, by unfold shP; rw [zq0x]; exact h2, fun pr hpr => ?_⟩
 ·unfold shP
  rw [zq68x]
  rw [List.Nodup, zq72x] at h1 ⊢
  exact h1.imp fun h z => h (by have z : n + _ = n + _ := z; omega)
 ·obtain ⟨x, hx, rfl⟩ := zq7x.mp hpr
  obtain ⟨a0, a1, a2, a3⟩ := h3 x hx
  exact ⟨by show 0 <= n + x.1; omega, by show n + x.1 < ((n.toNat + k : Nat) : Int); omega, a2, a3⟩
end
end L2
set_option maxRecDepth 100000
set_option maxHeartbeats 8000000
namespace K44
open PySem L2
def top (i : Nat) : Stmt := PySem.Challenge.pw_fewchecks_k44_ranks.main.body.getD i (.Pass ⟨0, 0, 0, 0⟩)
abbrev sInverse : Stmt := top 1
abbrev sRowsOf : Stmt := top 3
abbrev sSwept : Stmt := top 4
abbrev sFirstWith : Stmt := top 5
abbrev sCleared : Stmt := top 6
abbrev sTimes : Stmt := top 7
abbrev sLess : Stmt := top 8
abbrev sSweptAll : Stmt := top 9
abbrev sComesOf : Stmt := top 10
abbrev sRank : Stmt := top 11
abbrev sLawBag : Stmt := top 13
abbrev sLawStirred : Stmt := top 14
abbrev sLawDraw : Stmt := top 15
abbrev sLawPrimeFrom : Stmt := top 16
abbrev sLawPrime : Stmt := top 17
abbrev sLawCopy : Stmt := top 18
abbrev sLawWhole : Stmt := top 19
abbrev sLawSummed : Stmt := top 20
abbrev sLawMore : Stmt := top 21
abbrev sLawRow : Stmt := top 22
abbrev sLawRanked : Stmt := top 23
abbrev sLawIs : Stmt := top 24
abbrev sLawOtherOrder : Stmt := top 25
abbrev sLawSideBySide : Stmt := top 26
abbrev sLaw : Stmt := top 27
local macro_rules | `(tactic| walk_at "d0") => `(tactic| first | omega | assumption | decide | (unfold Sm at *; omega) | (unfold CMul; omega) | (unfold CPow; decide) | (unfold CPow; omega))
local macro_rules | `(tactic| walk_at "ds") => `(tactic| ((try dsimp only); first | walk_at "d0" | (refine And.intro ?_ ?_ <;> walk_at "d0") | (refine Or.inl ?_; walk_at "d0") | (refine Or.inr (And.intro ?_ ?_) <;> walk_at "d0")))
local macro_rules | `(tactic| walk_at "s1") => `(tactic| with_reducible first
 | refine R.seq ?_ | refine R.asg ?_ | refine R.setC ?_ | refine R.ifS ?_ | refine R.ret ?_ | refine R.next ?_ | refine R.c ?_ | refine R.op ?_ | refine R.test ?_ | refine R.bl ?_ | refine R.tru ?_
 | refine R.and ?_ | refine R.notV ?_ | refine R.cb ?_ | refine R.call ?_ | refine R.nil ?_ | refine R.cons ?_
 | refine R.lst ?_ | refine R.sl ?_ | refine R.noPart ?_ | refine R.part ?_ | refine R.bm0 ?_ | refine R.bm ?_ | refine R.tyInt ?_ | refine R.gname ?_ | refine R.gsub ?_ | refine R.gcons ?_ | refine R.gnil ?_ | refine R.noTest ?_
 | refine R.rI0 ?_ | refine R.eqI ?_ | refine R.neI ?_ | refine R.eqNI ?_ | refine R.eqIN ?_ | refine R.isI ?_ | refine R.notI ?_ | refine R.notN ?_ | refine R.intB ?_ | refine R.bits ?_
 | refine iteT ?_ | refine iteF ?_ | refine R.nilE ?_ | refine R.isiII ?_ | refine R.isiIB ?_ | refine R.rng1 ?_ | refine R.rng2 ?_ | refine R.iL ?_ | refine R.for_ ?_ | refine R.comp ?_)
local macro_rules | `(tactic| walk_at "st") => `(tactic| repeat (first
 | walk_at "s1"
 | ((with_reducible refine' R.var ?h0 ?_); (case h0 => rfl))
 | ((with_reducible refine' R.rI ?h1 ?_); (case h1 => walk_at "ds"))
 | ((with_reducible refine' R.ixS (o := .lst []) ?h1 ?_); (case h1 => rfl))
 | ((with_reducible refine' R.ixM ?h0 ?h1 ?_); (case h0 => assumption); (case h1 => rfl))
 | ((with_reducible refine' R.ixTM ?h0 ?h1 ?_); (case h0 => assumption); (case h1 => rfl))
 | ((with_reducible refine' R.setS ?h1 ?_); (case h1 => rfl))
 | ((with_reducible refine' R.setM ?h0 ?h1 ?_); (case h0 => assumption); (case h1 => rfl))
 | ((with_reducible refine' R.lenM ?h0 ?_); (case h0 => assumption))
 | ((with_reducible refine' R.lenL ?h0 ?_); (case h0 => assumption))
 | ((with_reducible refine' R.rng1I ?h0 ?h1 ?_); (case h0 => walk_at "ds"); (case h1 => walk_at "ds"))
 | ((with_reducible refine' R.rng2I ?h0 ?_); (case h0 => walk_at "ds"))
 | ((with_reducible refine' R.iL1 ?h0 ?_); (case h0 => assumption))
 | ((with_reducible refine' R.iteP ?h0 ?_); (case h0 => first | exact R.dT (by omega) | exact R.dTn (by omega) | decide))
 | ((with_reducible refine' R.iteN ?h0 ?_); (case h0 => first | exact R.dF (by omega) | exact R.dFn (by omega) | decide))
 | (with_reducible refine R.abs1 ?_) | (with_reducible refine R.partI ?_)))
local macro_rules | `(tactic| walk_at "fv") => `(tactic| first | exact Or.inl rfl | exact Or.inr (Or.inl rfl) | exact Or.inr (Or.inr (Or.inl rfl)) | exact Or.inr (Or.inr (Or.inr (Or.inl rfl))) | exact Or.inr (Or.inr (Or.inr (Or.inr rfl))))
local macro_rules | `(tactic| walk_at "d1") => `(tactic| with_reducible first
 | refine Sv.seq ?_ | refine Sv.asgNil ?_ | refine Sv.asg ?_ | refine Sv.setCF ?_ | refine Sv.ifS ?_ | refine Sv.ret ?_ | refine Sv.next ?_ | refine Sv.retN ?_
 | refine Ev.int ?_ | refine Ev.non ?_ | refine Ev.rI0 ?_ | refine Ev.rB0 ?_ | refine Ev.rI ?_ | refine Ev.rU ?_ | refine Ev.eq ?_ | refine Ev.ne ?_ | refine Ev.is ?_ | refine Ev.isNot ?_ | refine Ev.eqD ?_ | refine Ev.primeFrom ?_
 | refine Ev.andV ?_ | refine Ev.orV ?_ | refine Ev.ifE ?_ | refine Tv.test ?_ | refine Tv.and ?_ | refine Tv.or ?_ | refine Tv.not ?_ | refine Tv.noTest ?_ | refine Tv.truB ?_
 | refine Ev.tupF ?_ | refine Ev.tupS ?_ | refine Ev.lst ?_ | refine Av.nil ?_ | refine Av.cons ?_ | refine Av.cints ?_ | refine Ov.none ?_ | refine Ov.some ?_ | refine Ev.min2 ?_ | refine Ev.max2 ?_ | refine Ev.intB ?_ | refine Ev.whole ?_
 | refine R.di ?_ | refine R.db ?_ | refine R.dl ?_ | refine R.dt ?_ | refine R.dll ?_ | refine R.dlt ?_ | refine R.eqii ?_ | refine R.eqni ?_ | refine R.eqin ?_ | refine R.eqnn ?_ | refine R.eqbb ?_
 | refine Gv.nameI ?_ | refine Gv.nameB ?_ | refine Gv.nameN ?_ | refine Gv.nameT ?_ | refine Gv.nameF ?_ | refine Gv.snil ?_ | refine Gv.scons ?_ | refine iteT ?_ | refine iteF ?_)
local macro_rules | `(tactic| walk_at "dt") => `(tactic| repeat (first
 | ((with_reducible refine' Sv.retOwn ?h0 ?_); (case h0 => rfl))
 | ((with_reducible refine' Sv.setOwn ?h0 ?_); (case h0 => rfl))
 | walk_at "d1"
 | ((with_reducible refine' Ev.var ?h0 ?_); (case h0 => rfl))
 | ((with_reducible refine' Ev.draw ?h0 ?_); (case h0 => rfl))
 | ((with_reducible refine' Ev.ixOwn ?h0 ?_); (case h0 => rfl))
 | ((with_reducible refine' Ev.lenOwn ?h0 ?_); (case h0 => rfl))
 | ((with_reducible refine' Ev.listOwn ?h0 ?_); (case h0 => rfl))
 | ((with_reducible refine' Ev.slOwn ?h0 ?_); (case h0 => rfl))
 | ((with_reducible refine' Sv.append ?h0 ?_); (case h0 => rfl))
 | ((with_reducible refine' Sv.setOwn ?h0 ?_); (case h0 => rfl))
 | ((with_reducible refine' Sv.retOwn ?h0 ?_); (case h0 => rfl))
 | ((with_reducible refine' Gv.tup ?h0 ?_); (case h0 => rfl))
 | ((with_reducible refine' R.at_ ?h0 ?_); (case h0 => first | rfl | assumption))
 | (with_reducible refine Ev.ixL ?_) | (with_reducible refine Ev.ixT ?_) | (with_reducible refine Ev.listOf ?_) | (with_reducible refine Ev.sl ?_) | (with_reducible refine Ev.cat ?_) | (with_reducible refine Ev.lenS ?_)
 | ((with_reducible refine' Ev.isi ?h0 ?_); (case h0 => walk_at "fv"))
 | ((with_reducible refine' Ev.isi2 ?h0 ?h1 ?_); (case h0 => walk_at "fv"); (case h1 => walk_at "fv"))
 | ((with_reducible refine' R.lnil ?_))
 | ((with_reducible refine' R.iteP ?h0 ?_); (case h0 => first | exact R.dT (by omega) | exact R.dTn (by omega) | rfl))
 | ((with_reducible refine' R.iteN ?h0 ?_); (case h0 => first | exact R.dF (by omega) | exact R.dFn (by omega) | exact zq15x))
 | ((with_reducible refine' R.cnd ?h0 ?_); (case h0 => first | walk_at "ds" | exact Nat.le_of_ble_eq_true rfl))))
local macro_rules | `(tactic| walk_at "wk") => `(tactic| repeat (first | exact Wk.nil | apply Wk.no | apply Wk.eq))
section
variable {P : Program} {w : World} {K : PySem.W.Frag} {mg : Str -> Option Value} {base : Heap} {f : Addr} {fd : FuncData}
def F_times : DF := fun ds Φ => ∃ (p c : Int) (w : Nat) (r : List Int), ds = [.int p, .int c, rowD r] /\ 0 < p /\ p < 10 ^ 40 /\ RwL p w r /\ w <= 10000 /\ 0 <= c /\ c < p /\ Φ true (rowD (mulR p c r))
theorem mono_times : MonoF F_times := by
 intro ds Φ Ψ hm z
 obtain ⟨p, c, w, r, e, h1, h2, h3, h4, h5, h6, q⟩ := hm
 exact ⟨p, c, w, r, e, h1, h2, h3, h4, h5, h6, z _ _ q⟩
theorem scTimes : FnScope ["p", "factor", "row"] ["p", "factor", "row"] (defScope sTimes) := ⟨rfl, rfl, rfl, by decide +kernel, rfl, by decide +kernel, by decide +kernel⟩
theorem ok_times (F : Fun K "times" "times" sTimes f fd)     :
  FnOk P w K mg base CX0 1 f fd ["p", "factor", "row"] (spD 3 F_times) := by
 refine F.ok scTimes (fun vs H Q E h => h.1) (fun cdv A outer s H vs Q E hr h => ?_)
 obtain ⟨nb, ds, Φ, hlive, hds, hΦ, hF⟩ := spD_out h
 obtain ⟨p, c, w, r, rfl, hp, hp40, hr, hw, c0, c1, q⟩ := hF
 refine ⟨_, (@pss_one _ _ _ (@ps_ret _ _ _ _ (pe_lcomp (CompOk.of (show compOkB (defScope sTimes) ["p", "factor", "row"] _ ["number", "p", "factor"] [none, some 0, some 1] = true by decide +kernel)) (pi_listK (K := K) rfl (pv 2)) (fun _ _ _ _ => ⟨(pg_name (i := 0) (by show List.Nodup (["number", "p", "factor"] : List Str); decide +kernel) rfl (Or.inl rfl)), pts_nil, (@pe_op _ _ _ _ _ _ _ _ op_mod (@pe_op _ _ _ _ _ _ _ _ op_mulA (pv 2) (pv 0)) (pv 1))⟩)))), ?_⟩
 refine Sv.enterD hlive hds hΦ (ρ := [.d false _, .d false _, .d false _]) rfl ?_
 clear hΦ hds
 have hrl : (r.map PyData.int).length = r.length := zq0x ..
 have hl := hr.len
 have hsm : ∀ x : Int, 0 <= x -> x <= p -> Sm x := fun x x0 x1 => by unfold Sm; omega
 walk_at "dt"
 refine EvN.ev (EvN.compL (by decide) rfl ?_)
 walk_at "dt"
 refine fun v => ⟨true, fun i ds => ds = ((r.take i).map fun x => c * x % p).map PyData.int, rfl, ?_, ?_⟩
 ·rintro i d ds hd hl' rfl
  obtain ⟨x, hx, rfl⟩ := map_at hd
  obtain ⟨x0, x1⟩ := hr.rg x (zq4x hx)
  have s1 := hsm c c0 (by omega)
  have s2 := hsm x x0 (by omega)
  walk_at "dt"
  refine ⟨by walk_at "wk", ?_⟩
  walk_at "dt"
  show _ = List.map PyData.int (List.map _ (List.take (i + 1) r))
  rw [take_snoc hx, zq16x, zq16x]
  rfl
 rintro ds hl' rfl
 rw [hrl, zq53x]
 exact q
theorem scInverse : FnScope ["p", "b", "last_rest", "last_times", "rest", "times", "quotient", "next_rest", "next_times"] ["p", "b"] (defScope sInverse) := ⟨rfl, rfl, rfl, by decide +kernel, rfl, by decide +kernel, by decide +kernel⟩
theorem ok_inverse (F : Fun K "inverse" "inverse" sInverse f fd)  (c_times : Callee P w K mg base "times" 1 ["p", "factor", "row"] (spD 3 F_times))   :
  FnOk P w K mg base CX0 2 f fd ["p", "b"] spInverse := by
 refine F.ok scInverse (fun vs H Q E h => ?_) (fun cdv A outer s H vs Q E hr h => ?_)
 ·obtain ⟨p, b, rfl, hp, hp3, hb, q⟩ := h
  rfl
 obtain ⟨p, b, rfl, hp, hp3, hb, q⟩ := h
 refine ⟨_, (@pss_cons _ _ _ _ _ (@ps_set _ _ (2) _ _ _ _ scInverse.nd rfl (Or.inl rfl) (pv 0) (by rfl) (by first | exact .inl rfl | exact .inr rfl | assumption)) (@pss_cons _ _ _ _ _ (@ps_set _ _ (3) _ _ _ _ scInverse.nd rfl (Or.inl rfl) pe_int (by rfl) (by first | exact .inl rfl | exact .inr rfl | assumption)) (@pss_cons _ _ _ _ _ (@ps_set _ _ (4) _ _ _ _ scInverse.nd rfl (Or.inl rfl) (@pe_op _ _ _ _ _ _ _ _ op_mod (pv 1) (pv 0)) (by rfl) (by first | exact .inl rfl | exact .inr rfl | assumption)) (@pss_cons _ _ _ _ _ (@ps_set _ _ (5) _ _ _ _ scInverse.nd rfl (Or.inl rfl) pe_int (by rfl) (by first | exact .inl rfl | exact .inr rfl | assumption)) (@pss_cons _ _ _ _ _ (@ps_while _ _ _ _ _ _ zq35x (@pt_cmpR _ _ _ _ _ _ _ _ op_ne (pv 4) pe_int (nomark _)) (@pss_cons _ _ _ _ _ (@ps_set _ _ (6) _ _ _ _ scInverse.nd rfl (Or.inl rfl) (@pe_op _ _ _ _ _ _ _ _ op_fdivS (pv 2) (pv 4)) (by rfl) (by first | exact .inl rfl | exact .inr rfl | assumption)) (@pss_cons _ _ _ _ _ (@ps_set _ _ (7) _ _ _ _ scInverse.nd rfl (Or.inl rfl) (@pe_op _ _ _ _ _ _ _ _ op_sub (pv 2) (@pe_op _ _ _ _ _ _ _ _ op_mulA (pv 6) (pv 4))) (by rfl) (by first | exact .inl rfl | exact .inr rfl | assumption)) (@pss_cons _ _ _ _ _ (@ps_set _ _ (8) _ _ _ _ scInverse.nd rfl (Or.inl rfl) (@pe_op _ _ _ _ _ _ _ _ op_sub (pv 3) (@pe_op _ _ _ _ _ _ _ _ op_mulA (pv 6) (pv 5))) (by rfl) (by first | exact .inl rfl | exact .inr rfl | assumption)) (@pss_cons _ _ _ _ _ (@ps_set _ _ (2) _ _ _ _ scInverse.nd rfl (Or.inl rfl) (pv 4) (by rfl) (by first | exact .inl rfl | exact .inr rfl | assumption)) (@pss_cons _ _ _ _ _ (@ps_set _ _ (3) _ _ _ _ scInverse.nd rfl (Or.inl rfl) (pv 5) (by rfl) (by first | exact .inl rfl | exact .inr rfl | assumption)) (@pss_cons _ _ _ _ _ (@ps_set _ _ (4) _ _ _ _ scInverse.nd rfl (Or.inl rfl) (pv 7) (by rfl) (by first | exact .inl rfl | exact .inr rfl | assumption)) (@pss_one _ _ _ (@ps_set _ _ (5) _ _ _ _ scInverse.nd rfl (Or.inl rfl) (pv 8) (by rfl) (by first | exact .inl rfl | exact .inr rfl | assumption)))))))))) (@pss_one _ _ _ (@ps_ret _ _ _ _ (@pe_op _ _ _ _ _ _ _ _ op_mod (pv 3) (pv 0))))))))), ?_⟩
 have hp2 := hp.1
 walk_at "st"
 refine while_by (fun σ H1 => H1 = H /\ ∃ (L lt r t : Int) (x6 x7 x8 : Option V), σ = [some (.int p), some (.int b), some (.int L), some (.int lt), some (.int r), some (.int t), x6, x7, x8] /\ Eu p b L lt r t) (fun (σ : St) (_ : Hp) => match σ[4]? with | some (some (V.int r)) => r.toNat | _ => 0) ⟨rfl, _, _, _, _, _, _, _, rfl, Eu.start hp2⟩ ?_ ?_
 ·rintro σ H1 ⟨rfl, L, lt, r, t, x6, x7, x8, rfl, E⟩
  obtain ⟨t1, t2⟩ := E.tb
  have e1 := E.l0
  have e2 := E.r0
  have e3 := E.lp
  have e4 := E.rp
  walk_at "st"
  refine ite2 (fun c => ?_) (fun c => ?_)
  ·have c : r ≠ 0 := of_decide_eq_true c
   have hr : 0 < r := by omega
   have q1 : 0 <= L / r := zq146x (by omega) (by omega)
   have q2 : L / r <= L := Int.ediv_le_self _ (by omega)
   obtain ⟨N1, N2⟩ := E.next hr
   walk_at "st"
   refine ⟨⟨rfl, _, _, _, _, _, _, _, rfl, N1⟩, ?_⟩
   show (L - L / r * r).toNat < r.toNat
   omega
  ·have c : r = 0 := by simpa using c
   subst c
   walk_at "st"
   exact q _ (zq24x _ (by omega)) (zq28x _ (by omega)) (E.fin hp hb)
 ·exact fun σ H Q Q' h ⟨v, e, s, k, ek, z⟩ => ⟨v, e, s, k, ek, h _ _ z⟩
def F_rows_of : DF := fun ds Φ => ∃ (p n : Int) (cs : List Prs), ds = [netD p n cs] /\ SNet p n cs /\ ∀ f : Bool, Φ f (.list ((rowsS n.toNat cs.length cs).map rowD))
theorem mono_rows_of : MonoF F_rows_of := by
 intro ds Φ Ψ hm z
 obtain ⟨p, n, cs, e, h1, q⟩ := hm
 exact ⟨p, n, cs, e, h1, fun f => z _ _ (q f)⟩
theorem scRowsOf : FnScope ["net", "rows", "c", "pairs", "row", "place", "factor"] ["net"] (defScope sRowsOf) := ⟨rfl, rfl, rfl, by decide +kernel, rfl, by decide +kernel, by decide +kernel⟩
theorem ok_rows_of (F : Fun K "rows_of" "rows_of" sRowsOf f fd)   (m_enumerate : mg "enumerate" = none) (m_len : mg "len" = none)  :
  FnOk P w K mg base CX0 1 f fd ["net"] (spD 1 F_rows_of) := by
 refine F.ok scRowsOf (fun vs H Q E h => h.1) (fun cdv A outer s H vs Q E hr h => ?_)
 obtain ⟨nb, ds, Φ, hlive, hds, hΦ, hF⟩ := spD_out h
 obtain ⟨p, n, cs, rfl, hN, q⟩ := hF
 refine ⟨_, (@pss_cons _ _ _ _ _ (@ps_set _ _ (1) _ _ _ _ scRowsOf.nd rfl (Or.inl rfl) (@pe_lst _ _ _ _ pa_nil) (by rfl) (by first | exact .inl rfl | exact .inr rfl | assumption)) (@pss_cons _ _ _ _ _ (@ps_for _ _ _ _ _ _ _ _ zq35x rfl (@pi_enum _ (K) _ _ _ _ _ _ _ rfl rfl m_enumerate (@pe_ix _ _ _ _ _ _ (rIxT K) ix_tup (pv 0) pe_int (fun _ _ => rfl)) (by rfl)) (@pg_tupM _ (K) _ _ _ (2) _ rfl rfl (@pgs_cons _ _ _ _ _ (pg_name (i := 2) scRowsOf.nd rfl (Or.inl rfl)) (@pgs_cons _ _ _ _ _ (pg_name (i := 3) scRowsOf.nd rfl (Or.inl rfl)) pgs_nil (by rfl)) (by rfl)) (by rfl) (by rfl)) (@pss_cons _ _ _ _ _ (@ps_set _ _ (4) _ _ _ _ scRowsOf.nd rfl (Or.inl rfl) (@pe_op _ _ _ _ _ _ _ _ op_rep (@pe_lst _ _ _ _ (@pa_cons _ _ _ _ _ pe_int pa_nil rfl)) (@pe_op _ _ _ _ _ _ _ _ op_add (@pe_ix _ _ _ _ _ _ (rIxT K) ix_tup (pv 0) pe_int (fun _ _ => rfl)) (@pe_callB _ _ _ _ _ _ _ _ (rLen K) call_lenM rfl m_len zq46x (@pa_cons _ _ _ _ _ (@pe_ix _ _ _ _ _ _ (rIxT K) ix_tup (pv 0) pe_int (fun _ _ => rfl)) pa_nil rfl) (by decide) (by decide) (by rfl) (by rfl)))) (by rfl) (by first | exact .inl rfl | exact .inr rfl | assumption)) (@pss_cons _ _ _ _ _ (@ps_for _ _ _ _ _ _ _ _ zq35x rfl (pi_listK (K := K) rfl (pv 3)) (@pg_tupM _ (K) _ _ _ (2) _ rfl rfl (@pgs_cons _ _ _ _ _ (pg_name (i := 5) scRowsOf.nd rfl (Or.inl rfl)) (@pgs_cons _ _ _ _ _ (pg_name (i := 6) scRowsOf.nd rfl (Or.inl rfl)) pgs_nil (by rfl)) (by rfl)) (by rfl) (by rfl)) (@pss_one _ _ _ (@ps_asg _ _ _ _ _ _ (pv 6) (pg_sub (pv 4) (pv 5) set_list) (by rfl) (by rfl) (by rfl))) (by intro _; rfl)) (@pss_cons _ _ _ _ _ (@ps_asg _ _ _ _ _ _ pe_int (pg_sub (pv 4) (@pe_op _ _ _ _ _ _ _ _ op_add (@pe_ix _ _ _ _ _ _ (rIxT K) ix_tup (pv 0) pe_int (fun _ _ => rfl)) (pv 2)) set_list) (by rfl) (by rfl) (by rfl)) (@pss_one _ _ _ (@ps_expr _ _ _ _ (pe_bm zq73x zq162x zq163x mt_append (pv 1) (@pa_cons _ _ _ _ _ (pv 4) pa_nil rfl)) (by rfl)))))) (by intro _; rfl)) (@pss_one _ _ _ (@ps_ret _ _ _ _ (pv 1))))), ?_⟩
 refine Sv.enterD hlive hds hΦ (ρ := [.d false _, .no, .no, .no, .no, .no, .no]) rfl ?_
 clear hΦ hds
 have n0 := hN.n0
 have n1 := hN.n1
 have hcl := hN.cl
 have hcm : (cs.map prsD).length = cs.length := zq0x ..
 refine Sv.seq ?_
 refine Sv.asgNil ?_
 intro A1
 refine Sv.seq ?_
 refine Sv.forE ?_
 walk_at "dt"
 refine fun v => ⟨fun i ρ => ∃ (f : Bool) (x2 x3 x4 x5 x6 : Sl), ρ = [.d false (netD p n cs), .own A1 f ((rowsS n.toNat cs.length (cs.take i)).map rowD), x2, x3, x4, x5, x6], ⟨_, _, _, _, _, _, rfl⟩, ?_, ?_⟩
 ·rintro i d ρ ⟨e, he, rfl⟩ ⟨f, x2, x3, x4, x5, x6, rfl⟩
  obtain ⟨prs, hprs, rfl⟩ := map_at he
  have hi := (zq8x.mp hprs).1
  obtain ⟨hnd, hpl, hpr⟩ := hN.ok prs (zq4x hprs)
  have hpm : (prs.map pairD).length = prs.length := zq0x ..
  generalize htl : (tSeq (tAsg (tOp rRep _ _) (gName 4)) _ : TS) = tl
  walk_at "dt"
  subst htl
  refine Sv.seq ?_
  refine Sv.asgN (EvN.repD ?_)
  walk_at "dt"
  intro g
  have eN : (n + ((cs.map prsD).length : Int)).toNat = n.toNat + cs.length := by rw [hcm]; omega
  rw [eN]
  intro A4
  have hz : List.replicate (n.toNat + cs.length) (PyData.int 0) = (List.replicate (n.toNat + cs.length) (0 : Int)).map PyData.int := by rw [zq164x]
  rw [hz]
  refine Sv.seq ?_
  refine Sv.forL ?_
  walk_at "dt"
  refine fun v2 => ⟨fun j ρ => ∃ (g : Bool) (x5 x6 : Sl), ρ = [.d false (netD p n cs), .own A1 f ((rowsS n.toNat cs.length (cs.take i)).map rowD), .d true (.int i), .d false (prsD prs), .own A4 g ((setP (List.replicate (n.toNat + cs.length) 0) (prs.take j)).map .int), x5, x6], ⟨_, _, _, rfl⟩, ?_, ?_⟩
  ·rintro j d ρ hd ⟨g, x5, x6, rfl⟩
   obtain ⟨pr, hprj, rfl⟩ := map_at hd
   obtain ⟨a0, a1, a2, a3⟩ := hpr pr (zq4x hprj)
   walk_at "dt"
   have hix : ixN ((setP (List.replicate (n.toNat + cs.length) 0) (prs.take j)).map PyData.int).length pr.1 = some pr.1.toNat := by
    unfold ixN
    rw [zq0x, setP_len, zq56x]
    repeat (first | rw [if_pos (by omega)] | rw [if_neg (by omega)])
   refine ⟨_, _, rfl, hix, ?_⟩
   have es : setP (List.replicate (n.toNat + cs.length) 0) (prs.take (j + 1)) = (setP (List.replicate (n.toNat + cs.length) 0) (prs.take j)).set pr.1.toNat pr.2 := by
    rw [take_snoc hprj]
    unfold setP
    rw [List.foldl_append]
    rfl
   rw [<- zq87x, <- es]
   exact ⟨_, _, _, rfl⟩
  ·rintro ρ ⟨g, x5, x6, rfl⟩
   rw [hpm, zq53x]
   have hix : ixN ((setP (List.replicate (n.toNat + cs.length) 0) prs).map PyData.int).length (n + (i : Int)) = some (n.toNat + i) := by
    unfold ixN
    rw [zq0x, setP_len, zq56x]
    repeat (first | rw [if_pos (by omega)] | rw [if_neg (by omega)])
    congr 1
    omega
   refine Sv.seq ?_
   refine Sv.setOwn rfl ?_
   walk_at "dt"
   refine ⟨_, _, rfl, hix, ?_⟩
   refine Sv.demote 4 rfl ?_
   refine Sv.append rfl ?_
   refine Ev.var rfl ?_
   have hrl : (rowsS n.toNat cs.length (cs.take i)).length = i := by rw [rowsS_len, zq19x]; omega
   have es : rowsS n.toNat cs.length (cs.take (i + 1)) = rowsS n.toNat cs.length (cs.take i) ++ [rowS n.toNat cs.length i prs] := by
    unfold rowsS
    rw [take_snoc hprs, List.zipIdx_append, zq16x]
    simp only [List.zipIdx_cons, List.zipIdx_nil, zq9x, zq114x, zq19x, Nat.zero_add]
    rw [zq129x (by omega)]
   refine ⟨by rw [zq0x, hrl]; omega, ?_⟩
   rw [<- zq87x]
   have e2 : List.map rowD (rowsS n.toNat cs.length (cs.take i)) ++ [PyData.list (((setP (List.replicate (n.toNat + cs.length) 0) prs).set (n.toNat + i) 1).map PyData.int)] = List.map rowD (rowsS n.toNat cs.length (cs.take (i + 1))) := by
    rw [es, zq16x]
    rfl
   rw [e2]
   exact ⟨_, _, _, _, _, _, rfl⟩
 ·rintro ρ ⟨f, x2, x3, x4, x5, x6, rfl⟩
  rw [hcm, zq53x]
  refine Sv.demote 1 rfl ?_
  walk_at "dt"
  exact q _
def tkD (T : List (Nat × Nat)) : Ks := T.map fun q => ((q.1 : Int), .int (q.2 : Int))
def F_first_with : DF := fun ds Φ => ∃ (p : Int) (w : Nat) (R : List (List Int)) (T : List (Nat × Nat)) (pl : Nat), ds = [.list (R.map rowD), .dict ((tkD T).map kvD), .int pl] /\ RwsL p w R /\ 0 < p /\ p < 10 ^ 40 /\ R.length <= 10000 /\ T.length <= 10000 /\ pl < w /\ w <= 10000 /\
 ((∀ i < R.length, i ∉ T.map (·.1) -> gI (R.getD i []) pl = 0) -> Φ true .none) /\ (∀ k : Nat, k < R.length -> k ∉ T.map (·.1) -> gI (R.getD k []) pl ≠ 0 -> (∀ i < k, i ∉ T.map (·.1) -> gI (R.getD i []) pl = 0) -> Φ true (.int k))
theorem mono_first_with : MonoF F_first_with := by
 intro ds Φ Ψ hm z
 obtain ⟨p, w, R, T, pl, e, h1, h2, h3, h4, h5, h6, h7, q1, q2⟩ := hm
 exact ⟨p, w, R, T, pl, e, h1, h2, h3, h4, h5, h6, h7, fun h => z _ _ (q1 h), fun k a b c d => z _ _ (q2 k a b c d)⟩
theorem tkD_has (T : List (Nat × Nat)) (k : Nat) : hasI (tkD T) (k : Int) = decide (k ∈ T.map (·.1)) := by
 unfold tkD hasI
 rw [zq76x, List.any_eq_true, decide_eq_true_eq]
 constructor
 ·rintro ⟨q, hq, e⟩
  obtain ⟨t, ht, rfl⟩ := zq7x.mp hq
  have : ((t.1 : Nat) : Int) = k := by simpa using e
  exact zq7x.mpr ⟨t, ht, by omega⟩
 ·intro h
  obtain ⟨t, ht, e⟩ := zq7x.mp h
  exact ⟨_, zq128x ht, by simp [e]⟩
theorem scFirstWith : FnScope ["rows", "taken", "place", "k", "row"] ["rows", "taken", "place"] (defScope sFirstWith) := ⟨rfl, rfl, rfl, by decide +kernel, rfl, by decide +kernel, by decide +kernel⟩
theorem ok_first_with (F : Fun K "first_with" "first_with" sFirstWith f fd)   (m_enumerate : mg "enumerate" = none)  :
  FnOk P w K mg base CX0 1 f fd ["rows", "taken", "place"] (spD 3 F_first_with) := by
 refine F.ok scFirstWith (fun vs H Q E h => h.1) (fun cdv A outer s H vs Q E hr h => ?_)
 obtain ⟨nb, ds, Φ, hlive, hds, hΦ, hF⟩ := spD_out h
 obtain ⟨p, w, R, T, pl, rfl, hR, hp, hp40, hRl, hTl, hpl, hw, q1, q2⟩ := hF
 refine ⟨_, (@pss_cons _ _ _ _ _ (@ps_for _ _ _ _ _ _ _ _ zq35x rfl (@pi_enum _ (K) _ _ _ _ _ _ _ rfl rfl m_enumerate (pv 0) (by rfl)) (@pg_tupM _ (K) _ _ _ (2) _ rfl rfl (@pgs_cons _ _ _ _ _ (pg_name (i := 3) scFirstWith.nd rfl (Or.inl rfl)) (@pgs_cons _ _ _ _ _ (pg_name (i := 4) scFirstWith.nd rfl (Or.inl rfl)) pgs_nil (by rfl)) (by rfl)) (by rfl) (by rfl)) (@pss_one _ _ _ (@ps_if _ _ _ _ _ _ _ _ (PW.pt (pw_and (@pt_cmpR _ _ _ _ _ _ _ _ (op_notInD hr.units) (pv 3) (pv 1) (by with_unfolding_all rfl)) (pw_and1 (@pt_cmpR _ _ _ _ _ _ _ _ op_ne (@pe_ix _ _ _ _ _ _ (rIxL K) ix_list (pv 4) (pv 2) (fun _ _ => rfl)) pe_int (nomark _))))) (@pss_one _ _ _ (@ps_ret _ _ _ _ (pv 3))) pss_nil)) (by intro _; rfl)) (@pss_one _ _ _ (@ps_ret _ _ _ _ pe_non))), ?_⟩
 refine Sv.enterD hlive hds hΦ (ρ := [.d false _, .d false _, .d false _, .no, .no]) rfl ?_
 clear hΦ hds
 have hRm : (R.map rowD).length = R.length := zq0x ..
 refine Sv.seq ?_
 refine Sv.forE ?_
 walk_at "dt"
 refine fun v => ⟨fun i ρ => ∃ (x3 x4 : Sl), ρ = [.d false (.list (R.map rowD)), .d false (.dict ((tkD T).map kvD)), .d false (.int pl), x3, x4] /\ ∀ j < i, j ∉ T.map (·.1) -> gI (R.getD j []) pl = 0, ⟨_, _, rfl, fun j hj => absurd hj (Nat.not_lt_zero _)⟩, ?_, ?_⟩
 ·rintro i d ρ ⟨e, he, rfl⟩ ⟨x3, x4, rfl, hz⟩
  obtain ⟨r, hr, rfl⟩ := map_at he
  have hi := (zq8x.mp hr).1
  have hrr := hR r (zq4x hr)
  have hg : R.getD i [] = r := by rw [zq2x, hr]; rfl
  have hat : atI (r.map PyData.int) (pl : Int) = some (.int (gI r pl)) := atI_some (by omega) (by rw [zq10x, zq84x, hrr.at hpl]; rfl)
  have hth := tkD_has T i
  walk_at "dt"
  refine Ev.inDd ?_
  walk_at "dt"
  refine ⟨tkD T, rfl, _, rfl, ?_⟩
  rw [hth]
  have hnext : (i ∉ T.map (·.1) -> gI r pl = 0) -> ∀ j < i + 1, j ∉ T.map (·.1) -> gI (R.getD j []) pl = 0 := fun h j hj hn => by
   by_cases c : j = i
   ·subst c; rw [hg]; exact h hn
   ·exact hz j (by omega) hn
  by_cases c : i ∈ T.map (·.1)
  ·rw [if_neg (by simpa using c)]
   walk_at "dt"
   exact ⟨_, _, rfl, hnext fun h => absurd c h⟩
  ·rw [if_pos (by simpa using c)]
   walk_at "dt"
   by_cases c2 : gI r pl = 0
   ·walk_at "dt"
    exact ⟨_, _, rfl, hnext fun _ => c2⟩
   ·walk_at "dt"
    exact q2 i hi c (by rw [hg]; exact c2) hz
 ·rintro ρ ⟨x3, x4, rfl, hz⟩
  walk_at "dt"
  refine q1 fun i hi => hz i (by rw [hRm]; exact hi)
def F_less : DF := fun ds Φ => ∃ (p c : Int) (w : Nat) (r o : List Int), ds = [.int p, rowD r, .int c, rowD o] /\ 0 < p /\ p < 10 ^ 40 /\ RwL p w r /\ RwL p w o /\ w <= 10000 /\ 0 <= c /\ c < p /\ ∀ f : Bool, Φ f (rowD (lessR p c r o))
theorem mono_less : MonoF F_less := by
 intro ds Φ Ψ hm z
 obtain ⟨p, c, w, r, o, e, h1, h2, h3, h4, h5, h6, h7, q⟩ := hm
 exact ⟨p, c, w, r, o, e, h1, h2, h3, h4, h5, h6, h7, fun f => z _ _ (q f)⟩
theorem scLess : FnScope ["p", "row", "factor", "own"] ["p", "row", "factor", "own"] (defScope sLess) := ⟨rfl, rfl, rfl, by decide +kernel, rfl, by decide +kernel, by decide +kernel⟩
theorem ok_less (F : Fun K "less" "less" sLess f fd)   (m_zip : mg "zip" = none)  :
  FnOk P w K mg base CX0 1 f fd ["p", "row", "factor", "own"] (spD 4 F_less) := by
 refine F.ok scLess (fun vs H Q E h => h.1) (fun cdv A outer s H vs Q E hr h => ?_)
 obtain ⟨nb, ds, Φ, hlive, hds, hΦ, hF⟩ := spD_out h
 obtain ⟨p, c, w, r, o, rfl, hp, hp40, hr, ho, hw, c0, c1, q⟩ := hF
 refine ⟨_, (@pss_cons _ _ _ _ _ (@ps_if _ _ _ _ _ _ _ _ (@pt_cmpR _ _ _ _ _ _ _ _ op_eq (pv 2) pe_int (nomark _)) (@pss_one _ _ _ (@ps_ret _ _ _ _ (pv 1))) pss_nil) (@pss_one _ _ _ (@ps_ret _ _ _ _ (pe_lcomp (CompOk.of (show compOkB (defScope sLess) ["p", "row", "factor", "own"] _ ["number", "other", "p", "factor"] [none, none, some 0, some 2] = true by decide +kernel)) (@pi_zip _ (K) _ _ _ _ _ _ _ _ _ rfl rfl m_zip (pv 1) (pv 3) (by rfl) (by rfl) (by rfl)) (fun _ _ _ _ => ⟨(@pg_tupM _ (K) _ _ _ (2) _ rfl rfl (@pgs_cons _ _ _ _ _ (pg_name (i := 0) (by show List.Nodup (["number", "other", "p", "factor"] : List Str); decide +kernel) rfl (Or.inl rfl)) (@pgs_cons _ _ _ _ _ (pg_name (i := 1) (by show List.Nodup (["number", "other", "p", "factor"] : List Str); decide +kernel) rfl (Or.inl rfl)) pgs_nil (by rfl)) (by rfl)) (by rfl) (by rfl)), pts_nil, (@pe_op _ _ _ _ _ _ _ _ op_mod (@pe_op _ _ _ _ _ _ _ _ op_sub (pv 0) (@pe_op _ _ _ _ _ _ _ _ op_mulA (pv 3) (pv 1))) (pv 2))⟩))))), ?_⟩
 refine Sv.enterD hlive hds hΦ (ρ := [.d false _, .d false _, .d false _, .d false _]) rfl ?_
 clear hΦ hds
 have hrl : (r.map PyData.int).length = r.length := zq0x ..
 have hol : (o.map PyData.int).length = o.length := zq0x ..
 have hl := hr.len
 have hl2 := ho.len
 have hsm : ∀ x : Int, 0 <= x -> x <= p -> Sm x := fun x x0 x1 => by unfold Sm; omega
 have sc : ∀ L : List Int, scAll (L.map PyData.int) = true := fun L => by unfold scAll; simp [List.all_map, scB]
 walk_at "dt"
 by_cases cc : c = 0
 ·rw [if_pos (decide_eq_true cc)]
  walk_at "dt"
  have := q false
  rw [cc, lessR_zero hr ho] at this
  exact this
 ·rw [if_neg (by simpa using cc)]
  walk_at "dt"
  refine EvN.ev (EvN.compZ (by decide) rfl ?_)
  walk_at "dt"
  refine ⟨sc r, by omega, fun v => ?_⟩
  walk_at "dt"
  refine ⟨sc o, by omega, fun v2 => ⟨true, fun i ds => ds = (lessR p c (r.take i) (o.take i)).map PyData.int, rfl, ?_, ?_⟩⟩
  ·rintro i d ds ⟨e, e2, he, he2, rfl⟩ hl' rfl
   obtain ⟨x, hx, rfl⟩ := map_at he
   obtain ⟨y, hy, rfl⟩ := map_at he2
   obtain ⟨x0, x1⟩ := hr.rg x (zq4x hx)
   obtain ⟨y0, y1⟩ := ho.rg y (zq4x hy)
   have s1 := hsm c c0 (by omega)
   have s2 := hsm x x0 (by omega)
   have s3 := hsm y y0 (by omega)
   walk_at "dt"
   refine ⟨by walk_at "wk", ?_⟩
   walk_at "dt"
   show _ = List.map PyData.int (lessR p c (r.take (i + 1)) (o.take (i + 1)))
   unfold lessR
   rw [take_snoc hx, take_snoc hy, List.zipWith_append (by rw [zq19x, zq19x]; omega), zq16x]
   rfl
  rintro ds hl' rfl
  rw [hrl, zq53x, show r.length = o.length by omega, zq53x]
  exact q _
def F_cleared : DF := fun ds Φ => ∃ (p : Int) (w : Nat) (R : List (List Int)) (k pl : Nat), ds = [.int p, .list (R.map rowD), .int k, .int pl] /\ PrimeZ p /\ p < 10 ^ 40 /\ RwsL p w R /\ R.length <= 9000 /\ k < R.length /\ pl < w /\ w <= 9000 /\ gI (R.getD k []) pl ≠ 0 /\
 ∀ (f : Bool) (inv : Int), (∃ j, inv * gI (R.getD k []) pl = 1 + p * j) -> Φ f (.list ((clearR p inv R k pl).map rowD))
theorem mono_cleared : MonoF F_cleared := by
 intro ds Φ Ψ hm z
 obtain ⟨p, w, R, k, pl, e, h1, h2, h3, h4, h5, h6, h7, h8, q⟩ := hm
 exact ⟨p, w, R, k, pl, e, h1, h2, h3, h4, h5, h6, h7, h8, fun f inv h => z _ _ (q f inv h)⟩
theorem scCleared : FnScope ["p", "rows", "k", "place", "own", "told"] ["p", "rows", "k", "place"] (defScope sCleared) := ⟨rfl, rfl, rfl, by decide +kernel, rfl, by decide +kernel, by decide +kernel⟩
theorem ok_cleared (F : Fun K "cleared" "cleared" sCleared f fd)  (c_times : Callee P w K mg base "times" 1 ["p", "factor", "row"] (spD 3 F_times)) (c_inverse : Callee P w K mg base "inverse" 2 ["p", "b"] spInverse) (c_less : Callee P w K mg base "less" 1 ["p", "row", "factor", "own"] (spD 4 F_less))   :
  FnOk P w K mg base CX0 3 f fd ["p", "rows", "k", "place"] (spD 4 F_cleared) := by
 refine F.ok scCleared (fun vs H Q E h => h.1) (fun cdv A outer s H vs Q E hr h => ?_)
 obtain ⟨nb, ds, Φ, hlive, hds, hΦ, hF⟩ := spD_out h
 obtain ⟨p, w, R, k, pl, rfl, hp, hp40, hR, hRl, hk, hpl, hw, hne, q⟩ := hF
 refine ⟨_, (@pss_cons _ _ _ _ _ (@ps_set _ _ (4) _ _ _ _ scCleared.nd rfl (Or.inr rfl) (@pe_callC _ _ _ _ _ _ _ _ _ _ c_times (hr.mono (by decide)) (@pa_cons _ _ _ _ _ (pv 0) (@pa_cons _ _ _ _ _ (@pe_callC _ _ _ _ _ _ _ _ _ _ c_inverse (hr.mono (by decide)) (@pa_cons _ _ _ _ _ (pv 0) (@pa_cons _ _ _ _ _ (@pe_ix _ _ _ _ _ _ (rIxL K) ix_list (@pe_ix _ _ _ _ _ _ (rIxL K) ix_list (pv 1) (pv 2) (fun _ _ => rfl)) (pv 3) (fun _ _ => rfl)) pa_nil rfl) rfl) (by rfl) (by decide) (by rfl) (by rfl)) (@pa_cons _ _ _ _ _ (@pe_ix _ _ _ _ _ _ (rIxL K) ix_list (pv 1) (pv 2) (fun _ _ => rfl)) pa_nil rfl) rfl) rfl) (by rfl) (by decide) (by rfl) (by rfl)) (by rfl) (by first | exact .inl rfl | exact .inr rfl | assumption)) (@pss_cons _ _ _ _ _ (ps_setC (i := 5) scCleared.nd rfl rfl (CompOk.of (show compOkB (defScope sCleared) ["p", "rows", "k", "place", "own", "told"] _ ["row", "p", "place", "own"] [none, some 0, some 3, some 4] = true by decide +kernel)) (pi_listK (K := K) rfl (pv 1)) (fun _ _ _ _ => ⟨(pg_name (i := 0) (by show List.Nodup (["row", "p", "place", "own"] : List Str); decide +kernel) rfl (Or.inl rfl)), pts_nil, (@pe_callC _ _ _ _ _ _ _ _ _ _ c_less (hr.mono (by decide)) (@pa_cons _ _ _ _ _ (pv 1) (@pa_cons _ _ _ _ _ (pv 0) (@pa_cons _ _ _ _ _ (@pe_ix _ _ _ _ _ _ (rIxL K) ix_list (pv 0) (pv 2) (fun _ _ => rfl)) (@pa_cons _ _ _ _ _ (pv 3) pa_nil rfl) rfl) rfl) rfl) (by rfl) (by decide) (by rfl) (by rfl))⟩)) (@pss_cons _ _ _ _ _ (@ps_asg _ _ _ _ _ _ (pv 4) (pg_sub (pv 5) (pv 2) set_list) (by rfl) (by rfl) (by rfl)) (@pss_one _ _ _ (@ps_ret _ _ _ _ (pv 5)))))), ?_⟩
 refine Sv.enterD hlive hds hΦ (ρ := [.d false _, .d false _, .d false _, .d false _, .no, .no]) rfl ?_
 clear hΦ hds
 have p2 := hp.1
 have hRm : (R.map rowD).length = R.length := zq0x ..
 have hkr : RwL p w R[k] := hR _ (zq29x hk)
 have hkk : R.getD k [] = R[k] := gRow hk
 rw [hkk] at hne q
 have hatk : atI (R.map rowD) (k : Int) = some (rowD R[k]) := atI_some (by omega) (by rw [zq10x, zq84x, zq1x hk]; rfl)
 have hatp : ∀ r, RwL p w r -> atI (r.map PyData.int) (pl : Int) = some (.int (gI r pl)) := fun r h => atI_some (by omega) (by rw [zq10x, zq84x, h.at hpl]; rfl)
 have hatp0 := hatp R[k] hkr
 obtain ⟨g0, g1⟩ := hkr.g (i := pl) (by omega)
 have hgm : gI R[k] pl % p ≠ 0 := by rw [zq71x g0 g1]; exact hne
 walk_at "dt"
 refine Ev.callD mono_times ?_
 walk_at "dt"
 refine Ev.inv ?_
 walk_at "dt"
 refine ⟨p, gI R[k] pl, rfl, hp, hp40, hgm, fun inv i0 i1 hinv => ?_⟩
 walk_at "dt"
 refine ⟨rfl, p, inv, w, R[k], rfl, by omega, hp40, hkr, by omega, i0, i1, ?_⟩
 obtain ⟨own, hown⟩ : ∃ own, mulR p inv R[k] = own := ⟨_, rfl⟩
 have howr : RwL p w own := by rw [<- hown]; exact hkr.mul (by omega)
 rw [hown]
 refine Gv.name ?_
 refine Sv.seq ?_
 refine Sv.setCN ?_
 refine EvN.compL (by decide) rfl ?_
 walk_at "dt"
 refine fun v => ⟨false, fun i ds => ds = ((R.take i).map fun r => lessR p (gI r pl) r own).map rowD, rfl, ?_, ?_⟩
 ·rintro i d ds hd hl' rfl
  obtain ⟨r, hr, rfl⟩ := map_at hd
  have hrr := hR r (zq4x hr)
  have hatr := hatp r hrr
  obtain ⟨r0, r1⟩ := hrr.g (i := pl) (by omega)
  walk_at "dt"
  refine ⟨by walk_at "wk", ?_⟩
  walk_at "dt"
  refine Ev.callD mono_less ?_
  walk_at "dt"
  refine ⟨rfl, p, gI r pl, w, r, own, rfl, by omega, hp40, hrr, howr, by omega, r0, r1, fun f => ⟨fun z => (by cases z), ?_⟩⟩
  show _ = List.map rowD (List.map _ (R.take (i + 1)))
  rw [take_snoc hr, zq16x, zq16x]
  rfl
 rintro ds hl' rfl
 rw [hRm, zq53x]
 intro A5
 walk_at "dt"
 have hix : ixN (List.map rowD (List.map (fun r => lessR p (gI r pl) r own) R)).length (k : Int) = some k := by
  unfold ixN
  rw [zq0x, zq0x]
  repeat (first | rw [if_pos (by omega)] | rw [if_neg (by omega)])
  simp
 refine ⟨_, k, rfl, hix, ?_⟩
 refine Sv.demote 5 rfl ?_
 walk_at "dt"
 rw [<- zq87x]
 have := q
 unfold clearR at this
 simp only [hkk] at this
 rw [<- hown]
 exact this _ inv hinv
def plD (L : List Nat) : PyData := .list (L.map fun (i : Nat) => .int (i : Int))
def F_swept : DF := fun ds Φ => ∃ (p : Int) (w : Nat) (R : List (List Int)) (L : List Nat), ds = [.int p, .list (R.map rowD), plD L] /\ PrimeZ p /\ p < 10 ^ 40 /\ RwsL p w R /\ R.length <= 9000 /\ w <= 9000 /\ (∀ d ∈ L, d < w) /\ L.length <= 9000 /\
 ∀ (f : Bool) (R' : List (List Int)) (T : List (Nat × Nat)), SwI p w R R' T L -> (T.length <= 9000 /\ (LastC w R [] -> LastC w R' T)) -> Φ f (.tuple [.list (R'.map rowD), .dict ((tkD T).map kvD)])
theorem mono_swept : MonoF F_swept := by
 intro ds Φ Ψ hm z
 obtain ⟨p, w, R, L, e, h1, h2, h3, h4, h5, h6, h7, q⟩ := hm
 exact ⟨p, w, R, L, e, h1, h2, h3, h4, h5, h6, h7, fun f R' T a b => z _ _ (q f R' T a b)⟩
theorem tkD_put (T : List (Nat × Nat)) {k d : Nat} (h : k ∉ T.map (·.1)) : putI (tkD T) (k : Int) (.int d) = tkD (T ++ [(k, d)]) := by
 unfold putI
 rw [tkD_has, if_neg (by simpa using h)]
 unfold tkD
 rw [zq16x]
 rfl
theorem plD_at {L : List Nat} {i : Nat} {d : PyData} (h : (L.map fun (i : Nat) => PyData.int (i : Int))[i]? = some d) : ∃ x, L[i]? = some x /\ d = .int (x : Int) := by
 rw [zq10x] at h
 obtain ⟨x, e, h⟩ := zq58x.mp h
 exact ⟨x, e, h.symm⟩
theorem scSwept : FnScope ["p", "rows", "places", "taken", "place", "k"] ["p", "rows", "places"] (defScope sSwept) := ⟨rfl, rfl, rfl, by decide +kernel, rfl, by decide +kernel, by decide +kernel⟩
theorem ok_swept (F : Fun K "swept" "swept" sSwept f fd)  (c_first_with : Callee P w K mg base "first_with" 1 ["rows", "taken", "place"] (spD 3 F_first_with)) (c_cleared : Callee P w K mg base "cleared" 3 ["p", "rows", "k", "place"] (spD 4 F_cleared))   :
  FnOk P w K mg base CX0 4 f fd ["p", "rows", "places"] (spD 3 F_swept) := by
 refine F.ok scSwept (fun vs H Q E h => h.1) (fun cdv A outer s H vs Q E hr h => ?_)
 obtain ⟨nb, ds, Φ, hlive, hds, hΦ, hF⟩ := spD_out h
 obtain ⟨p, w, R, L, rfl, hp, hp40, hR, hRl, hw, hL, hLl, q⟩ := hF
 refine ⟨_, (@pss_cons _ _ _ _ _ (@ps_set _ _ (3) _ _ _ _ scSwept.nd rfl (Or.inl rfl) pe_dnewK (by rfl) (by first | exact .inl rfl | exact .inr rfl | assumption)) (@pss_cons _ _ _ _ _ (@ps_for _ _ _ _ _ _ _ _ zq35x rfl (pi_listK (K := K) rfl (pv 2)) (pg_name (i := 4) scSwept.nd rfl (Or.inl rfl)) (@pss_cons _ _ _ _ _ (@ps_set _ _ (5) _ _ _ _ scSwept.nd rfl (Or.inl rfl) (@pe_callC _ _ _ _ _ _ _ _ _ _ c_first_with (hr.mono (by decide)) (@pa_cons _ _ _ _ _ (pv 1) (@pa_cons _ _ _ _ _ (pv 3) (@pa_cons _ _ _ _ _ (pv 4) pa_nil rfl) rfl) rfl) (by rfl) (by decide) (by rfl) (by rfl)) (by rfl) (by first | exact .inl rfl | exact .inr rfl | assumption)) (@pss_one _ _ _ (@ps_if _ _ _ _ _ _ _ _ (@pt_cmpR _ _ _ _ _ _ _ _ op_notM (pv 5) pe_non (nomark _)) (@pss_cons _ _ _ _ _ (@ps_asg _ _ _ _ _ _ (pv 4) (pg_sub (pv 3) (pv 5) set_dict) (by rfl) (by rfl) (by rfl)) (@pss_one _ _ _ (@ps_set _ _ (1) _ _ _ _ scSwept.nd rfl (Or.inl rfl) (@pe_callC _ _ _ _ _ _ _ _ _ _ c_cleared (hr.mono (by decide)) (@pa_cons _ _ _ _ _ (pv 0) (@pa_cons _ _ _ _ _ (pv 1) (@pa_cons _ _ _ _ _ (pv 5) (@pa_cons _ _ _ _ _ (pv 4) pa_nil rfl) rfl) rfl) rfl) (by rfl) (by decide) (by rfl) (by rfl)) (by rfl) (by first | exact .inl rfl | exact .inr rfl | assumption)))) pss_nil))) (by intro _; rfl)) (@pss_one _ _ _ (@ps_ret _ _ _ _ (@pe_tup _ _ _ _ _ (@pa_cons _ _ _ _ _ (pv 1) (@pa_cons _ _ _ _ _ (pv 3) pa_nil rfl) rfl)))))), ?_⟩
 refine Sv.enterD hlive hds hΦ (ρ := [.d false _, .d false _, .d false _, .no, .no, .no]) rfl ?_
 clear hΦ hds
 have p2 := hp.1
 have hLm : (L.map fun (i : Nat) => PyData.int (i : Int)).length = L.length := zq0x ..
 refine Sv.seq ?_
 refine Sv.asgK (EvK.new ?_)
 intro A3
 refine Sv.seq ?_
 refine Sv.forL ?_
 refine Ev.var rfl ?_
 refine ⟨_, rfl, fun v => ⟨fun i ρ => ∃ (R' : List (List Int)) (T : List (Nat × Nat)) (f1 f3 : Bool) (x4 x5 : Sl), SwI p w R R' T (L.take i) /\ (LastC w R [] -> LastC w R' T) /\ T.length <= i /\ ρ = [.d false (.int p), .d f1 (.list (R'.map rowD)), .d false (plD L), .dic A3 f3 (tkD T), x4, x5], ⟨R, [], _, _, _, _, SwI.init hR, id, zq5x _, rfl⟩, ?_, ?_⟩⟩
 ·rintro i d ρ hd ⟨R', T, f1, f3, x4, x5, hS, hLC, hTl, rfl⟩
  obtain ⟨pl, hpl, rfl⟩ := plD_at hd
  have hil := (zq8x.mp hpl).1
  have hplw := hL pl (zq4x hpl)
  have hRl' := hS.len
  refine Gv.nameI ?_
  refine Sv.seq ?_
  refine Sv.asg ?_
  refine Ev.ofF ?_
  refine EvF.lendDic 3 rfl ?_
  refine EvF.callD mono_first_with ?_
  walk_at "dt"
  refine ⟨rfl, p, w, R', T, pl, rfl, hS.ok, by omega, hp40, by omega, by omega, hplw, by omega, fun hz => ⟨rfl, ?_⟩, fun k hk hkT hne hfst => ⟨rfl, ?_⟩⟩
  ·refine Gv.name ?_
   walk_at "dt"
   refine ⟨R', T, _, _, _, _, ?_, hLC, by omega, rfl⟩
   rw [take_snoc hpl]
   exact hS.skip hz
  ·refine Gv.name ?_
   generalize htl : (tSeq (tAsg (tVar 4) (gSub (tVar 3) (tVar 5) rPutD)) _ : TS) = tl
   walk_at "dt"
   subst htl
   refine Sv.seq ?_
   refine Sv.putDic rfl ?_
   walk_at "dt"
   refine ⟨by unfold tkD; rw [zq0x]; omega, ?_⟩
   rw [tkD_put T hkT]
   refine Sv.asg ?_
   refine Ev.callD mono_cleared ?_
   walk_at "dt"
   refine ⟨rfl, p, w, R', k, pl, rfl, hp, hp40, hS.ok, by omega, hk, hplw, by omega, hne, fun f inv hinv => ?_⟩
   refine Gv.name ?_
   refine ⟨_, _, _, _, _, _, ?_, fun z => (hLC z).take hS (by omega) (by omega) hk hkT hfst, by rw [zq25x, zq52x]; omega, rfl⟩
   rw [take_snoc hpl]
   exact hS.take (by omega) (fun e he => hL e (zq86x he)) hplw hk hkT hne hinv
 ·rintro ρ ⟨R', T, f1, f3, x4, x5, hS, hLC, hTl, rfl⟩
  rw [hLm] at hTl hS
  rw [zq53x] at hS
  refine Sv.demoteDic 3 rfl ?_
  walk_at "dt"
  exact q _ R' T hS ⟨by omega, hLC⟩
def F_swept_all : DF := fun ds Φ => ∃ (p n : Int) (cs : List Prs), ds = [netD p n cs] /\ SNet p n cs /\ ∀ (f : Bool) (R : List (List Int)) (T : List (Nat × Nat)), SwI p (n.toNat + cs.length) (rowsS n.toNat cs.length cs) R T (List.range n.toNat) -> LastC (n.toNat + cs.length) R T -> T.length <= 9000 -> Φ f (.tuple [.list (R.map rowD), .dict ((tkD T).map kvD)])
theorem mono_swept_all : MonoF F_swept_all := by
 intro ds Φ Ψ hm z
 obtain ⟨p, n, cs, e, h1, q⟩ := hm
 exact ⟨p, n, cs, e, h1, fun f R T a b c => z _ _ (q f R T a b c)⟩
theorem scSweptAll : FnScope ["net"] ["net"] (defScope sSweptAll) := ⟨rfl, rfl, rfl, by decide +kernel, rfl, by decide +kernel, by decide +kernel⟩
theorem ok_swept_all (F : Fun K "swept_all" "swept_all" sSweptAll f fd)  (c_swept : Callee P w K mg base "swept" 4 ["p", "rows", "places"] (spD 3 F_swept)) (c_rows_of : Callee P w K mg base "rows_of" 1 ["net"] (spD 1 F_rows_of)) (m_list : mg "list" = none) (m_range : mg "range" = none)  :
  FnOk P w K mg base CX0 5 f fd ["net"] (spD 1 F_swept_all) := by
 refine F.ok scSweptAll (fun vs H Q E h => h.1) (fun cdv A outer s H vs Q E hr h => ?_)
 obtain ⟨nb, ds, Φ, hlive, hds, hΦ, hF⟩ := spD_out h
 obtain ⟨p, n, cs, rfl, hN, q⟩ := hF
 refine ⟨_, (@pss_one _ _ _ (@ps_ret _ _ _ _ (@pe_callC _ _ _ _ _ _ _ _ _ _ c_swept (hr.mono (by decide)) (@pa_cons _ _ _ _ _ (@pe_ix _ _ _ _ _ _ (rIxT K) ix_tup (pv 0) pe_int (fun _ _ => rfl)) (@pa_cons _ _ _ _ _ (@pe_callC _ _ _ _ _ _ _ _ _ _ c_rows_of (hr.mono (by decide)) (@pa_cons _ _ _ _ _ (pv 0) pa_nil rfl) (by rfl) (by decide) (by rfl) (by rfl)) (@pa_cons _ _ _ _ _ (@pe_callTy _ _ _ _ _ _ _ _ _ (call_listR rfl) rfl m_list zq165x (@pa_cons _ _ _ _ _ (@pe_callTy _ _ _ _ _ _ _ _ _ call_rangeM rfl m_range zq183x (@pa_cons _ _ _ _ _ (@pe_ix _ _ _ _ _ _ (rIxT K) ix_tup (pv 0) pe_int (fun _ _ => rfl)) pa_nil rfl) (by decide) (by decide) (by rfl) (by rfl)) pa_nil rfl) (by decide) (by decide) (by rfl) (by rfl)) pa_nil rfl) rfl) rfl) (by rfl) (by decide) (by rfl) (by rfl)))), ?_⟩
 refine Sv.enterD hlive hds hΦ (ρ := [.d false _]) rfl ?_
 clear hΦ hds
 have p2 := hN.hp.1
 have p40 := hN.p40
 have n0 := hN.n0
 have n1 := hN.n1
 have hcl := hN.cl
 walk_at "dt"
 refine Ev.callD mono_swept ?_
 walk_at "dt"
 refine Ev.callD mono_rows_of ?_
 walk_at "dt"
 refine ⟨rfl, p, n, cs, rfl, hN, fun f0 => ?_⟩
 walk_at "dt"
 refine EvN.ev (EvN.listRange ?_)
 walk_at "dt"
 have eL : PyData.list (((List.range n.toNat).map fun (i : Nat) => (0 : Int) + (i : Int)).map .int) = plD (List.range n.toNat) := by
  unfold plD
  rw [zq68x]
  congr 1
  apply zq103x
  intro i _
  show PyData.int (0 + (i : Int)) = _
  rw [zq119x]
 refine ⟨rfl, p, n.toNat + cs.length, rowsS n.toNat cs.length cs, List.range n.toNat, by rw [<- eL]; rfl, hN.hp, p40, hN.rows, by rw [rowsS_len]; omega, by omega, fun d hd => by have := zq39x.mp hd; omega, by rw [zq42x]; omega, fun f1 R T hS hTl => ?_⟩
 exact q _ R T hS (hTl.2 (rowS_last hN)) hTl.1
def F_comes_of : DF := fun ds Φ => ∃ (p n : Int) (cs : List Prs) (c : Nat) (prs : Prs), ds = [netD p n cs, .int c] /\ SNet p n cs /\ cs[c]? = some prs /\
 (∀ w, RwL p n.toNat w -> VN p (cs.take c) w -> p ∣ dueSum prs (w.map some) + 1 -> Φ true .none) /\ ∀ fac : List Int, RwL p c fac -> (∀ j < n.toNat, p ∣ co prs j - cmbF (cs.take c) fac j) -> Φ true (rowD fac)
theorem mono_comes_of : MonoF F_comes_of := by
 intro ds Φ Ψ hm z
 obtain ⟨p, n, cs, c, prs, e, h1, h2, q1, q2⟩ := hm
 exact ⟨p, n, cs, c, prs, e, h1, h2, fun w a b c => z _ _ (q1 w a b c), fun f a b => z _ _ (q2 f a b)⟩
theorem scComesOf : FnScope ["net", "c", "p", "n", "found"] ["net", "c"] (defScope sComesOf) := ⟨rfl, rfl, rfl, by decide +kernel, rfl, by decide +kernel, by decide +kernel⟩
theorem ok_comes_of (F : Fun K "comes_of" "comes_of" sComesOf f fd)  (c_swept_all : Callee P w K mg base "swept_all" 5 ["net"] (spD 1 F_swept_all))   :
  FnOk P w K mg base CX0 6 f fd ["net", "c"] (spD 2 F_comes_of) := by
 refine F.ok scComesOf (fun vs H Q E h => h.1) (fun cdv A outer s H vs Q E hr h => ?_)
 obtain ⟨nb, ds, Φ, hlive, hds, hΦ, hF⟩ := spD_out h
 obtain ⟨p, n, cs, c, prs, rfl, hN, hc, q1, q2⟩ := hF
 refine ⟨_, (@pss_cons _ _ _ _ _ (@ps_set _ _ (2) _ _ _ _ scComesOf.nd rfl (Or.inr rfl) (@pe_ix _ _ _ _ _ _ (rIxT K) ix_tup (pv 0) pe_int (fun _ _ => rfl)) (by rfl) (by first | exact .inl rfl | exact .inr rfl | assumption)) (@pss_cons _ _ _ _ _ (@ps_set _ _ (3) _ _ _ _ scComesOf.nd rfl (Or.inl rfl) (@pe_ix _ _ _ _ _ _ (rIxT K) ix_tup (pv 0) pe_int (fun _ _ => rfl)) (by rfl) (by first | exact .inl rfl | exact .inr rfl | assumption)) (@pss_cons _ _ _ _ _ (@ps_set _ _ (4) _ _ _ _ scComesOf.nd rfl (Or.inl rfl) (@pe_callC _ _ _ _ _ _ _ _ _ _ c_swept_all (hr.mono (by decide)) (@pa_cons _ _ _ _ _ (@pe_tup _ _ _ _ _ (@pa_cons _ _ _ _ _ (pv 2) (@pa_cons _ _ _ _ _ (pv 3) (@pa_cons _ _ _ _ _ (@pe_slice _ _ _ _ _ _ _ _ _ (rSlL K) sl_list (@pe_ix _ _ _ _ _ _ (rIxT K) ix_tup (pv 0) pe_int (fun _ _ => rfl)) po_none (@po_some _ _ _ (@pe_op _ _ _ _ _ _ _ _ op_add (pv 1) pe_int))) pa_nil rfl) rfl) rfl)) pa_nil rfl) (by rfl) (by decide) (by rfl) (by rfl)) (by rfl) (by first | exact .inl rfl | exact .inr rfl | assumption)) (@pss_cons _ _ _ _ _ (@ps_if _ _ _ _ _ _ _ _ (@pt_cmpR _ _ _ _ _ _ _ _ (op_inD hr.units) (pv 1) (@pe_ix _ _ _ _ _ _ (rIxT K) ix_tup (pv 4) pe_int (fun _ _ => rfl)) (by with_unfolding_all rfl)) (@pss_one _ _ _ (@ps_ret _ _ _ _ pe_non)) pss_nil) (@pss_one _ _ _ (@ps_ret _ _ _ _ (pe_lcomp (CompOk.of (show compOkB (defScope sComesOf) ["net", "c", "p", "n", "found"] _ ["factor", "p"] [none, some 2] = true by decide +kernel)) (pi_listK (K := K) rfl (@pe_slice _ _ _ _ _ _ _ _ _ (rSlL K) sl_list (@pe_ix _ _ _ _ _ _ (rIxL K) ix_list (@pe_ix _ _ _ _ _ _ (rIxT K) ix_tup (pv 4) pe_int (fun _ _ => rfl)) (pv 1) (fun _ _ => rfl)) (@po_some _ _ _ (pv 3)) (@po_some _ _ _ (@pe_op _ _ _ _ _ _ _ _ op_add (pv 3) (pv 1))))) (fun _ _ _ _ => ⟨(pg_name (i := 0) (by show List.Nodup (["factor", "p"] : List Str); decide +kernel) rfl (Or.inl rfl)), pts_nil, (@pe_op _ _ _ _ _ _ _ _ op_mod (@pe_un _ _ _ _ _ _ un_neg (pv 0)) (pv 1))⟩)))))))), ?_⟩
 refine Sv.enterD hlive hds hΦ (ρ := [.d false _, .d false _, .no, .no, .no]) rfl ?_
 clear hΦ hds
 have p2 := hN.hp.1
 have p40 := hN.p40
 have n0 := hN.n0
 have n1 := hN.n1
 have hcl := hN.cl
 have hlt := (zq8x.mp hc).1
 have hcm : (cs.map prsD).length = cs.length := zq0x ..
 walk_at "dt"
 refine Ev.callD mono_swept_all ?_
 walk_at "dt"
 have ecut : cutA (cs.map prsD) none (some ((c : Int) + 1)) = (cs.take c ++ [prs]).map prsD := by
  rw [cut_to (by omega) (by rw [hcm]; omega), show ((c : Int) + 1).toNat = c + 1 by omega, <- zq74x, take_snoc hc]
 rw [ecut]
 have hN' : SNet p n (cs.take c ++ [prs]) := by rw [<- take_snoc hc]; exact hN.take _
 have hlc : (cs.take c).length = c := by rw [zq19x]; omega
 refine ⟨rfl, p, n, cs.take c ++ [prs], rfl, hN', fun f1 R T hS hL hTl => ?_⟩
 have hRl : R.length = c + 1 := by rw [hS.len, rowsS_len, zq25x, hlc, zq52x]
 have hml : (cs.take c ++ [prs]).length = c + 1 := by rw [zq25x, hlc, zq52x]
 have hth := tkD_has T c
 walk_at "dt"
 refine Ev.inDd ?_
 walk_at "dt"
 refine ⟨tkD T, rfl, _, rfl, ?_⟩
 rw [hth]
 by_cases ct : c ∈ T.map (·.1)
 ·rw [if_pos (by simpa using ct)]
  walk_at "dt"
  obtain ⟨w, hw, hV, hd⟩ := last_none hN' hS hL (by rw [hlc]; exact ct)
  exact q1 w hw hV hd
 ·rw [if_neg (by simpa using ct)]
  have hlt' : c < R.length := by omega
  obtain ⟨r, hr, hat⟩ := atI_nat' (xs := R) (k := (c : Int)) rowD (by omega) (by omega) rfl
  rw [zq84x] at hr
  have hrr := hS.ok r (zq4x hr)
  have hrl := hrr.len
  have hrm : (r.map PyData.int).length = r.length := zq0x ..
  have ecut2 : cutA (r.map PyData.int) (some n) (some (n + (c : Int))) = ((r.drop n.toNat).take c).map PyData.int := by
   rw [cut_mid (by omega) (by omega) (by rw [hrm]; omega), show (n + (c : Int) - n).toNat = c by omega, zq74x, zq95x]
  walk_at "dt"
  refine EvN.ev (EvN.compL (by decide) rfl ?_)
  walk_at "dt"
  rw [ecut2]
  have hdl : ((r.drop n.toNat).take c).length = c := by rw [zq19x, zq40x]; omega
  refine ⟨by rw [zq0x, hdl]; omega, fun v => ?_⟩
  refine CompD.rel PyData.int true (fun i o => o = -(gI r (n.toNat + i)) % p) ?_ fun os hol hos => ?_
  ·rintro i d hd
   obtain ⟨x, hx, rfl⟩ := map_at hd
   have hi : i < c := by have := (zq8x.mp hx).1; omega
   have ex : x = gI r (n.toNat + i) := by
    rw [zq89x hi, zq130x] at hx
    unfold gI
    rw [zq2x, hx]
    rfl
   walk_at "dt"
   refine ⟨by walk_at "wk", ?_⟩
   walk_at "dt"
   rw [ex]
  ·rw [zq0x, hdl] at hol
   have hg : R.getD c [] = r := by rw [zq2x, hr]; rfl
   refine q2 os ⟨hol, fun x hx => ?_⟩ ?_
   ·obtain ⟨i, hi⟩ := zq34x hx
    rw [hos i x hi]
    exact ⟨zq24x _ (by omega), zq28x _ (by omega)⟩
   ·refine last_sum hN' hS hL (by rw [hlc]; exact ct) os (by rw [hlc]; exact hol) fun i hi => ?_
    rw [hlc] at hi ⊢
    rw [hg]
    have e := hos i _ (zq1x (by omega))
    have e2 : gI os i = os[i]'(by omega) := by unfold gI; rw [zq2x, zq1x (by omega)]; rfl
    rw [e2, e, zq63x]
    exact ⟨-(-(gI r (n.toNat + i)) / p), by grind⟩
def F_rank : DF := fun ds Φ => ∃ (p n : Int) (cs : List Prs), ds = [netD p n cs] /\ SNet p n cs /\ ∀ k : Nat, Rk p n.toNat (VN p cs) k -> Φ true (.int k)
theorem mono_rank : MonoF F_rank := by
 intro ds Φ Ψ hm z
 obtain ⟨p, n, cs, e, h1, q⟩ := hm
 exact ⟨p, n, cs, e, h1, fun k a => z _ _ (q k a)⟩
theorem scRank : FnScope ["net"] ["net"] (defScope sRank) := ⟨rfl, rfl, rfl, by decide +kernel, rfl, by decide +kernel, by decide +kernel⟩
theorem ok_rank (F : Fun K "rank" "rank" sRank f fd)  (c_swept_all : Callee P w K mg base "swept_all" 5 ["net"] (spD 1 F_swept_all)) (m_len : mg "len" = none)  :
  FnOk P w K mg base CX0 6 f fd ["net"] (spD 1 F_rank) := by
 refine F.ok scRank (fun vs H Q E h => h.1) (fun cdv A outer s H vs Q E hr h => ?_)
 obtain ⟨nb, ds, Φ, hlive, hds, hΦ, hF⟩ := spD_out h
 obtain ⟨p, n, cs, rfl, hN, q⟩ := hF
 refine ⟨_, (@pss_one _ _ _ (@ps_ret _ _ _ _ (@pe_callB _ _ _ _ _ _ _ _ (rLenR) call_lenR rfl m_len zq46x (@pa_cons _ _ _ _ _ (@pe_ix _ _ _ _ _ _ (rIxT K) ix_tup (@pe_callC _ _ _ _ _ _ _ _ _ _ c_swept_all (hr.mono (by decide)) (@pa_cons _ _ _ _ _ (pv 0) pa_nil rfl) (by rfl) (by decide) (by rfl) (by rfl)) pe_int (fun _ _ => rfl)) pa_nil rfl) (by decide) (by decide) (by rfl) (by rfl)))), ?_⟩
 refine Sv.enterD hlive hds hΦ (ρ := [.d false _]) rfl ?_
 clear hΦ hds
 walk_at "dt"
 refine Ev.lenDd ?_
 walk_at "dt"
 refine Ev.callD mono_swept_all ?_
 walk_at "dt"
 refine ⟨rfl, p, n, cs, rfl, hN, fun f1 R T hS hL hTl => ?_⟩
 walk_at "dt"
 refine ⟨tkD T, rfl, ?_⟩
 rw [show List.length (tkD T) = T.length by unfold tkD; rw [zq0x]]
 exact q _ (hS.rank hN)
theorem scLawBag : FnScope ["script", "stir", "cell"] ["script"] (defScope sLawBag) := ⟨rfl, rfl, rfl, by decide +kernel, rfl, by decide +kernel, by decide +kernel⟩
theorem ok__law_bag (F : Fun K "_law_bag" "_law_bag" sLawBag f fd)   (m_abs : mg "abs" = none)  :
  FnOk P w K mg base CX0 1 f fd ["script"] (spBag K) := by
 refine F.ok scLawBag (fun vs H Q E h => ?_) (fun cdv A outer s H vs Q E hr h => ?_)
 ·obtain ⟨a, ns, rfl, hS, hl, q⟩ := h
  rfl
 obtain ⟨a, ns, rfl, hS, hl, q⟩ := h
 refine ⟨_, (@pss_cons _ _ _ _ _ (@ps_set _ _ (1) _ _ _ _ scLawBag.nd rfl (Or.inl rfl) pe_int (by rfl) (by first | exact .inl rfl | exact .inr rfl | assumption)) (@pss_cons _ _ _ _ _ (@ps_for _ _ _ _ _ _ _ _ zq35x rfl (pi_listK (K := K) rfl (@pe_slice _ _ _ _ _ _ _ _ _ _ sl_list (pv 0) po_none (@po_some _ _ _ pe_int))) (pg_name (i := 2) scLawBag.nd rfl (Or.inl rfl)) (@pss_one _ _ _ (@ps_set _ _ (1) _ _ _ _ scLawBag.nd rfl (Or.inl rfl) (@pe_op _ _ _ _ _ _ _ _ op_mod (@pe_op _ _ _ _ _ _ _ _ op_add (@pe_op _ _ _ _ _ _ _ _ op_add (@pe_op _ _ _ _ _ _ _ _ op_mulA (pv 1) pe_int) (@pe_op _ _ _ _ _ _ _ _ op_mod (pv 2) pe_int)) pe_int) pe_int) (by rfl) (by first | exact .inl rfl | exact .inr rfl | assumption))) (by intro _; rfl)) (@pss_one _ _ _ (@ps_ret _ _ _ _ (@pe_lst _ _ _ _ (@pa_cons _ _ _ _ _ (pe_lcomp (CompOk.of (show compOkB (defScope sLawBag) ["script", "stir", "cell"] _ ["cell"] [none] = true by decide +kernel)) (pi_listK (K := K) rfl (@pe_slice _ _ _ _ _ _ _ _ _ _ sl_list (pv 0) po_none (@po_some _ _ _ pe_int))) (fun _ _ _ _ => ⟨(pg_name (i := 0) (by show List.Nodup (["cell"] : List Str); decide +kernel) rfl (Or.inl rfl)), pts_nil, (@pe_op _ _ _ _ _ _ _ _ op_mod (@pe_callB _ _ _ _ _ _ _ _ _ call_abs rfl m_abs PyProof.Rows.boot_abs (@pa_cons _ _ _ _ _ (pv 0) pa_nil rfl) (by decide) (by decide) (by rfl) (by rfl)) (@pe_op _ _ _ _ _ _ _ _ op_pow pe_int pe_int))⟩)) (@pa_cons _ _ _ _ _ pe_int (@pa_cons _ _ _ _ _ pe_int (@pa_cons _ _ _ _ _ (pv 1) (@pa_cons _ _ _ _ _ pe_int pa_nil rfl) rfl) rfl) rfl) rfl)))))), ?_⟩
 have hcut : cutV (ns.map V.int) none (some 63) = ns.map V.int := by
  have e : (ns.map V.int).length = ns.length := zq0x _
  show List.take (min 63 (ns.map V.int).length - 0) (List.drop 0 (ns.map V.int)) = _
  rw [List.drop_zero]
  exact zq178x (by omega)
 walk_at "st"
 refine R.slL hS fun c hc => ?_
 rw [hcut]
 refine R.iL1 (SqL.of upd_same) ?_
 refine for_list (xs := ns.map V.int) (fun i σ H1 => ∃ (st : Int) (x : Option V), σ = [some (.ref a), some (.int st), x] /\ 0 <= st /\ st < 2147483647 /\ H1 = upd H c (.lst (ns.map V.int))) ⟨19, none, rfl, by omega, by omega, rfl⟩ ?_ ?_ ?_
 ·rintro i σ H1 hi ⟨st, x, rfl, h1, h2, rfl⟩
  exact SqL.of upd_same
 ·rintro i x σ H1 hx ⟨st, y, rfl, h1, h2, rfl⟩
  rw [zq10x] at hx
  obtain ⟨n, _, rfl⟩ := zq58x.mp hx
  walk_at "st"
  exact ⟨_, _, rfl, zq24x _ (by decide), zq28x _ (by decide), rfl⟩
 ·rintro σ H1 ⟨st, x, rfl, h1, h2, rfl⟩
  walk_at "st"
  refine R.slL ((same_new hc).seq hS) fun c2 hc2 => ?_
  rw [hcut]
  refine R.iL1 (SqL.of upd_same) ?_
  intro acc hacc
  refine R.comp_list (xs := ns.map V.int) (fun i σ H2 => ∃ (x : Option V), σ = [x] /\ H2 = upd (upd (upd H c (.lst (ns.map V.int))) c2 (.lst (ns.map V.int))) acc (.lst (((ns.take i).map fun n => (if n < 0 then -n else n) % 10 ^ 60).map V.int))) ⟨none, rfl, rfl⟩ ?_ ?_ ?_
  ·rintro i σ H1 hi ⟨x, rfl, rfl⟩
   refine SqL.of ?_
   rw [upd_ne (ne_of_none upd_same hacc)]
   exact upd_same
  ·rintro i x σ H1 hx ⟨y, rfl, rfl⟩
   rw [zq10x] at hx
   obtain ⟨n, hn, rfl⟩ := zq58x.mp hx
   walk_at "st"
   refine ⟨_, upd_same, ?_, _, rfl, ?_⟩
   ·rw [zq0x, zq0x, zq19x]
    exact small1000 (by omega)
   ·rw [upd_upd, zq143x, hn, zq16x, zq16x]
    rfl
  ·rintro σ H1 ⟨x, rfl, rfl⟩
   walk_at "st"
   refine (show mkL _ _ _ from ⟨by show 5 <= sizeLine; decide, fun p hp => ?_⟩)
   have hn1 := ne_of_none (upd_same (H := upd (upd H c (.lst (ns.map V.int))) c2 (.lst (ns.map V.int))) (a := acc)) hp
   have s1 : Same H (upd (upd (upd H c (.lst (ns.map V.int))) c2 (.lst (ns.map V.int))) acc (.lst (((ns.take (ns.map V.int).length).map fun n => (if n < 0 then -n else n) % 10 ^ 60).map V.int))) := (same_new hc).trans ((same_new hc2).trans (same_new hacc))
   refine q p acc _ (s1.trans (same_new hp)) (s1.free hp) ⟨_, 0, 0, st, 0, upd_same, by rw [upd_ne hn1]; exact upd_same, ?_, ?_, by omega, by omega, by omega, h1, h2⟩
   ·intro y hy
    obtain ⟨z, _, rfl⟩ := zq7x.mp hy
    exact ⟨zq24x _ (by decide), zq28x _ (by decide)⟩
   ·rw [zq0x, zq19x]
    omega
theorem scLawStirred : FnScope ["bag", "many", "found", "k"] ["bag", "many"] (defScope sLawStirred) := ⟨rfl, rfl, rfl, by decide +kernel, rfl, by decide +kernel, by decide +kernel⟩
theorem ok__law_stirred (F : Fun K "_law_stirred" "_law_stirred" sLawStirred f fd)   (m_range : mg "range" = none)  :
  FnOk P w K mg base CX0 1 f fd ["bag", "many"] spDraw := by
 refine F.ok scLawStirred (fun vs H Q E h => ?_) (fun cdv A outer s H vs Q E hr h => ?_)
 ·obtain ⟨b, l, many, rfl, hB, hm, hs, q⟩ := h
  rfl
 obtain ⟨b, l, many, rfl, hB, hm, hs, q⟩ := h
 refine ⟨_, (@pss_cons _ _ _ _ _ (@ps_set _ _ (2) _ _ _ _ scLawStirred.nd rfl (Or.inl rfl) pe_int (by rfl) (by first | exact .inl rfl | exact .inr rfl | assumption)) (@pss_cons _ _ _ _ _ (@ps_for _ _ _ _ _ _ _ _ zq35x rfl (@pi_range1 _ _ _ _ _ _ rfl m_range (@pa_cons _ _ _ _ _ (@pe_op _ _ _ _ _ _ _ _ op_add pe_int (@pe_op _ _ _ _ _ _ _ _ op_fdivS (pe_bm0 PySem.F.plainAttrs_int PySem.F.slot_int_bit_length PySem.F.type_int_bit_length mt_bits (pv 1)) pe_int)) pa_nil rfl) (by rfl)) (pg_name (i := 3) scLawStirred.nd rfl (Or.inl rfl)) (@pss_cons _ _ _ _ _ (@ps_asg _ _ _ _ _ _ (@pe_op _ _ _ _ _ _ _ _ op_add (@pe_ix _ _ _ _ _ _ _ ix_list (pv 0) pe_int (fun _ _ => rfl)) pe_int) (pg_sub (pv 0) pe_int set_list) (by rfl) (by rfl) (by rfl)) (@pss_cons _ _ _ _ _ (@ps_asg _ _ _ _ _ _ (@pe_op _ _ _ _ _ _ _ _ op_mod (@pe_op _ _ _ _ _ _ _ _ op_add (@pe_op _ _ _ _ _ _ _ _ op_add (@pe_op _ _ _ _ _ _ _ _ op_add (@pe_op _ _ _ _ _ _ _ _ op_pow (@pe_ix _ _ _ _ _ _ _ ix_list (pv 0) pe_int (fun _ _ => rfl)) pe_int) (@pe_op _ _ _ _ _ _ _ _ op_mulA pe_int (@pe_ix _ _ _ _ _ _ _ ix_list (pv 0) pe_int (fun _ _ => rfl)))) (@pe_op _ _ _ _ _ _ _ _ op_mulA pe_int (@pe_ix _ _ _ _ _ _ _ ix_list (pv 0) pe_int (fun _ _ => rfl)))) pe_int) pe_int) (pg_sub (pv 0) pe_int set_list) (by rfl) (by rfl) (by rfl)) (@pss_one _ _ _ (@ps_set _ _ (2) _ _ _ _ scLawStirred.nd rfl (Or.inl rfl) (@pe_op _ _ _ _ _ _ _ _ op_add (@pe_op _ _ _ _ _ _ _ _ op_mulA (pv 2) pe_int) (@pe_op _ _ _ _ _ _ _ _ op_fdivS (@pe_ix _ _ _ _ _ _ _ ix_list (pv 0) pe_int (fun _ _ => rfl)) pe_int)) (by rfl) (by first | exact .inl rfl | exact .inr rfl | assumption))))) (by intro _; rfl)) (@pss_one _ _ _ (@ps_ret _ _ _ _ (@pe_op _ _ _ _ _ _ _ _ op_mod (pv 2) (pv 1)))))), ?_⟩
 have hbits := sm_bits hs
 walk_at "st"
 refine for_range (fun i σ H1 => ∃ (fv : Int) (x : Option V), σ = [some (.ref b), some (.int many), some (.int fv), x] /\ But (Nb b) H H1 /\ BagAt H1 b l) ⟨0, none, rfl, But.refl _ _, hB⟩ ?_ ?_
 ·rintro i σ H1 hi ⟨fv, x, rfl, bt, ns, j, c, st, n, h1, h2, h3, h4, h5, h6, h7, h8, h9⟩
  have hlb := bag_ne h1 h2
  walk_at "st"
  refine ⟨_, _, rfl, bt.trans (But.set rfl), ?_⟩
  exact BagAt.put hlb h2 h3 h4 h5 h6 h7 (zq24x _ (by decide)) (zq28x _ (by decide))
 ·rintro σ H1 ⟨fv, x, rfl, bt, B⟩
  walk_at "st"
  exact q _ _ (zq24x _ (by omega)) (zq28x _ hm) bt B
theorem scLawDraw : FnScope ["bag", "many", "found"] ["bag", "many"] (defScope sLawDraw) := ⟨rfl, rfl, rfl, by decide +kernel, rfl, by decide +kernel, by decide +kernel⟩
theorem ok__law_draw (F : Fun K "_law_draw" "_law_draw" sLawDraw f fd)  (c__law_stirred : Callee P w K mg base "_law_stirred" 1 ["bag", "many"] spDraw) (m_len : mg "len" = none)  :
  FnOk P w K mg base CX0 2 f fd ["bag", "many"] spDraw := by
 refine F.ok scLawDraw (fun vs H Q E h => ?_) (fun cdv A outer s H vs Q E hr h => ?_)
 ·obtain ⟨b, l, many, rfl, hB, hm, hs, q⟩ := h
  rfl
 obtain ⟨b, l, many, rfl, hB, hm, hs, q⟩ := h
 refine ⟨_, (@pss_cons _ _ _ _ _ (@ps_if _ _ _ _ _ _ _ _ (PW.pt (pw_and (@pt_cmpR _ _ _ _ _ _ _ _ op_eq (@pe_ix _ _ _ _ _ _ _ ix_list (pv 0) pe_int (fun _ _ => rfl)) pe_int (nomark _)) (pw_and1 (@pt_cmpR _ _ _ _ _ _ _ _ op_lt (@pe_ix _ _ _ _ _ _ _ ix_list (pv 0) pe_int (fun _ _ => rfl)) (@pe_callB _ _ _ _ _ _ _ _ _ call_len_seq rfl m_len zq46x (@pa_cons _ _ _ _ _ (@pe_ix _ _ _ _ _ _ _ ix_list (pv 0) pe_int (fun _ _ => rfl)) pa_nil rfl) (by decide) (by decide) (by rfl) (by rfl)) (nomark _))))) (@pss_cons _ _ _ _ _ (@ps_asg _ _ _ _ _ _ (@pe_ix _ _ _ _ _ _ _ ix_list (@pe_ix _ _ _ _ _ _ _ ix_list (pv 0) pe_int (fun _ _ => rfl)) (@pe_ix _ _ _ _ _ _ _ ix_list (pv 0) pe_int (fun _ _ => rfl)) (fun _ _ => rfl)) (pg_sub (pv 0) pe_int set_list) (by rfl) (by rfl) (by rfl)) (@pss_one _ _ _ (@ps_asg _ _ _ _ _ _ (@pe_op _ _ _ _ _ _ _ _ op_add (@pe_ix _ _ _ _ _ _ _ ix_list (pv 0) pe_int (fun _ _ => rfl)) pe_int) (pg_sub (pv 0) pe_int set_list) (by rfl) (by rfl) (by rfl)))) (@pss_one _ _ _ (@ps_if _ _ _ _ _ _ _ _ (@pt_cmpR _ _ _ _ _ _ _ _ op_eq (@pe_ix _ _ _ _ _ _ _ ix_list (pv 0) pe_int (fun _ _ => rfl)) pe_int (nomark _)) (@pss_one _ _ _ (@ps_ret _ _ _ _ (@pe_callC _ _ _ _ _ _ _ _ _ _ c__law_stirred (hr.mono (by decide)) (@pa_cons _ _ _ _ _ (pv 0) (@pa_cons _ _ _ _ _ (pv 1) pa_nil rfl) rfl) (by rfl) (by decide) (by rfl) (by rfl)))) pss_nil))) (@pss_cons _ _ _ _ _ (@ps_set _ _ (2) _ _ _ _ scLawDraw.nd rfl (Or.inl rfl) (@pe_op _ _ _ _ _ _ _ _ op_mod (@pe_ix _ _ _ _ _ _ _ ix_list (pv 0) pe_int (fun _ _ => rfl)) (pv 1)) (by rfl) (by first | exact .inl rfl | exact .inr rfl | assumption)) (@pss_cons _ _ _ _ _ (@ps_asg _ _ _ _ _ _ (@pe_op _ _ _ _ _ _ _ _ op_fdivS (@pe_ix _ _ _ _ _ _ _ ix_list (pv 0) pe_int (fun _ _ => rfl)) (pv 1)) (pg_sub (pv 0) pe_int set_list) (by rfl) (by rfl) (by rfl)) (@pss_one _ _ _ (@ps_ret _ _ _ _ (pv 2)))))), ?_⟩
 obtain ⟨ns, i, c, st, n, h1, h2, h3, h4, h5, h6, h7, h8, h9⟩ := id hB
 have hlb := bag_ne h1 h2
 have fin : ∀ (H1 : Hp) (i' c' : Int), H1 b = some (.lst [.ref l, .int i', .int c', .int st, .int n]) -> But (Nb b) H H1 -> 0 <= i' -> 0 <= c' -> c' < 10 ^ 60 ->
   ∀ (H2 : Hp), H2 = upd H1 b (.lst [.ref l, .int i', .int (c' / many), .int st, .int n]) -> Q (.int (c' % many)) H2 := fun H1 i' c' e1 bt g1 g2 g3 H2 e2 => by
  subst e2
  have hd1 : 0 <= c' / many := zq146x g2 (by omega)
  have hd2 : c' / many <= c' := Int.ediv_le_self _ g2
  exact q _ _ (zq24x _ (by omega)) (zq28x _ hm) (bt.trans (But.set rfl)) (BagAt.put hlb (bt _ _ hlb h2) h3 h4 g1 hd1 (by omega) h8 h9)
 walk_at "st"
 refine ite2 (fun c1 => ?_) (fun c1 => ?_)
 ·have c1 : c = 0 := of_decide_eq_true c1
  walk_at "st"
  refine ite2 (fun c2 => ?_) (fun c2 => ?_)
  ·have c2 : i < (List.map V.int ns).length := of_decide_eq_true c2
   rw [zq0x] at c2
   have hi : i.toNat < ns.length := by omega
   obtain ⟨g1, g2⟩ := h3 _ (zq29x hi)
   walk_at "st"
   refine R.ixM h2 (v := .int ns[i.toNat]) (atI_some h5 (by rw [zq10x, zq1x hi]; rfl)) ?_
   walk_at "st"
   refine fin (upd H b (.lst [.ref l, .int (i + 1), .int ns[i.toNat], .int st, .int n])) (i + 1) ns[i.toNat] upd_same (But.set rfl) (by omega) g1 g2 _ ?_
   rw [upd_upd]
   rfl
  ·walk_at "st"
   exact ⟨b, l, many, rfl, hB, hm, hs, q⟩
 ·have c1 : ¬ c = 0 := of_decide_eq_false (zq166x.mpr c1)
  walk_at "st"
  exact fin H i c h1 (But.refl _ _) h5 h6 h7 _ rfl
theorem eqv_nilP (is : List Int) : PyData.eqv (.list (is.map PyData.int)) (.list []) = decide (is = []) := by
 cases is <;> simp [PyData.eqv, PyData.eqvAll]
theorem shaped_intsP (is : List Int) : SeqAt.shaped (.list (is.map PyData.int)) = true := by
 have h : PyData.depthAll (is.map PyData.int) = 0 /\ PyData.canLayAll0 (is.map PyData.int) = true := by
  induction is with
  | nil => simp [PyData.depthAll, PyData.canLayAll0]
  | cons a r ih => simp [PyData.depthAll, PyData.depth, PyData.canLayAll0, PyData.canLay0, ih.2, ih.1]
 unfold SeqAt.shaped
 simp [PyData.canLay0, PyData.depth, h.2, h.1]
theorem isDs_intsP {nb : Addr -> Prop} {H : Hp} : ∀ is : List Int, IsDs nb H (is.map PyData.int) (is.map V.int)
 | [] => IsDs.nil
 | i :: is => IsDs.cons (.int i) (isDs_intsP is)
theorem noDiv_of {r : Int} (h0 : r <= 10100) (h : ∀ d : Int, 2 <= d -> d < 102 -> ¬ (d * d <= r /\ r % d = 0)) : NoDiv r := fun d d1 d2 e => by
 by_cases hd : d < 102
 ·exact h d d1 hd ⟨d2, e⟩
 ·have : 102 * 102 <= d * d := Int.mul_le_mul (by omega) (by omega) (by omega) (by omega)
  omega
theorem scLawPrimeFrom : FnScope ["number", "found"] ["number"] (defScope sLawPrimeFrom) := ⟨rfl, rfl, rfl, by decide +kernel, rfl, by decide +kernel, by decide +kernel⟩
theorem ok__law_prime_from (F : Fun K "_law_prime_from" "_law_prime_from" sLawPrimeFrom f fd)   (m_range : mg "range" = none)  :
  FnOk P w K mg base CX0 1 f fd ["number"] spPrimeFrom := by
 refine F.ok scLawPrimeFrom (fun vs H Q E h => ?_) (fun cdv A outer s H vs Q E hr h => ?_)
 ·obtain ⟨n, rfl, hn1, hn2, q⟩ := h
  rfl
 obtain ⟨n, rfl, hn1, hn2, q⟩ := h
 refine ⟨_, (@pss_cons _ _ _ _ _ (@ps_for _ _ _ _ _ _ _ _ zq35x rfl (@pi_range2 _ _ _ _ _ _ _ rfl m_range (@pa_cons _ _ _ _ _ (pv 0) (@pa_cons _ _ _ _ _ (@pe_op _ _ _ _ _ _ _ _ op_add (pv 0) pe_int) pa_nil rfl) rfl) (by rfl) (by rfl)) (pg_name (i := 1) scLawPrimeFrom.nd rfl (Or.inr rfl)) (@pss_one _ _ _ (@ps_if _ _ _ _ _ _ _ _ (@pt_cmpR _ _ _ _ _ _ _ _ (op_eqD hr.units) (pe_lcomp (CompOk.of (show compOkB (defScope sLawPrimeFrom) ["number", "found"] _ ["k", "found"] [none, some 1] = true by decide +kernel)) (@pi_range2 _ _ _ _ _ _ _ rfl m_range (@pa_cons _ _ _ _ _ pe_int (@pa_cons _ _ _ _ _ pe_int pa_nil rfl) rfl) (by rfl) (by rfl)) (fun _ _ _ _ => ⟨(pg_name (i := 0) (by show List.Nodup (["k", "found"] : List Str); decide +kernel) rfl (Or.inl rfl)), (pts_one (PW.pt (pw_and (@pt_cmpR _ _ _ _ _ _ _ _ op_le (@pe_op _ _ _ _ _ _ _ _ op_mulA (pv 0) (pv 0)) (pv 1) (nomark _)) (pw_and1 (@pt_cmpR _ _ _ _ _ _ _ _ op_eq (@pe_op _ _ _ _ _ _ _ _ op_mod (pv 1) (pv 0)) pe_int (nomark _)))))), (pv 0)⟩)) (@pe_lst _ _ _ _ pa_nil) (nomark _)) (@pss_one _ _ _ (@ps_ret _ _ _ _ (pv 1))) pss_nil)) (by intro _; rfl)) (@pss_one _ _ _ (@ps_ret _ _ _ _ pe_int))), ?_⟩
 walk_at "st"
 refine for_range (fun i σ H1 => Same H H1 /\ ∃ (x : Option V), σ = [some (.int n), x]) ⟨Same.refl _, none, rfl⟩ ?_ ?_
 ·rintro i σ H1 hi ⟨s1, x, rfl⟩
  have hi2 : (i : Int) < 60 := by omega
  walk_at "st"
  intro acc hacc
  refine R.comp_range (fun j σ H2 => Same H1 H2 /\ (∃ x : Option V, σ = [x, some (.int (n + i))]) /\ ∃ is : List Int, H2 acc = some (.lst (is.map V.int)) /\ is.length <= j /\ (is = [] -> ∀ d : Int, 2 <= d -> d < 2 + j -> ¬ (d * d <= n + i /\ (n + i) % d = 0))) ?_ ?_ ?_
  ·exact ⟨same_new hacc, ⟨none, rfl⟩, [], upd_same, zq43x _, fun _ d d1 d2 => by omega⟩
  ·rintro j σ H2 hj ⟨s2, ⟨x, rfl⟩, is, e2, l2, h2⟩
   have hj2 : (j : Int) < 100 := by omega
   have next : ∀ d : Int, d < 2 + ((j + 1 : Nat) : Int) -> d < 2 + j \/ d = 2 + j := fun d h => by omega
   walk_at "st"
   refine ite2 (fun c1 => ?_) (fun c1 => ?_)
   ·have c1 : (2 + (j : Int)) * (2 + j) <= n + i := of_decide_eq_true c1
    walk_at "st"
    refine ite2 (fun c2 => ?_) (fun c2 => ?_)
    ·have c2 : (n + i) % (2 + (j : Int)) = 0 := of_decide_eq_true c2
     walk_at "st"
     refine ⟨_, e2, ?_, ?_, ⟨_, rfl⟩, is ++ [2 + (j : Int)], ?_, ?_, fun e => ?_⟩
     ·rw [zq0x]; exact small1000 (by omega)
     ·exact fun a o h => by rw [upd_ne (ne_of_none h hacc)]; exact s2 _ _ h
     ·rw [upd_same, zq16x]; rfl
     ·rw [zq25x, zq52x]; omega
     ·simp at e
    ·have c2 : ¬ (n + i) % (2 + (j : Int)) = 0 := of_decide_eq_false (zq166x.mpr c2)
     refine ⟨s2, ⟨_, rfl⟩, is, e2, by omega, fun e d d1 d2 => ?_⟩
     rcases next d d2 with h | h
     ·exact h2 e d d1 h
     ·rw [h]; exact fun z => c2 z.2
   ·have c1 : ¬ (2 + (j : Int)) * (2 + j) <= n + i := of_decide_eq_false (zq166x.mpr c1)
    walk_at "st"
    refine ⟨s2, ⟨_, rfl⟩, is, e2, by omega, fun e d d1 d2 => ?_⟩
    rcases next d d2 with h | h
    ·exact h2 e d d1 h
    ·rw [h]; exact fun z => c1 z.1
  ·rintro σ H2 ⟨s2, ⟨x, rfl⟩, is, e2, l2, h2⟩
   walk_at "st"
   refine R.lstA (by decide) fun p H3 s3 f3 e3 => ?_
   refine ⟨fun _ => False, .list (is.map PyData.int), .list [], .lst id (s3 _ _ e2) (isDs_intsP is), .lst id e3 IsDs.nil, shaped_intsP is, by decide, ?_⟩
   rw [eqv_nilP]
   walk_at "st"
   have s : Same H H3 := s1.trans (s2.trans s3)
   refine ite2 (fun c => ?_) (fun c => ?_)
   ·have c : is = [] := by simpa using c
    walk_at "st"
    exact q _ _ s (by omega) (by omega) (noDiv_of (by omega) fun d d1 d2 => h2 c d d1 (by omega))
   ·walk_at "st"
    exact ⟨s, _, rfl⟩
 ·rintro σ H1 ⟨s1, x, rfl⟩
  walk_at "st"
  refine q _ _ s1 (by omega) (by omega) fun d d1 d2 => ?_
  have : 2 * 2 <= d * d := Int.mul_le_mul d1 d1 (by omega) (by omega)
  omega
def F__law_prime : DF := fun ds Φ => ds = [] /\ ∀ p : Int, PrimeZ p -> p < 10 ^ 40 -> ∀ f, Φ f (.int p)
theorem mono__law_prime : MonoF F__law_prime := by
 intro ds Φ Ψ hm z
 obtain ⟨e, q⟩ := hm
 exact ⟨e, fun p h1 h2 f => z _ _ (q p h1 h2 f)⟩
theorem prime_pick : ∀ x ∈ ([2, 3, 5, 7, 2, 11, 101, 10007, 65537, 1000003, 998244353, 1000000007, 2147483647, 1000000000039, 10 ^ Int.toNat 39 + 3, 10 ^ Int.toNat 40 - 17, 2305843009213693951, 618970019642690137449562111, 162259276829213363391578010288127, 170141183460469231731687303715884105727] : List Int), x ∈ primeList /\ x < 10 ^ 40 := by decide
theorem scLawPrime : FnScope ["bag", "some", "way"] ["bag"] (defScope sLawPrime) := ⟨rfl, rfl, rfl, by decide +kernel, rfl, by decide +kernel, by decide +kernel⟩
theorem ok__law_prime (F : Fun K "_law_prime" "_law_prime" sLawPrime f fd)  (c__law_draw : Callee P w K mg base "_law_draw" 2 ["bag", "many"] spDraw) (c__law_prime_from : Callee P w K mg base "_law_prime_from" 1 ["number"] spPrimeFrom)   :
  FnOk P w K mg base CX0 3 f fd ["bag"] (spB 1 F__law_prime) := by
 refine F.ok scLawPrime (fun vs H Q E h => h.1) (fun cdv A outer s H vs Q E hr h => ?_)
 obtain ⟨b, l, ws, nb, ds, Φ, rfl, hB, hlive, hnb, hds, hΦ, hF⟩ := spB_out h
 obtain ⟨rfl, q⟩ := hF
 refine ⟨_, (@pss_cons _ _ _ _ _ (@ps_setInts _ 1 _ _ _ _ _ _ scLawPrime.nd rfl (Or.inl rfl) rfl (Or.inl rfl)) (@pss_cons _ _ _ _ _ (@ps_set _ _ (1) _ _ _ _ scLawPrime.nd rfl (Or.inl rfl) (@pe_op _ _ _ _ _ _ _ _ op_cat (pv 1) (@pe_lst _ _ _ _ (@pa_cons _ _ _ _ _ (@pe_op _ _ _ _ _ _ _ _ op_add (@pe_op _ _ _ _ _ _ _ _ op_pow pe_int pe_int) pe_int) (@pa_cons _ _ _ _ _ (@pe_op _ _ _ _ _ _ _ _ op_sub (@pe_op _ _ _ _ _ _ _ _ op_pow pe_int pe_int) pe_int) (@pa_cons _ _ _ _ _ pe_int (@pa_cons _ _ _ _ _ pe_int pa_nil rfl) rfl) rfl) rfl))) (by rfl) (by first | exact .inl rfl | exact .inr rfl | assumption)) (@pss_cons _ _ _ _ _ (@ps_set _ _ (1) _ _ _ _ scLawPrime.nd rfl (Or.inl rfl) (@pe_op _ _ _ _ _ _ _ _ op_cat (pv 1) (@pe_lst _ _ _ _ (@pa_cons _ _ _ _ _ pe_int (@pa_cons _ _ _ _ _ pe_int pa_nil rfl) rfl))) (by rfl) (by first | exact .inl rfl | exact .inr rfl | assumption)) (@pss_cons _ _ _ _ _ (@ps_set _ _ (2) _ _ _ _ scLawPrime.nd rfl (Or.inl rfl) (@pe_callC _ _ _ _ _ _ _ _ _ _ c__law_draw (hr.mono (by decide)) (@pa_cons _ _ _ _ _ (pv 0) (@pa_cons _ _ _ _ _ pe_int pa_nil rfl) rfl) (by rfl) (by decide) (by rfl) (by rfl)) (by rfl) (by first | exact .inl rfl | exact .inr rfl | assumption)) (@pss_one _ _ _ (@ps_ret _ _ _ _ (@pe_ifExp _ _ _ _ _ _ _ _ (@pt_cmpR _ _ _ _ _ _ _ _ op_lt (pv 2) pe_int (nomark _)) (@pe_ix _ _ _ _ _ _ (rIxL K) ix_list (pv 1) (pv 2) (fun _ _ => rfl)) (@pe_callC _ _ _ _ _ _ _ _ _ _ c__law_prime_from (hr.mono (by decide)) (@pa_cons _ _ _ _ _ (@pe_op _ _ _ _ _ _ _ _ op_add pe_int (@pe_callC _ _ _ _ _ _ _ _ _ _ c__law_draw (hr.mono (by decide)) (@pa_cons _ _ _ _ _ (pv 0) (@pa_cons _ _ _ _ _ pe_int pa_nil rfl) rfl) (by rfl) (by decide) (by rfl) (by rfl))) pa_nil rfl) (by rfl) (by decide) (by rfl) (by rfl))))))))), ?_⟩
 refine Sv.enterB hB hlive hnb hds hΦ (ρ := [.bag, .no, .no]) rfl ?_
 clear hΦ hds
 walk_at "dt"
 intro way w1 w2
 by_cases c : way < 20
 ·walk_at "dt"
  obtain ⟨m, em, hm1, hm2⟩ := pick (L := [2, 3, 5, 7, 2, 11, 101, 10007, 65537, 1000003, 998244353, 1000000007, 2147483647, 1000000000039, 10 ^ Int.toNat 39 + 3, 10 ^ Int.toNat 40 - 17, 2305843009213693951, 618970019642690137449562111, 162259276829213363391578010288127, 170141183460469231731687303715884105727]) (k := way) w1 (by show _ < (20 : Int); omega) _ prime_pick
  refine ⟨_, em, ?_⟩
  exact q m (primeZ_list m hm1) hm2 _
 ·walk_at "dt"
  intro r r1 r2
  walk_at "dt"
  exact fun r' h1 h2 => q r' h1 h2 _
theorem scLawCopy : FnScope ["net"] ["net"] (defScope sLawCopy) := ⟨rfl, rfl, rfl, by decide +kernel, rfl, by decide +kernel, by decide +kernel⟩
theorem ok__law_copy (F : Fun K "_law_copy" "_law_copy" sLawCopy f fd)   (m_list : mg "list" = none)  :
  FnOk P w K mg base CX0 1 f fd ["net"] spCopyT := by
 refine F.ok scLawCopy (fun vs H Q E h => ?_) (fun cdv A outer s H vs Q E hr h => ?_)
 ·obtain ⟨nb, p, n, cs, v, rfl, hlive, hv, hl, q⟩ := h
  rfl
 obtain ⟨nb, p, n, cs, v, rfl, hlive, hv, hl, q⟩ := h
 refine ⟨_, (@pss_one _ _ _ (@ps_ret _ _ _ _ (@pe_tup _ _ _ _ _ (@pa_cons _ _ _ _ _ (@pe_ix _ _ _ _ _ _ (rIxT K) ix_tup (pv 0) pe_int (fun _ _ => rfl)) (@pa_cons _ _ _ _ _ (@pe_ix _ _ _ _ _ _ (rIxT K) ix_tup (pv 0) pe_int (fun _ _ => rfl)) (@pa_cons _ _ _ _ _ (pe_lcomp (CompOk.of (show compOkB (defScope sLawCopy) ["net"] _ ["pairs"] [none] = true by decide +kernel)) (pi_listK (K := K) rfl (@pe_ix _ _ _ _ _ _ (rIxT K) ix_tup (pv 0) pe_int (fun _ _ => rfl))) (fun _ _ _ _ => ⟨(pg_name (i := 0) (by show List.Nodup (["pairs"] : List Str); decide +kernel) rfl (Or.inl rfl)), pts_nil, (@pe_callTy _ _ _ _ _ _ _ _ (rListOf K) call_listM rfl m_list zq165x (@pa_cons _ _ _ _ _ (pv 0) pa_nil rfl) (by decide) (by decide) (by rfl) (by rfl))⟩)) pa_nil rfl) rfl) rfl)))), ?_⟩
 refine enterT (N := ["net"]) (ds := [netD p n cs]) (ρ := [.d false (netD p n cs)]) hlive (.cons hv .nil) rfl fun nb1 σ1 H1 W1 => ?_
 have E1 : Ev ⟨none, H, nb, []⟩ [.d false (netD p n cs)] (tOp (rIxT K) (tVar 0) (tC (V.int 0))) fun _ d => d = .int p := by walk_at "dt"; rfl
 have E2 : Ev ⟨none, H, nb, []⟩ [.d false (netD p n cs)] (tOp (rIxT K) (tVar 0) (tC (V.int 1))) fun _ d => d = .int n := by walk_at "dt"; rfl
 refine E1 nb1 σ1 H1 _ W1 fun f1 v1 H2 d1 e1 s1 hv1 => ?_
 have W2 := W1.step s1
 refine E2 nb1 σ1 H2 _ W2 fun f2 v2 H3 d2 e2 s2 hv2 => ?_
 have W3 := W2.step s2
 subst e1 e2
 have ev1 := hv1.ofI
 have ev2 := hv2.ofI
 subst ev1 ev2
 refine EvN.compL (G := ⟨none, H, nb, []⟩) (ρ := [.d false (netD p n cs)]) (Θ := fun _ ds => ds = cs.map prsD) (by decide) rfl ?_ nb1 σ1 H3 _ W3 fun f3 L xs H4 ds e3 s3 hL eL hds => ?_
 ·walk_at "dt"
  refine ⟨by rw [zq0x]; exact hl, fun v => ⟨false, fun i ds => ds = (cs.take i).map prsD, rfl, ?_, ?_⟩⟩
  ·rintro i d ds hd hl' rfl
   obtain ⟨prs, hprs, rfl⟩ := map_at hd
   walk_at "dt"
   refine ⟨by walk_at "wk", ?_⟩
   walk_at "dt"
   refine ⟨fun z => (by cases z), ?_⟩
   show _ = List.map prsD (List.take (i + 1) cs)
   rw [take_snoc hprs, zq16x]
   rfl
  ·rintro ds hl' rfl
   rw [zq0x, zq53x]
 ·subst e3
  have old : ∀ {nb' ρ' σ' H'}, Wd ⟨none, H, nb, []⟩ nb' ρ' σ' H' -> Same H H' := fun W a o e => W.old a o (fun _ _ z => (by cases z)) e
  have W4 := W3.step s3
  have hL0 : H L = none := by
   cases e : H L with
   | none => rfl
   | some o => rw [old W3 L o e] at hL; cases hL
  refine ⟨by show 3 <= sizeLine; decide, fun T hT => ?_⟩
  have hT0 : H T = none := by
   cases e : H T with
   | none => rfl
   | some o => rw [old W4 T o e] at hT; cases hT
  have hLT : L ≠ T := fun z => by rw [z, hT] at eL; cases eL
  refine q T L xs _ (fun a o e => ?_) hT0 hL0 upd_same (by rw [upd_ne hLT]; exact eL) ((hds.av fun a y => ?_).keep fun a o _ e => ?_)
  ·rw [upd_ne (fun z => by rw [z, hT0] at e; cases e)]; exact old W4 a o e
  ·rcases y with y | y
   ·exact .inl (.inr (.inl y))
   ·exact .inr y
  ·rw [upd_ne (fun z => by rw [z, hT] at e; cases e)]; exact e
theorem scLawWhole : FnScope ["found"] ["found"] (defScope sLawWhole) := ⟨rfl, rfl, rfl, by decide +kernel, rfl, by decide +kernel, by decide +kernel⟩
theorem ok__law_whole (F : Fun K "_law_whole" "_law_whole" sLawWhole f fd)   (m_isinstance : mg "isinstance" = none) (m_int : mg "int" = none) (m_bool : mg "bool" = none)  :
  FnOk P w K mg base CX0 1 f fd ["found"] spWhole := by
 refine F.ok scLawWhole (fun vs H Q E h => ?_) (fun cdv A outer s H vs Q E hr h => ?_)
 ·obtain ⟨i, rfl, q⟩ := h
  rfl
 obtain ⟨i, rfl, q⟩ := h
 refine ⟨_, (@pss_one _ _ _ (@ps_ret _ _ _ _ (@pe_and _ _ _ _ _ _ _ (@pe_callB _ _ _ _ _ _ _ _ (rIsi K) call_isi rfl m_isinstance zq184x (@pa_cons _ _ _ _ _ (pv 0) (@pa_cons _ _ _ _ _ (pe_bltn (v := .ty "int") rfl m_int PyProof.Rows.boot_int rfl) pa_nil rfl) rfl) (by decide) (by decide) (by rfl) (by rfl)) (@pe_one _ _ _ _ _ (@pe_not _ _ _ _ (@pe_callB _ _ _ _ _ _ _ _ (rIsi K) call_isi rfl m_isinstance zq184x (@pa_cons _ _ _ _ _ (pv 0) (@pa_cons _ _ _ _ _ (pe_bltn (v := .ty "bool") rfl m_bool PyProof.Rows.boot_bool rfl) pa_nil rfl) rfl) (by decide) (by decide) (by rfl) (by rfl))))))), ?_⟩
 walk_at "st"
 refine R.andV ?_
 walk_at "st"
 exact q
def F__law_summed : DF := fun ds Φ => ∃ (p n : Int) (cs : List Prs), ds = [.int p, .int n, .list (cs.map prsD)] /\ SNet p n cs /\ cs ≠ [] /\ ∀ (prs : Prs), PrsQ p n.toNat prs -> (∀ v : List Int, v.length = n.toNat -> (∀ q ∈ cs, p ∣ dueSum q (v.map some)) -> p ∣ dueSum prs (v.map some)) -> Φ true (prsD prs)
theorem mono__law_summed : MonoF F__law_summed := by
 intro ds Φ Ψ hm z
 obtain ⟨p, n, cs, e, h1, h2, q⟩ := hm
 exact ⟨p, n, cs, e, h1, h2, fun prs a b => z _ _ (q prs a b)⟩
theorem scLawSummed : FnScope ["bag", "p", "n", "checks", "row", "k", "letter", "place", "factor"] ["bag", "p", "n", "checks"] (defScope sLawSummed) := ⟨rfl, rfl, rfl, by decide +kernel, rfl, by decide +kernel, by decide +kernel⟩
theorem ok__law_summed (F : Fun K "_law_summed" "_law_summed" sLawSummed f fd)  (c__law_draw : Callee P w K mg base "_law_draw" 2 ["bag", "many"] spDraw) (m_range : mg "range" = none) (m_len : mg "len" = none)  :
  FnOk P w K mg base CX0 3 f fd ["bag", "p", "n", "checks"] (spB 4 F__law_summed) := by
 refine F.ok scLawSummed (fun vs H Q E h => h.1) (fun cdv A outer s H vs Q E hr h => ?_)
 obtain ⟨b, l, ws, nb, ds, Φ, rfl, hB, hlive, hnb, hds, hΦ, hF⟩ := spB_out h
 obtain ⟨p, n, cs, rfl, hN, hne, q⟩ := hF
 refine ⟨_, (@pss_cons _ _ _ _ _ (@ps_set _ _ (4) _ _ _ _ scLawSummed.nd rfl (Or.inr rfl) (@pe_op _ _ _ _ _ _ _ _ op_rep (@pe_lst _ _ _ _ (@pa_cons _ _ _ _ _ pe_int pa_nil rfl)) (pv 2)) (by rfl) (by first | exact .inl rfl | exact .inr rfl | assumption)) (@pss_cons _ _ _ _ _ (@ps_for _ _ _ _ _ _ _ _ zq35x rfl (@pi_range1 _ _ _ _ _ _ rfl m_range (@pa_cons _ _ _ _ _ (@pe_op _ _ _ _ _ _ _ _ op_add pe_int (@pe_callC _ _ _ _ _ _ _ _ _ _ c__law_draw (hr.mono (by decide)) (@pa_cons _ _ _ _ _ (pv 0) (@pa_cons _ _ _ _ _ pe_int pa_nil rfl) rfl) (by rfl) (by decide) (by rfl) (by rfl))) pa_nil rfl) (by rfl)) (pg_name (i := 5) scLawSummed.nd rfl (Or.inl rfl)) (@pss_cons _ _ _ _ _ (@ps_set _ _ (6) _ _ _ _ scLawSummed.nd rfl (Or.inl rfl) (@pe_op _ _ _ _ _ _ _ _ op_add pe_int (@pe_callC _ _ _ _ _ _ _ _ _ _ c__law_draw (hr.mono (by decide)) (@pa_cons _ _ _ _ _ (pv 0) (@pa_cons _ _ _ _ _ (@pe_op _ _ _ _ _ _ _ _ op_sub (pv 1) pe_int) pa_nil rfl) rfl) (by rfl) (by decide) (by rfl) (by rfl))) (by rfl) (by first | exact .inl rfl | exact .inr rfl | assumption)) (@pss_one _ _ _ (@ps_for _ _ _ _ _ _ _ _ zq35x rfl (pi_listK (K := K) rfl (@pe_ix _ _ _ _ _ _ (rIxL K) ix_list (pv 3) (@pe_callC _ _ _ _ _ _ _ _ _ _ c__law_draw (hr.mono (by decide)) (@pa_cons _ _ _ _ _ (pv 0) (@pa_cons _ _ _ _ _ (@pe_callB _ _ _ _ _ _ _ _ (rLen K) call_lenM rfl m_len zq46x (@pa_cons _ _ _ _ _ (pv 3) pa_nil rfl) (by decide) (by decide) (by rfl) (by rfl)) pa_nil rfl) rfl) (by rfl) (by decide) (by rfl) (by rfl)) (fun _ _ => rfl))) (@pg_tupM _ (K) _ _ _ (2) _ rfl rfl (@pgs_cons _ _ _ _ _ (pg_name (i := 7) scLawSummed.nd rfl (Or.inl rfl)) (@pgs_cons _ _ _ _ _ (pg_name (i := 8) scLawSummed.nd rfl (Or.inl rfl)) pgs_nil (by rfl)) (by rfl)) (by rfl) (by rfl)) (@pss_one _ _ _ (@ps_asg _ _ _ _ _ _ (@pe_op _ _ _ _ _ _ _ _ op_mod (@pe_op _ _ _ _ _ _ _ _ op_add (@pe_ix _ _ _ _ _ _ (rIxL K) ix_list (pv 4) (pv 7) (fun _ _ => rfl)) (@pe_op _ _ _ _ _ _ _ _ op_mulA (pv 6) (pv 8))) (pv 1)) (pg_sub (pv 4) (pv 7) set_list) (by rfl) (by rfl) (by rfl))) (by intro _; rfl)))) (by intro _; rfl)) (@pss_one _ _ _ (@ps_ret _ _ _ _ (pe_lcomp (CompOk.of (show compOkB (defScope sLawSummed) ["bag", "p", "n", "checks", "row", "k", "letter", "place", "factor"] _ ["k", "row"] [none, some 4] = true by decide +kernel)) (@pi_range1 _ _ _ _ _ _ rfl m_range (@pa_cons _ _ _ _ _ (pv 2) pa_nil rfl) (by rfl)) (fun _ _ _ _ => ⟨(pg_name (i := 0) (by show List.Nodup (["k", "row"] : List Str); decide +kernel) rfl (Or.inl rfl)), (pts_one (@pt_cmpR _ _ _ _ _ _ _ _ op_ne (@pe_ix _ _ _ _ _ _ (rIxL K) ix_list (pv 1) (pv 0) (fun _ _ => rfl)) pe_int (nomark _))), (@pe_tup _ _ _ _ _ (@pa_cons _ _ _ _ _ (pv 0) (@pa_cons _ _ _ _ _ (@pe_ix _ _ _ _ _ _ (rIxL K) ix_list (pv 1) (pv 0) (fun _ _ => rfl)) pa_nil rfl) rfl))⟩)))))), ?_⟩
 refine Sv.enterB hB hlive hnb hds hΦ (ρ := [.bag, .d false _, .d false _, .d false _, .no, .no, .no, .no, .no]) rfl ?_
 clear hΦ hds
 have p2 := hN.hp.1
 have p40 := hN.p40
 have hcl := hN.cl
 have n0 := hN.n0
 have n1 := hN.n1
 have hcm : (cs.map prsD).length = cs.length := zq0x ..
 have hc0 : 0 < cs.length := zq185x.mpr hne
 generalize htl : (tSeq (tAsg (tOp rRep _ _) (gName 4)) _ : TS) = tl
 walk_at "dt"
 subst htl
 refine Sv.seq ?_
 refine Sv.asgN (EvN.repD ?_)
 walk_at "dt"
 intro g0
 have hz : List.replicate n.toNat (PyData.int 0) = (List.replicate n.toNat (0 : Int)).map PyData.int := by rw [zq164x]
 rw [hz]
 intro A4
 refine Sv.seq ?_
 refine Sv.forR1 ?_
 walk_at "dt"
 intro many m0 m1
 walk_at "dt"
 refine ⟨fun c ρ => ∃ (r : List Int) (g : Bool) (x5 x6 x7 x8 : Sl), RwL p n.toNat r /\ (∀ v : List Int, v.length = n.toNat -> (∀ q ∈ cs, p ∣ dueSum q (v.map some)) -> p ∣ lin (gI v) r) /\ ρ = [.bag, .d false (.int p), .d false (.int n), .d false (.list (cs.map prsD)), .own A4 g (r.map .int), x5, x6, x7, x8], ⟨_, _, _, _, _, _, (CmbI.init (cs := []) (fac := []) (by omega)).ok, fun v _ _ => ⟨0, by rw [lin_nought, zq30x]⟩, rfl⟩, ?_, ?_⟩
 ·rintro c d ρ ⟨hc, rfl⟩ ⟨r, g, x5, x6, x7, x8, hR, hLT, rfl⟩
  walk_at "dt"
  intro l0 l1 l2
  walk_at "dt"
  refine Sv.forL ?_
  walk_at "dt"
  intro ci c0 c1
  obtain ⟨prs, hprs, hat1⟩ := atI_nat' (xs := cs) prsD c0 (by rw [hcm] at c1; exact c1) rfl
  obtain ⟨g1, g2, g3⟩ := hN.ok prs (zq4x hprs)
  have hpm : (prs.map pairD).length = prs.length := zq0x ..
  walk_at "dt"
  refine fun v => ⟨fun j ρ => ∃ (r : List Int) (g : Bool) (x7 x8 : Sl), RwL p n.toNat r /\ (∀ v : List Int, v.length = n.toNat -> (∀ q ∈ cs, p ∣ dueSum q (v.map some)) -> p ∣ lin (gI v) r - (1 + l0) * dueSum (prs.take j) (v.map some)) /\ ρ = [.bag, .d false (.int p), .d false (.int n), .d false (.list (cs.map prsD)), .own A4 g (r.map .int), .d true (.int (0 + (c : Int))), .d true (.int (1 + l0)), x7, x8], ⟨_, _, _, _, hR, fun v h1 h2 => by show p ∣ _ - _ * 0; rw [zq30x, zq104x]; exact hLT v h1 h2, rfl⟩, ?_, ?_⟩
  ·rintro j d ρ hd ⟨r, g, x7, x8, hJ, hLJ, rfl⟩
   obtain ⟨pr, hprj, rfl⟩ := map_at hd
   obtain ⟨a0, a1, a2, a3⟩ := g3 pr (zq4x hprj)
   have hrl := hJ.len
   have hat3 : atI (r.map PyData.int) pr.1 = some (.int (gI r pr.1.toNat)) := atI_some a0 (by rw [zq10x, hJ.at (by omega)]; rfl)
   obtain ⟨b0, b1⟩ := hJ.g (i := pr.1.toNat) (by omega)
   have s1 : Sm (1 + l0) := by unfold Sm; omega
   have s2 : Sm pr.2 := by unfold Sm; omega
   have hix : ixN (r.map PyData.int).length pr.1 = some pr.1.toNat := by
    unfold ixN
    rw [zq0x]
    repeat (first | rw [if_pos (by omega)] | rw [if_neg (by omega)])
   generalize htl2 : (tAsg (tOp _ _ _) (gSub (tVar 4) _ rSetL) : TS) = tl2
   walk_at "dt"
   subst htl2
   refine Sv.setOwn rfl ?_
   walk_at "dt"
   refine ⟨_, _, rfl, hix, ?_⟩
   rw [<- zq87x]
   refine ⟨_, _, _, _, hJ.put (zq24x _ (by omega)) (zq28x _ (by omega)), fun v h1 h2 => ?_, rfl⟩
   have h3 := lin_pair (l := 1 + l0) (pr := pr) (by omega) (by omega) (hLJ v h1 h2)
   have hjl := (zq8x.mp hprj).1
   rw [dueSum_snoc hjl, (zq8x.mp hprj).2, termOf_some (zq1x (show pr.1.toNat < v.length by omega))]
   have e : gI v pr.1.toNat = v[pr.1.toNat]'(by omega) := by unfold gI; rw [zq2x, zq1x (show pr.1.toNat < v.length by omega)]; rfl
   rw [e] at h3
   rw [zq99x pr.2 (v[pr.1.toNat]'(by omega))]
   exact h3
  ·rintro ρ ⟨r, g, x7, x8, hJ, hLJ, rfl⟩
   refine ⟨_, _, _, _, _, _, hJ, fun v h1 h2 => ?_, rfl⟩
   have h3 := hLJ v h1 h2
   rw [hpm, zq53x] at h3
   obtain ⟨a, ha⟩ := h3
   obtain ⟨b, hb⟩ := h2 prs (zq4x hprs)
   exact ⟨a + (1 + l0) * b, by rw [hb] at ha; grind⟩
 ·rintro ρ ⟨r, g, x5, x6, x7, x8, hR, hLT, rfl⟩
  have hrl := hR.len
  refine Sv.demote 4 rfl ?_
  walk_at "dt"
  refine EvN.ev (EvN.compR1 (by decide) rfl ?_)
  walk_at "dt"
  refine ⟨true, fun i ds => ds = (nzP r i).map pairD, rfl, ?_, ?_⟩
  ·rintro i d ds ⟨hi, rfl⟩ hl' rfl
   have hat : atI (r.map PyData.int) (0 + (i : Int)) = some (.int (gI r i)) := atI_some (by omega) (by rw [zq10x, show (0 + (i : Int)).toNat = i by omega, hR.at hi]; rfl)
   generalize htt : (tTup _ : TE) = tt
   walk_at "dt"
   refine ⟨by walk_at "wk", ?_⟩
   walk_at "dt"
   have hs := nzP_succ r i
   by_cases c : gI r i = 0
   ·rw [if_neg (by simpa using c)] at hs
    walk_at "dt"
    show _ = List.map pairD (nzP r (i + 1))
    rw [hs, zq77x]
   ·rw [if_pos c] at hs
    walk_at "dt"
    subst htt
    refine Ev.tupS ?_
    walk_at "dt"
    refine ⟨fun _ => zq105x _, ?_⟩
    show _ = List.map pairD (nzP r (i + 1))
    rw [hs, zq16x, zq119x]
    rfl
  ·rintro ds hl' rfl
   exact q _ (nzP_ok hR (by omega) (by omega)) fun v h1 h2 => by rw [nz_due h1 hrl]; exact hLT v h1 h2
def F__law_more : DF := fun ds Φ => ∃ (p n many : Int) (cs : List Prs), ds = [netD p n cs, .int many] /\ PrimeZ p /\ p < 10 ^ 40 /\ 1 <= n /\ n <= 400 /\ cs.length <= 400 /\ (∀ prs ∈ cs, PrsQ p n.toNat prs) /\ 0 <= many /\ many <= 10 /\ ∀ (f : Bool) (cs' : List Prs), cs'.length <= cs.length + many.toNat -> (∀ prs ∈ cs', PrsQ p n.toNat prs) -> (∀ v : List Int, v.length = n.toNat -> (VN p cs v ↔ VN p cs' v)) -> Φ f (netD p n cs')
theorem mono__law_more : MonoF F__law_more := by
 intro ds Φ Ψ hm z
 obtain ⟨p, n, m, cs, e, h1, h2, h3, h4, h5, h6, h7, h8, q⟩ := hm
 exact ⟨p, n, m, cs, e, h1, h2, h3, h4, h5, h6, h7, h8, fun f c a b d => z _ _ (q f c a b d)⟩
theorem snet_of {p n : Int} {cs : List Prs} (h1 : PrimeZ p) (h2 : p < 10 ^ 40) (h3 : 1 <= n) (h4 : n <= 400) (h5 : cs.length <= 500) (h6 : ∀ prs ∈ cs, PrsQ p n.toNat prs) : SNet p n cs :=
 ⟨h1, h2, h3, h4, h5, fun prs hp => ⟨(h6 prs hp).1, (h6 prs hp).2.1, fun pr hpr => by have := (h6 prs hp).2.2 pr hpr; omega⟩⟩
theorem shaped_cs (cs : List Prs) : SeqAt.shaped (.list (cs.map prsD)) = true := by
 have h1 := shaped_checks cs
 unfold SeqAt.shaped
 simp [PyData.canLay0, PyData.depth, h1.2]
 have := h1.1
 omega
theorem scLawMore : FnScope ["bag", "net", "many", "p", "n", "checks", "k", "pairs"] ["bag", "net", "many"] (defScope sLawMore) := ⟨rfl, rfl, rfl, by decide +kernel, rfl, by decide +kernel, by decide +kernel⟩
theorem ok__law_more (F : Fun K "_law_more" "_law_more" sLawMore f fd)  (c__law_copy : Callee P w K mg base "_law_copy" 1 ["net"] spCopyT) (c__law_summed : Callee P w K mg base "_law_summed" 3 ["bag", "p", "n", "checks"] (spB 4 F__law_summed)) (c__law_draw : Callee P w K mg base "_law_draw" 2 ["bag", "many"] spDraw) (m_range : mg "range" = none) (m_len : mg "len" = none)  :
  FnOk P w K mg base CX0 4 f fd ["bag", "net", "many"] (spB 3 F__law_more) := by
 refine F.ok scLawMore (fun vs H Q E h => h.1) (fun cdv A outer s H vs Q E hr h => ?_)
 obtain ⟨b, l, ws, nb, ds, Φ, rfl, hB, hlive, hnb, hds, hΦ, hF⟩ := spB_out h
 obtain ⟨p, n, many, cs, rfl, hp, hp40, n0, n1, hcl, hcs, m0, m1, q⟩ := hF
 refine ⟨_, (@pss_cons _ _ _ _ _ (@ps_asg _ _ _ _ _ _ (@pe_callC _ _ _ _ _ _ _ _ _ _ c__law_copy (hr.mono (by decide)) (@pa_cons _ _ _ _ _ (pv 1) pa_nil rfl) (by rfl) (by decide) (by rfl) (by rfl)) (@pg_tupM _ (K) _ _ _ (3) _ rfl rfl (@pgs_cons _ _ _ _ _ (pg_name (i := 3) scLawMore.nd rfl (Or.inl rfl)) (@pgs_cons _ _ _ _ _ (pg_name (i := 4) scLawMore.nd rfl (Or.inl rfl)) (@pgs_cons _ _ _ _ _ (pg_name (i := 5) scLawMore.nd rfl (Or.inl rfl)) pgs_nil (by rfl)) (by rfl)) (by rfl)) (by rfl) (by rfl)) (by rfl) (by rfl) (by rfl)) (@pss_cons _ _ _ _ _ (@ps_for _ _ _ _ _ _ _ _ zq35x rfl (@pi_range1 _ _ _ _ _ _ rfl m_range (@pa_cons _ _ _ _ _ (pv 2) pa_nil rfl) (by rfl)) (pg_name (i := 6) scLawMore.nd rfl (Or.inl rfl)) (@pss_cons _ _ _ _ _ (@ps_set _ _ (7) _ _ _ _ scLawMore.nd rfl (Or.inl rfl) (@pe_ifExp _ _ _ _ _ _ _ _ (@pt_cmpR _ _ _ _ _ _ _ _ (op_neD hr.units) (pv 5) (@pe_lst _ _ _ _ pa_nil) (nomark _)) (@pe_callC _ _ _ _ _ _ _ _ _ _ c__law_summed (hr.mono (by decide)) (@pa_cons _ _ _ _ _ (pv 0) (@pa_cons _ _ _ _ _ (pv 3) (@pa_cons _ _ _ _ _ (pv 4) (@pa_cons _ _ _ _ _ (pv 5) pa_nil rfl) rfl) rfl) rfl) (by rfl) (by decide) (by rfl) (by rfl)) (@pe_lst _ _ _ _ pa_nil)) (by rfl) (by first | exact .inl rfl | exact .inr rfl | assumption)) (@pss_one _ _ _ (@ps_if _ _ _ _ _ _ _ _ (@pt_cmpR _ _ _ _ _ _ _ _ (op_neD hr.units) (pv 7) (@pe_lst _ _ _ _ pa_nil) (nomark _)) (@pss_one _ _ _ (@ps_expr _ _ _ _ (pe_bm zq73x zq156x zq186x mt_insert (pv 5) (@pa_cons _ _ _ _ _ (@pe_callC _ _ _ _ _ _ _ _ _ _ c__law_draw (hr.mono (by decide)) (@pa_cons _ _ _ _ _ (pv 0) (@pa_cons _ _ _ _ _ (@pe_op _ _ _ _ _ _ _ _ op_add (@pe_callB _ _ _ _ _ _ _ _ (rLen K) call_lenM rfl m_len zq46x (@pa_cons _ _ _ _ _ (pv 5) pa_nil rfl) (by decide) (by decide) (by rfl) (by rfl)) pe_int) pa_nil rfl) rfl) (by rfl) (by decide) (by rfl) (by rfl)) (@pa_cons _ _ _ _ _ (pv 7) pa_nil rfl) rfl)) (by rfl))) pss_nil))) (by intro _; rfl)) (@pss_one _ _ _ (@ps_ret _ _ _ _ (@pe_tup _ _ _ _ _ (@pa_cons _ _ _ _ _ (pv 3) (@pa_cons _ _ _ _ _ (pv 4) (@pa_cons _ _ _ _ _ (pv 5) pa_nil rfl) rfl) rfl)))))), ?_⟩
 refine Sv.enterB hB hlive hnb hds hΦ (ρ := [.bag, .d false _, .d false _, .no, .no, .no, .no, .no]) rfl ?_
 clear hΦ hds
 refine Sv.seq ?_
 refine Sv.copy3 (by decide) ?_
 walk_at "dt"
 refine ⟨p, n, cs, rfl, by omega, fun A5 => ?_⟩
 refine Sv.seq ?_
 refine Sv.forR1 ?_
 walk_at "dt"
 refine ⟨fun i ρ => ∃ (g : Bool) (cs' : List Prs) (x6 x7 : Sl), cs'.length <= cs.length + i /\ (∀ prs ∈ cs', PrsQ p n.toNat prs) /\ (∀ v : List Int, v.length = n.toNat -> (VN p cs v ↔ VN p cs' v)) /\ ρ = [.bag, .d false (netD p n cs), .d false (.int many), .d true (.int p), .d true (.int n), .own A5 g (cs'.map prsD), x6, x7], ⟨_, cs, _, _, zq5x _, hcs, fun _ _ => Iff.rfl, rfl⟩, ?_, ?_⟩
 ·rintro i d ρ ⟨hi, rfl⟩ ⟨g, cs', x6, x7, hl', hcs', hT, rfl⟩
  refine Gv.nameI ?_
  have hcm : (cs'.map prsD).length = cs'.length := zq0x ..
  refine Sv.seq ?_
  refine Sv.conseq (fun ρ' => ∃ (prs : Prs) (f7 : Bool), PrsQ p n.toNat prs /\ (∀ v : List Int, v.length = n.toNat -> (∀ q ∈ cs', p ∣ dueSum q (v.map some)) -> p ∣ dueSum prs (v.map some)) /\ ρ' = [.bag, .d false (netD p n cs), .d false (.int many), .d true (.int p), .d true (.int n), .own A5 g (cs'.map prsD), .d true (.int (0 + (i : Int))), .d f7 (prsD prs)]) ?_ ?_
  ·refine Sv.asg ?_
   refine Ev.ifE ?_
   refine Tv.lend 5 rfl ?_
   walk_at "dt"
   refine ⟨shaped_cs cs', by decide, _, rfl, ?_⟩
   rw [show (PyData.list (List.map prsD cs')).eqv (PyData.list (List.map (fun x : Fd => x.snd) [])) = (cs'.map prsD).isEmpty from L2.eqv_nil _]
   by_cases c : cs' = []
   ·subst c
    rw [if_neg (by decide)]
    walk_at "dt"
    exact ⟨[], _, ⟨.nil, by decide, (fun _ h => nomatch h)⟩, (fun _ _ _ => ⟨0, by rw [zq30x]; rfl⟩), rfl⟩
   ·rw [if_pos (by cases cs' with | nil => exact absurd rfl c | cons _ _ => rfl)]
    refine Ev.ofF ?_
    refine EvF.lendOwn 5 rfl ?_
    refine EvF.callB mono__law_summed rfl ?_
    walk_at "dt"
    refine ⟨rfl, p, n, cs', rfl, snet_of hp hp40 n0 n1 (by omega) hcs', c, fun prs hprs hpt => ⟨rfl, ?_⟩⟩
    refine Gv.name ?_
    exact ⟨prs, _, hprs, hpt, rfl⟩
  rintro ρ' ⟨prs, f7, hprs, hpt, rfl⟩
  walk_at "dt"
  refine ⟨(shaped_pairs prs).1, by decide, _, rfl, ?_⟩
  rw [show (prsD prs).eqv (PyData.list (List.map (fun x : Fd => x.snd) [])) = (prs.map pairD).isEmpty from L2.eqv_nil _]
  by_cases c : prs = []
  ·subst c
   rw [if_neg (by decide)]
   walk_at "dt"
   exact ⟨_, _, _, _, by omega, hcs', hT, rfl⟩
  ·rw [if_pos (by cases prs with | nil => exact absurd rfl c | cons _ _ => rfl)]
   refine Sv.insert rfl ?_
   refine Ev.lend 5 rfl ?_
   walk_at "dt"
   rw [hcm]
   intro k k0 k1
   refine ⟨rfl, k, rfl, k0, by omega, by omega, ?_⟩
   refine Ev.var rfl ?_
   have es : (cs'.map prsD).take k.toNat ++ prsD prs :: (cs'.map prsD).drop k.toNat = (cs'.take k.toNat ++ prs :: cs'.drop k.toNat).map prsD := by
    rw [zq16x, zq9x, zq74x, zq95x]
   rw [es]
   refine ⟨_, _, _, _, ?_, fun q hq => ?_, fun v h1 => (hT v h1).trans ⟨fun h2 q hq => ?_, fun h2 q hq => ?_⟩, rfl⟩
   ·rw [zq25x, zq51x, zq19x, zq40x]
    omega
   ·rcases zq22x.mp hq with z | z
    ·exact hcs' q (zq86x z)
    ·rcases zq3x.mp z with z | z
     ·rw [z]; exact hprs
     ·exact hcs' q (zq131x z)
   ·rcases zq22x.mp hq with z | z
    ·exact h2 q (zq86x z)
    ·rcases zq3x.mp z with z | z
     ·rw [z]; exact hpt v h1 h2
     ·exact h2 q (zq131x z)
   ·refine h2 q ?_
    rw [<- zq132x k.toNat cs'] at hq
    rcases zq22x.mp hq with z | z
    ·exact zq48x _ z
    ·exact zq33x _ (zq21x _ z)
 ·rintro ρ ⟨g, cs', x6, x7, hl', hcs', hT, rfl⟩
  refine Sv.demote 5 rfl ?_
  walk_at "dt"
  exact q _ cs' (by omega) hcs' hT
def F__law_row : DF := fun ds Φ => ∃ (p n first : Int), ds = [.int p, .int n, .int first] /\ 2 <= p /\ p < 10 ^ 40 /\ 0 <= first /\ first < n /\ n <= 400 /\ ∀ r : List Int, RwL p n.toNat r -> gI r first.toNat ≠ 0 -> (∀ j < first.toNat, gI r j = 0) -> Φ true (rowD r)
theorem mono__law_row : MonoF F__law_row := by
 intro ds Φ Ψ hm z
 obtain ⟨p, n, first, e, h1, h2, h3, h4, h5, q⟩ := hm
 exact ⟨p, n, first, e, h1, h2, h3, h4, h5, fun r a b c => z _ _ (q r a b c)⟩
theorem scLawRow : FnScope ["bag", "p", "n", "first", "row", "k"] ["bag", "p", "n", "first"] (defScope sLawRow) := ⟨rfl, rfl, rfl, by decide +kernel, rfl, by decide +kernel, by decide +kernel⟩
theorem ok__law_row (F : Fun K "_law_row" "_law_row" sLawRow f fd)  (c__law_draw : Callee P w K mg base "_law_draw" 2 ["bag", "many"] spDraw) (m_range : mg "range" = none)  :
  FnOk P w K mg base CX0 3 f fd ["bag", "p", "n", "first"] (spB 4 F__law_row) := by
 refine F.ok scLawRow (fun vs H Q E h => h.1) (fun cdv A outer s H vs Q E hr h => ?_)
 obtain ⟨b, l, ws, nb, ds, Φ, rfl, hB, hlive, hnb, hds, hΦ, hF⟩ := spB_out h
 obtain ⟨p, n, first, rfl, p2, p40, f0, f1, n1, q⟩ := hF
 refine ⟨_, (@pss_cons _ _ _ _ _ (@ps_set _ _ (4) _ _ _ _ scLawRow.nd rfl (Or.inl rfl) (@pe_op _ _ _ _ _ _ _ _ op_rep (@pe_lst _ _ _ _ (@pa_cons _ _ _ _ _ pe_int pa_nil rfl)) (pv 2)) (by rfl) (by first | exact .inl rfl | exact .inr rfl | assumption)) (@pss_cons _ _ _ _ _ (@ps_for _ _ _ _ _ _ _ _ zq35x rfl (@pi_range1 _ _ _ _ _ _ rfl m_range (@pa_cons _ _ _ _ _ (@pe_callC _ _ _ _ _ _ _ _ _ _ c__law_draw (hr.mono (by decide)) (@pa_cons _ _ _ _ _ (pv 0) (@pa_cons _ _ _ _ _ pe_int pa_nil rfl) rfl) (by rfl) (by decide) (by rfl) (by rfl)) pa_nil rfl) (by rfl)) (pg_name (i := 5) scLawRow.nd rfl (Or.inl rfl)) (@pss_one _ _ _ (@ps_asg _ _ _ _ _ _ (@pe_callC _ _ _ _ _ _ _ _ _ _ c__law_draw (hr.mono (by decide)) (@pa_cons _ _ _ _ _ (pv 0) (@pa_cons _ _ _ _ _ (pv 1) pa_nil rfl) rfl) (by rfl) (by decide) (by rfl) (by rfl)) (pg_sub (pv 4) (@pe_op _ _ _ _ _ _ _ _ op_add (pv 3) (@pe_callC _ _ _ _ _ _ _ _ _ _ c__law_draw (hr.mono (by decide)) (@pa_cons _ _ _ _ _ (pv 0) (@pa_cons _ _ _ _ _ (@pe_op _ _ _ _ _ _ _ _ op_sub (pv 2) (pv 3)) pa_nil rfl) rfl) (by rfl) (by decide) (by rfl) (by rfl))) set_list) (by rfl) (by rfl) (by rfl))) (by intro _; rfl)) (@pss_cons _ _ _ _ _ (@ps_asg _ _ _ _ _ _ (@pe_op _ _ _ _ _ _ _ _ op_add pe_int (@pe_callC _ _ _ _ _ _ _ _ _ _ c__law_draw (hr.mono (by decide)) (@pa_cons _ _ _ _ _ (pv 0) (@pa_cons _ _ _ _ _ (@pe_op _ _ _ _ _ _ _ _ op_sub (pv 1) pe_int) pa_nil rfl) rfl) (by rfl) (by decide) (by rfl) (by rfl))) (pg_sub (pv 4) (pv 3) set_list) (by rfl) (by rfl) (by rfl)) (@pss_one _ _ _ (@ps_ret _ _ _ _ (pv 4)))))), ?_⟩
 refine Sv.enterB hB hlive hnb hds hΦ (ρ := [.bag, .d false _, .d false _, .d false _, .no, .no]) rfl ?_
 clear hΦ hds
 generalize htl : (tSeq (tAsg (tOp rRep _ _) (gName 4)) _ : TS) = tl
 walk_at "dt"
 subst htl
 refine Sv.seq ?_
 refine Sv.asgN (EvN.repD ?_)
 walk_at "dt"
 intro g0
 have hz : List.replicate n.toNat (PyData.int 0) = (List.replicate n.toNat (0 : Int)).map PyData.int := by rw [zq164x]
 rw [hz]
 intro A4
 refine Sv.seq ?_
 refine Sv.forR1 ?_
 walk_at "dt"
 intro many m0 m1
 walk_at "dt"
 refine ⟨fun c ρ => ∃ (r : List Int) (g : Bool) (x5 : Sl), RwL p n.toNat r /\ (∀ j < first.toNat, gI r j = 0) /\ ρ = [.bag, .d false (.int p), .d false (.int n), .d false (.int first), .own A4 g (r.map .int), x5], ⟨_, _, _, (CmbI.init (cs := []) (fac := []) (by omega)).ok, fun j _ => gI_nought _ _, rfl⟩, ?_, ?_⟩
 ·rintro c d ρ ⟨hc, rfl⟩ ⟨r, g, x5, hR, hz, rfl⟩
  have hrl := hR.len
  walk_at "dt"
  intro x y0 y1
  walk_at "dt"
  intro k k0 k1
  walk_at "dt"
  refine ⟨_, _, rfl, ixN_at (by omega) (by rw [zq0x]; omega), ?_⟩
  rw [<- zq87x]
  refine ⟨_, _, _, hR.put y0 y1, fun j hj => ?_, rfl⟩
  rw [gI_set (by omega), if_neg (by omega)]
  exact hz j hj
 ·rintro ρ ⟨r, g, x5, hR, hz, rfl⟩
  have hrl := hR.len
  walk_at "dt"
  intro x y0 y1
  walk_at "dt"
  refine ⟨_, _, rfl, ixN_at (by omega) (by rw [zq0x]; omega), ?_⟩
  rw [<- zq87x]
  refine Sv.lift 4 rfl (scAll_ints _) ?_
  walk_at "dt"
  refine q _ (hR.put (by omega) (by omega)) ?_ fun j hj => ?_
  ·rw [gI_set (by omega), if_pos rfl]
   omega
  ·rw [gI_set (by omega), if_neg (by omega)]
   exact hz j hj
def F__law_ranked : DF := fun ds Φ => ∃ (p n many : Int), ds = [.int p, .int n, .int many] /\ PrimeZ p /\ p < 10 ^ 40 /\ 1 <= n /\ n <= 400 /\ 0 <= many /\ many <= n /\ ∀ (f : Bool) (cs : List Prs), cs.length <= many.toNat + 4 -> (∀ prs ∈ cs, PrsQ p n.toNat prs) -> Rk p n.toNat (VN p cs) many.toNat -> Φ f (netD p n cs)
theorem mono__law_ranked : MonoF F__law_ranked := by
 intro ds Φ Ψ hm z
 obtain ⟨p, n, m, e, h1, h2, h3, h4, h5, h6, q⟩ := hm
 exact ⟨p, n, m, e, h1, h2, h3, h4, h5, h6, fun f c a b d => z _ _ (q f c a b d)⟩
theorem scLawRanked : FnScope ["bag", "p", "n", "many", "more", "turns", "firsts", "rows", "k", "i", "other", "letter", "checks", "row"] ["bag", "p", "n", "many"] (defScope sLawRanked) := ⟨rfl, rfl, rfl, by decide +kernel, rfl, by decide +kernel, by decide +kernel⟩
theorem ok__law_ranked (F : Fun K "_law_ranked" "_law_ranked" sLawRanked f fd)  (c__law_draw : Callee P w K mg base "_law_draw" 2 ["bag", "many"] spDraw) (c__law_more : Callee P w K mg base "_law_more" 4 ["bag", "net", "many"] (spB 3 F__law_more)) (c__law_row : Callee P w K mg base "_law_row" 3 ["bag", "p", "n", "first"] (spB 4 F__law_row)) (m_list : mg "list" = none) (m_range : mg "range" = none) (m_len : mg "len" = none)  :
  FnOk P w K mg base CX0 5 f fd ["bag", "p", "n", "many"] (spB 4 F__law_ranked) := by
 refine F.ok scLawRanked (fun vs H Q E h => h.1) (fun cdv A outer s H vs Q E hr h => ?_)
 obtain ⟨b, l, ws, nb, ds, Φ, rfl, hB, hlive, hnb, hds, hΦ, hF⟩ := spB_out h
 obtain ⟨p, n, many, rfl, hp, hp40, n0, n1, m0, m1, q⟩ := hF
 refine ⟨_, (@pss_cons _ _ _ _ _ (@ps_set _ _ (4) _ _ _ _ scLawRanked.nd rfl (Or.inl rfl) (@pe_callC _ _ _ _ _ _ _ _ _ _ c__law_draw (hr.mono (by decide)) (@pa_cons _ _ _ _ _ (pv 0) (@pa_cons _ _ _ _ _ pe_int pa_nil rfl) rfl) (by rfl) (by decide) (by rfl) (by rfl)) (by rfl) (by first | exact .inl rfl | exact .inr rfl | assumption)) (@pss_cons _ _ _ _ _ (@ps_set _ _ (5) _ _ _ _ scLawRanked.nd rfl (Or.inl rfl) (@pe_callC _ _ _ _ _ _ _ _ _ _ c__law_draw (hr.mono (by decide)) (@pa_cons _ _ _ _ _ (pv 0) (@pa_cons _ _ _ _ _ pe_int pa_nil rfl) rfl) (by rfl) (by decide) (by rfl) (by rfl)) (by rfl) (by first | exact .inl rfl | exact .inr rfl | assumption)) (@pss_cons _ _ _ _ _ (@ps_set _ _ (6) _ _ _ _ scLawRanked.nd rfl (Or.inl rfl) (@pe_callTy _ _ _ _ _ _ _ _ _ (call_listR rfl) rfl m_list zq165x (@pa_cons _ _ _ _ _ (@pe_callTy _ _ _ _ _ _ _ _ _ call_rangeM rfl m_range zq183x (@pa_cons _ _ _ _ _ (pv 2) pa_nil rfl) (by decide) (by decide) (by rfl) (by rfl)) pa_nil rfl) (by decide) (by decide) (by rfl) (by rfl)) (by rfl) (by first | exact .inl rfl | exact .inr rfl | assumption)) (@pss_cons _ _ _ _ _ (@ps_while _ _ _ _ _ _ zq35x (@pt_cmpR _ _ _ _ _ _ _ _ op_gt (@pe_callB _ _ _ _ _ _ _ _ (rLen K) call_lenM rfl m_len zq46x (@pa_cons _ _ _ _ _ (pv 6) pa_nil rfl) (by decide) (by decide) (by rfl) (by rfl)) (pv 3) (nomark _)) (@pss_one _ _ _ (@ps_expr _ _ _ _ (pe_bm zq73x zq167x zq168x mt_popAt (pv 6) (@pa_cons _ _ _ _ _ (@pe_callC _ _ _ _ _ _ _ _ _ _ c__law_draw (hr.mono (by decide)) (@pa_cons _ _ _ _ _ (pv 0) (@pa_cons _ _ _ _ _ (@pe_callB _ _ _ _ _ _ _ _ (rLen K) call_lenM rfl m_len zq46x (@pa_cons _ _ _ _ _ (pv 6) pa_nil rfl) (by decide) (by decide) (by rfl) (by rfl)) pa_nil rfl) rfl) (by rfl) (by decide) (by rfl) (by rfl)) pa_nil rfl)) (by rfl)))) (@pss_cons _ _ _ _ _ (@ps_set _ _ (7) _ _ _ _ scLawRanked.nd rfl (Or.inr rfl) (pe_lcomp (CompOk.of (show compOkB (defScope sLawRanked) ["bag", "p", "n", "many", "more", "turns", "firsts", "rows", "k", "i", "other", "letter", "checks", "row"] _ ["first", "bag", "p", "n"] [none, some 0, some 1, some 2] = true by decide +kernel)) (pi_listK (K := K) rfl (pv 6)) (fun _ _ _ _ => ⟨(pg_name (i := 0) (by show List.Nodup (["first", "bag", "p", "n"] : List Str); decide +kernel) rfl (Or.inl rfl)), pts_nil, (@pe_callC _ _ _ _ _ _ _ _ _ _ c__law_row (hr.mono (by decide)) (@pa_cons _ _ _ _ _ (pv 1) (@pa_cons _ _ _ _ _ (pv 2) (@pa_cons _ _ _ _ _ (pv 3) (@pa_cons _ _ _ _ _ (pv 0) pa_nil rfl) rfl) rfl) rfl) (by rfl) (by decide) (by rfl) (by rfl))⟩)) (by rfl) (by first | exact .inl rfl | exact .inr rfl | assumption)) (@pss_cons _ _ _ _ _ (@ps_for _ _ _ _ _ _ _ _ zq35x rfl (@pi_range1 _ _ _ _ _ _ rfl m_range (@pa_cons _ _ _ _ _ (pv 5) pa_nil rfl) (by rfl)) (pg_name (i := 8) scLawRanked.nd rfl (Or.inl rfl)) (@pss_one _ _ _ (@ps_if _ _ _ _ _ _ _ _ (@pt_cmpR _ _ _ _ _ _ _ _ op_gt (pv 3) pe_int (nomark _)) (@pss_cons _ _ _ _ _ (@ps_set _ _ (9) _ _ _ _ scLawRanked.nd rfl (Or.inr rfl) (@pe_callC _ _ _ _ _ _ _ _ _ _ c__law_draw (hr.mono (by decide)) (@pa_cons _ _ _ _ _ (pv 0) (@pa_cons _ _ _ _ _ (pv 3) pa_nil rfl) rfl) (by rfl) (by decide) (by rfl) (by rfl)) (by rfl) (by first | exact .inl rfl | exact .inr rfl | assumption)) (@pss_cons _ _ _ _ _ (@ps_set _ _ (10) _ _ _ _ scLawRanked.nd rfl (Or.inr rfl) (@pe_ix _ _ _ _ _ _ (rIxL K) ix_list (pv 7) (@pe_op _ _ _ _ _ _ _ _ op_mod (@pe_op _ _ _ _ _ _ _ _ op_add (@pe_op _ _ _ _ _ _ _ _ op_add (pv 9) pe_int) (@pe_callC _ _ _ _ _ _ _ _ _ _ c__law_draw (hr.mono (by decide)) (@pa_cons _ _ _ _ _ (pv 0) (@pa_cons _ _ _ _ _ (@pe_op _ _ _ _ _ _ _ _ op_sub (pv 3) pe_int) pa_nil rfl) rfl) (by rfl) (by decide) (by rfl) (by rfl))) (pv 3)) (fun _ _ => rfl)) (by rfl) (by first | exact .inl rfl | exact .inr rfl | assumption)) (@pss_cons _ _ _ _ _ (@ps_set _ _ (11) _ _ _ _ scLawRanked.nd rfl (Or.inr rfl) (@pe_callC _ _ _ _ _ _ _ _ _ _ c__law_draw (hr.mono (by decide)) (@pa_cons _ _ _ _ _ (pv 0) (@pa_cons _ _ _ _ _ (pv 1) pa_nil rfl) rfl) (by rfl) (by decide) (by rfl) (by rfl)) (by rfl) (by first | exact .inl rfl | exact .inr rfl | assumption)) (@pss_one _ _ _ (@ps_asg _ _ _ _ _ _ (pe_lcomp (CompOk.of (show compOkB (defScope sLawRanked) ["bag", "p", "n", "many", "more", "turns", "firsts", "rows", "k", "i", "other", "letter", "checks", "row"] _ ["k", "p", "rows", "i", "other", "letter"] [none, some 1, some 7, some 9, some 10, some 11] = true by decide +kernel)) (@pi_range1 _ _ _ _ _ _ rfl m_range (@pa_cons _ _ _ _ _ (pv 2) pa_nil rfl) (by rfl)) (fun _ _ _ _ => ⟨(pg_name (i := 0) (by show List.Nodup (["k", "p", "rows", "i", "other", "letter"] : List Str); decide +kernel) rfl (Or.inl rfl)), pts_nil, (@pe_op _ _ _ _ _ _ _ _ op_mod (@pe_op _ _ _ _ _ _ _ _ op_add (@pe_ix _ _ _ _ _ _ (rIxL K) ix_list (@pe_ix _ _ _ _ _ _ (rIxL K) ix_list (pv 2) (pv 3) (fun _ _ => rfl)) (pv 0) (fun _ _ => rfl)) (@pe_op _ _ _ _ _ _ _ _ op_mulA (pv 5) (@pe_ix _ _ _ _ _ _ (rIxL K) ix_list (pv 4) (pv 0) (fun _ _ => rfl)))) (pv 1))⟩)) (pg_sub (pv 7) (pv 9) set_list) (by rfl) (by rfl) (by rfl)))))) pss_nil)) (by intro _; rfl)) (@pss_cons _ _ _ _ _ (@ps_set _ _ (12) _ _ _ _ scLawRanked.nd rfl (Or.inl rfl) (@pe_lst _ _ _ _ pa_nil) (by rfl) (by first | exact .inl rfl | exact .inr rfl | assumption)) (@pss_cons _ _ _ _ _ (@ps_for _ _ _ _ _ _ _ _ zq35x rfl (@pi_range1 _ _ _ _ _ _ rfl m_range (@pa_cons _ _ _ _ _ (pv 3) pa_nil rfl) (by rfl)) (pg_name (i := 8) scLawRanked.nd rfl (Or.inl rfl)) (@pss_cons _ _ _ _ _ (@ps_set _ _ (13) _ _ _ _ scLawRanked.nd rfl (Or.inr rfl) (pe_bm zq73x zq167x zq168x mt_popAt (pv 7) (@pa_cons _ _ _ _ _ (@pe_callC _ _ _ _ _ _ _ _ _ _ c__law_draw (hr.mono (by decide)) (@pa_cons _ _ _ _ _ (pv 0) (@pa_cons _ _ _ _ _ (@pe_callB _ _ _ _ _ _ _ _ (rLen K) call_lenM rfl m_len zq46x (@pa_cons _ _ _ _ _ (pv 7) pa_nil rfl) (by decide) (by decide) (by rfl) (by rfl)) pa_nil rfl) rfl) (by rfl) (by decide) (by rfl) (by rfl)) pa_nil rfl)) (by rfl) (by first | exact .inl rfl | exact .inr rfl | assumption)) (@pss_one _ _ _ (@ps_expr _ _ _ _ (pe_bm zq73x zq162x zq163x mt_append (pv 12) (@pa_cons _ _ _ _ _ (pe_lcomp (CompOk.of (show compOkB (defScope sLawRanked) ["bag", "p", "n", "many", "more", "turns", "firsts", "rows", "k", "i", "other", "letter", "checks", "row"] _ ["k", "row"] [none, some 13] = true by decide +kernel)) (@pi_range1 _ _ _ _ _ _ rfl m_range (@pa_cons _ _ _ _ _ (pv 2) pa_nil rfl) (by rfl)) (fun _ _ _ _ => ⟨(pg_name (i := 0) (by show List.Nodup (["k", "row"] : List Str); decide +kernel) rfl (Or.inl rfl)), (pts_one (@pt_cmpR _ _ _ _ _ _ _ _ op_ne (@pe_ix _ _ _ _ _ _ (rIxL K) ix_list (pv 1) (pv 0) (fun _ _ => rfl)) pe_int (nomark _))), (@pe_tup _ _ _ _ _ (@pa_cons _ _ _ _ _ (pv 0) (@pa_cons _ _ _ _ _ (@pe_ix _ _ _ _ _ _ (rIxL K) ix_list (pv 1) (pv 0) (fun _ _ => rfl)) pa_nil rfl) rfl))⟩)) pa_nil rfl)) (by rfl)))) (by intro _; rfl)) (@pss_one _ _ _ (@ps_ret _ _ _ _ (@pe_callC _ _ _ _ _ _ _ _ _ _ c__law_more (hr.mono (by decide)) (@pa_cons _ _ _ _ _ (pv 0) (@pa_cons _ _ _ _ _ (@pe_tup _ _ _ _ _ (@pa_cons _ _ _ _ _ (pv 1) (@pa_cons _ _ _ _ _ (pv 2) (@pa_cons _ _ _ _ _ (pv 12) pa_nil rfl) rfl) rfl)) (@pa_cons _ _ _ _ _ (pv 4) pa_nil rfl) rfl) rfl) (by rfl) (by decide) (by rfl) (by rfl)))))))))))), ?_⟩
 refine Sv.enterB hB hlive hnb hds hΦ (ρ := [.bag, .d false _, .d false _, .d false _, .no, .no, .no, .no, .no, .no, .no, .no, .no, .no]) rfl ?_
 clear hΦ hds
 have p2 := hp.1
 generalize htl : (tSeq (tAsg (tCB rListR _) (gName 6)) _ : TS) = tl
 walk_at "dt"
 intro more r0 r1
 walk_at "dt"
 intro turns t0 t1
 walk_at "dt"
 subst htl
 refine Sv.seq ?_
 refine Sv.asgN (EvN.listRange ?_)
 walk_at "dt"
 intro A6
 refine Sv.seq ?_
 refine Sv.conseq (fun ρ => ∃ (F : List Int), F.Pairwise (· < ·) /\ (∀ x ∈ F, 0 <= x /\ x < n) /\ (F.length : Int) = many /\ ρ = [.bag, .d false (.int p), .d false (.int n), .d false (.int many), .d true (.int more), .d true (.int turns), .own A6 true (F.map .int), .no, .no, .no, .no, .no, .no, .no]) ?_ ?_
 ·refine Sv.while_ (fun ρ => ∃ (F : List Int), F.Pairwise (· < ·) /\ (∀ x ∈ F, 0 <= x /\ x < n) /\ many <= (F.length : Int) /\ F.length <= n.toNat /\ ρ = [.bag, .d false (.int p), .d false (.int n), .d false (.int many), .d true (.int more), .d true (.int turns), .own A6 true (F.map .int), .no, .no, .no, .no, .no, .no, .no]) (fun (ρ : Rh) => match ρ[6]? with | some (Sl.own _ _ ds) => ds.length | _ => 0) ⟨(List.range n.toNat).map fun (i : Nat) => (0 : Int) + (i : Int), ?_, ?_, ?_, ?_, rfl⟩ ?_
  ·rw [zq72x]
   exact List.pairwise_lt_range.imp fun h => by omega
  ·intro x hx
   obtain ⟨k, hk, rfl⟩ := zq7x.mp hx
   have := zq39x.mp hk
   omega
  ·rw [zq0x, zq42x]; omega
  ·rw [zq0x, zq42x]; exact zq5x _
  rintro ρ' ⟨F, hF1, hF2, hF3, hF4, rfl⟩
  have hFm : (F.map PyData.int).length = F.length := zq0x ..
  walk_at "dt"
  by_cases c2 : many < (F.map PyData.int).length
  ·rw [if_pos (decide_eq_true c2)]
   refine Sv.popDrop rfl ?_
   walk_at "dt"
   intro r r0 r1
   refine ⟨r.toNat, by rw [zq133x r0], by omega, by omega, ?_⟩
   rw [show (List.map PyData.int F).eraseIdx r.toNat = List.map PyData.int (F.eraseIdx r.toNat) by rw [zq96x, zq96x, zq16x, zq74x, zq95x]]
   refine ⟨⟨F.eraseIdx r.toNat, hF1.sublist (List.eraseIdx_sublist ..), fun x hx => hF2 x (zq111x hx), ?_, zq31x (List.length_eraseIdx_le ..) hF4, rfl⟩, ?_⟩
   ·rw [zq134x (by omega)]; omega
   ·show (List.map _ (F.eraseIdx r.toNat)).length < (List.map _ F).length
    rw [zq0x, zq0x, zq134x (by omega)]
    omega
  ·rw [if_neg (by simpa using c2)]
   exact ⟨F, hF1, hF2, by omega, rfl⟩
 rintro ρ' ⟨F, hF1, hF2, hF3, rfl⟩
 have hFm : (F.map PyData.int).length = F.length := zq0x ..
 refine Sv.demote 6 rfl ?_
 refine Sv.seq ?_
 refine Sv.asgN ?_
 refine EvN.compL (by decide) rfl ?_
 walk_at "dt"
 refine fun v => ?_
 refine CompD.rel rowD true (fun i r => ∀ x, F[i]? = some x -> RwL p n.toNat r /\ gI r x.toNat ≠ 0 /\ ∀ j < x.toNat, gI r j = 0) ?_ fun R hRl hR => ?_
 ·rintro i d hd
  obtain ⟨x, hx, rfl⟩ := map_at hd
  obtain ⟨x0, x1⟩ := hF2 x (zq4x hx)
  walk_at "dt"
  refine ⟨by walk_at "wk", ?_⟩
  refine Ev.callB mono__law_row rfl ?_
  walk_at "dt"
  refine ⟨rfl, p, n, x, rfl, p2, hp40, x0, x1, n1, fun r h1 h2 h3 => ?_⟩
  refine ⟨fun _ => zq124x _, r, rfl, fun y hy => ?_⟩
  rw [hx] at hy
  cases hy
  exact ⟨h1, h2, h3⟩
 rw [hFm] at hRl
 rw [zq124x]
 have hRow : ∀ (i : Nat) r, R[i]? = some r -> ∃ x, F[i]? = some x /\ RwL p n.toNat r /\ gI r x.toNat ≠ 0 /\ ∀ j < x.toNat, gI r j = 0 := fun i r hi => by
  have hil := (zq8x.mp hi).1
  have hx : F[i]? = some F[i] := zq1x (by omega)
  exact ⟨_, hx, hR i r hi _ hx⟩
 have hRw : RwsL p n.toNat R := fun r hr => by
  obtain ⟨i, hi⟩ := zq34x hr
  obtain ⟨x, _, h, _⟩ := hRow i r hi
  exact h
 have hRk : Rk p n.toNat (VR p R) many.toNat := by
  have h := Rk.tri (p := p) (n := n.toNat) hp (List.zipWith (fun r x => (r, Int.toNat x)) R F) (fun y hy => ?_) ?_
  ·rw [zq85x, show List.map (fun z : List Int × Nat => z.1) (List.zipWith (fun r x => (r, Int.toNat x)) R F) = R from ?_] at h
   ·rw [show min R.length F.length = many.toNat by omega] at h
    exact h
   ·rw [List.map_zipWith]
    apply zq107x
    ·rw [zq85x]; omega
    ·intro i g1 g2; rw [zq126x]
  ·obtain ⟨i, hi⟩ := zq34x hy
   rw [zq106x] at hi
   have hil : i < R.length := by
    rcases Nat.lt_or_ge i R.length with z | z
    ·exact z
    ·rw [zq60x z] at hi; simp at hi
   have hr : R[i]? = some R[i] := zq1x hil
   obtain ⟨x, hx, h1, h2, h3⟩ := hRow i _ hr
   rw [hr, hx] at hi
   simp at hi
   subst hi
   have := hF2 x (zq4x hx)
   refine ⟨by show x.toNat < n.toNat; omega, fun z => h2 ?_⟩
   have hb := h1.g (i := x.toNat) (by omega)
   exact dvd_small z hb.1 hb.2
  ·rw [zq187x]
   intro i j g1 g2 hij
   rw [zq85x] at g1 g2
   rw [zq126x, zq126x]
   obtain ⟨x, hx, h1, h2, h3⟩ := hRow j _ (zq1x (by omega))
   have hlt := zq187x.mp hF1 i j (by omega) (by omega) hij
   rw [zq1x (by omega)] at hx
   have hx := zq32x hx
   rw [<- hx] at h3
   have := hF2 F[i] (zq29x _)
   show p ∣ gI R[j] F[i].toNat
   rw [h3 _ (by omega)]
   exact ⟨0, by omega⟩
 intro A7
 refine Sv.seq ?_
 refine Sv.forR1 ?_
 walk_at "dt"
 refine ⟨fun i ρ => ∃ (R : List (List Int)) (g : Bool) (x8 x9 x10 x11 : Sl), RwsL p n.toNat R /\ (R.length : Int) = many /\ Rk p n.toNat (VR p R) many.toNat /\ ρ = [.bag, .d false (.int p), .d false (.int n), .d false (.int many), .d true (.int more), .d true (.int turns), .d true (.list (F.map .int)), .own A7 g (R.map rowD), x8, x9, x10, x11, .no, .no], ⟨R, _, _, _, _, _, hRw, by omega, hRk, rfl⟩, ?_, ?_⟩
 ·rintro i d ρ ⟨hi, rfl⟩ ⟨R, g, x8, x9, x10, x11, hRw, hRl, hRk, rfl⟩
  clear hRow hR
  have hRm : (R.map rowD).length = R.length := zq0x ..
  walk_at "dt"
  by_cases c1 : 1 < many
  ·rw [if_pos (decide_eq_true c1)]
   walk_at "dt"
   intro ii i0 i1
   generalize htl2 : (tSeq (tAsg _ (gName 11)) _ : TS) = tl2
   walk_at "dt"
   intro o o0 o1
   walk_at "dt"
   have hio0 := zq24x (ii + 1 + o) (show many ≠ 0 by omega)
   have hio1 := zq28x (ii + 1 + o) (show 0 < many by omega)
   have hne : ii ≠ (ii + 1 + o) % many := fun z => by
    by_cases cc : ii + 1 + o < many
    ·rw [zq71x (by omega) cc] at z; omega
    ·have e : (ii + 1 + o) % many = ii + 1 + o - many := by
      rw [<- Int.sub_emod_right (ii + 1 + o) many, zq71x (by omega) (by omega)]
     omega
   generalize hoo : (ii + 1 + o) % many = oo at hio0 hio1 hne
   obtain ⟨ro, hro, hato⟩ := atI_nat' (xs := R) (k := oo) rowD hio0 (by omega) rfl
   obtain ⟨ri, hri, hati⟩ := atI_nat' (xs := R) (k := ii) rowD i0 (by omega) rfl
   have hrol := (hRw ro (zq4x hro)).len
   have hril := (hRw ri (zq4x hri)).len
   refine ⟨_, hato, ?_⟩
   walk_at "dt"
   subst htl2
   walk_at "dt"
   intro le l0 l1
   walk_at "dt"
   have hrim : (ri.map PyData.int).length = ri.length := zq0x ..
   have hrom : (ro.map PyData.int).length = ro.length := zq0x ..
   have hRi := hRw ri (zq4x hri)
   have hRo := hRw ro (zq4x hro)
   refine EvN.ev (EvN.compR1 (by decide) rfl ?_)
   walk_at "dt"
   refine CompD.rel PyData.int true (fun k x => x = (gI ri k + le * gI ro k) % p) ?_ fun os hol hos => ?_
   ·rintro k d ⟨hk, rfl⟩
    have ha1 : atI (ri.map PyData.int) (0 + (k : Int)) = some (.int (gI ri k)) := atI_some (by omega) (by rw [zq10x, show (0 + (k : Int)).toNat = k by omega, hRi.at hk]; rfl)
    have ha2 : atI (ro.map PyData.int) (0 + (k : Int)) = some (.int (gI ro k)) := atI_some (by omega) (by rw [zq10x, show (0 + (k : Int)).toNat = k by omega, hRo.at hk]; rfl)
    have b1 := hRi.g (i := k) (by omega)
    have b2 := hRo.g (i := k) (by omega)
    have s1 : Sm le := by unfold Sm; omega
    have s2 : Sm (gI ro k) := by unfold Sm; omega
    walk_at "dt"
    refine ⟨by walk_at "wk", ?_⟩
    walk_at "dt"
    rfl
   rw [zq124x]
   walk_at "dt"
   refine ⟨_, _, rfl, ixN_at i0 (by omega), ?_⟩
   rw [show PyData.list (os.map PyData.int) = rowD os from rfl, <- zq87x]
   have hos' : RwL p n.toNat os := ⟨hol, fun x hx => by
    obtain ⟨k, hk⟩ := zq34x hx
    rw [hos k x hk]
    exact ⟨zq24x _ (by omega), zq28x _ (by omega)⟩⟩
   have gi : R.getD ii.toNat [] = ri := by rw [zq2x, hri]; rfl
   have go : R.getD oo.toNat [] = ro := by rw [zq2x, hro]; rfl
   refine ⟨R.set ii.toNat os, _, _, _, _, _, fun r hr => ?_, by rw [zq37x]; exact hRl, hRk.congr (by omega) fun w hw => (VR.set (a := le) (o := oo.toNat) hRw hol (by omega) (by omega) (by omega) fun k hk => ?_).symm, rfl⟩
   ·rcases zq109x hr with z | z
    ·exact hRw r z
    ·rw [z]; exact hos'
   ·have e := hos k _ (zq1x (show k < os.length by omega))
    have e2 : gI os k = os[k] := by unfold gI; rw [zq2x, zq1x (by omega)]; rfl
    rw [gi, go, e2, e, zq63x]
    exact ⟨-((gI ri k + le * gI ro k) / p), by grind⟩
  ·rw [if_neg (by simpa using c1)]
   walk_at "dt"
   exact ⟨R, _, _, _, _, _, hRw, hRl, hRk, rfl⟩
 ·rintro ρ ⟨R, g, x8, x9, x10, x11, hRw, hRl, hRk, rfl⟩
  walk_at "dt"
  intro A12
  refine Sv.seq ?_
  refine Sv.forR1 ?_
  walk_at "dt"
  refine ⟨fun i ρ => ∃ (R' : List (List Int)) (cs : List Prs) (g g2 : Bool) (x8 x13 : Sl), RwsL p n.toNat R' /\ R'.length + i = R.length /\ cs.length = i /\ (∀ prs ∈ cs, PrsQ p n.toNat prs) /\ (∀ w, RwL p n.toNat w -> (VR p R' w /\ VN p cs w ↔ VR p R w)) /\ ρ = [.bag, .d false (.int p), .d false (.int n), .d false (.int many), .d true (.int more), .d true (.int turns), .d true (.list (F.map .int)), .own A7 g (R'.map rowD), x8, x9, x10, x11, .own A12 g2 (cs.map prsD), x13], ⟨R, [], _, _, _, _, hRw, rfl, rfl, (fun _ h => nomatch h), fun w hw => ⟨fun h => h.1, fun h => ⟨h, fun _ h => nomatch h⟩⟩, rfl⟩, ?_, ?_⟩
  ·rintro i d ρ ⟨hi, rfl⟩ ⟨R', cs, g, g2, x8, x13, hR', hl', hcl, hcs, hT, rfl⟩
   have hRm : (R'.map rowD).length = R'.length := zq0x ..
   have hcm : (cs.map prsD).length = cs.length := zq0x ..
   refine Gv.nameI ?_
   refine Sv.seq ?_
   refine Sv.popAt rfl ?_
   walk_at "dt"
   intro r r0 r1
   walk_at "dt"
   rw [hRm] at r1
   obtain ⟨row, hrow⟩ : ∃ row, R'[r.toNat]? = some row := ⟨_, zq1x (by omega)⟩
   refine ⟨r.toNat, rowD row, by rw [zq133x r0], by omega, by rw [zq10x, hrow]; rfl, ?_⟩
   have hRr := hR' row (zq4x hrow)
   have hrl := hRr.len
   have hrm : (row.map PyData.int).length = row.length := zq0x ..
   refine Sv.append rfl ?_
   refine EvN.ev (EvN.compR1 (by decide) rfl ?_)
   walk_at "dt"
   refine ⟨true, fun k ds => ds = (nzP row k).map pairD, rfl, ?_, ?_⟩
   ·rintro k d ds ⟨hk, rfl⟩ hl' rfl
    have hat : atI (row.map PyData.int) (0 + (k : Int)) = some (.int (gI row k)) := atI_some (by omega) (by rw [zq10x, show (0 + (k : Int)).toNat = k by omega, hRr.at hk]; rfl)
    generalize htt : (tTup _ : TE) = tt
    walk_at "dt"
    refine ⟨by walk_at "wk", ?_⟩
    walk_at "dt"
    have hs := nzP_succ row k
    by_cases c : gI row k = 0
    ·rw [if_neg (by simpa using c)] at hs
     walk_at "dt"
     show _ = List.map pairD (nzP row (k + 1))
     rw [hs, zq77x]
    ·rw [if_pos c] at hs
     walk_at "dt"
     subst htt
     refine Ev.tupS ?_
     walk_at "dt"
     refine ⟨fun _ => zq105x _, ?_⟩
     show _ = List.map pairD (nzP row (k + 1))
     rw [hs, zq16x, zq119x]
     rfl
   rintro ds hl2 rfl
   refine ⟨by omega, ?_⟩
   rw [show (List.map rowD R').eraseIdx r.toNat = List.map rowD (R'.eraseIdx r.toNat) by rw [zq96x, zq96x, zq16x, zq74x, zq95x]]
   have hP : PrsQ p n.toNat (nzP row n.toNat) := nzP_ok hRr (by omega) (by omega)
   refine ⟨R'.eraseIdx r.toNat, cs ++ [nzP row n.toNat], _, _, _, _, fun s hs => hR' s (zq111x hs), ?_, by rw [zq25x, hcl]; rfl, fun s hs => ?_, fun w hw => ?_, by rw [zq16x]; rfl⟩
   ·rw [zq134x (by omega)]; omega
   ·rcases zq22x.mp hs with z | z
    ·exact hcs s z
    ·rw [zq17x.mp z]; exact hP
   ·rw [<- hT w hw]
    have hd := nz_due (n := n) hw.len hrl
    constructor
    ·rintro ⟨h1, h2⟩
     refine ⟨fun s hs => ?_, fun s hs => h2 s (zq48x _ hs)⟩
     obtain ⟨j, hj⟩ := zq34x hs
     by_cases c : j = r.toNat
     ·subst c
      rw [hrow] at hj
      cases hj
      rw [<- hd]
      exact h2 _ (zq33x _ (zq17x.mpr rfl))
     ·refine h1 s ?_
      rw [zq188x]
      exact ⟨j, c, hj⟩
    ·rintro ⟨h1, h2⟩
     refine ⟨fun s hs => h1 s (zq111x hs), fun s hs => ?_⟩
     rcases zq22x.mp hs with z | z
     ·exact h2 s z
     ·rw [zq17x.mp z, hd]
      exact h1 _ (zq4x hrow)
  ·rintro ρ ⟨R', cs, g, g2, x8, x13, hR', hl', hcl, hcs, hT, rfl⟩
   have hR0 : R' = [] := zq102x.mp (by omega)
   subst hR0
   refine Sv.demote 12 rfl ?_
   walk_at "dt"
   refine Ev.callB mono__law_more rfl ?_
   walk_at "dt"
   refine ⟨rfl, p, n, more, cs, rfl, hp, hp40, n0, n1, by omega, hcs, r0, by omega, fun f cs' h1 h2 h3 => ?_⟩
   exact q _ cs' (by omega) h2 (hRk.congr (by omega) fun w hw => (hT w hw).symm.trans (Iff.trans ⟨fun h => h.2, fun h => ⟨VR.nil, h⟩⟩ (h3 w hw.len)))
def F__law_is : DF := fun ds Φ => ∃ (p n due : Int) (cs : List Prs), ds = [netD p n cs, .int due] /\ SNet p n cs /\ 0 <= due /\ Rk p n.toNat (VN p cs) due.toNat /\ Φ true (.bool true)
theorem mono__law_is : MonoF F__law_is := by
 intro ds Φ Ψ hm z
 obtain ⟨p, n, due, cs, e, h1, h2, h3, q⟩ := hm
 exact ⟨p, n, due, cs, e, h1, h2, h3, z _ _ q⟩
theorem scLawIs : FnScope ["net", "due", "handed", "found"] ["net", "due"] (defScope sLawIs) := ⟨rfl, rfl, rfl, by decide +kernel, rfl, by decide +kernel, by decide +kernel⟩
theorem ok__law_is (F : Fun K "_law_is" "_law_is" sLawIs f fd)  (c__law_copy : Callee P w K mg base "_law_copy" 1 ["net"] spCopyT) (c_rank : Callee P w K mg base "rank" 6 ["net"] (spD 1 F_rank)) (c__law_whole : Callee P w K mg base "_law_whole" 1 ["found"] spWhole)   :
  FnOk P w K mg base CX0 7 f fd ["net", "due"] (spD 2 F__law_is) := by
 refine F.ok scLawIs (fun vs H Q E h => h.1) (fun cdv A outer s H vs Q E hr h => ?_)
 obtain ⟨nb, ds, Φ, hlive, hds, hΦ, hF⟩ := spD_out h
 obtain ⟨p, n, due, cs, rfl, hN, d0, hRk, q⟩ := hF
 refine ⟨_, (@pss_cons _ _ _ _ _ (@ps_set _ _ (2) _ _ _ _ scLawIs.nd rfl (Or.inl rfl) (@pe_callC _ _ _ _ _ _ _ _ _ _ c__law_copy (hr.mono (by decide)) (@pa_cons _ _ _ _ _ (pv 0) pa_nil rfl) (by rfl) (by decide) (by rfl) (by rfl)) (by rfl) (by first | exact .inl rfl | exact .inr rfl | assumption)) (@pss_cons _ _ _ _ _ (@ps_set _ _ (3) _ _ _ _ scLawIs.nd rfl (Or.inl rfl) (@pe_callC _ _ _ _ _ _ _ _ _ _ c_rank (hr.mono (by decide)) (@pa_cons _ _ _ _ _ (pv 2) pa_nil rfl) (by rfl) (by decide) (by rfl) (by rfl)) (by rfl) (by first | exact .inl rfl | exact .inr rfl | assumption)) (@pss_one _ _ _ (@ps_ret _ _ _ _ (@pe_and _ _ _ _ _ _ _ (@pe_callC _ _ _ _ _ _ _ _ _ _ c__law_whole (hr.mono (by decide)) (@pa_cons _ _ _ _ _ (pv 3) pa_nil rfl) (by rfl) (by decide) (by rfl) (by rfl)) (@pe_and _ _ _ _ _ _ _ (@pe_cmpR _ _ _ _ _ _ _ _ op_eq (pv 3) (pv 1) (nomark _)) (@pe_one _ _ _ _ _ (@pe_cmpR _ _ _ _ _ _ _ _ (op_eqD hr.units) (pv 2) (pv 0) (nomark _))))))))), ?_⟩
 refine Sv.enterD hlive hds hΦ (ρ := [.d false _, .d false _, .no, .no]) rfl ?_
 clear hΦ hds
 have p2 := hN.hp.1
 have hcl := hN.cl
 walk_at "dt"
 refine Ev.copyT ?_
 walk_at "dt"
 refine ⟨p, n, cs, rfl, by omega, ?_⟩
 walk_at "dt"
 refine Ev.callD mono_rank ?_
 walk_at "dt"
 refine ⟨rfl, p, n, cs, rfl, hN, fun k hk => ?_⟩
 have e : ((k : Nat) : Int) = due := by have := hk.uniq hRk p2; omega
 rw [e]
 walk_at "dt"
 refine ⟨shaped_net1 p n cs, shaped_net1 p n cs, ?_⟩
 rw [eqv_refl _ (.inl (shaped_net1 p n cs))]
 exact q
def F__law_other_order : DF := fun ds Φ => ∃ (p n : Int) (cs : List Prs), ds = [netD p n cs] /\ PrimeZ p /\ p < 10 ^ 40 /\ 1 <= n /\ n <= 400 /\ cs.length <= 400 /\ (∀ prs ∈ cs, PrsQ p n.toNat prs) /\ ∀ (f : Bool) (cs' : List Prs), cs'.length = cs.length -> (∀ prs ∈ cs', PrsQ p n.toNat prs) -> (∀ v : List Int, v.length = n.toNat -> (VN p cs v ↔ VN p cs' v)) -> Φ f (netD p n cs')
theorem mono__law_other_order : MonoF F__law_other_order := by
 intro ds Φ Ψ hm z
 obtain ⟨p, n, cs, e, h1, h2, h3, h4, h5, h6, q⟩ := hm
 exact ⟨p, n, cs, e, h1, h2, h3, h4, h5, h6, fun f c a b d => z _ _ (q f c a b d)⟩
theorem shaped_csO (cs : List Prs) : SeqAt.shaped (.list (cs.map prsD)) = true := by
 have h1 := shaped_checks cs
 unfold SeqAt.shaped
 simp [PyData.canLay0, PyData.depth, h1.2]
 have := h1.1
 omega
theorem scLawOtherOrder : FnScope ["bag", "net", "p", "n", "checks", "found", "letter", "pairs"] ["bag", "net"] (defScope sLawOtherOrder) := ⟨rfl, rfl, rfl, by decide +kernel, rfl, by decide +kernel, by decide +kernel⟩
theorem ok__law_other_order (F : Fun K "_law_other_order" "_law_other_order" sLawOtherOrder f fd)  (c__law_copy : Callee P w K mg base "_law_copy" 1 ["net"] spCopyT) (c__law_draw : Callee P w K mg base "_law_draw" 2 ["bag", "many"] spDraw) (m_len : mg "len" = none)  :
  FnOk P w K mg base CX0 3 f fd ["bag", "net"] (spB 2 F__law_other_order) := by
 refine F.ok scLawOtherOrder (fun vs H Q E h => h.1) (fun cdv A outer s H vs Q E hr h => ?_)
 obtain ⟨b, l, ws, nb, ds, Φ, rfl, hB, hlive, hnb, hds, hΦ, hF⟩ := spB_out h
 obtain ⟨p, n, cs, rfl, hp, hp40, n0, n1, hcl, hcs, q⟩ := hF
 refine ⟨_, (@pss_cons _ _ _ _ _ (@ps_asg _ _ _ _ _ _ (@pe_callC _ _ _ _ _ _ _ _ _ _ c__law_copy (hr.mono (by decide)) (@pa_cons _ _ _ _ _ (pv 1) pa_nil rfl) (by rfl) (by decide) (by rfl) (by rfl)) (@pg_tupM _ (K) _ _ _ (3) _ rfl rfl (@pgs_cons _ _ _ _ _ (pg_name (i := 2) scLawOtherOrder.nd rfl (Or.inr rfl)) (@pgs_cons _ _ _ _ _ (pg_name (i := 3) scLawOtherOrder.nd rfl (Or.inl rfl)) (@pgs_cons _ _ _ _ _ (pg_name (i := 4) scLawOtherOrder.nd rfl (Or.inl rfl)) pgs_nil (by rfl)) (by rfl)) (by rfl)) (by rfl) (by rfl)) (by rfl) (by rfl) (by rfl)) (@pss_cons _ _ _ _ _ (@ps_set _ _ (5) _ _ _ _ scLawOtherOrder.nd rfl (Or.inl rfl) (@pe_lst _ _ _ _ pa_nil) (by rfl) (by first | exact .inl rfl | exact .inr rfl | assumption)) (@pss_cons _ _ _ _ _ (@ps_while _ _ _ _ _ _ zq35x (@pt_cmpR _ _ _ _ _ _ _ _ (op_neD hr.units) (pv 4) (@pe_lst _ _ _ _ pa_nil) (nomark _)) (@pss_cons _ _ _ _ _ (@ps_set _ _ (6) _ _ _ _ scLawOtherOrder.nd rfl (Or.inr rfl) (@pe_op _ _ _ _ _ _ _ _ op_add pe_int (@pe_callC _ _ _ _ _ _ _ _ _ _ c__law_draw (hr.mono (by decide)) (@pa_cons _ _ _ _ _ (pv 0) (@pa_cons _ _ _ _ _ (@pe_op _ _ _ _ _ _ _ _ op_sub (pv 2) pe_int) pa_nil rfl) rfl) (by rfl) (by decide) (by rfl) (by rfl))) (by rfl) (by first | exact .inl rfl | exact .inr rfl | assumption)) (@pss_cons _ _ _ _ _ (@ps_set _ _ (7) _ _ _ _ scLawOtherOrder.nd rfl (Or.inl rfl) (pe_bm zq73x zq167x zq168x mt_popAt (pv 4) (@pa_cons _ _ _ _ _ (@pe_callC _ _ _ _ _ _ _ _ _ _ c__law_draw (hr.mono (by decide)) (@pa_cons _ _ _ _ _ (pv 0) (@pa_cons _ _ _ _ _ (@pe_callB _ _ _ _ _ _ _ _ (rLen K) call_lenM rfl m_len zq46x (@pa_cons _ _ _ _ _ (pv 4) pa_nil rfl) (by decide) (by decide) (by rfl) (by rfl)) pa_nil rfl) rfl) (by rfl) (by decide) (by rfl) (by rfl)) pa_nil rfl)) (by rfl) (by first | exact .inl rfl | exact .inr rfl | assumption)) (@pss_one _ _ _ (@ps_expr _ _ _ _ (pe_bm zq73x zq162x zq163x mt_append (pv 5) (@pa_cons _ _ _ _ _ (pe_lcomp (CompOk.of (show compOkB (defScope sLawOtherOrder) ["bag", "net", "p", "n", "checks", "found", "letter", "pairs"] _ ["place", "factor", "p", "letter"] [none, none, some 2, some 6] = true by decide +kernel)) (pi_listK (K := K) rfl (pv 7)) (fun _ _ _ _ => ⟨(@pg_tupM _ (K) _ _ _ (2) _ rfl rfl (@pgs_cons _ _ _ _ _ (pg_name (i := 0) (by show List.Nodup (["place", "factor", "p", "letter"] : List Str); decide +kernel) rfl (Or.inl rfl)) (@pgs_cons _ _ _ _ _ (pg_name (i := 1) (by show List.Nodup (["place", "factor", "p", "letter"] : List Str); decide +kernel) rfl (Or.inl rfl)) pgs_nil (by rfl)) (by rfl)) (by rfl) (by rfl)), pts_nil, (@pe_tup _ _ _ _ _ (@pa_cons _ _ _ _ _ (pv 0) (@pa_cons _ _ _ _ _ (@pe_op _ _ _ _ _ _ _ _ op_mod (@pe_op _ _ _ _ _ _ _ _ op_mulA (pv 1) (pv 3)) (pv 2)) pa_nil rfl) rfl))⟩)) pa_nil rfl)) (by rfl)))))) (@pss_one _ _ _ (@ps_ret _ _ _ _ (@pe_tup _ _ _ _ _ (@pa_cons _ _ _ _ _ (pv 2) (@pa_cons _ _ _ _ _ (pv 3) (@pa_cons _ _ _ _ _ (pv 5) pa_nil rfl) rfl) rfl))))))), ?_⟩
 refine Sv.enterB hB hlive hnb hds hΦ (ρ := [.bag, .d false _, .no, .no, .no, .no, .no, .no]) rfl ?_
 clear hΦ hds
 have p2 := hp.1
 refine Sv.seq ?_
 refine Sv.copy3 (by decide) ?_
 walk_at "dt"
 refine ⟨p, n, cs, rfl, by omega, fun A4 => ?_⟩
 refine Sv.seq ?_
 refine Sv.asgNil ?_
 intro A5
 refine Sv.seq ?_
 refine Sv.conseq (fun ρ => ∃ (cs' : List Prs) (g5 : Bool) (x4 x6 x7 : Sl), cs'.length = cs.length /\ (∀ prs ∈ cs', PrsQ p n.toNat prs) /\ (∀ v : List Int, v.length = n.toNat -> (VN p cs v ↔ VN p cs' v)) /\ ρ = [.bag, .d false (netD p n cs), .d true (.int p), .d true (.int n), x4, .own A5 g5 (cs'.map prsD), x6, x7]) ?_ ?_
 ·refine Sv.while_ (fun ρ => ∃ (c1 c2 : List Prs) (g4 g5 : Bool) (x6 x7 : Sl), c1.length + c2.length = cs.length /\ (∀ prs ∈ c1, PrsQ p n.toNat prs) /\ (∀ prs ∈ c2, PrsQ p n.toNat prs) /\ (∀ v : List Int, v.length = n.toNat -> (VN p cs v ↔ VN p c1 v /\ VN p c2 v)) /\ ρ = [.bag, .d false (netD p n cs), .d true (.int p), .d true (.int n), .own A4 g4 (c1.map prsD), .own A5 g5 (c2.map prsD), x6, x7]) (fun (ρ : Rh) => match ρ[4]? with | some (Sl.own _ _ ds) => ds.length | _ => 0) ⟨cs, [], _, _, _, _, by simp, hcs, (fun _ h => nomatch h), fun v _ => ⟨fun h => ⟨h, fun _ h => nomatch h⟩, fun h => h.1⟩, rfl⟩ ?_
  rintro ρ' ⟨c1, c2, g4, g5, x6, x7, hl, h1, h2, hT, rfl⟩
  have hcm : (c1.map prsD).length = c1.length := zq0x ..
  have hcm2 : (c2.map prsD).length = c2.length := zq0x ..
  refine Tv.lend 4 rfl ?_
  walk_at "dt"
  refine ⟨shaped_csO c1, by decide, _, rfl, ?_⟩
  rw [show (PyData.list (List.map prsD c1)).eqv (PyData.list (List.map (fun x : Fd => x.snd) [])) = (c1.map prsD).isEmpty from L2.eqv_nil _]
  by_cases c : c1 = []
  ·subst c
   rw [if_neg (by decide)]
   refine ⟨c2, _, _, _, _, by simpa using hl, h2, fun v hv => (hT v hv).trans ⟨fun h => h.2, fun h => ⟨(fun _ h => nomatch h), h⟩⟩, rfl⟩
  ·rw [if_pos (by cases c1 with | nil => exact absurd rfl c | cons _ _ => rfl)]
   have hc0 : 0 < c1.length := zq185x.mpr c
   generalize htl : (tSeq (tAsg (tBM _ _ _ _ _) (gName 7)) _ : TS) = tl
   walk_at "dt"
   intro le l0 l1
   walk_at "dt"
   subst htl
   refine Sv.seq ?_
   refine Sv.popAt rfl ?_
   walk_at "dt"
   intro r r0 r1
   walk_at "dt"
   rw [hcm] at r1
   obtain ⟨prs, hprs⟩ : ∃ prs, c1[r.toNat]? = some prs := ⟨_, zq1x (by omega)⟩
   have hQ := h1 prs (zq4x hprs)
   obtain ⟨q1, q2, q3⟩ := hQ
   have hpm : (prs.map pairD).length = prs.length := zq0x ..
   refine ⟨r.toNat, prsD prs, by rw [zq133x r0], by omega, by rw [zq10x, hprs]; rfl, ?_⟩
   refine Sv.append rfl ?_
   refine EvN.ev (EvN.compL (by decide) rfl ?_)
   walk_at "dt"
   refine fun v => ?_
   refine CompD.rel pairD true (fun i pr => ∃ x, prs[i]? = some x /\ pr = (x.1, x.2 * (1 + le) % p)) ?_ fun os hol hos => ?_
   ·rintro i d hd
    obtain ⟨pr, hpr, rfl⟩ := map_at hd
    obtain ⟨a0, a1, a2, a3⟩ := q3 pr (zq4x hpr)
    have s1 : Sm pr.2 := by unfold Sm; omega
    have s2 : Sm (1 + le) := by unfold Sm; omega
    generalize htt : (tTup _ : TE) = tt
    walk_at "dt"
    refine ⟨by walk_at "wk", ?_⟩
    subst htt
    refine Ev.tupS ?_
    walk_at "dt"
    exact ⟨fun _ => zq105x _, (pr.1, pr.2 * (1 + le) % p), rfl, pr, hpr, rfl⟩
   have eos : os = tmP p (1 + le) prs := by
    rw [hpm] at hol
    apply zq82x
    intro j
    unfold tmP
    by_cases cj : j < os.length
    ·obtain ⟨x, hx, hxo⟩ := hos j _ (zq1x cj)
     rw [zq1x cj, hxo, zq10x, hx]
     rfl
    ·rw [zq60x (by omega), zq60x (by rw [zq0x]; omega)]
   subst eos
   refine ⟨by omega, ?_⟩
   rw [show (List.map prsD c1).eraseIdx r.toNat = List.map prsD (c1.eraseIdx r.toNat) by rw [zq96x, zq96x, zq16x, zq74x, zq95x]]
   have hel : (c1.eraseIdx r.toNat).length = c1.length - 1 := zq134x (by omega)
   refine ⟨⟨c1.eraseIdx r.toNat, c2 ++ [tmP p (1 + le) prs], _, _, _, _, by rw [hel, zq25x, zq52x]; omega, fun s hs => h1 s (zq111x hs), fun s hs => ?_, fun v hv => (hT v hv).trans ?_, by rw [zq16x]; rfl⟩, ?_⟩
   ·rcases zq22x.mp hs with z | z
    ·exact h2 s z
    ·rw [zq17x.mp z]; exact tmP_ok hp (by omega) (by omega) ⟨q1, q2, q3⟩
   ·have ht := times_iff (n := n) hp (show 0 < 1 + le by omega) (by omega) hv (q := prs) fun pr hpr => by have := q3 pr hpr; omega
    constructor
    ·rintro ⟨g1, g2⟩
     refine ⟨fun s hs => g1 s (zq111x hs), fun s hs => ?_⟩
     rcases zq22x.mp hs with z | z
     ·exact g2 s z
     ·rw [zq17x.mp z, ht]; exact g1 _ (zq4x hprs)
    ·rintro ⟨g1, g2⟩
     refine ⟨fun s hs => ?_, fun s hs => g2 s (zq48x _ hs)⟩
     obtain ⟨j, hj⟩ := zq34x hs
     by_cases cj : j = r.toNat
     ·subst cj
      rw [hprs] at hj
      cases hj
      rw [<- ht]
      exact g2 _ (zq33x _ (zq17x.mpr rfl))
     ·refine g1 s ?_
      rw [zq188x]
      exact ⟨j, cj, hj⟩
   ·show (List.map _ (c1.eraseIdx r.toNat)).length < (List.map _ c1).length
    rw [zq0x, zq0x, hel]
    omega
 rintro ρ' ⟨cs', g5, x4, x6, x7, hl, h1, hT, rfl⟩
 refine Sv.demote 5 rfl ?_
 walk_at "dt"
 exact q _ cs' hl h1 hT
def F__law_side_by_side : DF := fun ds Φ => ∃ (p n m : Int) (c1 c2 : List Prs), ds = [netD p n c1, netD p m c2] /\ 2 <= p /\ p < 10 ^ 40 /\ 1 <= n /\ n <= 200 /\ 1 <= m /\ m <= 200 /\ c1.length <= 200 /\ c2.length <= 200 /\ (∀ prs ∈ c1, PrsQ p n.toNat prs) /\ (∀ prs ∈ c2, PrsQ p m.toNat prs) /\
 ∀ (f : Bool) (cs : List Prs), cs.length = c1.length + c2.length -> (∀ q, q ∈ cs ↔ q ∈ c1 \/ ∃ q' ∈ c2, q = shP n q') -> Φ f (netD p (n + m) cs)
theorem mono__law_side_by_side : MonoF F__law_side_by_side := by
 intro ds Φ Ψ hm z
 obtain ⟨p, n, m, c1, c2, e, h1, h2, h3, h4, h5, h6, h7, h8, h9, h10, q⟩ := hm
 exact ⟨p, n, m, c1, c2, e, h1, h2, h3, h4, h5, h6, h7, h8, h9, h10, fun f c a b => z _ _ (q f c a b)⟩
theorem scLawSideBySide : FnScope ["bag", "one", "other", "p", "n", "checks", "at", "pairs"] ["bag", "one", "other"] (defScope sLawSideBySide) := ⟨rfl, rfl, rfl, by decide +kernel, rfl, by decide +kernel, by decide +kernel⟩
theorem ok__law_side_by_side (F : Fun K "_law_side_by_side" "_law_side_by_side" sLawSideBySide f fd)  (c__law_copy : Callee P w K mg base "_law_copy" 1 ["net"] spCopyT) (c__law_draw : Callee P w K mg base "_law_draw" 2 ["bag", "many"] spDraw) (m_len : mg "len" = none)  :
  FnOk P w K mg base CX0 3 f fd ["bag", "one", "other"] (spB 3 F__law_side_by_side) := by
 refine F.ok scLawSideBySide (fun vs H Q E h => h.1) (fun cdv A outer s H vs Q E hr h => ?_)
 obtain ⟨b, l, ws, nb, ds, Φ, rfl, hB, hlive, hnb, hds, hΦ, hF⟩ := spB_out h
 obtain ⟨p, n, m, c1, c2, rfl, p2, hp40, n0, n1, m0, m1, hl1, hl2, hc1, hc2, q⟩ := hF
 refine ⟨_, (@pss_cons _ _ _ _ _ (@ps_asg _ _ _ _ _ _ (@pe_callC _ _ _ _ _ _ _ _ _ _ c__law_copy (hr.mono (by decide)) (@pa_cons _ _ _ _ _ (pv 1) pa_nil rfl) (by rfl) (by decide) (by rfl) (by rfl)) (@pg_tupM _ (K) _ _ _ (3) _ rfl rfl (@pgs_cons _ _ _ _ _ (pg_name (i := 3) scLawSideBySide.nd rfl (Or.inl rfl)) (@pgs_cons _ _ _ _ _ (pg_name (i := 4) scLawSideBySide.nd rfl (Or.inr rfl)) (@pgs_cons _ _ _ _ _ (pg_name (i := 5) scLawSideBySide.nd rfl (Or.inl rfl)) pgs_nil (by rfl)) (by rfl)) (by rfl)) (by rfl) (by rfl)) (by rfl) (by rfl) (by rfl)) (@pss_cons _ _ _ _ _ (@ps_set _ _ (6) _ _ _ _ scLawSideBySide.nd rfl (Or.inl rfl) pe_int (by rfl) (by first | exact .inl rfl | exact .inr rfl | assumption)) (@pss_cons _ _ _ _ _ (@ps_for _ _ _ _ _ _ _ _ zq35x rfl (pi_listK (K := K) rfl (@pe_ix _ _ _ _ _ _ (rIxT K) ix_tup (pv 2) pe_int (fun _ _ => rfl))) (pg_name (i := 7) scLawSideBySide.nd rfl (Or.inl rfl)) (@pss_cons _ _ _ _ _ (@ps_set _ _ (6) _ _ _ _ scLawSideBySide.nd rfl (Or.inl rfl) (@pe_op _ _ _ _ _ _ _ _ op_add (pv 6) (@pe_callC _ _ _ _ _ _ _ _ _ _ c__law_draw (hr.mono (by decide)) (@pa_cons _ _ _ _ _ (pv 0) (@pa_cons _ _ _ _ _ (@pe_op _ _ _ _ _ _ _ _ op_sub (@pe_op _ _ _ _ _ _ _ _ op_add (@pe_callB _ _ _ _ _ _ _ _ (rLen K) call_lenM rfl m_len zq46x (@pa_cons _ _ _ _ _ (pv 5) pa_nil rfl) (by decide) (by decide) (by rfl) (by rfl)) pe_int) (pv 6)) pa_nil rfl) rfl) (by rfl) (by decide) (by rfl) (by rfl))) (by rfl) (by first | exact .inl rfl | exact .inr rfl | assumption)) (@pss_cons _ _ _ _ _ (@ps_expr _ _ _ _ (pe_bm zq73x zq156x zq186x mt_insert (pv 5) (@pa_cons _ _ _ _ _ (pv 6) (@pa_cons _ _ _ _ _ (pe_lcomp (CompOk.of (show compOkB (defScope sLawSideBySide) ["bag", "one", "other", "p", "n", "checks", "at", "pairs"] _ ["place", "factor", "n"] [none, none, some 4] = true by decide +kernel)) (pi_listK (K := K) rfl (pv 7)) (fun _ _ _ _ => ⟨(@pg_tupM _ (K) _ _ _ (2) _ rfl rfl (@pgs_cons _ _ _ _ _ (pg_name (i := 0) (by show List.Nodup (["place", "factor", "n"] : List Str); decide +kernel) rfl (Or.inl rfl)) (@pgs_cons _ _ _ _ _ (pg_name (i := 1) (by show List.Nodup (["place", "factor", "n"] : List Str); decide +kernel) rfl (Or.inl rfl)) pgs_nil (by rfl)) (by rfl)) (by rfl) (by rfl)), pts_nil, (@pe_tup _ _ _ _ _ (@pa_cons _ _ _ _ _ (@pe_op _ _ _ _ _ _ _ _ op_add (pv 2) (pv 0)) (@pa_cons _ _ _ _ _ (pv 1) pa_nil rfl) rfl))⟩)) pa_nil rfl) rfl)) (by rfl)) (@pss_one _ _ _ (@ps_set _ _ (6) _ _ _ _ scLawSideBySide.nd rfl (Or.inl rfl) (@pe_op _ _ _ _ _ _ _ _ op_add (pv 6) pe_int) (by rfl) (by first | exact .inl rfl | exact .inr rfl | assumption))))) (by intro _; rfl)) (@pss_one _ _ _ (@ps_ret _ _ _ _ (@pe_tup _ _ _ _ _ (@pa_cons _ _ _ _ _ (pv 3) (@pa_cons _ _ _ _ _ (@pe_op _ _ _ _ _ _ _ _ op_add (pv 4) (@pe_ix _ _ _ _ _ _ (rIxT K) ix_tup (pv 2) pe_int (fun _ _ => rfl))) (@pa_cons _ _ _ _ _ (pv 5) pa_nil rfl) rfl) rfl))))))), ?_⟩
 refine Sv.enterB hB hlive hnb hds hΦ (ρ := [.bag, .d false _, .d false _, .no, .no, .no, .no, .no]) rfl ?_
 clear hΦ hds
 have hcm2 : (c2.map prsD).length = c2.length := zq0x ..
 refine Sv.seq ?_
 refine Sv.copy3 (by decide) ?_
 walk_at "dt"
 refine ⟨p, n, c1, rfl, by omega, fun A5 => ?_⟩
 refine Sv.seq ?_
 walk_at "dt"
 refine Sv.forL ?_
 walk_at "dt"
 refine fun v => ⟨fun i ρ => ∃ (g : Bool) (cs : List Prs) (at' : Int) (x7 : Sl), cs.length = c1.length + i /\ 0 <= at' /\ at' <= cs.length /\ (∀ q, q ∈ cs ↔ q ∈ c1 \/ ∃ q' ∈ c2.take i, q = shP n q') /\ ρ = [.bag, .d false (netD p n c1), .d false (netD p m c2), .d true (.int p), .d true (.int n), .own A5 g (cs.map prsD), .d true (.int at'), x7], ⟨_, c1, 0, _, rfl, zq144x _, by omega, fun q => by simp, rfl⟩, ?_, ?_⟩
 ·rintro i d ρ hd ⟨g, cs, at', x7, hl, a0, a1, hmem, rfl⟩
  obtain ⟨prs, hprs, rfl⟩ := map_at hd
  have hil := (zq8x.mp hprs).1
  obtain ⟨q1, q2, q3⟩ := hc2 prs (zq4x hprs)
  have hpm : (prs.map pairD).length = prs.length := zq0x ..
  have hcm : (cs.map prsD).length = cs.length := zq0x ..
  refine Gv.nameF ?_
  generalize htl : (tSeq (tDrop (tBM _ _ rInsert _ _)) _ : TS) = tl
  walk_at "dt"
  intro r r0 r1
  walk_at "dt"
  subst htl
  rw [hcm] at r1
  refine Sv.seq ?_
  refine Sv.insert rfl ?_
  walk_at "dt"
  refine EvN.ev (EvN.compL (by decide) rfl ?_)
  walk_at "dt"
  refine fun v => ?_
  refine CompD.rel pairD true (fun i pr => ∃ x, prs[i]? = some x /\ pr = (n + x.1, x.2)) ?_ fun os hol hos => ?_
  ·rintro j d hd
   obtain ⟨pr, hpr, rfl⟩ := map_at hd
   generalize htt : (tTup _ : TE) = tt
   walk_at "dt"
   refine ⟨by walk_at "wk", ?_⟩
   subst htt
   refine Ev.tupS ?_
   walk_at "dt"
   exact ⟨fun _ => zq105x _, (n + pr.1, pr.2), rfl, pr, hpr, rfl⟩
  have eos : os = shP n prs := by
   rw [hpm] at hol
   apply zq82x
   intro j
   unfold shP
   by_cases cj : j < os.length
   ·obtain ⟨x, hx, hxo⟩ := hos j _ (zq1x cj)
    rw [zq1x cj, hxo, zq10x, hx]
    rfl
   ·rw [zq60x (by omega), zq60x (by rw [zq0x]; omega)]
  subst eos
  have es : (cs.map prsD).take (at' + r).toNat ++ prsD (shP n prs) :: (cs.map prsD).drop (at' + r).toNat = (cs.take (at' + r).toNat ++ shP n prs :: cs.drop (at' + r).toNat).map prsD := by
   rw [zq16x, zq9x, zq74x, zq95x]
  have hlen : (cs.take (at' + r).toNat ++ shP n prs :: cs.drop (at' + r).toNat).length = cs.length + 1 := by
   rw [zq25x, zq51x, zq19x, zq40x]; omega
  walk_at "dt"
  refine ⟨_, cs.take (at' + r).toNat ++ shP n prs :: cs.drop (at' + r).toNat, at' + r + 1, _, by rw [hlen]; omega, by omega, by rw [hlen]; omega, fun q => ?_, by rw [<- es]; rfl⟩
  rw [take_snoc hprs]
  constructor
  ·intro h
   have h' : q = shP n prs \/ q ∈ cs := by
    rcases zq22x.mp h with z | z
    ·exact .inr (zq86x z)
    ·rcases zq3x.mp z with z | z
     ·exact .inl z
     ·exact .inr (zq131x z)
   rcases h' with z | z
   ·exact .inr ⟨prs, zq33x _ (zq17x.mpr rfl), z⟩
   ·rcases (hmem q).mp z with y | ⟨q', y, e⟩
    ·exact .inl y
    ·exact .inr ⟨q', zq48x _ y, e⟩
  ·intro h
   have h' : q = shP n prs \/ q ∈ cs := by
    rcases h with y | ⟨q', y, e⟩
    ·exact .inr ((hmem q).mpr (.inl y))
    ·rcases zq22x.mp y with z | z
     ·exact .inr ((hmem q).mpr (.inr ⟨q', z, e⟩))
     ·rw [zq17x.mp z] at e; exact .inl e
   rcases h' with z | z
   ·rw [z]; exact zq33x _ (zq27x ..)
   ·rw [<- zq132x (at' + r).toNat cs] at z
    rcases zq22x.mp z with y | y
    ·exact zq48x _ y
    ·exact zq33x _ (zq21x _ y)
 ·rintro ρ ⟨g, cs, at', x7, hl, a0, a1, hmem, rfl⟩
  rw [hcm2] at hl hmem
  rw [zq53x] at hmem
  refine Sv.demote 5 rfl ?_
  walk_at "dt"
  exact q _ cs hl hmem
theorem scLaw : FnScope ["script", "bag", "way", "p", "n", "many", "net", "size", "beside", "other", "both", "c", "start", "single", "ahead"] ["script"] (defScope sLaw) := ⟨rfl, rfl, rfl, by decide +kernel, rfl, by decide +kernel, by decide +kernel⟩
theorem ok_law (F : Fun K "law" "law" sLaw f fd)  (c__law_bag : Callee P w K mg base "_law_bag" 1 ["script"] (spBag K)) (c__law_draw : Callee P w K mg base "_law_draw" 2 ["bag", "many"] spDraw) (c__law_prime : Callee P w K mg base "_law_prime" 3 ["bag"] (spB 1 F__law_prime)) (c__law_ranked : Callee P w K mg base "_law_ranked" 5 ["bag", "p", "n", "many"] (spB 4 F__law_ranked)) (c__law_side_by_side : Callee P w K mg base "_law_side_by_side" 3 ["bag", "one", "other"] (spB 3 F__law_side_by_side)) (c_rank : Callee P w K mg base "rank" 6 ["net"] (spD 1 F_rank)) (c__law_is : Callee P w K mg base "_law_is" 7 ["net", "due"] (spD 2 F__law_is)) (c__law_copy : Callee P w K mg base "_law_copy" 1 ["net"] spCopyT) (c__law_whole : Callee P w K mg base "_law_whole" 1 ["found"] spWhole) (c__law_other_order : Callee P w K mg base "_law_other_order" 3 ["bag", "net"] (spB 2 F__law_other_order)) (c_comes_of : Callee P w K mg base "comes_of" 6 ["net", "c"] (spD 2 F_comes_of)) (m_max : mg "max" = none) (m_min : mg "min" = none) (m_len : mg "len" = none) (m_range : mg "range" = none)  :
  FnOk P w K mg base CX0 8 f fd ["script"] (spLaw K) := by
 refine F.ok scLaw (fun vs H Q E h => ?_) (fun cdv A outer s H vs Q E hr h => ?_)
 ·obtain ⟨a, ns, rfl, hS, hl, q⟩ := h
  rfl
 obtain ⟨a, ns, rfl, hS, hl, q⟩ := h
 refine ⟨_, (@pss_cons _ _ _ _ _ (@ps_set _ _ (1) _ _ _ _ scLaw.nd rfl (Or.inl rfl) (@pe_callC _ _ _ _ _ _ _ _ _ _ c__law_bag (hr.mono (by decide)) (@pa_cons _ _ _ _ _ (pv 0) pa_nil rfl) (by rfl) (by decide) (by rfl) (by rfl)) (by rfl) (by first | exact .inl rfl | exact .inr rfl | assumption)) (@pss_cons _ _ _ _ _ (@ps_set _ _ (2) _ _ _ _ scLaw.nd rfl (Or.inl rfl) (@pe_callC _ _ _ _ _ _ _ _ _ _ c__law_draw (hr.mono (by decide)) (@pa_cons _ _ _ _ _ (pv 1) (@pa_cons _ _ _ _ _ pe_int pa_nil rfl) rfl) (by rfl) (by decide) (by rfl) (by rfl)) (by rfl) (by first | exact .inl rfl | exact .inr rfl | assumption)) (@pss_cons _ _ _ _ _ (@ps_set _ _ (3) _ _ _ _ scLaw.nd rfl (Or.inl rfl) (@pe_callC _ _ _ _ _ _ _ _ _ _ c__law_prime (hr.mono (by decide)) (@pa_cons _ _ _ _ _ (pv 1) pa_nil rfl) (by rfl) (by decide) (by rfl) (by rfl)) (by rfl) (by first | exact .inl rfl | exact .inr rfl | assumption)) (@pss_cons _ _ _ _ _ (@ps_set _ _ (4) _ _ _ _ scLaw.nd rfl (Or.inl rfl) (@pe_op _ _ _ _ _ _ _ _ op_add pe_int (@pe_callC _ _ _ _ _ _ _ _ _ _ c__law_draw (hr.mono (by decide)) (@pa_cons _ _ _ _ _ (pv 1) (@pa_cons _ _ _ _ _ (@pe_ix _ _ _ _ _ _ (rIxL K) ix_list (@pe_lst _ _ _ _ (@pa_consts _ _ _ rfl)) (@pe_op _ _ _ _ _ _ _ _ op_fdivS (@pe_op _ _ _ _ _ _ _ _ op_add (pv 2) pe_int) pe_int) (fun _ _ => rfl)) pa_nil rfl) rfl) (by rfl) (by decide) (by rfl) (by rfl))) (by rfl) (by first | exact .inl rfl | exact .inr rfl | assumption)) (@pss_cons _ _ _ _ _ (@ps_set _ _ (5) _ _ _ _ scLaw.nd rfl (Or.inl rfl) (@pe_callC _ _ _ _ _ _ _ _ _ _ c__law_draw (hr.mono (by decide)) (@pa_cons _ _ _ _ _ (pv 1) (@pa_cons _ _ _ _ _ (@pe_op _ _ _ _ _ _ _ _ op_add (@pe_callB _ _ _ _ _ _ _ _ _ (call_minM rfl) rfl m_min PyProof.Rows.boot_min (@pa_cons _ _ _ _ _ (pv 4) (@pa_cons _ _ _ _ _ pe_int pa_nil rfl) rfl) (by decide) (by decide) (by rfl) (by rfl)) pe_int) pa_nil rfl) rfl) (by rfl) (by decide) (by rfl) (by rfl)) (by rfl) (by first | exact .inl rfl | exact .inr rfl | assumption)) (@pss_cons _ _ _ _ _ (@ps_set _ _ (6) _ _ _ _ scLaw.nd rfl (Or.inl rfl) (@pe_callC _ _ _ _ _ _ _ _ _ _ c__law_ranked (hr.mono (by decide)) (@pa_cons _ _ _ _ _ (pv 1) (@pa_cons _ _ _ _ _ (pv 3) (@pa_cons _ _ _ _ _ (pv 4) (@pa_cons _ _ _ _ _ (pv 5) pa_nil rfl) rfl) rfl) rfl) (by rfl) (by decide) (by rfl) (by rfl)) (by rfl) (by first | exact .inl rfl | exact .inr rfl | assumption)) (@pss_cons _ _ _ _ _ (@ps_set _ _ (7) _ _ _ _ scLaw.nd rfl (Or.inl rfl) (@pe_op _ _ _ _ _ _ _ _ op_add pe_int (@pe_callC _ _ _ _ _ _ _ _ _ _ c__law_draw (hr.mono (by decide)) (@pa_cons _ _ _ _ _ (pv 1) (@pa_cons _ _ _ _ _ pe_int pa_nil rfl) rfl) (by rfl) (by decide) (by rfl) (by rfl))) (by rfl) (by first | exact .inl rfl | exact .inr rfl | assumption)) (@pss_cons _ _ _ _ _ (@ps_set _ _ (8) _ _ _ _ scLaw.nd rfl (Or.inl rfl) (@pe_callC _ _ _ _ _ _ _ _ _ _ c__law_draw (hr.mono (by decide)) (@pa_cons _ _ _ _ _ (pv 1) (@pa_cons _ _ _ _ _ (@pe_op _ _ _ _ _ _ _ _ op_add (pv 7) pe_int) pa_nil rfl) rfl) (by rfl) (by decide) (by rfl) (by rfl)) (by rfl) (by first | exact .inl rfl | exact .inr rfl | assumption)) (@pss_cons _ _ _ _ _ (@ps_set _ _ (9) _ _ _ _ scLaw.nd rfl (Or.inl rfl) (@pe_callC _ _ _ _ _ _ _ _ _ _ c__law_ranked (hr.mono (by decide)) (@pa_cons _ _ _ _ _ (pv 1) (@pa_cons _ _ _ _ _ (pv 3) (@pa_cons _ _ _ _ _ (pv 7) (@pa_cons _ _ _ _ _ (pv 8) pa_nil rfl) rfl) rfl) rfl) (by rfl) (by decide) (by rfl) (by rfl)) (by rfl) (by first | exact .inl rfl | exact .inr rfl | assumption)) (@pss_cons _ _ _ _ _ (@ps_if _ _ _ _ _ _ _ _ (PW.pt (pw_or (@pt_not _ _ _ _ (@pt_truthK _ (K) _ _ rfl (@pe_callC _ _ _ _ _ _ _ _ _ _ c__law_is (hr.mono (by decide)) (@pa_cons _ _ _ _ _ (pv 6) (@pa_cons _ _ _ _ _ (pv 5) pa_nil rfl) rfl) (by rfl) (by decide) (by rfl) (by rfl)) (fun _ => rfl))) (pw_or1 (@pt_not _ _ _ _ (@pt_truthK _ (K) _ _ rfl (@pe_callC _ _ _ _ _ _ _ _ _ _ c__law_is (hr.mono (by decide)) (@pa_cons _ _ _ _ _ (@pe_callC _ _ _ _ _ _ _ _ _ _ c__law_other_order (hr.mono (by decide)) (@pa_cons _ _ _ _ _ (pv 1) (@pa_cons _ _ _ _ _ (pv 6) pa_nil rfl) rfl) (by rfl) (by decide) (by rfl) (by rfl)) (@pa_cons _ _ _ _ _ (pv 5) pa_nil rfl) rfl) (by rfl) (by decide) (by rfl) (by rfl)) (fun _ => rfl)))))) (@pss_one _ _ _ (@ps_ret _ _ _ _ pe_bl)) pss_nil) (@pss_cons _ _ _ _ _ (@ps_set _ _ (10) _ _ _ _ scLaw.nd rfl (Or.inr rfl) (@pe_callC _ _ _ _ _ _ _ _ _ _ c__law_side_by_side (hr.mono (by decide)) (@pa_cons _ _ _ _ _ (pv 1) (@pa_cons _ _ _ _ _ (pv 6) (@pa_cons _ _ _ _ _ (pv 9) pa_nil rfl) rfl) rfl) (by rfl) (by decide) (by rfl) (by rfl)) (by rfl) (by first | exact .inl rfl | exact .inr rfl | assumption)) (@pss_cons _ _ _ _ _ (@ps_if _ _ _ _ _ _ _ _ (@pt_not _ _ _ _ (@pt_truthK _ (K) _ _ rfl (@pe_callC _ _ _ _ _ _ _ _ _ _ c__law_is (hr.mono (by decide)) (@pa_cons _ _ _ _ _ (pv 10) (@pa_cons _ _ _ _ _ (@pe_op _ _ _ _ _ _ _ _ op_add (pv 5) (pv 8)) pa_nil rfl) rfl) (by rfl) (by decide) (by rfl) (by rfl)) (fun _ => rfl))) (@pss_one _ _ _ (@ps_ret _ _ _ _ pe_bl)) pss_nil) (@pss_cons _ _ _ _ _ (@ps_set _ _ (11) _ _ _ _ scLaw.nd rfl (Or.inl rfl) (@pe_callC _ _ _ _ _ _ _ _ _ _ c__law_draw (hr.mono (by decide)) (@pa_cons _ _ _ _ _ (pv 1) (@pa_cons _ _ _ _ _ (@pe_op _ _ _ _ _ _ _ _ op_add (@pe_callB _ _ _ _ _ _ _ _ (rLen K) call_lenM rfl m_len zq46x (@pa_cons _ _ _ _ _ (@pe_ix _ _ _ _ _ _ (rIxT K) ix_tup (pv 10) pe_int (fun _ _ => rfl)) pa_nil rfl) (by decide) (by decide) (by rfl) (by rfl)) pe_int) pa_nil rfl) rfl) (by rfl) (by decide) (by rfl) (by rfl)) (by rfl) (by first | exact .inl rfl | exact .inr rfl | assumption)) (@pss_cons _ _ _ _ _ (@ps_set _ _ (12) _ _ _ _ scLaw.nd rfl (Or.inl rfl) (@pe_ifExp _ _ _ _ _ _ _ _ (@pt_cmpR _ _ _ _ _ _ _ _ op_gt (@pe_callB _ _ _ _ _ _ _ _ (rLen K) call_lenM rfl m_len zq46x (@pa_cons _ _ _ _ _ (@pe_ix _ _ _ _ _ _ (rIxT K) ix_tup (pv 10) pe_int (fun _ _ => rfl)) pa_nil rfl) (by decide) (by decide) (by rfl) (by rfl)) pe_int (nomark _)) (@pe_callB _ _ _ _ _ _ _ _ _ (call_maxM rfl) rfl m_max PyProof.Rows.boot_max (@pa_cons _ _ _ _ _ pe_int (@pa_cons _ _ _ _ _ (@pe_op _ _ _ _ _ _ _ _ op_sub (pv 11) pe_int) pa_nil rfl) rfl) (by decide) (by decide) (by rfl) (by rfl)) pe_int) (by rfl) (by first | exact .inl rfl | exact .inr rfl | assumption)) (@pss_cons _ _ _ _ _ (ps_setC (i := 13) scLaw.nd rfl rfl (CompOk.of (show compOkB (defScope sLaw) ["script", "bag", "way", "p", "n", "many", "net", "size", "beside", "other", "both", "c", "start", "single", "ahead"] _ ["k", "both"] [none, some 10] = true by decide +kernel)) (@pi_range2 _ _ _ _ _ _ _ rfl m_range (@pa_cons _ _ _ _ _ (pv 12) (@pa_cons _ _ _ _ _ (pv 11) pa_nil rfl) rfl) (by rfl) (by rfl)) (fun _ _ _ _ => ⟨(pg_name (i := 0) (by show List.Nodup (["k", "both"] : List Str); decide +kernel) rfl (Or.inl rfl)), (pts_one (@pt_cmpR _ _ _ _ _ _ _ _ op_isM (@pe_callC _ _ _ _ _ _ _ _ _ _ c_comes_of (hr.mono (by decide)) (@pa_cons _ _ _ _ _ (@pe_callC _ _ _ _ _ _ _ _ _ _ c__law_copy (hr.mono (by decide)) (@pa_cons _ _ _ _ _ (pv 1) pa_nil rfl) (by rfl) (by decide) (by rfl) (by rfl)) (@pa_cons _ _ _ _ _ (pv 0) pa_nil rfl) rfl) (by rfl) (by decide) (by rfl) (by rfl)) pe_non (nomark _))), (pv 0)⟩)) (@pss_cons _ _ _ _ _ (@ps_set _ _ (14) _ _ _ _ scLaw.nd rfl (Or.inl rfl) (@pe_callC _ _ _ _ _ _ _ _ _ _ c_rank (hr.mono (by decide)) (@pa_cons _ _ _ _ _ (@pe_callC _ _ _ _ _ _ _ _ _ _ c__law_copy (hr.mono (by decide)) (@pa_cons _ _ _ _ _ (@pe_tup _ _ _ _ _ (@pa_cons _ _ _ _ _ (pv 3) (@pa_cons _ _ _ _ _ (@pe_ix _ _ _ _ _ _ (rIxT K) ix_tup (pv 10) pe_int (fun _ _ => rfl)) (@pa_cons _ _ _ _ _ (@pe_slice _ _ _ _ _ _ _ _ _ (rSlL K) sl_list (@pe_ix _ _ _ _ _ _ (rIxT K) ix_tup (pv 10) pe_int (fun _ _ => rfl)) po_none (@po_some _ _ _ (pv 12))) pa_nil rfl) rfl) rfl)) pa_nil rfl) (by rfl) (by decide) (by rfl) (by rfl)) pa_nil rfl) (by rfl) (by decide) (by rfl) (by rfl)) (by rfl) (by first | exact .inl rfl | exact .inr rfl | assumption)) (@pss_one _ _ _ (@ps_ret _ _ _ _ (@pe_and _ _ _ _ _ _ _ (@pe_callC _ _ _ _ _ _ _ _ _ _ c__law_whole (hr.mono (by decide)) (@pa_cons _ _ _ _ _ (pv 14) pa_nil rfl) (by rfl) (by decide) (by rfl) (by rfl)) (@pe_one _ _ _ _ _ (@pe_callC _ _ _ _ _ _ _ _ _ _ c__law_is (hr.mono (by decide)) (@pa_cons _ _ _ _ _ (@pe_tup _ _ _ _ _ (@pa_cons _ _ _ _ _ (pv 3) (@pa_cons _ _ _ _ _ (@pe_ix _ _ _ _ _ _ (rIxT K) ix_tup (pv 10) pe_int (fun _ _ => rfl)) (@pa_cons _ _ _ _ _ (@pe_slice _ _ _ _ _ _ _ _ _ (rSlL K) sl_list (@pe_ix _ _ _ _ _ _ (rIxT K) ix_tup (pv 10) pe_int (fun _ _ => rfl)) po_none (@po_some _ _ _ (pv 11))) pa_nil rfl) rfl) rfl)) (@pa_cons _ _ _ _ _ (@pe_op _ _ _ _ _ _ _ _ op_add (pv 14) (@pe_callB _ _ _ _ _ _ _ _ (rLen K) call_lenM rfl m_len zq46x (@pa_cons _ _ _ _ _ (pv 13) pa_nil rfl) (by decide) (by decide) (by rfl) (by rfl))) pa_nil rfl) rfl) (by rfl) (by decide) (by rfl) (by rfl)))))))))))))))))))))), ?_⟩
 walk_at "st"
 refine ⟨a, ns, rfl, hS, hl, fun b l H1 s1 f1 B1 => ?_⟩
 have hS1 := s1.seq hS
 have key : ∀ (t : TS) (D : Ends), (∀ H, D.rt (.bl true) H) -> Sv (lawG b l H1) [.raw (.ref a), .bag, .no, .no, .no, .no, .no, .no, .no, .no, .no, .no, .no, .no, .no] t { nx := fun _ => False, rt := fun _ d => d = .bool true } -> t D [some (.ref a), some (.ref b), none, none, none, none, none, none, none, none, none, none, none, none, none] H1 := fun t D d2 h => h _ _ _ D (law_wdS (m := 13) B1) (law_endsR d2)
 refine R.gname ?_
 dsimp only
 refine key _ _ (fun H => ?_) ?_
 ·exact q _
 walk_at "dt"
 intro way w0 w1
 walk_at "dt"
 refine Ev.callB mono__law_prime rfl ?_
 walk_at "dt"
 refine ⟨rfl, fun p hp hp40 f => ?_⟩
 have p2 := hp.1
 refine Gv.nameI ?_
 have hix0 : 0 <= (way + 1) / 4 := by omega
 have hix1 : (way + 1) / 4 < 3 := by omega
 refine Sv.seq ?_
 refine Sv.conseq (fun ρ' => ∃ n : Int, 1 <= n /\ n <= 34 /\ ρ' = [.raw (.ref a), .bag, .d true (.int way), .d true (.int p), .d true (.int n), .no, .no, .no, .no, .no, .no, .no, .no, .no, .no]) ?_ ?_
 ·walk_at "dt"
  have : (way + 1) / 4 = 0 \/ (way + 1) / 4 = 1 \/ (way + 1) / 4 = 2 := by omega
  rcases this with e | e | e <;> rw [e] <;> refine ⟨_, rfl, _, rfl, by decide, by unfold Sm; omega, fun r r0 r1 => ⟨_, rfl, ?_⟩⟩ <;> refine Gv.nameI ?_ <;> exact ⟨1 + r, by omega, by omega, rfl⟩
 rintro ρ' ⟨n, n0, n1, rfl⟩
 walk_at "dt"
 intro many m0 m1
 have m2 : many <= n := by split at m1 <;> omega
 clear m1
 refine Gv.nameI ?_
 refine Sv.seq ?_
 refine Sv.asg ?_
 refine Ev.callB mono__law_ranked rfl ?_
 walk_at "dt"
 refine ⟨rfl, p, n, many, rfl, hp, hp40, n0, by omega, m0, m2, fun f6 c1 hcl1 hcs1 hRk1 => ?_⟩
 have hN1 : SNet p n c1 := snet_of hp hp40 n0 (by omega) (by omega) hcs1
 refine Gv.nameF ?_
 walk_at "dt"
 intro sz z0 z1
 walk_at "dt"
 intro be b0 b1
 walk_at "dt"
 refine Ev.callB mono__law_ranked rfl ?_
 walk_at "dt"
 refine ⟨rfl, p, 1 + sz, be, rfl, hp, hp40, by omega, by omega, b0, by omega, fun f9 c2 hcl2 hcs2 hRk2 => ?_⟩
 have hN2 : SNet p (1 + sz) c2 := snet_of hp hp40 (by omega) (by omega) (by omega) hcs2
 refine Gv.nameF ?_
 refine Sv.seq ?_
 refine Sv.ifS ?_
 refine Tv.or ?_
 walk_at "dt"
 refine Ev.callD mono__law_is ?_
 walk_at "dt"
 refine ⟨rfl, p, n, many, c1, rfl, hN1, m0, hRk1, ?_⟩
 walk_at "dt"
 refine Ev.callD mono__law_is ?_
 walk_at "dt"
 refine Ev.callB mono__law_other_order rfl ?_
 walk_at "dt"
 refine ⟨rfl, p, n, c1, rfl, hp, hp40, n0, by omega, by omega, hcs1, fun f7 c3 hcl3 hcs3 hT3 => ?_⟩
 walk_at "dt"
 refine ⟨rfl, p, n, many, c3, rfl, snet_of hp hp40 n0 (by omega) (by omega) hcs3, m0, hRk1.congr (by omega) fun w hw => hT3 w hw.len, ?_⟩
 walk_at "dt"
 refine Ev.callB mono__law_side_by_side rfl ?_
 walk_at "dt"
 refine ⟨rfl, p, n, 1 + sz, c1, c2, rfl, p2, hp40, n0, by omega, by omega, by omega, by omega, by omega, hcs1, hcs2, fun f10 cs hcl hmem => ?_⟩
 refine Gv.nameF ?_
 have hcs : ∀ prs ∈ cs, PrsQ p (n + (1 + sz)).toNat prs := fun prs hprs => by
  rcases (hmem prs).mp hprs with z | ⟨q', z, rfl⟩
  ·obtain ⟨a1, a2, a3⟩ := hcs1 prs z
   exact ⟨a1, a2, fun pr h => by have := a3 pr h; omega⟩
  ·have := shP_ok (n := n) (by omega) (hcs2 q' z)
   rwa [show n.toNat + (1 + sz).toNat = (n + (1 + sz)).toNat by omega] at this
 have hRk : Rk p (n + (1 + sz)).toNat (VN p cs) (many.toNat + be.toNat) := Rk.nets (by omega) (by omega) (by omega) hRk1 hRk2 hmem (fun q hq pr h => by have := (hcs1 q hq).2.2 pr h; omega) fun q hq pr h => by have := (hcs2 q hq).2.2 pr h; omega
 obtain ⟨N, eN⟩ : ∃ N : Int, n + (1 + sz) = N := ⟨_, rfl⟩
 rw [eN] at hcs hRk ⊢
 have hN : SNet p N cs := snet_of hp hp40 (by omega) (by omega) (by omega) hcs
 have hcm : (cs.map prsD).length = cs.length := zq0x ..
 refine Sv.seq ?_
 refine Sv.ifS ?_
 walk_at "dt"
 refine Ev.callD mono__law_is ?_
 walk_at "dt"
 refine ⟨rfl, p, N, many + be, cs, rfl, hN, by omega, by rw [show (many + be).toNat = many.toNat + be.toNat by omega]; exact hRk, ?_⟩
 walk_at "dt"
 intro c k0 k1
 rw [hcm] at k1
 refine Gv.nameI ?_
 refine Sv.seq ?_
 refine Sv.conseq (fun ρ' => ∃ st : Nat, (st : Int) <= c /\ ρ' = [.raw (.ref a), .bag, .d true (.int way), .d true (.int p), .d true (.int n), .d true (.int many), .d false (netD p n c1), .d true (.int (1 + sz)), .d true (.int be), .d false (netD p (1 + sz) c2), .d false (netD p N cs), .d true (.int c), .d true (.int (st : Int)), .no, .no]) ?_ ?_
 ·walk_at "dt"
  by_cases c16 : 16 < ((cs.map prsD).length : Int)
  ·rw [if_pos (decide_eq_true c16)]
   walk_at "dt"
   by_cases c2 : 0 < c - 2
   ·exact ⟨(c - 2).toNat, by omega, by rw [zq133x (by omega), if_pos c2]; rfl⟩
   ·exact ⟨0, by omega, by rw [if_neg c2]; rfl⟩
  ·rw [if_neg (by simpa using c16)]
   walk_at "dt"
   exact ⟨0, by omega, rfl⟩
 rintro ρ' ⟨st, hst, rfl⟩
 have hokN : ∀ q ∈ cs, ∀ pr ∈ q, 0 <= pr.1 /\ pr.1 < N := fun q hq pr hp => ⟨((hN.ok q hq).2.2 pr hp).1, ((hN.ok q hq).2.2 pr hp).2.1⟩
 refine Sv.seq ?_
 refine Sv.setCN ?_
 refine EvN.compR2 (by decide) rfl ?_
 walk_at "dt"
 refine ⟨true, fun i ds => ∃ ks : List Int, ds = ks.map .int /\ ∀ r : Nat, Rk p N.toNat (VN p (cs.take st)) r -> Rk p N.toNat (VN p (cs.take (st + i))) (r + ks.length), ⟨[], rfl, fun r h => h⟩, ?_, ?_⟩
 ·rintro i d ds ⟨hi, rfl⟩ hl' ⟨ks, rfl, hks⟩
  have hk : st + i < cs.length := by omega
  have hprs : cs[st + i]? = some cs[st + i] := zq1x hk
  generalize cs[st + i] = prs at hprs
  have hpr := hokN prs (zq4x hprs)
  have hokt : ∀ q ∈ cs.take (st + i), ∀ pr ∈ q, 0 <= pr.1 /\ pr.1 < N := fun q hq => hokN q (zq86x hq)
  have hrow : ∀ w, RwL p N.toNat w -> dueSum prs (w.map some) = lin (gI w) ((List.range N.toNat).map (co prs)) := fun w hw => by
   rw [due_all hw.len prs hpr]
   exact (lin_co (gI w) prs fun pr hp => by have := hpr pr hp; omega).symm
  have hcons : ∀ w, RwL p N.toNat w -> ((VN p (cs.take (st + i)) w /\ p ∣ lin (gI w) ((List.range N.toNat).map (co prs))) ↔ VN p (cs.take (st + (i + 1))) w) := fun w hw => by
   rw [show st + (i + 1) = st + i + 1 by omega, take_snoc hprs, <- hrow w hw]
   constructor
   ·rintro ⟨h1, h2⟩ s hs
    rcases zq22x.mp hs with z | z
    ·exact h1 s z
    ·rw [zq17x.mp z]; exact h2
   ·intro h
    exact ⟨fun s hs => h s (zq48x _ hs), h prs (zq33x _ (zq17x.mpr rfl))⟩
  refine Gv.nameI ?_
  refine ⟨by walk_at "wk", ?_⟩
  refine Tv.test ?_
  refine Ev.is ?_
  refine Ev.callD mono_comes_of ?_
  walk_at "dt"
  refine Ev.copyT ?_
  walk_at "dt"
  refine ⟨p, N, cs, rfl, by omega, ?_⟩
  walk_at "dt"
  refine ⟨rfl, p, N, cs, st + i, prs, by rw [show ((st + i : Nat) : Int) = (st : Int) + (i : Int) by omega]; rfl, hN, hprs, fun w hw hV hdw => ?_, fun fac hfac hsum => ?_⟩
  ·refine ⟨_, rfl, ?_⟩
   rw [if_pos (show isN PyData.none = true from rfl)]
   walk_at "dt"
   refine ⟨ks ++ [(st : Int) + (i : Int)], by rw [zq16x]; rfl, fun r h => ?_⟩
   rw [zq25x, zq52x, <- Nat.add_assoc]
   refine ((hks r h).step hp (VN.ln hokt) hw hV (r := (List.range N.toNat).map (co prs)) ?_).congr (by omega) hcons
   rw [<- hrow w hw]
   intro hz
   obtain ⟨s, hs⟩ := hz
   obtain ⟨t, ht⟩ := hdw
   have := zq62x (by decide) (show p ∣ 1 from ⟨t - s, by rw [zq120x]; omega⟩)
   omega
  ·refine ⟨_, rfl, ?_⟩
   rw [if_neg (show ¬ isN (rowD fac) = true from zq15x)]
   refine ⟨ks, rfl, fun r h => ?_⟩
   refine ((hks r h).skip (by omega) (r := (List.range N.toNat).map (co prs)) fun w hw hV => ?_).congr (by omega) hcons
   rw [<- hrow w hw]
   exact sum_true hw.len hokt hpr hsum hV
 rintro ds hl' ⟨ks, rfl, hks⟩
 have hkm : (ks.map PyData.int).length = ks.length := zq0x ..
 intro A13
 refine Sv.demote 13 rfl ?_
 have ecut : ∀ j : Int, 0 <= j -> j <= cs.length -> cutA (cs.map prsD) none (some j) = (cs.take j.toNat).map prsD := fun j h1 h2 => by
  rw [cut_to h1 (by rw [hcm]; omega), zq74x]
 refine Sv.seq ?_
 refine Sv.asg ?_
 refine Ev.callD mono_rank ?_
 refine Av.cons ?_
 refine Ev.copyT ?_
 walk_at "dt"
 rw [ecut _ (by omega) (by omega)]
 refine ⟨p, N, cs.take st, by rw [zq84x]; rfl, by rw [zq19x]; omega, ?_⟩
 walk_at "dt"
 refine ⟨rfl, p, N, cs.take st, rfl, hN.take _, fun r hr => ?_⟩
 refine Gv.nameI ?_
 walk_at "dt"
 refine Ev.callD mono__law_is ?_
 walk_at "dt"
 rw [ecut _ (by omega) (by omega)]
 have h9 := hks r hr
 rw [show st + (c - st).toNat = c.toNat by omega] at h9
 refine ⟨rfl, p, N, (r : Int) + (ks.length : Int), cs.take c.toNat, by rw [hkm]; rfl, hN.take _, by omega, by rw [show ((r : Int) + (ks.length : Int)).toNat = r + ks.length by omega]; exact h9, ?_⟩
 rfl
end
local macro_rules | `(tactic| walk_at "bn") => `(tactic| (intro _ _ _ _ _ _ us hl; first | (obtain ⟨_, h⟩ := ln1 hl; subst h; rfl) | (obtain ⟨_, _, h⟩ := ln2 hl; subst h; rfl) | (obtain ⟨_, _, _, h⟩ := ln3 hl; subst h; rfl) | (obtain ⟨_, _, _, _, h⟩ := ln4 hl; subst h; rfl) | (obtain ⟨_, _, _, _, _, h⟩ := ln5 hl; subst h; rfl) | (obtain ⟨_, _, _, _, _, _, h⟩ := ln6 hl; subst h; rfl) | (obtain ⟨_, _, _, _, _, _, _, h⟩ := ln7 hl; subst h; rfl)))
theorem all_mk {l : PySem.W.OpenLaw} {w : World} {K : PySem.W.Frag} {h : Heap} {mg : Str -> Option Value} {fa : Addr} {f0 f1 f2 f3 f4 f5 f6 f7 f8 f9 f10 f11 f12 f13 f14 f15 f16 f17 f18 f19 f20 f21 f22 f23 f24 : Addr} (X : K.In h) (G : h.Ns mainGlobals mg) (hfa : mg "law" = some (.ref fa))
  {od24 an24 : Option Addr} {sl24 : Array (Option Value)} {oc24 kV24 dc24 pm24 cd24 ct24 : Value}
  (d0 : DfAt K "inverse" "inverse" sInverse f0)
  (d1 : DfAt K "rows_of" "rows_of" sRowsOf f1)
  (d2 : DfAt K "swept" "swept" sSwept f2)
  (d3 : DfAt K "first_with" "first_with" sFirstWith f3)
  (d4 : DfAt K "cleared" "cleared" sCleared f4)
  (d5 : DfAt K "times" "times" sTimes f5)
  (d6 : DfAt K "less" "less" sLess f6)
  (d7 : DfAt K "swept_all" "swept_all" sSweptAll f7)
  (d8 : DfAt K "comes_of" "comes_of" sComesOf f8)
  (d9 : DfAt K "rank" "rank" sRank f9)
  (d10 : DfAt K "_law_bag" "_law_bag" sLawBag f10)
  (d11 : DfAt K "_law_stirred" "_law_stirred" sLawStirred f11)
  (d12 : DfAt K "_law_draw" "_law_draw" sLawDraw f12)
  (d13 : DfAt K "_law_prime_from" "_law_prime_from" sLawPrimeFrom f13)
  (d14 : DfAt K "_law_prime" "_law_prime" sLawPrime f14)
  (d15 : DfAt K "_law_copy" "_law_copy" sLawCopy f15)
  (d16 : DfAt K "_law_whole" "_law_whole" sLawWhole f16)
  (d17 : DfAt K "_law_summed" "_law_summed" sLawSummed f17)
  (d18 : DfAt K "_law_more" "_law_more" sLawMore f18)
  (d19 : DfAt K "_law_row" "_law_row" sLawRow f19)
  (d20 : DfAt K "_law_ranked" "_law_ranked" sLawRanked f20)
  (d21 : DfAt K "_law_is" "_law_is" sLawIs f21)
  (d22 : DfAt K "_law_other_order" "_law_other_order" sLawOtherOrder f22)
  (d23 : DfAt K "_law_side_by_side" "_law_side_by_side" sLawSideBySide f23)
  (a24 : PySem.W.nsIn K mainGlobals "law" = some (some (.ref f24))) (l24 : K.lookup f24 = some ⟨oc24, od24, .func (PySem.W.fnOf "law" "law" (defArgs sLaw) (defBody sLaw) (defScope sLaw) .none kV24 dc24 pm24 an24 cd24 ct24), sl24⟩) (c24 : PySem.W.codeIn K cd24 "law" = true) (k24 : PySem.W.keepIn K (.ref f24) = true)
  (z_abs : PySem.W.nsIn K mainGlobals "abs" = some none)
  (z_bool : PySem.W.nsIn K mainGlobals "bool" = some none)
  (z_enumerate : PySem.W.nsIn K mainGlobals "enumerate" = some none)
  (z_int : PySem.W.nsIn K mainGlobals "int" = some none)
  (z_isinstance : PySem.W.nsIn K mainGlobals "isinstance" = some none)
  (z_len : PySem.W.nsIn K mainGlobals "len" = some none)
  (z_list : PySem.W.nsIn K mainGlobals "list" = some none)
  (z_max : PySem.W.nsIn K mainGlobals "max" = some none)
  (z_min : PySem.W.nsIn K mainGlobals "min" = some none)
  (z_range : PySem.W.nsIn K mainGlobals "range" = some none)
  (z_zip : PySem.W.nsIn K mainGlobals "zip" = some none)
  : ∃ fd : FuncData, (∀ (s : Shared) (v : Value), BindsTo s fd ⟨[v], []⟩ [("script", v)]) /\ ∀ base : Heap, K.In base -> base.Ns mainGlobals mg -> FnOk l.prog w K mg base CX0 8 fa fd ["script"] (spLaw K) := by
 have e := hfa.symm.trans (zq20x X G a24)
 cases e
 obtain ⟨a0, _, F0⟩ := d0
 have b0 := F0.binds (ps := ["p", "b"]) (by walk_at "bn")
 obtain ⟨a1, _, F1⟩ := d1
 have b1 := F1.binds (ps := ["net"]) (by walk_at "bn")
 obtain ⟨a2, _, F2⟩ := d2
 have b2 := F2.binds (ps := ["p", "rows", "places"]) (by walk_at "bn")
 obtain ⟨a3, _, F3⟩ := d3
 have b3 := F3.binds (ps := ["rows", "taken", "place"]) (by walk_at "bn")
 obtain ⟨a4, _, F4⟩ := d4
 have b4 := F4.binds (ps := ["p", "rows", "k", "place"]) (by walk_at "bn")
 obtain ⟨a5, _, F5⟩ := d5
 have b5 := F5.binds (ps := ["p", "factor", "row"]) (by walk_at "bn")
 obtain ⟨a6, _, F6⟩ := d6
 have b6 := F6.binds (ps := ["p", "row", "factor", "own"]) (by walk_at "bn")
 obtain ⟨a7, _, F7⟩ := d7
 have b7 := F7.binds (ps := ["net"]) (by walk_at "bn")
 obtain ⟨a8, _, F8⟩ := d8
 have b8 := F8.binds (ps := ["net", "c"]) (by walk_at "bn")
 obtain ⟨a9, _, F9⟩ := d9
 have b9 := F9.binds (ps := ["net"]) (by walk_at "bn")
 obtain ⟨a10, _, F10⟩ := d10
 have b10 := F10.binds (ps := ["script"]) (by walk_at "bn")
 obtain ⟨a11, _, F11⟩ := d11
 have b11 := F11.binds (ps := ["bag", "many"]) (by walk_at "bn")
 obtain ⟨a12, _, F12⟩ := d12
 have b12 := F12.binds (ps := ["bag", "many"]) (by walk_at "bn")
 obtain ⟨a13, _, F13⟩ := d13
 have b13 := F13.binds (ps := ["number"]) (by walk_at "bn")
 obtain ⟨a14, _, F14⟩ := d14
 have b14 := F14.binds (ps := ["bag"]) (by walk_at "bn")
 obtain ⟨a15, _, F15⟩ := d15
 have b15 := F15.binds (ps := ["net"]) (by walk_at "bn")
 obtain ⟨a16, _, F16⟩ := d16
 have b16 := F16.binds (ps := ["found"]) (by walk_at "bn")
 obtain ⟨a17, _, F17⟩ := d17
 have b17 := F17.binds (ps := ["bag", "p", "n", "checks"]) (by walk_at "bn")
 obtain ⟨a18, _, F18⟩ := d18
 have b18 := F18.binds (ps := ["bag", "net", "many"]) (by walk_at "bn")
 obtain ⟨a19, _, F19⟩ := d19
 have b19 := F19.binds (ps := ["bag", "p", "n", "first"]) (by walk_at "bn")
 obtain ⟨a20, _, F20⟩ := d20
 have b20 := F20.binds (ps := ["bag", "p", "n", "many"]) (by walk_at "bn")
 obtain ⟨a21, _, F21⟩ := d21
 have b21 := F21.binds (ps := ["net", "due"]) (by walk_at "bn")
 obtain ⟨a22, _, F22⟩ := d22
 have b22 := F22.binds (ps := ["bag", "net"]) (by walk_at "bn")
 obtain ⟨a23, _, F23⟩ := d23
 have b23 := F23.binds (ps := ["bag", "one", "other"]) (by walk_at "bn")
 have F24 := fun_mk (st := sLaw) l24 c24 k24
 have m_abs := zq54x X G z_abs
 have m_bool := zq54x X G z_bool
 have m_enumerate := zq54x X G z_enumerate
 have m_int := zq54x X G z_int
 have m_isinstance := zq54x X G z_isinstance
 have m_len := zq54x X G z_len
 have m_list := zq54x X G z_list
 have m_max := zq54x X G z_max
 have m_min := zq54x X G z_min
 have m_range := zq54x X G z_range
 have m_zip := zq54x X G z_zip
 refine ⟨PySem.W.fnOf "law" "law" (defArgs sLaw) (defBody sLaw) (defScope sLaw) .none kV24 dc24 pm24 an24 cd24 ct24, fun s v => .of_eq rfl, fun base _ _ => ?_⟩
 have C_times := Callee.mk' F5 (ok_times (P := l.prog) (w := w) (base := base) F5) b5 (zq20x X G a5)
 have C_inverse := Callee.mk' F0 (ok_inverse (P := l.prog) (w := w) (base := base) F0 C_times) b0 (zq20x X G a0)
 have C_rows_of := Callee.mk' F1 (ok_rows_of (P := l.prog) (w := w) (base := base) F1 m_enumerate m_len) b1 (zq20x X G a1)
 have C_first_with := Callee.mk' F3 (ok_first_with (P := l.prog) (w := w) (base := base) F3 m_enumerate) b3 (zq20x X G a3)
 have C_less := Callee.mk' F6 (ok_less (P := l.prog) (w := w) (base := base) F6 m_zip) b6 (zq20x X G a6)
 have C_cleared := Callee.mk' F4 (ok_cleared (P := l.prog) (w := w) (base := base) F4 C_times C_inverse C_less) b4 (zq20x X G a4)
 have C_swept := Callee.mk' F2 (ok_swept (P := l.prog) (w := w) (base := base) F2 C_first_with C_cleared) b2 (zq20x X G a2)
 have C_swept_all := Callee.mk' F7 (ok_swept_all (P := l.prog) (w := w) (base := base) F7 C_swept C_rows_of m_list m_range) b7 (zq20x X G a7)
 have C_comes_of := Callee.mk' F8 (ok_comes_of (P := l.prog) (w := w) (base := base) F8 C_swept_all) b8 (zq20x X G a8)
 have C_rank := Callee.mk' F9 (ok_rank (P := l.prog) (w := w) (base := base) F9 C_swept_all m_len) b9 (zq20x X G a9)
 have C__law_bag := Callee.mk' F10 (ok__law_bag (P := l.prog) (w := w) (base := base) F10 m_abs) b10 (zq20x X G a10)
 have C__law_stirred := Callee.mk' F11 (ok__law_stirred (P := l.prog) (w := w) (base := base) F11 m_range) b11 (zq20x X G a11)
 have C__law_draw := Callee.mk' F12 (ok__law_draw (P := l.prog) (w := w) (base := base) F12 C__law_stirred m_len) b12 (zq20x X G a12)
 have C__law_prime_from := Callee.mk' F13 (ok__law_prime_from (P := l.prog) (w := w) (base := base) F13 m_range) b13 (zq20x X G a13)
 have C__law_prime := Callee.mk' F14 (ok__law_prime (P := l.prog) (w := w) (base := base) F14 C__law_draw C__law_prime_from) b14 (zq20x X G a14)
 have C__law_copy := Callee.mk' F15 (ok__law_copy (P := l.prog) (w := w) (base := base) F15 m_list) b15 (zq20x X G a15)
 have C__law_whole := Callee.mk' F16 (ok__law_whole (P := l.prog) (w := w) (base := base) F16 m_isinstance m_int m_bool) b16 (zq20x X G a16)
 have C__law_summed := Callee.mk' F17 (ok__law_summed (P := l.prog) (w := w) (base := base) F17 C__law_draw m_range m_len) b17 (zq20x X G a17)
 have C__law_more := Callee.mk' F18 (ok__law_more (P := l.prog) (w := w) (base := base) F18 C__law_copy C__law_summed C__law_draw m_range m_len) b18 (zq20x X G a18)
 have C__law_row := Callee.mk' F19 (ok__law_row (P := l.prog) (w := w) (base := base) F19 C__law_draw m_range) b19 (zq20x X G a19)
 have C__law_ranked := Callee.mk' F20 (ok__law_ranked (P := l.prog) (w := w) (base := base) F20 C__law_draw C__law_more C__law_row m_list m_range m_len) b20 (zq20x X G a20)
 have C__law_is := Callee.mk' F21 (ok__law_is (P := l.prog) (w := w) (base := base) F21 C__law_copy C_rank C__law_whole) b21 (zq20x X G a21)
 have C__law_other_order := Callee.mk' F22 (ok__law_other_order (P := l.prog) (w := w) (base := base) F22 C__law_copy C__law_draw m_len) b22 (zq20x X G a22)
 have C__law_side_by_side := Callee.mk' F23 (ok__law_side_by_side (P := l.prog) (w := w) (base := base) F23 C__law_copy C__law_draw m_len) b23 (zq20x X G a23)
 exact ok_law F24 C__law_bag C__law_draw C__law_prime C__law_ranked C__law_side_by_side C_rank C__law_is C__law_copy C__law_whole C__law_other_order C_comes_of m_max m_min m_len m_range
theorem walk {l : PySem.W.OpenLaw} {q : Program} {loose : List Str} {XP : (Str -> Option Value) -> Heap -> Prop} {YP : World -> Heap -> Prop} {d : DefRec} {K : Params -> PySem.W.Frag} (hn : l.most = some 63) (hdf : d.params.defaults = [])
  (hY : ∀ (w : World) (h : Heap), YP w h -> (K w.params).In h)
  (F : ∀ (w : World) (mg : Str -> Option Value) (fa : Addr) (h : Heap), (K w.params).In h -> h.Ns mainGlobals mg -> mg d.name = some (.ref fa) ->
   ∃ fd : FuncData, (∀ (s : Shared) (u : Value), BindsTo s fd ⟨[u], []⟩ [("script", u)]) /\ ∀ base : Heap, (K w.params).In base -> base.Ns mainGlobals mg -> FnOk l.prog w (K w.params) mg base CX0 8 fa fd ["script"] (spLaw (K w.params))) :
  PySem.W.WalkO q loose XP YP l.row.toRowW d [] (fun f vs => PySem.call f vs) :=
 L2.walk_of (n := 63) (k := 8) (x := "script") (CX := fun _ => CX0) (sp := fun w => spLaw (K w.params)) hn (by decide) hdf ⟨rfl, by decide, by decide⟩ hY F (fun _ _ a ns hl _ hS => ⟨a, ns, rfl, hS, hl, fun _ => rfl⟩) fun _ _ _ _ _ z => z
def view : Program := { PySem.Challenge.pw_fewchecks_k44_ranks with main := { PySem.Challenge.pw_fewchecks_k44_ranks.main with body := [top 1, top 3, top 4, top 5, top 6, top 7, top 8, top 9, top 10, top 11, top 13, top 14, top 15, top 16, top 17, top 18, top 19, top 20, top 21, top 22, top 23, top 24, top 25, top 26, top 27] } }
end K44
open PySem PySem.W PyProof.Rows
local macro_rules | `(tactic| o_head $H:term) => `(tactic|
 (refine holds_open (q := K44.view) (loose := [])
    (Xt := fun s => xlAt K44.view [] s && recOk [] s) (XP := XL K44.view []) (Yf := Hook.obs $H)
    (Ya := Hook.val $H) (YP := Hook.says $H) (N := 100000) ?hl (Hook.of $H)
    (Hook.keeps $H) (fun s e => xl_of s (zq189x.mp e).1) XL.keeps
    rfl rfl rfl (fun s e => recFacts_of (zq189x.mp e).2) rfl
    (by assumption) (by decide +kernel) ⟨rfl, rfl, rfl, rfl, rfl, by decide +kernel⟩ ?hw ?hc; (case hl => exact fun w => by kernel_rfl)))
set_option maxRecDepth 100000 in
set_option maxHeartbeats 0 in
theorem PySem.Challenge.cw_fewchecks_k44_ranks_holds : PySem.Challenge.rw_fewchecks_k44_ranks.Holds := by
 w_on
 refine holds_law (by decide +kernel) fun said => ?_
 k_head
 (case hw => w_witness2)
 k_fill
 refine K44.walk (l := PySem.Challenge.rw_fewchecks_k44_ranks) rfl rfl (fun w h Y => PySem.W.kIn_of Y) ?F
 case F =>
  intro w mg fa h KX G hmg
  refine' K44.all_mk KX G hmg ?d0 ?d1 ?d2 ?d3 ?d4 ?d5 ?d6 ?d7 ?d8 ?d9 ?d10 ?d11 ?d12 ?d13 ?d14 ?d15 ?d16 ?d17 ?d18 ?d19 ?d20 ?d21 ?d22 ?d23 ?a24 ?l24 ?c24 ?k24 ?z_abs ?z_bool ?z_enumerate ?z_int ?z_isinstance ?z_len ?z_list ?z_max ?z_min ?z_range ?z_zip
  (case d0 => refine' L2.DfAt.mk ?a ?l ?c ?k; (case a => k_is); (case l => k_is); (case c => k_is); (case k => k_is))
  (case d1 => refine' L2.DfAt.mk ?a ?l ?c ?k; (case a => k_is); (case l => k_is); (case c => k_is); (case k => k_is))
  (case d2 => refine' L2.DfAt.mk ?a ?l ?c ?k; (case a => k_is); (case l => k_is); (case c => k_is); (case k => k_is))
  (case d3 => refine' L2.DfAt.mk ?a ?l ?c ?k; (case a => k_is); (case l => k_is); (case c => k_is); (case k => k_is))
  (case d4 => refine' L2.DfAt.mk ?a ?l ?c ?k; (case a => k_is); (case l => k_is); (case c => k_is); (case k => k_is))
  (case d5 => refine' L2.DfAt.mk ?a ?l ?c ?k; (case a => k_is); (case l => k_is); (case c => k_is); (case k => k_is))
  (case d6 => refine' L2.DfAt.mk ?a ?l ?c ?k; (case a => k_is); (case l => k_is); (case c => k_is); (case k => k_is))
  (case d7 => refine' L2.DfAt.mk ?a ?l ?c ?k; (case a => k_is); (case l => k_is); (case c => k_is); (case k => k_is))
  (case d8 => refine' L2.DfAt.mk ?a ?l ?c ?k; (case a => k_is); (case l => k_is); (case c => k_is); (case k => k_is))
  (case d9 => refine' L2.DfAt.mk ?a ?l ?c ?k; (case a => k_is); (case l => k_is); (case c => k_is); (case k => k_is))
  (case d10 => refine' L2.DfAt.mk ?a ?l ?c ?k; (case a => k_is); (case l => k_is); (case c => k_is); (case k => k_is))
  (case d11 => refine' L2.DfAt.mk ?a ?l ?c ?k; (case a => k_is); (case l => k_is); (case c => k_is); (case k => k_is))
  (case d12 => refine' L2.DfAt.mk ?a ?l ?c ?k; (case a => k_is); (case l => k_is); (case c => k_is); (case k => k_is))
  (case d13 => refine' L2.DfAt.mk ?a ?l ?c ?k; (case a => k_is); (case l => k_is); (case c => k_is); (case k => k_is))
  (case d14 => refine' L2.DfAt.mk ?a ?l ?c ?k; (case a => k_is); (case l => k_is); (case c => k_is); (case k => k_is))
  (case d15 => refine' L2.DfAt.mk ?a ?l ?c ?k; (case a => k_is); (case l => k_is); (case c => k_is); (case k => k_is))
  (case d16 => refine' L2.DfAt.mk ?a ?l ?c ?k; (case a => k_is); (case l => k_is); (case c => k_is); (case k => k_is))
  (case d17 => refine' L2.DfAt.mk ?a ?l ?c ?k; (case a => k_is); (case l => k_is); (case c => k_is); (case k => k_is))
  (case d18 => refine' L2.DfAt.mk ?a ?l ?c ?k; (case a => k_is); (case l => k_is); (case c => k_is); (case k => k_is))
  (case d19 => refine' L2.DfAt.mk ?a ?l ?c ?k; (case a => k_is); (case l => k_is); (case c => k_is); (case k => k_is))
  (case d20 => refine' L2.DfAt.mk ?a ?l ?c ?k; (case a => k_is); (case l => k_is); (case c => k_is); (case k => k_is))
  (case d21 => refine' L2.DfAt.mk ?a ?l ?c ?k; (case a => k_is); (case l => k_is); (case c => k_is); (case k => k_is))
  (case d22 => refine' L2.DfAt.mk ?a ?l ?c ?k; (case a => k_is); (case l => k_is); (case c => k_is); (case k => k_is))
  (case d23 => refine' L2.DfAt.mk ?a ?l ?c ?k; (case a => k_is); (case l => k_is); (case c => k_is); (case k => k_is))
  (case a24 => k_is)
  (case l24 => k_is)
  (case c24 => k_is)
  (case k24 => k_is)
  (case z_abs => k_is)
  (case z_bool => k_is)
  (case z_enumerate => k_is)
  (case z_int => k_is)
  (case z_isinstance => k_is)
  (case z_len => k_is)
  (case z_list => k_is)
  (case z_max => k_is)
  (case z_min => k_is)
  (case z_range => k_is)
  (case z_zip => k_is)
