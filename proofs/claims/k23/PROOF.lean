import PyProof.Rows.All
import Wide.All
import OpenK.AllK
import Wide.FinOn
import Lean
import PyProof.EqAt
import PyProof.EqKinds
import PyProof.TupleCall
import PySem.Challenge.RW_fewchecks_k23_letters_lost_and_put
set_option compiler.extract_closed false
theorem PySem.W.Fast.te15354078832089027229 : True := trivial
theorem PySem.W.Fast.tw1124278316383283998 : True := trivial
theorem PySem.W.Fast.tw1967159504390376745 : True := trivial
theorem PySem.W.Fast.tw4377622062198959043 : True := trivial
theorem PySem.W.Fast.tw5621628878108575784 : True := trivial
set_option Elab.async false
set_option linter.all false
set_option maxRecDepth 100000
def zq0x := @List.length_map
def zq1x := @List.mem_singleton
def zq2x := @List.mem_cons
def zq3x := @Nat.le_refl
def zq4x := @PySem.Heap.lt_size
def zq5x := @List.getElem?_set_ne
def zq6x := @Ne.symm
def zq7x := @PySem.W.mg_of
def zq8x := @PySem.Heap.get?_push_of_some
def zq9x := @List.getElem?_set_self
def zq10x := @List.not_mem_nil
def zq11x := @Bool.false_ne_true
def zq12x := @List.mem_cons_of_mem
def zq13x := @Nat.ne_of_lt
def zq14x := @List.size_toArray
def zq15x := @List.getElem?_append_right
def zq16x := @List.getElem?_map
def zq17x := @Nat.lt_of_lt_of_le
def zq18x := @List.getElem?_eq_some_iff
def zq19x := @List.getElem?_append_left
def zq20x := @List.mem_cons_self
def zq21x := @List.getElem?_eq_getElem
def zq22x := @List.getElem?_replicate
def zq23x := @List.lookup_cons
def zq24x := @List.map_cons
def zq25x := @Bool.and_eq_true
def zq26x := @Nat.le_trans
def zq27x := @List.length_cons
def zq28x := @PySem.Heap.get?_push_size
def zq29x := @PyProof.Rows.boot_isinstance
def zq30x := @List.append_nil
def zq31x := @Option.some.inj
def zq32x := @List.getElem?_cons_succ
def zq33x := @PySem.W.mg_none_of
def zq34x := @List.length_set
def zq35x := @Option.some_ne_none
def zq36x := @List.map_append
def zq37x := @Nat.zero_le
def zq38x := @PySem.W.kia_one
def zq39x := @List.length_append
def zq40x := @Classical.byContradiction
def zq41x := @List.mem_map
def zq42x := @List.mem_append_right
def zq43x := @List.nodup_cons
def zq44x := @List.cons_append
def zq45x := @PyProof.Rows.boot_list
def zq46x := @Nat.lt_irrefl
def zq47x := @PySem.Heap.get?_update_other
def zq48x := @Array.getElem?_eq_getElem
def zq49x := @Nat.le_of_lt
def zq50x := @Array.length_toList
def zq51x := @PySem.Heap.size_push
def zq52x := @Nat.mul_mod
def zq53x := @List.mem_append
def zq54x := @List.length_singleton
def zq55x := @List.set_set
def zq56x := @List.getElem_mem
def zq57x := @PySem.F.called_set
def zq58x := @List.append_assoc
def zq59x := @PySem.boot_len
def zq60x := @PySem.W.hideAll_none
def zq61x := @List.filterMap_cons
def zq62x := @Nat.lt_succ_self
def zq63x := @PySem.mem_of_lookup
def zq64x := @Bool.or_false
def zq65x := @List.length_eq_zero_iff
def zq66x := @PySem.W.kia_tup
def zq67x := @Int.emod_nonneg
def zq68x := @Int.emod_lt_of_pos
def zq69x := @List.mem_filter
def zq70x := @Bool.eq_iff_iff
def zq71x := @Nat.le_succ
def zq72x := @List.mem_of_getElem?
def zq73x := @List.all_eq_true
def zq74x := @Option.map_eq_some_iff
def zq75x := @List.all_cons
def zq76x := @List.ext_getElem?
def zq77x := @Nat.lt_succ_of_lt
def zq78x := @Array.getElem?_toList
def zq79x := @List.getD_eq_getElem?_getD
def zq80x := @Bool.or_true
def zq81x := @List.flatMap_cons
def zq82x := @List.mem_append_left
def zq83x := @Nat.le_of_eq
def zq84x := @PySem.W.callWith_K
def zq85x := @List.length_take
def zq86x := @Bool.false_or
def zq87x := @Array.getElem?_eq_some_iff
def zq88x := @PySem.Around.under_plainId
def zq89x := @Nat.mul_assoc
def zq90x := @List.range_succ
def zq91x := @List.filter_append
def zq92x := @PySem.PassesOwn.never
def zq93x := @List.mem_range
def zq94x := @Nat.ne_of_gt
def zq95x := @PyProof.Rows.callWith_type1
def zq96x := @PySem.W.looks_findIn
def zq97x := @PySem.W.methodCall_KW
def zq98x := @PySem.W.kitx_dict
def zq99x := @PySem.Heap.get?_update_self
def zq100x := @PySem.SeqAt.canLay_of_shaped
def zq101x := @Nat.succ.inj
def zq102x := @Nat.lt_trans
def zq103x := @Array.size_extract
def zq104x := @Nat.mod_lt
def zq105x := @List.getElem?_eq_none
def zq106x := @Nat.pow_add
def zq107x := @Nat.mul_comm
def zq108x := @List.mem_flatMap
def zq109x := @Bool.eq_false_iff
def zq110x := @List.map_set
def zq111x := @PySem.Value.isInt_shape
def zq112x := @PySem.W.hideAll_get
def zq113x := @PySem.Heap.get?_none_of_le
def zq114x := @List.mem_filterMap
def zq115x := @PySem.W.plainGet_of
def zq116x := @PySem.W.kitx_list
def zq117x := @List.of_mem_zip
def zq118x := @Nat.le_of_not_lt
def zq119x := @Nat.lt_of_le_of_lt
def zq120x := @Array.getD_eq_getD_getElem?
def zq121x := @Array.getElem?_eq_none
def zq122x := @Nat.lt_or_eq_of_le
def zq123x := @PyProof.Rows.F.plain_set_update_loop
def zq124x := @List.range_succ_eq_map
def zq125x := @Nat.lt_of_lt_of_eq
def zq126x := @List.nodup_append
def zq127x := @List.any_eq_true
def zq128x := @List.any_cons
def zq129x := @Nat.mul_one
def zq130x := @Nat.zero_mul
def zq131x := @Nat.div_add_mod
def zq132x := @Nat.mod_mod
def zq133x := @Nat.mod_mod_of_dvd
def zq134x := @Nat.one_mul
def zq135x := @Nat.le_of_dvd
def zq136x := @Option.isNone_iff_eq_none
def zq137x := @List.contains_cons
def zq138x := @PySem.F.typeOf_object_class
def zq139x := @PySem.W.Looks.at
def zq140x := @Int.mul_le_mul
def zq141x := @PyProof.Rows.boot_int
def zq142x := @PySem.Calls.Name_function_global
def zq143x := @Array.mem_toList_iff
def zq144x := @PySem.W.cellsFrom_some
def zq145x := @Option.isSome_iff_exists
def zq146x := @List.getElem?_take_of_lt
def zq147x := @List.filterMap_cons_some
def zq148x := @Array.getElem?_push
def zq149x := @Array.getElem?_extract_of_lt
def zq150x := @List.pairwise_lt_range
def zq151x := @List.getElem?_toArray
def zq152x := @List.length_eraseIdx_of_lt
def zq153x := @PySem.F.plain_list_iadd
def zq154x := @PySem.F.plain_extend_loop
def zq155x := @List.Nodup.length_le_of_subset
def zq156x := @Nat.dvd_of_mod_eq_zero
def zq157x := @Int.eq_ofNat_of_zero_le
def zq158x := @List.flatMap_append
def zq159x := @Nat.le_of_ble_eq_true
def zq160x := @List.filter_cons_of_pos
def zq161x := @List.filter_cons_of_neg
def zq162x := @Int.natAbs_dvd_natAbs
def zq163x := @PyProof.Rows.boot_min
def zq164x := @PySem.F.plainAttrs_list
def zq165x := @PySem.F.slot_list_append
def zq166x := @PySem.F.type_list_append
def zq167x := @PyProof.Rows.boot_tuple
def zq168x := @PyProof.Rows.boot_bool
def zq169x := @PyProof.Rows.boot_str
def zq170x := @List.replicate_succ'
namespace L2
open PySem PySem.Spec PyProof.Rows
abbrev Key := Sum Int Str
def keyIs : Key -> Value -> Bool
 | .inl k, v => Value.isInt k v
 | .inr x, v => Value.isStrOf x v
def keyH (w : World) : Key -> Int
 | .inl k => hashInt k
 | .inr x => hashStr w x
theorem keyIs_shape : ∀ {k : Key} {v : Value}, keyIs k v = true -> (∃ i t, k = Sum.inl i /\ v = Value.int i t) \/ (∃ x t, k = Sum.inr x /\ v = Value.str x t)
  | .inl i, v, h => by
    obtain ⟨t, e⟩ := zq111x (k := i) (v := v) h
    exact .inl ⟨i, t, rfl, e⟩
  | .inr x, v, h => by
    obtain ⟨t, e⟩ := Value.isStrOf_shape (x := x) (v := v) h
    exact .inr ⟨x, t, rfl, e⟩
theorem key_ll (a b : Int) : decide ((Sum.inl a : Key) = Sum.inl b) = (a == b) := by
 by_cases e : a = b
 ·subst e; simp
 ·have h : ¬ (Sum.inl a : Key) = Sum.inl b := fun q => e (Sum.inl.inj q)
  rw [decide_eq_false h]
  exact (beq_eq_false_iff_ne.mpr e).symm
theorem key_rr (a b : Str) : decide ((Sum.inr a : Key) = Sum.inr b) = decide (a = b) := by
 by_cases e : a = b
 ·subst e; simp
 ·have h : ¬ (Sum.inr a : Key) = Sum.inr b := fun q => e (Sum.inr.inj q)
  rw [decide_eq_false h, decide_eq_false e]
theorem key_lr (a : Int) (b : Str) : decide ((Sum.inl a : Key) = Sum.inr b) = false := decide_eq_false (fun q => nomatch q)
theorem key_rl (a : Str) (b : Int) : decide ((Sum.inr a : Key) = Sum.inl b) = false := decide_eq_false (fun q => nomatch q)
def mixKind (prog : Program) (w : World) : PySem.KeyKind prog w Key where
 is := keyIs
 hash := keyH w
 inj := fun v a b ha hb => by
  rcases keyIs_shape ha with ⟨i, t, rfl, rfl⟩ | ⟨x, t, rfl, rfl⟩
  ·rcases keyIs_shape hb with ⟨j, u, rfl, e⟩ | ⟨y, u, rfl, e⟩
   ·injection e with e1 _; rw [e1]
   ·exact nomatch e
  ·rcases keyIs_shape hb with ⟨j, u, rfl, e⟩ | ⟨y, u, rfl, e⟩
   ·exact nomatch e
   ·injection e with e1 _; rw [e1]
 byValue := fun k v h => by
  rcases keyIs_shape h with ⟨i, t, rfl, rfl⟩ | ⟨x, t, rfl, rfl⟩ <;> rfl
 pyHash := fun hv h => by
  rcases keyIs_shape hv with ⟨i, t, rfl, rfl⟩ | ⟨x, t, rfl, rfl⟩
  ·exact wpAny_pyHash_int h
  ·exact wpAny_pyHash_str h
 eqBool := fun hu hv h => by
  rcases keyIs_shape hu with ⟨i, t, rfl, rfl⟩ | ⟨x, t, rfl, rfl⟩
  ·rcases keyIs_shape hv with ⟨j, u, rfl, rfl⟩ | ⟨y, u, rfl, rfl⟩
   ·rw [key_ll] at h; exact wpAny_eqBool_int h
   ·rw [key_lr] at h; exact SeqAt.EqAt.int_str i t y u _ _ _ _ h
  ·rcases keyIs_shape hv with ⟨j, u, rfl, rfl⟩ | ⟨y, u, rfl, rfl⟩
   ·rw [key_rl] at h; exact SeqAt.EqAt.str_int x t j u _ _ _ _ h
   ·rw [key_rr] at h; exact wpAny_eqBool_str h
 «strs» := fun k x t v h => by
  rcases keyIs_shape h with ⟨i, u, rfl, e⟩ | ⟨y, u, rfl, e⟩
  ·exact nomatch e
  ·injection e with e1 _
   subst e1
   cases v <;> rfl
inductive V where
 | non | bl (b : Bool) | int (i : Int) | str (x : Str) | byt (b : Array UInt8) | flt (b : UInt64) | ref (a : Addr) | ty (n : String)
 deriving DecidableEq
def RelV : V -> Value -> Prop
 | .non, u => u = Value.none
 | .bl b, u => u = Value.bool b
 | .int i, u => ∃ t, u = Value.int i t
 | .str x, u => ∃ t, u = Value.str x t
 | .byt b, u => ∃ t, u = Value.bytes b t
 | .flt b, u => ∃ t, u = Value.float b t
 | .ref a, u => u = Value.ref a
 | .ty n, u => u = Value.type n
abbrev Vals : List V -> List Value -> Prop := Paired RelV
theorem Vals.length {xs : List V} {us : List Value} (r : Vals xs us) : xs.length = us.length := Paired.length r
theorem Vals.get : ∀ {xs : List V} {us : List Value} {i : Nat} {x : V}, Vals xs us -> xs[i]? = some x -> ∃ u, us[i]? = some u /\ RelV x u
  | _, _, _, _, .nil, e => by simp at e
  | _, _, 0, _, .cons r _, e => by simp at e; subst e; exact ⟨_, rfl, r⟩
  | _, _, i + 1, x, .cons _ t, e => by
    obtain ⟨u, h1, h2⟩ := Vals.get (i := i) (x := x) t (by simpa using e)
    exact ⟨u, by simpa using h1, h2⟩
theorem Vals.set {x : V} {u : Value} (r : RelV x u) : ∀ {xs : List V} {us : List Value} (i : Nat), Vals xs us -> Vals (xs.set i x) (us.set i u)
 | _, _, _, .nil => .nil
 | _, _, 0, .cons _ t => .cons r t
 | _, _, i + 1, .cons q t => .cons q (Vals.set r i t)
theorem Vals.append : ∀ {xs ys : List V} {us ws : List Value}, Vals xs us -> Vals ys ws -> Vals (xs ++ ys) (us ++ ws)
 | _, _, _, _, .nil, s => s
 | _, _, _, _, .cons r t, s => .cons r (Vals.append t s)
theorem Vals.take : ∀ {xs : List V} {us : List Value} (n : Nat), Vals xs us -> Vals (xs.take n) (us.take n)
 | _, _, 0, _ => .nil
 | _, _, _ + 1, .nil => .nil
 | _, _, n + 1, .cons r t => .cons r (Vals.take n t)
theorem Vals.drop : ∀ {xs : List V} {us : List Value} (n : Nat), Vals xs us -> Vals (xs.drop n) (us.drop n)
 | _, _, 0, r => r
 | _, _, _ + 1, .nil => .nil
 | _, _, n + 1, .cons _ t => Vals.drop n t
def RelO : Option V -> Option Value -> Prop
 | some v, some u => RelV v u
 | none, none => True
 | _, _ => False
def KV {κ : Type} : List (κ × V) -> List (κ × Value) -> Prop := Paired fun (p : κ × V) (q : κ × Value) => p.1 = q.1 /\ RelV p.2 q.2
def kV : Key -> V
 | .inl i => .int i
 | .inr x => .str x
inductive HO where
  | lst (xs : List V)
  | tup (xs : List V)
  | dK (kvs : List (Key × V)) | dT (kvs : List (List Key × V))
  | set (S : Int -> Bool) (n : Nat)
  | ins (C dx : Addr) (fs : List (Str × V))
  | own (x : Addr)
  | xd (fs : List (Str × V))
  | met (f x : Addr)
  | rng (lo hi : Int)
  | frz (o : Obj) (u : HO)
  | tbl (ps : Array Value)
  | ext (φ : Heap -> Prop)
abbrev Hp := Addr -> Option HO
def upd (H : Hp) (a : Addr) (o : HO) : Hp := fun b => if b = a then some o else H b
theorem upd_same {H : Hp} {a : Addr} {o : HO} : upd H a o a = some o := by unfold upd; rw [if_pos rfl]
theorem upd_ne {H : Hp} {a b : Addr} {o : HO} (h : b ≠ a) : upd H a o b = H b := by unfold upd; rw [if_neg h]
theorem upd_upd {H : Hp} {a : Addr} {o u : HO} : upd (upd H a o) a u = upd H a u := by
 funext b; unfold upd; split <;> rfl
theorem ne_of_none {H : Hp} {a b : Addr} {o : HO} (h : H a = some o) (h' : H b = none) : a ≠ b := by
 intro e; subst e; rw [h] at h'; cases h'
section
variable (P : Program) (w : World)
def ObjOk (H : Hp) (h : Heap) (a : Addr) : HO -> Prop
 | .lst xs => xs.length <= sizeLine /\ ∃ (its : List Value) (n : Nat), Vals xs its /\ h.get? a = some { cls := .type "list", data := .seq its.toArray n }
 | .tup xs => xs.length <= sizeLine /\ ∃ its : List Value, Vals xs its /\ IsTup h a its.toArray
 | .dK kvs => kvs.length <= sizeLine /\ (a == sysModules) = false /\ ∃ vs, KV kvs vs /\ h.DictOf (mixKind P w) a vs
 | .dT kvs => kvs.length <= sizeLine /\ (a == sysModules) = false /\ ∃ xs : List (List Key × Addr × Value),
   Paired (fun (p : List Key × V) (q : List Key × Addr × Value) => p.1 = q.1 /\ H q.2.1 = some (.tup (p.1.map kV)) /\ RelV p.2 q.2.2) kvs xs /\
   ∃ o es ep, h.get? a = some o /\ o.ExactDict /\ o.data = .dict es ep /\ es.toList = xs.map (entryOfKey (tupleKind (mixKind P w))) /\ (xs.map (·.1)).Nodup
 | .set S n => h.SetOf (intKind P w) a S n
 | .ins C dx fs => H dx = some (.own a) /\ fs.length <= 1000 /\ dx ≠ a /\ h.get? a = some (PySem.W.instObj C dx) /\
   ∃ mA, h.Ns1 dx mA /\ (∀ f, RelO (fs.lookup f) (mA f)) /\ PySem.Within mA (fs.map (·.1))
 | .own _ => ∃ o, h.get? a = some o
 | .xd fs => ∃ mA, h.Ns1 a mA /\ ∀ f, RelO (fs.lookup f) (mA f)
 | .rng lo hi => ∃ t u v, h.get? a = some { cls := .type "range", data := .fields #[.int lo t, .int hi u, .int 1 v] }
 | .frz o u => h.get? a = some o /\ ObjOk H h a u
 | .tbl ps => h.get? a = some { cls := .none, data := .fields ps }
 | .met f x => h.get? a = some (PySem.W.methodObj (.ref f) (.ref x))
 | .ext φ => φ h /\ (∃ o, h.get? a = some o) /\ ∀ h1 h2 : Heap, φ h1 -> (∀ o, h1.get? a = some o -> h2.get? a = some o) -> φ h2
def HOk (H : Hp) (h : Heap) : Prop := ∀ a o, H a = some o -> ObjOk P w H h a o
end
section
variable {P : Program} {w : World} {H H' : Hp} {h h' : Heap} {a : Addr} {o : HO}
theorem ObjOk.lt (x : ObjOk P w H h a o) : a < h.objs.size := by
 cases o with
 | lst xs => obtain ⟨_, _, _, _, e⟩ := x; exact zq4x e
 | tup xs => obtain ⟨_, _, _, p⟩ := x; exact p.lt
 | dK kvs => obtain ⟨_, _, _, _, o, _, _, e, _⟩ := x; exact zq4x e
 | dT kvs => obtain ⟨_, _, _, _, o, _, _, e, _⟩ := x; exact zq4x e
 | set S n => obtain ⟨o, _, _, _, e, _⟩ := x; exact zq4x e
 | ins C dx fs => obtain ⟨_, _, _, e, _⟩ := x; exact zq4x e
 | own y => obtain ⟨_, e⟩ := x; exact zq4x e
 | xd fs => obtain ⟨_, ⟨_, _, _, e, _⟩, _⟩ := x; exact zq4x e
 | rng lo hi => obtain ⟨_, _, _, e⟩ := x; exact zq4x e
 | frz ob u => obtain ⟨e, _⟩ := x; exact zq4x e
 | tbl ps => exact zq4x (show h.get? a = some _ from x)
 | met f y => exact zq4x (show h.get? a = some _ from x)
 | ext φ => obtain ⟨_, ⟨_, e⟩, _⟩ := x; exact zq4x e
theorem Paired.mapP {α β : Type} {F G : α -> β -> Prop} : ∀ {l₁ : List α} {l₂ : List β}, Paired F l₁ l₂ -> (∀ a b, F a b -> G a b) -> Paired G l₁ l₂
 | _, _, .nil, _ => .nil
 | _, _, .cons r t, f => .cons (f _ _ r) (Paired.mapP t f)
theorem ObjOk.stay (x : ObjOk P w H h a o) (k : ∀ b u, (b = a \/ H b = some (.own a)) -> h.get? b = some u -> h'.get? b = some u)
    (ho : ∀ b, H b = some (.own a) -> H' b = some (.own a)) (ht : ∀ b xs, H b = some (.tup xs) -> H' b = some (.tup xs)) : ObjOk P w H' h' a o := by
  induction o with
  | lst xs => obtain ⟨z, its, n, r, e⟩ := x; exact ⟨z, its, n, r, k _ _ (.inl rfl) e⟩
  | tup xs => obtain ⟨z, its, r, ob, e, c⟩ := x; exact ⟨z, its, r, ob, k _ _ (.inl rfl) e, c⟩
  | dK kvs => obtain ⟨z, y, vs, r, ob, es, ep, e, c⟩ := x; exact ⟨z, y, vs, r, ob, es, ep, k _ _ (.inl rfl) e, c⟩
  | dT kvs =>
    obtain ⟨z, y, xs, r, ob, es, ep, e, c⟩ := x
    exact ⟨z, y, xs, Paired.mapP r fun p q z => ⟨z.1, ht _ _ z.2.1, z.2.2⟩, ob, es, ep, k _ _ (.inl rfl) e, c⟩
  | set S n => obtain ⟨ob, es, ep, t, e, c⟩ := x; exact ⟨ob, es, ep, t, k _ _ (.inl rfl) e, c⟩
  | ins C dx fs =>
    obtain ⟨d, z, ne, e, mA, ⟨od, es, ep, e2, c⟩, r⟩ := x
    exact ⟨ho _ d, z, ne, k _ _ (.inl rfl) e, mA, ⟨od, es, ep, k _ _ (.inr d) e2, c⟩, r⟩
  | own y => obtain ⟨ob, e⟩ := x; exact ⟨ob, k _ _ (.inl rfl) e⟩
  | xd fs => obtain ⟨mA, ⟨od, es, ep, e, c⟩, r⟩ := x; exact ⟨mA, ⟨od, es, ep, k _ _ (.inl rfl) e, c⟩, r⟩
  | rng lo hi => obtain ⟨t, u, v, e⟩ := x; exact ⟨t, u, v, k _ _ (.inl rfl) e⟩
  | frz ob u ih => obtain ⟨e, q⟩ := x; exact ⟨k _ _ (.inl rfl) e, ih q⟩
  | tbl ps =>
    have e : h.get? a = some { cls := .none, data := .fields ps } := x
    show h'.get? a = some { cls := .none, data := .fields ps }
    exact k a _ (.inl rfl) e
  | met f y =>
    have e : h.get? a = some (PySem.W.methodObj (.ref f) (.ref y)) := x
    show h'.get? a = some (PySem.W.methodObj (.ref f) (.ref y))
    exact k a _ (.inl rfl) e
  | ext φ => obtain ⟨p, ⟨o, e⟩, st⟩ := x; exact ⟨st _ _ p fun o q => k _ _ (.inl rfl) q, ⟨o, k _ _ (.inl rfl) e⟩, st⟩
theorem HOk.lt (x : HOk P w H h) (e : H a = some o) : a < h.objs.size := (x a o e).lt
theorem HOk.fresh (x : HOk P w H h) (e : h.objs.size <= a) : H a = none := by
 cases q : H a with
 | none => rfl
 | some u => exact absurd (zq17x (x.lt q) e) (zq46x _)
theorem HOk.kept (x : HOk P w H h) (k : ∀ b u, h.get? b = some u -> h'.get? b = some u) : HOk P w H h' := fun a o e =>
 (x a o e).stay (fun b u _ q => k b u q) (fun _ q => q) fun _ _ q => q
theorem HOk.laid (x : HOk P w H h) (k : ∀ b u, h.get? b = some u -> h'.get? b = some u) (hp : h.objs.size <= a) (new : ObjOk P w (upd H a o) h' a o) : HOk P w (upd H a o) h' := fun b u e => by
 have hn := x.fresh hp
 by_cases hb : b = a
 ·subst hb; rw [upd_same] at e; cases e; exact new
 ·rw [upd_ne hb] at e
  exact (x b u e).stay (fun c v _ q => k c v q) (fun c q => by rw [upd_ne (ne_of_none q hn)]; exact q) fun c xs q => by rw [upd_ne (ne_of_none q hn)]; exact q
end
def Rd (H : Hp) (a : Addr) (u : HO) : Prop := H a = some u \/ ∃ o, H a = some (.frz o u)
theorem Rd.ok {P : Program} {w : World} {H : Hp} {h : Heap} {a : Addr} {u : HO} (r : Rd H a u) (x : HOk P w H h) : ObjOk P w H h a u := by
 rcases r with r | ⟨o, r⟩
 ·exact x a u r
 ·obtain ⟨_, q⟩ := x a _ r
  exact q
def Mut : Option HO -> Prop
 | some (.lst _) => True
 | some (.dK _) => True
 | some (.dT _) => True
 | some (.set _ _) => True
 | some (.ins _ _ _) => True
 | some (.ext _) => True
 | _ => False
section
variable {P : Program} {w : World} {H : Hp} {h h' : Heap} {x e : Addr} {o' : HO}
theorem HOk.write (ok : HOk P w H h) (mu : Mut (H x)) (he : e = x \/ H e = some (.own x)) (k : ∀ b u, b ≠ e -> h.get? b = some u -> h'.get? b = some u) (heo : ∃ u, h'.get? e = some u)
  (new : ObjOk P w (upd H x o') h' x o') : HOk P w (upd H x o') h' := fun b u q => by
 have nown : ∀ c y, H c = some (.own y) -> c ≠ x := fun c y r z => by subst z; rw [r] at mu; exact mu
 have ntup : ∀ c xs, H c = some (.tup xs) -> c ≠ x := fun c xs r z => by subst z; rw [r] at mu; exact mu
 by_cases hb : b = x
 ·subst hb; rw [upd_same] at q; cases q; exact new
 ·rw [upd_ne hb] at q
  by_cases hbe : b = e
  ·have q' : H b = some (.own x) := by
    rcases he with z | z
    ·exact absurd (hbe.trans z) hb
    ·rw [hbe]; exact z
   rw [q] at q'; cases q'
   obtain ⟨v, hv⟩ := heo
   exact ⟨v, by rw [hbe]; exact hv⟩
  ·refine (ok b u q).stay (fun c v hc r => k c v ?_ r) (fun c r => by rw [upd_ne (nown c b r)]; exact r) fun c xs r => by rw [upd_ne (ntup c xs r)]; exact r
   rcases hc with rfl | hc
   ·exact hbe
   ·rintro rfl
    rcases he with z | z
    ·exact nown c b hc z
    ·rw [hc] at z; cases z; exact hb rfl
end
structure Un (fs ex : List Addr) (H H' : Hp) (h h' : Heap) : Prop where
 keep : ∀ b o, h.get? b = some o -> H b = none -> b ∉ fs -> b ∉ ex -> h'.get? b = some o
 slot : ∀ b o, h.get? b = some o -> H b = none -> b ∈ fs -> b ∉ ex -> ∃ sl, h'.get? b = some { o with slots := sl }
 free : ∀ b o, h.get? b = some o -> H b = none -> b ∉ ex -> H' b = none
 there : ∀ b o, h.get? b = some o -> b ∉ ex -> ∃ o', h'.get? b = some o'
 tups : ∀ b xs, H b = some (.tup xs) -> H' b = some (.tup xs)
 frzs : ∀ b o u, H b = some (.frz o u) -> H' b = some (.frz o u)
 tbls : ∀ b ps, H b = some (.tbl ps) -> ∃ more, H' b = some (.tbl (ps ++ more))
section
variable {fs fs' ex ex' : List Addr} {H H1 H2 : Hp} {h h1 h2 h' : Heap} {a x e : Addr} {o : HO}
theorem Un.any (u : Un fs ex H H1 h h1) {b : Addr} {ob : Obj} (q : h.get? b = some ob) (n : H b = none) (hx : b ∉ ex) : ∃ sl, h1.get? b = some { ob with slots := sl } := by
 by_cases hb : b ∈ fs
 ·exact u.slot b ob q n hb hx
 ·exact ⟨ob.slots, u.keep b ob q n hb hx⟩
theorem Un.kept (k : ∀ b u, h.get? b = some u -> h'.get? b = some u) : Un fs ex H H h h' :=
 ⟨fun b ob q _ _ _ => k b ob q, fun b ob q _ _ _ => ⟨ob.slots, k b ob q⟩, fun _ _ _ n _ => n, fun b ob q _ => ⟨ob, k b ob q⟩, fun _ _ q => q, fun _ _ _ q => q, fun _ ps q => ⟨#[], by rw [q]; simp⟩⟩
theorem Un.refl : Un fs ex H H h h := Un.kept fun _ _ q => q
theorem Un.laid (k : ∀ b u, h.get? b = some u -> h'.get? b = some u) (hp : h.objs.size <= a) (hn : H a = none) : Un fs ex H (upd H a o) h h' where
 keep := fun b u q _ _ _ => k b u q
 slot := fun b u q _ _ _ => ⟨u.slots, k b u q⟩
 free := fun b u q n _ => by rw [upd_ne (zq13x (zq17x (zq4x q) hp))]; exact n
 there := fun b u q _ => ⟨u, k b u q⟩
 tups := fun b xs q => by rw [upd_ne (ne_of_none q hn)]; exact q
 frzs := fun b u xs q => by rw [upd_ne (ne_of_none q hn)]; exact q
 tbls := fun b ps q => ⟨#[], by rw [upd_ne (ne_of_none q hn), q]; simp⟩
theorem Un.write (mu : Mut (H x)) (he : e = x \/ H e = some (.own x)) (k : ∀ b u, b ≠ e -> h.get? b = some u -> h'.get? b = some u) (heo : ∃ u, h'.get? e = some u) : Un fs ex H (upd H x o) h h' := by
 have hx : ∀ b, H b = none -> b ≠ x := fun b n z => by subst z; rw [n] at mu; exact mu
 have hb : ∀ b, H b = none -> b ≠ e := fun b n z => by
  subst z
  rcases he with r | r
  ·exact hx b n r
  ·rw [n] at r; cases r
 have hm : ∀ b u, H b = some u -> ¬ Mut (some u) -> b ≠ x := fun b u q nm z => by subst z; rw [q] at mu; exact nm mu
 refine ⟨fun b u q n _ _ => k b u (hb b n) q, fun b u q n _ _ => ⟨u.slots, k b u (hb b n) q⟩, fun b u q n _ => by rw [upd_ne (hx b n)]; exact n, fun b u q _ => ?_,
  fun b xs q => by rw [upd_ne (hm b _ q fun z => z)]; exact q, fun b u xs q => by rw [upd_ne (hm b _ q fun z => z)]; exact q, fun b ps q => ⟨#[], by rw [upd_ne (hm b _ q fun z => z), q]; simp⟩⟩
 by_cases hbe : b = e
 ·subst hbe; exact heo
 ·exact ⟨u, k b u hbe q⟩
end
def trk (h : Heap) (H : Hp) : List Addr := (List.range h.objs.size).filter fun a => (H a).isSome
def hidT (h : Heap) (H : Hp) : Heap := PySem.W.hideAll h (trk h H)
theorem hidT_size (h : Heap) (H : Hp) : (hidT h H).objs.size = h.objs.size := PySem.W.hideAll_size _ _
theorem hidT_get {h : Heap} {H : Hp} {b : Addr} {o : Obj} (e : h.get? b = some o) (n : H b = none) : (hidT h H).get? b = some o :=
 zq112x _ e fun hm => by
  have q : (H b).isSome = true := (zq69x.mp hm).2
  rw [n] at q; simp at q
theorem of_hidT {h : Heap} {H : Hp} {b : Addr} {o : Obj} (e : (hidT h H).get? b = some o) : h.get? b = some o /\ H b = none := by
  have e' : h.get? b = some o := PySem.W.of_hideAll (trk h H) e
  refine ⟨e', ?_⟩
  cases q : H b with
  | none => rfl
  | some x =>
    have hm : b ∈ trk h H := zq69x.mpr ⟨zq93x.mpr (zq4x e'), by simp [q]⟩
    have z : (hidT h H).get? b = none := zq60x (trk h H) hm
    rw [z] at e; cases e
def allNews (g h : Heap) (L : Addr) : List (Addr × Obj) := (List.range h.objs.size).filterMap fun a => if a = L \/ (g.get? a).isSome = true then none else (h.get? a).map fun o => (a, o)
def rest (g h : Heap) (L d : Addr) : List (Addr × Obj) := (allNews g h L).filter fun p => decide (p.1 ≠ d)
structure Mod (K : PySem.W.Frag) (mg : Str -> Option Value) (base : Heap) : Prop where
 kin : K.In base
 glob : base.Ns mainGlobals mg
 blt : ∃ mb, base.Ns builtinsNs mb /\ ∀ x : Str, x ≠ "__name__" -> mb x = bootBuiltins x
 nolimit : base.NoLimit
structure Cx where
 prog : Program
 w : World
 K : PySem.W.Frag
 mg : Str -> Option Value
 base : Heap
 A : Around
 N : List Str
 s₀ : Shared
 H₀ : Hp
 env : Env
 outer : List Env
 stack : List Env
 ex : List Addr
 fn : Str -> Bool
 calm : Bool
 pn : List (Addr × Obj)
 xe : Value -> Shared -> Prop
def frs (l : List Env) : List Addr := l.filterMap (·.frame)
abbrev Cx.fs (X : Cx) : List Addr := frs X.outer
def Vis (sc : Scope) (x : Str) : Prop := sc.names.lookup x = some .local \/ sc.names.lookup x = some .cell \/ sc.names.lookup x = some .free
def Loc (sc : Scope) (x : Str) : Prop := sc.names.lookup x = some .local \/ sc.names.lookup x = some .cell
def Look (env : Env) (h : Heap) (m : Str -> Option Value) (x : Str) (u : Value) : Prop :=
 (env.kindOf x = some .local /\ m x = some u) \/ ((env.kindOf x = some .cell \/ env.kindOf x = some .free) /\ ∃ c, env.cells.lookup x = some c /\ h.IsCell c (some u))
structure Cx.Ok (X : Cx) : Prop where
 mod : Mod X.K X.mg X.base
 kind : X.env.scope.kind = .function
 glob : X.env.globals = mainGlobals
 blt : X.env.builtins = builtinsNs
 above : X.s₀.heap.objs.size <= X.env.locals
 inj : ∀ x y c, X.env.cells.lookup x = some c -> X.env.cells.lookup y = some c -> x = y
 has : ∀ x, (X.env.kindOf x = some .cell \/ X.env.kindOf x = some .free) -> ∃ c, X.env.cells.lookup x = some c
 cab : ∀ x c, X.fn x = true -> X.env.cells.lookup x = some c -> X.s₀.heap.objs.size <= c
 hd : X.calm = true -> X.A.handled = none
 frames : X.A.frames = some X.stack
 stk : X.stack = X.outer \/ (X.stack = X.env :: X.outer /\ X.env.frame = some X.env.locals)
 exf : ∀ b ∈ X.ex, b ≠ X.env.locals /\ ∀ x c, X.env.cells.lookup x = some c -> c ≠ b
 bs : ∀ b o, X.base.get? b = some o -> X.s₀.heap.get? b = some o /\ X.H₀ b = none
 bsz : X.base.objs.size <= X.s₀.heap.objs.size
 noex : ∀ b o, X.base.get? b = some o -> b ∉ X.ex
 exfs : ∀ b ∈ X.ex, b ∉ X.fs
 funs : X.s₀.heap.FunFrames X.base X.outer
 frf : ∀ b ∈ X.fs, X.H₀ b = none
structure Inv (X : Cx) (pins : List (Addr × Obj)) (σ : List (Option V)) (H : Hp) (s : Shared) : Prop where
 ok : X.Ok
 os : s.os = X.s₀.os
 bare : AllBare s.gens
 base : Un X.fs X.ex X.H₀ H X.s₀.heap s.heap
 loc : ∃ m, s.heap.Ns X.env.locals m /\ ∀ (i : Nat) (x : Str) (v : V), X.N[i]? = some x -> σ[i]? = some (some v) -> Vis X.env.scope x -> ∃ u, RelV v u /\ Look X.env s.heap m x u
 cell : ∀ x c, X.env.cells.lookup x = some c -> ∃ v, s.heap.IsCell c v
 free : H X.env.locals = none
 freeC : ∀ x c, X.env.cells.lookup x = some c -> H c = none
 pin : ∀ p ∈ X.pn ++ pins, s.heap.get? p.1 = some p.2 /\ H p.1 = none /\ p.1 ≠ X.env.locals /\ p.1 ∉ X.fs /\ ∀ v, p.2.data ≠ .cell v
 hok : HOk X.prog X.w H s.heap
 len : σ.length = X.N.length
section
variable {X : Cx} {pins : List (Addr × Obj)} {σ : List (Option V)} {H H' : Hp} {s : Shared} {h' : Heap}
theorem Cx.Ok.nofr (ok : X.Ok) {b : Addr} {o : Obj} (e : X.base.get? b = some o) : b ∉ X.fs := fun hb => by
 have := (ok.funs.mem hb).1
 rw [e] at this; cases this
theorem Inv.bs (I : Inv X pins σ H s) : ∀ b o, X.base.get? b = some o -> s.heap.get? b = some o /\ H b = none := fun b o e =>
 ⟨I.base.keep b o (I.ok.bs b o e).1 (I.ok.bs b o e).2 (I.ok.nofr e) (I.ok.noex b o e), I.base.free b o (I.ok.bs b o e).1 (I.ok.bs b o e).2 (I.ok.noex b o e)⟩
theorem Inv.bk (I : Inv X pins σ H s) : ∀ b o, X.base.get? b = some o -> s.heap.get? b = some o := fun b o e => (I.bs b o e).1
theorem Inv.mod (I : Inv X pins σ H s) : Mod X.K X.mg X.base := I.ok.mod
theorem Inv.kIn (I : Inv X pins σ H s) : X.K.In s.heap := I.ok.mod.kin.keeps I.bk
theorem Inv.lt (I : Inv X pins σ H s) : X.env.locals < s.heap.objs.size := let ⟨_, hn, _⟩ := I.loc; hn.lt
theorem Inv.sz (I : Inv X pins σ H s) : X.s₀.heap.objs.size <= s.heap.objs.size := zq26x I.ok.above (zq49x I.lt)
theorem Inv.nofs (I : Inv X pins σ H s) {a : Addr} (h : s.heap.objs.size <= a) : a ∉ X.fs := fun hb => by
 obtain ⟨_, o, ho, _⟩ := I.ok.funs.mem hb
 exact absurd (zq17x (zq4x ho) (zq26x I.sz h)) (zq46x _)
theorem Inv.cne (I : Inv X pins σ H s) : ∀ x c, X.env.cells.lookup x = some c -> c ≠ X.env.locals := fun x c e z => by
 obtain ⟨v, o, ho, hd⟩ := I.cell x c e
 obtain ⟨m, ⟨o', es, ep, ho', hd', _⟩, _⟩ := I.loc
 rw [z, ho'] at ho; cases ho; rw [hd'] at hd; cases hd
theorem Inv.funs (I : Inv X pins σ H s) : s.heap.FunFrames X.base X.outer := by
  have all : ∀ (l : List Env), (∀ b ∈ frs l, b ∈ X.fs) -> X.s₀.heap.FunFrames X.base l -> s.heap.FunFrames X.base l := by
    intro l
    induction l with
    | nil => intro _ _; trivial
    | cons env r ih =>
      intro hs hl
      obtain ⟨hk, ⟨L, o, hf, hn, ho, hd⟩, hr⟩ := hl
      have hL : L ∈ X.fs := hs L (by unfold frs; rw [zq61x, hf]; exact zq20x)
      obtain ⟨sl, e⟩ := I.base.slot L o ho (I.ok.frf L hL) hL fun z => I.ok.exfs L z hL
      exact ⟨hk, ⟨L, _, hf, hn, e, hd⟩, ih (fun b hb => hs b (by unfold frs; rw [zq61x, hf]; exact zq12x _ hb)) hr⟩
  exact all X.outer (fun _ hb => hb) I.ok.funs
theorem Inv.stack (I : Inv X pins σ H s) : s.heap.FunFrames X.base X.stack := by
 rcases I.ok.stk with e | ⟨e, hf⟩
 ·rw [e]; exact I.funs
 ·rw [e]
  obtain ⟨m, hn, _⟩ := I.loc
  refine .cons (by rw [I.ok.kind]; decide) hf hn ?_ I.funs
  exact zq113x (zq26x I.ok.bsz I.ok.above)
theorem Inv.stkSub (I : Inv X pins σ H s) : ∀ b ∈ frs X.stack, b ∈ X.env.locals :: X.fs := fun b hb => by
 rcases I.ok.stk with e | ⟨e, hf⟩
 ·rw [e] at hb; exact zq12x _ hb
 ·rw [e] at hb
  unfold frs at hb
  rw [zq61x, hf] at hb
  exact hb
theorem Inv.stkFree (I : Inv X pins σ H s) : ∀ b ∈ frs X.stack, H b = none := fun b hb => by
 rcases zq2x.mp (I.stkSub b hb) with e | hb
 ·rw [e]; exact I.free
 ·obtain ⟨_, o, ho, _⟩ := I.ok.funs.mem hb
  exact I.base.free b o ho (I.ok.frf b hb) fun z => I.ok.exfs b z hb
theorem Inv.step {g' : Array GenState} {t' : Nat} {d' : Drawn} {ch : List Addr} (I : Inv X pins σ H s)
  (hch : ∀ b ∈ ch, (b ∈ X.ex \/ X.s₀.heap.objs.size <= b) /\ b ≠ X.env.locals /\ (∀ x c, X.env.cells.lookup x = some c -> c ≠ b) /\ ∀ p ∈ X.pn ++ pins, p.1 ≠ b)
  (keep : ∀ b o, b ≠ X.env.locals -> b ∉ X.fs -> b ∉ ch -> s.heap.get? b = some o -> H b = none -> h'.get? b = some o)
  (slot : ∀ b o, b ≠ X.env.locals -> b ∈ X.fs -> b ∉ ch -> s.heap.get? b = some o -> H b = none -> ∃ sl, h'.get? b = some { o with slots := sl }) (free : ∀ b o, b ∉ ch -> s.heap.get? b = some o -> H b = none -> H' b = none)
  (there : ∀ b o, b ∉ ch -> s.heap.get? b = some o -> ∃ o', h'.get? b = some o')
  (tups : ∀ b xs, H b = some (.tup xs) -> H' b = some (.tup xs)) (frzs : ∀ b o u, H b = some (.frz o u) -> H' b = some (.frz o u)) (tbls : ∀ b ps, H b = some (.tbl ps) -> ∃ more, H' b = some (.tbl (ps ++ more)))
  (ns : ∀ m, s.heap.Ns X.env.locals m -> h'.Ns X.env.locals m) (hok : HOk X.prog X.w H' h') (hg : AllBare g') :
  Inv X pins σ H' { s with heap := h', gens := g', drawn := d', toks := t' } := by
 have neL : ∀ b o, X.s₀.heap.get? b = some o -> b ≠ X.env.locals := fun b o e => zq13x (zq17x (zq4x e) I.ok.above)
 have neC : ∀ b o, X.s₀.heap.get? b = some o -> b ∉ X.ex -> b ∉ ch := fun b o e hx hb => by
  rcases (hch b hb).1 with z | z
  ·exact hx z
  ·exact absurd (zq17x (zq4x e) z) (zq46x _)
 have cellK : ∀ x c, X.env.cells.lookup x = some c -> ∀ v, s.heap.IsCell c v -> h'.IsCell c v := fun x c e v ⟨o, ho, hd⟩ => by
  have nch : c ∉ ch := fun z => (hch c z).2.2.1 x c e rfl
  by_cases hc : c ∈ X.fs
  ·obtain ⟨sl, q⟩ := slot c o (I.cne x c e) hc nch ho (I.freeC x c e)
   exact ⟨_, q, hd⟩
  ·exact ⟨o, keep c o (I.cne x c e) hc nch ho (I.freeC x c e), hd⟩
 refine ⟨I.ok, I.os, hg, ⟨fun b o e n hb hx => ?_, fun b o e n hb hx => ?_, fun b o e n hx => ?_, fun b o e hx => ?_, fun b xs e => tups b xs (I.base.tups b xs e), fun b o xs e => frzs b o xs (I.base.frzs b o xs e), fun b ps e => ?_⟩, ?_, fun x c e => ?_, ?_, fun x c e => ?_, fun p hp => ?_, hok, I.len⟩
 ·exact keep b o (neL b o e) hb (neC b o e hx) (I.base.keep b o e n hb hx) (I.base.free b o e n hx)
 ·obtain ⟨sl, e1⟩ := I.base.slot b o e n hb hx
  obtain ⟨sl', e2⟩ := slot b _ (neL b o e) hb (neC b o e hx) e1 (I.base.free b o e n hx)
  exact ⟨sl', e2⟩
 ·obtain ⟨o', e1⟩ := I.base.there b o e hx
  exact free b o' (neC b o e hx) e1 (I.base.free b o e n hx)
 ·obtain ⟨o', e1⟩ := I.base.there b o e hx
  exact there b o' (neC b o e hx) e1
 ·obtain ⟨m1, e1⟩ := I.base.tbls b ps e
  obtain ⟨m2, e2⟩ := tbls b _ e1
  exact ⟨m1 ++ m2, by rw [e2, Array.append_assoc]⟩
 ·obtain ⟨m, hn, hl⟩ := I.loc
  refine ⟨m, ns m hn, fun i x v e1 e2 e3 => ?_⟩
  obtain ⟨u, r, l⟩ := hl i x v e1 e2 e3
  refine ⟨u, r, ?_⟩
  rcases l with l | ⟨k, c, e, z⟩
  ·exact .inl l
  ·exact .inr ⟨k, c, e, cellK x c e _ z⟩
 ·obtain ⟨v, z⟩ := I.cell x c e
  exact ⟨v, cellK x c e v z⟩
 ·obtain ⟨m, ⟨o, _, _, ho, _⟩, _⟩ := I.loc
  exact free _ o (fun z => (hch _ z).2.1 rfl) ho I.free
 ·obtain ⟨v, o, ho, hd⟩ := I.cell x c e
  exact free c o (fun z => (hch c z).2.2.1 x c e rfl) ho (I.freeC x c e)
 ·obtain ⟨e, n, ne, nf, d⟩ := I.pin p hp
  have nch : p.1 ∉ ch := fun z => (hch p.1 z).2.2.2 p hp rfl
  exact ⟨keep p.1 p.2 ne nf nch e n, free p.1 p.2 nch e n, ne, nf, d⟩
theorem Inv.un {t' : Nat} (I : Inv X pins σ H s) (u : Un X.fs [] H H' s.heap h') (hok : HOk X.prog X.w H' h') : Inv X pins σ H' { s with heap := h', toks := t' } := by
 obtain ⟨m, ⟨o, es, ep, ho, r⟩, _⟩ := id I.loc
 obtain ⟨sl, hL⟩ := u.any ho I.free (by simp)
 exact I.step (g' := s.gens) (d' := s.drawn) (ch := []) (fun _ z => nomatch z) (fun b o _ hb _ e n => u.keep b o e n hb (by simp)) (fun b o _ hb _ e n => u.slot b o e n hb (by simp)) (fun b o _ e n => u.free b o e n (by simp)) (fun b o _ e => u.there b o e (by simp)) u.tups u.frzs u.tbls (fun m' hm => by
  obtain ⟨o', es', ep', ho', r'⟩ := hm
  rw [ho] at ho'; cases ho'
  exact ⟨_, es', ep', hL, r'⟩) hok I.bare
theorem Inv.call {g' : Array GenState} {t' : Nat} {d' : Drawn} {ch : List Addr} (I : Inv X pins σ H s) (u : Un (frs X.stack) ch H H' s.heap h') (hok : HOk X.prog X.w H' h') (hg : AllBare g')
  (hch : ∀ b ∈ ch, (b ∈ X.ex \/ X.s₀.heap.objs.size <= b) /\ b ≠ X.env.locals /\ (∀ x c, X.env.cells.lookup x = some c -> c ≠ b) /\ ∀ p ∈ X.pn ++ pins, p.1 ≠ b) :
  Inv X pins σ H' { s with heap := h', gens := g', drawn := d', toks := t' } := by
 obtain ⟨m, ⟨o, es, ep, ho, r⟩, _⟩ := id I.loc
 obtain ⟨sl, hL⟩ := u.any ho I.free fun z => (hch _ z).2.1 rfl
 exact I.step (ch := ch) hch (fun b o hL hb hc e n => u.keep b o e n (fun z => (zq2x.mp (I.stkSub b z)).elim hL hb) hc) (fun b o _ _ hc e n => u.any e n hc) (fun b o hc e n => u.free b o e n hc) (fun b o hc e => u.there b o e hc) u.tups u.frzs u.tbls (fun m' hm => by
  obtain ⟨o', es', ep', ho', r'⟩ := hm
  rw [ho] at ho'; cases ho'
  exact ⟨_, es', ep', hL, r'⟩) hok hg
theorem Inv.turned {t' : Nat} {it : Addr} (I : Inv X pins σ H s) (k : ∀ b o, b ≠ it -> s.heap.get? b = some o -> h'.get? b = some o) (hn : H it = none) (hL : it ≠ X.env.locals)
  (h1 : it ∈ X.ex \/ X.s₀.heap.objs.size <= it) (h2 : ∀ x c, X.env.cells.lookup x = some c -> c ≠ it) (h3 : ∀ p ∈ X.pn ++ pins, p.1 ≠ it) : Inv X pins σ H { s with heap := h', toks := t' } := by
 have nit : ∀ b u, H b = some u -> b ≠ it := fun b u e z => by rw [z, hn] at e; cases e
 refine I.step (g' := s.gens) (d' := s.drawn) (ch := [it]) (fun b hb => ?_) (fun b o _ _ hc e _ => k b o (fun z => hc (by simp [z])) e) (fun b o _ _ hc e _ => ⟨o.slots, k b o (fun z => hc (by simp [z])) e⟩) (fun _ _ _ _ n => n)
  (fun b o hc e => ⟨o, k b o (fun z => hc (by simp [z])) e⟩) (fun _ _ e => e) (fun _ _ _ e => e) (fun b ps e => ⟨#[], by rw [e]; simp⟩) (fun m hm => ?_) (fun b u e => ?_) I.bare
 ·have e : b = it := by simpa using hb
  subst e
  exact ⟨h1, hL, h2, h3⟩
 ·obtain ⟨o, es, ep, ho, r⟩ := hm
  exact ⟨o, es, ep, k _ o (zq6x hL) ho, r⟩
 ·refine (I.hok b u e).stay (fun c v hc q => k c v ?_ q) (fun _ q => q) fun _ _ q => q
  rcases hc with z | z
  ·rw [z]; exact nit b u e
  ·exact nit c _ z
theorem Inv.tok (I : Inv X pins σ H s) (t : Nat) : Inv X pins σ H { s with toks := t } := I.un (h' := s.heap) (t' := t) Un.refl I.hok
theorem Inv.kept {t' : Nat} (I : Inv X pins σ H s) (k : ∀ b u, s.heap.get? b = some u -> h'.get? b = some u) : Inv X pins σ H { s with heap := h', toks := t' } := I.un (Un.kept k) (I.hok.kept k)
theorem Inv.laid {a : Addr} {o : HO} {t' : Nat} (I : Inv X pins σ H s) (k : ∀ b u, s.heap.get? b = some u -> h'.get? b = some u) (hp : s.heap.objs.size <= a) (new : ObjOk X.prog X.w (upd H a o) h' a o) :
  Inv X pins σ (upd H a o) { s with heap := h', toks := t' } := I.un (Un.laid k hp (I.hok.fresh hp)) (I.hok.laid k hp new)
theorem Inv.write {x e : Addr} {o : HO} {t' : Nat} (I : Inv X pins σ H s) (mu : Mut (H x)) (he : e = x \/ H e = some (.own x)) (k : ∀ b u, b ≠ e -> s.heap.get? b = some u -> h'.get? b = some u) (heo : ∃ u, h'.get? e = some u)
  (new : ObjOk X.prog X.w (upd H x o) h' x o) : Inv X pins σ (upd H x o) { s with heap := h', toks := t' } := I.un (Un.write mu he k heo) (I.hok.write mu he k heo new)
theorem Inv.pins_of {pins' : List (Addr × Obj)} (I : Inv X pins σ H s) (h : ∀ p ∈ pins', s.heap.get? p.1 = some p.2 /\ H p.1 = none /\ p.1 ≠ X.env.locals /\ p.1 ∉ X.fs /\ ∀ v, p.2.data ≠ .cell v) : Inv X pins' σ H s :=
 ⟨I.ok, I.os, I.bare, I.base, I.loc, I.cell, I.free, I.freeC, fun p hp => (zq53x.mp hp).elim (fun z => I.pin p (zq82x _ z)) (h p), I.hok, I.len⟩
theorem nodup_ix {N : List Str} (hN : N.Nodup) {i j : Nat} {x : Str} (a : N[i]? = some x) (b : N[j]? = some x) : i = j := by
 obtain ⟨h1, e1⟩ := zq18x.mp a
 obtain ⟨h2, e2⟩ := zq18x.mp b
 exact (List.getElem_inj hN).mp (e1.trans e2.symm)
theorem store_ok2 {M : Model} {A : Around} {E : Value -> Shared -> Prop} {i : Nat} {x : Str} {v : V} {u : Value} {Q : Unit -> Shared -> Prop} (I : Inv X pins σ H s) (hN : X.N.Nodup) (hi : X.N[i]? = some x) (hx : Loc X.env.scope x) (r : RelV v u)
  (h : ∀ s', Inv X pins (σ.set i (some v)) H s' -> (∃ a, Heap.SameBut a s.heap s'.heap /\ (a = X.env.locals \/ X.env.cells.lookup x = some a)) -> Q () s') (hf : X.fn x = true \/ X.env.scope.names.lookup x = some .local := by first | exact .inl rfl | exact .inr rfl | assumption) : wpAny M A (storeName X.env x u) Q E s := by
 obtain ⟨m, hn, hl⟩ := id I.loc
 have hcls : (X.env.scope.kind == .class || (X.env.scope.kind == .module && X.env.locals != X.env.globals)) = false := by rw [I.ok.kind]; rfl
 have hiσ : i < σ.length := by rw [I.len]; exact (zq18x.mp hi).1
 have cne := I.cne
 have tracked : ∀ {a : Addr} {h' : Heap}, (∃ o, s.heap.get? a = some o /\ H a = none) -> Heap.SameBut a s.heap h' -> HOk X.prog X.w H h' := fun {a h'} ha hs b ob e => by
  obtain ⟨_, _, hfree⟩ := ha
  refine (I.hok b ob e).stay (fun c w' hc q => (hs.2 c ?_).trans q) (fun _ q => q) fun _ _ q => q
  rintro rfl
  rcases hc with rfl | hc
  ·rw [hfree] at e; cases e
  ·rw [hfree] at hc; cases hc
 rcases hx with hk | hk
 ·refine wpAny_storeName_local hk hn (fun h' hn' hs => ?_) hcls
  obtain ⟨oL, _, _, hoL, _⟩ := id hn
  refine h _ ⟨I.ok, I.os, I.bare, ⟨fun b o e n hb hx => ?_, fun b o e n hb hx => ?_, I.base.free, fun b o e hx => ?_, I.base.tups, I.base.frzs, I.base.tbls⟩, ⟨_, hn', fun j y v' e1 e2 e3 => ?_⟩, fun y c e => ?_, I.free, I.freeC, fun p hp => ?_, tracked ⟨oL, hoL, I.free⟩ hs, by simpa using I.len⟩ ⟨_, hs, .inl rfl⟩
  ·exact (hs.2 b (zq13x (zq17x (zq4x e) I.ok.above))).trans (I.base.keep b o e n hb hx)
  ·obtain ⟨sl, e1⟩ := I.base.slot b o e n hb hx
   exact ⟨sl, (hs.2 b (zq13x (zq17x (zq4x e) I.ok.above))).trans e1⟩
  ·obtain ⟨o', e1⟩ := I.base.there b o e hx
   exact ⟨o', (hs.2 b (zq13x (zq17x (zq4x e) I.ok.above))).trans e1⟩
  ·by_cases hj : j = i
   ·subst hj
    rw [hi] at e1; cases e1
    rw [zq9x hiσ] at e2
    cases e2
    exact ⟨u, r, .inl ⟨hk, by simp⟩⟩
   ·rw [zq5x (zq6x hj)] at e2
    obtain ⟨u', r', q⟩ := hl j y v' e1 e2 e3
    refine ⟨u', r', ?_⟩
    rcases q with ⟨k, e⟩ | ⟨k, c, e, z⟩
    ·refine .inl ⟨k, ?_⟩
     have : y ≠ x := fun e => hj (nodup_ix hN e1 (e ▸ hi))
     simp [this, e]
    ·exact .inr ⟨k, c, e, z.sameBut hs (cne y c e)⟩
  ·obtain ⟨w', z⟩ := I.cell y c e
   exact ⟨w', z.sameBut hs (cne y c e)⟩
  ·obtain ⟨e, n, ne, nf, d⟩ := I.pin p hp
   exact ⟨(hs.2 p.1 ne).trans e, n, ne, nf, d⟩
 ·have hfn : X.fn x = true := by
   rcases hf with z | z
   ·exact z
   ·rw [z] at hk; cases hk
  obtain ⟨c, hc⟩ := I.ok.has x (.inl hk)
  obtain ⟨w', z⟩ := I.cell x c hc
  refine wpAny_storeName_cell I.ok.kind hk hc z (fun h' hc' hs => ?_)
  obtain ⟨oc, hoc, hocd⟩ := id z
  refine h { s with heap := h' } ⟨I.ok, I.os, I.bare, ⟨fun b o e n hb hx => ?_, fun b o e n hb hx => ?_, I.base.free, fun b o e hx => ?_, I.base.tups, I.base.frzs, I.base.tbls⟩, ⟨m, hn.sameBut hs (zq6x (cne x c hc)), fun j y v' e1 e2 e3 => ?_⟩, fun y c' e => ?_, I.free, I.freeC, fun p hp => ?_, tracked ⟨oc, hoc, I.freeC x c hc⟩ hs, by simpa using I.len⟩ ⟨c, hs, .inr hc⟩
  ·exact (hs.2 b (zq13x (zq17x (zq4x e) (I.ok.cab x c hfn hc)))).trans (I.base.keep b o e n hb hx)
  ·obtain ⟨sl, e1⟩ := I.base.slot b o e n hb hx
   exact ⟨sl, (hs.2 b (zq13x (zq17x (zq4x e) (I.ok.cab x c hfn hc)))).trans e1⟩
  ·obtain ⟨o', e1⟩ := I.base.there b o e hx
   exact ⟨o', (hs.2 b (zq13x (zq17x (zq4x e) (I.ok.cab x c hfn hc)))).trans e1⟩
  ·by_cases hj : j = i
   ·subst hj
    rw [hi] at e1; cases e1
    rw [zq9x hiσ] at e2
    cases e2
    exact ⟨u, r, .inr ⟨.inl hk, c, hc, hc'⟩⟩
   ·rw [zq5x (zq6x hj)] at e2
    obtain ⟨u', r', q⟩ := hl j y v' e1 e2 e3
    refine ⟨u', r', ?_⟩
    rcases q with q | ⟨k, c', e, z'⟩
    ·exact .inl q
    ·refine .inr ⟨k, c', e, z'.sameBut hs ?_⟩
     rintro rfl
     exact hj (nodup_ix hN e1 (I.ok.inj _ _ _ e hc ▸ hi))
  ·by_cases hcc : c' = c
   ·subst hcc; exact ⟨_, hc'⟩
   ·obtain ⟨w2, z2⟩ := I.cell y c' e
    exact ⟨w2, z2.sameBut hs hcc⟩
  ·obtain ⟨e, n, ne, nf, d⟩ := I.pin p hp
   refine ⟨(hs.2 p.1 ?_).trans e, n, ne, nf, d⟩
   intro q
   rw [q, hoc] at e
   have q' : oc = p.2 := zq31x e
   exact d w' (by rw [<- q']; exact hocd)
theorem store_ok {M : Model} {A : Around} {E : Value -> Shared -> Prop} {i : Nat} {x : Str} {v : V} {u : Value} {Q : Unit -> Shared -> Prop} (I : Inv X pins σ H s) (hN : X.N.Nodup) (hi : X.N[i]? = some x) (hx : Loc X.env.scope x) (r : RelV v u)
  (h : ∀ s', Inv X pins (σ.set i (some v)) H s' -> Q () s') (hf : X.fn x = true \/ X.env.scope.names.lookup x = some .local := by first | exact .inl rfl | exact .inr rfl | assumption) : wpAny M A (storeName X.env x u) Q E s :=
 store_ok2 I hN hi hx r (fun s' I' _ => h s' I') hf
theorem Inv.call' {s' : Shared} {ch : List Addr} (I : Inv X pins σ H s) (ho : s'.os = s.os) (u : Un (frs X.stack) ch H H' s.heap s'.heap) (hok : HOk X.prog X.w H' s'.heap) (hg : AllBare s'.gens)
  (hch : ∀ b ∈ ch, (b ∈ X.ex \/ X.s₀.heap.objs.size <= b) /\ b ≠ X.env.locals /\ (∀ x c, X.env.cells.lookup x = some c -> c ≠ b) /\ ∀ p ∈ X.pn ++ pins, p.1 ≠ b) : Inv X pins σ H' s' := by
 obtain ⟨h', g', d', t', o'⟩ := s'
 have e : o' = s.os := ho
 subst e
 exact I.call (g' := g') (t' := t') (d' := d') u hok hg hch
end
abbrev XK := Value -> Option Addr -> Hp -> Prop
abbrev St := List (Option V)
abbrev VK := V -> Hp -> Prop
abbrev TE := St -> Hp -> VK -> Prop
abbrev TT := St -> Hp -> (Bool -> Hp -> Prop) -> Prop
abbrev TA := St -> Hp -> (List V -> Hp -> Prop) -> Prop
structure Ends where
 nx : St -> Hp -> Prop
 rt : VK
 bk : St -> Hp -> Prop := fun _ _ => False
 ct : St -> Hp -> Prop := fun _ _ => False
abbrev TS := Ends -> St -> Hp -> Prop
def EP (X : Cx) (pins : List (Addr × Obj)) (σ : St) (Q : VK) (u : Value) (s' : Shared) : Prop := ∃ v H', Inv X pins σ H' s' /\ RelV v u /\ Q v H'
def TP (X : Cx) (pins : List (Addr × Obj)) (σ : St) (Q : Bool -> Hp -> Prop) (b : Bool) (s' : Shared) : Prop := ∃ H', Inv X pins σ H' s' /\ Q b H'
def AP (X : Cx) (pins : List (Addr × Obj)) (σ : St) (Q : List V -> Hp -> Prop) (us : List Value) (s' : Shared) : Prop := ∃ vs H', Inv X pins σ H' s' /\ Vals vs us /\ Q vs H'
def SP (X : Cx) (pins : List (Addr × Obj)) (D : Ends) (f : Flow) (s' : Shared) : Prop :=
 match f with
 | .next => ∃ σ' H', Inv X pins σ' H' s' /\ D.nx σ' H'
 | .brk => ∃ σ' H', Inv X pins σ' H' s' /\ D.bk σ' H'
 | .cont => ∃ σ' H', Inv X pins σ' H' s' /\ D.ct σ' H'
 | .ret u => ∃ v σ' H', Inv X pins σ' H' s' /\ RelV v u /\ D.rt v H'
def PE (X : Cx) (e : Expr) (t : TE) : Prop :=
 ∀ (pins : List (Addr × Obj)) (s : Shared) (σ : St) (H : Hp) (Q : VK), Inv X pins σ H s -> t σ H Q -> wpAny (model X.prog X.w) X.A (eval e X.env) (EP X pins σ Q) X.xe s
def PT (X : Cx) (e : Expr) (t : TT) : Prop :=
 ∀ (pins : List (Addr × Obj)) (s : Shared) (σ : St) (H : Hp) (Q : Bool -> Hp -> Prop), Inv X pins σ H s -> t σ H Q -> wpAny (model X.prog X.w) X.A (isTrue e X.env (eval e X.env)) (TP X pins σ Q) X.xe s
def PW (X : Cx) (e : Expr) (t : TT) : Prop :=
 ∀ (whole : Sem Value) (pins : List (Addr × Obj)) (s : Shared) (σ : St) (H : Hp) (Q : Bool -> Hp -> Prop), Inv X pins σ H s -> t σ H Q -> wpAny (model X.prog X.w) X.A (isTrue e X.env whole) (TP X pins σ Q) X.xe s
theorem PW.pt {X : Cx} {e : Expr} {t : TT} (h : PW X e t) : PT X e t := h _
def PA (X : Cx) (es : List Expr) (t : TA) : Prop :=
 ∀ (pos : Pos) (pins : List (Addr × Obj)) (s : Shared) (σ : St) (H : Hp) (Q : List V -> Hp -> Prop), Inv X pins σ H s -> t σ H Q -> wpAny (model X.prog X.w) X.A (spliced (backTo pos (starEach es X.env))) (AP X pins σ Q) X.xe s
def PS (X : Cx) (st : Stmt) (t : TS) : Prop :=
 ∀ (pins : List (Addr × Obj)) (s : Shared) (σ : St) (H : Hp) (D : Ends), Inv X pins σ H s -> t D σ H -> wpAny (model X.prog X.w) X.A (exec st X.env) (SP X pins D) X.xe s
def PSs (X : Cx) (st : List Stmt) (t : TS) : Prop :=
 ∀ (pins : List (Addr × Obj)) (s : Shared) (σ : St) (H : Hp) (D : Ends), Inv X pins σ H s -> t D σ H -> wpAny (model X.prog X.w) X.A (execs st X.env) (SP X pins D) X.xe s
theorem thn {α : Type} {t : Sem α} {Q Q' : α -> Shared -> Prop} {M : Model} {A : Around} {E : Value -> Shared -> Prop} {s : Shared} (h : wpAny M A t Q E s) (hQ : ∀ a s, Q a s -> Q' a s) : wpAny M A t Q' E s := wpAny_mono h hQ fun _ _ x => x
section
variable {X : Cx}
theorem bin {a b : Expr} {ta tb : TE} (ha : PE X a ta) (hb : PE X b tb) {pins : List (Addr × Obj)} {s : Shared} {σ : St} {H : Hp} {R : V -> V -> Hp -> Prop} (I : Inv X pins σ H s) (h : ta σ H fun x H1 => tb σ H1 fun y H2 => R x y H2)
  {α : Type} {Q : α -> Shared -> Prop} {f : Value -> Value -> Sem α}
  (hf : ∀ v u s2 x y H2, Inv X pins σ H2 s2 -> RelV x v -> RelV y u -> R x y H2 -> wpAny (model X.prog X.w) X.A (f v u) Q X.xe s2) :
  wpAny (model X.prog X.w) X.A (eval a X.env) (fun v s₁ => wpAny (model X.prog X.w) X.A (eval b X.env) (fun u s₂ => wpAny (model X.prog X.w) X.A (f v u) Q X.xe s₂) X.xe s₁) X.xe s := by
 refine thn (ha pins s σ H _ I h) fun v s1 ⟨x, H1, I1, r1, q1⟩ => ?_
 refine thn (hb pins s1 σ H1 _ I1 q1) fun u s2 ⟨y, H2, I2, r2, q2⟩ => ?_
 exact hf v u s2 x y H2 I2 r1 r2 q2
def tVar (i : Nat) : TE := fun σ H Q => ∃ v, σ[i]? = some (some v) /\ Q v H
def tC (v : V) : TE := fun _ H Q => Q v H
theorem pe_var {i : Nat} {x : Str} {pos : Pos} (hN : X.N[i]? = some x) (hv : Vis X.env.scope x) (hd : (x == ("__debug__" : Str)) = false := by decide) (hcd : (x == ("__classdict__" : Str)) = false := by decide) : PE X (.Name x pos) (tVar i) := by
 intro pins s σ H Q I h
 obtain ⟨v, e, h⟩ := h
 obtain ⟨m, hn, hl⟩ := I.loc
 obtain ⟨u, r, l⟩ := hl i x v hN e hv
 have fin : EP X pins σ Q u s := ⟨v, H, I, r, h⟩
 rcases l with ⟨hk, hm⟩ | ⟨hk, c, hc, hcell⟩
 ·exact wpAny_Name (wpAny_loadName_local I.ok.kind hk hn hm fin) hd
 ·rcases hk with hk | hk
  ·exact wpAny_Name (wpAny_loadName_cell I.ok.kind hk hc hcell fin) hd
  ·exact wpAny_Name (wpAny_loadName_free I.ok.kind hk hc hcell fin hcd) hd
theorem pe_int {i j pos} : PE X (.Constant (.int i) j pos) (tC (.int i)) := fun _ _ _ H _ I h => wpAny_Constant_int ⟨.int i, H, I.tok _, ⟨_, rfl⟩, h⟩
theorem pe_bl {b j pos} : PE X (.Constant (.bool b) j pos) (tC (.bl b)) := fun _ _ _ H _ I h => Constant_bool ⟨.bl b, H, I, rfl, h⟩
theorem pe_non {j pos} : PE X (.Constant .none j pos) (tC .non) := fun _ _ _ H _ I h => Constant_none ⟨.non, H, I, rfl, h⟩
theorem pe_str {x j pos} : PE X (.Constant (.str x) j pos) (tC (.str x)) := fun _ _ _ H _ I h => Calls.Constant_str ⟨.str x, H, I.tok _, ⟨_, rfl⟩, h⟩
def Gl (X : Cx) (x : Str) : Prop := X.env.kindOf x = some .globalImplicit
theorem ld_glob {E : Value -> Shared -> Prop} {pins : List (Addr × Obj)} {s : Shared} {σ : St} {H : Hp} {x : Str} {u : Value} {pos : Pos} {Q : Value -> Shared -> Prop} (I : Inv X pins σ H s) (hg : Gl X x) (hm : X.mg x = some u) (h : Q u s)
  (hd : (x == ("__debug__" : Str)) = false := by decide) : wpAny (model X.prog X.w) X.A (eval (.Name x pos) X.env) Q E s :=
 zq142x I.ok.kind hg (Calls.loadGlobal_global (by rw [I.ok.glob]; exact I.mod.glob.keeps I.bk) hm h) hd
theorem ld_blt {E : Value -> Shared -> Prop} {pins : List (Addr × Obj)} {s : Shared} {σ : St} {H : Hp} {x : Str} {u : Value} {pos : Pos} {Q : Value -> Shared -> Prop} (I : Inv X pins σ H s) (hg : Gl X x) (hm : X.mg x = none) (hv : bootBuiltins x = some u) (h : Q u s)
  (hn : x ≠ "__name__" := by decide) (hd : (x == ("__debug__" : Str)) = false := by decide) : wpAny (model X.prog X.w) X.A (eval (.Name x pos) X.env) Q E s := by
 obtain ⟨mb, h1, h2⟩ := I.mod.blt
 exact zq142x I.ok.kind hg (Calls.loadGlobal_builtin (by rw [I.ok.glob]; exact I.mod.glob.keeps I.bk) hm (by rw [I.ok.blt]; exact h1.keeps I.bk) ((h2 x hn).trans hv) h) hd
theorem pe_glob {x : Str} {v : V} {u : Value} {pos : Pos} (hg : Gl X x) (hm : X.mg x = some u) (r : RelV v u) (hd : (x == ("__debug__" : Str)) = false := by decide) : PE X (.Name x pos) (tC v) :=
 fun _ _ _ H _ I h => ld_glob I hg hm ⟨v, H, I, r, h⟩ hd
theorem pe_bltn {x : Str} {v : V} {u : Value} {pos : Pos} (hg : Gl X x) (hm : X.mg x = none) (hv : bootBuiltins x = some u) (r : RelV v u) (hn : x ≠ "__name__" := by decide) (hd : (x == ("__debug__" : Str)) = false := by decide) : PE X (.Name x pos) (tC v) :=
 fun _ _ _ H _ I h => ld_blt I hg hm hv ⟨v, H, I, r, h⟩ hn hd
variable {a b : Expr} {ta tb : TE} {pos : Pos}
def PC (X : Cx) (op : CmpOp) (a b : Expr) (t : TE) : Prop :=
 ∀ (pins : List (Addr × Obj)) (s : Shared) (σ : St) (H : Hp) (Q : VK), Inv X pins σ H s -> t σ H Q ->
  wpAny (model X.prog X.w) X.A (eval a X.env) (fun v s₁ => wpAny (model X.prog X.w) X.A (eval b X.env) (fun u s₂ => wpAny (model X.prog X.w) X.A (compareOp op v u) (EP X pins σ Q) X.xe s₂) X.xe s₁) X.xe s
variable {tA tB' : TT} {rest : List Expr}
def tAnd (t u : TT) : TT := fun σ H Q => t σ H fun c H1 => if c = true then u σ H1 Q else Q false H1
def tOr (t u : TT) : TT := fun σ H Q => t σ H fun c H1 => if c = true then Q true H1 else u σ H1 Q
def tNot (t : TT) : TT := fun σ H Q => t σ H fun c H1 => Q (!c) H1
theorem pw_and1 (ha : PT X a tA) : PW X (.BoolOp .And [a] pos) tA := by
 intro wh pins s σ H Q I h
 refine isTrue_and (thn (ha pins s σ H Q I h) fun c s1 e => ?_)
 cases c with
 | true => exact isTrue_and_nil e
 | false => exact e
theorem pw_or1 (ha : PT X a tA) : PW X (.BoolOp .Or [a] pos) tA := by
 intro wh pins s σ H Q I h
 refine isTrue_or (thn (ha pins s σ H Q I h) fun c s1 e => ?_)
 cases c with
 | false => exact isTrue_or_nil e
 | true => exact e
theorem pw_and (ha : PT X a tA) (hb : PW X (.BoolOp .And (b :: rest) pos) tB') : PW X (.BoolOp .And (a :: b :: rest) pos) (tAnd tA tB') := by
 intro wh pins s σ H Q I h
 refine isTrue_and (thn (ha pins s σ H _ I h) fun c s1 ⟨H1, I1, q1⟩ => ?_)
 cases c with
 | true => exact hb wh pins s1 σ H1 Q I1 q1
 | false => exact ⟨H1, I1, q1⟩
theorem pw_or (ha : PT X a tA) (hb : PW X (.BoolOp .Or (b :: rest) pos) tB') : PW X (.BoolOp .Or (a :: b :: rest) pos) (tOr tA tB') := by
 intro wh pins s σ H Q I h
 refine isTrue_or (thn (ha pins s σ H _ I h) fun c s1 ⟨H1, I1, q1⟩ => ?_)
 cases c with
 | true => exact ⟨H1, I1, q1⟩
 | false => exact hb wh pins s1 σ H1 Q I1 q1
theorem pt_not (ha : PT X a tA) : PT X (.UnaryOp .Not a pos) (tNot tA) := by
 intro pins s σ H Q I h
 exact isTrue_not (ha pins s σ H (fun c H1 => Q (!c) H1) I h)
def tAndV (ta tb : TE) : TE := fun σ H Q => ta σ H fun x H1 => ∃ c, x = .bl c /\ if c = true then tb σ H1 Q else Q (.bl false) H1
def tNotV (ta : TE) : TE := fun σ H Q => ta σ H fun x H1 => ∃ c, x = .bl c /\ Q (.bl (!c)) H1
theorem pe_one {op} {t : TE} (h : PE X a t) : PE X (.BoolOp op [a] pos) t := fun pins s σ H Q I hw => BoolOp_one (h pins s σ H Q I hw)
theorem pe_and (ha : PE X a ta) (hb : PE X (.BoolOp .And (b :: rest) pos) tb) : PE X (.BoolOp .And (a :: b :: rest) pos) (tAndV ta tb) := by
 intro pins s σ H Q I h
 refine BoolOp_and (thn (ha pins s σ H _ I h) fun v s1 ⟨x, H1, I1, r1, q1⟩ => ?_)
 obtain ⟨c, rfl, q1⟩ := q1
 cases r1
 refine wpAny_truthy_bool ?_
 cases c with
 | true => exact hb pins s1 σ H1 Q I1 q1
 | false => exact ⟨.bl false, H1, I1, rfl, q1⟩
theorem pe_not (ha : PE X a ta) : PE X (.UnaryOp .Not a pos) (tNotV ta) := by
 intro pins s σ H Q I h
 refine UnaryOp_ (thn (ha pins s σ H _ I h) fun v s1 ⟨x, H1, I1, r1, q1⟩ => ?_)
 obtain ⟨c, rfl, q1⟩ := q1
 cases r1
 exact not_of (wpAny_truthy_bool ⟨.bl (!c), H1, I1, rfl, q1⟩)
def tIf (t : TT) (ta tb : TE) : TE := fun σ H Q => t σ H fun c H1 => if c = true then ta σ H1 Q else tb σ H1 Q
theorem pe_ifExp {c : Expr} (hc : PT X c tA) (ha : PE X a ta) (hb : PE X b tb) : PE X (.IfExp c a b pos) (tIf tA ta tb) := by
 intro pins s σ H Q I h
 refine wpAny_IfExp (thn (hc pins s σ H _ I h) fun d s1 ⟨H1, I1, q1⟩ => ?_)
 cases d with
 | true => exact ha pins s1 σ H1 Q I1 q1
 | false => exact hb pins s1 σ H1 Q I1 q1
end
def SqL (K : PySem.W.Frag) (H : Hp) (a : Addr) (xs : List V) : Prop :=
 Rd H a (.lst xs) \/
  ∃ (o : Obj) (its : Array Value) (n : Nat), K.lookup a = some o /\ o.cls = .type "list" /\ o.dict = none /\ o.data = .seq its n /\ its.size <= sizeLine /\ Vals xs its.toList
def SqT (K : PySem.W.Frag) (H : Hp) (a : Addr) (xs : List V) : Prop :=
 Rd H a (.tup xs) \/
  ∃ (o : Obj) (its : Array Value) (n : Nat), K.lookup a = some o /\ o.cls = .type "tuple" /\ o.data = .seq its n /\ its.size <= sizeLine /\ Vals xs its.toList
def absV : Value -> Option V
 | .none => some .non
 | .bool b => some (.bl b)
 | .int i _ => some (.int i)
 | .str x _ => some (.str x)
 | .bytes b _ => some (.byt b)
 | .float b _ => some (.flt b)
 | .ref a => some (.ref a)
 | .type n => some (.ty n)
 | _ => none
theorem RelV.abs {x : V} {u : Value} (r : RelV x u) : absV u = some x := by
 cases x with
 | non => cases r; rfl
 | bl _ => cases r; rfl
 | int _ => obtain ⟨t, rfl⟩ := r; rfl
 | str _ => obtain ⟨t, rfl⟩ := r; rfl
 | byt _ => obtain ⟨t, rfl⟩ := r; rfl
 | flt _ => obtain ⟨t, rfl⟩ := r; rfl
 | ref _ => cases r; rfl
 | ty _ => cases r; rfl
theorem RelV.inj {x y : V} {u : Value} (r : RelV x u) (q : RelV y u) : x = y := zq31x (r.abs.symm.trans q.abs)
theorem Vals.inj {xs ys : List V} {us : List Value} (h : Vals xs us) (k : Vals ys us) : xs = ys := by
 induction h generalizing ys with
 | nil => cases k; rfl
 | cons r t ih => cases k with | cons r' t' => rw [r.inj r', ih t']
section
variable {X : Cx} {pins : List (Addr × Obj)} {σ : St} {H : Hp} {s : Shared} {a : Addr} {xs ys : List V}
theorem SqL.of {K : PySem.W.Frag} (h : H a = some (.lst xs)) : SqL K H a xs := .inl (.inl h)
theorem SqT.of {K : PySem.W.Frag} (h : H a = some (.tup xs)) : SqT K H a xs := .inl (.inl h)
theorem Inv.list (I : Inv X pins σ H s) (h : SqL X.K H a xs) : ∃ its : List Value, Vals xs its /\ PlainL s.heap a its.toArray /\ xs.length <= sizeLine := by
 rcases h with h | ⟨o, its, n, hk, hc, hd, hs, hz, r⟩
 ·obtain ⟨z, its, n, r, e⟩ := h.ok I.hok
  exact ⟨its, r, ⟨_, n, e, rfl, rfl, rfl⟩, z⟩
 ·refine ⟨its.toList, r, ⟨o, n, I.kIn a o hk, hc, hd, by simpa using hs⟩, ?_⟩
  have e := r.length
  simp only [zq50x] at e
  omega
theorem Inv.tuple (I : Inv X pins σ H s) (h : SqT X.K H a xs) : ∃ its : List Value, Vals xs its /\ IsTup s.heap a its.toArray /\ xs.length <= sizeLine := by
 rcases h with h | ⟨o, its, n, hk, hc, hs, hz, r⟩
 ·obtain ⟨z, its, r, p⟩ := h.ok I.hok
  exact ⟨its, r, p, z⟩
 ·refine ⟨its.toList, r, ⟨o, I.kIn a o hk, hc, n, by simpa using hs⟩, ?_⟩
  have e := r.length
  simp only [zq50x] at e
  omega
theorem Inv.list_inj (I : Inv X pins σ H s) (h : SqL X.K H a xs) (h' : SqL X.K H a ys) : xs = ys := by
 obtain ⟨its, r, ⟨o, n, e, _, _, d⟩, _⟩ := I.list h
 obtain ⟨its', r', ⟨o', n', e', _, _, d'⟩, _⟩ := I.list h'
 rw [e] at e'; cases e'
 rw [d] at d'
 injection d' with d1 _
 have : its = its' := by simpa using congrArg Array.toList d1
 subst this
 exact r.inj r'
end
abbrev Cx.wish (X : Cx) (E : Value -> Shared -> Prop) : Cx := { X with xe := E }
abbrev Cx.nox (X : Cx) : Cx := X.wish fun _ _ => False
theorem Cx.Ok.wish {X : Cx} (ok : X.Ok) (E : Value -> Shared -> Prop) : (X.wish E).Ok :=
 ⟨ok.mod, ok.kind, ok.glob, ok.blt, ok.above, ok.inj, ok.has, ok.cab, ok.hd, ok.frames, ok.stk, ok.exf, ok.bs, ok.bsz, ok.noex, ok.exfs, ok.funs, ok.frf⟩
theorem Cx.Ok.unwish {X : Cx} {E : Value -> Shared -> Prop} (ok : (X.wish E).Ok) : X.Ok :=
 ⟨ok.mod, ok.kind, ok.glob, ok.blt, ok.above, ok.inj, ok.has, ok.cab, ok.hd, ok.frames, ok.stk, ok.exf, ok.bs, ok.bsz, ok.noex, ok.exfs, ok.funs, ok.frf⟩
section
variable {X : Cx} {pins : List (Addr × Obj)} {σ : St} {H : Hp} {s : Shared} {E : Value -> Shared -> Prop}
theorem Inv.wish (I : Inv X pins σ H s) (E : Value -> Shared -> Prop) : Inv (X.wish E) pins σ H s := ⟨I.ok.wish E, I.os, I.bare, I.base, I.loc, I.cell, I.free, I.freeC, I.pin, I.hok, I.len⟩
theorem Inv.unwish (I : Inv (X.wish E) pins σ H s) : Inv X pins σ H s := ⟨I.ok.unwish, I.os, I.bare, I.base, I.loc, I.cell, I.free, I.freeC, I.pin, I.hok, I.len⟩
theorem SP.unwish {D : Ends} {f : Flow} {s' : Shared} (h : SP (X.wish E) pins D f s') : SP X pins D f s' := by
 cases f with
 | next => obtain ⟨σ', H', I, q⟩ := h; exact ⟨σ', H', I.unwish, q⟩
 | brk => obtain ⟨σ', H', I, q⟩ := h; exact ⟨σ', H', I.unwish, q⟩
 | cont => obtain ⟨σ', H', I, q⟩ := h; exact ⟨σ', H', I.unwish, q⟩
 | ret u => obtain ⟨v, σ', H', I, r, q⟩ := h; exact ⟨v, σ', H', I.unwish, r, q⟩
theorem PSs.nox {st : List Stmt} {t : TS} (h : PSs X.nox st t) : PSs X st t := fun pins s σ H D I hw =>
 wpAny_mono (h pins s σ H D (I.wish _) hw) (fun _ _ q => q.unwish) fun _ _ z => False.elim z
end
section
variable {X : Cx} {st : Stmt} {rest : List Stmt} {t u : TS} {e : Expr} {te : TE} {pos : Pos}
def tNext : TS := fun D σ H => D.nx σ H
def tSeq (t u : TS) : TS := fun D σ H => t { D with nx := u D } σ H
theorem pss_nil : PSs X [] tNext := fun _ _ σ H _ I h => wpAny_execs_nil ⟨σ, H, I, h⟩
theorem pss_cons (h1 : PS X st t) (h2 : PSs X rest u) : PSs X (st :: rest) (tSeq t u) := by
  intro pins s σ H D I h
  refine wpAny_execs_cons (thn (h1 pins s σ H { D with nx := u D } I h) fun f s1 q => ?_)
  cases f with
  | next =>
    obtain ⟨σ', H', I', q⟩ := q
    exact h2 pins s1 σ' H' D I' q
  | ret v => exact q
  | brk => exact q
  | cont => exact q
theorem pss_one (h1 : PS X st t) : PSs X [st] t := by
 intro pins s σ H D I h
 refine wpAny_execs_cons (thn (h1 pins s σ H D I h) fun f s1 q => ?_)
 cases f with
 | next => exact wpAny_execs_nil q
 | ret v => exact q
 | brk => exact q
 | cont => exact q
def tBreak : TS := fun D σ H => D.bk σ H
def tCont : TS := fun D σ H => D.ct σ H
theorem Inv.quiet {pins : List (Addr × Obj)} {σ : St} {H : Hp} {s : Shared} (I : Inv X pins σ H s) : interactive X.env = false := by simp [interactive, I.ok.kind]
def tDrop (te : TE) : TS := fun D σ H => te σ H fun _ H1 => D.nx σ H1
theorem ps_expr (he : PE X e te) (hs : swapsWith e none pos.line X.env = pure false := by rfl) : PS X (.Expr e pos) (tDrop te) := by
 intro pins s σ H D I h
 exact wpAny_Expr_any (thn (he pins s σ H _ I h) fun v s1 ⟨x, H1, I1, r1, q1⟩ => ⟨σ, H1, I1, q1⟩) I.quiet hs
def tRet (te : TE) : TS := fun D σ H => te σ H D.rt
theorem ps_ret (he : PE X e te) : PS X (.Return (some e) pos) (tRet te) := by
 intro pins s σ H D I h
 exact wpAny_Return_some (thn (he pins s σ H _ I h) fun v s1 ⟨x, H1, I1, r1, q1⟩ => ⟨x, σ, H1, I1, r1, q1⟩)
def tIfS (c : TT) (t u : TS) : TS := fun D σ H => c σ H fun b H1 => if b = true then t D σ H1 else u D σ H1
theorem ps_if {c : Expr} {a b : List Stmt} {tc : TT} (hc : PT X c tc) (ha : PSs X a t) (hb : PSs X b u) : PS X (.If c a b pos) (tIfS tc t u) := by
 intro pins s σ H D I h
 refine wpAny_If (thn (hc pins s σ H _ I h) fun d s1 ⟨H1, I1, q1⟩ => ?_)
 cases d with
 | true => exact ha pins s1 σ H1 D I1 q1
 | false => exact hb pins s1 σ H1 D I1 q1
end
abbrev TG := V -> St -> Hp -> (St -> Hp -> Prop) -> Prop
abbrev TGs := List V -> St -> Hp -> (St -> Hp -> Prop) -> Prop
def PG (X : Cx) (target : Expr) (t : TG) : Prop :=
 ∀ (pins : List (Addr × Obj)) (s : Shared) (σ : St) (H : Hp) (v : V) (u : Value) (Q : St -> Hp -> Prop), Inv X pins σ H s -> RelV v u -> t v σ H Q ->
  wpAny (model X.prog X.w) X.A (assign target X.env u) (fun _ s' => ∃ σ' H', Inv X pins σ' H' s' /\ Q σ' H') X.xe s
def PGs (X : Cx) (ts : List Expr) (t : TGs) : Prop :=
 ∀ (pins : List (Addr × Obj)) (s : Shared) (σ : St) (H : Hp) (vs : List V) (us : List Value) (Q : St -> Hp -> Prop), Inv X pins σ H s -> Vals vs us -> t vs σ H Q ->
  wpAny (model X.prog X.w) X.A (assignInOrder ((assignEach ts X.env).map (·.2)) us) (fun _ s' => ∃ σ' H', Inv X pins σ' H' s' /\ Q σ' H') X.xe s
abbrev TSet := V -> V -> V -> Hp -> (Hp -> Prop) -> Prop
def PSet (X : Cx) (t : TSet) : Prop :=
 ∀ (pins : List (Addr × Obj)) (s : Shared) (σ : St) (H : Hp) (o i v : V) (ov iv u : Value) (Q : Hp -> Prop), Inv X pins σ H s -> RelV o ov -> RelV i iv -> RelV v u -> t o i v H Q ->
  wpAny (model X.prog X.w) X.A (setItem ov iv u) (fun _ s' => ∃ H', Inv X pins σ H' s' /\ Q H') X.xe s
section
variable {X : Cx} {pos : Pos}
def gName (i : Nat) : TG := fun v σ H Q => Q (σ.set i (some v)) H
theorem pg_name {i : Nat} {x : Str} (hN : X.N.Nodup) (hi : X.N[i]? = some x) (hx : Loc X.env.scope x) (hf : X.fn x = true \/ X.env.scope.names.lookup x = some .local := by first | exact .inl rfl | exact .inr rfl | assumption) : PG X (.Name x pos) (gName i) := by
 intro pins s σ H v u Q I r h
 exact wpAny_assign_Name (store_ok I hN hi hx r (fun s' I' => ⟨_, H, I', h⟩) hf)
def gNil : TGs := fun vs σ H Q => vs = [] /\ Q σ H
def gCons (t : TG) (u : TGs) : TGs := fun vs σ H Q => ∃ v r, vs = v :: r /\ t v σ H fun σ' H' => u r σ' H' Q
theorem pgs_nil : PGs X [] gNil := by
 intro pins s σ H vs us Q I r h
 obtain ⟨e, h⟩ := h
 subst e
 cases r
 exact assignInOrder_nil ⟨σ, H, I, h⟩
theorem pgs_cons {e : Expr} {es : List Expr} {t : TG} {u : TGs} (h1 : PG X e t) (h2 : PGs X es u)
    (hs : (assignEach (e :: es) X.env).map (·.2) = assign e X.env :: (assignEach es X.env).map (·.2) := by rfl) : PGs X (e :: es) (gCons t u) := by
  intro pins s σ H vs us Q I r h
  obtain ⟨v, vr, e1, h⟩ := h
  subst e1
  cases r with
  | cons r rr =>
    rw [hs]
    refine assignInOrder_cons (thn (h1 pins s σ H _ _ _ I r h) fun _ s1 ⟨σ1, H1, I1, q1⟩ => ?_)
    exact h2 pins s1 σ1 H1 _ _ Q I1 rr q1
def gTup (K : PySem.W.Frag) (n : Nat) (t : TGs) : TG := fun v σ H Q => ∃ a xs, v = .ref a /\ SqT K H a xs /\ xs.length = n /\ t xs σ H Q
theorem pg_tup {es : List Expr} {k : Nat} {t : TGs} {n : Nat} (hc : X.calm = true) (h : PGs X es t)
  (hn : (assignEach es X.env).length = n := by rfl) (hst : (assignEach es X.env).findIdx? (·.1) = none := by rfl) : PG X (.Tuple es k pos) (gTup X.K n t) := by
 intro pins s σ H v u Q I r hw
 obtain ⟨a, xs, e1, hq, hl, hw⟩ := hw
 subst e1
 cases r
 obtain ⟨its, rv, ht, hz⟩ := I.tuple hq
 refine assign_Tuple_tuple (I.ok.hd hc) ht (by simp [hn, <- hl, rv.length]) hst fun h' hx => ?_
 have I1 : Inv X pins σ H { s with heap := h' } := I.kept (t' := s.toks) fun b o e => hx b o (zq13x (zq4x e)) e
 exact h pins _ σ H xs _ Q I1 (by simpa using rv) hw
def gSub (to ti : TE) (t : TSet) : TG := fun v σ H Q => to σ H fun o H1 => ti σ H1 fun i H2 => t o i v H2 fun H3 => Q σ H3
theorem pg_sub {o i : Expr} {to ti : TE} {t : TSet} (ho : PE X o to) (hi : PE X i ti) (hs : PSet X t)
  (ha : ∀ v, assign (.Subscript o i pos) X.env v = (do
   let ov <- holding [v] (eval o X.env)
   let iv <- holding [v, ov] (eval i X.env)
   standAt pos
   holding [v, ov, iv] (setItem ov iv v)
   release [v, ov, iv] []) := by intro _; rfl) : PG X (.Subscript o i pos) (gSub to ti t) := by
 intro pins s σ H v u Q I r h
 rw [ha]
 refine wpAny_bind (wpAny_holding (thn (ho pins s σ H _ I h) fun ov s1 ⟨x, H1, I1, r1, q1⟩ => ?_))
 refine wpAny_bind (wpAny_holding (thn (hi pins s1 σ H1 _ I1 q1) fun iv s2 ⟨y, H2, I2, r2, q2⟩ => ?_))
 refine wpAny_bind (wpAny_standAt (wpAny_bind (wpAny_holding (thn (hs pins s2 σ H2 x y v ov iv u _ I2 r1 r2 r q2) fun _ s3 ⟨H3, I3, q3⟩ => ?_))))
 exact wpAny_release ⟨σ, H3, I3, q3⟩
def tAsg (te : TE) (g : TG) : TS := fun D σ H => te σ H fun x H1 => g x σ H1 D.nx
theorem ps_asg {tg e : Expr} {te : TE} {g : TG} (he : PE X e te) (hg : PG X tg g) (hs : swapsWithSole [tg] e pos.line X.env = pure false := by rfl) (hw : swappedStores [tg] e X.env = pure none := by rfl)
  (h1 : (assignEach [tg] X.env).map (·.2) = [assign tg X.env] := by rfl) : PS X (.Assign [tg] e pos) (tAsg te g) := by
 intro pins s σ H D I h
 refine wpAny_Assign_stores (thn (he pins s σ H _ I h) fun v s1 ⟨x, H1, I1, r1, q1⟩ => ?_) hs hw
 rw [h1]
 exact thn (hg pins s1 σ H1 x v _ I1 r1 q1) fun _ s2 q => q
theorem ps_set {i : Nat} {x : Str} {e : Expr} {te : TE} {pos' : Pos} (hN : X.N.Nodup) (hi : X.N[i]? = some x) (hx : Loc X.env.scope x) (he : PE X e te) (hs : swapsWith e (some (.Name x pos')) pos.line X.env = pure false := by rfl) (hf : X.fn x = true \/ X.env.scope.names.lookup x = some .local := by first | exact .inl rfl | exact .inr rfl | assumption) :
  PS X (.Assign [.Name x pos'] e pos) (tAsg te (gName i)) := by
 intro pins s σ H D I h
 refine wpAny_Assign_Name (thn (he pins s σ H _ I h) fun v s1 ⟨y, H1, I1, r1, q1⟩ => ?_) hs
 exact store_ok I1 hN hi hx r1 (fun s2 I2 => ⟨_, H1, I2, q1⟩) hf
end
structure It where
 go : Nat -> Hp -> Prop
 yld : Nat -> Hp -> V -> Hp -> Prop
 stop : Nat -> Hp -> Prop
def FpOk (X : Cx) (pins : List (Addr × Obj)) (H : Hp) (b : Addr) : Prop :=
 H b = none /\ b ≠ X.env.locals /\ b ∉ X.fs /\ (b ∈ X.ex \/ X.s₀.heap.objs.size <= b) /\ (∀ x c, X.env.cells.lookup x = some c -> c ≠ b) /\ ∀ p ∈ X.pn ++ pins, p.1 ≠ b
theorem Inv.fpOk {X : Cx} {pins : List (Addr × Obj)} {σ : St} {H H' : Hp} {s : Shared} {b : Addr} (I : Inv X pins σ H s) (hb : s.heap.objs.size <= b) (hn : H' b = none) : FpOk X pins H' b := by
 refine ⟨hn, zq94x (zq17x I.lt hb), I.nofs hb, .inr (zq26x I.sz hb), fun x c e z => ?_, fun p hp z => ?_⟩
 ·obtain ⟨v, q⟩ := I.cell x c e
  exact absurd (zq17x q.lt (by rw [z]; exact hb)) (zq46x _)
 ·exact absurd (zq17x (zq4x (I.pin p hp).1) (by rw [z]; exact hb)) (zq46x _)
structure Turn (P : Program) (w : World) (K : PySem.W.Frag) (tg : Expr) (J : It) (fp : List Addr) (it : Addr) (tn : Nat -> Heap -> Prop) : Prop where
 mem : it ∈ fp
 obj : ∀ i h, tn i h -> ∀ b ∈ fp, ∃ o, h.get? b = some o /\ ∀ v, o.data ≠ .cell v
 keep : ∀ i h h', tn i h -> (∀ b ∈ fp, ∀ o, h.get? b = some o -> h'.get? b = some o) -> tn i h'
 item : ∀ (X : Cx), X.prog = P -> X.w = w -> X.K = K -> X.calm = true -> ∀ (i : Nat) (pins : List (Addr × Obj)) (s : Shared) (σ : St) (H : Hp) (E : Value -> Shared -> Prop), Inv X pins σ H s -> (∀ b ∈ fp, FpOk X pins H b) -> tn i s.heap -> J.go i H ->
  wpAny (model P w) X.A (pyNext (.ref it)) (fun r s1 => ∃ u, r = some u /\
   wpAny (model P w) X.A (letOwnedTupleGo tg (.ref it) u) (fun _ s2 => ∃ x H', Inv X pins σ H' s2 /\ RelV x u /\ J.yld i H x H' /\ tn (i + 1) s2.heap /\ ∀ b ∈ fp, H' b = none) E s1) E s
 done : ∀ (X : Cx), X.prog = P -> X.w = w -> X.K = K -> X.calm = true -> ∀ (i : Nat) (pins : List (Addr × Obj)) (s : Shared) (σ : St) (H : Hp) (E : Value -> Shared -> Prop), Inv X pins σ H s -> (∀ b ∈ fp, FpOk X pins H b) -> tn i s.heap -> J.stop i H ->
  wpAny (model P w) X.A (pyNext (.ref it)) (fun r s1 => r = none /\ Inv X pins σ H s1) E s
 self : ∀ (A : Around) (i : Nat) (s : Shared) (Q : Value -> Shared -> Prop) (E : Value -> Shared -> Prop), tn i s.heap -> Q (.ref it) s -> wpAny (model P w) A (pyIter (.ref it)) Q E s
abbrev TI := St -> Hp -> (It -> Hp -> Prop) -> Prop
def PIE (X : Cx) (pins : List (Addr × Obj)) (σ : St) (tg : Expr) (R : It -> Hp -> Prop) (itv : Value) (s2 : Shared) : Prop :=
 ∃ (it : Addr) (fp : List Addr) (tn : Nat -> Heap -> Prop) (J : It) (H' : Hp), itv = .ref it /\ Inv X pins σ H' s2 /\ Turn X.prog X.w X.K tg J fp it tn /\ tn 0 s2.heap /\ (∀ b ∈ fp, FpOk X pins H' b) /\ R J H'
def PI (X : Cx) (tg iter : Expr) (wi : TI) : Prop :=
 ∀ (pins : List (Addr × Obj)) (s : Shared) (σ : St) (H : Hp) (R : It -> Hp -> Prop), Inv X pins σ H s -> wi σ H R ->
  wpAny (model X.prog X.w) X.A (eval iter X.env) (fun v s1 => wpAny (model X.prog X.w) X.A (pyIter v) (PIE X pins σ tg R) X.xe s1) X.xe s
theorem go_of {M : Model} {A : Around} {E : Value -> Shared -> Prop} {s : Shared} {tg : Expr} {it : Addr} {u : Value} {o : Obj} {n : String} {vs : Array Value} {Q : Unit -> Shared -> Prop} (ho : s.heap.get? it = some o) (hc : o.cls = .type n) (hd : o.data = .fields vs)
    (hn : ["enumerate", "zip", "dict_itemiterator", "dict_reverseitemiterator", "odict_iterator", "itertools.zip_longest", "itertools.pairwise"].contains n = false) (hQ : Q () s) : wpAny M A (letOwnedTupleGo tg (.ref it) u) Q E s := by
  unfold letOwnedTupleGo
  cases tg <;> first
    | exact wpAny_pure hQ
    | (cases u <;> first
        | exact wpAny_pure hQ
        | (refine wpAny_bind (wpAny_load ho ?_)
           rw [hc, hd]
           show wpAny M A (if (["enumerate", "zip", "dict_itemiterator", "dict_reverseitemiterator", "odict_iterator", "itertools.zip_longest", "itertools.pairwise"].contains n && vs[0]? == some (rawInt _)) = true then _ else _) Q E s
           rw [if_neg (by intro h; rw [hn, Bool.false_and] at h; cases h)]
           exact wpAny_pure hQ))
def Itl (K : PySem.W.Frag) (a : Addr) : It :=
 ⟨fun i H => ∃ xs x, SqL K H a xs /\ xs[i]? = some x, fun i H x H' => H' = H /\ ∀ xs, SqL K H a xs -> xs[i]? = some x, fun i H => ∃ xs, SqL K H a xs /\ xs.length <= i⟩
def Itr (lo : Int) (n : Nat) : It := ⟨fun i _ => i < n, fun i H x H' => H' = H /\ x = .int (lo + i), fun i _ => n <= i⟩
theorem turn_list {P : Program} {w : World} {K : PySem.W.Frag} {tg : Expr} (a it : Addr) : Turn P w K tg (Itl K a) [it] it (fun i h => h.IsListIter it a i) where
 mem := by simp
 obj := fun i h st b hb => by
  have e : b = it := by simpa using hb
  subst e
  obtain ⟨o, e, c, d⟩ := st
  exact ⟨o, e, fun v z => by rw [d] at z; cases z⟩
 keep := fun i h h' st k => st.at fun o e => k it (by simp) o e
 item := by
  intro X hP hw hK hc i pins s σ H E I hf st hg
  subst hP hw hK
  obtain ⟨xs, x, hq, hx⟩ := hg
  obtain ⟨its, rv, p, hz⟩ := I.list hq
  obtain ⟨u, hu, ru⟩ := rv.get hx
  obtain ⟨f0, f1, f2, f3, f4, f5⟩ := hf it (by simp)
  refine wpAny_pyNext_list_item st p.isList (x := u) (by simpa using hu) fun h' st' sb => ?_
  have I1 : Inv X pins σ H { s with heap := h' } := I.turned (t' := s.toks) (fun b o hb e => (sb.2 b hb).trans e) f0 f1 f3 f4 f5
  obtain ⟨o, e, c, d⟩ := id st'
  exact ⟨u, rfl, go_of (s := { s with heap := h' }) e c d (by decide) ⟨x, H, I1, ru, ⟨rfl, fun ys hy => by rw [I.list_inj hy hq]; exact hx⟩, st', fun b hb => (hf b hb).1⟩⟩
 done := by
  intro X hP hw hK hc i pins s σ H E I hf st hg
  subst hP hw hK
  obtain ⟨xs, hq, hx⟩ := hg
  obtain ⟨its, rv, p, hz⟩ := I.list hq
  obtain ⟨f0, f1, f2, f3, f4, f5⟩ := hf it (by simp)
  have hl := rv.length
  exact wpAny_pyNext_list_end (I.ok.hd hc) st p.isList (by simp; omega) fun h' eb => ⟨rfl, I.turned (t' := s.toks) (fun b o hb e => eb b o hb e) f0 f1 f3 f4 f5⟩
 self := fun _ _ _ _ _ st h => wpAny_pyIter_listiter st h
theorem turn_range {P : Program} {w : World} {K : PySem.W.Frag} {tg : Expr} (it : Addr) (lo : Int) (n : Nat) : Turn P w K tg (Itr lo n) [it] it (fun i h => IsRangeIter h it (lo + (i : Nat) * 1) ((n : Int) - (i : Nat)) 1) where
 mem := by simp
 obj := fun i h st b hb => by
  have e : b = it := by simpa using hb
  subst e
  exact ⟨_, st, fun v z => by
   have z' : Data.fields _ = Data.cell v := z
   cases z'⟩
 keep := fun i h h' st k => k it (by simp) _ st
 item := by
  intro X hP hw hK hc i pins s σ H E I hf st hg
  subst hP hw hK
  obtain ⟨f0, f1, f2, f3, f4, f5⟩ := hf it (by simp)
  have W := Walks.range (prog := X.prog) (w := X.w) (I.ok.hd hc) it lo 1 n
  refine W.item i s _ _ hg st fun v h' tk hv st' kk => ?_
  obtain ⟨t, rfl⟩ := hv
  have I1 : Inv X pins σ H { s with heap := h', toks := tk } := I.turned (fun b o hb e => kk b o (by simpa using hb) e) f0 f1 f3 f4 f5
  refine ⟨_, rfl, go_of (s := { s with heap := h', toks := tk }) (n := "range_iterator") st' rfl rfl (by decide) ⟨.int (lo + i), H, I1, ⟨t, ?_⟩, ⟨rfl, rfl⟩, st', fun b hb => (hf b hb).1⟩⟩
  rw [Int.mul_one]
 done := by
  intro X hP hw hK hc i pins s σ H E I hf st hg
  subst hP hw hK
  obtain ⟨f0, f1, f2, f3, f4, f5⟩ := hf it (by simp)
  exact wpAny_pyNext_range_end (I.ok.hd hc) st (by have : n <= i := hg; omega) fun h' eb => ⟨rfl, I.turned (t' := s.toks) (fun b o hb e => eb b o hb e) f0 f1 f3 f4 f5⟩
 self := fun _ _ _ _ _ st h => wpAny_pyIter_rangeiter st h
section
variable {X : Cx} {tg : Expr}
def iList (K : PySem.W.Frag) (tl : TE) : TI := fun σ H R => tl σ H fun x H1 => ∃ a, x = .ref a /\ (∃ xs, SqL K H1 a xs) /\ R (Itl K a) H1
theorem pi_list {l : Expr} {tl : TE} (hl : PE X l tl) : PI X tg l (iList X.K tl) := by
 intro pins s σ H R I h
 refine thn (hl pins s σ H _ I h) fun v s1 ⟨x, H1, I1, r1, q1⟩ => ?_
 obtain ⟨a, e, ⟨xs, hq⟩, q⟩ := q1
 subst e
 cases r1
 obtain ⟨its, rv, p, hz⟩ := I1.list hq
 refine wpAny_pyIter_list p.isList ?_
 refine ⟨s1.heap.objs.size, [s1.heap.objs.size], _, _, H1, rfl, I1.kept (t' := s1.toks) fun b o e => zq8x _ e, turn_list a _, ⟨_, zq28x _ rfl, rfl, rfl⟩, fun b hb => ?_, q⟩
 have e : b = s1.heap.objs.size := by simpa using hb
 subst e
 exact I1.fpOk (zq3x _) (I1.hok.fresh (zq3x _))
theorem range_it {pins : List (Addr × Obj)} {σ : St} {H : Hp} {s : Shared} {R : It -> Hp -> Prop} {E : Value -> Shared -> Prop} {lo hi : Int} {t u v : Tok} {tk : Nat} (I : Inv X pins σ H s) (h1 : -(2 ^ 62) <= lo) (h2 : lo < 2 ^ 62) (h3 : -(2 ^ 62) <= hi) (h4 : hi < 2 ^ 62)
  (q : R (Itr lo (hi - lo).toNat) H) : wpAny (model X.prog X.w) X.A (pyIter (.ref s.heap.objs.size)) (PIE X pins σ tg R) E { s with heap := s.heap.push { cls := .type "range", data := .fields #[.int lo t, .int hi u, .int 1 v] }, toks := tk } := by
 refine wpAny_pyIter_range (IsRange.new ..) (small_one h1 h2 h3 h4) ?_
 have I1 : Inv X pins σ H { s with heap := s.heap.push { cls := .type "range", data := .fields #[.int lo t, .int hi u, .int 1 v] }, toks := tk } := I.kept fun b o e => zq8x _ e
 refine ⟨(s.heap.push { cls := .type "range", data := .fields #[.int lo t, .int hi u, .int 1 v] }).objs.size, [(s.heap.push { cls := .type "range", data := .fields #[.int lo t, .int hi u, .int 1 v] }).objs.size], _, _, H, rfl,
  I1.kept (t' := tk) fun b o e => zq8x _ e, turn_range _ lo (hi - lo).toNat, ?_, fun b hb => ?_, q⟩
 ·have e1 : lo + ((0 : Nat) : Int) * 1 = lo := by simp
  have e2 : (((hi - lo).toNat : Nat) : Int) - ((0 : Nat) : Int) = Builtin.Range.rangeSize lo hi 1 := by rw [rangeSize_one]; split <;> omega
  show IsRangeIter _ _ (lo + ((0 : Nat) : Int) * 1) ((((hi - lo).toNat : Nat) : Int) - ((0 : Nat) : Int)) 1
  rw [e1, e2]
  exact zq28x _ rfl
 ·have e : b = (s.heap.push { cls := .type "range", data := .fields #[.int lo t, .int hi u, .int 1 v] }).objs.size := by simpa using hb
  subst e
  exact I1.fpOk (zq3x _) (I1.hok.fresh (zq3x _))
def iRng1 (ta : TA) : TI := fun σ H R => ta σ H fun vs H1 => ∃ j : Int, vs = [.int j] /\ -(2 ^ 62) <= j /\ j < 2 ^ 62 /\ R (Itr 0 j.toNat) H1
def iRng2 (ta : TA) : TI := fun σ H R => ta σ H fun vs H1 => ∃ i j : Int, vs = [.int i, .int j] /\ (-(2 ^ 62) <= i /\ i < 2 ^ 62 /\ -(2 ^ 62) <= j /\ j < 2 ^ 62) /\ R (Itr i (j - i).toNat) H1
theorem pi_range1 {a : Expr} {ta : TA} {p pos : Pos} (hg : Gl X "range") (hm : X.mg "range" = none) (ha : PA X [a] ta) (hs : starEach [a] X.env = [(false, eval a X.env)] := by rfl) : PI X tg (.Call (.Name "range" p) [a] [] pos) (iRng1 ta) := by
  intro pins s σ H R I h
  refine Call_ (ld_blt I hg hm boot_range (zq95x (thn (ha pos pins s σ H _ I h) fun us s1 ⟨vs, H1, I1, r1, q1⟩ => ?_) hs rfl))
  obtain ⟨j, e, q1, q2, q⟩ := q1
  subst e
  cases r1 with
  | cons r rr =>
    cases rr
    obtain ⟨t, rfl⟩ := r
    exact call_range_1 (range_it I1 (by omega) (by omega) q1 q2 (by simpa using q))
theorem pi_range2 {a b : Expr} {ta : TA} {p pos : Pos} (hg : Gl X "range") (hm : X.mg "range" = none) (ha : PA X [a, b] ta) (hs : starEach [a, b] X.env = [(false, eval a X.env), (false, eval b X.env)] := by rfl) (hs2 : starEach [b] X.env = [(false, eval b X.env)] := by rfl) :
    PI X tg (.Call (.Name "range" p) [a, b] [] pos) (iRng2 ta) := by
  intro pins s σ H R I h
  refine Call_ (ld_blt I hg hm boot_range (zq95x (thn (ha pos pins s σ H _ I h) fun us s1 ⟨vs, H1, I1, r1, q1⟩ => ?_) (by rw [hs, hs2]) (by rw [hs2]; rfl)))
  obtain ⟨i, j, e, ⟨q1, q2, q3, q4⟩, q⟩ := q1
  subst e
  cases r1 with
  | cons r rr =>
    cases rr with
    | cons r' rr =>
      cases rr
      obtain ⟨t, rfl⟩ := r
      obtain ⟨t', rfl⟩ := r'
      exact call_range_2 (range_it I1 q1 q2 q3 q4 q)
def tFor (wi : TI) (g : TG) (tb : TS) : TS := fun D σ H => wi σ H fun J H1 => ∃ W : Nat -> Nat -> St -> Hp -> Prop, (∃ m, W 0 m σ H1) /\ ∀ i m σ H, W i m σ H ->
 (J.stop i H /\ D.nx σ H) \/ (J.go i H /\ ∃ N : St -> Hp -> Prop, (∀ σ' H', N σ' H' -> ∃ m', m' < m /\ W (i + 1) m' σ' H') /\ ∀ x H', J.yld i H x H' -> g x σ H' fun σ2 H2 => tb { D with nx := N, ct := N, bk := D.nx } σ2 H2)
def pinsAt (fp : List Addr) (h : Heap) : List (Addr × Obj) := fp.filterMap fun b => (h.get? b).map fun o => (b, o)
theorem mem_pinsAt {fp : List Addr} {h : Heap} {b : Addr} {o : Obj} (hb : b ∈ fp) (e : h.get? b = some o) : (b, o) ∈ pinsAt fp h := zq114x.mpr ⟨b, hb, by rw [e]; rfl⟩
theorem of_pinsAt {fp : List Addr} {h : Heap} {p : Addr × Obj} (hp : p ∈ pinsAt fp h) : p.1 ∈ fp /\ h.get? p.1 = some p.2 := by
  obtain ⟨b, hb, e⟩ := zq114x.mp hp
  cases q : h.get? b with
  | none => rw [q] at e; cases e
  | some o =>
    rw [q] at e
    have e' : (b, o) = p := zq31x e
    subst e'
    exact ⟨hb, q⟩
theorem Inv.pinned {pins : List (Addr × Obj)} {σ : St} {H : Hp} {s : Shared} {fp : List Addr} (I : Inv X pins σ H s) (hf : ∀ b ∈ fp, FpOk X pins H b) (ho : ∀ b ∈ fp, ∃ o, s.heap.get? b = some o /\ ∀ v, o.data ≠ .cell v) : Inv X (pins ++ pinsAt fp s.heap) σ H s :=
 I.pins_of fun p hp => (zq53x.mp hp).elim (fun z => I.pin p (zq42x _ z)) fun z => by
  obtain ⟨hb, e⟩ := of_pinsAt z
  obtain ⟨f0, f1, f2, _⟩ := hf p.1 hb
  obtain ⟨o, e', d⟩ := ho p.1 hb
  rw [e] at e'; cases e'
  exact ⟨e, f0, f1, f2, d⟩
theorem Inv.unpinned {pins pl : List (Addr × Obj)} {σ : St} {H : Hp} {s : Shared} (I : Inv X (pins ++ pl) σ H s) : Inv X pins σ H s := I.pins_of fun p hp => I.pin p (zq42x _ (zq82x _ hp))
theorem ps_for {iter : Expr} {body : List Stmt} {wi : TI} {g : TG} {tb : TS} {pos : Pos} (hp : PassesOwn (model X.prog X.w) X.A X.env X.xe) (hc : X.calm = true) (hi : PI X tg iter wi) (hg : PG X tg g) (hb : PSs X body tb)
  (hs : ∀ x, foldedSetIterable iter X.env x = pure x := by intro _; rfl) : PS X (.For tg iter body [] pos) (tFor wi g tb) := by
 intro pins s σ H D I h
 refine wpAny_For (thn (hi pins s σ H _ I h) fun v s1 h1 => thn h1 fun itv s2 h2 => ?_) hs
 obtain ⟨it, fp, tn, J, H2, e, I2, T, st2, f2, W, ⟨m0, w0⟩, turn⟩ := h2
 subst e
 have stat : ∀ {H' : Hp}, (∀ b ∈ fp, H' b = none) -> ∀ b ∈ fp, FpOk X pins H' b := fun hn b hb => ⟨hn b hb, (f2 b hb).2⟩
 refine codeAny_forLoop_any (fun n s' => ∃ i σ' H', Inv X pins σ' H' s' /\ tn i s'.heap /\ (∀ b ∈ fp, H' b = none) /\ W i n σ' H') ?_ m0 ⟨0, σ, H2, I2, st2, fun b hb => (f2 b hb).1, w0⟩
 rintro n s3 ⟨i, σ3, H3, I3, st3, fr3, w3⟩
 rcases turn i n σ3 H3 w3 with ⟨stop, qn⟩ | ⟨go, N, hN, step⟩
 ·refine wpAny_passesOwn hp (thn (T.done X rfl rfl rfl hc i pins s3 σ3 H3 X.xe I3 (stat fr3) st3 stop) fun r s4 ⟨hr, I4⟩ => ?_)
  subst hr
  exact wpAny_execs_nil ⟨σ3, H3, I4, qn⟩
 ·refine wpAny_passesOwn hp (thn (T.item X rfl rfl rfl hc i pins s3 σ3 H3 X.xe I3 (stat fr3) st3 go) fun r s4 ⟨u, hr, h4⟩ => ?_)
  subst hr
  refine wpAny_passesOwn hp (thn h4 fun _ s5 ⟨x, H5, I5, r5, y5, st5, fr5⟩ => ?_)
  have I5' := I5.pinned (stat fr5) (T.obj _ _ st5)
  refine wpAny_passesOwn hp (thn (hg _ s5 σ3 H5 x u _ I5' r5 (step x H5 y5)) fun _ s6 ⟨σ6, H6, I6, q6⟩ => ?_)
  refine wpAny_passesOwn hp (thn (hb _ s6 σ6 H6 _ I6 q6) fun f s7 q7 => ?_)
  have again : ∀ {σ7 : St} {H7 : Hp}, Inv X (pins ++ pinsAt fp s5.heap) σ7 H7 s7 -> N σ7 H7 -> ∃ m, m < n /\ ∃ i σ' H', Inv X pins σ' H' s7 /\ tn i s7.heap /\ (∀ b ∈ fp, H' b = none) /\ W i m σ' H' := fun {σ7 H7} I7 n7 => by
   obtain ⟨m', hm, w7⟩ := hN σ7 H7 n7
   refine ⟨m', hm, i + 1, σ7, H7, I7.unpinned, T.keep _ _ _ st5 fun b hb o e => (I7.pin (b, o) (zq42x _ (zq42x _ (mem_pinsAt hb e)))).1, fun b hb => ?_, w7⟩
   obtain ⟨o, e, d⟩ := T.obj _ _ st5 b hb
   exact (I7.pin (b, o) (zq42x _ (zq42x _ (mem_pinsAt hb e)))).2.1
  cases f with
  | next => obtain ⟨σ7, H7, I7, n7⟩ := q7; exact again I7 n7
  | cont => obtain ⟨σ7, H7, I7, n7⟩ := q7; exact again I7 n7
  | brk => obtain ⟨σ7, H7, I7, q7⟩ := q7; exact ⟨σ7, H7, I7.unpinned, q7⟩
  | ret v => obtain ⟨x7, σ7, H7, I7, r7, q7⟩ := q7; exact ⟨x7, σ7, H7, I7.unpinned, r7, q7⟩
end
theorem for_list {K : PySem.W.Frag} {a : Addr} {xs : List V} {g : TG} {tb : TS} {D : Ends} {σ : St} {H : Hp} (Pv : Nat -> St -> Hp -> Prop) (h0 : Pv 0 σ H) (hl : ∀ i σ H, i <= xs.length -> Pv i σ H -> SqL K H a xs)
  (hs : ∀ i x σ H, xs[i]? = some x -> Pv i σ H -> g x σ H fun σ2 H2 => tb { D with nx := Pv (i + 1), ct := Pv (i + 1), bk := D.nx } σ2 H2) (hd : ∀ σ H, Pv xs.length σ H -> D.nx σ H) :
  ∃ W : Nat -> Nat -> St -> Hp -> Prop, (∃ m, W 0 m σ H) /\ ∀ i m σ H, W i m σ H ->
   ((Itl K a).stop i H /\ D.nx σ H) \/ ((Itl K a).go i H /\ ∃ N : St -> Hp -> Prop, (∀ σ' H', N σ' H' -> ∃ m', m' < m /\ W (i + 1) m' σ' H') /\ ∀ x H', (Itl K a).yld i H x H' -> g x σ H' fun σ2 H2 => tb { D with nx := N, ct := N, bk := D.nx } σ2 H2) := by
 refine ⟨fun i m σ H => m = xs.length - i /\ i <= xs.length /\ Pv i σ H, ⟨xs.length, by simp, zq37x _, h0⟩, ?_⟩
 rintro i m σ H ⟨rfl, hi, p⟩
 have q := hl i σ H hi p
 by_cases hlt : i < xs.length
 ·refine .inr ⟨⟨xs, xs[i], q, by simp [hlt]⟩, Pv (i + 1), fun σ' H' p' => ⟨xs.length - (i + 1), by omega, rfl, hlt, p'⟩, fun x H' y => ?_⟩
  obtain ⟨e, y⟩ := y
  subst e
  exact hs i x σ _ (y xs q) p
 ·have e : i = xs.length := by omega
  subst e
  exact .inl ⟨⟨xs, q, zq3x _⟩, hd σ H p⟩
theorem for_range {lo : Int} {n : Nat} {g : TG} {tb : TS} {D : Ends} {σ : St} {H : Hp} (Pv : Nat -> St -> Hp -> Prop) (h0 : Pv 0 σ H)
  (hs : ∀ i σ H, i < n -> Pv i σ H -> g (.int (lo + i)) σ H fun σ2 H2 => tb { D with nx := Pv (i + 1), ct := Pv (i + 1), bk := D.nx } σ2 H2) (hd : ∀ σ H, Pv n σ H -> D.nx σ H) :
  ∃ W : Nat -> Nat -> St -> Hp -> Prop, (∃ m, W 0 m σ H) /\ ∀ i m σ H, W i m σ H ->
   ((Itr lo n).stop i H /\ D.nx σ H) \/ ((Itr lo n).go i H /\ ∃ N : St -> Hp -> Prop, (∀ σ' H', N σ' H' -> ∃ m', m' < m /\ W (i + 1) m' σ' H') /\ ∀ x H', (Itr lo n).yld i H x H' -> g x σ H' fun σ2 H2 => tb { D with nx := N, ct := N, bk := D.nx } σ2 H2) := by
 refine ⟨fun i m σ H => m = n - i /\ i <= n /\ Pv i σ H, ⟨n, by simp, zq37x _, h0⟩, ?_⟩
 rintro i m σ H ⟨rfl, hi, p⟩
 by_cases hlt : i < n
 ·refine .inr ⟨hlt, Pv (i + 1), fun σ' H' p' => ⟨n - (i + 1), by omega, rfl, hlt, p'⟩, fun x H' y => ?_⟩
  obtain ⟨e, y⟩ := y
  subst e y
  exact hs i σ _ hlt p
 ·have e : i = n := by omega
  subst e
  exact .inl ⟨zq3x _, hd σ H p⟩
abbrev R2 := V -> V -> Hp -> VK -> Prop
def OpR (X : Cx) (f : Value -> Value -> Sem Value) (r : R2) : Prop :=
 ∀ (pins : List (Addr × Obj)) (s : Shared) (σ : St) (H : Hp) (x y : V) (v u : Value) (Q : VK), Inv X pins σ H s -> RelV x v -> RelV y u -> r x y H Q ->
  wpAny (model X.prog X.w) X.A (f v u) (EP X pins σ Q) X.xe s
def UnR (X : Cx) (f : Value -> Sem Value) (r : V -> Hp -> VK -> Prop) : Prop :=
 ∀ (pins : List (Addr × Obj)) (s : Shared) (σ : St) (H : Hp) (x : V) (v : Value) (Q : VK), Inv X pins σ H s -> RelV x v -> r x H Q ->
  wpAny (model X.prog X.w) X.A (f v) (EP X pins σ Q) X.xe s
def CallR (X : Cx) (f : Value) (r : List V -> Hp -> VK -> Prop) : Prop :=
 ∀ (pins : List (Addr × Obj)) (s : Shared) (σ : St) (H : Hp) (xs : List V) (us : List Value) (Q : VK), Inv X pins σ H s -> Vals xs us -> r xs H Q ->
  wpAny (model X.prog X.w) X.A (call f us) (EP X pins σ Q) X.xe s
def TruR (X : Cx) (r : V -> Hp -> (Bool -> Hp -> Prop) -> Prop) : Prop :=
 ∀ (pins : List (Addr × Obj)) (s : Shared) (σ : St) (H : Hp) (x : V) (v : Value) (Q : Bool -> Hp -> Prop), Inv X pins σ H s -> RelV x v -> r x H Q ->
  wpAny (model X.prog X.w) X.A (truthy v) (TP X pins σ Q) X.xe s
def tOp (r : R2) (ta tb : TE) : TE := fun σ H Q => ta σ H fun x H1 => tb σ H1 fun y H2 => r x y H2 Q
def tUn (r : V -> Hp -> VK -> Prop) (ta : TE) : TE := fun σ H Q => ta σ H fun x H1 => r x H1 Q
def rI (C : Int -> Int -> Prop) (g : Int -> Int -> V) : R2 := fun x y H Q => ∃ i j, x = .int i /\ y = .int j /\ C i j /\ Q (g i j) H
def rI0 (g : Int -> Int -> V) : R2 := fun x y H Q => ∃ i j, x = .int i /\ y = .int j /\ Q (g i j) H
def rU (g : Int -> V) : V -> Hp -> VK -> Prop := fun x H Q => ∃ i, x = .int i /\ Q (g i) H
section
variable {X : Cx} {a b c : Expr} {ta tb tc : TE} {pos : Pos}
theorem binT (ha : PE X a ta) (hb : PE X b tb) {pins : List (Addr × Obj)} {s : Shared} {σ : St} {H : Hp} {R : V -> V -> Hp -> Prop} (I : Inv X pins σ H s)
  (h : ta σ H fun x H1 => tb σ H1 fun y H2 => R x y H2) {Q : Value -> Shared -> Prop} {f : Value -> Value -> Sem Value}
  (hf : ∀ v u s2 x y H2, Inv X pins σ H2 s2 -> RelV x v -> RelV y u -> R x y H2 -> wpAny (model X.prog X.w) X.A (f v u) Q X.xe s2) :
  wpAny (model X.prog X.w) X.A (eval a X.env) (fun v s₁ => wpAny (model X.prog X.w) X.A (eval b X.env) (fun u s₂ => wpAny (model X.prog X.w) X.A (f v u) Q X.xe s₂) X.xe s₁) X.xe s := by
 refine thn (ha pins s σ H _ I h) fun v s1 ⟨x, H1, I1, r1, q1⟩ => ?_
 refine thn (hb pins s1 σ H1 _ I1 q1) fun u s2 ⟨y, H2, I2, r2, q2⟩ => ?_
 exact hf v u s2 x y H2 I2 r1 r2 q2
theorem pe_op {op : Operator} {r : R2} (ho : OpR X (binaryOp op) r) (ha : PE X a ta) (hb : PE X b tb) : PE X (.BinOp a op b pos) (tOp r ta tb) := by
 intro pins s σ H Q I h
 exact wpAny_BinOp (binT ha hb I h fun v u s2 x y H2 I2 rx ry q => ho pins s2 σ H2 x y v u Q I2 rx ry q)
theorem pe_un {op : UnaryOp} {r : V -> Hp -> VK -> Prop} (ho : UnR X (unaryOp op) r) (ha : PE X a ta) : PE X (.UnaryOp op a pos) (tUn r ta) := by
 intro pins s σ H Q I h
 exact UnaryOp_ (thn (ha pins s σ H _ I h) fun v s1 ⟨x, H1, I1, r1, q1⟩ => ho pins s1 σ H1 x v Q I1 r1 q1)
theorem opI {f : Value -> Value -> Sem Value} {C : Int -> Int -> Prop} {g : Int -> Int -> Int}
  (rule : ∀ (i j : Int) (t u : Tok) (s : Shared) (Q : Value -> Shared -> Prop) (E : Value -> Shared -> Prop), C i j -> Q (.int (g i j) s.toks) { s with toks := s.toks + 1 } -> wpAny (model X.prog X.w) X.A (f (.int i t) (.int j u)) Q E s) :
  OpR X f (rI C fun i j => .int (g i j)) := by
 intro pins s σ H x y v u Q I rx ry h
 obtain ⟨i, j, rfl, rfl, hc, q⟩ := h
 obtain ⟨t, rfl⟩ := rx
 obtain ⟨t', rfl⟩ := ry
 exact rule i j t t' s _ _ hc ⟨.int (g i j), H, I.tok _, ⟨_, rfl⟩, q⟩
theorem opI0 {f : Value -> Value -> Sem Value} {g : Int -> Int -> Int}
  (rule : ∀ (i j : Int) (t u : Tok) (s : Shared) (Q : Value -> Shared -> Prop) (E : Value -> Shared -> Prop), Q (.int (g i j) s.toks) { s with toks := s.toks + 1 } -> wpAny (model X.prog X.w) X.A (f (.int i t) (.int j u)) Q E s) :
  OpR X f (rI0 fun i j => .int (g i j)) := by
 intro pins s σ H x y v u Q I rx ry h
 obtain ⟨i, j, rfl, rfl, q⟩ := h
 obtain ⟨t, rfl⟩ := rx
 obtain ⟨t', rfl⟩ := ry
 exact rule i j t t' s _ _ ⟨.int (g i j), H, I.tok _, ⟨_, rfl⟩, q⟩
theorem opB0 {f : Value -> Value -> Sem Value} {g : Int -> Int -> Bool}
  (rule : ∀ (i j : Int) (t u : Tok) (s : Shared) (Q : Value -> Shared -> Prop) (E : Value -> Shared -> Prop), Q (.bool (g i j)) s -> wpAny (model X.prog X.w) X.A (f (.int i t) (.int j u)) Q E s) :
  OpR X f (rI0 fun i j => .bl (g i j)) := by
 intro pins s σ H x y v u Q I rx ry h
 obtain ⟨i, j, rfl, rfl, q⟩ := h
 obtain ⟨t, rfl⟩ := rx
 obtain ⟨t', rfl⟩ := ry
 exact rule i j t t' s _ _ ⟨.bl (g i j), H, I, rfl, q⟩
def CPow (i j : Int) : Prop := 0 <= j /\ j <= 1000000 /\ i.natAbs < 2 ^ 64
def CMul (i j : Int) : Prop := (-(2 ^ 64) < i /\ i < 2 ^ 64) \/ (-(2 ^ 64) < j /\ j < 2 ^ 64)
theorem CMul.ok {i j : Int} (h : CMul i j) : IntMulOk i j := by
 rcases h with ⟨h1, h2⟩ | ⟨h1, h2⟩
 ·exact .of_left (intBits_le_64 h1 h2)
 ·exact .of_right (intBits_le_64 h1 h2)
theorem op_add : OpR X (binaryOp .Add) (rI0 fun i j => .int (i + j)) := opI0 fun _ _ _ _ _ _ _ q => add_int q
theorem op_sub : OpR X (binaryOp .Sub) (rI0 fun i j => .int (i - j)) := opI0 fun _ _ _ _ _ _ _ q => sub_int q
theorem op_mod : OpR X (binaryOp .Mod) (rI (fun _ j => 0 < j) fun i j => .int (i % j)) := opI fun i j _ _ _ _ _ hc q => by
 have h1 : (0 : Int) < j := hc
 exact mod_int' (by omega) (by rw [Int.fmod_eq_emod_of_nonneg i (by omega)]; exact q)
theorem op_pow : OpR X (binaryOp .Pow) (rI CPow fun i j => .int (i ^ j.toNat)) := opI fun _ _ _ _ _ _ _ hc q => pow_int_small hc.1 hc.2.1 hc.2.2 q
theorem unI {f : Value -> Sem Value} {g : Int -> Int}
  (rule : ∀ (i : Int) (t : Tok) (s : Shared) (Q : Value -> Shared -> Prop) (E : Value -> Shared -> Prop), Q (.int (g i) s.toks) { s with toks := s.toks + 1 } -> wpAny (model X.prog X.w) X.A (f (.int i t)) Q E s) :
  UnR X f (rU fun i => .int (g i)) := by
 intro pins s σ H x v Q I rx h
 obtain ⟨i, rfl, q⟩ := h
 obtain ⟨t, rfl⟩ := rx
 exact rule i t s _ _ ⟨.int (g i), H, I.tok _, ⟨_, rfl⟩, q⟩
theorem un_neg : UnR X (unaryOp .USub) (rU fun i => .int (-i)) := unI fun _ _ _ _ _ q => neg_int q
end
def scal : V -> V -> Bool
 | .non, .non => true | .non, .int _ => true | .int _, .non => true | .non, .bl _ => true | .bl _, .non => true | .non, .str _ => true | .str _, .non => true
 | .int _, .int _ => true | .bl _, .bl _ => true | .str _, .str _ => true | .byt _, .byt _ => true
 | .int _, .str _ => true | .str _, .int _ => true | .bl _, .str _ => true | .str _, .bl _ => true
 | _, _ => false
def rEq : R2 := fun x y H Q => scal x y = true /\ Q (.bl (decide (x = y))) H
def rNe : R2 := fun x y H Q => scal x y = true /\ Q (.bl (!decide (x = y))) H
theorem dec_int {i j : Int} : decide (V.int i = V.int j) = (i == j) := by
 rw [zq70x]
 simp
theorem dec_bl {i j : Bool} : decide (V.bl i = V.bl j) = (i == j) := by
 rw [zq70x]
 simp
theorem dec_str {i j : Str} : decide (V.str i = V.str j) = (i == j) := by
 rw [zq70x]
 simp
theorem dec_byt {i j : Array UInt8} : decide (V.byt i = V.byt j) = (i.toList == j.toList) := by
 rw [zq70x]
 cases i
 cases j
 simp
section
variable {X : Cx} {a b c : Expr} {ta tb tc : TE} {pos : Pos}
theorem fin_bl {pins : List (Addr × Obj)} {σ : St} {H : Hp} {s : Shared} {Q : VK} {k k' : Bool} (I : Inv X pins σ H s) (q : Q (.bl k) H) (e : k = k') : EP X pins σ Q (.bool k') s := by
 subst e
 exact ⟨.bl k, H, I, rfl, q⟩
theorem op_eq : OpR X (compareOp .Eq) rEq := by
  intro pins s σ H x y v u Q I rx ry h
  obtain ⟨hs, q⟩ := h
  cases x with
  | non =>
    cases rx
    cases y with
    | non => cases ry; exact PySem.EqNone.eq_none_none (fin_bl I q (by simp))
    | bl j => cases ry; exact PySem.EqNone.eq_none_bool (fin_bl I q (by simp))
    | int j => obtain ⟨t', rfl⟩ := ry; exact PySem.EqNone.eq_none_int (fin_bl I q (by simp))
    | str j => obtain ⟨t', rfl⟩ := ry; exact PySem.EqNone.eq_none_str (fin_bl I q (by simp))
    | _ => exact absurd (show false = true from hs) zq11x
  | bl i =>
    cases rx
    cases y with
    | non => cases ry; exact PySem.EqNone.eq_bool_none (fin_bl I q (by simp))
    | bl j => cases ry; exact eq_bool (fin_bl I q dec_bl)
    | str j => obtain ⟨t', rfl⟩ := ry; exact PySem.EqMixed.eq_bool_str (fin_bl I q (by simp))
    | _ => exact absurd (show false = true from hs) zq11x
  | int i =>
    obtain ⟨t, rfl⟩ := rx
    cases y with
    | non => cases ry; exact PySem.EqNone.eq_int_none (fin_bl I q (by simp))
    | int j => obtain ⟨t', rfl⟩ := ry; exact eq_int (fin_bl I q dec_int)
    | str j => obtain ⟨t', rfl⟩ := ry; exact PySem.EqMixed.eq_int_str (fin_bl I q (by simp))
    | _ => exact absurd (show false = true from hs) zq11x
  | str i =>
    obtain ⟨t, rfl⟩ := rx
    cases y with
    | non => cases ry; exact PySem.EqNone.eq_str_none (fin_bl I q (by simp))
    | bl j => cases ry; exact PySem.EqMixed.eq_str_bool (fin_bl I q (by simp))
    | int j => obtain ⟨t', rfl⟩ := ry; exact PySem.EqMixed.eq_str_int (fin_bl I q (by simp))
    | str j => obtain ⟨t', rfl⟩ := ry; exact eq_str (fin_bl I q dec_str)
    | _ => exact absurd (show false = true from hs) zq11x
  | byt i =>
    obtain ⟨t, rfl⟩ := rx
    cases y with
    | byt j => obtain ⟨t', rfl⟩ := ry; exact PySem.W.eq_bytes (fin_bl I q dec_byt)
    | _ => exact absurd (show false = true from hs) zq11x
  | _ => cases y <;> exact absurd (show false = true from hs) zq11x
theorem op_ne : OpR X (compareOp .NotEq) rNe := by
  intro pins s σ H x y v u Q I rx ry h
  obtain ⟨hs, q⟩ := h
  cases x with
  | non =>
    cases rx
    cases y with
    | non => cases ry; exact PySem.EqNone.ne_none_none (fin_bl I q (by simp))
    | bl j => cases ry; exact PySem.EqNone.ne_none_bool (fin_bl I q (by simp))
    | int j => obtain ⟨t', rfl⟩ := ry; exact PySem.EqNone.ne_none_int (fin_bl I q (by simp))
    | str j => obtain ⟨t', rfl⟩ := ry; exact PySem.EqNone.ne_none_str (fin_bl I q (by simp))
    | _ => exact absurd (show false = true from hs) zq11x
  | bl i =>
    cases rx
    cases y with
    | non => cases ry; exact PySem.EqNone.ne_bool_none (fin_bl I q (by simp))
    | bl j => cases ry; exact ne_bool (fin_bl I q (congrArg not dec_bl))
    | str j => obtain ⟨t', rfl⟩ := ry; exact PySem.EqMixed.ne_bool_str (fin_bl I q (by simp))
    | _ => exact absurd (show false = true from hs) zq11x
  | int i =>
    obtain ⟨t, rfl⟩ := rx
    cases y with
    | non => cases ry; exact PySem.EqNone.ne_int_none (fin_bl I q (by simp))
    | int j => obtain ⟨t', rfl⟩ := ry; exact ne_int (fin_bl I q (congrArg not dec_int))
    | str j => obtain ⟨t', rfl⟩ := ry; exact PySem.EqMixed.ne_int_str (fin_bl I q (by simp))
    | _ => exact absurd (show false = true from hs) zq11x
  | str i =>
    obtain ⟨t, rfl⟩ := rx
    cases y with
    | non => cases ry; exact PySem.EqNone.ne_str_none (fin_bl I q (by simp))
    | bl j => cases ry; exact PySem.EqMixed.ne_str_bool (fin_bl I q (by simp))
    | int j => obtain ⟨t', rfl⟩ := ry; exact PySem.EqMixed.ne_str_int (fin_bl I q (by simp))
    | str j => obtain ⟨t', rfl⟩ := ry; exact ne_str (fin_bl I q (congrArg not dec_str))
    | _ => exact absurd (show false = true from hs) zq11x
  | byt i =>
    obtain ⟨t, rfl⟩ := rx
    cases y with
    | byt j => obtain ⟨t', rfl⟩ := ry; exact PySem.W.ne_bytes (fin_bl I q (congrArg not dec_byt))
    | _ => exact absurd (show false = true from hs) zq11x
  | _ => cases y <;> exact absurd (show false = true from hs) zq11x
theorem op_lt : OpR X (compareOp .Lt) (rI0 fun i j => .bl (decide (i < j))) := opB0 fun _ _ _ _ _ _ _ q => lt_int q
theorem op_le : OpR X (compareOp .LtE) (rI0 fun i j => .bl (decide (i <= j))) := opB0 fun _ _ _ _ _ _ _ q => le_int q
theorem op_gt : OpR X (compareOp .Gt) (rI0 fun i j => .bl (decide (j < i))) := opB0 fun _ _ _ _ _ _ _ q => gt_int q
theorem op_ge : OpR X (compareOp .GtE) (rI0 fun i j => .bl (decide (j <= i))) := opB0 fun _ _ _ _ _ _ _ q => ge_int q
theorem op_isN : OpR X (compareOp .Is) (fun x y H Q => y = .non /\ Q (.bl (decide (x = .non))) H) := by
 intro pins s σ H x y v u Q I rx ry h
 obtain ⟨rfl, q⟩ := h
 cases ry
 refine is_none_gen (fin_bl I q ?_)
 cases x <;> first
  | (cases rx; rfl)
  | (obtain ⟨t, rfl⟩ := rx; rfl)
theorem nomark (b : Expr) {op : CmpOp} (h : op ≠ .In := by decide) (h2 : op ≠ .NotIn := by decide) : behindInMarks op b = false := by
 have e1 : (op == CmpOp.In) = false := by cases op <;> first | rfl | exact absurd rfl h
 have e2 : (op == CmpOp.NotIn) = false := by cases op <;> first | rfl | exact absurd rfl h2
 cases b <;> simp [behindInMarks, e1, e2]
theorem pe_cmpR {op : CmpOp} {r : R2} (ho : OpR X (compareOp op) r) (ha : PE X a ta) (hb : PE X b tb) (hm : behindInMarks op b = false) : PE X (.Compare a [op] [b] pos) (tOp r ta tb) := by
 intro pins s σ H Q I h
 exact wpAny_Compare1 (binT ha hb I h fun v u s2 x y H2 I2 rx ry q => ho pins s2 σ H2 x y v u Q I2 rx ry q) hm
def tTest (t : TE) : TT := fun σ H Q => t σ H fun x H' => ∃ k, x = .bl k /\ Q k H'
theorem pt_cmpR {op : CmpOp} {r : R2} (ho : OpR X (compareOp op) r) (ha : PE X a ta) (hb : PE X b tb) (hm : behindInMarks op b = false) : PT X (.Compare a [op] [b] pos) (tTest (tOp r ta tb)) := by
 intro pins s σ H Q I h
 refine wpAny_isTrue_Compare1 (thn (ha pins s σ H _ I h) fun v s1 ⟨x, H1, I1, r1, q1⟩ => thn (hb pins s1 σ H1 _ I1 q1) fun u s2 ⟨y, H2, I2, r2, q2⟩ =>
  thn (ho pins s2 σ H2 x y v u _ I2 r1 r2 q2) fun c s3 ⟨z, H3, I3, r3, k, e, q3⟩ => ?_) hm
 subst e
 cases r3
 exact wpAny_truthy_bool ⟨H3, I3, q3⟩
def TruV (K : PySem.W.Frag) (x : V) (H : Hp) (k : Bool) : Prop :=
 match x with
 | .non => k = false
 | .bl b => k = b
 | .int i => k = (i != 0)
 | .str y => y.length <= sizeLine /\ k = ((y.length : Int) != 0)
 | .byt y => y.size <= sizeLine /\ k = ((y.size : Int) != 0)
 | .ref p => (∃ xs, SqL K H p xs /\ k = !xs.isEmpty) \/ (∃ xs, SqT K H p xs /\ k = !xs.isEmpty) \/ ∃ kvs, H p = some (.dK kvs) /\ k = !kvs.isEmpty
 | _ => False
theorem isEmpty_kv {κ : Type} {kvs : List (κ × V)} {vs : List (κ × Value)} (r : KV kvs vs) : (!vs.isEmpty) = !kvs.isEmpty := by
 cases r <;> rfl
theorem isEmpty_of {xs : List V} {its : List Value} (r : Vals xs its) : (!its.toArray.isEmpty) = !xs.isEmpty := by
 cases r <;> simp
theorem line63 : (sizeLine : Nat) < 2 ^ 63 := by rw [sizeLine_eq]; decide
theorem tru_ok : TruR X (fun x H Q => ∃ k, TruV X.K x H k /\ Q k H) := by
  intro pins s σ H x v Q I rx h
  obtain ⟨k, e, q⟩ := h
  have hl := line63
  have hs : sizeLine = 16777216 := sizeLine_eq
  cases x with
  | non =>
    cases rx
    have e' : k = false := e
    subst e'
    exact truthy_none ⟨H, I, q⟩
  | bl b =>
    cases rx
    have e' : k = b := e
    subst e'
    exact wpAny_truthy_bool ⟨H, I, q⟩
  | int i =>
    obtain ⟨t, rfl⟩ := rx
    have e' : k = (i != 0) := e
    subst e'
    exact PySem.P.truthy_int ⟨H, I, q⟩
  | str y =>
    obtain ⟨t, rfl⟩ := rx
    obtain ⟨hy, e'⟩ : y.length <= sizeLine /\ k = ((y.length : Int) != 0) := e
    subst e'
    exact PySem.P.truthy_str (by omega) ⟨H, I.tok _, q⟩
  | byt y =>
    obtain ⟨t, rfl⟩ := rx
    obtain ⟨hy, e'⟩ : y.size <= sizeLine /\ k = ((y.size : Int) != 0) := e
    subst e'
    exact PySem.W.truthy_bytes (by omega) ⟨H, I.tok _, q⟩
  | ref p =>
    cases rx
    have e' : (∃ xs, SqL X.K H p xs /\ k = !xs.isEmpty) \/ (∃ xs, SqT X.K H p xs /\ k = !xs.isEmpty) \/ ∃ kvs, H p = some (.dK kvs) /\ k = !kvs.isEmpty := e
    rcases e' with ⟨xs, hx, e'⟩ | ⟨xs, hx, e'⟩ | ⟨kvs, hx, e'⟩
    · subst e'
      obtain ⟨its, r, pl, hz⟩ := I.list hx
      have hlen := r.length
      exact wpAny_truthy_list pl.isList (by simp only [zq14x]; omega) ⟨H, I.tok _, by rw [isEmpty_of r]; exact q⟩
    · subst e'
      obtain ⟨its, r, pl, hz⟩ := I.tuple hx
      have hlen := r.length
      exact truthy_tuple pl (by simp only [zq14x]; omega) ⟨H, I.tok _, by rw [isEmpty_of r]; exact q⟩
    · subst e'
      obtain ⟨hz, hS, vs, r, m⟩ : kvs.length <= sizeLine /\ (p == sysModules) = false /\ ∃ vs, KV kvs vs /\ s.heap.DictOf (mixKind X.prog X.w) p vs := I.hok p _ hx
      have hlen : kvs.length = vs.length := Paired.length r
      exact wpAny_truthy_dict hS m (by omega) ⟨H, I.tok _, by rw [isEmpty_kv r]; exact q⟩
  | _ => exact (show False from e).elim
theorem pt_truth (ha : PE X a ta) (he : ∀ whole, isTrue a X.env whole = (do let v <- whole; standAt a.pos; holding [v] (truthy v))) :
  PT X a (fun σ H Q => ta σ H fun x H' => ∃ k, TruV X.K x H' k /\ Q k H') := by
 intro pins s σ H Q I h
 exact isTrue_plain (thn (ha pins s σ H _ I h) fun v s1 ⟨x, H1, I1, r1, q1⟩ => tru_ok pins s1 σ H1 x v Q I1 r1 q1) (he _)
theorem vals1 {x : V} {us : List Value} (r : Vals [x] us) : ∃ u, us = [u] /\ RelV x u := by
 cases r with
 | cons r1 r2 => cases r2; exact ⟨_, rfl, r1⟩
theorem vals2 {x y : V} {us : List Value} (r : Vals [x, y] us) : ∃ u w', us = [u, w'] /\ RelV x u /\ RelV y w' := by
  cases r with
  | cons r1 r2 =>
    cases r2 with
    | cons r3 r4 => cases r4; exact ⟨_, _, rfl, r1, r3⟩
theorem call_abs : CallR X (.builtin "abs") (fun xs H Q => ∃ i, xs = [.int i] /\ Q (.int (if i < 0 then -i else i)) H) := by
 intro pins s σ H xs us Q I r h
 obtain ⟨i, rfl, q⟩ := h
 obtain ⟨u, rfl, t, rfl⟩ := vals1 r
 exact call_abs_int fun u tk => ⟨.int (if i < 0 then -i else i), H, I.tok _, ⟨_, rfl⟩, q⟩
theorem call_min2 (hc : X.calm = true) : CallR X (.builtin "min") (fun xs H Q => ∃ i j, xs = [.int i, .int j] /\ Q (.int (if j < i then j else i)) H) := by
 intro pins s σ H xs us Q I r h
 obtain ⟨i, j, rfl, q⟩ := h
 obtain ⟨u, w', rfl, ⟨t, rfl⟩, ⟨t', rfl⟩⟩ := vals2 r
 refine min_two_ints (I.ok.hd hc) fun h' tk k => ⟨_, H, I.kept k, ?_, q⟩
 by_cases hj : j < i
 ·rw [if_pos hj, if_pos hj]; exact ⟨_, rfl⟩
 ·rw [if_neg hj, if_neg hj]; exact ⟨_, rfl⟩
theorem call_int1 : CallR X (.type "int") (fun xs H Q => (∃ i, xs = [.int i] /\ Q (.int i) H) \/ ∃ k, xs = [.bl k] /\ Q (.int (if k then 1 else 0)) H) := by
 intro pins s σ H xs us Q I r h
 rcases h with ⟨i, rfl, q⟩ | ⟨k, rfl, q⟩
 ·obtain ⟨u, rfl, t, rfl⟩ := vals1 r
  exact call_int_int ⟨.int i, H, I, ⟨_, rfl⟩, q⟩
 ·obtain ⟨u, rfl, r1⟩ := vals1 r
  cases r1
  exact call_int_bool ⟨.int (if k then 1 else 0), H, I.tok _, ⟨_, rfl⟩, q⟩
end
structure ObjM (h : Heap) (x dx C : Addr) (mA : Str -> Option Value) : Prop where
 obj : h.get? x = some (PySem.W.instObj C dx)
 ns : h.Ns1 dx mA
 ne : dx ≠ x
theorem lookIn_ns {h : Heap} {dx : Addr} {mA : Str -> Option Value} (n : h.Ns1 dx mA) : ∃ od, h.get? dx = some od /\ ∀ name, PySem.W.lookIn name od = some (mA name) := by
 obtain ⟨o, es, ep, ho, hd, hk, _, hm⟩ := n
 refine ⟨o, ho, fun name => ?_⟩
 have e := hm name
 unfold nsFind findBy at e
 rw [<- Array.find?_toList] at e
 unfold PySem.W.lookIn
 rw [hd]
 dsimp only
 split
 ·rename_i y q
  rw [q] at e
  exact congrArg some e
 ·rename_i q
  rw [q] at e
  have a : es.toList.any (·.refKey) = false := by
   rw [List.any_eq_false]
   intro y hy
   obtain ⟨z, t, hkey⟩ := hk y (zq143x.mp hy)
   simp [DictEntry.refKey, hkey]
  have a' : ¬ es.toList.any (·.refKey) = true := by rw [a]; exact zq11x
  rw [if_neg a']
  exact congrArg some e
theorem ObjM.look {h : Heap} {x dx C : Addr} {mA : Str -> Option Value} (I : ObjM h x dx C mA) : ∃ od, PySem.W.InstAt h x (PySem.W.instObj C dx) C (some od) /\ ∀ name, PySem.W.lookIn name od = some (mA name) :=
 let ⟨od, ho, hl⟩ := lookIn_ns I.ns
 ⟨od, ⟨I.obj, rfl, rfl, ho⟩, hl⟩
section
variable {prog : Program} {w : World} {A : Around} {E : Value -> Shared -> Prop} {s : Shared} {K : PySem.W.Frag} {x dx C f : Addr} {mA : Str -> Option Value} {name : Str} {v : Value}
theorem get_map {expr : Bool} {Q : Value -> Shared -> Prop} (X : K.In s.heap) (I : ObjM s.heap x dx C mA) (hg : PySem.W.plainGet K C name = true) (hh : PySem.W.hasDictIn K C = true)
  (ha : PySem.W.findIn K (.ref C) name = some none) (hv : mA name = some v) (hv' : PySem.W.handedIn v = true) (h : Q v { s with toks := s.toks + 1 }) :
  wpAny (model prog w) A (getAttr (.ref x) name expr) Q E s := by
 obtain ⟨od, J, hl⟩ := I.look
 exact PySem.W.get_value X J (zq115x hg).1 (PySem.W.findObj_own hh ha rfl (by rw [hl, hv])) hv' h
theorem get_meth {pl : Sem Bool} {Q : Value × List Value -> Shared -> Prop} (X : K.In s.heap) (I : ObjM s.heap x dx C mA) (hg : PySem.W.plainGet K C name = true)
  (hf : PySem.W.findIn K (.ref C) name = some (some (.ref f))) (ht : PySem.W.isFn K (.ref f) = true) (hv : mA name = none) (h : Q (.ref f, [.ref x]) s) :
  wpAny (model prog w) A (getMethod (.ref x) name pl) Q E s := by
 obtain ⟨od, J, hl⟩ := I.look
 exact PySem.W.method_fn X J (zq115x hg).1 (zq115x hg).2 hf (beq_iff_eq.mp ht) (by show (PySem.W.lookIn name od).map (·.isSome) = some false; rw [hl, hv]; rfl) h
theorem set_map {ns : List Str} {Q : Unit -> Shared -> Prop} (X : K.In s.heap) (I : ObjM s.heap x dx C mA)
  (hs : PySem.W.findIn K (.ref C) "__setattr__" = some (some (.builtin "object.__setattr__"))) (hp : PySem.W.plainOver K C = true) (ht : PySem.W.takerIn K C name = some none) (hh : PySem.W.hasDictIn K C = true)
  (hw : PySem.Within mA ns) (hsz : ns.length <= sizeLine)
  (h : ∀ h', ObjM h' x dx C (fun y => if y = name then some v else mA y) -> Heap.SameBut dx s.heap h' -> Q () { s with heap := h', toks := s.toks + 2 }) :
  wpAny (model prog w) A (setAttr (.ref x) name v) Q E s := by
 obtain ⟨od, J, hl⟩ := I.look
 refine PySem.W.set_plain X J hs (PySem.W.osa_open (s := { s with toks := s.toks + 1 }) (r := none) X J hp ht fun b => ?_)
 obtain ⟨cd, hc, hd'⟩ := PySem.W.any_some hh
 have hx : s.heap.get? x = some ⟨.ref C, some dx, .plain, #[]⟩ := I.obj
 refine wpAny_bind (wpAny_pure (wpAny_bind (wpAny_bind (wpAny_loadPart hx (wpAny_bind (PySem.W.Looks.here (s := { s with toks := s.toks + 1 }) (PySem.W.looks_clsIn X hc) ?_))))))
 rw [hd']
 refine wpAny_pure (a := some dx) (wpAny_bind (wpAny_pure (wpAny_bind ?_)))
 refine wpAny_nsSet1 (s := { s with toks := s.toks + 1 }) I.ns fun h' hn2 hs2 => ?_
 obtain ⟨oD, esD, epD, hoD, hdD, hcD⟩ := hn2.count (PySem.Within.cons name v hw)
 refine wpAny_bind (wpAny_lookBehind hoD (by rw [hdD]; exact pastItsLine_dict (zq26x hcD (by rw [zq27x]; omega))) ?_)
 exact wpAny_pure (h _ ⟨(hs2.2 _ (zq6x I.ne)).trans I.obj, hn2, I.ne⟩ hs2)
theorem make_map {R : Result -> Shared -> Prop} {vs : List Value} {kw : List (Str × Value)} (X : K.In s.heap) (hm : PySem.W.makesIn K C = true)
  (hi : PySem.W.findIn K (.ref C) "__init__" = some (some (.ref f))) (hf : PySem.W.typeIn K (.ref f) = some (.type "function"))
  (h : codeAny (model prog w) (A.under (.builtin "type.__call__" ⟨.ref C :: vs, kw⟩)) (.call (.ref f) ⟨.ref (s.heap.objs.size + 1) :: vs, kw⟩) (PySem.W.InitBack (s.heap.objs.size + 1) R)
   { s with heap := (s.heap.push PySem.W.emptyDict).push (PySem.W.instObj C s.heap.objs.size) }) :
  codeAny (model prog w) A (.call (.ref C) ⟨vs, kw⟩) R s := by
 obtain ⟨hh, g, d, t, os⟩ := s
 exact PySem.W.make_core (PySem.W.makes_of X hm) (zq96x X hi) (fun self => PySem.W.bind_fn X self hf) (.inl rfl) h
end
def putF (f : Str) (v : V) : List (Str × V) -> List (Str × V)
 | [] => [(f, v)]
 | (g, x) :: r => if g = f then (g, v) :: r else (g, x) :: putF f v r
theorem lookup_putF (f g : Str) (v : V) : ∀ fs : List (Str × V), (putF f v fs).lookup g = if g = f then some v else fs.lookup g
  | [] => by
    show List.lookup g [(f, v)] = _
    by_cases h : g = f
    · have hb : (g == f) = true := beq_iff_eq.mpr h
      simp only [List.lookup, hb, if_pos h]
    · have hb : (g == f) = false := beq_eq_false_iff_ne.mpr h
      simp only [List.lookup, hb, if_neg h]
  | (k, x) :: r => by
    have ih := lookup_putF f g v r
    rw [show putF f v ((k, x) :: r) = (if k = f then (k, v) :: r else (k, x) :: putF f v r) from rfl]
    by_cases hk : k = f
    · rw [if_pos hk]
      by_cases h : g = k
      · have hb : (g == k) = true := beq_iff_eq.mpr h
        simp only [List.lookup, hb, if_pos (h.trans hk)]
      · have hb : (g == k) = false := beq_eq_false_iff_ne.mpr h
        simp only [List.lookup, hb, if_neg (fun e : g = f => h (e.trans hk.symm))]
    · rw [if_neg hk]
      by_cases h : g = k
      · have hb : (g == k) = true := beq_iff_eq.mpr h
        simp only [List.lookup, hb, if_neg (fun e : g = f => hk (h.symm.trans e))]
      · have hb : (g == k) = false := beq_eq_false_iff_ne.mpr h
        simp only [List.lookup, hb]
        exact ih
theorem keys_putF (f : Str) (v : V) : ∀ fs : List (Str × V), f ∈ (putF f v fs).map (·.1) /\ ∀ g, g ∈ fs.map (·.1) -> g ∈ (putF f v fs).map (·.1)
  | [] => ⟨by simp [putF], fun g h => by simp at h⟩
  | (k, x) :: r => by
    obtain ⟨i1, i2⟩ := keys_putF f v r
    rw [show putF f v ((k, x) :: r) = (if k = f then (k, v) :: r else (k, x) :: putF f v r) from rfl]
    by_cases hk : k = f
    · rw [if_pos hk]
      subst hk
      exact ⟨by simp, fun g h => by simpa using h⟩
    · rw [if_neg hk]
      refine ⟨?_, fun g h => ?_⟩
      · rw [zq24x]
        exact zq12x _ i1
      · rw [zq24x] at h ⊢
        rcases zq2x.mp h with e | e
        · exact zq2x.mpr (.inl e)
        · exact zq12x _ (i2 g e)
theorem length_putF (f : Str) (v : V) : ∀ fs : List (Str × V), (putF f v fs).length <= fs.length + 1
  | [] => by simp [putF]
  | (k, x) :: r => by
    have ih := length_putF f v r
    rw [show putF f v ((k, x) :: r) = (if k = f then (k, v) :: r else (k, x) :: putF f v r) from rfl]
    by_cases hk : k = f
    · rw [if_pos hk, zq27x, zq27x]; omega
    · rw [if_neg hk, zq27x, zq27x]; omega
theorem RelO.some_of {v : V} {o : Option Value} (r : RelO (some v) o) : ∃ u, o = some u /\ RelV v u := by
 cases o with
 | none => exact (show False from r).elim
 | some u => exact ⟨u, rfl, r⟩
theorem RelO.none_of {o : Option Value} (r : RelO none o) : o = none := by
 cases o with
 | none => rfl
 | some u => exact (show False from r).elim
theorem handed_of {v : V} {u : Value} (r : RelV v u) : PySem.W.handedIn u = true := by
 cases v with
 | non => cases (show u = Value.none from r); rfl
 | bl b => cases (show u = Value.bool b from r); rfl
 | int i => obtain ⟨t, e⟩ := (show ∃ t, u = Value.int i t from r); cases e; rfl
 | str x => obtain ⟨t, e⟩ := (show ∃ t, u = Value.str x t from r); cases e; rfl
 | byt b => obtain ⟨t, e⟩ := (show ∃ t, u = Value.bytes b t from r); cases e; rfl
 | flt b => obtain ⟨t, e⟩ := (show ∃ t, u = Value.float b t from r); cases e; rfl
 | ref a => cases (show u = Value.ref a from r); rfl
 | ty n => cases (show u = Value.type n from r); rfl
section
variable {P : Program} {w : World} {H H' : Hp} {h h' : Heap} {a C dx : Addr} {fs fs' : List (Str × V)}
theorem ins_get (hok : HOk P w H h) (e : H a = some (.ins C dx fs)) : ∃ mA, ObjM h a dx C mA /\ (∀ f, RelO (fs.lookup f) (mA f)) /\ PySem.Within mA (fs.map (·.1)) /\ fs.length <= 1000 /\ H dx = some (.own a) := by
 obtain ⟨d, z, ne, ob, mA, n, r, q⟩ := (show ObjOk P w H h a (.ins C dx fs) from hok a _ e)
 exact ⟨mA, ⟨ob, n, ne⟩, r, q, z, d⟩
end
structure Cls (K : PySem.W.Frag) (C : Addr) : Prop where
 pg : PySem.W.plainGet K C Str.empty = true
 hd : PySem.W.hasDictIn K C = true
 po : PySem.W.plainOver K C = true
 sa : PySem.W.findIn K (.ref C) "__setattr__" = some (some (.builtin "object.__setattr__"))
theorem Cls.get {K : PySem.W.Frag} {C : Addr} (c : Cls K C) (f : Str) : PySem.W.plainGet K C f = true := c.pg
def NoAttr (K : PySem.W.Frag) (C : Addr) (f : Str) : Prop := PySem.W.findIn K (.ref C) f = some none
theorem NoAttr.taker {K : PySem.W.Frag} {C : Addr} {f : Str} (n : NoAttr K C f) : PySem.W.takerIn K C f = some none := by
 unfold PySem.W.takerIn
 rw [show PySem.W.findIn K (.ref C) f = some none from n]
 rfl
structure Meth (K : PySem.W.Frag) (C : Addr) (m : Str) (f : Addr) : Prop where
 at_ : PySem.W.findIn K (.ref C) m = some (some (.ref f))
 fn : PySem.W.isFn K (.ref f) = true
 kp : PySem.W.keepIn K (.ref f) = true
section
variable {X : Cx} {pins : List (Addr × Obj)} {σ : St} {H : Hp} {s : Shared} {a C dx : Addr} {fs : List (Str × V)} {f : Str} {v : V} {A : Around} {E : Value -> Shared -> Prop}
theorem getattr_ok {b : Bool} {Q : Value -> Shared -> Prop} (I : Inv X pins σ H s) (e : H a = some (.ins C dx fs)) (c : Cls X.K C) (n : NoAttr X.K C f) (l : fs.lookup f = some v)
  (h : ∀ u s', Inv X pins σ H s' -> RelV v u -> Q u s') : wpAny (model X.prog X.w) A (getAttr (.ref a) f b) Q E s := by
 obtain ⟨mA, O, r, _, _, _⟩ := ins_get I.hok e
 obtain ⟨u, hu, ru⟩ := RelO.some_of (v := v) (o := mA f) (by rw [<- l]; exact r f)
 exact get_map I.kIn O (c.get f) c.hd n hu (handed_of ru) (h u _ (I.tok _) ru)
theorem getmeth_ok {m : Str} {g : Addr} {pl : Sem Bool} {Q : Value × List Value -> Shared -> Prop} (I : Inv X pins σ H s) (e : H a = some (.ins C dx fs)) (c : Cls X.K C) (k : Meth X.K C m g) (l : fs.lookup m = none)
  (h : Q (.ref g, [.ref a]) s) : wpAny (model X.prog X.w) A (getMethod (.ref a) m pl) Q E s := by
 obtain ⟨mA, O, r, _, _, _⟩ := ins_get I.hok e
 have hn : mA m = none := RelO.none_of (by rw [<- l]; exact r m)
 exact get_meth I.kIn O (c.get m) k.at_ k.fn hn h
theorem setattr_ok {y : V} {u : Value} {Q : Unit -> Shared -> Prop} (I : Inv X pins σ H s) (e : H a = some (.ins C dx fs)) (c : Cls X.K C) (n : NoAttr X.K C f) (hl : fs.length < 1000) (ry : RelV y u)
  (h : ∀ s', Inv X pins σ (upd H a (.ins C dx (putF f y fs))) s' -> Q () s') : wpAny (model X.prog X.w) A (setAttr (.ref a) f u) Q E s := by
 obtain ⟨mA, O, r, wi, _, ho⟩ := ins_get I.hok e
 have hz : (fs.map (·.1)).length <= sizeLine := by rw [zq0x, sizeLine_eq]; omega
 refine set_map I.kIn O c.sa c.po n.taker c.hd wi hz fun h' O' sb => h _ ?_
 have hd : ∃ o, h'.get? dx = some o := let ⟨o, _, _, e', _⟩ := O'.ns; ⟨o, e'⟩
 refine I.write (x := a) (e := dx) (by rw [e]; exact True.intro) (.inr ho) (fun b q hb z => (sb.2 b hb).trans z) hd ?_
 refine ⟨by rw [upd_ne O.ne]; exact ho, ?_, O.ne, O'.obj, _, O'.ns, fun g => ?_, fun g hg => ?_⟩
 ·have := length_putF f y fs; omega
 ·show RelO ((putF f y fs).lookup g) (if g = f then some u else mA g)
  rw [lookup_putF]
  by_cases q : g = f
  ·rw [if_pos q, if_pos q]; exact ry
  ·rw [if_neg q, if_neg q]; exact r g
 ·by_cases q : g = f
  ·rw [q]; exact (keys_putF f y fs).1
  ·refine (keys_putF f y fs).2 g (wi g fun z => hg ?_)
   show (if g = f then some u else mA g) = none
   rw [if_neg q]; exact z
theorem Inv.made (I : Inv X pins σ H s) : Inv X pins σ (upd (upd H s.heap.objs.size (.own (s.heap.objs.size + 1))) (s.heap.objs.size + 1) (.ins C s.heap.objs.size []))
  { s with heap := (s.heap.push PySem.W.emptyDict).push (PySem.W.instObj C s.heap.objs.size) } := by
 have e1 : (s.heap.push PySem.W.emptyDict).get? s.heap.objs.size = some PySem.W.emptyDict := zq28x s.heap rfl
 have e2 : ((s.heap.push PySem.W.emptyDict).push (PySem.W.instObj C s.heap.objs.size)).get? (s.heap.objs.size + 1) = some (PySem.W.instObj C s.heap.objs.size) := by
  have := zq28x (s.heap.push PySem.W.emptyDict) (o := PySem.W.instObj C s.heap.objs.size) rfl
  rwa [zq51x] at this
 have e3 : (s.heap.push PySem.W.emptyDict).Ns s.heap.objs.size (fun _ => none) := ⟨PySem.W.emptyDict, #[], _, e1, rfl, (fun e he => absurd he (by simp)), fun _ => rfl⟩
 have I1 := I.laid (a := s.heap.objs.size) (o := .own (s.heap.objs.size + 1)) (h' := s.heap.push PySem.W.emptyDict) (t' := s.toks) (fun b u q => zq8x _ q) (zq3x _) ⟨_, e1⟩
 refine I1.laid (a := s.heap.objs.size + 1) (o := .ins C s.heap.objs.size []) (t' := s.toks) (fun b u q => zq8x _ q) (zq83x (zq51x _ _)) ?_
 have ne : s.heap.objs.size ≠ s.heap.objs.size + 1 := zq13x (zq62x _)
 refine ⟨by rw [upd_ne ne, upd_same], zq37x _, ne, e2, fun _ => none, (Heap.Ns1.of_empty e3).at fun o q => zq8x _ q, fun _ => True.intro, fun y hy => absurd rfl hy⟩
theorem attr_of {prog : Program} {w : World} {env : Env} {e : Expr} {f : Str} {pos : Pos} {s : Shared} {Q : Value -> Shared -> Prop} (hb : attributeBase e f env (eval e env) = eval e env)
  (h : wpAny (model prog w) A (eval e env) (fun o s₁ => wpAny (model prog w) A (getAttr o f true) Q E s₁) E s) : wpAny (model prog w) A (eval (.Attribute e f pos) env) Q E s :=
 Attribute_any_ h (by rw [arm_eval_Attribute, hb])
end
def tFld (K : PySem.W.Frag) (ta : TE) (f : Str) : TE := fun σ H Q => ta σ H fun x H1 => ∃ a C dx fs v, x = .ref a /\ H1 a = some (.ins C dx fs) /\ Cls K C /\ NoAttr K C f /\ fs.lookup f = some v /\ Q v H1
def sFld (K : PySem.W.Frag) (ta tv : TE) (f : Str) : TS := fun D σ H => tv σ H fun y H1 => ta σ H1 fun x H2 => ∃ a C dx fs, x = .ref a /\ H2 a = some (.ins C dx fs) /\ Cls K C /\ NoAttr K C f /\ fs.length < 1000 /\
 D.nx σ (upd H2 a (.ins C dx (putF f y fs)))
section
variable {X : Cx} {o e value : Expr} {f : Str} {pos pos' tpos : Pos} {ta tv : TE}
theorem pe_fld (he : PE X e ta) (hb : attributeBase e f X.env (eval e X.env) = eval e X.env) : PE X (.Attribute e f pos) (tFld X.K ta f) := by
 intro pins s σ H Q I h
 refine attr_of hb (thn (he pins s σ H _ I h) fun u s1 ⟨x, H1, I1, rx, a, C, dx, fs, v, ex, ea, c, n, l, q⟩ => ?_)
 subst ex
 obtain rfl : u = Value.ref a := rx
 exact getattr_ok I1 ea c n l fun u' s2 I2 ru => ⟨v, H1, I2, ru, q⟩
theorem ps_fld (ha : PE X o ta) (hv : PE X value tv) (hs : swapsWith value (some (.Attribute o f pos')) pos.line X.env = pure false) : PS X (.Assign [.Attribute o f pos'] value pos) (sFld X.K ta tv f) := by
 intro pins s σ H D I h
 refine plainObj_wpAny_Assign_Attribute (thn (hv pins s σ H _ I h) fun u s1 ⟨y, H1, I1, ry, q⟩ => thn (ha pins s1 σ H1 _ I1 q) fun ov s2 ⟨x, H2, I2, rx, a, C, dx, fs, ex, ea, c, n, l, q2⟩ => ?_) hs
 subst ex
 obtain rfl : ov = Value.ref a := rx
 exact setattr_ok I2 ea c n l ry fun s3 I3 => ⟨σ, _, I3, q2⟩
theorem methcall_of {pl : Sem Bool} {m : Str} {apos : Pos} {args : List Expr} {pins : List (Addr × Obj)} {s : Shared} {σ : St} {H : Hp} {Q : Value -> Shared -> Prop} {te : TE} (he : PE X e te) (I : Inv X pins σ H s)
  (h : te σ H fun x H1 => ∃ a C dx fs g, x = .ref a /\ H1 a = some (.ins C dx fs) /\ Cls X.K C /\ Meth X.K C m g /\ fs.lookup m = none /\
   ∀ s1, Inv X pins σ H1 s1 -> wpAny (model X.prog X.w) X.A (callWith pos (.ref g) [.ref a] (backTo pos (starEach args X.env)) (backToKw pos (keywordEach [] X.env))) Q X.xe s1)
  (ht : eval (.Call (.Attribute e m apos) args [] pos) X.env = (do
   let ov <- eval e X.env
   standAt apos.atName
   let (f, first) <- holding [ov] (getMethod ov m pl)
   callWith pos f first (backTo pos (starEach args X.env)) (backToKw pos (keywordEach [] X.env)))) :
  wpAny (model X.prog X.w) X.A (eval (.Call (.Attribute e m apos) args [] pos) X.env) Q X.xe s := by
 refine zq97x (pl := pl) (thn (he pins s σ H _ I h) fun u s1 ⟨x, H1, I1, rx, a, C, dx, fs, g, ex, ea, c, k, l, q⟩ => ?_) ht
 subst ex
 obtain rfl : u = Value.ref a := rx
 exact getmeth_ok I1 ea c k l (q s1 I1)
end
section
variable {X : Cx} {pins : List (Addr × Obj)} {σ : St} {H : Hp} {s : Shared} {A : Around} {E : Value -> Shared -> Prop} {Q : Value -> Shared -> Prop} {c : Value} {b : Bool}
inductive TyOf (K : PySem.W.Frag) (H : Hp) : V -> Value -> Prop where
 | non : TyOf K H .non (.type "NoneType")
 | bl (x : Bool) : TyOf K H (.bl x) (.type "bool")
 | int (i : Int) : TyOf K H (.int i) (.type "int")
 | str (x : Str) : TyOf K H (.str x) (.type "str")
 | flt (x : UInt64) : TyOf K H (.flt x) (.type "float")
 | lst {a : Addr} {xs : List V} (e : H a = some (.lst xs)) : TyOf K H (.ref a) (.type "list")
 | frz {a : Addr} {o : Obj} {xs : List V} (e : H a = some (.frz o (.lst xs))) : TyOf K H (.ref a) (.type "list")
 | tup {a : Addr} {xs : List V} (e : H a = some (.tup xs)) : TyOf K H (.ref a) (.type "tuple")
 | dK {a : Addr} {kvs : List (Key × V)} (e : H a = some (.dK kvs)) : TyOf K H (.ref a) (.type "dict")
 | dT {a : Addr} {kvs : List (List Key × V)} (e : H a = some (.dT kvs)) : TyOf K H (.ref a) (.type "dict")
 | fzd {a : Addr} {o : Obj} {kvs : List (Key × V)} (e : H a = some (.frz o (.dK kvs))) : TyOf K H (.ref a) (.type "dict")
 | ins {a C dx : Addr} {fs : List (Str × V)} (e : H a = some (.ins C dx fs)) (cl : Cls K C) (ha : PySem.W.findIn K (.ref C) "__class__" = some (some (.builtin "object.__class__")))
   (hn : PySem.W.specialIn K (.builtin "object.__class__") "__get__" = some (some (.builtin "getset_descriptor.__get__"))) (htk : PySem.W.takesIn K (.builtin "object.__class__") = some true)
   (hm : PySem.W.mroIn K C (.type "object") = some true) : TyOf K H (.ref a) (.ref C)
theorem isinst_ok {x : V} {u t : Value} (I : Inv X pins σ H s) (rx : RelV x u) (ty : TyOf X.K H x t) (e : PySem.W.kitOne X.K t c = some b) (h : ∀ tk, Q (.bool b) { s with toks := tk }) :
    wpAny (model X.prog X.w) A (call (.builtin "isinstance") [u, c]) Q E s := by
  cases ty with
  | non => cases (show u = Value.none from rx); exact zq38x PySem.W.kitx_none I.kIn True.intro e (fun z => nomatch z) h
  | bl y => cases (show u = Value.bool y from rx); exact zq38x PySem.W.kitx_bool I.kIn True.intro e (fun z => nomatch z) h
  | int i => obtain ⟨t, q⟩ := (show ∃ t, u = Value.int i t from rx); cases q; exact zq38x PySem.W.kitx_int I.kIn True.intro e (fun z => nomatch z) h
  | str y => obtain ⟨t, q⟩ := (show ∃ t, u = Value.str y t from rx); cases q; exact zq38x PySem.W.kitx_str I.kIn True.intro e (fun z => nomatch z) h
  | flt y => obtain ⟨t, q⟩ := (show ∃ t, u = Value.float y t from rx); cases q; exact zq38x PySem.W.kitx_float I.kIn True.intro e (fun z => nomatch z) h
  | @lst a xs ea =>
    cases (show u = Value.ref a from rx)
    obtain ⟨_, _, n, _, h1⟩ := (show ObjOk X.prog X.w H s.heap a (.lst xs) from I.hok a _ ea)
    exact zq38x zq116x I.kIn ⟨_, h1, rfl⟩ e (fun z => nomatch z) h
  | @frz a ob xs ea =>
    cases (show u = Value.ref a from rx)
    obtain ⟨_, _, _, n, _, h1⟩ := (show ObjOk X.prog X.w H s.heap a (.frz ob (.lst xs)) from I.hok a _ ea)
    exact zq38x zq116x I.kIn ⟨_, h1, rfl⟩ e (fun z => nomatch z) h
  | @tup a xs ea =>
    cases (show u = Value.ref a from rx)
    obtain ⟨_, _, _, p⟩ := (show ObjOk X.prog X.w H s.heap a (.tup xs) from I.hok a _ ea)
    obtain ⟨o, h1, h2, _⟩ := p
    exact zq38x PySem.W.kitx_tuple I.kIn ⟨o, h1, h2⟩ e (fun z => nomatch z) h
  | @dK a kvs ea =>
    cases (show u = Value.ref a from rx)
    obtain ⟨_, _, vs, _, p⟩ := (show ObjOk X.prog X.w H s.heap a (.dK kvs) from I.hok a _ ea)
    obtain ⟨o, es, ep, h1, h2, _⟩ := p
    exact zq38x zq98x I.kIn ⟨o, h1, h2.1⟩ e (fun z => nomatch z) h
  | @dT a kvs ea =>
    cases (show u = Value.ref a from rx)
    obtain ⟨_, _, xs, _, o, es, ep, h1, h2, _⟩ := (show ObjOk X.prog X.w H s.heap a (.dT kvs) from I.hok a _ ea)
    exact zq38x zq98x I.kIn ⟨o, h1, h2.1⟩ e (fun z => nomatch z) h
  | @fzd a ob kvs ea =>
    cases (show u = Value.ref a from rx)
    obtain ⟨_, _, _, vs, _, o, es, ep, h1, h2, _⟩ := I.hok a _ ea
    exact zq38x zq98x I.kIn ⟨o, h1, h2.1⟩ e (fun z => nomatch z) h
  | @ins a C dx fs ea cl ha hn htk hm =>
    cases (show u = Value.ref a from rx)
    obtain ⟨mA, O, _⟩ := ins_get I.hok ea
    obtain ⟨od, J, _⟩ := O.look
    exact zq38x (PySem.W.kitx_own (cl.get _) cl.hd ha hn htk hm) I.kIn J e (fun z => nomatch z) h
end
structure Room (k : Nat) (A : Around) : Prop where
 hd : A.handled = none
 dp : A.depth + 3 * k + 5 < recursionLimit
 un : A.units + 16 * k + 200 < cLine
theorem Room.mono {j k : Nat} {A : Around} (r : Room k A) (h : j <= k) : Room j A := ⟨r.hd, by have := r.dp; omega, by have := r.un; omega⟩
theorem Room.deeper {k : Nat} {A : Around} (r : Room (k + 1) A) (env : Env) : Room k (A.deeper env) :=
 ⟨r.hd, by have := r.dp; show A.depth + 1 + 3 * k + 5 < _; omega, by have := r.un; show A.units + 3 + 16 * k + 200 < _; omega⟩
theorem make_depth {A : Around} {C : Addr} {us : List Value} {kw : List (Str × Value)} : (A.under (.builtin "type.__call__" ⟨.ref C :: us, kw⟩)).depth = A.depth + 1 := by
 first | rfl | simp [Around.under, Code.weight, Code.isCreation, Code.isGuard, Code.isCaller, Code.frames, Code.isFrame, guardIds]
theorem make_units {A : Around} {C : Addr} {us : List Value} {kw : List (Str × Value)} : (A.under (.builtin "type.__call__" ⟨.ref C :: us, kw⟩)).units = A.units + 1 := by
 first | rfl | simp [Around.under, Code.cUnits, Code.frames, Code.isFrame]
theorem Room.make {k : Nat} {A : Around} (r : Room (k + 1) A) (C : Addr) (us : List Value) (kw : List (Str × Value)) : Room k (A.under (.builtin "type.__call__" ⟨.ref C :: us, kw⟩)) :=
 ⟨r.hd, by have := r.dp; rw [make_depth]; omega, by have := r.un; rw [make_units]; omega⟩
theorem Room.depth {k : Nat} {A : Around} (r : Room k A) : A.depth < recursionLimit := by have := r.dp; omega
theorem Room.units {k : Nat} {A : Around} (r : Room k A) : A.units + 64 < cLine := by have := r.un; omega
def tNil : TA := fun _ H Q => Q [] H
def tCons (ta : TE) (tr : TA) : TA := fun σ H Q => ta σ H fun x H1 => tr σ H1 fun xs H2 => Q (x :: xs) H2
section
variable {X : Cx} {e : Expr} {es : List Expr} {te : TE} {t : TA} {pos : Pos}
theorem pa_nil : PA X [] tNil := fun _ _ _ _ H Q I h => Calls.spliced_nil ⟨[], H, I, .nil, h⟩
theorem pa_cons (ha : PE X e te) (hr : PA X es t) (hs : starEach (e :: es) X.env = (false, eval e X.env) :: starEach es X.env := by rfl) : PA X (e :: es) (tCons te t) := by
 intro pos pins s σ H Q I h
 rw [hs]
 show wpAny _ _ (spliced ((false, eval e X.env) :: backTo pos (starEach es X.env))) _ _ s
 refine Calls.spliced_cons (thn (ha pins s σ H _ I h) fun u s1 ⟨x, H1, I1, r1, q1⟩ => ?_)
 exact thn (hr pos pins s1 σ H1 _ I1 q1) fun us s2 ⟨xs, H2, I2, r2, q2⟩ => ⟨x :: xs, H2, I2, .cons r1 r2, q2⟩
def tTup (t : TA) : TE := fun σ H Q => t σ H fun xs H1 => xs.length <= sizeLine /\ ∀ p, H1 p = none -> Q (.ref p) (upd H1 p (.tup xs))
def tLst (t : TA) : TE := fun σ H Q => t σ H fun xs H1 => xs.length <= sizeLine /\ ∀ p, H1 p = none -> Q (.ref p) (upd H1 p (.lst xs))
theorem pe_tup {x1} (h : PA X es t) : PE X (.Tuple es x1 pos) (tTup t) := by
 intro pins s σ H Q I hq
 refine wpAny_Tuple_spliced (thn (h pos pins s σ H _ I hq) fun us s1 ⟨xs, H1, I1, r, z, q⟩ => ⟨by rw [<- r.length]; exact z, ?_⟩)
 have hf : H1 s1.heap.objs.size = none := I1.hok.fresh (zq3x _)
 refine ⟨.ref s1.heap.objs.size, upd H1 s1.heap.objs.size (.tup xs), I1.laid (t' := s1.toks) (fun b u e => zq8x _ e) (zq3x _) ?_, rfl, q _ hf⟩
 exact ⟨z, us, r, ⟨_, zq28x _ rfl, rfl, _, rfl⟩⟩
theorem pe_lst (h : PA X es t) : PE X (.List es pos) (tLst t) := by
 intro pins s σ H Q I hq
 refine wpAny_List_spliced (thn (h pos pins s σ H _ I hq) fun us s1 ⟨xs, H1, I1, r, z, q⟩ => ⟨by rw [<- r.length]; exact z, ?_⟩)
 have hf : H1 s1.heap.objs.size = none := I1.hok.fresh (zq3x _)
 refine ⟨.ref s1.heap.objs.size, upd H1 s1.heap.objs.size (.lst xs), I1.laid (t' := s1.toks) (fun b u e => zq8x _ e) (zq3x _) ?_, rfl, q _ hf⟩
 exact ⟨z, us, 0, r, zq28x _ rfl⟩
end
abbrev Sp := List V -> Hp -> VK -> XK -> Prop
abbrev CXT := List Env -> Hp -> Shared -> XK -> Value -> Shared -> Prop
structure Env0 (P : Program) (w : World) (K : PySem.W.Frag) (mg : Str -> Option Value) (base : Heap) (A : Around) (outer : List Env) (s : Shared) (H : Hp) : Prop where
 frames : A.frames = some outer
 mod : Mod K mg base
 bs : ∀ b o, base.get? b = some o -> s.heap.get? b = some o /\ H b = none
 bsz : base.objs.size <= s.heap.objs.size
 funs : s.heap.FunFrames base outer
 frf : ∀ b ∈ frs outer, H b = none
 hok : HOk P w H s.heap
 bare : AllBare s.gens
def CE (outer : List Env) (P : Program) (w : World) (H : Hp) (s : Shared) (Q : VK) (u : Value) (s' : Shared) : Prop :=
 ∃ v H', s'.os = s.os /\ AllBare s'.gens /\ Un (frs outer) [] H H' s.heap s'.heap /\ HOk P w H' s'.heap /\ RelV v u /\ Q v H'
def CR (CX : CXT) (outer : List Env) (P : Program) (w : World) (H : Hp) (s : Shared) (Q : VK) (E : XK) (r : Result) (s' : Shared) : Prop :=
 match r with
 | .ok (.ret u) => CE outer P w H s Q u s'
 | .ok _ => False
 | .error e => CX outer H s E e s'
structure FnOk (P : Program) (w : World) (K : PySem.W.Frag) (mg : Str -> Option Value) (base : Heap) (CX : CXT) (k : Nat) (f : Addr) (fd : FuncData) (ps : List Str) (sp : Sp) : Prop where
 len : ∀ vs H Q E, sp vs H Q E -> vs.length = ps.length
 run : ∀ (A : Around) (outer : List Env) (s : Shared) (H : Hp) (args : Args) (us : List Value) (vs : List V) (Q : VK) (E : XK), Room k A -> Env0 P w K mg base A outer s H -> BindsTo s fd args (ps.zip us) -> Vals vs us -> sp vs H Q E ->
  codeAny (model P w) A (.call (.ref f) args) (CR CX outer P w H s Q E) s
theorem Env0.make {P : Program} {w : World} {K : PySem.W.Frag} {mg : Str -> Option Value} {base : Heap} {A : Around} {outer : List Env} {s : Shared} {H : Hp} (e : Env0 P w K mg base A outer s H) (C : Addr) (us : List Value) (kw : List (Str × Value)) :
  Env0 P w K mg base (A.under (.builtin "type.__call__" ⟨.ref C :: us, kw⟩)) outer s H := ⟨by first | exact e.frames | (simpa [Around.under, Code.envs, Code.isFrame, pushEnvs] using e.frames), e.mod, e.bs, e.bsz, e.funs, e.frf, e.hok, e.bare⟩
section
variable {X : Cx} {pins : List (Addr × Obj)} {σ : St} {H : Hp} {s s' : Shared}
theorem Inv.env0 (I : Inv X pins σ H s) : Env0 X.prog X.w X.K X.mg X.base X.A X.stack s H :=
 ⟨I.ok.frames, I.ok.mod, I.bs, zq26x I.ok.bsz I.sz, I.stack, I.stkFree, I.hok, I.bare⟩
theorem Inv.after {Q : VK} {u : Value} (I : Inv X pins σ H s) (h : CE X.stack X.prog X.w H s Q u s') : EP X pins σ Q u s' := by
 obtain ⟨v, H', os, bare, un, hok, r, q⟩ := h
 obtain ⟨hh, g, d, t, os'⟩ := s'
 obtain rfl : os' = s.os := os
 exact ⟨v, H', I.call (h' := hh) (g' := g) (d' := d) (t' := t) (ch := []) un hok bare (fun b z => absurd z (by simp)), r, q⟩
end
def tCall (sp : Sp) (dvs : List V) (E : XK) (t : TA) : TE := fun σ H Q => t σ H fun vs H1 => sp (vs ++ dvs) H1 Q E
def tMeth (C : Addr) (m : Str) (sp : Sp) (dvs : List V) (E : XK) (ta : TE) (t : TA) : TE := fun σ H Q => ta σ H fun x H1 => ∃ a dx fs, x = .ref a /\ H1 a = some (.ins C dx fs) /\ fs.lookup m = none /\
 t σ H1 fun vs H2 => sp (x :: (vs ++ dvs)) H2 Q E
def tMake (C : Addr) (sp : Sp) (dvs : List V) (E : XK) (t : TA) : TE := fun σ H Q => t σ H fun vs H1 => ∀ x dx, H1 x = none -> H1 dx = none -> dx ≠ x ->
 sp (.ref x :: (vs ++ dvs)) (upd (upd H1 dx (.own x)) x (.ins C dx [])) (fun v H2 => v = .non /\ Q (.ref x) H2) E
def Binds (K : PySem.W.Frag) (fd : FuncData) (ps : List Str) (ds : List Value) : Prop :=
 ∀ (s : Shared) (us : List Value), K.In s.heap -> (us ++ ds).length = ps.length -> BindsTo s fd ⟨us, []⟩ (ps.zip (us ++ ds))
theorem Binds.all {K : PySem.W.Frag} {fd : FuncData} {ps : List Str} (h : ∀ us : List Value, us.length = ps.length -> bindArgs fd ⟨us, []⟩ = pure (ps.zip us)) : Binds K fd ps [] := fun s us _ hl => by
 rw [zq30x] at hl ⊢
 exact .of_eq (h us hl)
def Passes (CX : CXT) (X : Cx) (E : XK) : Prop := ∀ (pins : List (Addr × Obj)) (σ : St) (H : Hp) (s : Shared) (e : Value) (s' : Shared), Inv X pins σ H s -> CX X.stack H s E e s' -> X.xe e s'
section
variable {X : Cx} {CX : CXT} {k : Nat} {f C : Addr} {fd : FuncData} {ps : List Str} {sp : Sp} {dvs : List V} {ds : List Value} {E : XK} {x m : Str} {p pos apos : Pos} {e o : Expr} {es : List Expr} {ta : TE} {t : TA}
theorem run_fn {pins : List (Addr × Obj)} {σ : St} {H : Hp} {s : Shared} {Q : VK} {us : List Value} {vs : List V} (F : FnOk X.prog X.w X.K X.mg X.base CX k f fd ps sp) (hr : Room k X.A) (hb : Binds X.K fd ps ds) (hd : Vals dvs ds) (hx : Passes CX X E)
    (I : Inv X pins σ H s) (r : Vals vs us) (h : sp (vs ++ dvs) H Q E) : wpAny (model X.prog X.w) X.A (call (.ref f) us) (EP X pins σ Q) X.xe s := by
  have r2 : Vals (vs ++ dvs) (us ++ ds) := r.append hd
  have hl : (us ++ ds).length = ps.length := by rw [<- r2.length]; exact F.len _ _ _ _ h
  refine wpAny_call (codeAny_mono (F.run X.A X.stack s H ⟨us, []⟩ (us ++ ds) (vs ++ dvs) Q E hr I.env0 (hb s us I.kIn hl) r2 h) fun r s' hq => ?_)
  cases r with
  | error e => exact hx pins σ H s e s' I hq
  | ok fl =>
    cases fl with
    | ret u => exact I.after hq
    | next => exact False.elim hq
    | brk => exact False.elim hq
    | cont => exact False.elim hq
theorem pe_call (F : FnOk X.prog X.w X.K X.mg X.base CX k f fd ps sp) (hr : Room k X.A) (hg : Gl X x) (hm : X.mg x = some (.ref f)) (hk : PySem.W.keepIn X.K (.ref f) = true) (hb : Binds X.K fd ps ds) (hd : Vals dvs ds) (hx : Passes CX X E)
  (ha : PA X (e :: es) t) (hdb : (x == ("__debug__" : Str)) = false := by decide) (he : starEach (e :: es) X.env = (false, eval e X.env) :: starEach es X.env := by rfl) (hpl : (backTo pos (starEach es X.env)).any (·.1) = false := by rfl) :
  PE X (.Call (.Name x p) (e :: es) [] pos) (tCall sp dvs E t) := by
 intro pins s σ H Q I h
 refine wpAny_Call_Name_kw (ld_glob I hg hm ?_ hdb)
 refine zq84x (h₀ := X.base) I.ok.mod.kin hk (thn (ha pos pins s σ H _ I h) fun us s1 ⟨vs, H1, I1, r, q⟩ => ⟨I1.kIn, ?_⟩) he hpl
 exact run_fn F hr hb hd hx I1 r q
theorem pe_meth {pl : Sem Bool} (he : PE X o ta) (c : Cls X.K C) (hm : Meth X.K C m f) (F : FnOk X.prog X.w X.K X.mg X.base CX k f fd ps sp) (hr : Room k X.A) (hb : Binds X.K fd ps ds) (hd : Vals dvs ds) (hx : Passes CX X E) (ha : PA X (e :: es) t)
  (hst : starEach (e :: es) X.env = (false, eval e X.env) :: starEach es X.env := by rfl) (hpl : (backTo pos (starEach es X.env)).any (·.1) = false := by rfl)
  (ht : eval (.Call (.Attribute o m apos) (e :: es) [] pos) X.env = (do
   let ov <- eval o X.env
   standAt apos.atName
   let (f, first) <- holding [ov] (getMethod ov m pl)
   callWith pos f first (backTo pos (starEach (e :: es) X.env)) (backToKw pos (keywordEach [] X.env))) := by rfl) :
  PE X (.Call (.Attribute o m apos) (e :: es) [] pos) (tMeth C m sp dvs E ta t) := by
 intro pins s σ H Q I h
 refine zq97x (pl := pl) (thn (he pins s σ H _ I h) fun u s1 ⟨x, H1, I1, rx, a, dx, fs, ex, ea, l, q⟩ => ?_) ht
 subst ex
 obtain rfl : u = Value.ref a := rx
 refine getmeth_ok I1 ea c hm l ?_
 refine zq84x (first := [.ref a]) (h₀ := X.base) I.ok.mod.kin hm.kp (thn (ha pos pins s1 σ H1 _ I1 q) fun us s2 ⟨vs, H2, I2, r, q2⟩ => ⟨I2.kIn, ?_⟩) hst hpl
 exact run_fn (us := .ref a :: us) (vs := .ref a :: vs) F hr hb hd hx I2 (.cons rfl r) q2
theorem pe_meth0 {pl : Sem Bool} (he : PE X o ta) (c : Cls X.K C) (hm : Meth X.K C m f) (F : FnOk X.prog X.w X.K X.mg X.base CX k f fd ps sp) (hr : Room k X.A) (hb : Binds X.K fd ps ds) (hd : Vals dvs ds) (hx : Passes CX X E)
  (ht : eval (.Call (.Attribute o m apos) [] [] pos) X.env = (do
   let ov <- eval o X.env
   standAt apos.atName
   let (f, first) <- holding [ov] (getMethod ov m pl)
   callWith pos f first (backTo pos (starEach [] X.env)) (backToKw pos (keywordEach [] X.env))) := by rfl) :
  PE X (.Call (.Attribute o m apos) [] [] pos) (tMeth C m sp dvs E ta tNil) := by
 intro pins s σ H Q I h
 refine zq97x (pl := pl) (thn (he pins s σ H _ I h) fun u s1 ⟨x, H1, I1, rx, a, dx, fs, ex, ea, l, q⟩ => ?_) ht
 subst ex
 obtain rfl : u = Value.ref a := rx
 refine getmeth_ok I1 ea c hm l ?_
 exact PySem.W.callWith_K0 (first := [.ref a]) I1.kIn hm.kp (run_fn (us := [.ref a]) (vs := [.ref a]) F hr hb hd hx I1 (.cons rfl .nil) q)
structure Mk (K : PySem.W.Frag) (C f : Addr) : Prop where
 makes : PySem.W.makesIn K C = true
 init : PySem.W.findIn K (.ref C) "__init__" = some (some (.ref f))
 fn : PySem.W.isFn K (.ref f) = true
 kp : PySem.W.keepIn K (.ref C) = true
theorem run_make {pins : List (Addr × Obj)} {σ : St} {H : Hp} {s : Shared} {Q : VK} {us : List Value} {vs : List V} (M : Mk X.K C f) (F : FnOk X.prog X.w X.K X.mg X.base CX k f fd ps sp) (hr : Room (k + 1) X.A) (hb : Binds X.K fd ps ds) (hd : Vals dvs ds)
    (hx : Passes CX X E) (I : Inv X pins σ H s) (r : Vals vs us)
    (h : ∀ x dx, H x = none -> H dx = none -> dx ≠ x -> sp (.ref x :: (vs ++ dvs)) (upd (upd H dx (.own x)) x (.ins C dx [])) (fun v H2 => v = .non /\ Q (.ref x) H2) E) :
    wpAny (model X.prog X.w) X.A (call (.ref C) us) (EP X pins σ Q) X.xe s := by
  have hq := h (s.heap.objs.size + 1) s.heap.objs.size (I.hok.fresh (zq71x _)) (I.hok.fresh (zq3x _)) (zq13x (zq62x _))
  have I2 := Inv.made (C := C) I
  have r2 : Vals (V.ref (s.heap.objs.size + 1) :: (vs ++ dvs)) (Value.ref (s.heap.objs.size + 1) :: (us ++ ds)) := .cons rfl (r.append hd)
  have hl : (Value.ref (s.heap.objs.size + 1) :: us ++ ds).length = ps.length := by
    have e := r2.length
    rw [F.len _ _ _ _ hq] at e
    exact e.symm
  refine wpAny_call (make_map (f := f) I.kIn M.makes M.init (beq_iff_eq.mp M.fn) (codeAny_mono (F.run _ X.stack _ _ ⟨Value.ref (s.heap.objs.size + 1) :: us, []⟩ (Value.ref (s.heap.objs.size + 1) :: (us ++ ds)) _ _ E (hr.make C us [])
    (I2.env0.make C us []) (hb _ (Value.ref (s.heap.objs.size + 1) :: us) I2.kIn hl) r2 hq) fun r s' hq' => ?_))
  cases r with
  | error e => exact hx pins σ _ _ e s' I2 hq'
  | ok fl =>
    cases fl with
    | ret u =>
      obtain ⟨v, H', I3, rv, ev, q3⟩ := I2.after hq'
      subst ev
      exact ⟨rv, ⟨V.ref (s.heap.objs.size + 1), H', I3, rfl, q3⟩⟩
    | next => exact False.elim hq'
    | brk => exact False.elim hq'
    | cont => exact False.elim hq'
theorem pe_make (M : Mk X.K C f) (F : FnOk X.prog X.w X.K X.mg X.base CX k f fd ps sp) (hr : Room (k + 1) X.A) (hg : Gl X x) (hm : X.mg x = some (.ref C)) (hb : Binds X.K fd ps ds) (hd : Vals dvs ds) (hx : Passes CX X E)
  (ha : PA X (e :: es) t) (hdb : (x == ("__debug__" : Str)) = false := by decide) (he : starEach (e :: es) X.env = (false, eval e X.env) :: starEach es X.env := by rfl) (hpl : (backTo pos (starEach es X.env)).any (·.1) = false := by rfl) :
  PE X (.Call (.Name x p) (e :: es) [] pos) (tMake C sp dvs E t) := by
 intro pins s σ H Q I h
 refine wpAny_Call_Name_kw (ld_glob I hg hm ?_ hdb)
 refine zq84x (h₀ := X.base) I.ok.mod.kin M.kp (thn (ha pos pins s σ H _ I h) fun us s1 ⟨vs, H1, I1, r, q⟩ => ⟨I1.kIn, ?_⟩) he hpl
 exact run_make M F hr hb hd hx I1 r q
end
structure FnScope (N P : List Str) (sc : Scope) : Prop where
 kind : sc.kind = .function
 co : sc.isCoroutine = false
 gen : sc.isGenerator = false
 nd : N.Nodup
 pre : N.take P.length = P
 par : ∀ x ∈ P, sc.names.lookup x = some .local \/ sc.names.lookup x = some .cell
 nofree : ∀ y ∈ sc.names, y.2 ≠ .free
theorem bindL_out {kindOf : Str -> Option NameKind} {x : Str} : ∀ {binds : List (Str × Value)} {m : Str -> Option Value}, (∀ v, (x, v) ∉ binds) -> bindL kindOf binds m x = m x
  | [], _, _ => rfl
  | (n, v) :: r, m, h => by
    unfold bindL
    rw [bindL_out fun w hw => h w (zq12x _ hw)]
    split
    · have : x ≠ n := by rintro rfl; exact h v zq20x
      simp [this]
    · rfl
theorem bindC_out {kindOf : Str -> Option NameKind} {x : Str} : ∀ {binds : List (Str × Value)} {m : Str -> Option Value}, (∀ v, (x, v) ∉ binds) -> bindC kindOf binds m x = m x
  | [], _, _ => rfl
  | (n, v) :: r, m, h => by
    unfold bindC
    rw [bindC_out fun w hw => h w (zq12x _ hw)]
    split
    · rfl
    · have : x ≠ n := by rintro rfl; exact h v zq20x
      simp [this]
theorem bindL_get {kindOf : Str -> Option NameKind} {x : Str} {v : Value} : ∀ {P : List Str} {vs : List Value} {i : Nat} {m : Str -> Option Value}, P.Nodup -> P[i]? = some x -> vs[i]? = some v -> kindOf x = some .local ->
    bindL kindOf (P.zip vs) m x = some v
  | [], _, _, _, _, h, _, _ => by simp at h
  | _ :: _, [], _, _, _, _, h, _ => by simp at h
  | p :: P, w :: vs, 0, m, nd, h1, h2, hk => by
    simp at h1 h2; subst h1; subst h2
    show bindL kindOf ((p, w) :: P.zip vs) m p = _
    unfold bindL
    rw [bindL_out fun v hv => (zq43x.mp nd).1 (zq117x hv).1, if_pos hk]
    simp
  | p :: P, w :: vs, i + 1, m, nd, h1, h2, hk => by
    show bindL kindOf ((p, w) :: P.zip vs) m x = _
    unfold bindL
    exact bindL_get (i := i) (zq43x.mp nd).2 (by simpa using h1) (by simpa using h2) hk
theorem bindC_get {kindOf : Str -> Option NameKind} {x : Str} {v : Value} : ∀ {P : List Str} {vs : List Value} {i : Nat} {m : Str -> Option Value}, P.Nodup -> P[i]? = some x -> vs[i]? = some v -> kindOf x ≠ some .local ->
    bindC kindOf (P.zip vs) m x = some v
  | [], _, _, _, _, h, _, _ => by simp at h
  | _ :: _, [], _, _, _, _, h, _ => by simp at h
  | p :: P, w :: vs, 0, m, nd, h1, h2, hk => by
    simp at h1 h2; subst h1; subst h2
    show bindC kindOf ((p, w) :: P.zip vs) m p = _
    unfold bindC
    rw [bindC_out fun v hv => (zq43x.mp nd).1 (zq117x hv).1, if_neg hk]
    simp
  | p :: P, w :: vs, i + 1, m, nd, h1, h2, hk => by
    show bindC kindOf ((p, w) :: P.zip vs) m x = _
    unfold bindC
    exact bindC_get (i := i) (zq43x.mp nd).2 (by simpa using h1) (by simpa using h2) hk
def start (N : List Str) (vs : List V) : St := vs.map some ++ List.replicate (N.length - vs.length) none
def cxOf (CX : CXT) (P : Program) (w : World) (K : PySem.W.Frag) (mg : Str -> Option Value) (base : Heap) (N : List Str) (qual : Str) (scope : Scope) (f : Addr) (cd : Value) (A : Around) (outer : List Env) (s : Shared) (H : Hp) (E : XK) : Cx where
 prog := P
 w := w
 K := K
 mg := mg
 base := base
 A := A.deeper (envOfC qual scope s.heap.objs.size f cd)
 N := N
 s₀ := s
 H₀ := H
 env := envOfC qual scope s.heap.objs.size f cd
 outer := outer
 stack := envOfC qual scope s.heap.objs.size f cd :: outer
 ex := []
 calm := true
 fn := fun _ => true
 pn := []
 xe := fun e s' => wpAny (model P w) (A.deeper (envOfC qual scope s.heap.objs.size f cd)) (leaving (envOfC qual scope s.heap.objs.size f cd) e) (fun _ s'' => CX outer H s E e s'') (fun e' s'' => CX outer H s E e' s'') s'
theorem cell_has {sc : Scope} {n : Nat} {x : Str} (h : sc.names.lookup x = some .cell) : ∃ c, (cellsFrom n sc.names []).lookup x = some c := by
 have q := zq144x sc.names n [] (.inl h)
 exact zq145x.mp q
theorem inv_start {CX : CXT} {P : Program} {w : World} {K : PySem.W.Frag} {mg : Str -> Option Value} {base : Heap} {N ps : List Str} {qual : Str} {scope : Scope} {f : Addr} {cd : Value} {A : Around} {outer : List Env} {s s1 : Shared} {H : Hp} {E : XK} {us : List Value} {vs : List V}
  (S : FnScope N ps scope) (hd : A.handled = none) (e0 : Env0 P w K mg base A outer s H) (hl : vs.length = ps.length) (r : Vals vs us)
  (x : InCallC s s.heap.objs.size (bindL (envOfC qual scope s.heap.objs.size f cd).kindOf (ps.zip us) fun _ => none) (cellsFrom (s.heap.objs.size + 1) scope.names []) (bindC (envOfC qual scope s.heap.objs.size f cd).kindOf (ps.zip us) fun _ => none) s1) :
  Inv (cxOf CX P w K mg base N qual scope f cd A outer s H E) [] (start N vs) H s1 := by
 have hpl : ps.length <= N.length := by have := congrArg List.length S.pre; rw [zq85x] at this; omega
 obtain ⟨h1, tk, rfl, hk⟩ := x.done
 have noA : ∀ b : Addr, b ∉ (cxOf CX P w K mg base N qual scope f cd A outer s H E).ex := fun b z => absurd (show b ∈ ([] : List Addr) from z) (by simp)
 refine ⟨⟨e0.mod, S.kind, rfl, rfl, zq3x _, fun y z c h1 h2 => ?_, fun y hy => ?_, fun y c _ h => ?_, fun _ => hd, Around.frames_deeper e0.frames, .inr ⟨rfl, rfl⟩, fun b z => absurd z (noA b), e0.bs, e0.bsz, fun b _ _ => noA b, fun b z => absurd z (noA b), e0.funs, e0.frf⟩,
  rfl, e0.bare, Un.kept hk, ⟨_, x.toInCall.ns, fun i y v h1 h2 h3 => ?_⟩, fun y c h => ⟨_, x.cell y c h⟩, e0.hok.fresh (zq3x _), fun y c h => ?_, fun p hp => absurd (show p ∈ ([] : List (Addr × Obj)) from hp) (by simp), e0.hok.kept hk, ?_⟩
 ·exact name_of_addr x.apart (zq63x h1) (zq63x h2)
 ·have hy : scope.names.lookup y = some .cell \/ scope.names.lookup y = some .free := hy
  rcases hy with hy | hy
  ·exact cell_has hy
  ·exact absurd rfl (S.nofree _ (zq63x hy))
 ·exact zq49x (x.above y c (zq63x h))
 ·have hi : i < vs.length := by
   unfold start at h2
   by_cases hi : i < vs.length
   ·exact hi
   ·rw [zq15x (by simpa using hi)] at h2
    rw [zq22x] at h2
    split at h2 <;> cases h2
  have ha : vs[i]? = some v := by
   unfold start at h2
   rw [zq19x (by simpa using hi), zq16x] at h2
   cases e : vs[i]? with
   | none => rw [e] at h2; cases h2
   | some a => rw [e] at h2; cases h2; rfl
  obtain ⟨u, hu, rv⟩ := r.get ha
  have hp : ps[i]? = some y := by
   rw [<- S.pre, zq146x (by omega)]; exact h1
  have ndP : ps.Nodup := by rw [<- S.pre]; exact S.nd.sublist (List.take_sublist _ _)
  refine ⟨u, rv, ?_⟩
  rcases S.par y (zq72x hp) with k | k
  ·exact .inl ⟨k, bindL_get ndP hp hu k⟩
  ·obtain ⟨c, e⟩ := cell_has (n := s.heap.objs.size + 1) k
   refine .inr ⟨.inl k, c, e, ?_⟩
   have q := x.cell y c e
   rw [bindC_get ndP hp hu (by show scope.names.lookup y ≠ _; rw [k]; decide)] at q
   exact q
 ·exact e0.hok.fresh (zq49x (x.above y c (zq63x h)))
 ·unfold start
  show _ = N.length
  rw [zq39x, zq0x, List.length_replicate]
  omega
theorem fn_of {CX : CXT} {P : Program} {w : World} {K : PySem.W.Frag} {mg : Str -> Option Value} {base : Heap} {k : Nat} {f : Addr} {name qual : Str} {params : Arguments} {body : List Stmt} {scope : Scope} {dV kV doc pm cdv ct oc : Value} {an od : Option Addr}
    {osl : Array (Option Value)} {N ps : List Str} {sp : Sp} (lk : K.lookup f = some ⟨oc, od, .func (PySem.W.fnOf name qual params body scope dV kV doc pm an cdv ct), osl⟩) (hcd : PySem.W.codeIn K cdv qual = true) (S : FnScope N ps scope)
    (len : ∀ vs H Q E, sp vs H Q E -> vs.length = ps.length)
    (hbody : ∀ (A : Around) (outer : List Env) (s : Shared) (H : Hp) (vs : List V) (Q : VK) (E : XK), Room k (A.deeper (envOfC qual scope s.heap.objs.size f cdv)) -> sp vs H Q E ->
      ∃ t, PSs (cxOf CX P w K mg base N qual scope f cdv A outer s H E) body t /\ t { nx := fun _ H' => Q .non H', rt := Q } (start N vs) H) :
    FnOk P w K mg base CX (k + 1) f (PySem.W.fnOf name qual params body scope dV kV doc pm an cdv ct) ps sp := by
  refine ⟨len, fun A outer s H args us vs Q E hr e0 hb r hsp => ?_⟩
  have hl := len _ _ _ _ hsp
  have KX : K.In s.heap := e0.mod.kin.keeps fun b o e => (e0.bs b o e).1
  have lim : s.heap.NoLimit := e0.mod.nolimit.keeps fun b o e => (e0.bs b o e).1
  have hkind : ∀ y ∈ ps.zip us, scope.names.lookup y.1 = some .local \/ (scope.names.lookup y.1 = some .cell /\ ((cellsFrom (s.heap.objs.size + 1) scope.names []).lookup y.1).isSome = true) := fun ⟨n, v⟩ hy => by
    rcases S.par n (zq117x hy).1 with q | q
    · exact .inl q
    · exact .inr ⟨q, zq144x _ _ _ (.inl q)⟩
  refine codeAny_call_function hr.depth (KX _ _ lk) rfl S.co S.gen rfl (PySem.W.codeRec_of KX hcd) (hb _ _ _ _ ?_)
  refine wpAny_newFunctionEnv_cells S.kind hkind fun env he s1 x => ?_
  subst he
  refine ⟨lim.keeps x.toInCall.keep, codeAny_func ?_⟩
  obtain ⟨t, ht, hq⟩ := hbody A outer s H vs Q E (hr.deeper _) hsp
  have I : Inv (cxOf CX P w K mg base N qual scope f cdv A outer s H E) [] (start N vs) H s1 := inv_start S hr.hd e0 hl r x
  refine wpAny_mono (ht [] s1 (start N vs) H _ I hq) (fun fl s' hs => ?_) fun e s' hs => hs
  have fin : ∀ {σ' : St} {H' : Hp} {v : V} {u : Value}, Inv (cxOf CX P w K mg base N qual scope f cdv A outer s H E) [] σ' H' s' -> RelV v u -> Q v H' -> CE outer P w H s Q u s' :=
    fun {σ' H' v u} J rv q => ⟨v, H', J.os, J.bare, J.base, J.hok, rv, q⟩
  cases fl with
  | ret u =>
    obtain ⟨v, σ', H', J, rv, q⟩ := hs
    exact fin J rv q
  | next =>
    obtain ⟨σ', H', J, q⟩ := hs
    exact fin (v := V.non) (u := Value.none) J rfl q
  | brk =>
    obtain ⟨_, _, _, q⟩ := hs
    exact False.elim q
  | cont =>
    obtain ⟨_, _, _, q⟩ := hs
    exact False.elim q
section
variable {X : Cx} {x : Str} {p pos : Pos} {e : Expr} {es : List Expr} {t : TA} {id T : String} {r : List V -> Hp -> VK -> Prop}
def tCB (r : List V -> Hp -> VK -> Prop) (t : TA) : TE := fun σ H Q => t σ H fun vs H1 => r vs H1 Q
theorem pe_callB (hc : CallR X (.builtin id) r) (hg : Gl X x) (hm : X.mg x = none) (hv : bootBuiltins x = some (.builtin id)) (ha : PA X (e :: es) t) (hn : x ≠ "__name__" := by decide) (hdb : (x == ("__debug__" : Str)) = false := by decide)
  (he : starEach (e :: es) X.env = (false, eval e X.env) :: starEach es X.env := by rfl) (hpl : (backTo pos (starEach es X.env)).any (·.1) = false := by rfl) : PE X (.Call (.Name x p) (e :: es) [] pos) (tCB r t) := by
 intro pins s σ H Q I h
 refine wpAny_Call_Name_kw (ld_blt I hg hm hv ?_ hn hdb)
 exact PyProof.Rows.callWith_builtin1 (thn (ha pos pins s σ H _ I h) fun us s1 ⟨vs, H1, I1, r1, q1⟩ => hc pins s1 σ H1 vs us Q I1 r1 q1) he hpl
theorem pe_callTy (hc : CallR X (.type T) r) (hg : Gl X x) (hm : X.mg x = none) (hv : bootBuiltins x = some (.type T)) (ha : PA X (e :: es) t) (hn : x ≠ "__name__" := by decide) (hdb : (x == ("__debug__" : Str)) = false := by decide)
  (he : starEach (e :: es) X.env = (false, eval e X.env) :: starEach es X.env := by rfl) (hpl : (backTo pos (starEach es X.env)).any (·.1) = false := by rfl) : PE X (.Call (.Name x p) (e :: es) [] pos) (tCB r t) := by
 intro pins s σ H Q I h
 refine wpAny_Call_Name_kw (ld_blt I hg hm hv ?_ hn hdb)
 exact zq95x (thn (ha pos pins s σ H _ I h) fun us s1 ⟨vs, H1, I1, r1, q1⟩ => hc pins s1 σ H1 vs us Q I1 r1 q1) he hpl
end
end L2
namespace HT
open PySem PyProof.Rows
section
open PySem.SeqAt
open PySem.AutoSeq1 (wpAny_loadPart')
open PySem.MeetsSeq PySem.MeetsSeq2 PySem.MeetsSeq3
end
section
variable {prog : Program} {w : World} {A : Around} {E : Value -> Shared -> Prop} {s : Shared}
def sIx (n d : Nat) : Option Int -> Nat
 | none => d
 | some v => if v < 0 then (v + (n : Int)).toNat else min v.toNat n
end
end HT
namespace L2
open PySem PySem.Spec PyProof.Rows
abbrev TO := St -> Hp -> (Option Int -> Hp -> Prop) -> Prop
def PO (X : Cx) (e : Option Expr) (t : TO) : Prop :=
 ∀ (pins : List (Addr × Obj)) (s : Shared) (σ : St) (H : Hp) (Q : Option Int -> Hp -> Prop), Inv X pins σ H s -> t σ H Q ->
  wpAny (model X.prog X.w) X.A (evalPart e X.env) (fun u s' => ∃ o H', Inv X pins σ H' s' /\ IsPart u o /\ Q o H') X.xe s
def tNoPart : TO := fun _ H Q => Q none H
def tPart (t : TE) : TO := fun σ H Q => t σ H fun x H1 => ∃ i, x = .int i /\ Q (some i) H1
section
variable {X : Cx} {e : Expr} {te : TE} {lo hi : Option Expr} {tl th : TO} {pos p2 : Pos}
theorem po_none : PO X none tNoPart := by
 intro pins s σ H Q I h
 rw [evalPart_none]
 exact wpAny_pure ⟨none, H, I, .none, h⟩
theorem po_some (h : PE X e te) : PO X (some e) (tPart te) := by
 intro pins s σ H Q I hw
 rw [evalPart_some]
 refine thn (h pins s σ H _ I hw) fun u s1 ⟨x, H1, I1, r1, q1⟩ => ?_
 obtain ⟨i, rfl, q⟩ := q1
 obtain ⟨t, rfl⟩ := r1
 exact ⟨some i, H1, I1, .int i t, q⟩
def SlR (X : Cx) (r : V -> Option Int -> Option Int -> Hp -> VK -> Prop) : Prop :=
 ∀ (pins : List (Addr × Obj)) (s : Shared) (σ : St) (H : Hp) (x : V) (v vl vu : Value) (lo hi : Option Int) (sl : Addr) (Q : VK), Inv X pins σ H s -> RelV x v -> s.heap.IsSliceOf sl vl vu .none -> IsPart vl lo -> IsPart vu hi -> r x lo hi H Q ->
  ∃ T id, typeLookup (.type T) "__getitem__" = pure (some (.builtin id)) /\ s.TypeIs v T /\ wpAny (model X.prog X.w) X.A (getItem v (.ref sl)) (EP X pins σ Q) X.xe s
def tSl (r : V -> Option Int -> Option Int -> Hp -> VK -> Prop) (te : TE) (tl th : TO) : TE := fun σ H Q => te σ H fun x H1 => tl σ H1 fun l H2 => th σ H2 fun u H3 => r x l u H3 Q
theorem pe_slice {r : V -> Option Int -> Option Int -> Hp -> VK -> Prop} (hr : SlR X r) (he : PE X e te) (hl : PO X lo tl) (hu : PO X hi th) : PE X (.Subscript e (.Slice lo hi none p2) pos) (tSl r te tl th) := by
 intro pins s σ H Q I h
 refine Subscript_ (thn (he pins s σ H _ I h) fun v s1 ⟨x, H1, I1, r1, q1⟩ => ?_)
 refine wpAny_Slice (thn (hl pins s1 σ H1 _ I1 q1) fun vl s2 ⟨l, H2, I2, pl, q2⟩ => thn (hu pins s2 σ H2 _ I2 q2) fun vu s3 ⟨u, H3, I3, pu, q3⟩ => ?_)
 rw [evalPart_none]
 refine wpAny_pure ?_
 have I4 : Inv X pins σ H3 { s3 with heap := s3.heap.push { cls := .type "slice", data := .fields #[vl, vu, .none] } } := I3.kept (t' := s3.toks) fun b ob q => zq8x _ q
 obtain ⟨T, id, hT, ht, hg⟩ := hr pins { s3 with heap := s3.heap.push { cls := .type "slice", data := .fields #[vl, vu, .none] } } σ H3 x v vl vu l u s3.heap.objs.size Q I4 r1 (Heap.IsSliceOf.new ..) pl pu q3
 show wpAny (model X.prog X.w) X.A (subscriptTail e (.Slice lo hi none p2) v (.ref s3.heap.objs.size)) (EP X pins σ Q) X.xe { s3 with heap := s3.heap.push { cls := .type "slice", data := .fields #[vl, vu, .none] } }
 exact tail_any (ops := [.ref s3.heap.objs.size, v]) ht hT hg (by with_unfolding_all rfl)
def cutV (xs : List V) (lo hi : Option Int) : List V := (xs.drop (HT.sIx xs.length 0 lo)).take (HT.sIx xs.length xs.length hi - HT.sIx xs.length 0 lo)
theorem cutV_length (xs : List V) (lo hi : Option Int) : (cutV xs lo hi).length <= xs.length := by
 unfold cutV
 rw [zq85x, List.length_drop]
 omega
def rSlT (K : PySem.W.Frag) : V -> Option Int -> Option Int -> Hp -> VK -> Prop := fun x lo hi H Q => ∃ a xs, x = .ref a /\ SqT K H a xs /\
 ¬ (HT.sIx xs.length 0 lo = 0 /\ HT.sIx xs.length xs.length hi = xs.length) /\ ∀ p, H p = none -> Q (.ref p) (upd H p (.tup (cutV xs lo hi)))
def rCatT (K : PySem.W.Frag) : R2 := fun x y H Q => ∃ a b xs ys, x = .ref a /\ y = .ref b /\ SqT K H a xs /\ SqT K H b ys /\ xs ≠ [] /\ xs.length + ys.length <= sizeLine /\
 (ys = [] -> Q (.ref a) H) /\ (ys ≠ [] -> ∀ p, H p = none -> Q (.ref p) (upd H p (.tup (xs ++ ys))))
end
def ixN (n : Nat) (i : Int) : Option Nat := if 0 <= i then (if i < n then some i.toNat else none) else if -(n : Int) <= i then some (i + n).toNat else none
def atI {α : Type} (xs : List α) (i : Int) : Option α := (ixN xs.length i).bind fun j => xs[j]?
theorem ixN_seq {n : Nat} {i : Int} {j : Nat} (h : ixN n i = some j) : seqIndex? i n = some j /\ j < n /\ -(n : Int) <= i /\ i < n := by
 unfold ixN at h
 by_cases h0 : 0 <= i
 ·rw [if_pos h0] at h
  by_cases h1 : i < n
  ·rw [if_pos h1] at h
   have e : i.toNat = j := zq31x h
   exact ⟨by rw [seqIndex_of h0 h1, e], by omega, by omega, h1⟩
  ·rw [if_neg h1] at h; cases h
 ·rw [if_neg h0] at h
  by_cases h1 : -(n : Int) <= i
  ·rw [if_pos h1] at h
   have e : (i + n).toNat = j := zq31x h
   exact ⟨by rw [seqIndex_neg (by omega) h1, e], by omega, h1, by omega⟩
  ·rw [if_neg h1] at h; cases h
theorem atI_get {α : Type} {xs : List α} {i : Int} {v : α} (h : atI xs i = some v) : ∃ j, seqIndex? i xs.length = some j /\ xs[j]? = some v /\ j < xs.length /\ -(xs.length : Int) <= i /\ i < xs.length := by
  unfold atI at h
  cases e : ixN xs.length i with
  | none => rw [e] at h; cases h
  | some j =>
    rw [e] at h
    obtain ⟨h1, h2, h3, h4⟩ := ixN_seq e
    exact ⟨j, h1, h, h2, h3, h4⟩
theorem atI_nat {α : Type} {xs : List α} {j : Nat} {v : α} (h : xs[j]? = some v) : atI xs (j : Int) = some v := by
 have hj : j < xs.length := (zq18x.mp h).1
 have e : ixN xs.length (j : Int) = some j := by
  unfold ixN
  rw [if_pos (by omega), if_pos (by omega)]; simp
 unfold atI; rw [e]; exact h
def PlainIx (b : Expr) : Prop := ∀ o i, subscripted b false o i = operate [o, i] (getItem o i)
def IxR (X : Cx) (r : R2) : Prop :=
 ∀ (value slice : Expr) (pins : List (Addr × Obj)) (s : Shared) (σ : St) (H : Hp) (x y : V) (v u : Value) (Q : VK), Inv X pins σ H s -> RelV x v -> RelV y u -> r x y H Q ->
  subscripted slice false v u = operate [v, u] (getItem v u) -> wpAny (model X.prog X.w) X.A (subscriptTail value slice v u) (EP X pins σ Q) X.xe s
def MtR (X : Cx) (id : String) (r : V -> List V -> Hp -> VK -> Prop) : Prop :=
 ∀ (pins : List (Addr × Obj)) (s : Shared) (σ : St) (H : Hp) (x : V) (xs : List V) (v : Value) (us : List Value) (Q : VK), Inv X pins σ H s -> RelV x v -> Vals xs us -> r x xs H Q ->
  wpAny (model X.prog X.w) X.A (call (.builtin id) (v :: us)) (EP X pins σ Q) X.xe s
section
variable {X : Cx} {a b : Expr} {ta tb : TE} {pos : Pos}
theorem IxR.or {r r' : R2} (h : IxR X r) (h' : IxR X r') : IxR X (fun x y H Q => r x y H Q \/ r' x y H Q) := by
 intro value slice pins s σ H x y v u Q I rx ry q hs
 rcases q with q | q
 ·exact h value slice pins s σ H x y v u Q I rx ry q hs
 ·exact h' value slice pins s σ H x y v u Q I rx ry q hs
theorem pe_ix {r : R2} (hr : IxR X r) (ha : PE X a ta) (hb : PE X b tb) (hs : PlainIx b) : PE X (.Subscript a b pos) (tOp r ta tb) := by
 intro pins s σ H Q I h
 exact Subscript_ (binT ha hb I h fun v u s2 x y H2 I2 rx ry q => hr a b pins s2 σ H2 x y v u Q I2 rx ry q (hs _ _))
def rIxL (K : PySem.W.Frag) : R2 := fun x y H Q => ∃ p xs i v, x = .ref p /\ y = .int i /\ SqL K H p xs /\ atI xs i = some v /\ Q v H
def rIxT (K : PySem.W.Frag) : R2 := fun x y H Q => ∃ p xs i v, x = .ref p /\ y = .int i /\ SqT K H p xs /\ atI xs i = some v /\ Q v H
def rIxS : R2 := fun x y H Q => ∃ z i c, x = .str z /\ y = .int i /\ z.length <= sizeLine /\ atI z.cps.toList i = some c /\ Q (.str ⟨#[c]⟩) H
theorem ix_list : IxR X (rIxL X.K) := by
 intro value slice pins s σ H x y v u Q I rx ry h hs
 obtain ⟨p, xs, i, z, rfl, rfl, hq, he, q⟩ := h
 cases rx
 obtain ⟨t, rfl⟩ := ry
 obtain ⟨its, r, pl, hz⟩ := I.list hq
 obtain ⟨j, h1, h2, h3, h4, h5⟩ := atI_get he
 obtain ⟨w, ew, rw'⟩ := r.get h2
 have hl := r.length
 have hn := line63
 have fin : EP X pins σ Q w s := ⟨z, H, I, rw', q⟩
 by_cases h0 : 0 <= i
 ·have hj : i.toNat = j := by
   rw [seqIndex_of h0 h5] at h1
   exact zq31x h1
  exact item_listR pl.isList h0 (by omega) (by rw [hj]; simpa using ew) fin hs
 ·have hj : (i + (its.toArray.size : Int)).toNat = j := by
   rw [seqIndex_neg (by omega) h4] at h1
   rw [zq14x, <- hl]
   exact zq31x h1
  exact subscriptTail_builtinR (x := w) pl.isList.typeIs slot_list_getitem.lookup
   (wpAny_getItem_list_neg (Q := fun r s' => r = w /\ EP X pins σ Q r s') pl.isList (by omega) (by rw [zq14x] <;> omega) (by omega) (by rw [hj]; simpa using ew) ⟨rfl, fin⟩) hs
theorem ix_tup : IxR X (rIxT X.K) := by
 intro value slice pins s σ H x y v u Q I rx ry h hs
 obtain ⟨p, xs, i, z, rfl, rfl, hq, he, q⟩ := h
 cases rx
 obtain ⟨t, rfl⟩ := ry
 obtain ⟨its, r, pl, hz⟩ := I.tuple hq
 obtain ⟨j, h1, h2, h3, h4, h5⟩ := atI_get he
 obtain ⟨w, ew, rw'⟩ := r.get h2
 have hl := r.length
 have hn := line63
 have fin : EP X pins σ Q w s := ⟨z, H, I, rw', q⟩
 exact subscriptTail_builtinR (x := w) pl.typeIs slot_tuple_getitem.lookup
  (getItem_tuple (j := j) (Q := fun r s' => r = w /\ EP X pins σ Q r s') pl (by omega) (by omega) (by rw [zq14x, <- hl]; exact h1) (by simpa using ew) ⟨rfl, fin⟩) hs
theorem ix_str : IxR X rIxS := by
 intro value slice pins s σ H x y v u Q I rx ry h hs
 obtain ⟨z, i, c, rfl, rfl, hz, he, q⟩ := h
 obtain ⟨t, rfl⟩ := rx
 obtain ⟨t', rfl⟩ := ry
 obtain ⟨j, h1, h2, h3, h4, h5⟩ := atI_get he
 have hl : z.cps.toList.length = z.length := by simp [Str.length]
 rw [hl] at h1 h4 h5
 have hn := line63
 exact tail_any (typeIs_str s z t) slot_str_getitem.lookup (getItem_str (c := c) (by
  have e1 : decide (i < -(2 ^ 63 : Int)) = false := decide_eq_false (by omega)
  have e2 : decide (i ≥ 2 ^ 63) = false := decide_eq_false (by omega)
  rw [e1, e2, zq64x]) (by rw [h1]; simpa using h2) ⟨.str ⟨#[c]⟩, H, I.tok _, ⟨_, rfl⟩, q⟩) hs
def rIx (K : PySem.W.Frag) : R2 := fun x y H Q => rIxL K x y H Q \/ rIxT K x y H Q \/ rIxS x y H Q
theorem ix_seq : IxR X (rIx X.K) := ix_list.or (ix_tup.or ix_str)
theorem mapSeq_set (its : List Value) (n j : Nat) (u : Value) : Obj.mapSeq (·.setIfInBounds j u) { cls := .type "list", data := .seq its.toArray n } = { cls := .type "list", data := .seq (its.set j u).toArray n } := by
 simp [Obj.mapSeq]
theorem Inv.lst {pins : List (Addr × Obj)} {σ : St} {H : Hp} {s : Shared} {p : Addr} {xs : List V} (I : Inv X pins σ H s) (h : H p = some (.lst xs)) :
  ∃ (its : List Value) (n : Nat), Vals xs its /\ s.heap.get? p = some { cls := .type "list", data := .seq its.toArray n } /\ xs.length <= sizeLine := by
 obtain ⟨z, its, n, r, e⟩ := I.hok p _ h
 exact ⟨its, n, r, e, z⟩
theorem Inv.lstUpd {pins : List (Addr × Obj)} {σ : St} {H : Hp} {s : Shared} {p : Addr} {xs ys : List V} {its its' : List Value} {n n' : Nat} {f : Obj -> Obj} (I : Inv X pins σ H s) (h : H p = some (.lst xs))
  (ho : s.heap.get? p = some { cls := .type "list", data := .seq its.toArray n }) (hf : f { cls := .type "list", data := .seq its.toArray n } = { cls := .type "list", data := .seq its'.toArray n' }) (r : Vals ys its') (hz : ys.length <= sizeLine) (t : Nat) :
  Inv X pins σ (upd H p (.lst ys)) { s with heap := s.heap.update p f, toks := t } := by
 have e : (s.heap.update p f).get? p = some { cls := .type "list", data := .seq its'.toArray n' } := by
  rw [zq99x f ho (by rw [hf] <;> rfl), hf]
 refine I.write (x := p) (e := p) (by rw [h]; trivial) (.inl rfl) (fun b u hb q => (zq47x _ _ (zq6x hb)).trans q) ⟨_, e⟩ ?_
 exact ⟨hz, its', n', r, e⟩
def rSetL : V -> V -> V -> Hp -> (Hp -> Prop) -> Prop := fun o i v H Q => ∃ p xs k j, o = .ref p /\ i = .int k /\ H p = some (.lst xs) /\ ixN xs.length k = some j /\ Q (upd H p (.lst (xs.set j v)))
theorem set_list : PSet X rSetL := by
 intro pins s σ H o i v ov iv u Q I ro ri rv h
 obtain ⟨p, xs, k, j, rfl, rfl, hp, hj, q⟩ := h
 cases ro
 obtain ⟨t, rfl⟩ := ri
 obtain ⟨its, n, r, ho, hz⟩ := I.lst hp
 obtain ⟨h1, h2, h3, h4⟩ := ixN_seq hj
 have hl := r.length
 have hn := line63
 have I' : Inv X pins σ (upd H p (.lst (xs.set j v))) { s with heap := s.heap.update p (Obj.mapSeq (·.setIfInBounds j u)) } :=
  I.lstUpd hp ho (mapSeq_set its n j u) (r.set rv j) (by rw [zq34x]; exact hz) s.toks
 by_cases h0 : 0 <= k
 ·have hk : k.toNat = j := by
   rw [seqIndex_of h0 h4] at h1
   exact zq31x h1
  exact PySem.W.ki_setAt ho h0 (by omega) (by rw [zq14x, <- hl]; exact h4) (by rw [hk]; exact ⟨_, I', q⟩)
 ·have hk : (k + (its.toArray.size : Int)).toNat = j := by
   rw [seqIndex_neg (by omega) h3] at h1
   rw [zq14x, <- hl]
   exact zq31x h1
  exact PySem.W.ki_setBack ho (by omega) (by rw [zq14x, <- hl]; exact h3) (by omega) (by rw [hk]; exact ⟨_, I', q⟩)
theorem slice_bounds (lo hi : Option Int) (n : Nat) : (sliceBounds lo hi none n).1 = ((HT.sIx n 0 lo : Nat) : Int) /\ (sliceBounds lo hi none n).2.1 = ((HT.sIx n n hi : Nat) : Int) /\ (sliceBounds lo hi none n).2.2 = 1 := by
  refine ⟨?_, ?_, rfl⟩
  · cases lo with
    | none => simp [sliceBounds, HT.sIx]
    | some i =>
      simp only [sliceBounds, HT.sIx, Option.getD_none, show (1 : Int) > 0 by decide, if_true]
      by_cases h : i < 0
      · simp only [h, if_true] <;> omega
      · simp only [h, if_false] <;> omega
  · cases hi with
    | none => simp [sliceBounds, HT.sIx]
    | some i =>
      simp only [sliceBounds, HT.sIx, Option.getD_none, show (1 : Int) > 0 by decide, if_true]
      by_cases h : i < 0
      · simp only [h, if_true] <;> omega
      · simp only [h, if_false] <;> omega
theorem slicePick_cut (its : List Value) (lo hi : Option Int) : slicePick its.toArray lo hi none = ((its.drop (HT.sIx its.length 0 lo)).take (HT.sIx its.length its.length hi - HT.sIx its.length 0 lo)).toArray := by
 obtain ⟨h1, h2, h3⟩ := slice_bounds lo hi its.toArray.size
 unfold slicePick
 rw [h1, h2, h3]
 simp only [sliceRange_one, pick_run, zq14x] <;> rfl
def rSlL (K : PySem.W.Frag) : V -> Option Int -> Option Int -> Hp -> VK -> Prop := fun x lo hi H Q => ∃ a xs, x = .ref a /\ SqL K H a xs /\ ∀ p, H p = none -> Q (.ref p) (upd H p (.lst (cutV xs lo hi)))
theorem sl_list : SlR X (rSlL X.K) := by
 intro pins s σ H x v vl vu lo hi sl Q I rx hs pl pu h
 obtain ⟨a, xs, rfl, hx, q⟩ := h
 cases rx
 obtain ⟨its, r, ht, hz⟩ := I.list hx
 have hlen := r.length
 refine ⟨"list", _, slot_list_getitem.lookup, ht.isList.typeIs, ?_⟩
 refine wpAny_getItem_list_slice ht.isList hs pl pu .none (by simp) ?_ (by rw [zq14x] <;> omega)
 rw [slicePick_cut, <- hlen]
 refine ⟨.ref s.heap.objs.size, _, I.laid (t' := s.toks) (o := .lst (cutV xs lo hi)) (fun b ob q => zq8x _ q) (zq3x _) ?_, rfl, q _ (I.hok.fresh (zq3x _))⟩
 exact ⟨zq26x (cutV_length xs lo hi) hz, _, 0, (r.drop (HT.sIx xs.length 0 lo)).take (HT.sIx xs.length xs.length hi - HT.sIx xs.length 0 lo), zq28x _ rfl⟩
def flatV : V -> Bool
 | .non => true
 | .bl _ => true
 | .int _ => true
 | .str _ => true
 | _ => false
def eqV : V -> V -> Bool
 | .non, .non => true
 | .bl a, .bl b => a == b
 | .bl a, .int b => (if a then 1 else 0) == b
 | .int a, .bl b => a == (if b then 1 else 0)
 | .int a, .int b => a == b
 | .str a, .str b => a == b
 | _, _ => false
def inV (x : V) (xs : List V) : Bool := xs.any fun y => eqV y x
def rIn (K : PySem.W.Frag) (neg : Bool) : R2 := fun x y H Q => ∃ p xs, y = .ref p /\ (SqL K H p xs \/ SqT K H p xs) /\ flatV x = true /\ xs.all flatV = true /\ Q (.bl (if neg then !inV x xs else inV x xs)) H
theorem call_len_seq : CallR X (.builtin "len") (fun xs H Q => ∃ p ys, xs = [.ref p] /\ (SqL X.K H p ys \/ SqT X.K H p ys) /\ Q (.int ys.length) H) := by
 intro pins s σ H xs us Q I r h
 obtain ⟨p, ys, rfl, hq, q⟩ := h
 obtain ⟨u, rfl, rx⟩ := vals1 r
 cases rx
 have hn := line63
 rcases hq with hq | hq
 ·obtain ⟨its, r', pl, hz⟩ := I.list hq
  have hlen := r'.length
  exact Calls.call_len_list pl.isList (by simp only [zq14x] <;> omega) ⟨.int ys.length, H, I.tok _, ⟨s.toks + 1, by rw [zq14x, hlen]⟩, q⟩
 ·obtain ⟨its, r', pl, hz⟩ := I.tuple hq
  have hlen := r'.length
  exact len_tuple pl (by simp only [zq14x] <;> omega) ⟨.int ys.length, H, I.tok _, ⟨s.toks + 1, by rw [zq14x, hlen]⟩, q⟩
theorem call_list_of : CallR X (.type "list") (fun xs H Q => ∃ p ys, xs = [.ref p] /\ (SqL X.K H p ys \/ SqT X.K H p ys) /\ ∀ l, H l = none -> Q (.ref l) (upd H l (.lst ys))) := by
 intro pins s σ H xs us Q I r h
 obtain ⟨p, ys, rfl, hq, q⟩ := h
 obtain ⟨u, rfl, rx⟩ := vals1 r
 cases rx
 have fin : ∀ (its : List Value), Vals ys its -> ys.length <= sizeLine -> ∀ (h' : Heap) (c' : Nat), (∀ b o', s.heap.get? b = some o' -> h'.get? b = some o') ->
   h'.get? s.heap.objs.size = some { cls := .type "list", dict := none, data := .seq its.toArray c', slots := #[] } -> EP X pins σ Q (.ref s.heap.objs.size) { s with heap := h' } := fun its r' hz h' c' kp e =>
  ⟨.ref s.heap.objs.size, _, I.laid (t' := s.toks) kp (zq3x _) (show ObjOk X.prog X.w _ h' _ (.lst ys) from ⟨hz, its, c', r', e⟩), rfl, q _ (I.hok.fresh (zq3x _))⟩
 rcases hq with hq | hq
 ·obtain ⟨its, r', pl, hz⟩ := I.list hq
  have hlen := r'.length
  obtain ⟨o, ho, hc, n, hd⟩ := pl.isList
  exact call_list_seq p (.inl rfl) ho hc hd (fun h' c' kp e => fin its r' hz h' c' kp e) (by simp only [zq14x] <;> omega)
 ·obtain ⟨its, r', pl, hz⟩ := I.tuple hq
  have hlen := r'.length
  obtain ⟨o, ho, hc, n, hd⟩ := pl
  exact call_list_seq p (.inr rfl) ho hc hd (fun h' c' kp e => fin its r' hz h' c' kp e) (by simp only [zq14x] <;> omega)
def tyV (K : PySem.W.Frag) (T : String) (x : V) (H : Hp) : Prop := match x with
 | .str _ => T = "str"
 | .int _ => T = "int"
 | .ref p => (T = "list" /\ ∃ xs, SqL K H p xs) \/ (T = "tuple" /\ ∃ o, K.lookup p = some o /\ o.cls = .type "tuple" /\ o.dict = none) \/
   (T = "dict" /\ ((∃ kvs, H p = some (.dK kvs)) \/ (∃ kvs, H p = some (.dT kvs)) \/ ∃ o kvs, H p = some (.frz o (.dK kvs)))) \/ (T = "set" /\ ∃ S n, H p = some (.set S n))
 | _ => False
theorem tyV_is {pins : List (Addr × Obj)} {σ : St} {H : Hp} {s : Shared} {T : String} {x : V} {v : Value} (I : Inv X pins σ H s) (r : RelV x v) (ty : tyV X.K T x H) :
    s.TypeIs v T /\ ∀ a, v = .ref a -> ∃ ob, s.heap.get? a = some ob /\ ob.dict = none := by
  cases x with
  | str z =>
    obtain ⟨t, rfl⟩ := r
    cases (show T = "str" from ty)
    exact ⟨typeIs_str s z t, fun _ e => nomatch e⟩
  | int i =>
    obtain ⟨t, rfl⟩ := r
    cases (show T = "int" from ty)
    exact ⟨typeIs_int s i t, fun _ e => nomatch e⟩
  | ref p =>
    cases r
    rcases ty with ⟨rfl, xs, hq⟩ | ⟨rfl, o, hk, hc, hd⟩ | ⟨rfl, hk⟩ | ⟨rfl, S, n, hk⟩
    · obtain ⟨its, _, pl, _⟩ := I.list hq
      refine ⟨pl.isList.typeIs, fun a e => ?_⟩
      cases e
      obtain ⟨o, n, e, c, hd, _⟩ := pl
      exact ⟨o, e, hd⟩
    · refine ⟨⟨o, I.kIn p o hk, hc⟩, fun a e => ?_⟩
      cases e
      exact ⟨o, I.kIn _ o hk, hd⟩
    · have z : ∃ o, s.heap.get? p = some o /\ o.ExactDict := by
        rcases hk with ⟨kvs, hk⟩ | ⟨kvs, hk⟩ | ⟨ob, kvs, hk⟩
        · obtain ⟨_, _, _, _, o, _, _, e, ex, _⟩ := I.hok p _ hk
          exact ⟨o, e, ex⟩
        · obtain ⟨_, _, _, _, o, _, _, e, ex, _⟩ := I.hok p _ hk
          exact ⟨o, e, ex⟩
        · obtain ⟨_, _, _, _, _, o, _, _, e, ex, _⟩ := I.hok p _ hk
          exact ⟨o, e, ex⟩
      obtain ⟨o, e, ex⟩ := z
      refine ⟨⟨o, e, ex.1⟩, fun a e2 => ?_⟩
      cases e2
      exact ⟨o, e, ex.2.1⟩
    · obtain ⟨o, _, _, _, e, ex, _⟩ := I.hok p _ hk
      refine ⟨⟨o, e, ex.1⟩, fun a e2 => ?_⟩
      cases e2
      exact ⟨o, e, ex.2.1⟩
  | _ => exact False.elim ty
def tBM0 (K : PySem.W.Frag) (T : String) (r : V -> List V -> Hp -> VK -> Prop) (to : TE) : TE := fun σ H Q => to σ H fun x H1 => tyV K T x H1 /\ r x [] H1 Q
def tBM (K : PySem.W.Frag) (T : String) (r : V -> List V -> Hp -> VK -> Prop) (to : TE) (t : TA) : TE := fun σ H Q => to σ H fun x H1 => tyV K T x H1 /\ t σ H1 fun xs H2 => r x xs H2 Q
variable {o e : Expr} {es : List Expr} {to : TE} {t : TA} {name : Str} {apos cpos : Pos} {T id : String} {r : V -> List V -> Hp -> VK -> Prop}
theorem pe_bm (pa : PlainAttrs T) (slot : Slot T name id) (hty : typeOf (.builtin id) = pure (.type "method_descriptor")) (hm : MtR X id r) (ho : PE X o to) (ha : PA X (e :: es) t)
  (hbase : attributeBase o name X.env (eval o X.env) = eval o X.env := by rfl)
  (hfew : ((backTo cpos (starEach (e :: es) X.env)).all (fun x => !x.1) && (backToKw cpos (keywordEach [] X.env)).all (fun x => x.1.isSome)
   && decide ((e :: es).length + ([] : List Keyword).length + (if ([] : List Keyword).isEmpty then 0 else 1) < 30)) = true := by rfl)
  (hline : (apos.endLine == cpos.line) = true := by rfl) (hs : starEach (e :: es) X.env = (false, eval e X.env) :: starEach es X.env := by rfl) (hplain : (backTo cpos (starEach es X.env)).any (·.1) = false := by rfl) :
  PE X (.Call (.Attribute o name apos) (e :: es) [] cpos) (tBM X.K T r to t) := by
 intro pins s σ H Q I h
 refine wpAny_Call_method_late hbase hfew hline rfl (thn (ho pins s σ H _ I h) fun v s1 ⟨x, H1, I1, r1, ty, q1⟩ => ?_)
 obtain ⟨h1, h2⟩ := tyV_is I1 r1 ty
 refine ⟨T, id, pa, slot, hty, h1, h2, ?_⟩
 have hA := ha cpos pins s1 σ H1 _ I1 q1
 rw [hs] at hA ⊢
 refine Calls.callWith_builtin (by show (false || (backTo cpos (starEach es X.env)).any (·.1)) = false; rw [hplain] <;> rfl) (Calls.evalArgs_plain ?_)
 exact thn hA fun us s2 ⟨vs, H2, I2, r2, q2⟩ => hm pins s2 σ H2 x vs v us Q I2 r1 r2 q2
/- xs.append(e), list.index on a module's tuple .. are MtR facts of 06m -/
end
def MtM (X : Cx) (id : String) (r : V -> List V -> Hp -> VK -> Prop) : Prop :=
 ∀ (pins : List (Addr × Obj)) (s : Shared) (σ : St) (H : Hp) (x : V) (xs : List V) (v : Value) (us : List Value) (Q : VK), Inv X pins σ H s -> RelV x v -> Vals xs us -> r x xs H Q ->
  wpAny (model X.prog X.w) X.A (call (.builtin id) (v :: us)) (EP X pins σ Q) X.xe s
theorem Vals.one {x : V} {us : List Value} (h : Vals [x] us) : ∃ u, us = [u] /\ RelV x u := by
 cases h with
 | cons r t => cases t; exact ⟨_, rfl, r⟩
theorem Vals.two {x y : V} {us : List Value} (h : Vals [x, y] us) : ∃ u v, us = [u, v] /\ RelV x u /\ RelV y v := by
  cases h with
  | cons r t =>
    obtain ⟨v, e, q⟩ := Vals.one t
    exact ⟨_, v, by rw [e], r, q⟩
theorem Vals.dropLast {xs : List V} {us : List Value} (h : Vals xs us) : Vals xs.dropLast us.dropLast := by
  induction h with
  | nil => exact .nil
  | cons r t ih =>
    cases t with
    | nil => exact .nil
    | cons q t' => exact .cons r ih
section
variable {X : Cx} {pins : List (Addr × Obj)} {σ : St} {H : Hp} {s : Shared} {l b : Addr} {xs ys zs : List V}
theorem Inv.lset {its its' : List Value} {n : Nat} {f : Array Value -> Array Value} {t' : Nat} (I : Inv X pins σ H s) (hH : H l = some (.lst xs))
  (e : s.heap.get? l = some { cls := .type "list", data := .seq its.toArray n }) (hf : f its.toArray = its'.toArray) (hv : Vals ys its') (hz : ys.length <= sizeLine) :
  Inv X pins σ (upd H l (.lst ys)) { s with heap := s.heap.update l (Obj.mapSeq f), toks := t' } := by
 have q := PySem.IsL.update e f
 rw [hf] at q
 refine I.write (x := l) (e := l) (by rw [hH]; exact trivial) (.inl rfl) (fun b' u hb hu => (zq47x s.heap (Obj.mapSeq f) (zq6x hb)).trans hu) ⟨_, q⟩ ?_
 exact ⟨hz, its', _, hv, q⟩
theorem Inv.lnew {its : List Value} {t' : Nat} (I : Inv X pins σ H s) (hv : Vals ys its) (hz : ys.length <= sizeLine) :
  Inv X pins σ (upd H s.heap.objs.size (.lst ys)) { s with heap := s.heap.push { cls := .type "list", data := .seq its.toArray }, toks := t' } :=
 I.laid (fun _ _ q => zq8x _ q) (zq3x _) ⟨hz, its, 0, hv, zq28x _ rfl⟩
theorem Inv.fresh (I : Inv X pins σ H s) : H s.heap.objs.size = none := I.hok.fresh (zq3x _)
theorem Inv.lstM (I : Inv X pins σ H s) (hH : H l = some (.lst xs)) : xs.length <= sizeLine /\ ∃ (its : List Value) (n : Nat), Vals xs its /\ xs.length = its.length /\ s.heap.get? l = some { cls := .type "list", data := .seq its.toArray n } := by
 obtain ⟨z, its, n, r, e⟩ := I.hok l _ hH
 exact ⟨z, its, n, r, r.length, e⟩
theorem notLongL {n : Nat} (h : n <= sizeLine) : Builtin.List.listTooLong n = false := by
 unfold Builtin.List.listTooLong
 exact decide_eq_false (by omega)
end
section
variable {X : Cx}
def rAppend : V -> List V -> Hp -> VK -> Prop := fun x vs H Q => ∃ l xs y, x = .ref l /\ vs = [y] /\ H l = some (.lst xs) /\ xs.length < sizeLine /\ Q .non (upd H l (.lst (xs ++ [y])))
theorem mt_append : MtM X "list.append" rAppend := by
 intro pins s σ H x vs v us Q I rx rv h
 obtain ⟨l, xs, y, rfl, rfl, hH, hz, q⟩ := h
 cases rx
 obtain ⟨u, rfl, ru⟩ := rv.one
 obtain ⟨z, its, n, r, hl, e⟩ := I.lstM hH
 refine call_meets F.slot_list_append ⟨_, e, rfl⟩ F.entry_list_append (F.args_list_append_2 _ _) (PySem.list_append l its.toArray n u (by rw [zq14x]; omega)) ⟨e, ?_⟩
 refine ⟨.non, _, I.lset (its' := its ++ [u]) hH e (by simp) (r.append (.cons ru .nil)) ?_, rfl, q⟩
 rw [zq39x, zq54x]
 omega
def rExtend : V -> List V -> Hp -> VK -> Prop := fun x vs H Q => ∃ l b xs zs, x = .ref l /\ vs = [.ref b] /\ H l = some (.lst xs) /\ H b = some (.lst zs) /\ xs.length + zs.length <= sizeLine /\ Q .non (upd H l (.lst (xs ++ zs)))
theorem mt_extend : MtM X "list.extend" rExtend := by
 intro pins s σ H x vs v us Q I rx rv h
 obtain ⟨l, b, xs, zs, rfl, rfl, hH, hB, hz, q⟩ := h
 cases rx
 obtain ⟨u, rfl, ru⟩ := rv.one
 cases ru
 obtain ⟨z, its, n, r, hl, e⟩ := I.lstM hH
 obtain ⟨z2, its2, n2, r2, hl2, e2⟩ := I.lstM hB
 have hsz : its.toArray.size + its2.toArray.size <= sizeLine := by rw [zq14x, zq14x]; omega
 have hlong : ¬ (!its.toArray.isEmpty && Builtin.List.listTooLong (its.toArray.size + its2.toArray.size)) = true := by
  rw [notLongL hsz, Bool.and_false]
  exact zq11x
 refine call_meets F.slot_list_extend ⟨_, e, rfl⟩ F.entry_list_extend (F.args_list_extend_2 _ _)
  (AutoSeq1.list_extend_list_list_0 l its.toArray n b its2.toArray n2 hlong (by rw [zq14x]; omega) (by omega)) ⟨e, e2, ?_⟩
 refine ⟨.non, _, I.lset (its' := its ++ its2) hH e (by simp) (r.append r2) ?_, rfl, q⟩
 rw [zq39x]
 omega
def rCat : R2 := fun x y H Q => ∃ l b xs zs, x = .ref l /\ y = .ref b /\ H l = some (.lst xs) /\ H b = some (.lst zs) /\ xs.length + zs.length <= sizeLine /\ ∀ p, H p = none -> Q (.ref p) (upd H p (.lst (xs ++ zs)))
theorem op_cat : OpR X (binaryOp .Add) rCat := by
 intro pins s σ H x y v u Q I rx ry h
 obtain ⟨l, b, xs, zs, rfl, rfl, hH, hB, hz, q⟩ := h
 cases rx
 cases ry
 obtain ⟨z, its, n, r, hl, e⟩ := I.lstM hH
 obtain ⟨z2, its2, n2, r2, hl2, e2⟩ := I.lstM hB
 refine PySem.P.add_list e e2 ?_ (by rw [zq14x, zq14x]; omega)
 have ea : its.toArray ++ its2.toArray = (its ++ its2).toArray := by simp
 rw [ea]
 exact ⟨.ref _, _, I.lnew (t' := s.toks) (r.append r2) (by rw [zq39x]; omega), rfl, q _ I.fresh⟩
end
end L2
namespace Att
open PySem PySem.W PySem.Calls PyProof.Rows
theorem ints_of_wellAll {P : Params} {h : Heap} : ∀ (ns : List Int) (vs : List Value), WellAll P h vs (ns.map WData.int) -> IntsAre vs ns := by
  intro ns
  induction ns with
  | nil =>
    intro vs w
    rw [List.map_nil] at w
    cases w
    exact .nil
  | cons n ns ih =>
    intro vs w
    rw [zq24x] at w
    cases w with
    | cons a b =>
      cases a
      exact .cons _ _ (ih _ b)
theorem script_of {l : OpenLaw} {n : Nat} (hn : l.most = some n) {P : Params} {h : Heap} {args : List WData} {vals : List Value}
    (hpre : l.row.toRowW.claim.pre args = true) (hwl : WellAll P h vals args) :
    ∃ a vs ns, vals = [Value.ref a] /\ args = [WData.list (ns.map WData.int)] /\ h.get? a = some { cls := .type "list", data := .seq vs.toArray } /\ IntsAre vs ns /\ ns.length <= n := by
  have hsh : WShape.hasAll [] args [.list .int] = true := (pre_splitW hpre).1
  have hc : l.pre.holds [] { args := args } = true := (pre_splitW hpre).2
  obtain ⟨d, r, rfl, h1, h2⟩ := hasAllW_cons hsh
  obtain rfl := hasAllW_nil h2
  obtain ⟨xs, rfl, h3⟩ := hasW_list h1
  obtain ⟨ns, rfl⟩ := items_int h3
  have hlen : ns.length <= n := by
    unfold OpenLaw.pre at hc
    have h4 : (WTm.not (.lt (.lit (.int (n : Int))) (.len (.arg 0)))).holds [] { args := [.list (ns.map .int)] } = true := by
      have h4 := (holds_andW hc).1
      rw [hn] at h4
      exact h4
    have h5 := condW_of h4 (w_not (w_lt w_lit (w_len_list (w_arg rfl))))
    rw [zq0x] at h5
    refine zq118x fun q => ?_
    have q' : (n : Int) < ((ns.length : Nat) : Int) := by omega
    first
      | (rw [decide_eq_true q'] at h5; exact absurd h5 (by decide))
      | (simp at h5; omega)
  cases hwl with
  | cons w1 w2 =>
    cases w2
    cases w1 with
    | list ho hall => exact ⟨_, _, ns, rfl, rfl, ho, ints_of_wellAll ns _ hall, hlen⟩
theorem post_true (l : OpenLaw) (args : List WData) : l.row.toRowW.claim.post args (.bool true) args = true :=
 postW_of (r := l.row.toRowW) (X := (true == true))
  (show WShape.has [] (.bool true) .bool = true by first | rfl | decide | simp [WShape.has, WShape.arms, WShape.armsAll])
  (show (WTm.eq .res (.lit (.bool true))).value [] { args := args, res := some (.bool true), after := args } = some (.bool (true == true)) from w_eq_bool (w_res rfl) w_lit) rfl
theorem attach_call {l : OpenLaw} {n : Nat} {q : Program} {loose : List Str} {XP : (Str -> Option Value) -> Heap -> Prop} {YP : World -> Heap -> Prop} {d : DefRec}
  (hn : l.most = some n) (hdf : d.params.defaults = [])
  (call : ∀ (w : World) (s₀ s₁ : Shared) (mg mb : Str -> Option Value) (fa : Addr) (o : Obj) (pm cd doc : Value) (a : Addr) (vs : List Value) (ns : List Int),
   Ground q loose [] XP w s₀ mg mb s₁.heap -> YP w s₁.heap ->
   s₁.heap.get? fa = some o -> o.data = .func (docDef d.name d.params d.body d.scope pm cd doc) -> s₁.heap.CodeRec cd d.name -> mg d.name = some (.ref fa) ->
   s₁.heap.get? a = some { cls := .type "list", data := .seq vs.toArray } -> IntsAre vs ns -> ns.length <= n -> s₁.gens = #[] ->
   codeAny (model l.prog w) callerA (.call (.ref fa) ⟨[.ref a], []⟩) (fun r s' => r = .ok (.ret (.bool true)) /\ OldK s₁.heap s'.heap /\ s'.os = s₁.os /\ AllBare s'.gens) s₁) :
  WalkO q loose XP YP l.row.toRowW d [] (fun f vs => PySem.call f vs) := by
 intro w s₀ s₁ mg mb G Y fa o pm cd doc dV kV ho hd hcd hD hmg hg args vals as hpre hlay hrd hwl hlo
 obtain rfl : dV = .none := Dflts.none hD hdf
 obtain rfl : kV = .none := Dflts.noKw hD
 obtain ⟨a, vs, ns, rfl, rfl, hobj, hints, hlen⟩ := script_of hn hpre hwl
 refine enter_call (codeAny_mono (call w s₀ s₁ mg mb fa o pm cd doc a vs ns G Y ho (fd_plain hd) hcd hmg hobj hints hlen hg) fun r s' hq => ?_)
 obtain ⟨rfl, h2, h3, h4⟩ := hq
 exact ⟨.inl ⟨.bool true, .bool true, [], rfl, fun _ => rfl, .bool true, post_true l _, fun _ => ⟨List.Pairwise.nil, fun _ hm => (nomatch hm)⟩⟩, h2, h3, h4⟩
section
variable {prog : Program} {w : World} {A : Around} {E : Value -> Shared -> Prop} {s : Shared} {K : Frag}
def ledger (h : Heap) (L d : Addr) : List (Addr × Obj) := (List.range h.objs.size).filterMap fun a => if a = L \/ a = d then none else (h.get? a).map fun o => (a, o)
end
end Att
namespace L2
open PySem PySem.Spec PyProof.Rows
theorem vals_ints : ∀ {vs : List Value} {ns : List Int}, IntsAre vs ns -> Vals (ns.map V.int) vs
 | _, _, .nil => .nil
 | _, _, .cons n t h => .cons ⟨t, rfl⟩ (vals_ints h)
def Only (H : Hp) : Prop := ∀ b, H b = none \/ ∃ o xs, H b = some (.frz o (.lst xs))
theorem law_call {P : Program} {w : World} {K : PySem.W.Frag} {mg mb : Str -> Option Value} {CX : CXT} {k : Nat} {fa a : Addr} {fd : FuncData} {x : Str} {sp : Sp} {s₁ : Shared} {vs : List Value} {ns : List Int}
    (KX : K.In s₁.heap) (hns : s₁.heap.Ns mainGlobals mg) (hb : s₁.heap.Ns builtinsNs mb) (hbb : ∀ x : Str, x ≠ "__name__" -> mb x = bootBuiltins x) (hlim : s₁.heap.NoLimit) (hg : s₁.gens = #[])
    (ha : s₁.heap.get? a = some { cls := .type "list", data := .seq vs.toArray }) (hi : IntsAre vs ns) (hl : ns.length <= sizeLine) (hr : Room k callerA)
    (F : ∀ base : Heap, K.In base -> base.Ns mainGlobals mg -> FnOk P w K mg base CX k fa fd [x] sp) (hbind : ∀ (s : Shared) (u : Value), BindsTo s fd ⟨[u], []⟩ [(x, u)])
    (hsp : ∀ H : Hp, Only H -> SqL K H a (ns.map V.int) -> sp [.ref a] H (fun v _ => v = .bl true) fun _ _ _ => False)
    (hCX : ∀ H e s', CX [] H s₁ (fun _ _ _ => False) e s' -> False) :
    codeAny (model P w) callerA (.call (.ref fa) ⟨[.ref a], []⟩) (fun r s' => r = .ok (.ret (.bool true)) /\ OldK s₁.heap s'.heap /\ s'.os = s₁.os /\ AllBare s'.gens) s₁ := by
  have rv := vals_ints hi
  have lenV := hi.length
  have core : ∀ H : Hp, Only H -> SqL K H a (ns.map V.int) -> HOk P w H s₁.heap -> (∀ b, H b ≠ none -> b = a) -> (H a ≠ none -> K.lookup a = none) ->
      codeAny (model P w) callerA (.call (.ref fa) ⟨[.ref a], []⟩) (fun r s' => r = .ok (.ret (.bool true)) /\ OldK s₁.heap s'.heap /\ s'.os = s₁.os /\ AllBare s'.gens) s₁ := by
    intro H hO hS hok hA hK
    have base_of : ∀ {b : Addr} {o : Obj}, s₁.heap.get? b = some o -> H b = none -> (hidT s₁.heap H).get? b = some o := fun e n => hidT_get e n
    have noA : ∀ {b : Addr} {o : Obj} {es : Array DictEntry} {ep : Nat}, s₁.heap.get? b = some o -> o.data = .dict es ep -> H b = none := fun {b o es ep} e d => by
      cases q : H b with
      | none => rfl
      | some u =>
        have e' : b = a := hA b (by rw [q]; simp)
        subst e'
        rw [ha] at e; cases e
        have d' : Data.seq vs.toArray _ = Data.dict es ep := d
        cases d'
    have nsK : ∀ {b : Addr} {m : Str -> Option Value}, s₁.heap.Ns b m -> (hidT s₁.heap H).Ns b m := fun {b m} ⟨o, es, ep, e, d, r⟩ => ⟨o, es, ep, base_of e (noA e d), d, r⟩
    have hKb : K.In (hidT s₁.heap H) := fun b o e => base_of (KX b o e) (by
      cases q : H b with
      | none => rfl
      | some u =>
        have e' : b = a := hA b (by rw [q]; simp)
        subst e'
        rw [hK (by rw [q]; simp)] at e; cases e)
    have hM : Mod K mg (hidT s₁.heap H) := ⟨hKb, nsK hns, ⟨mb, nsK hb, hbb⟩, let ⟨mc, h1, h2⟩ := hlim; ⟨mc, nsK h1, h2⟩⟩
    have e0 : Env0 P w K mg (hidT s₁.heap H) callerA [] s₁ H := ⟨rfl, hM, fun b o e => of_hidT e, zq83x (hidT_size _ _), trivial, fun b hb => absurd (show b ∈ ([] : List Addr) from hb) (by simp), hok, .of_eq hg⟩
    refine codeAny_mono ((F _ hKb (nsK hns)).run callerA [] s₁ H ⟨[.ref a], []⟩ [.ref a] [.ref a] _ _ hr e0 (hbind s₁ (.ref a)) (.cons rfl .nil) (hsp H hO hS)) fun r s' h => ?_
    cases r with
    | error e => exact (hCX H e s' h).elim
    | ok fl =>
      cases fl with
      | next => exact False.elim h
      | brk => exact False.elim h
      | cont => exact False.elim h
      | ret u =>
        obtain ⟨v, H', os, bare, un, hok', r', q⟩ := h
        have q' : v = .bl true := q
        subst q'
        obtain rfl : u = Value.bool true := r'
        refine ⟨rfl, OldK.of_keep fun b o e => ?_, os, bare⟩
        cases q : H b with
        | none => exact un.keep b o e q (by intro z; exact absurd (show b ∈ ([] : List Addr) from z) (by simp)) (by simp)
        | some u =>
          rcases hO b with z | ⟨ob, xs, z⟩
          · rw [q] at z; cases z
          · have z2 := un.frzs b ob _ z
            obtain ⟨e1, _⟩ := hok b _ z
            obtain ⟨e2, _⟩ := hok' b _ z2
            rw [e] at e1; cases e1
            exact e2
  cases hk : K.lookup a with
  | some o =>
    have e := KX a o hk
    rw [ha] at e
    cases e
    refine core (fun _ => none) (fun _ => .inl rfl) (.inr ⟨_, vs.toArray, _, hk, rfl, rfl, rfl, by rw [zq14x, lenV]; exact hl, by simpa using rv⟩) (fun b u z => by have z' : (none : Option HO) = some u := z; cases z') (fun b z => absurd rfl z) fun z => absurd rfl z
  | none =>
    refine core (fun b => if b = a then some (.frz { cls := .type "list", data := .seq vs.toArray } (.lst (ns.map V.int))) else none) (fun b => ?_) (.inl (.inr ⟨{ cls := .type "list", data := .seq vs.toArray }, if_pos rfl⟩)) (fun b u z => ?_) (fun b z => ?_) fun _ => hk
    · by_cases hb : b = a
      · exact .inr ⟨_, _, if_pos hb⟩
      · exact .inl (if_neg hb)
    · by_cases hb : b = a
      · have z' := (if_pos hb).symm.trans z
        cases z'
        subst hb
        exact ⟨ha, by rw [zq0x]; exact hl, vs, _, rv, ha⟩
      · have z' := (if_neg hb).symm.trans z
        cases z'
    · by_cases hb : b = a
      · exact hb
      · exact absurd (if_neg hb) z
theorem walk_of {l : PySem.W.OpenLaw} {n k : Nat} {q : Program} {loose : List Str} {XP : (Str -> Option Value) -> Heap -> Prop} {YP : World -> Heap -> Prop} {d : DefRec} {K : Params -> PySem.W.Frag} {CX : World -> CXT} {sp : World -> Sp} {x : Str}
  (hn : l.most = some n) (hn2 : n <= sizeLine) (hdf : d.params.defaults = []) (hr : Room k callerA)
  (hY : ∀ (w : World) (h : Heap), YP w h -> (K w.params).In h)
  (F : ∀ (w : World) (mg : Str -> Option Value) (fa : Addr) (h : Heap), (K w.params).In h -> h.Ns mainGlobals mg -> mg d.name = some (.ref fa) ->
   ∃ fd : FuncData, (∀ (s : Shared) (u : Value), BindsTo s fd ⟨[u], []⟩ [(x, u)]) /\
    ∀ base : Heap, (K w.params).In base -> base.Ns mainGlobals mg -> FnOk l.prog w (K w.params) mg base (CX w) k fa fd [x] (sp w))
  (hsp : ∀ (w : World) (H : Hp) (a : Addr) (ns : List Int), ns.length <= n -> Only H -> SqL (K w.params) H a (ns.map V.int) -> sp w [.ref a] H (fun v _ => v = .bl true) fun _ _ _ => False)
  (hCX : ∀ (w : World) (H : Hp) (s : Shared) (e : Value) (s' : Shared), CX w [] H s (fun _ _ _ => False) e s' -> False) :
  PySem.W.WalkO q loose XP YP l.row.toRowW d [] (fun f vs => PySem.call f vs) := by
 refine Att.attach_call hn hdf fun w s₀ s₁ mg mb fa o pm cd doc a vs ns G Y ho hd hcd hmg hobj hints hlen hg => ?_
 have KX := hY w _ Y
 obtain ⟨fd, hb, hF⟩ := F w mg fa _ KX G.T.g hmg
 exact law_call KX G.T.g G.T.b G.T.builtins G.T.nolimit hg hobj hints (zq26x hlen hn2) hr hF hb (fun H hO hS => hsp w H a ns hlen hO hS) fun H e s' => hCX w H s₁ e s'
end L2
/- THE LAST THEOREM (shape; LID, My.* are yours):
   My.Adr: a structure of the addresses that your layer names (classes, functions); My.Txt K t: a structure (Prop) of the equations over K;
   My.txt_mk : {K} {implicit addresses ..} (e1 : nsIn K mainGlobals "law" = some (some (.ref f))) (e2 : K.lookup f = some ⟨oc, od, .func (fnOf "law" "law" params body scope dV kV doc pm an cdv ct), sl⟩) (e3 : codeIn K cdv "law" = true) .. : ∃ t, My.Txt K t
set_option maxRecDepth 100000 in
set_option maxHeartbeats 0 in
(the tactic k_is has no namespace: write k_is) -/
namespace L2
open PySem PySem.Spec PyProof.Rows
def inClass (s : Stmt) (j : Nat) : Stmt := match s with
 | .ClassDef _ _ _ body _ _ _ _ _ _ _ => body.getD j (.Pass ⟨0, 0, 0, 0⟩)
 | _ => .Pass ⟨0, 0, 0, 0⟩
def defArgs (s : Stmt) : Arguments := match s with
 | .FunctionDef _ a _ _ _ _ _ _ _ _ => a
 | _ => { posonlyargs := [], args := [], vararg := none, kwonlyargs := [], kw_defaults := [], kwarg := none, defaults := [] }
def defBody (s : Stmt) : List Stmt := match s with
 | .FunctionDef _ _ b _ _ _ _ _ _ _ => b
 | _ => []
def defScope (s : Stmt) : Scope := match s with
 | .FunctionDef _ _ _ _ _ _ sc _ _ _ => sc
 | _ => { kind := .function, names := [], isGenerator := false, isCoroutine := false }
abbrev CX0 : CXT := fun _ _ _ _ _ _ => False
abbrev E0 : XK := fun _ _ _ => False
theorem pass0 {X : Cx} : Passes CX0 X E0 := fun _ _ _ _ _ _ _ h => h.elim
structure Fun (K : PySem.W.Frag) (x qual : Str) (st : Stmt) (f : Addr) (fd : FuncData) : Prop where
 ex : ∃ (oc : Value) (od : Option Addr) (kV doc pm : Value) (an : Option Addr) (cdv ct : Value) (osl : Array (Option Value)),
  fd = PySem.W.fnOf x qual (defArgs st) (defBody st) (defScope st) .none kV doc pm an cdv ct /\ K.lookup f = some ⟨oc, od, .func fd, osl⟩ /\ PySem.W.codeIn K cdv qual = true
 kp : PySem.W.keepIn K (.ref f) = true
section
variable {P : Program} {w : World} {K : PySem.W.Frag} {mg : Str -> Option Value} {base : Heap}
theorem Fun.ok {x qual : Str} {st : Stmt} {f : Addr} {fd : FuncData} {N ps : List Str} {k : Nat} {sp : Sp} (F : Fun K x qual st f fd) (S : FnScope N ps (defScope st)) (len : ∀ vs H Q E, sp vs H Q E -> vs.length = ps.length)
  (hbody : ∀ (cdv : Value) (A : Around) (outer : List Env) (s : Shared) (H : Hp) (vs : List V) (Q : VK) (E : XK), Room k (A.deeper (envOfC qual (defScope st) s.heap.objs.size f cdv)) -> sp vs H Q E ->
   ∃ t, PSs (cxOf CX0 P w K mg base N qual (defScope st) f cdv A outer s H E).nox (defBody st) t /\ t { nx := fun _ H' => Q .non H', rt := Q } (start N vs) H) : FnOk P w K mg base CX0 (k + 1) f fd ps sp := by
 obtain ⟨oc, od, kV, doc, pm, an, cdv, ct, osl, rfl, lk, hcd⟩ := F.ex
 refine fn_of lk hcd S len fun A outer s H vs Q E hr hsp => ?_
 obtain ⟨t, h, q⟩ := hbody cdv A outer s H vs Q E hr hsp
 exact ⟨t, h.nox, q⟩
theorem Fun.binds {x qual : Str} {st : Stmt} {f : Addr} {fd : FuncData} {ps : List Str} (F : Fun K x qual st f fd)
  (h : ∀ (kV doc pm : Value) (an : Option Addr) (cdv ct : Value) (us : List Value), us.length = ps.length -> bindArgs (PySem.W.fnOf x qual (defArgs st) (defBody st) (defScope st) .none kV doc pm an cdv ct) ⟨us, []⟩ = pure (ps.zip us)) : Binds K fd ps [] := by
 obtain ⟨oc, od, kV, doc, pm, an, cdv, ct, osl, rfl, lk, hcd⟩ := F.ex
 exact .all (h kV doc pm an cdv ct)
theorem fun_mk {x qual : Str} {st : Stmt} {f : Addr} {oc : Value} {od an : Option Addr} {osl : Array (Option Value)} {kV doc pm cdv ct : Value} (l : K.lookup f = some ⟨oc, od, .func (PySem.W.fnOf x qual (defArgs st) (defBody st) (defScope st) .none kV doc pm an cdv ct), osl⟩)
  (c : PySem.W.codeIn K cdv qual = true) (k : PySem.W.keepIn K (.ref f) = true) : Fun K x qual st f (PySem.W.fnOf x qual (defArgs st) (defBody st) (defScope st) .none kV doc pm an cdv ct) := ⟨⟨oc, od, kV, doc, pm, an, cdv, ct, osl, rfl, l, c⟩, k⟩
end
theorem small1000 {n : Nat} (h : n <= 1000) : n < sizeLine := zq119x h (by decide)
section
variable {X : Cx}
theorem pv (i : Nat) {x : Str} {pos : Pos} (hN : X.N[i]? = some x := by rfl) (hv : Vis X.env.scope x := by first | exact Or.inl rfl | exact Or.inr (Or.inl rfl) | exact Or.inr (Or.inr rfl)) (hd : (x == ("__debug__" : Str)) = false := by decide)
  (hcd : (x == ("__classdict__" : Str)) = false := by decide) : PE X (.Name x pos) (tVar i) := pe_var hN hv hd hcd
end
theorem iteF {A B : Prop} (h : B) : if false = true then A else B := by
 rw [if_neg zq11x]
 exact h
theorem iteT {A B : Prop} (h : A) : if true = true then A else B := by
 rw [if_pos rfl]
 exact h
theorem ite2 {c A B : Prop} [Decidable c] (h1 : c -> A) (h2 : ¬ c -> B) : if c then A else B := by
 by_cases h : c
 ·rw [if_pos h]
  exact h1 h
 ·rw [if_neg h]
  exact h2 h
def Same (H H' : Hp) : Prop := ∀ b o, H b = some o -> H' b = some o
theorem Same.refl (H : Hp) : Same H H := fun _ _ h => h
theorem Same.trans {H H1 H2 : Hp} (a : Same H H1) (b : Same H1 H2) : Same H H2 := fun c o h => b c o (a c o h)
theorem Same.free {H H' : Hp} (e : Same H H') {l : Addr} (h : H' l = Option.none) : H l = Option.none := by
  cases q : H l with
  | none => rfl
  | some o =>
    rw [e l o q] at h
    cases h
theorem Same.seq {K : PySem.W.Frag} {H H' : Hp} {a : Addr} {xs : List V} (e : Same H H') (h : SqL K H a xs) : SqL K H' a xs := by
 rcases h with (h | ⟨o, h⟩) | h
 ·exact .inl (.inl (e _ _ h))
 ·exact .inl (.inr ⟨o, e _ _ h⟩)
 ·exact .inr h
end L2
set_option maxHeartbeats 1000000
namespace L2
open PySem PySem.Spec PyProof.Rows
def clOf (cells : List (Str × Addr)) : List (Str × NameKind) -> List (Str × Addr) -> List (Str × Addr)
 | [], acc => acc
 | (n, k) :: r, acc => clOf cells r (if k == NameKind.free then (match cells.lookup n with | some a => (n, a) :: acc | none => acc) else acc)
theorem clOf_run {env : Env} {f : Str × NameKind -> List (Str × Addr) -> Sem (ForInStep (List (Str × Addr)))}
    (hf : ∀ x acc, f x acc = if (x.2 == NameKind.free) = true then (do let a <- cellOf env x.1; pure (ForInStep.yield ((x.1, a) :: acc))) else pure (ForInStep.yield acc)) :
    ∀ (l : List (Str × NameKind)) (acc : List (Str × Addr)), (∀ x ∈ l, x.2 = .free -> ∃ a, env.cells.lookup x.1 = some a) -> (forIn l acc f : Sem (List (Str × Addr))) = pure (clOf env.cells l acc)
  | [], acc, _ => by rw [List.forIn_nil]; rfl
  | (n, k) :: r, acc, h => by
    have hr := fun x hx => h x (zq12x _ hx)
    rw [List.forIn_cons, hf]
    by_cases hk : (k == NameKind.free) = true
    · have hk' : k = NameKind.free := by simpa using hk
      obtain ⟨a, ha⟩ := h (n, k) zq20x hk'
      have hc : cellOf env n = pure a := by unfold cellOf; rw [ha]
      rw [if_pos hk, hc]
      show (forIn r ((n, a) :: acc) f : Sem (List (Str × Addr))) = pure (clOf env.cells r _)
      rw [clOf_run hf r _ hr, if_pos hk, ha]
    · rw [if_neg hk]
      show (forIn r acc f : Sem (List (Str × Addr))) = pure (clOf env.cells r _)
      rw [clOf_run hf r _ hr, if_neg hk]
theorem closureFor_eq {scope : Scope} {env : Env} (h : ∀ x ∈ scope.names, x.2 = .free -> ∃ a, env.cells.lookup x.1 = some a) : closureFor scope env = pure (clOf env.cells scope.names []) := by
 simp only [closureFor]
 rw [clOf_run (env := env) (fun ⟨n, k⟩ acc => by dsimp only) scope.names [] h]
 rfl
theorem clOf_sub {cells : List (Str × Addr)} : ∀ {l : List (Str × NameKind)} {acc : List (Str × Addr)} {x : Str} {c : Addr}, (∀ y d, acc.lookup y = some d -> cells.lookup y = some d) -> (clOf cells l acc).lookup x = some c -> cells.lookup x = some c
  | [], _, _, _, ha, h => ha _ _ h
  | (n, k) :: r, acc, x, c, ha, h => by
    refine clOf_sub (l := r) ?_ h
    intro y d hd
    by_cases hk : (k == NameKind.free) = true
    · rw [if_pos hk] at hd
      cases q : cells.lookup n with
      | none => rw [q] at hd; exact ha _ _ hd
      | some a =>
        rw [q] at hd
        by_cases hy : (y == n) = true
        · have hy' : y = n := by simpa using hy
          subst hy'
          simp [zq23x] at hd
          rw [q, hd]
        · have hy' : (y == n) = false := by simpa using hy
          simp only [zq23x, hy'] at hd
          exact ha _ _ hd
    · rw [if_neg hk] at hd; exact ha _ _ hd
theorem clOf_keep {cells : List (Str × Addr)} : ∀ {l : List (Str × NameKind)} {acc : List (Str × Addr)} {x : Str}, (acc.lookup x).isSome = true -> ((clOf cells l acc).lookup x).isSome = true
  | [], _, _, h => h
  | (n, k) :: r, acc, x, h => by
    refine clOf_keep (l := r) ?_
    by_cases hk : (k == NameKind.free) = true
    · rw [if_pos hk]
      cases q : cells.lookup n with
      | none => exact h
      | some a =>
        by_cases hy : (x == n) = true
        · simp [zq23x, hy]
        · have hy' : (x == n) = false := by simpa using hy
          simp only [zq23x, hy']
          exact h
    · rw [if_neg hk]; exact h
theorem clOf_has {cells : List (Str × Addr)} : ∀ {l : List (Str × NameKind)} {acc : List (Str × Addr)} {x : Str} {a : Addr}, (x, NameKind.free) ∈ l -> cells.lookup x = some a -> ((clOf cells l acc).lookup x).isSome = true
  | [], _, _, _, h, _ => nomatch h
  | (n, k) :: r, acc, x, a, h, hc => by
    rcases zq2x.mp h with e | h
    · obtain ⟨rfl, rfl⟩ := Prod.mk.inj e
      refine clOf_keep (l := r) ?_
      rw [if_pos (by decide), hc]
      simp [zq23x]
    · exact clOf_has (l := r) h hc
theorem clOf_look {cells : List (Str × Addr)} {l : List (Str × NameKind)} {x : Str} {a : Addr} (h : (x, NameKind.free) ∈ l) (hc : cells.lookup x = some a) : (clOf cells l []).lookup x = some a := by
 obtain ⟨c, e⟩ := zq145x.mp (clOf_has (acc := []) h hc)
 have := clOf_sub (fun y d (q : ([] : List (Str × Addr)).lookup y = some d) => by simp at q) e
 rw [hc] at this; cases this
 exact e
theorem relabel_look {env : Env} : ∀ {l : List (Str × NameKind)} {x : Str} {k : NameKind}, (∀ y ∈ l, y.2 ≠ .cell) ->
    (l.map fun (n, k) => if (k == NameKind.free && env.scope.kind == .function && env.kindOf n == some .cell) then (n, NameKind.cell) else (n, k)).lookup x = some k -> k = .cell \/ k = .free -> l.lookup x = some .free
  | [], _, _, _, h, _ => by simp at h
  | (n, q) :: r, x, k, hc, h, hk => by
    have hr := fun y hy => hc y (zq12x _ hy)
    have ih := relabel_look (env := env) (l := r) (x := x) (k := k) hr
    rw [zq24x] at h
    dsimp only at h
    by_cases hx : (x == n) = true
    · simp only [zq23x, hx]
      by_cases hq : (q == NameKind.free && env.scope.kind == .function && env.kindOf n == some .cell) = true
      · have : q = .free := by
          simp only [zq25x] at hq
          simpa using hq.1.1
        rw [this]
      · rw [if_neg hq] at h
        simp only [zq23x, hx] at h
        have hqk : q = k := zq31x h
        rcases hk with e | e
        · exact absurd (hqk.trans e) (hc (n, q) zq20x)
        · rw [hqk, e]
    · have hx' : (x == n) = false := by simpa using hx
      simp only [zq23x, hx']
      refine ih ?_ hk
      by_cases hq : (q == NameKind.free && env.scope.kind == .function && env.kindOf n == some .cell) = true
      · rw [if_pos hq] at h
        simp only [zq23x, hx'] at h
        exact h
      · rw [if_neg hq] at h
        simp only [zq23x, hx'] at h
        exact h
theorem relabel_free {env : Env} : ∀ {l : List (Str × NameKind)} {x : Str}, l.lookup x = some .free ->
    (l.map fun (n, k) => if (k == NameKind.free && env.scope.kind == .function && env.kindOf n == some .cell) then (n, NameKind.cell) else (n, k)).lookup x = some .cell \/
    (l.map fun (n, k) => if (k == NameKind.free && env.scope.kind == .function && env.kindOf n == some .cell) then (n, NameKind.cell) else (n, k)).lookup x = some .free
  | [], _, h => by simp at h
  | (n, q) :: r, x, h => by
    have ih := relabel_free (env := env) (l := r) (x := x)
    rw [zq24x]
    dsimp only
    by_cases hx : (x == n) = true
    · simp only [zq23x, hx] at h
      by_cases hq : (q == NameKind.free && env.scope.kind == .function && env.kindOf n == some .cell) = true
      · rw [if_pos hq]
        left
        simp only [zq23x, hx]
      · rw [if_neg hq]
        right
        simp only [zq23x, hx]
        exact h
    · have hx' : (x == n) = false := by simpa using hx
      simp only [zq23x, hx'] at h
      have := ih h
      by_cases hq : (q == NameKind.free && env.scope.kind == .function && env.kindOf n == some .cell) = true
      · rw [if_pos hq]
        simp only [zq23x, hx']
        exact this
      · rw [if_neg hq]
        simp only [zq23x, hx']
        exact this
def compOkB (sx : Scope) (NX : List Str) (scope : Scope) (N : List Str) (mp : List (Option Nat)) : Bool :=
 (scope.kind == .function) && scope.names.all (fun y => y.2 != .cell) && scope.names.all (fun y => y.2 != .local || scope.names.lookup y.1 == some .local) &&
 scope.names.all (fun y => y.2 != .free || sx.names.lookup y.1 == some .cell || sx.names.lookup y.1 == some .free) && (mp.length == N.length) &&
 ((N.zip mp).all fun p => match p.2 with | none => true | some j => NX[j]? == some p.1 && scope.names.lookup p.1 == some .free)
structure CompOk (sx : Scope) (NX : List Str) (scope : Scope) (N : List Str) (mp : List (Option Nat)) : Prop where
 kind : scope.kind = .function
 cell : ∀ y ∈ scope.names, y.2 ≠ .cell
 names : ∀ y ∈ scope.names, y.2 = .local -> scope.names.lookup y.1 = some .local
 free : ∀ y ∈ scope.names, y.2 = .free -> sx.names.lookup y.1 = some .cell \/ sx.names.lookup y.1 = some .free
 len : mp.length = N.length
 look : ∀ (i j : Nat) (x : Str), mp[i]? = some (some j) -> N[i]? = some x -> NX[j]? = some x /\ scope.names.lookup x = some .free
theorem CompOk.of {sx : Scope} {NX : List Str} {scope : Scope} {N : List Str} {mp : List (Option Nat)} (h : compOkB sx NX scope N mp = true) : CompOk sx NX scope N mp := by
 unfold compOkB at h
 simp only [zq25x, zq73x] at h
 obtain ⟨⟨⟨⟨⟨h1, h2⟩, h3⟩, h4⟩, h5⟩, h6⟩ := h
 refine ⟨by simpa using h1, fun y hy => by simpa using h2 y hy, fun y hy e => ?_, fun y hy e => ?_, by simpa using h5, fun i j x e1 e2 => ?_⟩
 ·have := h3 y hy
  simpa [e] using this
 ·have := h4 y hy
  simpa [e] using this
 ·have hm : (x, some j) ∈ N.zip mp := by
   have : (N.zip mp)[i]? = some (x, some j) := by
    rw [List.getElem?_zip_eq_some]; exact ⟨e2, e1⟩
   exact zq72x this
  have := h6 _ hm
  simpa using this
def startC (mp : List (Option Nat)) (σ : St) : St := mp.map fun o => match o with | none => none | some j => match σ[j]? with | some v => v | none => none
def compX (X : Cx) (scope : Scope) (C : Addr) (N : List Str) (s₀ : Shared) (H₀ : Hp) (fp : List Addr) : Cx :=
 { X with N := N, s₀ := s₀, H₀ := H₀, env := compEnvC scope (clOf X.env.cells scope.names []) C X.env, outer := X.stack, ex := fp, fn := fun _ => false, pn := [], xe := fun _ _ => False }
def PTs (X : Cx) (ifs : List Expr) (t : TT) : Prop :=
 ∀ (pins : List (Addr × Obj)) (s : Shared) (σ : St) (H : Hp) (Q : Bool -> Hp -> Prop), Inv X pins σ H s -> t σ H Q ->
  wpAny (model X.prog X.w) X.A (forIn ifs true fun c r => if r = true then do let ok <- isTrue c X.env (eval c X.env); pure (ForInStep.yield ok) else pure (ForInStep.yield r)) (TP X pins σ Q) X.xe s
def tNoTest : TT := fun _ H Q => Q true H
theorem pts_nil {X : Cx} : PTs X [] tNoTest := fun pins s σ H Q I h => wpAny_tests_nil ⟨H, I, h⟩
theorem pts_one {X : Cx} {c : Expr} {t : TT} (h : PT X c t) : PTs X [c] t := fun pins s σ H Q I q => wpAny_tests_one (h pins s σ H Q I q)
def CompW (J : It) (g : TG) (tc : TT) (te : TE) (acc : Addr) (Qe : Hp -> Prop) (σ : St) (H : Hp) : Prop := ∃ W : Nat -> Nat -> St -> Hp -> Prop, (∃ m, W 0 m σ H) /\ ∀ i m σ H, W i m σ H ->
 (J.stop i H /\ Qe H) \/ (J.go i H /\ ∃ Nx : St -> Hp -> Prop, (∀ σ' H', Nx σ' H' -> ∃ m', m' < m /\ W (i + 1) m' σ' H') /\ ∀ x H', J.yld i H x H' -> g x σ H' fun σ2 H2 => tc σ2 H2 fun b H3 =>
  if b = true then te σ2 H3 fun v H4 => ∃ ys, H4 acc = some (.lst ys) /\ ys.length < sizeLine /\ Nx σ2 (upd H4 acc (.lst (ys ++ [v]))) else Nx σ2 H3)
def tComp (wi : TI) (g : TG) (tc : TT) (te : TE) (mp : List (Option Nat)) : TE := fun σ H Q => wi σ H fun J H1 => ∀ acc, H1 acc = none -> CompW J g tc te acc (fun H' => Q (.ref acc) H') (startC mp σ) (upd H1 acc (.lst []))
section
variable {prog : Program} {w : World} {A : Around} {R : Result -> Shared -> Prop} {s : Shared}
theorem codeAny_compLoop_own {elt target iter : Expr} {ifs : List Expr} {scope : Scope} {pos : Pos} {it acc : Value} {env : Env} (I : Nat -> Shared -> Prop)
    (turn : ∀ n s, I n s -> wpAny (model prog w) A (pyNext it) (fun r s₁ => match r with
      | none => R (.ok .next) s₁
      | some v => wpAny (model prog w) A (letOwnedTupleGo target it v) (fun _ s₀ => wpAny (model prog w) A (assign target env v) (fun _ s₂ =>
          wpAny (model prog w) A (forIn ifs true fun c r => if r = true then do let ok <- isTrue c env (eval c env); pure (ForInStep.yield ok) else pure (ForInStep.yield r)) (fun ok s₃ =>
            if ok = true then wpAny (model prog w) A (eval elt env) (fun x s₄ =>
              wpAny (model prog w) A (call (.builtin "list.append") [acc, x]) (fun _ s₅ => ∃ m, m < n /\ I m s₅) (fun _ _ => False) s₄) (fun _ _ => False) s₃
            else ∃ m, m < n /\ I m s₃) (fun _ _ => False) s₂) (fun _ _ => False) s₀) (fun _ _ => False) s₁) (fun _ _ => False) s)
    (n : Nat) (h : I n s) :
    codeAny (model prog w) A (.compLoop (.ListComp elt [⟨target, iter, ifs, 0⟩] scope pos) 0 it acc env) R s := by
  refine codeAny_loop rfl I (fun n s hI => ?_) n h
  show wpAny _ A ((compTurn (.ListComp elt [⟨target, iter, ifs, 0⟩] scope pos) 0 it acc env).onRaise (fun x => do noteFrame x env; theTreesLotGoes x)) _ _ s
  refine wpAny_noted ?_
  rw [compTurn_list]
  refine wpAny_bind (wpAny_standAt (wpAny_bind (wpAny_mono (turn n s hI) (fun r s₁ h₁ => ?_) fun _ _ h' => h'.elim)))
  cases r with
  | none => exact wpAny_pure h₁
  | some v =>
    refine wpAny_bind (wpAny_mono h₁ (fun _ s₀ h₀ => ?_) fun _ _ h' => h'.elim)
    refine wpAny_bind (wpAny_mono h₀ (fun _ s₂ h₂ => wpAny_bind (wpAny_mono h₂ (fun ok s₃ h₃ => ?_) fun _ _ h' => h'.elim)) fun _ _ h' => h'.elim)
    cases ok with
    | false => exact wpAny_pure ⟨rfl, h₃⟩
    | true =>
      exact wpAny_bind (wpAny_bind (wpAny_mono h₃ (fun x s₄ h₄ => wpAny_bind (wpAny_mono h₄ (fun _ s₅ h₅ => wpAny_pure (wpAny_pure ⟨rfl, h₅⟩)) fun _ _ h' => h'.elim)) fun _ _ h' => h'.elim))
end
section
variable {X : Cx}
theorem comp_core {elt iter tg : Expr} {ifs : List Expr} {scope : Scope} {pos pos' : Pos} {N : List Str} {mp : List (Option Nat)} {wi : TI} {g : TG} {tc : TT} {te : TE} {use : Option (Value -> Sem Unit)}
    {pins : List (Addr × Obj)} {s : Shared} {σ : St} {H : Hp} {Q : VK} {QQ : Value -> Shared -> Prop}
    (ok : CompOk X.env.scope X.N scope N mp) (hc : X.calm = true) (hi : PI X tg iter wi)
    (hb : ∀ C s₀ H₀ fp, PG (compX X scope C N s₀ H₀ fp) tg g /\ PTs (compX X scope C N s₀ H₀ fp) ifs tc /\ PE (compX X scope C N s₀ H₀ fp) elt te)
    (hs : ∀ x, foldedSetIterable iter X.env x = pure x) (I : Inv X pins σ H s) (h : tComp wi g tc te mp σ H Q)
    (fin : ∀ acc C H' s' m, Inv X pins σ H' s' -> FpOk X pins H' C -> s'.heap.Ns C m -> Q (.ref acc) H' -> compPost (model X.prog X.w) X.A X.xe use QQ (.ref acc) C (.ok .next) s') :
    wpAny (model X.prog X.w) X.A (comprehension (.ListComp elt [⟨tg, iter, ifs, 0⟩] scope pos) scope X.env pos' (newList []) false (eval iter X.env) use) QQ X.xe s := by
  have hfree : ∀ x ∈ scope.names, x.2 = .free -> ∃ a, X.env.cells.lookup x.1 = some a := fun x hx e => I.ok.has x.1 (ok.free x hx e)
  refine wpAny_comprehension_free (use := use) rfl hs (closureFor_eq hfree) ok.kind ok.names (thn (hi pins s σ H _ I h) fun v s1 h1 => thn h1 fun itv s2 h2 => ?_)
  obtain ⟨it, fp, tn, J, H2, e, I2, T, st2, f2, hW⟩ := h2
  subst e
  refine wpAny_newObj_type (wpAny_newFunctionEnv ok.cell (by intro y hy; simp at hy) (fun h₁ hns₁ hsb₁ => ?_) ok.kind)
  dsimp only at hns₁ hsb₁ ⊢
  have I3 := I2.lnew (its := []) (ys := []) (t' := s2.toks) .nil (zq37x _)
  have hW := hW s2.heap.objs.size I2.fresh
  obtain ⟨W, ⟨m0, w0⟩, turn⟩ := hW
  generalize hHP : s2.heap.push { cls := .type "list", dict := none, data := .seq ([] : List Value).toArray } = HP at hns₁ hsb₁ ⊢
  have I3 : Inv X pins σ (upd H2 s2.heap.objs.size (.lst [])) { s2 with heap := HP } := by rw [<- hHP]; exact I3
  generalize hH3 : upd H2 s2.heap.objs.size (.lst []) = H3 at I3 w0
  have hC : HP.objs.size = s2.heap.objs.size + 1 := by rw [<- hHP, zq51x]
  have old : ∀ b o, HP.get? b = some o -> h₁.get? b = some o := fun b o e => hsb₁.extBut b o (zq13x (zq4x e)) (zq8x _ e)
  have flt : ∀ b ∈ fp, b < s2.heap.objs.size := fun b hb => by
    obtain ⟨o, e, _⟩ := T.obj 0 _ st2 b hb
    exact zq4x e
  have fH3 : ∀ b ∈ fp, H3 b = none := fun b hb => by
    rw [<- hH3, upd_ne (zq13x (flt b hb))]
    exact (f2 b hb).1
  have clsub : ∀ {x : Str} {c : Addr}, (clOf X.env.cells scope.names []).lookup x = some c -> X.env.cells.lookup x = some c := fun {x c} e => clOf_sub (fun y d q => by simp at q) e
  have yok : (compX X scope HP.objs.size N { s2 with heap := HP } H3 fp).Ok := by
    refine ⟨I2.ok.mod, ok.kind, I2.ok.glob, I2.ok.blt, zq3x _, fun x y c e1 e2 => I2.ok.inj x y c (clsub e1) (clsub e2), fun x hx => ?_, (fun x c e => absurd (show false = true from e) (by decide)), I2.ok.hd, I2.ok.frames, .inl rfl, fun b hb => ?_, I3.bs, zq26x I3.ok.bsz I3.sz, fun b o e hb => ?_, fun b hb hz => ?_, I3.stack, I3.stkFree⟩
    · have hx' : scope.names.lookup x = some .free := by
        rcases hx with hx | hx
        · exact relabel_look ok.cell hx (.inl rfl)
        · exact relabel_look ok.cell hx (.inr rfl)
      have hm := zq63x hx'
      obtain ⟨a, ha⟩ := hfree _ hm rfl
      exact ⟨a, clOf_look hm ha⟩
    · refine ⟨fun z => ?_, fun x c e => (f2 b hb).2.2.2.2.1 x c (clsub e)⟩
      have z' : b = HP.objs.size := z
      have q := flt b hb
      rw [z', hC] at q
      exact absurd q (Nat.not_lt.mpr (zq71x _))
    · rcases (f2 b hb).2.2.2.1 with z | z
      · exact I2.ok.noex b o e z
      · exact absurd (zq17x (zq4x (I2.ok.bs b o e).1) z) (zq46x _)
    · rcases zq2x.mp (I2.stkSub b hz) with z | z
      · exact (f2 b hb).2.1 z
      · exact (f2 b hb).2.2.1 z
  have IY : Inv (compX X scope HP.objs.size N { s2 with heap := HP } H3 fp) [] (startC mp σ) H3 { s2 with heap := h₁, toks := s2.toks + ([] : List (Str × Value)).length } := by
    refine ⟨yok, rfl, I2.bare, Un.kept old, ⟨_, hns₁, fun i x v e1 e2 e3 => ?_⟩, fun x c e => ?_, I3.hok.fresh (zq3x _), fun x c e => I3.freeC x c (clsub e), fun p hp => absurd (show p ∈ ([] : List (Addr × Obj)) from hp) (by simp), I3.hok.kept old, ?_⟩
    · have hj : ∃ j, mp[i]? = some (some j) /\ σ[j]? = some (some v) := by
        unfold startC at e2
        rw [zq16x] at e2
        cases q : mp[i]? with
        | none => rw [q] at e2; cases e2
        | some o =>
          rw [q] at e2
          cases o with
          | none => cases e2
          | some j =>
            refine ⟨j, rfl, ?_⟩
            have e2 : (match σ[j]? with | some v => v | none => none) = some v := zq31x e2
            cases r : σ[j]? with
            | none => rw [r] at e2; cases e2
            | some u =>
              rw [r] at e2
              have e2 : u = some v := e2
              rw [e2]
      obtain ⟨j, hj1, hj2⟩ := hj
      obtain ⟨l1, l2⟩ := ok.look i j x hj1 e1
      have hm := zq63x l2
      have kx := ok.free _ hm rfl
      obtain ⟨mm, _, hl⟩ := I3.loc
      obtain ⟨u, ru, lk⟩ := hl j x v l1 hj2 (kx.elim (fun z => .inr (.inl z)) fun z => .inr (.inr z))
      refine ⟨u, ru, .inr ⟨relabel_free l2, ?_⟩⟩
      rcases lk with ⟨k, _⟩ | ⟨_, c, e, z⟩
      · exfalso
        have k' : X.env.scope.names.lookup x = some .local := k
        rcases kx with kx | kx
        · rw [k'] at kx; cases kx
        · rw [k'] at kx; cases kx
      · refine ⟨c, clOf_look hm e, ?_⟩
        obtain ⟨o, ho, hd⟩ := z
        exact ⟨o, old c o ho, hd⟩
    · obtain ⟨v, o, ho, hd⟩ := I3.cell x c (clsub e)
      exact ⟨v, o, old c o ho, hd⟩
    · show (startC mp σ).length = N.length
      unfold startC
      rw [zq0x, ok.len]
  have stat : ∀ {H' : Hp}, (∀ b ∈ fp, H' b = none) -> ∀ b ∈ fp, FpOk (compX X scope HP.objs.size N { s2 with heap := HP } H3 fp) [] H' b := fun {H'} hn b hb =>
    ⟨hn b hb, (yok.exf b hb).1, yok.exfs b hb, .inl hb, (yok.exf b hb).2, fun p hp => absurd (show p ∈ ([] : List (Addr × Obj)) from hp) (by simp)⟩
  have stY : tn 0 h₁ := T.keep 0 _ _ st2 fun b hb o e => old b o (by rw [<- hHP]; exact zq8x _ e)
  have loop : codeAny (model X.prog X.w) X.A (.compLoop (.ListComp elt [⟨tg, iter, ifs, 0⟩] scope pos) 0 (.ref it) (.ref s2.heap.objs.size) (compEnvC scope (clOf X.env.cells scope.names []) HP.objs.size X.env))
      (compPost (model X.prog X.w) X.A X.xe use QQ (.ref s2.heap.objs.size) HP.objs.size) { s2 with heap := h₁, toks := s2.toks + ([] : List (Str × Value)).length } := by
    obtain ⟨hg, ht, he⟩ := hb HP.objs.size { s2 with heap := HP } H3 fp
    generalize hY : compX X scope HP.objs.size N { s2 with heap := HP } H3 fp = Y at hg ht he IY stat
    have yp : Y.prog = X.prog := by rw [<- hY]; rfl
    have yw : Y.w = X.w := by rw [<- hY]; rfl
    have yK : Y.K = X.K := by rw [<- hY]; rfl
    have yA : Y.A = X.A := by rw [<- hY]; rfl
    have yc : Y.calm = true := by rw [<- hY]; exact hc
    have yx : Y.xe = fun _ _ => False := by rw [<- hY]; rfl
    have yenv : Y.env = compEnvC scope (clOf X.env.cells scope.names []) HP.objs.size X.env := by rw [<- hY]; rfl
    rw [<- yenv]
    refine codeAny_compLoop_own (fun n s' => ∃ i σ' H', Inv Y [] σ' H' s' /\ tn i s'.heap /\ (∀ b ∈ fp, H' b = none) /\ W i n σ' H') ?_ m0 ⟨0, _, H3, IY, stY, fH3, w0⟩
    rintro n s3 ⟨i, σ3, H4, I4, st3, fr3, w3⟩
    rcases turn i n σ3 H4 w3 with ⟨stop, qn⟩ | ⟨go, Nx, hN, step⟩
    · have q0 := T.done Y yp yw yK yc i [] s3 σ3 H4 (fun _ _ => False) I4 (stat fr3) st3 stop
      rw [yA] at q0
      refine thn q0 fun r s4 ⟨hr, I5⟩ => ?_
      subst hr
      show compPost (model X.prog X.w) X.A X.xe use QQ (.ref s2.heap.objs.size) HP.objs.size (.ok .next) s4
      obtain ⟨m, hm, _⟩ := id I5.loc
      have yl : Y.env.locals = HP.objs.size := by rw [yenv]; rfl
      rw [yl] at hm
      have fC : H4 HP.objs.size = none := by have := I5.free; rw [yl] at this; exact this
      have ub := I5.base
      have ub' : Un (frs X.stack) fp H3 H4 HP s4.heap := by rw [<- hY] at ub; exact ub
      have hos : s4.os = s2.os := by have := I5.os; rw [<- hY] at this; exact this
      have hok5 : HOk X.prog X.w H4 s4.heap := by have := I5.hok; rw [yp, yw] at this; exact this
      have IX : Inv X pins σ H4 s4 := I3.call' (ch := fp) hos ub' hok5 I5.bare fun b hb => ⟨(f2 b hb).2.2.2.1, (f2 b hb).2.1, (f2 b hb).2.2.2.2.1, (f2 b hb).2.2.2.2.2⟩
      exact fin _ _ H4 s4 m IX (I3.fpOk (zq3x _) fC) hm qn
    · have q0 := T.item Y yp yw yK yc i [] s3 σ3 H4 (fun _ _ => False) I4 (stat fr3) st3 go
      rw [yA] at q0
      refine thn q0 fun r s4 ⟨u, hr, h4⟩ => ?_
      subst hr
      refine thn h4 fun _ s5 ⟨x, H5, I5, r5, y5, st5, fr5⟩ => ?_
      have I5' := I5.pinned (stat fr5) (T.obj _ _ st5)
      rw [<- yx, <- yp, <- yw, <- yA]
      refine thn (hg _ s5 σ3 H5 x u _ I5' r5 (step x H5 y5)) fun _ s6 ⟨σ6, H6, I6, q6⟩ => ?_
      refine thn (ht _ s6 σ6 H6 _ I6 q6) fun b s7 ⟨H7, I7, q7⟩ => ?_
      have again : ∀ {σ8 : St} {H8 : Hp} {s8 : Shared}, Inv Y ([] ++ pinsAt fp s5.heap) σ8 H8 s8 -> Nx σ8 H8 -> ∃ m, m < n /\ ∃ i σ' H', Inv Y [] σ' H' s8 /\ tn i s8.heap /\ (∀ b ∈ fp, H' b = none) /\ W i m σ' H' := fun {σ8 H8 s8} I8 n8 => by
        obtain ⟨m', hm, w8⟩ := hN σ8 H8 n8
        refine ⟨m', hm, i + 1, σ8, H8, I8.unpinned, T.keep _ _ _ st5 fun b hb o e => (I8.pin (b, o) (zq42x _ (zq42x _ (mem_pinsAt hb e)))).1, fun b hb => ?_, w8⟩
        obtain ⟨o, e, d⟩ := T.obj _ _ st5 b hb
        exact (I8.pin (b, o) (zq42x _ (zq42x _ (mem_pinsAt hb e)))).2.1
      cases b with
      | false =>
        rw [if_neg zq11x]
        rw [if_neg zq11x] at q7
        exact again I7 q7
      | true =>
        rw [if_pos rfl]
        rw [if_pos rfl] at q7
        refine thn (he _ s7 σ6 H7 _ I7 q7) fun v s8 ⟨y, H8, I8, r8, ys, e8, z8, n8⟩ => ?_
        refine thn (mt_append _ s8 σ6 H8 (.ref s2.heap.objs.size) [y] (.ref s2.heap.objs.size) [v] (fun _ H9 => H9 = upd H8 s2.heap.objs.size (.lst (ys ++ [y]))) I8 rfl (.cons r8 .nil) ⟨_, ys, y, rfl, rfl, e8, z8, rfl⟩) fun v9 s9 ⟨y9, H9, I9, r9, e9⟩ => ?_
        subst e9
        exact again I9 n8
  refine codeAny_compStart_list loop (T.self _ _ _ _ _ stY loop)
theorem FpOk.turned {pins : List (Addr × Obj)} {s : Shared} {σ : St} {H : Hp} {C : Addr} {h' : Heap} (I : Inv X pins σ H s) (f : FpOk X pins H C) (hs : Heap.SameBut C s.heap h') : Inv X pins σ H { s with heap := h' } :=
 I.turned (t' := s.toks) (fun b o hb e => (hs.2 b hb).trans e) f.1 f.2.1 f.2.2.2.1 f.2.2.2.2.1 f.2.2.2.2.2
theorem pe_lcomp {elt iter tg : Expr} {ifs : List Expr} {scope : Scope} {pos : Pos} {N : List Str} {mp : List (Option Nat)} {wi : TI} {g : TG} {tc : TT} {te : TE}
  (ok : CompOk X.env.scope X.N scope N mp) (hi : PI X tg iter wi)
  (hb : ∀ C s₀ H₀ fp, PG (compX X scope C N s₀ H₀ fp) tg g /\ PTs (compX X scope C N s₀ H₀ fp) ifs tc /\ PE (compX X scope C N s₀ H₀ fp) elt te) (hc : X.calm = true := by rfl)
  (hs : ∀ x, foldedSetIterable iter X.env x = pure x := by intro _; rfl) : PE X (.ListComp elt [⟨tg, iter, ifs, 0⟩] scope pos) (tComp wi g tc te mp) := by
 intro pins s σ H Q I h
 rw [eval_ListComp]
 refine comp_core (use := none) ok hc hi hb hs I h fun acc C H' s' m I' f hn q => ?_
 exact ⟨m, hn, fun h' hs' => ⟨.ref acc, H', f.turned I' hs', rfl, q⟩⟩
def tSetC (i : Nat) (t : TE) : TS := fun D σ H => t σ H fun v H' => D.nx (σ.set i (some v)) H'
theorem ps_setC {elt iter tg : Expr} {ifs : List Expr} {scope : Scope} {pos spos py : Pos} {N : List Str} {mp : List (Option Nat)} {wi : TI} {g : TG} {tc : TT} {te : TE} {i : Nat} {y : Str}
  (hN : X.N.Nodup) (hy : X.N[i]? = some y) (hk : X.env.kindOf y = some .local)
  (ok : CompOk X.env.scope X.N scope N mp) (hi : PI X tg iter wi)
  (hb : ∀ C s₀ H₀ fp, PG (compX X scope C N s₀ H₀ fp) tg g /\ PTs (compX X scope C N s₀ H₀ fp) ifs tc /\ PE (compX X scope C N s₀ H₀ fp) elt te) (hc : X.calm = true := by rfl)
  (hsw : swapsWith (.ListComp elt [⟨tg, iter, ifs, 0⟩] scope pos) (some (.Name y py)) spos.line X.env = pure true := by rfl)
  (hs : ∀ x, foldedSetIterable iter X.env x = pure x := by intro _; rfl) : PS X (.Assign [.Name y py] (.ListComp elt [⟨tg, iter, ifs, 0⟩] scope pos) spos) (tSetC i (tComp wi g tc te mp)) := by
 intro pins s σ H D I h
 rw [exec_Assign_Name_used _ _ _ _ hsw]
 refine wpAny_bind (wpAny_standAt (wpAny_bind ?_))
 show wpAny _ X.A (do let _ <- comprehension (.ListComp elt [⟨tg, iter, ifs, 0⟩] scope pos) scope X.env _ (newList []) false (eval iter X.env) (some (assign (.Name y py) X.env))) _ _ s
 refine wpAny_bind (wpAny_mono (comp_core (use := some (assign (.Name y py) X.env)) (QQ := fun _ s' => SP X pins D .next s') ok hc hi hb hs I h fun acc C H' s' m I' f hn q => ?_) (fun _ s' hq => wpAny_pure (wpAny_pure hq)) fun _ _ e => e)
 refine wpAny_assign_Name (store_ok2 (v := .ref acc) I' hN hy (.inl hk) rfl (fun s2 I2 ⟨a, sb, ha⟩ => ?_) (.inr hk))
 have hne : C ≠ a := by
  rcases ha with z | z
  ·rw [z]; exact f.2.1
  ·exact fun e => f.2.2.2.2.1 y a z e.symm
 exact ⟨m, hn.sameBut sb hne, fun h' hs' => ⟨_, H', f.turned I2 hs', q⟩⟩
end
def Sm (i : Int) : Prop := -(2 ^ 300) < i /\ i < 2 ^ 300
theorem sm_bits {i : Int} (h : Sm i) : Builtin.Int.intBits i <= 2 ^ 20 := by
 obtain ⟨h1, h2⟩ := h
 unfold Builtin.Int.intBits
 split
 ·exact zq37x _
 ·rename_i h0
  have hn : i.natAbs ≠ 0 := by
   intro e
   apply h0
   simp
   omega
  have h3 : i.natAbs < 2 ^ 300 := by omega
  have h4 : i.natAbs.log2 < 300 := (Nat.log2_lt hn).mpr h3
  have : (2 : Nat) ^ 20 = 1048576 := by decide
  omega
theorem sm_pylong {x y : Int} (h : Sm y) : Builtin.divisionGoesByPylong x y = false := by
 refine PyProof.noPylong_of_log2 ?_
 obtain ⟨h1, h2⟩ := h
 by_cases h0 : y.natAbs = 0
 ·rw [h0]; decide +kernel
 ·have h3 : y.natAbs < 2 ^ 300 := by omega
  have h4 : y.natAbs.log2 < 300 := (Nat.log2_lt h0).mpr h3
  omega
section
variable {X : Cx}
theorem op_fdivS : OpR X (binaryOp .FloorDiv) (rI (fun _ j => 0 < j /\ Sm j) fun i j => .int (i / j)) := opI fun i j _ _ _ _ _ hc q =>
 floordiv_int (by omega) (by rw [Int.fdiv_eq_ediv_of_nonneg _ (by omega)]; exact q) (.inl (sm_pylong hc.2))
def rIsi (K : PySem.W.Frag) : List V -> Hp -> VK -> Prop := fun xs H Q => ∃ x T t b, xs = [x, .ty T] /\ TyOf K H x t /\ PySem.W.kitOne K t (.type T) = some b /\ Q (.bl b) H
theorem call_isi : CallR X (.builtin "isinstance") (rIsi X.K) := by
 intro pins s σ H xs us Q I rv h
 obtain ⟨x, T, t, b, rfl, ty, e, q⟩ := h
 obtain ⟨u, v, rfl, ru, rv⟩ := rv.two
 cases (show v = Value.type T from rv)
 exact isinst_ok I ru ty e fun tk => ⟨.bl b, H, I.tok tk, rfl, q⟩
def KeyD : PyData -> Key -> Prop
 | .int i, k => k = .inl i
 | .str x, k => k = .inr x
 | _, _ => False
mutual
def IsD (nb : Addr -> Prop) (H : Hp) : PyData -> V -> Prop
 | .none, v => v = .non
 | .bool b, v => v = .bl b
 | .int i, v => v = .int i
 | .str x, v => v = .str x
 | .list ds, v => ∃ a xs, v = .ref a /\ ¬ nb a /\ H a = some (.lst xs) /\ IsDs nb H ds xs
 | .tuple ds, v => ∃ a xs, v = .ref a /\ ¬ nb a /\ H a = some (.tup xs) /\ IsDs nb H ds xs
 | .dict kvs, v => ∃ a ps, v = .ref a /\ ¬ nb a /\ Rd H a (.dK ps) /\ IsKs nb H kvs ps
termination_by structural d => d
def IsDs (nb : Addr -> Prop) (H : Hp) : List PyData -> List V -> Prop
 | [], xs => xs = []
 | d :: ds, xs => ∃ y ys, xs = y :: ys /\ IsD nb H d y /\ IsDs nb H ds ys
termination_by structural d => d
def IsKs (nb : Addr -> Prop) (H : Hp) : List (PyData × PyData) -> List (Key × V) -> Prop
 | [], xs => xs = []
 | d :: ds, xs => ∃ p ys, xs = p :: ys /\ IsK nb H d p /\ IsKs nb H ds ys
termination_by structural d => d
def IsK (nb : Addr -> Prop) (H : Hp) : PyData × PyData -> Key × V -> Prop
 | (k, d), p => KeyD k p.1 /\ IsD nb H d p.2
termination_by structural d => d
end
def But (nb : Addr -> Prop) (H H' : Hp) : Prop := ∀ a o, ¬ nb a -> H a = some o -> H' a = some o
def Nb (b : Addr) : Addr -> Prop := fun a => a = b
section
variable {nb nb' : Addr -> Prop} {H H1 H2 H' : Hp} {a b c p : Addr} {o : HO} {xs : List V}
theorem But.refl (nb : Addr -> Prop) (H : Hp) : But nb H H := fun _ _ _ h => h
theorem But.trans (x : But nb H H1) (y : But nb H1 H2) : But nb H H2 := fun a o n h => y a o n (x a o n h)
theorem But.of (x : Same H H') : But nb H H' := fun a o _ h => x a o h
theorem But.set (h : nb p) : But nb H (upd H p o) := fun a u n q => by rw [upd_ne (fun e => n (by rw [e]; exact h))]; exact q
theorem But.rd {u : HO} (x : But nb H H') (n : ¬ nb a) (h : Rd H a u) : Rd H' a u := by
 rcases h with h | ⟨o, h⟩
 ·exact .inl (x _ _ n h)
 ·exact .inr ⟨o, x _ _ n h⟩
end
mutual
theorem IsD.keep {nb : Addr -> Prop} {H H' : Hp} (x : But nb H H') : ∀ {d : PyData} {v : V}, IsD nb H d v -> IsD nb H' d v
 | .none, _, h => by unfold IsD at h ⊢; exact h
 | .bool _, _, h => by unfold IsD at h ⊢; exact h
 | .int _, _, h => by unfold IsD at h ⊢; exact h
 | .str _, _, h => by unfold IsD at h ⊢; exact h
 | .list ds, _, h => by unfold IsD at h ⊢; obtain ⟨a, xs, e, n, s, r⟩ := h; exact ⟨a, xs, e, n, x _ _ n s, IsDs.keep x r⟩
 | .tuple ds, _, h => by unfold IsD at h ⊢; obtain ⟨a, xs, e, n, s, r⟩ := h; exact ⟨a, xs, e, n, x _ _ n s, IsDs.keep x r⟩
 | .dict kvs, _, h => by unfold IsD at h ⊢; obtain ⟨a, xs, e, n, s, r⟩ := h; exact ⟨a, xs, e, n, x.rd n s, IsKs.keep x r⟩
theorem IsDs.keep {nb : Addr -> Prop} {H H' : Hp} (x : But nb H H') : ∀ {ds : List PyData} {vs : List V}, IsDs nb H ds vs -> IsDs nb H' ds vs
 | [], _, h => by unfold IsDs at h ⊢; exact h
 | d :: ds, _, h => by unfold IsDs at h ⊢; obtain ⟨y, ys, e, h1, h2⟩ := h; exact ⟨y, ys, e, IsD.keep x h1, IsDs.keep x h2⟩
theorem IsKs.keep {nb : Addr -> Prop} {H H' : Hp} (x : But nb H H') : ∀ {ds : List (PyData × PyData)} {vs : List (Key × V)}, IsKs nb H ds vs -> IsKs nb H' ds vs
 | [], _, h => by unfold IsKs at h ⊢; exact h
 | d :: ds, _, h => by unfold IsKs at h ⊢; obtain ⟨y, ys, e, h1, h2⟩ := h; exact ⟨y, ys, e, IsK.keep x h1, IsKs.keep x h2⟩
theorem IsK.keep {nb : Addr -> Prop} {H H' : Hp} (x : But nb H H') : ∀ {d : PyData × PyData} {v : Key × V}, IsK nb H d v -> IsK nb H' d v
 | (k, d), _, h => by unfold IsK at h ⊢; exact ⟨h.1, IsD.keep x h.2⟩
end
mutual
theorem IsD.av {nb nb' : Addr -> Prop} {H : Hp} (x : ∀ a, nb' a -> nb a) : ∀ {d : PyData} {v : V}, IsD nb H d v -> IsD nb' H d v
 | .none, _, h => by unfold IsD at h ⊢; exact h
 | .bool _, _, h => by unfold IsD at h ⊢; exact h
 | .int _, _, h => by unfold IsD at h ⊢; exact h
 | .str _, _, h => by unfold IsD at h ⊢; exact h
 | .list ds, _, h => by unfold IsD at h ⊢; obtain ⟨a, xs, e, n, s, r⟩ := h; exact ⟨a, xs, e, fun z => n (x a z), s, IsDs.av x r⟩
 | .tuple ds, _, h => by unfold IsD at h ⊢; obtain ⟨a, xs, e, n, s, r⟩ := h; exact ⟨a, xs, e, fun z => n (x a z), s, IsDs.av x r⟩
 | .dict kvs, _, h => by unfold IsD at h ⊢; obtain ⟨a, xs, e, n, s, r⟩ := h; exact ⟨a, xs, e, fun z => n (x a z), s, IsKs.av x r⟩
theorem IsDs.av {nb nb' : Addr -> Prop} {H : Hp} (x : ∀ a, nb' a -> nb a) : ∀ {ds : List PyData} {vs : List V}, IsDs nb H ds vs -> IsDs nb' H ds vs
 | [], _, h => by unfold IsDs at h ⊢; exact h
 | d :: ds, _, h => by unfold IsDs at h ⊢; obtain ⟨y, ys, e, h1, h2⟩ := h; exact ⟨y, ys, e, IsD.av x h1, IsDs.av x h2⟩
theorem IsKs.av {nb nb' : Addr -> Prop} {H : Hp} (x : ∀ a, nb' a -> nb a) : ∀ {ds : List (PyData × PyData)} {vs : List (Key × V)}, IsKs nb H ds vs -> IsKs nb' H ds vs
 | [], _, h => by unfold IsKs at h ⊢; exact h
 | d :: ds, _, h => by unfold IsKs at h ⊢; obtain ⟨y, ys, e, h1, h2⟩ := h; exact ⟨y, ys, e, IsK.av x h1, IsKs.av x h2⟩
theorem IsK.av {nb nb' : Addr -> Prop} {H : Hp} (x : ∀ a, nb' a -> nb a) : ∀ {d : PyData × PyData} {v : Key × V}, IsK nb H d v -> IsK nb' H d v
 | (k, d), _, h => by unfold IsK at h ⊢; exact ⟨h.1, IsD.av x h.2⟩
end
mutual
theorem IsD.fresh {nb : Addr -> Prop} {H : Hp} {p : Addr} (hp : H p = none) : ∀ {d : PyData} {v : V}, IsD nb H d v -> IsD (fun a => nb a \/ a = p) H d v
 | .none, _, h => by unfold IsD at h ⊢; exact h
 | .bool _, _, h => by unfold IsD at h ⊢; exact h
 | .int _, _, h => by unfold IsD at h ⊢; exact h
 | .str _, _, h => by unfold IsD at h ⊢; exact h
 | .list ds, _, h => by unfold IsD at h ⊢; obtain ⟨a, xs, e, n, s, r⟩ := h; exact ⟨a, xs, e, fun z => z.elim n (ne_of_none s hp), s, IsDs.fresh hp r⟩
 | .tuple ds, _, h => by unfold IsD at h ⊢; obtain ⟨a, xs, e, n, s, r⟩ := h; exact ⟨a, xs, e, fun z => z.elim n (ne_of_none s hp), s, IsDs.fresh hp r⟩
 | .dict kvs, _, h => by unfold IsD at h ⊢; obtain ⟨a, xs, e, n, s, r⟩ := h; exact ⟨a, xs, e, fun z => z.elim n (s.elim (fun s => ne_of_none s hp) fun ⟨_, s⟩ => ne_of_none s hp), s, IsKs.fresh hp r⟩
theorem IsDs.fresh {nb : Addr -> Prop} {H : Hp} {p : Addr} (hp : H p = none) : ∀ {ds : List PyData} {vs : List V}, IsDs nb H ds vs -> IsDs (fun a => nb a \/ a = p) H ds vs
 | [], _, h => by unfold IsDs at h ⊢; exact h
 | d :: ds, _, h => by unfold IsDs at h ⊢; obtain ⟨y, ys, e, h1, h2⟩ := h; exact ⟨y, ys, e, IsD.fresh hp h1, IsDs.fresh hp h2⟩
theorem IsKs.fresh {nb : Addr -> Prop} {H : Hp} {p : Addr} (hp : H p = none) : ∀ {ds : List (PyData × PyData)} {vs : List (Key × V)}, IsKs nb H ds vs -> IsKs (fun a => nb a \/ a = p) H ds vs
 | [], _, h => by unfold IsKs at h ⊢; exact h
 | d :: ds, _, h => by unfold IsKs at h ⊢; obtain ⟨y, ys, e, h1, h2⟩ := h; exact ⟨y, ys, e, IsK.fresh hp h1, IsKs.fresh hp h2⟩
theorem IsK.fresh {nb : Addr -> Prop} {H : Hp} {p : Addr} (hp : H p = none) : ∀ {d : PyData × PyData} {v : Key × V}, IsK nb H d v -> IsK (fun a => nb a \/ a = p) H d v
 | (k, d), _, h => by unfold IsK at h ⊢; exact ⟨h.1, IsD.fresh hp h.2⟩
end
mutual
theorem IsD.reads {pins : List (Addr × Obj)} {σ : St} {H : Hp} {s : Shared} {nb : Addr -> Prop} (I : Inv X pins σ H s) : ∀ {d : PyData} {v : V} {u : Value}, IsD nb H d v -> RelV v u -> d.canLay0 = true -> ∃ as, Reads s.heap u d as
  | .none, _, _, h, r, _ => by unfold IsD at h; subst h; cases r; exact ⟨_, .none⟩
  | .bool _, _, _, h, r, _ => by unfold IsD at h; subst h; cases r; exact ⟨_, .bool _⟩
  | .int _, _, _, h, r, _ => by unfold IsD at h; subst h; obtain ⟨t, rfl⟩ := r; exact ⟨_, .int _ _⟩
  | .str _, _, _, h, r, _ => by unfold IsD at h; subst h; obtain ⟨t, rfl⟩ := r; exact ⟨_, .str _ _⟩
  | .list ds, _, _, h, r, hc0 => by
    unfold IsD at h
    obtain ⟨a, xs, rfl, n, s, q⟩ := h
    cases r
    obtain ⟨its, rv, p, hz⟩ := I.list (SqL.of s)
    obtain ⟨as, ra⟩ := IsDs.reads I q rv (by simpa only [PyData.canLay0] using hc0)
    obtain ⟨o, ho, hc, m, hd⟩ := p.isList
    exact ⟨_, .list ho hc hd (by simpa using ra)⟩
  | .tuple ds, _, _, h, r, hc0 => by
    unfold IsD at h
    obtain ⟨a, xs, rfl, n, s, q⟩ := h
    cases r
    obtain ⟨its, rv, p, hz⟩ := I.tuple (SqT.of s)
    obtain ⟨as, ra⟩ := IsDs.reads I q rv (by simpa only [PyData.canLay0] using hc0)
    obtain ⟨o, ho, hc, m, hd⟩ := p
    exact ⟨_, .tuple ho hc hd (by simpa using ra)⟩
  | .dict _, _, _, h, r, hc0 => by simp [PyData.canLay0] at hc0
theorem IsDs.reads {pins : List (Addr × Obj)} {σ : St} {H : Hp} {s : Shared} {nb : Addr -> Prop} (I : Inv X pins σ H s) : ∀ {ds : List PyData} {vs : List V} {us : List Value}, IsDs nb H ds vs -> Vals vs us -> PyData.canLayAll0 ds = true -> ∃ as, ReadsAll s.heap us ds as
  | [], _, _, h, r, _ => by unfold IsDs at h; subst h; cases r; exact ⟨_, .nil⟩
  | d :: ds, _, _, h, r, hc0 => by
    rw [PyData.canLayAll0, zq25x] at hc0
    unfold IsDs at h
    obtain ⟨y, ys, rfl, h1, h2⟩ := h
    cases r with
    | cons r1 r2 =>
      obtain ⟨as, q1⟩ := IsD.reads I h1 r1 hc0.1
      obtain ⟨bs, q2⟩ := IsDs.reads I h2 r2 hc0.2
      exact ⟨_, .cons q1 q2⟩
end
def rEqD (neg : Bool) : R2 := fun x y H Q => ∃ nb d e, IsD nb H d x /\ IsD nb H e y /\ SeqAt.shaped d = true /\ SeqAt.shaped e = true /\ Q (.bl (PyData.eqv d e != neg)) H
theorem op_eqD (hu : X.A.units + 64 < cLine) : OpR X (compareOp .Eq) (rEqD false) := by
 intro pins s σ H x y v u Q I rx ry h
 obtain ⟨nb, d, e, h1, h2, h3, h4, q⟩ := h
 obtain ⟨as, r1⟩ := h1.reads I rx (zq100x h3)
 obtain ⟨bs, r2⟩ := h2.reads I ry (zq100x h4)
 exact eq_dataH r1 r2 h3 h4 hu ⟨.bl _, H, I, rfl, by simpa using q⟩
theorem op_neD (hu : X.A.units + 64 < cLine) : OpR X (compareOp .NotEq) (rEqD true) := by
 intro pins s σ H x y v u Q I rx ry h
 obtain ⟨nb, d, e, h1, h2, h3, h4, q⟩ := h
 obtain ⟨as, r1⟩ := h1.reads I rx (zq100x h3)
 obtain ⟨bs, r2⟩ := h2.reads I ry (zq100x h4)
 exact ne_dataH r1 r2 h3 h4 hu ⟨.bl _, H, I, rfl, by simpa using q⟩
end
structure Callee (P : Program) (w : World) (K : PySem.W.Frag) (mg : Str -> Option Value) (base : Heap) (x : Str) (k : Nat) (ps : List Str) (sp : Sp) : Prop where
 ex : ∃ f fd, FnOk P w K mg base CX0 k f fd ps sp /\ Binds K fd ps [] /\ PySem.W.keepIn K (.ref f) = true /\ mg x = some (.ref f)
theorem pe_callC {X : Cx} {x : Str} {k : Nat} {ps : List Str} {sp : Sp} {p pos : Pos} {e : Expr} {es : List Expr} {t : TA} (c : Callee X.prog X.w X.K X.mg X.base x k ps sp) (hr : Room k X.A) (ha : PA X (e :: es) t) (hg : Gl X x := by rfl)
  (hdb : (x == ("__debug__" : Str)) = false := by decide) (he : starEach (e :: es) X.env = (false, eval e X.env) :: starEach es X.env := by rfl) (hpl : (backTo pos (starEach es X.env)).any (·.1) = false := by rfl) :
  PE X (.Call (.Name x p) (e :: es) [] pos) (tCall sp [] E0 t) := by
 obtain ⟨f, fd, F, b, kp, m⟩ := c.ex
 exact pe_call F hr hg m kp b .nil pass0 ha hdb he hpl
theorem Callee.mk' {P : Program} {w : World} {K : PySem.W.Frag} {mg : Str -> Option Value} {base : Heap} {x : Str} {st : Stmt} {k : Nat} {ps : List Str} {sp : Sp} {f : Addr} {fd : FuncData} (F : Fun K x x st f fd) (ok : FnOk P w K mg base CX0 k f fd ps sp) (b : Binds K fd ps [])
  (m : mg x = some (.ref f)) : Callee P w K mg base x k ps sp := ⟨f, fd, ok, b, F.kp, m⟩
def DfAt (K : PySem.W.Frag) (x q : Str) (st : Stmt) (f : Addr) : Prop := PySem.W.nsIn K mainGlobals x = some (some (.ref f)) /\ ∃ fd, Fun K x q st f fd
theorem DfAt.mk {K : PySem.W.Frag} {x q : Str} {st : Stmt} {f : Addr} {oc : Value} {od an : Option Addr} {osl : Array (Option Value)} {kV doc pm cdv ct : Value} (a : PySem.W.nsIn K mainGlobals x = some (some (.ref f))) (l : K.lookup f = some ⟨oc, od, .func (PySem.W.fnOf x q (defArgs st) (defBody st) (defScope st) .none kV doc pm an cdv ct), osl⟩)
  (c : PySem.W.codeIn K cdv q = true) (k : PySem.W.keepIn K (.ref f) = true) : DfAt K x q st f := ⟨a, _, fun_mk l c k⟩
end L2
set_option maxRecDepth 100000
set_option maxHeartbeats 1000000
namespace L2
open PySem PySem.Spec PyProof.Rows
section
variable {X : Cx}
theorem op_mulA : OpR X (binaryOp .Mult) (rI (fun i j => CMul i j \/ (Sm i /\ Sm j)) fun i j => .int (i * j)) := opI fun _ _ _ _ _ _ _ hc q => mul_int q (by
 rcases hc with hc | hc
 ·exact hc.ok
 ·exact IntMulOk.of_bits (sm_bits hc.1) (sm_bits hc.2))
end
def BagAt (H : Hp) (b l : Addr) : Prop := ∃ (ns : List Int) (i c st n : Int), H b = some (.lst [.ref l, .int i, .int c, .int st, .int n]) /\ H l = some (.lst (ns.map V.int)) /\
 (∀ x ∈ ns, 0 <= x /\ x < 10 ^ 60) /\ ns.length <= 63 /\ 0 <= i /\ 0 <= c /\ c < 10 ^ 60 /\ 0 <= st /\ st < 2147483647
theorem bag_ne {H : Hp} {b l : Addr} {ns : List Int} {i c st n : V} (h : H b = some (.lst [.ref l, i, c, st, n])) (h' : H l = some (.lst (ns.map V.int))) : l ≠ b := by
 intro e
 subst e
 rw [h] at h'
 have e := HO.lst.inj (zq31x h')
 cases ns with
 | nil => cases e
 | cons x r => rw [zq24x] at e; cases (List.cons.inj e).1
theorem BagAt.put {H : Hp} {b l : Addr} {ns : List Int} {i c st n : Int} (hl : l ≠ b) (h' : H l = some (.lst (ns.map V.int))) (h1 : ∀ x ∈ ns, 0 <= x /\ x < 10 ^ 60) (h2 : ns.length <= 63)
  (h3 : 0 <= i) (h4 : 0 <= c) (h5 : c < 10 ^ 60) (h6 : 0 <= st) (h7 : st < 2147483647) : BagAt (upd H b (.lst [.ref l, .int i, .int c, .int st, .int n])) b l :=
 ⟨ns, i, c, st, n, upd_same, by rw [upd_ne hl]; exact h', h1, h2, h3, h4, h5, h6, h7⟩
theorem BagAt.put2 {H : Hp} {b l p : Addr} {o : HO} (h : BagAt H b l) (hp : p ≠ b /\ p ≠ l) : BagAt (upd H p o) b l := by
 obtain ⟨ns, i, c, st, n, h1, h2, r⟩ := h
 exact ⟨ns, i, c, st, n, by rw [upd_ne (zq6x hp.1)]; exact h1, by rw [upd_ne (zq6x hp.2)]; exact h2, r⟩
theorem BagAt.same {H H' : Hp} {b l : Addr} (h : BagAt H b l) (s : Same H H') : BagAt H' b l := by
 obtain ⟨ns, i, c, st, n, h1, h2, r⟩ := h
 exact ⟨ns, i, c, st, n, s _ _ h1, s _ _ h2, r⟩
def spDraw : Sp := fun vs H Q _ => ∃ (b l : Addr) (many : Int), vs = [.ref b, .int many] /\ BagAt H b l /\ 0 < many /\ Sm many /\ ∀ (r : Int) (H' : Hp), 0 <= r -> r < many -> But (Nb b) H H' -> BagAt H' b l -> Q (.int r) H'
def spBag (K : PySem.W.Frag) : Sp := fun vs H Q _ => ∃ (a : Addr) (ns : List Int), vs = [.ref a] /\ SqL K H a (ns.map V.int) /\ ns.length <= 63 /\ ∀ (b l : Addr) (H' : Hp), Same H H' -> H b = none -> BagAt H' b l -> Q (.ref b) H'
theorem atI_some {α : Type} {xs : List α} {i : Int} {v : α} (h0 : 0 <= i) (h : xs[i.toNat]? = some v) : atI xs i = some v := by
 have e : i = ((i.toNat : Nat) : Int) := by omega
 rw [e]
 exact atI_nat h
theorem same_new {H : Hp} {p : Addr} {o : HO} (h : H p = none) : Same H (upd H p o) := fun b u q => by rw [upd_ne (ne_of_none q h)]; exact q
section
variable {nb : Addr -> Prop} {H H' : Hp}
theorem IsDs.length : ∀ {ds : List PyData} {xs : List V}, IsDs nb H ds xs -> xs.length = ds.length
 | [], _, h => by unfold IsDs at h; subst h; rfl
 | d :: ds, _, h => by unfold IsDs at h; obtain ⟨y, ys, rfl, _, h2⟩ := h; simp [IsDs.length h2]
theorem IsDs.get : ∀ {ds : List PyData} {xs : List V} {i : Nat} {d : PyData}, IsDs nb H ds xs -> ds[i]? = some d -> ∃ x, xs[i]? = some x /\ IsD nb H d x
 | [], _, _, _, _, e => by simp at e
 | d :: ds, _, 0, _, h, e => by unfold IsDs at h; obtain ⟨y, ys, rfl, h1, h2⟩ := h; simp at e; subst e; exact ⟨y, rfl, h1⟩
 | d :: ds, _, i + 1, _, h, e => by unfold IsDs at h; obtain ⟨y, ys, rfl, h1, h2⟩ := h; simpa using IsDs.get (i := i) h2 (by simpa using e)
theorem IsDs.snoc {d : PyData} {x : V} (hd : IsD nb H d x) : ∀ {ds : List PyData} {xs : List V}, IsDs nb H ds xs -> IsDs nb H (ds ++ [d]) (xs ++ [x])
 | [], _, h => by unfold IsDs at h; subst h; unfold IsDs; exact ⟨x, [], rfl, hd, by unfold IsDs; rfl⟩
 | e :: ds, _, h => by unfold IsDs at h; obtain ⟨y, ys, rfl, h1, h2⟩ := h; show IsDs nb H (e :: (ds ++ [d])) _; unfold IsDs; exact ⟨y, ys ++ [x], rfl, h1, IsDs.snoc hd h2⟩
theorem IsDs.append : ∀ {ds es : List PyData} {xs ys : List V}, IsDs nb H ds xs -> IsDs nb H es ys -> IsDs nb H (ds ++ es) (xs ++ ys)
 | [], _, _, _, h, h' => by unfold IsDs at h; subst h; exact h'
 | e :: ds, es, _, zs, h, h' => by unfold IsDs at h; obtain ⟨y, ys, rfl, h1, h2⟩ := h; show IsDs nb H (e :: (ds ++ es)) _; unfold IsDs; exact ⟨y, ys ++ zs, rfl, h1, IsDs.append h2 h'⟩
theorem IsDs.take : ∀ {ds : List PyData} {xs : List V} (n : Nat), IsDs nb H ds xs -> IsDs nb H (ds.take n) (xs.take n)
 | _, _, 0, _ => by simp only [List.take_zero]; unfold IsDs; rfl
 | [], _, n + 1, h => by unfold IsDs at h; subst h; simp only [List.take_nil]; unfold IsDs; rfl
 | d :: ds, _, n + 1, h => by unfold IsDs at h; obtain ⟨y, ys, rfl, h1, h2⟩ := h; simp only [List.take_succ_cons]; unfold IsDs; exact ⟨y, _, rfl, h1, IsDs.take n h2⟩
theorem IsDs.drop : ∀ {ds : List PyData} {xs : List V} (n : Nat), IsDs nb H ds xs -> IsDs nb H (ds.drop n) (xs.drop n)
 | _, _, 0, h => h
 | [], _, n + 1, h => by unfold IsDs at h; subst h; simp only [List.drop_nil]; unfold IsDs; rfl
 | d :: ds, _, n + 1, h => by unfold IsDs at h; obtain ⟨y, ys, rfl, h1, h2⟩ := h; simp only [List.drop_succ_cons]; exact IsDs.drop n h2
theorem IsDs.nil : IsDs nb H [] [] := by unfold IsDs; rfl
theorem IsDs.cons {d : PyData} {x : V} {ds : List PyData} {xs : List V} (h1 : IsD nb H d x) (h2 : IsDs nb H ds xs) : IsDs nb H (d :: ds) (x :: xs) := by unfold IsDs; exact ⟨x, xs, rfl, h1, h2⟩
theorem IsD.int (i : Int) : IsD nb H (.int i) (.int i) := by unfold IsD; rfl
theorem IsD.non : IsD nb H .none .non := by unfold IsD; rfl
theorem IsD.bl (b : Bool) : IsD nb H (.bool b) (.bl b) := by unfold IsD; rfl
theorem IsD.lst {a : Addr} {ds : List PyData} {xs : List V} (n : ¬ nb a) (h : H a = some (.lst xs)) (hd : IsDs nb H ds xs) : IsD nb H (.list ds) (.ref a) := by unfold IsD; exact ⟨a, xs, rfl, n, h, hd⟩
theorem IsD.tup {a : Addr} {ds : List PyData} {xs : List V} (n : ¬ nb a) (h : H a = some (.tup xs)) (hd : IsDs nb H ds xs) : IsD nb H (.tuple ds) (.ref a) := by unfold IsD; exact ⟨a, xs, rfl, n, h, hd⟩
theorem IsD.ofL {v : V} {ds : List PyData} (h : IsD nb H (.list ds) v) : ∃ a xs, v = .ref a /\ ¬ nb a /\ H a = some (.lst xs) /\ IsDs nb H ds xs := by unfold IsD at h; exact h
theorem IsD.ofT {v : V} {ds : List PyData} (h : IsD nb H (.tuple ds) v) : ∃ a xs, v = .ref a /\ ¬ nb a /\ H a = some (.tup xs) /\ IsDs nb H ds xs := by unfold IsD at h; exact h
theorem IsD.ofI {v : V} {i : Int} (h : IsD nb H (.int i) v) : v = .int i := by unfold IsD at h; exact h
theorem IsD.ofN {v : V} (h : IsD nb H .none v) : v = .non := by unfold IsD at h; exact h
end
def spWhole : Sp := fun vs H Q _ => ∃ i : Int, vs = [.int i] /\ Q (.bl true) H
def spLaw (K : PySem.W.Frag) : Sp := fun vs H Q _ => ∃ (a : Addr) (ns : List Int), vs = [.ref a] /\ SqL K H a (ns.map V.int) /\ ns.length <= 63 /\ ∀ H', Q (.bl true) H'
end L2
set_option maxRecDepth 100000
set_option maxHeartbeats 1000000
namespace L2
open PySem PySem.Spec PyProof.Rows
def mkL (Q : VK) : List V -> Hp -> Prop := fun xs H1 => xs.length <= sizeLine /\ ∀ p, H1 p = none -> Q (.ref p) (upd H1 p (.lst xs))
def rListOf (K : PySem.W.Frag) : List V -> Hp -> VK -> Prop := fun xs H Q => ∃ p ys, xs = [.ref p] /\ (SqL K H p ys \/ SqT K H p ys) /\ ∀ l, H l = none -> Q (.ref l) (upd H l (.lst ys))
theorem call_listM {X : Cx} : CallR X (.type "list") (rListOf X.K) := call_list_of
def rIs : R2 := fun x y H Q => y = .non /\ Q (.bl (decide (x = .non))) H
theorem op_isM {X : Cx} : OpR X (compareOp .Is) rIs := op_isN
def intOf : Expr -> Option Int
 | .Constant (.int i) _ _ => some i
 | _ => none
theorem intOf_eq {e : Expr} {i : Int} (h : intOf e = some i) : ∃ k p, e = .Constant (.int i) k p := by
 unfold intOf at h
 split at h
 ·cases h; exact ⟨_, _, rfl⟩
 ·cases h
def constInts : List Expr -> Option (List Int)
 | [] => some []
 | e :: r => (intOf e).bind fun i => (constInts r).map (i :: ·)
def tInts (is : List Int) : TA := fun _ H Q => Q (is.map V.int) H
theorem pa_consts {X : Cx} : ∀ {es : List Expr} {is : List Int}, constInts es = some is -> PA X es (tInts is) := by
  intro es
  induction es with
  | nil =>
    intro is h
    have e : is = [] := by simpa [constInts] using h.symm
    subst e
    exact pa_nil
  | cons e r ih =>
    intro is h
    unfold constInts at h
    cases hi : intOf e with
    | none => rw [hi] at h; cases h
    | some i =>
      rw [hi] at h
      obtain ⟨k, p, rfl⟩ := intOf_eq hi
      obtain ⟨js, hj, rfl⟩ := zq74x.mp (show (constInts r).map (i :: ·) = some is from h)
      exact pa_cons (te := tC (.int i)) (t := tInts js) pe_int (ih hj)
theorem ps_setInts {X : Cx} {i : Nat} {x : Str} {es : List Expr} {is : List Int} {p1 p2 p3 : Pos} (hN : X.N.Nodup) (hi : X.N[i]? = some x) (hx : Loc X.env.scope x) (h : constInts es = some is) (hf : X.fn x = true \/ X.env.scope.names.lookup x = some .local) :
  PS X (.Assign [.Name x p1] (.List es p2) p3) (tAsg (tLst (tInts is)) (gName i)) := ps_set hN hi hx (pe_lst (pa_consts h)) rfl hf
namespace R
section
variable {σ : St} {H : Hp} {Q : VK} {D : Ends} {ta tb te : TE} {K : PySem.W.Frag}
theorem seq {t u : TS} (h : t { D with nx := u D } σ H) : tSeq t u D σ H := h
theorem asg {g : TG} (h : te σ H fun x H1 => g x σ H1 D.nx) : tAsg te g D σ H := h
theorem ifS {c : TT} {t u : TS} (h : c σ H fun b H1 => if b = true then t D σ H1 else u D σ H1) : tIfS c t u D σ H := h
theorem ret (h : te σ H D.rt) : tRet te D σ H := h
theorem next (h : D.nx σ H) : tNext D σ H := h
theorem var {i : Nat} {v : V} (e : σ[i]? = some (some v)) (h : Q v H) : tVar i σ H Q := ⟨v, e, h⟩
theorem c {v : V} (h : Q v H) : tC v σ H Q := h
theorem op {r : R2} (h : ta σ H fun x H1 => tb σ H1 fun y H2 => r x y H2 Q) : tOp r ta tb σ H Q := h
theorem test {q : Bool -> Hp -> Prop} (h : te σ H fun x H' => ∃ k, x = .bl k /\ q k H') : tTest te σ H q := h
theorem bl {P : Bool -> Prop} {b : Bool} (h : P b) : ∃ k, V.bl b = .bl k /\ P k := ⟨b, rfl, h⟩
theorem and {t u : TT} {q : Bool -> Hp -> Prop} (h : t σ H fun c H1 => if c = true then u σ H1 q else q false H1) : tAnd t u σ H q := h
theorem cb {r : List V -> Hp -> VK -> Prop} {t : TA} (h : t σ H fun vs H1 => r vs H1 Q) : tCB r t σ H Q := h
theorem call {sp : Sp} {t : TA} (h : t σ H fun vs H1 => sp (vs ++ []) H1 Q E0) : tCall sp [] E0 t σ H Q := h
theorem nil {q : List V -> Hp -> Prop} (h : q [] H) : tNil σ H q := h
theorem cons {t : TA} {q : List V -> Hp -> Prop} (h : ta σ H fun x H1 => t σ H1 fun xs H2 => q (x :: xs) H2) : tCons ta t σ H q := h
theorem lst {t : TA} (h : t σ H (mkL Q)) : tLst t σ H Q := h
theorem sl {r : V -> Option Int -> Option Int -> Hp -> VK -> Prop} {tl th : TO} (h : te σ H fun x H1 => tl σ H1 fun l H2 => th σ H2 fun u H3 => r x l u H3 Q) : tSl r te tl th σ H Q := h
theorem noPart {q : Option Int -> Hp -> Prop} (h : q none H) : tNoPart σ H q := h
theorem part {q : Option Int -> Hp -> Prop} (h : te σ H fun x H1 => ∃ i, x = .int i /\ q (some i) H1) : tPart te σ H q := h
theorem partI {P : Int -> Prop} {i : Int} (h : P i) : ∃ j, V.int i = .int j /\ P j := ⟨i, rfl, h⟩
theorem bm0 {T : String} {r : V -> List V -> Hp -> VK -> Prop} (h : te σ H fun x H1 => tyV K T x H1 /\ r x [] H1 Q) : tBM0 K T r te σ H Q := h
theorem bm {T : String} {r : V -> List V -> Hp -> VK -> Prop} {t : TA} (h : te σ H fun x H1 => tyV K T x H1 /\ t σ H1 fun xs H2 => r x xs H2 Q) : tBM K T r te t σ H Q := h
theorem gname {i : Nat} {v : V} {q : St -> Hp -> Prop} (h : q (σ.set i (some v)) H) : gName i v σ H q := h
theorem gsub {to ti : TE} {t : TSet} {v : V} {q : St -> Hp -> Prop} (h : to σ H fun o H1 => ti σ H1 fun i H2 => t o i v H2 fun H3 => q σ H3) : gSub to ti t v σ H q := h
theorem noTest {q : Bool -> Hp -> Prop} (h : q true H) : tNoTest σ H q := h
theorem rI0 {g : Int -> Int -> V} {i j : Int} (h : Q (g i j) H) : L2.rI0 g (.int i) (.int j) H Q := ⟨i, j, rfl, rfl, h⟩
theorem rI {C : Int -> Int -> Prop} {g : Int -> Int -> V} {i j : Int} (hc : C i j) (h : Q (g i j) H) : L2.rI C g (.int i) (.int j) H Q := ⟨i, j, rfl, rfl, hc, h⟩
theorem dec_i {i j : Int} : decide (V.int i = V.int j) = decide (i = j) := by rw [zq70x]; simp
theorem eqI {i j : Int} (h : Q (.bl (decide (i = j))) H) : rEq (.int i) (.int j) H Q := ⟨rfl, by rw [dec_i]; exact h⟩
theorem ixM {p : Addr} {xs : List V} {i : Int} {v : V} (hp : H p = some (.lst xs)) (e : atI xs i = some v) (h : Q v H) : rIxL K (.ref p) (.int i) H Q := ⟨p, xs, i, v, rfl, rfl, SqL.of hp, e, h⟩
theorem ixS {p : Addr} {o : HO} {xs : List V} {i : Int} {v : V} (e : atI xs i = some v) (h : Q v (upd H p (.lst xs))) : rIxL K (.ref p) (.int i) (upd H p (.lst xs)) Q := ⟨p, xs, i, v, rfl, rfl, SqL.of upd_same, e, h⟩
theorem setM {p : Addr} {xs : List V} {k : Int} {j : Nat} {v : V} {q : Hp -> Prop} (hp : H p = some (.lst xs)) (e : ixN xs.length k = some j) (h : q (upd H p (.lst (xs.set j v)))) : rSetL (.ref p) (.int k) v H q := ⟨p, xs, k, j, rfl, rfl, hp, e, h⟩
theorem setS {p : Addr} {xs : List V} {k : Int} {j : Nat} {v : V} {q : Hp -> Prop} (e : ixN xs.length k = some j) (h : q (upd H p (.lst (xs.set j v)))) : rSetL (.ref p) (.int k) v (upd H p (.lst xs)) q :=
 ⟨p, xs, k, j, rfl, rfl, upd_same, e, by rw [upd_upd]; exact h⟩
theorem lenM {p : Addr} {xs : List V} {P : List V -> Prop} (hp : H p = some (.lst xs)) (h : P xs) : ∃ a ys, [V.ref p] = [.ref a] /\ (SqL K H a ys \/ SqT K H a ys) /\ P ys := ⟨p, xs, rfl, .inl (SqL.of hp), h⟩
theorem slL {p : Addr} {xs : List V} {lo hi : Option Int} (hp : SqL K H p xs) (h : ∀ a, H a = none -> Q (.ref a) (upd H a (.lst (cutV xs lo hi)))) : rSlL K (.ref p) lo hi H Q := ⟨p, xs, rfl, hp, h⟩
theorem abs1 {a : Int} {P : Int -> Prop} (h : P a) : ∃ i, [V.int a] = [.int i] /\ P i := ⟨a, rfl, h⟩
theorem lstA {xs : List V} (h : xs.length <= 10000) (q : ∀ p H', Same H H' -> H p = none -> H' p = some (.lst xs) -> Q (.ref p) H') : mkL Q xs H :=
 ⟨zq26x h (by decide), fun p hp => q p _ (same_new hp) hp upd_same⟩
theorem slA {p : Addr} {xs : List V} {lo hi : Option Int} (hp : SqL K H p xs) (q : ∀ a H', Same H H' -> H a = none -> H' a = some (.lst (cutV xs lo hi)) -> Q (.ref a) H') : rSlL K (.ref p) lo hi H Q := ⟨p, xs, rfl, hp, fun a ha => q a _ (same_new ha) ha upd_same⟩
theorem iteP {c A B : Prop} [Decidable c] (h : c) (q : A) : if c then A else B := by rw [if_pos h]; exact q
theorem iteN {c A B : Prop} [Decidable c] (h : ¬ c) (q : B) : if c then A else B := by rw [if_neg h]; exact q
theorem dT {c : Prop} [Decidable c] (h : c) : decide c = true := decide_eq_true h
theorem dF {c : Prop} [Decidable c] (h : ¬ c) : ¬ decide c = true := by rw [decide_eq_false h]; exact zq11x
theorem dFn {c : Prop} [Decidable c] (h : c) : ¬ (!decide c) = true := by rw [decide_eq_true h]; decide
theorem rng2 {t : TA} {R : It -> Hp -> Prop} (h : t σ H fun vs H1 => ∃ i j : Int, vs = [.int i, .int j] /\ (-(2 ^ 62) <= i /\ i < 2 ^ 62 /\ -(2 ^ 62) <= j /\ j < 2 ^ 62) /\ R (Itr i (j - i).toNat) H1) : iRng2 t σ H R := h
theorem rng2I {P : Int -> Int -> Prop} {a b : Int} (h1 : -(2 ^ 62) <= a /\ a < 2 ^ 62 /\ -(2 ^ 62) <= b /\ b < 2 ^ 62) (h : P a b) : ∃ i j : Int, [V.int a, V.int b] = [.int i, .int j] /\ (-(2 ^ 62) <= i /\ i < 2 ^ 62 /\ -(2 ^ 62) <= j /\ j < 2 ^ 62) /\ P i j := ⟨a, b, rfl, h1, h⟩
theorem iL {tl : TE} {R : It -> Hp -> Prop} (h : tl σ H fun x H1 => ∃ a, x = .ref a /\ (∃ xs, SqL K H1 a xs) /\ R (Itl K a) H1) : iList K tl σ H R := h
theorem iL1 {P : Addr -> Prop} {p : Addr} {xs : List V} (hp : SqL K H p xs) (h : P p) : ∃ a, V.ref p = .ref a /\ (∃ xs, SqL K H a xs) /\ P a := ⟨p, rfl, ⟨xs, hp⟩, h⟩
theorem for_ {wi : TI} {g : TG} {tb : TS} (h : wi σ H fun J H1 => ∃ W : Nat -> Nat -> St -> Hp -> Prop, (∃ m, W 0 m σ H1) /\ ∀ i m σ H, W i m σ H ->
 (J.stop i H /\ D.nx σ H) \/ (J.go i H /\ ∃ N : St -> Hp -> Prop, (∀ σ' H', N σ' H' -> ∃ m', m' < m /\ W (i + 1) m' σ' H') /\ ∀ x H', J.yld i H x H' -> g x σ H' fun σ2 H2 => tb { D with nx := N, ct := N, bk := D.nx } σ2 H2)) : tFor wi g tb D σ H := h
theorem comp {wi : TI} {g : TG} {tc : TT} {mp : List (Option Nat)} (h : wi σ H fun J H1 => ∀ acc, H1 acc = none -> CompW J g tc te acc (fun H' => Q (.ref acc) H') (startC mp σ) (upd H1 acc (.lst []))) : tComp wi g tc te mp σ H Q := h
end
theorem comp_range {lo : Int} {n : Nat} {g : TG} {tc : TT} {te : TE} {acc : Addr} {Qe : Hp -> Prop} {σ : St} {H : Hp} (Pv : Nat -> St -> Hp -> Prop) (h0 : Pv 0 σ H)
  (hs : ∀ i σ H, i < n -> Pv i σ H -> g (.int (lo + i)) σ H fun σ2 H2 => tc σ2 H2 fun b H3 => if b = true then te σ2 H3 fun v H4 => ∃ ys, H4 acc = some (.lst ys) /\ ys.length < sizeLine /\ Pv (i + 1) σ2 (upd H4 acc (.lst (ys ++ [v]))) else Pv (i + 1) σ2 H3)
  (hd : ∀ σ H, Pv n σ H -> Qe H) : CompW (Itr lo n) g tc te acc Qe σ H := by
 refine ⟨fun i m σ H => m = n - i /\ i <= n /\ Pv i σ H, ⟨n, by simp, zq37x _, h0⟩, ?_⟩
 rintro i m σ H ⟨rfl, hi, p⟩
 by_cases hlt : i < n
 ·refine .inr ⟨hlt, Pv (i + 1), fun σ' H' p' => ⟨n - (i + 1), by omega, rfl, hlt, p'⟩, fun x H' y => ?_⟩
  obtain ⟨e, y⟩ := y
  subst e y
  exact hs i σ _ hlt p
 ·have e : i = n := by omega
  subst e
  exact .inl ⟨zq3x _, hd σ H p⟩
theorem comp_list {K : PySem.W.Frag} {a : Addr} {xs : List V} {g : TG} {tc : TT} {te : TE} {acc : Addr} {Qe : Hp -> Prop} {σ : St} {H : Hp} (Pv : Nat -> St -> Hp -> Prop) (h0 : Pv 0 σ H) (hl : ∀ i σ H, i <= xs.length -> Pv i σ H -> SqL K H a xs)
  (hs : ∀ i x σ H, xs[i]? = some x -> Pv i σ H -> g x σ H fun σ2 H2 => tc σ2 H2 fun b H3 => if b = true then te σ2 H3 fun v H4 => ∃ ys, H4 acc = some (.lst ys) /\ ys.length < sizeLine /\ Pv (i + 1) σ2 (upd H4 acc (.lst (ys ++ [v]))) else Pv (i + 1) σ2 H3)
  (hd : ∀ σ H, Pv xs.length σ H -> Qe H) : CompW (Itl K a) g tc te acc Qe σ H := by
 refine ⟨fun i m σ H => m = xs.length - i /\ i <= xs.length /\ Pv i σ H, ⟨xs.length, by simp, zq37x _, h0⟩, ?_⟩
 rintro i m σ H ⟨rfl, hi, p⟩
 have q := hl i σ H hi p
 by_cases hlt : i < xs.length
 ·refine .inr ⟨⟨xs, xs[i], q, by simp [hlt]⟩, Pv (i + 1), fun σ' H' p' => ⟨xs.length - (i + 1), by omega, rfl, hlt, p'⟩, fun x H' y => ?_⟩
  obtain ⟨e, y⟩ := y
  subst e
  exact hs i x σ _ (y xs q) p
 ·have e : i = xs.length := by omega
  subst e
  exact .inl ⟨⟨xs, q, zq3x _⟩, hd σ H p⟩
end R
end L2
set_option maxRecDepth 100000
set_option maxHeartbeats 1000000
namespace L2
open PySem PySem.Spec PyProof.Rows
@[reducible] def pairD (pr : Int × Int) : PyData := .tuple [.int pr.1, .int pr.2]
def optD : Option Int -> PyData
 | none => .none
 | some i => .int i
def termOf (wd : List (Option Int)) (pr : Int × Int) : Int := match wd[pr.1.toNat]? with
 | some (some x) => pr.2 * x
 | _ => 0
def dueSum (prs : List (Int × Int)) (wd : List (Option Int)) : Int := (prs.map (termOf wd)).sum
theorem shaped_pairs (prs : List (Int × Int)) : SeqAt.shaped (.list (prs.map pairD)) = true /\ PyData.depthAll (prs.map pairD) <= 1 /\ PyData.canLayAll0 (prs.map pairD) = true := by
 have h : PyData.depthAll (prs.map pairD) <= 1 /\ PyData.canLayAll0 (prs.map pairD) = true := by
  induction prs with
  | nil => simp [PyData.depthAll, PyData.canLayAll0]
  | cons a r ih => simp [pairD, PyData.depthAll, PyData.depth, PyData.canLayAll0, PyData.canLay0, ih.2]; have := ih.1; omega
 refine ⟨?_, h⟩
 unfold SeqAt.shaped
 simp [PyData.canLay0, PyData.depth, h.2]
 omega
def NoDiv (r : Int) : Prop := ∀ d : Int, 2 <= d -> d * d <= r -> r % d ≠ 0
def primeList : List Int := [2, 3, 5, 7, 2, 11, 101, 10007, 65537, 1000003, 998244353, 1000000007, 2147483647, 1000000000039, 1000000000000000003, 18446744073709551557, 2305843009213693951, 618970019642690137449562111, 162259276829213363391578010288127, 170141183460469231731687303715884105727, 1000000000000000000000000000000000000003, 9999999999999999999999999999999999999983]
def IsP (p : Int) : Prop := 2 <= p /\ p < 10 ^ 40 /\ (p ∈ primeList \/ NoDiv p)
def spPrimeFrom : Sp := fun vs H Q _ => ∃ n : Int, vs = [.int n] /\ 2 <= n /\ n <= 10002 /\ ∀ (r : Int) (H' : Hp), Same H H' -> 2 <= r -> r <= 10100 -> NoDiv r -> Q (.int r) H'
def spPrime : Sp := fun vs H Q _ => ∃ (b l : Addr), vs = [.ref b] /\ BagAt H b l /\ ∀ (p : Int) (H' : Hp), IsP p -> But (Nb b) H H' -> BagAt H' b l -> Q (.int p) H'
def LossyOf (wd : List Int) (ld : List (Option Int)) : Prop := ld.length = wd.length /\ ∀ (i : Nat) x, ld[i]? = some (some x) -> wd[i]? = some x
theorem isDs_intsL {nb : Addr -> Prop} {H : Hp} : ∀ is : List Int, IsDs nb H (is.map PyData.int) (is.map V.int)
 | [] => IsDs.nil
 | i :: is => IsDs.cons (.int i) (isDs_intsL is)
theorem isDs_ints_eq {nb : Addr -> Prop} {H : Hp} : ∀ {is : List Int} {xs : List V}, IsDs nb H (is.map PyData.int) xs -> xs = is.map V.int
  | [], _, h => by unfold List.map IsDs at h; exact h
  | i :: is, _, h => by
    rw [zq24x] at h
    unfold IsDs at h
    obtain ⟨y, ys, rfl, h1, h2⟩ := h
    rw [zq24x, h1.ofI, isDs_ints_eq h2]
end L2
set_option maxRecDepth 100000
set_option maxHeartbeats 1000000
namespace L2
open PySem PySem.Spec PyProof.Rows
abbrev Bg := Option (Addr × Addr)
def NB (B : Bg) (a : Addr) : Prop := ∀ b l, B = some (b, l) -> a ≠ b
def BagOk (B : Bg) (H : Hp) : Prop := ∀ b l, B = some (b, l) -> BagAt H b l
def Live (nb : Addr -> Prop) (H : Hp) : Prop := ∀ a, nb a -> H a ≠ none
structure Kp (S : Addr -> Prop) (F : List Addr) (H H' : Hp) : Prop where
 own : ∀ a ∈ F, ∀ o, H a = some o -> H' a = some o
 lst : ∀ a xs, ¬ S a -> H a = some (.lst xs) -> H' a = some (.lst xs)
 tup : ∀ a xs, ¬ S a -> H a = some (.tup xs) -> H' a = some (.tup xs)
 dic : ∀ a ps, ¬ S a -> Rd H a (.dK ps) -> Rd H' a (.dK ps)
theorem Kp.of {S : Addr -> Prop} {F : List Addr} {H H' : Hp} (h : ∀ a o, (¬ S a \/ a ∈ F) -> H a = some o -> H' a = some o) : Kp S F H H' :=
 ⟨fun a ha o e => h a o (.inr ha) e, fun a xs n e => h a _ (.inl n) e, fun a xs n e => h a _ (.inl n) e, fun a ps n e => e.elim (fun e => .inl (h a _ (.inl n) e)) fun ⟨o, e⟩ => .inr ⟨o, h a _ (.inl n) e⟩⟩
mutual
theorem IsD.kp {S : Addr -> Prop} {F : List Addr} {H H' : Hp} (m : Kp S F H H') : ∀ {d : PyData} {v : V}, IsD S H d v -> IsD S H' d v
 | .none, _, h => by unfold IsD at h ⊢; exact h
 | .bool _, _, h => by unfold IsD at h ⊢; exact h
 | .int _, _, h => by unfold IsD at h ⊢; exact h
 | .str _, _, h => by unfold IsD at h ⊢; exact h
 | .list ds, _, h => by unfold IsD at h ⊢; obtain ⟨a, xs, e, n, s, r⟩ := h; exact ⟨a, xs, e, n, m.lst _ _ n s, IsDs.kp m r⟩
 | .tuple ds, _, h => by unfold IsD at h ⊢; obtain ⟨a, xs, e, n, s, r⟩ := h; exact ⟨a, xs, e, n, m.tup _ _ n s, IsDs.kp m r⟩
 | .dict kvs, _, h => by unfold IsD at h ⊢; obtain ⟨a, xs, e, n, s, r⟩ := h; exact ⟨a, xs, e, n, m.dic _ _ n s, IsKs.kp m r⟩
theorem IsDs.kp {S : Addr -> Prop} {F : List Addr} {H H' : Hp} (m : Kp S F H H') : ∀ {ds : List PyData} {vs : List V}, IsDs S H ds vs -> IsDs S H' ds vs
 | [], _, h => by unfold IsDs at h ⊢; exact h
 | d :: ds, _, h => by unfold IsDs at h ⊢; obtain ⟨y, ys, e, h1, h2⟩ := h; exact ⟨y, ys, e, IsD.kp m h1, IsDs.kp m h2⟩
theorem IsKs.kp {S : Addr -> Prop} {F : List Addr} {H H' : Hp} (m : Kp S F H H') : ∀ {ds : List (PyData × PyData)} {vs : List (Key × V)}, IsKs S H ds vs -> IsKs S H' ds vs
 | [], _, h => by unfold IsKs at h ⊢; exact h
 | d :: ds, _, h => by unfold IsKs at h ⊢; obtain ⟨y, ys, e, h1, h2⟩ := h; exact ⟨y, ys, e, IsK.kp m h1, IsKs.kp m h2⟩
theorem IsK.kp {S : Addr -> Prop} {F : List Addr} {H H' : Hp} (m : Kp S F H H') : ∀ {d : PyData × PyData} {v : Key × V}, IsK S H d v -> IsK S H' d v
 | (k, d), _, h => by unfold IsK at h ⊢; exact ⟨h.1, IsD.kp m h.2⟩
end
structure Cu where
 v : V
 F : List Addr
 f : Bool
 P : (Addr -> Prop) -> Hp -> Prop
 keep : ∀ {S : Addr -> Prop} {H H' : Hp}, Kp S F H H' -> P S H -> P S H'
 av : ∀ {S S' : Addr -> Prop} {H : Hp}, (∀ a, S' a -> S a) -> P S H -> P S' H
 fresh : ∀ {S : Addr -> Prop} {H : Hp} {p : Addr}, H p = none -> P S H -> P (fun a => S a \/ a = p) H
inductive HD where
 | d (x : PyData) | fz (o : Obj) (ps : List (Key × V)) | th (c : Cu)
def IsH (S : Addr -> Prop) (H : Hp) : HD -> V -> Prop
 | .d x, v => IsD S H x v
 | .fz o ps, v => ∃ a, v = .ref a /\ ¬ S a /\ H a = some (.frz o (.dK ps))
 | .th c, v => v = c.v /\ (∀ a ∈ c.F, ¬ S a /\ H a ≠ none) /\ c.P S H
theorem IsH.keep {S : Addr -> Prop} {H H' : Hp} {x : HD} {v : V} (h : IsH S H x v) (b : But S H H') : IsH S H' x v := by
  cases x with
  | d x => exact IsD.keep b h
  | fz o ps => obtain ⟨a, e, n, q⟩ := h; exact ⟨a, e, n, b _ _ n q⟩
  | th c =>
    obtain ⟨e, n, q⟩ := h
    refine ⟨e, fun a m => ⟨(n a m).1, ?_⟩, c.keep (.of fun a o m q => b a o (m.elim id fun m => (n a m).1) q) q⟩
    cases z : H a with
    | none => exact absurd z (n a m).2
    | some o => rw [b a o (n a m).1 z]; exact zq35x _
theorem IsH.av {S S' : Addr -> Prop} {H : Hp} {x : HD} {v : V} (h : IsH S H x v) (b : ∀ a, S' a -> S a) : IsH S' H x v := by
 cases x with
 | d x => exact IsD.av b h
 | fz o ps => obtain ⟨a, e, n, q⟩ := h; exact ⟨a, e, fun z => n (b a z), q⟩
 | th c => obtain ⟨e, n, q⟩ := h; exact ⟨e, fun a m => ⟨fun z => (n a m).1 (b a z), (n a m).2⟩, c.av b q⟩
theorem IsH.fresh {S : Addr -> Prop} {H : Hp} {x : HD} {v : V} {p : Addr} (h : IsH S H x v) (hp : H p = none) : IsH (fun a => S a \/ a = p) H x v := by
 cases x with
 | d x => exact IsD.fresh hp h
 | fz o ps => obtain ⟨a, e, n, q⟩ := h; exact ⟨a, e, fun z => z.elim n (ne_of_none q hp), q⟩
 | th c => obtain ⟨e, n, q⟩ := h; exact ⟨e, fun a m => ⟨fun z => z.elim (n a m).1 fun y => (n a m).2 (by rw [y]; exact hp), (n a m).2⟩, c.fresh hp q⟩
structure Gx where
 B : Bg
 H0 : Hp
 A : Addr -> Prop
 hold : List (Bool × HD × V) := []
inductive Sl where
 | no | d (f : Bool) (d : PyData) | own (a : Addr) (f : Bool) (ds : List PyData) | bag | raw (v : V) | dic (a : Addr) (f : Bool) (ks : List (Int × PyData)) | cu (c : Cu)
def Sl.adr : Sl -> List Addr
 | .own a _ _ => [a]
 | .dic a _ _ => [a]
 | .cu c => c.F
 | _ => []
@[reducible] def kvD (p : Int × PyData) : PyData × PyData := (.int p.1, p.2)
abbrev Rh := List Sl
def Gx.S (G : Gx) (nb : Addr -> Prop) (f : Bool) : Addr -> Prop := fun a => nb a \/ G.A a \/ ¬ NB G.B a \/ (f = true /\ G.H0 a ≠ none)
def SlOk (G : Gx) (nb : Addr -> Prop) (H : Hp) (x : Option V) : Sl -> Prop
 | .no => True
 | .d f d => ∃ v, x = some v /\ IsD (G.S nb f) H d v
 | .own a f ds => x = some (.ref a) /\ nb a /\ NB G.B a /\ ∃ xs, H a = some (.lst xs) /\ IsDs (G.S nb f) H ds xs
 | .bag => ∃ b l, G.B = some (b, l) /\ x = some (.ref b)
 | .raw v => x = some v
 | .dic a f ks => x = some (.ref a) /\ nb a /\ NB G.B a /\ ∃ ps, H a = some (.dK ps) /\ IsKs (G.S nb f) H (ks.map kvD) ps
 | .cu c => x = some c.v /\ (∀ a ∈ c.F, nb a /\ NB G.B a) /\ c.P (G.S nb c.f) H
structure Wd (G : Gx) (nb : Addr -> Prop) (ρ : Rh) (σ : St) (H : Hp) : Prop where
 bag : BagOk G.B H
 live : Live nb H
 old : ∀ a o, NB G.B a -> G.H0 a = some o -> H a = some o
 nbo : ∀ a, nb a -> NB G.B a -> G.H0 a = none
 gA : Live G.A G.H0
 len : σ.length = ρ.length
 gB : BagOk G.B G.H0
 hld : ∀ h ∈ G.hold, IsH (G.S nb h.1) H h.2.1 h.2.2
 ok : ∀ (i : Nat) (s : Sl), ρ[i]? = some s -> ∃ x, σ[i]? = some x /\ SlOk G nb H x s
 apart : ∀ (i j : Nat) a f as c g cs, i ≠ j -> ρ[i]? = some (.own a f as) -> ρ[j]? = some (.own c g cs) -> a ≠ c
 apd : ∀ (i j : Nat) a f as c g cs, i ≠ j -> ρ[i]? = some (.dic a f as) -> ρ[j]? = some (.dic c g cs) -> a ≠ c
 apc : ∀ (i j : Nat) c s, i ≠ j -> ρ[i]? = some (.cu c) -> ρ[j]? = some s -> ∀ a ∈ c.F, a ∉ s.adr
def Step (B : Bg) (H H' : Hp) : Prop := (∀ a o, NB B a -> H a = some o -> H' a = some o) /\ BagOk B H'
section
variable {G : Gx} {B : Bg} {nb : Addr -> Prop} {ρ : Rh} {σ : St} {H H1 H2 H' : Hp} {f g : Bool} {d : PyData} {ds : List PyData} {v : V} {xs : List V} {a p : Addr}
theorem Step.refl (h : BagOk B H) : Step B H H := ⟨fun _ _ _ e => e, h⟩
theorem Step.trans (x : Step B H H1) (y : Step B H1 H2) : Step B H H2 := ⟨fun a o n e => y.1 a o n (x.1 a o n e), y.2⟩
theorem BagOk.same (h : BagOk B H) (s : Same H H') : BagOk B H' := fun b l e => (h b l e).same s
theorem Step.same (h : BagOk B H) (s : Same H H') : Step B H H' := ⟨fun a o _ e => s a o e, h.same s⟩
theorem Step.but {nb' : Addr -> Prop} (s : Step B H H') (h : ∀ a, ¬ NB B a -> nb' a) : But nb' H H' := fun a o n e => s.1 a o (zq40x fun z => n (h a z)) e
theorem Step.butS (s : Step G.B H H') : But (G.S nb f) H H' := s.but fun a h => .inr (.inr (.inl h))
theorem S_mono (h : g = true -> f = true) {nb' : Addr -> Prop} (hn : ∀ a, nb a -> nb' a) : ∀ a, G.S nb g a -> G.S nb' f a := by
 intro a z
 rcases z with z | z | z | ⟨z, q⟩
 ·exact .inl (hn a z)
 ·exact .inr (.inl z)
 ·exact .inr (.inr (.inl z))
 ·exact .inr (.inr (.inr ⟨h z, q⟩))
theorem NB.bag_live (h : BagOk B H) (n : ¬ NB B a) : H a ≠ none := by
 intro e
 apply n
 intro b l hb z
 subst z
 obtain ⟨_, _, _, _, _, h1, _⟩ := h _ _ hb
 rw [h1] at e; cases e
theorem Wd.liveS (W : Wd G nb ρ σ H) : Live (G.S nb f) H := by
 intro a z
 rcases z with z | z | z | ⟨_, z⟩
 ·exact W.live a z
 ·by_cases n : NB G.B a
  ·cases e : G.H0 a with
   | none => exact absurd e (W.gA a z)
   | some o => rw [W.old a o n e]; exact zq35x _
  ·exact NB.bag_live W.bag n
 ·exact NB.bag_live W.bag z
 ·by_cases n : NB G.B a
  ·cases e : G.H0 a with
   | none => exact absurd e z
   | some o => rw [W.old a o n e]; exact zq35x _
  ·exact NB.bag_live W.bag n
theorem Wd.fresh (W : Wd G nb ρ σ H) (hp : H p = none) : ¬ G.S nb f p := fun z => W.liveS p z hp
theorem SlOk.step {x : Option V} {s : Sl} (st : Step G.B H H') (h : SlOk G nb H x s) : SlOk G nb H' x s := by
  cases s with
  | no => trivial
  | d f d => obtain ⟨v, e, h⟩ := h; exact ⟨v, e, h.keep st.butS⟩
  | own a f ds => obtain ⟨e, n, q, xs, hx, hd⟩ := h; exact ⟨e, n, q, xs, st.1 _ _ q hx, hd.keep st.butS⟩
  | bag => exact h
  | raw v => exact h
  | dic a f ks => obtain ⟨e, n, q, xs, hx, hd⟩ := h; exact ⟨e, n, q, xs, st.1 _ _ q hx, hd.keep st.butS⟩
  | cu c =>
    obtain ⟨e, n, p⟩ := h
    refine ⟨e, n, c.keep (.of fun a o ha e => st.1 a o ?_ e) p⟩
    rcases ha with ha | ha
    · exact zq40x fun z => ha (.inr (.inr (.inl z)))
    · exact (n a ha).2
theorem ne_none_keep (n : NB B a) (st : Step B H H') (h : H a ≠ none) : H' a ≠ none := by
 cases e : H a with
 | none => exact absurd e h
 | some o => rw [st.1 a o n e]; exact zq35x _
theorem Wd.step (W : Wd G nb ρ σ H) (st : Step G.B H H') : Wd G nb ρ σ H' where
 bag := st.2
 live := fun a n => by
  by_cases q : NB G.B a
  ·exact ne_none_keep q st (W.live a n)
  ·exact NB.bag_live st.2 q
 old := fun a o n e => st.1 a o n (W.old a o n e)
 nbo := W.nbo
 gA := W.gA
 len := W.len
 gB := W.gB
 hld := fun h m => (W.hld h m).keep st.butS
 ok := fun i s e => by
  obtain ⟨x, e1, h⟩ := W.ok i s e
  exact ⟨x, e1, h.step st⟩
 apart := W.apart
 apd := W.apd
 apc := W.apc
theorem Wd.set {i : Nat} {s : Sl} {x : Option V} (W : Wd G nb ρ σ H) (h : SlOk G nb H x s) (hs : ∀ a f ds, s = .own a f ds -> ∀ j c g cs, j ≠ i -> ρ[j]? = some (.own c g cs) -> a ≠ c) (hd : ∀ a f ds, s = .dic a f ds -> ∀ j c g cs, j ≠ i -> ρ[j]? = some (.dic c g cs) -> a ≠ c := by intro _ _ _ z; cases z) (hcu : ∀ a ∈ s.adr, ∀ j t, j ≠ i -> ρ[j]? = some t -> (∃ c, s = .cu c) \/ (∃ c, t = .cu c) -> a ∉ t.adr := by intro _ z; cases z) : Wd G nb (ρ.set i s) (σ.set i x) H where
 bag := W.bag
 live := W.live
 old := W.old
 nbo := W.nbo
 gA := W.gA
 len := by rw [zq34x, zq34x]; exact W.len
 gB := W.gB
 hld := W.hld
 ok := fun j t e => by
  by_cases hij : i = j
  ·subst hij
   have hl : i < ρ.length := by have := (zq18x.mp e).1; rwa [zq34x] at this
   rw [zq9x hl] at e
   cases e
   exact ⟨x, zq9x (by rw [W.len]; exact hl), h⟩
  ·rw [zq5x hij] at e ⊢
   exact W.ok j t e
 apart := fun j k a f as c g cs hjk e1 e2 => by
  by_cases hj : i = j
  ·subst hj
   have hl : i < ρ.length := by have := (zq18x.mp e1).1; rwa [zq34x] at this
   rw [zq9x hl] at e1
   cases e1
   rw [zq5x hjk] at e2
   exact hs a f as rfl k c g cs (zq6x hjk) e2
  ·by_cases hk : i = k
   ·subst hk
    have hl : i < ρ.length := by have := (zq18x.mp e2).1; rwa [zq34x] at this
    rw [zq9x hl] at e2
    cases e2
    rw [zq5x hj] at e1
    exact (hs c g cs rfl j a f as hjk e1).symm
   ·rw [zq5x hj] at e1
    rw [zq5x hk] at e2
    exact W.apart j k a f as c g cs hjk e1 e2
 apd := fun j k a f as c g cs hjk e1 e2 => by
  by_cases hj : i = j
  ·subst hj
   have hl : i < ρ.length := by have := (zq18x.mp e1).1; rwa [zq34x] at this
   rw [zq9x hl] at e1
   cases e1
   rw [zq5x hjk] at e2
   exact hd a f as rfl k c g cs (zq6x hjk) e2
  ·by_cases hk : i = k
   ·subst hk
    have hl : i < ρ.length := by have := (zq18x.mp e2).1; rwa [zq34x] at this
    rw [zq9x hl] at e2
    cases e2
    rw [zq5x hj] at e1
    exact (hd c g cs rfl j a f as hjk e1).symm
   ·rw [zq5x hj] at e1
    rw [zq5x hk] at e2
    exact W.apd j k a f as c g cs hjk e1 e2
 apc := fun j k c t hjk e1 e2 a ha => by
  by_cases hj : i = j
  ·subst hj
   have hl : i < ρ.length := by have := (zq18x.mp e1).1; rwa [zq34x] at this
   rw [zq9x hl] at e1
   cases e1
   rw [zq5x hjk] at e2
   exact hcu a ha k t (zq6x hjk) e2 (.inl ⟨c, rfl⟩)
  ·by_cases hk : i = k
   ·subst hk
    have hl : i < ρ.length := by have := (zq18x.mp e2).1; rwa [zq34x] at this
    rw [zq9x hl] at e2
    cases e2
    rw [zq5x hj] at e1
    exact fun z => hcu a z j (.cu c) hjk e1 (.inr ⟨c, rfl⟩) ha
   ·rw [zq5x hj] at e1
    rw [zq5x hk] at e2
    exact W.apc j k c t hjk e1 e2 a ha
theorem Wd.setD {i : Nat} (W : Wd G nb ρ σ H) (h : IsD (G.S nb f) H d v) : Wd G nb (ρ.set i (.d f d)) (σ.set i (some v)) H := W.set ⟨v, rfl, h⟩ fun _ _ _ e => by cases e
inductive Wk : Rh -> Rh -> Prop
 | nil : Wk [] []
 | no {s : Sl} {r r' : Rh} (h : Wk r r') : Wk (.no :: r) (s :: r')
 | eq {s : Sl} {r r' : Rh} (h : Wk r r') : Wk (s :: r) (s :: r')
theorem Wk.at : ∀ {r r' : Rh} {i : Nat} {s : Sl}, Wk r r' -> r[i]? = some s -> s = .no /\ (∃ t, r'[i]? = some t) \/ r'[i]? = some s
 | _, _, _, _, .nil, e => by simp at e
 | _, _, 0, _, .no h, e => by simp at e; subst e; exact .inl ⟨rfl, _, rfl⟩
 | _, _, 0, _, .eq h, e => by simp at e; subst e; exact .inr rfl
 | _, _, i + 1, _, .no h, e => by simpa using Wk.at (i := i) h (by simpa using e)
 | _, _, i + 1, _, .eq h, e => by simpa using Wk.at (i := i) h (by simpa using e)
theorem Wk.len {r r' : Rh} (h : Wk r r') : r.length = r'.length := by
 induction h with
 | nil => rfl
 | no _ ih => simp [ih]
 | eq _ ih => simp [ih]
theorem Wd.wk {ρ' : Rh} (W : Wd G nb ρ' σ H) (h : Wk ρ ρ') : Wd G nb ρ σ H where
 bag := W.bag
 live := W.live
 old := W.old
 nbo := W.nbo
 gA := W.gA
 len := by rw [h.len]; exact W.len
 gB := W.gB
 hld := W.hld
 ok := fun i s e => by
  rcases h.at e with ⟨rfl, t, e'⟩ | e'
  ·obtain ⟨x, e1, _⟩ := W.ok i t e'; exact ⟨x, e1, trivial⟩
  ·exact W.ok i s e'
 apart := fun i j a f as c g cs hij e1 e2 => by
  rcases h.at e1 with ⟨z, _⟩ | e1'
  ·cases z
  rcases h.at e2 with ⟨z, _⟩ | e2'
  ·cases z
  exact W.apart i j a f as c g cs hij e1' e2'
 apd := fun i j a f as c g cs hij e1 e2 => by
  rcases h.at e1 with ⟨z, _⟩ | e1'
  ·cases z
  rcases h.at e2 with ⟨z, _⟩ | e2'
  ·cases z
  exact W.apd i j a f as c g cs hij e1' e2'
 apc := fun i j c s hij e1 e2 a ha => by
  rcases h.at e1 with ⟨z, _⟩ | e1'
  ·cases z
  rcases h.at e2 with ⟨z, _⟩ | e2'
  ·subst z; exact fun z => by cases z
  exact W.apc i j c s hij e1' e2' a ha
theorem Wd.more (W : Wd G nb ρ σ H) (hp : H p = none) {o : HO} : Wd G (fun a => nb a \/ a = p) ρ σ (upd H p o) := by
 have hS : Same H (upd H p o) := same_new hp
 have hN : NB G.B p := fun b l e z => by
  subst z
  obtain ⟨_, _, _, _, _, h1, _⟩ := W.bag _ _ e
  rw [h1] at hp; cases hp
 have W' := W.step (Step.same W.bag hS)
 have hA : ∀ f a, G.S (fun a => nb a \/ a = p) f a -> (G.S nb f a \/ a = p) := fun f a z => by
  rcases z with (z | z) | z | z | z
  ·exact .inl (.inl z)
  ·exact .inr z
  ·exact .inl (.inr (.inl z))
  ·exact .inl (.inr (.inr (.inl z)))
  ·exact .inl (.inr (.inr (.inr z)))
 refine ⟨W'.bag, fun a n => ?_, W'.old, fun a n q => ?_, W.gA, W.len, W.gB, fun h m => (((W.hld h m).fresh hp).av (hA h.1)).keep (But.of hS), fun i s e => ?_, W.apart, W.apd, W.apc⟩
 ·rcases n with n | n
  ·exact W'.live a n
  ·subst n; rw [upd_same]; exact zq35x _
 ·rcases n with n | n
  ·exact W.nbo a n q
  ·subst n
   cases e : G.H0 a with
   | none => rfl
   | some o => rw [W.old a o q e] at hp; cases hp
 ·obtain ⟨x, e1, h⟩ := W.ok i s e
  refine ⟨x, e1, ?_⟩
  cases s with
  | no => trivial
  | d f d => obtain ⟨v, e, h⟩ := h; exact ⟨v, e, ((h.fresh hp).av (hA f)).keep (But.of hS)⟩
  | own a f ds => obtain ⟨e, n, q, xs, hx, hd⟩ := h; exact ⟨e, .inl n, q, xs, hS _ _ hx, ((hd.fresh hp).av (hA f)).keep (But.of hS)⟩
  | bag => exact h
  | raw v => exact h
  | dic a f ds => obtain ⟨e, n, q, xs, hx, hd⟩ := h; exact ⟨e, .inl n, q, xs, hS _ _ hx, ((hd.fresh hp).av (hA f)).keep (But.of hS)⟩
  | cu c => obtain ⟨e, n, q⟩ := h; exact ⟨e, fun a ha => ⟨.inl (n a ha).1, (n a ha).2⟩, c.keep (.of fun a o _ e => hS a o e) (c.av (hA c.f) (c.fresh hp q))⟩
theorem Wd.write (W : Wd G nb ρ σ H) {o : HO} (hp : nb p) (hN : NB G.B p) (ho : ∀ (i : Nat) a f ds, ρ[i]? = some (.own a f ds) -> a ≠ p) (hod : ∀ (i : Nat) a f ds, ρ[i]? = some (.dic a f ds) -> a ≠ p) (hoc : ∀ (i : Nat) c, ρ[i]? = some (.cu c) -> p ∉ c.F) : Wd G nb ρ σ (upd H p o) := by
  have hl : ∀ b l, G.B = some (b, l) -> p ≠ l := fun b l e z => by
    obtain ⟨_, _, _, _, _, _, h2, _⟩ := W.gB b l e
    rw [<- z, W.nbo p hp hN] at h2; cases h2
  have hB : BagOk G.B (upd H p o) := fun b l e => (W.bag b l e).put2 ⟨hN b l e, hl b l e⟩
  have bt : ∀ f, But (G.S nb f) H (upd H p o) := fun f => But.set (.inl hp)
  refine ⟨hB, fun a n => ?_, fun a o' n e => ?_, W.nbo, W.gA, W.len, W.gB, fun h m => (W.hld h m).keep (bt h.1), fun i s e => ?_, W.apart, W.apd, W.apc⟩
  · by_cases z : a = p
    · subst z; rw [upd_same]; exact zq35x _
    · rw [upd_ne z]; exact W.live a n
  · have z : a ≠ p := fun z => by subst z; rw [W.nbo a hp n] at e; cases e
    rw [upd_ne z]; exact W.old a o' n e
  · obtain ⟨x, e1, h⟩ := W.ok i s e
    refine ⟨x, e1, ?_⟩
    cases s with
    | no => trivial
    | d f d => obtain ⟨v, e, h⟩ := h; exact ⟨v, e, h.keep (bt f)⟩
    | own a f ds => obtain ⟨e', n, q, xs, hx, hd⟩ := h; exact ⟨e', n, q, xs, by rw [upd_ne (ho i a f ds e)]; exact hx, hd.keep (bt f)⟩
    | bag => exact h
    | raw v => exact h
    | dic a f ds => obtain ⟨e', n, q, xs, hx, hd⟩ := h; exact ⟨e', n, q, xs, by rw [upd_ne (hod i a f ds e)]; exact hx, hd.keep (bt f)⟩
    | cu c =>
      obtain ⟨e', n, q⟩ := h
      refine ⟨e', n, c.keep (.of fun a o' ha e'' => ?_) q⟩
      rw [upd_ne]
      · exact e''
      · rintro rfl
        rcases ha with ha | ha
        · exact ha (.inl hp)
        · exact hoc i c e ha
end
end L2
set_option maxRecDepth 100000
set_option maxHeartbeats 1000000
namespace L2
open PySem PySem.Spec PyProof.Rows
abbrev Pd := Bool -> PyData -> Prop
def Ev (G : Gx) (ρ : Rh) (te : TE) (Φ : Pd) : Prop := ∀ nb σ H (Q : VK), Wd G nb ρ σ H -> (∀ f v H' d, Φ f d -> Step G.B H H' -> IsD (G.S nb f) H' d v -> Q v H') -> te σ H Q
def EvN (G : Gx) (ρ : Rh) (te : TE) (Φ : Bool -> List PyData -> Prop) : Prop := ∀ nb σ H (Q : VK), Wd G nb ρ σ H ->
 (∀ f a xs H' ds, Φ f ds -> Step G.B H H' -> H a = none -> H' a = some (.lst xs) -> IsDs (fun x => G.S nb f x \/ x = a) H' ds xs -> Q (.ref a) H') -> te σ H Q
def Tv (G : Gx) (ρ : Rh) (tt : TT) (Φ : Bool -> Prop) : Prop := ∀ nb σ H (Q : Bool -> Hp -> Prop), Wd G nb ρ σ H -> (∀ b H', Φ b -> Step G.B H H' -> Q b H') -> tt σ H Q
def Ov (G : Gx) (ρ : Rh) (to : TO) (Φ : Option Int -> Prop) : Prop := ∀ nb σ H (Q : Option Int -> Hp -> Prop), Wd G nb ρ σ H -> (∀ o H', Φ o -> Step G.B H H' -> Q o H') -> to σ H Q
abbrev Fd := Bool × PyData
def IsF (G : Gx) (nb : Addr -> Prop) (H : Hp) : List Fd -> List V -> Prop
 | [], vs => vs = []
 | e :: es, vs => ∃ v ws, vs = v :: ws /\ IsD (G.S nb e.1) H e.2 v /\ IsF G nb H es ws
def Av (G : Gx) (ρ : Rh) (ta : TA) (Φ : List Fd -> Prop) : Prop := ∀ nb σ H (Q : List V -> Hp -> Prop), Wd G nb ρ σ H -> (∀ es vs H', Φ es -> Step G.B H H' -> IsF G nb H' es vs -> Q vs H') -> ta σ H Q
def Gv (G : Gx) (ρ : Rh) (g : TG) (f : Bool) (d : PyData) (Φ : Rh -> Prop) : Prop := ∀ nb σ H v (Q : St -> Hp -> Prop), Wd G nb ρ σ H -> IsD (G.S nb f) H d v -> (∀ σ' ρ', Φ ρ' -> Wd G nb ρ' σ' H -> Q σ' H) -> g v σ H Q
def Gvs (G : Gx) (ρ : Rh) (g : TGs) (f : Bool) (ds : List PyData) (Φ : Rh -> Prop) : Prop := ∀ nb σ H vs (Q : St -> Hp -> Prop), Wd G nb ρ σ H -> IsDs (G.S nb f) H ds vs -> (∀ σ' ρ', Φ ρ' -> Wd G nb ρ' σ' H -> Q σ' H) -> g vs σ H Q
structure DE where
 nx : Rh -> Prop
 rt : Pd
 bk : Rh -> Prop := fun _ => False
 ct : Rh -> Prop := fun _ => False
 rw : (Addr -> Prop) -> Rh -> V -> Hp -> Prop := fun _ _ _ _ => False
structure EndsOk (G : Gx) (E : DE) (D : Ends) : Prop where
 nx : ∀ nb ρ σ H, E.nx ρ -> Wd G nb ρ σ H -> D.nx σ H
 bk : ∀ nb ρ σ H, E.bk ρ -> Wd G nb ρ σ H -> D.bk σ H
 ct : ∀ nb ρ σ H, E.ct ρ -> Wd G nb ρ σ H -> D.ct σ H
 rt : ∀ nb ρ σ f v H d, E.rt f d -> Wd G nb ρ σ H -> IsD (G.S (fun _ => False) f) H d v -> D.rt v H
 rw : ∀ nb ρ σ v H, E.rw nb ρ v H -> Wd G nb ρ σ H -> D.rt v H
def Sv (G : Gx) (ρ : Rh) (ts : TS) (E : DE) : Prop := ∀ nb σ H D, Wd G nb ρ σ H -> EndsOk G E D -> ts D σ H
def scB : PyData -> Bool
 | .none => true | .bool _ => true | .int _ => true | .str _ => true | _ => false
def toV : PyData -> V
 | .bool b => .bl b | .int i => .int i | .str x => .str x | _ => .non
section
variable {nb nb' : Addr -> Prop} {H H' : Hp} {d e : PyData} {v : V}
theorem IsD.sc (h : scB d = true) : IsD nb H d (toV d) := by
 cases d <;> first | (cases h; done) | (unfold IsD; rfl)
theorem IsD.scEq (h : scB d = true) (q : IsD nb H d v) : v = toV d := by
 cases d <;> first | (cases h; done) | (unfold IsD at q; exact q)
theorem IsD.scAny (h : scB d = true) (q : IsD nb H d v) : IsD nb' H' d v := by
 rw [q.scEq h]; exact .sc h
theorem IsDs.scAny : ∀ {ds : List PyData} {xs : List V}, ds.all scB = true -> IsDs nb H ds xs -> IsDs nb' H' ds xs
  | [], _, _, q => by unfold IsDs at q ⊢; exact q
  | d :: ds, _, h, q => by
    rw [zq75x, zq25x] at h
    unfold IsDs at q ⊢
    obtain ⟨y, ys, e, h1, h2⟩ := q
    exact ⟨y, ys, e, h1.scAny h.1, IsDs.scAny h.2 h2⟩
end
section
variable {G : Gx} {ρ : Rh} {Φ Ψ : Pd} {ta tb te : TE} {t : TA} {i : Nat} {f g : Bool} {d e : PyData} {ds es : List PyData} {K : PySem.W.Frag}
theorem Ev.mono (h : Ev G ρ te Ψ) (q : ∀ f d, Ψ f d -> Φ f d) : Ev G ρ te Φ := fun nb σ H Q W z => h nb σ H Q W fun f v H' d p => z f v H' d (q f d p)
theorem EvN.ev (h : EvN G ρ te fun f ds => Φ f (.list ds)) : Ev G ρ te Φ := fun nb σ H Q W z => h nb σ H Q W fun f a xs H' ds p st n e hd =>
 z f _ H' _ p st (.lst (W.fresh n) e (hd.av fun _ x => .inl x))
namespace Ev
theorem var (e : ρ[i]? = some (.d f d)) (h : Φ f d) : Ev G ρ (tVar i) Φ := fun nb σ H Q W z => by
 obtain ⟨x, e1, v, rfl, hd⟩ := W.ok i _ e
 exact ⟨v, e1, z f v H d h (.refl W.bag) hd⟩
theorem int {n : Int} (h : Φ true (.int n)) : Ev G ρ (tC (.int n)) Φ := fun nb σ H Q W z => z true _ H _ h (.refl W.bag) (.int n)
theorem bl {b : Bool} (h : Φ true (.bool b)) : Ev G ρ (tC (.bl b)) Φ := fun nb σ H Q W z => z true _ H _ h (.refl W.bag) (.bl b)
theorem non (h : Φ true .none) : Ev G ρ (tC .non) Φ := fun nb σ H Q W z => z true _ H _ h (.refl W.bag) .non
theorem op2 {r : R2} (h : Ev G ρ ta fun f x => Ev G ρ tb fun g y => ∀ nb σ H u v (Q : VK), Wd G nb ρ σ H -> IsD (G.S nb f) H x u -> IsD (G.S nb g) H y v -> (∀ f w H' d, Φ f d -> Step G.B H H' -> IsD (G.S nb f) H' d w -> Q w H') -> r u v H Q) : Ev G ρ (tOp r ta tb) Φ := fun nb σ H Q W z =>
 h nb σ H _ W fun f v1 H1 d1 p1 s1 q1 => p1 nb σ H1 _ (W.step s1) fun g v2 H2 d2 p2 s2 q2 => p2 nb σ H2 _ _ _ ((W.step s1).step s2) (q1.keep s2.butS) q2 fun f w H' d p st q => z f w H' d p (s1.trans (s2.trans st)) q
theorem rI {C : Int -> Int -> Prop} {k : Int -> Int -> Int} (h : Ev G ρ ta fun _ x => ∃ i, x = .int i /\ Ev G ρ tb fun _ y => ∃ j, y = .int j /\ C i j /\ Φ true (.int (k i j))) : Ev G ρ (tOp (L2.rI C fun i j => .int (k i j)) ta tb) Φ :=
 op2 (h.mono fun f x ⟨i, ex, q⟩ => q.mono fun g y ⟨j, ey, hc, p⟩ nb σ H u v Q W hu hv z => by
  subst ex ey; exact ⟨i, j, hu.ofI, hv.ofI, hc, z true _ H _ p (.refl W.bag) (.int _)⟩)
theorem rI0 {k : Int -> Int -> Int} (h : Ev G ρ ta fun _ x => ∃ i, x = .int i /\ Ev G ρ tb fun _ y => ∃ j, y = .int j /\ Φ true (.int (k i j))) : Ev G ρ (tOp (L2.rI0 fun i j => .int (k i j)) ta tb) Φ :=
 op2 (h.mono fun f x ⟨i, ex, q⟩ => q.mono fun g y ⟨j, ey, p⟩ nb σ H u v Q W hu hv z => by
  subst ex ey; exact ⟨i, j, hu.ofI, hv.ofI, z true _ H _ p (.refl W.bag) (.int _)⟩)
theorem rB0 {k : Int -> Int -> Bool} (h : Ev G ρ ta fun _ x => ∃ i, x = .int i /\ Ev G ρ tb fun _ y => ∃ j, y = .int j /\ Φ true (.bool (k i j))) : Ev G ρ (tOp (L2.rI0 fun i j => .bl (k i j)) ta tb) Φ :=
 op2 (h.mono fun f x ⟨i, ex, q⟩ => q.mono fun g y ⟨j, ey, p⟩ nb σ H u v Q W hu hv z => by
  subst ex ey; exact ⟨i, j, hu.ofI, hv.ofI, z true _ H _ p (.refl W.bag) (.bl _)⟩)
theorem un {r : V -> Hp -> VK -> Prop} (h : Ev G ρ ta fun f x => ∀ nb σ H u (Q : VK), Wd G nb ρ σ H -> IsD (G.S nb f) H x u -> (∀ f w H' d, Φ f d -> Step G.B H H' -> IsD (G.S nb f) H' d w -> Q w H') -> r u H Q) : Ev G ρ (tUn r ta) Φ := fun nb σ H Q W z =>
 h nb σ H _ W fun f v1 H1 d1 p1 s1 q1 => p1 nb σ H1 _ _ (W.step s1) q1 fun f w H' d p st q => z f w H' d p (s1.trans st) q
theorem rU {k : Int -> Int} (h : Ev G ρ ta fun _ x => ∃ i, x = .int i /\ Φ true (.int (k i))) : Ev G ρ (tUn (L2.rU fun i => .int (k i)) ta) Φ :=
 un (h.mono fun f x ⟨i, ex, p⟩ nb σ H u Q W hu z => by subst ex; exact ⟨i, hu.ofI, z true _ H _ p (.refl W.bag) (.int _)⟩)
end Ev
inductive EqD : PyData -> PyData -> Bool -> Prop
 | ii (i j : Int) : EqD (.int i) (.int j) (decide (i = j))
 | ni (i : Int) : EqD .none (.int i) false
 | i_n (i : Int) : EqD (.int i) .none false
 | nn : EqD .none .none true
 | bb (a b : Bool) : EqD (.bool a) (.bool b) (a == b)
 | ss (x : Str) : EqD (.str x) (.str x) true
 | sd (x y : Str) : EqD (.str x) (.str y) (decide (x = y))
theorem EqD.v {nb nb' : Addr -> Prop} {H : Hp} {x y : PyData} {b : Bool} {u v : V} (h : EqD x y b) (hu : IsD nb H x u) (hv : IsD nb' H y v) : scal u v = true /\ decide (u = v) = b := by
 cases h <;> (unfold IsD at hu hv; subst hu hv; refine ⟨rfl, ?_⟩)
 ·exact R.dec_i
 ·rfl
 ·rfl
 ·rfl
 ·rename_i a b; cases a <;> cases b <;> rfl
 ·exact decide_eq_true rfl
 ·rename_i x y
  by_cases c : x = y
  ·subst c; rw [decide_eq_true rfl, decide_eq_true rfl]
  ·rw [decide_eq_false c, decide_eq_false (fun z => c (V.str.inj z))]
theorem EqD.self {d : PyData} (h : scB d = true) : EqD d d true := by
 cases d <;> first | (cases h; done) | skip
 ·exact .nn
 ·rename_i b; have := EqD.bb b b; rwa [beq_self_eq_true] at this
 ·rename_i i; have := EqD.ii i i; rwa [decide_eq_true rfl] at this
 ·exact .ss _
namespace Ev
theorem eq (h : Ev G ρ ta fun _ x => Ev G ρ tb fun _ y => ∃ b, EqD x y b /\ Φ true (.bool b)) : Ev G ρ (tOp rEq ta tb) Φ :=
 op2 (h.mono fun f x q => q.mono fun g y ⟨b, e, p⟩ nb σ H u v Q W hu hv z => by
  obtain ⟨h1, h2⟩ := e.v hu hv
  exact ⟨h1, by rw [h2]; exact z true _ H _ p (.refl W.bag) (.bl _)⟩)
theorem ne (h : Ev G ρ ta fun _ x => Ev G ρ tb fun _ y => ∃ b, EqD x y b /\ Φ true (.bool !b)) : Ev G ρ (tOp rNe ta tb) Φ :=
 op2 (h.mono fun f x q => q.mono fun g y ⟨b, e, p⟩ nb σ H u v Q W hu hv z => by
  obtain ⟨h1, h2⟩ := e.v hu hv
  exact ⟨h1, by rw [h2]; exact z true _ H _ p (.refl W.bag) (.bl _)⟩)
theorem eqD {ng : Bool} (h : Ev G ρ ta fun _ x => Ev G ρ tb fun _ y => SeqAt.shaped x = true /\ SeqAt.shaped y = true /\ Φ true (.bool (PyData.eqv x y != ng))) : Ev G ρ (tOp (rEqD ng) ta tb) Φ :=
 op2 (h.mono fun f x q => q.mono fun g y ⟨h1, h2, p⟩ nb σ H u v Q W hu hv z =>
  ⟨G.S nb false, x, y, hu.av (S_mono (fun z => by cases z) fun _ z => z), hv.av (S_mono (fun z => by cases z) fun _ z => z), h1, h2, z true _ H _ p (.refl W.bag) (.bl _)⟩)
end Ev
def isN : PyData -> Bool
 | .none => true
 | _ => false
theorem isN_v {nb : Addr -> Prop} {H : Hp} {d : PyData} {v : V} (h : IsD nb H d v) : decide (v = .non) = isN d := by
 cases d <;> unfold IsD at h
 all_goals first
  | (subst h; rfl)
  | (obtain ⟨a, xs, rfl, _⟩ := h; rfl)
  | exact h.elim
namespace Ev
theorem is (h : Ev G ρ ta fun _ x => Φ true (.bool (isN x))) : Ev G ρ (tOp rIs ta (tC .non)) Φ :=
 op2 (h.mono fun f x p => Ev.non fun nb σ H u v Q W hu hv z => ⟨hv.ofN, by rw [isN_v hu]; exact z true _ H _ p (.refl W.bag) (.bl _)⟩)
end Ev
theorem IsDs.atI {nb : Addr -> Prop} {H : Hp} {ds : List PyData} {xs : List V} {k : Int} {e : PyData} (h : IsDs nb H ds xs) (q : L2.atI ds k = some e) : ∃ v, L2.atI xs k = some v /\ IsD nb H e v := by
 unfold L2.atI at q ⊢
 rw [h.length]
 cases z : ixN ds.length k with
 | none => rw [z] at q; cases q
 | some j => rw [z] at q; exact h.get q
namespace Ev
theorem ixL (h : Ev G ρ ta fun f x => ∃ ds, x = .list ds /\ Ev G ρ tb fun _ y => ∃ k, y = .int k /\ ∃ e, atI ds k = some e /\ Φ f e) : Ev G ρ (tOp (rIxL K) ta tb) Φ :=
 op2 (h.mono fun f x ⟨ds, ex, q⟩ => q.mono fun g y ⟨k, ey, e, he, p⟩ nb σ H u v Q W hu hv z => by
  subst ex ey
  obtain ⟨a, xs, rfl, n, hx, hd⟩ := hu.ofL
  obtain ⟨w, hw, hD⟩ := hd.atI he
  exact ⟨a, xs, k, w, rfl, hv.ofI, .of hx, hw, z f _ H _ p (.refl W.bag) hD⟩)
theorem ixT (h : Ev G ρ ta fun f x => ∃ ds, x = .tuple ds /\ Ev G ρ tb fun _ y => ∃ k, y = .int k /\ ∃ e, atI ds k = some e /\ Φ f e) : Ev G ρ (tOp (rIxT K) ta tb) Φ :=
 op2 (h.mono fun f x ⟨ds, ex, q⟩ => q.mono fun g y ⟨k, ey, e, he, p⟩ nb σ H u v Q W hu hv z => by
  subst ex ey
  obtain ⟨a, xs, rfl, n, hx, hd⟩ := hu.ofT
  obtain ⟨w, hw, hD⟩ := hd.atI he
  exact ⟨a, xs, k, w, rfl, hv.ofI, .of hx, hw, z f _ H _ p (.refl W.bag) hD⟩)
theorem ixOwn {a : Addr} (e : ρ[i]? = some (.own a f ds)) (h : Ev G ρ tb fun _ y => ∃ k, y = .int k /\ ∃ e, atI ds k = some e /\ Φ f e) : Ev G ρ (tOp (rIxL K) (tVar i) tb) Φ := fun nb σ H Q W z => by
 obtain ⟨x, e1, h1, h2, h3, xs, hx, hd⟩ := W.ok i _ e
 subst h1
 refine ⟨.ref a, e1, h nb σ H _ W fun g w H1 y ⟨k, ey, e', he, p⟩ s1 hv => ?_⟩
 subst ey
 obtain ⟨u, hu, hD⟩ := (hd.keep s1.butS).atI he
 exact ⟨a, xs, k, u, rfl, hv.ofI, .of (s1.1 _ _ h3 hx), hu, z f _ H1 _ p s1 hD⟩
theorem andV (h : Ev G ρ ta fun _ x => ∃ b, x = .bool b /\ if b = true then Ev G ρ tb Φ else Φ true (.bool false)) : Ev G ρ (tAndV ta tb) Φ := fun nb σ H Q W z =>
 h nb σ H _ W fun f v H1 d ⟨b, e, q⟩ s1 hv => by
  subst e
  refine ⟨b, by unfold IsD at hv; exact hv, ?_⟩
  cases b with
  | true => rw [if_pos rfl] at q ⊢; exact q nb σ H1 _ (W.step s1) fun f v H' d p st => z f v H' d p (s1.trans st)
  | false => rw [if_neg zq11x] at q ⊢; exact z true _ H1 _ q s1 (.bl false)
theorem notV (h : Ev G ρ ta fun _ x => ∃ b, x = .bool b /\ Φ true (.bool !b)) : Ev G ρ (tNotV ta) Φ := fun nb σ H Q W z =>
 h nb σ H _ W fun f v H1 d ⟨b, e, q⟩ s1 hv => by
  subst e
  exact ⟨b, by unfold IsD at hv; exact hv, z true _ H1 _ q s1 (.bl _)⟩
theorem ifE {c : TT} (h : Tv G ρ c fun b => if b = true then Ev G ρ ta Φ else Ev G ρ tb Φ) : Ev G ρ (tIf c ta tb) Φ := fun nb σ H Q W z =>
 h nb σ H _ W fun b H1 q s1 => by
  cases b with
  | true => rw [if_pos rfl] at q ⊢; exact q nb σ H1 _ (W.step s1) fun f v H' d p st => z f v H' d p (s1.trans st)
  | false => rw [if_neg zq11x] at q ⊢; exact q nb σ H1 _ (W.step s1) fun f v H' d p st => z f v H' d p (s1.trans st)
end Ev
namespace Tv
variable {Θ : Bool -> Prop} {t u : TT}
theorem test (h : Ev G ρ te fun _ x => ∃ b, x = .bool b /\ Θ b) : Tv G ρ (tTest te) Θ := fun nb σ H Q W z =>
 h nb σ H _ W fun f v H1 d ⟨b, e, q⟩ s1 hv => by subst e; exact ⟨b, by unfold IsD at hv; exact hv, z b H1 q s1⟩
theorem and (h : Tv G ρ t fun b => if b = true then Tv G ρ u Θ else Θ false) : Tv G ρ (tAnd t u) Θ := fun nb σ H Q W z =>
 h nb σ H _ W fun b H1 q s1 => by
  cases b with
  | true => rw [if_pos rfl] at q ⊢; exact q nb σ H1 _ (W.step s1) fun b H' p st => z b H' p (s1.trans st)
  | false => rw [if_neg zq11x] at q ⊢; exact z false H1 q s1
theorem or (h : Tv G ρ t fun b => if b = true then Θ true else Tv G ρ u Θ) : Tv G ρ (tOr t u) Θ := fun nb σ H Q W z =>
 h nb σ H _ W fun b H1 q s1 => by
  cases b with
  | false => rw [if_neg zq11x] at q ⊢; exact q nb σ H1 _ (W.step s1) fun b H' p st => z b H' p (s1.trans st)
  | true => rw [if_pos rfl] at q ⊢; exact z true H1 q s1
theorem not (h : Tv G ρ t fun b => Θ (!b)) : Tv G ρ (tNot t) Θ := fun nb σ H Q W z => h nb σ H _ W fun b H1 q s1 => z _ H1 q s1
theorem noTest (h : Θ true) : Tv G ρ tNoTest Θ := fun nb σ H Q W z => z true H h (.refl W.bag)
end Tv
def tTruth (K : PySem.W.Frag) (ta : TE) : TT := fun σ H Q => ta σ H fun x H1 => ∃ k, TruV K x H1 k /\ Q k H1
theorem Tv.truB {Θ : Bool -> Prop} (h : Ev G ρ te fun _ x => ∃ b, x = .bool b /\ Θ b) : Tv G ρ (tTruth K te) Θ := fun nb σ H Q W z =>
 h nb σ H _ W fun f v H1 d ⟨b, e, q⟩ s1 hv => by subst e; exact ⟨b, by unfold IsD at hv; subst hv; rfl, z b H1 q s1⟩
namespace Av
variable {Θ : List Fd -> Prop}
theorem nil (h : Θ []) : Av G ρ tNil Θ := fun nb σ H Q W z => z [] [] H h (.refl W.bag) rfl
theorem cons (h : Ev G ρ te fun f d => Av G ρ t fun es => Θ ((f, d) :: es)) : Av G ρ (tCons te t) Θ := fun nb σ H Q W z =>
 h nb σ H _ W fun f v H1 d p1 s1 q1 => p1 nb σ H1 _ (W.step s1) fun es vs H2 p2 s2 q2 => z _ _ H2 p2 (s1.trans s2) ⟨v, vs, rfl, q1.keep s2.butS, q2⟩
theorem cints {is : List Int} (h : Θ (is.map fun i => (true, .int i))) : Av G ρ (tInts is) Θ := fun nb σ H Q W z => z _ _ H h (.refl W.bag) (by
 clear h
 induction is with
 | nil => rfl
 | cons i r ih => exact ⟨_, _, rfl, .int i, ih⟩)
end Av
def allF (es : List Fd) : Bool := es.all (·.1)
theorem IsF.all {nb : Addr -> Prop} {H : Hp} : ∀ {es : List Fd} {vs : List V} {f : Bool}, IsF G nb H es vs -> (f = true -> allF es = true) -> IsDs (G.S nb f) H (es.map (·.2)) vs
  | [], _, _, h, _ => by unfold IsF at h; subst h; exact .nil
  | e :: es, _, f, h, hf => by
    obtain ⟨v, ws, rfl, h1, h2⟩ := h
    refine .cons (h1.av (S_mono (fun z => ?_) fun _ z => z)) (h2.all fun z => ?_)
    · have := hf z; simp only [allF, zq75x, zq25x] at this; exact this.1
    · have := hf z; simp only [allF, zq75x, zq25x] at this; exact this.2
theorem IsF.len {nb : Addr -> Prop} {H : Hp} {es : List Fd} {vs : List V} (h : IsF G nb H es vs) : vs.length = es.length := by
 have := (h.all (f := false) (fun z => by cases z)).length
 simpa using this
theorem EvN.lst {Φ : Bool -> List PyData -> Prop} (h : Av G ρ t fun es => es.length <= 10000 /\ Φ (allF es) (es.map (·.2))) : EvN G ρ (tLst t) Φ := fun nb σ H Q W z =>
  h nb σ H _ W fun es vs H1 ⟨hl, p⟩ s1 q1 => ⟨zq26x (by rw [q1.len]; exact hl) (by decide), fun a ha => by
    have W1 := W.step s1
    refine z _ a vs _ _ p (s1.trans (.same W1.bag (same_new ha))) ?_ upd_same (((q1.all fun z => z).fresh ha).keep (But.of (same_new ha)))
    cases e : H a with
    | none => rfl
    | some o =>
      by_cases n : NB G.B a
      · rw [s1.1 a o n e] at ha; cases ha
      · exact absurd ha (NB.bag_live s1.2 n)⟩
theorem Ev.lst (h : Av G ρ t fun es => es.length <= 10000 /\ Φ (allF es) (.list (es.map (·.2)))) : Ev G ρ (tLst t) Φ := (EvN.lst (Φ := fun f ds => Φ f (.list ds)) h).ev
end
end L2
set_option maxRecDepth 100000
set_option maxHeartbeats 1000000
namespace L2
open PySem PySem.Spec PyProof.Rows
def rLen (K : PySem.W.Frag) : List V -> Hp -> VK -> Prop := fun xs H Q => ∃ p ys, xs = [.ref p] /\ (SqL K H p ys \/ SqT K H p ys) /\ Q (.int ys.length) H
theorem call_lenM {X : Cx} : CallR X (.builtin "len") (rLen X.K) := call_len_seq
def rMin : List V -> Hp -> VK -> Prop := fun xs H Q => ∃ i j, xs = [.int i, .int j] /\ Q (.int (if j < i then j else i)) H
def rInt : List V -> Hp -> VK -> Prop := fun xs H Q => (∃ i, xs = [.int i] /\ Q (.int i) H) \/ ∃ k, xs = [.bl k] /\ Q (.int (if k then 1 else 0)) H
theorem call_minM {X : Cx} (hc : X.calm = true) : CallR X (.builtin "min") rMin := call_min2 hc
theorem call_intM {X : Cx} : CallR X (.type "int") rInt := call_int1
def cutA {α : Type} (xs : List α) (lo hi : Option Int) : List α := (xs.drop (HT.sIx xs.length 0 lo)).take (HT.sIx xs.length xs.length hi - HT.sIx xs.length 0 lo)
theorem IsDs.cut {nb : Addr -> Prop} {H : Hp} {ds : List PyData} {xs : List V} {lo hi : Option Int} (h : IsDs nb H ds xs) : IsDs nb H (cutA ds lo hi) (cutV xs lo hi) := by
 unfold cutA cutV
 rw [h.length]
 exact (h.drop _).take _
def scAll (ds : List PyData) : Bool := ds.all scB
section
variable {G : Gx} {ρ : Rh} {Φ Ψ : Pd} {ta tb te : TE} {t : TA} {i : Nat} {f g : Bool} {d e : PyData} {ds es : List PyData} {K : PySem.W.Frag}
theorem Wd.none_of {nb : Addr -> Prop} {σ : St} {H H1 : Hp} {a : Addr} (W : Wd G nb ρ σ H) (s1 : Step G.B H H1) (ha : H1 a = none) : H a = none := by
  cases e : H a with
  | none => rfl
  | some o =>
    by_cases n : NB G.B a
    · rw [s1.1 a o n e] at ha; cases ha
    · exact absurd ha (NB.bag_live s1.2 n)
theorem EvN.fin {nb : Addr -> Prop} {σ : St} {H H1 : Hp} {Q : VK} {Φ : Bool -> List PyData -> Prop} {a : Addr} {xs : List V} (W : Wd G nb ρ σ H) (s1 : Step G.B H H1) (ha : H1 a = none) (hd : IsDs (G.S nb f) H1 ds xs) (p : Φ (f || scAll ds) ds)
  (z : ∀ f a xs H' ds, Φ f ds -> Step G.B H H' -> H a = none -> H' a = some (.lst xs) -> IsDs (fun x => G.S nb f x \/ x = a) H' ds xs -> Q (.ref a) H') : Q (.ref a) (upd H1 a (.lst xs)) := by
 refine z _ a xs _ ds p (s1.trans (.same s1.2 (same_new ha))) (W.none_of s1 ha) upd_same ?_
 cases hs : scAll ds with
 | true => exact IsDs.scAny hs hd
 | false => rw [zq64x]; exact (hd.fresh ha).keep (But.of (same_new ha))
namespace Ov
variable {Θ : Option Int -> Prop}
theorem none (h : Θ none) : Ov G ρ tNoPart Θ := fun nb σ H Q W z => z _ H h (.refl W.bag)
theorem some (h : Ev G ρ te fun _ x => ∃ k, x = .int k /\ Θ (some k)) : Ov G ρ (tPart te) Θ := fun nb σ H Q W z =>
 h nb σ H _ W fun f v H1 d ⟨k, e, q⟩ s1 hv => by subst e; exact ⟨k, hv.ofI, z _ H1 q s1⟩
end Ov
namespace EvN
variable {Θ : Bool -> List PyData -> Prop}
theorem listOf (h : Ev G ρ te fun f x => ∃ ds, (x = .list ds \/ x = .tuple ds) /\ Θ (f || scAll ds) ds) : EvN G ρ (tCB (rListOf K) (tCons te tNil)) Θ := fun nb σ H Q W z =>
 h nb σ H _ W fun f v H1 d ⟨ds, e, q⟩ s1 hv => by
  rcases e with e | e
  ·subst e
   obtain ⟨a, xs, rfl, n, hx, hd⟩ := hv.ofL
   exact ⟨a, xs, rfl, .inl (.of hx), fun p hp => EvN.fin W s1 hp hd q z⟩
  ·subst e
   obtain ⟨a, xs, rfl, n, hx, hd⟩ := hv.ofT
   exact ⟨a, xs, rfl, .inr (.of hx), fun p hp => EvN.fin W s1 hp hd q z⟩
theorem listOwn {a : Addr} (e : ρ[i]? = some (.own a f ds)) (h : Θ (f || scAll ds) ds) : EvN G ρ (tCB (rListOf K) (tCons (tVar i) tNil)) Θ := fun nb σ H Q W z => by
 obtain ⟨x, e1, h1, h2, h3, xs, hx, hd⟩ := W.ok i _ e
 subst h1
 exact ⟨.ref a, e1, a, xs, rfl, .inl (.of hx), fun p hp => EvN.fin W (.refl W.bag) hp hd h z⟩
theorem cat (h : Ev G ρ ta fun f x => ∃ ds, x = .list ds /\ Ev G ρ tb fun g y => ∃ es, y = .list es /\ ds.length + es.length <= 10000 /\ Θ ((f && g) || scAll (ds ++ es)) (ds ++ es)) : EvN G ρ (tOp rCat ta tb) Θ := fun nb σ H Q W z =>
 h nb σ H _ W fun f v H1 d ⟨ds, e, q⟩ s1 hv => q nb σ H1 _ (W.step s1) fun g u H2 d2 ⟨es, e2, hl, p⟩ s2 hu => by
  subst e e2
  obtain ⟨a, xs, rfl, n, hx, hd⟩ := (hv.keep s2.butS).ofL
  obtain ⟨c, ys, rfl, m, hy, hc⟩ := hu.ofL
  refine ⟨a, c, xs, ys, rfl, rfl, hx, hy, zq26x (by rw [hd.length, hc.length]; exact hl) (by decide), fun p' hp => EvN.fin (f := f && g) W (s1.trans s2) hp ?_ p z⟩
  exact IsDs.append (hd.av (S_mono (fun z => (zq25x _ _ ▸ z).1) fun _ z => z)) (hc.av (S_mono (fun z => (zq25x _ _ ▸ z).2) fun _ z => z))
end EvN
namespace Ev
theorem listOf (h : Ev G ρ te fun f x => ∃ ds, (x = .list ds \/ x = .tuple ds) /\ Φ (f || scAll ds) (.list ds)) : Ev G ρ (tCB (rListOf K) (tCons te tNil)) Φ := (EvN.listOf (Θ := fun f ds => Φ f (.list ds)) h).ev
theorem listOwn {a : Addr} (e : ρ[i]? = some (.own a f ds)) (h : Φ (f || scAll ds) (.list ds)) : Ev G ρ (tCB (rListOf K) (tCons (tVar i) tNil)) Φ := (EvN.listOwn (Θ := fun f ds => Φ f (.list ds)) e h).ev
theorem cat (h : Ev G ρ ta fun f x => ∃ ds, x = .list ds /\ Ev G ρ tb fun g y => ∃ es, y = .list es /\ ds.length + es.length <= 10000 /\ Φ ((f && g) || scAll (ds ++ es)) (.list (ds ++ es))) : Ev G ρ (tOp rCat ta tb) Φ := (EvN.cat (Θ := fun f ds => Φ f (.list ds)) h).ev
theorem lenOwn {a : Addr} (e : ρ[i]? = some (.own a f ds)) (h : Φ true (.int ds.length)) : Ev G ρ (tCB (rLen K) (tCons (tVar i) tNil)) Φ := fun nb σ H Q W z => by
 obtain ⟨x, e1, h1, h2, h3, xs, hx, hd⟩ := W.ok i _ e
 subst h1
 exact ⟨.ref a, e1, a, xs, rfl, .inl (.of hx), by rw [hd.length]; exact z true _ H _ h (.refl W.bag) (.int _)⟩
theorem min2 (h : Ev G ρ ta fun _ x => ∃ i, x = .int i /\ Ev G ρ tb fun _ y => ∃ j, y = .int j /\ Φ true (.int (if j < i then j else i))) : Ev G ρ (tCB rMin (tCons ta (tCons tb tNil))) Φ := fun nb σ H Q W z =>
 h nb σ H _ W fun f v H1 d ⟨i, e, q⟩ s1 hv => q nb σ H1 _ (W.step s1) fun g u H2 d2 ⟨j, e2, p⟩ s2 hu => by
  subst e e2
  exact ⟨i, j, by rw [hv.ofI, hu.ofI], z true _ H2 _ p (s1.trans s2) (.int _)⟩
theorem intB (h : Ev G ρ ta fun _ x => ∃ b, x = .bool b /\ Φ true (.int (if b then 1 else 0))) : Ev G ρ (tCB rInt (tCons ta tNil)) Φ := fun nb σ H Q W z =>
 h nb σ H _ W fun f v H1 d ⟨b, e, q⟩ s1 hv => by subst e; unfold IsD at hv; subst hv; exact .inr ⟨b, rfl, z true _ H1 _ q s1 (.int _)⟩
end Ev
abbrev DF := List PyData -> Pd -> Prop
def spD (n : Nat) (F : DF) : Sp := fun vs H Q _ => vs.length = n /\ ∃ (nb : Addr -> Prop) (ds : List PyData), Live nb H /\ IsDs nb H ds vs /\ F ds fun f d => ∀ v H', Same H H' -> IsD (fun a => nb a \/ (f = true /\ H a ≠ none)) H' d v -> Q v H'
def spB (n : Nat) (F : DF) : Sp := fun vs H Q _ => vs.length = n /\ ∃ (b l : Addr) (ws : List V) (nb : Addr -> Prop) (ds : List PyData), vs = .ref b :: ws /\ BagAt H b l /\ Live nb H /\ nb b /\ IsDs nb H ds ws /\
 F ds fun f d => ∀ v H', But (Nb b) H H' -> BagAt H' b l -> IsD (fun a => nb a \/ (f = true /\ H a ≠ none)) H' d v -> Q v H'
def MonoF (F : DF) : Prop := ∀ ds (Φ Ψ : Pd), F ds Φ -> (∀ f d, Φ f d -> Ψ f d) -> F ds Ψ
theorem Ev.callD {n : Nat} {F : DF} (hm : MonoF F) (h : Av G ρ t fun es => es.length = n /\ F (es.map (·.2)) fun f d => Φ (f || allF es) d) : Ev G ρ (tCall (spD n F) [] E0 t) Φ := fun nb σ H Q W z =>
 h nb σ H _ W fun es vs H1 ⟨hl, p⟩ s1 q1 => by
  have W1 := W.step s1
  rw [zq30x]
  refine ⟨by rw [q1.len, hl], G.S nb (allF es), es.map (·.2), W1.liveS, q1.all fun z => z, hm _ _ _ p fun f d hp v H' sm hd => z _ v H' d hp (s1.trans (.same W1.bag sm)) (hd.av fun a q => ?_)⟩
  cases f with
  | false => rw [zq86x] at q; exact .inl q
  | true => exact .inr ⟨rfl, W1.liveS a q⟩
theorem Step.ofBut {b l : Addr} {H H' : Hp} (hB : G.B = some (b, l)) (bt : But (Nb b) H H') (B' : BagAt H' b l) : Step G.B H H' :=
 ⟨fun a o n e => bt a o (n b l hB) e, fun b' l' e => by rw [hB] at e; cases e; exact B'⟩
theorem Wd.theBag {nb : Addr -> Prop} {σ : St} {H : Hp} (W : Wd G nb ρ σ H) (e : ρ[i]? = some .bag) : ∃ b l, G.B = some (b, l) /\ σ[i]? = some (some (.ref b)) /\ BagAt H b l := by
 obtain ⟨x, e1, b, l, hB, rfl⟩ := W.ok i _ e
 exact ⟨b, l, hB, e1, W.bag b l hB⟩
theorem Ev.callB {n : Nat} {F : DF} (hm : MonoF F) (e : ρ[i]? = some .bag) (h : Av G ρ t fun es => es.length + 1 = n /\ F (es.map (·.2)) fun f d => Φ (f || allF es) d) : Ev G ρ (tCall (spB n F) [] E0 (tCons (tVar i) t)) Φ := fun nb σ H Q W z => by
 obtain ⟨b, l, hB, e1, B⟩ := W.theBag e
 refine ⟨.ref b, e1, h nb σ H _ W fun es vs H1 ⟨hl, p⟩ s1 q1 => ?_⟩
 have W1 := W.step s1
 show spB n F ((V.ref b :: vs) ++ []) H1 Q E0
 rw [zq30x]
 have hb : ∀ f, G.S nb f b := fun f => .inr (.inr (.inl fun n => n b l hB rfl))
 refine ⟨by rw [zq27x, q1.len, hl], b, l, vs, G.S nb (allF es), es.map (·.2), rfl, W1.bag b l hB, W1.liveS, hb _, q1.all fun z => z, hm _ _ _ p fun f d hp v H' bt B' hd => z _ v H' d hp (s1.trans (.ofBut hB bt B')) (hd.av fun a q => ?_)⟩
 cases f with
 | false => rw [zq86x] at q; exact .inl q
 | true => exact .inr ⟨rfl, W1.liveS a q⟩
theorem Ev.draw (e : ρ[i]? = some .bag) (h : Ev G ρ te fun _ x => ∃ m : Int, x = .int m /\ 0 < m /\ Sm m /\ ∀ r : Int, 0 <= r -> r < m -> Φ true (.int r)) : Ev G ρ (tCall spDraw [] E0 (tCons (tVar i) (tCons te tNil))) Φ := fun nb σ H Q W z => by
 obtain ⟨b, l, hB, e1, B⟩ := W.theBag e
 refine ⟨.ref b, e1, h nb σ H _ W fun f v H1 d ⟨m, ed, h1, h2, p⟩ s1 hv => ?_⟩
 subst ed
 exact ⟨b, l, m, by rw [hv.ofI]; rfl, s1.2 b l hB, h1, h2, fun r H' r1 r2 bt B' => z true _ H' _ (p r r1 r2) (s1.trans (.ofBut hB bt B')) (.int r)⟩
theorem Ev.prime (e : ρ[i]? = some .bag) (h : ∀ p : Int, IsP p -> Φ true (.int p)) : Ev G ρ (tCall spPrime [] E0 (tCons (tVar i) tNil)) Φ := fun nb σ H Q W z => by
 obtain ⟨b, l, hB, e1, B⟩ := W.theBag e
 exact ⟨.ref b, e1, b, l, rfl, B, fun p H' hp bt B' => z true _ H' _ (h p hp) (.ofBut hB bt B') (.int p)⟩
theorem Ev.whole (h : Ev G ρ te fun _ x => ∃ n, x = .int n /\ Φ true (.bool true)) : Ev G ρ (tCall spWhole [] E0 (tCons te tNil)) Φ := fun nb σ H Q W z =>
 h nb σ H _ W fun f v H1 d ⟨n, e, q⟩ s1 hv => by subst e; exact ⟨n, by rw [hv.ofI]; rfl, z true _ H1 _ q s1 (.bl _)⟩
namespace Gv
variable {Θ : Rh -> Prop}
theorem name (h : Θ (ρ.set i (.d f d))) : Gv G ρ (gName i) f d Θ := fun nb σ H v Q W hv z => z _ _ h (W.setD hv)
theorem nameF (h : Θ (ρ.set i (.d false d))) : Gv G ρ (gName i) f d Θ := fun nb σ H v Q W hv z => z _ _ h (W.setD (hv.av (S_mono (fun z => by cases z) fun _ z => z)))
theorem nameS (hs : scB d = true) (h : Θ (ρ.set i (.d true d))) : Gv G ρ (gName i) f d Θ := fun nb σ H v Q W hv z => z _ _ h (W.setD (hv.scAny hs))
theorem nameI {n : Int} (h : Θ (ρ.set i (.d true (.int n)))) : Gv G ρ (gName i) f (.int n) Θ := nameS rfl h
theorem nameN (h : Θ (ρ.set i (.d true .none))) : Gv G ρ (gName i) f .none Θ := nameS rfl h
theorem tup {n : Nat} {u : TGs} (hl : ds.length = n) (h : Gvs G ρ u f ds Θ) : Gv G ρ (gTup K n u) f (.tuple ds) Θ := fun nb σ H v Q W hv z => by
 obtain ⟨a, xs, rfl, m, hx, hd⟩ := hv.ofT
 exact ⟨a, xs, rfl, .of hx, by rw [hd.length]; exact hl, h nb σ H xs Q W hd z⟩
theorem snil (h : Θ ρ) : Gvs G ρ gNil f [] Θ := fun nb σ H vs Q W hv z => by unfold IsDs at hv; exact ⟨hv, z _ _ h W⟩
theorem scons {u : TG} {us : TGs} (h : Gv G ρ u f d fun ρ1 => Gvs G ρ1 us f ds Θ) : Gvs G ρ (gCons u us) f (d :: ds) Θ := fun nb σ H vs Q W hv z => by
 unfold IsDs at hv
 obtain ⟨y, ys, rfl, h1, h2⟩ := hv
 exact ⟨y, ys, rfl, h nb σ H y _ W h1 fun σ' ρ' q W' => q nb σ' H ys Q W' h2 z⟩
end Gv
namespace Sv
variable {E : DE} {s u : TS}
theorem seq (h : Sv G ρ s { E with nx := fun ρ1 => Sv G ρ1 u E }) : Sv G ρ (tSeq s u) E := fun nb σ H D W K => h nb σ H _ W ⟨fun nb' ρ' σ' H' q W' => q nb' σ' H' D W' K, K.bk, K.ct, K.rt, K.rw⟩
theorem next (h : E.nx ρ) : Sv G ρ tNext E := fun nb σ H D W K => K.nx nb ρ σ H h W
theorem brk (h : E.bk ρ) : Sv G ρ tBreak E := fun nb σ H D W K => K.bk nb ρ σ H h W
theorem cont (h : E.ct ρ) : Sv G ρ tCont E := fun nb σ H D W K => K.ct nb ρ σ H h W
theorem asg {g : TG} (h : Ev G ρ te fun f d => Gv G ρ g f d E.nx) : Sv G ρ (tAsg te g) E := fun nb σ H D W K => h nb σ H _ W fun f v H1 d q s1 hv => q nb σ H1 v _ (W.step s1) hv fun σ' ρ' p W' => K.nx nb ρ' σ' H1 p W'
theorem setCF (h : Ev G ρ te fun _ d => E.nx (ρ.set i (.d false d))) : Sv G ρ (tSetC i te) E := fun nb σ H D W K => h nb σ H _ W fun f v H1 d q s1 hv => K.nx nb _ _ H1 q ((W.step s1).setD (hv.av (S_mono (fun z => by cases z) fun _ z => z)))
theorem drop (h : Ev G ρ te fun _ _ => E.nx ρ) : Sv G ρ (tDrop te) E := fun nb σ H D W K => h nb σ H _ W fun f v H1 d q s1 hv => K.nx nb ρ σ H1 q (W.step s1)
theorem ret (h : Ev G ρ te E.rt) : Sv G ρ (tRet te) E := fun nb σ H D W K => h nb σ H _ W fun f v H1 d q s1 hv => K.rt nb ρ σ f v H1 d q (W.step s1) (hv.av (S_mono (fun z => z) fun _ z => z.elim))
theorem ifS {c : TT} (h : Tv G ρ c fun b => if b = true then Sv G ρ s E else Sv G ρ u E) : Sv G ρ (tIfS c s u) E := fun nb σ H D W K => h nb σ H _ W fun b H1 q s1 => by
 cases b with
 | true => rw [if_pos rfl] at q ⊢; exact q nb σ H1 D (W.step s1) K
 | false => rw [if_neg zq11x] at q ⊢; exact q nb σ H1 D (W.step s1) K
theorem own_of {nb : Addr -> Prop} {σ : St} {H H1 : Hp} {a : Addr} {xs : List V} (W : Wd G nb ρ σ H) (s1 : Step G.B H H1) (ha : H a = none) (e : H1 a = some (.lst xs)) (hd : IsDs (fun x => G.S nb f x \/ x = a) H1 ds xs) :
    Wd G (fun x => nb x \/ x = a) (ρ.set i (.own a f ds)) (σ.set i (some (.ref a))) H1 := by
  have hN : NB G.B a := fun b l e z => by
    subst z
    obtain ⟨_, _, _, _, _, h1, _⟩ := W.bag _ _ e
    rw [h1] at ha; cases ha
  have hA : ∀ f x, G.S (fun x => nb x \/ x = a) f x -> (G.S nb f x \/ x = a) := fun f x z => by
    rcases z with (z | z) | z | z | z
    · exact .inl (.inl z)
    · exact .inr z
    · exact .inl (.inr (.inl z))
    · exact .inl (.inr (.inr (.inl z)))
    · exact .inl (.inr (.inr (.inr z)))
  have W1 := W.step s1
  have W2 : Wd G (fun x => nb x \/ x = a) ρ σ H1 := by
    refine ⟨W1.bag, fun x n => ?_, W1.old, fun x n q => ?_, W.gA, W.len, W.gB, fun h m => (((W.hld h m).fresh ha).keep (s1.but fun x z => .inl (.inr (.inr (.inl z))))).av (hA h.1), fun j s e' => ?_, W.apart, W.apd, W.apc⟩
    · rcases n with n | n
      · exact W1.live x n
      · subst n; rw [e]; exact zq35x _
    · rcases n with n | n
      · exact W.nbo x n q
      · subst n
        cases z : G.H0 x with
        | none => rfl
        | some o => rw [W.old x o q z] at ha; cases ha
    · obtain ⟨x, e1, h⟩ := W.ok j s e'
      refine ⟨x, e1, ?_⟩
      cases s with
      | no => trivial
      | d f d => obtain ⟨v, e, h⟩ := h; exact ⟨v, e, ((h.fresh ha).keep (s1.but fun x z => .inl (.inr (.inr (.inl z))))).av (hA f)⟩
      | own c f es => obtain ⟨e, n, q, xs, hx, hd⟩ := h; exact ⟨e, .inl n, q, xs, s1.1 _ _ q hx, ((hd.fresh ha).keep (s1.but fun x z => .inl (.inr (.inr (.inl z))))).av (hA f)⟩
      | bag => exact h
      | raw v => exact h
      | dic c f es => obtain ⟨e, n, q, xs, hx, hd⟩ := h; exact ⟨e, .inl n, q, xs, s1.1 _ _ q hx, ((hd.fresh ha).keep (s1.but fun x z => .inl (.inr (.inr (.inl z))))).av (hA f)⟩
      | cu c =>
        obtain ⟨e, n, q⟩ := h
        refine ⟨e, fun a ha => ⟨.inl (n a ha).1, (n a ha).2⟩, c.av (hA c.f) (c.keep (.of fun x o hx e => s1.1 x o ?_ e) (c.fresh ha q))⟩
        rcases hx with hx | hx
        · exact zq40x fun z => hx (.inl (.inr (.inr (.inl z))))
        · exact (n x hx).2
  refine W2.set ⟨rfl, .inr rfl, hN, xs, e, hd.av (hA f)⟩ ?_ (fun _ _ _ z => by cases z) (fun x hx j t hj ht hc => ?_)
  rotate_left
  · have hx : x = a := zq1x.mp hx
    subst hx
    rcases hc with ⟨c, z⟩ | ⟨c, rfl⟩
    · cases z
    · exact fun z => W.live x ((W.ok j _ ht).choose_spec.2.2.1 x z).1 ha
  rintro a' f' ds' ⟨rfl, rfl, rfl⟩ j c g cs hj hc z
  subst z
  obtain ⟨x, e1, h1, h2, h3, ys, hy, _⟩ := W.ok j _ hc
  rw [hy] at ha; cases ha
theorem asgN (h : EvN G ρ te fun f ds => ∀ a, E.nx (ρ.set i (.own a f ds))) : Sv G ρ (tAsg te (gName i)) E := fun nb σ H D W K => h nb σ H _ W fun f a xs H1 ds q s1 ha e hd => K.nx _ _ _ H1 (q a) (own_of W s1 ha e hd)
theorem writeOwn {nb : Addr -> Prop} {σ : St} {H : Hp} {a : Addr} {xs : List V} (W : Wd G nb ρ σ H) (e : ρ[i]? = some (.own a f ds)) (hd : IsDs (G.S nb g) H es xs) : Wd G nb (ρ.set i (.own a g es)) σ (upd H a (.lst xs)) := by
  obtain ⟨x, e1, h1, h2, h3, ys, hy, _⟩ := W.ok i _ e
  subst h1
  have hil : i < ρ.length := (zq18x.mp e).1
  have W0 : Wd G nb (ρ.set i .no) (σ.set i (some (.ref a))) H := W.set trivial fun _ _ _ z => by cases z
  have W1 : Wd G nb (ρ.set i .no) (σ.set i (some (.ref a))) (upd H a (.lst xs)) := W0.write h2 h3 (fun j c f' cs hc => by
    by_cases hij : i = j
    · subst hij; rw [zq9x hil] at hc; cases hc
    · rw [zq5x hij] at hc
      exact (W.apart i j _ _ _ _ _ _ hij e hc).symm
   ) (fun j c f' cs hc z => by
      subst z
      have hij : i ≠ j := fun z => by subst z; rw [zq9x hil] at hc; cases hc
      rw [zq5x hij] at hc
      obtain ⟨_, _, _, _, _, ps, hp, _⟩ := W.ok j _ hc
      rw [hy] at hp; cases hp) (fun j c hc z => by
      have hij : i ≠ j := fun z => by subst z; rw [zq9x hil] at hc; cases hc
      rw [zq5x hij] at hc
      exact W.apc j i c _ (zq6x hij) hc e a z (zq1x.mpr rfl))
  have W2 := W1.set (i := i) (s := .own a g es) (x := some (.ref a)) ⟨rfl, h2, h3, xs, upd_same, hd.keep (But.set (.inl h2))⟩ (by
    rintro a' f' ds' ⟨rfl, rfl, rfl⟩ j c g' cs hj hc
    rw [zq5x (zq6x hj)] at hc
    exact W.apart i j _ _ _ _ _ _ (zq6x hj) e hc) (fun _ _ _ z => by cases z) (fun x hx j t hj ht hc z => by
    rw [zq5x (zq6x hj)] at ht
    have hx : x = a := zq1x.mp hx
    subst hx
    rcases hc with ⟨c, q⟩ | ⟨c, rfl⟩
    · cases q
    · exact W.apc j i c _ hj ht e x z (zq1x.mpr rfl))
  rw [zq55x, zq55x] at W2
  have : σ.set i (some (.ref a)) = σ := by
    apply zq76x
    intro j
    by_cases hij : i = j
    · subst hij; rw [zq9x (by rw [W.len]; exact hil), e1]
    · rw [zq5x hij]
  rwa [this] at W2
theorem append {a : Addr} (e : ρ[i]? = some (.own a f ds)) (h : Ev G ρ te fun g d => ds.length < 10000 /\ E.nx (ρ.set i (.own a (f && g) (ds ++ [d])))) : Sv G ρ (tDrop (tBM K "list" rAppend (tVar i) (tCons te tNil))) E := fun nb σ H D W KK => by
 obtain ⟨x, e1, h1, h2, h3, xs, hx, hd⟩ := W.ok i _ e
 subst h1
 refine ⟨.ref a, e1, .inl ⟨rfl, _, SqL.of hx⟩, h nb σ H _ W fun g v H1 d ⟨hl, q⟩ s1 hv => ?_⟩
 have W1 := W.step s1
 have hx1 := s1.1 _ _ h3 hx
 refine ⟨a, xs, v, rfl, rfl, hx1, zq17x (by rw [hd.length]; exact hl) (by decide), KK.nx nb _ _ _ q (writeOwn W1 e ?_)⟩
 exact IsDs.snoc (hv.av (S_mono (fun z => (zq25x _ _ ▸ z).2) fun _ z => z)) ((hd.keep s1.butS).av (S_mono (fun z => (zq25x _ _ ▸ z).1) fun _ z => z))
theorem IsDs.set' {nb : Addr -> Prop} {H : Hp} {x : V} (hd : IsD nb H d x) : ∀ {ds : List PyData} {xs : List V} (j : Nat), IsDs nb H ds xs -> IsDs nb H (ds.set j d) (xs.set j x)
 | [], _, j, h => by unfold IsDs at h; subst h; exact .nil
 | e :: ds, _, 0, h => by unfold IsDs at h; obtain ⟨y, ys, rfl, h1, h2⟩ := h; exact .cons hd h2
 | e :: ds, _, j + 1, h => by unfold IsDs at h; obtain ⟨y, ys, rfl, h1, h2⟩ := h; exact .cons h1 (IsDs.set' hd j h2)
theorem setOwn {a : Addr} (e : ρ[i]? = some (.own a f ds)) (h : Ev G ρ te fun g d => Ev G ρ tb fun _ y => ∃ k j, y = .int k /\ ixN ds.length k = some j /\ E.nx (ρ.set i (.own a (f && g) (ds.set j d)))) : Sv G ρ (tAsg te (gSub (tVar i) tb rSetL)) E := fun nb σ H D W KK =>
 h nb σ H _ W fun g v H1 d q s1 hv => by
  obtain ⟨x, e1, h1, h2, h3, xs, hx, hd⟩ := (W.step s1).ok i _ e
  subst h1
  refine ⟨.ref a, e1, q nb σ H1 _ (W.step s1) fun g' u H2 y ⟨k, j, ey, hj, p⟩ s2 hu => ?_⟩
  subst ey
  have W2 := (W.step s1).step s2
  refine ⟨a, xs, k, j, rfl, hu.ofI, s2.1 _ _ h3 hx, by rw [hd.length]; exact hj, KK.nx nb _ _ _ p (writeOwn W2 e ?_)⟩
  exact IsDs.set' ((hv.keep s2.butS).av (S_mono (fun z => (zq25x _ _ ▸ z).2) fun _ z => z)) j ((hd.keep s2.butS).av (S_mono (fun z => (zq25x _ _ ▸ z).1) fun _ z => z))
theorem share {nb : Addr -> Prop} {σ : St} {H : Hp} {a : Addr} (W : Wd G nb ρ σ H) (e : ρ[i]? = some (.own a f ds)) : Wd G (fun x => nb x /\ x ≠ a) (ρ.set i (.d f (.list ds))) σ H := by
  obtain ⟨x, e1, h1, h2, h3, xs, hx, hd⟩ := W.ok i _ e
  subst h1
  have hil : i < ρ.length := (zq18x.mp e).1
  have W0 : Wd G nb (ρ.set i .no) (σ.set i (some (.ref a))) H := W.set trivial fun _ _ _ z => by cases z
  have W1 : Wd G (fun x => nb x /\ x ≠ a) (ρ.set i .no) (σ.set i (some (.ref a))) H := by
    refine ⟨W0.bag, fun x n => W0.live x n.1, W0.old, fun x n => W0.nbo x n.1, W0.gA, W0.len, W0.gB, fun h m => (W0.hld h m).av (S_mono (fun z => z) fun _ z => z.1), fun j s e' => ?_, W0.apart, W0.apd, W0.apc⟩
    obtain ⟨x, e1', h⟩ := W0.ok j s e'
    refine ⟨x, e1', ?_⟩
    have hij : s ≠ .no -> i ≠ j := fun n z => by subst z; rw [zq9x hil] at e'; cases e'; exact n rfl
    cases s with
    | no => trivial
    | d f d => obtain ⟨v, e, h⟩ := h; exact ⟨v, e, h.av (S_mono (fun z => z) fun _ z => z.1)⟩
    | own c f es =>
      obtain ⟨e2, n, q, xs, hx, hd⟩ := h
      have hij := hij (by intro z; cases z)
      rw [zq5x hij] at e'
      exact ⟨e2, ⟨n, (W.apart i j _ _ _ _ _ _ hij e e').symm⟩, q, xs, hx, hd.av (S_mono (fun z => z) fun _ z => z.1)⟩
    | bag => exact h
    | raw v => exact h
    | dic c f es =>
      obtain ⟨e2, n, q, ps, hp, hd⟩ := h
      have hca : c ≠ a := fun z => by subst z; rw [hx] at hp; cases hp
      exact ⟨e2, ⟨n, hca⟩, q, ps, hp, hd.av (S_mono (fun z => z) fun _ z => z.1)⟩
    | cu c =>
      obtain ⟨e2, n, q⟩ := h
      have hij := hij (by intro z; cases z)
      rw [zq5x hij] at e'
      exact ⟨e2, fun x hx => ⟨⟨(n x hx).1, fun z => W.apc j i c _ (zq6x hij) e' e x hx (by rw [z]; exact zq1x.mpr rfl)⟩, (n x hx).2⟩, c.av (S_mono (fun z => z) fun _ z => z.1) q⟩
  have W2 := W1.setD (i := i) (f := f) (d := .list ds) (v := .ref a) (.lst (fun z => by
    rcases z with z | z | z | z
    · exact z.2 rfl
    · exact W.gA a z (W.nbo a h2 h3)
    · exact z h3
    · exact z.2 (W.nbo a h2 h3)) hx (hd.av (S_mono (fun z => z) fun _ z => z.1)))
  rw [zq55x, zq55x] at W2
  have : σ.set i (some (.ref a)) = σ := by
    apply zq76x
    intro j
    by_cases hij : i = j
    · subst hij; rw [zq9x (by rw [W.len]; exact hil), e1]
    · rw [zq5x hij]
  rwa [this] at W2
theorem demote {a : Addr} (i : Nat) (e : ρ[i]? = some (.own a f ds)) (h : Sv G (ρ.set i (.d f (.list ds))) s E) : Sv G ρ s E := fun nb σ H D W K => h _ σ H D (share W e) K
theorem wk {ρ' : Rh} (w : Wk ρ' ρ) (h : Sv G ρ' s E) : Sv G ρ s E := fun nb σ H D W K => h nb σ H D (W.wk w) K
end Sv
end
end L2
set_option maxRecDepth 100000
set_option maxHeartbeats 1000000
namespace L2
open PySem PySem.Spec PyProof.Rows
abbrev Gx.hd (G : Gx) (f : Bool) (d : PyData) (v : V) : Gx := { G with hold := (f, .d d, v) :: G.hold }
section
variable {G : Gx} {ρ ρc : Rh} {Φ Ψ : Pd} {ta tb te : TE} {t : TA} {i : Nat} {f g : Bool} {d e : PyData} {ds es : List PyData} {K : PySem.W.Frag}
theorem Wd.hd {nb : Addr -> Prop} {σ : St} {H : Hp} {v : V} (W : Wd G nb ρ σ H) (h : IsD (G.S nb f) H d v) : Wd (G.hd f d v) nb ρ σ H :=
 ⟨W.bag, W.live, W.old, W.nbo, W.gA, W.len, W.gB, fun x m => by
  rcases zq2x.mp m with e | m
  ·subst e; exact h
  ·exact W.hld x m, fun i s e => by
   obtain ⟨x, e1, h⟩ := W.ok i s e
   refine ⟨x, e1, ?_⟩
   cases s <;> exact h, W.apart, W.apd, W.apc⟩
theorem Wd.unhd {nb : Addr -> Prop} {σ : St} {H : Hp} {v : V} (W : Wd (G.hd f d v) nb ρ σ H) : Wd G nb ρ σ H /\ IsD (G.S nb f) H d v :=
 ⟨⟨W.bag, W.live, W.old, W.nbo, W.gA, W.len, W.gB, fun x m => W.hld x (zq12x _ m), fun i s e => by
   obtain ⟨x, e1, h⟩ := W.ok i s e
   refine ⟨x, e1, ?_⟩
   cases s <;> exact h, W.apart, W.apd, W.apc⟩, W.hld _ (zq20x ..)⟩
namespace Sv
variable {E : DE} {s : TS} {gt : TG}
def Turns (G : Gx) (ρ : Rh) (n : Nat) (it : Nat -> PyData -> Prop) (fi : Bool) (gt : TG) (s : TS) (E : DE) : Prop :=
 ∃ I : Nat -> Rh -> Prop, I 0 ρ /\ (∀ i d ρ', it i d -> I i ρ' -> Gv G ρ' gt fi d fun ρ2 => Sv G ρ2 s { nx := I (i + 1), rt := E.rt, bk := E.nx, ct := I (i + 1), rw := E.rw }) /\ ∀ ρ', I n ρ' -> E.nx ρ'
theorem loopR {lo : Int} {n : Nat} {nb : Addr -> Prop} {σ : St} {H : Hp} {D : Ends} (W : Wd G nb ρ σ H) (KK : EndsOk G E D) (h : Turns G ρ n (fun i d => i < n /\ d = .int (lo + i)) true gt s E) :
  ∃ W : Nat -> Nat -> St -> Hp -> Prop, (∃ m, W 0 m σ H) /\ ∀ i m σ H, W i m σ H ->
   ((Itr lo n).stop i H /\ D.nx σ H) \/ ((Itr lo n).go i H /\ ∃ N : St -> Hp -> Prop, (∀ σ' H', N σ' H' -> ∃ m', m' < m /\ W (i + 1) m' σ' H') /\ ∀ x H', (Itr lo n).yld i H x H' -> gt x σ H' fun σ2 H2 => s { D with nx := N, ct := N, bk := D.nx } σ2 H2) := by
 obtain ⟨I, h0, ht, he⟩ := h
 refine for_range (fun i σ H => ∃ nb ρ', I i ρ' /\ Wd G nb ρ' σ H) ⟨nb, ρ, h0, W⟩ ?_ ?_
 ·rintro i σ H hi ⟨nb, ρ', hI, W⟩
  refine ht i _ ρ' ⟨hi, rfl⟩ hI nb σ H _ _ W (.int _) fun σ2 ρ2 q W2 => q nb σ2 H _ W2 ?_
  exact ⟨fun nb ρ σ H q W => ⟨nb, ρ, q, W⟩, KK.nx, fun nb ρ σ H q W => ⟨nb, ρ, q, W⟩, KK.rt, KK.rw⟩
 ·rintro σ H ⟨nb, ρ', hI, W⟩
  exact KK.nx nb ρ' σ H (he ρ' hI) W
theorem forR1 (h : Ev G ρ te fun _ x => ∃ n : Int, x = .int n /\ -(2 ^ 62) <= n /\ n < 2 ^ 62 /\ Turns G ρ n.toNat (fun i d => i < n.toNat /\ d = .int (0 + i)) true gt s E) : Sv G ρ (tFor (iRng1 (tCons te tNil)) gt s) E := fun nb σ H D W KK =>
 h nb σ H _ W fun f v H1 x ⟨n, ex, h1, h2, q⟩ s1 hv => by
  subst ex
  rw [hv.ofI]
  exact ⟨n, rfl, h1, h2, loopR (W.step s1) KK q⟩
end Sv
def startR (mp : List (Option Nat)) (ρ : Rh) : Rh := mp.map fun o => match o with | none => .no | some j => match ρ[j]? with | some s => s | none => .no
theorem mp_inj {mp : List (Option Nat)} (h : (mp.filterMap id).Nodup) : ∀ {i j k : Nat}, mp[i]? = some (some k) -> mp[j]? = some (some k) -> i = j := by
  induction mp with
  | nil => intro i j k e; simp at e
  | cons o r ih =>
    intro i j k e1 e2
    have hr : (r.filterMap id).Nodup := by
      cases o with
      | none => simpa using h
      | some x => rw [zq147x (by rfl)] at h; exact (zq43x.mp h).2
    have hn : ∀ {m : Nat}, r[m]? = some (some k) -> o ≠ some k := fun {m} hm e => by
      subst e
      rw [zq147x (by rfl)] at h
      exact (zq43x.mp h).1 (zq114x.mpr ⟨some k, zq72x hm, rfl⟩)
    cases i with
    | zero =>
      cases j with
      | zero => rfl
      | succ j => simp at e1 e2; exact absurd e1 (hn e2)
    | succ i =>
      cases j with
      | zero => simp at e1 e2; exact absurd e2 (hn e1)
      | succ j => simp at e1 e2; rw [ih hr e1 e2]
theorem Wd.startC {nb : Addr -> Prop} {σ : St} {H : Hp} {mp : List (Option Nat)} (W : Wd G nb ρ σ H) (hm : (mp.filterMap id).Nodup) : Wd G nb (startR mp ρ) (startC mp σ) H := by
  have hat : ∀ {i : Nat} {s : Sl}, (startR mp ρ)[i]? = some s -> s = .no \/ ∃ k, mp[i]? = some (some k) /\ ρ[k]? = some s := fun {i s} e => by
    unfold startR at e
    rw [zq16x] at e
    obtain ⟨o, ho, e⟩ := zq74x.mp e
    cases o with
    | none => exact .inl e.symm
    | some k =>
      cases hk : ρ[k]? with
      | none => simp only [hk] at e; exact .inl e.symm
      | some s' => simp only [hk] at e; subst e; exact .inr ⟨k, ho, hk⟩
  refine ⟨W.bag, W.live, W.old, W.nbo, W.gA, by unfold L2.startC startR; rw [zq0x, zq0x], W.gB, W.hld, fun i s e => ?_, fun i j a f as c g cs hij e1 e2 => ?_, fun i j a f as c g cs hij e1 e2 => ?_, fun i j c t hij e1 e2 a ha => ?_⟩
  · have hi : i < mp.length := by have := (zq18x.mp e).1; unfold startR at this; rwa [zq0x] at this
    rcases hat e with rfl | ⟨k, hk, hs⟩
    · exact ⟨_, by unfold L2.startC; rw [zq16x, zq21x hi]; rfl, trivial⟩
    · obtain ⟨x, e1, h⟩ := W.ok k s hs
      refine ⟨x, ?_, h⟩
      unfold L2.startC
      rw [zq16x, hk]
      simp only [Option.map_some, e1]
  · rcases hat e1 with z | ⟨k, hk, hs⟩
    · cases z
    rcases hat e2 with z | ⟨k', hk', hs'⟩
    · cases z
    exact W.apart k k' a f as c g cs (fun z => by subst z; exact hij (mp_inj hm hk hk')) hs hs'
  · rcases hat e1 with z | ⟨k, hk, hs⟩
    · cases z
    rcases hat e2 with z | ⟨k', hk', hs'⟩
    · cases z
    exact W.apd k k' a f as c g cs (fun z => by subst z; exact hij (mp_inj hm hk hk')) hs hs'
  · rcases hat e1 with z | ⟨k, hk, hs⟩
    · cases z
    rcases hat e2 with z | ⟨k', hk', hs'⟩
    · subst z; exact fun z => by cases z
    exact W.apc k k' c t (fun z => by subst z; exact hij (mp_inj hm hk hk')) hs hs' a ha
def NoOwn (ρ : Rh) (acc : Addr) : Prop := (∀ (j : Nat) a f ds, ρ[j]? = some (.own a f ds) -> a ≠ acc) /\ ∀ (j : Nat) c, ρ[j]? = some (.cu c) -> acc ∉ c.F
def CompD (G : Gx) (ρc : Rh) (n : Nat) (it : Nat -> PyData -> Prop) (fi : Bool) (gt : TG) (tc : TT) (te : TE) (Θ : Bool -> List PyData -> Prop) : Prop :=
 ∃ (fl : Bool) (I : Nat -> List PyData -> Prop), I 0 [] /\ (∀ i d ds, it i d -> ds.length <= i -> I i ds -> Gv G ρc gt fi d fun ρ1 => Wk ρc ρ1 /\ Tv G ρ1 tc fun b => if b = true then Ev G ρ1 te fun f e => (fl = true -> f = true) /\ I (i + 1) (ds ++ [e]) else I (i + 1) ds) /\
  ∀ ds, ds.length <= n -> I n ds -> Θ (fl || scAll ds) ds
theorem comp_turn {gt : TG} {tc : TT} {nb : Addr -> Prop} {acc : Addr} {σ : St} {H H1 : Hp} {x : V} {fi fl : Bool} {I : Nat -> List PyData -> Prop} {xs : List V} {N : St -> Hp -> Prop} {ds : List PyData} {n : Nat} (hn : n <= 10000) (hi : i < n)
    (W : Wd G nb ρc σ H) (ha : nb acc) (hN : NB G.B acc) (hno : NoOwn ρc acc) (st : Step G.B H1 H) (hacc : H1 acc = none) (hx : H acc = some (.lst xs)) (hd : IsDs (G.S nb fl) H ds xs) (hl : ds.length <= i) (hxd : IsD (G.S nb fi) H d x)
    (h : Gv G ρc gt fi d fun ρ1 => Wk ρc ρ1 /\ Tv G ρ1 tc fun b => if b = true then Ev G ρ1 te fun f e => (fl = true -> f = true) /\ I (i + 1) (ds ++ [e]) else I (i + 1) ds)
    (z : ∀ σ' H' ds' xs', Wd G nb ρc σ' H' -> Step G.B H1 H' -> H' acc = some (.lst xs') -> IsDs (G.S nb fl) H' ds' xs' -> ds'.length <= i + 1 -> I (i + 1) ds' -> N σ' H') :
    gt x σ H fun σ2 H2 => tc σ2 H2 fun b H3 => if b = true then te σ2 H3 fun v H4 => ∃ ys, H4 acc = some (.lst ys) /\ ys.length < sizeLine /\ N σ2 (upd H4 acc (.lst (ys ++ [v]))) else N σ2 H3 := by
  refine h nb σ H x _ W hxd fun σ2 ρ1 ⟨wk, q⟩ W2 => q nb σ2 H _ W2 fun b H3 q3 s3 => ?_
  have hx3 := s3.1 _ _ hN hx
  have hd3 := hd.keep (s3.butS (nb := nb) (f := fl))
  cases b with
  | false =>
    rw [if_neg zq11x] at q3 ⊢
    exact z σ2 H3 ds xs ((W2.step s3).wk wk) (st.trans s3) hx3 hd3 (by omega) q3
  | true =>
    rw [if_pos rfl] at q3 ⊢
    refine q3 nb σ2 H3 _ (W2.step s3) fun f v H4 e ⟨hf, hI⟩ s4 hv => ?_
    have hx4 := s4.1 _ _ hN hx3
    have hd4 := hd3.keep (s4.butS (nb := nb) (f := fl))
    have hlen := hd.length
    refine ⟨xs, hx4, zq17x (show xs.length < 10001 by omega) (by decide), ?_⟩
    have W4 : Wd G nb ρc σ2 H4 := ((W2.step s3).step s4).wk wk
    have bt : But (G.S nb fl) H4 (upd H4 acc (.lst (xs ++ [v]))) := But.set (.inl ha)
    have W5 : Wd G nb ρc σ2 (upd H4 acc (.lst (xs ++ [v]))) := W4.write ha hN hno.1 (fun j a f ds e z => by
      subst z
      obtain ⟨_, _, _, _, _, ps, hp, _⟩ := W4.ok j _ e
      rw [hx4] at hp; cases hp) hno.2
    refine z σ2 _ (ds ++ [e]) (xs ++ [v]) W5 ⟨fun a o n q => ?_, W5.bag⟩ upd_same (IsDs.snoc ((hv.av (S_mono hf fun _ z => z)).keep bt) (hd4.keep bt)) (by rw [zq39x, zq54x]; omega) hI
    have hne : a ≠ acc := fun z => by subst z; rw [hacc] at q; cases q
    rw [upd_ne hne]
    exact (st.trans (s3.trans s4)).1 a o n q
theorem no_own {nb : Addr -> Prop} {σ : St} {H : Hp} {a : Addr} (W : Wd G nb ρ σ H) (ha : H a = none) : NoOwn ρ a := by
 refine ⟨fun j c f ds e z => ?_, fun j c e z => ?_⟩
 ·subst z
  obtain ⟨x, e1, h1, h2, h3, ys, hy, _⟩ := W.ok j _ e
  rw [hy] at ha; cases ha
 ·obtain ⟨x, e1, h1, h2, h3⟩ := W.ok j _ e
  exact W.live a (h2 a z).1 ha
theorem hA_more {nb : Addr -> Prop} {a : Addr} {f : Bool} : ∀ x, (G.S nb f x \/ x = a) -> G.S (fun x => nb x \/ x = a) f x := fun x z => by
 rcases z with (z | z | z | z) | z
 ·exact .inl (.inl z)
 ·exact .inr (.inl z)
 ·exact .inr (.inr (.inl z))
 ·exact .inr (.inr (.inr z))
 ·exact .inl (.inr z)
theorem comp_end {nb : Addr -> Prop} {acc : Addr} {H H1 H' : Hp} {σ : St} {Q : VK} {Θ : Bool -> List PyData -> Prop} {xs : List V} {ds : List PyData} {fl : Bool} (W : Wd G nb ρ σ H) (s1 : Step G.B H H1) (hacc : H1 acc = none) (s2 : Step G.B H1 H') (hx : H' acc = some (.lst xs)) (hd : IsDs (G.S (fun x => nb x \/ x = acc) fl) H' ds xs) (p : Θ (fl || scAll ds) ds)
  (z : ∀ f a xs H' ds, Θ f ds -> Step G.B H H' -> H a = none -> H' a = some (.lst xs) -> IsDs (fun x => G.S nb f x \/ x = a) H' ds xs -> Q (.ref a) H') : Q (.ref acc) H' := by
 refine z _ acc xs H' ds p (s1.trans s2) (W.none_of s1 hacc) hx ?_
 cases hs : scAll ds with
 | true => exact IsDs.scAny hs hd
 | false => rw [zq64x]; exact hd.av hA_more
theorem NB.new {B : Bg} {H : Hp} {a : Addr} (h : BagOk B H) (ha : H a = none) : NB B a := zq40x fun z => NB.bag_live h z ha
namespace EvN
variable {Θ : Bool -> List PyData -> Prop} {gt : TG} {tc : TT} {mp : List (Option Nat)}
theorem compR {lo : Int} {n : Nat} {nb : Addr -> Prop} {σ : St} {H H1 : Hp} {Q : VK} (W : Wd G nb ρ σ H) (s1 : Step G.B H H1) (hm : (mp.filterMap id).Nodup) (hρ : startR mp ρ = ρc) (hn : n <= 10000) (h : CompD G ρc n (fun i d => i < n /\ d = .int (lo + i)) true gt tc te Θ)
  (z : ∀ f a xs H' ds, Θ f ds -> Step G.B H H' -> H a = none -> H' a = some (.lst xs) -> IsDs (fun x => G.S nb f x \/ x = a) H' ds xs -> Q (.ref a) H') (acc : Addr) (hacc : H1 acc = none) : CompW (Itr lo n) gt tc te acc (fun H' => Q (.ref acc) H') (startC mp σ) (upd H1 acc (.lst [])) := by
 obtain ⟨fl, I, h0, ht, he⟩ := h
 have W0 : Wd G nb ρc (L2.startC mp σ) H1 := by rw [<- hρ]; exact (W.step s1).startC hm
 have W1 := W0.more hacc (o := .lst [])
 have hN := NB.new s1.2 hacc
 have hno := no_own W0 hacc
 have st0 : Step G.B H1 (upd H1 acc (.lst [])) := .same s1.2 (same_new hacc)
 refine R.comp_range (fun i σ H => ∃ ds xs, Wd G (fun x => nb x \/ x = acc) ρc σ H /\ Step G.B H1 H /\ H acc = some (.lst xs) /\ IsDs (G.S (fun x => nb x \/ x = acc) fl) H ds xs /\ ds.length <= i /\ I i ds) ⟨[], [], W1, st0, upd_same, .nil, zq3x _, h0⟩ ?_ ?_
 ·rintro i σ H hi ⟨ds, xs, W, st, hx, hd, hl, hI⟩
  exact comp_turn hn hi W (.inr rfl) hN hno st hacc hx hd hl (.int _) (ht i _ ds ⟨hi, rfl⟩ hl hI) fun σ' H' ds' xs' W' st' hx' hd' hl' hI' => ⟨ds', xs', W', st', hx', hd', hl', hI'⟩
 ·rintro σ H' ⟨ds, xs, W', st, hx, hd, hl, hI⟩
  exact comp_end W s1 hacc st hx hd (he ds hl hI) z
theorem compR1 {t0 : TE} (hm : (mp.filterMap id).Nodup) (hρ : startR mp ρ = ρc) (h : Ev G ρ t0 fun _ x => ∃ n : Int, x = .int n /\ -10000 <= n /\ n <= 10000 /\ CompD G ρc n.toNat (fun i d => i < n.toNat /\ d = .int (0 + i)) true gt tc te Θ) : EvN G ρ (tComp (iRng1 (tCons t0 tNil)) gt tc te mp) Θ := fun nb σ H Q W z =>
 h nb σ H _ W fun f v H1 x ⟨n, ex, h1, h2, q⟩ s1 hv => by
  subst ex
  rw [hv.ofI]
  exact ⟨n, rfl, by omega, by omega, compR W s1 hm hρ (by omega) q z⟩
theorem compL {t0 : TE} (hm : (mp.filterMap id).Nodup) (hρ : startR mp ρ = ρc) (h : Ev G ρ t0 fun fi x => ∃ es, x = .list es /\ es.length <= 10000 /\ ∀ v, CompD (G.hd fi (.list es) v) ρc es.length (fun i d => es[i]? = some d) fi gt tc te Θ) : EvN G ρ (tComp (iList K t0) gt tc te mp) Θ := fun nb σ H Q W z =>
 h nb σ H _ W fun fi v H1 x ⟨es, ex, hn, q⟩ s1 hv => by
  subst ex
  obtain ⟨fl, I, h0, ht, he⟩ := q v
  have W0 := (W.step s1).hd hv
  obtain ⟨a, xs, rfl, n, hx, hd⟩ := hv.ofL
  refine ⟨a, rfl, ⟨xs, .of hx⟩, fun acc hacc => ?_⟩
  have W0' : Wd (G.hd fi (.list es) (.ref a)) nb ρc (L2.startC mp σ) H1 := by rw [<- hρ]; exact W0.startC hm
  have W1 := W0'.more hacc (o := .lst [])
  have hN := NB.new s1.2 hacc
  have hno := no_own W0' hacc
  have st0 : Step G.B H1 (upd H1 acc (.lst [])) := .same s1.2 (same_new hacc)
  have hNa : NB G.B a := zq40x fun z => n (.inr (.inr (.inl z)))
  refine R.comp_list (xs := xs) (fun i σ H => ∃ ds ys, Wd (G.hd fi (.list es) (.ref a)) (fun x => nb x \/ x = acc) ρc σ H /\ Step G.B H1 H /\ H acc = some (.lst ys) /\ IsDs (G.S (fun x => nb x \/ x = acc) fl) H ds ys /\ ds.length <= i /\ I i ds) ⟨[], [], W1, st0, upd_same, .nil, zq3x _, h0⟩ ?_ ?_ ?_
  ·rintro i σ H hi ⟨ds, ys, W, st, _⟩
   exact .of (st.1 _ _ hNa hx)
  ·rintro i x σ H hi ⟨ds, ys, W, st, hy, hd', hl, hI⟩
   obtain ⟨a', xs', e', _, h', d'⟩ := W.unhd.2.ofL
   cases e'
   rw [st.1 _ _ hNa hx] at h'; cases h'
   have hil : i < es.length := by have := (zq18x.mp hi).1; have := d'.length; omega
   obtain ⟨x', hx', dx⟩ := d'.get (zq21x hil)
   rw [hi] at hx'; cases hx'
   exact comp_turn (G := G.hd fi (.list es) (.ref a)) hn hil W (.inr rfl) hN hno st hacc hy hd' hl dx (ht i _ ds (zq21x hil) hl hI) fun σ' H' ds' xs' W' st' hx' hd' hl' hI' => ⟨ds', xs', W', st', hx', hd', hl', hI'⟩
  ·rintro σ H' ⟨ds, ys, W', st, hy, hd', hl, hI⟩
   rw [hd.length] at hl hI
   exact comp_end W s1 hacc st hy hd' (he ds hl hI) z
end EvN
end
end L2
set_option maxRecDepth 100000
set_option maxHeartbeats 1000000
namespace L2
open PySem PySem.Spec PyProof.Rows
section
variable {ρ : Rh} {t : TS} {N : List Str} {vs : List V} {ds : List PyData} {nb : Addr -> Prop} {H : Hp} {Q : VK} {Φ : Pd} {b l : Addr}
theorem isDs_at {xs : List V} (h : IsDs nb H ds xs) {i : Nat} {s : Sl} (e : (ds.map (Sl.d false))[i]? = some s) : ∃ v d, xs[i]? = some v /\ s = .d false d /\ IsD nb H d v := by
 rw [zq16x] at e
 obtain ⟨d, hd, e⟩ := zq74x.mp e
 obtain ⟨v, hv, q⟩ := h.get hd
 exact ⟨v, d, hv, e.symm, q⟩
theorem Sv.enterD (hl : Live nb H) (hd : IsDs nb H ds vs) (hΦ : ∀ f d v H', Φ f d -> Same H H' -> IsD (fun a => nb a \/ (f = true /\ H a ≠ none)) H' d v -> Q v H')
  (hρ : ρ = ds.map (Sl.d false) ++ List.replicate (N.length - ds.length) .no) (h : Sv ⟨none, H, nb, []⟩ ρ t { nx := fun _ => Φ true .none, rt := Φ }) : t { nx := fun _ H' => Q .non H', rt := Q } (start N vs) H := by
 have hlen := hd.length
 have sm : ∀ {nb' ρ' σ' H'}, Wd ⟨none, H, nb, []⟩ nb' ρ' σ' H' -> Same H H' := fun W a o e => W.old a o (fun _ _ z => (by cases z)) e
 refine h (fun _ => False) _ H _ ⟨fun _ _ z => (by cases z), fun _ z => z.elim, fun _ _ _ e => e, fun _ z => z.elim, hl, ?_, fun _ _ z => (by cases z), fun _ m => (by cases m), fun i s e => ?_, ?_, ?_, ?_⟩ ⟨fun nb' ρ' σ' H' q W => hΦ _ _ _ _ q (sm W) .non, fun _ _ _ _ q _ => q.elim, fun _ _ _ _ q _ => q.elim, fun nb' ρ' σ' f v H' d q W hv => hΦ f d v H' q (sm W) (hv.av fun a z => ?_), fun _ _ _ _ _ q _ => q.elim⟩
 ·rw [hρ]; unfold start; simp [hlen]
 ·rw [hρ] at e
  unfold start
  by_cases hi : i < ds.length
  ·rw [zq19x (by rw [zq0x]; exact hi)] at e
   obtain ⟨v, d, hv, rfl, q⟩ := isDs_at hd e
   refine ⟨some v, ?_, v, rfl, q.av fun a z => ?_⟩
   ·rw [zq19x (by rw [zq0x, hlen]; exact hi), zq16x, hv]; rfl
   ·rcases z with z | z | z | z
    ·exact z.elim
    ·exact z
    ·exact absurd (fun _ _ z => (by cases z)) z
    ·cases z.1
  ·rw [zq15x (by rw [zq0x]; omega), zq22x] at e
   split at e
   ·rename_i h'
    cases e
    refine ⟨none, ?_, trivial⟩
    rw [zq0x] at h'
    rw [zq15x (by rw [zq0x]; omega), zq22x, if_pos (by rw [zq0x, hlen]; exact h')]
   ·cases e
 ·intro i j a f as c g cs hij e1
  rw [hρ] at e1
  by_cases hi : i < ds.length
  ·rw [zq19x (by rw [zq0x]; exact hi)] at e1
   obtain ⟨_, _, _, z, _⟩ := isDs_at hd e1
   cases z
  ·rw [zq15x (by rw [zq0x]; omega), zq22x] at e1
   split at e1 <;> cases e1
 ·intro i j a f as c g cs hij e1
  rw [hρ] at e1
  by_cases hi : i < ds.length
  ·rw [zq19x (by rw [zq0x]; exact hi)] at e1
   obtain ⟨_, _, _, z, _⟩ := isDs_at hd e1
   cases z
  ·rw [zq15x (by rw [zq0x]; omega), zq22x] at e1
   split at e1 <;> cases e1
 ·intro i j c t hij e1
  rw [hρ] at e1
  by_cases hi : i < ds.length
  ·rw [zq19x (by rw [zq0x]; exact hi)] at e1
   obtain ⟨_, _, _, z, _⟩ := isDs_at hd e1
   cases z
  ·rw [zq15x (by rw [zq0x]; omega), zq22x] at e1
   split at e1 <;> cases e1
 ·rcases z with z | z
  ·exact .inr (.inl z)
  ·exact .inr (.inr (.inr z))
theorem Sv.enterB (hB : BagAt H b l) (hl : Live nb H) (hb : nb b) (hd : IsDs nb H ds vs) (hΦ : ∀ f d v H', Φ f d -> But (Nb b) H H' -> BagAt H' b l -> IsD (fun a => nb a \/ (f = true /\ H a ≠ none)) H' d v -> Q v H')
    (hρ : ρ = .bag :: ds.map (Sl.d false) ++ List.replicate (N.length - (ds.length + 1)) .no) (h : Sv ⟨some (b, l), H, nb, []⟩ ρ t { nx := fun _ => Φ true .none, rt := Φ }) : t { nx := fun _ H' => Q .non H', rt := Q } (start N (.ref b :: vs)) H := by
  have hlen := hd.length
  have hNB : ∀ a, a ≠ b -> NB (some (b, l)) a := fun a n b' l' e => by cases e; exact n
  have hNB' : ∀ a, ¬ NB (some (b, l)) a -> a = b := fun a n => zq40x fun z => n (hNB a z)
  have bt : ∀ {nb' ρ' σ' H'}, Wd ⟨some (b, l), H, nb, []⟩ nb' ρ' σ' H' -> But (Nb b) H H' := fun W a o n e => W.old a o (hNB a n) e
  have bg : ∀ {nb' ρ' σ' H'}, Wd ⟨some (b, l), H, nb, []⟩ nb' ρ' σ' H' -> BagAt H' b l := fun W => W.bag b l rfl
  refine h (fun _ => False) _ H _ ⟨fun b' l' e => (by cases e; exact hB), fun _ z => z.elim, fun _ _ _ e => e, fun _ z => z.elim, hl, ?_, fun b' l' e => (by cases e; exact hB), fun _ m => (by cases m), fun i s e => ?_, ?_, ?_, ?_⟩ ⟨fun nb' ρ' σ' H' q W => hΦ _ _ _ _ q (bt W) (bg W) .non, fun _ _ _ _ q _ => q.elim, fun _ _ _ _ q _ => q.elim, fun nb' ρ' σ' f v H' d q W hv => hΦ f d v H' q (bt W) (bg W) (hv.av fun a z => ?_), fun _ _ _ _ _ q _ => q.elim⟩
  · rw [hρ]; unfold start; simp [hlen]
  · rw [hρ] at e
    unfold start
    cases i with
    | zero => simp at e; subst e; exact ⟨some (.ref b), by simp, b, l, rfl, rfl⟩
    | succ i =>
      simp only [zq44x, zq32x, zq24x, zq27x] at e ⊢
      by_cases hi : i < ds.length
      · rw [zq19x (by rw [zq0x]; exact hi)] at e
        obtain ⟨v, d, hv, rfl, q⟩ := isDs_at hd e
        refine ⟨some v, ?_, v, rfl, q.av fun a z => ?_⟩
        · rw [zq19x (by rw [zq0x, hlen]; exact hi), zq16x, hv]; rfl
        · rcases z with z | z | z | z
          · exact z.elim
          · exact z
          · rw [hNB' a z]; exact hb
          · cases z.1
      · rw [zq15x (by rw [zq0x]; omega), zq22x] at e
        split at e
        · rename_i h'
          cases e
          refine ⟨none, ?_, trivial⟩
          rw [zq0x] at h'
          rw [zq15x (by rw [zq0x]; omega), zq22x, if_pos (by rw [zq0x, hlen]; exact h')]
        · cases e
  · intro i j a f as c g cs hij e1
    rw [hρ] at e1
    cases i with
    | zero => simp at e1
    | succ i =>
      simp only [zq44x, zq32x] at e1
      by_cases hi : i < ds.length
      · rw [zq19x (by rw [zq0x]; exact hi)] at e1
        obtain ⟨_, _, _, z, _⟩ := isDs_at hd e1
        cases z
      · rw [zq15x (by rw [zq0x]; omega), zq22x] at e1
        split at e1 <;> cases e1
  · intro i j a f as c g cs hij e1
    rw [hρ] at e1
    cases i with
    | zero => simp at e1
    | succ i =>
      simp only [zq44x, zq32x] at e1
      by_cases hi : i < ds.length
      · rw [zq19x (by rw [zq0x]; exact hi)] at e1
        obtain ⟨_, _, _, z, _⟩ := isDs_at hd e1
        cases z
      · rw [zq15x (by rw [zq0x]; omega), zq22x] at e1
        split at e1 <;> cases e1
  · intro i j c t hij e1
    rw [hρ] at e1
    cases i with
    | zero => simp at e1
    | succ i =>
      simp only [zq44x, zq32x] at e1
      by_cases hi : i < ds.length
      · rw [zq19x (by rw [zq0x]; exact hi)] at e1
        obtain ⟨_, _, _, z, _⟩ := isDs_at hd e1
        cases z
      · rw [zq15x (by rw [zq0x]; omega), zq22x] at e1
        split at e1 <;> cases e1
  · rcases z with z | z
    · exact .inr (.inl z)
    · exact .inr (.inr (.inr z))
def lawG (b l : Addr) (H : Hp) : Gx := ⟨some (b, l), H, fun _ => False, []⟩
theorem law_wdS {a : Addr} {m : Nat} (hB : BagAt H b l) : Wd (lawG b l H) (fun _ => False) (.raw (.ref a) :: .bag :: List.replicate m .no) (some (.ref a) :: some (.ref b) :: List.replicate m none) H := by
  refine ⟨fun b' l' e => (by cases e; exact hB), fun _ z => z.elim, fun _ _ _ e => e, fun _ z => z.elim, fun _ z => z.elim, by simp, fun b' l' e => (by cases e; exact hB), fun _ m => (by cases m), fun i s e => ?_, ?_, ?_, ?_⟩
  · match i with
    | 0 => simp at e; subst e; exact ⟨_, rfl, rfl⟩
    | 1 => simp at e; subst e; exact ⟨some (.ref b), rfl, b, l, rfl, rfl⟩
    | i + 2 =>
      simp only [zq32x, zq22x] at e ⊢
      split at e
      · rename_i h; cases e; exact ⟨none, if_pos h, trivial⟩
      · cases e
  · intro i j a f as c g cs hij e1
    match i with
    | 0 => simp at e1
    | 1 => simp at e1
    | i + 2 =>
      simp only [zq32x, zq22x] at e1
      split at e1 <;> cases e1
  · intro i j a f as c g cs hij e1
    match i with
    | 0 => simp at e1
    | 1 => simp at e1
    | i + 2 =>
      simp only [zq32x, zq22x] at e1
      split at e1 <;> cases e1
  · intro i j c t hij e1
    match i with
    | 0 => simp at e1
    | 1 => simp at e1
    | i + 2 =>
      simp only [zq32x, zq22x] at e1
      split at e1 <;> cases e1
theorem Ev.lenRaw {G : Gx} {i : Nat} {a : Addr} {ns : List Int} {K : PySem.W.Frag} (e : ρ[i]? = some (.raw (.ref a))) (hS : SqL K G.H0 a (ns.map V.int)) (h : Φ true (.int ns.length)) : Ev G ρ (tCB (rLen K) (tCons (tVar i) tNil)) Φ := fun nb σ H Q W z => by
 obtain ⟨x, e1, h1⟩ := W.ok i _ e
 have h1 : x = some (.ref a) := h1
 subst h1
 have hS' : SqL K H a (ns.map V.int) := by
  rcases hS with hr | hk
  ·have hn : NB G.B a := fun b l hb z => by
    subst z
    obtain ⟨_, _, _, _, _, g1, _⟩ := W.gB _ _ hb
    rcases hr with hr | ⟨o, hr⟩
    ·rw [g1] at hr
     have := HO.lst.inj (zq31x hr)
     cases ns with
     | nil => cases this
     | cons n r => rw [zq24x] at this; cases (List.cons.inj this).1
    ·rw [g1] at hr; cases hr
   rcases hr with hr | ⟨o, hr⟩
   ·exact .inl (.inl (W.old _ _ hn hr))
   ·exact .inl (.inr ⟨o, W.old _ _ hn hr⟩)
  ·exact .inr hk
 refine ⟨.ref a, e1, a, _, rfl, .inl hS', ?_⟩
 rw [zq0x]
 exact z true _ H _ h (.refl W.bag) (.int _)
theorem law_endsR {D : Ends} (h2 : ∀ H, D.rt (.bl true) H) : EndsOk (lawG b l H) { nx := fun _ => False, rt := fun _ d => d = .bool true } D :=
 ⟨fun _ _ _ _ q _ => q.elim, fun _ _ _ _ q _ => q.elim, fun _ _ _ _ q _ => q.elim, fun _ _ _ f v H d q _ hv => by subst q; unfold IsD at hv; subst hv; exact h2 H, fun _ _ _ _ _ q _ => q.elim⟩
end
namespace R
theorem di {P : Int -> Prop} {i : Int} (h : P i) : ∃ j, PyData.int i = .int j /\ P j := ⟨i, rfl, h⟩
theorem db {P : Bool -> Prop} {i : Bool} (h : P i) : ∃ j, PyData.bool i = .bool j /\ P j := ⟨i, rfl, h⟩
theorem dl {P : List PyData -> Prop} {i : List PyData} (h : P i) : ∃ j, PyData.list i = .list j /\ P j := ⟨i, rfl, h⟩
theorem dt {P : List PyData -> Prop} {i : List PyData} (h : P i) : ∃ j, PyData.tuple i = .tuple j /\ P j := ⟨i, rfl, h⟩
theorem dll {P : List PyData -> Prop} {i : List PyData} (h : P i) : ∃ j, (PyData.list i = .list j \/ PyData.list i = .tuple j) /\ P j := ⟨i, .inl rfl, h⟩
theorem dlt {P : List PyData -> Prop} {i : List PyData} (h : P i) : ∃ j, (PyData.tuple i = .list j \/ PyData.tuple i = .tuple j) /\ P j := ⟨i, .inr rfl, h⟩
theorem eqii {P : Bool -> Prop} {i j : Int} (h : P (decide (i = j))) : ∃ b, EqD (.int i) (.int j) b /\ P b := ⟨_, .ii i j, h⟩
theorem eqbb {P : Bool -> Prop} {x y : Bool} (h : P (x == y)) : ∃ b, EqD (.bool x) (.bool y) b /\ P b := ⟨_, .bb x y, h⟩
theorem at_ {ds : List PyData} {k : Int} {e : PyData} {P : PyData -> Prop} (h : atI ds k = some e) (q : P e) : ∃ e, atI ds k = some e /\ P e := ⟨e, h, q⟩
theorem lnil {A : Prop} (q : A) : ([] : List Fd).length <= 10000 /\ A := ⟨by decide, q⟩
theorem cnd {C A : Prop} (c : C) (q : A) : C /\ A := ⟨c, q⟩
end R
theorem spD_out {n : Nat} {F : DF} {vs : List V} {H : Hp} {Q : VK} {E : XK} (h : spD n F vs H Q E) : ∃ (nb : Addr -> Prop) (ds : List PyData) (Φ : Pd), Live nb H /\ IsDs nb H ds vs /\ (∀ f d v H', Φ f d -> Same H H' -> IsD (fun a => nb a \/ (f = true /\ H a ≠ none)) H' d v -> Q v H') /\ F ds Φ := by
 obtain ⟨_, nb, ds, h1, h2, h3⟩ := h
 exact ⟨nb, ds, _, h1, h2, fun f d v H' q => q v H', h3⟩
theorem spB_out {n : Nat} {F : DF} {vs : List V} {H : Hp} {Q : VK} {E : XK} (h : spB n F vs H Q E) : ∃ (b l : Addr) (ws : List V) (nb : Addr -> Prop) (ds : List PyData) (Φ : Pd), vs = .ref b :: ws /\ BagAt H b l /\ Live nb H /\ nb b /\ IsDs nb H ds ws /\ (∀ f d v H', Φ f d -> But (Nb b) H H' -> BagAt H' b l -> IsD (fun a => nb a \/ (f = true /\ H a ≠ none)) H' d v -> Q v H') /\ F ds Φ := by
 obtain ⟨_, b, l, ws, nb, ds, e, hB, h1, hb, h2, h3⟩ := h
 exact ⟨b, l, ws, nb, ds, _, e, hB, h1, hb, h2, fun f d v H' q => q v H', h3⟩
end L2
set_option maxRecDepth 100000
set_option maxHeartbeats 1000000
namespace L2
open PySem PySem.Spec PyProof.Rows
abbrev Prs := List (Int × Int)
abbrev Wo := List (Option Int)
abbrev prsD (prs : Prs) : PyData := .list (prs.map pairD)
abbrev woD (wd : Wo) : PyData := .list (wd.map optD)
abbrev netD (p n : Int) (cs : List Prs) : PyData := .tuple [.int p, .int n, .list (cs.map prsD)]
theorem atI_nat' {α β : Type} {xs : List α} (φ : α -> β) {k : Int} {m : Nat} (h0 : 0 <= k) (h1 : k < m) (hm : m = xs.length) : ∃ x, xs[k.toNat]? = some x /\ atI (xs.map φ) k = some (φ x) := by
 have hk : k.toNat < xs.length := by omega
 exact ⟨xs[k.toNat], zq21x hk, atI_some h0 (by rw [zq16x, zq21x hk]; rfl)⟩
theorem map_at {α β : Type} {xs : List α} {φ : α -> β} {i : Nat} {d : β} (h : (xs.map φ)[i]? = some d) : ∃ x, xs[i]? = some x /\ d = φ x := by
 rw [zq16x] at h
 obtain ⟨x, hx, e⟩ := zq74x.mp h
 exact ⟨x, hx, e.symm⟩
theorem take_snoc {α : Type} {xs : List α} {i : Nat} {x : α} (h : xs[i]? = some x) : xs.take (i + 1) = xs.take i ++ [x] := by
 rw [List.take_add_one, h]; rfl
theorem isN_opt (o : Option Int) : isN (optD o) = o.isNone := by cases o <;> rfl
end L2
set_option maxRecDepth 100000
set_option maxHeartbeats 4000000
namespace L2
open PySem PySem.Spec PyProof.Rows
theorem ln1 {α : Type} {us : List α} (h : us.length = 1) : ∃ a, us = [a] := by
  cases us with
  | nil => cases h
  | cons a us =>
    cases us with
    | nil => exact ⟨a, rfl⟩
    | cons _ _ => cases h
theorem ln2 {α : Type} {us : List α} (h : us.length = 2) : ∃ a b, us = [a, b] := by
  cases us with
  | nil => cases h
  | cons a us =>
    obtain ⟨b, rfl⟩ := ln1 (us := us) (zq101x h)
    exact ⟨a, b, rfl⟩
theorem ln3 {α : Type} {us : List α} (h : us.length = 3) : ∃ a b c, us = [a, b, c] := by
  cases us with
  | nil => cases h
  | cons a us =>
    obtain ⟨b, c, rfl⟩ := ln2 (us := us) (zq101x h)
    exact ⟨a, b, c, rfl⟩
theorem ln4 {α : Type} {us : List α} (h : us.length = 4) : ∃ a b c d, us = [a, b, c, d] := by
  cases us with
  | nil => cases h
  | cons a us =>
    obtain ⟨b, c, d, rfl⟩ := ln3 (us := us) (zq101x h)
    exact ⟨a, b, c, d, rfl⟩
theorem ln5 {α : Type} {us : List α} (h : us.length = 5) : ∃ a b c d e, us = [a, b, c, d, e] := by
  cases us with
  | nil => cases h
  | cons a us =>
    obtain ⟨b, c, d, e, rfl⟩ := ln4 (us := us) (zq101x h)
    exact ⟨a, b, c, d, e, rfl⟩
end L2
set_option maxRecDepth 100000
set_option maxHeartbeats 1000000
namespace L2
open PySem PySem.Spec PyProof.Rows
def Ris (xs : Array Nat) : Prop := ∀ (i j x y : Nat), i < j -> xs[i]? = some x -> xs[j]? = some y -> x < y
theorem below_go {xs : Array Nat} {q : Nat} (hr : Ris xs) : ∀ (f lo hi : Nat), hi <= xs.size -> lo <= hi -> hi - lo <= f -> (∀ i x, i < lo -> xs[i]? = some x -> x < q) -> (∀ i x, hi <= i -> xs[i]? = some x -> q <= x) ->
    lo <= SetTable.below.go xs q f lo hi /\ SetTable.below.go xs q f lo hi <= hi /\ (∀ i x, i < SetTable.below.go xs q f lo hi -> xs[i]? = some x -> x < q) /\ (∀ i x, SetTable.below.go xs q f lo hi <= i -> xs[i]? = some x -> q <= x) := by
  intro f
  induction f with
  | zero =>
    intro lo hi h1 h2 h3 h4 h5
    have e : lo = hi := by omega
    subst e
    exact ⟨zq3x _, zq3x _, h4, h5⟩
  | succ f ih =>
    intro lo hi h1 h2 h3 h4 h5
    unfold SetTable.below.go
    by_cases hlt : lo < hi
    · rw [if_pos hlt]
      have hm : (lo + hi) / 2 < xs.size := by omega
      have hg : xs[(lo + hi) / 2]? = some xs[(lo + hi) / 2] := zq48x hm
      have hgd : xs.getD ((lo + hi) / 2) q = xs[(lo + hi) / 2] := by rw [zq120x, hg]; rfl
      dsimp only
      rw [hgd]
      by_cases hc : xs[(lo + hi) / 2] < q
      · rw [if_pos hc]
        obtain ⟨a1, a2, a3, a4⟩ := ih ((lo + hi) / 2 + 1) hi h1 (by omega) (by omega) (fun i x hi' e => by
          rcases Nat.lt_or_ge i ((lo + hi) / 2) with z | z
          · exact zq102x (hr i _ x _ z e hg) hc
          · have : i = (lo + hi) / 2 := by omega
            subst this; rw [hg] at e; cases e; exact hc) h5
        exact ⟨by omega, a2, a3, a4⟩
      · rw [if_neg hc]
        obtain ⟨a1, a2, a3, a4⟩ := ih lo ((lo + hi) / 2) (by omega) (by omega) (by omega) h4 (fun i x hi' e => by
          rcases Nat.lt_or_ge ((lo + hi) / 2) i with z | z
          · exact zq49x (zq119x (zq118x hc) (hr _ i _ x z hg e))
          · have : i = (lo + hi) / 2 := by omega
            subst this; rw [hg] at e; cases e; exact zq118x hc)
        exact ⟨a1, by omega, a3, a4⟩
    · rw [if_neg hlt]
      have e : lo = hi := by omega
      subst e
      exact ⟨zq3x _, zq3x _, h4, h5⟩
theorem below_at {xs : Array Nat} {q : Nat} (hr : Ris xs) : SetTable.below xs q <= xs.size /\ (∀ i x, i < SetTable.below xs q -> xs[i]? = some x -> x < q) /\ (∀ i x, SetTable.below xs q <= i -> xs[i]? = some x -> q <= x) := by
 obtain ⟨_, h2, h3, h4⟩ := below_go (q := q) hr xs.size 0 xs.size (zq3x _) (zq37x _) (by omega) (fun i x h => absurd h (Nat.not_lt_zero _)) (fun i x h e => by
  have := (zq87x.mp e).1; omega)
 exact ⟨h2, h3, h4⟩
theorem insertAt_get {α : Type} {xs : Array α} {p : Nat} {x : α} (hp : p <= xs.size) (i : Nat) : (SetTable.insertAt xs p x)[i]? = if i < p then xs[i]? else if i = p then some x else xs[i - 1]? := by
 unfold SetTable.insertAt
 rw [Array.getElem?_append]
 have e1 : ((xs.extract 0 p).push x).size = p + 1 := by rw [Array.size_push, zq103x]; omega
 rw [e1]
 by_cases h1 : i < p
 ·rw [if_pos (show i < p + 1 by omega), if_pos h1, zq148x, if_neg (by rw [zq103x]; omega), zq149x (by omega)]
  simp
 ·rw [if_neg h1]
  by_cases h2 : i = p
  ·rw [if_pos (show i < p + 1 by omega), if_pos h2, zq148x, if_pos (by rw [zq103x]; omega)]
  ·rw [if_neg (show ¬ i < p + 1 by omega), if_neg h2]
   by_cases h3 : i - (p + 1) < xs.size - p
   ·rw [zq149x (by omega), <- zq48x, show p + (i - (p + 1)) = i - 1 by omega]
   ·rw [zq121x (by rw [zq103x]; omega), zq121x (by omega)]
theorem Ris.insert {xs : Array Nat} {q : Nat} (hr : Ris xs) (hq : xs[SetTable.below xs q]? ≠ some q) : Ris (SetTable.insertAt xs (SetTable.below xs q) q) := by
 obtain ⟨h1, h2, h3⟩ := below_at (q := q) hr
 have h3' : ∀ i x, SetTable.below xs q <= i -> xs[i]? = some x -> q < x := fun i x hi e => by
  rcases zq122x (h3 i x hi e) with z | z
  ·exact z
  ·subst z
   rcases zq122x hi with z | z
   ·have hb : SetTable.below xs q < xs.size := zq17x z (zq49x (zq87x.mp e).1)
    have hg : xs[SetTable.below xs q]? = some xs[SetTable.below xs q] := zq48x hb
    have := hr _ i _ q z hg e
    have := h3 _ _ (zq3x _) hg
    omega
   ·rw [<- z] at e; exact absurd e hq
 intro i j x y hij ex ey
 rw [insertAt_get h1] at ex ey
 by_cases a : i < SetTable.below xs q
 ·rw [if_pos a] at ex
  by_cases b : j < SetTable.below xs q
  ·rw [if_pos b] at ey; exact hr i j x y hij ex ey
  ·rw [if_neg b] at ey
   by_cases c : j = SetTable.below xs q
   ·rw [if_pos c] at ey; cases ey; exact h2 i x a ex
   ·rw [if_neg c] at ey; exact hr i (j - 1) x y (by omega) ex ey
 ·rw [if_neg a] at ex
  by_cases c : i = SetTable.below xs q
  ·rw [if_pos c] at ex; cases ex
   rw [if_neg (by omega), if_neg (by omega)] at ey
   exact h3' (j - 1) y (by omega) ey
  ·rw [if_neg c] at ex
   rw [if_neg (by omega), if_neg (by omega)] at ey
   exact hr (i - 1) (j - 1) x y (by omega) ex ey
theorem probe_free {t : SetTable} {ha : Nat -> Int} {h : Int} : ∀ (f : Nat) (p : SetTable.Probe) (j : Nat) (dm : Option Nat), (∀ d, p.dummy = some d -> t.slot d = .dummy) -> SetTable.probe.go t ha h f p = some (.empty j dm) -> t.slot j = .empty /\ ∀ d, dm = some d -> t.slot d = .dummy := by
  intro f
  induction f with
  | zero => intro p j dm _ e; unfold SetTable.probe.go at e; cases e
  | succ f ih =>
    intro p j dm hd e
    have adv : ∀ p : SetTable.Probe, (t.advance p).dummy = p.dummy := fun p => by unfold SetTable.advance; split <;> rfl
    unfold SetTable.probe.go at e
    cases hs : t.slot p.j with
    | empty => rw [hs] at e; cases e; exact ⟨hs, hd⟩
    | dummy => rw [hs] at e; exact ih _ j dm (fun d h' => by rw [adv] at h'; cases h'; exact hs) e
    | live i =>
      rw [hs] at e
      dsimp only at e
      split at e
      · cases e
      · exact ih _ j dm (fun d h' => by rw [adv] at h'; exact hd d h') e
theorem free_not_live {t : SetTable} {h : Int} {j : Nat} {wd : Bool} (e : t.freeSlot h = some (j, wd)) : ∀ i, t.slot j ≠ .live i := by
 unfold SetTable.freeSlot SetTable.probe at e
 intro i z
 split at e
 ·rename_i j0 dm he
  obtain ⟨h1, h2⟩ := probe_free (10 * SetTable.turns t.mask) (t.probeStart h) j0 dm (fun d h' => by unfold SetTable.probeStart at h'; cases h') he
  cases dm with
  | none => cases e; simp at z; rw [h1] at z; cases z
  | some d => cases e; simp at z; rw [h2 d rfl] at z; cases z
 ·cases e
structure TOk (bt : Bool) (t : SetTable) : Prop where
 led : bt = false -> t.led = true
 ris : t.plain = true -> Ris t.place
theorem TOk.standIn {bt : Bool} {t : SetTable} (h : TOk bt t) (n : Nat) : TOk bt (t.standIn n) := ⟨h.led, fun z => by cases z⟩
theorem TOk.off {bt : Bool} {t : SetTable} (h : TOk bt t) : TOk bt { t with plain := false } := ⟨h.led, fun z => by cases z⟩
theorem TOk.put {bt : Bool} {t : SetTable} {j : Nat} (h : TOk bt t) (hj : ∀ i, t.slot j ≠ .live i) : TOk bt (t.put j).1 := by
 refine ⟨h.led, fun z => ?_⟩
 refine Ris.insert (h.ris z) fun e => hj (SetTable.below t.place j) ?_
 unfold SetTable.slot
 dsimp only
 rw [if_pos (by rw [e]; exact beq_self_eq_true _)]
theorem TOk.layNew {bt : Bool} {t : SetTable} {es : Array (Int × Value)} {h : Int} {x : Value} (ok : TOk bt t) : TOk bt (layNew t es h x).2.1 := by
 unfold PySem.layNew
 split
 ·rename_i slot wd e
  dsimp only
  unfold SetTable.orStandIn
  split
  ·exact ok.put (free_not_live e)
  ·exact (ok.put (free_not_live e)).standIn _
 ·exact ok.standIn _
theorem range_rise (n : Nat) (φ : Nat -> Option Nat) : Ris (((List.range n).filterMap fun j => (φ j).map (j, ·)).map (·.1)).toArray := by
  have hp : (((List.range n).filterMap fun j => (φ j).map (j, ·)).map (·.1)).Pairwise (· < ·) := by
    have hs : List.Sublist (((List.range n).filterMap fun j => (φ j).map (j, ·)).map (·.1)) (List.range n) := by
      induction List.range n with
      | nil => simp
      | cons a r ih =>
        rw [zq61x]
        cases φ a with
        | none => exact ih.cons a
        | some y => exact ih.cons₂ a
    exact zq150x.sublist hs
  intro i j x y hij ex ey
  rw [zq151x] at ex ey
  obtain ⟨hi, rfl⟩ := zq18x.mp ex
  obtain ⟨hj, rfl⟩ := zq18x.mp ey
  exact List.pairwise_iff_getElem.mp hp i j hi hj hij
theorem TOk.relay {bt : Bool} {t : SetTable} {es : Array (Int × Value)} {n : Nat} (ok : TOk bt t) : TOk bt (relayAll t es n).2.1 := by
  unfold relayAll
  split
  · rename_i t' order e
    dsimp only
    split
    · unfold SetTable.relaid SetTable.laid at e
      cases hl : SetTable.layClean (SetTable.sizeAbove n - 1) (es.map (·.1)) with
      | none => rw [hl] at e; cases e
      | some owner =>
        rw [hl] at e
        cases e
        exact ⟨ok.led, fun _ => range_rise _ _⟩
    · exact ok.standIn _
  · exact ok.standIn _
theorem TOk.fresh {bt : Bool} : TOk bt (.fresh 0 0 (!bt)) := ⟨fun h => by rw [h]; rfl, fun _ i j x y _ e => by simp [SetTable.fresh] at e⟩
end L2
set_option maxRecDepth 100000
set_option maxHeartbeats 4000000
namespace L2
open PySem PySem.Spec PyProof.Rows
def TAt (bt : Bool) (h : Heap) (a : Addr) : Prop := ∀ o es ep t, h.get? a = some o -> o.data = .set es ep t -> TOk bt t
theorem TAt.of {bt : Bool} {h : Heap} {a : Addr} {o : Obj} {es : Array (Int × Value)} {ep : Nat} {t : SetTable} (e : h.get? a = some o) (d : o.data = .set es ep t) (k : TOk bt t) : TAt bt h a := fun o' es' ep' t' e' d' => by
 rw [e] at e'; cases e'; rw [d] at d'; cases d'; exact k
theorem TAt.keep {bt : Bool} {h h' : Heap} {a : Addr} {o : Obj} (k : TAt bt h a) (e : h.get? a = some o) (e' : h'.get? a = some o) : TAt bt h' a := fun o1 es ep t x d => by
 rw [e'] at x; cases x; exact k o es ep t e d
section
variable {prog : Program} {w : World} {A : Around} {E : Value -> Shared -> Prop} {s : Shared} {a : Addr} {bt : Bool}
abbrev IK (prog : Program) (w : World) := intKind prog w
theorem store_G {o : Obj} {es es' : Array (Int × Value)} {ep : Nat} {t t' : SetTable} {T : Int -> Bool} {h : Heap} (g1 : h.get? a = some o) (g2 : o.ExactSet) (g3 : o.data = .set es ep t) (l1 : ElemsOf (IK prog w) es'.toList)
  (l2 : ∀ k, T k = true ↔ ∃ e ∈ es'.toList, (IK prog w).is k e.2 = true) (l3 : es'.size < scanBound) (l4 : t'.fits es'.size = true) (tk : TOk bt t') :
  (∃ o', (h.update a (Obj.putSet es' t')).get? a = some o' /\ o'.ExactSet /\ o'.data = .set es' (ep + 1) t') /\ (h.update a (Obj.putSet es' t')).SetOf (IK prog w) a T es'.size /\ TAt bt (h.update a (Obj.putSet es' t')) a := by
 obtain ⟨q1, q2⟩ := SetOf_store (knd := IK prog w) (es' := es') (t' := t') (S' := T) g1 g2 g3 l1 l2 l3 l4
 exact ⟨⟨_, q1, g2, rfl⟩, q2, .of q1 rfl tk⟩
theorem tail_G {gg : Bool -> Sem Unit} (hgg : ∀ (b : Bool) (s₁ : Shared) (Q₁ : Unit -> Shared -> Prop), Q₁ () s₁ -> wpAny (model prog w) A (gg b) Q₁ E s₁) {o : Obj} {es : Array (Int × Value)} {ep : Nat} {t : SetTable}
    (g1 : s.heap.get? a = some o) (g2 : o.ExactSet) (g3 : o.data = .set es ep t) {es1 : Array (Int × Value)} {t2 : SetTable} {T : Int -> Bool} (l1 : ElemsOf (IK prog w) es1.toList) (l2 : ∀ k, T k = true ↔ ∃ e ∈ es1.toList, (IK prog w).is k e.2 = true)
    (l3 : es1.size < scanBound) (l4 : t2.fits es1.size = true) (tk : TOk bt t2) {wd : Bool} {R : Option Bool -> Shared -> Prop}
    (fin : ∀ h', Heap.SameBut a s.heap h' -> h'.SetOf (IK prog w) a T es1.size -> TAt bt h' a -> R (some true) { s with heap := h' }) :
    wpAny (model prog w) A (do storeSet a es1 t2
                               if (!wd && t2.tooFull) = true then do
                                 gg (relayAll t2 es1 (SetTable.grown es1.size)).2.2
                                 storeSet a (relayAll t2 es1 (SetTable.grown es1.size)).1 (relayAll t2 es1 (SetTable.grown es1.size)).2.1
                                 pure (some true)
                               else pure (some true)) R E s := by
  obtain ⟨⟨o1, k1, k2, k3⟩, q1, q2⟩ := store_G (T := T) g1 g2 g3 l1 l2 l3 l4 tk
  have sb := Heap.SameBut.update s.heap a (Obj.putSet es1 t2)
  refine wpAny_bind (wpAny_storeSet_of g1 g3 ?_ (fits_of_scanBound l3))
  by_cases c : (!wd && t2.tooFull) = true
  · rw [if_pos c]
    have pp := relayAll_perm t2 es1 (SetTable.grown es1.size)
    have pf := relayAll_fits t2 es1 (SetTable.grown es1.size)
    have pt := tk.relay (es := es1) (n := SetTable.grown es1.size)
    generalize relayAll t2 es1 (SetTable.grown es1.size) = Z at pp pf pt ⊢
    obtain ⟨es2, t3, gave⟩ := Z
    dsimp only at pp pf pt ⊢
    have sz : es2.size = es1.size := by have := pp.length_eq; rwa [zq50x, zq50x] at this
    have l2' : ∀ k, T k = true ↔ ∃ e ∈ es2.toList, (IK prog w).is k e.2 = true := fun k => (l2 k).trans ⟨fun ⟨e, m, z⟩ => ⟨e, pp.mem_iff.mpr m, z⟩, fun ⟨e, m, z⟩ => ⟨e, pp.mem_iff.mp m, z⟩⟩
    obtain ⟨_, r1, r2⟩ := store_G (T := T) k1 k2 k3 (l1.perm pp) l2' (by rw [sz]; exact l3) pf pt
    refine wpAny_bind (hgg _ _ _ (wpAny_bind (wpAny_storeSet_of k1 k3 ?_ (fits_of_scanBound (by rw [sz]; exact l3)))))
    rw [sz] at r1
    exact wpAny_pure (fin _ (sb.trans (Heap.SameBut.update _ a _)) r1 r2)
  · rw [if_neg c]
    exact wpAny_pure (fin _ sb q1 q2)
theorem add_G {S : Int -> Bool} {n : Nat} {k : Int} {x : Value} {Q : Bool -> Shared -> Prop} (hx : (IK prog w).is k x = true) (sc : x.scannable = true) (hS : s.heap.SetOf (IK prog w) a S n) (hT : TAt bt s.heap a) (room : n + 1 < scanBound)
    (fin : ∀ h', Heap.SameBut a s.heap h' -> h'.SetOf (IK prog w) a (fun j => S j || decide (j = k)) (if S k then n else n + 1) -> TAt bt h' a -> Q (!S k) { s with heap := h' }) :
    wpAny (model prog w) A (setAddHashed a x ((IK prog w).hash k)) Q E s := by
  obtain ⟨o, es, ep, t, g1, g2, g3, l1, l2, l3, l4, sz⟩ := hS
  have tk := hT o es ep t g1 g3
  unfold setAddHashed setAddHashedIn
  refine wpAny_holding (wpAny_bind (wpAny_setState_of g1 g3 l4 ?_))
  dsimp only
  rw [if_pos (byScan_of sc l3 l1)]
  unfold setAddByScan
  refine wpAny_bind (wpAny_bind (wpAny_rule (wpAny_bind (wpAny_setScan_of hx g1 g3 l4 l1 ?_))))
  cases fr : List.findIdx? (fun e => (IK prog w).is k e.2) es.toList with
  | some j =>
    obtain ⟨hj, pj, _⟩ := List.findIdx?_eq_some_iff_getElem.mp fr
    have yes : S k = true := (l2 k).mpr ⟨_, zq56x hj, pj⟩
    have z := fin s.heap (.refl a s.heap) ⟨o, es, ep, t, g1, g2, g3, l1, fun j => by
      rw [Bool.or_eq_true, decide_eq_true_eq, <- l2 j]
      exact ⟨fun q => q.elim id fun e => e ▸ yes, .inl⟩, l3, l4, by rw [if_pos yes]; exact sz⟩ hT
    rw [yes] at z
    exact wpAny_pure (wpAny_pure z)
  | none =>
    have no : S k = false := by
      cases q : S k with
      | false => rfl
      | true =>
        obtain ⟨e, m, p⟩ := (l2 k).mp q
        rw [List.findIdx?_eq_none_iff.mp fr e m] at p; cases p
    have pp := layNew_perm t es ((IK prog w).hash k) x
    have pf := layNew_fits t es ((IK prog w).hash k) x
    have pt := tk.layNew (es := es) (h := (IK prog w).hash k) (x := x)
    dsimp only
    generalize layNew t es ((IK prog w).hash k) x = Z at pp pf pt ⊢
    obtain ⟨es1, t1, wd, gave⟩ := Z
    dsimp only at pp pf pt ⊢
    rw [Array.toList_push] at pp
    have sz1 : es1.size = n + 1 := by have := pp.length_eq; rw [zq39x, zq50x, zq50x, sz] at this; exact this
    have fin' : ∀ h', Heap.SameBut a s.heap h' -> h'.SetOf (IK prog w) a (fun j => S j || decide (j = k)) es1.size -> TAt bt h' a -> Q true { s with heap := h' } := fun h' x1 x2 x3 => by
      have := fin h' x1; rw [no, if_neg zq11x] at this; rw [sz1] at x2; exact this x2 x3
    have gw : ∀ (b : Bool) (s₁ : Shared) (Q₁ : Unit -> Shared -> Prop), Q₁ () s₁ -> wpAny (model prog w) A (match b with | true => rule "set.scan.the-table-gave-way" | false => pure ()) Q₁ E s₁ := fun b s₁ Q₁ q => by
      cases b
      · exact wpAny_pure q
      · exact wpAny_rule q
    refine wpAny_bind (gw _ _ _ ?_)
    have e1 := (l1.push hx sc).perm pp
    have e2 := mem_push_iff hx l2 pp
    have e3 : es1.size < scanBound := by rw [sz1]; exact room
    by_cases pl : t1.plain = true
    · rw [if_pos pl, hashByValue_scannable 8 sc]
      refine wpAny_bind (wpAny_pure ?_)
      refine tail_G gw g1 g2 g3 e1 e2 e3 ?_ ?_ fun h' x1 x2 x3 => wpAny_pure (fin' h' x1 x2 x3)
      · split
        · exact pf
        · exact SetTable.fits_plain_off pf
      · split
        · exact pt
        · exact pt.off
    · rw [if_neg pl]
      refine wpAny_bind (wpAny_pure ?_)
      rw [if_pos rfl]
      exact tail_G gw g1 g2 g3 e1 e2 e3 pf pt fun h' x1 x2 x3 => wpAny_pure (fin' h' x1 x2 x3)
end
end L2
set_option maxRecDepth 100000
set_option maxHeartbeats 4000000
namespace L2
open PySem PySem.Spec PyProof.Rows
section
variable {prog : Program} {w : World} {A : Around} {R : Result -> Shared -> Prop} {I : Addr} {fp wr : List Addr} {G : Array GenState -> Array GenState -> Prop} {n : Nat} {P : Nat -> Value -> Prop} {St : Nat -> Shared -> Prop} {bt : Bool}
abbrev met (val : Nat -> Int) (i : Nat) : Int -> Bool := fun k => (firstMet val i).any (· == k)
theorem loop_G (W : WalksS prog w A.in1 I fp wr G n P St) (C : Addr) (nC : C ∉ fp) (val : Nat -> Int) (hv : ∀ i v, P i v -> ∃ t, v = .int (val i) t) (room : n + 1 < scanBound) (fuel : Nat) :
    ∀ (i : Nat) (s : Shared), n - i = fuel -> i <= n -> St i s -> s.heap.SetOf (IK prog w) C (met val i) (firstMet val i).length -> TAt bt s.heap C ->
      (∀ s', Moved (C :: wr) G s s' -> s'.heap.SetOf (IK prog w) C (met val n) (firstMet val n).length -> TAt bt s'.heap C -> R (.ok (.ret .none)) s') ->
      codeAny (model prog w) A (.builtin "set.update.loop" ⟨[.ref C, .ref I], []⟩) R s := by
  have nw : C ∉ wr := fun z => nC (W.sub _ z)
  have up : ∀ b ∈ wr, b ∈ C :: wr := fun b z => zq12x _ z
  have mv : ∀ {s s' : Shared} {T : Int -> Bool} {m : Nat}, Moved wr G s s' -> s.heap.SetOf (IK prog w) C T m -> TAt bt s.heap C -> s'.heap.SetOf (IK prog w) C T m /\ TAt bt s'.heap C := fun mo q tt => by
    obtain ⟨o, es, ep, t, ho, r⟩ := q
    exact ⟨⟨o, es, ep, t, mo.heap C _ nw ho, r⟩, tt.keep ho (mo.heap C _ nw ho)⟩
  induction fuel with
  | zero =>
    intro i s e1 e2 st q tt fin
    obtain rfl : i = n := by omega
    refine codeAny_builtin F.entry_set_update_loop ?_
    rw [zq88x zq123x _]
    refine wpAny_bind (W.done s _ _ st fun s' mo => ?_)
    exact wpAny_pure (fin s' (mo.mono up) (mv mo q tt).1 (mv mo q tt).2)
  | succ fuel ih =>
    intro i s e1 e2 st q tt fin
    have lt : i < n := by omega
    refine codeAny_builtin F.entry_set_update_loop ?_
    rw [zq88x zq123x _]
    refine wpAny_bind (W.item i s _ _ lt st fun v s' hP st' mo => ?_)
    obtain ⟨tok, rfl⟩ := hv i v hP
    obtain ⟨q', tt'⟩ := mv mo q tt
    show wpAny _ A.in1 (holding [Value.int (val i) tok] (setAdd C (.int (val i) tok)) >>= _) _ _ s'
    unfold setAdd
    refine wpAny_bind (wpAny_holding (wpAny_holding (wpAny_bind ((IK prog w).pyHash (k := val i) (intKind_is _ _ _ _) ?_))))
    refine add_G (bt := bt) (s := { s' with toks := s'.toks + 1 }) (intKind_is _ _ _ _) rfl q' tt' (by have := firstMet_length_le val i; omega) fun h' sb q2 tt2 => ?_
    have q3 : h'.SetOf (IK prog w) C (met val (i + 1)) (firstMet val (i + 1)).length := SetOf_congr q2 (fun j => by unfold met; rw [firstMet_succ, step_any]) (by rw [firstMet_succ, step_length])
    refine wpAny_pure ⟨plainId_quiet zq123x _, ih (i + 1) _ (by omega) lt (W.frame _ s' _ _ st' (zq71x _) fun b hb o e => ?_) q3 tt2 fun s2 mo2 q4 tt4 => ?_⟩
    · rw [sb.2 b fun z : b = C => nC (z ▸ hb)]; exact e
    · refine fin s2 (Moved.trans W.gtrans ((mo.mono up).then_heap (zq71x _) fun b o hb e => ?_) mo2) q4 tt4
      rw [sb.2 b fun z : b = C => hb (z ▸ zq20x)]; exact e
end
section
variable {prog : Program} {w : World} {A : Around} {E : Value -> Shared -> Prop} {s : Shared}
abbrev byText (w : World) : Bool := w.params.followText "set-order"
abbrev newSetO (w : World) : Obj := { cls := .type "set", dict := none, data := .set #[] 0 (.fresh 0 0 (!byText w)) }
theorem new_G (a : Value) {Q₁ : Value -> Shared -> Prop} (fin : Q₁ (.ref s.heap.objs.size) { s with heap := s.heap.push (newSetO w) }) : codeAny (model prog w) A (.call (.builtin "set.__new__") ⟨[.type "set", a], []⟩) (wants Q₁ E) s := by
 refine codeAny_of_tree ?_
 show wpAny _ A.in1 (do checkBuiltinCall "set.__new__" ⟨[.type "set", a], []⟩; again (.builtin "set.__new__" ⟨[.type "set", a], []⟩)) _ _ s
 refine wpAny_bind (wpAny_of_eq (F.newCall_set_1 a) (wpAny_pure ⟨plainId_quiet F.plain_set_new _, codeAny_builtin F.entry_set_new ?_⟩))
 rw [zq88x F.plain_set_new _]
 unfold Builtin.«set.__new__» Builtin.Frozenset.newClass
 have hsub := sub_set_self
 obtain ⟨hp, g, d, tk, os⟩ := s
 dsimp only at fin ⊢
 wp_walk
 refine wpAny_askSetting (wpAny_pure ?_)
 dsimp only
 simp only [newObj]
 exact wpAny_bind (wpAny_alloc (wpAny_pure (wpAny_pure fin)))
theorem callset_G {l : Addr} {items : Array Value} {ns : List Int} {Q : Value -> Shared -> Prop} (hh : A.handled = none) (hl : s.heap.IsList l items) (hi : IntsAre items.toList ns) (room : items.size + 1 < scanBound)
    (fin : ∀ (h' : Heap) (tk : Nat), h'.SetOf (IK prog w) s.heap.objs.size (met (fun i => ns.getD i 0) items.size) (firstMet (fun i => ns.getD i 0) items.size).length -> TAt (byText w) h' s.heap.objs.size ->
      (∀ b o, b < s.heap.objs.size -> s.heap.get? b = some o -> h'.get? b = some o) -> Q (.ref s.heap.objs.size) { s with heap := h', toks := tk }) : wpAny (model prog w) A (call (.type "set") [.ref l]) Q E s := by
  obtain ⟨c, tl, hmro⟩ := zq57x.mro
  have hmade := zq57x.made
  have hsub := zq57x.sub
  have h1 := zq57x.notType
  have h2 := zq57x.canCreate
  have hct := F.typeCall_set_1 (.ref l)
  refine wpAny_call (codeAny_of_tree ?_)
  show wpAny _ _ (callAny (.type "set") _) _ _ _
  refine wpAny_pure ⟨Code.quiet_builtin _ (by decide +kernel), codeAny_builtin F.entry_type_call ?_⟩
  rw [Around.under_plain (weight_type_call_type "set" [.ref l] []) rfl]
  repeat (any_goals (first | assumption | wp_step))
  refine codeAny_mono (new_G (.ref l) (E := E) (Q₁ := fun obj s₁ => obj = .ref s.heap.objs.size /\ s₁ = { s with heap := s.heap.push (newSetO w) }) ⟨rfl, rfl⟩) fun r s₁ hr => ?_
  cases r with
  | error e => exact hr
  | ok fl =>
    cases fl with
    | ret obj =>
      obtain ⟨rfl, rfl⟩ := hr
      have hS : (s.heap.push (newSetO w)).get? s.heap.objs.size = some (newSetO w) := zq28x _ rfl
      have hT : Shared.TypeIs { s with heap := s.heap.push (newSetO w) } (.ref s.heap.objs.size) "set" := ⟨_, hS, rfl⟩
      have hli := zq57x.init.lookup
      have hbi := zq57x.init.bind (.ref s.heap.objs.size)
      repeat (any_goals (first | assumption | wp_step))
      refine codeAny_mono (codeAny_call_builtin (R := wants (fun r s₂ => r = .none /\ ∃ h' tk, s₂ = { s with heap := h', toks := tk } /\ h'.SetOf (IK prog w) s.heap.objs.size (met (fun i => ns.getD i 0) items.size) (firstMet (fun i => ns.getD i 0) items.size).length /\ TAt (byText w) h' s.heap.objs.size /\
          (∀ b o, b < s.heap.objs.size -> s.heap.get? b = some o -> h'.get? b = some o)) E) zq57x.init.plain F.entry_set_init (check_set_init_1 hT ?_)) fun r₂ s₂ hr₂ => ?_
      · obtain ⟨ol, hol, hcl, nl, hdl⟩ := hl
        obtain ⟨ocls, odict, odata, oslots⟩ := ol
        simp only at hcl hdl
        subst hcl; subst hdl
        have hol' := zq8x (newSetO w) hol
        have hsls := F.sub_list_set
        have hslf := F.sub_list_frozenset
        have hne : (Value.type "list" == Value.type "dict") = false := by decide
        have hl1 : (s.heap.push (newSetO w)).IsList l items := ⟨_, hol', rfl, nl, rfl⟩
        unfold Builtin.«set.__init__» noKeywords Builtin.Frozenset.updateFrom
        generalize hPI : pyIter = PI
        wp_walk
        subst hPI
        refine wpAny_pyIter_list hl1 (wpAny_bind (wpAny_runValue ?_))
        have hlS : l < s.heap.objs.size := zq4x hol
        have sz1 : (s.heap.push (newSetO w)).objs.size = s.heap.objs.size + 1 := zq51x ..
        have n1 : l ≠ (s.heap.push (newSetO w)).objs.size := by rw [sz1]; exact zq13x (zq77x hlS)
        have n2 : s.heap.objs.size ∉ [(s.heap.push (newSetO w)).objs.size, l] := by
          rw [sz1]; intro z; rcases zq2x.mp z with z | z
          · exact absurd z (zq13x (zq62x _))
          · exact absurd (zq1x.mp z) (zq94x hlS)
        have h3 : A.in1.in1.in1.handled = none := by simp [hh]
        have hS' := zq8x ({ cls := .type "list_iterator", data := .fields #[.ref l, .int 0 0] } : Obj) hS
        refine loop_G (bt := byText w) ((Walks.list h3 _ l n1 items).toS) s.heap.objs.size n2 (fun i => ns.getD i 0) (fun i v e => IntsAre.int_at hi i v (by rw [zq78x]; exact e)) room (items.size - 0) 0 _ (by omega) (zq37x _)
          ⟨⟨_, zq28x _ rfl, rfl, rfl⟩, (hl1.push _)⟩ (SetOf_congr ((setObjOf_fresh (knd := IK prog w) (!byText w)).setOf hS' (by unfold scanBound; omega)) (fun _ => rfl) rfl) (.of hS' rfl .fresh) ?_
        intro s' mo q tt
        obtain ⟨h', g', d', tk', os'⟩ := s'
        obtain rfl : g' = s.gens := mo.gens
        obtain rfl : d' = s.drawn := mo.drawn
        obtain rfl : os' = s.os := mo.os
        refine wpAny_pure (wpAny_pure ⟨rfl, h', tk', rfl, q, tt, fun b o hb e => ?_⟩)
        refine mo.heap b o (fun z => ?_) (zq8x _ (zq8x _ e))
        rcases zq2x.mp z with z | z
        · exact absurd z (zq13x hb)
        · rw [sz1] at z; exact absurd (zq1x.mp z) (zq13x (zq77x hb))
      · cases r₂ with
        | error e => exact hr₂
        | ok fl₂ =>
          cases fl₂ with
          | ret r =>
            obtain ⟨rfl, h', tk, rfl, q1, q2, q3⟩ := hr₂
            repeat (any_goals (first | assumption | wp_step))
            exact fin _ _ q1 q2 q3
          | _ => exact hr₂.elim
    | _ => exact hr.elim
end
end L2
set_option maxRecDepth 100000
set_option maxHeartbeats 4000000
namespace L2
open PySem PySem.Spec PyProof.Rows
theorem sl_setiter_next : Slot "set_iterator" "__next__" "set_iterator.__next__" := .of (owner := "set_iterator") (n := "__next__") (by rw [typeLookup_type, builtinLookup_eq_fast]; kernel_rfl) (by decide +kernel) (by decide +kernel) (by decide +kernel) (by first | exact .inl (by decide +kernel) | exact .inr (by decide +kernel)) (by rw [isSubtype_type]; kernel_rfl)
theorem en_setiter_next : entryFor table "set_iterator.__next__" = some Builtin.«set_iterator.__next__» := entryFor_of_tree (by kernel_rfl)
theorem ar_setiter_next (a : Value) : argsOk "set_iterator.__next__" ⟨[a], []⟩ := by unfold argsOk; kernel_rfl
theorem sl_set_iter : Slot "set" "__iter__" "set.__iter__" := .of (owner := "set") (n := "__iter__") (by rw [typeLookup_type, builtinLookup_eq_fast]; kernel_rfl) (by decide +kernel) (by decide +kernel) (by decide +kernel) (by first | exact .inl (by decide +kernel) | exact .inr (by decide +kernel)) (by rw [isSubtype_type]; kernel_rfl)
theorem en_set_iter : entryFor table "set.__iter__" = some Builtin.«frozenset.__iter__» := entryFor_alias (id' := "frozenset.__iter__") (by kernel_rfl) rfl (by decide +kernel) (by kernel_rfl)
theorem ar_set_iter (a : Value) : argsOk "set.__iter__" ⟨[a], []⟩ := by unfold argsOk; kernel_rfl
theorem sl_setiter_iter : Slot "set_iterator" "__iter__" "set_iterator.__iter__" := .of (owner := "set_iterator") (n := "__iter__") (by rw [typeLookup_type, builtinLookup_eq_fast]; kernel_rfl) (by decide +kernel) (by decide +kernel) (by decide +kernel) (by first | exact .inl (by decide +kernel) | exact .inr (by decide +kernel)) (by rw [isSubtype_type]; kernel_rfl)
theorem en_setiter_iter : entryFor table "set_iterator.__iter__" = some Builtin.«dict_keyiterator.__iter__» := entryFor_alias (id' := "dict_keyiterator.__iter__") (by kernel_rfl) rfl (by decide +kernel) (by kernel_rfl)
theorem ar_setiter_iter (a : Value) : argsOk "set_iterator.__iter__" ⟨[a], []⟩ := by unfold argsOk; kernel_rfl
end L2
set_option maxRecDepth 100000
set_option maxHeartbeats 4000000
namespace L2
open PySem PySem.Spec PyProof.Rows
section
variable {prog : Program} {w : World} {A : Around} {E : Value -> Shared -> Prop} {s : Shared} {a it tp : Addr} {o : Obj} {es : Array (Int × Value)} {ep : Nat} {t : SetTable}
theorem erase_perm {α : Type} : ∀ {l : List α} {i : Nat} (h : i < l.length), (l[i] :: l.eraseIdx i).Perm l
  | b :: r, 0, _ => by simp
  | b :: r, i + 1, h => by
    have := erase_perm (l := r) (i := i) (by simpa using h)
    simp only [List.getElem_cons_succ, List.eraseIdx_cons_succ]
    exact (List.Perm.swap b _ _).trans (this.cons b)
theorem pick_perm {α : Type} (nx : Nat -> Nat) : ∀ (f k : Nat) (l : List α) (out : Array α), l.length <= f -> (pickOrder.go nx f k l out).toList.Perm (out.toList ++ l) := by
  intro f
  induction f with
  | zero =>
    intro k l out h
    have : l = [] := zq65x.mp (by omega)
    subst this
    unfold pickOrder.go
    simp
  | succ f ih =>
    intro k l out h
    unfold pickOrder.go
    cases l with
    | nil => simp
    | cons b r =>
      have hlt : nx k % (b :: r).length < (b :: r).length := zq104x _ (by simp)
      rw [zq21x hlt]
      dsimp only
      refine (ih (k + 1) _ _ (by rw [zq152x hlt]; omega)).trans ?_
      rw [Array.toList_push, zq58x]
      refine List.Perm.append_left _ ?_
      exact erase_perm hlt
theorem next_text (bt : byText w = true) (g1 : s.heap.get? a = some o) (g3 : o.data = .set es ep t) (g4 : t.fits es.size = true) {i sl : Nat} {Q : Option (Value × Nat) -> Shared -> Prop}
  (h : Q (((pickOrder (w.params.setOrder a ep) es)[i]?).map fun e => (e.2, sl)) s) : wpAny (model prog w) A (setNext a sl i ep) Q E s := by
 unfold setNext
 refine wpAny_bind (wpAny_setState_of g1 g3 g4 ?_)
 dsimp only
 unfold setsByText
 refine wpAny_bind (wpAny_bind (wpAny_askSetting (wpAny_pure ?_)))
 show wpAny _ _ (if byText w = true then _ else _) _ _ _
 rw [if_pos bt]
 rw [if_neg (by simp)]
 refine wpAny_bind ?_
 unfold setWalk
 refine wpAny_bind (wpAny_setState_of g1 g3 g4 ?_)
 dsimp only
 unfold setsByText
 refine wpAny_bind (wpAny_bind (wpAny_askSetting (wpAny_pure ?_)))
 show wpAny _ _ (if byText w = true then _ else _) _ _ _
 rw [if_pos bt]
 refine wpAny_bind (wpAny_askSetting (wpAny_pure ?_))
 exact wpAny_pure h
theorem next_plain (bt : byText w = false) (g1 : s.heap.get? a = some o) (g3 : o.data = .set es ep t) (g4 : t.fits es.size = true) (tk : TOk (byText w) t) (pl : t.plain = true \/ es.size <= 1) {i sl : Nat} {Q : Option (Value × Nat) -> Shared -> Prop}
  (h : Q (match es[SetTable.below t.place sl]?, t.place[SetTable.below t.place sl]? with | some (_, x), some j => some (x, j + 1) | _, _ => none) s) : wpAny (model prog w) A (setNext a sl i ep) Q E s := by
 unfold setNext
 refine wpAny_bind (wpAny_setState_of g1 g3 g4 ?_)
 dsimp only
 unfold setsByText
 refine wpAny_bind (wpAny_bind (wpAny_askSetting (wpAny_pure ?_)))
 show wpAny _ _ (if byText w = true then _ else _) _ _ _
 rw [bt, if_neg zq11x]
 show wpAny _ _ (if (!t.plain && decide (es.size > 1)) = true then _ else _) _ _ _
 rw [if_neg (by
  intro z
  rw [zq25x, Bool.not_eq_true', decide_eq_true_eq] at z
  rcases pl with p | p
  ·rw [p] at z; cases z.1
  ·omega)]
 refine wpAny_bind ?_
 show wpAny _ _ (if (!t.led && !es.isEmpty) = true then _ else _) _ _ _
 rw [if_neg (by rw [tk.led bt]; simp)]
 refine wpAny_pure ?_
 exact wpAny_pure h
theorem next_drawn (g1 : s.heap.get? a = some o) (g3 : o.data = .set es ep t) (g4 : t.fits es.size = true) {pl : Nat} {hx : Int} {x : Value} {Q : Value -> Shared -> Prop} (e : es[pl]? = some (hx, x)) (h : Q x s) : wpAny (model prog w) A (setNextDrawn a pl ep) Q E s := by
 unfold setNextDrawn
 refine wpAny_bind (wpAny_setState_of g1 g3 g4 ?_)
 dsimp only
 rw [if_neg (by simp)]
 rw [e]
 exact wpAny_pure h
def SIt (h : Heap) (it a : Addr) (first : Value) (i n ep : Nat) : Prop := ∃ o, h.get? it = some o /\ o.cls = .type "set_iterator" /\ o.data = .fields #[first, .int i 0, .ref a, .int n 0, .int ep 0]
theorem SIt.ty {first : Value} {i n : Nat} (h : SIt s.heap it a first i n ep) : s.TypeIs (.ref it) "set_iterator" := let ⟨o, e, c, _⟩ := h; ⟨o, e, c⟩
theorem sit_head {first : Value} {i n : Nat} {QQ : Fin -> Shared -> Prop} {EE : Value -> Shared -> Prop} (hit : SIt s.heap it a first i n ep) (g1 : s.heap.get? a = some o) (g3 : o.data = .set es ep t) (g4 : t.fits es.size = true) (hn : es.size = n)
    (h : wpAny (model prog w) A (match first with
      | .int slot _ => (do
        match <- setNext a slot.toNat i ep with
        | some (x, next) => do
          setField (.ref it) 0 (rawInt next)
          setField (.ref it) 1 (rawInt ((i : Int) + 1))
          ret x
        | none => do
          setField (.ref it) 2 .none
          raiseNew (<- newExc (.type "StopIteration") []))
      | _ => (do
        let some places <- seqItems? first | unsupported "internal:set_iterator"
        match places[i]? with
        | some (.int place _) => do
          let x <- setNextDrawn a place.toNat ep
          setField (.ref it) 1 (rawInt ((i : Int) + 1))
          ret x
        | some _ => unsupported "internal:set_iterator"
        | none => do
          setField (.ref it) 0 (rawInt 0)
          setField (.ref it) 2 .none
          raiseNew (<- newExc (.type "StopIteration") []))) QQ EE s) : wpAny (model prog w) A (Builtin.«set_iterator.__next__» ⟨[.ref it], []⟩) QQ EE s := by
  obtain ⟨oi, ho, hc, hd⟩ := hit
  unfold Builtin.«set_iterator.__next__»
  refine wpAny_bind (wpAny_pure ?_)
  refine wpAny_bind (wpAny_fieldsOf ho hd ?_)
  dsimp only
  refine wpAny_bind (wpAny_setEntries_of g1 g3 g4 ?_)
  rw [if_neg (by rw [hn]; simp)]
  cases first <;> exact h
theorem sit_upd {h : Heap} {first : Value} {i n k : Nat} {x : Value} {oi : Obj} {vs : Array Value} (ho : h.get? it = some oi) (hc : oi.cls = .type "set_iterator") (hd : oi.data = .fields vs) :
  (h.update it (Obj.mapFields (·.setIfInBounds k x))).get? it = some (Obj.mapFields (·.setIfInBounds k x) oi) /\ (Obj.mapFields (·.setIfInBounds k x) oi).cls = .type "set_iterator" /\ (Obj.mapFields (·.setIfInBounds k x) oi).data = .fields (vs.setIfInBounds k x) := by
 refine ⟨zq99x _ ho (Obj.isFreed_of_fields (Obj.data_mapFields hd _)), (Obj.cls_mapFields ..).trans hc, Obj.data_mapFields hd _⟩
theorem sit_item {sl i n nx : Nat} {x : Value} {Q : Option Value -> Shared -> Prop} (hit : SIt s.heap it a (.int sl 0) i n ep) (g1 : s.heap.get? a = some o) (g3 : o.data = .set es ep t) (g4 : t.fits es.size = true) (hn : es.size = n)
  (hN : ∀ (Q : Option (Value × Nat) -> Shared -> Prop) (E : Value -> Shared -> Prop), Q (some (x, nx)) s -> wpAny (model prog w) A.in1 (setNext a sl i ep) Q E s)
  (hQ : ∀ h', SIt h' it a (.int nx 0) (i + 1) n ep -> (∀ b, b ≠ it -> h'.get? b = s.heap.get? b) -> Q (some x) { s with heap := h' }) : wpAny (model prog w) A (pyNext (.ref it)) Q E s := by
 obtain ⟨oi, ho, hc, hd⟩ := id hit
 unfold pyNext
 refine wpAny_bind (wpAny_attempt (wpAny_callSpecial?_slot (name := Str.ofString "__next__") hit.ty sl_setiter_next (wpAny_call_entry sl_setiter_next hit.ty en_setiter_next ?_ (ar_setiter_next _))))
 refine sit_head hit g1 g3 g4 hn ?_
 dsimp only
 refine wpAny_bind (hN _ _ ?_)
 dsimp only
 obtain ⟨u1, u2, u3⟩ := sit_upd (first := .none) (i := 0) (n := 0) (k := 0) (x := rawInt nx) ho hc hd
 obtain ⟨w1, w2, w3⟩ := sit_upd (first := .none) (i := 0) (n := 0) (k := 1) (x := rawInt ((i : Int) + 1)) u1 u2 u3
 refine wpAny_bind (wpAny_setField ho hd (by simp) ?_)
 refine wpAny_bind (wpAny_setField u1 u3 (by simp) ?_)
 refine wpAny_pure ⟨x, rfl, wpAny_pure (hQ _ ⟨_, w1, w2, ?_⟩ fun b hb => ?_)⟩
 ·rw [w3]; simp [rawInt]
 ·exact ((zq47x _ _ (zq6x hb))).trans (zq47x _ _ (zq6x hb))
theorem stop_raise {QQ : Fin -> Shared -> Prop} {B : Around} {Q : Option Value -> Shared -> Prop} (hh : B.handled = none) (hQ : ∀ o1 o2, Q none { s with heap := (s.heap.push o1).push o2 }) : wpAny (model prog w) B (do raiseNew (<- newExc (.type "StopIteration") [])) QQ
  (fun e s' => wpAny (model prog w) A (do if <- isInstance e (.type "StopIteration") then pure none else throw e) Q E s') s := by
 refine wpAny_bind ?_
 simp only [newExc, newTuple]
 refine wpAny_bind (wpAny_newObj_type ?_ (by size_fits))
 refine wpAny_bind (m := firstArgMember _ _) (wpAny_of_eq (a := Value.none) (by first | rfl | (simp only [firstArgMember]; rfl)) (wpAny_newObj_type ?_ (by size_fits)))
 simp only [raiseNew]
 refine wpAny_bind (wpAny_handled ?_)
 rw [hh]
 refine wpAny_bind (wpAny_pure (wpAny_throw ?_))
 refine wpAny_bind (wpAny_isInstance (b := true) (T := "StopIteration") ⟨_, zq28x _ rfl, rfl⟩ isSubtype_stop ?_)
 exact wpAny_pure (hQ _ _)
theorem sit_end {sl i n : Nat} {Q : Option Value -> Shared -> Prop} (hh : A.handled = none) (hit : SIt s.heap it a (.int sl 0) i n ep) (g1 : s.heap.get? a = some o) (g3 : o.data = .set es ep t) (g4 : t.fits es.size = true) (hn : es.size = n)
  (hN : ∀ (Q : Option (Value × Nat) -> Shared -> Prop) (E : Value -> Shared -> Prop), Q none s -> wpAny (model prog w) A.in1 (setNext a sl i ep) Q E s)
  (hQ : ∀ h', (∀ b o, b ≠ it -> s.heap.get? b = some o -> h'.get? b = some o) -> Q none { s with heap := h' }) : wpAny (model prog w) A (pyNext (.ref it)) Q E s := by
 obtain ⟨oi, ho, hc, hd⟩ := id hit
 unfold pyNext
 refine wpAny_bind (wpAny_attempt (wpAny_callSpecial?_slot (name := Str.ofString "__next__") hit.ty sl_setiter_next (wpAny_call_entry sl_setiter_next hit.ty en_setiter_next ?_ (ar_setiter_next _))))
 refine sit_head hit g1 g3 g4 hn ?_
 dsimp only
 refine wpAny_bind (hN _ _ ?_)
 dsimp only
 refine wpAny_bind (wpAny_setField ho hd (by simp) ?_)
 exact stop_raise (B := A.in1) hh fun o1 o2 => hQ _ fun b o hb e => zq8x _ (zq8x _ ((zq47x _ _ (zq6x hb)).trans e))
theorem sit_itemT {i n pl : Nat} {hx : Int} {x : Value} {pls : Array Value} {Q : Option Value -> Shared -> Prop} (hit : SIt s.heap it a (.ref tp) i n ep) (g1 : s.heap.get? a = some o) (g3 : o.data = .set es ep t) (g4 : t.fits es.size = true) (hn : es.size = n)
  (htp : ∃ ot m, s.heap.get? tp = some ot /\ ot.data = .seq pls m) (hp : pls[i]? = some (.int pl 0)) (he : es[pl]? = some (hx, x))
  (hQ : ∀ h', SIt h' it a (.ref tp) (i + 1) n ep -> (∀ b, b ≠ it -> h'.get? b = s.heap.get? b) -> Q (some x) { s with heap := h' }) : wpAny (model prog w) A (pyNext (.ref it)) Q E s := by
 obtain ⟨oi, ho, hc, hd⟩ := id hit
 obtain ⟨ot, m, t1, t2⟩ := htp
 unfold pyNext
 refine wpAny_bind (wpAny_attempt (wpAny_callSpecial?_slot (name := Str.ofString "__next__") hit.ty sl_setiter_next (wpAny_call_entry sl_setiter_next hit.ty en_setiter_next ?_ (ar_setiter_next _))))
 refine sit_head hit g1 g3 g4 hn ?_
 dsimp only
 refine wpAny_bind (wpAny_seqItems t1 t2 ?_)
 dsimp only
 rw [hp]
 dsimp only
 refine wpAny_bind (next_drawn g1 g3 g4 (by simpa using he) ?_)
 obtain ⟨w1, w2, w3⟩ := sit_upd (first := .none) (i := 0) (n := 0) (k := 1) (x := rawInt ((i : Int) + 1)) ho hc hd
 refine wpAny_bind (wpAny_setField ho hd (by simp) (wpAny_pure ⟨x, rfl, wpAny_pure (hQ _ ⟨_, w1, w2, ?_⟩ fun b hb => zq47x _ _ (zq6x hb))⟩))
 rw [w3]; simp [rawInt]
theorem sit_endT {i n : Nat} {pls : Array Value} {Q : Option Value -> Shared -> Prop} (hh : A.handled = none) (hit : SIt s.heap it a (.ref tp) i n ep) (g1 : s.heap.get? a = some o) (g3 : o.data = .set es ep t) (g4 : t.fits es.size = true) (hn : es.size = n)
  (htp : ∃ ot m, s.heap.get? tp = some ot /\ ot.data = .seq pls m) (hp : pls[i]? = none)
  (hQ : ∀ h', (∀ b o, b ≠ it -> s.heap.get? b = some o -> h'.get? b = some o) -> Q none { s with heap := h' }) : wpAny (model prog w) A (pyNext (.ref it)) Q E s := by
 obtain ⟨oi, ho, hc, hd⟩ := id hit
 obtain ⟨ot, m, t1, t2⟩ := htp
 unfold pyNext
 refine wpAny_bind (wpAny_attempt (wpAny_callSpecial?_slot (name := Str.ofString "__next__") hit.ty sl_setiter_next (wpAny_call_entry sl_setiter_next hit.ty en_setiter_next ?_ (ar_setiter_next _))))
 refine sit_head hit g1 g3 g4 hn ?_
 dsimp only
 refine wpAny_bind (wpAny_seqItems t1 t2 ?_)
 dsimp only
 rw [hp]
 dsimp only
 obtain ⟨u1, u2, u3⟩ := sit_upd (first := .none) (i := 0) (n := 0) (k := 0) (x := rawInt 0) ho hc hd
 refine wpAny_bind (wpAny_setField ho hd (by simp) (wpAny_bind (wpAny_setField u1 u3 (by simp) ?_)))
 exact stop_raise (B := A.in1) hh fun o1 o2 => hQ _ fun b o hb e => zq8x _ (zq8x _ ((zq47x _ _ (zq6x hb)).trans ((zq47x _ _ (zq6x hb)).trans e)))
end
end L2
set_option maxRecDepth 100000
set_option maxHeartbeats 4000000
namespace L2
open PySem PySem.Spec PyProof.Rows
def slotAt (xs : Array Nat) : Nat -> Nat
 | 0 => 0
 | i + 1 => xs.getD i 0 + 1
theorem slot_z (xs : Array Nat) : slotAt xs 0 = 0 := rfl
theorem slot_s (xs : Array Nat) (i : Nat) : slotAt xs (i + 1) = xs.getD i 0 + 1 := rfl
theorem below_slot {xs : Array Nat} (hr : Ris xs) {i : Nat} (hi : i <= xs.size) : SetTable.below xs (slotAt xs i) = i := by
  obtain ⟨h1, h2, h3⟩ := below_at (q := slotAt xs i) hr
  have g : ∀ {j : Nat}, j < xs.size -> ∃ y, xs[j]? = some y /\ xs.getD j 0 = y := fun {j} hj => ⟨xs[j], zq48x hj, by rw [zq120x, zq48x hj]; rfl⟩
  rcases Nat.lt_trichotomy (SetTable.below xs (slotAt xs i)) i with z | z | z
  · obtain ⟨y, e, _⟩ := g (zq17x z hi)
    have := h3 _ y (zq3x _) e
    cases i with
    | zero => omega
    | succ i =>
      obtain ⟨y', e', d'⟩ := g (j := i) (by omega)
      have es := slot_s xs i
      rw [d'] at es
      rcases zq122x (Nat.le_of_lt_succ z) with z | z
      · have := hr _ _ _ _ z e e'; omega
      · rw [z, e'] at e; cases e; omega
  · exact z
  · obtain ⟨y, e, d⟩ := g (j := i) (by omega)
    have := h2 i y z e
    cases i with
    | zero => rw [slot_z] at this; omega
    | succ i =>
      obtain ⟨y', e', d'⟩ := g (j := i) (by omega)
      rw [slot_s, d'] at this
      have := hr i (i + 1) _ _ (by omega) e' e
      omega
section
variable {prog : Program} {w : World} {a I tp : Addr} {o : Obj} {es : Array (Int × Value)} {ep : Nat} {t : SetTable}
theorem fits_size (h : t.fits es.size = true) : t.place.size = es.size := by
 unfold SetTable.fits at h
 rw [zq25x] at h
 exact eq_of_beq h.1
theorem walks_text {A : Around} (hh : A.handled = none) (bt : byText w = true) (g3 : o.data = .set es ep t) (g4 : t.fits es.size = true) (hne : a ≠ I) :
  Walks prog w A I [I, a] [I] es.size (fun i v => ((pickOrder (w.params.setOrder a ep) es).toList.map (·.2))[i]? = some v) (fun i h => SIt h I a (.int (0 : Nat) 0) i es.size ep /\ h.get? a = some o) where
 sub := fun b hb => by simp at hb; simp [hb]
 frame := fun i h h' st hk => by
  obtain ⟨⟨oi, h1, h2, h3⟩, h4⟩ := st
  exact ⟨⟨oi, hk I (by simp) _ h1, h2, h3⟩, hk a (by simp) _ h4⟩
 item := fun i s Q E hi st hQ => by
  have hsz : (pickOrder (w.params.setOrder a ep) es).toList.length = es.size := by
   have := (pick_perm (w.params.setOrder a ep) es.size 0 es.toList #[] (by simp)).length_eq
   simpa [pickOrder] using this
  have hlt : i < (pickOrder (w.params.setOrder a ep) es).toList.length := by omega
  have e1 : (pickOrder (w.params.setOrder a ep) es)[i]? = some (pickOrder (w.params.setOrder a ep) es).toList[i] := by rw [<- zq78x]; exact zq21x hlt
  refine sit_item st.1 st.2 g3 g4 rfl (x := (pickOrder (w.params.setOrder a ep) es).toList[i].2) (nx := 0) (fun Q E q => next_text bt st.2 g3 g4 (by rw [e1]; exact q)) fun h' x1 x2 => ?_
  refine hQ _ h' s.toks (by rw [zq16x, zq21x hlt]; rfl) ⟨x1, (x2 a hne).trans st.2⟩ fun b o' hb e => (x2 b (fun z => hb (by simp [z]))).trans e
 done := fun s Q E st hQ => by
  have hsz : (pickOrder (w.params.setOrder a ep) es).toList.length = es.size := by
   have := (pick_perm (w.params.setOrder a ep) es.size 0 es.toList #[] (by simp)).length_eq
   simpa [pickOrder] using this
  refine sit_end hh st.1 st.2 g3 g4 rfl (fun Q E q => next_text bt st.2 g3 g4 (by rw [<- zq78x, zq105x (by omega)]; exact q)) fun h' x1 => hQ h' s.toks fun b o' hb e => x1 b o' (fun z => hb (by simp [z])) e
 self := fun i s Q E st hQ => by
  refine wpAny_pyIter_slot st.1.ty sl_setiter_iter (wpAny_call_entry sl_setiter_iter st.1.ty en_setiter_iter ?_ (ar_setiter_iter _))
  exact wpAny_pure ⟨_, rfl, "set_iterator", _, st.1.ty, sl_setiter_next.lookup, hQ⟩
theorem walks_plain {A : Around} (hh : A.handled = none) (bt : byText w = false) (g3 : o.data = .set es ep t) (g4 : t.fits es.size = true) (tk : TOk (byText w) t) (pl : t.plain = true \/ es.size <= 1) (hne : a ≠ I) :
  Walks prog w A I [I, a] [I] es.size (fun i v => (es.toList.map (·.2))[i]? = some v) (fun i h => SIt h I a (.int (slotAt t.place i) 0) i es.size ep /\ h.get? a = some o) where
 sub := fun b hb => by simp at hb; simp [hb]
 frame := fun i h h' st hk => by
  obtain ⟨⟨oi, h1, h2, h3⟩, h4⟩ := st
  exact ⟨⟨oi, hk I (by simp) _ h1, h2, h3⟩, hk a (by simp) _ h4⟩
 item := fun i s Q E hi st hQ => by
  have hps := fits_size g4
  have hr : Ris t.place := by
   rcases pl with p | p
   ·exact tk.ris p
   ·intro i j x y hij ex ey
    have := (zq87x.mp ey).1; omega
  have hlt : i < es.toList.length := by simpa using hi
  have e1 : es[i]? = some es.toList[i] := by rw [<- zq78x]; exact zq21x hlt
  have e2 : t.place[i]? = some (t.place.getD i 0) := by rw [zq120x, zq48x (by omega)]; rfl
  refine sit_item st.1 st.2 g3 g4 rfl (x := es.toList[i].2) (nx := slotAt t.place (i + 1)) (fun Q E q => next_plain bt st.2 g3 g4 tk pl (by rw [below_slot hr (by omega), e1, e2]; exact q)) fun h' x1 x2 => ?_
  refine hQ _ h' s.toks (by rw [zq16x, zq21x hlt]; rfl) ⟨x1, (x2 a hne).trans st.2⟩ fun b o' hb e => (x2 b (fun z => hb (by simp [z]))).trans e
 done := fun s Q E st hQ => by
  have hps := fits_size g4
  have hr : Ris t.place := by
   rcases pl with p | p
   ·exact tk.ris p
   ·intro i j x y hij ex ey
    have := (zq87x.mp ey).1; omega
  refine sit_end hh st.1 st.2 g3 g4 rfl (fun Q E q => next_plain bt st.2 g3 g4 tk pl (by rw [below_slot hr (by omega), zq121x (zq3x _)]; exact q)) fun h' x1 => hQ h' s.toks fun b o' hb e => x1 b o' (fun z => hb (by simp [z])) e
 self := fun i s Q E st hQ => by
  refine wpAny_pyIter_slot st.1.ty sl_setiter_iter (wpAny_call_entry sl_setiter_iter st.1.ty en_setiter_iter ?_ (ar_setiter_iter _))
  exact wpAny_pure ⟨_, rfl, "set_iterator", _, st.1.ty, sl_setiter_next.lookup, hQ⟩
theorem walks_drawn {A : Around} {ks : List Nat} (hh : A.handled = none) (g3 : o.data = .set es ep t) (g4 : t.fits es.size = true) (hk : ks.Perm (List.range es.size)) (hne : a ≠ I) (hnt : tp ≠ I) :
    Walks prog w A I [I, a, tp] [I] es.size (fun i v => ((ks.filterMap (es[·]?)).map (·.2))[i]? = some v) (fun i h => SIt h I a (.ref tp) i es.size ep /\ h.get? a = some o /\ ∃ ot m, h.get? tp = some ot /\ ot.data = .seq (ks.map fun (k : Nat) => rawInt k).toArray m) where
  sub := fun b hb => by simp at hb; simp [hb]
  frame := fun i h h' st hk => by
    obtain ⟨⟨oi, h1, h2, h3⟩, h4, ot, m, h5, h6⟩ := st
    exact ⟨⟨oi, hk I (by simp) _ h1, h2, h3⟩, hk a (by simp) _ h4, ot, m, hk tp (by simp) _ h5, h6⟩
  item := fun i s Q E hi st hQ => by
    have hlen : ks.length = es.size := by rw [hk.length_eq]; simp
    have hin : ∀ k ∈ ks, k < es.size := fun k m => by simpa using hk.mem_iff.mp m
    have hi' : i < ks.length := by omega
    have hki := hin ks[i] (zq56x hi')
    have e1 : es[ks[i]]? = some es[ks[i]] := zq48x hki
    have fm : ∀ (l : List Nat), (∀ k ∈ l, k < es.size) -> ∀ j (hj : j < l.length), (l.filterMap (es[·]?))[j]? = es[l[j]]? := by
      intro l
      induction l with
      | nil => intro _ j hj; simp at hj
      | cons b r ih =>
        intro hl j hj
        have hb := hl b (zq20x ..)
        rw [zq61x, zq48x hb]
        cases j with
        | zero => simp [zq48x hb]
        | succ j => simpa using ih (fun k m => hl k (zq12x _ m)) j (by simpa using hj)
    refine sit_itemT st.1 st.2.1 g3 g4 rfl st.2.2 (pl := ks[i]) (hx := es[ks[i]].1) (x := es[ks[i]].2) (by simp [zq21x hi', rawInt]) e1 fun h' x1 x2 => ?_
    obtain ⟨ot, m, t1, t2⟩ := st.2.2
    refine hQ _ h' s.toks ?_ ⟨x1, (x2 a hne).trans st.2.1, ot, m, (x2 tp hnt).trans t1, t2⟩ fun b o' hb e => (x2 b (fun z => hb (by simp [z]))).trans e
    rw [zq16x, fm ks hin i hi', e1]; rfl
  done := fun s Q E st hQ => by
    have hlen : ks.length = es.size := by rw [hk.length_eq]; simp
    exact sit_endT hh st.1 st.2.1 g3 g4 rfl st.2.2 (by simp; omega) fun h' x1 => hQ h' s.toks fun b o' hb e => x1 b o' (fun z => hb (by simp [z])) e
  self := fun i s Q E st hQ => by
    refine wpAny_pyIter_slot st.1.ty sl_setiter_iter (wpAny_call_entry sl_setiter_iter st.1.ty en_setiter_iter ?_ (ar_setiter_iter _))
    exact wpAny_pure ⟨_, rfl, "set_iterator", _, st.1.ty, sl_setiter_next.lookup, hQ⟩
end
section
variable {prog : Program} {w : World} {A : Around} {E : Value -> Shared -> Prop} {s : Shared} {a : Addr} {o : Obj} {es : Array (Int × Value)} {ep : Nat} {t : SetTable}
theorem range_get {α : Type} : ∀ l : List α, (List.range l.length).filterMap (fun i => l[i]?) = l
  | [] => rfl
  | x :: l => by
    have := range_get l
    rw [zq27x, zq124x, zq61x, List.filterMap_map]
    simpa [Function.comp_def] using this
theorem choose_any {src : Source} {n : Nat} {Q : Nat -> Shared -> Prop} (hn : n ≠ 0) (h : ∀ i d', i < n -> Q i { s with drawn := d' }) : wpAny (model prog w) A (choose src n) Q E s := fun Γ p _ => ⟨hn, h _ _ (zq104x _ (Nat.pos_of_ne_zero hn))⟩
theorem draw_perm {α : Type} : ∀ (n : Nat) (xs : List α) (s : Shared) (Q : List α -> Shared -> Prop), xs.length <= n -> (∀ ks d', ks.Perm xs -> Q ks { s with drawn := d' }) -> wpAny (model prog w) A (drawOrder n xs) Q E s
  | 0, xs, s, Q, hl, h => by
    have : xs = [] := zq65x.mp (by omega)
    subst this
    unfold drawOrder
    exact wpAny_pure (h [] s.drawn .nil)
  | n + 1, [], s, Q, hl, h => by
    unfold drawOrder
    exact wpAny_pure (h [] s.drawn .nil)
  | n + 1, x :: xs, s, Q, hl, h => by
    unfold drawOrder
    refine wpAny_bind (choose_any (by simp) fun i d' hi => ?_)
    rw [zq21x hi]
    dsimp only
    refine wpAny_bind (draw_perm n _ _ _ (by rw [zq152x hi]; simp at hl ⊢; omega) fun ks d2 hk => ?_)
    exact wpAny_pure (h _ d2 ((hk.cons _).trans (erase_perm hi)))
theorem drawn_of (g1 : s.heap.get? a = some o) (g3 : o.data = .set es ep t) (g4 : t.fits es.size = true) {Q : Bool -> Shared -> Prop} (h : Q (!byText w && (!t.plain && decide (es.size > 1))) s) : wpAny (model prog w) A (setDrawn a) Q E s := by
 unfold setDrawn
 refine wpAny_bind (wpAny_setState_of g1 g3 g4 ?_)
 dsimp only
 unfold setsByText
 refine wpAny_bind (wpAny_bind (wpAny_askSetting (wpAny_pure ?_)))
 exact wpAny_pure h
theorem epoch_of (g1 : s.heap.get? a = some o) (g3 : o.data = .set es ep t) (g4 : t.fits es.size = true) {Q : Nat -> Shared -> Prop} (h : Q ep s) : wpAny (model prog w) A (setEpoch a) Q E s := by
 unfold setEpoch
 exact wpAny_bind (wpAny_setState_of g1 g3 g4 (wpAny_pure h))
theorem iter_G {Q : Value -> Shared -> Prop} (hb : es.size < scanBound) (g1 : s.heap.get? a = some o) (g2 : o.ExactSet) (g3 : o.data = .set es ep t) (g4 : t.fits es.size = true) (tk : TOk (byText w) t)
    (hQ : ∀ (I : Addr) (h' : Heap) d' (items : List Value) (fp : List Addr) (St : Nat -> Heap -> Prop), (∀ b o, s.heap.get? b = some o -> h'.get? b = some o) -> s.heap.objs.size <= I -> (∀ b ∈ fp, b = a \/ s.heap.objs.size <= b) -> I ∈ fp -> (∀ b ∈ fp, b < h'.objs.size) -> items.Perm (es.toList.map (·.2)) ->
      (∀ B : Around, B.handled = none -> Walks prog w B I fp [I] items.length (fun i v => items[i]? = some v) St) -> St 0 h' -> Q (.ref I) { s with heap := h', drawn := d' }) : wpAny (model prog w) A (pyIter (.ref a)) Q E s := by
  have hT : s.TypeIs (.ref a) "set" := ⟨o, g1, g2.1⟩
  have hlt := zq4x g1
  refine wpAny_pyIter_slot hT sl_set_iter (wpAny_call_entry sl_set_iter hT en_set_iter ?_ (ar_set_iter _))
  unfold Builtin.«frozenset.__iter__»
  unfold Builtin.Frozenset.slot0 slotArgs
  simp only [List.isEmpty_nil, Bool.not_true, Bool.false_eq_true, ↓reduceIte, bind_assoc, List.length_nil, bne_self_eq_false]
  unfold Builtin.Frozenset.addrOf Builtin.Frozenset.sizeOf
  refine wpAny_bind (wpAny_pure ?_)
  try dsimp only
  refine wpAny_bind (wpAny_pure ?_)
  refine wpAny_bind (wpAny_bind (wpAny_setEntries_of g1 g3 g4 (wpAny_pure ?_)))
  refine wpAny_bind (drawn_of g1 g3 g4 ?_)
  by_cases c : (!byText w && (!t.plain && decide (es.size > 1))) = true
  · rw [if_pos c]
    refine wpAny_bind (draw_perm es.size (List.range es.size) s _ (by simp) fun ks d' hk => ?_)
    unfold newTuple
    refine wpAny_bind (wpAny_newObj_type ?_ ?_)
    rotate_left
    · have hk0 : ks.length = es.size := by rw [hk.length_eq]; simp
      show (List.map (fun (i : Nat) => rawInt i) ks).toArray.size <= sizeLine
      rw [zq14x, zq0x, hk0]
      exact fits_of_scanBound hb
    have g1' := zq8x ({ cls := .type "tuple", data := .seq (ks.map fun (i : Nat) => rawInt i).toArray } : Obj) g1
    refine wpAny_bind (epoch_of (s := { s with heap := _, drawn := d' }) g1' g3 g4 ?_)
    unfold newFields
    refine wpAny_bind (wpAny_newObj_type ?_)
    have hk0 : ks.length = es.size := by rw [hk.length_eq]; simp
    have fin := hQ
    clear hQ
    have sz1 : (s.heap.push ({ cls := .type "tuple", data := .seq (ks.map fun (i : Nat) => rawInt i).toArray } : Obj)).objs.size = s.heap.objs.size + 1 := zq51x ..
    have gT : (s.heap.push ({ cls := .type "tuple", data := .seq (ks.map fun (i : Nat) => rawInt i).toArray } : Obj)).get? s.heap.objs.size = some { cls := .type "tuple", data := .seq (ks.map fun (i : Nat) => rawInt i).toArray } := zq28x _ rfl
    have gO : ∀ b o, s.heap.get? b = some o -> (s.heap.push ({ cls := .type "tuple", data := .seq (ks.map fun (i : Nat) => rawInt i).toArray } : Obj)).get? b = some o := fun b o e => zq8x _ e
    generalize hh1 : s.heap.push ({ cls := .type "tuple", data := .seq (ks.map fun (i : Nat) => rawInt i).toArray } : Obj) = h1 at g1' sz1 gT gO ⊢
    have gI : (h1.push ({ cls := .type "set_iterator", data := .fields #[.ref s.heap.objs.size, rawInt 0, .ref a, rawInt es.size, rawInt ep] } : Obj)).get? h1.objs.size = some { cls := .type "set_iterator", data := .fields #[.ref s.heap.objs.size, rawInt 0, .ref a, rawInt es.size, rawInt ep] } := zq28x _ rfl
    have gS := zq8x ({ cls := .type "set_iterator", data := .fields #[.ref s.heap.objs.size, rawInt 0, .ref a, rawInt es.size, rawInt ep] } : Obj) g1'
    have gT' := zq8x ({ cls := .type "set_iterator", data := .fields #[.ref s.heap.objs.size, rawInt 0, .ref a, rawInt es.size, rawInt ep] } : Obj) gT
    have sz2 : (h1.push ({ cls := .type "set_iterator", data := .fields #[.ref s.heap.objs.size, rawInt 0, .ref a, rawInt es.size, rawInt ep] } : Obj)).objs.size = h1.objs.size + 1 := zq51x ..
    subst hh1
    refine wpAny_pure ⟨_, rfl, "set_iterator", _, ⟨_, gI, rfl⟩, sl_setiter_next.lookup, ?_⟩
    have pp : (ks.filterMap (es[·]?)).Perm es.toList := by
      have := hk.filterMap (es[·]?)
      have e : (List.range es.size).filterMap (es[·]?) = es.toList := by
        have := range_get es.toList
        simpa using this
      rwa [e] at this
    have hn : ((ks.filterMap (es[·]?)).map (·.2)).length = es.size := by rw [zq0x, pp.length_eq]; simp
    have nlt := zq125x (zq62x s.heap.objs.size) sz1.symm
    refine fin _ _ d' ((ks.filterMap (es[·]?)).map (·.2)) [_, a, s.heap.objs.size] _ (fun b o e => zq8x _ (gO b o e)) (zq49x nlt) (fun b m => ?_) (zq20x ..) (fun b m => ?_) (pp.map _) (fun B hB => by rw [hn]; exact walks_drawn hB g3 g4 hk (zq13x (zq102x hlt nlt)) (zq13x nlt)) ?_
    · rcases zq2x.mp m with e | m
      · exact .inr (by rw [e]; exact zq49x nlt)
      · rcases zq2x.mp m with e | m
        · exact .inl e
        · exact .inr (zq83x (zq1x.mp m).symm)
    · refine zq125x ?_ sz2.symm
      rcases zq2x.mp m with e | m
      · rw [e]; exact zq62x _
      · rcases zq2x.mp m with e | m
        · rw [e]; exact zq77x (zq102x hlt nlt)
        · rw [zq1x.mp m]; exact zq77x nlt
    · exact ⟨⟨_, gI, rfl, rfl⟩, gS, _, _, gT', rfl⟩
  · rw [if_neg c]
    refine wpAny_bind (wpAny_pure ?_)
    refine wpAny_bind (epoch_of g1 g3 g4 ?_)
    unfold newFields
    refine wpAny_bind (wpAny_newObj_type ?_)
    have gI : (s.heap.push ({ cls := .type "set_iterator", data := .fields #[rawInt 0, rawInt 0, .ref a, rawInt es.size, rawInt ep] } : Obj)).get? s.heap.objs.size = some { cls := .type "set_iterator", data := .fields #[rawInt 0, rawInt 0, .ref a, rawInt es.size, rawInt ep] } := zq28x _ rfl
    have gS := zq8x ({ cls := .type "set_iterator", data := .fields #[rawInt 0, rawInt 0, .ref a, rawInt es.size, rawInt ep] } : Obj) g1
    have hfp : ∀ b ∈ [s.heap.objs.size, a], b = a \/ s.heap.objs.size <= b := fun b m => by
      rcases zq2x.mp m with e | m
      · exact .inr (zq83x e.symm)
      · exact .inl (zq1x.mp m)
    have hsz : (s.heap.push ({ cls := .type "set_iterator", data := .fields #[rawInt 0, rawInt 0, .ref a, rawInt es.size, rawInt ep] } : Obj)).objs.size = s.heap.objs.size + 1 := zq51x ..
    have hlts : ∀ b ∈ [s.heap.objs.size, a], b < (s.heap.push ({ cls := .type "set_iterator", data := .fields #[rawInt 0, rawInt 0, .ref a, rawInt es.size, rawInt ep] } : Obj)).objs.size := fun b m => by
      rw [hsz]
      rcases zq2x.mp m with e | m
      · rw [e]; exact zq62x _
      · rw [zq1x.mp m]; exact zq77x hlt
    refine wpAny_pure ⟨_, rfl, "set_iterator", _, ⟨_, gI, rfl⟩, sl_setiter_next.lookup, ?_⟩
    cases bt : byText w with
    | true =>
      have pp : (pickOrder (w.params.setOrder a ep) es).toList.Perm es.toList := by simpa [pickOrder] using pick_perm (w.params.setOrder a ep) es.size 0 es.toList #[] (by simp)
      have hn : ((pickOrder (w.params.setOrder a ep) es).toList.map (·.2)).length = es.size := by rw [zq0x, pp.length_eq]; simp
      refine hQ _ _ s.drawn ((pickOrder (w.params.setOrder a ep) es).toList.map (·.2)) [s.heap.objs.size, a] _ (fun b o e => zq8x _ e) (zq3x _) hfp (by simp) hlts (pp.map _) (fun B hB => by rw [hn]; exact walks_text hB bt g3 g4 (zq13x hlt)) ?_
      exact ⟨⟨_, gI, rfl, rfl⟩, gS⟩
    | false =>
      have pl : t.plain = true \/ es.size <= 1 := by
        rw [bt, Bool.not_false, Bool.true_and] at c
        cases hp : t.plain with
        | true => exact .inl rfl
        | false =>
          rw [hp, Bool.not_false, Bool.true_and, decide_eq_true_eq] at c
          exact .inr (by omega)
      have hn : (es.toList.map (·.2)).length = es.size := by simp
      refine hQ _ _ s.drawn (es.toList.map (·.2)) [s.heap.objs.size, a] _ (fun b o e => zq8x _ e) (zq3x _) hfp (by simp) hlts (.refl _) (fun B hB => by rw [hn]; exact walks_plain hB bt g3 g4 tk pl (zq13x hlt)) ?_
      exact ⟨⟨_, gI, rfl, rfl⟩, gS⟩
end
end L2
set_option maxRecDepth 100000
set_option maxHeartbeats 4000000
namespace L2
open PySem PySem.Spec PyProof.Rows
section
variable {prog : Program} {w : World} {A : Around} {E : Value -> Shared -> Prop} {s : Shared} {a : Addr} {o : Obj} {es : Array (Int × Value)} {ep : Nat} {t : SetTable}
theorem hint_set {Q : Bool -> Shared -> Prop} (hT : s.TypeIs (.ref a) "set") (h : Q false s) : wpAny (model prog w) A (Builtin.List.listLengthHint (.ref a)) Q E s := by
 unfold Builtin.List.listLengthHint
 refine wpAny_bind (wpAny_specialOf hT PySem.F.slot_set_len.lookup ?_)
 generalize hid : ("set.__len__" : String) = id0
 wp_delta
 rw [show splitId id0 = some ("set", "__len__") from by subst hid; decide +kernel]
 subst hid
 refine wpAny_bind (wpAny_isInstance (b := true) (T := "set") hT (by rw [isSubtype_type]; kernel_rfl) ?_)
 refine wpAny_ite_split (fun z => absurd z (by decide)) fun _ => wpAny_ite_split (fun _ => ?_) fun z => absurd (by decide +kernel) z
 exact wpAny_bind (wpAny_typeOf hT (wpAny_pure h))
theorem items_eq {items : List Value} {acc : Array Value} (h : ItemsOf (fun i v => items[i]? = some v) acc items.length) : acc.toList = items := by
 apply zq76x
 intro i
 by_cases hi : i < acc.size
 ·have e : acc[i]? = some acc[i] := zq48x hi
  rw [zq78x, e, h.2 i _ e]
 ·have := h.1
  rw [zq105x (by simp; omega), zq105x (by omega)]
theorem collect_set {Q : List Value -> Shared -> Prop} (hh : A.handled = none) (hb : es.size < scanBound) (g1 : s.heap.get? a = some o) (g2 : o.ExactSet) (g3 : o.data = .set es ep t) (g4 : t.fits es.size = true) (tk : TOk (byText w) t)
  (hQ : ∀ h' d' tk' items, (∀ b o, s.heap.get? b = some o -> h'.get? b = some o) -> s.heap.objs.size <= h'.objs.size -> items.Perm (es.toList.map (·.2)) -> Q items { s with heap := h', drawn := d', toks := tk' }) : wpAny (model prog w) A (collect (.ref a)) Q E s := by
 have hlt := zq4x g1
 unfold collect
 refine wpAny_bind (wpAny_runValue (codeAny_builtin PySem.F.entry_proto_collect ?_))
 rw [zq88x PySem.F.plain_proto_collect _]
 show wpAny _ A.in1 (newList [] >>= fun l => again (.builtin "list.__iadd__" ⟨[l, .ref a], []⟩)) _ _ s
 refine wpAny_bind (wpAny_newObj_type ?_)
 refine wpAny_pure ⟨plainId_quiet zq153x _, codeAny_builtin PySem.F.entry_list_iadd ?_⟩
 rw [zq88x zq153x _]
 have gL : (s.heap.push ({ cls := .type "list", data := .seq ([] : List Value).toArray } : Obj)).get? s.heap.objs.size = some { cls := .type "list", data := .seq ([] : List Value).toArray } := zq28x _ rfl
 have gA := zq8x ({ cls := .type "list", data := .seq ([] : List Value).toArray } : Obj) g1
 have szL : (s.heap.push ({ cls := .type "list", data := .seq ([] : List Value).toArray } : Obj)).objs.size = s.heap.objs.size + 1 := zq51x ..
 show wpAny _ A.in1 (Builtin.List.listExtendWith (.ref s.heap.objs.size) (.ref a) (.ref s.heap.objs.size)) _ _ { s with heap := s.heap.push ({ cls := .type "list", data := .seq ([] : List Value).toArray } : Obj) }
 have hkeep : ∀ b o, s.heap.get? b = some o -> (s.heap.push ({ cls := .type "list", data := .seq ([] : List Value).toArray } : Obj)).get? b = some o := fun b o e => zq8x _ e
 generalize s.heap.push ({ cls := .type "list", data := .seq ([] : List Value).toArray } : Obj) = h1 at gL gA szL hkeep ⊢
 unfold Builtin.List.listExtendWith
 refine wpAny_bind (wpAny_typeOf (T := "set") ⟨o, gA, g2.1⟩ ?_)
 have n1 : Builtin.List.listSameRef (.ref s.heap.objs.size) (.ref a) = false := by
  show (s.heap.objs.size == a) = false
  exact beq_eq_false_iff_ne.mpr (zq94x hlt)
 have n2 : (Value.type "set" == Value.type "list") = false := by decide
 have n3 : (Value.type "set" == Value.type "tuple") = false := by decide
 simp only [n1, n2, n3, zq64x, Bool.false_eq_true, if_false]
 refine wpAny_bind (iter_G (s := { s with heap := h1 }) hb gA g2 g3 g4 tk fun I h2 d' items fp St k1 k2 k3 k4 k5 pp W st => ?_)
 have gA2 := k1 _ _ gA
 have gL2 := k1 _ _ gL
 refine wpAny_bind (wpAny_holding (hint_set (s := { s with heap := h2, drawn := d' }) ⟨o, gA2, g2.1⟩ ?_))
 have lS : s.heap.objs.size < h1.objs.size := zq125x (zq62x _) szL.symm
 have nS : s.heap.objs.size ∉ fp := fun m => by
  rcases k3 _ m with e | e
  ·exact absurd e (zq94x hlt)
  ·exact absurd (zq17x lS e) (zq46x _)
 have hil : items.length <= sizeLine := by
  rw [pp.length_eq, zq0x, zq50x]; exact fits_of_scanBound hb
 have key : ∀ (h3 : Heap) (c : Nat), St 0 h3 -> (∀ b o, b ≠ s.heap.objs.size -> h2.get? b = some o -> h3.get? b = some o) -> h3.get? s.heap.objs.size = some { cls := .type "list", data := .seq #[] c } ->
   codeAny (model prog w) A (.builtin "list.extend.loop" ⟨[.ref s.heap.objs.size, .ref I, .ref s.heap.objs.size], []⟩) (fun r s' => match r with
    | .ok (.ret v) => wpAny (model prog w) A (match v with | .ref x => (do match (<- load x).data with | .seq xs _ => pure xs.toList | _ => unsupported "internal:collect") | _ => unsupported "internal:collect") Q E s'
    | .ok _ => False
    | .error e => E e s') { s with heap := h3, drawn := d' } := by
  intro h3 c st3 q1 q2
  refine codeAny_extend_loopS ((W A.in1 hh).toS) hil _ nS _ items.length 0 _ #[] c rfl (zq37x _) st3 q2 (ItemsOf.nil _) fun s' acc c' mo q3 q4 => ?_
  refine wpAny_bind (wpAny_load q3 (wpAny_pure ?_))
  rw [items_eq q4, Moved.eq_with mo]
  refine hQ s'.heap d' s'.toks items (fun b o e => ?_) ?_ pp
  ·have nb : b ≠ s.heap.objs.size := zq13x (zq4x e)
   refine mo.heap b o (fun m => ?_) (q1 b o nb (k1 b o (hkeep b o e)))
   rcases zq2x.mp m with z | z
   ·exact nb z
   ·have z := zq1x.mp z
    rw [z] at e
    exact absurd (zq17x (zq102x (zq4x e) lS) k2) (zq46x _)
  ·exact zq49x (zq4x q3)
 refine wpAny_ite_split (fun _ => ?_) fun _ => wpAny_pure ⟨plainId_quiet zq154x _, key h2 _ st (fun _ _ _ e => e) gL2⟩
 refine wpAny_bind (wpAny_rule (wpAny_bind ?_))
 show wpAny _ A.in1 (updateSeq s.heap.objs.size (·.push .none) >>= fun _ => updateSeq s.heap.objs.size (·.pop)) _ _ _
 have u1 := zq99x (Obj.mapSeq (·.push Value.none)) gL2 rfl
 have u2 := zq99x (Obj.mapSeq (·.pop)) u1 rfl
 refine wpAny_bind (wpAny_updateSeq gL2 rfl (wpAny_updateSeq (hz := by seq_fits) u1 rfl ?_))
 have oth : ∀ b o, b ≠ s.heap.objs.size -> h2.get? b = some o -> ((h2.update s.heap.objs.size (Obj.mapSeq (·.push Value.none))).update s.heap.objs.size (Obj.mapSeq (·.pop))).get? b = some o := fun b o nb e => (zq47x _ _ (zq6x nb)).trans ((zq47x _ _ (zq6x nb)).trans e)
 exact wpAny_pure ⟨plainId_quiet zq154x _, key _ _ ((W A.in1 hh).frame 0 _ _ st fun b m o e => oth b o (fun z => nS (z ▸ m)) e) oth u2⟩
theorem ints_all {ks : List Int -> Prop} : ∀ {vs : List Value}, (∀ v ∈ vs, ∃ k t, v = .int k t) -> ∃ ns, IntsAre vs ns
  | [], _ => ⟨[], .nil⟩
  | v :: vs, h => by
    obtain ⟨k, t, rfl⟩ := h v (zq20x ..)
    obtain ⟨ns, hn⟩ := ints_all (ks := ks) fun v m => h v (zq12x _ m)
    exact ⟨k :: ns, .cons k t hn⟩
theorem ints_mem : ∀ {vs : List Value} {ns : List Int}, IntsAre vs ns -> ∀ k, k ∈ ns ↔ ∃ t, .int k t ∈ vs
  | _, _, .nil, k => by simp
  | _, _, .cons j t h, k => by
    rw [zq2x, ints_mem h k]
    constructor
    · rintro (rfl | ⟨t', m⟩)
      · exact ⟨_, zq20x ..⟩
      · exact ⟨t', zq12x _ m⟩
    · rintro ⟨t', m⟩
      rcases zq2x.mp m with e | m
      · cases e; exact .inl rfl
      · exact .inr ⟨t', m⟩
theorem sorted_set {S : Int -> Bool} {n : Nat} {Q : Value -> Shared -> Prop} (hh : A.handled = none) (hS : s.heap.SetOf (IK prog w) a S n) (hT : TAt (byText w) s.heap a) (h64 : n < 64)
  (h : ∀ h' d' tk' (l : Addr) (out : List Value) (ns : List Int) (e : Nat), (∀ b o, s.heap.get? b = some o -> h'.get? b = some o) -> s.heap.objs.size <= l -> h'.get? l = some (seqObj "list" out.toArray e) -> IntsAre out ns -> ns.Pairwise (· <= ·) -> (∀ k, S k = true ↔ k ∈ ns) -> ns.length = n ->
   Q (.ref l) { s with heap := h', drawn := d', toks := tk' }) : wpAny (model prog w) A (call (.builtin "sorted") [.ref a]) Q E s := by
 obtain ⟨o, es, ep, t, g1, g2, g3, l1, l2, l3, l4, sz⟩ := hS
 refine Calls.call_function_entry kind_sorted plain_sorted entry_sorted (args_sorted1 _) ?_
 unfold Builtin.«sorted»
 refine wpAny_bind (m := checkCount "sorted" 1 1 _) (wpAny_pure (wpAny_bind ?_))
 refine collect_set (A := A.in1) hh l3 g1 g2 g3 l4 (hT o es ep t g1 g3) fun h1 d1 tk1 items k1 k2 pp => ?_
 have hint : ∀ v ∈ items, ∃ k t, v = .int k t := fun v m => by
  obtain ⟨e, m', rfl⟩ := zq41x.mp (pp.mem_iff.mp m)
  obtain ⟨⟨k, hk, _⟩, _⟩ := l1 e m'
  obtain ⟨t, ht⟩ := zq111x hk
  exact ⟨k, t, ht⟩
 obtain ⟨ns, hI⟩ := ints_all (ks := fun _ => True) hint
 have hlen : items.length = n := by rw [pp.length_eq, zq0x, zq50x, sz]
 refine wpAny_bind (wpAny_newList ?_)
 have gL : (h1.push (seqObj "list" items.toArray 0)).get? h1.objs.size = some (seqObj "list" items.toArray 0) := zq28x _ rfl
 refine wpAny_bind (wpAny_holding (wpAny_call_entry slot_list_sort ⟨_, gL, rfl⟩ entry_list_sort (list_sort_tree gL hI (by omega) fun out ns' a1 a2 a3 => ⟨_, rfl, ?_⟩) (args_list_sort _)))
 obtain ⟨e, he⟩ := sortedHeap_at (out := out) gL
 refine wpAny_pure ⟨_, rfl, h _ d1 tk1 h1.objs.size out.toList ns' e (fun b o q => ?_) k2 (by simpa using he) a1 a3 (fun k => ?_) ?_⟩
 ·have lb := zq4x (k1 b o q)
  rw [sortedHeap_old (zq13x lb) (by rw [zq51x]; exact zq77x lb)]
  exact zq8x _ (k1 b o q)
 ·rw [a2.mem_iff, ints_mem hI, l2 k]
  constructor
  ·rintro ⟨e, m, q⟩
   obtain ⟨t, ht⟩ := zq111x q
   exact ⟨t, pp.mem_iff.mpr (ht ▸ zq41x.mpr ⟨e, m, rfl⟩)⟩
  ·rintro ⟨t, m⟩
   obtain ⟨e, m', q⟩ := zq41x.mp (pp.mem_iff.mp m)
   exact ⟨e, m', by rw [q]; exact intKind_is _ _ _ _⟩
 ·rw [a2.length_eq, <- hI.length, hlen]
end
end L2
set_option maxRecDepth 100000
set_option maxHeartbeats 4000000
namespace L2
open PySem PySem.Spec PyProof.Rows
def SetX (P : Program) (w : World) (a : Addr) (S : Int -> Bool) (n : Nat) : HO := .ext fun h => h.SetOf (IK P w) a S n /\ TAt (byText w) h a
theorem Inv.dr {X : Cx} {pins : List (Addr × Obj)} {σ : St} {H : Hp} {s : Shared} (I : Inv X pins σ H s) (d : Drawn) : Inv X pins σ H { s with drawn := d } :=
 ⟨I.ok, I.os, I.bare, I.base, I.loc, I.cell, I.free, I.freeC, I.pin, I.hok, I.len⟩
theorem vals_intsA : ∀ {ns : List Int} {us : List Value}, Vals (ns.map V.int) us -> IntsAre us ns
  | [], _, .nil => .nil
  | n :: ns, _, .cons r t => by
    obtain ⟨k, rfl⟩ := r
    exact .cons n k (vals_intsA t)
theorem ints_vals : ∀ {us : List Value} {ns : List Int}, IntsAre us ns -> Vals (ns.map V.int) us
 | _, _, .nil => .nil
 | _, _, .cons k t h => .cons ⟨t, rfl⟩ (ints_vals h)
theorem nodup_step {σ : List Int} {k : Int} (h : σ.Nodup) : (step_dedup σ k).Nodup := by
 unfold step_dedup
 split
 ·exact h
 ·rename_i q
  rw [zq126x]
  refine ⟨h, by simp, fun x hx y hy => ?_⟩
  rw [zq1x.mp hy]
  intro e
  subst e
  exact q (by simp [hx])
theorem firstMet_nodup (val : Nat -> Int) : ∀ i, (firstMet val i).Nodup
 | 0 => List.nodup_nil
 | i + 1 => by rw [firstMet_succ]; exact nodup_step (firstMet_nodup val i)
theorem perm_of_sub : ∀ {ds ns : List Int}, ds.Nodup -> (∀ k ∈ ds, k ∈ ns) -> ns.length <= ds.length -> ds.Perm ns
  | [], ns, _, _, hl => by
    have : ns = [] := zq65x.mp (by simpa using hl)
    rw [this]
  | d :: ds, ns, hd, hs, hl => by
    have hm := hs d (zq20x ..)
    obtain ⟨h1, h2⟩ := zq43x.mp hd
    have hp := List.perm_cons_erase hm
    refine (List.Perm.cons d (perm_of_sub h2 (fun k hk => ?_) ?_)).trans hp.symm
    · rcases zq2x.mp (hp.mem_iff.mp (hs k (zq12x _ hk))) with e | e
      · subst e; exact absurd hk h1
      · exact e
    · have := hp.length_eq; simp at this hl ⊢; omega
def rSetOf (P : Program) (w : World) (K : PySem.W.Frag) : List V -> Hp -> VK -> Prop := fun xs H Q => ∃ p, ∃ ns : List Int, xs = [.ref p] /\ SqL K H p (ns.map V.int) /\ ns.length <= 4000 /\ ∀ a (ms : List Int), H a = none -> ms.Nodup -> (∀ k, k ∈ ms ↔ k ∈ ns) -> Q (.ref a) (upd H a (SetX P w a (fun k => ms.any (· == k)) ms.length))
def rSorted (P : Program) (w : World) : List V -> Hp -> VK -> Prop := fun xs H Q => ∃ a, ∃ ms : List Int, xs = [.ref a] /\ H a = some (SetX P w a (fun k => ms.any (· == k)) ms.length) /\ ms.Nodup /\ ms.length < 64 /\
 ∀ l (rs : List Int), H l = none -> rs.Pairwise (· < ·) -> (∀ k, k ∈ rs ↔ k ∈ ms) -> Q (.ref l) (upd H l (.lst (rs.map V.int)))
section
variable {X : Cx}
theorem call_setM (hc : X.calm = true) : CallR X (.type "set") (rSetOf X.prog X.w X.K) := by
 intro pins s σ H xs us Q I rv h
 obtain ⟨p, ns, rfl, hp, hn, q⟩ := h
 obtain ⟨u, rfl, ru⟩ := vals1 rv
 cases ru
 obtain ⟨its, rs, il, hz⟩ := I.list hp
 have hI := vals_intsA rs
 have hlen := hI.length
 refine callset_G (I.ok.hd hc) il.isList (by simpa using hI) (by rw [zq14x]; unfold scanBound; omega) fun h' tk q1 q2 q3 => ?_
 have hmem : ∀ k, k ∈ firstMet (fun i => ns.getD i 0) its.toArray.size ↔ k ∈ ns := fun k => by
  have e := firstMet_any (fun i => ns.getD i 0) its.toArray.size k
  have e2 : (List.range its.toArray.size).map (fun i => ns.getD i 0) = ns := by
   rw [zq14x, hlen]
   apply List.ext_getElem
   ·simp
   ·intro i h1 h2
    simp [zq79x, zq21x h2]
  rw [e2] at e
  have a1 : ∀ (l : List Int), (l.any (· == k)) = true ↔ k ∈ l := fun l => by
   rw [zq127x]
   exact ⟨fun ⟨x, m, z⟩ => (beq_iff_eq.mp z) ▸ m, fun m => ⟨k, m, beq_self_eq_true _⟩⟩
  rw [<- a1, <- a1, e]
 have kp : ∀ b u, s.heap.get? b = some u -> h'.get? b = some u := fun b u e => q3 b u (zq4x e) e
 have new : ObjOk X.prog X.w (upd H s.heap.objs.size (SetX X.prog X.w s.heap.objs.size (fun k => (firstMet (fun i => ns.getD i 0) its.toArray.size).any (· == k)) (firstMet (fun i => ns.getD i 0) its.toArray.size).length)) h' s.heap.objs.size (SetX X.prog X.w s.heap.objs.size (fun k => (firstMet (fun i => ns.getD i 0) its.toArray.size).any (· == k)) (firstMet (fun i => ns.getD i 0) its.toArray.size).length) := by
  refine ⟨⟨q1, q2⟩, ?_, fun h1 h2 z k => ?_⟩
  ·obtain ⟨o, _, _, _, ho, _⟩ := q1; exact ⟨o, ho⟩
  ·obtain ⟨⟨o, es, ep, t, ho, r⟩, tt⟩ := z
   exact ⟨⟨o, es, ep, t, k o ho, r⟩, tt.keep ho (k o ho)⟩
 exact ⟨.ref s.heap.objs.size, _, I.laid (t' := tk) kp (zq3x _) new, rfl, q _ _ (I.hok.fresh (zq3x _)) (firstMet_nodup _ _) hmem⟩
theorem call_sortM (hc : X.calm = true) : CallR X (.builtin "sorted") (rSorted X.prog X.w) := by
 intro pins s σ H xs us Q I rv h
 obtain ⟨a, ms, rfl, hH, nd, h64, q⟩ := h
 obtain ⟨u, rfl, ru⟩ := vals1 rv
 cases ru
 obtain ⟨⟨q1, q2⟩, _, _⟩ := I.hok a _ hH
 refine sorted_set (I.ok.hd hc) q1 q2 h64 fun h' d' tk' l out ns e kp hl gl hI pw hm hn => ?_
 have a1 : ∀ k, (ms.any (· == k)) = true ↔ k ∈ ms := fun k => by
  rw [zq127x]
  exact ⟨fun ⟨x, m, z⟩ => (beq_iff_eq.mp z) ▸ m, fun m => ⟨k, m, beq_self_eq_true _⟩⟩
 have hm' : ∀ k, k ∈ ns ↔ k ∈ ms := fun k => by rw [<- hm k, a1]
 have pp := perm_of_sub nd (fun k m => (hm' k).mpr m) (zq83x hn)
 have ndn : ns.Nodup := pp.nodup_iff.mp nd
 have lt : ns.Pairwise (· < ·) := by
  have := pw.and ndn
  exact this.imp fun ⟨x, y⟩ => by omega
 have new : ObjOk X.prog X.w (upd H l (.lst (ns.map V.int))) h' l (.lst (ns.map V.int)) := by
  refine ⟨?_, out, e, ints_vals hI, gl⟩
  rw [zq0x, hn]; exact zq26x (zq49x h64) (by decide)
 exact ⟨.ref l, _, (I.laid (t' := tk') kp hl new).dr d', rfl, q _ _ (I.hok.fresh hl) lt hm'⟩
end
theorem EvN.sortedSet {G : Gx} {ρ : Rh} {te : TE} {P : Program} {w : World} {K : PySem.W.Frag} {Θ : Bool -> List PyData -> Prop} (h : Ev G ρ te fun _ x => ∃ ns : List Int, x = .list (ns.map .int) /\ ns.length < 64 /\ ∀ rs : List Int, rs.Pairwise (· < ·) -> (∀ k, k ∈ rs ↔ k ∈ ns) -> Θ true (rs.map .int)) :
  EvN G ρ (tCB (rSorted P w) (tCons (tCB (rSetOf P w K) (tCons te tNil)) tNil)) Θ := fun nb σ H Q W z =>
 h nb σ H _ W fun f v H1 x ⟨ns, ex, hn, q⟩ s1 hv => by
  subst ex
  obtain ⟨a, xs, rfl, na, hx, hd⟩ := hv.ofL
  have e := isDs_ints_eq hd
  subst e
  refine ⟨a, ns, rfl, .of hx, by omega, fun b ms hb nd hm => ?_⟩
  have hms : ms.length <= ns.length := zq155x nd fun k m => (hm k).mp m
  refine ⟨b, ms, rfl, upd_same, nd, by omega, fun l rs hl lt hm' => ?_⟩
  have s2 : Step G.B H1 (upd H1 b (SetX P w b (fun k => ms.any (· == k)) ms.length)) := .same s1.2 (same_new hb)
  exact EvN.fin (f := true) W (s1.trans s2) hl (isDs_intsL rs) (q rs lt fun k => (hm' k).trans (hm k)) z
end L2
set_option maxRecDepth 100000
set_option maxHeartbeats 4000000
set_option maxRecDepth 100000
set_option maxHeartbeats 4000000
set_option maxRecDepth 100000
set_option maxHeartbeats 4000000
set_option maxRecDepth 100000
set_option maxHeartbeats 4000000
set_option maxRecDepth 100000
set_option maxHeartbeats 4000000
set_option maxRecDepth 100000
set_option maxHeartbeats 4000000
set_option maxRecDepth 100000
set_option maxHeartbeats 4000000
set_option maxRecDepth 100000
set_option maxHeartbeats 4000000
set_option maxRecDepth 100000
set_option maxHeartbeats 4000000
set_option maxRecDepth 100000
set_option maxHeartbeats 4000000
set_option maxRecDepth 100000
set_option maxHeartbeats 4000000
set_option maxRecDepth 100000
set_option maxHeartbeats 4000000
namespace L2
open PySem PySem.Spec PyProof.Rows
def rRange1 : List V -> Hp -> VK -> Prop := fun xs H Q => ∃ j : Int, xs = [.int j] /\ ∀ a, H a = none -> Q (.ref a) (upd H a (.rng 0 j))
def rListR : List V -> Hp -> VK -> Prop := fun xs H Q => ∃ (a : Addr) (lo hi : Int), xs = [.ref a] /\ H a = some (.rng lo hi) /\ (-10000 <= lo /\ lo <= 10000 /\ -10000 <= hi /\ hi <= 10000) /\ ∀ l, H l = none -> Q (.ref l) (upd H l (.lst (((List.range (hi - lo).toNat).map fun (i : Nat) => lo + (i : Int)).map V.int)))
def rSum (K : PySem.W.Frag) : List V -> Hp -> VK -> Prop := fun xs H Q => ∃ p, ∃ ns : List Int, xs = [.ref p] /\ SqL K H p (ns.map V.int) /\ Q (.int ns.sum) H
def rAll (K : PySem.W.Frag) : List V -> Hp -> VK -> Prop := fun xs H Q => ∃ p, ∃ bs : List Bool, xs = [.ref p] /\ SqL K H p (bs.map V.bl) /\ Q (.bl (bs.all id)) H
section
variable {X : Cx}
theorem call_rangeM : CallR X (.type "range") rRange1 := by
 intro pins s σ H xs us Q I rv h
 obtain ⟨j, rfl, q⟩ := h
 obtain ⟨u, rfl, ru⟩ := vals1 rv
 obtain ⟨t, rfl⟩ := ru
 refine call_range_1 ?_
 exact ⟨.ref s.heap.objs.size, _, I.laid (t' := s.toks + 1 + 1) (o := .rng 0 j) (fun b o e => zq8x _ e) (zq3x _) ⟨_, _, _, zq28x _ rfl⟩, rfl, q _ (I.hok.fresh (zq3x _))⟩
theorem call_listR (hc : X.calm = true) : CallR X (.type "list") rListR := by
  intro pins s σ H xs us Q I rv h
  obtain ⟨a, lo, hi, rfl, hH, hb, q⟩ := h
  obtain ⟨u, rfl, ru⟩ := vals1 rv
  cases ru
  obtain ⟨t, u, v, e⟩ := (show ObjOk X.prog X.w H s.heap a (.rng lo hi) from I.hok a _ hH)
  refine call_list_range (n := (hi - lo).toNat) (I.ok.hd hc) (show IsRange s.heap a lo hi 1 t u v from e) (small_one (by omega) (by omega) (by omega) (by omega)) (rangeSize_nat lo hi) (by omega) fun h' tk acc c' kp hl hi' => ?_
  have vv : Vals (((List.range (hi - lo).toNat).map fun (i : Nat) => lo + (i : Int)).map V.int) acc.toList := by
    have key : ∀ (n : Nat) (l : List Value), l.length = n -> ∀ b : Int, (∀ (j : Nat) (v : Value), l[j]? = some v -> ∃ t, v = Value.int (b + (j : Int)) t) -> Vals (((List.range n).map fun (i : Nat) => b + (i : Int)).map V.int) l := by
      intro n
      induction n with
      | zero => intro l hl b _; rw [zq65x.mp hl]; exact .nil
      | succ n ih =>
        intro l hl b hv
        cases l with
        | nil => cases hl
        | cons x r =>
          obtain ⟨t, e⟩ := hv 0 x rfl
          rw [zq124x, zq24x, zq24x]
          refine .cons ⟨t, by simpa using e⟩ ?_
          have := ih r (by simpa using hl) (b + 1) (fun j v e => by
            obtain ⟨t, z⟩ := hv (j + 1) v (by simpa using e)
            exact ⟨t, by rw [z]; congr 1; omega⟩)
          rw [List.map_map] at this ⊢
          rw [List.map_map]
          have e : ∀ i : Nat, ((V.int ∘ fun (i : Nat) => b + (i : Int)) ∘ Nat.succ) i = (V.int ∘ fun (i : Nat) => b + 1 + (i : Int)) i := fun i => by
            show V.int (b + ((i + 1 : Nat) : Int)) = V.int (b + 1 + (i : Int)); congr 1; omega
          rw [List.map_congr_left fun i _ => e i]
          exact this
    refine key _ _ (by rw [zq50x]; exact hi'.1) lo fun j v e => ?_
    obtain ⟨t, z⟩ := hi'.2 j v (by rw [<- zq78x]; exact e)
    exact ⟨t, by rw [z]; congr 1; omega⟩
  refine ⟨.ref s.heap.objs.size, _, I.laid (t' := tk) (o := .lst (((List.range (hi - lo).toNat).map fun (i : Nat) => lo + (i : Int)).map V.int)) kp (zq3x _) ⟨?_, acc.toList, c', vv, by simpa using hl⟩, rfl, q _ (I.hok.fresh (zq3x _))⟩
  rw [zq0x, zq0x, List.length_range]
  exact zq26x (show (hi - lo).toNat <= 20000 by omega) (by decide)
theorem call_allM (hc : X.calm = true) : CallR X (.builtin "all") (rAll X.K) := by
  intro pins s σ H xs us Q I rv h
  obtain ⟨p, bs, rfl, hp, q⟩ := h
  obtain ⟨u, rfl, ru⟩ := vals1 rv
  cases ru
  obtain ⟨its, rs, il, hz⟩ := I.list hp
  have hl := rs.length
  have hv : ∀ (i : Nat) (v : Value), its.toArray[i]? = some v -> v = .bool (bs.getD i false) := fun i v e => by
    have hi : i < bs.length := by
      have := (zq87x.mp e).1
      rw [zq0x] at hl
      simp at this; omega
    obtain ⟨u, hu, ru⟩ := rs.get (i := i) (x := .bl bs[i]) (by rw [zq16x, zq21x hi]; rfl)
    rw [zq151x, hu] at e
    cases e
    rw [zq79x, zq21x hi]
    exact ru
  have ll := il.isList
  have hlt : p < s.heap.objs.size := by obtain ⟨o, e, _⟩ := ll; exact zq4x e
  refine call_all_walk (wpAny_pyIter_list ll ⟨s.heap.objs.size, _, _, _, _, _, fun i => bs.getD i false, rfl, Walks.list (A := X.A.in1) (I.ok.hd hc) _ p (zq13x hlt) its.toArray, ⟨⟨_, zq28x _ rfl, rfl, rfl⟩, ll.push _⟩, fun i v s Q E hP hQ => ?_, fun h' tk kp => ?_⟩)
  · rw [hv i v hP]; exact wpAny_truthy_bool hQ
  · have e : (List.range its.toArray.size).all (fun i => bs.getD i false) = bs.all id := by
      have hs : its.toArray.size = bs.length := by rw [zq0x] at hl; simp; omega
      rw [hs]
      clear hv hl rs q hp hs hz
      induction bs with
      | nil => rfl
      | cons b r ih =>
        rw [zq27x, zq124x, zq75x, zq75x, List.all_map]
        simpa [Function.comp_def] using congrArg (b && ·) ih
    rw [e]
    refine ⟨.bl (bs.all id), H, I.kept fun b o q => kp b o (fun m => ?_) (zq8x _ q), rfl, q⟩
    have := zq1x.mp m
    rw [this] at q
    exact absurd (zq4x q) (zq46x _)
end
section
variable {G : Gx} {ρ : Rh} {te : TE} {K : PySem.W.Frag} {Φ : Pd}
theorem EvN.listRange {Θ : Bool -> List PyData -> Prop} (h : Ev G ρ te fun _ x => ∃ n : Int, x = .int n /\ -10000 <= n /\ n <= 10000 /\ Θ true (((List.range n.toNat).map fun (i : Nat) => (0 : Int) + (i : Int)).map .int)) : EvN G ρ (tCB rListR (tCons (tCB rRange1 (tCons te tNil)) tNil)) Θ := fun nb σ H Q W z =>
 h nb σ H _ W fun f v H1 x ⟨n, ex, h1, h2, q⟩ s1 hv => by
  subst ex
  rw [hv.ofI]
  refine ⟨n, rfl, fun a ha => ⟨a, 0, n, rfl, upd_same, by omega, fun l hl => ?_⟩⟩
  rw [Int.sub_zero]
  exact EvN.fin (f := true) W (s1.trans (.same s1.2 (same_new ha))) hl (isDs_intsL _) q z
theorem Ev.sum (h : Ev G ρ te fun _ x => ∃ ns : List Int, x = .list (ns.map .int) /\ Φ true (.int ns.sum)) : Ev G ρ (tCB (rSum K) (tCons te tNil)) Φ := fun nb σ H Q W z =>
 h nb σ H _ W fun f v H1 x ⟨ns, ex, q⟩ s1 hv => by
  subst ex
  obtain ⟨a, xs, rfl, na, hx, hd⟩ := hv.ofL
  have e := isDs_ints_eq hd
  subst e
  exact ⟨a, ns, rfl, .of hx, z true _ H1 _ q s1 (.int _)⟩
theorem isDs_bools_eq {nb : Addr -> Prop} {H : Hp} : ∀ {is : List Bool} {xs : List V}, IsDs nb H (is.map PyData.bool) xs -> xs = is.map V.bl
  | [], _, h => by unfold List.map IsDs at h; exact h
  | i :: is, _, h => by
    rw [zq24x] at h
    unfold IsDs at h
    obtain ⟨y, ys, rfl, h1, h2⟩ := h
    unfold IsD at h1
    rw [zq24x, h1, isDs_bools_eq h2]
theorem Ev.all (h : Ev G ρ te fun _ x => ∃ bs : List Bool, x = .list (bs.map .bool) /\ Φ true (.bool (bs.all id))) : Ev G ρ (tCB (rAll K) (tCons te tNil)) Φ := fun nb σ H Q W z =>
 h nb σ H _ W fun f v H1 x ⟨bs, ex, q⟩ s1 hv => by
  subst ex
  obtain ⟨a, xs, rfl, na, hx, hd⟩ := hv.ofL
  have e := isDs_bools_eq hd
  subst e
  exact ⟨a, bs, rfl, .of hx, z true _ H1 _ q s1 (.bl _)⟩
end
end L2
set_option maxRecDepth 100000
set_option maxHeartbeats 4000000
namespace L2
open PySem PySem.Spec PyProof.Rows
def isiD : PyData -> String -> Bool
 | .bool _, T => T == "bool" || T == "int"
 | .int _, T => T == "int"
 | .str _, T => T == "str"
 | .list _, T => T == "list"
 | .tuple _, T => T == "tuple"
 | _, _ => false
def tyD : PyData -> String
 | .none => "NoneType" | .bool _ => "bool" | .int _ => "int" | .str _ => "str" | .list _ => "list" | .tuple _ => "tuple" | .dict _ => "dict"
theorem isi_list (ds : List PyData) : isiD (.list ds) "list" = true /\ isiD (.list ds) "tuple" = false := ⟨rfl, rfl⟩
theorem isi_tuple (ds : List PyData) : isiD (.tuple ds) "list" = false /\ isiD (.tuple ds) "tuple" = true := ⟨rfl, rfl⟩
theorem tyD_of {K : PySem.W.Frag} {nb : Addr -> Prop} {H : Hp} {d : PyData} {v : V} (h : IsD nb H d v) : TyOf K H v (.type (tyD d)) := by
 cases d <;> unfold IsD at h
 ·subst h; exact .non
 ·subst h; exact .bl _
 ·subst h; exact .int _
 ·subst h; exact .str _
 ·obtain ⟨a, xs, rfl, _, e, _⟩ := h; exact .lst e
 ·obtain ⟨a, xs, rfl, _, e, _⟩ := h; exact .tup e
 ·obtain ⟨a, xs, rfl, _, e, _⟩ := h; exact e.elim .dK fun ⟨_, e⟩ => .fzd e
def five (T : String) : Prop := T = "int" \/ T = "bool" \/ T = "list" \/ T = "tuple" \/ T = "str"
theorem kit_of {K : PySem.W.Frag} {d : PyData} {T : String} (hT : five T) : PySem.W.kitOne K (.type (tyD d)) (.type T) = some (isiD d T) := by
 rcases hT with rfl | rfl | rfl | rfl | rfl <;> cases d <;> (with_unfolding_all rfl)
theorem kit_any {K : PySem.W.Frag} {d : PyData} : ∀ {Ts : List String}, (∀ T ∈ Ts, five T) -> PySem.W.kitAny K (.type (tyD d)) (Ts.map Value.type) = some (Ts.any (isiD d))
  | [], _ => rfl
  | T :: r, h => by
    rw [zq24x]
    unfold PySem.W.kitAny
    rw [kit_of (h T (zq20x ..)), zq128x]
    cases isiD d T with
    | true => rfl
    | false => exact kit_any fun T m => h T (zq12x _ m)
def rIsiT : List V -> Hp -> VK -> Prop := fun xs H Q => ∃ (x : V) (tp : Addr) (Ts : List String) (nb : Addr -> Prop) (d : PyData), xs = [x, .ref tp] /\ H tp = some (.tup (Ts.map V.ty)) /\ IsD nb H d x /\ (∀ T ∈ Ts, five T) /\ Q (.bl (Ts.any (isiD d))) H
theorem vals_ty : ∀ {Ts : List String} {us : List Value}, Vals (Ts.map V.ty) us -> us = Ts.map Value.type
 | [], _, .nil => rfl
 | T :: r, _, .cons h t => by rw [zq24x, vals_ty t, show _ = Value.type T from h]
section
variable {X : Cx}
theorem call_isiT : CallR X (.builtin "isinstance") rIsiT := by
 intro pins s σ H xs us Q I rv h
 obtain ⟨x, tp, Ts, nb, d, rfl, ht, hd, h5, q⟩ := h
 obtain ⟨u, v, rfl, ru, rv⟩ := rv.two
 cases (show v = Value.ref tp from rv)
 obtain ⟨_, its, vt, o, ho, hc, n, hdat⟩ := (show ObjOk X.prog X.w H s.heap tp (.tup (Ts.map V.ty)) from I.hok tp _ ht)
 have e := vals_ty vt
 subst e
 obtain ⟨c0, d0, dt, sl⟩ := o
 dsimp only at hc hdat
 subst hc hdat
 have fin : ∀ tk, EP X pins σ Q (.bool (Ts.any (isiD d))) { s with toks := tk } := fun tk => ⟨.bl _, H, I.tok tk, rfl, q⟩
 have ka := kit_any (K := X.K) (d := d) h5
 cases d <;> unfold IsD at hd
 ·subst hd; cases (show u = Value.none from ru); exact zq66x PySem.W.kitx_none I.kIn True.intro ho ka (fun z => nomatch z) fin
 ·subst hd; cases (show u = Value.bool _ from ru); exact zq66x PySem.W.kitx_bool I.kIn True.intro ho ka (fun z => nomatch z) fin
 ·subst hd; obtain ⟨t, rfl⟩ := (show ∃ t, u = Value.int _ t from ru); exact zq66x PySem.W.kitx_int I.kIn True.intro ho ka (fun z => nomatch z) fin
 ·subst hd; obtain ⟨t, rfl⟩ := (show ∃ t, u = Value.str _ t from ru); exact zq66x PySem.W.kitx_str I.kIn True.intro ho ka (fun z => nomatch z) fin
 ·obtain ⟨a, ys, rfl, _, ea, _⟩ := hd
  cases (show u = Value.ref a from ru)
  obtain ⟨_, _, n, _, h1⟩ := (show ObjOk X.prog X.w H s.heap a (.lst ys) from I.hok a _ ea)
  exact zq66x zq116x I.kIn ⟨_, h1, rfl⟩ ho ka (fun z => nomatch z) fin
 ·obtain ⟨a, ys, rfl, _, ea, _⟩ := hd
  cases (show u = Value.ref a from ru)
  obtain ⟨_, _, _, o', h1, h2, _⟩ := (show ObjOk X.prog X.w H s.heap a (.tup ys) from I.hok a _ ea)
  exact zq66x PySem.W.kitx_tuple I.kIn ⟨o', h1, h2⟩ ho ka (fun z => nomatch z) fin
 ·obtain ⟨a, ys, rfl, _, ea, _⟩ := hd
  cases (show u = Value.ref a from ru)
  obtain ⟨_, _, vs, _, dd⟩ := (show ObjOk X.prog X.w H s.heap a (.dK ys) from ea.ok I.hok)
  exact zq66x zq98x I.kIn dd.typeIs ho ka (fun z => nomatch z) fin
end
section
variable {G : Gx} {ρ : Rh} {ta tb te : TE} {K : PySem.W.Frag} {Φ : Pd} {T U : String}
theorem Ev.isi (hT : five T) (h : Ev G ρ te fun _ x => Φ true (.bool (isiD x T))) : Ev G ρ (tCB (rIsi K) (tCons te (tCons (tC (.ty T)) tNil))) Φ := fun nb σ H Q W z =>
 h nb σ H _ W fun f v H1 d q s1 hv => ⟨v, T, _, _, rfl, tyD_of hv, kit_of hT, z true _ H1 _ q s1 (.bl _)⟩
theorem Ev.isi2 (hT : five T) (hU : five U) (h : Ev G ρ te fun _ x => Φ true (.bool (isiD x T || isiD x U))) : Ev G ρ (tCB rIsiT (tCons te (tCons (tTup (tCons (tC (.ty T)) (tCons (tC (.ty U)) tNil))) tNil))) Φ := fun nb σ H Q W z =>
 h nb σ H _ W fun f v H1 d q s1 hv => by
  refine ⟨by show 2 <= sizeLine; decide, fun p hp => ⟨v, p, [T, U], G.S nb f, d, rfl, upd_same, hv.keep (But.of (same_new hp)), fun S m => ?_, ?_⟩⟩
  ·rcases zq2x.mp m with e | m
   ·rw [e]; exact hT
   ·rw [zq1x.mp m]; exact hU
  ·rw [zq128x, zq128x, List.any_nil, zq64x]
   exact z true _ _ _ q (s1.trans (.same s1.2 (same_new hp))) (.bl _)
theorem Ev.lenS (h : Ev G ρ te fun _ x => ∃ ds, (x = .list ds \/ x = .tuple ds) /\ Φ true (.int ds.length)) : Ev G ρ (tCB (rLen K) (tCons te tNil)) Φ := fun nb σ H Q W z =>
 h nb σ H _ W fun f v H1 d ⟨ds, e, q⟩ s1 hv => by
  rcases e with e | e
  ·subst e
   obtain ⟨a, xs, rfl, n, hx, hd⟩ := hv.ofL
   exact ⟨a, xs, rfl, .inl (.of hx), by rw [hd.length]; exact z true _ H1 _ q s1 (.int _)⟩
  ·subst e
   obtain ⟨a, xs, rfl, n, hx, hd⟩ := hv.ofT
   exact ⟨a, xs, rfl, .inr (.of hx), by rw [hd.length]; exact z true _ H1 _ q s1 (.int _)⟩
theorem Ev.ixS (h : Ev G ρ ta fun f x => ∃ ds, (x = .list ds \/ x = .tuple ds) /\ Ev G ρ tb fun _ y => ∃ k, y = .int k /\ ∃ e, atI ds k = some e /\ Φ f e) : Ev G ρ (tOp (rIx K) ta tb) Φ :=
 Ev.op2 (h.mono fun f x ⟨ds, ex, q⟩ => q.mono fun g y ⟨k, ey, e, he, p⟩ nb σ H u v Q W hu hv z => by
  subst ey
  rcases ex with ex | ex
  ·subst ex
   obtain ⟨a, xs, rfl, n, hx, hd⟩ := hu.ofL
   obtain ⟨w, hw, hD⟩ := hd.atI he
   exact .inl ⟨a, xs, k, w, rfl, hv.ofI, .of hx, hw, z f _ H _ p (.refl W.bag) hD⟩
  ·subst ex
   obtain ⟨a, xs, rfl, n, hx, hd⟩ := hu.ofT
   obtain ⟨w, hw, hD⟩ := hd.atI he
   exact .inr (.inl ⟨a, xs, k, w, rfl, hv.ofI, .of hx, hw, z f _ H _ p (.refl W.bag) hD⟩))
end
theorem Callee.void {P : Program} {w : World} {K : PySem.W.Frag} {mg : Str -> Option Value} {base : Heap} {x : Str} {st : Stmt} {k : Nat} {ps : List Str} {sp : Sp} {f : Addr} {fd : FuncData} (F : Fun K x x st f fd) (b : Binds K fd ps []) (m : mg x = some (.ref f)) (hv : ∀ vs H Q E, ¬ sp vs H Q E) : Callee P w K mg base x k ps sp :=
 ⟨f, fd, ⟨fun vs H Q E h => (hv vs H Q E h).elim, fun A outer s H args us vs Q E _ _ _ _ h => (hv vs H Q E h).elim⟩, b, F.kp, m⟩
end L2
set_option maxRecDepth 100000
set_option maxHeartbeats 4000000
namespace L2
open PySem PySem.Spec PyProof.Rows
section
variable {G : Gx} {ρ ρc : Rh} {te : TE} {gt : TG} {n i : Nat} {it : Nat -> PyData -> Prop} {fi : Bool} {Θ : Bool -> List PyData -> Prop} {E : DE}
theorem scAll_ints (os : List Int) : scAll (os.map PyData.int) = true := by
 unfold scAll
 rw [zq73x]
 intro x hx
 obtain ⟨y, _, rfl⟩ := zq41x.mp hx
 rfl
theorem CompD.ints (P : Int -> Prop) (ht : ∀ i d, it i d -> Gv G ρc gt fi d fun ρ1 => Wk ρc ρ1 /\ Ev G ρ1 te fun _ e => ∃ r : Int, e = .int r /\ P r) (h : ∀ os : List Int, os.length = n -> (∀ x ∈ os, P x) -> Θ true (os.map .int)) : CompD G ρc n it fi gt tNoTest te Θ := by
 refine ⟨false, fun i ds => ds.length = i /\ ∃ os : List Int, ds = os.map .int /\ ∀ x ∈ os, P x, ⟨rfl, [], rfl, fun _ h => nomatch h⟩, ?_, ?_⟩
 ·rintro i d ds hd hl ⟨hl2, os, rfl, ho⟩
  refine fun nb σ H v Q W hv z => ht i d hd nb σ H v Q W hv fun σ' ρ' ⟨w, q⟩ W' => z σ' ρ' ⟨w, Tv.noTest (iteT (q.mono fun f e ⟨r, ee, hr⟩ => ⟨fun z => (by cases z), ?_, os ++ [r], ?_, fun x hx => ?_⟩))⟩ W'
  ·rw [zq39x, zq54x, hl2]
  ·rw [ee]; simp
  ·rcases zq53x.mp hx with h | h
   ·exact ho x h
   ·rw [zq1x.mp h]; exact hr
 ·rintro ds hl ⟨hl2, os, rfl, ho⟩
  rw [scAll_ints, zq80x]
  exact h os (by rw [zq0x] at hl2; exact hl2) ho
theorem CompD.rel {α : Type} (φ : α -> PyData) (fl : Bool) (P : Nat -> α -> Prop) (ht : ∀ i d, it i d -> Gv G ρc gt fi d fun ρ1 => Wk ρc ρ1 /\ Ev G ρ1 te fun f e => (fl = true -> f = true) /\ ∃ r : α, e = φ r /\ P i r)
  (h : ∀ os : List α, os.length = n -> (∀ (i : Nat) x, os[i]? = some x -> P i x) -> Θ (fl || scAll (os.map φ)) (os.map φ)) : CompD G ρc n it fi gt tNoTest te Θ := by
 refine ⟨fl, fun i ds => ds.length = i /\ ∃ os : List α, ds = os.map φ /\ ∀ (i : Nat) x, os[i]? = some x -> P i x, ⟨rfl, [], rfl, fun j x e => by simp at e⟩, ?_, ?_⟩
 ·rintro i d ds hd hl ⟨hl2, os, rfl, ho⟩
  refine fun nb σ H v Q W hv z => ht i d hd nb σ H v Q W hv fun σ' ρ' ⟨w, q⟩ W' => z σ' ρ' ⟨w, Tv.noTest (iteT (q.mono fun f e ⟨hf, r, ee, hr⟩ => ⟨hf, ?_, os ++ [r], ?_, fun j x hj => ?_⟩))⟩ W'
  ·rw [zq39x, zq54x, hl2]
  ·rw [ee]; simp
  ·rw [zq0x] at hl2
   rcases Nat.lt_trichotomy j os.length with h | h | h
   ·exact ho j x (by rwa [zq19x h] at hj)
   ·subst h
    simp at hj
    subst hj
    rw [hl2]; exact hr
   ·rw [zq105x (by rw [zq39x, zq54x]; omega)] at hj
    cases hj
 ·rintro ds hl ⟨hl2, os, rfl, ho⟩
  exact h os (by rw [zq0x] at hl2; exact hl2) ho
theorem Sv.asgNil (h : ∀ a, E.nx (ρ.set i (.own a true []))) : Sv G ρ (tAsg (tLst tNil) (gName i)) E := Sv.asgN (EvN.lst (Av.nil ⟨by decide, fun a => h a⟩))
end
def rIsB : R2 := fun x y H Q => ∃ a b : Bool, x = .bl a /\ y = .bl b /\ Q (.bl (a == b)) H
theorem Ev.isB {G : Gx} {ρ : Rh} {ta : TE} {b : Bool} {Φ : Pd} (h : Ev G ρ ta fun _ x => ∃ a, x = .bool a /\ Φ true (.bool (a == b))) : Ev G ρ (tOp rIsB ta (tC (.bl b))) Φ := fun nb σ H Q W z =>
 h nb σ H _ W fun f v H1 d ⟨a, e, q⟩ s1 hv => by
  subst e
  unfold IsD at hv
  subst hv
  exact ⟨a, b, rfl, rfl, z true _ H1 _ q s1 (.bl _)⟩
theorem pt_truthK {X : Cx} {K : PySem.W.Frag} {a : Expr} {ta : TE} (hK : X.K = K) (ha : PE X a ta) (he : ∀ whole, isTrue a X.env whole = (do let v <- whole; standAt a.pos; holding [v] (truthy v))) : PT X a (tTruth K ta) := by
 subst hK
 exact pt_truth ha he
theorem pg_tupM {X : Cx} {K : PySem.W.Frag} {es : List Expr} {k : Nat} {t : TGs} {n : Nat} {pos : Pos} (hK : X.K = K) (hc : X.calm = true) (h : PGs X es t) (hn : (assignEach es X.env).length = n := by rfl) (hst : (assignEach es X.env).findIdx? (·.1) = none := by rfl) : PG X (.Tuple es k pos) (gTup K n t) := by
 subst hK
 exact pg_tup hc h hn hst
theorem shaped_checks (cs : List Prs) : PyData.depthAll (cs.map prsD) <= 2 /\ PyData.canLayAll0 (cs.map prsD) = true := by
  induction cs with
  | nil => simp [PyData.depthAll, PyData.canLayAll0]
  | cons a r ih =>
    have h := shaped_pairs a
    simp [PyData.depthAll, PyData.depth, PyData.canLayAll0, PyData.canLay0, ih.2, h.2.2]
    have := ih.1
    have := h.2.1
    omega
theorem Sv.conseq {G : Gx} {ρ : Rh} {s : TS} {E : DE} (I : Rh -> Prop) (h : Sv G ρ s { E with nx := I }) (hI : ∀ ρ', I ρ' -> E.nx ρ') : Sv G ρ s E := fun nb σ H D W K => h nb σ H D W ⟨fun nb ρ σ H q W => K.nx nb ρ σ H (hI ρ q) W, K.bk, K.ct, K.rt, K.rw⟩
theorem pick {L : List Int} {k : Int} (h0 : 0 <= k) (h1 : k < L.length) (P : Int -> Prop) (hP : ∀ x ∈ L, P x) : ∃ x, atI (L.map PyData.int) k = some (.int x) /\ P x := by
 have hL : k.toNat < L.length := by omega
 exact ⟨L[k.toNat], atI_some h0 (by rw [zq16x, zq21x hL]; rfl), hP _ (zq56x hL)⟩
end L2
set_option maxRecDepth 100000
set_option maxHeartbeats 4000000
set_option maxRecDepth 100000
set_option maxHeartbeats 4000000
set_option maxRecDepth 100000
set_option maxHeartbeats 4000000
namespace L2
open PySem PySem.Spec PyProof.Rows
def tRev (K : PySem.W.Frag) (te : TE) (ts : TO) : TE := fun σ H Q => te σ H fun x H1 => ts σ H1 fun k H2 => k = some (-1) /\ ∃ a xs, x = .ref a /\ SqL K H2 a xs /\ ∀ p, H2 p = none -> Q (.ref p) (upd H2 p (.lst xs.reverse))
theorem IsDs.rev {nb : Addr -> Prop} {H : Hp} : ∀ {ds : List PyData} {xs : List V}, IsDs nb H ds xs -> IsDs nb H ds.reverse xs.reverse
  | [], xs, h => by unfold IsDs at h; subst h; exact .nil
  | d :: ds, xs, h => by
    unfold IsDs at h
    obtain ⟨y, ys, e, h1, h2⟩ := h
    subst e
    rw [List.reverse_cons, List.reverse_cons]
    exact IsDs.append (IsDs.rev h2) (.cons h1 .nil)
section
variable {G : Gx} {ρ : Rh} {Φ : Pd} {ta tb te : TE} {K : PySem.W.Frag}
theorem EvN.rev {ts : TO} {Θ : Bool -> List PyData -> Prop} (h : Ev G ρ te fun f x => ∃ ds, x = .list ds /\ Ov G ρ ts fun o => o = some (-1) /\ Θ (f || scAll ds.reverse) ds.reverse) : EvN G ρ (tRev K te ts) Θ := fun nb σ H Q W z =>
 h nb σ H _ W fun f v H1 d ⟨ds, e, q⟩ s1 hv => q nb σ H1 _ (W.step s1) fun o H2 ⟨eo, q2⟩ s2 => by
  subst e
  obtain ⟨a, xs, rfl, n, hx, hd⟩ := (hv.keep s2.butS).ofL
  exact ⟨eo, a, xs, rfl, .of hx, fun p hp => EvN.fin W (s1.trans s2) hp hd.rev q2 z⟩
theorem Ev.rev {ts : TO} (h : Ev G ρ te fun f x => ∃ ds, x = .list ds /\ Ov G ρ ts fun o => o = some (-1) /\ Φ (f || scAll ds.reverse) (.list ds.reverse)) : Ev G ρ (tRev K te ts) Φ := (EvN.rev (Θ := fun f ds => Φ f (.list ds)) h).ev
theorem Ev.inI {ng : Bool} (h : Ev G ρ ta fun _ x => ∃ k : Int, x = .int k /\ Ev G ρ tb fun _ y => ∃ ns : List Int, y = .list (ns.map .int) /\ Φ true (.bool (decide (k ∈ ns) != ng))) : Ev G ρ (tOp (rIn K ng) ta tb) Φ := fun nb σ H Q W z =>
 h nb σ H _ W fun f v H1 d ⟨k, e, q⟩ s1 hv => q nb σ H1 _ (W.step s1) fun g u H2 d2 ⟨ns, e2, p⟩ s2 hu => by
  subst e e2
  have hk := hv.ofI
  subst hk
  obtain ⟨a, xs, rfl, na, hx, hd⟩ := hu.ofL
  have ex := isDs_ints_eq hd
  subst ex
  refine ⟨a, ns.map V.int, rfl, .inl (.of hx), rfl, ?_, ?_⟩
  ·rw [zq73x]
   intro x hx
   obtain ⟨o, _, rfl⟩ := zq41x.mp hx
   rfl
  ·have e : inV (V.int k) (ns.map V.int) = decide (k ∈ ns) := by
    unfold inV
    rw [List.any_map, zq70x, zq127x, decide_eq_true_eq]
    constructor
    ·rintro ⟨o, m, h⟩
     have : o = k := eq_of_beq h
     exact this ▸ m
    ·intro m
     exact ⟨k, m, beq_self_eq_true k⟩
   have e2 : (if ng = true then !inV (V.int k) (ns.map V.int) else inV (V.int k) (ns.map V.int)) = (decide (k ∈ ns) != ng) := by
    rw [e]
    cases ng <;> simp
   rw [e2]
   exact z true _ H2 _ p (s1.trans s2) (.bl _)
end
end L2
set_option maxRecDepth 100000
set_option maxHeartbeats 1000000
namespace PC
def PrimeN (n : Nat) : Prop := 2 <= n /\ ∀ d, d ∣ n -> d = 1 \/ d = n
def tr (q : Nat) : Nat -> Nat -> Bool
 | 0, _ => false
 | f + 1, d => if q < d * d then true else if q % d = 0 then false else tr q f (d + 1)
theorem tr_no {q : Nat} : ∀ {f d : Nat}, tr q f d = true -> ∀ e, d <= e -> e * e <= q -> q % e ≠ 0
  | 0, _, h => by simp [tr] at h
  | f + 1, d, h => by
    intro e hde hee
    unfold tr at h
    by_cases h1 : q < d * d
    · have := Nat.mul_le_mul hde hde
      omega
    · rw [if_neg h1] at h
      by_cases h2 : q % d = 0
      · rw [if_pos h2] at h; cases h
      · rw [if_neg h2] at h
        by_cases h3 : d = e
        · rw [<- h3]; exact h2
        · exact tr_no h e (by omega) hee
theorem prime_of_no {q : Nat} (h2 : 2 <= q) (h : ∀ e, 2 <= e -> e * e <= q -> q % e ≠ 0) : PrimeN q := by
 refine ⟨h2, fun d hd => ?_⟩
 obtain ⟨e, he⟩ := hd
 by_cases d1 : d = 1
 ·exact .inl d1
 by_cases e1 : e = 1
 ·right; rw [he, e1, zq129x]
 exfalso
 have d0 : d ≠ 0 := fun z => by rw [z, zq130x] at he; omega
 have e0 : e ≠ 0 := fun z => by rw [z, Nat.mul_zero] at he; omega
 by_cases hle : d <= e
 ·refine h d (by omega) (by rw [he]; exact Nat.mul_le_mul_left d hle) ?_
  rw [he]; exact Nat.mul_mod_right d e
 ·refine h e (by omega) (by rw [he]; exact Nat.mul_le_mul_right e (by omega)) ?_
  rw [he]; exact Nat.mul_mod_left d e
theorem prime_tr (f : Nat) {q : Nat} (h2 : 2 <= q) (h : tr q f 2 = true) : PrimeN q := prime_of_no h2 (tr_no h)
def pw (N : Nat) : Nat -> Nat -> Nat -> Nat -> Nat
 | 0, _, _, acc => acc
 | f + 1, e, g, acc => pw N f (e / 2) (g * g % N) (if e % 2 = 1 then acc * g % N else acc)
theorem pw_eq {N : Nat} : ∀ (f e g acc : Nat), e < 2 ^ f -> pw N f e g acc % N = acc * g ^ e % N
  | 0, e, g, acc, h => by
    have : e = 0 := by simp at h; exact h
    subst this
    simp [pw]
  | f + 1, e, g, acc, h => by
    have h2 : e / 2 < 2 ^ f := by rw [Nat.pow_succ] at h; omega
    unfold pw
    rw [pw_eq f _ _ _ h2]
    have e2 : g ^ e = (g * g) ^ (e / 2) * g ^ (e % 2) := by
      conv => lhs; rw [<- zq131x e 2]
      rw [zq106x, Nat.pow_mul, Nat.pow_two]
    have m1 : (g * g % N) ^ (e / 2) % N = (g * g) ^ (e / 2) % N := (Nat.pow_mod _ _ _).symm
    rw [e2]
    by_cases ho : e % 2 = 1
    · rw [if_pos ho, ho, Nat.pow_one, zq52x, m1, zq132x, <- zq52x]
      congr 1
      rw [zq89x, zq107x g]
    · have ho' : e % 2 = 0 := by omega
      rw [if_neg ho, ho', Nat.pow_zero, zq129x, zq52x, m1, <- zq52x]
theorem exists_min {P : Nat -> Prop} : ∀ n, P n -> ∃ m, P m /\ ∀ k, k < m -> ¬ P k := by
  intro n
  induction n using Nat.strongRecOn with
  | _ n ih =>
    intro h
    by_cases hk : ∃ k, k < n /\ P k
    · obtain ⟨k, hk1, hk2⟩ := hk
      exact ih k hk1 hk2
    · exact ⟨n, h, fun k hk1 hk2 => hk ⟨k, hk1, hk2⟩⟩
theorem php : ∀ (n : Nat) (f : Nat -> Nat), (∀ i, i < n + 1 -> f i < n) -> ∃ i j, i < j /\ j < n + 1 /\ f i = f j
  | 0, f, h => absurd (h 0 (by omega)) (by omega)
  | n + 1, f, h => by
    by_cases he : ∃ i, i < n + 1 /\ f i = f (n + 1)
    · obtain ⟨i, h1, h2⟩ := he
      exact ⟨i, n + 1, h1, by omega, h2⟩
    · have hne : ∀ i, i < n + 1 -> f i ≠ f (n + 1) := fun i hi e => he ⟨i, hi, e⟩
      have hlast := h (n + 1) (by omega)
      obtain ⟨i, j, h1, h2, h3⟩ := php n (fun i => if f i = n then f (n + 1) else f i) (fun i hi => by
        have g1 := h i (by omega)
        have g2 := hne i hi
        by_cases c : f i = n
        · simp only [c, if_true]
          have : f (n + 1) ≠ n := fun z => g2 (c.trans z.symm)
          omega
        · simp only [c, if_false]
          omega)
      refine ⟨i, j, h1, by omega, ?_⟩
      have gi := hne i (by omega)
      have gj := hne j (by omega)
      by_cases ci : f i = n
      · by_cases cj : f j = n
        · rw [ci, cj]
        · simp only [ci, cj, if_true, if_false] at h3
          exact absurd h3.symm gj
      · by_cases cj : f j = n
        · simp only [ci, cj, if_true, if_false] at h3
          exact absurd h3 gi
        · simpa only [ci, cj, if_false] using h3
def lcms : List (Nat × Nat) -> Nat
 | [] => 1
 | qe :: r => Nat.lcm (qe.1 ^ qe.2) (lcms r)
theorem lcms_dvd {o : Nat} : ∀ {fs : List (Nat × Nat)}, (∀ qe ∈ fs, qe.1 ^ qe.2 ∣ o) -> lcms fs ∣ o
 | [], _ => ⟨o, by simp [lcms]⟩
 | qe :: r, h => Nat.lcm_dvd (h qe zq20x) (lcms_dvd fun x hx => h x (zq12x _ hx))
theorem coprime_of {q m : Nat} (hq : PrimeN q) (h : ¬ q ∣ m) : Nat.Coprime q m := by
 rcases hq.2 _ (Nat.gcd_dvd_left q m) with e | e
 ·exact e
 ·exact absurd (e ▸ Nat.gcd_dvd_right q m) h
theorem coprime_pow {q m : Nat} (h : Nat.Coprime q m) (e : Nat) : Nat.Coprime (q ^ e) m := Nat.Coprime.pow_left e h
theorem mm3 (a b c d : Nat) : (a % d) * (b % d) % d * (c % d) % d = a * b * c % d := by
 rw [<- zq52x a b, <- zq52x (a * b) c]
theorem order_big {N g d : Nat} {fs : List (Nat × Nat)} (hN : 2 <= N) (hd : d ∣ N) (d1 : 1 < d) (h1 : g ^ (N - 1) % N = 1 % N)
  (hq : ∀ qe ∈ fs, PrimeN qe.1 /\ qe.1 ^ qe.2 ∣ N - 1 /\ Nat.gcd (g ^ ((N - 1) / qe.1) % N + (N - 1)) N = 1) : lcms fs < d := by
 have down : ∀ {a b : Nat}, a % N = b % N -> a % d = b % d := fun {a b} e => by
  rw [<- zq133x a hd, e, zq133x b hd]
 have one : 1 % d = 1 := Nat.mod_eq_of_lt d1
 have f1 : g ^ (N - 1) % d = 1 := by rw [down h1, one]
 obtain ⟨o, ⟨o0, o1⟩, omin⟩ := exists_min (P := fun k => 0 < k /\ g ^ k % d = 1) (N - 1) ⟨by omega, f1⟩
 have per : ∀ q r : Nat, g ^ (o * q + r) % d = g ^ r % d := fun q r => by
  rw [zq106x, Nat.pow_mul, zq52x, Nat.pow_mod, o1, Nat.one_pow, one, zq134x, zq132x]
 have odvd : ∀ k, g ^ k % d = 1 -> o ∣ k := fun k hk => by
  have e := zq131x k o
  rw [<- e, per] at hk
  by_cases h0 : k % o = 0
  ·exact zq156x h0
  ·exact absurd ⟨by omega, hk⟩ (omin (k % o) (zq104x _ o0))
 have od := odvd _ f1
 have parts : lcms fs ∣ o := lcms_dvd fun qe hqe => by
  obtain ⟨pq, ⟨c, hc⟩, gq⟩ := hq qe hqe
  obtain ⟨m, hm⟩ := od
  by_cases hqm : qe.1 ∣ m
  ·exfalso
   obtain ⟨m', hm'⟩ := hqm
   have q0 : 0 < qe.1 := by have := pq.1; omega
   have ek : (N - 1) / qe.1 = o * m' := by
    rw [hm, hm', show o * (qe.1 * m') = qe.1 * (o * m') by rw [<- zq89x, zq107x o, zq89x], Nat.mul_div_cancel_left _ q0]
   have e1 : g ^ ((N - 1) / qe.1) % d = 1 := by
    have := per m' 0
    rw [Nat.add_zero, Nat.pow_zero, one] at this
    rw [ek]; exact this
   have e2 : d ∣ g ^ ((N - 1) / qe.1) % N + (N - 1) := by
    have e3 : (g ^ ((N - 1) / qe.1) % N) % d = 1 := by rw [zq133x _ hd]; exact e1
    obtain ⟨k, hk⟩ := hd
    have e4 := zq131x (g ^ ((N - 1) / qe.1) % N) d
    rw [e3] at e4
    refine ⟨(g ^ ((N - 1) / qe.1) % N) / d + k, ?_⟩
    rw [Nat.mul_add, <- hk]
    omega
   have e5 := Nat.dvd_gcd e2 hd
   rw [gq] at e5
   have := zq135x (by omega) e5
   omega
  ·have cp := coprime_pow (coprime_of pq hqm) qe.2
   have hdv : qe.1 ^ qe.2 ∣ o * m := ⟨c, by rw [<- hm]; exact hc⟩
   exact cp.dvd_of_dvd_mul_right hdv
 have olt : o < d := by
  refine Nat.lt_of_not_le fun hle => ?_
  have unit : ∀ i, i <= N - 1 -> (g ^ i % d) * (g ^ (N - 1 - i) % d) % d = 1 := fun i hi => by
   rw [<- zq52x, <- zq106x, show i + (N - 1 - i) = N - 1 by omega]; exact f1
  have ole : o <= N - 1 := zq135x (by omega) od
  have pos : ∀ i, i < o -> 0 < g ^ i % d := fun i hi => by
   refine Nat.pos_of_ne_zero fun z => ?_
   have := unit i (by omega)
   rw [z, zq130x, Nat.zero_mod] at this
   cases this
  obtain ⟨i, j, h1, h2, h3⟩ := php (d - 1) (fun i => g ^ i % d - 1) (fun i hi => by
   have a1 := pos i (by omega)
   have a2 := zq104x (g ^ i) (show d > 0 by omega)
   omega)
  have pi := pos i (by omega)
  have pj := pos j (by omega)
  have e : g ^ i % d = g ^ j % d := by omega
  have ej : g ^ j = g ^ i * g ^ (j - i) := by rw [<- zq106x, show i + (j - i) = j by omega]
  have u := unit i (by omega)
  have k1 : g ^ (j - i) % d = 1 := by
   have w : (g ^ i % d) * (g ^ (N - 1 - i) % d) % d * (g ^ (j - i) % d) % d = (g ^ j % d) * (g ^ (N - 1 - i) % d) % d := by
    rw [mm3, <- zq52x (g ^ j), ej]
    congr 1
    rw [zq89x, zq89x, zq107x (g ^ (N - 1 - i))]
   rw [u, zq134x, zq132x, <- e, u] at w
   exact w
  exact omin (j - i) (by omega) ⟨by omega, k1⟩
 exact zq119x (zq135x o0 parts) olt
theorem pock {N g : Nat} (fs : List (Nat × Nat)) (hN : 2 <= N) (h1 : g ^ (N - 1) % N = 1 % N)
  (hq : ∀ qe ∈ fs, PrimeN qe.1 /\ qe.1 ^ qe.2 ∣ N - 1 /\ Nat.gcd (g ^ ((N - 1) / qe.1) % N + (N - 1)) N = 1) (hF : N < (lcms fs + 1) * (lcms fs + 1)) : PrimeN N := by
 refine ⟨hN, fun d hd => ?_⟩
 obtain ⟨e, he⟩ := id hd
 by_cases d1 : d = 1
 ·exact .inl d1
 by_cases e1 : e = 1
 ·right; rw [he, e1, zq129x]
 exfalso
 have d0 : d ≠ 0 := fun z => by rw [z, zq130x] at he; omega
 have e0 : e ≠ 0 := fun z => by rw [z, Nat.mul_zero] at he; omega
 have b1 := order_big hN hd (by omega) h1 hq
 have b2 := order_big hN ⟨d, by rw [he, zq107x]⟩ (show 1 < e by omega) h1 hq
 have := Nat.mul_le_mul (show lcms fs + 1 <= d from b1) (show lcms fs + 1 <= e from b2)
 omega
def chk (N g : Nat) (fs : List (Nat × Nat)) : Bool :=
 decide (2 <= N) && decide (N < 2 ^ 140) && (pw N 140 (N - 1) g 1 % N == 1) && fs.all (fun qe => ((N - 1) % qe.1 ^ qe.2 == 0) && (Nat.gcd (pw N 140 ((N - 1) / qe.1) g 1 % N + (N - 1)) N == 1)) && decide (N < (lcms fs + 1) * (lcms fs + 1))
theorem by_chk {N : Nat} (g : Nat) (fs : List (Nat × Nat)) (hp : ∀ qe ∈ fs, PrimeN qe.1) (h : chk N g fs = true) : PrimeN N := by
 unfold chk at h
 simp only [zq25x, decide_eq_true_eq, beq_iff_eq, zq73x] at h
 obtain ⟨⟨⟨⟨h1, h2⟩, h3⟩, h4⟩, h5⟩ := h
 have P : ∀ e, e <= N - 1 -> pw N 140 e g 1 % N = g ^ e % N := fun e he => by
  rw [pw_eq 140 e g 1 (by omega), zq134x]
 refine pock (g := g) fs h1 (by rw [<- P _ (zq3x _), h3, Nat.mod_eq_of_lt (by omega)]) (fun qe hqe => ?_) h5
 obtain ⟨g1, g2⟩ := h4 qe hqe
 refine ⟨hp qe hqe, zq156x g1, ?_⟩
 rw [<- P _ (Nat.div_le_self _ _)]
 exact g2
end PC
set_option maxRecDepth 100000
set_option maxHeartbeats 1000000
namespace PC
theorem pr_2 : PrimeN 2 := prime_tr 4 (by decide) (by decide +kernel)
theorem pr_3 : PrimeN 3 := prime_tr 4 (by decide) (by decide +kernel)
theorem pr_5 : PrimeN 5 := prime_tr 5 (by decide) (by decide +kernel)
theorem pr_7 : PrimeN 7 := prime_tr 5 (by decide) (by decide +kernel)
theorem pr_11 : PrimeN 11 := prime_tr 6 (by decide) (by decide +kernel)
theorem pr_101 : PrimeN 101 := prime_tr 13 (by decide) (by decide +kernel)
theorem pr_10007 : PrimeN 10007 := prime_tr 103 (by decide) (by decide +kernel)
theorem pr_65537 : PrimeN 65537 := prime_tr 259 (by decide) (by decide +kernel)
theorem pr_1000003 : PrimeN 1000003 := prime_tr 1003 (by decide) (by decide +kernel)
theorem pr_17 : PrimeN 17 := prime_tr 7 (by decide) (by decide +kernel)
theorem pr_998244353 : PrimeN 998244353 := by_chk 3 [(17, 1), (7, 1), (2, 23)] (fun qe h => by
 simp only [zq2x, zq10x, or_false] at h
 rcases h with rfl | rfl | rfl
 ·exact pr_17
 ·exact pr_7
 ·exact pr_2) (by decide +kernel)
theorem pr_148721 : PrimeN 148721 := prime_tr 388 (by decide) (by decide +kernel)
theorem pr_500000003 : PrimeN 500000003 := by_chk 2 [(148721, 1)] (fun qe h => by
 simp only [zq2x, zq10x, or_false] at h
 subst h; exact pr_148721) (by decide +kernel)
theorem pr_1000000007 : PrimeN 1000000007 := by_chk 2 [(500000003, 1)] (fun qe h => by
 simp only [zq2x, zq10x, or_false] at h
 subst h; exact pr_500000003) (by decide +kernel)
theorem pr_331 : PrimeN 331 := prime_tr 21 (by decide) (by decide +kernel)
theorem pr_151 : PrimeN 151 := prime_tr 15 (by decide) (by decide +kernel)
theorem pr_2147483647 : PrimeN 2147483647 := by_chk 3 [(331, 1), (151, 1)] (fun qe h => by
 simp only [zq2x, zq10x, or_false] at h
 rcases h with rfl | rfl
 ·exact pr_331
 ·exact pr_151) (by decide +kernel)
theorem pr_250049 : PrimeN 250049 := prime_tr 503 (by decide) (by decide +kernel)
theorem pr_26005097 : PrimeN 26005097 := by_chk 2 [(250049, 1)] (fun qe h => by
 simp only [zq2x, zq10x, or_false] at h
 subst h; exact pr_250049) (by decide +kernel)
theorem pr_1000000000039 : PrimeN 1000000000039 := by_chk 2 [(26005097, 1)] (fun qe h => by
 simp only [zq2x, zq10x, or_false] at h
 subst h; exact pr_26005097) (by decide +kernel)
theorem pr_234931 : PrimeN 234931 := prime_tr 487 (by decide) (by decide +kernel)
theorem pr_8740842787 : PrimeN 8740842787 := by_chk 2 [(234931, 1)] (fun qe h => by
 simp only [zq2x, zq10x, or_false] at h
 subst h; exact pr_234931) (by decide +kernel)
theorem pr_52445056723 : PrimeN 52445056723 := by_chk 2 [(8740842787, 1)] (fun qe h => by
 simp only [zq2x, zq10x, or_false] at h
 subst h; exact pr_8740842787) (by decide +kernel)
theorem pr_1000000000000000003 : PrimeN 1000000000000000003 := by_chk 2 [(52445056723, 1)] (fun qe h => by
 simp only [zq2x, zq10x, or_false] at h
 subst h; exact pr_52445056723) (by decide +kernel)
theorem pr_15331 : PrimeN 15331 := prime_tr 126 (by decide) (by decide +kernel)
theorem pr_2131 : PrimeN 2131 := prime_tr 49 (by decide) (by decide +kernel)
theorem pr_5594472617641 : PrimeN 5594472617641 := by_chk 2 [(15331, 1), (2131, 1)] (fun qe h => by
 simp only [zq2x, zq10x, or_false] at h
 rcases h with rfl | rfl
 ·exact pr_15331
 ·exact pr_2131) (by decide +kernel)
theorem pr_18446744073709551557 : PrimeN 18446744073709551557 := by_chk 2 [(5594472617641, 1)] (fun qe h => by
 simp only [zq2x, zq10x, or_false] at h
 subst h; exact pr_5594472617641) (by decide +kernel)
theorem pr_1321 : PrimeN 1321 := prime_tr 39 (by decide) (by decide +kernel)
theorem pr_61 : PrimeN 61 := prime_tr 10 (by decide) (by decide +kernel)
theorem pr_2305843009213693951 : PrimeN 2305843009213693951 := by_chk 3 [(1321, 1), (331, 1), (151, 1), (61, 1)] (fun qe h => by
 simp only [zq2x, zq10x, or_false] at h
 rcases h with rfl | rfl | rfl | rfl
 ·exact pr_1321
 ·exact pr_331
 ·exact pr_151
 ·exact pr_61) (by decide +kernel)
theorem pr_8707 : PrimeN 8707 := prime_tr 96 (by decide) (by decide +kernel)
theorem pr_1913 : PrimeN 1913 := prime_tr 46 (by decide) (by decide +kernel)
theorem pr_2931542417 : PrimeN 2931542417 := by_chk 3 [(8707, 1), (1913, 1)] (fun qe h => by
 simp only [zq2x, zq10x, or_false] at h
 rcases h with rfl | rfl
 ·exact pr_8707
 ·exact pr_1913) (by decide +kernel)
theorem pr_2113 : PrimeN 2113 := prime_tr 48 (by decide) (by decide +kernel)
theorem pr_683 : PrimeN 683 := prime_tr 29 (by decide) (by decide +kernel)
theorem pr_618970019642690137449562111 : PrimeN 618970019642690137449562111 := by_chk 3 [(2931542417, 1), (2113, 1), (683, 1)] (fun qe h => by
 simp only [zq2x, zq10x, or_false] at h
 rcases h with rfl | rfl | rfl
 ·exact pr_2931542417
 ·exact pr_2113
 ·exact pr_683) (by decide +kernel)
theorem pr_1097 : PrimeN 1097 := prime_tr 36 (by decide) (by decide +kernel)
theorem pr_131 : PrimeN 131 := prime_tr 14 (by decide) (by decide +kernel)
theorem pr_67254877 : PrimeN 67254877 := by_chk 2 [(1097, 1), (131, 1)] (fun qe h => by
 simp only [zq2x, zq10x, or_false] at h
 rcases h with rfl | rfl
 ·exact pr_1097
 ·exact pr_131) (by decide +kernel)
theorem pr_28059810762433 : PrimeN 28059810762433 := by_chk 3 [(67254877, 1)] (fun qe h => by
 simp only [zq2x, zq10x, or_false] at h
 subst h; exact pr_67254877) (by decide +kernel)
theorem pr_53 : PrimeN 53 := prime_tr 10 (by decide) (by decide +kernel)
theorem pr_37 : PrimeN 37 := prime_tr 9 (by decide) (by decide +kernel)
theorem pr_13 : PrimeN 13 := prime_tr 6 (by decide) (by decide +kernel)
theorem pr_20394401 : PrimeN 20394401 := by_chk 3 [(53, 1), (37, 1), (13, 1)] (fun qe h => by
 simp only [zq2x, zq10x, or_false] at h
 rcases h with rfl | rfl | rfl
 ·exact pr_53
 ·exact pr_37
 ·exact pr_13) (by decide +kernel)
theorem pr_162259276829213363391578010288127 : PrimeN 162259276829213363391578010288127 := by_chk 3 [(28059810762433, 1), (20394401, 1)] (fun qe h => by
 simp only [zq2x, zq10x, or_false] at h
 rcases h with rfl | rfl
 ·exact pr_28059810762433
 ·exact pr_20394401) (by decide +kernel)
theorem pr_699053 : PrimeN 699053 := prime_tr 839 (by decide) (by decide +kernel)
theorem pr_77158673929 : PrimeN 77158673929 := by_chk 3 [(699053, 1)] (fun qe h => by
 simp only [zq2x, zq10x, or_false] at h
 subst h; exact pr_699053) (by decide +kernel)
theorem pr_649657 : PrimeN 649657 := prime_tr 809 (by decide) (by decide +kernel)
theorem pr_92737 : PrimeN 92737 := prime_tr 307 (by decide) (by decide +kernel)
theorem pr_170141183460469231731687303715884105727 : PrimeN 170141183460469231731687303715884105727 := by_chk 3 [(77158673929, 1), (649657, 1), (92737, 1)] (fun qe h => by
 simp only [zq2x, zq10x, or_false] at h
 rcases h with rfl | rfl | rfl
 ·exact pr_77158673929
 ·exact pr_649657
 ·exact pr_92737) (by decide +kernel)
theorem pr_7963 : PrimeN 7963 := prime_tr 92 (by decide) (by decide +kernel)
theorem pr_3011 : PrimeN 3011 := prime_tr 57 (by decide) (by decide +kernel)
theorem pr_575438233 : PrimeN 575438233 := by_chk 2 [(7963, 1), (3011, 1)] (fun qe h => by
 simp only [zq2x, zq10x, or_false] at h
 rcases h with rfl | rfl
 ·exact pr_7963
 ·exact pr_3011) (by decide +kernel)
theorem pr_52316542391429 : PrimeN 52316542391429 := by_chk 2 [(575438233, 1)] (fun qe h => by
 simp only [zq2x, zq10x, or_false] at h
 subst h; exact pr_575438233) (by decide +kernel)
theorem pr_104633084782859 : PrimeN 104633084782859 := by_chk 2 [(52316542391429, 1)] (fun qe h => by
 simp only [zq2x, zq10x, or_false] at h
 subst h; exact pr_52316542391429) (by decide +kernel)
theorem pr_179 : PrimeN 179 := prime_tr 16 (by decide) (by decide +kernel)
theorem pr_31 : PrimeN 31 := prime_tr 8 (by decide) (by decide +kernel)
theorem pr_7935071 : PrimeN 7935071 := by_chk 2 [(179, 1), (31, 1)] (fun qe h => by
 simp only [zq2x, zq10x, or_false] at h
 rcases h with rfl | rfl
 ·exact pr_179
 ·exact pr_31) (by decide +kernel)
theorem pr_15870143 : PrimeN 15870143 := by_chk 2 [(7935071, 1)] (fun qe h => by
 simp only [zq2x, zq10x, or_false] at h
 subst h; exact pr_7935071) (by decide +kernel)
theorem pr_401321030361983486780957614729 : PrimeN 401321030361983486780957614729 := by_chk 2 [(104633084782859, 1), (15870143, 1)] (fun qe h => by
 simp only [zq2x, zq10x, or_false] at h
 rcases h with rfl | rfl
 ·exact pr_104633084782859
 ·exact pr_15870143) (by decide +kernel)
theorem pr_1000000000000000000000000000000000000003 : PrimeN 1000000000000000000000000000000000000003 := by_chk 2 [(401321030361983486780957614729, 1)] (fun qe h => by
 simp only [zq2x, zq10x, or_false] at h
 subst h; exact pr_401321030361983486780957614729) (by decide +kernel)
theorem pr_25733 : PrimeN 25733 := prime_tr 163 (by decide) (by decide +kernel)
theorem pr_1151 : PrimeN 1151 := prime_tr 36 (by decide) (by decide +kernel)
theorem pr_4916701379 : PrimeN 4916701379 := by_chk 2 [(25733, 1), (1151, 1)] (fun qe h => by
 simp only [zq2x, zq10x, or_false] at h
 rcases h with rfl | rfl
 ·exact pr_25733
 ·exact pr_1151) (by decide +kernel)
theorem pr_83 : PrimeN 83 := prime_tr 12 (by decide) (by decide +kernel)
theorem pr_23 : PrimeN 23 := prime_tr 7 (by decide) (by decide +kernel)
theorem pr_1676254721 : PrimeN 1676254721 := by_chk 5 [(83, 1), (23, 1), (7, 3)] (fun qe h => by
 simp only [zq2x, zq10x, or_false] at h
 rcases h with rfl | rfl | rfl
 ·exact pr_83
 ·exact pr_23
 ·exact pr_7) (by decide +kernel)
theorem pr_149927568276670622397029177 : PrimeN 149927568276670622397029177 := by_chk 2 [(4916701379, 1), (1676254721, 1)] (fun qe h => by
 simp only [zq2x, zq10x, or_false] at h
 rcases h with rfl | rfl
 ·exact pr_4916701379
 ·exact pr_1676254721) (by decide +kernel)
theorem pr_9999999999999999999999999999999999999983 : PrimeN 9999999999999999999999999999999999999983 := by_chk 2 [(149927568276670622397029177, 1)] (fun qe h => by
 simp only [zq2x, zq10x, or_false] at h
 subst h; exact pr_149927568276670622397029177) (by decide +kernel)
end PC
namespace L2
open PC
def PrimeZ (p : Int) : Prop := 2 <= p /\ ∀ d : Int, 0 < d -> d ∣ p -> d = 1 \/ d = p
theorem primeZ_of {n : Nat} (h : PrimeN n) : PrimeZ (n : Int) := by
 refine ⟨by have := h.1; omega, fun d d0 hd => ?_⟩
 obtain ⟨k, rfl⟩ := zq157x (Int.le_of_lt d0)
 rcases h.2 k (Int.natCast_dvd_natCast.mp hd) with e | e
 ·left; rw [e]; rfl
 ·right; rw [e]
theorem primeZ_no {p : Int} (h2 : 2 <= p) (h : NoDiv p) : PrimeZ p := by
 obtain ⟨n, rfl⟩ := zq157x (show 0 <= p by omega)
 refine primeZ_of (prime_of_no (by omega) fun e e1 e2 e3 => ?_)
 refine h (e : Int) (by omega) (by rw [<- Int.natCast_mul]; exact Int.ofNat_le.mpr e2) ?_
 have := congrArg (Nat.cast : Nat -> Int) e3
 simpa using this
theorem primeZ_list : ∀ p ∈ primeList, PrimeZ p := by
 intro p hp
 simp only [primeList, zq2x, zq10x, or_false] at hp
 rcases hp with rfl | rfl | rfl | rfl | rfl | rfl | rfl | rfl | rfl | rfl | rfl | rfl | rfl | rfl | rfl | rfl | rfl | rfl | rfl | rfl | rfl | rfl
 ·exact primeZ_of pr_2
 ·exact primeZ_of pr_3
 ·exact primeZ_of pr_5
 ·exact primeZ_of pr_7
 ·exact primeZ_of pr_2
 ·exact primeZ_of pr_11
 ·exact primeZ_of pr_101
 ·exact primeZ_of pr_10007
 ·exact primeZ_of pr_65537
 ·exact primeZ_of pr_1000003
 ·exact primeZ_of pr_998244353
 ·exact primeZ_of pr_1000000007
 ·exact primeZ_of pr_2147483647
 ·exact primeZ_of pr_1000000000039
 ·exact primeZ_of pr_1000000000000000003
 ·exact primeZ_of pr_18446744073709551557
 ·exact primeZ_of pr_2305843009213693951
 ·exact primeZ_of pr_618970019642690137449562111
 ·exact primeZ_of pr_162259276829213363391578010288127
 ·exact primeZ_of pr_170141183460469231731687303715884105727
 ·exact primeZ_of pr_1000000000000000000000000000000000000003
 ·exact primeZ_of pr_9999999999999999999999999999999999999983
end L2
set_option maxRecDepth 100000
set_option maxHeartbeats 4000000
set_option maxRecDepth 100000
set_option maxHeartbeats 4000000
namespace L2
open PySem PySem.Spec PyProof.Rows
section
variable {X : Cx} {pins : List (Addr × Obj)} {σ : List (Option V)} {H : Hp} {s : Shared} {h' : Heap}
theorem Inv.turnedLaid {t' : Nat} {e it T : Addr} {o : HO} (I : Inv X pins σ H s) (k : ∀ b u, b ≠ e -> b ≠ it -> s.heap.get? b = some u -> h'.get? b = some u) (fe : FpOk X pins H e) (fi : FpOk X pins H it) (hT : s.heap.objs.size <= T) (hTe : T ≠ e) (hTi : T ≠ it)
  (le : ∃ u, s.heap.get? e = some u) (li : ∃ u, s.heap.get? it = some u) (new : ObjOk X.prog X.w (upd H T o) h' T o) : Inv X pins σ (upd H T o) { s with heap := h', toks := t' } := by
 have hn := I.hok.fresh hT
 obtain ⟨e0, e1, e2, e3, e4, e5⟩ := fe
 obtain ⟨i0, i1, i2, i3, i4, i5⟩ := fi
 have ne : ∀ b u, H b = some u -> b ≠ e := fun b u q z => by rw [z, e0] at q; cases q
 have ni : ∀ b u, H b = some u -> b ≠ it := fun b u q z => by rw [z, i0] at q; cases q
 have nT : ∀ b u, H b = some u -> b ≠ T := fun b u q z => by rw [z, hn] at q; cases q
 refine I.step (g' := s.gens) (d' := s.drawn) (ch := [e, it]) (fun b hb => ?_) (fun b o _ _ hc q _ => k b o (fun z => hc (by simp [z])) (fun z => hc (by simp [z])) q) (fun b o _ _ hc q _ => ⟨o.slots, k b o (fun z => hc (by simp [z])) (fun z => hc (by simp [z])) q⟩)
  (fun b o hc q n => ?_) (fun b o hc q => ⟨o, k b o (fun z => hc (by simp [z])) (fun z => hc (by simp [z])) q⟩) (fun b xs q => by rw [upd_ne (nT b _ q)]; exact q) (fun b o u q => by rw [upd_ne (nT b _ q)]; exact q) (fun b ps q => ⟨#[], by rw [upd_ne (nT b _ q), q]; simp⟩) (fun m hm => ?_) (fun b u q => ?_) I.bare
 ·rcases (show b = e \/ b = it by simpa using hb) with z | z
  ·subst z; exact ⟨e3, e1, e4, e5⟩
  ·subst z; exact ⟨i3, i1, i4, i5⟩
 ·rw [upd_ne (fun z => absurd (zq17x (zq4x q) (by rw [z]; exact hT)) (zq46x _))]; exact n
 ·obtain ⟨o, es, ep, ho, r⟩ := hm
  exact ⟨o, es, ep, k _ o (zq6x e1) (zq6x i1) ho, r⟩
 ·by_cases hb : b = T
  ·subst hb; rw [upd_same] at q; cases q; exact new
  ·rw [upd_ne hb] at q
   refine (I.hok b u q).stay (fun c v hc z => ?_) (fun c z => by rw [upd_ne (nT c _ z)]; exact z) fun c xs z => by rw [upd_ne (nT c _ z)]; exact z
   rcases hc with y | y
   ·subst y; exact k _ v (ne _ u q) (ni _ u q) z
   ·exact k c v (ne c _ y) (ni c _ y) z
theorem Inv.turned2 {t' : Nat} {e it : Addr} (I : Inv X pins σ H s) (k : ∀ b u, b ≠ e -> b ≠ it -> s.heap.get? b = some u -> h'.get? b = some u) (fe : FpOk X pins H e) (fi : FpOk X pins H it) : Inv X pins σ H { s with heap := h', toks := t' } := by
 obtain ⟨e0, e1, e2, e3, e4, e5⟩ := fe
 obtain ⟨i0, i1, i2, i3, i4, i5⟩ := fi
 have ne : ∀ b u, H b = some u -> b ≠ e := fun b u q z => by rw [z, e0] at q; cases q
 have ni : ∀ b u, H b = some u -> b ≠ it := fun b u q z => by rw [z, i0] at q; cases q
 refine I.step (g' := s.gens) (d' := s.drawn) (ch := [e, it]) (fun b hb => ?_) (fun b o _ _ hc q _ => k b o (fun z => hc (by simp [z])) (fun z => hc (by simp [z])) q) (fun b o _ _ hc q _ => ⟨o.slots, k b o (fun z => hc (by simp [z])) (fun z => hc (by simp [z])) q⟩)
  (fun _ _ _ _ n => n) (fun b o hc q => ⟨o, k b o (fun z => hc (by simp [z])) (fun z => hc (by simp [z])) q⟩) (fun _ _ q => q) (fun _ _ _ q => q) (fun b ps q => ⟨#[], by rw [q]; simp⟩) (fun m hm => ?_) (fun b u q => ?_) I.bare
 ·rcases (show b = e \/ b = it by simpa using hb) with z | z
  ·subst z; exact ⟨e3, e1, e4, e5⟩
  ·subst z; exact ⟨i3, i1, i4, i5⟩
 ·obtain ⟨o, es, ep, ho, r⟩ := hm
  exact ⟨o, es, ep, k _ o (zq6x e1) (zq6x i1) ho, r⟩
 ·refine (I.hok b u q).stay (fun c v hc z => ?_) (fun c z => z) fun c xs z => z
  rcases hc with y | y
  ·subst y; exact k _ v (ne _ u q) (ni _ u q) z
  ·exact k c v (ne c _ y) (ni c _ y) z
end
def Ite (K : PySem.W.Frag) (a : Addr) : It :=
 ⟨fun i H => ∃ xs x, SqL K H a xs /\ xs[i]? = some x, fun i H x H' => ∃ p y, x = .ref p /\ H p = none /\ (∀ xs, SqL K H a xs -> xs[i]? = some y) /\ H' = upd H p (.tup [.int i, y]), fun i H => ∃ xs, SqL K H a xs /\ xs.length = i⟩
theorem turn_enum {P : Program} {w : World} {K : PySem.W.Frag} {elts : List Expr} {k : Nat} {pos : Pos} (a e it : Addr) (hei : e ≠ it) :
  Turn P w K (.Tuple elts k pos) (Ite K a) [e, it] e (fun i h => (∃ old, IsEnum h e it i old) /\ h.IsListIter it a i) where
 mem := by simp
 obj := fun i h st b hb => by
  obtain ⟨⟨old, s1⟩, ⟨o, e1, c, d⟩⟩ := st
  rcases (show b = e \/ b = it by simpa using hb) with z | z
  ·subst z
   exact ⟨_, s1, fun v z => by
    have z' : Data.fields _ = Data.cell v := z
    cases z'⟩
  ·subst z
   exact ⟨o, e1, fun v z => by rw [d] at z; cases z⟩
 keep := fun i h h' st k => ⟨let ⟨old, s1⟩ := st.1; ⟨old, k e (by simp) _ s1⟩, st.2.at fun o q => k it (by simp) o q⟩
 item := by
  intro X hP hw hK hc i pins s σ H E I hf st hg
  subst hP hw hK
  obtain ⟨xs, x, hq, hx⟩ := hg
  obtain ⟨its, rv, p, hz⟩ := I.list hq
  obtain ⟨u, hu, ru⟩ := rv.get hx
  have fe := hf e (by simp)
  have fi := hf it (by simp)
  obtain ⟨⟨old, s1⟩, s2⟩ := st
  obtain ⟨ol, l1, l2, l3⟩ := id p.isList
  obtain ⟨oi, i1, i2, i3⟩ := id s2
  have hae : a ≠ e := fun z => by
   subst z
   rw [s1] at l1; cases l1
   exact absurd l2 (by simp)
  have hai : a ≠ it := fun z => by
   subst z
   rw [i1] at l1; cases l1
   rw [i2] at l2
   exact absurd l2 (by simp)
  have W := WalksT.enumerate (prog := X.prog) (w := X.w) (I.ok.hd hc) e it a hei hae hai its.toArray
  have hi : i < its.toArray.size := by
   have := (zq18x.mp hu).1
   simpa using this
  refine W.item i s _ _ hi ⟨⟨old, s1⟩, s2, p.isList⟩ fun T vals h' tk hv hT hTup hMid kp => ⟨.ref T, rfl, ?_⟩
  refine W.go elts k pos i T _ _ _ hMid fun h'' st' kp2 => ?_
  obtain ⟨t, x', hx', hvv⟩ := hv
  have hxu : x' = u := by
   have : its.toArray[i]? = some u := by simpa using hu
   rw [hx'] at this; exact zq31x this
  subst hxu hvv
  have hTw := W.apart i T h' hMid
  obtain ⟨_, _, _, hTe, hTi⟩ := hMid
  obtain ⟨oT, t1, t2, nT, t3⟩ := hTup
  have t1' := kp2 T oT hTw t1
  refine ⟨.ref T, upd H T (.tup [.int i, x]), I.turnedLaid (fun b v h1 h2 q => kp2 b v (by simp [h1, h2]) (kp b v (by simp [h1, h2]) q)) fe fi hT hTe hTi ⟨_, s1⟩ ⟨_, i1⟩ ?_, rfl, ⟨T, x, rfl, I.hok.fresh hT, fun ys hy => by rw [I.list_inj hy hq]; exact hx, rfl⟩, ⟨st'.1, st'.2.1⟩, fun b hb => ?_⟩
  ·exact ⟨by show 2 <= sizeLine; decide, [.int i t, x'], .cons ⟨t, rfl⟩ (.cons ru .nil), oT, t1', t2, nT, t3⟩
  ·rw [upd_ne, (hf b hb).1]
   rcases (show b = e \/ b = it by simpa using hb) with z | z
   ·rw [z]; exact zq6x hTe
   ·rw [z]; exact zq6x hTi
 done := by
  intro X hP hw hK hc i pins s σ H E I hf st hg
  subst hP hw hK
  obtain ⟨xs, hq, hx⟩ := hg
  obtain ⟨its, rv, p, hz⟩ := I.list hq
  have fe := hf e (by simp)
  have fi := hf it (by simp)
  obtain ⟨⟨old, s1⟩, s2⟩ := st
  obtain ⟨ol, l1, l2, l3⟩ := id p.isList
  obtain ⟨oi, i1, i2, i3⟩ := id s2
  have hl := rv.length
  have hae : a ≠ e := fun z => by
   subst z
   rw [s1] at l1; cases l1
   exact absurd l2 (by simp)
  have hai : a ≠ it := fun z => by
   subst z
   rw [i1] at l1; cases l1
   rw [i2] at l2
   exact absurd l2 (by simp)
  have W := WalksT.enumerate (prog := X.prog) (w := X.w) (I.ok.hd hc) e it a hei hae hai its.toArray
  have hn : its.toArray.size = i := by rw [zq14x]; omega
  refine W.done s _ _ (by rw [hn]; exact ⟨⟨old, s1⟩, s2, p.isList⟩) fun h' tk kp => ⟨rfl, ?_⟩
  exact I.turned2 (fun b v h1 h2 q => kp b v (by simp [h1, h2]) q) fe fi
 self := fun _ _ _ _ _ st h => let ⟨old, s1⟩ := st.1; wpAny_pyIter_enum s1 h
def iEnum (K : PySem.W.Frag) (tl : TE) : TI := fun σ H R => tl σ H fun x H1 => ∃ a, x = .ref a /\ (∃ xs, SqL K H1 a xs) /\ R (Ite K a) H1
theorem pi_enum {X : Cx} {K : PySem.W.Frag} {elts : List Expr} {k : Nat} {tpos : Pos} {l : Expr} {tl : TE} {p pos : Pos} (hK : X.K = K) (hg : Gl X "enumerate") (hm : X.mg "enumerate" = none) (hl : PE X l tl) (hs : starEach [l] X.env = [(false, eval l X.env)] := by rfl) :
    PI X (.Tuple elts k tpos) (.Call (.Name "enumerate" p) [l] [] pos) (iEnum K tl) := by
  subst hK
  intro pins s σ H R I h
  have ha : PA X [l] (tCons tl tNil) := pa_cons hl pa_nil (by rw [hs]; rfl)
  refine Call_ (ld_blt I hg hm boot_enumerate (zq95x (thn (ha pos pins s σ H (fun vs H1 => match vs with | [x] => ∃ a, x = .ref a /\ (∃ xs, SqL X.K H1 a xs) /\ R (Ite X.K a) H1 | _ => False) I h) fun us s1 ⟨vs, H1, I1, r1, q1⟩ => ?_) hs rfl))
  cases r1 with
  | nil => exact q1.elim
  | cons r rr =>
    cases rr with
    | cons _ _ => exact q1.elim
    | nil =>
    obtain ⟨a, e2, ⟨xs, hq⟩, q⟩ := q1
    subst e2
    cases r
    obtain ⟨its, rv, p, hz⟩ := I1.list hq
    obtain ⟨m, hn, _⟩ := I1.loc
    refine enum_rows (h₀ := { objs := #[] }) (L := X.env.locals) (m := m) ⟨hn, fun b o z => ?_, zq37x _⟩ p.isList fun h' e1 e2 e3 e4 kp ne n1 n2 _ _ => ?_
    · cases z
    refine wpAny_pyIter_enum e1 ?_
    have I2 : Inv X pins σ H1 { s1 with heap := h' } := I1.kept (t' := s1.toks) kp
    refine ⟨s1.heap.objs.size + 1, [s1.heap.objs.size + 1, s1.heap.objs.size], _, _, H1, rfl, I2, turn_enum a _ _ ne, ⟨⟨_, e1⟩, e2⟩, fun b hb => ?_, q⟩
    rcases (show b = s1.heap.objs.size + 1 \/ b = s1.heap.objs.size by simpa using hb) with z | z
    · subst z; exact I1.fpOk (zq71x _) (I1.hok.fresh (zq71x _))
    · subst z; exact I1.fpOk (zq3x _) (I1.hok.fresh (zq3x _))
end L2
set_option maxRecDepth 100000
set_option maxHeartbeats 4000000
namespace L2
open PySem PySem.Spec PyProof.Rows
theorem R.comp_enum {K : PySem.W.Frag} {a : Addr} {xs : List V} {g : TG} {tc : TT} {te : TE} {acc : Addr} {Qe : Hp -> Prop} {σ : St} {H : Hp} (Pv : Nat -> St -> Hp -> Prop) (h0 : Pv 0 σ H) (hl : ∀ i σ H, i <= xs.length -> Pv i σ H -> SqL K H a xs)
  (hs : ∀ i x σ H p, xs[i]? = some x -> Pv i σ H -> H p = none -> g (.ref p) σ (upd H p (.tup [.int i, x])) fun σ2 H2 => tc σ2 H2 fun b H3 => if b = true then te σ2 H3 fun v H4 => ∃ ys, H4 acc = some (.lst ys) /\ ys.length < sizeLine /\ Pv (i + 1) σ2 (upd H4 acc (.lst (ys ++ [v]))) else Pv (i + 1) σ2 H3)
  (hd : ∀ σ H, Pv xs.length σ H -> Qe H) : CompW (Ite K a) g tc te acc Qe σ H := by
 refine ⟨fun i m σ H => m = xs.length - i /\ i <= xs.length /\ Pv i σ H, ⟨xs.length, by simp, zq37x _, h0⟩, ?_⟩
 rintro i m σ H ⟨rfl, hi, p⟩
 have q := hl i σ H hi p
 by_cases hlt : i < xs.length
 ·refine .inr ⟨⟨xs, xs[i], q, by simp [hlt]⟩, Pv (i + 1), fun σ' H' p' => ⟨xs.length - (i + 1), by omega, rfl, hlt, p'⟩, fun x H' y => ?_⟩
  obtain ⟨pp, y, e, hn, hy, e2⟩ := y
  subst e e2
  exact hs i y σ H pp (hy xs q) p hn
 ·have e : i = xs.length := by omega
  subst e
  exact .inl ⟨⟨xs, q, rfl⟩, hd σ H p⟩
section
variable {G : Gx} {ρ ρc : Rh} {te : TE} {s : TS} {gt : TG} {E : DE} {K : PySem.W.Frag} {Θ : Bool -> List PyData -> Prop} {tc : TT} {mp : List (Option Nat)}
theorem EvN.compE {t0 : TE} (hm : (mp.filterMap id).Nodup) (hρ : startR mp ρ = ρc) (h : Ev G ρ t0 fun fi x => ∃ es, x = .list es /\ es.length <= 10000 /\ ∀ v, CompD (G.hd fi (.list es) v) ρc es.length (fun i d => ∃ e, es[i]? = some e /\ d = .tuple [.int i, e]) fi gt tc te Θ) : EvN G ρ (tComp (iEnum K t0) gt tc te mp) Θ := fun nb σ H Q W z =>
 h nb σ H _ W fun fi v H1 x ⟨es, ex, hn, q⟩ s1 hv => by
  subst ex
  obtain ⟨fl, I, h0, ht, he⟩ := q v
  have W0 := (W.step s1).hd hv
  obtain ⟨a, xs, rfl, n, hx, hd⟩ := hv.ofL
  refine ⟨a, rfl, ⟨xs, .of hx⟩, fun acc hacc => ?_⟩
  have W0' : Wd (G.hd fi (.list es) (.ref a)) nb ρc (L2.startC mp σ) H1 := by rw [<- hρ]; exact W0.startC hm
  have W1 := W0'.more hacc (o := .lst [])
  have hN := NB.new s1.2 hacc
  have hno := no_own W0' hacc
  have st0 : Step G.B H1 (upd H1 acc (.lst [])) := .same s1.2 (same_new hacc)
  have hNa : NB G.B a := zq40x fun z => n (.inr (.inr (.inl z)))
  refine R.comp_enum (xs := xs) (fun i σ H => ∃ ds ys, Wd (G.hd fi (.list es) (.ref a)) (fun x => nb x \/ x = acc) ρc σ H /\ Step G.B H1 H /\ H acc = some (.lst ys) /\ IsDs (G.S (fun x => nb x \/ x = acc) fl) H ds ys /\ ds.length <= i /\ I i ds /\ H a = some (.lst xs)) ⟨[], [], W1, st0, upd_same, .nil, zq3x _, h0, st0.1 _ _ hNa hx⟩ ?_ ?_ ?_
  ·rintro i σ H hi ⟨ds, ys, W, st, _, _, _, _, ha⟩
   exact .of ha
  ·rintro i x σ H p hi ⟨ds, ys, W, st, hy, hd', hl, hI, ha⟩ hp
   obtain ⟨a', xs', e', _, h', d'⟩ := W.unhd.2.ofL
   cases e'
   rw [ha] at h'; cases h'
   have hil : i < es.length := by have := (zq18x.mp hi).1; have := d'.length; omega
   obtain ⟨x', hx', dx⟩ := d'.get (zq21x hil)
   rw [hi] at hx'; cases hx'
   have st2 : Step (G.hd fi (.list es) (.ref a)).B H (upd H p (.tup [.int i, x])) := .same W.bag (same_new hp)
   have hap : acc ≠ p := fun z => by subst z; rw [hp] at hy; cases hy
   have haa : a ≠ p := fun z => by subst z; rw [hp] at ha; cases ha
   refine comp_turn (G := G.hd fi (.list es) (.ref a)) hn hil (W.step st2) (.inr rfl) hN hno (st.trans st2) hacc (by rw [upd_ne hap]; exact hy) (hd'.keep st2.butS) hl (.tup (W.fresh hp) upd_same (.cons (.int _) (.cons (dx.keep st2.butS) .nil))) (ht i _ ds ⟨_, zq21x hil, rfl⟩ hl hI) fun σ' H' ds' xs' W' st' hx' hd' hl' hI' => ⟨ds', xs', W', st', hx', hd', hl', hI', st'.1 _ _ hNa hx⟩
  ·rintro σ H' ⟨ds, ys, W', st, hy, hd', hl, hI, _⟩
   rw [hd.length] at hl hI
   exact comp_end W s1 hacc st hy hd' (he ds hl hI) z
end
end L2
set_option maxRecDepth 100000
set_option maxHeartbeats 4000000
namespace L2
open PySem PySem.Spec PyProof.Rows
section
variable {G : Gx} {ρ : Rh} {Φ : Pd} {te : TE} {t : TA} {i n : Nat} {f : Bool} {ds : List PyData} {Θ : List PyData -> Prop}
theorem Ev.tupS (h : Av G ρ t fun es => es.length <= 10000 /\ Φ (allF es || scAll (es.map (·.2))) (.tuple (es.map (·.2)))) : Ev G ρ (tTup t) Φ := fun nb σ H Q W z =>
 h nb σ H _ W fun es vs H1 ⟨hl, p⟩ s1 q1 => ⟨zq26x (by rw [q1.len]; exact hl) (by decide), fun a ha => z _ _ _ _ p (s1.trans (.same (W.step s1).bag (same_new ha))) (by
  cases hs : scAll (es.map (·.2)) with
  | true => rw [zq80x]; exact .tup ((W.step s1).fresh ha) upd_same ((q1.all (f := false) fun z => by cases z).scAny hs)
  | false => rw [zq64x]; exact .tup ((W.step s1).fresh ha) upd_same ((q1.all fun z => z).keep (But.of (same_new ha))))⟩
theorem Ev.primeFrom (h : Ev G ρ te fun _ x => ∃ n : Int, x = .int n /\ 2 <= n /\ n <= 10002 /\ ∀ r : Int, PrimeZ r -> r < 10 ^ 40 -> Φ true (.int r)) : Ev G ρ (tCall spPrimeFrom [] E0 (tCons te tNil)) Φ := fun nb σ H Q W z =>
 h nb σ H _ W fun f v H1 d ⟨n, e, h1, h2, p⟩ s1 hv => by
  subst e
  exact ⟨n, by rw [hv.ofI]; rfl, h1, h2, fun r H' sm r1 r2 r3 => z true _ H' _ (p r (primeZ_no r1 r3) (by omega)) (s1.trans (.same (W.step s1).bag sm)) (.int r)⟩
theorem Ev.str {x : Str} (h : Φ true (.str x)) : Ev G ρ (tC (.str x)) Φ := fun nb σ H Q W z => z true _ H _ h (.refl W.bag) (by unfold IsD; rfl)
end
noncomputable def sol (p b a : Int) : Int := open Classical in if h : ∃ x, 0 <= x /\ x < p /\ ∃ k, b * x - a = p * k then Classical.choose h else 0
def lostOf (wd : Wo) : List Int := ((List.range wd.length).filter fun i => wd[i]? == some none).map fun (i : Nat) => (i : Int)
theorem ixN_ok {n : Nat} {k : Int} (h0 : 0 <= k) (h1 : k < n) : ixN n k = some k.toNat := by
 unfold ixN; rw [if_pos h0, if_pos h1]
theorem pi_listK {X : Cx} {K : PySem.W.Frag} {tg l : Expr} {tl : TE} (hK : X.K = K) (hl : PE X l tl) : PI X tg l (iList K tl) := by subst hK; exact pi_list hl
end L2
set_option maxRecDepth 100000
set_option maxHeartbeats 4000000
namespace L2
open PySem PySem.Spec PyProof.Rows
section
variable {G : Gx} {ρ : Rh} {Φ : Pd} {ta tb te : TE} {E : DE} {K : PySem.W.Frag}
theorem Ev.slT {tl th : TO} (h : Ev G ρ te fun f x => ∃ ds, x = .tuple ds /\ Ov G ρ tl fun lo => Ov G ρ th fun hi => ¬ (HT.sIx ds.length 0 lo = 0 /\ HT.sIx ds.length ds.length hi = ds.length) /\ Φ f (.tuple (cutA ds lo hi))) : Ev G ρ (tSl (rSlT K) te tl th) Φ := fun nb σ H Q W z =>
 h nb σ H _ W fun f v H1 d ⟨ds, e, q⟩ s1 hv => q nb σ H1 _ (W.step s1) fun lo H2 q2 s2 => q2 nb σ H2 _ ((W.step s1).step s2) fun hi H3 ⟨hn, q3⟩ s3 => by
  subst e
  obtain ⟨a, xs, rfl, n, hx, hd⟩ := ((hv.keep s2.butS).keep s3.butS).ofT
  have W3 := ((W.step s1).step s2).step s3
  refine ⟨a, xs, rfl, .of hx, by rw [hd.length]; exact hn, fun p hp => ?_⟩
  exact z f _ _ _ q3 (s1.trans (s2.trans (s3.trans (.same W3.bag (same_new hp))))) (.tup (W3.fresh hp) upd_same (hd.cut.keep (But.of (same_new hp))))
theorem Ev.catT (h : Ev G ρ ta fun f x => ∃ ds, x = .tuple ds /\ ds ≠ [] /\ Ev G ρ tb fun g y => ∃ es, y = .tuple es /\ es ≠ [] /\ ds.length + es.length <= 10000 /\ Φ (f && g) (.tuple (ds ++ es))) : Ev G ρ (tOp (rCatT K) ta tb) Φ := fun nb σ H Q W z =>
 h nb σ H _ W fun f v H1 d ⟨ds, e, hne, q⟩ s1 hv => q nb σ H1 _ (W.step s1) fun g u H2 d2 ⟨es, e2, hne2, hl, p⟩ s2 hu => by
  subst e e2
  obtain ⟨a, xs, rfl, n, hx, hd⟩ := (hv.keep s2.butS).ofT
  obtain ⟨c, ys, rfl, m, hy, hc⟩ := hu.ofT
  have W2 := (W.step s1).step s2
  have hxl := hd.length
  have hyl := hc.length
  refine ⟨a, c, xs, ys, rfl, rfl, .of hx, .of hy, fun z => hne (zq65x.mp (by rw [<- hxl, z]; rfl)), zq26x (by rw [hxl, hyl]; exact hl) (by decide), fun z => absurd (zq65x.mp (by rw [<- hyl, z]; rfl)) hne2, fun _ q hq => ?_⟩
  refine z (f && g) _ _ _ p (s1.trans (s2.trans (.same W2.bag (same_new hq)))) (.tup (W2.fresh hq) upd_same ?_)
  exact (IsDs.append (hd.av (S_mono (fun z => (zq25x _ _ ▸ z).1) fun _ z => z)) (hc.av (S_mono (fun z => (zq25x _ _ ▸ z).2) fun _ z => z))).keep (But.of (same_new hq))
end
end L2
set_option maxRecDepth 100000
set_option maxHeartbeats 4000000
namespace L2
open PySem PySem.Spec PyProof.Rows
def fAll (es : List Fd) : Bool := es.all fun e => e.1 || scB e.2
section
variable {G : Gx} {ρ : Rh} {Φ : Pd} {t : TA} {te : TE}
theorem IsF.allS {nb : Addr -> Prop} {H : Hp} : ∀ {es : List Fd} {vs : List V} {f : Bool}, IsF G nb H es vs -> (f = true -> fAll es = true) -> IsDs (G.S nb f) H (es.map (·.2)) vs
  | [], _, _, h, _ => by unfold IsF at h; subst h; exact .nil
  | e :: es, _, f, h, hf => by
    obtain ⟨v, ws, rfl, h1, h2⟩ := h
    have hh : f = true -> (e.1 || scB e.2) = true /\ fAll es = true := fun z => by
      have := hf z
      unfold fAll at this
      rw [zq75x, zq25x] at this
      exact this
    refine .cons ?_ (h2.allS fun z => (hh z).2)
    cases hs : scB e.2 with
    | true => exact h1.scAny hs
    | false => exact h1.av (S_mono (fun z => by have := (hh z).1; rw [hs, zq64x] at this; exact this) fun _ z => z)
theorem Ev.tupF (h : Av G ρ t fun es => es.length <= 10000 /\ Φ (fAll es) (.tuple (es.map (·.2)))) : Ev G ρ (tTup t) Φ := fun nb σ H Q W z =>
 h nb σ H _ W fun es vs H1 ⟨hl, p⟩ s1 q1 => ⟨zq26x (by rw [q1.len]; exact hl) (by decide), fun a ha => z _ _ _ _ p (s1.trans (.same (W.step s1).bag (same_new ha)))
  (.tup ((W.step s1).fresh ha) upd_same ((q1.allS fun z => z).keep (But.of (same_new ha))))⟩
end
def rIsNotB : R2 := fun x y H Q => ∃ a b : Bool, x = .bl a /\ y = .bl b /\ Q (.bl (!(a == b))) H
theorem Ev.isNotB {G : Gx} {ρ : Rh} {ta : TE} {b : Bool} {Φ : Pd} (h : Ev G ρ ta fun _ x => ∃ a, x = .bool a /\ Φ true (.bool (!(a == b)))) : Ev G ρ (tOp rIsNotB ta (tC (.bl b))) Φ := fun nb σ H Q W z =>
 h nb σ H _ W fun f v H1 d ⟨a, e, q⟩ s1 hv => by
  subst e
  unfold IsD at hv
  subst hv
  exact ⟨a, b, rfl, rfl, z true _ H1 _ q s1 (.bl _)⟩
abbrev rowD (r : List Int) : PyData := .list (r.map .int)
end L2
set_option maxRecDepth 100000
set_option maxHeartbeats 4000000
set_option maxRecDepth 100000
/- THE LAST THEOREM (shape; LID, My.* are yours):
   My.Adr: a structure of the addresses that your layer names (classes, functions); My.Txt K t: a structure (Prop) of the equations over K;
   My.txt_mk : {K} {implicit addresses ..} (e1 : nsIn K mainGlobals "law" = some (some (.ref f))) (e2 : K.lookup f = some ⟨oc, od, .func (fnOf "law" "law" params body scope dV kV doc pm an cdv ct), sl⟩) (e3 : codeIn K cdv "law" = true) .. : ∃ t, My.Txt K t
set_option maxRecDepth 100000 in
set_option maxHeartbeats 0 in
(the tactic k_is has no namespace: write k_is) -/
set_option maxRecDepth 100000
set_option maxHeartbeats 4000000
set_option maxRecDepth 100000
set_option maxHeartbeats 4000000
set_option maxRecDepth 100000
set_option maxHeartbeats 4000000
namespace L2
abbrev Cn := List (Int × Int)
structure CntOk (cs : Cn) : Prop where
 rng : ∀ c ∈ cs, 0 <= c.1 /\ c.1 <= 12 /\ 0 <= c.2 /\ c.2 <= 10 ^ 7
 nd : (cs.map (·.1)).Nodup
 len : cs.length <= 14
 pos : ∃ c ∈ cs, 0 < c.1 /\ 0 < c.2
def sumS : Cn -> Rat -> Rat
 | [], _ => 0
 | c :: r, v => (if 0 < c.1 then ((c.1 * c.2 : Int) : Rat) * v ^ (c.1.toNat - 1) else 0) + sumS r v
def sumW : Cn -> Int
 | [] => 0
 | c :: r => c.1 * c.2 + sumW r
def tellT (cs : Cn) (v : Rat) : Rat := sumS cs v / (sumW cs : Int)
def growG (l c : Cn) (s v : Rat) : Rat := s * tellT l (1 - tellT c (1 - v))
section
variable {l c : Cn} {s : Rat} (hl : CntOk l) (hc : CntOk c) (s0 : 0 <= s)
include hl hc s0
end
def ceilR (x : Rat) : Int := -((-x).floor)
end L2
namespace L2
structure Gw where
 l : Cn
 c : Cn
 s : Rat
 u : Int
def Gw.gr (g : Gw) (x : Int) : Rat := growG g.l g.c g.s ((x : Rat) / g.u) * g.u
def Gw.lo (g : Gw) : Nat -> Int
 | 0 => (g.s * g.u).floor
 | k + 1 => (g.gr (g.lo k)).floor
def Gw.hi (g : Gw) : Nat -> Int
 | 0 => ceilR (g.s * g.u)
 | k + 1 => ceilR (g.gr (g.hi k))
end L2
set_option maxRecDepth 100000
set_option maxHeartbeats 4000000
namespace L2
open PySem PySem.Spec PyProof.Rows
@[reducible] def bdD (g : Gw) (k : Nat) : PyData := .tuple [.int (g.lo k), .int (g.hi k)]
@[reducible] def fallD (n : Nat) : PyData := .tuple [.str "falls", .int n]
@[reducible] def stayD (x : Int) : PyData := .tuple [.str "stays", .int x]
@[reducible] def openD : PyData := .tuple [.str "open"]
def gLst (K : PySem.W.Frag) (n : Nat) (t : TGs) : TG := fun v σ H Q => ∃ a xs, v = .ref a /\ SqL K H a xs /\ xs.length = n /\ t xs σ H Q
theorem Gv.lst {G : Gx} {ρ : Rh} {f : Bool} {ds : List PyData} {K : PySem.W.Frag} {Θ : Rh -> Prop} {n : Nat} {u : TGs} (hl : ds.length = n) (h : Gvs G ρ u f ds Θ) : Gv G ρ (gLst K n u) f (.list ds) Θ := fun nb σ H v Q W hv z => by
 obtain ⟨a, xs, rfl, m, hx, hd⟩ := hv.ofL
 exact ⟨a, xs, rfl, .of hx, by rw [hd.length]; exact hl, h nb σ H xs Q W hd z⟩
end L2
set_option maxRecDepth 100000
set_option maxHeartbeats 4000000
namespace L2
open PySem PySem.Spec PyProof.Rows PySem.W
section
variable {n : Nat} {cmp : Nat -> Nat -> (Bool -> Shared -> Prop) -> Shared -> Prop} {s : Shared}
variable (h0 : 0 < n) (hc : ∀ i j C, i < n -> j < n -> (∀ b, C b s) -> cmp i j C s)
include h0 hc
end
end L2
set_option maxRecDepth 100000
set_option maxHeartbeats 4000000
namespace L2
open PySem PySem.Spec PyProof.Rows PySem.W
section
variable {n : Nat} {key : Nat -> Int} {cmp : Nat -> Nat -> (Bool -> Shared -> Prop) -> Shared -> Prop} {s : Shared}
variable (h0 : 0 < n) (hc : ∀ i j C, i < n -> j < n -> C (decide (key i < key j)) s -> cmp i j C s)
include h0 hc
end
end L2
set_option maxRecDepth 100000
set_option maxHeartbeats 4000000
set_option maxRecDepth 100000
set_option maxHeartbeats 4000000
namespace L2
open PySem PySem.Spec PyProof.Rows
@[reducible] def gwOf (l c : Cn) (u p : Int) : Gw := ⟨l, c, (p : Rat) / u, u⟩
end L2
set_option maxRecDepth 100000
set_option maxHeartbeats 4000000
namespace L2
open PySem PySem.Spec PyProof.Rows
theorem Tv.lend {G : Gx} {ρ : Rh} {t : TT} {Θ : Bool -> Prop} {a : Addr} {f : Bool} {ds : List PyData} (i : Nat) (e : ρ[i]? = some (.own a f ds)) (h : Tv G (ρ.set i (.d f (.list ds))) t Θ) : Tv G ρ t Θ := fun nb σ H Q W z =>
 h _ σ H Q (Sv.share W e) z
end L2
set_option maxRecDepth 100000
set_option maxHeartbeats 4000000
set_option maxRecDepth 100000
set_option maxHeartbeats 4000000
set_option maxRecDepth 100000
set_option maxHeartbeats 4000000
namespace L2
open PySem PySem.Spec PyProof.Rows
abbrev Ks := List (Int × PyData)
section
variable {G : Gx} {ρ ρc : Rh} {Φ Ψ : Pd} {ta tb te : TE} {t : TA} {i : Nat} {f g : Bool} {d e : PyData} {ks : Ks} {K : PySem.W.Frag} {E : DE} {Θ : Bool -> Ks -> Prop}
@[reducible] def itD (p : Int × PyData) : PyData := .tuple [.int p.1, p.2]
end
end L2
set_option maxRecDepth 100000
set_option maxHeartbeats 4000000
set_option maxRecDepth 100000
set_option maxHeartbeats 4000000
namespace L2
open PySem PySem.Spec PyProof.Rows
structure NetK (n : Int) (cs : List Prs) : Prop where
 n0 : 1 <= n
 n1 : n <= 10
 c0 : cs ≠ []
 c1 : cs.length <= 8
 ok : ∀ prs ∈ cs, prs ≠ [] /\ prs.length <= 4 /\ (prs.map (·.1)).Pairwise (· < ·) /\ ∀ pr ∈ prs, 0 <= pr.1 /\ pr.1 < n
section
variable {n : Int} {cs : List Prs} (h : NetK n cs)
include h
end
end L2
set_option maxRecDepth 100000
set_option maxHeartbeats 4000000
set_option maxRecDepth 100000
set_option maxHeartbeats 4000000
set_option maxRecDepth 100000
set_option maxHeartbeats 4000000
namespace L2
open PySem PySem.Spec PyProof.Rows
def EvF (G : Gx) (ρ : Rh) (te : TE) (Φ : PyData -> Prop) : Prop := ∀ nb σ H (Q : VK), Wd G nb ρ σ H -> (∀ v H' d, Φ d -> Step G.B H H' -> IsD (fun a => H a ≠ none) H' d v -> Q v H') -> te σ H Q
section
variable {G : Gx} {ρ : Rh} {ta tb te : TE} {t : TA} {E : DE} {i j k m : Nat} {f : Bool} {K : PySem.W.Frag} {Φ : PyData -> Prop}
theorem Wd.live_of {nb : Addr -> Prop} {σ : St} {H H1 : Hp} {a : Addr} (W : Wd G nb ρ σ H) (s : Step G.B H H1) (h : H a ≠ none) : H1 a ≠ none := fun e => h (W.none_of s e)
theorem EvF.callB {n : Nat} {F : DF} (hm : MonoF F) (e : ρ[i]? = some .bag) (h : Av G ρ t fun es => es.length + 1 = n /\ F (es.map (·.2)) fun f d => f = true /\ Φ d) : EvF G ρ (tCall (spB n F) [] E0 (tCons (tVar i) t)) Φ := fun nb σ H Q W z => by
 obtain ⟨b, l, hB, e1, B⟩ := W.theBag e
 refine ⟨.ref b, e1, h nb σ H _ W fun es vs H1 ⟨hl, p⟩ s1 q1 => ?_⟩
 have W1 := W.step s1
 show spB n F ((V.ref b :: vs) ++ []) H1 Q E0
 rw [zq30x]
 have hb : ∀ f, G.S nb f b := fun f => .inr (.inr (.inl fun n => n b l hB rfl))
 refine ⟨by rw [zq27x, q1.len, hl], b, l, vs, G.S nb (allF es), es.map (·.2), rfl, W1.bag b l hB, W1.liveS, hb _, q1.all fun z => z, hm _ _ _ p fun f d ⟨hf, hp⟩ v H' bt B' hd => z v H' d hp (s1.trans (.ofBut hB bt B')) (hd.av fun a q => ?_)⟩
 exact .inr ⟨hf, W.live_of s1 q⟩
end
end L2
set_option maxRecDepth 100000
set_option maxHeartbeats 1000000
set_option maxRecDepth 100000
set_option maxHeartbeats 4000000
namespace L2
open PySem PySem.Spec PyProof.Rows
def inLot (lot : List Int) (prs : Prs) : Nat := (prs.filter fun pr => decide (pr.1 ∈ lot)).length
def holdB (cs : List Prs) (lot : List Int) : Bool := cs.all fun prs => decide (inLot lot prs ≠ 1)
end L2
set_option maxRecDepth 100000
set_option maxHeartbeats 4000000
set_option maxRecDepth 100000
set_option maxHeartbeats 4000000
namespace L2
open PySem PySem.Spec PyProof.Rows
structure Great (cs : List Prs) (lot g : List Int) : Prop where
 sub : ∃ q : Int -> Bool, g = lot.filter q
 out : holdB cs g = true
 max : ∀ T : List Int, (∀ x ∈ T, x ∈ lot) -> holdB cs T = true -> ∀ x ∈ T, x ∈ g
@[reducible] def insK (S : List Int) : Ks := S.map fun x => (x, PyData.bool true)
end L2
set_option maxRecDepth 100000
set_option maxHeartbeats 4000000
namespace L2
open PySem PySem.Spec PyProof.Rows
theorem Great.mem {cs : List Prs} {lot g : List Int} (h : Great cs lot g) : ∀ x ∈ g, x ∈ lot := fun x hx => by
 obtain ⟨q, e⟩ := h.sub
 rw [e] at hx
 exact (zq69x.mp hx).1
end L2
set_option maxRecDepth 100000
set_option maxHeartbeats 4000000
namespace L2
open PySem PySem.Spec PyProof.Rows
def fst0 (row : List Int) : Int := match row.getLast? with | none => 0 | some l => l + 1
def aft (n : Int) (row : List Int) : List Int := (List.range (n - fst0 row).toNat).map fun (i : Nat) => fst0 row + (i : Int)
def ext (n : Int) (row : List Int) : List (List Int) := (aft n row).map fun p => row ++ [p]
@[reducible] def optRow : Option (List Int) -> PyData
 | none => .none
 | some r => rowD r
end L2
set_option maxRecDepth 100000
set_option maxHeartbeats 4000000
set_option maxRecDepth 100000
set_option maxHeartbeats 4000000
set_option maxRecDepth 100000
set_option maxHeartbeats 4000000
set_option maxRecDepth 100000
set_option maxHeartbeats 4000000
namespace L2
open PySem PySem.Spec PyProof.Rows
def gI (r : List Int) (i : Nat) : Int := r.getD i 0
def co (prs : Prs) (j : Nat) : Int := (prs.map fun pr => if pr.1.toNat = j then pr.2 else 0).sum
def PrsQ (p : Int) (m : Nat) (prs : Prs) : Prop := (prs.map (·.1)).Nodup /\ prs.length <= 1000 /\ ∀ pr ∈ prs, 0 <= pr.1 /\ pr.1 < m /\ 1 <= pr.2 /\ pr.2 < p
end L2
set_option maxRecDepth 100000
set_option maxHeartbeats 4000000
set_option maxRecDepth 100000
set_option maxHeartbeats 4000000
set_option maxRecDepth 100000
set_option maxHeartbeats 4000000
set_option maxRecDepth 100000
set_option maxHeartbeats 4000000
namespace L2
open PySem PySem.Spec PyProof.Rows
theorem freshL {P : (Addr -> Prop) -> Prop} {H : Hp} (hP : ∀ {S S' : Addr -> Prop}, (∀ a, S' a -> S a) -> P S -> P S') (hf : ∀ {S : Addr -> Prop} {p : Addr}, H p = none -> P S -> P fun a => S a \/ a = p) : ∀ {L : List Addr} {S : Addr -> Prop}, (∀ a ∈ L, H a = none) -> P S -> P fun a => S a \/ a ∈ L
 | [], S, _, h => hP (fun a z => z.elim (fun z => z) fun z => by cases z) h
 | p :: L, S, hL, h => hP (fun a z => by
   rcases z with z | z
   ·exact .inl (.inl z)
   ·rcases zq2x.mp z with z | z
    ·exact .inr z
    ·exact .inl (.inr z)) (hf (hL p (zq20x ..)) (freshL hP hf (L := L) (fun a m => hL a (zq12x _ m)) h))
section
variable {G : Gx} {ρ : Rh} {nb : Addr -> Prop} {σ : St} {H H1 : Hp} {i : Nat} {L : List Addr} {c c' : Cu} {f : Bool} {d : PyData} {p : Addr} {o : HO} {E : DE}
theorem Wd.growL (W : Wd G nb ρ σ H) (s1 : Step G.B H H1) (ha : ∀ a ∈ L, H a = none) (e : ∀ a ∈ L, H1 a ≠ none) : Wd G (fun x => nb x \/ x ∈ L) ρ σ H1 /\ (∀ a ∈ L, NB G.B a) /\ ∀ f x, G.S (fun x => nb x \/ x ∈ L) f x -> (G.S nb f x \/ x ∈ L) := by
  have hN : ∀ a ∈ L, NB G.B a := fun a m => NB.new W.bag (ha a m)
  have hA : ∀ f x, G.S (fun x => nb x \/ x ∈ L) f x -> (G.S nb f x \/ x ∈ L) := fun f x z => by
    rcases z with (z | z) | z | z | z
    · exact .inl (.inl z)
    · exact .inr z
    · exact .inl (.inr (.inl z))
    · exact .inl (.inr (.inr (.inl z)))
    · exact .inl (.inr (.inr (.inr z)))
  have W1 := W.step s1
  have fD : ∀ {S : Addr -> Prop} {d : PyData} {v : V}, IsD S H d v -> IsD (fun a => S a \/ a ∈ L) H d v := fun {S d v} h => freshL (P := fun S => IsD S H d v) (fun z h => IsD.av z h) (fun hp h => IsD.fresh hp h) ha h
  have fDs : ∀ {S : Addr -> Prop} {d : List PyData} {v : List V}, IsDs S H d v -> IsDs (fun a => S a \/ a ∈ L) H d v := fun {S d v} h => freshL (P := fun S => IsDs S H d v) (fun z h => IsDs.av z h) (fun hp h => IsDs.fresh hp h) ha h
  have fKs : ∀ {S : Addr -> Prop} {d : List (PyData × PyData)} {v : List (Key × V)}, IsKs S H d v -> IsKs (fun a => S a \/ a ∈ L) H d v := fun {S d v} h => freshL (P := fun S => IsKs S H d v) (fun z h => IsKs.av z h) (fun hp h => IsKs.fresh hp h) ha h
  have fH : ∀ {S : Addr -> Prop} {d : HD} {v : V}, IsH S H d v -> IsH (fun a => S a \/ a ∈ L) H d v := fun {S d v} h => freshL (P := fun S => IsH S H d v) (fun z h => IsH.av h z) (fun hp h => IsH.fresh h hp) ha h
  refine ⟨?_, hN, hA⟩
  refine ⟨W1.bag, fun x n => ?_, W1.old, fun x n q => ?_, W.gA, W.len, W.gB, fun h m => ((fH (W.hld h m)).keep (s1.but fun x z => .inl (.inr (.inr (.inl z))))).av (hA h.1), fun j s e' => ?_, W.apart, W.apd, W.apc⟩
  · rcases n with n | n
    · exact W1.live x n
    · exact e x n
  · rcases n with n | n
    · exact W.nbo x n q
    · cases z : G.H0 x with
      | none => rfl
      | some o => have := ha x n; rw [W.old x o q z] at this; cases this
  · obtain ⟨x, e1, h⟩ := W.ok j s e'
    refine ⟨x, e1, ?_⟩
    cases s with
    | no => trivial
    | d f d => obtain ⟨v, e, h⟩ := h; exact ⟨v, e, ((fD h).keep (s1.but fun x z => .inl (.inr (.inr (.inl z))))).av (hA f)⟩
    | own c f es => obtain ⟨e, n, q, xs, hx, hd⟩ := h; exact ⟨e, .inl n, q, xs, s1.1 _ _ q hx, ((fDs hd).keep (s1.but fun x z => .inl (.inr (.inr (.inl z))))).av (hA f)⟩
    | bag => exact h
    | raw v => exact h
    | dic c f es => obtain ⟨e, n, q, xs, hx, hd⟩ := h; exact ⟨e, .inl n, q, xs, s1.1 _ _ q hx, ((fKs hd).keep (s1.but fun x z => .inl (.inr (.inr (.inl z))))).av (hA f)⟩
    | cu c =>
      obtain ⟨e, n, q⟩ := h
      refine ⟨e, fun a ha => ⟨.inl (n a ha).1, (n a ha).2⟩, c.av (hA c.f) (c.keep (.of fun x o hx e => s1.1 x o ?_ e) (freshL (P := fun S => c.P S H) (fun z h => c.av z h) (fun hp h => c.fresh hp h) ha q))⟩
      rcases hx with hx | hx
      · exact zq40x fun z => hx (.inl (.inr (.inr (.inl z))))
      · exact (n x hx).2
theorem SlOk.adr_nb {x : Option V} {s : Sl} (h : SlOk G nb H x s) : ∀ a ∈ s.adr, nb a /\ NB G.B a := by
 cases s with
 | own a f ds => intro x hx; rw [zq1x.mp hx]; exact ⟨h.2.1, h.2.2.1⟩
 | dic a f ds => intro x hx; rw [zq1x.mp hx]; exact ⟨h.2.1, h.2.2.1⟩
 | cu c => exact h.2.1
 | no => intro _ z; cases z
 | d _ _ => intro _ z; cases z
 | bag => intro _ z; cases z
 | raw _ => intro _ z; cases z
theorem Wd.cu_of (W : Wd G nb ρ σ H) (s1 : Step G.B H H1) (ha : ∀ a ∈ c.F, H a = none) (e : ∀ a ∈ c.F, H1 a ≠ none) (hP : c.P (fun x => G.S nb c.f x \/ x ∈ c.F) H1) : Wd G (fun x => nb x \/ x ∈ c.F) (ρ.set i (.cu c)) (σ.set i (some c.v)) H1 := by
 obtain ⟨W2, hN, hA⟩ := W.growL s1 ha e
 refine W2.set ⟨rfl, fun a m => ⟨.inr m, hN a m⟩, c.av (hA c.f) hP⟩ (fun _ _ _ z => by cases z) (fun _ _ _ z => by cases z) (fun x hx j t hj ht hc z => ?_)
 obtain ⟨y, e1, h⟩ := W.ok j _ ht
 exact W.live x (h.adr_nb x z).1 (ha x hx)
theorem Wd.writeCu (W : Wd G nb ρ σ H) (e : ρ[i]? = some (.cu c)) (hp : p ∈ c.F) (hv : c'.v = c.v) (hF : ∀ a ∈ c'.F, a ∈ c.F) (h : c'.P (G.S nb c'.f) (upd H p o)) : Wd G nb (ρ.set i (.cu c')) σ (upd H p o) := by
 obtain ⟨x, e1, h1, h2, h3⟩ := W.ok i _ e
 subst h1
 have hil : i < ρ.length := (zq18x.mp e).1
 have W0 : Wd G nb (ρ.set i .no) (σ.set i (some c.v)) H := W.set trivial fun _ _ _ z => by cases z
 have other : ∀ (j : Nat) s, (ρ.set i .no)[j]? = some s -> s ≠ .no -> p ∉ s.adr := fun j s hs hn => by
  have hij : i ≠ j := fun z => by subst z; rw [zq9x hil] at hs; cases hs; exact hn rfl
  rw [zq5x hij] at hs
  exact W.apc i j c s hij e hs p hp
 have W1 : Wd G nb (ρ.set i .no) (σ.set i (some c.v)) (upd H p o) := W0.write (h2 p hp).1 (h2 p hp).2 (fun j a f ds hs z => other j _ hs (by intro z; cases z) (zq1x.mpr z.symm)) (fun j a f ds hs z => other j _ hs (by intro z; cases z) (zq1x.mpr z.symm)) (fun j c hs => other j _ hs (by intro z; cases z))
 have W2 := W1.set (i := i) (s := .cu c') (x := some c.v) ⟨by rw [hv], fun a m => h2 a (hF a m), h⟩ (fun _ _ _ z => by cases z) (fun _ _ _ z => by cases z) (fun x hx j t hj ht hc => by
  rw [zq5x (zq6x hj)] at ht
  exact W.apc i j c t (zq6x hj) e ht x (hF x hx))
 rw [zq55x, zq55x] at W2
 have : σ.set i (some c.v) = σ := by
  apply zq76x
  intro j
  by_cases hij : i = j
  ·subst hij; rw [zq9x (by rw [W.len]; exact hil), e1]
  ·rw [zq5x hij]
 rwa [this] at W2
end
end L2
set_option maxRecDepth 100000
set_option maxHeartbeats 4000000
namespace L2
open PySem PySem.Spec PyProof.Rows
abbrev GRow := Int × Addr × List PyData
end L2
set_option maxRecDepth 100000
set_option maxHeartbeats 4000000
namespace L2
open PySem PySem.Spec PyProof.Rows
def facOf (prs : Prs) (pl : Int) : Option Int := (prs.find? fun pr => decide (pr.1 = pl)).map (·.2)
noncomputable def vc1 (p : Int) (c : Nat) : Option Int -> List (Int × Int)
 | some f => [((c : Int), sol p f 1)]
 | none => []
noncomputable def vcTo (p : Int) (cs : List Prs) (pl : Int) (i : Nat) : List (Int × Int) := (List.range i).flatMap fun c => vc1 p c (facOf (cs.getD c []) pl)
theorem vcTo_mem {p : Int} {cs : List Prs} {pl : Int} {q : Int × Int} {i : Nat} (hi : i <= cs.length) (h : q ∈ vcTo p cs pl i) : ∃ (c : Nat) (prs : Prs) (f : Int), cs[c]? = some prs /\ c < i /\ facOf prs pl = some f /\ q = ((c : Int), sol p f 1) := by
  unfold vcTo at h
  obtain ⟨c, hc, hq⟩ := zq108x.mp h
  have hc := zq93x.mp hc
  have e : cs[c]? = some cs[c] := zq21x (by omega)
  rw [zq79x, e] at hq
  cases hf : facOf cs[c] pl with
  | none => simp [vc1, hf] at hq
  | some f =>
    have hq : q ∈ vc1 p c (facOf cs[c] pl) := hq
    rw [hf] at hq
    exact ⟨c, cs[c], f, e, hc, hf, zq1x.mp hq⟩
noncomputable def votesL (p : Int) (cs : List Prs) (ws : List Int) (pl : Int) : List Int :=
 (vcTo p cs pl cs.length).map fun q => (ws.getD pl.toNat 0 - dueSum (cs.getD q.1.toNat []) (ws.map some) % p * q.2) % p
structure VNet (p n : Int) (cs : List Prs) : Prop where
 hp : PrimeZ p
 p40 : p < 10 ^ 40
 n0 : 1 <= n
 n1 : n <= 400
 cl : cs.length <= 400
 ok : ∀ prs ∈ cs, PrsQ p n.toNat prs
end L2
set_option maxRecDepth 100000
set_option maxHeartbeats 4000000
namespace L2
open PySem PySem.Spec PyProof.Rows
def goodV (L : List Int) (w x : Int) : Bool := decide (x ≠ w) && decide (L.length < 2 * L.count x)
def mjL (L : List Int) (w : Int) : List Int := (L.filter (goodV L w)).take 1
@[reducible] def trD (t : Int × Int × Int) : PyData := .tuple [.int t.1, .int t.2.1, .int t.2.2]
noncomputable def trnAt (p : Int) (cs : List Prs) (ws : List Int) (i : Nat) : List (Int × Int × Int) := (mjL (votesL p cs ws (i : Int)) (ws.getD i 0)).map fun x => ((i : Int), ws.getD i 0, x)
noncomputable def trnTo (p : Int) (cs : List Prs) (ws : List Int) (m : Nat) : List (Int × Int × Int) := (List.range m).flatMap (trnAt p cs ws)
end L2
set_option maxRecDepth 100000
set_option maxHeartbeats 4000000
namespace L2
open PySem PySem.Spec PyProof.Rows
def brk (p : Int) (cs : List Prs) (ws : List Int) : Nat := cs.countP fun prs => decide (dueSum prs (ws.map some) % p ≠ 0)
abbrev Bst := Int × Option (Int × Int × Int)
end L2
set_option maxRecDepth 100000
set_option maxHeartbeats 4000000
set_option maxRecDepth 100000
set_option maxHeartbeats 4000000
set_option maxRecDepth 100000
set_option maxHeartbeats 4000000
namespace L2
open PySem PySem.Spec PyProof.Rows
structure MCallee (P : Program) (w : World) (K : PySem.W.Frag) (mg : Str -> Option Value) (base : Heap) (C : Addr) (m : Str) (k : Nat) (ps : List Str) (sp : Sp) : Prop where
 cl : Cls K C
 ex : ∃ f fd, FnOk P w K mg base CX0 k f fd ps sp /\ Binds K fd ps [] /\ Meth K C m f
structure ICallee (P : Program) (w : World) (K : PySem.W.Frag) (mg : Str -> Option Value) (base : Heap) (C : Addr) (x : Str) (k : Nat) (ps : List Str) (sp : Sp) : Prop where
 ex : ∃ f fd, FnOk P w K mg base CX0 k f fd ps sp /\ Binds K fd ps [] /\ Mk K C f /\ mg x = some (.ref C)
section
variable {X : Cx} {C : Addr} {k : Nat} {ps : List Str} {sp : Sp} {x m : Str} {p pos apos : Pos} {e o : Expr} {es : List Expr} {ta : TE} {t : TA}
theorem pe_methC {pl : Sem Bool} (c : MCallee X.prog X.w X.K X.mg X.base C m k ps sp) (he : PE X o ta) (hr : Room k X.A) (ha : PA X (e :: es) t)
  (hst : starEach (e :: es) X.env = (false, eval e X.env) :: starEach es X.env := by rfl) (hpl : (backTo pos (starEach es X.env)).any (·.1) = false := by rfl)
  (ht : eval (.Call (.Attribute o m apos) (e :: es) [] pos) X.env = (do
   let ov <- eval o X.env
   standAt apos.atName
   let (f, first) <- holding [ov] (getMethod ov m pl)
   callWith pos f first (backTo pos (starEach (e :: es) X.env)) (backToKw pos (keywordEach [] X.env))) := by rfl) :
  PE X (.Call (.Attribute o m apos) (e :: es) [] pos) (tMeth C m sp [] E0 ta t) := by
 obtain ⟨f, fd, F, b, mm⟩ := c.ex
 exact pe_meth (pl := pl) he c.cl mm F hr b .nil pass0 ha hst hpl ht
theorem pe_methC0 {pl : Sem Bool} (c : MCallee X.prog X.w X.K X.mg X.base C m k ps sp) (he : PE X o ta) (hr : Room k X.A)
  (ht : eval (.Call (.Attribute o m apos) [] [] pos) X.env = (do
   let ov <- eval o X.env
   standAt apos.atName
   let (f, first) <- holding [ov] (getMethod ov m pl)
   callWith pos f first (backTo pos (starEach [] X.env)) (backToKw pos (keywordEach [] X.env))) := by rfl) :
  PE X (.Call (.Attribute o m apos) [] [] pos) (tMeth C m sp [] E0 ta tNil) := by
 obtain ⟨f, fd, F, b, mm⟩ := c.ex
 exact pe_meth0 (pl := pl) he c.cl mm F hr b .nil pass0 ht
theorem pe_makeC (c : ICallee X.prog X.w X.K X.mg X.base C x k ps sp) (hr : Room (k + 1) X.A) (ha : PA X (e :: es) t) (hg : Gl X x := by rfl)
  (hdb : (x == ("__debug__" : Str)) = false := by decide) (he : starEach (e :: es) X.env = (false, eval e X.env) :: starEach es X.env := by rfl) (hpl : (backTo pos (starEach es X.env)).any (·.1) = false := by rfl) :
  PE X (.Call (.Name x p) (e :: es) [] pos) (tMake C sp [] E0 t) := by
 obtain ⟨f, fd, F, b, M, m⟩ := c.ex
 exact pe_make M F hr hg m b .nil pass0 ha hdb he hpl
end
section
variable {G : Gx} {ρ : Rh} {nb : Addr -> Prop} {σ : St} {H H' : Hp} {i : Nat} {c c' : Cu} {E : DE}
theorem Wd.setCu (W : Wd G nb ρ σ H) (e : ρ[i]? = some (.cu c)) (hH : ∀ a o, a ∉ c.F -> H a = some o -> H' a = some o) (hv : c'.v = c.v) (hF : ∀ a ∈ c'.F, a ∈ c.F \/ H a = none \/ (nb a /\ NB G.B a /\ ∀ (j : Nat) s, ρ[j]? = some s -> a ∉ s.adr)) (hl : ∀ a, a ∈ c.F \/ a ∈ c'.F -> H' a ≠ none)
    (h : c'.P (G.S (fun x => nb x \/ x ∈ c'.F) c'.f) H') : Wd G (fun x => nb x \/ x ∈ c'.F) (ρ.set i (.cu c')) σ H' := by
  obtain ⟨x0, e1, h1, h2, h3⟩ := W.ok i _ e
  subst h1
  have hil : i < ρ.length := (zq18x.mp e).1
  obtain ⟨L, hL⟩ : ∃ L, L = c'.F.filter fun a => (H a).isNone := ⟨_, rfl⟩
  have ha : ∀ a ∈ L, H a = none := fun a m => by
    rw [hL, zq69x] at m
    exact zq136x.mp m.2
  have inL : ∀ a ∈ c'.F, nb a \/ a ∈ L := fun a m => by
    rcases hF a m with z | z | z
    · exact .inl (h2 a z).1
    · exact .inr (by rw [hL]; exact zq69x.mpr ⟨m, zq136x.mpr z⟩)
    · exact .inl z.1
  have hA : ∀ f x, G.S (fun x => nb x \/ x ∈ c'.F) f x -> (G.S nb f x \/ x ∈ L) := fun f x z => by
    rcases z with (z | z) | z | z | z
    · exact .inl (.inl z)
    · exact (inL x z).elim (fun z => .inl (.inl z)) .inr
    · exact .inl (.inr (.inl z))
    · exact .inl (.inr (.inr (.inl z)))
    · exact .inl (.inr (.inr (.inr z)))
  have bt : ∀ f, But (G.S (fun x => nb x \/ x ∈ c'.F) f) H H' := fun f a o n q => hH a o (fun z => n (.inl (.inl (h2 a z).1))) q
  have fD : ∀ {S : Addr -> Prop} {d : PyData} {v : V}, IsD S H d v -> IsD (fun a => S a \/ a ∈ L) H d v := fun {S d v} h => freshL (P := fun S => IsD S H d v) (fun z h => IsD.av z h) (fun hp h => IsD.fresh hp h) ha h
  have fDs : ∀ {S : Addr -> Prop} {d : List PyData} {v : List V}, IsDs S H d v -> IsDs (fun a => S a \/ a ∈ L) H d v := fun {S d v} h => freshL (P := fun S => IsDs S H d v) (fun z h => IsDs.av z h) (fun hp h => IsDs.fresh hp h) ha h
  have fKs : ∀ {S : Addr -> Prop} {d : List (PyData × PyData)} {v : List (Key × V)}, IsKs S H d v -> IsKs (fun a => S a \/ a ∈ L) H d v := fun {S d v} h => freshL (P := fun S => IsKs S H d v) (fun z h => IsKs.av z h) (fun hp h => IsKs.fresh hp h) ha h
  have fH : ∀ {S : Addr -> Prop} {d : HD} {v : V}, IsH S H d v -> IsH (fun a => S a \/ a ∈ L) H d v := fun {S d v} h => freshL (P := fun S => IsH S H d v) (fun z h => IsH.av h z) (fun hp h => IsH.fresh h hp) ha h
  have hNB : ∀ a ∈ c'.F, NB G.B a := fun a m => (hF a m).elim (fun z => (h2 a z).2) fun z => z.elim (fun z => NB.new W.bag z) fun z => z.2.1
  have hbag : BagOk G.B H' := fun b l eb => by
    obtain ⟨ns, i0, c0, st, n, g1, g2, g3⟩ := W.bag b l eb
    have hb : b ∉ c.F := fun z => (h2 b z).2 b l eb rfl
    have hll : l ∉ c.F := fun z => by
      obtain ⟨_, _, _, _, _, _, q2, _⟩ := W.gB b l eb
      rw [W.nbo l (h2 l z).1 (h2 l z).2] at q2; cases q2
    exact ⟨ns, i0, c0, st, n, hH _ _ hb g1, hH _ _ hll g2, g3⟩
  have other : ∀ (j : Nat) s, i ≠ j -> ρ[j]? = some s -> ∀ a ∈ s.adr, a ∉ c.F := fun j s hij hs a m z => W.apc i j c s hij e hs a z m
  refine ⟨hbag, fun a n => ?_, fun a o n q => ?_, fun a n q => ?_, W.gA, by rw [zq34x]; exact W.len, W.gB, fun h m => ((fH (W.hld h m)).av (hA h.1)).keep (bt h.1), fun j s e' => ?_, ?_, ?_, ?_⟩
  · rcases n with n | n
    · by_cases z : a ∈ c.F
      · exact hl a (.inl z)
      · cases q : H a with
        | none => exact absurd q (W.live a n)
        | some o => rw [hH a o z q]; exact zq35x _
    · exact hl a (.inr n)
  · refine hH a o (fun z => ?_) (W.old a o n q)
    rw [W.nbo a (h2 a z).1 n] at q; cases q
  · rcases n with n | n
    · exact W.nbo a n q
    · rcases hF a n with z | z | z
      · exact W.nbo a (h2 a z).1 q
      · cases w : G.H0 a with
        | none => rfl
        | some o => rw [W.old a o q w] at z; cases z
      · exact W.nbo a z.1 q
  · by_cases hij : i = j
    · subst hij
      rw [zq9x hil] at e'
      cases e'
      exact ⟨some c.v, e1, by rw [hv], fun a m => ⟨.inr m, hNB a m⟩, h⟩
    · rw [zq5x hij] at e'
      obtain ⟨x, e2, q⟩ := W.ok j s e'
      refine ⟨x, e2, ?_⟩
      have ap := other j s hij e'
      cases s with
      | no => trivial
      | d f d => obtain ⟨v, e, h⟩ := q; exact ⟨v, e, ((fD h).av (hA f)).keep (bt f)⟩
      | own a f es => obtain ⟨e, n, q, xs, hx, hd⟩ := q; exact ⟨e, .inl n, q, xs, hH _ _ (ap a (zq1x.mpr rfl)) hx, ((fDs hd).av (hA f)).keep (bt f)⟩
      | bag => exact q
      | raw v => exact q
      | dic a f es => obtain ⟨e, n, q, xs, hx, hd⟩ := q; exact ⟨e, .inl n, q, xs, hH _ _ (ap a (zq1x.mpr rfl)) hx, ((fKs hd).av (hA f)).keep (bt f)⟩
      | cu c2 =>
        obtain ⟨e, n, q⟩ := q
        refine ⟨e, fun a ha => ⟨.inl (n a ha).1, (n a ha).2⟩, c2.keep (.of fun x o hx e => hH x o ?_ e) (c2.av (hA c2.f) (freshL (P := fun S => c2.P S H) (fun z h => c2.av z h) (fun hp h => c2.fresh hp h) ha q))⟩
        rcases hx with hx | hx
        · exact fun z => hx (.inl (.inl (h2 x z).1))
        · exact ap x hx
  all_goals
    intro j k
  · intro a f as c2 g cs hjk q1 q2
    have hj : i ≠ j := fun z => by subst z; rw [zq9x hil] at q1; cases q1
    have hk : i ≠ k := fun z => by subst z; rw [zq9x hil] at q2; cases q2
    rw [zq5x hj] at q1
    rw [zq5x hk] at q2
    exact W.apart j k a f as c2 g cs hjk q1 q2
  · intro a f as c2 g cs hjk q1 q2
    have hj : i ≠ j := fun z => by subst z; rw [zq9x hil] at q1; cases q1
    have hk : i ≠ k := fun z => by subst z; rw [zq9x hil] at q2; cases q2
    rw [zq5x hj] at q1
    rw [zq5x hk] at q2
    exact W.apd j k a f as c2 g cs hjk q1 q2
  · intro c2 s hjk q1 q2 a m z
    have far : ∀ (j : Nat) s, i ≠ j -> ρ[j]? = some s -> ∀ a ∈ s.adr, a ∉ c'.F := fun j s hij hs a m z => by
      rcases hF a z with w | w | w
      · exact other j s hij hs a m w
      · obtain ⟨x, _, q⟩ := W.ok j s hs
        exact W.live a (q.adr_nb a m).1 w
      · exact w.2.2 j s hs m
    by_cases hj : i = j
    · subst hj
      rw [zq9x hil] at q1
      cases q1
      rw [zq5x hjk] at q2
      exact far k s hjk q2 a z m
    · rw [zq5x hj] at q1
      by_cases hk : i = k
      · subst hk
        rw [zq9x hil] at q2
        cases q2
        exact far j _ hj q1 a m z
      · rw [zq5x hk] at q2
        exact W.apc j k c2 s hjk q1 q2 a m z
end
def EvS (G : Gx) (ρ : Rh) (te : TE) (Φ : Rh -> Pd) : Prop := ∀ nb σ H (Q : VK), Wd G nb ρ σ H -> (∀ nb' ρ' f v H' d, Φ ρ' f d -> Wd G nb' ρ' σ H' -> IsD (G.S nb' f) H' d v -> Q v H') -> te σ H Q
def TvS (G : Gx) (ρ : Rh) (tt : TT) (Φ : Rh -> Bool -> Prop) : Prop := ∀ nb σ H (Q : Bool -> Hp -> Prop), Wd G nb ρ σ H -> (∀ nb' ρ' b H', Φ ρ' b -> Wd G nb' ρ' σ H' -> Q b H') -> tt σ H Q
def AvS (G : Gx) (ρ : Rh) (ta : TA) (Φ : Rh -> List Fd -> Prop) : Prop := ∀ nb σ H (Q : List V -> Hp -> Prop), Wd G nb ρ σ H -> (∀ nb' ρ' es vs H', Φ ρ' es -> Wd G nb' ρ' σ H' -> IsF G nb' H' es vs -> Q vs H') -> ta σ H Q
section
variable {G : Gx} {ρ : Rh} {Φ : Rh -> Pd} {ta tb te : TE} {t : TA} {c u : TT} {i : Nat} {E : DE} {s s' : TS}
theorem EvS.of (h : Ev G ρ te (Φ ρ)) : EvS G ρ te Φ := fun nb σ H Q W z => h nb σ H Q W fun f v H' d q st hv => z nb ρ f v H' d q (W.step st) hv
theorem AvS.cons {Θ : Rh -> List Fd -> Prop} (h : EvS G ρ te fun ρ' f d => Av G ρ' t fun es => Θ ρ' ((f, d) :: es)) : AvS G ρ (tCons te t) Θ := fun nb σ H Q W z =>
 h nb σ H _ W fun nb' ρ' f v H1 d p1 W1 q1 => p1 nb' σ H1 _ W1 fun es vs H2 p2 s2 q2 => z nb' ρ' _ _ H2 p2 (W1.step s2) ⟨v, vs, rfl, q1.keep s2.butS, q2⟩
theorem EvS.callD {n : Nat} {F : DF} (hm : MonoF F) (h : AvS G ρ t fun ρ' es => es.length = n /\ F (es.map (·.2)) fun f d => Φ ρ' (f || allF es) d) : EvS G ρ (tCall (spD n F) [] E0 t) Φ := fun nb σ H Q W z =>
 h nb σ H _ W fun nb' ρ' es vs H1 ⟨hl, p⟩ W1 q1 => by
  rw [zq30x]
  refine ⟨by rw [q1.len, hl], G.S nb' (allF es), es.map (·.2), W1.liveS, q1.all fun z => z, hm _ _ _ p fun f d hp v H' sm hd => z nb' ρ' _ v H' d hp (W1.step (.same W1.bag sm)) (hd.av fun a q => ?_)⟩
  cases f with
  | false => rw [zq86x] at q; exact .inl q
  | true => exact .inr ⟨rfl, W1.liveS a q⟩
theorem TvS.truB {K : PySem.W.Frag} {Θ : Rh -> Bool -> Prop} (h : EvS G ρ te fun ρ' _ x => ∃ b, x = .bool b /\ Θ ρ' b) : TvS G ρ (tTruth K te) Θ := fun nb σ H Q W z =>
 h nb σ H _ W fun nb' ρ' f v H1 d ⟨b, e, q⟩ W1 hv => by subst e; exact ⟨b, by unfold IsD at hv; subst hv; rfl, z nb' ρ' b H1 q W1⟩
theorem TvS.not {Θ : Rh -> Bool -> Prop} (h : TvS G ρ c fun ρ' b => Θ ρ' (!b)) : TvS G ρ (tNot c) Θ := fun nb σ H Q W z => h nb σ H _ W fun nb' ρ' b H1 q W1 => z nb' ρ' _ H1 q W1
namespace Sv
theorem asgS {g : TG} (h : EvS G ρ te fun ρ' f d => Gv G ρ' g f d E.nx) : Sv G ρ (tAsg te g) E := fun nb σ H D W K => h nb σ H _ W fun nb' ρ' f v H1 d q W1 hv => q nb' σ H1 v _ W1 hv fun σ' ρ' p W' => K.nx nb' ρ' σ' H1 p W'
theorem retM (h : EvS G ρ te fun ρ' f d => ∀ nb v H, IsD (G.S nb f) H d v -> E.rw nb ρ' v H) : Sv G ρ (tRet te) E := fun nb σ H D W K => h nb σ H _ W fun nb' ρ' f v H1 d q W1 hv => K.rw nb' ρ' σ v H1 (q nb' v H1 hv) W1
theorem ifSS (h : TvS G ρ c fun ρ' b => if b = true then Sv G ρ' s E else Sv G ρ' s' E) : Sv G ρ (tIfS c s s') E := fun nb σ H D W K => h nb σ H _ W fun nb' ρ' b H1 q W1 => by
 cases b with
 | true => rw [if_pos rfl] at q ⊢; exact q nb' σ H1 D W1 K
 | false => rw [if_neg zq11x] at q ⊢; exact q nb' σ H1 D W1 K
end Sv
end
structure CuTo (c c' : Cu) (H H' : Hp) : Prop where
 v : c'.v = c.v
 f : c'.f = false
 sub : ∀ a ∈ c.F, a ∈ c'.F
 new : ∀ a ∈ c'.F, a ∈ c.F \/ H a = none
 kp : ∀ a o, a ∉ c.F -> H a = some o -> H' a = some o
 lv : ∀ a ∈ c'.F, H' a ≠ none
abbrev CF := Cu -> List PyData -> (Cu -> Pd) -> Prop
def MonoC (F : CF) : Prop := ∀ c ds (Φ Ψ : Cu -> Pd), F c ds Φ -> (∀ c f d, Φ c f d -> Ψ c f d) -> F c ds Ψ
def spC (n : Nat) (F : CF) : Sp := fun vs H Q _ => vs.length = n /\ ∃ (nb : Addr -> Prop) (c : Cu) (ws : List V) (ds : List PyData), vs = c.v :: ws /\ Live nb H /\ (∀ a ∈ c.F, nb a) /\ c.f = false /\ c.P nb H /\ IsDs nb H ds ws /\
 F c ds fun c' f d => ∀ v H', CuTo c c' H H' -> c'.P (fun a => nb a \/ a ∈ c'.F) H' -> IsD (fun a => nb a \/ a ∈ c'.F \/ (f = true /\ H a ≠ none)) H' d v -> Q v H'
section
variable {G : Gx} {ρ : Rh} {Φ : Rh -> Pd} {ta tb te : TE} {t : TA} {i : Nat} {E : DE} {c : Cu} {C : Addr} {m : Str} {n : Nat} {F : CF}
theorem EvS.run_cu {nb : Addr -> Prop} {σ : St} {H1 : Hp} {Q : VK} {es : List Fd} {vs : List V} (hm : MonoC F) (e : ρ[i]? = some (.cu c)) (W1 : Wd G nb ρ σ H1) (q1 : IsF G nb H1 es vs) (hl : es.length + 1 = n) (hcf : c.f = false) (p : F c (es.map (·.2)) fun c' f d => Φ (ρ.set i (.cu c')) f d)
  (z : ∀ nb' ρ' f v H' d, Φ ρ' f d -> Wd G nb' ρ' σ H' -> IsD (G.S nb' f) H' d v -> Q v H') : spC n F (c.v :: (vs ++ [])) H1 Q E0 := by
 rw [zq30x]
 obtain ⟨x0, e1, h1, h2, h3⟩ := W1.ok i _ e
 refine ⟨by rw [zq27x, q1.len, hl], G.S nb false, c, vs, es.map (·.2), rfl, W1.liveS, fun a m => .inl (h2 a m).1, hcf, by rw [hcf] at h3; exact h3, q1.all (f := false) (fun z => by cases z), hm _ _ _ _ p fun c' f d hp v H' to hP hd => ?_⟩
 refine z _ _ f v H' d hp (W1.setCu (c' := c') e to.kp to.v (fun a m => (to.new a m).imp id .inl) (fun a m => m.elim (fun m => to.lv a (to.sub a m)) fun m => to.lv a m) (c'.av (fun a y => ?_) hP)) (hd.av fun a y => ?_)
 ·rw [to.f] at y
  rcases y with (y | y) | y | y | y
  ·exact .inl (.inl y)
  ·exact .inr y
  ·exact .inl (.inr (.inl y))
  ·exact .inl (.inr (.inr (.inl y)))
  ·cases y.1
 ·rcases y with (y | y) | y | y | y
  ·exact .inl (.inl y)
  ·exact .inr (.inl y)
  ·exact .inl (.inr (.inl y))
  ·exact .inl (.inr (.inr (.inl y)))
  ·exact .inr (.inr ⟨y.1, W1.liveS (f := true) a (.inr (.inr (.inr ⟨rfl, y.2⟩)))⟩)
theorem EvS.meth (hm : MonoC F) (e : ρ[i]? = some (.cu c)) (hcf : c.f = false) (hi : ∀ S H, c.P S H -> ∃ a dx fs, c.v = .ref a /\ H a = some (.ins C dx fs) /\ fs.lookup m = none)
  (h : Av G ρ t fun es => es.length + 1 = n /\ F c (es.map (·.2)) fun c' f d => Φ (ρ.set i (.cu c')) f d) : EvS G ρ (tMeth C m (spC n F) [] E0 (tVar i) t) Φ := fun nb σ H Q W z => by
 obtain ⟨x0, e1, h1, h2, h3⟩ := W.ok i _ e
 subst h1
 obtain ⟨a, dx, fs, g1, g2, g3⟩ := hi _ _ h3
 refine ⟨c.v, e1, a, dx, fs, g1, g2, g3, h nb σ H _ W fun es vs H1 ⟨hl, p⟩ s1 q1 => ?_⟩
 exact EvS.run_cu hm e (W.step s1) q1 hl hcf p z
theorem EvS.callC (hm : MonoC F) (e : ρ[i]? = some (.cu c)) (hcf : c.f = false) (h : Av G ρ t fun es => es.length + 1 = n /\ F c (es.map (·.2)) fun c' f d => Φ (ρ.set i (.cu c')) f d) : EvS G ρ (tCall (spC n F) [] E0 (tCons (tVar i) t)) Φ := fun nb σ H Q W z => by
 obtain ⟨x0, e1, h1, h2, h3⟩ := W.ok i _ e
 subst h1
 refine ⟨c.v, e1, h nb σ H _ W fun es vs H1 ⟨hl, p⟩ s1 q1 => ?_⟩
 exact EvS.run_cu hm e (W.step s1) q1 hl hcf p z
end
def objG (F : List Addr) (H : Hp) (nb : Addr -> Prop) : Gx := ⟨none, fun a => if a ∈ F then none else H a, fun a => nb a /\ a ∉ F, []⟩
structure CuUp (c c' : Cu) : Prop where
 v : c'.v = c.v
 f : c'.f = false
 sub : ∀ a ∈ c.F, a ∈ c'.F
theorem CuUp.refl {c : Cu} (h : c.f = false) : CuUp c c := ⟨rfl, h, fun _ m => m⟩
def objE (G : Gx) (c : Cu) (Φ : Cu -> Pd) : DE where
 nx := fun ρ => ∃ c', ρ[0]? = some (.cu c') /\ CuUp c c' /\ Φ c' true .none
 rt := fun _ _ => False
 rw := fun nb ρ v H => ∃ c' f d, ρ[0]? = some (.cu c') /\ CuUp c c' /\ Φ c' f d /\ IsD (G.S nb f) H d v
section
variable {ρ : Rh} {t : TS} {N : List Str} {ws : List V} {ds : List PyData} {nb : Addr -> Prop} {H : Hp} {Q : VK} {Φ : Cu -> Pd} {c : Cu}
theorem Sv.enterC (hl : Live nb H) (hF : ∀ a ∈ c.F, nb a) (hf : c.f = false) (hP : c.P nb H) (hd : IsDs nb H ds ws)
    (hΦ : ∀ c' f d v H', Φ c' f d -> CuTo c c' H H' -> c'.P (fun a => nb a \/ a ∈ c'.F) H' -> IsD (fun a => nb a \/ a ∈ c'.F \/ (f = true /\ H a ≠ none)) H' d v -> Q v H')
    (hρ : ρ = .cu c :: ds.map (Sl.d false) ++ List.replicate (N.length - (ds.length + 1)) .no) (h : Sv (objG c.F H nb) ρ t (objE (objG c.F H nb) c Φ)) : t { nx := fun _ H' => Q .non H', rt := Q } (start N (c.v :: ws)) H := by
  have hlen := hd.length
  have hNB : ∀ a, NB (objG c.F H nb).B a := fun a b l e => by cases e
  have key : ∀ {nb' ρ' σ' H' c'} {f : Bool} {d : PyData} {v : V}, Wd (objG c.F H nb) nb' ρ' σ' H' -> ρ'[0]? = some (.cu c') -> CuUp c c' -> Φ c' f d -> IsD ((objG c.F H nb).S nb' f) H' d v -> Q v H' := fun {nb' ρ' σ' H' c' f d v} W e up p hv => by
    obtain ⟨x0, e1, h1, h2, h3⟩ := W.ok 0 _ e
    have inS : ∀ (f : Bool) a, nb a \/ a ∈ c'.F \/ (f = true /\ H a ≠ none) -> (objG c.F H nb).S nb' f a := fun f a z => by
      by_cases m : a ∈ c'.F
      · exact .inl (h2 a m).1
      have m' : a ∉ c.F := fun z => m (up.sub a z)
      rcases z with z | z | z
      · exact .inr (.inl ⟨z, m'⟩)
      · exact absurd z m
      · exact .inr (.inr (.inr ⟨z.1, by show (if a ∈ c.F then none else H a) ≠ none; rw [if_neg m']; exact z.2⟩))
    refine hΦ c' f d v H' p ⟨up.v, up.f, up.sub, fun a m => ?_, fun a o n q => ?_, fun a m => W.live a (h2 a m).1⟩ (c'.av (fun a z => by rw [up.f]; exact inS false a (z.elim .inl fun z => .inr (.inl z))) h3) (hv.av (inS f))
    · have := W.nbo a (h2 a m).1 (h2 a m).2
      by_cases z : a ∈ c.F
      · exact .inl z
      · exact .inr (by have q : (if a ∈ c.F then none else H a) = none := this; rwa [if_neg z] at q)
    · exact W.old a o (hNB a) (by show (if a ∈ c.F then none else H a) = _; rw [if_neg n]; exact q)
  refine h (fun a => a ∈ c.F) _ H _ ⟨fun _ _ z => (by cases z), fun a z => hl a (hF a z), fun a o _ e => ?_, fun a z _ => by show (if a ∈ c.F then none else H a) = none; rw [if_pos z], fun a z => ?_, ?_, fun _ _ z => (by cases z), fun _ m => (by cases m), fun i s e => ?_, ?_, ?_, ?_⟩ ⟨fun nb' ρ' σ' H' ⟨c', e, up, p⟩ W => key W e up p .non, fun _ _ _ _ q _ => q.elim, fun _ _ _ _ q _ => q.elim, fun _ _ _ _ _ _ _ q _ _ => q.elim, fun nb' ρ' σ' v H' ⟨c', f, d, e, up, p, hv⟩ W => key W e up p hv⟩
  · have e : (if a ∈ c.F then none else H a) = some o := e
    by_cases z : a ∈ c.F
    · rw [if_pos z] at e; cases e
    · rwa [if_neg z] at e
  · show (if a ∈ c.F then none else H a) ≠ none
    rw [if_neg z.2]; exact hl a z.1
  · rw [hρ]; unfold start; simp [hlen]
  · rw [hρ] at e
    unfold start
    have av : ∀ a, (objG c.F H nb).S (fun a => a ∈ c.F) false a -> nb a := fun a z => by
      rcases z with z | z | z | z
      · exact hF a z
      · exact z.1
      · exact absurd (hNB a) z
      · cases z.1
    cases i with
    | zero => simp at e; subst e; exact ⟨some c.v, by simp, rfl, fun a m => ⟨m, hNB a⟩, by rw [hf]; exact c.av av hP⟩
    | succ i =>
      simp only [zq44x, zq32x, zq24x, zq27x] at e ⊢
      by_cases hi : i < ds.length
      · rw [zq19x (by rw [zq0x]; exact hi)] at e
        obtain ⟨v, d, hv, rfl, q⟩ := isDs_at hd e
        refine ⟨some v, ?_, v, rfl, q.av av⟩
        rw [zq19x (by rw [zq0x, hlen]; exact hi), zq16x, hv]; rfl
      · rw [zq15x (by rw [zq0x]; omega), zq22x] at e
        split at e
        · rename_i h'
          cases e
          refine ⟨none, ?_, trivial⟩
          rw [zq0x] at h'
          rw [zq15x (by rw [zq0x]; omega), zq22x, if_pos (by rw [zq0x, hlen]; exact h')]
        · cases e
  all_goals
    have sl : ∀ {i : Nat} {s : Sl}, ρ[i + 1]? = some s -> s.adr = [] := fun {i s} e1 => by
      rw [hρ] at e1
      simp only [zq44x, zq32x] at e1
      by_cases hi : i < ds.length
      · rw [zq19x (by rw [zq0x]; exact hi)] at e1
        obtain ⟨_, _, _, z, _⟩ := isDs_at hd e1
        subst z; rfl
      · rw [zq15x (by rw [zq0x]; omega), zq22x] at e1
        split at e1
        · cases e1; rfl
        · cases e1
    have s0 : ∀ {s : Sl}, ρ[0]? = some s -> s = .cu c := fun {s} e1 => by rw [hρ] at e1; simp at e1; exact e1.symm
  · intro i j a f as c2 g cs hij e1
    cases i with
    | zero => cases s0 e1
    | succ i => cases sl e1
  · intro i j a f as c2 g cs hij e1
    cases i with
    | zero => cases s0 e1
    | succ i => cases sl e1
  · intro i j c2 s hij e1 e2 a m
    cases i with
    | zero =>
      cases j with
      | zero => exact absurd rfl hij
      | succ j => rw [sl e2]; exact fun z => by cases z
    | succ i =>
      have := sl e1
      rw [show Sl.adr (.cu c2) = c2.F from rfl] at this
      rw [this] at m; cases m
end
end L2
set_option maxRecDepth 100000
set_option maxHeartbeats 4000000
namespace L2
open PySem PySem.Spec PyProof.Rows
theorem Kp.sub {S : Addr -> Prop} {F F' : List Addr} {H H' : Hp} (k : Kp S F H H') (h : ∀ a ∈ F', a ∈ F) : Kp S F' H H' := ⟨fun a m => k.own a (h a m), k.lst, k.tup, k.dic⟩
def ownCu (a : Addr) (ds : List PyData) : Cu where
 v := .ref a
 F := [a]
 f := false
 P := fun S H => ∃ xs, H a = some (.lst xs) /\ IsDs S H ds xs
 keep := fun k ⟨xs, h, q⟩ => ⟨xs, k.own _ (zq1x.mpr rfl) _ h, IsDs.kp k q⟩
 av := fun z ⟨xs, h, q⟩ => ⟨xs, h, q.av z⟩
 fresh := fun z ⟨xs, h, q⟩ => ⟨xs, h, q.fresh z⟩
inductive Fl where
 | d (d : PyData) | cu (c : Cu)
def Fl.adr : Fl -> List Addr
 | .d _ => []
 | .cu c => c.F
def FlOk (S : Addr -> Prop) (H : Hp) (v : V) : Fl -> Prop
 | .d d => IsD S H d v
 | .cu c => v = c.v /\ c.P S H
abbrev Fs := List (Str × Fl)
def FlsOk (S : Addr -> Prop) (H : Hp) : Fs -> List (Str × V) -> Prop
 | [], vs => vs = []
 | f :: fs, vs => ∃ v ws, vs = (f.1, v) :: ws /\ FlOk S H v f.2 /\ FlsOk S H fs ws
def insF (x dx : Addr) (fs : Fs) : List Addr := x :: dx :: fs.flatMap fun f => f.2.adr
theorem FlOk.map {S S' : Addr -> Prop} {H H' : Hp} {v : V} {fl : Fl} (h : FlOk S H v fl) (hd : ∀ d v, IsD S H d v -> IsD S' H' d v) (hc : ∀ c, fl = .cu c -> c.P S H -> c.P S' H') : FlOk S' H' v fl := by
 cases fl with
 | d d => exact hd _ _ h
 | cu c => exact ⟨h.1, hc c rfl h.2⟩
theorem FlsOk.map {S S' : Addr -> Prop} {H H' : Hp} : ∀ {fs : Fs} {vs : List (Str × V)}, FlsOk S H fs vs -> (∀ d v, IsD S H d v -> IsD S' H' d v) -> (∀ f ∈ fs, ∀ c, f.2 = .cu c -> c.P S H -> c.P S' H') -> FlsOk S' H' fs vs
 | [], _, h, _, _ => h
 | f :: fs, _, ⟨v, ws, e, h1, h2⟩, hd, hc => ⟨v, ws, e, h1.map hd (hc f (zq20x ..)), FlsOk.map h2 hd fun g m => hc g (zq12x _ m)⟩
theorem insF_mem {x dx : Addr} {fs : Fs} {f : Str × Fl} (h : f ∈ fs) {a : Addr} (m : a ∈ f.2.adr) : a ∈ insF x dx fs := zq12x _ (zq12x _ (zq108x.mpr ⟨f, h, m⟩))
def insCu (C x dx : Addr) (fs : Fs) : Cu where
 v := .ref x
 F := insF x dx fs
 f := false
 P := fun S H => (insF x dx fs).Nodup /\ H dx = some (.own x) /\ fs.length <= 900 /\ ∃ vs, H x = some (.ins C dx vs) /\ FlsOk S H fs vs
 keep := fun k ⟨n, h, l, vs, q, r⟩ => ⟨n, k.own _ (by simp [insF]) _ h, l, vs, k.own _ (by simp [insF]) _ q, r.map (fun d v z => IsD.kp k z) fun f m c e z => c.keep (k.sub fun a y => insF_mem m (by rw [e]; exact y)) z⟩
 av := fun z ⟨n, h, l, vs, q, r⟩ => ⟨n, h, l, vs, q, r.map (fun d v y => y.av z) fun f m c e y => c.av z y⟩
 fresh := fun z ⟨n, h, l, vs, q, r⟩ => ⟨n, h, l, vs, q, r.map (fun d v y => y.fresh z) fun f m c e y => c.fresh z y⟩
theorem FlsOk.get {S : Addr -> Prop} {H : Hp} {f : Str} {fl : Fl} : ∀ {fs : Fs} {vs : List (Str × V)}, FlsOk S H fs vs -> fs.lookup f = some fl -> ∃ v, vs.lookup f = some v /\ FlOk S H v fl
  | [], _, h, e => by simp at e
  | (g, x) :: fs, _, ⟨v, ws, e, h1, h2⟩, q => by
    subst e
    rw [zq23x] at q ⊢
    cases hb : (f == g) with
    | true => rw [hb] at q; cases q; exact ⟨v, rfl, h1⟩
    | false => rw [hb] at q; exact FlsOk.get h2 q
theorem FlsOk.no {S : Addr -> Prop} {H : Hp} {f : Str} : ∀ {fs : Fs} {vs : List (Str × V)}, FlsOk S H fs vs -> fs.lookup f = none -> vs.lookup f = none
  | [], _, h, e => by unfold FlsOk at h; subst h; rfl
  | (g, x) :: fs, _, ⟨v, ws, e, h1, h2⟩, q => by
    subst e
    rw [zq23x] at q ⊢
    cases hb : (f == g) with
    | true => rw [hb] at q; cases q
    | false => rw [hb] at q; exact FlsOk.no h2 q
def putFl (f : Str) (v : Fl) : Fs -> Fs
 | [] => [(f, v)]
 | (g, x) :: r => if g = f then (g, v) :: r else (g, x) :: putFl f v r
theorem FlsOk.put {S : Addr -> Prop} {H : Hp} {f : Str} {fl : Fl} {v : V} (hv : FlOk S H v fl) : ∀ {fs : Fs} {vs : List (Str × V)}, FlsOk S H fs vs -> FlsOk S H (putFl f fl fs) (putF f v vs)
  | [], _, h => by unfold FlsOk at h; subst h; exact ⟨v, [], rfl, hv, rfl⟩
  | (g, x) :: fs, _, ⟨w, ws, e, h1, h2⟩ => by
    subst e
    unfold putFl putF
    by_cases h : g = f
    · rw [if_pos h, if_pos h]; exact ⟨v, ws, rfl, hv, h2⟩
    · rw [if_neg h, if_neg h]; exact ⟨w, _, rfl, h1, FlsOk.put hv h2⟩
theorem FlsOk.len {S : Addr -> Prop} {H : Hp} : ∀ {fs : Fs} {vs : List (Str × V)}, FlsOk S H fs vs -> vs.length = fs.length
 | [], _, h => by unfold FlsOk at h; subst h; rfl
 | f :: fs, _, ⟨v, ws, e, h1, h2⟩ => by subst e; simp [FlsOk.len h2]
theorem insCu.is {C x dx : Addr} {fs : Fs} {m : Str} (hm : fs.lookup m = none) : ∀ S H, (insCu C x dx fs).P S H -> ∃ a dx' vs, (insCu C x dx fs).v = .ref a /\ H a = some (.ins C dx' vs) /\ vs.lookup m = none := fun S H ⟨n, h, l, vs, q, r⟩ => ⟨x, dx, vs, rfl, q, r.no hm⟩
section
variable {G : Gx} {ρ : Rh} {Φ : Pd} {ta tb te : TE} {t : TA} {i : Nat} {E : DE} {C x dx l : Addr} {fs : Fs} {K : PySem.W.Frag} {f m : Str} {d : PyData} {ds : List PyData}
theorem Wd.insAt {nb : Addr -> Prop} {σ : St} {H : Hp} (W : Wd G nb ρ σ H) (e : ρ[i]? = some (.cu (insCu C x dx fs))) : ∃ vs, σ[i]? = some (some (.ref x)) /\ (∀ a ∈ insF x dx fs, nb a /\ NB G.B a) /\ (insF x dx fs).Nodup /\ H dx = some (.own x) /\ fs.length <= 900 /\ H x = some (.ins C dx vs) /\ FlsOk (G.S nb false) H fs vs := by
 obtain ⟨x0, e1, h1, h2, n, h, l, vs, q, r⟩ := W.ok i _ e
 subst h1
 exact ⟨vs, e1, h2, n, h, l, q, r⟩
theorem Ev.fld (e : ρ[i]? = some (.cu (insCu C x dx fs))) (cl : Cls K C) (na : NoAttr K C f) (hl : fs.lookup f = some (.d d)) (h : Φ false d) : Ev G ρ (tFld K (tVar i) f) Φ := fun nb σ H Q W z => by
 obtain ⟨vs, e1, h2, n, h3, l, q, r⟩ := W.insAt e
 obtain ⟨v, g1, g2⟩ := r.get hl
 exact ⟨.ref x, e1, x, C, dx, vs, v, rfl, q, cl, na, g1, z false v H d h (.refl W.bag) g2⟩
theorem lookup_mem {fl : Fl} : ∀ {fs : Fs}, fs.lookup f = some fl -> (f, fl) ∈ fs
  | [], h => by simp at h
  | (g, y) :: r, h => by
    rw [zq23x] at h
    cases hb : (f == g) with
    | true => rw [hb] at h; cases h; rw [beq_iff_eq.mp hb]; exact zq20x ..
    | false => rw [hb] at h; exact zq12x _ (lookup_mem h)
theorem fld_mem {fl : Fl} (hl : fs.lookup f = some fl) {a : Addr} (m : a ∈ fl.adr) : a ∈ insF x dx fs := insF_mem (lookup_mem hl) m
theorem fld_cu {nb : Addr -> Prop} {σ : St} {H : Hp} {Q : VK} {c : Cu} (W : Wd G nb ρ σ H) (e : ρ[i]? = some (.cu (insCu C x dx fs))) (cl : Cls K C) (na : NoAttr K C f) (hl : fs.lookup f = some (.cu c))
  (z : (∀ a ∈ c.F, nb a /\ NB G.B a) -> c.P (G.S nb false) H -> Q c.v H) : tFld K (tVar i) f σ H Q := by
 obtain ⟨vs, e1, h2, n, h3, len, q, r⟩ := W.insAt e
 obtain ⟨v, g1, g2, g3⟩ := r.get hl
 exact ⟨.ref x, e1, x, C, dx, vs, v, rfl, q, cl, na, g1, by rw [g2]; exact z (fun a m => h2 a (fld_mem hl m)) g3⟩
theorem putFl_adr {fl fl' : Fl} (h' : fl'.adr = fl.adr) : ∀ {fs : Fs}, fs.lookup f = some fl -> ((putFl f fl' fs).flatMap fun g => g.2.adr) = fs.flatMap fun g => g.2.adr
  | [], h => by simp at h
  | (g, y) :: r, h => by
    unfold putFl
    rw [zq23x] at h
    cases hb : (f == g) with
    | true =>
      rw [hb] at h; cases h
      rw [if_pos (beq_iff_eq.mp hb).symm, zq81x, zq81x, h']
    | false =>
      rw [hb] at h
      rw [if_neg (fun z => by rw [z, beq_self_eq_true] at hb; cases hb), zq81x, zq81x, putFl_adr h' h]
theorem putFl_len {fl fl' : Fl} : ∀ {fs : Fs}, fs.lookup f = some fl -> (putFl f fl' fs).length = fs.length
  | [], h => by simp at h
  | (g, y) :: r, h => by
    unfold putFl
    rw [zq23x] at h
    cases hb : (f == g) with
    | true => rw [if_pos (beq_iff_eq.mp hb).symm]; rfl
    | false =>
      rw [hb] at h
      rw [if_neg (fun z => by rw [z, beq_self_eq_true] at hb; cases hb), zq27x, zq27x, putFl_len h]
theorem FlOk.wr {S : Addr -> Prop} {H : Hp} {v : V} {fl : Fl} {p : Addr} {o : HO} (hS : S p) (hp : p ∉ fl.adr) (h : FlOk S H v fl) : FlOk S (upd H p o) v fl :=
 h.map (fun d v z => z.keep (But.set hS)) fun c e z => c.keep (.of fun a o' m q => by
  rw [upd_ne]
  ·exact q
  ·rintro rfl
   rcases m with m | m
   ·exact m hS
   ·rw [e] at hp; exact hp m) z
theorem FlsOk.wrs {S : Addr -> Prop} {H : Hp} {p : Addr} {o : HO} (hS : S p) : ∀ {fs : Fs} {vs : List (Str × V)}, (p ∉ fs.flatMap fun g => g.2.adr) -> FlsOk S H fs vs -> FlsOk S (upd H p o) fs vs
  | [], _, _, h => h
  | g :: fs, _, hp, ⟨v, ws, e, h1, h2⟩ => by
    rw [zq81x, zq53x] at hp
    exact ⟨v, ws, e, h1.wr hS fun z => hp (.inl z), FlsOk.wrs hS (fun z => hp (.inr z)) h2⟩
theorem FlsOk.wr {S : Addr -> Prop} {H : Hp} {p : Addr} {o : HO} {c c' : Cu} (hS : S p) (hp : p ∈ c.F) (hv : c'.v = c.v) (hc : c'.P S (upd H p o)) : ∀ {fs : Fs} {vs : List (Str × V)}, (fs.flatMap fun g => g.2.adr).Nodup -> fs.lookup f = some (.cu c) -> FlsOk S H fs vs -> FlsOk S (upd H p o) (putFl f (.cu c') fs) vs
  | [], _, _, h, _ => by simp at h
  | (g, y) :: r, _, hn, h, ⟨v, ws, e, h1, h2⟩ => by
    unfold putFl
    rw [zq81x, zq126x] at hn
    rw [zq23x] at h
    cases hb : (f == g) with
    | true =>
      rw [hb] at h; cases h
      rw [if_pos (beq_iff_eq.mp hb).symm]
      exact ⟨v, ws, e, ⟨by rw [hv]; exact h1.1, hc⟩, FlsOk.wrs hS (fun z => hn.2.2 p hp p z rfl) h2⟩
    | false =>
      rw [hb] at h
      rw [if_neg (fun z => by rw [z, beq_self_eq_true] at hb; cases hb)]
      exact ⟨v, ws, e, h1.wr hS fun z => hn.2.2 p z p (zq108x.mpr ⟨_, lookup_mem h, hp⟩) rfl, FlsOk.wr hS hp hv hc hn.2.1 h h2⟩
theorem Wd.wrFld {nb : Addr -> Prop} {σ : St} {H : Hp} {c c' : Cu} {p : Addr} {o : HO} (W : Wd G nb ρ σ H) (e : ρ[i]? = some (.cu (insCu C x dx fs))) (hl : fs.lookup f = some (.cu c)) (hp : p ∈ c.F) (hv : c'.v = c.v) (hF : c'.F = c.F) (h : c'.P (G.S nb false) (upd H p o)) :
  Wd G nb (ρ.set i (.cu (insCu C x dx (putFl f (.cu c') fs)))) σ (upd H p o) := by
 obtain ⟨vs, e1, h2, n, h3, len, q, r⟩ := W.insAt e
 have hpm : p ∈ insF x dx fs := fld_mem hl hp
 have hS : G.S nb false p := .inl (h2 p hpm).1
 have hn := n
 unfold insF at hn
 obtain ⟨n1, n2⟩ := zq43x.mp hn
 obtain ⟨n3, n4⟩ := zq43x.mp n2
 have hin : p ∈ fs.flatMap fun g => g.2.adr := zq108x.mpr ⟨_, lookup_mem hl, hp⟩
 have hpx : x ≠ p := fun z => n1 (by rw [z]; exact zq12x _ hin)
 have hpd : dx ≠ p := fun z => n3 (by rw [z]; exact hin)
 have eF : insF x dx (putFl f (.cu c') fs) = insF x dx fs := by unfold insF; rw [putFl_adr (fl := .cu c) (fl' := .cu c') hF hl]
 refine W.writeCu (c' := insCu C x dx (putFl f (.cu c') fs)) e hpm rfl (fun a m => by rw [show (insCu C x dx (putFl f (.cu c') fs)).F = insF x dx fs from eF] at m; exact m) ?_
 exact ⟨by rw [eF]; exact n, by rw [upd_ne hpd]; exact h3, by rw [putFl_len hl]; exact len, vs, by rw [upd_ne hpx]; exact q, FlsOk.wr hS hp hv h n4 hl r⟩
theorem FlsOk.put' {S : Addr -> Prop} {H : Hp} {fl : Fl} {v : V} {p : Addr} {o : HO} (hS : S p) (hv : FlOk S (upd H p o) v fl) {fs : Fs} {vs : List (Str × V)} (hp : p ∉ fs.flatMap fun g => g.2.adr) (h : FlsOk S H fs vs) : FlsOk S (upd H p o) (putFl f fl fs) (putF f v vs) := FlsOk.put hv (FlsOk.wrs hS hp h)
theorem putFl_new {fl : Fl} : ∀ {fs : Fs}, fs.lookup f = none -> putFl f fl fs = fs ++ [(f, fl)]
  | [], _ => rfl
  | (g, y) :: r, h => by
    unfold putFl
    rw [zq23x] at h
    cases hb : (f == g) with
    | true => rw [hb] at h; cases h
    | false =>
      rw [hb] at h
      rw [if_neg (fun z => by rw [z, beq_self_eq_true] at hb; cases hb), putFl_new h]; rfl
theorem Sv.fldD (e : ρ[i]? = some (.cu (insCu C x dx fs))) (cl : Cls K C) (na : NoAttr K C f) (hl : fs.lookup f = none \/ ∃ d0, fs.lookup f = some (.d d0)) (hlen : fs.length < 900) (h : Ev G ρ te fun _ d => E.nx (ρ.set i (.cu (insCu C x dx (putFl f (.d d) fs))))) : Sv G ρ (sFld K (tVar i) te f) E := fun nb σ H D W KK =>
 h nb σ H _ W fun fg v H1 d q s1 hv => by
  have W1 := W.step s1
  obtain ⟨vs, e1, h2, n, h3, len, qx, r⟩ := W1.insAt e
  have hxS : G.S nb false x := .inl (h2 x (by simp [insF])).1
  have hn := n
  unfold insF at hn
  obtain ⟨n1, n2⟩ := zq43x.mp hn
  have hdx : dx ≠ x := fun z => n1 (by rw [z]; exact zq20x ..)
  have hx : x ∉ fs.flatMap fun g => g.2.adr := fun z => n1 (zq12x _ z)
  have eF : insF x dx (putFl f (.d d) fs) = insF x dx fs := by
   unfold insF
   rcases hl with hl | ⟨d0, hl⟩
   ·rw [putFl_new hl, zq158x]
    show _ :: _ :: (_ ++ ([] ++ [])) = _
    rw [zq30x, zq30x]
   ·rw [putFl_adr (fl := .d d0) (fl' := .d d) rfl hl]
  have eL : (putFl f (.d d) fs).length <= 900 := by
   rcases hl with hl | ⟨d0, hl⟩
   ·rw [putFl_new hl, zq39x, zq54x]; omega
   ·rw [putFl_len hl]; exact len
  refine ⟨.ref x, e1, x, C, dx, vs, rfl, qx, cl, na, by rw [r.len]; omega, KK.nx nb _ _ _ q ?_⟩
  refine W1.writeCu (c' := insCu C x dx (putFl f (.d d) fs)) e (by show x ∈ insF x dx fs; simp [insF]) rfl (fun a m => by rw [show (insCu C x dx (putFl f (.d d) fs)).F = insF x dx fs from eF] at m; exact m) ?_
  refine ⟨by rw [eF]; exact n, by rw [upd_ne hdx]; exact h3, eL, _, upd_same, FlsOk.put' hxS ?_ hx r⟩
  exact (hv.av (S_mono (fun z => by cases z) fun _ z => z)).keep (But.set hxS)
theorem Wd.fldNew {nb : Addr -> Prop} {σ : St} {H H1 : Hp} {c : Cu} {vs : List (Str × V)} {l : Addr} (W : Wd G nb ρ σ H) (s1 : Step G.B H H1) (e : ρ[i]? = some (.cu (insCu C x dx fs))) (hl : fs.lookup f = none) (hlen : fs.length < 900) (hcF : c.F = [l]) (hcv : c.v = .ref l) (hln : H l = none) (hl1 : H1 l ≠ none)
  (hP : c.P (fun a => G.S nb false a \/ a = l) H1) (qx : H1 x = some (.ins C dx vs)) : Wd G (fun a => (nb a \/ a ∈ [l]) \/ a ∈ insF x dx (fs ++ [(f, .cu c)])) (ρ.set i (.cu (insCu C x dx (fs ++ [(f, .cu c)])))) σ (upd H1 x (.ins C dx (putF f c.v vs))) := by
 have hL1 : ∀ a ∈ [l], H a = none := fun a m => by rw [zq1x.mp m]; exact hln
 obtain ⟨vs0, e0, h20, _⟩ := W.insAt e
 have hlF : l ∉ insF x dx fs := fun z => W.live l (h20 l z).1 hln
 obtain ⟨W1, hN1, hA1⟩ := W.growL s1 hL1 (fun a m => by rw [zq1x.mp m]; exact hl1)
 obtain ⟨vs', e1, h2, n, h3, len, qx', r⟩ := W1.insAt e
 rw [qx] at qx'
 cases qx'
 have hn := n
 unfold insF at hn
 obtain ⟨n1, n2⟩ := zq43x.mp hn
 have hdx : dx ≠ x := fun z => n1 (by rw [z]; exact zq20x ..)
 have hx : x ∉ fs.flatMap fun g => g.2.adr := fun z => n1 (zq12x _ z)
 have hlx : l ≠ x := fun z => hlF (by rw [z]; simp [insF])
 have hxF : x ∈ insF x dx fs := by simp [insF]
 have eF : insF x dx (fs ++ [(f, .cu c)]) = insF x dx fs ++ [l] := by
  unfold insF
  rw [zq158x]
  show _ :: _ :: (_ ++ (c.F ++ [])) = _
  rw [hcF]
  rfl
 have hS : ∀ {a}, G.S (fun y => (nb y \/ y ∈ [l]) \/ y ∈ insF x dx (fs ++ [(f, .cu c)])) false a -> G.S (fun y => nb y \/ y ∈ [l]) false a := fun {a} z => by
  rcases z with (z | z) | z | z | z
  ·exact .inl z
  ·rw [eF, zq53x] at z
   rcases z with z | z
   ·exact .inl (h2 a z).1
   ·exact .inl (.inr z)
  ·exact .inr (.inl z)
  ·exact .inr (.inr (.inl z))
  ·exact .inr (.inr (.inr z))
 refine W1.setCu (c := insCu C x dx fs) (c' := insCu C x dx (fs ++ [(f, .cu c)])) e (fun a o na q => ?_) rfl (fun a m => ?_) (fun a m => ?_) ?_
 ·rw [upd_ne (fun z => na (by rw [z]; exact hxF))]; exact q
 ·rw [show (insCu C x dx (fs ++ [(f, .cu c)])).F = insF x dx fs ++ [l] from eF, zq53x] at m
  rcases m with m | m
  ·exact .inl m
  ·rw [zq1x.mp m]
   refine .inr (.inr ⟨.inr (zq1x.mpr rfl), hN1 l (zq1x.mpr rfl), fun j s hs z => ?_⟩)
   obtain ⟨y, _, q⟩ := W.ok j s hs
   exact W.live l (q.adr_nb l z).1 hln
 ·by_cases z : a = x
  ·rw [z, upd_same]; exact zq35x _
  ·rw [upd_ne z]
   rcases m with m | m
   ·exact W1.live a (h2 a m).1
   ·rw [show (insCu C x dx (fs ++ [(f, .cu c)])).F = insF x dx fs ++ [l] from eF, zq53x] at m
    rcases m with m | m
    ·exact W1.live a (h2 a m).1
    ·rw [zq1x.mp m]; exact hl1
 ·refine ⟨?_, by rw [upd_ne hdx]; exact h3, by rw [zq39x, zq54x]; omega, _, upd_same, ?_⟩
  ·rw [eF, zq126x]
   exact ⟨n, by simp, fun a m b m' z => hlF (by rw [zq1x.mp m'] at z; rw [<- z]; exact m)⟩
  ·have hxS : G.S (fun y => nb y \/ y ∈ [l]) false x := .inl (h2 x hxF).1
   have := FlsOk.put' (f := f) (fl := .cu c) (v := c.v) (o := .ins C dx (putF f c.v vs)) hxS ⟨rfl, c.keep (S := G.S (fun y => nb y \/ y ∈ [l]) false) (.of fun a o m q => ?_) (c.av (fun a z => ?_) hP)⟩ hx r
   ·rw [putFl_new hl] at this
    exact this.map (fun d v z => z.av fun a => hS) fun g m c' e z => c'.av (fun a => hS) z
   ·rw [upd_ne]
    ·exact q
    ·rintro rfl
     rcases m with m | m
     ·exact m hxS
     ·rw [hcF] at m; exact hlx (zq1x.mp m).symm
   ·rcases hA1 false a z with z | z
    ·exact .inl z
    ·exact .inr (zq1x.mp z)
theorem Sv.fldN (e : ρ[i]? = some (.cu (insCu C x dx fs))) (cl : Cls K C) (na : NoAttr K C f) (hl : fs.lookup f = none) (hlen : fs.length < 900) (h : EvN G ρ te fun _ ds => ∀ l, E.nx (ρ.set i (.cu (insCu C x dx (fs ++ [(f, .cu (ownCu l ds))]))))) : Sv G ρ (sFld K (tVar i) te f) E := fun nb σ H D W KK =>
 h nb σ H _ W fun fg l xs H1 ds q s1 hln el hd => by
  obtain ⟨vs, e1, h2, n, h3, len, qx, r⟩ := (W.step s1).insAt e
  refine ⟨.ref x, e1, x, C, dx, vs, rfl, qx, cl, na, by rw [r.len]; omega, KK.nx _ _ _ _ (q l) (W.fldNew (c := ownCu l ds) s1 e hl hlen rfl rfl hln (by rw [el]; exact zq35x _) ⟨xs, el, hd.av fun a z => ?_⟩ qx)⟩
  rcases z with z | z
  ·exact .inl (S_mono (fun w => by cases w) (fun _ w => w) a z)
  ·exact .inr z
theorem Sv.fldAt {l : Addr} (e : ρ[i]? = some (.cu (insCu C x dx fs))) (cl : Cls K C) (na : NoAttr K C f) (hl : fs.lookup f = some (.cu (ownCu l ds))) (h : Ev G ρ te fun _ d => Ev G ρ tb fun _ y => ∃ k j, y = .int k /\ ixN ds.length k = some j /\ E.nx (ρ.set i (.cu (insCu C x dx (putFl f (.cu (ownCu l (ds.set j d))) fs))))) : Sv G ρ (tAsg te (gSub (tFld K (tVar i) f) tb rSetL)) E := fun nb σ H D W KK =>
 h nb σ H _ W fun g v H1 d q s1 hv => fld_cu (W.step s1) e cl na hl fun hF ⟨xs, hx, hd⟩ => q nb σ H1 _ (W.step s1) fun g' u H2 y ⟨k, j, ey, hj, p⟩ s2 hu => by
  subst ey
  have W2 := (W.step s1).step s2
  have hlF := hF l (zq1x.mpr rfl)
  have hS : G.S nb false l := .inl hlF.1
  refine ⟨l, xs, k, j, rfl, hu.ofI, s2.1 _ _ hlF.2 hx, by rw [hd.length]; exact hj, KK.nx nb _ _ _ p (W2.wrFld (c := ownCu l ds) (c' := ownCu l (ds.set j d)) e hl (zq1x.mpr rfl) rfl rfl ⟨_, upd_same, ?_⟩)⟩
  exact (IsDs.set' ((hv.av (S_mono (fun z => by cases z) fun _ z => z)).keep s2.butS) j (hd.keep s2.butS)).keep (But.set hS)
def AvL (G : Gx) (ρ : Rh) (ta : TA) (Φ : List PyData -> Prop) : Prop := ∀ nb σ H (Q : List V -> Hp -> Prop), Wd G nb ρ σ H -> (∀ ds vs H', Φ ds -> Step G.B H H' -> IsDs (fun a => ¬ NB G.B a) H' ds vs -> Q vs H') -> ta σ H Q
theorem AvL.nil {Θ : List PyData -> Prop} (h : Θ []) : AvL G ρ tNil Θ := fun nb σ H Q W z => z [] [] H h (.refl W.bag) .nil
theorem AvL.cons {Θ : List PyData -> Prop} (h : Ev G ρ te fun _ d => AvL G ρ t fun ds => Θ (d :: ds)) : AvL G ρ (tCons te t) Θ := fun nb σ H Q W z =>
 h nb σ H _ W fun f v H1 d p1 s1 q1 => p1 nb σ H1 _ (W.step s1) fun ds vs H2 p2 s2 q2 => z _ _ H2 p2 (s1.trans s2) (.cons ((q1.av fun a y => .inr (.inr (.inl y))).keep (s2.but fun _ y => y)) q2)
theorem AvL.own {Θ : List PyData -> Prop} {a : Addr} {g : Bool} (e : ρ[i]? = some (.own a g ds)) (h : AvL G ρ t fun es => Θ (.list ds :: es)) : AvL G ρ (tCons (tVar i) t) Θ := fun nb σ H Q W z => by
 obtain ⟨x, e1, h1, h2, h3, xs, hx, hd⟩ := W.ok i _ e
 subst h1
 refine ⟨.ref a, e1, h nb σ H _ W fun es vs H2 p2 s2 q2 => z _ _ H2 p2 s2 (.cons ?_ q2)⟩
 exact .lst (fun y => y h3) (s2.1 _ _ h3 hx) ((hd.av fun a y => .inr (.inr (.inl y))).keep (s2.but fun _ y => y))
theorem Ev.callL {n : Nat} {F : DF} (hm : MonoF F) (h : AvL G ρ t fun ds => ds.length = n /\ F ds fun f d => (f = true \/ scB d = true) /\ Φ true d) : Ev G ρ (tCall (spD n F) [] E0 t) Φ := fun nb σ H Q W z =>
 h nb σ H _ W fun ds vs H1 ⟨hl, p⟩ s1 q1 => by
  have W1 := W.step s1
  rw [zq30x]
  refine ⟨by rw [q1.length, hl], fun a => ¬ NB G.B a, ds, fun a y => NB.bag_live W1.bag y, q1, hm _ _ _ p fun f d ⟨hf, hp⟩ v H' sm hd => z true v H' d hp (s1.trans (.same W1.bag sm)) ?_⟩
  rcases hf with hf | hf
  ·exact hd.av fun a y => .inr ⟨hf, W1.liveS (f := true) a y⟩
  ·exact hd.scAny hf
theorem Sv.make {n : Nat} {F : CF} (hm : MonoC F) (h : Av G ρ t fun es => es.length + 1 = n /\ ∀ x dx, F (insCu C x dx []) (es.map (·.2)) fun c' _ d => d = .none /\ E.nx (ρ.set i (.cu c'))) : Sv G ρ (tAsg (tMake C (spC n F) [] E0 t) (gName i)) E := fun nb σ H D W KK =>
 h nb σ H _ W fun es vs H1 ⟨hl, p⟩ s1 q1 x dx hx hdx hne => by
  have W1 := W.step s1
  have hsm : Same H1 (upd (upd H1 dx (.own x)) x (.ins C dx [])) := fun a o e => by
   rw [upd_ne (ne_of_none e hx), upd_ne (ne_of_none e hdx)]; exact e
  have lvS : ∀ a, G.S nb false a -> H1 a ≠ none := fun a y => W1.liveS a y
  have fD : IsDs (fun a => G.S nb false a \/ a ∈ [x, dx]) (upd (upd H1 dx (.own x)) x (.ins C dx [])) (es.map (·.2)) vs := by
   have hq := q1.all (f := false) fun z => by cases z
   generalize es.map (·.2) = dl at hq
   refine IsDs.keep (But.of hsm) ?_
   exact freshL (P := fun S => IsDs S H1 dl vs) (fun z h => IsDs.av z h) (fun hp h => IsDs.fresh hp h) (L := [x, dx]) (fun a m => by
    rcases zq2x.mp m with m | m
    ·rw [m]; exact hx
    ·rw [zq1x.mp m]; exact hdx) hq
  rw [zq30x]
  refine ⟨by rw [zq27x, q1.len, hl], fun a => G.S nb false a \/ a ∈ [x, dx], insCu C x dx [], vs, es.map (·.2), rfl, fun a y => ?_, fun a m => .inr m, rfl, ?_, fD, hm _ _ _ _ (p x dx) fun c' f d ⟨hd0, hp⟩ v H' to hP hd => ?_⟩
  ·rcases y with y | y
   ·cases e : H1 a with
    | none => exact absurd e (lvS a y)
    | some o => rw [hsm a o e]; exact zq35x _
   ·rcases zq2x.mp y with m | m
    ·rw [m, upd_same]; exact zq35x _
    ·rw [zq1x.mp m, upd_ne hne, upd_same]; exact zq35x _
  ·refine ⟨by simp [insF, zq6x hne], by rw [upd_ne hne, upd_same], by decide, [], upd_same, rfl⟩
  ·subst hd0
   refine ⟨hd.ofN, ?_⟩
   have hfr : ∀ a ∈ c'.F, H1 a = none := fun a m => by
    rcases to.new a m with y | y
    ·rcases zq2x.mp y with m | m
     ·rw [m]; exact hx
     ·rw [zq1x.mp m]; exact hdx
    ·cases e : H1 a with
     | none => rfl
     | some o => rw [hsm a o e] at y; cases y
   have st : Step G.B H1 H' := by
    have sm : Same H1 H' := fun a o e => to.kp a o (fun m => by
     rcases zq2x.mp m with m | m
     ·rw [m, hx] at e; cases e
     ·rw [zq1x.mp m, hdx] at e; cases e) (hsm a o e)
    exact .same W1.bag sm
   have := W1.cu_of (i := i) (c := c') st hfr to.lv (c'.av (fun a y => ?_) hP)
   ·rw [to.v] at this
    exact KK.nx _ _ _ _ hp this
   ·rw [to.f] at y
    rcases y with y | y
    ·exact .inl (.inl y)
    ·exact .inr y
end
end L2
set_option maxRecDepth 100000
set_option maxHeartbeats 4000000
namespace L2
open PySem PySem.Spec PyProof.Rows
def mdF (nd : PyData) (l : Addr) (wd : Wo) : Fs := [("net", .d nd), ("letters", .cu (ownCu l (wd.map optD)))]
theorem scAll_opts (wd : Wo) : scAll (wd.map optD) = true := by
 unfold scAll
 rw [zq73x]
 intro x hx
 obtain ⟨o, _, rfl⟩ := zq41x.mp hx
 cases o <;> rfl
theorem mdF_put (nd : PyData) (l : Addr) (wd wd' : Wo) : putFl "letters" (.cu (ownCu l (wd'.map optD))) (mdF nd l wd) = mdF nd l wd' := by
 unfold mdF putFl
 rw [if_neg (by decide +kernel)]
 unfold putFl
 rw [if_pos rfl]
end L2
set_option maxRecDepth 100000
set_option maxHeartbeats 4000000
namespace L2
open PySem PySem.Spec PyProof.Rows
theorem lostOf_len (wd : Wo) : (lostOf wd).length <= wd.length := by
 unfold lostOf
 rw [zq0x]
 exact zq26x (List.length_filter_le _ _) (by simp)
theorem EvF.evS {G : Gx} {ρ : Rh} {te : TE} {Θ : Bool -> List PyData -> Prop} (h : EvF G ρ te fun d => ∃ ds, d = .list ds /\ scAll ds = true /\ Θ true ds) : EvN G ρ te Θ := fun nb σ H Q W z =>
 h nb σ H _ W fun v H' d hh st hd => by
  obtain ⟨ds, e, hs, p⟩ := hh
  subst e
  obtain ⟨c, xs, rfl, n, hx, hds⟩ := hd.ofL
  exact z true c xs H' ds p st (zq40x fun z => n z) hx (IsDs.scAny hs hds)
end L2
set_option maxRecDepth 100000
set_option maxHeartbeats 4000000
set_option maxRecDepth 100000
set_option maxHeartbeats 4000000
set_option maxRecDepth 100000
set_option maxHeartbeats 4000000
namespace L2
open PySem PySem.Spec PyProof.Rows
inductive Oi where
 | own (b : Addr) | dat (x : PyData)
inductive OO where
 | lst (xs : List Oi) | tup (xs : List Oi) | dic (ks : List (Int × Oi))
abbrev Sto := List (Addr × OO)
end L2
set_option maxRecDepth 100000
set_option maxHeartbeats 4000000
set_option maxRecDepth 100000
set_option maxHeartbeats 4000000
set_option maxRecDepth 100000
set_option maxHeartbeats 4000000
set_option maxRecDepth 100000
set_option maxHeartbeats 4000000
set_option maxRecDepth 100000
set_option maxHeartbeats 4000000
set_option maxRecDepth 100000
set_option maxHeartbeats 4000000
set_option maxRecDepth 100000
set_option maxHeartbeats 4000000
namespace L2
open PySem PySem.Spec PyProof.Rows
abbrev RF := Cu -> List PyData -> Pd -> Prop
def MonoR (F : RF) : Prop := ∀ c ds (Φ Ψ : Pd), F c ds Φ -> (∀ f d, Φ f d -> Ψ f d) -> F c ds Ψ
def spR (n : Nat) (F : RF) : Sp := fun vs H Q _ => vs.length = n /\ ∃ (nb : Addr -> Prop) (c : Cu) (ws : List V) (ds : List PyData), vs = c.v :: ws /\ Live nb H /\ (∀ a ∈ c.F, ¬ nb a /\ H a ≠ none) /\ c.P nb H /\ IsDs nb H ds ws /\
 F c ds fun f d => ∀ v H', Same H H' -> IsD (fun a => nb a \/ (f = true /\ H a ≠ none)) H' d v -> Q v H'
theorem spR_out {n : Nat} {F : RF} {vs : List V} {H : Hp} {Q : VK} {E : XK} (h : spR n F vs H Q E) : ∃ (nb : Addr -> Prop) (c : Cu) (ws : List V) (ds : List PyData) (Φ : Pd), vs = c.v :: ws /\ Live nb H /\ (∀ a ∈ c.F, ¬ nb a /\ H a ≠ none) /\ c.P nb H /\ IsDs nb H ds ws /\ (∀ f d v H', Φ f d -> Same H H' -> IsD (fun a => nb a \/ (f = true /\ H a ≠ none)) H' d v -> Q v H') /\ F c ds Φ := by
 obtain ⟨_, nb, c, ws, ds, e, h1, h2, h3, h4, h5⟩ := h
 exact ⟨nb, c, ws, ds, _, e, h1, h2, h3, h4, fun f d v H' q => q v H', h5⟩
section
variable {ρ : Rh} {t : TS} {N : List Str} {ws : List V} {ds : List PyData} {nb : Addr -> Prop} {H : Hp} {Q : VK} {Φ : Pd} {c : Cu}
abbrev rdG (H : Hp) (nb : Addr -> Prop) (c : Cu) : Gx := ⟨none, H, nb, [(false, .th c, c.v)]⟩
theorem Sv.enterR (hl : Live nb H) (hF : ∀ a ∈ c.F, ¬ nb a /\ H a ≠ none) (hP : c.P nb H) (hd : IsDs nb H ds ws) (hΦ : ∀ f d v H', Φ f d -> Same H H' -> IsD (fun a => nb a \/ (f = true /\ H a ≠ none)) H' d v -> Q v H')
    (hρ : ρ = .raw c.v :: ds.map (Sl.d false) ++ List.replicate (N.length - (ds.length + 1)) .no) (h : Sv (rdG H nb c) ρ t { nx := fun _ => Φ true .none, rt := Φ }) : t { nx := fun _ H' => Q .non H', rt := Q } (start N (c.v :: ws)) H := by
  have hlen := hd.length
  have hNB : ∀ a, NB (rdG H nb c).B a := fun a b l e => by cases e
  have sm : ∀ {nb' ρ' σ' H'}, Wd (rdG H nb c) nb' ρ' σ' H' -> Same H H' := fun W a o e => W.old a o (hNB a) e
  have av : ∀ a, (rdG H nb c).S (fun _ => False) false a -> nb a := fun a z => by
    rcases z with z | z | z | z
    · exact z.elim
    · exact z
    · exact absurd (hNB a) z
    · cases z.1
  have sl : ∀ {i : Nat} {s : Sl}, ρ[i]? = some s -> s.adr = [] := fun {i s} e1 => by
    rw [hρ] at e1
    cases i with
    | zero => simp at e1; subst e1; rfl
    | succ i =>
      simp only [zq44x, zq32x] at e1
      by_cases hi : i < ds.length
      · rw [zq19x (by rw [zq0x]; exact hi)] at e1
        obtain ⟨_, _, _, z, _⟩ := isDs_at hd e1
        subst z; rfl
      · rw [zq15x (by rw [zq0x]; omega), zq22x] at e1
        split at e1
        · cases e1; rfl
        · cases e1
  refine h (fun _ => False) _ H _ ⟨fun _ _ z => (by cases z), fun _ z => z.elim, fun _ _ _ e => e, fun _ z => z.elim, hl, ?_, fun _ _ z => (by cases z), fun x m => ?_, fun i s e => ?_, ?_, ?_, ?_⟩ ⟨fun nb' ρ' σ' H' q W => hΦ _ _ _ _ q (sm W) .non, fun _ _ _ _ q _ => q.elim, fun _ _ _ _ q _ => q.elim, fun nb' ρ' σ' f v H' d q W hv => hΦ f d v H' q (sm W) (hv.av fun a z => ?_), fun _ _ _ _ _ q _ => q.elim⟩
  · rw [hρ]; unfold start; simp [hlen]
  · rw [zq1x.mp m]
    exact ⟨rfl, fun a m => ⟨fun z => (hF a m).1 (av a z), (hF a m).2⟩, c.av av hP⟩
  · rw [hρ] at e
    unfold start
    cases i with
    | zero => simp at e; subst e; exact ⟨some c.v, by simp, rfl⟩
    | succ i =>
      simp only [zq44x, zq32x, zq24x, zq27x] at e ⊢
      by_cases hi : i < ds.length
      · rw [zq19x (by rw [zq0x]; exact hi)] at e
        obtain ⟨v, d, hv, rfl, q⟩ := isDs_at hd e
        refine ⟨some v, ?_, v, rfl, q.av av⟩
        rw [zq19x (by rw [zq0x, hlen]; exact hi), zq16x, hv]; rfl
      · rw [zq15x (by rw [zq0x]; omega), zq22x] at e
        split at e
        · rename_i h'
          cases e
          refine ⟨none, ?_, trivial⟩
          rw [zq0x] at h'
          rw [zq15x (by rw [zq0x]; omega), zq22x, if_pos (by rw [zq0x, hlen]; exact h')]
        · cases e
  · intro i j a f as c2 g cs hij e1
    cases sl e1
  · intro i j a f as c2 g cs hij e1
    cases sl e1
  · intro i j c2 s hij e1 e2 a m
    have := sl e1
    rw [show Sl.adr (.cu c2) = c2.F from rfl] at this
    rw [this] at m; cases m
  · rcases z with z | z
    · exact .inr (.inl z)
    · exact .inr (.inr (.inr z))
end
section
variable {G : Gx} {ρ : Rh} {Φ : Pd} {ta tb te : TE} {t : TA} {i n : Nat} {E : DE} {C x dx l : Addr} {fs : Fs} {K : PySem.W.Frag} {f m : Str} {d : PyData} {ds : List PyData} {c : Cu} {F : RF}
theorem run_r {nb : Addr -> Prop} {σ : St} {H1 : Hp} {Q : VK} {vs : List V} (hm : MonoR F) (W1 : Wd G nb ρ σ H1) (q1 : IsDs (fun a => ¬ NB G.B a) H1 ds vs) (hcF : ∀ a ∈ c.F, NB G.B a /\ H1 a ≠ none) (hcP : c.P (fun a => ¬ NB G.B a) H1) (hl : ds.length + 1 = n) (p : F c ds fun f d => (f = true \/ scB d = true) /\ Φ true d)
  (z : ∀ f v H' d, Φ f d -> Step G.B H1 H' -> IsD (G.S nb f) H' d v -> Q v H') : spR n F (c.v :: (vs ++ [])) H1 Q E0 := by
 rw [zq30x]
 refine ⟨by rw [zq27x, q1.length, hl], fun a => ¬ NB G.B a, c, vs, ds, rfl, fun a y => NB.bag_live W1.bag y, fun a m => ⟨fun y => y (hcF a m).1, (hcF a m).2⟩, hcP, q1, hm _ _ _ _ p fun f d ⟨hf, hp⟩ v H' sm hd => z true v H' d hp (.same W1.bag sm) ?_⟩
 rcases hf with hf | hf
 ·exact hd.av fun a y => .inr ⟨hf, W1.liveS (f := true) a y⟩
 ·exact hd.scAny hf
theorem cu_lent {nb : Addr -> Prop} {σ : St} {H : Hp} (W : Wd G nb ρ σ H) (e : ρ[i]? = some (.cu c)) (hcf : c.f = false) : (∀ a ∈ c.F, NB G.B a /\ H a ≠ none) /\ c.P (fun a => ¬ NB G.B a) H := by
 obtain ⟨x0, e1, h1, h2, h3⟩ := W.ok i _ e
 exact ⟨fun a m => ⟨(h2 a m).2, W.live a (h2 a m).1⟩, c.av (fun a y => .inr (.inr (.inl y))) h3⟩
theorem cu_keep {H H1 : Hp} (st : Step G.B H H1) (h : (∀ a ∈ c.F, NB G.B a /\ H a ≠ none) /\ c.P (fun a => ¬ NB G.B a) H) : (∀ a ∈ c.F, NB G.B a /\ H1 a ≠ none) /\ c.P (fun a => ¬ NB G.B a) H1 := by
 refine ⟨fun a m => ⟨(h.1 a m).1, ne_none_keep (h.1 a m).1 st (h.1 a m).2⟩, c.keep (.of fun a o m q => st.1 a o ?_ q) h.2⟩
 rcases m with m | m
 ·exact zq40x m
 ·exact (h.1 a m).1
theorem Ev.methR (hm : MonoR F) (e : ρ[i]? = some (.cu c)) (hcf : c.f = false) (hi : ∀ S H, c.P S H -> ∃ a dx fs, c.v = .ref a /\ H a = some (.ins C dx fs) /\ fs.lookup m = none)
  (h : AvL G ρ t fun ds => ds.length + 1 = n /\ F c ds fun f d => (f = true \/ scB d = true) /\ Φ true d) : Ev G ρ (tMeth C m (spR n F) [] E0 (tVar i) t) Φ := fun nb σ H Q W z => by
 obtain ⟨x0, e1, h1, h2, h3⟩ := W.ok i _ e
 subst h1
 obtain ⟨a, dx, fs, g1, g2, g3⟩ := hi _ _ h3
 refine ⟨c.v, e1, a, dx, fs, g1, g2, g3, h nb σ H _ W fun ds vs H1 ⟨hl, p⟩ s1 q1 => ?_⟩
 have k := cu_keep s1 (cu_lent W e hcf)
 exact run_r hm (W.step s1) q1 k.1 k.2 hl p fun f v H' d hp st hv => z f v H' d hp (s1.trans st) hv
theorem Ev.callR (hm : MonoR F) (e : ρ[i]? = some (.cu c)) (hcf : c.f = false) (h : AvL G ρ t fun ds => ds.length + 1 = n /\ F c ds fun f d => (f = true \/ scB d = true) /\ Φ true d) : Ev G ρ (tCall (spR n F) [] E0 (tCons (tVar i) t)) Φ := fun nb σ H Q W z => by
 obtain ⟨x0, e1, h1, h2, h3⟩ := W.ok i _ e
 subst h1
 refine ⟨c.v, e1, h nb σ H _ W fun ds vs H1 ⟨hl, p⟩ s1 q1 => ?_⟩
 have k := cu_keep s1 (cu_lent W e hcf)
 exact run_r hm (W.step s1) q1 k.1 k.2 hl p fun f v H' d hp st hv => z f v H' d hp (s1.trans st) hv
theorem Wd.held {nb : Addr -> Prop} {σ : St} {H : Hp} {v : V} (W : Wd G nb ρ σ H) (hh : (false, HD.th c, v) ∈ G.hold) : v = c.v /\ (∀ a ∈ c.F, ¬ G.S nb false a /\ H a ≠ none) /\ c.P (G.S nb false) H := W.hld _ hh
theorem Wd.heldR {nb : Addr -> Prop} {σ : St} {H : Hp} {v : V} (W : Wd G nb ρ σ H) (hh : (false, HD.th c, v) ∈ G.hold) : (∀ a ∈ c.F, NB G.B a /\ H a ≠ none) /\ c.P (fun a => ¬ NB G.B a) H := by
 obtain ⟨_, h2, h3⟩ := W.held hh
 exact ⟨fun a m => ⟨zq40x fun y => (h2 a m).1 (.inr (.inr (.inl y))), (h2 a m).2⟩, c.av (fun a y => .inr (.inr (.inl y))) h3⟩
inductive FlD : Fl -> PyData -> Prop
 | d {d : PyData} : FlD (.d d) d
 | own {l : Addr} {ds : List PyData} : FlD (.cu (ownCu l ds)) (.list ds)
theorem FlD.is {S : Addr -> Prop} {H : Hp} {v : V} {fl : Fl} (h : FlD fl d) (q : FlOk S H v fl) (hS : ∀ a ∈ fl.adr, ¬ S a) : IsD S H d v := by
 cases h with
 | d => exact q
 | own => obtain ⟨e, xs, hx, hd⟩ := q; rw [e]; exact .lst (hS _ (zq1x.mpr rfl)) hx hd
theorem Ev.fldH {fl : Fl} (e : ρ[i]? = some (.raw (.ref x))) (hh : (false, HD.th (insCu C x dx fs), V.ref x) ∈ G.hold) (cl : Cls K C) (na : NoAttr K C f) (hl : fs.lookup f = some fl) (hfl : FlD fl d) (h : Φ false d) : Ev G ρ (tFld K (tVar i) f) Φ := fun nb σ H Q W z => by
 obtain ⟨x0, e1, h1⟩ := W.ok i _ e
 have h1 : x0 = some (.ref x) := h1
 subst h1
 obtain ⟨_, h2, n, h3, len, vs, q, r⟩ := W.held hh
 obtain ⟨v, g1, g2⟩ := r.get hl
 exact ⟨.ref x, e1, x, C, dx, vs, v, rfl, q, cl, na, g1, z false v H d h (.refl W.bag) (hfl.is g2 fun a m => (h2 a (fld_mem hl m)).1)⟩
theorem AvL.held {Θ : List PyData -> Prop} {fl : Fl} (e : ρ[i]? = some (.raw (.ref x))) (hh : (false, HD.th (insCu C x dx fs), V.ref x) ∈ G.hold) (cl : Cls K C) (na : NoAttr K C f) (hl : fs.lookup f = some fl) (hfl : FlD fl d) (h : AvL G ρ t fun es => Θ (d :: es)) : AvL G ρ (tCons (tFld K (tVar i) f) t) Θ := AvL.cons (Ev.fldH e hh cl na hl hfl h)
end
end L2
set_option maxRecDepth 100000
set_option maxHeartbeats 4000000
set_option maxRecDepth 100000
set_option maxHeartbeats 4000000
set_option maxRecDepth 100000
set_option maxHeartbeats 4000000
set_option maxRecDepth 100000
set_option maxHeartbeats 4000000
set_option maxRecDepth 100000
set_option maxHeartbeats 4000000
namespace L2
open PySem PySem.Spec PyProof.Rows
def sumN : Nat -> (Nat -> Int) -> Int
 | 0, _ => 0
 | n + 1, f => sumN n f + f n
theorem sumN_succ {n : Nat} {f : Nat -> Int} : sumN (n + 1) f = sumN n f + f n := rfl
theorem sumN_congr {f g : Nat -> Int} : ∀ {n : Nat}, (∀ k, k < n -> f k = g k) -> sumN n f = sumN n g
 | 0, _ => rfl
 | n + 1, h => by unfold sumN; rw [sumN_congr fun k hk => h k (by omega), h n (by omega)]
theorem sumN_add {f g : Nat -> Int} : ∀ {n : Nat}, sumN n (fun k => f k + g k) = sumN n f + sumN n g
 | 0 => rfl
 | n + 1 => by rw [sumN_succ, sumN_succ, sumN_succ, sumN_add]; omega
theorem sumN_mul {a : Int} {f : Nat -> Int} : ∀ {n : Nat}, sumN n (fun k => a * f k) = a * sumN n f
 | 0 => by unfold sumN; simp
 | n + 1 => by unfold sumN; rw [sumN_mul, Int.mul_add]
theorem sumN_zero : ∀ {n : Nat}, sumN n (fun _ => 0) = 0
 | 0 => rfl
 | n + 1 => by unfold sumN; rw [sumN_zero]; rfl
theorem sumN_swap {f : Nat -> Nat -> Int} {n : Nat} : ∀ {m : Nat}, sumN n (fun k => sumN m fun c => f c k) = sumN m fun c => sumN n (f c)
  | 0 => sumN_zero
  | m + 1 => by
    show sumN n (fun k => sumN m (fun c => f c k) + f m k) = sumN m (fun c => sumN n (f c)) + sumN n (f m)
    rw [sumN_add, sumN_swap]
theorem sumN_le {f : Nat -> Int} {b : Int} : ∀ {n : Nat}, (∀ k, k < n -> f k <= b) -> sumN n f <= n * b
  | 0, _ => by unfold sumN; simp
  | n + 1, h => by
    unfold sumN
    have h1 := sumN_le (n := n) fun k hk => h k (by omega)
    have h2 := h n (by omega)
    rw [show ((n + 1 : Nat) : Int) * b = n * b + b by rw [Int.natCast_add, Int.add_mul]; simp]
    omega
theorem sumN_one {f : Nat -> Int} (hf : ∀ k, f k = 0 \/ f k = 1) : ∀ {n : Nat}, (∀ k k', k < k' -> k' < n -> ¬ (f k = 1 /\ f k' = 1)) -> sumN n f <= 1
  | 0, _ => by unfold sumN; omega
  | n + 1, h => by
    unfold sumN
    rcases hf n with e | e
    · have := sumN_one hf (n := n) fun k k' a b => h k k' a (by omega)
      omega
    · have : sumN n f = 0 := by
        rw [sumN_congr (g := fun _ => 0) fun k hk => (hf k).resolve_right fun z => h k n hk (by omega) ⟨z, e⟩]
        exact sumN_zero
      omega
theorem meet {I : Nat -> Nat -> Int} (hI : ∀ c k, I c k = 0 \/ I c k = 1) {n : Nat} : ∀ {m : Nat}, (∀ c d k k', c < d -> d < m -> k < k' -> k' < n -> ¬ (I c k = 1 /\ I d k = 1 /\ I c k' = 1 /\ I d k' = 1)) ->
    sumN n (fun k => sumN m (fun c => I c k) * (sumN m (fun c => I c k) - 1)) <= m * (m - 1)
  | 0, _ => by
    rw [sumN_congr (g := fun _ => 0) fun k _ => by unfold sumN; simp, sumN_zero]; simp
  | m + 1, h => by
    have ih := meet hI (n := n) (m := m) fun c d k k' a b => h c d k k' a (by omega)
    have e : sumN n (fun k => sumN (m + 1) (fun c => I c k) * (sumN (m + 1) (fun c => I c k) - 1)) = sumN n (fun k => sumN m (fun c => I c k) * (sumN m (fun c => I c k) - 1) + 2 * sumN m (fun c => I m k * I c k)) := by
      refine sumN_congr fun k _ => ?_
      rw [sumN_mul]
      show (sumN m (fun c => I c k) + I m k) * (sumN m (fun c => I c k) + I m k - 1) = _
      generalize sumN m (fun c => I c k) = D
      rcases hI m k with z | z <;> rw [z] <;> grind
    rw [e, sumN_add, sumN_mul, sumN_swap (f := fun c k => I m k * I c k)]
    have h2 : sumN m (fun c => sumN n fun k => I m k * I c k) <= m * 1 := sumN_le fun c hc => sumN_one (fun k => by rcases hI m k with z | z <;> rcases hI c k with y | y <;> rw [z, y] <;> simp) fun k k' hk hk' ⟨z1, z2⟩ => by
      refine h c m k k' hc (by omega) hk hk' ?_
      rcases hI m k with a | a <;> rcases hI c k with b | b <;> rcases hI m k' with a' | a' <;> rcases hI c k' with b' | b' <;> simp_all
    have e3 : ((m + 1 : Nat) : Int) * ((m + 1 : Nat) - 1) = (m : Int) * (m - 1) + 2 * m := by rw [Int.natCast_add]; grind
    omega
end L2
set_option maxRecDepth 100000
set_option maxHeartbeats 4000000
set_option maxRecDepth 100000
set_option maxHeartbeats 4000000
set_option maxRecDepth 100000
set_option maxHeartbeats 4000000
set_option maxRecDepth 100000
set_option maxHeartbeats 4000000
set_option maxRecDepth 100000
set_option maxHeartbeats 4000000
namespace L2
open PySem PySem.Spec PyProof.Rows
section
variable {p n m : Int} {c1 c2 cs : List Prs} {u w : List Int}
theorem trn_held {ws : List Int} (hV : VNet p n cs) (hl : ws.length = n.toNat) (hw : ∀ x ∈ ws, 0 <= x /\ x < p) (h : brk p cs ws = 0) : trnTo p cs ws n.toNat = [] := by
  have hb := List.countP_eq_zero.mp h
  refine List.flatMap_eq_nil_iff.mpr fun i hi => ?_
  have hi := zq93x.mp hi
  unfold trnAt
  have hmj : mjL (votesL p cs ws (i : Int)) (ws.getD i 0) = [] := by
    cases e : mjL (votesL p cs ws (i : Int)) (ws.getD i 0) with
    | nil => rfl
    | cons x r =>
      exfalso
      have hx : x ∈ mjL (votesL p cs ws (i : Int)) (ws.getD i 0) := by rw [e]; exact zq20x
      have hxf := zq69x.mp (List.mem_of_mem_take hx)
      have hg := hxf.2
      unfold goodV at hg
      rw [zq25x, decide_eq_true_eq] at hg
      refine hg.1 ?_
      have hm := hxf.1
      unfold votesL at hm
      obtain ⟨q, hq, rfl⟩ := zq41x.mp hm
      obtain ⟨c, prs, f, hc, _, _, rfl⟩ := vcTo_mem (zq3x _) hq
      have hz := hb prs (zq72x hc)
      have hz : dueSum prs (ws.map some) % p = 0 := by simpa using hz
      show (ws.getD (i : Int).toNat 0 - dueSum (cs.getD (c : Int).toNat []) (ws.map some) % p * sol p f 1) % p = _
      rw [Int.toNat_natCast, Int.toNat_natCast, show cs.getD c [] = prs by rw [zq79x, hc]; rfl, hz, Int.zero_mul, Int.sub_zero]
      have := hw (ws.getD i 0) (by rw [zq79x, zq21x (by omega)]; exact zq56x _)
      exact Int.emod_eq_of_lt this.1 this.2
  rw [hmj]; rfl
inductive Way (p : Int) (cs : List Prs) (n k : Nat) (ws : List Int) : Prop
 | held (hb : brk p cs ws = 0) (ht : trnTo p cs ws n = [])
 | rest (hb : brk p cs ws ≠ 0) (ht : trnTo p cs ws n = [])
 | on (hb : brk p cs ws ≠ 0) (ht : trnTo p cs ws n ≠ [])
theorem way (hV : VNet p n cs) {ws : List Int} (hl : ws.length = n.toNat) (hw : ∀ x ∈ ws, 0 <= x /\ x < p) (k : Nat) : Way p cs n.toNat k ws := by
 by_cases h1 : brk p cs ws = 0
 ·exact .held h1 (trn_held hV hl hw h1)
 by_cases h2 : trnTo p cs ws n.toNat = []
 ·exact .rest h1 h2
 ·exact .on h1 h2
end
end L2
set_option maxRecDepth 100000
set_option maxHeartbeats 4000000
set_option maxRecDepth 100000
set_option maxHeartbeats 4000000
set_option maxRecDepth 100000
set_option maxHeartbeats 4000000
set_option maxRecDepth 100000
set_option maxHeartbeats 4000000
namespace L2
open PySem PySem.Spec PyProof.Rows
def ApP (cs : List Prs) : Prop := cs.Pairwise fun a b => ∀ x y : Int, x ≠ y -> x ∈ a.map (·.1) -> y ∈ a.map (·.1) -> x ∈ b.map (·.1) -> y ∈ b.map (·.1) -> False
structure HNet (p n : Int) (cs : List Prs) (ws : List Int) : Prop where
 v : VNet p n cs
 a : ApP cs
 t : ∀ prs ∈ cs, dueSum prs (ws.map some) % p = 0
 l : ws.length = n.toNat
 r : ∀ x ∈ ws, 0 <= x /\ x < p
section
variable {p n : Int} {cs : List Prs} {ws xs O : List Int} {i : Nat}
theorem wr (h : HNet p n cs ws) (hi : i < n.toNat) : 0 <= ws.getD i 0 /\ ws.getD i 0 < p := by
 have := h.l
 exact h.r _ (by rw [zq79x, zq21x (by omega)]; exact zq56x _)
end
end L2
set_option maxRecDepth 100000
set_option maxHeartbeats 4000000
set_option maxRecDepth 100000
set_option maxHeartbeats 4000000
namespace L2
open PySem PySem.Spec PyProof.Rows
theorem filter_range (q : Nat -> Bool) (k : Nat) : (List.range (k + 1)).filter q = (List.range k).filter q ++ if q k = true then [k] else [] := by
 rw [zq90x, zq91x]
 congr 1
 rw [List.filter_cons, List.filter_nil]
section
variable {p n : Int} {d : Nat} {cs : List Prs} {ws L : List Int}
def only (cs : List Prs) (L : List Int) (x : Int) (c : Nat) : Prop := ((cs.getD c []).filter fun pr => decide (pr.1 ∈ L)).map (·.1) = [x]
end
end L2
set_option maxRecDepth 100000
set_option maxHeartbeats 4000000
namespace L2
open PySem PySem.Spec PyProof.Rows
section
variable {P : Program} {w : World} {H H' : Hp} {h h' : Heap} {a : Addr} {o : HO}
theorem ObjOk.there (x : ObjOk P w H h a o) : ∃ u, h.get? a = some u := by
 cases o with
 | lst xs => obtain ⟨_, _, _, _, e⟩ := x; exact ⟨_, e⟩
 | tup xs => obtain ⟨_, _, _, _, e, _⟩ := x; exact ⟨_, e⟩
 | dK kvs => obtain ⟨_, _, _, _, o, _, _, e, _⟩ := x; exact ⟨_, e⟩
 | dT kvs => obtain ⟨_, _, _, _, o, _, _, e, _⟩ := x; exact ⟨_, e⟩
 | set S n => obtain ⟨o, _, _, _, e, _⟩ := x; exact ⟨_, e⟩
 | ins C dx fs => obtain ⟨_, _, _, e, _⟩ := x; exact ⟨_, e⟩
 | own y => obtain ⟨_, e⟩ := x; exact ⟨_, e⟩
 | xd fs => obtain ⟨_, ⟨_, _, _, e, _⟩, _⟩ := x; exact ⟨_, e⟩
 | rng lo hi => obtain ⟨_, _, _, e⟩ := x; exact ⟨_, e⟩
 | frz ob u => obtain ⟨e, _⟩ := x; exact ⟨_, e⟩
 | tbl ps => exact ⟨_, x⟩
 | met f y => exact ⟨_, x⟩
 | ext φ => obtain ⟨_, ⟨_, e⟩, _⟩ := x; exact ⟨_, e⟩
end
def TrAt (h0 h : Heap) (H : Hp) (ea : Addr) (vs : Array Value) : Prop :=
 vs[1]? = some .none \/ ∃ T oT ts, vs[1]? = some (.ref T) /\ T ≠ ea /\ h0.get? T = none /\ H T = none /\ h.get? T = some oT /\ oT.data = .fields ts /\ ts[3]? = some .none
structure Fly (h0 h : Heap) (H : Hp) (ea : Addr) (C : Value) : Prop where
 new : h0.get? ea = none
 free : H ea = none
 at_ : ∃ oe vs a0, h.get? ea = some oe /\ oe.cls = C /\ oe.data = .fields vs /\ vs[0]? = some a0 /\ TrAt h0 h H ea vs
def Off (h : Heap) (ea b : Addr) : Prop := b ≠ ea /\ ∀ oe vs T, h.get? ea = some oe -> oe.data = .fields vs -> vs[1]? = some (.ref T) -> b ≠ T
def Trd (h : Heap) (ea : Addr) : Prop := ∃ oe vs T, h.get? ea = some oe /\ oe.data = .fields vs /\ vs[1]? = some (.ref T)
structure Stir (hid : List Addr) (h h' : Heap) : Prop where
 kp : ∀ b o, h.get? b = some o -> b ∉ hid -> h'.get? b = some o
 sl : ∀ b o, h.get? b = some o -> (∀ vs, o.data ≠ .fields vs) -> ∃ sl, h'.get? b = some { o with slots := sl }
theorem un_left {fs ex hid : List Addr} {H0 H : Hp} {h0 h h' : Heap} (u : Un fs ex H0 H h0 h) (st : Stir hid h h') (hh : ∀ b ∈ hid, h0.get? b = none \/ b ∈ fs) (hfs : ∀ b ∈ fs, ∀ o, h.get? b = some o -> ∀ vs, o.data ≠ .fields vs) : Un fs ex H0 H h0 h' := by
 have nh : ∀ b o, h0.get? b = some o -> b ∉ fs -> b ∉ hid := fun b o e hb z => by
  rcases hh b z with q | q
  ·rw [q] at e; cases e
  ·exact hb q
 refine ⟨fun b o e n hb hx => st.kp b o (u.keep b o e n hb hx) (nh b o e hb), fun b o e n hb hx => ?_, u.free, fun b o e hx => ?_, u.tups, u.frzs, u.tbls⟩
 ·obtain ⟨sl, e1⟩ := u.slot b o e n hb hx
  obtain ⟨sl', e2⟩ := st.sl b _ e1 (hfs b hb _ e1)
  exact ⟨sl', e2⟩
 ·obtain ⟨o', e1⟩ := u.there b o e hx
  by_cases hb : b ∈ fs
  ·obtain ⟨sl', e2⟩ := st.sl b _ e1 (hfs b hb _ e1)
   exact ⟨_, e2⟩
  ·exact ⟨o', st.kp b o' e1 (nh b o e hb)⟩
theorem HOk.stir {P : Program} {w : World} {H : Hp} {h h' : Heap} {hid : List Addr} (x : HOk P w H h) (st : Stir hid h h') (hn : ∀ b ∈ hid, H b = none) : HOk P w H h' := fun a o e =>
 (x a o e).stay (fun b u hb q => st.kp b u q fun z => by
  have n := hn b z
  rcases hb with rfl | hb
  ·rw [e] at n; cases n
  ·rw [hb] at n; cases n) (fun _ q => q) fun _ _ q => q
theorem funFr {h base base' : Heap} : ∀ (l : List Env), h.FunFrames base l -> (∀ b ∈ frs l, base'.get? b = none) -> h.FunFrames base' l
  | [], _, _ => trivial
  | env :: r, hl, hb => by
    obtain ⟨hk, ⟨L, o, hf, hn, ho, hd⟩, hr⟩ := hl
    have hm : ∀ b, b ∈ L :: frs r -> b ∈ frs (env :: r) := fun b z => by unfold frs; rw [zq61x, hf]; exact z
    exact ⟨hk, ⟨L, o, hf, hb L (hm L zq20x), ho, hd⟩, funFr r hr fun b z => hb b (hm b (zq12x _ z))⟩
structure Hid (h0 h : Heap) (H : Hp) (l : List Env) (ea : Addr) (hid : List Addr) : Prop where
 me : ea ∈ hid
 fr : ∀ b ∈ frs l, b ∈ hid
 un : ∀ b ∈ hid, H b = none
 old : ∀ b ∈ hid, b ∈ frs l \/ h0.get? b = none
 off : ∀ b, Off h ea b -> b ∉ frs l -> b ∉ hid
section
variable {P : Program} {w : World} {M : Model} {A : Around} {E : Value -> Shared -> Prop} {s : Shared} {env : Env} {outer : List Env} {L ea : Addr} {C : Value} {H : Hp} {h0 base : Heap} {Q : Unit -> Shared -> Prop}
theorem hid_stays {h : Heap} {l : List Addr} : (PySem.W.hideAll h l).StaysIn h := fun b o e => PySem.W.of_hideAll l e
theorem hid_new {h : Heap} {hid : List Addr} {l : List Env} {T : Addr} (hok : HOk P w H h) (hd : Hid h0 h H l ea hid) (h0s : ∀ b o, h0.get? b = some o -> ∃ o', h.get? b = some o') {h' : Heap} (ff : h'.FunFrames (PySem.W.hideAll h hid) l) {oT : Obj} {ts : Array Value}
  (e : (PySem.W.hideAll h hid).get? T = none) (eT : h'.get? T = some oT) (dT : oT.data = .fields ts) : h0.get? T = none /\ H T = none := by
 by_cases hm : T ∈ hid
 ·refine ⟨?_, hd.un T hm⟩
  rcases hd.old T hm with q | q
  ·obtain ⟨_, o, ho, n⟩ := ff.mem q
   rw [eT] at ho; cases ho
   exact absurd dT (n ts)
  ·exact q
 ·have hn : h.get? T = none := by
   cases z : h.get? T with
   | none => rfl
   | some o => rw [zq112x hid z hm] at e; cases e
  refine ⟨?_, ?_⟩
  ·cases z : h0.get? T with
   | none => rfl
   | some o => obtain ⟨o', z'⟩ := h0s T o z; rw [hn] at z'; cases z'
  ·cases z : H T with
   | none => rfl
   | some o => obtain ⟨o', z'⟩ := (hok T o z).there; rw [hn] at z'; cases z'
theorem fly_of {h h' : Heap} {hid : List Addr} {l : List Env} {a0 : Value} (F : Fly h0 h H ea C) (hok : HOk P w H h) (hd : Hid h0 h H l ea hid) (h0s : ∀ b o, h0.get? b = some o -> ∃ o', h.get? b = some o') (ff : h'.FunFrames (PySem.W.hideAll h hid) l)
  (t : h'.TracedW (PySem.W.hideAll h hid) ea C a0) : Fly h0 h' H ea C := by
 obtain ⟨oe, vs, T, oT, ts, e1, ⟨e2, e3⟩, e4, e5, e6, e7, e8, e9, e10⟩ := t
 obtain ⟨q1, q2⟩ := hid_new hok hd h0s ff e6 e8 e9
 exact ⟨F.new, F.free, oe, vs, a0, e1, e2, e4, e3, .inr ⟨T, oT, ts, e5, e7, q1, q2, e8, e9, e10⟩⟩
theorem hid_fr {h : Heap} {hid : List Addr} {l : List Env} (hd : Hid h0 h H l ea hid) (ff : h.FunFrames base l) : h.FunFrames (PySem.W.hideAll h hid) l :=
 funFr l ff fun b hb => zq60x hid (hd.fr b hb)
theorem stir_of {h h' : Heap} {hid : List Addr} (st : (PySem.W.hideAll h hid).StaysIn h') (sl : ∀ (b : Addr) (o : Obj), h.get? b = some o -> (∀ (vs : Array Value), o.data ≠ Data.fields vs) -> ∃ sl, h'.get? b = some { o with slots := sl }) : Stir hid h h' :=
 ⟨fun b o e hb => st b o (zq112x hid e hb), sl⟩
theorem hid_mk {h : Heap} {l : List Env} (F : Fly h0 h H ea C) (hfr : ∀ b ∈ frs l, H b = none) : ∃ hid, Hid h0 h H l ea hid /\ ∀ oe vs T, h.get? ea = some oe -> oe.data = .fields vs -> vs[1]? = some (.ref T) -> T ∈ hid := by
 obtain ⟨oe, vs, a0, e1, e2, e3, e4, t⟩ := F.at_
 rcases t with t | ⟨T, oT, ts, e5, e7, q1, q2, e8, e9, e10⟩
 ·refine ⟨ea :: frs l, ⟨zq20x, fun b hb => zq12x _ hb, fun b hb => ?_, fun b hb => ?_, ?_⟩, fun oe' vs' T' z1 z2 z3 => ?_⟩
  ·rcases zq2x.mp hb with rfl | hb
   ·exact F.free
   ·exact hfr b hb
  ·rcases zq2x.mp hb with rfl | hb
   ·exact .inr F.new
   ·exact .inl hb
  ·exact fun b ho nb hb => (zq2x.mp hb).elim ho.1 nb
  ·rw [e1] at z1; cases z1
   rw [e3] at z2; cases z2
   rw [t] at z3; cases z3
 ·refine ⟨ea :: T :: frs l, ⟨zq20x, fun b hb => zq12x _ (zq12x _ hb), fun b hb => ?_, fun b hb => ?_, ?_⟩, fun oe' vs' T' z1 z2 z3 => ?_⟩
  ·rcases zq2x.mp hb with rfl | hb
   ·exact F.free
   ·rcases zq2x.mp hb with rfl | hb
    ·exact q2
    ·exact hfr b hb
  ·rcases zq2x.mp hb with rfl | hb
   ·exact .inr F.new
   ·rcases zq2x.mp hb with rfl | hb
    ·exact .inr q1
    ·exact .inl hb
  ·intro b ho nb hb
   rcases zq2x.mp hb with z | hb
   ·exact ho.1 z
   ·rcases zq2x.mp hb with z | hb
    ·exact ho.2 oe vs T e1 e3 e5 z
    ·exact nb hb
  ·rw [e1] at z1; cases z1
   rw [e3] at z2; cases z2
   rw [e5] at z3; cases z3
   exact zq12x _ zq20x
theorem trd_of {h b : Heap} {a0 : Value} (t : h.TracedW b ea C a0) : Trd h ea := by
 obtain ⟨oe, vs, T, oT, ts, e1, ⟨e2, e3⟩, e4, e5, _⟩ := t
 exact ⟨oe, vs, T, e1, e4, e5⟩
theorem leave_ok (hA : A.frames = some (env :: outer)) (hf : s.heap.FunFrames base (env :: outer)) (hL : env.frame = some L) (F : Fly h0 s.heap H ea C) (hok : HOk P w H s.heap) (hfr : ∀ b ∈ frs (env :: outer), H b = none)
  (h0s : ∀ b o, h0.get? b = some o -> ∃ o', s.heap.get? b = some o')
  (q : ∀ h' hid, Stir hid s.heap h' -> Hid h0 s.heap H (env :: outer) ea hid -> Fly h0 h' H ea C -> Trd h' ea -> Q () { s with heap := h' }) : wpAny M A (leaving env (.ref ea)) Q E s := by
 obtain ⟨hid, hd, hT⟩ := hid_mk F hfr
 obtain ⟨oe, vs, a0, e1, e2, e3, e4, t⟩ := F.at_
 have fin : ∀ h', (PySem.W.hideAll s.heap hid).LeftW (env :: outer) ea C a0 s.heap h' -> Q () { s with heap := h' } := fun h' ⟨st, ff, tr, sl⟩ =>
  q h' hid (stir_of st sl) hd (fly_of F hok hd h0s ff tr) (trd_of tr)
 rcases t with t | ⟨T, oT, ts, e5, e7, q1, q2, e8, e9, e10⟩
 ·refine wpAny_leaving_firstW hA (hid_fr hd hf) hL e1 hid_stays (zq60x hid hd.me) e3 t e4 fun h' l => ?_
  rw [e2] at l
  exact fin h' l
 ·exact wpAny_leaving_nextW hA (hid_fr hd hf) hL ⟨oe, vs, T, oT, ts, e1, ⟨e2, e4⟩, e3, e5, zq60x hid (hT oe vs T e1 e3 e5), e7, e8, e9, e10⟩ hid_stays (zq60x hid hd.me) fin
end
def CX1 (P : Program) (w : World) : CXT := fun outer H s E e s' => ∃ ea C H', e = .ref ea /\ s'.os = s.os /\ AllBare s'.gens /\ Un (frs outer) [] H H' s.heap s'.heap /\ HOk P w H' s'.heap /\ Fly s.heap s'.heap H' ea C /\ Trd s'.heap ea /\ E C none H'
def XOk (X : Cx) (tr : Bool) (EX : St -> XK) : Prop := ∀ (pins : List (Addr × Obj)) (σ : St) (H : Hp) (s : Shared) (ea : Addr) (C : Value), Inv X pins σ H s -> Fly X.s₀.heap s.heap H ea C -> (∀ p ∈ X.pn ++ pins, Off s.heap ea p.1) -> (tr = true -> Trd s.heap ea) -> EX σ C none H -> X.xe (.ref ea) s
theorem xok_def {P : Program} {w : World} {K : PySem.W.Frag} {mg : Str -> Option Value} {base : Heap} {N : List Str} {qual : Str} {scope : Scope} {f : Addr} {cd : Value} {A : Around} {outer : List Env} {s₀ : Shared} {H₀ : Hp} {E : XK} {tr : Bool} :
  XOk (cxOf (CX1 P w) P w K mg base N qual scope f cd A outer s₀ H₀ E) tr (fun _ => E) := by
 intro pins σ H s ea C I F _ _ q
 show wpAny _ _ (leaving _ _) _ _ _
 refine leave_ok (h0 := s₀.heap) (base := base) (P := P) (w := w) I.ok.frames I.stack rfl F I.hok I.stkFree (fun b o e => I.base.there b o e (fun z => nomatch z)) fun h' hid st hd F' tr' => ?_
 have nf : ∀ b ∈ frs outer, ∀ o, s.heap.get? b = some o -> ∀ vs, o.data ≠ .fields vs := fun b hb o e => by
  obtain ⟨_, o', ho, n⟩ := I.funs.mem hb
  rw [e] at ho; cases ho
  exact n
 refine ⟨ea, C, H, rfl, I.os, I.bare, un_left I.base st (fun b hb => ?_) nf, I.hok.stir st hd.un, F', tr', q⟩
 rcases hd.old b hb with z | z
 ·rcases zq2x.mp (show b ∈ s₀.heap.objs.size :: frs outer from z) with rfl | z
  ·exact .inl (zq113x (zq3x _))
  ·exact .inr z
 ·exact .inl z
section
variable {X : Cx} {EX : St -> XK} {pins : List (Addr × Obj)} {σ : St} {H : Hp} {s s' : Shared} {e : Value}
theorem XOk.passes {tr : Bool} (x : XOk X tr EX) (hex : X.ex = []) (I : Inv X pins σ H s) (h : CX1 X.prog X.w X.stack H s (EX σ) e s') : X.xe e s' := by
 obtain ⟨ea, C, H', rfl, os, bare, un, hok, F, td, q⟩ := h
 obtain ⟨hh, g, d, t, os'⟩ := s'
 obtain rfl : os' = s.os := os
 have J := I.call (h' := hh) (g' := g) (d' := d) (t' := t) (ch := []) un hok bare (fun b z => nomatch z)
 have old : ∀ b, s.heap.get? b = none -> X.s₀.heap.get? b = none := fun b n => by
  cases z : X.s₀.heap.get? b with
  | none => rfl
  | some o => obtain ⟨o', z'⟩ := I.base.there b o z (by rw [hex]; exact fun z => nomatch z); rw [n] at z'; cases z'
 obtain ⟨n, fr, oe, vs, a0, e1, e2, e3, e4, t⟩ := F
 refine x pins σ H' _ ea C J ⟨old _ n, fr, oe, vs, a0, e1, e2, e3, e4, ?_⟩ (fun p hp => ?_) (fun _ => td) q
 ·rcases t with t | ⟨T, oT, ts, e5, e7, q1, q2, e8, e9, e10⟩
  ·exact .inl t
  ·exact .inr ⟨T, oT, ts, e5, e7, old _ q1, q2, e8, e9, e10⟩
 ·have hs := (I.pin p hp).1
  refine ⟨fun z => ?_, fun oe' vs' T' z1 z2 z3 z => ?_⟩
  ·rw [z, n] at hs; cases hs
  ·rw [e1] at z1; cases z1
   rw [e3] at z2; cases z2
   rcases t with t | ⟨T, oT, ts, e5, e7, q1, q2, e8, e9, e10⟩
   ·rw [t] at z3; cases z3
   ·rw [e5] at z3; cases z3
    rw [z, q1] at hs; cases hs
end
def tCallX (sp : Sp) (EX : St -> XK) (t : TA) : TE := fun σ H Q => t σ H fun vs H1 => sp vs H1 Q (EX σ)
def tMethX (C : Addr) (m : Str) (sp : Sp) (EX : St -> XK) (ta : TE) (t : TA) : TE := fun σ H Q => ta σ H fun x H1 => ∃ a dx fs, x = .ref a /\ H1 a = some (.ins C dx fs) /\ fs.lookup m = none /\
 t σ H1 fun vs H2 => sp (x :: vs) H2 Q (EX σ)
structure XCallee (P : Program) (w : World) (K : PySem.W.Frag) (mg : Str -> Option Value) (base : Heap) (x : Str) (k : Nat) (ps : List Str) (sp : Sp) : Prop where
 ex : ∃ f fd, FnOk P w K mg base (CX1 P w) k f fd ps sp /\ Binds K fd ps [] /\ mg x = some (.ref f) /\ PySem.W.keepIn K (.ref f) = true
structure XMCallee (P : Program) (w : World) (K : PySem.W.Frag) (mg : Str -> Option Value) (base : Heap) (C : Addr) (m : Str) (k : Nat) (ps : List Str) (sp : Sp) : Prop where
 cl : Cls K C
 ex : ∃ f fd, FnOk P w K mg base (CX1 P w) k f fd ps sp /\ Binds K fd ps [] /\ Meth K C m f
section
variable {X : Cx} {EX : St -> XK} {tr : Bool} {k : Nat} {f C : Addr} {fd : FuncData} {ps : List Str} {sp : Sp} {x m : Str} {p pos apos : Pos} {e o : Expr} {es : List Expr} {ta : TE} {t : TA}
theorem run_fnX {pins : List (Addr × Obj)} {σ : St} {H : Hp} {s : Shared} {Q : VK} {us : List Value} {vs : List V} (F : FnOk X.prog X.w X.K X.mg X.base (CX1 X.prog X.w) k f fd ps sp) (hr : Room k X.A) (hb : Binds X.K fd ps []) (hx : XOk X tr EX) (hex : X.ex = [])
    (I : Inv X pins σ H s) (r : Vals vs us) (h : sp vs H Q (EX σ)) : wpAny (model X.prog X.w) X.A (call (.ref f) us) (EP X pins σ Q) X.xe s := by
  have hl : us.length = ps.length := by rw [<- r.length]; exact F.len _ _ _ _ h
  have hb' := hb s us I.kIn (by rw [zq30x]; exact hl)
  rw [zq30x] at hb'
  refine wpAny_call (codeAny_mono (F.run X.A X.stack s H ⟨us, []⟩ us vs Q (EX σ) hr I.env0 hb' r h) fun r s' hq => ?_)
  cases r with
  | error e => exact hx.passes hex I hq
  | ok fl =>
    cases fl with
    | ret u => exact I.after hq
    | next => exact False.elim hq
    | brk => exact False.elim hq
    | cont => exact False.elim hq
theorem pe_callX (c : XCallee X.prog X.w X.K X.mg X.base x k ps sp) (hx : XOk X tr EX) (hex : X.ex = []) (hr : Room k X.A) (hg : Gl X x) (ha : PA X (e :: es) t)
  (hdb : (x == ("__debug__" : Str)) = false := by decide) (he : starEach (e :: es) X.env = (false, eval e X.env) :: starEach es X.env := by rfl) (hpl : (backTo pos (starEach es X.env)).any (·.1) = false := by rfl) :
  PE X (.Call (.Name x p) (e :: es) [] pos) (tCallX sp EX t) := by
 intro pins s σ H Q I h
 obtain ⟨f, fd, F, b, hm, hk⟩ := c.ex
 refine wpAny_Call_Name_kw (ld_glob I hg hm ?_ hdb)
 refine zq84x (h₀ := X.base) I.ok.mod.kin hk (thn (ha pos pins s σ H _ I h) fun us s1 ⟨vs, H1, I1, r, q⟩ => ⟨I1.kIn, ?_⟩) he hpl
 exact run_fnX F hr b hx hex I1 r q
theorem pe_methX {pl : Sem Bool} (c : XMCallee X.prog X.w X.K X.mg X.base C m k ps sp) (he : PE X o ta) (hx : XOk X tr EX) (hex : X.ex = []) (hr : Room k X.A) (ha : PA X (e :: es) t)
  (hst : starEach (e :: es) X.env = (false, eval e X.env) :: starEach es X.env := by rfl) (hpl : (backTo pos (starEach es X.env)).any (·.1) = false := by rfl)
  (ht : eval (.Call (.Attribute o m apos) (e :: es) [] pos) X.env = (do
   let ov <- eval o X.env
   standAt apos.atName
   let (f, first) <- holding [ov] (getMethod ov m pl)
   callWith pos f first (backTo pos (starEach (e :: es) X.env)) (backToKw pos (keywordEach [] X.env))) := by rfl) :
  PE X (.Call (.Attribute o m apos) (e :: es) [] pos) (tMethX C m sp EX ta t) := by
 intro pins s σ H Q I h
 obtain ⟨f, fd, F, b, hm⟩ := c.ex
 refine zq97x (pl := pl) (thn (he pins s σ H _ I h) fun u s1 ⟨x, H1, I1, rx, a, dx, fs, ex, ea, l, q⟩ => ?_) ht
 subst ex
 obtain rfl : u = Value.ref a := rx
 refine getmeth_ok I1 ea c.cl hm l ?_
 refine zq84x (first := [.ref a]) (h₀ := X.base) I.ok.mod.kin hm.kp (thn (ha pos pins s1 σ H1 _ I1 q) fun us s2 ⟨vs, H2, I2, r, q2⟩ => ⟨I2.kIn, ?_⟩) hst hpl
 exact run_fnX (us := .ref a :: us) (vs := .ref a :: vs) F hr b hx hex I2 (.cons rfl r) q2
end
section
variable {P : Program} {w : World} {K : PySem.W.Frag} {mg : Str -> Option Value} {base : Heap}
theorem Fun.okX {x qual : Str} {st : Stmt} {f : Addr} {fd : FuncData} {N ps : List Str} {k : Nat} {sp : Sp} (F : Fun K x qual st f fd) (S : FnScope N ps (defScope st)) (len : ∀ vs H Q E, sp vs H Q E -> vs.length = ps.length)
  (hbody : ∀ (cdv : Value) (A : Around) (outer : List Env) (s : Shared) (H : Hp) (vs : List V) (Q : VK) (E : XK), Room k (A.deeper (envOfC qual (defScope st) s.heap.objs.size f cdv)) -> sp vs H Q E ->
   ∃ t, PSs (cxOf (CX1 P w) P w K mg base N qual (defScope st) f cdv A outer s H E) (defBody st) t /\ t { nx := fun _ H' => Q .non H', rt := Q } (start N vs) H) : FnOk P w K mg base (CX1 P w) (k + 1) f fd ps sp := by
 obtain ⟨oc, od, kV, doc, pm, an, cdv, ct, osl, rfl, lk, hcd⟩ := F.ex
 exact fn_of lk hcd S len fun A outer s H vs Q E hr hsp => hbody cdv A outer s H vs Q E hr hsp
end
abbrev bmV : List Value := [.type "ValueError", .type "Exception", .type "BaseException", .type "object"]
structure XC (K : PySem.W.Frag) (C : Addr) (up : List Value) : Prop where
 ob : ∃ nm q N bs hdct sn sub ab col dd k0 k1 k2 k3 k5 mN, mN "__init__" = none /\ ∀ h : Heap, K.In h -> h.get? C = some (excClassObj nm q C N bs (up ++ bmV) hdct sn sub ab col dd k0 k1 k2 k3 k5 "ValueError.__new__") /\ h.Ns N mN /\ OwnTail h bmV (up ++ bmV)
 bse : (up ++ bmV).contains (Value.type "BaseException") = true
def tRaise (C : Addr) (EX : St -> XK) (t : TA) : TS := fun _ σ H => t σ H fun vs H1 => vs.length <= 1000 /\ EX σ (.ref C) none H1
section
variable {X : Cx} {EX : St -> XK} {x : Str} {C : Addr} {up : List Value} {e : Expr} {es : List Expr} {np cpos pos : Pos} {t : TA}
theorem ps_raise (hx : XOk X false EX) (hex : X.ex = []) (hc : XC X.K C up) (hcalm : X.calm = true) (hg : Gl X x) (hm : X.mg x = some (.ref C)) (ha : PA X (e :: es) t)
  (hdb : (x == ("__debug__" : Str)) = false := by decide) (he : starEach (e :: es) X.env = (false, eval e X.env) :: starEach es X.env := by rfl) (hpl : (backTo cpos (starEach (e :: es) X.env)).any (·.1) = false := by rfl) :
  PS X (.Raise (some (.Call (.Name x np) (e :: es) [] cpos)) none pos) (tRaise C EX t) := by
 intro pins s σ H D I h
 obtain ⟨nm, q, N, bs, hdct, sn, sub, ab, col, dd, k0, k1, k2, k3, k5, mN, hi, ho⟩ := hc.ob
 refine wpAny_Raise_call_subU (nm := nm) (q := q) (C := C) (N := N) (bs := bs) (bm := up ++ bmV) (bmB := bmV) (hdct := hdct) (sn := sn) (sub := sub) (ab := ab) (col := col) (dd := dd) (k0 := k0) (k1 := k1) (k2 := k2) (k3 := k3) (k5 := k5) (B := "ValueError") (Bn := "ValueError") (mN := mN) F.excBase_ValueError (by decide) F.excBase_ValueError hc.bse (I.ok.hd hcalm) hpl hi ?_
 refine ld_glob I hg hm ?_ hdb
 refine ⟨rfl, ?_⟩
 have h2 := ha cpos pins s σ H _ I h
 rw [he] at h2 ⊢
 refine PySem.Calls.evalArgs_plain (thn h2 fun us s2 ⟨vs, H2, I2, r, hl, qE⟩ => ?_)
 obtain ⟨z1, z2, z3⟩ := ho s2.heap I2.kIn
 refine ⟨rfl, ?_, z1, z2, z3, fun h' e' mk => ?_⟩
 ·show us.length <= sizeLine
  rw [<- r.length]
  exact zq26x hl (by decide)
 ·obtain ⟨t', q1, q2, q3⟩ := mk.there
  have old : ∀ b, s2.heap.get? b = none -> X.s₀.heap.get? b = none := fun b n => by
   cases z : X.s₀.heap.get? b with
   | none => rfl
   | some o => obtain ⟨o', z'⟩ := I2.base.there b o z (by rw [hex]; exact fun z => nomatch z); rw [n] at z'; cases z'
  have fr : H2 e' = none := by
   cases z : H2 e' with
   | none => rfl
   | some o => obtain ⟨o', z'⟩ := (I2.hok e' o z).there; rw [mk.new] at z'; cases z'
  have J : Inv X pins σ H2 { s2 with heap := h' } := I2.un (t' := s2.toks) (Un.kept mk.keeps) (I2.hok.kept mk.keeps)
  refine hx pins σ H2 _ e' (.ref C) J ⟨old _ mk.new, fr, _, _, _, q1, rfl, rfl, rfl, .inl rfl⟩ (fun p hp => ?_) (fun z => nomatch z) qE
  have hs := (I2.pin p hp).1
  refine ⟨fun z => ?_, fun oe vs T w1 w2 w3 => ?_⟩
  ·rw [z, mk.new] at hs; cases hs
  ·rw [q1] at w1; cases w1
   cases w2
   cases w3
end
section
variable {M : Model} {A : Around} {E : Value -> Shared -> Prop} {nm q nm0 q0 : Str} {C N C0 N0 : Addr} {bs bm bs0 bm0 : List Value} {hdct hdct0 : Bool} {sn sn0 : List Str} {sub sub0 : List Value} {ab ab0 : Bool} {col col0 : Option Bool} {dd dd0 : Option Addr} {k0 k1 k2 k3 k5 l0 l1 l2 l3 l5 : Option Value} {newId newId0 : String}
theorem excMatches_up {h : Heap} {g : Array GenState} {d : Drawn} {t : Nat} {os : OsState} {e : Addr} {oe : Obj} {Q : Bool -> Shared -> Prop}
  (hC : h.get? C = some (excClassObj nm q C N bs bm hdct sn sub ab col dd k0 k1 k2 k3 k5 newId)) (h0 : h.get? C0 = some (excClassObj nm0 q0 C0 N0 bs0 bm0 hdct0 sn0 sub0 ab0 col0 dd0 l0 l1 l2 l3 l5 newId0)) (he : h.get? e = some oe) (hcls : oe.cls = .ref C)
  (hb0 : bm0.contains (.type "BaseException") = true) (hup : (Value.ref C :: bm).contains (.ref C0) = true) (hq : Q true ⟨h, g, d, t, os⟩) : wpAny M A (excMatches (.ref e) (.ref C0)) Q E ⟨h, g, d, t, os⟩ := by
 have hcB : (Value.ref C0 :: bm0).contains (.type "BaseException") = true := by rw [zq137x, hb0, zq80x]
 have f := tc_notTuple
 unfold excMatches
 repeat (first | (with_reducible refine wpAny_loadPart_at he ?_; rw [hcls]) | with_reducible refine wpAny_loadPart_at h0 ?_ | (with_reducible refine wpAny_isSubtype_exc h0 ?_; rw [hcB]) | (with_reducible refine wpAny_isSubtype_exc hC ?_; rw [hup]) | wp_step)
 exact hq
end
def Cx.catch (X : Cx) (ps : List (Addr × Obj)) (W : Value -> Shared -> Prop) : Cx := { X with pn := X.pn ++ ps, xe := W }
def Cx.sup (X : Cx) (ea : Addr) : Cx := { X with A := X.A.mark (some (.ref ea)), calm := false, xe := fun _ _ => False }
def exφ (ea : Addr) (C : Value) : Heap -> Prop := fun h => ∃ oe vs, h.get? ea = some oe /\ oe.cls = C /\ oe.data = .fields vs
section
variable {X : Cx} {pins ps : List (Addr × Obj)} {σ : St} {H : Hp} {s : Shared} {W : Value -> Shared -> Prop} {ea : Addr} {C : Value}
theorem Inv.intoC (I : Inv X ps σ H s) : Inv (X.catch ps W) [] σ H s :=
 have o := I.ok
 ⟨⟨o.mod, o.kind, o.glob, o.blt, o.above, o.inj, o.has, o.cab, o.hd, o.frames, o.stk, o.exf, o.bs, o.bsz, o.noex, o.exfs, o.funs, o.frf⟩, I.os, I.bare, I.base, I.loc, I.cell, I.free, I.freeC, fun p hp => I.pin p (by rwa [zq30x] at hp), I.hok, I.len⟩
theorem Inv.outC (I : Inv (X.catch ps W) pins σ H s) : Inv X ps σ H s :=
 have o := I.ok
 ⟨⟨o.mod, o.kind, o.glob, o.blt, o.above, o.inj, o.has, o.cab, o.hd, o.frames, o.stk, o.exf, o.bs, o.bsz, o.noex, o.exfs, o.funs, o.frf⟩, I.os, I.bare, I.base, I.loc, I.cell, I.free, I.freeC, fun p hp => I.pin p (zq82x _ hp), I.hok, I.len⟩
theorem Inv.intoS (I : Inv X ps σ H s) : Inv (X.sup ea) ps σ H s :=
 have o := I.ok
 ⟨⟨o.mod, o.kind, o.glob, o.blt, o.above, o.inj, o.has, o.cab, fun z => (nomatch z), o.frames, o.stk, o.exf, o.bs, o.bsz, o.noex, o.exfs, o.funs, o.frf⟩, I.os, I.bare, I.base, I.loc, I.cell, I.free, I.freeC, I.pin, I.hok, I.len⟩
theorem Inv.outS (hh : X.calm = true -> X.A.handled = none) (I : Inv (X.sup ea) ps σ H s) : Inv X ps σ H s :=
 have o := I.ok
 ⟨⟨o.mod, o.kind, o.glob, o.blt, o.above, o.inj, o.has, o.cab, hh, o.frames, o.stk, o.exf, o.bs, o.bsz, o.noex, o.exfs, o.funs, o.frf⟩, I.os, I.bare, I.base, I.loc, I.cell, I.free, I.freeC, I.pin, I.hok, I.len⟩
theorem Inv.stir {hid : List Addr} {h' : Heap} (I : Inv X pins σ H s) (st : Stir hid s.heap h') (hd : Hid X.s₀.heap s.heap H X.stack ea hid) (hp : ∀ p ∈ X.pn ++ pins, Off s.heap ea p.1) : Inv X pins σ H { s with heap := h' } := by
 have sub : ∀ b ∈ hid, X.s₀.heap.get? b = none \/ b ∈ X.fs := fun b hb => by
  rcases hd.old b hb with z | z
  ·rcases zq2x.mp (I.stkSub b z) with rfl | z
   ·exact .inl (zq113x I.ok.above)
   ·exact .inr z
  ·exact .inl z
 have nf : ∀ b ∈ X.fs, ∀ o, s.heap.get? b = some o -> ∀ vs, o.data ≠ .fields vs := fun b hb o e => by
  obtain ⟨_, o', ho, n⟩ := I.funs.mem hb
  rw [e] at ho; cases ho
  exact n
 have ce : ∀ {c : Addr} {v : Option Value}, s.heap.IsCell c v -> h'.IsCell c v := fun {c v} ⟨o, ho, hd⟩ => by
  obtain ⟨sl, e⟩ := st.sl _ o ho (fun vs z => by rw [hd] at z; cases z)
  exact ⟨_, e, hd⟩
 obtain ⟨m, ⟨o, es, ep, ho, hd', r⟩, hl⟩ := I.loc
 obtain ⟨sl, e⟩ := st.sl _ o ho (fun vs z => by rw [hd'] at z; cases z)
 refine ⟨I.ok, I.os, I.bare, un_left I.base st sub nf, ⟨m, ⟨_, es, ep, e, hd', r⟩, fun i x v e1 e2 e3 => ?_⟩, fun x c e => let ⟨v, z⟩ := I.cell x c e; ⟨v, ce z⟩, I.free, I.freeC, fun p hp' => ?_, I.hok.stir st hd.un, I.len⟩
 ·obtain ⟨u, r, q⟩ := hl i x v e1 e2 e3
  exact ⟨u, r, q.elim .inl fun ⟨k, c, e, z⟩ => .inr ⟨k, c, e, ce z⟩⟩
 ·obtain ⟨e, n, ne, nf', d⟩ := I.pin p hp'
  exact ⟨st.kp _ _ e (hd.off _ (hp p hp') fun z => (zq2x.mp (I.stkSub _ z)).elim ne nf'), n, ne, nf', d⟩
theorem Inv.track (I : Inv X pins σ H s) (F : Fly X.s₀.heap s.heap H ea C) (hp : ∀ p ∈ X.pn ++ pins, p.1 ≠ ea) : Inv X pins σ (upd H ea (.ext (exφ ea C))) s := by
 obtain ⟨oe, vs, a0, e1, e2, e3, e4, t⟩ := F.at_
 have n0 : ∀ b o, X.s₀.heap.get? b = some o -> b ≠ ea := fun b o e z => by rw [z, F.new] at e; cases e
 have nt : ∀ b o, H b = some o -> b ≠ ea := fun b o e z => by rw [z, F.free] at e; cases e
 refine ⟨I.ok, I.os, I.bare, ⟨I.base.keep, I.base.slot, fun b o e n hx => ?_, I.base.there, fun b xs q => ?_, fun b o u q => ?_, fun b qs q => ?_⟩, I.loc, I.cell, ?_, fun x c e => ?_, fun p h => ?_, fun a o e => ?_, I.len⟩
 ·rw [upd_ne (n0 b o e)]; exact I.base.free b o e n hx
 ·have z := I.base.tups b xs q
  rw [upd_ne (nt _ _ z)]; exact z
 ·have z := I.base.frzs b o u q
  rw [upd_ne (nt _ _ z)]; exact z
 ·obtain ⟨more, z⟩ := I.base.tbls b qs q
  exact ⟨more, by rw [upd_ne (nt _ _ z)]; exact z⟩
 ·rw [upd_ne]
  ·exact I.free
  ·intro z
   obtain ⟨m, ⟨o, es, ep, ho, hd, _⟩, _⟩ := I.loc
   rw [z, e1] at ho; cases ho
   rw [e3] at hd; cases hd
 ·rw [upd_ne]
  ·exact I.freeC x c e
  ·intro z
   obtain ⟨v, o, ho, hd⟩ := I.cell x c e
   rw [z, e1] at ho; cases ho
   rw [e3] at hd; cases hd
 ·obtain ⟨z1, z2, z3⟩ := I.pin p h
  exact ⟨z1, by rw [upd_ne (hp p h)]; exact z2, z3⟩
 ·by_cases ha : a = ea
  ·subst ha
   rw [upd_same] at e; cases e
   exact ⟨⟨oe, vs, e1, e2, e3⟩, ⟨_, e1⟩, fun h1 h2 ⟨oe, vs, z1, z2, z3⟩ k => ⟨oe, vs, k _ z1, z2, z3⟩⟩
  ·rw [upd_ne ha] at e
   exact (I.hok a o e).stay (fun _ _ _ q => q) (fun b q => by rw [upd_ne (nt _ _ q)]; exact q) fun b xs q => by rw [upd_ne (nt _ _ q)]; exact q
theorem unbind_ok {M : Model} {A : Around} {E : Value -> Shared -> Prop} {i : Nat} {x : Str} {pos : Pos} {Q : Unit -> Shared -> Prop} (I : Inv X pins σ H s) (hN : X.N.Nodup) (hi : X.N[i]? = some x) (hk : X.env.scope.names.lookup x = some .local)
  (h : ∀ s', Inv X pins (σ.set i none) H s' -> Q () s') : wpAny M A (do bindName X.env x .none; unbindBehindTheSuite X.env x pos) Q E s := by
 have hiσ : i < σ.length := by rw [I.len]; exact (zq18x.mp hi).1
 refine wpAny_bind (bindName_ (store_ok I hN hi (.inl hk) (v := .non) (u := .none) rfl (fun s1 I1 => ?_) (.inr hk)))
 unfold unbindBehindTheSuite
 refine wpAny_onRaise ?_
 obtain ⟨m, hn, hl⟩ := id I1.loc
 have hcls : (X.env.scope.kind == .class || (X.env.scope.kind == .module && X.env.locals != X.env.globals)) = false := by rw [I.ok.kind]; rfl
 have hm : m x = some .none := by
  obtain ⟨u, r, q⟩ := hl i x .non hi (by rw [zq9x hiσ]) (.inl hk)
  obtain rfl : u = Value.none := r
  rcases q with ⟨_, e⟩ | ⟨z, _⟩
  ·exact e
  ·have hk' : X.env.kindOf x = some .local := hk
   rw [hk'] at z
   rcases z with z | z <;> cases z
 refine wpAny_unbindName_local hk hn hm hcls fun h' u hn' hs => ?_
 obtain ⟨oL, _, _, hoL, _⟩ := id hn
 refine h _ ⟨I1.ok, I1.os, I1.bare, ⟨fun b o e n hb hx => ?_, fun b o e n hb hx => ?_, I1.base.free, fun b o e hx => ?_, I1.base.tups, I1.base.frzs, I1.base.tbls⟩, ⟨_, hn', fun j y v' e1 e2 e3 => ?_⟩, fun y c e => ?_, I1.free, I1.freeC, fun p hp => ?_, fun b ob e => ?_, by simpa using I.len⟩
 ·exact (hs.2 b (zq13x (zq17x (zq4x e) I.ok.above))).trans (I1.base.keep b o e n hb hx)
 ·obtain ⟨sl, e1⟩ := I1.base.slot b o e n hb hx
  exact ⟨sl, (hs.2 b (zq13x (zq17x (zq4x e) I.ok.above))).trans e1⟩
 ·obtain ⟨o', e1⟩ := I1.base.there b o e hx
  exact ⟨o', (hs.2 b (zq13x (zq17x (zq4x e) I.ok.above))).trans e1⟩
 ·by_cases hj : j = i
  ·subst hj
   rw [zq9x hiσ] at e2
   cases e2
  ·rw [zq5x (zq6x hj)] at e2
   obtain ⟨u', r', q⟩ := hl j y v' e1 (by rw [zq5x (zq6x hj)]; exact e2) e3
   refine ⟨u', r', ?_⟩
   rcases q with ⟨k, e⟩ | ⟨k, c, e, z⟩
   ·refine .inl ⟨k, ?_⟩
    have : y ≠ x := fun e => hj (nodup_ix hN e1 (e ▸ hi))
    simp [this, e]
   ·exact .inr ⟨k, c, e, z.sameBut hs (I1.cne y c e)⟩
 ·obtain ⟨v, z⟩ := I1.cell y c e
  exact ⟨v, z.sameBut hs (I1.cne y c e)⟩
 ·obtain ⟨e, n, ne, nf, d⟩ := I1.pin p hp
  exact ⟨(hs.2 p.1 ne).trans e, n, ne, nf, d⟩
 ·refine (I1.hok b ob e).stay (fun c w' hc q => (hs.2 c ?_).trans q) (fun _ q => q) fun _ _ q => q
  rintro rfl
  rcases hc with z | hc
  ·rw [<- z, I1.free] at e; cases e
  ·rw [I1.free] at hc; cases hc
end
def Dx (i : Nat) (D : Ends) : Ends := { nx := fun σ H => D.nx (σ.set i none) H, rt := D.rt, bk := fun σ H => D.bk (σ.set i none) H, ct := fun σ H => D.ct (σ.set i none) H }
def catE (K : PySem.W.Frag) (C0 : Addr) (i : Nat) (ts : TS) (D : Ends) : St -> XK := fun σ Cv _ H => ∃ C up, Cv = .ref C /\ XC K C up /\ (Value.ref C :: (up ++ bmV)).contains (.ref C0) = true /\ ∀ ea, H ea = none -> ts (Dx i D) (σ.set i (some (.ref ea))) (upd H ea (.ext (exφ ea Cv)))
def catW (X : Cx) (hdl : ExceptHandler) (ps : List (Addr × Obj)) (D : Ends) : Value -> Shared -> Prop := fun e s => wpAny (model X.prog X.w) X.A (noteFrame e X.env) (fun _ s₂ => wpAny (model X.prog X.w) X.A (setFlight e none) (fun _ s₃ => wpAny (model X.prog X.w) X.A (handleBy e X.env [hdl]) (SP X ps D) X.xe s₃) X.xe s₂) X.xe s
section
variable {X : Cx} {C0 : Addr} {up0 : List Value} {xc n : Str} {np hpos pos : Pos} {b₀ : Stmt} {suite body : List Stmt} {ts : TS} {i : Nat} {tb : (St -> XK) -> TS}
theorem xok_catch (D : Ends) (ps : List (Addr × Obj)) (hc0 : XC X.K C0 up0) (hg : Gl X xc) (hm : X.mg xc = some (.ref C0)) (hN : X.N.Nodup) (hi : X.N[i]? = some n) (hk : X.env.scope.names.lookup n = some .local) (hst : X.stack = X.env :: X.outer) (hfr : X.env.frame = some X.env.locals) (hex : X.ex = [])
  (hs : ∀ ea, PSs (X.sup ea) (b₀ :: suite) ts) (hdb : (xc == ("__debug__" : Str)) = false) :
  XOk (X.catch ps (catW X (.ExceptHandler (some (.Name xc np)) (some n) (b₀ :: suite) hpos) ps D)) true (catE X.K C0 i ts D) := by
 intro pins' σ H s ea Cv I' F hp td q
 have I : Inv X ps σ H s := I'.outC
 obtain ⟨C, up, rfl, xc1, hct, q⟩ := q
 have F : Fly X.s₀.heap s.heap H ea (.ref C) := F
 have hp : ∀ p ∈ X.pn ++ ps, Off s.heap ea p.1 := fun p h => hp p (zq82x _ h)
 have h0s : ∀ b o, X.s₀.heap.get? b = some o -> ∃ o', s.heap.get? b = some o' := fun b o e => I.base.there b o e (by rw [hex]; exact fun z => nomatch z)
 obtain ⟨hid, hd, hT⟩ := hid_mk F I.stkFree
 have ff : s.heap.FunFrames (PySem.W.hideAll s.heap hid) (X.env :: X.outer) := hst ▸ hid_fr hd I.stack
 have hA : X.A.frames = some (X.env :: X.outer) := hst ▸ I.ok.frames
 have hd' : Hid X.s₀.heap s.heap H (X.env :: X.outer) ea hid := hst ▸ hd
 obtain ⟨oe, vs, a0, e1, e2, e3, e4, t⟩ := F.at_
 have tw : s.heap.TracedW (PySem.W.hideAll s.heap hid) ea (.ref C) a0 := by
  rcases t with t | ⟨T, oT, ts, e5, e7, q1, q2, e8, e9, e10⟩
  ·obtain ⟨oe', vs', T, z1, z2, z3⟩ := td rfl
   rw [e1] at z1; cases z1
   rw [e3] at z2; cases z2
   rw [t] at z3; cases z3
  ·exact ⟨oe, vs, T, oT, ts, e1, ⟨e2, e4⟩, e3, e5, zq60x hid (hT oe vs T e1 e3 e5), e7, e8, e9, e10⟩
 show wpAny _ _ (noteFrame (.ref ea) X.env) _ _ s
 refine wpAny_noteFrame_onW hA ff hfr tw hid_stays (zq60x hid hd.me) fun h1 ⟨st1, ff1, tr1, sl1⟩ => ?_
 refine wpAny_setFlight_noneW st1 ff1 tr1 fun h2 st2 ff2 tr2 kp2 => ?_
 have S2 : Stir hid s.heap h2 := stir_of st2 fun b o e n => by
  obtain ⟨sl, z⟩ := sl1 b o e n
  exact ⟨sl, kp2 b _ z n⟩
 have I2 : Inv X ps σ H { s with heap := h2 } := I.stir S2 hd hp
 have F2 : Fly X.s₀.heap h2 H ea (.ref C) := fly_of F I.hok hd' h0s ff2 tr2
 refine wpAny_handleBy_cons (codeAny_handlers_test (ld_glob (I2.intoS (ea := ea)) hg hm ?_ hdb)) (by intro z; cases z)
 obtain ⟨oe2, vs2, a2, f1, f2, _, _, _⟩ := F2.at_
 obtain ⟨nm, qn, N, bs, hdct, sn, sub, ab, col, dd, k0, k1, k2, k3, k5, mN, _, ho⟩ := xc1.ob
 obtain ⟨nm', qn', N', bs', hdct', sn', sub', ab', col', dd', l0, l1, l2, l3, l5, mN', _, ho'⟩ := hc0.ob
 refine excMatches_up (ho h2 I2.kIn).1 (ho' h2 I2.kIn).1 f1 f2 hc0.bse hct ?_
 refine codeAny_handlers_suite_as ?_
 refine wpAny_setFlight_noneW st2 ff2 tr2 fun h3 st3 ff3 tr3 kp3 => ?_
 have S3 : Stir hid s.heap h3 := stir_of st3 fun b o e n => by
  obtain ⟨sl, z⟩ := S2.sl b o e n
  exact ⟨sl, kp3 b _ z n⟩
 have I3 : Inv X ps σ H { s with heap := h3 } := I.stir S3 hd hp
 have F3 : Fly X.s₀.heap h3 H ea (.ref C) := fly_of F I.hok hd' h0s ff3 tr3
 have I4 := I3.track F3 fun p h => (hp p h).1
 refine store_ok I4 hN hi (.inl hk) (v := .ref ea) (u := .ref ea) rfl (fun s5 I5 => ?_) (.inr hk)
 refine wpAny_mono (hs ea ps s5 _ _ (Dx i D) I5.intoS (q ea F.free)) (fun f s6 hf => ?_) fun _ _ z => z.elim
 have out : ∀ {σ' : St} {H' : Hp}, Inv (X.sup ea) ps σ' H' s6 -> Inv X ps σ' H' s6 := fun J => J.outS I.ok.hd
 cases f with
 | next => obtain ⟨σ', H', J, d⟩ := hf; exact unbind_ok (out J) hN hi hk fun s7 J7 => ⟨_, _, J7, d⟩
 | brk => obtain ⟨σ', H', J, d⟩ := hf; exact unbind_ok (out J) hN hi hk fun s7 J7 => ⟨_, _, J7, d⟩
 | cont => obtain ⟨σ', H', J, d⟩ := hf; exact unbind_ok (out J) hN hi hk fun s7 J7 => ⟨_, _, J7, d⟩
 | ret u => obtain ⟨v, σ', H', J, r, d⟩ := hf; exact unbind_ok (out J) hN hi hk fun s7 J7 => ⟨_, _, _, J7, r, d⟩
theorem ps_try (hc0 : XC X.K C0 up0) (hg : Gl X xc) (hm : X.mg xc = some (.ref C0)) (hN : X.N.Nodup) (hi : X.N[i]? = some n) (hk : X.env.scope.names.lookup n = some .local) (hst : X.stack = X.env :: X.outer) (hfr : X.env.frame = some X.env.locals) (hex : X.ex = [])
  (hb : ∀ (ps : List (Addr × Obj)) (W : Value -> Shared -> Prop) (EX : St -> XK), XOk (X.catch ps W) true EX -> PSs (X.catch ps W) body (tb EX)) (hs : ∀ ea, PSs (X.sup ea) (b₀ :: suite) ts) (hdb : (xc == ("__debug__" : Str)) = false := by decide) :
  PS X (.Try body [.ExceptHandler (some (.Name xc np)) (some n) (b₀ :: suite) hpos] [] [] pos) (fun D σ H => tb (catE X.K C0 i ts D) D σ H) := by
 intro pins s σ H D I h
 refine wpAny_Try_except ?_
 refine wpAny_mono (hb pins _ _ (xok_catch D pins hc0 hg hm hN hi hk hst hfr hex hs hdb) [] s σ H D I.intoC h) (fun f s1 hf => ?_) (fun e s1 z => z)
 cases f with
 | next => obtain ⟨σ', H', J, d⟩ := hf; exact wpAny_execs_nil ⟨_, _, J.outC, d⟩
 | brk => obtain ⟨σ', H', J, d⟩ := hf; exact ⟨_, _, J.outC, d⟩
 | cont => obtain ⟨σ', H', J, d⟩ := hf; exact ⟨_, _, J.outC, d⟩
 | ret u => obtain ⟨v, σ', H', J, r, d⟩ := hf; exact ⟨_, _, _, J.outC, r, d⟩
end
end L2
set_option maxRecDepth 100000
set_option maxHeartbeats 4000000
namespace L2
open PySem PySem.Spec PyProof.Rows
section
variable {prog : Program} {w : World} {A : Around} {E : Value -> Shared -> Prop} {h : Heap} {g : Array GenState} {d : Drawn} {t : Nat} {os : OsState} {a : Addr} {o : Obj} {K : PySem.W.Frag}
 {nm q : Str} {C N : Addr} {bs bm : List Value} {hdct : Bool} {sn : List Str} {sub : List Value} {ab : Bool} {col : Option Bool} {dd : Option Addr} {k0 k1 k2 k3 k5 : Option Value} {newId : String}
theorem xc_get {R : Result -> Shared -> Prop} (eC : h.get? C = some (excClassObj nm q C N bs bm hdct sn sub ab col dd k0 k1 k2 k3 k5 newId)) (eo : bm.contains (.type "object") = true) (ea : h.get? a = some o) (ec : o.cls = .ref C)
  (fin : R (.ok (.ret (.ref C))) ⟨h, g, d, t, os⟩) : codeAny (model prog w) A (.call (.builtin "getset_descriptor.__get__") ⟨[.builtin "object.__class__", .ref a, .ref C], []⟩) R ⟨h, g, d, t, os⟩ := by
 have ty5 : (⟨h, g, d, t, os⟩ : Shared).TypeIs (.builtin "object.__class__") "getset_descriptor" := zq138x
 have eB : (Value.ref C :: bm).contains (.type (".".intercalate ("object.__class__".cutAt '.').dropLast)) = true := by
  rw [F.owner_object_class, zq137x, eo, zq80x]
 refine codeAny_call_builtin F.slot_gs_get.plain F.entry_gs_get (F.slot_gs_get.check _ _ _ _ _ _ _ _ ty5 (F.args_gs_get _ _ _) ?_)
 repeat (any_goals (first | assumption | (with_reducible refine wpAny_loadPart_at ea ?_; rw [ec]) | (with_reducible refine wpAny_isSubtype_exc eC ?_; rw [eB]) | wp_step))
 refine ⟨Code.quiet_builtin _ (by decide +kernel), codeAny_builtin F.entry_object_class ?_⟩
 repeat (any_goals (first | assumption | (with_reducible refine wpAny_loadPart_at ea ?_; rw [ec]) | wp_step))
theorem xc_entry {tk : Tok} {Q : Fin -> Shared -> Prop} (X : K.In h) (gc : PySem.W.findIn K (.ref C) "__class__" = some (some (.builtin "object.__class__"))) (eC : h.get? C = some (excClassObj nm q C N bs bm hdct sn sub ab col dd k0 k1 k2 k3 k5 newId)) (eo : bm.contains (.type "object") = true) (ea : h.get? a = some o) (ec : o.cls = .ref C)
  (fin : Q (.done (.ret (.ref C))) ⟨h, g, d, t, os⟩) : wpAny (model prog w) A (Builtin.«object.__getattribute__» ⟨[.ref a, .str "__class__" tk], []⟩) Q E ⟨h, g, d, t, os⟩ := by
 have ty5 : (⟨h, g, d, t, os⟩ : Shared).TypeIs (.builtin "object.__class__") "getset_descriptor" := zq138x
 have y5 := zq138x
 have y6 := F.slot_gs_get.lookup
 have y7 := F.slot_gs_set.lookup
 have L := zq96x (M := model prog w) X gc
 repeat (any_goals (first | assumption | (with_reducible refine wpAny_loadPart_at ea ?_; rw [ec]) | with_reducible refine zq139x L ?_ | wp_step))
 refine xc_get eC eo ea ec ?_
 repeat (any_goals (first | assumption | wp_step))
theorem xc_check {M : Model} {nameV : Value} {Q : Unit -> Shared -> Prop} (eC : h.get? C = some (excClassObj nm q C N bs bm hdct sn sub ab col dd k0 k1 k2 k3 k5 newId)) (eb : bm.contains (.type "BaseException") = true) (ea : h.get? a = some o) (ec : o.cls = .ref C)
  (fin : Q () ⟨h, g, d, t, os⟩) : wpAny M A (checkBuiltinCall "BaseException.__getattribute__" ⟨[.ref a, nameV], []⟩) Q E ⟨h, g, d, t, os⟩ := by
 have y1 : builtinKind "BaseException.__getattribute__" = some .slot := by decide +kernel
 have y2 : splitId "BaseException.__getattribute__" = some ("BaseException", "__getattribute__") := by decide +kernel
 have eB : (Value.ref C :: bm).contains (.type "BaseException") = true := by rw [zq137x, eb, zq80x]
 have y3 := F.args_bexc_ga (.ref a) nameV
 simp only [checkBuiltinCall, y1, y2]
 refine wpAny_bind ?_
 unfold isInstance
 repeat (first | (with_reducible refine wpAny_loadPart_at ea ?_; rw [ec]) | (with_reducible refine wpAny_isSubtype_exc eC ?_; rw [eB]) | wp_step)
 exact fin
theorem xc_by {tk : Tok} {Q : Value -> Shared -> Prop} (X : K.In h) (gg : PySem.W.findIn K (.ref C) "__getattribute__" = some (some (.builtin "BaseException.__getattribute__"))) (gt : PySem.W.findIn K (.ref C) "__getattr__" = some none) (gc : PySem.W.findIn K (.ref C) "__class__" = some (some (.builtin "object.__class__")))
  (eC : h.get? C = some (excClassObj nm q C N bs bm hdct sn sub ab col dd k0 k1 k2 k3 k5 newId)) (eo : bm.contains (.type "object") = true) (eb : bm.contains (.type "BaseException") = true) (ea : h.get? a = some o) (ec : o.cls = .ref C) (fin : Q (.ref C) ⟨h, g, d, t, os⟩) :
  wpAny (model prog w) A (getAttrBy (.ref a) (.str "__class__" tk) false) Q E ⟨h, g, d, t, os⟩ := by
 have y1 := F.attrBase_ValueError.ga.bind (.ref a)
 have x2 : (Value.builtin "BaseException.__getattribute__" == Value.builtin "object.__getattribute__") = false := by decide +kernel
 have x1 : (onTheHeap (Value.ref C) && Value.builtin "BaseException.__getattribute__" == Value.builtin "object.__getattribute__") = false := by rw [x2]; rfl
 have L1 := zq96x (M := model prog w) X gg
 have L2 := zq96x (M := model prog w) X gt
 repeat (any_goals (first | assumption | (with_reducible refine wpAny_loadPart_at ea ?_; rw [ec]) | with_reducible refine zq139x L1 ?_ | with_reducible refine zq139x L2 ?_ | wp_step))
 refine codeAny_call_builtin F.attrBase_ValueError.ga.plain F.entry_bexc_ga (xc_check eC eb ea ec (xc_entry X gc eC eo ea ec ?_))
 repeat (any_goals (first | assumption | wp_step))
theorem xc_attr {Q : Option Value -> Shared -> Prop} (X : K.In h) (gg : PySem.W.findIn K (.ref C) "__getattribute__" = some (some (.builtin "BaseException.__getattribute__"))) (gt : PySem.W.findIn K (.ref C) "__getattr__" = some none) (gc : PySem.W.findIn K (.ref C) "__class__" = some (some (.builtin "object.__class__")))
  (eC : h.get? C = some (excClassObj nm q C N bs bm hdct sn sub ab col dd k0 k1 k2 k3 k5 newId)) (eo : bm.contains (.type "object") = true) (eb : bm.contains (.type "BaseException") = true) (ea : h.get? a = some o) (ec : o.cls = .ref C) (fin : Q (some (.ref C)) ⟨h, g, d, t + 1, os⟩) :
  wpAny (model prog w) A (getAttr? (.ref a) "__class__") Q E ⟨h, g, d, t, os⟩ := by
 unfold getAttr? getAttrBy?
 repeat (any_goals (first | assumption | with_reducible apply xc_by X gg gt gc eC eo eb ea ec | wp_step))
end
structure XI (K : PySem.W.Frag) (C : Addr) (up : List Value) : Prop extends XC K C up where
 gg : PySem.W.findIn K (.ref C) "__getattribute__" = some (some (.builtin "BaseException.__getattribute__"))
 gt : PySem.W.findIn K (.ref C) "__getattr__" = some none
 gc : PySem.W.findIn K (.ref C) "__class__" = some (some (.builtin "object.__class__"))
theorem contains_up {up : List Value} {v : Value} (h : bmV.contains v = true) : (up ++ bmV).contains v = true := by
 rw [List.contains_iff_mem] at h ⊢
 exact zq42x _ h
theorem kitx_exc {K : PySem.W.Frag} {C ea : Addr} {up : List Value} (c : XI K C up) : PySem.W.KitX K (.ref ea) (.ref C) (exφ ea (.ref C)) where
 ty := fun M h _ ⟨oe, vs, e1, e2, _⟩ => e2 ▸ (PySem.W.Looks.ld e1).andThen .now
 it := fun M h X _ => by
  obtain ⟨nm, q, N, bs, hdct, sn, sub, ab, col, dd, k0, k1, k2, k3, k5, mN, _, ho⟩ := c.ob
  intro A' Q' E' s' k z
  unfold isType loadHead
  exact wpAny_bind (wpAny_loadPart (k _ _ (ho h X).1) (wpAny_pure z))
 ne := fun h tp dd' its n sl X htp => by
  obtain ⟨nm, q, N, bs, hdct, sn, sub, ab, col, dd, k0, k1, k2, k3, k5, mN, _, ho⟩ := c.ob
  refine zq109x.mpr fun z => ?_
  have e : C = tp := Value.ref.inj (beq_iff_eq.mp z)
  subst e
  have z := (ho h X).1.symm.trans htp
  have z2 := congrArg Obj.cls (zq31x z)
  have y : Value.type "type" = Value.type "tuple" := z2
  exact absurd y (by decide)
 ca := fun {prog w A E Q s} X p k => by
  obtain ⟨oe, vs, e1, e2, _⟩ := p
  obtain ⟨nm, q, N, bs, hdct, sn, sub, ab, col, dd, k0, k1, k2, k3, k5, mN, _, ho⟩ := c.ob
  obtain ⟨h, g, d, t, os⟩ := s
  exact xc_attr X c.gg c.gt c.gc (ho h X).1 (contains_up (by decide)) (contains_up (by decide)) e1 e2 k
def rIsiX (K : PySem.W.Frag) : List V -> Hp -> VK -> Prop := fun xs H Q => ∃ (ea C : Addr) (up : List Value) (cv : V) (c : Value) (b : Bool), xs = [.ref ea, cv] /\ H ea = some (.ext (exφ ea (.ref C))) /\ XI K C up /\ (∀ u, RelV cv u -> u = c) /\ PySem.W.kitOne K (.ref C) c = some b /\ Q (.bl b) H
theorem call_isiX {X : Cx} : CallR X (.builtin "isinstance") (rIsiX X.K) := by
 intro pins s σ H xs us Q I rv h
 obtain ⟨ea, C, up, cv, c, b, rfl, he, hc, hcv, hb, q⟩ := h
 obtain ⟨u, v, rfl, ru, r2⟩ := rv.two
 cases (show u = Value.ref ea from ru)
 cases hcv v r2
 have p : exφ ea (.ref C) s.heap := (show ObjOk X.prog X.w H s.heap ea (.ext (exφ ea (.ref C))) from I.hok ea _ he).1
 exact zq38x (kitx_exc hc) I.kIn p hb (fun z => nomatch z) fun tk => ⟨.bl b, H, I.tok tk, rfl, q⟩
end L2
set_option maxRecDepth 100000
set_option maxHeartbeats 4000000
namespace L2
open PySem PySem.Spec PyProof.Rows
abbrev DXF := List PyData -> Pd -> (Addr -> Prop) -> Prop
def MonoDX (F : DXF) : Prop := ∀ ds (Φ Ψ : Pd) (X Y : Addr -> Prop), F ds Φ X -> (∀ f d, Φ f d -> Ψ f d) -> (∀ C, X C -> Y C) -> F ds Ψ Y
def spDX (n : Nat) (F : DXF) : Sp := fun vs H Q E => vs.length = n /\ ∃ (nb : Addr -> Prop) (ds : List PyData), Live nb H /\ IsDs nb H ds vs /\
 F ds (fun f d => ∀ v H', Same H H' -> IsD (fun a => nb a \/ (f = true /\ H a ≠ none)) H' d v -> Q v H') fun C => ∀ H', Same H H' -> E (.ref C) none H'
abbrev CXF := Cu -> List PyData -> (Cu -> Pd) -> (Cu -> Addr -> Prop) -> Prop
def MonoCX (F : CXF) : Prop := ∀ c ds (Φ Ψ : Cu -> Pd) (X Y : Cu -> Addr -> Prop), F c ds Φ X -> (∀ c f d, Φ c f d -> Ψ c f d) -> (∀ c C, X c C -> Y c C) -> F c ds Ψ Y
def spCX (n : Nat) (F : CXF) : Sp := fun vs H Q E => vs.length = n /\ ∃ (nb : Addr -> Prop) (c : Cu) (ws : List V) (ds : List PyData), vs = c.v :: ws /\ Live nb H /\ (∀ a ∈ c.F, nb a) /\ c.f = false /\ c.P nb H /\ IsDs nb H ds ws /\
 F c ds (fun c' f d => ∀ v H', CuTo c c' H H' -> c'.P (fun a => nb a \/ a ∈ c'.F) H' -> IsD (fun a => nb a \/ a ∈ c'.F \/ (f = true /\ H a ≠ none)) H' d v -> Q v H') fun c' C => ∀ H', CuTo c c' H H' -> c'.P (fun a => nb a \/ a ∈ c'.F) H' -> E (.ref C) none H'
theorem spDX_out {n : Nat} {F : DXF} {vs : List V} {H : Hp} {Q : VK} {E : XK} (h : spDX n F vs H Q E) : ∃ (nb : Addr -> Prop) (ds : List PyData) (Φ : Pd) (Ξ : Addr -> Prop), Live nb H /\ IsDs nb H ds vs /\ (∀ f d v H', Φ f d -> Same H H' -> IsD (fun a => nb a \/ (f = true /\ H a ≠ none)) H' d v -> Q v H') /\ (∀ C H', Ξ C -> Same H H' -> E (.ref C) none H') /\ F ds Φ Ξ := by
 obtain ⟨_, nb, ds, h1, h2, h3⟩ := h
 exact ⟨nb, ds, _, _, h1, h2, fun f d v H' q => q v H', fun C H' q => q H', h3⟩
theorem spCX_out {n : Nat} {F : CXF} {vs : List V} {H : Hp} {Q : VK} {E : XK} (h : spCX n F vs H Q E) : ∃ (nb : Addr -> Prop) (c : Cu) (ws : List V) (ds : List PyData) (Φ : Cu -> Pd) (Ξ : Cu -> Addr -> Prop), vs = c.v :: ws /\ Live nb H /\ (∀ a ∈ c.F, nb a) /\ c.f = false /\ c.P nb H /\ IsDs nb H ds ws /\
  (∀ c' f d v H', Φ c' f d -> CuTo c c' H H' -> c'.P (fun a => nb a \/ a ∈ c'.F) H' -> IsD (fun a => nb a \/ a ∈ c'.F \/ (f = true /\ H a ≠ none)) H' d v -> Q v H') /\ (∀ c' C H', Ξ c' C -> CuTo c c' H H' -> c'.P (fun a => nb a \/ a ∈ c'.F) H' -> E (.ref C) none H') /\ F c ds Φ Ξ := by
 obtain ⟨_, nb, c, ws, ds, e, h1, h2, h3, h4, h5, h6⟩ := h
 exact ⟨nb, c, ws, ds, _, _, e, h1, h2, h3, h4, h5, fun c' f d v H' q => q v H', fun c' C H' q => q H', h6⟩
def ExOk (G : Gx) (EX : St -> XK) (Ξ : Addr -> Rh -> Prop) : Prop := ∀ nb ρ σ H C, Ξ C ρ -> Wd G nb ρ σ H -> EX σ (.ref C) none H
section
variable {G : Gx} {ρ : Rh} {Φ : Pd} {ta tb te : TE} {t : TA} {i j n : Nat} {E : DE} {c : Cu} {C : Addr} {m : Str} {EX : St -> XK} {Ξ : Addr -> Rh -> Prop} {F : DXF} {F' : CXF}
theorem Ev.callX (hx : ExOk G EX Ξ) (hm : MonoDX F) (h : Av G ρ t fun es => es.length = n /\ F (es.map (·.2)) (fun f d => Φ (f || allF es) d) fun C => Ξ C ρ) : Ev G ρ (tCallX (spDX n F) EX t) Φ := fun nb σ H Q W z =>
 h nb σ H _ W fun es vs H1 ⟨hl, p⟩ s1 q1 => by
  have W1 := W.step s1
  refine ⟨by rw [q1.len, hl], G.S nb (allF es), es.map (·.2), W1.liveS, q1.all fun z => z, hm _ _ _ _ _ p (fun f d hp v H' sm hd => z _ v H' d hp (s1.trans (.same W1.bag sm)) (hd.av fun a q => ?_)) fun C hC H' sm => hx nb ρ σ H' C hC (W1.step (.same W1.bag sm))⟩
  cases f with
  | false => rw [zq86x] at q; exact .inl q
  | true => exact .inr ⟨rfl, W1.liveS a q⟩
theorem Sv.raise (hx : ExOk G EX Ξ) (h : Av G ρ t fun es => es.length <= 1000 /\ Ξ C ρ) : Sv G ρ (tRaise C EX t) E := fun nb σ H D W KK =>
 h nb σ H _ W fun es vs H1 ⟨hl, p⟩ s1 q1 => ⟨by rw [q1.len]; exact hl, hx nb ρ σ H1 C p (W.step s1)⟩
theorem EvS.run_cux {Φ : Rh -> Pd} {nb : Addr -> Prop} {σ : St} {H1 : Hp} {Q : VK} {es : List Fd} {vs : List V} (hx : ExOk G EX Ξ) (hm : MonoCX F') (e : ρ[i]? = some (.cu c)) (W1 : Wd G nb ρ σ H1) (q1 : IsF G nb H1 es vs) (hl : es.length + 1 = n) (hcf : c.f = false) (p : F' c (es.map (·.2)) (fun c' f d => Φ (ρ.set i (.cu c')) f d) fun c' C => Ξ C (ρ.set i (.cu c')))
  (z : ∀ nb' ρ' f v H' d, Φ ρ' f d -> Wd G nb' ρ' σ H' -> IsD (G.S nb' f) H' d v -> Q v H') : spCX n F' (c.v :: vs) H1 Q (EX σ) := by
 obtain ⟨x0, e1, h1, h2, h3⟩ := W1.ok i _ e
 have key : ∀ {c' : Cu} {H' : Hp}, CuTo c c' H1 H' -> c'.P (fun a => G.S nb false a \/ a ∈ c'.F) H' -> Wd G (fun x => nb x \/ x ∈ c'.F) (ρ.set i (.cu c')) σ H' := fun {c' H'} to hP => by
  refine W1.setCu (c' := c') e to.kp to.v (fun a m => (to.new a m).imp id .inl) (fun a m => m.elim (fun m => to.lv a (to.sub a m)) fun m => to.lv a m) (c'.av (fun a y => ?_) hP)
  rw [to.f] at y
  rcases y with (y | y) | y | y | y
  ·exact .inl (.inl y)
  ·exact .inr y
  ·exact .inl (.inr (.inl y))
  ·exact .inl (.inr (.inr (.inl y)))
  ·cases y.1
 refine ⟨by rw [zq27x, q1.len, hl], G.S nb false, c, vs, es.map (·.2), rfl, W1.liveS, fun a m => .inl (h2 a m).1, hcf, by rw [hcf] at h3; exact h3, q1.all (f := false) (fun z => by cases z), hm _ _ _ _ _ _ p (fun c' f d hp v H' to hP hd => ?_) fun c' C hC H' to hP => hx _ _ σ H' C hC (key to hP)⟩
 refine z _ _ f v H' d hp (key to hP) (hd.av fun a y => ?_)
 rcases y with (y | y) | y | y | y
 ·exact .inl (.inl y)
 ·exact .inr (.inl y)
 ·exact .inl (.inr (.inl y))
 ·exact .inl (.inr (.inr (.inl y)))
 ·exact .inr (.inr ⟨y.1, W1.liveS (f := true) a (.inr (.inr (.inr ⟨rfl, y.2⟩)))⟩)
theorem EvS.methX {Φ : Rh -> Pd} (hx : ExOk G EX Ξ) (hm : MonoCX F') (e : ρ[i]? = some (.cu c)) (hcf : c.f = false) (hi : ∀ S H, c.P S H -> ∃ a dx fs, c.v = .ref a /\ H a = some (.ins C dx fs) /\ fs.lookup m = none)
  (h : Av G ρ t fun es => es.length + 1 = n /\ F' c (es.map (·.2)) (fun c' f d => Φ (ρ.set i (.cu c')) f d) fun c' C => Ξ C (ρ.set i (.cu c'))) : EvS G ρ (tMethX C m (spCX n F') EX (tVar i) t) Φ := fun nb σ H Q W z => by
 obtain ⟨x0, e1, h1, h2, h3⟩ := W.ok i _ e
 subst h1
 obtain ⟨a, dx, fs, g1, g2, g3⟩ := hi _ _ h3
 refine ⟨c.v, e1, a, dx, fs, g1, g2, g3, h nb σ H _ W fun es vs H1 ⟨hl, p⟩ s1 q1 => ?_⟩
 exact EvS.run_cux hx hm e (W.step s1) q1 hl hcf p z
end
section
variable {ρ : Rh} {t : TS} {N : List Str} {vs ws : List V} {ds : List PyData} {nb : Addr -> Prop} {H : Hp} {Q : VK} {E : XK} {c : Cu}
theorem Sv.enterDX {Φ : Pd} {Ξ : Addr -> Prop} (hl : Live nb H) (hd : IsDs nb H ds vs) (hΦ : ∀ f d v H', Φ f d -> Same H H' -> IsD (fun a => nb a \/ (f = true /\ H a ≠ none)) H' d v -> Q v H') (hΞ : ∀ C H', Ξ C -> Same H H' -> E (.ref C) none H')
  (hρ : ρ = ds.map (Sl.d false) ++ List.replicate (N.length - ds.length) .no) (h : ExOk ⟨none, H, nb, []⟩ (fun _ => E) (fun C _ => Ξ C) -> Sv ⟨none, H, nb, []⟩ ρ t { nx := fun _ => Φ true .none, rt := Φ }) : t { nx := fun _ H' => Q .non H', rt := Q } (start N vs) H :=
 Sv.enterD hl hd hΦ hρ (h fun nb' ρ' σ' H' C q W => hΞ C H' q fun a o e => W.old a o (fun _ _ z => by cases z) e)
theorem objG_to {c' : Cu} {nb' : Addr -> Prop} {ρ' : Rh} {σ' : St} {H' : Hp} (W : Wd (objG c.F H nb) nb' ρ' σ' H') (e : ρ'[0]? = some (.cu c')) (up : CuUp c c') : CuTo c c' H H' /\ c'.P (fun a => nb a \/ a ∈ c'.F) H' := by
 have hNB : ∀ a, NB (objG c.F H nb).B a := fun a b l e => by cases e
 obtain ⟨x0, e1, h1, h2, h3⟩ := W.ok 0 _ e
 refine ⟨⟨up.v, up.f, up.sub, fun a m => ?_, fun a o n q => ?_, fun a m => W.live a (h2 a m).1⟩, c'.av (fun a z => ?_) h3⟩
 ·have := W.nbo a (h2 a m).1 (h2 a m).2
  by_cases z : a ∈ c.F
  ·exact .inl z
  ·exact .inr (by have q : (if a ∈ c.F then none else H a) = none := this; rwa [if_neg z] at q)
 ·exact W.old a o (hNB a) (by show (if a ∈ c.F then none else H a) = _; rw [if_neg n]; exact q)
 ·by_cases m : a ∈ c'.F
  ·exact .inl (h2 a m).1
  ·have m' : a ∉ c.F := fun z => m (up.sub a z)
   exact .inr (.inl ⟨z.elim id fun z => absurd z m, m'⟩)
theorem Sv.enterCX {Φ : Cu -> Pd} {Ξ : Cu -> Addr -> Prop} (hl : Live nb H) (hF : ∀ a ∈ c.F, nb a) (hf : c.f = false) (hP : c.P nb H) (hd : IsDs nb H ds ws)
  (hΦ : ∀ c' f d v H', Φ c' f d -> CuTo c c' H H' -> c'.P (fun a => nb a \/ a ∈ c'.F) H' -> IsD (fun a => nb a \/ a ∈ c'.F \/ (f = true /\ H a ≠ none)) H' d v -> Q v H') (hΞ : ∀ c' C H', Ξ c' C -> CuTo c c' H H' -> c'.P (fun a => nb a \/ a ∈ c'.F) H' -> E (.ref C) none H')
  (hρ : ρ = .cu c :: ds.map (Sl.d false) ++ List.replicate (N.length - (ds.length + 1)) .no) (h : ExOk (objG c.F H nb) (fun _ => E) (fun C ρ' => ∃ c', ρ'[0]? = some (.cu c') /\ CuUp c c' /\ Ξ c' C) -> Sv (objG c.F H nb) ρ t (objE (objG c.F H nb) c Φ)) : t { nx := fun _ H' => Q .non H', rt := Q } (start N (c.v :: ws)) H :=
 Sv.enterC hl hF hf hP hd hΦ hρ (h fun nb' ρ' σ' H' C ⟨c', e, up, q⟩ W => hΞ c' C H' q (objG_to W e up).1 (objG_to W e up).2)
end
def excCu (ea C : Addr) : Cu where
 v := .ref ea
 F := [ea]
 f := false
 P := fun _ H => H ea = some (.ext (exφ ea (.ref C)))
 keep := fun k h => k.own ea (zq1x.mpr rfl) _ h
 av := fun _ h => h
 fresh := fun _ h => h
def tTry (K : PySem.W.Frag) (C0 : Addr) (i : Nat) (tb : (St -> XK) -> TS) (ts : TS) : TS := fun D σ H => tb (catE K C0 i ts D) D σ H
section
variable {G : Gx} {ρ : Rh} {i j : Nat} {E : DE} {c : Cu} {C C0 : Addr} {K : PySem.W.Frag} {tb : (St -> XK) -> TS} {ts : TS}
theorem Wd.forget {nb : Addr -> Prop} {σ : St} {H : Hp} {x : Option V} (W : Wd G nb ρ σ H) : Wd G nb (ρ.set i .no) (σ.set i x) H := W.set (s := .no) trivial (fun _ _ _ z => by cases z)
theorem Sv.tryX (Ξ : Addr -> Rh -> Prop) (hb : ∀ EX, ExOk G EX Ξ -> Sv G ρ (tb EX) E)
  (hh : ∀ C ρ', Ξ C ρ' -> (∃ up, XC K C up /\ (Value.ref C :: (up ++ bmV)).contains (.ref C0) = true) /\ ∀ ea, Sv G (ρ'.set i (.cu (excCu ea C))) ts { nx := fun ρ2 => E.nx (ρ2.set i .no), rt := E.rt, bk := fun ρ2 => E.bk (ρ2.set i .no), ct := fun ρ2 => E.ct (ρ2.set i .no), rw := E.rw }) : Sv G ρ (tTry K C0 i tb ts) E := fun nb σ H D W KK =>
 hb _ (fun nb' ρ' σ' H' C q W' => by
  obtain ⟨⟨up, xc, ct⟩, hs⟩ := hh C ρ' q
  refine ⟨C, up, rfl, xc, ct, fun ea hea => hs ea _ _ _ _ (W'.cu_of (i := i) (c := excCu ea C) (.same W'.bag (same_new hea)) (fun a m => by rw [zq1x.mp m]; exact hea) (fun a m => by rw [zq1x.mp m, upd_same]; exact zq35x _) upd_same) ⟨fun nb2 ρ2 σ2 H2 q W2 => KK.nx _ _ _ _ q W2.forget, fun nb2 ρ2 σ2 H2 q W2 => KK.bk _ _ _ _ q W2.forget, fun nb2 ρ2 σ2 H2 q W2 => KK.ct _ _ _ _ q W2.forget, KK.rt, KK.rw⟩⟩) nb σ H D W KK
theorem Sv.move (e : ρ[j]? = some (.cu c)) (hij : i ≠ j) (h : E.nx ((ρ.set j .no).set i (.cu c))) : Sv G ρ (tAsg (tVar j) (gName i)) E := fun nb σ H D W KK => by
 obtain ⟨x0, e1, h1, h2, h3⟩ := W.ok j _ e
 subst h1
 refine ⟨c.v, e1, ?_⟩
 have hjl : j < ρ.length := (zq18x.mp e).1
 have es : σ.set j (some c.v) = σ := by
  refine zq76x fun k => ?_
  by_cases z : j = k
  ·subst z
   rw [zq9x (by rw [W.len]; exact hjl), e1]
  ·rw [zq5x z]
 have W1 : Wd G nb (ρ.set j .no) σ H := by
  have := W.forget (i := j) (x := some c.v)
  rwa [es] at this
 refine KK.nx nb _ _ _ h (W1.set (x := some c.v) ⟨rfl, h2, h3⟩ (fun _ _ _ z => by cases z) (fun _ _ _ z => by cases z) fun a m k s hk hs _ z => ?_)
 by_cases hjk : j = k
 ·subst hjk
  rw [zq9x hjl] at hs
  cases hs
  cases z
 ·rw [zq5x hjk] at hs
  exact W.apc j k c s hjk e hs a m z
end
section
variable {G : Gx} {ρ : Rh} {Φ : Pd} {i : Nat} {C ea : Addr} {up : List Value} {K : PySem.W.Frag} {cv : V} {cl : Value} {b : Bool}
theorem Ev.isCu {c : Cu} {a : Addr} (e : ρ[i]? = some (.cu c)) (hv : c.v = .ref a) (h : Φ true (.bool false)) : Ev G ρ (tOp rIs (tVar i) (tC .non)) Φ := fun nb σ H Q W z => by
 obtain ⟨x0, e1, h1, h2, h3⟩ := W.ok i _ e
 subst h1
 refine ⟨c.v, e1, ?_⟩
 show rIs c.v .non H Q
 refine ⟨rfl, ?_⟩
 rw [hv]
 exact z true _ H _ h (.refl W.bag) (.bl false)
theorem Ev.isiX (e : ρ[i]? = some (.raw (.ref ea))) (hh : (false, HD.th (excCu ea C), V.ref ea) ∈ G.hold) (xi : XI K C up) (hcv : ∀ u, RelV cv u -> u = cl) (hb : PySem.W.kitOne K (.ref C) cl = some b) (h : Φ true (.bool b)) : Ev G ρ (tCB (rIsiX K) (tCons (tVar i) (tCons (tC cv) tNil))) Φ := fun nb σ H Q W z => by
 obtain ⟨x0, e1, h1⟩ := W.ok i _ e
 have h1 : x0 = some (.ref ea) := h1
 subst h1
 obtain ⟨_, _, h3⟩ := W.held hh
 exact ⟨.ref ea, e1, ea, C, up, cv, cl, b, rfl, h3, xi, hcv, hb, z true _ H _ h (.refl W.bag) (.bl b)⟩
end
section
variable {X : Cx} {C0 : Addr} {up0 : List Value} {xc n : Str} {np hpos pos : Pos} {b₀ : Stmt} {suite body : List Stmt} {ts : TS} {i : Nat} {tb : (St -> XK) -> TS}
theorem ps_tryN (hc0 : XC X.K C0 up0) (hg : Gl X xc) (hm : X.mg xc = some (.ref C0)) (hN : X.N.Nodup) (hi : X.N[i]? = some n) (hk : X.env.scope.names.lookup n = some .local) (hst : X.stack = X.env :: X.outer) (hfr : X.env.frame = some X.env.locals) (hex : X.ex = [])
  (hb : ∀ (ps : List (Addr × Obj)) (W : Value -> Shared -> Prop) (EX : St -> XK), XOk (X.catch ps W) true EX -> PSs (X.catch ps W) body (tb EX)) (hs : ∀ ea, PSs (X.sup ea) (b₀ :: suite) ts) (hdb : (xc == ("__debug__" : Str)) = false := by decide) :
  PS X (.Try body [.ExceptHandler (some (.Name xc np)) (some n) (b₀ :: suite) hpos] [] [] pos) (tTry X.K C0 i tb ts) := ps_try hc0 hg hm hN hi hk hst hfr hex hb hs hdb
end
def nsB (es : Array DictEntry) : Bool := (es.toList.all fun e => match e.key with | .str _ _ => true | _ => false) && (nsFind es "__init__").isNone
theorem nsB_of {K : PySem.W.Frag} {N : Addr} {oc : Value} {od : Option Addr} {es : Array DictEntry} {ep : Nat} {sl : Array (Option Value)} (e : List.lookup N K = some ⟨oc, od, .dict es ep, sl⟩) (h : nsB es = true) : ∃ mN : Str -> Option Value, mN "__init__" = none /\ ∀ hp : Heap, K.In hp -> hp.Ns N mN := by
 unfold nsB at h
 rw [zq25x] at h
 refine ⟨nsFind es, zq136x.mp h.2, fun hp k => ⟨_, es, ep, k _ _ e, rfl, fun x hx => ?_, fun _ => rfl⟩⟩
 have := zq73x.mp h.1 x (zq143x.mpr hx)
 cases z : x.key with
 | str n t => exact ⟨n, t, rfl⟩
 | _ => rw [z] at this; cases this
def XcAt (K : PySem.W.Frag) (x : Str) (C : Addr) (up : List Value) : Prop := PySem.W.nsIn K mainGlobals x = some (some (.ref C)) /\ XI K C up
section
variable {oc ocA : Value} {od odA : Option Addr} {es esA : Array DictEntry} {ep epA : Nat} {sl slA : Array (Option Value)} {K : PySem.W.Frag} {x nm q nmA qA nm' q' : Str} {C N A NA C' N' : Addr} {bs' sub' bm' : List Value} {hdct' ab' : Bool} {sn' : List Str} {col' : Option Bool} {dd' : Option Addr} {k0' k1' k2' k3' k5' : Option Value} {new' : String} {bs bsA sub subA : List Value} {hdct hdctA ab abA : Bool} {sn snA : List Str} {col colA : Option Bool} {dd ddA : Option Addr} {k0 k1 k2 k3 k5 a0 a1 a2 a3 a5 : Option Value}
theorem XcAt.mk0 (a : PySem.W.nsIn K mainGlobals x = some (some (.ref C))) (o : List.lookup C K = some (excClassObj nm q C N bs bmV hdct sn sub ab col dd k0 k1 k2 k3 k5 "ValueError.__new__")) (i : List.lookup N K = some ⟨oc, od, .dict es ep, sl⟩) (j : nsB es = true)
  (gg : PySem.W.findIn K (.ref C) "__getattribute__" = some (some (.builtin "BaseException.__getattribute__"))) (gt : PySem.W.findIn K (.ref C) "__getattr__" = some none) (gc : PySem.W.findIn K (.ref C) "__class__" = some (some (.builtin "object.__class__"))) : XcAt K x C [] := by
 obtain ⟨mN, hn, hs⟩ := nsB_of i j
 exact ⟨a, ⟨⟨nm, q, N, bs, hdct, sn, sub, ab, col, dd, k0, k1, k2, k3, k5, mN, hn, fun h k => ⟨k _ _ o, hs h k, .base⟩⟩, contains_up (by decide)⟩, gg, gt, gc⟩
theorem XcAt.mk1 (oA : List.lookup A K = some (excClassObj nmA qA A NA bsA bmV hdctA snA subA abA colA ddA a0 a1 a2 a3 a5 "ValueError.__new__")) (iA : List.lookup NA K = some ⟨ocA, odA, .dict esA epA, slA⟩) (jA : nsB esA = true) (a : PySem.W.nsIn K mainGlobals x = some (some (.ref C))) (o : List.lookup C K = some (excClassObj nm q C N bs (.ref A :: bmV) hdct sn sub ab col dd k0 k1 k2 k3 k5 "ValueError.__new__")) (i : List.lookup N K = some ⟨oc, od, .dict es ep, sl⟩) (j : nsB es = true)
  (gg : PySem.W.findIn K (.ref C) "__getattribute__" = some (some (.builtin "BaseException.__getattribute__"))) (gt : PySem.W.findIn K (.ref C) "__getattr__" = some none) (gc : PySem.W.findIn K (.ref C) "__class__" = some (some (.builtin "object.__class__"))) : XcAt K x C [.ref A] := by
 obtain ⟨mN, hn, hs⟩ := nsB_of i j
 obtain ⟨mA, hnA, hsA⟩ := nsB_of iA jA
 exact ⟨a, ⟨⟨nm, q, N, bs, hdct, sn, sub, ab, col, dd, k0, k1, k2, k3, k5, mN, hn, fun h k => ⟨k _ _ o, hs h k, .own (k _ _ oA) (hsA h k) hnA .base⟩⟩, contains_up (by decide)⟩, gg, gt, gc⟩
theorem kit_ref {bm : List Value} {b : Bool} (o : List.lookup C K = some (excClassObj nm q C N bs bm hdct sn sub ab col dd k0 k1 k2 k3 k5 "ValueError.__new__")) (o' : List.lookup C' K = some (excClassObj nm' q' C' N' bs' bm' hdct' sn' sub' ab' col' dd' k0' k1' k2' k3' k5' new')) (hb : (Value.ref C :: bm).contains (.ref C') = b) : PySem.W.kitOne K (.ref C) (.ref C') = some b := by
 unfold PySem.W.kitOne
 by_cases z : (Value.ref C == Value.ref C') = true
 ·rw [if_pos z]
  have e := beq_iff_eq.mp z
  rw [<- hb, <- e]
  simp
 ·rw [if_neg z]
  unfold PySem.W.kitCls PySem.W.clsIn PySem.W.typeIn
  simp only [o']
  rw [if_pos (by rfl)]
  unfold PySem.W.subIn PySem.W.mroIn PySem.W.clsIn
  simp only [o]
  rw [<- hb]
  rfl
theorem kit_val {bm : List Value} {b : Bool} (o : List.lookup C K = some (excClassObj nm q C N bs bm hdct sn sub ab col dd k0 k1 k2 k3 k5 "ValueError.__new__")) (hb : (Value.ref C :: bm).contains (.type "ValueError") = b) : PySem.W.kitOne K (.ref C) (.type "ValueError") = some b := by
 unfold PySem.W.kitOne
 rw [if_neg (by intro z; cases beq_iff_eq.mp z)]
 unfold PySem.W.kitCls
 simp only []
 rw [if_pos (by decide +kernel)]
 unfold PySem.W.subIn PySem.W.mroIn PySem.W.clsIn
 simp only [o]
 rw [<- hb]
 rfl
end
theorem boot_ValueError : bootBuiltins "ValueError" = some (.type "ValueError") := by decide +kernel
theorem XI.up1 {K : PySem.W.Frag} {C A : Addr} (x : XI K C [.ref A]) : ∃ up, XC K C up /\ (Value.ref C :: (up ++ bmV)).contains (.ref A) = true := ⟨_, x.toXC, by simp⟩
theorem XCallee.mk' {P : Program} {w : World} {K : PySem.W.Frag} {mg : Str -> Option Value} {base : Heap} {x : Str} {st : Stmt} {k : Nat} {ps : List Str} {sp : Sp} {f : Addr} {fd : FuncData} (F : Fun K x x st f fd) (ok : FnOk P w K mg base (CX1 P w) k f fd ps sp) (b : Binds K fd ps [])
  (m : mg x = some (.ref f)) : XCallee P w K mg base x k ps sp := ⟨f, fd, ok, b, m, F.kp⟩
end L2
set_option maxRecDepth 100000
set_option maxHeartbeats 4000000
namespace L2
open PySem PySem.Spec PyProof.Rows
section
variable {G : Gx} {ρ : Rh} {nb : Addr -> Prop} {σ : St} {H H' : Hp} {i j n k : Nat} {a : Addr} {f : Bool} {ds : List PyData} {E : DE} {s : TS} {c : Cu}
theorem set_same {l : List α} {k : Nat} {x : α} (e : l[k]? = some x) : l.set k x = l := by
 refine zq76x fun m => ?_
 by_cases z : k = m
 ·subst z
  rw [zq9x (zq18x.mp e).1, e]
 ·rw [zq5x z]
theorem Wd.toCu (W : Wd G nb ρ σ H) (e : ρ[i]? = some (.own a f ds)) : Wd G nb (ρ.set i (.cu (ownCu a ds))) σ H := by
  obtain ⟨x, e1, h1, h2, h3, xs, hx, hd⟩ := W.ok i _ e
  subst h1
  have := W.set (i := i) (s := .cu (L2.ownCu a ds)) (x := some (.ref a)) ⟨rfl, fun b m => by rw [zq1x.mp m]; exact ⟨h2, h3⟩, xs, hx, hd.av (S_mono (fun z => by cases z) fun _ z => z)⟩ (fun _ _ _ z => by cases z) (fun _ _ _ z => by cases z) fun b m k t hk ht _ z => ?_
  · rwa [set_same e1] at this
  · obtain rfl : b = a := zq1x.mp m
    obtain ⟨y, e2, q⟩ := W.ok k t ht
    cases t with
    | own c g cs => exact W.apart i k b f ds c g cs (zq6x hk) e ht (zq1x.mp z)
    | dic c g cs =>
      obtain ⟨_, _, _, ps, hp, _⟩ := q
      rw [<- zq1x.mp z, hx] at hp; cases hp
    | cu c => exact W.apc k i c _ hk ht e b z (zq1x.mpr rfl)
    | no => cases z
    | d f d => cases z
    | bag => cases z
    | raw v => cases z
theorem Wd.toOwn (W : Wd G nb ρ σ H) (e : ρ[i]? = some (.cu (ownCu a ds))) : Wd G nb (ρ.set i (.own a false ds)) σ H := by
 obtain ⟨x, e1, h1, h2, xs, hx, hd⟩ := W.ok i _ e
 subst h1
 have h0 := h2 a (zq1x.mpr rfl)
 have ap : ∀ (k : Nat) t, k ≠ i -> ρ[k]? = some t -> a ∉ t.adr := fun k t hk ht => W.apc i k _ t (zq6x hk) e ht a (zq1x.mpr rfl)
 have := W.set (i := i) (s := .own a false ds) (x := some (.ref a)) ⟨rfl, h0.1, h0.2, xs, hx, hd⟩ (fun b g es z k c' g' cs hk ht w => by cases z; exact ap k _ hk ht (zq1x.mpr w)) (fun _ _ _ z => by cases z) fun b m k t hk ht _ z => by rw [zq1x.mp m] at z; exact ap k t hk ht z
 have e1 : σ[i]? = some (some (V.ref a)) := e1
 rwa [set_same e1] at this
theorem Sv.toCu (i : Nat) (e : ρ[i]? = some (.own a f ds)) (h : Sv G (ρ.set i (.cu (ownCu a ds))) s E) : Sv G ρ s E := fun nb σ H D W K => h nb σ H D (W.toCu e) K
theorem Sv.toOwn (i : Nat) (e : ρ[i]? = some (.cu (ownCu a ds))) (h : Sv G (ρ.set i (.own a false ds)) s E) : Sv G ρ s E := fun nb σ H D W K => h nb σ H D (W.toOwn e) K
end
def spP (k n : Nat) (F : CF) : Sp := fun vs H Q _ => vs.length = n /\ ∃ (nb : Addr -> Prop) (c : Cu) (us ws : List V) (ds : List PyData), vs = us ++ c.v :: ws /\ us.length = k /\ Live nb H /\ (∀ a ∈ c.F, nb a) /\ c.f = false /\ c.P nb H /\ IsDs nb H ds (us ++ ws) /\
 F c ds fun c' f d => ∀ v H', CuTo c c' H H' -> c'.P (fun a => nb a \/ a ∈ c'.F) H' -> IsD (fun a => nb a \/ a ∈ c'.F \/ (f = true /\ H a ≠ none)) H' d v -> Q v H'
theorem spP_out {k n : Nat} {F : CF} {vs : List V} {H : Hp} {Q : VK} {E : XK} (h : spP k n F vs H Q E) : ∃ (nb : Addr -> Prop) (c : Cu) (us ws : List V) (ds : List PyData) (Φ : Cu -> Pd), vs = us ++ c.v :: ws /\ us.length = k /\ Live nb H /\ (∀ a ∈ c.F, nb a) /\ c.f = false /\ c.P nb H /\ IsDs nb H ds (us ++ ws) /\
  (∀ c' f d v H', Φ c' f d -> CuTo c c' H H' -> c'.P (fun a => nb a \/ a ∈ c'.F) H' -> IsD (fun a => nb a \/ a ∈ c'.F \/ (f = true /\ H a ≠ none)) H' d v -> Q v H') /\ F c ds Φ := by
 obtain ⟨_, nb, c, us, ws, ds, e, h0, h1, h2, h3, h4, h5, h6⟩ := h
 exact ⟨nb, c, us, ws, ds, _, e, h0, h1, h2, h3, h4, h5, fun c' f d v H' q => q v H', h6⟩
def objEk (k : Nat) (G : Gx) (c : Cu) (Φ : Cu -> Pd) : DE where
 nx := fun ρ => ∃ c', ρ[k]? = some (.cu c') /\ CuUp c c' /\ Φ c' true .none
 rt := fun _ _ => False
 rw := fun nb ρ v H => ∃ c' f d, ρ[k]? = some (.cu c') /\ CuUp c c' /\ Φ c' f d /\ IsD (G.S nb f) H d v
section
variable {ρ : Rh} {t : TS} {N : List Str} {us ws : List V} {ds : List PyData} {nb : Addr -> Prop} {H : Hp} {Q : VK} {Φ : Cu -> Pd} {c : Cu} {k : Nat} {σ : St}
theorem objG_wd (hl : Live nb H) (hF : ∀ a ∈ c.F, nb a) (hf : c.f = false) (hP : c.P nb H) (hlen : σ.length = ρ.length) (hk : ρ[k]? = some (.cu c)) (hσ : σ[k]? = some (some c.v))
  (hs : ∀ (i : Nat) s, i ≠ k -> ρ[i]? = some s -> (s = .no /\ ∃ x, σ[i]? = some x) \/ ∃ d v, s = .d false d /\ σ[i]? = some (some v) /\ IsD nb H d v) : Wd (objG c.F H nb) (fun a => a ∈ c.F) ρ σ H := by
 have hNB : ∀ a, NB (objG c.F H nb).B a := fun a b l e => by cases e
 have av : ∀ a, (objG c.F H nb).S (fun a => a ∈ c.F) false a -> nb a := fun a z => by
  rcases z with z | z | z | z
  ·exact hF a z
  ·exact z.1
  ·exact absurd (hNB a) z
  ·cases z.1
 have cs : ∀ {i : Nat} {s : Sl}, ρ[i]? = some s -> s.adr ≠ [] -> i = k := fun {i s} e z => zq40x fun h => by
  rcases hs i s h e with ⟨rfl, _⟩ | ⟨d, v, rfl, _⟩ <;> exact z rfl
 refine ⟨fun _ _ z => (by cases z), fun a z => hl a (hF a z), fun a o _ e => ?_, fun a z _ => by show (if a ∈ c.F then none else H a) = none; rw [if_pos z], fun a z => ?_, hlen, fun _ _ z => (by cases z), fun _ m => (by cases m), fun i s e => ?_, fun i j a f as c2 g cs' hij e1 e2 => ?_, fun i j a f as c2 g cs' hij e1 e2 => ?_, fun i j c2 s hij e1 e2 a m z => ?_⟩
 ·have e : (if a ∈ c.F then none else H a) = some o := e
  by_cases z : a ∈ c.F
  ·rw [if_pos z] at e; cases e
  ·rwa [if_neg z] at e
 ·show (if a ∈ c.F then none else H a) ≠ none
  rw [if_neg z.2]; exact hl a z.1
 ·by_cases h : i = k
  ·subst h
   rw [hk] at e; cases e
   exact ⟨_, hσ, rfl, fun a m => ⟨m, hNB a⟩, by rw [hf]; exact c.av av hP⟩
  ·rcases hs i s h e with ⟨rfl, x, hx⟩ | ⟨d, v, rfl, hv, q⟩
   ·exact ⟨x, hx, trivial⟩
   ·exact ⟨some v, hv, v, rfl, q.av av⟩
 ·have := cs e1 (fun z => by cases z); subst this; rw [hk] at e1; cases e1
 ·have := cs e1 (fun z => by cases z); subst this; rw [hk] at e1; cases e1
 ·have h1 := cs e1 (fun w => by rw [show (Sl.cu c2).adr = c2.F from rfl] at w; rw [w] at m; cases m)
  have h2 := cs e2 (fun w => by rw [w] at z; cases z)
  omega
theorem objG_toK {c' : Cu} {nb' : Addr -> Prop} {ρ' : Rh} {σ' : St} {H' : Hp} (W : Wd (objG c.F H nb) nb' ρ' σ' H') (e : ρ'[k]? = some (.cu c')) (up : CuUp c c') : CuTo c c' H H' /\ c'.P (fun a => nb a \/ a ∈ c'.F) H' /\ ∀ f a, nb a \/ a ∈ c'.F \/ (f = true /\ H a ≠ none) -> (objG c.F H nb).S nb' f a := by
 have hNB : ∀ a, NB (objG c.F H nb).B a := fun a b l e => by cases e
 obtain ⟨x0, e1, h1, h2, h3⟩ := W.ok k _ e
 have inS : ∀ (f : Bool) a, nb a \/ a ∈ c'.F \/ (f = true /\ H a ≠ none) -> (objG c.F H nb).S nb' f a := fun f a z => by
  by_cases m : a ∈ c'.F
  ·exact .inl (h2 a m).1
  have m' : a ∉ c.F := fun z => m (up.sub a z)
  rcases z with z | z | z
  ·exact .inr (.inl ⟨z, m'⟩)
  ·exact absurd z m
  ·exact .inr (.inr (.inr ⟨z.1, by show (if a ∈ c.F then none else H a) ≠ none; rw [if_neg m']; exact z.2⟩))
 refine ⟨⟨up.v, up.f, up.sub, fun a m => ?_, fun a o n q => ?_, fun a m => W.live a (h2 a m).1⟩, c'.av (fun a z => by rw [up.f]; exact inS false a (z.elim .inl fun z => .inr (.inl z))) h3, inS⟩
 ·have := W.nbo a (h2 a m).1 (h2 a m).2
  by_cases z : a ∈ c.F
  ·exact .inl z
  ·exact .inr (by have q : (if a ∈ c.F then none else H a) = none := this; rwa [if_neg z] at q)
 ·exact W.old a o (hNB a) (by show (if a ∈ c.F then none else H a) = _; rw [if_neg n]; exact q)
theorem Sv.enterP (hl : Live nb H) (hF : ∀ a ∈ c.F, nb a) (hf : c.f = false) (hP : c.P nb H) (hd : IsDs nb H ds (us ++ ws)) (hu : us.length = k)
  (hΦ : ∀ c' f d v H', Φ c' f d -> CuTo c c' H H' -> c'.P (fun a => nb a \/ a ∈ c'.F) H' -> IsD (fun a => nb a \/ a ∈ c'.F \/ (f = true /\ H a ≠ none)) H' d v -> Q v H')
  (hρ : ρ = (ds.take k).map (Sl.d false) ++ .cu c :: (ds.drop k).map (Sl.d false) ++ List.replicate (N.length - (ds.length + 1)) .no) (h : Sv (objG c.F H nb) ρ t (objEk k (objG c.F H nb) c Φ)) : t { nx := fun _ H' => Q .non H', rt := Q } (start N (us ++ c.v :: ws)) H := by
 have hlen := hd.length
 rw [zq39x] at hlen
 have hdt : (ds.take k).length = k := by rw [zq85x]; omega
 have hdd : (ds.drop k).length = ws.length := by rw [List.length_drop]; omega
 refine h (fun a => a ∈ c.F) _ H _ (objG_wd (k := k) hl hF hf hP ?_ ?_ ?_ fun i s hi e => ?_) ⟨fun nb' ρ' σ' H' ⟨c', e, up, p⟩ W => ?_, fun _ _ _ _ q _ => q.elim, fun _ _ _ _ q _ => q.elim, fun _ _ _ _ _ _ _ q _ _ => q.elim, fun nb' ρ' σ' v H' ⟨c', f, d, e, up, p, hv⟩ W => ?_⟩
 ·rw [hρ]; unfold start; simp; omega
 ·rw [hρ, zq58x, zq15x (by rw [zq0x, hdt]; exact zq3x _), zq0x, hdt, Nat.sub_self]
  rfl
 ·unfold start
  rw [zq36x, zq58x, zq15x (by rw [zq0x, hu]; exact zq3x _), zq0x, hu, Nat.sub_self]
  rfl
 ·rw [hρ] at e
  unfold start
  have hik : i < k \/ k < i := by omega
  rcases hik with hik | hik
  ·right
   rw [zq58x, zq19x (by rw [zq0x]; omega), zq16x, zq146x hik] at e
   obtain ⟨v, d, hv, e2, q⟩ := isDs_at hd (i := i) (s := s) (by rw [zq16x]; exact e)
   rw [zq19x (by omega)] at hv
   exact ⟨d, v, e2, by rw [zq36x, zq58x, zq19x (by rw [zq0x]; omega), zq16x, hv]; rfl, q⟩
  ·rw [zq58x, zq15x (by rw [zq0x]; omega), zq0x, hdt] at e
   obtain ⟨m, rfl⟩ : ∃ m, i = k + 1 + m := ⟨i - k - 1, by omega⟩
   rw [show k + 1 + m - k = m + 1 by omega, zq44x, zq32x] at e
   by_cases hm : m < ws.length
   ·right
    rw [zq19x (by rw [zq0x]; omega), zq16x, List.getElem?_drop] at e
    obtain ⟨v, d, hv, e2, q⟩ := isDs_at hd (i := k + m) (s := s) (by rw [zq16x]; exact e)
    rw [zq15x (by omega), hu, show k + m - k = m by omega] at hv
    refine ⟨d, v, e2, ?_, q⟩
    rw [zq36x, zq58x, zq15x (by rw [zq0x]; omega), zq0x, hu, show k + 1 + m - k = m + 1 by omega, zq24x, zq44x, zq32x, zq19x (by rw [zq0x]; exact hm), zq16x, hv]
    rfl
   ·left
    rw [zq15x (by rw [zq0x]; omega), zq22x] at e
    split at e
    ·rename_i h'
     cases e
     refine ⟨rfl, none, ?_⟩
     rw [zq36x, zq58x, zq15x (by rw [zq0x]; omega), zq0x, hu, show k + 1 + m - k = m + 1 by omega, zq24x, zq44x, zq32x, zq15x (by rw [zq0x]; omega), zq22x, if_pos]
     rw [zq0x] at h' ⊢
     simp
     omega
    ·cases e
 ·obtain ⟨q1, q2, q3⟩ := objG_toK W e up
  exact hΦ c' true .none .non H' p q1 q2 .non
 ·obtain ⟨q1, q2, q3⟩ := objG_toK W e up
  exact hΦ c' f d v H' p q1 q2 (hv.av (q3 f))
end
section
variable {G : Gx} {ρ : Rh} {Φ : Rh -> Pd} {ta tb te : TE} {i n : Nat} {F : CF} {a : Addr} {f : Bool} {ds : List PyData}
theorem EvS.callP1 (hm : MonoC F) (e : ρ[i]? = some (.own a f ds)) (h : Ev G ρ ta fun _ d1 => Ev G ρ tb fun _ d2 => F (ownCu a ds) [d1, d2] fun c' f' d => ∃ ds', c' = ownCu a ds' /\ Φ (ρ.set i (.own a false ds')) f' d) : EvS G ρ (tCall (spP 1 3 F) [] E0 (tCons ta (tCons (tVar i) (tCons tb tNil)))) Φ := fun nb σ H Q W z =>
 h nb σ H _ W fun f1 v1 H1 d1 p1 s1 q1 => by
  obtain ⟨x0, e1, h1, _⟩ := (W.step s1).ok i _ e
  subst h1
  refine ⟨.ref a, e1, p1 nb σ H1 _ (W.step s1) fun f2 v2 H2 d2 p2 s2 q2 => ?_⟩
  have W2 := ((W.step s1).step s2).toCu e
  have hil : i < ρ.length := (zq18x.mp e).1
  obtain ⟨x0, e1, h1, h2, h3⟩ := W2.ok i _ (zq9x hil)
  refine ⟨rfl, G.S nb false, ownCu a ds, [v1], [v2], [d1, d2], rfl, rfl, W2.liveS, fun b m => .inl (h2 b m).1, rfl, h3, .cons ((q1.av (S_mono (fun z => by cases z) fun _ z => z)).keep s2.butS) (.cons (q2.av (S_mono (fun z => by cases z) fun _ z => z)) .nil), hm _ _ _ _ p2 fun c' f' d ⟨ds', ec, hp⟩ v H' to hP hd => ?_⟩
  subst ec
  have W3 := W2.setCu (c' := ownCu a ds') (zq9x hil) to.kp to.v (fun b m => (to.new b m).imp id .inl) (fun b m => m.elim (fun m => to.lv b (to.sub b m)) fun m => to.lv b m) ((ownCu a ds').av (fun b y => ?_) hP)
  ·rw [zq55x] at W3
   have W4 := W3.toOwn (zq9x hil)
   rw [zq55x] at W4
   refine z _ _ f' v H' d hp W4 (hd.av fun b y => ?_)
   rcases y with (y | y) | y | y | y
   ·exact .inl (.inl y)
   ·exact .inr (.inl y)
   ·exact .inl (.inr (.inl y))
   ·exact .inl (.inr (.inr (.inl y)))
   ·exact .inr (.inr ⟨y.1, W2.liveS (f := true) b (.inr (.inr (.inr ⟨rfl, y.2⟩)))⟩)
  ·rcases y with (y | y) | y | y | y
   ·exact .inl (.inl y)
   ·exact .inr y
   ·exact .inl (.inr (.inl y))
   ·exact .inl (.inr (.inr (.inl y)))
   ·cases y.1
end
section
variable {G : Gx} {ρ : Rh} {ta tb : TE} {t : TA} {tt : TT} {i n : Nat} {F : RF} {c : Cu} {C : Addr} {m : Str} {Θ : Bool -> List PyData -> Prop} {Φ : PyData -> Prop}
theorem EvN.ifE {tt : TT} (h : Tv G ρ tt fun b => if b = true then EvN G ρ ta Θ else EvN G ρ tb Θ) : EvN G ρ (tIf tt ta tb) Θ := fun nb σ H Q W z =>
 h nb σ H _ W fun b H1 q s1 => by
  have lift : ∀ (f : Bool) (a : Addr) (xs : List V) (H' : Hp) (ds : List PyData), Θ f ds -> Step G.B H1 H' -> H1 a = none -> H' a = some (.lst xs) -> IsDs (fun x => G.S nb f x \/ x = a) H' ds xs -> Q (.ref a) H' := fun f a xs H' ds p s2 ha e hd => z f a xs H' ds p (s1.trans s2) (W.none_of s1 ha) e hd
  cases b with
  | true => rw [if_pos rfl] at q ⊢; exact q nb σ H1 _ (W.step s1) lift
  | false => rw [if_neg zq11x] at q ⊢; exact q nb σ H1 _ (W.step s1) lift
theorem EvF.methH (hm : MonoR F) (e : ρ[i]? = some (.raw c.v)) (hh : (false, HD.th c, c.v) ∈ G.hold) (hi : ∀ S H, c.P S H -> ∃ a dx fs, c.v = .ref a /\ H a = some (.ins C dx fs) /\ fs.lookup m = none)
  (h : AvL G ρ t fun ds => ds.length + 1 = n /\ F c ds fun f d => f = true /\ Φ d) : EvF G ρ (tMeth C m (spR n F) [] E0 (tVar i) t) Φ := fun nb σ H Q W z => by
 obtain ⟨x0, e1, h1⟩ := W.ok i _ e
 have h1 : x0 = some c.v := h1
 subst h1
 obtain ⟨_, _, h3⟩ := W.held hh
 obtain ⟨a, dx, fs, g1, g2, g3⟩ := hi _ _ h3
 refine ⟨c.v, e1, a, dx, fs, g1, g2, g3, h nb σ H _ W fun ds vs H1 ⟨hl, p⟩ s1 q1 => ?_⟩
 have k := (W.step s1).heldR hh
 rw [zq30x]
 have W1 := W.step s1
 refine ⟨by rw [zq27x, q1.length, hl], fun a => ¬ NB G.B a, c, vs, ds, rfl, fun a y => NB.bag_live W1.bag y, fun a m => ⟨fun y => y (k.1 a m).1, (k.1 a m).2⟩, k.2, q1, hm _ _ _ _ p fun f d ⟨hf, hp⟩ v H' sm hd => z v H' d hp (s1.trans (.same W1.bag sm)) ?_⟩
 refine hd.av fun a y => .inr ⟨hf, fun w => y ?_⟩
 exact W.none_of s1 w
end
end L2
set_option maxRecDepth 100000
set_option maxHeartbeats 4000000
set_option maxRecDepth 100000
set_option maxHeartbeats 4000000
set_option maxRecDepth 100000
set_option maxHeartbeats 4000000
namespace L2
open PySem PySem.Spec PyProof.Rows PySem.NumText
abbrev nS (n : Int) : Str := Str.ofString (toString n)
end L2
set_option maxRecDepth 100000
set_option maxHeartbeats 4000000
set_option maxRecDepth 100000
set_option maxHeartbeats 4000000
set_option maxRecDepth 100000
set_option maxHeartbeats 4000000
set_option maxRecDepth 100000
set_option maxHeartbeats 4000000
namespace L2
open PySem PySem.Spec PyProof.Rows
abbrev MF := List Cu -> List PyData -> (List Cu -> Pd) -> Prop
end L2
set_option maxRecDepth 100000
set_option maxHeartbeats 4000000
namespace L2
open PySem PySem.Spec PyProof.Rows
inductive Deed where
 | lt (a b : Int) | ck (prs : Prs) (r : Int)
abbrev Deeds := List (Int × Deed)
end L2
set_option maxRecDepth 100000
set_option maxHeartbeats 4000000
namespace L2
open PySem PySem.Spec PyProof.Rows
structure OwOk (L : Sto) (o o1 o2 : Addr) (m : Int) (ns gs : List Int) : Prop where
 nd : [o, o1, o2].Nodup
 h0 : L.lookup o = some (.lst [.dat (.int m), .own o1, .own o2])
 h1 : L.lookup o1 = some (.lst (ns.map fun n => .dat (.int n)))
 h2 : L.lookup o2 = some (.lst (gs.map fun n => .dat (.int n)))
end L2
set_option maxRecDepth 100000
set_option maxHeartbeats 4000000
set_option maxRecDepth 100000
set_option maxHeartbeats 4000000
namespace L2
open PySem PySem.Spec PyProof.Rows
variable {p n many : Int} {es : Deeds}
end L2
set_option maxRecDepth 100000
set_option maxHeartbeats 8000000
namespace K23
open PySem L2
def top (i : Nat) : Stmt := PySem.Challenge.pw_fewchecks_k23_letters_lost_and_put.main.body.getD i (.Pass ⟨0, 0, 0, 0⟩)
abbrev sWall : Stmt := top 0
abbrev sAskPlace : Stmt := top 11
abbrev sIsLetter : Stmt := top 12
abbrev sAskLetter : Stmt := top 13
abbrev sLostOf : Stmt := top 14
abbrev sCopied : Stmt := top 16
abbrev sLawBag : Stmt := top 19
abbrev sLawDraw : Stmt := top 20
abbrev sLawPrimeFrom : Stmt := top 21
abbrev sLawPrime : Stmt := top 22
abbrev sLawLetter : Stmt := top 23
abbrev sLawFactor : Stmt := top 24
abbrev sLawLetters : Stmt := top 25
abbrev sLawPlaces : Stmt := top 26
abbrev sLawNet : Stmt := top 27
abbrev sLawLossy : Stmt := top 28
abbrev sLawCopy : Stmt := top 29
abbrev sLawAlike : Stmt := top 30
abbrev sLawLost : Stmt := top 31
abbrev sLawKinds : Stmt := top 32
abbrev sLawBeside : Stmt := top 33
abbrev sLawDone : Stmt := top 34
abbrev sLawDue : Stmt := top 35
abbrev sLawSame : Stmt := top 36
abbrev sLaw : Stmt := top 37
abbrev sMenderInit : Stmt := inClass (top 17) 0
abbrev sMenderLose : Stmt := inClass (top 17) 3
abbrev sMenderPut : Stmt := inClass (top 17) 4
abbrev sMenderWord : Stmt := inClass (top 17) 5
abbrev sMenderLost : Stmt := inClass (top 17) 6
abbrev AllMk : Prop := ∀ {l : PySem.W.OpenLaw} {w : World} {K : PySem.W.Frag} {h : Heap} {mg : Str -> Option Value} {fa : Addr} {f0 f1 f2 f3 f4 f5 f6 f7 f8 f9 f10 f11 f12 f13 f14 f15 f16 f17 f18 f19 f20 f21 f22 f23 f24 f25 f26 f27 f28 : Addr} (X : K.In h) (G : h.Ns mainGlobals mg) (hfa : mg "law" = some (.ref fa))
  {od23 an23 : Option Addr} {sl23 : Array (Option Value)} {oc23 kV23 dc23 pm23 cd23 ct23 : Value} {od24 an24 : Option Addr} {sl24 : Array (Option Value)} {oc24 kV24 dc24 pm24 cd24 ct24 : Value} {od25 an25 : Option Addr} {sl25 : Array (Option Value)} {oc25 kV25 dc25 pm25 cd25 ct25 : Value} {od26 an26 : Option Addr} {sl26 : Array (Option Value)} {oc26 kV26 dc26 pm26 cd26 ct26 : Value} {od27 an27 : Option Addr} {sl27 : Array (Option Value)} {oc27 kV27 dc27 pm27 cd27 ct27 : Value} {od28 an28 : Option Addr} {sl28 : Array (Option Value)} {oc28 kV28 dc28 pm28 cd28 ct28 : Value}
  {C_Mender : Addr} (aC_Mender : PySem.W.nsIn K mainGlobals "Mender" = some (some (.ref C_Mender))) (pg_Mender : PySem.W.plainGet K C_Mender Str.empty = true) (hd_Mender : PySem.W.hasDictIn K C_Mender = true) (po_Mender : PySem.W.plainOver K C_Mender = true) (sa_Mender : PySem.W.findIn K (.ref C_Mender) "__setattr__" = some (some (.builtin "object.__setattr__"))) (mk_Mender : PySem.W.makesIn K C_Mender = true) (kc_Mender : PySem.W.keepIn K (.ref C_Mender) = true)
  {C_NetError : Addr} (xa_NetError : XcAt K "NetError" C_NetError [])
  {C_NoPlace : Addr} (xa_NoPlace : XcAt K "NoPlace" C_NoPlace [.ref C_NetError])
  {C_NoLetter : Addr} (xa_NoLetter : XcAt K "NoLetter" C_NoLetter [.ref C_NetError])
  {C_NoCheck : Addr} (xa_NoCheck : XcAt K "NoCheck" C_NoCheck [.ref C_NetError])
  {C_NoDeed : Addr} (xa_NoDeed : XcAt K "NoDeed" C_NoDeed [.ref C_NetError])
  {C_NoNet : Addr} (xn_NoNet : PySem.W.nsIn K mainGlobals "NoNet" = some (some (.ref C_NoNet)))
  {C_NoText : Addr} (xa_NoText : XcAt K "NoText" C_NoText [.ref C_NetError])
  {C_NotFormed : Addr} (xa_NotFormed : XcAt K "NotFormed" C_NotFormed [.ref C_NetError])
  (kit_NoPlace_NoPlace : PySem.W.kitOne K (.ref C_NoPlace) (.ref C_NoPlace) = some true)
  (kit_NoPlace_NoLetter : PySem.W.kitOne K (.ref C_NoPlace) (.ref C_NoLetter) = some false)
  (kit_NoPlace_NoCheck : PySem.W.kitOne K (.ref C_NoPlace) (.ref C_NoCheck) = some false)
  (kit_NoPlace_NoDeed : PySem.W.kitOne K (.ref C_NoPlace) (.ref C_NoDeed) = some false)
  (kit_NoPlace_NoNet : PySem.W.kitOne K (.ref C_NoPlace) (.ref C_NoNet) = some false)
  (kit_NoPlace_NoText : PySem.W.kitOne K (.ref C_NoPlace) (.ref C_NoText) = some false)
  (kit_NoPlace_NotFormed : PySem.W.kitOne K (.ref C_NoPlace) (.ref C_NotFormed) = some false)
  (kit_NoPlace_ValueError : PySem.W.kitOne K (.ref C_NoPlace) (.type "ValueError") = some true)
  (kit_NoLetter_NoPlace : PySem.W.kitOne K (.ref C_NoLetter) (.ref C_NoPlace) = some false)
  (kit_NoLetter_NoLetter : PySem.W.kitOne K (.ref C_NoLetter) (.ref C_NoLetter) = some true)
  (kit_NoLetter_NoCheck : PySem.W.kitOne K (.ref C_NoLetter) (.ref C_NoCheck) = some false)
  (kit_NoLetter_NoDeed : PySem.W.kitOne K (.ref C_NoLetter) (.ref C_NoDeed) = some false)
  (kit_NoLetter_NoNet : PySem.W.kitOne K (.ref C_NoLetter) (.ref C_NoNet) = some false)
  (kit_NoLetter_NoText : PySem.W.kitOne K (.ref C_NoLetter) (.ref C_NoText) = some false)
  (kit_NoLetter_NotFormed : PySem.W.kitOne K (.ref C_NoLetter) (.ref C_NotFormed) = some false)
  (kit_NoLetter_ValueError : PySem.W.kitOne K (.ref C_NoLetter) (.type "ValueError") = some true)
  (na_Mender_net : PySem.W.findIn K (.ref C_Mender) "net" = some none)
  (na_Mender_letters : PySem.W.findIn K (.ref C_Mender) "letters" = some none)
  (d0 : DfAt K "ask_place" "ask_place" sAskPlace f0)
  (d1 : DfAt K "is_letter" "is_letter" sIsLetter f1)
  (d2 : DfAt K "ask_letter" "ask_letter" sAskLetter f2)
  (d3 : DfAt K "lost_of" "lost_of" sLostOf f3)
  (d4 : DfAt K "copied" "copied" sCopied f4)
  (d5 : DfAt K "_law_bag" "_law_bag" sLawBag f5)
  (d6 : DfAt K "_law_draw" "_law_draw" sLawDraw f6)
  (d7 : DfAt K "_law_prime_from" "_law_prime_from" sLawPrimeFrom f7)
  (d8 : DfAt K "_law_prime" "_law_prime" sLawPrime f8)
  (d9 : DfAt K "_law_letter" "_law_letter" sLawLetter f9)
  (d10 : DfAt K "_law_factor" "_law_factor" sLawFactor f10)
  (d11 : DfAt K "_law_letters" "_law_letters" sLawLetters f11)
  (d12 : DfAt K "_law_places" "_law_places" sLawPlaces f12)
  (d13 : DfAt K "_law_net" "_law_net" sLawNet f13)
  (d14 : DfAt K "_law_lossy" "_law_lossy" sLawLossy f14)
  (d15 : DfAt K "_law_copy" "_law_copy" sLawCopy f15)
  (d16 : DfAt K "_law_alike" "_law_alike" sLawAlike f16)
  (d17 : DfAt K "_law_lost" "_law_lost" sLawLost f17)
  (d18 : DfAt K "_law_kinds" "_law_kinds" sLawKinds f18)
  (d19 : DfAt K "_law_beside" "_law_beside" sLawBeside f19)
  (d20 : DfAt K "_law_done" "_law_done" sLawDone f20)
  (d21 : DfAt K "_law_due" "_law_due" sLawDue f21)
  (d22 : DfAt K "_law_same" "_law_same" sLawSame f22)
  (a23 : PySem.W.nsIn K mainGlobals "law" = some (some (.ref f23))) (l23 : K.lookup f23 = some ⟨oc23, od23, .func (PySem.W.fnOf "law" "law" (defArgs sLaw) (defBody sLaw) (defScope sLaw) .none kV23 dc23 pm23 an23 cd23 ct23), sl23⟩) (c23 : PySem.W.codeIn K cd23 "law" = true) (k23 : PySem.W.keepIn K (.ref f23) = true)
  (a24 : PySem.W.findIn K (.ref C_Mender) "__init__" = some (some (.ref f24))) (i24 : PySem.W.isFn K (.ref f24) = true) (l24 : K.lookup f24 = some ⟨oc24, od24, .func (PySem.W.fnOf "__init__" "Mender.__init__" (defArgs sMenderInit) (defBody sMenderInit) (defScope sMenderInit) .none kV24 dc24 pm24 an24 cd24 ct24), sl24⟩) (c24 : PySem.W.codeIn K cd24 "Mender.__init__" = true) (k24 : PySem.W.keepIn K (.ref f24) = true)
  (a25 : PySem.W.findIn K (.ref C_Mender) "lose" = some (some (.ref f25))) (i25 : PySem.W.isFn K (.ref f25) = true) (l25 : K.lookup f25 = some ⟨oc25, od25, .func (PySem.W.fnOf "lose" "Mender.lose" (defArgs sMenderLose) (defBody sMenderLose) (defScope sMenderLose) .none kV25 dc25 pm25 an25 cd25 ct25), sl25⟩) (c25 : PySem.W.codeIn K cd25 "Mender.lose" = true) (k25 : PySem.W.keepIn K (.ref f25) = true)
  (a26 : PySem.W.findIn K (.ref C_Mender) "put" = some (some (.ref f26))) (i26 : PySem.W.isFn K (.ref f26) = true) (l26 : K.lookup f26 = some ⟨oc26, od26, .func (PySem.W.fnOf "put" "Mender.put" (defArgs sMenderPut) (defBody sMenderPut) (defScope sMenderPut) .none kV26 dc26 pm26 an26 cd26 ct26), sl26⟩) (c26 : PySem.W.codeIn K cd26 "Mender.put" = true) (k26 : PySem.W.keepIn K (.ref f26) = true)
  (a27 : PySem.W.findIn K (.ref C_Mender) "word" = some (some (.ref f27))) (i27 : PySem.W.isFn K (.ref f27) = true) (l27 : K.lookup f27 = some ⟨oc27, od27, .func (PySem.W.fnOf "word" "Mender.word" (defArgs sMenderWord) (defBody sMenderWord) (defScope sMenderWord) .none kV27 dc27 pm27 an27 cd27 ct27), sl27⟩) (c27 : PySem.W.codeIn K cd27 "Mender.word" = true) (k27 : PySem.W.keepIn K (.ref f27) = true)
  (a28 : PySem.W.findIn K (.ref C_Mender) "lost" = some (some (.ref f28))) (i28 : PySem.W.isFn K (.ref f28) = true) (l28 : K.lookup f28 = some ⟨oc28, od28, .func (PySem.W.fnOf "lost" "Mender.lost" (defArgs sMenderLost) (defBody sMenderLost) (defScope sMenderLost) .none kV28 dc28 pm28 an28 cd28 ct28), sl28⟩) (c28 : PySem.W.codeIn K cd28 "Mender.lost" = true) (k28 : PySem.W.keepIn K (.ref f28) = true)
  (z_ValueError : PySem.W.nsIn K mainGlobals "ValueError" = some none)
  (z_abs : PySem.W.nsIn K mainGlobals "abs" = some none)
  (z_all : PySem.W.nsIn K mainGlobals "all" = some none)
  (z_bool : PySem.W.nsIn K mainGlobals "bool" = some none)
  (z_enumerate : PySem.W.nsIn K mainGlobals "enumerate" = some none)
  (z_int : PySem.W.nsIn K mainGlobals "int" = some none)
  (z_isinstance : PySem.W.nsIn K mainGlobals "isinstance" = some none)
  (z_len : PySem.W.nsIn K mainGlobals "len" = some none)
  (z_list : PySem.W.nsIn K mainGlobals "list" = some none)
  (z_min : PySem.W.nsIn K mainGlobals "min" = some none)
  (z_range : PySem.W.nsIn K mainGlobals "range" = some none)
  (z_set : PySem.W.nsIn K mainGlobals "set" = some none)
  (z_sorted : PySem.W.nsIn K mainGlobals "sorted" = some none)
  (z_str : PySem.W.nsIn K mainGlobals "str" = some none)
  (z_tuple : PySem.W.nsIn K mainGlobals "tuple" = some none),
  ∃ fd : FuncData, (∀ (s : Shared) (v : Value), BindsTo s fd ⟨[v], []⟩ [("script", v)]) /\ ∀ base : Heap, K.In base -> base.Ns mainGlobals mg -> FnOk l.prog w K mg base CX0 5 fa fd ["script"] (spLaw K)
theorem walk {l : PySem.W.OpenLaw} {q : Program} {loose : List Str} {XP : (Str -> Option Value) -> Heap -> Prop} {YP : World -> Heap -> Prop} {d : DefRec} {K : Params -> PySem.W.Frag} (hn : l.most = some 63) (hdf : d.params.defaults = [])
  (hY : ∀ (w : World) (h : Heap), YP w h -> (K w.params).In h)
  (F : ∀ (w : World) (mg : Str -> Option Value) (fa : Addr) (h : Heap), (K w.params).In h -> h.Ns mainGlobals mg -> mg d.name = some (.ref fa) ->
   ∃ fd : FuncData, (∀ (s : Shared) (u : Value), BindsTo s fd ⟨[u], []⟩ [("script", u)]) /\ ∀ base : Heap, (K w.params).In base -> base.Ns mainGlobals mg -> FnOk l.prog w (K w.params) mg base CX0 5 fa fd ["script"] (spLaw (K w.params))) :
  PySem.W.WalkO q loose XP YP l.row.toRowW d [] (fun f vs => PySem.call f vs) :=
 L2.walk_of (n := 63) (k := 5) (x := "script") (CX := fun _ => CX0) (sp := fun w => spLaw (K w.params)) hn (by decide) hdf ⟨rfl, by decide, by decide⟩ hY F (fun _ _ a ns hl _ hS => ⟨a, ns, rfl, hS, hl, fun _ => rfl⟩) fun _ _ _ _ _ z => z
local macro_rules | `(tactic| walk_at "d0") => `(tactic| first | omega | assumption | decide | (unfold Sm at *; omega) | (unfold CMul; omega) | (unfold CPow; decide) | (unfold CPow; omega))
local macro_rules | `(tactic| walk_at "ds") => `(tactic| ((try dsimp only); first | walk_at "d0" | (refine And.intro ?_ ?_ <;> walk_at "d0") | (refine Or.inl ?_; walk_at "d0") | (refine Or.inr (And.intro ?_ ?_) <;> walk_at "d0")))
local macro_rules | `(tactic| walk_at "s1") => `(tactic| with_reducible first
 | refine R.seq ?_ | refine R.asg ?_ | refine R.setC ?_ | refine R.ifS ?_ | refine R.ret ?_ | refine R.next ?_ | refine R.c ?_ | refine R.op ?_ | refine R.test ?_ | refine R.bl ?_ | refine R.tru ?_
 | refine R.and ?_ | refine R.cb ?_ | refine R.call ?_ | refine R.nil ?_ | refine R.cons ?_
 | refine R.lst ?_ | refine R.sl ?_ | refine R.noPart ?_ | refine R.part ?_ | refine R.tyInt ?_ | refine R.gname ?_ | refine R.gsub ?_ | refine R.gcons ?_ | refine R.gnil ?_ | refine R.noTest ?_
 | refine R.rI0 ?_ | refine R.eqI ?_ | refine R.neI ?_ | refine R.eqNI ?_ | refine R.eqIN ?_ | refine R.isI ?_ | refine R.notI ?_ | refine R.notN ?_ | refine R.bits ?_
 | refine iteT ?_ | refine iteF ?_ | refine R.nilE ?_ | refine R.isiII ?_ | refine R.isiIB ?_ | refine R.rng1 ?_ | refine R.rng2 ?_ | refine R.iL ?_ | refine R.for_ ?_ | refine R.comp ?_)
local macro_rules | `(tactic| walk_at "st") => `(tactic| repeat (first
 | walk_at "s1"
 | ((with_reducible refine' R.var ?h0 ?_); (case h0 => rfl))
 | ((with_reducible refine' R.rI ?h1 ?_); (case h1 => walk_at "ds"))
 | ((with_reducible refine' R.ixS (o := .lst []) ?h1 ?_); (case h1 => rfl))
 | ((with_reducible refine' R.ixM ?h0 ?h1 ?_); (case h0 => assumption); (case h1 => rfl))
 | ((with_reducible refine' R.ixTM ?h0 ?h1 ?_); (case h0 => assumption); (case h1 => rfl))
 | ((with_reducible refine' R.setS ?h1 ?_); (case h1 => rfl))
 | ((with_reducible refine' R.setM ?h0 ?h1 ?_); (case h0 => assumption); (case h1 => rfl))
 | ((with_reducible refine' R.lenM ?h0 ?_); (case h0 => assumption))
 | ((with_reducible refine' R.lenL ?h0 ?_); (case h0 => assumption))
 | ((with_reducible refine' R.rng1I ?h0 ?h1 ?_); (case h0 => walk_at "ds"); (case h1 => walk_at "ds"))
 | ((with_reducible refine' R.rng2I ?h0 ?_); (case h0 => walk_at "ds"))
 | ((with_reducible refine' R.iL1 ?h0 ?_); (case h0 => assumption))
 | ((with_reducible refine' R.iteP ?h0 ?_); (case h0 => first | exact R.dT (by omega) | exact R.dTn (by omega) | decide))
 | ((with_reducible refine' R.iteN ?h0 ?_); (case h0 => first | exact R.dF (by omega) | exact R.dFn (by omega) | decide))
 | (with_reducible refine R.abs1 ?_) | (with_reducible refine R.partI ?_)))
local macro_rules | `(tactic| walk_at "fv") => `(tactic| first | exact Or.inl rfl | exact Or.inr (Or.inl rfl) | exact Or.inr (Or.inr (Or.inl rfl)) | exact Or.inr (Or.inr (Or.inr (Or.inl rfl))) | exact Or.inr (Or.inr (Or.inr (Or.inr rfl))))
local macro_rules | `(tactic| walk_at "d1") => `(tactic| with_reducible first
 | refine Sv.seq ?_ | refine Sv.asgNil ?_ | refine Sv.asg ?_ | refine Sv.setCF ?_ | refine Sv.ifS ?_ | refine Sv.ret ?_ | refine Sv.next ?_ | refine Sv.retN ?_
 | refine Ev.int ?_ | refine Ev.bl ?_ | refine Ev.non ?_ | refine Ev.rI0 ?_ | refine Ev.rB0 ?_ | refine Ev.rI ?_ | refine Ev.rU ?_ | refine Ev.eq ?_ | refine Ev.ne ?_ | refine Ev.is ?_ | refine Ev.isNot ?_ | refine Ev.eqD ?_ | refine Ev.str ?_ | refine Ev.primeFrom ?_
 | refine Ev.andV ?_ | refine Ev.orV ?_ | refine Ev.notV ?_ | refine Ev.ifE ?_ | refine Tv.test ?_ | refine Tv.and ?_ | refine Tv.or ?_ | refine Tv.not ?_ | refine Tv.noTest ?_ | refine Tv.truB ?_
 | refine Ev.tupF ?_ | refine Ev.lst ?_ | refine Av.nil ?_ | refine Av.cons ?_ | refine Av.cints ?_ | refine Ev.min2 ?_ | refine Ev.max2 ?_ | refine Ev.intB ?_
 | refine R.di ?_ | refine R.db ?_ | refine R.dl ?_ | refine R.dt ?_ | refine R.dll ?_ | refine R.dlt ?_ | refine R.eqii ?_ | refine R.eqni ?_ | refine R.eqin ?_ | refine R.eqnn ?_ | refine R.eqbb ?_
 | refine Gv.nameI ?_ | refine Gv.nameB ?_ | refine Gv.nameN ?_ | refine Gv.nameT ?_ | refine Gv.nameF ?_ | refine Gv.snil ?_ | refine Gv.scons ?_ | refine iteT ?_ | refine iteF ?_)
local macro_rules | `(tactic| walk_at "dt") => `(tactic| repeat (first
 | ((with_reducible refine' Sv.retOwn ?h0 ?_); (case h0 => rfl))
 | ((with_reducible refine' Sv.setOwn ?h0 ?_); (case h0 => rfl))
 | walk_at "d1"
 | ((with_reducible refine' Ev.var ?h0 ?_); (case h0 => rfl))
 | ((with_reducible refine' Ev.draw ?h0 ?_); (case h0 => rfl))
 | ((with_reducible refine' Ev.ixOwn ?h0 ?_); (case h0 => rfl))
 | ((with_reducible refine' Ev.lenOwn ?h0 ?_); (case h0 => rfl))
 | ((with_reducible refine' Ev.lenRaw ?h0 ?h1 ?_); (case h0 => rfl); (case h1 => assumption))
 | ((with_reducible refine' Ev.listOwn ?h0 ?_); (case h0 => rfl))
 | ((with_reducible refine' Ev.slOwn ?h0 ?_); (case h0 => rfl))
 | ((with_reducible refine' Sv.append ?h0 ?_); (case h0 => rfl))
 | ((with_reducible refine' Sv.setOwn ?h0 ?_); (case h0 => rfl))
 | ((with_reducible refine' Sv.retOwn ?h0 ?_); (case h0 => rfl))
 | ((with_reducible refine' Gv.tup ?h0 ?_); (case h0 => rfl))
 | ((with_reducible refine' R.at_ ?h0 ?_); (case h0 => first | rfl | assumption))
 | (with_reducible refine Ev.ixL ?_) | (with_reducible refine Ev.ixT ?_) | (with_reducible refine Ev.listOf ?_) | (with_reducible refine Ev.cat ?_) | (with_reducible refine Ev.lenS ?_)
 | ((with_reducible refine' Ev.isi ?h0 ?_); (case h0 => walk_at "fv"))
 | ((with_reducible refine' Ev.isi2 ?h0 ?h1 ?_); (case h0 => walk_at "fv"); (case h1 => walk_at "fv"))
 | (with_reducible refine Ev.all ?_) | (with_reducible refine Ev.ixS ?_)
 | ((with_reducible refine' R.lnil ?_))
 | ((with_reducible refine' R.iteP ?h0 ?_); (case h0 => first | exact R.dT (by omega) | exact R.dTn (by omega) | rfl))
 | ((with_reducible refine' R.iteN ?h0 ?_); (case h0 => first | exact R.dF (by omega) | exact R.dFn (by omega) | exact zq11x))
 | ((with_reducible refine' R.cnd ?h0 ?_); (case h0 => first | walk_at "ds" | exact zq159x rfl))))
local macro_rules | `(tactic| walk_at "wk") => `(tactic| repeat (first | exact Wk.nil | apply Wk.no | apply Wk.eq))
section
variable {P : Program} {w : World} {K : PySem.W.Frag} {mg : Str -> Option Value} {base : Heap} {f : Addr} {fd : FuncData}
def F_ask_place (C : Addr) : DXF := fun ds Φ Ξ => ∃ (n a : Int), ds = [.int n, .int a] /\ if 0 <= a /\ a < n then Φ true .none else Ξ C
theorem mono_ask_place {C : Addr} : MonoDX (F_ask_place C) := by
 intro ds Φ Ψ X Y h z1 z2
 obtain ⟨n, a, e, q⟩ := h
 refine ⟨n, a, e, ?_⟩
 split at q
 ·rename_i c; rw [if_pos c]; exact z1 _ _ q
 ·rename_i c; rw [if_neg c]; exact z2 _ q
theorem scAskPlace : FnScope ["n", "place"] ["n", "place"] (defScope sAskPlace) := ⟨rfl, rfl, rfl, by decide +kernel, rfl, by decide +kernel, by decide +kernel⟩
theorem ok_ask_place (F : Fun K "ask_place" "ask_place" sAskPlace f fd)  {C_NetError : Addr} {C_NoPlace : Addr} (x_NetError : XI K C_NetError []) (gx_NetError : mg "NetError" = some (.ref C_NetError)) (x_NoPlace : XI K C_NoPlace [.ref C_NetError]) (gx_NoPlace : mg "NoPlace" = some (.ref C_NoPlace))    :
  FnOk P w K mg base (CX1 P w) 1 f fd ["n", "place"] (spDX 2 (F_ask_place C_NoPlace)) := by
 refine F.okX scAskPlace (fun vs H Q E h => h.1) (fun cdv A outer s H vs Q E hr h => ?_)
 obtain ⟨nb, ds, Φ, Ξ, hlive, hds, hΦ, hΞ, hF⟩ := spDX_out h
 obtain ⟨n, a, rfl, q⟩ := hF
 refine ⟨_, (@pss_one _ _ _ (@ps_if _ _ _ _ _ _ _ _ (PW.pt (pw_or (@pt_cmpR _ _ _ _ _ _ _ _ op_lt (pv 1) pe_int (nomark _)) (pw_or1 (@pt_cmpR _ _ _ _ _ _ _ _ op_ge (pv 1) (pv 0) (nomark _))))) (@pss_one _ _ _ (ps_raise xok_def rfl x_NoPlace.toXC rfl rfl gx_NoPlace (@pa_cons _ _ _ _ _ pe_str pa_nil rfl))) pss_nil)), ?_⟩
 refine Sv.enterDX hlive hds hΦ hΞ (ρ := [.d false _, .d false _]) rfl fun hEX => ?_
 clear hΦ hds hΞ
 by_cases c1 : a < 0
 ·rw [if_neg (by omega)] at q
  walk_at "dt"
  refine Sv.raise hEX ?_
  walk_at "dt"
  exact q
 by_cases c2 : n <= a
 ·rw [if_neg (by omega)] at q
  walk_at "dt"
  refine Sv.raise hEX ?_
  walk_at "dt"
  exact q
 rw [if_pos (by omega)] at q
 walk_at "dt"
 exact q
def F_is_letter : DF := fun ds Φ => ∃ (p a : Int), ds = [.int p, .int a] /\ Φ true (.bool (decide (0 <= a /\ a < p)))
theorem mono_is_letter : MonoF F_is_letter := by
 intro ds Φ Ψ hm z
 obtain ⟨p, a, e, q⟩ := hm
 exact ⟨p, a, e, z _ _ q⟩
theorem scIsLetter : FnScope ["p", "letter"] ["p", "letter"] (defScope sIsLetter) := ⟨rfl, rfl, rfl, by decide +kernel, rfl, by decide +kernel, by decide +kernel⟩
theorem ok_is_letter (F : Fun K "is_letter" "is_letter" sIsLetter f fd)     :
  FnOk P w K mg base CX0 1 f fd ["p", "letter"] (spD 2 F_is_letter) := by
 refine F.ok scIsLetter (fun vs H Q E h => h.1) (fun cdv A outer s H vs Q E hr h => ?_)
 obtain ⟨nb, ds, Φ, hlive, hds, hΦ, hF⟩ := spD_out h
 obtain ⟨p, a, rfl, q⟩ := hF
 refine ⟨_, (@pss_one _ _ _ (@ps_ret _ _ _ _ (@pe_and _ _ _ _ _ _ _ (@pe_cmpR _ _ _ _ _ _ _ _ op_le pe_int (pv 1) (nomark _)) (@pe_one _ _ _ _ _ (@pe_cmpR _ _ _ _ _ _ _ _ op_lt (pv 1) (pv 0) (nomark _)))))), ?_⟩
 refine Sv.enterD hlive hds hΦ (ρ := [.d false _, .d false _]) rfl ?_
 clear hΦ hds
 by_cases c1 : 0 <= a
 ·rw [show decide (0 <= a /\ a < p) = decide (a < p) by simp [c1]] at q
  walk_at "dt"
  exact q
 ·rw [decide_eq_false (by omega)] at q
  walk_at "dt"
  exact q
def F_ask_letter (C : Addr) : DXF := fun ds Φ Ξ => ∃ (n a : Int), ds = [.int n, .int a] /\ if 0 <= a /\ a < n then Φ true .none else Ξ C
theorem mono_ask_letter {C : Addr} : MonoDX (F_ask_letter C) := by
 intro ds Φ Ψ X Y h z1 z2
 obtain ⟨n, a, e, q⟩ := h
 refine ⟨n, a, e, ?_⟩
 split at q
 ·rename_i c; rw [if_pos c]; exact z1 _ _ q
 ·rename_i c; rw [if_neg c]; exact z2 _ q
theorem scAskLetter : FnScope ["p", "letter"] ["p", "letter"] (defScope sAskLetter) := ⟨rfl, rfl, rfl, by decide +kernel, rfl, by decide +kernel, by decide +kernel⟩
theorem ok_ask_letter (F : Fun K "ask_letter" "ask_letter" sAskLetter f fd)  {C_NetError : Addr} {C_NoLetter : Addr} (x_NetError : XI K C_NetError []) (gx_NetError : mg "NetError" = some (.ref C_NetError)) (x_NoLetter : XI K C_NoLetter [.ref C_NetError]) (gx_NoLetter : mg "NoLetter" = some (.ref C_NoLetter)) (c_is_letter : Callee P w K mg base "is_letter" 1 ["p", "letter"] (spD 2 F_is_letter))   :
  FnOk P w K mg base (CX1 P w) 2 f fd ["p", "letter"] (spDX 2 (F_ask_letter C_NoLetter)) := by
 refine F.okX scAskLetter (fun vs H Q E h => h.1) (fun cdv A outer s H vs Q E hr h => ?_)
 obtain ⟨nb, ds, Φ, Ξ, hlive, hds, hΦ, hΞ, hF⟩ := spDX_out h
 obtain ⟨n, a, rfl, q⟩ := hF
 refine ⟨_, (@pss_one _ _ _ (@ps_if _ _ _ _ _ _ _ _ (@pt_not _ _ _ _ (@pt_truthK _ (K) _ _ rfl (@pe_callC _ _ _ _ _ _ _ _ _ _ c_is_letter (hr.mono (by decide)) (@pa_cons _ _ _ _ _ (pv 0) (@pa_cons _ _ _ _ _ (pv 1) pa_nil rfl) rfl) (by rfl) (by decide) (by rfl) (by rfl)) (fun _ => rfl))) (@pss_one _ _ _ (ps_raise xok_def rfl x_NoLetter.toXC rfl rfl gx_NoLetter (@pa_cons _ _ _ _ _ pe_str pa_nil rfl))) pss_nil)), ?_⟩
 refine Sv.enterDX hlive hds hΦ hΞ (ρ := [.d false _, .d false _]) rfl fun hEX => ?_
 clear hΦ hds hΞ
 refine Sv.ifS ?_
 walk_at "dt"
 refine Ev.callD mono_is_letter ?_
 walk_at "dt"
 refine ⟨rfl, n, a, rfl, ?_⟩
 by_cases c : 0 <= a /\ a < n
 ·rw [decide_eq_true c]
  rw [if_pos c] at q
  walk_at "dt"
  exact q
 ·rw [decide_eq_false c]
  rw [if_neg c] at q
  walk_at "dt"
  refine Sv.raise hEX ?_
  walk_at "dt"
  exact q
def F_lost_of : DF := fun ds Φ => ∃ wd : Wo, ds = [woD wd] /\ wd.length <= 10000 /\ Φ true (.list ((lostOf wd).map .int))
theorem mono_lost_of : MonoF F_lost_of := by
 intro ds Φ Ψ hm z
 obtain ⟨wd, e, h, q⟩ := hm
 exact ⟨wd, e, h, z _ _ q⟩
theorem scLostOf : FnScope ["word"] ["word"] (defScope sLostOf) := ⟨rfl, rfl, rfl, by decide +kernel, rfl, by decide +kernel, by decide +kernel⟩
theorem ok_lost_of (F : Fun K "lost_of" "lost_of" sLostOf f fd)   (m_enumerate : mg "enumerate" = none)  :
    FnOk P w K mg base CX0 1 f fd ["word"] (spD 1 F_lost_of) := by
  refine F.ok scLostOf (fun vs H Q E h => h.1) (fun cdv A outer s H vs Q E hr h => ?_)
  obtain ⟨nb, ds, Φ, hlive, hds, hΦ, hF⟩ := spD_out h
  obtain ⟨wd, rfl, hl, q⟩ := hF
  refine ⟨_, (@pss_one _ _ _ (@ps_ret _ _ _ _ (pe_lcomp (CompOk.of (show compOkB (defScope sLostOf) ["word"] _ ["place", "letter"] [none, none] = true by decide +kernel)) (@pi_enum _ (K) _ _ _ _ _ _ _ rfl rfl m_enumerate (pv 0) (by rfl)) (fun _ _ _ _ => ⟨(@pg_tupM _ (K) _ _ _ (2) _ rfl rfl (@pgs_cons _ _ _ _ _ (pg_name (i := 0) (by show List.Nodup (["place", "letter"] : List Str); decide +kernel) rfl (Or.inl rfl)) (@pgs_cons _ _ _ _ _ (pg_name (i := 1) (by show List.Nodup (["place", "letter"] : List Str); decide +kernel) rfl (Or.inl rfl)) pgs_nil (by rfl)) (by rfl)) (by rfl) (by rfl)), (pts_one (@pt_cmpR _ _ _ _ _ _ _ _ op_isM (pv 1) pe_non (nomark _))), (pv 0)⟩)))), ?_⟩
  refine Sv.enterD hlive hds hΦ (ρ := [.d false _]) rfl ?_
  clear hΦ hds
  have hlm : (wd.map optD).length = wd.length := zq0x ..
  walk_at "dt"
  refine EvN.ev (EvN.compE (by decide) rfl ?_)
  walk_at "dt"
  refine fun v => ⟨true, fun i ds => ds = (((List.range i).filter fun j => wd[j]? == some none).map fun (j : Nat) => (j : Int)).map PyData.int, rfl, ?_, ?_⟩
  · rintro i d ds ⟨e, he, rfl⟩ hl' rfl
    obtain ⟨o, ho, rfl⟩ := map_at he
    walk_at "dt"
    refine ⟨by walk_at "wk", ?_⟩
    walk_at "dt"
    rw [isN_opt]
    cases o with
    | none =>
      walk_at "dt"
      show _ = List.map _ (List.map _ (List.filter _ (List.range (i + 1))))
      rw [zq90x, zq91x, zq160x (by rw [ho]; rfl)]
      simp
    | some x =>
      walk_at "dt"
      show _ = List.map _ (List.map _ (List.filter _ (List.range (i + 1))))
      rw [zq90x, zq91x, zq161x (by rw [ho]; simp)]
      simp
  · rintro ds hl' rfl
    rw [hlm]
    exact q
def F_copied : DF := fun ds Φ => ∃ (p n : Int) (cs : List Prs), ds = [netD p n cs] /\ cs.length <= 10000 /\ (∀ prs ∈ cs, prs.length <= 10000) /\ ∀ f, Φ f (netD p n cs)
theorem mono_copied : MonoF F_copied := by
 intro ds Φ Ψ hm z
 obtain ⟨p, n, cs, e, h1, h2, q⟩ := hm
 exact ⟨p, n, cs, e, h1, h2, fun f => z _ _ (q f)⟩
theorem scCopied : FnScope ["net"] ["net"] (defScope sCopied) := ⟨rfl, rfl, rfl, by decide +kernel, rfl, by decide +kernel, by decide +kernel⟩
theorem ok_copied (F : Fun K "copied" "copied" sCopied f fd)   (m_list : mg "list" = none)  :
  FnOk P w K mg base CX0 1 f fd ["net"] (spD 1 F_copied) := by
 refine F.ok scCopied (fun vs H Q E h => h.1) (fun cdv A outer s H vs Q E hr h => ?_)
 obtain ⟨nb, ds, Φ, hlive, hds, hΦ, hF⟩ := spD_out h
 obtain ⟨p, n, cs, rfl, hl, hl2, q⟩ := hF
 refine ⟨_, (@pss_one _ _ _ (@ps_ret _ _ _ _ (@pe_tup _ _ _ _ _ (@pa_cons _ _ _ _ _ (@pe_ix _ _ _ _ _ _ (rIxT K) ix_tup (pv 0) pe_int (fun _ _ => rfl)) (@pa_cons _ _ _ _ _ (@pe_ix _ _ _ _ _ _ (rIxT K) ix_tup (pv 0) pe_int (fun _ _ => rfl)) (@pa_cons _ _ _ _ _ (pe_lcomp (CompOk.of (show compOkB (defScope sCopied) ["net"] _ ["pairs"] [none] = true by decide +kernel)) (pi_listK (K := K) rfl (@pe_ix _ _ _ _ _ _ (rIxT K) ix_tup (pv 0) pe_int (fun _ _ => rfl))) (fun _ _ _ _ => ⟨(pg_name (i := 0) (by show List.Nodup (["pairs"] : List Str); decide +kernel) rfl (Or.inl rfl)), pts_nil, (@pe_callTy _ _ _ _ _ _ _ _ (rListOf K) call_listM rfl m_list zq45x (@pa_cons _ _ _ _ _ (pv 0) pa_nil rfl) (by decide) (by decide) (by rfl) (by rfl))⟩)) pa_nil rfl) rfl) rfl)))), ?_⟩
 refine Sv.enterD hlive hds hΦ (ρ := [.d false _]) rfl ?_
 clear hΦ hds
 walk_at "dt"
 refine EvN.ev (EvN.compL (by decide) rfl ?_)
 walk_at "dt"
 refine ⟨by rw [zq0x]; exact hl, fun v => ⟨false, fun i ds => ds = (cs.take i).map prsD, rfl, ?_, ?_⟩⟩
 ·rintro i d ds hd hl' rfl
  obtain ⟨prs, hprs, rfl⟩ := map_at hd
  walk_at "dt"
  refine ⟨by walk_at "wk", ?_⟩
  walk_at "dt"
  refine ⟨fun z => (by cases z), ?_⟩
  show _ = List.map prsD (List.take (i + 1) cs)
  rw [take_snoc hprs, zq36x]
  rfl
 ·rintro ds hl' rfl
  rw [zq0x, List.take_length]
  walk_at "dt"
  exact q _
theorem scLawBag : FnScope ["script", "stir", "cell"] ["script"] (defScope sLawBag) := ⟨rfl, rfl, rfl, by decide +kernel, rfl, by decide +kernel, by decide +kernel⟩
theorem ok__law_bag (F : Fun K "_law_bag" "_law_bag" sLawBag f fd)   (m_abs : mg "abs" = none)  :
  FnOk P w K mg base CX0 1 f fd ["script"] (spBag K) := by
 refine F.ok scLawBag (fun vs H Q E h => ?_) (fun cdv A outer s H vs Q E hr h => ?_)
 ·obtain ⟨a, ns, rfl, hS, hl, q⟩ := h
  rfl
 obtain ⟨a, ns, rfl, hS, hl, q⟩ := h
 refine ⟨_, (@pss_cons _ _ _ _ _ (@ps_set _ _ (1) _ _ _ _ scLawBag.nd rfl (Or.inl rfl) pe_int (by rfl) (by first | exact .inl rfl | exact .inr rfl | assumption)) (@pss_cons _ _ _ _ _ (@ps_for _ _ _ _ _ _ _ _ zq92x rfl (pi_listK (K := K) rfl (@pe_slice _ _ _ _ _ _ _ _ _ _ sl_list (pv 0) po_none (@po_some _ _ _ pe_int))) (pg_name (i := 2) scLawBag.nd rfl (Or.inl rfl)) (@pss_one _ _ _ (@ps_set _ _ (1) _ _ _ _ scLawBag.nd rfl (Or.inl rfl) (@pe_op _ _ _ _ _ _ _ _ op_mod (@pe_op _ _ _ _ _ _ _ _ op_add (@pe_op _ _ _ _ _ _ _ _ op_add (@pe_op _ _ _ _ _ _ _ _ op_mulA (pv 1) pe_int) (@pe_op _ _ _ _ _ _ _ _ op_mod (pv 2) pe_int)) pe_int) pe_int) (by rfl) (by first | exact .inl rfl | exact .inr rfl | assumption))) (by intro _; rfl)) (@pss_one _ _ _ (@ps_ret _ _ _ _ (@pe_lst _ _ _ _ (@pa_cons _ _ _ _ _ (pe_lcomp (CompOk.of (show compOkB (defScope sLawBag) ["script", "stir", "cell"] _ ["cell"] [none] = true by decide +kernel)) (pi_listK (K := K) rfl (@pe_slice _ _ _ _ _ _ _ _ _ _ sl_list (pv 0) po_none (@po_some _ _ _ pe_int))) (fun _ _ _ _ => ⟨(pg_name (i := 0) (by show List.Nodup (["cell"] : List Str); decide +kernel) rfl (Or.inl rfl)), pts_nil, (@pe_op _ _ _ _ _ _ _ _ op_mod (@pe_callB _ _ _ _ _ _ _ _ _ call_abs rfl m_abs PyProof.Rows.boot_abs (@pa_cons _ _ _ _ _ (pv 0) pa_nil rfl) (by decide) (by decide) (by rfl) (by rfl)) (@pe_op _ _ _ _ _ _ _ _ op_pow pe_int pe_int))⟩)) (@pa_cons _ _ _ _ _ pe_int (@pa_cons _ _ _ _ _ pe_int (@pa_cons _ _ _ _ _ (pv 1) (@pa_cons _ _ _ _ _ pe_int pa_nil rfl) rfl) rfl) rfl) rfl)))))), ?_⟩
 have hcut : cutV (ns.map V.int) none (some 63) = ns.map V.int := by
  have e : (ns.map V.int).length = ns.length := zq0x _
  show List.take (min 63 (ns.map V.int).length - 0) (List.drop 0 (ns.map V.int)) = _
  rw [List.drop_zero]
  exact List.take_of_length_le (by omega)
 walk_at "st"
 refine R.slL hS fun c hc => ?_
 rw [hcut]
 refine R.iL1 (SqL.of upd_same) ?_
 refine for_list (xs := ns.map V.int) (fun i σ H1 => ∃ (st : Int) (x : Option V), σ = [some (.ref a), some (.int st), x] /\ 0 <= st /\ st < 2147483647 /\ H1 = upd H c (.lst (ns.map V.int))) ⟨19, none, rfl, by omega, by omega, rfl⟩ ?_ ?_ ?_
 ·rintro i σ H1 hi ⟨st, x, rfl, h1, h2, rfl⟩
  exact SqL.of upd_same
 ·rintro i x σ H1 hx ⟨st, y, rfl, h1, h2, rfl⟩
  rw [zq16x] at hx
  obtain ⟨n, _, rfl⟩ := zq74x.mp hx
  walk_at "st"
  exact ⟨_, _, rfl, zq67x _ (by decide), zq68x _ (by decide), rfl⟩
 ·rintro σ H1 ⟨st, x, rfl, h1, h2, rfl⟩
  walk_at "st"
  refine R.slL ((same_new hc).seq hS) fun c2 hc2 => ?_
  rw [hcut]
  refine R.iL1 (SqL.of upd_same) ?_
  intro acc hacc
  refine R.comp_list (xs := ns.map V.int) (fun i σ H2 => ∃ (x : Option V), σ = [x] /\ H2 = upd (upd (upd H c (.lst (ns.map V.int))) c2 (.lst (ns.map V.int))) acc (.lst (((ns.take i).map fun n => (if n < 0 then -n else n) % 10 ^ 60).map V.int))) ⟨none, rfl, rfl⟩ ?_ ?_ ?_
  ·rintro i σ H1 hi ⟨x, rfl, rfl⟩
   refine SqL.of ?_
   rw [upd_ne (ne_of_none upd_same hacc)]
   exact upd_same
  ·rintro i x σ H1 hx ⟨y, rfl, rfl⟩
   rw [zq16x] at hx
   obtain ⟨n, hn, rfl⟩ := zq74x.mp hx
   walk_at "st"
   refine ⟨_, upd_same, ?_, _, rfl, ?_⟩
   ·rw [zq0x, zq0x, zq85x]
    exact small1000 (by omega)
   ·rw [upd_upd, List.take_add_one, hn, zq36x, zq36x]
    rfl
  ·rintro σ H1 ⟨x, rfl, rfl⟩
   walk_at "st"
   refine (show mkL _ _ _ from ⟨by show 5 <= sizeLine; decide, fun p hp => ?_⟩)
   have hn1 := ne_of_none (upd_same (H := upd (upd H c (.lst (ns.map V.int))) c2 (.lst (ns.map V.int))) (a := acc)) hp
   have s1 : Same H (upd (upd (upd H c (.lst (ns.map V.int))) c2 (.lst (ns.map V.int))) acc (.lst (((ns.take (ns.map V.int).length).map fun n => (if n < 0 then -n else n) % 10 ^ 60).map V.int))) := (same_new hc).trans ((same_new hc2).trans (same_new hacc))
   refine q p acc _ (s1.trans (same_new hp)) (s1.free hp) ⟨_, 0, 0, st, 0, upd_same, by rw [upd_ne hn1]; exact upd_same, ?_, ?_, by omega, by omega, by omega, h1, h2⟩
   ·intro y hy
    obtain ⟨z, _, rfl⟩ := zq41x.mp hy
    exact ⟨zq67x _ (by decide), zq68x _ (by decide)⟩
   ·rw [zq0x, zq85x]
    omega
theorem scLawDraw : FnScope ["bag", "many", "found"] ["bag", "many"] (defScope sLawDraw) := ⟨rfl, rfl, rfl, by decide +kernel, rfl, by decide +kernel, by decide +kernel⟩
theorem ok__law_draw (F : Fun K "_law_draw" "_law_draw" sLawDraw f fd)   (m_len : mg "len" = none)  :
  FnOk P w K mg base CX0 1 f fd ["bag", "many"] spDraw := by
 refine F.ok scLawDraw (fun vs H Q E h => ?_) (fun cdv A outer s H vs Q E hr h => ?_)
 ·obtain ⟨b, l, many, rfl, hB, hm, hs, q⟩ := h
  rfl
 obtain ⟨b, l, many, rfl, hB, hm, hs, q⟩ := h
 refine ⟨_, (@pss_cons _ _ _ _ _ (@ps_if _ _ _ _ _ _ _ _ (PW.pt (pw_and (@pt_cmpR _ _ _ _ _ _ _ _ op_eq (@pe_ix _ _ _ _ _ _ _ ix_list (pv 0) pe_int (fun _ _ => rfl)) pe_int (nomark _)) (pw_and1 (@pt_cmpR _ _ _ _ _ _ _ _ op_lt (@pe_ix _ _ _ _ _ _ _ ix_list (pv 0) pe_int (fun _ _ => rfl)) (@pe_callB _ _ _ _ _ _ _ _ _ call_len_seq rfl m_len zq59x (@pa_cons _ _ _ _ _ (@pe_ix _ _ _ _ _ _ _ ix_list (pv 0) pe_int (fun _ _ => rfl)) pa_nil rfl) (by decide) (by decide) (by rfl) (by rfl)) (nomark _))))) (@pss_cons _ _ _ _ _ (@ps_asg _ _ _ _ _ _ (@pe_ix _ _ _ _ _ _ _ ix_list (@pe_ix _ _ _ _ _ _ _ ix_list (pv 0) pe_int (fun _ _ => rfl)) (@pe_ix _ _ _ _ _ _ _ ix_list (pv 0) pe_int (fun _ _ => rfl)) (fun _ _ => rfl)) (pg_sub (pv 0) pe_int set_list) (by rfl) (by rfl) (by rfl)) (@pss_one _ _ _ (@ps_asg _ _ _ _ _ _ (@pe_op _ _ _ _ _ _ _ _ op_add (@pe_ix _ _ _ _ _ _ _ ix_list (pv 0) pe_int (fun _ _ => rfl)) pe_int) (pg_sub (pv 0) pe_int set_list) (by rfl) (by rfl) (by rfl)))) (@pss_one _ _ _ (@ps_if _ _ _ _ _ _ _ _ (@pt_cmpR _ _ _ _ _ _ _ _ op_eq (@pe_ix _ _ _ _ _ _ _ ix_list (pv 0) pe_int (fun _ _ => rfl)) pe_int (nomark _)) (@pss_cons _ _ _ _ _ (@ps_asg _ _ _ _ _ _ (@pe_op _ _ _ _ _ _ _ _ op_add (@pe_ix _ _ _ _ _ _ _ ix_list (pv 0) pe_int (fun _ _ => rfl)) pe_int) (pg_sub (pv 0) pe_int set_list) (by rfl) (by rfl) (by rfl)) (@pss_cons _ _ _ _ _ (@ps_asg _ _ _ _ _ _ (@pe_op _ _ _ _ _ _ _ _ op_mod (@pe_op _ _ _ _ _ _ _ _ op_add (@pe_op _ _ _ _ _ _ _ _ op_add (@pe_op _ _ _ _ _ _ _ _ op_add (@pe_op _ _ _ _ _ _ _ _ op_pow (@pe_ix _ _ _ _ _ _ _ ix_list (pv 0) pe_int (fun _ _ => rfl)) pe_int) (@pe_op _ _ _ _ _ _ _ _ op_mulA pe_int (@pe_ix _ _ _ _ _ _ _ ix_list (pv 0) pe_int (fun _ _ => rfl)))) (@pe_op _ _ _ _ _ _ _ _ op_mulA pe_int (@pe_ix _ _ _ _ _ _ _ ix_list (pv 0) pe_int (fun _ _ => rfl)))) pe_int) pe_int) (pg_sub (pv 0) pe_int set_list) (by rfl) (by rfl) (by rfl)) (@pss_one _ _ _ (@ps_ret _ _ _ _ (@pe_op _ _ _ _ _ _ _ _ op_mod (@pe_op _ _ _ _ _ _ _ _ op_fdivS (@pe_ix _ _ _ _ _ _ _ ix_list (pv 0) pe_int (fun _ _ => rfl)) pe_int) (pv 1)))))) pss_nil))) (@pss_cons _ _ _ _ _ (@ps_set _ _ (2) _ _ _ _ scLawDraw.nd rfl (Or.inl rfl) (@pe_op _ _ _ _ _ _ _ _ op_mod (@pe_ix _ _ _ _ _ _ _ ix_list (pv 0) pe_int (fun _ _ => rfl)) (pv 1)) (by rfl) (by first | exact .inl rfl | exact .inr rfl | assumption)) (@pss_cons _ _ _ _ _ (@ps_asg _ _ _ _ _ _ (@pe_op _ _ _ _ _ _ _ _ op_fdivS (@pe_ix _ _ _ _ _ _ _ ix_list (pv 0) pe_int (fun _ _ => rfl)) (pv 1)) (pg_sub (pv 0) pe_int set_list) (by rfl) (by rfl) (by rfl)) (@pss_one _ _ _ (@ps_ret _ _ _ _ (pv 2)))))), ?_⟩
 obtain ⟨ns, i, c, st, n, h1, h2, h3, h4, h5, h6, h7, h8, h9⟩ := id hB
 have hlb := bag_ne h1 h2
 have fin : ∀ (H1 : Hp) (i' c' : Int), H1 b = some (.lst [.ref l, .int i', .int c', .int st, .int n]) -> But (Nb b) H H1 -> 0 <= i' -> 0 <= c' -> c' < 10 ^ 60 ->
   ∀ (H2 : Hp), H2 = upd H1 b (.lst [.ref l, .int i', .int (c' / many), .int st, .int n]) -> Q (.int (c' % many)) H2 := fun H1 i' c' e1 bt g1 g2 g3 H2 e2 => by
  subst e2
  have hd1 : 0 <= c' / many := Int.ediv_nonneg g2 (by omega)
  have hd2 : c' / many <= c' := Int.ediv_le_self _ g2
  exact q _ _ (zq67x _ (by omega)) (zq68x _ hm) (bt.trans (But.set rfl)) (BagAt.put hlb (bt _ _ hlb h2) h3 h4 g1 hd1 (by omega) h8 h9)
 walk_at "st"
 refine ite2 (fun c1 => ?_) (fun c1 => ?_)
 ·have c1 : c = 0 := of_decide_eq_true c1
  walk_at "st"
  refine ite2 (fun c2 => ?_) (fun c2 => ?_)
  ·have c2 : i < (List.map V.int ns).length := of_decide_eq_true c2
   rw [zq0x] at c2
   have hi : i.toNat < ns.length := by omega
   obtain ⟨g1, g2⟩ := h3 _ (zq56x hi)
   walk_at "st"
   refine R.ixM h2 (v := .int ns[i.toNat]) (atI_some h5 (by rw [zq16x, zq21x hi]; rfl)) ?_
   walk_at "st"
   refine fin (upd H b (.lst [.ref l, .int (i + 1), .int ns[i.toNat], .int st, .int n])) (i + 1) ns[i.toNat] upd_same (But.set rfl) (by omega) g1 g2 _ ?_
   rw [upd_upd]
   rfl
  ·walk_at "st"
   exact q _ _ (zq67x _ (by omega)) (zq68x _ hm) (But.set rfl) (BagAt.put hlb h2 h3 h4 h5 h6 h7 (zq67x _ (by decide)) (zq68x _ (by decide)))
 ·have c1 : ¬ c = 0 := of_decide_eq_false (zq109x.mpr c1)
  walk_at "st"
  exact fin H i c h1 (But.refl _ _) h5 h6 h7 _ rfl
theorem eqv_nilP (is : List Int) : PyData.eqv (.list (is.map PyData.int)) (.list []) = decide (is = []) := by
 cases is <;> simp [PyData.eqv, PyData.eqvAll]
theorem shaped_intsP (is : List Int) : SeqAt.shaped (.list (is.map PyData.int)) = true := by
 have h : PyData.depthAll (is.map PyData.int) = 0 /\ PyData.canLayAll0 (is.map PyData.int) = true := by
  induction is with
  | nil => simp [PyData.depthAll, PyData.canLayAll0]
  | cons a r ih => simp [PyData.depthAll, PyData.depth, PyData.canLayAll0, PyData.canLay0, ih.2, ih.1]
 unfold SeqAt.shaped
 simp [PyData.canLay0, PyData.depth, h.2, h.1]
theorem isDs_intsP {nb : Addr -> Prop} {H : Hp} : ∀ is : List Int, IsDs nb H (is.map PyData.int) (is.map V.int)
 | [] => IsDs.nil
 | i :: is => IsDs.cons (.int i) (isDs_intsP is)
theorem noDiv_of {r : Int} (h0 : r <= 10100) (h : ∀ d : Int, 2 <= d -> d < 102 -> ¬ (d * d <= r /\ r % d = 0)) : NoDiv r := fun d d1 d2 e => by
 by_cases hd : d < 102
 ·exact h d d1 hd ⟨d2, e⟩
 ·have : 102 * 102 <= d * d := zq140x (by omega) (by omega) (by omega) (by omega)
  omega
theorem scLawPrimeFrom : FnScope ["number", "found"] ["number"] (defScope sLawPrimeFrom) := ⟨rfl, rfl, rfl, by decide +kernel, rfl, by decide +kernel, by decide +kernel⟩
theorem ok__law_prime_from (F : Fun K "_law_prime_from" "_law_prime_from" sLawPrimeFrom f fd)   (m_range : mg "range" = none)  :
  FnOk P w K mg base CX0 1 f fd ["number"] spPrimeFrom := by
 refine F.ok scLawPrimeFrom (fun vs H Q E h => ?_) (fun cdv A outer s H vs Q E hr h => ?_)
 ·obtain ⟨n, rfl, hn1, hn2, q⟩ := h
  rfl
 obtain ⟨n, rfl, hn1, hn2, q⟩ := h
 refine ⟨_, (@pss_cons _ _ _ _ _ (@ps_for _ _ _ _ _ _ _ _ zq92x rfl (@pi_range2 _ _ _ _ _ _ _ rfl m_range (@pa_cons _ _ _ _ _ (pv 0) (@pa_cons _ _ _ _ _ (@pe_op _ _ _ _ _ _ _ _ op_add (pv 0) pe_int) pa_nil rfl) rfl) (by rfl) (by rfl)) (pg_name (i := 1) scLawPrimeFrom.nd rfl (Or.inr rfl)) (@pss_one _ _ _ (@ps_if _ _ _ _ _ _ _ _ (@pt_cmpR _ _ _ _ _ _ _ _ (op_eqD hr.units) (pe_lcomp (CompOk.of (show compOkB (defScope sLawPrimeFrom) ["number", "found"] _ ["k", "found"] [none, some 1] = true by decide +kernel)) (@pi_range2 _ _ _ _ _ _ _ rfl m_range (@pa_cons _ _ _ _ _ pe_int (@pa_cons _ _ _ _ _ pe_int pa_nil rfl) rfl) (by rfl) (by rfl)) (fun _ _ _ _ => ⟨(pg_name (i := 0) (by show List.Nodup (["k", "found"] : List Str); decide +kernel) rfl (Or.inl rfl)), (pts_one (PW.pt (pw_and (@pt_cmpR _ _ _ _ _ _ _ _ op_le (@pe_op _ _ _ _ _ _ _ _ op_mulA (pv 0) (pv 0)) (pv 1) (nomark _)) (pw_and1 (@pt_cmpR _ _ _ _ _ _ _ _ op_eq (@pe_op _ _ _ _ _ _ _ _ op_mod (pv 1) (pv 0)) pe_int (nomark _)))))), (pv 0)⟩)) (@pe_lst _ _ _ _ pa_nil) (nomark _)) (@pss_one _ _ _ (@ps_ret _ _ _ _ (pv 1))) pss_nil)) (by intro _; rfl)) (@pss_one _ _ _ (@ps_ret _ _ _ _ pe_int))), ?_⟩
 walk_at "st"
 refine for_range (fun i σ H1 => Same H H1 /\ ∃ (x : Option V), σ = [some (.int n), x]) ⟨Same.refl _, none, rfl⟩ ?_ ?_
 ·rintro i σ H1 hi ⟨s1, x, rfl⟩
  have hi2 : (i : Int) < 60 := by omega
  walk_at "st"
  intro acc hacc
  refine R.comp_range (fun j σ H2 => Same H1 H2 /\ (∃ x : Option V, σ = [x, some (.int (n + i))]) /\ ∃ is : List Int, H2 acc = some (.lst (is.map V.int)) /\ is.length <= j /\ (is = [] -> ∀ d : Int, 2 <= d -> d < 2 + j -> ¬ (d * d <= n + i /\ (n + i) % d = 0))) ?_ ?_ ?_
  ·exact ⟨same_new hacc, ⟨none, rfl⟩, [], upd_same, zq37x _, fun _ d d1 d2 => by omega⟩
  ·rintro j σ H2 hj ⟨s2, ⟨x, rfl⟩, is, e2, l2, h2⟩
   have hj2 : (j : Int) < 100 := by omega
   have next : ∀ d : Int, d < 2 + ((j + 1 : Nat) : Int) -> d < 2 + j \/ d = 2 + j := fun d h => by omega
   walk_at "st"
   refine ite2 (fun c1 => ?_) (fun c1 => ?_)
   ·have c1 : (2 + (j : Int)) * (2 + j) <= n + i := of_decide_eq_true c1
    walk_at "st"
    refine ite2 (fun c2 => ?_) (fun c2 => ?_)
    ·have c2 : (n + i) % (2 + (j : Int)) = 0 := of_decide_eq_true c2
     walk_at "st"
     refine ⟨_, e2, ?_, ?_, ⟨_, rfl⟩, is ++ [2 + (j : Int)], ?_, ?_, fun e => ?_⟩
     ·rw [zq0x]; exact small1000 (by omega)
     ·exact fun a o h => by rw [upd_ne (ne_of_none h hacc)]; exact s2 _ _ h
     ·rw [upd_same, zq36x]; rfl
     ·rw [zq39x, zq54x]; omega
     ·simp at e
    ·have c2 : ¬ (n + i) % (2 + (j : Int)) = 0 := of_decide_eq_false (zq109x.mpr c2)
     refine ⟨s2, ⟨_, rfl⟩, is, e2, by omega, fun e d d1 d2 => ?_⟩
     rcases next d d2 with h | h
     ·exact h2 e d d1 h
     ·rw [h]; exact fun z => c2 z.2
   ·have c1 : ¬ (2 + (j : Int)) * (2 + j) <= n + i := of_decide_eq_false (zq109x.mpr c1)
    walk_at "st"
    refine ⟨s2, ⟨_, rfl⟩, is, e2, by omega, fun e d d1 d2 => ?_⟩
    rcases next d d2 with h | h
    ·exact h2 e d d1 h
    ·rw [h]; exact fun z => c1 z.1
  ·rintro σ H2 ⟨s2, ⟨x, rfl⟩, is, e2, l2, h2⟩
   walk_at "st"
   refine R.lstA (by decide) fun p H3 s3 f3 e3 => ?_
   refine ⟨fun _ => False, .list (is.map PyData.int), .list [], .lst id (s3 _ _ e2) (isDs_intsP is), .lst id e3 IsDs.nil, shaped_intsP is, by decide, ?_⟩
   rw [eqv_nilP]
   walk_at "st"
   have s : Same H H3 := s1.trans (s2.trans s3)
   refine ite2 (fun c => ?_) (fun c => ?_)
   ·have c : is = [] := by simpa using c
    walk_at "st"
    exact q _ _ s (by omega) (by omega) (noDiv_of (by omega) fun d d1 d2 => h2 c d d1 (by omega))
   ·walk_at "st"
    exact ⟨s, _, rfl⟩
 ·rintro σ H1 ⟨s1, x, rfl⟩
  walk_at "st"
  refine q _ _ s1 (by omega) (by omega) fun d d1 d2 => ?_
  have : 2 * 2 <= d * d := zq140x d1 d1 (by omega) (by omega)
  omega
def F__law_prime : DF := fun ds Φ => ds = [] /\ ∀ p : Int, PrimeZ p -> p < 10 ^ 40 -> ∀ f, Φ f (.int p)
theorem mono__law_prime : MonoF F__law_prime := by
 intro ds Φ Ψ hm z
 obtain ⟨e, q⟩ := hm
 exact ⟨e, fun p h1 h2 f => z _ _ (q p h1 h2 f)⟩
theorem prime_pick : ∀ x ∈ ([2, 3, 5, 7, 2, 11, 101, 10007, 65537, 1000003, 998244353, 1000000007, 2147483647, 1000000000039, 10 ^ Int.toNat 39 + 3, 10 ^ Int.toNat 40 - 17, 2305843009213693951, 618970019642690137449562111, 162259276829213363391578010288127, 170141183460469231731687303715884105727] : List Int), x ∈ primeList /\ x < 10 ^ 40 := by decide
theorem scLawPrime : FnScope ["bag", "some", "way"] ["bag"] (defScope sLawPrime) := ⟨rfl, rfl, rfl, by decide +kernel, rfl, by decide +kernel, by decide +kernel⟩
theorem ok__law_prime (F : Fun K "_law_prime" "_law_prime" sLawPrime f fd)  (c__law_draw : Callee P w K mg base "_law_draw" 1 ["bag", "many"] spDraw) (c__law_prime_from : Callee P w K mg base "_law_prime_from" 1 ["number"] spPrimeFrom)   :
  FnOk P w K mg base CX0 2 f fd ["bag"] (spB 1 F__law_prime) := by
 refine F.ok scLawPrime (fun vs H Q E h => h.1) (fun cdv A outer s H vs Q E hr h => ?_)
 obtain ⟨b, l, ws, nb, ds, Φ, rfl, hB, hlive, hnb, hds, hΦ, hF⟩ := spB_out h
 obtain ⟨rfl, q⟩ := hF
 refine ⟨_, (@pss_cons _ _ _ _ _ (@ps_setInts _ 1 _ _ _ _ _ _ scLawPrime.nd rfl (Or.inl rfl) rfl (Or.inl rfl)) (@pss_cons _ _ _ _ _ (@ps_set _ _ (1) _ _ _ _ scLawPrime.nd rfl (Or.inl rfl) (@pe_op _ _ _ _ _ _ _ _ op_cat (pv 1) (@pe_lst _ _ _ _ (@pa_cons _ _ _ _ _ (@pe_op _ _ _ _ _ _ _ _ op_add (@pe_op _ _ _ _ _ _ _ _ op_pow pe_int pe_int) pe_int) (@pa_cons _ _ _ _ _ (@pe_op _ _ _ _ _ _ _ _ op_sub (@pe_op _ _ _ _ _ _ _ _ op_pow pe_int pe_int) pe_int) (@pa_cons _ _ _ _ _ pe_int (@pa_cons _ _ _ _ _ pe_int pa_nil rfl) rfl) rfl) rfl))) (by rfl) (by first | exact .inl rfl | exact .inr rfl | assumption)) (@pss_cons _ _ _ _ _ (@ps_set _ _ (1) _ _ _ _ scLawPrime.nd rfl (Or.inl rfl) (@pe_op _ _ _ _ _ _ _ _ op_cat (pv 1) (@pe_lst _ _ _ _ (@pa_cons _ _ _ _ _ pe_int (@pa_cons _ _ _ _ _ pe_int pa_nil rfl) rfl))) (by rfl) (by first | exact .inl rfl | exact .inr rfl | assumption)) (@pss_cons _ _ _ _ _ (@ps_set _ _ (2) _ _ _ _ scLawPrime.nd rfl (Or.inl rfl) (@pe_callC _ _ _ _ _ _ _ _ _ _ c__law_draw (hr.mono (by decide)) (@pa_cons _ _ _ _ _ (pv 0) (@pa_cons _ _ _ _ _ pe_int pa_nil rfl) rfl) (by rfl) (by decide) (by rfl) (by rfl)) (by rfl) (by first | exact .inl rfl | exact .inr rfl | assumption)) (@pss_one _ _ _ (@ps_ret _ _ _ _ (@pe_ifExp _ _ _ _ _ _ _ _ (@pt_cmpR _ _ _ _ _ _ _ _ op_lt (pv 2) pe_int (nomark _)) (@pe_ix _ _ _ _ _ _ (rIxL K) ix_list (pv 1) (pv 2) (fun _ _ => rfl)) (@pe_callC _ _ _ _ _ _ _ _ _ _ c__law_prime_from (hr.mono (by decide)) (@pa_cons _ _ _ _ _ (@pe_op _ _ _ _ _ _ _ _ op_add pe_int (@pe_callC _ _ _ _ _ _ _ _ _ _ c__law_draw (hr.mono (by decide)) (@pa_cons _ _ _ _ _ (pv 0) (@pa_cons _ _ _ _ _ pe_int pa_nil rfl) rfl) (by rfl) (by decide) (by rfl) (by rfl))) pa_nil rfl) (by rfl) (by decide) (by rfl) (by rfl))))))))), ?_⟩
 refine Sv.enterB hB hlive hnb hds hΦ (ρ := [.bag, .no, .no]) rfl ?_
 clear hΦ hds
 walk_at "dt"
 intro way w1 w2
 by_cases c : way < 20
 ·walk_at "dt"
  obtain ⟨m, em, hm1, hm2⟩ := pick (L := [2, 3, 5, 7, 2, 11, 101, 10007, 65537, 1000003, 998244353, 1000000007, 2147483647, 1000000000039, 10 ^ Int.toNat 39 + 3, 10 ^ Int.toNat 40 - 17, 2305843009213693951, 618970019642690137449562111, 162259276829213363391578010288127, 170141183460469231731687303715884105727]) (k := way) w1 (by show _ < (20 : Int); omega) _ prime_pick
  refine ⟨_, em, ?_⟩
  exact q m (primeZ_list m hm1) hm2 _
 ·walk_at "dt"
  intro r r1 r2
  walk_at "dt"
  exact fun r' h1 h2 => q r' h1 h2 _
def F__law_letter : DF := fun ds Φ => ∃ p : Int, ds = [.int p] /\ 2 <= p /\ p < 10 ^ 40 /\ ∀ x : Int, 0 <= x -> x < p -> Φ true (.int x)
theorem mono__law_letter : MonoF F__law_letter := by
 intro ds Φ Ψ hm z
 obtain ⟨p, e, h1, h2, q⟩ := hm
 exact ⟨p, e, h1, h2, fun x a b => z _ _ (q x a b)⟩
theorem scLawLetter : FnScope ["bag", "p"] ["bag", "p"] (defScope sLawLetter) := ⟨rfl, rfl, rfl, by decide +kernel, rfl, by decide +kernel, by decide +kernel⟩
theorem ok__law_letter (F : Fun K "_law_letter" "_law_letter" sLawLetter f fd)  (c__law_draw : Callee P w K mg base "_law_draw" 1 ["bag", "many"] spDraw)   :
  FnOk P w K mg base CX0 2 f fd ["bag", "p"] (spB 2 F__law_letter) := by
 refine F.ok scLawLetter (fun vs H Q E h => h.1) (fun cdv A outer s H vs Q E hr h => ?_)
 obtain ⟨b, l, ws, nb, ds, Φ, rfl, hB, hlive, hnb, hds, hΦ, hF⟩ := spB_out h
 obtain ⟨p, rfl, p2, p40, q⟩ := hF
 refine ⟨_, (@pss_one _ _ _ (@ps_ret _ _ _ _ (@pe_op _ _ _ _ _ _ _ _ op_mod (@pe_op _ _ _ _ _ _ _ _ op_mulA (@pe_callC _ _ _ _ _ _ _ _ _ _ c__law_draw (hr.mono (by decide)) (@pa_cons _ _ _ _ _ (pv 0) (@pa_cons _ _ _ _ _ (pv 1) pa_nil rfl) rfl) (by rfl) (by decide) (by rfl) (by rfl)) (@pe_op _ _ _ _ _ _ _ _ op_add (@pe_op _ _ _ _ _ _ _ _ op_fdivS (pv 1) pe_int) pe_int)) (pv 1)))), ?_⟩
 refine Sv.enterB hB hlive hnb hds hΦ (ρ := [.bag, .d false _]) rfl ?_
 clear hΦ hds
 walk_at "dt"
 intro r r1 r2
 have h1 : 0 <= r * (p / 3 + 1) := Int.mul_nonneg r1 (by omega)
 have h2 : r * (p / 3 + 1) <= 10 ^ 40 * 10 ^ 40 := zq140x (by omega) (by omega) (by omega) (by omega)
 walk_at "dt"
 exact q _ (zq67x _ (by omega)) (zq68x _ (by omega))
def F__law_factor : DF := fun ds Φ => ∃ p : Int, ds = [.int p] /\ PrimeZ p /\ p < 10 ^ 40 /\ ∀ x : Int, 0 < x -> x < p -> Φ true (.int x)
theorem mono__law_factor : MonoF F__law_factor := by
 intro ds Φ Ψ hm z
 obtain ⟨p, e, h1, h2, q⟩ := hm
 exact ⟨p, e, h1, h2, fun x a b => z _ _ (q x a b)⟩
theorem prime_mulZ {p a b : Int} (hp : PrimeZ p) (h : p ∣ a * b) : p ∣ a \/ p ∣ b := by
 by_cases ha : p ∣ a
 ·exact .inl ha
 ·right
  have hg : Int.gcd p a = 1 := by
   have d1 : (Int.gcd p a : Int) ∣ p := Int.gcd_dvd_left ..
   have d2 : (Int.gcd p a : Int) ∣ a := Int.gcd_dvd_right ..
   have h0 : 0 < (Int.gcd p a : Int) := by
    have : Int.gcd p a ≠ 0 := fun z => by have := (Int.gcd_eq_zero_iff.mp z).1; have := hp.1; omega
    omega
   rcases hp.2 _ h0 d1 with e | e
   ·exact_mod_cast e
   ·rw [e] at d2; exact absurd d2 ha
  have h' : p.natAbs ∣ a.natAbs * b.natAbs := by rw [<- Int.natAbs_mul]; exact zq162x.mpr h
  have c : Nat.Coprime p.natAbs a.natAbs := hg
  exact zq162x.mp (c.dvd_of_dvd_mul_left h')
theorem scLawFactor : FnScope ["bag", "p"] ["bag", "p"] (defScope sLawFactor) := ⟨rfl, rfl, rfl, by decide +kernel, rfl, by decide +kernel, by decide +kernel⟩
theorem ok__law_factor (F : Fun K "_law_factor" "_law_factor" sLawFactor f fd)  (c__law_draw : Callee P w K mg base "_law_draw" 1 ["bag", "many"] spDraw)   :
  FnOk P w K mg base CX0 2 f fd ["bag", "p"] (spB 2 F__law_factor) := by
 refine F.ok scLawFactor (fun vs H Q E h => h.1) (fun cdv A outer s H vs Q E hr h => ?_)
 obtain ⟨b, l, ws, nb, ds, Φ, rfl, hB, hlive, hnb, hds, hΦ, hF⟩ := spB_out h
 obtain ⟨p, rfl, hp, p40, q⟩ := hF
 refine ⟨_, (@pss_one _ _ _ (@ps_ret _ _ _ _ (@pe_op _ _ _ _ _ _ _ _ op_mod (@pe_op _ _ _ _ _ _ _ _ op_mulA (@pe_op _ _ _ _ _ _ _ _ op_add pe_int (@pe_callC _ _ _ _ _ _ _ _ _ _ c__law_draw (hr.mono (by decide)) (@pa_cons _ _ _ _ _ (pv 0) (@pa_cons _ _ _ _ _ (@pe_op _ _ _ _ _ _ _ _ op_sub (pv 1) pe_int) pa_nil rfl) rfl) (by rfl) (by decide) (by rfl) (by rfl))) (@pe_op _ _ _ _ _ _ _ _ op_add (@pe_op _ _ _ _ _ _ _ _ op_fdivS (pv 1) pe_int) pe_int)) (pv 1)))), ?_⟩
 refine Sv.enterB hB hlive hnb hds hΦ (ρ := [.bag, .d false _]) rfl ?_
 clear hΦ hds
 have p2 := hp.1
 walk_at "dt"
 intro r r1 r2
 walk_at "dt"
 refine q _ ?_ (zq68x _ (by omega))
 have h0 := zq67x ((1 + r) * (p / 3 + 1)) (show p ≠ 0 by omega)
 have hne : (1 + r) * (p / 3 + 1) % p ≠ 0 := fun e => by
  rcases prime_mulZ hp (Int.dvd_of_emod_eq_zero e) with h | h
  ·have := Int.le_of_dvd (by omega) h; omega
  ·have := Int.le_of_dvd (by omega) h; omega
 omega
def F__law_letters : DF := fun ds Φ => ∃ p n : Int, ds = [.int p, .int n] /\ 2 <= p /\ p < 10 ^ 40 /\ 0 <= n /\ n <= 10000 /\ ∀ os : List Int, (os.length : Int) = n -> (∀ x ∈ os, 0 <= x /\ x < p) -> Φ true (.list (os.map .int))
theorem mono__law_letters : MonoF F__law_letters := by
 intro ds Φ Ψ hm z
 obtain ⟨p, n, e, h1, h2, h3, h4, q⟩ := hm
 exact ⟨p, n, e, h1, h2, h3, h4, fun os a b => z _ _ (q os a b)⟩
theorem scLawLetters : FnScope ["bag", "p", "n", "way"] ["bag", "p", "n"] (defScope sLawLetters) := ⟨rfl, rfl, rfl, by decide +kernel, rfl, by decide +kernel, by decide +kernel⟩
theorem ok__law_letters (F : Fun K "_law_letters" "_law_letters" sLawLetters f fd)  (c__law_draw : Callee P w K mg base "_law_draw" 1 ["bag", "many"] spDraw) (c__law_letter : Callee P w K mg base "_law_letter" 2 ["bag", "p"] (spB 2 F__law_letter)) (m_range : mg "range" = none) (m_int : mg "int" = none) (m_min : mg "min" = none)  :
  FnOk P w K mg base CX0 3 f fd ["bag", "p", "n"] (spB 3 F__law_letters) := by
 refine F.ok scLawLetters (fun vs H Q E h => h.1) (fun cdv A outer s H vs Q E hr h => ?_)
 obtain ⟨b, l, ws, nb, ds, Φ, rfl, hB, hlive, hnb, hds, hΦ, hF⟩ := spB_out h
 obtain ⟨p, n, rfl, p2, p40, n0, n1, q⟩ := hF
 refine ⟨_, (@pss_cons _ _ _ _ _ (@ps_set _ _ (3) _ _ _ _ scLawLetters.nd rfl (Or.inl rfl) (@pe_callC _ _ _ _ _ _ _ _ _ _ c__law_draw (hr.mono (by decide)) (@pa_cons _ _ _ _ _ (pv 0) (@pa_cons _ _ _ _ _ pe_int pa_nil rfl) rfl) (by rfl) (by decide) (by rfl) (by rfl)) (by rfl) (by first | exact .inl rfl | exact .inr rfl | assumption)) (@pss_cons _ _ _ _ _ (@ps_if _ _ _ _ _ _ _ _ (@pt_cmpR _ _ _ _ _ _ _ _ op_eq (pv 3) pe_int (nomark _)) (@pss_one _ _ _ (@ps_ret _ _ _ _ (pe_lcomp (CompOk.of (show compOkB (defScope sLawLetters) ["bag", "p", "n", "way"] _ ["k", "bag", "p"] [none, some 0, some 1] = true by decide +kernel)) (@pi_range1 _ _ _ _ _ _ rfl m_range (@pa_cons _ _ _ _ _ (pv 2) pa_nil rfl) (by rfl)) (fun _ _ _ _ => ⟨(pg_name (i := 0) (by show List.Nodup (["k", "bag", "p"] : List Str); decide +kernel) rfl (Or.inl rfl)), pts_nil, (@pe_op _ _ _ _ _ _ _ _ op_mulA (@pe_callC _ _ _ _ _ _ _ _ _ _ c__law_letter (hr.mono (by decide)) (@pa_cons _ _ _ _ _ (pv 1) (@pa_cons _ _ _ _ _ (pv 2) pa_nil rfl) rfl) (by rfl) (by decide) (by rfl) (by rfl)) (@pe_callTy _ _ _ _ _ _ _ _ _ call_intM rfl m_int zq141x (@pa_cons _ _ _ _ _ (@pe_cmpR _ _ _ _ _ _ _ _ op_eq (@pe_callC _ _ _ _ _ _ _ _ _ _ c__law_draw (hr.mono (by decide)) (@pa_cons _ _ _ _ _ (pv 1) (@pa_cons _ _ _ _ _ pe_int pa_nil rfl) rfl) (by rfl) (by decide) (by rfl) (by rfl)) pe_int (nomark _)) pa_nil rfl) (by decide) (by decide) (by rfl) (by rfl)))⟩)))) pss_nil) (@pss_cons _ _ _ _ _ (@ps_if _ _ _ _ _ _ _ _ (@pt_cmpR _ _ _ _ _ _ _ _ op_eq (pv 3) pe_int (nomark _)) (@pss_one _ _ _ (@ps_ret _ _ _ _ (pe_lcomp (CompOk.of (show compOkB (defScope sLawLetters) ["bag", "p", "n", "way"] _ ["k", "bag", "p"] [none, some 0, some 1] = true by decide +kernel)) (@pi_range1 _ _ _ _ _ _ rfl m_range (@pa_cons _ _ _ _ _ (pv 2) pa_nil rfl) (by rfl)) (fun _ _ _ _ => ⟨(pg_name (i := 0) (by show List.Nodup (["k", "bag", "p"] : List Str); decide +kernel) rfl (Or.inl rfl)), pts_nil, (@pe_callC _ _ _ _ _ _ _ _ _ _ c__law_draw (hr.mono (by decide)) (@pa_cons _ _ _ _ _ (pv 1) (@pa_cons _ _ _ _ _ (@pe_callB _ _ _ _ _ _ _ _ _ (call_minM rfl) rfl m_min zq163x (@pa_cons _ _ _ _ _ (pv 2) (@pa_cons _ _ _ _ _ pe_int pa_nil rfl) rfl) (by decide) (by decide) (by rfl) (by rfl)) pa_nil rfl) rfl) (by rfl) (by decide) (by rfl) (by rfl))⟩)))) pss_nil) (@pss_one _ _ _ (@ps_ret _ _ _ _ (pe_lcomp (CompOk.of (show compOkB (defScope sLawLetters) ["bag", "p", "n", "way"] _ ["k", "bag", "p"] [none, some 0, some 1] = true by decide +kernel)) (@pi_range1 _ _ _ _ _ _ rfl m_range (@pa_cons _ _ _ _ _ (pv 2) pa_nil rfl) (by rfl)) (fun _ _ _ _ => ⟨(pg_name (i := 0) (by show List.Nodup (["k", "bag", "p"] : List Str); decide +kernel) rfl (Or.inl rfl)), pts_nil, (@pe_callC _ _ _ _ _ _ _ _ _ _ c__law_letter (hr.mono (by decide)) (@pa_cons _ _ _ _ _ (pv 1) (@pa_cons _ _ _ _ _ (pv 2) pa_nil rfl) rfl) (by rfl) (by decide) (by rfl) (by rfl))⟩))))))), ?_⟩
 refine Sv.enterB hB hlive hnb hds hΦ (ρ := [.bag, .d false _, .d false _, .no]) rfl ?_
 clear hΦ hds
 walk_at "dt"
 intro way w1 w2
 by_cases c : way = 2
 ·walk_at "dt"
  refine EvN.ev (EvN.compR1 (by decide) rfl ?_)
  walk_at "dt"
  refine CompD.ints (fun x => 0 <= x /\ x < p) ?_ fun os hol hos => q os (by omega) hos
  rintro i d ⟨hi, rfl⟩
  walk_at "dt"
  refine ⟨by walk_at "wk", ?_⟩
  walk_at "dt"
  refine Ev.callB mono__law_letter rfl ?_
  walk_at "dt"
  refine ⟨rfl, p, rfl, p2, p40, fun r r1 r2 => ?_⟩
  walk_at "dt"
  intro s s1 s2
  by_cases c2 : s = 3
  ·walk_at "dt"
   rw [decide_eq_true c2]
   exact ⟨by simp; omega, by simp; omega⟩
  ·walk_at "dt"
   rw [decide_eq_false c2]
   exact ⟨by simp, by simp; omega⟩
 by_cases c3 : way = 1
 ·walk_at "dt"
  refine EvN.ev (EvN.compR1 (by decide) rfl ?_)
  walk_at "dt"
  refine CompD.ints (fun x => 0 <= x /\ x < p) ?_ fun os hol hos => q os (by omega) hos
  rintro i d ⟨hi, rfl⟩
  walk_at "dt"
  refine ⟨by walk_at "wk", ?_⟩
  walk_at "dt"
  intro r r1 r2
  refine ⟨r, rfl, r1, ?_⟩
  split at r2 <;> omega
 ·walk_at "dt"
  refine EvN.ev (EvN.compR1 (by decide) rfl ?_)
  walk_at "dt"
  refine CompD.ints (fun x => 0 <= x /\ x < p) ?_ fun os hol hos => q os (by omega) hos
  rintro i d ⟨hi, rfl⟩
  walk_at "dt"
  refine ⟨by walk_at "wk", ?_⟩
  walk_at "dt"
  refine Ev.callB mono__law_letter rfl ?_
  walk_at "dt"
  exact ⟨rfl, p, rfl, p2, p40, fun r r1 r2 => ⟨r, rfl, r1, r2⟩⟩
def F__law_places : DF := fun ds Φ => ∃ n wide : Int, ds = [.int n, .int wide] /\ 1 <= n /\ n <= 420 /\ 1 <= wide /\ wide <= 60 /\ ∀ rs : List Int, rs ≠ [] -> rs.length <= 420 -> rs.Nodup -> (∀ x ∈ rs, 0 <= x /\ x < n) -> Φ true (.list (rs.map .int))
theorem mono__law_places : MonoF F__law_places := by
 intro ds Φ Ψ hm z
 obtain ⟨n, wide, e, h1, h2, h3, h4, q⟩ := hm
 exact ⟨n, wide, e, h1, h2, h3, h4, fun rs a b c d => z _ _ (q rs a b c d)⟩
theorem scLawPlaces : FnScope ["bag", "n", "wide"] ["bag", "n", "wide"] (defScope sLawPlaces) := ⟨rfl, rfl, rfl, by decide +kernel, rfl, by decide +kernel, by decide +kernel⟩
theorem ok__law_places (F : Fun K "_law_places" "_law_places" sLawPlaces f fd)  (c__law_draw : Callee P w K mg base "_law_draw" 1 ["bag", "many"] spDraw) (m_sorted : mg "sorted" = none) (m_list : mg "list" = none) (m_set : mg "set" = none) (m_range : mg "range" = none)  :
  FnOk P w K mg base CX0 2 f fd ["bag", "n", "wide"] (spB 3 F__law_places) := by
 refine F.ok scLawPlaces (fun vs H Q E h => h.1) (fun cdv A outer s H vs Q E hr h => ?_)
 obtain ⟨b, l, ws, nb, ds, Φ, rfl, hB, hlive, hnb, hds, hΦ, hF⟩ := spB_out h
 obtain ⟨n, wide, rfl, n0, n1, w0, w1, q⟩ := hF
 refine ⟨_, (@pss_cons _ _ _ _ _ (@ps_if _ _ _ _ _ _ _ _ (PW.pt (pw_and (@pt_cmpR _ _ _ _ _ _ _ _ op_le (pv 1) pe_int (nomark _)) (pw_and1 (@pt_cmpR _ _ _ _ _ _ _ _ op_eq (@pe_callC _ _ _ _ _ _ _ _ _ _ c__law_draw (hr.mono (by decide)) (@pa_cons _ _ _ _ _ (pv 0) (@pa_cons _ _ _ _ _ pe_int pa_nil rfl) rfl) (by rfl) (by decide) (by rfl) (by rfl)) pe_int (nomark _))))) (@pss_one _ _ _ (@ps_ret _ _ _ _ (@pe_callTy _ _ _ _ _ _ _ _ _ (call_listR rfl) rfl m_list zq45x (@pa_cons _ _ _ _ _ (@pe_callTy _ _ _ _ _ _ _ _ _ call_rangeM rfl m_range PyProof.Rows.boot_range (@pa_cons _ _ _ _ _ (pv 1) pa_nil rfl) (by decide) (by decide) (by rfl) (by rfl)) pa_nil rfl) (by decide) (by decide) (by rfl) (by rfl)))) pss_nil) (@pss_one _ _ _ (@ps_ret _ _ _ _ (@pe_callB _ _ _ _ _ _ _ _ (rSorted P w) (call_sortM rfl) rfl m_sorted PyProof.Rows.boot_sorted (@pa_cons _ _ _ _ _ (@pe_callTy _ _ _ _ _ _ _ _ (rSetOf P w K) (call_setM rfl) rfl m_set PyProof.Rows.boot_set (@pa_cons _ _ _ _ _ (pe_lcomp (CompOk.of (show compOkB (defScope sLawPlaces) ["bag", "n", "wide"] _ ["k", "bag", "n"] [none, some 0, some 1] = true by decide +kernel)) (@pi_range1 _ _ _ _ _ _ rfl m_range (@pa_cons _ _ _ _ _ (@pe_op _ _ _ _ _ _ _ _ op_add pe_int (@pe_callC _ _ _ _ _ _ _ _ _ _ c__law_draw (hr.mono (by decide)) (@pa_cons _ _ _ _ _ (pv 0) (@pa_cons _ _ _ _ _ (pv 2) pa_nil rfl) rfl) (by rfl) (by decide) (by rfl) (by rfl))) pa_nil rfl) (by rfl)) (fun _ _ _ _ => ⟨(pg_name (i := 0) (by show List.Nodup (["k", "bag", "n"] : List Str); decide +kernel) rfl (Or.inl rfl)), pts_nil, (@pe_callC _ _ _ _ _ _ _ _ _ _ c__law_draw (hr.mono (by decide)) (@pa_cons _ _ _ _ _ (pv 1) (@pa_cons _ _ _ _ _ (pv 2) pa_nil rfl) rfl) (by rfl) (by decide) (by rfl) (by rfl))⟩)) pa_nil rfl) (by decide) (by decide) (by rfl) (by rfl)) pa_nil rfl) (by decide) (by decide) (by rfl) (by rfl))))), ?_⟩
 refine Sv.enterB hB hlive hnb hds hΦ (ρ := [.bag, .d false _, .d false _]) rfl ?_
 clear hΦ hds
 have main : Ev { B := some (b, l), H0 := H, A := nb } [Sl.bag, Sl.d false (PyData.int n), Sl.d false (PyData.int wide)]
          (tCB (rSorted P w)
           (tCons
            (tCB (rSetOf P w K)
             (tCons
              (tComp
               (iRng1
                (tCons
                 (tOp (rI0 fun i j => V.int (i + j)) (tC (V.int 1))
                  (tCall spDraw [] E0 (tCons (tVar 0) (tCons (tVar 2) tNil))))
                 tNil))
               (gName 0) tNoTest (tCall spDraw [] E0 (tCons (tVar 1) (tCons (tVar 2) tNil)))
               [none, some 0, some 1])
              tNil))
            tNil)) Φ := by
  refine EvN.ev (EvN.sortedSet (EvN.ev (EvN.compR1 (by decide) rfl ?_)))
  walk_at "dt"
  intro m0 m1 m2
  walk_at "dt"
  refine CompD.ints (fun x => 0 <= x /\ x < n) ?_ fun os hol hos => ⟨os, rfl, by omega, fun rs hrs hmem => ?_⟩
  ·rintro i d ⟨hi, rfl⟩
   walk_at "dt"
   refine ⟨by walk_at "wk", ?_⟩
   walk_at "dt"
   exact fun r r1 r2 => ⟨r, rfl, r1, r2⟩
  have hrl : 0 < rs.length := by
   have : 0 < os.length := by omega
   obtain ⟨y, hy⟩ := List.exists_mem_of_length_pos this
   exact List.length_pos_of_mem ((hmem y).mpr hy)
  have hrl2 : rs.length <= os.length := zq155x (hrs.imp fun h => by omega) fun k hk => (hmem k).mp hk
  exact q rs (fun z => by rw [z] at hrl; simp at hrl) (by omega) (hrs.imp fun h => by omega) fun x hx => hos x ((hmem x).mp hx)
 walk_at "dt"
 by_cases c : n <= 20
 ·rw [if_pos (decide_eq_true c)]
  walk_at "dt"
  intro r r1 r2
  by_cases c2 : r = 15
  ·walk_at "dt"
   refine EvN.ev (EvN.listRange ?_)
   walk_at "dt"
   refine q _ ?_ ?_ ?_ ?_
   ·intro z
    have := congrArg List.length z
    simp at this
    omega
   ·simp; omega
   ·rw [List.nodup_iff_pairwise_ne, List.pairwise_map]
    exact zq150x.imp fun h => by omega
   ·intro x hx
    obtain ⟨i, hi, rfl⟩ := zq41x.mp hx
    have := zq93x.mp hi
    omega
  ·walk_at "dt"
   exact main
 ·rw [if_neg (by simpa using c)]
  walk_at "dt"
  exact main
def CkOk (p n : Int) (prs : Prs) : Prop := prs ≠ [] /\ prs.length <= 420 /\ ∀ pr ∈ prs, 0 <= pr.1 /\ pr.1 < n /\ 0 < pr.2 /\ pr.2 < p
def F__law_net : DF := fun ds Φ => ∃ p n many wide : Int, ds = [.int p, .int n, .int many, .int wide] /\ PrimeZ p /\ p < 10 ^ 40 /\ 1 <= n /\ n <= 420 /\ 0 <= many /\ many <= 400 /\ 1 <= wide /\ wide <= 60 /\ ∀ (cs : List Prs) (f : Bool), (cs.length : Int) = many -> (∀ prs ∈ cs, CkOk p n prs) -> Φ f (netD p n cs)
theorem mono__law_net : MonoF F__law_net := by
 intro ds Φ Ψ hm z
 obtain ⟨p, n, many, wide, e, h1, h2, h3, h4, h5, h6, h7, h8, q⟩ := hm
 exact ⟨p, n, many, wide, e, h1, h2, h3, h4, h5, h6, h7, h8, fun cs f a b => z _ _ (q cs f a b)⟩
theorem shaped_prss (cs : List Prs) : SeqAt.shaped (.list (cs.map prsD)) = true := by
 have h := shaped_checks cs
 unfold SeqAt.shaped
 simp only [PyData.canLay0, PyData.depth]
 rw [h.2]
 simp
 have := h.1
 omega
theorem scLawNet : FnScope ["bag", "p", "n", "many", "wide", "checks", "c", "pairs"] ["bag", "p", "n", "many", "wide"] (defScope sLawNet) := ⟨rfl, rfl, rfl, by decide +kernel, rfl, by decide +kernel, by decide +kernel⟩
theorem ok__law_net (F : Fun K "_law_net" "_law_net" sLawNet f fd)  (c__law_factor : Callee P w K mg base "_law_factor" 2 ["bag", "p"] (spB 2 F__law_factor)) (c__law_places : Callee P w K mg base "_law_places" 2 ["bag", "n", "wide"] (spB 3 F__law_places)) (c__law_draw : Callee P w K mg base "_law_draw" 1 ["bag", "many"] spDraw) (m_range : mg "range" = none) (m_list : mg "list" = none) (m_len : mg "len" = none)  :
  FnOk P w K mg base CX0 3 f fd ["bag", "p", "n", "many", "wide"] (spB 5 F__law_net) := by
 refine F.ok scLawNet (fun vs H Q E h => h.1) (fun cdv A outer s H vs Q E hr h => ?_)
 obtain ⟨b, l, ws, nb, ds, Φ, rfl, hB, hlive, hnb, hds, hΦ, hF⟩ := spB_out h
 obtain ⟨p, n, many, wide, rfl, hp, p40, n0, n1, m0, m1, w0, w1, q⟩ := hF
 refine ⟨_, (@pss_cons _ _ _ _ _ (@ps_set _ _ (5) _ _ _ _ scLawNet.nd rfl (Or.inl rfl) (@pe_lst _ _ _ _ pa_nil) (by rfl) (by first | exact .inl rfl | exact .inr rfl | assumption)) (@pss_cons _ _ _ _ _ (@ps_for _ _ _ _ _ _ _ _ zq92x rfl (@pi_range1 _ _ _ _ _ _ rfl m_range (@pa_cons _ _ _ _ _ (pv 3) pa_nil rfl) (by rfl)) (pg_name (i := 6) scLawNet.nd rfl (Or.inl rfl)) (@pss_cons _ _ _ _ _ (ps_setC (i := 7) scLawNet.nd rfl rfl (CompOk.of (show compOkB (defScope sLawNet) ["bag", "p", "n", "many", "wide", "checks", "c", "pairs"] _ ["place", "bag", "p"] [none, some 0, some 1] = true by decide +kernel)) (pi_listK (K := K) rfl (@pe_callC _ _ _ _ _ _ _ _ _ _ c__law_places (hr.mono (by decide)) (@pa_cons _ _ _ _ _ (pv 0) (@pa_cons _ _ _ _ _ (pv 2) (@pa_cons _ _ _ _ _ (pv 4) pa_nil rfl) rfl) rfl) (by rfl) (by decide) (by rfl) (by rfl))) (fun _ _ _ _ => ⟨(pg_name (i := 0) (by show List.Nodup (["place", "bag", "p"] : List Str); decide +kernel) rfl (Or.inl rfl)), pts_nil, (@pe_tup _ _ _ _ _ (@pa_cons _ _ _ _ _ (pv 0) (@pa_cons _ _ _ _ _ (@pe_callC _ _ _ _ _ _ _ _ _ _ c__law_factor (hr.mono (by decide)) (@pa_cons _ _ _ _ _ (pv 1) (@pa_cons _ _ _ _ _ (pv 2) pa_nil rfl) rfl) (by rfl) (by decide) (by rfl) (by rfl)) pa_nil rfl) rfl))⟩)) (@pss_cons _ _ _ _ _ (@ps_if _ _ _ _ _ _ _ _ (PW.pt (pw_and (@pt_cmpR _ _ _ _ _ _ _ _ (op_neD hr.units) (pv 5) (@pe_lst _ _ _ _ pa_nil) (nomark _)) (pw_and1 (@pt_cmpR _ _ _ _ _ _ _ _ op_eq (@pe_callC _ _ _ _ _ _ _ _ _ _ c__law_draw (hr.mono (by decide)) (@pa_cons _ _ _ _ _ (pv 0) (@pa_cons _ _ _ _ _ pe_int pa_nil rfl) rfl) (by rfl) (by decide) (by rfl) (by rfl)) pe_int (nomark _))))) (@pss_one _ _ _ (@ps_set _ _ (7) _ _ _ _ scLawNet.nd rfl (Or.inl rfl) (@pe_callTy _ _ _ _ _ _ _ _ (rListOf K) call_listM rfl m_list zq45x (@pa_cons _ _ _ _ _ (@pe_ix _ _ _ _ _ _ (rIxL K) ix_list (pv 5) (@pe_callC _ _ _ _ _ _ _ _ _ _ c__law_draw (hr.mono (by decide)) (@pa_cons _ _ _ _ _ (pv 0) (@pa_cons _ _ _ _ _ (@pe_callB _ _ _ _ _ _ _ _ (rLen K) call_lenM rfl m_len zq59x (@pa_cons _ _ _ _ _ (pv 5) pa_nil rfl) (by decide) (by decide) (by rfl) (by rfl)) pa_nil rfl) rfl) (by rfl) (by decide) (by rfl) (by rfl)) (fun _ _ => rfl)) pa_nil rfl) (by decide) (by decide) (by rfl) (by rfl)) (by rfl) (by first | exact .inl rfl | exact .inr rfl | assumption))) pss_nil) (@pss_one _ _ _ (@ps_expr _ _ _ _ (pe_bm zq164x zq165x zq166x mt_append (pv 5) (@pa_cons _ _ _ _ _ (pv 7) pa_nil rfl)) (by rfl))))) (by intro _; rfl)) (@pss_one _ _ _ (@ps_ret _ _ _ _ (@pe_tup _ _ _ _ _ (@pa_cons _ _ _ _ _ (pv 1) (@pa_cons _ _ _ _ _ (pv 2) (@pa_cons _ _ _ _ _ (pv 5) pa_nil rfl) rfl) rfl)))))), ?_⟩
 refine Sv.enterB hB hlive hnb hds hΦ (ρ := [.bag, .d false _, .d false _, .d false _, .d false _, .no, .no, .no]) rfl ?_
 clear hΦ hds
 have p2 := hp.1
 walk_at "dt"
 intro a
 walk_at "dt"
 refine Sv.forR1 ?_
 walk_at "dt"
 refine ⟨fun i ρ => ∃ (f : Bool) (x6 x7 : Sl) (cs : List Prs), ρ = [.bag, .d false (.int p), .d false (.int n), .d false (.int many), .d false (.int wide), .own a f (cs.map prsD), x6, x7] /\ cs.length = i /\ ∀ prs ∈ cs, CkOk p n prs, ⟨_, _, _, [], rfl, rfl, (fun _ h => nomatch h)⟩, ?_, ?_⟩
 ·rintro i d ρ ⟨hi, rfl⟩ ⟨f, x6, x7, cs, rfl, hcl, hcs⟩
  walk_at "dt"
  refine EvN.ev (EvN.compL (by decide) rfl ?_)
  refine Ev.callB mono__law_places rfl ?_
  walk_at "dt"
  refine ⟨rfl, n, wide, rfl, n0, n1, w0, w1, fun rs r0 r1 r2 r3 => ?_⟩
  walk_at "dt"
  refine ⟨by rw [zq0x]; omega, fun v => CompD.rel pairD true (fun i pr => rs[i]? = some pr.1 /\ 0 < pr.2 /\ pr.2 < p) ?_ fun prs hpl hprs => ?_⟩
  ·rintro j d hd
   obtain ⟨x, hx, rfl⟩ := map_at hd
   walk_at "dt"
   refine ⟨by walk_at "wk", ?_⟩
   walk_at "dt"
   refine Ev.callB mono__law_factor rfl ?_
   walk_at "dt"
   refine ⟨rfl, p, rfl, hp, p40, fun y y1 y2 => ?_⟩
   walk_at "dt"
   exact ⟨fun _ => rfl, (x, y), rfl, hx, y1, y2⟩
  have hok : CkOk p n prs := by
   rw [zq0x] at hpl
   refine ⟨fun z => by rw [z] at hpl; exact r0 (zq65x.mp hpl.symm), by omega, fun pr hpr => ?_⟩
   obtain ⟨k, hk⟩ := List.getElem?_of_mem hpr
   obtain ⟨e1, e2, e3⟩ := hprs k pr hk
   obtain ⟨g1, g2⟩ := r3 _ (zq72x e1)
   exact ⟨g1, g2, e2, e3⟩
  show Sv _ _ (tSeq _ _) _
  refine Sv.seq ?_
  refine Sv.conseq (fun ρ' => ∃ prs' : Prs, CkOk p n prs' /\ ρ' = [.bag, .d false (.int p), .d false (.int n), .d false (.int many), .d false (.int wide), .own a f (cs.map prsD), .d true (.int (0 + (i : Int))), .d false (prsD prs')]) ?_ ?_
  ·refine Sv.ifS ?_
   refine Tv.and ?_
   refine Tv.lend 5 rfl ?_
   walk_at "dt"
   refine ⟨shaped_prss cs, rfl, ?_⟩
   have hskip : ∃ prs' : Prs, CkOk p n prs' /\ [Sl.bag, .d false (.int p), .d false (.int n), .d false (.int many), .d false (.int wide), .own a f (cs.map prsD), .d true (.int (0 + (i : Int))), .d false (.list (prs.map pairD))] = [Sl.bag, .d false (.int p), .d false (.int n), .d false (.int many), .d false (.int wide), .own a f (cs.map prsD), .d true (.int (0 + (i : Int))), .d false (prsD prs')] := ⟨prs, hok, rfl⟩
   by_cases c0 : cs = []
   ·refine ⟨false, by subst c0; rfl, ?_⟩
    rw [if_neg zq11x]
    walk_at "dt"
    exact hskip
   ·obtain ⟨u, us, eu⟩ := List.exists_cons_of_ne_nil c0
    refine ⟨true, by subst eu; rfl, ?_⟩
    rw [if_pos rfl]
    walk_at "dt"
    intro y y1 y2
    by_cases c7 : y = 7
    ·walk_at "dt"
     have hlm : (cs.map prsD).length = cs.length := zq0x ..
     have hpos : 0 < cs.length := by rw [eu]; simp
     have hcl2 : cs.length < 400 := by omega
     rw [hlm]
     refine ⟨by omega, by unfold Sm; omega, fun z z1 z2 => ?_⟩
     obtain ⟨pr', epr, eat⟩ := atI_nat' (xs := cs) prsD z1 z2 rfl
     refine ⟨_, rfl, _, eat, _, .inl rfl, ?_⟩
     refine Gv.nameF ?_
     exact ⟨pr', hcs pr' (zq72x epr), rfl⟩
    ·walk_at "dt"
     exact hskip
  ·rintro ρ' ⟨prs', hok', rfl⟩
   walk_at "dt"
   refine ⟨by rw [zq0x]; omega, _, _, _, cs ++ [prs'], by rw [zq36x]; rfl, by simp [hcl], fun u hu => ?_⟩
   rcases zq53x.mp hu with h | h
   ·exact hcs u h
   ·rw [zq1x.mp h]; exact hok'
 ·rintro ρ ⟨f, x6, x7, cs, rfl, hcl, hcs⟩
  refine Sv.demote 5 rfl ?_
  walk_at "dt"
  exact q cs _ (by omega) hcs
def F__law_lossy : DF := fun ds Φ => ∃ wd : List Int, ds = [.list (wd.map .int)] /\ wd.length <= 10000 /\ ∀ ld : Wo, LossyOf wd ld -> Φ true (woD ld)
theorem mono__law_lossy : MonoF F__law_lossy := by
 intro ds Φ Ψ hm z
 obtain ⟨wd, e, h1, q⟩ := hm
 exact ⟨wd, e, h1, fun ld a => z _ _ (q ld a)⟩
theorem scLawLossy : FnScope ["bag", "word", "often"] ["bag", "word"] (defScope sLawLossy) := ⟨rfl, rfl, rfl, by decide +kernel, rfl, by decide +kernel, by decide +kernel⟩
theorem ok__law_lossy (F : Fun K "_law_lossy" "_law_lossy" sLawLossy f fd)  (c__law_draw : Callee P w K mg base "_law_draw" 1 ["bag", "many"] spDraw)   :
    FnOk P w K mg base CX0 2 f fd ["bag", "word"] (spB 2 F__law_lossy) := by
  refine F.ok scLawLossy (fun vs H Q E h => h.1) (fun cdv A outer s H vs Q E hr h => ?_)
  obtain ⟨b, l, ws, nb, ds, Φ, rfl, hB, hlive, hnb, hds, hΦ, hF⟩ := spB_out h
  obtain ⟨wd, rfl, hl, q⟩ := hF
  refine ⟨_, (@pss_cons _ _ _ _ _ (@ps_set _ _ (2) _ _ _ _ scLawLossy.nd rfl (Or.inr rfl) (@pe_ix _ _ _ _ _ _ (rIxL K) ix_list (@pe_lst _ _ _ _ (@pa_consts _ _ _ rfl)) (@pe_callC _ _ _ _ _ _ _ _ _ _ c__law_draw (hr.mono (by decide)) (@pa_cons _ _ _ _ _ (pv 0) (@pa_cons _ _ _ _ _ pe_int pa_nil rfl) rfl) (by rfl) (by decide) (by rfl) (by rfl)) (fun _ _ => rfl)) (by rfl) (by first | exact .inl rfl | exact .inr rfl | assumption)) (@pss_one _ _ _ (@ps_ret _ _ _ _ (pe_lcomp (CompOk.of (show compOkB (defScope sLawLossy) ["bag", "word", "often"] _ ["letter", "bag", "often"] [none, some 0, some 2] = true by decide +kernel)) (pi_listK (K := K) rfl (pv 1)) (fun _ _ _ _ => ⟨(pg_name (i := 0) (by show List.Nodup (["letter", "bag", "often"] : List Str); decide +kernel) rfl (Or.inl rfl)), pts_nil, (@pe_ifExp _ _ _ _ _ _ _ _ (@pt_cmpR _ _ _ _ _ _ _ _ op_eq (@pe_callC _ _ _ _ _ _ _ _ _ _ c__law_draw (hr.mono (by decide)) (@pa_cons _ _ _ _ _ (pv 1) (@pa_cons _ _ _ _ _ (pv 2) pa_nil rfl) rfl) (by rfl) (by decide) (by rfl) (by rfl)) pe_int (nomark _)) pe_non (pv 0))⟩))))), ?_⟩
  refine Sv.enterB hB hlive hnb hds hΦ (ρ := [.bag, .d false _, .no]) rfl ?_
  clear hΦ hds
  have hlm : (wd.map PyData.int).length = wd.length := zq0x ..
  walk_at "dt"
  intro r r1 r2
  obtain ⟨m, em, m1, m2⟩ := pick (L := [8, 4, 3, 2, 2, 3, 8, 1]) r1 (by show r < 8; omega) (fun x => 1 <= x /\ x <= 8) (by decide)
  refine ⟨_, rfl, _, em, ?_⟩
  refine Gv.nameI ?_
  walk_at "dt"
  refine EvN.ev (EvN.compL (by decide) rfl ?_)
  walk_at "dt"
  refine fun v => ⟨true, fun i ds => ∃ ld : Wo, ds = ld.map optD /\ ld.length = i /\ ∀ (j : Nat) x, ld[j]? = some (some x) -> wd[j]? = some x, ⟨[], rfl, rfl, fun _ _ h => by simp at h⟩, ?_, ?_⟩
  · rintro i d ds hd hl' ⟨ld, rfl, hld, hin⟩
    obtain ⟨x, hx, rfl⟩ := map_at hd
    walk_at "dt"
    refine ⟨by walk_at "wk", ?_⟩
    walk_at "dt"
    intro z z1 z2
    by_cases c : z = 0
    · walk_at "dt"
      refine ⟨ld ++ [none], by rw [zq36x]; rfl, by simp [hld], fun j y hy => hin j y ?_⟩
      by_cases hj : j < ld.length
      · rwa [zq19x hj] at hy
      · rw [zq15x (by omega)] at hy
        cases e : j - ld.length with
        | zero => rw [e] at hy; simp at hy
        | succ k => rw [e] at hy; simp at hy
    · walk_at "dt"
      refine ⟨ld ++ [some x], by rw [zq36x]; rfl, by simp [hld], fun j y hy => ?_⟩
      by_cases hj : j < ld.length
      · rw [zq19x hj] at hy; exact hin j y hy
      · rw [zq15x (by omega)] at hy
        cases e : j - ld.length with
        | zero =>
          rw [e] at hy
          simp at hy
          rw [show j = i by omega, <- hy]
          exact hx
        | succ k => rw [e] at hy; simp at hy
  rintro ds hl' ⟨ld, rfl, hld, hin⟩
  rw [hlm] at hld
  exact q ld ⟨hld, hin⟩
def F__law_copy : DF := fun ds Φ => ∃ (p n : Int) (cs : List Prs), ds = [netD p n cs] /\ cs.length <= 10000 /\ ∀ f, Φ f (netD p n cs)
theorem mono__law_copy : MonoF F__law_copy := by
 intro ds Φ Ψ hm z
 obtain ⟨p, n, cs, e, h, q⟩ := hm
 exact ⟨p, n, cs, e, h, fun f => z _ _ (q f)⟩
theorem scLawCopy : FnScope ["net"] ["net"] (defScope sLawCopy) := ⟨rfl, rfl, rfl, by decide +kernel, rfl, by decide +kernel, by decide +kernel⟩
theorem ok__law_copy (F : Fun K "_law_copy" "_law_copy" sLawCopy f fd)   (m_list : mg "list" = none)  :
  FnOk P w K mg base CX0 1 f fd ["net"] (spD 1 F__law_copy) := by
 refine F.ok scLawCopy (fun vs H Q E h => h.1) (fun cdv A outer s H vs Q E hr h => ?_)
 obtain ⟨nb, ds, Φ, hlive, hds, hΦ, hF⟩ := spD_out h
 obtain ⟨p, n, cs, rfl, hl, q⟩ := hF
 refine ⟨_, (@pss_one _ _ _ (@ps_ret _ _ _ _ (@pe_tup _ _ _ _ _ (@pa_cons _ _ _ _ _ (@pe_ix _ _ _ _ _ _ (rIxT K) ix_tup (pv 0) pe_int (fun _ _ => rfl)) (@pa_cons _ _ _ _ _ (@pe_ix _ _ _ _ _ _ (rIxT K) ix_tup (pv 0) pe_int (fun _ _ => rfl)) (@pa_cons _ _ _ _ _ (pe_lcomp (CompOk.of (show compOkB (defScope sLawCopy) ["net"] _ ["pairs"] [none] = true by decide +kernel)) (pi_listK (K := K) rfl (@pe_ix _ _ _ _ _ _ (rIxT K) ix_tup (pv 0) pe_int (fun _ _ => rfl))) (fun _ _ _ _ => ⟨(pg_name (i := 0) (by show List.Nodup (["pairs"] : List Str); decide +kernel) rfl (Or.inl rfl)), pts_nil, (@pe_callTy _ _ _ _ _ _ _ _ (rListOf K) call_listM rfl m_list zq45x (@pa_cons _ _ _ _ _ (pv 0) pa_nil rfl) (by decide) (by decide) (by rfl) (by rfl))⟩)) pa_nil rfl) rfl) rfl)))), ?_⟩
 refine Sv.enterD hlive hds hΦ (ρ := [.d false _]) rfl ?_
 clear hΦ hds
 walk_at "dt"
 refine EvN.ev (EvN.compL (by decide) rfl ?_)
 walk_at "dt"
 refine ⟨by rw [zq0x]; exact hl, fun v => ⟨false, fun i ds => ds = (cs.take i).map prsD, rfl, ?_, ?_⟩⟩
 ·rintro i d ds hd hl' rfl
  obtain ⟨prs, hprs, rfl⟩ := map_at hd
  walk_at "dt"
  refine ⟨by walk_at "wk", ?_⟩
  walk_at "dt"
  refine ⟨fun z => (by cases z), ?_⟩
  show _ = List.map _ _
  rw [take_snoc hprs, zq36x]
  rfl
 ·rintro ds hl' rfl
  rw [zq0x, List.take_length]
  walk_at "dt"
  exact q _
def alikeOk : Nat -> PyData -> Prop
 | 0, _ => False
 | n + 1, d => scB d = true \/ ∃ ds, (d = .list ds \/ d = .tuple ds) /\ ds.length <= 10000 /\ ∀ e ∈ ds, alikeOk n e
def F__law_alike (n : Nat) : DF := fun ds Φ => ∃ d, ds = [d, d] /\ alikeOk n d /\ Φ true (.bool true)
theorem mono__law_alike (n : Nat) : MonoF (F__law_alike n) := fun ds Φ Ψ ⟨d, e, h, q⟩ z => ⟨d, e, h, z _ _ q⟩
theorem void__law_alike : ∀ vs H Q E, ¬ spD 2 (F__law_alike 0) vs H Q E := fun vs H Q E ⟨_, _, _, _, _, d, _, h, _⟩ => h
theorem scLawAlike : FnScope ["found", "due"] ["found", "due"] (defScope sLawAlike) := ⟨rfl, rfl, rfl, by decide +kernel, rfl, by decide +kernel, by decide +kernel⟩
theorem ok__law_alike (n : Nat) (F : Fun K "_law_alike" "_law_alike" sLawAlike f fd) (c__law_alike : Callee P w K mg base "_law_alike" (n) ["found", "due"] (spD 2 (F__law_alike n)))   (m_isinstance : mg "isinstance" = none) (m_list : mg "list" = none) (m_tuple : mg "tuple" = none) (m_all : mg "all" = none) (m_len : mg "len" = none) (m_bool : mg "bool" = none) (m_int : mg "int" = none) (m_str : mg "str" = none) (m_range : mg "range" = none)  :
  FnOk P w K mg base CX0 (n + 1) f fd ["found", "due"] (spD 2 (F__law_alike (n + 1))) := by
 refine F.ok scLawAlike (fun vs H Q E h => h.1) (fun cdv A outer s H vs Q E hr h => ?_)
 obtain ⟨nb, ds, Φ, hlive, hds, hΦ, hF⟩ := spD_out h
 obtain ⟨d, rfl, hok, q⟩ := hF
 refine ⟨_, (@pss_cons _ _ _ _ _ (@ps_if _ _ _ _ _ _ _ _ (@pt_truthK _ (K) _ _ rfl (@pe_callB _ _ _ _ _ _ _ _ (rIsiT) call_isiT rfl m_isinstance zq29x (@pa_cons _ _ _ _ _ (pv 1) (@pa_cons _ _ _ _ _ (@pe_tup _ _ _ _ _ (@pa_cons _ _ _ _ _ (pe_bltn (v := .ty "list") rfl m_list zq45x rfl) (@pa_cons _ _ _ _ _ (pe_bltn (v := .ty "tuple") rfl m_tuple zq167x rfl) pa_nil rfl) rfl)) pa_nil rfl) rfl) (by decide) (by decide) (by rfl) (by rfl)) (fun _ => rfl)) (@pss_cons _ _ _ _ _ (@ps_if _ _ _ _ _ _ _ _ (PW.pt (pw_or (@pt_not _ _ _ _ (@pt_truthK _ (K) _ _ rfl (@pe_callB _ _ _ _ _ _ _ _ (rIsiT) call_isiT rfl m_isinstance zq29x (@pa_cons _ _ _ _ _ (pv 0) (@pa_cons _ _ _ _ _ (@pe_tup _ _ _ _ _ (@pa_cons _ _ _ _ _ (pe_bltn (v := .ty "list") rfl m_list zq45x rfl) (@pa_cons _ _ _ _ _ (pe_bltn (v := .ty "tuple") rfl m_tuple zq167x rfl) pa_nil rfl) rfl)) pa_nil rfl) rfl) (by decide) (by decide) (by rfl) (by rfl)) (fun _ => rfl))) (pw_or1 (@pt_cmpR _ _ _ _ _ _ _ _ op_ne (@pe_callB _ _ _ _ _ _ _ _ (rIsi K) call_isi rfl m_isinstance zq29x (@pa_cons _ _ _ _ _ (pv 0) (@pa_cons _ _ _ _ _ (pe_bltn (v := .ty "list") rfl m_list zq45x rfl) pa_nil rfl) rfl) (by decide) (by decide) (by rfl) (by rfl)) (@pe_callB _ _ _ _ _ _ _ _ (rIsi K) call_isi rfl m_isinstance zq29x (@pa_cons _ _ _ _ _ (pv 1) (@pa_cons _ _ _ _ _ (pe_bltn (v := .ty "list") rfl m_list zq45x rfl) pa_nil rfl) rfl) (by decide) (by decide) (by rfl) (by rfl)) (nomark _))))) (@pss_one _ _ _ (@ps_ret _ _ _ _ pe_bl)) pss_nil) (@pss_cons _ _ _ _ _ (@ps_if _ _ _ _ _ _ _ _ (@pt_cmpR _ _ _ _ _ _ _ _ op_ne (@pe_callB _ _ _ _ _ _ _ _ (rLen K) call_lenM rfl m_len zq59x (@pa_cons _ _ _ _ _ (pv 0) pa_nil rfl) (by decide) (by decide) (by rfl) (by rfl)) (@pe_callB _ _ _ _ _ _ _ _ (rLen K) call_lenM rfl m_len zq59x (@pa_cons _ _ _ _ _ (pv 1) pa_nil rfl) (by decide) (by decide) (by rfl) (by rfl)) (nomark _)) (@pss_one _ _ _ (@ps_ret _ _ _ _ pe_bl)) pss_nil) (@pss_one _ _ _ (@ps_ret _ _ _ _ (@pe_callB _ _ _ _ _ _ _ _ (rAll K) (call_allM rfl) rfl m_all PyProof.Rows.boot_all (@pa_cons _ _ _ _ _ (pe_lcomp (CompOk.of (show compOkB (defScope sLawAlike) ["found", "due"] _ ["k", "found", "due"] [none, some 0, some 1] = true by decide +kernel)) (@pi_range1 _ _ _ _ _ _ rfl m_range (@pa_cons _ _ _ _ _ (@pe_callB _ _ _ _ _ _ _ _ (rLen K) call_lenM rfl m_len zq59x (@pa_cons _ _ _ _ _ (pv 1) pa_nil rfl) (by decide) (by decide) (by rfl) (by rfl)) pa_nil rfl) (by rfl)) (fun _ _ _ _ => ⟨(pg_name (i := 0) (by show List.Nodup (["k", "found", "due"] : List Str); decide +kernel) rfl (Or.inl rfl)), pts_nil, (@pe_callC _ _ _ _ _ _ _ _ _ _ c__law_alike (hr.mono (zq3x _)) (@pa_cons _ _ _ _ _ (@pe_ix _ _ _ _ _ _ (rIx K) ix_seq (pv 1) (pv 0) (fun _ _ => rfl)) (@pa_cons _ _ _ _ _ (@pe_ix _ _ _ _ _ _ (rIx K) ix_seq (pv 2) (pv 0) (fun _ _ => rfl)) pa_nil rfl) rfl) (by rfl) (by decide) (by rfl) (by rfl))⟩)) pa_nil rfl) (by decide) (by decide) (by rfl) (by rfl)))))) pss_nil) (@pss_cons _ _ _ _ _ (@ps_if _ _ _ _ _ _ _ _ (PW.pt (pw_or (@pt_cmpR _ _ _ _ _ _ _ _ op_ne (@pe_callB _ _ _ _ _ _ _ _ (rIsi K) call_isi rfl m_isinstance zq29x (@pa_cons _ _ _ _ _ (pv 0) (@pa_cons _ _ _ _ _ (pe_bltn (v := .ty "bool") rfl m_bool zq168x rfl) pa_nil rfl) rfl) (by decide) (by decide) (by rfl) (by rfl)) (@pe_callB _ _ _ _ _ _ _ _ (rIsi K) call_isi rfl m_isinstance zq29x (@pa_cons _ _ _ _ _ (pv 1) (@pa_cons _ _ _ _ _ (pe_bltn (v := .ty "bool") rfl m_bool zq168x rfl) pa_nil rfl) rfl) (by decide) (by decide) (by rfl) (by rfl)) (nomark _)) (pw_or1 (@pt_cmpR _ _ _ _ _ _ _ _ op_ne (@pe_callB _ _ _ _ _ _ _ _ (rIsi K) call_isi rfl m_isinstance zq29x (@pa_cons _ _ _ _ _ (pv 0) (@pa_cons _ _ _ _ _ (pe_bltn (v := .ty "int") rfl m_int zq141x rfl) pa_nil rfl) rfl) (by decide) (by decide) (by rfl) (by rfl)) (@pe_callB _ _ _ _ _ _ _ _ (rIsi K) call_isi rfl m_isinstance zq29x (@pa_cons _ _ _ _ _ (pv 1) (@pa_cons _ _ _ _ _ (pe_bltn (v := .ty "int") rfl m_int zq141x rfl) pa_nil rfl) rfl) (by decide) (by decide) (by rfl) (by rfl)) (nomark _))))) (@pss_one _ _ _ (@ps_ret _ _ _ _ pe_bl)) pss_nil) (@pss_one _ _ _ (@ps_ret _ _ _ _ (@pe_and _ _ _ _ _ _ _ (@pe_cmpR _ _ _ _ _ _ _ _ op_eq (@pe_callB _ _ _ _ _ _ _ _ (rIsi K) call_isi rfl m_isinstance zq29x (@pa_cons _ _ _ _ _ (pv 0) (@pa_cons _ _ _ _ _ (pe_bltn (v := .ty "str") rfl m_str zq169x rfl) pa_nil rfl) rfl) (by decide) (by decide) (by rfl) (by rfl)) (@pe_callB _ _ _ _ _ _ _ _ (rIsi K) call_isi rfl m_isinstance zq29x (@pa_cons _ _ _ _ _ (pv 1) (@pa_cons _ _ _ _ _ (pe_bltn (v := .ty "str") rfl m_str zq169x rfl) pa_nil rfl) rfl) (by decide) (by decide) (by rfl) (by rfl)) (nomark _)) (@pe_one _ _ _ _ _ (@pe_cmpR _ _ _ _ _ _ _ _ op_eq (pv 0) (pv 1) (nomark _)))))))), ?_⟩
 refine Sv.enterD hlive hds hΦ (ρ := [.d false _, .d false _]) rfl ?_
 clear hΦ hds
 walk_at "dt"
 rcases hok with hs | ⟨ds, hd, hl, he⟩
 ·have h1 : (isiD d "list" || isiD d "tuple") = false := by cases d <;> first | rfl | cases hs
  rw [h1]
  walk_at "dt"
  rw [beq_self_eq_true]
  walk_at "dt"
  rw [beq_self_eq_true]
  walk_at "dt"
  rw [beq_self_eq_true]
  walk_at "dt"
  exact ⟨true, .self hs, q⟩
 rcases hd with rfl | rfl
 ·rw [(isi_list ds).1, (isi_list ds).2, Bool.true_or]
  walk_at "dt"
  refine EvN.ev (EvN.compR1 (by decide) rfl ?_)
  walk_at "dt"
  refine ⟨true, fun i es => es = List.replicate i (.bool true), rfl, ?_, ?_⟩
  ·rintro i d' es ⟨hi, rfl⟩ hl' rfl
   have hi' : i < ds.length := by omega
   have hat : atI ds (0 + (i : Int)) = some ds[i] := atI_some (by omega) (by rw [show (0 + (i : Int)).toNat = i by omega]; exact zq21x hi')
   walk_at "dt"
   refine ⟨by walk_at "wk", ?_⟩
   walk_at "dt"
   refine Ev.callD (mono__law_alike n) ?_
   walk_at "dt"
   refine ⟨rfl, ds[i], rfl, he _ (zq56x hi'), fun _ => rfl, ?_⟩
   show _ = List.replicate (i + 1) _
   rw [zq170x]
  ·rintro es hl' rfl
   refine ⟨List.replicate ds.length true, by simp, ?_⟩
   rw [show (List.replicate ds.length true).all id = true by simp]
   exact q
 ·rw [(isi_tuple ds).1, (isi_tuple ds).2, zq86x]
  walk_at "dt"
  refine EvN.ev (EvN.compR1 (by decide) rfl ?_)
  walk_at "dt"
  refine ⟨true, fun i es => es = List.replicate i (.bool true), rfl, ?_, ?_⟩
  ·rintro i d' es ⟨hi, rfl⟩ hl' rfl
   have hi' : i < ds.length := by omega
   have hat : atI ds (0 + (i : Int)) = some ds[i] := atI_some (by omega) (by rw [show (0 + (i : Int)).toNat = i by omega]; exact zq21x hi')
   walk_at "dt"
   refine ⟨by walk_at "wk", ?_⟩
   walk_at "dt"
   refine Ev.callD (mono__law_alike n) ?_
   walk_at "dt"
   refine ⟨rfl, ds[i], rfl, he _ (zq56x hi'), fun _ => rfl, ?_⟩
   show _ = List.replicate (i + 1) _
   rw [zq170x]
  ·rintro es hl' rfl
   refine ⟨List.replicate ds.length true, by simp, ?_⟩
   rw [show (List.replicate ds.length true).all id = true by simp]
   exact q
def F__law_lost : DF := fun ds Φ => ∃ wd : Wo, ds = [woD wd] /\ wd.length <= 10000 /\ Φ true (.list ((lostOf wd).map .int))
theorem mono__law_lost : MonoF F__law_lost := by
 intro ds Φ Ψ hm z
 obtain ⟨wd, e, h, q⟩ := hm
 exact ⟨wd, e, h, z _ _ q⟩
theorem scLawLost : FnScope ["word"] ["word"] (defScope sLawLost) := ⟨rfl, rfl, rfl, by decide +kernel, rfl, by decide +kernel, by decide +kernel⟩
theorem ok__law_lost (F : Fun K "_law_lost" "_law_lost" sLawLost f fd)   (m_range : mg "range" = none) (m_len : mg "len" = none)  :
    FnOk P w K mg base CX0 1 f fd ["word"] (spD 1 F__law_lost) := by
  refine F.ok scLawLost (fun vs H Q E h => h.1) (fun cdv A outer s H vs Q E hr h => ?_)
  obtain ⟨nb, ds, Φ, hlive, hds, hΦ, hF⟩ := spD_out h
  obtain ⟨wd, rfl, hl, q⟩ := hF
  refine ⟨_, (@pss_one _ _ _ (@ps_ret _ _ _ _ (pe_lcomp (CompOk.of (show compOkB (defScope sLawLost) ["word"] _ ["place", "word"] [none, some 0] = true by decide +kernel)) (@pi_range1 _ _ _ _ _ _ rfl m_range (@pa_cons _ _ _ _ _ (@pe_callB _ _ _ _ _ _ _ _ (rLen K) call_lenM rfl m_len zq59x (@pa_cons _ _ _ _ _ (pv 0) pa_nil rfl) (by decide) (by decide) (by rfl) (by rfl)) pa_nil rfl) (by rfl)) (fun _ _ _ _ => ⟨(pg_name (i := 0) (by show List.Nodup (["place", "word"] : List Str); decide +kernel) rfl (Or.inl rfl)), (pts_one (@pt_cmpR _ _ _ _ _ _ _ _ op_isM (@pe_ix _ _ _ _ _ _ (rIxL K) ix_list (pv 1) (pv 0) (fun _ _ => rfl)) pe_non (nomark _))), (pv 0)⟩)))), ?_⟩
  refine Sv.enterD hlive hds hΦ (ρ := [.d false _]) rfl ?_
  clear hΦ hds
  have hlm : ((wd.map optD).length : Int) = wd.length := by rw [zq0x]
  refine Sv.ret ?_
  refine EvN.ev (EvN.compR1 (by decide) rfl ?_)
  refine Ev.lenS ?_
  refine Ev.var rfl ?_
  refine ⟨_, .inl rfl, _, rfl, by omega, by omega, ?_⟩
  rw [show ((wd.map optD).length : Int).toNat = wd.length by omega]
  refine ⟨true, fun i ds => ds = (((List.range i).filter fun j => wd[j]? == some none).map fun (j : Nat) => (j : Int)).map PyData.int, rfl, ?_, ?_⟩
  · rintro i d ds ⟨hi, rfl⟩ hl' rfl
    obtain ⟨o, ho, hat⟩ := atI_nat' (xs := wd) optD (k := 0 + (i : Int)) (by omega) (by omega) rfl
    rw [show (0 + (i : Int)).toNat = i by omega] at ho
    walk_at "dt"
    refine ⟨by walk_at "wk", ?_⟩
    walk_at "dt"
    rw [isN_opt]
    cases o with
    | none =>
      walk_at "dt"
      show _ = List.map _ (List.map _ (List.filter _ (List.range (i + 1))))
      rw [zq90x, zq91x, zq160x (by rw [ho]; rfl)]
      simp
    | some x =>
      walk_at "dt"
      show _ = List.map _ (List.map _ (List.filter _ (List.range (i + 1))))
      rw [zq90x, zq91x, zq161x (by rw [ho]; simp)]
      simp
  · rintro ds hl' rfl
    exact q
def kNm : List Str := ["NoPlace", "NoLetter", "NoCheck", "NoDeed", "NoNet", "NoText", "NotFormed", "odd"]
def kB1 : List Bool := [true, false, false, false, false, false, false, false]
def kB2 : List Bool := [false, true, false, false, false, false, false, false]
def F__law_kinds (CP CL : Addr) : RF := fun c ds Φ => ds = [] /\ ∃ ea, (c = excCu ea CP /\ Φ true (.list [.str "NoPlace"])) \/ (c = excCu ea CL /\ Φ true (.list [.str "NoLetter"]))
theorem mono__law_kinds {CP CL : Addr} : MonoR (F__law_kinds CP CL) := fun c ds Φ Ψ ⟨e, ea, q⟩ z => ⟨e, ea, q.imp (fun q => ⟨q.1, z _ _ q.2⟩) fun q => ⟨q.1, z _ _ q.2⟩⟩
theorem scLawKinds : FnScope ["caught", "kinds", "names"] ["caught"] (defScope sLawKinds) := ⟨rfl, rfl, rfl, by decide +kernel, rfl, by decide +kernel, by decide +kernel⟩
theorem ok__law_kinds (F : Fun K "_law_kinds" "_law_kinds" sLawKinds f fd)  {C_NetError : Addr} {C_NoPlace : Addr} {C_NoLetter : Addr} {C_NoCheck : Addr} {C_NoDeed : Addr} {C_NoNet : Addr} {C_NoText : Addr} {C_NotFormed : Addr} (x_NetError : XI K C_NetError []) (gx_NetError : mg "NetError" = some (.ref C_NetError)) (x_NoPlace : XI K C_NoPlace [.ref C_NetError]) (gx_NoPlace : mg "NoPlace" = some (.ref C_NoPlace)) (x_NoLetter : XI K C_NoLetter [.ref C_NetError]) (gx_NoLetter : mg "NoLetter" = some (.ref C_NoLetter)) (x_NoCheck : XI K C_NoCheck [.ref C_NetError]) (gx_NoCheck : mg "NoCheck" = some (.ref C_NoCheck)) (x_NoDeed : XI K C_NoDeed [.ref C_NetError]) (gx_NoDeed : mg "NoDeed" = some (.ref C_NoDeed)) (gx_NoNet : mg "NoNet" = some (.ref C_NoNet)) (x_NoText : XI K C_NoText [.ref C_NetError]) (gx_NoText : mg "NoText" = some (.ref C_NoText)) (x_NotFormed : XI K C_NotFormed [.ref C_NetError]) (gx_NotFormed : mg "NotFormed" = some (.ref C_NotFormed)) (kit_NoPlace_NoPlace : PySem.W.kitOne K (.ref C_NoPlace) (.ref C_NoPlace) = some true) (kit_NoPlace_NoLetter : PySem.W.kitOne K (.ref C_NoPlace) (.ref C_NoLetter) = some false) (kit_NoPlace_NoCheck : PySem.W.kitOne K (.ref C_NoPlace) (.ref C_NoCheck) = some false) (kit_NoPlace_NoDeed : PySem.W.kitOne K (.ref C_NoPlace) (.ref C_NoDeed) = some false) (kit_NoPlace_NoNet : PySem.W.kitOne K (.ref C_NoPlace) (.ref C_NoNet) = some false) (kit_NoPlace_NoText : PySem.W.kitOne K (.ref C_NoPlace) (.ref C_NoText) = some false) (kit_NoPlace_NotFormed : PySem.W.kitOne K (.ref C_NoPlace) (.ref C_NotFormed) = some false) (kit_NoPlace_ValueError : PySem.W.kitOne K (.ref C_NoPlace) (.type "ValueError") = some true) (kit_NoLetter_NoPlace : PySem.W.kitOne K (.ref C_NoLetter) (.ref C_NoPlace) = some false) (kit_NoLetter_NoLetter : PySem.W.kitOne K (.ref C_NoLetter) (.ref C_NoLetter) = some true) (kit_NoLetter_NoCheck : PySem.W.kitOne K (.ref C_NoLetter) (.ref C_NoCheck) = some false) (kit_NoLetter_NoDeed : PySem.W.kitOne K (.ref C_NoLetter) (.ref C_NoDeed) = some false) (kit_NoLetter_NoNet : PySem.W.kitOne K (.ref C_NoLetter) (.ref C_NoNet) = some false) (kit_NoLetter_NoText : PySem.W.kitOne K (.ref C_NoLetter) (.ref C_NoText) = some false) (kit_NoLetter_NotFormed : PySem.W.kitOne K (.ref C_NoLetter) (.ref C_NotFormed) = some false) (kit_NoLetter_ValueError : PySem.W.kitOne K (.ref C_NoLetter) (.type "ValueError") = some true)  (m_isinstance : mg "isinstance" = none) (m_range : mg "range" = none) (m_ValueError : mg "ValueError" = none)  :
    FnOk P w K mg base CX0 1 f fd ["caught"] (spR 1 (F__law_kinds C_NoPlace C_NoLetter)) := by
  refine F.ok scLawKinds (fun vs H Q E h => h.1) (fun cdv A outer s H vs Q E hr h => ?_)
  obtain ⟨nb, c, ws, ds, Φ, rfl, hlive, hcF, hcP, hds, hΦ, hF⟩ := spR_out h
  obtain ⟨rfl, ea, q⟩ := hF
  refine ⟨_, (@pss_cons _ _ _ _ _ (@ps_set _ _ (1) _ _ _ _ scLawKinds.nd rfl (Or.inr rfl) (@pe_lst _ _ _ _ (@pa_cons _ _ _ _ _ (@pe_callB _ _ _ _ _ _ _ _ (rIsiX K) call_isiX rfl m_isinstance zq29x (@pa_cons _ _ _ _ _ (pv 0) (@pa_cons _ _ _ _ _ (pe_glob (v := .ref C_NoPlace) rfl gx_NoPlace rfl) pa_nil rfl) rfl) (by decide) (by decide) (by rfl) (by rfl)) (@pa_cons _ _ _ _ _ (@pe_callB _ _ _ _ _ _ _ _ (rIsiX K) call_isiX rfl m_isinstance zq29x (@pa_cons _ _ _ _ _ (pv 0) (@pa_cons _ _ _ _ _ (pe_glob (v := .ref C_NoLetter) rfl gx_NoLetter rfl) pa_nil rfl) rfl) (by decide) (by decide) (by rfl) (by rfl)) (@pa_cons _ _ _ _ _ (@pe_callB _ _ _ _ _ _ _ _ (rIsiX K) call_isiX rfl m_isinstance zq29x (@pa_cons _ _ _ _ _ (pv 0) (@pa_cons _ _ _ _ _ (pe_glob (v := .ref C_NoCheck) rfl gx_NoCheck rfl) pa_nil rfl) rfl) (by decide) (by decide) (by rfl) (by rfl)) pa_nil rfl) rfl) rfl)) (by rfl) (by first | exact .inl rfl | exact .inr rfl | assumption)) (@pss_cons _ _ _ _ _ (@ps_set _ _ (1) _ _ _ _ scLawKinds.nd rfl (Or.inr rfl) (@pe_op _ _ _ _ _ _ _ _ op_cat (pv 1) (@pe_lst _ _ _ _ (@pa_cons _ _ _ _ _ (@pe_callB _ _ _ _ _ _ _ _ (rIsiX K) call_isiX rfl m_isinstance zq29x (@pa_cons _ _ _ _ _ (pv 0) (@pa_cons _ _ _ _ _ (pe_glob (v := .ref C_NoDeed) rfl gx_NoDeed rfl) pa_nil rfl) rfl) (by decide) (by decide) (by rfl) (by rfl)) (@pa_cons _ _ _ _ _ (@pe_callB _ _ _ _ _ _ _ _ (rIsiX K) call_isiX rfl m_isinstance zq29x (@pa_cons _ _ _ _ _ (pv 0) (@pa_cons _ _ _ _ _ (pe_glob (v := .ref C_NoNet) rfl gx_NoNet rfl) pa_nil rfl) rfl) (by decide) (by decide) (by rfl) (by rfl)) (@pa_cons _ _ _ _ _ (@pe_callB _ _ _ _ _ _ _ _ (rIsiX K) call_isiX rfl m_isinstance zq29x (@pa_cons _ _ _ _ _ (pv 0) (@pa_cons _ _ _ _ _ (pe_glob (v := .ref C_NoText) rfl gx_NoText rfl) pa_nil rfl) rfl) (by decide) (by decide) (by rfl) (by rfl)) pa_nil rfl) rfl) rfl))) (by rfl) (by first | exact .inl rfl | exact .inr rfl | assumption)) (@pss_cons _ _ _ _ _ (@ps_set _ _ (1) _ _ _ _ scLawKinds.nd rfl (Or.inr rfl) (@pe_op _ _ _ _ _ _ _ _ op_cat (pv 1) (@pe_lst _ _ _ _ (@pa_cons _ _ _ _ _ (@pe_callB _ _ _ _ _ _ _ _ (rIsiX K) call_isiX rfl m_isinstance zq29x (@pa_cons _ _ _ _ _ (pv 0) (@pa_cons _ _ _ _ _ (pe_glob (v := .ref C_NotFormed) rfl gx_NotFormed rfl) pa_nil rfl) rfl) (by decide) (by decide) (by rfl) (by rfl)) (@pa_cons _ _ _ _ _ (@pe_not _ _ _ _ (@pe_callB _ _ _ _ _ _ _ _ (rIsiX K) call_isiX rfl m_isinstance zq29x (@pa_cons _ _ _ _ _ (pv 0) (@pa_cons _ _ _ _ _ (pe_bltn (v := .ty "ValueError") rfl m_ValueError boot_ValueError rfl) pa_nil rfl) rfl) (by decide) (by decide) (by rfl) (by rfl))) pa_nil rfl) rfl))) (by rfl) (by first | exact .inl rfl | exact .inr rfl | assumption)) (@pss_cons _ _ _ _ _ (@ps_set _ _ (2) _ _ _ _ scLawKinds.nd rfl (Or.inr rfl) (@pe_lst _ _ _ _ (@pa_cons _ _ _ _ _ pe_str (@pa_cons _ _ _ _ _ pe_str (@pa_cons _ _ _ _ _ pe_str (@pa_cons _ _ _ _ _ pe_str (@pa_cons _ _ _ _ _ pe_str (@pa_cons _ _ _ _ _ pe_str (@pa_cons _ _ _ _ _ pe_str (@pa_cons _ _ _ _ _ pe_str pa_nil rfl) rfl) rfl) rfl) rfl) rfl) rfl) rfl)) (by rfl) (by first | exact .inl rfl | exact .inr rfl | assumption)) (@pss_one _ _ _ (@ps_ret _ _ _ _ (pe_lcomp (CompOk.of (show compOkB (defScope sLawKinds) ["caught", "kinds", "names"] _ ["k", "kinds", "names"] [none, some 1, some 2] = true by decide +kernel)) (@pi_range1 _ _ _ _ _ _ rfl m_range (@pa_cons _ _ _ _ _ pe_int pa_nil rfl) (by rfl)) (fun _ _ _ _ => ⟨(pg_name (i := 0) (by show List.Nodup (["k", "kinds", "names"] : List Str); decide +kernel) rfl (Or.inl rfl)), (pts_one (@pt_truthK _ (K) _ _ rfl (@pe_ix _ _ _ _ _ _ (rIxL K) ix_list (pv 1) (pv 0) (fun _ _ => rfl)) (fun _ => rfl))), (@pe_ix _ _ _ _ _ _ (rIxL K) ix_list (pv 2) (pv 0) (fun _ _ => rfl))⟩)))))))), ?_⟩
  refine Sv.enterR hlive hcF hcP hds hΦ (ρ := [.raw _, .no, .no]) rfl ?_
  clear hΦ hds
  have em : ∀ {c : Cu}, (false, HD.th c, c.v) ∈ (rdG H nb c).hold := fun {c} => zq1x.mpr rfl
  rcases q with ⟨rfl, q⟩ | ⟨rfl, q⟩
  · walk_at "dt"
    refine Ev.isiX rfl (zq1x.mpr rfl) x_NoPlace (fun _ h => h) kit_NoPlace_NoPlace ?_
    walk_at "dt"
    refine Ev.isiX rfl (zq1x.mpr rfl) x_NoPlace (fun _ h => h) kit_NoPlace_NoLetter ?_
    walk_at "dt"
    refine Ev.isiX rfl (zq1x.mpr rfl) x_NoPlace (fun _ h => h) kit_NoPlace_NoCheck ?_
    walk_at "dt"
    refine Ev.isiX rfl (zq1x.mpr rfl) x_NoPlace (fun _ h => h) kit_NoPlace_NoDeed ?_
    walk_at "dt"
    refine Ev.isiX rfl (zq1x.mpr rfl) x_NoPlace (fun _ h => h) kit_NoPlace_NoNet ?_
    walk_at "dt"
    refine Ev.isiX rfl (zq1x.mpr rfl) x_NoPlace (fun _ h => h) kit_NoPlace_NoText ?_
    walk_at "dt"
    refine Ev.isiX rfl (zq1x.mpr rfl) x_NoPlace (fun _ h => h) kit_NoPlace_NotFormed ?_
    walk_at "dt"
    refine Ev.isiX rfl (zq1x.mpr rfl) x_NoPlace (fun _ h => h) kit_NoPlace_ValueError ?_
    walk_at "dt"
    refine EvN.ev (EvN.compR1 (by decide) rfl ?_)
    walk_at "dt"
    refine ⟨false, fun i ds => ds = ((List.range i).filter fun k => kB1.getD k false).map fun k => PyData.str (kNm.getD k Str.empty), rfl, ?_, ?_⟩
    · rintro i e ds ⟨hi, rfl⟩ hl' rfl
      have e1 : atI (kB1.map PyData.bool) (0 + (i : Int)) = some (.bool (kB1.getD i false)) := by
        rcases (by omega : i = 0 \/ i = 1 \/ i = 2 \/ i = 3 \/ i = 4 \/ i = 5 \/ i = 6 \/ i = 7) with rfl | rfl | rfl | rfl | rfl | rfl | rfl | rfl <;> rfl
      have e2 : atI (kNm.map PyData.str) (0 + (i : Int)) = some (.str (kNm.getD i Str.empty)) := by
        rcases (by omega : i = 0 \/ i = 1 \/ i = 2 \/ i = 3 \/ i = 4 \/ i = 5 \/ i = 6 \/ i = 7) with rfl | rfl | rfl | rfl | rfl | rfl | rfl | rfl <;> rfl
      have hfs := filter_range (fun k => kB1.getD k false) i
      refine Gv.nameI ?_
      refine ⟨by walk_at "wk", ?_⟩
      show Tv _ [.d true (.int (0 + (i : Int))), .d false (.list (kB1.map .bool)), .d false (.list (kNm.map .str))] _ _
      walk_at "dt"
      cases hb : kB1.getD i false with
      | true =>
        rw [hb, if_pos rfl] at hfs
        rw [if_pos rfl]
        show Ev _ [.d true (.int (0 + (i : Int))), .d false (.list (kB1.map .bool)), .d false (.list (kNm.map .str))] _ _
        walk_at "dt"
        show _ = List.map _ (List.filter _ (List.range (i + 1)))
        rw [hfs, zq36x]
        rfl
      | false =>
        rw [hb, if_neg (by decide), zq30x] at hfs
        rw [if_neg (by decide)]
        show _ = List.map _ (List.filter _ (List.range (i + 1)))
        rw [hfs]
    rintro ds hl' rfl
    exact q
  · walk_at "dt"
    refine Ev.isiX rfl (zq1x.mpr rfl) x_NoLetter (fun _ h => h) kit_NoLetter_NoPlace ?_
    walk_at "dt"
    refine Ev.isiX rfl (zq1x.mpr rfl) x_NoLetter (fun _ h => h) kit_NoLetter_NoLetter ?_
    walk_at "dt"
    refine Ev.isiX rfl (zq1x.mpr rfl) x_NoLetter (fun _ h => h) kit_NoLetter_NoCheck ?_
    walk_at "dt"
    refine Ev.isiX rfl (zq1x.mpr rfl) x_NoLetter (fun _ h => h) kit_NoLetter_NoDeed ?_
    walk_at "dt"
    refine Ev.isiX rfl (zq1x.mpr rfl) x_NoLetter (fun _ h => h) kit_NoLetter_NoNet ?_
    walk_at "dt"
    refine Ev.isiX rfl (zq1x.mpr rfl) x_NoLetter (fun _ h => h) kit_NoLetter_NoText ?_
    walk_at "dt"
    refine Ev.isiX rfl (zq1x.mpr rfl) x_NoLetter (fun _ h => h) kit_NoLetter_NotFormed ?_
    walk_at "dt"
    refine Ev.isiX rfl (zq1x.mpr rfl) x_NoLetter (fun _ h => h) kit_NoLetter_ValueError ?_
    walk_at "dt"
    refine EvN.ev (EvN.compR1 (by decide) rfl ?_)
    walk_at "dt"
    refine ⟨false, fun i ds => ds = ((List.range i).filter fun k => kB2.getD k false).map fun k => PyData.str (kNm.getD k Str.empty), rfl, ?_, ?_⟩
    · rintro i e ds ⟨hi, rfl⟩ hl' rfl
      have e1 : atI (kB2.map PyData.bool) (0 + (i : Int)) = some (.bool (kB2.getD i false)) := by
        rcases (by omega : i = 0 \/ i = 1 \/ i = 2 \/ i = 3 \/ i = 4 \/ i = 5 \/ i = 6 \/ i = 7) with rfl | rfl | rfl | rfl | rfl | rfl | rfl | rfl <;> rfl
      have e2 : atI (kNm.map PyData.str) (0 + (i : Int)) = some (.str (kNm.getD i Str.empty)) := by
        rcases (by omega : i = 0 \/ i = 1 \/ i = 2 \/ i = 3 \/ i = 4 \/ i = 5 \/ i = 6 \/ i = 7) with rfl | rfl | rfl | rfl | rfl | rfl | rfl | rfl <;> rfl
      have hfs := filter_range (fun k => kB2.getD k false) i
      refine Gv.nameI ?_
      refine ⟨by walk_at "wk", ?_⟩
      show Tv _ [.d true (.int (0 + (i : Int))), .d false (.list (kB2.map .bool)), .d false (.list (kNm.map .str))] _ _
      walk_at "dt"
      cases hb : kB2.getD i false with
      | true =>
        rw [hb, if_pos rfl] at hfs
        rw [if_pos rfl]
        show Ev _ [.d true (.int (0 + (i : Int))), .d false (.list (kB2.map .bool)), .d false (.list (kNm.map .str))] _ _
        walk_at "dt"
        show _ = List.map _ (List.filter _ (List.range (i + 1)))
        rw [hfs, zq36x]
        rfl
      | false =>
        rw [hb, if_neg (by decide), zq30x] at hfs
        rw [if_neg (by decide)]
        show _ = List.map _ (List.filter _ (List.range (i + 1)))
        rw [hfs]
    rintro ds hl' rfl
    exact q
def F__law_beside : DF := fun ds Φ => ∃ n : Int, ds = [.int n] /\ 1 <= n /\ n < 10 ^ 41 /\ ∀ (f : Bool) (k : Int), Sm k -> Φ f (.int k)
theorem mono__law_beside : MonoF F__law_beside := by
 intro ds Φ Ψ hm z
 obtain ⟨n, e, h1, h2, q⟩ := hm
 exact ⟨n, e, h1, h2, fun f k a => z _ _ (q f k a)⟩
theorem scLawBeside : FnScope ["bag", "below", "way"] ["bag", "below"] (defScope sLawBeside) := ⟨rfl, rfl, rfl, by decide +kernel, rfl, by decide +kernel, by decide +kernel⟩
theorem ok__law_beside (F : Fun K "_law_beside" "_law_beside" sLawBeside f fd)  (c__law_draw : Callee P w K mg base "_law_draw" 1 ["bag", "many"] spDraw)   :
  FnOk P w K mg base CX0 2 f fd ["bag", "below"] (spB 2 F__law_beside) := by
 refine F.ok scLawBeside (fun vs H Q E h => h.1) (fun cdv A outer s H vs Q E hr h => ?_)
 obtain ⟨b, l, ws, nb, ds, Φ, rfl, hB, hlive, hnb, hds, hΦ, hF⟩ := spB_out h
 obtain ⟨n, rfl, n1, n2, q⟩ := hF
 refine ⟨_, (@pss_cons _ _ _ _ _ (@ps_set _ _ (2) _ _ _ _ scLawBeside.nd rfl (Or.inl rfl) (@pe_callC _ _ _ _ _ _ _ _ _ _ c__law_draw (hr.mono (by decide)) (@pa_cons _ _ _ _ _ (pv 0) (@pa_cons _ _ _ _ _ pe_int pa_nil rfl) rfl) (by rfl) (by decide) (by rfl) (by rfl)) (by rfl) (by first | exact .inl rfl | exact .inr rfl | assumption)) (@pss_cons _ _ _ _ _ (@ps_if _ _ _ _ _ _ _ _ (@pt_cmpR _ _ _ _ _ _ _ _ op_gt (pv 2) pe_int (nomark _)) (@pss_one _ _ _ (@ps_ret _ _ _ _ (@pe_callC _ _ _ _ _ _ _ _ _ _ c__law_draw (hr.mono (by decide)) (@pa_cons _ _ _ _ _ (pv 0) (@pa_cons _ _ _ _ _ (pv 1) pa_nil rfl) rfl) (by rfl) (by decide) (by rfl) (by rfl)))) pss_nil) (@pss_one _ _ _ (@ps_ret _ _ _ _ (@pe_ix _ _ _ _ _ _ (rIxL K) ix_list (@pe_lst _ _ _ _ (@pa_cons _ _ _ _ _ (pv 1) (@pa_cons _ _ _ _ _ (@pe_op _ _ _ _ _ _ _ _ op_add (pv 1) (@pe_callC _ _ _ _ _ _ _ _ _ _ c__law_draw (hr.mono (by decide)) (@pa_cons _ _ _ _ _ (pv 0) (@pa_cons _ _ _ _ _ (@pe_op _ _ _ _ _ _ _ _ op_pow pe_int pe_int) pa_nil rfl) rfl) (by rfl) (by decide) (by rfl) (by rfl))) (@pa_cons _ _ _ _ _ (@pe_un _ _ _ _ _ _ un_neg pe_int) (@pa_cons _ _ _ _ _ (@pe_op _ _ _ _ _ _ _ _ op_sub (@pe_un _ _ _ _ _ _ un_neg pe_int) (@pe_callC _ _ _ _ _ _ _ _ _ _ c__law_draw (hr.mono (by decide)) (@pa_cons _ _ _ _ _ (pv 0) (@pa_cons _ _ _ _ _ (@pe_op _ _ _ _ _ _ _ _ op_pow pe_int pe_int) pa_nil rfl) rfl) (by rfl) (by decide) (by rfl) (by rfl))) (@pa_cons _ _ _ _ _ (@pe_op _ _ _ _ _ _ _ _ op_sub pe_int (pv 1)) pa_nil rfl) rfl) rfl) rfl) rfl)) (pv 2) (fun _ _ => rfl)))))), ?_⟩
 refine Sv.enterB hB hlive hnb hds hΦ (ρ := [.bag, .d false _, .no]) rfl ?_
 clear hΦ hds
 walk_at "dt"
 intro w w0 w1
 walk_at "dt"
 by_cases c : 4 < w
 ·rw [if_pos (by simpa using c)]
  walk_at "dt"
  intro r r0 r1
  exact q _ r (by unfold Sm; omega)
 rw [if_neg (by simpa using c)]
 walk_at "dt"
 intro r r0 r1
 walk_at "dt"
 intro r' r0' r1'
 walk_at "dt"
 have r1 : r < 10 ^ 50 := r1
 have r1' : r' < 10 ^ 50 := r1'
 obtain ⟨k, ek, hk⟩ := pick (L := [n, n + r, -1, -1 - r', 0 - n]) (k := w) (by omega) (by show w < 5; omega) (fun x => Sm x) (by unfold Sm; simp; omega)
 refine ⟨.int k, ek, ?_⟩
 exact q _ k hk
def F_Mender_lose (C CP : Addr) : CXF := fun c ds Φ Ξ => ∃ (x dx l : Addr) (p n a : Int) (cs : List Prs) (wd : Wo), c = insCu C x dx (mdF (netD p n cs) l wd) /\ ds = [.int a] /\ (wd.length : Int) = n /\ if 0 <= a /\ a < n then Φ (insCu C x dx (mdF (netD p n cs) l (wd.set a.toNat none))) true .none else Ξ c CP
theorem mono_Mender_lose {C CP : Addr} : MonoCX (F_Mender_lose C CP) := by
 intro c ds Φ Ψ X Y h z1 z2
 obtain ⟨x, dx, l, p, n, a, cs, wd, e1, e2, h3, q⟩ := h
 refine ⟨x, dx, l, p, n, a, cs, wd, e1, e2, h3, ?_⟩
 split at q
 ·rename_i c; rw [if_pos c]; exact z1 _ _ _ q
 ·rename_i c; rw [if_neg c]; exact z2 _ _ q
theorem scMenderLose : FnScope ["self", "place"] ["self", "place"] (defScope sMenderLose) := ⟨rfl, rfl, rfl, by decide +kernel, rfl, by decide +kernel, by decide +kernel⟩
theorem ok_Mender_lose (F : Fun K "lose" "Mender.lose" sMenderLose f fd)  {C_NetError : Addr} {C_NoPlace : Addr} {C_Mender : Addr} (cl_Mender : Cls K C_Mender) (na_Mender_letters : NoAttr K C_Mender "letters") (na_Mender_net : NoAttr K C_Mender "net") (x_NetError : XI K C_NetError []) (gx_NetError : mg "NetError" = some (.ref C_NetError)) (x_NoPlace : XI K C_NoPlace [.ref C_NetError]) (gx_NoPlace : mg "NoPlace" = some (.ref C_NoPlace)) (c_ask_place : XCallee P w K mg base "ask_place" 1 ["n", "place"] (spDX 2 (F_ask_place C_NoPlace)))   :
  FnOk P w K mg base (CX1 P w) 2 f fd ["self", "place"] (spCX 2 (F_Mender_lose C_Mender C_NoPlace)) := by
 refine F.okX scMenderLose (fun vs H Q E h => h.1) (fun cdv A outer s H vs Q E hr h => ?_)
 obtain ⟨nb, c, ws, ds, Φ, Ξ, rfl, hlive, hcF, hcf, hcP, hds, hΦ, hΞ, hF⟩ := spCX_out h
 obtain ⟨x, dx, l, p, n, a, cs, wd, rfl, rfl, hl, q⟩ := hF
 refine ⟨_, (@pss_cons _ _ _ _ _ (@ps_expr _ _ _ _ (pe_callX c_ask_place (xok_def (tr := true)) rfl (hr.mono (by decide)) rfl (@pa_cons _ _ _ _ _ (@pe_ix _ _ _ _ _ _ (rIxT K) ix_tup (@pe_fld _ _ _ _ _ (pv 0) rfl) pe_int (fun _ _ => rfl)) (@pa_cons _ _ _ _ _ (pv 1) pa_nil rfl) rfl)) (by rfl)) (@pss_one _ _ _ (@ps_asg _ _ _ _ _ _ pe_non (pg_sub (@pe_fld _ _ _ _ _ (pv 0) rfl) (pv 1) set_list) (by rfl) (by rfl) (by rfl)))), ?_⟩
 refine Sv.enterCX hlive hcF hcf hcP hds hΦ hΞ (ρ := [.cu _, .d false _]) rfl fun hEX => ?_
 clear hΦ hds hΞ
 refine Sv.seq ?_
 refine Sv.drop ?_
 refine Ev.callX hEX mono_ask_place ?_
 refine Av.cons (Ev.ixT (Ev.fld rfl cl_Mender na_Mender_net rfl ?_))
 walk_at "dt"
 refine ⟨rfl, n, a, rfl, ?_⟩
 by_cases c : 0 <= a /\ a < n
 ·rw [if_pos c] at q ⊢
  refine Sv.fldAt rfl cl_Mender na_Mender_letters rfl ?_
  walk_at "dt"
  refine ⟨_, a.toNat, rfl, ixN_ok c.1 (by rw [zq0x]; omega), ?_⟩
  have e : (wd.map optD).set a.toNat .none = (wd.set a.toNat none).map optD := by rw [zq110x]; rfl
  rw [e, mdF_put]
  exact ⟨_, rfl, ⟨rfl, rfl, fun a m => m⟩, q⟩
 ·rw [if_neg c] at q ⊢
  exact ⟨_, rfl, .refl rfl, q⟩
def F_Mender_put (C CP CL : Addr) : CXF := fun c ds Φ Ξ => ∃ (x dx l : Addr) (p n a b : Int) (cs : List Prs) (wd : Wo), c = insCu C x dx (mdF (netD p n cs) l wd) /\ ds = [.int a, .int b] /\ (wd.length : Int) = n /\ if 0 <= a /\ a < n then (if 0 <= b /\ b < p then Φ (insCu C x dx (mdF (netD p n cs) l (wd.set a.toNat (some b)))) true .none else Ξ c CL) else Ξ c CP
theorem mono_Mender_put {C CP CL : Addr} : MonoCX (F_Mender_put C CP CL) := by
 intro c ds Φ Ψ X Y h z1 z2
 obtain ⟨x, dx, l, p, n, a, b, cs, wd, e1, e2, h3, q⟩ := h
 refine ⟨x, dx, l, p, n, a, b, cs, wd, e1, e2, h3, ?_⟩
 split at q
 ·rename_i c; rw [if_pos c]
  split at q
  ·rename_i c; rw [if_pos c]; exact z1 _ _ _ q
  ·rename_i c; rw [if_neg c]; exact z2 _ _ q
 ·rename_i c; rw [if_neg c]; exact z2 _ _ q
theorem scMenderPut : FnScope ["self", "place", "letter"] ["self", "place", "letter"] (defScope sMenderPut) := ⟨rfl, rfl, rfl, by decide +kernel, rfl, by decide +kernel, by decide +kernel⟩
theorem ok_Mender_put (F : Fun K "put" "Mender.put" sMenderPut f fd)  {C_NetError : Addr} {C_NoPlace : Addr} {C_NoLetter : Addr} {C_Mender : Addr} (cl_Mender : Cls K C_Mender) (na_Mender_letters : NoAttr K C_Mender "letters") (na_Mender_net : NoAttr K C_Mender "net") (x_NetError : XI K C_NetError []) (gx_NetError : mg "NetError" = some (.ref C_NetError)) (x_NoPlace : XI K C_NoPlace [.ref C_NetError]) (gx_NoPlace : mg "NoPlace" = some (.ref C_NoPlace)) (x_NoLetter : XI K C_NoLetter [.ref C_NetError]) (gx_NoLetter : mg "NoLetter" = some (.ref C_NoLetter)) (c_ask_place : XCallee P w K mg base "ask_place" 1 ["n", "place"] (spDX 2 (F_ask_place C_NoPlace))) (c_ask_letter : XCallee P w K mg base "ask_letter" 2 ["p", "letter"] (spDX 2 (F_ask_letter C_NoLetter)))   :
  FnOk P w K mg base (CX1 P w) 3 f fd ["self", "place", "letter"] (spCX 3 (F_Mender_put C_Mender C_NoPlace C_NoLetter)) := by
 refine F.okX scMenderPut (fun vs H Q E h => h.1) (fun cdv A outer s H vs Q E hr h => ?_)
 obtain ⟨nb, c, ws, ds, Φ, Ξ, rfl, hlive, hcF, hcf, hcP, hds, hΦ, hΞ, hF⟩ := spCX_out h
 obtain ⟨x, dx, l, p, n, a, b, cs, wd, rfl, rfl, hl, q⟩ := hF
 refine ⟨_, (@pss_cons _ _ _ _ _ (@ps_expr _ _ _ _ (pe_callX c_ask_place (xok_def (tr := true)) rfl (hr.mono (by decide)) rfl (@pa_cons _ _ _ _ _ (@pe_ix _ _ _ _ _ _ (rIxT K) ix_tup (@pe_fld _ _ _ _ _ (pv 0) rfl) pe_int (fun _ _ => rfl)) (@pa_cons _ _ _ _ _ (pv 1) pa_nil rfl) rfl)) (by rfl)) (@pss_cons _ _ _ _ _ (@ps_expr _ _ _ _ (pe_callX c_ask_letter (xok_def (tr := true)) rfl (hr.mono (by decide)) rfl (@pa_cons _ _ _ _ _ (@pe_ix _ _ _ _ _ _ (rIxT K) ix_tup (@pe_fld _ _ _ _ _ (pv 0) rfl) pe_int (fun _ _ => rfl)) (@pa_cons _ _ _ _ _ (pv 2) pa_nil rfl) rfl)) (by rfl)) (@pss_one _ _ _ (@ps_asg _ _ _ _ _ _ (pv 2) (pg_sub (@pe_fld _ _ _ _ _ (pv 0) rfl) (pv 1) set_list) (by rfl) (by rfl) (by rfl))))), ?_⟩
 refine Sv.enterCX hlive hcF hcf hcP hds hΦ hΞ (ρ := [.cu _, .d false _, .d false _]) rfl fun hEX => ?_
 clear hΦ hds hΞ
 refine Sv.seq ?_
 refine Sv.drop ?_
 refine Ev.callX hEX mono_ask_place ?_
 refine Av.cons (Ev.ixT (Ev.fld rfl cl_Mender na_Mender_net rfl ?_))
 walk_at "dt"
 refine ⟨rfl, n, a, rfl, ?_⟩
 by_cases c : 0 <= a /\ a < n
 ·rw [if_pos c] at q ⊢
  refine Sv.seq ?_
  refine Sv.drop ?_
  refine Ev.callX hEX mono_ask_letter ?_
  refine Av.cons (Ev.ixT (Ev.fld rfl cl_Mender na_Mender_net rfl ?_))
  walk_at "dt"
  refine ⟨rfl, p, b, rfl, ?_⟩
  by_cases c2 : 0 <= b /\ b < p
  ·rw [if_pos c2] at q ⊢
   refine Sv.fldAt rfl cl_Mender na_Mender_letters rfl ?_
   walk_at "dt"
   refine ⟨_, a.toNat, rfl, ixN_ok c.1 (by rw [zq0x]; omega), ?_⟩
   have e : (wd.map optD).set a.toNat (.int b) = (wd.set a.toNat (some b)).map optD := by rw [zq110x]; rfl
   rw [e, mdF_put]
   exact ⟨_, rfl, ⟨rfl, rfl, fun a m => m⟩, q⟩
  ·rw [if_neg c2] at q ⊢
   exact ⟨_, rfl, .refl rfl, q⟩
 ·rw [if_neg c] at q ⊢
  exact ⟨_, rfl, .refl rfl, q⟩
def dnD (lose : Bool) (a b : Int) : PyData := .tuple [.str (if lose then "lose" else "put"), .int a, if lose then .none else .int b]
def onD (l : List Str) : PyData := .tuple [.none, .list (l.map .str)]
def F__law_done (C CP CL : Addr) : CF := fun c ds Φ => ∃ (x dx l : Addr) (lose : Bool) (p n a b : Int) (cs : List Prs) (wd : Wo), c = insCu C x dx (mdF (netD p n cs) l wd) /\ ds = [dnD lose a b] /\ (wd.length : Int) = n /\ if 0 <= a /\ a < n then (if lose = false /\ ¬ (0 <= b /\ b < p) then Φ c true (onD ["NoLetter"]) else Φ (insCu C x dx (mdF (netD p n cs) l (wd.set a.toNat (if lose then none else some b)))) true (onD [])) else Φ c true (onD ["NoPlace"])
theorem mono__law_done {C CP CL : Addr} : MonoC (F__law_done C CP CL) := by
 intro c ds Φ Ψ h z
 obtain ⟨x, dx, l, lose, p, n, a, b, cs, wd, e1, e2, h1, q⟩ := h
 refine ⟨x, dx, l, lose, p, n, a, b, cs, wd, e1, e2, h1, ?_⟩
 split at q
 ·rename_i c; rw [if_pos c]
  split at q
  ·rename_i c; rw [if_pos c]; exact z _ _ _ q
  ·rename_i c; rw [if_neg c]; exact z _ _ _ q
 ·rename_i c; rw [if_neg c]; exact z _ _ _ q
theorem scLawDone : FnScope ["mender", "deed", "caught", "found", "e"] ["mender", "deed"] (defScope sLawDone) := ⟨rfl, rfl, rfl, by decide +kernel, rfl, by decide +kernel, by decide +kernel⟩
theorem ok__law_done (F : Fun K "_law_done" "_law_done" sLawDone f fd)  {C_NetError : Addr} {C_NoPlace : Addr} {C_NoLetter : Addr} {C_Mender : Addr} (x_NetError : XI K C_NetError []) (gx_NetError : mg "NetError" = some (.ref C_NetError)) (x_NoPlace : XI K C_NoPlace [.ref C_NetError]) (gx_NoPlace : mg "NoPlace" = some (.ref C_NoPlace)) (x_NoLetter : XI K C_NoLetter [.ref C_NetError]) (gx_NoLetter : mg "NoLetter" = some (.ref C_NoLetter)) (c_Mender_lose : XMCallee P w K mg base C_Mender "lose" 2 ["self", "place"] (spCX 2 (F_Mender_lose C_Mender C_NoPlace))) (c_Mender_put : XMCallee P w K mg base C_Mender "put" 3 ["self", "place", "letter"] (spCX 3 (F_Mender_put C_Mender C_NoPlace C_NoLetter))) (c__law_kinds : Callee P w K mg base "_law_kinds" 1 ["caught"] (spR 1 (F__law_kinds C_NoPlace C_NoLetter)))   :
    FnOk P w K mg base CX0 4 f fd ["mender", "deed"] (spC 2 (F__law_done C_Mender C_NoPlace C_NoLetter)) := by
  refine F.ok scLawDone (fun vs H Q E h => h.1) (fun cdv A outer s H vs Q E hr h => ?_)
  obtain ⟨_, nb, c, ws, ds, rfl, hlive, hcF, hcf, hcP, hds, hF⟩ := h
  obtain ⟨Φ, hΦ, hF⟩ : ∃ Φ : Cu -> Pd, (∀ c' f d v H', Φ c' f d -> CuTo c c' H H' -> c'.P (fun a => nb a \/ a ∈ c'.F) H' -> IsD (fun a => nb a \/ a ∈ c'.F \/ (f = true /\ H a ≠ none)) H' d v -> Q v H') /\ F__law_done C_Mender C_NoPlace C_NoLetter c ds Φ := ⟨_, fun c' f d v H' q => q v H', hF⟩
  obtain ⟨x, dx, l, lose, p, n, a, b, cs, wd, rfl, rfl, hl, q⟩ := hF
  refine ⟨_, (@pss_cons _ _ _ _ _ (@ps_set _ _ (2) _ _ _ _ scLawDone.nd rfl (Or.inl rfl) pe_non (by rfl) (by first | exact .inl rfl | exact .inr rfl | assumption)) (@pss_cons _ _ _ _ _ (@ps_set _ _ (3) _ _ _ _ scLawDone.nd rfl (Or.inl rfl) pe_non (by rfl) (by first | exact .inl rfl | exact .inr rfl | assumption)) (@pss_cons _ _ _ _ _ (ps_tryN (i := 4) x_NetError.toXC rfl gx_NetError scLawDone.nd rfl rfl rfl rfl rfl (fun ps W EX hX => (@pss_one _ _ _ (@ps_if _ _ _ _ _ _ _ _ (@pt_cmpR _ _ _ _ _ _ _ _ op_eq (@pe_ix _ _ _ _ _ _ (rIxT K) ix_tup (pv 1) pe_int (fun _ _ => rfl)) pe_str (nomark _)) (@pss_one _ _ _ (@ps_set _ _ (3) _ _ _ _ scLawDone.nd rfl (Or.inl rfl) (pe_methX c_Mender_lose (pv 0) hX rfl (hr.mono (by decide)) (@pa_cons _ _ _ _ _ (@pe_ix _ _ _ _ _ _ (rIxT K) ix_tup (pv 1) pe_int (fun _ _ => rfl)) pa_nil rfl)) (by rfl) (by first | exact .inl rfl | exact .inr rfl | assumption))) (@pss_one _ _ _ (@ps_set _ _ (3) _ _ _ _ scLawDone.nd rfl (Or.inl rfl) (pe_methX c_Mender_put (pv 0) hX rfl (hr.mono (by decide)) (@pa_cons _ _ _ _ _ (@pe_ix _ _ _ _ _ _ (rIxT K) ix_tup (pv 1) pe_int (fun _ _ => rfl)) (@pa_cons _ _ _ _ _ (@pe_ix _ _ _ _ _ _ (rIxT K) ix_tup (pv 1) pe_int (fun _ _ => rfl)) pa_nil rfl) rfl)) (by rfl) (by first | exact .inl rfl | exact .inr rfl | assumption)))))) (fun ea => (@pss_one _ _ _ (@ps_set _ _ (2) _ _ _ _ scLawDone.nd rfl (Or.inl rfl) (pv 4) (by rfl) (by first | exact .inl rfl | exact .inr rfl | assumption))))) (@pss_one _ _ _ (@ps_ret _ _ _ _ (@pe_tup _ _ _ _ _ (@pa_cons _ _ _ _ _ (pv 3) (@pa_cons _ _ _ _ _ (@pe_ifExp _ _ _ _ _ _ _ _ (@pt_cmpR _ _ _ _ _ _ _ _ op_isM (pv 2) pe_non (nomark _)) (@pe_lst _ _ _ _ pa_nil) (@pe_callC _ _ _ _ _ _ _ _ _ _ c__law_kinds (hr.mono (by decide)) (@pa_cons _ _ _ _ _ (pv 2) pa_nil rfl) (by rfl) (by decide) (by rfl) (by rfl))) pa_nil rfl) rfl))))))), ?_⟩
  refine Sv.enterC hlive hcF hcf hcP hds hΦ (ρ := [.cu _, .d false _, .no, .no, .no]) rfl ?_
  clear hΦ hds
  refine Sv.seq ?_
  refine Sv.asg ?_
  walk_at "dt"
  refine Sv.tryX (fun C ρ' => ρ' = [.cu (insCu C_Mender x dx (mdF (netD p n cs) l wd)), .d false (dnD lose a b), .d true .none, .d true .none, .no] /\ ((C = C_NoPlace /\ ¬ (0 <= a /\ a < n)) \/ (C = C_NoLetter /\ (0 <= a /\ a < n) /\ lose = false /\ ¬ (0 <= b /\ b < p)))) ?_ ?_
  · intro EX hX
    cases lose with
    | true =>
      rw [show dnD true a b = .tuple [.str "lose", .int a, .none] from rfl]
      walk_at "dt"
      refine ⟨_, .ss _, _, rfl, ?_⟩
      rw [if_pos rfl]
      refine Sv.asgS (EvS.methX hX mono_Mender_lose rfl rfl (insCu.is rfl) ?_)
      walk_at "dt"
      refine ⟨rfl, x, dx, l, p, n, a, cs, wd, rfl, rfl, hl, ?_⟩
      by_cases c : 0 <= a /\ a < n
      · rw [if_pos c] at q ⊢
        rw [if_neg (by simp)] at q
        refine Gv.name ?_
        refine Sv.retM (EvS.of ?_)
        walk_at "dt"
        intro nb' v' H' hv
        exact ⟨_, _, _, rfl, ⟨rfl, rfl, fun a m => m⟩, q, hv⟩
      · rw [if_neg c]
        exact ⟨rfl, .inl ⟨rfl, c⟩⟩
    | false =>
      rw [show dnD false a b = .tuple [.str "put", .int a, .int b] from rfl]
      walk_at "dt"
      refine ⟨_, .sd _ _, _, rfl, ?_⟩
      rw [show decide (Str.ofString "put" = Str.ofString "lose") = false by decide, if_neg (by decide)]
      refine Sv.asgS (EvS.methX hX mono_Mender_put rfl rfl (insCu.is rfl) ?_)
      walk_at "dt"
      refine ⟨rfl, x, dx, l, p, n, a, b, cs, wd, rfl, rfl, hl, ?_⟩
      by_cases c : 0 <= a /\ a < n
      · rw [if_pos c] at q ⊢
        by_cases c2 : 0 <= b /\ b < p
        · rw [if_pos c2]
          rw [if_neg (fun z => z.2 c2)] at q
          refine Gv.name ?_
          refine Sv.retM (EvS.of ?_)
          walk_at "dt"
          intro nb' v' H' hv
          exact ⟨_, _, _, rfl, ⟨rfl, rfl, fun a m => m⟩, q, hv⟩
        · rw [if_neg c2]
          exact ⟨rfl, .inr ⟨rfl, c, rfl, c2⟩⟩
      · rw [if_neg c]
        exact ⟨rfl, .inl ⟨rfl, c⟩⟩
  · rintro C ρ' ⟨rfl, hC⟩
    refine ⟨?_, fun ea => ?_⟩
    · rcases hC with ⟨rfl, _⟩ | ⟨rfl, _⟩
      · exact x_NoPlace.up1
      · exact x_NoLetter.up1
    refine Sv.move rfl (by decide) ?_
    refine Sv.retM (EvS.of ?_)
    generalize htn : (tOp rIs (tVar 2) (tC V.non) : TE) = tn
    walk_at "dt"
    subst htn
    refine Ev.isCu (c := excCu ea C) (a := ea) rfl rfl ?_
    refine ⟨_, rfl, ?_⟩
    rw [if_neg (by decide)]
    refine Ev.callR mono__law_kinds rfl rfl (AvL.nil ?_)
    rcases hC with ⟨rfl, hc⟩ | ⟨rfl, hc⟩
    · rw [if_neg hc] at q
      refine ⟨rfl, rfl, ea, .inl ⟨rfl, .inl rfl, ?_⟩⟩
      walk_at "dt"
      intro nb' v' H' hv
      exact ⟨_, _, _, rfl, .refl rfl, q, hv⟩
    · rw [if_pos hc.1, if_pos hc.2] at q
      refine ⟨rfl, rfl, ea, .inr ⟨rfl, .inl rfl, ?_⟩⟩
      walk_at "dt"
      intro nb' v' H' hv
      exact ⟨_, _, _, rfl, .refl rfl, q, hv⟩
def deedD (lose : Bool) (a b : Int) : PyData := .tuple [.str (if lose then "lose" else "put"), .int a, if lose then .none else .int b]
def outD (l : List Str) : PyData := .tuple [.none, .list (l.map .str)]
def F__law_due : CF := fun c ds Φ => ∃ (w : Addr) (wd : Wo) (lose : Bool) (p a b : Int), c = ownCu w (wd.map optD) /\ ds = [.int p, deedD lose a b] /\ wd.length <= 10000 /\ if 0 <= a /\ a < wd.length then (if lose = false /\ ¬ (0 <= b /\ b < p) then Φ c true (outD ["NoLetter"]) else Φ (ownCu w ((wd.set a.toNat (if lose then none else some b)).map optD)) true (outD [])) else Φ c true (outD ["NoPlace"])
theorem mono__law_due : MonoC F__law_due := by
 intro c ds Φ Ψ h z
 obtain ⟨w, wd, lose, p, a, b, e1, e2, h1, q⟩ := h
 refine ⟨w, wd, lose, p, a, b, e1, e2, h1, ?_⟩
 split at q
 ·rename_i c; rw [if_pos c]
  split at q
  ·rename_i c; rw [if_pos c]; exact z _ _ _ q
  ·rename_i c; rw [if_neg c]; exact z _ _ _ q
 ·rename_i c; rw [if_neg c]; exact z _ _ _ q
theorem scLawDue : FnScope ["p", "word", "deed"] ["p", "word", "deed"] (defScope sLawDue) := ⟨rfl, rfl, rfl, by decide +kernel, rfl, by decide +kernel, by decide +kernel⟩
theorem ok__law_due (F : Fun K "_law_due" "_law_due" sLawDue f fd)   (m_len : mg "len" = none)  :
    FnOk P w K mg base CX0 1 f fd ["p", "word", "deed"] (spP 1 3 F__law_due) := by
  refine F.ok scLawDue (fun vs H Q E h => h.1) (fun cdv A outer s H vs Q E hr h => ?_)
  obtain ⟨nb, c, us, ws, ds, Φ, rfl, hus, hlive, hcF, hcf, hcP, hds, hΦ, hF⟩ := spP_out h
  obtain ⟨w, wd, lose, p, a, b, rfl, rfl, hl, q⟩ := hF
  refine ⟨_, (@pss_cons _ _ _ _ _ (@ps_if _ _ _ _ _ _ _ _ (PW.pt (pw_or (@pt_cmpR _ _ _ _ _ _ _ _ op_lt (@pe_ix _ _ _ _ _ _ (rIxT K) ix_tup (pv 2) pe_int (fun _ _ => rfl)) pe_int (nomark _)) (pw_or1 (@pt_cmpR _ _ _ _ _ _ _ _ op_ge (@pe_ix _ _ _ _ _ _ (rIxT K) ix_tup (pv 2) pe_int (fun _ _ => rfl)) (@pe_callB _ _ _ _ _ _ _ _ (rLen K) call_lenM rfl m_len zq59x (@pa_cons _ _ _ _ _ (pv 1) pa_nil rfl) (by decide) (by decide) (by rfl) (by rfl)) (nomark _))))) (@pss_one _ _ _ (@ps_ret _ _ _ _ (@pe_tup _ _ _ _ _ (@pa_cons _ _ _ _ _ pe_non (@pa_cons _ _ _ _ _ (@pe_lst _ _ _ _ (@pa_cons _ _ _ _ _ pe_str pa_nil rfl)) pa_nil rfl) rfl)))) pss_nil) (@pss_cons _ _ _ _ _ (@ps_if _ _ _ _ _ _ _ _ (PW.pt (pw_and (@pt_cmpR _ _ _ _ _ _ _ _ op_eq (@pe_ix _ _ _ _ _ _ (rIxT K) ix_tup (pv 2) pe_int (fun _ _ => rfl)) pe_str (nomark _)) (pw_and1 (PW.pt (pw_or (@pt_cmpR _ _ _ _ _ _ _ _ op_lt (@pe_ix _ _ _ _ _ _ (rIxT K) ix_tup (pv 2) pe_int (fun _ _ => rfl)) pe_int (nomark _)) (pw_or1 (@pt_cmpR _ _ _ _ _ _ _ _ op_ge (@pe_ix _ _ _ _ _ _ (rIxT K) ix_tup (pv 2) pe_int (fun _ _ => rfl)) (pv 0) (nomark _)))))))) (@pss_one _ _ _ (@ps_ret _ _ _ _ (@pe_tup _ _ _ _ _ (@pa_cons _ _ _ _ _ pe_non (@pa_cons _ _ _ _ _ (@pe_lst _ _ _ _ (@pa_cons _ _ _ _ _ pe_str pa_nil rfl)) pa_nil rfl) rfl)))) pss_nil) (@pss_cons _ _ _ _ _ (@ps_asg _ _ _ _ _ _ (@pe_ix _ _ _ _ _ _ (rIxT K) ix_tup (pv 2) pe_int (fun _ _ => rfl)) (pg_sub (pv 1) (@pe_ix _ _ _ _ _ _ (rIxT K) ix_tup (pv 2) pe_int (fun _ _ => rfl)) set_list) (by rfl) (by rfl) (by rfl)) (@pss_one _ _ _ (@ps_ret _ _ _ _ (@pe_tup _ _ _ _ _ (@pa_cons _ _ _ _ _ pe_non (@pa_cons _ _ _ _ _ (@pe_lst _ _ _ _ pa_nil) pa_nil rfl) rfl))))))), ?_⟩
  refine Sv.enterP hlive hcF hcf hcP hds hus hΦ (ρ := [.d false _, .cu _, .d false _]) rfl ?_
  clear hΦ hds
  have hwm : (wd.map optD).length = wd.length := zq0x ..
  refine Sv.toOwn 1 rfl ?_
  generalize hr1 : (tRet (tTup (tCons (tC V.non) (tCons (tLst (tCons (tC (V.str (Str.ofString "NoPlace"))) tNil)) tNil))) : TS) = R1
  generalize hr2 : (tRet (tTup (tCons (tC V.non) (tCons (tLst (tCons (tC (V.str (Str.ofString "NoLetter"))) tNil)) tNil))) : TS) = R2
  generalize hr3 : (tRet (tTup (tCons (tC V.non) (tCons (tLst tNil) tNil))) : TS) = R3
  cases lose with
  | true =>
    rw [show deedD true a b = .tuple [.str "lose", .int a, .none] from rfl]
    by_cases c1 : a < 0
    · rw [if_neg (by omega)] at q
      walk_at "dt"
      subst hr1
      refine Sv.toCu 1 rfl ?_
      refine Sv.retM (EvS.of ?_)
      walk_at "dt"
      intro nb' v' H' hv
      exact ⟨_, _, _, rfl, .refl rfl, q, hv⟩
    by_cases c2 : (wd.length : Int) <= a
    · rw [if_neg (by omega)] at q
      walk_at "dt"
      subst hr1
      refine Sv.toCu 1 rfl ?_
      refine Sv.retM (EvS.of ?_)
      walk_at "dt"
      intro nb' v' H' hv
      exact ⟨_, _, _, rfl, .refl rfl, q, hv⟩
    rw [if_pos (by omega), if_neg (by simp)] at q
    walk_at "dt"
    refine ⟨_, .sd _ _, _, rfl, ?_⟩
    rw [show decide (Str.ofString "lose" = Str.ofString "put") = false by decide, if_neg (by decide)]
    refine Sv.next ?_
    refine Sv.seq ?_
    refine Sv.setOwn rfl ?_
    walk_at "dt"
    refine ⟨_, a.toNat, rfl, ixN_ok (by omega) (by omega), ?_⟩
    subst hr3
    refine Sv.toCu 1 rfl ?_
    refine Sv.retM (EvS.of ?_)
    walk_at "dt"
    intro nb' v' H' hv
    refine ⟨_, _, _, rfl, ⟨rfl, rfl, fun a m => m⟩, ?_, hv⟩
    rw [zq110x] at q
    exact q
  | false =>
    rw [show deedD false a b = .tuple [.str "put", .int a, .int b] from rfl]
    by_cases c1 : a < 0
    · rw [if_neg (by omega)] at q
      walk_at "dt"
      subst hr1
      refine Sv.toCu 1 rfl ?_
      refine Sv.retM (EvS.of ?_)
      walk_at "dt"
      intro nb' v' H' hv
      exact ⟨_, _, _, rfl, .refl rfl, q, hv⟩
    by_cases c2 : (wd.length : Int) <= a
    · rw [if_neg (by omega)] at q
      walk_at "dt"
      subst hr1
      refine Sv.toCu 1 rfl ?_
      refine Sv.retM (EvS.of ?_)
      walk_at "dt"
      intro nb' v' H' hv
      exact ⟨_, _, _, rfl, .refl rfl, q, hv⟩
    rw [if_pos (by omega)] at q
    walk_at "dt"
    refine ⟨_, .ss _, _, rfl, ?_⟩
    rw [if_pos rfl]
    by_cases c3 : b < 0
    · rw [if_pos ⟨rfl, by omega⟩] at q
      walk_at "dt"
      subst hr2
      refine Sv.toCu 1 rfl ?_
      refine Sv.retM (EvS.of ?_)
      walk_at "dt"
      intro nb' v' H' hv
      exact ⟨_, _, _, rfl, .refl rfl, q, hv⟩
    by_cases c4 : p <= b
    · rw [if_pos ⟨rfl, by omega⟩] at q
      walk_at "dt"
      subst hr2
      refine Sv.toCu 1 rfl ?_
      refine Sv.retM (EvS.of ?_)
      walk_at "dt"
      intro nb' v' H' hv
      exact ⟨_, _, _, rfl, .refl rfl, q, hv⟩
    rw [if_neg (fun z => by omega)] at q
    walk_at "dt"
    refine ⟨_, a.toNat, rfl, ixN_ok (by omega) (by omega), ?_⟩
    subst hr3
    refine Sv.toCu 1 rfl ?_
    refine Sv.retM (EvS.of ?_)
    walk_at "dt"
    intro nb' v' H' hv
    refine ⟨_, _, _, rfl, ⟨rfl, rfl, fun a m => m⟩, ?_, hv⟩
    rw [zq110x] at q
    exact q
def F_Mender_word (C : Addr) : RF := fun c ds Φ => ∃ (x dx l : Addr) (nd : PyData) (wd : Wo), c = insCu C x dx (mdF nd l wd) /\ ds = [] /\ Φ true (woD wd)
theorem mono_Mender_word {C : Addr} : MonoR (F_Mender_word C) := by
 intro c ds Φ Ψ h z
 obtain ⟨x, dx, l, nd, wd, e1, e2, q⟩ := h
 exact ⟨x, dx, l, nd, wd, e1, e2, z _ _ q⟩
theorem scMenderWord : FnScope ["self"] ["self"] (defScope sMenderWord) := ⟨rfl, rfl, rfl, by decide +kernel, rfl, by decide +kernel, by decide +kernel⟩
theorem ok_Mender_word (F : Fun K "word" "Mender.word" sMenderWord f fd)  {C_Mender : Addr} (cl_Mender : Cls K C_Mender) (na_Mender_letters : NoAttr K C_Mender "letters")  (m_list : mg "list" = none)  :
  FnOk P w K mg base CX0 1 f fd ["self"] (spR 1 (F_Mender_word C_Mender)) := by
 refine F.ok scMenderWord (fun vs H Q E h => h.1) (fun cdv A outer s H vs Q E hr h => ?_)
 obtain ⟨nb, c, ws, ds, Φ, rfl, hlive, hcF, hcP, hds, hΦ, hF⟩ := spR_out h
 obtain ⟨x, dx, l, nd, wd, rfl, rfl, q⟩ := hF
 refine ⟨_, (@pss_one _ _ _ (@ps_ret _ _ _ _ (@pe_callTy _ _ _ _ _ _ _ _ (rListOf K) call_listM rfl m_list zq45x (@pa_cons _ _ _ _ _ (@pe_fld _ _ _ _ _ (pv 0) rfl) pa_nil rfl) (by decide) (by decide) (by rfl) (by rfl)))), ?_⟩
 refine Sv.enterR hlive hcF hcP hds hΦ (ρ := [.raw _]) rfl ?_
 clear hΦ hds
 refine Sv.ret ?_
 refine EvN.ev (EvN.listOf ?_)
 refine Ev.fldH rfl (zq1x.mpr rfl) cl_Mender na_Mender_letters rfl .own ?_
 refine ⟨_, .inl rfl, ?_⟩
 rw [scAll_opts, zq80x]
 exact q
def F_Mender_lost (C : Addr) : RF := fun c ds Φ => ∃ (x dx l : Addr) (nd : PyData) (wd : Wo), c = insCu C x dx (mdF nd l wd) /\ ds = [] /\ wd.length <= 10000 /\ Φ true (.list ((lostOf wd).map .int))
theorem mono_Mender_lost {C : Addr} : MonoR (F_Mender_lost C) := by
 intro c ds Φ Ψ h z
 obtain ⟨x, dx, l, nd, wd, e1, e2, h1, q⟩ := h
 exact ⟨x, dx, l, nd, wd, e1, e2, h1, z _ _ q⟩
theorem scMenderLost : FnScope ["self"] ["self"] (defScope sMenderLost) := ⟨rfl, rfl, rfl, by decide +kernel, rfl, by decide +kernel, by decide +kernel⟩
theorem ok_Mender_lost (F : Fun K "lost" "Mender.lost" sMenderLost f fd)  {C_Mender : Addr} (cl_Mender : Cls K C_Mender) (na_Mender_letters : NoAttr K C_Mender "letters") (c_lost_of : Callee P w K mg base "lost_of" 1 ["word"] (spD 1 F_lost_of))   :
  FnOk P w K mg base CX0 2 f fd ["self"] (spR 1 (F_Mender_lost C_Mender)) := by
 refine F.ok scMenderLost (fun vs H Q E h => h.1) (fun cdv A outer s H vs Q E hr h => ?_)
 obtain ⟨nb, c, ws, ds, Φ, rfl, hlive, hcF, hcP, hds, hΦ, hF⟩ := spR_out h
 obtain ⟨x, dx, l, nd, wd, rfl, rfl, hl, q⟩ := hF
 refine ⟨_, (@pss_one _ _ _ (@ps_ret _ _ _ _ (@pe_callC _ _ _ _ _ _ _ _ _ _ c_lost_of (hr.mono (by decide)) (@pa_cons _ _ _ _ _ (@pe_fld _ _ _ _ _ (pv 0) rfl) pa_nil rfl) (by rfl) (by decide) (by rfl) (by rfl)))), ?_⟩
 refine Sv.enterR hlive hcF hcP hds hΦ (ρ := [.raw _]) rfl ?_
 clear hΦ hds
 refine Sv.ret ?_
 refine Ev.callL mono_lost_of ?_
 refine AvL.held rfl (zq1x.mpr rfl) cl_Mender na_Mender_letters rfl .own ?_
 refine AvL.nil ?_
 exact ⟨rfl, wd, rfl, hl, .inl rfl, q⟩
theorem alike_wo {n : Nat} (wd : Wo) (h : wd.length <= 10000) : alikeOk (n + 2) (woD wd) := .inr ⟨_, .inl rfl, by rw [zq0x]; exact h, fun e he => by
 obtain ⟨o, _, rfl⟩ := zq41x.mp he
 cases o <;> exact .inl rfl⟩
theorem alike_row {n : Nat} (r : List Int) (h : r.length <= 10000) : alikeOk (n + 2) (rowD r) := .inr ⟨_, .inl rfl, by rw [zq0x]; exact h, fun e he => by
 obtain ⟨o, _, rfl⟩ := zq41x.mp he
 exact .inl rfl⟩
def F__law_same (C : Addr) : RF := fun c ds Φ => ∃ (x dx l : Addr) (nd : PyData) (wd : Wo) (k : Int), c = insCu C x dx (mdF nd l wd) /\ ds = [woD wd, .int k] /\ 0 <= k /\ k <= 1 /\ 1 <= wd.length /\ wd.length < 1000 /\ Φ true (.bool true)
theorem mono__law_same {C : Addr} : MonoR (F__law_same C) := by
 intro c ds Φ Ψ h z
 obtain ⟨x, dx, l, nd, wd, k, e1, e2, h1, h2, h3, h4, q⟩ := h
 exact ⟨x, dx, l, nd, wd, k, e1, e2, h1, h2, h3, h4, z _ _ q⟩
theorem scLawSame : FnScope ["mender", "word", "first", "k", "found"] ["mender", "word", "first"] (defScope sLawSame) := ⟨rfl, rfl, rfl, by decide +kernel, rfl, by decide +kernel, by decide +kernel⟩
theorem ok__law_same (F : Fun K "_law_same" "_law_same" sLawSame f fd)  {C_Mender : Addr} (c_Mender_word : MCallee P w K mg base C_Mender "word" 1 ["self"] (spR 1 (F_Mender_word C_Mender))) (c_Mender_lost : MCallee P w K mg base C_Mender "lost" 2 ["self"] (spR 1 (F_Mender_lost C_Mender))) (c__law_alike : Callee P w K mg base "_law_alike" 3 ["found", "due"] (spD 2 (F__law_alike 3))) (c__law_lost : Callee P w K mg base "_law_lost" 1 ["word"] (spD 1 F__law_lost)) (m_range : mg "range" = none)  :
  FnOk P w K mg base CX0 4 f fd ["mender", "word", "first"] (spR 3 (F__law_same C_Mender)) := by
 refine F.ok scLawSame (fun vs H Q E h => h.1) (fun cdv A outer s H vs Q E hr h => ?_)
 obtain ⟨nb, c, ws, ds, Φ, rfl, hlive, hcF, hcP, hds, hΦ, hF⟩ := spR_out h
 obtain ⟨x, dx, l, nd, wd, k, rfl, rfl, k0, k1, hw1, hw2, q⟩ := hF
 refine ⟨_, (@pss_cons _ _ _ _ _ (@ps_for _ _ _ _ _ _ _ _ zq92x rfl (@pi_range1 _ _ _ _ _ _ rfl m_range (@pa_cons _ _ _ _ _ pe_int pa_nil rfl) (by rfl)) (pg_name (i := 3) scLawSame.nd rfl (Or.inl rfl)) (@pss_cons _ _ _ _ _ (@ps_set _ _ (4) _ _ _ _ scLawSame.nd rfl (Or.inl rfl) (@pe_ifExp _ _ _ _ _ _ _ _ (@pt_cmpR _ _ _ _ _ _ _ _ op_eq (@pe_op _ _ _ _ _ _ _ _ op_mod (@pe_op _ _ _ _ _ _ _ _ op_add (pv 3) (pv 2)) pe_int) pe_int (nomark _)) (@pe_methC0 _ _ _ _ _ _ _ _ _ _ _ c_Mender_word (pv 0) (hr.mono (by decide)) (by rfl)) (@pe_methC0 _ _ _ _ _ _ _ _ _ _ _ c_Mender_lost (pv 0) (hr.mono (by decide)) (by rfl))) (by rfl) (by first | exact .inl rfl | exact .inr rfl | assumption)) (@pss_cons _ _ _ _ _ (@ps_if _ _ _ _ _ _ _ _ (@pt_not _ _ _ _ (@pt_truthK _ (K) _ _ rfl (@pe_callC _ _ _ _ _ _ _ _ _ _ c__law_alike (hr.mono (by decide)) (@pa_cons _ _ _ _ _ (pv 4) (@pa_cons _ _ _ _ _ (@pe_ifExp _ _ _ _ _ _ _ _ (@pt_cmpR _ _ _ _ _ _ _ _ op_eq (@pe_op _ _ _ _ _ _ _ _ op_mod (@pe_op _ _ _ _ _ _ _ _ op_add (pv 3) (pv 2)) pe_int) pe_int (nomark _)) (pv 1) (@pe_callC _ _ _ _ _ _ _ _ _ _ c__law_lost (hr.mono (by decide)) (@pa_cons _ _ _ _ _ (pv 1) pa_nil rfl) (by rfl) (by decide) (by rfl) (by rfl))) pa_nil rfl) rfl) (by rfl) (by decide) (by rfl) (by rfl)) (fun _ => rfl))) (@pss_one _ _ _ (@ps_ret _ _ _ _ pe_bl)) pss_nil) (@pss_cons _ _ _ _ _ (@ps_expr _ _ _ _ (pe_bm zq164x zq165x zq166x mt_append (pv 4) (@pa_cons _ _ _ _ _ pe_int pa_nil rfl)) (by rfl)) (@pss_one _ _ _ (@ps_asg _ _ _ _ _ _ pe_int (pg_sub (pv 4) pe_int set_list) (by rfl) (by rfl) (by rfl)))))) (by intro _; rfl)) (@pss_one _ _ _ (@ps_ret _ _ _ _ pe_bl))), ?_⟩
 refine Sv.enterR hlive hcF hcP hds hΦ (ρ := [.raw _, .d false _, .d false _, .no, .no]) rfl ?_
 clear hΦ hds
 refine Sv.seq ?_
 refine Sv.forR1 ?_
 walk_at "dt"
 refine ⟨fun i ρ => ∃ (x3 x4 : Sl), ρ = [.raw (.ref x), .d false (woD wd), .d false (.int k), x3, x4], ⟨_, _, rfl⟩, ?_, ?_⟩
 ·rintro i e ρ ⟨hi, rfl⟩ ⟨x3, x4, rfl⟩
  have hlo := lostOf_len wd
  have hlm : (wd.map optD).length = wd.length := zq0x ..
  have hll : ((lostOf wd).map PyData.int).length = (lostOf wd).length := zq0x ..
  refine Gv.nameI ?_
  refine Sv.seq ?_
  refine Sv.asgN (EvN.ifE ?_)
  walk_at "dt"
  by_cases c : (0 + (i : Int) + k) % 2 = 0
  ·rw [if_pos (by simpa using c)]
   refine EvF.evS (EvF.methH mono_Mender_word rfl (zq1x.mpr rfl) (insCu.is rfl) (AvL.nil ?_))
   refine ⟨rfl, x, dx, l, nd, wd, rfl, rfl, rfl, _, rfl, scAll_opts wd, fun A4 => ?_⟩
   refine Sv.seq ?_
   refine Sv.ifS (Tv.lend 4 rfl ?_)
   walk_at "dt"
   refine Ev.callD (mono__law_alike 3) ?_
   walk_at "dt"
   refine ⟨rfl, woD wd, rfl, alike_wo wd (by omega), _, rfl, ?_⟩
   rw [if_neg (by decide)]
   walk_at "dt"
   exact ⟨_, 0, rfl, ixN_ok (by decide) (by simp), _, _, rfl⟩
  ·rw [if_neg (by simpa using c)]
   refine EvF.evS (EvF.methH mono_Mender_lost rfl (zq1x.mpr rfl) (insCu.is rfl) (AvL.nil ?_))
   refine ⟨rfl, x, dx, l, nd, wd, rfl, rfl, by omega, rfl, _, rfl, scAll_ints _, fun A4 => ?_⟩
   refine Sv.seq ?_
   refine Sv.ifS (Tv.lend 4 rfl ?_)
   walk_at "dt"
   refine Ev.callD (mono__law_alike 3) ?_
   walk_at "dt"
   refine Ev.callD mono__law_lost ?_
   walk_at "dt"
   refine ⟨rfl, wd, rfl, by omega, ?_⟩
   walk_at "dt"
   refine ⟨rfl, rowD (lostOf wd), rfl, alike_row _ (by omega), _, rfl, ?_⟩
   rw [if_neg (by decide)]
   walk_at "dt"
   exact ⟨_, 0, rfl, ixN_ok (by decide) (by simp), _, _, rfl⟩
 rintro ρ ⟨x3, x4, rfl⟩
 walk_at "dt"
 exact q
def F_Mender___init__ (C : Addr) : CF := fun c ds Φ => ∃ (x dx : Addr) (p n : Int) (cs : List Prs) (wd : Wo), c = insCu C x dx [] /\ ds = [netD p n cs, woD wd] /\ cs.length <= 10000 /\ (∀ prs ∈ cs, prs.length <= 10000) /\ ∀ l, Φ (insCu C x dx (mdF (netD p n cs) l wd)) true .none
theorem mono_Mender___init__ {C : Addr} : MonoC (F_Mender___init__ C) := by
 intro c ds Φ Ψ h z
 obtain ⟨x, dx, p, n, cs, wd, e1, e2, h1, h2, q⟩ := h
 exact ⟨x, dx, p, n, cs, wd, e1, e2, h1, h2, fun l => z _ _ _ (q l)⟩
theorem scMenderInit : FnScope ["self", "net", "word"] ["self", "net", "word"] (defScope sMenderInit) := ⟨rfl, rfl, rfl, by decide +kernel, rfl, by decide +kernel, by decide +kernel⟩
theorem ok_Mender___init__ (F : Fun K "__init__" "Mender.__init__" sMenderInit f fd)  {C_Mender : Addr} (cl_Mender : Cls K C_Mender) (na_Mender_net : NoAttr K C_Mender "net") (na_Mender_letters : NoAttr K C_Mender "letters") (c_copied : Callee P w K mg base "copied" 1 ["net"] (spD 1 F_copied)) (m_list : mg "list" = none)  :
  FnOk P w K mg base CX0 2 f fd ["self", "net", "word"] (spC 3 (F_Mender___init__ C_Mender)) := by
 refine F.ok scMenderInit (fun vs H Q E h => h.1) (fun cdv A outer s H vs Q E hr h => ?_)
 obtain ⟨_, nb, c, ws, ds, rfl, hlive, hcF, hcf, hcP, hds, hF⟩ := h
 obtain ⟨Φ, hΦ, hF⟩ : ∃ Φ : Cu -> Pd, (∀ c' f d v H', Φ c' f d -> CuTo c c' H H' -> c'.P (fun a => nb a \/ a ∈ c'.F) H' -> IsD (fun a => nb a \/ a ∈ c'.F \/ (f = true /\ H a ≠ none)) H' d v -> Q v H') /\ F_Mender___init__ C_Mender c ds Φ := ⟨_, fun c' f d v H' q => q v H', hF⟩
 obtain ⟨x, dx, p, n, cs, wd, rfl, rfl, hl, hl2, q⟩ := hF
 refine ⟨_, (@pss_cons _ _ _ _ _ (@ps_fld _ _ _ _ _ _ _ _ (pv 0) (@pe_callC _ _ _ _ _ _ _ _ _ _ c_copied (hr.mono (by decide)) (@pa_cons _ _ _ _ _ (pv 1) pa_nil rfl) (by rfl) (by decide) (by rfl) (by rfl)) rfl) (@pss_one _ _ _ (@ps_fld _ _ _ _ _ _ _ _ (pv 0) (@pe_callTy _ _ _ _ _ _ _ _ (rListOf K) call_listM rfl m_list zq45x (@pa_cons _ _ _ _ _ (pv 2) pa_nil rfl) (by decide) (by decide) (by rfl) (by rfl)) rfl))), ?_⟩
 refine Sv.enterC hlive hcF hcf hcP hds hΦ (ρ := [.cu _, .d false _, .d false _]) rfl ?_
 clear hΦ hds
 refine Sv.seq ?_
 refine Sv.fldD rfl cl_Mender na_Mender_net (.inl rfl) (by decide) ?_
 refine Ev.callD mono_copied ?_
 walk_at "dt"
 refine ⟨rfl, p, n, cs, rfl, hl, hl2, fun f => ?_⟩
 refine Sv.fldN rfl cl_Mender na_Mender_letters rfl (zq159x rfl) ?_
 refine EvN.listOf ?_
 walk_at "dt"
 intro l
 exact ⟨_, rfl, ⟨rfl, rfl, fun a m => zq82x [l] m⟩, q l⟩
theorem alike_out {n : Nat} (l : List Str) (h : l.length <= 10000) : alikeOk (n + 3) (outD l) := .inr ⟨_, .inr rfl, (by decide : 2 <= 10000), fun e he => by
 rcases zq2x.mp he with rfl | he
 ·exact .inl rfl
 rcases zq2x.mp he with rfl | he
 ·exact .inr ⟨_, .inl rfl, by rw [zq0x]; exact h, fun e he => by obtain ⟨y, _, rfl⟩ := zq41x.mp he; exact .inl rfl⟩
 ·cases he⟩
abbrev r23 (a : Addr) (p n : Int) (cs : List Prs) (x5 x6 x7 x8 x9 : Sl) : Rh := [.raw (.ref a), .bag, .d true (.int p), .d true (.int n), .d false (netD p n cs), x5, x6, x7, x8, x9]
theorem scLaw : FnScope ["script", "bag", "p", "n", "net", "word", "mender", "k", "deed", "due"] ["script"] (defScope sLaw) := ⟨rfl, rfl, rfl, by decide +kernel, rfl, by decide +kernel, by decide +kernel⟩
theorem ok_law (F : Fun K "law" "law" sLaw f fd)  {C_Mender : Addr} {C_NoPlace : Addr} {C_NoLetter : Addr} (i_Mender : ICallee P w K mg base C_Mender "Mender" 2 ["self", "net", "word"] (spC 3 (F_Mender___init__ C_Mender))) (c__law_bag : Callee P w K mg base "_law_bag" 1 ["script"] (spBag K)) (c__law_prime : Callee P w K mg base "_law_prime" 2 ["bag"] (spB 1 F__law_prime)) (c__law_net : Callee P w K mg base "_law_net" 3 ["bag", "p", "n", "many", "wide"] (spB 5 F__law_net)) (c__law_lossy : Callee P w K mg base "_law_lossy" 2 ["bag", "word"] (spB 2 F__law_lossy)) (c__law_same : Callee P w K mg base "_law_same" 4 ["mender", "word", "first"] (spR 3 (F__law_same C_Mender))) (c__law_draw : Callee P w K mg base "_law_draw" 1 ["bag", "many"] spDraw) (c__law_letters : Callee P w K mg base "_law_letters" 3 ["bag", "p", "n"] (spB 3 F__law_letters)) (c__law_copy : Callee P w K mg base "_law_copy" 1 ["net"] (spD 1 F__law_copy)) (c__law_due : Callee P w K mg base "_law_due" 1 ["p", "word", "deed"] (spP 1 3 F__law_due)) (c__law_beside : Callee P w K mg base "_law_beside" 2 ["bag", "below"] (spB 2 F__law_beside)) (c__law_alike : Callee P w K mg base "_law_alike" 3 ["found", "due"] (spD 2 (F__law_alike 3))) (c__law_done : Callee P w K mg base "_law_done" 4 ["mender", "deed"] (spC 2 (F__law_done C_Mender C_NoPlace C_NoLetter))) (m_range : mg "range" = none) (m_list : mg "list" = none) (m_min : mg "min" = none) (m_len : mg "len" = none)  :
  FnOk P w K mg base CX0 5 f fd ["script"] (spLaw K) := by
 refine F.ok scLaw (fun vs H Q E h => ?_) (fun cdv A outer s H vs Q E hr h => ?_)
 ·obtain ⟨a, ns, rfl, hS, hl, q⟩ := h
  rfl
 obtain ⟨a, ns, rfl, hS, hl, q⟩ := h
 refine ⟨_, (@pss_cons _ _ _ _ _ (@ps_set _ _ (1) _ _ _ _ scLaw.nd rfl (Or.inl rfl) (@pe_callC _ _ _ _ _ _ _ _ _ _ c__law_bag (hr.mono (by decide)) (@pa_cons _ _ _ _ _ (pv 0) pa_nil rfl) (by rfl) (by decide) (by rfl) (by rfl)) (by rfl) (by first | exact .inl rfl | exact .inr rfl | assumption)) (@pss_cons _ _ _ _ _ (@ps_set _ _ (2) _ _ _ _ scLaw.nd rfl (Or.inl rfl) (@pe_callC _ _ _ _ _ _ _ _ _ _ c__law_prime (hr.mono (by decide)) (@pa_cons _ _ _ _ _ (pv 1) pa_nil rfl) (by rfl) (by decide) (by rfl) (by rfl)) (by rfl) (by first | exact .inl rfl | exact .inr rfl | assumption)) (@pss_cons _ _ _ _ _ (@ps_set _ _ (3) _ _ _ _ scLaw.nd rfl (Or.inl rfl) (@pe_op _ _ _ _ _ _ _ _ op_add pe_int (@pe_callC _ _ _ _ _ _ _ _ _ _ c__law_draw (hr.mono (by decide)) (@pa_cons _ _ _ _ _ (pv 1) (@pa_cons _ _ _ _ _ (@pe_ix _ _ _ _ _ _ (rIxL K) ix_list (@pe_lst _ _ _ _ (@pa_consts _ _ _ rfl)) (@pe_callC _ _ _ _ _ _ _ _ _ _ c__law_draw (hr.mono (by decide)) (@pa_cons _ _ _ _ _ (pv 1) (@pa_cons _ _ _ _ _ pe_int pa_nil rfl) rfl) (by rfl) (by decide) (by rfl) (by rfl)) (fun _ _ => rfl)) pa_nil rfl) rfl) (by rfl) (by decide) (by rfl) (by rfl))) (by rfl) (by first | exact .inl rfl | exact .inr rfl | assumption)) (@pss_cons _ _ _ _ _ (@ps_set _ _ (4) _ _ _ _ scLaw.nd rfl (Or.inl rfl) (@pe_callC _ _ _ _ _ _ _ _ _ _ c__law_net (hr.mono (by decide)) (@pa_cons _ _ _ _ _ (pv 1) (@pa_cons _ _ _ _ _ (pv 2) (@pa_cons _ _ _ _ _ (pv 3) (@pa_cons _ _ _ _ _ (@pe_callC _ _ _ _ _ _ _ _ _ _ c__law_draw (hr.mono (by decide)) (@pa_cons _ _ _ _ _ (pv 1) (@pa_cons _ _ _ _ _ pe_int pa_nil rfl) rfl) (by rfl) (by decide) (by rfl) (by rfl)) (@pa_cons _ _ _ _ _ pe_int pa_nil rfl) rfl) rfl) rfl) rfl) (by rfl) (by decide) (by rfl) (by rfl)) (by rfl) (by first | exact .inl rfl | exact .inr rfl | assumption)) (@pss_cons _ _ _ _ _ (@ps_set _ _ (5) _ _ _ _ scLaw.nd rfl (Or.inl rfl) (@pe_callC _ _ _ _ _ _ _ _ _ _ c__law_lossy (hr.mono (by decide)) (@pa_cons _ _ _ _ _ (pv 1) (@pa_cons _ _ _ _ _ (@pe_callC _ _ _ _ _ _ _ _ _ _ c__law_letters (hr.mono (by decide)) (@pa_cons _ _ _ _ _ (pv 1) (@pa_cons _ _ _ _ _ (pv 2) (@pa_cons _ _ _ _ _ (pv 3) pa_nil rfl) rfl) rfl) (by rfl) (by decide) (by rfl) (by rfl)) pa_nil rfl) rfl) (by rfl) (by decide) (by rfl) (by rfl)) (by rfl) (by first | exact .inl rfl | exact .inr rfl | assumption)) (@pss_cons _ _ _ _ _ (@ps_set _ _ (6) _ _ _ _ scLaw.nd rfl (Or.inl rfl) (@pe_makeC _ _ _ _ _ _ _ _ _ _ _ i_Mender (hr.mono (by decide)) (@pa_cons _ _ _ _ _ (@pe_callC _ _ _ _ _ _ _ _ _ _ c__law_copy (hr.mono (by decide)) (@pa_cons _ _ _ _ _ (pv 4) pa_nil rfl) (by rfl) (by decide) (by rfl) (by rfl)) (@pa_cons _ _ _ _ _ (@pe_callTy _ _ _ _ _ _ _ _ (rListOf K) call_listM rfl m_list zq45x (@pa_cons _ _ _ _ _ (pv 5) pa_nil rfl) (by decide) (by decide) (by rfl) (by rfl)) pa_nil rfl) rfl) (by rfl) (by decide) (by rfl) (by rfl)) (by rfl) (by first | exact .inl rfl | exact .inr rfl | assumption)) (@pss_cons _ _ _ _ _ (@ps_for _ _ _ _ _ _ _ _ zq92x rfl (@pi_range1 _ _ _ _ _ _ rfl m_range (@pa_cons _ _ _ _ _ (@pe_op _ _ _ _ _ _ _ _ op_add pe_int (@pe_callB _ _ _ _ _ _ _ _ _ (call_minM rfl) rfl m_min zq163x (@pa_cons _ _ _ _ _ pe_int (@pa_cons _ _ _ _ _ (@pe_callB _ _ _ _ _ _ _ _ (rLen K) call_lenM rfl m_len zq59x (@pa_cons _ _ _ _ _ (pv 0) pa_nil rfl) (by decide) (by decide) (by rfl) (by rfl)) pa_nil rfl) rfl) (by decide) (by decide) (by rfl) (by rfl))) pa_nil rfl) (by rfl)) (pg_name (i := 7) scLaw.nd rfl (Or.inl rfl)) (@pss_cons _ _ _ _ _ (@ps_set _ _ (8) _ _ _ _ scLaw.nd rfl (Or.inl rfl) (@pe_tup _ _ _ _ _ (@pa_cons _ _ _ _ _ pe_str (@pa_cons _ _ _ _ _ (@pe_callC _ _ _ _ _ _ _ _ _ _ c__law_beside (hr.mono (by decide)) (@pa_cons _ _ _ _ _ (pv 1) (@pa_cons _ _ _ _ _ (pv 3) pa_nil rfl) rfl) (by rfl) (by decide) (by rfl) (by rfl)) (@pa_cons _ _ _ _ _ pe_non pa_nil rfl) rfl) rfl)) (by rfl) (by first | exact .inl rfl | exact .inr rfl | assumption)) (@pss_cons _ _ _ _ _ (@ps_if _ _ _ _ _ _ _ _ (@pt_cmpR _ _ _ _ _ _ _ _ op_gt (@pe_callC _ _ _ _ _ _ _ _ _ _ c__law_draw (hr.mono (by decide)) (@pa_cons _ _ _ _ _ (pv 1) (@pa_cons _ _ _ _ _ pe_int pa_nil rfl) rfl) (by rfl) (by decide) (by rfl) (by rfl)) pe_int (nomark _)) (@pss_one _ _ _ (@ps_set _ _ (8) _ _ _ _ scLaw.nd rfl (Or.inl rfl) (@pe_tup _ _ _ _ _ (@pa_cons _ _ _ _ _ pe_str (@pa_cons _ _ _ _ _ (@pe_ix _ _ _ _ _ _ (rIxT K) ix_tup (pv 8) pe_int (fun _ _ => rfl)) (@pa_cons _ _ _ _ _ (@pe_callC _ _ _ _ _ _ _ _ _ _ c__law_beside (hr.mono (by decide)) (@pa_cons _ _ _ _ _ (pv 1) (@pa_cons _ _ _ _ _ (pv 2) pa_nil rfl) rfl) (by rfl) (by decide) (by rfl) (by rfl)) pa_nil rfl) rfl) rfl)) (by rfl) (by first | exact .inl rfl | exact .inr rfl | assumption))) pss_nil) (@pss_cons _ _ _ _ _ (@ps_set _ _ (9) _ _ _ _ scLaw.nd rfl (Or.inl rfl) (@pe_callC _ _ _ _ _ _ _ _ _ _ c__law_due (hr.mono (by decide)) (@pa_cons _ _ _ _ _ (pv 2) (@pa_cons _ _ _ _ _ (pv 5) (@pa_cons _ _ _ _ _ (pv 8) pa_nil rfl) rfl) rfl) (by rfl) (by decide) (by rfl) (by rfl)) (by rfl) (by first | exact .inl rfl | exact .inr rfl | assumption)) (@pss_cons _ _ _ _ _ (@ps_if _ _ _ _ _ _ _ _ (@pt_not _ _ _ _ (@pt_truthK _ (K) _ _ rfl (@pe_callC _ _ _ _ _ _ _ _ _ _ c__law_alike (hr.mono (by decide)) (@pa_cons _ _ _ _ _ (@pe_callC _ _ _ _ _ _ _ _ _ _ c__law_done (hr.mono (by decide)) (@pa_cons _ _ _ _ _ (pv 6) (@pa_cons _ _ _ _ _ (pv 8) pa_nil rfl) rfl) (by rfl) (by decide) (by rfl) (by rfl)) (@pa_cons _ _ _ _ _ (pv 9) pa_nil rfl) rfl) (by rfl) (by decide) (by rfl) (by rfl)) (fun _ => rfl))) (@pss_one _ _ _ (@ps_ret _ _ _ _ pe_bl)) pss_nil) (@pss_one _ _ _ (@ps_if _ _ _ _ _ _ _ _ (@pt_not _ _ _ _ (@pt_truthK _ (K) _ _ rfl (@pe_callC _ _ _ _ _ _ _ _ _ _ c__law_same (hr.mono (by decide)) (@pa_cons _ _ _ _ _ (pv 6) (@pa_cons _ _ _ _ _ (pv 5) (@pa_cons _ _ _ _ _ (@pe_callC _ _ _ _ _ _ _ _ _ _ c__law_draw (hr.mono (by decide)) (@pa_cons _ _ _ _ _ (pv 1) (@pa_cons _ _ _ _ _ pe_int pa_nil rfl) rfl) (by rfl) (by decide) (by rfl) (by rfl)) pa_nil rfl) rfl) rfl) (by rfl) (by decide) (by rfl) (by rfl)) (fun _ => rfl))) (@pss_one _ _ _ (@ps_ret _ _ _ _ pe_bl)) pss_nil)))))) (by intro _; rfl)) (@pss_one _ _ _ (@ps_ret _ _ _ _ (@pe_callC _ _ _ _ _ _ _ _ _ _ c__law_same (hr.mono (by decide)) (@pa_cons _ _ _ _ _ (pv 6) (@pa_cons _ _ _ _ _ (pv 5) (@pa_cons _ _ _ _ _ pe_int pa_nil rfl) rfl) rfl) (by rfl) (by decide) (by rfl) (by rfl))))))))))), ?_⟩
 walk_at "st"
 refine ⟨a, ns, rfl, hS, hl, fun b l H1 s1 f1 B1 => ?_⟩
 have hS1 := s1.seq hS
 have key : ∀ (t : TS) (D : Ends), (∀ H, D.rt (.bl true) H) -> Sv (lawG b l H1) [.raw (.ref a), .bag, .no, .no, .no, .no, .no, .no, .no, .no] t { nx := fun _ => False, rt := fun _ d => d = .bool true } -> t D [some (.ref a), some (.ref b), none, none, none, none, none, none, none, none] H1 := fun t D d2 h => h _ _ _ D (law_wdS (m := 8) B1) (law_endsR d2)
 refine R.gname ?_
 dsimp only
 refine key _ _ (fun H => ?_) ?_
 ·exact q _
 clear key q
 walk_at "dt"
 refine Ev.callB mono__law_prime rfl ?_
 walk_at "dt"
 refine ⟨rfl, fun p hp p40 f2 => ?_⟩
 have p2 := hp.1
 walk_at "dt"
 intro w w0 w1
 obtain ⟨m, em, m0, m1⟩ := pick (L := [9, 9, 9, 400]) w0 (by show w < 4; omega) (fun x => 1 <= x /\ x <= 400) (by decide)
 refine ⟨_, rfl, _, em, ?_⟩
 walk_at "dt"
 intro r r0 r1
 obtain ⟨n, en, n0, n1⟩ : ∃ n : Int, 1 + r = n /\ 1 <= n /\ n <= 400 := ⟨_, rfl, by omega, by omega⟩
 refine ⟨_, rfl, Gv.nameI ?_⟩
 rw [en]
 walk_at "dt"
 refine Ev.callB mono__law_net rfl ?_
 walk_at "dt"
 intro g g0 g1
 walk_at "dt"
 refine ⟨rfl, p, n, g, 3, rfl, hp, p40, n0, by omega, g0, by omega, by decide, by decide, fun cs f4 hcl hck => ?_⟩
 refine Gv.nameF ?_
 refine Sv.seq ?_
 refine Sv.asgN (EvF.evS (EvF.callB mono__law_lossy rfl ?_))
 walk_at "dt"
 refine Ev.callB mono__law_letters rfl ?_
 walk_at "dt"
 refine ⟨rfl, p, n, rfl, p2, p40, by omega, by omega, fun os hol hor => ?_⟩
 walk_at "dt"
 refine ⟨rfl, os, rfl, by omega, fun ld hld => ⟨rfl, _, rfl, scAll_opts ld, fun A5 => ?_⟩⟩
 have hld1 := hld.1
 refine Sv.seq ?_
 refine Sv.make mono_Mender___init__ ?_
 refine Av.cons ?_
 refine Ev.callD mono__law_copy ?_
 walk_at "dt"
 refine ⟨rfl, p, n, cs, rfl, by omega, fun f2 => ?_⟩
 walk_at "dt"
 refine ⟨rfl, fun x dx => ⟨x, dx, p, n, cs, ld, rfl, rfl, by omega, fun prs hp => by have := (hck prs hp).2.1; omega, fun l9 => ⟨rfl, ?_⟩⟩⟩
 refine Sv.seq ?_
 refine Sv.forR1 ?_
 walk_at "dt"
 refine ⟨fun i ρ => ∃ (wd : Wo) (f5 : Bool) (x7 x8 x9 : Sl), (wd.length : Int) = n /\ ρ = r23 a p n cs (.own A5 f5 (wd.map optD)) (.cu (insCu C_Mender x dx (mdF (netD p n cs) l9 wd))) x7 x8 x9, ⟨ld, _, _, _, _, by omega, rfl⟩, ?_, ?_⟩
 ·rintro i e ρ ⟨hi, rfl⟩ ⟨wd, f5, x7, x8, x9, hwl, rfl⟩
  refine Gv.nameI ?_
  walk_at "dt"
  refine Ev.callB mono__law_beside rfl ?_
  walk_at "dt"
  refine ⟨rfl, n, rfl, n0, by omega, fun f8 a9 ha9 => ?_⟩
  generalize htl : (tSeq (tIfS _ (tAsg _ (gName 8)) _) _ : TS) = tl
  walk_at "dt"
  subst htl
  refine Sv.seq ?_
  refine Sv.conseq (fun ρ' => ∃ (lose : Bool) (b9 : Int) (f8 : Bool), ρ' = r23 a p n cs (.own A5 f5 (wd.map optD)) (.cu (insCu C_Mender x dx (mdF (netD p n cs) l9 wd))) (.d true (.int (0 + (i : Int)))) (.d f8 (deedD lose a9 b9)) x9) ?_ ?_
  ·refine Sv.ifS ?_
   walk_at "dt"
   intro d3 d30 d31
   by_cases c : 0 < d3
   ·walk_at "dt"
    refine Ev.callB mono__law_beside rfl ?_
    walk_at "dt"
    refine ⟨rfl, p, rfl, by omega, by omega, fun f8 b9 hb9 => ?_⟩
    walk_at "dt"
    exact ⟨false, b9, _, rfl⟩
   ·walk_at "dt"
    exact ⟨true, 0, _, rfl⟩
  rintro ρ ⟨lose, b9, f8, rfl⟩
  refine Sv.seq ?_
  refine Sv.asgS (EvS.callP1 mono__law_due rfl ?_)
  refine Ev.var rfl ?_
  refine Ev.var rfl ?_
  refine ⟨A5, wd, lose, p, a9, b9, rfl, rfl, by omega, ?_⟩
  by_cases c : 0 <= a9 /\ a9 < wd.length
  ·by_cases c2 : lose = false /\ ¬ (0 <= b9 /\ b9 < p)
   ·rw [if_pos c, if_pos c2]
    refine ⟨_, rfl, ?_⟩
    refine Gv.name ?_
    refine Sv.seq ?_
    refine Sv.ifSS ?_
    refine TvS.not ?_
    refine TvS.truB ?_
    refine EvS.callD (mono__law_alike 3) ?_
    refine AvS.cons (EvS.callC mono__law_done rfl rfl ?_)
    walk_at "dt"
    refine ⟨rfl, x, dx, l9, lose, p, n, a9, b9, cs, wd, rfl, rfl, hwl, ?_⟩
    rw [if_pos (by omega), if_pos c2]
    walk_at "dt"
    refine ⟨outD ["NoLetter"], rfl, alike_out _ (by decide), _, rfl, ?_⟩
    rw [if_neg (by decide)]
    refine Sv.next ?_
    refine Sv.ifS ?_
    walk_at "dt"
    refine Ev.callR mono__law_same rfl rfl ?_
    refine AvL.own rfl ?_
    refine AvL.cons (Ev.draw rfl ?_)
    walk_at "dt"
    intro s9 s90 s91
    refine AvL.nil ?_
    refine ⟨rfl, x, dx, l9, netD p n cs, wd, s9, rfl, rfl, s90, by omega, by omega, by omega, .inl rfl, _, rfl, ?_⟩
    rw [if_neg (by decide)]
    refine Sv.next ?_
    exact ⟨wd, _, _, _, _, by omega, rfl⟩
   ·rw [if_pos c, if_neg c2]
    refine ⟨_, rfl, ?_⟩
    refine Gv.name ?_
    refine Sv.seq ?_
    refine Sv.ifSS ?_
    refine TvS.not ?_
    refine TvS.truB ?_
    refine EvS.callD (mono__law_alike 3) ?_
    refine AvS.cons (EvS.callC mono__law_done rfl rfl ?_)
    walk_at "dt"
    refine ⟨rfl, x, dx, l9, lose, p, n, a9, b9, cs, wd, rfl, rfl, hwl, ?_⟩
    rw [if_pos (by omega), if_neg c2]
    walk_at "dt"
    refine ⟨outD [], rfl, alike_out _ (by decide), _, rfl, ?_⟩
    rw [if_neg (by decide)]
    refine Sv.next ?_
    refine Sv.ifS ?_
    walk_at "dt"
    refine Ev.callR mono__law_same rfl rfl ?_
    refine AvL.own rfl ?_
    refine AvL.cons (Ev.draw rfl ?_)
    walk_at "dt"
    intro s9 s90 s91
    refine AvL.nil ?_
    refine ⟨rfl, x, dx, l9, netD p n cs, (wd.set a9.toNat (if lose then none else some b9)), s9, rfl, rfl, s90, by omega, by rw [zq34x]; omega, by rw [zq34x]; omega, .inl rfl, _, rfl, ?_⟩
    rw [if_neg (by decide)]
    refine Sv.next ?_
    exact ⟨(wd.set a9.toNat (if lose then none else some b9)), _, _, _, _, by rw [zq34x]; omega, rfl⟩
  ·rw [if_neg c]
   refine ⟨_, rfl, ?_⟩
   refine Gv.name ?_
   refine Sv.seq ?_
   refine Sv.ifSS ?_
   refine TvS.not ?_
   refine TvS.truB ?_
   refine EvS.callD (mono__law_alike 3) ?_
   refine AvS.cons (EvS.callC mono__law_done rfl rfl ?_)
   walk_at "dt"
   refine ⟨rfl, x, dx, l9, lose, p, n, a9, b9, cs, wd, rfl, rfl, hwl, ?_⟩
   rw [if_neg (by omega)]
   walk_at "dt"
   refine ⟨outD ["NoPlace"], rfl, alike_out _ (by decide), _, rfl, ?_⟩
   rw [if_neg (by decide)]
   refine Sv.next ?_
   refine Sv.ifS ?_
   walk_at "dt"
   refine Ev.callR mono__law_same rfl rfl ?_
   refine AvL.own rfl ?_
   refine AvL.cons (Ev.draw rfl ?_)
   walk_at "dt"
   intro s9 s90 s91
   refine AvL.nil ?_
   refine ⟨rfl, x, dx, l9, netD p n cs, wd, s9, rfl, rfl, s90, by omega, by omega, by omega, .inl rfl, _, rfl, ?_⟩
   rw [if_neg (by decide)]
   refine Sv.next ?_
   exact ⟨wd, _, _, _, _, by omega, rfl⟩
 rintro ρ ⟨wd, f5, x7, x8, x9, hwl, rfl⟩
 refine Sv.ret ?_
 refine Ev.callR mono__law_same rfl rfl ?_
 refine AvL.own rfl ?_
 refine AvL.cons ?_
 walk_at "dt"
 refine AvL.nil ?_
 exact ⟨rfl, x, dx, l9, netD p n cs, wd, 0, rfl, rfl, by decide, by decide, by omega, by omega, .inl rfl, rfl⟩
end
local macro_rules | `(tactic| walk_at "bn") => `(tactic| (intro _ _ _ _ _ _ us hl; first | (obtain ⟨_, h⟩ := ln1 hl; subst h; rfl) | (obtain ⟨_, _, h⟩ := ln2 hl; subst h; rfl) | (obtain ⟨_, _, _, h⟩ := ln3 hl; subst h; rfl) | (obtain ⟨_, _, _, _, h⟩ := ln4 hl; subst h; rfl) | (obtain ⟨_, _, _, _, _, h⟩ := ln5 hl; subst h; rfl) | (obtain ⟨_, _, _, _, _, _, h⟩ := ln6 hl; subst h; rfl) | (obtain ⟨_, _, _, _, _, _, _, h⟩ := ln7 hl; subst h; rfl)))
theorem all_mk : AllMk := by
 intro l w K h mg fa f0 f1 f2 f3 f4 f5 f6 f7 f8 f9 f10 f11 f12 f13 f14 f15 f16 f17 f18 f19 f20 f21 f22 f23 f24 f25 f26 f27 f28 X G hfa od23 an23 sl23 oc23 kV23 dc23 pm23 cd23 ct23 od24 an24 sl24 oc24 kV24 dc24 pm24 cd24 ct24 od25 an25 sl25 oc25 kV25 dc25 pm25 cd25 ct25 od26 an26 sl26 oc26 kV26 dc26 pm26 cd26 ct26 od27 an27 sl27 oc27 kV27 dc27 pm27 cd27 ct27 od28 an28 sl28 oc28 kV28 dc28 pm28 cd28 ct28 C_Mender aC_Mender pg_Mender hd_Mender po_Mender sa_Mender mk_Mender kc_Mender C_NetError xa_NetError C_NoPlace xa_NoPlace C_NoLetter xa_NoLetter C_NoCheck xa_NoCheck C_NoDeed xa_NoDeed C_NoNet xn_NoNet C_NoText xa_NoText C_NotFormed xa_NotFormed kit_NoPlace_NoPlace kit_NoPlace_NoLetter kit_NoPlace_NoCheck kit_NoPlace_NoDeed kit_NoPlace_NoNet kit_NoPlace_NoText kit_NoPlace_NotFormed kit_NoPlace_ValueError kit_NoLetter_NoPlace kit_NoLetter_NoLetter kit_NoLetter_NoCheck kit_NoLetter_NoDeed kit_NoLetter_NoNet kit_NoLetter_NoText kit_NoLetter_NotFormed kit_NoLetter_ValueError na_Mender_net na_Mender_letters d0 d1 d2 d3 d4 d5 d6 d7 d8 d9 d10 d11 d12 d13 d14 d15 d16 d17 d18 d19 d20 d21 d22 a23 l23 c23 k23 a24 i24 l24 c24 k24 a25 i25 l25 c25 k25 a26 i26 l26 c26 k26 a27 i27 l27 c27 k27 a28 i28 l28 c28 k28 z_ValueError z_abs z_all z_bool z_enumerate z_int z_isinstance z_len z_list z_min z_range z_set z_sorted z_str z_tuple
 have e := hfa.symm.trans (zq7x X G a23)
 cases e
 obtain ⟨a0, _, F0⟩ := d0
 have b0 := F0.binds (ps := ["n", "place"]) (by walk_at "bn")
 obtain ⟨a1, _, F1⟩ := d1
 have b1 := F1.binds (ps := ["p", "letter"]) (by walk_at "bn")
 obtain ⟨a2, _, F2⟩ := d2
 have b2 := F2.binds (ps := ["p", "letter"]) (by walk_at "bn")
 obtain ⟨a3, _, F3⟩ := d3
 have b3 := F3.binds (ps := ["word"]) (by walk_at "bn")
 obtain ⟨a4, _, F4⟩ := d4
 have b4 := F4.binds (ps := ["net"]) (by walk_at "bn")
 obtain ⟨a5, _, F5⟩ := d5
 have b5 := F5.binds (ps := ["script"]) (by walk_at "bn")
 obtain ⟨a6, _, F6⟩ := d6
 have b6 := F6.binds (ps := ["bag", "many"]) (by walk_at "bn")
 obtain ⟨a7, _, F7⟩ := d7
 have b7 := F7.binds (ps := ["number"]) (by walk_at "bn")
 obtain ⟨a8, _, F8⟩ := d8
 have b8 := F8.binds (ps := ["bag"]) (by walk_at "bn")
 obtain ⟨a9, _, F9⟩ := d9
 have b9 := F9.binds (ps := ["bag", "p"]) (by walk_at "bn")
 obtain ⟨a10, _, F10⟩ := d10
 have b10 := F10.binds (ps := ["bag", "p"]) (by walk_at "bn")
 obtain ⟨a11, _, F11⟩ := d11
 have b11 := F11.binds (ps := ["bag", "p", "n"]) (by walk_at "bn")
 obtain ⟨a12, _, F12⟩ := d12
 have b12 := F12.binds (ps := ["bag", "n", "wide"]) (by walk_at "bn")
 obtain ⟨a13, _, F13⟩ := d13
 have b13 := F13.binds (ps := ["bag", "p", "n", "many", "wide"]) (by walk_at "bn")
 obtain ⟨a14, _, F14⟩ := d14
 have b14 := F14.binds (ps := ["bag", "word"]) (by walk_at "bn")
 obtain ⟨a15, _, F15⟩ := d15
 have b15 := F15.binds (ps := ["net"]) (by walk_at "bn")
 obtain ⟨a16, _, F16⟩ := d16
 have b16 := F16.binds (ps := ["found", "due"]) (by walk_at "bn")
 obtain ⟨a17, _, F17⟩ := d17
 have b17 := F17.binds (ps := ["word"]) (by walk_at "bn")
 obtain ⟨a18, _, F18⟩ := d18
 have b18 := F18.binds (ps := ["caught"]) (by walk_at "bn")
 obtain ⟨a19, _, F19⟩ := d19
 have b19 := F19.binds (ps := ["bag", "below"]) (by walk_at "bn")
 obtain ⟨a20, _, F20⟩ := d20
 have b20 := F20.binds (ps := ["mender", "deed"]) (by walk_at "bn")
 obtain ⟨a21, _, F21⟩ := d21
 have b21 := F21.binds (ps := ["p", "word", "deed"]) (by walk_at "bn")
 obtain ⟨a22, _, F22⟩ := d22
 have b22 := F22.binds (ps := ["mender", "word", "first"]) (by walk_at "bn")
 have F23 := fun_mk (st := sLaw) l23 c23 k23
 have F24 := fun_mk (st := sMenderInit) l24 c24 k24
 have b24 := F24.binds (ps := ["self", "net", "word"]) (by walk_at "bn")
 have F25 := fun_mk (st := sMenderLose) l25 c25 k25
 have b25 := F25.binds (ps := ["self", "place"]) (by walk_at "bn")
 have F26 := fun_mk (st := sMenderPut) l26 c26 k26
 have b26 := F26.binds (ps := ["self", "place", "letter"]) (by walk_at "bn")
 have F27 := fun_mk (st := sMenderWord) l27 c27 k27
 have b27 := F27.binds (ps := ["self"]) (by walk_at "bn")
 have F28 := fun_mk (st := sMenderLost) l28 c28 k28
 have b28 := F28.binds (ps := ["self"]) (by walk_at "bn")
 have cl_Mender : Cls K C_Mender := ⟨pg_Mender, hd_Mender, po_Mender, sa_Mender⟩
 have x_NetError := xa_NetError.2
 have gx_NetError := zq7x X G xa_NetError.1
 have x_NoPlace := xa_NoPlace.2
 have gx_NoPlace := zq7x X G xa_NoPlace.1
 have x_NoLetter := xa_NoLetter.2
 have gx_NoLetter := zq7x X G xa_NoLetter.1
 have x_NoCheck := xa_NoCheck.2
 have gx_NoCheck := zq7x X G xa_NoCheck.1
 have x_NoDeed := xa_NoDeed.2
 have gx_NoDeed := zq7x X G xa_NoDeed.1
 have gx_NoNet := zq7x X G xn_NoNet
 have x_NoText := xa_NoText.2
 have gx_NoText := zq7x X G xa_NoText.1
 have x_NotFormed := xa_NotFormed.2
 have gx_NotFormed := zq7x X G xa_NotFormed.1
 have m_ValueError := zq33x X G z_ValueError
 have m_abs := zq33x X G z_abs
 have m_all := zq33x X G z_all
 have m_bool := zq33x X G z_bool
 have m_enumerate := zq33x X G z_enumerate
 have m_int := zq33x X G z_int
 have m_isinstance := zq33x X G z_isinstance
 have m_len := zq33x X G z_len
 have m_list := zq33x X G z_list
 have m_min := zq33x X G z_min
 have m_range := zq33x X G z_range
 have m_set := zq33x X G z_set
 have m_sorted := zq33x X G z_sorted
 have m_str := zq33x X G z_str
 have m_tuple := zq33x X G z_tuple
 refine ⟨PySem.W.fnOf "law" "law" (defArgs sLaw) (defBody sLaw) (defScope sLaw) .none kV23 dc23 pm23 an23 cd23 ct23, fun s v => .of_eq rfl, fun base _ _ => ?_⟩
 have C_ask_place := XCallee.mk' F0 (ok_ask_place (P := l.prog) (w := w) (base := base) F0 x_NetError gx_NetError x_NoPlace gx_NoPlace) b0 (zq7x X G a0)
 have C_is_letter := Callee.mk' F1 (ok_is_letter (P := l.prog) (w := w) (base := base) F1) b1 (zq7x X G a1)
 have C_ask_letter := XCallee.mk' F2 (ok_ask_letter (P := l.prog) (w := w) (base := base) F2 x_NetError gx_NetError x_NoLetter gx_NoLetter C_is_letter) b2 (zq7x X G a2)
 have C_lost_of := Callee.mk' F3 (ok_lost_of (P := l.prog) (w := w) (base := base) F3 m_enumerate) b3 (zq7x X G a3)
 have C_copied := Callee.mk' F4 (ok_copied (P := l.prog) (w := w) (base := base) F4 m_list) b4 (zq7x X G a4)
 have C__law_bag := Callee.mk' F5 (ok__law_bag (P := l.prog) (w := w) (base := base) F5 m_abs) b5 (zq7x X G a5)
 have C__law_draw := Callee.mk' F6 (ok__law_draw (P := l.prog) (w := w) (base := base) F6 m_len) b6 (zq7x X G a6)
 have C__law_prime_from := Callee.mk' F7 (ok__law_prime_from (P := l.prog) (w := w) (base := base) F7 m_range) b7 (zq7x X G a7)
 have C__law_prime := Callee.mk' F8 (ok__law_prime (P := l.prog) (w := w) (base := base) F8 C__law_draw C__law_prime_from) b8 (zq7x X G a8)
 have C__law_letter := Callee.mk' F9 (ok__law_letter (P := l.prog) (w := w) (base := base) F9 C__law_draw) b9 (zq7x X G a9)
 have C__law_factor := Callee.mk' F10 (ok__law_factor (P := l.prog) (w := w) (base := base) F10 C__law_draw) b10 (zq7x X G a10)
 have C__law_letters := Callee.mk' F11 (ok__law_letters (P := l.prog) (w := w) (base := base) F11 C__law_draw C__law_letter m_range m_int m_min) b11 (zq7x X G a11)
 have C__law_places := Callee.mk' F12 (ok__law_places (P := l.prog) (w := w) (base := base) F12 C__law_draw m_sorted m_list m_set m_range) b12 (zq7x X G a12)
 have C__law_net := Callee.mk' F13 (ok__law_net (P := l.prog) (w := w) (base := base) F13 C__law_factor C__law_places C__law_draw m_range m_list m_len) b13 (zq7x X G a13)
 have C__law_lossy := Callee.mk' F14 (ok__law_lossy (P := l.prog) (w := w) (base := base) F14 C__law_draw) b14 (zq7x X G a14)
 have C__law_copy := Callee.mk' F15 (ok__law_copy (P := l.prog) (w := w) (base := base) F15 m_list) b15 (zq7x X G a15)
 have C__law_alike_0 := Callee.void (P := l.prog) (w := w) (base := base) (k := 0) (sp := spD 2 (F__law_alike 0)) F16 b16 (zq7x X G a16) void__law_alike
 have C__law_alike_1 := Callee.mk' F16 (ok__law_alike (P := l.prog) (w := w) (base := base) 0 F16 C__law_alike_0 m_isinstance m_list m_tuple m_all m_len m_bool m_int m_str m_range) b16 (zq7x X G a16)
 have C__law_alike_2 := Callee.mk' F16 (ok__law_alike (P := l.prog) (w := w) (base := base) 1 F16 C__law_alike_1 m_isinstance m_list m_tuple m_all m_len m_bool m_int m_str m_range) b16 (zq7x X G a16)
 have C__law_alike_3 := Callee.mk' F16 (ok__law_alike (P := l.prog) (w := w) (base := base) 2 F16 C__law_alike_2 m_isinstance m_list m_tuple m_all m_len m_bool m_int m_str m_range) b16 (zq7x X G a16)
 have C__law_alike := C__law_alike_3
 have C__law_lost := Callee.mk' F17 (ok__law_lost (P := l.prog) (w := w) (base := base) F17 m_range m_len) b17 (zq7x X G a17)
 have C__law_kinds := Callee.mk' F18 (ok__law_kinds (P := l.prog) (w := w) (base := base) F18 x_NetError gx_NetError x_NoPlace gx_NoPlace x_NoLetter gx_NoLetter x_NoCheck gx_NoCheck x_NoDeed gx_NoDeed gx_NoNet x_NoText gx_NoText x_NotFormed gx_NotFormed kit_NoPlace_NoPlace kit_NoPlace_NoLetter kit_NoPlace_NoCheck kit_NoPlace_NoDeed kit_NoPlace_NoNet kit_NoPlace_NoText kit_NoPlace_NotFormed kit_NoPlace_ValueError kit_NoLetter_NoPlace kit_NoLetter_NoLetter kit_NoLetter_NoCheck kit_NoLetter_NoDeed kit_NoLetter_NoNet kit_NoLetter_NoText kit_NoLetter_NotFormed kit_NoLetter_ValueError m_isinstance m_range m_ValueError) b18 (zq7x X G a18)
 have C__law_beside := Callee.mk' F19 (ok__law_beside (P := l.prog) (w := w) (base := base) F19 C__law_draw) b19 (zq7x X G a19)
 have C_Mender_lose : XMCallee l.prog w K mg base C_Mender "lose" 2 ["self", "place"] (spCX 2 (F_Mender_lose C_Mender C_NoPlace)) := ⟨cl_Mender, f25, _, ok_Mender_lose (P := l.prog) (w := w) (base := base) F25 cl_Mender na_Mender_letters na_Mender_net x_NetError gx_NetError x_NoPlace gx_NoPlace C_ask_place, b25, ⟨a25, i25, k25⟩⟩
 have C_Mender_put : XMCallee l.prog w K mg base C_Mender "put" 3 ["self", "place", "letter"] (spCX 3 (F_Mender_put C_Mender C_NoPlace C_NoLetter)) := ⟨cl_Mender, f26, _, ok_Mender_put (P := l.prog) (w := w) (base := base) F26 cl_Mender na_Mender_letters na_Mender_net x_NetError gx_NetError x_NoPlace gx_NoPlace x_NoLetter gx_NoLetter C_ask_place C_ask_letter, b26, ⟨a26, i26, k26⟩⟩
 have C__law_done := Callee.mk' F20 (ok__law_done (P := l.prog) (w := w) (base := base) F20 x_NetError gx_NetError x_NoPlace gx_NoPlace x_NoLetter gx_NoLetter C_Mender_lose C_Mender_put C__law_kinds) b20 (zq7x X G a20)
 have C__law_due := Callee.mk' F21 (ok__law_due (P := l.prog) (w := w) (base := base) F21 m_len) b21 (zq7x X G a21)
 have C_Mender_word : MCallee l.prog w K mg base C_Mender "word" 1 ["self"] (spR 1 (F_Mender_word C_Mender)) := ⟨cl_Mender, f27, _, ok_Mender_word (P := l.prog) (w := w) (base := base) F27 cl_Mender na_Mender_letters m_list, b27, ⟨a27, i27, k27⟩⟩
 have C_Mender_lost : MCallee l.prog w K mg base C_Mender "lost" 2 ["self"] (spR 1 (F_Mender_lost C_Mender)) := ⟨cl_Mender, f28, _, ok_Mender_lost (P := l.prog) (w := w) (base := base) F28 cl_Mender na_Mender_letters C_lost_of, b28, ⟨a28, i28, k28⟩⟩
 have C__law_same := Callee.mk' F22 (ok__law_same (P := l.prog) (w := w) (base := base) F22 C_Mender_word C_Mender_lost C__law_alike C__law_lost m_range) b22 (zq7x X G a22)
 have I_Mender : ICallee l.prog w K mg base C_Mender "Mender" 2 ["self", "net", "word"] (spC 3 (F_Mender___init__ C_Mender)) := ⟨f24, _, ok_Mender___init__ (P := l.prog) (w := w) (base := base) F24 cl_Mender na_Mender_net na_Mender_letters C_copied m_list, b24, ⟨mk_Mender, a24, i24, kc_Mender⟩, zq7x X G aC_Mender⟩
 exact ok_law F23 I_Mender C__law_bag C__law_prime C__law_net C__law_lossy C__law_same C__law_draw C__law_letters C__law_copy C__law_due C__law_beside C__law_alike C__law_done m_range m_list m_min m_len
end K23
section
open PySem PySem.W PyProof.Rows
set_option maxRecDepth 100000 in
set_option maxHeartbeats 0 in
theorem PySem.Challenge.cw_fewchecks_k23_letters_lost_and_put_holds : PySem.Challenge.rw_fewchecks_k23_letters_lost_and_put.Holds := by
 w_on
 o_law
 k_head
 (case hw => w_witness2)
 k_fill
 refine K23.walk (l := PySem.Challenge.rw_fewchecks_k23_letters_lost_and_put) rfl rfl (fun w h Y => PySem.W.kIn_of Y) ?F
 case F =>
  intro w mg fa h KX G hmg
  refine' K23.all_mk KX G hmg ?aC_Mender ?pg_Mender ?hd_Mender ?po_Mender ?sa_Mender ?mk_Mender ?kc_Mender ?xa_NetError ?xa_NoPlace ?xa_NoLetter ?xa_NoCheck ?xa_NoDeed ?xn_NoNet ?xa_NoText ?xa_NotFormed ?kit_NoPlace_NoPlace ?kit_NoPlace_NoLetter ?kit_NoPlace_NoCheck ?kit_NoPlace_NoDeed ?kit_NoPlace_NoNet ?kit_NoPlace_NoText ?kit_NoPlace_NotFormed ?kit_NoPlace_ValueError ?kit_NoLetter_NoPlace ?kit_NoLetter_NoLetter ?kit_NoLetter_NoCheck ?kit_NoLetter_NoDeed ?kit_NoLetter_NoNet ?kit_NoLetter_NoText ?kit_NoLetter_NotFormed ?kit_NoLetter_ValueError ?na_Mender_net ?na_Mender_letters ?d0 ?d1 ?d2 ?d3 ?d4 ?d5 ?d6 ?d7 ?d8 ?d9 ?d10 ?d11 ?d12 ?d13 ?d14 ?d15 ?d16 ?d17 ?d18 ?d19 ?d20 ?d21 ?d22 ?a23 ?l23 ?c23 ?k23 ?a24 ?i24 ?l24 ?c24 ?k24 ?a25 ?i25 ?l25 ?c25 ?k25 ?a26 ?i26 ?l26 ?c26 ?k26 ?a27 ?i27 ?l27 ?c27 ?k27 ?a28 ?i28 ?l28 ?c28 ?k28 ?z_ValueError ?z_abs ?z_all ?z_bool ?z_enumerate ?z_int ?z_isinstance ?z_len ?z_list ?z_min ?z_range ?z_set ?z_sorted ?z_str ?z_tuple
  (case aC_Mender => k_is)
  (case pg_Mender => k_is)
  (case hd_Mender => k_is)
  (case po_Mender => k_is)
  (case sa_Mender => k_is)
  (case mk_Mender => k_is)
  (case kc_Mender => k_is)
  (case xa_NetError => refine' L2.XcAt.mk0 ?qa ?qo ?qi ?qj ?qgg ?qgt ?qgc; (case qa => k_is); (case qo => k_is); (case qi => k_is); (case qj => first | rfl | kernel_rfl | decide +kernel); (case qgg => k_is); (case qgt => k_is); (case qgc => k_is))
  (case xa_NoPlace => refine' L2.XcAt.mk1 ?qoA ?qiA ?qjA ?qa ?qo ?qi ?qj ?qgg ?qgt ?qgc; (case qa => k_is); (case qoA => k_is); (case qiA => k_is); (case qjA => first | rfl | kernel_rfl | decide +kernel); (case qo => k_is); (case qi => k_is); (case qj => first | rfl | kernel_rfl | decide +kernel); (case qgg => k_is); (case qgt => k_is); (case qgc => k_is))
  (case xa_NoLetter => refine' L2.XcAt.mk1 ?qoA ?qiA ?qjA ?qa ?qo ?qi ?qj ?qgg ?qgt ?qgc; (case qa => k_is); (case qoA => k_is); (case qiA => k_is); (case qjA => first | rfl | kernel_rfl | decide +kernel); (case qo => k_is); (case qi => k_is); (case qj => first | rfl | kernel_rfl | decide +kernel); (case qgg => k_is); (case qgt => k_is); (case qgc => k_is))
  (case xa_NoCheck => refine' L2.XcAt.mk1 ?qoA ?qiA ?qjA ?qa ?qo ?qi ?qj ?qgg ?qgt ?qgc; (case qa => k_is); (case qoA => k_is); (case qiA => k_is); (case qjA => first | rfl | kernel_rfl | decide +kernel); (case qo => k_is); (case qi => k_is); (case qj => first | rfl | kernel_rfl | decide +kernel); (case qgg => k_is); (case qgt => k_is); (case qgc => k_is))
  (case xa_NoDeed => refine' L2.XcAt.mk1 ?qoA ?qiA ?qjA ?qa ?qo ?qi ?qj ?qgg ?qgt ?qgc; (case qa => k_is); (case qoA => k_is); (case qiA => k_is); (case qjA => first | rfl | kernel_rfl | decide +kernel); (case qo => k_is); (case qi => k_is); (case qj => first | rfl | kernel_rfl | decide +kernel); (case qgg => k_is); (case qgt => k_is); (case qgc => k_is))
  (case xn_NoNet => k_is)
  (case xa_NoText => refine' L2.XcAt.mk1 ?qoA ?qiA ?qjA ?qa ?qo ?qi ?qj ?qgg ?qgt ?qgc; (case qa => k_is); (case qoA => k_is); (case qiA => k_is); (case qjA => first | rfl | kernel_rfl | decide +kernel); (case qo => k_is); (case qi => k_is); (case qj => first | rfl | kernel_rfl | decide +kernel); (case qgg => k_is); (case qgt => k_is); (case qgc => k_is))
  (case xa_NotFormed => refine' L2.XcAt.mk1 ?qoA ?qiA ?qjA ?qa ?qo ?qi ?qj ?qgg ?qgt ?qgc; (case qa => k_is); (case qoA => k_is); (case qiA => k_is); (case qjA => first | rfl | kernel_rfl | decide +kernel); (case qo => k_is); (case qi => k_is); (case qj => first | rfl | kernel_rfl | decide +kernel); (case qgg => k_is); (case qgt => k_is); (case qgc => k_is))
  (case kit_NoPlace_NoPlace => refine' L2.kit_ref ?qo ?qp ?qb; (case qo => k_is); (case qp => k_is); (case qb => first | rfl | decide +kernel))
  (case kit_NoPlace_NoLetter => refine' L2.kit_ref ?qo ?qp ?qb; (case qo => k_is); (case qp => k_is); (case qb => first | rfl | decide +kernel))
  (case kit_NoPlace_NoCheck => refine' L2.kit_ref ?qo ?qp ?qb; (case qo => k_is); (case qp => k_is); (case qb => first | rfl | decide +kernel))
  (case kit_NoPlace_NoDeed => refine' L2.kit_ref ?qo ?qp ?qb; (case qo => k_is); (case qp => k_is); (case qb => first | rfl | decide +kernel))
  (case kit_NoPlace_NoNet => refine' L2.kit_ref ?qo ?qp ?qb; (case qo => k_is); (case qp => k_is); (case qb => first | rfl | decide +kernel))
  (case kit_NoPlace_NoText => refine' L2.kit_ref ?qo ?qp ?qb; (case qo => k_is); (case qp => k_is); (case qb => first | rfl | decide +kernel))
  (case kit_NoPlace_NotFormed => refine' L2.kit_ref ?qo ?qp ?qb; (case qo => k_is); (case qp => k_is); (case qb => first | rfl | decide +kernel))
  (case kit_NoPlace_ValueError => refine' L2.kit_val ?qo ?qb; (case qo => k_is); (case qb => first | rfl | decide +kernel))
  (case kit_NoLetter_NoPlace => refine' L2.kit_ref ?qo ?qp ?qb; (case qo => k_is); (case qp => k_is); (case qb => first | rfl | decide +kernel))
  (case kit_NoLetter_NoLetter => refine' L2.kit_ref ?qo ?qp ?qb; (case qo => k_is); (case qp => k_is); (case qb => first | rfl | decide +kernel))
  (case kit_NoLetter_NoCheck => refine' L2.kit_ref ?qo ?qp ?qb; (case qo => k_is); (case qp => k_is); (case qb => first | rfl | decide +kernel))
  (case kit_NoLetter_NoDeed => refine' L2.kit_ref ?qo ?qp ?qb; (case qo => k_is); (case qp => k_is); (case qb => first | rfl | decide +kernel))
  (case kit_NoLetter_NoNet => refine' L2.kit_ref ?qo ?qp ?qb; (case qo => k_is); (case qp => k_is); (case qb => first | rfl | decide +kernel))
  (case kit_NoLetter_NoText => refine' L2.kit_ref ?qo ?qp ?qb; (case qo => k_is); (case qp => k_is); (case qb => first | rfl | decide +kernel))
  (case kit_NoLetter_NotFormed => refine' L2.kit_ref ?qo ?qp ?qb; (case qo => k_is); (case qp => k_is); (case qb => first | rfl | decide +kernel))
  (case kit_NoLetter_ValueError => refine' L2.kit_val ?qo ?qb; (case qo => k_is); (case qb => first | rfl | decide +kernel))
  (case na_Mender_net => k_is)
  (case na_Mender_letters => k_is)
  (case d0 => refine' L2.DfAt.mk ?qa ?ql ?qc ?qk; (case qa => k_is); (case ql => k_is); (case qc => k_is); (case qk => k_is))
  (case d1 => refine' L2.DfAt.mk ?qa ?ql ?qc ?qk; (case qa => k_is); (case ql => k_is); (case qc => k_is); (case qk => k_is))
  (case d2 => refine' L2.DfAt.mk ?qa ?ql ?qc ?qk; (case qa => k_is); (case ql => k_is); (case qc => k_is); (case qk => k_is))
  (case d3 => refine' L2.DfAt.mk ?qa ?ql ?qc ?qk; (case qa => k_is); (case ql => k_is); (case qc => k_is); (case qk => k_is))
  (case d4 => refine' L2.DfAt.mk ?qa ?ql ?qc ?qk; (case qa => k_is); (case ql => k_is); (case qc => k_is); (case qk => k_is))
  (case d5 => refine' L2.DfAt.mk ?qa ?ql ?qc ?qk; (case qa => k_is); (case ql => k_is); (case qc => k_is); (case qk => k_is))
  (case d6 => refine' L2.DfAt.mk ?qa ?ql ?qc ?qk; (case qa => k_is); (case ql => k_is); (case qc => k_is); (case qk => k_is))
  (case d7 => refine' L2.DfAt.mk ?qa ?ql ?qc ?qk; (case qa => k_is); (case ql => k_is); (case qc => k_is); (case qk => k_is))
  (case d8 => refine' L2.DfAt.mk ?qa ?ql ?qc ?qk; (case qa => k_is); (case ql => k_is); (case qc => k_is); (case qk => k_is))
  (case d9 => refine' L2.DfAt.mk ?qa ?ql ?qc ?qk; (case qa => k_is); (case ql => k_is); (case qc => k_is); (case qk => k_is))
  (case d10 => refine' L2.DfAt.mk ?qa ?ql ?qc ?qk; (case qa => k_is); (case ql => k_is); (case qc => k_is); (case qk => k_is))
  (case d11 => refine' L2.DfAt.mk ?qa ?ql ?qc ?qk; (case qa => k_is); (case ql => k_is); (case qc => k_is); (case qk => k_is))
  (case d12 => refine' L2.DfAt.mk ?qa ?ql ?qc ?qk; (case qa => k_is); (case ql => k_is); (case qc => k_is); (case qk => k_is))
  (case d13 => refine' L2.DfAt.mk ?qa ?ql ?qc ?qk; (case qa => k_is); (case ql => k_is); (case qc => k_is); (case qk => k_is))
  (case d14 => refine' L2.DfAt.mk ?qa ?ql ?qc ?qk; (case qa => k_is); (case ql => k_is); (case qc => k_is); (case qk => k_is))
  (case d15 => refine' L2.DfAt.mk ?qa ?ql ?qc ?qk; (case qa => k_is); (case ql => k_is); (case qc => k_is); (case qk => k_is))
  (case d16 => refine' L2.DfAt.mk ?qa ?ql ?qc ?qk; (case qa => k_is); (case ql => k_is); (case qc => k_is); (case qk => k_is))
  (case d17 => refine' L2.DfAt.mk ?qa ?ql ?qc ?qk; (case qa => k_is); (case ql => k_is); (case qc => k_is); (case qk => k_is))
  (case d18 => refine' L2.DfAt.mk ?qa ?ql ?qc ?qk; (case qa => k_is); (case ql => k_is); (case qc => k_is); (case qk => k_is))
  (case d19 => refine' L2.DfAt.mk ?qa ?ql ?qc ?qk; (case qa => k_is); (case ql => k_is); (case qc => k_is); (case qk => k_is))
  (case d20 => refine' L2.DfAt.mk ?qa ?ql ?qc ?qk; (case qa => k_is); (case ql => k_is); (case qc => k_is); (case qk => k_is))
  (case d21 => refine' L2.DfAt.mk ?qa ?ql ?qc ?qk; (case qa => k_is); (case ql => k_is); (case qc => k_is); (case qk => k_is))
  (case d22 => refine' L2.DfAt.mk ?qa ?ql ?qc ?qk; (case qa => k_is); (case ql => k_is); (case qc => k_is); (case qk => k_is))
  (case a23 => k_is)
  (case l23 => k_is)
  (case c23 => k_is)
  (case k23 => k_is)
  (case a24 => k_is)
  (case i24 => k_is)
  (case l24 => k_is)
  (case c24 => k_is)
  (case k24 => k_is)
  (case a25 => k_is)
  (case i25 => k_is)
  (case l25 => k_is)
  (case c25 => k_is)
  (case k25 => k_is)
  (case a26 => k_is)
  (case i26 => k_is)
  (case l26 => k_is)
  (case c26 => k_is)
  (case k26 => k_is)
  (case a27 => k_is)
  (case i27 => k_is)
  (case l27 => k_is)
  (case c27 => k_is)
  (case k27 => k_is)
  (case a28 => k_is)
  (case i28 => k_is)
  (case l28 => k_is)
  (case c28 => k_is)
  (case k28 => k_is)
  (case z_ValueError => k_is)
  (case z_abs => k_is)
  (case z_all => k_is)
  (case z_bool => k_is)
  (case z_enumerate => k_is)
  (case z_int => k_is)
  (case z_isinstance => k_is)
  (case z_len => k_is)
  (case z_list => k_is)
  (case z_min => k_is)
  (case z_range => k_is)
  (case z_set => k_is)
  (case z_sorted => k_is)
  (case z_str => k_is)
  (case z_tuple => k_is)
end
