import PyProof.Rows.All
import Wide.All
import OpenK.AllK
import Wide.FinOn
import Lean
import PyProof.EqAt
import PyProof.EqKinds
import PyProof.TupleCall
import PySem.Challenge.RW_fewchecks_k38_whole_few_never_hold_out
set_option compiler.extract_closed false
set_option Elab.async false
set_option linter.all false
set_option maxRecDepth 100000
def zq0x := @List.length_map
def zq1x := @List.getElem?_eq_getElem
def zq2x := @List.getElem?_eq_some_iff
def zq3x := @Nat.le_refl
def zq4x := @List.map_cons
def zq5x := @List.mem_filter
def zq6x := @List.map_append
def zq7x := @Bool.false_ne_true
def zq8x := @List.mem_of_getElem?
def zq9x := @PySem.Heap.lt_size
def zq10x := @List.getElem?_set_ne
def zq11x := @Ne.symm
def zq12x := @List.mem_singleton
def zq13x := @List.getElem?_map
def zq14x := @List.mem_map
def zq15x := @PySem.W.mg_of
def zq16x := @Nat.le_trans
def zq17x := @List.lookup_cons
def zq18x := @List.getElem?_set_self
def zq19x := @Bool.and_eq_true
def zq20x := @List.take_length
def zq21x := @List.size_toArray
def zq22x := @List.length_append
def zq23x := @List.getD_eq_getElem?_getD
def zq24x := @PySem.PassesOwn.never
def zq25x := @Nat.ne_of_lt
def zq26x := @PySem.Heap.get?_push_of_some
def zq27x := @List.mem_cons_self
def zq28x := @Nat.lt_of_lt_of_le
def zq29x := @List.mem_append
def zq30x := @PyProof.Rows.boot_list
def zq31x := @Option.some.inj
def zq32x := @PySem.boot_len
def zq33x := @List.mem_cons_of_mem
def zq34x := @Nat.zero_le
def zq35x := @List.getElem?_replicate
def zq36x := @List.length_cons
def zq37x := @List.mem_range
def zq38x := @List.mem_append_right
def zq39x := @List.append_nil
def zq40x := @List.getElem_mem
def zq41x := @Int.emod_nonneg
def zq42x := @Int.emod_lt_of_pos
def zq43x := @List.mem_cons
def zq44x := @PySem.Heap.get?_push_size
def zq45x := @List.getElem?_append_left
def zq46x := @Bool.eq_iff_iff
def zq47x := @List.length_take
def zq48x := @List.getElem?_append_right
def zq49x := @List.length_set
def zq50x := @List.all_eq_true
def zq51x := @List.getElem?_of_mem
def zq52x := @PySem.W.mg_none_of
def zq53x := @Nat.lt_irrefl
def zq54x := @Classical.byContradiction
def zq55x := @List.filter_cons
def zq56x := @PySem.W.kia_one
def zq57x := @List.map_map
def zq58x := @List.length_filter_le
def zq59x := @List.any_cons
def zq60x := @List.length_singleton
def zq61x := @List.mem_append_left
def zq62x := @List.find?_cons
def zq63x := @Int.toNat_natCast
def zq64x := @PyProof.Rows.boot_isinstance
def zq65x := @Nat.le_succ
def zq66x := @Option.map_eq_some_iff
def zq67x := @Nat.le_of_lt
def zq68x := @List.nodup_cons
def zq69x := @PySem.mem_of_lookup
def zq70x := @List.all_cons
def zq71x := @Option.some_ne_none
def zq72x := @List.set_set
def zq73x := @List.getElem?_cons_succ
def zq74x := @List.nodup_append
def zq75x := @List.filter_append
def zq76x := @PySem.F.plainAttrs_list
def zq77x := @List.map_nil
def zq78x := @PySem.SeqAt.canLay_of_shaped
def zq79x := @List.cons_append
def zq80x := @PySem.W.kia_tup
def zq81x := @Nat.lt_succ_of_lt
def zq82x := @List.exists_cons_of_ne_nil
def zq83x := @List.pairwise_iff_getElem
def zq84x := @Array.length_toList
def zq85x := @Bool.or_false
def zq86x := @List.ext_getElem?
def zq87x := @List.map_congr_left
def zq88x := @List.length_range
def zq89x := @List.getElem?_eq_none
def zq90x := @Bool.false_eq_true
def zq91x := @List.filter_nil
def zq92x := @Int.toNat_of_nonneg
def zq93x := @List.countP_cons
def zq94x := @PyProof.Rows.boot_range
def zq95x := @List.getElem?_take_of_lt
def zq96x := @Array.getElem?_toList
def zq97x := @List.cons.inj
def zq98x := @Bool.false_or
def zq99x := @List.length_eq_zero_iff
def zq100x := @List.foldl_append
def zq101x := @List.range_succ
def zq102x := @PySem.Heap.size_push
def zq103x := @PySem.W.KasT.kasWp_bind
def zq104x := @List.count_cons
def zq105x := @List.Nodup.length_le_of_subset
def zq106x := @List.pairwise_map
def zq107x := @List.append_assoc
def zq108x := @List.find?_append
def zq109x := @Option.none_or
def zq110x := @Int.add_mul
def zq111x := @Int.zero_add
def zq112x := @List.getElem_inj
def zq113x := @Nat.ne_of_gt
def zq114x := @PyProof.Rows.callWith_type1
def zq115x := @PySem.W.kitx_dict
def zq116x := @Option.isSome_iff_exists
def zq117x := @List.take_of_length_le
def zq118x := @Int.le_of_lt
def zq119x := @Bool.or_true
def zq120x := @List.nodup_nil
def zq121x := @Nat.lt_trans
def zq122x := @PySem.Around.under_plainId
def zq123x := @PySem.Heap.get?_push_ne
def zq124x := @PySem.Heap.size_update
def zq125x := @PySem.F.slot_list_getattribute
def zq126x := @List.filter_filter
def zq127x := @Bool.eq_false_iff
def zq128x := @List.pairwise_cons
def zq129x := @List.mem_flatMap
def zq130x := @List.mem_of_mem_take
def zq131x := @List.filter_cons_of_pos
def zq132x := @PySem.F.plainAttrs_dict
def zq133x := @PyProof.Rows.boot_sorted
def zq134x := @List.map_take
def zq135x := @Sum.inl.inj
def zq136x := @List.filterMap_cons
def zq137x := @List.mem_filterMap
def zq138x := @PySem.W.kitx_list
def zq139x := @List.of_mem_zip
def zq140x := @PySem.W.cellsFrom_some
def zq141x := @List.take_sublist
def zq142x := @Nat.lt_of_le_of_lt
def zq143x := @List.drop_zero
def zq144x := @List.any_eq_true
def zq145x := @Int.eq_ofNat_of_zero_le
def zq146x := @List.lookup_cons_self
def zq147x := @PySem.F.slot_dict_pop
def zq148x := @PySem.Calls.call_function_entry
def zq149x := @Nat.le_of_succ_le
def zq150x := @List.take_append_drop
def zq151x := @List.count_append
def zq152x := @List.count_singleton
def zq153x := @List.count_pos_iff
def zq154x := @List.filter_eq_nil_iff
def zq155x := @List.map_id''
def zq156x := @List.pairwise_lt_range
def zq157x := @List.length_pos_of_mem
def zq158x := @List.filter_eq_self
def zq159x := @List.filter_congr
def zq160x := @List.eq_nil_or_concat
def zq161x := @List.concat_eq_append
def zq162x := @List.flatMap_append
def zq163x := @Int.natCast_add
def zq164x := @List.countP_eq_zero
def zq165x := @Int.mul_le_mul_of_nonneg_right
def zq166x := @Int.mul_ediv_add_emod
def zq167x := @Int.dvd_of_emod_eq_zero
def zq168x := @List.filter_cons_of_neg
def zq169x := @List.length_filter_eq_length_iff
def zq170x := @List.idxOf_lt_length_of_mem
def zq171x := @PySem.F.slot_list_append
def zq172x := @PySem.F.type_list_append
def zq173x := @PySem.F.slot_list_extend
def zq174x := @PySem.F.type_list_extend
def zq175x := @Int.mul_le_mul
def zq176x := @PyProof.Rows.boot_min
def zq177x := @PySem.Calls.Name_function_global
def zq178x := @List.eraseIdxIfInBounds_toArray
def zq179x := @List.filterMap_cons_some
def zq180x := @List.range_succ_eq_map
def zq181x := @Nat.mul_le_mul_right
def zq182x := @PySem.F.slot_dict_delitem
def zq183x := @PySem.F.plain_list_iadd
def zq184x := @PySem.F.slot_dict_get
def zq185x := @List.getElem?_range
def zq186x := @PySem.F.slot_dict_values
def zq187x := @List.eq_of_mem_replicate
def zq188x := @List.nodup_iff_pairwise_ne
def zq189x := @List.length_eq_one_iff
def zq190x := @List.getLast?_concat
def zq191x := @List.pairwise_append
def zq192x := @List.mem_of_find?_eq_some
def zq193x := @Int.emod_eq_zero_of_dvd
def zq194x := @Int.mul_le_mul_of_nonneg_left
def zq195x := @List.countP_mono_left
def zq196x := @PyProof.Rows.boot_dict
def zq197x := @PySem.F.slot_list_pop
def zq198x := @PySem.F.type_list_pop
def zq199x := @PySem.F.type_dict_pop
def zq200x := @PyProof.Rows.boot_tuple
def zq201x := @PyProof.Rows.boot_bool
def zq202x := @PyProof.Rows.boot_int
def zq203x := @PyProof.Rows.boot_str
def zq204x := @List.replicate_succ'
def zq205x := @Bool.and_eq_true_iff
namespace L2
open PySem PySem.Spec PyProof.Rows
abbrev Key := Sum Int Str
def keyIs : Key -> Value -> Bool
 | .inl k, v => Value.isInt k v
 | .inr x, v => Value.isStrOf x v
def keyH (w : World) : Key -> Int
 | .inl k => hashInt k
 | .inr x => hashStr w x
theorem keyIs_shape : ∀ {k : Key} {v : Value}, keyIs k v = true -> (∃ i t, k = Sum.inl i /\ v = Value.int i t) \/ (∃ x t, k = Sum.inr x /\ v = Value.str x t)
  | .inl i, v, h => by
    obtain ⟨t, e⟩ := Value.isInt_shape (k := i) (v := v) h
    exact .inl ⟨i, t, rfl, e⟩
  | .inr x, v, h => by
    obtain ⟨t, e⟩ := Value.isStrOf_shape (x := x) (v := v) h
    exact .inr ⟨x, t, rfl, e⟩
theorem keyIs_int (i : Int) (t : Tok) : keyIs (.inl i) (.int i t) = true := by simp [keyIs, Value.isInt]
theorem keyIs_str (x : Str) (t : Tok) : keyIs (.inr x) (.str x t) = true := by simp [keyIs, Value.isStrOf]
theorem key_ll (a b : Int) : decide ((Sum.inl a : Key) = Sum.inl b) = (a == b) := by
 by_cases e : a = b
 ·subst e; simp
 ·have h : ¬ (Sum.inl a : Key) = Sum.inl b := fun q => e (zq135x q)
  rw [decide_eq_false h]
  exact (beq_eq_false_iff_ne.mpr e).symm
theorem key_rr (a b : Str) : decide ((Sum.inr a : Key) = Sum.inr b) = decide (a = b) := by
 by_cases e : a = b
 ·subst e; simp
 ·have h : ¬ (Sum.inr a : Key) = Sum.inr b := fun q => e (Sum.inr.inj q)
  rw [decide_eq_false h, decide_eq_false e]
theorem key_lr (a : Int) (b : Str) : decide ((Sum.inl a : Key) = Sum.inr b) = false := decide_eq_false (fun q => nomatch q)
theorem key_rl (a : Str) (b : Int) : decide ((Sum.inr a : Key) = Sum.inl b) = false := decide_eq_false (fun q => nomatch q)
def mixKind (prog : Program) (w : World) : PySem.KeyKind prog w Key where
 is := keyIs
 hash := keyH w
 inj := fun v a b ha hb => by
  rcases keyIs_shape ha with ⟨i, t, rfl, rfl⟩ | ⟨x, t, rfl, rfl⟩
  ·rcases keyIs_shape hb with ⟨j, u, rfl, e⟩ | ⟨y, u, rfl, e⟩
   ·injection e with e1 _; rw [e1]
   ·exact nomatch e
  ·rcases keyIs_shape hb with ⟨j, u, rfl, e⟩ | ⟨y, u, rfl, e⟩
   ·exact nomatch e
   ·injection e with e1 _; rw [e1]
 byValue := fun k v h => by
  rcases keyIs_shape h with ⟨i, t, rfl, rfl⟩ | ⟨x, t, rfl, rfl⟩ <;> rfl
 pyHash := fun hv h => by
  rcases keyIs_shape hv with ⟨i, t, rfl, rfl⟩ | ⟨x, t, rfl, rfl⟩
  ·exact wpAny_pyHash_int h
  ·exact wpAny_pyHash_str h
 eqBool := fun hu hv h => by
  rcases keyIs_shape hu with ⟨i, t, rfl, rfl⟩ | ⟨x, t, rfl, rfl⟩
  ·rcases keyIs_shape hv with ⟨j, u, rfl, rfl⟩ | ⟨y, u, rfl, rfl⟩
   ·rw [key_ll] at h; exact wpAny_eqBool_int h
   ·rw [key_lr] at h; exact SeqAt.EqAt.int_str i t y u _ _ _ _ h
  ·rcases keyIs_shape hv with ⟨j, u, rfl, rfl⟩ | ⟨y, u, rfl, rfl⟩
   ·rw [key_rl] at h; exact SeqAt.EqAt.str_int x t j u _ _ _ _ h
   ·rw [key_rr] at h; exact wpAny_eqBool_str h
 «strs» := fun k x t v h => by
  rcases keyIs_shape h with ⟨i, u, rfl, e⟩ | ⟨y, u, rfl, e⟩
  ·exact nomatch e
  ·injection e with e1 _
   subst e1
   cases v <;> rfl
theorem mixKind_int (prog : Program) (w : World) (i : Int) (t : Tok) : (mixKind prog w).is (.inl i) (.int i t) = true := keyIs_int i t
theorem mixKind_str (prog : Program) (w : World) (x : Str) (t : Tok) : (mixKind prog w).is (.inr x) (.str x t) = true := keyIs_str x t
inductive V where
 | non | bl (b : Bool) | int (i : Int) | str (x : Str) | byt (b : Array UInt8) | flt (b : UInt64) | ref (a : Addr) | ty (n : String)
 deriving DecidableEq
def RelV : V -> Value -> Prop
 | .non, u => u = Value.none
 | .bl b, u => u = Value.bool b
 | .int i, u => ∃ t, u = Value.int i t
 | .str x, u => ∃ t, u = Value.str x t
 | .byt b, u => ∃ t, u = Value.bytes b t
 | .flt b, u => ∃ t, u = Value.float b t
 | .ref a, u => u = Value.ref a
 | .ty n, u => u = Value.type n
abbrev Vals : List V -> List Value -> Prop := Paired RelV
theorem Vals.length {xs : List V} {us : List Value} (r : Vals xs us) : xs.length = us.length := Paired.length r
theorem Vals.get : ∀ {xs : List V} {us : List Value} {i : Nat} {x : V}, Vals xs us -> xs[i]? = some x -> ∃ u, us[i]? = some u /\ RelV x u
  | _, _, _, _, .nil, e => by simp at e
  | _, _, 0, _, .cons r _, e => by simp at e; subst e; exact ⟨_, rfl, r⟩
  | _, _, i + 1, x, .cons _ t, e => by
    obtain ⟨u, h1, h2⟩ := Vals.get (i := i) (x := x) t (by simpa using e)
    exact ⟨u, by simpa using h1, h2⟩
theorem Vals.set {x : V} {u : Value} (r : RelV x u) : ∀ {xs : List V} {us : List Value} (i : Nat), Vals xs us -> Vals (xs.set i x) (us.set i u)
 | _, _, _, .nil => .nil
 | _, _, 0, .cons _ t => .cons r t
 | _, _, i + 1, .cons q t => .cons q (Vals.set r i t)
theorem Vals.append : ∀ {xs ys : List V} {us ws : List Value}, Vals xs us -> Vals ys ws -> Vals (xs ++ ys) (us ++ ws)
 | _, _, _, _, .nil, s => s
 | _, _, _, _, .cons r t, s => .cons r (Vals.append t s)
theorem Vals.take : ∀ {xs : List V} {us : List Value} (n : Nat), Vals xs us -> Vals (xs.take n) (us.take n)
 | _, _, 0, _ => .nil
 | _, _, _ + 1, .nil => .nil
 | _, _, n + 1, .cons r t => .cons r (Vals.take n t)
theorem Vals.drop : ∀ {xs : List V} {us : List Value} (n : Nat), Vals xs us -> Vals (xs.drop n) (us.drop n)
 | _, _, 0, r => r
 | _, _, _ + 1, .nil => .nil
 | _, _, n + 1, .cons _ t => Vals.drop n t
def RelO : Option V -> Option Value -> Prop
 | some v, some u => RelV v u
 | none, none => True
 | _, _ => False
def KV {κ : Type} : List (κ × V) -> List (κ × Value) -> Prop := Paired fun (p : κ × V) (q : κ × Value) => p.1 = q.1 /\ RelV p.2 q.2
def kV : Key -> V
 | .inl i => .int i
 | .inr x => .str x
inductive HO where
  | lst (xs : List V)
  | tup (xs : List V)
  | dK (kvs : List (Key × V)) | dT (kvs : List (List Key × V))
  | set (S : Int -> Bool) (n : Nat)
  | ins (C dx : Addr) (fs : List (Str × V))
  | own (x : Addr)
  | xd (fs : List (Str × V))
  | met (f x : Addr)
  | rng (lo hi : Int)
  | frz (o : Obj) (u : HO)
  | tbl (ps : Array Value)
  | ext (φ : Heap -> Prop)
abbrev Hp := Addr -> Option HO
def upd (H : Hp) (a : Addr) (o : HO) : Hp := fun b => if b = a then some o else H b
theorem upd_same {H : Hp} {a : Addr} {o : HO} : upd H a o a = some o := by unfold upd; rw [if_pos rfl]
theorem upd_ne {H : Hp} {a b : Addr} {o : HO} (h : b ≠ a) : upd H a o b = H b := by unfold upd; rw [if_neg h]
theorem upd_upd {H : Hp} {a : Addr} {o u : HO} : upd (upd H a o) a u = upd H a u := by
 funext b; unfold upd; split <;> rfl
theorem ne_of_none {H : Hp} {a b : Addr} {o : HO} (h : H a = some o) (h' : H b = none) : a ≠ b := by
 intro e; subst e; rw [h] at h'; cases h'
section
variable (P : Program) (w : World)
def ObjOk (H : Hp) (h : Heap) (a : Addr) : HO -> Prop
 | .lst xs => xs.length <= sizeLine /\ ∃ (its : List Value) (n : Nat), Vals xs its /\ h.get? a = some { cls := .type "list", data := .seq its.toArray n }
 | .tup xs => xs.length <= sizeLine /\ ∃ its : List Value, Vals xs its /\ IsTup h a its.toArray
 | .dK kvs => kvs.length <= sizeLine /\ (a == sysModules) = false /\ ∃ vs, KV kvs vs /\ h.DictOf (mixKind P w) a vs
 | .dT kvs => kvs.length <= sizeLine /\ (a == sysModules) = false /\ ∃ xs : List (List Key × Addr × Value),
   Paired (fun (p : List Key × V) (q : List Key × Addr × Value) => p.1 = q.1 /\ H q.2.1 = some (.tup (p.1.map kV)) /\ RelV p.2 q.2.2) kvs xs /\
   ∃ o es ep, h.get? a = some o /\ o.ExactDict /\ o.data = .dict es ep /\ es.toList = xs.map (entryOfKey (tupleKind (mixKind P w))) /\ (xs.map (·.1)).Nodup
 | .set S n => h.SetOf (intKind P w) a S n
 | .ins C dx fs => H dx = some (.own a) /\ fs.length <= 1000 /\ dx ≠ a /\ h.get? a = some (PySem.W.instObj C dx) /\
   ∃ mA, h.Ns1 dx mA /\ (∀ f, RelO (fs.lookup f) (mA f)) /\ PySem.Within mA (fs.map (·.1))
 | .own _ => ∃ o, h.get? a = some o
 | .xd fs => ∃ mA, h.Ns1 a mA /\ ∀ f, RelO (fs.lookup f) (mA f)
 | .rng lo hi => ∃ t u v, h.get? a = some { cls := .type "range", data := .fields #[.int lo t, .int hi u, .int 1 v] }
 | .frz o u => h.get? a = some o /\ ObjOk H h a u
 | .tbl ps => h.get? a = some { cls := .none, data := .fields ps }
 | .met f x => h.get? a = some (PySem.W.methodObj (.ref f) (.ref x))
 | .ext φ => φ h /\ (∃ o, h.get? a = some o) /\ ∀ h1 h2 : Heap, φ h1 -> (∀ o, h1.get? a = some o -> h2.get? a = some o) -> φ h2
def HOk (H : Hp) (h : Heap) : Prop := ∀ a o, H a = some o -> ObjOk P w H h a o
end
section
variable {P : Program} {w : World} {H H' : Hp} {h h' : Heap} {a : Addr} {o : HO}
theorem ObjOk.lt (x : ObjOk P w H h a o) : a < h.objs.size := by
 cases o with
 | lst xs => obtain ⟨_, _, _, _, e⟩ := x; exact zq9x e
 | tup xs => obtain ⟨_, _, _, p⟩ := x; exact p.lt
 | dK kvs => obtain ⟨_, _, _, _, o, _, _, e, _⟩ := x; exact zq9x e
 | dT kvs => obtain ⟨_, _, _, _, o, _, _, e, _⟩ := x; exact zq9x e
 | set S n => obtain ⟨o, _, _, _, e, _⟩ := x; exact zq9x e
 | ins C dx fs => obtain ⟨_, _, _, e, _⟩ := x; exact zq9x e
 | own y => obtain ⟨_, e⟩ := x; exact zq9x e
 | xd fs => obtain ⟨_, ⟨_, _, _, e, _⟩, _⟩ := x; exact zq9x e
 | rng lo hi => obtain ⟨_, _, _, e⟩ := x; exact zq9x e
 | frz ob u => obtain ⟨e, _⟩ := x; exact zq9x e
 | tbl ps => exact zq9x (show h.get? a = some _ from x)
 | met f y => exact zq9x (show h.get? a = some _ from x)
 | ext φ => obtain ⟨_, ⟨_, e⟩, _⟩ := x; exact zq9x e
theorem Paired.mapP {α β : Type} {F G : α -> β -> Prop} : ∀ {l₁ : List α} {l₂ : List β}, Paired F l₁ l₂ -> (∀ a b, F a b -> G a b) -> Paired G l₁ l₂
 | _, _, .nil, _ => .nil
 | _, _, .cons r t, f => .cons (f _ _ r) (Paired.mapP t f)
theorem ObjOk.stay (x : ObjOk P w H h a o) (k : ∀ b u, (b = a \/ H b = some (.own a)) -> h.get? b = some u -> h'.get? b = some u)
    (ho : ∀ b, H b = some (.own a) -> H' b = some (.own a)) (ht : ∀ b xs, H b = some (.tup xs) -> H' b = some (.tup xs)) : ObjOk P w H' h' a o := by
  induction o with
  | lst xs => obtain ⟨z, its, n, r, e⟩ := x; exact ⟨z, its, n, r, k _ _ (.inl rfl) e⟩
  | tup xs => obtain ⟨z, its, r, ob, e, c⟩ := x; exact ⟨z, its, r, ob, k _ _ (.inl rfl) e, c⟩
  | dK kvs => obtain ⟨z, y, vs, r, ob, es, ep, e, c⟩ := x; exact ⟨z, y, vs, r, ob, es, ep, k _ _ (.inl rfl) e, c⟩
  | dT kvs =>
    obtain ⟨z, y, xs, r, ob, es, ep, e, c⟩ := x
    exact ⟨z, y, xs, Paired.mapP r fun p q z => ⟨z.1, ht _ _ z.2.1, z.2.2⟩, ob, es, ep, k _ _ (.inl rfl) e, c⟩
  | set S n => obtain ⟨ob, es, ep, t, e, c⟩ := x; exact ⟨ob, es, ep, t, k _ _ (.inl rfl) e, c⟩
  | ins C dx fs =>
    obtain ⟨d, z, ne, e, mA, ⟨od, es, ep, e2, c⟩, r⟩ := x
    exact ⟨ho _ d, z, ne, k _ _ (.inl rfl) e, mA, ⟨od, es, ep, k _ _ (.inr d) e2, c⟩, r⟩
  | own y => obtain ⟨ob, e⟩ := x; exact ⟨ob, k _ _ (.inl rfl) e⟩
  | xd fs => obtain ⟨mA, ⟨od, es, ep, e, c⟩, r⟩ := x; exact ⟨mA, ⟨od, es, ep, k _ _ (.inl rfl) e, c⟩, r⟩
  | rng lo hi => obtain ⟨t, u, v, e⟩ := x; exact ⟨t, u, v, k _ _ (.inl rfl) e⟩
  | frz ob u ih => obtain ⟨e, q⟩ := x; exact ⟨k _ _ (.inl rfl) e, ih q⟩
  | tbl ps =>
    have e : h.get? a = some { cls := .none, data := .fields ps } := x
    show h'.get? a = some { cls := .none, data := .fields ps }
    exact k a _ (.inl rfl) e
  | met f y =>
    have e : h.get? a = some (PySem.W.methodObj (.ref f) (.ref y)) := x
    show h'.get? a = some (PySem.W.methodObj (.ref f) (.ref y))
    exact k a _ (.inl rfl) e
  | ext φ => obtain ⟨p, ⟨o, e⟩, st⟩ := x; exact ⟨st _ _ p fun o q => k _ _ (.inl rfl) q, ⟨o, k _ _ (.inl rfl) e⟩, st⟩
theorem HOk.lt (x : HOk P w H h) (e : H a = some o) : a < h.objs.size := (x a o e).lt
theorem HOk.fresh (x : HOk P w H h) (e : h.objs.size <= a) : H a = none := by
 cases q : H a with
 | none => rfl
 | some u => exact absurd (zq28x (x.lt q) e) (zq53x _)
theorem HOk.kept (x : HOk P w H h) (k : ∀ b u, h.get? b = some u -> h'.get? b = some u) : HOk P w H h' := fun a o e =>
 (x a o e).stay (fun b u _ q => k b u q) (fun _ q => q) fun _ _ q => q
theorem HOk.laid (x : HOk P w H h) (k : ∀ b u, h.get? b = some u -> h'.get? b = some u) (hp : h.objs.size <= a) (new : ObjOk P w (upd H a o) h' a o) : HOk P w (upd H a o) h' := fun b u e => by
 have hn := x.fresh hp
 by_cases hb : b = a
 ·subst hb; rw [upd_same] at e; cases e; exact new
 ·rw [upd_ne hb] at e
  exact (x b u e).stay (fun c v _ q => k c v q) (fun c q => by rw [upd_ne (ne_of_none q hn)]; exact q) fun c xs q => by rw [upd_ne (ne_of_none q hn)]; exact q
end
def Rd (H : Hp) (a : Addr) (u : HO) : Prop := H a = some u \/ ∃ o, H a = some (.frz o u)
theorem Rd.ok {P : Program} {w : World} {H : Hp} {h : Heap} {a : Addr} {u : HO} (r : Rd H a u) (x : HOk P w H h) : ObjOk P w H h a u := by
 rcases r with r | ⟨o, r⟩
 ·exact x a u r
 ·obtain ⟨_, q⟩ := x a _ r
  exact q
def Mut : Option HO -> Prop
 | some (.lst _) => True
 | some (.dK _) => True
 | some (.dT _) => True
 | some (.set _ _) => True
 | some (.ins _ _ _) => True
 | some (.ext _) => True
 | _ => False
section
variable {P : Program} {w : World} {H : Hp} {h h' : Heap} {x e : Addr} {o' : HO}
theorem HOk.write (ok : HOk P w H h) (mu : Mut (H x)) (he : e = x \/ H e = some (.own x)) (k : ∀ b u, b ≠ e -> h.get? b = some u -> h'.get? b = some u) (heo : ∃ u, h'.get? e = some u)
  (new : ObjOk P w (upd H x o') h' x o') : HOk P w (upd H x o') h' := fun b u q => by
 have nown : ∀ c y, H c = some (.own y) -> c ≠ x := fun c y r z => by subst z; rw [r] at mu; exact mu
 have ntup : ∀ c xs, H c = some (.tup xs) -> c ≠ x := fun c xs r z => by subst z; rw [r] at mu; exact mu
 by_cases hb : b = x
 ·subst hb; rw [upd_same] at q; cases q; exact new
 ·rw [upd_ne hb] at q
  by_cases hbe : b = e
  ·have q' : H b = some (.own x) := by
    rcases he with z | z
    ·exact absurd (hbe.trans z) hb
    ·rw [hbe]; exact z
   rw [q] at q'; cases q'
   obtain ⟨v, hv⟩ := heo
   exact ⟨v, by rw [hbe]; exact hv⟩
  ·refine (ok b u q).stay (fun c v hc r => k c v ?_ r) (fun c r => by rw [upd_ne (nown c b r)]; exact r) fun c xs r => by rw [upd_ne (ntup c xs r)]; exact r
   rcases hc with rfl | hc
   ·exact hbe
   ·rintro rfl
    rcases he with z | z
    ·exact nown c b hc z
    ·rw [hc] at z; cases z; exact hb rfl
end
structure Un (fs ex : List Addr) (H H' : Hp) (h h' : Heap) : Prop where
 keep : ∀ b o, h.get? b = some o -> H b = none -> b ∉ fs -> b ∉ ex -> h'.get? b = some o
 slot : ∀ b o, h.get? b = some o -> H b = none -> b ∈ fs -> b ∉ ex -> ∃ sl, h'.get? b = some { o with slots := sl }
 free : ∀ b o, h.get? b = some o -> H b = none -> b ∉ ex -> H' b = none
 there : ∀ b o, h.get? b = some o -> b ∉ ex -> ∃ o', h'.get? b = some o'
 tups : ∀ b xs, H b = some (.tup xs) -> H' b = some (.tup xs)
 frzs : ∀ b o u, H b = some (.frz o u) -> H' b = some (.frz o u)
 tbls : ∀ b ps, H b = some (.tbl ps) -> ∃ more, H' b = some (.tbl (ps ++ more))
section
variable {fs fs' ex ex' : List Addr} {H H1 H2 : Hp} {h h1 h2 h' : Heap} {a x e : Addr} {o : HO}
theorem Un.any (u : Un fs ex H H1 h h1) {b : Addr} {ob : Obj} (q : h.get? b = some ob) (n : H b = none) (hx : b ∉ ex) : ∃ sl, h1.get? b = some { ob with slots := sl } := by
 by_cases hb : b ∈ fs
 ·exact u.slot b ob q n hb hx
 ·exact ⟨ob.slots, u.keep b ob q n hb hx⟩
theorem Un.kept (k : ∀ b u, h.get? b = some u -> h'.get? b = some u) : Un fs ex H H h h' :=
 ⟨fun b ob q _ _ _ => k b ob q, fun b ob q _ _ _ => ⟨ob.slots, k b ob q⟩, fun _ _ _ n _ => n, fun b ob q _ => ⟨ob, k b ob q⟩, fun _ _ q => q, fun _ _ _ q => q, fun _ ps q => ⟨#[], by rw [q]; simp⟩⟩
theorem Un.refl : Un fs ex H H h h := Un.kept fun _ _ q => q
theorem Un.laid (k : ∀ b u, h.get? b = some u -> h'.get? b = some u) (hp : h.objs.size <= a) (hn : H a = none) : Un fs ex H (upd H a o) h h' where
 keep := fun b u q _ _ _ => k b u q
 slot := fun b u q _ _ _ => ⟨u.slots, k b u q⟩
 free := fun b u q n _ => by rw [upd_ne (zq25x (zq28x (zq9x q) hp))]; exact n
 there := fun b u q _ => ⟨u, k b u q⟩
 tups := fun b xs q => by rw [upd_ne (ne_of_none q hn)]; exact q
 frzs := fun b u xs q => by rw [upd_ne (ne_of_none q hn)]; exact q
 tbls := fun b ps q => ⟨#[], by rw [upd_ne (ne_of_none q hn), q]; simp⟩
theorem Un.write (mu : Mut (H x)) (he : e = x \/ H e = some (.own x)) (k : ∀ b u, b ≠ e -> h.get? b = some u -> h'.get? b = some u) (heo : ∃ u, h'.get? e = some u) : Un fs ex H (upd H x o) h h' := by
 have hx : ∀ b, H b = none -> b ≠ x := fun b n z => by subst z; rw [n] at mu; exact mu
 have hb : ∀ b, H b = none -> b ≠ e := fun b n z => by
  subst z
  rcases he with r | r
  ·exact hx b n r
  ·rw [n] at r; cases r
 have hm : ∀ b u, H b = some u -> ¬ Mut (some u) -> b ≠ x := fun b u q nm z => by subst z; rw [q] at mu; exact nm mu
 refine ⟨fun b u q n _ _ => k b u (hb b n) q, fun b u q n _ _ => ⟨u.slots, k b u (hb b n) q⟩, fun b u q n _ => by rw [upd_ne (hx b n)]; exact n, fun b u q _ => ?_,
  fun b xs q => by rw [upd_ne (hm b _ q fun z => z)]; exact q, fun b u xs q => by rw [upd_ne (hm b _ q fun z => z)]; exact q, fun b ps q => ⟨#[], by rw [upd_ne (hm b _ q fun z => z), q]; simp⟩⟩
 by_cases hbe : b = e
 ·subst hbe; exact heo
 ·exact ⟨u, k b u hbe q⟩
end
def trk (h : Heap) (H : Hp) : List Addr := (List.range h.objs.size).filter fun a => (H a).isSome
def hidT (h : Heap) (H : Hp) : Heap := PySem.W.hideAll h (trk h H)
theorem hidT_size (h : Heap) (H : Hp) : (hidT h H).objs.size = h.objs.size := PySem.W.hideAll_size _ _
theorem hidT_get {h : Heap} {H : Hp} {b : Addr} {o : Obj} (e : h.get? b = some o) (n : H b = none) : (hidT h H).get? b = some o :=
 PySem.W.hideAll_get _ e fun hm => by
  have q : (H b).isSome = true := (zq5x.mp hm).2
  rw [n] at q; simp at q
theorem of_hidT {h : Heap} {H : Hp} {b : Addr} {o : Obj} (e : (hidT h H).get? b = some o) : h.get? b = some o /\ H b = none := by
  have e' : h.get? b = some o := PySem.W.of_hideAll (trk h H) e
  refine ⟨e', ?_⟩
  cases q : H b with
  | none => rfl
  | some x =>
    have hm : b ∈ trk h H := zq5x.mpr ⟨zq37x.mpr (zq9x e'), by simp [q]⟩
    have z : (hidT h H).get? b = none := PySem.W.hideAll_none (trk h H) hm
    rw [z] at e; cases e
def allNews (g h : Heap) (L : Addr) : List (Addr × Obj) := (List.range h.objs.size).filterMap fun a => if a = L \/ (g.get? a).isSome = true then none else (h.get? a).map fun o => (a, o)
def rest (g h : Heap) (L d : Addr) : List (Addr × Obj) := (allNews g h L).filter fun p => decide (p.1 ≠ d)
structure Mod (K : PySem.W.Frag) (mg : Str -> Option Value) (base : Heap) : Prop where
 kin : K.In base
 glob : base.Ns mainGlobals mg
 blt : ∃ mb, base.Ns builtinsNs mb /\ ∀ x : Str, x ≠ "__name__" -> mb x = bootBuiltins x
 nolimit : base.NoLimit
structure Cx where
 prog : Program
 w : World
 K : PySem.W.Frag
 mg : Str -> Option Value
 base : Heap
 A : Around
 N : List Str
 s₀ : Shared
 H₀ : Hp
 env : Env
 outer : List Env
 stack : List Env
 ex : List Addr
 fn : Str -> Bool
 calm : Bool
 pn : List (Addr × Obj)
 xe : Value -> Shared -> Prop
def frs (l : List Env) : List Addr := l.filterMap (·.frame)
abbrev Cx.fs (X : Cx) : List Addr := frs X.outer
def Vis (sc : Scope) (x : Str) : Prop := sc.names.lookup x = some .local \/ sc.names.lookup x = some .cell \/ sc.names.lookup x = some .free
def Loc (sc : Scope) (x : Str) : Prop := sc.names.lookup x = some .local \/ sc.names.lookup x = some .cell
def Look (env : Env) (h : Heap) (m : Str -> Option Value) (x : Str) (u : Value) : Prop :=
 (env.kindOf x = some .local /\ m x = some u) \/ ((env.kindOf x = some .cell \/ env.kindOf x = some .free) /\ ∃ c, env.cells.lookup x = some c /\ h.IsCell c (some u))
structure Cx.Ok (X : Cx) : Prop where
 mod : Mod X.K X.mg X.base
 kind : X.env.scope.kind = .function
 glob : X.env.globals = mainGlobals
 blt : X.env.builtins = builtinsNs
 above : X.s₀.heap.objs.size <= X.env.locals
 inj : ∀ x y c, X.env.cells.lookup x = some c -> X.env.cells.lookup y = some c -> x = y
 has : ∀ x, (X.env.kindOf x = some .cell \/ X.env.kindOf x = some .free) -> ∃ c, X.env.cells.lookup x = some c
 cab : ∀ x c, X.fn x = true -> X.env.cells.lookup x = some c -> X.s₀.heap.objs.size <= c
 hd : X.calm = true -> X.A.handled = none
 frames : X.A.frames = some X.stack
 stk : X.stack = X.outer \/ (X.stack = X.env :: X.outer /\ X.env.frame = some X.env.locals)
 exf : ∀ b ∈ X.ex, b ≠ X.env.locals /\ ∀ x c, X.env.cells.lookup x = some c -> c ≠ b
 bs : ∀ b o, X.base.get? b = some o -> X.s₀.heap.get? b = some o /\ X.H₀ b = none
 bsz : X.base.objs.size <= X.s₀.heap.objs.size
 noex : ∀ b o, X.base.get? b = some o -> b ∉ X.ex
 exfs : ∀ b ∈ X.ex, b ∉ X.fs
 funs : X.s₀.heap.FunFrames X.base X.outer
 frf : ∀ b ∈ X.fs, X.H₀ b = none
structure Inv (X : Cx) (pins : List (Addr × Obj)) (σ : List (Option V)) (H : Hp) (s : Shared) : Prop where
 ok : X.Ok
 os : s.os = X.s₀.os
 bare : AllBare s.gens
 base : Un X.fs X.ex X.H₀ H X.s₀.heap s.heap
 loc : ∃ m, s.heap.Ns X.env.locals m /\ ∀ (i : Nat) (x : Str) (v : V), X.N[i]? = some x -> σ[i]? = some (some v) -> Vis X.env.scope x -> ∃ u, RelV v u /\ Look X.env s.heap m x u
 cell : ∀ x c, X.env.cells.lookup x = some c -> ∃ v, s.heap.IsCell c v
 free : H X.env.locals = none
 freeC : ∀ x c, X.env.cells.lookup x = some c -> H c = none
 pin : ∀ p ∈ X.pn ++ pins, s.heap.get? p.1 = some p.2 /\ H p.1 = none /\ p.1 ≠ X.env.locals /\ p.1 ∉ X.fs /\ ∀ v, p.2.data ≠ .cell v
 hok : HOk X.prog X.w H s.heap
 len : σ.length = X.N.length
section
variable {X : Cx} {pins : List (Addr × Obj)} {σ : List (Option V)} {H H' : Hp} {s : Shared} {h' : Heap}
theorem Cx.Ok.nofr (ok : X.Ok) {b : Addr} {o : Obj} (e : X.base.get? b = some o) : b ∉ X.fs := fun hb => by
 have := (ok.funs.mem hb).1
 rw [e] at this; cases this
theorem Inv.bs (I : Inv X pins σ H s) : ∀ b o, X.base.get? b = some o -> s.heap.get? b = some o /\ H b = none := fun b o e =>
 ⟨I.base.keep b o (I.ok.bs b o e).1 (I.ok.bs b o e).2 (I.ok.nofr e) (I.ok.noex b o e), I.base.free b o (I.ok.bs b o e).1 (I.ok.bs b o e).2 (I.ok.noex b o e)⟩
theorem Inv.bk (I : Inv X pins σ H s) : ∀ b o, X.base.get? b = some o -> s.heap.get? b = some o := fun b o e => (I.bs b o e).1
theorem Inv.mod (I : Inv X pins σ H s) : Mod X.K X.mg X.base := I.ok.mod
theorem Inv.kIn (I : Inv X pins σ H s) : X.K.In s.heap := I.ok.mod.kin.keeps I.bk
theorem Inv.lt (I : Inv X pins σ H s) : X.env.locals < s.heap.objs.size := let ⟨_, hn, _⟩ := I.loc; hn.lt
theorem Inv.sz (I : Inv X pins σ H s) : X.s₀.heap.objs.size <= s.heap.objs.size := zq16x I.ok.above (zq67x I.lt)
theorem Inv.nofs (I : Inv X pins σ H s) {a : Addr} (h : s.heap.objs.size <= a) : a ∉ X.fs := fun hb => by
 obtain ⟨_, o, ho, _⟩ := I.ok.funs.mem hb
 exact absurd (zq28x (zq9x ho) (zq16x I.sz h)) (zq53x _)
theorem Inv.cne (I : Inv X pins σ H s) : ∀ x c, X.env.cells.lookup x = some c -> c ≠ X.env.locals := fun x c e z => by
 obtain ⟨v, o, ho, hd⟩ := I.cell x c e
 obtain ⟨m, ⟨o', es, ep, ho', hd', _⟩, _⟩ := I.loc
 rw [z, ho'] at ho; cases ho; rw [hd'] at hd; cases hd
theorem Inv.funs (I : Inv X pins σ H s) : s.heap.FunFrames X.base X.outer := by
  have all : ∀ (l : List Env), (∀ b ∈ frs l, b ∈ X.fs) -> X.s₀.heap.FunFrames X.base l -> s.heap.FunFrames X.base l := by
    intro l
    induction l with
    | nil => intro _ _; trivial
    | cons env r ih =>
      intro hs hl
      obtain ⟨hk, ⟨L, o, hf, hn, ho, hd⟩, hr⟩ := hl
      have hL : L ∈ X.fs := hs L (by unfold frs; rw [zq136x, hf]; exact zq27x)
      obtain ⟨sl, e⟩ := I.base.slot L o ho (I.ok.frf L hL) hL fun z => I.ok.exfs L z hL
      exact ⟨hk, ⟨L, _, hf, hn, e, hd⟩, ih (fun b hb => hs b (by unfold frs; rw [zq136x, hf]; exact zq33x _ hb)) hr⟩
  exact all X.outer (fun _ hb => hb) I.ok.funs
theorem Inv.stack (I : Inv X pins σ H s) : s.heap.FunFrames X.base X.stack := by
 rcases I.ok.stk with e | ⟨e, hf⟩
 ·rw [e]; exact I.funs
 ·rw [e]
  obtain ⟨m, hn, _⟩ := I.loc
  refine .cons (by rw [I.ok.kind]; decide) hf hn ?_ I.funs
  exact Heap.get?_none_of_le (zq16x I.ok.bsz I.ok.above)
theorem Inv.stkSub (I : Inv X pins σ H s) : ∀ b ∈ frs X.stack, b ∈ X.env.locals :: X.fs := fun b hb => by
 rcases I.ok.stk with e | ⟨e, hf⟩
 ·rw [e] at hb; exact zq33x _ hb
 ·rw [e] at hb
  unfold frs at hb
  rw [zq136x, hf] at hb
  exact hb
theorem Inv.stkFree (I : Inv X pins σ H s) : ∀ b ∈ frs X.stack, H b = none := fun b hb => by
 rcases zq43x.mp (I.stkSub b hb) with e | hb
 ·rw [e]; exact I.free
 ·obtain ⟨_, o, ho, _⟩ := I.ok.funs.mem hb
  exact I.base.free b o ho (I.ok.frf b hb) fun z => I.ok.exfs b z hb
theorem Inv.step {g' : Array GenState} {t' : Nat} {d' : Drawn} {ch : List Addr} (I : Inv X pins σ H s)
  (hch : ∀ b ∈ ch, (b ∈ X.ex \/ X.s₀.heap.objs.size <= b) /\ b ≠ X.env.locals /\ (∀ x c, X.env.cells.lookup x = some c -> c ≠ b) /\ ∀ p ∈ X.pn ++ pins, p.1 ≠ b)
  (keep : ∀ b o, b ≠ X.env.locals -> b ∉ X.fs -> b ∉ ch -> s.heap.get? b = some o -> H b = none -> h'.get? b = some o)
  (slot : ∀ b o, b ≠ X.env.locals -> b ∈ X.fs -> b ∉ ch -> s.heap.get? b = some o -> H b = none -> ∃ sl, h'.get? b = some { o with slots := sl }) (free : ∀ b o, b ∉ ch -> s.heap.get? b = some o -> H b = none -> H' b = none)
  (there : ∀ b o, b ∉ ch -> s.heap.get? b = some o -> ∃ o', h'.get? b = some o')
  (tups : ∀ b xs, H b = some (.tup xs) -> H' b = some (.tup xs)) (frzs : ∀ b o u, H b = some (.frz o u) -> H' b = some (.frz o u)) (tbls : ∀ b ps, H b = some (.tbl ps) -> ∃ more, H' b = some (.tbl (ps ++ more)))
  (ns : ∀ m, s.heap.Ns X.env.locals m -> h'.Ns X.env.locals m) (hok : HOk X.prog X.w H' h') (hg : AllBare g') :
  Inv X pins σ H' { s with heap := h', gens := g', drawn := d', toks := t' } := by
 have neL : ∀ b o, X.s₀.heap.get? b = some o -> b ≠ X.env.locals := fun b o e => zq25x (zq28x (zq9x e) I.ok.above)
 have neC : ∀ b o, X.s₀.heap.get? b = some o -> b ∉ X.ex -> b ∉ ch := fun b o e hx hb => by
  rcases (hch b hb).1 with z | z
  ·exact hx z
  ·exact absurd (zq28x (zq9x e) z) (zq53x _)
 have cellK : ∀ x c, X.env.cells.lookup x = some c -> ∀ v, s.heap.IsCell c v -> h'.IsCell c v := fun x c e v ⟨o, ho, hd⟩ => by
  have nch : c ∉ ch := fun z => (hch c z).2.2.1 x c e rfl
  by_cases hc : c ∈ X.fs
  ·obtain ⟨sl, q⟩ := slot c o (I.cne x c e) hc nch ho (I.freeC x c e)
   exact ⟨_, q, hd⟩
  ·exact ⟨o, keep c o (I.cne x c e) hc nch ho (I.freeC x c e), hd⟩
 refine ⟨I.ok, I.os, hg, ⟨fun b o e n hb hx => ?_, fun b o e n hb hx => ?_, fun b o e n hx => ?_, fun b o e hx => ?_, fun b xs e => tups b xs (I.base.tups b xs e), fun b o xs e => frzs b o xs (I.base.frzs b o xs e), fun b ps e => ?_⟩, ?_, fun x c e => ?_, ?_, fun x c e => ?_, fun p hp => ?_, hok, I.len⟩
 ·exact keep b o (neL b o e) hb (neC b o e hx) (I.base.keep b o e n hb hx) (I.base.free b o e n hx)
 ·obtain ⟨sl, e1⟩ := I.base.slot b o e n hb hx
  obtain ⟨sl', e2⟩ := slot b _ (neL b o e) hb (neC b o e hx) e1 (I.base.free b o e n hx)
  exact ⟨sl', e2⟩
 ·obtain ⟨o', e1⟩ := I.base.there b o e hx
  exact free b o' (neC b o e hx) e1 (I.base.free b o e n hx)
 ·obtain ⟨o', e1⟩ := I.base.there b o e hx
  exact there b o' (neC b o e hx) e1
 ·obtain ⟨m1, e1⟩ := I.base.tbls b ps e
  obtain ⟨m2, e2⟩ := tbls b _ e1
  exact ⟨m1 ++ m2, by rw [e2, Array.append_assoc]⟩
 ·obtain ⟨m, hn, hl⟩ := I.loc
  refine ⟨m, ns m hn, fun i x v e1 e2 e3 => ?_⟩
  obtain ⟨u, r, l⟩ := hl i x v e1 e2 e3
  refine ⟨u, r, ?_⟩
  rcases l with l | ⟨k, c, e, z⟩
  ·exact .inl l
  ·exact .inr ⟨k, c, e, cellK x c e _ z⟩
 ·obtain ⟨v, z⟩ := I.cell x c e
  exact ⟨v, cellK x c e v z⟩
 ·obtain ⟨m, ⟨o, _, _, ho, _⟩, _⟩ := I.loc
  exact free _ o (fun z => (hch _ z).2.1 rfl) ho I.free
 ·obtain ⟨v, o, ho, hd⟩ := I.cell x c e
  exact free c o (fun z => (hch c z).2.2.1 x c e rfl) ho (I.freeC x c e)
 ·obtain ⟨e, n, ne, nf, d⟩ := I.pin p hp
  have nch : p.1 ∉ ch := fun z => (hch p.1 z).2.2.2 p hp rfl
  exact ⟨keep p.1 p.2 ne nf nch e n, free p.1 p.2 nch e n, ne, nf, d⟩
theorem Inv.un {t' : Nat} (I : Inv X pins σ H s) (u : Un X.fs [] H H' s.heap h') (hok : HOk X.prog X.w H' h') : Inv X pins σ H' { s with heap := h', toks := t' } := by
 obtain ⟨m, ⟨o, es, ep, ho, r⟩, _⟩ := id I.loc
 obtain ⟨sl, hL⟩ := u.any ho I.free (by simp)
 exact I.step (g' := s.gens) (d' := s.drawn) (ch := []) (fun _ z => nomatch z) (fun b o _ hb _ e n => u.keep b o e n hb (by simp)) (fun b o _ hb _ e n => u.slot b o e n hb (by simp)) (fun b o _ e n => u.free b o e n (by simp)) (fun b o _ e => u.there b o e (by simp)) u.tups u.frzs u.tbls (fun m' hm => by
  obtain ⟨o', es', ep', ho', r'⟩ := hm
  rw [ho] at ho'; cases ho'
  exact ⟨_, es', ep', hL, r'⟩) hok I.bare
theorem Inv.call {g' : Array GenState} {t' : Nat} {d' : Drawn} {ch : List Addr} (I : Inv X pins σ H s) (u : Un (frs X.stack) ch H H' s.heap h') (hok : HOk X.prog X.w H' h') (hg : AllBare g')
  (hch : ∀ b ∈ ch, (b ∈ X.ex \/ X.s₀.heap.objs.size <= b) /\ b ≠ X.env.locals /\ (∀ x c, X.env.cells.lookup x = some c -> c ≠ b) /\ ∀ p ∈ X.pn ++ pins, p.1 ≠ b) :
  Inv X pins σ H' { s with heap := h', gens := g', drawn := d', toks := t' } := by
 obtain ⟨m, ⟨o, es, ep, ho, r⟩, _⟩ := id I.loc
 obtain ⟨sl, hL⟩ := u.any ho I.free fun z => (hch _ z).2.1 rfl
 exact I.step (ch := ch) hch (fun b o hL hb hc e n => u.keep b o e n (fun z => (zq43x.mp (I.stkSub b z)).elim hL hb) hc) (fun b o _ _ hc e n => u.any e n hc) (fun b o hc e n => u.free b o e n hc) (fun b o hc e => u.there b o e hc) u.tups u.frzs u.tbls (fun m' hm => by
  obtain ⟨o', es', ep', ho', r'⟩ := hm
  rw [ho] at ho'; cases ho'
  exact ⟨_, es', ep', hL, r'⟩) hok hg
theorem Inv.turned {t' : Nat} {it : Addr} (I : Inv X pins σ H s) (k : ∀ b o, b ≠ it -> s.heap.get? b = some o -> h'.get? b = some o) (hn : H it = none) (hL : it ≠ X.env.locals)
  (h1 : it ∈ X.ex \/ X.s₀.heap.objs.size <= it) (h2 : ∀ x c, X.env.cells.lookup x = some c -> c ≠ it) (h3 : ∀ p ∈ X.pn ++ pins, p.1 ≠ it) : Inv X pins σ H { s with heap := h', toks := t' } := by
 have nit : ∀ b u, H b = some u -> b ≠ it := fun b u e z => by rw [z, hn] at e; cases e
 refine I.step (g' := s.gens) (d' := s.drawn) (ch := [it]) (fun b hb => ?_) (fun b o _ _ hc e _ => k b o (fun z => hc (by simp [z])) e) (fun b o _ _ hc e _ => ⟨o.slots, k b o (fun z => hc (by simp [z])) e⟩) (fun _ _ _ _ n => n)
  (fun b o hc e => ⟨o, k b o (fun z => hc (by simp [z])) e⟩) (fun _ _ e => e) (fun _ _ _ e => e) (fun b ps e => ⟨#[], by rw [e]; simp⟩) (fun m hm => ?_) (fun b u e => ?_) I.bare
 ·have e : b = it := by simpa using hb
  subst e
  exact ⟨h1, hL, h2, h3⟩
 ·obtain ⟨o, es, ep, ho, r⟩ := hm
  exact ⟨o, es, ep, k _ o (zq11x hL) ho, r⟩
 ·refine (I.hok b u e).stay (fun c v hc q => k c v ?_ q) (fun _ q => q) fun _ _ q => q
  rcases hc with z | z
  ·rw [z]; exact nit b u e
  ·exact nit c _ z
theorem Inv.tok (I : Inv X pins σ H s) (t : Nat) : Inv X pins σ H { s with toks := t } := I.un (h' := s.heap) (t' := t) Un.refl I.hok
theorem Inv.kept {t' : Nat} (I : Inv X pins σ H s) (k : ∀ b u, s.heap.get? b = some u -> h'.get? b = some u) : Inv X pins σ H { s with heap := h', toks := t' } := I.un (Un.kept k) (I.hok.kept k)
theorem Inv.laid {a : Addr} {o : HO} {t' : Nat} (I : Inv X pins σ H s) (k : ∀ b u, s.heap.get? b = some u -> h'.get? b = some u) (hp : s.heap.objs.size <= a) (new : ObjOk X.prog X.w (upd H a o) h' a o) :
  Inv X pins σ (upd H a o) { s with heap := h', toks := t' } := I.un (Un.laid k hp (I.hok.fresh hp)) (I.hok.laid k hp new)
theorem Inv.write {x e : Addr} {o : HO} {t' : Nat} (I : Inv X pins σ H s) (mu : Mut (H x)) (he : e = x \/ H e = some (.own x)) (k : ∀ b u, b ≠ e -> s.heap.get? b = some u -> h'.get? b = some u) (heo : ∃ u, h'.get? e = some u)
  (new : ObjOk X.prog X.w (upd H x o) h' x o) : Inv X pins σ (upd H x o) { s with heap := h', toks := t' } := I.un (Un.write mu he k heo) (I.hok.write mu he k heo new)
theorem Inv.pins_of {pins' : List (Addr × Obj)} (I : Inv X pins σ H s) (h : ∀ p ∈ pins', s.heap.get? p.1 = some p.2 /\ H p.1 = none /\ p.1 ≠ X.env.locals /\ p.1 ∉ X.fs /\ ∀ v, p.2.data ≠ .cell v) : Inv X pins' σ H s :=
 ⟨I.ok, I.os, I.bare, I.base, I.loc, I.cell, I.free, I.freeC, fun p hp => (zq29x.mp hp).elim (fun z => I.pin p (zq61x _ z)) (h p), I.hok, I.len⟩
theorem nodup_ix {N : List Str} (hN : N.Nodup) {i j : Nat} {x : Str} (a : N[i]? = some x) (b : N[j]? = some x) : i = j := by
 obtain ⟨h1, e1⟩ := zq2x.mp a
 obtain ⟨h2, e2⟩ := zq2x.mp b
 exact (zq112x hN).mp (e1.trans e2.symm)
theorem store_ok2 {M : Model} {A : Around} {E : Value -> Shared -> Prop} {i : Nat} {x : Str} {v : V} {u : Value} {Q : Unit -> Shared -> Prop} (I : Inv X pins σ H s) (hN : X.N.Nodup) (hi : X.N[i]? = some x) (hx : Loc X.env.scope x) (r : RelV v u)
  (h : ∀ s', Inv X pins (σ.set i (some v)) H s' -> (∃ a, Heap.SameBut a s.heap s'.heap /\ (a = X.env.locals \/ X.env.cells.lookup x = some a)) -> Q () s') (hf : X.fn x = true \/ X.env.scope.names.lookup x = some .local := by first | exact .inl rfl | exact .inr rfl | assumption) : wpAny M A (storeName X.env x u) Q E s := by
 obtain ⟨m, hn, hl⟩ := id I.loc
 have hcls : (X.env.scope.kind == .class || (X.env.scope.kind == .module && X.env.locals != X.env.globals)) = false := by rw [I.ok.kind]; rfl
 have hiσ : i < σ.length := by rw [I.len]; exact (zq2x.mp hi).1
 have cne := I.cne
 have tracked : ∀ {a : Addr} {h' : Heap}, (∃ o, s.heap.get? a = some o /\ H a = none) -> Heap.SameBut a s.heap h' -> HOk X.prog X.w H h' := fun {a h'} ha hs b ob e => by
  obtain ⟨_, _, hfree⟩ := ha
  refine (I.hok b ob e).stay (fun c w' hc q => (hs.2 c ?_).trans q) (fun _ q => q) fun _ _ q => q
  rintro rfl
  rcases hc with rfl | hc
  ·rw [hfree] at e; cases e
  ·rw [hfree] at hc; cases hc
 rcases hx with hk | hk
 ·refine wpAny_storeName_local hk hn (fun h' hn' hs => ?_) hcls
  obtain ⟨oL, _, _, hoL, _⟩ := id hn
  refine h _ ⟨I.ok, I.os, I.bare, ⟨fun b o e n hb hx => ?_, fun b o e n hb hx => ?_, I.base.free, fun b o e hx => ?_, I.base.tups, I.base.frzs, I.base.tbls⟩, ⟨_, hn', fun j y v' e1 e2 e3 => ?_⟩, fun y c e => ?_, I.free, I.freeC, fun p hp => ?_, tracked ⟨oL, hoL, I.free⟩ hs, by simpa using I.len⟩ ⟨_, hs, .inl rfl⟩
  ·exact (hs.2 b (zq25x (zq28x (zq9x e) I.ok.above))).trans (I.base.keep b o e n hb hx)
  ·obtain ⟨sl, e1⟩ := I.base.slot b o e n hb hx
   exact ⟨sl, (hs.2 b (zq25x (zq28x (zq9x e) I.ok.above))).trans e1⟩
  ·obtain ⟨o', e1⟩ := I.base.there b o e hx
   exact ⟨o', (hs.2 b (zq25x (zq28x (zq9x e) I.ok.above))).trans e1⟩
  ·by_cases hj : j = i
   ·subst hj
    rw [hi] at e1; cases e1
    rw [zq18x hiσ] at e2
    cases e2
    exact ⟨u, r, .inl ⟨hk, by simp⟩⟩
   ·rw [zq10x (zq11x hj)] at e2
    obtain ⟨u', r', q⟩ := hl j y v' e1 e2 e3
    refine ⟨u', r', ?_⟩
    rcases q with ⟨k, e⟩ | ⟨k, c, e, z⟩
    ·refine .inl ⟨k, ?_⟩
     have : y ≠ x := fun e => hj (nodup_ix hN e1 (e ▸ hi))
     simp [this, e]
    ·exact .inr ⟨k, c, e, z.sameBut hs (cne y c e)⟩
  ·obtain ⟨w', z⟩ := I.cell y c e
   exact ⟨w', z.sameBut hs (cne y c e)⟩
  ·obtain ⟨e, n, ne, nf, d⟩ := I.pin p hp
   exact ⟨(hs.2 p.1 ne).trans e, n, ne, nf, d⟩
 ·have hfn : X.fn x = true := by
   rcases hf with z | z
   ·exact z
   ·rw [z] at hk; cases hk
  obtain ⟨c, hc⟩ := I.ok.has x (.inl hk)
  obtain ⟨w', z⟩ := I.cell x c hc
  refine wpAny_storeName_cell I.ok.kind hk hc z (fun h' hc' hs => ?_)
  obtain ⟨oc, hoc, hocd⟩ := id z
  refine h { s with heap := h' } ⟨I.ok, I.os, I.bare, ⟨fun b o e n hb hx => ?_, fun b o e n hb hx => ?_, I.base.free, fun b o e hx => ?_, I.base.tups, I.base.frzs, I.base.tbls⟩, ⟨m, hn.sameBut hs (zq11x (cne x c hc)), fun j y v' e1 e2 e3 => ?_⟩, fun y c' e => ?_, I.free, I.freeC, fun p hp => ?_, tracked ⟨oc, hoc, I.freeC x c hc⟩ hs, by simpa using I.len⟩ ⟨c, hs, .inr hc⟩
  ·exact (hs.2 b (zq25x (zq28x (zq9x e) (I.ok.cab x c hfn hc)))).trans (I.base.keep b o e n hb hx)
  ·obtain ⟨sl, e1⟩ := I.base.slot b o e n hb hx
   exact ⟨sl, (hs.2 b (zq25x (zq28x (zq9x e) (I.ok.cab x c hfn hc)))).trans e1⟩
  ·obtain ⟨o', e1⟩ := I.base.there b o e hx
   exact ⟨o', (hs.2 b (zq25x (zq28x (zq9x e) (I.ok.cab x c hfn hc)))).trans e1⟩
  ·by_cases hj : j = i
   ·subst hj
    rw [hi] at e1; cases e1
    rw [zq18x hiσ] at e2
    cases e2
    exact ⟨u, r, .inr ⟨.inl hk, c, hc, hc'⟩⟩
   ·rw [zq10x (zq11x hj)] at e2
    obtain ⟨u', r', q⟩ := hl j y v' e1 e2 e3
    refine ⟨u', r', ?_⟩
    rcases q with q | ⟨k, c', e, z'⟩
    ·exact .inl q
    ·refine .inr ⟨k, c', e, z'.sameBut hs ?_⟩
     rintro rfl
     exact hj (nodup_ix hN e1 (I.ok.inj _ _ _ e hc ▸ hi))
  ·by_cases hcc : c' = c
   ·subst hcc; exact ⟨_, hc'⟩
   ·obtain ⟨w2, z2⟩ := I.cell y c' e
    exact ⟨w2, z2.sameBut hs hcc⟩
  ·obtain ⟨e, n, ne, nf, d⟩ := I.pin p hp
   refine ⟨(hs.2 p.1 ?_).trans e, n, ne, nf, d⟩
   intro q
   rw [q, hoc] at e
   have q' : oc = p.2 := zq31x e
   exact d w' (by rw [<- q']; exact hocd)
theorem store_ok {M : Model} {A : Around} {E : Value -> Shared -> Prop} {i : Nat} {x : Str} {v : V} {u : Value} {Q : Unit -> Shared -> Prop} (I : Inv X pins σ H s) (hN : X.N.Nodup) (hi : X.N[i]? = some x) (hx : Loc X.env.scope x) (r : RelV v u)
  (h : ∀ s', Inv X pins (σ.set i (some v)) H s' -> Q () s') (hf : X.fn x = true \/ X.env.scope.names.lookup x = some .local := by first | exact .inl rfl | exact .inr rfl | assumption) : wpAny M A (storeName X.env x u) Q E s :=
 store_ok2 I hN hi hx r (fun s' I' _ => h s' I') hf
theorem Inv.call' {s' : Shared} {ch : List Addr} (I : Inv X pins σ H s) (ho : s'.os = s.os) (u : Un (frs X.stack) ch H H' s.heap s'.heap) (hok : HOk X.prog X.w H' s'.heap) (hg : AllBare s'.gens)
  (hch : ∀ b ∈ ch, (b ∈ X.ex \/ X.s₀.heap.objs.size <= b) /\ b ≠ X.env.locals /\ (∀ x c, X.env.cells.lookup x = some c -> c ≠ b) /\ ∀ p ∈ X.pn ++ pins, p.1 ≠ b) : Inv X pins σ H' s' := by
 obtain ⟨h', g', d', t', o'⟩ := s'
 have e : o' = s.os := ho
 subst e
 exact I.call (g' := g') (t' := t') (d' := d') u hok hg hch
end
abbrev XK := Value -> Option Addr -> Hp -> Prop
abbrev St := List (Option V)
abbrev VK := V -> Hp -> Prop
abbrev TE := St -> Hp -> VK -> Prop
abbrev TT := St -> Hp -> (Bool -> Hp -> Prop) -> Prop
abbrev TA := St -> Hp -> (List V -> Hp -> Prop) -> Prop
structure Ends where
 nx : St -> Hp -> Prop
 rt : VK
 bk : St -> Hp -> Prop := fun _ _ => False
 ct : St -> Hp -> Prop := fun _ _ => False
abbrev TS := Ends -> St -> Hp -> Prop
def EP (X : Cx) (pins : List (Addr × Obj)) (σ : St) (Q : VK) (u : Value) (s' : Shared) : Prop := ∃ v H', Inv X pins σ H' s' /\ RelV v u /\ Q v H'
def TP (X : Cx) (pins : List (Addr × Obj)) (σ : St) (Q : Bool -> Hp -> Prop) (b : Bool) (s' : Shared) : Prop := ∃ H', Inv X pins σ H' s' /\ Q b H'
def AP (X : Cx) (pins : List (Addr × Obj)) (σ : St) (Q : List V -> Hp -> Prop) (us : List Value) (s' : Shared) : Prop := ∃ vs H', Inv X pins σ H' s' /\ Vals vs us /\ Q vs H'
def SP (X : Cx) (pins : List (Addr × Obj)) (D : Ends) (f : Flow) (s' : Shared) : Prop :=
 match f with
 | .next => ∃ σ' H', Inv X pins σ' H' s' /\ D.nx σ' H'
 | .brk => ∃ σ' H', Inv X pins σ' H' s' /\ D.bk σ' H'
 | .cont => ∃ σ' H', Inv X pins σ' H' s' /\ D.ct σ' H'
 | .ret u => ∃ v σ' H', Inv X pins σ' H' s' /\ RelV v u /\ D.rt v H'
def PE (X : Cx) (e : Expr) (t : TE) : Prop :=
 ∀ (pins : List (Addr × Obj)) (s : Shared) (σ : St) (H : Hp) (Q : VK), Inv X pins σ H s -> t σ H Q -> wpAny (model X.prog X.w) X.A (eval e X.env) (EP X pins σ Q) X.xe s
def PT (X : Cx) (e : Expr) (t : TT) : Prop :=
 ∀ (pins : List (Addr × Obj)) (s : Shared) (σ : St) (H : Hp) (Q : Bool -> Hp -> Prop), Inv X pins σ H s -> t σ H Q -> wpAny (model X.prog X.w) X.A (isTrue e X.env (eval e X.env)) (TP X pins σ Q) X.xe s
def PW (X : Cx) (e : Expr) (t : TT) : Prop :=
 ∀ (whole : Sem Value) (pins : List (Addr × Obj)) (s : Shared) (σ : St) (H : Hp) (Q : Bool -> Hp -> Prop), Inv X pins σ H s -> t σ H Q -> wpAny (model X.prog X.w) X.A (isTrue e X.env whole) (TP X pins σ Q) X.xe s
theorem PW.pt {X : Cx} {e : Expr} {t : TT} (h : PW X e t) : PT X e t := h _
def PA (X : Cx) (es : List Expr) (t : TA) : Prop :=
 ∀ (pos : Pos) (pins : List (Addr × Obj)) (s : Shared) (σ : St) (H : Hp) (Q : List V -> Hp -> Prop), Inv X pins σ H s -> t σ H Q -> wpAny (model X.prog X.w) X.A (spliced (backTo pos (starEach es X.env))) (AP X pins σ Q) X.xe s
def PS (X : Cx) (st : Stmt) (t : TS) : Prop :=
 ∀ (pins : List (Addr × Obj)) (s : Shared) (σ : St) (H : Hp) (D : Ends), Inv X pins σ H s -> t D σ H -> wpAny (model X.prog X.w) X.A (exec st X.env) (SP X pins D) X.xe s
def PSs (X : Cx) (st : List Stmt) (t : TS) : Prop :=
 ∀ (pins : List (Addr × Obj)) (s : Shared) (σ : St) (H : Hp) (D : Ends), Inv X pins σ H s -> t D σ H -> wpAny (model X.prog X.w) X.A (execs st X.env) (SP X pins D) X.xe s
theorem thn {α : Type} {t : Sem α} {Q Q' : α -> Shared -> Prop} {M : Model} {A : Around} {E : Value -> Shared -> Prop} {s : Shared} (h : wpAny M A t Q E s) (hQ : ∀ a s, Q a s -> Q' a s) : wpAny M A t Q' E s := wpAny_mono h hQ fun _ _ x => x
section
variable {X : Cx}
theorem bin {a b : Expr} {ta tb : TE} (ha : PE X a ta) (hb : PE X b tb) {pins : List (Addr × Obj)} {s : Shared} {σ : St} {H : Hp} {R : V -> V -> Hp -> Prop} (I : Inv X pins σ H s) (h : ta σ H fun x H1 => tb σ H1 fun y H2 => R x y H2)
  {α : Type} {Q : α -> Shared -> Prop} {f : Value -> Value -> Sem α}
  (hf : ∀ v u s2 x y H2, Inv X pins σ H2 s2 -> RelV x v -> RelV y u -> R x y H2 -> wpAny (model X.prog X.w) X.A (f v u) Q X.xe s2) :
  wpAny (model X.prog X.w) X.A (eval a X.env) (fun v s₁ => wpAny (model X.prog X.w) X.A (eval b X.env) (fun u s₂ => wpAny (model X.prog X.w) X.A (f v u) Q X.xe s₂) X.xe s₁) X.xe s := by
 refine thn (ha pins s σ H _ I h) fun v s1 ⟨x, H1, I1, r1, q1⟩ => ?_
 refine thn (hb pins s1 σ H1 _ I1 q1) fun u s2 ⟨y, H2, I2, r2, q2⟩ => ?_
 exact hf v u s2 x y H2 I2 r1 r2 q2
def tVar (i : Nat) : TE := fun σ H Q => ∃ v, σ[i]? = some (some v) /\ Q v H
def tC (v : V) : TE := fun _ H Q => Q v H
theorem pe_var {i : Nat} {x : Str} {pos : Pos} (hN : X.N[i]? = some x) (hv : Vis X.env.scope x) (hd : (x == ("__debug__" : Str)) = false := by decide) (hcd : (x == ("__classdict__" : Str)) = false := by decide) : PE X (.Name x pos) (tVar i) := by
 intro pins s σ H Q I h
 obtain ⟨v, e, h⟩ := h
 obtain ⟨m, hn, hl⟩ := I.loc
 obtain ⟨u, r, l⟩ := hl i x v hN e hv
 have fin : EP X pins σ Q u s := ⟨v, H, I, r, h⟩
 rcases l with ⟨hk, hm⟩ | ⟨hk, c, hc, hcell⟩
 ·exact wpAny_Name (wpAny_loadName_local I.ok.kind hk hn hm fin) hd
 ·rcases hk with hk | hk
  ·exact wpAny_Name (wpAny_loadName_cell I.ok.kind hk hc hcell fin) hd
  ·exact wpAny_Name (wpAny_loadName_free I.ok.kind hk hc hcell fin hcd) hd
theorem pe_int {i j pos} : PE X (.Constant (.int i) j pos) (tC (.int i)) := fun _ _ _ H _ I h => wpAny_Constant_int ⟨.int i, H, I.tok _, ⟨_, rfl⟩, h⟩
theorem pe_bl {b j pos} : PE X (.Constant (.bool b) j pos) (tC (.bl b)) := fun _ _ _ H _ I h => Constant_bool ⟨.bl b, H, I, rfl, h⟩
theorem pe_non {j pos} : PE X (.Constant .none j pos) (tC .non) := fun _ _ _ H _ I h => Constant_none ⟨.non, H, I, rfl, h⟩
def Gl (X : Cx) (x : Str) : Prop := X.env.kindOf x = some .globalImplicit
theorem ld_glob {E : Value -> Shared -> Prop} {pins : List (Addr × Obj)} {s : Shared} {σ : St} {H : Hp} {x : Str} {u : Value} {pos : Pos} {Q : Value -> Shared -> Prop} (I : Inv X pins σ H s) (hg : Gl X x) (hm : X.mg x = some u) (h : Q u s)
  (hd : (x == ("__debug__" : Str)) = false := by decide) : wpAny (model X.prog X.w) X.A (eval (.Name x pos) X.env) Q E s :=
 zq177x I.ok.kind hg (Calls.loadGlobal_global (by rw [I.ok.glob]; exact I.mod.glob.keeps I.bk) hm h) hd
theorem ld_blt {E : Value -> Shared -> Prop} {pins : List (Addr × Obj)} {s : Shared} {σ : St} {H : Hp} {x : Str} {u : Value} {pos : Pos} {Q : Value -> Shared -> Prop} (I : Inv X pins σ H s) (hg : Gl X x) (hm : X.mg x = none) (hv : bootBuiltins x = some u) (h : Q u s)
  (hn : x ≠ "__name__" := by decide) (hd : (x == ("__debug__" : Str)) = false := by decide) : wpAny (model X.prog X.w) X.A (eval (.Name x pos) X.env) Q E s := by
 obtain ⟨mb, h1, h2⟩ := I.mod.blt
 exact zq177x I.ok.kind hg (Calls.loadGlobal_builtin (by rw [I.ok.glob]; exact I.mod.glob.keeps I.bk) hm (by rw [I.ok.blt]; exact h1.keeps I.bk) ((h2 x hn).trans hv) h) hd
theorem pe_bltn {x : Str} {v : V} {u : Value} {pos : Pos} (hg : Gl X x) (hm : X.mg x = none) (hv : bootBuiltins x = some u) (r : RelV v u) (hn : x ≠ "__name__" := by decide) (hd : (x == ("__debug__" : Str)) = false := by decide) : PE X (.Name x pos) (tC v) :=
 fun _ _ _ H _ I h => ld_blt I hg hm hv ⟨v, H, I, r, h⟩ hn hd
variable {a b : Expr} {ta tb : TE} {pos : Pos}
def PC (X : Cx) (op : CmpOp) (a b : Expr) (t : TE) : Prop :=
 ∀ (pins : List (Addr × Obj)) (s : Shared) (σ : St) (H : Hp) (Q : VK), Inv X pins σ H s -> t σ H Q ->
  wpAny (model X.prog X.w) X.A (eval a X.env) (fun v s₁ => wpAny (model X.prog X.w) X.A (eval b X.env) (fun u s₂ => wpAny (model X.prog X.w) X.A (compareOp op v u) (EP X pins σ Q) X.xe s₂) X.xe s₁) X.xe s
variable {tA tB' : TT} {rest : List Expr}
def tAnd (t u : TT) : TT := fun σ H Q => t σ H fun c H1 => if c = true then u σ H1 Q else Q false H1
def tOr (t u : TT) : TT := fun σ H Q => t σ H fun c H1 => if c = true then Q true H1 else u σ H1 Q
def tNot (t : TT) : TT := fun σ H Q => t σ H fun c H1 => Q (!c) H1
theorem pw_and1 (ha : PT X a tA) : PW X (.BoolOp .And [a] pos) tA := by
 intro wh pins s σ H Q I h
 refine isTrue_and (thn (ha pins s σ H Q I h) fun c s1 e => ?_)
 cases c with
 | true => exact isTrue_and_nil e
 | false => exact e
theorem pw_or1 (ha : PT X a tA) : PW X (.BoolOp .Or [a] pos) tA := by
 intro wh pins s σ H Q I h
 refine isTrue_or (thn (ha pins s σ H Q I h) fun c s1 e => ?_)
 cases c with
 | false => exact isTrue_or_nil e
 | true => exact e
theorem pw_and (ha : PT X a tA) (hb : PW X (.BoolOp .And (b :: rest) pos) tB') : PW X (.BoolOp .And (a :: b :: rest) pos) (tAnd tA tB') := by
 intro wh pins s σ H Q I h
 refine isTrue_and (thn (ha pins s σ H _ I h) fun c s1 ⟨H1, I1, q1⟩ => ?_)
 cases c with
 | true => exact hb wh pins s1 σ H1 Q I1 q1
 | false => exact ⟨H1, I1, q1⟩
theorem pw_or (ha : PT X a tA) (hb : PW X (.BoolOp .Or (b :: rest) pos) tB') : PW X (.BoolOp .Or (a :: b :: rest) pos) (tOr tA tB') := by
 intro wh pins s σ H Q I h
 refine isTrue_or (thn (ha pins s σ H _ I h) fun c s1 ⟨H1, I1, q1⟩ => ?_)
 cases c with
 | true => exact ⟨H1, I1, q1⟩
 | false => exact hb wh pins s1 σ H1 Q I1 q1
theorem pt_not (ha : PT X a tA) : PT X (.UnaryOp .Not a pos) (tNot tA) := by
 intro pins s σ H Q I h
 exact isTrue_not (ha pins s σ H (fun c H1 => Q (!c) H1) I h)
def tAndV (ta tb : TE) : TE := fun σ H Q => ta σ H fun x H1 => ∃ c, x = .bl c /\ if c = true then tb σ H1 Q else Q (.bl false) H1
theorem pe_one {op} {t : TE} (h : PE X a t) : PE X (.BoolOp op [a] pos) t := fun pins s σ H Q I hw => BoolOp_one (h pins s σ H Q I hw)
theorem pe_and (ha : PE X a ta) (hb : PE X (.BoolOp .And (b :: rest) pos) tb) : PE X (.BoolOp .And (a :: b :: rest) pos) (tAndV ta tb) := by
 intro pins s σ H Q I h
 refine BoolOp_and (thn (ha pins s σ H _ I h) fun v s1 ⟨x, H1, I1, r1, q1⟩ => ?_)
 obtain ⟨c, rfl, q1⟩ := q1
 cases r1
 refine wpAny_truthy_bool ?_
 cases c with
 | true => exact hb pins s1 σ H1 Q I1 q1
 | false => exact ⟨.bl false, H1, I1, rfl, q1⟩
def tIf (t : TT) (ta tb : TE) : TE := fun σ H Q => t σ H fun c H1 => if c = true then ta σ H1 Q else tb σ H1 Q
theorem pe_ifExp {c : Expr} (hc : PT X c tA) (ha : PE X a ta) (hb : PE X b tb) : PE X (.IfExp c a b pos) (tIf tA ta tb) := by
 intro pins s σ H Q I h
 refine wpAny_IfExp (thn (hc pins s σ H _ I h) fun d s1 ⟨H1, I1, q1⟩ => ?_)
 cases d with
 | true => exact ha pins s1 σ H1 Q I1 q1
 | false => exact hb pins s1 σ H1 Q I1 q1
end
def SqL (K : PySem.W.Frag) (H : Hp) (a : Addr) (xs : List V) : Prop :=
 Rd H a (.lst xs) \/
  ∃ (o : Obj) (its : Array Value) (n : Nat), K.lookup a = some o /\ o.cls = .type "list" /\ o.dict = none /\ o.data = .seq its n /\ its.size <= sizeLine /\ Vals xs its.toList
def SqT (K : PySem.W.Frag) (H : Hp) (a : Addr) (xs : List V) : Prop :=
 Rd H a (.tup xs) \/
  ∃ (o : Obj) (its : Array Value) (n : Nat), K.lookup a = some o /\ o.cls = .type "tuple" /\ o.data = .seq its n /\ its.size <= sizeLine /\ Vals xs its.toList
def absV : Value -> Option V
 | .none => some .non
 | .bool b => some (.bl b)
 | .int i _ => some (.int i)
 | .str x _ => some (.str x)
 | .bytes b _ => some (.byt b)
 | .float b _ => some (.flt b)
 | .ref a => some (.ref a)
 | .type n => some (.ty n)
 | _ => none
theorem RelV.abs {x : V} {u : Value} (r : RelV x u) : absV u = some x := by
 cases x with
 | non => cases r; rfl
 | bl _ => cases r; rfl
 | int _ => obtain ⟨t, rfl⟩ := r; rfl
 | str _ => obtain ⟨t, rfl⟩ := r; rfl
 | byt _ => obtain ⟨t, rfl⟩ := r; rfl
 | flt _ => obtain ⟨t, rfl⟩ := r; rfl
 | ref _ => cases r; rfl
 | ty _ => cases r; rfl
theorem RelV.inj {x y : V} {u : Value} (r : RelV x u) (q : RelV y u) : x = y := zq31x (r.abs.symm.trans q.abs)
theorem Vals.inj {xs ys : List V} {us : List Value} (h : Vals xs us) (k : Vals ys us) : xs = ys := by
 induction h generalizing ys with
 | nil => cases k; rfl
 | cons r t ih => cases k with | cons r' t' => rw [r.inj r', ih t']
section
variable {X : Cx} {pins : List (Addr × Obj)} {σ : St} {H : Hp} {s : Shared} {a : Addr} {xs ys : List V}
theorem SqL.of {K : PySem.W.Frag} (h : H a = some (.lst xs)) : SqL K H a xs := .inl (.inl h)
theorem SqT.of {K : PySem.W.Frag} (h : H a = some (.tup xs)) : SqT K H a xs := .inl (.inl h)
theorem Inv.list (I : Inv X pins σ H s) (h : SqL X.K H a xs) : ∃ its : List Value, Vals xs its /\ PlainL s.heap a its.toArray /\ xs.length <= sizeLine := by
 rcases h with h | ⟨o, its, n, hk, hc, hd, hs, hz, r⟩
 ·obtain ⟨z, its, n, r, e⟩ := h.ok I.hok
  exact ⟨its, r, ⟨_, n, e, rfl, rfl, rfl⟩, z⟩
 ·refine ⟨its.toList, r, ⟨o, n, I.kIn a o hk, hc, hd, by simpa using hs⟩, ?_⟩
  have e := r.length
  simp only [zq84x] at e
  omega
theorem Inv.tuple (I : Inv X pins σ H s) (h : SqT X.K H a xs) : ∃ its : List Value, Vals xs its /\ IsTup s.heap a its.toArray /\ xs.length <= sizeLine := by
 rcases h with h | ⟨o, its, n, hk, hc, hs, hz, r⟩
 ·obtain ⟨z, its, r, p⟩ := h.ok I.hok
  exact ⟨its, r, p, z⟩
 ·refine ⟨its.toList, r, ⟨o, I.kIn a o hk, hc, n, by simpa using hs⟩, ?_⟩
  have e := r.length
  simp only [zq84x] at e
  omega
theorem Inv.list_inj (I : Inv X pins σ H s) (h : SqL X.K H a xs) (h' : SqL X.K H a ys) : xs = ys := by
 obtain ⟨its, r, ⟨o, n, e, _, _, d⟩, _⟩ := I.list h
 obtain ⟨its', r', ⟨o', n', e', _, _, d'⟩, _⟩ := I.list h'
 rw [e] at e'; cases e'
 rw [d] at d'
 injection d' with d1 _
 have : its = its' := by simpa using congrArg Array.toList d1
 subst this
 exact r.inj r'
end
abbrev Cx.wish (X : Cx) (E : Value -> Shared -> Prop) : Cx := { X with xe := E }
abbrev Cx.nox (X : Cx) : Cx := X.wish fun _ _ => False
theorem Cx.Ok.wish {X : Cx} (ok : X.Ok) (E : Value -> Shared -> Prop) : (X.wish E).Ok :=
 ⟨ok.mod, ok.kind, ok.glob, ok.blt, ok.above, ok.inj, ok.has, ok.cab, ok.hd, ok.frames, ok.stk, ok.exf, ok.bs, ok.bsz, ok.noex, ok.exfs, ok.funs, ok.frf⟩
theorem Cx.Ok.unwish {X : Cx} {E : Value -> Shared -> Prop} (ok : (X.wish E).Ok) : X.Ok :=
 ⟨ok.mod, ok.kind, ok.glob, ok.blt, ok.above, ok.inj, ok.has, ok.cab, ok.hd, ok.frames, ok.stk, ok.exf, ok.bs, ok.bsz, ok.noex, ok.exfs, ok.funs, ok.frf⟩
section
variable {X : Cx} {pins : List (Addr × Obj)} {σ : St} {H : Hp} {s : Shared} {E : Value -> Shared -> Prop}
theorem Inv.wish (I : Inv X pins σ H s) (E : Value -> Shared -> Prop) : Inv (X.wish E) pins σ H s := ⟨I.ok.wish E, I.os, I.bare, I.base, I.loc, I.cell, I.free, I.freeC, I.pin, I.hok, I.len⟩
theorem Inv.unwish (I : Inv (X.wish E) pins σ H s) : Inv X pins σ H s := ⟨I.ok.unwish, I.os, I.bare, I.base, I.loc, I.cell, I.free, I.freeC, I.pin, I.hok, I.len⟩
theorem SP.unwish {D : Ends} {f : Flow} {s' : Shared} (h : SP (X.wish E) pins D f s') : SP X pins D f s' := by
 cases f with
 | next => obtain ⟨σ', H', I, q⟩ := h; exact ⟨σ', H', I.unwish, q⟩
 | brk => obtain ⟨σ', H', I, q⟩ := h; exact ⟨σ', H', I.unwish, q⟩
 | cont => obtain ⟨σ', H', I, q⟩ := h; exact ⟨σ', H', I.unwish, q⟩
 | ret u => obtain ⟨v, σ', H', I, r, q⟩ := h; exact ⟨v, σ', H', I.unwish, r, q⟩
theorem PSs.nox {st : List Stmt} {t : TS} (h : PSs X.nox st t) : PSs X st t := fun pins s σ H D I hw =>
 wpAny_mono (h pins s σ H D (I.wish _) hw) (fun _ _ q => q.unwish) fun _ _ z => False.elim z
end
section
variable {X : Cx} {st : Stmt} {rest : List Stmt} {t u : TS} {e : Expr} {te : TE} {pos : Pos}
def tNext : TS := fun D σ H => D.nx σ H
def tSeq (t u : TS) : TS := fun D σ H => t { D with nx := u D } σ H
theorem pss_nil : PSs X [] tNext := fun _ _ σ H _ I h => wpAny_execs_nil ⟨σ, H, I, h⟩
theorem pss_cons (h1 : PS X st t) (h2 : PSs X rest u) : PSs X (st :: rest) (tSeq t u) := by
  intro pins s σ H D I h
  refine wpAny_execs_cons (thn (h1 pins s σ H { D with nx := u D } I h) fun f s1 q => ?_)
  cases f with
  | next =>
    obtain ⟨σ', H', I', q⟩ := q
    exact h2 pins s1 σ' H' D I' q
  | ret v => exact q
  | brk => exact q
  | cont => exact q
theorem pss_one (h1 : PS X st t) : PSs X [st] t := by
 intro pins s σ H D I h
 refine wpAny_execs_cons (thn (h1 pins s σ H D I h) fun f s1 q => ?_)
 cases f with
 | next => exact wpAny_execs_nil q
 | ret v => exact q
 | brk => exact q
 | cont => exact q
def tBreak : TS := fun D σ H => D.bk σ H
def tCont : TS := fun D σ H => D.ct σ H
theorem Inv.quiet {pins : List (Addr × Obj)} {σ : St} {H : Hp} {s : Shared} (I : Inv X pins σ H s) : interactive X.env = false := by simp [interactive, I.ok.kind]
def tDrop (te : TE) : TS := fun D σ H => te σ H fun _ H1 => D.nx σ H1
theorem ps_expr (he : PE X e te) (hs : swapsWith e none pos.line X.env = pure false := by rfl) : PS X (.Expr e pos) (tDrop te) := by
 intro pins s σ H D I h
 exact wpAny_Expr_any (thn (he pins s σ H _ I h) fun v s1 ⟨x, H1, I1, r1, q1⟩ => ⟨σ, H1, I1, q1⟩) I.quiet hs
def tRet (te : TE) : TS := fun D σ H => te σ H D.rt
theorem ps_ret (he : PE X e te) : PS X (.Return (some e) pos) (tRet te) := by
 intro pins s σ H D I h
 exact wpAny_Return_some (thn (he pins s σ H _ I h) fun v s1 ⟨x, H1, I1, r1, q1⟩ => ⟨x, σ, H1, I1, r1, q1⟩)
def tIfS (c : TT) (t u : TS) : TS := fun D σ H => c σ H fun b H1 => if b = true then t D σ H1 else u D σ H1
theorem ps_if {c : Expr} {a b : List Stmt} {tc : TT} (hc : PT X c tc) (ha : PSs X a t) (hb : PSs X b u) : PS X (.If c a b pos) (tIfS tc t u) := by
 intro pins s σ H D I h
 refine wpAny_If (thn (hc pins s σ H _ I h) fun d s1 ⟨H1, I1, q1⟩ => ?_)
 cases d with
 | true => exact ha pins s1 σ H1 D I1 q1
 | false => exact hb pins s1 σ H1 D I1 q1
end
abbrev TG := V -> St -> Hp -> (St -> Hp -> Prop) -> Prop
abbrev TGs := List V -> St -> Hp -> (St -> Hp -> Prop) -> Prop
def PG (X : Cx) (target : Expr) (t : TG) : Prop :=
 ∀ (pins : List (Addr × Obj)) (s : Shared) (σ : St) (H : Hp) (v : V) (u : Value) (Q : St -> Hp -> Prop), Inv X pins σ H s -> RelV v u -> t v σ H Q ->
  wpAny (model X.prog X.w) X.A (assign target X.env u) (fun _ s' => ∃ σ' H', Inv X pins σ' H' s' /\ Q σ' H') X.xe s
def PGs (X : Cx) (ts : List Expr) (t : TGs) : Prop :=
 ∀ (pins : List (Addr × Obj)) (s : Shared) (σ : St) (H : Hp) (vs : List V) (us : List Value) (Q : St -> Hp -> Prop), Inv X pins σ H s -> Vals vs us -> t vs σ H Q ->
  wpAny (model X.prog X.w) X.A (assignInOrder ((assignEach ts X.env).map (·.2)) us) (fun _ s' => ∃ σ' H', Inv X pins σ' H' s' /\ Q σ' H') X.xe s
abbrev TSet := V -> V -> V -> Hp -> (Hp -> Prop) -> Prop
def PSet (X : Cx) (t : TSet) : Prop :=
 ∀ (pins : List (Addr × Obj)) (s : Shared) (σ : St) (H : Hp) (o i v : V) (ov iv u : Value) (Q : Hp -> Prop), Inv X pins σ H s -> RelV o ov -> RelV i iv -> RelV v u -> t o i v H Q ->
  wpAny (model X.prog X.w) X.A (setItem ov iv u) (fun _ s' => ∃ H', Inv X pins σ H' s' /\ Q H') X.xe s
abbrev TIp := V -> V -> Hp -> VK -> Prop
def PIp (X : Cx) (op : Operator) (t : TIp) : Prop :=
 ∀ (pins : List (Addr × Obj)) (s : Shared) (σ : St) (H : Hp) (x y : V) (v u : Value) (Q : VK), Inv X pins σ H s -> RelV x v -> RelV y u -> t x y H Q ->
  wpAny (model X.prog X.w) X.A (inplaceOp op v u) (EP X pins σ Q) X.xe s
section
variable {X : Cx} {pos : Pos}
def gName (i : Nat) : TG := fun v σ H Q => Q (σ.set i (some v)) H
theorem pg_name {i : Nat} {x : Str} (hN : X.N.Nodup) (hi : X.N[i]? = some x) (hx : Loc X.env.scope x) (hf : X.fn x = true \/ X.env.scope.names.lookup x = some .local := by first | exact .inl rfl | exact .inr rfl | assumption) : PG X (.Name x pos) (gName i) := by
 intro pins s σ H v u Q I r h
 exact wpAny_assign_Name (store_ok I hN hi hx r (fun s' I' => ⟨_, H, I', h⟩) hf)
def gNil : TGs := fun vs σ H Q => vs = [] /\ Q σ H
def gCons (t : TG) (u : TGs) : TGs := fun vs σ H Q => ∃ v r, vs = v :: r /\ t v σ H fun σ' H' => u r σ' H' Q
theorem pgs_nil : PGs X [] gNil := by
 intro pins s σ H vs us Q I r h
 obtain ⟨e, h⟩ := h
 subst e
 cases r
 exact assignInOrder_nil ⟨σ, H, I, h⟩
theorem pgs_cons {e : Expr} {es : List Expr} {t : TG} {u : TGs} (h1 : PG X e t) (h2 : PGs X es u)
    (hs : (assignEach (e :: es) X.env).map (·.2) = assign e X.env :: (assignEach es X.env).map (·.2) := by rfl) : PGs X (e :: es) (gCons t u) := by
  intro pins s σ H vs us Q I r h
  obtain ⟨v, vr, e1, h⟩ := h
  subst e1
  cases r with
  | cons r rr =>
    rw [hs]
    refine assignInOrder_cons (thn (h1 pins s σ H _ _ _ I r h) fun _ s1 ⟨σ1, H1, I1, q1⟩ => ?_)
    exact h2 pins s1 σ1 H1 _ _ Q I1 rr q1
def gTup (K : PySem.W.Frag) (n : Nat) (t : TGs) : TG := fun v σ H Q => ∃ a xs, v = .ref a /\ SqT K H a xs /\ xs.length = n /\ t xs σ H Q
theorem pg_tup {es : List Expr} {k : Nat} {t : TGs} {n : Nat} (hc : X.calm = true) (h : PGs X es t)
  (hn : (assignEach es X.env).length = n := by rfl) (hst : (assignEach es X.env).findIdx? (·.1) = none := by rfl) : PG X (.Tuple es k pos) (gTup X.K n t) := by
 intro pins s σ H v u Q I r hw
 obtain ⟨a, xs, e1, hq, hl, hw⟩ := hw
 subst e1
 cases r
 obtain ⟨its, rv, ht, hz⟩ := I.tuple hq
 refine assign_Tuple_tuple (I.ok.hd hc) ht (by simp [hn, <- hl, rv.length]) hst fun h' hx => ?_
 have I1 : Inv X pins σ H { s with heap := h' } := I.kept (t' := s.toks) fun b o e => hx b o (zq25x (zq9x e)) e
 exact h pins _ σ H xs _ Q I1 (by simpa using rv) hw
def gSub (to ti : TE) (t : TSet) : TG := fun v σ H Q => to σ H fun o H1 => ti σ H1 fun i H2 => t o i v H2 fun H3 => Q σ H3
theorem pg_sub {o i : Expr} {to ti : TE} {t : TSet} (ho : PE X o to) (hi : PE X i ti) (hs : PSet X t)
  (ha : ∀ v, assign (.Subscript o i pos) X.env v = (do
   let ov <- holding [v] (eval o X.env)
   let iv <- holding [v, ov] (eval i X.env)
   standAt pos
   holding [v, ov, iv] (setItem ov iv v)
   release [v, ov, iv] []) := by intro _; rfl) : PG X (.Subscript o i pos) (gSub to ti t) := by
 intro pins s σ H v u Q I r h
 rw [ha]
 refine wpAny_bind (wpAny_holding (thn (ho pins s σ H _ I h) fun ov s1 ⟨x, H1, I1, r1, q1⟩ => ?_))
 refine wpAny_bind (wpAny_holding (thn (hi pins s1 σ H1 _ I1 q1) fun iv s2 ⟨y, H2, I2, r2, q2⟩ => ?_))
 refine wpAny_bind (wpAny_standAt (wpAny_bind (wpAny_holding (thn (hs pins s2 σ H2 x y v ov iv u _ I2 r1 r2 r q2) fun _ s3 ⟨H3, I3, q3⟩ => ?_))))
 exact wpAny_release ⟨σ, H3, I3, q3⟩
def tAsg (te : TE) (g : TG) : TS := fun D σ H => te σ H fun x H1 => g x σ H1 D.nx
theorem ps_asg {tg e : Expr} {te : TE} {g : TG} (he : PE X e te) (hg : PG X tg g) (hs : swapsWithSole [tg] e pos.line X.env = pure false := by rfl) (hw : swappedStores [tg] e X.env = pure none := by rfl)
  (h1 : (assignEach [tg] X.env).map (·.2) = [assign tg X.env] := by rfl) : PS X (.Assign [tg] e pos) (tAsg te g) := by
 intro pins s σ H D I h
 refine wpAny_Assign_stores (thn (he pins s σ H _ I h) fun v s1 ⟨x, H1, I1, r1, q1⟩ => ?_) hs hw
 rw [h1]
 exact thn (hg pins s1 σ H1 x v _ I1 r1 q1) fun _ s2 q => q
theorem ps_set {i : Nat} {x : Str} {e : Expr} {te : TE} {pos' : Pos} (hN : X.N.Nodup) (hi : X.N[i]? = some x) (hx : Loc X.env.scope x) (he : PE X e te) (hs : swapsWith e (some (.Name x pos')) pos.line X.env = pure false := by rfl) (hf : X.fn x = true \/ X.env.scope.names.lookup x = some .local := by first | exact .inl rfl | exact .inr rfl | assumption) :
  PS X (.Assign [.Name x pos'] e pos) (tAsg te (gName i)) := by
 intro pins s σ H D I h
 refine wpAny_Assign_Name (thn (he pins s σ H _ I h) fun v s1 ⟨y, H1, I1, r1, q1⟩ => ?_) hs
 exact store_ok I1 hN hi hx r1 (fun s2 I2 => ⟨_, H1, I2, q1⟩) hf
def tAugS (to ti te : TE) (tget : V -> V -> Hp -> VK -> Prop) (tip : TIp) (tset : TSet) : TS := fun D σ H => to σ H fun o H1 => ti σ H1 fun i H2 => tget o i H2 fun x H3 => te σ H3 fun y H4 => tip x y H4 fun z H5 => tset o i z H5 fun H6 => D.nx σ H6
def PGet (X : Cx) (t : V -> V -> Hp -> VK -> Prop) : Prop :=
 ∀ (pins : List (Addr × Obj)) (s : Shared) (σ : St) (H : Hp) (o i : V) (ov iv : Value) (Q : VK), Inv X pins σ H s -> RelV o ov -> RelV i iv -> t o i H Q ->
  wpAny (model X.prog X.w) X.A (getItem ov iv) (EP X pins σ Q) X.xe s
theorem ps_augS {o i e : Expr} {to ti te : TE} {tget : V -> V -> Hp -> VK -> Prop} {tip : TIp} {tset : TSet} {op : Operator} {tpos : Pos} (ho : PE X o to) (hi : PE X i ti) (hg : PGet X tget) (he : PE X e te) (hp : PIp X op tip) (hs : PSet X tset)
  (ha : ∀ ov iv new, augStore i ov iv new = (do holding [new, ov, iv] (setItem ov iv new); release [new, ov, iv] []; pure .next) := by intros; rfl) : PS X (.AugAssign (.Subscript o i tpos) op e pos) (tAugS to ti te tget tip tset) := by
 intro pins s σ H D I h
 refine wpAny_AugAssign_SubscriptAny (thn (ho pins s σ H _ I h) fun ov s1 ⟨x1, H1, I1, r1, q1⟩ => ?_) ha
 refine thn (hi pins s1 σ H1 _ I1 q1) fun iv s2 ⟨x2, H2, I2, r2, q2⟩ => ?_
 refine thn (hg pins s2 σ H2 x1 x2 ov iv _ I2 r1 r2 q2) fun old s3 ⟨x3, H3, I3, r3, q3⟩ => ?_
 refine thn (he pins s3 σ H3 _ I3 q3) fun v s4 ⟨x4, H4, I4, r4, q4⟩ => ?_
 refine thn (hp pins s4 σ H4 x3 x4 old v _ I4 r3 r4 q4) fun new s5 ⟨x5, H5, I5, r5, q5⟩ => ?_
 exact thn (hs pins s5 σ H5 x1 x2 x5 ov iv new _ I5 r1 r2 r5 q5) fun _ s6 ⟨H6, I6, q6⟩ => ⟨σ, H6, I6, q6⟩
def ipI (f : Int -> Int -> Int) : TIp := fun x y H Q => ∃ i j, x = .int i /\ y = .int j /\ Q (.int (f i j)) H
theorem ip_sub : PIp X .Sub (ipI fun i j => i - j) := by
 intro pins s σ H x y v u Q I r1 r2 h
 obtain ⟨i, j, e1, e2, q⟩ := h
 subst e1; subst e2
 obtain ⟨t, rfl⟩ := r1
 obtain ⟨t', rfl⟩ := r2
 exact isub_int ⟨.int _, H, I.tok _, ⟨_, rfl⟩, q⟩
end
section
variable {X : Cx} {pos : Pos}
def tWhile (c : TT) (tb : TS) : TS := fun D σ H => ∃ W : Nat -> St -> Hp -> Prop, (∃ m, W m σ H) /\ ∀ m σ H, W m σ H ->
 c σ H fun b H1 => if b = true then ∃ N : St -> Hp -> Prop, (∀ σ' H', N σ' H' -> ∃ m', m' < m /\ W m' σ' H') /\ tb { D with nx := N, ct := N, bk := D.nx } σ H1 else D.nx σ H1
theorem ps_while {c : Expr} {body : List Stmt} {tc : TT} {tb : TS} (hp : PassesOwn (model X.prog X.w) X.A X.env X.xe) (hc : PT X c tc) (hb : PSs X body tb) : PS X (.While c body [] pos) (tWhile tc tb) := by
  intro pins s σ H D I h
  obtain ⟨W, ⟨m0, w0⟩, turn⟩ := h
  refine wpAny_While (codeAny_whileLoop (fun n s' => ∃ σ' H', Inv X pins σ' H' s' /\ W n σ' H') ?_ m0 ⟨σ, H, I, w0⟩)
  rintro n s1 ⟨σ1, H1, I1, w1⟩
  refine wpAny_passesOwn hp (thn (hc pins s1 σ1 H1 _ I1 (turn n σ1 H1 w1)) fun b s2 ⟨H2, I2, q2⟩ => ?_)
  cases b with
  | true =>
    obtain ⟨N, hN, q2⟩ := q2
    rw [if_pos rfl]
    refine wpAny_passesOwn hp (thn (hb pins s2 σ1 H2 _ I2 q2) fun f s3 q3 => ?_)
    cases f with
    | next =>
      obtain ⟨σ3, H3, I3, n3⟩ := q3
      obtain ⟨m', hm, w3⟩ := hN σ3 H3 n3
      exact ⟨m', hm, σ3, H3, I3, w3⟩
    | cont =>
      obtain ⟨σ3, H3, I3, n3⟩ := q3
      obtain ⟨m', hm, w3⟩ := hN σ3 H3 n3
      exact ⟨m', hm, σ3, H3, I3, w3⟩
    | brk => exact q3
    | ret v => exact q3
  | false =>
    rw [if_neg zq7x]
    exact wpAny_execs_nil ⟨σ1, H2, I2, q2⟩
end
structure It where
 go : Nat -> Hp -> Prop
 yld : Nat -> Hp -> V -> Hp -> Prop
 stop : Nat -> Hp -> Prop
def FpOk (X : Cx) (pins : List (Addr × Obj)) (H : Hp) (b : Addr) : Prop :=
 H b = none /\ b ≠ X.env.locals /\ b ∉ X.fs /\ (b ∈ X.ex \/ X.s₀.heap.objs.size <= b) /\ (∀ x c, X.env.cells.lookup x = some c -> c ≠ b) /\ ∀ p ∈ X.pn ++ pins, p.1 ≠ b
theorem Inv.fpOk {X : Cx} {pins : List (Addr × Obj)} {σ : St} {H H' : Hp} {s : Shared} {b : Addr} (I : Inv X pins σ H s) (hb : s.heap.objs.size <= b) (hn : H' b = none) : FpOk X pins H' b := by
 refine ⟨hn, zq113x (zq28x I.lt hb), I.nofs hb, .inr (zq16x I.sz hb), fun x c e z => ?_, fun p hp z => ?_⟩
 ·obtain ⟨v, q⟩ := I.cell x c e
  exact absurd (zq28x q.lt (by rw [z]; exact hb)) (zq53x _)
 ·exact absurd (zq28x (zq9x (I.pin p hp).1) (by rw [z]; exact hb)) (zq53x _)
structure Turn (P : Program) (w : World) (K : PySem.W.Frag) (tg : Expr) (J : It) (fp : List Addr) (it : Addr) (tn : Nat -> Heap -> Prop) : Prop where
 mem : it ∈ fp
 obj : ∀ i h, tn i h -> ∀ b ∈ fp, ∃ o, h.get? b = some o /\ ∀ v, o.data ≠ .cell v
 keep : ∀ i h h', tn i h -> (∀ b ∈ fp, ∀ o, h.get? b = some o -> h'.get? b = some o) -> tn i h'
 item : ∀ (X : Cx), X.prog = P -> X.w = w -> X.K = K -> X.calm = true -> ∀ (i : Nat) (pins : List (Addr × Obj)) (s : Shared) (σ : St) (H : Hp) (E : Value -> Shared -> Prop), Inv X pins σ H s -> (∀ b ∈ fp, FpOk X pins H b) -> tn i s.heap -> J.go i H ->
  wpAny (model P w) X.A (pyNext (.ref it)) (fun r s1 => ∃ u, r = some u /\
   wpAny (model P w) X.A (letOwnedTupleGo tg (.ref it) u) (fun _ s2 => ∃ x H', Inv X pins σ H' s2 /\ RelV x u /\ J.yld i H x H' /\ tn (i + 1) s2.heap /\ ∀ b ∈ fp, H' b = none) E s1) E s
 done : ∀ (X : Cx), X.prog = P -> X.w = w -> X.K = K -> X.calm = true -> ∀ (i : Nat) (pins : List (Addr × Obj)) (s : Shared) (σ : St) (H : Hp) (E : Value -> Shared -> Prop), Inv X pins σ H s -> (∀ b ∈ fp, FpOk X pins H b) -> tn i s.heap -> J.stop i H ->
  wpAny (model P w) X.A (pyNext (.ref it)) (fun r s1 => r = none /\ Inv X pins σ H s1) E s
 self : ∀ (A : Around) (i : Nat) (s : Shared) (Q : Value -> Shared -> Prop) (E : Value -> Shared -> Prop), tn i s.heap -> Q (.ref it) s -> wpAny (model P w) A (pyIter (.ref it)) Q E s
abbrev TI := St -> Hp -> (It -> Hp -> Prop) -> Prop
def PIE (X : Cx) (pins : List (Addr × Obj)) (σ : St) (tg : Expr) (R : It -> Hp -> Prop) (itv : Value) (s2 : Shared) : Prop :=
 ∃ (it : Addr) (fp : List Addr) (tn : Nat -> Heap -> Prop) (J : It) (H' : Hp), itv = .ref it /\ Inv X pins σ H' s2 /\ Turn X.prog X.w X.K tg J fp it tn /\ tn 0 s2.heap /\ (∀ b ∈ fp, FpOk X pins H' b) /\ R J H'
def PI (X : Cx) (tg iter : Expr) (wi : TI) : Prop :=
 ∀ (pins : List (Addr × Obj)) (s : Shared) (σ : St) (H : Hp) (R : It -> Hp -> Prop), Inv X pins σ H s -> wi σ H R ->
  wpAny (model X.prog X.w) X.A (eval iter X.env) (fun v s1 => wpAny (model X.prog X.w) X.A (pyIter v) (PIE X pins σ tg R) X.xe s1) X.xe s
theorem go_of {M : Model} {A : Around} {E : Value -> Shared -> Prop} {s : Shared} {tg : Expr} {it : Addr} {u : Value} {o : Obj} {n : String} {vs : Array Value} {Q : Unit -> Shared -> Prop} (ho : s.heap.get? it = some o) (hc : o.cls = .type n) (hd : o.data = .fields vs)
    (hn : ["enumerate", "zip", "dict_itemiterator", "dict_reverseitemiterator", "odict_iterator", "itertools.zip_longest", "itertools.pairwise"].contains n = false) (hQ : Q () s) : wpAny M A (letOwnedTupleGo tg (.ref it) u) Q E s := by
  unfold letOwnedTupleGo
  cases tg <;> first
    | exact wpAny_pure hQ
    | (cases u <;> first
        | exact wpAny_pure hQ
        | (refine wpAny_bind (wpAny_load ho ?_)
           rw [hc, hd]
           show wpAny M A (if (["enumerate", "zip", "dict_itemiterator", "dict_reverseitemiterator", "odict_iterator", "itertools.zip_longest", "itertools.pairwise"].contains n && vs[0]? == some (rawInt _)) = true then _ else _) Q E s
           rw [if_neg (by intro h; rw [hn, Bool.false_and] at h; cases h)]
           exact wpAny_pure hQ))
def Itl (K : PySem.W.Frag) (a : Addr) : It :=
 ⟨fun i H => ∃ xs x, SqL K H a xs /\ xs[i]? = some x, fun i H x H' => H' = H /\ ∀ xs, SqL K H a xs -> xs[i]? = some x, fun i H => ∃ xs, SqL K H a xs /\ xs.length <= i⟩
def Itr (lo : Int) (n : Nat) : It := ⟨fun i _ => i < n, fun i H x H' => H' = H /\ x = .int (lo + i), fun i _ => n <= i⟩
theorem turn_list {P : Program} {w : World} {K : PySem.W.Frag} {tg : Expr} (a it : Addr) : Turn P w K tg (Itl K a) [it] it (fun i h => h.IsListIter it a i) where
 mem := by simp
 obj := fun i h st b hb => by
  have e : b = it := by simpa using hb
  subst e
  obtain ⟨o, e, c, d⟩ := st
  exact ⟨o, e, fun v z => by rw [d] at z; cases z⟩
 keep := fun i h h' st k => st.at fun o e => k it (by simp) o e
 item := by
  intro X hP hw hK hc i pins s σ H E I hf st hg
  subst hP hw hK
  obtain ⟨xs, x, hq, hx⟩ := hg
  obtain ⟨its, rv, p, hz⟩ := I.list hq
  obtain ⟨u, hu, ru⟩ := rv.get hx
  obtain ⟨f0, f1, f2, f3, f4, f5⟩ := hf it (by simp)
  refine wpAny_pyNext_list_item st p.isList (x := u) (by simpa using hu) fun h' st' sb => ?_
  have I1 : Inv X pins σ H { s with heap := h' } := I.turned (t' := s.toks) (fun b o hb e => (sb.2 b hb).trans e) f0 f1 f3 f4 f5
  obtain ⟨o, e, c, d⟩ := id st'
  exact ⟨u, rfl, go_of (s := { s with heap := h' }) e c d (by decide) ⟨x, H, I1, ru, ⟨rfl, fun ys hy => by rw [I.list_inj hy hq]; exact hx⟩, st', fun b hb => (hf b hb).1⟩⟩
 done := by
  intro X hP hw hK hc i pins s σ H E I hf st hg
  subst hP hw hK
  obtain ⟨xs, hq, hx⟩ := hg
  obtain ⟨its, rv, p, hz⟩ := I.list hq
  obtain ⟨f0, f1, f2, f3, f4, f5⟩ := hf it (by simp)
  have hl := rv.length
  exact wpAny_pyNext_list_end (I.ok.hd hc) st p.isList (by simp; omega) fun h' eb => ⟨rfl, I.turned (t' := s.toks) (fun b o hb e => eb b o hb e) f0 f1 f3 f4 f5⟩
 self := fun _ _ _ _ _ st h => wpAny_pyIter_listiter st h
theorem turn_range {P : Program} {w : World} {K : PySem.W.Frag} {tg : Expr} (it : Addr) (lo : Int) (n : Nat) : Turn P w K tg (Itr lo n) [it] it (fun i h => IsRangeIter h it (lo + (i : Nat) * 1) ((n : Int) - (i : Nat)) 1) where
 mem := by simp
 obj := fun i h st b hb => by
  have e : b = it := by simpa using hb
  subst e
  exact ⟨_, st, fun v z => by
   have z' : Data.fields _ = Data.cell v := z
   cases z'⟩
 keep := fun i h h' st k => k it (by simp) _ st
 item := by
  intro X hP hw hK hc i pins s σ H E I hf st hg
  subst hP hw hK
  obtain ⟨f0, f1, f2, f3, f4, f5⟩ := hf it (by simp)
  have W := Walks.range (prog := X.prog) (w := X.w) (I.ok.hd hc) it lo 1 n
  refine W.item i s _ _ hg st fun v h' tk hv st' kk => ?_
  obtain ⟨t, rfl⟩ := hv
  have I1 : Inv X pins σ H { s with heap := h', toks := tk } := I.turned (fun b o hb e => kk b o (by simpa using hb) e) f0 f1 f3 f4 f5
  refine ⟨_, rfl, go_of (s := { s with heap := h', toks := tk }) (n := "range_iterator") st' rfl rfl (by decide) ⟨.int (lo + i), H, I1, ⟨t, ?_⟩, ⟨rfl, rfl⟩, st', fun b hb => (hf b hb).1⟩⟩
  rw [Int.mul_one]
 done := by
  intro X hP hw hK hc i pins s σ H E I hf st hg
  subst hP hw hK
  obtain ⟨f0, f1, f2, f3, f4, f5⟩ := hf it (by simp)
  exact wpAny_pyNext_range_end (I.ok.hd hc) st (by have : n <= i := hg; omega) fun h' eb => ⟨rfl, I.turned (t' := s.toks) (fun b o hb e => eb b o hb e) f0 f1 f3 f4 f5⟩
 self := fun _ _ _ _ _ st h => wpAny_pyIter_rangeiter st h
section
variable {X : Cx} {tg : Expr}
def iList (K : PySem.W.Frag) (tl : TE) : TI := fun σ H R => tl σ H fun x H1 => ∃ a, x = .ref a /\ (∃ xs, SqL K H1 a xs) /\ R (Itl K a) H1
theorem pi_list {l : Expr} {tl : TE} (hl : PE X l tl) : PI X tg l (iList X.K tl) := by
 intro pins s σ H R I h
 refine thn (hl pins s σ H _ I h) fun v s1 ⟨x, H1, I1, r1, q1⟩ => ?_
 obtain ⟨a, e, ⟨xs, hq⟩, q⟩ := q1
 subst e
 cases r1
 obtain ⟨its, rv, p, hz⟩ := I1.list hq
 refine wpAny_pyIter_list p.isList ?_
 refine ⟨s1.heap.objs.size, [s1.heap.objs.size], _, _, H1, rfl, I1.kept (t' := s1.toks) fun b o e => zq26x _ e, turn_list a _, ⟨_, zq44x _ rfl, rfl, rfl⟩, fun b hb => ?_, q⟩
 have e : b = s1.heap.objs.size := by simpa using hb
 subst e
 exact I1.fpOk (zq3x _) (I1.hok.fresh (zq3x _))
theorem range_it {pins : List (Addr × Obj)} {σ : St} {H : Hp} {s : Shared} {R : It -> Hp -> Prop} {E : Value -> Shared -> Prop} {lo hi : Int} {t u v : Tok} {tk : Nat} (I : Inv X pins σ H s) (h1 : -(2 ^ 62) <= lo) (h2 : lo < 2 ^ 62) (h3 : -(2 ^ 62) <= hi) (h4 : hi < 2 ^ 62)
  (q : R (Itr lo (hi - lo).toNat) H) : wpAny (model X.prog X.w) X.A (pyIter (.ref s.heap.objs.size)) (PIE X pins σ tg R) E { s with heap := s.heap.push { cls := .type "range", data := .fields #[.int lo t, .int hi u, .int 1 v] }, toks := tk } := by
 refine wpAny_pyIter_range (IsRange.new ..) (small_one h1 h2 h3 h4) ?_
 have I1 : Inv X pins σ H { s with heap := s.heap.push { cls := .type "range", data := .fields #[.int lo t, .int hi u, .int 1 v] }, toks := tk } := I.kept fun b o e => zq26x _ e
 refine ⟨(s.heap.push { cls := .type "range", data := .fields #[.int lo t, .int hi u, .int 1 v] }).objs.size, [(s.heap.push { cls := .type "range", data := .fields #[.int lo t, .int hi u, .int 1 v] }).objs.size], _, _, H, rfl,
  I1.kept (t' := tk) fun b o e => zq26x _ e, turn_range _ lo (hi - lo).toNat, ?_, fun b hb => ?_, q⟩
 ·have e1 : lo + ((0 : Nat) : Int) * 1 = lo := by simp
  have e2 : (((hi - lo).toNat : Nat) : Int) - ((0 : Nat) : Int) = Builtin.Range.rangeSize lo hi 1 := by rw [rangeSize_one]; split <;> omega
  show IsRangeIter _ _ (lo + ((0 : Nat) : Int) * 1) ((((hi - lo).toNat : Nat) : Int) - ((0 : Nat) : Int)) 1
  rw [e1, e2]
  exact zq44x _ rfl
 ·have e : b = (s.heap.push { cls := .type "range", data := .fields #[.int lo t, .int hi u, .int 1 v] }).objs.size := by simpa using hb
  subst e
  exact I1.fpOk (zq3x _) (I1.hok.fresh (zq3x _))
def iRng1 (ta : TA) : TI := fun σ H R => ta σ H fun vs H1 => ∃ j : Int, vs = [.int j] /\ -(2 ^ 62) <= j /\ j < 2 ^ 62 /\ R (Itr 0 j.toNat) H1
def iRng2 (ta : TA) : TI := fun σ H R => ta σ H fun vs H1 => ∃ i j : Int, vs = [.int i, .int j] /\ (-(2 ^ 62) <= i /\ i < 2 ^ 62 /\ -(2 ^ 62) <= j /\ j < 2 ^ 62) /\ R (Itr i (j - i).toNat) H1
theorem pi_range1 {a : Expr} {ta : TA} {p pos : Pos} (hg : Gl X "range") (hm : X.mg "range" = none) (ha : PA X [a] ta) (hs : starEach [a] X.env = [(false, eval a X.env)] := by rfl) : PI X tg (.Call (.Name "range" p) [a] [] pos) (iRng1 ta) := by
  intro pins s σ H R I h
  refine Call_ (ld_blt I hg hm boot_range (zq114x (thn (ha pos pins s σ H _ I h) fun us s1 ⟨vs, H1, I1, r1, q1⟩ => ?_) hs rfl))
  obtain ⟨j, e, q1, q2, q⟩ := q1
  subst e
  cases r1 with
  | cons r rr =>
    cases rr
    obtain ⟨t, rfl⟩ := r
    exact call_range_1 (range_it I1 (by omega) (by omega) q1 q2 (by simpa using q))
theorem pi_range2 {a b : Expr} {ta : TA} {p pos : Pos} (hg : Gl X "range") (hm : X.mg "range" = none) (ha : PA X [a, b] ta) (hs : starEach [a, b] X.env = [(false, eval a X.env), (false, eval b X.env)] := by rfl) (hs2 : starEach [b] X.env = [(false, eval b X.env)] := by rfl) :
    PI X tg (.Call (.Name "range" p) [a, b] [] pos) (iRng2 ta) := by
  intro pins s σ H R I h
  refine Call_ (ld_blt I hg hm boot_range (zq114x (thn (ha pos pins s σ H _ I h) fun us s1 ⟨vs, H1, I1, r1, q1⟩ => ?_) (by rw [hs, hs2]) (by rw [hs2]; rfl)))
  obtain ⟨i, j, e, ⟨q1, q2, q3, q4⟩, q⟩ := q1
  subst e
  cases r1 with
  | cons r rr =>
    cases rr with
    | cons r' rr =>
      cases rr
      obtain ⟨t, rfl⟩ := r
      obtain ⟨t', rfl⟩ := r'
      exact call_range_2 (range_it I1 q1 q2 q3 q4 q)
def tFor (wi : TI) (g : TG) (tb : TS) : TS := fun D σ H => wi σ H fun J H1 => ∃ W : Nat -> Nat -> St -> Hp -> Prop, (∃ m, W 0 m σ H1) /\ ∀ i m σ H, W i m σ H ->
 (J.stop i H /\ D.nx σ H) \/ (J.go i H /\ ∃ N : St -> Hp -> Prop, (∀ σ' H', N σ' H' -> ∃ m', m' < m /\ W (i + 1) m' σ' H') /\ ∀ x H', J.yld i H x H' -> g x σ H' fun σ2 H2 => tb { D with nx := N, ct := N, bk := D.nx } σ2 H2)
def pinsAt (fp : List Addr) (h : Heap) : List (Addr × Obj) := fp.filterMap fun b => (h.get? b).map fun o => (b, o)
theorem mem_pinsAt {fp : List Addr} {h : Heap} {b : Addr} {o : Obj} (hb : b ∈ fp) (e : h.get? b = some o) : (b, o) ∈ pinsAt fp h := zq137x.mpr ⟨b, hb, by rw [e]; rfl⟩
theorem of_pinsAt {fp : List Addr} {h : Heap} {p : Addr × Obj} (hp : p ∈ pinsAt fp h) : p.1 ∈ fp /\ h.get? p.1 = some p.2 := by
  obtain ⟨b, hb, e⟩ := zq137x.mp hp
  cases q : h.get? b with
  | none => rw [q] at e; cases e
  | some o =>
    rw [q] at e
    have e' : (b, o) = p := zq31x e
    subst e'
    exact ⟨hb, q⟩
theorem Inv.pinned {pins : List (Addr × Obj)} {σ : St} {H : Hp} {s : Shared} {fp : List Addr} (I : Inv X pins σ H s) (hf : ∀ b ∈ fp, FpOk X pins H b) (ho : ∀ b ∈ fp, ∃ o, s.heap.get? b = some o /\ ∀ v, o.data ≠ .cell v) : Inv X (pins ++ pinsAt fp s.heap) σ H s :=
 I.pins_of fun p hp => (zq29x.mp hp).elim (fun z => I.pin p (zq38x _ z)) fun z => by
  obtain ⟨hb, e⟩ := of_pinsAt z
  obtain ⟨f0, f1, f2, _⟩ := hf p.1 hb
  obtain ⟨o, e', d⟩ := ho p.1 hb
  rw [e] at e'; cases e'
  exact ⟨e, f0, f1, f2, d⟩
theorem Inv.unpinned {pins pl : List (Addr × Obj)} {σ : St} {H : Hp} {s : Shared} (I : Inv X (pins ++ pl) σ H s) : Inv X pins σ H s := I.pins_of fun p hp => I.pin p (zq38x _ (zq61x _ hp))
theorem ps_for {iter : Expr} {body : List Stmt} {wi : TI} {g : TG} {tb : TS} {pos : Pos} (hp : PassesOwn (model X.prog X.w) X.A X.env X.xe) (hc : X.calm = true) (hi : PI X tg iter wi) (hg : PG X tg g) (hb : PSs X body tb)
  (hs : ∀ x, foldedSetIterable iter X.env x = pure x := by intro _; rfl) : PS X (.For tg iter body [] pos) (tFor wi g tb) := by
 intro pins s σ H D I h
 refine wpAny_For (thn (hi pins s σ H _ I h) fun v s1 h1 => thn h1 fun itv s2 h2 => ?_) hs
 obtain ⟨it, fp, tn, J, H2, e, I2, T, st2, f2, W, ⟨m0, w0⟩, turn⟩ := h2
 subst e
 have stat : ∀ {H' : Hp}, (∀ b ∈ fp, H' b = none) -> ∀ b ∈ fp, FpOk X pins H' b := fun hn b hb => ⟨hn b hb, (f2 b hb).2⟩
 refine codeAny_forLoop_any (fun n s' => ∃ i σ' H', Inv X pins σ' H' s' /\ tn i s'.heap /\ (∀ b ∈ fp, H' b = none) /\ W i n σ' H') ?_ m0 ⟨0, σ, H2, I2, st2, fun b hb => (f2 b hb).1, w0⟩
 rintro n s3 ⟨i, σ3, H3, I3, st3, fr3, w3⟩
 rcases turn i n σ3 H3 w3 with ⟨stop, qn⟩ | ⟨go, N, hN, step⟩
 ·refine wpAny_passesOwn hp (thn (T.done X rfl rfl rfl hc i pins s3 σ3 H3 X.xe I3 (stat fr3) st3 stop) fun r s4 ⟨hr, I4⟩ => ?_)
  subst hr
  exact wpAny_execs_nil ⟨σ3, H3, I4, qn⟩
 ·refine wpAny_passesOwn hp (thn (T.item X rfl rfl rfl hc i pins s3 σ3 H3 X.xe I3 (stat fr3) st3 go) fun r s4 ⟨u, hr, h4⟩ => ?_)
  subst hr
  refine wpAny_passesOwn hp (thn h4 fun _ s5 ⟨x, H5, I5, r5, y5, st5, fr5⟩ => ?_)
  have I5' := I5.pinned (stat fr5) (T.obj _ _ st5)
  refine wpAny_passesOwn hp (thn (hg _ s5 σ3 H5 x u _ I5' r5 (step x H5 y5)) fun _ s6 ⟨σ6, H6, I6, q6⟩ => ?_)
  refine wpAny_passesOwn hp (thn (hb _ s6 σ6 H6 _ I6 q6) fun f s7 q7 => ?_)
  have again : ∀ {σ7 : St} {H7 : Hp}, Inv X (pins ++ pinsAt fp s5.heap) σ7 H7 s7 -> N σ7 H7 -> ∃ m, m < n /\ ∃ i σ' H', Inv X pins σ' H' s7 /\ tn i s7.heap /\ (∀ b ∈ fp, H' b = none) /\ W i m σ' H' := fun {σ7 H7} I7 n7 => by
   obtain ⟨m', hm, w7⟩ := hN σ7 H7 n7
   refine ⟨m', hm, i + 1, σ7, H7, I7.unpinned, T.keep _ _ _ st5 fun b hb o e => (I7.pin (b, o) (zq38x _ (zq38x _ (mem_pinsAt hb e)))).1, fun b hb => ?_, w7⟩
   obtain ⟨o, e, d⟩ := T.obj _ _ st5 b hb
   exact (I7.pin (b, o) (zq38x _ (zq38x _ (mem_pinsAt hb e)))).2.1
  cases f with
  | next => obtain ⟨σ7, H7, I7, n7⟩ := q7; exact again I7 n7
  | cont => obtain ⟨σ7, H7, I7, n7⟩ := q7; exact again I7 n7
  | brk => obtain ⟨σ7, H7, I7, q7⟩ := q7; exact ⟨σ7, H7, I7.unpinned, q7⟩
  | ret v => obtain ⟨x7, σ7, H7, I7, r7, q7⟩ := q7; exact ⟨x7, σ7, H7, I7.unpinned, r7, q7⟩
end
theorem for_list {K : PySem.W.Frag} {a : Addr} {xs : List V} {g : TG} {tb : TS} {D : Ends} {σ : St} {H : Hp} (Pv : Nat -> St -> Hp -> Prop) (h0 : Pv 0 σ H) (hl : ∀ i σ H, i <= xs.length -> Pv i σ H -> SqL K H a xs)
  (hs : ∀ i x σ H, xs[i]? = some x -> Pv i σ H -> g x σ H fun σ2 H2 => tb { D with nx := Pv (i + 1), ct := Pv (i + 1), bk := D.nx } σ2 H2) (hd : ∀ σ H, Pv xs.length σ H -> D.nx σ H) :
  ∃ W : Nat -> Nat -> St -> Hp -> Prop, (∃ m, W 0 m σ H) /\ ∀ i m σ H, W i m σ H ->
   ((Itl K a).stop i H /\ D.nx σ H) \/ ((Itl K a).go i H /\ ∃ N : St -> Hp -> Prop, (∀ σ' H', N σ' H' -> ∃ m', m' < m /\ W (i + 1) m' σ' H') /\ ∀ x H', (Itl K a).yld i H x H' -> g x σ H' fun σ2 H2 => tb { D with nx := N, ct := N, bk := D.nx } σ2 H2) := by
 refine ⟨fun i m σ H => m = xs.length - i /\ i <= xs.length /\ Pv i σ H, ⟨xs.length, by simp, zq34x _, h0⟩, ?_⟩
 rintro i m σ H ⟨rfl, hi, p⟩
 have q := hl i σ H hi p
 by_cases hlt : i < xs.length
 ·refine .inr ⟨⟨xs, xs[i], q, by simp [hlt]⟩, Pv (i + 1), fun σ' H' p' => ⟨xs.length - (i + 1), by omega, rfl, hlt, p'⟩, fun x H' y => ?_⟩
  obtain ⟨e, y⟩ := y
  subst e
  exact hs i x σ _ (y xs q) p
 ·have e : i = xs.length := by omega
  subst e
  exact .inl ⟨⟨xs, q, zq3x _⟩, hd σ H p⟩
theorem for_range {lo : Int} {n : Nat} {g : TG} {tb : TS} {D : Ends} {σ : St} {H : Hp} (Pv : Nat -> St -> Hp -> Prop) (h0 : Pv 0 σ H)
  (hs : ∀ i σ H, i < n -> Pv i σ H -> g (.int (lo + i)) σ H fun σ2 H2 => tb { D with nx := Pv (i + 1), ct := Pv (i + 1), bk := D.nx } σ2 H2) (hd : ∀ σ H, Pv n σ H -> D.nx σ H) :
  ∃ W : Nat -> Nat -> St -> Hp -> Prop, (∃ m, W 0 m σ H) /\ ∀ i m σ H, W i m σ H ->
   ((Itr lo n).stop i H /\ D.nx σ H) \/ ((Itr lo n).go i H /\ ∃ N : St -> Hp -> Prop, (∀ σ' H', N σ' H' -> ∃ m', m' < m /\ W (i + 1) m' σ' H') /\ ∀ x H', (Itr lo n).yld i H x H' -> g x σ H' fun σ2 H2 => tb { D with nx := N, ct := N, bk := D.nx } σ2 H2) := by
 refine ⟨fun i m σ H => m = n - i /\ i <= n /\ Pv i σ H, ⟨n, by simp, zq34x _, h0⟩, ?_⟩
 rintro i m σ H ⟨rfl, hi, p⟩
 by_cases hlt : i < n
 ·refine .inr ⟨hlt, Pv (i + 1), fun σ' H' p' => ⟨n - (i + 1), by omega, rfl, hlt, p'⟩, fun x H' y => ?_⟩
  obtain ⟨e, y⟩ := y
  subst e y
  exact hs i σ _ hlt p
 ·have e : i = n := by omega
  subst e
  exact .inl ⟨zq3x _, hd σ H p⟩
abbrev R2 := V -> V -> Hp -> VK -> Prop
def OpR (X : Cx) (f : Value -> Value -> Sem Value) (r : R2) : Prop :=
 ∀ (pins : List (Addr × Obj)) (s : Shared) (σ : St) (H : Hp) (x y : V) (v u : Value) (Q : VK), Inv X pins σ H s -> RelV x v -> RelV y u -> r x y H Q ->
  wpAny (model X.prog X.w) X.A (f v u) (EP X pins σ Q) X.xe s
def UnR (X : Cx) (f : Value -> Sem Value) (r : V -> Hp -> VK -> Prop) : Prop :=
 ∀ (pins : List (Addr × Obj)) (s : Shared) (σ : St) (H : Hp) (x : V) (v : Value) (Q : VK), Inv X pins σ H s -> RelV x v -> r x H Q ->
  wpAny (model X.prog X.w) X.A (f v) (EP X pins σ Q) X.xe s
def CallR (X : Cx) (f : Value) (r : List V -> Hp -> VK -> Prop) : Prop :=
 ∀ (pins : List (Addr × Obj)) (s : Shared) (σ : St) (H : Hp) (xs : List V) (us : List Value) (Q : VK), Inv X pins σ H s -> Vals xs us -> r xs H Q ->
  wpAny (model X.prog X.w) X.A (call f us) (EP X pins σ Q) X.xe s
def TruR (X : Cx) (r : V -> Hp -> (Bool -> Hp -> Prop) -> Prop) : Prop :=
 ∀ (pins : List (Addr × Obj)) (s : Shared) (σ : St) (H : Hp) (x : V) (v : Value) (Q : Bool -> Hp -> Prop), Inv X pins σ H s -> RelV x v -> r x H Q ->
  wpAny (model X.prog X.w) X.A (truthy v) (TP X pins σ Q) X.xe s
def tOp (r : R2) (ta tb : TE) : TE := fun σ H Q => ta σ H fun x H1 => tb σ H1 fun y H2 => r x y H2 Q
def tUn (r : V -> Hp -> VK -> Prop) (ta : TE) : TE := fun σ H Q => ta σ H fun x H1 => r x H1 Q
def rI (C : Int -> Int -> Prop) (g : Int -> Int -> V) : R2 := fun x y H Q => ∃ i j, x = .int i /\ y = .int j /\ C i j /\ Q (g i j) H
def rI0 (g : Int -> Int -> V) : R2 := fun x y H Q => ∃ i j, x = .int i /\ y = .int j /\ Q (g i j) H
def rU (g : Int -> V) : V -> Hp -> VK -> Prop := fun x H Q => ∃ i, x = .int i /\ Q (g i) H
section
variable {X : Cx} {a b c : Expr} {ta tb tc : TE} {pos : Pos}
theorem binT (ha : PE X a ta) (hb : PE X b tb) {pins : List (Addr × Obj)} {s : Shared} {σ : St} {H : Hp} {R : V -> V -> Hp -> Prop} (I : Inv X pins σ H s)
  (h : ta σ H fun x H1 => tb σ H1 fun y H2 => R x y H2) {Q : Value -> Shared -> Prop} {f : Value -> Value -> Sem Value}
  (hf : ∀ v u s2 x y H2, Inv X pins σ H2 s2 -> RelV x v -> RelV y u -> R x y H2 -> wpAny (model X.prog X.w) X.A (f v u) Q X.xe s2) :
  wpAny (model X.prog X.w) X.A (eval a X.env) (fun v s₁ => wpAny (model X.prog X.w) X.A (eval b X.env) (fun u s₂ => wpAny (model X.prog X.w) X.A (f v u) Q X.xe s₂) X.xe s₁) X.xe s := by
 refine thn (ha pins s σ H _ I h) fun v s1 ⟨x, H1, I1, r1, q1⟩ => ?_
 refine thn (hb pins s1 σ H1 _ I1 q1) fun u s2 ⟨y, H2, I2, r2, q2⟩ => ?_
 exact hf v u s2 x y H2 I2 r1 r2 q2
theorem pe_op {op : Operator} {r : R2} (ho : OpR X (binaryOp op) r) (ha : PE X a ta) (hb : PE X b tb) : PE X (.BinOp a op b pos) (tOp r ta tb) := by
 intro pins s σ H Q I h
 exact wpAny_BinOp (binT ha hb I h fun v u s2 x y H2 I2 rx ry q => ho pins s2 σ H2 x y v u Q I2 rx ry q)
theorem pe_un {op : UnaryOp} {r : V -> Hp -> VK -> Prop} (ho : UnR X (unaryOp op) r) (ha : PE X a ta) : PE X (.UnaryOp op a pos) (tUn r ta) := by
 intro pins s σ H Q I h
 exact UnaryOp_ (thn (ha pins s σ H _ I h) fun v s1 ⟨x, H1, I1, r1, q1⟩ => ho pins s1 σ H1 x v Q I1 r1 q1)
theorem opI {f : Value -> Value -> Sem Value} {C : Int -> Int -> Prop} {g : Int -> Int -> Int}
  (rule : ∀ (i j : Int) (t u : Tok) (s : Shared) (Q : Value -> Shared -> Prop) (E : Value -> Shared -> Prop), C i j -> Q (.int (g i j) s.toks) { s with toks := s.toks + 1 } -> wpAny (model X.prog X.w) X.A (f (.int i t) (.int j u)) Q E s) :
  OpR X f (rI C fun i j => .int (g i j)) := by
 intro pins s σ H x y v u Q I rx ry h
 obtain ⟨i, j, rfl, rfl, hc, q⟩ := h
 obtain ⟨t, rfl⟩ := rx
 obtain ⟨t', rfl⟩ := ry
 exact rule i j t t' s _ _ hc ⟨.int (g i j), H, I.tok _, ⟨_, rfl⟩, q⟩
theorem opI0 {f : Value -> Value -> Sem Value} {g : Int -> Int -> Int}
  (rule : ∀ (i j : Int) (t u : Tok) (s : Shared) (Q : Value -> Shared -> Prop) (E : Value -> Shared -> Prop), Q (.int (g i j) s.toks) { s with toks := s.toks + 1 } -> wpAny (model X.prog X.w) X.A (f (.int i t) (.int j u)) Q E s) :
  OpR X f (rI0 fun i j => .int (g i j)) := by
 intro pins s σ H x y v u Q I rx ry h
 obtain ⟨i, j, rfl, rfl, q⟩ := h
 obtain ⟨t, rfl⟩ := rx
 obtain ⟨t', rfl⟩ := ry
 exact rule i j t t' s _ _ ⟨.int (g i j), H, I.tok _, ⟨_, rfl⟩, q⟩
theorem opB0 {f : Value -> Value -> Sem Value} {g : Int -> Int -> Bool}
  (rule : ∀ (i j : Int) (t u : Tok) (s : Shared) (Q : Value -> Shared -> Prop) (E : Value -> Shared -> Prop), Q (.bool (g i j)) s -> wpAny (model X.prog X.w) X.A (f (.int i t) (.int j u)) Q E s) :
  OpR X f (rI0 fun i j => .bl (g i j)) := by
 intro pins s σ H x y v u Q I rx ry h
 obtain ⟨i, j, rfl, rfl, q⟩ := h
 obtain ⟨t, rfl⟩ := rx
 obtain ⟨t', rfl⟩ := ry
 exact rule i j t t' s _ _ ⟨.bl (g i j), H, I, rfl, q⟩
def CPow (i j : Int) : Prop := 0 <= j /\ j <= 1000000 /\ i.natAbs < 2 ^ 64
def CMul (i j : Int) : Prop := (-(2 ^ 64) < i /\ i < 2 ^ 64) \/ (-(2 ^ 64) < j /\ j < 2 ^ 64)
theorem CMul.ok {i j : Int} (h : CMul i j) : IntMulOk i j := by
 rcases h with ⟨h1, h2⟩ | ⟨h1, h2⟩
 ·exact .of_left (intBits_le_64 h1 h2)
 ·exact .of_right (intBits_le_64 h1 h2)
theorem op_add : OpR X (binaryOp .Add) (rI0 fun i j => .int (i + j)) := opI0 fun _ _ _ _ _ _ _ q => add_int q
theorem op_sub : OpR X (binaryOp .Sub) (rI0 fun i j => .int (i - j)) := opI0 fun _ _ _ _ _ _ _ q => sub_int q
theorem op_mod : OpR X (binaryOp .Mod) (rI (fun _ j => 0 < j) fun i j => .int (i % j)) := opI fun i j _ _ _ _ _ hc q => by
 have h1 : (0 : Int) < j := hc
 exact mod_int' (by omega) (by rw [Int.fmod_eq_emod_of_nonneg i (by omega)]; exact q)
theorem op_pow : OpR X (binaryOp .Pow) (rI CPow fun i j => .int (i ^ j.toNat)) := opI fun _ _ _ _ _ _ _ hc q => pow_int_small hc.1 hc.2.1 hc.2.2 q
theorem unI {f : Value -> Sem Value} {g : Int -> Int}
  (rule : ∀ (i : Int) (t : Tok) (s : Shared) (Q : Value -> Shared -> Prop) (E : Value -> Shared -> Prop), Q (.int (g i) s.toks) { s with toks := s.toks + 1 } -> wpAny (model X.prog X.w) X.A (f (.int i t)) Q E s) :
  UnR X f (rU fun i => .int (g i)) := by
 intro pins s σ H x v Q I rx h
 obtain ⟨i, rfl, q⟩ := h
 obtain ⟨t, rfl⟩ := rx
 exact rule i t s _ _ ⟨.int (g i), H, I.tok _, ⟨_, rfl⟩, q⟩
theorem un_neg : UnR X (unaryOp .USub) (rU fun i => .int (-i)) := unI fun _ _ _ _ _ q => neg_int q
end
def scal : V -> V -> Bool
 | .non, .non => true | .non, .int _ => true | .int _, .non => true | .non, .bl _ => true | .bl _, .non => true | .non, .str _ => true | .str _, .non => true
 | .int _, .int _ => true | .bl _, .bl _ => true | .str _, .str _ => true | .byt _, .byt _ => true
 | .int _, .str _ => true | .str _, .int _ => true | .bl _, .str _ => true | .str _, .bl _ => true
 | _, _ => false
def rEq : R2 := fun x y H Q => scal x y = true /\ Q (.bl (decide (x = y))) H
def rNe : R2 := fun x y H Q => scal x y = true /\ Q (.bl (!decide (x = y))) H
theorem dec_int {i j : Int} : decide (V.int i = V.int j) = (i == j) := by
 rw [zq46x]
 simp
theorem dec_bl {i j : Bool} : decide (V.bl i = V.bl j) = (i == j) := by
 rw [zq46x]
 simp
theorem dec_str {i j : Str} : decide (V.str i = V.str j) = (i == j) := by
 rw [zq46x]
 simp
theorem dec_byt {i j : Array UInt8} : decide (V.byt i = V.byt j) = (i.toList == j.toList) := by
 rw [zq46x]
 cases i
 cases j
 simp
section
variable {X : Cx} {a b c : Expr} {ta tb tc : TE} {pos : Pos}
theorem fin_bl {pins : List (Addr × Obj)} {σ : St} {H : Hp} {s : Shared} {Q : VK} {k k' : Bool} (I : Inv X pins σ H s) (q : Q (.bl k) H) (e : k = k') : EP X pins σ Q (.bool k') s := by
 subst e
 exact ⟨.bl k, H, I, rfl, q⟩
theorem op_eq : OpR X (compareOp .Eq) rEq := by
  intro pins s σ H x y v u Q I rx ry h
  obtain ⟨hs, q⟩ := h
  cases x with
  | non =>
    cases rx
    cases y with
    | non => cases ry; exact PySem.EqNone.eq_none_none (fin_bl I q (by simp))
    | bl j => cases ry; exact PySem.EqNone.eq_none_bool (fin_bl I q (by simp))
    | int j => obtain ⟨t', rfl⟩ := ry; exact PySem.EqNone.eq_none_int (fin_bl I q (by simp))
    | str j => obtain ⟨t', rfl⟩ := ry; exact PySem.EqNone.eq_none_str (fin_bl I q (by simp))
    | _ => exact absurd (show false = true from hs) zq7x
  | bl i =>
    cases rx
    cases y with
    | non => cases ry; exact PySem.EqNone.eq_bool_none (fin_bl I q (by simp))
    | bl j => cases ry; exact eq_bool (fin_bl I q dec_bl)
    | str j => obtain ⟨t', rfl⟩ := ry; exact PySem.EqMixed.eq_bool_str (fin_bl I q (by simp))
    | _ => exact absurd (show false = true from hs) zq7x
  | int i =>
    obtain ⟨t, rfl⟩ := rx
    cases y with
    | non => cases ry; exact PySem.EqNone.eq_int_none (fin_bl I q (by simp))
    | int j => obtain ⟨t', rfl⟩ := ry; exact eq_int (fin_bl I q dec_int)
    | str j => obtain ⟨t', rfl⟩ := ry; exact PySem.EqMixed.eq_int_str (fin_bl I q (by simp))
    | _ => exact absurd (show false = true from hs) zq7x
  | str i =>
    obtain ⟨t, rfl⟩ := rx
    cases y with
    | non => cases ry; exact PySem.EqNone.eq_str_none (fin_bl I q (by simp))
    | bl j => cases ry; exact PySem.EqMixed.eq_str_bool (fin_bl I q (by simp))
    | int j => obtain ⟨t', rfl⟩ := ry; exact PySem.EqMixed.eq_str_int (fin_bl I q (by simp))
    | str j => obtain ⟨t', rfl⟩ := ry; exact eq_str (fin_bl I q dec_str)
    | _ => exact absurd (show false = true from hs) zq7x
  | byt i =>
    obtain ⟨t, rfl⟩ := rx
    cases y with
    | byt j => obtain ⟨t', rfl⟩ := ry; exact PySem.W.eq_bytes (fin_bl I q dec_byt)
    | _ => exact absurd (show false = true from hs) zq7x
  | _ => cases y <;> exact absurd (show false = true from hs) zq7x
theorem op_ne : OpR X (compareOp .NotEq) rNe := by
  intro pins s σ H x y v u Q I rx ry h
  obtain ⟨hs, q⟩ := h
  cases x with
  | non =>
    cases rx
    cases y with
    | non => cases ry; exact PySem.EqNone.ne_none_none (fin_bl I q (by simp))
    | bl j => cases ry; exact PySem.EqNone.ne_none_bool (fin_bl I q (by simp))
    | int j => obtain ⟨t', rfl⟩ := ry; exact PySem.EqNone.ne_none_int (fin_bl I q (by simp))
    | str j => obtain ⟨t', rfl⟩ := ry; exact PySem.EqNone.ne_none_str (fin_bl I q (by simp))
    | _ => exact absurd (show false = true from hs) zq7x
  | bl i =>
    cases rx
    cases y with
    | non => cases ry; exact PySem.EqNone.ne_bool_none (fin_bl I q (by simp))
    | bl j => cases ry; exact ne_bool (fin_bl I q (congrArg not dec_bl))
    | str j => obtain ⟨t', rfl⟩ := ry; exact PySem.EqMixed.ne_bool_str (fin_bl I q (by simp))
    | _ => exact absurd (show false = true from hs) zq7x
  | int i =>
    obtain ⟨t, rfl⟩ := rx
    cases y with
    | non => cases ry; exact PySem.EqNone.ne_int_none (fin_bl I q (by simp))
    | int j => obtain ⟨t', rfl⟩ := ry; exact ne_int (fin_bl I q (congrArg not dec_int))
    | str j => obtain ⟨t', rfl⟩ := ry; exact PySem.EqMixed.ne_int_str (fin_bl I q (by simp))
    | _ => exact absurd (show false = true from hs) zq7x
  | str i =>
    obtain ⟨t, rfl⟩ := rx
    cases y with
    | non => cases ry; exact PySem.EqNone.ne_str_none (fin_bl I q (by simp))
    | bl j => cases ry; exact PySem.EqMixed.ne_str_bool (fin_bl I q (by simp))
    | int j => obtain ⟨t', rfl⟩ := ry; exact PySem.EqMixed.ne_str_int (fin_bl I q (by simp))
    | str j => obtain ⟨t', rfl⟩ := ry; exact ne_str (fin_bl I q (congrArg not dec_str))
    | _ => exact absurd (show false = true from hs) zq7x
  | byt i =>
    obtain ⟨t, rfl⟩ := rx
    cases y with
    | byt j => obtain ⟨t', rfl⟩ := ry; exact PySem.W.ne_bytes (fin_bl I q (congrArg not dec_byt))
    | _ => exact absurd (show false = true from hs) zq7x
  | _ => cases y <;> exact absurd (show false = true from hs) zq7x
theorem op_lt : OpR X (compareOp .Lt) (rI0 fun i j => .bl (decide (i < j))) := opB0 fun _ _ _ _ _ _ _ q => lt_int q
theorem op_le : OpR X (compareOp .LtE) (rI0 fun i j => .bl (decide (i <= j))) := opB0 fun _ _ _ _ _ _ _ q => le_int q
theorem op_ge : OpR X (compareOp .GtE) (rI0 fun i j => .bl (decide (j <= i))) := opB0 fun _ _ _ _ _ _ _ q => ge_int q
theorem op_isN : OpR X (compareOp .Is) (fun x y H Q => y = .non /\ Q (.bl (decide (x = .non))) H) := by
 intro pins s σ H x y v u Q I rx ry h
 obtain ⟨rfl, q⟩ := h
 cases ry
 refine is_none_gen (fin_bl I q ?_)
 cases x <;> first
  | (cases rx; rfl)
  | (obtain ⟨t, rfl⟩ := rx; rfl)
theorem op_notN : OpR X (compareOp .IsNot) (fun x y H Q => y = .non /\ Q (.bl (!decide (x = .non))) H) := by
 intro pins s σ H x y v u Q I rx ry h
 obtain ⟨rfl, q⟩ := h
 cases ry
 refine isnot_none_gen (fin_bl I q ?_)
 cases x <;> first
  | (cases rx; rfl)
  | (obtain ⟨t, rfl⟩ := rx; rfl)
theorem nomark (b : Expr) {op : CmpOp} (h : op ≠ .In := by decide) (h2 : op ≠ .NotIn := by decide) : behindInMarks op b = false := by
 have e1 : (op == CmpOp.In) = false := by cases op <;> first | rfl | exact absurd rfl h
 have e2 : (op == CmpOp.NotIn) = false := by cases op <;> first | rfl | exact absurd rfl h2
 cases b <;> simp [behindInMarks, e1, e2]
theorem pe_cmpR {op : CmpOp} {r : R2} (ho : OpR X (compareOp op) r) (ha : PE X a ta) (hb : PE X b tb) (hm : behindInMarks op b = false) : PE X (.Compare a [op] [b] pos) (tOp r ta tb) := by
 intro pins s σ H Q I h
 exact wpAny_Compare1 (binT ha hb I h fun v u s2 x y H2 I2 rx ry q => ho pins s2 σ H2 x y v u Q I2 rx ry q) hm
def tTest (t : TE) : TT := fun σ H Q => t σ H fun x H' => ∃ k, x = .bl k /\ Q k H'
theorem pt_cmpR {op : CmpOp} {r : R2} (ho : OpR X (compareOp op) r) (ha : PE X a ta) (hb : PE X b tb) (hm : behindInMarks op b = false) : PT X (.Compare a [op] [b] pos) (tTest (tOp r ta tb)) := by
 intro pins s σ H Q I h
 refine wpAny_isTrue_Compare1 (thn (ha pins s σ H _ I h) fun v s1 ⟨x, H1, I1, r1, q1⟩ => thn (hb pins s1 σ H1 _ I1 q1) fun u s2 ⟨y, H2, I2, r2, q2⟩ =>
  thn (ho pins s2 σ H2 x y v u _ I2 r1 r2 q2) fun c s3 ⟨z, H3, I3, r3, k, e, q3⟩ => ?_) hm
 subst e
 cases r3
 exact wpAny_truthy_bool ⟨H3, I3, q3⟩
def TruV (K : PySem.W.Frag) (x : V) (H : Hp) (k : Bool) : Prop :=
 match x with
 | .non => k = false
 | .bl b => k = b
 | .int i => k = (i != 0)
 | .str y => y.length <= sizeLine /\ k = ((y.length : Int) != 0)
 | .byt y => y.size <= sizeLine /\ k = ((y.size : Int) != 0)
 | .ref p => (∃ xs, SqL K H p xs /\ k = !xs.isEmpty) \/ (∃ xs, SqT K H p xs /\ k = !xs.isEmpty) \/ ∃ kvs, H p = some (.dK kvs) /\ k = !kvs.isEmpty
 | _ => False
theorem isEmpty_kv {κ : Type} {kvs : List (κ × V)} {vs : List (κ × Value)} (r : KV kvs vs) : (!vs.isEmpty) = !kvs.isEmpty := by
 cases r <;> rfl
theorem isEmpty_of {xs : List V} {its : List Value} (r : Vals xs its) : (!its.toArray.isEmpty) = !xs.isEmpty := by
 cases r <;> simp
theorem line63 : (sizeLine : Nat) < 2 ^ 63 := by rw [sizeLine_eq]; decide
theorem tru_ok : TruR X (fun x H Q => ∃ k, TruV X.K x H k /\ Q k H) := by
  intro pins s σ H x v Q I rx h
  obtain ⟨k, e, q⟩ := h
  have hl := line63
  have hs : sizeLine = 16777216 := sizeLine_eq
  cases x with
  | non =>
    cases rx
    have e' : k = false := e
    subst e'
    exact truthy_none ⟨H, I, q⟩
  | bl b =>
    cases rx
    have e' : k = b := e
    subst e'
    exact wpAny_truthy_bool ⟨H, I, q⟩
  | int i =>
    obtain ⟨t, rfl⟩ := rx
    have e' : k = (i != 0) := e
    subst e'
    exact PySem.P.truthy_int ⟨H, I, q⟩
  | str y =>
    obtain ⟨t, rfl⟩ := rx
    obtain ⟨hy, e'⟩ : y.length <= sizeLine /\ k = ((y.length : Int) != 0) := e
    subst e'
    exact PySem.P.truthy_str (by omega) ⟨H, I.tok _, q⟩
  | byt y =>
    obtain ⟨t, rfl⟩ := rx
    obtain ⟨hy, e'⟩ : y.size <= sizeLine /\ k = ((y.size : Int) != 0) := e
    subst e'
    exact PySem.W.truthy_bytes (by omega) ⟨H, I.tok _, q⟩
  | ref p =>
    cases rx
    have e' : (∃ xs, SqL X.K H p xs /\ k = !xs.isEmpty) \/ (∃ xs, SqT X.K H p xs /\ k = !xs.isEmpty) \/ ∃ kvs, H p = some (.dK kvs) /\ k = !kvs.isEmpty := e
    rcases e' with ⟨xs, hx, e'⟩ | ⟨xs, hx, e'⟩ | ⟨kvs, hx, e'⟩
    · subst e'
      obtain ⟨its, r, pl, hz⟩ := I.list hx
      have hlen := r.length
      exact wpAny_truthy_list pl.isList (by simp only [zq21x]; omega) ⟨H, I.tok _, by rw [isEmpty_of r]; exact q⟩
    · subst e'
      obtain ⟨its, r, pl, hz⟩ := I.tuple hx
      have hlen := r.length
      exact truthy_tuple pl (by simp only [zq21x]; omega) ⟨H, I.tok _, by rw [isEmpty_of r]; exact q⟩
    · subst e'
      obtain ⟨hz, hS, vs, r, m⟩ : kvs.length <= sizeLine /\ (p == sysModules) = false /\ ∃ vs, KV kvs vs /\ s.heap.DictOf (mixKind X.prog X.w) p vs := I.hok p _ hx
      have hlen : kvs.length = vs.length := Paired.length r
      exact wpAny_truthy_dict hS m (by omega) ⟨H, I.tok _, by rw [isEmpty_kv r]; exact q⟩
  | _ => exact (show False from e).elim
theorem pt_truth (ha : PE X a ta) (he : ∀ whole, isTrue a X.env whole = (do let v <- whole; standAt a.pos; holding [v] (truthy v))) :
  PT X a (fun σ H Q => ta σ H fun x H' => ∃ k, TruV X.K x H' k /\ Q k H') := by
 intro pins s σ H Q I h
 exact isTrue_plain (thn (ha pins s σ H _ I h) fun v s1 ⟨x, H1, I1, r1, q1⟩ => tru_ok pins s1 σ H1 x v Q I1 r1 q1) (he _)
theorem vals1 {x : V} {us : List Value} (r : Vals [x] us) : ∃ u, us = [u] /\ RelV x u := by
 cases r with
 | cons r1 r2 => cases r2; exact ⟨_, rfl, r1⟩
theorem vals2 {x y : V} {us : List Value} (r : Vals [x, y] us) : ∃ u w', us = [u, w'] /\ RelV x u /\ RelV y w' := by
  cases r with
  | cons r1 r2 =>
    cases r2 with
    | cons r3 r4 => cases r4; exact ⟨_, _, rfl, r1, r3⟩
theorem call_abs : CallR X (.builtin "abs") (fun xs H Q => ∃ i, xs = [.int i] /\ Q (.int (if i < 0 then -i else i)) H) := by
 intro pins s σ H xs us Q I r h
 obtain ⟨i, rfl, q⟩ := h
 obtain ⟨u, rfl, t, rfl⟩ := vals1 r
 exact call_abs_int fun u tk => ⟨.int (if i < 0 then -i else i), H, I.tok _, ⟨_, rfl⟩, q⟩
theorem call_min2 (hc : X.calm = true) : CallR X (.builtin "min") (fun xs H Q => ∃ i j, xs = [.int i, .int j] /\ Q (.int (if j < i then j else i)) H) := by
 intro pins s σ H xs us Q I r h
 obtain ⟨i, j, rfl, q⟩ := h
 obtain ⟨u, w', rfl, ⟨t, rfl⟩, ⟨t', rfl⟩⟩ := vals2 r
 refine min_two_ints (I.ok.hd hc) fun h' tk k => ⟨_, H, I.kept k, ?_, q⟩
 by_cases hj : j < i
 ·rw [if_pos hj, if_pos hj]; exact ⟨_, rfl⟩
 ·rw [if_neg hj, if_neg hj]; exact ⟨_, rfl⟩
end
structure ObjM (h : Heap) (x dx C : Addr) (mA : Str -> Option Value) : Prop where
 obj : h.get? x = some (PySem.W.instObj C dx)
 ns : h.Ns1 dx mA
 ne : dx ≠ x
theorem lookIn_ns {h : Heap} {dx : Addr} {mA : Str -> Option Value} (n : h.Ns1 dx mA) : ∃ od, h.get? dx = some od /\ ∀ name, PySem.W.lookIn name od = some (mA name) := by
 obtain ⟨o, es, ep, ho, hd, hk, _, hm⟩ := n
 refine ⟨o, ho, fun name => ?_⟩
 have e := hm name
 unfold nsFind findBy at e
 rw [<- Array.find?_toList] at e
 unfold PySem.W.lookIn
 rw [hd]
 dsimp only
 split
 ·rename_i y q
  rw [q] at e
  exact congrArg some e
 ·rename_i q
  rw [q] at e
  have a : es.toList.any (·.refKey) = false := by
   rw [List.any_eq_false]
   intro y hy
   obtain ⟨z, t, hkey⟩ := hk y (Array.mem_toList_iff.mp hy)
   simp [DictEntry.refKey, hkey]
  have a' : ¬ es.toList.any (·.refKey) = true := by rw [a]; exact zq7x
  rw [if_neg a']
  exact congrArg some e
theorem ObjM.look {h : Heap} {x dx C : Addr} {mA : Str -> Option Value} (I : ObjM h x dx C mA) : ∃ od, PySem.W.InstAt h x (PySem.W.instObj C dx) C (some od) /\ ∀ name, PySem.W.lookIn name od = some (mA name) :=
 let ⟨od, ho, hl⟩ := lookIn_ns I.ns
 ⟨od, ⟨I.obj, rfl, rfl, ho⟩, hl⟩
theorem RelO.some_of {v : V} {o : Option Value} (r : RelO (some v) o) : ∃ u, o = some u /\ RelV v u := by
 cases o with
 | none => exact (show False from r).elim
 | some u => exact ⟨u, rfl, r⟩
section
variable {P : Program} {w : World} {H H' : Hp} {h h' : Heap} {a C dx : Addr} {fs fs' : List (Str × V)}
theorem ins_get (hok : HOk P w H h) (e : H a = some (.ins C dx fs)) : ∃ mA, ObjM h a dx C mA /\ (∀ f, RelO (fs.lookup f) (mA f)) /\ PySem.Within mA (fs.map (·.1)) /\ fs.length <= 1000 /\ H dx = some (.own a) := by
 obtain ⟨d, z, ne, ob, mA, n, r, q⟩ := (show ObjOk P w H h a (.ins C dx fs) from hok a _ e)
 exact ⟨mA, ⟨ob, n, ne⟩, r, q, z, d⟩
end
structure Cls (K : PySem.W.Frag) (C : Addr) : Prop where
 pg : PySem.W.plainGet K C Str.empty = true
 hd : PySem.W.hasDictIn K C = true
 po : PySem.W.plainOver K C = true
 sa : PySem.W.findIn K (.ref C) "__setattr__" = some (some (.builtin "object.__setattr__"))
theorem Cls.get {K : PySem.W.Frag} {C : Addr} (c : Cls K C) (f : Str) : PySem.W.plainGet K C f = true := c.pg
section
variable {X : Cx} {pins : List (Addr × Obj)} {σ : St} {H : Hp} {s : Shared} {A : Around} {E : Value -> Shared -> Prop} {Q : Value -> Shared -> Prop} {c : Value} {b : Bool}
inductive TyOf (K : PySem.W.Frag) (H : Hp) : V -> Value -> Prop where
 | non : TyOf K H .non (.type "NoneType")
 | bl (x : Bool) : TyOf K H (.bl x) (.type "bool")
 | int (i : Int) : TyOf K H (.int i) (.type "int")
 | str (x : Str) : TyOf K H (.str x) (.type "str")
 | flt (x : UInt64) : TyOf K H (.flt x) (.type "float")
 | lst {a : Addr} {xs : List V} (e : H a = some (.lst xs)) : TyOf K H (.ref a) (.type "list")
 | frz {a : Addr} {o : Obj} {xs : List V} (e : H a = some (.frz o (.lst xs))) : TyOf K H (.ref a) (.type "list")
 | tup {a : Addr} {xs : List V} (e : H a = some (.tup xs)) : TyOf K H (.ref a) (.type "tuple")
 | dK {a : Addr} {kvs : List (Key × V)} (e : H a = some (.dK kvs)) : TyOf K H (.ref a) (.type "dict")
 | dT {a : Addr} {kvs : List (List Key × V)} (e : H a = some (.dT kvs)) : TyOf K H (.ref a) (.type "dict")
 | fzd {a : Addr} {o : Obj} {kvs : List (Key × V)} (e : H a = some (.frz o (.dK kvs))) : TyOf K H (.ref a) (.type "dict")
 | ins {a C dx : Addr} {fs : List (Str × V)} (e : H a = some (.ins C dx fs)) (cl : Cls K C) (ha : PySem.W.findIn K (.ref C) "__class__" = some (some (.builtin "object.__class__")))
   (hn : PySem.W.specialIn K (.builtin "object.__class__") "__get__" = some (some (.builtin "getset_descriptor.__get__"))) (htk : PySem.W.takesIn K (.builtin "object.__class__") = some true)
   (hm : PySem.W.mroIn K C (.type "object") = some true) : TyOf K H (.ref a) (.ref C)
theorem isinst_ok {x : V} {u t : Value} (I : Inv X pins σ H s) (rx : RelV x u) (ty : TyOf X.K H x t) (e : PySem.W.kitOne X.K t c = some b) (h : ∀ tk, Q (.bool b) { s with toks := tk }) :
    wpAny (model X.prog X.w) A (call (.builtin "isinstance") [u, c]) Q E s := by
  cases ty with
  | non => cases (show u = Value.none from rx); exact zq56x PySem.W.kitx_none I.kIn True.intro e (fun z => nomatch z) h
  | bl y => cases (show u = Value.bool y from rx); exact zq56x PySem.W.kitx_bool I.kIn True.intro e (fun z => nomatch z) h
  | int i => obtain ⟨t, q⟩ := (show ∃ t, u = Value.int i t from rx); cases q; exact zq56x PySem.W.kitx_int I.kIn True.intro e (fun z => nomatch z) h
  | str y => obtain ⟨t, q⟩ := (show ∃ t, u = Value.str y t from rx); cases q; exact zq56x PySem.W.kitx_str I.kIn True.intro e (fun z => nomatch z) h
  | flt y => obtain ⟨t, q⟩ := (show ∃ t, u = Value.float y t from rx); cases q; exact zq56x PySem.W.kitx_float I.kIn True.intro e (fun z => nomatch z) h
  | @lst a xs ea =>
    cases (show u = Value.ref a from rx)
    obtain ⟨_, _, n, _, h1⟩ := (show ObjOk X.prog X.w H s.heap a (.lst xs) from I.hok a _ ea)
    exact zq56x zq138x I.kIn ⟨_, h1, rfl⟩ e (fun z => nomatch z) h
  | @frz a ob xs ea =>
    cases (show u = Value.ref a from rx)
    obtain ⟨_, _, _, n, _, h1⟩ := (show ObjOk X.prog X.w H s.heap a (.frz ob (.lst xs)) from I.hok a _ ea)
    exact zq56x zq138x I.kIn ⟨_, h1, rfl⟩ e (fun z => nomatch z) h
  | @tup a xs ea =>
    cases (show u = Value.ref a from rx)
    obtain ⟨_, _, _, p⟩ := (show ObjOk X.prog X.w H s.heap a (.tup xs) from I.hok a _ ea)
    obtain ⟨o, h1, h2, _⟩ := p
    exact zq56x PySem.W.kitx_tuple I.kIn ⟨o, h1, h2⟩ e (fun z => nomatch z) h
  | @dK a kvs ea =>
    cases (show u = Value.ref a from rx)
    obtain ⟨_, _, vs, _, p⟩ := (show ObjOk X.prog X.w H s.heap a (.dK kvs) from I.hok a _ ea)
    obtain ⟨o, es, ep, h1, h2, _⟩ := p
    exact zq56x zq115x I.kIn ⟨o, h1, h2.1⟩ e (fun z => nomatch z) h
  | @dT a kvs ea =>
    cases (show u = Value.ref a from rx)
    obtain ⟨_, _, xs, _, o, es, ep, h1, h2, _⟩ := (show ObjOk X.prog X.w H s.heap a (.dT kvs) from I.hok a _ ea)
    exact zq56x zq115x I.kIn ⟨o, h1, h2.1⟩ e (fun z => nomatch z) h
  | @fzd a ob kvs ea =>
    cases (show u = Value.ref a from rx)
    obtain ⟨_, _, _, vs, _, o, es, ep, h1, h2, _⟩ := I.hok a _ ea
    exact zq56x zq115x I.kIn ⟨o, h1, h2.1⟩ e (fun z => nomatch z) h
  | @ins a C dx fs ea cl ha hn htk hm =>
    cases (show u = Value.ref a from rx)
    obtain ⟨mA, O, _⟩ := ins_get I.hok ea
    obtain ⟨od, J, _⟩ := O.look
    exact zq56x (PySem.W.kitx_own (cl.get _) cl.hd ha hn htk hm) I.kIn J e (fun z => nomatch z) h
end
structure Room (k : Nat) (A : Around) : Prop where
 hd : A.handled = none
 dp : A.depth + 3 * k + 5 < recursionLimit
 un : A.units + 16 * k + 200 < cLine
theorem Room.mono {j k : Nat} {A : Around} (r : Room k A) (h : j <= k) : Room j A := ⟨r.hd, by have := r.dp; omega, by have := r.un; omega⟩
theorem Room.deeper {k : Nat} {A : Around} (r : Room (k + 1) A) (env : Env) : Room k (A.deeper env) :=
 ⟨r.hd, by have := r.dp; show A.depth + 1 + 3 * k + 5 < _; omega, by have := r.un; show A.units + 3 + 16 * k + 200 < _; omega⟩
theorem Room.depth {k : Nat} {A : Around} (r : Room k A) : A.depth < recursionLimit := by have := r.dp; omega
theorem Room.units {k : Nat} {A : Around} (r : Room k A) : A.units + 64 < cLine := by have := r.un; omega
def tNil : TA := fun _ H Q => Q [] H
def tCons (ta : TE) (tr : TA) : TA := fun σ H Q => ta σ H fun x H1 => tr σ H1 fun xs H2 => Q (x :: xs) H2
section
variable {X : Cx} {e : Expr} {es : List Expr} {te : TE} {t : TA} {pos : Pos}
theorem pa_nil : PA X [] tNil := fun _ _ _ _ H Q I h => Calls.spliced_nil ⟨[], H, I, .nil, h⟩
theorem pa_cons (ha : PE X e te) (hr : PA X es t) (hs : starEach (e :: es) X.env = (false, eval e X.env) :: starEach es X.env := by rfl) : PA X (e :: es) (tCons te t) := by
 intro pos pins s σ H Q I h
 rw [hs]
 show wpAny _ _ (spliced ((false, eval e X.env) :: backTo pos (starEach es X.env))) _ _ s
 refine Calls.spliced_cons (thn (ha pins s σ H _ I h) fun u s1 ⟨x, H1, I1, r1, q1⟩ => ?_)
 exact thn (hr pos pins s1 σ H1 _ I1 q1) fun us s2 ⟨xs, H2, I2, r2, q2⟩ => ⟨x :: xs, H2, I2, .cons r1 r2, q2⟩
def tTup (t : TA) : TE := fun σ H Q => t σ H fun xs H1 => xs.length <= sizeLine /\ ∀ p, H1 p = none -> Q (.ref p) (upd H1 p (.tup xs))
def tLst (t : TA) : TE := fun σ H Q => t σ H fun xs H1 => xs.length <= sizeLine /\ ∀ p, H1 p = none -> Q (.ref p) (upd H1 p (.lst xs))
theorem pe_tup {x1} (h : PA X es t) : PE X (.Tuple es x1 pos) (tTup t) := by
 intro pins s σ H Q I hq
 refine wpAny_Tuple_spliced (thn (h pos pins s σ H _ I hq) fun us s1 ⟨xs, H1, I1, r, z, q⟩ => ⟨by rw [<- r.length]; exact z, ?_⟩)
 have hf : H1 s1.heap.objs.size = none := I1.hok.fresh (zq3x _)
 refine ⟨.ref s1.heap.objs.size, upd H1 s1.heap.objs.size (.tup xs), I1.laid (t' := s1.toks) (fun b u e => zq26x _ e) (zq3x _) ?_, rfl, q _ hf⟩
 exact ⟨z, us, r, ⟨_, zq44x _ rfl, rfl, _, rfl⟩⟩
theorem pe_lst (h : PA X es t) : PE X (.List es pos) (tLst t) := by
 intro pins s σ H Q I hq
 refine wpAny_List_spliced (thn (h pos pins s σ H _ I hq) fun us s1 ⟨xs, H1, I1, r, z, q⟩ => ⟨by rw [<- r.length]; exact z, ?_⟩)
 have hf : H1 s1.heap.objs.size = none := I1.hok.fresh (zq3x _)
 refine ⟨.ref s1.heap.objs.size, upd H1 s1.heap.objs.size (.lst xs), I1.laid (t' := s1.toks) (fun b u e => zq26x _ e) (zq3x _) ?_, rfl, q _ hf⟩
 exact ⟨z, us, 0, r, zq44x _ rfl⟩
end
abbrev Sp := List V -> Hp -> VK -> XK -> Prop
abbrev CXT := List Env -> Hp -> Shared -> XK -> Value -> Shared -> Prop
structure Env0 (P : Program) (w : World) (K : PySem.W.Frag) (mg : Str -> Option Value) (base : Heap) (A : Around) (outer : List Env) (s : Shared) (H : Hp) : Prop where
 frames : A.frames = some outer
 mod : Mod K mg base
 bs : ∀ b o, base.get? b = some o -> s.heap.get? b = some o /\ H b = none
 bsz : base.objs.size <= s.heap.objs.size
 funs : s.heap.FunFrames base outer
 frf : ∀ b ∈ frs outer, H b = none
 hok : HOk P w H s.heap
 bare : AllBare s.gens
def CE (outer : List Env) (P : Program) (w : World) (H : Hp) (s : Shared) (Q : VK) (u : Value) (s' : Shared) : Prop :=
 ∃ v H', s'.os = s.os /\ AllBare s'.gens /\ Un (frs outer) [] H H' s.heap s'.heap /\ HOk P w H' s'.heap /\ RelV v u /\ Q v H'
def CR (CX : CXT) (outer : List Env) (P : Program) (w : World) (H : Hp) (s : Shared) (Q : VK) (E : XK) (r : Result) (s' : Shared) : Prop :=
 match r with
 | .ok (.ret u) => CE outer P w H s Q u s'
 | .ok _ => False
 | .error e => CX outer H s E e s'
structure FnOk (P : Program) (w : World) (K : PySem.W.Frag) (mg : Str -> Option Value) (base : Heap) (CX : CXT) (k : Nat) (f : Addr) (fd : FuncData) (ps : List Str) (sp : Sp) : Prop where
 len : ∀ vs H Q E, sp vs H Q E -> vs.length = ps.length
 run : ∀ (A : Around) (outer : List Env) (s : Shared) (H : Hp) (args : Args) (us : List Value) (vs : List V) (Q : VK) (E : XK), Room k A -> Env0 P w K mg base A outer s H -> BindsTo s fd args (ps.zip us) -> Vals vs us -> sp vs H Q E ->
  codeAny (model P w) A (.call (.ref f) args) (CR CX outer P w H s Q E) s
section
variable {X : Cx} {pins : List (Addr × Obj)} {σ : St} {H : Hp} {s s' : Shared}
theorem Inv.env0 (I : Inv X pins σ H s) : Env0 X.prog X.w X.K X.mg X.base X.A X.stack s H :=
 ⟨I.ok.frames, I.ok.mod, I.bs, zq16x I.ok.bsz I.sz, I.stack, I.stkFree, I.hok, I.bare⟩
theorem Inv.after {Q : VK} {u : Value} (I : Inv X pins σ H s) (h : CE X.stack X.prog X.w H s Q u s') : EP X pins σ Q u s' := by
 obtain ⟨v, H', os, bare, un, hok, r, q⟩ := h
 obtain ⟨hh, g, d, t, os'⟩ := s'
 obtain rfl : os' = s.os := os
 exact ⟨v, H', I.call (h' := hh) (g' := g) (d' := d) (t' := t) (ch := []) un hok bare (fun b z => absurd z (by simp)), r, q⟩
end
def tCall (sp : Sp) (dvs : List V) (E : XK) (t : TA) : TE := fun σ H Q => t σ H fun vs H1 => sp (vs ++ dvs) H1 Q E
def Binds (K : PySem.W.Frag) (fd : FuncData) (ps : List Str) (ds : List Value) : Prop :=
 ∀ (s : Shared) (us : List Value), K.In s.heap -> (us ++ ds).length = ps.length -> BindsTo s fd ⟨us, []⟩ (ps.zip (us ++ ds))
theorem Binds.all {K : PySem.W.Frag} {fd : FuncData} {ps : List Str} (h : ∀ us : List Value, us.length = ps.length -> bindArgs fd ⟨us, []⟩ = pure (ps.zip us)) : Binds K fd ps [] := fun s us _ hl => by
 rw [zq39x] at hl ⊢
 exact .of_eq (h us hl)
def Passes (CX : CXT) (X : Cx) (E : XK) : Prop := ∀ (pins : List (Addr × Obj)) (σ : St) (H : Hp) (s : Shared) (e : Value) (s' : Shared), Inv X pins σ H s -> CX X.stack H s E e s' -> X.xe e s'
section
variable {X : Cx} {CX : CXT} {k : Nat} {f C : Addr} {fd : FuncData} {ps : List Str} {sp : Sp} {dvs : List V} {ds : List Value} {E : XK} {x m : Str} {p pos apos : Pos} {e o : Expr} {es : List Expr} {ta : TE} {t : TA}
theorem run_fn {pins : List (Addr × Obj)} {σ : St} {H : Hp} {s : Shared} {Q : VK} {us : List Value} {vs : List V} (F : FnOk X.prog X.w X.K X.mg X.base CX k f fd ps sp) (hr : Room k X.A) (hb : Binds X.K fd ps ds) (hd : Vals dvs ds) (hx : Passes CX X E)
    (I : Inv X pins σ H s) (r : Vals vs us) (h : sp (vs ++ dvs) H Q E) : wpAny (model X.prog X.w) X.A (call (.ref f) us) (EP X pins σ Q) X.xe s := by
  have r2 : Vals (vs ++ dvs) (us ++ ds) := r.append hd
  have hl : (us ++ ds).length = ps.length := by rw [<- r2.length]; exact F.len _ _ _ _ h
  refine wpAny_call (codeAny_mono (F.run X.A X.stack s H ⟨us, []⟩ (us ++ ds) (vs ++ dvs) Q E hr I.env0 (hb s us I.kIn hl) r2 h) fun r s' hq => ?_)
  cases r with
  | error e => exact hx pins σ H s e s' I hq
  | ok fl =>
    cases fl with
    | ret u => exact I.after hq
    | next => exact False.elim hq
    | brk => exact False.elim hq
    | cont => exact False.elim hq
theorem pe_call (F : FnOk X.prog X.w X.K X.mg X.base CX k f fd ps sp) (hr : Room k X.A) (hg : Gl X x) (hm : X.mg x = some (.ref f)) (hk : PySem.W.keepIn X.K (.ref f) = true) (hb : Binds X.K fd ps ds) (hd : Vals dvs ds) (hx : Passes CX X E)
  (ha : PA X (e :: es) t) (hdb : (x == ("__debug__" : Str)) = false := by decide) (he : starEach (e :: es) X.env = (false, eval e X.env) :: starEach es X.env := by rfl) (hpl : (backTo pos (starEach es X.env)).any (·.1) = false := by rfl) :
  PE X (.Call (.Name x p) (e :: es) [] pos) (tCall sp dvs E t) := by
 intro pins s σ H Q I h
 refine wpAny_Call_Name_kw (ld_glob I hg hm ?_ hdb)
 refine PySem.W.callWith_K (h₀ := X.base) I.ok.mod.kin hk (thn (ha pos pins s σ H _ I h) fun us s1 ⟨vs, H1, I1, r, q⟩ => ⟨I1.kIn, ?_⟩) he hpl
 exact run_fn F hr hb hd hx I1 r q
end
structure FnScope (N P : List Str) (sc : Scope) : Prop where
 kind : sc.kind = .function
 co : sc.isCoroutine = false
 gen : sc.isGenerator = false
 nd : N.Nodup
 pre : N.take P.length = P
 par : ∀ x ∈ P, sc.names.lookup x = some .local \/ sc.names.lookup x = some .cell
 nofree : ∀ y ∈ sc.names, y.2 ≠ .free
theorem bindL_out {kindOf : Str -> Option NameKind} {x : Str} : ∀ {binds : List (Str × Value)} {m : Str -> Option Value}, (∀ v, (x, v) ∉ binds) -> bindL kindOf binds m x = m x
  | [], _, _ => rfl
  | (n, v) :: r, m, h => by
    unfold bindL
    rw [bindL_out fun w hw => h w (zq33x _ hw)]
    split
    · have : x ≠ n := by rintro rfl; exact h v zq27x
      simp [this]
    · rfl
theorem bindC_out {kindOf : Str -> Option NameKind} {x : Str} : ∀ {binds : List (Str × Value)} {m : Str -> Option Value}, (∀ v, (x, v) ∉ binds) -> bindC kindOf binds m x = m x
  | [], _, _ => rfl
  | (n, v) :: r, m, h => by
    unfold bindC
    rw [bindC_out fun w hw => h w (zq33x _ hw)]
    split
    · rfl
    · have : x ≠ n := by rintro rfl; exact h v zq27x
      simp [this]
theorem bindL_get {kindOf : Str -> Option NameKind} {x : Str} {v : Value} : ∀ {P : List Str} {vs : List Value} {i : Nat} {m : Str -> Option Value}, P.Nodup -> P[i]? = some x -> vs[i]? = some v -> kindOf x = some .local ->
    bindL kindOf (P.zip vs) m x = some v
  | [], _, _, _, _, h, _, _ => by simp at h
  | _ :: _, [], _, _, _, _, h, _ => by simp at h
  | p :: P, w :: vs, 0, m, nd, h1, h2, hk => by
    simp at h1 h2; subst h1; subst h2
    show bindL kindOf ((p, w) :: P.zip vs) m p = _
    unfold bindL
    rw [bindL_out fun v hv => (zq68x.mp nd).1 (zq139x hv).1, if_pos hk]
    simp
  | p :: P, w :: vs, i + 1, m, nd, h1, h2, hk => by
    show bindL kindOf ((p, w) :: P.zip vs) m x = _
    unfold bindL
    exact bindL_get (i := i) (zq68x.mp nd).2 (by simpa using h1) (by simpa using h2) hk
theorem bindC_get {kindOf : Str -> Option NameKind} {x : Str} {v : Value} : ∀ {P : List Str} {vs : List Value} {i : Nat} {m : Str -> Option Value}, P.Nodup -> P[i]? = some x -> vs[i]? = some v -> kindOf x ≠ some .local ->
    bindC kindOf (P.zip vs) m x = some v
  | [], _, _, _, _, h, _, _ => by simp at h
  | _ :: _, [], _, _, _, _, h, _ => by simp at h
  | p :: P, w :: vs, 0, m, nd, h1, h2, hk => by
    simp at h1 h2; subst h1; subst h2
    show bindC kindOf ((p, w) :: P.zip vs) m p = _
    unfold bindC
    rw [bindC_out fun v hv => (zq68x.mp nd).1 (zq139x hv).1, if_neg hk]
    simp
  | p :: P, w :: vs, i + 1, m, nd, h1, h2, hk => by
    show bindC kindOf ((p, w) :: P.zip vs) m x = _
    unfold bindC
    exact bindC_get (i := i) (zq68x.mp nd).2 (by simpa using h1) (by simpa using h2) hk
def start (N : List Str) (vs : List V) : St := vs.map some ++ List.replicate (N.length - vs.length) none
def cxOf (CX : CXT) (P : Program) (w : World) (K : PySem.W.Frag) (mg : Str -> Option Value) (base : Heap) (N : List Str) (qual : Str) (scope : Scope) (f : Addr) (cd : Value) (A : Around) (outer : List Env) (s : Shared) (H : Hp) (E : XK) : Cx where
 prog := P
 w := w
 K := K
 mg := mg
 base := base
 A := A.deeper (envOfC qual scope s.heap.objs.size f cd)
 N := N
 s₀ := s
 H₀ := H
 env := envOfC qual scope s.heap.objs.size f cd
 outer := outer
 stack := envOfC qual scope s.heap.objs.size f cd :: outer
 ex := []
 calm := true
 fn := fun _ => true
 pn := []
 xe := fun e s' => wpAny (model P w) (A.deeper (envOfC qual scope s.heap.objs.size f cd)) (leaving (envOfC qual scope s.heap.objs.size f cd) e) (fun _ s'' => CX outer H s E e s'') (fun e' s'' => CX outer H s E e' s'') s'
theorem cell_has {sc : Scope} {n : Nat} {x : Str} (h : sc.names.lookup x = some .cell) : ∃ c, (cellsFrom n sc.names []).lookup x = some c := by
 have q := zq140x sc.names n [] (.inl h)
 exact zq116x.mp q
theorem inv_start {CX : CXT} {P : Program} {w : World} {K : PySem.W.Frag} {mg : Str -> Option Value} {base : Heap} {N ps : List Str} {qual : Str} {scope : Scope} {f : Addr} {cd : Value} {A : Around} {outer : List Env} {s s1 : Shared} {H : Hp} {E : XK} {us : List Value} {vs : List V}
  (S : FnScope N ps scope) (hd : A.handled = none) (e0 : Env0 P w K mg base A outer s H) (hl : vs.length = ps.length) (r : Vals vs us)
  (x : InCallC s s.heap.objs.size (bindL (envOfC qual scope s.heap.objs.size f cd).kindOf (ps.zip us) fun _ => none) (cellsFrom (s.heap.objs.size + 1) scope.names []) (bindC (envOfC qual scope s.heap.objs.size f cd).kindOf (ps.zip us) fun _ => none) s1) :
  Inv (cxOf CX P w K mg base N qual scope f cd A outer s H E) [] (start N vs) H s1 := by
 have hpl : ps.length <= N.length := by have := congrArg List.length S.pre; rw [zq47x] at this; omega
 obtain ⟨h1, tk, rfl, hk⟩ := x.done
 have noA : ∀ b : Addr, b ∉ (cxOf CX P w K mg base N qual scope f cd A outer s H E).ex := fun b z => absurd (show b ∈ ([] : List Addr) from z) (by simp)
 refine ⟨⟨e0.mod, S.kind, rfl, rfl, zq3x _, fun y z c h1 h2 => ?_, fun y hy => ?_, fun y c _ h => ?_, fun _ => hd, Around.frames_deeper e0.frames, .inr ⟨rfl, rfl⟩, fun b z => absurd z (noA b), e0.bs, e0.bsz, fun b _ _ => noA b, fun b z => absurd z (noA b), e0.funs, e0.frf⟩,
  rfl, e0.bare, Un.kept hk, ⟨_, x.toInCall.ns, fun i y v h1 h2 h3 => ?_⟩, fun y c h => ⟨_, x.cell y c h⟩, e0.hok.fresh (zq3x _), fun y c h => ?_, fun p hp => absurd (show p ∈ ([] : List (Addr × Obj)) from hp) (by simp), e0.hok.kept hk, ?_⟩
 ·exact name_of_addr x.apart (zq69x h1) (zq69x h2)
 ·have hy : scope.names.lookup y = some .cell \/ scope.names.lookup y = some .free := hy
  rcases hy with hy | hy
  ·exact cell_has hy
  ·exact absurd rfl (S.nofree _ (zq69x hy))
 ·exact zq67x (x.above y c (zq69x h))
 ·have hi : i < vs.length := by
   unfold start at h2
   by_cases hi : i < vs.length
   ·exact hi
   ·rw [zq48x (by simpa using hi)] at h2
    rw [zq35x] at h2
    split at h2 <;> cases h2
  have ha : vs[i]? = some v := by
   unfold start at h2
   rw [zq45x (by simpa using hi), zq13x] at h2
   cases e : vs[i]? with
   | none => rw [e] at h2; cases h2
   | some a => rw [e] at h2; cases h2; rfl
  obtain ⟨u, hu, rv⟩ := r.get ha
  have hp : ps[i]? = some y := by
   rw [<- S.pre, zq95x (by omega)]; exact h1
  have ndP : ps.Nodup := by rw [<- S.pre]; exact S.nd.sublist (zq141x _ _)
  refine ⟨u, rv, ?_⟩
  rcases S.par y (zq8x hp) with k | k
  ·exact .inl ⟨k, bindL_get ndP hp hu k⟩
  ·obtain ⟨c, e⟩ := cell_has (n := s.heap.objs.size + 1) k
   refine .inr ⟨.inl k, c, e, ?_⟩
   have q := x.cell y c e
   rw [bindC_get ndP hp hu (by show scope.names.lookup y ≠ _; rw [k]; decide)] at q
   exact q
 ·exact e0.hok.fresh (zq67x (x.above y c (zq69x h)))
 ·unfold start
  show _ = N.length
  rw [zq22x, zq0x, List.length_replicate]
  omega
theorem fn_of {CX : CXT} {P : Program} {w : World} {K : PySem.W.Frag} {mg : Str -> Option Value} {base : Heap} {k : Nat} {f : Addr} {name qual : Str} {params : Arguments} {body : List Stmt} {scope : Scope} {dV kV doc pm cdv ct oc : Value} {an od : Option Addr}
    {osl : Array (Option Value)} {N ps : List Str} {sp : Sp} (lk : K.lookup f = some ⟨oc, od, .func (PySem.W.fnOf name qual params body scope dV kV doc pm an cdv ct), osl⟩) (hcd : PySem.W.codeIn K cdv qual = true) (S : FnScope N ps scope)
    (len : ∀ vs H Q E, sp vs H Q E -> vs.length = ps.length)
    (hbody : ∀ (A : Around) (outer : List Env) (s : Shared) (H : Hp) (vs : List V) (Q : VK) (E : XK), Room k (A.deeper (envOfC qual scope s.heap.objs.size f cdv)) -> sp vs H Q E ->
      ∃ t, PSs (cxOf CX P w K mg base N qual scope f cdv A outer s H E) body t /\ t { nx := fun _ H' => Q .non H', rt := Q } (start N vs) H) :
    FnOk P w K mg base CX (k + 1) f (PySem.W.fnOf name qual params body scope dV kV doc pm an cdv ct) ps sp := by
  refine ⟨len, fun A outer s H args us vs Q E hr e0 hb r hsp => ?_⟩
  have hl := len _ _ _ _ hsp
  have KX : K.In s.heap := e0.mod.kin.keeps fun b o e => (e0.bs b o e).1
  have lim : s.heap.NoLimit := e0.mod.nolimit.keeps fun b o e => (e0.bs b o e).1
  have hkind : ∀ y ∈ ps.zip us, scope.names.lookup y.1 = some .local \/ (scope.names.lookup y.1 = some .cell /\ ((cellsFrom (s.heap.objs.size + 1) scope.names []).lookup y.1).isSome = true) := fun ⟨n, v⟩ hy => by
    rcases S.par n (zq139x hy).1 with q | q
    · exact .inl q
    · exact .inr ⟨q, zq140x _ _ _ (.inl q)⟩
  refine codeAny_call_function hr.depth (KX _ _ lk) rfl S.co S.gen rfl (PySem.W.codeRec_of KX hcd) (hb _ _ _ _ ?_)
  refine wpAny_newFunctionEnv_cells S.kind hkind fun env he s1 x => ?_
  subst he
  refine ⟨lim.keeps x.toInCall.keep, codeAny_func ?_⟩
  obtain ⟨t, ht, hq⟩ := hbody A outer s H vs Q E (hr.deeper _) hsp
  have I : Inv (cxOf CX P w K mg base N qual scope f cdv A outer s H E) [] (start N vs) H s1 := inv_start S hr.hd e0 hl r x
  refine wpAny_mono (ht [] s1 (start N vs) H _ I hq) (fun fl s' hs => ?_) fun e s' hs => hs
  have fin : ∀ {σ' : St} {H' : Hp} {v : V} {u : Value}, Inv (cxOf CX P w K mg base N qual scope f cdv A outer s H E) [] σ' H' s' -> RelV v u -> Q v H' -> CE outer P w H s Q u s' :=
    fun {σ' H' v u} J rv q => ⟨v, H', J.os, J.bare, J.base, J.hok, rv, q⟩
  cases fl with
  | ret u =>
    obtain ⟨v, σ', H', J, rv, q⟩ := hs
    exact fin J rv q
  | next =>
    obtain ⟨σ', H', J, q⟩ := hs
    exact fin (v := V.non) (u := Value.none) J rfl q
  | brk =>
    obtain ⟨_, _, _, q⟩ := hs
    exact False.elim q
  | cont =>
    obtain ⟨_, _, _, q⟩ := hs
    exact False.elim q
section
variable {X : Cx} {x : Str} {p pos : Pos} {e : Expr} {es : List Expr} {t : TA} {id T : String} {r : List V -> Hp -> VK -> Prop}
def tCB (r : List V -> Hp -> VK -> Prop) (t : TA) : TE := fun σ H Q => t σ H fun vs H1 => r vs H1 Q
theorem pe_callB (hc : CallR X (.builtin id) r) (hg : Gl X x) (hm : X.mg x = none) (hv : bootBuiltins x = some (.builtin id)) (ha : PA X (e :: es) t) (hn : x ≠ "__name__" := by decide) (hdb : (x == ("__debug__" : Str)) = false := by decide)
  (he : starEach (e :: es) X.env = (false, eval e X.env) :: starEach es X.env := by rfl) (hpl : (backTo pos (starEach es X.env)).any (·.1) = false := by rfl) : PE X (.Call (.Name x p) (e :: es) [] pos) (tCB r t) := by
 intro pins s σ H Q I h
 refine wpAny_Call_Name_kw (ld_blt I hg hm hv ?_ hn hdb)
 exact PyProof.Rows.callWith_builtin1 (thn (ha pos pins s σ H _ I h) fun us s1 ⟨vs, H1, I1, r1, q1⟩ => hc pins s1 σ H1 vs us Q I1 r1 q1) he hpl
theorem pe_callTy (hc : CallR X (.type T) r) (hg : Gl X x) (hm : X.mg x = none) (hv : bootBuiltins x = some (.type T)) (ha : PA X (e :: es) t) (hn : x ≠ "__name__" := by decide) (hdb : (x == ("__debug__" : Str)) = false := by decide)
  (he : starEach (e :: es) X.env = (false, eval e X.env) :: starEach es X.env := by rfl) (hpl : (backTo pos (starEach es X.env)).any (·.1) = false := by rfl) : PE X (.Call (.Name x p) (e :: es) [] pos) (tCB r t) := by
 intro pins s σ H Q I h
 refine wpAny_Call_Name_kw (ld_blt I hg hm hv ?_ hn hdb)
 exact zq114x (thn (ha pos pins s σ H _ I h) fun us s1 ⟨vs, H1, I1, r1, q1⟩ => hc pins s1 σ H1 vs us Q I1 r1 q1) he hpl
end
end L2
namespace HT
open PySem PyProof.Rows
section
open PySem.SeqAt
open PySem.AutoSeq1 (wpAny_loadPart')
open PySem.MeetsSeq PySem.MeetsSeq2 PySem.MeetsSeq3
end
section
variable {prog : Program} {w : World} {A : Around} {E : Value -> Shared -> Prop} {s : Shared}
def sIx (n d : Nat) : Option Int -> Nat
 | none => d
 | some v => if v < 0 then (v + (n : Int)).toNat else min v.toNat n
theorem sIx_none (n d : Nat) : sIx n d none = d := rfl
end
end HT
namespace L2
open PySem PySem.Spec PyProof.Rows
abbrev TO := St -> Hp -> (Option Int -> Hp -> Prop) -> Prop
def PO (X : Cx) (e : Option Expr) (t : TO) : Prop :=
 ∀ (pins : List (Addr × Obj)) (s : Shared) (σ : St) (H : Hp) (Q : Option Int -> Hp -> Prop), Inv X pins σ H s -> t σ H Q ->
  wpAny (model X.prog X.w) X.A (evalPart e X.env) (fun u s' => ∃ o H', Inv X pins σ H' s' /\ IsPart u o /\ Q o H') X.xe s
def tNoPart : TO := fun _ H Q => Q none H
def tPart (t : TE) : TO := fun σ H Q => t σ H fun x H1 => ∃ i, x = .int i /\ Q (some i) H1
section
variable {X : Cx} {e : Expr} {te : TE} {lo hi : Option Expr} {tl th : TO} {pos p2 : Pos}
theorem po_none : PO X none tNoPart := by
 intro pins s σ H Q I h
 rw [evalPart_none]
 exact wpAny_pure ⟨none, H, I, .none, h⟩
theorem po_some (h : PE X e te) : PO X (some e) (tPart te) := by
 intro pins s σ H Q I hw
 rw [evalPart_some]
 refine thn (h pins s σ H _ I hw) fun u s1 ⟨x, H1, I1, r1, q1⟩ => ?_
 obtain ⟨i, rfl, q⟩ := q1
 obtain ⟨t, rfl⟩ := r1
 exact ⟨some i, H1, I1, .int i t, q⟩
def SlR (X : Cx) (r : V -> Option Int -> Option Int -> Hp -> VK -> Prop) : Prop :=
 ∀ (pins : List (Addr × Obj)) (s : Shared) (σ : St) (H : Hp) (x : V) (v vl vu : Value) (lo hi : Option Int) (sl : Addr) (Q : VK), Inv X pins σ H s -> RelV x v -> s.heap.IsSliceOf sl vl vu .none -> IsPart vl lo -> IsPart vu hi -> r x lo hi H Q ->
  ∃ T id, typeLookup (.type T) "__getitem__" = pure (some (.builtin id)) /\ s.TypeIs v T /\ wpAny (model X.prog X.w) X.A (getItem v (.ref sl)) (EP X pins σ Q) X.xe s
def tSl (r : V -> Option Int -> Option Int -> Hp -> VK -> Prop) (te : TE) (tl th : TO) : TE := fun σ H Q => te σ H fun x H1 => tl σ H1 fun l H2 => th σ H2 fun u H3 => r x l u H3 Q
theorem pe_slice {r : V -> Option Int -> Option Int -> Hp -> VK -> Prop} (hr : SlR X r) (he : PE X e te) (hl : PO X lo tl) (hu : PO X hi th) : PE X (.Subscript e (.Slice lo hi none p2) pos) (tSl r te tl th) := by
 intro pins s σ H Q I h
 refine Subscript_ (thn (he pins s σ H _ I h) fun v s1 ⟨x, H1, I1, r1, q1⟩ => ?_)
 refine wpAny_Slice (thn (hl pins s1 σ H1 _ I1 q1) fun vl s2 ⟨l, H2, I2, pl, q2⟩ => thn (hu pins s2 σ H2 _ I2 q2) fun vu s3 ⟨u, H3, I3, pu, q3⟩ => ?_)
 rw [evalPart_none]
 refine wpAny_pure ?_
 have I4 : Inv X pins σ H3 { s3 with heap := s3.heap.push { cls := .type "slice", data := .fields #[vl, vu, .none] } } := I3.kept (t' := s3.toks) fun b ob q => zq26x _ q
 obtain ⟨T, id, hT, ht, hg⟩ := hr pins { s3 with heap := s3.heap.push { cls := .type "slice", data := .fields #[vl, vu, .none] } } σ H3 x v vl vu l u s3.heap.objs.size Q I4 r1 (Heap.IsSliceOf.new ..) pl pu q3
 show wpAny (model X.prog X.w) X.A (subscriptTail e (.Slice lo hi none p2) v (.ref s3.heap.objs.size)) (EP X pins σ Q) X.xe { s3 with heap := s3.heap.push { cls := .type "slice", data := .fields #[vl, vu, .none] } }
 exact tail_any (ops := [.ref s3.heap.objs.size, v]) ht hT hg (by with_unfolding_all rfl)
def cutV (xs : List V) (lo hi : Option Int) : List V := (xs.drop (HT.sIx xs.length 0 lo)).take (HT.sIx xs.length xs.length hi - HT.sIx xs.length 0 lo)
theorem cutV_length (xs : List V) (lo hi : Option Int) : (cutV xs lo hi).length <= xs.length := by
 unfold cutV
 rw [zq47x, List.length_drop]
 omega
def rSlT (K : PySem.W.Frag) : V -> Option Int -> Option Int -> Hp -> VK -> Prop := fun x lo hi H Q => ∃ a xs, x = .ref a /\ SqT K H a xs /\
 ¬ (HT.sIx xs.length 0 lo = 0 /\ HT.sIx xs.length xs.length hi = xs.length) /\ ∀ p, H p = none -> Q (.ref p) (upd H p (.tup (cutV xs lo hi)))
def rCatT (K : PySem.W.Frag) : R2 := fun x y H Q => ∃ a b xs ys, x = .ref a /\ y = .ref b /\ SqT K H a xs /\ SqT K H b ys /\ xs ≠ [] /\ xs.length + ys.length <= sizeLine /\
 (ys = [] -> Q (.ref a) H) /\ (ys ≠ [] -> ∀ p, H p = none -> Q (.ref p) (upd H p (.tup (xs ++ ys))))
end
def ixN (n : Nat) (i : Int) : Option Nat := if 0 <= i then (if i < n then some i.toNat else none) else if -(n : Int) <= i then some (i + n).toNat else none
def atI {α : Type} (xs : List α) (i : Int) : Option α := (ixN xs.length i).bind fun j => xs[j]?
theorem ixN_seq {n : Nat} {i : Int} {j : Nat} (h : ixN n i = some j) : seqIndex? i n = some j /\ j < n /\ -(n : Int) <= i /\ i < n := by
 unfold ixN at h
 by_cases h0 : 0 <= i
 ·rw [if_pos h0] at h
  by_cases h1 : i < n
  ·rw [if_pos h1] at h
   have e : i.toNat = j := zq31x h
   exact ⟨by rw [seqIndex_of h0 h1, e], by omega, by omega, h1⟩
  ·rw [if_neg h1] at h; cases h
 ·rw [if_neg h0] at h
  by_cases h1 : -(n : Int) <= i
  ·rw [if_pos h1] at h
   have e : (i + n).toNat = j := zq31x h
   exact ⟨by rw [seqIndex_neg (by omega) h1, e], by omega, h1, by omega⟩
  ·rw [if_neg h1] at h; cases h
theorem atI_get {α : Type} {xs : List α} {i : Int} {v : α} (h : atI xs i = some v) : ∃ j, seqIndex? i xs.length = some j /\ xs[j]? = some v /\ j < xs.length /\ -(xs.length : Int) <= i /\ i < xs.length := by
  unfold atI at h
  cases e : ixN xs.length i with
  | none => rw [e] at h; cases h
  | some j =>
    rw [e] at h
    obtain ⟨h1, h2, h3, h4⟩ := ixN_seq e
    exact ⟨j, h1, h, h2, h3, h4⟩
theorem atI_nat {α : Type} {xs : List α} {j : Nat} {v : α} (h : xs[j]? = some v) : atI xs (j : Int) = some v := by
 have hj : j < xs.length := (zq2x.mp h).1
 have e : ixN xs.length (j : Int) = some j := by
  unfold ixN
  rw [if_pos (by omega), if_pos (by omega)]; simp
 unfold atI; rw [e]; exact h
theorem atI_last {α : Type} (xs : List α) (v : α) : atI (xs ++ [v]) (-1) = some v := by
 have hl : (xs ++ [v]).length = xs.length + 1 := by simp
 have e : ixN (xs ++ [v]).length (-1) = some xs.length := by
  unfold ixN
  rw [hl, if_neg (by decide), if_pos (by omega)]
  congr 1
  omega
 unfold atI
 rw [e]
 show (xs ++ [v])[xs.length]? = some v
 simp
def PlainIx (b : Expr) : Prop := ∀ o i, subscripted b false o i = operate [o, i] (getItem o i)
def IxR (X : Cx) (r : R2) : Prop :=
 ∀ (value slice : Expr) (pins : List (Addr × Obj)) (s : Shared) (σ : St) (H : Hp) (x y : V) (v u : Value) (Q : VK), Inv X pins σ H s -> RelV x v -> RelV y u -> r x y H Q ->
  subscripted slice false v u = operate [v, u] (getItem v u) -> wpAny (model X.prog X.w) X.A (subscriptTail value slice v u) (EP X pins σ Q) X.xe s
def MtR (X : Cx) (id : String) (r : V -> List V -> Hp -> VK -> Prop) : Prop :=
 ∀ (pins : List (Addr × Obj)) (s : Shared) (σ : St) (H : Hp) (x : V) (xs : List V) (v : Value) (us : List Value) (Q : VK), Inv X pins σ H s -> RelV x v -> Vals xs us -> r x xs H Q ->
  wpAny (model X.prog X.w) X.A (call (.builtin id) (v :: us)) (EP X pins σ Q) X.xe s
section
variable {X : Cx} {a b : Expr} {ta tb : TE} {pos : Pos}
theorem IxR.or {r r' : R2} (h : IxR X r) (h' : IxR X r') : IxR X (fun x y H Q => r x y H Q \/ r' x y H Q) := by
 intro value slice pins s σ H x y v u Q I rx ry q hs
 rcases q with q | q
 ·exact h value slice pins s σ H x y v u Q I rx ry q hs
 ·exact h' value slice pins s σ H x y v u Q I rx ry q hs
theorem pe_ix {r : R2} (hr : IxR X r) (ha : PE X a ta) (hb : PE X b tb) (hs : PlainIx b) : PE X (.Subscript a b pos) (tOp r ta tb) := by
 intro pins s σ H Q I h
 exact Subscript_ (binT ha hb I h fun v u s2 x y H2 I2 rx ry q => hr a b pins s2 σ H2 x y v u Q I2 rx ry q (hs _ _))
def rIxL (K : PySem.W.Frag) : R2 := fun x y H Q => ∃ p xs i v, x = .ref p /\ y = .int i /\ SqL K H p xs /\ atI xs i = some v /\ Q v H
def rIxT (K : PySem.W.Frag) : R2 := fun x y H Q => ∃ p xs i v, x = .ref p /\ y = .int i /\ SqT K H p xs /\ atI xs i = some v /\ Q v H
def rIxS : R2 := fun x y H Q => ∃ z i c, x = .str z /\ y = .int i /\ z.length <= sizeLine /\ atI z.cps.toList i = some c /\ Q (.str ⟨#[c]⟩) H
theorem ix_list : IxR X (rIxL X.K) := by
 intro value slice pins s σ H x y v u Q I rx ry h hs
 obtain ⟨p, xs, i, z, rfl, rfl, hq, he, q⟩ := h
 cases rx
 obtain ⟨t, rfl⟩ := ry
 obtain ⟨its, r, pl, hz⟩ := I.list hq
 obtain ⟨j, h1, h2, h3, h4, h5⟩ := atI_get he
 obtain ⟨w, ew, rw'⟩ := r.get h2
 have hl := r.length
 have hn := line63
 have fin : EP X pins σ Q w s := ⟨z, H, I, rw', q⟩
 by_cases h0 : 0 <= i
 ·have hj : i.toNat = j := by
   rw [seqIndex_of h0 h5] at h1
   exact zq31x h1
  exact item_listR pl.isList h0 (by omega) (by rw [hj]; simpa using ew) fin hs
 ·have hj : (i + (its.toArray.size : Int)).toNat = j := by
   rw [seqIndex_neg (by omega) h4] at h1
   rw [zq21x, <- hl]
   exact zq31x h1
  exact subscriptTail_builtinR (x := w) pl.isList.typeIs slot_list_getitem.lookup
   (wpAny_getItem_list_neg (Q := fun r s' => r = w /\ EP X pins σ Q r s') pl.isList (by omega) (by rw [zq21x] <;> omega) (by omega) (by rw [hj]; simpa using ew) ⟨rfl, fin⟩) hs
theorem ix_tup : IxR X (rIxT X.K) := by
 intro value slice pins s σ H x y v u Q I rx ry h hs
 obtain ⟨p, xs, i, z, rfl, rfl, hq, he, q⟩ := h
 cases rx
 obtain ⟨t, rfl⟩ := ry
 obtain ⟨its, r, pl, hz⟩ := I.tuple hq
 obtain ⟨j, h1, h2, h3, h4, h5⟩ := atI_get he
 obtain ⟨w, ew, rw'⟩ := r.get h2
 have hl := r.length
 have hn := line63
 have fin : EP X pins σ Q w s := ⟨z, H, I, rw', q⟩
 exact subscriptTail_builtinR (x := w) pl.typeIs slot_tuple_getitem.lookup
  (getItem_tuple (j := j) (Q := fun r s' => r = w /\ EP X pins σ Q r s') pl (by omega) (by omega) (by rw [zq21x, <- hl]; exact h1) (by simpa using ew) ⟨rfl, fin⟩) hs
theorem ix_str : IxR X rIxS := by
 intro value slice pins s σ H x y v u Q I rx ry h hs
 obtain ⟨z, i, c, rfl, rfl, hz, he, q⟩ := h
 obtain ⟨t, rfl⟩ := rx
 obtain ⟨t', rfl⟩ := ry
 obtain ⟨j, h1, h2, h3, h4, h5⟩ := atI_get he
 have hl : z.cps.toList.length = z.length := by simp [Str.length]
 rw [hl] at h1 h4 h5
 have hn := line63
 exact tail_any (typeIs_str s z t) slot_str_getitem.lookup (getItem_str (c := c) (by
  have e1 : decide (i < -(2 ^ 63 : Int)) = false := decide_eq_false (by omega)
  have e2 : decide (i ≥ 2 ^ 63) = false := decide_eq_false (by omega)
  rw [e1, e2, zq85x]) (by rw [h1]; simpa using h2) ⟨.str ⟨#[c]⟩, H, I.tok _, ⟨_, rfl⟩, q⟩) hs
def rIx (K : PySem.W.Frag) : R2 := fun x y H Q => rIxL K x y H Q \/ rIxT K x y H Q \/ rIxS x y H Q
theorem ix_seq : IxR X (rIx X.K) := ix_list.or (ix_tup.or ix_str)
theorem mapSeq_set (its : List Value) (n j : Nat) (u : Value) : Obj.mapSeq (·.setIfInBounds j u) { cls := .type "list", data := .seq its.toArray n } = { cls := .type "list", data := .seq (its.set j u).toArray n } := by
 simp [Obj.mapSeq]
theorem Inv.lst {pins : List (Addr × Obj)} {σ : St} {H : Hp} {s : Shared} {p : Addr} {xs : List V} (I : Inv X pins σ H s) (h : H p = some (.lst xs)) :
  ∃ (its : List Value) (n : Nat), Vals xs its /\ s.heap.get? p = some { cls := .type "list", data := .seq its.toArray n } /\ xs.length <= sizeLine := by
 obtain ⟨z, its, n, r, e⟩ := I.hok p _ h
 exact ⟨its, n, r, e, z⟩
theorem Inv.lstUpd {pins : List (Addr × Obj)} {σ : St} {H : Hp} {s : Shared} {p : Addr} {xs ys : List V} {its its' : List Value} {n n' : Nat} {f : Obj -> Obj} (I : Inv X pins σ H s) (h : H p = some (.lst xs))
  (ho : s.heap.get? p = some { cls := .type "list", data := .seq its.toArray n }) (hf : f { cls := .type "list", data := .seq its.toArray n } = { cls := .type "list", data := .seq its'.toArray n' }) (r : Vals ys its') (hz : ys.length <= sizeLine) (t : Nat) :
  Inv X pins σ (upd H p (.lst ys)) { s with heap := s.heap.update p f, toks := t } := by
 have e : (s.heap.update p f).get? p = some { cls := .type "list", data := .seq its'.toArray n' } := by
  rw [Heap.get?_update_self f ho (by rw [hf] <;> rfl), hf]
 refine I.write (x := p) (e := p) (by rw [h]; trivial) (.inl rfl) (fun b u hb q => (Heap.get?_update_other _ _ (zq11x hb)).trans q) ⟨_, e⟩ ?_
 exact ⟨hz, its', n', r, e⟩
def rSetL : V -> V -> V -> Hp -> (Hp -> Prop) -> Prop := fun o i v H Q => ∃ p xs k j, o = .ref p /\ i = .int k /\ H p = some (.lst xs) /\ ixN xs.length k = some j /\ Q (upd H p (.lst (xs.set j v)))
theorem set_list : PSet X rSetL := by
 intro pins s σ H o i v ov iv u Q I ro ri rv h
 obtain ⟨p, xs, k, j, rfl, rfl, hp, hj, q⟩ := h
 cases ro
 obtain ⟨t, rfl⟩ := ri
 obtain ⟨its, n, r, ho, hz⟩ := I.lst hp
 obtain ⟨h1, h2, h3, h4⟩ := ixN_seq hj
 have hl := r.length
 have hn := line63
 have I' : Inv X pins σ (upd H p (.lst (xs.set j v))) { s with heap := s.heap.update p (Obj.mapSeq (·.setIfInBounds j u)) } :=
  I.lstUpd hp ho (mapSeq_set its n j u) (r.set rv j) (by rw [zq49x]; exact hz) s.toks
 by_cases h0 : 0 <= k
 ·have hk : k.toNat = j := by
   rw [seqIndex_of h0 h4] at h1
   exact zq31x h1
  exact PySem.W.ki_setAt ho h0 (by omega) (by rw [zq21x, <- hl]; exact h4) (by rw [hk]; exact ⟨_, I', q⟩)
 ·have hk : (k + (its.toArray.size : Int)).toNat = j := by
   rw [seqIndex_neg (by omega) h3] at h1
   rw [zq21x, <- hl]
   exact zq31x h1
  exact PySem.W.ki_setBack ho (by omega) (by rw [zq21x, <- hl]; exact h3) (by omega) (by rw [hk]; exact ⟨_, I', q⟩)
theorem slice_bounds (lo hi : Option Int) (n : Nat) : (sliceBounds lo hi none n).1 = ((HT.sIx n 0 lo : Nat) : Int) /\ (sliceBounds lo hi none n).2.1 = ((HT.sIx n n hi : Nat) : Int) /\ (sliceBounds lo hi none n).2.2 = 1 := by
  refine ⟨?_, ?_, rfl⟩
  · cases lo with
    | none => simp [sliceBounds, HT.sIx]
    | some i =>
      simp only [sliceBounds, HT.sIx, Option.getD_none, show (1 : Int) > 0 by decide, if_true]
      by_cases h : i < 0
      · simp only [h, if_true] <;> omega
      · simp only [h, if_false] <;> omega
  · cases hi with
    | none => simp [sliceBounds, HT.sIx]
    | some i =>
      simp only [sliceBounds, HT.sIx, Option.getD_none, show (1 : Int) > 0 by decide, if_true]
      by_cases h : i < 0
      · simp only [h, if_true] <;> omega
      · simp only [h, if_false] <;> omega
theorem slicePick_cut (its : List Value) (lo hi : Option Int) : slicePick its.toArray lo hi none = ((its.drop (HT.sIx its.length 0 lo)).take (HT.sIx its.length its.length hi - HT.sIx its.length 0 lo)).toArray := by
 obtain ⟨h1, h2, h3⟩ := slice_bounds lo hi its.toArray.size
 unfold slicePick
 rw [h1, h2, h3]
 simp only [sliceRange_one, pick_run, zq21x] <;> rfl
def rSlL (K : PySem.W.Frag) : V -> Option Int -> Option Int -> Hp -> VK -> Prop := fun x lo hi H Q => ∃ a xs, x = .ref a /\ SqL K H a xs /\ ∀ p, H p = none -> Q (.ref p) (upd H p (.lst (cutV xs lo hi)))
theorem sl_list : SlR X (rSlL X.K) := by
 intro pins s σ H x v vl vu lo hi sl Q I rx hs pl pu h
 obtain ⟨a, xs, rfl, hx, q⟩ := h
 cases rx
 obtain ⟨its, r, ht, hz⟩ := I.list hx
 have hlen := r.length
 refine ⟨"list", _, slot_list_getitem.lookup, ht.isList.typeIs, ?_⟩
 refine wpAny_getItem_list_slice ht.isList hs pl pu .none (by simp) ?_ (by rw [zq21x] <;> omega)
 rw [slicePick_cut, <- hlen]
 refine ⟨.ref s.heap.objs.size, _, I.laid (t' := s.toks) (o := .lst (cutV xs lo hi)) (fun b ob q => zq26x _ q) (zq3x _) ?_, rfl, q _ (I.hok.fresh (zq3x _))⟩
 exact ⟨zq16x (cutV_length xs lo hi) hz, _, 0, (r.drop (HT.sIx xs.length 0 lo)).take (HT.sIx xs.length xs.length hi - HT.sIx xs.length 0 lo), zq44x _ rfl⟩
def flatV : V -> Bool
 | .non => true
 | .bl _ => true
 | .int _ => true
 | .str _ => true
 | _ => false
def eqV : V -> V -> Bool
 | .non, .non => true
 | .bl a, .bl b => a == b
 | .bl a, .int b => (if a then 1 else 0) == b
 | .int a, .bl b => a == (if b then 1 else 0)
 | .int a, .int b => a == b
 | .str a, .str b => a == b
 | _, _ => false
theorem eqAt_V {A : Around} {s : Shared} {y x : V} {u v : Value} (ry : RelV y u) (rx : RelV x v) (fy : flatV y = true) (fx : flatV x = true) : SeqAt.EqAt A s u v (eqV y x) := by
  cases y with
  | non =>
    cases ry
    cases x with
    | non => cases rx; exact SeqAt.EqAt.same _
    | bl b => cases rx; exact SeqAt.EqAt.none_bool b
    | int b => obtain ⟨t, rfl⟩ := rx; exact SeqAt.EqAt.none_int b t
    | str b => obtain ⟨t, rfl⟩ := rx; exact SeqAt.EqAt.none_str b t
    | _ => exact absurd (show false = true from fx) zq7x
  | bl a =>
    cases ry
    cases x with
    | non => cases rx; exact SeqAt.EqAt.bool_none a
    | bl b => cases rx; exact SeqAt.EqAt.bool_bool a b
    | int b => obtain ⟨t, rfl⟩ := rx; exact SeqAt.EqAt.bool_int a b t
    | str b => obtain ⟨t, rfl⟩ := rx; exact SeqAt.EqAt.bool_str a b t
    | _ => exact absurd (show false = true from fx) zq7x
  | int a =>
    obtain ⟨t', rfl⟩ := ry
    cases x with
    | non => cases rx; exact SeqAt.EqAt.int_none a t'
    | bl b => cases rx; exact SeqAt.EqAt.int_bool a t' b
    | int b => obtain ⟨t, rfl⟩ := rx; exact SeqAt.EqAt.int_int a t' b t
    | str b => obtain ⟨t, rfl⟩ := rx; exact SeqAt.EqAt.int_str a t' b t
    | _ => exact absurd (show false = true from fx) zq7x
  | str a =>
    obtain ⟨t', rfl⟩ := ry
    cases x with
    | non => cases rx; exact SeqAt.EqAt.str_none a t'
    | bl b => cases rx; exact SeqAt.EqAt.str_bool a t' b
    | int b => obtain ⟨t, rfl⟩ := rx; exact SeqAt.EqAt.str_int a t' b t
    | str b => obtain ⟨t, rfl⟩ := rx; exact SeqAt.EqAt.str_str a t' b t
    | _ => exact absurd (show false = true from fx) zq7x
  | _ => exact absurd (show false = true from fy) zq7x
def eqU (x : V) (u : Value) : Bool := match u with
 | .none => eqV .non x
 | .bool b => eqV (.bl b) x
 | .int i _ => eqV (.int i) x
 | .str z _ => eqV (.str z) x
 | _ => false
theorem eqU_of {x y : V} {u : Value} (r : RelV y u) (f : flatV y = true) : eqU x u = eqV y x := by
 cases y with
 | non => cases r; rfl
 | bl b => cases r; rfl
 | int i => obtain ⟨t, rfl⟩ := r; rfl
 | str z => obtain ⟨t, rfl⟩ := r; rfl
 | _ => exact absurd (show false = true from f) zq7x
theorem any_eqU {x : V} : ∀ {xs : List V} {us : List Value}, Vals xs us -> xs.all flatV = true -> us.any (eqU x) = xs.any fun y => eqV y x
  | _, _, .nil, _ => rfl
  | y :: xs, u :: us, .cons r t, f => by
    rw [zq70x, zq19x] at f
    rw [zq59x, zq59x, eqU_of r f.1, any_eqU t f.2]
theorem mem_eqAt {A : Around} {s : Shared} {x : V} {v : Value} (rx : RelV x v) (fx : flatV x = true) : ∀ {xs : List V} {us : List Value}, Vals xs us -> xs.all flatV = true -> ∀ u ∈ us, SeqAt.EqAt A s u v (eqU x u)
  | _, _, .nil, _ => fun u hu => by cases hu
  | y :: xs, u :: us, .cons r t, f => fun u' hu => by
    rw [zq70x, zq19x] at f
    rcases zq43x.mp hu with rfl | hu
    · rw [eqU_of r f.1]; exact eqAt_V r rx f.1 fx
    · exact mem_eqAt rx fx t f.2 u' hu
def inV (x : V) (xs : List V) : Bool := xs.any fun y => eqV y x
def rIn (K : PySem.W.Frag) (neg : Bool) : R2 := fun x y H Q => ∃ p xs, y = .ref p /\ (SqL K H p xs \/ SqT K H p xs) /\ flatV x = true /\ xs.all flatV = true /\ Q (.bl (if neg then !inV x xs else inV x xs)) H
theorem op_in_seq : OpR X (compareOp .In) (rIn X.K false) := by
 intro pins s σ H x y v u Q I rx ry h
 obtain ⟨p, xs, rfl, hq, fx, fs, q⟩ := h
 cases ry
 rcases hq with hq | hq
 ·obtain ⟨its, r, pl, hz⟩ := I.list hq
  refine SeqAt.in_listAt (eqU x) pl.isList (fun w hw => mem_eqAt rx fx r fs w (by simpa using hw)) ⟨.bl _, H, I, rfl, ?_⟩
  rw [show its.toArray.any (eqU x) = its.any (eqU x) by simp, any_eqU r fs]
  exact q
 ·obtain ⟨its, r, pl, hz⟩ := I.tuple hq
  refine SeqAt.in_tupleAt (eqU x) pl (fun w hw => mem_eqAt rx fx r fs w (by simpa using hw)) ⟨.bl _, H, I, rfl, ?_⟩
  rw [show its.toArray.any (eqU x) = its.any (eqU x) by simp, any_eqU r fs]
  exact q
theorem op_notIn_seq : OpR X (compareOp .NotIn) (rIn X.K true) := by
 intro pins s σ H x y v u Q I rx ry h
 obtain ⟨p, xs, rfl, hq, fx, fs, q⟩ := h
 cases ry
 rcases hq with hq | hq
 ·obtain ⟨its, r, pl, hz⟩ := I.list hq
  refine SeqAt.notIn_listAt (eqU x) pl.isList (fun w hw => mem_eqAt rx fx r fs w (by simpa using hw)) ⟨.bl _, H, I, rfl, ?_⟩
  rw [show its.toArray.any (eqU x) = its.any (eqU x) by simp, any_eqU r fs]
  exact q
 ·obtain ⟨its, r, pl, hz⟩ := I.tuple hq
  refine SeqAt.notIn_tupleAt (eqU x) pl (fun w hw => mem_eqAt rx fx r fs w (by simpa using hw)) ⟨.bl _, H, I, rfl, ?_⟩
  rw [show its.toArray.any (eqU x) = its.any (eqU x) by simp, any_eqU r fs]
  exact q
theorem call_len_seq : CallR X (.builtin "len") (fun xs H Q => ∃ p ys, xs = [.ref p] /\ (SqL X.K H p ys \/ SqT X.K H p ys) /\ Q (.int ys.length) H) := by
 intro pins s σ H xs us Q I r h
 obtain ⟨p, ys, rfl, hq, q⟩ := h
 obtain ⟨u, rfl, rx⟩ := vals1 r
 cases rx
 have hn := line63
 rcases hq with hq | hq
 ·obtain ⟨its, r', pl, hz⟩ := I.list hq
  have hlen := r'.length
  exact Calls.call_len_list pl.isList (by simp only [zq21x] <;> omega) ⟨.int ys.length, H, I.tok _, ⟨s.toks + 1, by rw [zq21x, hlen]⟩, q⟩
 ·obtain ⟨its, r', pl, hz⟩ := I.tuple hq
  have hlen := r'.length
  exact len_tuple pl (by simp only [zq21x] <;> omega) ⟨.int ys.length, H, I.tok _, ⟨s.toks + 1, by rw [zq21x, hlen]⟩, q⟩
theorem call_list_of : CallR X (.type "list") (fun xs H Q => ∃ p ys, xs = [.ref p] /\ (SqL X.K H p ys \/ SqT X.K H p ys) /\ ∀ l, H l = none -> Q (.ref l) (upd H l (.lst ys))) := by
 intro pins s σ H xs us Q I r h
 obtain ⟨p, ys, rfl, hq, q⟩ := h
 obtain ⟨u, rfl, rx⟩ := vals1 r
 cases rx
 have fin : ∀ (its : List Value), Vals ys its -> ys.length <= sizeLine -> ∀ (h' : Heap) (c' : Nat), (∀ b o', s.heap.get? b = some o' -> h'.get? b = some o') ->
   h'.get? s.heap.objs.size = some { cls := .type "list", dict := none, data := .seq its.toArray c', slots := #[] } -> EP X pins σ Q (.ref s.heap.objs.size) { s with heap := h' } := fun its r' hz h' c' kp e =>
  ⟨.ref s.heap.objs.size, _, I.laid (t' := s.toks) kp (zq3x _) (show ObjOk X.prog X.w _ h' _ (.lst ys) from ⟨hz, its, c', r', e⟩), rfl, q _ (I.hok.fresh (zq3x _))⟩
 rcases hq with hq | hq
 ·obtain ⟨its, r', pl, hz⟩ := I.list hq
  have hlen := r'.length
  obtain ⟨o, ho, hc, n, hd⟩ := pl.isList
  exact call_list_seq p (.inl rfl) ho hc hd (fun h' c' kp e => fin its r' hz h' c' kp e) (by simp only [zq21x] <;> omega)
 ·obtain ⟨its, r', pl, hz⟩ := I.tuple hq
  have hlen := r'.length
  obtain ⟨o, ho, hc, n, hd⟩ := pl
  exact call_list_seq p (.inr rfl) ho hc hd (fun h' c' kp e => fin its r' hz h' c' kp e) (by simp only [zq21x] <;> omega)
def tyV (K : PySem.W.Frag) (T : String) (x : V) (H : Hp) : Prop := match x with
 | .str _ => T = "str"
 | .int _ => T = "int"
 | .ref p => (T = "list" /\ ∃ xs, SqL K H p xs) \/ (T = "tuple" /\ ∃ o, K.lookup p = some o /\ o.cls = .type "tuple" /\ o.dict = none) \/
   (T = "dict" /\ ((∃ kvs, H p = some (.dK kvs)) \/ (∃ kvs, H p = some (.dT kvs)) \/ ∃ o kvs, H p = some (.frz o (.dK kvs)))) \/ (T = "set" /\ ∃ S n, H p = some (.set S n))
 | _ => False
theorem tyV_is {pins : List (Addr × Obj)} {σ : St} {H : Hp} {s : Shared} {T : String} {x : V} {v : Value} (I : Inv X pins σ H s) (r : RelV x v) (ty : tyV X.K T x H) :
    s.TypeIs v T /\ ∀ a, v = .ref a -> ∃ ob, s.heap.get? a = some ob /\ ob.dict = none := by
  cases x with
  | str z =>
    obtain ⟨t, rfl⟩ := r
    cases (show T = "str" from ty)
    exact ⟨typeIs_str s z t, fun _ e => nomatch e⟩
  | int i =>
    obtain ⟨t, rfl⟩ := r
    cases (show T = "int" from ty)
    exact ⟨typeIs_int s i t, fun _ e => nomatch e⟩
  | ref p =>
    cases r
    rcases ty with ⟨rfl, xs, hq⟩ | ⟨rfl, o, hk, hc, hd⟩ | ⟨rfl, hk⟩ | ⟨rfl, S, n, hk⟩
    · obtain ⟨its, _, pl, _⟩ := I.list hq
      refine ⟨pl.isList.typeIs, fun a e => ?_⟩
      cases e
      obtain ⟨o, n, e, c, hd, _⟩ := pl
      exact ⟨o, e, hd⟩
    · refine ⟨⟨o, I.kIn p o hk, hc⟩, fun a e => ?_⟩
      cases e
      exact ⟨o, I.kIn _ o hk, hd⟩
    · have z : ∃ o, s.heap.get? p = some o /\ o.ExactDict := by
        rcases hk with ⟨kvs, hk⟩ | ⟨kvs, hk⟩ | ⟨ob, kvs, hk⟩
        · obtain ⟨_, _, _, _, o, _, _, e, ex, _⟩ := I.hok p _ hk
          exact ⟨o, e, ex⟩
        · obtain ⟨_, _, _, _, o, _, _, e, ex, _⟩ := I.hok p _ hk
          exact ⟨o, e, ex⟩
        · obtain ⟨_, _, _, _, _, o, _, _, e, ex, _⟩ := I.hok p _ hk
          exact ⟨o, e, ex⟩
      obtain ⟨o, e, ex⟩ := z
      refine ⟨⟨o, e, ex.1⟩, fun a e2 => ?_⟩
      cases e2
      exact ⟨o, e, ex.2.1⟩
    · obtain ⟨o, _, _, _, e, ex, _⟩ := I.hok p _ hk
      refine ⟨⟨o, e, ex.1⟩, fun a e2 => ?_⟩
      cases e2
      exact ⟨o, e, ex.2.1⟩
  | _ => exact False.elim ty
def tBM0 (K : PySem.W.Frag) (T : String) (r : V -> List V -> Hp -> VK -> Prop) (to : TE) : TE := fun σ H Q => to σ H fun x H1 => tyV K T x H1 /\ r x [] H1 Q
def tBM (K : PySem.W.Frag) (T : String) (r : V -> List V -> Hp -> VK -> Prop) (to : TE) (t : TA) : TE := fun σ H Q => to σ H fun x H1 => tyV K T x H1 /\ t σ H1 fun xs H2 => r x xs H2 Q
variable {o e : Expr} {es : List Expr} {to : TE} {t : TA} {name : Str} {apos cpos : Pos} {T id : String} {r : V -> List V -> Hp -> VK -> Prop}
theorem pe_bm0 (pa : PlainAttrs T) (slot : Slot T name id) (hty : typeOf (.builtin id) = pure (.type "method_descriptor")) (hm : MtR X id r) (ho : PE X o to)
  (hbase : attributeBase o name X.env (eval o X.env) = eval o X.env := by rfl) (hline : (apos.endLine == cpos.line) = true := by rfl) : PE X (.Call (.Attribute o name apos) [] [] cpos) (tBM0 X.K T r to) := by
 intro pins s σ H Q I h
 refine wpAny_Call_method0_late hbase hline (thn (ho pins s σ H _ I h) fun v s1 ⟨x, H1, I1, r1, ty, q1⟩ => ?_)
 obtain ⟨h1, h2⟩ := tyV_is I1 r1 ty
 exact ⟨T, id, pa, slot, hty, h1, h2, Calls.callWith_builtin rfl (PySem.evalArgs_none (hm pins s1 σ H1 x [] v [] Q I1 r1 .nil q1))⟩
theorem pe_bm (pa : PlainAttrs T) (slot : Slot T name id) (hty : typeOf (.builtin id) = pure (.type "method_descriptor")) (hm : MtR X id r) (ho : PE X o to) (ha : PA X (e :: es) t)
  (hbase : attributeBase o name X.env (eval o X.env) = eval o X.env := by rfl)
  (hfew : ((backTo cpos (starEach (e :: es) X.env)).all (fun x => !x.1) && (backToKw cpos (keywordEach [] X.env)).all (fun x => x.1.isSome)
   && decide ((e :: es).length + ([] : List Keyword).length + (if ([] : List Keyword).isEmpty then 0 else 1) < 30)) = true := by rfl)
  (hline : (apos.endLine == cpos.line) = true := by rfl) (hs : starEach (e :: es) X.env = (false, eval e X.env) :: starEach es X.env := by rfl) (hplain : (backTo cpos (starEach es X.env)).any (·.1) = false := by rfl) :
  PE X (.Call (.Attribute o name apos) (e :: es) [] cpos) (tBM X.K T r to t) := by
 intro pins s σ H Q I h
 refine wpAny_Call_method_late hbase hfew hline rfl (thn (ho pins s σ H _ I h) fun v s1 ⟨x, H1, I1, r1, ty, q1⟩ => ?_)
 obtain ⟨h1, h2⟩ := tyV_is I1 r1 ty
 refine ⟨T, id, pa, slot, hty, h1, h2, ?_⟩
 have hA := ha cpos pins s1 σ H1 _ I1 q1
 rw [hs] at hA ⊢
 refine Calls.callWith_builtin (by show (false || (backTo cpos (starEach es X.env)).any (·.1)) = false; rw [hplain] <;> rfl) (Calls.evalArgs_plain ?_)
 exact thn hA fun us s2 ⟨vs, H2, I2, r2, q2⟩ => hm pins s2 σ H2 x vs v us Q I2 r1 r2 q2
/- xs.append(e), list.index on a module's tuple .. are MtR facts of 06m -/
end
def MtM (X : Cx) (id : String) (r : V -> List V -> Hp -> VK -> Prop) : Prop :=
 ∀ (pins : List (Addr × Obj)) (s : Shared) (σ : St) (H : Hp) (x : V) (xs : List V) (v : Value) (us : List Value) (Q : VK), Inv X pins σ H s -> RelV x v -> Vals xs us -> r x xs H Q ->
  wpAny (model X.prog X.w) X.A (call (.builtin id) (v :: us)) (EP X pins σ Q) X.xe s
theorem Vals.one {x : V} {us : List Value} (h : Vals [x] us) : ∃ u, us = [u] /\ RelV x u := by
 cases h with
 | cons r t => cases t; exact ⟨_, rfl, r⟩
theorem Vals.two {x y : V} {us : List Value} (h : Vals [x, y] us) : ∃ u v, us = [u, v] /\ RelV x u /\ RelV y v := by
  cases h with
  | cons r t =>
    obtain ⟨v, e, q⟩ := Vals.one t
    exact ⟨_, v, by rw [e], r, q⟩
theorem Vals.zero : ∀ {us : List Value}, Vals [] us -> us = []
 | _, .nil => rfl
theorem Vals.dropLast {xs : List V} {us : List Value} (h : Vals xs us) : Vals xs.dropLast us.dropLast := by
  induction h with
  | nil => exact .nil
  | cons r t ih =>
    cases t with
    | nil => exact .nil
    | cons q t' => exact .cons r ih
theorem Vals.eraseIdx : ∀ {xs : List V} {us : List Value} (i : Nat), Vals xs us -> Vals (xs.eraseIdx i) (us.eraseIdx i)
 | _, _, _, .nil => .nil
 | _, _, 0, .cons _ t => t
 | _, _, i + 1, .cons r t => .cons r (Vals.eraseIdx i t)
theorem erase_last {α : Type} (l : List α) : l.eraseIdx (l.length - 1) = l.dropLast := by
  induction l with
  | nil => rfl
  | cons a r ih =>
    cases r with
    | nil => rfl
    | cons b r =>
      have e : (a :: b :: r).length - 1 = ((b :: r).length - 1) + 1 := by
        have h1 : (a :: b :: r).length = r.length + 2 := rfl
        have h2 : (b :: r).length = r.length + 1 := rfl
        omega
      rw [e, List.eraseIdx_cons_succ, ih]
      all_goals rfl
theorem len_erase {α : Type} : ∀ (l : List α) (i : Nat), (l.eraseIdx i).length <= l.length
 | [], _ => zq3x _
 | _ :: _, 0 => zq65x _
 | _ :: r, i + 1 => Nat.succ_le_succ (len_erase r i)
section
variable {X : Cx} {pins : List (Addr × Obj)} {σ : St} {H : Hp} {s : Shared} {l b : Addr} {xs ys zs : List V}
theorem Inv.lset {its its' : List Value} {n : Nat} {f : Array Value -> Array Value} {t' : Nat} (I : Inv X pins σ H s) (hH : H l = some (.lst xs))
  (e : s.heap.get? l = some { cls := .type "list", data := .seq its.toArray n }) (hf : f its.toArray = its'.toArray) (hv : Vals ys its') (hz : ys.length <= sizeLine) :
  Inv X pins σ (upd H l (.lst ys)) { s with heap := s.heap.update l (Obj.mapSeq f), toks := t' } := by
 have q := PySem.IsL.update e f
 rw [hf] at q
 refine I.write (x := l) (e := l) (by rw [hH]; exact trivial) (.inl rfl) (fun b' u hb hu => (Heap.get?_update_other s.heap (Obj.mapSeq f) (zq11x hb)).trans hu) ⟨_, q⟩ ?_
 exact ⟨hz, its', _, hv, q⟩
theorem Inv.lnew {its : List Value} {t' : Nat} (I : Inv X pins σ H s) (hv : Vals ys its) (hz : ys.length <= sizeLine) :
  Inv X pins σ (upd H s.heap.objs.size (.lst ys)) { s with heap := s.heap.push { cls := .type "list", data := .seq its.toArray }, toks := t' } :=
 I.laid (fun _ _ q => zq26x _ q) (zq3x _) ⟨hz, its, 0, hv, zq44x _ rfl⟩
theorem Inv.fresh (I : Inv X pins σ H s) : H s.heap.objs.size = none := I.hok.fresh (zq3x _)
theorem Inv.lstM (I : Inv X pins σ H s) (hH : H l = some (.lst xs)) : xs.length <= sizeLine /\ ∃ (its : List Value) (n : Nat), Vals xs its /\ xs.length = its.length /\ s.heap.get? l = some { cls := .type "list", data := .seq its.toArray n } := by
 obtain ⟨z, its, n, r, e⟩ := I.hok l _ hH
 exact ⟨z, its, n, r, r.length, e⟩
theorem notLongL {n : Nat} (h : n <= sizeLine) : Builtin.List.listTooLong n = false := by
 unfold Builtin.List.listTooLong
 exact decide_eq_false (by omega)
end
section
variable {X : Cx}
def rAppend : V -> List V -> Hp -> VK -> Prop := fun x vs H Q => ∃ l xs y, x = .ref l /\ vs = [y] /\ H l = some (.lst xs) /\ xs.length < sizeLine /\ Q .non (upd H l (.lst (xs ++ [y])))
theorem mt_append : MtM X "list.append" rAppend := by
 intro pins s σ H x vs v us Q I rx rv h
 obtain ⟨l, xs, y, rfl, rfl, hH, hz, q⟩ := h
 cases rx
 obtain ⟨u, rfl, ru⟩ := rv.one
 obtain ⟨z, its, n, r, hl, e⟩ := I.lstM hH
 refine call_meets F.slot_list_append ⟨_, e, rfl⟩ F.entry_list_append (F.args_list_append_2 _ _) (PySem.list_append l its.toArray n u (by rw [zq21x]; omega)) ⟨e, ?_⟩
 refine ⟨.non, _, I.lset (its' := its ++ [u]) hH e (by simp) (r.append (.cons ru .nil)) ?_, rfl, q⟩
 rw [zq22x, zq60x]
 omega
def rExtend : V -> List V -> Hp -> VK -> Prop := fun x vs H Q => ∃ l b xs zs, x = .ref l /\ vs = [.ref b] /\ H l = some (.lst xs) /\ H b = some (.lst zs) /\ xs.length + zs.length <= sizeLine /\ Q .non (upd H l (.lst (xs ++ zs)))
theorem mt_extend : MtM X "list.extend" rExtend := by
 intro pins s σ H x vs v us Q I rx rv h
 obtain ⟨l, b, xs, zs, rfl, rfl, hH, hB, hz, q⟩ := h
 cases rx
 obtain ⟨u, rfl, ru⟩ := rv.one
 cases ru
 obtain ⟨z, its, n, r, hl, e⟩ := I.lstM hH
 obtain ⟨z2, its2, n2, r2, hl2, e2⟩ := I.lstM hB
 have hsz : its.toArray.size + its2.toArray.size <= sizeLine := by rw [zq21x, zq21x]; omega
 have hlong : ¬ (!its.toArray.isEmpty && Builtin.List.listTooLong (its.toArray.size + its2.toArray.size)) = true := by
  rw [notLongL hsz, Bool.and_false]
  exact zq7x
 refine call_meets F.slot_list_extend ⟨_, e, rfl⟩ F.entry_list_extend (F.args_list_extend_2 _ _)
  (AutoSeq1.list_extend_list_list_0 l its.toArray n b its2.toArray n2 hlong (by rw [zq21x]; omega) (by omega)) ⟨e, e2, ?_⟩
 refine ⟨.non, _, I.lset (its' := its ++ its2) hH e (by simp) (r.append r2) ?_, rfl, q⟩
 rw [zq22x]
 omega
def rPop : V -> List V -> Hp -> VK -> Prop := fun x vs H Q => ∃ l xs y, x = .ref l /\ vs = [] /\ H l = some (.lst xs) /\ xs[xs.length - 1]? = some y /\ Q y (upd H l (.lst xs.dropLast))
theorem mt_pop : MtM X "list.pop" rPop := by
 intro pins s σ H x vs v us Q I rx rv h
 obtain ⟨l, xs, y, rfl, rfl, hH, hy, q⟩ := h
 cases rx
 have hus := rv.zero
 subst hus
 obtain ⟨z, its, n, r, hl, e⟩ := I.lstM hH
 obtain ⟨u, hu, ru⟩ := r.get hy
 have hy' : its.toArray[its.toArray.size - 1]? = some u := by
  show its.toArray[its.length - 1]? = some u
  rw [<- zq96x, <- hl]
  exact hu
 refine call_meets F.slot_list_pop ⟨_, e, rfl⟩ F.entry_list_pop (F.args_list_pop_1 _) (MeetsSeq.list_pop_last l its.toArray n u hy' (by rw [zq21x]; omega)) ⟨e, ?_⟩
 refine ⟨y, _, I.lset (its' := its.dropLast) hH e ?_ r.dropLast ?_, ru, q⟩
 ·show its.toArray.eraseIdxIfInBounds (its.toArray.size - 1) = its.dropLast.toArray
  rw [zq21x, zq178x, erase_last]
 ·rw [List.length_dropLast]
  omega
def rPopAt : V -> List V -> Hp -> VK -> Prop := fun x vs H Q => ∃ l xs i k y, x = .ref l /\ vs = [.int i] /\ H l = some (.lst xs) /\ -(2 ^ 63) <= i /\ i < 2 ^ 63 /\ seqIndex? i xs.length = some k /\ xs[k]? = some y /\ Q y (upd H l (.lst (xs.eraseIdx k)))
theorem mt_popAt : MtM X "list.pop" rPopAt := by
 intro pins s σ H x vs v us Q I rx rv h
 obtain ⟨l, xs, i, k, y, rfl, rfl, hH, h1, h2, hk, hy, q⟩ := h
 cases rx
 obtain ⟨u, rfl, ru⟩ := rv.one
 obtain ⟨t, rfl⟩ := ru
 obtain ⟨z, its, n, r, hl, e⟩ := I.lstM hH
 obtain ⟨w, hw, rw'⟩ := r.get hy
 refine call_meets F.slot_list_pop ⟨_, e, rfl⟩ F.entry_list_pop (F.args_list_pop_2 _ _)
  (MeetsSeq.list_pop_at l its.toArray n i t k w (fitsIndex_both h1 h2) (by rw [zq21x, <- hl]; exact hk) (by rw [<- zq96x]; exact hw) (by rw [zq21x]; omega)) ⟨e, ?_⟩
 refine ⟨y, _, I.lset (its' := its.eraseIdx k) hH e ?_ (r.eraseIdx k) ?_, rw', q⟩
 ·show its.toArray.eraseIdxIfInBounds k = (its.eraseIdx k).toArray
  rw [zq178x]
 ·have := len_erase xs k
  omega
def rCat : R2 := fun x y H Q => ∃ l b xs zs, x = .ref l /\ y = .ref b /\ H l = some (.lst xs) /\ H b = some (.lst zs) /\ xs.length + zs.length <= sizeLine /\ ∀ p, H p = none -> Q (.ref p) (upd H p (.lst (xs ++ zs)))
theorem op_cat : OpR X (binaryOp .Add) rCat := by
 intro pins s σ H x y v u Q I rx ry h
 obtain ⟨l, b, xs, zs, rfl, rfl, hH, hB, hz, q⟩ := h
 cases rx
 cases ry
 obtain ⟨z, its, n, r, hl, e⟩ := I.lstM hH
 obtain ⟨z2, its2, n2, r2, hl2, e2⟩ := I.lstM hB
 refine PySem.P.add_list e e2 ?_ (by rw [zq21x, zq21x]; omega)
 have ea : its.toArray ++ its2.toArray = (its ++ its2).toArray := by simp
 rw [ea]
 exact ⟨.ref _, _, I.lnew (t' := s.toks) (r.append r2) (by rw [zq22x]; omega), rfl, q _ I.fresh⟩
end
end L2
namespace Att
open PySem PySem.W PySem.Calls PyProof.Rows
theorem ints_of_wellAll {P : Params} {h : Heap} : ∀ (ns : List Int) (vs : List Value), WellAll P h vs (ns.map WData.int) -> IntsAre vs ns := by
  intro ns
  induction ns with
  | nil =>
    intro vs w
    rw [zq77x] at w
    cases w
    exact .nil
  | cons n ns ih =>
    intro vs w
    rw [zq4x] at w
    cases w with
    | cons a b =>
      cases a
      exact .cons _ _ (ih _ b)
theorem script_of {l : OpenLaw} {n : Nat} (hn : l.most = some n) {P : Params} {h : Heap} {args : List WData} {vals : List Value}
    (hpre : l.row.toRowW.claim.pre args = true) (hwl : WellAll P h vals args) :
    ∃ a vs ns, vals = [Value.ref a] /\ args = [WData.list (ns.map WData.int)] /\ h.get? a = some { cls := .type "list", data := .seq vs.toArray } /\ IntsAre vs ns /\ ns.length <= n := by
  have hsh : WShape.hasAll [] args [.list .int] = true := (pre_splitW hpre).1
  have hc : l.pre.holds [] { args := args } = true := (pre_splitW hpre).2
  obtain ⟨d, r, rfl, h1, h2⟩ := hasAllW_cons hsh
  obtain rfl := hasAllW_nil h2
  obtain ⟨xs, rfl, h3⟩ := hasW_list h1
  obtain ⟨ns, rfl⟩ := items_int h3
  have hlen : ns.length <= n := by
    unfold OpenLaw.pre at hc
    have h4 : (WTm.not (.lt (.lit (.int (n : Int))) (.len (.arg 0)))).holds [] { args := [.list (ns.map .int)] } = true := by
      have h4 := (holds_andW hc).1
      rw [hn] at h4
      exact h4
    have h5 := condW_of h4 (w_not (w_lt w_lit (w_len_list (w_arg rfl))))
    rw [zq0x] at h5
    refine Nat.le_of_not_lt fun q => ?_
    have q' : (n : Int) < ((ns.length : Nat) : Int) := by omega
    first
      | (rw [decide_eq_true q'] at h5; exact absurd h5 (by decide))
      | (simp at h5; omega)
  cases hwl with
  | cons w1 w2 =>
    cases w2
    cases w1 with
    | list ho hall => exact ⟨_, _, ns, rfl, rfl, ho, ints_of_wellAll ns _ hall, hlen⟩
theorem post_true (l : OpenLaw) (args : List WData) : l.row.toRowW.claim.post args (.bool true) args = true :=
 postW_of (r := l.row.toRowW) (X := (true == true))
  (show WShape.has [] (.bool true) .bool = true by first | rfl | decide | simp [WShape.has, WShape.arms, WShape.armsAll])
  (show (WTm.eq .res (.lit (.bool true))).value [] { args := args, res := some (.bool true), after := args } = some (.bool (true == true)) from w_eq_bool (w_res rfl) w_lit) rfl
theorem attach_call {l : OpenLaw} {n : Nat} {q : Program} {loose : List Str} {XP : (Str -> Option Value) -> Heap -> Prop} {YP : World -> Heap -> Prop} {d : DefRec}
  (hn : l.most = some n) (hdf : d.params.defaults = [])
  (call : ∀ (w : World) (s₀ s₁ : Shared) (mg mb : Str -> Option Value) (fa : Addr) (o : Obj) (pm cd doc : Value) (a : Addr) (vs : List Value) (ns : List Int),
   Ground q loose [] XP w s₀ mg mb s₁.heap -> YP w s₁.heap ->
   s₁.heap.get? fa = some o -> o.data = .func (docDef d.name d.params d.body d.scope pm cd doc) -> s₁.heap.CodeRec cd d.name -> mg d.name = some (.ref fa) ->
   s₁.heap.get? a = some { cls := .type "list", data := .seq vs.toArray } -> IntsAre vs ns -> ns.length <= n -> s₁.gens = #[] ->
   codeAny (model l.prog w) callerA (.call (.ref fa) ⟨[.ref a], []⟩) (fun r s' => r = .ok (.ret (.bool true)) /\ OldK s₁.heap s'.heap /\ s'.os = s₁.os /\ AllBare s'.gens) s₁) :
  WalkO q loose XP YP l.row.toRowW d [] (fun f vs => PySem.call f vs) := by
 intro w s₀ s₁ mg mb G Y fa o pm cd doc dV kV ho hd hcd hD hmg hg args vals as hpre hlay hrd hwl hlo
 obtain rfl : dV = .none := Dflts.none hD hdf
 obtain rfl : kV = .none := Dflts.noKw hD
 obtain ⟨a, vs, ns, rfl, rfl, hobj, hints, hlen⟩ := script_of hn hpre hwl
 refine enter_call (codeAny_mono (call w s₀ s₁ mg mb fa o pm cd doc a vs ns G Y ho (fd_plain hd) hcd hmg hobj hints hlen hg) fun r s' hq => ?_)
 obtain ⟨rfl, h2, h3, h4⟩ := hq
 exact ⟨.inl ⟨.bool true, .bool true, [], rfl, fun _ => rfl, .bool true, post_true l _, fun _ => ⟨List.Pairwise.nil, fun _ hm => (nomatch hm)⟩⟩, h2, h3, h4⟩
section
variable {prog : Program} {w : World} {A : Around} {E : Value -> Shared -> Prop} {s : Shared} {K : Frag}
def ledger (h : Heap) (L d : Addr) : List (Addr × Obj) := (List.range h.objs.size).filterMap fun a => if a = L \/ a = d then none else (h.get? a).map fun o => (a, o)
end
end Att
namespace L2
open PySem PySem.Spec PyProof.Rows
theorem vals_ints : ∀ {vs : List Value} {ns : List Int}, IntsAre vs ns -> Vals (ns.map V.int) vs
 | _, _, .nil => .nil
 | _, _, .cons n t h => .cons ⟨t, rfl⟩ (vals_ints h)
def Only (H : Hp) : Prop := ∀ b, H b = none \/ ∃ o xs, H b = some (.frz o (.lst xs))
theorem law_call {P : Program} {w : World} {K : PySem.W.Frag} {mg mb : Str -> Option Value} {CX : CXT} {k : Nat} {fa a : Addr} {fd : FuncData} {x : Str} {sp : Sp} {s₁ : Shared} {vs : List Value} {ns : List Int}
    (KX : K.In s₁.heap) (hns : s₁.heap.Ns mainGlobals mg) (hb : s₁.heap.Ns builtinsNs mb) (hbb : ∀ x : Str, x ≠ "__name__" -> mb x = bootBuiltins x) (hlim : s₁.heap.NoLimit) (hg : s₁.gens = #[])
    (ha : s₁.heap.get? a = some { cls := .type "list", data := .seq vs.toArray }) (hi : IntsAre vs ns) (hl : ns.length <= sizeLine) (hr : Room k callerA)
    (F : ∀ base : Heap, K.In base -> base.Ns mainGlobals mg -> FnOk P w K mg base CX k fa fd [x] sp) (hbind : ∀ (s : Shared) (u : Value), BindsTo s fd ⟨[u], []⟩ [(x, u)])
    (hsp : ∀ H : Hp, Only H -> SqL K H a (ns.map V.int) -> sp [.ref a] H (fun v _ => v = .bl true) fun _ _ _ => False)
    (hCX : ∀ H e s', CX [] H s₁ (fun _ _ _ => False) e s' -> False) :
    codeAny (model P w) callerA (.call (.ref fa) ⟨[.ref a], []⟩) (fun r s' => r = .ok (.ret (.bool true)) /\ OldK s₁.heap s'.heap /\ s'.os = s₁.os /\ AllBare s'.gens) s₁ := by
  have rv := vals_ints hi
  have lenV := hi.length
  have core : ∀ H : Hp, Only H -> SqL K H a (ns.map V.int) -> HOk P w H s₁.heap -> (∀ b, H b ≠ none -> b = a) -> (H a ≠ none -> K.lookup a = none) ->
      codeAny (model P w) callerA (.call (.ref fa) ⟨[.ref a], []⟩) (fun r s' => r = .ok (.ret (.bool true)) /\ OldK s₁.heap s'.heap /\ s'.os = s₁.os /\ AllBare s'.gens) s₁ := by
    intro H hO hS hok hA hK
    have base_of : ∀ {b : Addr} {o : Obj}, s₁.heap.get? b = some o -> H b = none -> (hidT s₁.heap H).get? b = some o := fun e n => hidT_get e n
    have noA : ∀ {b : Addr} {o : Obj} {es : Array DictEntry} {ep : Nat}, s₁.heap.get? b = some o -> o.data = .dict es ep -> H b = none := fun {b o es ep} e d => by
      cases q : H b with
      | none => rfl
      | some u =>
        have e' : b = a := hA b (by rw [q]; simp)
        subst e'
        rw [ha] at e; cases e
        have d' : Data.seq vs.toArray _ = Data.dict es ep := d
        cases d'
    have nsK : ∀ {b : Addr} {m : Str -> Option Value}, s₁.heap.Ns b m -> (hidT s₁.heap H).Ns b m := fun {b m} ⟨o, es, ep, e, d, r⟩ => ⟨o, es, ep, base_of e (noA e d), d, r⟩
    have hKb : K.In (hidT s₁.heap H) := fun b o e => base_of (KX b o e) (by
      cases q : H b with
      | none => rfl
      | some u =>
        have e' : b = a := hA b (by rw [q]; simp)
        subst e'
        rw [hK (by rw [q]; simp)] at e; cases e)
    have hM : Mod K mg (hidT s₁.heap H) := ⟨hKb, nsK hns, ⟨mb, nsK hb, hbb⟩, let ⟨mc, h1, h2⟩ := hlim; ⟨mc, nsK h1, h2⟩⟩
    have e0 : Env0 P w K mg (hidT s₁.heap H) callerA [] s₁ H := ⟨rfl, hM, fun b o e => of_hidT e, Nat.le_of_eq (hidT_size _ _), trivial, fun b hb => absurd (show b ∈ ([] : List Addr) from hb) (by simp), hok, .of_eq hg⟩
    refine codeAny_mono ((F _ hKb (nsK hns)).run callerA [] s₁ H ⟨[.ref a], []⟩ [.ref a] [.ref a] _ _ hr e0 (hbind s₁ (.ref a)) (.cons rfl .nil) (hsp H hO hS)) fun r s' h => ?_
    cases r with
    | error e => exact (hCX H e s' h).elim
    | ok fl =>
      cases fl with
      | next => exact False.elim h
      | brk => exact False.elim h
      | cont => exact False.elim h
      | ret u =>
        obtain ⟨v, H', os, bare, un, hok', r', q⟩ := h
        have q' : v = .bl true := q
        subst q'
        obtain rfl : u = Value.bool true := r'
        refine ⟨rfl, OldK.of_keep fun b o e => ?_, os, bare⟩
        cases q : H b with
        | none => exact un.keep b o e q (by intro z; exact absurd (show b ∈ ([] : List Addr) from z) (by simp)) (by simp)
        | some u =>
          rcases hO b with z | ⟨ob, xs, z⟩
          · rw [q] at z; cases z
          · have z2 := un.frzs b ob _ z
            obtain ⟨e1, _⟩ := hok b _ z
            obtain ⟨e2, _⟩ := hok' b _ z2
            rw [e] at e1; cases e1
            exact e2
  cases hk : K.lookup a with
  | some o =>
    have e := KX a o hk
    rw [ha] at e
    cases e
    refine core (fun _ => none) (fun _ => .inl rfl) (.inr ⟨_, vs.toArray, _, hk, rfl, rfl, rfl, by rw [zq21x, lenV]; exact hl, by simpa using rv⟩) (fun b u z => by have z' : (none : Option HO) = some u := z; cases z') (fun b z => absurd rfl z) fun z => absurd rfl z
  | none =>
    refine core (fun b => if b = a then some (.frz { cls := .type "list", data := .seq vs.toArray } (.lst (ns.map V.int))) else none) (fun b => ?_) (.inl (.inr ⟨{ cls := .type "list", data := .seq vs.toArray }, if_pos rfl⟩)) (fun b u z => ?_) (fun b z => ?_) fun _ => hk
    · by_cases hb : b = a
      · exact .inr ⟨_, _, if_pos hb⟩
      · exact .inl (if_neg hb)
    · by_cases hb : b = a
      · have z' := (if_pos hb).symm.trans z
        cases z'
        subst hb
        exact ⟨ha, by rw [zq0x]; exact hl, vs, _, rv, ha⟩
      · have z' := (if_neg hb).symm.trans z
        cases z'
    · by_cases hb : b = a
      · exact hb
      · exact absurd (if_neg hb) z
theorem walk_of {l : PySem.W.OpenLaw} {n k : Nat} {q : Program} {loose : List Str} {XP : (Str -> Option Value) -> Heap -> Prop} {YP : World -> Heap -> Prop} {d : DefRec} {K : Params -> PySem.W.Frag} {CX : World -> CXT} {sp : World -> Sp} {x : Str}
  (hn : l.most = some n) (hn2 : n <= sizeLine) (hdf : d.params.defaults = []) (hr : Room k callerA)
  (hY : ∀ (w : World) (h : Heap), YP w h -> (K w.params).In h)
  (F : ∀ (w : World) (mg : Str -> Option Value) (fa : Addr) (h : Heap), (K w.params).In h -> h.Ns mainGlobals mg -> mg d.name = some (.ref fa) ->
   ∃ fd : FuncData, (∀ (s : Shared) (u : Value), BindsTo s fd ⟨[u], []⟩ [(x, u)]) /\
    ∀ base : Heap, (K w.params).In base -> base.Ns mainGlobals mg -> FnOk l.prog w (K w.params) mg base (CX w) k fa fd [x] (sp w))
  (hsp : ∀ (w : World) (H : Hp) (a : Addr) (ns : List Int), ns.length <= n -> Only H -> SqL (K w.params) H a (ns.map V.int) -> sp w [.ref a] H (fun v _ => v = .bl true) fun _ _ _ => False)
  (hCX : ∀ (w : World) (H : Hp) (s : Shared) (e : Value) (s' : Shared), CX w [] H s (fun _ _ _ => False) e s' -> False) :
  PySem.W.WalkO q loose XP YP l.row.toRowW d [] (fun f vs => PySem.call f vs) := by
 refine Att.attach_call hn hdf fun w s₀ s₁ mg mb fa o pm cd doc a vs ns G Y ho hd hcd hmg hobj hints hlen hg => ?_
 have KX := hY w _ Y
 obtain ⟨fd, hb, hF⟩ := F w mg fa _ KX G.T.g hmg
 exact law_call KX G.T.g G.T.b G.T.builtins G.T.nolimit hg hobj hints (zq16x hlen hn2) hr hF hb (fun H hO hS => hsp w H a ns hlen hO hS) fun H e s' => hCX w H s₁ e s'
end L2
/- THE LAST THEOREM (shape; LID, My.* are yours):
   My.Adr: a structure of the addresses that your layer names (classes, functions); My.Txt K t: a structure (Prop) of the equations over K;
   My.txt_mk : {K} {implicit addresses ..} (e1 : nsIn K mainGlobals "law" = some (some (.ref f))) (e2 : K.lookup f = some ⟨oc, od, .func (fnOf "law" "law" params body scope dV kV doc pm an cdv ct), sl⟩) (e3 : codeIn K cdv "law" = true) .. : ∃ t, My.Txt K t
set_option maxRecDepth 100000 in
set_option maxHeartbeats 0 in
(the tactic k_is has no namespace: write k_is) -/
namespace L2
open PySem PySem.Spec PyProof.Rows
def defArgs (s : Stmt) : Arguments := match s with
 | .FunctionDef _ a _ _ _ _ _ _ _ _ => a
 | _ => { posonlyargs := [], args := [], vararg := none, kwonlyargs := [], kw_defaults := [], kwarg := none, defaults := [] }
def defBody (s : Stmt) : List Stmt := match s with
 | .FunctionDef _ _ b _ _ _ _ _ _ _ => b
 | _ => []
def defScope (s : Stmt) : Scope := match s with
 | .FunctionDef _ _ _ _ _ _ sc _ _ _ => sc
 | _ => { kind := .function, names := [], isGenerator := false, isCoroutine := false }
abbrev CX0 : CXT := fun _ _ _ _ _ _ => False
abbrev E0 : XK := fun _ _ _ => False
theorem pass0 {X : Cx} : Passes CX0 X E0 := fun _ _ _ _ _ _ _ h => h.elim
structure Fun (K : PySem.W.Frag) (x qual : Str) (st : Stmt) (f : Addr) (fd : FuncData) : Prop where
 ex : ∃ (oc : Value) (od : Option Addr) (kV doc pm : Value) (an : Option Addr) (cdv ct : Value) (osl : Array (Option Value)),
  fd = PySem.W.fnOf x qual (defArgs st) (defBody st) (defScope st) .none kV doc pm an cdv ct /\ K.lookup f = some ⟨oc, od, .func fd, osl⟩ /\ PySem.W.codeIn K cdv qual = true
 kp : PySem.W.keepIn K (.ref f) = true
section
variable {P : Program} {w : World} {K : PySem.W.Frag} {mg : Str -> Option Value} {base : Heap}
theorem Fun.ok {x qual : Str} {st : Stmt} {f : Addr} {fd : FuncData} {N ps : List Str} {k : Nat} {sp : Sp} (F : Fun K x qual st f fd) (S : FnScope N ps (defScope st)) (len : ∀ vs H Q E, sp vs H Q E -> vs.length = ps.length)
  (hbody : ∀ (cdv : Value) (A : Around) (outer : List Env) (s : Shared) (H : Hp) (vs : List V) (Q : VK) (E : XK), Room k (A.deeper (envOfC qual (defScope st) s.heap.objs.size f cdv)) -> sp vs H Q E ->
   ∃ t, PSs (cxOf CX0 P w K mg base N qual (defScope st) f cdv A outer s H E).nox (defBody st) t /\ t { nx := fun _ H' => Q .non H', rt := Q } (start N vs) H) : FnOk P w K mg base CX0 (k + 1) f fd ps sp := by
 obtain ⟨oc, od, kV, doc, pm, an, cdv, ct, osl, rfl, lk, hcd⟩ := F.ex
 refine fn_of lk hcd S len fun A outer s H vs Q E hr hsp => ?_
 obtain ⟨t, h, q⟩ := hbody cdv A outer s H vs Q E hr hsp
 exact ⟨t, h.nox, q⟩
theorem Fun.binds {x qual : Str} {st : Stmt} {f : Addr} {fd : FuncData} {ps : List Str} (F : Fun K x qual st f fd)
  (h : ∀ (kV doc pm : Value) (an : Option Addr) (cdv ct : Value) (us : List Value), us.length = ps.length -> bindArgs (PySem.W.fnOf x qual (defArgs st) (defBody st) (defScope st) .none kV doc pm an cdv ct) ⟨us, []⟩ = pure (ps.zip us)) : Binds K fd ps [] := by
 obtain ⟨oc, od, kV, doc, pm, an, cdv, ct, osl, rfl, lk, hcd⟩ := F.ex
 exact .all (h kV doc pm an cdv ct)
theorem fun_mk {x qual : Str} {st : Stmt} {f : Addr} {oc : Value} {od an : Option Addr} {osl : Array (Option Value)} {kV doc pm cdv ct : Value} (l : K.lookup f = some ⟨oc, od, .func (PySem.W.fnOf x qual (defArgs st) (defBody st) (defScope st) .none kV doc pm an cdv ct), osl⟩)
  (c : PySem.W.codeIn K cdv qual = true) (k : PySem.W.keepIn K (.ref f) = true) : Fun K x qual st f (PySem.W.fnOf x qual (defArgs st) (defBody st) (defScope st) .none kV doc pm an cdv ct) := ⟨⟨oc, od, kV, doc, pm, an, cdv, ct, osl, rfl, l, c⟩, k⟩
end
theorem small1000 {n : Nat} (h : n <= 1000) : n < sizeLine := zq142x h (by decide)
section
variable {X : Cx}
theorem pv (i : Nat) {x : Str} {pos : Pos} (hN : X.N[i]? = some x := by rfl) (hv : Vis X.env.scope x := by first | exact Or.inl rfl | exact Or.inr (Or.inl rfl) | exact Or.inr (Or.inr rfl)) (hd : (x == ("__debug__" : Str)) = false := by decide)
  (hcd : (x == ("__classdict__" : Str)) = false := by decide) : PE X (.Name x pos) (tVar i) := pe_var hN hv hd hcd
end
theorem iteF {A B : Prop} (h : B) : if false = true then A else B := by
 rw [if_neg zq7x]
 exact h
theorem iteT {A B : Prop} (h : A) : if true = true then A else B := by
 rw [if_pos rfl]
 exact h
theorem ite2 {c A B : Prop} [Decidable c] (h1 : c -> A) (h2 : ¬ c -> B) : if c then A else B := by
 by_cases h : c
 ·rw [if_pos h]
  exact h1 h
 ·rw [if_neg h]
  exact h2 h
def Same (H H' : Hp) : Prop := ∀ b o, H b = some o -> H' b = some o
theorem Same.refl (H : Hp) : Same H H := fun _ _ h => h
theorem Same.trans {H H1 H2 : Hp} (a : Same H H1) (b : Same H1 H2) : Same H H2 := fun c o h => b c o (a c o h)
theorem Same.free {H H' : Hp} (e : Same H H') {l : Addr} (h : H' l = Option.none) : H l = Option.none := by
  cases q : H l with
  | none => rfl
  | some o =>
    rw [e l o q] at h
    cases h
theorem Same.seq {K : PySem.W.Frag} {H H' : Hp} {a : Addr} {xs : List V} (e : Same H H') (h : SqL K H a xs) : SqL K H' a xs := by
 rcases h with (h | ⟨o, h⟩) | h
 ·exact .inl (.inl (e _ _ h))
 ·exact .inl (.inr ⟨o, e _ _ h⟩)
 ·exact .inr h
end L2
set_option maxHeartbeats 1000000
namespace L2
open PySem PySem.Spec PyProof.Rows
def clOf (cells : List (Str × Addr)) : List (Str × NameKind) -> List (Str × Addr) -> List (Str × Addr)
 | [], acc => acc
 | (n, k) :: r, acc => clOf cells r (if k == NameKind.free then (match cells.lookup n with | some a => (n, a) :: acc | none => acc) else acc)
theorem clOf_run {env : Env} {f : Str × NameKind -> List (Str × Addr) -> Sem (ForInStep (List (Str × Addr)))}
    (hf : ∀ x acc, f x acc = if (x.2 == NameKind.free) = true then (do let a <- cellOf env x.1; pure (ForInStep.yield ((x.1, a) :: acc))) else pure (ForInStep.yield acc)) :
    ∀ (l : List (Str × NameKind)) (acc : List (Str × Addr)), (∀ x ∈ l, x.2 = .free -> ∃ a, env.cells.lookup x.1 = some a) -> (forIn l acc f : Sem (List (Str × Addr))) = pure (clOf env.cells l acc)
  | [], acc, _ => by rw [List.forIn_nil]; rfl
  | (n, k) :: r, acc, h => by
    have hr := fun x hx => h x (zq33x _ hx)
    rw [List.forIn_cons, hf]
    by_cases hk : (k == NameKind.free) = true
    · have hk' : k = NameKind.free := by simpa using hk
      obtain ⟨a, ha⟩ := h (n, k) zq27x hk'
      have hc : cellOf env n = pure a := by unfold cellOf; rw [ha]
      rw [if_pos hk, hc]
      show (forIn r ((n, a) :: acc) f : Sem (List (Str × Addr))) = pure (clOf env.cells r _)
      rw [clOf_run hf r _ hr, if_pos hk, ha]
    · rw [if_neg hk]
      show (forIn r acc f : Sem (List (Str × Addr))) = pure (clOf env.cells r _)
      rw [clOf_run hf r _ hr, if_neg hk]
theorem closureFor_eq {scope : Scope} {env : Env} (h : ∀ x ∈ scope.names, x.2 = .free -> ∃ a, env.cells.lookup x.1 = some a) : closureFor scope env = pure (clOf env.cells scope.names []) := by
 simp only [closureFor]
 rw [clOf_run (env := env) (fun ⟨n, k⟩ acc => by dsimp only) scope.names [] h]
 rfl
theorem clOf_sub {cells : List (Str × Addr)} : ∀ {l : List (Str × NameKind)} {acc : List (Str × Addr)} {x : Str} {c : Addr}, (∀ y d, acc.lookup y = some d -> cells.lookup y = some d) -> (clOf cells l acc).lookup x = some c -> cells.lookup x = some c
  | [], _, _, _, ha, h => ha _ _ h
  | (n, k) :: r, acc, x, c, ha, h => by
    refine clOf_sub (l := r) ?_ h
    intro y d hd
    by_cases hk : (k == NameKind.free) = true
    · rw [if_pos hk] at hd
      cases q : cells.lookup n with
      | none => rw [q] at hd; exact ha _ _ hd
      | some a =>
        rw [q] at hd
        by_cases hy : (y == n) = true
        · have hy' : y = n := by simpa using hy
          subst hy'
          simp [zq17x] at hd
          rw [q, hd]
        · have hy' : (y == n) = false := by simpa using hy
          simp only [zq17x, hy'] at hd
          exact ha _ _ hd
    · rw [if_neg hk] at hd; exact ha _ _ hd
theorem clOf_keep {cells : List (Str × Addr)} : ∀ {l : List (Str × NameKind)} {acc : List (Str × Addr)} {x : Str}, (acc.lookup x).isSome = true -> ((clOf cells l acc).lookup x).isSome = true
  | [], _, _, h => h
  | (n, k) :: r, acc, x, h => by
    refine clOf_keep (l := r) ?_
    by_cases hk : (k == NameKind.free) = true
    · rw [if_pos hk]
      cases q : cells.lookup n with
      | none => exact h
      | some a =>
        by_cases hy : (x == n) = true
        · simp [zq17x, hy]
        · have hy' : (x == n) = false := by simpa using hy
          simp only [zq17x, hy']
          exact h
    · rw [if_neg hk]; exact h
theorem clOf_has {cells : List (Str × Addr)} : ∀ {l : List (Str × NameKind)} {acc : List (Str × Addr)} {x : Str} {a : Addr}, (x, NameKind.free) ∈ l -> cells.lookup x = some a -> ((clOf cells l acc).lookup x).isSome = true
  | [], _, _, _, h, _ => nomatch h
  | (n, k) :: r, acc, x, a, h, hc => by
    rcases zq43x.mp h with e | h
    · obtain ⟨rfl, rfl⟩ := Prod.mk.inj e
      refine clOf_keep (l := r) ?_
      rw [if_pos (by decide), hc]
      simp [zq17x]
    · exact clOf_has (l := r) h hc
theorem clOf_look {cells : List (Str × Addr)} {l : List (Str × NameKind)} {x : Str} {a : Addr} (h : (x, NameKind.free) ∈ l) (hc : cells.lookup x = some a) : (clOf cells l []).lookup x = some a := by
 obtain ⟨c, e⟩ := zq116x.mp (clOf_has (acc := []) h hc)
 have := clOf_sub (fun y d (q : ([] : List (Str × Addr)).lookup y = some d) => by simp at q) e
 rw [hc] at this; cases this
 exact e
theorem relabel_look {env : Env} : ∀ {l : List (Str × NameKind)} {x : Str} {k : NameKind}, (∀ y ∈ l, y.2 ≠ .cell) ->
    (l.map fun (n, k) => if (k == NameKind.free && env.scope.kind == .function && env.kindOf n == some .cell) then (n, NameKind.cell) else (n, k)).lookup x = some k -> k = .cell \/ k = .free -> l.lookup x = some .free
  | [], _, _, _, h, _ => by simp at h
  | (n, q) :: r, x, k, hc, h, hk => by
    have hr := fun y hy => hc y (zq33x _ hy)
    have ih := relabel_look (env := env) (l := r) (x := x) (k := k) hr
    rw [zq4x] at h
    dsimp only at h
    by_cases hx : (x == n) = true
    · simp only [zq17x, hx]
      by_cases hq : (q == NameKind.free && env.scope.kind == .function && env.kindOf n == some .cell) = true
      · have : q = .free := by
          simp only [zq19x] at hq
          simpa using hq.1.1
        rw [this]
      · rw [if_neg hq] at h
        simp only [zq17x, hx] at h
        have hqk : q = k := zq31x h
        rcases hk with e | e
        · exact absurd (hqk.trans e) (hc (n, q) zq27x)
        · rw [hqk, e]
    · have hx' : (x == n) = false := by simpa using hx
      simp only [zq17x, hx']
      refine ih ?_ hk
      by_cases hq : (q == NameKind.free && env.scope.kind == .function && env.kindOf n == some .cell) = true
      · rw [if_pos hq] at h
        simp only [zq17x, hx'] at h
        exact h
      · rw [if_neg hq] at h
        simp only [zq17x, hx'] at h
        exact h
theorem relabel_free {env : Env} : ∀ {l : List (Str × NameKind)} {x : Str}, l.lookup x = some .free ->
    (l.map fun (n, k) => if (k == NameKind.free && env.scope.kind == .function && env.kindOf n == some .cell) then (n, NameKind.cell) else (n, k)).lookup x = some .cell \/
    (l.map fun (n, k) => if (k == NameKind.free && env.scope.kind == .function && env.kindOf n == some .cell) then (n, NameKind.cell) else (n, k)).lookup x = some .free
  | [], _, h => by simp at h
  | (n, q) :: r, x, h => by
    have ih := relabel_free (env := env) (l := r) (x := x)
    rw [zq4x]
    dsimp only
    by_cases hx : (x == n) = true
    · simp only [zq17x, hx] at h
      by_cases hq : (q == NameKind.free && env.scope.kind == .function && env.kindOf n == some .cell) = true
      · rw [if_pos hq]
        left
        simp only [zq17x, hx]
      · rw [if_neg hq]
        right
        simp only [zq17x, hx]
        exact h
    · have hx' : (x == n) = false := by simpa using hx
      simp only [zq17x, hx'] at h
      have := ih h
      by_cases hq : (q == NameKind.free && env.scope.kind == .function && env.kindOf n == some .cell) = true
      · rw [if_pos hq]
        simp only [zq17x, hx']
        exact this
      · rw [if_neg hq]
        simp only [zq17x, hx']
        exact this
def compOkB (sx : Scope) (NX : List Str) (scope : Scope) (N : List Str) (mp : List (Option Nat)) : Bool :=
 (scope.kind == .function) && scope.names.all (fun y => y.2 != .cell) && scope.names.all (fun y => y.2 != .local || scope.names.lookup y.1 == some .local) &&
 scope.names.all (fun y => y.2 != .free || sx.names.lookup y.1 == some .cell || sx.names.lookup y.1 == some .free) && (mp.length == N.length) &&
 ((N.zip mp).all fun p => match p.2 with | none => true | some j => NX[j]? == some p.1 && scope.names.lookup p.1 == some .free)
def startC (mp : List (Option Nat)) (σ : St) : St := mp.map fun o => match o with | none => none | some j => match σ[j]? with | some v => v | none => none
def PTs (X : Cx) (ifs : List Expr) (t : TT) : Prop :=
 ∀ (pins : List (Addr × Obj)) (s : Shared) (σ : St) (H : Hp) (Q : Bool -> Hp -> Prop), Inv X pins σ H s -> t σ H Q ->
  wpAny (model X.prog X.w) X.A (forIn ifs true fun c r => if r = true then do let ok <- isTrue c X.env (eval c X.env); pure (ForInStep.yield ok) else pure (ForInStep.yield r)) (TP X pins σ Q) X.xe s
def tNoTest : TT := fun _ H Q => Q true H
theorem pts_nil {X : Cx} : PTs X [] tNoTest := fun pins s σ H Q I h => wpAny_tests_nil ⟨H, I, h⟩
theorem pts_one {X : Cx} {c : Expr} {t : TT} (h : PT X c t) : PTs X [c] t := fun pins s σ H Q I q => wpAny_tests_one (h pins s σ H Q I q)
def CompW (J : It) (g : TG) (tc : TT) (te : TE) (acc : Addr) (Qe : Hp -> Prop) (σ : St) (H : Hp) : Prop := ∃ W : Nat -> Nat -> St -> Hp -> Prop, (∃ m, W 0 m σ H) /\ ∀ i m σ H, W i m σ H ->
 (J.stop i H /\ Qe H) \/ (J.go i H /\ ∃ Nx : St -> Hp -> Prop, (∀ σ' H', Nx σ' H' -> ∃ m', m' < m /\ W (i + 1) m' σ' H') /\ ∀ x H', J.yld i H x H' -> g x σ H' fun σ2 H2 => tc σ2 H2 fun b H3 =>
  if b = true then te σ2 H3 fun v H4 => ∃ ys, H4 acc = some (.lst ys) /\ ys.length < sizeLine /\ Nx σ2 (upd H4 acc (.lst (ys ++ [v]))) else Nx σ2 H3)
def tComp (wi : TI) (g : TG) (tc : TT) (te : TE) (mp : List (Option Nat)) : TE := fun σ H Q => wi σ H fun J H1 => ∀ acc, H1 acc = none -> CompW J g tc te acc (fun H' => Q (.ref acc) H') (startC mp σ) (upd H1 acc (.lst []))
section
variable {prog : Program} {w : World} {A : Around} {R : Result -> Shared -> Prop} {s : Shared}
theorem codeAny_compLoop_own {elt target iter : Expr} {ifs : List Expr} {scope : Scope} {pos : Pos} {it acc : Value} {env : Env} (I : Nat -> Shared -> Prop)
    (turn : ∀ n s, I n s -> wpAny (model prog w) A (pyNext it) (fun r s₁ => match r with
      | none => R (.ok .next) s₁
      | some v => wpAny (model prog w) A (letOwnedTupleGo target it v) (fun _ s₀ => wpAny (model prog w) A (assign target env v) (fun _ s₂ =>
          wpAny (model prog w) A (forIn ifs true fun c r => if r = true then do let ok <- isTrue c env (eval c env); pure (ForInStep.yield ok) else pure (ForInStep.yield r)) (fun ok s₃ =>
            if ok = true then wpAny (model prog w) A (eval elt env) (fun x s₄ =>
              wpAny (model prog w) A (call (.builtin "list.append") [acc, x]) (fun _ s₅ => ∃ m, m < n /\ I m s₅) (fun _ _ => False) s₄) (fun _ _ => False) s₃
            else ∃ m, m < n /\ I m s₃) (fun _ _ => False) s₂) (fun _ _ => False) s₀) (fun _ _ => False) s₁) (fun _ _ => False) s)
    (n : Nat) (h : I n s) :
    codeAny (model prog w) A (.compLoop (.ListComp elt [⟨target, iter, ifs, 0⟩] scope pos) 0 it acc env) R s := by
  refine codeAny_loop rfl I (fun n s hI => ?_) n h
  show wpAny _ A ((compTurn (.ListComp elt [⟨target, iter, ifs, 0⟩] scope pos) 0 it acc env).onRaise (fun x => do noteFrame x env; theTreesLotGoes x)) _ _ s
  refine wpAny_noted ?_
  rw [compTurn_list]
  refine wpAny_bind (wpAny_standAt (wpAny_bind (wpAny_mono (turn n s hI) (fun r s₁ h₁ => ?_) fun _ _ h' => h'.elim)))
  cases r with
  | none => exact wpAny_pure h₁
  | some v =>
    refine wpAny_bind (wpAny_mono h₁ (fun _ s₀ h₀ => ?_) fun _ _ h' => h'.elim)
    refine wpAny_bind (wpAny_mono h₀ (fun _ s₂ h₂ => wpAny_bind (wpAny_mono h₂ (fun ok s₃ h₃ => ?_) fun _ _ h' => h'.elim)) fun _ _ h' => h'.elim)
    cases ok with
    | false => exact wpAny_pure ⟨rfl, h₃⟩
    | true =>
      exact wpAny_bind (wpAny_bind (wpAny_mono h₃ (fun x s₄ h₄ => wpAny_bind (wpAny_mono h₄ (fun _ s₅ h₅ => wpAny_pure (wpAny_pure ⟨rfl, h₅⟩)) fun _ _ h' => h'.elim)) fun _ _ h' => h'.elim))
end
section
variable {X : Cx}
theorem FpOk.turned {pins : List (Addr × Obj)} {s : Shared} {σ : St} {H : Hp} {C : Addr} {h' : Heap} (I : Inv X pins σ H s) (f : FpOk X pins H C) (hs : Heap.SameBut C s.heap h') : Inv X pins σ H { s with heap := h' } :=
 I.turned (t' := s.toks) (fun b o hb e => (hs.2 b hb).trans e) f.1 f.2.1 f.2.2.2.1 f.2.2.2.2.1 f.2.2.2.2.2
def tSetC (i : Nat) (t : TE) : TS := fun D σ H => t σ H fun v H' => D.nx (σ.set i (some v)) H'
end
def Sm (i : Int) : Prop := -(2 ^ 300) < i /\ i < 2 ^ 300
theorem sm_bits {i : Int} (h : Sm i) : Builtin.Int.intBits i <= 2 ^ 20 := by
 obtain ⟨h1, h2⟩ := h
 unfold Builtin.Int.intBits
 split
 ·exact zq34x _
 ·rename_i h0
  have hn : i.natAbs ≠ 0 := by
   intro e
   apply h0
   simp
   omega
  have h3 : i.natAbs < 2 ^ 300 := by omega
  have h4 : i.natAbs.log2 < 300 := (Nat.log2_lt hn).mpr h3
  have : (2 : Nat) ^ 20 = 1048576 := by decide
  omega
theorem sm_pylong {x y : Int} (h : Sm y) : Builtin.divisionGoesByPylong x y = false := by
 refine PyProof.noPylong_of_log2 ?_
 obtain ⟨h1, h2⟩ := h
 by_cases h0 : y.natAbs = 0
 ·rw [h0]; decide +kernel
 ·have h3 : y.natAbs < 2 ^ 300 := by omega
  have h4 : y.natAbs.log2 < 300 := (Nat.log2_lt h0).mpr h3
  omega
section
variable {X : Cx}
theorem op_fdivS : OpR X (binaryOp .FloorDiv) (rI (fun _ j => 0 < j /\ Sm j) fun i j => .int (i / j)) := opI fun i j _ _ _ _ _ hc q =>
 floordiv_int (by omega) (by rw [Int.fdiv_eq_ediv_of_nonneg _ (by omega)]; exact q) (.inl (sm_pylong hc.2))
def rIsi (K : PySem.W.Frag) : List V -> Hp -> VK -> Prop := fun xs H Q => ∃ x T t b, xs = [x, .ty T] /\ TyOf K H x t /\ PySem.W.kitOne K t (.type T) = some b /\ Q (.bl b) H
theorem call_isi : CallR X (.builtin "isinstance") (rIsi X.K) := by
 intro pins s σ H xs us Q I rv h
 obtain ⟨x, T, t, b, rfl, ty, e, q⟩ := h
 obtain ⟨u, v, rfl, ru, rv⟩ := rv.two
 cases (show v = Value.type T from rv)
 exact isinst_ok I ru ty e fun tk => ⟨.bl b, H, I.tok tk, rfl, q⟩
def KeyD : PyData -> Key -> Prop
 | .int i, k => k = .inl i
 | .str x, k => k = .inr x
 | _, _ => False
mutual
def IsD (nb : Addr -> Prop) (H : Hp) : PyData -> V -> Prop
 | .none, v => v = .non
 | .bool b, v => v = .bl b
 | .int i, v => v = .int i
 | .str x, v => v = .str x
 | .list ds, v => ∃ a xs, v = .ref a /\ ¬ nb a /\ H a = some (.lst xs) /\ IsDs nb H ds xs
 | .tuple ds, v => ∃ a xs, v = .ref a /\ ¬ nb a /\ H a = some (.tup xs) /\ IsDs nb H ds xs
 | .dict kvs, v => ∃ a ps, v = .ref a /\ ¬ nb a /\ Rd H a (.dK ps) /\ IsKs nb H kvs ps
termination_by structural d => d
def IsDs (nb : Addr -> Prop) (H : Hp) : List PyData -> List V -> Prop
 | [], xs => xs = []
 | d :: ds, xs => ∃ y ys, xs = y :: ys /\ IsD nb H d y /\ IsDs nb H ds ys
termination_by structural d => d
def IsKs (nb : Addr -> Prop) (H : Hp) : List (PyData × PyData) -> List (Key × V) -> Prop
 | [], xs => xs = []
 | d :: ds, xs => ∃ p ys, xs = p :: ys /\ IsK nb H d p /\ IsKs nb H ds ys
termination_by structural d => d
def IsK (nb : Addr -> Prop) (H : Hp) : PyData × PyData -> Key × V -> Prop
 | (k, d), p => KeyD k p.1 /\ IsD nb H d p.2
termination_by structural d => d
end
def But (nb : Addr -> Prop) (H H' : Hp) : Prop := ∀ a o, ¬ nb a -> H a = some o -> H' a = some o
def Nb (b : Addr) : Addr -> Prop := fun a => a = b
section
variable {nb nb' : Addr -> Prop} {H H1 H2 H' : Hp} {a b c p : Addr} {o : HO} {xs : List V}
theorem But.refl (nb : Addr -> Prop) (H : Hp) : But nb H H := fun _ _ _ h => h
theorem But.trans (x : But nb H H1) (y : But nb H1 H2) : But nb H H2 := fun a o n h => y a o n (x a o n h)
theorem But.of (x : Same H H') : But nb H H' := fun a o _ h => x a o h
theorem But.set (h : nb p) : But nb H (upd H p o) := fun a u n q => by rw [upd_ne (fun e => n (by rw [e]; exact h))]; exact q
theorem But.rd {u : HO} (x : But nb H H') (n : ¬ nb a) (h : Rd H a u) : Rd H' a u := by
 rcases h with h | ⟨o, h⟩
 ·exact .inl (x _ _ n h)
 ·exact .inr ⟨o, x _ _ n h⟩
end
mutual
theorem IsD.keep {nb : Addr -> Prop} {H H' : Hp} (x : But nb H H') : ∀ {d : PyData} {v : V}, IsD nb H d v -> IsD nb H' d v
 | .none, _, h => by unfold IsD at h ⊢; exact h
 | .bool _, _, h => by unfold IsD at h ⊢; exact h
 | .int _, _, h => by unfold IsD at h ⊢; exact h
 | .str _, _, h => by unfold IsD at h ⊢; exact h
 | .list ds, _, h => by unfold IsD at h ⊢; obtain ⟨a, xs, e, n, s, r⟩ := h; exact ⟨a, xs, e, n, x _ _ n s, IsDs.keep x r⟩
 | .tuple ds, _, h => by unfold IsD at h ⊢; obtain ⟨a, xs, e, n, s, r⟩ := h; exact ⟨a, xs, e, n, x _ _ n s, IsDs.keep x r⟩
 | .dict kvs, _, h => by unfold IsD at h ⊢; obtain ⟨a, xs, e, n, s, r⟩ := h; exact ⟨a, xs, e, n, x.rd n s, IsKs.keep x r⟩
theorem IsDs.keep {nb : Addr -> Prop} {H H' : Hp} (x : But nb H H') : ∀ {ds : List PyData} {vs : List V}, IsDs nb H ds vs -> IsDs nb H' ds vs
 | [], _, h => by unfold IsDs at h ⊢; exact h
 | d :: ds, _, h => by unfold IsDs at h ⊢; obtain ⟨y, ys, e, h1, h2⟩ := h; exact ⟨y, ys, e, IsD.keep x h1, IsDs.keep x h2⟩
theorem IsKs.keep {nb : Addr -> Prop} {H H' : Hp} (x : But nb H H') : ∀ {ds : List (PyData × PyData)} {vs : List (Key × V)}, IsKs nb H ds vs -> IsKs nb H' ds vs
 | [], _, h => by unfold IsKs at h ⊢; exact h
 | d :: ds, _, h => by unfold IsKs at h ⊢; obtain ⟨y, ys, e, h1, h2⟩ := h; exact ⟨y, ys, e, IsK.keep x h1, IsKs.keep x h2⟩
theorem IsK.keep {nb : Addr -> Prop} {H H' : Hp} (x : But nb H H') : ∀ {d : PyData × PyData} {v : Key × V}, IsK nb H d v -> IsK nb H' d v
 | (k, d), _, h => by unfold IsK at h ⊢; exact ⟨h.1, IsD.keep x h.2⟩
end
mutual
theorem IsD.av {nb nb' : Addr -> Prop} {H : Hp} (x : ∀ a, nb' a -> nb a) : ∀ {d : PyData} {v : V}, IsD nb H d v -> IsD nb' H d v
 | .none, _, h => by unfold IsD at h ⊢; exact h
 | .bool _, _, h => by unfold IsD at h ⊢; exact h
 | .int _, _, h => by unfold IsD at h ⊢; exact h
 | .str _, _, h => by unfold IsD at h ⊢; exact h
 | .list ds, _, h => by unfold IsD at h ⊢; obtain ⟨a, xs, e, n, s, r⟩ := h; exact ⟨a, xs, e, fun z => n (x a z), s, IsDs.av x r⟩
 | .tuple ds, _, h => by unfold IsD at h ⊢; obtain ⟨a, xs, e, n, s, r⟩ := h; exact ⟨a, xs, e, fun z => n (x a z), s, IsDs.av x r⟩
 | .dict kvs, _, h => by unfold IsD at h ⊢; obtain ⟨a, xs, e, n, s, r⟩ := h; exact ⟨a, xs, e, fun z => n (x a z), s, IsKs.av x r⟩
theorem IsDs.av {nb nb' : Addr -> Prop} {H : Hp} (x : ∀ a, nb' a -> nb a) : ∀ {ds : List PyData} {vs : List V}, IsDs nb H ds vs -> IsDs nb' H ds vs
 | [], _, h => by unfold IsDs at h ⊢; exact h
 | d :: ds, _, h => by unfold IsDs at h ⊢; obtain ⟨y, ys, e, h1, h2⟩ := h; exact ⟨y, ys, e, IsD.av x h1, IsDs.av x h2⟩
theorem IsKs.av {nb nb' : Addr -> Prop} {H : Hp} (x : ∀ a, nb' a -> nb a) : ∀ {ds : List (PyData × PyData)} {vs : List (Key × V)}, IsKs nb H ds vs -> IsKs nb' H ds vs
 | [], _, h => by unfold IsKs at h ⊢; exact h
 | d :: ds, _, h => by unfold IsKs at h ⊢; obtain ⟨y, ys, e, h1, h2⟩ := h; exact ⟨y, ys, e, IsK.av x h1, IsKs.av x h2⟩
theorem IsK.av {nb nb' : Addr -> Prop} {H : Hp} (x : ∀ a, nb' a -> nb a) : ∀ {d : PyData × PyData} {v : Key × V}, IsK nb H d v -> IsK nb' H d v
 | (k, d), _, h => by unfold IsK at h ⊢; exact ⟨h.1, IsD.av x h.2⟩
end
mutual
theorem IsD.fresh {nb : Addr -> Prop} {H : Hp} {p : Addr} (hp : H p = none) : ∀ {d : PyData} {v : V}, IsD nb H d v -> IsD (fun a => nb a \/ a = p) H d v
 | .none, _, h => by unfold IsD at h ⊢; exact h
 | .bool _, _, h => by unfold IsD at h ⊢; exact h
 | .int _, _, h => by unfold IsD at h ⊢; exact h
 | .str _, _, h => by unfold IsD at h ⊢; exact h
 | .list ds, _, h => by unfold IsD at h ⊢; obtain ⟨a, xs, e, n, s, r⟩ := h; exact ⟨a, xs, e, fun z => z.elim n (ne_of_none s hp), s, IsDs.fresh hp r⟩
 | .tuple ds, _, h => by unfold IsD at h ⊢; obtain ⟨a, xs, e, n, s, r⟩ := h; exact ⟨a, xs, e, fun z => z.elim n (ne_of_none s hp), s, IsDs.fresh hp r⟩
 | .dict kvs, _, h => by unfold IsD at h ⊢; obtain ⟨a, xs, e, n, s, r⟩ := h; exact ⟨a, xs, e, fun z => z.elim n (s.elim (fun s => ne_of_none s hp) fun ⟨_, s⟩ => ne_of_none s hp), s, IsKs.fresh hp r⟩
theorem IsDs.fresh {nb : Addr -> Prop} {H : Hp} {p : Addr} (hp : H p = none) : ∀ {ds : List PyData} {vs : List V}, IsDs nb H ds vs -> IsDs (fun a => nb a \/ a = p) H ds vs
 | [], _, h => by unfold IsDs at h ⊢; exact h
 | d :: ds, _, h => by unfold IsDs at h ⊢; obtain ⟨y, ys, e, h1, h2⟩ := h; exact ⟨y, ys, e, IsD.fresh hp h1, IsDs.fresh hp h2⟩
theorem IsKs.fresh {nb : Addr -> Prop} {H : Hp} {p : Addr} (hp : H p = none) : ∀ {ds : List (PyData × PyData)} {vs : List (Key × V)}, IsKs nb H ds vs -> IsKs (fun a => nb a \/ a = p) H ds vs
 | [], _, h => by unfold IsKs at h ⊢; exact h
 | d :: ds, _, h => by unfold IsKs at h ⊢; obtain ⟨y, ys, e, h1, h2⟩ := h; exact ⟨y, ys, e, IsK.fresh hp h1, IsKs.fresh hp h2⟩
theorem IsK.fresh {nb : Addr -> Prop} {H : Hp} {p : Addr} (hp : H p = none) : ∀ {d : PyData × PyData} {v : Key × V}, IsK nb H d v -> IsK (fun a => nb a \/ a = p) H d v
 | (k, d), _, h => by unfold IsK at h ⊢; exact ⟨h.1, IsD.fresh hp h.2⟩
end
mutual
theorem IsD.reads {pins : List (Addr × Obj)} {σ : St} {H : Hp} {s : Shared} {nb : Addr -> Prop} (I : Inv X pins σ H s) : ∀ {d : PyData} {v : V} {u : Value}, IsD nb H d v -> RelV v u -> d.canLay0 = true -> ∃ as, Reads s.heap u d as
  | .none, _, _, h, r, _ => by unfold IsD at h; subst h; cases r; exact ⟨_, .none⟩
  | .bool _, _, _, h, r, _ => by unfold IsD at h; subst h; cases r; exact ⟨_, .bool _⟩
  | .int _, _, _, h, r, _ => by unfold IsD at h; subst h; obtain ⟨t, rfl⟩ := r; exact ⟨_, .int _ _⟩
  | .str _, _, _, h, r, _ => by unfold IsD at h; subst h; obtain ⟨t, rfl⟩ := r; exact ⟨_, .str _ _⟩
  | .list ds, _, _, h, r, hc0 => by
    unfold IsD at h
    obtain ⟨a, xs, rfl, n, s, q⟩ := h
    cases r
    obtain ⟨its, rv, p, hz⟩ := I.list (SqL.of s)
    obtain ⟨as, ra⟩ := IsDs.reads I q rv (by simpa only [PyData.canLay0] using hc0)
    obtain ⟨o, ho, hc, m, hd⟩ := p.isList
    exact ⟨_, .list ho hc hd (by simpa using ra)⟩
  | .tuple ds, _, _, h, r, hc0 => by
    unfold IsD at h
    obtain ⟨a, xs, rfl, n, s, q⟩ := h
    cases r
    obtain ⟨its, rv, p, hz⟩ := I.tuple (SqT.of s)
    obtain ⟨as, ra⟩ := IsDs.reads I q rv (by simpa only [PyData.canLay0] using hc0)
    obtain ⟨o, ho, hc, m, hd⟩ := p
    exact ⟨_, .tuple ho hc hd (by simpa using ra)⟩
  | .dict _, _, _, h, r, hc0 => by simp [PyData.canLay0] at hc0
theorem IsDs.reads {pins : List (Addr × Obj)} {σ : St} {H : Hp} {s : Shared} {nb : Addr -> Prop} (I : Inv X pins σ H s) : ∀ {ds : List PyData} {vs : List V} {us : List Value}, IsDs nb H ds vs -> Vals vs us -> PyData.canLayAll0 ds = true -> ∃ as, ReadsAll s.heap us ds as
  | [], _, _, h, r, _ => by unfold IsDs at h; subst h; cases r; exact ⟨_, .nil⟩
  | d :: ds, _, _, h, r, hc0 => by
    rw [PyData.canLayAll0, zq19x] at hc0
    unfold IsDs at h
    obtain ⟨y, ys, rfl, h1, h2⟩ := h
    cases r with
    | cons r1 r2 =>
      obtain ⟨as, q1⟩ := IsD.reads I h1 r1 hc0.1
      obtain ⟨bs, q2⟩ := IsDs.reads I h2 r2 hc0.2
      exact ⟨_, .cons q1 q2⟩
end
def rEqD (neg : Bool) : R2 := fun x y H Q => ∃ nb d e, IsD nb H d x /\ IsD nb H e y /\ SeqAt.shaped d = true /\ SeqAt.shaped e = true /\ Q (.bl (PyData.eqv d e != neg)) H
theorem op_eqD (hu : X.A.units + 64 < cLine) : OpR X (compareOp .Eq) (rEqD false) := by
 intro pins s σ H x y v u Q I rx ry h
 obtain ⟨nb, d, e, h1, h2, h3, h4, q⟩ := h
 obtain ⟨as, r1⟩ := h1.reads I rx (zq78x h3)
 obtain ⟨bs, r2⟩ := h2.reads I ry (zq78x h4)
 exact eq_dataH r1 r2 h3 h4 hu ⟨.bl _, H, I, rfl, by simpa using q⟩
theorem op_neD (hu : X.A.units + 64 < cLine) : OpR X (compareOp .NotEq) (rEqD true) := by
 intro pins s σ H x y v u Q I rx ry h
 obtain ⟨nb, d, e, h1, h2, h3, h4, q⟩ := h
 obtain ⟨as, r1⟩ := h1.reads I rx (zq78x h3)
 obtain ⟨bs, r2⟩ := h2.reads I ry (zq78x h4)
 exact ne_dataH r1 r2 h3 h4 hu ⟨.bl _, H, I, rfl, by simpa using q⟩
end
mutual
theorem eqv_refl : ∀ d : PyData, SeqAt.shaped d = true \/ d.canLay0 = true -> PyData.eqv d d = true
  | .none, _ => by simp [PyData.eqv]
  | .bool _, _ => by simp [PyData.eqv]
  | .int _, _ => by simp [PyData.eqv]
  | .str _, _ => by simp [PyData.eqv]
  | .list ds, h => by
    have h' : PyData.canLayAll0 ds = true := by
      rcases h with h | h
      · have := zq78x h; simpa [PyData.canLay0] using this
      · simpa [PyData.canLay0] using h
    simp only [PyData.eqv]
    exact eqvAll_refl ds h'
  | .tuple ds, h => by
    have h' : PyData.canLayAll0 ds = true := by
      rcases h with h | h
      · have := zq78x h; simpa [PyData.canLay0] using this
      · simpa [PyData.canLay0] using h
    simp only [PyData.eqv]
    exact eqvAll_refl ds h'
  | .dict _, h => by
    rcases h with h | h
    · have := zq78x h; simp [PyData.canLay0] at this
    · simp [PyData.canLay0] at h
theorem eqvAll_refl : ∀ ds : List PyData, PyData.canLayAll0 ds = true -> PyData.eqvAll ds ds = true
  | [], _ => by simp [PyData.eqvAll]
  | d :: ds, h => by
    simp only [PyData.canLayAll0, zq19x] at h
    simp only [PyData.eqvAll, zq19x]
    exact ⟨eqv_refl d (.inr h.1), eqvAll_refl ds h.2⟩
end
structure Callee (P : Program) (w : World) (K : PySem.W.Frag) (mg : Str -> Option Value) (base : Heap) (x : Str) (k : Nat) (ps : List Str) (sp : Sp) : Prop where
 ex : ∃ f fd, FnOk P w K mg base CX0 k f fd ps sp /\ Binds K fd ps [] /\ PySem.W.keepIn K (.ref f) = true /\ mg x = some (.ref f)
theorem pe_callC {X : Cx} {x : Str} {k : Nat} {ps : List Str} {sp : Sp} {p pos : Pos} {e : Expr} {es : List Expr} {t : TA} (c : Callee X.prog X.w X.K X.mg X.base x k ps sp) (hr : Room k X.A) (ha : PA X (e :: es) t) (hg : Gl X x := by rfl)
  (hdb : (x == ("__debug__" : Str)) = false := by decide) (he : starEach (e :: es) X.env = (false, eval e X.env) :: starEach es X.env := by rfl) (hpl : (backTo pos (starEach es X.env)).any (·.1) = false := by rfl) :
  PE X (.Call (.Name x p) (e :: es) [] pos) (tCall sp [] E0 t) := by
 obtain ⟨f, fd, F, b, kp, m⟩ := c.ex
 exact pe_call F hr hg m kp b .nil pass0 ha hdb he hpl
theorem Callee.mk' {P : Program} {w : World} {K : PySem.W.Frag} {mg : Str -> Option Value} {base : Heap} {x : Str} {st : Stmt} {k : Nat} {ps : List Str} {sp : Sp} {f : Addr} {fd : FuncData} (F : Fun K x x st f fd) (ok : FnOk P w K mg base CX0 k f fd ps sp) (b : Binds K fd ps [])
  (m : mg x = some (.ref f)) : Callee P w K mg base x k ps sp := ⟨f, fd, ok, b, F.kp, m⟩
def DfAt (K : PySem.W.Frag) (x q : Str) (st : Stmt) (f : Addr) : Prop := PySem.W.nsIn K mainGlobals x = some (some (.ref f)) /\ ∃ fd, Fun K x q st f fd
theorem DfAt.mk {K : PySem.W.Frag} {x q : Str} {st : Stmt} {f : Addr} {oc : Value} {od an : Option Addr} {osl : Array (Option Value)} {kV doc pm cdv ct : Value} (a : PySem.W.nsIn K mainGlobals x = some (some (.ref f))) (l : K.lookup f = some ⟨oc, od, .func (PySem.W.fnOf x q (defArgs st) (defBody st) (defScope st) .none kV doc pm an cdv ct), osl⟩)
  (c : PySem.W.codeIn K cdv q = true) (k : PySem.W.keepIn K (.ref f) = true) : DfAt K x q st f := ⟨a, _, fun_mk l c k⟩
end L2
set_option maxRecDepth 100000
set_option maxHeartbeats 1000000
namespace L2
open PySem PySem.Spec PyProof.Rows
section
variable {X : Cx}
theorem op_mulA : OpR X (binaryOp .Mult) (rI (fun i j => CMul i j \/ (Sm i /\ Sm j)) fun i j => .int (i * j)) := opI fun _ _ _ _ _ _ _ hc q => mul_int q (by
 rcases hc with hc | hc
 ·exact hc.ok
 ·exact IntMulOk.of_bits (sm_bits hc.1) (sm_bits hc.2))
end
def BagAt (H : Hp) (b l : Addr) : Prop := ∃ (ns : List Int) (i c st n : Int), H b = some (.lst [.ref l, .int i, .int c, .int st, .int n]) /\ H l = some (.lst (ns.map V.int)) /\
 (∀ x ∈ ns, 0 <= x /\ x < 10 ^ 60) /\ ns.length <= 63 /\ 0 <= i /\ 0 <= c /\ c < 10 ^ 60 /\ 0 <= st /\ st < 2147483647
theorem bag_ne {H : Hp} {b l : Addr} {ns : List Int} {i c st n : V} (h : H b = some (.lst [.ref l, i, c, st, n])) (h' : H l = some (.lst (ns.map V.int))) : l ≠ b := by
 intro e
 subst e
 rw [h] at h'
 have e := HO.lst.inj (zq31x h')
 cases ns with
 | nil => cases e
 | cons x r => rw [zq4x] at e; cases (zq97x e).1
theorem BagAt.put {H : Hp} {b l : Addr} {ns : List Int} {i c st n : Int} (hl : l ≠ b) (h' : H l = some (.lst (ns.map V.int))) (h1 : ∀ x ∈ ns, 0 <= x /\ x < 10 ^ 60) (h2 : ns.length <= 63)
  (h3 : 0 <= i) (h4 : 0 <= c) (h5 : c < 10 ^ 60) (h6 : 0 <= st) (h7 : st < 2147483647) : BagAt (upd H b (.lst [.ref l, .int i, .int c, .int st, .int n])) b l :=
 ⟨ns, i, c, st, n, upd_same, by rw [upd_ne hl]; exact h', h1, h2, h3, h4, h5, h6, h7⟩
theorem BagAt.ne {H : Hp} {b l p : Addr} (h : BagAt H b l) (hp : H p = none) : p ≠ b /\ p ≠ l := by
 obtain ⟨_, _, _, _, _, h1, h2, _⟩ := h
 exact ⟨(fun e => by rw [e, h1] at hp; cases hp), (fun e => by rw [e, h2] at hp; cases hp)⟩
theorem BagAt.put2 {H : Hp} {b l p : Addr} {o : HO} (h : BagAt H b l) (hp : p ≠ b /\ p ≠ l) : BagAt (upd H p o) b l := by
 obtain ⟨ns, i, c, st, n, h1, h2, r⟩ := h
 exact ⟨ns, i, c, st, n, by rw [upd_ne (zq11x hp.1)]; exact h1, by rw [upd_ne (zq11x hp.2)]; exact h2, r⟩
theorem BagAt.same {H H' : Hp} {b l : Addr} (h : BagAt H b l) (s : Same H H') : BagAt H' b l := by
 obtain ⟨ns, i, c, st, n, h1, h2, r⟩ := h
 exact ⟨ns, i, c, st, n, s _ _ h1, s _ _ h2, r⟩
def spDraw : Sp := fun vs H Q _ => ∃ (b l : Addr) (many : Int), vs = [.ref b, .int many] /\ BagAt H b l /\ 0 < many /\ Sm many /\ ∀ (r : Int) (H' : Hp), 0 <= r -> r < many -> But (Nb b) H H' -> BagAt H' b l -> Q (.int r) H'
def spBag (K : PySem.W.Frag) : Sp := fun vs H Q _ => ∃ (a : Addr) (ns : List Int), vs = [.ref a] /\ SqL K H a (ns.map V.int) /\ ns.length <= 63 /\ ∀ (b l : Addr) (H' : Hp), Same H H' -> H b = none -> BagAt H' b l -> Q (.ref b) H'
theorem atI_some {α : Type} {xs : List α} {i : Int} {v : α} (h0 : 0 <= i) (h : xs[i.toNat]? = some v) : atI xs i = some v := by
 have e : i = ((i.toNat : Nat) : Int) := by omega
 rw [e]
 exact atI_nat h
theorem same_new {H : Hp} {p : Addr} {o : HO} (h : H p = none) : Same H (upd H p o) := fun b u q => by rw [upd_ne (ne_of_none q h)]; exact q
section
variable {nb : Addr -> Prop} {H H' : Hp}
theorem IsDs.length : ∀ {ds : List PyData} {xs : List V}, IsDs nb H ds xs -> xs.length = ds.length
 | [], _, h => by unfold IsDs at h; subst h; rfl
 | d :: ds, _, h => by unfold IsDs at h; obtain ⟨y, ys, rfl, _, h2⟩ := h; simp [IsDs.length h2]
theorem IsDs.get : ∀ {ds : List PyData} {xs : List V} {i : Nat} {d : PyData}, IsDs nb H ds xs -> ds[i]? = some d -> ∃ x, xs[i]? = some x /\ IsD nb H d x
 | [], _, _, _, _, e => by simp at e
 | d :: ds, _, 0, _, h, e => by unfold IsDs at h; obtain ⟨y, ys, rfl, h1, h2⟩ := h; simp at e; subst e; exact ⟨y, rfl, h1⟩
 | d :: ds, _, i + 1, _, h, e => by unfold IsDs at h; obtain ⟨y, ys, rfl, h1, h2⟩ := h; simpa using IsDs.get (i := i) h2 (by simpa using e)
theorem IsDs.snoc {d : PyData} {x : V} (hd : IsD nb H d x) : ∀ {ds : List PyData} {xs : List V}, IsDs nb H ds xs -> IsDs nb H (ds ++ [d]) (xs ++ [x])
 | [], _, h => by unfold IsDs at h; subst h; unfold IsDs; exact ⟨x, [], rfl, hd, by unfold IsDs; rfl⟩
 | e :: ds, _, h => by unfold IsDs at h; obtain ⟨y, ys, rfl, h1, h2⟩ := h; show IsDs nb H (e :: (ds ++ [d])) _; unfold IsDs; exact ⟨y, ys ++ [x], rfl, h1, IsDs.snoc hd h2⟩
theorem IsDs.append : ∀ {ds es : List PyData} {xs ys : List V}, IsDs nb H ds xs -> IsDs nb H es ys -> IsDs nb H (ds ++ es) (xs ++ ys)
 | [], _, _, _, h, h' => by unfold IsDs at h; subst h; exact h'
 | e :: ds, es, _, zs, h, h' => by unfold IsDs at h; obtain ⟨y, ys, rfl, h1, h2⟩ := h; show IsDs nb H (e :: (ds ++ es)) _; unfold IsDs; exact ⟨y, ys ++ zs, rfl, h1, IsDs.append h2 h'⟩
theorem IsDs.take : ∀ {ds : List PyData} {xs : List V} (n : Nat), IsDs nb H ds xs -> IsDs nb H (ds.take n) (xs.take n)
 | _, _, 0, _ => by simp only [List.take_zero]; unfold IsDs; rfl
 | [], _, n + 1, h => by unfold IsDs at h; subst h; simp only [List.take_nil]; unfold IsDs; rfl
 | d :: ds, _, n + 1, h => by unfold IsDs at h; obtain ⟨y, ys, rfl, h1, h2⟩ := h; simp only [List.take_succ_cons]; unfold IsDs; exact ⟨y, _, rfl, h1, IsDs.take n h2⟩
theorem IsDs.drop : ∀ {ds : List PyData} {xs : List V} (n : Nat), IsDs nb H ds xs -> IsDs nb H (ds.drop n) (xs.drop n)
 | _, _, 0, h => h
 | [], _, n + 1, h => by unfold IsDs at h; subst h; simp only [List.drop_nil]; unfold IsDs; rfl
 | d :: ds, _, n + 1, h => by unfold IsDs at h; obtain ⟨y, ys, rfl, h1, h2⟩ := h; simp only [List.drop_succ_cons]; exact IsDs.drop n h2
theorem IsDs.nil : IsDs nb H [] [] := by unfold IsDs; rfl
theorem IsDs.cons {d : PyData} {x : V} {ds : List PyData} {xs : List V} (h1 : IsD nb H d x) (h2 : IsDs nb H ds xs) : IsDs nb H (d :: ds) (x :: xs) := by unfold IsDs; exact ⟨x, xs, rfl, h1, h2⟩
theorem IsD.int (i : Int) : IsD nb H (.int i) (.int i) := by unfold IsD; rfl
theorem IsD.non : IsD nb H .none .non := by unfold IsD; rfl
theorem IsD.bl (b : Bool) : IsD nb H (.bool b) (.bl b) := by unfold IsD; rfl
theorem IsD.lst {a : Addr} {ds : List PyData} {xs : List V} (n : ¬ nb a) (h : H a = some (.lst xs)) (hd : IsDs nb H ds xs) : IsD nb H (.list ds) (.ref a) := by unfold IsD; exact ⟨a, xs, rfl, n, h, hd⟩
theorem IsD.tup {a : Addr} {ds : List PyData} {xs : List V} (n : ¬ nb a) (h : H a = some (.tup xs)) (hd : IsDs nb H ds xs) : IsD nb H (.tuple ds) (.ref a) := by unfold IsD; exact ⟨a, xs, rfl, n, h, hd⟩
theorem IsD.ofL {v : V} {ds : List PyData} (h : IsD nb H (.list ds) v) : ∃ a xs, v = .ref a /\ ¬ nb a /\ H a = some (.lst xs) /\ IsDs nb H ds xs := by unfold IsD at h; exact h
theorem IsD.ofT {v : V} {ds : List PyData} (h : IsD nb H (.tuple ds) v) : ∃ a xs, v = .ref a /\ ¬ nb a /\ H a = some (.tup xs) /\ IsDs nb H ds xs := by unfold IsD at h; exact h
theorem IsD.ofI {v : V} {i : Int} (h : IsD nb H (.int i) v) : v = .int i := by unfold IsD at h; exact h
theorem IsD.ofN {v : V} (h : IsD nb H .none v) : v = .non := by unfold IsD at h; exact h
end
def spWhole : Sp := fun vs H Q _ => ∃ i : Int, vs = [.int i] /\ Q (.bl true) H
def spLaw (K : PySem.W.Frag) : Sp := fun vs H Q _ => ∃ (a : Addr) (ns : List Int), vs = [.ref a] /\ SqL K H a (ns.map V.int) /\ ns.length <= 63 /\ ∀ H', Q (.bl true) H'
end L2
set_option maxRecDepth 100000
set_option maxHeartbeats 1000000
namespace L2
open PySem PySem.Spec PyProof.Rows
def mkL (Q : VK) : List V -> Hp -> Prop := fun xs H1 => xs.length <= sizeLine /\ ∀ p, H1 p = none -> Q (.ref p) (upd H1 p (.lst xs))
def rListOf (K : PySem.W.Frag) : List V -> Hp -> VK -> Prop := fun xs H Q => ∃ p ys, xs = [.ref p] /\ (SqL K H p ys \/ SqT K H p ys) /\ ∀ l, H l = none -> Q (.ref l) (upd H l (.lst ys))
theorem call_listM {X : Cx} : CallR X (.type "list") (rListOf X.K) := call_list_of
def rIs : R2 := fun x y H Q => y = .non /\ Q (.bl (decide (x = .non))) H
def rIsNot : R2 := fun x y H Q => y = .non /\ Q (.bl (!decide (x = .non))) H
theorem op_isM {X : Cx} : OpR X (compareOp .Is) rIs := op_isN
theorem op_notM {X : Cx} : OpR X (compareOp .IsNot) rIsNot := op_notN
def intOf : Expr -> Option Int
 | .Constant (.int i) _ _ => some i
 | _ => none
theorem intOf_eq {e : Expr} {i : Int} (h : intOf e = some i) : ∃ k p, e = .Constant (.int i) k p := by
 unfold intOf at h
 split at h
 ·cases h; exact ⟨_, _, rfl⟩
 ·cases h
def constInts : List Expr -> Option (List Int)
 | [] => some []
 | e :: r => (intOf e).bind fun i => (constInts r).map (i :: ·)
def tInts (is : List Int) : TA := fun _ H Q => Q (is.map V.int) H
theorem pa_consts {X : Cx} : ∀ {es : List Expr} {is : List Int}, constInts es = some is -> PA X es (tInts is) := by
  intro es
  induction es with
  | nil =>
    intro is h
    have e : is = [] := by simpa [constInts] using h.symm
    subst e
    exact pa_nil
  | cons e r ih =>
    intro is h
    unfold constInts at h
    cases hi : intOf e with
    | none => rw [hi] at h; cases h
    | some i =>
      rw [hi] at h
      obtain ⟨k, p, rfl⟩ := intOf_eq hi
      obtain ⟨js, hj, rfl⟩ := zq66x.mp (show (constInts r).map (i :: ·) = some is from h)
      exact pa_cons (te := tC (.int i)) (t := tInts js) pe_int (ih hj)
theorem ps_setInts {X : Cx} {i : Nat} {x : Str} {es : List Expr} {is : List Int} {p1 p2 p3 : Pos} (hN : X.N.Nodup) (hi : X.N[i]? = some x) (hx : Loc X.env.scope x) (h : constInts es = some is) (hf : X.fn x = true \/ X.env.scope.names.lookup x = some .local) :
  PS X (.Assign [.Name x p1] (.List es p2) p3) (tAsg (tLst (tInts is)) (gName i)) := ps_set hN hi hx (pe_lst (pa_consts h)) rfl hf
namespace R
section
variable {σ : St} {H : Hp} {Q : VK} {D : Ends} {ta tb te : TE} {K : PySem.W.Frag}
theorem seq {t u : TS} (h : t { D with nx := u D } σ H) : tSeq t u D σ H := h
theorem asg {g : TG} (h : te σ H fun x H1 => g x σ H1 D.nx) : tAsg te g D σ H := h
theorem ifS {c : TT} {t u : TS} (h : c σ H fun b H1 => if b = true then t D σ H1 else u D σ H1) : tIfS c t u D σ H := h
theorem ret (h : te σ H D.rt) : tRet te D σ H := h
theorem next (h : D.nx σ H) : tNext D σ H := h
theorem var {i : Nat} {v : V} (e : σ[i]? = some (some v)) (h : Q v H) : tVar i σ H Q := ⟨v, e, h⟩
theorem c {v : V} (h : Q v H) : tC v σ H Q := h
theorem op {r : R2} (h : ta σ H fun x H1 => tb σ H1 fun y H2 => r x y H2 Q) : tOp r ta tb σ H Q := h
theorem test {q : Bool -> Hp -> Prop} (h : te σ H fun x H' => ∃ k, x = .bl k /\ q k H') : tTest te σ H q := h
theorem bl {P : Bool -> Prop} {b : Bool} (h : P b) : ∃ k, V.bl b = .bl k /\ P k := ⟨b, rfl, h⟩
theorem and {t u : TT} {q : Bool -> Hp -> Prop} (h : t σ H fun c H1 => if c = true then u σ H1 q else q false H1) : tAnd t u σ H q := h
theorem ifE {t : TT} (h : t σ H fun c H1 => if c = true then ta σ H1 Q else tb σ H1 Q) : tIf t ta tb σ H Q := h
theorem cb {r : List V -> Hp -> VK -> Prop} {t : TA} (h : t σ H fun vs H1 => r vs H1 Q) : tCB r t σ H Q := h
theorem call {sp : Sp} {t : TA} (h : t σ H fun vs H1 => sp (vs ++ []) H1 Q E0) : tCall sp [] E0 t σ H Q := h
theorem cints {is : List Int} {q : List V -> Hp -> Prop} (h : q (is.map V.int) H) : tInts is σ H q := h
theorem nil {q : List V -> Hp -> Prop} (h : q [] H) : tNil σ H q := h
theorem cons {t : TA} {q : List V -> Hp -> Prop} (h : ta σ H fun x H1 => t σ H1 fun xs H2 => q (x :: xs) H2) : tCons ta t σ H q := h
theorem lst {t : TA} (h : t σ H (mkL Q)) : tLst t σ H Q := h
theorem sl {r : V -> Option Int -> Option Int -> Hp -> VK -> Prop} {tl th : TO} (h : te σ H fun x H1 => tl σ H1 fun l H2 => th σ H2 fun u H3 => r x l u H3 Q) : tSl r te tl th σ H Q := h
theorem noPart {q : Option Int -> Hp -> Prop} (h : q none H) : tNoPart σ H q := h
theorem part {q : Option Int -> Hp -> Prop} (h : te σ H fun x H1 => ∃ i, x = .int i /\ q (some i) H1) : tPart te σ H q := h
theorem partI {P : Int -> Prop} {i : Int} (h : P i) : ∃ j, V.int i = .int j /\ P j := ⟨i, rfl, h⟩
theorem gname {i : Nat} {v : V} {q : St -> Hp -> Prop} (h : q (σ.set i (some v)) H) : gName i v σ H q := h
theorem gsub {to ti : TE} {t : TSet} {v : V} {q : St -> Hp -> Prop} (h : to σ H fun o H1 => ti σ H1 fun i H2 => t o i v H2 fun H3 => q σ H3) : gSub to ti t v σ H q := h
theorem noTest {q : Bool -> Hp -> Prop} (h : q true H) : tNoTest σ H q := h
theorem rI0 {g : Int -> Int -> V} {i j : Int} (h : Q (g i j) H) : L2.rI0 g (.int i) (.int j) H Q := ⟨i, j, rfl, rfl, h⟩
theorem rI {C : Int -> Int -> Prop} {g : Int -> Int -> V} {i j : Int} (hc : C i j) (h : Q (g i j) H) : L2.rI C g (.int i) (.int j) H Q := ⟨i, j, rfl, rfl, hc, h⟩
theorem dec_i {i j : Int} : decide (V.int i = V.int j) = decide (i = j) := by rw [zq46x]; simp
theorem eqI {i j : Int} (h : Q (.bl (decide (i = j))) H) : rEq (.int i) (.int j) H Q := ⟨rfl, by rw [dec_i]; exact h⟩
theorem ixM {p : Addr} {xs : List V} {i : Int} {v : V} (hp : H p = some (.lst xs)) (e : atI xs i = some v) (h : Q v H) : rIxL K (.ref p) (.int i) H Q := ⟨p, xs, i, v, rfl, rfl, SqL.of hp, e, h⟩
theorem ixS {p : Addr} {o : HO} {xs : List V} {i : Int} {v : V} (e : atI xs i = some v) (h : Q v (upd H p (.lst xs))) : rIxL K (.ref p) (.int i) (upd H p (.lst xs)) Q := ⟨p, xs, i, v, rfl, rfl, SqL.of upd_same, e, h⟩
theorem setM {p : Addr} {xs : List V} {k : Int} {j : Nat} {v : V} {q : Hp -> Prop} (hp : H p = some (.lst xs)) (e : ixN xs.length k = some j) (h : q (upd H p (.lst (xs.set j v)))) : rSetL (.ref p) (.int k) v H q := ⟨p, xs, k, j, rfl, rfl, hp, e, h⟩
theorem setS {p : Addr} {xs : List V} {k : Int} {j : Nat} {v : V} {q : Hp -> Prop} (e : ixN xs.length k = some j) (h : q (upd H p (.lst (xs.set j v)))) : rSetL (.ref p) (.int k) v (upd H p (.lst xs)) q :=
 ⟨p, xs, k, j, rfl, rfl, upd_same, e, by rw [upd_upd]; exact h⟩
theorem lenM {p : Addr} {xs : List V} {P : List V -> Prop} (hp : H p = some (.lst xs)) (h : P xs) : ∃ a ys, [V.ref p] = [.ref a] /\ (SqL K H a ys \/ SqT K H a ys) /\ P ys := ⟨p, xs, rfl, .inl (SqL.of hp), h⟩
theorem slL {p : Addr} {xs : List V} {lo hi : Option Int} (hp : SqL K H p xs) (h : ∀ a, H a = none -> Q (.ref a) (upd H a (.lst (cutV xs lo hi)))) : rSlL K (.ref p) lo hi H Q := ⟨p, xs, rfl, hp, h⟩
theorem abs1 {a : Int} {P : Int -> Prop} (h : P a) : ∃ i, [V.int a] = [.int i] /\ P i := ⟨a, rfl, h⟩
theorem lstA {xs : List V} (h : xs.length <= 10000) (q : ∀ p H', Same H H' -> H p = none -> H' p = some (.lst xs) -> Q (.ref p) H') : mkL Q xs H :=
 ⟨zq16x h (by decide), fun p hp => q p _ (same_new hp) hp upd_same⟩
theorem catA {l b : Addr} {xs zs : List V} (h1 : H l = some (.lst xs)) (h2 : H b = some (.lst zs)) (hz : xs.length + zs.length <= 10000) (q : ∀ p H', Same H H' -> H p = none -> H' p = some (.lst (xs ++ zs)) -> Q (.ref p) H') : rCat (.ref l) (.ref b) H Q :=
 ⟨l, b, xs, zs, rfl, rfl, h1, h2, zq16x hz (by decide), fun p hp => q p _ (same_new hp) hp upd_same⟩
theorem iteP {c A B : Prop} [Decidable c] (h : c) (q : A) : if c then A else B := by rw [if_pos h]; exact q
theorem iteN {c A B : Prop} [Decidable c] (h : ¬ c) (q : B) : if c then A else B := by rw [if_neg h]; exact q
theorem dT {c : Prop} [Decidable c] (h : c) : decide c = true := decide_eq_true h
theorem dF {c : Prop} [Decidable c] (h : ¬ c) : ¬ decide c = true := by rw [decide_eq_false h]; exact zq7x
theorem dTn {c : Prop} [Decidable c] (h : ¬ c) : (!decide c) = true := by rw [decide_eq_false h]; rfl
theorem dFn {c : Prop} [Decidable c] (h : c) : ¬ (!decide c) = true := by rw [decide_eq_true h]; decide
theorem rng2 {t : TA} {R : It -> Hp -> Prop} (h : t σ H fun vs H1 => ∃ i j : Int, vs = [.int i, .int j] /\ (-(2 ^ 62) <= i /\ i < 2 ^ 62 /\ -(2 ^ 62) <= j /\ j < 2 ^ 62) /\ R (Itr i (j - i).toNat) H1) : iRng2 t σ H R := h
theorem rng2I {P : Int -> Int -> Prop} {a b : Int} (h1 : -(2 ^ 62) <= a /\ a < 2 ^ 62 /\ -(2 ^ 62) <= b /\ b < 2 ^ 62) (h : P a b) : ∃ i j : Int, [V.int a, V.int b] = [.int i, .int j] /\ (-(2 ^ 62) <= i /\ i < 2 ^ 62 /\ -(2 ^ 62) <= j /\ j < 2 ^ 62) /\ P i j := ⟨a, b, rfl, h1, h⟩
theorem iL {tl : TE} {R : It -> Hp -> Prop} (h : tl σ H fun x H1 => ∃ a, x = .ref a /\ (∃ xs, SqL K H1 a xs) /\ R (Itl K a) H1) : iList K tl σ H R := h
theorem iL1 {P : Addr -> Prop} {p : Addr} {xs : List V} (hp : SqL K H p xs) (h : P p) : ∃ a, V.ref p = .ref a /\ (∃ xs, SqL K H a xs) /\ P a := ⟨p, rfl, ⟨xs, hp⟩, h⟩
theorem for_ {wi : TI} {g : TG} {tb : TS} (h : wi σ H fun J H1 => ∃ W : Nat -> Nat -> St -> Hp -> Prop, (∃ m, W 0 m σ H1) /\ ∀ i m σ H, W i m σ H ->
 (J.stop i H /\ D.nx σ H) \/ (J.go i H /\ ∃ N : St -> Hp -> Prop, (∀ σ' H', N σ' H' -> ∃ m', m' < m /\ W (i + 1) m' σ' H') /\ ∀ x H', J.yld i H x H' -> g x σ H' fun σ2 H2 => tb { D with nx := N, ct := N, bk := D.nx } σ2 H2)) : tFor wi g tb D σ H := h
theorem comp {wi : TI} {g : TG} {tc : TT} {mp : List (Option Nat)} (h : wi σ H fun J H1 => ∀ acc, H1 acc = none -> CompW J g tc te acc (fun H' => Q (.ref acc) H') (startC mp σ) (upd H1 acc (.lst []))) : tComp wi g tc te mp σ H Q := h
end
theorem comp_range {lo : Int} {n : Nat} {g : TG} {tc : TT} {te : TE} {acc : Addr} {Qe : Hp -> Prop} {σ : St} {H : Hp} (Pv : Nat -> St -> Hp -> Prop) (h0 : Pv 0 σ H)
  (hs : ∀ i σ H, i < n -> Pv i σ H -> g (.int (lo + i)) σ H fun σ2 H2 => tc σ2 H2 fun b H3 => if b = true then te σ2 H3 fun v H4 => ∃ ys, H4 acc = some (.lst ys) /\ ys.length < sizeLine /\ Pv (i + 1) σ2 (upd H4 acc (.lst (ys ++ [v]))) else Pv (i + 1) σ2 H3)
  (hd : ∀ σ H, Pv n σ H -> Qe H) : CompW (Itr lo n) g tc te acc Qe σ H := by
 refine ⟨fun i m σ H => m = n - i /\ i <= n /\ Pv i σ H, ⟨n, by simp, zq34x _, h0⟩, ?_⟩
 rintro i m σ H ⟨rfl, hi, p⟩
 by_cases hlt : i < n
 ·refine .inr ⟨hlt, Pv (i + 1), fun σ' H' p' => ⟨n - (i + 1), by omega, rfl, hlt, p'⟩, fun x H' y => ?_⟩
  obtain ⟨e, y⟩ := y
  subst e y
  exact hs i σ _ hlt p
 ·have e : i = n := by omega
  subst e
  exact .inl ⟨zq3x _, hd σ H p⟩
theorem comp_list {K : PySem.W.Frag} {a : Addr} {xs : List V} {g : TG} {tc : TT} {te : TE} {acc : Addr} {Qe : Hp -> Prop} {σ : St} {H : Hp} (Pv : Nat -> St -> Hp -> Prop) (h0 : Pv 0 σ H) (hl : ∀ i σ H, i <= xs.length -> Pv i σ H -> SqL K H a xs)
  (hs : ∀ i x σ H, xs[i]? = some x -> Pv i σ H -> g x σ H fun σ2 H2 => tc σ2 H2 fun b H3 => if b = true then te σ2 H3 fun v H4 => ∃ ys, H4 acc = some (.lst ys) /\ ys.length < sizeLine /\ Pv (i + 1) σ2 (upd H4 acc (.lst (ys ++ [v]))) else Pv (i + 1) σ2 H3)
  (hd : ∀ σ H, Pv xs.length σ H -> Qe H) : CompW (Itl K a) g tc te acc Qe σ H := by
 refine ⟨fun i m σ H => m = xs.length - i /\ i <= xs.length /\ Pv i σ H, ⟨xs.length, by simp, zq34x _, h0⟩, ?_⟩
 rintro i m σ H ⟨rfl, hi, p⟩
 have q := hl i σ H hi p
 by_cases hlt : i < xs.length
 ·refine .inr ⟨⟨xs, xs[i], q, by simp [hlt]⟩, Pv (i + 1), fun σ' H' p' => ⟨xs.length - (i + 1), by omega, rfl, hlt, p'⟩, fun x H' y => ?_⟩
  obtain ⟨e, y⟩ := y
  subst e
  exact hs i x σ _ (y xs q) p
 ·have e : i = xs.length := by omega
  subst e
  exact .inl ⟨⟨xs, q, zq3x _⟩, hd σ H p⟩
end R
end L2
set_option maxRecDepth 100000
set_option maxHeartbeats 1000000
namespace L2
open PySem PySem.Spec PyProof.Rows
@[reducible] def pairD (pr : Int × Int) : PyData := .tuple [.int pr.1, .int pr.2]
def optD : Option Int -> PyData
 | none => .none
 | some i => .int i
def termOf (wd : List (Option Int)) (pr : Int × Int) : Int := match wd[pr.1.toNat]? with
 | some (some x) => pr.2 * x
 | _ => 0
def dueSum (prs : List (Int × Int)) (wd : List (Option Int)) : Int := (prs.map (termOf wd)).sum
theorem isD_pair {nb : Addr -> Prop} {H : Hp} {pr : Int × Int} {v : V} (h : IsD nb H (pairD pr) v) : ∃ t, v = .ref t /\ ¬ nb t /\ H t = some (.tup [.int pr.1, .int pr.2]) := by
 obtain ⟨t, xs, rfl, n, ht, hd⟩ := h.ofT
 unfold IsDs at hd
 obtain ⟨y, ys, rfl, h1, h2⟩ := hd
 unfold IsDs at h2
 obtain ⟨z, zs, rfl, h3, h4⟩ := h2
 unfold IsDs at h4
 subst h4
 rw [h1.ofI, h3.ofI] at ht
 exact ⟨t, rfl, n, ht⟩
theorem shaped_pairs (prs : List (Int × Int)) : SeqAt.shaped (.list (prs.map pairD)) = true /\ PyData.depthAll (prs.map pairD) <= 1 /\ PyData.canLayAll0 (prs.map pairD) = true := by
 have h : PyData.depthAll (prs.map pairD) <= 1 /\ PyData.canLayAll0 (prs.map pairD) = true := by
  induction prs with
  | nil => simp [PyData.depthAll, PyData.canLayAll0]
  | cons a r ih => simp [pairD, PyData.depthAll, PyData.depth, PyData.canLayAll0, PyData.canLay0, ih.2]; have := ih.1; omega
 refine ⟨?_, h⟩
 unfold SeqAt.shaped
 simp [PyData.canLay0, PyData.depth, h.2]
 omega
theorem shaped_word (wd : List (Option Int)) : PyData.depthAll (wd.map optD) = 0 /\ PyData.canLayAll0 (wd.map optD) = true := by
 induction wd with
 | nil => simp [PyData.depthAll, PyData.canLayAll0]
 | cons a r ih => cases a <;> simp [optD, PyData.depthAll, PyData.depth, PyData.canLayAll0, PyData.canLay0, ih.2, ih.1]
def NoDiv (r : Int) : Prop := ∀ d : Int, 2 <= d -> d * d <= r -> r % d ≠ 0
def primeList : List Int := [2, 3, 5, 7, 2, 11, 101, 10007, 65537, 1000003, 998244353, 1000000007, 2147483647, 1000000000039, 1000000000000000003, 18446744073709551557, 2305843009213693951, 618970019642690137449562111, 162259276829213363391578010288127, 170141183460469231731687303715884105727, 1000000000000000000000000000000000000003, 9999999999999999999999999999999999999983]
def IsP (p : Int) : Prop := 2 <= p /\ p < 10 ^ 40 /\ (p ∈ primeList \/ NoDiv p)
def spPrimeFrom : Sp := fun vs H Q _ => ∃ n : Int, vs = [.int n] /\ 2 <= n /\ n <= 10002 /\ ∀ (r : Int) (H' : Hp), Same H H' -> 2 <= r -> r <= 10100 -> NoDiv r -> Q (.int r) H'
def spPrime : Sp := fun vs H Q _ => ∃ (b l : Addr), vs = [.ref b] /\ BagAt H b l /\ ∀ (p : Int) (H' : Hp), IsP p -> But (Nb b) H H' -> BagAt H' b l -> Q (.int p) H'
theorem isDs_intsL {nb : Addr -> Prop} {H : Hp} : ∀ is : List Int, IsDs nb H (is.map PyData.int) (is.map V.int)
 | [] => IsDs.nil
 | i :: is => IsDs.cons (.int i) (isDs_intsL is)
theorem isDs_ints_eq {nb : Addr -> Prop} {H : Hp} : ∀ {is : List Int} {xs : List V}, IsDs nb H (is.map PyData.int) xs -> xs = is.map V.int
  | [], _, h => by unfold List.map IsDs at h; exact h
  | i :: is, _, h => by
    rw [zq4x] at h
    unfold IsDs at h
    obtain ⟨y, ys, rfl, h1, h2⟩ := h
    rw [zq4x, h1.ofI, isDs_ints_eq h2]
end L2
set_option maxRecDepth 100000
set_option maxHeartbeats 1000000
namespace L2
open PySem PySem.Spec PyProof.Rows
abbrev Bg := Option (Addr × Addr)
def NB (B : Bg) (a : Addr) : Prop := ∀ b l, B = some (b, l) -> a ≠ b
def BagOk (B : Bg) (H : Hp) : Prop := ∀ b l, B = some (b, l) -> BagAt H b l
def Live (nb : Addr -> Prop) (H : Hp) : Prop := ∀ a, nb a -> H a ≠ none
structure Kp (S : Addr -> Prop) (F : List Addr) (H H' : Hp) : Prop where
 own : ∀ a ∈ F, ∀ o, H a = some o -> H' a = some o
 lst : ∀ a xs, ¬ S a -> H a = some (.lst xs) -> H' a = some (.lst xs)
 tup : ∀ a xs, ¬ S a -> H a = some (.tup xs) -> H' a = some (.tup xs)
 dic : ∀ a ps, ¬ S a -> Rd H a (.dK ps) -> Rd H' a (.dK ps)
theorem Kp.of {S : Addr -> Prop} {F : List Addr} {H H' : Hp} (h : ∀ a o, (¬ S a \/ a ∈ F) -> H a = some o -> H' a = some o) : Kp S F H H' :=
 ⟨fun a ha o e => h a o (.inr ha) e, fun a xs n e => h a _ (.inl n) e, fun a xs n e => h a _ (.inl n) e, fun a ps n e => e.elim (fun e => .inl (h a _ (.inl n) e)) fun ⟨o, e⟩ => .inr ⟨o, h a _ (.inl n) e⟩⟩
structure Cu where
 v : V
 F : List Addr
 f : Bool
 P : (Addr -> Prop) -> Hp -> Prop
 keep : ∀ {S : Addr -> Prop} {H H' : Hp}, Kp S F H H' -> P S H -> P S H'
 av : ∀ {S S' : Addr -> Prop} {H : Hp}, (∀ a, S' a -> S a) -> P S H -> P S' H
 fresh : ∀ {S : Addr -> Prop} {H : Hp} {p : Addr}, H p = none -> P S H -> P (fun a => S a \/ a = p) H
inductive HD where
 | d (x : PyData) | fz (o : Obj) (ps : List (Key × V)) | th (c : Cu)
def IsH (S : Addr -> Prop) (H : Hp) : HD -> V -> Prop
 | .d x, v => IsD S H x v
 | .fz o ps, v => ∃ a, v = .ref a /\ ¬ S a /\ H a = some (.frz o (.dK ps))
 | .th c, v => v = c.v /\ (∀ a ∈ c.F, ¬ S a /\ H a ≠ none) /\ c.P S H
theorem IsH.keep {S : Addr -> Prop} {H H' : Hp} {x : HD} {v : V} (h : IsH S H x v) (b : But S H H') : IsH S H' x v := by
  cases x with
  | d x => exact IsD.keep b h
  | fz o ps => obtain ⟨a, e, n, q⟩ := h; exact ⟨a, e, n, b _ _ n q⟩
  | th c =>
    obtain ⟨e, n, q⟩ := h
    refine ⟨e, fun a m => ⟨(n a m).1, ?_⟩, c.keep (.of fun a o m q => b a o (m.elim id fun m => (n a m).1) q) q⟩
    cases z : H a with
    | none => exact absurd z (n a m).2
    | some o => rw [b a o (n a m).1 z]; exact zq71x _
theorem IsH.av {S S' : Addr -> Prop} {H : Hp} {x : HD} {v : V} (h : IsH S H x v) (b : ∀ a, S' a -> S a) : IsH S' H x v := by
 cases x with
 | d x => exact IsD.av b h
 | fz o ps => obtain ⟨a, e, n, q⟩ := h; exact ⟨a, e, fun z => n (b a z), q⟩
 | th c => obtain ⟨e, n, q⟩ := h; exact ⟨e, fun a m => ⟨fun z => (n a m).1 (b a z), (n a m).2⟩, c.av b q⟩
theorem IsH.fresh {S : Addr -> Prop} {H : Hp} {x : HD} {v : V} {p : Addr} (h : IsH S H x v) (hp : H p = none) : IsH (fun a => S a \/ a = p) H x v := by
 cases x with
 | d x => exact IsD.fresh hp h
 | fz o ps => obtain ⟨a, e, n, q⟩ := h; exact ⟨a, e, fun z => z.elim n (ne_of_none q hp), q⟩
 | th c => obtain ⟨e, n, q⟩ := h; exact ⟨e, fun a m => ⟨fun z => z.elim (n a m).1 fun y => (n a m).2 (by rw [y]; exact hp), (n a m).2⟩, c.fresh hp q⟩
structure Gx where
 B : Bg
 H0 : Hp
 A : Addr -> Prop
 hold : List (Bool × HD × V) := []
inductive Sl where
 | no | d (f : Bool) (d : PyData) | own (a : Addr) (f : Bool) (ds : List PyData) | bag | raw (v : V) | dic (a : Addr) (f : Bool) (ks : List (Int × PyData)) | cu (c : Cu)
def Sl.adr : Sl -> List Addr
 | .own a _ _ => [a]
 | .dic a _ _ => [a]
 | .cu c => c.F
 | _ => []
@[reducible] def kvD (p : Int × PyData) : PyData × PyData := (.int p.1, p.2)
abbrev Rh := List Sl
def Gx.S (G : Gx) (nb : Addr -> Prop) (f : Bool) : Addr -> Prop := fun a => nb a \/ G.A a \/ ¬ NB G.B a \/ (f = true /\ G.H0 a ≠ none)
def SlOk (G : Gx) (nb : Addr -> Prop) (H : Hp) (x : Option V) : Sl -> Prop
 | .no => True
 | .d f d => ∃ v, x = some v /\ IsD (G.S nb f) H d v
 | .own a f ds => x = some (.ref a) /\ nb a /\ NB G.B a /\ ∃ xs, H a = some (.lst xs) /\ IsDs (G.S nb f) H ds xs
 | .bag => ∃ b l, G.B = some (b, l) /\ x = some (.ref b)
 | .raw v => x = some v
 | .dic a f ks => x = some (.ref a) /\ nb a /\ NB G.B a /\ ∃ ps, H a = some (.dK ps) /\ IsKs (G.S nb f) H (ks.map kvD) ps
 | .cu c => x = some c.v /\ (∀ a ∈ c.F, nb a /\ NB G.B a) /\ c.P (G.S nb c.f) H
structure Wd (G : Gx) (nb : Addr -> Prop) (ρ : Rh) (σ : St) (H : Hp) : Prop where
 bag : BagOk G.B H
 live : Live nb H
 old : ∀ a o, NB G.B a -> G.H0 a = some o -> H a = some o
 nbo : ∀ a, nb a -> NB G.B a -> G.H0 a = none
 gA : Live G.A G.H0
 len : σ.length = ρ.length
 gB : BagOk G.B G.H0
 hld : ∀ h ∈ G.hold, IsH (G.S nb h.1) H h.2.1 h.2.2
 ok : ∀ (i : Nat) (s : Sl), ρ[i]? = some s -> ∃ x, σ[i]? = some x /\ SlOk G nb H x s
 apart : ∀ (i j : Nat) a f as c g cs, i ≠ j -> ρ[i]? = some (.own a f as) -> ρ[j]? = some (.own c g cs) -> a ≠ c
 apd : ∀ (i j : Nat) a f as c g cs, i ≠ j -> ρ[i]? = some (.dic a f as) -> ρ[j]? = some (.dic c g cs) -> a ≠ c
 apc : ∀ (i j : Nat) c s, i ≠ j -> ρ[i]? = some (.cu c) -> ρ[j]? = some s -> ∀ a ∈ c.F, a ∉ s.adr
def Step (B : Bg) (H H' : Hp) : Prop := (∀ a o, NB B a -> H a = some o -> H' a = some o) /\ BagOk B H'
section
variable {G : Gx} {B : Bg} {nb : Addr -> Prop} {ρ : Rh} {σ : St} {H H1 H2 H' : Hp} {f g : Bool} {d : PyData} {ds : List PyData} {v : V} {xs : List V} {a p : Addr}
theorem Step.refl (h : BagOk B H) : Step B H H := ⟨fun _ _ _ e => e, h⟩
theorem Step.trans (x : Step B H H1) (y : Step B H1 H2) : Step B H H2 := ⟨fun a o n e => y.1 a o n (x.1 a o n e), y.2⟩
theorem BagOk.same (h : BagOk B H) (s : Same H H') : BagOk B H' := fun b l e => (h b l e).same s
theorem Step.same (h : BagOk B H) (s : Same H H') : Step B H H' := ⟨fun a o _ e => s a o e, h.same s⟩
theorem Step.but {nb' : Addr -> Prop} (s : Step B H H') (h : ∀ a, ¬ NB B a -> nb' a) : But nb' H H' := fun a o n e => s.1 a o (zq54x fun z => n (h a z)) e
theorem Step.butS (s : Step G.B H H') : But (G.S nb f) H H' := s.but fun a h => .inr (.inr (.inl h))
theorem S_mono (h : g = true -> f = true) {nb' : Addr -> Prop} (hn : ∀ a, nb a -> nb' a) : ∀ a, G.S nb g a -> G.S nb' f a := by
 intro a z
 rcases z with z | z | z | ⟨z, q⟩
 ·exact .inl (hn a z)
 ·exact .inr (.inl z)
 ·exact .inr (.inr (.inl z))
 ·exact .inr (.inr (.inr ⟨h z, q⟩))
theorem NB.bag_live (h : BagOk B H) (n : ¬ NB B a) : H a ≠ none := by
 intro e
 apply n
 intro b l hb z
 subst z
 obtain ⟨_, _, _, _, _, h1, _⟩ := h _ _ hb
 rw [h1] at e; cases e
theorem Wd.liveS (W : Wd G nb ρ σ H) : Live (G.S nb f) H := by
 intro a z
 rcases z with z | z | z | ⟨_, z⟩
 ·exact W.live a z
 ·by_cases n : NB G.B a
  ·cases e : G.H0 a with
   | none => exact absurd e (W.gA a z)
   | some o => rw [W.old a o n e]; exact zq71x _
  ·exact NB.bag_live W.bag n
 ·exact NB.bag_live W.bag z
 ·by_cases n : NB G.B a
  ·cases e : G.H0 a with
   | none => exact absurd e z
   | some o => rw [W.old a o n e]; exact zq71x _
  ·exact NB.bag_live W.bag n
theorem Wd.fresh (W : Wd G nb ρ σ H) (hp : H p = none) : ¬ G.S nb f p := fun z => W.liveS p z hp
theorem SlOk.step {x : Option V} {s : Sl} (st : Step G.B H H') (h : SlOk G nb H x s) : SlOk G nb H' x s := by
  cases s with
  | no => trivial
  | d f d => obtain ⟨v, e, h⟩ := h; exact ⟨v, e, h.keep st.butS⟩
  | own a f ds => obtain ⟨e, n, q, xs, hx, hd⟩ := h; exact ⟨e, n, q, xs, st.1 _ _ q hx, hd.keep st.butS⟩
  | bag => exact h
  | raw v => exact h
  | dic a f ks => obtain ⟨e, n, q, xs, hx, hd⟩ := h; exact ⟨e, n, q, xs, st.1 _ _ q hx, hd.keep st.butS⟩
  | cu c =>
    obtain ⟨e, n, p⟩ := h
    refine ⟨e, n, c.keep (.of fun a o ha e => st.1 a o ?_ e) p⟩
    rcases ha with ha | ha
    · exact zq54x fun z => ha (.inr (.inr (.inl z)))
    · exact (n a ha).2
theorem ne_none_keep (n : NB B a) (st : Step B H H') (h : H a ≠ none) : H' a ≠ none := by
 cases e : H a with
 | none => exact absurd e h
 | some o => rw [st.1 a o n e]; exact zq71x _
theorem Wd.step (W : Wd G nb ρ σ H) (st : Step G.B H H') : Wd G nb ρ σ H' where
 bag := st.2
 live := fun a n => by
  by_cases q : NB G.B a
  ·exact ne_none_keep q st (W.live a n)
  ·exact NB.bag_live st.2 q
 old := fun a o n e => st.1 a o n (W.old a o n e)
 nbo := W.nbo
 gA := W.gA
 len := W.len
 gB := W.gB
 hld := fun h m => (W.hld h m).keep st.butS
 ok := fun i s e => by
  obtain ⟨x, e1, h⟩ := W.ok i s e
  exact ⟨x, e1, h.step st⟩
 apart := W.apart
 apd := W.apd
 apc := W.apc
theorem Wd.set {i : Nat} {s : Sl} {x : Option V} (W : Wd G nb ρ σ H) (h : SlOk G nb H x s) (hs : ∀ a f ds, s = .own a f ds -> ∀ j c g cs, j ≠ i -> ρ[j]? = some (.own c g cs) -> a ≠ c) (hd : ∀ a f ds, s = .dic a f ds -> ∀ j c g cs, j ≠ i -> ρ[j]? = some (.dic c g cs) -> a ≠ c := by intro _ _ _ z; cases z) (hcu : ∀ a ∈ s.adr, ∀ j t, j ≠ i -> ρ[j]? = some t -> (∃ c, s = .cu c) \/ (∃ c, t = .cu c) -> a ∉ t.adr := by intro _ z; cases z) : Wd G nb (ρ.set i s) (σ.set i x) H where
 bag := W.bag
 live := W.live
 old := W.old
 nbo := W.nbo
 gA := W.gA
 len := by rw [zq49x, zq49x]; exact W.len
 gB := W.gB
 hld := W.hld
 ok := fun j t e => by
  by_cases hij : i = j
  ·subst hij
   have hl : i < ρ.length := by have := (zq2x.mp e).1; rwa [zq49x] at this
   rw [zq18x hl] at e
   cases e
   exact ⟨x, zq18x (by rw [W.len]; exact hl), h⟩
  ·rw [zq10x hij] at e ⊢
   exact W.ok j t e
 apart := fun j k a f as c g cs hjk e1 e2 => by
  by_cases hj : i = j
  ·subst hj
   have hl : i < ρ.length := by have := (zq2x.mp e1).1; rwa [zq49x] at this
   rw [zq18x hl] at e1
   cases e1
   rw [zq10x hjk] at e2
   exact hs a f as rfl k c g cs (zq11x hjk) e2
  ·by_cases hk : i = k
   ·subst hk
    have hl : i < ρ.length := by have := (zq2x.mp e2).1; rwa [zq49x] at this
    rw [zq18x hl] at e2
    cases e2
    rw [zq10x hj] at e1
    exact (hs c g cs rfl j a f as hjk e1).symm
   ·rw [zq10x hj] at e1
    rw [zq10x hk] at e2
    exact W.apart j k a f as c g cs hjk e1 e2
 apd := fun j k a f as c g cs hjk e1 e2 => by
  by_cases hj : i = j
  ·subst hj
   have hl : i < ρ.length := by have := (zq2x.mp e1).1; rwa [zq49x] at this
   rw [zq18x hl] at e1
   cases e1
   rw [zq10x hjk] at e2
   exact hd a f as rfl k c g cs (zq11x hjk) e2
  ·by_cases hk : i = k
   ·subst hk
    have hl : i < ρ.length := by have := (zq2x.mp e2).1; rwa [zq49x] at this
    rw [zq18x hl] at e2
    cases e2
    rw [zq10x hj] at e1
    exact (hd c g cs rfl j a f as hjk e1).symm
   ·rw [zq10x hj] at e1
    rw [zq10x hk] at e2
    exact W.apd j k a f as c g cs hjk e1 e2
 apc := fun j k c t hjk e1 e2 a ha => by
  by_cases hj : i = j
  ·subst hj
   have hl : i < ρ.length := by have := (zq2x.mp e1).1; rwa [zq49x] at this
   rw [zq18x hl] at e1
   cases e1
   rw [zq10x hjk] at e2
   exact hcu a ha k t (zq11x hjk) e2 (.inl ⟨c, rfl⟩)
  ·by_cases hk : i = k
   ·subst hk
    have hl : i < ρ.length := by have := (zq2x.mp e2).1; rwa [zq49x] at this
    rw [zq18x hl] at e2
    cases e2
    rw [zq10x hj] at e1
    exact fun z => hcu a z j (.cu c) hjk e1 (.inr ⟨c, rfl⟩) ha
   ·rw [zq10x hj] at e1
    rw [zq10x hk] at e2
    exact W.apc j k c t hjk e1 e2 a ha
theorem Wd.setD {i : Nat} (W : Wd G nb ρ σ H) (h : IsD (G.S nb f) H d v) : Wd G nb (ρ.set i (.d f d)) (σ.set i (some v)) H := W.set ⟨v, rfl, h⟩ fun _ _ _ e => by cases e
inductive Wk : Rh -> Rh -> Prop
 | nil : Wk [] []
 | no {s : Sl} {r r' : Rh} (h : Wk r r') : Wk (.no :: r) (s :: r')
 | eq {s : Sl} {r r' : Rh} (h : Wk r r') : Wk (s :: r) (s :: r')
theorem Wk.at : ∀ {r r' : Rh} {i : Nat} {s : Sl}, Wk r r' -> r[i]? = some s -> s = .no /\ (∃ t, r'[i]? = some t) \/ r'[i]? = some s
 | _, _, _, _, .nil, e => by simp at e
 | _, _, 0, _, .no h, e => by simp at e; subst e; exact .inl ⟨rfl, _, rfl⟩
 | _, _, 0, _, .eq h, e => by simp at e; subst e; exact .inr rfl
 | _, _, i + 1, _, .no h, e => by simpa using Wk.at (i := i) h (by simpa using e)
 | _, _, i + 1, _, .eq h, e => by simpa using Wk.at (i := i) h (by simpa using e)
theorem Wk.len {r r' : Rh} (h : Wk r r') : r.length = r'.length := by
 induction h with
 | nil => rfl
 | no _ ih => simp [ih]
 | eq _ ih => simp [ih]
theorem Wd.wk {ρ' : Rh} (W : Wd G nb ρ' σ H) (h : Wk ρ ρ') : Wd G nb ρ σ H where
 bag := W.bag
 live := W.live
 old := W.old
 nbo := W.nbo
 gA := W.gA
 len := by rw [h.len]; exact W.len
 gB := W.gB
 hld := W.hld
 ok := fun i s e => by
  rcases h.at e with ⟨rfl, t, e'⟩ | e'
  ·obtain ⟨x, e1, _⟩ := W.ok i t e'; exact ⟨x, e1, trivial⟩
  ·exact W.ok i s e'
 apart := fun i j a f as c g cs hij e1 e2 => by
  rcases h.at e1 with ⟨z, _⟩ | e1'
  ·cases z
  rcases h.at e2 with ⟨z, _⟩ | e2'
  ·cases z
  exact W.apart i j a f as c g cs hij e1' e2'
 apd := fun i j a f as c g cs hij e1 e2 => by
  rcases h.at e1 with ⟨z, _⟩ | e1'
  ·cases z
  rcases h.at e2 with ⟨z, _⟩ | e2'
  ·cases z
  exact W.apd i j a f as c g cs hij e1' e2'
 apc := fun i j c s hij e1 e2 a ha => by
  rcases h.at e1 with ⟨z, _⟩ | e1'
  ·cases z
  rcases h.at e2 with ⟨z, _⟩ | e2'
  ·subst z; exact fun z => by cases z
  exact W.apc i j c s hij e1' e2' a ha
theorem Wd.more (W : Wd G nb ρ σ H) (hp : H p = none) {o : HO} : Wd G (fun a => nb a \/ a = p) ρ σ (upd H p o) := by
 have hS : Same H (upd H p o) := same_new hp
 have hN : NB G.B p := fun b l e z => by
  subst z
  obtain ⟨_, _, _, _, _, h1, _⟩ := W.bag _ _ e
  rw [h1] at hp; cases hp
 have W' := W.step (Step.same W.bag hS)
 have hA : ∀ f a, G.S (fun a => nb a \/ a = p) f a -> (G.S nb f a \/ a = p) := fun f a z => by
  rcases z with (z | z) | z | z | z
  ·exact .inl (.inl z)
  ·exact .inr z
  ·exact .inl (.inr (.inl z))
  ·exact .inl (.inr (.inr (.inl z)))
  ·exact .inl (.inr (.inr (.inr z)))
 refine ⟨W'.bag, fun a n => ?_, W'.old, fun a n q => ?_, W.gA, W.len, W.gB, fun h m => (((W.hld h m).fresh hp).av (hA h.1)).keep (But.of hS), fun i s e => ?_, W.apart, W.apd, W.apc⟩
 ·rcases n with n | n
  ·exact W'.live a n
  ·subst n; rw [upd_same]; exact zq71x _
 ·rcases n with n | n
  ·exact W.nbo a n q
  ·subst n
   cases e : G.H0 a with
   | none => rfl
   | some o => rw [W.old a o q e] at hp; cases hp
 ·obtain ⟨x, e1, h⟩ := W.ok i s e
  refine ⟨x, e1, ?_⟩
  cases s with
  | no => trivial
  | d f d => obtain ⟨v, e, h⟩ := h; exact ⟨v, e, ((h.fresh hp).av (hA f)).keep (But.of hS)⟩
  | own a f ds => obtain ⟨e, n, q, xs, hx, hd⟩ := h; exact ⟨e, .inl n, q, xs, hS _ _ hx, ((hd.fresh hp).av (hA f)).keep (But.of hS)⟩
  | bag => exact h
  | raw v => exact h
  | dic a f ds => obtain ⟨e, n, q, xs, hx, hd⟩ := h; exact ⟨e, .inl n, q, xs, hS _ _ hx, ((hd.fresh hp).av (hA f)).keep (But.of hS)⟩
  | cu c => obtain ⟨e, n, q⟩ := h; exact ⟨e, fun a ha => ⟨.inl (n a ha).1, (n a ha).2⟩, c.keep (.of fun a o _ e => hS a o e) (c.av (hA c.f) (c.fresh hp q))⟩
theorem Wd.write (W : Wd G nb ρ σ H) {o : HO} (hp : nb p) (hN : NB G.B p) (ho : ∀ (i : Nat) a f ds, ρ[i]? = some (.own a f ds) -> a ≠ p) (hod : ∀ (i : Nat) a f ds, ρ[i]? = some (.dic a f ds) -> a ≠ p) (hoc : ∀ (i : Nat) c, ρ[i]? = some (.cu c) -> p ∉ c.F) : Wd G nb ρ σ (upd H p o) := by
  have hl : ∀ b l, G.B = some (b, l) -> p ≠ l := fun b l e z => by
    obtain ⟨_, _, _, _, _, _, h2, _⟩ := W.gB b l e
    rw [<- z, W.nbo p hp hN] at h2; cases h2
  have hB : BagOk G.B (upd H p o) := fun b l e => (W.bag b l e).put2 ⟨hN b l e, hl b l e⟩
  have bt : ∀ f, But (G.S nb f) H (upd H p o) := fun f => But.set (.inl hp)
  refine ⟨hB, fun a n => ?_, fun a o' n e => ?_, W.nbo, W.gA, W.len, W.gB, fun h m => (W.hld h m).keep (bt h.1), fun i s e => ?_, W.apart, W.apd, W.apc⟩
  · by_cases z : a = p
    · subst z; rw [upd_same]; exact zq71x _
    · rw [upd_ne z]; exact W.live a n
  · have z : a ≠ p := fun z => by subst z; rw [W.nbo a hp n] at e; cases e
    rw [upd_ne z]; exact W.old a o' n e
  · obtain ⟨x, e1, h⟩ := W.ok i s e
    refine ⟨x, e1, ?_⟩
    cases s with
    | no => trivial
    | d f d => obtain ⟨v, e, h⟩ := h; exact ⟨v, e, h.keep (bt f)⟩
    | own a f ds => obtain ⟨e', n, q, xs, hx, hd⟩ := h; exact ⟨e', n, q, xs, by rw [upd_ne (ho i a f ds e)]; exact hx, hd.keep (bt f)⟩
    | bag => exact h
    | raw v => exact h
    | dic a f ds => obtain ⟨e', n, q, xs, hx, hd⟩ := h; exact ⟨e', n, q, xs, by rw [upd_ne (hod i a f ds e)]; exact hx, hd.keep (bt f)⟩
    | cu c =>
      obtain ⟨e', n, q⟩ := h
      refine ⟨e', n, c.keep (.of fun a o' ha e'' => ?_) q⟩
      rw [upd_ne]
      · exact e''
      · rintro rfl
        rcases ha with ha | ha
        · exact ha (.inl hp)
        · exact hoc i c e ha
end
end L2
set_option maxRecDepth 100000
set_option maxHeartbeats 1000000
namespace L2
open PySem PySem.Spec PyProof.Rows
abbrev Pd := Bool -> PyData -> Prop
def Ev (G : Gx) (ρ : Rh) (te : TE) (Φ : Pd) : Prop := ∀ nb σ H (Q : VK), Wd G nb ρ σ H -> (∀ f v H' d, Φ f d -> Step G.B H H' -> IsD (G.S nb f) H' d v -> Q v H') -> te σ H Q
def EvN (G : Gx) (ρ : Rh) (te : TE) (Φ : Bool -> List PyData -> Prop) : Prop := ∀ nb σ H (Q : VK), Wd G nb ρ σ H ->
 (∀ f a xs H' ds, Φ f ds -> Step G.B H H' -> H a = none -> H' a = some (.lst xs) -> IsDs (fun x => G.S nb f x \/ x = a) H' ds xs -> Q (.ref a) H') -> te σ H Q
def Tv (G : Gx) (ρ : Rh) (tt : TT) (Φ : Bool -> Prop) : Prop := ∀ nb σ H (Q : Bool -> Hp -> Prop), Wd G nb ρ σ H -> (∀ b H', Φ b -> Step G.B H H' -> Q b H') -> tt σ H Q
def Ov (G : Gx) (ρ : Rh) (to : TO) (Φ : Option Int -> Prop) : Prop := ∀ nb σ H (Q : Option Int -> Hp -> Prop), Wd G nb ρ σ H -> (∀ o H', Φ o -> Step G.B H H' -> Q o H') -> to σ H Q
abbrev Fd := Bool × PyData
def IsF (G : Gx) (nb : Addr -> Prop) (H : Hp) : List Fd -> List V -> Prop
 | [], vs => vs = []
 | e :: es, vs => ∃ v ws, vs = v :: ws /\ IsD (G.S nb e.1) H e.2 v /\ IsF G nb H es ws
def Av (G : Gx) (ρ : Rh) (ta : TA) (Φ : List Fd -> Prop) : Prop := ∀ nb σ H (Q : List V -> Hp -> Prop), Wd G nb ρ σ H -> (∀ es vs H', Φ es -> Step G.B H H' -> IsF G nb H' es vs -> Q vs H') -> ta σ H Q
def Gv (G : Gx) (ρ : Rh) (g : TG) (f : Bool) (d : PyData) (Φ : Rh -> Prop) : Prop := ∀ nb σ H v (Q : St -> Hp -> Prop), Wd G nb ρ σ H -> IsD (G.S nb f) H d v -> (∀ σ' ρ', Φ ρ' -> Wd G nb ρ' σ' H -> Q σ' H) -> g v σ H Q
def Gvs (G : Gx) (ρ : Rh) (g : TGs) (f : Bool) (ds : List PyData) (Φ : Rh -> Prop) : Prop := ∀ nb σ H vs (Q : St -> Hp -> Prop), Wd G nb ρ σ H -> IsDs (G.S nb f) H ds vs -> (∀ σ' ρ', Φ ρ' -> Wd G nb ρ' σ' H -> Q σ' H) -> g vs σ H Q
structure DE where
 nx : Rh -> Prop
 rt : Pd
 bk : Rh -> Prop := fun _ => False
 ct : Rh -> Prop := fun _ => False
 rw : (Addr -> Prop) -> Rh -> V -> Hp -> Prop := fun _ _ _ _ => False
structure EndsOk (G : Gx) (E : DE) (D : Ends) : Prop where
 nx : ∀ nb ρ σ H, E.nx ρ -> Wd G nb ρ σ H -> D.nx σ H
 bk : ∀ nb ρ σ H, E.bk ρ -> Wd G nb ρ σ H -> D.bk σ H
 ct : ∀ nb ρ σ H, E.ct ρ -> Wd G nb ρ σ H -> D.ct σ H
 rt : ∀ nb ρ σ f v H d, E.rt f d -> Wd G nb ρ σ H -> IsD (G.S (fun _ => False) f) H d v -> D.rt v H
 rw : ∀ nb ρ σ v H, E.rw nb ρ v H -> Wd G nb ρ σ H -> D.rt v H
def Sv (G : Gx) (ρ : Rh) (ts : TS) (E : DE) : Prop := ∀ nb σ H D, Wd G nb ρ σ H -> EndsOk G E D -> ts D σ H
def scB : PyData -> Bool
 | .none => true | .bool _ => true | .int _ => true | .str _ => true | _ => false
def toV : PyData -> V
 | .bool b => .bl b | .int i => .int i | .str x => .str x | _ => .non
section
variable {nb nb' : Addr -> Prop} {H H' : Hp} {d e : PyData} {v : V}
theorem IsD.sc (h : scB d = true) : IsD nb H d (toV d) := by
 cases d <;> first | (cases h; done) | (unfold IsD; rfl)
theorem IsD.scEq (h : scB d = true) (q : IsD nb H d v) : v = toV d := by
 cases d <;> first | (cases h; done) | (unfold IsD at q; exact q)
theorem IsD.scAny (h : scB d = true) (q : IsD nb H d v) : IsD nb' H' d v := by
 rw [q.scEq h]; exact .sc h
theorem IsDs.scAny : ∀ {ds : List PyData} {xs : List V}, ds.all scB = true -> IsDs nb H ds xs -> IsDs nb' H' ds xs
  | [], _, _, q => by unfold IsDs at q ⊢; exact q
  | d :: ds, _, h, q => by
    rw [zq70x, zq19x] at h
    unfold IsDs at q ⊢
    obtain ⟨y, ys, e, h1, h2⟩ := q
    exact ⟨y, ys, e, h1.scAny h.1, IsDs.scAny h.2 h2⟩
end
section
variable {G : Gx} {ρ : Rh} {Φ Ψ : Pd} {ta tb te : TE} {t : TA} {i : Nat} {f g : Bool} {d e : PyData} {ds es : List PyData} {K : PySem.W.Frag}
theorem Ev.mono (h : Ev G ρ te Ψ) (q : ∀ f d, Ψ f d -> Φ f d) : Ev G ρ te Φ := fun nb σ H Q W z => h nb σ H Q W fun f v H' d p => z f v H' d (q f d p)
theorem EvN.ev (h : EvN G ρ te fun f ds => Φ f (.list ds)) : Ev G ρ te Φ := fun nb σ H Q W z => h nb σ H Q W fun f a xs H' ds p st n e hd =>
 z f _ H' _ p st (.lst (W.fresh n) e (hd.av fun _ x => .inl x))
namespace Ev
theorem var (e : ρ[i]? = some (.d f d)) (h : Φ f d) : Ev G ρ (tVar i) Φ := fun nb σ H Q W z => by
 obtain ⟨x, e1, v, rfl, hd⟩ := W.ok i _ e
 exact ⟨v, e1, z f v H d h (.refl W.bag) hd⟩
theorem int {n : Int} (h : Φ true (.int n)) : Ev G ρ (tC (.int n)) Φ := fun nb σ H Q W z => z true _ H _ h (.refl W.bag) (.int n)
theorem bl {b : Bool} (h : Φ true (.bool b)) : Ev G ρ (tC (.bl b)) Φ := fun nb σ H Q W z => z true _ H _ h (.refl W.bag) (.bl b)
theorem non (h : Φ true .none) : Ev G ρ (tC .non) Φ := fun nb σ H Q W z => z true _ H _ h (.refl W.bag) .non
theorem op2 {r : R2} (h : Ev G ρ ta fun f x => Ev G ρ tb fun g y => ∀ nb σ H u v (Q : VK), Wd G nb ρ σ H -> IsD (G.S nb f) H x u -> IsD (G.S nb g) H y v -> (∀ f w H' d, Φ f d -> Step G.B H H' -> IsD (G.S nb f) H' d w -> Q w H') -> r u v H Q) : Ev G ρ (tOp r ta tb) Φ := fun nb σ H Q W z =>
 h nb σ H _ W fun f v1 H1 d1 p1 s1 q1 => p1 nb σ H1 _ (W.step s1) fun g v2 H2 d2 p2 s2 q2 => p2 nb σ H2 _ _ _ ((W.step s1).step s2) (q1.keep s2.butS) q2 fun f w H' d p st q => z f w H' d p (s1.trans (s2.trans st)) q
theorem rI {C : Int -> Int -> Prop} {k : Int -> Int -> Int} (h : Ev G ρ ta fun _ x => ∃ i, x = .int i /\ Ev G ρ tb fun _ y => ∃ j, y = .int j /\ C i j /\ Φ true (.int (k i j))) : Ev G ρ (tOp (L2.rI C fun i j => .int (k i j)) ta tb) Φ :=
 op2 (h.mono fun f x ⟨i, ex, q⟩ => q.mono fun g y ⟨j, ey, hc, p⟩ nb σ H u v Q W hu hv z => by
  subst ex ey; exact ⟨i, j, hu.ofI, hv.ofI, hc, z true _ H _ p (.refl W.bag) (.int _)⟩)
theorem rI0 {k : Int -> Int -> Int} (h : Ev G ρ ta fun _ x => ∃ i, x = .int i /\ Ev G ρ tb fun _ y => ∃ j, y = .int j /\ Φ true (.int (k i j))) : Ev G ρ (tOp (L2.rI0 fun i j => .int (k i j)) ta tb) Φ :=
 op2 (h.mono fun f x ⟨i, ex, q⟩ => q.mono fun g y ⟨j, ey, p⟩ nb σ H u v Q W hu hv z => by
  subst ex ey; exact ⟨i, j, hu.ofI, hv.ofI, z true _ H _ p (.refl W.bag) (.int _)⟩)
theorem rB0 {k : Int -> Int -> Bool} (h : Ev G ρ ta fun _ x => ∃ i, x = .int i /\ Ev G ρ tb fun _ y => ∃ j, y = .int j /\ Φ true (.bool (k i j))) : Ev G ρ (tOp (L2.rI0 fun i j => .bl (k i j)) ta tb) Φ :=
 op2 (h.mono fun f x ⟨i, ex, q⟩ => q.mono fun g y ⟨j, ey, p⟩ nb σ H u v Q W hu hv z => by
  subst ex ey; exact ⟨i, j, hu.ofI, hv.ofI, z true _ H _ p (.refl W.bag) (.bl _)⟩)
theorem un {r : V -> Hp -> VK -> Prop} (h : Ev G ρ ta fun f x => ∀ nb σ H u (Q : VK), Wd G nb ρ σ H -> IsD (G.S nb f) H x u -> (∀ f w H' d, Φ f d -> Step G.B H H' -> IsD (G.S nb f) H' d w -> Q w H') -> r u H Q) : Ev G ρ (tUn r ta) Φ := fun nb σ H Q W z =>
 h nb σ H _ W fun f v1 H1 d1 p1 s1 q1 => p1 nb σ H1 _ _ (W.step s1) q1 fun f w H' d p st q => z f w H' d p (s1.trans st) q
theorem rU {k : Int -> Int} (h : Ev G ρ ta fun _ x => ∃ i, x = .int i /\ Φ true (.int (k i))) : Ev G ρ (tUn (L2.rU fun i => .int (k i)) ta) Φ :=
 un (h.mono fun f x ⟨i, ex, p⟩ nb σ H u Q W hu z => by subst ex; exact ⟨i, hu.ofI, z true _ H _ p (.refl W.bag) (.int _)⟩)
end Ev
inductive EqD : PyData -> PyData -> Bool -> Prop
 | ii (i j : Int) : EqD (.int i) (.int j) (decide (i = j))
 | ni (i : Int) : EqD .none (.int i) false
 | i_n (i : Int) : EqD (.int i) .none false
 | nn : EqD .none .none true
 | bb (a b : Bool) : EqD (.bool a) (.bool b) (a == b)
 | ss (x : Str) : EqD (.str x) (.str x) true
 | sd (x y : Str) : EqD (.str x) (.str y) (decide (x = y))
theorem EqD.v {nb nb' : Addr -> Prop} {H : Hp} {x y : PyData} {b : Bool} {u v : V} (h : EqD x y b) (hu : IsD nb H x u) (hv : IsD nb' H y v) : scal u v = true /\ decide (u = v) = b := by
 cases h <;> (unfold IsD at hu hv; subst hu hv; refine ⟨rfl, ?_⟩)
 ·exact R.dec_i
 ·rfl
 ·rfl
 ·rfl
 ·rename_i a b; cases a <;> cases b <;> rfl
 ·exact decide_eq_true rfl
 ·rename_i x y
  by_cases c : x = y
  ·subst c; rw [decide_eq_true rfl, decide_eq_true rfl]
  ·rw [decide_eq_false c, decide_eq_false (fun z => c (V.str.inj z))]
theorem EqD.self {d : PyData} (h : scB d = true) : EqD d d true := by
 cases d <;> first | (cases h; done) | skip
 ·exact .nn
 ·rename_i b; have := EqD.bb b b; rwa [beq_self_eq_true] at this
 ·rename_i i; have := EqD.ii i i; rwa [decide_eq_true rfl] at this
 ·exact .ss _
namespace Ev
theorem eq (h : Ev G ρ ta fun _ x => Ev G ρ tb fun _ y => ∃ b, EqD x y b /\ Φ true (.bool b)) : Ev G ρ (tOp rEq ta tb) Φ :=
 op2 (h.mono fun f x q => q.mono fun g y ⟨b, e, p⟩ nb σ H u v Q W hu hv z => by
  obtain ⟨h1, h2⟩ := e.v hu hv
  exact ⟨h1, by rw [h2]; exact z true _ H _ p (.refl W.bag) (.bl _)⟩)
theorem ne (h : Ev G ρ ta fun _ x => Ev G ρ tb fun _ y => ∃ b, EqD x y b /\ Φ true (.bool !b)) : Ev G ρ (tOp rNe ta tb) Φ :=
 op2 (h.mono fun f x q => q.mono fun g y ⟨b, e, p⟩ nb σ H u v Q W hu hv z => by
  obtain ⟨h1, h2⟩ := e.v hu hv
  exact ⟨h1, by rw [h2]; exact z true _ H _ p (.refl W.bag) (.bl _)⟩)
theorem eqD {ng : Bool} (h : Ev G ρ ta fun _ x => Ev G ρ tb fun _ y => SeqAt.shaped x = true /\ SeqAt.shaped y = true /\ Φ true (.bool (PyData.eqv x y != ng))) : Ev G ρ (tOp (rEqD ng) ta tb) Φ :=
 op2 (h.mono fun f x q => q.mono fun g y ⟨h1, h2, p⟩ nb σ H u v Q W hu hv z =>
  ⟨G.S nb false, x, y, hu.av (S_mono (fun z => by cases z) fun _ z => z), hv.av (S_mono (fun z => by cases z) fun _ z => z), h1, h2, z true _ H _ p (.refl W.bag) (.bl _)⟩)
end Ev
def isN : PyData -> Bool
 | .none => true
 | _ => false
theorem isN_v {nb : Addr -> Prop} {H : Hp} {d : PyData} {v : V} (h : IsD nb H d v) : decide (v = .non) = isN d := by
 cases d <;> unfold IsD at h
 all_goals first
  | (subst h; rfl)
  | (obtain ⟨a, xs, rfl, _⟩ := h; rfl)
  | exact h.elim
namespace Ev
theorem is (h : Ev G ρ ta fun _ x => Φ true (.bool (isN x))) : Ev G ρ (tOp rIs ta (tC .non)) Φ :=
 op2 (h.mono fun f x p => Ev.non fun nb σ H u v Q W hu hv z => ⟨hv.ofN, by rw [isN_v hu]; exact z true _ H _ p (.refl W.bag) (.bl _)⟩)
theorem isNot (h : Ev G ρ ta fun _ x => Φ true (.bool !isN x)) : Ev G ρ (tOp rIsNot ta (tC .non)) Φ :=
 op2 (h.mono fun f x p => Ev.non fun nb σ H u v Q W hu hv z => ⟨hv.ofN, by rw [isN_v hu]; exact z true _ H _ p (.refl W.bag) (.bl _)⟩)
end Ev
theorem IsDs.atI {nb : Addr -> Prop} {H : Hp} {ds : List PyData} {xs : List V} {k : Int} {e : PyData} (h : IsDs nb H ds xs) (q : L2.atI ds k = some e) : ∃ v, L2.atI xs k = some v /\ IsD nb H e v := by
 unfold L2.atI at q ⊢
 rw [h.length]
 cases z : ixN ds.length k with
 | none => rw [z] at q; cases q
 | some j => rw [z] at q; exact h.get q
namespace Ev
theorem ixL (h : Ev G ρ ta fun f x => ∃ ds, x = .list ds /\ Ev G ρ tb fun _ y => ∃ k, y = .int k /\ ∃ e, atI ds k = some e /\ Φ f e) : Ev G ρ (tOp (rIxL K) ta tb) Φ :=
 op2 (h.mono fun f x ⟨ds, ex, q⟩ => q.mono fun g y ⟨k, ey, e, he, p⟩ nb σ H u v Q W hu hv z => by
  subst ex ey
  obtain ⟨a, xs, rfl, n, hx, hd⟩ := hu.ofL
  obtain ⟨w, hw, hD⟩ := hd.atI he
  exact ⟨a, xs, k, w, rfl, hv.ofI, .of hx, hw, z f _ H _ p (.refl W.bag) hD⟩)
theorem ixT (h : Ev G ρ ta fun f x => ∃ ds, x = .tuple ds /\ Ev G ρ tb fun _ y => ∃ k, y = .int k /\ ∃ e, atI ds k = some e /\ Φ f e) : Ev G ρ (tOp (rIxT K) ta tb) Φ :=
 op2 (h.mono fun f x ⟨ds, ex, q⟩ => q.mono fun g y ⟨k, ey, e, he, p⟩ nb σ H u v Q W hu hv z => by
  subst ex ey
  obtain ⟨a, xs, rfl, n, hx, hd⟩ := hu.ofT
  obtain ⟨w, hw, hD⟩ := hd.atI he
  exact ⟨a, xs, k, w, rfl, hv.ofI, .of hx, hw, z f _ H _ p (.refl W.bag) hD⟩)
theorem ixOwn {a : Addr} (e : ρ[i]? = some (.own a f ds)) (h : Ev G ρ tb fun _ y => ∃ k, y = .int k /\ ∃ e, atI ds k = some e /\ Φ f e) : Ev G ρ (tOp (rIxL K) (tVar i) tb) Φ := fun nb σ H Q W z => by
 obtain ⟨x, e1, h1, h2, h3, xs, hx, hd⟩ := W.ok i _ e
 subst h1
 refine ⟨.ref a, e1, h nb σ H _ W fun g w H1 y ⟨k, ey, e', he, p⟩ s1 hv => ?_⟩
 subst ey
 obtain ⟨u, hu, hD⟩ := (hd.keep s1.butS).atI he
 exact ⟨a, xs, k, u, rfl, hv.ofI, .of (s1.1 _ _ h3 hx), hu, z f _ H1 _ p s1 hD⟩
theorem andV (h : Ev G ρ ta fun _ x => ∃ b, x = .bool b /\ if b = true then Ev G ρ tb Φ else Φ true (.bool false)) : Ev G ρ (tAndV ta tb) Φ := fun nb σ H Q W z =>
 h nb σ H _ W fun f v H1 d ⟨b, e, q⟩ s1 hv => by
  subst e
  refine ⟨b, by unfold IsD at hv; exact hv, ?_⟩
  cases b with
  | true => rw [if_pos rfl] at q ⊢; exact q nb σ H1 _ (W.step s1) fun f v H' d p st => z f v H' d p (s1.trans st)
  | false => rw [if_neg zq7x] at q ⊢; exact z true _ H1 _ q s1 (.bl false)
theorem ifE {c : TT} (h : Tv G ρ c fun b => if b = true then Ev G ρ ta Φ else Ev G ρ tb Φ) : Ev G ρ (tIf c ta tb) Φ := fun nb σ H Q W z =>
 h nb σ H _ W fun b H1 q s1 => by
  cases b with
  | true => rw [if_pos rfl] at q ⊢; exact q nb σ H1 _ (W.step s1) fun f v H' d p st => z f v H' d p (s1.trans st)
  | false => rw [if_neg zq7x] at q ⊢; exact q nb σ H1 _ (W.step s1) fun f v H' d p st => z f v H' d p (s1.trans st)
end Ev
namespace Tv
variable {Θ : Bool -> Prop} {t u : TT}
theorem test (h : Ev G ρ te fun _ x => ∃ b, x = .bool b /\ Θ b) : Tv G ρ (tTest te) Θ := fun nb σ H Q W z =>
 h nb σ H _ W fun f v H1 d ⟨b, e, q⟩ s1 hv => by subst e; exact ⟨b, by unfold IsD at hv; exact hv, z b H1 q s1⟩
theorem and (h : Tv G ρ t fun b => if b = true then Tv G ρ u Θ else Θ false) : Tv G ρ (tAnd t u) Θ := fun nb σ H Q W z =>
 h nb σ H _ W fun b H1 q s1 => by
  cases b with
  | true => rw [if_pos rfl] at q ⊢; exact q nb σ H1 _ (W.step s1) fun b H' p st => z b H' p (s1.trans st)
  | false => rw [if_neg zq7x] at q ⊢; exact z false H1 q s1
theorem or (h : Tv G ρ t fun b => if b = true then Θ true else Tv G ρ u Θ) : Tv G ρ (tOr t u) Θ := fun nb σ H Q W z =>
 h nb σ H _ W fun b H1 q s1 => by
  cases b with
  | false => rw [if_neg zq7x] at q ⊢; exact q nb σ H1 _ (W.step s1) fun b H' p st => z b H' p (s1.trans st)
  | true => rw [if_pos rfl] at q ⊢; exact z true H1 q s1
theorem not (h : Tv G ρ t fun b => Θ (!b)) : Tv G ρ (tNot t) Θ := fun nb σ H Q W z => h nb σ H _ W fun b H1 q s1 => z _ H1 q s1
theorem noTest (h : Θ true) : Tv G ρ tNoTest Θ := fun nb σ H Q W z => z true H h (.refl W.bag)
end Tv
def tTruth (K : PySem.W.Frag) (ta : TE) : TT := fun σ H Q => ta σ H fun x H1 => ∃ k, TruV K x H1 k /\ Q k H1
theorem Tv.truB {Θ : Bool -> Prop} (h : Ev G ρ te fun _ x => ∃ b, x = .bool b /\ Θ b) : Tv G ρ (tTruth K te) Θ := fun nb σ H Q W z =>
 h nb σ H _ W fun f v H1 d ⟨b, e, q⟩ s1 hv => by subst e; exact ⟨b, by unfold IsD at hv; subst hv; rfl, z b H1 q s1⟩
namespace Av
variable {Θ : List Fd -> Prop}
theorem nil (h : Θ []) : Av G ρ tNil Θ := fun nb σ H Q W z => z [] [] H h (.refl W.bag) rfl
theorem cons (h : Ev G ρ te fun f d => Av G ρ t fun es => Θ ((f, d) :: es)) : Av G ρ (tCons te t) Θ := fun nb σ H Q W z =>
 h nb σ H _ W fun f v H1 d p1 s1 q1 => p1 nb σ H1 _ (W.step s1) fun es vs H2 p2 s2 q2 => z _ _ H2 p2 (s1.trans s2) ⟨v, vs, rfl, q1.keep s2.butS, q2⟩
theorem cints {is : List Int} (h : Θ (is.map fun i => (true, .int i))) : Av G ρ (tInts is) Θ := fun nb σ H Q W z => z _ _ H h (.refl W.bag) (by
 clear h
 induction is with
 | nil => rfl
 | cons i r ih => exact ⟨_, _, rfl, .int i, ih⟩)
end Av
def allF (es : List Fd) : Bool := es.all (·.1)
theorem IsF.all {nb : Addr -> Prop} {H : Hp} : ∀ {es : List Fd} {vs : List V} {f : Bool}, IsF G nb H es vs -> (f = true -> allF es = true) -> IsDs (G.S nb f) H (es.map (·.2)) vs
  | [], _, _, h, _ => by unfold IsF at h; subst h; exact .nil
  | e :: es, _, f, h, hf => by
    obtain ⟨v, ws, rfl, h1, h2⟩ := h
    refine .cons (h1.av (S_mono (fun z => ?_) fun _ z => z)) (h2.all fun z => ?_)
    · have := hf z; simp only [allF, zq70x, zq19x] at this; exact this.1
    · have := hf z; simp only [allF, zq70x, zq19x] at this; exact this.2
theorem IsF.len {nb : Addr -> Prop} {H : Hp} {es : List Fd} {vs : List V} (h : IsF G nb H es vs) : vs.length = es.length := by
 have := (h.all (f := false) (fun z => by cases z)).length
 simpa using this
theorem EvN.lst {Φ : Bool -> List PyData -> Prop} (h : Av G ρ t fun es => es.length <= 10000 /\ Φ (allF es) (es.map (·.2))) : EvN G ρ (tLst t) Φ := fun nb σ H Q W z =>
  h nb σ H _ W fun es vs H1 ⟨hl, p⟩ s1 q1 => ⟨zq16x (by rw [q1.len]; exact hl) (by decide), fun a ha => by
    have W1 := W.step s1
    refine z _ a vs _ _ p (s1.trans (.same W1.bag (same_new ha))) ?_ upd_same (((q1.all fun z => z).fresh ha).keep (But.of (same_new ha)))
    cases e : H a with
    | none => rfl
    | some o =>
      by_cases n : NB G.B a
      · rw [s1.1 a o n e] at ha; cases ha
      · exact absurd ha (NB.bag_live s1.2 n)⟩
theorem Ev.lst (h : Av G ρ t fun es => es.length <= 10000 /\ Φ (allF es) (.list (es.map (·.2)))) : Ev G ρ (tLst t) Φ := (EvN.lst (Φ := fun f ds => Φ f (.list ds)) h).ev
end
end L2
set_option maxRecDepth 100000
set_option maxHeartbeats 1000000
namespace L2
open PySem PySem.Spec PyProof.Rows
def rLen (K : PySem.W.Frag) : List V -> Hp -> VK -> Prop := fun xs H Q => ∃ p ys, xs = [.ref p] /\ (SqL K H p ys \/ SqT K H p ys) /\ Q (.int ys.length) H
theorem call_lenM {X : Cx} : CallR X (.builtin "len") (rLen X.K) := call_len_seq
def rMin : List V -> Hp -> VK -> Prop := fun xs H Q => ∃ i j, xs = [.int i, .int j] /\ Q (.int (if j < i then j else i)) H
theorem call_minM {X : Cx} (hc : X.calm = true) : CallR X (.builtin "min") rMin := call_min2 hc
def cutA {α : Type} (xs : List α) (lo hi : Option Int) : List α := (xs.drop (HT.sIx xs.length 0 lo)).take (HT.sIx xs.length xs.length hi - HT.sIx xs.length 0 lo)
theorem IsDs.cut {nb : Addr -> Prop} {H : Hp} {ds : List PyData} {xs : List V} {lo hi : Option Int} (h : IsDs nb H ds xs) : IsDs nb H (cutA ds lo hi) (cutV xs lo hi) := by
 unfold cutA cutV
 rw [h.length]
 exact (h.drop _).take _
def scAll (ds : List PyData) : Bool := ds.all scB
section
variable {G : Gx} {ρ : Rh} {Φ Ψ : Pd} {ta tb te : TE} {t : TA} {i : Nat} {f g : Bool} {d e : PyData} {ds es : List PyData} {K : PySem.W.Frag}
theorem Wd.none_of {nb : Addr -> Prop} {σ : St} {H H1 : Hp} {a : Addr} (W : Wd G nb ρ σ H) (s1 : Step G.B H H1) (ha : H1 a = none) : H a = none := by
  cases e : H a with
  | none => rfl
  | some o =>
    by_cases n : NB G.B a
    · rw [s1.1 a o n e] at ha; cases ha
    · exact absurd ha (NB.bag_live s1.2 n)
theorem EvN.fin {nb : Addr -> Prop} {σ : St} {H H1 : Hp} {Q : VK} {Φ : Bool -> List PyData -> Prop} {a : Addr} {xs : List V} (W : Wd G nb ρ σ H) (s1 : Step G.B H H1) (ha : H1 a = none) (hd : IsDs (G.S nb f) H1 ds xs) (p : Φ (f || scAll ds) ds)
  (z : ∀ f a xs H' ds, Φ f ds -> Step G.B H H' -> H a = none -> H' a = some (.lst xs) -> IsDs (fun x => G.S nb f x \/ x = a) H' ds xs -> Q (.ref a) H') : Q (.ref a) (upd H1 a (.lst xs)) := by
 refine z _ a xs _ ds p (s1.trans (.same s1.2 (same_new ha))) (W.none_of s1 ha) upd_same ?_
 cases hs : scAll ds with
 | true => exact IsDs.scAny hs hd
 | false => rw [zq85x]; exact (hd.fresh ha).keep (But.of (same_new ha))
namespace Ov
variable {Θ : Option Int -> Prop}
theorem none (h : Θ none) : Ov G ρ tNoPart Θ := fun nb σ H Q W z => z _ H h (.refl W.bag)
theorem some (h : Ev G ρ te fun _ x => ∃ k, x = .int k /\ Θ (some k)) : Ov G ρ (tPart te) Θ := fun nb σ H Q W z =>
 h nb σ H _ W fun f v H1 d ⟨k, e, q⟩ s1 hv => by subst e; exact ⟨k, hv.ofI, z _ H1 q s1⟩
end Ov
namespace EvN
variable {Θ : Bool -> List PyData -> Prop}
theorem sl {tl th : TO} (h : Ev G ρ te fun f x => ∃ ds, x = .list ds /\ Ov G ρ tl fun lo => Ov G ρ th fun hi => Θ (f || scAll (cutA ds lo hi)) (cutA ds lo hi)) : EvN G ρ (tSl (rSlL K) te tl th) Θ := fun nb σ H Q W z =>
 h nb σ H _ W fun f v H1 d ⟨ds, e, q⟩ s1 hv => q nb σ H1 _ (W.step s1) fun lo H2 q2 s2 => q2 nb σ H2 _ ((W.step s1).step s2) fun hi H3 q3 s3 => by
  subst e
  obtain ⟨a, xs, rfl, n, hx, hd⟩ := ((hv.keep s2.butS).keep s3.butS).ofL
  exact ⟨a, xs, rfl, .of hx, fun p hp => EvN.fin W (s1.trans (s2.trans s3)) hp hd.cut q3 z⟩
theorem listOf (h : Ev G ρ te fun f x => ∃ ds, (x = .list ds \/ x = .tuple ds) /\ Θ (f || scAll ds) ds) : EvN G ρ (tCB (rListOf K) (tCons te tNil)) Θ := fun nb σ H Q W z =>
 h nb σ H _ W fun f v H1 d ⟨ds, e, q⟩ s1 hv => by
  rcases e with e | e
  ·subst e
   obtain ⟨a, xs, rfl, n, hx, hd⟩ := hv.ofL
   exact ⟨a, xs, rfl, .inl (.of hx), fun p hp => EvN.fin W s1 hp hd q z⟩
  ·subst e
   obtain ⟨a, xs, rfl, n, hx, hd⟩ := hv.ofT
   exact ⟨a, xs, rfl, .inr (.of hx), fun p hp => EvN.fin W s1 hp hd q z⟩
theorem cat (h : Ev G ρ ta fun f x => ∃ ds, x = .list ds /\ Ev G ρ tb fun g y => ∃ es, y = .list es /\ ds.length + es.length <= 10000 /\ Θ ((f && g) || scAll (ds ++ es)) (ds ++ es)) : EvN G ρ (tOp rCat ta tb) Θ := fun nb σ H Q W z =>
 h nb σ H _ W fun f v H1 d ⟨ds, e, q⟩ s1 hv => q nb σ H1 _ (W.step s1) fun g u H2 d2 ⟨es, e2, hl, p⟩ s2 hu => by
  subst e e2
  obtain ⟨a, xs, rfl, n, hx, hd⟩ := (hv.keep s2.butS).ofL
  obtain ⟨c, ys, rfl, m, hy, hc⟩ := hu.ofL
  refine ⟨a, c, xs, ys, rfl, rfl, hx, hy, zq16x (by rw [hd.length, hc.length]; exact hl) (by decide), fun p' hp => EvN.fin (f := f && g) W (s1.trans s2) hp ?_ p z⟩
  exact IsDs.append (hd.av (S_mono (fun z => (zq19x _ _ ▸ z).1) fun _ z => z)) (hc.av (S_mono (fun z => (zq19x _ _ ▸ z).2) fun _ z => z))
end EvN
namespace Ev
theorem sl {tl th : TO} (h : Ev G ρ te fun f x => ∃ ds, x = .list ds /\ Ov G ρ tl fun lo => Ov G ρ th fun hi => Φ (f || scAll (cutA ds lo hi)) (.list (cutA ds lo hi))) : Ev G ρ (tSl (rSlL K) te tl th) Φ := (EvN.sl (Θ := fun f ds => Φ f (.list ds)) h).ev
theorem listOf (h : Ev G ρ te fun f x => ∃ ds, (x = .list ds \/ x = .tuple ds) /\ Φ (f || scAll ds) (.list ds)) : Ev G ρ (tCB (rListOf K) (tCons te tNil)) Φ := (EvN.listOf (Θ := fun f ds => Φ f (.list ds)) h).ev
theorem cat (h : Ev G ρ ta fun f x => ∃ ds, x = .list ds /\ Ev G ρ tb fun g y => ∃ es, y = .list es /\ ds.length + es.length <= 10000 /\ Φ ((f && g) || scAll (ds ++ es)) (.list (ds ++ es))) : Ev G ρ (tOp rCat ta tb) Φ := (EvN.cat (Θ := fun f ds => Φ f (.list ds)) h).ev
theorem lenOwn {a : Addr} (e : ρ[i]? = some (.own a f ds)) (h : Φ true (.int ds.length)) : Ev G ρ (tCB (rLen K) (tCons (tVar i) tNil)) Φ := fun nb σ H Q W z => by
 obtain ⟨x, e1, h1, h2, h3, xs, hx, hd⟩ := W.ok i _ e
 subst h1
 exact ⟨.ref a, e1, a, xs, rfl, .inl (.of hx), by rw [hd.length]; exact z true _ H _ h (.refl W.bag) (.int _)⟩
theorem min2 (h : Ev G ρ ta fun _ x => ∃ i, x = .int i /\ Ev G ρ tb fun _ y => ∃ j, y = .int j /\ Φ true (.int (if j < i then j else i))) : Ev G ρ (tCB rMin (tCons ta (tCons tb tNil))) Φ := fun nb σ H Q W z =>
 h nb σ H _ W fun f v H1 d ⟨i, e, q⟩ s1 hv => q nb σ H1 _ (W.step s1) fun g u H2 d2 ⟨j, e2, p⟩ s2 hu => by
  subst e e2
  exact ⟨i, j, by rw [hv.ofI, hu.ofI], z true _ H2 _ p (s1.trans s2) (.int _)⟩
end Ev
abbrev DF := List PyData -> Pd -> Prop
def spD (n : Nat) (F : DF) : Sp := fun vs H Q _ => vs.length = n /\ ∃ (nb : Addr -> Prop) (ds : List PyData), Live nb H /\ IsDs nb H ds vs /\ F ds fun f d => ∀ v H', Same H H' -> IsD (fun a => nb a \/ (f = true /\ H a ≠ none)) H' d v -> Q v H'
def spB (n : Nat) (F : DF) : Sp := fun vs H Q _ => vs.length = n /\ ∃ (b l : Addr) (ws : List V) (nb : Addr -> Prop) (ds : List PyData), vs = .ref b :: ws /\ BagAt H b l /\ Live nb H /\ nb b /\ IsDs nb H ds ws /\
 F ds fun f d => ∀ v H', But (Nb b) H H' -> BagAt H' b l -> IsD (fun a => nb a \/ (f = true /\ H a ≠ none)) H' d v -> Q v H'
def MonoF (F : DF) : Prop := ∀ ds (Φ Ψ : Pd), F ds Φ -> (∀ f d, Φ f d -> Ψ f d) -> F ds Ψ
theorem Ev.callD {n : Nat} {F : DF} (hm : MonoF F) (h : Av G ρ t fun es => es.length = n /\ F (es.map (·.2)) fun f d => Φ (f || allF es) d) : Ev G ρ (tCall (spD n F) [] E0 t) Φ := fun nb σ H Q W z =>
 h nb σ H _ W fun es vs H1 ⟨hl, p⟩ s1 q1 => by
  have W1 := W.step s1
  rw [zq39x]
  refine ⟨by rw [q1.len, hl], G.S nb (allF es), es.map (·.2), W1.liveS, q1.all fun z => z, hm _ _ _ p fun f d hp v H' sm hd => z _ v H' d hp (s1.trans (.same W1.bag sm)) (hd.av fun a q => ?_)⟩
  cases f with
  | false => rw [zq98x] at q; exact .inl q
  | true => exact .inr ⟨rfl, W1.liveS a q⟩
theorem Step.ofBut {b l : Addr} {H H' : Hp} (hB : G.B = some (b, l)) (bt : But (Nb b) H H') (B' : BagAt H' b l) : Step G.B H H' :=
 ⟨fun a o n e => bt a o (n b l hB) e, fun b' l' e => by rw [hB] at e; cases e; exact B'⟩
theorem Wd.theBag {nb : Addr -> Prop} {σ : St} {H : Hp} (W : Wd G nb ρ σ H) (e : ρ[i]? = some .bag) : ∃ b l, G.B = some (b, l) /\ σ[i]? = some (some (.ref b)) /\ BagAt H b l := by
 obtain ⟨x, e1, b, l, hB, rfl⟩ := W.ok i _ e
 exact ⟨b, l, hB, e1, W.bag b l hB⟩
theorem Ev.callB {n : Nat} {F : DF} (hm : MonoF F) (e : ρ[i]? = some .bag) (h : Av G ρ t fun es => es.length + 1 = n /\ F (es.map (·.2)) fun f d => Φ (f || allF es) d) : Ev G ρ (tCall (spB n F) [] E0 (tCons (tVar i) t)) Φ := fun nb σ H Q W z => by
 obtain ⟨b, l, hB, e1, B⟩ := W.theBag e
 refine ⟨.ref b, e1, h nb σ H _ W fun es vs H1 ⟨hl, p⟩ s1 q1 => ?_⟩
 have W1 := W.step s1
 show spB n F ((V.ref b :: vs) ++ []) H1 Q E0
 rw [zq39x]
 have hb : ∀ f, G.S nb f b := fun f => .inr (.inr (.inl fun n => n b l hB rfl))
 refine ⟨by rw [zq36x, q1.len, hl], b, l, vs, G.S nb (allF es), es.map (·.2), rfl, W1.bag b l hB, W1.liveS, hb _, q1.all fun z => z, hm _ _ _ p fun f d hp v H' bt B' hd => z _ v H' d hp (s1.trans (.ofBut hB bt B')) (hd.av fun a q => ?_)⟩
 cases f with
 | false => rw [zq98x] at q; exact .inl q
 | true => exact .inr ⟨rfl, W1.liveS a q⟩
theorem Ev.draw (e : ρ[i]? = some .bag) (h : Ev G ρ te fun _ x => ∃ m : Int, x = .int m /\ 0 < m /\ Sm m /\ ∀ r : Int, 0 <= r -> r < m -> Φ true (.int r)) : Ev G ρ (tCall spDraw [] E0 (tCons (tVar i) (tCons te tNil))) Φ := fun nb σ H Q W z => by
 obtain ⟨b, l, hB, e1, B⟩ := W.theBag e
 refine ⟨.ref b, e1, h nb σ H _ W fun f v H1 d ⟨m, ed, h1, h2, p⟩ s1 hv => ?_⟩
 subst ed
 exact ⟨b, l, m, by rw [hv.ofI]; rfl, s1.2 b l hB, h1, h2, fun r H' r1 r2 bt B' => z true _ H' _ (p r r1 r2) (s1.trans (.ofBut hB bt B')) (.int r)⟩
theorem Ev.prime (e : ρ[i]? = some .bag) (h : ∀ p : Int, IsP p -> Φ true (.int p)) : Ev G ρ (tCall spPrime [] E0 (tCons (tVar i) tNil)) Φ := fun nb σ H Q W z => by
 obtain ⟨b, l, hB, e1, B⟩ := W.theBag e
 exact ⟨.ref b, e1, b, l, rfl, B, fun p H' hp bt B' => z true _ H' _ (h p hp) (.ofBut hB bt B') (.int p)⟩
theorem Ev.whole (h : Ev G ρ te fun _ x => ∃ n, x = .int n /\ Φ true (.bool true)) : Ev G ρ (tCall spWhole [] E0 (tCons te tNil)) Φ := fun nb σ H Q W z =>
 h nb σ H _ W fun f v H1 d ⟨n, e, q⟩ s1 hv => by subst e; exact ⟨n, by rw [hv.ofI]; rfl, z true _ H1 _ q s1 (.bl _)⟩
namespace Gv
variable {Θ : Rh -> Prop}
theorem name (h : Θ (ρ.set i (.d f d))) : Gv G ρ (gName i) f d Θ := fun nb σ H v Q W hv z => z _ _ h (W.setD hv)
theorem nameT (h : Θ (ρ.set i (.d true d))) : Gv G ρ (gName i) true d Θ := name h
theorem nameF (h : Θ (ρ.set i (.d false d))) : Gv G ρ (gName i) f d Θ := fun nb σ H v Q W hv z => z _ _ h (W.setD (hv.av (S_mono (fun z => by cases z) fun _ z => z)))
theorem nameS (hs : scB d = true) (h : Θ (ρ.set i (.d true d))) : Gv G ρ (gName i) f d Θ := fun nb σ H v Q W hv z => z _ _ h (W.setD (hv.scAny hs))
theorem nameI {n : Int} (h : Θ (ρ.set i (.d true (.int n)))) : Gv G ρ (gName i) f (.int n) Θ := nameS rfl h
theorem tup {n : Nat} {u : TGs} (hl : ds.length = n) (h : Gvs G ρ u f ds Θ) : Gv G ρ (gTup K n u) f (.tuple ds) Θ := fun nb σ H v Q W hv z => by
 obtain ⟨a, xs, rfl, m, hx, hd⟩ := hv.ofT
 exact ⟨a, xs, rfl, .of hx, by rw [hd.length]; exact hl, h nb σ H xs Q W hd z⟩
theorem snil (h : Θ ρ) : Gvs G ρ gNil f [] Θ := fun nb σ H vs Q W hv z => by unfold IsDs at hv; exact ⟨hv, z _ _ h W⟩
theorem scons {u : TG} {us : TGs} (h : Gv G ρ u f d fun ρ1 => Gvs G ρ1 us f ds Θ) : Gvs G ρ (gCons u us) f (d :: ds) Θ := fun nb σ H vs Q W hv z => by
 unfold IsDs at hv
 obtain ⟨y, ys, rfl, h1, h2⟩ := hv
 exact ⟨y, ys, rfl, h nb σ H y _ W h1 fun σ' ρ' q W' => q nb σ' H ys Q W' h2 z⟩
end Gv
namespace Sv
variable {E : DE} {s u : TS}
theorem seq (h : Sv G ρ s { E with nx := fun ρ1 => Sv G ρ1 u E }) : Sv G ρ (tSeq s u) E := fun nb σ H D W K => h nb σ H _ W ⟨fun nb' ρ' σ' H' q W' => q nb' σ' H' D W' K, K.bk, K.ct, K.rt, K.rw⟩
theorem next (h : E.nx ρ) : Sv G ρ tNext E := fun nb σ H D W K => K.nx nb ρ σ H h W
theorem brk (h : E.bk ρ) : Sv G ρ tBreak E := fun nb σ H D W K => K.bk nb ρ σ H h W
theorem cont (h : E.ct ρ) : Sv G ρ tCont E := fun nb σ H D W K => K.ct nb ρ σ H h W
theorem asg {g : TG} (h : Ev G ρ te fun f d => Gv G ρ g f d E.nx) : Sv G ρ (tAsg te g) E := fun nb σ H D W K => h nb σ H _ W fun f v H1 d q s1 hv => q nb σ H1 v _ (W.step s1) hv fun σ' ρ' p W' => K.nx nb ρ' σ' H1 p W'
theorem setCF (h : Ev G ρ te fun _ d => E.nx (ρ.set i (.d false d))) : Sv G ρ (tSetC i te) E := fun nb σ H D W K => h nb σ H _ W fun f v H1 d q s1 hv => K.nx nb _ _ H1 q ((W.step s1).setD (hv.av (S_mono (fun z => by cases z) fun _ z => z)))
theorem ret (h : Ev G ρ te E.rt) : Sv G ρ (tRet te) E := fun nb σ H D W K => h nb σ H _ W fun f v H1 d q s1 hv => K.rt nb ρ σ f v H1 d q (W.step s1) (hv.av (S_mono (fun z => z) fun _ z => z.elim))
theorem ifS {c : TT} (h : Tv G ρ c fun b => if b = true then Sv G ρ s E else Sv G ρ u E) : Sv G ρ (tIfS c s u) E := fun nb σ H D W K => h nb σ H _ W fun b H1 q s1 => by
 cases b with
 | true => rw [if_pos rfl] at q ⊢; exact q nb σ H1 D (W.step s1) K
 | false => rw [if_neg zq7x] at q ⊢; exact q nb σ H1 D (W.step s1) K
theorem own_of {nb : Addr -> Prop} {σ : St} {H H1 : Hp} {a : Addr} {xs : List V} (W : Wd G nb ρ σ H) (s1 : Step G.B H H1) (ha : H a = none) (e : H1 a = some (.lst xs)) (hd : IsDs (fun x => G.S nb f x \/ x = a) H1 ds xs) :
    Wd G (fun x => nb x \/ x = a) (ρ.set i (.own a f ds)) (σ.set i (some (.ref a))) H1 := by
  have hN : NB G.B a := fun b l e z => by
    subst z
    obtain ⟨_, _, _, _, _, h1, _⟩ := W.bag _ _ e
    rw [h1] at ha; cases ha
  have hA : ∀ f x, G.S (fun x => nb x \/ x = a) f x -> (G.S nb f x \/ x = a) := fun f x z => by
    rcases z with (z | z) | z | z | z
    · exact .inl (.inl z)
    · exact .inr z
    · exact .inl (.inr (.inl z))
    · exact .inl (.inr (.inr (.inl z)))
    · exact .inl (.inr (.inr (.inr z)))
  have W1 := W.step s1
  have W2 : Wd G (fun x => nb x \/ x = a) ρ σ H1 := by
    refine ⟨W1.bag, fun x n => ?_, W1.old, fun x n q => ?_, W.gA, W.len, W.gB, fun h m => (((W.hld h m).fresh ha).keep (s1.but fun x z => .inl (.inr (.inr (.inl z))))).av (hA h.1), fun j s e' => ?_, W.apart, W.apd, W.apc⟩
    · rcases n with n | n
      · exact W1.live x n
      · subst n; rw [e]; exact zq71x _
    · rcases n with n | n
      · exact W.nbo x n q
      · subst n
        cases z : G.H0 x with
        | none => rfl
        | some o => rw [W.old x o q z] at ha; cases ha
    · obtain ⟨x, e1, h⟩ := W.ok j s e'
      refine ⟨x, e1, ?_⟩
      cases s with
      | no => trivial
      | d f d => obtain ⟨v, e, h⟩ := h; exact ⟨v, e, ((h.fresh ha).keep (s1.but fun x z => .inl (.inr (.inr (.inl z))))).av (hA f)⟩
      | own c f es => obtain ⟨e, n, q, xs, hx, hd⟩ := h; exact ⟨e, .inl n, q, xs, s1.1 _ _ q hx, ((hd.fresh ha).keep (s1.but fun x z => .inl (.inr (.inr (.inl z))))).av (hA f)⟩
      | bag => exact h
      | raw v => exact h
      | dic c f es => obtain ⟨e, n, q, xs, hx, hd⟩ := h; exact ⟨e, .inl n, q, xs, s1.1 _ _ q hx, ((hd.fresh ha).keep (s1.but fun x z => .inl (.inr (.inr (.inl z))))).av (hA f)⟩
      | cu c =>
        obtain ⟨e, n, q⟩ := h
        refine ⟨e, fun a ha => ⟨.inl (n a ha).1, (n a ha).2⟩, c.av (hA c.f) (c.keep (.of fun x o hx e => s1.1 x o ?_ e) (c.fresh ha q))⟩
        rcases hx with hx | hx
        · exact zq54x fun z => hx (.inl (.inr (.inr (.inl z))))
        · exact (n x hx).2
  refine W2.set ⟨rfl, .inr rfl, hN, xs, e, hd.av (hA f)⟩ ?_ (fun _ _ _ z => by cases z) (fun x hx j t hj ht hc => ?_)
  rotate_left
  · have hx : x = a := zq12x.mp hx
    subst hx
    rcases hc with ⟨c, z⟩ | ⟨c, rfl⟩
    · cases z
    · exact fun z => W.live x ((W.ok j _ ht).choose_spec.2.2.1 x z).1 ha
  rintro a' f' ds' ⟨rfl, rfl, rfl⟩ j c g cs hj hc z
  subst z
  obtain ⟨x, e1, h1, h2, h3, ys, hy, _⟩ := W.ok j _ hc
  rw [hy] at ha; cases ha
theorem asgN (h : EvN G ρ te fun f ds => ∀ a, E.nx (ρ.set i (.own a f ds))) : Sv G ρ (tAsg te (gName i)) E := fun nb σ H D W K => h nb σ H _ W fun f a xs H1 ds q s1 ha e hd => K.nx _ _ _ H1 (q a) (own_of W s1 ha e hd)
theorem setCN (h : EvN G ρ te fun f ds => ∀ a, E.nx (ρ.set i (.own a f ds))) : Sv G ρ (tSetC i te) E := fun nb σ H D W K => h nb σ H _ W fun f a xs H1 ds q s1 ha e hd => K.nx _ _ _ H1 (q a) (own_of W s1 ha e hd)
theorem writeOwn {nb : Addr -> Prop} {σ : St} {H : Hp} {a : Addr} {xs : List V} (W : Wd G nb ρ σ H) (e : ρ[i]? = some (.own a f ds)) (hd : IsDs (G.S nb g) H es xs) : Wd G nb (ρ.set i (.own a g es)) σ (upd H a (.lst xs)) := by
  obtain ⟨x, e1, h1, h2, h3, ys, hy, _⟩ := W.ok i _ e
  subst h1
  have hil : i < ρ.length := (zq2x.mp e).1
  have W0 : Wd G nb (ρ.set i .no) (σ.set i (some (.ref a))) H := W.set trivial fun _ _ _ z => by cases z
  have W1 : Wd G nb (ρ.set i .no) (σ.set i (some (.ref a))) (upd H a (.lst xs)) := W0.write h2 h3 (fun j c f' cs hc => by
    by_cases hij : i = j
    · subst hij; rw [zq18x hil] at hc; cases hc
    · rw [zq10x hij] at hc
      exact (W.apart i j _ _ _ _ _ _ hij e hc).symm
   ) (fun j c f' cs hc z => by
      subst z
      have hij : i ≠ j := fun z => by subst z; rw [zq18x hil] at hc; cases hc
      rw [zq10x hij] at hc
      obtain ⟨_, _, _, _, _, ps, hp, _⟩ := W.ok j _ hc
      rw [hy] at hp; cases hp) (fun j c hc z => by
      have hij : i ≠ j := fun z => by subst z; rw [zq18x hil] at hc; cases hc
      rw [zq10x hij] at hc
      exact W.apc j i c _ (zq11x hij) hc e a z (zq12x.mpr rfl))
  have W2 := W1.set (i := i) (s := .own a g es) (x := some (.ref a)) ⟨rfl, h2, h3, xs, upd_same, hd.keep (But.set (.inl h2))⟩ (by
    rintro a' f' ds' ⟨rfl, rfl, rfl⟩ j c g' cs hj hc
    rw [zq10x (zq11x hj)] at hc
    exact W.apart i j _ _ _ _ _ _ (zq11x hj) e hc) (fun _ _ _ z => by cases z) (fun x hx j t hj ht hc z => by
    rw [zq10x (zq11x hj)] at ht
    have hx : x = a := zq12x.mp hx
    subst hx
    rcases hc with ⟨c, q⟩ | ⟨c, rfl⟩
    · cases q
    · exact W.apc j i c _ hj ht e x z (zq12x.mpr rfl))
  rw [zq72x, zq72x] at W2
  have : σ.set i (some (.ref a)) = σ := by
    apply zq86x
    intro j
    by_cases hij : i = j
    · subst hij; rw [zq18x (by rw [W.len]; exact hil), e1]
    · rw [zq10x hij]
  rwa [this] at W2
theorem append {a : Addr} (e : ρ[i]? = some (.own a f ds)) (h : Ev G ρ te fun g d => ds.length < 10000 /\ E.nx (ρ.set i (.own a (f && g) (ds ++ [d])))) : Sv G ρ (tDrop (tBM K "list" rAppend (tVar i) (tCons te tNil))) E := fun nb σ H D W KK => by
 obtain ⟨x, e1, h1, h2, h3, xs, hx, hd⟩ := W.ok i _ e
 subst h1
 refine ⟨.ref a, e1, .inl ⟨rfl, _, SqL.of hx⟩, h nb σ H _ W fun g v H1 d ⟨hl, q⟩ s1 hv => ?_⟩
 have W1 := W.step s1
 have hx1 := s1.1 _ _ h3 hx
 refine ⟨a, xs, v, rfl, rfl, hx1, zq28x (by rw [hd.length]; exact hl) (by decide), KK.nx nb _ _ _ q (writeOwn W1 e ?_)⟩
 exact IsDs.snoc (hv.av (S_mono (fun z => (zq19x _ _ ▸ z).2) fun _ z => z)) ((hd.keep s1.butS).av (S_mono (fun z => (zq19x _ _ ▸ z).1) fun _ z => z))
theorem IsDs.set' {nb : Addr -> Prop} {H : Hp} {x : V} (hd : IsD nb H d x) : ∀ {ds : List PyData} {xs : List V} (j : Nat), IsDs nb H ds xs -> IsDs nb H (ds.set j d) (xs.set j x)
 | [], _, j, h => by unfold IsDs at h; subst h; exact .nil
 | e :: ds, _, 0, h => by unfold IsDs at h; obtain ⟨y, ys, rfl, h1, h2⟩ := h; exact .cons hd h2
 | e :: ds, _, j + 1, h => by unfold IsDs at h; obtain ⟨y, ys, rfl, h1, h2⟩ := h; exact .cons h1 (IsDs.set' hd j h2)
theorem share {nb : Addr -> Prop} {σ : St} {H : Hp} {a : Addr} (W : Wd G nb ρ σ H) (e : ρ[i]? = some (.own a f ds)) : Wd G (fun x => nb x /\ x ≠ a) (ρ.set i (.d f (.list ds))) σ H := by
  obtain ⟨x, e1, h1, h2, h3, xs, hx, hd⟩ := W.ok i _ e
  subst h1
  have hil : i < ρ.length := (zq2x.mp e).1
  have W0 : Wd G nb (ρ.set i .no) (σ.set i (some (.ref a))) H := W.set trivial fun _ _ _ z => by cases z
  have W1 : Wd G (fun x => nb x /\ x ≠ a) (ρ.set i .no) (σ.set i (some (.ref a))) H := by
    refine ⟨W0.bag, fun x n => W0.live x n.1, W0.old, fun x n => W0.nbo x n.1, W0.gA, W0.len, W0.gB, fun h m => (W0.hld h m).av (S_mono (fun z => z) fun _ z => z.1), fun j s e' => ?_, W0.apart, W0.apd, W0.apc⟩
    obtain ⟨x, e1', h⟩ := W0.ok j s e'
    refine ⟨x, e1', ?_⟩
    have hij : s ≠ .no -> i ≠ j := fun n z => by subst z; rw [zq18x hil] at e'; cases e'; exact n rfl
    cases s with
    | no => trivial
    | d f d => obtain ⟨v, e, h⟩ := h; exact ⟨v, e, h.av (S_mono (fun z => z) fun _ z => z.1)⟩
    | own c f es =>
      obtain ⟨e2, n, q, xs, hx, hd⟩ := h
      have hij := hij (by intro z; cases z)
      rw [zq10x hij] at e'
      exact ⟨e2, ⟨n, (W.apart i j _ _ _ _ _ _ hij e e').symm⟩, q, xs, hx, hd.av (S_mono (fun z => z) fun _ z => z.1)⟩
    | bag => exact h
    | raw v => exact h
    | dic c f es =>
      obtain ⟨e2, n, q, ps, hp, hd⟩ := h
      have hca : c ≠ a := fun z => by subst z; rw [hx] at hp; cases hp
      exact ⟨e2, ⟨n, hca⟩, q, ps, hp, hd.av (S_mono (fun z => z) fun _ z => z.1)⟩
    | cu c =>
      obtain ⟨e2, n, q⟩ := h
      have hij := hij (by intro z; cases z)
      rw [zq10x hij] at e'
      exact ⟨e2, fun x hx => ⟨⟨(n x hx).1, fun z => W.apc j i c _ (zq11x hij) e' e x hx (by rw [z]; exact zq12x.mpr rfl)⟩, (n x hx).2⟩, c.av (S_mono (fun z => z) fun _ z => z.1) q⟩
  have W2 := W1.setD (i := i) (f := f) (d := .list ds) (v := .ref a) (.lst (fun z => by
    rcases z with z | z | z | z
    · exact z.2 rfl
    · exact W.gA a z (W.nbo a h2 h3)
    · exact z h3
    · exact z.2 (W.nbo a h2 h3)) hx (hd.av (S_mono (fun z => z) fun _ z => z.1)))
  rw [zq72x, zq72x] at W2
  have : σ.set i (some (.ref a)) = σ := by
    apply zq86x
    intro j
    by_cases hij : i = j
    · subst hij; rw [zq18x (by rw [W.len]; exact hil), e1]
    · rw [zq10x hij]
  rwa [this] at W2
theorem demote {a : Addr} (i : Nat) (e : ρ[i]? = some (.own a f ds)) (h : Sv G (ρ.set i (.d f (.list ds))) s E) : Sv G ρ s E := fun nb σ H D W K => h _ σ H D (share W e) K
theorem wk {ρ' : Rh} (w : Wk ρ' ρ) (h : Sv G ρ' s E) : Sv G ρ s E := fun nb σ H D W K => h nb σ H D (W.wk w) K
end Sv
end
end L2
set_option maxRecDepth 100000
set_option maxHeartbeats 1000000
namespace L2
open PySem PySem.Spec PyProof.Rows
abbrev Gx.hd (G : Gx) (f : Bool) (d : PyData) (v : V) : Gx := { G with hold := (f, .d d, v) :: G.hold }
section
variable {G : Gx} {ρ ρc : Rh} {Φ Ψ : Pd} {ta tb te : TE} {t : TA} {i : Nat} {f g : Bool} {d e : PyData} {ds es : List PyData} {K : PySem.W.Frag}
theorem Wd.hd {nb : Addr -> Prop} {σ : St} {H : Hp} {v : V} (W : Wd G nb ρ σ H) (h : IsD (G.S nb f) H d v) : Wd (G.hd f d v) nb ρ σ H :=
 ⟨W.bag, W.live, W.old, W.nbo, W.gA, W.len, W.gB, fun x m => by
  rcases zq43x.mp m with e | m
  ·subst e; exact h
  ·exact W.hld x m, fun i s e => by
   obtain ⟨x, e1, h⟩ := W.ok i s e
   refine ⟨x, e1, ?_⟩
   cases s <;> exact h, W.apart, W.apd, W.apc⟩
theorem Wd.unhd {nb : Addr -> Prop} {σ : St} {H : Hp} {v : V} (W : Wd (G.hd f d v) nb ρ σ H) : Wd G nb ρ σ H /\ IsD (G.S nb f) H d v :=
 ⟨⟨W.bag, W.live, W.old, W.nbo, W.gA, W.len, W.gB, fun x m => W.hld x (zq33x _ m), fun i s e => by
   obtain ⟨x, e1, h⟩ := W.ok i s e
   refine ⟨x, e1, ?_⟩
   cases s <;> exact h, W.apart, W.apd, W.apc⟩, W.hld _ (zq27x ..)⟩
namespace Sv
variable {E : DE} {s : TS} {gt : TG}
def Turns (G : Gx) (ρ : Rh) (n : Nat) (it : Nat -> PyData -> Prop) (fi : Bool) (gt : TG) (s : TS) (E : DE) : Prop :=
 ∃ I : Nat -> Rh -> Prop, I 0 ρ /\ (∀ i d ρ', it i d -> I i ρ' -> Gv G ρ' gt fi d fun ρ2 => Sv G ρ2 s { nx := I (i + 1), rt := E.rt, bk := E.nx, ct := I (i + 1), rw := E.rw }) /\ ∀ ρ', I n ρ' -> E.nx ρ'
theorem loopR {lo : Int} {n : Nat} {nb : Addr -> Prop} {σ : St} {H : Hp} {D : Ends} (W : Wd G nb ρ σ H) (KK : EndsOk G E D) (h : Turns G ρ n (fun i d => i < n /\ d = .int (lo + i)) true gt s E) :
  ∃ W : Nat -> Nat -> St -> Hp -> Prop, (∃ m, W 0 m σ H) /\ ∀ i m σ H, W i m σ H ->
   ((Itr lo n).stop i H /\ D.nx σ H) \/ ((Itr lo n).go i H /\ ∃ N : St -> Hp -> Prop, (∀ σ' H', N σ' H' -> ∃ m', m' < m /\ W (i + 1) m' σ' H') /\ ∀ x H', (Itr lo n).yld i H x H' -> gt x σ H' fun σ2 H2 => s { D with nx := N, ct := N, bk := D.nx } σ2 H2) := by
 obtain ⟨I, h0, ht, he⟩ := h
 refine for_range (fun i σ H => ∃ nb ρ', I i ρ' /\ Wd G nb ρ' σ H) ⟨nb, ρ, h0, W⟩ ?_ ?_
 ·rintro i σ H hi ⟨nb, ρ', hI, W⟩
  refine ht i _ ρ' ⟨hi, rfl⟩ hI nb σ H _ _ W (.int _) fun σ2 ρ2 q W2 => q nb σ2 H _ W2 ?_
  exact ⟨fun nb ρ σ H q W => ⟨nb, ρ, q, W⟩, KK.nx, fun nb ρ σ H q W => ⟨nb, ρ, q, W⟩, KK.rt, KK.rw⟩
 ·rintro σ H ⟨nb, ρ', hI, W⟩
  exact KK.nx nb ρ' σ H (he ρ' hI) W
theorem forR1 (h : Ev G ρ te fun _ x => ∃ n : Int, x = .int n /\ -(2 ^ 62) <= n /\ n < 2 ^ 62 /\ Turns G ρ n.toNat (fun i d => i < n.toNat /\ d = .int (0 + i)) true gt s E) : Sv G ρ (tFor (iRng1 (tCons te tNil)) gt s) E := fun nb σ H D W KK =>
 h nb σ H _ W fun f v H1 x ⟨n, ex, h1, h2, q⟩ s1 hv => by
  subst ex
  rw [hv.ofI]
  exact ⟨n, rfl, h1, h2, loopR (W.step s1) KK q⟩
theorem forR2 (h : Ev G ρ ta fun _ x => ∃ m : Int, x = .int m /\ Ev G ρ tb fun _ y => ∃ n : Int, y = .int n /\ (-(2 ^ 62) <= m /\ m < 2 ^ 62 /\ -(2 ^ 62) <= n /\ n < 2 ^ 62) /\ Turns G ρ (n - m).toNat (fun i d => i < (n - m).toNat /\ d = .int (m + i)) true gt s E) : Sv G ρ (tFor (iRng2 (tCons ta (tCons tb tNil))) gt s) E := fun nb σ H D W KK =>
 h nb σ H _ W fun f v H1 x ⟨m, ex, q⟩ s1 hv => q nb σ H1 _ (W.step s1) fun f' u H2 y ⟨n, ey, hb, q⟩ s2 hu => by
  subst ex ey
  rw [hv.ofI, hu.ofI]
  exact ⟨m, n, rfl, hb, loopR ((W.step s1).step s2) KK q⟩
theorem forL (h : Ev G ρ te fun f x => ∃ ds, x = .list ds /\ ∀ v, Turns (G.hd f (.list ds) v) ρ ds.length (fun i d => ds[i]? = some d) f gt s E) : Sv G ρ (tFor (iList K te) gt s) E := fun nb σ H D W KK =>
 h nb σ H _ W fun f v H1 x ⟨ds, ex, q⟩ s1 hv => by
  subst ex
  obtain ⟨I, h0, ht, he⟩ := q v
  have W1 := (W.step s1).hd hv
  obtain ⟨a, xs, rfl, n, hx, hd⟩ := hv.ofL
  have key : ∀ {nb ρ' σ H}, Wd (G.hd f (.list ds) (.ref a)) nb ρ' σ H -> ∃ xs, H a = some (.lst xs) /\ IsDs (G.S nb f) H ds xs := fun W => by
   obtain ⟨a', xs', e', _, h', d'⟩ := W.unhd.2.ofL
   cases e'
   exact ⟨xs', h', d'⟩
  refine ⟨a, rfl, ⟨xs, .of hx⟩, ?_⟩
  refine ⟨fun i m σ H => m = ds.length - i /\ i <= ds.length /\ ∃ nb ρ', I i ρ' /\ Wd (G.hd f (.list ds) (.ref a)) nb ρ' σ H, ⟨ds.length, by simp, zq34x _, nb, ρ, h0, W1⟩, ?_⟩
  rintro i m σ H ⟨rfl, hi, nb, ρ', hI, W⟩
  obtain ⟨ys, hy, hD⟩ := key W
  have hl := hD.length
  by_cases hlt : i < ds.length
  ·refine .inr ⟨⟨ys, ys[i]'(by omega), .of hy, zq1x _⟩, fun σ H => ∃ nb ρ', I (i + 1) ρ' /\ Wd (G.hd f (.list ds) (.ref a)) nb ρ' σ H, fun σ' H' q => ⟨ds.length - (i + 1), by omega, rfl, hlt, q⟩, fun x H' y => ?_⟩
   obtain ⟨e, y⟩ := y
   subst e
   have hx := y ys (.of hy)
   obtain ⟨x', hx', dx⟩ := hD.get (zq1x hlt)
   rw [hx] at hx'; cases hx'
   refine ht i _ ρ' (zq1x hlt) hI nb σ _ _ _ W dx fun σ2 ρ2 q W2 => q nb σ2 _ _ W2 ?_
   exact ⟨fun nb ρ σ H q W => ⟨nb, ρ, q, W⟩, fun nb ρ σ H q W => KK.nx nb ρ σ H q W.unhd.1, fun nb ρ σ H q W => ⟨nb, ρ, q, W⟩, fun nb ρ σ f v H d q W hv => KK.rt nb ρ σ f v H d q W.unhd.1 hv, fun nb ρ σ v H q W => KK.rw nb ρ σ v H q W.unhd.1⟩
  ·have e : i = ds.length := by omega
   subst e
   exact .inl ⟨⟨ys, .of hy, by omega⟩, KK.nx nb ρ' σ H (he ρ' hI) W.unhd.1⟩
theorem while_ {c : TT} (I : Rh -> Prop) (μ : Rh -> Nat) (h0 : I ρ) (h : ∀ ρ', I ρ' -> Tv G ρ' c fun b => if b = true then Sv G ρ' s { nx := fun ρ2 => I ρ2 /\ μ ρ2 < μ ρ', rt := E.rt, bk := E.nx, ct := fun ρ2 => I ρ2 /\ μ ρ2 < μ ρ', rw := E.rw } else E.nx ρ') : Sv G ρ (tWhile c s) E := fun nb σ H D W KK => by
  refine ⟨fun m σ H => ∃ nb ρ', I ρ' /\ Wd G nb ρ' σ H /\ m = μ ρ', ⟨_, nb, ρ, h0, W, rfl⟩, ?_⟩
  rintro m σ H ⟨nb, ρ', hI, W, rfl⟩
  refine h ρ' hI nb σ H _ W fun b H1 q s1 => ?_
  cases b with
  | true =>
    rw [if_pos rfl] at q ⊢
    refine ⟨fun σ' H' => ∃ nb ρ2, (I ρ2 /\ μ ρ2 < μ ρ') /\ Wd G nb ρ2 σ' H', fun σ' H' ⟨nb, ρ2, ⟨q1, q2⟩, W2⟩ => ⟨μ ρ2, q2, nb, ρ2, q1, W2, rfl⟩, q nb σ H1 _ (W.step s1) ?_⟩
    exact ⟨fun nb ρ σ H q W => ⟨nb, ρ, q, W⟩, KK.nx, fun nb ρ σ H q W => ⟨nb, ρ, q, W⟩, KK.rt, KK.rw⟩
  | false => rw [if_neg zq7x] at q ⊢; exact KK.nx nb ρ' σ H1 q (W.step s1)
end Sv
def startR (mp : List (Option Nat)) (ρ : Rh) : Rh := mp.map fun o => match o with | none => .no | some j => match ρ[j]? with | some s => s | none => .no
theorem mp_inj {mp : List (Option Nat)} (h : (mp.filterMap id).Nodup) : ∀ {i j k : Nat}, mp[i]? = some (some k) -> mp[j]? = some (some k) -> i = j := by
  induction mp with
  | nil => intro i j k e; simp at e
  | cons o r ih =>
    intro i j k e1 e2
    have hr : (r.filterMap id).Nodup := by
      cases o with
      | none => simpa using h
      | some x => rw [zq179x (by rfl)] at h; exact (zq68x.mp h).2
    have hn : ∀ {m : Nat}, r[m]? = some (some k) -> o ≠ some k := fun {m} hm e => by
      subst e
      rw [zq179x (by rfl)] at h
      exact (zq68x.mp h).1 (zq137x.mpr ⟨some k, zq8x hm, rfl⟩)
    cases i with
    | zero =>
      cases j with
      | zero => rfl
      | succ j => simp at e1 e2; exact absurd e1 (hn e2)
    | succ i =>
      cases j with
      | zero => simp at e1 e2; exact absurd e2 (hn e1)
      | succ j => simp at e1 e2; rw [ih hr e1 e2]
theorem Wd.startC {nb : Addr -> Prop} {σ : St} {H : Hp} {mp : List (Option Nat)} (W : Wd G nb ρ σ H) (hm : (mp.filterMap id).Nodup) : Wd G nb (startR mp ρ) (startC mp σ) H := by
  have hat : ∀ {i : Nat} {s : Sl}, (startR mp ρ)[i]? = some s -> s = .no \/ ∃ k, mp[i]? = some (some k) /\ ρ[k]? = some s := fun {i s} e => by
    unfold startR at e
    rw [zq13x] at e
    obtain ⟨o, ho, e⟩ := zq66x.mp e
    cases o with
    | none => exact .inl e.symm
    | some k =>
      cases hk : ρ[k]? with
      | none => simp only [hk] at e; exact .inl e.symm
      | some s' => simp only [hk] at e; subst e; exact .inr ⟨k, ho, hk⟩
  refine ⟨W.bag, W.live, W.old, W.nbo, W.gA, by unfold L2.startC startR; rw [zq0x, zq0x], W.gB, W.hld, fun i s e => ?_, fun i j a f as c g cs hij e1 e2 => ?_, fun i j a f as c g cs hij e1 e2 => ?_, fun i j c t hij e1 e2 a ha => ?_⟩
  · have hi : i < mp.length := by have := (zq2x.mp e).1; unfold startR at this; rwa [zq0x] at this
    rcases hat e with rfl | ⟨k, hk, hs⟩
    · exact ⟨_, by unfold L2.startC; rw [zq13x, zq1x hi]; rfl, trivial⟩
    · obtain ⟨x, e1, h⟩ := W.ok k s hs
      refine ⟨x, ?_, h⟩
      unfold L2.startC
      rw [zq13x, hk]
      simp only [Option.map_some, e1]
  · rcases hat e1 with z | ⟨k, hk, hs⟩
    · cases z
    rcases hat e2 with z | ⟨k', hk', hs'⟩
    · cases z
    exact W.apart k k' a f as c g cs (fun z => by subst z; exact hij (mp_inj hm hk hk')) hs hs'
  · rcases hat e1 with z | ⟨k, hk, hs⟩
    · cases z
    rcases hat e2 with z | ⟨k', hk', hs'⟩
    · cases z
    exact W.apd k k' a f as c g cs (fun z => by subst z; exact hij (mp_inj hm hk hk')) hs hs'
  · rcases hat e1 with z | ⟨k, hk, hs⟩
    · cases z
    rcases hat e2 with z | ⟨k', hk', hs'⟩
    · subst z; exact fun z => by cases z
    exact W.apc k k' c t (fun z => by subst z; exact hij (mp_inj hm hk hk')) hs hs' a ha
def NoOwn (ρ : Rh) (acc : Addr) : Prop := (∀ (j : Nat) a f ds, ρ[j]? = some (.own a f ds) -> a ≠ acc) /\ ∀ (j : Nat) c, ρ[j]? = some (.cu c) -> acc ∉ c.F
def CompD (G : Gx) (ρc : Rh) (n : Nat) (it : Nat -> PyData -> Prop) (fi : Bool) (gt : TG) (tc : TT) (te : TE) (Θ : Bool -> List PyData -> Prop) : Prop :=
 ∃ (fl : Bool) (I : Nat -> List PyData -> Prop), I 0 [] /\ (∀ i d ds, it i d -> ds.length <= i -> I i ds -> Gv G ρc gt fi d fun ρ1 => Wk ρc ρ1 /\ Tv G ρ1 tc fun b => if b = true then Ev G ρ1 te fun f e => (fl = true -> f = true) /\ I (i + 1) (ds ++ [e]) else I (i + 1) ds) /\
  ∀ ds, ds.length <= n -> I n ds -> Θ (fl || scAll ds) ds
theorem comp_turn {gt : TG} {tc : TT} {nb : Addr -> Prop} {acc : Addr} {σ : St} {H H1 : Hp} {x : V} {fi fl : Bool} {I : Nat -> List PyData -> Prop} {xs : List V} {N : St -> Hp -> Prop} {ds : List PyData} {n : Nat} (hn : n <= 10000) (hi : i < n)
    (W : Wd G nb ρc σ H) (ha : nb acc) (hN : NB G.B acc) (hno : NoOwn ρc acc) (st : Step G.B H1 H) (hacc : H1 acc = none) (hx : H acc = some (.lst xs)) (hd : IsDs (G.S nb fl) H ds xs) (hl : ds.length <= i) (hxd : IsD (G.S nb fi) H d x)
    (h : Gv G ρc gt fi d fun ρ1 => Wk ρc ρ1 /\ Tv G ρ1 tc fun b => if b = true then Ev G ρ1 te fun f e => (fl = true -> f = true) /\ I (i + 1) (ds ++ [e]) else I (i + 1) ds)
    (z : ∀ σ' H' ds' xs', Wd G nb ρc σ' H' -> Step G.B H1 H' -> H' acc = some (.lst xs') -> IsDs (G.S nb fl) H' ds' xs' -> ds'.length <= i + 1 -> I (i + 1) ds' -> N σ' H') :
    gt x σ H fun σ2 H2 => tc σ2 H2 fun b H3 => if b = true then te σ2 H3 fun v H4 => ∃ ys, H4 acc = some (.lst ys) /\ ys.length < sizeLine /\ N σ2 (upd H4 acc (.lst (ys ++ [v]))) else N σ2 H3 := by
  refine h nb σ H x _ W hxd fun σ2 ρ1 ⟨wk, q⟩ W2 => q nb σ2 H _ W2 fun b H3 q3 s3 => ?_
  have hx3 := s3.1 _ _ hN hx
  have hd3 := hd.keep (s3.butS (nb := nb) (f := fl))
  cases b with
  | false =>
    rw [if_neg zq7x] at q3 ⊢
    exact z σ2 H3 ds xs ((W2.step s3).wk wk) (st.trans s3) hx3 hd3 (by omega) q3
  | true =>
    rw [if_pos rfl] at q3 ⊢
    refine q3 nb σ2 H3 _ (W2.step s3) fun f v H4 e ⟨hf, hI⟩ s4 hv => ?_
    have hx4 := s4.1 _ _ hN hx3
    have hd4 := hd3.keep (s4.butS (nb := nb) (f := fl))
    have hlen := hd.length
    refine ⟨xs, hx4, zq28x (show xs.length < 10001 by omega) (by decide), ?_⟩
    have W4 : Wd G nb ρc σ2 H4 := ((W2.step s3).step s4).wk wk
    have bt : But (G.S nb fl) H4 (upd H4 acc (.lst (xs ++ [v]))) := But.set (.inl ha)
    have W5 : Wd G nb ρc σ2 (upd H4 acc (.lst (xs ++ [v]))) := W4.write ha hN hno.1 (fun j a f ds e z => by
      subst z
      obtain ⟨_, _, _, _, _, ps, hp, _⟩ := W4.ok j _ e
      rw [hx4] at hp; cases hp) hno.2
    refine z σ2 _ (ds ++ [e]) (xs ++ [v]) W5 ⟨fun a o n q => ?_, W5.bag⟩ upd_same (IsDs.snoc ((hv.av (S_mono hf fun _ z => z)).keep bt) (hd4.keep bt)) (by rw [zq22x, zq60x]; omega) hI
    have hne : a ≠ acc := fun z => by subst z; rw [hacc] at q; cases q
    rw [upd_ne hne]
    exact (st.trans (s3.trans s4)).1 a o n q
theorem no_own {nb : Addr -> Prop} {σ : St} {H : Hp} {a : Addr} (W : Wd G nb ρ σ H) (ha : H a = none) : NoOwn ρ a := by
 refine ⟨fun j c f ds e z => ?_, fun j c e z => ?_⟩
 ·subst z
  obtain ⟨x, e1, h1, h2, h3, ys, hy, _⟩ := W.ok j _ e
  rw [hy] at ha; cases ha
 ·obtain ⟨x, e1, h1, h2, h3⟩ := W.ok j _ e
  exact W.live a (h2 a z).1 ha
theorem hA_more {nb : Addr -> Prop} {a : Addr} {f : Bool} : ∀ x, (G.S nb f x \/ x = a) -> G.S (fun x => nb x \/ x = a) f x := fun x z => by
 rcases z with (z | z | z | z) | z
 ·exact .inl (.inl z)
 ·exact .inr (.inl z)
 ·exact .inr (.inr (.inl z))
 ·exact .inr (.inr (.inr z))
 ·exact .inl (.inr z)
theorem comp_end {nb : Addr -> Prop} {acc : Addr} {H H1 H' : Hp} {σ : St} {Q : VK} {Θ : Bool -> List PyData -> Prop} {xs : List V} {ds : List PyData} {fl : Bool} (W : Wd G nb ρ σ H) (s1 : Step G.B H H1) (hacc : H1 acc = none) (s2 : Step G.B H1 H') (hx : H' acc = some (.lst xs)) (hd : IsDs (G.S (fun x => nb x \/ x = acc) fl) H' ds xs) (p : Θ (fl || scAll ds) ds)
  (z : ∀ f a xs H' ds, Θ f ds -> Step G.B H H' -> H a = none -> H' a = some (.lst xs) -> IsDs (fun x => G.S nb f x \/ x = a) H' ds xs -> Q (.ref a) H') : Q (.ref acc) H' := by
 refine z _ acc xs H' ds p (s1.trans s2) (W.none_of s1 hacc) hx ?_
 cases hs : scAll ds with
 | true => exact IsDs.scAny hs hd
 | false => rw [zq85x]; exact hd.av hA_more
theorem NB.new {B : Bg} {H : Hp} {a : Addr} (h : BagOk B H) (ha : H a = none) : NB B a := zq54x fun z => NB.bag_live h z ha
namespace EvN
variable {Θ : Bool -> List PyData -> Prop} {gt : TG} {tc : TT} {mp : List (Option Nat)}
theorem compR {lo : Int} {n : Nat} {nb : Addr -> Prop} {σ : St} {H H1 : Hp} {Q : VK} (W : Wd G nb ρ σ H) (s1 : Step G.B H H1) (hm : (mp.filterMap id).Nodup) (hρ : startR mp ρ = ρc) (hn : n <= 10000) (h : CompD G ρc n (fun i d => i < n /\ d = .int (lo + i)) true gt tc te Θ)
  (z : ∀ f a xs H' ds, Θ f ds -> Step G.B H H' -> H a = none -> H' a = some (.lst xs) -> IsDs (fun x => G.S nb f x \/ x = a) H' ds xs -> Q (.ref a) H') (acc : Addr) (hacc : H1 acc = none) : CompW (Itr lo n) gt tc te acc (fun H' => Q (.ref acc) H') (startC mp σ) (upd H1 acc (.lst [])) := by
 obtain ⟨fl, I, h0, ht, he⟩ := h
 have W0 : Wd G nb ρc (L2.startC mp σ) H1 := by rw [<- hρ]; exact (W.step s1).startC hm
 have W1 := W0.more hacc (o := .lst [])
 have hN := NB.new s1.2 hacc
 have hno := no_own W0 hacc
 have st0 : Step G.B H1 (upd H1 acc (.lst [])) := .same s1.2 (same_new hacc)
 refine R.comp_range (fun i σ H => ∃ ds xs, Wd G (fun x => nb x \/ x = acc) ρc σ H /\ Step G.B H1 H /\ H acc = some (.lst xs) /\ IsDs (G.S (fun x => nb x \/ x = acc) fl) H ds xs /\ ds.length <= i /\ I i ds) ⟨[], [], W1, st0, upd_same, .nil, zq3x _, h0⟩ ?_ ?_
 ·rintro i σ H hi ⟨ds, xs, W, st, hx, hd, hl, hI⟩
  exact comp_turn hn hi W (.inr rfl) hN hno st hacc hx hd hl (.int _) (ht i _ ds ⟨hi, rfl⟩ hl hI) fun σ' H' ds' xs' W' st' hx' hd' hl' hI' => ⟨ds', xs', W', st', hx', hd', hl', hI'⟩
 ·rintro σ H' ⟨ds, xs, W', st, hx, hd, hl, hI⟩
  exact comp_end W s1 hacc st hx hd (he ds hl hI) z
theorem compR1 {t0 : TE} (hm : (mp.filterMap id).Nodup) (hρ : startR mp ρ = ρc) (h : Ev G ρ t0 fun _ x => ∃ n : Int, x = .int n /\ -10000 <= n /\ n <= 10000 /\ CompD G ρc n.toNat (fun i d => i < n.toNat /\ d = .int (0 + i)) true gt tc te Θ) : EvN G ρ (tComp (iRng1 (tCons t0 tNil)) gt tc te mp) Θ := fun nb σ H Q W z =>
 h nb σ H _ W fun f v H1 x ⟨n, ex, h1, h2, q⟩ s1 hv => by
  subst ex
  rw [hv.ofI]
  exact ⟨n, rfl, by omega, by omega, compR W s1 hm hρ (by omega) q z⟩
theorem compR2 {t0 t1 : TE} (hm : (mp.filterMap id).Nodup) (hρ : startR mp ρ = ρc) (h : Ev G ρ t0 fun _ x => ∃ m : Int, x = .int m /\ Ev G ρ t1 fun _ y => ∃ n : Int, y = .int n /\ (-10000 <= m /\ m <= 10000 /\ -10000 <= n /\ n <= 10000 /\ n - m <= 10000) /\ CompD G ρc (n - m).toNat (fun i d => i < (n - m).toNat /\ d = .int (m + i)) true gt tc te Θ) : EvN G ρ (tComp (iRng2 (tCons t0 (tCons t1 tNil))) gt tc te mp) Θ := fun nb σ H Q W z =>
 h nb σ H _ W fun f v H1 x ⟨m, ex, q⟩ s1 hv => q nb σ H1 _ (W.step s1) fun f' u H2 y ⟨n, ey, hb, q⟩ s2 hu => by
  subst ex ey
  rw [hv.ofI, hu.ofI]
  exact ⟨m, n, rfl, by omega, compR W (s1.trans s2) hm hρ (by omega) q z⟩
theorem compL {t0 : TE} (hm : (mp.filterMap id).Nodup) (hρ : startR mp ρ = ρc) (h : Ev G ρ t0 fun fi x => ∃ es, x = .list es /\ es.length <= 10000 /\ ∀ v, CompD (G.hd fi (.list es) v) ρc es.length (fun i d => es[i]? = some d) fi gt tc te Θ) : EvN G ρ (tComp (iList K t0) gt tc te mp) Θ := fun nb σ H Q W z =>
 h nb σ H _ W fun fi v H1 x ⟨es, ex, hn, q⟩ s1 hv => by
  subst ex
  obtain ⟨fl, I, h0, ht, he⟩ := q v
  have W0 := (W.step s1).hd hv
  obtain ⟨a, xs, rfl, n, hx, hd⟩ := hv.ofL
  refine ⟨a, rfl, ⟨xs, .of hx⟩, fun acc hacc => ?_⟩
  have W0' : Wd (G.hd fi (.list es) (.ref a)) nb ρc (L2.startC mp σ) H1 := by rw [<- hρ]; exact W0.startC hm
  have W1 := W0'.more hacc (o := .lst [])
  have hN := NB.new s1.2 hacc
  have hno := no_own W0' hacc
  have st0 : Step G.B H1 (upd H1 acc (.lst [])) := .same s1.2 (same_new hacc)
  have hNa : NB G.B a := zq54x fun z => n (.inr (.inr (.inl z)))
  refine R.comp_list (xs := xs) (fun i σ H => ∃ ds ys, Wd (G.hd fi (.list es) (.ref a)) (fun x => nb x \/ x = acc) ρc σ H /\ Step G.B H1 H /\ H acc = some (.lst ys) /\ IsDs (G.S (fun x => nb x \/ x = acc) fl) H ds ys /\ ds.length <= i /\ I i ds) ⟨[], [], W1, st0, upd_same, .nil, zq3x _, h0⟩ ?_ ?_ ?_
  ·rintro i σ H hi ⟨ds, ys, W, st, _⟩
   exact .of (st.1 _ _ hNa hx)
  ·rintro i x σ H hi ⟨ds, ys, W, st, hy, hd', hl, hI⟩
   obtain ⟨a', xs', e', _, h', d'⟩ := W.unhd.2.ofL
   cases e'
   rw [st.1 _ _ hNa hx] at h'; cases h'
   have hil : i < es.length := by have := (zq2x.mp hi).1; have := d'.length; omega
   obtain ⟨x', hx', dx⟩ := d'.get (zq1x hil)
   rw [hi] at hx'; cases hx'
   exact comp_turn (G := G.hd fi (.list es) (.ref a)) hn hil W (.inr rfl) hN hno st hacc hy hd' hl dx (ht i _ ds (zq1x hil) hl hI) fun σ' H' ds' xs' W' st' hx' hd' hl' hI' => ⟨ds', xs', W', st', hx', hd', hl', hI'⟩
  ·rintro σ H' ⟨ds, ys, W', st, hy, hd', hl, hI⟩
   rw [hd.length] at hl hI
   exact comp_end W s1 hacc st hy hd' (he ds hl hI) z
end EvN
end
end L2
set_option maxRecDepth 100000
set_option maxHeartbeats 1000000
namespace L2
open PySem PySem.Spec PyProof.Rows
section
variable {ρ : Rh} {t : TS} {N : List Str} {vs : List V} {ds : List PyData} {nb : Addr -> Prop} {H : Hp} {Q : VK} {Φ : Pd} {b l : Addr}
theorem isDs_at {xs : List V} (h : IsDs nb H ds xs) {i : Nat} {s : Sl} (e : (ds.map (Sl.d false))[i]? = some s) : ∃ v d, xs[i]? = some v /\ s = .d false d /\ IsD nb H d v := by
 rw [zq13x] at e
 obtain ⟨d, hd, e⟩ := zq66x.mp e
 obtain ⟨v, hv, q⟩ := h.get hd
 exact ⟨v, d, hv, e.symm, q⟩
theorem Sv.enterD (hl : Live nb H) (hd : IsDs nb H ds vs) (hΦ : ∀ f d v H', Φ f d -> Same H H' -> IsD (fun a => nb a \/ (f = true /\ H a ≠ none)) H' d v -> Q v H')
  (hρ : ρ = ds.map (Sl.d false) ++ List.replicate (N.length - ds.length) .no) (h : Sv ⟨none, H, nb, []⟩ ρ t { nx := fun _ => Φ true .none, rt := Φ }) : t { nx := fun _ H' => Q .non H', rt := Q } (start N vs) H := by
 have hlen := hd.length
 have sm : ∀ {nb' ρ' σ' H'}, Wd ⟨none, H, nb, []⟩ nb' ρ' σ' H' -> Same H H' := fun W a o e => W.old a o (fun _ _ z => (by cases z)) e
 refine h (fun _ => False) _ H _ ⟨fun _ _ z => (by cases z), fun _ z => z.elim, fun _ _ _ e => e, fun _ z => z.elim, hl, ?_, fun _ _ z => (by cases z), fun _ m => (by cases m), fun i s e => ?_, ?_, ?_, ?_⟩ ⟨fun nb' ρ' σ' H' q W => hΦ _ _ _ _ q (sm W) .non, fun _ _ _ _ q _ => q.elim, fun _ _ _ _ q _ => q.elim, fun nb' ρ' σ' f v H' d q W hv => hΦ f d v H' q (sm W) (hv.av fun a z => ?_), fun _ _ _ _ _ q _ => q.elim⟩
 ·rw [hρ]; unfold start; simp [hlen]
 ·rw [hρ] at e
  unfold start
  by_cases hi : i < ds.length
  ·rw [zq45x (by rw [zq0x]; exact hi)] at e
   obtain ⟨v, d, hv, rfl, q⟩ := isDs_at hd e
   refine ⟨some v, ?_, v, rfl, q.av fun a z => ?_⟩
   ·rw [zq45x (by rw [zq0x, hlen]; exact hi), zq13x, hv]; rfl
   ·rcases z with z | z | z | z
    ·exact z.elim
    ·exact z
    ·exact absurd (fun _ _ z => (by cases z)) z
    ·cases z.1
  ·rw [zq48x (by rw [zq0x]; omega), zq35x] at e
   split at e
   ·rename_i h'
    cases e
    refine ⟨none, ?_, trivial⟩
    rw [zq0x] at h'
    rw [zq48x (by rw [zq0x]; omega), zq35x, if_pos (by rw [zq0x, hlen]; exact h')]
   ·cases e
 ·intro i j a f as c g cs hij e1
  rw [hρ] at e1
  by_cases hi : i < ds.length
  ·rw [zq45x (by rw [zq0x]; exact hi)] at e1
   obtain ⟨_, _, _, z, _⟩ := isDs_at hd e1
   cases z
  ·rw [zq48x (by rw [zq0x]; omega), zq35x] at e1
   split at e1 <;> cases e1
 ·intro i j a f as c g cs hij e1
  rw [hρ] at e1
  by_cases hi : i < ds.length
  ·rw [zq45x (by rw [zq0x]; exact hi)] at e1
   obtain ⟨_, _, _, z, _⟩ := isDs_at hd e1
   cases z
  ·rw [zq48x (by rw [zq0x]; omega), zq35x] at e1
   split at e1 <;> cases e1
 ·intro i j c t hij e1
  rw [hρ] at e1
  by_cases hi : i < ds.length
  ·rw [zq45x (by rw [zq0x]; exact hi)] at e1
   obtain ⟨_, _, _, z, _⟩ := isDs_at hd e1
   cases z
  ·rw [zq48x (by rw [zq0x]; omega), zq35x] at e1
   split at e1 <;> cases e1
 ·rcases z with z | z
  ·exact .inr (.inl z)
  ·exact .inr (.inr (.inr z))
theorem Sv.enterB (hB : BagAt H b l) (hl : Live nb H) (hb : nb b) (hd : IsDs nb H ds vs) (hΦ : ∀ f d v H', Φ f d -> But (Nb b) H H' -> BagAt H' b l -> IsD (fun a => nb a \/ (f = true /\ H a ≠ none)) H' d v -> Q v H')
    (hρ : ρ = .bag :: ds.map (Sl.d false) ++ List.replicate (N.length - (ds.length + 1)) .no) (h : Sv ⟨some (b, l), H, nb, []⟩ ρ t { nx := fun _ => Φ true .none, rt := Φ }) : t { nx := fun _ H' => Q .non H', rt := Q } (start N (.ref b :: vs)) H := by
  have hlen := hd.length
  have hNB : ∀ a, a ≠ b -> NB (some (b, l)) a := fun a n b' l' e => by cases e; exact n
  have hNB' : ∀ a, ¬ NB (some (b, l)) a -> a = b := fun a n => zq54x fun z => n (hNB a z)
  have bt : ∀ {nb' ρ' σ' H'}, Wd ⟨some (b, l), H, nb, []⟩ nb' ρ' σ' H' -> But (Nb b) H H' := fun W a o n e => W.old a o (hNB a n) e
  have bg : ∀ {nb' ρ' σ' H'}, Wd ⟨some (b, l), H, nb, []⟩ nb' ρ' σ' H' -> BagAt H' b l := fun W => W.bag b l rfl
  refine h (fun _ => False) _ H _ ⟨fun b' l' e => (by cases e; exact hB), fun _ z => z.elim, fun _ _ _ e => e, fun _ z => z.elim, hl, ?_, fun b' l' e => (by cases e; exact hB), fun _ m => (by cases m), fun i s e => ?_, ?_, ?_, ?_⟩ ⟨fun nb' ρ' σ' H' q W => hΦ _ _ _ _ q (bt W) (bg W) .non, fun _ _ _ _ q _ => q.elim, fun _ _ _ _ q _ => q.elim, fun nb' ρ' σ' f v H' d q W hv => hΦ f d v H' q (bt W) (bg W) (hv.av fun a z => ?_), fun _ _ _ _ _ q _ => q.elim⟩
  · rw [hρ]; unfold start; simp [hlen]
  · rw [hρ] at e
    unfold start
    cases i with
    | zero => simp at e; subst e; exact ⟨some (.ref b), by simp, b, l, rfl, rfl⟩
    | succ i =>
      simp only [zq79x, zq73x, zq4x, zq36x] at e ⊢
      by_cases hi : i < ds.length
      · rw [zq45x (by rw [zq0x]; exact hi)] at e
        obtain ⟨v, d, hv, rfl, q⟩ := isDs_at hd e
        refine ⟨some v, ?_, v, rfl, q.av fun a z => ?_⟩
        · rw [zq45x (by rw [zq0x, hlen]; exact hi), zq13x, hv]; rfl
        · rcases z with z | z | z | z
          · exact z.elim
          · exact z
          · rw [hNB' a z]; exact hb
          · cases z.1
      · rw [zq48x (by rw [zq0x]; omega), zq35x] at e
        split at e
        · rename_i h'
          cases e
          refine ⟨none, ?_, trivial⟩
          rw [zq0x] at h'
          rw [zq48x (by rw [zq0x]; omega), zq35x, if_pos (by rw [zq0x, hlen]; exact h')]
        · cases e
  · intro i j a f as c g cs hij e1
    rw [hρ] at e1
    cases i with
    | zero => simp at e1
    | succ i =>
      simp only [zq79x, zq73x] at e1
      by_cases hi : i < ds.length
      · rw [zq45x (by rw [zq0x]; exact hi)] at e1
        obtain ⟨_, _, _, z, _⟩ := isDs_at hd e1
        cases z
      · rw [zq48x (by rw [zq0x]; omega), zq35x] at e1
        split at e1 <;> cases e1
  · intro i j a f as c g cs hij e1
    rw [hρ] at e1
    cases i with
    | zero => simp at e1
    | succ i =>
      simp only [zq79x, zq73x] at e1
      by_cases hi : i < ds.length
      · rw [zq45x (by rw [zq0x]; exact hi)] at e1
        obtain ⟨_, _, _, z, _⟩ := isDs_at hd e1
        cases z
      · rw [zq48x (by rw [zq0x]; omega), zq35x] at e1
        split at e1 <;> cases e1
  · intro i j c t hij e1
    rw [hρ] at e1
    cases i with
    | zero => simp at e1
    | succ i =>
      simp only [zq79x, zq73x] at e1
      by_cases hi : i < ds.length
      · rw [zq45x (by rw [zq0x]; exact hi)] at e1
        obtain ⟨_, _, _, z, _⟩ := isDs_at hd e1
        cases z
      · rw [zq48x (by rw [zq0x]; omega), zq35x] at e1
        split at e1 <;> cases e1
  · rcases z with z | z
    · exact .inr (.inl z)
    · exact .inr (.inr (.inr z))
def lawG (b l : Addr) (H : Hp) : Gx := ⟨some (b, l), H, fun _ => False, []⟩
theorem law_wdS {a : Addr} {m : Nat} (hB : BagAt H b l) : Wd (lawG b l H) (fun _ => False) (.raw (.ref a) :: .bag :: List.replicate m .no) (some (.ref a) :: some (.ref b) :: List.replicate m none) H := by
  refine ⟨fun b' l' e => (by cases e; exact hB), fun _ z => z.elim, fun _ _ _ e => e, fun _ z => z.elim, fun _ z => z.elim, by simp, fun b' l' e => (by cases e; exact hB), fun _ m => (by cases m), fun i s e => ?_, ?_, ?_, ?_⟩
  · match i with
    | 0 => simp at e; subst e; exact ⟨_, rfl, rfl⟩
    | 1 => simp at e; subst e; exact ⟨some (.ref b), rfl, b, l, rfl, rfl⟩
    | i + 2 =>
      simp only [zq73x, zq35x] at e ⊢
      split at e
      · rename_i h; cases e; exact ⟨none, if_pos h, trivial⟩
      · cases e
  · intro i j a f as c g cs hij e1
    match i with
    | 0 => simp at e1
    | 1 => simp at e1
    | i + 2 =>
      simp only [zq73x, zq35x] at e1
      split at e1 <;> cases e1
  · intro i j a f as c g cs hij e1
    match i with
    | 0 => simp at e1
    | 1 => simp at e1
    | i + 2 =>
      simp only [zq73x, zq35x] at e1
      split at e1 <;> cases e1
  · intro i j c t hij e1
    match i with
    | 0 => simp at e1
    | 1 => simp at e1
    | i + 2 =>
      simp only [zq73x, zq35x] at e1
      split at e1 <;> cases e1
theorem Ev.lenRaw {G : Gx} {i : Nat} {a : Addr} {ns : List Int} {K : PySem.W.Frag} (e : ρ[i]? = some (.raw (.ref a))) (hS : SqL K G.H0 a (ns.map V.int)) (h : Φ true (.int ns.length)) : Ev G ρ (tCB (rLen K) (tCons (tVar i) tNil)) Φ := fun nb σ H Q W z => by
 obtain ⟨x, e1, h1⟩ := W.ok i _ e
 have h1 : x = some (.ref a) := h1
 subst h1
 have hS' : SqL K H a (ns.map V.int) := by
  rcases hS with hr | hk
  ·have hn : NB G.B a := fun b l hb z => by
    subst z
    obtain ⟨_, _, _, _, _, g1, _⟩ := W.gB _ _ hb
    rcases hr with hr | ⟨o, hr⟩
    ·rw [g1] at hr
     have := HO.lst.inj (zq31x hr)
     cases ns with
     | nil => cases this
     | cons n r => rw [zq4x] at this; cases (zq97x this).1
    ·rw [g1] at hr; cases hr
   rcases hr with hr | ⟨o, hr⟩
   ·exact .inl (.inl (W.old _ _ hn hr))
   ·exact .inl (.inr ⟨o, W.old _ _ hn hr⟩)
  ·exact .inr hk
 refine ⟨.ref a, e1, a, _, rfl, .inl hS', ?_⟩
 rw [zq0x]
 exact z true _ H _ h (.refl W.bag) (.int _)
theorem law_endsR {D : Ends} (h2 : ∀ H, D.rt (.bl true) H) : EndsOk (lawG b l H) { nx := fun _ => False, rt := fun _ d => d = .bool true } D :=
 ⟨fun _ _ _ _ q _ => q.elim, fun _ _ _ _ q _ => q.elim, fun _ _ _ _ q _ => q.elim, fun _ _ _ f v H d q _ hv => by subst q; unfold IsD at hv; subst hv; exact h2 H, fun _ _ _ _ _ q _ => q.elim⟩
end
namespace R
theorem di {P : Int -> Prop} {i : Int} (h : P i) : ∃ j, PyData.int i = .int j /\ P j := ⟨i, rfl, h⟩
theorem db {P : Bool -> Prop} {i : Bool} (h : P i) : ∃ j, PyData.bool i = .bool j /\ P j := ⟨i, rfl, h⟩
theorem dl {P : List PyData -> Prop} {i : List PyData} (h : P i) : ∃ j, PyData.list i = .list j /\ P j := ⟨i, rfl, h⟩
theorem dt {P : List PyData -> Prop} {i : List PyData} (h : P i) : ∃ j, PyData.tuple i = .tuple j /\ P j := ⟨i, rfl, h⟩
theorem dll {P : List PyData -> Prop} {i : List PyData} (h : P i) : ∃ j, (PyData.list i = .list j \/ PyData.list i = .tuple j) /\ P j := ⟨i, .inl rfl, h⟩
theorem dlt {P : List PyData -> Prop} {i : List PyData} (h : P i) : ∃ j, (PyData.tuple i = .list j \/ PyData.tuple i = .tuple j) /\ P j := ⟨i, .inr rfl, h⟩
theorem eqii {P : Bool -> Prop} {i j : Int} (h : P (decide (i = j))) : ∃ b, EqD (.int i) (.int j) b /\ P b := ⟨_, .ii i j, h⟩
theorem eqbb {P : Bool -> Prop} {x y : Bool} (h : P (x == y)) : ∃ b, EqD (.bool x) (.bool y) b /\ P b := ⟨_, .bb x y, h⟩
theorem at_ {ds : List PyData} {k : Int} {e : PyData} {P : PyData -> Prop} (h : atI ds k = some e) (q : P e) : ∃ e, atI ds k = some e /\ P e := ⟨e, h, q⟩
theorem lnil {A : Prop} (q : A) : ([] : List Fd).length <= 10000 /\ A := ⟨by decide, q⟩
theorem cnd {C A : Prop} (c : C) (q : A) : C /\ A := ⟨c, q⟩
end R
theorem spD_out {n : Nat} {F : DF} {vs : List V} {H : Hp} {Q : VK} {E : XK} (h : spD n F vs H Q E) : ∃ (nb : Addr -> Prop) (ds : List PyData) (Φ : Pd), Live nb H /\ IsDs nb H ds vs /\ (∀ f d v H', Φ f d -> Same H H' -> IsD (fun a => nb a \/ (f = true /\ H a ≠ none)) H' d v -> Q v H') /\ F ds Φ := by
 obtain ⟨_, nb, ds, h1, h2, h3⟩ := h
 exact ⟨nb, ds, _, h1, h2, fun f d v H' q => q v H', h3⟩
theorem spB_out {n : Nat} {F : DF} {vs : List V} {H : Hp} {Q : VK} {E : XK} (h : spB n F vs H Q E) : ∃ (b l : Addr) (ws : List V) (nb : Addr -> Prop) (ds : List PyData) (Φ : Pd), vs = .ref b :: ws /\ BagAt H b l /\ Live nb H /\ nb b /\ IsDs nb H ds ws /\ (∀ f d v H', Φ f d -> But (Nb b) H H' -> BagAt H' b l -> IsD (fun a => nb a \/ (f = true /\ H a ≠ none)) H' d v -> Q v H') /\ F ds Φ := by
 obtain ⟨_, b, l, ws, nb, ds, e, hB, h1, hb, h2, h3⟩ := h
 exact ⟨b, l, ws, nb, ds, _, e, hB, h1, hb, h2, fun f d v H' q => q v H', h3⟩
end L2
set_option maxRecDepth 100000
set_option maxHeartbeats 1000000
namespace L2
open PySem PySem.Spec PyProof.Rows
abbrev Prs := List (Int × Int)
abbrev Wo := List (Option Int)
abbrev prsD (prs : Prs) : PyData := .list (prs.map pairD)
abbrev netD (p n : Int) (cs : List Prs) : PyData := .tuple [.int p, .int n, .list (cs.map prsD)]
theorem atI_nat' {α β : Type} {xs : List α} (φ : α -> β) {k : Int} {m : Nat} (h0 : 0 <= k) (h1 : k < m) (hm : m = xs.length) : ∃ x, xs[k.toNat]? = some x /\ atI (xs.map φ) k = some (φ x) := by
 have hk : k.toNat < xs.length := by omega
 exact ⟨xs[k.toNat], zq1x hk, atI_some h0 (by rw [zq13x, zq1x hk]; rfl)⟩
theorem map_at {α β : Type} {xs : List α} {φ : α -> β} {i : Nat} {d : β} (h : (xs.map φ)[i]? = some d) : ∃ x, xs[i]? = some x /\ d = φ x := by
 rw [zq13x] at h
 obtain ⟨x, hx, e⟩ := zq66x.mp h
 exact ⟨x, hx, e.symm⟩
theorem take_snoc {α : Type} {xs : List α} {i : Nat} {x : α} (h : xs[i]? = some x) : xs.take (i + 1) = xs.take i ++ [x] := by
 rw [List.take_add_one, h]; rfl
end L2
set_option maxRecDepth 100000
set_option maxHeartbeats 4000000
namespace L2
open PySem PySem.Spec PyProof.Rows
theorem ln1 {α : Type} {us : List α} (h : us.length = 1) : ∃ a, us = [a] := by
  cases us with
  | nil => cases h
  | cons a us =>
    cases us with
    | nil => exact ⟨a, rfl⟩
    | cons _ _ => cases h
theorem ln2 {α : Type} {us : List α} (h : us.length = 2) : ∃ a b, us = [a, b] := by
  cases us with
  | nil => cases h
  | cons a us =>
    obtain ⟨b, rfl⟩ := ln1 (us := us) (Nat.succ.inj h)
    exact ⟨a, b, rfl⟩
theorem ln3 {α : Type} {us : List α} (h : us.length = 3) : ∃ a b c, us = [a, b, c] := by
  cases us with
  | nil => cases h
  | cons a us =>
    obtain ⟨b, c, rfl⟩ := ln2 (us := us) (Nat.succ.inj h)
    exact ⟨a, b, c, rfl⟩
end L2
set_option maxRecDepth 100000
set_option maxHeartbeats 1000000
set_option maxRecDepth 100000
set_option maxHeartbeats 4000000
set_option maxRecDepth 100000
set_option maxHeartbeats 4000000
namespace L2
open PySem PySem.Spec PyProof.Rows
section
variable {prog : Program} {w : World} {A : Around} {R : Result -> Shared -> Prop} {I : Addr} {fp wr : List Addr} {G : Array GenState -> Array GenState -> Prop} {n : Nat} {P : Nat -> Value -> Prop} {St : Nat -> Shared -> Prop} {bt : Bool}
abbrev met (val : Nat -> Int) (i : Nat) : Int -> Bool := fun k => (firstMet val i).any (· == k)
end
end L2
set_option maxRecDepth 100000
set_option maxHeartbeats 4000000
set_option maxRecDepth 100000
set_option maxHeartbeats 4000000
set_option maxRecDepth 100000
set_option maxHeartbeats 4000000
set_option maxRecDepth 100000
set_option maxHeartbeats 4000000
set_option maxRecDepth 100000
set_option maxHeartbeats 4000000
namespace L2
open PySem PySem.Spec PyProof.Rows
theorem vals_intsA : ∀ {ns : List Int} {us : List Value}, Vals (ns.map V.int) us -> IntsAre us ns
  | [], _, .nil => .nil
  | n :: ns, _, .cons r t => by
    obtain ⟨k, rfl⟩ := r
    exact .cons n k (vals_intsA t)
theorem ints_vals : ∀ {us : List Value} {ns : List Int}, IntsAre us ns -> Vals (ns.map V.int) us
 | _, _, .nil => .nil
 | _, _, .cons k t h => .cons ⟨t, rfl⟩ (ints_vals h)
end L2
set_option maxRecDepth 100000
set_option maxHeartbeats 4000000
set_option maxRecDepth 100000
set_option maxHeartbeats 4000000
set_option maxRecDepth 100000
set_option maxHeartbeats 4000000
set_option maxRecDepth 100000
set_option maxHeartbeats 4000000
set_option maxRecDepth 100000
set_option maxHeartbeats 4000000
set_option maxRecDepth 100000
set_option maxHeartbeats 4000000
set_option maxRecDepth 100000
set_option maxHeartbeats 4000000
set_option maxRecDepth 100000
set_option maxHeartbeats 4000000
set_option maxRecDepth 100000
set_option maxHeartbeats 4000000
set_option maxRecDepth 100000
set_option maxHeartbeats 4000000
set_option maxRecDepth 100000
set_option maxHeartbeats 4000000
set_option maxRecDepth 100000
set_option maxHeartbeats 4000000
namespace L2
open PySem PySem.Spec PyProof.Rows
def rRange1 : List V -> Hp -> VK -> Prop := fun xs H Q => ∃ j : Int, xs = [.int j] /\ ∀ a, H a = none -> Q (.ref a) (upd H a (.rng 0 j))
def rListR : List V -> Hp -> VK -> Prop := fun xs H Q => ∃ (a : Addr) (lo hi : Int), xs = [.ref a] /\ H a = some (.rng lo hi) /\ (-10000 <= lo /\ lo <= 10000 /\ -10000 <= hi /\ hi <= 10000) /\ ∀ l, H l = none -> Q (.ref l) (upd H l (.lst (((List.range (hi - lo).toNat).map fun (i : Nat) => lo + (i : Int)).map V.int)))
def rSum (K : PySem.W.Frag) : List V -> Hp -> VK -> Prop := fun xs H Q => ∃ p, ∃ ns : List Int, xs = [.ref p] /\ SqL K H p (ns.map V.int) /\ Q (.int ns.sum) H
def rAll (K : PySem.W.Frag) : List V -> Hp -> VK -> Prop := fun xs H Q => ∃ p, ∃ bs : List Bool, xs = [.ref p] /\ SqL K H p (bs.map V.bl) /\ Q (.bl (bs.all id)) H
section
variable {X : Cx}
theorem call_rangeM : CallR X (.type "range") rRange1 := by
 intro pins s σ H xs us Q I rv h
 obtain ⟨j, rfl, q⟩ := h
 obtain ⟨u, rfl, ru⟩ := vals1 rv
 obtain ⟨t, rfl⟩ := ru
 refine call_range_1 ?_
 exact ⟨.ref s.heap.objs.size, _, I.laid (t' := s.toks + 1 + 1) (o := .rng 0 j) (fun b o e => zq26x _ e) (zq3x _) ⟨_, _, _, zq44x _ rfl⟩, rfl, q _ (I.hok.fresh (zq3x _))⟩
theorem call_listR (hc : X.calm = true) : CallR X (.type "list") rListR := by
  intro pins s σ H xs us Q I rv h
  obtain ⟨a, lo, hi, rfl, hH, hb, q⟩ := h
  obtain ⟨u, rfl, ru⟩ := vals1 rv
  cases ru
  obtain ⟨t, u, v, e⟩ := (show ObjOk X.prog X.w H s.heap a (.rng lo hi) from I.hok a _ hH)
  refine call_list_range (n := (hi - lo).toNat) (I.ok.hd hc) (show IsRange s.heap a lo hi 1 t u v from e) (small_one (by omega) (by omega) (by omega) (by omega)) (rangeSize_nat lo hi) (by omega) fun h' tk acc c' kp hl hi' => ?_
  have vv : Vals (((List.range (hi - lo).toNat).map fun (i : Nat) => lo + (i : Int)).map V.int) acc.toList := by
    have key : ∀ (n : Nat) (l : List Value), l.length = n -> ∀ b : Int, (∀ (j : Nat) (v : Value), l[j]? = some v -> ∃ t, v = Value.int (b + (j : Int)) t) -> Vals (((List.range n).map fun (i : Nat) => b + (i : Int)).map V.int) l := by
      intro n
      induction n with
      | zero => intro l hl b _; rw [zq99x.mp hl]; exact .nil
      | succ n ih =>
        intro l hl b hv
        cases l with
        | nil => cases hl
        | cons x r =>
          obtain ⟨t, e⟩ := hv 0 x rfl
          rw [zq180x, zq4x, zq4x]
          refine .cons ⟨t, by simpa using e⟩ ?_
          have := ih r (by simpa using hl) (b + 1) (fun j v e => by
            obtain ⟨t, z⟩ := hv (j + 1) v (by simpa using e)
            exact ⟨t, by rw [z]; congr 1; omega⟩)
          rw [zq57x] at this ⊢
          rw [zq57x]
          have e : ∀ i : Nat, ((V.int ∘ fun (i : Nat) => b + (i : Int)) ∘ Nat.succ) i = (V.int ∘ fun (i : Nat) => b + 1 + (i : Int)) i := fun i => by
            show V.int (b + ((i + 1 : Nat) : Int)) = V.int (b + 1 + (i : Int)); congr 1; omega
          rw [zq87x fun i _ => e i]
          exact this
    refine key _ _ (by rw [zq84x]; exact hi'.1) lo fun j v e => ?_
    obtain ⟨t, z⟩ := hi'.2 j v (by rw [<- zq96x]; exact e)
    exact ⟨t, by rw [z]; congr 1; omega⟩
  refine ⟨.ref s.heap.objs.size, _, I.laid (t' := tk) (o := .lst (((List.range (hi - lo).toNat).map fun (i : Nat) => lo + (i : Int)).map V.int)) kp (zq3x _) ⟨?_, acc.toList, c', vv, by simpa using hl⟩, rfl, q _ (I.hok.fresh (zq3x _))⟩
  rw [zq0x, zq0x, zq88x]
  exact zq16x (show (hi - lo).toNat <= 20000 by omega) (by decide)
theorem call_allM (hc : X.calm = true) : CallR X (.builtin "all") (rAll X.K) := by
  intro pins s σ H xs us Q I rv h
  obtain ⟨p, bs, rfl, hp, q⟩ := h
  obtain ⟨u, rfl, ru⟩ := vals1 rv
  cases ru
  obtain ⟨its, rs, il, hz⟩ := I.list hp
  have hl := rs.length
  have hv : ∀ (i : Nat) (v : Value), its.toArray[i]? = some v -> v = .bool (bs.getD i false) := fun i v e => by
    have hi : i < bs.length := by
      have := (Array.getElem?_eq_some_iff.mp e).1
      rw [zq0x] at hl
      simp at this; omega
    obtain ⟨u, hu, ru⟩ := rs.get (i := i) (x := .bl bs[i]) (by rw [zq13x, zq1x hi]; rfl)
    rw [List.getElem?_toArray, hu] at e
    cases e
    rw [zq23x, zq1x hi]
    exact ru
  have ll := il.isList
  have hlt : p < s.heap.objs.size := by obtain ⟨o, e, _⟩ := ll; exact zq9x e
  refine call_all_walk (wpAny_pyIter_list ll ⟨s.heap.objs.size, _, _, _, _, _, fun i => bs.getD i false, rfl, Walks.list (A := X.A.in1) (I.ok.hd hc) _ p (zq25x hlt) its.toArray, ⟨⟨_, zq44x _ rfl, rfl, rfl⟩, ll.push _⟩, fun i v s Q E hP hQ => ?_, fun h' tk kp => ?_⟩)
  · rw [hv i v hP]; exact wpAny_truthy_bool hQ
  · have e : (List.range its.toArray.size).all (fun i => bs.getD i false) = bs.all id := by
      have hs : its.toArray.size = bs.length := by rw [zq0x] at hl; simp; omega
      rw [hs]
      clear hv hl rs q hp hs hz
      induction bs with
      | nil => rfl
      | cons b r ih =>
        rw [zq36x, zq180x, zq70x, zq70x, List.all_map]
        simpa [Function.comp_def] using congrArg (b && ·) ih
    rw [e]
    refine ⟨.bl (bs.all id), H, I.kept fun b o q => kp b o (fun m => ?_) (zq26x _ q), rfl, q⟩
    have := zq12x.mp m
    rw [this] at q
    exact absurd (zq9x q) (zq53x _)
end
section
variable {G : Gx} {ρ : Rh} {te : TE} {K : PySem.W.Frag} {Φ : Pd}
theorem EvN.listRange {Θ : Bool -> List PyData -> Prop} (h : Ev G ρ te fun _ x => ∃ n : Int, x = .int n /\ -10000 <= n /\ n <= 10000 /\ Θ true (((List.range n.toNat).map fun (i : Nat) => (0 : Int) + (i : Int)).map .int)) : EvN G ρ (tCB rListR (tCons (tCB rRange1 (tCons te tNil)) tNil)) Θ := fun nb σ H Q W z =>
 h nb σ H _ W fun f v H1 x ⟨n, ex, h1, h2, q⟩ s1 hv => by
  subst ex
  rw [hv.ofI]
  refine ⟨n, rfl, fun a ha => ⟨a, 0, n, rfl, upd_same, by omega, fun l hl => ?_⟩⟩
  rw [Int.sub_zero]
  exact EvN.fin (f := true) W (s1.trans (.same s1.2 (same_new ha))) hl (isDs_intsL _) q z
theorem Ev.sum (h : Ev G ρ te fun _ x => ∃ ns : List Int, x = .list (ns.map .int) /\ Φ true (.int ns.sum)) : Ev G ρ (tCB (rSum K) (tCons te tNil)) Φ := fun nb σ H Q W z =>
 h nb σ H _ W fun f v H1 x ⟨ns, ex, q⟩ s1 hv => by
  subst ex
  obtain ⟨a, xs, rfl, na, hx, hd⟩ := hv.ofL
  have e := isDs_ints_eq hd
  subst e
  exact ⟨a, ns, rfl, .of hx, z true _ H1 _ q s1 (.int _)⟩
theorem isDs_bools_eq {nb : Addr -> Prop} {H : Hp} : ∀ {is : List Bool} {xs : List V}, IsDs nb H (is.map PyData.bool) xs -> xs = is.map V.bl
  | [], _, h => by unfold List.map IsDs at h; exact h
  | i :: is, _, h => by
    rw [zq4x] at h
    unfold IsDs at h
    obtain ⟨y, ys, rfl, h1, h2⟩ := h
    unfold IsD at h1
    rw [zq4x, h1, isDs_bools_eq h2]
theorem Ev.all (h : Ev G ρ te fun _ x => ∃ bs : List Bool, x = .list (bs.map .bool) /\ Φ true (.bool (bs.all id))) : Ev G ρ (tCB (rAll K) (tCons te tNil)) Φ := fun nb σ H Q W z =>
 h nb σ H _ W fun f v H1 x ⟨bs, ex, q⟩ s1 hv => by
  subst ex
  obtain ⟨a, xs, rfl, na, hx, hd⟩ := hv.ofL
  have e := isDs_bools_eq hd
  subst e
  exact ⟨a, bs, rfl, .of hx, z true _ H1 _ q s1 (.bl _)⟩
end
end L2
set_option maxRecDepth 100000
set_option maxHeartbeats 4000000
namespace L2
open PySem PySem.Spec PyProof.Rows
def isiD : PyData -> String -> Bool
 | .bool _, T => T == "bool" || T == "int"
 | .int _, T => T == "int"
 | .str _, T => T == "str"
 | .list _, T => T == "list"
 | .tuple _, T => T == "tuple"
 | _, _ => false
def tyD : PyData -> String
 | .none => "NoneType" | .bool _ => "bool" | .int _ => "int" | .str _ => "str" | .list _ => "list" | .tuple _ => "tuple" | .dict _ => "dict"
theorem isi_list (ds : List PyData) : isiD (.list ds) "list" = true /\ isiD (.list ds) "tuple" = false := ⟨rfl, rfl⟩
theorem isi_tuple (ds : List PyData) : isiD (.tuple ds) "list" = false /\ isiD (.tuple ds) "tuple" = true := ⟨rfl, rfl⟩
theorem tyD_of {K : PySem.W.Frag} {nb : Addr -> Prop} {H : Hp} {d : PyData} {v : V} (h : IsD nb H d v) : TyOf K H v (.type (tyD d)) := by
 cases d <;> unfold IsD at h
 ·subst h; exact .non
 ·subst h; exact .bl _
 ·subst h; exact .int _
 ·subst h; exact .str _
 ·obtain ⟨a, xs, rfl, _, e, _⟩ := h; exact .lst e
 ·obtain ⟨a, xs, rfl, _, e, _⟩ := h; exact .tup e
 ·obtain ⟨a, xs, rfl, _, e, _⟩ := h; exact e.elim .dK fun ⟨_, e⟩ => .fzd e
def five (T : String) : Prop := T = "int" \/ T = "bool" \/ T = "list" \/ T = "tuple" \/ T = "str"
theorem kit_of {K : PySem.W.Frag} {d : PyData} {T : String} (hT : five T) : PySem.W.kitOne K (.type (tyD d)) (.type T) = some (isiD d T) := by
 rcases hT with rfl | rfl | rfl | rfl | rfl <;> cases d <;> (with_unfolding_all rfl)
theorem kit_any {K : PySem.W.Frag} {d : PyData} : ∀ {Ts : List String}, (∀ T ∈ Ts, five T) -> PySem.W.kitAny K (.type (tyD d)) (Ts.map Value.type) = some (Ts.any (isiD d))
  | [], _ => rfl
  | T :: r, h => by
    rw [zq4x]
    unfold PySem.W.kitAny
    rw [kit_of (h T (zq27x ..)), zq59x]
    cases isiD d T with
    | true => rfl
    | false => exact kit_any fun T m => h T (zq33x _ m)
def rIsiT : List V -> Hp -> VK -> Prop := fun xs H Q => ∃ (x : V) (tp : Addr) (Ts : List String) (nb : Addr -> Prop) (d : PyData), xs = [x, .ref tp] /\ H tp = some (.tup (Ts.map V.ty)) /\ IsD nb H d x /\ (∀ T ∈ Ts, five T) /\ Q (.bl (Ts.any (isiD d))) H
theorem vals_ty : ∀ {Ts : List String} {us : List Value}, Vals (Ts.map V.ty) us -> us = Ts.map Value.type
 | [], _, .nil => rfl
 | T :: r, _, .cons h t => by rw [zq4x, vals_ty t, show _ = Value.type T from h]
section
variable {X : Cx}
theorem call_isiT : CallR X (.builtin "isinstance") rIsiT := by
 intro pins s σ H xs us Q I rv h
 obtain ⟨x, tp, Ts, nb, d, rfl, ht, hd, h5, q⟩ := h
 obtain ⟨u, v, rfl, ru, rv⟩ := rv.two
 cases (show v = Value.ref tp from rv)
 obtain ⟨_, its, vt, o, ho, hc, n, hdat⟩ := (show ObjOk X.prog X.w H s.heap tp (.tup (Ts.map V.ty)) from I.hok tp _ ht)
 have e := vals_ty vt
 subst e
 obtain ⟨c0, d0, dt, sl⟩ := o
 dsimp only at hc hdat
 subst hc hdat
 have fin : ∀ tk, EP X pins σ Q (.bool (Ts.any (isiD d))) { s with toks := tk } := fun tk => ⟨.bl _, H, I.tok tk, rfl, q⟩
 have ka := kit_any (K := X.K) (d := d) h5
 cases d <;> unfold IsD at hd
 ·subst hd; cases (show u = Value.none from ru); exact zq80x PySem.W.kitx_none I.kIn True.intro ho ka (fun z => nomatch z) fin
 ·subst hd; cases (show u = Value.bool _ from ru); exact zq80x PySem.W.kitx_bool I.kIn True.intro ho ka (fun z => nomatch z) fin
 ·subst hd; obtain ⟨t, rfl⟩ := (show ∃ t, u = Value.int _ t from ru); exact zq80x PySem.W.kitx_int I.kIn True.intro ho ka (fun z => nomatch z) fin
 ·subst hd; obtain ⟨t, rfl⟩ := (show ∃ t, u = Value.str _ t from ru); exact zq80x PySem.W.kitx_str I.kIn True.intro ho ka (fun z => nomatch z) fin
 ·obtain ⟨a, ys, rfl, _, ea, _⟩ := hd
  cases (show u = Value.ref a from ru)
  obtain ⟨_, _, n, _, h1⟩ := (show ObjOk X.prog X.w H s.heap a (.lst ys) from I.hok a _ ea)
  exact zq80x zq138x I.kIn ⟨_, h1, rfl⟩ ho ka (fun z => nomatch z) fin
 ·obtain ⟨a, ys, rfl, _, ea, _⟩ := hd
  cases (show u = Value.ref a from ru)
  obtain ⟨_, _, _, o', h1, h2, _⟩ := (show ObjOk X.prog X.w H s.heap a (.tup ys) from I.hok a _ ea)
  exact zq80x PySem.W.kitx_tuple I.kIn ⟨o', h1, h2⟩ ho ka (fun z => nomatch z) fin
 ·obtain ⟨a, ys, rfl, _, ea, _⟩ := hd
  cases (show u = Value.ref a from ru)
  obtain ⟨_, _, vs, _, dd⟩ := (show ObjOk X.prog X.w H s.heap a (.dK ys) from ea.ok I.hok)
  exact zq80x zq115x I.kIn dd.typeIs ho ka (fun z => nomatch z) fin
end
section
variable {G : Gx} {ρ : Rh} {ta tb te : TE} {K : PySem.W.Frag} {Φ : Pd} {T U : String}
theorem Ev.isi (hT : five T) (h : Ev G ρ te fun _ x => Φ true (.bool (isiD x T))) : Ev G ρ (tCB (rIsi K) (tCons te (tCons (tC (.ty T)) tNil))) Φ := fun nb σ H Q W z =>
 h nb σ H _ W fun f v H1 d q s1 hv => ⟨v, T, _, _, rfl, tyD_of hv, kit_of hT, z true _ H1 _ q s1 (.bl _)⟩
theorem Ev.isi2 (hT : five T) (hU : five U) (h : Ev G ρ te fun _ x => Φ true (.bool (isiD x T || isiD x U))) : Ev G ρ (tCB rIsiT (tCons te (tCons (tTup (tCons (tC (.ty T)) (tCons (tC (.ty U)) tNil))) tNil))) Φ := fun nb σ H Q W z =>
 h nb σ H _ W fun f v H1 d q s1 hv => by
  refine ⟨by show 2 <= sizeLine; decide, fun p hp => ⟨v, p, [T, U], G.S nb f, d, rfl, upd_same, hv.keep (But.of (same_new hp)), fun S m => ?_, ?_⟩⟩
  ·rcases zq43x.mp m with e | m
   ·rw [e]; exact hT
   ·rw [zq12x.mp m]; exact hU
  ·rw [zq59x, zq59x, List.any_nil, zq85x]
   exact z true _ _ _ q (s1.trans (.same s1.2 (same_new hp))) (.bl _)
theorem Ev.lenS (h : Ev G ρ te fun _ x => ∃ ds, (x = .list ds \/ x = .tuple ds) /\ Φ true (.int ds.length)) : Ev G ρ (tCB (rLen K) (tCons te tNil)) Φ := fun nb σ H Q W z =>
 h nb σ H _ W fun f v H1 d ⟨ds, e, q⟩ s1 hv => by
  rcases e with e | e
  ·subst e
   obtain ⟨a, xs, rfl, n, hx, hd⟩ := hv.ofL
   exact ⟨a, xs, rfl, .inl (.of hx), by rw [hd.length]; exact z true _ H1 _ q s1 (.int _)⟩
  ·subst e
   obtain ⟨a, xs, rfl, n, hx, hd⟩ := hv.ofT
   exact ⟨a, xs, rfl, .inr (.of hx), by rw [hd.length]; exact z true _ H1 _ q s1 (.int _)⟩
theorem Ev.ixS (h : Ev G ρ ta fun f x => ∃ ds, (x = .list ds \/ x = .tuple ds) /\ Ev G ρ tb fun _ y => ∃ k, y = .int k /\ ∃ e, atI ds k = some e /\ Φ f e) : Ev G ρ (tOp (rIx K) ta tb) Φ :=
 Ev.op2 (h.mono fun f x ⟨ds, ex, q⟩ => q.mono fun g y ⟨k, ey, e, he, p⟩ nb σ H u v Q W hu hv z => by
  subst ey
  rcases ex with ex | ex
  ·subst ex
   obtain ⟨a, xs, rfl, n, hx, hd⟩ := hu.ofL
   obtain ⟨w, hw, hD⟩ := hd.atI he
   exact .inl ⟨a, xs, k, w, rfl, hv.ofI, .of hx, hw, z f _ H _ p (.refl W.bag) hD⟩
  ·subst ex
   obtain ⟨a, xs, rfl, n, hx, hd⟩ := hu.ofT
   obtain ⟨w, hw, hD⟩ := hd.atI he
   exact .inr (.inl ⟨a, xs, k, w, rfl, hv.ofI, .of hx, hw, z f _ H _ p (.refl W.bag) hD⟩))
end
theorem Callee.void {P : Program} {w : World} {K : PySem.W.Frag} {mg : Str -> Option Value} {base : Heap} {x : Str} {st : Stmt} {k : Nat} {ps : List Str} {sp : Sp} {f : Addr} {fd : FuncData} (F : Fun K x x st f fd) (b : Binds K fd ps []) (m : mg x = some (.ref f)) (hv : ∀ vs H Q E, ¬ sp vs H Q E) : Callee P w K mg base x k ps sp :=
 ⟨f, fd, ⟨fun vs H Q E h => (hv vs H Q E h).elim, fun A outer s H args us vs Q E _ _ _ _ h => (hv vs H Q E h).elim⟩, b, F.kp, m⟩
end L2
set_option maxRecDepth 100000
set_option maxHeartbeats 4000000
namespace L2
open PySem PySem.Spec PyProof.Rows
section
variable {G : Gx} {ρ ρc : Rh} {te : TE} {gt : TG} {n i : Nat} {it : Nat -> PyData -> Prop} {fi : Bool} {Θ : Bool -> List PyData -> Prop} {E : DE}
theorem scAll_ints (os : List Int) : scAll (os.map PyData.int) = true := by
 unfold scAll
 rw [zq50x]
 intro x hx
 obtain ⟨y, _, rfl⟩ := zq14x.mp hx
 rfl
theorem CompD.rel {α : Type} (φ : α -> PyData) (fl : Bool) (P : Nat -> α -> Prop) (ht : ∀ i d, it i d -> Gv G ρc gt fi d fun ρ1 => Wk ρc ρ1 /\ Ev G ρ1 te fun f e => (fl = true -> f = true) /\ ∃ r : α, e = φ r /\ P i r)
  (h : ∀ os : List α, os.length = n -> (∀ (i : Nat) x, os[i]? = some x -> P i x) -> Θ (fl || scAll (os.map φ)) (os.map φ)) : CompD G ρc n it fi gt tNoTest te Θ := by
 refine ⟨fl, fun i ds => ds.length = i /\ ∃ os : List α, ds = os.map φ /\ ∀ (i : Nat) x, os[i]? = some x -> P i x, ⟨rfl, [], rfl, fun j x e => by simp at e⟩, ?_, ?_⟩
 ·rintro i d ds hd hl ⟨hl2, os, rfl, ho⟩
  refine fun nb σ H v Q W hv z => ht i d hd nb σ H v Q W hv fun σ' ρ' ⟨w, q⟩ W' => z σ' ρ' ⟨w, Tv.noTest (iteT (q.mono fun f e ⟨hf, r, ee, hr⟩ => ⟨hf, ?_, os ++ [r], ?_, fun j x hj => ?_⟩))⟩ W'
  ·rw [zq22x, zq60x, hl2]
  ·rw [ee]; simp
  ·rw [zq0x] at hl2
   rcases Nat.lt_trichotomy j os.length with h | h | h
   ·exact ho j x (by rwa [zq45x h] at hj)
   ·subst h
    simp at hj
    subst hj
    rw [hl2]; exact hr
   ·rw [zq89x (by rw [zq22x, zq60x]; omega)] at hj
    cases hj
 ·rintro ds hl ⟨hl2, os, rfl, ho⟩
  exact h os (by rw [zq0x] at hl2; exact hl2) ho
theorem Sv.asgNil (h : ∀ a, E.nx (ρ.set i (.own a true []))) : Sv G ρ (tAsg (tLst tNil) (gName i)) E := Sv.asgN (EvN.lst (Av.nil ⟨by decide, fun a => h a⟩))
end
def rIsB : R2 := fun x y H Q => ∃ a b : Bool, x = .bl a /\ y = .bl b /\ Q (.bl (a == b)) H
theorem op_isB {X : Cx} : OpR X (compareOp .Is) rIsB := by
 intro pins s σ H x y v u Q I rx ry h
 obtain ⟨a, b, rfl, rfl, q⟩ := h
 cases (show v = Value.bool a from rx)
 cases (show u = Value.bool b from ry)
 have : compareOp .Is (Value.bool a) (Value.bool b) = pure (Value.bool (a == b)) := by cases a <;> cases b <;> rfl
 rw [this]
 exact wpAny_pure ⟨.bl _, H, I, rfl, q⟩
theorem Ev.isB {G : Gx} {ρ : Rh} {ta : TE} {b : Bool} {Φ : Pd} (h : Ev G ρ ta fun _ x => ∃ a, x = .bool a /\ Φ true (.bool (a == b))) : Ev G ρ (tOp rIsB ta (tC (.bl b))) Φ := fun nb σ H Q W z =>
 h nb σ H _ W fun f v H1 d ⟨a, e, q⟩ s1 hv => by
  subst e
  unfold IsD at hv
  subst hv
  exact ⟨a, b, rfl, rfl, z true _ H1 _ q s1 (.bl _)⟩
theorem pt_truthK {X : Cx} {K : PySem.W.Frag} {a : Expr} {ta : TE} (hK : X.K = K) (ha : PE X a ta) (he : ∀ whole, isTrue a X.env whole = (do let v <- whole; standAt a.pos; holding [v] (truthy v))) : PT X a (tTruth K ta) := by
 subst hK
 exact pt_truth ha he
theorem pg_tupM {X : Cx} {K : PySem.W.Frag} {es : List Expr} {k : Nat} {t : TGs} {n : Nat} {pos : Pos} (hK : X.K = K) (hc : X.calm = true) (h : PGs X es t) (hn : (assignEach es X.env).length = n := by rfl) (hst : (assignEach es X.env).findIdx? (·.1) = none := by rfl) : PG X (.Tuple es k pos) (gTup K n t) := by
 subst hK
 exact pg_tup hc h hn hst
theorem eqv_nil (ds : List PyData) : PyData.eqv (.list ds) (.list []) = ds.isEmpty := by cases ds <;> simp [PyData.eqv, PyData.eqvAll]
theorem shaped_checks (cs : List Prs) : PyData.depthAll (cs.map prsD) <= 2 /\ PyData.canLayAll0 (cs.map prsD) = true := by
  induction cs with
  | nil => simp [PyData.depthAll, PyData.canLayAll0]
  | cons a r ih =>
    have h := shaped_pairs a
    simp [PyData.depthAll, PyData.depth, PyData.canLayAll0, PyData.canLay0, ih.2, h.2.2]
    have := ih.1
    have := h.2.1
    omega
theorem Sv.conseq {G : Gx} {ρ : Rh} {s : TS} {E : DE} (I : Rh -> Prop) (h : Sv G ρ s { E with nx := I }) (hI : ∀ ρ', I ρ' -> E.nx ρ') : Sv G ρ s E := fun nb σ H D W K => h nb σ H D W ⟨fun nb ρ σ H q W => K.nx nb ρ σ H (hI ρ q) W, K.bk, K.ct, K.rt, K.rw⟩
theorem pick {L : List Int} {k : Int} (h0 : 0 <= k) (h1 : k < L.length) (P : Int -> Prop) (hP : ∀ x ∈ L, P x) : ∃ x, atI (L.map PyData.int) k = some (.int x) /\ P x := by
 have hL : k.toNat < L.length := by omega
 exact ⟨L[k.toNat], atI_some h0 (by rw [zq13x, zq1x hL]; rfl), hP _ (zq40x hL)⟩
end L2
set_option maxRecDepth 100000
set_option maxHeartbeats 4000000
namespace L2
open PySem PySem.Spec PyProof.Rows
theorem cut_to {α : Type} {xs : List α} {k : Int} (h0 : 0 <= k) (h1 : k <= xs.length) : cutA xs none (some k) = xs.take k.toNat := by
 unfold cutA HT.sIx
 simp only [zq143x, Nat.sub_zero]
 congr 1
 first | omega | (split <;> omega)
theorem cut_from {α : Type} {xs : List α} {k : Int} (h0 : 0 <= k) (h1 : k <= xs.length) : cutA xs (some k) none = xs.drop k.toNat := by
 have e : HT.sIx xs.length 0 (some k) = k.toNat := by
  show (if k < 0 then _ else _) = _
  rw [if_neg (by omega)]; omega
 unfold cutA
 rw [e, HT.sIx_none]
 exact zq117x (by rw [List.length_drop]; omega)
end L2
set_option maxRecDepth 100000
set_option maxHeartbeats 4000000
namespace L2
open PySem PySem.Spec PyProof.Rows
theorem eqvAll_ints : ∀ xs ys : List Int, PyData.eqvAll (xs.map PyData.int) (ys.map PyData.int) = decide (xs = ys)
  | [], [] => by simp [PyData.eqvAll]
  | [], y :: ys => by simp [PyData.eqvAll]
  | x :: xs, [] => by simp [PyData.eqvAll]
  | x :: xs, y :: ys => by
    simp only [zq4x, PyData.eqvAll, eqvAll_ints xs ys]
    have : PyData.eqv (.int x) (.int y) = decide (x = y) := by rw [zq46x]; simp [PyData.eqv]
    rw [this, zq46x]
    simp
theorem eqv_ints (xs ys : List Int) : PyData.eqv (.list (xs.map .int)) (.list (ys.map .int)) = decide (xs = ys) := by
 simp only [PyData.eqv]
 exact eqvAll_ints xs ys
theorem shaped_ints (xs : List Int) : SeqAt.shaped (.list (xs.map .int)) = true := by
 have h := shaped_word (xs.map some)
 have e : (xs.map some).map optD = xs.map PyData.int := by rw [zq57x]; rfl
 rw [e] at h
 unfold SeqAt.shaped
 simp [PyData.canLay0, PyData.depth, h.1, h.2]
end L2
set_option maxRecDepth 100000
set_option maxHeartbeats 4000000
namespace L2
open PySem PySem.Spec PyProof.Rows
def tRev (K : PySem.W.Frag) (te : TE) (ts : TO) : TE := fun σ H Q => te σ H fun x H1 => ts σ H1 fun k H2 => k = some (-1) /\ ∃ a xs, x = .ref a /\ SqL K H2 a xs /\ ∀ p, H2 p = none -> Q (.ref p) (upd H2 p (.lst xs.reverse))
theorem IsDs.rev {nb : Addr -> Prop} {H : Hp} : ∀ {ds : List PyData} {xs : List V}, IsDs nb H ds xs -> IsDs nb H ds.reverse xs.reverse
  | [], xs, h => by unfold IsDs at h; subst h; exact .nil
  | d :: ds, xs, h => by
    unfold IsDs at h
    obtain ⟨y, ys, e, h1, h2⟩ := h
    subst e
    rw [List.reverse_cons, List.reverse_cons]
    exact IsDs.append (IsDs.rev h2) (.cons h1 .nil)
section
variable {G : Gx} {ρ : Rh} {Φ : Pd} {ta tb te : TE} {K : PySem.W.Frag}
theorem EvN.rev {ts : TO} {Θ : Bool -> List PyData -> Prop} (h : Ev G ρ te fun f x => ∃ ds, x = .list ds /\ Ov G ρ ts fun o => o = some (-1) /\ Θ (f || scAll ds.reverse) ds.reverse) : EvN G ρ (tRev K te ts) Θ := fun nb σ H Q W z =>
 h nb σ H _ W fun f v H1 d ⟨ds, e, q⟩ s1 hv => q nb σ H1 _ (W.step s1) fun o H2 ⟨eo, q2⟩ s2 => by
  subst e
  obtain ⟨a, xs, rfl, n, hx, hd⟩ := (hv.keep s2.butS).ofL
  exact ⟨eo, a, xs, rfl, .of hx, fun p hp => EvN.fin W (s1.trans s2) hp hd.rev q2 z⟩
theorem Ev.rev {ts : TO} (h : Ev G ρ te fun f x => ∃ ds, x = .list ds /\ Ov G ρ ts fun o => o = some (-1) /\ Φ (f || scAll ds.reverse) (.list ds.reverse)) : Ev G ρ (tRev K te ts) Φ := (EvN.rev (Θ := fun f ds => Φ f (.list ds)) h).ev
theorem op_inK {X : Cx} {K : PySem.W.Frag} (hK : X.K = K) : OpR X (compareOp .In) (rIn K false) := by subst hK; exact op_in_seq
theorem op_notInK {X : Cx} {K : PySem.W.Frag} (hK : X.K = K) : OpR X (compareOp .NotIn) (rIn K true) := by subst hK; exact op_notIn_seq
theorem Ev.inI {ng : Bool} (h : Ev G ρ ta fun _ x => ∃ k : Int, x = .int k /\ Ev G ρ tb fun _ y => ∃ ns : List Int, y = .list (ns.map .int) /\ Φ true (.bool (decide (k ∈ ns) != ng))) : Ev G ρ (tOp (rIn K ng) ta tb) Φ := fun nb σ H Q W z =>
 h nb σ H _ W fun f v H1 d ⟨k, e, q⟩ s1 hv => q nb σ H1 _ (W.step s1) fun g u H2 d2 ⟨ns, e2, p⟩ s2 hu => by
  subst e e2
  have hk := hv.ofI
  subst hk
  obtain ⟨a, xs, rfl, na, hx, hd⟩ := hu.ofL
  have ex := isDs_ints_eq hd
  subst ex
  refine ⟨a, ns.map V.int, rfl, .inl (.of hx), rfl, ?_, ?_⟩
  ·rw [zq50x]
   intro x hx
   obtain ⟨o, _, rfl⟩ := zq14x.mp hx
   rfl
  ·have e : inV (V.int k) (ns.map V.int) = decide (k ∈ ns) := by
    unfold inV
    rw [List.any_map, zq46x, zq144x, decide_eq_true_eq]
    constructor
    ·rintro ⟨o, m, h⟩
     have : o = k := eq_of_beq h
     exact this ▸ m
    ·intro m
     exact ⟨k, m, beq_self_eq_true k⟩
   have e2 : (if ng = true then !inV (V.int k) (ns.map V.int) else inV (V.int k) (ns.map V.int)) = (decide (k ∈ ns) != ng) := by
    rw [e]
    cases ng <;> simp
   rw [e2]
   exact z true _ H2 _ p (s1.trans s2) (.bl _)
end
theorem shaped_net1 (p n : Int) (cs : List Prs) : SeqAt.shaped (netD p n cs) = true := by
 have h1 := shaped_checks cs
 unfold SeqAt.shaped netD
 simp [PyData.canLay0, PyData.canLayAll0, PyData.depth, PyData.depthAll, h1.2]
 have := h1.1
 omega
end L2
set_option maxRecDepth 100000
set_option maxHeartbeats 1000000
namespace PC
def PrimeN (n : Nat) : Prop := 2 <= n /\ ∀ d, d ∣ n -> d = 1 \/ d = n
def tr (q : Nat) : Nat -> Nat -> Bool
 | 0, _ => false
 | f + 1, d => if q < d * d then true else if q % d = 0 then false else tr q f (d + 1)
theorem prime_of_no {q : Nat} (h2 : 2 <= q) (h : ∀ e, 2 <= e -> e * e <= q -> q % e ≠ 0) : PrimeN q := by
 refine ⟨h2, fun d hd => ?_⟩
 obtain ⟨e, he⟩ := hd
 by_cases d1 : d = 1
 ·exact .inl d1
 by_cases e1 : e = 1
 ·right; rw [he, e1, Nat.mul_one]
 exfalso
 have d0 : d ≠ 0 := fun z => by rw [z, Nat.zero_mul] at he; omega
 have e0 : e ≠ 0 := fun z => by rw [z, Nat.mul_zero] at he; omega
 by_cases hle : d <= e
 ·refine h d (by omega) (by rw [he]; exact Nat.mul_le_mul_left d hle) ?_
  rw [he]; exact Nat.mul_mod_right d e
 ·refine h e (by omega) (by rw [he]; exact zq181x e (by omega)) ?_
  rw [he]; exact Nat.mul_mod_left d e
def pw (N : Nat) : Nat -> Nat -> Nat -> Nat -> Nat
 | 0, _, _, acc => acc
 | f + 1, e, g, acc => pw N f (e / 2) (g * g % N) (if e % 2 = 1 then acc * g % N else acc)
end PC
set_option maxRecDepth 100000
set_option maxHeartbeats 1000000
namespace L2
open PC
def PrimeZ (p : Int) : Prop := 2 <= p /\ ∀ d : Int, 0 < d -> d ∣ p -> d = 1 \/ d = p
theorem primeZ_of {n : Nat} (h : PrimeN n) : PrimeZ (n : Int) := by
 refine ⟨by have := h.1; omega, fun d d0 hd => ?_⟩
 obtain ⟨k, rfl⟩ := zq145x (zq118x d0)
 rcases h.2 k (Int.natCast_dvd_natCast.mp hd) with e | e
 ·left; rw [e]; rfl
 ·right; rw [e]
theorem primeZ_no {p : Int} (h2 : 2 <= p) (h : NoDiv p) : PrimeZ p := by
 obtain ⟨n, rfl⟩ := zq145x (show 0 <= p by omega)
 refine primeZ_of (prime_of_no (by omega) fun e e1 e2 e3 => ?_)
 refine h (e : Int) (by omega) (by rw [<- Int.natCast_mul]; exact Int.ofNat_le.mpr e2) ?_
 have := congrArg (Nat.cast : Nat -> Int) e3
 simpa using this
end L2
set_option maxRecDepth 100000
set_option maxHeartbeats 4000000
set_option maxRecDepth 100000
set_option maxHeartbeats 4000000
namespace L2
open PySem PySem.Spec PyProof.Rows
section
variable {X : Cx} {pins : List (Addr × Obj)} {σ : List (Option V)} {H : Hp} {s : Shared} {h' : Heap}
theorem Inv.turnedLaid {t' : Nat} {e it T : Addr} {o : HO} (I : Inv X pins σ H s) (k : ∀ b u, b ≠ e -> b ≠ it -> s.heap.get? b = some u -> h'.get? b = some u) (fe : FpOk X pins H e) (fi : FpOk X pins H it) (hT : s.heap.objs.size <= T) (hTe : T ≠ e) (hTi : T ≠ it)
  (le : ∃ u, s.heap.get? e = some u) (li : ∃ u, s.heap.get? it = some u) (new : ObjOk X.prog X.w (upd H T o) h' T o) : Inv X pins σ (upd H T o) { s with heap := h', toks := t' } := by
 have hn := I.hok.fresh hT
 obtain ⟨e0, e1, e2, e3, e4, e5⟩ := fe
 obtain ⟨i0, i1, i2, i3, i4, i5⟩ := fi
 have ne : ∀ b u, H b = some u -> b ≠ e := fun b u q z => by rw [z, e0] at q; cases q
 have ni : ∀ b u, H b = some u -> b ≠ it := fun b u q z => by rw [z, i0] at q; cases q
 have nT : ∀ b u, H b = some u -> b ≠ T := fun b u q z => by rw [z, hn] at q; cases q
 refine I.step (g' := s.gens) (d' := s.drawn) (ch := [e, it]) (fun b hb => ?_) (fun b o _ _ hc q _ => k b o (fun z => hc (by simp [z])) (fun z => hc (by simp [z])) q) (fun b o _ _ hc q _ => ⟨o.slots, k b o (fun z => hc (by simp [z])) (fun z => hc (by simp [z])) q⟩)
  (fun b o hc q n => ?_) (fun b o hc q => ⟨o, k b o (fun z => hc (by simp [z])) (fun z => hc (by simp [z])) q⟩) (fun b xs q => by rw [upd_ne (nT b _ q)]; exact q) (fun b o u q => by rw [upd_ne (nT b _ q)]; exact q) (fun b ps q => ⟨#[], by rw [upd_ne (nT b _ q), q]; simp⟩) (fun m hm => ?_) (fun b u q => ?_) I.bare
 ·rcases (show b = e \/ b = it by simpa using hb) with z | z
  ·subst z; exact ⟨e3, e1, e4, e5⟩
  ·subst z; exact ⟨i3, i1, i4, i5⟩
 ·rw [upd_ne (fun z => absurd (zq28x (zq9x q) (by rw [z]; exact hT)) (zq53x _))]; exact n
 ·obtain ⟨o, es, ep, ho, r⟩ := hm
  exact ⟨o, es, ep, k _ o (zq11x e1) (zq11x i1) ho, r⟩
 ·by_cases hb : b = T
  ·subst hb; rw [upd_same] at q; cases q; exact new
  ·rw [upd_ne hb] at q
   refine (I.hok b u q).stay (fun c v hc z => ?_) (fun c z => by rw [upd_ne (nT c _ z)]; exact z) fun c xs z => by rw [upd_ne (nT c _ z)]; exact z
   rcases hc with y | y
   ·subst y; exact k _ v (ne _ u q) (ni _ u q) z
   ·exact k c v (ne c _ y) (ni c _ y) z
theorem Inv.turned2 {t' : Nat} {e it : Addr} (I : Inv X pins σ H s) (k : ∀ b u, b ≠ e -> b ≠ it -> s.heap.get? b = some u -> h'.get? b = some u) (fe : FpOk X pins H e) (fi : FpOk X pins H it) : Inv X pins σ H { s with heap := h', toks := t' } := by
 obtain ⟨e0, e1, e2, e3, e4, e5⟩ := fe
 obtain ⟨i0, i1, i2, i3, i4, i5⟩ := fi
 have ne : ∀ b u, H b = some u -> b ≠ e := fun b u q z => by rw [z, e0] at q; cases q
 have ni : ∀ b u, H b = some u -> b ≠ it := fun b u q z => by rw [z, i0] at q; cases q
 refine I.step (g' := s.gens) (d' := s.drawn) (ch := [e, it]) (fun b hb => ?_) (fun b o _ _ hc q _ => k b o (fun z => hc (by simp [z])) (fun z => hc (by simp [z])) q) (fun b o _ _ hc q _ => ⟨o.slots, k b o (fun z => hc (by simp [z])) (fun z => hc (by simp [z])) q⟩)
  (fun _ _ _ _ n => n) (fun b o hc q => ⟨o, k b o (fun z => hc (by simp [z])) (fun z => hc (by simp [z])) q⟩) (fun _ _ q => q) (fun _ _ _ q => q) (fun b ps q => ⟨#[], by rw [q]; simp⟩) (fun m hm => ?_) (fun b u q => ?_) I.bare
 ·rcases (show b = e \/ b = it by simpa using hb) with z | z
  ·subst z; exact ⟨e3, e1, e4, e5⟩
  ·subst z; exact ⟨i3, i1, i4, i5⟩
 ·obtain ⟨o, es, ep, ho, r⟩ := hm
  exact ⟨o, es, ep, k _ o (zq11x e1) (zq11x i1) ho, r⟩
 ·refine (I.hok b u q).stay (fun c v hc z => ?_) (fun c z => z) fun c xs z => z
  rcases hc with y | y
  ·subst y; exact k _ v (ne _ u q) (ni _ u q) z
  ·exact k c v (ne c _ y) (ni c _ y) z
end
def Ite (K : PySem.W.Frag) (a : Addr) : It :=
 ⟨fun i H => ∃ xs x, SqL K H a xs /\ xs[i]? = some x, fun i H x H' => ∃ p y, x = .ref p /\ H p = none /\ (∀ xs, SqL K H a xs -> xs[i]? = some y) /\ H' = upd H p (.tup [.int i, y]), fun i H => ∃ xs, SqL K H a xs /\ xs.length = i⟩
theorem turn_enum {P : Program} {w : World} {K : PySem.W.Frag} {elts : List Expr} {k : Nat} {pos : Pos} (a e it : Addr) (hei : e ≠ it) :
  Turn P w K (.Tuple elts k pos) (Ite K a) [e, it] e (fun i h => (∃ old, IsEnum h e it i old) /\ h.IsListIter it a i) where
 mem := by simp
 obj := fun i h st b hb => by
  obtain ⟨⟨old, s1⟩, ⟨o, e1, c, d⟩⟩ := st
  rcases (show b = e \/ b = it by simpa using hb) with z | z
  ·subst z
   exact ⟨_, s1, fun v z => by
    have z' : Data.fields _ = Data.cell v := z
    cases z'⟩
  ·subst z
   exact ⟨o, e1, fun v z => by rw [d] at z; cases z⟩
 keep := fun i h h' st k => ⟨let ⟨old, s1⟩ := st.1; ⟨old, k e (by simp) _ s1⟩, st.2.at fun o q => k it (by simp) o q⟩
 item := by
  intro X hP hw hK hc i pins s σ H E I hf st hg
  subst hP hw hK
  obtain ⟨xs, x, hq, hx⟩ := hg
  obtain ⟨its, rv, p, hz⟩ := I.list hq
  obtain ⟨u, hu, ru⟩ := rv.get hx
  have fe := hf e (by simp)
  have fi := hf it (by simp)
  obtain ⟨⟨old, s1⟩, s2⟩ := st
  obtain ⟨ol, l1, l2, l3⟩ := id p.isList
  obtain ⟨oi, i1, i2, i3⟩ := id s2
  have hae : a ≠ e := fun z => by
   subst z
   rw [s1] at l1; cases l1
   exact absurd l2 (by simp)
  have hai : a ≠ it := fun z => by
   subst z
   rw [i1] at l1; cases l1
   rw [i2] at l2
   exact absurd l2 (by simp)
  have W := WalksT.enumerate (prog := X.prog) (w := X.w) (I.ok.hd hc) e it a hei hae hai its.toArray
  have hi : i < its.toArray.size := by
   have := (zq2x.mp hu).1
   simpa using this
  refine W.item i s _ _ hi ⟨⟨old, s1⟩, s2, p.isList⟩ fun T vals h' tk hv hT hTup hMid kp => ⟨.ref T, rfl, ?_⟩
  refine W.go elts k pos i T _ _ _ hMid fun h'' st' kp2 => ?_
  obtain ⟨t, x', hx', hvv⟩ := hv
  have hxu : x' = u := by
   have : its.toArray[i]? = some u := by simpa using hu
   rw [hx'] at this; exact zq31x this
  subst hxu hvv
  have hTw := W.apart i T h' hMid
  obtain ⟨_, _, _, hTe, hTi⟩ := hMid
  obtain ⟨oT, t1, t2, nT, t3⟩ := hTup
  have t1' := kp2 T oT hTw t1
  refine ⟨.ref T, upd H T (.tup [.int i, x]), I.turnedLaid (fun b v h1 h2 q => kp2 b v (by simp [h1, h2]) (kp b v (by simp [h1, h2]) q)) fe fi hT hTe hTi ⟨_, s1⟩ ⟨_, i1⟩ ?_, rfl, ⟨T, x, rfl, I.hok.fresh hT, fun ys hy => by rw [I.list_inj hy hq]; exact hx, rfl⟩, ⟨st'.1, st'.2.1⟩, fun b hb => ?_⟩
  ·exact ⟨by show 2 <= sizeLine; decide, [.int i t, x'], .cons ⟨t, rfl⟩ (.cons ru .nil), oT, t1', t2, nT, t3⟩
  ·rw [upd_ne, (hf b hb).1]
   rcases (show b = e \/ b = it by simpa using hb) with z | z
   ·rw [z]; exact zq11x hTe
   ·rw [z]; exact zq11x hTi
 done := by
  intro X hP hw hK hc i pins s σ H E I hf st hg
  subst hP hw hK
  obtain ⟨xs, hq, hx⟩ := hg
  obtain ⟨its, rv, p, hz⟩ := I.list hq
  have fe := hf e (by simp)
  have fi := hf it (by simp)
  obtain ⟨⟨old, s1⟩, s2⟩ := st
  obtain ⟨ol, l1, l2, l3⟩ := id p.isList
  obtain ⟨oi, i1, i2, i3⟩ := id s2
  have hl := rv.length
  have hae : a ≠ e := fun z => by
   subst z
   rw [s1] at l1; cases l1
   exact absurd l2 (by simp)
  have hai : a ≠ it := fun z => by
   subst z
   rw [i1] at l1; cases l1
   rw [i2] at l2
   exact absurd l2 (by simp)
  have W := WalksT.enumerate (prog := X.prog) (w := X.w) (I.ok.hd hc) e it a hei hae hai its.toArray
  have hn : its.toArray.size = i := by rw [zq21x]; omega
  refine W.done s _ _ (by rw [hn]; exact ⟨⟨old, s1⟩, s2, p.isList⟩) fun h' tk kp => ⟨rfl, ?_⟩
  exact I.turned2 (fun b v h1 h2 q => kp b v (by simp [h1, h2]) q) fe fi
 self := fun _ _ _ _ _ st h => let ⟨old, s1⟩ := st.1; wpAny_pyIter_enum s1 h
def iEnum (K : PySem.W.Frag) (tl : TE) : TI := fun σ H R => tl σ H fun x H1 => ∃ a, x = .ref a /\ (∃ xs, SqL K H1 a xs) /\ R (Ite K a) H1
theorem pi_enum {X : Cx} {K : PySem.W.Frag} {elts : List Expr} {k : Nat} {tpos : Pos} {l : Expr} {tl : TE} {p pos : Pos} (hK : X.K = K) (hg : Gl X "enumerate") (hm : X.mg "enumerate" = none) (hl : PE X l tl) (hs : starEach [l] X.env = [(false, eval l X.env)] := by rfl) :
    PI X (.Tuple elts k tpos) (.Call (.Name "enumerate" p) [l] [] pos) (iEnum K tl) := by
  subst hK
  intro pins s σ H R I h
  have ha : PA X [l] (tCons tl tNil) := pa_cons hl pa_nil (by rw [hs]; rfl)
  refine Call_ (ld_blt I hg hm boot_enumerate (zq114x (thn (ha pos pins s σ H (fun vs H1 => match vs with | [x] => ∃ a, x = .ref a /\ (∃ xs, SqL X.K H1 a xs) /\ R (Ite X.K a) H1 | _ => False) I h) fun us s1 ⟨vs, H1, I1, r1, q1⟩ => ?_) hs rfl))
  cases r1 with
  | nil => exact q1.elim
  | cons r rr =>
    cases rr with
    | cons _ _ => exact q1.elim
    | nil =>
    obtain ⟨a, e2, ⟨xs, hq⟩, q⟩ := q1
    subst e2
    cases r
    obtain ⟨its, rv, p, hz⟩ := I1.list hq
    obtain ⟨m, hn, _⟩ := I1.loc
    refine enum_rows (h₀ := { objs := #[] }) (L := X.env.locals) (m := m) ⟨hn, fun b o z => ?_, zq34x _⟩ p.isList fun h' e1 e2 e3 e4 kp ne n1 n2 _ _ => ?_
    · cases z
    refine wpAny_pyIter_enum e1 ?_
    have I2 : Inv X pins σ H1 { s1 with heap := h' } := I1.kept (t' := s1.toks) kp
    refine ⟨s1.heap.objs.size + 1, [s1.heap.objs.size + 1, s1.heap.objs.size], _, _, H1, rfl, I2, turn_enum a _ _ ne, ⟨⟨_, e1⟩, e2⟩, fun b hb => ?_, q⟩
    rcases (show b = s1.heap.objs.size + 1 \/ b = s1.heap.objs.size by simpa using hb) with z | z
    · subst z; exact I1.fpOk (zq65x _) (I1.hok.fresh (zq65x _))
    · subst z; exact I1.fpOk (zq3x _) (I1.hok.fresh (zq3x _))
end L2
set_option maxRecDepth 100000
set_option maxHeartbeats 4000000
namespace L2
open PySem PySem.Spec PyProof.Rows
theorem R.comp_enum {K : PySem.W.Frag} {a : Addr} {xs : List V} {g : TG} {tc : TT} {te : TE} {acc : Addr} {Qe : Hp -> Prop} {σ : St} {H : Hp} (Pv : Nat -> St -> Hp -> Prop) (h0 : Pv 0 σ H) (hl : ∀ i σ H, i <= xs.length -> Pv i σ H -> SqL K H a xs)
  (hs : ∀ i x σ H p, xs[i]? = some x -> Pv i σ H -> H p = none -> g (.ref p) σ (upd H p (.tup [.int i, x])) fun σ2 H2 => tc σ2 H2 fun b H3 => if b = true then te σ2 H3 fun v H4 => ∃ ys, H4 acc = some (.lst ys) /\ ys.length < sizeLine /\ Pv (i + 1) σ2 (upd H4 acc (.lst (ys ++ [v]))) else Pv (i + 1) σ2 H3)
  (hd : ∀ σ H, Pv xs.length σ H -> Qe H) : CompW (Ite K a) g tc te acc Qe σ H := by
 refine ⟨fun i m σ H => m = xs.length - i /\ i <= xs.length /\ Pv i σ H, ⟨xs.length, by simp, zq34x _, h0⟩, ?_⟩
 rintro i m σ H ⟨rfl, hi, p⟩
 have q := hl i σ H hi p
 by_cases hlt : i < xs.length
 ·refine .inr ⟨⟨xs, xs[i], q, by simp [hlt]⟩, Pv (i + 1), fun σ' H' p' => ⟨xs.length - (i + 1), by omega, rfl, hlt, p'⟩, fun x H' y => ?_⟩
  obtain ⟨pp, y, e, hn, hy, e2⟩ := y
  subst e e2
  exact hs i y σ H pp (hy xs q) p hn
 ·have e : i = xs.length := by omega
  subst e
  exact .inl ⟨⟨xs, q, rfl⟩, hd σ H p⟩
section
variable {G : Gx} {ρ ρc : Rh} {te : TE} {s : TS} {gt : TG} {E : DE} {K : PySem.W.Frag} {Θ : Bool -> List PyData -> Prop} {tc : TT} {mp : List (Option Nat)}
theorem EvN.compE {t0 : TE} (hm : (mp.filterMap id).Nodup) (hρ : startR mp ρ = ρc) (h : Ev G ρ t0 fun fi x => ∃ es, x = .list es /\ es.length <= 10000 /\ ∀ v, CompD (G.hd fi (.list es) v) ρc es.length (fun i d => ∃ e, es[i]? = some e /\ d = .tuple [.int i, e]) fi gt tc te Θ) : EvN G ρ (tComp (iEnum K t0) gt tc te mp) Θ := fun nb σ H Q W z =>
 h nb σ H _ W fun fi v H1 x ⟨es, ex, hn, q⟩ s1 hv => by
  subst ex
  obtain ⟨fl, I, h0, ht, he⟩ := q v
  have W0 := (W.step s1).hd hv
  obtain ⟨a, xs, rfl, n, hx, hd⟩ := hv.ofL
  refine ⟨a, rfl, ⟨xs, .of hx⟩, fun acc hacc => ?_⟩
  have W0' : Wd (G.hd fi (.list es) (.ref a)) nb ρc (L2.startC mp σ) H1 := by rw [<- hρ]; exact W0.startC hm
  have W1 := W0'.more hacc (o := .lst [])
  have hN := NB.new s1.2 hacc
  have hno := no_own W0' hacc
  have st0 : Step G.B H1 (upd H1 acc (.lst [])) := .same s1.2 (same_new hacc)
  have hNa : NB G.B a := zq54x fun z => n (.inr (.inr (.inl z)))
  refine R.comp_enum (xs := xs) (fun i σ H => ∃ ds ys, Wd (G.hd fi (.list es) (.ref a)) (fun x => nb x \/ x = acc) ρc σ H /\ Step G.B H1 H /\ H acc = some (.lst ys) /\ IsDs (G.S (fun x => nb x \/ x = acc) fl) H ds ys /\ ds.length <= i /\ I i ds /\ H a = some (.lst xs)) ⟨[], [], W1, st0, upd_same, .nil, zq3x _, h0, st0.1 _ _ hNa hx⟩ ?_ ?_ ?_
  ·rintro i σ H hi ⟨ds, ys, W, st, _, _, _, _, ha⟩
   exact .of ha
  ·rintro i x σ H p hi ⟨ds, ys, W, st, hy, hd', hl, hI, ha⟩ hp
   obtain ⟨a', xs', e', _, h', d'⟩ := W.unhd.2.ofL
   cases e'
   rw [ha] at h'; cases h'
   have hil : i < es.length := by have := (zq2x.mp hi).1; have := d'.length; omega
   obtain ⟨x', hx', dx⟩ := d'.get (zq1x hil)
   rw [hi] at hx'; cases hx'
   have st2 : Step (G.hd fi (.list es) (.ref a)).B H (upd H p (.tup [.int i, x])) := .same W.bag (same_new hp)
   have hap : acc ≠ p := fun z => by subst z; rw [hp] at hy; cases hy
   have haa : a ≠ p := fun z => by subst z; rw [hp] at ha; cases ha
   refine comp_turn (G := G.hd fi (.list es) (.ref a)) hn hil (W.step st2) (.inr rfl) hN hno (st.trans st2) hacc (by rw [upd_ne hap]; exact hy) (hd'.keep st2.butS) hl (.tup (W.fresh hp) upd_same (.cons (.int _) (.cons (dx.keep st2.butS) .nil))) (ht i _ ds ⟨_, zq1x hil, rfl⟩ hl hI) fun σ' H' ds' xs' W' st' hx' hd' hl' hI' => ⟨ds', xs', W', st', hx', hd', hl', hI', st'.1 _ _ hNa hx⟩
  ·rintro σ H' ⟨ds, ys, W', st, hy, hd', hl, hI, _⟩
   rw [hd.length] at hl hI
   exact comp_end W s1 hacc st hy hd' (he ds hl hI) z
end
end L2
set_option maxRecDepth 100000
set_option maxHeartbeats 4000000
namespace L2
open PySem PySem.Spec PyProof.Rows
section
variable {G : Gx} {ρ : Rh} {Φ : Pd} {te : TE} {t : TA} {i n : Nat} {f : Bool} {ds : List PyData} {Θ : List PyData -> Prop}
theorem Ev.tupS (h : Av G ρ t fun es => es.length <= 10000 /\ Φ (allF es || scAll (es.map (·.2))) (.tuple (es.map (·.2)))) : Ev G ρ (tTup t) Φ := fun nb σ H Q W z =>
 h nb σ H _ W fun es vs H1 ⟨hl, p⟩ s1 q1 => ⟨zq16x (by rw [q1.len]; exact hl) (by decide), fun a ha => z _ _ _ _ p (s1.trans (.same (W.step s1).bag (same_new ha))) (by
  cases hs : scAll (es.map (·.2)) with
  | true => rw [zq119x]; exact .tup ((W.step s1).fresh ha) upd_same ((q1.all (f := false) fun z => by cases z).scAny hs)
  | false => rw [zq85x]; exact .tup ((W.step s1).fresh ha) upd_same ((q1.all fun z => z).keep (But.of (same_new ha))))⟩
theorem Ev.primeFrom (h : Ev G ρ te fun _ x => ∃ n : Int, x = .int n /\ 2 <= n /\ n <= 10002 /\ ∀ r : Int, PrimeZ r -> r < 10 ^ 40 -> Φ true (.int r)) : Ev G ρ (tCall spPrimeFrom [] E0 (tCons te tNil)) Φ := fun nb σ H Q W z =>
 h nb σ H _ W fun f v H1 d ⟨n, e, h1, h2, p⟩ s1 hv => by
  subst e
  exact ⟨n, by rw [hv.ofI]; rfl, h1, h2, fun r H' sm r1 r2 r3 => z true _ H' _ (p r (primeZ_no r1 r3) (by omega)) (s1.trans (.same (W.step s1).bag sm)) (.int r)⟩
theorem Ev.str {x : Str} (h : Φ true (.str x)) : Ev G ρ (tC (.str x)) Φ := fun nb σ H Q W z => z true _ H _ h (.refl W.bag) (by unfold IsD; rfl)
end
noncomputable def sol (p b a : Int) : Int := open Classical in if h : ∃ x, 0 <= x /\ x < p /\ ∃ k, b * x - a = p * k then Classical.choose h else 0
theorem pi_listK {X : Cx} {K : PySem.W.Frag} {tg l : Expr} {tl : TE} (hK : X.K = K) (hl : PE X l tl) : PI X tg l (iList K tl) := by subst hK; exact pi_list hl
theorem lookup_relabel {env : Env} {n : Str} {l : List (Str × NameKind)} : (List.lookup n l = some .cell \/ List.lookup n l = some .free) ->
    (List.lookup n (l.map fun x => match x with | (n, k) => if (k == NameKind.free && env.scope.kind == ScopeKind.function && env.kindOf n == some NameKind.cell) = true then (n, NameKind.cell) else (n, k)) = some .cell \/
     List.lookup n (l.map fun x => match x with | (n, k) => if (k == NameKind.free && env.scope.kind == ScopeKind.function && env.kindOf n == some NameKind.cell) = true then (n, NameKind.cell) else (n, k)) = some .free) := by
  induction l with
  | nil => intro h; simpa using h
  | cons a r ih =>
    obtain ⟨m, k⟩ := a
    intro h
    rw [zq4x]
    by_cases c : n = m
    · subst c
      rw [zq146x] at h
      dsimp only
      split
      · rw [zq146x]; exact .inl rfl
      · rw [zq146x]; exact h
    · have hb : (n == m) = false := by simpa using c
      have e1 : List.lookup n ((m, k) :: r) = List.lookup n r := by rw [zq17x, hb]
      rw [e1] at h
      dsimp only
      split
      · rw [zq17x, hb]; exact ih h
      · rw [zq17x, hb]; exact ih h
end L2
set_option maxRecDepth 100000
set_option maxHeartbeats 4000000
namespace L2
open PySem PySem.Spec PyProof.Rows
def cnt (wd : Wo) : Nat := wd.countP fun o => o.isNone
section
variable {G : Gx} {ρ : Rh} {Φ : Pd} {ta tb te : TE} {E : DE} {K : PySem.W.Frag}
theorem Ev.slT {tl th : TO} (h : Ev G ρ te fun f x => ∃ ds, x = .tuple ds /\ Ov G ρ tl fun lo => Ov G ρ th fun hi => ¬ (HT.sIx ds.length 0 lo = 0 /\ HT.sIx ds.length ds.length hi = ds.length) /\ Φ f (.tuple (cutA ds lo hi))) : Ev G ρ (tSl (rSlT K) te tl th) Φ := fun nb σ H Q W z =>
 h nb σ H _ W fun f v H1 d ⟨ds, e, q⟩ s1 hv => q nb σ H1 _ (W.step s1) fun lo H2 q2 s2 => q2 nb σ H2 _ ((W.step s1).step s2) fun hi H3 ⟨hn, q3⟩ s3 => by
  subst e
  obtain ⟨a, xs, rfl, n, hx, hd⟩ := ((hv.keep s2.butS).keep s3.butS).ofT
  have W3 := ((W.step s1).step s2).step s3
  refine ⟨a, xs, rfl, .of hx, by rw [hd.length]; exact hn, fun p hp => ?_⟩
  exact z f _ _ _ q3 (s1.trans (s2.trans (s3.trans (.same W3.bag (same_new hp))))) (.tup (W3.fresh hp) upd_same (hd.cut.keep (But.of (same_new hp))))
theorem Ev.catT (h : Ev G ρ ta fun f x => ∃ ds, x = .tuple ds /\ ds ≠ [] /\ Ev G ρ tb fun g y => ∃ es, y = .tuple es /\ es ≠ [] /\ ds.length + es.length <= 10000 /\ Φ (f && g) (.tuple (ds ++ es))) : Ev G ρ (tOp (rCatT K) ta tb) Φ := fun nb σ H Q W z =>
 h nb σ H _ W fun f v H1 d ⟨ds, e, hne, q⟩ s1 hv => q nb σ H1 _ (W.step s1) fun g u H2 d2 ⟨es, e2, hne2, hl, p⟩ s2 hu => by
  subst e e2
  obtain ⟨a, xs, rfl, n, hx, hd⟩ := (hv.keep s2.butS).ofT
  obtain ⟨c, ys, rfl, m, hy, hc⟩ := hu.ofT
  have W2 := (W.step s1).step s2
  have hxl := hd.length
  have hyl := hc.length
  refine ⟨a, c, xs, ys, rfl, rfl, .of hx, .of hy, fun z => hne (zq99x.mp (by rw [<- hxl, z]; rfl)), zq16x (by rw [hxl, hyl]; exact hl) (by decide), fun z => absurd (zq99x.mp (by rw [<- hyl, z]; rfl)) hne2, fun _ q hq => ?_⟩
  refine z (f && g) _ _ _ p (s1.trans (s2.trans (.same W2.bag (same_new hq)))) (.tup (W2.fresh hq) upd_same ?_)
  exact (IsDs.append (hd.av (S_mono (fun z => (zq19x _ _ ▸ z).1) fun _ z => z)) (hc.av (S_mono (fun z => (zq19x _ _ ▸ z).2) fun _ z => z))).keep (But.of (same_new hq))
end
end L2
set_option maxRecDepth 100000
set_option maxHeartbeats 4000000
namespace L2
open PySem PySem.Spec PyProof.Rows
def fAll (es : List Fd) : Bool := es.all fun e => e.1 || scB e.2
section
variable {G : Gx} {ρ : Rh} {Φ : Pd} {t : TA} {te : TE}
theorem IsF.allS {nb : Addr -> Prop} {H : Hp} : ∀ {es : List Fd} {vs : List V} {f : Bool}, IsF G nb H es vs -> (f = true -> fAll es = true) -> IsDs (G.S nb f) H (es.map (·.2)) vs
  | [], _, _, h, _ => by unfold IsF at h; subst h; exact .nil
  | e :: es, _, f, h, hf => by
    obtain ⟨v, ws, rfl, h1, h2⟩ := h
    have hh : f = true -> (e.1 || scB e.2) = true /\ fAll es = true := fun z => by
      have := hf z
      unfold fAll at this
      rw [zq70x, zq19x] at this
      exact this
    refine .cons ?_ (h2.allS fun z => (hh z).2)
    cases hs : scB e.2 with
    | true => exact h1.scAny hs
    | false => exact h1.av (S_mono (fun z => by have := (hh z).1; rw [hs, zq85x] at this; exact this) fun _ z => z)
theorem Ev.tupF (h : Av G ρ t fun es => es.length <= 10000 /\ Φ (fAll es) (.tuple (es.map (·.2)))) : Ev G ρ (tTup t) Φ := fun nb σ H Q W z =>
 h nb σ H _ W fun es vs H1 ⟨hl, p⟩ s1 q1 => ⟨zq16x (by rw [q1.len]; exact hl) (by decide), fun a ha => z _ _ _ _ p (s1.trans (.same (W.step s1).bag (same_new ha)))
  (.tup ((W.step s1).fresh ha) upd_same ((q1.allS fun z => z).keep (But.of (same_new ha))))⟩
end
def rIsNotB : R2 := fun x y H Q => ∃ a b : Bool, x = .bl a /\ y = .bl b /\ Q (.bl (!(a == b))) H
theorem op_isNotB {X : Cx} : OpR X (compareOp .IsNot) rIsNotB := by
 intro pins s σ H x y v u Q I rx ry h
 obtain ⟨a, b, rfl, rfl, q⟩ := h
 cases (show v = Value.bool a from rx)
 cases (show u = Value.bool b from ry)
 have : compareOp .IsNot (Value.bool a) (Value.bool b) = pure (Value.bool (!(a == b))) := by cases a <;> cases b <;> rfl
 rw [this]
 exact wpAny_pure ⟨.bl _, H, I, rfl, q⟩
theorem Ev.isNotB {G : Gx} {ρ : Rh} {ta : TE} {b : Bool} {Φ : Pd} (h : Ev G ρ ta fun _ x => ∃ a, x = .bool a /\ Φ true (.bool (!(a == b)))) : Ev G ρ (tOp rIsNotB ta (tC (.bl b))) Φ := fun nb σ H Q W z =>
 h nb σ H _ W fun f v H1 d ⟨a, e, q⟩ s1 hv => by
  subst e
  unfold IsD at hv
  subst hv
  exact ⟨a, b, rfl, rfl, z true _ H1 _ q s1 (.bl _)⟩
theorem cut_take {α : Type} {xs : List α} {k : Int} (h0 : 0 <= k) : cutA xs none (some k) = xs.take k.toNat := by
 by_cases h : k <= xs.length
 ·exact cut_to h0 h
 ·unfold cutA HT.sIx
  simp only [zq143x, Nat.sub_zero]
  rw [zq117x (by first | omega | (split <;> omega)), zq117x (by omega)]
abbrev rowD (r : List Int) : PyData := .list (r.map .int)
end L2
set_option maxRecDepth 100000
set_option maxHeartbeats 4000000
namespace L2
open PySem PySem.Spec PyProof.Rows
theorem for_enum {K : PySem.W.Frag} {a : Addr} {xs : List V} {g : TG} {tb : TS} {D : Ends} {σ : St} {H : Hp} (Pv : Nat -> St -> Hp -> Prop) (h0 : Pv 0 σ H) (hl : ∀ i σ H, i <= xs.length -> Pv i σ H -> SqL K H a xs)
  (hs : ∀ i x σ H p, xs[i]? = some x -> Pv i σ H -> H p = none -> g (.ref p) σ (upd H p (.tup [.int i, x])) fun σ2 H2 => tb { D with nx := Pv (i + 1), ct := Pv (i + 1), bk := D.nx } σ2 H2) (hd : ∀ σ H, Pv xs.length σ H -> D.nx σ H) :
  ∃ W : Nat -> Nat -> St -> Hp -> Prop, (∃ m, W 0 m σ H) /\ ∀ i m σ H, W i m σ H ->
   ((Ite K a).stop i H /\ D.nx σ H) \/ ((Ite K a).go i H /\ ∃ N : St -> Hp -> Prop, (∀ σ' H', N σ' H' -> ∃ m', m' < m /\ W (i + 1) m' σ' H') /\ ∀ x H', (Ite K a).yld i H x H' -> g x σ H' fun σ2 H2 => tb { D with nx := N, ct := N, bk := D.nx } σ2 H2) := by
 refine ⟨fun i m σ H => m = xs.length - i /\ i <= xs.length /\ Pv i σ H, ⟨xs.length, by simp, zq34x _, h0⟩, ?_⟩
 rintro i m σ H ⟨rfl, hi, p⟩
 have q := hl i σ H hi p
 by_cases hlt : i < xs.length
 ·refine .inr ⟨⟨xs, xs[i], q, by simp [hlt]⟩, Pv (i + 1), fun σ' H' p' => ⟨xs.length - (i + 1), by omega, rfl, hlt, p'⟩, fun x H' y => ?_⟩
  obtain ⟨pp, y, e, hn, hy, e2⟩ := y
  subst e e2
  exact hs i y σ H pp (hy xs q) p hn
 ·have e : i = xs.length := by omega
  subst e
  exact .inl ⟨⟨xs, q, rfl⟩, hd σ H p⟩
structure Grid (H0 H : Hp) (L : Addr) (as : List Addr) (rows : List (List Int)) : Prop where
 same : ∀ a o, H0 a = some o -> H a = some o
 hL : H L = some (.lst (as.map V.ref))
 fL : H0 L = none
 fa : ∀ c ∈ as, H0 c = none
 nL : L ∉ as
 nd : as.Nodup
 len : as.length = rows.length
 row : ∀ (i : Nat) c r, as[i]? = some c -> rows[i]? = some r -> H c = some (.lst (r.map V.int))
section
variable {H0 H : Hp} {L c q : Addr} {as : List Addr} {rows : List (List Int)} {k : Nat} {r : List Int} {o : HO} {x : Int}
theorem Grid.new (g : Grid H0 H L as rows) (hq : H q = none) : Grid H0 (upd H q o) L as rows := by
 refine ⟨fun a o e => ?_, ?_, g.fL, g.fa, g.nL, g.nd, g.len, fun i c r e1 e2 => ?_⟩
 ·have h := g.same a o e
  rw [upd_ne (fun z => by rw [z, hq] at h; cases h)]; exact h
 ·rw [upd_ne (fun z => by have h := g.hL; rw [z, hq] at h; cases h)]; exact g.hL
 ·have h := g.row i c r e1 e2
  rw [upd_ne (fun z => by rw [z, hq] at h; cases h)]; exact h
theorem Grid.app (g : Grid H0 H L as rows) (hc : as[k]? = some c) (hr : rows[k]? = some r) : Grid H0 (upd H c (.lst (r.map V.int ++ [.int x]))) L as (rows.set k (r ++ [x])) := by
 have hm : c ∈ as := zq8x hc
 have hk : k < rows.length := (zq2x.mp hr).1
 refine ⟨fun a o e => ?_, ?_, g.fL, g.fa, g.nL, g.nd, by rw [zq49x]; exact g.len, fun i d s e1 e2 => ?_⟩
 ·rw [upd_ne (fun z => by have h := g.fa c hm; rw [<- z, e] at h; cases h)]; exact g.same a o e
 ·rw [upd_ne (fun z => g.nL (by rw [z]; exact hm))]; exact g.hL
 ·by_cases hik : k = i
  ·subst hik
   rw [hc] at e1; cases e1
   rw [zq18x hk] at e2; cases e2
   rw [upd_same, zq6x]; rfl
  ·rw [zq10x hik] at e2
   have hdc : d ≠ c := fun z => by
    subst z
    obtain ⟨l1, e3⟩ := zq2x.mp hc
    obtain ⟨l2, e4⟩ := zq2x.mp e1
    exact hik ((zq112x g.nd).mp (e3.trans e4.symm))
   rw [upd_ne hdc]
   exact g.row i d s e1 e2
end
def stepR (rows : List (List Int)) (c : Int) (pr : Int × Int) : List (List Int) := rows.set pr.1.toNat (rows.getD pr.1.toNat [] ++ [c])
def rowsC (rows : List (List Int)) (c : Int) (prs : Prs) : List (List Int) := prs.foldl (fun rs pr => stepR rs c pr) rows
def rowsTo (n : Nat) (cs : List Prs) (i : Nat) : List (List Int) := (List.range i).foldl (fun rs (c : Nat) => rowsC rs c (cs.getD c [])) (List.replicate n [])
theorem rowsC_snoc {rows : List (List Int)} {c : Int} {prs : Prs} {pr : Int × Int} : rowsC rows c (prs ++ [pr]) = stepR (rowsC rows c prs) c pr := by unfold rowsC; rw [zq100x]; rfl
theorem rowsC_len {rows : List (List Int)} {c : Int} {prs : Prs} : (rowsC rows c prs).length = rows.length := by
 unfold rowsC
 induction prs generalizing rows with
 | nil => rfl
 | cons p r ih => rw [List.foldl_cons, ih]; unfold stepR; rw [zq49x]
theorem rowsTo_succ {n : Nat} {cs : List Prs} {i : Nat} {prs : Prs} (h : cs[i]? = some prs) : rowsTo n cs (i + 1) = rowsC (rowsTo n cs i) i prs := by
 unfold rowsTo
 rw [zq101x, zq100x]
 show rowsC _ _ (cs.getD i []) = _
 rw [zq23x, h]; rfl
theorem rowsTo_len {n : Nat} {cs : List Prs} {i : Nat} : (rowsTo n cs i).length = n := by
 unfold rowsTo
 induction i with
 | zero => simp
 | succ i ih => rw [zq101x, zq100x]; show (rowsC _ _ _).length = n; rw [rowsC_len]; exact ih
def Short (rows : List (List Int)) (m : Nat) : Prop := ∀ r ∈ rows, r.length <= m
def spSeats : Sp := fun vs H Q _ => ∃ (nb : Addr -> Prop) (p n : Int) (cs : List Prs) (v : V), vs = [v] /\ Live nb H /\ IsD nb H (netD p n cs) v /\ 0 <= n /\ n <= 1000 /\ (∀ prs ∈ cs, ∀ pr ∈ prs, 0 <= pr.1 /\ pr.1 < n) /\
 (∀ i m : Nat, ∀ prs, cs[i]? = some prs -> Short (rowsC (rowsTo n.toNat cs i) i (prs.take m)) 10000) /\
 ∀ (L : Addr) (as : List Addr) (H' : Hp), Grid H H' L as (rowsTo n.toNat cs cs.length) -> Q (.ref L) H'
theorem seats_run {K : PySem.W.Frag} {D : Ends} {H : Hp} {v : V} (h : spSeats [v] H D.rt E0) :
  tSeq (tSetC 1 (tComp (iRng1 (tCons (tOp (rIxT K) (tVar 0) (tC (.int 1))) tNil)) (gName 0) tNoTest (tLst tNil) [none]))
   (tSeq (tFor (iEnum K (tOp (rIxT K) (tVar 0) (tC (.int 2)))) (gTup K 2 (gCons (gName 2) (gCons (gName 3) gNil)))
    (tFor (iList K (tVar 3)) (gTup K 2 (gCons (gName 4) (gCons (gName 5) gNil))) (tDrop (tBM K "list" rAppend (tOp (rIxL K) (tVar 1) (tVar 4)) (tCons (tVar 2) tNil)))))
    (tRet (tVar 1))) D [some v, none, none, none, none, none] H := by
 obtain ⟨nb, p, n, cs, v', e, hlive, hv, n0, n1, hpl, hsh, q⟩ := h
 cases e
 obtain ⟨tp, xs3, rfl, ntp, htp, hds⟩ := hv.ofT
 unfold IsDs at hds
 obtain ⟨vp, r1, rfl, _, hds⟩ := hds
 unfold IsDs at hds
 obtain ⟨vn, r2, rfl, hvn, hds⟩ := hds
 unfold IsDs at hds
 obtain ⟨vL, r3, rfl, hvL, hds⟩ := hds
 unfold IsDs at hds
 subst hds
 have hvn := hvn.ofI
 subst hvn
 obtain ⟨NL, ys, rfl, nNL, hNL, hys⟩ := hvL.ofL
 have hyl := hys.length
 rw [zq0x] at hyl
 refine ⟨.ref tp, rfl, tp, _, 1, .int n, rfl, rfl, .of htp, rfl, n, rfl, by omega, by omega, fun acc hacc => ?_⟩
 refine R.comp_range (fun j σ H1 => ∃ as, as.length = j /\ Grid H H1 acc as (List.replicate j [])) ?_ ?_ ?_
 ·refine ⟨[], rfl, fun a o e => ?_, upd_same, hacc, fun _ z => (by cases z), by simp, zq120x, rfl, fun i c r e => by simp at e⟩
  rw [upd_ne (fun z => by rw [z, hacc] at e; cases e)]; exact e
 ·rintro j σ H1 hj ⟨as, hal, g⟩
  refine ⟨by decide, fun q1 hq1 => ?_⟩
  have hq1a : q1 ≠ acc := fun z => by have h := g.hL; rw [<- z, hq1] at h; cases h
  have hq1s : q1 ∉ as := fun z => by
   obtain ⟨i, hi⟩ := zq51x z
   have h := g.row i q1 [] hi (by rw [zq35x, if_pos (by have := (zq2x.mp hi).1; omega)])
   rw [hq1] at h; cases h
  have hq10 : H q1 = none := by
   cases e : H q1 with
   | none => rfl
   | some o => have h := g.same q1 o e; rw [hq1] at h; cases h
  refine ⟨as.map V.ref, by rw [upd_ne (zq11x hq1a)]; exact g.hL, by rw [zq0x]; exact zq28x (show as.length < 10000 by omega) (by decide), as ++ [q1], by simp [hal], fun a o e => ?_, ?_, g.fL, fun c hc => ?_, ?_, ?_, by simp [hal], fun i c r e1 e2 => ?_⟩
  ·have h := g.same a o e
   rw [upd_ne (fun z => by rw [z, hacc] at e; cases e), upd_ne (fun z => by rw [z, hq1] at h; cases h)]; exact h
  ·rw [upd_same, zq6x]; rfl
  ·rcases zq29x.mp hc with z | z
   ·exact g.fa c z
   ·rw [zq12x.mp z]; exact hq10
  ·intro z
   rcases zq29x.mp z with z | z
   ·exact g.nL z
   ·exact hq1a (zq12x.mp z).symm
  ·rw [zq74x]
   exact ⟨g.nd, by simp, fun a ha b hb z => by rw [zq12x.mp hb] at z; exact hq1s (z ▸ ha)⟩
  ·rw [zq35x] at e2
   split at e2
   ·cases e2
    by_cases hi : i < as.length
    ·rw [zq45x hi] at e1
     have hm := zq8x e1
     have h := g.row i c [] e1 (by rw [zq35x, if_pos (by omega)])
     rw [upd_ne (fun z => g.nL (by rw [<- z]; exact hm)), upd_ne (fun z => hq1s (by rw [<- z]; exact hm))]; exact h
    ·have : i = as.length := by omega
     subst this
     rw [zq48x (zq3x _), Nat.sub_self] at e1
     cases e1
     rw [upd_ne hq1a, upd_same]; rfl
   ·cases e2
 rintro σ1 H1 ⟨as, hal, g⟩
 refine ⟨.ref tp, rfl, tp, _, 2, .ref NL, rfl, rfl, .of (g.same _ _ htp), rfl, NL, rfl, ⟨ys, .of (g.same _ _ hNL)⟩, ?_⟩
 refine for_enum (xs := ys) (fun i σ H2 => ∃ x2 x3 x4 x5 : Option V, σ = [some (.ref tp), some (.ref acc), x2, x3, x4, x5] /\ Grid H H2 acc as (rowsTo n.toNat cs i)) ⟨_, _, _, _, rfl, g⟩ ?_ ?_ ?_
 ·rintro i σ H2 hi ⟨_, _, _, _, _, g2⟩
  exact .of (g2.same _ _ hNL)
 ·rintro i x σ H2 pp hx ⟨x2, x3, x4, x5, rfl, g2⟩ hpp
  have hil : i < cs.length := by have := (zq2x.mp hx).1; omega
  obtain ⟨prs, eprs⟩ : ∃ prs, cs[i]? = some prs := ⟨_, zq1x hil⟩
  obtain ⟨x', e1, e2⟩ := hys.get (i := i) (d := prsD prs) (by rw [zq13x, eprs]; rfl)
  rw [hx] at e1; cases e1
  obtain ⟨PL, zs, rfl, nPL, hPL, hzs⟩ := e2.ofL
  have hzl := hzs.length
  rw [zq0x] at hzl
  have g3 := g2.new (o := .tup [.int i, .ref PL]) hpp
  refine ⟨pp, [.int i, .ref PL], rfl, .of upd_same, rfl, .int i, [.ref PL], rfl, .ref PL, [], rfl, rfl, ?_⟩
  refine ⟨.ref PL, rfl, PL, rfl, ⟨zs, .of (g3.same _ _ hPL)⟩, ?_⟩
  refine for_list (xs := zs) (fun m σ H4 => ∃ x4 x5 : Option V, σ = [some (.ref tp), some (.ref acc), some (.int i), some (.ref PL), x4, x5] /\ Grid H H4 acc as (rowsC (rowsTo n.toNat cs i) i (prs.take m))) ⟨_, _, rfl, by simpa [rowsC] using g3⟩ ?_ ?_ ?_
  ·rintro m σ H4 hm ⟨_, _, _, g4⟩
   exact .of (g4.same _ _ hPL)
  ·rintro m z σ H4 hz ⟨x4, x5, rfl, g4⟩
   have hml : m < prs.length := by have := (zq2x.mp hz).1; omega
   obtain ⟨pr, epr⟩ : ∃ pr, prs[m]? = some pr := ⟨_, zq1x hml⟩
   obtain ⟨z', e3, e4⟩ := hzs.get (i := m) (d := pairD pr) (by rw [zq13x, epr]; rfl)
   rw [hz] at e3; cases e3
   obtain ⟨t, rfl, nt, ht⟩ := isD_pair e4
   obtain ⟨k0, k1⟩ := hpl prs (zq8x eprs) pr (zq8x epr)
   have hrl : (rowsC (rowsTo n.toNat cs i) (i : Int) (prs.take m)).length = n.toNat := by rw [rowsC_len, rowsTo_len]
   have hal2 := g4.len
   have hk : pr.1.toNat < as.length := by omega
   have hk2 : pr.1.toNat < (rowsC (rowsTo n.toNat cs i) (i : Int) (prs.take m)).length := by omega
   obtain ⟨c, hc⟩ : ∃ c, as[pr.1.toNat]? = some c := ⟨_, zq1x hk⟩
   obtain ⟨r, hr⟩ : ∃ r, (rowsC (rowsTo n.toNat cs i) (i : Int) (prs.take m))[pr.1.toNat]? = some r := ⟨_, zq1x hk2⟩
   have hcl := g4.row _ _ _ hc hr
   have hrs := hsh i m prs eprs r (zq8x hr)
   refine ⟨t, _, rfl, .of (g4.same _ _ ht), rfl, _, _, rfl, _, _, rfl, rfl, ?_⟩
   refine ⟨.ref acc, rfl, .int pr.1, rfl, acc, as.map V.ref, pr.1, .ref c, rfl, rfl, .of g4.hL, atI_some k0 (by rw [zq13x, hc]; rfl), .inl ⟨rfl, _, SqL.of hcl⟩, .int i, rfl, c, r.map V.int, .int i, rfl, rfl, hcl, by rw [zq0x]; exact zq142x hrs (by decide), _, _, rfl, ?_⟩
   rw [take_snoc epr, rowsC_snoc]
   unfold stepR
   rw [zq23x, hr]
   exact g4.app hc hr
  ·rintro σ H4 ⟨x4, x5, rfl, g4⟩
   rw [hzl, zq20x] at g4
   refine ⟨_, _, _, _, rfl, ?_⟩
   rw [rowsTo_succ eprs]
   exact g4
 ·rintro σ H2 ⟨x2, x3, x4, x5, rfl, g2⟩
  rw [hyl] at g2
  exact ⟨.ref acc, rfl, q acc as H2 g2⟩
theorem IsDs.ofGet {S : Addr -> Prop} {H : Hp} : ∀ {ds : List PyData} {xs : List V}, ds.length = xs.length -> (∀ (i : Nat) d x, ds[i]? = some d -> xs[i]? = some x -> IsD S H d x) -> IsDs S H ds xs
 | [], [], _, _ => .nil
 | [], _ :: _, h, _ => by simp at h
 | _ :: _, [], h, _ => by simp at h
 | d :: ds, x :: xs, h, q => .cons (q 0 d x rfl rfl) (IsDs.ofGet (by simpa using h) fun i d' x' e1 e2 => q (i + 1) d' x' (by simpa using e1) (by simpa using e2))
section
variable {H0 H H' : Hp} {L : Addr} {as : List Addr} {rows : List (List Int)}
theorem Grid.isD (g : Grid H0 H L as rows) {S : Addr -> Prop} (hS : ∀ a, S a -> H0 a ≠ none) : IsD S H (.list (rows.map rowD)) (.ref L) := by
 refine .lst (fun z => hS L z g.fL) g.hL (IsDs.ofGet (by rw [zq0x, zq0x, g.len]) fun i d x e1 e2 => ?_)
 obtain ⟨r, hr, rfl⟩ := map_at e1
 rw [zq13x] at e2
 obtain ⟨c, hc, rfl⟩ := zq66x.mp e2
 exact .lst (fun z => hS c z (g.fa c (zq8x hc))) (g.row i c r hc hr) (isDs_intsL r)
end
def SeatOk (n : Int) (cs : List Prs) : Prop := 0 <= n /\ n <= 1000 /\ (∀ prs ∈ cs, ∀ pr ∈ prs, 0 <= pr.1 /\ pr.1 < n) /\ ∀ i m : Nat, ∀ prs, cs[i]? = some prs -> Short (rowsC (rowsTo n.toNat cs i) i (prs.take m)) 10000
section
variable {G : Gx} {ρ : Rh} {Φ : Pd} {te : TE} {E : DE} {K : PySem.W.Frag}
theorem Ev.seats (h : Ev G ρ te fun _ x => ∃ (p n : Int) (cs : List Prs), x = netD p n cs /\ SeatOk n cs /\ Φ true (.list ((rowsTo n.toNat cs cs.length).map rowD))) : Ev G ρ (tCall spSeats [] E0 (tCons te tNil)) Φ := fun nb σ H Q W z =>
 h nb σ H _ W fun f v H1 d ⟨p, n, cs, e, ⟨h1, h2, h3, h4⟩, q⟩ s1 hv => by
  subst e
  have W1 := W.step s1
  refine ⟨G.S nb f, p, n, cs, v, rfl, W1.liveS, hv, h1, h2, h3, h4, fun L as H' g => ?_⟩
  exact z true _ H' _ q (s1.trans (.same W1.bag fun a o e => g.same a o e)) (g.isD fun a q => W1.liveS a q)
end
theorem short_step {rows : List (List Int)} {b : Nat} {c : Int} {pr : Int × Int} (h : Short rows b) : Short (stepR rows c pr) (b + 1) := fun r hr => by
 unfold stepR at hr
 rcases List.mem_or_eq_of_mem_set hr with z | z
 ·have := h r z; omega
 ·subst z
  rw [zq22x, zq60x]
  by_cases hk : pr.1.toNat < rows.length
  ·have : (rows.getD pr.1.toNat []).length <= b := by
    rw [zq23x, zq1x hk]; exact h _ (zq40x hk)
   omega
  ·rw [zq23x, zq89x (by omega)]
   simp
theorem short_C {c : Int} : ∀ {prs : Prs} {rows : List (List Int)} {b : Nat}, Short rows b -> Short (rowsC rows c prs) (b + prs.length)
  | [], rows, b, h => h
  | pr :: prs, rows, b, h => by
    have := short_C (c := c) (prs := prs) (short_step (c := c) (pr := pr) h)
    show Short (rowsC (stepR rows c pr) c prs) _
    rw [zq36x, show b + (prs.length + 1) = b + 1 + prs.length by omega]
    exact this
end L2
set_option maxRecDepth 100000
namespace L2
open PySem PySem.Spec PyProof.Rows
section
variable {κ : Type} [DecidableEq κ]
def valV (kvs : List (κ × V)) (k : κ) : Option V := (kvs.find? fun kv => decide (kv.1 = k)).map (·.2)
def putK (kvs : List (κ × V)) (k : κ) (v : V) : List (κ × V) :=
 if (kvs.any fun kv => decide (kv.1 = k)) = true then kvs.map (fun kv => if kv.1 = k then (kv.1, v) else kv) else kvs ++ [(k, v)]
def dropK (kvs : List (κ × V)) (k : κ) : List (κ × V) := kvs.filter fun kv => decide (kv.1 ≠ k)
theorem valV_nil {k : κ} : valV ([] : List (κ × V)) k = none := rfl
theorem valV_pos {p : κ × V} {r : List (κ × V)} {k : κ} (e : p.1 = k) : valV (p :: r) k = some p.2 := by simp [valV, zq62x, e]
theorem valV_neg {p : κ × V} {r : List (κ × V)} {k : κ} (e : ¬ p.1 = k) : valV (p :: r) k = valV r k := by simp [valV, zq62x, e]
theorem valV_any (k : κ) : ∀ kvs : List (κ × V), (kvs.any fun kv => decide (kv.1 = k)) = (valV kvs k).isSome
  | [] => rfl
  | p :: r => by
    rw [zq59x]
    by_cases e : p.1 = k
    · simp only [valV_pos e, decide_eq_true e, Bool.true_or, Option.isSome_some]
    · rw [valV_neg e, decide_eq_false e, zq98x]; exact valV_any k r
theorem length_putK (kvs : List (κ × V)) (k : κ) (v : V) : (putK kvs k v).length <= kvs.length + 1 := by
 unfold putK
 split
 ·rw [zq0x]; omega
 ·rw [zq22x, zq36x, List.length_nil]; omega
theorem RelO.isSome_eq {o : Option V} {u : Option Value} (r : RelO o u) : o.isSome = u.isSome := by
  cases o with
  | none => cases u with
    | none => rfl
    | some _ => exact (show False from r).elim
  | some _ => cases u with
    | none => exact (show False from r).elim
    | some _ => rfl
theorem RelO.getD {o : Option V} {u : Option Value} {d : V} {d' : Value} (r : RelO o u) (rd : RelV d d') : RelV (o.getD d) (u.getD d') := by
  cases o with
  | none => cases u with
    | none => exact rd
    | some _ => exact (show False from r).elim
  | some _ => cases u with
    | none => exact (show False from r).elim
    | some _ => exact r
theorem KV.val {kvs : List (κ × V)} {vs : List (κ × Value)} (r : KV kvs vs) (k : κ) : RelO (valV kvs k) (valueAt vs k) := by
  unfold KV at r
  induction r with
  | nil => exact True.intro
  | @cons p q ps qs h t ih =>
    obtain ⟨h1, h2⟩ := h
    by_cases e : p.1 = k
    · have e' : q.1 = k := h1.symm.trans e
      have b : valueAt (q :: qs) k = some q.2 := by simp [valueAt, zq62x, e']
      rw [valV_pos e, b]; exact h2
    · have e' : ¬ q.1 = k := fun z => e (h1.trans z)
      have b : valueAt (q :: qs) k = valueAt qs k := by simp [valueAt, zq62x, e']
      rw [valV_neg e, b]; exact ih
theorem KV.any {kvs : List (κ × V)} {vs : List (κ × Value)} (r : KV kvs vs) (k : κ) : (kvs.any fun kv => decide (kv.1 = k)) = vs.any fun kv => decide (kv.1 = k) := by
 unfold KV at r
 induction r with
 | nil => rfl
 | cons h t ih => rw [zq59x, zq59x, ih, h.1]
theorem KV.repl {kvs : List (κ × V)} {vs : List (κ × Value)} (r : KV kvs vs) (k : κ) {y : V} {u : Value} (ry : RelV y u) :
    KV (kvs.map fun kv => if kv.1 = k then (kv.1, y) else kv) (vs.map fun kv => if kv.1 = k then (kv.1, u) else kv) := by
  unfold KV at r ⊢
  induction r with
  | nil => exact .nil
  | @cons p q ps qs h t ih =>
    rw [zq4x, zq4x]
    refine .cons ?_ ih
    obtain ⟨h1, h2⟩ := h
    by_cases e : p.1 = k
    · rw [if_pos e, if_pos (h1.symm.trans e)]; exact ⟨h1, ry⟩
    · rw [if_neg e, if_neg (fun z => e (h1.trans z))]; exact ⟨h1, h2⟩
theorem KV.put {kvs : List (κ × V)} {vs : List (κ × Value)} (r : KV kvs vs) (k : κ) {y : V} {u : Value} (ry : RelV y u) : KV (putK kvs k y) (stored vs k u) := by
 unfold putK stored
 rw [r.any k]
 by_cases e : (vs.any fun kv => decide (kv.1 = k)) = true
 ·rw [if_pos e, if_pos e]; exact r.repl k ry
 ·rw [if_neg e, if_neg e]; exact Paired.snoc r ⟨rfl, ry⟩
theorem KV.drop {kvs : List (κ × V)} {vs : List (κ × Value)} (r : KV kvs vs) (k : κ) : KV (dropK kvs k) (without vs k) := by
  unfold KV at r ⊢
  unfold dropK without
  induction r with
  | nil => exact .nil
  | @cons p q ps qs h t ih =>
    obtain ⟨h1, h2⟩ := h
    rw [zq55x, zq55x]
    by_cases e : p.1 = k
    · have a : ¬ decide (p.1 ≠ k) = true := by simp [e]
      have b : ¬ decide (q.1 ≠ k) = true := by simp [h1.symm.trans e]
      rw [if_neg a, if_neg b]; exact ih
    · have e' : ¬ q.1 = k := fun z => e (h1.trans z)
      have a : decide (p.1 ≠ k) = true := by simp [e]
      have b : decide (q.1 ≠ k) = true := by simp [e']
      rw [if_pos a, if_pos b]; exact .cons ⟨h1, h2⟩ ih
theorem KV.keys {kvs : List (κ × V)} {vs : List (κ × Value)} (r : KV kvs vs) : kvs.map (·.1) = vs.map (·.1) := by
 unfold KV at r
 induction r with
 | nil => rfl
 | cons h t ih => rw [zq4x, zq4x, ih, h.1]
theorem KV.length {kvs : List (κ × V)} {vs : List (κ × Value)} (r : KV kvs vs) : kvs.length = vs.length := Paired.length r
theorem dropK_le (kvs : List (κ × V)) (k : κ) : (dropK kvs k).length <= kvs.length := zq58x _ _
end
theorem kV_is {P : Program} {w : World} {k : Key} {u : Value} (r : RelV (kV k) u) : (mixKind P w).is k u = true := by
 cases k with
 | inl i => obtain ⟨t, e⟩ := (show ∃ t, u = Value.int i t from r); subst e; exact mixKind_int P w i t
 | inr x => obtain ⟨t, e⟩ := (show ∃ t, u = Value.str x t from r); subst e; exact mixKind_str P w x t
theorem items_are {P : Program} {w : World} : ∀ {ks : List Key} {us : List Value}, Vals (ks.map kV) us -> ItemsAre (mixKind P w) ks us
  | [], _, r => by rw [zq77x] at r; cases r; exact .nil
  | k :: ks, _, r => by
    rw [zq4x] at r
    cases r with
    | cons h t => exact .cons (kV_is h) (items_are t)
abbrev KT (H : Hp) : List (List Key × V) -> List (List Key × Addr × Value) -> Prop := Paired fun p q => p.1 = q.1 /\ H q.2.1 = some (.tup (p.1.map kV)) /\ RelV p.2 q.2.2
theorem KT.val {H : Hp} {kvs : List (List Key × V)} {xs : List (List Key × Addr × Value)} (r : KT H kvs xs) (k : List Key) : RelO (valV kvs k) ((atKey xs k).map (·.2)) := by
  induction r with
  | nil => exact True.intro
  | @cons p q ps qs h t ih =>
    obtain ⟨h1, _, h2⟩ := h
    by_cases e : p.1 = k
    · have e' : q.1 = k := h1.symm.trans e
      have b : atKey (q :: qs) k = some q.2 := by simp [atKey, zq62x, e']
      rw [valV_pos e, b]; exact h2
    · have e' : ¬ q.1 = k := fun z => e (h1.trans z)
      have b : atKey (q :: qs) k = atKey qs k := by simp [atKey, zq62x, e']
      rw [valV_neg e, b]; exact ih
section
variable {P : Program} {w : World} {H : Hp} {h : Heap} {a : Addr}
theorem rd_of {u : HO} (ok : HOk P w H h) (e : Rd H a u) : ObjOk P w H h a u := e.ok ok
theorem dk_rd {kvs : List (Key × V)} (ok : HOk P w H h) (e : Rd H a (.dK kvs)) : kvs.length <= sizeLine /\ (a == sysModules) = false /\ ∃ vs, KV kvs vs /\ h.DictOf (mixKind P w) a vs :=
 show ObjOk P w H h a (.dK kvs) from rd_of ok e
theorem dk_of {kvs : List (Key × V)} (ok : HOk P w H h) (e : H a = some (.dK kvs)) : kvs.length <= sizeLine /\ (a == sysModules) = false /\ ∃ vs, KV kvs vs /\ h.DictOf (mixKind P w) a vs := dk_rd ok (.inl e)
theorem key_of {ks : List Key} (ok : HOk P w H h) (e : H a = some (.tup (ks.map kV))) : (tupleKind (mixKind P w)).is h ks a := by
 obtain ⟨_, its, r, o, h1, h2, n, h3⟩ := (show ObjOk P w H h a (.tup (ks.map kV)) from ok a _ e)
 exact ⟨o, its.toArray, n, h1, h2, h3, by simpa using items_are r⟩
theorem dt_rd {kvs : List (List Key × V)} (ok : HOk P w H h) (e : Rd H a (.dT kvs)) : kvs.length <= sizeLine /\ (a == sysModules) = false /\
    ∃ xs, KT H kvs xs /\ h.DictOfH (tupleKind (mixKind P w)) a xs := by
  obtain ⟨z, y, xs, r, o, es, ep, h1, h2, h3, h4, h5⟩ := (show ObjOk P w H h a (.dT kvs) from rd_of ok e)
  refine ⟨z, y, xs, r, o, es, ep, h1, h2, h3, h4, fun x hx => ?_, h5⟩
  have all : ∀ {l : List (List Key × V)} {m : List (List Key × Addr × Value)}, KT H l m -> ∀ x ∈ m, (tupleKind (mixKind P w)).is h x.1 x.2.1 := by
    intro l m q
    induction q with
    | nil => intro x hx; exact nomatch hx
    | @cons p q ps qs hq t ih =>
      intro x hx
      rcases zq43x.mp hx with e | hx
      · subst e
        exact key_of ok (by rw [<- hq.1]; exact hq.2.1)
      · exact ih x hx
  exact all r x hx
end
def DGet (H : Hp) (a : Addr) (y : V) (r : Option V) : Prop :=
 (∃ kvs k, Rd H a (.dK kvs) /\ y = kV k /\ r = valV kvs k) \/ ∃ kvs k b, Rd H a (.dT kvs) /\ y = .ref b /\ H b = some (.tup (k.map kV)) /\ r = valV kvs k
theorem DGet.k {H : Hp} {a : Addr} {kvs : List (Key × V)} {k : Key} (e : H a = some (.dK kvs)) : DGet H a (kV k) (valV kvs k) := .inl ⟨kvs, k, .inl e, rfl, rfl⟩
section
variable {X : Cx} {pins : List (Addr × Obj)} {σ : St} {H : Hp} {s : Shared} {a : Addr} {y v : V} {u r : Value} {o : Option V} {A : Around} {E : Value -> Shared -> Prop}
theorem Inv.big (I : Inv X pins σ H s) : sysModules < s.heap.objs.size := by
 have h : mainGlobals < s.heap.objs.size := (I.mod.glob.keeps I.bk).lt
 exact zq121x (by decide) h
theorem d_in {Q : Value -> Shared -> Prop} (hu : A.units + 1 < cLine) (I : Inv X pins σ H s) (g : DGet H a y o) (ry : RelV y u) (h : ∀ s', Inv X pins σ H s' -> Q (.bool o.isSome) s') :
  wpAny (model X.prog X.w) A (compareOp .In u (.ref a)) Q E s := by
 rcases g with ⟨kvs, k, e, ey, l⟩ | ⟨kvs, k, b, e, ey, eb, l⟩
 ·subst ey
  obtain ⟨z, hd, vs, rel, dd⟩ := dk_rd I.hok e
  refine wpAny_in_of (kV_is ry) hd dd.mapOf ?_
  rw [<- (rel.val k).isSome_eq, <- l]
  exact h _ (I.tok _)
 ·subst ey
  cases (show u = Value.ref b from ry)
  obtain ⟨z, hd, xs, rel, dd⟩ := dt_rd I.hok e
  refine wpAny_in_heap (tupleKind_room_in1 hu) (key_of I.hok eb) hd dd ?_
  have q := (rel.val k).isSome_eq
  rw [Option.isSome_map] at q
  rw [<- q, <- l]
  exact h _ (I.tok _)
theorem d_write {h' : Heap} {t' : Nat} {ob : HO} (I : Inv X pins σ H s) (mu : Mut (H a)) (hs : Heap.SameBut a s.heap h') (he : ∃ q, h'.get? a = some q) (new : ObjOk X.prog X.w (upd H a ob) h' a ob) :
  Inv X pins σ (upd H a ob) { s with heap := h', toks := t' } :=
 I.write (x := a) (e := a) mu (.inl rfl) (fun b q hb z => (hs.2 b hb).trans z) he new
theorem dk_new {P : Program} {w : World} {H' : Hp} {h' : Heap} {kvs : List (Key × V)} {vs : List (Key × Value)} (z : kvs.length <= sizeLine) (hd : (a == sysModules) = false) (rel : KV kvs vs) (dd : h'.DictOf (mixKind P w) a vs) :
  ObjOk P w H' h' a (.dK kvs) := ⟨z, hd, vs, rel, dd⟩
end
section
variable {X : Cx} {pins : List (Addr × Obj)} {σ : St} {H : Hp} {s : Shared} {a : Addr} {kvs : List (Key × V)} {k : Key} {u : Value} {A : Around} {E : Value -> Shared -> Prop}
theorem d_delItem {Q : Unit -> Shared -> Prop} (I : Inv X pins σ H s) (e : H a = some (.dK kvs)) (ry : RelV (kV k) u) (l : (valV kvs k).isSome = true) (h : ∀ s', Inv X pins σ (upd H a (.dK (dropK kvs k))) s' -> Q () s') :
  wpAny (model X.prog X.w) A (delItem (.ref a) u) Q E s := by
 obtain ⟨z, hd, vs, rel, dd⟩ := dk_of I.hok e
 refine wpAny_delItem_slot dd.typeIs (by decide) zq182x
  (call_meetsIn zq182x dd.typeIs PySem.F.entry_dict_delitem (PySem.F.args_dict_delitem_2 _ _) (meets_dict_delitem_pairs (mixKind X.prog X.w) a (kV_is ry)) ⟨vs, dd, by rw [<- rel.length]; exact z, by rw [<- (rel.val k).isSome_eq]; exact l, fun h' dd' hs => h _ ?_⟩)
 have he : ∃ q, h'.get? a = some q := let ⟨q, _, _, hq, _⟩ := dd'; ⟨q, hq⟩
 exact d_write I (by rw [e]; exact True.intro) hs he (dk_new (zq16x (dropK_le kvs k) z) hd (rel.drop k) dd')
theorem d_pop {v : V} {more : List Value} {Q : Value -> Shared -> Prop} (I : Inv X pins σ H s) (e : H a = some (.dK kvs)) (ry : RelV (kV k) u) (l : valV kvs k = some v) (hm : more = [] \/ ∃ x, more = [x])
  (h : ∀ w' s', Inv X pins σ (upd H a (.dK (dropK kvs k))) s' -> RelV v w' -> Q w' s') : wpAny (model X.prog X.w) A (call (.builtin "dict.pop") (.ref a :: u :: more)) Q E s := by
 obtain ⟨z, hd, vs, rel, dd⟩ := dk_of I.hok e
 obtain ⟨w', hw, rw'⟩ := RelO.some_of (v := v) (o := valueAt vs k) (by rw [<- l]; exact rel.val k)
 have hp : (keyPart u).isSome = true := by
  cases k with
  | inl i => obtain ⟨t, q⟩ := (show ∃ t, u = Value.int i t from ry); subst q; rfl
  | inr x => obtain ⟨t, q⟩ := (show ∃ t, u = Value.str x t from ry); subst q; rfl
 have ha : argsOk "dict.pop" ⟨.ref a :: u :: more, []⟩ := by
  rcases hm with q | ⟨x, q⟩
  ·subst q; exact PySem.F.args_dict_pop_2 _ _
  ·subst q; exact PySem.F.args_dict_pop_3 _ _ _
 refine call_meetsIn zq147x dd.typeIs PySem.F.entry_dict_pop ha (meets_dict_pop_there (mixKind X.prog X.w) a (kV_is ry) more hm hp)
  ⟨vs, w', dd, by rw [<- rel.length]; exact z, hw, fun h' dd' hs => h w' _ ?_ rw'⟩
 have he : ∃ q, h'.get? a = some q := let ⟨q, _, _, hq, _⟩ := dd'; ⟨q, hq⟩
 exact d_write I (by rw [e]; exact True.intro) hs he (dk_new (zq16x (dropK_le kvs k) z) hd (rel.drop k) dd')
theorem d_len {Q : Value -> Shared -> Prop} (I : Inv X pins σ H s) (e : Rd H a (.dK kvs)) (h : ∀ t s', Inv X pins σ H s' -> Q (.int kvs.length t) s') : wpAny (model X.prog X.w) A (call (.builtin "len") [.ref a]) Q E s := by
 obtain ⟨z, hd, vs, rel, dd⟩ := dk_rd I.hok e
 refine call_len_dict hd dd (by rw [<- rel.length]; rw [sizeLine_eq] at z; omega) ?_
 rw [<- rel.length]
 exact h _ _ (I.tok _)
end
theorem dk_empty {P : Program} {w : World} {H : Hp} (h : Heap) (hb : sysModules < h.objs.size) : ObjOk P w H (h.push { cls := .type "dict", data := .dict #[] }) h.objs.size (.dK []) :=
 ⟨zq34x _, beq_eq_false_iff_ne.mpr (zq11x (zq25x hb)), [], .nil, Heap.DictOf.new h⟩
def tDNewK : TE := fun _ H Q => ∀ p, H p = none -> Q (.ref p) (upd H p (.dK []))
section
variable {X : Cx} {pos : Pos}
theorem pe_dnewK : PE X (.Dict [] [] pos) tDNewK := fun pins s σ H Q I h =>
 wpAny_Dict_empty ⟨.ref s.heap.objs.size, _, I.laid (a := s.heap.objs.size) (o := .dK []) (t' := s.toks) (fun _ _ q => zq26x _ q) (zq3x _) (dk_empty s.heap I.big), rfl, h _ (I.hok.fresh (zq3x _))⟩
end
def mergeK (kvs more : List (Key × V)) : List (Key × V) := more.foldl (fun acc kv => putK acc kv.1 kv.2) kvs
theorem KV.merge : ∀ {more : List (Key × V)} {rs : List (Key × Value)} {kvs : List (Key × V)} {vs : List (Key × Value)}, KV more rs -> KV kvs vs -> KV (mergeK kvs more) (merged vs rs) := by
  intro more rs kvs vs r
  unfold KV at r
  induction r generalizing kvs vs with
  | nil => intro q; exact q
  | @cons p q ps qs h t ih =>
    intro r0
    have e : KV (putK kvs p.1 p.2) (stored vs q.1 q.2) := by
      have := r0.put p.1 h.2
      rw [<- h.1]; exact this
    exact ih e
theorem length_mergeK : ∀ (more kvs : List (Key × V)), (mergeK kvs more).length <= kvs.length + more.length
  | [], kvs => by show kvs.length <= kvs.length + 0; omega
  | p :: r, kvs => by
    have h1 := length_mergeK r (putK kvs p.1 p.2)
    have h2 := length_putK kvs p.1 p.2
    show (mergeK (putK kvs p.1 p.2) r).length <= _
    rw [zq36x]; omega
end L2
/- THE LAST THEOREM (shape; LID, My.* are yours):
   My.Adr: a structure of the addresses that your layer names (classes, functions); My.Txt K t: a structure (Prop) of the equations over K;
   My.txt_mk : {K} {implicit addresses ..} (e1 : nsIn K mainGlobals "law" = some (some (.ref f))) (e2 : K.lookup f = some ⟨oc, od, .func (fnOf "law" "law" params body scope dV kV doc pm an cdv ct), sl⟩) (e3 : codeIn K cdv "law" = true) .. : ∃ t, My.Txt K t
set_option maxRecDepth 100000 in
set_option maxHeartbeats 0 in
(the tactic k_is has no namespace: write k_is) -/
namespace L2
open PySem PySem.Spec PyProof.Rows
section
variable {X : Cx}
theorem call_lenD : CallR X (.builtin "len") (fun xs H Q => ∃ a kvs, xs = [V.ref a] /\ H a = some (.dK kvs) /\ Q (.int kvs.length) H) := by
 intro pins s σ H xs us Q I r h
 obtain ⟨a, kvs, rfl, ha, q⟩ := h
 obtain ⟨u, rfl, ru⟩ := vals1 r
 cases ru
 exact d_len I (.inl ha) fun t s' I' => ⟨.int kvs.length, H, I', ⟨t, rfl⟩, q⟩
end
end L2
set_option maxRecDepth 100000
set_option maxHeartbeats 4000000
namespace L2
open PySem PySem.Spec PyProof.Rows
section
variable {prog : Program} {w : World} {A : Around} {E : Value -> Shared -> Prop} {s : Shared}
theorem collect_kdl {T : String} {r d : Addr} {n : Nat} {P : Nat -> Value -> Prop} {OK : Heap -> Prop} {Q : List Value -> Shared -> Prop} (K : PySem.W.KdlSrc prog w T r d n P OK) (hh : A.handled = none) (hok : OK s.heap) (hn : n <= sizeLine)
  (hQ : ∀ h' tk' items, (∀ b o, s.heap.get? b = some o -> h'.get? b = some o) -> s.heap.objs.size <= h'.objs.size -> items.length = n -> (∀ (i : Nat) v, items[i]? = some v -> P i v) -> Q items { s with heap := h', toks := tk' }) : wpAny (model prog w) A (collect (.ref r)) Q E s := by
 obtain ⟨lr, ld⟩ := K.there _ hok
 unfold collect
 refine wpAny_bind (wpAny_runValue (codeAny_builtin PySem.F.entry_proto_collect ?_))
 rw [zq122x PySem.F.plain_proto_collect _]
 show wpAny _ A.in1 (newList [] >>= fun l => again (.builtin "list.__iadd__" ⟨[l, .ref r], []⟩)) _ _ s
 refine wpAny_bind (wpAny_newObj_type ?_)
 refine wpAny_pure ⟨plainId_quiet zq183x _, codeAny_builtin PySem.F.entry_list_iadd ?_⟩
 rw [zq122x zq183x _]
 have gL : (s.heap.push ({ cls := .type "list", data := .seq ([] : List Value).toArray } : Obj)).get? s.heap.objs.size = some { cls := .type "list", data := .seq ([] : List Value).toArray } := zq44x _ rfl
 show wpAny _ A.in1 (Builtin.List.listExtendWith (.ref s.heap.objs.size) (.ref r) (.ref s.heap.objs.size)) _ _ { s with heap := s.heap.push ({ cls := .type "list", data := .seq ([] : List Value).toArray } : Obj) }
 refine PySem.W.kdl_extend (A := A) (R := fun r s' => match r with
    | .ok (.ret v) => wpAny (model prog w) A (match v with | .ref x => (do match (<- load x).data with | .seq xs _ => pure xs.toList | _ => unsupported "internal:collect") | _ => unsupported "internal:collect") Q E s'
    | .ok _ => False
    | .error e => E e s') (s := { s with heap := s.heap.push ({ cls := .type "list", data := .seq ([] : List Value).toArray } : Obj) }) K hh (K.keep _ _ hok fun b _ o e => zq26x _ e) s.heap.objs.size (zq113x lr) (zq113x ld) _ _ gL (fun h' tk acc' c' hk hS hacc => ?_) hn
 refine wpAny_bind (wpAny_load hS (wpAny_pure ?_))
 refine hQ h' tk acc'.toList (fun b o e => hk b o (zq25x (zq9x e)) (zq26x _ e)) (zq67x (zq9x hS)) (by rw [zq84x]; exact hacc.1) fun i v e => hacc.2 i v (by rw [<- zq96x]; exact e)
theorem sorted_dictI {a : Addr} {vs : List (Key × Value)} {ms : List Int} {Q : Value -> Shared -> Prop} (hh : A.handled = none) (lo : (a == sysModules) = false) (hd : s.heap.DictOf (mixKind prog w) a vs) (hk : vs.map (·.1) = ms.map Sum.inl) (h64 : ms.length < 64)
    (h : ∀ h' tk' (l : Addr) (out : List Value) (ns : List Int) (e : Nat), (∀ b o, s.heap.get? b = some o -> h'.get? b = some o) -> s.heap.objs.size <= l -> h'.get? l = some (seqObj "list" out.toArray e) -> IntsAre out ns -> ns.Pairwise (· <= ·) -> ns.Perm ms ->
      Q (.ref l) { s with heap := h', toks := tk' }) : wpAny (model prog w) A (call (.builtin "sorted") [.ref a]) Q E s := by
  obtain ⟨ep, hat⟩ := hd.dictAt
  have hvl : vs.length = ms.length := by have := congrArg List.length hk; simpa using this
  refine zq148x kind_sorted plain_sorted entry_sorted (args_sorted1 _) ?_
  unfold Builtin.«sorted»
  refine wpAny_bind (m := checkCount "sorted" 1 1 _) (wpAny_pure (wpAny_bind ?_))
  refine collect_kdl (A := A.in1) (PySem.W.kdl_dict lo) hh hat (by rw [hvl]; exact zq16x (zq67x h64) (by decide)) fun h1 tk1 items k1 k2 hil hit => ?_
  have hI : IntsAre items ms := by
    have key : ∀ (its : List Value) (us : List (Key × Value)) (ms : List Int), us.map (·.1) = ms.map Sum.inl -> its.length = us.length -> (∀ (i : Nat) v, its[i]? = some v -> ∃ k x, us[i]? = some (k, x) /\ (mixKind prog w).is k v = true) -> IntsAre its ms := by
      intro its
      induction its with
      | nil =>
        intro us ms e l _
        cases us with
        | nil => cases ms with
          | nil => exact .nil
          | cons _ _ => cases e
        | cons _ _ => cases l
      | cons v its ih =>
        intro us ms e l hp
        cases us with
        | nil => cases l
        | cons u us => cases ms with
          | nil => cases e
          | cons m ms =>
            have e1 : u.1 = Sum.inl m := by injection e
            have e2 : us.map (·.1) = ms.map Sum.inl := by injection e
            obtain ⟨k, x, q1, q2⟩ := hp 0 v rfl
            have q1 : u = (k, x) := by simpa using q1
            subst q1
            have e1 : k = Sum.inl m := e1
            subst e1
            obtain ⟨t, rfl⟩ := Value.isInt_shape (k := m) (v := v) q2
            exact .cons m t (ih us ms e2 (by simpa using l) fun i v q => by simpa using hp (i + 1) v (by simpa using q))
    exact key items vs ms hk hil hit
  have hlen : items.length = ms.length := by rw [hil, hvl]
  refine wpAny_bind (wpAny_newList ?_)
  have gL : (h1.push (seqObj "list" items.toArray 0)).get? h1.objs.size = some (seqObj "list" items.toArray 0) := zq44x _ rfl
  refine wpAny_bind (wpAny_holding (wpAny_call_entry slot_list_sort ⟨_, gL, rfl⟩ entry_list_sort (list_sort_tree gL hI (by omega) fun out ns' a1 a2 a3 => ⟨_, rfl, ?_⟩) (args_list_sort _)))
  obtain ⟨e, he⟩ := sortedHeap_at (out := out) gL
  refine wpAny_pure ⟨_, rfl, h _ tk1 h1.objs.size out.toList ns' e (fun b o q => ?_) k2 (by simpa using he) a1 a3 a2⟩
  have lb := zq9x (k1 b o q)
  rw [sortedHeap_old (zq25x lb) (by rw [zq102x]; exact zq81x lb)]
  exact zq26x _ (k1 b o q)
end
def rSortedD : List V -> Hp -> VK -> Prop := fun xs H Q => ∃ a, ∃ kvs : List (Key × V), ∃ ms : List Int, xs = [.ref a] /\ Rd H a (.dK kvs) /\ kvs.map (·.1) = ms.map Sum.inl /\ ms.length < 64 /\
 ∀ l (rs : List Int), H l = none -> rs.Pairwise (· <= ·) -> rs.Perm ms -> Q (.ref l) (upd H l (.lst (rs.map V.int)))
theorem call_sortD {X : Cx} (hc : X.calm = true) : CallR X (.builtin "sorted") rSortedD := by
 intro pins s σ H xs us Q I rv h
 obtain ⟨a, kvs, ms, rfl, hH, hk, h64, q⟩ := h
 obtain ⟨u, rfl, ru⟩ := vals1 rv
 cases ru
 obtain ⟨z, hd, vs, rel, dd⟩ := dk_rd I.hok hH
 refine sorted_dictI (I.ok.hd hc) hd dd (by rw [<- rel.keys]; exact hk) h64 fun h' tk' l out ns e kp hl gl hI pw pp => ?_
 have new : ObjOk X.prog X.w (upd H l (.lst (ns.map V.int))) h' l (.lst (ns.map V.int)) := by
  refine ⟨?_, out, e, ints_vals hI, gl⟩
  rw [zq0x, pp.length_eq]; exact zq16x (zq67x h64) (by decide)
 exact ⟨.ref l, _, I.laid (t' := tk') kp hl new, rfl, q _ _ (I.hok.fresh hl) pw pp⟩
section
variable {X : Cx}
def rIxD : R2 := fun x y H Q => ∃ a kvs k v, x = .ref a /\ y = kV k /\ Rd H a (.dK kvs) /\ valV kvs k = some v /\ Q v H
theorem ix_dict : IxR X rIxD := by
 intro value slice pins s σ H x y v u Q I rx ry h hs
 obtain ⟨a, kvs, k, z, rfl, rfl, hH, hv, q⟩ := h
 cases rx
 obtain ⟨hz, hd, vs, rel, dd⟩ := dk_rd I.hok hH
 have hT := dd.typeIs (s := s)
 obtain ⟨w', hw, rw'⟩ := RelO.some_of (v := z) (o := valueAt vs k) (by rw [<- hv]; exact rel.val k)
 unfold subscriptTail
 refine wpAny_bind ?_
 rw [getitemInPython_of_ne hT.not_modules]
 refine wpAny_bind (wpAny_specialOf hT PySem.F.slot_dict_getitem.lookup ?_)
 have fin : wpAny (model X.prog X.w) X.A (subscripted slice false (.ref a) u) (fun r s₃ => wpAny (model X.prog X.w) X.A (letTemporaryGo value (.ref a) r >>= fun _ => pure r) (EP X pins σ Q) X.xe s₃) X.xe s := by
  rw [hs]
  refine wpAny_operating (wpAny_getItem_of (kV_is ry) dd.mapOf hw ?_)
  exact wpAny_bind (wpAny_letTemporaryGo (wpAny_pure ⟨z, H, I.tok _, rw', q⟩))
 first
  | exact wpAny_pure (wpAny_bind fin)
  | exact wpAny_bind (wpAny_pure (wpAny_bind fin))
  | exact wpAny_bind fin
def rPutD : V -> V -> V -> Hp -> (Hp -> Prop) -> Prop := fun o i v H Q => ∃ a kvs k, o = .ref a /\ i = kV k /\ H a = some (.dK kvs) /\ kvs.length < sizeLine /\ Q (upd H a (.dK (putK kvs k v)))
theorem set_dict : PSet X rPutD := by
 intro pins s σ H o i v ov iv u Q I ro ri rv h
 obtain ⟨a, kvs, k, rfl, rfl, hH, hl0, q⟩ := h
 cases ro
 obtain ⟨z, hd, vs, rel, dd⟩ := dk_of I.hok hH
 have hz : vs.length <= sizeLine := by rw [<- rel.length]; exact z
 have hl : (putK kvs k v).length <= sizeLine := by have := length_putK kvs k v; omega
 refine wpAny_setItem_pairs (hsz := hz) (kV_is ri) dd fun h' dd' hs => ?_
 have he : ∃ q, h'.get? a = some q := let ⟨q, _, _, hq, _⟩ := dd'; ⟨q, hq⟩
 exact ⟨_, d_write I (by rw [hH]; exact True.intro) hs he (dk_new hl hd (rel.put k rv) dd'), q⟩
def rGetD2 : V -> List V -> Hp -> VK -> Prop := fun x vs H Q => ∃ a kvs k d, x = .ref a /\ vs = [kV k, d] /\ Rd H a (.dK kvs) /\ Q ((valV kvs k).getD d) H
theorem mt_get2 : MtR X "dict.get" rGetD2 := by
  intro pins s σ H x xs v us Q I rx rv h
  obtain ⟨a, kvs, k, d, rfl, rfl, hH, q⟩ := h
  cases rx
  cases rv with
  | cons r1 r2 =>
    obtain ⟨r, rfl, rd⟩ := vals1 r2
    obtain ⟨z, hd, vs, rel, dd⟩ := dk_rd I.hok hH
    refine call_meetsIn zq184x dd.typeIs PySem.F.entry_dict_get (PySem.F.args_dict_get_3 _ _ _) (meets_dict_get_default (mixKind X.prog X.w) a (kV_is r1) hd r) ⟨_, dd.mapOf, ?_⟩
    exact ⟨_, H, I.tok _, (rel.val k).getD rd, q⟩
end
end L2
set_option maxRecDepth 100000
set_option maxHeartbeats 4000000
set_option maxRecDepth 100000
set_option maxHeartbeats 4000000
namespace L2
def Lg (n : Nat) (i : Int) : Prop := -(2 ^ n : Int) < i /\ i < 2 ^ n
abbrev Cn := List (Int × Int)
structure CntOk (cs : Cn) : Prop where
 rng : ∀ c ∈ cs, 0 <= c.1 /\ c.1 <= 12 /\ 0 <= c.2 /\ c.2 <= 10 ^ 7
 nd : (cs.map (·.1)).Nodup
 len : cs.length <= 14
 pos : ∃ c ∈ cs, 0 < c.1 /\ 0 < c.2
def sumS : Cn -> Rat -> Rat
 | [], _ => 0
 | c :: r, v => (if 0 < c.1 then ((c.1 * c.2 : Int) : Rat) * v ^ (c.1.toNat - 1) else 0) + sumS r v
def sumW : Cn -> Int
 | [] => 0
 | c :: r => c.1 * c.2 + sumW r
def tellT (cs : Cn) (v : Rat) : Rat := sumS cs v / (sumW cs : Int)
structure Sh (v : Rat) (a b : Int) (k : Nat) : Prop where
 a0 : 0 <= a
 ab : a <= b
 b0 : 0 < b
 bk : Lg k b
 e : (a : Rat) = v * b
def growG (l c : Cn) (s v : Rat) : Rat := s * tellT l (1 - tellT c (1 - v))
section
variable {l c : Cn} {s : Rat} (hl : CntOk l) (hc : CntOk c) (s0 : 0 <= s)
include hl hc s0
end
def ceilR (x : Rat) : Int := -((-x).floor)
end L2
namespace L2
structure Gw where
 l : Cn
 c : Cn
 s : Rat
 u : Int
def Gw.gr (g : Gw) (x : Int) : Rat := growG g.l g.c g.s ((x : Rat) / g.u) * g.u
def Gw.lo (g : Gw) : Nat -> Int
 | 0 => (g.s * g.u).floor
 | k + 1 => (g.gr (g.lo k)).floor
def Gw.hi (g : Gw) : Nat -> Int
 | 0 => ceilR (g.s * g.u)
 | k + 1 => ceilR (g.gr (g.hi k))
end L2
set_option maxRecDepth 100000
set_option maxHeartbeats 4000000
namespace L2
open PySem PySem.Spec PyProof.Rows
@[reducible] def bdD (g : Gw) (k : Nat) : PyData := .tuple [.int (g.lo k), .int (g.hi k)]
@[reducible] def fallD (n : Nat) : PyData := .tuple [.str "falls", .int n]
@[reducible] def stayD (x : Int) : PyData := .tuple [.str "stays", .int x]
@[reducible] def openD : PyData := .tuple [.str "open"]
def gLst (K : PySem.W.Frag) (n : Nat) (t : TGs) : TG := fun v σ H Q => ∃ a xs, v = .ref a /\ SqL K H a xs /\ xs.length = n /\ t xs σ H Q
theorem Gv.lst {G : Gx} {ρ : Rh} {f : Bool} {ds : List PyData} {K : PySem.W.Frag} {Θ : Rh -> Prop} {n : Nat} {u : TGs} (hl : ds.length = n) (h : Gvs G ρ u f ds Θ) : Gv G ρ (gLst K n u) f (.list ds) Θ := fun nb σ H v Q W hv z => by
 obtain ⟨a, xs, rfl, m, hx, hd⟩ := hv.ofL
 exact ⟨a, xs, rfl, .of hx, by rw [hd.length]; exact hl, h nb σ H xs Q W hd z⟩
end L2
set_option maxRecDepth 100000
set_option maxHeartbeats 4000000
namespace L2
open PySem PySem.Spec PyProof.Rows PySem.W
section
variable {n : Nat} {cmp : Nat -> Nat -> (Bool -> Shared -> Prop) -> Shared -> Prop} {s : Shared}
def VP (n : Nat) (p : Array Nat) : Prop := p.toList.Perm (List.range n)
theorem VP.of {p q : Array Nat} (h : VP n p) (z : q.Perm p) : VP n q := (Array.perm_iff_toList_perm.mp z).trans h
theorem VP.lt {p : Array Nat} (h0 : 0 < n) (h : VP n p) (k : Nat) : p.getD k 0 < n := by
 by_cases hk : k < p.size
 ·have e : p.getD k 0 = p[k] := by simp [Array.getD, hk]
  rw [e]
  have m : p[k] ∈ p.toList := by simp
  exact zq37x.mp (h.mem_iff.mp m)
 ·have e : p.getD k 0 = 0 := by simp [Array.getD, hk]
  rw [e]; exact h0
variable (h0 : 0 < n) (hc : ∀ i j C, i < n -> j < n -> (∀ b, C b s) -> cmp i j C s)
include h0 hc
theorem asc_any {p : Array Nat} (hp : VP n p) {Q : Nat -> Shared -> Prop} (hQ : ∀ r, Q r s) : ∀ f m, (kas_asc p f m).kasWp cmp Q s
  | 0, m => hQ m
  | f + 1, m => hc _ _ _ (hp.lt h0 _) (hp.lt h0 _) fun b => by
    cases b with
    | true => exact hQ m
    | false => exact asc_any hp hQ f (m + 1)
theorem desc_any {Q : Array Nat × Nat × Nat -> Shared -> Prop} (hQ : ∀ p m q, VP n p -> Q (p, m, q) s) : ∀ f p m q, VP n p -> (kas_desc f p m q).kasWp cmp Q s
  | 0, p, m, q, hp => hQ p m q hp
  | f + 1, p, m, q, hp => hc _ _ _ (hp.lt h0 _) (hp.lt h0 _) fun b => by
    cases b with
    | true =>
      simp only [if_true]
      split
      · exact desc_any hQ f _ _ _ (hp.of (mirror_perm _ _ _ _))
      · exact desc_any hQ f _ _ _ hp
    | false =>
      simp only [zq90x, if_false]
      refine hc _ _ _ (hp.lt h0 _) (hp.lt h0 _) fun b => ?_
      cases b with
      | true => simp only [if_true]; exact hQ p m q hp
      | false => simp only [zq90x, if_false]; exact desc_any hQ f p (m + 1) (q + 1) hp
theorem tail3_any {p : Array Nat} (hp : VP n p) {Q : Nat × Array Nat -> Shared -> Prop} (hQ : ∀ m p, VP n p -> Q (m, p) s) (m r : Nat) : (kas_tail3 m r p).kasWp cmp Q s := by
 unfold kas_tail3
 rw [zq103x]
 have hp' : VP n (kas_rev p 0 m) := hp.of (mirror_perm _ _ _ _)
 exact asc_any h0 hc hp' (fun r => hQ r _ hp') _ _
theorem descPart_any {p : Array Nat} (hp : VP n p) {Q : Nat × Array Nat -> Shared -> Prop} (hQ : ∀ m p, VP n p -> Q (m, p) s) (m r : Nat) : (kas_descPart m r p).kasWp cmp Q s := by
 unfold kas_descPart
 rw [zq103x]
 refine desc_any h0 hc (fun p' m' q' hp' => ?_) _ _ _ _ hp
 split
 ·exact tail3_any h0 hc (hp'.of (mirror_perm _ _ _ _)) hQ _ _
 ·exact tail3_any h0 hc hp' hQ _ _
theorem count_any {p : Array Nat} (hp : VP n p) {Q : Nat × Array Nat -> Shared -> Prop} (hQ : ∀ m p, VP n p -> Q (m, p) s) (r : Nat) : (kas_count r p).kasWp cmp Q s := by
 unfold kas_count
 rw [zq103x]
 refine asc_any h0 hc hp (fun m => ?_) _ _
 split
 ·exact hQ _ _ hp
 split
 ·refine hc _ _ _ (hp.lt h0 _) (hp.lt h0 _) fun b => ?_
  cases b with
  | true => simp only [if_true]; exact hQ _ _ hp
  | false => simp only [zq90x, if_false]; exact descPart_any h0 hc (hp.of (mirror_perm _ _ _ _)) hQ _ _
 ·exact descPart_any h0 hc hp hQ _ _
theorem place_any {p : Array Nat} (hp : VP n p) (k : Nat) {Q : Nat -> Shared -> Prop} (hQ : ∀ r, Q r s) : ∀ f l r, (kas_place p k f l r).kasWp cmp Q s
  | 0, l, r => hQ l
  | f + 1, l, r => by
    unfold kas_place
    split
    · exact hQ l
    · refine hc _ _ _ (hp.lt h0 _) (hp.lt h0 _) fun b => ?_
      cases b with
      | true => simp only [if_true]; exact place_any hp k hQ f _ _
      | false => simp only [zq90x, if_false]; exact place_any hp k hQ f _ _
theorem bin_any {Q : Array Nat -> Shared -> Prop} (hQ : ∀ p, VP n p -> Q p s) : ∀ f p k, VP n p -> (kas_bin f p k).kasWp cmp Q s
  | 0, p, k, hp => hQ p hp
  | f + 1, p, k, hp => by
    unfold kas_bin
    rw [zq103x]
    exact place_any h0 hc hp k (fun l => bin_any hQ f _ _ (hp.of (bubble_perm _ _ _))) _ _ _
theorem sort_any {Q : Array Nat -> Shared -> Prop} (hQ : ∀ p, VP n p -> Q p s) : (kas_sort n).kasWp cmp Q s := by
 unfold kas_sort
 rw [zq103x]
 refine count_any h0 hc (p := List.toArray (List.range n)) (by unfold VP; exact .refl _) (fun m p hp => ?_) _
 dsimp only
 split
 ·exact bin_any h0 hc hQ _ _ _ hp
 ·exact hQ _ hp
end
def PairAt (h : Heap) (v : Value) : Prop := ∃ a o i j t u m, v = .ref a /\ h.get? a = some o /\ o.cls = .type "tuple" /\ o.data = .seq #[.int i t, .int j u] m
section
variable {prog : Program} {w : World} {A : Around} {E : Value -> Shared -> Prop} {s : Shared}
theorem pair_lt {x y : Value} {C : Bool -> Shared -> Prop} (hx : PairAt s.heap x) (hy : PairAt s.heap y) (h : ∀ b, C b s) : wpAny (model prog w) A (keyLt' (tuples' true) x y) C E s := by
  obtain ⟨a, o, i, j, t, u, m, rfl, h1, h2, h3⟩ := hx
  obtain ⟨a', o', i', j', t', u', m', rfl, h1', h2', h3'⟩ := hy
  refine kat_lt h1 h3 h1' h3' ?_
  refine kat_cons (wpAny_eqBool_int ?_)
  cases (i == i') with
  | false =>
    refine kat_no ?_
    exact oneLt_int (h _)
  | true =>
    refine kat_yes (kat_cons (wpAny_eqBool_int ?_))
    cases (j == j') with
    | false =>
      refine kat_no ?_
      refine kat_one _ _ (lt_int ?_)
      exact h _
    | true => exact kat_yes (kat_nil (h _))
theorem pairs_kind {M : Model} {vs : List Value} {Q : SortKind -> Shared -> Prop} (hp : ∀ v ∈ vs, PairAt s.heap v) (hne : 0 < vs.length) (h : Q (tuples' true) s) : wpAny M A (keyKind' vs.toArray) Q E s := by
  obtain ⟨fs, hf, hl, hT⟩ : ∃ fs : List Value, KatTups s.heap vs fs /\ fs.length = vs.length /\ ∀ v ∈ fs, ∃ i t, v = .int i t := by
    clear hne h
    induction vs with
    | nil => exact ⟨[], .nil, rfl, fun _ h => nomatch h⟩
    | cons v r ih =>
      obtain ⟨fs, h1, h2, h3⟩ := ih fun x hx => hp x (zq33x _ hx)
      obtain ⟨a, o, i, j, t, u, m, rfl, g1, g2, g3⟩ := hp v (zq27x ..)
      refine ⟨.int i t :: fs, .cons g1 g2 g3 rfl h1, by simp [h2], fun x hx => ?_⟩
      rcases zq43x.mp hx with e | hx
      · exact ⟨i, t, e⟩
      · exact h3 x hx
  refine kat_kind (T := .type "int") hf (by omega) (fun v hv => ?_) (by decide) h
  obtain ⟨i, t, rfl⟩ := hT v hv
  exact Looks.of_pure rfl
theorem PairAt.keep {h h' : Heap} {v : Value} (x : PairAt h v) (k : ∀ b o, h.get? b = some o -> h'.get? b = some o) : PairAt h' v := by
 obtain ⟨a, o, i, j, t, u, m, e, h1, h2, h3⟩ := x
 exact ⟨a, o, i, j, t, u, m, e, k _ _ h1, h2, h3⟩
theorem list_sort_pairs {a : Addr} {vs : List Value} {n : Nat} {P : Fin -> Shared -> Prop} (ho : s.heap.get? a = some (seqObj "list" vs.toArray n)) (hp : ∀ v ∈ vs, PairAt s.heap v) (hna : ∀ v ∈ vs, v ≠ .ref a) (h64 : vs.length < 64)
  (h : ∀ out : Array Value, out.toList.Perm vs -> P (.done (.ret .none)) { s with heap := sortedHeap s.heap a vs out }) :
  wpAny (model prog w) A (Builtin.«list.sort» ⟨[.ref a], []⟩) P E s := by
 rw [list_sort_plain]
 have ha : a < s.heap.objs.size := zq9x ho
 refine wpAny_bind (listItems_at ho rfl ?_)
 refine wpAny_bind (listUpdate_at ho rfl ?_)
 obtain ⟨e1, ho1⟩ : ∃ e1, (s.heap.update a (Obj.mapSeq fun _ => #[])).get? a = some (seqObj "list" #[] e1) := ⟨_, get?_update_seq ho (fun _ => #[])⟩
 refine wpAny_bind (seqEpoch_at ho1 rfl ?_)
 refine wpAny_bind (wpAny_newTuple ?_)
 refine wpAny_bind (wpAny_newList ?_)
 refine wpAny_holding ?_
 have ho6 : (((s.heap.update a (Obj.mapSeq fun _ => #[])).push (seqObj "tuple" vs.toArray 0)).push (seqObj "list" #[] 0)).get? a = some (seqObj "list" #[] e1) := by
  rw [zq123x _ _ _ (by rw [size_push', zq124x]; exact zq25x (zq81x ha)), zq123x _ _ _ (by rw [zq124x]; exact zq25x ha)]
  exact ho1
 show wpAny (model prog w) A _ P E { s with heap := ((s.heap.update a (Obj.mapSeq fun _ => #[])).push (seqObj "tuple" vs.toArray 0)).push (seqObj "list" #[] 0) }
 dsimp only
 have hsz : vs.toArray.size = vs.length := by simp
 have hp6 : ∀ v ∈ vs, PairAt (((s.heap.update a (Obj.mapSeq fun _ => #[])).push (seqObj "tuple" vs.toArray 0)).push (seqObj "list" #[] 0)) v := fun v hv => by
  obtain ⟨b, o, i, j, t, u, m, rfl, g1, g2, g3⟩ := hp v hv
  have hb : b ≠ a := fun z => hna _ hv (by rw [z])
  refine ⟨b, o, i, j, t, u, m, rfl, zq26x _ (zq26x _ ?_), g2, g3⟩
  rw [Heap.get?_update_ne _ _ _ _ hb]; exact g1
 by_cases h2 : vs.toArray.size < 2
 ·rw [if_pos h2, if_pos h2]
  refine wpAny_bind (wpAny_pure ?_)
  rw [StateT.run_pure]
  refine wpAny_bind (wpAny_pure ?_)
  dsimp only
  refine wpAny_bind (seqEpoch_at ho6 rfl ?_)
  refine wpAny_bind (listUpdate_at ho6 rfl ?_ (hsz2 := by rw [Array.size_map]; show (pairsOf vs).size <= _; rw [pairsOf_size, sizeLine_eq]; omega))
  simp only [bne_self_eq_false, zq90x, if_false]
  refine wpAny_pure (h _ ?_)
  have e : (Array.map (fun x => x.2) (vs.toArray.zip vs.toArray)).toList = vs := by
   rw [Array.toList_map, Array.toList_zip]
   simp [List.map_snd_zip]
  show (Array.map (fun x => x.2) (vs.toArray.zip vs.toArray)).toList.Perm vs
  rw [e]
 ·rw [if_neg h2, if_neg h2]
  refine wpAny_bind (pairs_kind hp6 (by omega) ?_)
  refine wpAny_bind (wpAny_mono (kat_run (κ := tuples' true) (vs := vs) (ks := vs) (s := { s with heap := ((s.heap.update a (Obj.mapSeq fun _ => #[])).push (seqObj "tuple" vs.toArray 0)).push (seqObj "list" #[] 0) }) (Q := fun st' s' => s' = { s with heap := ((s.heap.update a (Obj.mapSeq fun _ => #[])).push (seqObj "tuple" vs.toArray 0)).push (seqObj "list" #[] 0) } /\ failedOf st' = none /\ ((arrOf st').map (·.2)).toList.Perm vs)
   (G := fun p s' => s' = { s with heap := ((s.heap.update a (Obj.mapSeq fun _ => #[])).push (seqObj "tuple" vs.toArray 0)).push (seqObj "list" #[] 0) } /\ VP vs.length p) rfl (by omega) h64 (fun p st' s' g1 g2 g3 ⟨g4, g5⟩ => ⟨g4, g3, ?_⟩) (sort_any (n := vs.length) (by omega) (fun i j C hi hj hC => ?_) fun p hp => ⟨rfl, hp⟩)) ?_ fun _ _ e => e)
  ·rw [kat_snds rfl g2]
   show (List.map _ _).Perm vs
   have := g5.map fun i => vs.getD i Value.none
   refine this.trans (List.Perm.of_eq ?_)
   refine zq86x fun k => ?_
   rw [zq13x]
   by_cases hk : k < vs.length
   ·rw [zq185x hk, zq1x hk]; simp [hk]
   ·rw [zq89x (by rw [zq88x]; omega), zq89x (by omega)]; rfl
  ·rw [kat_ask_eq (vs := vs) rfl]
   unfold kas_cmp
   rw [kat_item rfl, kat_item rfl]
   refine pair_lt (hp6 _ ?_) (hp6 _ ?_) hC
   ·rw [zq23x, zq1x hi]; exact zq40x _
   ·rw [zq23x, zq1x hj]; exact zq40x _
  rintro ⟨⟨⟩, st'⟩ s' ⟨rfl, hf, hs⟩
  dsimp only
  refine wpAny_bind (seqEpoch_at ho6 rfl ?_)
  refine wpAny_bind (listUpdate_at ho6 rfl ?_ (hsz2 := by
   have e := hs.length_eq
   rw [zq84x] at e
   rw [sizeLine_eq]
   have e' : (Array.map (fun x => x.2) (arrOf st')).size = vs.length := e
   omega))
  rw [hf]
  simp only [bne_self_eq_false, zq90x, if_false]
  exact wpAny_pure (h _ hs)
theorem sorted_pairs {l : Addr} {vs : List Value} {Q : Value -> Shared -> Prop} (hl : s.heap.IsList l vs.toArray) (hp : ∀ v ∈ vs, PairAt s.heap v) (h64 : vs.length < 64)
  (h : ∀ out : Array Value, out.toList.Perm vs -> Q (.ref (s.heap.objs.size + 1)) { s with heap := sortedAll s.heap vs out }) :
  wpAny (model prog w) A (call (.builtin "sorted") [.ref l]) Q E s := by
 refine zq148x kind_sorted plain_sorted entry_sorted (args_sorted1 _) ?_
 unfold Builtin.«sorted»
 refine wpAny_bind (m := checkCount "sorted" 1 1 _) (wpAny_pure ?_)
 refine wpAny_bind (collect_list hl ?_)
 refine wpAny_bind (wpAny_newList ?_)
 have hsz : ((s.heap.push (seqObj "list" #[] 0)).update s.heap.objs.size (Obj.mapSeq (· ++ vs.toArray))).objs.size = s.heap.objs.size + 1 := by
  rw [zq124x, size_push']
 have hoL : (((s.heap.push (seqObj "list" #[] 0)).update s.heap.objs.size (Obj.mapSeq (· ++ vs.toArray))).push (seqObj "list" vs.toArray 0)).get? (s.heap.objs.size + 1) = some (seqObj "list" vs.toArray 0) := by
  rw [<- hsz]; exact zq44x _ rfl
 have keep : ∀ b o, s.heap.get? b = some o -> (((s.heap.push (seqObj "list" #[] 0)).update s.heap.objs.size (Obj.mapSeq (· ++ vs.toArray))).push (seqObj "list" vs.toArray 0)).get? b = some o := fun b o q => by
  have hlt : b < s.heap.objs.size := zq9x q
  rw [zq123x _ _ _ (by rw [hsz]; exact zq25x (zq81x hlt)), Heap.get?_update_ne _ _ _ _ (zq25x hlt), zq123x _ _ _ (zq25x hlt)]
  exact q
 show wpAny _ _ _ _ _ { s with heap := ((s.heap.push (seqObj "list" #[] 0)).update s.heap.objs.size (Obj.mapSeq (· ++ vs.toArray))).push (seqObj "list" vs.toArray 0) }
 rw [hsz]
 refine wpAny_bind (wpAny_holding (wpAny_call_entry slot_list_sort ⟨_, hoL, rfl⟩ entry_list_sort (list_sort_pairs hoL (fun v hv => (hp v hv).keep keep) (fun v hv z => ?_) h64 fun out a1 => ⟨_, rfl, ?_⟩) (args_list_sort _)))
 ·obtain ⟨b, o, i, j, t, u, m, rfl, g1, _⟩ := hp v hv
  have := zq9x g1
  have z' : b = s.heap.objs.size + 1 := by cases z; rfl
  rw [z'] at this
  exact absurd this (Nat.not_lt.mpr (zq65x _))
 ·exact wpAny_pure ⟨_, rfl, h out a1⟩
end
def rSortT (K : PySem.W.Frag) : List V -> Hp -> VK -> Prop := fun xs H Q => ∃ p ys, xs = [.ref p] /\ SqL K H p ys /\ ys.length < 64 /\ (∀ y ∈ ys, ∃ a i j, y = .ref a /\ H a = some (.tup [.int i, .int j])) /\ ∀ zs : List V, zs.Perm ys -> ∀ l, H l = none -> Q (.ref l) (upd H l (.lst zs))
theorem vals_perm : ∀ {vs us : List Value} {ys : List V}, Vals ys vs -> us.Perm vs -> ∃ zs, Vals zs us /\ zs.Perm ys := by
  intro vs us ys h p
  induction p generalizing ys with
  | nil => cases h; exact ⟨[], .nil, .refl _⟩
  | cons x p ih =>
    cases h with
    | cons r rr =>
      obtain ⟨zs, h1, h2⟩ := ih rr
      exact ⟨_ :: zs, .cons r h1, h2.cons _⟩
  | swap x y l =>
    cases h with
    | cons r rr =>
      cases rr with
      | cons r' rr' => exact ⟨_ :: _ :: _, .cons r' (.cons r rr'), .swap ..⟩
  | trans p1 p2 ih1 ih2 =>
    obtain ⟨zs, h1, h2⟩ := ih2 h
    obtain ⟨ws, h3, h4⟩ := ih1 h1
    exact ⟨ws, h3, h4.trans h2⟩
theorem call_sortT {X : Cx} : CallR X (.builtin "sorted") (rSortT X.K) := by
  intro pins s σ H xs us Q I rv h
  obtain ⟨p, ys, rfl, hp, h64, hy, q⟩ := h
  obtain ⟨u, rfl, ru⟩ := vals1 rv
  cases ru
  obtain ⟨its, rs, il, hz⟩ := I.list hp
  have hl := rs.length
  refine sorted_pairs (vs := its) il.isList (fun v hv => ?_) (by omega) fun out ho => ?_
  · obtain ⟨k, hk, e⟩ := List.mem_iff_getElem.mp hv
    have hk' : k < ys.length := by omega
    obtain ⟨v', hv', rv'⟩ := rs.get (i := k) (x := ys[k]) (zq1x hk')
    have : v' = v := by rw [zq1x hk, e] at hv'; exact (zq31x hv').symm
    subst this
    obtain ⟨a, i, j, ea, ha⟩ := hy _ (zq40x hk')
    rw [ea] at rv'
    cases rv'
    obtain ⟨_, its2, rv2, o, g1, g2, m, g3⟩ := (show ObjOk X.prog X.w H s.heap a (.tup [.int i, .int j]) from I.hok a _ ha)
    cases rv2 with
    | cons x1 x2 =>
      cases x2 with
      | cons y1 y2 =>
        cases y2
        obtain ⟨t, rfl⟩ := x1
        obtain ⟨t2, rfl⟩ := y1
        exact ⟨a, o, i, j, t, t2, m, rfl, g1, g2, g3⟩
  · obtain ⟨zs, h1, h2⟩ := vals_perm rs ho
    obtain ⟨e, ge⟩ := sortedAll_at s.heap its out
    have new : ObjOk X.prog X.w (upd H (s.heap.objs.size + 1) (.lst zs)) (sortedAll s.heap its out) (s.heap.objs.size + 1) (.lst zs) := by
      refine ⟨?_, out.toList, e, h1, by simpa using ge⟩
      rw [h2.length_eq]; exact zq16x (zq67x h64) (by decide)
    exact ⟨.ref (s.heap.objs.size + 1), _, I.laid (t' := s.toks) (fun b o z => sortedAll_old z) (zq65x _) new, rfl, q _ h2 _ (I.hok.fresh (zq65x _))⟩
theorem isDs_pairs {nb : Addr -> Prop} {H : Hp} : ∀ {cs : Cn} {xs : List V}, IsDs nb H (cs.map pairD) xs -> ∀ y ∈ xs, ∃ a i j, y = .ref a /\ H a = some (.tup [.int i, .int j])
  | [], xs, h, y, hy => by unfold IsDs at h; rw [h] at hy; cases hy
  | c :: r, xs, h, y, hy => by
    unfold IsDs at h
    obtain ⟨z, zs, rfl, h1, h2⟩ := h
    rcases zq43x.mp hy with e | hy
    · subst e
      obtain ⟨a, ws, rfl, n, hx, hd⟩ := h1.ofT
      have : ws = [V.int c.1, V.int c.2] := isDs_ints_eq (is := [c.1, c.2]) hd
      subst this
      exact ⟨a, _, _, rfl, hx⟩
    · exact isDs_pairs h2 y hy
theorem isDs_perm {nb : Addr -> Prop} {H : Hp} {ys zs : List V} (p : zs.Perm ys) : ∀ {ds : List PyData}, IsDs nb H ds ys -> ∃ es, es.Perm ds /\ IsDs nb H es zs := by
  induction p with
  | nil => intro ds h; cases ds with
    | nil => exact ⟨[], .refl _, .nil⟩
    | cons d r => unfold IsDs at h; obtain ⟨_, _, e, _⟩ := h; cases e
  | cons x p ih =>
    intro ds h
    cases ds with
    | nil => unfold IsDs at h; cases h
    | cons d r =>
      unfold IsDs at h
      obtain ⟨y, ys', e, h1, h2⟩ := h
      cases e
      obtain ⟨es, h3, h4⟩ := ih h2
      exact ⟨d :: es, h3.cons _, .cons h1 h4⟩
  | swap x y l =>
    intro ds h
    cases ds with
    | nil => unfold IsDs at h; cases h
    | cons d r =>
      unfold IsDs at h
      obtain ⟨y', ys', e, h1, h2⟩ := h
      cases e
      cases r with
      | nil => unfold IsDs at h2; cases h2
      | cons d2 r2 =>
        unfold IsDs at h2
        obtain ⟨y2, ys2, e, h3, h4⟩ := h2
        cases e
        exact ⟨d2 :: d :: r2, .swap .., .cons h3 (.cons h1 h4)⟩
  | trans p1 p2 ih1 ih2 =>
    intro ds h
    obtain ⟨es, h1, h2⟩ := ih2 h
    obtain ⟨fs, h3, h4⟩ := ih1 h2
    exact ⟨fs, h3.trans h1, h4⟩
theorem perm_map {es ds : List PyData} (h1 : es.Perm ds) : ∀ {cs : Cn}, cs.map pairD = ds -> ∃ cs' : Cn, cs'.Perm cs /\ es = cs'.map pairD := by
  induction h1 with
  | nil => intro cs hds; exact ⟨[], by rw [List.map_eq_nil_iff.mp hds], rfl⟩
  | cons x p ih =>
    intro cs hds
    cases cs with
    | nil => cases hds
    | cons c r =>
      rw [zq4x] at hds
      cases hds
      obtain ⟨cs', h1, h2⟩ := ih (cs := r) rfl
      exact ⟨c :: cs', h1.cons _, by rw [zq4x, h2]⟩
  | swap x y l =>
    intro cs hds
    cases cs with
    | nil => cases hds
    | cons c r =>
      rw [zq4x] at hds
      cases r with
      | nil => cases hds
      | cons c2 r2 =>
        rw [zq4x] at hds
        cases hds
        exact ⟨c2 :: c :: r2, .swap .., rfl⟩
  | trans p1 p2 ih1 ih2 =>
    intro cs hds
    obtain ⟨c1, g1, g2⟩ := ih2 hds
    obtain ⟨c2, g3, g4⟩ := ih1 g2.symm
    exact ⟨c2, g3.trans g1, g4⟩
theorem EvN.sortT {G : Gx} {ρ : Rh} {te : TE} {K : PySem.W.Frag} {Θ : Bool -> List PyData -> Prop} (h : Ev G ρ te fun f x => ∃ cs : Cn, x = .list (cs.map pairD) /\ cs.length < 64 /\ ∀ (cs' : Cn) (g : Bool), cs'.Perm cs -> Θ g (cs'.map pairD)) : EvN G ρ (tCB (rSortT K) (tCons te tNil)) Θ := fun nb σ H Q W z =>
 h nb σ H _ W fun f v H1 x ⟨cs, ex, hn, q⟩ s1 hv => by
  subst ex
  obtain ⟨a, xs, rfl, na, hx, hd⟩ := hv.ofL
  have hl := hd.length
  refine ⟨a, xs, rfl, .of hx, by rw [hl, zq0x]; exact hn, isDs_pairs hd, fun zs hz l hll => ?_⟩
  obtain ⟨es, h1, h2⟩ := isDs_perm hz hd
  obtain ⟨cs', h3, rfl⟩ := perm_map h1 rfl
  exact EvN.fin (f := f) W s1 hll h2 (q cs' _ h3) z
end L2
set_option maxRecDepth 100000
set_option maxHeartbeats 4000000
namespace L2
open PySem PySem.Spec PyProof.Rows PySem.W
section
variable {n : Nat} {key : Nat -> Int} {cmp : Nat -> Nat -> (Bool -> Shared -> Prop) -> Shared -> Prop} {s : Shared}
variable (h0 : 0 < n) (hc : ∀ i j C, i < n -> j < n -> C (decide (key i < key j)) s -> cmp i j C s)
include h0 hc
end
end L2
set_option maxRecDepth 100000
set_option maxHeartbeats 4000000
set_option maxRecDepth 100000
set_option maxHeartbeats 4000000
namespace L2
open PySem PySem.Spec PyProof.Rows
@[reducible] def gwOf (l c : Cn) (u p : Int) : Gw := ⟨l, c, (p : Rat) / u, u⟩
end L2
set_option maxRecDepth 100000
set_option maxHeartbeats 4000000
set_option maxRecDepth 100000
set_option maxHeartbeats 4000000
namespace L2
open PySem PySem.Spec PyProof.Rows
theorem lk_list_keys : typeLookup (.type "list") "keys" = pure none := by rw [typeLookup_type, builtinLookup_eq_fast]; kernel_rfl
theorem lk_list_getattr : typeLookup (.type "list") "__getattr__" = pure none := by rw [typeLookup_type, builtinLookup_eq_fast]; kernel_rfl
section
variable {prog : Program} {w : World} {A : Around} {E : Value -> Shared -> Prop} {h : Heap} {g : Array GenState} {d : Drawn} {t : Nat} {os : OsState} {a : Addr} {o : Obj}
theorem keys_entry_list {tk : Tok} {Q : Fin -> Shared -> Prop} {xs : Array Value} {n : Nat} (hh : A.handled = none) (hx : h.get? a = some (seqObj "list" xs n))
  (hq : ∀ h' tk e, Heap.NewAttrErr h h' e (.ref a) "keys" -> E (.ref e) ⟨h', g, d, tk, os⟩) :
  wpAny (model prog w) A (Builtin.«object.__getattribute__» ⟨[.ref a, .str "keys" tk], []⟩) Q E ⟨h, g, d, t, os⟩ := by
 have hT : (⟨h, g, d, t, os⟩ : Shared).TypeIs (.ref a) "list" := ⟨_, hx, rfl⟩
 have f4 := lk_list_keys
 unfold Builtin.«object.__getattribute__»
 repeat (any_goals (first | assumption | wp_step))
 exact wpAny_raiseAttrError hh hq (attrMsg_fits (by decide +kernel) (by size_fits))
theorem keys_call_list {tk : Tok} {R : Result -> Shared -> Prop} {xs : Array Value} {n : Nat} (hh : A.handled = none) (hx : h.get? a = some (seqObj "list" xs n)) (hq : ∀ h' tk e, Heap.NewAttrErr h h' e (.ref a) "keys" -> R (.error (.ref e)) ⟨h', g, d, tk, os⟩) :
  codeAny (model prog w) A (.call (.builtin "list.__getattribute__") ⟨[.ref a, .str "keys" tk], []⟩) R ⟨h, g, d, t, os⟩ :=
 codeAny_call_builtin zq125x.plain PySem.F.entry_list_ga (zq125x.check _ _ _ _ _ _ _ _ (show (⟨h, g, d, t, os⟩ : Shared).TypeIs (.ref a) "list" from ⟨_, hx, rfl⟩) (PySem.F.args_list_getattribute_2 _ _) (keys_entry_list (by exact hh) hx hq))
theorem no_keys_list {Q : Option Value -> Shared -> Prop} {xs : Array Value} {n : Nat} (hh : A.handled = none) (hx : h.get? a = some (seqObj "list" xs n))
  (hq : ∀ h' tk, (∀ b ob, h.get? b = some ob -> h'.get? b = some ob) -> Q none ⟨h', g, d, tk, os⟩) : wpAny (model prog w) A (getAttr? (.ref a) "keys") Q E ⟨h, g, d, t, os⟩ := by
 have hT : (⟨h, g, d, t, os⟩ : Shared).TypeIs (.ref a) "list" := ⟨_, hx, rfl⟩
 have f1 := sub_AttributeError
 have f2 := zq125x.lookup
 have f3 := zq125x.bind (.ref a)
 have f5 := lk_list_getattr
 unfold getAttr? getAttrBy? getAttrBy
 repeat (any_goals (first | assumption | wp_step))
 refine keys_call_list hh hx fun h' tk e hx' => ?_
 obtain ⟨t', u', he⟩ := hx'.there
 unfold getattributeRaised
 repeat (any_goals (first | assumption | wp_step))
 exact hq _ _ hx'.keeps
end
end L2
set_option maxRecDepth 100000
set_option maxHeartbeats 4000000
namespace L2
open PySem PySem.Spec PyProof.Rows
theorem entry_dict_loop : entryFor table "dict.update.loop" = some Builtin.«dict.update.loop» := entryFor_of_tree (by kernel_rfl)
theorem plain_dict_loop : plainId "dict.update.loop" = true := by decide +kernel
def KvAt (P : Program) (w : World) (h : Heap) (v : Value) (p : Key × Value) : Prop := ∃ a o m ku, v = .ref a /\ h.get? a = some o /\ o.cls = .type "tuple" /\ o.data = .seq #[ku, p.2] m /\ (mixKind P w).is p.1 ku = true
section
variable {prog : Program} {w : World} {A : Around} {E : Value -> Shared -> Prop} {s : Shared}
theorem dict_loop {R : Result -> Shared -> Prop} {d it l : Addr} {its : List Value} {ps : List (Key × Value)} (hh : A.in1.handled = none) (hdl : d ≠ l) (hdi : d ≠ it) (hil : l ≠ it) (hlen : its.length = ps.length) (hsz : its.length <= 10000) :
    ∀ (k i : Nat) (s : Shared) (t : Tok), its.length - i = k -> i <= its.length -> s.heap.IsListIter it l i -> s.heap.IsList l its.toArray -> (∀ (j : Nat) (v : Value) (p : Key × Value), its[j]? = some v -> ps[j]? = some p -> KvAt prog w s.heap v p) -> (∀ (j : Nat) (v : Value), its[j]? = some v -> v ≠ Value.ref d /\ v ≠ Value.ref it) ->
      s.heap.DictOf (mixKind prog w) d (merged [] (ps.take i)) -> (merged [] (ps.take i)).length <= i ->
      (∀ h' tk, (∀ b o, b ≠ d -> b ≠ it -> s.heap.get? b = some o -> h'.get? b = some o) -> h'.DictOf (mixKind prog w) d (merged [] ps) -> R (.ok (.ret .none)) { s with heap := h', toks := tk }) ->
      codeAny (model prog w) A (.builtin "dict.update.loop" ⟨[.ref d, .ref it, .int i t, .none], []⟩) R s := by
  intro k
  induction k with
  | zero =>
    intro i s t hk hi hit hl hp hne hD hDl hR
    have hin : i = its.length := by omega
    subst hin
    refine codeAny_builtin entry_dict_loop ?_
    rw [zq122x plain_dict_loop _]
    show wpAny _ A.in1 (pyNext (.ref it) >>= _) _ _ s
    refine wpAny_bind (wpAny_pyNext_list_end hh hit hl (by simp) fun h' he => ?_)
    show wpAny _ A.in1 (ret Value.none) _ _ _
    rw [hlen, zq20x] at hD
    exact wpAny_pure (hR h' s.toks (fun b o _ n e => he b o n e) (hD.extBut he hdi))
  | succ k ih =>
    intro i s t hk hi hit hl hp hne hD hDl hR
    have hlt : i < its.length := by omega
    obtain ⟨v, hv⟩ : ∃ v, its[i]? = some v := ⟨_, zq1x hlt⟩
    obtain ⟨p, hpp⟩ : ∃ p, ps[i]? = some p := ⟨_, zq1x (by omega)⟩
    obtain ⟨hn1, hn2⟩ := hne i v hv
    obtain ⟨a, o, m, ku, rfl, g1, g2, g3, g4⟩ := hp i v p hv hpp
    have had : a ≠ d := fun z => hn1 (by rw [z])
    have hai : a ≠ it := fun z => hn2 (by rw [z])
    refine codeAny_builtin entry_dict_loop ?_
    rw [zq122x plain_dict_loop _]
    show wpAny _ A.in1 (pyNext (.ref it) >>= _) _ _ s
    refine wpAny_bind (wpAny_pyNext_list_item hit hl (x := .ref a) (by simpa using hv) fun h1 hit1 sb1 => ?_)
    have g1' : h1.get? a = some o := (sb1.2 a hai).trans g1
    have hT : (⟨h1, s.gens, s.drawn, s.toks, s.os⟩ : Shared).TypeIs (.ref a) "tuple" := ⟨o, g1', g2⟩
    show wpAny _ A.in1 (holding [Value.ref a] _ >>= _) _ _ _
    refine wpAny_bind (wpAny_holding (wpAny_bind (wpAny_tryCatch ?_)))
    show wpAny _ A.in1 (Builtin.Dict.pairItems (.ref a)) _ _ _
    unfold Builtin.Dict.pairItems
    refine wpAny_bind (wpAny_typeOf hT ?_)
    rw [if_pos (by decide)]
    refine wpAny_bind (wpAny_seqItems g1' g3 (wpAny_pure ?_))
    show wpAny _ A.in1 (holding [ku, p.2] (dictSet d ku p.2)) _ _ _
    have hD1 : h1.DictOf (mixKind prog w) d (merged [] (ps.take i)) := hD.sameBut sb1 hdi
    refine wpAny_holding (wpAny_dictSet_pairs (s := ⟨h1, s.gens, s.drawn, s.toks, s.os⟩) g4 hD1 (fun h2 hD2 sb2 => ?_) (zq16x hDl (zq16x hi (zq16x hsz (by decide)))))
    have e : stored (merged [] (ps.take i)) p.1 p.2 = merged [] (ps.take (i + 1)) := by rw [take_snoc hpp]; unfold merged; rw [zq100x]; rfl
    rw [e] at hD2
    have kk : ∀ b o, b ≠ d -> b ≠ it -> s.heap.get? b = some o -> h2.get? b = some o := fun b o n1 n2 z => (sb2.2 b n1).trans ((sb1.2 b n2).trans z)
    refine wpAny_pure ⟨plainId_quiet plain_dict_loop _, ih (i + 1) ⟨h2, s.gens, s.drawn, s.toks + 1, s.os⟩ _ (by omega) hlt ?_ ?_ ?_ hne hD2 ?_ fun h' tk k' hD' => ?_⟩
    · exact hit1.at fun o z => (sb2.2 it (zq11x hdi)).trans z
    · exact hl.at fun o z => kk l o (zq11x hdl) hil z
    · intro j v' p' hv' hp'
      obtain ⟨hn1, hn2⟩ := hne j v' hv'
      obtain ⟨a, o, m, ku, rfl, q1, q2, q3, q4⟩ := hp j v' p' hv' hp'
      exact ⟨a, o, m, ku, rfl, kk a o (fun z => hn1 (by rw [z])) (fun z => hn2 (by rw [z])) q1, q2, q3, q4⟩
    · rw [<- e]
      unfold stored
      split
      · rw [zq0x]; omega
      · rw [zq22x, zq60x]; omega
    · exact hR h' tk (fun b o n1 n2 z => k' b o n1 n2 (kk b o n1 n2 z)) hD'
theorem call_dict_list {l : Addr} {its : List Value} {n : Nat} {ps : List (Key × Value)} {Q : Value -> Shared -> Prop} (hh : A.handled = none) (hlo : s.heap.get? l = some (seqObj "list" its.toArray n)) (hlen : its.length = ps.length) (hsz : its.length <= 10000)
  (hp : ∀ (j : Nat) (v : Value) (p : Key × Value), its[j]? = some v -> ps[j]? = some p -> KvAt prog w s.heap v p)
  (h : ∀ h' tk, h'.DictOf (mixKind prog w) s.heap.objs.size (merged [] ps) -> (∀ b o, s.heap.get? b = some o -> h'.get? b = some o) -> Q (.ref s.heap.objs.size) { s with heap := h', toks := tk }) :
  wpAny (model prog w) A (call (.type "dict") [.ref l]) Q E s := by
 refine callType_codes (Q₁ := fun obj s₁ => obj = .ref s.heap.objs.size /\ s₁ = { s with heap := s.heap.push { cls := .type "dict", data := .dict #[] } }) PySem.F.kt_called_dict (PySem.F.kt_typeCall_dict_1 _) PySem.F.entry_dict_init (kt_code_dict_new _ ⟨rfl, rfl⟩) ?_
 rintro obj s₁ ⟨rfl, rfl⟩
 have hnew : (s.heap.push { cls := .type "dict", data := .dict #[] }).DictOf (mixKind prog w) s.heap.objs.size [] := Heap.DictOf.new s.heap
 have hl1 : (s.heap.push { cls := .type "dict", data := .dict #[] }).get? l = some (seqObj "list" its.toArray n) := zq26x _ hlo
 have hll : l < s.heap.objs.size := zq9x hlo
 refine ⟨hnew.typeIs, PySem.F.args_dict_init_2 _ _, ?_⟩
 unfold Builtin.«dict.__init__»
 refine wpAny_bind ?_
 unfold Builtin.Dict.selfAndRest
 refine wpAny_bind (wpAny_notOrdered_dict hnew.typeIs ?_)
 show wpAny _ _ (pure (s.heap.objs.size, [Value.ref l])) _ _ _
 refine wpAny_pure ?_
 show wpAny _ _ (Builtin.Dict.updateFrom "dict.__init__" s.heap.objs.size (.ref l) [] .none) _ _ _
 unfold Builtin.Dict.updateFrom
 refine wpAny_bind (wpAny_typeOf (T := "list") ⟨_, hl1, rfl⟩ ?_)
 rw [if_pos (by decide)]
 refine wpAny_bind (no_keys_list (A := A.in1.in1) hh hl1 fun h1 tk k1 => ?_)
 rw [if_pos (show (none : Option Value).isNone = true from rfl)]
 refine wpAny_bind (wpAny_rule (wpAny_bind ?_))
 have hl2 : h1.get? l = some (seqObj "list" its.toArray n) := k1 _ _ hl1
 have hD1 : h1.DictOf (mixKind prog w) s.heap.objs.size [] := let ⟨o', es, ep, ho, r⟩ := hnew; ⟨o', es, ep, k1 _ _ ho, r⟩
 have hs1 : s.heap.objs.size < h1.objs.size := by obtain ⟨o', es, ep, ho, _⟩ := hD1; exact zq9x ho
 have L2' : h1.IsList l its.toArray := ⟨_, hl2, rfl, n, rfl⟩
 refine wpAny_pyIter_list L2' ?_
 refine wpAny_pure ⟨plainId_quiet plain_dict_loop _, ?_⟩
 refine dict_loop (A := A.in1) (its := its) (ps := ps) hh (zq11x (zq25x hll)) (zq25x hs1) (zq25x (zq121x hll hs1)) hlen hsz its.length 0 _ _ (by omega) (zq34x _) ⟨_, zq44x _ rfl, rfl, rfl⟩ (L2'.push _) ?_ ?_ (hD1.push _) (zq3x _) fun h' tk' k' hD' => ?_
 ·intro j v p hv hpp
  obtain ⟨a, o, m, ku, rfl, q1, q2, q3, q4⟩ := hp j v p hv hpp
  exact ⟨a, o, m, ku, rfl, zq26x _ (k1 _ _ (zq26x _ q1)), q2, q3, q4⟩
 ·intro j v hv
  obtain ⟨p, hpp⟩ : ∃ p, ps[j]? = some p := ⟨_, zq1x (by have := (zq2x.mp hv).1; omega)⟩
  obtain ⟨a, o, m, ku, rfl, q1, _⟩ := hp j v p hv hpp
  have la := zq9x q1
  refine ⟨fun z => ?_, fun z => ?_⟩
  ·cases z; exact absurd la (zq53x _)
  ·have z' : a = h1.objs.size := by cases z; rfl
   rw [z'] at la
   exact absurd (zq121x la hs1) (zq53x _)
 ·refine ⟨rfl, h h' tk' hD' fun b o z => ?_⟩
  have lb := zq9x z
  exact k' b o (zq25x lb) (zq25x (zq121x lb hs1)) (zq26x _ (k1 _ _ (zq26x _ z)))
end
def rDictL : List V -> Hp -> VK -> Prop := fun xs H Q => ∃ (l : Addr) (ys : List V) (kvs : List (Key × V)), xs = [.ref l] /\ H l = some (.lst ys) /\ ys.length = kvs.length /\ ys.length <= 10000 /\
 (∀ (j : Nat) (y : V) (p : Key × V), ys[j]? = some y -> kvs[j]? = some p -> ∃ a, y = .ref a /\ H a = some (.tup [kV p.1, p.2])) /\ ∀ d, H d = none -> Q (.ref d) (upd H d (.dK (mergeK [] kvs)))
theorem call_dictL {X : Cx} (hc : X.calm = true) : CallR X (.type "dict") rDictL := by
  intro pins s σ H xs us Q I rv h
  obtain ⟨l, ys, kvs, rfl, hH, hlen, hsz, hy, q⟩ := h
  obtain ⟨u, rfl, ru⟩ := vals1 rv
  cases ru
  obtain ⟨_, its, n, rs, h1⟩ := (show ObjOk X.prog X.w H s.heap l (.lst ys) from I.hok l _ hH)
  have hli := rs.length
  have key : ∃ ps : List (Key × Value), KV kvs ps /\ ∀ (j : Nat) (v : Value) (p : Key × Value), its[j]? = some v -> ps[j]? = some p -> KvAt X.prog X.w s.heap v p := by
    have gen : ∀ (ys : List V) (its : List Value) (kvs : List (Key × V)), Vals ys its -> ys.length = kvs.length -> (∀ (j : Nat) (y : V) (p : Key × V), ys[j]? = some y -> kvs[j]? = some p -> ∃ a, y = .ref a /\ H a = some (.tup [kV p.1, p.2])) -> ∃ ps : List (Key × Value), KV kvs ps /\ ∀ (j : Nat) (v : Value) (p : Key × Value), its[j]? = some v -> ps[j]? = some p -> KvAt X.prog X.w s.heap v p := by
      intro ys
      induction ys with
      | nil =>
        intro its kvs r e _
        cases r
        cases kvs with
        | nil => exact ⟨[], .nil, fun j v p z => by simp at z⟩
        | cons _ _ => cases e
      | cons y ys ih =>
        intro its kvs r e hq
        cases r with
        | cons r1 r2 =>
          cases kvs with
          | nil => cases e
          | cons kv kvs =>
            obtain ⟨ps, g1, g2⟩ := ih _ kvs r2 (by simpa using e) fun j y p a b => hq (j + 1) y p (by simpa using a) (by simpa using b)
            obtain ⟨a, rfl, ha⟩ := hq 0 y kv rfl rfl
            cases r1
            obtain ⟨_, its2, rv2, o, w1, w2, m, w3⟩ := (show ObjOk X.prog X.w H s.heap a (.tup [kV kv.1, kv.2]) from I.hok a _ ha)
            cases rv2 with
            | cons x1 x2 =>
              cases x2 with
              | cons y1 y2 =>
                cases y2
                refine ⟨(kv.1, _) :: ps, .cons ⟨rfl, y1⟩ g1, fun j v p a b => ?_⟩
                cases j with
                | zero =>
                  simp at a b
                  subst a b
                  exact ⟨_, o, m, _, rfl, w1, w2, w3, kV_is x1⟩
                | succ j => exact g2 j v p (by simpa using a) (by simpa using b)
    exact gen ys its kvs rs hlen hy
  obtain ⟨ps, rel, hps⟩ := key
  have hpl := rel.length
  refine call_dict_list (I.ok.hd hc) h1 (by omega) (by omega) hps fun h' tk' hD k => ?_
  have hml := length_mergeK kvs []
  have new : ObjOk X.prog X.w (upd H s.heap.objs.size (.dK (mergeK [] kvs))) h' s.heap.objs.size (.dK (mergeK [] kvs)) := by
    refine dk_new (zq16x hml (zq16x (show _ <= 10000 by simp; omega) (by decide))) ?_ (rel.merge .nil) hD
    have hb := I.big
    have : s.heap.objs.size ≠ sysModules := zq113x hb
    simpa using this
  exact ⟨.ref s.heap.objs.size, _, I.laid (t' := tk') k (zq3x _) new, rfl, q _ (I.hok.fresh (zq3x _))⟩
end L2
set_option maxRecDepth 100000
set_option maxHeartbeats 4000000
namespace L2
open PySem PySem.Spec PyProof.Rows
abbrev Ks := List (Int × PyData)
def valI (ks : Ks) (k : Int) : Option PyData := (ks.find? fun p => decide (p.1 = k)).map (·.2)
def hasI (ks : Ks) (k : Int) : Bool := ks.any fun p => decide (p.1 = k)
def putI (ks : Ks) (k : Int) (d : PyData) : Ks := if hasI ks k then ks.map fun p => if p.1 = k then (p.1, d) else p else ks ++ [(k, d)]
def dropI (ks : Ks) (k : Int) : Ks := ks.filter fun p => decide (p.1 ≠ k)
theorem valI_has (ks : Ks) (k : Int) : (valI ks k).isSome = hasI ks k := by
  unfold valI hasI
  rw [Option.isSome_map]
  induction ks with
  | nil => rfl
  | cons p r ih =>
    rw [zq62x, zq59x]
    by_cases h : p.1 = k
    · simp [h]
    · simp only [h, decide_false, zq98x]; exact ih
theorem hasI_iff {ks : Ks} {k : Int} : hasI ks k = true ↔ k ∈ ks.map (·.1) := by
 unfold hasI
 rw [zq144x, zq14x]
 constructor
 ·rintro ⟨p, h1, h2⟩; exact ⟨p, h1, by simpa using h2⟩
 ·rintro ⟨p, h1, h2⟩; exact ⟨p, h1, by simpa using h2⟩
theorem valI_nil {k : Int} : valI [] k = none := rfl
theorem valI_cons {p : Int × PyData} {r : Ks} {k : Int} : valI (p :: r) k = if p.1 = k then some p.2 else valI r k := by
 unfold valI
 rw [zq62x]
 by_cases h : p.1 = k <;> simp [h]
theorem valI_map {ks : Ks} {k j : Int} {d : PyData} : valI (ks.map fun p => if p.1 = k then (p.1, d) else p) j = if j = k then (if hasI ks k = true then some d else none) else valI ks j := by
  induction ks with
  | nil => simp [valI, hasI]
  | cons p r ih =>
    rw [zq4x, valI_cons, ih, valI_cons]
    unfold hasI
    rw [zq59x]
    by_cases h1 : p.1 = k <;> by_cases h2 : j = k <;> by_cases h3 : p.1 = j <;> simp_all [hasI] <;> rw [decide_eq_false (by assumption)] <;> rfl
theorem valI_append {ks : Ks} {k j : Int} {d : PyData} : valI (ks ++ [(k, d)]) j = match valI ks j with | some x => some x | none => if j = k then some d else none := by
  induction ks with
  | nil =>
    rw [List.nil_append, valI_cons, valI_nil]
    by_cases h : k = j
    · subst h; simp
    · have h' : ¬ j = k := fun z => h z.symm
      simp [h, h']
  | cons p r ih =>
    rw [zq79x, valI_cons, valI_cons, ih]
    by_cases h : p.1 = j <;> simp [h]
theorem valI_put {ks : Ks} {k j : Int} {d : PyData} : valI (putI ks k d) j = if j = k then some d else valI ks j := by
 unfold putI
 split
 ·rename_i h
  rw [valI_map, h]; simp
 ·rename_i h
  rw [valI_append]
  by_cases e : j = k
  ·subst e
   have : valI ks j = none := by
    have := valI_has ks j
    cases hv : valI ks j with
    | none => rfl
    | some x => rw [hv] at this; exact absurd this.symm h
   simp [this]
  ·cases valI ks j <;> simp [e]
section
variable {S : Addr -> Prop} {H : Hp}
theorem IsKs.val : ∀ {ks : Ks} {ps : List (Key × V)} (k : Int), IsKs S H (ks.map kvD) ps -> match valI ks k with | some d => ∃ v, valV ps (Sum.inl k) = some v /\ IsD S H d v | none => valV ps (Sum.inl k) = none
  | [], ps, k, h => by unfold IsKs at h; subst h; exact valV_nil
  | p :: r, ps, k, h => by
    rw [zq4x] at h
    unfold IsKs at h
    obtain ⟨q, qs, rfl, h1, h2⟩ := h
    unfold IsK at h1
    obtain ⟨h3, h4⟩ := h1
    have h3 : q.1 = Sum.inl p.1 := h3
    rw [valI_cons]
    have ih := IsKs.val k h2
    by_cases e : p.1 = k
    · rw [if_pos e]
      refine ⟨q.2, ?_, h4⟩
      rw [valV_pos (by rw [h3, e])]
    · rw [if_neg e, valV_neg (fun z => e (by rw [h3] at z; exact zq135x z))]
      exact ih
theorem IsKs.snoc : ∀ {ks : Ks} {ps : List (Key × V)} {k : Int} {d : PyData} {v : V}, IsKs S H (ks.map kvD) ps -> IsD S H d v -> IsKs S H ((ks ++ [(k, d)]).map kvD) (ps ++ [(Sum.inl k, v)])
  | [], ps, k, d, v, h, hd => by
    unfold IsKs at h; subst h
    show IsKs S H [kvD (k, d)] [(Sum.inl k, v)]
    unfold IsKs
    exact ⟨_, _, rfl, by unfold IsK; exact ⟨rfl, hd⟩, by unfold IsKs; rfl⟩
  | p :: r, ps, k, d, v, h, hd => by
    rw [zq4x] at h
    unfold IsKs at h
    obtain ⟨q, qs, rfl, h1, h2⟩ := h
    rw [zq79x, zq4x, zq79x]
    unfold IsKs
    exact ⟨q, _, rfl, h1, IsKs.snoc h2 hd⟩
theorem IsKs.repl : ∀ {ks : Ks} {ps : List (Key × V)} {k : Int} {d : PyData} {v : V}, IsKs S H (ks.map kvD) ps -> IsD S H d v -> IsKs S H ((ks.map fun p => if p.1 = k then (p.1, d) else p).map kvD) (ps.map fun kv => if kv.1 = Sum.inl k then (kv.1, v) else kv)
  | [], ps, k, d, v, h, hd => by unfold IsKs at h; subst h; simp only [zq77x]; unfold IsKs; rfl
  | p :: r, ps, k, d, v, h, hd => by
    rw [zq4x] at h
    unfold IsKs at h
    obtain ⟨q, qs, rfl, h1, h2⟩ := h
    rw [zq4x, zq4x, zq4x]
    unfold IsK at h1
    obtain ⟨h3, h4⟩ := h1
    have h3 : q.1 = Sum.inl p.1 := h3
    unfold IsKs
    refine ⟨_, _, rfl, ?_, IsKs.repl h2 hd⟩
    by_cases e : p.1 = k
    · rw [if_pos e, if_pos (by rw [h3, e])]
      unfold IsK
      exact ⟨h3, hd⟩
    · rw [if_neg e, if_neg (fun z => e (by rw [h3] at z; exact zq135x z))]
      unfold IsK
      exact ⟨h3, h4⟩
theorem IsKs.any : ∀ {ks : Ks} {ps : List (Key × V)} (k : Int), IsKs S H (ks.map kvD) ps -> (ps.any fun kv => decide (kv.1 = Sum.inl k)) = hasI ks k := fun {ks ps} k h => by
 rw [valV_any, <- valI_has]
 have := IsKs.val k h
 cases hv : valI ks k with
 | none => rw [hv] at this; rw [this]; rfl
 | some d => rw [hv] at this; obtain ⟨v, e, _⟩ := this; rw [e]; rfl
theorem IsKs.put {ks : Ks} {ps : List (Key × V)} {k : Int} {d : PyData} {v : V} (h : IsKs S H (ks.map kvD) ps) (hd : IsD S H d v) : IsKs S H ((putI ks k d).map kvD) (putK ps (Sum.inl k) v) := by
 unfold putI putK
 rw [IsKs.any k h]
 split
 ·exact IsKs.repl h hd
 ·exact IsKs.snoc h hd
theorem IsKs.len : ∀ {ks : Ks} {ps : List (Key × V)}, IsKs S H (ks.map kvD) ps -> ps.length = ks.length
  | [], ps, h => by unfold IsKs at h; subst h; rfl
  | p :: r, ps, h => by
    rw [zq4x] at h
    unfold IsKs at h
    obtain ⟨q, qs, rfl, _, h2⟩ := h
    simp [IsKs.len h2]
theorem IsKs.keys : ∀ {ks : Ks} {ps : List (Key × V)}, IsKs S H (ks.map kvD) ps -> ps.map (·.1) = (ks.map (·.1)).map Sum.inl
  | [], ps, h => by unfold IsKs at h; subst h; rfl
  | p :: r, ps, h => by
    rw [zq4x] at h
    unfold IsKs at h
    obtain ⟨q, qs, rfl, h1, h2⟩ := h
    unfold IsK at h1
    have h3 : q.1 = Sum.inl p.1 := h1.1
    simp [IsKs.keys h2, h3]
end
def EvK (G : Gx) (ρ : Rh) (te : TE) (Φ : Bool -> Ks -> Prop) : Prop := ∀ nb σ H (Q : VK), Wd G nb ρ σ H ->
 (∀ f a ps H' ks, Φ f ks -> Step G.B H H' -> H a = none -> H' a = some (.dK ps) -> IsKs (fun x => G.S nb f x \/ x = a) H' (ks.map kvD) ps -> Q (.ref a) H') -> te σ H Q
section
variable {G : Gx} {ρ ρc : Rh} {Φ Ψ : Pd} {ta tb te : TE} {t : TA} {i : Nat} {f g : Bool} {d e : PyData} {ks : Ks} {K : PySem.W.Frag} {E : DE} {Θ : Bool -> Ks -> Prop}
theorem Wd.grow {nb : Addr -> Prop} {σ : St} {H H1 : Hp} {a : Addr} {o : HO} (W : Wd G nb ρ σ H) (s1 : Step G.B H H1) (ha : H a = none) (e : H1 a = some o) : Wd G (fun x => nb x \/ x = a) ρ σ H1 /\ NB G.B a /\ ∀ f x, G.S (fun x => nb x \/ x = a) f x -> (G.S nb f x \/ x = a) := by
  have hN : NB G.B a := NB.new W.bag ha
  have hA : ∀ f x, G.S (fun x => nb x \/ x = a) f x -> (G.S nb f x \/ x = a) := fun f x z => by
    rcases z with (z | z) | z | z | z
    · exact .inl (.inl z)
    · exact .inr z
    · exact .inl (.inr (.inl z))
    · exact .inl (.inr (.inr (.inl z)))
    · exact .inl (.inr (.inr (.inr z)))
  have W1 := W.step s1
  refine ⟨?_, hN, hA⟩
  refine ⟨W1.bag, fun x n => ?_, W1.old, fun x n q => ?_, W.gA, W.len, W.gB, fun h m => (((W.hld h m).fresh ha).keep (s1.but fun x z => .inl (.inr (.inr (.inl z))))).av (hA h.1), fun j s e' => ?_, W.apart, W.apd, W.apc⟩
  · rcases n with n | n
    · exact W1.live x n
    · subst n; rw [e]; exact zq71x _
  · rcases n with n | n
    · exact W.nbo x n q
    · subst n
      cases z : G.H0 x with
      | none => rfl
      | some o => rw [W.old x o q z] at ha; cases ha
  · obtain ⟨x, e1, h⟩ := W.ok j s e'
    refine ⟨x, e1, ?_⟩
    cases s with
    | no => trivial
    | d f d => obtain ⟨v, e, h⟩ := h; exact ⟨v, e, ((h.fresh ha).keep (s1.but fun x z => .inl (.inr (.inr (.inl z))))).av (hA f)⟩
    | own c f es => obtain ⟨e, n, q, xs, hx, hd⟩ := h; exact ⟨e, .inl n, q, xs, s1.1 _ _ q hx, ((hd.fresh ha).keep (s1.but fun x z => .inl (.inr (.inr (.inl z))))).av (hA f)⟩
    | bag => exact h
    | raw v => exact h
    | dic c f es => obtain ⟨e, n, q, xs, hx, hd⟩ := h; exact ⟨e, .inl n, q, xs, s1.1 _ _ q hx, ((hd.fresh ha).keep (s1.but fun x z => .inl (.inr (.inr (.inl z))))).av (hA f)⟩
    | cu c =>
      obtain ⟨e, n, q⟩ := h
      refine ⟨e, fun a ha => ⟨.inl (n a ha).1, (n a ha).2⟩, c.av (hA c.f) (c.keep (.of fun x o hx e => s1.1 x o ?_ e) (c.fresh ha q))⟩
      rcases hx with hx | hx
      · exact zq54x fun z => hx (.inl (.inr (.inr (.inl z))))
      · exact (n x hx).2
theorem dic_of {nb : Addr -> Prop} {σ : St} {H H1 : Hp} {a : Addr} {ps : List (Key × V)} (W : Wd G nb ρ σ H) (s1 : Step G.B H H1) (ha : H a = none) (e : H1 a = some (.dK ps)) (hd : IsKs (fun x => G.S nb f x \/ x = a) H1 (ks.map kvD) ps) :
  Wd G (fun x => nb x \/ x = a) (ρ.set i (.dic a f ks)) (σ.set i (some (.ref a))) H1 := by
 obtain ⟨W2, hN, hA⟩ := W.grow s1 ha e
 refine W2.set ⟨rfl, .inr rfl, hN, ps, e, hd.av (hA f)⟩ (fun _ _ _ z => by cases z) ?_ (fun x hx j t hj ht hc => ?_)
 rotate_left
 ·have hx : x = a := zq12x.mp hx
  subst hx
  rcases hc with ⟨c, z⟩ | ⟨c, rfl⟩
  ·cases z
  ·exact fun z => W.live x ((W.ok j _ ht).choose_spec.2.2.1 x z).1 ha
 rintro a' f' ds' ⟨rfl, rfl, rfl⟩ j c g cs hj hc z
 subst z
 obtain ⟨x, e1, h1, h2, h3, ys, hy, _⟩ := W.ok j _ hc
 rw [hy] at ha; cases ha
theorem Sv.asgK (h : EvK G ρ te fun f ks => ∀ a, E.nx (ρ.set i (.dic a f ks))) : Sv G ρ (tAsg te (gName i)) E := fun nb σ H D W K => h nb σ H _ W fun f a ps H1 ks q s1 ha e hd => K.nx _ _ _ H1 (q a) (dic_of W s1 ha e hd)
theorem EvK.new (h : Θ true []) : EvK G ρ tDNewK Θ := fun nb σ H Q W z p hp => z true p [] _ [] h (.same W.bag (same_new hp)) hp upd_same (by unfold IsKs; rfl)
@[reducible] def itD (p : Int × PyData) : PyData := .tuple [.int p.1, p.2]
def putsI (ks : Ks) (more : Ks) : Ks := more.foldl (fun acc p => putI acc p.1 p.2) ks
theorem isKs_merge {S : Addr -> Prop} {H : Hp} : ∀ {more : Ks} {ms : List (Key × V)} {ks : Ks} {ps : List (Key × V)}, IsKs S H (more.map kvD) ms -> IsKs S H (ks.map kvD) ps -> IsKs S H ((putsI ks more).map kvD) (mergeK ps ms)
  | [], ms, ks, ps, h, g => by unfold IsKs at h; subst h; exact g
  | p :: r, ms, ks, ps, h, g => by
    rw [zq4x] at h
    unfold IsKs at h
    obtain ⟨q, qs, rfl, h1, h2⟩ := h
    unfold IsK at h1
    obtain ⟨k, v⟩ := q
    have h3 : k = Sum.inl p.1 := h1.1
    subst h3
    show IsKs S H ((putsI (putI ks p.1 p.2) r).map kvD) (mergeK (putK ps (Sum.inl p.1) v) qs)
    exact isKs_merge (more := r) h2 (IsKs.put g h1.2)
theorem EvK.dictL (h : Ev G ρ te fun f x => ∃ es : Ks, x = .list (es.map itD) /\ es.length <= 10000 /\ Θ f (putsI [] es)) : EvK G ρ (tCB rDictL (tCons te tNil)) Θ := fun nb σ H Q W z =>
  h nb σ H _ W fun f v H1 x ⟨es, ex, hl, q⟩ s1 hv => by
    subst ex
    obtain ⟨a, xs, rfl, n, hx, hd⟩ := hv.ofL
    have key : ∀ {es : Ks} {xs : List V}, IsDs (G.S nb f) H1 (es.map itD) xs -> ∃ kvs : List (Key × V), xs.length = kvs.length /\ (∀ (j : Nat) (y : V) (p : Key × V), xs[j]? = some y -> kvs[j]? = some p -> ∃ a, y = .ref a /\ H1 a = some (.tup [kV p.1, p.2])) /\ IsKs (G.S nb f) H1 (es.map kvD) kvs := by
      intro es
      induction es with
      | nil => intro xs h; unfold IsDs at h; subst h; exact ⟨[], rfl, fun j y p z => by simp at z, by simp only [zq77x]; unfold IsKs; rfl⟩
      | cons e es ih =>
        intro xs h
        rw [zq4x] at h
        unfold IsDs at h
        obtain ⟨y, ys, rfl, h1, h2⟩ := h
        obtain ⟨kvs, g1, g2, g3⟩ := ih h2
        obtain ⟨b, ws, rfl, nb', hb, hws⟩ := h1.ofT
        unfold IsDs at hws
        obtain ⟨w1, wr, rfl, k1, hws⟩ := hws
        unfold IsDs at hws
        obtain ⟨w2, wr, rfl, k2, hws⟩ := hws
        unfold IsDs at hws
        subst hws
        rw [k1.ofI] at hb
        refine ⟨(Sum.inl e.1, w2) :: kvs, by simp [g1], fun j y p a b' => ?_, ?_⟩
        · cases j with
          | zero => simp at a b'; subst a b'; exact ⟨b, rfl, hb⟩
          | succ j => exact g2 j y p (by simpa using a) (by simpa using b')
        · rw [zq4x]
          unfold IsKs
          exact ⟨_, _, rfl, by unfold IsK; exact ⟨rfl, k2⟩, g3⟩
    obtain ⟨kvs, g1, g2, g3⟩ := key hd
    have hlx := hd.length
    rw [zq0x] at hlx
    refine ⟨a, xs, kvs, rfl, hx, g1, by omega, g2, fun p hp => ?_⟩
    have hnil : IsKs (G.S nb f) H1 (([] : Ks).map kvD) [] := by simp only [zq77x]; unfold IsKs; rfl
    exact z f p _ _ _ q (s1.trans (.same s1.2 (same_new hp))) (W.none_of s1 hp) upd_same (((isKs_merge g3 hnil).fresh hp).keep (But.of (same_new hp)))
theorem writeDic {nb : Addr -> Prop} {σ : St} {H : Hp} {a : Addr} {ps : List (Key × V)} {ks' : Ks} (W : Wd G nb ρ σ H) (e : ρ[i]? = some (.dic a f ks)) (hd : IsKs (G.S nb g) H (ks'.map kvD) ps) : Wd G nb (ρ.set i (.dic a g ks')) σ (upd H a (.dK ps)) := by
 obtain ⟨x, e1, h1, h2, h3, ys, hy, _⟩ := W.ok i _ e
 subst h1
 have hil : i < ρ.length := (zq2x.mp e).1
 have W0 : Wd G nb (ρ.set i .no) (σ.set i (some (.ref a))) H := W.set trivial fun _ _ _ z => by cases z
 have W1 : Wd G nb (ρ.set i .no) (σ.set i (some (.ref a))) (upd H a (.dK ps)) := W0.write h2 h3 (fun j c f' cs hc z => by
   subst z
   have hij : i ≠ j := fun z => by subst z; rw [zq18x hil] at hc; cases hc
   rw [zq10x hij] at hc
   obtain ⟨_, _, _, _, _, ps, hp, _⟩ := W.ok j _ hc
   rw [hy] at hp; cases hp) (fun j c f' cs hc => by
   by_cases hij : i = j
   ·subst hij; rw [zq18x hil] at hc; cases hc
   ·rw [zq10x hij] at hc
    exact (W.apd i j _ _ _ _ _ _ hij e hc).symm) (fun j c hc z => by
   have hij : i ≠ j := fun z => by subst z; rw [zq18x hil] at hc; cases hc
   rw [zq10x hij] at hc
   exact W.apc j i c _ (zq11x hij) hc e a z (zq12x.mpr rfl))
 have W2 := W1.set (i := i) (s := .dic a g ks') (x := some (.ref a)) ⟨rfl, h2, h3, ps, upd_same, hd.keep (But.set (.inl h2))⟩ (fun _ _ _ z => by cases z) (by
  rintro a' f' ds' ⟨rfl, rfl, rfl⟩ j c g' cs hj hc
  rw [zq10x (zq11x hj)] at hc
  exact W.apd i j _ _ _ _ _ _ (zq11x hj) e hc) (fun x hx j t hj ht hc z => by
  rw [zq10x (zq11x hj)] at ht
  have hx : x = a := zq12x.mp hx
  subst hx
  rcases hc with ⟨c, q⟩ | ⟨c, rfl⟩
  ·cases q
  ·exact W.apc j i c _ hj ht e x z (zq12x.mpr rfl))
 rw [zq72x, zq72x] at W2
 have : σ.set i (some (.ref a)) = σ := by
  apply zq86x
  intro j
  by_cases hij : i = j
  ·subst hij; rw [zq18x (by rw [W.len]; exact hil), e1]
  ·rw [zq10x hij]
 rwa [this] at W2
theorem Sv.putDic {a : Addr} (e : ρ[i]? = some (.dic a f ks)) (h : Ev G ρ te fun g d => Ev G ρ tb fun _ y => ∃ k, y = .int k /\ ks.length < 10000 /\ E.nx (ρ.set i (.dic a (f && g) (putI ks k d)))) : Sv G ρ (tAsg te (gSub (tVar i) tb rPutD)) E := fun nb σ H D W KK =>
 h nb σ H _ W fun g v H1 d q s1 hv => by
  obtain ⟨x, e1, h1, h2, h3, ps, hp, hd⟩ := (W.step s1).ok i _ e
  subst h1
  refine ⟨.ref a, e1, q nb σ H1 _ (W.step s1) fun g' u H2 y ⟨k, ey, hl, p⟩ s2 hu => ?_⟩
  subst ey
  have W2 := (W.step s1).step s2
  have hlen := hd.len
  refine ⟨a, ps, .inl k, rfl, hu.ofI, s2.1 _ _ h3 hp, zq28x (by rw [hlen]; exact hl) (by decide), KK.nx nb _ _ _ p (writeDic W2 e ?_)⟩
  exact IsKs.put ((hd.keep s2.butS).av (S_mono (fun z => (zq19x _ _ ▸ z).1) fun _ z => z)) ((hv.keep s2.butS).av (S_mono (fun z => (zq19x _ _ ▸ z).2) fun _ z => z))
namespace Ev
theorem ixDic {a : Addr} (e : ρ[i]? = some (.dic a f ks)) (h : Ev G ρ tb fun _ y => ∃ k, y = .int k /\ ∃ d, valI ks k = some d /\ Φ f d) : Ev G ρ (tOp rIxD (tVar i) tb) Φ := fun nb σ H Q W z => by
 obtain ⟨x, e1, h1, h2, h3, ps, hp, hd⟩ := W.ok i _ e
 subst h1
 refine ⟨.ref a, e1, h nb σ H _ W fun g w H1 y ⟨k, ey, d, hv, p⟩ s1 hw => ?_⟩
 subst ey
 have := IsKs.val k (hd.keep s1.butS)
 rw [hv] at this
 obtain ⟨v, hv', hD⟩ := this
 exact ⟨a, ps, .inl k, v, rfl, hw.ofI, .inl (s1.1 _ _ h3 hp), hv', z f _ H1 _ p s1 hD⟩
theorem getDic {a : Addr} (e : ρ[i]? = some (.dic a f ks)) (h : Ev G ρ ta fun _ y => ∃ k, y = .int k /\ Ev G ρ tb fun g x => Φ (f && g) ((valI ks k).getD x)) : Ev G ρ (tBM K "dict" rGetD2 (tVar i) (tCons ta (tCons tb tNil))) Φ := fun nb σ H Q W z => by
  obtain ⟨x, e1, h1, h2, h3, ps, hp, hd⟩ := W.ok i _ e
  subst h1
  refine ⟨.ref a, e1, .inr (.inr (.inl ⟨rfl, .inl ⟨_, hp⟩⟩)), ?_⟩
  refine h nb σ H _ W fun g w H1 y ⟨k, ey, q⟩ s1 hw => q nb σ H1 _ (W.step s1) fun g' u H2 x p s2 hu => ?_
  subst ey
  have hd2 := (hd.keep s1.butS).keep s2.butS
  have hv := IsKs.val k hd2
  refine ⟨a, ps, .inl k, u, rfl, by rw [hw.ofI]; rfl, .inl (s2.1 _ _ h3 (s1.1 _ _ h3 hp)), ?_⟩
  cases hk : valI ks k with
  | none =>
    rw [hk] at hv p
    rw [hv]
    exact z _ _ H2 _ p (s1.trans s2) (hu.av (S_mono (fun z => (zq19x _ _ ▸ z).2) fun _ z => z))
  | some d =>
    rw [hk] at hv p
    obtain ⟨v, e', hD⟩ := hv
    rw [e']
    exact z _ _ H2 _ p (s1.trans s2) (hD.av (S_mono (fun z => (zq19x _ _ ▸ z).1) fun _ z => z))
end Ev
end
def rInD (ng : Bool) : R2 := fun x y H Q => ∃ a o, y = .ref a /\ DGet H a x o /\ Q (.bl (o.isSome != ng)) H
theorem op_inD {X : Cx} (hu : X.A.units + 64 < cLine) : OpR X (compareOp .In) (rInD false) := by
 intro pins s σ H x y v u Q I rx ry h
 obtain ⟨a, o, rfl, g, q⟩ := h
 cases ry
 exact d_in (by omega) I g rx fun s' I' => ⟨.bl o.isSome, H, I', rfl, by simpa using q⟩
section
variable {G : Gx} {ρ : Rh} {Φ : Pd} {ta tb te : TE} {i : Nat} {f : Bool} {ks : Ks} {K : PySem.W.Frag} {E : DE}
theorem Ev.inDic {a : Addr} {ng : Bool} (e : ρ[i]? = some (.dic a f ks)) (h : Ev G ρ ta fun _ y => ∃ k, y = .int k /\ Φ true (.bool (hasI ks k != ng))) : Ev G ρ (tOp (rInD ng) ta (tVar i)) Φ := fun nb σ H Q W z =>
 h nb σ H _ W fun g w H1 y ⟨k, ey, p⟩ s1 hw => by
  obtain ⟨x, e1, h1, h2, h3, ps, hp, hd⟩ := (W.step s1).ok i _ e
  subst h1 ey
  refine ⟨.ref a, e1, a, _, rfl, by rw [hw.ofI]; exact DGet.k (k := .inl k) hp, ?_⟩
  have : (valV ps (Sum.inl k)).isSome = hasI ks k := by rw [<- valV_any]; exact IsKs.any k hd
  rw [this]
  exact z true _ H1 _ p s1 (.bl _)
theorem shareDic {nb : Addr -> Prop} {σ : St} {H : Hp} {a : Addr} (W : Wd G nb ρ σ H) (e : ρ[i]? = some (.dic a f ks)) : Wd G (fun x => nb x /\ x ≠ a) (ρ.set i (.d f (.dict (ks.map kvD)))) σ H := by
  obtain ⟨x, e1, h1, h2, h3, xs, hx, hd⟩ := W.ok i _ e
  subst h1
  have hil : i < ρ.length := (zq2x.mp e).1
  have W0 : Wd G nb (ρ.set i .no) (σ.set i (some (.ref a))) H := W.set trivial fun _ _ _ z => by cases z
  have W1 : Wd G (fun x => nb x /\ x ≠ a) (ρ.set i .no) (σ.set i (some (.ref a))) H := by
    refine ⟨W0.bag, fun x n => W0.live x n.1, W0.old, fun x n => W0.nbo x n.1, W0.gA, W0.len, W0.gB, fun h m => (W0.hld h m).av (S_mono (fun z => z) fun _ z => z.1), fun j s e' => ?_, W0.apart, W0.apd, W0.apc⟩
    obtain ⟨x, e1', h⟩ := W0.ok j s e'
    refine ⟨x, e1', ?_⟩
    have hij : s ≠ .no -> i ≠ j := fun n z => by subst z; rw [zq18x hil] at e'; cases e'; exact n rfl
    cases s with
    | no => trivial
    | d f d => obtain ⟨v, e, h⟩ := h; exact ⟨v, e, h.av (S_mono (fun z => z) fun _ z => z.1)⟩
    | own c f es =>
      obtain ⟨e2, n, q, ys, hy, hd'⟩ := h
      have hca : c ≠ a := fun z => by subst z; rw [hx] at hy; cases hy
      exact ⟨e2, ⟨n, hca⟩, q, ys, hy, hd'.av (S_mono (fun z => z) fun _ z => z.1)⟩
    | bag => exact h
    | raw v => exact h
    | dic c f es =>
      obtain ⟨e2, n, q, ps, hp, hd'⟩ := h
      have hij := hij (by intro z; cases z)
      rw [zq10x hij] at e'
      exact ⟨e2, ⟨n, (W.apd i j _ _ _ _ _ _ hij e e').symm⟩, q, ps, hp, hd'.av (S_mono (fun z => z) fun _ z => z.1)⟩
    | cu c =>
      obtain ⟨e2, n, q⟩ := h
      have hij := hij (by intro z; cases z)
      rw [zq10x hij] at e'
      exact ⟨e2, fun x hx => ⟨⟨(n x hx).1, fun z => W.apc j i c _ (zq11x hij) e' e x hx (by rw [z]; exact zq12x.mpr rfl)⟩, (n x hx).2⟩, c.av (S_mono (fun z => z) fun _ z => z.1) q⟩
  have W2 := W1.setD (i := i) (f := f) (d := .dict (ks.map kvD)) (v := .ref a) (by
    unfold IsD
    refine ⟨a, xs, rfl, fun z => ?_, .inl hx, hd.av (S_mono (fun z => z) fun _ z => z.1)⟩
    rcases z with z | z | z | z
    · exact z.2 rfl
    · exact W.gA a z (W.nbo a h2 h3)
    · exact z h3
    · exact z.2 (W.nbo a h2 h3))
  rw [zq72x, zq72x] at W2
  have : σ.set i (some (.ref a)) = σ := by
    apply zq86x
    intro j
    by_cases hij : i = j
    · subst hij; rw [zq18x (by rw [W.len]; exact hil), e1]
    · rw [zq10x hij]
  rwa [this] at W2
theorem Sv.demoteDic {s : TS} {a : Addr} (i : Nat) (e : ρ[i]? = some (.dic a f ks)) (h : Sv G (ρ.set i (.d f (.dict (ks.map kvD)))) s E) : Sv G ρ s E := fun nb σ H D W K => h _ σ H D (shareDic W e) K
theorem Ev.inDd {ng : Bool} (h : Ev G ρ ta fun _ y => ∃ k, y = .int k /\ Ev G ρ tb fun _ x => ∃ ks : Ks, x = .dict (ks.map kvD) /\ Φ true (.bool (hasI ks k != ng))) : Ev G ρ (tOp (rInD ng) ta tb) Φ :=
 Ev.op2 (h.mono fun f x ⟨k, ex, q⟩ => q.mono fun g y ⟨ks, ey, p⟩ nb σ H u v Q W hu hv z => by
  subst ex ey
  unfold IsD at hv
  obtain ⟨a, ps, rfl, n, hp, hd⟩ := hv
  refine ⟨a, _, rfl, by rw [hu.ofI]; exact .inl ⟨ps, .inl k, hp, rfl, rfl⟩, ?_⟩
  have : (valV ps (Sum.inl k)).isSome = hasI ks k := by rw [<- valV_any]; exact IsKs.any k hd
  rw [this]
  exact z true _ H _ p (.refl W.bag) (.bl _))
theorem Ev.ixDd (h : Ev G ρ ta fun f x => ∃ ks : Ks, x = .dict (ks.map kvD) /\ Ev G ρ tb fun _ y => ∃ k, y = .int k /\ ∃ d, valI ks k = some d /\ Φ f d) : Ev G ρ (tOp rIxD ta tb) Φ :=
 Ev.op2 (h.mono fun f x ⟨ks, ex, q⟩ => q.mono fun g y ⟨k, ey, d, hv', p⟩ nb σ H u v Q W hu hv z => by
  subst ex ey
  unfold IsD at hu
  obtain ⟨a, ps, rfl, n, hp, hd⟩ := hu
  have := IsKs.val k hd
  rw [hv'] at this
  obtain ⟨w, hw, hD⟩ := this
  exact ⟨a, ps, .inl k, w, rfl, hv.ofI, hp, hw, z f _ H _ p (.refl W.bag) hD⟩)
end
end L2
set_option maxRecDepth 100000
set_option maxHeartbeats 4000000
namespace L2
open PySem PySem.Spec PyProof.Rows
section
variable {prog : Program} {w : World} {A : Around} {E : Value -> Shared -> Prop} {s : Shared}
theorem sorted_intsS {l : Addr} {vs : List Value} {ns : List Int} {Q : Value -> Shared -> Prop} (hl : s.heap.IsList l vs.toArray) (hI : IntsAre vs ns) (hz : vs.length < 64)
  (h : ∀ (out : Array Value) (ns' : List Int), IntsAre out.toList ns' -> ns'.Perm ns -> ns'.Pairwise (· <= ·) -> Q (.ref (s.heap.objs.size + 1)) { s with heap := sortedAll s.heap vs out }) :
  wpAny (model prog w) A (call (.builtin "sorted") [.ref l]) Q E s := by
 have hZ : vs.length <= sizeLine := by rw [sizeLine_eq]; omega
 refine zq148x kind_sorted plain_sorted entry_sorted (args_sorted1 _) ?_
 unfold Builtin.«sorted»
 refine wpAny_bind (m := checkCount "sorted" 1 1 _) (wpAny_pure ?_)
 refine wpAny_bind (collect_list hl ?_ (hsz := hZ))
 refine wpAny_bind (wpAny_newList ?_)
 have hsz : ((s.heap.push (seqObj "list" #[] 0)).update s.heap.objs.size (Obj.mapSeq (· ++ vs.toArray))).objs.size = s.heap.objs.size + 1 := by
  rw [zq124x, size_push']
 have hoL : (((s.heap.push (seqObj "list" #[] 0)).update s.heap.objs.size (Obj.mapSeq (· ++ vs.toArray))).push (seqObj "list" vs.toArray 0)).get? (s.heap.objs.size + 1) = some (seqObj "list" vs.toArray 0) := by
  rw [<- hsz]; exact zq44x _ rfl
 show wpAny _ _ _ _ _ { s with heap := ((s.heap.push (seqObj "list" #[] 0)).update s.heap.objs.size (Obj.mapSeq (· ++ vs.toArray))).push (seqObj "list" vs.toArray 0) }
 rw [hsz]
 refine wpAny_bind (wpAny_holding (wpAny_call_entry slot_list_sort ⟨_, hoL, rfl⟩ entry_list_sort (list_sort_tree hoL hI hz fun out ns' a1 a2 a3 => ⟨_, rfl, ?_⟩) (args_list_sort _)))
 exact wpAny_pure ⟨_, rfl, h out ns' a1 a2 a3⟩
end
def rSortLS (K : PySem.W.Frag) : List V -> Hp -> VK -> Prop := fun xs H Q => ∃ p, ∃ ns : List Int, xs = [.ref p] /\ SqL K H p (ns.map V.int) /\ ns.length < 64 /\ ∀ rs : List Int, rs.Perm ns -> rs.Pairwise (· <= ·) -> ∀ l, H l = none -> Q (.ref l) (upd H l (.lst (rs.map V.int)))
theorem call_sortLS {X : Cx} : CallR X (.builtin "sorted") (rSortLS X.K) := by
 intro pins s σ H xs us Q I rv h
 obtain ⟨p, ns, rfl, hp, hn, q⟩ := h
 obtain ⟨u, rfl, ru⟩ := vals1 rv
 cases ru
 obtain ⟨its, rs, il, hz⟩ := I.list hp
 have hI := vals_intsA rs
 have hlen := hI.length
 refine sorted_intsS (vs := its) il.isList hI (by omega) fun out ns' h1 h2 h3 => ?_
 obtain ⟨e, ge⟩ := sortedAll_at s.heap its out
 have new : ObjOk X.prog X.w (upd H (s.heap.objs.size + 1) (.lst (ns'.map V.int))) (sortedAll s.heap its out) (s.heap.objs.size + 1) (.lst (ns'.map V.int)) := by
  refine ⟨?_, out.toList, e, ints_vals h1, by simpa using ge⟩
  rw [zq0x, h2.length_eq]; exact zq16x (zq67x hn) (by decide)
 exact ⟨.ref (s.heap.objs.size + 1), _, I.laid (t' := s.toks) (fun b o z => sortedAll_old z) (zq65x _) new, rfl, q _ h2 h3 _ (I.hok.fresh (zq65x _))⟩
theorem EvN.sortLS {G : Gx} {ρ : Rh} {te : TE} {K : PySem.W.Frag} {Θ : Bool -> List PyData -> Prop} (h : Ev G ρ te fun _ x => ∃ ns : List Int, x = .list (ns.map .int) /\ ns.length < 64 /\ ∀ rs : List Int, rs.Perm ns -> rs.Pairwise (· <= ·) -> Θ true (rs.map .int)) :
  EvN G ρ (tCB (rSortLS K) (tCons te tNil)) Θ := fun nb σ H Q W z =>
 h nb σ H _ W fun f v H1 x ⟨ns, ex, hn, q⟩ s1 hv => by
  subst ex
  obtain ⟨a, xs, rfl, na, hx, hd⟩ := hv.ofL
  have e := isDs_ints_eq hd
  subst e
  refine ⟨a, ns, rfl, .of hx, hn, fun rs hp hw l hl => ?_⟩
  exact EvN.fin (f := true) W s1 hl (isDs_intsL rs) (q rs hp hw) z
theorem EvN.sortedDic {G : Gx} {ρ : Rh} {i : Nat} {a : Addr} {f : Bool} {ks : Ks} {Θ : Bool -> List PyData -> Prop} (e : ρ[i]? = some (.dic a f ks)) (hl : ks.length < 64) (h : ∀ rs : List Int, rs.Pairwise (· <= ·) -> rs.Perm (ks.map (·.1)) -> Θ true (rs.map .int)) :
  EvN G ρ (tCB rSortedD (tCons (tVar i) tNil)) Θ := fun nb σ H Q W z => by
 obtain ⟨x, e1, h1, h2, h3, ps, hp, hd⟩ := W.ok i _ e
 subst h1
 refine ⟨.ref a, e1, a, ps, ks.map (·.1), rfl, .inl hp, IsKs.keys hd, by rw [zq0x]; exact hl, fun l rs hl' hw hpm => ?_⟩
 exact EvN.fin (f := true) W (.refl W.bag) hl' (isDs_intsL rs) (h rs hw hpm) z
def rLenD : List V -> Hp -> VK -> Prop := fun xs H Q => ∃ a kvs, xs = [V.ref a] /\ H a = some (.dK kvs) /\ Q (.int kvs.length) H
theorem call_lenDD {X : Cx} : CallR X (.builtin "len") rLenD := call_lenD
theorem Ev.lenDic {G : Gx} {ρ : Rh} {Φ : Pd} {i : Nat} {a : Addr} {f : Bool} {ks : Ks} (e : ρ[i]? = some (.dic a f ks)) (h : Φ true (.int ks.length)) : Ev G ρ (tCB rLenD (tCons (tVar i) tNil)) Φ := fun nb σ H Q W z => by
 obtain ⟨x, e1, h1, h2, h3, ps, hp, hd⟩ := W.ok i _ e
 subst h1
 refine ⟨.ref a, e1, a, ps, rfl, hp, ?_⟩
 rw [hd.len]
 exact z true _ H _ h (.refl W.bag) (.int _)
end L2
set_option maxRecDepth 100000
set_option maxHeartbeats 4000000
namespace L2
open PySem PySem.Spec PyProof.Rows
structure NetK (n : Int) (cs : List Prs) : Prop where
 n0 : 1 <= n
 n1 : n <= 10
 c0 : cs ≠ []
 c1 : cs.length <= 8
 ok : ∀ prs ∈ cs, prs ≠ [] /\ prs.length <= 4 /\ (prs.map (·.1)).Pairwise (· < ·) /\ ∀ pr ∈ prs, 0 <= pr.1 /\ pr.1 < n
section
variable {n : Int} {cs : List Prs} (h : NetK n cs)
include h
end
end L2
set_option maxRecDepth 100000
set_option maxHeartbeats 4000000
set_option maxRecDepth 100000
set_option maxHeartbeats 4000000
namespace L2
open PySem PySem.Spec PyProof.Rows
theorem IsDs.era {nb : Addr -> Prop} {H : Hp} : ∀ {ds : List PyData} {xs : List V} (m : Nat), IsDs nb H ds xs -> IsDs nb H (ds.eraseIdx m) (xs.eraseIdx m)
 | [], _, m, h => by unfold IsDs at h; subst h; exact .nil
 | e :: ds, _, 0, h => by unfold IsDs at h; obtain ⟨y, ys, rfl, h1, h2⟩ := h; exact h2
 | e :: ds, _, m + 1, h => by unfold IsDs at h; obtain ⟨y, ys, rfl, h1, h2⟩ := h; exact .cons h1 (IsDs.era m h2)
section
variable {G : Gx} {ρ : Rh} {te : TE} {E : DE} {i j : Nat} {f : Bool} {ds : List PyData} {K : PySem.W.Frag}
theorem Sv.extend {a : Addr} (e : ρ[i]? = some (.own a f ds)) (h : Ev G ρ te fun g y => ∃ es, y = .list es /\ ds.length + es.length <= 10000 /\ E.nx (ρ.set i (.own a (f && g) (ds ++ es)))) :
  Sv G ρ (tDrop (tBM K "list" rExtend (tVar i) (tCons te tNil))) E := fun nb σ H D W KK => by
 obtain ⟨x, e1, h1, h2, h3, xs, hx, hd⟩ := W.ok i _ e
 subst h1
 refine ⟨.ref a, e1, .inl ⟨rfl, _, SqL.of hx⟩, h nb σ H _ W fun g v H1 y ⟨es, ey, hl, q⟩ s1 hv => ?_⟩
 subst ey
 obtain ⟨c, ys, rfl, n, hy, he⟩ := hv.ofL
 have W1 := W.step s1
 have hx1 := s1.1 _ _ h3 hx
 have hd1 := hd.keep s1.butS
 refine ⟨a, c, xs, ys, rfl, rfl, hx1, hy, zq16x (by rw [hd.length, he.length]; exact hl) (by decide), KK.nx nb _ _ _ q (writeOwn W1 e ?_)⟩
 exact IsDs.append (hd1.av (S_mono (fun z => (zq19x _ _ ▸ z).1) fun _ z => z)) (he.av (S_mono (fun z => (zq19x _ _ ▸ z).2) fun _ z => z))
end
end L2
set_option maxRecDepth 100000
set_option maxHeartbeats 4000000
namespace L2
open PySem PySem.Spec PyProof.Rows
def ViewX (p d : Addr) : HO := .ext fun h => h.IsValuesView p d
def rValues : V -> List V -> Hp -> VK -> Prop := fun x vs H Q => ∃ a kvs, x = .ref a /\ vs = [] /\ H a = some (.dK kvs) /\ ∀ p, H p = none -> Q (.ref p) (upd H p (ViewX p a))
def rListV : List V -> Hp -> VK -> Prop := fun xs H Q => ∃ p a kvs, xs = [.ref p] /\ H p = some (ViewX p a) /\ H a = some (.dK kvs) /\ ∀ l, H l = none -> Q (.ref l) (upd H l (.lst (kvs.map (·.2))))
theorem KV.vals : ∀ {kvs : List (Key × V)} {vs : List (Key × Value)}, KV kvs vs -> Vals (kvs.map (·.2)) (vs.map (·.2))
 | [], [], _ => .nil
 | a :: r, b :: t, .cons h1 h2 => .cons h1.2 (KV.vals h2)
section
variable {X : Cx}
theorem mt_values : MtR X "dict.values" rValues := by
 intro pins s σ H x vs v us Q I rx rv h
 obtain ⟨a, kvs, rfl, rfl, hH, q⟩ := h
 cases rx
 have hus := rv.zero
 subst hus
 obtain ⟨z, hd, ps, rel, dd⟩ := dk_of I.hok hH
 refine call_meetsIn zq186x dd.typeIs PySem.F.entry_dict_values (PySem.F.args_dict_values_1 _) (meets_dict_values (mixKind X.prog X.w) a hd) ⟨⟨ps, dd⟩, ?_⟩
 have new : ObjOk X.prog X.w (upd H s.heap.objs.size (ViewX s.heap.objs.size a)) (s.heap.push { cls := .type "dict_values", data := .fields #[.ref a] }) s.heap.objs.size (ViewX s.heap.objs.size a) := by
  refine ⟨⟨_, zq44x _ rfl, rfl, rfl⟩, ⟨_, zq44x _ rfl⟩, fun h1 h2 z k => ?_⟩
  obtain ⟨o, ho, r⟩ := z
  exact ⟨o, k o ho, r⟩
 exact ⟨.ref s.heap.objs.size, _, I.laid (t' := s.toks) (fun b o e => zq26x _ e) (zq3x _) new, rfl, q _ (I.hok.fresh (zq3x _))⟩
theorem call_listV (hc : X.calm = true) : CallR X (.type "list") rListV := by
 intro pins s σ H xs us Q I rv h
 obtain ⟨p, a, kvs, rfl, hp, hH, q⟩ := h
 obtain ⟨u, rfl, ru⟩ := vals1 rv
 cases ru
 obtain ⟨z, hd, ps, rel, dd⟩ := dk_of I.hok hH
 obtain ⟨hv, _, _⟩ := I.hok p _ hp
 obtain ⟨ep, hat⟩ := dd.dictAt
 have hz : ps.length <= sizeLine := by rw [<- rel.length]; exact z
 refine PySem.W.kdl_call (PySem.W.kdl_values (knd := mixKind X.prog X.w) (kvs := ps) (ep := ep)) (I.ok.hd hc) ⟨hv, hat⟩ hz fun h' tk acc' c' hk hS hacc => ?_
 have e : acc'.toList = ps.map (·.2) := PySem.W.kdl_vals_eq acc'.toList (by rw [zq84x]; exact hacc.1) fun j v e => hacc.2 j v (by rw [<- zq96x]; exact e)
 have new : ObjOk X.prog X.w (upd H s.heap.objs.size (.lst (kvs.map (·.2)))) h' s.heap.objs.size (.lst (kvs.map (·.2))) := by
  refine ⟨by rw [zq0x]; exact z, ps.map (·.2), c', KV.vals rel, ?_⟩
  rw [<- e, Array.toArray_toList]; exact hS
 exact ⟨.ref s.heap.objs.size, _, I.laid (t' := tk) hk (zq3x _) new, rfl, q _ (I.hok.fresh (zq3x _))⟩
end
theorem IsKs.vals {S : Addr -> Prop} {H : Hp} : ∀ {ks : Ks} {ps : List (Key × V)}, IsKs S H (ks.map kvD) ps -> IsDs S H (ks.map (·.2)) (ps.map (·.2))
  | [], ps, h => by unfold IsKs at h; subst h; exact .nil
  | p :: r, ps, h => by
    rw [zq4x] at h
    unfold IsKs at h
    obtain ⟨q, qs, rfl, h1, h2⟩ := h
    unfold IsK at h1
    exact .cons h1.2 (IsKs.vals h2)
section
variable {G : Gx} {ρ : Rh} {ta tb te : TE} {t : TA} {E : DE} {i j : Nat} {f : Bool} {K : PySem.W.Frag} {Φ : Pd} {Θ : Bool -> List PyData -> Prop}
theorem EvN.listVals {a : Addr} {ks : Ks} (e : ρ[i]? = some (.dic a f ks)) (h : Θ (f || scAll (ks.map (·.2))) (ks.map (·.2))) : EvN G ρ (tCB rListV (tCons (tBM K "dict" rValues (tVar i) tNil) tNil)) Θ := fun nb σ H Q W z => by
 obtain ⟨x, e1, h1, h2, h3, ps, hp, hd⟩ := W.ok i _ e
 subst h1
 refine ⟨.ref a, e1, .inr (.inr (.inl ⟨rfl, .inl ⟨_, hp⟩⟩)), a, ps, rfl, rfl, hp, fun p hpn => ?_⟩
 have hne : a ≠ p := fun z => by rw [z, hpn] at hp; cases hp
 refine ⟨p, a, ps, rfl, upd_same, by rw [upd_ne hne]; exact hp, fun l hl => ?_⟩
 have s1 : Step G.B H (upd H p (ViewX p a)) := .same W.bag (same_new hpn)
 exact EvN.fin (f := f) W s1 hl ((IsKs.vals hd).keep s1.butS) h z
end
def EvF (G : Gx) (ρ : Rh) (te : TE) (Φ : PyData -> Prop) : Prop := ∀ nb σ H (Q : VK), Wd G nb ρ σ H -> (∀ v H' d, Φ d -> Step G.B H H' -> IsD (fun a => H a ≠ none) H' d v -> Q v H') -> te σ H Q
section
variable {G : Gx} {ρ : Rh} {ta tb te : TE} {t : TA} {E : DE} {i j k m : Nat} {f : Bool} {K : PySem.W.Frag} {Φ : PyData -> Prop}
theorem Wd.live_of {nb : Addr -> Prop} {σ : St} {H H1 : Hp} {a : Addr} (W : Wd G nb ρ σ H) (s : Step G.B H H1) (h : H a ≠ none) : H1 a ≠ none := fun e => h (W.none_of s e)
theorem EvF.callB {n : Nat} {F : DF} (hm : MonoF F) (e : ρ[i]? = some .bag) (h : Av G ρ t fun es => es.length + 1 = n /\ F (es.map (·.2)) fun f d => f = true /\ Φ d) : EvF G ρ (tCall (spB n F) [] E0 (tCons (tVar i) t)) Φ := fun nb σ H Q W z => by
 obtain ⟨b, l, hB, e1, B⟩ := W.theBag e
 refine ⟨.ref b, e1, h nb σ H _ W fun es vs H1 ⟨hl, p⟩ s1 q1 => ?_⟩
 have W1 := W.step s1
 show spB n F ((V.ref b :: vs) ++ []) H1 Q E0
 rw [zq39x]
 have hb : ∀ f, G.S nb f b := fun f => .inr (.inr (.inl fun n => n b l hB rfl))
 refine ⟨by rw [zq36x, q1.len, hl], b, l, vs, G.S nb (allF es), es.map (·.2), rfl, W1.bag b l hB, W1.liveS, hb _, q1.all fun z => z, hm _ _ _ p fun f d ⟨hf, hp⟩ v H' bt B' hd => z v H' d hp (s1.trans (.ofBut hB bt B')) (hd.av fun a q => ?_)⟩
 exact .inr ⟨hf, W.live_of s1 q⟩
theorem EvF.callD {n : Nat} {F : DF} (hm : MonoF F) (h : Av G ρ t fun es => es.length = n /\ F (es.map (·.2)) fun f d => f = true /\ Φ d) : EvF G ρ (tCall (spD n F) [] E0 t) Φ := fun nb σ H Q W z =>
 h nb σ H _ W fun es vs H1 ⟨hl, p⟩ s1 q1 => by
  have W1 := W.step s1
  rw [zq39x]
  refine ⟨by rw [q1.len, hl], G.S nb (allF es), es.map (·.2), W1.liveS, q1.all fun z => z, hm _ _ _ p fun f d ⟨hf, hp⟩ v H' sm hd => z v H' d hp (s1.trans (.same W1.bag sm)) (hd.av fun a q => ?_)⟩
  exact .inr ⟨hf, W.live_of s1 q⟩
end
end L2
set_option maxRecDepth 100000
set_option maxHeartbeats 1000000
namespace L2
open PySem PySem.Spec PyProof.Rows
theorem cells_inj : ∀ {names : List (Str × NameKind)} {n : Nat} {acc : List (Str × Addr)}, (∀ x y c, acc.lookup x = some c -> acc.lookup y = some c -> x = y) -> (∀ x c, acc.lookup x = some c -> c < n) -> ∀ {x y : Str} {c : Addr}, (cellsFrom n names acc).lookup x = some c -> (cellsFrom n names acc).lookup y = some c -> x = y
  | [], n, acc, h1, h2, x, y, c, e1, e2 => h1 x y c e1 e2
  | (m, k) :: r, n, acc, h1, h2, x, y, c, e1, e2 => by
    unfold cellsFrom at e1 e2
    by_cases hk : (k == .cell) = true
    · rw [if_pos hk] at e1 e2
      have look : ∀ {z : Str} {d : Addr}, ((m, n) :: acc).lookup z = some d -> (z = m /\ d = n) \/ acc.lookup z = some d := fun {z d} e => by
        by_cases hz : (z == m) = true
        · rw [zq17x, hz] at e
          cases e
          exact .inl ⟨by simpa using hz, rfl⟩
        · have hz : (z == m) = false := by simpa using hz
          rw [zq17x, hz] at e
          exact .inr e
      refine cells_inj (names := r) (n := n + 1) (acc := (m, n) :: acc) (fun x y c g1 g2 => ?_) (fun x c g => ?_) e1 e2
      · rcases look g1 with ⟨a1, a2⟩ | a
        · rcases look g2 with ⟨b1, b2⟩ | b
          · rw [a1, b1]
          · rw [a2] at b; exact absurd (h2 _ _ b) (zq53x _)
        · rcases look g2 with ⟨b1, b2⟩ | b
          · rw [b2] at a; exact absurd (h2 _ _ a) (zq53x _)
          · exact h1 _ _ _ a b
      · rcases look g with ⟨a1, a2⟩ | a
        · rw [a2]; exact Nat.lt_succ_self n
        · exact zq81x (h2 _ _ a)
    · rw [if_neg hk] at e1 e2
      exact cells_inj (names := r) h1 h2 e1 e2
theorem cells_keep {x : Str} : ∀ {names : List (Str × NameKind)} {n : Nat} {acc : List (Str × Addr)}, (∀ k, (x, k) ∈ names -> k ≠ .cell) -> (cellsFrom n names acc).lookup x = acc.lookup x
  | [], n, acc, h => rfl
  | (m, k) :: r, n, acc, h => by
    unfold cellsFrom
    by_cases hk : (k == .cell) = true
    · rw [if_pos hk, cells_keep (names := r) fun k hk => h k (zq33x _ hk)]
      have hne : (x == m) = false := by
        rw [beq_eq_false_iff_ne]
        intro z
        subst z
        exact h k (zq27x ..) (by simpa using hk)
      rw [zq17x, hne]
    · rw [if_neg hk]
      exact cells_keep (names := r) fun k hk => h k (zq33x _ hk)
theorem cells_up {x : Str} {lo : Nat} : ∀ {names : List (Str × NameKind)} {n : Nat} {acc : List (Str × Addr)} {c : Addr}, lo <= n -> ((∃ d, acc.lookup x = some d /\ lo <= d) \/ (x, NameKind.cell) ∈ names) -> (cellsFrom n names acc).lookup x = some c -> lo <= c
  | [], n, acc, c, hl, h, e => by
    rcases h with ⟨d, e', z⟩ | h
    · have e : acc.lookup x = some c := e
      rw [e'] at e; cases e; exact z
    · cases h
  | (m, k) :: r, n, acc, c, hl, h, e => by
    unfold cellsFrom at e
    by_cases hk : (k == .cell) = true
    · rw [if_pos hk] at e
      refine cells_up (names := r) (Nat.le_succ_of_le hl) ?_ e
      by_cases hx : (x == m) = true
      · exact .inl ⟨n, by rw [zq17x, hx], hl⟩
      · have hx' : (x == m) = false := by simpa using hx
        rcases h with ⟨d, e', z⟩ | h
        · exact .inl ⟨d, by rw [zq17x, hx']; exact e', z⟩
        · rcases zq43x.mp h with z | z
          · cases z; simp at hx
          · exact .inr z
    · rw [if_neg hk] at e
      refine cells_up (names := r) hl ?_ e
      rcases h with h | h
      · exact .inl h
      · rcases zq43x.mp h with z | z
        · cases z; exact absurd (by rfl) hk
        · exact .inr z
theorem cells_new {x : Str} {c : Addr} : ∀ {names : List (Str × NameKind)} {n : Nat} {acc : List (Str × Addr)} {h : Heap}, h.objs.size = n -> (cellsFrom n names acc).lookup x = some c -> (n <= c /\ (pushCells h names).IsCell c none) \/ acc.lookup x = some c
  | [], n, acc, h, hn, e => .inr e
  | (m, k) :: r, n, acc, h, hn, e => by
    unfold cellsFrom at e
    unfold pushCells
    by_cases hk : (k == .cell) = true
    · rw [if_pos hk] at e ⊢
      rcases cells_new (names := r) (h := h.push { cls := .type "cell", data := .cell none }) (by rw [zq102x, hn]) e with ⟨z1, z2⟩ | z
      · exact .inl ⟨zq149x z1, z2⟩
      · by_cases hx : (x == m) = true
        · rw [zq17x, hx] at z
          cases z
          refine .inl ⟨zq3x _, ?_⟩
          subst hn
          exact ⟨_, pushCells_keeps _ _ _ _ (zq44x _ rfl), rfl⟩
        · have hx' : (x == m) = false := by simpa using hx
          rw [zq17x, hx'] at z
          exact .inr z
    · rw [if_neg hk] at e ⊢
      exact cells_new (names := r) hn e
theorem relabel_lookC {env : Env} : ∀ {l : List (Str × NameKind)} {x : Str} {k : NameKind},
    (l.map fun (n, k) => if (k == NameKind.free && env.scope.kind == .function && env.kindOf n == some .cell) then (n, NameKind.cell) else (n, k)).lookup x = some k -> k = .cell \/ k = .free -> l.lookup x = some .free \/ l.lookup x = some .cell
  | [], _, _, h, _ => by simp at h
  | (n, q) :: r, x, k, h, hk => by
    have ih := relabel_lookC (env := env) (l := r) (x := x) (k := k)
    rw [zq4x] at h
    dsimp only at h
    by_cases hx : (x == n) = true
    · simp only [zq17x, hx]
      by_cases hq : (q == NameKind.free && env.scope.kind == .function && env.kindOf n == some .cell) = true
      · have : q = .free := by
          simp only [zq19x] at hq
          simpa using hq.1.1
        rw [this]; exact .inl rfl
      · rw [if_neg hq] at h
        simp only [zq17x, hx] at h
        have hqk : q = k := zq31x h
        rcases hk with e | e
        · rw [hqk, e]; exact .inr rfl
        · rw [hqk, e]; exact .inl rfl
    · have hx' : (x == n) = false := by simpa using hx
      simp only [zq17x, hx']
      refine ih ?_ hk
      by_cases hq : (q == NameKind.free && env.scope.kind == .function && env.kindOf n == some .cell) = true
      · rw [if_pos hq] at h
        simp only [zq17x, hx'] at h
        exact h
      · rw [if_neg hq] at h
        simp only [zq17x, hx'] at h
        exact h
def compOkBC (sx : Scope) (NX : List Str) (scope : Scope) (N : List Str) (mp : List (Option Nat)) : Bool :=
 (scope.kind == .function) && scope.names.all (fun y => y.2 != .cell || scope.names.lookup y.1 != some .free) && scope.names.all (fun y => y.2 != .local || scope.names.lookup y.1 == some .local) &&
 scope.names.all (fun y => y.2 != .free || sx.names.lookup y.1 == some .cell || sx.names.lookup y.1 == some .free) && (mp.length == N.length) &&
 ((N.zip mp).all fun p => match p.2 with | none => true | some j => NX[j]? == some p.1 && scope.names.lookup p.1 == some .free)
structure CompOkC (sx : Scope) (NX : List Str) (scope : Scope) (N : List Str) (mp : List (Option Nat)) : Prop where
 kind : scope.kind = .function
 own : ∀ x, scope.names.lookup x = some .free -> ∀ k, (x, k) ∈ scope.names -> k ≠ .cell
 names : ∀ y ∈ scope.names, y.2 = .local -> scope.names.lookup y.1 = some .local
 free : ∀ y ∈ scope.names, y.2 = .free -> sx.names.lookup y.1 = some .cell \/ sx.names.lookup y.1 = some .free
 len : mp.length = N.length
 look : ∀ (i j : Nat) (x : Str), mp[i]? = some (some j) -> N[i]? = some x -> NX[j]? = some x /\ scope.names.lookup x = some .free
theorem CompOkC.of {sx : Scope} {NX : List Str} {scope : Scope} {N : List Str} {mp : List (Option Nat)} (h : compOkBC sx NX scope N mp = true) : CompOkC sx NX scope N mp := by
 unfold compOkBC at h
 simp only [zq19x, zq50x] at h
 obtain ⟨⟨⟨⟨⟨h1, h2⟩, h3⟩, h4⟩, h5⟩, h6⟩ := h
 refine ⟨by simpa using h1, fun x e k m z => ?_, fun y hy e => ?_, fun y hy e => ?_, by simpa using h5, fun i j x e1 e2 => ?_⟩
 ·subst z
  have := h2 (x, .cell) m
  simp [e] at this
 ·have := h3 y hy
  simpa [e] using this
 ·have := h4 y hy
  simpa [e] using this
 ·have hm : (x, some j) ∈ N.zip mp := by
   have : (N.zip mp)[i]? = some (x, some j) := by
    rw [List.getElem?_zip_eq_some]; exact ⟨e2, e1⟩
   exact zq8x this
  have := h6 _ hm
  simpa using this
def clC (X : Cx) (scope : Scope) (C : Addr) : List (Str × Addr) := cellsFrom (C + 1) scope.names (clOf X.env.cells scope.names [])
def compXC (X : Cx) (scope : Scope) (C : Addr) (N : List Str) (s₀ : Shared) (H₀ : Hp) (fp : List Addr) : Cx :=
 { X with N := N, s₀ := s₀, H₀ := H₀, env := compEnvC scope (clC X scope C) C X.env, outer := X.stack, ex := fp, fn := fun x => scope.names.lookup x == some .cell, pn := [], xe := fun _ _ => False }
theorem newEnvC {M : Model} {A : Around} {E : Value -> Shared -> Prop} {s : Shared} {scope : Scope} {globals : Addr} {closure : List (Str × Addr)} {qual : Str} {outer : Env} {builtins : Addr} {Q : Env -> Shared -> Prop}
  (hQ : ∀ h', h' = pushCells (s.heap.push { cls := .type "dict", data := .dict #[] }) scope.names -> h'.Ns s.heap.objs.size (fun _ => none) -> (∀ b o, s.heap.get? b = some o -> h'.get? b = some o) ->
   Q (newEnv scope s.heap.objs.size globals (cellsFrom (s.heap.objs.size + 1) scope.names closure) qual none .none (some outer) builtins) { s with heap := h' }) :
  wpAny M A (newFunctionEnv scope globals closure [] qual none .none (some outer) builtins) Q E s := by
 simp only [newFunctionEnv, Option.isSome_some, if_true]
 refine wpAny_bind (wpAny_alloc ?_)
 refine wpAny_bind (wpAny_layCells _ (fun name kind cells => by cases hkc : kind == NameKind.cell <;> simp [hkc]) _ _ _ _ ?_)
 rw [show ({ s with heap := s.heap.push { cls := .type "dict", data := .dict #[] } } : Shared).heap.objs.size = s.heap.objs.size + 1 from zq102x ..]
 rw [List.forIn_nil]
 refine wpAny_bind (wpAny_pure (wpAny_pure ?_))
 exact hQ _ rfl ((Heap.Ns.new s.heap (.type "dict")).keeps (pushCells_keeps _ _)) fun b o e => pushCells_keeps _ _ b o (zq26x _ e)
section
variable {X : Cx}
theorem comp_coreC {elt iter tg : Expr} {ifs : List Expr} {scope : Scope} {pos pos' : Pos} {N : List Str} {mp : List (Option Nat)} {wi : TI} {g : TG} {tc : TT} {te : TE} {use : Option (Value -> Sem Unit)}
    {pins : List (Addr × Obj)} {s : Shared} {σ : St} {H : Hp} {Q : VK} {QQ : Value -> Shared -> Prop}
    (ok : CompOkC X.env.scope X.N scope N mp) (hc : X.calm = true) (hi : PI X tg iter wi)
    (hb : ∀ C s₀ H₀ fp, PG (compXC X scope C N s₀ H₀ fp) tg g /\ PTs (compXC X scope C N s₀ H₀ fp) ifs tc /\ PE (compXC X scope C N s₀ H₀ fp) elt te)
    (hs : ∀ x, foldedSetIterable iter X.env x = pure x) (I : Inv X pins σ H s) (h : tComp wi g tc te mp σ H Q)
    (fin : ∀ acc C H' s' m, Inv X pins σ H' s' -> FpOk X pins H' C -> s'.heap.Ns C m -> Q (.ref acc) H' -> compPost (model X.prog X.w) X.A X.xe use QQ (.ref acc) C (.ok .next) s') :
    wpAny (model X.prog X.w) X.A (comprehension (.ListComp elt [⟨tg, iter, ifs, 0⟩] scope pos) scope X.env pos' (newList []) false (eval iter X.env) use) QQ X.xe s := by
  have hfree : ∀ x ∈ scope.names, x.2 = .free -> ∃ a, X.env.cells.lookup x.1 = some a := fun x hx e => I.ok.has x.1 (ok.free x hx e)
  refine wpAny_comprehension_free (use := use) rfl hs (closureFor_eq hfree) ok.kind ok.names (thn (hi pins s σ H _ I h) fun v s1 h1 => thn h1 fun itv s2 h2 => ?_)
  obtain ⟨it, fp, tn, J, H2, e, I2, T, st2, f2, hW⟩ := h2
  subst e
  refine wpAny_newObj_type (newEnvC (fun h₁ hh₁ hns₁ old₁ => ?_))
  dsimp only at hns₁ hh₁ old₁ ⊢
  have I3 := I2.lnew (its := []) (ys := []) (t' := s2.toks) .nil (zq34x _)
  have hW := hW s2.heap.objs.size I2.fresh
  obtain ⟨W, ⟨m0, w0⟩, turn⟩ := hW
  generalize hHP : s2.heap.push { cls := .type "list", dict := none, data := .seq ([] : List Value).toArray } = HP at hns₁ hh₁ old₁ ⊢
  have I3 : Inv X pins σ (upd H2 s2.heap.objs.size (.lst [])) { s2 with heap := HP } := by rw [<- hHP]; exact I3
  generalize hH3 : upd H2 s2.heap.objs.size (.lst []) = H3 at I3 w0
  have hC : HP.objs.size = s2.heap.objs.size + 1 := by rw [<- hHP, zq102x]
  have old := old₁
  have flt : ∀ b ∈ fp, b < s2.heap.objs.size := fun b hb => by
    obtain ⟨o, e, _⟩ := T.obj 0 _ st2 b hb
    exact zq9x e
  have fH3 : ∀ b ∈ fp, H3 b = none := fun b hb => by
    rw [<- hH3, upd_ne (zq25x (flt b hb))]
    exact (f2 b hb).1
  have clsub : ∀ {x : Str} {c : Addr}, (clC X scope HP.objs.size).lookup x = some c -> (HP.objs.size + 1 <= c /\ h₁.IsCell c none) \/ X.env.cells.lookup x = some c := fun {x c} e => by
    rcases cells_new (h := HP.push { cls := .type "dict", data := .dict #[] }) (by rw [zq102x]) e with z | z
    · rw [hh₁]; exact .inl z
    · exact .inr (clOf_sub (fun y d q => by simp at q) z)
  have cllt : ∀ {x : Str} {c : Addr}, X.env.cells.lookup x = some c -> c < HP.objs.size := fun {x c} e => by
    obtain ⟨v, o, ho, hd⟩ := I3.cell x c e
    exact zq9x ho
  have yok : (compXC X scope HP.objs.size N { s2 with heap := HP } H3 fp).Ok := by
    refine ⟨I2.ok.mod, ok.kind, I2.ok.glob, I2.ok.blt, zq3x _, fun x y c e1 e2 => ?_, fun x hx => ?_, fun x c e1 e2 => ?_, I2.ok.hd, I2.ok.frames, .inl rfl, fun b hb => ?_, I3.bs, zq16x I3.ok.bsz I3.sz, fun b o e hb => ?_, fun b hb hz => ?_, I3.stack, I3.stkFree⟩
    · refine cells_inj (n := HP.objs.size + 1) (acc := clOf X.env.cells scope.names []) (fun x y c g1 g2 => I2.ok.inj x y c (clOf_sub (fun y d q => by simp at q) g1) (clOf_sub (fun y d q => by simp at q) g2)) (fun x c g => zq81x (cllt (clOf_sub (fun y d q => by simp at q) g))) e1 e2
    · have hx' : scope.names.lookup x = some .free \/ scope.names.lookup x = some .cell := by
        rcases hx with hx | hx
        · exact relabel_lookC hx (.inl rfl)
        · exact relabel_lookC hx (.inr rfl)
      rcases hx' with hx' | hx'
      · have hm := zq69x hx'
        obtain ⟨a, ha⟩ := hfree _ hm rfl
        refine ⟨a, ?_⟩
        show (clC X scope HP.objs.size).lookup x = some a
        unfold clC
        rw [cells_keep (ok.own x hx')]
        exact clOf_look hm ha
      · exact zq116x.mp (zq140x _ _ _ (.inl hx'))
    · have e1 : scope.names.lookup x = some .cell := by
        have e1 : (scope.names.lookup x == some NameKind.cell) = true := e1
        simpa using e1
      exact zq149x (cells_up (lo := HP.objs.size + 1) (zq3x _) (.inr (zq69x e1)) e2)
    · refine ⟨fun z => ?_, fun x c e => ?_⟩
      rotate_left
      · rcases clsub e with ⟨z, _⟩ | z
        · have q := flt b hb
          intro w
          rw [hC] at z
          rw [w] at z
          exact absurd (zq28x (zq81x (zq81x q)) z) (zq53x _)
        · exact (f2 b hb).2.2.2.2.1 x c z
      have z' : b = HP.objs.size := z
      have q := flt b hb
      rw [z', hC] at q
      exact absurd q (Nat.not_lt.mpr (zq65x _))
    · rcases (f2 b hb).2.2.2.1 with z | z
      · exact I2.ok.noex b o e z
      · exact absurd (zq28x (zq9x (I2.ok.bs b o e).1) z) (zq53x _)
    · rcases zq43x.mp (I2.stkSub b hz) with z | z
      · exact (f2 b hb).2.1 z
      · exact (f2 b hb).2.2.1 z
  have IY : Inv (compXC X scope HP.objs.size N { s2 with heap := HP } H3 fp) [] (startC mp σ) H3 { s2 with heap := h₁ } := by
    refine ⟨yok, rfl, I2.bare, Un.kept old, ⟨_, hns₁, fun i x v e1 e2 e3 => ?_⟩, fun x c e => ?_, I3.hok.fresh (zq3x _), fun x c e => ?_, fun p hp => absurd (show p ∈ ([] : List (Addr × Obj)) from hp) (by simp), I3.hok.kept old, ?_⟩
    · have hj : ∃ j, mp[i]? = some (some j) /\ σ[j]? = some (some v) := by
        unfold startC at e2
        rw [zq13x] at e2
        cases q : mp[i]? with
        | none => rw [q] at e2; cases e2
        | some o =>
          rw [q] at e2
          cases o with
          | none => cases e2
          | some j =>
            refine ⟨j, rfl, ?_⟩
            have e2 : (match σ[j]? with | some v => v | none => none) = some v := zq31x e2
            cases r : σ[j]? with
            | none => rw [r] at e2; cases e2
            | some u =>
              rw [r] at e2
              have e2 : u = some v := e2
              rw [e2]
      obtain ⟨j, hj1, hj2⟩ := hj
      obtain ⟨l1, l2⟩ := ok.look i j x hj1 e1
      have hm := zq69x l2
      have kx := ok.free _ hm rfl
      obtain ⟨mm, _, hl⟩ := I3.loc
      obtain ⟨u, ru, lk⟩ := hl j x v l1 hj2 (kx.elim (fun z => .inr (.inl z)) fun z => .inr (.inr z))
      refine ⟨u, ru, .inr ⟨relabel_free l2, ?_⟩⟩
      rcases lk with ⟨k, _⟩ | ⟨_, c, e, z⟩
      · exfalso
        have k' : X.env.scope.names.lookup x = some .local := k
        rcases kx with kx | kx
        · rw [k'] at kx; cases kx
        · rw [k'] at kx; cases kx
      · refine ⟨c, (cells_keep (ok.own x l2)).trans (clOf_look hm e), ?_⟩
        obtain ⟨o, ho, hd⟩ := z
        exact ⟨o, old c o ho, hd⟩
    · rcases clsub e with ⟨_, z⟩ | z
      · exact ⟨none, z⟩
      · obtain ⟨v, o, ho, hd⟩ := I3.cell x c z
        exact ⟨v, o, old c o ho, hd⟩
    · rcases clsub e with ⟨z, _⟩ | z
      · exact I3.hok.fresh (zq149x z)
      · exact I3.freeC x c z
    · show (startC mp σ).length = N.length
      unfold startC
      rw [zq0x, ok.len]
  have stat : ∀ {H' : Hp}, (∀ b ∈ fp, H' b = none) -> ∀ b ∈ fp, FpOk (compXC X scope HP.objs.size N { s2 with heap := HP } H3 fp) [] H' b := fun {H'} hn b hb =>
    ⟨hn b hb, (yok.exf b hb).1, yok.exfs b hb, .inl hb, (yok.exf b hb).2, fun p hp => absurd (show p ∈ ([] : List (Addr × Obj)) from hp) (by simp)⟩
  have stY : tn 0 h₁ := T.keep 0 _ _ st2 fun b hb o e => old b o (by rw [<- hHP]; exact zq26x _ e)
  have loop : codeAny (model X.prog X.w) X.A (.compLoop (.ListComp elt [⟨tg, iter, ifs, 0⟩] scope pos) 0 (.ref it) (.ref s2.heap.objs.size) (compEnvC scope (clC X scope HP.objs.size) HP.objs.size X.env))
      (compPost (model X.prog X.w) X.A X.xe use QQ (.ref s2.heap.objs.size) HP.objs.size) { s2 with heap := h₁ } := by
    obtain ⟨hg, ht, he⟩ := hb HP.objs.size { s2 with heap := HP } H3 fp
    generalize hY : compXC X scope HP.objs.size N { s2 with heap := HP } H3 fp = Y at hg ht he IY stat
    have yp : Y.prog = X.prog := by rw [<- hY]; rfl
    have yw : Y.w = X.w := by rw [<- hY]; rfl
    have yK : Y.K = X.K := by rw [<- hY]; rfl
    have yA : Y.A = X.A := by rw [<- hY]; rfl
    have yc : Y.calm = true := by rw [<- hY]; exact hc
    have yx : Y.xe = fun _ _ => False := by rw [<- hY]; rfl
    have yenv : Y.env = compEnvC scope (clC X scope HP.objs.size) HP.objs.size X.env := by rw [<- hY]; rfl
    rw [<- yenv]
    refine codeAny_compLoop_own (fun n s' => ∃ i σ' H', Inv Y [] σ' H' s' /\ tn i s'.heap /\ (∀ b ∈ fp, H' b = none) /\ W i n σ' H') ?_ m0 ⟨0, _, H3, IY, stY, fH3, w0⟩
    rintro n s3 ⟨i, σ3, H4, I4, st3, fr3, w3⟩
    rcases turn i n σ3 H4 w3 with ⟨stop, qn⟩ | ⟨go, Nx, hN, step⟩
    · have q0 := T.done Y yp yw yK yc i [] s3 σ3 H4 (fun _ _ => False) I4 (stat fr3) st3 stop
      rw [yA] at q0
      refine thn q0 fun r s4 ⟨hr, I5⟩ => ?_
      subst hr
      show compPost (model X.prog X.w) X.A X.xe use QQ (.ref s2.heap.objs.size) HP.objs.size (.ok .next) s4
      obtain ⟨m, hm, _⟩ := id I5.loc
      have yl : Y.env.locals = HP.objs.size := by rw [yenv]; rfl
      rw [yl] at hm
      have fC : H4 HP.objs.size = none := by have := I5.free; rw [yl] at this; exact this
      have ub := I5.base
      have ub' : Un (frs X.stack) fp H3 H4 HP s4.heap := by rw [<- hY] at ub; exact ub
      have hos : s4.os = s2.os := by have := I5.os; rw [<- hY] at this; exact this
      have hok5 : HOk X.prog X.w H4 s4.heap := by have := I5.hok; rw [yp, yw] at this; exact this
      have IX : Inv X pins σ H4 s4 := I3.call' (ch := fp) hos ub' hok5 I5.bare fun b hb => ⟨(f2 b hb).2.2.2.1, (f2 b hb).2.1, (f2 b hb).2.2.2.2.1, (f2 b hb).2.2.2.2.2⟩
      exact fin _ _ H4 s4 m IX (I3.fpOk (zq3x _) fC) hm qn
    · have q0 := T.item Y yp yw yK yc i [] s3 σ3 H4 (fun _ _ => False) I4 (stat fr3) st3 go
      rw [yA] at q0
      refine thn q0 fun r s4 ⟨u, hr, h4⟩ => ?_
      subst hr
      refine thn h4 fun _ s5 ⟨x, H5, I5, r5, y5, st5, fr5⟩ => ?_
      have I5' := I5.pinned (stat fr5) (T.obj _ _ st5)
      rw [<- yx, <- yp, <- yw, <- yA]
      refine thn (hg _ s5 σ3 H5 x u _ I5' r5 (step x H5 y5)) fun _ s6 ⟨σ6, H6, I6, q6⟩ => ?_
      refine thn (ht _ s6 σ6 H6 _ I6 q6) fun b s7 ⟨H7, I7, q7⟩ => ?_
      have again : ∀ {σ8 : St} {H8 : Hp} {s8 : Shared}, Inv Y ([] ++ pinsAt fp s5.heap) σ8 H8 s8 -> Nx σ8 H8 -> ∃ m, m < n /\ ∃ i σ' H', Inv Y [] σ' H' s8 /\ tn i s8.heap /\ (∀ b ∈ fp, H' b = none) /\ W i m σ' H' := fun {σ8 H8 s8} I8 n8 => by
        obtain ⟨m', hm, w8⟩ := hN σ8 H8 n8
        refine ⟨m', hm, i + 1, σ8, H8, I8.unpinned, T.keep _ _ _ st5 fun b hb o e => (I8.pin (b, o) (zq38x _ (zq38x _ (mem_pinsAt hb e)))).1, fun b hb => ?_, w8⟩
        obtain ⟨o, e, d⟩ := T.obj _ _ st5 b hb
        exact (I8.pin (b, o) (zq38x _ (zq38x _ (mem_pinsAt hb e)))).2.1
      cases b with
      | false =>
        rw [if_neg zq7x]
        rw [if_neg zq7x] at q7
        exact again I7 q7
      | true =>
        rw [if_pos rfl]
        rw [if_pos rfl] at q7
        refine thn (he _ s7 σ6 H7 _ I7 q7) fun v s8 ⟨y, H8, I8, r8, ys, e8, z8, n8⟩ => ?_
        refine thn (mt_append _ s8 σ6 H8 (.ref s2.heap.objs.size) [y] (.ref s2.heap.objs.size) [v] (fun _ H9 => H9 = upd H8 s2.heap.objs.size (.lst (ys ++ [y]))) I8 rfl (.cons r8 .nil) ⟨_, ys, y, rfl, rfl, e8, z8, rfl⟩) fun v9 s9 ⟨y9, H9, I9, r9, e9⟩ => ?_
        subst e9
        exact again I9 n8
  refine codeAny_compStart_list loop (T.self _ _ _ _ _ stY loop)
theorem pe_lcompC {elt iter tg : Expr} {ifs : List Expr} {scope : Scope} {pos : Pos} {N : List Str} {mp : List (Option Nat)} {wi : TI} {g : TG} {tc : TT} {te : TE}
  (ok : CompOkC X.env.scope X.N scope N mp) (hi : PI X tg iter wi)
  (hb : ∀ C s₀ H₀ fp, PG (compXC X scope C N s₀ H₀ fp) tg g /\ PTs (compXC X scope C N s₀ H₀ fp) ifs tc /\ PE (compXC X scope C N s₀ H₀ fp) elt te) (hc : X.calm = true := by rfl)
  (hs : ∀ x, foldedSetIterable iter X.env x = pure x := by intro _; rfl) : PE X (.ListComp elt [⟨tg, iter, ifs, 0⟩] scope pos) (tComp wi g tc te mp) := by
 intro pins s σ H Q I h
 rw [eval_ListComp]
 refine comp_coreC (use := none) ok hc hi hb hs I h fun acc C H' s' m I' f hn q => ?_
 exact ⟨m, hn, fun h' hs' => ⟨.ref acc, H', f.turned I' hs', rfl, q⟩⟩
theorem ps_setCC {elt iter tg : Expr} {ifs : List Expr} {scope : Scope} {pos spos py : Pos} {N : List Str} {mp : List (Option Nat)} {wi : TI} {g : TG} {tc : TT} {te : TE} {i : Nat} {y : Str}
  (hN : X.N.Nodup) (hy : X.N[i]? = some y) (hk : X.env.kindOf y = some .local)
  (ok : CompOkC X.env.scope X.N scope N mp) (hi : PI X tg iter wi)
  (hb : ∀ C s₀ H₀ fp, PG (compXC X scope C N s₀ H₀ fp) tg g /\ PTs (compXC X scope C N s₀ H₀ fp) ifs tc /\ PE (compXC X scope C N s₀ H₀ fp) elt te) (hc : X.calm = true := by rfl)
  (hsw : swapsWith (.ListComp elt [⟨tg, iter, ifs, 0⟩] scope pos) (some (.Name y py)) spos.line X.env = pure true := by rfl)
  (hs : ∀ x, foldedSetIterable iter X.env x = pure x := by intro _; rfl) : PS X (.Assign [.Name y py] (.ListComp elt [⟨tg, iter, ifs, 0⟩] scope pos) spos) (tSetC i (tComp wi g tc te mp)) := by
 intro pins s σ H D I h
 rw [exec_Assign_Name_used _ _ _ _ hsw]
 refine wpAny_bind (wpAny_standAt (wpAny_bind ?_))
 show wpAny _ X.A (do let _ <- comprehension (.ListComp elt [⟨tg, iter, ifs, 0⟩] scope pos) scope X.env _ (newList []) false (eval iter X.env) (some (assign (.Name y py) X.env))) _ _ s
 refine wpAny_bind (wpAny_mono (comp_coreC (use := some (assign (.Name y py) X.env)) (QQ := fun _ s' => SP X pins D .next s') ok hc hi hb hs I h fun acc C H' s' m I' f hn q => ?_) (fun _ s' hq => wpAny_pure (wpAny_pure hq)) fun _ _ e => e)
 refine wpAny_assign_Name (store_ok2 (v := .ref acc) I' hN hy (.inl hk) rfl (fun s2 I2 ⟨a, sb, ha⟩ => ?_) (.inr hk))
 have hne : C ≠ a := by
  rcases ha with z | z
  ·rw [z]; exact f.2.1
  ·exact fun e => f.2.2.2.2.1 y a z e.symm
 exact ⟨m, hn.sameBut sb hne, fun h' hs' => ⟨_, H', f.turned I2 hs', q⟩⟩
end
end L2
set_option maxRecDepth 100000
set_option maxHeartbeats 4000000
namespace L2
open PySem PySem.Spec PyProof.Rows
def inLot (lot : List Int) (prs : Prs) : Nat := (prs.filter fun pr => decide (pr.1 ∈ lot)).length
def holdB (cs : List Prs) (lot : List Int) : Bool := cs.all fun prs => decide (inLot lot prs ≠ 1)
def Lr (rows : List (List Int)) (lot : List Int) : List Int := lot.flatMap fun p => rows.getD p.toNat []
def noOne (L : List Int) : Bool := L.all fun c => decide (L.count c ≠ 1)
def tot (cs : List Prs) : Nat := (cs.map List.length).sum
structure LotNet (n : Int) (cs : List Prs) : Prop where
 n0 : 1 <= n
 n1 : n <= 400
 cl : cs.length <= 400
 tl : tot cs <= 9000
 ok : ∀ prs ∈ cs, ∀ pr ∈ prs, 0 <= pr.1 /\ pr.1 < n
theorem tot_take {cs : List Prs} {i : Nat} {prs : Prs} (e : cs[i]? = some prs) : tot (cs.take (i + 1)) = tot (cs.take i) + prs.length := by
 unfold tot
 rw [take_snoc e, zq6x, List.sum_append]
 simp
theorem tot_le {cs : List Prs} : ∀ i, tot (cs.take i) <= tot cs := fun i => by
 have : tot cs = tot (cs.take i) + tot (cs.drop i) := by
  unfold tot
  rw [<- List.sum_append, <- zq6x, zq150x]
 omega
theorem short_tot {n : Nat} {cs : List Prs} : ∀ i, i <= cs.length -> Short (rowsTo n cs i) (tot (cs.take i))
  | 0, _ => fun r hr => by
    unfold rowsTo at hr
    rw [zq187x hr]; simp
  | i + 1, hi => by
    have ih := short_tot (n := n) (cs := cs) i (by omega)
    have e : cs[i]? = some cs[i] := zq1x (by omega)
    rw [rowsTo_succ e, tot_take e]
    exact short_C (c := (i : Int)) (prs := cs[i]) ih
theorem LotNet.seat {n : Int} {cs : List Prs} (h : LotNet n cs) : SeatOk n cs := by
 have h0 := h.n0
 have h1 := h.n1
 refine ⟨by omega, by omega, h.ok, fun i m prs e r hr => ?_⟩
 have hi := (zq2x.mp e).1
 have a1 := short_C (c := (i : Int)) (prs := prs.take m) (short_tot (n := n.toNat) (cs := cs) i (by omega)) r hr
 have a3 : (prs.take m).length <= prs.length := by rw [zq47x]; omega
 have a4 := tot_take e
 have a5 := tot_le (cs := cs) (i + 1)
 have := h.tl
 omega
theorem count_nat {k : Nat} {place : Int} (e : place = (k : Int)) : ∀ {L : Prs}, (∀ x ∈ L, 0 <= x.1) -> (L.map fun pr => pr.1.toNat).count k = (L.map (·.1)).count place
  | [], _ => rfl
  | x :: L, h => by
    have h0 := h x (zq27x ..)
    rw [zq4x, zq104x, zq4x, zq104x, count_nat e fun y hy => h y (zq33x _ hy)]
    congr 1
    by_cases e' : x.1 = place
    · rw [if_pos (by simp; omega), if_pos (by simp [e'])]
    · rw [if_neg (by simp; omega), if_neg (by simpa using e')]
theorem rowsC_count {c x : Int} : ∀ {prs : Prs} {rows : List (List Int)} {g : Nat -> Nat}, (∀ (k : Nat) r, rows[k]? = some r -> r.count x = g k) -> ∀ (k : Nat) r, (rowsC rows c prs)[k]? = some r -> r.count x = g k + if x = c then (prs.map fun pr => pr.1.toNat).count k else 0
  | [], rows, g, h, k, r, e => by simpa using h k r e
  | pr :: prs, rows, g, h, k, r, e => by
    have := rowsC_count (c := c) (x := x) (prs := prs) (rows := stepR rows c pr) (g := fun k => g k + if pr.1.toNat = k then (if x = c then 1 else 0) else 0) (fun k r e => by
      unfold stepR at e
      by_cases hk : pr.1.toNat = k
      · rw [if_pos hk]
        subst hk
        by_cases hl : pr.1.toNat < rows.length
        · rw [zq18x hl] at e
          cases e
          have := h _ _ (zq1x hl)
          rw [zq23x, zq1x hl, zq151x, <- this]
          congr 1
          by_cases hx : x = c
          · simp [hx]
          · rw [if_neg hx, zq152x, if_neg (by simpa using fun z => hx z.symm)]
        · rw [zq89x (by rw [zq49x]; omega)] at e; cases e
      · rw [if_neg hk]
        rw [zq10x hk] at e
        exact h k r e) k r e
    rw [zq4x, zq104x]
    by_cases hk : pr.1.toNat = k
    · by_cases hx : x = c
      · simp [hk, hx] at this ⊢; omega
      · simp [hk, hx] at this ⊢; omega
    · simp [hk] at this ⊢; omega
theorem rowsTo_count {n : Nat} {cs : List Prs} {x : Int} : ∀ i, i <= cs.length -> ∀ (k : Nat) r, (rowsTo n cs i)[k]? = some r -> r.count x = if 0 <= x /\ x < i then ((cs.getD x.toNat []).map fun pr => pr.1.toNat).count k else 0
  | 0, _, k, r, e => by
    unfold rowsTo at e
    have := zq8x e
    rw [zq187x this, if_neg (by omega)]; rfl
  | i + 1, hi, k, r, e => by
    obtain ⟨prs, eprs⟩ : ∃ prs, cs[i]? = some prs := ⟨_, zq1x (by omega)⟩
    rw [rowsTo_succ eprs] at e
    have h1 := rowsC_count (rowsTo_count (x := x) i (by omega)) k r e
    rw [h1]
    by_cases hx : x = (i : Int)
    · subst hx
      have e1 : ((i : Int)).toNat = i := zq63x i
      rw [if_neg (by omega), if_pos rfl, if_pos (by omega), e1, zq23x, eprs]
      simp
    · rw [if_neg hx, Nat.add_zero]
      by_cases h2 : 0 <= x /\ x < i
      · rw [if_pos h2, if_pos (by omega)]
      · rw [if_neg h2, if_neg (by omega)]
theorem rowsTo_mem {n : Nat} {cs : List Prs} {k : Nat} {r : List Int} {x : Int} (e : (rowsTo n cs cs.length)[k]? = some r) (h : x ∈ r) : 0 <= x /\ x < cs.length := by
 have h1 := rowsTo_count (x := x) cs.length (zq3x _) k r e
 have h2 := zq153x.mpr h
 by_cases c : 0 <= x /\ x < cs.length
 ·exact c
 ·rw [if_neg c] at h1; omega
theorem filter_count : ∀ {lot : List Int} {prs : Prs}, lot.Nodup -> (lot.map fun p => (prs.map (·.1)).count p).sum = inLot lot prs
  | [], prs, _ => by
    unfold inLot
    rw [zq154x.mpr (fun x _ => by simp)]; rfl
  | a :: lot, prs, nd => by
    obtain ⟨n1, n2⟩ := zq68x.mp nd
    rw [zq4x, List.sum_cons, filter_count n2]
    unfold inLot
    clear n2 nd
    induction prs with
    | nil => rfl
    | cons pr prs ih =>
      rw [zq4x, zq104x, zq55x, zq55x]
      by_cases h1 : pr.1 = a
      · have h2 : pr.1 ∉ lot := by rw [h1]; exact n1
        rw [if_pos (by simp [h1]), if_neg (by simpa using h2), if_pos (by simp [h1]), zq36x]
        omega
      · by_cases h2 : pr.1 ∈ lot
        · rw [if_neg (by simpa using h1), if_pos (by simpa using h2), if_pos (by simp [h2]), zq36x, zq36x]
          omega
        · rw [if_neg (by simpa using h1), if_neg (by simpa using h2), if_neg (by simp [h1, h2])]
          omega
theorem Lr_count {n : Int} {cs : List Prs} {lot : List Int} (h : LotNet n cs) (nd : lot.Nodup) (hl : ∀ p ∈ lot, 0 <= p /\ p < n) (x : Int) : (Lr (rowsTo n.toNat cs cs.length) lot).count x = if 0 <= x /\ x < cs.length then inLot lot (cs.getD x.toNat []) else 0 := by
 have h1 := h.n0
 have key : ∀ p ∈ lot, ((rowsTo n.toNat cs cs.length).getD p.toNat []).count x = if 0 <= x /\ x < cs.length then ((cs.getD x.toNat []).map (·.1)).count p else 0 := fun p hp => by
  obtain ⟨p0, p1⟩ := hl p hp
  have hk : p.toNat < (rowsTo n.toNat cs cs.length).length := by rw [rowsTo_len]; omega
  rw [zq23x, zq1x hk]
  have := rowsTo_count (x := x) cs.length (zq3x _) p.toNat _ (zq1x hk)
  show List.count x (rowsTo n.toNat cs cs.length)[p.toNat] = _
  rw [this]
  by_cases c : 0 <= x /\ x < cs.length
  ·rw [if_pos c, if_pos c]
   refine count_nat (by omega) fun y hy => ?_
   have hx : x.toNat < cs.length := by omega
   rw [zq23x, zq1x hx] at hy
   exact (h.ok _ (zq40x hx) y hy).1
  ·rw [if_neg c, if_neg c]
 unfold Lr
 rw [List.count_flatMap]
 by_cases c : 0 <= x /\ x < cs.length
 ·rw [if_pos c, <- filter_count nd]
  congr 1
  apply zq87x
  intro p hp
  show List.count x _ = _
  rw [key p hp, if_pos c]
 ·rw [if_neg c]
  have : lot.map (List.count x ∘ fun p => (rowsTo n.toNat cs cs.length).getD p.toNat []) = lot.map fun _ => 0 := by
   apply zq87x
   intro p hp
   show List.count x _ = _
   rw [key p hp, if_neg c]
  rw [this]
  clear this key nd hl
  induction lot with
  | nil => rfl
  | cons a l ih => simpa using ih
theorem noOne_hold {n : Int} {cs : List Prs} {lot : List Int} (h : LotNet n cs) (nd : lot.Nodup) (hl : ∀ p ∈ lot, 0 <= p /\ p < n) : noOne (Lr (rowsTo n.toNat cs cs.length) lot) = holdB cs lot := by
 unfold noOne holdB
 rw [zq46x, zq50x, zq50x]
 constructor
 ·intro g prs hp
  obtain ⟨i, hi⟩ := zq51x hp
  have hil := (zq2x.mp hi).1
  refine decide_eq_true fun z => ?_
  have e := Lr_count h nd hl (i : Int)
  rw [if_pos (by omega), zq63x, zq23x, hi] at e
  have e' : (Lr (rowsTo n.toNat cs cs.length) lot).count (i : Int) = 1 := by rw [e]; exact z
  have := of_decide_eq_true (g (i : Int) (zq153x.mp (by omega)))
  exact this e'
 ·intro g x hx
  refine decide_eq_true fun z => ?_
  have e := Lr_count h nd hl x
  rw [z] at e
  by_cases c : 0 <= x /\ x < cs.length
  ·rw [if_pos c] at e
   have hi : x.toNat < cs.length := by omega
   rw [zq23x, zq1x hi] at e
   exact of_decide_eq_true (g _ (zq40x hi)) e.symm
  ·rw [if_neg c] at e; omega
def CntK (L : List Int) (ks : Ks) : Prop := ∃ ms : List Int, ms.Nodup /\ (∀ c, c ∈ ms ↔ c ∈ L) /\ ks = ms.map fun c => (c, PyData.int (L.count c))
theorem valI_mapK {g : Int -> PyData} {c : Int} : ∀ {ms : List Int}, valI (ms.map fun c => (c, g c)) c = if c ∈ ms then some (g c) else none
  | [] => rfl
  | m :: ms => by
    rw [zq4x, valI_cons, valI_mapK]
    by_cases h : m = c
    · subst h; simp
    · have h' : ¬ c = m := fun z => h z.symm
      simp [h, h']
theorem CntK.nil : CntK [] [] := ⟨[], zq120x, fun _ => Iff.rfl, rfl⟩
theorem CntK.get {L : List Int} {ks : Ks} (h : CntK L ks) (c : Int) : (valI ks c).getD (.int 0) = .int (L.count c) := by
 obtain ⟨ms, nd, hm, rfl⟩ := h
 rw [valI_mapK]
 by_cases e : c ∈ ms
 ·rw [if_pos e]; rfl
 ·rw [if_neg e]
  have : L.count c = 0 := List.count_eq_zero.mpr fun z => e ((hm c).mpr z)
  rw [this]; rfl
theorem CntK.put {L : List Int} {ks : Ks} (h : CntK L ks) (c : Int) : CntK (L ++ [c]) (putI ks c (.int ((L.count c : Int) + 1))) := by
 obtain ⟨ms, nd, hm, rfl⟩ := h
 have hcc : ∀ x, (L ++ [c]).count x = L.count x + if c = x then 1 else 0 := fun x => by
  rw [zq151x, zq152x]
  by_cases e : c = x
  ·subst e; simp
  ·simp [e]
 unfold putI
 have hk : hasI (ms.map fun c => (c, PyData.int (L.count c))) c = decide (c ∈ ms) := by
  rw [zq46x, hasI_iff, zq57x, decide_eq_true_eq]
  have : (ms.map ((·.1) ∘ fun c => (c, PyData.int (L.count c)))) = ms := zq155x (fun _ => rfl) ms
  rw [this]
 rw [hk]
 by_cases e : c ∈ ms
 ·rw [if_pos (decide_eq_true e)]
  refine ⟨ms, nd, fun x => ?_, ?_⟩
  ·rw [zq29x, zq12x, hm x]
   exact ⟨.inl, fun z => z.elim id fun z => by rw [z]; exact (hm c).mp e⟩
  ·rw [zq57x]
   apply zq87x
   intro x hx
   show (if x = c then (x, PyData.int ((L.count c : Int) + 1)) else (x, .int (L.count x))) = _
   rw [hcc x]
   by_cases z : x = c
   ·subst z; simp
   ·rw [if_neg z, if_neg (fun w => z w.symm)]; rfl
 ·rw [if_neg (by simpa using e)]
  refine ⟨ms ++ [c], ?_, fun x => ?_, ?_⟩
  ·rw [zq74x]
   exact ⟨nd, by simp, fun a ha b hb z => by rw [zq12x.mp hb] at z; exact e (z ▸ ha)⟩
  ·rw [zq29x, zq29x, hm x]
  ·rw [zq6x]
   congr 1
   ·apply zq87x
    intro x hx
    rw [hcc x, if_neg (fun w => by subst w; exact e hx)]; rfl
   ·show [(c, PyData.int ((L.count c : Int) + 1))] = [(c, PyData.int (((L ++ [c]).count c : Nat) : Int))]
    rw [hcc c, if_pos rfl]; rfl
theorem CntK.len {L : List Int} {ks : Ks} (h : CntK L ks) {m : Nat} (hb : ∀ c ∈ L, 0 <= c /\ c < m) : ks.length <= m := by
 obtain ⟨ms, nd, hm, rfl⟩ := h
 rw [zq0x]
 have := zq105x (l₂ := (List.range m).map fun (i : Nat) => (i : Int)) nd fun k hk => by
  obtain ⟨a, b⟩ := hb k ((hm k).mp hk)
  exact zq14x.mpr ⟨k.toNat, zq37x.mpr (by omega), by omega⟩
 simpa using this
theorem CntK.vals {L : List Int} {ks : Ks} (h : CntK L ks) : ∃ ns : List Int, ks.map (·.2) = ns.map PyData.int /\ (decide ((1 : Int) ∈ ns) != true) = noOne L := by
 obtain ⟨ms, nd, hm, rfl⟩ := h
 refine ⟨ms.map fun c => (L.count c : Int), by rw [zq57x, zq57x]; rfl, ?_⟩
 unfold noOne
 have hb : ∀ b : Bool, (b != true) = !b := by decide
 rw [hb, zq46x, zq50x, Bool.not_eq_true', decide_eq_false_iff_not, zq14x]
 constructor
 ·intro g c hc
  exact decide_eq_true fun z => g ⟨c, (hm c).mpr hc, by rw [z]; rfl⟩
 ·rintro g ⟨c, hc, e⟩
  exact of_decide_eq_true (g c ((hm c).mp hc)) (by omega)
theorem Lr_snoc (rows : List (List Int)) (lot : List Int) (p : Int) : Lr rows (lot ++ [p]) = Lr rows lot ++ rows.getD p.toNat [] := by unfold Lr; simp
structure LotOk (n : Int) (l : List Int) : Prop where
 nd : l.Nodup
 rg : ∀ x ∈ l, 0 <= x /\ x < n
theorem LotOk.len {n : Int} {l : List Int} (h : LotOk n l) (hn : n <= 400) : l.length <= 400 := by
 have := zq105x (l₂ := (List.range n.toNat).map fun (i : Nat) => (i : Int)) h.nd fun k hk => by
  obtain ⟨a, b⟩ := h.rg k hk
  exact zq14x.mpr ⟨k.toNat, zq37x.mpr (by omega), by omega⟩
 rw [zq0x, zq88x] at this
 omega
theorem LotOk.nil {n : Int} : LotOk n [] := ⟨zq120x, fun _ h => nomatch h⟩
theorem LotOk.perm {n : Int} {l r : List Int} (h : LotOk n l) (p : r.Perm l) : LotOk n r := ⟨p.nodup_iff.mpr h.nd, fun x hx => h.rg x (p.mem_iff.mp hx)⟩
theorem LotOk.filter {n : Int} {l : List Int} (h : LotOk n l) (q : Int -> Bool) : LotOk n (l.filter q) := ⟨h.nd.filter q, fun x hx => h.rg x (zq5x.mp hx).1⟩
theorem LotOk.range {n : Int} (hn : 0 <= n) : LotOk n ((List.range n.toNat).map fun (i : Nat) => (i : Int)) := by
 refine ⟨?_, fun x hx => ?_⟩
 ·rw [zq188x, zq106x]
  exact zq156x.imp fun h => by omega
 ·obtain ⟨i, hi, rfl⟩ := zq14x.mp hx
  have := zq37x.mp hi
  omega
theorem inLot_snoc (lot : List Int) (prs : Prs) (pr : Int × Int) : (prs ++ [pr]).filter (fun pr => decide (pr.1 ∈ lot)) = prs.filter (fun pr => decide (pr.1 ∈ lot)) ++ if pr.1 ∈ lot then [pr] else [] := by
 rw [zq75x]
 congr 1
 by_cases h : pr.1 ∈ lot
 ·simp [h]
 ·simp [h]
def CksOk (n : Int) (cs : List Prs) : Prop := ∀ prs ∈ cs, LotOk n (prs.map (·.1))
theorem CksOk.lot {n : Int} {cs : List Prs} (h : CksOk n cs) (h0 : 1 <= n) (h1 : n <= 400) (hc : cs.length <= 400) (ht : tot cs <= 9000) : LotNet n cs := ⟨h0, h1, hc, ht, fun prs hp pr hpr => (h prs hp).rg pr.1 (zq14x.mpr ⟨pr, hpr, rfl⟩)⟩
theorem tot_mul {cs : List Prs} {w : Nat} : (∀ prs ∈ cs, prs.length <= w) -> tot cs <= cs.length * w := by
  induction cs with
  | nil => intro _; simp [tot]
  | cons a cs ih =>
    intro h
    have h1 := h a (zq27x ..)
    have h2 := ih fun p hp => h p (zq33x _ hp)
    have e : tot (a :: cs) = a.length + tot cs := by unfold tot; simp
    rw [e, zq36x, Nat.succ_mul]
    omega
theorem filter_snoc (q : Int -> Bool) {xs : List Int} {j : Nat} {x : Int} (e : xs[j]? = some x) : (xs.take (j + 1)).filter q = (xs.take j).filter q ++ if q x = true then [x] else [] := by
 rw [take_snoc e, zq75x]
 congr 1
 rw [zq55x, zq91x]
theorem LotOk.range0 {n : Int} (hn : 0 <= n) : LotOk n ((List.range n.toNat).map fun (i : Nat) => 0 + (i : Int)) := by
 have e : ((List.range n.toNat).map fun (i : Nat) => 0 + (i : Int)) = ((List.range n.toNat).map fun (i : Nat) => (i : Int)) := zq87x fun i _ => by omega
 rw [e]; exact .range hn
theorem LotOk.lenN {n : Int} {l : List Int} (h : LotOk n l) : l.length <= n.toNat := by
 have := zq105x (l₂ := (List.range n.toNat).map fun (i : Nat) => (i : Int)) h.nd fun k hk => by
  obtain ⟨a, b⟩ := h.rg k hk
  exact zq14x.mpr ⟨k.toNat, zq37x.mpr (by omega), by omega⟩
 rwa [zq0x, zq88x] at this
end L2
set_option maxRecDepth 100000
set_option maxHeartbeats 4000000
namespace L2
open PySem PySem.Spec PyProof.Rows
theorem pe_bmJ {X : Cx} {K : PySem.W.Frag} {e : Expr} {T : String} {r : V -> List V -> Hp -> VK -> Prop} {to : TE} {t : TA} (hK : X.K = K) (h : PE X e (tBM X.K T r to t)) : PE X e (tBM K T r to t) := by subst hK; exact h
theorem perm_eraseIdx {α : Type} {d : α} : ∀ {ds : List α} {r : Nat}, ds[r]? = some d -> (d :: ds.eraseIdx r).Perm ds
 | x :: ds, 0, e => by simp at e; subst e; exact .refl _
 | x :: ds, r + 1, e => (List.Perm.swap x d _).trans ((perm_eraseIdx (ds := ds) (r := r) (by simpa using e)).cons x)
 | [], r, e => by simp at e
section
variable {G : Gx} {ρ : Rh} {t0 : TE} {E : DE} {i0 j : Nat} {f : Bool} {K K2 : PySem.W.Frag}
theorem Sv.retTurn {a : Addr} {ds : List PyData} (e0 : ρ[i0]? = some .bag) (ej : ρ[j]? = some (.own a f ds)) (hl : ds.length <= 9000) (hlen : Ev G ρ t0 fun _ x => x = .int ds.length) (h : ∀ rs : List PyData, rs.Perm ds -> E.rt f (.list rs)) :
  Sv G ρ (tRet (tComp (iRng1 (tCons t0 tNil)) (gName 0) tNoTest (tBM K "list" rPopAt (tVar 2) (tCons (tCall spDraw [] E0 (tCons (tVar 1) (tCons (tCB (rLen K2) (tCons (tVar 2) tNil)) tNil))) tNil)) [none, some i0, some j])) E := fun nb σ H D W KK => by
 refine hlen nb σ H _ W fun g v H1 x ex s1 hv => ?_
 subst ex
 rw [hv.ofI]
 refine ⟨ds.length, rfl, by omega, by omega, fun acc hacc => ?_⟩
 have hij : i0 ≠ j := fun z => by subst z; rw [e0] at ej; cases ej
 have hρ : startR [none, some i0, some j] ρ = [.no, .bag, .own a f ds] := by unfold startR; simp [e0, ej]
 have W0 : Wd G nb [.no, .bag, .own a f ds] (L2.startC [none, some i0, some j] σ) H1 := by rw [<- hρ]; exact (W.step s1).startC (by simp [hij])
 have W1 := W0.more hacc (o := .lst [])
 have hN := NB.new s1.2 hacc
 have haa : a ≠ acc := (no_own W0 hacc).1 2 a f ds rfl
 rw [zq63x]
 refine R.comp_range (fun i σ H2 => ∃ (s0 : Sl) (ds' es : List PyData) (xs : List V), (∀ a f ds, s0 ≠ .own a f ds) /\ (∀ a f ds, s0 ≠ .dic a f ds) /\ Wd G (fun x => nb x \/ x = acc) [s0, .bag, .own a f ds'] σ H2 /\ H2 acc = some (.lst xs) /\ IsDs (G.S (fun x => nb x \/ x = acc) f) H2 es xs /\ (es ++ ds').Perm ds /\ es.length = i) ⟨.no, ds, [], [], (fun _ _ _ z => by cases z), (fun _ _ _ z => by cases z), W1, upd_same, .nil, by simp, rfl⟩ ?_ ?_
 ·rintro i σ H2 hi ⟨s0, ds', es, xs, hs0, hs1, W2, hx2, hd2, hp, hel⟩
  have hlen' := hp.length_eq
  rw [zq22x] at hlen'
  have W3 := W2.setD (i := 0) (f := true) (d := .int (0 + (i : Int))) (v := .int (0 + (i : Int))) (.int _)
  dsimp only [gName, tNoTest]
  rw [if_pos rfl]
  obtain ⟨x, e1, h1, h2, h3, ys, hy, hdy⟩ := W3.ok 2 _ rfl
  subst h1
  refine ⟨.ref a, e1, .inl ⟨rfl, _, SqL.of hy⟩, ?_⟩
  refine Ev.draw (i := 1) (Φ := fun _ d => ∃ r : Nat, d = .int (r : Int) /\ r < ds'.length) rfl (Ev.lenOwn (i := 2) rfl ?_) _ _ _ _ W3 fun g v H3 d ⟨r, er, hr⟩ s3 hv => ?_
  ·refine ⟨_, rfl, by omega, by unfold Sm; omega, fun r r1 r2 => ⟨r.toNat, ?_, by omega⟩⟩
   rw [zq92x r1]
  subst er
  have hk := hv.ofI
  subst hk
  have W4 := W3.step s3
  have hy3 := s3.1 _ _ h3 hy
  have hx3 := s3.1 _ _ hN hx2
  have hdy3 := hdy.keep s3.butS
  have hd3 := hd2.keep (s3.butS (nb := fun x => nb x \/ x = acc) (f := f))
  obtain ⟨d, edd⟩ : ∃ d, ds'[r]? = some d := ⟨_, zq1x hr⟩
  obtain ⟨y', hy', hD⟩ := hdy3.get edd
  have hml : r < ys.length := (zq2x.mp hy').1
  have hix : seqIndex? (r : Int) ys.length = some r := by
   have : ixN ys.length (r : Int) = some r := by
    unfold ixN
    rw [if_pos (by omega), if_pos (by omega), zq63x]
   exact (ixN_seq this).1
  have W5 := Sv.writeOwn W4 (i := 2) rfl (hdy3.era r)
  have bt1 : But (G.S (fun x => nb x \/ x = acc) f) H3 (upd H3 a (.lst (ys.eraseIdx r))) := But.set (.inl h2)
  have hx5 : (upd H3 a (.lst (ys.eraseIdx r))) acc = some (.lst xs) := by rw [upd_ne (zq11x haa)]; exact hx3
  refine ⟨a, ys, (r : Int), r, y', rfl, rfl, hy3, by omega, by omega, hix, hy', ?_⟩
  have hxl := hd2.length
  refine ⟨xs, hx5, zq28x (show xs.length < 10000 by omega) (by decide), ?_⟩
  have bt2 : But (G.S (fun x => nb x \/ x = acc) f) (upd H3 a (.lst (ys.eraseIdx r))) (upd (upd H3 a (.lst (ys.eraseIdx r))) acc (.lst (xs ++ [y']))) := But.set (.inl (.inr rfl))
  have W6 := W5.write (p := acc) (o := .lst (xs ++ [y'])) (.inr rfl) hN (fun k c f' cs hc => by
   match k with
   | 0 => cases hc
   | 1 => cases hc
   | 2 => cases hc; exact haa
   | k + 3 => simp at hc) (fun k c f' cs hc => by
   match k with
   | 0 => cases hc
   | 1 => cases hc
   | 2 => cases hc
   | k + 3 => simp at hc) (fun k c hc => by
   match k with
   | 0 => cases hc
   | 1 => cases hc
   | 2 => cases hc
   | k + 3 => simp at hc)
  refine ⟨_, ds'.eraseIdx r, es ++ [d], xs ++ [y'], ?_, ?_, W6, upd_same, IsDs.snoc ((hD.keep bt1).keep bt2) ((hd3.keep bt1).keep bt2), ?_, by simp [hel]⟩
  ·intro _ _ _ z; cases z
  ·intro _ _ _ z; cases z
  ·have := perm_eraseIdx edd
   rw [zq107x]
   exact ((List.perm_append_left_iff es).mpr this).trans hp
 ·rintro σ H2 ⟨s0, ds', es, xs, hs0, hs1, W2, hx2, hd2, hp, hel⟩
  have hlen' := hp.length_eq
  rw [zq22x] at hlen'
  have e9 : ds' = [] := zq99x.mp (by omega)
  subst e9
  rw [zq39x] at hp
  refine KK.rt _ _ _ f _ H2 _ (h es hp) W2 (.lst (fun z => ?_) hx2 (hd2.av (S_mono (fun z => z) fun _ z => z.elim)))
  have hn := W2.nbo acc (.inr rfl) hN
  rcases z with z | z | z | z
  ·exact z
  ·exact W2.gA acc z hn
  ·exact z hN
  ·exact z.2 hn
end
section
variable {G : Gx} {ρ : Rh} {te : TE} {i : Nat} {f : Bool} {K : PySem.W.Frag}
theorem Tv.truOwn {Θ : Bool -> Prop} {a : Addr} {ds : List PyData} (e : ρ[i]? = some (.own a f ds)) (h : Θ (!ds.isEmpty)) : Tv G ρ (tTruth K (tVar i)) Θ := fun nb σ H Q W z => by
 obtain ⟨x, e1, h1, h2, h3, xs, hx, hd⟩ := W.ok i _ e
 subst h1
 have hl := hd.length
 have : xs.isEmpty = ds.isEmpty := by cases xs <;> cases ds <;> first | rfl | (simp at hl)
 refine ⟨.ref a, e1, _, .inl ⟨xs, .of hx, rfl⟩, ?_⟩
 rw [this]
 exact z _ H h (.refl W.bag)
theorem Tv.truL {Θ : Bool -> Prop} (h : Ev G ρ te fun _ x => ∃ ds, x = .list ds /\ Θ (!ds.isEmpty)) : Tv G ρ (tTruth K te) Θ := fun nb σ H Q W z =>
 h nb σ H _ W fun f v H1 d ⟨ds, e, q⟩ s1 hv => by
  subst e
  obtain ⟨a, xs, rfl, n, hx, hd⟩ := hv.ofL
  have hl := hd.length
  have : xs.isEmpty = ds.isEmpty := by cases xs <;> cases ds <;> first | rfl | (simp at hl)
  refine ⟨_, .inl ⟨xs, .of hx, rfl⟩, ?_⟩
  rw [this]
  exact z _ H1 q s1
end
end L2
set_option maxRecDepth 100000
set_option maxHeartbeats 4000000
namespace L2
open PySem PySem.Spec PyProof.Rows
def rPopD : V -> List V -> Hp -> VK -> Prop := fun x vs H Q => ∃ a kvs k v, x = .ref a /\ vs = [kV k] /\ H a = some (.dK kvs) /\ valV kvs k = some v /\ Q v (upd H a (.dK (dropK kvs k)))
theorem mt_popD {X : Cx} : MtM X "dict.pop" rPopD := by
 intro pins s σ H x vs v us Q I rx rv h
 obtain ⟨a, kvs, k, w, rfl, rfl, hH, hv, q⟩ := h
 cases rx
 obtain ⟨u, rfl, ru⟩ := rv.one
 exact d_pop I hH ru hv (.inl rfl) fun w' s' I' r' => ⟨w, _, I', r', q⟩
theorem IsKs.drop {S : Addr -> Prop} {H : Hp} {k : Int} : ∀ {ks : Ks} {ps : List (Key × V)}, IsKs S H (ks.map kvD) ps -> IsKs S H ((dropI ks k).map kvD) (dropK ps (Sum.inl k))
  | [], ps, h => by unfold IsKs at h; subst h; unfold dropI dropK; simp only [zq91x, zq77x]; unfold IsKs; rfl
  | p :: r, ps, h => by
    rw [zq4x] at h
    unfold IsKs at h
    obtain ⟨q, qs, rfl, h1, h2⟩ := h
    have ih := IsKs.drop (k := k) h2
    have h0 := h1
    unfold IsK at h1
    have h3 : q.1 = Sum.inl p.1 := h1.1
    unfold dropI dropK at ih ⊢
    rw [zq55x, zq55x]
    by_cases e : p.1 = k
    · rw [if_neg (by simpa using e), if_neg (by rw [h3, e]; simp)]
      exact ih
    · rw [if_pos (by simpa using e), if_pos (by rw [h3]; simpa using e), zq4x]
      unfold IsKs
      exact ⟨q, _, rfl, h0, ih⟩
section
variable {G : Gx} {ρ : Rh} {ta tb te : TE} {t : TA} {E : DE} {i j m n : Nat} {f : Bool} {K K2 K3 : PySem.W.Frag} {Φ : Pd}
theorem Sv.popDic {a : Addr} {ks : Ks} (e : ρ[i]? = some (.dic a f ks)) (h : Ev G ρ te fun _ y => ∃ k, y = .int k /\ hasI ks k = true /\ E.nx (ρ.set i (.dic a f (dropI ks k)))) :
  Sv G ρ (tDrop (tBM K "dict" rPopD (tVar i) (tCons te tNil))) E := fun nb σ H D W KK => by
 obtain ⟨x, e1, h1, h2, h3, ps, hp, hd⟩ := W.ok i _ e
 subst h1
 refine ⟨.ref a, e1, .inr (.inr (.inl ⟨rfl, .inl ⟨_, hp⟩⟩)), h nb σ H _ W fun g v H1 y ⟨k, ey, hk, q⟩ s1 hv => ?_⟩
 subst ey
 have hk' := hv.ofI
 subst hk'
 have hd1 := hd.keep s1.butS
 have := IsKs.val k hd1
 rw [<- valI_has] at hk
 obtain ⟨d, ed⟩ := zq116x.mp hk
 rw [ed] at this
 obtain ⟨v, hv', _⟩ := this
 exact ⟨a, ps, .inl k, v, rfl, rfl, s1.1 _ _ h3 hp, hv', KK.nx nb _ _ _ q (writeDic (W.step s1) e (IsKs.drop hd1))⟩
theorem EvF.lendDic {Ψ : PyData -> Prop} {a : Addr} {ks : Ks} (i : Nat) (e : ρ[i]? = some (.dic a f ks)) (h : EvF G (ρ.set i (.d f (.dict (ks.map kvD)))) te Ψ) : EvF G ρ te Ψ := fun nb σ H Q W z => h _ σ H Q (shareDic W e) z
theorem Ev.ofF (h : EvF G ρ te fun d => Φ true d) : Ev G ρ te Φ := fun nb σ H Q W z => h nb σ H Q W fun v H' d p st hd => z true v H' d p st (hd.av fun a q => W.liveS a q)
theorem EvN.lendS {Θ : Bool -> List PyData -> Prop} {a : Addr} {ds : List PyData} (i : Nat) (e : ρ[i]? = some (.own a f ds)) (h : EvN G (ρ.set i (.d f (.list ds))) te fun _ es => es.all scB = true /\ Θ true es) : EvN G ρ te Θ := fun nb σ H Q W z =>
 h _ σ H Q (Sv.share W e) fun f c xs H' es ⟨hs, p⟩ st hc hx hd => z true c xs H' es p st hc hx (IsDs.scAny hs hd)
def rGetL : V -> V -> Hp -> VK -> Prop := fun o i H Q => ∃ a xs k v, o = .ref a /\ i = .int k /\ H a = some (.lst xs) /\ 0 <= k /\ atI xs k = some v /\ Q v H
theorem Sv.augOwn {a : Addr} {ds : List PyData} {g : Int -> Int -> Int} {c : Int} (e : ρ[i]? = some (.own a f ds)) (h : Ev G ρ tb fun _ y => ∃ k m x, y = .int k /\ 0 <= k /\ ixN ds.length k = some m /\ atI ds k = some (.int x) /\ E.nx (ρ.set i (.own a f (ds.set m (.int (g x c)))))) :
  Sv G ρ (tAugS (tVar i) tb (tC (.int c)) rGetL (ipI g) rSetL) E := fun nb σ H D W KK => by
 obtain ⟨x, e1, h1, h2, h3, xs, hx, hd⟩ := W.ok i _ e
 subst h1
 refine ⟨.ref a, e1, h nb σ H _ W fun g' u H2 y ⟨k, m, x, ey, k0, hm, ha, p⟩ s2 hu => ?_⟩
 subst ey
 have hk := hu.ofI
 subst hk
 have hx2 := s2.1 _ _ h3 hx
 have hd2 := hd.keep s2.butS
 obtain ⟨w, hw, hD⟩ := hd2.atI ha
 have hw' := hD.ofI
 subst hw'
 refine ⟨a, xs, k, _, rfl, rfl, hx2, k0, hw, x, c, rfl, rfl, a, xs, k, m, rfl, rfl, hx2, by rw [hd.length]; exact hm, KK.nx nb _ _ _ p (writeOwn (W.step s2) e ?_)⟩
 exact IsDs.set' (.int _) m hd2
theorem Sv.popCall {F : DF} {i0 q : Nat} {a aq : Addr} {f0 fq : Bool} {ds0 ws cs : List PyData} {ks : Ks} {c : Int} {dd : PyData} (hm : MonoF F) (hjq : j ≠ q)
  (e0 : ρ[i0]? = some (.d f0 (.tuple ds0))) (e2 : atI ds0 2 = some (.list cs)) (ej : ρ[j]? = some (.own a f (ws ++ [.int c]))) (eq : ρ[q]? = some (.dic aq fq ks)) (hc : atI cs c = some dd)
  (h : F [dd, .dict (ks.map kvD)] fun g d => g = true /\ E.nx ((ρ.set j (.own a f ws)).set m (.d true d))) :
  Sv G ρ (tAsg (tCall (spD 2 F) [] E0 (tCons (tOp (rIxL K) (tOp (rIxT K2) (tVar i0) (tC (.int 2))) (tBM K3 "list" rPop (tVar j) tNil)) (tCons (tVar q) tNil))) (gName m)) E := fun nb σ H D W KK => by
 obtain ⟨x0, e01, v0, rfl, hd0⟩ := W.ok i0 _ e0
 obtain ⟨a0, xs0, rfl, n0, hx0, hds0⟩ := hd0.ofT
 obtain ⟨w2, hw2, hD2⟩ := hds0.atI e2
 obtain ⟨aL, xsL, rfl, nL, hxL, hdL⟩ := hD2.ofL
 obtain ⟨wc, hwc, hDc⟩ := hdL.atI hc
 obtain ⟨x, e1, h1, h2, h3, xs, hx, hd⟩ := W.ok j _ ej
 subst h1
 have hlx := hd.length
 rw [zq22x, zq60x] at hlx
 obtain ⟨vl, hvl, hDl⟩ := hd.get (i := ws.length) (d := .int c) (by rw [zq48x (zq3x _), Nat.sub_self]; rfl)
 have hvl' := hDl.ofI
 subst hvl'
 have hne : aL ≠ a := fun z => nL (by rw [z]; exact .inl h2)
 have hxs : xs.dropLast = xs.take ws.length := by rw [List.dropLast_eq_take, hlx]; rfl
 have hdw : IsDs (G.S nb f) H ws xs.dropLast := by
  have := hd.take ws.length
  rw [List.take_left] at this
  rw [hxs]; exact this
 have W1 := writeOwn W ej hdw
 have eq' : (ρ.set j (.own a f ws))[q]? = some (.dic aq fq ks) := by rw [zq10x hjq]; exact eq
 obtain ⟨y, e3, k1, k2, k3, ps, hp, hdp⟩ := W1.ok q _ eq'
 subst k1
 have S1 := shareDic W1 eq'
 refine ⟨.ref a0, e01, a0, xs0, 2, .ref aL, rfl, rfl, .of hx0, hw2, .ref a, e1, .inl ⟨rfl, _, SqL.of hx⟩, a, xs, .int c, rfl, rfl, hx, by rw [hlx, Nat.add_sub_cancel]; exact hvl, ?_⟩
 refine ⟨aL, xsL, c, wc, rfl, rfl, .of (by rw [upd_ne hne]; exact hxL), hwc, .ref aq, e3, ?_⟩
 have hDc' : IsD (G.S nb f0) (upd H a (.lst xs.dropLast)) dd wc := hDc.keep (But.set (.inl h2))
 have hqL : ((ρ.set j (.own a f ws)).set q (.d fq (.dict (ks.map kvD))))[q]? = some (.d fq (.dict (ks.map kvD))) := zq18x (by rw [zq49x]; exact (zq2x.mp eq).1)
 obtain ⟨y', e4, v4, e5, hdq⟩ := S1.ok q _ hqL
 rw [e3] at e4
 cases e4
 cases e5
 refine ⟨rfl, (fun x => G.S (fun x => nb x /\ x ≠ aq) false x), [dd, .dict (ks.map kvD)], S1.liveS, .cons (hDc'.av fun x z => ?_) (.cons (hdq.av (S_mono (fun z => by cases z) fun _ z => z)) .nil), hm _ _ _ h fun g d ⟨hg, p⟩ v H' sm hv => ?_⟩
 ·rcases z with z | z | z | z
  ·exact .inl z.1
  ·exact .inr (.inl z)
  ·exact .inr (.inr (.inl z))
  ·cases z.1
 ·subst hg
  have st : Step G.B (upd H a (.lst xs.dropLast)) H' := .same W1.bag sm
  refine KK.nx nb _ _ _ p ((W1.step st).setD (i := m) (f := true) (hv.av fun x z => .inr ⟨rfl, W1.liveS x z⟩))
end
theorem get_listL {X : Cx} : PGet X rGetL := by
 intro pins s σ H o i ov iv Q I ro ri h
 obtain ⟨a, xs, k, v, rfl, rfl, hH, k0, hv, q⟩ := h
 cases ro
 obtain ⟨t, rfl⟩ := ri
 obtain ⟨its, r, pl, hz⟩ := I.list (SqL.of hH)
 obtain ⟨j, h1, h2, h3, h4, h5⟩ := atI_get hv
 obtain ⟨w, ew, rw'⟩ := r.get h2
 have hl := r.length
 have hn := line63
 have hj : k.toNat = j := by
  rw [seqIndex_of k0 h5] at h1
  exact zq31x h1
 exact wpAny_getItem_list pl.isList k0 (by omega) (by rw [hj]; simpa using ew) ⟨v, H, I, rw', q⟩
structure Great (cs : List Prs) (lot g : List Int) : Prop where
 sub : ∃ q : Int -> Bool, g = lot.filter q
 out : holdB cs g = true
 max : ∀ T : List Int, (∀ x ∈ T, x ∈ lot) -> holdB cs T = true -> ∀ x ∈ T, x ∈ g
structure GI (cs : List Prs) (lot S cn ws : List Int) : Prop where
 sub : ∃ q : Int -> Bool, S = lot.filter q
 cnt : cn = cs.map fun prs => (inLot S prs : Int)
 nd : ws.Nodup
 rg : ∀ w ∈ ws, 0 <= w /\ w < cs.length
 one : ∀ (c : Nat) prs, cs[c]? = some prs -> inLot S prs = 1 -> (c : Int) ∈ ws
 few : ∀ w ∈ ws, ∀ prs, cs[w.toNat]? = some prs -> inLot S prs <= 1
 max : ∀ T : List Int, (∀ x ∈ T, x ∈ lot) -> holdB cs T = true -> ∀ x ∈ T, x ∈ S
theorem GI.mem {cs : List Prs} {lot S cn ws : List Int} (h : GI cs lot S cn ws) : ∀ x ∈ S, x ∈ lot := fun x hx => by
 obtain ⟨q, e⟩ := h.sub
 rw [e] at hx
 exact (zq5x.mp hx).1
theorem GI.done {cs : List Prs} {lot S cn : List Int} (h : GI cs lot S cn []) : Great cs lot S := by
 refine ⟨h.sub, ?_, h.max⟩
 unfold holdB
 rw [zq50x]
 intro prs hp
 refine decide_eq_true fun z => ?_
 obtain ⟨c, hc⟩ := zq51x hp
 exact absurd (h.one c prs hc z) (by simp)
theorem GI.drop {cs : List Prs} {lot S cn ws : List Int} {w : Int} {prs : Prs} (h : GI cs lot S cn (ws ++ [w])) (hp : cs[w.toNat]? = some prs) (h0 : inLot S prs = 0) : GI cs lot S cn ws := by
 obtain ⟨n1, _, n3⟩ := zq74x.mp h.nd
 refine ⟨h.sub, h.cnt, n1, fun x hx => h.rg x (zq61x _ hx), fun c u hu h1 => ?_, fun x hx => h.few x (zq61x _ hx), h.max⟩
 rcases zq29x.mp (h.one c u hu h1) with z | z
 ·exact z
 ·have e := zq12x.mp z
  rw [<- e, zq63x, hu] at hp
  cases hp
  omega
theorem inLot_mono {S T : List Int} (h : ∀ x ∈ T, x ∈ S) (prs : Prs) : inLot T prs <= inLot S prs := by
  unfold inLot
  induction prs with
  | nil => exact zq3x _
  | cons pr prs ih =>
    rw [zq55x, zq55x]
    by_cases c : pr.1 ∈ T
    · rw [if_pos (by simpa using c), if_pos (by simpa using h _ c), zq36x, zq36x]; omega
    · rw [if_neg (by simpa using c)]
      by_cases c2 : pr.1 ∈ S
      · rw [if_pos (by simpa using c2), zq36x]; omega
      · rw [if_neg (by simpa using c2)]; exact ih
theorem inLot_less {S : List Int} {x : Int} (hx : x ∈ S) (prs : Prs) : inLot S prs = (prs.map (·.1)).count x + inLot (S.filter fun y => decide (y ≠ x)) prs := by
  unfold inLot
  induction prs with
  | nil => rfl
  | cons pr prs ih =>
    rw [zq55x, zq55x, zq4x, zq104x]
    by_cases c : pr.1 = x
    · rw [if_pos (by simp [c, hx]), if_pos (by simp [c]), if_neg (by simp [c]), zq36x, ih]; omega
    · by_cases c2 : pr.1 ∈ S
      · rw [if_pos (by simpa using c2), if_neg (by simpa using c), if_pos (by simp [c, c2]), zq36x, zq36x, ih]; omega
      · rw [if_neg (by simpa using c2), if_neg (by simpa using c), if_neg (by simp [c2]), ih]; omega
theorem inLot_pos {T : List Int} {x : Int} {prs : Prs} (hx : x ∈ T) (h : x ∈ prs.map (·.1)) : 1 <= inLot T prs := by
 obtain ⟨pr, hp, e⟩ := zq14x.mp h
 unfold inLot
 exact zq157x (zq5x.mpr ⟨hp, by rw [e]; simpa using hx⟩)
structure GJ (cs : List Prs) (S row : List Int) (c0 : Int) (m : Nat) (cn ws : List Int) : Prop where
 len : cn.length = cs.length
 cnt : ∀ (c : Nat) prs, cs[c]? = some prs -> cn[c]? = some ((inLot S prs : Int) - ((row.take m).count (c : Int) : Int))
 nd : ws.Nodup
 rg : ∀ w ∈ ws, 0 <= w /\ w < cs.length
 one : ∀ (c : Nat), cn[c]? = some 1 -> (c : Int) ∈ ws \/ (c : Int) = c0
 few : ∀ w ∈ ws, ∀ v, cn[w.toNat]? = some v -> v <= 1
theorem GI.start {cs : List Prs} {lot S cn ws row : List Int} {c0 : Int} (h : GI cs lot S cn (ws ++ [c0])) : GJ cs S row c0 0 cn ws := by
 obtain ⟨n1, _, n3⟩ := zq74x.mp h.nd
 have hcn : ∀ (c : Nat) v, cn[c]? = some v -> ∃ prs, cs[c]? = some prs /\ v = (inLot S prs : Int) := fun c v e => by
  rw [h.cnt] at e
  exact map_at e
 refine ⟨by rw [h.cnt, zq0x], fun c prs e => ?_, n1, fun x hx => h.rg x (zq61x _ hx), fun c e => ?_, fun x hx v e => ?_⟩
 ·rw [h.cnt, zq13x, e]
  simp
 ·obtain ⟨prs, e1, e2⟩ := hcn c 1 e
  rcases zq29x.mp (h.one c prs e1 (by omega)) with z | z
  ·exact .inl z
  ·exact .inr (zq12x.mp z)
 ·obtain ⟨prs, e1, e2⟩ := hcn _ v e
  have := h.few x (zq61x _ hx) prs e1
  omega
theorem GJ.at {cs : List Prs} {S row cn ws : List Int} {c0 : Int} {m : Nat} (h : GJ cs S row c0 m cn ws) {c : Int} (h0 : 0 <= c) (h1 : c < cs.length) : ∃ v, cn[c.toNat]? = some v := by
 have := h.len
 exact ⟨_, zq1x (by omega)⟩
theorem GJ.step {cs : List Prs} {S row cn ws : List Int} {c0 c v : Int} {m : Nat} (h : GJ cs S row c0 m cn ws) (hm : row[m]? = some c) (h0 : 0 <= c) (h1 : c < cs.length) (hv : cn[c.toNat]? = some v) :
  GJ cs S row c0 (m + 1) (cn.set c.toNat (v - 1)) (if v - 1 = 1 then ws ++ [c] else ws) := by
 have hlc : c.toNat < cn.length := (zq2x.mp hv).1
 have hcc : ((c.toNat : Nat) : Int) = c := by omega
 have few' : ∀ w ∈ ws, ∀ u, (cn.set c.toNat (v - 1))[w.toNat]? = some u -> u <= 1 := fun w hw u e => by
  by_cases z : c.toNat = w.toNat
  ·rw [z, zq18x (by omega)] at e
   cases e
   rw [z] at hv
   have := h.few w hw v hv
   omega
  ·rw [zq10x z] at e
   exact h.few w hw u e
 refine ⟨by rw [zq49x]; exact h.len, fun k prs e => ?_, ?_, ?_, fun k e => ?_, ?_⟩
 ·have e0 := h.cnt k prs e
  rw [take_snoc hm, zq151x, zq152x]
  by_cases z : c.toNat = k
  ·subst z
   rw [zq18x hlc, hcc]
   rw [e0, hcc] at hv
   cases hv
   rw [if_pos (by simp)]
   congr 1
   omega
  ·rw [zq10x z, e0, if_neg (by simp; omega)]
   rfl
 ·split
  ·rename_i hone
   rw [zq74x]
   refine ⟨h.nd, by simp, fun a ha b hb z => ?_⟩
   rw [zq12x.mp hb] at z
   subst z
   have := h.few a ha v hv
   omega
  ·exact h.nd
 ·split
  ·intro w hw
   rcases zq29x.mp hw with z | z
   ·exact h.rg w z
   ·rw [zq12x.mp z]; exact ⟨h0, h1⟩
  ·exact h.rg
 ·by_cases z : c.toNat = k
  ·subst z
   rw [zq18x hlc] at e
   have e := zq31x e
   rw [if_pos e, hcc]
   exact .inl (zq38x _ (by simp))
  ·rw [zq10x z] at e
   rcases h.one k e with q | q
   ·split
    ·exact .inl (zq61x _ q)
    ·exact .inl q
   ·exact .inr q
 ·split
  ·rename_i hone
   intro w hw u e
   rcases zq29x.mp hw with z | z
   ·exact few' w z u e
   ·rw [zq12x.mp z, zq18x hlc] at e
    cases e
    omega
  ·exact few'
theorem GJ.fin {cs : List Prs} {lot S cn cn' ws ws' row : List Int} {c0 x : Int} {prs0 : Prs} (h : GI cs lot S cn (ws ++ [c0])) (hp0 : cs[c0.toNat]? = some prs0) (hx : x ∈ S) (hx0 : x ∈ prs0.map (·.1)) (hrow : ∀ (c : Nat) prs, cs[c]? = some prs -> row.count (c : Int) = (prs.map (·.1)).count x)
    (j : GJ cs S row c0 row.length cn' ws') : GI cs lot (S.filter fun y => decide (y ≠ x)) cn' ws' := by
  have hc0 := h.rg c0 (zq38x _ (by simp))
  have hfew := h.few c0 (zq38x _ (by simp)) prs0 hp0
  have hone := inLot_pos hx hx0
  have hn : ∀ prs, inLot (S.filter fun y => decide (y ≠ x)) prs = inLot S prs - (prs.map (·.1)).count x := fun prs => by have := inLot_less hx prs; omega
  have hcn : ∀ (c : Nat) prs, cs[c]? = some prs -> cn'[c]? = some (inLot (S.filter fun y => decide (y ≠ x)) prs : Int) := fun c prs e => by
    rw [j.cnt c prs e, zq20x, hrow c prs e]
    have := inLot_less hx prs
    congr 1
    omega
  refine ⟨?_, ?_, j.nd, j.rg, fun c prs e h1 => ?_, fun w hw prs e => ?_, fun T hT ho y hy => ?_⟩
  · obtain ⟨q, e⟩ := h.sub
    exact ⟨_, by rw [e, zq126x]⟩
  · apply zq86x
    intro k
    rw [zq13x]
    cases e : cs[k]? with
    | none =>
      have := List.getElem?_eq_none_iff.mp e
      rw [zq89x (by have := j.len; omega)]; rfl
    | some prs => rw [hcn k prs e]; rfl
  · have e1 := hcn c prs e
    rw [h1] at e1
    rcases j.one c e1 with z | z
    · exact z
    · rw [<- z, zq63x, e] at hp0
      have e9 := zq31x hp0
      subst e9
      have := inLot_less hx prs
      have hcp : 0 < (prs.map (·.1)).count x := zq153x.mpr hx0
      omega
  · have hw0 := j.rg w hw
    have e1 := hcn w.toNat prs e
    have := j.few w hw _ e1
    omega
  · refine zq5x.mpr ⟨h.max T hT ho y hy, decide_eq_true fun z => ?_⟩
    subst z
    have hTS := h.max T hT ho
    have a1 := inLot_mono hTS prs0
    have a2 := inLot_pos hy hx0
    unfold holdB at ho
    rw [zq50x] at ho
    exact of_decide_eq_true (ho prs0 (zq8x hp0)) (by omega)
theorem GI.init {cs : List Prs} {lot ws : List Int} (hws : ws = ((List.range cs.length).filter fun c => decide (inLot lot (cs.getD c []) = 1)).map fun (c : Nat) => (c : Int)) : GI cs lot lot (cs.map fun prs => (inLot lot prs : Int)) ws := by
 subst hws
 refine ⟨⟨fun _ => true, (zq158x.mpr fun _ _ => rfl).symm⟩, rfl, ?_, fun w hw => ?_, fun c prs e h1 => ?_, fun w hw prs e => ?_, fun T hT _ y hy => hT y hy⟩
 ·rw [zq188x, zq106x]
  exact (zq156x.filter _).imp fun h => by omega
 ·obtain ⟨c, hc, rfl⟩ := zq14x.mp hw
  have := zq37x.mp (zq5x.mp hc).1
  omega
 ·refine zq14x.mpr ⟨c, zq5x.mpr ⟨zq37x.mpr (zq2x.mp e).1, ?_⟩, rfl⟩
  rw [zq23x, e]
  exact decide_eq_true h1
 ·obtain ⟨c, hc, rfl⟩ := zq14x.mp hw
  have := of_decide_eq_true (zq5x.mp hc).2
  rw [zq63x] at e
  rw [zq23x, e] at this
  have h1 : inLot lot prs = 1 := this
  omega
theorem GI.len {cs : List Prs} {lot S cn ws : List Int} (h : GI cs lot S cn ws) : ws.length <= cs.length := by
 have := zq105x (l₂ := (List.range cs.length).map fun (i : Nat) => (i : Int)) h.nd fun k hk => by
  obtain ⟨a, b⟩ := h.rg k hk
  exact zq14x.mpr ⟨k.toNat, zq37x.mpr (by omega), by omega⟩
 simpa using this
theorem GJ.wlen {cs : List Prs} {S row cn ws : List Int} {c0 : Int} {m : Nat} (h : GJ cs S row c0 m cn ws) : ws.length <= cs.length := by
 have := zq105x (l₂ := (List.range cs.length).map fun (i : Nat) => (i : Int)) h.nd fun k hk => by
  obtain ⟨a, b⟩ := h.rg k hk
  exact zq14x.mpr ⟨k.toNat, zq37x.mpr (by omega), by omega⟩
 simpa using this
@[reducible] def insK (S : List Int) : Ks := S.map fun x => (x, PyData.bool true)
theorem insK_has (S : List Int) (k : Int) : hasI (insK S) k = decide (k ∈ S) := by
 rw [zq46x, hasI_iff, zq57x, decide_eq_true_eq]
 have : S.map ((·.1) ∘ fun x => (x, PyData.bool true)) = S := zq155x (fun _ => rfl) S
 rw [this]
theorem insK_drop (S : List Int) (k : Int) : dropI (insK S) k = insK (S.filter fun y => decide (y ≠ k)) := by
 unfold dropI insK
 rw [List.filter_map]
 rfl
theorem insK_puts {S : List Int} (nd : S.Nodup) : putsI [] (insK S) = insK S := by
  have key : ∀ (S : List Int) (acc : List Int), (acc ++ S).Nodup -> putsI (insK acc) (insK S) = insK (acc ++ S) := by
    intro S
    induction S with
    | nil => intro acc _; simp [putsI, insK]
    | cons x S ih =>
      intro acc nd
      have hx : x ∉ acc := fun z => (zq74x.mp nd).2.2 x z x (by simp) rfl
      show putsI (putI (insK acc) x (.bool true)) (insK S) = _
      have e : putI (insK acc) x (.bool true) = insK (acc ++ [x]) := by
        unfold putI
        rw [insK_has, if_neg (by simpa using hx)]
        unfold insK
        rw [zq6x]; rfl
      rw [e, ih (acc ++ [x]) (by rw [zq107x]; exact nd), zq107x]
      rfl
  have := key S [] (by simpa using nd)
  simpa using this
theorem Great.uniq {cs : List Prs} {lot g g' : List Int} (h : Great cs lot g) (h' : Great cs lot g') : g = g' := by
 obtain ⟨q, e⟩ := h.sub
 obtain ⟨q', e'⟩ := h'.sub
 have m1 : ∀ x ∈ g, x ∈ lot := fun x hx => by rw [e] at hx; exact (zq5x.mp hx).1
 have m2 : ∀ x ∈ g', x ∈ lot := fun x hx => by rw [e'] at hx; exact (zq5x.mp hx).1
 rw [e, e']
 apply zq159x
 intro x hx
 rw [zq46x]
 constructor
 ·intro hq
  have : x ∈ g := by rw [e]; exact zq5x.mpr ⟨hx, hq⟩
  have := h'.max g m1 h.out x this
  rw [e'] at this
  exact (zq5x.mp this).2
 ·intro hq
  have : x ∈ g' := by rw [e']; exact zq5x.mpr ⟨hx, hq⟩
  have := h.max g' m2 h'.out x this
  rw [e] at this
  exact (zq5x.mp this).2
def Bare (cs : List Prs) (lot : List Int) : Prop := lot ≠ [] /\ holdB cs lot = true /\ ∀ T : List Int, T ≠ [] -> (∀ x ∈ T, x ∈ lot) -> (∃ y ∈ lot, y ∉ T) -> holdB cs T = false
theorem great_nil {cs : List Prs} {lot g : List Int} (h : Great cs lot g) : g = [] ↔ ∀ T : List Int, T ≠ [] -> (∀ x ∈ T, x ∈ lot) -> holdB cs T = false := by
 constructor
 ·rintro rfl T hT hs
  refine zq127x.mpr fun z => ?_
  obtain ⟨x, t, e⟩ := zq82x hT
  have := h.max T hs z x (by rw [e]; exact zq27x ..)
  simp at this
 ·intro z
  refine zq54x fun hg => ?_
  have := z g hg (fun x hx => by obtain ⟨q, e⟩ := h.sub; rw [e] at hx; exact (zq5x.mp hx).1)
  rw [h.out] at this
  cases this
end L2
set_option maxRecDepth 100000
set_option maxHeartbeats 4000000
namespace L2
open PySem PySem.Spec PyProof.Rows
theorem rise_uniq : ∀ {a b : List Int}, a.Pairwise (· < ·) -> b.Pairwise (· < ·) -> (∀ k, k ∈ a ↔ k ∈ b) -> a = b
  | [], [], _, _, _ => rfl
  | [], y :: b, _, _, h => absurd ((h y).mpr (zq27x ..)) (by simp)
  | x :: a, [], _, _, h => absurd ((h x).mp (zq27x ..)) (by simp)
  | x :: a, y :: b, ha, hb, h => by
    obtain ⟨ha1, ha2⟩ := zq128x.mp ha
    obtain ⟨hb1, hb2⟩ := zq128x.mp hb
    have e : x = y := by
      rcases zq43x.mp ((h x).mp (zq27x ..)) with z | z
      · exact z
      · rcases zq43x.mp ((h y).mpr (zq27x ..)) with w | w
        · exact w.symm
        · have := hb1 x z; have := ha1 y w; omega
    subst e
    have : a = b := rise_uniq ha2 hb2 fun k => by
      constructor
      · intro hk
        rcases zq43x.mp ((h k).mp (zq33x _ hk)) with z | z
        · have := ha1 k hk; omega
        · exact z
      · intro hk
        rcases zq43x.mp ((h k).mpr (zq33x _ hk)) with z | z
        · have := hb1 k hk; omega
        · exact z
    rw [this]
theorem sorted_is {a b : List Int} (h : b.Pairwise (· < ·)) (hs : a.Pairwise (· <= ·)) (hp : a.Perm b) : a = b := by
 have nd : a.Nodup := hp.nodup_iff.mpr (h.imp fun h => by omega)
 have hlt : a.Pairwise (· < ·) := (hs.and nd).imp fun ⟨h1, h2⟩ => by omega
 exact rise_uniq hlt h fun k => hp.mem_iff
theorem peel_max {cs : List Prs} {lot S : List Int} {prs : Prs} {x : Int} (h : ∀ T : List Int, (∀ x ∈ T, x ∈ lot) -> holdB cs T = true -> ∀ x ∈ T, x ∈ S) (hp : prs ∈ cs) (h1 : inLot S prs = 1) (hx0 : x ∈ prs.map (·.1)) :
  ∀ T : List Int, (∀ x ∈ T, x ∈ lot) -> holdB cs T = true -> ∀ y ∈ T, y ∈ S.filter fun y => decide (y ≠ x) := fun T hT ho y hy => by
 refine zq5x.mpr ⟨h T hT ho y hy, decide_eq_true fun z => ?_⟩
 subst z
 have a1 := inLot_mono (h T hT ho) prs
 have a2 := inLot_pos hy hx0
 unfold holdB at ho
 rw [zq50x] at ho
 exact of_decide_eq_true (ho prs hp) (by omega)
theorem holdB_nil (cs : List Prs) : holdB cs [] = true := by
 unfold holdB
 rw [zq50x]
 intro prs _
 refine decide_eq_true fun z => ?_
 have : inLot [] prs = 0 := by unfold inLot; rw [zq154x.mpr (fun x _ => by simp)]; rfl
 omega
theorem Great.mem {cs : List Prs} {lot g : List Int} (h : Great cs lot g) : ∀ x ∈ g, x ∈ lot := fun x hx => by
 obtain ⟨q, e⟩ := h.sub
 rw [e] at hx
 exact (zq5x.mp hx).1
theorem Great.up {cs : List Prs} {lot g : List Int} (h : Great cs lot g) (hl : lot.Pairwise (· < ·)) : g.Pairwise (· < ·) := by
 obtain ⟨q, e⟩ := h.sub
 rw [e]
 exact hl.filter q
theorem Great.lot {cs : List Prs} {lot g : List Int} {n : Int} (h : Great cs lot g) (hl : LotOk n lot) : LotOk n g := by
 obtain ⟨q, e⟩ := h.sub
 rw [e]
 exact hl.filter q
open Classical in
noncomputable def grF (cs : List Prs) (lot : List Int) : List Int := if h : ∃ g, Great cs lot g then Classical.choose h else []
theorem grF_eq {cs : List Prs} {lot g : List Int} (h : Great cs lot g) : grF cs lot = g := by
 unfold grF
 have hx : ∃ g, Great cs lot g := ⟨g, h⟩
 rw [dif_pos hx]
 exact (Classical.choose_spec hx).uniq h
noncomputable def stepF (cs : List Prs) (l : List Int) (x : Int) : List Int := if x ∈ l then (if grF cs (l.filter fun y => decide (y ≠ x)) = [] then l else grF cs (l.filter fun y => decide (y ≠ x))) else l
noncomputable def bareF (cs : List Prs) (ps l : List Int) : List Int := ps.foldl (stepF cs) l
theorem bareF_snoc (cs : List Prs) (ps l : List Int) (x : Int) : bareF cs (ps ++ [x]) l = stepF cs (bareF cs ps l) x := by unfold bareF; rw [zq100x]; rfl
structure BF (cs : List Prs) (l0 ps m : List Int) : Prop where
 sub : ∃ q : Int -> Bool, m = l0.filter q
 ne : m ≠ []
 out : holdB cs m = true
 done : ∀ x ∈ ps, x ∈ m -> ∀ T : List Int, T ≠ [] -> (∀ y ∈ T, y ∈ m /\ y ≠ x) -> holdB cs T = false
theorem BF.start {cs : List Prs} {l0 : List Int} (h1 : l0 ≠ []) (h2 : holdB cs l0 = true) : BF cs l0 [] l0 := ⟨⟨fun _ => true, (zq158x.mpr fun _ _ => rfl).symm⟩, h1, h2, fun _ h => nomatch h⟩
theorem BF.step {cs : List Prs} {l0 ps m g : List Int} {x : Int} (h : BF cs l0 ps m) (hg : x ∈ m -> Great cs (m.filter fun y => decide (y ≠ x)) g) : BF cs l0 (ps ++ [x]) (stepF cs m x) := by
 unfold stepF
 by_cases c : x ∈ m
 ·have hG := hg c
  rw [if_pos c, grF_eq hG]
  by_cases c2 : g = []
  ·rw [if_pos c2]
   refine ⟨h.sub, h.ne, h.out, fun y hy hym T hT hs => ?_⟩
   rcases zq29x.mp hy with z | z
   ·exact h.done y z hym T hT hs
   ·rw [zq12x.mp z] at hs
    exact (great_nil hG).mp c2 T hT fun w hw => zq5x.mpr ⟨(hs w hw).1, decide_eq_true (hs w hw).2⟩
  ·rw [if_neg c2]
   have hgm : ∀ w ∈ g, w ∈ m /\ w ≠ x := fun w hw => by
    obtain ⟨a, b⟩ := zq5x.mp (hG.mem w hw)
    exact ⟨a, of_decide_eq_true b⟩
   refine ⟨?_, c2, hG.out, fun y hy hyg T hT hs => ?_⟩
   ·obtain ⟨q1, e1⟩ := hG.sub
    obtain ⟨q2, e2⟩ := h.sub
    exact ⟨_, by rw [e1, e2, zq126x, zq126x]⟩
   ·rcases zq29x.mp hy with z | z
    ·exact h.done y z (hgm y hyg).1 T hT fun w hw => ⟨(hgm w (hs w hw).1).1, (hs w hw).2⟩
    ·rw [zq12x.mp z] at hyg
     exact absurd rfl (hgm x hyg).2
 ·rw [if_neg c]
  refine ⟨h.sub, h.ne, h.out, fun y hy hym T hT hs => ?_⟩
  rcases zq29x.mp hy with z | z
  ·exact h.done y z hym T hT hs
  ·rw [zq12x.mp z] at hym
   exact absurd hym c
theorem BF.bare {cs : List Prs} {l0 m : List Int} (h : BF cs l0 l0 m) : Bare cs m := by
 refine ⟨h.ne, h.out, fun T hT hs ⟨y, hy, hyT⟩ => ?_⟩
 have hy0 : y ∈ l0 := by
  obtain ⟨q, e⟩ := h.sub
  rw [e] at hy
  exact (zq5x.mp hy).1
 exact h.done y hy0 hy T hT fun z hz => ⟨hs z hz, fun w => hyT (w ▸ hz)⟩
theorem bare_stays {cs : List Prs} {l : List Int} (h : Bare cs l) (hg : ∀ x ∈ l, ∃ g, Great cs (l.filter fun y => decide (y ≠ x)) g) : ∀ ps : List Int, bareF cs ps l = l := by
 have hstep : ∀ x, stepF cs l x = l := fun x => by
  unfold stepF
  by_cases c : x ∈ l
  ·obtain ⟨g, hG⟩ := hg x c
   rw [if_pos c, grF_eq hG, if_pos]
   rw [great_nil hG]
   intro T hT hs
   refine h.2.2 T hT (fun y hy => (zq5x.mp (hs y hy)).1) ⟨x, c, fun w => ?_⟩
   have := (zq5x.mp (hs x w)).2
   simp at this
  ·rw [if_neg c]
 intro ps
 unfold bareF
 induction ps with
 | nil => rfl
 | cons x ps ih => rw [List.foldl_cons, hstep x]; exact ih
open Classical in
theorem great_ex (cs : List Prs) (lot : List Int) : ∃ g, Great cs lot g := by
 obtain ⟨U, hq, hU⟩ : ∃ U : List Int, (∃ q : Int -> Bool, U = lot.filter q) /\ ∀ x, x ∈ U ↔ x ∈ lot /\ ∃ T : List Int, (∀ y ∈ T, y ∈ lot) /\ holdB cs T = true /\ x ∈ T := by
  refine ⟨lot.filter fun x => decide (∃ T : List Int, (∀ y ∈ T, y ∈ lot) /\ holdB cs T = true /\ x ∈ T), ⟨_, rfl⟩, fun x => ?_⟩
  rw [zq5x, decide_eq_true_iff]
 refine ⟨U, hq, ?_, fun T hT ho x hx => (hU x).mpr ⟨hT x hx, T, hT, ho, hx⟩⟩
 unfold holdB
 rw [zq50x]
 intro prs hp
 refine decide_eq_true fun z => ?_
 obtain ⟨pr, efl⟩ := zq189x.mp (show (prs.filter fun pr => decide (pr.1 ∈ U)).length = 1 from z)
 obtain ⟨h1, h2⟩ := zq5x.mp (show pr ∈ prs.filter fun pr => decide (pr.1 ∈ U) by rw [efl]; exact zq12x.mpr rfl)
 obtain ⟨_, T, hT, ho, hx⟩ := (hU pr.1).mp (of_decide_eq_true h2)
 have a1 := inLot_mono (S := U) (T := T) (fun y hy => (hU y).mpr ⟨hT y hy, T, hT, ho, hy⟩) prs
 have a2 := inLot_pos hx (zq14x.mpr ⟨pr, h1, rfl⟩)
 unfold holdB at ho
 rw [zq50x] at ho
 exact of_decide_eq_true (ho prs hp) (by omega)
theorem bareF_BF {cs : List Prs} {l0 : List Int} (h1 : l0 ≠ []) (h2 : holdB cs l0 = true) : ∀ i, i <= l0.length -> BF cs l0 (l0.take i) (bareF cs (l0.take i) l0)
  | 0, _ => BF.start h1 h2
  | i + 1, hi => by
    have e : l0[i]? = some l0[i] := zq1x (by omega)
    rw [take_snoc e, bareF_snoc]
    obtain ⟨g, hg⟩ := great_ex cs ((bareF cs (l0.take i) l0).filter fun y => decide (y ≠ l0[i]))
    exact (bareF_BF h1 h2 i (by omega)).step fun _ => hg
theorem bareF_bare {cs : List Prs} {l0 : List Int} (h1 : l0 ≠ []) (h2 : holdB cs l0 = true) : Bare cs (bareF cs l0 l0) /\ ∃ q : Int -> Bool, bareF cs l0 l0 = l0.filter q := by
 have := bareF_BF h1 h2 l0.length (zq3x _)
 rw [zq20x] at this
 exact ⟨this.bare, this.sub⟩
theorem bareF_again {cs : List Prs} {l : List Int} (h : Bare cs l) : bareF cs l l = l := bare_stays h (fun x _ => great_ex cs _) l
end L2
set_option maxRecDepth 100000
set_option maxHeartbeats 4000000
namespace L2
open PySem PySem.Spec PyProof.Rows
def fst0 (row : List Int) : Int := match row.getLast? with | none => 0 | some l => l + 1
def aft (n : Int) (row : List Int) : List Int := (List.range (n - fst0 row).toNat).map fun (i : Nat) => fst0 row + (i : Int)
def cmb (n : Int) : Nat -> List (List Int)
 | 0 => [[]]
 | k + 1 => (cmb n k).flatMap fun row => (aft n row).map fun p => row ++ [p]
theorem cmb_len0 : ∀ n ∈ List.range 21, ∀ k ∈ List.range 5, (cmb (n : Int) k).length <= 5000 := by decide +kernel
theorem cmb_len {n : Int} {k : Nat} (h0 : 0 <= n) (h1 : n <= 20) (hk : k <= 4) : (cmb n k).length <= 5000 := by
 have := cmb_len0 n.toNat (zq37x.mpr (by omega)) k (zq37x.mpr (by omega))
 rw [zq92x h0] at this
 exact this
structure RwOk (n : Int) (row : List Int) : Prop where
 up : row.Pairwise (· < ·)
 rg : ∀ x ∈ row, 0 <= x /\ x < n
theorem aft_mem {n : Int} {row : List Int} {p : Int} (h : p ∈ aft n row) : fst0 row <= p /\ p < n := by
 obtain ⟨i, hi, rfl⟩ := zq14x.mp h
 have := zq37x.mp hi
 omega
theorem RwOk.fst {n : Int} {row : List Int} (h : RwOk n row) : 0 <= fst0 row /\ (∀ x ∈ row, x < fst0 row) /\ fst0 row <= n \/ row = [] := by
 rcases zq160x row with z | ⟨r, x, z⟩
 ·exact .inr z
 ·left
  rw [zq161x] at z
  subst z
  have e : fst0 (r ++ [x]) = x + 1 := by unfold fst0; rw [zq190x]
  have hx := h.rg x (by simp)
  rw [e]
  refine ⟨by omega, fun y hy => ?_, by omega⟩
  rcases zq29x.mp hy with q | q
  ·have := (zq191x.mp h.up).2.2 y q x (by simp)
   omega
  ·rw [zq12x.mp q]; omega
theorem RwOk.snoc {n : Int} {row : List Int} {p : Int} (h : RwOk n row) (hp : p ∈ aft n row) : RwOk n (row ++ [p]) := by
 obtain ⟨p0, p1⟩ := aft_mem hp
 have hlt : (∀ x ∈ row, x < p) /\ 0 <= p := by
  rcases h.fst with ⟨a, b, c⟩ | z
  ·exact ⟨fun x hx => by have := b x hx; omega, by omega⟩
  ·subst z
   have e : fst0 [] = 0 := rfl
   rw [e] at p0
   exact ⟨fun x hx => (by simp at hx), p0⟩
 refine ⟨?_, fun x hx => ?_⟩
 ·rw [zq191x]
  exact ⟨h.up, by simp, fun a ha b hb => by rw [zq12x.mp hb]; exact hlt.1 a ha⟩
 ·rcases zq29x.mp hx with z | z
  ·exact h.rg x z
  ·rw [zq12x.mp z]; exact ⟨hlt.2, p1⟩
theorem cmb_ok {n : Int} : ∀ {k : Nat} {row : List Int}, row ∈ cmb n k -> RwOk n row /\ row.length = k
  | 0, row, h => by
    rw [zq12x.mp (show row ∈ [[]] from h)]
    exact ⟨⟨List.Pairwise.nil, fun _ h => nomatch h⟩, rfl⟩
  | k + 1, row, h => by
    obtain ⟨r, hr, h⟩ := zq129x.mp (show row ∈ (cmb n k).flatMap _ from h)
    obtain ⟨p, hp, rfl⟩ := zq14x.mp h
    obtain ⟨h1, h2⟩ := cmb_ok hr
    exact ⟨h1.snoc hp, by rw [zq22x, h2]; rfl⟩
theorem RwOk.lot {n : Int} {row : List Int} (h : RwOk n row) : LotOk n row := ⟨h.up.imp fun h => by omega, h.rg⟩
def ext (n : Int) (row : List Int) : List (List Int) := (aft n row).map fun p => row ++ [p]
theorem cmb_succ (n : Int) (k : Nat) : cmb n (k + 1) = (cmb n k).flatMap (ext n) := rfl
theorem flat_take {n : Int} {rows : List (List Int)} {i : Nat} {row : List Int} (e : rows[i]? = some row) : (rows.take (i + 1)).flatMap (ext n) = (rows.take i).flatMap (ext n) ++ ext n row := by
 rw [take_snoc e, zq162x]
 simp
theorem flat_le {n : Int} {rows : List (List Int)} (i : Nat) : ((rows.take i).flatMap (ext n)).length <= (rows.flatMap (ext n)).length := by
 have : rows.flatMap (ext n) = (rows.take i).flatMap (ext n) ++ (rows.drop i).flatMap (ext n) := by rw [<- zq162x, zq150x]
 rw [this, zq22x]
 omega
def cmbs (n : Int) (m : Nat) : List (List Int) := (List.range m).flatMap fun i => cmb n (i + 1)
def leastL (n : Int) (cs : List Prs) (m : Nat) : Option (List Int) := (cmbs n m).find? fun row => holdB cs row
@[reducible] def optRow : Option (List Int) -> PyData
 | none => .none
 | some r => rowD r
theorem cmbs_succ (n : Int) (m : Nat) : cmbs n (m + 1) = cmbs n m ++ cmb n (m + 1) := by unfold cmbs; rw [zq101x, zq162x]; simp
theorem cmbs_mem {n : Int} {m : Nat} {row : List Int} (h : row ∈ cmbs n m) : RwOk n row /\ 1 <= row.length /\ row.length <= m := by
 obtain ⟨i, hi, h⟩ := zq129x.mp h
 obtain ⟨h1, h2⟩ := cmb_ok h
 have := zq37x.mp hi
 exact ⟨h1, by omega, by omega⟩
theorem cmbs_split (n : Int) {m k : Nat} (h : m <= k) : ∃ t, cmbs n k = cmbs n m ++ t /\ ∀ row ∈ t, m < row.length := by
  induction k with
  | zero =>
    have : m = 0 := by omega
    subst this
    exact ⟨[], by simp, fun _ h => nomatch h⟩
  | succ k ih =>
    by_cases c : m = k + 1
    · subst c; exact ⟨[], by simp, fun _ h => nomatch h⟩
    · obtain ⟨t, e, ht⟩ := ih (by omega)
      refine ⟨t ++ cmb n (k + 1), by rw [cmbs_succ, e, zq107x], fun row hr => ?_⟩
      rcases zq29x.mp hr with z | z
      · exact ht row z
      · have := (cmb_ok z).2; omega
theorem least_of {n : Int} {cs : List Prs} {m k : Nat} (h : m <= k) : leastL n cs m = match leastL n cs k with | some r => if r.length <= m then some r else none | none => none := by
  obtain ⟨t, e, ht⟩ := cmbs_split n h
  unfold leastL
  rw [e, zq108x]
  cases c : (cmbs n m).find? (fun row => holdB cs row) with
  | some r =>
    have := (cmbs_mem (zq192x c)).2.2
    show some r = if r.length <= m then some r else none
    rw [if_pos this]
  | none =>
    rw [zq109x]
    cases c2 : t.find? (fun row => holdB cs row) with
    | none => rfl
    | some r =>
      have := ht r (zq192x c2)
      show none = if r.length <= m then some r else none
      rw [if_neg (by omega)]
theorem find_none_take {α : Type} {q : α -> Bool} {xs : List α} {i : Nat} {x : α} (e : xs[i]? = some x) (h : (xs.take i).find? q = none) (hq : q x = false) : (xs.take (i + 1)).find? q = none := by
 rw [take_snoc e, zq108x, h, zq109x]
 rw [zq62x, hq]; rfl
theorem find_some_take {α : Type} {q : α -> Bool} {xs : List α} {i : Nat} {x : α} (e : xs[i]? = some x) (h : (xs.take i).find? q = none) (hq : q x = true) : xs.find? q = some x := by
 have e2 : xs = xs.take i ++ x :: xs.drop (i + 1) := by
  have hl := (zq2x.mp e)
  obtain ⟨hl, e'⟩ := hl
  rw [<- e', List.getElem_cons_drop, zq150x]
 rw [e2, zq108x, h, zq109x, zq62x, hq]
theorem perm_map_inv {α β : Type} {φ : α -> β} {l1 l2 : List β} (h : l1.Perm l2) : ∀ xs : List α, l2 = xs.map φ -> ∃ ys : List α, l1 = ys.map φ /\ ys.Perm xs := by
  induction h with
  | nil => intro xs e; exact ⟨[], rfl, by cases xs <;> first | exact .nil | cases e⟩
  | cons x _ ih =>
    intro xs e
    cases xs with
    | nil => cases e
    | cons a xs =>
      obtain ⟨e1, e2⟩ := zq97x e
      obtain ⟨ys, e3, p⟩ := ih xs e2
      exact ⟨a :: ys, by rw [e3, e1]; rfl, p.cons a⟩
  | swap x y l =>
    intro xs e
    match xs, e with
    | a :: b :: xs, e =>
      obtain ⟨e1, e2⟩ := zq97x e
      obtain ⟨e3, e4⟩ := zq97x e2
      exact ⟨b :: a :: xs, by rw [e1, e3, e4]; rfl, .swap a b xs⟩
  | trans _ _ ih1 ih2 =>
    intro xs e
    obtain ⟨ys, e1, p1⟩ := ih2 xs e
    obtain ⟨zs, e2, p2⟩ := ih1 ys e1
    exact ⟨zs, e2, p2.trans p1⟩
end L2
set_option maxRecDepth 100000
set_option maxHeartbeats 4000000
set_option maxRecDepth 100000
set_option maxHeartbeats 4000000
set_option maxRecDepth 100000
set_option maxHeartbeats 4000000
set_option maxRecDepth 100000
set_option maxHeartbeats 4000000
namespace L2
open PySem PySem.Spec PyProof.Rows
def co (prs : Prs) (j : Nat) : Int := (prs.map fun pr => if pr.1.toNat = j then pr.2 else 0).sum
def PrsQ (p : Int) (m : Nat) (prs : Prs) : Prop := (prs.map (·.1)).Nodup /\ prs.length <= 1000 /\ ∀ pr ∈ prs, 0 <= pr.1 /\ pr.1 < m /\ 1 <= pr.2 /\ pr.2 < p
end L2
set_option maxRecDepth 100000
set_option maxHeartbeats 4000000
set_option maxRecDepth 100000
set_option maxHeartbeats 4000000
set_option maxRecDepth 100000
set_option maxHeartbeats 4000000
set_option maxRecDepth 100000
set_option maxHeartbeats 4000000
set_option maxRecDepth 100000
set_option maxHeartbeats 4000000
namespace L2
open PySem PySem.Spec PyProof.Rows
abbrev GRow := Int × Addr × List PyData
end L2
set_option maxRecDepth 100000
set_option maxHeartbeats 4000000
namespace L2
open PySem PySem.Spec PyProof.Rows
def facOf (prs : Prs) (pl : Int) : Option Int := (prs.find? fun pr => decide (pr.1 = pl)).map (·.2)
noncomputable def vc1 (p : Int) (c : Nat) : Option Int -> List (Int × Int)
 | some f => [((c : Int), sol p f 1)]
 | none => []
noncomputable def vcTo (p : Int) (cs : List Prs) (pl : Int) (i : Nat) : List (Int × Int) := (List.range i).flatMap fun c => vc1 p c (facOf (cs.getD c []) pl)
theorem vcTo_mem {p : Int} {cs : List Prs} {pl : Int} {q : Int × Int} {i : Nat} (hi : i <= cs.length) (h : q ∈ vcTo p cs pl i) : ∃ (c : Nat) (prs : Prs) (f : Int), cs[c]? = some prs /\ c < i /\ facOf prs pl = some f /\ q = ((c : Int), sol p f 1) := by
  unfold vcTo at h
  obtain ⟨c, hc, hq⟩ := zq129x.mp h
  have hc := zq37x.mp hc
  have e : cs[c]? = some cs[c] := zq1x (by omega)
  rw [zq23x, e] at hq
  cases hf : facOf cs[c] pl with
  | none => simp [vc1, hf] at hq
  | some f =>
    have hq : q ∈ vc1 p c (facOf cs[c] pl) := hq
    rw [hf] at hq
    exact ⟨c, cs[c], f, e, hc, hf, zq12x.mp hq⟩
noncomputable def votesL (p : Int) (cs : List Prs) (ws : List Int) (pl : Int) : List Int :=
 (vcTo p cs pl cs.length).map fun q => (ws.getD pl.toNat 0 - dueSum (cs.getD q.1.toNat []) (ws.map some) % p * q.2) % p
structure VNet (p n : Int) (cs : List Prs) : Prop where
 hp : PrimeZ p
 p40 : p < 10 ^ 40
 n0 : 1 <= n
 n1 : n <= 400
 cl : cs.length <= 400
 ok : ∀ prs ∈ cs, PrsQ p n.toNat prs
theorem putI_len (ks : Ks) (k : Int) (d : PyData) : (putI ks k d).length <= ks.length + 1 := by
 unfold putI
 split
 ·rw [zq0x]; omega
 ·rw [zq22x, zq60x]; omega
end L2
set_option maxRecDepth 100000
set_option maxHeartbeats 4000000
namespace L2
open PySem PySem.Spec PyProof.Rows
def goodV (L : List Int) (w x : Int) : Bool := decide (x ≠ w) && decide (L.length < 2 * L.count x)
def mjL (L : List Int) (w : Int) : List Int := (L.filter (goodV L w)).take 1
@[reducible] def trD (t : Int × Int × Int) : PyData := .tuple [.int t.1, .int t.2.1, .int t.2.2]
noncomputable def trnAt (p : Int) (cs : List Prs) (ws : List Int) (i : Nat) : List (Int × Int × Int) := (mjL (votesL p cs ws (i : Int)) (ws.getD i 0)).map fun x => ((i : Int), ws.getD i 0, x)
noncomputable def trnTo (p : Int) (cs : List Prs) (ws : List Int) (m : Nat) : List (Int × Int × Int) := (List.range m).flatMap (trnAt p cs ws)
end L2
set_option maxRecDepth 100000
set_option maxHeartbeats 4000000
namespace L2
open PySem PySem.Spec PyProof.Rows
def brk (p : Int) (cs : List Prs) (ws : List Int) : Nat := cs.countP fun prs => decide (dueSum prs (ws.map some) % p ≠ 0)
abbrev Bst := Int × Option (Int × Int × Int)
end L2
set_option maxRecDepth 100000
set_option maxHeartbeats 4000000
set_option maxRecDepth 100000
set_option maxHeartbeats 4000000
set_option maxRecDepth 100000
set_option maxHeartbeats 4000000
namespace L2
open PySem PySem.Spec PyProof.Rows
abbrev CF := Cu -> List PyData -> (Cu -> Pd) -> Prop
end L2
set_option maxRecDepth 100000
set_option maxHeartbeats 4000000
namespace L2
open PySem PySem.Spec PyProof.Rows
inductive Fl where
 | d (d : PyData) | cu (c : Cu)
abbrev Fs := List (Str × Fl)
end L2
set_option maxRecDepth 100000
set_option maxHeartbeats 4000000
set_option maxRecDepth 100000
set_option maxHeartbeats 4000000
set_option maxRecDepth 100000
set_option maxHeartbeats 4000000
namespace L2
open PySem PySem.Spec PyProof.Rows
theorem CompOkC.rel {sx : Scope} {env : Env} {NX : List Str} {scope : Scope} {N : List Str} {mp : List (Option Nat)} (h : CompOkC sx NX scope N mp) : CompOkC (relabel sx env) NX scope N mp :=
 ⟨h.kind, h.own, h.names, fun y hy e => lookup_relabel (h.free y hy e), h.len, h.look⟩
theorem pe_lcompND {X : Cx} {scope : Scope} {C : Addr} {N : List Str} {s₀ : Shared} {H₀ : Hp} {fp : List Addr} {elt iter tg : Expr} {ifs : List Expr} {scope2 : Scope} {pos : Pos} {N2 : List Str} {mp : List (Option Nat)} {wi : TI} {g : TG} {tc : TT} {te : TE}
  (ok : CompOkC scope N scope2 N2 mp) (hi : PI (compXC X scope C N s₀ H₀ fp) tg iter wi)
  (hb : ∀ C' s₀' H₀' fp', PG (compXC (compXC X scope C N s₀ H₀ fp) scope2 C' N2 s₀' H₀' fp') tg g /\ PTs (compXC (compXC X scope C N s₀ H₀ fp) scope2 C' N2 s₀' H₀' fp') ifs tc /\ PE (compXC (compXC X scope C N s₀ H₀ fp) scope2 C' N2 s₀' H₀' fp') elt te) (hc : X.calm = true := by rfl)
  (hs : ∀ x, foldedSetIterable iter (compXC X scope C N s₀ H₀ fp).env x = pure x := by intro _; rfl) : PE (compXC X scope C N s₀ H₀ fp) (.ListComp elt [⟨tg, iter, ifs, 0⟩] scope2 pos) (tComp wi g tc te mp) :=
 pe_lcompC (X := compXC X scope C N s₀ H₀ fp) (CompOkC.rel ok) hi hb hc hs
end L2
set_option maxRecDepth 100000
set_option maxHeartbeats 4000000
set_option maxRecDepth 100000
set_option maxHeartbeats 4000000
namespace L2
open PySem PySem.Spec PyProof.Rows
inductive Oi where
 | own (b : Addr) | dat (x : PyData)
inductive OO where
 | lst (xs : List Oi) | tup (xs : List Oi) | dic (ks : List (Int × Oi))
abbrev Sto := List (Addr × OO)
end L2
set_option maxRecDepth 100000
set_option maxHeartbeats 4000000
set_option maxRecDepth 100000
set_option maxHeartbeats 4000000
set_option maxRecDepth 100000
set_option maxHeartbeats 4000000
namespace L2
open PySem PySem.Spec PyProof.Rows
abbrev Crs := Option (Int × Int × Int × Int)
def shr (a b : List Int) : List Int := b.filter fun x => decide (x ∈ a)
def NoC (R : List (List Int)) (P : Nat -> Nat -> Prop) : Prop := ∀ (c d : Nat) a b, c < d -> R[c]? = some a -> R[d]? = some b -> P c d -> (shr a b).length < 2
def IsCr (R : List (List Int)) (o : Crs) : Prop := (o = none /\ NoC R fun _ _ => True) \/ ∃ (c d : Nat) (a b : List Int) (x y : Int) (r : List Int), c < d /\ R[c]? = some a /\ R[d]? = some b /\ shr a b = x :: y :: r /\ o = some ((c : Int), (d : Int), x, y) /\ NoC R fun c' d' => c' < c \/ (c' = c /\ d' < d)
def crD : Crs -> PyData
 | none => .none
 | some (c, d, x, y) => .tuple [.int c, .int d, .int x, .int y]
def rwsOf (cs : List Prs) : List (List Int) := cs.map fun prs => prs.map (·.1)
theorem rwsOf_at {cs : List Prs} {i : Nat} {prs : Prs} (h : cs[i]? = some prs) : (rwsOf cs)[i]? = some (prs.map (·.1)) := by unfold rwsOf; rw [zq13x, h]; rfl
end L2
set_option maxRecDepth 100000
set_option maxHeartbeats 4000000
set_option maxRecDepth 100000
set_option maxHeartbeats 4000000
set_option maxRecDepth 100000
set_option maxHeartbeats 4000000
set_option maxRecDepth 100000
set_option maxHeartbeats 4000000
namespace L2
open PySem PySem.Spec PyProof.Rows
abbrev RF := Cu -> List PyData -> Pd -> Prop
end L2
set_option maxRecDepth 100000
set_option maxHeartbeats 4000000
set_option maxRecDepth 100000
set_option maxHeartbeats 4000000
set_option maxRecDepth 100000
set_option maxHeartbeats 4000000
set_option maxRecDepth 100000
set_option maxHeartbeats 4000000
set_option maxRecDepth 100000
set_option maxHeartbeats 4000000
namespace L2
open PySem PySem.Spec PyProof.Rows
def sumN : Nat -> (Nat -> Int) -> Int
 | 0, _ => 0
 | n + 1, f => sumN n f + f n
theorem sumN_succ {n : Nat} {f : Nat -> Int} : sumN (n + 1) f = sumN n f + f n := rfl
theorem sumN_congr {f g : Nat -> Int} : ∀ {n : Nat}, (∀ k, k < n -> f k = g k) -> sumN n f = sumN n g
 | 0, _ => rfl
 | n + 1, h => by unfold sumN; rw [sumN_congr fun k hk => h k (by omega), h n (by omega)]
theorem sumN_add {f g : Nat -> Int} : ∀ {n : Nat}, sumN n (fun k => f k + g k) = sumN n f + sumN n g
 | 0 => rfl
 | n + 1 => by rw [sumN_succ, sumN_succ, sumN_succ, sumN_add]; omega
theorem sumN_mul {a : Int} {f : Nat -> Int} : ∀ {n : Nat}, sumN n (fun k => a * f k) = a * sumN n f
 | 0 => by unfold sumN; simp
 | n + 1 => by unfold sumN; rw [sumN_mul, Int.mul_add]
theorem sumN_zero : ∀ {n : Nat}, sumN n (fun _ => 0) = 0
 | 0 => rfl
 | n + 1 => by unfold sumN; rw [sumN_zero]; rfl
theorem sumN_swap {f : Nat -> Nat -> Int} {n : Nat} : ∀ {m : Nat}, sumN n (fun k => sumN m fun c => f c k) = sumN m fun c => sumN n (f c)
  | 0 => sumN_zero
  | m + 1 => by
    show sumN n (fun k => sumN m (fun c => f c k) + f m k) = sumN m (fun c => sumN n (f c)) + sumN n (f m)
    rw [sumN_add, sumN_swap]
theorem sumN_le {f : Nat -> Int} {b : Int} : ∀ {n : Nat}, (∀ k, k < n -> f k <= b) -> sumN n f <= n * b
  | 0, _ => by unfold sumN; simp
  | n + 1, h => by
    unfold sumN
    have h1 := sumN_le (n := n) fun k hk => h k (by omega)
    have h2 := h n (by omega)
    rw [show ((n + 1 : Nat) : Int) * b = n * b + b by rw [zq163x, zq110x]; simp]
    omega
theorem sumN_one {f : Nat -> Int} (hf : ∀ k, f k = 0 \/ f k = 1) : ∀ {n : Nat}, (∀ k k', k < k' -> k' < n -> ¬ (f k = 1 /\ f k' = 1)) -> sumN n f <= 1
  | 0, _ => by unfold sumN; omega
  | n + 1, h => by
    unfold sumN
    rcases hf n with e | e
    · have := sumN_one hf (n := n) fun k k' a b => h k k' a (by omega)
      omega
    · have : sumN n f = 0 := by
        rw [sumN_congr (g := fun _ => 0) fun k hk => (hf k).resolve_right fun z => h k n hk (by omega) ⟨z, e⟩]
        exact sumN_zero
      omega
theorem meet {I : Nat -> Nat -> Int} (hI : ∀ c k, I c k = 0 \/ I c k = 1) {n : Nat} : ∀ {m : Nat}, (∀ c d k k', c < d -> d < m -> k < k' -> k' < n -> ¬ (I c k = 1 /\ I d k = 1 /\ I c k' = 1 /\ I d k' = 1)) ->
    sumN n (fun k => sumN m (fun c => I c k) * (sumN m (fun c => I c k) - 1)) <= m * (m - 1)
  | 0, _ => by
    rw [sumN_congr (g := fun _ => 0) fun k _ => by unfold sumN; simp, sumN_zero]; simp
  | m + 1, h => by
    have ih := meet hI (n := n) (m := m) fun c d k k' a b => h c d k k' a (by omega)
    have e : sumN n (fun k => sumN (m + 1) (fun c => I c k) * (sumN (m + 1) (fun c => I c k) - 1)) = sumN n (fun k => sumN m (fun c => I c k) * (sumN m (fun c => I c k) - 1) + 2 * sumN m (fun c => I m k * I c k)) := by
      refine sumN_congr fun k _ => ?_
      rw [sumN_mul]
      show (sumN m (fun c => I c k) + I m k) * (sumN m (fun c => I c k) + I m k - 1) = _
      generalize sumN m (fun c => I c k) = D
      rcases hI m k with z | z <;> rw [z] <;> grind
    rw [e, sumN_add, sumN_mul, sumN_swap (f := fun c k => I m k * I c k)]
    have h2 : sumN m (fun c => sumN n fun k => I m k * I c k) <= m * 1 := sumN_le fun c hc => sumN_one (fun k => by rcases hI m k with z | z <;> rcases hI c k with y | y <;> rw [z, y] <;> simp) fun k k' hk hk' ⟨z1, z2⟩ => by
      refine h c m k k' hc (by omega) hk hk' ?_
      rcases hI m k with a | a <;> rcases hI c k with b | b <;> rcases hI m k' with a' | a' <;> rcases hI c k' with b' | b' <;> simp_all
    have e3 : ((m + 1 : Nat) : Int) * ((m + 1 : Nat) - 1) = (m : Int) * (m - 1) + 2 * m := by rw [zq163x]; grind
    omega
def Ap (R : List (List Int)) : Prop := NoC R fun _ _ => True
theorem two_le {r : List Int} {x y : Int} (hx : x ∈ r) (hy : y ∈ r) (h : x ≠ y) : 2 <= r.length := by
 match r, hx, hy with
 | [z], hx, hy => simp at hx hy; omega
 | _ :: _ :: _, _, _ => simp
def In2 (a : List Int) (x y : Int) : Prop := ∃ l' l : Nat, l' < l /\ a[l']? = some x /\ a[l]? = some y
theorem In2.mem {a : List Int} {x y : Int} (h : In2 a x y) : x ∈ a /\ y ∈ a := let ⟨_, _, _, h1, h2⟩ := h; ⟨zq8x h1, zq8x h2⟩
theorem In2.lt {a : List Int} {x y : Int} (ha : a.Pairwise (· < ·)) (h : In2 a x y) : x < y := by
 obtain ⟨l', l, hl, h1, h2⟩ := h
 obtain ⟨i1, e1⟩ := zq2x.mp h1
 obtain ⟨i2, e2⟩ := zq2x.mp h2
 rw [<- e1, <- e2]
 exact zq83x.mp ha l' l i1 i2 hl
theorem in2_of {a : List Int} {x y : Int} (ha : a.Pairwise (· < ·)) (hx : x ∈ a) (hy : y ∈ a) (h : x < y) : In2 a x y := by
 obtain ⟨i, hi⟩ := zq51x hx
 obtain ⟨j, hj⟩ := zq51x hy
 obtain ⟨i1, e1⟩ := zq2x.mp hi
 obtain ⟨j1, e2⟩ := zq2x.mp hj
 refine ⟨i, j, ?_, hi, hj⟩
 by_cases c : i < j
 ·exact c
 ·exfalso
  by_cases e : i = j
  ·subst e; omega
  ·have := zq83x.mp ha j i j1 i1 (by omega); omega
theorem ap_iff {R : List (List Int)} (hR : ∀ r ∈ R, r.Pairwise (· < ·)) : Ap R ↔ ∀ (c d : Nat) a b x y, c < d -> R[c]? = some a -> R[d]? = some b -> In2 a x y -> In2 b x y -> False := by
  constructor
  · intro h c d a b x y hcd ea eb ha hb
    have := h c d a b hcd ea eb trivial
    have hlt := ha.lt (hR a (zq8x ea))
    have := two_le (r := shr a b) (x := x) (y := y) (zq5x.mpr ⟨hb.mem.1, by simpa using ha.mem.1⟩) (zq5x.mpr ⟨hb.mem.2, by simpa using ha.mem.2⟩) (by omega)
    omega
  · intro h c d a b hcd ea eb _
    have ra := hR a (zq8x ea)
    have rb := hR b (zq8x eb)
    cases hs : shr a b with
    | nil => simp
    | cons x r =>
      cases r with
      | nil => simp
      | cons y r =>
        exfalso
        have rs : (shr a b).Pairwise (· < ·) := rb.filter _
        rw [hs] at rs
        have hxy : x < y := (zq128x.mp rs).1 y zq27x
        have hx : x ∈ shr a b := by rw [hs]; exact zq27x
        have hy : y ∈ shr a b := by rw [hs]; exact zq33x _ zq27x
        have hx := zq5x.mp hx
        have hy := zq5x.mp hy
        exact h c d a b x y hcd ea eb (in2_of ra (by simpa using hx.2) (by simpa using hy.2) hxy) (in2_of rb hx.1 hy.1 hxy)
end L2
set_option maxRecDepth 100000
set_option maxHeartbeats 4000000
set_option maxRecDepth 100000
set_option maxHeartbeats 4000000
set_option maxRecDepth 100000
set_option maxHeartbeats 4000000
namespace L2
open PySem PySem.Spec PyProof.Rows
theorem nd_at {α : Type} {l : List α} (h : l.Nodup) {i j : Nat} {a : α} (hi : l[i]? = some a) (hj : l[j]? = some a) : i = j := by
 obtain ⟨i1, e1⟩ := zq2x.mp hi
 obtain ⟨j1, e2⟩ := zq2x.mp hj
 by_cases c : i = j
 ·exact c
 ·exfalso
  rcases Nat.lt_or_gt_of_ne c with c | c
  ·exact zq83x.mp h i j i1 j1 c (e1.trans e2.symm)
  ·exact zq83x.mp h j i j1 i1 c (e2.trans e1.symm)
end L2
set_option maxRecDepth 100000
set_option maxHeartbeats 4000000
namespace L2
open PySem PySem.Spec PyProof.Rows
section
variable {p n : Int} {O Q T : List Int} {cs cs' : List Prs}
def ApS (R : List (List Int)) : Prop := ∀ (c d : Nat) a b x y, c ≠ d -> R[c]? = some a -> R[d]? = some b -> x ≠ y -> x ∈ a -> y ∈ a -> x ∈ b -> y ∈ b -> False
theorem ap_s {R : List (List Int)} (hR : ∀ r ∈ R, r.Pairwise (· < ·)) : Ap R ↔ ApS R := by
 rw [ap_iff hR]
 constructor
 ·intro h
  have key : ∀ (c d : Nat) a b x y, c < d -> R[c]? = some a -> R[d]? = some b -> x < y -> x ∈ a -> y ∈ a -> x ∈ b -> y ∈ b -> False := fun c d a b x y hcd ea eb hxy h1 h2 h3 h4 =>
   h c d a b x y hcd ea eb (in2_of (hR a (zq8x ea)) h1 h2 hxy) (in2_of (hR b (zq8x eb)) h3 h4 hxy)
  intro c d a b x y hcd ea eb hxy h1 h2 h3 h4
  rcases Nat.lt_or_gt_of_ne hcd with c1 | c1 <;> rcases Int.lt_or_gt_of_ne hxy with c2 | c2
  ·exact key c d a b x y c1 ea eb c2 h1 h2 h3 h4
  ·exact key c d a b y x c1 ea eb c2 h2 h1 h4 h3
  ·exact key d c b a x y c1 eb ea c2 h3 h4 h1 h2
  ·exact key d c b a y x c1 eb ea c2 h4 h3 h2 h1
 ·intro h c d a b x y hcd ea eb ha hb
  have h1 := ha.mem
  have h2 := hb.mem
  have := ha.lt (hR a (zq8x ea))
  exact h c d a b x y (by omega) ea eb (by omega) h1.1 h1.2 h2.1 h2.2
theorem cr_none {R : List (List Int)} {o : Crs} (h : IsCr R o) : o = none ↔ Ap R := by
 constructor
 ·intro e
  rcases h with ⟨_, h⟩ | ⟨c, d, a, b, x, y, r, _, _, _, _, e2, _⟩
  ·exact h
  ·rw [e] at e2; cases e2
 ·intro ha
  rcases h with ⟨h, _⟩ | ⟨c, d, a, b, x, y, r, hcd, ea, eb, hs, e2, _⟩
  ·exact h
  ·have := ha c d a b hcd ea eb trivial
   rw [hs] at this
   simp at this; omega
end
end L2
set_option maxRecDepth 100000
set_option maxHeartbeats 4000000
namespace L2
open PySem PySem.Spec PyProof.Rows
section
variable {p n m : Int} {c1 c2 cs : List Prs} {u w : List Int}
theorem trn_held {ws : List Int} (hV : VNet p n cs) (hl : ws.length = n.toNat) (hw : ∀ x ∈ ws, 0 <= x /\ x < p) (h : brk p cs ws = 0) : trnTo p cs ws n.toNat = [] := by
  have hb := zq164x.mp h
  refine List.flatMap_eq_nil_iff.mpr fun i hi => ?_
  have hi := zq37x.mp hi
  unfold trnAt
  have hmj : mjL (votesL p cs ws (i : Int)) (ws.getD i 0) = [] := by
    cases e : mjL (votesL p cs ws (i : Int)) (ws.getD i 0) with
    | nil => rfl
    | cons x r =>
      exfalso
      have hx : x ∈ mjL (votesL p cs ws (i : Int)) (ws.getD i 0) := by rw [e]; exact zq27x
      have hxf := zq5x.mp (zq130x hx)
      have hg := hxf.2
      unfold goodV at hg
      rw [zq19x, decide_eq_true_eq] at hg
      refine hg.1 ?_
      have hm := hxf.1
      unfold votesL at hm
      obtain ⟨q, hq, rfl⟩ := zq14x.mp hm
      obtain ⟨c, prs, f, hc, _, _, rfl⟩ := vcTo_mem (zq3x _) hq
      have hz := hb prs (zq8x hc)
      have hz : dueSum prs (ws.map some) % p = 0 := by simpa using hz
      show (ws.getD (i : Int).toNat 0 - dueSum (cs.getD (c : Int).toNat []) (ws.map some) % p * sol p f 1) % p = _
      rw [zq63x, zq63x, show cs.getD c [] = prs by rw [zq23x, hc]; rfl, hz, Int.zero_mul, Int.sub_zero]
      have := hw (ws.getD i 0) (by rw [zq23x, zq1x (by omega)]; exact zq40x _)
      exact Int.emod_eq_of_lt this.1 this.2
  rw [hmj]; rfl
inductive Way (p : Int) (cs : List Prs) (n k : Nat) (ws : List Int) : Prop
 | held (hb : brk p cs ws = 0) (ht : trnTo p cs ws n = [])
 | rest (hb : brk p cs ws ≠ 0) (ht : trnTo p cs ws n = [])
 | on (hb : brk p cs ws ≠ 0) (ht : trnTo p cs ws n ≠ [])
theorem way (hV : VNet p n cs) {ws : List Int} (hl : ws.length = n.toNat) (hw : ∀ x ∈ ws, 0 <= x /\ x < p) (k : Nat) : Way p cs n.toNat k ws := by
 by_cases h1 : brk p cs ws = 0
 ·exact .held h1 (trn_held hV hl hw h1)
 by_cases h2 : trnTo p cs ws n.toNat = []
 ·exact .rest h1 h2
 ·exact .on h1 h2
end
end L2
set_option maxRecDepth 100000
set_option maxHeartbeats 4000000
set_option maxRecDepth 100000
set_option maxHeartbeats 4000000
set_option maxRecDepth 100000
set_option maxHeartbeats 4000000
namespace L2
open PySem PySem.Spec PyProof.Rows
def SmallP (q : Int) : Prop := q = 2 \/ q = 3 \/ q = 5 \/ q = 7
theorem small_mul {q d e : Int} (hq : SmallP q) (h : (d * e) % q = 0) : d % q = 0 \/ e % q = 0 := by
 rw [Int.mul_emod] at h
 rcases hq with rfl | rfl | rfl | rfl
 ·have u0 := zq41x d (by decide : (2 : Int) ≠ 0)
  have v0 := zq41x e (by decide : (2 : Int) ≠ 0)
  have u1 := zq42x d (by decide : (0 : Int) < 2)
  have v1 := zq42x e (by decide : (0 : Int) < 2)
  generalize d % 2 = u at *; generalize e % 2 = v at *
  rcases (by omega : u = 0 \/ u = 1) with rfl | rfl <;> omega
 ·have u0 := zq41x d (by decide : (3 : Int) ≠ 0)
  have v0 := zq41x e (by decide : (3 : Int) ≠ 0)
  have u1 := zq42x d (by decide : (0 : Int) < 3)
  have v1 := zq42x e (by decide : (0 : Int) < 3)
  generalize d % 3 = u at *; generalize e % 3 = v at *
  rcases (by omega : u = 0 \/ u = 1 \/ u = 2) with rfl | rfl | rfl <;> omega
 ·have u0 := zq41x d (by decide : (5 : Int) ≠ 0)
  have v0 := zq41x e (by decide : (5 : Int) ≠ 0)
  have u1 := zq42x d (by decide : (0 : Int) < 5)
  have v1 := zq42x e (by decide : (0 : Int) < 5)
  generalize d % 5 = u at *; generalize e % 5 = v at *
  rcases (by omega : u = 0 \/ u = 1 \/ u = 2 \/ u = 3 \/ u = 4) with rfl | rfl | rfl | rfl | rfl <;> omega
 ·have u0 := zq41x d (by decide : (7 : Int) ≠ 0)
  have v0 := zq41x e (by decide : (7 : Int) ≠ 0)
  have u1 := zq42x d (by decide : (0 : Int) < 7)
  have v1 := zq42x e (by decide : (0 : Int) < 7)
  generalize d % 7 = u at *; generalize e % 7 = v at *
  rcases (by omega : u = 0 \/ u = 1 \/ u = 2 \/ u = 3 \/ u = 4 \/ u = 5 \/ u = 6) with rfl | rfl | rfl | rfl | rfl | rfl | rfl <;> omega
structure LnS (q s c : Int) (r : List Int) : Prop where
 s0 : 0 <= s
 s1 : s <= q
 c0 : 0 <= c
 c1 : c < q
 l : r.length = q.toNat
 e : ∀ (i : Nat) x, r[i]? = some x -> if s = q then x = c * q + i else x = (i : Int) * q + (s * i + c) % q
section
variable {q s c s' c' : Int} {r r' : List Int}
theorem LnS.rise (hq : 0 < q) (h : LnS q s c r) : r.Pairwise (· < ·) := zq83x.mpr fun i j hi hj hij => by
 have e1 := h.e i _ (zq1x hi)
 have e2 := h.e j _ (zq1x hj)
 by_cases k : s = q
 ·rw [if_pos k] at e1 e2; omega
 ·rw [if_neg k] at e1 e2
  have a1 := zq42x (s * i + c) hq
  have a2 := zq41x (s * j + c) (show q ≠ 0 by omega)
  have := zq165x (show ((i : Int) + 1) <= j by omega) (zq118x hq)
  rw [zq110x] at this
  omega
theorem LnS.mem (hq : 0 < q) (h : LnS q s c r) {x : Int} (hx : x ∈ r) : 0 <= x /\ x < q * q /\ 0 <= x / q /\ x / q < q /\ (if s = q then x / q = c else x % q = (s * (x / q) + c) % q) := by
 obtain ⟨i, hi⟩ := zq51x hx
 have hil := (zq2x.mp hi).1
 have hl := h.l
 have e1 := h.e i x hi
 have hc0 := h.c0; have hc1 := h.c1
 have hmul : ∀ a : Int, 0 <= a -> a < q -> 0 <= a * q /\ a * q + q <= q * q := fun a h0 h1 => by
  have := Int.mul_nonneg h0 (zq118x hq)
  have := zq165x (show a + 1 <= q by omega) (zq118x hq)
  rw [zq110x] at this
  omega
 have hdiv : ∀ a b : Int, 0 <= b -> b < q -> (a * q + b) / q = a /\ (a * q + b) % q = b := fun a b h0 h1 => by
  refine ⟨?_, ?_⟩
  ·rw [Int.add_comm, Int.add_mul_ediv_right _ _ (by omega), Int.ediv_eq_zero_of_lt h0 h1]; omega
  ·rw [Int.add_comm, Int.add_mul_emod_self_right, Int.emod_eq_of_lt h0 h1]
 by_cases k : s = q
 ·rw [if_pos k] at e1 ⊢
  obtain ⟨d1, d2⟩ := hdiv c i (by omega) (by omega)
  have := hmul c hc0 hc1
  rw [e1, d1]
  exact ⟨by omega, by omega, by omega, by omega, rfl⟩
 ·rw [if_neg k] at e1 ⊢
  have a1 := zq42x (s * i + c) hq
  have a2 := zq41x (s * i + c) (show q ≠ 0 by omega)
  obtain ⟨d1, d2⟩ := hdiv i ((s * i + c) % q) a2 a1
  have := hmul i (by omega) (by omega)
  rw [e1, d1, d2]
  exact ⟨by omega, by omega, by omega, by omega, rfl⟩
theorem emod_sub {q a b : Int} (hq : 0 < q) (h : a % q = b % q) : (a - b) % q = 0 := zq193x (by
 have h1 := Int.emod_def a q
 have h2 := Int.emod_def b q
 refine ⟨a / q - b / q, ?_⟩
 rw [Int.mul_sub]
 omega)
theorem LnS.meet (hq : SmallP q) (h : LnS q s c r) (h' : LnS q s' c' r') (hne : ¬ (s = s' /\ c = c')) {x y : Int} (hxy : x ≠ y) (x1 : x ∈ r) (y1 : y ∈ r) (x2 : x ∈ r') (y2 : y ∈ r') : False := by
 have q0 : 0 < q := by rcases hq with rfl | rfl | rfl | rfl <;> decide
 obtain ⟨_, _, ax0, ax1, e1⟩ := h.mem q0 x1
 obtain ⟨_, _, ay0, ay1, e2⟩ := h.mem q0 y1
 obtain ⟨_, _, _, _, e3⟩ := h'.mem q0 x2
 obtain ⟨_, _, _, _, e4⟩ := h'.mem q0 y2
 have hx := zq166x x q
 have hy := zq166x y q
 have hc0 := h.c0; have hc1 := h.c1; have hc0' := h'.c0; have hc1' := h'.c1
 have hs0 := h.s0; have hs1 := h.s1; have hs0' := h'.s0; have hs1' := h'.s1
 have small : ∀ {d : Int}, -q < d -> d < q -> d % q = 0 -> d = 0 := fun {d} d0 d1 dz => by
  obtain ⟨k, hk⟩ := zq167x dz
  rcases Int.lt_trichotomy k 0 with z | z | z
  ·have : q * k <= q * (-1) := zq194x (by omega) (by omega)
   omega
  ·rw [z] at hk; omega
  ·have : q * 1 <= q * k := zq194x (by omega) (by omega)
   omega
 by_cases k : s = q
 ·rw [if_pos k] at e1 e2
  by_cases k' : s' = q
  ·rw [if_pos k'] at e3
   exact hne ⟨by omega, by omega⟩
  ·rw [if_neg k'] at e3 e4
   have ea : x / q = y / q := by omega
   rw [ea, <- e4] at e3
   exact hxy (by rw [<- hx, <- hy, ea, e3])
 ·rw [if_neg k] at e1 e2
  by_cases k' : s' = q
  ·rw [if_pos k'] at e3 e4
   have ea : x / q = y / q := by omega
   rw [ea, <- e2] at e1
   exact hxy (by rw [<- hx, <- hy, ea, e1])
  ·rw [if_neg k'] at e3 e4
   have f1 := emod_sub q0 (e1.symm.trans e3)
   have f2 := emod_sub q0 (e2.symm.trans e4)
   have f3 : ((s - s') * (x / q - y / q)) % q = 0 := by
    obtain ⟨u, hu⟩ := zq167x f1
    obtain ⟨v, hv⟩ := zq167x f2
    exact zq193x ⟨u - v, by grind⟩
   rcases small_mul hq f3 with z | z
   ·have hs := small (by omega) (by omega) z
    have es : s = s' := by omega
    rw [es, show s' * (x / q) + c - (s' * (x / q) + c') = c - c' by omega] at f1
    have hc := small (by omega) (by omega) f1
    exact hne ⟨es, by omega⟩
   ·have ha := small (by omega) (by omega) z
    have ea : x / q = y / q := by omega
    rw [ea, <- e2] at e1
    exact hxy (by rw [<- hx, <- hy, ea, e1])
structure LnL (q : Int) (R : List (List Int)) (T : List (Int × Int)) : Prop where
 l : R.length = T.length
 nd : T.Nodup
 e : ∀ (i : Nat) r t, R[i]? = some r -> T[i]? = some t -> LnS q t.1 t.2 r
theorem LnL.ap {R : List (List Int)} {T : List (Int × Int)} (hq : SmallP q) (h : LnL q R T) : Ap R := by
 have q0 : 0 < q := by rcases hq with rfl | rfl | rfl | rfl <;> decide
 have hat : ∀ (i : Nat) r, R[i]? = some r -> ∃ t, T[i]? = some t /\ LnS q t.1 t.2 r := fun i r e => by
  have hi : i < T.length := by have := (zq2x.mp e).1; have := h.l; omega
  exact ⟨_, zq1x hi, h.e i r _ e (zq1x hi)⟩
 refine (ap_s fun r hr => ?_).mpr fun c d a b x y hcd ea eb hxy h1 h2 h3 h4 => ?_
 ·obtain ⟨i, hi⟩ := zq51x hr
  obtain ⟨t, _, hl⟩ := hat i r hi
  exact hl.rise q0
 ·obtain ⟨t, et, hl⟩ := hat c a ea
  obtain ⟨t', et', hl'⟩ := hat d b eb
  refine hl.meet hq hl' (fun ⟨z1, z2⟩ => hcd ?_) hxy h1 h2 h3 h4
  have : t = t' := Prod.ext z1 z2
  subst this
  exact nd_at h.nd et et'
end
end L2
set_option maxRecDepth 100000
set_option maxHeartbeats 4000000
namespace L2
open PySem PySem.Spec PyProof.Rows
def deg (cs : List Prs) (i : Nat) : Nat := cs.countP fun prs => decide ((i : Int) ∈ prs.map (·.1))
def ApP (cs : List Prs) : Prop := cs.Pairwise fun a b => ∀ x y : Int, x ≠ y -> x ∈ a.map (·.1) -> y ∈ a.map (·.1) -> x ∈ b.map (·.1) -> y ∈ b.map (·.1) -> False
structure HNet (p n : Int) (cs : List Prs) (ws : List Int) : Prop where
 v : VNet p n cs
 a : ApP cs
 t : ∀ prs ∈ cs, dueSum prs (ws.map some) % p = 0
 l : ws.length = n.toNat
 r : ∀ x ∈ ws, 0 <= x /\ x < p
section
variable {p n : Int} {cs : List Prs} {ws xs O : List Int} {i : Nat}
theorem countP_one {α : Type} {Q : α -> Bool} : ∀ {l : List α}, l.Pairwise (fun a b => ¬ (Q a = true /\ Q b = true)) -> l.countP Q <= 1
  | [], _ => zq34x _
  | a :: l, h => by
    rw [zq128x] at h
    rw [zq93x]
    by_cases c : Q a = true
    · rw [if_pos c, zq164x.mpr fun b hb z => h.1 b hb ⟨c, z⟩]; exact zq3x _
    · rw [if_neg c]; exact countP_one h.2
theorem countP_or {α : Type} {Q R S : α -> Bool} : ∀ {l : List α}, (∀ a ∈ l, Q a = true -> R a = true \/ S a = true) -> l.countP Q <= l.countP R + l.countP S
  | [], _ => zq34x _
  | a :: l, h => by
    have ih := countP_or (l := l) fun b hb => h b (zq33x _ hb)
    have ha := h a zq27x
    rw [zq93x, zq93x, zq93x]
    by_cases c : Q a = true
    · rcases ha c with z | z
      · rw [if_pos c, if_pos z]; split <;> omega
      · rw [if_pos c, if_pos z]; split <;> omega
    · rw [if_neg c]; split <;> split <;> omega
def othB (i : Nat) (O : List Int) (prs : Prs) : Bool := decide ((i : Int) ∈ prs.map (·.1)) && O.any fun j => decide (j ≠ (i : Int)) && decide (j ∈ prs.map (·.1))
theorem oth_count (ha : ApP cs) : ∀ O : List Int, cs.countP (othB i O) <= (O.filter fun j => decide (j ≠ (i : Int))).length
  | [] => by
    rw [zq164x.mpr fun a _ z => by unfold othB at z; simp at z]; exact zq34x _
  | j :: O => by
    have ih := oth_count ha O
    by_cases c : j = (i : Int)
    · rw [zq168x (by simp [c])]
      have : cs.countP (othB i (j :: O)) = cs.countP (othB i O) := List.countP_congr fun a _ => by unfold othB; simp [c]
      omega
    · rw [zq131x (by simp [c]), zq36x]
      have h1 : cs.countP (othB i (j :: O)) <= cs.countP (fun a => decide ((i : Int) ∈ a.map (·.1)) && decide (j ∈ a.map (·.1))) + cs.countP (othB i O) := countP_or fun a _ z => by
        unfold othB at z ⊢
        rw [zq19x, zq59x, Bool.or_eq_true, zq19x] at z
        rcases z with ⟨z1, z2 | z2⟩
        · exact .inl (by rw [z1, z2.2]; rfl)
        · exact .inr (by rw [z1, z2]; rfl)
      have h2 : cs.countP (fun a => decide ((i : Int) ∈ a.map (·.1)) && decide (j ∈ a.map (·.1))) <= 1 := countP_one (ha.imp fun h ⟨z1, z2⟩ => by
        rw [zq19x, decide_eq_true_eq, decide_eq_true_eq] at z1 z2
        exact h i j (zq11x c) z1.1 z1.2 z2.1 z2.2)
      omega
theorem wr (h : HNet p n cs ws) (hi : i < n.toNat) : 0 <= ws.getD i 0 /\ ws.getD i 0 < p := by
 have := h.l
 exact h.r _ (by rw [zq23x, zq1x (by omega)]; exact zq40x _)
end
end L2
set_option maxRecDepth 100000
set_option maxHeartbeats 4000000
namespace L2
open PySem PySem.Spec PyProof.Rows
theorem LnL.app {q : Int} {R R' : List (List Int)} {T T' : List (Int × Int)} (h : LnL q R T) (h' : LnL q R' T') (hd : ∀ t ∈ T, t ∉ T') : LnL q (R ++ R') (T ++ T') := by
 refine ⟨by rw [zq22x, zq22x, h.l, h'.l], zq74x.mpr ⟨h.nd, h'.nd, fun a ha b hb z => hd a ha (z ▸ hb)⟩, fun i a t e1 e2 => ?_⟩
 have hl := h.l
 by_cases k : i < R.length
 ·rw [zq45x k] at e1
  rw [zq45x (by omega)] at e2
  exact h.e i a t e1 e2
 ·rw [zq48x (by omega)] at e1
  rw [zq48x (by omega), <- hl] at e2
  exact h'.e _ a t e1 e2
theorem LnL.block {q s : Int} {R : List (List Int)} (h : ∀ (t : Nat) r, R[t]? = some r -> LnS q s t r) : LnL q R ((List.range R.length).map fun (t : Nat) => (s, (t : Int))) := by
 refine ⟨by simp, zq106x.mpr (List.nodup_range.imp fun h z => h (by cases z; rfl)), fun i r t e1 e2 => ?_⟩
 rw [zq13x, zq185x (zq2x.mp e1).1] at e2
 cases e2
 exact h i r e1
theorem LnS.has {q s x : Int} {R : List (List Int)} (hq : 0 < q) (hl : R.length = q.toNat) (h : ∀ (t : Nat) r, R[t]? = some r -> LnS q s t r) (x0 : 0 <= x) (x1 : x < q * q) : ∃ r ∈ R, x ∈ r := by
 have d0 : 0 <= x / q := Int.ediv_nonneg x0 (by omega)
 have d1 : x / q < q := Int.ediv_lt_of_lt_mul hq x1
 have m0 := zq41x x (show q ≠ 0 by omega)
 have m1 := zq42x x hq
 have hx := zq166x x q
 by_cases k : s = q
 ·have ht : (x / q).toNat < R.length := by omega
  have hr := h (x / q).toNat _ (zq1x ht)
  refine ⟨_, zq40x ht, ?_⟩
  have hi : (x % q).toNat < R[(x / q).toNat].length := by rw [hr.l]; omega
  have e := hr.e (x % q).toNat _ (zq1x hi)
  rw [if_pos k] at e
  have : R[(x / q).toNat][(x % q).toNat] = x := by
   rw [e, zq92x d0, zq92x m0, Int.mul_comm]; exact hx
  exact zq8x ((zq1x hi).trans (congrArg some this))
 ·obtain ⟨c, hc⟩ : ∃ c, (x % q - s * (x / q)) % q = c := ⟨_, rfl⟩
  have c0 := zq41x (x % q - s * (x / q)) (show q ≠ 0 by omega)
  have c1 := zq42x (x % q - s * (x / q)) hq
  rw [hc] at c0 c1
  have ht : c.toNat < R.length := by omega
  have hr := h c.toNat _ (zq1x ht)
  refine ⟨_, zq40x ht, ?_⟩
  have hi : (x / q).toNat < R[c.toNat].length := by rw [hr.l]; omega
  have e := hr.e (x / q).toNat _ (zq1x hi)
  have em : (s * (x / q) + c) % q = x % q := by rw [<- hc, Int.add_emod_emod, show s * (x / q) + (x % q - s * (x / q)) = x % q by omega, Int.emod_emod]
  rw [if_neg k, zq92x d0, zq92x c0, em] at e
  exact zq8x ((zq1x hi).trans (congrArg some (by rw [e, Int.mul_comm]; exact hx)))
theorem countP_rel {α β : Type} {P : α -> Bool} {Q : β -> Bool} : ∀ {A : List α} {B : List β}, A.length = B.length -> (∀ (i : Nat) a b, A[i]? = some a -> B[i]? = some b -> P a = true -> Q b = true) -> A.countP P <= B.countP Q
  | [], _, _, _ => zq34x _
  | a :: A, [], h, _ => by cases h
  | a :: A, b :: B, h, g => by
    have ih := countP_rel (A := A) (B := B) (by simpa using h) fun i x y e1 e2 => g (i + 1) x y e1 e2
    have h0 := g 0 a b rfl rfl
    rw [zq93x, zq93x]
    by_cases c : P a = true
    · rw [if_pos c, if_pos (h0 c)]; omega
    · rw [if_neg c]; omega
section
variable {n : Int} {d : Nat} {cs : List Prs} {T lot g : List Int}
structure DNet (n : Int) (d : Nat) (cs : List Prs) : Prop where
 ck : CksOk n cs
 ap : ApP cs
 dg : ∀ i : Nat, (i : Int) < n -> d <= deg cs i
theorem DNet.out (h : DNet n d cs) (hT : LotOk n T) (hne : T ≠ []) (hl : T.length <= d) : holdB cs T = false := by
 obtain ⟨x, hx⟩ := List.exists_mem_of_ne_nil T hne
 obtain ⟨x0, x1⟩ := hT.rg x hx
 obtain ⟨i, rfl⟩ := zq145x x0
 have h1 := oth_count (i := i) h.ap T
 have h2 : (T.filter fun j => decide (j ≠ (i : Int))).length < T.length := by
  have a1 : (T.filter fun j => decide (j ≠ (i : Int))).length <= T.length := zq58x _ _
  have a2 : (T.filter fun j => decide (j ≠ (i : Int))).length ≠ T.length := fun z => by
   have := zq169x.mp z _ hx
   simp at this
  omega
 have h3 := h.dg i x1
 refine zq54x fun z => ?_
 have hh : holdB cs T = true := by cases e : holdB cs T with | true => rfl | false => exact absurd e z
 unfold holdB at hh
 rw [zq50x] at hh
 have h4 : deg cs i <= cs.countP (othB i T) := by
  unfold deg
  refine zq195x fun prs hp hm => ?_
  refine zq54x fun w => ?_
  have hm := of_decide_eq_true hm
  refine of_decide_eq_true (hh prs hp) ?_
  unfold inLot
  have ef : prs.filter (fun pr => decide (pr.1 ∈ T)) = prs.filter fun pr => pr.1 == (i : Int) := zq159x fun pr hpr => by
   rw [zq46x, decide_eq_true_eq, beq_iff_eq]
   constructor
   ·intro u
    refine zq54x fun v => w ?_
    unfold othB
    rw [zq19x, decide_eq_true_eq, zq144x]
    exact ⟨hm, pr.1, u, by rw [zq19x, decide_eq_true_eq, decide_eq_true_eq]; exact ⟨v, zq14x.mpr ⟨pr, hpr, rfl⟩⟩⟩
   ·intro u; rw [u]; exact hx
  rw [ef, <- List.countP_eq_length_filter]
  have := (h.ck prs hp).nd.count (a := (i : Int))
  rw [if_pos hm] at this
  rw [<- this, List.count, List.countP_map]
  rfl
 omega
theorem DNet.great (h : DNet n d cs) (hT : LotOk n lot) (hl : lot.length <= d) (hg : Great cs lot g) : g = [] := zq54x fun z => by
 obtain ⟨q, e⟩ := hg.sub
 have h1 := h.out (T := g) (hg.lot hT) z (by rw [e]; exact zq16x (zq58x _ _) hl)
 rw [hg.out] at h1
 cases h1
theorem DNet.more (h : DNet n d cs) (hT : LotOk n T) (hne : T ≠ []) (ho : holdB cs T = true) : d < T.length := Nat.lt_of_not_le fun z => by
 rw [h.out hT hne z] at ho
 cases ho
theorem DNet.none (h : DNet n d cs) {m : Nat} (hm : m <= d) : leastL n cs m = none := List.find?_eq_none.mpr fun row hr => by
 obtain ⟨h1, h2, h3⟩ := cmbs_mem hr
 rw [h.out h1.lot (fun z => by rw [z] at h2; simp at h2) (by omega)]
 exact zq7x
theorem DNet.lots (h : DNet n d cs) {m : Nat} (hm : m <= d) : ((cmb n m).filter fun row => holdB cs row) = if m = 0 then [[]] else [] := by
 by_cases c : m = 0
 ·subst c
  rw [if_pos rfl]
  show List.filter _ [[]] = _
  rw [zq131x (holdB_nil cs)]; rfl
 ·rw [if_neg c, zq154x]
  intro row hr
  obtain ⟨h1, h2⟩ := cmb_ok hr
  rw [h.out h1.lot (fun z => by rw [z] at h2; simp at h2; omega) (by omega)]
  exact zq7x
theorem DNet.perm {cs' : List Prs} (h : DNet n d cs) (p : cs'.Perm cs) : DNet n d cs' := by
 refine ⟨fun prs hp => h.ck prs (p.mem_iff.mp hp), (p.pairwise_iff fun {a b} w x y hxy x1 y1 x2 y2 => w x y hxy x2 y2 x1 y1).mpr h.ap, fun i hi => ?_⟩
 have := h.dg i hi
 unfold deg at this ⊢
 rwa [p.countP_eq]
theorem DNet.full (h : DNet n d cs) : DNet n d (cs.filter fun prs => !prs.isEmpty) := by
 refine ⟨fun prs hp => h.ck prs (zq5x.mp hp).1, h.ap.filter _, fun i hi => ?_⟩
 have := h.dg i hi
 unfold deg at this ⊢
 rw [List.countP_filter]
 refine zq16x this (zq195x fun prs _ hm => ?_)
 rw [hm, Bool.true_and]
 have hm := of_decide_eq_true hm
 cases prs with
 | nil => cases hm
 | cons a l => rfl
theorem DNet.ne (h : DNet n d cs) (hn : 1 <= n) (hd : 1 <= d) : cs ≠ [] := fun z => by
 have := h.dg 0 (by omega)
 rw [z] at this
 unfold deg at this
 simp at this
 omega
theorem DNet.apart (h : DNet n d cs) : Ap (rwsOf cs) := by
  intro c e a b hce ea eb _
  unfold rwsOf at ea eb
  rw [zq13x] at ea eb
  obtain ⟨pa, epa, rfl⟩ := zq66x.mp ea
  obtain ⟨pb, epb, rfl⟩ := zq66x.mp eb
  have hnd := (h.ck pb (zq8x epb)).nd
  refine Nat.lt_of_not_le fun z => ?_
  have hs : (shr (pa.map (·.1)) (pb.map (·.1))).Nodup := hnd.filter _
  have hm : ∀ x ∈ shr (pa.map (·.1)) (pb.map (·.1)), x ∈ pa.map (·.1) /\ x ∈ pb.map (·.1) := fun x hx => by
    obtain ⟨h1, h2⟩ := zq5x.mp hx
    exact ⟨of_decide_eq_true h2, h1⟩
  generalize shr (pa.map (·.1)) (pb.map (·.1)) = r at *
  match r, z, hs, hm with
  | x :: y :: r, _, hs, hm =>
    have hxy : x ≠ y := fun w => by subst w; simp at hs
    have mx := hm x (by simp)
    have my := hm y (by simp)
    obtain ⟨l1, e1⟩ := zq2x.mp epa
    obtain ⟨l2, e2⟩ := zq2x.mp epb
    have := zq83x.mp h.ap c e l1 l2 hce
    rw [e1, e2] at this
    exact this x y hxy mx.1 my.1 mx.2 my.2
theorem DNet.named {R : List (List Int)} {q : Int} {K : List Int} (hK : K.Nodup) (hq : ∀ x ∈ K, 0 <= x /\ x < q * q) (hRn : ∀ r ∈ R, r.Nodup) (hA : ApS R) (hd : ∀ x : Int, 0 <= x -> x < q * q -> d <= R.countP fun r => decide (x ∈ r)) (hl : cs.length = R.length)
  (hcs : ∀ (j : Nat) prs, cs[j]? = some prs -> ∃ r, R[j]? = some r /\ (prs.map (·.1)).Perm ((r.filter fun x => decide (x ∈ K)).map fun x => (K.idxOf x : Int))) : DNet (K.length : Int) d cs := by
 have inj : ∀ x ∈ K, ∀ y ∈ K, (K.idxOf x : Int) = K.idxOf y -> x = y := fun x hx y hy e => by
  have e : K.idxOf x = K.idxOf y := by omega
  have h1 := List.getElem_idxOf (zq170x hx)
  have h2 := List.getElem_idxOf (zq170x hy)
  rw [<- h1, <- h2]
  exact List.getElem_of_eq rfl _ |>.trans (by congr 1)
 have mem : ∀ (j : Nat) prs, cs[j]? = some prs -> ∃ r, R[j]? = some r /\ ∀ y : Int, y ∈ prs.map (·.1) ↔ ∃ x ∈ r, x ∈ K /\ (K.idxOf x : Int) = y := fun j prs e => by
  obtain ⟨r, er, hp⟩ := hcs j prs e
  refine ⟨r, er, fun y => ?_⟩
  rw [hp.mem_iff, zq14x]
  constructor
  ·rintro ⟨x, hx, e⟩
   obtain ⟨h1, h2⟩ := zq5x.mp hx
   exact ⟨x, h1, of_decide_eq_true h2, e⟩
  ·rintro ⟨x, h1, h2, e⟩
   exact ⟨x, zq5x.mpr ⟨h1, decide_eq_true h2⟩, e⟩
 refine ⟨fun prs hp => ?_, zq83x.mpr fun i j hi hj hij x y hxy x1 y1 x2 y2 => ?_, fun i hi => ?_⟩
 ·obtain ⟨j, hj⟩ := zq51x hp
  obtain ⟨r, er, hpm⟩ := hcs j prs hj
  refine ⟨hpm.nodup_iff.mpr ?_, fun y hy => ?_⟩
  ·refine zq106x.mpr (List.Pairwise.imp_of_mem (fun {a b} ha hb hab z => hab (inj a ?_ b ?_ z)) ((hRn r (zq8x er)).filter _))
   ·exact of_decide_eq_true (zq5x.mp ha).2
   ·exact of_decide_eq_true (zq5x.mp hb).2
  ·obtain ⟨x, hx, rfl⟩ := zq14x.mp (hpm.mem_iff.mp hy)
   have := zq170x (of_decide_eq_true (zq5x.mp hx).2)
   omega
 ·obtain ⟨r, er, hr⟩ := mem i cs[i] (zq1x hi)
  obtain ⟨r', er', hr'⟩ := mem j cs[j] (zq1x hj)
  obtain ⟨u, u1, u2, u3⟩ := (hr x).mp x1
  obtain ⟨v, v1, v2, v3⟩ := (hr y).mp y1
  obtain ⟨u', w1, w2, w3⟩ := (hr' x).mp x2
  obtain ⟨v', z1, z2, z3⟩ := (hr' y).mp y2
  have eu := inj u u2 u' w2 (u3.trans w3.symm)
  have ev := inj v v2 v' z2 (v3.trans z3.symm)
  subst eu ev
  exact hA i j r r' u v (by omega) er er' (fun z => hxy (by rw [<- u3, <- v3, z])) u1 v1 w1 z1
 ·have hi' : i < K.length := by omega
  obtain ⟨k0, k1⟩ := hq _ (zq40x hi')
  refine zq16x (hd K[i] k0 k1) (countP_rel hl.symm fun j r prs e1 e2 hm => ?_)
  obtain ⟨r', er', hr⟩ := mem j prs e2
  rw [e1] at er'
  cases er'
  refine decide_eq_true ((hr i).mpr ⟨K[i], of_decide_eq_true hm, zq40x hi', ?_⟩)
  rw [hK.idxOf_getElem]
end
end L2
set_option maxRecDepth 100000
set_option maxHeartbeats 8000000
namespace K38
open PySem L2
def top (i : Nat) : Stmt := PySem.Challenge.pw_fewchecks_k38_whole_few_never_hold_out.main.body.getD i (.Pass ⟨0, 0, 0, 0⟩)
abbrev sSeats : Stmt := top 1
abbrev sCrossed : Stmt := top 2
abbrev sHoldsOut : Stmt := top 4
abbrev sStands : Stmt := top 5
abbrev sGreatest : Stmt := top 6
abbrev sInsideOf : Stmt := top 7
abbrev sIsBare : Stmt := top 8
abbrev sWithout : Stmt := top 9
abbrev sBared : Stmt := top 10
abbrev sLotsOf : Stmt := top 11
abbrev sRowsOf : Stmt := top 12
abbrev sLeast : Stmt := top 13
abbrev sLawBag : Stmt := top 15
abbrev sLawDraw : Stmt := top 16
abbrev sLawPrimeFrom : Stmt := top 17
abbrev sLawPrime : Stmt := top 18
abbrev sLawFactor : Stmt := top 19
abbrev sLawTurned : Stmt := top 20
abbrev sLawCopy : Stmt := top 21
abbrev sLawAlike : Stmt := top 22
abbrev sLawDirection : Stmt := top 23
abbrev sLawLinesNet : Stmt := top 24
abbrev sLawLot : Stmt := top 25
abbrev sLawTold : Stmt := top 26
abbrev sLawPeeled : Stmt := top 27
abbrev sLawByRule : Stmt := top 28
abbrev sLawSays : Stmt := top 29
abbrev sLawAllPlaces : Stmt := top 30
abbrev sLaw : Stmt := top 31
local macro_rules | `(tactic| walk_at "d0") => `(tactic| first | omega | assumption | decide | (unfold Sm at *; omega) | (unfold CMul; omega) | (unfold CPow; decide) | (unfold CPow; omega))
local macro_rules | `(tactic| walk_at "ds") => `(tactic| ((try dsimp only); first | walk_at "d0" | (refine And.intro ?_ ?_ <;> walk_at "d0") | (refine Or.inl ?_; walk_at "d0") | (refine Or.inr (And.intro ?_ ?_) <;> walk_at "d0")))
local macro_rules | `(tactic| walk_at "s1") => `(tactic| with_reducible first
 | refine R.seq ?_ | refine R.asg ?_ | refine R.setC ?_ | refine R.ifS ?_ | refine R.ret ?_ | refine R.next ?_ | refine R.c ?_ | refine R.op ?_ | refine R.test ?_ | refine R.bl ?_ | refine R.tru ?_
 | refine R.and ?_ | refine R.notV ?_ | refine R.ifE ?_ | refine R.cb ?_ | refine R.call ?_ | refine R.nil ?_ | refine R.cints ?_ | refine R.cons ?_
 | refine R.lst ?_ | refine R.sl ?_ | refine R.noPart ?_ | refine R.part ?_ | refine R.bm0 ?_ | refine R.bm ?_ | refine R.tyInt ?_ | refine R.gname ?_ | refine R.gsub ?_ | refine R.gcons ?_ | refine R.gnil ?_ | refine R.noTest ?_
 | refine R.rI0 ?_ | refine R.eqI ?_ | refine R.neI ?_ | refine R.eqNI ?_ | refine R.eqIN ?_ | refine R.isI ?_ | refine R.notI ?_ | refine R.notN ?_ | refine R.intB ?_ | refine R.bits ?_
 | refine iteT ?_ | refine iteF ?_ | refine R.nilE ?_ | refine R.isiII ?_ | refine R.isiIB ?_ | refine R.rng1 ?_ | refine R.rng2 ?_ | refine R.iL ?_ | refine R.for_ ?_ | refine R.comp ?_)
local macro_rules | `(tactic| walk_at "st") => `(tactic| repeat (first
 | walk_at "s1"
 | ((with_reducible refine' R.var ?h0 ?_); (case h0 => rfl))
 | ((with_reducible refine' R.rI ?h1 ?_); (case h1 => walk_at "ds"))
 | ((with_reducible refine' R.ixS (o := .lst []) ?h1 ?_); (case h1 => rfl))
 | ((with_reducible refine' R.ixM ?h0 ?h1 ?_); (case h0 => assumption); (case h1 => rfl))
 | ((with_reducible refine' R.ixTM ?h0 ?h1 ?_); (case h0 => assumption); (case h1 => rfl))
 | ((with_reducible refine' R.setS ?h1 ?_); (case h1 => rfl))
 | ((with_reducible refine' R.setM ?h0 ?h1 ?_); (case h0 => assumption); (case h1 => rfl))
 | ((with_reducible refine' R.lenM ?h0 ?_); (case h0 => assumption))
 | ((with_reducible refine' R.lenL ?h0 ?_); (case h0 => assumption))
 | ((with_reducible refine' R.rng1I ?h0 ?h1 ?_); (case h0 => walk_at "ds"); (case h1 => walk_at "ds"))
 | ((with_reducible refine' R.rng2I ?h0 ?_); (case h0 => walk_at "ds"))
 | ((with_reducible refine' R.iL1 ?h0 ?_); (case h0 => assumption))
 | ((with_reducible refine' R.iteP ?h0 ?_); (case h0 => first | exact R.dT (by omega) | exact R.dTn (by omega) | decide))
 | ((with_reducible refine' R.iteN ?h0 ?_); (case h0 => first | exact R.dF (by omega) | exact R.dFn (by omega) | decide))
 | (with_reducible refine R.abs1 ?_) | (with_reducible refine R.partI ?_)))
local macro_rules | `(tactic| walk_at "fv") => `(tactic| first | exact Or.inl rfl | exact Or.inr (Or.inl rfl) | exact Or.inr (Or.inr (Or.inl rfl)) | exact Or.inr (Or.inr (Or.inr (Or.inl rfl))) | exact Or.inr (Or.inr (Or.inr (Or.inr rfl))))
local macro_rules | `(tactic| walk_at "d1") => `(tactic| with_reducible first
 | refine Sv.seq ?_ | refine Sv.asgNil ?_ | refine Sv.asg ?_ | refine Sv.setCF ?_ | refine Sv.ifS ?_ | refine Sv.ret ?_ | refine Sv.next ?_ | refine Sv.retN ?_
 | refine Ev.int ?_ | refine Ev.bl ?_ | refine Ev.non ?_ | refine Ev.rI0 ?_ | refine Ev.rB0 ?_ | refine Ev.rI ?_ | refine Ev.rU ?_ | refine Ev.eq ?_ | refine Ev.ne ?_ | refine Ev.is ?_ | refine Ev.isB ?_ | refine Ev.isNotB ?_ | refine Ev.isNot ?_ | refine Ev.eqD ?_ | refine Ev.inI ?_
 | refine Ev.andV ?_ | refine Ev.orV ?_ | refine Ev.notV ?_ | refine Ev.ifE ?_ | refine Tv.test ?_ | refine Tv.and ?_ | refine Tv.or ?_ | refine Tv.not ?_ | refine Tv.noTest ?_ | refine Tv.truB ?_
 | refine Ev.tupF ?_ | refine Ev.lst ?_ | refine Av.nil ?_ | refine Av.cons ?_ | refine Av.cints ?_ | refine Ov.none ?_ | refine Ov.some ?_ | refine Ev.min2 ?_ | refine Ev.max2 ?_ | refine Ev.intB ?_
 | refine R.di ?_ | refine R.db ?_ | refine R.dl ?_ | refine R.dt ?_ | refine R.dll ?_ | refine R.dlt ?_ | refine R.eqii ?_ | refine R.eqni ?_ | refine R.eqin ?_ | refine R.eqnn ?_ | refine R.eqbb ?_
 | refine Gv.nameI ?_ | refine Gv.nameB ?_ | refine Gv.nameN ?_ | refine Gv.nameT ?_ | refine Gv.nameF ?_ | refine Gv.snil ?_ | refine Gv.scons ?_ | refine iteT ?_ | refine iteF ?_)
local macro_rules | `(tactic| walk_at "dt") => `(tactic| repeat (first
 | ((with_reducible refine' Sv.retOwn ?h0 ?_); (case h0 => rfl))
 | ((with_reducible refine' Sv.setOwn ?h0 ?_); (case h0 => rfl))
 | walk_at "d1"
 | ((with_reducible refine' Ev.var ?h0 ?_); (case h0 => rfl))
 | ((with_reducible refine' Ev.draw ?h0 ?_); (case h0 => rfl))
 | ((with_reducible refine' Ev.prime ?h0 ?_); (case h0 => rfl))
 | ((with_reducible refine' Ev.ixOwn ?h0 ?_); (case h0 => rfl))
 | ((with_reducible refine' Ev.lenOwn ?h0 ?_); (case h0 => rfl))
 | ((with_reducible refine' Ev.listOwn ?h0 ?_); (case h0 => rfl))
 | ((with_reducible refine' Ev.slOwn ?h0 ?_); (case h0 => rfl))
 | ((with_reducible refine' Sv.append ?h0 ?_); (case h0 => rfl))
 | ((with_reducible refine' Sv.setOwn ?h0 ?_); (case h0 => rfl))
 | ((with_reducible refine' Sv.retOwn ?h0 ?_); (case h0 => rfl))
 | ((with_reducible refine' Gv.tup ?h0 ?_); (case h0 => rfl))
 | ((with_reducible refine' R.at_ ?h0 ?_); (case h0 => first | rfl | assumption))
 | (with_reducible refine Ev.ixL ?_) | (with_reducible refine Ev.ixT ?_) | (with_reducible refine Ev.listOf ?_) | (with_reducible refine Ev.sl ?_) | (with_reducible refine Ev.cat ?_) | (with_reducible refine Ev.lenS ?_)
 | ((with_reducible refine' Ev.isi ?h0 ?_); (case h0 => walk_at "fv"))
 | ((with_reducible refine' Ev.isi2 ?h0 ?h1 ?_); (case h0 => walk_at "fv"); (case h1 => walk_at "fv"))
 | (with_reducible refine Ev.all ?_) | (with_reducible refine Ev.ixS ?_)
 | ((with_reducible refine' R.lnil ?_))
 | ((with_reducible refine' R.iteP ?h0 ?_); (case h0 => first | exact R.dT (by omega) | exact R.dTn (by omega) | rfl))
 | ((with_reducible refine' R.iteN ?h0 ?_); (case h0 => first | exact R.dF (by omega) | exact R.dFn (by omega) | exact zq7x))
 | ((with_reducible refine' R.cnd ?h0 ?_); (case h0 => first | walk_at "ds" | exact Nat.le_of_ble_eq_true rfl))))
local macro_rules | `(tactic| walk_at "wk") => `(tactic| repeat (first | exact Wk.nil | apply Wk.no | apply Wk.eq))
section
variable {P : Program} {w : World} {K : PySem.W.Frag} {mg : Str -> Option Value} {base : Heap} {f : Addr} {fd : FuncData}
theorem scSeats : FnScope ["net", "told", "c", "pairs", "place", "factor"] ["net"] (defScope sSeats) := ⟨rfl, rfl, rfl, by decide +kernel, rfl, by decide +kernel, by decide +kernel⟩
theorem ok_seats (F : Fun K "seats" "seats" sSeats f fd)   (m_enumerate : mg "enumerate" = none) (m_range : mg "range" = none)  :
  FnOk P w K mg base CX0 1 f fd ["net"] spSeats := by
 refine F.ok scSeats (fun vs H Q E h => ?_) (fun cdv A outer s H vs Q E hr h => ?_)
 ·obtain ⟨nb, p, n, cs, v, rfl, hrest⟩ := h
  rfl
 obtain ⟨nb, p, n, cs, v, rfl, hrest⟩ := h
 refine ⟨_, (@pss_cons _ _ _ _ _ (ps_setCC (i := 1) scSeats.nd rfl rfl (CompOkC.of (show compOkBC (defScope sSeats) ["net", "told", "c", "pairs", "place", "factor"] _ ["place"] [none] = true by decide +kernel)) (@pi_range1 _ _ _ _ _ _ rfl m_range (@pa_cons _ _ _ _ _ (@pe_ix _ _ _ _ _ _ (rIxT K) ix_tup (pv 0) pe_int (fun _ _ => rfl)) pa_nil rfl) (by rfl)) (fun _ _ _ _ => ⟨(pg_name (i := 0) (by show List.Nodup (["place"] : List Str); decide +kernel) rfl (Or.inl rfl)), pts_nil, (@pe_lst _ _ _ _ pa_nil)⟩)) (@pss_cons _ _ _ _ _ (@ps_for _ _ _ _ _ _ _ _ zq24x rfl (@pi_enum _ (K) _ _ _ _ _ _ _ rfl rfl m_enumerate (@pe_ix _ _ _ _ _ _ (rIxT K) ix_tup (pv 0) pe_int (fun _ _ => rfl)) (by rfl)) (@pg_tupM _ (K) _ _ _ (2) _ rfl rfl (@pgs_cons _ _ _ _ _ (pg_name (i := 2) scSeats.nd rfl (Or.inl rfl)) (@pgs_cons _ _ _ _ _ (pg_name (i := 3) scSeats.nd rfl (Or.inl rfl)) pgs_nil (by rfl)) (by rfl)) (by rfl) (by rfl)) (@pss_one _ _ _ (@ps_for _ _ _ _ _ _ _ _ zq24x rfl (pi_listK (K := K) rfl (pv 3)) (@pg_tupM _ (K) _ _ _ (2) _ rfl rfl (@pgs_cons _ _ _ _ _ (pg_name (i := 4) scSeats.nd rfl (Or.inl rfl)) (@pgs_cons _ _ _ _ _ (pg_name (i := 5) scSeats.nd rfl (Or.inl rfl)) pgs_nil (by rfl)) (by rfl)) (by rfl) (by rfl)) (@pss_one _ _ _ (@ps_expr _ _ _ _ (pe_bm zq76x zq171x zq172x mt_append (@pe_ix _ _ _ _ _ _ (rIxL K) ix_list (pv 1) (pv 4) (fun _ _ => rfl)) (@pa_cons _ _ _ _ _ (pv 2) pa_nil rfl)) (by rfl))) (by intro _; rfl))) (by intro _; rfl)) (@pss_one _ _ _ (@ps_ret _ _ _ _ (pv 1))))), ?_⟩
 exact seats_run ⟨nb, p, n, cs, v, rfl, hrest⟩
def F_crossed : DF := fun ds Φ => ∃ (p n : Int) (cs : List Prs), ds = [netD p n cs] /\ cs.length <= 400 /\ (∀ prs ∈ cs, (prs.map (·.1)).Nodup /\ prs.length <= 1000) /\ ∀ (o : Crs) (f : Bool), IsCr (rwsOf cs) o -> Φ f (crD o)
theorem mono_crossed : MonoF F_crossed := by
 intro ds Φ Ψ hm z
 obtain ⟨p, n, cs, e, h1, h2, q⟩ := hm
 exact ⟨p, n, cs, e, h1, h2, fun o f h => z _ _ (q o f h)⟩
theorem scCrossed : FnScope ["net", "checks", "c", "own", "d", "shared"] ["net"] (defScope sCrossed) := ⟨rfl, rfl, rfl, by decide +kernel, rfl, by decide +kernel, by decide +kernel⟩
theorem ok_crossed (F : Fun K "crossed" "crossed" sCrossed f fd)   (m_range : mg "range" = none) (m_len : mg "len" = none) (m_dict : mg "dict" = none)  :
  FnOk P w K mg base CX0 1 f fd ["net"] (spD 1 F_crossed) := by
 refine F.ok scCrossed (fun vs H Q E h => h.1) (fun cdv A outer s H vs Q E hr h => ?_)
 obtain ⟨nb, ds, Φ, hlive, hds, hΦ, hF⟩ := spD_out h
 obtain ⟨p, n, cs, rfl, hcl, hpr, q⟩ := hF
 refine ⟨_, (@pss_cons _ _ _ _ _ (@ps_set _ _ (1) _ _ _ _ scCrossed.nd rfl (Or.inl rfl) (@pe_ix _ _ _ _ _ _ (rIxT K) ix_tup (pv 0) pe_int (fun _ _ => rfl)) (by rfl) (by first | exact .inl rfl | exact .inr rfl | assumption)) (@pss_cons _ _ _ _ _ (@ps_for _ _ _ _ _ _ _ _ zq24x rfl (@pi_range1 _ _ _ _ _ _ rfl m_range (@pa_cons _ _ _ _ _ (@pe_callB _ _ _ _ _ _ _ _ (rLen K) call_lenM rfl m_len zq32x (@pa_cons _ _ _ _ _ (pv 1) pa_nil rfl) (by decide) (by decide) (by rfl) (by rfl)) pa_nil rfl) (by rfl)) (pg_name (i := 2) scCrossed.nd rfl (Or.inl rfl)) (@pss_cons _ _ _ _ _ (@ps_set _ _ (3) _ _ _ _ scCrossed.nd rfl (Or.inr rfl) (@pe_callTy _ _ _ _ _ _ _ _ (rDictL) (call_dictL rfl) rfl m_dict zq196x (@pa_cons _ _ _ _ _ (pe_lcompC (CompOkC.of (show compOkBC (defScope sCrossed) ["net", "checks", "c", "own", "d", "shared"] _ ["place", "factor"] [none, none] = true by decide +kernel)) (pi_listK (K := K) rfl (@pe_ix _ _ _ _ _ _ (rIxL K) ix_list (pv 1) (pv 2) (fun _ _ => rfl))) (fun _ _ _ _ => ⟨(@pg_tupM _ (K) _ _ _ (2) _ rfl rfl (@pgs_cons _ _ _ _ _ (pg_name (i := 0) (by show List.Nodup (["place", "factor"] : List Str); decide +kernel) rfl (Or.inl rfl)) (@pgs_cons _ _ _ _ _ (pg_name (i := 1) (by show List.Nodup (["place", "factor"] : List Str); decide +kernel) rfl (Or.inl rfl)) pgs_nil (by rfl)) (by rfl)) (by rfl) (by rfl)), pts_nil, (@pe_tup _ _ _ _ _ (@pa_cons _ _ _ _ _ (pv 0) (@pa_cons _ _ _ _ _ pe_bl pa_nil rfl) rfl))⟩)) pa_nil rfl) (by decide) (by decide) (by rfl) (by rfl)) (by rfl) (by first | exact .inl rfl | exact .inr rfl | assumption)) (@pss_one _ _ _ (@ps_for _ _ _ _ _ _ _ _ zq24x rfl (@pi_range2 _ _ _ _ _ _ _ rfl m_range (@pa_cons _ _ _ _ _ (@pe_op _ _ _ _ _ _ _ _ op_add (pv 2) pe_int) (@pa_cons _ _ _ _ _ (@pe_callB _ _ _ _ _ _ _ _ (rLen K) call_lenM rfl m_len zq32x (@pa_cons _ _ _ _ _ (pv 1) pa_nil rfl) (by decide) (by decide) (by rfl) (by rfl)) pa_nil rfl) rfl) (by rfl) (by rfl)) (pg_name (i := 4) scCrossed.nd rfl (Or.inl rfl)) (@pss_cons _ _ _ _ _ (ps_setCC (i := 5) scCrossed.nd rfl rfl (CompOkC.of (show compOkBC (defScope sCrossed) ["net", "checks", "c", "own", "d", "shared"] _ ["place", "factor", "own"] [none, none, some 3] = true by decide +kernel)) (pi_listK (K := K) rfl (@pe_ix _ _ _ _ _ _ (rIxL K) ix_list (pv 1) (pv 4) (fun _ _ => rfl))) (fun _ _ _ _ => ⟨(@pg_tupM _ (K) _ _ _ (2) _ rfl rfl (@pgs_cons _ _ _ _ _ (pg_name (i := 0) (by show List.Nodup (["place", "factor", "own"] : List Str); decide +kernel) rfl (Or.inl rfl)) (@pgs_cons _ _ _ _ _ (pg_name (i := 1) (by show List.Nodup (["place", "factor", "own"] : List Str); decide +kernel) rfl (Or.inl rfl)) pgs_nil (by rfl)) (by rfl)) (by rfl) (by rfl)), (pts_one (@pt_cmpR _ _ _ _ _ _ _ _ (op_inD hr.units) (pv 0) (pv 2) (by with_unfolding_all rfl))), (pv 0)⟩)) (@pss_one _ _ _ (@ps_if _ _ _ _ _ _ _ _ (@pt_cmpR _ _ _ _ _ _ _ _ op_ge (@pe_callB _ _ _ _ _ _ _ _ (rLen K) call_lenM rfl m_len zq32x (@pa_cons _ _ _ _ _ (pv 5) pa_nil rfl) (by decide) (by decide) (by rfl) (by rfl)) pe_int (nomark _)) (@pss_one _ _ _ (@ps_ret _ _ _ _ (@pe_tup _ _ _ _ _ (@pa_cons _ _ _ _ _ (pv 2) (@pa_cons _ _ _ _ _ (pv 4) (@pa_cons _ _ _ _ _ (@pe_ix _ _ _ _ _ _ (rIxL K) ix_list (pv 5) pe_int (fun _ _ => rfl)) (@pa_cons _ _ _ _ _ (@pe_ix _ _ _ _ _ _ (rIxL K) ix_list (pv 5) pe_int (fun _ _ => rfl)) pa_nil rfl) rfl) rfl) rfl)))) pss_nil))) (by intro _; rfl)))) (by intro _; rfl)) (@pss_one _ _ _ (@ps_ret _ _ _ _ pe_non)))), ?_⟩
 refine Sv.enterD hlive hds hΦ (ρ := [.d false _, .no, .no, .no, .no, .no]) rfl ?_
 clear hΦ hds
 have hcm : (cs.map prsD).length = cs.length := zq0x ..
 have hat : ∀ i : Nat, i < cs.length -> atI (cs.map prsD) (i : Int) = some (prsD (cs.getD i [])) := fun i hi => atI_some (by omega) (by rw [show ((i : Int)).toNat = i by omega, zq13x, zq23x, zq1x hi]; rfl)
 have hgt : ∀ i : Nat, i < cs.length -> cs[i]? = some (cs.getD i []) := fun i hi => by rw [zq23x, zq1x hi]; rfl
 walk_at "dt"
 refine Sv.forR1 ?_
 walk_at "dt"
 refine ⟨fun i ρ => ∃ (x2 x3 x4 x5 : Sl), NoC (rwsOf cs) (fun c d => c < i) /\ ρ = [.d false (netD p n cs), .d false (.list (cs.map prsD)), x2, x3, x4, x5], ⟨_, _, _, _, fun c d a b _ _ _ z => by omega, rfl⟩, ?_, ?_⟩
 ·rintro i d ρ ⟨hi, rfl⟩ ⟨x2, x3, x4, x5, hno, rfl⟩
  have hi' : i < cs.length := by omega
  have hati := hat i hi'
  have hgti := hgt i hi'
  obtain ⟨P, hP⟩ : ∃ P, cs.getD i [] = P := ⟨_, rfl⟩
  rw [hP] at hati hgti
  obtain ⟨hPn, hPl⟩ := hpr P (zq8x hgti)
  have hPm : (P.map pairD).length = P.length := zq0x ..
  have hati' : atI (cs.map prsD) (0 + (i : Int)) = some (prsD P) := by rw [show (0 + (i : Int)) = i by omega]; exact hati
  refine Gv.nameI ?_
  refine Sv.seq ?_
  refine Sv.asgK (EvK.dictL ?_)
  refine EvN.ev (EvN.compL (by decide) rfl ?_)
  walk_at "dt"
  refine fun v => ⟨true, fun j ds => ds = (insK ((P.map (·.1)).take j)).map itD, rfl, ?_, ?_⟩
  ·rintro j d ds hd hl' rfl
   obtain ⟨pr, hx, rfl⟩ := map_at hd
   walk_at "dt"
   refine ⟨by walk_at "wk", ?_⟩
   walk_at "dt"
   refine ⟨fun _ => rfl, ?_⟩
   show _ = (insK ((P.map (·.1)).take (j + 1))).map itD
   unfold insK
   rw [take_snoc (x := pr.1) (by rw [zq13x, hx]; rfl), zq6x, zq6x]
   rfl
  rintro ds hl' rfl
  rw [show (P.map pairD).length = (P.map (·.1)).length by rw [zq0x, zq0x], zq20x]
  refine ⟨insK (P.map (·.1)), rfl, by unfold insK; rw [zq0x, zq0x]; omega, ?_⟩
  rw [insK_puts hPn]
  intro A3
  refine Sv.forR2 ?_
  walk_at "dt"
  generalize (true || scAll (List.map itD (insK (List.map (fun x => x.fst) P)))) = f3
  refine ⟨fun j ρ => ∃ (x4 x5 : Sl), NoC (rwsOf cs) (fun c d => c < i \/ (c = i /\ d < i + 1 + j)) /\ ρ = [.d false (netD p n cs), .d false (.list (cs.map prsD)), .d true (.int (0 + (i : Int))), .dic A3 f3 (insK (P.map (·.1))), x4, x5], ⟨_, _, fun c d a b hcd ha hb z => hno c d a b hcd ha hb (by omega), rfl⟩, ?_, ?_⟩
  ·rintro j d ρ ⟨hj, rfl⟩ ⟨x4, x5, hno2, rfl⟩
   have hj' : i + 1 + j < cs.length := by omega
   have hatj := hat (i + 1 + j) hj'
   have hgtj := hgt (i + 1 + j) hj'
   obtain ⟨Q, hQ⟩ : ∃ Q, cs.getD (i + 1 + j) [] = Q := ⟨_, rfl⟩
   rw [hQ] at hatj hgtj
   obtain ⟨hQn, hQl⟩ := hpr Q (zq8x hgtj)
   have hQm : (Q.map pairD).length = Q.length := zq0x ..
   have hatj' : atI (cs.map prsD) (0 + (i : Int) + 1 + (j : Int)) = some (prsD Q) := by rw [show (0 + (i : Int) + 1 + (j : Int)) = ((i + 1 + j : Nat) : Int) by omega]; exact hatj
   refine Gv.nameI ?_
   refine Sv.seq ?_
   refine Sv.setCF ?_
   refine EvN.ev (EvN.compL (by decide) rfl ?_)
   walk_at "dt"
   refine fun v => ⟨true, fun m ds => ds = (((Q.take m).map (·.1)).filter fun x => decide (x ∈ P.map (·.1))).map .int, rfl, ?_, ?_⟩
   ·rintro m d ds hd hl' rfl
    obtain ⟨pr, hpr', rfl⟩ := map_at hd
    walk_at "dt"
    refine ⟨by walk_at "wk", ?_⟩
    refine Tv.test ?_
    refine Ev.inDic rfl ?_
    walk_at "dt"
    rw [insK_has]
    by_cases c : pr.1 ∈ P.map (·.1)
    ·rw [if_pos (by rw [decide_eq_true c]; rfl)]
     walk_at "dt"
     show _ = List.map _ (List.filter _ ((Q.take (m + 1)).map (·.1)))
     rw [take_snoc hpr', zq6x, zq75x, zq6x, List.map_singleton, zq131x (by rw [decide_eq_true c]), zq91x]
     rfl
    ·rw [if_neg (by rw [decide_eq_false c]; decide)]
     show _ = List.map _ (List.filter _ ((Q.take (m + 1)).map (·.1)))
     rw [take_snoc hpr', zq6x, zq75x, zq6x, List.map_singleton, zq168x (by rw [decide_eq_false c]; decide), zq91x, zq77x, zq39x]
   rintro ds hl' rfl
   rw [hQm, zq20x]
   obtain ⟨Sh, hSh⟩ : ∃ Sh, shr (P.map (·.1)) (Q.map (·.1)) = Sh := ⟨_, rfl⟩
   have eS : ((Q.map (·.1)).filter fun x => decide (x ∈ P.map (·.1))) = Sh := hSh
   rw [eS]
   walk_at "dt"
   rw [zq0x]
   have hic := rwsOf_at hgti
   have hjc := rwsOf_at hgtj
   by_cases c2 : 2 <= Sh.length
   ·rw [if_pos (by simp; omega)]
    obtain ⟨x, y, r, eSh⟩ : ∃ x y r, Sh = x :: y :: r := by
     match Sh, c2 with
     | x :: y :: r, _ => exact ⟨x, y, r, rfl⟩
    subst eSh
    have z0 : atI ((x :: y :: r).map PyData.int) 0 = some (.int x) := atI_some (by omega) rfl
    have z1 : atI ((x :: y :: r).map PyData.int) 1 = some (.int y) := atI_some (by omega) rfl
    walk_at "dt"
    have e1 : (0 + (i : Int)) = i := by omega
    have e2 : (0 + (i : Int) + 1 + (j : Int)) = ((i + 1 + j : Nat) : Int) := by omega
    rw [e2, e1]
    exact q (some (((i : Nat) : Int), ((i + 1 + j : Nat) : Int), x, y)) _ (.inr ⟨i, i + 1 + j, _, _, x, y, r, by omega, hic, hjc, hSh, rfl, hno2⟩)
   ·rw [if_neg (by simp; omega)]
    refine Sv.next ?_
    refine ⟨_, _, fun c d a b hcd ha hb z => ?_, rfl⟩
    by_cases c3 : c = i /\ d = i + 1 + j
    ·obtain ⟨rfl, rfl⟩ := c3
     rw [hic] at ha; cases ha
     rw [hjc] at hb; cases hb
     rw [hSh]; omega
    ·exact hno2 c d a b hcd ha hb (by omega)
  ·rintro ρ ⟨x4, x5, hno2, rfl⟩
   refine ⟨_, _, _, _, fun c d a b hcd ha hb z => hno2 c d a b hcd ha hb ?_, rfl⟩
   have hd : d < cs.length := by have := (zq2x.mp hb).1; unfold rwsOf at this; rwa [zq0x] at this
   omega
 ·rintro ρ ⟨x2, x3, x4, x5, hno, rfl⟩
  walk_at "dt"
  refine q none _ (.inl ⟨rfl, fun c d a b hcd ha hb _ => hno c d a b hcd ha hb ?_⟩)
  have hd : c < cs.length := by have := (zq2x.mp ha).1; unfold rwsOf at this; rwa [zq0x] at this
  omega
def F_stands : DF := fun ds Φ => ∃ (rows : List (List Int)) (lot : List Int), ds = [.list (rows.map rowD), .list (lot.map .int)] /\ (∀ p ∈ lot, 0 <= p /\ p < rows.length) /\ (∀ r ∈ rows, ∀ c ∈ r, 0 <= c /\ c < (1000 : Nat)) /\ Φ true (.bool (noOne (Lr rows lot)))
theorem mono_stands : MonoF F_stands := by
 intro ds Φ Ψ hm z
 obtain ⟨rows, lot, e, h1, h2, q⟩ := hm
 exact ⟨rows, lot, e, h1, h2, z _ _ q⟩
theorem Lr_mem {rows : List (List Int)} {lot : List Int} {c : Int} (h : c ∈ Lr rows lot) : ∃ r ∈ rows, c ∈ r := by
 obtain ⟨p, _, h⟩ := zq129x.mp h
 rw [zq23x] at h
 cases e : rows[p.toNat]? with
 | none => rw [e] at h; simp at h
 | some r => rw [e] at h; exact ⟨r, zq8x e, h⟩
theorem scStands : FnScope ["seated", "lot", "counts", "place", "c"] ["seated", "lot"] (defScope sStands) := ⟨rfl, rfl, rfl, by decide +kernel, rfl, by decide +kernel, by decide +kernel⟩
theorem ok_stands (F : Fun K "stands" "stands" sStands f fd)   (m_list : mg "list" = none)  :
  FnOk P w K mg base CX0 1 f fd ["seated", "lot"] (spD 2 F_stands) := by
 refine F.ok scStands (fun vs H Q E h => h.1) (fun cdv A outer s H vs Q E hr h => ?_)
 obtain ⟨nb, ds, Φ, hlive, hds, hΦ, hF⟩ := spD_out h
 obtain ⟨rows, lot, rfl, hp, hc, q⟩ := hF
 refine ⟨_, (@pss_cons _ _ _ _ _ (@ps_set _ _ (2) _ _ _ _ scStands.nd rfl (Or.inl rfl) pe_dnewK (by rfl) (by first | exact .inl rfl | exact .inr rfl | assumption)) (@pss_cons _ _ _ _ _ (@ps_for _ _ _ _ _ _ _ _ zq24x rfl (pi_listK (K := K) rfl (pv 1)) (pg_name (i := 3) scStands.nd rfl (Or.inl rfl)) (@pss_one _ _ _ (@ps_for _ _ _ _ _ _ _ _ zq24x rfl (pi_listK (K := K) rfl (@pe_ix _ _ _ _ _ _ (rIxL K) ix_list (pv 0) (pv 3) (fun _ _ => rfl))) (pg_name (i := 4) scStands.nd rfl (Or.inl rfl)) (@pss_one _ _ _ (@ps_asg _ _ _ _ _ _ (@pe_op _ _ _ _ _ _ _ _ op_add (pe_bm zq132x zq184x PySem.F.type_dict_get mt_get2 (pv 2) (@pa_cons _ _ _ _ _ (pv 4) (@pa_cons _ _ _ _ _ pe_int pa_nil rfl) rfl)) pe_int) (pg_sub (pv 2) (pv 4) set_dict) (by rfl) (by rfl) (by rfl))) (by intro _; rfl))) (by intro _; rfl)) (@pss_one _ _ _ (@ps_ret _ _ _ _ (pe_cmpR (op_notInK (K := K) (by rfl)) pe_int (@pe_callTy _ _ _ _ _ _ _ _ (rListV) (call_listV rfl) rfl m_list zq30x (@pa_cons _ _ _ _ _ (pe_bm0 zq132x zq186x PySem.F.type_dict_values mt_values (pv 2)) pa_nil rfl) (by decide) (by decide) (by rfl) (by rfl)) (by with_unfolding_all rfl)))))), ?_⟩
 refine Sv.enterD hlive hds hΦ (ρ := [.d false _, .d false _, .no, .no, .no]) rfl ?_
 clear hΦ hds
 refine Sv.seq ?_
 refine Sv.asgK (EvK.new ?_)
 intro A2
 refine Sv.seq ?_
 refine Sv.forL ?_
 walk_at "dt"
 refine fun v1 => ⟨fun i ρ => ∃ (ks : Ks) (f : Bool) (x3 x4 : Sl), CntK (Lr rows (lot.take i)) ks /\ ρ = [.d false (.list (rows.map rowD)), .d false (.list (lot.map .int)), .dic A2 f ks, x3, x4], ⟨[], _, _, _, CntK.nil, rfl⟩, ?_, ?_⟩
 ·rintro i d ρ hd ⟨ks, f, x3, x4, hk, rfl⟩
  obtain ⟨p, hpr, rfl⟩ := map_at hd
  obtain ⟨p0, p1⟩ := hp p (zq8x hpr)
  obtain ⟨row, er, eat⟩ := atI_nat' (xs := rows) rowD p0 p1 rfl
  refine Gv.nameI ?_
  refine Sv.forL ?_
  walk_at "dt"
  refine fun v2 => ⟨fun m ρ => ∃ (ks : Ks) (f : Bool) (x4 : Sl), CntK (Lr rows (lot.take i) ++ row.take m) ks /\ ρ = [.d false (.list (rows.map rowD)), .d false (.list (lot.map .int)), .dic A2 f ks, .d true (.int p), x4], ⟨ks, _, _, by simpa using hk, rfl⟩, ?_, ?_⟩
  ·rintro m d ρ hd ⟨ks, f, x4, hk, rfl⟩
   obtain ⟨c, hcm, rfl⟩ := map_at hd
   refine Gv.nameI ?_
   refine Sv.putDic rfl ?_
   refine Ev.rI0 ?_
   refine Ev.getDic rfl ?_
   walk_at "dt"
   rw [hk.get c]
   walk_at "dt"
   have hlen := hk.len (m := 1000) fun x hx => by
    rcases zq29x.mp hx with h | h
    ·obtain ⟨r, hr, hx⟩ := Lr_mem h
     exact hc r hr x hx
    ·exact hc row (zq8x er) x (zq130x h)
   refine ⟨by omega, ?_⟩
   refine ⟨_, _, _, ?_, rfl⟩
   rw [take_snoc hcm, <- zq107x]
   exact hk.put c
  ·rintro ρ ⟨ks, f, x4, hk, rfl⟩
   rw [zq0x, zq20x] at hk
   refine ⟨ks, _, _, _, ?_, rfl⟩
   rw [take_snoc hpr, Lr_snoc, zq23x, er]
   exact hk
 ·rintro ρ ⟨ks, f, x3, x4, hk, rfl⟩
  rw [zq0x, zq20x] at hk
  obtain ⟨ns, e1, e2⟩ := hk.vals
  refine Sv.ret ?_
  refine Ev.inI ?_
  walk_at "dt"
  refine EvN.ev (EvN.listVals rfl ?_)
  rw [e1]
  refine ⟨ns, rfl, ?_⟩
  rw [e2]
  exact q
def F_holds_out : DF := fun ds Φ => ∃ (p n : Int) (cs : List Prs) (lot : List Int), ds = [netD p n cs, .list (lot.map .int)] /\ LotNet n cs /\ lot.Nodup /\ (∀ x ∈ lot, 0 <= x /\ x < n) /\ Φ true (.bool (holdB cs lot))
theorem mono_holds_out : MonoF F_holds_out := by
 intro ds Φ Ψ hm z
 obtain ⟨p, n, cs, lot, e, h1, h2, h3, q⟩ := hm
 exact ⟨p, n, cs, lot, e, h1, h2, h3, z _ _ q⟩
theorem scHoldsOut : FnScope ["net", "lot"] ["net", "lot"] (defScope sHoldsOut) := ⟨rfl, rfl, rfl, by decide +kernel, rfl, by decide +kernel, by decide +kernel⟩
theorem ok_holds_out (F : Fun K "holds_out" "holds_out" sHoldsOut f fd)  (c_stands : Callee P w K mg base "stands" 1 ["seated", "lot"] (spD 2 F_stands)) (c_seats : Callee P w K mg base "seats" 1 ["net"] spSeats)   :
  FnOk P w K mg base CX0 2 f fd ["net", "lot"] (spD 2 F_holds_out) := by
 refine F.ok scHoldsOut (fun vs H Q E h => h.1) (fun cdv A outer s H vs Q E hr h => ?_)
 obtain ⟨nb, ds, Φ, hlive, hds, hΦ, hF⟩ := spD_out h
 obtain ⟨p, n, cs, lot, rfl, hN, nd, hl, q⟩ := hF
 refine ⟨_, (@pss_one _ _ _ (@ps_ret _ _ _ _ (@pe_callC _ _ _ _ _ _ _ _ _ _ c_stands (hr.mono (by decide)) (@pa_cons _ _ _ _ _ (@pe_callC _ _ _ _ _ _ _ _ _ _ c_seats (hr.mono (by decide)) (@pa_cons _ _ _ _ _ (pv 0) pa_nil rfl) (by rfl) (by decide) (by rfl) (by rfl)) (@pa_cons _ _ _ _ _ (pv 1) pa_nil rfl) rfl) (by rfl) (by decide) (by rfl) (by rfl)))), ?_⟩
 refine Sv.enterD hlive hds hΦ (ρ := [.d false _, .d false _]) rfl ?_
 clear hΦ hds
 have n0 := hN.n0
 refine Sv.ret ?_
 refine Ev.callD mono_stands ?_
 refine Av.cons ?_
 refine Ev.seats ?_
 walk_at "dt"
 refine ⟨p, n, cs, rfl, hN.seat, ?_⟩
 walk_at "dt"
 refine ⟨rfl, rowsTo n.toNat cs cs.length, lot, rfl, fun x hx => ?_, fun r hr c hc => ?_, ?_⟩
 ·rw [rowsTo_len]
  have := hl x hx
  omega
 ·obtain ⟨k, hk⟩ := zq51x hr
  have := rowsTo_mem hk hc
  have := hN.cl
  omega
 ·rw [noOne_hold hN nd hl]
  exact q
def F_inside_of : DF := fun ds Φ => ∃ (prs : Prs) (S : List Int) (ks : Ks), ds = [prsD prs, .dict (ks.map kvD)] /\ (∀ k, hasI ks k = decide (k ∈ S)) /\ prs.length <= 10000 /\ Φ true (.list ((prs.filter fun pr => decide (pr.1 ∈ S)).map fun pr => .int pr.1))
theorem mono_inside_of : MonoF F_inside_of := by
 intro ds Φ Ψ hm z
 obtain ⟨prs, S, ks, e, h1, h2, q⟩ := hm
 exact ⟨prs, S, ks, e, h1, h2, z _ _ q⟩
theorem scInsideOf : FnScope ["pairs", "inside"] ["pairs", "inside"] (defScope sInsideOf) := ⟨rfl, rfl, rfl, by decide +kernel, rfl, by decide +kernel, by decide +kernel⟩
theorem ok_inside_of (F : Fun K "inside_of" "inside_of" sInsideOf f fd)     :
  FnOk P w K mg base CX0 1 f fd ["pairs", "inside"] (spD 2 F_inside_of) := by
 refine F.ok scInsideOf (fun vs H Q E h => h.1) (fun cdv A outer s H vs Q E hr h => ?_)
 obtain ⟨nb, ds, Φ, hlive, hds, hΦ, hF⟩ := spD_out h
 obtain ⟨prs, S, ks, rfl, hS, hl, q⟩ := hF
 refine ⟨_, (@pss_one _ _ _ (@ps_ret _ _ _ _ (pe_lcompC (CompOkC.of (show compOkBC (defScope sInsideOf) ["pairs", "inside"] _ ["place", "factor", "inside"] [none, none, some 1] = true by decide +kernel)) (pi_listK (K := K) rfl (pv 0)) (fun _ _ _ _ => ⟨(@pg_tupM _ (K) _ _ _ (2) _ rfl rfl (@pgs_cons _ _ _ _ _ (pg_name (i := 0) (by show List.Nodup (["place", "factor", "inside"] : List Str); decide +kernel) rfl (Or.inl rfl)) (@pgs_cons _ _ _ _ _ (pg_name (i := 1) (by show List.Nodup (["place", "factor", "inside"] : List Str); decide +kernel) rfl (Or.inl rfl)) pgs_nil (by rfl)) (by rfl)) (by rfl) (by rfl)), (pts_one (@pt_cmpR _ _ _ _ _ _ _ _ (op_inD hr.units) (pv 0) (pv 2) (by with_unfolding_all rfl))), (pv 0)⟩)))), ?_⟩
 refine Sv.enterD hlive hds hΦ (ρ := [.d false _, .d false _]) rfl ?_
 clear hΦ hds
 have hlm : (prs.map pairD).length = prs.length := zq0x ..
 refine Sv.ret ?_
 refine EvN.ev (EvN.compL (by decide) rfl ?_)
 walk_at "dt"
 refine fun v => ⟨true, fun i ds => ds = ((prs.take i).filter fun pr => decide (pr.1 ∈ S)).map fun pr => .int pr.1, rfl, ?_, ?_⟩
 ·rintro i d ds hd hl' rfl
  obtain ⟨pr, hpr, rfl⟩ := map_at hd
  walk_at "dt"
  refine ⟨by walk_at "wk", ?_⟩
  refine Tv.test ?_
  refine Ev.inDd ?_
  walk_at "dt"
  refine ⟨ks, rfl, ?_⟩
  rw [hS]
  refine ⟨_, rfl, ?_⟩
  by_cases c : pr.1 ∈ S
  ·rw [if_pos (by simpa using c)]
   walk_at "dt"
   show _ = List.map _ (List.filter _ (prs.take (i + 1)))
   rw [take_snoc hpr, inLot_snoc, if_pos c, zq6x]
   rfl
  ·rw [if_neg (by simpa using c)]
   show _ = List.map _ (List.filter _ (prs.take (i + 1)))
   rw [take_snoc hpr, inLot_snoc, if_neg c, zq39x]
 ·rintro ds hl' rfl
  rw [hlm, zq20x]
  exact q
def F_greatest : DF := fun ds Φ => ∃ (p n : Int) (cs : List Prs) (lot : List Int), ds = [netD p n cs, .list (lot.map .int)] /\ LotNet n cs /\ LotOk n lot /\ (∀ prs ∈ cs, prs.length <= 10000) /\ ∀ g : List Int, Great cs lot g -> Φ true (.list (g.map .int))
theorem mono_greatest : MonoF F_greatest := by
 intro ds Φ Ψ hm z
 obtain ⟨p, n, cs, lot, e, h1, h2, h3, q⟩ := hm
 exact ⟨p, n, cs, lot, e, h1, h2, h3, fun g a => z _ _ (q g a)⟩
def gmu (ρ : Rh) : Nat := match (ρ[3]? : Option Sl), (ρ[5]? : Option Sl) with
 | some (Sl.dic _ _ ks), some (Sl.own _ _ ds) => ks.length * 1000 + ds.length
 | _, _ => 0
theorem scGreatest : FnScope ["net", "lot", "seated", "inside", "counts", "waiting", "alone", "c"] ["net", "lot"] (defScope sGreatest) := ⟨rfl, rfl, rfl, by decide +kernel, rfl, by decide +kernel, by decide +kernel⟩
theorem ok_greatest (F : Fun K "greatest" "greatest" sGreatest f fd)  (c_seats : Callee P w K mg base "seats" 1 ["net"] spSeats) (c_inside_of : Callee P w K mg base "inside_of" 1 ["pairs", "inside"] (spD 2 F_inside_of)) (m_dict : mg "dict" = none) (m_len : mg "len" = none) (m_enumerate : mg "enumerate" = none)  :
    FnOk P w K mg base CX0 2 f fd ["net", "lot"] (spD 2 F_greatest) := by
  refine F.ok scGreatest (fun vs H Q E h => h.1) (fun cdv A outer s H vs Q E hr h => ?_)
  obtain ⟨nb, ds, Φ, hlive, hds, hΦ, hF⟩ := spD_out h
  obtain ⟨p, n, cs, lot, rfl, hN, hlot, hpl, q⟩ := hF
  refine ⟨_, (@pss_cons _ _ _ _ _ (@ps_set _ _ (2) _ _ _ _ scGreatest.nd rfl (Or.inl rfl) (@pe_callC _ _ _ _ _ _ _ _ _ _ c_seats (hr.mono (by decide)) (@pa_cons _ _ _ _ _ (pv 0) pa_nil rfl) (by rfl) (by decide) (by rfl) (by rfl)) (by rfl) (by first | exact .inl rfl | exact .inr rfl | assumption)) (@pss_cons _ _ _ _ _ (@ps_set _ _ (3) _ _ _ _ scGreatest.nd rfl (Or.inr rfl) (@pe_callTy _ _ _ _ _ _ _ _ (rDictL) (call_dictL rfl) rfl m_dict zq196x (@pa_cons _ _ _ _ _ (pe_lcompC (CompOkC.of (show compOkBC (defScope sGreatest) ["net", "lot", "seated", "inside", "counts", "waiting", "alone", "c"] _ ["place"] [none] = true by decide +kernel)) (pi_listK (K := K) rfl (pv 1)) (fun _ _ _ _ => ⟨(pg_name (i := 0) (by show List.Nodup (["place"] : List Str); decide +kernel) rfl (Or.inl rfl)), pts_nil, (@pe_tup _ _ _ _ _ (@pa_cons _ _ _ _ _ (pv 0) (@pa_cons _ _ _ _ _ pe_bl pa_nil rfl) rfl))⟩)) pa_nil rfl) (by decide) (by decide) (by rfl) (by rfl)) (by rfl) (by first | exact .inl rfl | exact .inr rfl | assumption)) (@pss_cons _ _ _ _ _ (ps_setCC (i := 4) scGreatest.nd rfl rfl (CompOkC.of (show compOkBC (defScope sGreatest) ["net", "lot", "seated", "inside", "counts", "waiting", "alone", "c"] _ ["pairs", "inside"] [none, some 3] = true by decide +kernel)) (pi_listK (K := K) rfl (@pe_ix _ _ _ _ _ _ (rIxT K) ix_tup (pv 0) pe_int (fun _ _ => rfl))) (fun _ _ _ _ => ⟨(pg_name (i := 0) (by show List.Nodup (["pairs", "inside"] : List Str); decide +kernel) rfl (Or.inl rfl)), pts_nil, (@pe_callB _ _ _ _ _ _ _ _ (rLen K) call_lenM rfl m_len zq32x (@pa_cons _ _ _ _ _ (@pe_callC _ _ _ _ _ _ _ _ _ _ c_inside_of (hr.mono (by decide)) (@pa_cons _ _ _ _ _ (pv 0) (@pa_cons _ _ _ _ _ (pv 1) pa_nil rfl) rfl) (by rfl) (by decide) (by rfl) (by rfl)) pa_nil rfl) (by decide) (by decide) (by rfl) (by rfl))⟩)) (@pss_cons _ _ _ _ _ (ps_setCC (i := 5) scGreatest.nd rfl rfl (CompOkC.of (show compOkBC (defScope sGreatest) ["net", "lot", "seated", "inside", "counts", "waiting", "alone", "c"] _ ["c", "many"] [none, none] = true by decide +kernel)) (@pi_enum _ (K) _ _ _ _ _ _ _ rfl rfl m_enumerate (pv 4) (by rfl)) (fun _ _ _ _ => ⟨(@pg_tupM _ (K) _ _ _ (2) _ rfl rfl (@pgs_cons _ _ _ _ _ (pg_name (i := 0) (by show List.Nodup (["c", "many"] : List Str); decide +kernel) rfl (Or.inl rfl)) (@pgs_cons _ _ _ _ _ (pg_name (i := 1) (by show List.Nodup (["c", "many"] : List Str); decide +kernel) rfl (Or.inl rfl)) pgs_nil (by rfl)) (by rfl)) (by rfl) (by rfl)), (pts_one (@pt_cmpR _ _ _ _ _ _ _ _ op_eq (pv 1) pe_int (nomark _))), (pv 0)⟩)) (@pss_cons _ _ _ _ _ (@ps_while _ _ _ _ _ _ zq24x (@pt_truthK _ (K) _ _ rfl (pv 5) (fun _ => rfl)) (@pss_cons _ _ _ _ _ (@ps_set _ _ (6) _ _ _ _ scGreatest.nd rfl (Or.inl rfl) (@pe_callC _ _ _ _ _ _ _ _ _ _ c_inside_of (hr.mono (by decide)) (@pa_cons _ _ _ _ _ (@pe_ix _ _ _ _ _ _ (rIxL K) ix_list (@pe_ix _ _ _ _ _ _ (rIxT K) ix_tup (pv 0) pe_int (fun _ _ => rfl)) (pe_bm0 zq76x zq197x zq198x mt_pop (pv 5)) (fun _ _ => rfl)) (@pa_cons _ _ _ _ _ (pv 3) pa_nil rfl) rfl) (by rfl) (by decide) (by rfl) (by rfl)) (by rfl) (by first | exact .inl rfl | exact .inr rfl | assumption)) (@pss_one _ _ _ (@ps_if _ _ _ _ _ _ _ _ (@pt_truthK _ (K) _ _ rfl (pv 6) (fun _ => rfl)) (@pss_cons _ _ _ _ _ (@ps_expr _ _ _ _ (pe_bm zq132x zq147x zq199x mt_popD (pv 3) (@pa_cons _ _ _ _ _ (@pe_ix _ _ _ _ _ _ (rIxL K) ix_list (pv 6) pe_int (fun _ _ => rfl)) pa_nil rfl)) (by rfl)) (@pss_one _ _ _ (@ps_for _ _ _ _ _ _ _ _ zq24x rfl (pi_listK (K := K) rfl (@pe_ix _ _ _ _ _ _ (rIxL K) ix_list (pv 2) (@pe_ix _ _ _ _ _ _ (rIxL K) ix_list (pv 6) pe_int (fun _ _ => rfl)) (fun _ _ => rfl))) (pg_name (i := 7) scGreatest.nd rfl (Or.inl rfl)) (@pss_cons _ _ _ _ _ (ps_augS (pv 4) (pv 7) get_listL pe_int ip_sub set_list) (@pss_one _ _ _ (@ps_if _ _ _ _ _ _ _ _ (@pt_cmpR _ _ _ _ _ _ _ _ op_eq (@pe_ix _ _ _ _ _ _ (rIxL K) ix_list (pv 4) (pv 7) (fun _ _ => rfl)) pe_int (nomark _)) (@pss_one _ _ _ (@ps_expr _ _ _ _ (pe_bm zq76x zq171x zq172x mt_append (pv 5) (@pa_cons _ _ _ _ _ (pv 7) pa_nil rfl)) (by rfl))) pss_nil))) (by intro _; rfl)))) pss_nil)))) (@pss_one _ _ _ (@ps_ret _ _ _ _ (pe_lcompC (CompOkC.of (show compOkBC (defScope sGreatest) ["net", "lot", "seated", "inside", "counts", "waiting", "alone", "c"] _ ["place", "inside"] [none, some 3] = true by decide +kernel)) (pi_listK (K := K) rfl (pv 1)) (fun _ _ _ _ => ⟨(pg_name (i := 0) (by show List.Nodup (["place", "inside"] : List Str); decide +kernel) rfl (Or.inl rfl)), (pts_one (@pt_cmpR _ _ _ _ _ _ _ _ (op_inD hr.units) (pv 0) (pv 1) (by with_unfolding_all rfl))), (pv 0)⟩))))))))), ?_⟩
  refine Sv.enterD hlive hds hΦ (ρ := [.d false _, .d false _, .no, .no, .no, .no, .no, .no]) rfl ?_
  clear hΦ hds
  have n0 := hN.n0
  have n1 := hN.n1
  have hcl := hN.cl
  have hll := hlot.len n1
  have hlm : (lot.map PyData.int).length = lot.length := zq0x ..
  have hcm : (cs.map prsD).length = cs.length := zq0x ..
  obtain ⟨rows, erows⟩ : ∃ rows, rowsTo n.toNat cs cs.length = rows := ⟨_, rfl⟩
  have hrl : rows.length = n.toNat := by rw [<- erows]; exact rowsTo_len
  refine Sv.seq ?_
  refine Sv.asg ?_
  refine Ev.seats ?_
  walk_at "dt"
  refine ⟨p, n, cs, rfl, hN.seat, ?_⟩
  rw [erows]
  refine Gv.nameT ?_
  refine Sv.seq ?_
  refine Sv.asgK (EvK.dictL ?_)
  refine EvN.ev (EvN.compL (by decide) rfl ?_)
  walk_at "dt"
  refine fun v => ⟨true, fun i ds => ds = (insK (lot.take i)).map itD, rfl, ?_, ?_⟩
  · rintro i d ds hd hl' rfl
    obtain ⟨x, hx, rfl⟩ := map_at hd
    walk_at "dt"
    refine ⟨by walk_at "wk", ?_⟩
    walk_at "dt"
    refine ⟨fun _ => rfl, ?_⟩
    show _ = (insK (lot.take (i + 1))).map itD
    unfold insK
    rw [take_snoc hx, zq6x, zq6x]
    rfl
  rintro ds hl' rfl
  rw [hlm, zq20x]
  refine ⟨insK lot, rfl, by unfold insK; rw [zq0x]; omega, ?_⟩
  rw [insK_puts hlot.nd]
  intro A3
  refine Sv.seq ?_
  refine Sv.setCN ?_
  refine EvN.compL (by decide) rfl ?_
  walk_at "dt"
  refine fun v => ⟨true, fun i ds => ds = (cs.take i).map fun prs => .int (inLot lot prs), rfl, ?_, ?_⟩
  · rintro i d ds hd hl' rfl
    obtain ⟨prs, hprs, rfl⟩ := map_at hd
    walk_at "dt"
    refine ⟨by walk_at "wk", ?_⟩
    refine Tv.noTest ?_
    rw [if_pos rfl]
    refine Ev.lenS ?_
    refine Ev.ofF ?_
    refine EvF.lendDic 1 rfl ?_
    refine EvF.callD mono_inside_of ?_
    walk_at "dt"
    refine ⟨rfl, prs, lot, insK lot, rfl, insK_has lot, hpl prs (zq8x hprs), rfl, _, .inl rfl, fun _ => rfl, ?_⟩
    show _ = List.map _ (cs.take (i + 1))
    rw [take_snoc hprs, zq6x, zq0x]
    rfl
  rintro ds hl' rfl
  rw [hcm, zq20x]
  intro A4
  refine Sv.seq ?_
  refine Sv.setCN ?_
  refine EvN.lendS 4 rfl ?_
  refine EvN.compE (by decide) rfl ?_
  walk_at "dt"
  have hcm2 : (cs.map fun prs => PyData.int (inLot lot prs)).length = cs.length := zq0x ..
  refine ⟨by omega, fun v => ⟨true, fun i ds => ds = ((List.range i).filter fun c => decide (inLot lot (cs.getD c []) = 1)).map fun (c : Nat) => .int (c : Int), rfl, ?_, ?_⟩⟩
  · rintro i d ds ⟨e, he, rfl⟩ hl' rfl
    obtain ⟨prs, hprs, rfl⟩ := map_at he
    have hgd : cs.getD i [] = prs := by rw [zq23x, hprs]; rfl
    walk_at "dt"
    refine ⟨by walk_at "wk", ?_⟩
    walk_at "dt"
    have hsn : (List.range (i + 1)).filter (fun c => decide (inLot lot (cs.getD c []) = 1)) = (List.range i).filter (fun c => decide (inLot lot (cs.getD c []) = 1)) ++ if inLot lot prs = 1 then [i] else [] := by
      rw [zq101x, zq75x, zq55x, zq91x, hgd]
      by_cases c : inLot lot prs = 1 <;> simp [c]
    by_cases c : inLot lot prs = 1
    · rw [if_pos (decide_eq_true (by omega))]
      walk_at "dt"
      show _ = List.map _ (List.filter _ (List.range (i + 1)))
      rw [hsn, if_pos c, zq6x]
      rfl
    · rw [if_neg (by simp; omega)]
      show _ = List.map _ (List.filter _ (List.range (i + 1)))
      rw [hsn, if_neg c, zq39x]
  rintro ds hl' rfl
  rw [hcm2]
  refine ⟨?_, ?_⟩
  · rw [zq50x]
    intro d hd
    obtain ⟨c, _, rfl⟩ := zq14x.mp hd
    rfl
  intro A5
  have hcell : ∀ (S cn ws : List Int), GI cs lot S cn ws -> ∀ x ∈ S, 0 <= x /\ x < n := fun S cn ws h x hx => hlot.rg x (h.mem x hx)
  refine Sv.seq ?_
  refine Sv.while_ (fun ρ => ∃ (S cn ws : List Int) (f3 f4 f5 : Bool) (x6 x7 : Sl), GI cs lot S cn ws /\ ρ = [.d false (netD p n cs), .d false (.list (lot.map .int)), .d true (.list (rows.map rowD)), .dic A3 f3 (insK S), .own A4 f4 (cn.map .int), .own A5 f5 (ws.map .int), x6, x7]) gmu ?_ ?_
  · refine ⟨lot, cs.map fun prs => (inLot lot prs : Int), ((List.range cs.length).filter fun c => decide (inLot lot (cs.getD c []) = 1)).map fun (c : Nat) => (c : Int), true, true, true, .no, .no, GI.init rfl, ?_⟩
    simp only [zq57x]
    rfl
  rintro ρ ⟨S, cn, ws, f3, f4, f5, x6, x7, hG, rfl⟩
  refine Tv.truOwn rfl ?_
  rcases zq160x ws with ews | ⟨ws', c0, ews⟩
  · subst ews
    rw [if_neg (by simp)]
    have hgr := hG.done
    refine Sv.ret ?_
    refine EvN.ev (EvN.compL (by decide) rfl ?_)
    walk_at "dt"
    refine fun v => ⟨true, fun i ds => ds = ((lot.take i).filter fun x => decide (x ∈ S)).map .int, rfl, ?_, ?_⟩
    · rintro i d ds hd hl' rfl
      obtain ⟨x, hx, rfl⟩ := map_at hd
      walk_at "dt"
      refine ⟨by walk_at "wk", ?_⟩
      refine Tv.test ?_
      refine Ev.inDic rfl ?_
      walk_at "dt"
      rw [insK_has]
      by_cases c : x ∈ S
      · rw [if_pos (by simpa using c)]
        walk_at "dt"
        show _ = List.map _ (List.filter _ (lot.take (i + 1)))
        rw [filter_snoc _ hx, if_pos (by simpa using c), zq6x]
        rfl
      · rw [if_neg (by simpa using c)]
        show _ = List.map _ (List.filter _ (lot.take (i + 1)))
        rw [filter_snoc _ hx, if_neg (by simpa using c), zq39x]
    · rintro ds hl' rfl
      rw [hlm, zq20x]
      have e : lot.filter (fun x => decide (x ∈ S)) = S := by
        obtain ⟨qq, eq⟩ := hG.sub
        conv => rhs; rw [eq]
        apply zq159x
        intro x hx
        rw [zq46x, decide_eq_true_eq, eq, zq5x]
        exact ⟨fun z => z.2, fun z => ⟨hx, z⟩⟩
      rw [e]
      exact q S hgr
  · rw [zq161x] at ews
    subst ews
    rw [if_pos (by simp)]
    have hc0 := hG.rg c0 (zq38x _ (by simp))
    obtain ⟨prs0, hp0, eat0⟩ := atI_nat' (xs := cs) prsD hc0.1 hc0.2 rfl
    have hfew := hG.few c0 (zq38x _ (by simp)) prs0 hp0
    rw [zq6x]
    refine Sv.seq ?_
    refine Sv.popCall (j := 5) (q := 3) (i0 := 0) mono_inside_of (by decide) rfl rfl rfl rfl eat0 ?_
    refine ⟨prs0, S, insK S, rfl, insK_has S, hpl prs0 (zq8x hp0), rfl, ?_⟩
    refine Sv.ifS ?_
    refine Tv.truL ?_
    walk_at "dt"
    cases efl : prs0.filter (fun pr => decide (pr.1 ∈ S)) with
    | nil =>
      rw [if_neg (by simp)]
      refine Sv.next ?_
      have h0 : inLot S prs0 = 0 := by unfold inLot; rw [efl]; rfl
      refine ⟨⟨S, cn, ws', _, _, _, _, _, hG.drop hp0 h0, rfl⟩, ?_⟩
      show (insK S).length * 1000 + (ws'.map PyData.int).length < (insK S).length * 1000 + (ws'.map PyData.int ++ [PyData.int c0]).length
      rw [zq22x, zq60x]
      omega
    | cons pr rest =>
      rw [if_pos (by simp)]
      have hpm : pr ∈ prs0.filter (fun pr => decide (pr.1 ∈ S)) := by rw [efl]; exact zq27x ..
      obtain ⟨hpm1, hpm2⟩ := zq5x.mp hpm
      have hxS : pr.1 ∈ S := by simpa using hpm2
      have hx0 : pr.1 ∈ prs0.map (·.1) := zq14x.mpr ⟨pr, hpm1, rfl⟩
      obtain ⟨x0, x1⟩ := hcell S cn _ hG pr.1 hxS
      obtain ⟨row, erow, eatr⟩ := atI_nat' (xs := rows) (k := pr.1) (m := rows.length) rowD x0 (by omega) rfl
      have hrow : ∀ (c : Nat) prs, cs[c]? = some prs -> row.count (c : Int) = (prs.map (·.1)).count pr.1 := fun c prs e => by
        have hc := (zq2x.mp e).1
        have e1 := rowsTo_count (n := n.toNat) (cs := cs) (x := (c : Int)) cs.length (zq3x _) pr.1.toNat row (by rw [erows]; exact erow)
        rw [if_pos (by omega), zq63x, zq23x, e] at e1
        rw [e1]
        exact count_nat (by omega) fun y hy => (hN.ok prs (zq8x e) y hy).1
      have hrmem : ∀ c ∈ row, 0 <= c /\ c < cs.length := fun c hc => rowsTo_mem (n := n.toNat) (cs := cs) (k := pr.1.toNat) (r := row) (by rw [erows]; exact erow) hc
      refine Sv.seq ?_
      have hatx : atI ((pr :: rest).map fun pr => PyData.int pr.1) 0 = some (.int pr.1) := atI_some (by decide) rfl
      refine Sv.popDic rfl ?_
      refine Ev.ixL ?_
      refine Ev.var rfl ?_
      refine ⟨_, rfl, ?_⟩
      refine Ev.int ?_
      refine ⟨0, rfl, .int pr.1, hatx, ?_⟩
      refine ⟨pr.1, rfl, by rw [insK_has]; exact decide_eq_true hxS, ?_⟩
      rw [insK_drop]
      refine Sv.forL ?_
      walk_at "dt"
      have hrm : (row.map PyData.int).length = row.length := zq0x ..
      refine fun v => ⟨fun m ρ => ∃ (cn' ws'' : List Int) (f4 f5 : Bool) (x7 : Sl), GJ cs S row c0 m cn' ws'' /\ ρ = [.d false (netD p n cs), .d false (.list (lot.map .int)), .d true (.list (rows.map rowD)), .dic A3 f3 (insK (S.filter fun y => decide (y ≠ pr.1))), .own A4 f4 (cn'.map .int), .own A5 f5 (ws''.map .int), .d true (.list ((pr :: rest).map fun pr => .int pr.1)), x7], ⟨cn, ws', _, _, _, hG.start, rfl⟩, ?_, ?_⟩
      · rintro m d ρ hd ⟨cn', ws'', f4', f5', x7', hJ, rfl⟩
        obtain ⟨c, hcm, rfl⟩ := map_at hd
        obtain ⟨k0, k1⟩ := hrmem c (zq8x hcm)
        obtain ⟨val, hval⟩ := hJ.at k0 k1
        have hcnl := hJ.len
        have hwl := hJ.wlen
        have hJ' := hJ.step hcm k0 k1 hval
        refine Gv.nameI ?_
        refine Sv.seq ?_
        refine Sv.augOwn rfl ?_
        refine Ev.var rfl ?_
        have hix : ixN (cn'.map PyData.int).length c = some c.toNat := by
          unfold ixN
          rw [zq0x]
          repeat (first | rw [if_pos (by omega)] | rw [if_neg (by omega)])
        refine ⟨c, c.toNat, val, rfl, k0, hix, atI_some k0 (by rw [zq13x, hval]; rfl), ?_⟩
        rw [<- List.map_set]
        have hat2 : atI ((cn'.set c.toNat (val - 1)).map PyData.int) c = some (.int (val - 1)) := atI_some k0 (by rw [zq13x, zq18x (by omega)]; rfl)
        refine Sv.ifS ?_
        refine Tv.test ?_
        refine Ev.eq ?_
        refine Ev.ixOwn rfl ?_
        refine Ev.var rfl ?_
        refine ⟨c, rfl, _, hat2, ?_⟩
        walk_at "dt"
        by_cases c1 : val - 1 = 1
        · rw [if_pos (decide_eq_true c1)]
          rw [if_pos c1] at hJ'
          refine Sv.append rfl ?_
          refine Ev.var rfl ?_
          refine ⟨by rw [zq0x]; omega, ?_⟩
          exact ⟨_, ws'' ++ [c], _, _, _, hJ', by rw [zq6x]; rfl⟩
        · rw [if_neg (by simpa using c1)]
          rw [if_neg c1] at hJ'
          refine Sv.next ?_
          exact ⟨_, ws'', _, _, _, hJ', rfl⟩
      · rintro ρ ⟨cn', ws'', f4', f5', x7', hJ, rfl⟩
        rw [hrm] at hJ
        have hG' := GJ.fin hG hp0 hxS hx0 hrow hJ
        have hwl := hG'.len
        refine ⟨⟨_, cn', ws'', _, _, _, _, _, hG', rfl⟩, ?_⟩
        show (insK (S.filter fun y => decide (y ≠ pr.1))).length * 1000 + (ws''.map PyData.int).length < (insK S).length * 1000 + (ws'.map PyData.int ++ [PyData.int c0]).length
        have hlt : (S.filter fun y => decide (y ≠ pr.1)).length < S.length := by
          have h1 : (S.filter fun y => decide (y ≠ pr.1)).length <= S.length := zq58x _ _
          have h2 : (S.filter fun y => decide (y ≠ pr.1)).length ≠ S.length := fun z => by
            have := zq169x.mp z pr.1 hxS
            simp at this
          omega
        unfold insK
        rw [zq0x, zq0x, zq0x, zq22x]
        omega
def F_without : DF := fun ds Φ => ∃ (lot : List Int) (x : Int), ds = [.list (lot.map .int), .int x] /\ lot.length <= 10000 /\ Φ true (.list ((lot.filter fun y => decide (y ≠ x)).map .int))
theorem mono_without : MonoF F_without := by
 intro ds Φ Ψ hm z
 obtain ⟨lot, x, e, h1, q⟩ := hm
 exact ⟨lot, x, e, h1, z _ _ q⟩
theorem scWithout : FnScope ["lot", "place"] ["lot", "place"] (defScope sWithout) := ⟨rfl, rfl, rfl, by decide +kernel, rfl, by decide +kernel, by decide +kernel⟩
theorem ok_without (F : Fun K "without" "without" sWithout f fd)     :
  FnOk P w K mg base CX0 1 f fd ["lot", "place"] (spD 2 F_without) := by
 refine F.ok scWithout (fun vs H Q E h => h.1) (fun cdv A outer s H vs Q E hr h => ?_)
 obtain ⟨nb, ds, Φ, hlive, hds, hΦ, hF⟩ := spD_out h
 obtain ⟨lot, x, rfl, hl, q⟩ := hF
 refine ⟨_, (@pss_one _ _ _ (@ps_ret _ _ _ _ (pe_lcompC (CompOkC.of (show compOkBC (defScope sWithout) ["lot", "place"] _ ["other", "place"] [none, some 1] = true by decide +kernel)) (pi_listK (K := K) rfl (pv 0)) (fun _ _ _ _ => ⟨(pg_name (i := 0) (by show List.Nodup (["other", "place"] : List Str); decide +kernel) rfl (Or.inl rfl)), (pts_one (@pt_cmpR _ _ _ _ _ _ _ _ op_ne (pv 0) (pv 1) (nomark _))), (pv 0)⟩)))), ?_⟩
 refine Sv.enterD hlive hds hΦ (ρ := [.d false _, .d false _]) rfl ?_
 clear hΦ hds
 have hlm : (lot.map PyData.int).length = lot.length := zq0x ..
 refine Sv.ret ?_
 refine EvN.ev (EvN.compL (by decide) rfl ?_)
 walk_at "dt"
 refine fun v => ⟨true, fun j es => es = ((lot.take j).filter fun y => decide (y ≠ x)).map .int, rfl, ?_, ?_⟩
 ·rintro j d es hd hl' rfl
  obtain ⟨y, hy, rfl⟩ := map_at hd
  walk_at "dt"
  refine ⟨by walk_at "wk", ?_⟩
  by_cases c : y = x
  ·walk_at "dt"
   show _ = List.map _ (List.filter _ (lot.take (j + 1)))
   rw [filter_snoc _ hy, if_neg (by simpa using c), zq39x]
  ·walk_at "dt"
   show _ = List.map _ (List.filter _ (lot.take (j + 1)))
   rw [filter_snoc _ hy, if_pos (by simpa using c), zq6x]
   rfl
 rintro es hl' rfl
 rw [hlm, zq20x]
 exact q
def F_is_bare : DF := fun ds Φ => ∃ (p n : Int) (cs : List Prs) (lot : List Int), ds = [netD p n cs, .list (lot.map .int)] /\ LotNet n cs /\ LotOk n lot /\ (∀ prs ∈ cs, prs.length <= 10000) /\ ∀ b : Bool, (b = true ↔ Bare cs lot) -> Φ true (.bool b)
theorem mono_is_bare : MonoF F_is_bare := by
 intro ds Φ Ψ hm z
 obtain ⟨p, n, cs, lot, e, h1, h2, h3, q⟩ := hm
 exact ⟨p, n, cs, lot, e, h1, h2, h3, fun b a => z _ _ (q b a)⟩
theorem scIsBare : FnScope ["net", "lot", "place"] ["net", "lot"] (defScope sIsBare) := ⟨rfl, rfl, rfl, by decide +kernel, rfl, by decide +kernel, by decide +kernel⟩
theorem ok_is_bare (F : Fun K "is_bare" "is_bare" sIsBare f fd)  (c_holds_out : Callee P w K mg base "holds_out" 2 ["net", "lot"] (spD 2 F_holds_out)) (c_greatest : Callee P w K mg base "greatest" 2 ["net", "lot"] (spD 2 F_greatest)) (c_without : Callee P w K mg base "without" 1 ["lot", "place"] (spD 2 F_without))   :
    FnOk P w K mg base CX0 3 f fd ["net", "lot"] (spD 2 F_is_bare) := by
  refine F.ok scIsBare (fun vs H Q E h => h.1) (fun cdv A outer s H vs Q E hr h => ?_)
  obtain ⟨nb, ds, Φ, hlive, hds, hΦ, hF⟩ := spD_out h
  obtain ⟨p, n, cs, lot, rfl, hN, hlot, hpl, q⟩ := hF
  refine ⟨_, (@pss_cons _ _ _ _ _ (@ps_if _ _ _ _ _ _ _ _ (PW.pt (pw_or (@pt_cmpR _ _ _ _ _ _ _ _ (op_eqD hr.units) (pv 1) (@pe_lst _ _ _ _ pa_nil) (nomark _)) (pw_or1 (@pt_not _ _ _ _ (@pt_truthK _ (K) _ _ rfl (@pe_callC _ _ _ _ _ _ _ _ _ _ c_holds_out (hr.mono (by decide)) (@pa_cons _ _ _ _ _ (pv 0) (@pa_cons _ _ _ _ _ (pv 1) pa_nil rfl) rfl) (by rfl) (by decide) (by rfl) (by rfl)) (fun _ => rfl)))))) (@pss_one _ _ _ (@ps_ret _ _ _ _ pe_bl)) pss_nil) (@pss_cons _ _ _ _ _ (@ps_for _ _ _ _ _ _ _ _ zq24x rfl (pi_listK (K := K) rfl (pv 1)) (pg_name (i := 2) scIsBare.nd rfl (Or.inl rfl)) (@pss_one _ _ _ (@ps_if _ _ _ _ _ _ _ _ (@pt_cmpR _ _ _ _ _ _ _ _ (op_neD hr.units) (@pe_callC _ _ _ _ _ _ _ _ _ _ c_greatest (hr.mono (by decide)) (@pa_cons _ _ _ _ _ (pv 0) (@pa_cons _ _ _ _ _ (@pe_callC _ _ _ _ _ _ _ _ _ _ c_without (hr.mono (by decide)) (@pa_cons _ _ _ _ _ (pv 1) (@pa_cons _ _ _ _ _ (pv 2) pa_nil rfl) rfl) (by rfl) (by decide) (by rfl) (by rfl)) pa_nil rfl) rfl) (by rfl) (by decide) (by rfl) (by rfl)) (@pe_lst _ _ _ _ pa_nil) (nomark _)) (@pss_one _ _ _ (@ps_ret _ _ _ _ pe_bl)) pss_nil)) (by intro _; rfl)) (@pss_one _ _ _ (@ps_ret _ _ _ _ pe_bl)))), ?_⟩
  refine Sv.enterD hlive hds hΦ (ρ := [.d false _, .d false _, .no]) rfl ?_
  clear hΦ hds
  have n1 := hN.n1
  have hll := hlot.len n1
  refine Sv.seq ?_
  refine Sv.ifS ?_
  refine Tv.or ?_
  walk_at "dt"
  refine ⟨shaped_ints lot, rfl, ?_⟩
  by_cases c : lot = []
  · subst c
    refine ⟨true, rfl, ?_⟩
    walk_at "dt"
    exact q false ⟨fun z => (by cases z), fun z => absurd rfl z.1⟩
  refine ⟨false, by obtain ⟨x, t, e⟩ := zq82x c; subst e; rfl, ?_⟩
  walk_at "dt"
  refine Ev.callD mono_holds_out ?_
  walk_at "dt"
  refine ⟨rfl, p, n, cs, lot, rfl, hN, hlot.nd, hlot.rg, ?_⟩
  refine ⟨_, rfl, ?_⟩
  cases ho : holdB cs lot with
  | false =>
    walk_at "dt"
    exact q false ⟨fun z => (by cases z), fun z => absurd z.2.1 (by rw [ho]; exact zq7x)⟩
  | true =>
    walk_at "dt"
    refine Sv.forL ?_
    walk_at "dt"
    refine fun v => ⟨fun i ρ => ∃ x2 : Sl, (∀ x ∈ lot.take i, ∀ T : List Int, T ≠ [] -> (∀ y ∈ T, y ∈ lot /\ y ≠ x) -> holdB cs T = false) /\ ρ = [.d false (netD p n cs), .d false (.list (lot.map .int)), x2], ⟨_, fun _ h => by simp at h, rfl⟩, ?_, ?_⟩
    · rintro i d ρ hd ⟨x2, hI, rfl⟩
      obtain ⟨x, hx, rfl⟩ := map_at hd
      refine Gv.nameI ?_
      refine Sv.ifS ?_
      refine Tv.test ?_
      refine Ev.eqD ?_
      refine Ev.callD mono_greatest ?_
      refine Av.cons ?_
      walk_at "dt"
      refine Ev.callD mono_without ?_
      walk_at "dt"
      refine ⟨rfl, lot, x, rfl, by omega, ?_⟩
      walk_at "dt"
      refine ⟨rfl, p, n, cs, _, rfl, hN, hlot.filter _, hpl, fun g hg => ?_⟩
      walk_at "dt"
      refine ⟨shaped_ints g, rfl, ?_⟩
      have hn := great_nil hg
      by_cases cg : g = []
      · refine ⟨false, by subst cg; rfl, ?_⟩
        rw [if_neg zq7x]
        walk_at "dt"
        refine ⟨_, fun y hy T hT hs => ?_, rfl⟩
        rw [take_snoc hx] at hy
        rcases zq29x.mp hy with h | h
        · exact hI y h T hT hs
        · rw [zq12x.mp h] at hs
          exact hn.mp cg T hT fun z hz => zq5x.mpr ⟨(hs z hz).1, decide_eq_true (hs z hz).2⟩
      · refine ⟨true, by obtain ⟨u, t, e⟩ := zq82x cg; subst e; rfl, ?_⟩
        rw [if_pos rfl]
        walk_at "dt"
        refine q false ⟨fun z => (by cases z), fun z => ?_⟩
        refine absurd (hn.mpr fun T hT hs => z.2.2 T hT (fun y hy => (zq5x.mp (hs y hy)).1) ⟨x, zq8x hx, fun w => ?_⟩) cg
        have := (zq5x.mp (hs x w)).2
        simp at this
    · rintro ρ ⟨x2, hI, rfl⟩
      rw [zq0x, zq20x] at hI
      walk_at "dt"
      exact q true ⟨fun _ => ⟨c, ho, fun T hT hs ⟨y, hy, hyT⟩ => hI y hy T hT fun z hz => ⟨hs z hz, fun w => hyT (w ▸ hz)⟩⟩, fun _ => rfl⟩
def F_bared : DF := fun ds Φ => ∃ (p n : Int) (cs : List Prs) (lot : List Int), ds = [netD p n cs, .list (lot.map .int)] /\ LotNet n cs /\ LotOk n lot /\ (∀ prs ∈ cs, prs.length <= 10000) /\ Φ true (.list ((bareF cs lot lot).map .int))
theorem mono_bared : MonoF F_bared := by
 intro ds Φ Ψ hm z
 obtain ⟨p, n, cs, lot, e, h1, h2, h3, q⟩ := hm
 exact ⟨p, n, cs, lot, e, h1, h2, h3, z _ _ q⟩
theorem step_lot {cs : List Prs} {m g : List Int} {x n : Int} (h : LotOk n m) (hg : x ∈ m -> Great cs (m.filter fun y => decide (y ≠ x)) g) : LotOk n (stepF cs m x) := by
 unfold stepF
 by_cases c : x ∈ m
 ·rw [if_pos c, grF_eq (hg c)]
  by_cases c2 : g = []
  ·rw [if_pos c2]; exact h
  ·rw [if_neg c2]; exact (hg c).lot (h.filter _)
 ·rw [if_neg c]; exact h
theorem scBared : FnScope ["net", "lot", "left", "place", "within"] ["net", "lot"] (defScope sBared) := ⟨rfl, rfl, rfl, by decide +kernel, rfl, by decide +kernel, by decide +kernel⟩
theorem ok_bared (F : Fun K "bared" "bared" sBared f fd)  (c_greatest : Callee P w K mg base "greatest" 2 ["net", "lot"] (spD 2 F_greatest)) (c_without : Callee P w K mg base "without" 1 ["lot", "place"] (spD 2 F_without)) (m_list : mg "list" = none)  :
  FnOk P w K mg base CX0 3 f fd ["net", "lot"] (spD 2 F_bared) := by
 refine F.ok scBared (fun vs H Q E h => h.1) (fun cdv A outer s H vs Q E hr h => ?_)
 obtain ⟨nb, ds, Φ, hlive, hds, hΦ, hF⟩ := spD_out h
 obtain ⟨p, n, cs, lot, rfl, hN, hlot, hpl, q⟩ := hF
 refine ⟨_, (@pss_cons _ _ _ _ _ (@ps_set _ _ (2) _ _ _ _ scBared.nd rfl (Or.inl rfl) (@pe_callTy _ _ _ _ _ _ _ _ (rListOf K) call_listM rfl m_list zq30x (@pa_cons _ _ _ _ _ (pv 1) pa_nil rfl) (by decide) (by decide) (by rfl) (by rfl)) (by rfl) (by first | exact .inl rfl | exact .inr rfl | assumption)) (@pss_cons _ _ _ _ _ (@ps_for _ _ _ _ _ _ _ _ zq24x rfl (pi_listK (K := K) rfl (pv 1)) (pg_name (i := 3) scBared.nd rfl (Or.inl rfl)) (@pss_one _ _ _ (@ps_if _ _ _ _ _ _ _ _ (pt_cmpR (op_inK (K := K) (by rfl)) (pv 3) (pv 2) (by with_unfolding_all rfl)) (@pss_cons _ _ _ _ _ (@ps_set _ _ (4) _ _ _ _ scBared.nd rfl (Or.inl rfl) (@pe_callC _ _ _ _ _ _ _ _ _ _ c_greatest (hr.mono (by decide)) (@pa_cons _ _ _ _ _ (pv 0) (@pa_cons _ _ _ _ _ (@pe_callC _ _ _ _ _ _ _ _ _ _ c_without (hr.mono (by decide)) (@pa_cons _ _ _ _ _ (pv 2) (@pa_cons _ _ _ _ _ (pv 3) pa_nil rfl) rfl) (by rfl) (by decide) (by rfl) (by rfl)) pa_nil rfl) rfl) (by rfl) (by decide) (by rfl) (by rfl)) (by rfl) (by first | exact .inl rfl | exact .inr rfl | assumption)) (@pss_one _ _ _ (@ps_if _ _ _ _ _ _ _ _ (@pt_cmpR _ _ _ _ _ _ _ _ (op_neD hr.units) (pv 4) (@pe_lst _ _ _ _ pa_nil) (nomark _)) (@pss_one _ _ _ (@ps_set _ _ (2) _ _ _ _ scBared.nd rfl (Or.inl rfl) (pv 4) (by rfl) (by first | exact .inl rfl | exact .inr rfl | assumption))) pss_nil))) pss_nil)) (by intro _; rfl)) (@pss_one _ _ _ (@ps_ret _ _ _ _ (pv 2))))), ?_⟩
 refine Sv.enterD hlive hds hΦ (ρ := [.d false _, .d false _, .no, .no, .no]) rfl ?_
 clear hΦ hds
 have n1 := hN.n1
 have hll := hlot.len n1
 refine Sv.seq ?_
 refine Sv.asg ?_
 refine Ev.listOf ?_
 refine Ev.var rfl ?_
 refine ⟨_, .inl rfl, ?_⟩
 rw [scAll_ints, zq119x]
 refine Gv.nameT ?_
 refine Sv.seq ?_
 refine Sv.forL ?_
 walk_at "dt"
 refine fun v => ⟨fun i ρ => ∃ (m : List Int) (x3 x4 : Sl), (LotOk n m /\ m = bareF cs (lot.take i) lot) /\ ρ = [.d false (netD p n cs), .d false (.list (lot.map .int)), .d true (.list (m.map .int)), x3, x4], ⟨lot, _, _, ⟨hlot, rfl⟩, rfl⟩, ?_, ?_⟩
 ·rintro i d ρ hd ⟨m, x3, x4, ⟨hm, em⟩, rfl⟩
  obtain ⟨x, hx, rfl⟩ := map_at hd
  have hml := hm.len n1
  have esn : bareF cs (lot.take (i + 1)) lot = stepF cs m x := by rw [take_snoc hx, bareF_snoc, <- em]
  refine Gv.nameI ?_
  refine Sv.ifS ?_
  refine Tv.test ?_
  refine Ev.inI ?_
  walk_at "dt"
  refine ⟨m, rfl, ?_⟩
  refine ⟨_, rfl, ?_⟩
  by_cases c : x ∈ m
  ·rw [if_pos (by simpa using c)]
   refine Sv.seq ?_
   refine Sv.asg ?_
   refine Ev.callD mono_greatest ?_
   refine Av.cons ?_
   walk_at "dt"
   refine Ev.callD mono_without ?_
   walk_at "dt"
   refine ⟨rfl, m, x, rfl, by omega, ?_⟩
   walk_at "dt"
   refine ⟨rfl, p, n, cs, _, rfl, hN, hm.filter _, hpl, fun g hg => ?_⟩
   refine Gv.nameT ?_
   have hs : stepF cs m x = if g = [] then m else g := by
    unfold stepF
    rw [if_pos c, grF_eq hg]
   have hlo := step_lot hm (fun _ => hg)
   refine Sv.ifS ?_
   refine Tv.test ?_
   refine Ev.eqD ?_
   walk_at "dt"
   refine ⟨shaped_ints g, rfl, ?_⟩
   by_cases cg : g = []
   ·rw [if_pos cg] at hs
    rw [hs] at hlo
    refine ⟨false, by subst cg; rfl, ?_⟩
    rw [if_neg zq7x]
    refine Sv.next ?_
    exact ⟨m, _, _, ⟨hlo, by rw [esn, hs]⟩, rfl⟩
   ·rw [if_neg cg] at hs
    rw [hs] at hlo
    refine ⟨true, by obtain ⟨u, t, e⟩ := zq82x cg; subst e; rfl, ?_⟩
    rw [if_pos rfl]
    refine Sv.asg ?_
    refine Ev.var rfl ?_
    refine Gv.nameT ?_
    exact ⟨g, _, _, ⟨hlo, by rw [esn, hs]⟩, rfl⟩
  ·rw [if_neg (by simpa using c)]
   refine Sv.next ?_
   refine ⟨m, _, _, ⟨hm, ?_⟩, rfl⟩
   rw [esn]
   unfold stepF
   rw [if_neg c]
 ·rintro ρ ⟨m, x3, x4, ⟨hm, em⟩, rfl⟩
  rw [zq0x, zq20x] at em
  refine Sv.ret ?_
  refine Ev.var rfl ?_
  rw [em]
  exact q
def F_rows_of : DF := fun ds Φ => ∃ n size : Int, ds = [.int n, .int size] /\ 0 <= n /\ n <= 20 /\ 0 <= size /\ size <= 4 /\ Φ true (.list ((cmb n size.toNat).map rowD))
theorem mono_rows_of : MonoF F_rows_of := by
 intro ds Φ Ψ hm z
 obtain ⟨n, size, e, h1, h2, h3, h4, q⟩ := hm
 exact ⟨n, size, e, h1, h2, h3, h4, z _ _ q⟩
theorem scRowsOf : FnScope ["n", "size", "rows", "turn", "longer", "row", "first"] ["n", "size"] (defScope sRowsOf) := ⟨rfl, rfl, rfl, by decide +kernel, rfl, by decide +kernel, by decide +kernel⟩
theorem ok_rows_of (F : Fun K "rows_of" "rows_of" sRowsOf f fd)   (m_range : mg "range" = none)  :
  FnOk P w K mg base CX0 1 f fd ["n", "size"] (spD 2 F_rows_of) := by
 refine F.ok scRowsOf (fun vs H Q E h => h.1) (fun cdv A outer s H vs Q E hr h => ?_)
 obtain ⟨nb, ds, Φ, hlive, hds, hΦ, hF⟩ := spD_out h
 obtain ⟨n, size, rfl, n0, n1, s0, s1, q⟩ := hF
 refine ⟨_, (@pss_cons _ _ _ _ _ (@ps_set _ _ (2) _ _ _ _ scRowsOf.nd rfl (Or.inl rfl) (@pe_lst _ _ _ _ (@pa_cons _ _ _ _ _ (@pe_lst _ _ _ _ pa_nil) pa_nil rfl)) (by rfl) (by first | exact .inl rfl | exact .inr rfl | assumption)) (@pss_cons _ _ _ _ _ (@ps_for _ _ _ _ _ _ _ _ zq24x rfl (@pi_range1 _ _ _ _ _ _ rfl m_range (@pa_cons _ _ _ _ _ (pv 1) pa_nil rfl) (by rfl)) (pg_name (i := 3) scRowsOf.nd rfl (Or.inl rfl)) (@pss_cons _ _ _ _ _ (@ps_set _ _ (4) _ _ _ _ scRowsOf.nd rfl (Or.inl rfl) (@pe_lst _ _ _ _ pa_nil) (by rfl) (by first | exact .inl rfl | exact .inr rfl | assumption)) (@pss_cons _ _ _ _ _ (@ps_for _ _ _ _ _ _ _ _ zq24x rfl (pi_listK (K := K) rfl (pv 2)) (pg_name (i := 5) scRowsOf.nd rfl (Or.inr rfl)) (@pss_cons _ _ _ _ _ (@ps_set _ _ (6) _ _ _ _ scRowsOf.nd rfl (Or.inl rfl) (@pe_ifExp _ _ _ _ _ _ _ _ (@pt_truthK _ (K) _ _ rfl (pv 5) (fun _ => rfl)) (@pe_op _ _ _ _ _ _ _ _ op_add (@pe_ix _ _ _ _ _ _ (rIxL K) ix_list (pv 5) (@pe_un _ _ _ _ _ _ un_neg pe_int) (fun _ _ => rfl)) pe_int) pe_int) (by rfl) (by first | exact .inl rfl | exact .inr rfl | assumption)) (@pss_one _ _ _ (@ps_expr _ _ _ _ (pe_bm zq76x zq173x zq174x mt_extend (pv 4) (@pa_cons _ _ _ _ _ (pe_lcompC (CompOkC.of (show compOkBC (defScope sRowsOf) ["n", "size", "rows", "turn", "longer", "row", "first"] _ ["place", "row"] [none, some 5] = true by decide +kernel)) (@pi_range2 _ _ _ _ _ _ _ rfl m_range (@pa_cons _ _ _ _ _ (pv 6) (@pa_cons _ _ _ _ _ (pv 0) pa_nil rfl) rfl) (by rfl) (by rfl)) (fun _ _ _ _ => ⟨(pg_name (i := 0) (by show List.Nodup (["place", "row"] : List Str); decide +kernel) rfl (Or.inl rfl)), pts_nil, (@pe_op _ _ _ _ _ _ _ _ op_cat (pv 1) (@pe_lst _ _ _ _ (@pa_cons _ _ _ _ _ (pv 0) pa_nil rfl)))⟩)) pa_nil rfl)) (by rfl)))) (by intro _; rfl)) (@pss_one _ _ _ (@ps_set _ _ (2) _ _ _ _ scRowsOf.nd rfl (Or.inl rfl) (pv 4) (by rfl) (by first | exact .inl rfl | exact .inr rfl | assumption))))) (by intro _; rfl)) (@pss_one _ _ _ (@ps_ret _ _ _ _ (pv 2))))), ?_⟩
 refine Sv.enterD hlive hds hΦ (ρ := [.d false _, .d false _, .no, .no, .no, .no, .no]) rfl ?_
 clear hΦ hds
 refine Sv.seq ?_
 refine Sv.asg ?_
 refine Ev.lst ?_
 refine Av.cons ?_
 refine Ev.lst ?_
 refine Av.nil ?_
 refine ⟨by decide, ?_⟩
 refine Av.nil ?_
 refine ⟨by decide, ?_⟩
 refine Gv.name ?_
 refine Sv.seq ?_
 refine Sv.forR1 ?_
 walk_at "dt"
 refine ⟨fun t ρ => ∃ (x3 x4 x5 x6 : Sl), ρ = [.d false (.int n), .d false (.int size), .d true (.list ((cmb n t).map rowD)), x3, x4, x5, x6], ⟨_, _, _, _, rfl⟩, ?_, ?_⟩
 ·rintro t d ρ ⟨ht, rfl⟩ ⟨x3, x4, x5, x6, rfl⟩
  have hct := cmb_len (k := t + 1) n0 n1 (by omega)
  rw [cmb_succ] at hct
  refine Gv.nameI ?_
  refine Sv.seq ?_
  refine Sv.asgNil ?_
  intro A4
  refine Sv.seq ?_
  refine Sv.forL ?_
  walk_at "dt"
  refine fun v => ⟨fun i ρ => ∃ (x5 x6 : Sl), ρ = [.d false (.int n), .d false (.int size), .d true (.list ((cmb n t).map rowD)), .d true (.int (0 + (t : Int))), .own A4 true ((((cmb n t).take i).flatMap (ext n)).map rowD), x5, x6], ⟨_, _, rfl⟩, ?_, ?_⟩
  ·rintro i d ρ hd ⟨x5, x6, rfl⟩
   obtain ⟨row, hrow, rfl⟩ := map_at hd
   obtain ⟨hok, hlen⟩ := cmb_ok (zq8x hrow)
   have hfl := flat_le (n := n) (rows := cmb n t) (i + 1)
   rw [flat_take hrow, zq22x] at hfl
   have hext : (ext n row).length = (n - fst0 row).toNat := by unfold ext aft; rw [zq0x, zq0x, zq88x]
   have hf : 0 <= fst0 row /\ fst0 row <= n := by
    rcases hok.fst with ⟨a, _, c⟩ | z
    ·exact ⟨a, c⟩
    ·subst z; exact ⟨Int.le_refl 0, n0⟩
   refine Gv.name ?_
   refine Sv.seq ?_
   refine Sv.conseq (fun ρ' => ρ' = [.d false (.int n), .d false (.int size), .d true (.list ((cmb n t).map rowD)), .d true (.int (0 + (t : Int))), .own A4 true ((((cmb n t).take i).flatMap (ext n)).map rowD), .d true (rowD row), .d true (.int (fst0 row))]) ?_ ?_
   ·refine Sv.asg ?_
    refine Ev.ifE ?_
    refine Tv.truL ?_
    walk_at "dt"
    rcases zq160x row with z | ⟨r, x, z⟩
    ·subst z
     rw [if_neg (by simp)]
     walk_at "dt"
     rfl
    ·rw [zq161x] at z
     subst z
     have hat : atI ((r ++ [x]).map PyData.int) (-1) = some (.int x) := by rw [zq6x]; exact atI_last _ _
     have e : fst0 (r ++ [x]) = x + 1 := by unfold fst0; rw [zq190x]
     rw [if_pos (by simp)]
     walk_at "dt"
     rw [e]
     rfl
   rintro ρ' rfl
   refine Sv.extend rfl ?_
   refine EvN.ev (EvN.compR2 (by decide) rfl ?_)
   walk_at "dt"
   refine ⟨true, fun j es => es = (List.range j).map fun (k : Nat) => rowD (row ++ [fst0 row + (k : Int)]), rfl, ?_, ?_⟩
   ·rintro j d es ⟨hj, rfl⟩ hl' rfl
    have hwm : (row.map PyData.int).length = row.length := zq0x ..
    walk_at "dt"
    refine ⟨by walk_at "wk", ?_⟩
    walk_at "dt"
    refine ⟨by rw [hwm]; show row.length + 1 <= 10000; omega, fun _ => ?_, ?_⟩
    ·rw [show (List.map (fun x => x.snd) [(true, PyData.int (fst0 row + (j : Int)))] : List PyData) = [PyData.int (fst0 row + (j : Int))] from rfl]
     have : scAll (row.map PyData.int ++ [PyData.int (fst0 row + (j : Int))]) = true := by unfold scAll; simp [List.all_append, List.all_map, scB]
     rw [this, zq119x]
    ·show _ = List.map _ (List.range (j + 1))
     rw [zq101x, zq6x]
     congr 1
     show [PyData.list (row.map PyData.int ++ [PyData.int (fst0 row + (j : Int))])] = [PyData.list ((row ++ [fst0 row + (j : Int)]).map PyData.int)]
     rw [zq6x]
     rfl
   ·rintro es hl' rfl
    refine ⟨_, rfl, by rw [zq0x, zq0x, zq88x]; omega, ?_⟩
    refine ⟨.d true (rowD row), .d true (.int (fst0 row)), ?_⟩
    rw [flat_take hrow, zq6x]
    unfold ext aft
    rw [zq57x, zq57x]
    rfl
  ·rintro ρ ⟨x5, x6, rfl⟩
   rw [zq0x, zq20x]
   refine Sv.demote 4 rfl ?_
   refine Sv.asg ?_
   refine Ev.var rfl ?_
   refine Gv.name ?_
   exact ⟨_, _, _, _, rfl⟩
 ·rintro ρ ⟨x3, x4, x5, x6, rfl⟩
  refine Sv.ret ?_
  refine Ev.var rfl ?_
  exact q
def F_lots_of : DF := fun ds Φ => ∃ (p n size : Int) (cs : List Prs), ds = [netD p n cs, .int size] /\ LotNet n cs /\ n <= 20 /\ 0 <= size /\ size <= 4 /\ Φ true (.list (((cmb n size.toNat).filter fun row => holdB cs row).map rowD))
theorem mono_lots_of : MonoF F_lots_of := by
 intro ds Φ Ψ hm z
 obtain ⟨p, n, size, cs, e, h1, h2, h3, h4, q⟩ := hm
 exact ⟨p, n, size, cs, e, h1, h2, h3, h4, z _ _ q⟩
theorem scLotsOf : FnScope ["net", "size", "seated"] ["net", "size"] (defScope sLotsOf) := ⟨rfl, rfl, rfl, by decide +kernel, rfl, by decide +kernel, by decide +kernel⟩
theorem ok_lots_of (F : Fun K "lots_of" "lots_of" sLotsOf f fd)  (c_seats : Callee P w K mg base "seats" 1 ["net"] spSeats) (c_rows_of : Callee P w K mg base "rows_of" 1 ["n", "size"] (spD 2 F_rows_of)) (c_stands : Callee P w K mg base "stands" 1 ["seated", "lot"] (spD 2 F_stands))   :
    FnOk P w K mg base CX0 2 f fd ["net", "size"] (spD 2 F_lots_of) := by
  refine F.ok scLotsOf (fun vs H Q E h => h.1) (fun cdv A outer s H vs Q E hr h => ?_)
  obtain ⟨nb, ds, Φ, hlive, hds, hΦ, hF⟩ := spD_out h
  obtain ⟨p, n, size, cs, rfl, hN, n1, s0, s1, q⟩ := hF
  refine ⟨_, (@pss_cons _ _ _ _ _ (@ps_set _ _ (2) _ _ _ _ scLotsOf.nd rfl (Or.inr rfl) (@pe_callC _ _ _ _ _ _ _ _ _ _ c_seats (hr.mono (by decide)) (@pa_cons _ _ _ _ _ (pv 0) pa_nil rfl) (by rfl) (by decide) (by rfl) (by rfl)) (by rfl) (by first | exact .inl rfl | exact .inr rfl | assumption)) (@pss_one _ _ _ (@ps_ret _ _ _ _ (pe_lcompC (CompOkC.of (show compOkBC (defScope sLotsOf) ["net", "size", "seated"] _ ["row", "seated"] [none, some 2] = true by decide +kernel)) (pi_listK (K := K) rfl (@pe_callC _ _ _ _ _ _ _ _ _ _ c_rows_of (hr.mono (by decide)) (@pa_cons _ _ _ _ _ (@pe_ix _ _ _ _ _ _ (rIxT K) ix_tup (pv 0) pe_int (fun _ _ => rfl)) (@pa_cons _ _ _ _ _ (pv 1) pa_nil rfl) rfl) (by rfl) (by decide) (by rfl) (by rfl))) (fun _ _ _ _ => ⟨(pg_name (i := 0) (by show List.Nodup (["row", "seated"] : List Str); decide +kernel) rfl (Or.inl rfl)), (pts_one (@pt_truthK _ (K) _ _ rfl (@pe_callC _ _ _ _ _ _ _ _ _ _ c_stands (hr.mono (by decide)) (@pa_cons _ _ _ _ _ (pv 1) (@pa_cons _ _ _ _ _ (pv 0) pa_nil rfl) rfl) (by rfl) (by decide) (by rfl) (by rfl)) (fun _ => rfl))), (pv 0)⟩))))), ?_⟩
  refine Sv.enterD hlive hds hΦ (ρ := [.d false _, .d false _, .no]) rfl ?_
  clear hΦ hds
  have n0 := hN.n0
  have hcl := hN.cl
  have hct := cmb_len (k := size.toNat) (by omega) n1 (by omega)
  have hcm : ((cmb n size.toNat).map rowD).length = (cmb n size.toNat).length := zq0x ..
  refine Sv.seq ?_
  refine Sv.asg ?_
  refine Ev.seats ?_
  walk_at "dt"
  refine ⟨p, n, cs, rfl, hN.seat, ?_⟩
  refine Gv.nameT ?_
  refine Sv.ret ?_
  refine EvN.ev (EvN.compL (by decide) rfl ?_)
  refine Ev.callD mono_rows_of ?_
  walk_at "dt"
  refine ⟨rfl, n, size, rfl, by omega, n1, s0, s1, ?_⟩
  refine ⟨_, rfl, by omega, fun v => ⟨true, fun i ds => ds = (((cmb n size.toNat).take i).filter fun row => holdB cs row).map rowD, rfl, ?_, ?_⟩⟩
  · rintro i d ds hd hl' rfl
    obtain ⟨row, hrow, rfl⟩ := map_at hd
    obtain ⟨hok, _⟩ := cmb_ok (zq8x hrow)
    have hsn : ((cmb n size.toNat).take (i + 1)).filter (fun w => holdB cs w) = ((cmb n size.toNat).take i).filter (fun w => holdB cs w) ++ if holdB cs row = true then [row] else [] := by
      rw [take_snoc hrow, zq75x, zq55x, zq91x]
    refine Gv.nameT ?_
    refine ⟨by walk_at "wk", ?_⟩
    refine Tv.truB ?_
    refine Ev.callD mono_stands ?_
    walk_at "dt"
    refine ⟨rfl, rowsTo n.toNat cs cs.length, row, rfl, fun x hx => ?_, fun r hr c hc => ?_, ?_⟩
    · rw [rowsTo_len]
      have := hok.rg x hx
      omega
    · obtain ⟨k, hk⟩ := zq51x hr
      have := rowsTo_mem hk hc
      omega
    rw [noOne_hold hN hok.lot.nd hok.lot.rg]
    refine ⟨_, rfl, ?_⟩
    cases hb : holdB cs row with
    | true =>
      rw [if_pos rfl]
      walk_at "dt"
      show _ = List.map _ (List.filter _ ((cmb n size.toNat).take (i + 1)))
      rw [hsn, if_pos hb, zq6x]
      rfl
    | false =>
      rw [if_neg zq7x]
      show _ = List.map _ (List.filter _ ((cmb n size.toNat).take (i + 1)))
      rw [hsn, if_neg (by rw [hb]; exact zq7x), zq39x]
  · rintro ds hl' rfl
    rw [hcm, zq20x]
    exact q
def F_least : DF := fun ds Φ => ∃ (p n most : Int) (cs : List Prs), ds = [netD p n cs, .int most] /\ LotNet n cs /\ n <= 20 /\ 0 <= most /\ most <= 4 /\ Φ true (optRow (leastL n cs most.toNat))
theorem mono_least : MonoF F_least := by
 intro ds Φ Ψ hm z
 obtain ⟨p, n, most, cs, e, h1, h2, h3, h4, q⟩ := hm
 exact ⟨p, n, most, cs, e, h1, h2, h3, h4, z _ _ q⟩
theorem scLeast : FnScope ["net", "most", "seated", "size", "row"] ["net", "most"] (defScope sLeast) := ⟨rfl, rfl, rfl, by decide +kernel, rfl, by decide +kernel, by decide +kernel⟩
theorem ok_least (F : Fun K "least" "least" sLeast f fd)  (c_seats : Callee P w K mg base "seats" 1 ["net"] spSeats) (c_rows_of : Callee P w K mg base "rows_of" 1 ["n", "size"] (spD 2 F_rows_of)) (c_stands : Callee P w K mg base "stands" 1 ["seated", "lot"] (spD 2 F_stands)) (m_range : mg "range" = none)  :
    FnOk P w K mg base CX0 2 f fd ["net", "most"] (spD 2 F_least) := by
  refine F.ok scLeast (fun vs H Q E h => h.1) (fun cdv A outer s H vs Q E hr h => ?_)
  obtain ⟨nb, ds, Φ, hlive, hds, hΦ, hF⟩ := spD_out h
  obtain ⟨p, n, most, cs, rfl, hN, n1, m0, m4, q⟩ := hF
  refine ⟨_, (@pss_cons _ _ _ _ _ (@ps_set _ _ (2) _ _ _ _ scLeast.nd rfl (Or.inl rfl) (@pe_callC _ _ _ _ _ _ _ _ _ _ c_seats (hr.mono (by decide)) (@pa_cons _ _ _ _ _ (pv 0) pa_nil rfl) (by rfl) (by decide) (by rfl) (by rfl)) (by rfl) (by first | exact .inl rfl | exact .inr rfl | assumption)) (@pss_cons _ _ _ _ _ (@ps_for _ _ _ _ _ _ _ _ zq24x rfl (@pi_range2 _ _ _ _ _ _ _ rfl m_range (@pa_cons _ _ _ _ _ pe_int (@pa_cons _ _ _ _ _ (@pe_op _ _ _ _ _ _ _ _ op_add (pv 1) pe_int) pa_nil rfl) rfl) (by rfl) (by rfl)) (pg_name (i := 3) scLeast.nd rfl (Or.inl rfl)) (@pss_one _ _ _ (@ps_for _ _ _ _ _ _ _ _ zq24x rfl (pi_listK (K := K) rfl (@pe_callC _ _ _ _ _ _ _ _ _ _ c_rows_of (hr.mono (by decide)) (@pa_cons _ _ _ _ _ (@pe_ix _ _ _ _ _ _ (rIxT K) ix_tup (pv 0) pe_int (fun _ _ => rfl)) (@pa_cons _ _ _ _ _ (pv 3) pa_nil rfl) rfl) (by rfl) (by decide) (by rfl) (by rfl))) (pg_name (i := 4) scLeast.nd rfl (Or.inl rfl)) (@pss_one _ _ _ (@ps_if _ _ _ _ _ _ _ _ (@pt_truthK _ (K) _ _ rfl (@pe_callC _ _ _ _ _ _ _ _ _ _ c_stands (hr.mono (by decide)) (@pa_cons _ _ _ _ _ (pv 2) (@pa_cons _ _ _ _ _ (pv 4) pa_nil rfl) rfl) (by rfl) (by decide) (by rfl) (by rfl)) (fun _ => rfl)) (@pss_one _ _ _ (@ps_ret _ _ _ _ (pv 4))) pss_nil)) (by intro _; rfl))) (by intro _; rfl)) (@pss_one _ _ _ (@ps_ret _ _ _ _ pe_non)))), ?_⟩
  refine Sv.enterD hlive hds hΦ (ρ := [.d false _, .d false _, .no, .no, .no]) rfl ?_
  clear hΦ hds
  have n0 := hN.n0
  have hcl := hN.cl
  refine Sv.seq ?_
  refine Sv.asg ?_
  refine Ev.seats ?_
  walk_at "dt"
  refine ⟨p, n, cs, rfl, hN.seat, ?_⟩
  refine Gv.nameT ?_
  refine Sv.seq ?_
  refine Sv.forR2 ?_
  walk_at "dt"
  refine ⟨fun t ρ => ∃ (x3 x4 : Sl), leastL n cs t = none /\ ρ = [.d false (netD p n cs), .d false (.int most), .d true (.list ((rowsTo n.toNat cs cs.length).map rowD)), x3, x4], ⟨_, _, rfl, rfl⟩, ?_, ?_⟩
  · rintro t d ρ ⟨ht, rfl⟩ ⟨x3, x4, hI, rfl⟩
    have e1 : (1 + (t : Int)).toNat = t + 1 := by omega
    have hmost : most.toNat = t + 1 + (most.toNat - (t + 1)) := by omega
    have hct := cmb_len (n := n) (k := t + 1) (by omega) n1 (by omega)
    have hcm : ((cmb n (t + 1)).map rowD).length = (cmb n (t + 1)).length := zq0x ..
    refine Gv.nameI ?_
    refine Sv.forL ?_
    refine Ev.callD mono_rows_of ?_
    walk_at "dt"
    refine ⟨rfl, n, 1 + (t : Int), rfl, by omega, n1, by omega, by omega, ?_⟩
    rw [e1]
    refine ⟨_, rfl, fun v => ⟨fun i ρ => ∃ (x4 : Sl), ((cmb n (t + 1)).take i).find? (fun row => holdB cs row) = none /\ ρ = [.d false (netD p n cs), .d false (.int most), .d true (.list ((rowsTo n.toNat cs cs.length).map rowD)), .d true (.int (1 + (t : Int))), x4], ⟨_, rfl, rfl⟩, ?_, ?_⟩⟩
    · rintro i d ρ hd ⟨x4, hJ, rfl⟩
      obtain ⟨row, hrow, rfl⟩ := map_at hd
      obtain ⟨hok, _⟩ := cmb_ok (zq8x hrow)
      refine Gv.nameT ?_
      refine Sv.ifS ?_
      refine Tv.truB ?_
      refine Ev.callD mono_stands ?_
      walk_at "dt"
      refine ⟨rfl, rowsTo n.toNat cs cs.length, row, rfl, fun x hx => ?_, fun r hr c hc => ?_, ?_⟩
      · rw [rowsTo_len]
        have := hok.rg x hx
        omega
      · obtain ⟨k, hk⟩ := zq51x hr
        have := rowsTo_mem hk hc
        omega
      rw [noOne_hold hN hok.lot.nd hok.lot.rg]
      refine ⟨_, rfl, ?_⟩
      cases hb : holdB cs row with
      | true =>
        rw [if_pos rfl]
        refine Sv.ret ?_
        refine Ev.var rfl ?_
        have hf := find_some_take (q := fun row => holdB cs row) hrow hJ hb
        have h1 : leastL n cs (t + 1) = some row := by
          unfold leastL at hI ⊢
          rw [cmbs_succ, zq108x, hI, zq109x, hf]
        have h2 : leastL n cs most.toNat = some row := by
          have h3 := least_of (n := n) (cs := cs) (m := t + 1) (k := most.toNat) (by omega)
          rw [h1] at h3
          cases c : leastL n cs most.toNat with
          | none => rw [c] at h3; cases h3
          | some r =>
            rw [c] at h3
            have h3 : some row = if r.length <= t + 1 then some r else none := h3
            split at h3
            · exact h3.symm
            · cases h3
        rw [h2] at q
        exact q
      | false =>
        rw [if_neg zq7x]
        refine Sv.next ?_
        exact ⟨_, find_none_take (q := fun row => holdB cs row) hrow hJ hb, rfl⟩
    · rintro ρ ⟨x4, hJ, rfl⟩
      rw [hcm, zq20x] at hJ
      refine ⟨_, _, ?_, rfl⟩
      unfold leastL at hI ⊢
      rw [cmbs_succ, zq108x, hI, zq109x, hJ]
  · rintro ρ ⟨x3, x4, hI, rfl⟩
    have e : (most + 1 - 1).toNat = most.toNat := by omega
    rw [e] at hI
    refine Sv.ret ?_
    refine Ev.non ?_
    rw [hI] at q
    exact q
theorem scLawBag : FnScope ["script", "stir", "cell"] ["script"] (defScope sLawBag) := ⟨rfl, rfl, rfl, by decide +kernel, rfl, by decide +kernel, by decide +kernel⟩
theorem ok__law_bag (F : Fun K "_law_bag" "_law_bag" sLawBag f fd)   (m_abs : mg "abs" = none)  :
  FnOk P w K mg base CX0 1 f fd ["script"] (spBag K) := by
 refine F.ok scLawBag (fun vs H Q E h => ?_) (fun cdv A outer s H vs Q E hr h => ?_)
 ·obtain ⟨a, ns, rfl, hS, hl, q⟩ := h
  rfl
 obtain ⟨a, ns, rfl, hS, hl, q⟩ := h
 refine ⟨_, (@pss_cons _ _ _ _ _ (@ps_set _ _ (1) _ _ _ _ scLawBag.nd rfl (Or.inl rfl) pe_int (by rfl) (by first | exact .inl rfl | exact .inr rfl | assumption)) (@pss_cons _ _ _ _ _ (@ps_for _ _ _ _ _ _ _ _ zq24x rfl (pi_listK (K := K) rfl (@pe_slice _ _ _ _ _ _ _ _ _ _ sl_list (pv 0) po_none (@po_some _ _ _ pe_int))) (pg_name (i := 2) scLawBag.nd rfl (Or.inl rfl)) (@pss_one _ _ _ (@ps_set _ _ (1) _ _ _ _ scLawBag.nd rfl (Or.inl rfl) (@pe_op _ _ _ _ _ _ _ _ op_mod (@pe_op _ _ _ _ _ _ _ _ op_add (@pe_op _ _ _ _ _ _ _ _ op_add (@pe_op _ _ _ _ _ _ _ _ op_mulA (pv 1) pe_int) (@pe_op _ _ _ _ _ _ _ _ op_mod (pv 2) pe_int)) pe_int) pe_int) (by rfl) (by first | exact .inl rfl | exact .inr rfl | assumption))) (by intro _; rfl)) (@pss_one _ _ _ (@ps_ret _ _ _ _ (@pe_lst _ _ _ _ (@pa_cons _ _ _ _ _ (pe_lcompC (CompOkC.of (show compOkBC (defScope sLawBag) ["script", "stir", "cell"] _ ["cell"] [none] = true by decide +kernel)) (pi_listK (K := K) rfl (@pe_slice _ _ _ _ _ _ _ _ _ _ sl_list (pv 0) po_none (@po_some _ _ _ pe_int))) (fun _ _ _ _ => ⟨(pg_name (i := 0) (by show List.Nodup (["cell"] : List Str); decide +kernel) rfl (Or.inl rfl)), pts_nil, (@pe_op _ _ _ _ _ _ _ _ op_mod (@pe_callB _ _ _ _ _ _ _ _ _ call_abs rfl m_abs PyProof.Rows.boot_abs (@pa_cons _ _ _ _ _ (pv 0) pa_nil rfl) (by decide) (by decide) (by rfl) (by rfl)) (@pe_op _ _ _ _ _ _ _ _ op_pow pe_int pe_int))⟩)) (@pa_cons _ _ _ _ _ pe_int (@pa_cons _ _ _ _ _ pe_int (@pa_cons _ _ _ _ _ (pv 1) (@pa_cons _ _ _ _ _ pe_int pa_nil rfl) rfl) rfl) rfl) rfl)))))), ?_⟩
 have hcut : cutV (ns.map V.int) none (some 63) = ns.map V.int := by
  have e : (ns.map V.int).length = ns.length := zq0x _
  show List.take (min 63 (ns.map V.int).length - 0) (List.drop 0 (ns.map V.int)) = _
  rw [zq143x]
  exact zq117x (by omega)
 walk_at "st"
 refine R.slL hS fun c hc => ?_
 rw [hcut]
 refine R.iL1 (SqL.of upd_same) ?_
 refine for_list (xs := ns.map V.int) (fun i σ H1 => ∃ (st : Int) (x : Option V), σ = [some (.ref a), some (.int st), x] /\ 0 <= st /\ st < 2147483647 /\ H1 = upd H c (.lst (ns.map V.int))) ⟨19, none, rfl, by omega, by omega, rfl⟩ ?_ ?_ ?_
 ·rintro i σ H1 hi ⟨st, x, rfl, h1, h2, rfl⟩
  exact SqL.of upd_same
 ·rintro i x σ H1 hx ⟨st, y, rfl, h1, h2, rfl⟩
  rw [zq13x] at hx
  obtain ⟨n, _, rfl⟩ := zq66x.mp hx
  walk_at "st"
  exact ⟨_, _, rfl, zq41x _ (by decide), zq42x _ (by decide), rfl⟩
 ·rintro σ H1 ⟨st, x, rfl, h1, h2, rfl⟩
  walk_at "st"
  refine R.slL ((same_new hc).seq hS) fun c2 hc2 => ?_
  rw [hcut]
  refine R.iL1 (SqL.of upd_same) ?_
  intro acc hacc
  refine R.comp_list (xs := ns.map V.int) (fun i σ H2 => ∃ (x : Option V), σ = [x] /\ H2 = upd (upd (upd H c (.lst (ns.map V.int))) c2 (.lst (ns.map V.int))) acc (.lst (((ns.take i).map fun n => (if n < 0 then -n else n) % 10 ^ 60).map V.int))) ⟨none, rfl, rfl⟩ ?_ ?_ ?_
  ·rintro i σ H1 hi ⟨x, rfl, rfl⟩
   refine SqL.of ?_
   rw [upd_ne (ne_of_none upd_same hacc)]
   exact upd_same
  ·rintro i x σ H1 hx ⟨y, rfl, rfl⟩
   rw [zq13x] at hx
   obtain ⟨n, hn, rfl⟩ := zq66x.mp hx
   walk_at "st"
   refine ⟨_, upd_same, ?_, _, rfl, ?_⟩
   ·rw [zq0x, zq0x, zq47x]
    exact small1000 (by omega)
   ·rw [upd_upd, List.take_add_one, hn, zq6x, zq6x]
    rfl
  ·rintro σ H1 ⟨x, rfl, rfl⟩
   walk_at "st"
   refine (show mkL _ _ _ from ⟨by show 5 <= sizeLine; decide, fun p hp => ?_⟩)
   have hn1 := ne_of_none (upd_same (H := upd (upd H c (.lst (ns.map V.int))) c2 (.lst (ns.map V.int))) (a := acc)) hp
   have s1 : Same H (upd (upd (upd H c (.lst (ns.map V.int))) c2 (.lst (ns.map V.int))) acc (.lst (((ns.take (ns.map V.int).length).map fun n => (if n < 0 then -n else n) % 10 ^ 60).map V.int))) := (same_new hc).trans ((same_new hc2).trans (same_new hacc))
   refine q p acc _ (s1.trans (same_new hp)) (s1.free hp) ⟨_, 0, 0, st, 0, upd_same, by rw [upd_ne hn1]; exact upd_same, ?_, ?_, by omega, by omega, by omega, h1, h2⟩
   ·intro y hy
    obtain ⟨z, _, rfl⟩ := zq14x.mp hy
    exact ⟨zq41x _ (by decide), zq42x _ (by decide)⟩
   ·rw [zq0x, zq47x]
    omega
theorem scLawDraw : FnScope ["bag", "many", "found"] ["bag", "many"] (defScope sLawDraw) := ⟨rfl, rfl, rfl, by decide +kernel, rfl, by decide +kernel, by decide +kernel⟩
theorem ok__law_draw (F : Fun K "_law_draw" "_law_draw" sLawDraw f fd)   (m_len : mg "len" = none)  :
  FnOk P w K mg base CX0 1 f fd ["bag", "many"] spDraw := by
 refine F.ok scLawDraw (fun vs H Q E h => ?_) (fun cdv A outer s H vs Q E hr h => ?_)
 ·obtain ⟨b, l, many, rfl, hB, hm, hs, q⟩ := h
  rfl
 obtain ⟨b, l, many, rfl, hB, hm, hs, q⟩ := h
 refine ⟨_, (@pss_cons _ _ _ _ _ (@ps_if _ _ _ _ _ _ _ _ (PW.pt (pw_and (@pt_cmpR _ _ _ _ _ _ _ _ op_eq (@pe_ix _ _ _ _ _ _ _ ix_list (pv 0) pe_int (fun _ _ => rfl)) pe_int (nomark _)) (pw_and1 (@pt_cmpR _ _ _ _ _ _ _ _ op_lt (@pe_ix _ _ _ _ _ _ _ ix_list (pv 0) pe_int (fun _ _ => rfl)) (@pe_callB _ _ _ _ _ _ _ _ _ call_len_seq rfl m_len zq32x (@pa_cons _ _ _ _ _ (@pe_ix _ _ _ _ _ _ _ ix_list (pv 0) pe_int (fun _ _ => rfl)) pa_nil rfl) (by decide) (by decide) (by rfl) (by rfl)) (nomark _))))) (@pss_cons _ _ _ _ _ (@ps_asg _ _ _ _ _ _ (@pe_ix _ _ _ _ _ _ _ ix_list (@pe_ix _ _ _ _ _ _ _ ix_list (pv 0) pe_int (fun _ _ => rfl)) (@pe_ix _ _ _ _ _ _ _ ix_list (pv 0) pe_int (fun _ _ => rfl)) (fun _ _ => rfl)) (pg_sub (pv 0) pe_int set_list) (by rfl) (by rfl) (by rfl)) (@pss_one _ _ _ (@ps_asg _ _ _ _ _ _ (@pe_op _ _ _ _ _ _ _ _ op_add (@pe_ix _ _ _ _ _ _ _ ix_list (pv 0) pe_int (fun _ _ => rfl)) pe_int) (pg_sub (pv 0) pe_int set_list) (by rfl) (by rfl) (by rfl)))) (@pss_one _ _ _ (@ps_if _ _ _ _ _ _ _ _ (@pt_cmpR _ _ _ _ _ _ _ _ op_eq (@pe_ix _ _ _ _ _ _ _ ix_list (pv 0) pe_int (fun _ _ => rfl)) pe_int (nomark _)) (@pss_cons _ _ _ _ _ (@ps_asg _ _ _ _ _ _ (@pe_op _ _ _ _ _ _ _ _ op_add (@pe_ix _ _ _ _ _ _ _ ix_list (pv 0) pe_int (fun _ _ => rfl)) pe_int) (pg_sub (pv 0) pe_int set_list) (by rfl) (by rfl) (by rfl)) (@pss_cons _ _ _ _ _ (@ps_asg _ _ _ _ _ _ (@pe_op _ _ _ _ _ _ _ _ op_mod (@pe_op _ _ _ _ _ _ _ _ op_add (@pe_op _ _ _ _ _ _ _ _ op_add (@pe_op _ _ _ _ _ _ _ _ op_add (@pe_op _ _ _ _ _ _ _ _ op_pow (@pe_ix _ _ _ _ _ _ _ ix_list (pv 0) pe_int (fun _ _ => rfl)) pe_int) (@pe_op _ _ _ _ _ _ _ _ op_mulA pe_int (@pe_ix _ _ _ _ _ _ _ ix_list (pv 0) pe_int (fun _ _ => rfl)))) (@pe_op _ _ _ _ _ _ _ _ op_mulA pe_int (@pe_ix _ _ _ _ _ _ _ ix_list (pv 0) pe_int (fun _ _ => rfl)))) pe_int) pe_int) (pg_sub (pv 0) pe_int set_list) (by rfl) (by rfl) (by rfl)) (@pss_one _ _ _ (@ps_ret _ _ _ _ (@pe_op _ _ _ _ _ _ _ _ op_mod (@pe_op _ _ _ _ _ _ _ _ op_fdivS (@pe_ix _ _ _ _ _ _ _ ix_list (pv 0) pe_int (fun _ _ => rfl)) pe_int) (pv 1)))))) pss_nil))) (@pss_cons _ _ _ _ _ (@ps_set _ _ (2) _ _ _ _ scLawDraw.nd rfl (Or.inl rfl) (@pe_op _ _ _ _ _ _ _ _ op_mod (@pe_ix _ _ _ _ _ _ _ ix_list (pv 0) pe_int (fun _ _ => rfl)) (pv 1)) (by rfl) (by first | exact .inl rfl | exact .inr rfl | assumption)) (@pss_cons _ _ _ _ _ (@ps_asg _ _ _ _ _ _ (@pe_op _ _ _ _ _ _ _ _ op_fdivS (@pe_ix _ _ _ _ _ _ _ ix_list (pv 0) pe_int (fun _ _ => rfl)) (pv 1)) (pg_sub (pv 0) pe_int set_list) (by rfl) (by rfl) (by rfl)) (@pss_one _ _ _ (@ps_ret _ _ _ _ (pv 2)))))), ?_⟩
 obtain ⟨ns, i, c, st, n, h1, h2, h3, h4, h5, h6, h7, h8, h9⟩ := id hB
 have hlb := bag_ne h1 h2
 have fin : ∀ (H1 : Hp) (i' c' : Int), H1 b = some (.lst [.ref l, .int i', .int c', .int st, .int n]) -> But (Nb b) H H1 -> 0 <= i' -> 0 <= c' -> c' < 10 ^ 60 ->
   ∀ (H2 : Hp), H2 = upd H1 b (.lst [.ref l, .int i', .int (c' / many), .int st, .int n]) -> Q (.int (c' % many)) H2 := fun H1 i' c' e1 bt g1 g2 g3 H2 e2 => by
  subst e2
  have hd1 : 0 <= c' / many := Int.ediv_nonneg g2 (by omega)
  have hd2 : c' / many <= c' := Int.ediv_le_self _ g2
  exact q _ _ (zq41x _ (by omega)) (zq42x _ hm) (bt.trans (But.set rfl)) (BagAt.put hlb (bt _ _ hlb h2) h3 h4 g1 hd1 (by omega) h8 h9)
 walk_at "st"
 refine ite2 (fun c1 => ?_) (fun c1 => ?_)
 ·have c1 : c = 0 := of_decide_eq_true c1
  walk_at "st"
  refine ite2 (fun c2 => ?_) (fun c2 => ?_)
  ·have c2 : i < (List.map V.int ns).length := of_decide_eq_true c2
   rw [zq0x] at c2
   have hi : i.toNat < ns.length := by omega
   obtain ⟨g1, g2⟩ := h3 _ (zq40x hi)
   walk_at "st"
   refine R.ixM h2 (v := .int ns[i.toNat]) (atI_some h5 (by rw [zq13x, zq1x hi]; rfl)) ?_
   walk_at "st"
   refine fin (upd H b (.lst [.ref l, .int (i + 1), .int ns[i.toNat], .int st, .int n])) (i + 1) ns[i.toNat] upd_same (But.set rfl) (by omega) g1 g2 _ ?_
   rw [upd_upd]
   rfl
  ·walk_at "st"
   exact q _ _ (zq41x _ (by omega)) (zq42x _ hm) (But.set rfl) (BagAt.put hlb h2 h3 h4 h5 h6 h7 (zq41x _ (by decide)) (zq42x _ (by decide)))
 ·have c1 : ¬ c = 0 := of_decide_eq_false (zq127x.mpr c1)
  walk_at "st"
  exact fin H i c h1 (But.refl _ _) h5 h6 h7 _ rfl
theorem eqv_nil (is : List Int) : PyData.eqv (.list (is.map PyData.int)) (.list []) = decide (is = []) := by
 cases is <;> simp [PyData.eqv, PyData.eqvAll]
theorem shaped_ints (is : List Int) : SeqAt.shaped (.list (is.map PyData.int)) = true := by
 have h : PyData.depthAll (is.map PyData.int) = 0 /\ PyData.canLayAll0 (is.map PyData.int) = true := by
  induction is with
  | nil => simp [PyData.depthAll, PyData.canLayAll0]
  | cons a r ih => simp [PyData.depthAll, PyData.depth, PyData.canLayAll0, PyData.canLay0, ih.2, ih.1]
 unfold SeqAt.shaped
 simp [PyData.canLay0, PyData.depth, h.2, h.1]
theorem isDs_ints {nb : Addr -> Prop} {H : Hp} : ∀ is : List Int, IsDs nb H (is.map PyData.int) (is.map V.int)
 | [] => IsDs.nil
 | i :: is => IsDs.cons (.int i) (isDs_ints is)
theorem noDiv_of {r : Int} (h0 : r <= 10100) (h : ∀ d : Int, 2 <= d -> d < 102 -> ¬ (d * d <= r /\ r % d = 0)) : NoDiv r := fun d d1 d2 e => by
 by_cases hd : d < 102
 ·exact h d d1 hd ⟨d2, e⟩
 ·have : 102 * 102 <= d * d := zq175x (by omega) (by omega) (by omega) (by omega)
  omega
theorem scLawPrimeFrom : FnScope ["number", "found"] ["number"] (defScope sLawPrimeFrom) := ⟨rfl, rfl, rfl, by decide +kernel, rfl, by decide +kernel, by decide +kernel⟩
theorem ok__law_prime_from (F : Fun K "_law_prime_from" "_law_prime_from" sLawPrimeFrom f fd)   (m_range : mg "range" = none)  :
  FnOk P w K mg base CX0 1 f fd ["number"] spPrimeFrom := by
 refine F.ok scLawPrimeFrom (fun vs H Q E h => ?_) (fun cdv A outer s H vs Q E hr h => ?_)
 ·obtain ⟨n, rfl, hn1, hn2, q⟩ := h
  rfl
 obtain ⟨n, rfl, hn1, hn2, q⟩ := h
 refine ⟨_, (@pss_cons _ _ _ _ _ (@ps_for _ _ _ _ _ _ _ _ zq24x rfl (@pi_range2 _ _ _ _ _ _ _ rfl m_range (@pa_cons _ _ _ _ _ (pv 0) (@pa_cons _ _ _ _ _ (@pe_op _ _ _ _ _ _ _ _ op_add (pv 0) pe_int) pa_nil rfl) rfl) (by rfl) (by rfl)) (pg_name (i := 1) scLawPrimeFrom.nd rfl (Or.inr rfl)) (@pss_one _ _ _ (@ps_if _ _ _ _ _ _ _ _ (@pt_cmpR _ _ _ _ _ _ _ _ (op_eqD hr.units) (pe_lcompC (CompOkC.of (show compOkBC (defScope sLawPrimeFrom) ["number", "found"] _ ["k", "found"] [none, some 1] = true by decide +kernel)) (@pi_range2 _ _ _ _ _ _ _ rfl m_range (@pa_cons _ _ _ _ _ pe_int (@pa_cons _ _ _ _ _ pe_int pa_nil rfl) rfl) (by rfl) (by rfl)) (fun _ _ _ _ => ⟨(pg_name (i := 0) (by show List.Nodup (["k", "found"] : List Str); decide +kernel) rfl (Or.inl rfl)), (pts_one (PW.pt (pw_and (@pt_cmpR _ _ _ _ _ _ _ _ op_le (@pe_op _ _ _ _ _ _ _ _ op_mulA (pv 0) (pv 0)) (pv 1) (nomark _)) (pw_and1 (@pt_cmpR _ _ _ _ _ _ _ _ op_eq (@pe_op _ _ _ _ _ _ _ _ op_mod (pv 1) (pv 0)) pe_int (nomark _)))))), (pv 0)⟩)) (@pe_lst _ _ _ _ pa_nil) (nomark _)) (@pss_one _ _ _ (@ps_ret _ _ _ _ (pv 1))) pss_nil)) (by intro _; rfl)) (@pss_one _ _ _ (@ps_ret _ _ _ _ pe_int))), ?_⟩
 walk_at "st"
 refine for_range (fun i σ H1 => Same H H1 /\ ∃ (x : Option V), σ = [some (.int n), x]) ⟨Same.refl _, none, rfl⟩ ?_ ?_
 ·rintro i σ H1 hi ⟨s1, x, rfl⟩
  have hi2 : (i : Int) < 60 := by omega
  walk_at "st"
  intro acc hacc
  refine R.comp_range (fun j σ H2 => Same H1 H2 /\ (∃ x : Option V, σ = [x, some (.int (n + i))]) /\ ∃ is : List Int, H2 acc = some (.lst (is.map V.int)) /\ is.length <= j /\ (is = [] -> ∀ d : Int, 2 <= d -> d < 2 + j -> ¬ (d * d <= n + i /\ (n + i) % d = 0))) ?_ ?_ ?_
  ·exact ⟨same_new hacc, ⟨none, rfl⟩, [], upd_same, zq34x _, fun _ d d1 d2 => by omega⟩
  ·rintro j σ H2 hj ⟨s2, ⟨x, rfl⟩, is, e2, l2, h2⟩
   have hj2 : (j : Int) < 100 := by omega
   have next : ∀ d : Int, d < 2 + ((j + 1 : Nat) : Int) -> d < 2 + j \/ d = 2 + j := fun d h => by omega
   walk_at "st"
   refine ite2 (fun c1 => ?_) (fun c1 => ?_)
   ·have c1 : (2 + (j : Int)) * (2 + j) <= n + i := of_decide_eq_true c1
    walk_at "st"
    refine ite2 (fun c2 => ?_) (fun c2 => ?_)
    ·have c2 : (n + i) % (2 + (j : Int)) = 0 := of_decide_eq_true c2
     walk_at "st"
     refine ⟨_, e2, ?_, ?_, ⟨_, rfl⟩, is ++ [2 + (j : Int)], ?_, ?_, fun e => ?_⟩
     ·rw [zq0x]; exact small1000 (by omega)
     ·exact fun a o h => by rw [upd_ne (ne_of_none h hacc)]; exact s2 _ _ h
     ·rw [upd_same, zq6x]; rfl
     ·rw [zq22x, zq60x]; omega
     ·simp at e
    ·have c2 : ¬ (n + i) % (2 + (j : Int)) = 0 := of_decide_eq_false (zq127x.mpr c2)
     refine ⟨s2, ⟨_, rfl⟩, is, e2, by omega, fun e d d1 d2 => ?_⟩
     rcases next d d2 with h | h
     ·exact h2 e d d1 h
     ·rw [h]; exact fun z => c2 z.2
   ·have c1 : ¬ (2 + (j : Int)) * (2 + j) <= n + i := of_decide_eq_false (zq127x.mpr c1)
    walk_at "st"
    refine ⟨s2, ⟨_, rfl⟩, is, e2, by omega, fun e d d1 d2 => ?_⟩
    rcases next d d2 with h | h
    ·exact h2 e d d1 h
    ·rw [h]; exact fun z => c1 z.1
  ·rintro σ H2 ⟨s2, ⟨x, rfl⟩, is, e2, l2, h2⟩
   walk_at "st"
   refine R.lstA (by decide) fun p H3 s3 f3 e3 => ?_
   refine ⟨fun _ => False, .list (is.map PyData.int), .list [], .lst id (s3 _ _ e2) (isDs_ints is), .lst id e3 IsDs.nil, shaped_ints is, by decide, ?_⟩
   rw [eqv_nil]
   walk_at "st"
   have s : Same H H3 := s1.trans (s2.trans s3)
   refine ite2 (fun c => ?_) (fun c => ?_)
   ·have c : is = [] := by simpa using c
    walk_at "st"
    exact q _ _ s (by omega) (by omega) (noDiv_of (by omega) fun d d1 d2 => h2 c d d1 (by omega))
   ·walk_at "st"
    exact ⟨s, _, rfl⟩
 ·rintro σ H1 ⟨s1, x, rfl⟩
  walk_at "st"
  refine q _ _ s1 (by omega) (by omega) fun d d1 d2 => ?_
  have : 2 * 2 <= d * d := zq175x d1 d1 (by omega) (by omega)
  omega
theorem primeList_ok : ∀ x ∈ primeList, 2 <= x /\ x < 10 ^ 40 := by decide
def primeK : List Int := [2, 3, 5, 7, 2, 11, 101, 10007, 65537, 1000003, 998244353, 1000000007, 2147483647, 1000000000039, 10 ^ 39 + 3, 10 ^ 40 - 17, 2305843009213693951, 618970019642690137449562111, 162259276829213363391578010288127, 170141183460469231731687303715884105727]
theorem primeK_in : ∀ x ∈ primeK, x ∈ primeList := by decide
theorem scLawPrime : FnScope ["bag", "some", "way"] ["bag"] (defScope sLawPrime) := ⟨rfl, rfl, rfl, by decide +kernel, rfl, by decide +kernel, by decide +kernel⟩
theorem ok__law_prime (F : Fun K "_law_prime" "_law_prime" sLawPrime f fd)  (c__law_draw : Callee P w K mg base "_law_draw" 1 ["bag", "many"] spDraw) (c__law_prime_from : Callee P w K mg base "_law_prime_from" 1 ["number"] spPrimeFrom)   :
  FnOk P w K mg base CX0 2 f fd ["bag"] spPrime := by
 refine F.ok scLawPrime (fun vs H Q E h => ?_) (fun cdv A outer s H vs Q E hr h => ?_)
 ·obtain ⟨b, l, rfl, hB, q⟩ := h
  rfl
 obtain ⟨b, l, rfl, hB, q⟩ := h
 refine ⟨_, (@pss_cons _ _ _ _ _ (@ps_setInts _ 1 _ _ _ _ _ _ scLawPrime.nd rfl (Or.inl rfl) rfl (Or.inl rfl)) (@pss_cons _ _ _ _ _ (@ps_set _ _ (1) _ _ _ _ scLawPrime.nd rfl (Or.inl rfl) (@pe_op _ _ _ _ _ _ _ _ op_cat (pv 1) (@pe_lst _ _ _ _ (@pa_cons _ _ _ _ _ (@pe_op _ _ _ _ _ _ _ _ op_add (@pe_op _ _ _ _ _ _ _ _ op_pow pe_int pe_int) pe_int) (@pa_cons _ _ _ _ _ (@pe_op _ _ _ _ _ _ _ _ op_sub (@pe_op _ _ _ _ _ _ _ _ op_pow pe_int pe_int) pe_int) (@pa_cons _ _ _ _ _ pe_int (@pa_cons _ _ _ _ _ pe_int pa_nil rfl) rfl) rfl) rfl))) (by rfl) (by first | exact .inl rfl | exact .inr rfl | assumption)) (@pss_cons _ _ _ _ _ (@ps_set _ _ (1) _ _ _ _ scLawPrime.nd rfl (Or.inl rfl) (@pe_op _ _ _ _ _ _ _ _ op_cat (pv 1) (@pe_lst _ _ _ _ (@pa_cons _ _ _ _ _ pe_int (@pa_cons _ _ _ _ _ pe_int pa_nil rfl) rfl))) (by rfl) (by first | exact .inl rfl | exact .inr rfl | assumption)) (@pss_cons _ _ _ _ _ (@ps_set _ _ (2) _ _ _ _ scLawPrime.nd rfl (Or.inl rfl) (@pe_callC _ _ _ _ _ _ _ _ _ _ c__law_draw (hr.mono (by decide)) (@pa_cons _ _ _ _ _ (pv 0) (@pa_cons _ _ _ _ _ pe_int pa_nil rfl) rfl) (by rfl) (by decide) (by rfl) (by rfl)) (by rfl) (by first | exact .inl rfl | exact .inr rfl | assumption)) (@pss_one _ _ _ (@ps_ret _ _ _ _ (@pe_ifExp _ _ _ _ _ _ _ _ (@pt_cmpR _ _ _ _ _ _ _ _ op_lt (pv 2) pe_int (nomark _)) (@pe_ix _ _ _ _ _ _ _ ix_list (pv 1) (pv 2) (fun _ _ => rfl)) (@pe_callC _ _ _ _ _ _ _ _ _ _ c__law_prime_from (hr.mono (by decide)) (@pa_cons _ _ _ _ _ (@pe_op _ _ _ _ _ _ _ _ op_add pe_int (@pe_callC _ _ _ _ _ _ _ _ _ _ c__law_draw (hr.mono (by decide)) (@pa_cons _ _ _ _ _ (pv 0) (@pa_cons _ _ _ _ _ pe_int pa_nil rfl) rfl) (by rfl) (by decide) (by rfl) (by rfl))) pa_nil rfl) (by rfl) (by decide) (by rfl) (by rfl))))))))), ?_⟩
 walk_at "st"
 refine R.lstA (by decide) fun p1 H1 s1 f1 e1 => ?_
 walk_at "st"
 refine R.lstA (by decide) fun p2 H2 s2 f2 e2 => ?_
 refine R.catA (s2 _ _ e1) e2 (by decide) fun p3 H3 s3 f3 e3 => ?_
 walk_at "st"
 refine R.lstA (by decide) fun p4 H4 s4 f4 e4 => ?_
 refine R.catA (s4 _ _ e3) e4 (by decide) fun p5 H5 s5 f5 e5 => ?_
 have s : Same H H5 := s1.trans (s2.trans (s3.trans (s4.trans s5)))
 have s16 : Same H H4 := s1.trans (s2.trans (s3.trans s4))
 have B7 := hB.same s
 have ne7 := (hB.same s16).ne f5
 have e7' : H5 p5 = some (.lst (primeK.map V.int)) := e5
 walk_at "st"
 refine ⟨b, l, 24, rfl, B7, by omega, by walk_at "ds", fun way H8 w1 w2 bt8 B8 => ?_⟩
 have e8 := bt8 _ _ (show ¬ Nb b p5 from ne7.1) e7'
 walk_at "st"
 refine ite2 (fun c => ?_) (fun c => ?_)
 ·have c : way < 20 := of_decide_eq_true c
  have hw : way.toNat < primeK.length := by show way.toNat < 20; omega
  walk_at "st"
  refine R.ixM e8 (v := .int primeK[way.toNat]) (atI_some w1 (by rw [zq13x, zq1x hw]; rfl)) ?_
  have hm := primeK_in _ (zq40x hw)
  obtain ⟨g1, g2⟩ := primeList_ok _ hm
  exact q _ _ ⟨g1, g2, .inl hm⟩ ((But.of s).trans bt8) B8
 ·walk_at "st"
  refine ⟨b, l, 10000, rfl, B8, by omega, by walk_at "ds", fun r H9 r1 r2 bt9 B9 => ?_⟩
  walk_at "st"
  refine ⟨2 + r, rfl, by omega, by omega, fun p H10 s10 p1 p2 nd => ?_⟩
  exact q _ _ ⟨p1, by omega, .inr nd⟩ ((But.of s).trans (bt8.trans (bt9.trans (But.of s10)))) (B9.same s10)
def F__law_factor : DF := fun ds Φ => ∃ p : Int, ds = [.int p] /\ 2 <= p /\ p < 10 ^ 40 /\ ∀ x : Int, Φ true (.int x)
theorem mono__law_factor : MonoF F__law_factor := by
 intro ds Φ Ψ hm z
 obtain ⟨p, e, h1, h2, q⟩ := hm
 exact ⟨p, e, h1, h2, fun x => z _ _ (q x)⟩
theorem scLawFactor : FnScope ["bag", "p"] ["bag", "p"] (defScope sLawFactor) := ⟨rfl, rfl, rfl, by decide +kernel, rfl, by decide +kernel, by decide +kernel⟩
theorem ok__law_factor (F : Fun K "_law_factor" "_law_factor" sLawFactor f fd)  (c__law_draw : Callee P w K mg base "_law_draw" 1 ["bag", "many"] spDraw)   :
  FnOk P w K mg base CX0 2 f fd ["bag", "p"] (spB 2 F__law_factor) := by
 refine F.ok scLawFactor (fun vs H Q E h => h.1) (fun cdv A outer s H vs Q E hr h => ?_)
 obtain ⟨b, l, ws, nb, ds, Φ, rfl, hB, hlive, hnb, hds, hΦ, hF⟩ := spB_out h
 obtain ⟨p, rfl, p2, p40, q⟩ := hF
 refine ⟨_, (@pss_one _ _ _ (@ps_ret _ _ _ _ (@pe_op _ _ _ _ _ _ _ _ op_mod (@pe_op _ _ _ _ _ _ _ _ op_mulA (@pe_op _ _ _ _ _ _ _ _ op_add pe_int (@pe_callC _ _ _ _ _ _ _ _ _ _ c__law_draw (hr.mono (by decide)) (@pa_cons _ _ _ _ _ (pv 0) (@pa_cons _ _ _ _ _ (@pe_op _ _ _ _ _ _ _ _ op_sub (pv 1) pe_int) pa_nil rfl) rfl) (by rfl) (by decide) (by rfl) (by rfl))) (@pe_op _ _ _ _ _ _ _ _ op_add (@pe_op _ _ _ _ _ _ _ _ op_fdivS (pv 1) pe_int) pe_int)) (pv 1)))), ?_⟩
 refine Sv.enterB hB hlive hnb hds hΦ (ρ := [.bag, .d false _]) rfl ?_
 clear hΦ hds
 walk_at "dt"
 intro r r1 r2
 walk_at "dt"
 exact q _
def F__law_turned : DF := fun ds Φ => ∃ es : List PyData, ds = [.list es] /\ es.length <= 9000 /\ ∀ (f : Bool) (rs : List PyData), rs.Perm es -> Φ f (.list rs)
theorem mono__law_turned : MonoF F__law_turned := by
 intro ds Φ Ψ hm z
 obtain ⟨es, e, h1, q⟩ := hm
 exact ⟨es, e, h1, fun f rs a => z _ _ (q f rs a)⟩
theorem scLawTurned : FnScope ["bag", "row", "left"] ["bag", "row"] (defScope sLawTurned) := ⟨rfl, rfl, rfl, by decide +kernel, rfl, by decide +kernel, by decide +kernel⟩
theorem ok__law_turned (F : Fun K "_law_turned" "_law_turned" sLawTurned f fd)  (c__law_draw : Callee P w K mg base "_law_draw" 1 ["bag", "many"] spDraw) (m_list : mg "list" = none) (m_range : mg "range" = none) (m_len : mg "len" = none)  :
  FnOk P w K mg base CX0 2 f fd ["bag", "row"] (spB 2 F__law_turned) := by
 refine F.ok scLawTurned (fun vs H Q E h => h.1) (fun cdv A outer s H vs Q E hr h => ?_)
 obtain ⟨b, l, ws, nb, ds, Φ, rfl, hB, hlive, hnb, hds, hΦ, hF⟩ := spB_out h
 obtain ⟨es, rfl, hl, q⟩ := hF
 refine ⟨_, (@pss_cons _ _ _ _ _ (@ps_set _ _ (2) _ _ _ _ scLawTurned.nd rfl (Or.inr rfl) (@pe_callTy _ _ _ _ _ _ _ _ (rListOf K) call_listM rfl m_list zq30x (@pa_cons _ _ _ _ _ (pv 1) pa_nil rfl) (by decide) (by decide) (by rfl) (by rfl)) (by rfl) (by first | exact .inl rfl | exact .inr rfl | assumption)) (@pss_one _ _ _ (@ps_ret _ _ _ _ (pe_lcompC (CompOkC.of (show compOkBC (defScope sLawTurned) ["bag", "row", "left"] _ ["k", "bag", "left"] [none, some 0, some 2] = true by decide +kernel)) (@pi_range1 _ _ _ _ _ _ rfl m_range (@pa_cons _ _ _ _ _ (@pe_callB _ _ _ _ _ _ _ _ (rLen K) call_lenM rfl m_len zq32x (@pa_cons _ _ _ _ _ (pv 1) pa_nil rfl) (by decide) (by decide) (by rfl) (by rfl)) pa_nil rfl) (by rfl)) (fun _ _ _ _ => ⟨(pg_name (i := 0) (by show List.Nodup (["k", "bag", "left"] : List Str); decide +kernel) rfl (Or.inl rfl)), pts_nil, (pe_bmJ (K := K) rfl (pe_bm zq76x zq197x zq198x mt_popAt (pv 2) (@pa_cons _ _ _ _ _ (@pe_callC _ _ _ _ _ _ _ _ _ _ c__law_draw (hr.mono (by decide)) (@pa_cons _ _ _ _ _ (pv 1) (@pa_cons _ _ _ _ _ (@pe_callB _ _ _ _ _ _ _ _ (rLen K) call_lenM rfl m_len zq32x (@pa_cons _ _ _ _ _ (pv 2) pa_nil rfl) (by decide) (by decide) (by rfl) (by rfl)) pa_nil rfl) rfl) (by rfl) (by decide) (by rfl) (by rfl)) pa_nil rfl)))⟩))))), ?_⟩
 refine Sv.enterB hB hlive hnb hds hΦ (ρ := [.bag, .d false _, .no]) rfl ?_
 clear hΦ hds
 refine Sv.seq ?_
 refine Sv.asgN (EvN.listOf ?_)
 walk_at "dt"
 intro A2
 refine Sv.retTurn rfl rfl hl ?_ (fun rs hp => q _ rs hp)
 walk_at "dt"
 rfl
def F__law_copy : DF := fun ds Φ => ∃ (p n : Int) (cs : List Prs), ds = [netD p n cs] /\ cs.length <= 10000 /\ ∀ f, Φ f (netD p n cs)
theorem mono__law_copy : MonoF F__law_copy := by
 intro ds Φ Ψ hm z
 obtain ⟨p, n, cs, e, h, q⟩ := hm
 exact ⟨p, n, cs, e, h, fun f => z _ _ (q f)⟩
theorem scLawCopy : FnScope ["net"] ["net"] (defScope sLawCopy) := ⟨rfl, rfl, rfl, by decide +kernel, rfl, by decide +kernel, by decide +kernel⟩
theorem ok__law_copy (F : Fun K "_law_copy" "_law_copy" sLawCopy f fd)   (m_list : mg "list" = none)  :
  FnOk P w K mg base CX0 1 f fd ["net"] (spD 1 F__law_copy) := by
 refine F.ok scLawCopy (fun vs H Q E h => h.1) (fun cdv A outer s H vs Q E hr h => ?_)
 obtain ⟨nb, ds, Φ, hlive, hds, hΦ, hF⟩ := spD_out h
 obtain ⟨p, n, cs, rfl, hl, q⟩ := hF
 refine ⟨_, (@pss_one _ _ _ (@ps_ret _ _ _ _ (@pe_tup _ _ _ _ _ (@pa_cons _ _ _ _ _ (@pe_ix _ _ _ _ _ _ (rIxT K) ix_tup (pv 0) pe_int (fun _ _ => rfl)) (@pa_cons _ _ _ _ _ (@pe_ix _ _ _ _ _ _ (rIxT K) ix_tup (pv 0) pe_int (fun _ _ => rfl)) (@pa_cons _ _ _ _ _ (pe_lcompC (CompOkC.of (show compOkBC (defScope sLawCopy) ["net"] _ ["pairs"] [none] = true by decide +kernel)) (pi_listK (K := K) rfl (@pe_ix _ _ _ _ _ _ (rIxT K) ix_tup (pv 0) pe_int (fun _ _ => rfl))) (fun _ _ _ _ => ⟨(pg_name (i := 0) (by show List.Nodup (["pairs"] : List Str); decide +kernel) rfl (Or.inl rfl)), pts_nil, (@pe_callTy _ _ _ _ _ _ _ _ (rListOf K) call_listM rfl m_list zq30x (@pa_cons _ _ _ _ _ (pv 0) pa_nil rfl) (by decide) (by decide) (by rfl) (by rfl))⟩)) pa_nil rfl) rfl) rfl)))), ?_⟩
 refine Sv.enterD hlive hds hΦ (ρ := [.d false _]) rfl ?_
 clear hΦ hds
 walk_at "dt"
 refine EvN.ev (EvN.compL (by decide) rfl ?_)
 walk_at "dt"
 refine ⟨by rw [zq0x]; exact hl, fun v => ⟨false, fun i ds => ds = (cs.take i).map prsD, rfl, ?_, ?_⟩⟩
 ·rintro i d ds hd hl' rfl
  obtain ⟨prs, hprs, rfl⟩ := map_at hd
  walk_at "dt"
  refine ⟨by walk_at "wk", ?_⟩
  walk_at "dt"
  refine ⟨fun z => (by cases z), ?_⟩
  show _ = List.map _ _
  rw [take_snoc hprs, zq6x]
  rfl
 ·rintro ds hl' rfl
  rw [zq0x, zq20x]
  walk_at "dt"
  exact q _
def alikeOk : Nat -> PyData -> Prop
 | 0, _ => False
 | n + 1, d => scB d = true \/ ∃ ds, (d = .list ds \/ d = .tuple ds) /\ ds.length <= 10000 /\ ∀ e ∈ ds, alikeOk n e
def F__law_alike (n : Nat) : DF := fun ds Φ => ∃ d, ds = [d, d] /\ alikeOk n d /\ Φ true (.bool true)
theorem mono__law_alike (n : Nat) : MonoF (F__law_alike n) := fun ds Φ Ψ ⟨d, e, h, q⟩ z => ⟨d, e, h, z _ _ q⟩
theorem void__law_alike : ∀ vs H Q E, ¬ spD 2 (F__law_alike 0) vs H Q E := fun vs H Q E ⟨_, _, _, _, _, d, _, h, _⟩ => h
theorem scLawAlike : FnScope ["found", "due"] ["found", "due"] (defScope sLawAlike) := ⟨rfl, rfl, rfl, by decide +kernel, rfl, by decide +kernel, by decide +kernel⟩
theorem ok__law_alike (n : Nat) (F : Fun K "_law_alike" "_law_alike" sLawAlike f fd) (c__law_alike : Callee P w K mg base "_law_alike" (n) ["found", "due"] (spD 2 (F__law_alike n)))   (m_isinstance : mg "isinstance" = none) (m_list : mg "list" = none) (m_tuple : mg "tuple" = none) (m_all : mg "all" = none) (m_len : mg "len" = none) (m_bool : mg "bool" = none) (m_int : mg "int" = none) (m_str : mg "str" = none) (m_range : mg "range" = none)  :
  FnOk P w K mg base CX0 (n + 1) f fd ["found", "due"] (spD 2 (F__law_alike (n + 1))) := by
 refine F.ok scLawAlike (fun vs H Q E h => h.1) (fun cdv A outer s H vs Q E hr h => ?_)
 obtain ⟨nb, ds, Φ, hlive, hds, hΦ, hF⟩ := spD_out h
 obtain ⟨d, rfl, hok, q⟩ := hF
 refine ⟨_, (@pss_cons _ _ _ _ _ (@ps_if _ _ _ _ _ _ _ _ (@pt_truthK _ (K) _ _ rfl (@pe_callB _ _ _ _ _ _ _ _ (rIsiT) call_isiT rfl m_isinstance zq64x (@pa_cons _ _ _ _ _ (pv 1) (@pa_cons _ _ _ _ _ (@pe_tup _ _ _ _ _ (@pa_cons _ _ _ _ _ (pe_bltn (v := .ty "list") rfl m_list zq30x rfl) (@pa_cons _ _ _ _ _ (pe_bltn (v := .ty "tuple") rfl m_tuple zq200x rfl) pa_nil rfl) rfl)) pa_nil rfl) rfl) (by decide) (by decide) (by rfl) (by rfl)) (fun _ => rfl)) (@pss_cons _ _ _ _ _ (@ps_if _ _ _ _ _ _ _ _ (PW.pt (pw_or (@pt_not _ _ _ _ (@pt_truthK _ (K) _ _ rfl (@pe_callB _ _ _ _ _ _ _ _ (rIsiT) call_isiT rfl m_isinstance zq64x (@pa_cons _ _ _ _ _ (pv 0) (@pa_cons _ _ _ _ _ (@pe_tup _ _ _ _ _ (@pa_cons _ _ _ _ _ (pe_bltn (v := .ty "list") rfl m_list zq30x rfl) (@pa_cons _ _ _ _ _ (pe_bltn (v := .ty "tuple") rfl m_tuple zq200x rfl) pa_nil rfl) rfl)) pa_nil rfl) rfl) (by decide) (by decide) (by rfl) (by rfl)) (fun _ => rfl))) (pw_or1 (@pt_cmpR _ _ _ _ _ _ _ _ op_ne (@pe_callB _ _ _ _ _ _ _ _ (rIsi K) call_isi rfl m_isinstance zq64x (@pa_cons _ _ _ _ _ (pv 0) (@pa_cons _ _ _ _ _ (pe_bltn (v := .ty "list") rfl m_list zq30x rfl) pa_nil rfl) rfl) (by decide) (by decide) (by rfl) (by rfl)) (@pe_callB _ _ _ _ _ _ _ _ (rIsi K) call_isi rfl m_isinstance zq64x (@pa_cons _ _ _ _ _ (pv 1) (@pa_cons _ _ _ _ _ (pe_bltn (v := .ty "list") rfl m_list zq30x rfl) pa_nil rfl) rfl) (by decide) (by decide) (by rfl) (by rfl)) (nomark _))))) (@pss_one _ _ _ (@ps_ret _ _ _ _ pe_bl)) pss_nil) (@pss_cons _ _ _ _ _ (@ps_if _ _ _ _ _ _ _ _ (@pt_cmpR _ _ _ _ _ _ _ _ op_ne (@pe_callB _ _ _ _ _ _ _ _ (rLen K) call_lenM rfl m_len zq32x (@pa_cons _ _ _ _ _ (pv 0) pa_nil rfl) (by decide) (by decide) (by rfl) (by rfl)) (@pe_callB _ _ _ _ _ _ _ _ (rLen K) call_lenM rfl m_len zq32x (@pa_cons _ _ _ _ _ (pv 1) pa_nil rfl) (by decide) (by decide) (by rfl) (by rfl)) (nomark _)) (@pss_one _ _ _ (@ps_ret _ _ _ _ pe_bl)) pss_nil) (@pss_one _ _ _ (@ps_ret _ _ _ _ (@pe_callB _ _ _ _ _ _ _ _ (rAll K) (call_allM rfl) rfl m_all PyProof.Rows.boot_all (@pa_cons _ _ _ _ _ (pe_lcompC (CompOkC.of (show compOkBC (defScope sLawAlike) ["found", "due"] _ ["k", "found", "due"] [none, some 0, some 1] = true by decide +kernel)) (@pi_range1 _ _ _ _ _ _ rfl m_range (@pa_cons _ _ _ _ _ (@pe_callB _ _ _ _ _ _ _ _ (rLen K) call_lenM rfl m_len zq32x (@pa_cons _ _ _ _ _ (pv 1) pa_nil rfl) (by decide) (by decide) (by rfl) (by rfl)) pa_nil rfl) (by rfl)) (fun _ _ _ _ => ⟨(pg_name (i := 0) (by show List.Nodup (["k", "found", "due"] : List Str); decide +kernel) rfl (Or.inl rfl)), pts_nil, (@pe_callC _ _ _ _ _ _ _ _ _ _ c__law_alike (hr.mono (zq3x _)) (@pa_cons _ _ _ _ _ (@pe_ix _ _ _ _ _ _ (rIx K) ix_seq (pv 1) (pv 0) (fun _ _ => rfl)) (@pa_cons _ _ _ _ _ (@pe_ix _ _ _ _ _ _ (rIx K) ix_seq (pv 2) (pv 0) (fun _ _ => rfl)) pa_nil rfl) rfl) (by rfl) (by decide) (by rfl) (by rfl))⟩)) pa_nil rfl) (by decide) (by decide) (by rfl) (by rfl)))))) pss_nil) (@pss_cons _ _ _ _ _ (@ps_if _ _ _ _ _ _ _ _ (PW.pt (pw_or (@pt_cmpR _ _ _ _ _ _ _ _ op_ne (@pe_callB _ _ _ _ _ _ _ _ (rIsi K) call_isi rfl m_isinstance zq64x (@pa_cons _ _ _ _ _ (pv 0) (@pa_cons _ _ _ _ _ (pe_bltn (v := .ty "bool") rfl m_bool zq201x rfl) pa_nil rfl) rfl) (by decide) (by decide) (by rfl) (by rfl)) (@pe_callB _ _ _ _ _ _ _ _ (rIsi K) call_isi rfl m_isinstance zq64x (@pa_cons _ _ _ _ _ (pv 1) (@pa_cons _ _ _ _ _ (pe_bltn (v := .ty "bool") rfl m_bool zq201x rfl) pa_nil rfl) rfl) (by decide) (by decide) (by rfl) (by rfl)) (nomark _)) (pw_or1 (@pt_cmpR _ _ _ _ _ _ _ _ op_ne (@pe_callB _ _ _ _ _ _ _ _ (rIsi K) call_isi rfl m_isinstance zq64x (@pa_cons _ _ _ _ _ (pv 0) (@pa_cons _ _ _ _ _ (pe_bltn (v := .ty "int") rfl m_int zq202x rfl) pa_nil rfl) rfl) (by decide) (by decide) (by rfl) (by rfl)) (@pe_callB _ _ _ _ _ _ _ _ (rIsi K) call_isi rfl m_isinstance zq64x (@pa_cons _ _ _ _ _ (pv 1) (@pa_cons _ _ _ _ _ (pe_bltn (v := .ty "int") rfl m_int zq202x rfl) pa_nil rfl) rfl) (by decide) (by decide) (by rfl) (by rfl)) (nomark _))))) (@pss_one _ _ _ (@ps_ret _ _ _ _ pe_bl)) pss_nil) (@pss_one _ _ _ (@ps_ret _ _ _ _ (@pe_and _ _ _ _ _ _ _ (@pe_cmpR _ _ _ _ _ _ _ _ op_eq (@pe_callB _ _ _ _ _ _ _ _ (rIsi K) call_isi rfl m_isinstance zq64x (@pa_cons _ _ _ _ _ (pv 0) (@pa_cons _ _ _ _ _ (pe_bltn (v := .ty "str") rfl m_str zq203x rfl) pa_nil rfl) rfl) (by decide) (by decide) (by rfl) (by rfl)) (@pe_callB _ _ _ _ _ _ _ _ (rIsi K) call_isi rfl m_isinstance zq64x (@pa_cons _ _ _ _ _ (pv 1) (@pa_cons _ _ _ _ _ (pe_bltn (v := .ty "str") rfl m_str zq203x rfl) pa_nil rfl) rfl) (by decide) (by decide) (by rfl) (by rfl)) (nomark _)) (@pe_one _ _ _ _ _ (@pe_cmpR _ _ _ _ _ _ _ _ op_eq (pv 0) (pv 1) (nomark _)))))))), ?_⟩
 refine Sv.enterD hlive hds hΦ (ρ := [.d false _, .d false _]) rfl ?_
 clear hΦ hds
 walk_at "dt"
 rcases hok with hs | ⟨ds, hd, hl, he⟩
 ·have h1 : (isiD d "list" || isiD d "tuple") = false := by cases d <;> first | rfl | cases hs
  rw [h1]
  walk_at "dt"
  rw [beq_self_eq_true]
  walk_at "dt"
  rw [beq_self_eq_true]
  walk_at "dt"
  rw [beq_self_eq_true]
  walk_at "dt"
  exact ⟨true, .self hs, q⟩
 rcases hd with rfl | rfl
 ·rw [(isi_list ds).1, (isi_list ds).2, Bool.true_or]
  walk_at "dt"
  refine EvN.ev (EvN.compR1 (by decide) rfl ?_)
  walk_at "dt"
  refine ⟨true, fun i es => es = List.replicate i (.bool true), rfl, ?_, ?_⟩
  ·rintro i d' es ⟨hi, rfl⟩ hl' rfl
   have hi' : i < ds.length := by omega
   have hat : atI ds (0 + (i : Int)) = some ds[i] := atI_some (by omega) (by rw [show (0 + (i : Int)).toNat = i by omega]; exact zq1x hi')
   walk_at "dt"
   refine ⟨by walk_at "wk", ?_⟩
   walk_at "dt"
   refine Ev.callD (mono__law_alike n) ?_
   walk_at "dt"
   refine ⟨rfl, ds[i], rfl, he _ (zq40x hi'), fun _ => rfl, ?_⟩
   show _ = List.replicate (i + 1) _
   rw [zq204x]
  ·rintro es hl' rfl
   refine ⟨List.replicate ds.length true, by simp, ?_⟩
   rw [show (List.replicate ds.length true).all id = true by simp]
   exact q
 ·rw [(isi_tuple ds).1, (isi_tuple ds).2, zq98x]
  walk_at "dt"
  refine EvN.ev (EvN.compR1 (by decide) rfl ?_)
  walk_at "dt"
  refine ⟨true, fun i es => es = List.replicate i (.bool true), rfl, ?_, ?_⟩
  ·rintro i d' es ⟨hi, rfl⟩ hl' rfl
   have hi' : i < ds.length := by omega
   have hat : atI ds (0 + (i : Int)) = some ds[i] := atI_some (by omega) (by rw [show (0 + (i : Int)).toNat = i by omega]; exact zq1x hi')
   walk_at "dt"
   refine ⟨by walk_at "wk", ?_⟩
   walk_at "dt"
   refine Ev.callD (mono__law_alike n) ?_
   walk_at "dt"
   refine ⟨rfl, ds[i], rfl, he _ (zq40x hi'), fun _ => rfl, ?_⟩
   show _ = List.replicate (i + 1) _
   rw [zq204x]
  ·rintro es hl' rfl
   refine ⟨List.replicate ds.length true, by simp, ?_⟩
   rw [show (List.replicate ds.length true).all id = true by simp]
   exact q
def F__law_direction : DF := fun ds Φ => ∃ q s : Int, ds = [.int q, .int s] /\ 2 <= q /\ q <= 7 /\ 0 <= s /\ s <= q /\ ∀ R : List (List Int), R.length = q.toNat -> (∀ (t : Nat) r, R[t]? = some r -> LnS q s t r) -> Φ true (.list (R.map rowD))
theorem mono__law_direction : MonoF F__law_direction := by
 intro ds Φ Ψ hm z
 obtain ⟨q, s, e, h1, h2, h3, h4, k⟩ := hm
 exact ⟨q, s, e, h1, h2, h3, h4, fun R a b => z _ _ (k R a b)⟩
theorem scLawDirection : FnScope ["q", "s"] ["q", "s"] (defScope sLawDirection) := ⟨rfl, rfl, rfl, by decide +kernel, rfl, by decide +kernel, by decide +kernel⟩
theorem ok__law_direction (F : Fun K "_law_direction" "_law_direction" sLawDirection f fd)   (m_range : mg "range" = none)  :
  FnOk P w K mg base CX0 1 f fd ["q", "s"] (spD 2 F__law_direction) := by
 refine F.ok scLawDirection (fun vs H Q E h => h.1) (fun cdv A outer s H vs Q E hr h => ?_)
 obtain ⟨nb, ds, Φ, hlive, hds, hΦ, hF⟩ := spD_out h
 obtain ⟨q, s, rfl, q2, q7, s0, s1, k⟩ := hF
 refine ⟨_, (@pss_cons _ _ _ _ _ (@ps_if _ _ _ _ _ _ _ _ (@pt_cmpR _ _ _ _ _ _ _ _ op_eq (pv 1) (pv 0) (nomark _)) (@pss_one _ _ _ (@ps_ret _ _ _ _ (pe_lcompC (CompOkC.of (show compOkBC (defScope sLawDirection) ["q", "s"] _ ["t", "q"] [none, some 0] = true by decide +kernel)) (@pi_range1 _ _ _ _ _ _ rfl m_range (@pa_cons _ _ _ _ _ (pv 0) pa_nil rfl) (by rfl)) (fun _ _ _ _ => ⟨(pg_name (i := 0) (by show List.Nodup (["t", "q"] : List Str); decide +kernel) rfl (Or.inr rfl)), pts_nil, (by (refine' pe_lcompND (CompOkC.of (NX := ["t", "q"]) (N := ["y", "t", "q"]) (mp := [none, some 0, some 1]) ?nc0) ?ni0 ?nb0); (case ni0 => exact (pi_range1 rfl m_range (pa_cons (pv 1) pa_nil rfl))); (case nb0 => exact (fun _ _ _ _ => ⟨(pg_name (i := 0) (by show List.Nodup (["y", "t", "q"] : List Str); decide +kernel) rfl (Or.inl rfl)), pts_nil, (pe_op op_add (pe_op op_mulA (pv 1) (pv 2)) (pv 0))⟩)); (case nc0 => decide +kernel))⟩)))) pss_nil) (@pss_one _ _ _ (@ps_ret _ _ _ _ (pe_lcompC (CompOkC.of (show compOkBC (defScope sLawDirection) ["q", "s"] _ ["t", "q", "s"] [none, some 0, some 1] = true by decide +kernel)) (@pi_range1 _ _ _ _ _ _ rfl m_range (@pa_cons _ _ _ _ _ (pv 0) pa_nil rfl) (by rfl)) (fun _ _ _ _ => ⟨(pg_name (i := 0) (by show List.Nodup (["t", "q", "s"] : List Str); decide +kernel) rfl (Or.inr rfl)), pts_nil, (by (refine' pe_lcompND (CompOkC.of (NX := ["t", "q", "s"]) (N := ["x", "t", "q", "s"]) (mp := [none, some 0, some 1, some 2]) ?nc1) ?ni1 ?nb1); (case ni1 => exact (pi_range1 rfl m_range (pa_cons (pv 1) pa_nil rfl))); (case nb1 => exact (fun _ _ _ _ => ⟨(pg_name (i := 0) (by show List.Nodup (["x", "t", "q", "s"] : List Str); decide +kernel) rfl (Or.inl rfl)), pts_nil, (pe_op op_add (pe_op op_mulA (pv 0) (pv 2)) (pe_op op_mod (pe_op op_add (pe_op op_mulA (pv 3) (pv 0)) (pv 1)) (pv 2)))⟩)); (case nc1 => decide +kernel))⟩))))), ?_⟩
 refine Sv.enterD hlive hds hΦ (ρ := [.d false _, .d false _]) rfl ?_
 clear hΦ hds
 refine Sv.seq ?_
 refine Sv.ifS ?_
 walk_at "dt"
 have hm : ∀ a : Nat, a < q.toNat -> 0 <= (a : Int) * q /\ (a : Int) * q <= 49 := fun a ha => by
  refine ⟨Int.mul_nonneg (by omega) (by omega), Int.le_trans (zq175x (show (a : Int) <= 7 by omega) q7 (by omega) (by omega)) (by decide)⟩
 by_cases c : s = q
 ·walk_at "dt"
  refine EvN.ev (EvN.compR1 (by decide) rfl ?_)
  walk_at "dt"
  refine CompD.rel rowD true (fun t r => LnS q s t r) ?_ fun R hRl hR => k R (by omega) hR
  rintro t d ⟨ht, rfl⟩
  walk_at "dt"
  refine ⟨by walk_at "wk", ?_⟩
  refine EvN.ev (EvN.compR1 (by decide) rfl ?_)
  walk_at "dt"
  refine CompD.rel PyData.int true (fun a x => x = (t : Int) * q + a) ?_ fun os hol hos => ⟨fun _ => rfl, os, rfl, ⟨s0, s1, by omega, by omega, by omega, fun a x e => by rw [if_pos c, hos a x e]⟩⟩
  rintro a d ⟨ha, rfl⟩
  walk_at "dt"
  refine ⟨by walk_at "wk", ?_⟩
  walk_at "dt"
  rw [zq111x, zq111x]
 ·walk_at "dt"
  refine EvN.ev (EvN.compR1 (by decide) rfl ?_)
  walk_at "dt"
  refine CompD.rel rowD true (fun t r => LnS q s t r) ?_ fun R hRl hR => k R (by omega) hR
  rintro t d ⟨ht, rfl⟩
  walk_at "dt"
  refine ⟨by walk_at "wk", ?_⟩
  refine EvN.ev (EvN.compR1 (by decide) rfl ?_)
  walk_at "dt"
  refine CompD.rel PyData.int true (fun a x => x = (a : Int) * q + (s * a + t) % q) ?_ fun os hol hos => ⟨fun _ => rfl, os, rfl, ⟨s0, s1, by omega, by omega, by omega, fun a x e => by rw [if_neg c, hos a x e]⟩⟩
  rintro a d ⟨ha, rfl⟩
  walk_at "dt"
  refine ⟨by walk_at "wk", ?_⟩
  walk_at "dt"
  rw [zq111x, zq111x]
theorem shaped_prs (prs : Prs) : SeqAt.shaped (prsD prs) = true := (shaped_pairs prs).1
theorem eqv_prs_nil (prs : Prs) : PyData.eqv (prsD prs) (.list []) = prs.isEmpty := by
 rw [L2.eqv_nil]; cases prs <;> rfl
theorem take_not {N : List Int} (h : N.Nodup) {i : Nat} {x : Int} (e : N[i]? = some x) : x ∉ N.take i := fun z => by
 obtain ⟨k, hk⟩ := zq51x z
 have hki : k < i := by have := (zq2x.mp hk).1; rw [zq47x] at this; omega
 rw [zq95x hki] at hk
 obtain ⟨l1, e1⟩ := zq2x.mp hk
 obtain ⟨l2, e2⟩ := zq2x.mp e
 have := (zq112x h).mp (e1.trans e2.symm)
 omega
def F__law_lines_net : DF := fun ds Φ => ds = [] /\ ∀ (f : Bool) (p n d : Int) (cs : List Prs), 1 <= n -> n <= 49 -> 1 <= d -> d <= 8 -> cs.length <= 56 -> DNet n d.toNat cs -> Φ f (.tuple [.int d, netD p n cs])
theorem mono__law_lines_net : MonoF F__law_lines_net := by
 intro ds Φ Ψ hm z
 obtain ⟨e, q⟩ := hm
 exact ⟨e, fun f p n d cs a1 a2 a3 a4 a5 a6 => z _ _ (q f p n d cs a1 a2 a3 a4 a5 a6)⟩
theorem scLawLinesNet : FnScope ["bag", "q", "thin", "p", "some", "d", "lines", "s", "kept", "names", "k", "checks", "line"] ["bag"] (defScope sLawLinesNet) := ⟨rfl, rfl, rfl, by decide +kernel, rfl, by decide +kernel, by decide +kernel⟩
theorem ok__law_lines_net (F : Fun K "_law_lines_net" "_law_lines_net" sLawLinesNet f fd)  (c__law_draw : Callee P w K mg base "_law_draw" 1 ["bag", "many"] spDraw) (c__law_prime : Callee P w K mg base "_law_prime" 2 ["bag"] spPrime) (c__law_turned : Callee P w K mg base "_law_turned" 2 ["bag", "row"] (spB 2 F__law_turned)) (c__law_direction : Callee P w K mg base "_law_direction" 1 ["q", "s"] (spD 2 F__law_direction)) (c__law_factor : Callee P w K mg base "_law_factor" 2 ["bag", "p"] (spB 2 F__law_factor)) (m_range : mg "range" = none) (m_list : mg "list" = none) (m_len : mg "len" = none) (m_sorted : mg "sorted" = none) (m_min : mg "min" = none)  :
    FnOk P w K mg base CX0 3 f fd ["bag"] (spB 1 F__law_lines_net) := by
  refine F.ok scLawLinesNet (fun vs H Q E h => h.1) (fun cdv A outer s H vs Q E hr h => ?_)
  obtain ⟨b, l, ws, nb, ds, Φ, rfl, hB, hlive, hnb, hds, hΦ, hF⟩ := spB_out h
  obtain ⟨rfl, qq⟩ := hF
  refine ⟨_, (@pss_cons _ _ _ _ _ (@ps_set _ _ (1) _ _ _ _ scLawLinesNet.nd rfl (Or.inl rfl) (@pe_ix _ _ _ _ _ _ (rIxL K) ix_list (@pe_lst _ _ _ _ (@pa_consts _ _ _ rfl)) (@pe_callC _ _ _ _ _ _ _ _ _ _ c__law_draw (hr.mono (by decide)) (@pa_cons _ _ _ _ _ (pv 0) (@pa_cons _ _ _ _ _ pe_int pa_nil rfl) rfl) (by rfl) (by decide) (by rfl) (by rfl)) (fun _ _ => rfl)) (by rfl) (by first | exact .inl rfl | exact .inr rfl | assumption)) (@pss_cons _ _ _ _ _ (@ps_set _ _ (2) _ _ _ _ scLawLinesNet.nd rfl (Or.inl rfl) (@pe_callC _ _ _ _ _ _ _ _ _ _ c__law_draw (hr.mono (by decide)) (@pa_cons _ _ _ _ _ (pv 0) (@pa_cons _ _ _ _ _ pe_int pa_nil rfl) rfl) (by rfl) (by decide) (by rfl) (by rfl)) (by rfl) (by first | exact .inl rfl | exact .inr rfl | assumption)) (@pss_cons _ _ _ _ _ (@ps_set _ _ (3) _ _ _ _ scLawLinesNet.nd rfl (Or.inr rfl) (@pe_callC _ _ _ _ _ _ _ _ _ _ c__law_prime (hr.mono (by decide)) (@pa_cons _ _ _ _ _ (pv 0) pa_nil rfl) (by rfl) (by decide) (by rfl) (by rfl)) (by rfl) (by first | exact .inl rfl | exact .inr rfl | assumption)) (@pss_cons _ _ _ _ _ (@ps_set _ _ (4) _ _ _ _ scLawLinesNet.nd rfl (Or.inl rfl) (@pe_callC _ _ _ _ _ _ _ _ _ _ c__law_turned (hr.mono (by decide)) (@pa_cons _ _ _ _ _ (pv 0) (@pa_cons _ _ _ _ _ (@pe_callTy _ _ _ _ _ _ _ _ _ (call_listR rfl) rfl m_list zq30x (@pa_cons _ _ _ _ _ (@pe_callTy _ _ _ _ _ _ _ _ _ call_rangeM rfl m_range zq94x (@pa_cons _ _ _ _ _ (@pe_op _ _ _ _ _ _ _ _ op_add (pv 1) pe_int) pa_nil rfl) (by decide) (by decide) (by rfl) (by rfl)) pa_nil rfl) (by decide) (by decide) (by rfl) (by rfl)) pa_nil rfl) rfl) (by rfl) (by decide) (by rfl) (by rfl)) (by rfl) (by first | exact .inl rfl | exact .inr rfl | assumption)) (@pss_cons _ _ _ _ _ (@ps_set _ _ (5) _ _ _ _ scLawLinesNet.nd rfl (Or.inl rfl) (@pe_op _ _ _ _ _ _ _ _ op_add pe_int (@pe_callC _ _ _ _ _ _ _ _ _ _ c__law_draw (hr.mono (by decide)) (@pa_cons _ _ _ _ _ (pv 0) (@pa_cons _ _ _ _ _ (@pe_op _ _ _ _ _ _ _ _ op_add (pv 1) pe_int) pa_nil rfl) rfl) (by rfl) (by decide) (by rfl) (by rfl))) (by rfl) (by first | exact .inl rfl | exact .inr rfl | assumption)) (@pss_cons _ _ _ _ _ (@ps_set _ _ (6) _ _ _ _ scLawLinesNet.nd rfl (Or.inl rfl) (@pe_lst _ _ _ _ pa_nil) (by rfl) (by first | exact .inl rfl | exact .inr rfl | assumption)) (@pss_cons _ _ _ _ _ (@ps_for _ _ _ _ _ _ _ _ zq24x rfl (pi_listK (K := K) rfl (@pe_slice _ _ _ _ _ _ _ _ _ (rSlL K) sl_list (pv 4) po_none (@po_some _ _ _ (pv 5)))) (pg_name (i := 7) scLawLinesNet.nd rfl (Or.inl rfl)) (@pss_one _ _ _ (@ps_expr _ _ _ _ (pe_bm zq76x zq173x zq174x mt_extend (pv 6) (@pa_cons _ _ _ _ _ (@pe_callC _ _ _ _ _ _ _ _ _ _ c__law_direction (hr.mono (by decide)) (@pa_cons _ _ _ _ _ (pv 1) (@pa_cons _ _ _ _ _ (pv 7) pa_nil rfl) rfl) (by rfl) (by decide) (by rfl) (by rfl)) pa_nil rfl)) (by rfl))) (by intro _; rfl)) (@pss_cons _ _ _ _ _ (@ps_if _ _ _ _ _ _ _ _ (@pt_cmpR _ _ _ _ _ _ _ _ op_le (pv 5) (pv 1) (nomark _)) (@pss_one _ _ _ (@ps_expr _ _ _ _ (pe_bm zq76x zq173x zq174x mt_extend (pv 6) (@pa_cons _ _ _ _ _ (@pe_slice _ _ _ _ _ _ _ _ _ (rSlL K) sl_list (@pe_callC _ _ _ _ _ _ _ _ _ _ c__law_direction (hr.mono (by decide)) (@pa_cons _ _ _ _ _ (pv 1) (@pa_cons _ _ _ _ _ (@pe_ix _ _ _ _ _ _ (rIxL K) ix_list (pv 4) (pv 5) (fun _ _ => rfl)) pa_nil rfl) rfl) (by rfl) (by decide) (by rfl) (by rfl)) po_none (@po_some _ _ _ (@pe_callC _ _ _ _ _ _ _ _ _ _ c__law_draw (hr.mono (by decide)) (@pa_cons _ _ _ _ _ (pv 0) (@pa_cons _ _ _ _ _ (@pe_op _ _ _ _ _ _ _ _ op_add (pv 1) pe_int) pa_nil rfl) rfl) (by rfl) (by decide) (by rfl) (by rfl)))) pa_nil rfl)) (by rfl))) pss_nil) (@pss_cons _ _ _ _ _ (@ps_set _ _ (8) _ _ _ _ scLawLinesNet.nd rfl (Or.inl rfl) (@pe_callC _ _ _ _ _ _ _ _ _ _ c__law_turned (hr.mono (by decide)) (@pa_cons _ _ _ _ _ (pv 0) (@pa_cons _ _ _ _ _ (@pe_callTy _ _ _ _ _ _ _ _ _ (call_listR rfl) rfl m_list zq30x (@pa_cons _ _ _ _ _ (@pe_callTy _ _ _ _ _ _ _ _ _ call_rangeM rfl m_range zq94x (@pa_cons _ _ _ _ _ (@pe_op _ _ _ _ _ _ _ _ op_mulA (pv 1) (pv 1)) pa_nil rfl) (by decide) (by decide) (by rfl) (by rfl)) pa_nil rfl) (by decide) (by decide) (by rfl) (by rfl)) pa_nil rfl) rfl) (by rfl) (by decide) (by rfl) (by rfl)) (by rfl) (by first | exact .inl rfl | exact .inr rfl | assumption)) (@pss_cons _ _ _ _ _ (@ps_if _ _ _ _ _ _ _ _ (@pt_cmpR _ _ _ _ _ _ _ _ op_eq (pv 2) pe_int (nomark _)) (@pss_one _ _ _ (@ps_set _ _ (8) _ _ _ _ scLawLinesNet.nd rfl (Or.inl rfl) (@pe_slice _ _ _ _ _ _ _ _ _ (rSlL K) sl_list (pv 8) po_none (@po_some _ _ _ (@pe_op _ _ _ _ _ _ _ _ op_add pe_int (@pe_callC _ _ _ _ _ _ _ _ _ _ c__law_draw (hr.mono (by decide)) (@pa_cons _ _ _ _ _ (pv 0) (@pa_cons _ _ _ _ _ (@pe_callB _ _ _ _ _ _ _ _ _ (call_minM rfl) rfl m_min zq176x (@pa_cons _ _ _ _ _ pe_int (@pa_cons _ _ _ _ _ (@pe_op _ _ _ _ _ _ _ _ op_mulA (pv 1) (pv 1)) pa_nil rfl) rfl) (by decide) (by decide) (by rfl) (by rfl)) pa_nil rfl) rfl) (by rfl) (by decide) (by rfl) (by rfl))))) (by rfl) (by first | exact .inl rfl | exact .inr rfl | assumption))) pss_nil) (@pss_cons _ _ _ _ _ (@ps_set _ _ (9) _ _ _ _ scLawLinesNet.nd rfl (Or.inr rfl) pe_dnewK (by rfl) (by first | exact .inl rfl | exact .inr rfl | assumption)) (@pss_cons _ _ _ _ _ (@ps_for _ _ _ _ _ _ _ _ zq24x rfl (@pi_range1 _ _ _ _ _ _ rfl m_range (@pa_cons _ _ _ _ _ (@pe_callB _ _ _ _ _ _ _ _ (rLen K) call_lenM rfl m_len zq32x (@pa_cons _ _ _ _ _ (pv 8) pa_nil rfl) (by decide) (by decide) (by rfl) (by rfl)) pa_nil rfl) (by rfl)) (pg_name (i := 10) scLawLinesNet.nd rfl (Or.inl rfl)) (@pss_one _ _ _ (@ps_asg _ _ _ _ _ _ (pv 10) (pg_sub (pv 9) (@pe_ix _ _ _ _ _ _ (rIxL K) ix_list (pv 8) (pv 10) (fun _ _ => rfl)) set_dict) (by rfl) (by rfl) (by rfl))) (by intro _; rfl)) (@pss_cons _ _ _ _ _ (@ps_set _ _ (11) _ _ _ _ scLawLinesNet.nd rfl (Or.inl rfl) (@pe_lst _ _ _ _ pa_nil) (by rfl) (by first | exact .inl rfl | exact .inr rfl | assumption)) (@pss_cons _ _ _ _ _ (@ps_for _ _ _ _ _ _ _ _ zq24x rfl (pi_listK (K := K) rfl (pv 6)) (pg_name (i := 12) scLawLinesNet.nd rfl (Or.inl rfl)) (@pss_one _ _ _ (@ps_expr _ _ _ _ (pe_bm zq76x zq171x zq172x mt_append (pv 11) (@pa_cons _ _ _ _ _ (@pe_callB _ _ _ _ _ _ _ _ (rSortT K) call_sortT rfl m_sorted zq133x (@pa_cons _ _ _ _ _ (pe_lcompC (CompOkC.of (show compOkBC (defScope sLawLinesNet) ["bag", "q", "thin", "p", "some", "d", "lines", "s", "kept", "names", "k", "checks", "line"] _ ["place", "bag", "p", "names"] [none, some 0, some 3, some 9] = true by decide +kernel)) (pi_listK (K := K) rfl (pv 12)) (fun _ _ _ _ => ⟨(pg_name (i := 0) (by show List.Nodup (["place", "bag", "p", "names"] : List Str); decide +kernel) rfl (Or.inl rfl)), (pts_one (@pt_cmpR _ _ _ _ _ _ _ _ (op_inD hr.units) (pv 0) (pv 3) (by with_unfolding_all rfl))), (@pe_tup _ _ _ _ _ (@pa_cons _ _ _ _ _ (@pe_ix _ _ _ _ _ _ (rIxD) ix_dict (pv 3) (pv 0) (fun _ _ => rfl)) (@pa_cons _ _ _ _ _ (@pe_callC _ _ _ _ _ _ _ _ _ _ c__law_factor (hr.mono (by decide)) (@pa_cons _ _ _ _ _ (pv 1) (@pa_cons _ _ _ _ _ (pv 2) pa_nil rfl) rfl) (by rfl) (by decide) (by rfl) (by rfl)) pa_nil rfl) rfl))⟩)) pa_nil rfl) (by decide) (by decide) (by rfl) (by rfl)) pa_nil rfl)) (by rfl))) (by intro _; rfl)) (@pss_one _ _ _ (@ps_ret _ _ _ _ (@pe_tup _ _ _ _ _ (@pa_cons _ _ _ _ _ (pv 5) (@pa_cons _ _ _ _ _ (@pe_tup _ _ _ _ _ (@pa_cons _ _ _ _ _ (pv 3) (@pa_cons _ _ _ _ _ (@pe_callB _ _ _ _ _ _ _ _ (rLen K) call_lenM rfl m_len zq32x (@pa_cons _ _ _ _ _ (pv 8) pa_nil rfl) (by decide) (by decide) (by rfl) (by rfl)) (@pa_cons _ _ _ _ _ (@pe_callC _ _ _ _ _ _ _ _ _ _ c__law_turned (hr.mono (by decide)) (@pa_cons _ _ _ _ _ (pv 0) (@pa_cons _ _ _ _ _ (pe_lcompC (CompOkC.of (show compOkBC (defScope sLawLinesNet) ["bag", "q", "thin", "p", "some", "d", "lines", "s", "kept", "names", "k", "checks", "line"] _ ["pairs"] [none] = true by decide +kernel)) (pi_listK (K := K) rfl (pv 11)) (fun _ _ _ _ => ⟨(pg_name (i := 0) (by show List.Nodup (["pairs"] : List Str); decide +kernel) rfl (Or.inl rfl)), (pts_one (@pt_cmpR _ _ _ _ _ _ _ _ (op_neD hr.units) (pv 0) (@pe_lst _ _ _ _ pa_nil) (nomark _))), (pv 0)⟩)) pa_nil rfl) rfl) (by rfl) (by decide) (by rfl) (by rfl)) pa_nil rfl) rfl) rfl)) pa_nil rfl) rfl)))))))))))))))))), ?_⟩
  refine Sv.enterB hB hlive hnb hds hΦ (ρ := [.bag, .no, .no, .no, .no, .no, .no, .no, .no, .no, .no, .no, .no]) rfl ?_
  clear hΦ hds
  walk_at "dt"
  intro s0 s1 s2
  have hsp0 : ∀ x ∈ ([2, 3, 3, 5, 5, 7] : List Int), SmallP x := by unfold SmallP; decide
  obtain ⟨q, eq, hq⟩ := pick (L := [2, 3, 3, 5, 5, 7]) (k := s0) (by omega) (by show s0 < 6; omega) SmallP hsp0
  refine ⟨_, rfl, _, eq, ?_⟩
  have q2 : 2 <= q := by rcases hq with rfl | rfl | rfl | rfl <;> decide
  have q7 : q <= 7 := by rcases hq with rfl | rfl | rfl | rfl <;> decide
  walk_at "dt"
  intro th t0 t1
  walk_at "dt"
  intro p hp
  obtain ⟨p2, p40, _⟩ := id hp
  walk_at "dt"
  refine Ev.callB mono__law_turned rfl ?_
  walk_at "dt"
  refine EvN.ev (EvN.listRange ?_)
  walk_at "dt"
  refine ⟨rfl, _, rfl, by simp; omega, fun f4 rs hrs => ?_⟩
  obtain ⟨N, rfl, hN⟩ := perm_map_inv hrs ((List.range (q + 1).toNat).map fun (i : Nat) => 0 + (i : Int)) rfl
  have hNo : LotOk (q + 1) N := (LotOk.range0 (by omega)).perm hN
  have hNl : N.length = (q + 1).toNat := by rw [hN.length_eq]; simp
  have hNm : (N.map PyData.int).length = N.length := zq0x ..
  refine Gv.nameF ?_
  walk_at "dt"
  intro d0 d1 d2
  obtain ⟨d, ed, d3, d4⟩ : ∃ d : Int, 1 + d0 = d /\ 1 <= d /\ d <= q + 1 := ⟨_, rfl, by omega, by omega⟩
  refine ⟨_, rfl, Gv.nameI ?_⟩
  rw [ed]
  walk_at "dt"
  intro A6
  refine Sv.seq ?_
  refine Sv.forL ?_
  walk_at "dt"
  rw [cut_take (by omega), <- zq134x]
  have hSl : (N.take d.toNat).length = d.toNat := by rw [zq47x]; omega
  have hSm : ((N.take d.toNat).map PyData.int).length = (N.take d.toNat).length := zq0x ..
  have hmul : ∀ i : Nat, ((i + 1 : Nat) : Int) * q = (i : Int) * q + q := fun i => by rw [zq163x, zq110x]; simp
  have hqq : (q + 1) * q <= 56 := by rcases hq with rfl | rfl | rfl | rfl <;> decide
  have hqq2 : 4 <= q * q /\ q * q <= 49 := by rcases hq with rfl | rfl | rfl | rfl <;> decide
  have hiq : ∀ i : Int, 0 <= i -> i <= q + 1 -> i * q <= 56 := fun i h0 h1 => Int.le_trans (zq165x h1 (by omega)) hqq
  refine fun v => ⟨fun i ρ => ∃ (R : List (List Int)) (T : List (Int × Int)) (f6 : Bool) (x7 : Sl), ((R.length : Int) <= i * q /\ LnL q R T /\ (∀ t ∈ T, t.1 ∈ N.take i) /\ ∀ x : Int, 0 <= x -> x < q * q -> i <= R.countP fun r => decide (x ∈ r)) /\ ρ = [.bag, .d true (.int q), .d true (.int th), .d true (.int p), .d false (.list (N.map .int)), .d true (.int d), .own A6 f6 (R.map rowD), x7, .no, .no, .no, .no, .no], ⟨[], [], _, _, ⟨by simp, ⟨rfl, zq120x, fun i r t z => by simp at z⟩, (fun _ h => nomatch h), fun x _ _ => zq34x _⟩, rfl⟩, ?_, ?_⟩
  · rintro i e ρ hd ⟨R, T, f6, x7, ⟨h1, h2, h3, h4⟩, rfl⟩
    obtain ⟨sl, hsl, rfl⟩ := map_at hd
    have hil := (zq2x.mp hsl).1
    have hsN : N[i]? = some sl := by rw [zq95x (by omega)] at hsl; exact hsl
    obtain ⟨sl0, sl1⟩ := hNo.rg sl (zq8x hsN)
    have hb := hiq i (by omega) (by omega)
    refine Gv.nameI ?_
    refine Sv.extend rfl ?_
    refine Ev.callD mono__law_direction ?_
    walk_at "dt"
    refine ⟨rfl, q, sl, rfl, q2, q7, sl0, by omega, fun R' hR'l hR' => ?_⟩
    refine ⟨_, rfl, by rw [zq0x, zq0x]; omega, ?_⟩
    rw [<- zq6x]
    refine ⟨R ++ R', T ++ (List.range R'.length).map (fun (t : Nat) => (sl, (t : Int))), _, _, ⟨by rw [zq22x, hmul]; omega, h2.app (.block hR') fun t ht z => ?_, fun t ht => ?_, fun x x0 x1 => ?_⟩, rfl⟩
    · obtain ⟨c, _, rfl⟩ := zq14x.mp z
      have := h3 _ ht
      exact take_not hNo.nd hsN this
    · rw [take_snoc hsN]
      rcases zq29x.mp ht with z | z
      · exact zq61x _ (h3 t z)
      · obtain ⟨c, _, rfl⟩ := zq14x.mp z
        exact zq38x _ (by simp)
    · rw [List.countP_append]
      have a1 := h4 x x0 x1
      obtain ⟨r, hr, hxr⟩ := LnS.has (by omega) hR'l hR' x0 x1
      have a2 : 0 < R'.countP fun r => decide (x ∈ r) := List.countP_pos_iff.mpr ⟨r, hr, decide_eq_true hxr⟩
      omega
  rintro ρ ⟨R, T, f6, x7, ⟨h1, h2, h3, h4⟩, rfl⟩
  rw [hSm, hSl] at h1 h3 h4
  refine Sv.seq ?_
  refine Sv.conseq (fun ρ' => ∃ (R : List (List Int)) (T : List (Int × Int)) (f6 : Bool), ((R.length : Int) <= 56 /\ LnL q R T /\ ∀ x : Int, 0 <= x -> x < q * q -> d.toNat <= R.countP fun r => decide (x ∈ r)) /\ ρ' = [.bag, .d true (.int q), .d true (.int th), .d true (.int p), .d false (.list (N.map .int)), .d true (.int d), .own A6 f6 (R.map rowD), x7, .no, .no, .no, .no, .no]) ?_ ?_
  · refine Sv.ifS ?_
    by_cases c : d <= q
    · have hb := hiq (d + 1) (by omega) (by omega)
      rw [zq110x] at hb
      rw [show ((d.toNat : Nat) : Int) = d by omega] at h1
      have hdN : d.toNat < N.length := by omega
      obtain ⟨sl, hsN⟩ : ∃ sl, N[d.toNat]? = some sl := ⟨_, zq1x hdN⟩
      obtain ⟨sl0, sl1⟩ := hNo.rg sl (zq8x hsN)
      walk_at "dt"
      refine Sv.extend rfl ?_
      walk_at "dt"
      refine Ev.callD mono__law_direction ?_
      walk_at "dt"
      refine ⟨.int sl, atI_some (by omega) (by rw [zq13x, hsN]; rfl), ?_⟩
      walk_at "dt"
      refine ⟨rfl, q, sl, rfl, q2, q7, sl0, by omega, fun R' hR'l hR' => ?_⟩
      refine ⟨_, rfl, ?_⟩
      walk_at "dt"
      intro m m0 m1
      refine ⟨_, rfl, ?_⟩
      rw [cut_take m0, <- zq134x]
      obtain ⟨R2, hR2⟩ : ∃ R2, R'.take m.toNat = R2 := ⟨_, rfl⟩
      have hR2l : R2.length <= q.toNat := by rw [<- hR2, zq47x]; omega
      have hR2' : ∀ (t : Nat) r, R2[t]? = some r -> LnS q sl t r := fun t r e => by
        rw [<- hR2] at e
        have hlt := (zq2x.mp e).1
        rw [zq47x] at hlt
        rw [zq95x (by omega)] at e
        exact hR' t r e
      rw [hR2]
      refine ⟨_, rfl, by rw [zq0x, zq0x]; omega, ?_⟩
      rw [<- zq6x]
      refine ⟨R ++ R2, T ++ (List.range R2.length).map (fun (t : Nat) => (sl, (t : Int))), _, ⟨by rw [zq22x]; omega, h2.app (.block hR2') fun t ht z => ?_, fun x x0 x1 => ?_⟩, rfl⟩
      · obtain ⟨c, _, rfl⟩ := zq14x.mp z
        exact take_not hNo.nd hsN (h3 _ ht)
      · rw [List.countP_append]
        have := h4 x x0 x1
        omega
    · have hd9 : d = q + 1 := by omega
      walk_at "dt"
      exact ⟨R, T, _, ⟨by rw [show ((d.toNat : Nat) : Int) = q + 1 by omega] at h1; omega, h2, h4⟩, rfl⟩
  clear h1 h2 h3 h4
  rintro ρ ⟨R, T, f6, ⟨h1, h2, h3⟩, rfl⟩
  refine Sv.demote 6 rfl ?_
  walk_at "dt"
  refine Ev.callB mono__law_turned rfl ?_
  walk_at "dt"
  refine EvN.ev (EvN.listRange ?_)
  walk_at "dt"
  refine ⟨rfl, _, rfl, by simp; omega, fun f8 rs hrs => ?_⟩
  obtain ⟨M, rfl, hM⟩ := perm_map_inv hrs ((List.range (q * q).toNat).map fun (i : Nat) => 0 + (i : Int)) rfl
  have hMo : LotOk (q * q) M := (LotOk.range0 (by omega)).perm hM
  have hMl : M.length = (q * q).toNat := by rw [hM.length_eq]; simp
  have hMm : (M.map PyData.int).length = M.length := zq0x ..
  refine Gv.nameF ?_
  refine Sv.seq ?_
  refine Sv.conseq (fun ρ' => ∃ (Kp : List Int) (f8 : Bool), (Kp.Nodup /\ (∀ x ∈ Kp, 0 <= x /\ x < q * q) /\ 1 <= Kp.length /\ Kp.length <= 49) /\ ρ' = [.bag, .d true (.int q), .d true (.int th), .d true (.int p), .d false (.list (N.map .int)), .d true (.int d), .d f6 (.list (R.map rowD)), x7, .d f8 (.list (Kp.map .int)), .no, .no, .no, .no]) ?_ ?_
  · refine Sv.ifS ?_
    obtain ⟨mo, emo, mo1, mo2⟩ : ∃ mo : Int, (if q * q < 20 then q * q else 20) = mo /\ 1 <= mo /\ mo <= 20 := ⟨_, rfl, by split <;> omega, by split <;> omega⟩
    by_cases c : th = 1
    · walk_at "dt"
      rw [emo]
      intro r r0 r1
      refine ⟨_, rfl, _, rfl, ?_⟩
      rw [cut_take (by omega), <- zq134x]
      refine Gv.nameF ?_
      exact ⟨M.take (1 + r).toNat, _, ⟨hMo.nd.sublist (zq141x ..), fun x hx => hMo.rg x (zq130x hx), by rw [zq47x]; omega, by rw [zq47x]; omega⟩, rfl⟩
    · walk_at "dt"
      exact ⟨M, _, ⟨hMo.nd, hMo.rg, by omega, by omega⟩, rfl⟩
  rintro ρ ⟨Kp, f9, ⟨hKd, hKr, hK1, hK49⟩, rfl⟩
  have hKm : (Kp.map PyData.int).length = Kp.length := zq0x ..
  refine Sv.seq ?_
  refine Sv.asgK (EvK.new ?_)
  intro A9
  refine Sv.seq ?_
  refine Sv.forR1 ?_
  walk_at "dt"
  refine ⟨fun i ρ => ∃ (ks : Ks) (f : Bool) (x10 : Sl), ((∀ x, valI ks x = if x ∈ Kp.take i then some (.int (Kp.idxOf x : Int)) else none) /\ ks.length <= i) /\ ρ = [.bag, .d true (.int q), .d true (.int th), .d true (.int p), .d false (.list (N.map .int)), .d true (.int d), .d f6 (.list (R.map rowD)), x7, .d f9 (.list (Kp.map .int)), .dic A9 f ks, x10, .no, .no], ⟨[], _, _, ⟨fun x => by rw [if_neg (by simp)]; rfl, zq3x _⟩, rfl⟩, ?_, ?_⟩
  · rintro i e ρ ⟨hi, rfl⟩ ⟨ks, f, x10, ⟨hks, hkl⟩, rfl⟩
    have hiK : i < Kp.length := by omega
    obtain ⟨y, hy⟩ : ∃ y, Kp[i]? = some y := ⟨_, zq1x hiK⟩
    refine Gv.nameI ?_
    refine Sv.putDic rfl ?_
    walk_at "dt"
    refine ⟨.int y, atI_some (by omega) (by rw [show (0 + (i : Int)).toNat = i by omega, zq13x, hy]; rfl), ?_⟩
    refine ⟨y, rfl, by omega, ?_⟩
    refine ⟨_, _, _, ⟨fun x => ?_, ?_⟩, rfl⟩
    · rw [valI_put, hks x, take_snoc hy]
      by_cases c : x = y
      · rw [if_pos c, if_pos (by rw [c]; simp), c, show Kp.idxOf y = i from ?_, zq111x]
        have := hKd.idxOf_getElem i hiK
        rwa [(zq2x.mp hy).2] at this
      · rw [if_neg c]
        by_cases c2 : x ∈ Kp.take i
        · rw [if_pos c2, if_pos (zq61x _ c2)]
        · rw [if_neg c2, if_neg (by simp [c, c2])]
    · have := putI_len ks y (.int (0 + (i : Int)))
      omega
  rintro ρ ⟨ks, f, x10, ⟨hks, hkl⟩, rfl⟩
  rw [hKm, show ((Kp.length : Nat) : Int).toNat = Kp.length by omega, zq20x] at hks
  refine Sv.demoteDic 9 rfl ?_
  walk_at "dt"
  intro A11
  have hRm : (R.map rowD).length = R.length := zq0x ..
  have hRn : ∀ r ∈ R, r.Nodup /\ r.length = q.toNat := fun r hr => by
    obtain ⟨i, hi⟩ := zq51x hr
    have hiT : i < T.length := by have := (zq2x.mp hi).1; have := h2.l; omega
    have := h2.e i r _ hi (zq1x hiT)
    exact ⟨(this.rise (by omega)).imp fun h => by omega, this.l⟩
  refine Sv.seq ?_
  refine Sv.forL ?_
  walk_at "dt"
  refine fun v => ⟨fun i ρ => ∃ (cs : List Prs) (f11 : Bool) (x12 : Sl), (cs.length = i /\ ∀ (j : Nat) prs, cs[j]? = some prs -> ∃ r, R[j]? = some r /\ (prs.map (·.1)).Perm ((r.filter fun x => decide (x ∈ Kp)).map fun x => (Kp.idxOf x : Int))) /\ ρ = [.bag, .d true (.int q), .d true (.int th), .d true (.int p), .d false (.list (N.map .int)), .d true (.int d), .d f6 (.list (R.map rowD)), x7, .d f9 (.list (Kp.map .int)), .d f (.dict (ks.map kvD)), x10, .own A11 f11 (cs.map prsD), x12], ⟨[], _, _, ⟨rfl, fun j prs z => by simp at z⟩, rfl⟩, ?_, ?_⟩
  · rintro i e ρ hd ⟨cs, f11, x12, ⟨g1, g2⟩, rfl⟩
    obtain ⟨r, hr, rfl⟩ := map_at hd
    have hil := (zq2x.mp hr).1
    obtain ⟨hrn, hrl⟩ := hRn r (zq8x hr)
    have hrm : (r.map PyData.int).length = r.length := zq0x ..
    have hcm : (cs.map prsD).length = cs.length := zq0x ..
    unfold rowD
    walk_at "dt"
    refine EvN.ev (EvN.sortT ?_)
    refine EvN.ev (EvN.compL (by decide) rfl ?_)
    walk_at "dt"
    refine fun v => ⟨false, fun j ds => ∃ prs : Prs, ds = prs.map pairD /\ prs.map (·.1) = ((r.take j).filter fun x => decide (x ∈ Kp)).map fun x => (Kp.idxOf x : Int), ⟨[], rfl, rfl⟩, ?_, ?_⟩
    · rintro j e ds hd hl' ⟨prs, rfl, hprs⟩
      obtain ⟨y, hy, rfl⟩ := map_at hd
      walk_at "dt"
      refine ⟨by walk_at "wk", ?_⟩
      refine Tv.test ?_
      refine Ev.inDd ?_
      walk_at "dt"
      have hhas : hasI ks y = decide (y ∈ Kp) := by
        rw [<- valI_has, hks]
        by_cases c : y ∈ Kp
        · rw [if_pos c, decide_eq_true c]; rfl
        · rw [if_neg c, decide_eq_false c]; rfl
      refine ⟨ks, rfl, _, rfl, ?_⟩
      rw [hhas]
      have ets := filter_snoc (fun x => decide (x ∈ Kp)) hy
      by_cases c : y ∈ Kp
      · rw [if_pos (by simpa using c)]
        rw [if_pos (decide_eq_true c)] at ets
        walk_at "dt"
        refine Ev.ixDd ?_
        walk_at "dt"
        refine ⟨ks, rfl, ?_⟩
        walk_at "dt"
        refine ⟨_, by rw [hks, if_pos c], ?_⟩
        walk_at "dt"
        refine Ev.callB mono__law_factor rfl ?_
        walk_at "dt"
        refine ⟨rfl, p, rfl, p2, p40, fun fc => ?_⟩
        walk_at "dt"
        refine ⟨(fun z => by cases z), prs ++ [((Kp.idxOf y : Int), fc)], by rw [zq6x]; rfl, ?_⟩
        rw [ets, zq6x, zq6x, hprs]
        rfl
      · rw [if_neg (by simpa using c)]
        rw [if_neg (by simpa using c), zq39x] at ets
        refine ⟨prs, rfl, ?_⟩
        rw [ets]
        exact hprs
    rintro ds hl' ⟨prs, rfl, hprs⟩
    rw [hrm, zq20x] at hprs
    have hpl : prs.length <= r.length := by
      have e9 := congrArg List.length hprs
      rw [zq0x, zq0x] at e9
      rw [e9]
      exact zq58x _ _
    refine ⟨prs, rfl, by omega, fun prs' g hpp => ⟨by omega, ?_⟩⟩
    refine ⟨cs ++ [prs'], _, _, ⟨by simp; omega, fun j ps e => ?_⟩, by rw [zq6x]; rfl⟩
    by_cases c : j < cs.length
    · rw [zq45x c] at e
      exact g2 j ps e
    · have hj : j = cs.length := by
        have := (zq2x.mp e).1
        rw [zq22x, zq60x] at this
        omega
      subst hj
      rw [List.getElem?_concat_length] at e
      cases e
      refine ⟨r, by rw [g1]; exact hr, ?_⟩
      rw [<- hprs]
      exact hpp.map _
  rintro ρ ⟨cs, f11, x12, ⟨g1, g2⟩, rfl⟩
  rw [hRm] at g1
  have hDN : DNet (Kp.length : Int) d.toNat cs := DNet.named (d := d.toNat) (q := q) hKd hKr (fun r hr => (hRn r hr).1) ((ap_s fun r hr => by
    obtain ⟨i, hi⟩ := zq51x hr
    have hiT : i < T.length := by have := (zq2x.mp hi).1; have := h2.l; omega
    exact (h2.e i r _ hi (zq1x hiT)).rise (by omega)).mp (h2.ap hq)) h3 g1 g2
  have hcm : (cs.map prsD).length = cs.length := zq0x ..
  refine Sv.demote 11 rfl ?_
  walk_at "dt"
  refine Ev.callB mono__law_turned rfl ?_
  walk_at "dt"
  refine EvN.ev (EvN.compL (by decide) rfl ?_)
  walk_at "dt"
  refine fun v => ⟨false, fun i ds => ds = ((cs.take i).filter fun prs => !prs.isEmpty).map prsD, rfl, ?_, ?_⟩
  · rintro j e ds hd hl' rfl
    obtain ⟨prs, hprs, rfl⟩ := map_at hd
    have hts := take_snoc hprs
    walk_at "dt"
    refine ⟨by walk_at "wk", ?_⟩
    walk_at "dt"
    refine ⟨shaped_prs prs, by decide, ?_⟩
    show ∃ b, PyData.bool (PyData.eqv (prsD prs) (.list []) != true) = .bool b /\ _
    rw [eqv_prs_nil]
    cases hc : prs.isEmpty with
    | true =>
      walk_at "dt"
      show _ = List.map _ (List.filter _ (cs.take (j + 1)))
      rw [hts, zq75x, show List.filter (fun prs : Prs => !prs.isEmpty) [prs] = [] from zq168x (by rw [hc]; decide), zq39x]
    | false =>
      walk_at "dt"
      show _ = List.map _ (List.filter _ (cs.take (j + 1)))
      rw [hts, zq75x, show List.filter (fun prs : Prs => !prs.isEmpty) [prs] = [prs] from zq131x (by rw [hc]; rfl), zq6x]
      rfl
  rintro ds hl' rfl
  rw [hcm, zq20x]
  obtain ⟨es, hes⟩ : ∃ es, (cs.filter fun prs => !prs.isEmpty) = es := ⟨_, rfl⟩
  rw [hes]
  have hel : es.length <= cs.length := by rw [<- hes]; exact zq58x _ _
  have hDE : DNet (Kp.length : Int) d.toNat es := by rw [<- hes]; exact hDN.full
  walk_at "dt"
  refine ⟨rfl, _, rfl, by rw [zq0x]; omega, fun fz rz hrz => ?_⟩
  obtain ⟨zs, rfl, hzs⟩ := perm_map_inv hrz es rfl
  have hzl := hzs.length_eq
  walk_at "dt"
  rw [hKm]
  exact qq _ p Kp.length d zs (by omega) (by omega) d3 (by omega) (by omega) (hDE.perm hzs)
def F__law_lot : DF := fun ds Φ => ∃ (p n d : Int) (cs : List Prs), ds = [netD p n cs, .int d] /\ 1 <= n /\ n <= 49 /\ 1 <= d /\ d <= 8 /\ CksOk n cs /\ cs ≠ [] /\ cs.length <= 56 /\ ∀ rs : List Int, rs ≠ [] -> LotOk n rs -> (rs.length : Int) <= d -> Φ true (.list (rs.map .int))
theorem mono__law_lot : MonoF F__law_lot := by
 intro ds Φ Ψ hm z
 obtain ⟨p, n, d, cs, e, h1, h2, h3, h4, h5, h6, h7, q⟩ := hm
 exact ⟨p, n, d, cs, e, h1, h2, h3, h4, h5, h6, h7, fun rs a b c => z _ _ (q rs a b c)⟩
theorem scLawLot : FnScope ["bag", "net", "d", "most", "many", "first", "others"] ["bag", "net", "d"] (defScope sLawLot) := ⟨rfl, rfl, rfl, by decide +kernel, rfl, by decide +kernel, by decide +kernel⟩
theorem ok__law_lot (F : Fun K "_law_lot" "_law_lot" sLawLot f fd)  (c__law_draw : Callee P w K mg base "_law_draw" 1 ["bag", "many"] spDraw) (c__law_turned : Callee P w K mg base "_law_turned" 2 ["bag", "row"] (spB 2 F__law_turned)) (m_min : mg "min" = none) (m_sorted : mg "sorted" = none) (m_list : mg "list" = none) (m_range : mg "range" = none) (m_len : mg "len" = none)  :
  FnOk P w K mg base CX0 3 f fd ["bag", "net", "d"] (spB 3 F__law_lot) := by
 refine F.ok scLawLot (fun vs H Q E h => h.1) (fun cdv A outer s H vs Q E hr h => ?_)
 obtain ⟨b, l, ws, nb, ds, Φ, rfl, hB, hlive, hnb, hds, hΦ, hF⟩ := spB_out h
 obtain ⟨p, n, d, cs, rfl, n0, n1, d0, d1, hck, hne, hcl, q⟩ := hF
 refine ⟨_, (@pss_cons _ _ _ _ _ (@ps_set _ _ (3) _ _ _ _ scLawLot.nd rfl (Or.inl rfl) (@pe_callB _ _ _ _ _ _ _ _ _ (call_minM rfl) rfl m_min zq176x (@pa_cons _ _ _ _ _ (pv 2) (@pa_cons _ _ _ _ _ (@pe_ix _ _ _ _ _ _ (rIxT K) ix_tup (pv 1) pe_int (fun _ _ => rfl)) pa_nil rfl) rfl) (by decide) (by decide) (by rfl) (by rfl)) (by rfl) (by first | exact .inl rfl | exact .inr rfl | assumption)) (@pss_cons _ _ _ _ _ (@ps_set _ _ (4) _ _ _ _ scLawLot.nd rfl (Or.inl rfl) (@pe_ix _ _ _ _ _ _ (rIxL K) ix_list (@pe_lst _ _ _ _ (@pa_cons _ _ _ _ _ (pv 3) (@pa_cons _ _ _ _ _ (pv 3) (@pa_cons _ _ _ _ _ (@pe_op _ _ _ _ _ _ _ _ op_add pe_int (@pe_callC _ _ _ _ _ _ _ _ _ _ c__law_draw (hr.mono (by decide)) (@pa_cons _ _ _ _ _ (pv 0) (@pa_cons _ _ _ _ _ (pv 3) pa_nil rfl) rfl) (by rfl) (by decide) (by rfl) (by rfl))) pa_nil rfl) rfl) rfl)) (@pe_callC _ _ _ _ _ _ _ _ _ _ c__law_draw (hr.mono (by decide)) (@pa_cons _ _ _ _ _ (pv 0) (@pa_cons _ _ _ _ _ pe_int pa_nil rfl) rfl) (by rfl) (by decide) (by rfl) (by rfl)) (fun _ _ => rfl)) (by rfl) (by first | exact .inl rfl | exact .inr rfl | assumption)) (@pss_cons _ _ _ _ _ (@ps_set _ _ (5) _ _ _ _ scLawLot.nd rfl (Or.inr rfl) (@pe_lst _ _ _ _ pa_nil) (by rfl) (by first | exact .inl rfl | exact .inr rfl | assumption)) (@pss_cons _ _ _ _ _ (@ps_if _ _ _ _ _ _ _ _ (@pt_cmpR _ _ _ _ _ _ _ _ op_eq (@pe_callC _ _ _ _ _ _ _ _ _ _ c__law_draw (hr.mono (by decide)) (@pa_cons _ _ _ _ _ (pv 0) (@pa_cons _ _ _ _ _ pe_int pa_nil rfl) rfl) (by rfl) (by decide) (by rfl) (by rfl)) pe_int (nomark _)) (@pss_one _ _ _ (@ps_set _ _ (5) _ _ _ _ scLawLot.nd rfl (Or.inr rfl) (pe_lcompC (CompOkC.of (show compOkBC (defScope sLawLot) ["bag", "net", "d", "most", "many", "first", "others"] _ ["place", "factor"] [none, none] = true by decide +kernel)) (pi_listK (K := K) rfl (@pe_ix _ _ _ _ _ _ (rIxL K) ix_list (@pe_ix _ _ _ _ _ _ (rIxT K) ix_tup (pv 1) pe_int (fun _ _ => rfl)) (@pe_callC _ _ _ _ _ _ _ _ _ _ c__law_draw (hr.mono (by decide)) (@pa_cons _ _ _ _ _ (pv 0) (@pa_cons _ _ _ _ _ (@pe_callB _ _ _ _ _ _ _ _ (rLen K) call_lenM rfl m_len zq32x (@pa_cons _ _ _ _ _ (@pe_ix _ _ _ _ _ _ (rIxT K) ix_tup (pv 1) pe_int (fun _ _ => rfl)) pa_nil rfl) (by decide) (by decide) (by rfl) (by rfl)) pa_nil rfl) rfl) (by rfl) (by decide) (by rfl) (by rfl)) (fun _ _ => rfl))) (fun _ _ _ _ => ⟨(@pg_tupM _ (K) _ _ _ (2) _ rfl rfl (@pgs_cons _ _ _ _ _ (pg_name (i := 0) (by show List.Nodup (["place", "factor"] : List Str); decide +kernel) rfl (Or.inl rfl)) (@pgs_cons _ _ _ _ _ (pg_name (i := 1) (by show List.Nodup (["place", "factor"] : List Str); decide +kernel) rfl (Or.inl rfl)) pgs_nil (by rfl)) (by rfl)) (by rfl) (by rfl)), pts_nil, (pv 0)⟩)) (by rfl) (by first | exact .inl rfl | exact .inr rfl | assumption))) pss_nil) (@pss_cons _ _ _ _ _ (ps_setCC (i := 6) scLawLot.nd rfl rfl (CompOkC.of (show compOkBC (defScope sLawLot) ["bag", "net", "d", "most", "many", "first", "others"] _ ["place", "first"] [none, some 5] = true by decide +kernel)) (pi_listK (K := K) rfl (@pe_callC _ _ _ _ _ _ _ _ _ _ c__law_turned (hr.mono (by decide)) (@pa_cons _ _ _ _ _ (pv 0) (@pa_cons _ _ _ _ _ (@pe_callTy _ _ _ _ _ _ _ _ _ (call_listR rfl) rfl m_list zq30x (@pa_cons _ _ _ _ _ (@pe_callTy _ _ _ _ _ _ _ _ _ call_rangeM rfl m_range zq94x (@pa_cons _ _ _ _ _ (@pe_ix _ _ _ _ _ _ (rIxT K) ix_tup (pv 1) pe_int (fun _ _ => rfl)) pa_nil rfl) (by decide) (by decide) (by rfl) (by rfl)) pa_nil rfl) (by decide) (by decide) (by rfl) (by rfl)) pa_nil rfl) rfl) (by rfl) (by decide) (by rfl) (by rfl))) (fun _ _ _ _ => ⟨(pg_name (i := 0) (by show List.Nodup (["place", "first"] : List Str); decide +kernel) rfl (Or.inl rfl)), (pts_one (pt_cmpR (op_notInK (K := K) (by rfl)) (pv 0) (pv 1) (by with_unfolding_all rfl))), (pv 0)⟩)) (@pss_one _ _ _ (@ps_ret _ _ _ _ (@pe_callB _ _ _ _ _ _ _ _ (rSortLS K) call_sortLS rfl m_sorted zq133x (@pa_cons _ _ _ _ _ (@pe_slice _ _ _ _ _ _ _ _ _ (rSlL K) sl_list (@pe_op _ _ _ _ _ _ _ _ op_cat (@pe_callC _ _ _ _ _ _ _ _ _ _ c__law_turned (hr.mono (by decide)) (@pa_cons _ _ _ _ _ (pv 0) (@pa_cons _ _ _ _ _ (pv 5) pa_nil rfl) rfl) (by rfl) (by decide) (by rfl) (by rfl)) (pv 6)) po_none (@po_some _ _ _ (pv 4))) pa_nil rfl) (by decide) (by decide) (by rfl) (by rfl))))))))), ?_⟩
 refine Sv.enterB hB hlive hnb hds hΦ (ρ := [.bag, .d false _, .d false _, .no, .no, .no, .no]) rfl ?_
 clear hΦ hds
 have hcl0 : 0 < cs.length := List.length_pos_iff.mpr hne
 have hcm : (cs.map prsD).length = cs.length := zq0x ..
 obtain ⟨mo, emo, mo1, mo4, mod⟩ : ∃ mo : Int, (if n < d then n else d) = mo /\ 1 <= mo /\ mo <= n /\ mo <= d := ⟨_, rfl, by split <;> omega, by split <;> omega, by split <;> omega⟩
 walk_at "dt"
 rw [emo]
 intro r r0 r1
 refine ⟨_, rfl, ?_⟩
 walk_at "dt"
 intro w w0 w1
 obtain ⟨ma, ema, ma1, ma2⟩ := pick (L := [mo, mo, 1 + r]) (k := w) (by omega) (by show w < 3; omega) (fun x => 1 <= x /\ x <= d) (by simp; omega)
 refine ⟨_, rfl, _, ema, ?_⟩
 walk_at "dt"
 intro A5
 refine Sv.demote 5 rfl ?_
 refine Sv.seq ?_
 refine Sv.conseq (fun ρ' => ∃ (F : List Int) (f : Bool), LotOk n F /\ ρ' = [.bag, .d false (netD p n cs), .d false (.int d), .d true (.int mo), .d true (.int ma), .d f (.list (F.map .int)), .no]) ?_ ?_
 ·refine Sv.ifS ?_
  walk_at "dt"
  intro t t0 t1
  by_cases ct : t = 1
  ·walk_at "dt"
   refine EvN.ev (EvN.compL (by decide) rfl ?_)
   walk_at "dt"
   intro c c0 c1
   have hcl9 : c.toNat < cs.length := by omega
   obtain ⟨prs, hprs⟩ : ∃ prs, cs[c.toNat]? = some prs := ⟨_, zq1x hcl9⟩
   have hpk := hck prs (zq8x hprs)
   have hpl := hpk.lenN
   rw [zq0x] at hpl
   have hpm : (prs.map pairD).length = prs.length := zq0x ..
   refine ⟨_, rfl, prsD prs, atI_some c0 (by rw [zq13x, hprs]; rfl), _, rfl, by omega, ?_⟩
   refine fun v => ⟨true, fun j ds => ds = ((prs.take j).map (·.1)).map .int, rfl, ?_, ?_⟩
   ·rintro j d ds hd hl' rfl
    obtain ⟨pr, hpr, rfl⟩ := map_at hd
    walk_at "dt"
    refine ⟨by walk_at "wk", ?_⟩
    walk_at "dt"
    show _ = List.map _ (List.map _ (prs.take (j + 1)))
    rw [take_snoc hpr, zq6x, zq6x]
    rfl
   rintro ds hl' rfl
   rw [hpm, zq20x]
   walk_at "dt"
   exact ⟨_, _, hpk, rfl⟩
  ·walk_at "dt"
   exact ⟨[], _, .nil, rfl⟩
 rintro ρ' ⟨F, f, hF, rfl⟩
 have hFl := hF.lenN
 have hFm : (F.map PyData.int).length = F.length := zq0x ..
 refine Sv.seq ?_
 refine Sv.setCF ?_
 refine EvN.ev (EvN.compL (by decide) rfl ?_)
 refine Ev.callB mono__law_turned rfl ?_
 walk_at "dt"
 refine EvN.ev (EvN.listRange ?_)
 walk_at "dt"
 refine ⟨rfl, _, rfl, by simp; omega, fun f2 rs hrs => ?_⟩
 obtain ⟨N, rfl, hN⟩ := perm_map_inv hrs ((List.range n.toNat).map fun (i : Nat) => 0 + (i : Int)) rfl
 have hNo : LotOk n N := (LotOk.range0 (by omega)).perm hN
 have hNl := hNo.lenN
 have hNm : (N.map PyData.int).length = N.length := zq0x ..
 refine ⟨_, rfl, by omega, ?_⟩
 refine fun v => ⟨true, fun j ds => ds = ((N.take j).filter fun y => decide (y ∉ F)).map .int, rfl, ?_, ?_⟩
 ·rintro j d ds hd hl' rfl
  obtain ⟨y, hy, rfl⟩ := map_at hd
  walk_at "dt"
  refine ⟨by walk_at "wk", ?_⟩
  refine Tv.test ?_
  refine Ev.inI ?_
  walk_at "dt"
  refine ⟨F, rfl, ?_⟩
  refine ⟨_, rfl, ?_⟩
  by_cases c : y ∈ F
  ·rw [if_neg (by simpa using c)]
   show _ = List.map _ (List.filter _ (N.take (j + 1)))
   rw [filter_snoc _ hy, if_neg (by simpa using c), zq39x]
  ·rw [if_pos (by simpa using c)]
   walk_at "dt"
   show _ = List.map _ (List.filter _ (N.take (j + 1)))
   rw [filter_snoc _ hy, if_pos (by simpa using c), zq6x]
   rfl
 rintro ds hl' rfl
 rw [hNm, zq20x]
 obtain ⟨O, hO⟩ : ∃ O, (N.filter fun y => decide (y ∉ F)) = O := ⟨_, rfl⟩
 rw [hO]
 have hOl : O.length <= N.length := by rw [<- hO]; exact zq58x _ _
 refine Sv.ret ?_
 refine EvN.ev (EvN.sortLS ?_)
 walk_at "dt"
 refine Ev.callB mono__law_turned rfl ?_
 walk_at "dt"
 refine ⟨rfl, _, rfl, by omega, fun f3 rs3 hrs3 => ?_⟩
 obtain ⟨F2, rfl, hF2⟩ := perm_map_inv hrs3 F rfl
 have hF2l := hF2.length_eq
 walk_at "dt"
 refine ⟨by rw [zq0x, zq0x]; omega, _, rfl, ?_⟩
 walk_at "dt"
 rw [cut_take (by omega), <- zq6x, <- zq134x]
 have hAo : LotOk n (F2 ++ O) := by
  refine ⟨zq74x.mpr ⟨hF2.nodup_iff.mpr hF.nd, by rw [<- hO]; exact hNo.nd.filter _, fun a ha b hb z => ?_⟩, fun x hx => ?_⟩
  ·rw [<- hO] at hb
   exact of_decide_eq_true (zq5x.mp hb).2 (z ▸ hF2.mem_iff.mp ha)
  ·rcases zq29x.mp hx with h | h
   ·exact hF.rg x (hF2.mem_iff.mp h)
   ·rw [<- hO] at h; exact hNo.rg x (zq5x.mp h).1
 have hAn : 0 < (F2 ++ O).length := by
  by_cases c : (0 : Int) ∈ F
  ·exact zq157x (zq61x _ (hF2.mem_iff.mpr c))
  ·refine zq157x (a := 0) (zq38x _ ?_)
   rw [<- hO]
   exact zq5x.mpr ⟨hN.mem_iff.mpr (zq14x.mpr ⟨0, zq37x.mpr (by omega), rfl⟩), decide_eq_true c⟩
 obtain ⟨A, hA⟩ : ∃ A, F2 ++ O = A := ⟨_, rfl⟩
 rw [hA] at hAo hAn ⊢
 have hTo : LotOk n (A.take ma.toNat) := ⟨hAo.nd.sublist (zq141x ..), fun x hx => hAo.rg x (zq130x hx)⟩
 have hTl : (A.take ma.toNat).length <= d := by rw [zq47x]; omega
 refine ⟨_, rfl, by omega, fun rs hrs4 _ => ?_⟩
 have hrl := hrs4.length_eq
 refine q rs (fun z => ?_) (hTo.perm hrs4) (by omega)
 rw [z, zq47x] at hrl
 simp at hrl
 omega
theorem alike_rows {n : Nat} (rs : List (List Int)) (h : rs.length <= 10000) (h2 : ∀ r ∈ rs, r.length <= 10000) : alikeOk (n + 3) (.list (rs.map rowD)) := .inr ⟨_, .inl rfl, by rw [zq0x]; exact h, fun e he => by
 obtain ⟨r, hr, rfl⟩ := zq14x.mp he
 exact .inr ⟨_, .inl rfl, by rw [zq0x]; exact h2 r hr, fun e he => by
  obtain ⟨x, _, rfl⟩ := zq14x.mp he
  exact .inl rfl⟩⟩
def F__law_told : DF := fun ds Φ => ∃ (p n d : Int) (cs : List Prs), ds = [netD p n cs, .int d] /\ LotNet n cs /\ n <= 20 /\ 1 <= d /\ d <= 8 /\ DNet n d.toNat cs /\ Φ true (.bool true)
theorem mono__law_told : MonoF F__law_told := by
 intro ds Φ Ψ hm z
 obtain ⟨p, n, d, cs, e, h1, h2, h3, h4, h5, q⟩ := hm
 exact ⟨p, n, d, cs, e, h1, h2, h3, h4, h5, z _ _ q⟩
theorem scLawTold : FnScope ["bag", "net", "d", "most", "size"] ["bag", "net", "d"] (defScope sLawTold) := ⟨rfl, rfl, rfl, by decide +kernel, rfl, by decide +kernel, by decide +kernel⟩
theorem ok__law_told (F : Fun K "_law_told" "_law_told" sLawTold f fd)  (c__law_turned : Callee P w K mg base "_law_turned" 2 ["bag", "row"] (spB 2 F__law_turned)) (c_least : Callee P w K mg base "least" 2 ["net", "most"] (spD 2 F_least)) (c__law_alike : Callee P w K mg base "_law_alike" 3 ["found", "due"] (spD 2 (F__law_alike 3))) (c__law_copy : Callee P w K mg base "_law_copy" 1 ["net"] (spD 1 F__law_copy)) (c_lots_of : Callee P w K mg base "lots_of" 2 ["net", "size"] (spD 2 F_lots_of)) (m_min : mg "min" = none) (m_list : mg "list" = none) (m_range : mg "range" = none)  :
  FnOk P w K mg base CX0 4 f fd ["bag", "net", "d"] (spB 3 F__law_told) := by
 refine F.ok scLawTold (fun vs H Q E h => h.1) (fun cdv A outer s H vs Q E hr h => ?_)
 obtain ⟨b, l, ws, nb, ds, Φ, rfl, hB, hlive, hnb, hds, hΦ, hF⟩ := spB_out h
 obtain ⟨p, n, d, cs, rfl, hN, n20, d1, d8, hD, q⟩ := hF
 refine ⟨_, (@pss_cons _ _ _ _ _ (@ps_set _ _ (3) _ _ _ _ scLawTold.nd rfl (Or.inl rfl) (@pe_callB _ _ _ _ _ _ _ _ _ (call_minM rfl) rfl m_min zq176x (@pa_cons _ _ _ _ _ pe_int (@pa_cons _ _ _ _ _ (pv 2) pa_nil rfl) rfl) (by decide) (by decide) (by rfl) (by rfl)) (by rfl) (by first | exact .inl rfl | exact .inr rfl | assumption)) (@pss_cons _ _ _ _ _ (@ps_for _ _ _ _ _ _ _ _ zq24x rfl (pi_listK (K := K) rfl (@pe_callC _ _ _ _ _ _ _ _ _ _ c__law_turned (hr.mono (by decide)) (@pa_cons _ _ _ _ _ (pv 0) (@pa_cons _ _ _ _ _ (@pe_callTy _ _ _ _ _ _ _ _ _ (call_listR rfl) rfl m_list zq30x (@pa_cons _ _ _ _ _ (@pe_callTy _ _ _ _ _ _ _ _ _ call_rangeM rfl m_range zq94x (@pa_cons _ _ _ _ _ (@pe_op _ _ _ _ _ _ _ _ op_add (pv 3) pe_int) pa_nil rfl) (by decide) (by decide) (by rfl) (by rfl)) pa_nil rfl) (by decide) (by decide) (by rfl) (by rfl)) pa_nil rfl) rfl) (by rfl) (by decide) (by rfl) (by rfl))) (pg_name (i := 4) scLawTold.nd rfl (Or.inl rfl)) (@pss_one _ _ _ (@ps_if _ _ _ _ _ _ _ _ (@pt_not _ _ _ _ (@pt_truthK _ (K) _ _ rfl (@pe_callC _ _ _ _ _ _ _ _ _ _ c__law_alike (hr.mono (by decide)) (@pa_cons _ _ _ _ _ (@pe_callC _ _ _ _ _ _ _ _ _ _ c_lots_of (hr.mono (by decide)) (@pa_cons _ _ _ _ _ (@pe_callC _ _ _ _ _ _ _ _ _ _ c__law_copy (hr.mono (by decide)) (@pa_cons _ _ _ _ _ (pv 1) pa_nil rfl) (by rfl) (by decide) (by rfl) (by rfl)) (@pa_cons _ _ _ _ _ (pv 4) pa_nil rfl) rfl) (by rfl) (by decide) (by rfl) (by rfl)) (@pa_cons _ _ _ _ _ (@pe_ifExp _ _ _ _ _ _ _ _ (@pt_cmpR _ _ _ _ _ _ _ _ op_eq (pv 4) pe_int (nomark _)) (@pe_lst _ _ _ _ (@pa_cons _ _ _ _ _ (@pe_lst _ _ _ _ pa_nil) pa_nil rfl)) (@pe_lst _ _ _ _ pa_nil)) pa_nil rfl) rfl) (by rfl) (by decide) (by rfl) (by rfl)) (fun _ => rfl))) (@pss_one _ _ _ (@ps_ret _ _ _ _ pe_bl)) pss_nil)) (by intro _; rfl)) (@pss_one _ _ _ (@ps_ret _ _ _ _ (@pe_cmpR _ _ _ _ _ _ _ _ op_isM (@pe_callC _ _ _ _ _ _ _ _ _ _ c_least (hr.mono (by decide)) (@pa_cons _ _ _ _ _ (@pe_callC _ _ _ _ _ _ _ _ _ _ c__law_copy (hr.mono (by decide)) (@pa_cons _ _ _ _ _ (pv 1) pa_nil rfl) (by rfl) (by decide) (by rfl) (by rfl)) (@pa_cons _ _ _ _ _ (pv 3) pa_nil rfl) rfl) (by rfl) (by decide) (by rfl) (by rfl)) pe_non (nomark _)))))), ?_⟩
 refine Sv.enterB hB hlive hnb hds hΦ (ρ := [.bag, .d false _, .d false _, .no, .no]) rfl ?_
 clear hΦ hds
 have hcl := hN.cl
 have hN' := hN
 obtain ⟨mo, emo, mo1, mo4, mod⟩ : ∃ mo : Int, (if d < 4 then d else 4) = mo /\ 1 <= mo /\ mo <= 4 /\ mo <= d := ⟨_, rfl, by split <;> omega, by split <;> omega, by split <;> omega⟩
 refine Sv.seq ?_
 walk_at "dt"
 rw [emo]
 refine Sv.forL ?_
 refine Ev.callB mono__law_turned rfl ?_
 walk_at "dt"
 refine EvN.ev (EvN.listRange ?_)
 walk_at "dt"
 refine ⟨rfl, _, rfl, by simp; omega, fun f2 rs hrs => ?_⟩
 obtain ⟨N, rfl, hN⟩ := perm_map_inv hrs ((List.range (mo + 1).toNat).map fun (i : Nat) => 0 + (i : Int)) rfl
 have hNo : LotOk (mo + 1) N := (LotOk.range0 (by omega)).perm hN
 have hNm : (N.map PyData.int).length = N.length := zq0x ..
 refine ⟨_, rfl, fun v => ⟨fun i ρ => ∃ x4 : Sl, ρ = [.bag, .d false (netD p n cs), .d false (.int d), .d true (.int mo), x4], ⟨_, rfl⟩, ?_, ?_⟩⟩
 ·rintro i e ρ hd ⟨x4, rfl⟩
  obtain ⟨s, hs, rfl⟩ := map_at hd
  obtain ⟨s0, s1⟩ := hNo.rg s (zq8x hs)
  refine Gv.nameI ?_
  refine Sv.ifS ?_
  refine Tv.not ?_
  refine Tv.truB ?_
  refine Ev.callD (mono__law_alike 3) ?_
  refine Av.cons ?_
  refine Ev.callD mono_lots_of ?_
  refine Av.cons ?_
  refine Ev.callD mono__law_copy ?_
  walk_at "dt"
  refine ⟨rfl, p, n, cs, rfl, by omega, fun f3 => ?_⟩
  walk_at "dt"
  refine ⟨rfl, p, n, s, cs, rfl, hN', n20, s0, by omega, ?_⟩
  rw [hD.lots (by omega)]
  by_cases c : s = 0
  ·walk_at "dt"
   rw [if_pos (show s.toNat = 0 by omega)]
   refine ⟨rfl, .list ([[]].map rowD), rfl, alike_rows [[]] (by decide) (by decide), _, rfl, ?_⟩
   rw [if_neg (by decide)]
   refine Sv.next ?_
   exact ⟨_, rfl⟩
  ·walk_at "dt"
   rw [if_neg (show ¬ s.toNat = 0 by omega)]
   refine ⟨rfl, .list ([].map rowD), rfl, alike_rows [] (by decide) (by decide), _, rfl, ?_⟩
   rw [if_neg (by decide)]
   refine Sv.next ?_
   exact ⟨_, rfl⟩
 rintro ρ ⟨x4, rfl⟩
 refine Sv.ret ?_
 walk_at "dt"
 refine Ev.callD mono_least ?_
 refine Av.cons ?_
 refine Ev.callD mono__law_copy ?_
 walk_at "dt"
 refine ⟨rfl, p, n, cs, rfl, by omega, fun f3 => ?_⟩
 walk_at "dt"
 refine ⟨rfl, p, n, mo, cs, rfl, hN', n20, by omega, by omega, ?_⟩
 rw [hD.none (by omega)]
 walk_at "dt"
 exact q
def F__law_peeled : DF := fun ds Φ => ∃ (cs : List Prs) (lot : List Int), ds = [.list (cs.map prsD), .list (lot.map .int)] /\ lot.Pairwise (· < ·) /\ lot.length < 64 /\ (∀ prs ∈ cs, prs.length <= 10000) /\ ∀ g : List Int, Great cs lot g -> Φ true (.list (g.map .int))
theorem mono__law_peeled : MonoF F__law_peeled := by
 intro ds Φ Ψ hm z
 obtain ⟨cs, lot, e, h1, h2, h3, q⟩ := hm
 exact ⟨cs, lot, e, h1, h2, h3, fun g a => z _ _ (q g a)⟩
theorem putI_ins {S : List Int} {x : Int} (h : x ∉ S) : putI (insK S) x (.bool true) = insK (S ++ [x]) := by
 unfold putI
 rw [insK_has, if_neg (by simpa using h)]
 unfold insK
 rw [zq6x]; rfl
theorem scLawPeeled : FnScope ["checks", "lot", "left", "place", "k", "many", "pairs", "here"] ["checks", "lot"] (defScope sLawPeeled) := ⟨rfl, rfl, rfl, by decide +kernel, rfl, by decide +kernel, by decide +kernel⟩
theorem ok__law_peeled (F : Fun K "_law_peeled" "_law_peeled" sLawPeeled f fd)   (m_range : mg "range" = none) (m_sorted : mg "sorted" = none) (m_len : mg "len" = none)  :
  FnOk P w K mg base CX0 1 f fd ["checks", "lot"] (spD 2 F__law_peeled) := by
 refine F.ok scLawPeeled (fun vs H Q E h => h.1) (fun cdv A outer s H vs Q E hr h => ?_)
 obtain ⟨nb, ds, Φ, hlive, hds, hΦ, hF⟩ := spD_out h
 obtain ⟨cs, lot, rfl, hup, hl64, hpl, q⟩ := hF
 refine ⟨_, (@pss_cons _ _ _ _ _ (@ps_set _ _ (2) _ _ _ _ scLawPeeled.nd rfl (Or.inr rfl) pe_dnewK (by rfl) (by first | exact .inl rfl | exact .inr rfl | assumption)) (@pss_cons _ _ _ _ _ (@ps_for _ _ _ _ _ _ _ _ zq24x rfl (pi_listK (K := K) rfl (pv 1)) (pg_name (i := 3) scLawPeeled.nd rfl (Or.inl rfl)) (@pss_one _ _ _ (@ps_asg _ _ _ _ _ _ pe_bl (pg_sub (pv 2) (pv 3) set_dict) (by rfl) (by rfl) (by rfl))) (by intro _; rfl)) (@pss_cons _ _ _ _ _ (@ps_for _ _ _ _ _ _ _ _ zq24x rfl (@pi_range1 _ _ _ _ _ _ rfl m_range (@pa_cons _ _ _ _ _ (@pe_callB _ _ _ _ _ _ _ _ (rLen K) call_lenM rfl m_len zq32x (@pa_cons _ _ _ _ _ (pv 1) pa_nil rfl) (by decide) (by decide) (by rfl) (by rfl)) pa_nil rfl) (by rfl)) (pg_name (i := 4) scLawPeeled.nd rfl (Or.inl rfl)) (@pss_cons _ _ _ _ _ (@ps_set _ _ (5) _ _ _ _ scLawPeeled.nd rfl (Or.inl rfl) (@pe_callB _ _ _ _ _ _ _ _ (rLenD) call_lenDD rfl m_len zq32x (@pa_cons _ _ _ _ _ (pv 2) pa_nil rfl) (by decide) (by decide) (by rfl) (by rfl)) (by rfl) (by first | exact .inl rfl | exact .inr rfl | assumption)) (@pss_cons _ _ _ _ _ (@ps_for _ _ _ _ _ _ _ _ zq24x rfl (pi_listK (K := K) rfl (pv 0)) (pg_name (i := 6) scLawPeeled.nd rfl (Or.inl rfl)) (@pss_cons _ _ _ _ _ (ps_setCC (i := 7) scLawPeeled.nd rfl rfl (CompOkC.of (show compOkBC (defScope sLawPeeled) ["checks", "lot", "left", "place", "k", "many", "pairs", "here"] _ ["place", "factor", "left"] [none, none, some 2] = true by decide +kernel)) (pi_listK (K := K) rfl (pv 6)) (fun _ _ _ _ => ⟨(@pg_tupM _ (K) _ _ _ (2) _ rfl rfl (@pgs_cons _ _ _ _ _ (pg_name (i := 0) (by show List.Nodup (["place", "factor", "left"] : List Str); decide +kernel) rfl (Or.inl rfl)) (@pgs_cons _ _ _ _ _ (pg_name (i := 1) (by show List.Nodup (["place", "factor", "left"] : List Str); decide +kernel) rfl (Or.inl rfl)) pgs_nil (by rfl)) (by rfl)) (by rfl) (by rfl)), (pts_one (@pt_cmpR _ _ _ _ _ _ _ _ (op_inD hr.units) (pv 0) (pv 2) (by with_unfolding_all rfl))), (pv 0)⟩)) (@pss_one _ _ _ (@ps_if _ _ _ _ _ _ _ _ (@pt_cmpR _ _ _ _ _ _ _ _ op_eq (@pe_callB _ _ _ _ _ _ _ _ (rLen K) call_lenM rfl m_len zq32x (@pa_cons _ _ _ _ _ (pv 7) pa_nil rfl) (by decide) (by decide) (by rfl) (by rfl)) pe_int (nomark _)) (@pss_one _ _ _ (@ps_expr _ _ _ _ (pe_bm zq132x zq147x zq199x mt_popD (pv 2) (@pa_cons _ _ _ _ _ (@pe_ix _ _ _ _ _ _ (rIxL K) ix_list (pv 7) pe_int (fun _ _ => rfl)) pa_nil rfl)) (by rfl))) pss_nil))) (by intro _; rfl)) (@pss_one _ _ _ (@ps_if _ _ _ _ _ _ _ _ (@pt_cmpR _ _ _ _ _ _ _ _ op_eq (@pe_callB _ _ _ _ _ _ _ _ (rLenD) call_lenDD rfl m_len zq32x (@pa_cons _ _ _ _ _ (pv 2) pa_nil rfl) (by decide) (by decide) (by rfl) (by rfl)) (pv 5) (nomark _)) (@pss_one _ _ _ (@ps_ret _ _ _ _ (@pe_callB _ _ _ _ _ _ _ _ (rSortedD) (call_sortD rfl) rfl m_sorted zq133x (@pa_cons _ _ _ _ _ (pv 2) pa_nil rfl) (by decide) (by decide) (by rfl) (by rfl)))) pss_nil)))) (by intro _; rfl)) (@pss_one _ _ _ (@ps_ret _ _ _ _ (@pe_callB _ _ _ _ _ _ _ _ (rSortedD) (call_sortD rfl) rfl m_sorted zq133x (@pa_cons _ _ _ _ _ (pv 2) pa_nil rfl) (by decide) (by decide) (by rfl) (by rfl))))))), ?_⟩
 refine Sv.enterD hlive hds hΦ (ρ := [.d false _, .d false _, .no, .no, .no, .no, .no, .no]) rfl ?_
 clear hΦ hds
 have hnd : lot.Nodup := hup.imp fun h => by omega
 have hlm : (lot.map PyData.int).length = lot.length := zq0x ..
 refine Sv.seq ?_
 refine Sv.asgK (EvK.new ?_)
 intro A2
 refine Sv.seq ?_
 refine Sv.forL ?_
 walk_at "dt"
 refine fun v1 => ⟨fun i ρ => ∃ (f : Bool) (x3 x4 x5 x6 x7 : Sl), ρ = [.d false (.list (cs.map prsD)), .d false (.list (lot.map .int)), .dic A2 f (insK (lot.take i)), x3, x4, x5, x6, x7], ⟨_, _, _, _, _, _, rfl⟩, ?_, ?_⟩
 ·rintro i d ρ hd ⟨f, x3, x4, x5, x6, x7, rfl⟩
  obtain ⟨x, hx, rfl⟩ := map_at hd
  have hil := (zq2x.mp hx).1
  have hxn : x ∉ lot.take i := fun z => by
   have h1 := hnd
   obtain ⟨k, hk⟩ := zq51x z
   have hki : k < i := by have := (zq2x.mp hk).1; rw [zq47x] at this; omega
   rw [zq95x hki] at hk
   obtain ⟨l1, e1⟩ := zq2x.mp hk
   obtain ⟨l2, e2⟩ := zq2x.mp hx
   have := (zq112x h1).mp (e1.trans e2.symm)
   omega
  refine Gv.nameI ?_
  refine Sv.putDic rfl ?_
  walk_at "dt"
  refine ⟨by unfold insK; rw [zq0x, zq47x]; omega, ?_⟩
  rw [putI_ins hxn, <- take_snoc hx]
  exact ⟨_, _, _, _, _, _, rfl⟩
 rintro ρ ⟨f, x3, x4, x5, x6, x7, rfl⟩
 rw [hlm, zq20x]
 have fin : ∀ (S : List Int) (f : Bool) (x3 x4 x5 x6 x7 : Sl), (∃ q : Int -> Bool, S = lot.filter q) -> Great cs lot S -> EvN { B := none, H0 := H, A := nb } [.d false (.list (cs.map prsD)), .d false (.list (lot.map .int)), .dic A2 f (insK S), x3, x4, x5, x6, x7] (tCB rSortedD (tCons (tVar 2) tNil)) (fun f ds => Φ f (.list ds)) := fun S f x3 x4 x5 x6 x7 hq hG => by
  have hSl : S.length <= lot.length := by obtain ⟨qq, e⟩ := hq; rw [e]; exact zq58x _ _
  refine EvN.sortedDic rfl (by unfold insK; rw [zq0x]; omega) fun rs hs hp => ?_
  have e : (insK S).map (·.1) = S := by unfold insK; rw [zq57x]; exact zq155x (fun _ => rfl) S
  rw [e] at hp
  rw [sorted_is (hG.up hup) hs hp]
  exact q S hG
 refine Sv.seq ?_
 refine Sv.forR1 ?_
 walk_at "dt"
 refine ⟨fun t ρ => ∃ (S : List Int) (f : Bool) (x3 x4 x5 x6 x7 : Sl), ((∃ q : Int -> Bool, S = lot.filter q) /\ S.length + t <= lot.length /\ ∀ T : List Int, (∀ x ∈ T, x ∈ lot) -> holdB cs T = true -> ∀ x ∈ T, x ∈ S) /\ ρ = [.d false (.list (cs.map prsD)), .d false (.list (lot.map .int)), .dic A2 f (insK S), x3, x4, x5, x6, x7], ⟨lot, _, _, _, _, _, _, ⟨⟨fun _ => true, (zq158x.mpr fun _ _ => rfl).symm⟩, zq3x _, fun T hT _ => hT⟩, rfl⟩, ?_, ?_⟩
 ·rintro t d ρ ⟨ht, rfl⟩ ⟨S0, f, x3, x4, x5, x6, x7, ⟨hS1, hS2, hS3⟩, rfl⟩
  refine Gv.nameI ?_
  refine Sv.seq ?_
  refine Sv.asg ?_
  refine Ev.lenDic rfl ?_
  refine Gv.nameI ?_
  have hsl : (insK S0).length = S0.length := by unfold insK; rw [zq0x]
  rw [hsl]
  refine Sv.seq ?_
  refine Sv.forL ?_
  walk_at "dt"
  refine fun v2 => ⟨fun i ρ => ∃ (S : List Int) (f : Bool) (x6 x7 : Sl), ((∃ q : Int -> Bool, S = lot.filter q) /\ S.length <= S0.length /\ (S.length = S0.length -> ∀ prs ∈ cs.take i, inLot S prs ≠ 1) /\ ∀ T : List Int, (∀ x ∈ T, x ∈ lot) -> holdB cs T = true -> ∀ x ∈ T, x ∈ S) /\ ρ = [.d false (.list (cs.map prsD)), .d false (.list (lot.map .int)), .dic A2 f (insK S), x3, .d true (.int (0 + (t : Int))), .d true (.int (S0.length : Int)), x6, x7], ⟨S0, _, _, _, ⟨hS1, zq3x _, fun _ _ h => (by simp at h), hS3⟩, rfl⟩, ?_, ?_⟩
  ·rintro i d ρ hd ⟨S, f, x6, x7, ⟨g1, g2, g3, g4⟩, rfl⟩
   obtain ⟨prs, hprs, rfl⟩ := map_at hd
   have hpm := zq8x hprs
   have hplm : (prs.map pairD).length = prs.length := zq0x ..
   have hplen := hpl prs hpm
   refine Gv.nameF ?_
   refine Sv.seq ?_
   refine Sv.setCF ?_
   refine EvN.ev (EvN.compL (by decide) rfl ?_)
   walk_at "dt"
   refine fun v => ⟨true, fun i ds => ds = ((prs.take i).filter fun pr => decide (pr.1 ∈ S)).map fun pr => .int pr.1, rfl, ?_, ?_⟩
   ·rintro i d ds hd hl' rfl
    obtain ⟨pr, hpr, rfl⟩ := map_at hd
    walk_at "dt"
    refine ⟨by walk_at "wk", ?_⟩
    refine Tv.test ?_
    refine Ev.inDic rfl ?_
    walk_at "dt"
    rw [insK_has]
    by_cases c : pr.1 ∈ S
    ·rw [if_pos (by simpa using c)]
     walk_at "dt"
     show _ = List.map _ (List.filter _ (prs.take (i + 1)))
     rw [take_snoc hpr, inLot_snoc, if_pos c, zq6x]
     rfl
    ·rw [if_neg (by simpa using c)]
     show _ = List.map _ (List.filter _ (prs.take (i + 1)))
     rw [take_snoc hpr, inLot_snoc, if_neg c, zq39x]
   rintro ds hl' rfl
   rw [hplm, zq20x]
   refine Sv.ifS ?_
   refine Tv.test ?_
   refine Ev.eq ?_
   refine Ev.lenS ?_
   walk_at "dt"
   rw [zq0x]
   by_cases c : inLot S prs = 1
   ·rw [if_pos (decide_eq_true (by unfold inLot at c; omega))]
    obtain ⟨pr, efl⟩ := zq189x.mp (show (prs.filter fun pr => decide (pr.1 ∈ S)).length = 1 from c)
    have hpm2 : pr ∈ prs.filter fun pr => decide (pr.1 ∈ S) := by rw [efl]; exact zq12x.mpr rfl
    obtain ⟨h1, h2⟩ := zq5x.mp hpm2
    have hxS : pr.1 ∈ S := of_decide_eq_true h2
    have hx0 : pr.1 ∈ prs.map (·.1) := zq14x.mpr ⟨pr, h1, rfl⟩
    rw [efl]
    refine Sv.popDic rfl ?_
    walk_at "dt"
    refine ⟨by rw [insK_has]; exact decide_eq_true hxS, ?_⟩
    rw [insK_drop]
    have hlt : (S.filter fun y => decide (y ≠ pr.1)).length < S.length := by
     have h1 : (S.filter fun y => decide (y ≠ pr.1)).length <= S.length := zq58x _ _
     have h2 : (S.filter fun y => decide (y ≠ pr.1)).length ≠ S.length := fun z => by
      have := zq169x.mp z pr.1 hxS
      simp at this
     omega
    refine ⟨_, _, _, _, ⟨?_, by omega, fun z => by omega, peel_max g4 hpm c hx0⟩, rfl⟩
    obtain ⟨qq, e⟩ := g1
    exact ⟨_, by rw [e, zq126x]⟩
   ·rw [if_neg (by simp; unfold inLot at c; omega)]
    refine Sv.next ?_
    refine ⟨S, _, _, _, ⟨g1, g2, fun z u hu => ?_, g4⟩, rfl⟩
    rw [take_snoc hprs] at hu
    rcases zq29x.mp hu with h | h
    ·exact g3 z u h
    ·rw [zq12x.mp h]; exact c
  ·rintro ρ ⟨S, f, x6, x7, ⟨g1, g2, g3, g4⟩, rfl⟩
   rw [zq0x, zq20x] at g3
   have hsl : (insK S).length = S.length := by unfold insK; rw [zq0x]
   refine Sv.ifS ?_
   refine Tv.test ?_
   refine Ev.eq ?_
   refine Ev.lenDic rfl ?_
   rw [hsl]
   walk_at "dt"
   by_cases c : S.length = S0.length
   ·rw [if_pos (decide_eq_true (by omega))]
    refine Sv.ret ?_
    refine EvN.ev (fin S _ _ _ _ _ _ g1 ⟨g1, ?_, g4⟩)
    unfold holdB
    rw [zq50x]
    exact fun u hu => decide_eq_true (g3 c u hu)
   ·rw [if_neg (by simp; omega)]
    refine Sv.next ?_
    exact ⟨S, _, _, _, _, _, _, ⟨g1, by omega, g4⟩, rfl⟩
 ·rintro ρ ⟨S, f, x3, x4, x5, x6, x7, ⟨g1, g2, g4⟩, rfl⟩
  have e9 : S = [] := zq99x.mp (by omega)
  refine Sv.ret ?_
  refine EvN.ev (fin S _ _ _ _ _ _ g1 ⟨g1, ?_, g4⟩)
  rw [e9]
  exact holdB_nil cs
def F__law_by_rule : DF := fun ds Φ => ∃ (cs : List Prs) (lot : List Int), ds = [.list (cs.map prsD), .list (lot.map .int)] /\ lot.Pairwise (· < ·) /\ lot.length < 64 /\ (∀ prs ∈ cs, prs.length <= 10000) /\ Φ true (.list ((bareF cs lot lot).map .int))
theorem mono__law_by_rule : MonoF F__law_by_rule := by
 intro ds Φ Ψ hm z
 obtain ⟨cs, lot, e, h1, h2, h3, q⟩ := hm
 exact ⟨cs, lot, e, h1, h2, h3, z _ _ q⟩
theorem step_up {cs : List Prs} {m g : List Int} {x : Int} (h : m.Pairwise (· < ·) /\ m.length < 64) (hg : x ∈ m -> Great cs (m.filter fun y => decide (y ≠ x)) g) : (stepF cs m x).Pairwise (· < ·) /\ (stepF cs m x).length < 64 := by
 unfold stepF
 by_cases c : x ∈ m
 ·rw [if_pos c, grF_eq (hg c)]
  by_cases c2 : g = []
  ·rw [if_pos c2]; exact h
  ·rw [if_neg c2]
   refine ⟨(hg c).up (h.1.filter _), ?_⟩
   obtain ⟨q, e⟩ := (hg c).sub
   rw [e]
   have h1 := zq58x q (m.filter fun y => decide (y ≠ x))
   have h2 := zq58x (fun y => decide (y ≠ x)) m
   have := h.2
   omega
 ·rw [if_neg c]; exact h
theorem scLawByRule : FnScope ["checks", "lot", "left", "place", "some"] ["checks", "lot"] (defScope sLawByRule) := ⟨rfl, rfl, rfl, by decide +kernel, rfl, by decide +kernel, by decide +kernel⟩
theorem ok__law_by_rule (F : Fun K "_law_by_rule" "_law_by_rule" sLawByRule f fd)  (c__law_peeled : Callee P w K mg base "_law_peeled" 1 ["checks", "lot"] (spD 2 F__law_peeled)) (m_list : mg "list" = none)  :
  FnOk P w K mg base CX0 2 f fd ["checks", "lot"] (spD 2 F__law_by_rule) := by
 refine F.ok scLawByRule (fun vs H Q E h => h.1) (fun cdv A outer s H vs Q E hr h => ?_)
 obtain ⟨nb, ds, Φ, hlive, hds, hΦ, hF⟩ := spD_out h
 obtain ⟨cs, lot, rfl, hup, hl64, hpl, q⟩ := hF
 refine ⟨_, (@pss_cons _ _ _ _ _ (@ps_set _ _ (2) _ _ _ _ scLawByRule.nd rfl (Or.inl rfl) (@pe_callTy _ _ _ _ _ _ _ _ (rListOf K) call_listM rfl m_list zq30x (@pa_cons _ _ _ _ _ (pv 1) pa_nil rfl) (by decide) (by decide) (by rfl) (by rfl)) (by rfl) (by first | exact .inl rfl | exact .inr rfl | assumption)) (@pss_cons _ _ _ _ _ (@ps_for _ _ _ _ _ _ _ _ zq24x rfl (pi_listK (K := K) rfl (pv 1)) (pg_name (i := 3) scLawByRule.nd rfl (Or.inr rfl)) (@pss_one _ _ _ (@ps_if _ _ _ _ _ _ _ _ (pt_cmpR (op_inK (K := K) (by rfl)) (pv 3) (pv 2) (by with_unfolding_all rfl)) (@pss_cons _ _ _ _ _ (@ps_set _ _ (4) _ _ _ _ scLawByRule.nd rfl (Or.inl rfl) (@pe_callC _ _ _ _ _ _ _ _ _ _ c__law_peeled (hr.mono (by decide)) (@pa_cons _ _ _ _ _ (pv 0) (@pa_cons _ _ _ _ _ (pe_lcompC (CompOkC.of (show compOkBC (defScope sLawByRule) ["checks", "lot", "left", "place", "some"] _ ["one", "place"] [none, some 3] = true by decide +kernel)) (pi_listK (K := K) rfl (pv 2)) (fun _ _ _ _ => ⟨(pg_name (i := 0) (by show List.Nodup (["one", "place"] : List Str); decide +kernel) rfl (Or.inl rfl)), (pts_one (@pt_cmpR _ _ _ _ _ _ _ _ op_ne (pv 0) (pv 1) (nomark _))), (pv 0)⟩)) pa_nil rfl) rfl) (by rfl) (by decide) (by rfl) (by rfl)) (by rfl) (by first | exact .inl rfl | exact .inr rfl | assumption)) (@pss_one _ _ _ (@ps_if _ _ _ _ _ _ _ _ (@pt_cmpR _ _ _ _ _ _ _ _ (op_neD hr.units) (pv 4) (@pe_lst _ _ _ _ pa_nil) (nomark _)) (@pss_one _ _ _ (@ps_set _ _ (2) _ _ _ _ scLawByRule.nd rfl (Or.inl rfl) (pv 4) (by rfl) (by first | exact .inl rfl | exact .inr rfl | assumption))) pss_nil))) pss_nil)) (by intro _; rfl)) (@pss_one _ _ _ (@ps_ret _ _ _ _ (pv 2))))), ?_⟩
 refine Sv.enterD hlive hds hΦ (ρ := [.d false _, .d false _, .no, .no, .no]) rfl ?_
 clear hΦ hds
 refine Sv.seq ?_
 refine Sv.asg ?_
 refine Ev.listOf ?_
 refine Ev.var rfl ?_
 refine ⟨_, .inl rfl, ?_⟩
 rw [scAll_ints, zq119x]
 refine Gv.nameT ?_
 refine Sv.seq ?_
 refine Sv.forL ?_
 walk_at "dt"
 refine fun v => ⟨fun i ρ => ∃ (m : List Int) (x3 x4 : Sl), ((m.Pairwise (· < ·) /\ m.length < 64) /\ m = bareF cs (lot.take i) lot) /\ ρ = [.d false (.list (cs.map prsD)), .d false (.list (lot.map .int)), .d true (.list (m.map .int)), x3, x4], ⟨lot, _, _, ⟨⟨hup, hl64⟩, rfl⟩, rfl⟩, ?_, ?_⟩
 ·rintro i d ρ hd ⟨m, x3, x4, ⟨hm, em⟩, rfl⟩
  obtain ⟨x, hx, rfl⟩ := map_at hd
  have hml := hm.2
  have esn : bareF cs (lot.take (i + 1)) lot = stepF cs m x := by rw [take_snoc hx, bareF_snoc, <- em]
  refine Gv.nameI ?_
  refine Sv.ifS ?_
  refine Tv.test ?_
  refine Ev.inI ?_
  walk_at "dt"
  refine ⟨m, rfl, ?_⟩
  refine ⟨_, rfl, ?_⟩
  by_cases c : x ∈ m
  ·rw [if_pos (by simpa using c)]
   refine Sv.seq ?_
   refine Sv.asg ?_
   refine Ev.callD mono__law_peeled ?_
   refine Av.cons ?_
   walk_at "dt"
   have hmm : (m.map PyData.int).length = m.length := zq0x ..
   refine EvN.ev (EvN.compL (by decide) rfl ?_)
   walk_at "dt"
   refine fun v => ⟨true, fun j ds => ds = ((m.take j).filter fun y => decide (y ≠ x)).map .int, rfl, ?_, ?_⟩
   ·rintro j d ds hd hl' rfl
    obtain ⟨y, hy, rfl⟩ := map_at hd
    walk_at "dt"
    refine ⟨by walk_at "wk", ?_⟩
    by_cases c : y = x
    ·walk_at "dt"
     show _ = List.map _ (List.filter _ (m.take (j + 1)))
     rw [filter_snoc _ hy, if_neg (by simpa using c), zq39x]
    ·walk_at "dt"
     show _ = List.map _ (List.filter _ (m.take (j + 1)))
     rw [filter_snoc _ hy, if_pos (by simpa using c), zq6x]
     rfl
   rintro ds hl' rfl
   rw [hmm, zq20x]
   walk_at "dt"
   refine ⟨rfl, cs, _, rfl, hm.1.filter _, zq142x (zq58x _ _) hml, hpl, fun g hg => ?_⟩
   refine Gv.nameT ?_
   have hs : stepF cs m x = if g = [] then m else g := by
    unfold stepF
    rw [if_pos c, grF_eq hg]
   have hlo := step_up hm (fun _ => hg)
   refine Sv.ifS ?_
   refine Tv.test ?_
   refine Ev.eqD ?_
   walk_at "dt"
   refine ⟨shaped_ints g, rfl, ?_⟩
   by_cases cg : g = []
   ·rw [if_pos cg] at hs
    rw [hs] at hlo
    refine ⟨false, by subst cg; rfl, ?_⟩
    rw [if_neg zq7x]
    refine Sv.next ?_
    exact ⟨m, _, _, ⟨hlo, by rw [esn, hs]⟩, rfl⟩
   ·rw [if_neg cg] at hs
    rw [hs] at hlo
    refine ⟨true, by obtain ⟨u, t, e⟩ := zq82x cg; subst e; rfl, ?_⟩
    rw [if_pos rfl]
    refine Sv.asg ?_
    refine Ev.var rfl ?_
    refine Gv.nameT ?_
    exact ⟨g, _, _, ⟨hlo, by rw [esn, hs]⟩, rfl⟩
  ·rw [if_neg (by simpa using c)]
   refine Sv.next ?_
   refine ⟨m, _, _, ⟨hm, ?_⟩, rfl⟩
   rw [esn]
   unfold stepF
   rw [if_neg c]
 ·rintro ρ ⟨m, x3, x4, ⟨hm, em⟩, rfl⟩
  rw [zq0x, zq20x] at em
  refine Sv.ret ?_
  refine Ev.var rfl ?_
  rw [em]
  exact q
def F__law_says : DF := fun ds Φ => ∃ b : Bool, ds = [.bool b, .bool b] /\ Φ true (.bool true)
theorem mono__law_says : MonoF F__law_says := by
 intro ds Φ Ψ hm z
 obtain ⟨b, e, q⟩ := hm
 exact ⟨b, e, z _ _ q⟩
theorem scLawSays : FnScope ["found", "due"] ["found", "due"] (defScope sLawSays) := ⟨rfl, rfl, rfl, by decide +kernel, rfl, by decide +kernel, by decide +kernel⟩
theorem ok__law_says (F : Fun K "_law_says" "_law_says" sLawSays f fd)     :
    FnOk P w K mg base CX0 1 f fd ["found", "due"] (spD 2 F__law_says) := by
  refine F.ok scLawSays (fun vs H Q E h => h.1) (fun cdv A outer s H vs Q E hr h => ?_)
  obtain ⟨nb, ds, Φ, hlive, hds, hΦ, hF⟩ := spD_out h
  obtain ⟨b, rfl, q⟩ := hF
  refine ⟨_, (@pss_one _ _ _ (@ps_ret _ _ _ _ (@pe_ifExp _ _ _ _ _ _ _ _ (@pt_truthK _ (K) _ _ rfl (pv 1) (fun _ => rfl)) (@pe_cmpR _ _ _ _ _ _ _ _ op_isB (pv 0) pe_bl (nomark _)) (@pe_cmpR _ _ _ _ _ _ _ _ op_isB (pv 0) pe_bl (nomark _))))), ?_⟩
  refine Sv.enterD hlive hds hΦ (ρ := [.d false _, .d false _]) rfl ?_
  clear hΦ hds
  cases b with
  | true =>
    walk_at "dt"
    exact q
  | false =>
    walk_at "dt"
    exact q
theorem alike_row {n : Nat} (r : List Int) (h : r.length <= 10000) : alikeOk (n + 2) (rowD r) := .inr ⟨_, .inl rfl, by rw [zq0x]; exact h, fun e he => by
 obtain ⟨x, _, rfl⟩ := zq14x.mp he
 exact .inl rfl⟩
def F__law_all_places : DF := fun ds Φ => ∃ (p n d : Int) (cs : List Prs), ds = [netD p n cs, .int d] /\ 1 <= n /\ n <= 49 /\ LotNet n cs /\ 1 <= d /\ d <= 8 /\ DNet n d.toNat cs /\ Φ true (.bool true)
theorem mono__law_all_places : MonoF F__law_all_places := by
 intro ds Φ Ψ hm z
 obtain ⟨p, n, d, cs, e, h1, h2, h3, h4, h5, h6, q⟩ := hm
 exact ⟨p, n, d, cs, e, h1, h2, h3, h4, h5, h6, z _ _ q⟩
theorem scLawAllPlaces : FnScope ["net", "d", "handed", "lot", "bare"] ["net", "d"] (defScope sLawAllPlaces) := ⟨rfl, rfl, rfl, by decide +kernel, rfl, by decide +kernel, by decide +kernel⟩
theorem ok__law_all_places (F : Fun K "_law_all_places" "_law_all_places" sLawAllPlaces f fd)  (c__law_copy : Callee P w K mg base "_law_copy" 1 ["net"] (spD 1 F__law_copy)) (c__law_peeled : Callee P w K mg base "_law_peeled" 1 ["checks", "lot"] (spD 2 F__law_peeled)) (c__law_by_rule : Callee P w K mg base "_law_by_rule" 2 ["checks", "lot"] (spD 2 F__law_by_rule)) (c__law_alike : Callee P w K mg base "_law_alike" 3 ["found", "due"] (spD 2 (F__law_alike 3))) (c__law_says : Callee P w K mg base "_law_says" 1 ["found", "due"] (spD 2 F__law_says)) (c_greatest : Callee P w K mg base "greatest" 2 ["net", "lot"] (spD 2 F_greatest)) (c_holds_out : Callee P w K mg base "holds_out" 2 ["net", "lot"] (spD 2 F_holds_out)) (c_is_bare : Callee P w K mg base "is_bare" 3 ["net", "lot"] (spD 2 F_is_bare)) (c_bared : Callee P w K mg base "bared" 3 ["net", "lot"] (spD 2 F_bared)) (m_list : mg "list" = none) (m_range : mg "range" = none) (m_len : mg "len" = none)  :
  FnOk P w K mg base CX0 4 f fd ["net", "d"] (spD 2 F__law_all_places) := by
 refine F.ok scLawAllPlaces (fun vs H Q E h => h.1) (fun cdv A outer s H vs Q E hr h => ?_)
 obtain ⟨nb, ds, Φ, hlive, hds, hΦ, hF⟩ := spD_out h
 obtain ⟨p, n, d, cs, rfl, n0, n1, hN, d1, d8, hD, q⟩ := hF
 refine ⟨_, (@pss_cons _ _ _ _ _ (@ps_set _ _ (2) _ _ _ _ scLawAllPlaces.nd rfl (Or.inl rfl) (@pe_callC _ _ _ _ _ _ _ _ _ _ c__law_copy (hr.mono (by decide)) (@pa_cons _ _ _ _ _ (pv 0) pa_nil rfl) (by rfl) (by decide) (by rfl) (by rfl)) (by rfl) (by first | exact .inl rfl | exact .inr rfl | assumption)) (@pss_cons _ _ _ _ _ (@ps_set _ _ (3) _ _ _ _ scLawAllPlaces.nd rfl (Or.inl rfl) (@pe_callC _ _ _ _ _ _ _ _ _ _ c__law_peeled (hr.mono (by decide)) (@pa_cons _ _ _ _ _ (@pe_ix _ _ _ _ _ _ (rIxT K) ix_tup (pv 0) pe_int (fun _ _ => rfl)) (@pa_cons _ _ _ _ _ (@pe_callTy _ _ _ _ _ _ _ _ _ (call_listR rfl) rfl m_list zq30x (@pa_cons _ _ _ _ _ (@pe_callTy _ _ _ _ _ _ _ _ _ call_rangeM rfl m_range zq94x (@pa_cons _ _ _ _ _ (@pe_ix _ _ _ _ _ _ (rIxT K) ix_tup (pv 0) pe_int (fun _ _ => rfl)) pa_nil rfl) (by decide) (by decide) (by rfl) (by rfl)) pa_nil rfl) (by decide) (by decide) (by rfl) (by rfl)) pa_nil rfl) rfl) (by rfl) (by decide) (by rfl) (by rfl)) (by rfl) (by first | exact .inl rfl | exact .inr rfl | assumption)) (@pss_cons _ _ _ _ _ (@ps_if _ _ _ _ _ _ _ _ (@pt_not _ _ _ _ (@pt_truthK _ (K) _ _ rfl (@pe_callC _ _ _ _ _ _ _ _ _ _ c__law_alike (hr.mono (by decide)) (@pa_cons _ _ _ _ _ (@pe_callC _ _ _ _ _ _ _ _ _ _ c_greatest (hr.mono (by decide)) (@pa_cons _ _ _ _ _ (pv 2) (@pa_cons _ _ _ _ _ (@pe_callTy _ _ _ _ _ _ _ _ _ (call_listR rfl) rfl m_list zq30x (@pa_cons _ _ _ _ _ (@pe_callTy _ _ _ _ _ _ _ _ _ call_rangeM rfl m_range zq94x (@pa_cons _ _ _ _ _ (@pe_ix _ _ _ _ _ _ (rIxT K) ix_tup (pv 0) pe_int (fun _ _ => rfl)) pa_nil rfl) (by decide) (by decide) (by rfl) (by rfl)) pa_nil rfl) (by decide) (by decide) (by rfl) (by rfl)) pa_nil rfl) rfl) (by rfl) (by decide) (by rfl) (by rfl)) (@pa_cons _ _ _ _ _ (pv 3) pa_nil rfl) rfl) (by rfl) (by decide) (by rfl) (by rfl)) (fun _ => rfl))) (@pss_one _ _ _ (@ps_ret _ _ _ _ pe_bl)) pss_nil) (@pss_cons _ _ _ _ _ (@ps_if _ _ _ _ _ _ _ _ (@pt_cmpR _ _ _ _ _ _ _ _ (op_eqD hr.units) (pv 3) (@pe_lst _ _ _ _ pa_nil) (nomark _)) (@pss_one _ _ _ (@ps_ret _ _ _ _ (@pe_and _ _ _ _ _ _ _ (@pe_cmpR _ _ _ _ _ _ _ _ op_isB (@pe_callC _ _ _ _ _ _ _ _ _ _ c_is_bare (hr.mono (by decide)) (@pa_cons _ _ _ _ _ (pv 2) (@pa_cons _ _ _ _ _ (pv 3) pa_nil rfl) rfl) (by rfl) (by decide) (by rfl) (by rfl)) pe_bl (nomark _)) (@pe_one _ _ _ _ _ (@pe_cmpR _ _ _ _ _ _ _ _ (op_eqD hr.units) (pv 2) (pv 0) (nomark _)))))) pss_nil) (@pss_cons _ _ _ _ _ (@ps_set _ _ (4) _ _ _ _ scLawAllPlaces.nd rfl (Or.inl rfl) (@pe_callC _ _ _ _ _ _ _ _ _ _ c__law_by_rule (hr.mono (by decide)) (@pa_cons _ _ _ _ _ (@pe_ix _ _ _ _ _ _ (rIxT K) ix_tup (pv 0) pe_int (fun _ _ => rfl)) (@pa_cons _ _ _ _ _ (pv 3) pa_nil rfl) rfl) (by rfl) (by decide) (by rfl) (by rfl)) (by rfl) (by first | exact .inl rfl | exact .inr rfl | assumption)) (@pss_cons _ _ _ _ _ (@ps_if _ _ _ _ _ _ _ _ (PW.pt (pw_or (@pt_cmpR _ _ _ _ _ _ _ _ op_le (@pe_callB _ _ _ _ _ _ _ _ (rLen K) call_lenM rfl m_len zq32x (@pa_cons _ _ _ _ _ (pv 3) pa_nil rfl) (by decide) (by decide) (by rfl) (by rfl)) (pv 1) (nomark _)) (pw_or (@pt_cmpR _ _ _ _ _ _ _ _ op_le (@pe_callB _ _ _ _ _ _ _ _ (rLen K) call_lenM rfl m_len zq32x (@pa_cons _ _ _ _ _ (pv 4) pa_nil rfl) (by decide) (by decide) (by rfl) (by rfl)) (pv 1) (nomark _)) (pw_or1 (@pt_not _ _ _ _ (@pt_truthK _ (K) _ _ rfl (@pe_callC _ _ _ _ _ _ _ _ _ _ c__law_alike (hr.mono (by decide)) (@pa_cons _ _ _ _ _ (@pe_callC _ _ _ _ _ _ _ _ _ _ c_bared (hr.mono (by decide)) (@pa_cons _ _ _ _ _ (pv 2) (@pa_cons _ _ _ _ _ (@pe_callTy _ _ _ _ _ _ _ _ (rListOf K) call_listM rfl m_list zq30x (@pa_cons _ _ _ _ _ (pv 3) pa_nil rfl) (by decide) (by decide) (by rfl) (by rfl)) pa_nil rfl) rfl) (by rfl) (by decide) (by rfl) (by rfl)) (@pa_cons _ _ _ _ _ (pv 4) pa_nil rfl) rfl) (by rfl) (by decide) (by rfl) (by rfl)) (fun _ => rfl))))))) (@pss_one _ _ _ (@ps_ret _ _ _ _ pe_bl)) pss_nil) (@pss_cons _ _ _ _ _ (@ps_if _ _ _ _ _ _ _ _ (PW.pt (pw_or (@pt_cmpR _ _ _ _ _ _ _ _ op_isNotB (@pe_callC _ _ _ _ _ _ _ _ _ _ c_holds_out (hr.mono (by decide)) (@pa_cons _ _ _ _ _ (pv 2) (@pa_cons _ _ _ _ _ (@pe_callTy _ _ _ _ _ _ _ _ (rListOf K) call_listM rfl m_list zq30x (@pa_cons _ _ _ _ _ (pv 3) pa_nil rfl) (by decide) (by decide) (by rfl) (by rfl)) pa_nil rfl) rfl) (by rfl) (by decide) (by rfl) (by rfl)) pe_bl (nomark _)) (pw_or1 (@pt_cmpR _ _ _ _ _ _ _ _ op_isNotB (@pe_callC _ _ _ _ _ _ _ _ _ _ c_holds_out (hr.mono (by decide)) (@pa_cons _ _ _ _ _ (pv 2) (@pa_cons _ _ _ _ _ (@pe_callTy _ _ _ _ _ _ _ _ (rListOf K) call_listM rfl m_list zq30x (@pa_cons _ _ _ _ _ (pv 4) pa_nil rfl) (by decide) (by decide) (by rfl) (by rfl)) pa_nil rfl) rfl) (by rfl) (by decide) (by rfl) (by rfl)) pe_bl (nomark _))))) (@pss_one _ _ _ (@ps_ret _ _ _ _ pe_bl)) pss_nil) (@pss_cons _ _ _ _ _ (@ps_if _ _ _ _ _ _ _ _ (PW.pt (pw_or (@pt_cmpR _ _ _ _ _ _ _ _ op_isNotB (@pe_callC _ _ _ _ _ _ _ _ _ _ c_is_bare (hr.mono (by decide)) (@pa_cons _ _ _ _ _ (pv 2) (@pa_cons _ _ _ _ _ (@pe_callTy _ _ _ _ _ _ _ _ (rListOf K) call_listM rfl m_list zq30x (@pa_cons _ _ _ _ _ (pv 4) pa_nil rfl) (by decide) (by decide) (by rfl) (by rfl)) pa_nil rfl) rfl) (by rfl) (by decide) (by rfl) (by rfl)) pe_bl (nomark _)) (pw_or1 (@pt_cmpR _ _ _ _ _ _ _ _ op_isNotB (@pe_callC _ _ _ _ _ _ _ _ _ _ c_is_bare (hr.mono (by decide)) (@pa_cons _ _ _ _ _ (pv 2) (@pa_cons _ _ _ _ _ (@pe_slice _ _ _ _ _ _ _ _ _ (rSlL K) sl_list (pv 4) (@po_some _ _ _ pe_int) po_none) pa_nil rfl) rfl) (by rfl) (by decide) (by rfl) (by rfl)) pe_bl (nomark _))))) (@pss_one _ _ _ (@ps_ret _ _ _ _ pe_bl)) pss_nil) (@pss_one _ _ _ (@ps_ret _ _ _ _ (@pe_and _ _ _ _ _ _ _ (@pe_callC _ _ _ _ _ _ _ _ _ _ c__law_says (hr.mono (by decide)) (@pa_cons _ _ _ _ _ (@pe_callC _ _ _ _ _ _ _ _ _ _ c_is_bare (hr.mono (by decide)) (@pa_cons _ _ _ _ _ (pv 2) (@pa_cons _ _ _ _ _ (@pe_callTy _ _ _ _ _ _ _ _ (rListOf K) call_listM rfl m_list zq30x (@pa_cons _ _ _ _ _ (pv 3) pa_nil rfl) (by decide) (by decide) (by rfl) (by rfl)) pa_nil rfl) rfl) (by rfl) (by decide) (by rfl) (by rfl)) (@pa_cons _ _ _ _ _ (@pe_cmpR _ _ _ _ _ _ _ _ (op_eqD hr.units) (pv 4) (pv 3) (nomark _)) pa_nil rfl) rfl) (by rfl) (by decide) (by rfl) (by rfl)) (@pe_one _ _ _ _ _ (@pe_cmpR _ _ _ _ _ _ _ _ (op_eqD hr.units) (pv 2) (pv 0) (nomark _)))))))))))))), ?_⟩
 refine Sv.enterD hlive hds hΦ (ρ := [.d false _, .d false _, .no, .no, .no]) rfl ?_
 clear hΦ hds
 have hcl := hN.cl
 have hplb : ∀ prs ∈ cs, prs.length <= 10000 := fun prs hp => by
  have := (hD.ck prs hp).lenN
  rw [zq0x] at this
  omega
 have hRo : LotOk n ((List.range n.toNat).map fun (i : Nat) => 0 + (i : Int)) := LotOk.range0 (by omega)
 have hRu : ((List.range n.toNat).map fun (i : Nat) => 0 + (i : Int)).Pairwise (· < ·) := by
  rw [zq106x]
  exact zq156x.imp fun h => by omega
 have hRl : ((List.range n.toNat).map fun (i : Nat) => 0 + (i : Int)).length = n.toNat := by simp
 walk_at "dt"
 refine Ev.callD mono__law_copy ?_
 walk_at "dt"
 refine ⟨rfl, p, n, cs, rfl, by omega, fun f2 => ?_⟩
 refine Gv.nameF ?_
 refine Sv.seq ?_
 refine Sv.asg ?_
 refine Ev.callD mono__law_peeled ?_
 walk_at "dt"
 refine EvN.ev (EvN.listRange ?_)
 walk_at "dt"
 refine ⟨rfl, cs, _, rfl, hRu, by omega, hplb, fun g hg => ?_⟩
 refine Gv.nameF ?_
 have hgl := hg.lot hRo
 have hgu := hg.up hRu
 have hgn := hgl.lenN
 have hsg := shaped_ints g
 refine Sv.seq ?_
 refine Sv.ifS ?_
 refine Tv.not ?_
 refine Tv.truB ?_
 refine Ev.callD (mono__law_alike 3) ?_
 refine Av.cons ?_
 refine Ev.callD mono_greatest ?_
 walk_at "dt"
 refine EvN.ev (EvN.listRange ?_)
 walk_at "dt"
 refine ⟨rfl, p, n, cs, _, rfl, hN, hRo, hplb, fun g' hg' => ?_⟩
 rw [<- grF_eq hg', grF_eq hg]
 walk_at "dt"
 refine ⟨rfl, rowD g, rfl, alike_row g (by omega), _, rfl, ?_⟩
 rw [if_neg (by decide)]
 refine Sv.next ?_
 refine Sv.seq ?_
 refine Sv.ifS ?_
 walk_at "dt"
 by_cases c : g = []
 ·subst c
  rw [if_pos (by rfl)]
  refine Sv.ret ?_
  refine Ev.andV ?_
  walk_at "dt"
  refine Ev.callD mono_is_bare ?_
  walk_at "dt"
  refine ⟨rfl, p, n, cs, [], rfl, hN, .nil, hplb, fun b hb => ?_⟩
  have hbf : b = false := by
   cases b with
   | false => rfl
   | true => exact absurd rfl (hb.mp rfl).1
  subst hbf
  walk_at "dt"
  refine ⟨shaped_net1 _ _ _, shaped_net1 _ _ _, ?_⟩
  rw [eqv_refl _ (.inl (shaped_net1 _ _ _))]
  exact q
 rw [if_neg (by obtain ⟨u, t, e⟩ := zq82x c; subst e; exact zq7x)]
 refine Sv.next ?_
 have hgo := hD.more hgl c hg.out
 obtain ⟨hbare, qb, eqb⟩ := bareF_bare c hg.out
 obtain ⟨bl, ebl⟩ : ∃ bl, bareF cs g g = bl := ⟨_, rfl⟩
 rw [ebl] at hbare eqb
 have hbl : LotOk n bl := by rw [eqb]; exact hgl.filter _
 have hbu : bl.Pairwise (· < ·) := by rw [eqb]; exact hgu.filter _
 have hbo := hD.more hbl hbare.1 hbare.2.1
 have hbn := hbl.lenN
 have hgm : (g.map PyData.int).length = g.length := zq0x ..
 have hbm : (bl.map PyData.int).length = bl.length := zq0x ..
 refine Sv.seq ?_
 refine Sv.asg ?_
 refine Ev.callD mono__law_by_rule ?_
 walk_at "dt"
 refine ⟨rfl, cs, g, rfl, hgu, by omega, hplb, ?_⟩
 rw [ebl]
 refine Gv.nameF ?_
 refine Sv.seq ?_
 refine Sv.ifS ?_
 refine Tv.or ?_
 walk_at "dt"
 refine Ev.callD (mono__law_alike 3) ?_
 refine Av.cons ?_
 refine Ev.callD mono_bared ?_
 walk_at "dt"
 refine ⟨rfl, p, n, cs, g, rfl, hN, hgl, hplb, ?_⟩
 rw [ebl]
 walk_at "dt"
 refine ⟨rfl, rowD bl, rfl, alike_row bl (by omega), _, rfl, ?_⟩
 rw [if_neg (by decide)]
 refine Sv.next ?_
 refine Sv.seq ?_
 refine Sv.ifS ?_
 refine Tv.or ?_
 walk_at "dt"
 refine Ev.callD mono_holds_out ?_
 walk_at "dt"
 refine ⟨rfl, p, n, cs, g, rfl, hN, hgl.nd, hgl.rg, ?_⟩
 rw [hg.out]
 walk_at "dt"
 refine Ev.callD mono_holds_out ?_
 walk_at "dt"
 refine ⟨rfl, p, n, cs, bl, rfl, hN, hbl.nd, hbl.rg, ?_⟩
 rw [hbare.2.1]
 walk_at "dt"
 refine Ev.callD mono_is_bare ?_
 walk_at "dt"
 refine ⟨rfl, p, n, cs, bl, rfl, hN, hbl, hplb, fun b hb => ?_⟩
 have hb1 : b = true := hb.mpr hbare
 subst hb1
 walk_at "dt"
 refine Ev.callD mono_is_bare ?_
 walk_at "dt"
 rw [cut_from (by decide) (by rw [hbm]; omega), <- List.map_drop]
 have hbd : LotOk n (bl.drop 1) := ⟨hbl.nd.sublist (List.drop_sublist ..), fun x hx => hbl.rg x (List.mem_of_mem_drop hx)⟩
 have hnb : ¬ Bare cs (bl.drop 1) := fun z => by
  obtain ⟨u, t, e⟩ := zq82x hbare.1
  have hnd := hbl.nd
  rw [e] at z hnd hbare
  have h9 := hbare.2.2 t z.1 (fun x hx => zq33x _ hx) ⟨u, zq27x .., (zq68x.mp hnd).1⟩
  have h8 : holdB cs t = true := z.2.1
  rw [h9] at h8
  cases h8
 refine ⟨rfl, p, n, cs, bl.drop 1, rfl, hN, hbd, hplb, fun b hb => ?_⟩
 have hb2 : b = false := by
  cases b with
  | false => rfl
  | true => exact absurd (hb.mp rfl) hnb
 subst hb2
 walk_at "dt"
 refine Ev.callD mono__law_says ?_
 refine Av.cons ?_
 refine Ev.callD mono_is_bare ?_
 walk_at "dt"
 refine ⟨rfl, p, n, cs, g, rfl, hN, hgl, hplb, fun b hb => ?_⟩
 walk_at "dt"
 refine ⟨shaped_ints bl, shaped_ints g, ?_⟩
 have hbb : (PyData.eqv (.list (bl.map .int)) (.list (g.map .int)) != false) = b := by
  rw [eqv_ints]
  cases b with
  | true => rw [show bl = g from ebl.symm.trans (bareF_again (hb.mp rfl)), decide_eq_true rfl]; rfl
  | false => rw [decide_eq_false fun z => by have := hb.mpr (z ▸ hbare); cases this]; rfl
 rw [hbb]
 walk_at "dt"
 refine ⟨rfl, b, rfl, true, rfl, ?_⟩
 rw [if_pos rfl]
 walk_at "dt"
 refine ⟨shaped_net1 _ _ _, shaped_net1 _ _ _, ?_⟩
 rw [eqv_refl _ (.inl (shaped_net1 _ _ _))]
 exact q
theorem scLaw : FnScope ["script", "bag", "d", "net", "k", "lot"] ["script"] (defScope sLaw) := ⟨rfl, rfl, rfl, by decide +kernel, rfl, by decide +kernel, by decide +kernel⟩
theorem ok_law (F : Fun K "law" "law" sLaw f fd)  (c__law_bag : Callee P w K mg base "_law_bag" 1 ["script"] (spBag K)) (c__law_lines_net : Callee P w K mg base "_law_lines_net" 3 ["bag"] (spB 1 F__law_lines_net)) (c__law_all_places : Callee P w K mg base "_law_all_places" 4 ["net", "d"] (spD 2 F__law_all_places)) (c_crossed : Callee P w K mg base "crossed" 1 ["net"] (spD 1 F_crossed)) (c__law_lot : Callee P w K mg base "_law_lot" 3 ["bag", "net", "d"] (spB 3 F__law_lot)) (c__law_copy : Callee P w K mg base "_law_copy" 1 ["net"] (spD 1 F__law_copy)) (c__law_told : Callee P w K mg base "_law_told" 4 ["bag", "net", "d"] (spB 3 F__law_told)) (c_holds_out : Callee P w K mg base "holds_out" 2 ["net", "lot"] (spD 2 F_holds_out)) (c__law_alike : Callee P w K mg base "_law_alike" 3 ["found", "due"] (spD 2 (F__law_alike 3))) (c_greatest : Callee P w K mg base "greatest" 2 ["net", "lot"] (spD 2 F_greatest)) (m_range : mg "range" = none) (m_list : mg "list" = none)  :
  FnOk P w K mg base CX0 5 f fd ["script"] (spLaw K) := by
 refine F.ok scLaw (fun vs H Q E h => ?_) (fun cdv A outer s H vs Q E hr h => ?_)
 ·obtain ⟨a, ns, rfl, hS, hl, q⟩ := h
  rfl
 obtain ⟨a, ns, rfl, hS, hl, q⟩ := h
 refine ⟨_, (@pss_cons _ _ _ _ _ (@ps_set _ _ (1) _ _ _ _ scLaw.nd rfl (Or.inl rfl) (@pe_callC _ _ _ _ _ _ _ _ _ _ c__law_bag (hr.mono (by decide)) (@pa_cons _ _ _ _ _ (pv 0) pa_nil rfl) (by rfl) (by decide) (by rfl) (by rfl)) (by rfl) (by first | exact .inl rfl | exact .inr rfl | assumption)) (@pss_cons _ _ _ _ _ (@ps_asg _ _ _ _ _ _ (@pe_callC _ _ _ _ _ _ _ _ _ _ c__law_lines_net (hr.mono (by decide)) (@pa_cons _ _ _ _ _ (pv 1) pa_nil rfl) (by rfl) (by decide) (by rfl) (by rfl)) (@pg_tupM _ (K) _ _ _ (2) _ rfl rfl (@pgs_cons _ _ _ _ _ (pg_name (i := 2) scLaw.nd rfl (Or.inl rfl)) (@pgs_cons _ _ _ _ _ (pg_name (i := 3) scLaw.nd rfl (Or.inl rfl)) pgs_nil (by rfl)) (by rfl)) (by rfl) (by rfl)) (by rfl) (by rfl) (by rfl)) (@pss_cons _ _ _ _ _ (@ps_if _ _ _ _ _ _ _ _ (@pt_cmpR _ _ _ _ _ _ _ _ op_notM (@pe_callC _ _ _ _ _ _ _ _ _ _ c_crossed (hr.mono (by decide)) (@pa_cons _ _ _ _ _ (@pe_callC _ _ _ _ _ _ _ _ _ _ c__law_copy (hr.mono (by decide)) (@pa_cons _ _ _ _ _ (pv 3) pa_nil rfl) (by rfl) (by decide) (by rfl) (by rfl)) pa_nil rfl) (by rfl) (by decide) (by rfl) (by rfl)) pe_non (nomark _)) (@pss_one _ _ _ (@ps_ret _ _ _ _ pe_bl)) pss_nil) (@pss_cons _ _ _ _ _ (@ps_for _ _ _ _ _ _ _ _ zq24x rfl (@pi_range1 _ _ _ _ _ _ rfl m_range (@pa_cons _ _ _ _ _ pe_int pa_nil rfl) (by rfl)) (pg_name (i := 4) scLaw.nd rfl (Or.inl rfl)) (@pss_cons _ _ _ _ _ (@ps_set _ _ (5) _ _ _ _ scLaw.nd rfl (Or.inl rfl) (@pe_callC _ _ _ _ _ _ _ _ _ _ c__law_lot (hr.mono (by decide)) (@pa_cons _ _ _ _ _ (pv 1) (@pa_cons _ _ _ _ _ (pv 3) (@pa_cons _ _ _ _ _ (pv 2) pa_nil rfl) rfl) rfl) (by rfl) (by decide) (by rfl) (by rfl)) (by rfl) (by first | exact .inl rfl | exact .inr rfl | assumption)) (@pss_one _ _ _ (@ps_if _ _ _ _ _ _ _ _ (PW.pt (pw_or (@pt_cmpR _ _ _ _ _ _ _ _ op_isNotB (@pe_callC _ _ _ _ _ _ _ _ _ _ c_holds_out (hr.mono (by decide)) (@pa_cons _ _ _ _ _ (@pe_callC _ _ _ _ _ _ _ _ _ _ c__law_copy (hr.mono (by decide)) (@pa_cons _ _ _ _ _ (pv 3) pa_nil rfl) (by rfl) (by decide) (by rfl) (by rfl)) (@pa_cons _ _ _ _ _ (@pe_callTy _ _ _ _ _ _ _ _ (rListOf K) call_listM rfl m_list zq30x (@pa_cons _ _ _ _ _ (pv 5) pa_nil rfl) (by decide) (by decide) (by rfl) (by rfl)) pa_nil rfl) rfl) (by rfl) (by decide) (by rfl) (by rfl)) pe_bl (nomark _)) (pw_or1 (@pt_not _ _ _ _ (@pt_truthK _ (K) _ _ rfl (@pe_callC _ _ _ _ _ _ _ _ _ _ c__law_alike (hr.mono (by decide)) (@pa_cons _ _ _ _ _ (@pe_callC _ _ _ _ _ _ _ _ _ _ c_greatest (hr.mono (by decide)) (@pa_cons _ _ _ _ _ (@pe_callC _ _ _ _ _ _ _ _ _ _ c__law_copy (hr.mono (by decide)) (@pa_cons _ _ _ _ _ (pv 3) pa_nil rfl) (by rfl) (by decide) (by rfl) (by rfl)) (@pa_cons _ _ _ _ _ (pv 5) pa_nil rfl) rfl) (by rfl) (by decide) (by rfl) (by rfl)) (@pa_cons _ _ _ _ _ (@pe_lst _ _ _ _ pa_nil) pa_nil rfl) rfl) (by rfl) (by decide) (by rfl) (by rfl)) (fun _ => rfl)))))) (@pss_one _ _ _ (@ps_ret _ _ _ _ pe_bl)) pss_nil))) (by intro _; rfl)) (@pss_cons _ _ _ _ _ (@ps_if _ _ _ _ _ _ _ _ (PW.pt (pw_and (@pt_cmpR _ _ _ _ _ _ _ _ op_le (@pe_ix _ _ _ _ _ _ (rIxT K) ix_tup (pv 3) pe_int (fun _ _ => rfl)) pe_int (nomark _)) (pw_and1 (@pt_not _ _ _ _ (@pt_truthK _ (K) _ _ rfl (@pe_callC _ _ _ _ _ _ _ _ _ _ c__law_told (hr.mono (by decide)) (@pa_cons _ _ _ _ _ (pv 1) (@pa_cons _ _ _ _ _ (pv 3) (@pa_cons _ _ _ _ _ (pv 2) pa_nil rfl) rfl) rfl) (by rfl) (by decide) (by rfl) (by rfl)) (fun _ => rfl)))))) (@pss_one _ _ _ (@ps_ret _ _ _ _ pe_bl)) pss_nil) (@pss_one _ _ _ (@ps_ret _ _ _ _ (@pe_callC _ _ _ _ _ _ _ _ _ _ c__law_all_places (hr.mono (by decide)) (@pa_cons _ _ _ _ _ (pv 3) (@pa_cons _ _ _ _ _ (pv 2) pa_nil rfl) rfl) (by rfl) (by decide) (by rfl) (by rfl))))))))), ?_⟩
 walk_at "st"
 refine ⟨a, ns, rfl, hS, hl, fun b l H1 s1 f1 B1 => ?_⟩
 have hS1 := s1.seq hS
 have key : ∀ (t : TS) (D : Ends), (∀ H, D.rt (.bl true) H) -> Sv (lawG b l H1) [.raw (.ref a), .bag, .no, .no, .no, .no] t { nx := fun _ => False, rt := fun _ d => d = .bool true } -> t D [some (.ref a), some (.ref b), none, none, none, none] H1 := fun t D d2 h => h _ _ _ D (law_wdS (m := 4) B1) (law_endsR d2)
 refine R.gname ?_
 dsimp only
 refine key _ _ (fun H => ?_) ?_
 ·exact q _
 walk_at "dt"
 refine Ev.callB mono__law_lines_net rfl ?_
 walk_at "dt"
 refine ⟨rfl, fun f p n d cs n0 n1 d1 d8 hcl hD => ?_⟩
 have hpl : ∀ prs ∈ cs, prs.length <= 49 := fun prs hp => by
  have := (hD.ck prs hp).lenN
  rw [zq0x] at this
  omega
 have hN : LotNet n cs := hD.ck.lot n0 (by omega) (by omega) (by
  have := tot_mul hpl
  have h2 : cs.length * 49 <= 56 * 49 := zq181x _ hcl
  omega)
 have hplb : ∀ prs ∈ cs, prs.length <= 10000 := fun u hu => by have := hpl u hu; omega
 have hne := hD.ne n0 (by omega)
 walk_at "dt"
 refine Ev.callD mono_crossed ?_
 refine Av.cons ?_
 refine Ev.callD mono__law_copy ?_
 walk_at "dt"
 refine ⟨rfl, p, n, cs, rfl, by omega, fun f2 => ?_⟩
 walk_at "dt"
 refine ⟨rfl, p, n, cs, rfl, by omega, fun prs hp => ⟨(hD.ck prs hp).nd, by have := hpl prs hp; omega⟩, fun o f3 ho => ?_⟩
 have ho' := (cr_none ho).mpr hD.apart
 subst ho'
 walk_at "dt"
 refine Sv.forR1 ?_
 walk_at "dt"
 refine ⟨fun i ρ => ∃ (x4 x5 : Sl), ρ = [.raw (.ref a), .bag, .d true (.int d), .d false (netD p n cs), x4, x5], ⟨_, _, rfl⟩, ?_, ?_⟩
 ·rintro i e ρ ⟨hi, rfl⟩ ⟨x4, x5, rfl⟩
  walk_at "dt"
  refine Ev.callB mono__law_lot rfl ?_
  walk_at "dt"
  refine ⟨rfl, p, n, d, cs, rfl, n0, n1, d1, d8, hD.ck, hne, hcl, fun rs hrn hro hrl => ?_⟩
  refine Gv.nameF ?_
  have hrs : rs.length <= d.toNat := by omega
  have hrm : (rs.map PyData.int).length = rs.length := zq0x ..
  refine Sv.ifS ?_
  refine Tv.or ?_
  walk_at "dt"
  refine Ev.callD mono_holds_out ?_
  refine Av.cons ?_
  refine Ev.callD mono__law_copy ?_
  walk_at "dt"
  refine ⟨rfl, p, n, cs, rfl, by omega, fun f2 => ?_⟩
  walk_at "dt"
  refine ⟨rfl, p, n, cs, rs, rfl, hN, hro.nd, hro.rg, ?_⟩
  rw [hD.out hro hrn hrs]
  walk_at "dt"
  refine Ev.callD (mono__law_alike 3) ?_
  refine Av.cons ?_
  refine Ev.callD mono_greatest ?_
  refine Av.cons ?_
  refine Ev.callD mono__law_copy ?_
  walk_at "dt"
  refine ⟨rfl, p, n, cs, rfl, by omega, fun f2 => ?_⟩
  walk_at "dt"
  refine ⟨rfl, p, n, cs, rs, rfl, hN, hro, hplb, fun g hg => ?_⟩
  rw [hD.great hro hrs hg]
  walk_at "dt"
  refine ⟨rfl, rowD [], rfl, alike_row [] (by decide), _, rfl, ?_⟩
  rw [if_neg (by decide)]
  refine Sv.next ?_
  exact ⟨_, _, rfl⟩
 rintro ρ ⟨x4, x5, rfl⟩
 refine Sv.seq ?_
 refine Sv.conseq (fun ρ' => ρ' = [.raw (.ref a), .bag, .d true (.int d), .d false (netD p n cs), x4, x5]) ?_ ?_
 ·refine Sv.ifS ?_
  by_cases c : n <= 20
  ·walk_at "dt"
   refine Ev.callB mono__law_told rfl ?_
   walk_at "dt"
   refine ⟨rfl, p, n, d, cs, rfl, hN, c, d1, d8, hD, _, rfl, ?_⟩
   rw [if_neg (by decide)]
   walk_at "dt"
   rfl
  ·walk_at "dt"
   rfl
 rintro ρ rfl
 refine Sv.ret ?_
 refine Ev.callD mono__law_all_places ?_
 walk_at "dt"
 exact ⟨rfl, p, n, d, cs, rfl, n0, n1, hN, d1, d8, hD, rfl⟩
end
local macro_rules | `(tactic| walk_at "bn") => `(tactic| (intro _ _ _ _ _ _ us hl; first | (obtain ⟨_, h⟩ := ln1 hl; subst h; rfl) | (obtain ⟨_, _, h⟩ := ln2 hl; subst h; rfl) | (obtain ⟨_, _, _, h⟩ := ln3 hl; subst h; rfl) | (obtain ⟨_, _, _, _, h⟩ := ln4 hl; subst h; rfl) | (obtain ⟨_, _, _, _, _, h⟩ := ln5 hl; subst h; rfl) | (obtain ⟨_, _, _, _, _, _, h⟩ := ln6 hl; subst h; rfl) | (obtain ⟨_, _, _, _, _, _, _, h⟩ := ln7 hl; subst h; rfl)))
theorem all_mk {l : PySem.W.OpenLaw} {w : World} {K : PySem.W.Frag} {h : Heap} {mg : Str -> Option Value} {fa : Addr} {f0 f1 f2 f3 f4 f5 f6 f7 f8 f9 f10 f11 f12 f13 f14 f15 f16 f17 f18 f19 f20 f21 f22 f23 f24 f25 f26 f27 f28 : Addr} (X : K.In h) (G : h.Ns mainGlobals mg) (hfa : mg "law" = some (.ref fa))
  {od28 an28 : Option Addr} {sl28 : Array (Option Value)} {oc28 kV28 dc28 pm28 cd28 ct28 : Value}
  (d0 : DfAt K "seats" "seats" sSeats f0)
  (d1 : DfAt K "crossed" "crossed" sCrossed f1)
  (d2 : DfAt K "holds_out" "holds_out" sHoldsOut f2)
  (d3 : DfAt K "stands" "stands" sStands f3)
  (d4 : DfAt K "greatest" "greatest" sGreatest f4)
  (d5 : DfAt K "inside_of" "inside_of" sInsideOf f5)
  (d6 : DfAt K "is_bare" "is_bare" sIsBare f6)
  (d7 : DfAt K "without" "without" sWithout f7)
  (d8 : DfAt K "bared" "bared" sBared f8)
  (d9 : DfAt K "lots_of" "lots_of" sLotsOf f9)
  (d10 : DfAt K "rows_of" "rows_of" sRowsOf f10)
  (d11 : DfAt K "least" "least" sLeast f11)
  (d12 : DfAt K "_law_bag" "_law_bag" sLawBag f12)
  (d13 : DfAt K "_law_draw" "_law_draw" sLawDraw f13)
  (d14 : DfAt K "_law_prime_from" "_law_prime_from" sLawPrimeFrom f14)
  (d15 : DfAt K "_law_prime" "_law_prime" sLawPrime f15)
  (d16 : DfAt K "_law_factor" "_law_factor" sLawFactor f16)
  (d17 : DfAt K "_law_turned" "_law_turned" sLawTurned f17)
  (d18 : DfAt K "_law_copy" "_law_copy" sLawCopy f18)
  (d19 : DfAt K "_law_alike" "_law_alike" sLawAlike f19)
  (d20 : DfAt K "_law_direction" "_law_direction" sLawDirection f20)
  (d21 : DfAt K "_law_lines_net" "_law_lines_net" sLawLinesNet f21)
  (d22 : DfAt K "_law_lot" "_law_lot" sLawLot f22)
  (d23 : DfAt K "_law_told" "_law_told" sLawTold f23)
  (d24 : DfAt K "_law_peeled" "_law_peeled" sLawPeeled f24)
  (d25 : DfAt K "_law_by_rule" "_law_by_rule" sLawByRule f25)
  (d26 : DfAt K "_law_says" "_law_says" sLawSays f26)
  (d27 : DfAt K "_law_all_places" "_law_all_places" sLawAllPlaces f27)
  (a28 : PySem.W.nsIn K mainGlobals "law" = some (some (.ref f28))) (l28 : K.lookup f28 = some ⟨oc28, od28, .func (PySem.W.fnOf "law" "law" (defArgs sLaw) (defBody sLaw) (defScope sLaw) .none kV28 dc28 pm28 an28 cd28 ct28), sl28⟩) (c28 : PySem.W.codeIn K cd28 "law" = true) (k28 : PySem.W.keepIn K (.ref f28) = true)
  (z_abs : PySem.W.nsIn K mainGlobals "abs" = some none)
  (z_all : PySem.W.nsIn K mainGlobals "all" = some none)
  (z_bool : PySem.W.nsIn K mainGlobals "bool" = some none)
  (z_dict : PySem.W.nsIn K mainGlobals "dict" = some none)
  (z_enumerate : PySem.W.nsIn K mainGlobals "enumerate" = some none)
  (z_int : PySem.W.nsIn K mainGlobals "int" = some none)
  (z_isinstance : PySem.W.nsIn K mainGlobals "isinstance" = some none)
  (z_len : PySem.W.nsIn K mainGlobals "len" = some none)
  (z_list : PySem.W.nsIn K mainGlobals "list" = some none)
  (z_min : PySem.W.nsIn K mainGlobals "min" = some none)
  (z_range : PySem.W.nsIn K mainGlobals "range" = some none)
  (z_sorted : PySem.W.nsIn K mainGlobals "sorted" = some none)
  (z_str : PySem.W.nsIn K mainGlobals "str" = some none)
  (z_tuple : PySem.W.nsIn K mainGlobals "tuple" = some none)
  : ∃ fd : FuncData, (∀ (s : Shared) (v : Value), BindsTo s fd ⟨[v], []⟩ [("script", v)]) /\ ∀ base : Heap, K.In base -> base.Ns mainGlobals mg -> FnOk l.prog w K mg base CX0 5 fa fd ["script"] (spLaw K) := by
 have e := hfa.symm.trans (zq15x X G a28)
 cases e
 obtain ⟨a0, _, F0⟩ := d0
 have b0 := F0.binds (ps := ["net"]) (by walk_at "bn")
 obtain ⟨a1, _, F1⟩ := d1
 have b1 := F1.binds (ps := ["net"]) (by walk_at "bn")
 obtain ⟨a2, _, F2⟩ := d2
 have b2 := F2.binds (ps := ["net", "lot"]) (by walk_at "bn")
 obtain ⟨a3, _, F3⟩ := d3
 have b3 := F3.binds (ps := ["seated", "lot"]) (by walk_at "bn")
 obtain ⟨a4, _, F4⟩ := d4
 have b4 := F4.binds (ps := ["net", "lot"]) (by walk_at "bn")
 obtain ⟨a5, _, F5⟩ := d5
 have b5 := F5.binds (ps := ["pairs", "inside"]) (by walk_at "bn")
 obtain ⟨a6, _, F6⟩ := d6
 have b6 := F6.binds (ps := ["net", "lot"]) (by walk_at "bn")
 obtain ⟨a7, _, F7⟩ := d7
 have b7 := F7.binds (ps := ["lot", "place"]) (by walk_at "bn")
 obtain ⟨a8, _, F8⟩ := d8
 have b8 := F8.binds (ps := ["net", "lot"]) (by walk_at "bn")
 obtain ⟨a9, _, F9⟩ := d9
 have b9 := F9.binds (ps := ["net", "size"]) (by walk_at "bn")
 obtain ⟨a10, _, F10⟩ := d10
 have b10 := F10.binds (ps := ["n", "size"]) (by walk_at "bn")
 obtain ⟨a11, _, F11⟩ := d11
 have b11 := F11.binds (ps := ["net", "most"]) (by walk_at "bn")
 obtain ⟨a12, _, F12⟩ := d12
 have b12 := F12.binds (ps := ["script"]) (by walk_at "bn")
 obtain ⟨a13, _, F13⟩ := d13
 have b13 := F13.binds (ps := ["bag", "many"]) (by walk_at "bn")
 obtain ⟨a14, _, F14⟩ := d14
 have b14 := F14.binds (ps := ["number"]) (by walk_at "bn")
 obtain ⟨a15, _, F15⟩ := d15
 have b15 := F15.binds (ps := ["bag"]) (by walk_at "bn")
 obtain ⟨a16, _, F16⟩ := d16
 have b16 := F16.binds (ps := ["bag", "p"]) (by walk_at "bn")
 obtain ⟨a17, _, F17⟩ := d17
 have b17 := F17.binds (ps := ["bag", "row"]) (by walk_at "bn")
 obtain ⟨a18, _, F18⟩ := d18
 have b18 := F18.binds (ps := ["net"]) (by walk_at "bn")
 obtain ⟨a19, _, F19⟩ := d19
 have b19 := F19.binds (ps := ["found", "due"]) (by walk_at "bn")
 obtain ⟨a20, _, F20⟩ := d20
 have b20 := F20.binds (ps := ["q", "s"]) (by walk_at "bn")
 obtain ⟨a21, _, F21⟩ := d21
 have b21 := F21.binds (ps := ["bag"]) (by walk_at "bn")
 obtain ⟨a22, _, F22⟩ := d22
 have b22 := F22.binds (ps := ["bag", "net", "d"]) (by walk_at "bn")
 obtain ⟨a23, _, F23⟩ := d23
 have b23 := F23.binds (ps := ["bag", "net", "d"]) (by walk_at "bn")
 obtain ⟨a24, _, F24⟩ := d24
 have b24 := F24.binds (ps := ["checks", "lot"]) (by walk_at "bn")
 obtain ⟨a25, _, F25⟩ := d25
 have b25 := F25.binds (ps := ["checks", "lot"]) (by walk_at "bn")
 obtain ⟨a26, _, F26⟩ := d26
 have b26 := F26.binds (ps := ["found", "due"]) (by walk_at "bn")
 obtain ⟨a27, _, F27⟩ := d27
 have b27 := F27.binds (ps := ["net", "d"]) (by walk_at "bn")
 have F28 := fun_mk (st := sLaw) l28 c28 k28
 have m_abs := zq52x X G z_abs
 have m_all := zq52x X G z_all
 have m_bool := zq52x X G z_bool
 have m_dict := zq52x X G z_dict
 have m_enumerate := zq52x X G z_enumerate
 have m_int := zq52x X G z_int
 have m_isinstance := zq52x X G z_isinstance
 have m_len := zq52x X G z_len
 have m_list := zq52x X G z_list
 have m_min := zq52x X G z_min
 have m_range := zq52x X G z_range
 have m_sorted := zq52x X G z_sorted
 have m_str := zq52x X G z_str
 have m_tuple := zq52x X G z_tuple
 refine ⟨PySem.W.fnOf "law" "law" (defArgs sLaw) (defBody sLaw) (defScope sLaw) .none kV28 dc28 pm28 an28 cd28 ct28, fun s v => .of_eq rfl, fun base _ _ => ?_⟩
 have C_seats := Callee.mk' F0 (ok_seats (P := l.prog) (w := w) (base := base) F0 m_enumerate m_range) b0 (zq15x X G a0)
 have C_crossed := Callee.mk' F1 (ok_crossed (P := l.prog) (w := w) (base := base) F1 m_range m_len m_dict) b1 (zq15x X G a1)
 have C_stands := Callee.mk' F3 (ok_stands (P := l.prog) (w := w) (base := base) F3 m_list) b3 (zq15x X G a3)
 have C_holds_out := Callee.mk' F2 (ok_holds_out (P := l.prog) (w := w) (base := base) F2 C_stands C_seats) b2 (zq15x X G a2)
 have C_inside_of := Callee.mk' F5 (ok_inside_of (P := l.prog) (w := w) (base := base) F5) b5 (zq15x X G a5)
 have C_greatest := Callee.mk' F4 (ok_greatest (P := l.prog) (w := w) (base := base) F4 C_seats C_inside_of m_dict m_len m_enumerate) b4 (zq15x X G a4)
 have C_without := Callee.mk' F7 (ok_without (P := l.prog) (w := w) (base := base) F7) b7 (zq15x X G a7)
 have C_is_bare := Callee.mk' F6 (ok_is_bare (P := l.prog) (w := w) (base := base) F6 C_holds_out C_greatest C_without) b6 (zq15x X G a6)
 have C_bared := Callee.mk' F8 (ok_bared (P := l.prog) (w := w) (base := base) F8 C_greatest C_without m_list) b8 (zq15x X G a8)
 have C_rows_of := Callee.mk' F10 (ok_rows_of (P := l.prog) (w := w) (base := base) F10 m_range) b10 (zq15x X G a10)
 have C_lots_of := Callee.mk' F9 (ok_lots_of (P := l.prog) (w := w) (base := base) F9 C_seats C_rows_of C_stands) b9 (zq15x X G a9)
 have C_least := Callee.mk' F11 (ok_least (P := l.prog) (w := w) (base := base) F11 C_seats C_rows_of C_stands m_range) b11 (zq15x X G a11)
 have C__law_bag := Callee.mk' F12 (ok__law_bag (P := l.prog) (w := w) (base := base) F12 m_abs) b12 (zq15x X G a12)
 have C__law_draw := Callee.mk' F13 (ok__law_draw (P := l.prog) (w := w) (base := base) F13 m_len) b13 (zq15x X G a13)
 have C__law_prime_from := Callee.mk' F14 (ok__law_prime_from (P := l.prog) (w := w) (base := base) F14 m_range) b14 (zq15x X G a14)
 have C__law_prime := Callee.mk' F15 (ok__law_prime (P := l.prog) (w := w) (base := base) F15 C__law_draw C__law_prime_from) b15 (zq15x X G a15)
 have C__law_factor := Callee.mk' F16 (ok__law_factor (P := l.prog) (w := w) (base := base) F16 C__law_draw) b16 (zq15x X G a16)
 have C__law_turned := Callee.mk' F17 (ok__law_turned (P := l.prog) (w := w) (base := base) F17 C__law_draw m_list m_range m_len) b17 (zq15x X G a17)
 have C__law_copy := Callee.mk' F18 (ok__law_copy (P := l.prog) (w := w) (base := base) F18 m_list) b18 (zq15x X G a18)
 have C__law_alike_0 := Callee.void (P := l.prog) (w := w) (base := base) (k := 0) (sp := spD 2 (F__law_alike 0)) F19 b19 (zq15x X G a19) void__law_alike
 have C__law_alike_1 := Callee.mk' F19 (ok__law_alike (P := l.prog) (w := w) (base := base) 0 F19 C__law_alike_0 m_isinstance m_list m_tuple m_all m_len m_bool m_int m_str m_range) b19 (zq15x X G a19)
 have C__law_alike_2 := Callee.mk' F19 (ok__law_alike (P := l.prog) (w := w) (base := base) 1 F19 C__law_alike_1 m_isinstance m_list m_tuple m_all m_len m_bool m_int m_str m_range) b19 (zq15x X G a19)
 have C__law_alike_3 := Callee.mk' F19 (ok__law_alike (P := l.prog) (w := w) (base := base) 2 F19 C__law_alike_2 m_isinstance m_list m_tuple m_all m_len m_bool m_int m_str m_range) b19 (zq15x X G a19)
 have C__law_alike := C__law_alike_3
 have C__law_direction := Callee.mk' F20 (ok__law_direction (P := l.prog) (w := w) (base := base) F20 m_range) b20 (zq15x X G a20)
 have C__law_lines_net := Callee.mk' F21 (ok__law_lines_net (P := l.prog) (w := w) (base := base) F21 C__law_draw C__law_prime C__law_turned C__law_direction C__law_factor m_range m_list m_len m_sorted m_min) b21 (zq15x X G a21)
 have C__law_lot := Callee.mk' F22 (ok__law_lot (P := l.prog) (w := w) (base := base) F22 C__law_draw C__law_turned m_min m_sorted m_list m_range m_len) b22 (zq15x X G a22)
 have C__law_told := Callee.mk' F23 (ok__law_told (P := l.prog) (w := w) (base := base) F23 C__law_turned C_least C__law_alike C__law_copy C_lots_of m_min m_list m_range) b23 (zq15x X G a23)
 have C__law_peeled := Callee.mk' F24 (ok__law_peeled (P := l.prog) (w := w) (base := base) F24 m_range m_sorted m_len) b24 (zq15x X G a24)
 have C__law_by_rule := Callee.mk' F25 (ok__law_by_rule (P := l.prog) (w := w) (base := base) F25 C__law_peeled m_list) b25 (zq15x X G a25)
 have C__law_says := Callee.mk' F26 (ok__law_says (P := l.prog) (w := w) (base := base) F26) b26 (zq15x X G a26)
 have C__law_all_places := Callee.mk' F27 (ok__law_all_places (P := l.prog) (w := w) (base := base) F27 C__law_copy C__law_peeled C__law_by_rule C__law_alike C__law_says C_greatest C_holds_out C_is_bare C_bared m_list m_range m_len) b27 (zq15x X G a27)
 exact ok_law F28 C__law_bag C__law_lines_net C__law_all_places C_crossed C__law_lot C__law_copy C__law_told C_holds_out C__law_alike C_greatest m_range m_list
theorem walk {l : PySem.W.OpenLaw} {q : Program} {loose : List Str} {XP : (Str -> Option Value) -> Heap -> Prop} {YP : World -> Heap -> Prop} {d : DefRec} {K : Params -> PySem.W.Frag} (hn : l.most = some 63) (hdf : d.params.defaults = [])
  (hY : ∀ (w : World) (h : Heap), YP w h -> (K w.params).In h)
  (F : ∀ (w : World) (mg : Str -> Option Value) (fa : Addr) (h : Heap), (K w.params).In h -> h.Ns mainGlobals mg -> mg d.name = some (.ref fa) ->
   ∃ fd : FuncData, (∀ (s : Shared) (u : Value), BindsTo s fd ⟨[u], []⟩ [("script", u)]) /\ ∀ base : Heap, (K w.params).In base -> base.Ns mainGlobals mg -> FnOk l.prog w (K w.params) mg base CX0 5 fa fd ["script"] (spLaw (K w.params))) :
  PySem.W.WalkO q loose XP YP l.row.toRowW d [] (fun f vs => PySem.call f vs) :=
 L2.walk_of (n := 63) (k := 5) (x := "script") (CX := fun _ => CX0) (sp := fun w => spLaw (K w.params)) hn (by decide) hdf ⟨rfl, by decide, by decide⟩ hY F (fun _ _ a ns hl _ hS => ⟨a, ns, rfl, hS, hl, fun _ => rfl⟩) fun _ _ _ _ _ z => z
def view : Program := { PySem.Challenge.pw_fewchecks_k38_whole_few_never_hold_out with main := { PySem.Challenge.pw_fewchecks_k38_whole_few_never_hold_out.main with body := [top 1, top 2, top 4, top 5, top 6, top 7, top 8, top 9, top 10, top 11, top 12, top 13, top 15, top 16, top 17, top 18, top 19, top 20, top 21, top 22, top 23, top 24, top 25, top 26, top 27, top 28, top 29, top 30, top 31] } }
end K38
open PySem PySem.W PyProof.Rows
local macro_rules | `(tactic| o_head $H:term) => `(tactic|
 (refine holds_open (q := K38.view) (loose := [])
    (Xt := fun s => xlAt K38.view [] s && recOk [] s) (XP := XL K38.view []) (Yf := Hook.obs $H)
    (Ya := Hook.val $H) (YP := Hook.says $H) (N := 100000) ?hl (Hook.of $H)
    (Hook.keeps $H) (fun s e => xl_of s (zq205x.mp e).1) XL.keeps
    rfl rfl rfl (fun s e => recFacts_of (zq205x.mp e).2) rfl
    (by assumption) (by decide +kernel) ⟨rfl, rfl, rfl, rfl, rfl, by decide +kernel⟩ ?hw ?hc; (case hl => exact fun w => by kernel_rfl)))
set_option maxRecDepth 100000 in
set_option maxHeartbeats 0 in
theorem PySem.Challenge.cw_fewchecks_k38_whole_few_never_hold_out_holds : PySem.Challenge.rw_fewchecks_k38_whole_few_never_hold_out.Holds := by
 w_on
 refine holds_law (by decide +kernel) fun said => ?_
 k_head
 (case hw => w_witness2)
 k_fill
 refine K38.walk (l := PySem.Challenge.rw_fewchecks_k38_whole_few_never_hold_out) rfl rfl (fun w h Y => PySem.W.kIn_of Y) ?F
 case F =>
  intro w mg fa h KX G hmg
  refine' K38.all_mk KX G hmg ?d0 ?d1 ?d2 ?d3 ?d4 ?d5 ?d6 ?d7 ?d8 ?d9 ?d10 ?d11 ?d12 ?d13 ?d14 ?d15 ?d16 ?d17 ?d18 ?d19 ?d20 ?d21 ?d22 ?d23 ?d24 ?d25 ?d26 ?d27 ?a28 ?l28 ?c28 ?k28 ?z_abs ?z_all ?z_bool ?z_dict ?z_enumerate ?z_int ?z_isinstance ?z_len ?z_list ?z_min ?z_range ?z_sorted ?z_str ?z_tuple
  (case d0 => refine' L2.DfAt.mk ?a ?l ?c ?k; (case a => k_is); (case l => k_is); (case c => k_is); (case k => k_is))
  (case d1 => refine' L2.DfAt.mk ?a ?l ?c ?k; (case a => k_is); (case l => k_is); (case c => k_is); (case k => k_is))
  (case d2 => refine' L2.DfAt.mk ?a ?l ?c ?k; (case a => k_is); (case l => k_is); (case c => k_is); (case k => k_is))
  (case d3 => refine' L2.DfAt.mk ?a ?l ?c ?k; (case a => k_is); (case l => k_is); (case c => k_is); (case k => k_is))
  (case d4 => refine' L2.DfAt.mk ?a ?l ?c ?k; (case a => k_is); (case l => k_is); (case c => k_is); (case k => k_is))
  (case d5 => refine' L2.DfAt.mk ?a ?l ?c ?k; (case a => k_is); (case l => k_is); (case c => k_is); (case k => k_is))
  (case d6 => refine' L2.DfAt.mk ?a ?l ?c ?k; (case a => k_is); (case l => k_is); (case c => k_is); (case k => k_is))
  (case d7 => refine' L2.DfAt.mk ?a ?l ?c ?k; (case a => k_is); (case l => k_is); (case c => k_is); (case k => k_is))
  (case d8 => refine' L2.DfAt.mk ?a ?l ?c ?k; (case a => k_is); (case l => k_is); (case c => k_is); (case k => k_is))
  (case d9 => refine' L2.DfAt.mk ?a ?l ?c ?k; (case a => k_is); (case l => k_is); (case c => k_is); (case k => k_is))
  (case d10 => refine' L2.DfAt.mk ?a ?l ?c ?k; (case a => k_is); (case l => k_is); (case c => k_is); (case k => k_is))
  (case d11 => refine' L2.DfAt.mk ?a ?l ?c ?k; (case a => k_is); (case l => k_is); (case c => k_is); (case k => k_is))
  (case d12 => refine' L2.DfAt.mk ?a ?l ?c ?k; (case a => k_is); (case l => k_is); (case c => k_is); (case k => k_is))
  (case d13 => refine' L2.DfAt.mk ?a ?l ?c ?k; (case a => k_is); (case l => k_is); (case c => k_is); (case k => k_is))
  (case d14 => refine' L2.DfAt.mk ?a ?l ?c ?k; (case a => k_is); (case l => k_is); (case c => k_is); (case k => k_is))
  (case d15 => refine' L2.DfAt.mk ?a ?l ?c ?k; (case a => k_is); (case l => k_is); (case c => k_is); (case k => k_is))
  (case d16 => refine' L2.DfAt.mk ?a ?l ?c ?k; (case a => k_is); (case l => k_is); (case c => k_is); (case k => k_is))
  (case d17 => refine' L2.DfAt.mk ?a ?l ?c ?k; (case a => k_is); (case l => k_is); (case c => k_is); (case k => k_is))
  (case d18 => refine' L2.DfAt.mk ?a ?l ?c ?k; (case a => k_is); (case l => k_is); (case c => k_is); (case k => k_is))
  (case d19 => refine' L2.DfAt.mk ?a ?l ?c ?k; (case a => k_is); (case l => k_is); (case c => k_is); (case k => k_is))
  (case d20 => refine' L2.DfAt.mk ?a ?l ?c ?k; (case a => k_is); (case l => k_is); (case c => k_is); (case k => k_is))
  (case d21 => refine' L2.DfAt.mk ?a ?l ?c ?k; (case a => k_is); (case l => k_is); (case c => k_is); (case k => k_is))
  (case d22 => refine' L2.DfAt.mk ?a ?l ?c ?k; (case a => k_is); (case l => k_is); (case c => k_is); (case k => k_is))
  (case d23 => refine' L2.DfAt.mk ?a ?l ?c ?k; (case a => k_is); (case l => k_is); (case c => k_is); (case k => k_is))
  (case d24 => refine' L2.DfAt.mk ?a ?l ?c ?k; (case a => k_is); (case l => k_is); (case c => k_is); (case k => k_is))
  (case d25 => refine' L2.DfAt.mk ?a ?l ?c ?k; (case a => k_is); (case l => k_is); (case c => k_is); (case k => k_is))
  (case d26 => refine' L2.DfAt.mk ?a ?l ?c ?k; (case a => k_is); (case l => k_is); (case c => k_is); (case k => k_is))
  (case d27 => refine' L2.DfAt.mk ?a ?l ?c ?k; (case a => k_is); (case l => k_is); (case c => k_is); (case k => k_is))
  (case a28 => k_is)
  (case l28 => k_is)
  (case c28 => k_is)
  (case k28 => k_is)
  (case z_abs => k_is)
  (case z_all => k_is)
  (case z_bool => k_is)
  (case z_dict => k_is)
  (case z_enumerate => k_is)
  (case z_int => k_is)
  (case z_isinstance => k_is)
  (case z_len => k_is)
  (case z_list => k_is)
  (case z_min => k_is)
  (case z_range => k_is)
  (case z_sorted => k_is)
  (case z_str => k_is)
  (case z_tuple => k_is)
