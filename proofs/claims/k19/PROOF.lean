import PyProof.Rows.All
import Wide.All
import OpenK.AllK
import Wide.FinOn
import Lean
import PyProof.EqAt
import PyProof.EqKinds
import PyProof.TupleCall
import PySem.Challenge.RW_fewchecks_k19_whole_other_names
set_option compiler.extract_closed false
set_option Elab.async false
set_option linter.all false
set_option maxRecDepth 100000
def zq0x := @List.length_map
def zq1x := @List.getElem?_eq_getElem
def zq2x := @List.getElem?_map
def zq3x := @Nat.le_refl
def zq4x := @List.mem_of_getElem?
def zq5x := @List.getElem?_eq_some_iff
def zq6x := @PySem.Heap.lt_size
def zq7x := @PySem.Heap.get?_push_of_some
def zq8x := @List.map_cons
def zq9x := @List.mem_map
def zq10x := @Ne.symm
def zq11x := @List.getD_eq_getElem?_getD
def zq12x := @Nat.ne_of_lt
def zq13x := @List.getElem?_eq_none
def zq14x := @Bool.false_ne_true
def zq15x := @PySem.W.mg_of
def zq16x := @List.mem_singleton
def zq17x := @List.mem_cons
def zq18x := @List.size_toArray
def zq19x := @List.getElem?_set_ne
def zq20x := @List.length_append
def zq21x := @List.map_append
def zq22x := @List.mem_cons_self
def zq23x := @Nat.lt_of_lt_of_le
def zq24x := @Nat.le_trans
def zq25x := @List.mem_cons_of_mem
def zq26x := @Bool.and_eq_true
def zq27x := @PySem.Heap.get?_push_size
def zq28x := @List.getElem_mem
def zq29x := @List.mem_append
def zq30x := @List.getElem?_set_self
def zq31x := @List.lookup_cons
def zq32x := @PySem.boot_len
def zq33x := @List.getElem?_replicate
def zq34x := @List.getElem?_of_mem
def zq35x := @List.ext_getElem?
def zq36x := @PySem.PassesOwn.never
def zq37x := @Option.some.inj
def zq38x := @List.getElem?_append_left
def zq39x := @PySem.W.mg_none_of
def zq40x := @List.length_set
def zq41x := @List.length_singleton
def zq42x := @Option.map_eq_some_iff
def zq43x := @Nat.le_of_lt
def zq44x := @Array.length_toList
def zq45x := @Nat.zero_le
def zq46x := @List.getElem?_append_right
def zq47x := @Int.emod_nonneg
def zq48x := @Int.emod_lt_of_pos
def zq49x := @List.pairwise_map
def zq50x := @List.length_range
def zq51x := @Nat.lt_irrefl
def zq52x := @List.mem_range
def zq53x := @PySem.W.kia_one
def zq54x := @Nat.le_succ
def zq55x := @Nat.lt_trans
def zq56x := @Int.toNat_natCast
def zq57x := @List.mem_append_right
def zq58x := @List.length_take
def zq59x := @PySem.Heap.get?_update_other
def zq60x := @Int.le_refl
def zq61x := @Array.getElem?_eq_getElem
def zq62x := @List.take_length
def zq63x := @PyProof.Rows.boot_isinstance
def zq64x := @Bool.eq_iff_iff
def zq65x := @List.nodup_cons
def zq66x := @List.any_cons
def zq67x := @List.length_cons
def zq68x := @Int.mul_assoc
def zq69x := @PySem.Around.under_plainId
def zq70x := @Nat.lt_succ_of_lt
def zq71x := @List.map_map
def zq72x := @PySem.F.plainAttrs_list
def zq73x := @List.all_cons
def zq74x := @Array.getElem?_toList
def zq75x := @PySem.Heap.size_push
def zq76x := @Option.some_ne_none
def zq77x := @Classical.byContradiction
def zq78x := @List.cons_append
def zq79x := @List.getElem?_cons_succ
def zq80x := @Int.mul_comm
def zq81x := @PySem.F.called_set
def zq82x := @Bool.false_eq_true
def zq83x := @List.find?_cons
def zq84x := @PyProof.Rows.boot_list
def zq85x := @List.mem_filter
def zq86x := @Nat.ne_of_gt
def zq87x := @List.append_nil
def zq88x := @PySem.mem_of_lookup
def zq89x := @List.length_drop
def zq90x := @Bool.or_false
def zq91x := @List.map_nil
def zq92x := @PySem.SeqAt.canLay_of_shaped
def zq93x := @List.length_eq_zero_iff
def zq94x := @List.Nodup.length_le_of_subset
def zq95x := @PySem.W.kia_tup
def zq96x := @List.sum_cons
def zq97x := @List.filterMap_cons
def zq98x := @Int.zero_mul
def zq99x := @List.pairwise_iff_getElem
def zq100x := @List.any_eq_true
def zq101x := @List.all_eq_true
def zq102x := @Bool.false_or
def zq103x := @Option.map_some
def zq104x := @Int.mul_ediv_add_emod
def zq105x := @Int.mul_sub
def zq106x := @Array.getElem?_eq_some_iff
def zq107x := @Nat.lt_succ_self
def zq108x := @List.append_assoc
def zq109x := @PySem.W.KasT.kasWp_bind
def zq110x := @List.getElem?_range
def zq111x := @PySem.F.slot_list_append
def zq112x := @PySem.F.type_list_append
def zq113x := @PyProof.Rows.boot_sorted
def zq114x := @PySem.Value.isInt_shape
def zq115x := @Sum.inl.inj
def zq116x := @PyProof.Rows.callWith_type1
def zq117x := @PySem.W.kitx_dict
def zq118x := @PySem.Heap.get?_update_self
def zq119x := @Nat.le_of_eq
def zq120x := @List.set_set
def zq121x := @Int.one_mul
def zq122x := @Int.sub_mul
def zq123x := @Int.add_mul
def zq124x := @Nat.succ.inj
def zq125x := @Array.getD_eq_getD_getElem?
def zq126x := @Array.size_extract
def zq127x := @Bool.true_and
def zq128x := @PySem.F.plain_list_iadd
def zq129x := @PySem.Calls.call_function_entry
def zq130x := @List.nodup_append
def zq131x := @List.map_congr_left
def zq132x := @List.foldl_append
def zq133x := @Int.ne_of_lt
def zq134x := @PySem.Heap.get?_push_ne
def zq135x := @PySem.Heap.size_update
def zq136x := @PySem.F.slot_list_getattribute
def zq137x := @List.nodup_iff_pairwise_ne
def zq138x := @Int.mul_one
def zq139x := @List.mem_filterMap
def zq140x := @PySem.W.kitx_list
def zq141x := @List.of_mem_zip
def zq142x := @Option.isSome_iff_exists
def zq143x := @Nat.le_of_not_lt
def zq144x := @Nat.lt_of_le_of_lt
def zq145x := @Nat.log2_lt
def zq146x := @List.take_add_one
def zq147x := @List.sum_append
def zq148x := @Int.ediv_nonneg
def zq149x := @Int.mul_add
def zq150x := @Int.mul_le_mul_of_nonneg_right
def zq151x := @Nat.lt_or_ge
def zq152x := @Array.getElem?_eq_none
def zq153x := @Nat.lt_or_eq_of_le
def zq154x := @PyProof.Rows.F.plain_set_update_loop
def zq155x := @Nat.lt_trichotomy
def zq156x := @List.range_succ_eq_map
def zq157x := @List.length_nil
def zq158x := @Nat.lt_of_lt_of_eq
def zq159x := @List.nodup_nil
def zq160x := @List.take_of_length_le
def zq161x := @Int.sub_zero
def zq162x := @Int.emod_eq_zero_of_dvd
def zq163x := @Int.add_zero
def zq164x := @Int.eq_ofNat_of_zero_le
def zq165x := @Int.le_of_lt
def zq166x := @List.lookup_cons_self
def zq167x := @Nat.sub_self
def zq168x := @List.mem_of_mem_take
def zq169x := @Nat.le_of_ble_eq_true
def zq170x := @List.pairwise_cons
def zq171x := @PyProof.Rows.boot_int
def zq172x := @PySem.F.slot_list_index
def zq173x := @PySem.F.type_list_index
def zq174x := @List.mem_append_left
def zq175x := @PySem.Calls.Name_function_global
def zq176x := @PySem.W.cellsFrom_some
def zq177x := @List.filterMap_cons_some
def zq178x := @Array.getElem?_push
def zq179x := @Array.getElem?_extract_of_lt
def zq180x := @List.getElem?_toArray
def zq181x := @List.length_eraseIdx_of_lt
def zq182x := @List.Perm.append_left
def zq183x := @PySem.F.entry_proto_collect
def zq184x := @PySem.F.plain_proto_collect
def zq185x := @PySem.F.entry_list_iadd
def zq186x := @PySem.F.plain_extend_loop
def zq187x := @Nat.mul_le_mul_right
def zq188x := @List.mem_or_eq_of_mem_set
def zq189x := @List.eq_of_mem_replicate
def zq190x := @PySem.F.slot_dict_get
def zq191x := @List.pairwise_singleton
def zq192x := @Int.dvd_of_emod_eq_zero
def zq193x := @Int.add_mul_emod_self_left
def zq194x := @PyProof.Rows.boot_all
def zq195x := @PyProof.Rows.boot_min
def zq196x := @List.mem_of_mem_drop
def zq197x := @List.take_append_drop
def zq198x := @PyProof.Rows.boot_set
def zq199x := @PyProof.Rows.boot_tuple
def zq200x := @PyProof.Rows.boot_bool
def zq201x := @PyProof.Rows.boot_str
def zq202x := @List.replicate_succ'
def zq203x := @Bool.and_eq_true_iff
namespace L2
open PySem PySem.Spec PyProof.Rows
abbrev Key := Sum Int Str
def keyIs : Key -> Value -> Bool
 | .inl k, v => Value.isInt k v
 | .inr x, v => Value.isStrOf x v
def keyH (w : World) : Key -> Int
 | .inl k => hashInt k
 | .inr x => hashStr w x
theorem keyIs_shape : ∀ {k : Key} {v : Value}, keyIs k v = true -> (∃ i t, k = Sum.inl i /\ v = Value.int i t) \/ (∃ x t, k = Sum.inr x /\ v = Value.str x t)
  | .inl i, v, h => by
    obtain ⟨t, e⟩ := zq114x (k := i) (v := v) h
    exact .inl ⟨i, t, rfl, e⟩
  | .inr x, v, h => by
    obtain ⟨t, e⟩ := Value.isStrOf_shape (x := x) (v := v) h
    exact .inr ⟨x, t, rfl, e⟩
theorem keyIs_int (i : Int) (t : Tok) : keyIs (.inl i) (.int i t) = true := by simp [keyIs, Value.isInt]
theorem keyIs_str (x : Str) (t : Tok) : keyIs (.inr x) (.str x t) = true := by simp [keyIs, Value.isStrOf]
theorem key_ll (a b : Int) : decide ((Sum.inl a : Key) = Sum.inl b) = (a == b) := by
 by_cases e : a = b
 ·subst e; simp
 ·have h : ¬ (Sum.inl a : Key) = Sum.inl b := fun q => e (zq115x q)
  rw [decide_eq_false h]
  exact (beq_eq_false_iff_ne.mpr e).symm
theorem key_rr (a b : Str) : decide ((Sum.inr a : Key) = Sum.inr b) = decide (a = b) := by
 by_cases e : a = b
 ·subst e; simp
 ·have h : ¬ (Sum.inr a : Key) = Sum.inr b := fun q => e (Sum.inr.inj q)
  rw [decide_eq_false h, decide_eq_false e]
theorem key_lr (a : Int) (b : Str) : decide ((Sum.inl a : Key) = Sum.inr b) = false := decide_eq_false (fun q => nomatch q)
theorem key_rl (a : Str) (b : Int) : decide ((Sum.inr a : Key) = Sum.inl b) = false := decide_eq_false (fun q => nomatch q)
def mixKind (prog : Program) (w : World) : PySem.KeyKind prog w Key where
 is := keyIs
 hash := keyH w
 inj := fun v a b ha hb => by
  rcases keyIs_shape ha with ⟨i, t, rfl, rfl⟩ | ⟨x, t, rfl, rfl⟩
  ·rcases keyIs_shape hb with ⟨j, u, rfl, e⟩ | ⟨y, u, rfl, e⟩
   ·injection e with e1 _; rw [e1]
   ·exact nomatch e
  ·rcases keyIs_shape hb with ⟨j, u, rfl, e⟩ | ⟨y, u, rfl, e⟩
   ·exact nomatch e
   ·injection e with e1 _; rw [e1]
 byValue := fun k v h => by
  rcases keyIs_shape h with ⟨i, t, rfl, rfl⟩ | ⟨x, t, rfl, rfl⟩ <;> rfl
 pyHash := fun hv h => by
  rcases keyIs_shape hv with ⟨i, t, rfl, rfl⟩ | ⟨x, t, rfl, rfl⟩
  ·exact wpAny_pyHash_int h
  ·exact wpAny_pyHash_str h
 eqBool := fun hu hv h => by
  rcases keyIs_shape hu with ⟨i, t, rfl, rfl⟩ | ⟨x, t, rfl, rfl⟩
  ·rcases keyIs_shape hv with ⟨j, u, rfl, rfl⟩ | ⟨y, u, rfl, rfl⟩
   ·rw [key_ll] at h; exact wpAny_eqBool_int h
   ·rw [key_lr] at h; exact SeqAt.EqAt.int_str i t y u _ _ _ _ h
  ·rcases keyIs_shape hv with ⟨j, u, rfl, rfl⟩ | ⟨y, u, rfl, rfl⟩
   ·rw [key_rl] at h; exact SeqAt.EqAt.str_int x t j u _ _ _ _ h
   ·rw [key_rr] at h; exact wpAny_eqBool_str h
 «strs» := fun k x t v h => by
  rcases keyIs_shape h with ⟨i, u, rfl, e⟩ | ⟨y, u, rfl, e⟩
  ·exact nomatch e
  ·injection e with e1 _
   subst e1
   cases v <;> rfl
theorem mixKind_int (prog : Program) (w : World) (i : Int) (t : Tok) : (mixKind prog w).is (.inl i) (.int i t) = true := keyIs_int i t
theorem mixKind_str (prog : Program) (w : World) (x : Str) (t : Tok) : (mixKind prog w).is (.inr x) (.str x t) = true := keyIs_str x t
inductive V where
 | non | bl (b : Bool) | int (i : Int) | str (x : Str) | byt (b : Array UInt8) | flt (b : UInt64) | ref (a : Addr) | ty (n : String)
 deriving DecidableEq
def RelV : V -> Value -> Prop
 | .non, u => u = Value.none
 | .bl b, u => u = Value.bool b
 | .int i, u => ∃ t, u = Value.int i t
 | .str x, u => ∃ t, u = Value.str x t
 | .byt b, u => ∃ t, u = Value.bytes b t
 | .flt b, u => ∃ t, u = Value.float b t
 | .ref a, u => u = Value.ref a
 | .ty n, u => u = Value.type n
abbrev Vals : List V -> List Value -> Prop := Paired RelV
theorem Vals.length {xs : List V} {us : List Value} (r : Vals xs us) : xs.length = us.length := Paired.length r
theorem Vals.get : ∀ {xs : List V} {us : List Value} {i : Nat} {x : V}, Vals xs us -> xs[i]? = some x -> ∃ u, us[i]? = some u /\ RelV x u
  | _, _, _, _, .nil, e => by simp at e
  | _, _, 0, _, .cons r _, e => by simp at e; subst e; exact ⟨_, rfl, r⟩
  | _, _, i + 1, x, .cons _ t, e => by
    obtain ⟨u, h1, h2⟩ := Vals.get (i := i) (x := x) t (by simpa using e)
    exact ⟨u, by simpa using h1, h2⟩
theorem Vals.set {x : V} {u : Value} (r : RelV x u) : ∀ {xs : List V} {us : List Value} (i : Nat), Vals xs us -> Vals (xs.set i x) (us.set i u)
 | _, _, _, .nil => .nil
 | _, _, 0, .cons _ t => .cons r t
 | _, _, i + 1, .cons q t => .cons q (Vals.set r i t)
theorem Vals.append : ∀ {xs ys : List V} {us ws : List Value}, Vals xs us -> Vals ys ws -> Vals (xs ++ ys) (us ++ ws)
 | _, _, _, _, .nil, s => s
 | _, _, _, _, .cons r t, s => .cons r (Vals.append t s)
theorem Vals.take : ∀ {xs : List V} {us : List Value} (n : Nat), Vals xs us -> Vals (xs.take n) (us.take n)
 | _, _, 0, _ => .nil
 | _, _, _ + 1, .nil => .nil
 | _, _, n + 1, .cons r t => .cons r (Vals.take n t)
theorem Vals.drop : ∀ {xs : List V} {us : List Value} (n : Nat), Vals xs us -> Vals (xs.drop n) (us.drop n)
 | _, _, 0, r => r
 | _, _, _ + 1, .nil => .nil
 | _, _, n + 1, .cons _ t => Vals.drop n t
def RelO : Option V -> Option Value -> Prop
 | some v, some u => RelV v u
 | none, none => True
 | _, _ => False
def KV {κ : Type} : List (κ × V) -> List (κ × Value) -> Prop := Paired fun (p : κ × V) (q : κ × Value) => p.1 = q.1 /\ RelV p.2 q.2
def kV : Key -> V
 | .inl i => .int i
 | .inr x => .str x
inductive HO where
  | lst (xs : List V)
  | tup (xs : List V)
  | dK (kvs : List (Key × V)) | dT (kvs : List (List Key × V))
  | set (S : Int -> Bool) (n : Nat)
  | ins (C dx : Addr) (fs : List (Str × V))
  | own (x : Addr)
  | xd (fs : List (Str × V))
  | met (f x : Addr)
  | rng (lo hi : Int)
  | frz (o : Obj) (u : HO)
  | tbl (ps : Array Value)
  | ext (φ : Heap -> Prop)
abbrev Hp := Addr -> Option HO
def upd (H : Hp) (a : Addr) (o : HO) : Hp := fun b => if b = a then some o else H b
theorem upd_same {H : Hp} {a : Addr} {o : HO} : upd H a o a = some o := by unfold upd; rw [if_pos rfl]
theorem upd_ne {H : Hp} {a b : Addr} {o : HO} (h : b ≠ a) : upd H a o b = H b := by unfold upd; rw [if_neg h]
theorem upd_upd {H : Hp} {a : Addr} {o u : HO} : upd (upd H a o) a u = upd H a u := by
 funext b; unfold upd; split <;> rfl
theorem ne_of_none {H : Hp} {a b : Addr} {o : HO} (h : H a = some o) (h' : H b = none) : a ≠ b := by
 intro e; subst e; rw [h] at h'; cases h'
section
variable (P : Program) (w : World)
def ObjOk (H : Hp) (h : Heap) (a : Addr) : HO -> Prop
 | .lst xs => xs.length <= sizeLine /\ ∃ (its : List Value) (n : Nat), Vals xs its /\ h.get? a = some { cls := .type "list", data := .seq its.toArray n }
 | .tup xs => xs.length <= sizeLine /\ ∃ its : List Value, Vals xs its /\ IsTup h a its.toArray
 | .dK kvs => kvs.length <= sizeLine /\ (a == sysModules) = false /\ ∃ vs, KV kvs vs /\ h.DictOf (mixKind P w) a vs
 | .dT kvs => kvs.length <= sizeLine /\ (a == sysModules) = false /\ ∃ xs : List (List Key × Addr × Value),
   Paired (fun (p : List Key × V) (q : List Key × Addr × Value) => p.1 = q.1 /\ H q.2.1 = some (.tup (p.1.map kV)) /\ RelV p.2 q.2.2) kvs xs /\
   ∃ o es ep, h.get? a = some o /\ o.ExactDict /\ o.data = .dict es ep /\ es.toList = xs.map (entryOfKey (tupleKind (mixKind P w))) /\ (xs.map (·.1)).Nodup
 | .set S n => h.SetOf (intKind P w) a S n
 | .ins C dx fs => H dx = some (.own a) /\ fs.length <= 1000 /\ dx ≠ a /\ h.get? a = some (PySem.W.instObj C dx) /\
   ∃ mA, h.Ns1 dx mA /\ (∀ f, RelO (fs.lookup f) (mA f)) /\ PySem.Within mA (fs.map (·.1))
 | .own _ => ∃ o, h.get? a = some o
 | .xd fs => ∃ mA, h.Ns1 a mA /\ ∀ f, RelO (fs.lookup f) (mA f)
 | .rng lo hi => ∃ t u v, h.get? a = some { cls := .type "range", data := .fields #[.int lo t, .int hi u, .int 1 v] }
 | .frz o u => h.get? a = some o /\ ObjOk H h a u
 | .tbl ps => h.get? a = some { cls := .none, data := .fields ps }
 | .met f x => h.get? a = some (PySem.W.methodObj (.ref f) (.ref x))
 | .ext φ => φ h /\ (∃ o, h.get? a = some o) /\ ∀ h1 h2 : Heap, φ h1 -> (∀ o, h1.get? a = some o -> h2.get? a = some o) -> φ h2
def HOk (H : Hp) (h : Heap) : Prop := ∀ a o, H a = some o -> ObjOk P w H h a o
end
section
variable {P : Program} {w : World} {H H' : Hp} {h h' : Heap} {a : Addr} {o : HO}
theorem ObjOk.lt (x : ObjOk P w H h a o) : a < h.objs.size := by
 cases o with
 | lst xs => obtain ⟨_, _, _, _, e⟩ := x; exact zq6x e
 | tup xs => obtain ⟨_, _, _, p⟩ := x; exact p.lt
 | dK kvs => obtain ⟨_, _, _, _, o, _, _, e, _⟩ := x; exact zq6x e
 | dT kvs => obtain ⟨_, _, _, _, o, _, _, e, _⟩ := x; exact zq6x e
 | set S n => obtain ⟨o, _, _, _, e, _⟩ := x; exact zq6x e
 | ins C dx fs => obtain ⟨_, _, _, e, _⟩ := x; exact zq6x e
 | own y => obtain ⟨_, e⟩ := x; exact zq6x e
 | xd fs => obtain ⟨_, ⟨_, _, _, e, _⟩, _⟩ := x; exact zq6x e
 | rng lo hi => obtain ⟨_, _, _, e⟩ := x; exact zq6x e
 | frz ob u => obtain ⟨e, _⟩ := x; exact zq6x e
 | tbl ps => exact zq6x (show h.get? a = some _ from x)
 | met f y => exact zq6x (show h.get? a = some _ from x)
 | ext φ => obtain ⟨_, ⟨_, e⟩, _⟩ := x; exact zq6x e
theorem Paired.mapP {α β : Type} {F G : α -> β -> Prop} : ∀ {l₁ : List α} {l₂ : List β}, Paired F l₁ l₂ -> (∀ a b, F a b -> G a b) -> Paired G l₁ l₂
 | _, _, .nil, _ => .nil
 | _, _, .cons r t, f => .cons (f _ _ r) (Paired.mapP t f)
theorem ObjOk.stay (x : ObjOk P w H h a o) (k : ∀ b u, (b = a \/ H b = some (.own a)) -> h.get? b = some u -> h'.get? b = some u)
    (ho : ∀ b, H b = some (.own a) -> H' b = some (.own a)) (ht : ∀ b xs, H b = some (.tup xs) -> H' b = some (.tup xs)) : ObjOk P w H' h' a o := by
  induction o with
  | lst xs => obtain ⟨z, its, n, r, e⟩ := x; exact ⟨z, its, n, r, k _ _ (.inl rfl) e⟩
  | tup xs => obtain ⟨z, its, r, ob, e, c⟩ := x; exact ⟨z, its, r, ob, k _ _ (.inl rfl) e, c⟩
  | dK kvs => obtain ⟨z, y, vs, r, ob, es, ep, e, c⟩ := x; exact ⟨z, y, vs, r, ob, es, ep, k _ _ (.inl rfl) e, c⟩
  | dT kvs =>
    obtain ⟨z, y, xs, r, ob, es, ep, e, c⟩ := x
    exact ⟨z, y, xs, Paired.mapP r fun p q z => ⟨z.1, ht _ _ z.2.1, z.2.2⟩, ob, es, ep, k _ _ (.inl rfl) e, c⟩
  | set S n => obtain ⟨ob, es, ep, t, e, c⟩ := x; exact ⟨ob, es, ep, t, k _ _ (.inl rfl) e, c⟩
  | ins C dx fs =>
    obtain ⟨d, z, ne, e, mA, ⟨od, es, ep, e2, c⟩, r⟩ := x
    exact ⟨ho _ d, z, ne, k _ _ (.inl rfl) e, mA, ⟨od, es, ep, k _ _ (.inr d) e2, c⟩, r⟩
  | own y => obtain ⟨ob, e⟩ := x; exact ⟨ob, k _ _ (.inl rfl) e⟩
  | xd fs => obtain ⟨mA, ⟨od, es, ep, e, c⟩, r⟩ := x; exact ⟨mA, ⟨od, es, ep, k _ _ (.inl rfl) e, c⟩, r⟩
  | rng lo hi => obtain ⟨t, u, v, e⟩ := x; exact ⟨t, u, v, k _ _ (.inl rfl) e⟩
  | frz ob u ih => obtain ⟨e, q⟩ := x; exact ⟨k _ _ (.inl rfl) e, ih q⟩
  | tbl ps =>
    have e : h.get? a = some { cls := .none, data := .fields ps } := x
    show h'.get? a = some { cls := .none, data := .fields ps }
    exact k a _ (.inl rfl) e
  | met f y =>
    have e : h.get? a = some (PySem.W.methodObj (.ref f) (.ref y)) := x
    show h'.get? a = some (PySem.W.methodObj (.ref f) (.ref y))
    exact k a _ (.inl rfl) e
  | ext φ => obtain ⟨p, ⟨o, e⟩, st⟩ := x; exact ⟨st _ _ p fun o q => k _ _ (.inl rfl) q, ⟨o, k _ _ (.inl rfl) e⟩, st⟩
theorem HOk.lt (x : HOk P w H h) (e : H a = some o) : a < h.objs.size := (x a o e).lt
theorem HOk.fresh (x : HOk P w H h) (e : h.objs.size <= a) : H a = none := by
 cases q : H a with
 | none => rfl
 | some u => exact absurd (zq23x (x.lt q) e) (zq51x _)
theorem HOk.kept (x : HOk P w H h) (k : ∀ b u, h.get? b = some u -> h'.get? b = some u) : HOk P w H h' := fun a o e =>
 (x a o e).stay (fun b u _ q => k b u q) (fun _ q => q) fun _ _ q => q
theorem HOk.laid (x : HOk P w H h) (k : ∀ b u, h.get? b = some u -> h'.get? b = some u) (hp : h.objs.size <= a) (new : ObjOk P w (upd H a o) h' a o) : HOk P w (upd H a o) h' := fun b u e => by
 have hn := x.fresh hp
 by_cases hb : b = a
 ·subst hb; rw [upd_same] at e; cases e; exact new
 ·rw [upd_ne hb] at e
  exact (x b u e).stay (fun c v _ q => k c v q) (fun c q => by rw [upd_ne (ne_of_none q hn)]; exact q) fun c xs q => by rw [upd_ne (ne_of_none q hn)]; exact q
end
def Rd (H : Hp) (a : Addr) (u : HO) : Prop := H a = some u \/ ∃ o, H a = some (.frz o u)
theorem Rd.ok {P : Program} {w : World} {H : Hp} {h : Heap} {a : Addr} {u : HO} (r : Rd H a u) (x : HOk P w H h) : ObjOk P w H h a u := by
 rcases r with r | ⟨o, r⟩
 ·exact x a u r
 ·obtain ⟨_, q⟩ := x a _ r
  exact q
def Mut : Option HO -> Prop
 | some (.lst _) => True
 | some (.dK _) => True
 | some (.dT _) => True
 | some (.set _ _) => True
 | some (.ins _ _ _) => True
 | some (.ext _) => True
 | _ => False
section
variable {P : Program} {w : World} {H : Hp} {h h' : Heap} {x e : Addr} {o' : HO}
theorem HOk.write (ok : HOk P w H h) (mu : Mut (H x)) (he : e = x \/ H e = some (.own x)) (k : ∀ b u, b ≠ e -> h.get? b = some u -> h'.get? b = some u) (heo : ∃ u, h'.get? e = some u)
  (new : ObjOk P w (upd H x o') h' x o') : HOk P w (upd H x o') h' := fun b u q => by
 have nown : ∀ c y, H c = some (.own y) -> c ≠ x := fun c y r z => by subst z; rw [r] at mu; exact mu
 have ntup : ∀ c xs, H c = some (.tup xs) -> c ≠ x := fun c xs r z => by subst z; rw [r] at mu; exact mu
 by_cases hb : b = x
 ·subst hb; rw [upd_same] at q; cases q; exact new
 ·rw [upd_ne hb] at q
  by_cases hbe : b = e
  ·have q' : H b = some (.own x) := by
    rcases he with z | z
    ·exact absurd (hbe.trans z) hb
    ·rw [hbe]; exact z
   rw [q] at q'; cases q'
   obtain ⟨v, hv⟩ := heo
   exact ⟨v, by rw [hbe]; exact hv⟩
  ·refine (ok b u q).stay (fun c v hc r => k c v ?_ r) (fun c r => by rw [upd_ne (nown c b r)]; exact r) fun c xs r => by rw [upd_ne (ntup c xs r)]; exact r
   rcases hc with rfl | hc
   ·exact hbe
   ·rintro rfl
    rcases he with z | z
    ·exact nown c b hc z
    ·rw [hc] at z; cases z; exact hb rfl
end
structure Un (fs ex : List Addr) (H H' : Hp) (h h' : Heap) : Prop where
 keep : ∀ b o, h.get? b = some o -> H b = none -> b ∉ fs -> b ∉ ex -> h'.get? b = some o
 slot : ∀ b o, h.get? b = some o -> H b = none -> b ∈ fs -> b ∉ ex -> ∃ sl, h'.get? b = some { o with slots := sl }
 free : ∀ b o, h.get? b = some o -> H b = none -> b ∉ ex -> H' b = none
 there : ∀ b o, h.get? b = some o -> b ∉ ex -> ∃ o', h'.get? b = some o'
 tups : ∀ b xs, H b = some (.tup xs) -> H' b = some (.tup xs)
 frzs : ∀ b o u, H b = some (.frz o u) -> H' b = some (.frz o u)
 tbls : ∀ b ps, H b = some (.tbl ps) -> ∃ more, H' b = some (.tbl (ps ++ more))
section
variable {fs fs' ex ex' : List Addr} {H H1 H2 : Hp} {h h1 h2 h' : Heap} {a x e : Addr} {o : HO}
theorem Un.any (u : Un fs ex H H1 h h1) {b : Addr} {ob : Obj} (q : h.get? b = some ob) (n : H b = none) (hx : b ∉ ex) : ∃ sl, h1.get? b = some { ob with slots := sl } := by
 by_cases hb : b ∈ fs
 ·exact u.slot b ob q n hb hx
 ·exact ⟨ob.slots, u.keep b ob q n hb hx⟩
theorem Un.kept (k : ∀ b u, h.get? b = some u -> h'.get? b = some u) : Un fs ex H H h h' :=
 ⟨fun b ob q _ _ _ => k b ob q, fun b ob q _ _ _ => ⟨ob.slots, k b ob q⟩, fun _ _ _ n _ => n, fun b ob q _ => ⟨ob, k b ob q⟩, fun _ _ q => q, fun _ _ _ q => q, fun _ ps q => ⟨#[], by rw [q]; simp⟩⟩
theorem Un.refl : Un fs ex H H h h := Un.kept fun _ _ q => q
theorem Un.laid (k : ∀ b u, h.get? b = some u -> h'.get? b = some u) (hp : h.objs.size <= a) (hn : H a = none) : Un fs ex H (upd H a o) h h' where
 keep := fun b u q _ _ _ => k b u q
 slot := fun b u q _ _ _ => ⟨u.slots, k b u q⟩
 free := fun b u q n _ => by rw [upd_ne (zq12x (zq23x (zq6x q) hp))]; exact n
 there := fun b u q _ => ⟨u, k b u q⟩
 tups := fun b xs q => by rw [upd_ne (ne_of_none q hn)]; exact q
 frzs := fun b u xs q => by rw [upd_ne (ne_of_none q hn)]; exact q
 tbls := fun b ps q => ⟨#[], by rw [upd_ne (ne_of_none q hn), q]; simp⟩
theorem Un.write (mu : Mut (H x)) (he : e = x \/ H e = some (.own x)) (k : ∀ b u, b ≠ e -> h.get? b = some u -> h'.get? b = some u) (heo : ∃ u, h'.get? e = some u) : Un fs ex H (upd H x o) h h' := by
 have hx : ∀ b, H b = none -> b ≠ x := fun b n z => by subst z; rw [n] at mu; exact mu
 have hb : ∀ b, H b = none -> b ≠ e := fun b n z => by
  subst z
  rcases he with r | r
  ·exact hx b n r
  ·rw [n] at r; cases r
 have hm : ∀ b u, H b = some u -> ¬ Mut (some u) -> b ≠ x := fun b u q nm z => by subst z; rw [q] at mu; exact nm mu
 refine ⟨fun b u q n _ _ => k b u (hb b n) q, fun b u q n _ _ => ⟨u.slots, k b u (hb b n) q⟩, fun b u q n _ => by rw [upd_ne (hx b n)]; exact n, fun b u q _ => ?_,
  fun b xs q => by rw [upd_ne (hm b _ q fun z => z)]; exact q, fun b u xs q => by rw [upd_ne (hm b _ q fun z => z)]; exact q, fun b ps q => ⟨#[], by rw [upd_ne (hm b _ q fun z => z), q]; simp⟩⟩
 by_cases hbe : b = e
 ·subst hbe; exact heo
 ·exact ⟨u, k b u hbe q⟩
end
def trk (h : Heap) (H : Hp) : List Addr := (List.range h.objs.size).filter fun a => (H a).isSome
def hidT (h : Heap) (H : Hp) : Heap := PySem.W.hideAll h (trk h H)
theorem hidT_size (h : Heap) (H : Hp) : (hidT h H).objs.size = h.objs.size := PySem.W.hideAll_size _ _
theorem hidT_get {h : Heap} {H : Hp} {b : Addr} {o : Obj} (e : h.get? b = some o) (n : H b = none) : (hidT h H).get? b = some o :=
 PySem.W.hideAll_get _ e fun hm => by
  have q : (H b).isSome = true := (zq85x.mp hm).2
  rw [n] at q; simp at q
theorem of_hidT {h : Heap} {H : Hp} {b : Addr} {o : Obj} (e : (hidT h H).get? b = some o) : h.get? b = some o /\ H b = none := by
  have e' : h.get? b = some o := PySem.W.of_hideAll (trk h H) e
  refine ⟨e', ?_⟩
  cases q : H b with
  | none => rfl
  | some x =>
    have hm : b ∈ trk h H := zq85x.mpr ⟨zq52x.mpr (zq6x e'), by simp [q]⟩
    have z : (hidT h H).get? b = none := PySem.W.hideAll_none (trk h H) hm
    rw [z] at e; cases e
def allNews (g h : Heap) (L : Addr) : List (Addr × Obj) := (List.range h.objs.size).filterMap fun a => if a = L \/ (g.get? a).isSome = true then none else (h.get? a).map fun o => (a, o)
def rest (g h : Heap) (L d : Addr) : List (Addr × Obj) := (allNews g h L).filter fun p => decide (p.1 ≠ d)
structure Mod (K : PySem.W.Frag) (mg : Str -> Option Value) (base : Heap) : Prop where
 kin : K.In base
 glob : base.Ns mainGlobals mg
 blt : ∃ mb, base.Ns builtinsNs mb /\ ∀ x : Str, x ≠ "__name__" -> mb x = bootBuiltins x
 nolimit : base.NoLimit
structure Cx where
 prog : Program
 w : World
 K : PySem.W.Frag
 mg : Str -> Option Value
 base : Heap
 A : Around
 N : List Str
 s₀ : Shared
 H₀ : Hp
 env : Env
 outer : List Env
 stack : List Env
 ex : List Addr
 fn : Str -> Bool
 calm : Bool
 pn : List (Addr × Obj)
 xe : Value -> Shared -> Prop
def frs (l : List Env) : List Addr := l.filterMap (·.frame)
abbrev Cx.fs (X : Cx) : List Addr := frs X.outer
def Vis (sc : Scope) (x : Str) : Prop := sc.names.lookup x = some .local \/ sc.names.lookup x = some .cell \/ sc.names.lookup x = some .free
def Loc (sc : Scope) (x : Str) : Prop := sc.names.lookup x = some .local \/ sc.names.lookup x = some .cell
def Look (env : Env) (h : Heap) (m : Str -> Option Value) (x : Str) (u : Value) : Prop :=
 (env.kindOf x = some .local /\ m x = some u) \/ ((env.kindOf x = some .cell \/ env.kindOf x = some .free) /\ ∃ c, env.cells.lookup x = some c /\ h.IsCell c (some u))
structure Cx.Ok (X : Cx) : Prop where
 mod : Mod X.K X.mg X.base
 kind : X.env.scope.kind = .function
 glob : X.env.globals = mainGlobals
 blt : X.env.builtins = builtinsNs
 above : X.s₀.heap.objs.size <= X.env.locals
 inj : ∀ x y c, X.env.cells.lookup x = some c -> X.env.cells.lookup y = some c -> x = y
 has : ∀ x, (X.env.kindOf x = some .cell \/ X.env.kindOf x = some .free) -> ∃ c, X.env.cells.lookup x = some c
 cab : ∀ x c, X.fn x = true -> X.env.cells.lookup x = some c -> X.s₀.heap.objs.size <= c
 hd : X.calm = true -> X.A.handled = none
 frames : X.A.frames = some X.stack
 stk : X.stack = X.outer \/ (X.stack = X.env :: X.outer /\ X.env.frame = some X.env.locals)
 exf : ∀ b ∈ X.ex, b ≠ X.env.locals /\ ∀ x c, X.env.cells.lookup x = some c -> c ≠ b
 bs : ∀ b o, X.base.get? b = some o -> X.s₀.heap.get? b = some o /\ X.H₀ b = none
 bsz : X.base.objs.size <= X.s₀.heap.objs.size
 noex : ∀ b o, X.base.get? b = some o -> b ∉ X.ex
 exfs : ∀ b ∈ X.ex, b ∉ X.fs
 funs : X.s₀.heap.FunFrames X.base X.outer
 frf : ∀ b ∈ X.fs, X.H₀ b = none
structure Inv (X : Cx) (pins : List (Addr × Obj)) (σ : List (Option V)) (H : Hp) (s : Shared) : Prop where
 ok : X.Ok
 os : s.os = X.s₀.os
 bare : AllBare s.gens
 base : Un X.fs X.ex X.H₀ H X.s₀.heap s.heap
 loc : ∃ m, s.heap.Ns X.env.locals m /\ ∀ (i : Nat) (x : Str) (v : V), X.N[i]? = some x -> σ[i]? = some (some v) -> Vis X.env.scope x -> ∃ u, RelV v u /\ Look X.env s.heap m x u
 cell : ∀ x c, X.env.cells.lookup x = some c -> ∃ v, s.heap.IsCell c v
 free : H X.env.locals = none
 freeC : ∀ x c, X.env.cells.lookup x = some c -> H c = none
 pin : ∀ p ∈ X.pn ++ pins, s.heap.get? p.1 = some p.2 /\ H p.1 = none /\ p.1 ≠ X.env.locals /\ p.1 ∉ X.fs /\ ∀ v, p.2.data ≠ .cell v
 hok : HOk X.prog X.w H s.heap
 len : σ.length = X.N.length
section
variable {X : Cx} {pins : List (Addr × Obj)} {σ : List (Option V)} {H H' : Hp} {s : Shared} {h' : Heap}
theorem Cx.Ok.nofr (ok : X.Ok) {b : Addr} {o : Obj} (e : X.base.get? b = some o) : b ∉ X.fs := fun hb => by
 have := (ok.funs.mem hb).1
 rw [e] at this; cases this
theorem Inv.bs (I : Inv X pins σ H s) : ∀ b o, X.base.get? b = some o -> s.heap.get? b = some o /\ H b = none := fun b o e =>
 ⟨I.base.keep b o (I.ok.bs b o e).1 (I.ok.bs b o e).2 (I.ok.nofr e) (I.ok.noex b o e), I.base.free b o (I.ok.bs b o e).1 (I.ok.bs b o e).2 (I.ok.noex b o e)⟩
theorem Inv.bk (I : Inv X pins σ H s) : ∀ b o, X.base.get? b = some o -> s.heap.get? b = some o := fun b o e => (I.bs b o e).1
theorem Inv.mod (I : Inv X pins σ H s) : Mod X.K X.mg X.base := I.ok.mod
theorem Inv.kIn (I : Inv X pins σ H s) : X.K.In s.heap := I.ok.mod.kin.keeps I.bk
theorem Inv.lt (I : Inv X pins σ H s) : X.env.locals < s.heap.objs.size := let ⟨_, hn, _⟩ := I.loc; hn.lt
theorem Inv.sz (I : Inv X pins σ H s) : X.s₀.heap.objs.size <= s.heap.objs.size := zq24x I.ok.above (zq43x I.lt)
theorem Inv.nofs (I : Inv X pins σ H s) {a : Addr} (h : s.heap.objs.size <= a) : a ∉ X.fs := fun hb => by
 obtain ⟨_, o, ho, _⟩ := I.ok.funs.mem hb
 exact absurd (zq23x (zq6x ho) (zq24x I.sz h)) (zq51x _)
theorem Inv.cne (I : Inv X pins σ H s) : ∀ x c, X.env.cells.lookup x = some c -> c ≠ X.env.locals := fun x c e z => by
 obtain ⟨v, o, ho, hd⟩ := I.cell x c e
 obtain ⟨m, ⟨o', es, ep, ho', hd', _⟩, _⟩ := I.loc
 rw [z, ho'] at ho; cases ho; rw [hd'] at hd; cases hd
theorem Inv.funs (I : Inv X pins σ H s) : s.heap.FunFrames X.base X.outer := by
  have all : ∀ (l : List Env), (∀ b ∈ frs l, b ∈ X.fs) -> X.s₀.heap.FunFrames X.base l -> s.heap.FunFrames X.base l := by
    intro l
    induction l with
    | nil => intro _ _; trivial
    | cons env r ih =>
      intro hs hl
      obtain ⟨hk, ⟨L, o, hf, hn, ho, hd⟩, hr⟩ := hl
      have hL : L ∈ X.fs := hs L (by unfold frs; rw [zq97x, hf]; exact zq22x)
      obtain ⟨sl, e⟩ := I.base.slot L o ho (I.ok.frf L hL) hL fun z => I.ok.exfs L z hL
      exact ⟨hk, ⟨L, _, hf, hn, e, hd⟩, ih (fun b hb => hs b (by unfold frs; rw [zq97x, hf]; exact zq25x _ hb)) hr⟩
  exact all X.outer (fun _ hb => hb) I.ok.funs
theorem Inv.stack (I : Inv X pins σ H s) : s.heap.FunFrames X.base X.stack := by
 rcases I.ok.stk with e | ⟨e, hf⟩
 ·rw [e]; exact I.funs
 ·rw [e]
  obtain ⟨m, hn, _⟩ := I.loc
  refine .cons (by rw [I.ok.kind]; decide) hf hn ?_ I.funs
  exact Heap.get?_none_of_le (zq24x I.ok.bsz I.ok.above)
theorem Inv.stkSub (I : Inv X pins σ H s) : ∀ b ∈ frs X.stack, b ∈ X.env.locals :: X.fs := fun b hb => by
 rcases I.ok.stk with e | ⟨e, hf⟩
 ·rw [e] at hb; exact zq25x _ hb
 ·rw [e] at hb
  unfold frs at hb
  rw [zq97x, hf] at hb
  exact hb
theorem Inv.stkFree (I : Inv X pins σ H s) : ∀ b ∈ frs X.stack, H b = none := fun b hb => by
 rcases zq17x.mp (I.stkSub b hb) with e | hb
 ·rw [e]; exact I.free
 ·obtain ⟨_, o, ho, _⟩ := I.ok.funs.mem hb
  exact I.base.free b o ho (I.ok.frf b hb) fun z => I.ok.exfs b z hb
theorem Inv.step {g' : Array GenState} {t' : Nat} {d' : Drawn} {ch : List Addr} (I : Inv X pins σ H s)
  (hch : ∀ b ∈ ch, (b ∈ X.ex \/ X.s₀.heap.objs.size <= b) /\ b ≠ X.env.locals /\ (∀ x c, X.env.cells.lookup x = some c -> c ≠ b) /\ ∀ p ∈ X.pn ++ pins, p.1 ≠ b)
  (keep : ∀ b o, b ≠ X.env.locals -> b ∉ X.fs -> b ∉ ch -> s.heap.get? b = some o -> H b = none -> h'.get? b = some o)
  (slot : ∀ b o, b ≠ X.env.locals -> b ∈ X.fs -> b ∉ ch -> s.heap.get? b = some o -> H b = none -> ∃ sl, h'.get? b = some { o with slots := sl }) (free : ∀ b o, b ∉ ch -> s.heap.get? b = some o -> H b = none -> H' b = none)
  (there : ∀ b o, b ∉ ch -> s.heap.get? b = some o -> ∃ o', h'.get? b = some o')
  (tups : ∀ b xs, H b = some (.tup xs) -> H' b = some (.tup xs)) (frzs : ∀ b o u, H b = some (.frz o u) -> H' b = some (.frz o u)) (tbls : ∀ b ps, H b = some (.tbl ps) -> ∃ more, H' b = some (.tbl (ps ++ more)))
  (ns : ∀ m, s.heap.Ns X.env.locals m -> h'.Ns X.env.locals m) (hok : HOk X.prog X.w H' h') (hg : AllBare g') :
  Inv X pins σ H' { s with heap := h', gens := g', drawn := d', toks := t' } := by
 have neL : ∀ b o, X.s₀.heap.get? b = some o -> b ≠ X.env.locals := fun b o e => zq12x (zq23x (zq6x e) I.ok.above)
 have neC : ∀ b o, X.s₀.heap.get? b = some o -> b ∉ X.ex -> b ∉ ch := fun b o e hx hb => by
  rcases (hch b hb).1 with z | z
  ·exact hx z
  ·exact absurd (zq23x (zq6x e) z) (zq51x _)
 have cellK : ∀ x c, X.env.cells.lookup x = some c -> ∀ v, s.heap.IsCell c v -> h'.IsCell c v := fun x c e v ⟨o, ho, hd⟩ => by
  have nch : c ∉ ch := fun z => (hch c z).2.2.1 x c e rfl
  by_cases hc : c ∈ X.fs
  ·obtain ⟨sl, q⟩ := slot c o (I.cne x c e) hc nch ho (I.freeC x c e)
   exact ⟨_, q, hd⟩
  ·exact ⟨o, keep c o (I.cne x c e) hc nch ho (I.freeC x c e), hd⟩
 refine ⟨I.ok, I.os, hg, ⟨fun b o e n hb hx => ?_, fun b o e n hb hx => ?_, fun b o e n hx => ?_, fun b o e hx => ?_, fun b xs e => tups b xs (I.base.tups b xs e), fun b o xs e => frzs b o xs (I.base.frzs b o xs e), fun b ps e => ?_⟩, ?_, fun x c e => ?_, ?_, fun x c e => ?_, fun p hp => ?_, hok, I.len⟩
 ·exact keep b o (neL b o e) hb (neC b o e hx) (I.base.keep b o e n hb hx) (I.base.free b o e n hx)
 ·obtain ⟨sl, e1⟩ := I.base.slot b o e n hb hx
  obtain ⟨sl', e2⟩ := slot b _ (neL b o e) hb (neC b o e hx) e1 (I.base.free b o e n hx)
  exact ⟨sl', e2⟩
 ·obtain ⟨o', e1⟩ := I.base.there b o e hx
  exact free b o' (neC b o e hx) e1 (I.base.free b o e n hx)
 ·obtain ⟨o', e1⟩ := I.base.there b o e hx
  exact there b o' (neC b o e hx) e1
 ·obtain ⟨m1, e1⟩ := I.base.tbls b ps e
  obtain ⟨m2, e2⟩ := tbls b _ e1
  exact ⟨m1 ++ m2, by rw [e2, Array.append_assoc]⟩
 ·obtain ⟨m, hn, hl⟩ := I.loc
  refine ⟨m, ns m hn, fun i x v e1 e2 e3 => ?_⟩
  obtain ⟨u, r, l⟩ := hl i x v e1 e2 e3
  refine ⟨u, r, ?_⟩
  rcases l with l | ⟨k, c, e, z⟩
  ·exact .inl l
  ·exact .inr ⟨k, c, e, cellK x c e _ z⟩
 ·obtain ⟨v, z⟩ := I.cell x c e
  exact ⟨v, cellK x c e v z⟩
 ·obtain ⟨m, ⟨o, _, _, ho, _⟩, _⟩ := I.loc
  exact free _ o (fun z => (hch _ z).2.1 rfl) ho I.free
 ·obtain ⟨v, o, ho, hd⟩ := I.cell x c e
  exact free c o (fun z => (hch c z).2.2.1 x c e rfl) ho (I.freeC x c e)
 ·obtain ⟨e, n, ne, nf, d⟩ := I.pin p hp
  have nch : p.1 ∉ ch := fun z => (hch p.1 z).2.2.2 p hp rfl
  exact ⟨keep p.1 p.2 ne nf nch e n, free p.1 p.2 nch e n, ne, nf, d⟩
theorem Inv.un {t' : Nat} (I : Inv X pins σ H s) (u : Un X.fs [] H H' s.heap h') (hok : HOk X.prog X.w H' h') : Inv X pins σ H' { s with heap := h', toks := t' } := by
 obtain ⟨m, ⟨o, es, ep, ho, r⟩, _⟩ := id I.loc
 obtain ⟨sl, hL⟩ := u.any ho I.free (by simp)
 exact I.step (g' := s.gens) (d' := s.drawn) (ch := []) (fun _ z => nomatch z) (fun b o _ hb _ e n => u.keep b o e n hb (by simp)) (fun b o _ hb _ e n => u.slot b o e n hb (by simp)) (fun b o _ e n => u.free b o e n (by simp)) (fun b o _ e => u.there b o e (by simp)) u.tups u.frzs u.tbls (fun m' hm => by
  obtain ⟨o', es', ep', ho', r'⟩ := hm
  rw [ho] at ho'; cases ho'
  exact ⟨_, es', ep', hL, r'⟩) hok I.bare
theorem Inv.call {g' : Array GenState} {t' : Nat} {d' : Drawn} {ch : List Addr} (I : Inv X pins σ H s) (u : Un (frs X.stack) ch H H' s.heap h') (hok : HOk X.prog X.w H' h') (hg : AllBare g')
  (hch : ∀ b ∈ ch, (b ∈ X.ex \/ X.s₀.heap.objs.size <= b) /\ b ≠ X.env.locals /\ (∀ x c, X.env.cells.lookup x = some c -> c ≠ b) /\ ∀ p ∈ X.pn ++ pins, p.1 ≠ b) :
  Inv X pins σ H' { s with heap := h', gens := g', drawn := d', toks := t' } := by
 obtain ⟨m, ⟨o, es, ep, ho, r⟩, _⟩ := id I.loc
 obtain ⟨sl, hL⟩ := u.any ho I.free fun z => (hch _ z).2.1 rfl
 exact I.step (ch := ch) hch (fun b o hL hb hc e n => u.keep b o e n (fun z => (zq17x.mp (I.stkSub b z)).elim hL hb) hc) (fun b o _ _ hc e n => u.any e n hc) (fun b o hc e n => u.free b o e n hc) (fun b o hc e => u.there b o e hc) u.tups u.frzs u.tbls (fun m' hm => by
  obtain ⟨o', es', ep', ho', r'⟩ := hm
  rw [ho] at ho'; cases ho'
  exact ⟨_, es', ep', hL, r'⟩) hok hg
theorem Inv.turned {t' : Nat} {it : Addr} (I : Inv X pins σ H s) (k : ∀ b o, b ≠ it -> s.heap.get? b = some o -> h'.get? b = some o) (hn : H it = none) (hL : it ≠ X.env.locals)
  (h1 : it ∈ X.ex \/ X.s₀.heap.objs.size <= it) (h2 : ∀ x c, X.env.cells.lookup x = some c -> c ≠ it) (h3 : ∀ p ∈ X.pn ++ pins, p.1 ≠ it) : Inv X pins σ H { s with heap := h', toks := t' } := by
 have nit : ∀ b u, H b = some u -> b ≠ it := fun b u e z => by rw [z, hn] at e; cases e
 refine I.step (g' := s.gens) (d' := s.drawn) (ch := [it]) (fun b hb => ?_) (fun b o _ _ hc e _ => k b o (fun z => hc (by simp [z])) e) (fun b o _ _ hc e _ => ⟨o.slots, k b o (fun z => hc (by simp [z])) e⟩) (fun _ _ _ _ n => n)
  (fun b o hc e => ⟨o, k b o (fun z => hc (by simp [z])) e⟩) (fun _ _ e => e) (fun _ _ _ e => e) (fun b ps e => ⟨#[], by rw [e]; simp⟩) (fun m hm => ?_) (fun b u e => ?_) I.bare
 ·have e : b = it := by simpa using hb
  subst e
  exact ⟨h1, hL, h2, h3⟩
 ·obtain ⟨o, es, ep, ho, r⟩ := hm
  exact ⟨o, es, ep, k _ o (zq10x hL) ho, r⟩
 ·refine (I.hok b u e).stay (fun c v hc q => k c v ?_ q) (fun _ q => q) fun _ _ q => q
  rcases hc with z | z
  ·rw [z]; exact nit b u e
  ·exact nit c _ z
theorem Inv.tok (I : Inv X pins σ H s) (t : Nat) : Inv X pins σ H { s with toks := t } := I.un (h' := s.heap) (t' := t) Un.refl I.hok
theorem Inv.kept {t' : Nat} (I : Inv X pins σ H s) (k : ∀ b u, s.heap.get? b = some u -> h'.get? b = some u) : Inv X pins σ H { s with heap := h', toks := t' } := I.un (Un.kept k) (I.hok.kept k)
theorem Inv.laid {a : Addr} {o : HO} {t' : Nat} (I : Inv X pins σ H s) (k : ∀ b u, s.heap.get? b = some u -> h'.get? b = some u) (hp : s.heap.objs.size <= a) (new : ObjOk X.prog X.w (upd H a o) h' a o) :
  Inv X pins σ (upd H a o) { s with heap := h', toks := t' } := I.un (Un.laid k hp (I.hok.fresh hp)) (I.hok.laid k hp new)
theorem Inv.write {x e : Addr} {o : HO} {t' : Nat} (I : Inv X pins σ H s) (mu : Mut (H x)) (he : e = x \/ H e = some (.own x)) (k : ∀ b u, b ≠ e -> s.heap.get? b = some u -> h'.get? b = some u) (heo : ∃ u, h'.get? e = some u)
  (new : ObjOk X.prog X.w (upd H x o) h' x o) : Inv X pins σ (upd H x o) { s with heap := h', toks := t' } := I.un (Un.write mu he k heo) (I.hok.write mu he k heo new)
theorem Inv.pins_of {pins' : List (Addr × Obj)} (I : Inv X pins σ H s) (h : ∀ p ∈ pins', s.heap.get? p.1 = some p.2 /\ H p.1 = none /\ p.1 ≠ X.env.locals /\ p.1 ∉ X.fs /\ ∀ v, p.2.data ≠ .cell v) : Inv X pins' σ H s :=
 ⟨I.ok, I.os, I.bare, I.base, I.loc, I.cell, I.free, I.freeC, fun p hp => (zq29x.mp hp).elim (fun z => I.pin p (zq174x _ z)) (h p), I.hok, I.len⟩
theorem nodup_ix {N : List Str} (hN : N.Nodup) {i j : Nat} {x : Str} (a : N[i]? = some x) (b : N[j]? = some x) : i = j := by
 obtain ⟨h1, e1⟩ := zq5x.mp a
 obtain ⟨h2, e2⟩ := zq5x.mp b
 exact (List.getElem_inj hN).mp (e1.trans e2.symm)
theorem store_ok2 {M : Model} {A : Around} {E : Value -> Shared -> Prop} {i : Nat} {x : Str} {v : V} {u : Value} {Q : Unit -> Shared -> Prop} (I : Inv X pins σ H s) (hN : X.N.Nodup) (hi : X.N[i]? = some x) (hx : Loc X.env.scope x) (r : RelV v u)
  (h : ∀ s', Inv X pins (σ.set i (some v)) H s' -> (∃ a, Heap.SameBut a s.heap s'.heap /\ (a = X.env.locals \/ X.env.cells.lookup x = some a)) -> Q () s') (hf : X.fn x = true \/ X.env.scope.names.lookup x = some .local := by first | exact .inl rfl | exact .inr rfl | assumption) : wpAny M A (storeName X.env x u) Q E s := by
 obtain ⟨m, hn, hl⟩ := id I.loc
 have hcls : (X.env.scope.kind == .class || (X.env.scope.kind == .module && X.env.locals != X.env.globals)) = false := by rw [I.ok.kind]; rfl
 have hiσ : i < σ.length := by rw [I.len]; exact (zq5x.mp hi).1
 have cne := I.cne
 have tracked : ∀ {a : Addr} {h' : Heap}, (∃ o, s.heap.get? a = some o /\ H a = none) -> Heap.SameBut a s.heap h' -> HOk X.prog X.w H h' := fun {a h'} ha hs b ob e => by
  obtain ⟨_, _, hfree⟩ := ha
  refine (I.hok b ob e).stay (fun c w' hc q => (hs.2 c ?_).trans q) (fun _ q => q) fun _ _ q => q
  rintro rfl
  rcases hc with rfl | hc
  ·rw [hfree] at e; cases e
  ·rw [hfree] at hc; cases hc
 rcases hx with hk | hk
 ·refine wpAny_storeName_local hk hn (fun h' hn' hs => ?_) hcls
  obtain ⟨oL, _, _, hoL, _⟩ := id hn
  refine h _ ⟨I.ok, I.os, I.bare, ⟨fun b o e n hb hx => ?_, fun b o e n hb hx => ?_, I.base.free, fun b o e hx => ?_, I.base.tups, I.base.frzs, I.base.tbls⟩, ⟨_, hn', fun j y v' e1 e2 e3 => ?_⟩, fun y c e => ?_, I.free, I.freeC, fun p hp => ?_, tracked ⟨oL, hoL, I.free⟩ hs, by simpa using I.len⟩ ⟨_, hs, .inl rfl⟩
  ·exact (hs.2 b (zq12x (zq23x (zq6x e) I.ok.above))).trans (I.base.keep b o e n hb hx)
  ·obtain ⟨sl, e1⟩ := I.base.slot b o e n hb hx
   exact ⟨sl, (hs.2 b (zq12x (zq23x (zq6x e) I.ok.above))).trans e1⟩
  ·obtain ⟨o', e1⟩ := I.base.there b o e hx
   exact ⟨o', (hs.2 b (zq12x (zq23x (zq6x e) I.ok.above))).trans e1⟩
  ·by_cases hj : j = i
   ·subst hj
    rw [hi] at e1; cases e1
    rw [zq30x hiσ] at e2
    cases e2
    exact ⟨u, r, .inl ⟨hk, by simp⟩⟩
   ·rw [zq19x (zq10x hj)] at e2
    obtain ⟨u', r', q⟩ := hl j y v' e1 e2 e3
    refine ⟨u', r', ?_⟩
    rcases q with ⟨k, e⟩ | ⟨k, c, e, z⟩
    ·refine .inl ⟨k, ?_⟩
     have : y ≠ x := fun e => hj (nodup_ix hN e1 (e ▸ hi))
     simp [this, e]
    ·exact .inr ⟨k, c, e, z.sameBut hs (cne y c e)⟩
  ·obtain ⟨w', z⟩ := I.cell y c e
   exact ⟨w', z.sameBut hs (cne y c e)⟩
  ·obtain ⟨e, n, ne, nf, d⟩ := I.pin p hp
   exact ⟨(hs.2 p.1 ne).trans e, n, ne, nf, d⟩
 ·have hfn : X.fn x = true := by
   rcases hf with z | z
   ·exact z
   ·rw [z] at hk; cases hk
  obtain ⟨c, hc⟩ := I.ok.has x (.inl hk)
  obtain ⟨w', z⟩ := I.cell x c hc
  refine wpAny_storeName_cell I.ok.kind hk hc z (fun h' hc' hs => ?_)
  obtain ⟨oc, hoc, hocd⟩ := id z
  refine h { s with heap := h' } ⟨I.ok, I.os, I.bare, ⟨fun b o e n hb hx => ?_, fun b o e n hb hx => ?_, I.base.free, fun b o e hx => ?_, I.base.tups, I.base.frzs, I.base.tbls⟩, ⟨m, hn.sameBut hs (zq10x (cne x c hc)), fun j y v' e1 e2 e3 => ?_⟩, fun y c' e => ?_, I.free, I.freeC, fun p hp => ?_, tracked ⟨oc, hoc, I.freeC x c hc⟩ hs, by simpa using I.len⟩ ⟨c, hs, .inr hc⟩
  ·exact (hs.2 b (zq12x (zq23x (zq6x e) (I.ok.cab x c hfn hc)))).trans (I.base.keep b o e n hb hx)
  ·obtain ⟨sl, e1⟩ := I.base.slot b o e n hb hx
   exact ⟨sl, (hs.2 b (zq12x (zq23x (zq6x e) (I.ok.cab x c hfn hc)))).trans e1⟩
  ·obtain ⟨o', e1⟩ := I.base.there b o e hx
   exact ⟨o', (hs.2 b (zq12x (zq23x (zq6x e) (I.ok.cab x c hfn hc)))).trans e1⟩
  ·by_cases hj : j = i
   ·subst hj
    rw [hi] at e1; cases e1
    rw [zq30x hiσ] at e2
    cases e2
    exact ⟨u, r, .inr ⟨.inl hk, c, hc, hc'⟩⟩
   ·rw [zq19x (zq10x hj)] at e2
    obtain ⟨u', r', q⟩ := hl j y v' e1 e2 e3
    refine ⟨u', r', ?_⟩
    rcases q with q | ⟨k, c', e, z'⟩
    ·exact .inl q
    ·refine .inr ⟨k, c', e, z'.sameBut hs ?_⟩
     rintro rfl
     exact hj (nodup_ix hN e1 (I.ok.inj _ _ _ e hc ▸ hi))
  ·by_cases hcc : c' = c
   ·subst hcc; exact ⟨_, hc'⟩
   ·obtain ⟨w2, z2⟩ := I.cell y c' e
    exact ⟨w2, z2.sameBut hs hcc⟩
  ·obtain ⟨e, n, ne, nf, d⟩ := I.pin p hp
   refine ⟨(hs.2 p.1 ?_).trans e, n, ne, nf, d⟩
   intro q
   rw [q, hoc] at e
   have q' : oc = p.2 := zq37x e
   exact d w' (by rw [<- q']; exact hocd)
theorem store_ok {M : Model} {A : Around} {E : Value -> Shared -> Prop} {i : Nat} {x : Str} {v : V} {u : Value} {Q : Unit -> Shared -> Prop} (I : Inv X pins σ H s) (hN : X.N.Nodup) (hi : X.N[i]? = some x) (hx : Loc X.env.scope x) (r : RelV v u)
  (h : ∀ s', Inv X pins (σ.set i (some v)) H s' -> Q () s') (hf : X.fn x = true \/ X.env.scope.names.lookup x = some .local := by first | exact .inl rfl | exact .inr rfl | assumption) : wpAny M A (storeName X.env x u) Q E s :=
 store_ok2 I hN hi hx r (fun s' I' _ => h s' I') hf
theorem Inv.call' {s' : Shared} {ch : List Addr} (I : Inv X pins σ H s) (ho : s'.os = s.os) (u : Un (frs X.stack) ch H H' s.heap s'.heap) (hok : HOk X.prog X.w H' s'.heap) (hg : AllBare s'.gens)
  (hch : ∀ b ∈ ch, (b ∈ X.ex \/ X.s₀.heap.objs.size <= b) /\ b ≠ X.env.locals /\ (∀ x c, X.env.cells.lookup x = some c -> c ≠ b) /\ ∀ p ∈ X.pn ++ pins, p.1 ≠ b) : Inv X pins σ H' s' := by
 obtain ⟨h', g', d', t', o'⟩ := s'
 have e : o' = s.os := ho
 subst e
 exact I.call (g' := g') (t' := t') (d' := d') u hok hg hch
end
abbrev XK := Value -> Option Addr -> Hp -> Prop
abbrev St := List (Option V)
abbrev VK := V -> Hp -> Prop
abbrev TE := St -> Hp -> VK -> Prop
abbrev TT := St -> Hp -> (Bool -> Hp -> Prop) -> Prop
abbrev TA := St -> Hp -> (List V -> Hp -> Prop) -> Prop
structure Ends where
 nx : St -> Hp -> Prop
 rt : VK
 bk : St -> Hp -> Prop := fun _ _ => False
 ct : St -> Hp -> Prop := fun _ _ => False
abbrev TS := Ends -> St -> Hp -> Prop
def EP (X : Cx) (pins : List (Addr × Obj)) (σ : St) (Q : VK) (u : Value) (s' : Shared) : Prop := ∃ v H', Inv X pins σ H' s' /\ RelV v u /\ Q v H'
def TP (X : Cx) (pins : List (Addr × Obj)) (σ : St) (Q : Bool -> Hp -> Prop) (b : Bool) (s' : Shared) : Prop := ∃ H', Inv X pins σ H' s' /\ Q b H'
def AP (X : Cx) (pins : List (Addr × Obj)) (σ : St) (Q : List V -> Hp -> Prop) (us : List Value) (s' : Shared) : Prop := ∃ vs H', Inv X pins σ H' s' /\ Vals vs us /\ Q vs H'
def SP (X : Cx) (pins : List (Addr × Obj)) (D : Ends) (f : Flow) (s' : Shared) : Prop :=
 match f with
 | .next => ∃ σ' H', Inv X pins σ' H' s' /\ D.nx σ' H'
 | .brk => ∃ σ' H', Inv X pins σ' H' s' /\ D.bk σ' H'
 | .cont => ∃ σ' H', Inv X pins σ' H' s' /\ D.ct σ' H'
 | .ret u => ∃ v σ' H', Inv X pins σ' H' s' /\ RelV v u /\ D.rt v H'
def PE (X : Cx) (e : Expr) (t : TE) : Prop :=
 ∀ (pins : List (Addr × Obj)) (s : Shared) (σ : St) (H : Hp) (Q : VK), Inv X pins σ H s -> t σ H Q -> wpAny (model X.prog X.w) X.A (eval e X.env) (EP X pins σ Q) X.xe s
def PT (X : Cx) (e : Expr) (t : TT) : Prop :=
 ∀ (pins : List (Addr × Obj)) (s : Shared) (σ : St) (H : Hp) (Q : Bool -> Hp -> Prop), Inv X pins σ H s -> t σ H Q -> wpAny (model X.prog X.w) X.A (isTrue e X.env (eval e X.env)) (TP X pins σ Q) X.xe s
def PW (X : Cx) (e : Expr) (t : TT) : Prop :=
 ∀ (whole : Sem Value) (pins : List (Addr × Obj)) (s : Shared) (σ : St) (H : Hp) (Q : Bool -> Hp -> Prop), Inv X pins σ H s -> t σ H Q -> wpAny (model X.prog X.w) X.A (isTrue e X.env whole) (TP X pins σ Q) X.xe s
theorem PW.pt {X : Cx} {e : Expr} {t : TT} (h : PW X e t) : PT X e t := h _
def PA (X : Cx) (es : List Expr) (t : TA) : Prop :=
 ∀ (pos : Pos) (pins : List (Addr × Obj)) (s : Shared) (σ : St) (H : Hp) (Q : List V -> Hp -> Prop), Inv X pins σ H s -> t σ H Q -> wpAny (model X.prog X.w) X.A (spliced (backTo pos (starEach es X.env))) (AP X pins σ Q) X.xe s
def PS (X : Cx) (st : Stmt) (t : TS) : Prop :=
 ∀ (pins : List (Addr × Obj)) (s : Shared) (σ : St) (H : Hp) (D : Ends), Inv X pins σ H s -> t D σ H -> wpAny (model X.prog X.w) X.A (exec st X.env) (SP X pins D) X.xe s
def PSs (X : Cx) (st : List Stmt) (t : TS) : Prop :=
 ∀ (pins : List (Addr × Obj)) (s : Shared) (σ : St) (H : Hp) (D : Ends), Inv X pins σ H s -> t D σ H -> wpAny (model X.prog X.w) X.A (execs st X.env) (SP X pins D) X.xe s
theorem thn {α : Type} {t : Sem α} {Q Q' : α -> Shared -> Prop} {M : Model} {A : Around} {E : Value -> Shared -> Prop} {s : Shared} (h : wpAny M A t Q E s) (hQ : ∀ a s, Q a s -> Q' a s) : wpAny M A t Q' E s := wpAny_mono h hQ fun _ _ x => x
section
variable {X : Cx}
theorem bin {a b : Expr} {ta tb : TE} (ha : PE X a ta) (hb : PE X b tb) {pins : List (Addr × Obj)} {s : Shared} {σ : St} {H : Hp} {R : V -> V -> Hp -> Prop} (I : Inv X pins σ H s) (h : ta σ H fun x H1 => tb σ H1 fun y H2 => R x y H2)
  {α : Type} {Q : α -> Shared -> Prop} {f : Value -> Value -> Sem α}
  (hf : ∀ v u s2 x y H2, Inv X pins σ H2 s2 -> RelV x v -> RelV y u -> R x y H2 -> wpAny (model X.prog X.w) X.A (f v u) Q X.xe s2) :
  wpAny (model X.prog X.w) X.A (eval a X.env) (fun v s₁ => wpAny (model X.prog X.w) X.A (eval b X.env) (fun u s₂ => wpAny (model X.prog X.w) X.A (f v u) Q X.xe s₂) X.xe s₁) X.xe s := by
 refine thn (ha pins s σ H _ I h) fun v s1 ⟨x, H1, I1, r1, q1⟩ => ?_
 refine thn (hb pins s1 σ H1 _ I1 q1) fun u s2 ⟨y, H2, I2, r2, q2⟩ => ?_
 exact hf v u s2 x y H2 I2 r1 r2 q2
def tVar (i : Nat) : TE := fun σ H Q => ∃ v, σ[i]? = some (some v) /\ Q v H
def tC (v : V) : TE := fun _ H Q => Q v H
theorem pe_var {i : Nat} {x : Str} {pos : Pos} (hN : X.N[i]? = some x) (hv : Vis X.env.scope x) (hd : (x == ("__debug__" : Str)) = false := by decide) (hcd : (x == ("__classdict__" : Str)) = false := by decide) : PE X (.Name x pos) (tVar i) := by
 intro pins s σ H Q I h
 obtain ⟨v, e, h⟩ := h
 obtain ⟨m, hn, hl⟩ := I.loc
 obtain ⟨u, r, l⟩ := hl i x v hN e hv
 have fin : EP X pins σ Q u s := ⟨v, H, I, r, h⟩
 rcases l with ⟨hk, hm⟩ | ⟨hk, c, hc, hcell⟩
 ·exact wpAny_Name (wpAny_loadName_local I.ok.kind hk hn hm fin) hd
 ·rcases hk with hk | hk
  ·exact wpAny_Name (wpAny_loadName_cell I.ok.kind hk hc hcell fin) hd
  ·exact wpAny_Name (wpAny_loadName_free I.ok.kind hk hc hcell fin hcd) hd
theorem pe_int {i j pos} : PE X (.Constant (.int i) j pos) (tC (.int i)) := fun _ _ _ H _ I h => wpAny_Constant_int ⟨.int i, H, I.tok _, ⟨_, rfl⟩, h⟩
theorem pe_bl {b j pos} : PE X (.Constant (.bool b) j pos) (tC (.bl b)) := fun _ _ _ H _ I h => Constant_bool ⟨.bl b, H, I, rfl, h⟩
theorem pe_non {j pos} : PE X (.Constant .none j pos) (tC .non) := fun _ _ _ H _ I h => Constant_none ⟨.non, H, I, rfl, h⟩
def Gl (X : Cx) (x : Str) : Prop := X.env.kindOf x = some .globalImplicit
theorem ld_glob {E : Value -> Shared -> Prop} {pins : List (Addr × Obj)} {s : Shared} {σ : St} {H : Hp} {x : Str} {u : Value} {pos : Pos} {Q : Value -> Shared -> Prop} (I : Inv X pins σ H s) (hg : Gl X x) (hm : X.mg x = some u) (h : Q u s)
  (hd : (x == ("__debug__" : Str)) = false := by decide) : wpAny (model X.prog X.w) X.A (eval (.Name x pos) X.env) Q E s :=
 zq175x I.ok.kind hg (Calls.loadGlobal_global (by rw [I.ok.glob]; exact I.mod.glob.keeps I.bk) hm h) hd
theorem ld_blt {E : Value -> Shared -> Prop} {pins : List (Addr × Obj)} {s : Shared} {σ : St} {H : Hp} {x : Str} {u : Value} {pos : Pos} {Q : Value -> Shared -> Prop} (I : Inv X pins σ H s) (hg : Gl X x) (hm : X.mg x = none) (hv : bootBuiltins x = some u) (h : Q u s)
  (hn : x ≠ "__name__" := by decide) (hd : (x == ("__debug__" : Str)) = false := by decide) : wpAny (model X.prog X.w) X.A (eval (.Name x pos) X.env) Q E s := by
 obtain ⟨mb, h1, h2⟩ := I.mod.blt
 exact zq175x I.ok.kind hg (Calls.loadGlobal_builtin (by rw [I.ok.glob]; exact I.mod.glob.keeps I.bk) hm (by rw [I.ok.blt]; exact h1.keeps I.bk) ((h2 x hn).trans hv) h) hd
theorem pe_bltn {x : Str} {v : V} {u : Value} {pos : Pos} (hg : Gl X x) (hm : X.mg x = none) (hv : bootBuiltins x = some u) (r : RelV v u) (hn : x ≠ "__name__" := by decide) (hd : (x == ("__debug__" : Str)) = false := by decide) : PE X (.Name x pos) (tC v) :=
 fun _ _ _ H _ I h => ld_blt I hg hm hv ⟨v, H, I, r, h⟩ hn hd
variable {a b : Expr} {ta tb : TE} {pos : Pos}
def PC (X : Cx) (op : CmpOp) (a b : Expr) (t : TE) : Prop :=
 ∀ (pins : List (Addr × Obj)) (s : Shared) (σ : St) (H : Hp) (Q : VK), Inv X pins σ H s -> t σ H Q ->
  wpAny (model X.prog X.w) X.A (eval a X.env) (fun v s₁ => wpAny (model X.prog X.w) X.A (eval b X.env) (fun u s₂ => wpAny (model X.prog X.w) X.A (compareOp op v u) (EP X pins σ Q) X.xe s₂) X.xe s₁) X.xe s
variable {tA tB' : TT} {rest : List Expr}
def tAnd (t u : TT) : TT := fun σ H Q => t σ H fun c H1 => if c = true then u σ H1 Q else Q false H1
def tOr (t u : TT) : TT := fun σ H Q => t σ H fun c H1 => if c = true then Q true H1 else u σ H1 Q
def tNot (t : TT) : TT := fun σ H Q => t σ H fun c H1 => Q (!c) H1
theorem pw_and1 (ha : PT X a tA) : PW X (.BoolOp .And [a] pos) tA := by
 intro wh pins s σ H Q I h
 refine isTrue_and (thn (ha pins s σ H Q I h) fun c s1 e => ?_)
 cases c with
 | true => exact isTrue_and_nil e
 | false => exact e
theorem pw_or1 (ha : PT X a tA) : PW X (.BoolOp .Or [a] pos) tA := by
 intro wh pins s σ H Q I h
 refine isTrue_or (thn (ha pins s σ H Q I h) fun c s1 e => ?_)
 cases c with
 | false => exact isTrue_or_nil e
 | true => exact e
theorem pw_and (ha : PT X a tA) (hb : PW X (.BoolOp .And (b :: rest) pos) tB') : PW X (.BoolOp .And (a :: b :: rest) pos) (tAnd tA tB') := by
 intro wh pins s σ H Q I h
 refine isTrue_and (thn (ha pins s σ H _ I h) fun c s1 ⟨H1, I1, q1⟩ => ?_)
 cases c with
 | true => exact hb wh pins s1 σ H1 Q I1 q1
 | false => exact ⟨H1, I1, q1⟩
theorem pw_or (ha : PT X a tA) (hb : PW X (.BoolOp .Or (b :: rest) pos) tB') : PW X (.BoolOp .Or (a :: b :: rest) pos) (tOr tA tB') := by
 intro wh pins s σ H Q I h
 refine isTrue_or (thn (ha pins s σ H _ I h) fun c s1 ⟨H1, I1, q1⟩ => ?_)
 cases c with
 | true => exact ⟨H1, I1, q1⟩
 | false => exact hb wh pins s1 σ H1 Q I1 q1
theorem pt_not (ha : PT X a tA) : PT X (.UnaryOp .Not a pos) (tNot tA) := by
 intro pins s σ H Q I h
 exact isTrue_not (ha pins s σ H (fun c H1 => Q (!c) H1) I h)
def tAndV (ta tb : TE) : TE := fun σ H Q => ta σ H fun x H1 => ∃ c, x = .bl c /\ if c = true then tb σ H1 Q else Q (.bl false) H1
theorem pe_one {op} {t : TE} (h : PE X a t) : PE X (.BoolOp op [a] pos) t := fun pins s σ H Q I hw => BoolOp_one (h pins s σ H Q I hw)
theorem pe_and (ha : PE X a ta) (hb : PE X (.BoolOp .And (b :: rest) pos) tb) : PE X (.BoolOp .And (a :: b :: rest) pos) (tAndV ta tb) := by
 intro pins s σ H Q I h
 refine BoolOp_and (thn (ha pins s σ H _ I h) fun v s1 ⟨x, H1, I1, r1, q1⟩ => ?_)
 obtain ⟨c, rfl, q1⟩ := q1
 cases r1
 refine wpAny_truthy_bool ?_
 cases c with
 | true => exact hb pins s1 σ H1 Q I1 q1
 | false => exact ⟨.bl false, H1, I1, rfl, q1⟩
def tIf (t : TT) (ta tb : TE) : TE := fun σ H Q => t σ H fun c H1 => if c = true then ta σ H1 Q else tb σ H1 Q
theorem pe_ifExp {c : Expr} (hc : PT X c tA) (ha : PE X a ta) (hb : PE X b tb) : PE X (.IfExp c a b pos) (tIf tA ta tb) := by
 intro pins s σ H Q I h
 refine wpAny_IfExp (thn (hc pins s σ H _ I h) fun d s1 ⟨H1, I1, q1⟩ => ?_)
 cases d with
 | true => exact ha pins s1 σ H1 Q I1 q1
 | false => exact hb pins s1 σ H1 Q I1 q1
end
def SqL (K : PySem.W.Frag) (H : Hp) (a : Addr) (xs : List V) : Prop :=
 Rd H a (.lst xs) \/
  ∃ (o : Obj) (its : Array Value) (n : Nat), K.lookup a = some o /\ o.cls = .type "list" /\ o.dict = none /\ o.data = .seq its n /\ its.size <= sizeLine /\ Vals xs its.toList
def SqT (K : PySem.W.Frag) (H : Hp) (a : Addr) (xs : List V) : Prop :=
 Rd H a (.tup xs) \/
  ∃ (o : Obj) (its : Array Value) (n : Nat), K.lookup a = some o /\ o.cls = .type "tuple" /\ o.data = .seq its n /\ its.size <= sizeLine /\ Vals xs its.toList
def absV : Value -> Option V
 | .none => some .non
 | .bool b => some (.bl b)
 | .int i _ => some (.int i)
 | .str x _ => some (.str x)
 | .bytes b _ => some (.byt b)
 | .float b _ => some (.flt b)
 | .ref a => some (.ref a)
 | .type n => some (.ty n)
 | _ => none
theorem RelV.abs {x : V} {u : Value} (r : RelV x u) : absV u = some x := by
 cases x with
 | non => cases r; rfl
 | bl _ => cases r; rfl
 | int _ => obtain ⟨t, rfl⟩ := r; rfl
 | str _ => obtain ⟨t, rfl⟩ := r; rfl
 | byt _ => obtain ⟨t, rfl⟩ := r; rfl
 | flt _ => obtain ⟨t, rfl⟩ := r; rfl
 | ref _ => cases r; rfl
 | ty _ => cases r; rfl
theorem RelV.inj {x y : V} {u : Value} (r : RelV x u) (q : RelV y u) : x = y := zq37x (r.abs.symm.trans q.abs)
theorem Vals.inj {xs ys : List V} {us : List Value} (h : Vals xs us) (k : Vals ys us) : xs = ys := by
 induction h generalizing ys with
 | nil => cases k; rfl
 | cons r t ih => cases k with | cons r' t' => rw [r.inj r', ih t']
section
variable {X : Cx} {pins : List (Addr × Obj)} {σ : St} {H : Hp} {s : Shared} {a : Addr} {xs ys : List V}
theorem SqL.of {K : PySem.W.Frag} (h : H a = some (.lst xs)) : SqL K H a xs := .inl (.inl h)
theorem SqT.of {K : PySem.W.Frag} (h : H a = some (.tup xs)) : SqT K H a xs := .inl (.inl h)
theorem Inv.list (I : Inv X pins σ H s) (h : SqL X.K H a xs) : ∃ its : List Value, Vals xs its /\ PlainL s.heap a its.toArray /\ xs.length <= sizeLine := by
 rcases h with h | ⟨o, its, n, hk, hc, hd, hs, hz, r⟩
 ·obtain ⟨z, its, n, r, e⟩ := h.ok I.hok
  exact ⟨its, r, ⟨_, n, e, rfl, rfl, rfl⟩, z⟩
 ·refine ⟨its.toList, r, ⟨o, n, I.kIn a o hk, hc, hd, by simpa using hs⟩, ?_⟩
  have e := r.length
  simp only [zq44x] at e
  omega
theorem Inv.tuple (I : Inv X pins σ H s) (h : SqT X.K H a xs) : ∃ its : List Value, Vals xs its /\ IsTup s.heap a its.toArray /\ xs.length <= sizeLine := by
 rcases h with h | ⟨o, its, n, hk, hc, hs, hz, r⟩
 ·obtain ⟨z, its, r, p⟩ := h.ok I.hok
  exact ⟨its, r, p, z⟩
 ·refine ⟨its.toList, r, ⟨o, I.kIn a o hk, hc, n, by simpa using hs⟩, ?_⟩
  have e := r.length
  simp only [zq44x] at e
  omega
theorem Inv.list_inj (I : Inv X pins σ H s) (h : SqL X.K H a xs) (h' : SqL X.K H a ys) : xs = ys := by
 obtain ⟨its, r, ⟨o, n, e, _, _, d⟩, _⟩ := I.list h
 obtain ⟨its', r', ⟨o', n', e', _, _, d'⟩, _⟩ := I.list h'
 rw [e] at e'; cases e'
 rw [d] at d'
 injection d' with d1 _
 have : its = its' := by simpa using congrArg Array.toList d1
 subst this
 exact r.inj r'
end
abbrev Cx.wish (X : Cx) (E : Value -> Shared -> Prop) : Cx := { X with xe := E }
abbrev Cx.nox (X : Cx) : Cx := X.wish fun _ _ => False
theorem Cx.Ok.wish {X : Cx} (ok : X.Ok) (E : Value -> Shared -> Prop) : (X.wish E).Ok :=
 ⟨ok.mod, ok.kind, ok.glob, ok.blt, ok.above, ok.inj, ok.has, ok.cab, ok.hd, ok.frames, ok.stk, ok.exf, ok.bs, ok.bsz, ok.noex, ok.exfs, ok.funs, ok.frf⟩
theorem Cx.Ok.unwish {X : Cx} {E : Value -> Shared -> Prop} (ok : (X.wish E).Ok) : X.Ok :=
 ⟨ok.mod, ok.kind, ok.glob, ok.blt, ok.above, ok.inj, ok.has, ok.cab, ok.hd, ok.frames, ok.stk, ok.exf, ok.bs, ok.bsz, ok.noex, ok.exfs, ok.funs, ok.frf⟩
section
variable {X : Cx} {pins : List (Addr × Obj)} {σ : St} {H : Hp} {s : Shared} {E : Value -> Shared -> Prop}
theorem Inv.wish (I : Inv X pins σ H s) (E : Value -> Shared -> Prop) : Inv (X.wish E) pins σ H s := ⟨I.ok.wish E, I.os, I.bare, I.base, I.loc, I.cell, I.free, I.freeC, I.pin, I.hok, I.len⟩
theorem Inv.unwish (I : Inv (X.wish E) pins σ H s) : Inv X pins σ H s := ⟨I.ok.unwish, I.os, I.bare, I.base, I.loc, I.cell, I.free, I.freeC, I.pin, I.hok, I.len⟩
theorem SP.unwish {D : Ends} {f : Flow} {s' : Shared} (h : SP (X.wish E) pins D f s') : SP X pins D f s' := by
 cases f with
 | next => obtain ⟨σ', H', I, q⟩ := h; exact ⟨σ', H', I.unwish, q⟩
 | brk => obtain ⟨σ', H', I, q⟩ := h; exact ⟨σ', H', I.unwish, q⟩
 | cont => obtain ⟨σ', H', I, q⟩ := h; exact ⟨σ', H', I.unwish, q⟩
 | ret u => obtain ⟨v, σ', H', I, r, q⟩ := h; exact ⟨v, σ', H', I.unwish, r, q⟩
theorem PSs.nox {st : List Stmt} {t : TS} (h : PSs X.nox st t) : PSs X st t := fun pins s σ H D I hw =>
 wpAny_mono (h pins s σ H D (I.wish _) hw) (fun _ _ q => q.unwish) fun _ _ z => False.elim z
end
section
variable {X : Cx} {st : Stmt} {rest : List Stmt} {t u : TS} {e : Expr} {te : TE} {pos : Pos}
def tNext : TS := fun D σ H => D.nx σ H
def tSeq (t u : TS) : TS := fun D σ H => t { D with nx := u D } σ H
theorem pss_nil : PSs X [] tNext := fun _ _ σ H _ I h => wpAny_execs_nil ⟨σ, H, I, h⟩
theorem pss_cons (h1 : PS X st t) (h2 : PSs X rest u) : PSs X (st :: rest) (tSeq t u) := by
  intro pins s σ H D I h
  refine wpAny_execs_cons (thn (h1 pins s σ H { D with nx := u D } I h) fun f s1 q => ?_)
  cases f with
  | next =>
    obtain ⟨σ', H', I', q⟩ := q
    exact h2 pins s1 σ' H' D I' q
  | ret v => exact q
  | brk => exact q
  | cont => exact q
theorem pss_one (h1 : PS X st t) : PSs X [st] t := by
 intro pins s σ H D I h
 refine wpAny_execs_cons (thn (h1 pins s σ H D I h) fun f s1 q => ?_)
 cases f with
 | next => exact wpAny_execs_nil q
 | ret v => exact q
 | brk => exact q
 | cont => exact q
def tBreak : TS := fun D σ H => D.bk σ H
def tCont : TS := fun D σ H => D.ct σ H
theorem Inv.quiet {pins : List (Addr × Obj)} {σ : St} {H : Hp} {s : Shared} (I : Inv X pins σ H s) : interactive X.env = false := by simp [interactive, I.ok.kind]
def tDrop (te : TE) : TS := fun D σ H => te σ H fun _ H1 => D.nx σ H1
theorem ps_expr (he : PE X e te) (hs : swapsWith e none pos.line X.env = pure false := by rfl) : PS X (.Expr e pos) (tDrop te) := by
 intro pins s σ H D I h
 exact wpAny_Expr_any (thn (he pins s σ H _ I h) fun v s1 ⟨x, H1, I1, r1, q1⟩ => ⟨σ, H1, I1, q1⟩) I.quiet hs
def tRet (te : TE) : TS := fun D σ H => te σ H D.rt
theorem ps_ret (he : PE X e te) : PS X (.Return (some e) pos) (tRet te) := by
 intro pins s σ H D I h
 exact wpAny_Return_some (thn (he pins s σ H _ I h) fun v s1 ⟨x, H1, I1, r1, q1⟩ => ⟨x, σ, H1, I1, r1, q1⟩)
def tIfS (c : TT) (t u : TS) : TS := fun D σ H => c σ H fun b H1 => if b = true then t D σ H1 else u D σ H1
theorem ps_if {c : Expr} {a b : List Stmt} {tc : TT} (hc : PT X c tc) (ha : PSs X a t) (hb : PSs X b u) : PS X (.If c a b pos) (tIfS tc t u) := by
 intro pins s σ H D I h
 refine wpAny_If (thn (hc pins s σ H _ I h) fun d s1 ⟨H1, I1, q1⟩ => ?_)
 cases d with
 | true => exact ha pins s1 σ H1 D I1 q1
 | false => exact hb pins s1 σ H1 D I1 q1
end
abbrev TG := V -> St -> Hp -> (St -> Hp -> Prop) -> Prop
abbrev TGs := List V -> St -> Hp -> (St -> Hp -> Prop) -> Prop
def PG (X : Cx) (target : Expr) (t : TG) : Prop :=
 ∀ (pins : List (Addr × Obj)) (s : Shared) (σ : St) (H : Hp) (v : V) (u : Value) (Q : St -> Hp -> Prop), Inv X pins σ H s -> RelV v u -> t v σ H Q ->
  wpAny (model X.prog X.w) X.A (assign target X.env u) (fun _ s' => ∃ σ' H', Inv X pins σ' H' s' /\ Q σ' H') X.xe s
def PGs (X : Cx) (ts : List Expr) (t : TGs) : Prop :=
 ∀ (pins : List (Addr × Obj)) (s : Shared) (σ : St) (H : Hp) (vs : List V) (us : List Value) (Q : St -> Hp -> Prop), Inv X pins σ H s -> Vals vs us -> t vs σ H Q ->
  wpAny (model X.prog X.w) X.A (assignInOrder ((assignEach ts X.env).map (·.2)) us) (fun _ s' => ∃ σ' H', Inv X pins σ' H' s' /\ Q σ' H') X.xe s
abbrev TSet := V -> V -> V -> Hp -> (Hp -> Prop) -> Prop
def PSet (X : Cx) (t : TSet) : Prop :=
 ∀ (pins : List (Addr × Obj)) (s : Shared) (σ : St) (H : Hp) (o i v : V) (ov iv u : Value) (Q : Hp -> Prop), Inv X pins σ H s -> RelV o ov -> RelV i iv -> RelV v u -> t o i v H Q ->
  wpAny (model X.prog X.w) X.A (setItem ov iv u) (fun _ s' => ∃ H', Inv X pins σ H' s' /\ Q H') X.xe s
section
variable {X : Cx} {pos : Pos}
def gName (i : Nat) : TG := fun v σ H Q => Q (σ.set i (some v)) H
theorem pg_name {i : Nat} {x : Str} (hN : X.N.Nodup) (hi : X.N[i]? = some x) (hx : Loc X.env.scope x) (hf : X.fn x = true \/ X.env.scope.names.lookup x = some .local := by first | exact .inl rfl | exact .inr rfl | assumption) : PG X (.Name x pos) (gName i) := by
 intro pins s σ H v u Q I r h
 exact wpAny_assign_Name (store_ok I hN hi hx r (fun s' I' => ⟨_, H, I', h⟩) hf)
def gNil : TGs := fun vs σ H Q => vs = [] /\ Q σ H
def gCons (t : TG) (u : TGs) : TGs := fun vs σ H Q => ∃ v r, vs = v :: r /\ t v σ H fun σ' H' => u r σ' H' Q
theorem pgs_nil : PGs X [] gNil := by
 intro pins s σ H vs us Q I r h
 obtain ⟨e, h⟩ := h
 subst e
 cases r
 exact assignInOrder_nil ⟨σ, H, I, h⟩
theorem pgs_cons {e : Expr} {es : List Expr} {t : TG} {u : TGs} (h1 : PG X e t) (h2 : PGs X es u)
    (hs : (assignEach (e :: es) X.env).map (·.2) = assign e X.env :: (assignEach es X.env).map (·.2) := by rfl) : PGs X (e :: es) (gCons t u) := by
  intro pins s σ H vs us Q I r h
  obtain ⟨v, vr, e1, h⟩ := h
  subst e1
  cases r with
  | cons r rr =>
    rw [hs]
    refine assignInOrder_cons (thn (h1 pins s σ H _ _ _ I r h) fun _ s1 ⟨σ1, H1, I1, q1⟩ => ?_)
    exact h2 pins s1 σ1 H1 _ _ Q I1 rr q1
def gTup (K : PySem.W.Frag) (n : Nat) (t : TGs) : TG := fun v σ H Q => ∃ a xs, v = .ref a /\ SqT K H a xs /\ xs.length = n /\ t xs σ H Q
theorem pg_tup {es : List Expr} {k : Nat} {t : TGs} {n : Nat} (hc : X.calm = true) (h : PGs X es t)
  (hn : (assignEach es X.env).length = n := by rfl) (hst : (assignEach es X.env).findIdx? (·.1) = none := by rfl) : PG X (.Tuple es k pos) (gTup X.K n t) := by
 intro pins s σ H v u Q I r hw
 obtain ⟨a, xs, e1, hq, hl, hw⟩ := hw
 subst e1
 cases r
 obtain ⟨its, rv, ht, hz⟩ := I.tuple hq
 refine assign_Tuple_tuple (I.ok.hd hc) ht (by simp [hn, <- hl, rv.length]) hst fun h' hx => ?_
 have I1 : Inv X pins σ H { s with heap := h' } := I.kept (t' := s.toks) fun b o e => hx b o (zq12x (zq6x e)) e
 exact h pins _ σ H xs _ Q I1 (by simpa using rv) hw
def gSub (to ti : TE) (t : TSet) : TG := fun v σ H Q => to σ H fun o H1 => ti σ H1 fun i H2 => t o i v H2 fun H3 => Q σ H3
theorem pg_sub {o i : Expr} {to ti : TE} {t : TSet} (ho : PE X o to) (hi : PE X i ti) (hs : PSet X t)
  (ha : ∀ v, assign (.Subscript o i pos) X.env v = (do
   let ov <- holding [v] (eval o X.env)
   let iv <- holding [v, ov] (eval i X.env)
   standAt pos
   holding [v, ov, iv] (setItem ov iv v)
   release [v, ov, iv] []) := by intro _; rfl) : PG X (.Subscript o i pos) (gSub to ti t) := by
 intro pins s σ H v u Q I r h
 rw [ha]
 refine wpAny_bind (wpAny_holding (thn (ho pins s σ H _ I h) fun ov s1 ⟨x, H1, I1, r1, q1⟩ => ?_))
 refine wpAny_bind (wpAny_holding (thn (hi pins s1 σ H1 _ I1 q1) fun iv s2 ⟨y, H2, I2, r2, q2⟩ => ?_))
 refine wpAny_bind (wpAny_standAt (wpAny_bind (wpAny_holding (thn (hs pins s2 σ H2 x y v ov iv u _ I2 r1 r2 r q2) fun _ s3 ⟨H3, I3, q3⟩ => ?_))))
 exact wpAny_release ⟨σ, H3, I3, q3⟩
def tAsg (te : TE) (g : TG) : TS := fun D σ H => te σ H fun x H1 => g x σ H1 D.nx
theorem ps_asg {tg e : Expr} {te : TE} {g : TG} (he : PE X e te) (hg : PG X tg g) (hs : swapsWithSole [tg] e pos.line X.env = pure false := by rfl) (hw : swappedStores [tg] e X.env = pure none := by rfl)
  (h1 : (assignEach [tg] X.env).map (·.2) = [assign tg X.env] := by rfl) : PS X (.Assign [tg] e pos) (tAsg te g) := by
 intro pins s σ H D I h
 refine wpAny_Assign_stores (thn (he pins s σ H _ I h) fun v s1 ⟨x, H1, I1, r1, q1⟩ => ?_) hs hw
 rw [h1]
 exact thn (hg pins s1 σ H1 x v _ I1 r1 q1) fun _ s2 q => q
theorem ps_set {i : Nat} {x : Str} {e : Expr} {te : TE} {pos' : Pos} (hN : X.N.Nodup) (hi : X.N[i]? = some x) (hx : Loc X.env.scope x) (he : PE X e te) (hs : swapsWith e (some (.Name x pos')) pos.line X.env = pure false := by rfl) (hf : X.fn x = true \/ X.env.scope.names.lookup x = some .local := by first | exact .inl rfl | exact .inr rfl | assumption) :
  PS X (.Assign [.Name x pos'] e pos) (tAsg te (gName i)) := by
 intro pins s σ H D I h
 refine wpAny_Assign_Name (thn (he pins s σ H _ I h) fun v s1 ⟨y, H1, I1, r1, q1⟩ => ?_) hs
 exact store_ok I1 hN hi hx r1 (fun s2 I2 => ⟨_, H1, I2, q1⟩) hf
end
section
variable {X : Cx} {pos : Pos}
def tWhile (c : TT) (tb : TS) : TS := fun D σ H => ∃ W : Nat -> St -> Hp -> Prop, (∃ m, W m σ H) /\ ∀ m σ H, W m σ H ->
 c σ H fun b H1 => if b = true then ∃ N : St -> Hp -> Prop, (∀ σ' H', N σ' H' -> ∃ m', m' < m /\ W m' σ' H') /\ tb { D with nx := N, ct := N, bk := D.nx } σ H1 else D.nx σ H1
theorem ps_while {c : Expr} {body : List Stmt} {tc : TT} {tb : TS} (hp : PassesOwn (model X.prog X.w) X.A X.env X.xe) (hc : PT X c tc) (hb : PSs X body tb) : PS X (.While c body [] pos) (tWhile tc tb) := by
  intro pins s σ H D I h
  obtain ⟨W, ⟨m0, w0⟩, turn⟩ := h
  refine wpAny_While (codeAny_whileLoop (fun n s' => ∃ σ' H', Inv X pins σ' H' s' /\ W n σ' H') ?_ m0 ⟨σ, H, I, w0⟩)
  rintro n s1 ⟨σ1, H1, I1, w1⟩
  refine wpAny_passesOwn hp (thn (hc pins s1 σ1 H1 _ I1 (turn n σ1 H1 w1)) fun b s2 ⟨H2, I2, q2⟩ => ?_)
  cases b with
  | true =>
    obtain ⟨N, hN, q2⟩ := q2
    rw [if_pos rfl]
    refine wpAny_passesOwn hp (thn (hb pins s2 σ1 H2 _ I2 q2) fun f s3 q3 => ?_)
    cases f with
    | next =>
      obtain ⟨σ3, H3, I3, n3⟩ := q3
      obtain ⟨m', hm, w3⟩ := hN σ3 H3 n3
      exact ⟨m', hm, σ3, H3, I3, w3⟩
    | cont =>
      obtain ⟨σ3, H3, I3, n3⟩ := q3
      obtain ⟨m', hm, w3⟩ := hN σ3 H3 n3
      exact ⟨m', hm, σ3, H3, I3, w3⟩
    | brk => exact q3
    | ret v => exact q3
  | false =>
    rw [if_neg zq14x]
    exact wpAny_execs_nil ⟨σ1, H2, I2, q2⟩
end
structure It where
 go : Nat -> Hp -> Prop
 yld : Nat -> Hp -> V -> Hp -> Prop
 stop : Nat -> Hp -> Prop
def FpOk (X : Cx) (pins : List (Addr × Obj)) (H : Hp) (b : Addr) : Prop :=
 H b = none /\ b ≠ X.env.locals /\ b ∉ X.fs /\ (b ∈ X.ex \/ X.s₀.heap.objs.size <= b) /\ (∀ x c, X.env.cells.lookup x = some c -> c ≠ b) /\ ∀ p ∈ X.pn ++ pins, p.1 ≠ b
theorem Inv.fpOk {X : Cx} {pins : List (Addr × Obj)} {σ : St} {H H' : Hp} {s : Shared} {b : Addr} (I : Inv X pins σ H s) (hb : s.heap.objs.size <= b) (hn : H' b = none) : FpOk X pins H' b := by
 refine ⟨hn, zq86x (zq23x I.lt hb), I.nofs hb, .inr (zq24x I.sz hb), fun x c e z => ?_, fun p hp z => ?_⟩
 ·obtain ⟨v, q⟩ := I.cell x c e
  exact absurd (zq23x q.lt (by rw [z]; exact hb)) (zq51x _)
 ·exact absurd (zq23x (zq6x (I.pin p hp).1) (by rw [z]; exact hb)) (zq51x _)
structure Turn (P : Program) (w : World) (K : PySem.W.Frag) (tg : Expr) (J : It) (fp : List Addr) (it : Addr) (tn : Nat -> Heap -> Prop) : Prop where
 mem : it ∈ fp
 obj : ∀ i h, tn i h -> ∀ b ∈ fp, ∃ o, h.get? b = some o /\ ∀ v, o.data ≠ .cell v
 keep : ∀ i h h', tn i h -> (∀ b ∈ fp, ∀ o, h.get? b = some o -> h'.get? b = some o) -> tn i h'
 item : ∀ (X : Cx), X.prog = P -> X.w = w -> X.K = K -> X.calm = true -> ∀ (i : Nat) (pins : List (Addr × Obj)) (s : Shared) (σ : St) (H : Hp) (E : Value -> Shared -> Prop), Inv X pins σ H s -> (∀ b ∈ fp, FpOk X pins H b) -> tn i s.heap -> J.go i H ->
  wpAny (model P w) X.A (pyNext (.ref it)) (fun r s1 => ∃ u, r = some u /\
   wpAny (model P w) X.A (letOwnedTupleGo tg (.ref it) u) (fun _ s2 => ∃ x H', Inv X pins σ H' s2 /\ RelV x u /\ J.yld i H x H' /\ tn (i + 1) s2.heap /\ ∀ b ∈ fp, H' b = none) E s1) E s
 done : ∀ (X : Cx), X.prog = P -> X.w = w -> X.K = K -> X.calm = true -> ∀ (i : Nat) (pins : List (Addr × Obj)) (s : Shared) (σ : St) (H : Hp) (E : Value -> Shared -> Prop), Inv X pins σ H s -> (∀ b ∈ fp, FpOk X pins H b) -> tn i s.heap -> J.stop i H ->
  wpAny (model P w) X.A (pyNext (.ref it)) (fun r s1 => r = none /\ Inv X pins σ H s1) E s
 self : ∀ (A : Around) (i : Nat) (s : Shared) (Q : Value -> Shared -> Prop) (E : Value -> Shared -> Prop), tn i s.heap -> Q (.ref it) s -> wpAny (model P w) A (pyIter (.ref it)) Q E s
abbrev TI := St -> Hp -> (It -> Hp -> Prop) -> Prop
def PIE (X : Cx) (pins : List (Addr × Obj)) (σ : St) (tg : Expr) (R : It -> Hp -> Prop) (itv : Value) (s2 : Shared) : Prop :=
 ∃ (it : Addr) (fp : List Addr) (tn : Nat -> Heap -> Prop) (J : It) (H' : Hp), itv = .ref it /\ Inv X pins σ H' s2 /\ Turn X.prog X.w X.K tg J fp it tn /\ tn 0 s2.heap /\ (∀ b ∈ fp, FpOk X pins H' b) /\ R J H'
def PI (X : Cx) (tg iter : Expr) (wi : TI) : Prop :=
 ∀ (pins : List (Addr × Obj)) (s : Shared) (σ : St) (H : Hp) (R : It -> Hp -> Prop), Inv X pins σ H s -> wi σ H R ->
  wpAny (model X.prog X.w) X.A (eval iter X.env) (fun v s1 => wpAny (model X.prog X.w) X.A (pyIter v) (PIE X pins σ tg R) X.xe s1) X.xe s
theorem go_of {M : Model} {A : Around} {E : Value -> Shared -> Prop} {s : Shared} {tg : Expr} {it : Addr} {u : Value} {o : Obj} {n : String} {vs : Array Value} {Q : Unit -> Shared -> Prop} (ho : s.heap.get? it = some o) (hc : o.cls = .type n) (hd : o.data = .fields vs)
    (hn : ["enumerate", "zip", "dict_itemiterator", "dict_reverseitemiterator", "odict_iterator", "itertools.zip_longest", "itertools.pairwise"].contains n = false) (hQ : Q () s) : wpAny M A (letOwnedTupleGo tg (.ref it) u) Q E s := by
  unfold letOwnedTupleGo
  cases tg <;> first
    | exact wpAny_pure hQ
    | (cases u <;> first
        | exact wpAny_pure hQ
        | (refine wpAny_bind (wpAny_load ho ?_)
           rw [hc, hd]
           show wpAny M A (if (["enumerate", "zip", "dict_itemiterator", "dict_reverseitemiterator", "odict_iterator", "itertools.zip_longest", "itertools.pairwise"].contains n && vs[0]? == some (rawInt _)) = true then _ else _) Q E s
           rw [if_neg (by intro h; rw [hn, Bool.false_and] at h; cases h)]
           exact wpAny_pure hQ))
def Itl (K : PySem.W.Frag) (a : Addr) : It :=
 ⟨fun i H => ∃ xs x, SqL K H a xs /\ xs[i]? = some x, fun i H x H' => H' = H /\ ∀ xs, SqL K H a xs -> xs[i]? = some x, fun i H => ∃ xs, SqL K H a xs /\ xs.length <= i⟩
def Itr (lo : Int) (n : Nat) : It := ⟨fun i _ => i < n, fun i H x H' => H' = H /\ x = .int (lo + i), fun i _ => n <= i⟩
theorem turn_list {P : Program} {w : World} {K : PySem.W.Frag} {tg : Expr} (a it : Addr) : Turn P w K tg (Itl K a) [it] it (fun i h => h.IsListIter it a i) where
 mem := by simp
 obj := fun i h st b hb => by
  have e : b = it := by simpa using hb
  subst e
  obtain ⟨o, e, c, d⟩ := st
  exact ⟨o, e, fun v z => by rw [d] at z; cases z⟩
 keep := fun i h h' st k => st.at fun o e => k it (by simp) o e
 item := by
  intro X hP hw hK hc i pins s σ H E I hf st hg
  subst hP hw hK
  obtain ⟨xs, x, hq, hx⟩ := hg
  obtain ⟨its, rv, p, hz⟩ := I.list hq
  obtain ⟨u, hu, ru⟩ := rv.get hx
  obtain ⟨f0, f1, f2, f3, f4, f5⟩ := hf it (by simp)
  refine wpAny_pyNext_list_item st p.isList (x := u) (by simpa using hu) fun h' st' sb => ?_
  have I1 : Inv X pins σ H { s with heap := h' } := I.turned (t' := s.toks) (fun b o hb e => (sb.2 b hb).trans e) f0 f1 f3 f4 f5
  obtain ⟨o, e, c, d⟩ := id st'
  exact ⟨u, rfl, go_of (s := { s with heap := h' }) e c d (by decide) ⟨x, H, I1, ru, ⟨rfl, fun ys hy => by rw [I.list_inj hy hq]; exact hx⟩, st', fun b hb => (hf b hb).1⟩⟩
 done := by
  intro X hP hw hK hc i pins s σ H E I hf st hg
  subst hP hw hK
  obtain ⟨xs, hq, hx⟩ := hg
  obtain ⟨its, rv, p, hz⟩ := I.list hq
  obtain ⟨f0, f1, f2, f3, f4, f5⟩ := hf it (by simp)
  have hl := rv.length
  exact wpAny_pyNext_list_end (I.ok.hd hc) st p.isList (by simp; omega) fun h' eb => ⟨rfl, I.turned (t' := s.toks) (fun b o hb e => eb b o hb e) f0 f1 f3 f4 f5⟩
 self := fun _ _ _ _ _ st h => wpAny_pyIter_listiter st h
theorem turn_range {P : Program} {w : World} {K : PySem.W.Frag} {tg : Expr} (it : Addr) (lo : Int) (n : Nat) : Turn P w K tg (Itr lo n) [it] it (fun i h => IsRangeIter h it (lo + (i : Nat) * 1) ((n : Int) - (i : Nat)) 1) where
 mem := by simp
 obj := fun i h st b hb => by
  have e : b = it := by simpa using hb
  subst e
  exact ⟨_, st, fun v z => by
   have z' : Data.fields _ = Data.cell v := z
   cases z'⟩
 keep := fun i h h' st k => k it (by simp) _ st
 item := by
  intro X hP hw hK hc i pins s σ H E I hf st hg
  subst hP hw hK
  obtain ⟨f0, f1, f2, f3, f4, f5⟩ := hf it (by simp)
  have W := Walks.range (prog := X.prog) (w := X.w) (I.ok.hd hc) it lo 1 n
  refine W.item i s _ _ hg st fun v h' tk hv st' kk => ?_
  obtain ⟨t, rfl⟩ := hv
  have I1 : Inv X pins σ H { s with heap := h', toks := tk } := I.turned (fun b o hb e => kk b o (by simpa using hb) e) f0 f1 f3 f4 f5
  refine ⟨_, rfl, go_of (s := { s with heap := h', toks := tk }) (n := "range_iterator") st' rfl rfl (by decide) ⟨.int (lo + i), H, I1, ⟨t, ?_⟩, ⟨rfl, rfl⟩, st', fun b hb => (hf b hb).1⟩⟩
  rw [zq138x]
 done := by
  intro X hP hw hK hc i pins s σ H E I hf st hg
  subst hP hw hK
  obtain ⟨f0, f1, f2, f3, f4, f5⟩ := hf it (by simp)
  exact wpAny_pyNext_range_end (I.ok.hd hc) st (by have : n <= i := hg; omega) fun h' eb => ⟨rfl, I.turned (t' := s.toks) (fun b o hb e => eb b o hb e) f0 f1 f3 f4 f5⟩
 self := fun _ _ _ _ _ st h => wpAny_pyIter_rangeiter st h
section
variable {X : Cx} {tg : Expr}
def iList (K : PySem.W.Frag) (tl : TE) : TI := fun σ H R => tl σ H fun x H1 => ∃ a, x = .ref a /\ (∃ xs, SqL K H1 a xs) /\ R (Itl K a) H1
theorem pi_list {l : Expr} {tl : TE} (hl : PE X l tl) : PI X tg l (iList X.K tl) := by
 intro pins s σ H R I h
 refine thn (hl pins s σ H _ I h) fun v s1 ⟨x, H1, I1, r1, q1⟩ => ?_
 obtain ⟨a, e, ⟨xs, hq⟩, q⟩ := q1
 subst e
 cases r1
 obtain ⟨its, rv, p, hz⟩ := I1.list hq
 refine wpAny_pyIter_list p.isList ?_
 refine ⟨s1.heap.objs.size, [s1.heap.objs.size], _, _, H1, rfl, I1.kept (t' := s1.toks) fun b o e => zq7x _ e, turn_list a _, ⟨_, zq27x _ rfl, rfl, rfl⟩, fun b hb => ?_, q⟩
 have e : b = s1.heap.objs.size := by simpa using hb
 subst e
 exact I1.fpOk (zq3x _) (I1.hok.fresh (zq3x _))
theorem range_it {pins : List (Addr × Obj)} {σ : St} {H : Hp} {s : Shared} {R : It -> Hp -> Prop} {E : Value -> Shared -> Prop} {lo hi : Int} {t u v : Tok} {tk : Nat} (I : Inv X pins σ H s) (h1 : -(2 ^ 62) <= lo) (h2 : lo < 2 ^ 62) (h3 : -(2 ^ 62) <= hi) (h4 : hi < 2 ^ 62)
  (q : R (Itr lo (hi - lo).toNat) H) : wpAny (model X.prog X.w) X.A (pyIter (.ref s.heap.objs.size)) (PIE X pins σ tg R) E { s with heap := s.heap.push { cls := .type "range", data := .fields #[.int lo t, .int hi u, .int 1 v] }, toks := tk } := by
 refine wpAny_pyIter_range (IsRange.new ..) (small_one h1 h2 h3 h4) ?_
 have I1 : Inv X pins σ H { s with heap := s.heap.push { cls := .type "range", data := .fields #[.int lo t, .int hi u, .int 1 v] }, toks := tk } := I.kept fun b o e => zq7x _ e
 refine ⟨(s.heap.push { cls := .type "range", data := .fields #[.int lo t, .int hi u, .int 1 v] }).objs.size, [(s.heap.push { cls := .type "range", data := .fields #[.int lo t, .int hi u, .int 1 v] }).objs.size], _, _, H, rfl,
  I1.kept (t' := tk) fun b o e => zq7x _ e, turn_range _ lo (hi - lo).toNat, ?_, fun b hb => ?_, q⟩
 ·have e1 : lo + ((0 : Nat) : Int) * 1 = lo := by simp
  have e2 : (((hi - lo).toNat : Nat) : Int) - ((0 : Nat) : Int) = Builtin.Range.rangeSize lo hi 1 := by rw [rangeSize_one]; split <;> omega
  show IsRangeIter _ _ (lo + ((0 : Nat) : Int) * 1) ((((hi - lo).toNat : Nat) : Int) - ((0 : Nat) : Int)) 1
  rw [e1, e2]
  exact zq27x _ rfl
 ·have e : b = (s.heap.push { cls := .type "range", data := .fields #[.int lo t, .int hi u, .int 1 v] }).objs.size := by simpa using hb
  subst e
  exact I1.fpOk (zq3x _) (I1.hok.fresh (zq3x _))
def iRng1 (ta : TA) : TI := fun σ H R => ta σ H fun vs H1 => ∃ j : Int, vs = [.int j] /\ -(2 ^ 62) <= j /\ j < 2 ^ 62 /\ R (Itr 0 j.toNat) H1
def iRng2 (ta : TA) : TI := fun σ H R => ta σ H fun vs H1 => ∃ i j : Int, vs = [.int i, .int j] /\ (-(2 ^ 62) <= i /\ i < 2 ^ 62 /\ -(2 ^ 62) <= j /\ j < 2 ^ 62) /\ R (Itr i (j - i).toNat) H1
theorem pi_range1 {a : Expr} {ta : TA} {p pos : Pos} (hg : Gl X "range") (hm : X.mg "range" = none) (ha : PA X [a] ta) (hs : starEach [a] X.env = [(false, eval a X.env)] := by rfl) : PI X tg (.Call (.Name "range" p) [a] [] pos) (iRng1 ta) := by
  intro pins s σ H R I h
  refine Call_ (ld_blt I hg hm boot_range (zq116x (thn (ha pos pins s σ H _ I h) fun us s1 ⟨vs, H1, I1, r1, q1⟩ => ?_) hs rfl))
  obtain ⟨j, e, q1, q2, q⟩ := q1
  subst e
  cases r1 with
  | cons r rr =>
    cases rr
    obtain ⟨t, rfl⟩ := r
    exact call_range_1 (range_it I1 (by omega) (by omega) q1 q2 (by simpa using q))
theorem pi_range2 {a b : Expr} {ta : TA} {p pos : Pos} (hg : Gl X "range") (hm : X.mg "range" = none) (ha : PA X [a, b] ta) (hs : starEach [a, b] X.env = [(false, eval a X.env), (false, eval b X.env)] := by rfl) (hs2 : starEach [b] X.env = [(false, eval b X.env)] := by rfl) :
    PI X tg (.Call (.Name "range" p) [a, b] [] pos) (iRng2 ta) := by
  intro pins s σ H R I h
  refine Call_ (ld_blt I hg hm boot_range (zq116x (thn (ha pos pins s σ H _ I h) fun us s1 ⟨vs, H1, I1, r1, q1⟩ => ?_) (by rw [hs, hs2]) (by rw [hs2]; rfl)))
  obtain ⟨i, j, e, ⟨q1, q2, q3, q4⟩, q⟩ := q1
  subst e
  cases r1 with
  | cons r rr =>
    cases rr with
    | cons r' rr =>
      cases rr
      obtain ⟨t, rfl⟩ := r
      obtain ⟨t', rfl⟩ := r'
      exact call_range_2 (range_it I1 q1 q2 q3 q4 q)
def tFor (wi : TI) (g : TG) (tb : TS) : TS := fun D σ H => wi σ H fun J H1 => ∃ W : Nat -> Nat -> St -> Hp -> Prop, (∃ m, W 0 m σ H1) /\ ∀ i m σ H, W i m σ H ->
 (J.stop i H /\ D.nx σ H) \/ (J.go i H /\ ∃ N : St -> Hp -> Prop, (∀ σ' H', N σ' H' -> ∃ m', m' < m /\ W (i + 1) m' σ' H') /\ ∀ x H', J.yld i H x H' -> g x σ H' fun σ2 H2 => tb { D with nx := N, ct := N, bk := D.nx } σ2 H2)
def pinsAt (fp : List Addr) (h : Heap) : List (Addr × Obj) := fp.filterMap fun b => (h.get? b).map fun o => (b, o)
theorem mem_pinsAt {fp : List Addr} {h : Heap} {b : Addr} {o : Obj} (hb : b ∈ fp) (e : h.get? b = some o) : (b, o) ∈ pinsAt fp h := zq139x.mpr ⟨b, hb, by rw [e]; rfl⟩
theorem of_pinsAt {fp : List Addr} {h : Heap} {p : Addr × Obj} (hp : p ∈ pinsAt fp h) : p.1 ∈ fp /\ h.get? p.1 = some p.2 := by
  obtain ⟨b, hb, e⟩ := zq139x.mp hp
  cases q : h.get? b with
  | none => rw [q] at e; cases e
  | some o =>
    rw [q] at e
    have e' : (b, o) = p := zq37x e
    subst e'
    exact ⟨hb, q⟩
theorem Inv.pinned {pins : List (Addr × Obj)} {σ : St} {H : Hp} {s : Shared} {fp : List Addr} (I : Inv X pins σ H s) (hf : ∀ b ∈ fp, FpOk X pins H b) (ho : ∀ b ∈ fp, ∃ o, s.heap.get? b = some o /\ ∀ v, o.data ≠ .cell v) : Inv X (pins ++ pinsAt fp s.heap) σ H s :=
 I.pins_of fun p hp => (zq29x.mp hp).elim (fun z => I.pin p (zq57x _ z)) fun z => by
  obtain ⟨hb, e⟩ := of_pinsAt z
  obtain ⟨f0, f1, f2, _⟩ := hf p.1 hb
  obtain ⟨o, e', d⟩ := ho p.1 hb
  rw [e] at e'; cases e'
  exact ⟨e, f0, f1, f2, d⟩
theorem Inv.unpinned {pins pl : List (Addr × Obj)} {σ : St} {H : Hp} {s : Shared} (I : Inv X (pins ++ pl) σ H s) : Inv X pins σ H s := I.pins_of fun p hp => I.pin p (zq57x _ (zq174x _ hp))
theorem ps_for {iter : Expr} {body : List Stmt} {wi : TI} {g : TG} {tb : TS} {pos : Pos} (hp : PassesOwn (model X.prog X.w) X.A X.env X.xe) (hc : X.calm = true) (hi : PI X tg iter wi) (hg : PG X tg g) (hb : PSs X body tb)
  (hs : ∀ x, foldedSetIterable iter X.env x = pure x := by intro _; rfl) : PS X (.For tg iter body [] pos) (tFor wi g tb) := by
 intro pins s σ H D I h
 refine wpAny_For (thn (hi pins s σ H _ I h) fun v s1 h1 => thn h1 fun itv s2 h2 => ?_) hs
 obtain ⟨it, fp, tn, J, H2, e, I2, T, st2, f2, W, ⟨m0, w0⟩, turn⟩ := h2
 subst e
 have stat : ∀ {H' : Hp}, (∀ b ∈ fp, H' b = none) -> ∀ b ∈ fp, FpOk X pins H' b := fun hn b hb => ⟨hn b hb, (f2 b hb).2⟩
 refine codeAny_forLoop_any (fun n s' => ∃ i σ' H', Inv X pins σ' H' s' /\ tn i s'.heap /\ (∀ b ∈ fp, H' b = none) /\ W i n σ' H') ?_ m0 ⟨0, σ, H2, I2, st2, fun b hb => (f2 b hb).1, w0⟩
 rintro n s3 ⟨i, σ3, H3, I3, st3, fr3, w3⟩
 rcases turn i n σ3 H3 w3 with ⟨stop, qn⟩ | ⟨go, N, hN, step⟩
 ·refine wpAny_passesOwn hp (thn (T.done X rfl rfl rfl hc i pins s3 σ3 H3 X.xe I3 (stat fr3) st3 stop) fun r s4 ⟨hr, I4⟩ => ?_)
  subst hr
  exact wpAny_execs_nil ⟨σ3, H3, I4, qn⟩
 ·refine wpAny_passesOwn hp (thn (T.item X rfl rfl rfl hc i pins s3 σ3 H3 X.xe I3 (stat fr3) st3 go) fun r s4 ⟨u, hr, h4⟩ => ?_)
  subst hr
  refine wpAny_passesOwn hp (thn h4 fun _ s5 ⟨x, H5, I5, r5, y5, st5, fr5⟩ => ?_)
  have I5' := I5.pinned (stat fr5) (T.obj _ _ st5)
  refine wpAny_passesOwn hp (thn (hg _ s5 σ3 H5 x u _ I5' r5 (step x H5 y5)) fun _ s6 ⟨σ6, H6, I6, q6⟩ => ?_)
  refine wpAny_passesOwn hp (thn (hb _ s6 σ6 H6 _ I6 q6) fun f s7 q7 => ?_)
  have again : ∀ {σ7 : St} {H7 : Hp}, Inv X (pins ++ pinsAt fp s5.heap) σ7 H7 s7 -> N σ7 H7 -> ∃ m, m < n /\ ∃ i σ' H', Inv X pins σ' H' s7 /\ tn i s7.heap /\ (∀ b ∈ fp, H' b = none) /\ W i m σ' H' := fun {σ7 H7} I7 n7 => by
   obtain ⟨m', hm, w7⟩ := hN σ7 H7 n7
   refine ⟨m', hm, i + 1, σ7, H7, I7.unpinned, T.keep _ _ _ st5 fun b hb o e => (I7.pin (b, o) (zq57x _ (zq57x _ (mem_pinsAt hb e)))).1, fun b hb => ?_, w7⟩
   obtain ⟨o, e, d⟩ := T.obj _ _ st5 b hb
   exact (I7.pin (b, o) (zq57x _ (zq57x _ (mem_pinsAt hb e)))).2.1
  cases f with
  | next => obtain ⟨σ7, H7, I7, n7⟩ := q7; exact again I7 n7
  | cont => obtain ⟨σ7, H7, I7, n7⟩ := q7; exact again I7 n7
  | brk => obtain ⟨σ7, H7, I7, q7⟩ := q7; exact ⟨σ7, H7, I7.unpinned, q7⟩
  | ret v => obtain ⟨x7, σ7, H7, I7, r7, q7⟩ := q7; exact ⟨x7, σ7, H7, I7.unpinned, r7, q7⟩
end
theorem for_list {K : PySem.W.Frag} {a : Addr} {xs : List V} {g : TG} {tb : TS} {D : Ends} {σ : St} {H : Hp} (Pv : Nat -> St -> Hp -> Prop) (h0 : Pv 0 σ H) (hl : ∀ i σ H, i <= xs.length -> Pv i σ H -> SqL K H a xs)
  (hs : ∀ i x σ H, xs[i]? = some x -> Pv i σ H -> g x σ H fun σ2 H2 => tb { D with nx := Pv (i + 1), ct := Pv (i + 1), bk := D.nx } σ2 H2) (hd : ∀ σ H, Pv xs.length σ H -> D.nx σ H) :
  ∃ W : Nat -> Nat -> St -> Hp -> Prop, (∃ m, W 0 m σ H) /\ ∀ i m σ H, W i m σ H ->
   ((Itl K a).stop i H /\ D.nx σ H) \/ ((Itl K a).go i H /\ ∃ N : St -> Hp -> Prop, (∀ σ' H', N σ' H' -> ∃ m', m' < m /\ W (i + 1) m' σ' H') /\ ∀ x H', (Itl K a).yld i H x H' -> g x σ H' fun σ2 H2 => tb { D with nx := N, ct := N, bk := D.nx } σ2 H2) := by
 refine ⟨fun i m σ H => m = xs.length - i /\ i <= xs.length /\ Pv i σ H, ⟨xs.length, by simp, zq45x _, h0⟩, ?_⟩
 rintro i m σ H ⟨rfl, hi, p⟩
 have q := hl i σ H hi p
 by_cases hlt : i < xs.length
 ·refine .inr ⟨⟨xs, xs[i], q, by simp [hlt]⟩, Pv (i + 1), fun σ' H' p' => ⟨xs.length - (i + 1), by omega, rfl, hlt, p'⟩, fun x H' y => ?_⟩
  obtain ⟨e, y⟩ := y
  subst e
  exact hs i x σ _ (y xs q) p
 ·have e : i = xs.length := by omega
  subst e
  exact .inl ⟨⟨xs, q, zq3x _⟩, hd σ H p⟩
theorem for_range {lo : Int} {n : Nat} {g : TG} {tb : TS} {D : Ends} {σ : St} {H : Hp} (Pv : Nat -> St -> Hp -> Prop) (h0 : Pv 0 σ H)
  (hs : ∀ i σ H, i < n -> Pv i σ H -> g (.int (lo + i)) σ H fun σ2 H2 => tb { D with nx := Pv (i + 1), ct := Pv (i + 1), bk := D.nx } σ2 H2) (hd : ∀ σ H, Pv n σ H -> D.nx σ H) :
  ∃ W : Nat -> Nat -> St -> Hp -> Prop, (∃ m, W 0 m σ H) /\ ∀ i m σ H, W i m σ H ->
   ((Itr lo n).stop i H /\ D.nx σ H) \/ ((Itr lo n).go i H /\ ∃ N : St -> Hp -> Prop, (∀ σ' H', N σ' H' -> ∃ m', m' < m /\ W (i + 1) m' σ' H') /\ ∀ x H', (Itr lo n).yld i H x H' -> g x σ H' fun σ2 H2 => tb { D with nx := N, ct := N, bk := D.nx } σ2 H2) := by
 refine ⟨fun i m σ H => m = n - i /\ i <= n /\ Pv i σ H, ⟨n, by simp, zq45x _, h0⟩, ?_⟩
 rintro i m σ H ⟨rfl, hi, p⟩
 by_cases hlt : i < n
 ·refine .inr ⟨hlt, Pv (i + 1), fun σ' H' p' => ⟨n - (i + 1), by omega, rfl, hlt, p'⟩, fun x H' y => ?_⟩
  obtain ⟨e, y⟩ := y
  subst e y
  exact hs i σ _ hlt p
 ·have e : i = n := by omega
  subst e
  exact .inl ⟨zq3x _, hd σ H p⟩
abbrev R2 := V -> V -> Hp -> VK -> Prop
def OpR (X : Cx) (f : Value -> Value -> Sem Value) (r : R2) : Prop :=
 ∀ (pins : List (Addr × Obj)) (s : Shared) (σ : St) (H : Hp) (x y : V) (v u : Value) (Q : VK), Inv X pins σ H s -> RelV x v -> RelV y u -> r x y H Q ->
  wpAny (model X.prog X.w) X.A (f v u) (EP X pins σ Q) X.xe s
def CallR (X : Cx) (f : Value) (r : List V -> Hp -> VK -> Prop) : Prop :=
 ∀ (pins : List (Addr × Obj)) (s : Shared) (σ : St) (H : Hp) (xs : List V) (us : List Value) (Q : VK), Inv X pins σ H s -> Vals xs us -> r xs H Q ->
  wpAny (model X.prog X.w) X.A (call f us) (EP X pins σ Q) X.xe s
def TruR (X : Cx) (r : V -> Hp -> (Bool -> Hp -> Prop) -> Prop) : Prop :=
 ∀ (pins : List (Addr × Obj)) (s : Shared) (σ : St) (H : Hp) (x : V) (v : Value) (Q : Bool -> Hp -> Prop), Inv X pins σ H s -> RelV x v -> r x H Q ->
  wpAny (model X.prog X.w) X.A (truthy v) (TP X pins σ Q) X.xe s
def tOp (r : R2) (ta tb : TE) : TE := fun σ H Q => ta σ H fun x H1 => tb σ H1 fun y H2 => r x y H2 Q
def tUn (r : V -> Hp -> VK -> Prop) (ta : TE) : TE := fun σ H Q => ta σ H fun x H1 => r x H1 Q
def rI (C : Int -> Int -> Prop) (g : Int -> Int -> V) : R2 := fun x y H Q => ∃ i j, x = .int i /\ y = .int j /\ C i j /\ Q (g i j) H
def rI0 (g : Int -> Int -> V) : R2 := fun x y H Q => ∃ i j, x = .int i /\ y = .int j /\ Q (g i j) H
section
variable {X : Cx} {a b c : Expr} {ta tb tc : TE} {pos : Pos}
theorem binT (ha : PE X a ta) (hb : PE X b tb) {pins : List (Addr × Obj)} {s : Shared} {σ : St} {H : Hp} {R : V -> V -> Hp -> Prop} (I : Inv X pins σ H s)
  (h : ta σ H fun x H1 => tb σ H1 fun y H2 => R x y H2) {Q : Value -> Shared -> Prop} {f : Value -> Value -> Sem Value}
  (hf : ∀ v u s2 x y H2, Inv X pins σ H2 s2 -> RelV x v -> RelV y u -> R x y H2 -> wpAny (model X.prog X.w) X.A (f v u) Q X.xe s2) :
  wpAny (model X.prog X.w) X.A (eval a X.env) (fun v s₁ => wpAny (model X.prog X.w) X.A (eval b X.env) (fun u s₂ => wpAny (model X.prog X.w) X.A (f v u) Q X.xe s₂) X.xe s₁) X.xe s := by
 refine thn (ha pins s σ H _ I h) fun v s1 ⟨x, H1, I1, r1, q1⟩ => ?_
 refine thn (hb pins s1 σ H1 _ I1 q1) fun u s2 ⟨y, H2, I2, r2, q2⟩ => ?_
 exact hf v u s2 x y H2 I2 r1 r2 q2
theorem pe_op {op : Operator} {r : R2} (ho : OpR X (binaryOp op) r) (ha : PE X a ta) (hb : PE X b tb) : PE X (.BinOp a op b pos) (tOp r ta tb) := by
 intro pins s σ H Q I h
 exact wpAny_BinOp (binT ha hb I h fun v u s2 x y H2 I2 rx ry q => ho pins s2 σ H2 x y v u Q I2 rx ry q)
theorem opI {f : Value -> Value -> Sem Value} {C : Int -> Int -> Prop} {g : Int -> Int -> Int}
  (rule : ∀ (i j : Int) (t u : Tok) (s : Shared) (Q : Value -> Shared -> Prop) (E : Value -> Shared -> Prop), C i j -> Q (.int (g i j) s.toks) { s with toks := s.toks + 1 } -> wpAny (model X.prog X.w) X.A (f (.int i t) (.int j u)) Q E s) :
  OpR X f (rI C fun i j => .int (g i j)) := by
 intro pins s σ H x y v u Q I rx ry h
 obtain ⟨i, j, rfl, rfl, hc, q⟩ := h
 obtain ⟨t, rfl⟩ := rx
 obtain ⟨t', rfl⟩ := ry
 exact rule i j t t' s _ _ hc ⟨.int (g i j), H, I.tok _, ⟨_, rfl⟩, q⟩
theorem opI0 {f : Value -> Value -> Sem Value} {g : Int -> Int -> Int}
  (rule : ∀ (i j : Int) (t u : Tok) (s : Shared) (Q : Value -> Shared -> Prop) (E : Value -> Shared -> Prop), Q (.int (g i j) s.toks) { s with toks := s.toks + 1 } -> wpAny (model X.prog X.w) X.A (f (.int i t) (.int j u)) Q E s) :
  OpR X f (rI0 fun i j => .int (g i j)) := by
 intro pins s σ H x y v u Q I rx ry h
 obtain ⟨i, j, rfl, rfl, q⟩ := h
 obtain ⟨t, rfl⟩ := rx
 obtain ⟨t', rfl⟩ := ry
 exact rule i j t t' s _ _ ⟨.int (g i j), H, I.tok _, ⟨_, rfl⟩, q⟩
theorem opB0 {f : Value -> Value -> Sem Value} {g : Int -> Int -> Bool}
  (rule : ∀ (i j : Int) (t u : Tok) (s : Shared) (Q : Value -> Shared -> Prop) (E : Value -> Shared -> Prop), Q (.bool (g i j)) s -> wpAny (model X.prog X.w) X.A (f (.int i t) (.int j u)) Q E s) :
  OpR X f (rI0 fun i j => .bl (g i j)) := by
 intro pins s σ H x y v u Q I rx ry h
 obtain ⟨i, j, rfl, rfl, q⟩ := h
 obtain ⟨t, rfl⟩ := rx
 obtain ⟨t', rfl⟩ := ry
 exact rule i j t t' s _ _ ⟨.bl (g i j), H, I, rfl, q⟩
def CPow (i j : Int) : Prop := 0 <= j /\ j <= 1000000 /\ i.natAbs < 2 ^ 64
def CMul (i j : Int) : Prop := (-(2 ^ 64) < i /\ i < 2 ^ 64) \/ (-(2 ^ 64) < j /\ j < 2 ^ 64)
theorem CMul.ok {i j : Int} (h : CMul i j) : IntMulOk i j := by
 rcases h with ⟨h1, h2⟩ | ⟨h1, h2⟩
 ·exact .of_left (intBits_le_64 h1 h2)
 ·exact .of_right (intBits_le_64 h1 h2)
theorem op_add : OpR X (binaryOp .Add) (rI0 fun i j => .int (i + j)) := opI0 fun _ _ _ _ _ _ _ q => add_int q
theorem op_sub : OpR X (binaryOp .Sub) (rI0 fun i j => .int (i - j)) := opI0 fun _ _ _ _ _ _ _ q => sub_int q
theorem op_mod : OpR X (binaryOp .Mod) (rI (fun _ j => 0 < j) fun i j => .int (i % j)) := opI fun i j _ _ _ _ _ hc q => by
 have h1 : (0 : Int) < j := hc
 exact mod_int' (by omega) (by rw [Int.fmod_eq_emod_of_nonneg i (by omega)]; exact q)
theorem op_pow : OpR X (binaryOp .Pow) (rI CPow fun i j => .int (i ^ j.toNat)) := opI fun _ _ _ _ _ _ _ hc q => pow_int_small hc.1 hc.2.1 hc.2.2 q
end
def scal : V -> V -> Bool
 | .non, .non => true | .non, .int _ => true | .int _, .non => true | .non, .bl _ => true | .bl _, .non => true | .non, .str _ => true | .str _, .non => true
 | .int _, .int _ => true | .bl _, .bl _ => true | .str _, .str _ => true | .byt _, .byt _ => true
 | .int _, .str _ => true | .str _, .int _ => true | .bl _, .str _ => true | .str _, .bl _ => true
 | _, _ => false
def rEq : R2 := fun x y H Q => scal x y = true /\ Q (.bl (decide (x = y))) H
def rNe : R2 := fun x y H Q => scal x y = true /\ Q (.bl (!decide (x = y))) H
theorem dec_int {i j : Int} : decide (V.int i = V.int j) = (i == j) := by
 rw [zq64x]
 simp
theorem dec_bl {i j : Bool} : decide (V.bl i = V.bl j) = (i == j) := by
 rw [zq64x]
 simp
theorem dec_str {i j : Str} : decide (V.str i = V.str j) = (i == j) := by
 rw [zq64x]
 simp
theorem dec_byt {i j : Array UInt8} : decide (V.byt i = V.byt j) = (i.toList == j.toList) := by
 rw [zq64x]
 cases i
 cases j
 simp
section
variable {X : Cx} {a b c : Expr} {ta tb tc : TE} {pos : Pos}
theorem fin_bl {pins : List (Addr × Obj)} {σ : St} {H : Hp} {s : Shared} {Q : VK} {k k' : Bool} (I : Inv X pins σ H s) (q : Q (.bl k) H) (e : k = k') : EP X pins σ Q (.bool k') s := by
 subst e
 exact ⟨.bl k, H, I, rfl, q⟩
theorem op_eq : OpR X (compareOp .Eq) rEq := by
  intro pins s σ H x y v u Q I rx ry h
  obtain ⟨hs, q⟩ := h
  cases x with
  | non =>
    cases rx
    cases y with
    | non => cases ry; exact PySem.EqNone.eq_none_none (fin_bl I q (by simp))
    | bl j => cases ry; exact PySem.EqNone.eq_none_bool (fin_bl I q (by simp))
    | int j => obtain ⟨t', rfl⟩ := ry; exact PySem.EqNone.eq_none_int (fin_bl I q (by simp))
    | str j => obtain ⟨t', rfl⟩ := ry; exact PySem.EqNone.eq_none_str (fin_bl I q (by simp))
    | _ => exact absurd (show false = true from hs) zq14x
  | bl i =>
    cases rx
    cases y with
    | non => cases ry; exact PySem.EqNone.eq_bool_none (fin_bl I q (by simp))
    | bl j => cases ry; exact eq_bool (fin_bl I q dec_bl)
    | str j => obtain ⟨t', rfl⟩ := ry; exact PySem.EqMixed.eq_bool_str (fin_bl I q (by simp))
    | _ => exact absurd (show false = true from hs) zq14x
  | int i =>
    obtain ⟨t, rfl⟩ := rx
    cases y with
    | non => cases ry; exact PySem.EqNone.eq_int_none (fin_bl I q (by simp))
    | int j => obtain ⟨t', rfl⟩ := ry; exact eq_int (fin_bl I q dec_int)
    | str j => obtain ⟨t', rfl⟩ := ry; exact PySem.EqMixed.eq_int_str (fin_bl I q (by simp))
    | _ => exact absurd (show false = true from hs) zq14x
  | str i =>
    obtain ⟨t, rfl⟩ := rx
    cases y with
    | non => cases ry; exact PySem.EqNone.eq_str_none (fin_bl I q (by simp))
    | bl j => cases ry; exact PySem.EqMixed.eq_str_bool (fin_bl I q (by simp))
    | int j => obtain ⟨t', rfl⟩ := ry; exact PySem.EqMixed.eq_str_int (fin_bl I q (by simp))
    | str j => obtain ⟨t', rfl⟩ := ry; exact eq_str (fin_bl I q dec_str)
    | _ => exact absurd (show false = true from hs) zq14x
  | byt i =>
    obtain ⟨t, rfl⟩ := rx
    cases y with
    | byt j => obtain ⟨t', rfl⟩ := ry; exact PySem.W.eq_bytes (fin_bl I q dec_byt)
    | _ => exact absurd (show false = true from hs) zq14x
  | _ => cases y <;> exact absurd (show false = true from hs) zq14x
theorem op_ne : OpR X (compareOp .NotEq) rNe := by
  intro pins s σ H x y v u Q I rx ry h
  obtain ⟨hs, q⟩ := h
  cases x with
  | non =>
    cases rx
    cases y with
    | non => cases ry; exact PySem.EqNone.ne_none_none (fin_bl I q (by simp))
    | bl j => cases ry; exact PySem.EqNone.ne_none_bool (fin_bl I q (by simp))
    | int j => obtain ⟨t', rfl⟩ := ry; exact PySem.EqNone.ne_none_int (fin_bl I q (by simp))
    | str j => obtain ⟨t', rfl⟩ := ry; exact PySem.EqNone.ne_none_str (fin_bl I q (by simp))
    | _ => exact absurd (show false = true from hs) zq14x
  | bl i =>
    cases rx
    cases y with
    | non => cases ry; exact PySem.EqNone.ne_bool_none (fin_bl I q (by simp))
    | bl j => cases ry; exact ne_bool (fin_bl I q (congrArg not dec_bl))
    | str j => obtain ⟨t', rfl⟩ := ry; exact PySem.EqMixed.ne_bool_str (fin_bl I q (by simp))
    | _ => exact absurd (show false = true from hs) zq14x
  | int i =>
    obtain ⟨t, rfl⟩ := rx
    cases y with
    | non => cases ry; exact PySem.EqNone.ne_int_none (fin_bl I q (by simp))
    | int j => obtain ⟨t', rfl⟩ := ry; exact ne_int (fin_bl I q (congrArg not dec_int))
    | str j => obtain ⟨t', rfl⟩ := ry; exact PySem.EqMixed.ne_int_str (fin_bl I q (by simp))
    | _ => exact absurd (show false = true from hs) zq14x
  | str i =>
    obtain ⟨t, rfl⟩ := rx
    cases y with
    | non => cases ry; exact PySem.EqNone.ne_str_none (fin_bl I q (by simp))
    | bl j => cases ry; exact PySem.EqMixed.ne_str_bool (fin_bl I q (by simp))
    | int j => obtain ⟨t', rfl⟩ := ry; exact PySem.EqMixed.ne_str_int (fin_bl I q (by simp))
    | str j => obtain ⟨t', rfl⟩ := ry; exact ne_str (fin_bl I q (congrArg not dec_str))
    | _ => exact absurd (show false = true from hs) zq14x
  | byt i =>
    obtain ⟨t, rfl⟩ := rx
    cases y with
    | byt j => obtain ⟨t', rfl⟩ := ry; exact PySem.W.ne_bytes (fin_bl I q (congrArg not dec_byt))
    | _ => exact absurd (show false = true from hs) zq14x
  | _ => cases y <;> exact absurd (show false = true from hs) zq14x
theorem op_lt : OpR X (compareOp .Lt) (rI0 fun i j => .bl (decide (i < j))) := opB0 fun _ _ _ _ _ _ _ q => lt_int q
theorem op_gt : OpR X (compareOp .Gt) (rI0 fun i j => .bl (decide (j < i))) := opB0 fun _ _ _ _ _ _ _ q => gt_int q
theorem op_ge : OpR X (compareOp .GtE) (rI0 fun i j => .bl (decide (j <= i))) := opB0 fun _ _ _ _ _ _ _ q => ge_int q
theorem op_isN : OpR X (compareOp .Is) (fun x y H Q => y = .non /\ Q (.bl (decide (x = .non))) H) := by
 intro pins s σ H x y v u Q I rx ry h
 obtain ⟨rfl, q⟩ := h
 cases ry
 refine is_none_gen (fin_bl I q ?_)
 cases x <;> first
  | (cases rx; rfl)
  | (obtain ⟨t, rfl⟩ := rx; rfl)
theorem op_notN : OpR X (compareOp .IsNot) (fun x y H Q => y = .non /\ Q (.bl (!decide (x = .non))) H) := by
 intro pins s σ H x y v u Q I rx ry h
 obtain ⟨rfl, q⟩ := h
 cases ry
 refine isnot_none_gen (fin_bl I q ?_)
 cases x <;> first
  | (cases rx; rfl)
  | (obtain ⟨t, rfl⟩ := rx; rfl)
theorem nomark (b : Expr) {op : CmpOp} (h : op ≠ .In := by decide) (h2 : op ≠ .NotIn := by decide) : behindInMarks op b = false := by
 have e1 : (op == CmpOp.In) = false := by cases op <;> first | rfl | exact absurd rfl h
 have e2 : (op == CmpOp.NotIn) = false := by cases op <;> first | rfl | exact absurd rfl h2
 cases b <;> simp [behindInMarks, e1, e2]
theorem pe_cmpR {op : CmpOp} {r : R2} (ho : OpR X (compareOp op) r) (ha : PE X a ta) (hb : PE X b tb) (hm : behindInMarks op b = false) : PE X (.Compare a [op] [b] pos) (tOp r ta tb) := by
 intro pins s σ H Q I h
 exact wpAny_Compare1 (binT ha hb I h fun v u s2 x y H2 I2 rx ry q => ho pins s2 σ H2 x y v u Q I2 rx ry q) hm
def tTest (t : TE) : TT := fun σ H Q => t σ H fun x H' => ∃ k, x = .bl k /\ Q k H'
theorem pt_cmpR {op : CmpOp} {r : R2} (ho : OpR X (compareOp op) r) (ha : PE X a ta) (hb : PE X b tb) (hm : behindInMarks op b = false) : PT X (.Compare a [op] [b] pos) (tTest (tOp r ta tb)) := by
 intro pins s σ H Q I h
 refine wpAny_isTrue_Compare1 (thn (ha pins s σ H _ I h) fun v s1 ⟨x, H1, I1, r1, q1⟩ => thn (hb pins s1 σ H1 _ I1 q1) fun u s2 ⟨y, H2, I2, r2, q2⟩ =>
  thn (ho pins s2 σ H2 x y v u _ I2 r1 r2 q2) fun c s3 ⟨z, H3, I3, r3, k, e, q3⟩ => ?_) hm
 subst e
 cases r3
 exact wpAny_truthy_bool ⟨H3, I3, q3⟩
def TruV (K : PySem.W.Frag) (x : V) (H : Hp) (k : Bool) : Prop :=
 match x with
 | .non => k = false
 | .bl b => k = b
 | .int i => k = (i != 0)
 | .str y => y.length <= sizeLine /\ k = ((y.length : Int) != 0)
 | .byt y => y.size <= sizeLine /\ k = ((y.size : Int) != 0)
 | .ref p => (∃ xs, SqL K H p xs /\ k = !xs.isEmpty) \/ (∃ xs, SqT K H p xs /\ k = !xs.isEmpty) \/ ∃ kvs, H p = some (.dK kvs) /\ k = !kvs.isEmpty
 | _ => False
theorem isEmpty_kv {κ : Type} {kvs : List (κ × V)} {vs : List (κ × Value)} (r : KV kvs vs) : (!vs.isEmpty) = !kvs.isEmpty := by
 cases r <;> rfl
theorem isEmpty_of {xs : List V} {its : List Value} (r : Vals xs its) : (!its.toArray.isEmpty) = !xs.isEmpty := by
 cases r <;> simp
theorem line63 : (sizeLine : Nat) < 2 ^ 63 := by rw [sizeLine_eq]; decide
theorem tru_ok : TruR X (fun x H Q => ∃ k, TruV X.K x H k /\ Q k H) := by
  intro pins s σ H x v Q I rx h
  obtain ⟨k, e, q⟩ := h
  have hl := line63
  have hs : sizeLine = 16777216 := sizeLine_eq
  cases x with
  | non =>
    cases rx
    have e' : k = false := e
    subst e'
    exact truthy_none ⟨H, I, q⟩
  | bl b =>
    cases rx
    have e' : k = b := e
    subst e'
    exact wpAny_truthy_bool ⟨H, I, q⟩
  | int i =>
    obtain ⟨t, rfl⟩ := rx
    have e' : k = (i != 0) := e
    subst e'
    exact PySem.P.truthy_int ⟨H, I, q⟩
  | str y =>
    obtain ⟨t, rfl⟩ := rx
    obtain ⟨hy, e'⟩ : y.length <= sizeLine /\ k = ((y.length : Int) != 0) := e
    subst e'
    exact PySem.P.truthy_str (by omega) ⟨H, I.tok _, q⟩
  | byt y =>
    obtain ⟨t, rfl⟩ := rx
    obtain ⟨hy, e'⟩ : y.size <= sizeLine /\ k = ((y.size : Int) != 0) := e
    subst e'
    exact PySem.W.truthy_bytes (by omega) ⟨H, I.tok _, q⟩
  | ref p =>
    cases rx
    have e' : (∃ xs, SqL X.K H p xs /\ k = !xs.isEmpty) \/ (∃ xs, SqT X.K H p xs /\ k = !xs.isEmpty) \/ ∃ kvs, H p = some (.dK kvs) /\ k = !kvs.isEmpty := e
    rcases e' with ⟨xs, hx, e'⟩ | ⟨xs, hx, e'⟩ | ⟨kvs, hx, e'⟩
    · subst e'
      obtain ⟨its, r, pl, hz⟩ := I.list hx
      have hlen := r.length
      exact wpAny_truthy_list pl.isList (by simp only [zq18x]; omega) ⟨H, I.tok _, by rw [isEmpty_of r]; exact q⟩
    · subst e'
      obtain ⟨its, r, pl, hz⟩ := I.tuple hx
      have hlen := r.length
      exact truthy_tuple pl (by simp only [zq18x]; omega) ⟨H, I.tok _, by rw [isEmpty_of r]; exact q⟩
    · subst e'
      obtain ⟨hz, hS, vs, r, m⟩ : kvs.length <= sizeLine /\ (p == sysModules) = false /\ ∃ vs, KV kvs vs /\ s.heap.DictOf (mixKind X.prog X.w) p vs := I.hok p _ hx
      have hlen : kvs.length = vs.length := Paired.length r
      exact wpAny_truthy_dict hS m (by omega) ⟨H, I.tok _, by rw [isEmpty_kv r]; exact q⟩
  | _ => exact (show False from e).elim
theorem pt_truth (ha : PE X a ta) (he : ∀ whole, isTrue a X.env whole = (do let v <- whole; standAt a.pos; holding [v] (truthy v))) :
  PT X a (fun σ H Q => ta σ H fun x H' => ∃ k, TruV X.K x H' k /\ Q k H') := by
 intro pins s σ H Q I h
 exact isTrue_plain (thn (ha pins s σ H _ I h) fun v s1 ⟨x, H1, I1, r1, q1⟩ => tru_ok pins s1 σ H1 x v Q I1 r1 q1) (he _)
theorem vals1 {x : V} {us : List Value} (r : Vals [x] us) : ∃ u, us = [u] /\ RelV x u := by
 cases r with
 | cons r1 r2 => cases r2; exact ⟨_, rfl, r1⟩
theorem vals2 {x y : V} {us : List Value} (r : Vals [x, y] us) : ∃ u w', us = [u, w'] /\ RelV x u /\ RelV y w' := by
  cases r with
  | cons r1 r2 =>
    cases r2 with
    | cons r3 r4 => cases r4; exact ⟨_, _, rfl, r1, r3⟩
theorem call_abs : CallR X (.builtin "abs") (fun xs H Q => ∃ i, xs = [.int i] /\ Q (.int (if i < 0 then -i else i)) H) := by
 intro pins s σ H xs us Q I r h
 obtain ⟨i, rfl, q⟩ := h
 obtain ⟨u, rfl, t, rfl⟩ := vals1 r
 exact call_abs_int fun u tk => ⟨.int (if i < 0 then -i else i), H, I.tok _, ⟨_, rfl⟩, q⟩
theorem call_min2 (hc : X.calm = true) : CallR X (.builtin "min") (fun xs H Q => ∃ i j, xs = [.int i, .int j] /\ Q (.int (if j < i then j else i)) H) := by
 intro pins s σ H xs us Q I r h
 obtain ⟨i, j, rfl, q⟩ := h
 obtain ⟨u, w', rfl, ⟨t, rfl⟩, ⟨t', rfl⟩⟩ := vals2 r
 refine min_two_ints (I.ok.hd hc) fun h' tk k => ⟨_, H, I.kept k, ?_, q⟩
 by_cases hj : j < i
 ·rw [if_pos hj, if_pos hj]; exact ⟨_, rfl⟩
 ·rw [if_neg hj, if_neg hj]; exact ⟨_, rfl⟩
theorem call_int1 : CallR X (.type "int") (fun xs H Q => (∃ i, xs = [.int i] /\ Q (.int i) H) \/ ∃ k, xs = [.bl k] /\ Q (.int (if k then 1 else 0)) H) := by
 intro pins s σ H xs us Q I r h
 rcases h with ⟨i, rfl, q⟩ | ⟨k, rfl, q⟩
 ·obtain ⟨u, rfl, t, rfl⟩ := vals1 r
  exact call_int_int ⟨.int i, H, I, ⟨_, rfl⟩, q⟩
 ·obtain ⟨u, rfl, r1⟩ := vals1 r
  cases r1
  exact call_int_bool ⟨.int (if k then 1 else 0), H, I.tok _, ⟨_, rfl⟩, q⟩
end
structure ObjM (h : Heap) (x dx C : Addr) (mA : Str -> Option Value) : Prop where
 obj : h.get? x = some (PySem.W.instObj C dx)
 ns : h.Ns1 dx mA
 ne : dx ≠ x
theorem lookIn_ns {h : Heap} {dx : Addr} {mA : Str -> Option Value} (n : h.Ns1 dx mA) : ∃ od, h.get? dx = some od /\ ∀ name, PySem.W.lookIn name od = some (mA name) := by
 obtain ⟨o, es, ep, ho, hd, hk, _, hm⟩ := n
 refine ⟨o, ho, fun name => ?_⟩
 have e := hm name
 unfold nsFind findBy at e
 rw [<- Array.find?_toList] at e
 unfold PySem.W.lookIn
 rw [hd]
 dsimp only
 split
 ·rename_i y q
  rw [q] at e
  exact congrArg some e
 ·rename_i q
  rw [q] at e
  have a : es.toList.any (·.refKey) = false := by
   rw [List.any_eq_false]
   intro y hy
   obtain ⟨z, t, hkey⟩ := hk y (Array.mem_toList_iff.mp hy)
   simp [DictEntry.refKey, hkey]
  have a' : ¬ es.toList.any (·.refKey) = true := by rw [a]; exact zq14x
  rw [if_neg a']
  exact congrArg some e
theorem ObjM.look {h : Heap} {x dx C : Addr} {mA : Str -> Option Value} (I : ObjM h x dx C mA) : ∃ od, PySem.W.InstAt h x (PySem.W.instObj C dx) C (some od) /\ ∀ name, PySem.W.lookIn name od = some (mA name) :=
 let ⟨od, ho, hl⟩ := lookIn_ns I.ns
 ⟨od, ⟨I.obj, rfl, rfl, ho⟩, hl⟩
theorem RelO.some_of {v : V} {o : Option Value} (r : RelO (some v) o) : ∃ u, o = some u /\ RelV v u := by
 cases o with
 | none => exact (show False from r).elim
 | some u => exact ⟨u, rfl, r⟩
section
variable {P : Program} {w : World} {H H' : Hp} {h h' : Heap} {a C dx : Addr} {fs fs' : List (Str × V)}
theorem ins_get (hok : HOk P w H h) (e : H a = some (.ins C dx fs)) : ∃ mA, ObjM h a dx C mA /\ (∀ f, RelO (fs.lookup f) (mA f)) /\ PySem.Within mA (fs.map (·.1)) /\ fs.length <= 1000 /\ H dx = some (.own a) := by
 obtain ⟨d, z, ne, ob, mA, n, r, q⟩ := (show ObjOk P w H h a (.ins C dx fs) from hok a _ e)
 exact ⟨mA, ⟨ob, n, ne⟩, r, q, z, d⟩
end
structure Cls (K : PySem.W.Frag) (C : Addr) : Prop where
 pg : PySem.W.plainGet K C Str.empty = true
 hd : PySem.W.hasDictIn K C = true
 po : PySem.W.plainOver K C = true
 sa : PySem.W.findIn K (.ref C) "__setattr__" = some (some (.builtin "object.__setattr__"))
theorem Cls.get {K : PySem.W.Frag} {C : Addr} (c : Cls K C) (f : Str) : PySem.W.plainGet K C f = true := c.pg
section
variable {X : Cx} {pins : List (Addr × Obj)} {σ : St} {H : Hp} {s : Shared} {A : Around} {E : Value -> Shared -> Prop} {Q : Value -> Shared -> Prop} {c : Value} {b : Bool}
inductive TyOf (K : PySem.W.Frag) (H : Hp) : V -> Value -> Prop where
 | non : TyOf K H .non (.type "NoneType")
 | bl (x : Bool) : TyOf K H (.bl x) (.type "bool")
 | int (i : Int) : TyOf K H (.int i) (.type "int")
 | str (x : Str) : TyOf K H (.str x) (.type "str")
 | flt (x : UInt64) : TyOf K H (.flt x) (.type "float")
 | lst {a : Addr} {xs : List V} (e : H a = some (.lst xs)) : TyOf K H (.ref a) (.type "list")
 | frz {a : Addr} {o : Obj} {xs : List V} (e : H a = some (.frz o (.lst xs))) : TyOf K H (.ref a) (.type "list")
 | tup {a : Addr} {xs : List V} (e : H a = some (.tup xs)) : TyOf K H (.ref a) (.type "tuple")
 | dK {a : Addr} {kvs : List (Key × V)} (e : H a = some (.dK kvs)) : TyOf K H (.ref a) (.type "dict")
 | dT {a : Addr} {kvs : List (List Key × V)} (e : H a = some (.dT kvs)) : TyOf K H (.ref a) (.type "dict")
 | fzd {a : Addr} {o : Obj} {kvs : List (Key × V)} (e : H a = some (.frz o (.dK kvs))) : TyOf K H (.ref a) (.type "dict")
 | ins {a C dx : Addr} {fs : List (Str × V)} (e : H a = some (.ins C dx fs)) (cl : Cls K C) (ha : PySem.W.findIn K (.ref C) "__class__" = some (some (.builtin "object.__class__")))
   (hn : PySem.W.specialIn K (.builtin "object.__class__") "__get__" = some (some (.builtin "getset_descriptor.__get__"))) (htk : PySem.W.takesIn K (.builtin "object.__class__") = some true)
   (hm : PySem.W.mroIn K C (.type "object") = some true) : TyOf K H (.ref a) (.ref C)
theorem isinst_ok {x : V} {u t : Value} (I : Inv X pins σ H s) (rx : RelV x u) (ty : TyOf X.K H x t) (e : PySem.W.kitOne X.K t c = some b) (h : ∀ tk, Q (.bool b) { s with toks := tk }) :
    wpAny (model X.prog X.w) A (call (.builtin "isinstance") [u, c]) Q E s := by
  cases ty with
  | non => cases (show u = Value.none from rx); exact zq53x PySem.W.kitx_none I.kIn True.intro e (fun z => nomatch z) h
  | bl y => cases (show u = Value.bool y from rx); exact zq53x PySem.W.kitx_bool I.kIn True.intro e (fun z => nomatch z) h
  | int i => obtain ⟨t, q⟩ := (show ∃ t, u = Value.int i t from rx); cases q; exact zq53x PySem.W.kitx_int I.kIn True.intro e (fun z => nomatch z) h
  | str y => obtain ⟨t, q⟩ := (show ∃ t, u = Value.str y t from rx); cases q; exact zq53x PySem.W.kitx_str I.kIn True.intro e (fun z => nomatch z) h
  | flt y => obtain ⟨t, q⟩ := (show ∃ t, u = Value.float y t from rx); cases q; exact zq53x PySem.W.kitx_float I.kIn True.intro e (fun z => nomatch z) h
  | @lst a xs ea =>
    cases (show u = Value.ref a from rx)
    obtain ⟨_, _, n, _, h1⟩ := (show ObjOk X.prog X.w H s.heap a (.lst xs) from I.hok a _ ea)
    exact zq53x zq140x I.kIn ⟨_, h1, rfl⟩ e (fun z => nomatch z) h
  | @frz a ob xs ea =>
    cases (show u = Value.ref a from rx)
    obtain ⟨_, _, _, n, _, h1⟩ := (show ObjOk X.prog X.w H s.heap a (.frz ob (.lst xs)) from I.hok a _ ea)
    exact zq53x zq140x I.kIn ⟨_, h1, rfl⟩ e (fun z => nomatch z) h
  | @tup a xs ea =>
    cases (show u = Value.ref a from rx)
    obtain ⟨_, _, _, p⟩ := (show ObjOk X.prog X.w H s.heap a (.tup xs) from I.hok a _ ea)
    obtain ⟨o, h1, h2, _⟩ := p
    exact zq53x PySem.W.kitx_tuple I.kIn ⟨o, h1, h2⟩ e (fun z => nomatch z) h
  | @dK a kvs ea =>
    cases (show u = Value.ref a from rx)
    obtain ⟨_, _, vs, _, p⟩ := (show ObjOk X.prog X.w H s.heap a (.dK kvs) from I.hok a _ ea)
    obtain ⟨o, es, ep, h1, h2, _⟩ := p
    exact zq53x zq117x I.kIn ⟨o, h1, h2.1⟩ e (fun z => nomatch z) h
  | @dT a kvs ea =>
    cases (show u = Value.ref a from rx)
    obtain ⟨_, _, xs, _, o, es, ep, h1, h2, _⟩ := (show ObjOk X.prog X.w H s.heap a (.dT kvs) from I.hok a _ ea)
    exact zq53x zq117x I.kIn ⟨o, h1, h2.1⟩ e (fun z => nomatch z) h
  | @fzd a ob kvs ea =>
    cases (show u = Value.ref a from rx)
    obtain ⟨_, _, _, vs, _, o, es, ep, h1, h2, _⟩ := I.hok a _ ea
    exact zq53x zq117x I.kIn ⟨o, h1, h2.1⟩ e (fun z => nomatch z) h
  | @ins a C dx fs ea cl ha hn htk hm =>
    cases (show u = Value.ref a from rx)
    obtain ⟨mA, O, _⟩ := ins_get I.hok ea
    obtain ⟨od, J, _⟩ := O.look
    exact zq53x (PySem.W.kitx_own (cl.get _) cl.hd ha hn htk hm) I.kIn J e (fun z => nomatch z) h
end
structure Room (k : Nat) (A : Around) : Prop where
 hd : A.handled = none
 dp : A.depth + 3 * k + 5 < recursionLimit
 un : A.units + 16 * k + 200 < cLine
theorem Room.mono {j k : Nat} {A : Around} (r : Room k A) (h : j <= k) : Room j A := ⟨r.hd, by have := r.dp; omega, by have := r.un; omega⟩
theorem Room.deeper {k : Nat} {A : Around} (r : Room (k + 1) A) (env : Env) : Room k (A.deeper env) :=
 ⟨r.hd, by have := r.dp; show A.depth + 1 + 3 * k + 5 < _; omega, by have := r.un; show A.units + 3 + 16 * k + 200 < _; omega⟩
theorem Room.depth {k : Nat} {A : Around} (r : Room k A) : A.depth < recursionLimit := by have := r.dp; omega
theorem Room.units {k : Nat} {A : Around} (r : Room k A) : A.units + 64 < cLine := by have := r.un; omega
def tNil : TA := fun _ H Q => Q [] H
def tCons (ta : TE) (tr : TA) : TA := fun σ H Q => ta σ H fun x H1 => tr σ H1 fun xs H2 => Q (x :: xs) H2
section
variable {X : Cx} {e : Expr} {es : List Expr} {te : TE} {t : TA} {pos : Pos}
theorem pa_nil : PA X [] tNil := fun _ _ _ _ H Q I h => Calls.spliced_nil ⟨[], H, I, .nil, h⟩
theorem pa_cons (ha : PE X e te) (hr : PA X es t) (hs : starEach (e :: es) X.env = (false, eval e X.env) :: starEach es X.env := by rfl) : PA X (e :: es) (tCons te t) := by
 intro pos pins s σ H Q I h
 rw [hs]
 show wpAny _ _ (spliced ((false, eval e X.env) :: backTo pos (starEach es X.env))) _ _ s
 refine Calls.spliced_cons (thn (ha pins s σ H _ I h) fun u s1 ⟨x, H1, I1, r1, q1⟩ => ?_)
 exact thn (hr pos pins s1 σ H1 _ I1 q1) fun us s2 ⟨xs, H2, I2, r2, q2⟩ => ⟨x :: xs, H2, I2, .cons r1 r2, q2⟩
def tTup (t : TA) : TE := fun σ H Q => t σ H fun xs H1 => xs.length <= sizeLine /\ ∀ p, H1 p = none -> Q (.ref p) (upd H1 p (.tup xs))
def tLst (t : TA) : TE := fun σ H Q => t σ H fun xs H1 => xs.length <= sizeLine /\ ∀ p, H1 p = none -> Q (.ref p) (upd H1 p (.lst xs))
theorem pe_tup {x1} (h : PA X es t) : PE X (.Tuple es x1 pos) (tTup t) := by
 intro pins s σ H Q I hq
 refine wpAny_Tuple_spliced (thn (h pos pins s σ H _ I hq) fun us s1 ⟨xs, H1, I1, r, z, q⟩ => ⟨by rw [<- r.length]; exact z, ?_⟩)
 have hf : H1 s1.heap.objs.size = none := I1.hok.fresh (zq3x _)
 refine ⟨.ref s1.heap.objs.size, upd H1 s1.heap.objs.size (.tup xs), I1.laid (t' := s1.toks) (fun b u e => zq7x _ e) (zq3x _) ?_, rfl, q _ hf⟩
 exact ⟨z, us, r, ⟨_, zq27x _ rfl, rfl, _, rfl⟩⟩
theorem pe_lst (h : PA X es t) : PE X (.List es pos) (tLst t) := by
 intro pins s σ H Q I hq
 refine wpAny_List_spliced (thn (h pos pins s σ H _ I hq) fun us s1 ⟨xs, H1, I1, r, z, q⟩ => ⟨by rw [<- r.length]; exact z, ?_⟩)
 have hf : H1 s1.heap.objs.size = none := I1.hok.fresh (zq3x _)
 refine ⟨.ref s1.heap.objs.size, upd H1 s1.heap.objs.size (.lst xs), I1.laid (t' := s1.toks) (fun b u e => zq7x _ e) (zq3x _) ?_, rfl, q _ hf⟩
 exact ⟨z, us, 0, r, zq27x _ rfl⟩
end
abbrev Sp := List V -> Hp -> VK -> XK -> Prop
abbrev CXT := List Env -> Hp -> Shared -> XK -> Value -> Shared -> Prop
structure Env0 (P : Program) (w : World) (K : PySem.W.Frag) (mg : Str -> Option Value) (base : Heap) (A : Around) (outer : List Env) (s : Shared) (H : Hp) : Prop where
 frames : A.frames = some outer
 mod : Mod K mg base
 bs : ∀ b o, base.get? b = some o -> s.heap.get? b = some o /\ H b = none
 bsz : base.objs.size <= s.heap.objs.size
 funs : s.heap.FunFrames base outer
 frf : ∀ b ∈ frs outer, H b = none
 hok : HOk P w H s.heap
 bare : AllBare s.gens
def CE (outer : List Env) (P : Program) (w : World) (H : Hp) (s : Shared) (Q : VK) (u : Value) (s' : Shared) : Prop :=
 ∃ v H', s'.os = s.os /\ AllBare s'.gens /\ Un (frs outer) [] H H' s.heap s'.heap /\ HOk P w H' s'.heap /\ RelV v u /\ Q v H'
def CR (CX : CXT) (outer : List Env) (P : Program) (w : World) (H : Hp) (s : Shared) (Q : VK) (E : XK) (r : Result) (s' : Shared) : Prop :=
 match r with
 | .ok (.ret u) => CE outer P w H s Q u s'
 | .ok _ => False
 | .error e => CX outer H s E e s'
structure FnOk (P : Program) (w : World) (K : PySem.W.Frag) (mg : Str -> Option Value) (base : Heap) (CX : CXT) (k : Nat) (f : Addr) (fd : FuncData) (ps : List Str) (sp : Sp) : Prop where
 len : ∀ vs H Q E, sp vs H Q E -> vs.length = ps.length
 run : ∀ (A : Around) (outer : List Env) (s : Shared) (H : Hp) (args : Args) (us : List Value) (vs : List V) (Q : VK) (E : XK), Room k A -> Env0 P w K mg base A outer s H -> BindsTo s fd args (ps.zip us) -> Vals vs us -> sp vs H Q E ->
  codeAny (model P w) A (.call (.ref f) args) (CR CX outer P w H s Q E) s
section
variable {X : Cx} {pins : List (Addr × Obj)} {σ : St} {H : Hp} {s s' : Shared}
theorem Inv.env0 (I : Inv X pins σ H s) : Env0 X.prog X.w X.K X.mg X.base X.A X.stack s H :=
 ⟨I.ok.frames, I.ok.mod, I.bs, zq24x I.ok.bsz I.sz, I.stack, I.stkFree, I.hok, I.bare⟩
theorem Inv.after {Q : VK} {u : Value} (I : Inv X pins σ H s) (h : CE X.stack X.prog X.w H s Q u s') : EP X pins σ Q u s' := by
 obtain ⟨v, H', os, bare, un, hok, r, q⟩ := h
 obtain ⟨hh, g, d, t, os'⟩ := s'
 obtain rfl : os' = s.os := os
 exact ⟨v, H', I.call (h' := hh) (g' := g) (d' := d) (t' := t) (ch := []) un hok bare (fun b z => absurd z (by simp)), r, q⟩
end
def tCall (sp : Sp) (dvs : List V) (E : XK) (t : TA) : TE := fun σ H Q => t σ H fun vs H1 => sp (vs ++ dvs) H1 Q E
def Binds (K : PySem.W.Frag) (fd : FuncData) (ps : List Str) (ds : List Value) : Prop :=
 ∀ (s : Shared) (us : List Value), K.In s.heap -> (us ++ ds).length = ps.length -> BindsTo s fd ⟨us, []⟩ (ps.zip (us ++ ds))
theorem Binds.all {K : PySem.W.Frag} {fd : FuncData} {ps : List Str} (h : ∀ us : List Value, us.length = ps.length -> bindArgs fd ⟨us, []⟩ = pure (ps.zip us)) : Binds K fd ps [] := fun s us _ hl => by
 rw [zq87x] at hl ⊢
 exact .of_eq (h us hl)
def Passes (CX : CXT) (X : Cx) (E : XK) : Prop := ∀ (pins : List (Addr × Obj)) (σ : St) (H : Hp) (s : Shared) (e : Value) (s' : Shared), Inv X pins σ H s -> CX X.stack H s E e s' -> X.xe e s'
section
variable {X : Cx} {CX : CXT} {k : Nat} {f C : Addr} {fd : FuncData} {ps : List Str} {sp : Sp} {dvs : List V} {ds : List Value} {E : XK} {x m : Str} {p pos apos : Pos} {e o : Expr} {es : List Expr} {ta : TE} {t : TA}
theorem run_fn {pins : List (Addr × Obj)} {σ : St} {H : Hp} {s : Shared} {Q : VK} {us : List Value} {vs : List V} (F : FnOk X.prog X.w X.K X.mg X.base CX k f fd ps sp) (hr : Room k X.A) (hb : Binds X.K fd ps ds) (hd : Vals dvs ds) (hx : Passes CX X E)
    (I : Inv X pins σ H s) (r : Vals vs us) (h : sp (vs ++ dvs) H Q E) : wpAny (model X.prog X.w) X.A (call (.ref f) us) (EP X pins σ Q) X.xe s := by
  have r2 : Vals (vs ++ dvs) (us ++ ds) := r.append hd
  have hl : (us ++ ds).length = ps.length := by rw [<- r2.length]; exact F.len _ _ _ _ h
  refine wpAny_call (codeAny_mono (F.run X.A X.stack s H ⟨us, []⟩ (us ++ ds) (vs ++ dvs) Q E hr I.env0 (hb s us I.kIn hl) r2 h) fun r s' hq => ?_)
  cases r with
  | error e => exact hx pins σ H s e s' I hq
  | ok fl =>
    cases fl with
    | ret u => exact I.after hq
    | next => exact False.elim hq
    | brk => exact False.elim hq
    | cont => exact False.elim hq
theorem pe_call (F : FnOk X.prog X.w X.K X.mg X.base CX k f fd ps sp) (hr : Room k X.A) (hg : Gl X x) (hm : X.mg x = some (.ref f)) (hk : PySem.W.keepIn X.K (.ref f) = true) (hb : Binds X.K fd ps ds) (hd : Vals dvs ds) (hx : Passes CX X E)
  (ha : PA X (e :: es) t) (hdb : (x == ("__debug__" : Str)) = false := by decide) (he : starEach (e :: es) X.env = (false, eval e X.env) :: starEach es X.env := by rfl) (hpl : (backTo pos (starEach es X.env)).any (·.1) = false := by rfl) :
  PE X (.Call (.Name x p) (e :: es) [] pos) (tCall sp dvs E t) := by
 intro pins s σ H Q I h
 refine wpAny_Call_Name_kw (ld_glob I hg hm ?_ hdb)
 refine PySem.W.callWith_K (h₀ := X.base) I.ok.mod.kin hk (thn (ha pos pins s σ H _ I h) fun us s1 ⟨vs, H1, I1, r, q⟩ => ⟨I1.kIn, ?_⟩) he hpl
 exact run_fn F hr hb hd hx I1 r q
end
structure FnScope (N P : List Str) (sc : Scope) : Prop where
 kind : sc.kind = .function
 co : sc.isCoroutine = false
 gen : sc.isGenerator = false
 nd : N.Nodup
 pre : N.take P.length = P
 par : ∀ x ∈ P, sc.names.lookup x = some .local \/ sc.names.lookup x = some .cell
 nofree : ∀ y ∈ sc.names, y.2 ≠ .free
theorem bindL_out {kindOf : Str -> Option NameKind} {x : Str} : ∀ {binds : List (Str × Value)} {m : Str -> Option Value}, (∀ v, (x, v) ∉ binds) -> bindL kindOf binds m x = m x
  | [], _, _ => rfl
  | (n, v) :: r, m, h => by
    unfold bindL
    rw [bindL_out fun w hw => h w (zq25x _ hw)]
    split
    · have : x ≠ n := by rintro rfl; exact h v zq22x
      simp [this]
    · rfl
theorem bindC_out {kindOf : Str -> Option NameKind} {x : Str} : ∀ {binds : List (Str × Value)} {m : Str -> Option Value}, (∀ v, (x, v) ∉ binds) -> bindC kindOf binds m x = m x
  | [], _, _ => rfl
  | (n, v) :: r, m, h => by
    unfold bindC
    rw [bindC_out fun w hw => h w (zq25x _ hw)]
    split
    · rfl
    · have : x ≠ n := by rintro rfl; exact h v zq22x
      simp [this]
theorem bindL_get {kindOf : Str -> Option NameKind} {x : Str} {v : Value} : ∀ {P : List Str} {vs : List Value} {i : Nat} {m : Str -> Option Value}, P.Nodup -> P[i]? = some x -> vs[i]? = some v -> kindOf x = some .local ->
    bindL kindOf (P.zip vs) m x = some v
  | [], _, _, _, _, h, _, _ => by simp at h
  | _ :: _, [], _, _, _, _, h, _ => by simp at h
  | p :: P, w :: vs, 0, m, nd, h1, h2, hk => by
    simp at h1 h2; subst h1; subst h2
    show bindL kindOf ((p, w) :: P.zip vs) m p = _
    unfold bindL
    rw [bindL_out fun v hv => (zq65x.mp nd).1 (zq141x hv).1, if_pos hk]
    simp
  | p :: P, w :: vs, i + 1, m, nd, h1, h2, hk => by
    show bindL kindOf ((p, w) :: P.zip vs) m x = _
    unfold bindL
    exact bindL_get (i := i) (zq65x.mp nd).2 (by simpa using h1) (by simpa using h2) hk
theorem bindC_get {kindOf : Str -> Option NameKind} {x : Str} {v : Value} : ∀ {P : List Str} {vs : List Value} {i : Nat} {m : Str -> Option Value}, P.Nodup -> P[i]? = some x -> vs[i]? = some v -> kindOf x ≠ some .local ->
    bindC kindOf (P.zip vs) m x = some v
  | [], _, _, _, _, h, _, _ => by simp at h
  | _ :: _, [], _, _, _, _, h, _ => by simp at h
  | p :: P, w :: vs, 0, m, nd, h1, h2, hk => by
    simp at h1 h2; subst h1; subst h2
    show bindC kindOf ((p, w) :: P.zip vs) m p = _
    unfold bindC
    rw [bindC_out fun v hv => (zq65x.mp nd).1 (zq141x hv).1, if_neg hk]
    simp
  | p :: P, w :: vs, i + 1, m, nd, h1, h2, hk => by
    show bindC kindOf ((p, w) :: P.zip vs) m x = _
    unfold bindC
    exact bindC_get (i := i) (zq65x.mp nd).2 (by simpa using h1) (by simpa using h2) hk
def start (N : List Str) (vs : List V) : St := vs.map some ++ List.replicate (N.length - vs.length) none
def cxOf (CX : CXT) (P : Program) (w : World) (K : PySem.W.Frag) (mg : Str -> Option Value) (base : Heap) (N : List Str) (qual : Str) (scope : Scope) (f : Addr) (cd : Value) (A : Around) (outer : List Env) (s : Shared) (H : Hp) (E : XK) : Cx where
 prog := P
 w := w
 K := K
 mg := mg
 base := base
 A := A.deeper (envOfC qual scope s.heap.objs.size f cd)
 N := N
 s₀ := s
 H₀ := H
 env := envOfC qual scope s.heap.objs.size f cd
 outer := outer
 stack := envOfC qual scope s.heap.objs.size f cd :: outer
 ex := []
 calm := true
 fn := fun _ => true
 pn := []
 xe := fun e s' => wpAny (model P w) (A.deeper (envOfC qual scope s.heap.objs.size f cd)) (leaving (envOfC qual scope s.heap.objs.size f cd) e) (fun _ s'' => CX outer H s E e s'') (fun e' s'' => CX outer H s E e' s'') s'
theorem cell_has {sc : Scope} {n : Nat} {x : Str} (h : sc.names.lookup x = some .cell) : ∃ c, (cellsFrom n sc.names []).lookup x = some c := by
 have q := zq176x sc.names n [] (.inl h)
 exact zq142x.mp q
theorem inv_start {CX : CXT} {P : Program} {w : World} {K : PySem.W.Frag} {mg : Str -> Option Value} {base : Heap} {N ps : List Str} {qual : Str} {scope : Scope} {f : Addr} {cd : Value} {A : Around} {outer : List Env} {s s1 : Shared} {H : Hp} {E : XK} {us : List Value} {vs : List V}
  (S : FnScope N ps scope) (hd : A.handled = none) (e0 : Env0 P w K mg base A outer s H) (hl : vs.length = ps.length) (r : Vals vs us)
  (x : InCallC s s.heap.objs.size (bindL (envOfC qual scope s.heap.objs.size f cd).kindOf (ps.zip us) fun _ => none) (cellsFrom (s.heap.objs.size + 1) scope.names []) (bindC (envOfC qual scope s.heap.objs.size f cd).kindOf (ps.zip us) fun _ => none) s1) :
  Inv (cxOf CX P w K mg base N qual scope f cd A outer s H E) [] (start N vs) H s1 := by
 have hpl : ps.length <= N.length := by have := congrArg List.length S.pre; rw [zq58x] at this; omega
 obtain ⟨h1, tk, rfl, hk⟩ := x.done
 have noA : ∀ b : Addr, b ∉ (cxOf CX P w K mg base N qual scope f cd A outer s H E).ex := fun b z => absurd (show b ∈ ([] : List Addr) from z) (by simp)
 refine ⟨⟨e0.mod, S.kind, rfl, rfl, zq3x _, fun y z c h1 h2 => ?_, fun y hy => ?_, fun y c _ h => ?_, fun _ => hd, Around.frames_deeper e0.frames, .inr ⟨rfl, rfl⟩, fun b z => absurd z (noA b), e0.bs, e0.bsz, fun b _ _ => noA b, fun b z => absurd z (noA b), e0.funs, e0.frf⟩,
  rfl, e0.bare, Un.kept hk, ⟨_, x.toInCall.ns, fun i y v h1 h2 h3 => ?_⟩, fun y c h => ⟨_, x.cell y c h⟩, e0.hok.fresh (zq3x _), fun y c h => ?_, fun p hp => absurd (show p ∈ ([] : List (Addr × Obj)) from hp) (by simp), e0.hok.kept hk, ?_⟩
 ·exact name_of_addr x.apart (zq88x h1) (zq88x h2)
 ·have hy : scope.names.lookup y = some .cell \/ scope.names.lookup y = some .free := hy
  rcases hy with hy | hy
  ·exact cell_has hy
  ·exact absurd rfl (S.nofree _ (zq88x hy))
 ·exact zq43x (x.above y c (zq88x h))
 ·have hi : i < vs.length := by
   unfold start at h2
   by_cases hi : i < vs.length
   ·exact hi
   ·rw [zq46x (by simpa using hi)] at h2
    rw [zq33x] at h2
    split at h2 <;> cases h2
  have ha : vs[i]? = some v := by
   unfold start at h2
   rw [zq38x (by simpa using hi), zq2x] at h2
   cases e : vs[i]? with
   | none => rw [e] at h2; cases h2
   | some a => rw [e] at h2; cases h2; rfl
  obtain ⟨u, hu, rv⟩ := r.get ha
  have hp : ps[i]? = some y := by
   rw [<- S.pre, List.getElem?_take_of_lt (by omega)]; exact h1
  have ndP : ps.Nodup := by rw [<- S.pre]; exact S.nd.sublist (List.take_sublist _ _)
  refine ⟨u, rv, ?_⟩
  rcases S.par y (zq4x hp) with k | k
  ·exact .inl ⟨k, bindL_get ndP hp hu k⟩
  ·obtain ⟨c, e⟩ := cell_has (n := s.heap.objs.size + 1) k
   refine .inr ⟨.inl k, c, e, ?_⟩
   have q := x.cell y c e
   rw [bindC_get ndP hp hu (by show scope.names.lookup y ≠ _; rw [k]; decide)] at q
   exact q
 ·exact e0.hok.fresh (zq43x (x.above y c (zq88x h)))
 ·unfold start
  show _ = N.length
  rw [zq20x, zq0x, List.length_replicate]
  omega
theorem fn_of {CX : CXT} {P : Program} {w : World} {K : PySem.W.Frag} {mg : Str -> Option Value} {base : Heap} {k : Nat} {f : Addr} {name qual : Str} {params : Arguments} {body : List Stmt} {scope : Scope} {dV kV doc pm cdv ct oc : Value} {an od : Option Addr}
    {osl : Array (Option Value)} {N ps : List Str} {sp : Sp} (lk : K.lookup f = some ⟨oc, od, .func (PySem.W.fnOf name qual params body scope dV kV doc pm an cdv ct), osl⟩) (hcd : PySem.W.codeIn K cdv qual = true) (S : FnScope N ps scope)
    (len : ∀ vs H Q E, sp vs H Q E -> vs.length = ps.length)
    (hbody : ∀ (A : Around) (outer : List Env) (s : Shared) (H : Hp) (vs : List V) (Q : VK) (E : XK), Room k (A.deeper (envOfC qual scope s.heap.objs.size f cdv)) -> sp vs H Q E ->
      ∃ t, PSs (cxOf CX P w K mg base N qual scope f cdv A outer s H E) body t /\ t { nx := fun _ H' => Q .non H', rt := Q } (start N vs) H) :
    FnOk P w K mg base CX (k + 1) f (PySem.W.fnOf name qual params body scope dV kV doc pm an cdv ct) ps sp := by
  refine ⟨len, fun A outer s H args us vs Q E hr e0 hb r hsp => ?_⟩
  have hl := len _ _ _ _ hsp
  have KX : K.In s.heap := e0.mod.kin.keeps fun b o e => (e0.bs b o e).1
  have lim : s.heap.NoLimit := e0.mod.nolimit.keeps fun b o e => (e0.bs b o e).1
  have hkind : ∀ y ∈ ps.zip us, scope.names.lookup y.1 = some .local \/ (scope.names.lookup y.1 = some .cell /\ ((cellsFrom (s.heap.objs.size + 1) scope.names []).lookup y.1).isSome = true) := fun ⟨n, v⟩ hy => by
    rcases S.par n (zq141x hy).1 with q | q
    · exact .inl q
    · exact .inr ⟨q, zq176x _ _ _ (.inl q)⟩
  refine codeAny_call_function hr.depth (KX _ _ lk) rfl S.co S.gen rfl (PySem.W.codeRec_of KX hcd) (hb _ _ _ _ ?_)
  refine wpAny_newFunctionEnv_cells S.kind hkind fun env he s1 x => ?_
  subst he
  refine ⟨lim.keeps x.toInCall.keep, codeAny_func ?_⟩
  obtain ⟨t, ht, hq⟩ := hbody A outer s H vs Q E (hr.deeper _) hsp
  have I : Inv (cxOf CX P w K mg base N qual scope f cdv A outer s H E) [] (start N vs) H s1 := inv_start S hr.hd e0 hl r x
  refine wpAny_mono (ht [] s1 (start N vs) H _ I hq) (fun fl s' hs => ?_) fun e s' hs => hs
  have fin : ∀ {σ' : St} {H' : Hp} {v : V} {u : Value}, Inv (cxOf CX P w K mg base N qual scope f cdv A outer s H E) [] σ' H' s' -> RelV v u -> Q v H' -> CE outer P w H s Q u s' :=
    fun {σ' H' v u} J rv q => ⟨v, H', J.os, J.bare, J.base, J.hok, rv, q⟩
  cases fl with
  | ret u =>
    obtain ⟨v, σ', H', J, rv, q⟩ := hs
    exact fin J rv q
  | next =>
    obtain ⟨σ', H', J, q⟩ := hs
    exact fin (v := V.non) (u := Value.none) J rfl q
  | brk =>
    obtain ⟨_, _, _, q⟩ := hs
    exact False.elim q
  | cont =>
    obtain ⟨_, _, _, q⟩ := hs
    exact False.elim q
section
variable {X : Cx} {x : Str} {p pos : Pos} {e : Expr} {es : List Expr} {t : TA} {id T : String} {r : List V -> Hp -> VK -> Prop}
def tCB (r : List V -> Hp -> VK -> Prop) (t : TA) : TE := fun σ H Q => t σ H fun vs H1 => r vs H1 Q
theorem pe_callB (hc : CallR X (.builtin id) r) (hg : Gl X x) (hm : X.mg x = none) (hv : bootBuiltins x = some (.builtin id)) (ha : PA X (e :: es) t) (hn : x ≠ "__name__" := by decide) (hdb : (x == ("__debug__" : Str)) = false := by decide)
  (he : starEach (e :: es) X.env = (false, eval e X.env) :: starEach es X.env := by rfl) (hpl : (backTo pos (starEach es X.env)).any (·.1) = false := by rfl) : PE X (.Call (.Name x p) (e :: es) [] pos) (tCB r t) := by
 intro pins s σ H Q I h
 refine wpAny_Call_Name_kw (ld_blt I hg hm hv ?_ hn hdb)
 exact PyProof.Rows.callWith_builtin1 (thn (ha pos pins s σ H _ I h) fun us s1 ⟨vs, H1, I1, r1, q1⟩ => hc pins s1 σ H1 vs us Q I1 r1 q1) he hpl
theorem pe_callTy (hc : CallR X (.type T) r) (hg : Gl X x) (hm : X.mg x = none) (hv : bootBuiltins x = some (.type T)) (ha : PA X (e :: es) t) (hn : x ≠ "__name__" := by decide) (hdb : (x == ("__debug__" : Str)) = false := by decide)
  (he : starEach (e :: es) X.env = (false, eval e X.env) :: starEach es X.env := by rfl) (hpl : (backTo pos (starEach es X.env)).any (·.1) = false := by rfl) : PE X (.Call (.Name x p) (e :: es) [] pos) (tCB r t) := by
 intro pins s σ H Q I h
 refine wpAny_Call_Name_kw (ld_blt I hg hm hv ?_ hn hdb)
 exact zq116x (thn (ha pos pins s σ H _ I h) fun us s1 ⟨vs, H1, I1, r1, q1⟩ => hc pins s1 σ H1 vs us Q I1 r1 q1) he hpl
end
end L2
namespace HT
open PySem PyProof.Rows
section
open PySem.SeqAt
open PySem.AutoSeq1 (wpAny_loadPart')
open PySem.MeetsSeq PySem.MeetsSeq2 PySem.MeetsSeq3
end
section
variable {prog : Program} {w : World} {A : Around} {E : Value -> Shared -> Prop} {s : Shared}
def sIx (n d : Nat) : Option Int -> Nat
 | none => d
 | some v => if v < 0 then (v + (n : Int)).toNat else min v.toNat n
theorem sIx_none (n d : Nat) : sIx n d none = d := rfl
end
end HT
namespace L2
open PySem PySem.Spec PyProof.Rows
abbrev TO := St -> Hp -> (Option Int -> Hp -> Prop) -> Prop
def PO (X : Cx) (e : Option Expr) (t : TO) : Prop :=
 ∀ (pins : List (Addr × Obj)) (s : Shared) (σ : St) (H : Hp) (Q : Option Int -> Hp -> Prop), Inv X pins σ H s -> t σ H Q ->
  wpAny (model X.prog X.w) X.A (evalPart e X.env) (fun u s' => ∃ o H', Inv X pins σ H' s' /\ IsPart u o /\ Q o H') X.xe s
def tNoPart : TO := fun _ H Q => Q none H
def tPart (t : TE) : TO := fun σ H Q => t σ H fun x H1 => ∃ i, x = .int i /\ Q (some i) H1
section
variable {X : Cx} {e : Expr} {te : TE} {lo hi : Option Expr} {tl th : TO} {pos p2 : Pos}
theorem po_none : PO X none tNoPart := by
 intro pins s σ H Q I h
 rw [evalPart_none]
 exact wpAny_pure ⟨none, H, I, .none, h⟩
theorem po_some (h : PE X e te) : PO X (some e) (tPart te) := by
 intro pins s σ H Q I hw
 rw [evalPart_some]
 refine thn (h pins s σ H _ I hw) fun u s1 ⟨x, H1, I1, r1, q1⟩ => ?_
 obtain ⟨i, rfl, q⟩ := q1
 obtain ⟨t, rfl⟩ := r1
 exact ⟨some i, H1, I1, .int i t, q⟩
def SlR (X : Cx) (r : V -> Option Int -> Option Int -> Hp -> VK -> Prop) : Prop :=
 ∀ (pins : List (Addr × Obj)) (s : Shared) (σ : St) (H : Hp) (x : V) (v vl vu : Value) (lo hi : Option Int) (sl : Addr) (Q : VK), Inv X pins σ H s -> RelV x v -> s.heap.IsSliceOf sl vl vu .none -> IsPart vl lo -> IsPart vu hi -> r x lo hi H Q ->
  ∃ T id, typeLookup (.type T) "__getitem__" = pure (some (.builtin id)) /\ s.TypeIs v T /\ wpAny (model X.prog X.w) X.A (getItem v (.ref sl)) (EP X pins σ Q) X.xe s
def tSl (r : V -> Option Int -> Option Int -> Hp -> VK -> Prop) (te : TE) (tl th : TO) : TE := fun σ H Q => te σ H fun x H1 => tl σ H1 fun l H2 => th σ H2 fun u H3 => r x l u H3 Q
theorem pe_slice {r : V -> Option Int -> Option Int -> Hp -> VK -> Prop} (hr : SlR X r) (he : PE X e te) (hl : PO X lo tl) (hu : PO X hi th) : PE X (.Subscript e (.Slice lo hi none p2) pos) (tSl r te tl th) := by
 intro pins s σ H Q I h
 refine Subscript_ (thn (he pins s σ H _ I h) fun v s1 ⟨x, H1, I1, r1, q1⟩ => ?_)
 refine wpAny_Slice (thn (hl pins s1 σ H1 _ I1 q1) fun vl s2 ⟨l, H2, I2, pl, q2⟩ => thn (hu pins s2 σ H2 _ I2 q2) fun vu s3 ⟨u, H3, I3, pu, q3⟩ => ?_)
 rw [evalPart_none]
 refine wpAny_pure ?_
 have I4 : Inv X pins σ H3 { s3 with heap := s3.heap.push { cls := .type "slice", data := .fields #[vl, vu, .none] } } := I3.kept (t' := s3.toks) fun b ob q => zq7x _ q
 obtain ⟨T, id, hT, ht, hg⟩ := hr pins { s3 with heap := s3.heap.push { cls := .type "slice", data := .fields #[vl, vu, .none] } } σ H3 x v vl vu l u s3.heap.objs.size Q I4 r1 (Heap.IsSliceOf.new ..) pl pu q3
 show wpAny (model X.prog X.w) X.A (subscriptTail e (.Slice lo hi none p2) v (.ref s3.heap.objs.size)) (EP X pins σ Q) X.xe { s3 with heap := s3.heap.push { cls := .type "slice", data := .fields #[vl, vu, .none] } }
 exact tail_any (ops := [.ref s3.heap.objs.size, v]) ht hT hg (by with_unfolding_all rfl)
def cutV (xs : List V) (lo hi : Option Int) : List V := (xs.drop (HT.sIx xs.length 0 lo)).take (HT.sIx xs.length xs.length hi - HT.sIx xs.length 0 lo)
theorem cutV_length (xs : List V) (lo hi : Option Int) : (cutV xs lo hi).length <= xs.length := by
 unfold cutV
 rw [zq58x, zq89x]
 omega
def rSlT (K : PySem.W.Frag) : V -> Option Int -> Option Int -> Hp -> VK -> Prop := fun x lo hi H Q => ∃ a xs, x = .ref a /\ SqT K H a xs /\
 ¬ (HT.sIx xs.length 0 lo = 0 /\ HT.sIx xs.length xs.length hi = xs.length) /\ ∀ p, H p = none -> Q (.ref p) (upd H p (.tup (cutV xs lo hi)))
def rCatT (K : PySem.W.Frag) : R2 := fun x y H Q => ∃ a b xs ys, x = .ref a /\ y = .ref b /\ SqT K H a xs /\ SqT K H b ys /\ xs ≠ [] /\ xs.length + ys.length <= sizeLine /\
 (ys = [] -> Q (.ref a) H) /\ (ys ≠ [] -> ∀ p, H p = none -> Q (.ref p) (upd H p (.tup (xs ++ ys))))
end
def ixN (n : Nat) (i : Int) : Option Nat := if 0 <= i then (if i < n then some i.toNat else none) else if -(n : Int) <= i then some (i + n).toNat else none
def atI {α : Type} (xs : List α) (i : Int) : Option α := (ixN xs.length i).bind fun j => xs[j]?
theorem ixN_seq {n : Nat} {i : Int} {j : Nat} (h : ixN n i = some j) : seqIndex? i n = some j /\ j < n /\ -(n : Int) <= i /\ i < n := by
 unfold ixN at h
 by_cases h0 : 0 <= i
 ·rw [if_pos h0] at h
  by_cases h1 : i < n
  ·rw [if_pos h1] at h
   have e : i.toNat = j := zq37x h
   exact ⟨by rw [seqIndex_of h0 h1, e], by omega, by omega, h1⟩
  ·rw [if_neg h1] at h; cases h
 ·rw [if_neg h0] at h
  by_cases h1 : -(n : Int) <= i
  ·rw [if_pos h1] at h
   have e : (i + n).toNat = j := zq37x h
   exact ⟨by rw [seqIndex_neg (by omega) h1, e], by omega, h1, by omega⟩
  ·rw [if_neg h1] at h; cases h
theorem atI_get {α : Type} {xs : List α} {i : Int} {v : α} (h : atI xs i = some v) : ∃ j, seqIndex? i xs.length = some j /\ xs[j]? = some v /\ j < xs.length /\ -(xs.length : Int) <= i /\ i < xs.length := by
  unfold atI at h
  cases e : ixN xs.length i with
  | none => rw [e] at h; cases h
  | some j =>
    rw [e] at h
    obtain ⟨h1, h2, h3, h4⟩ := ixN_seq e
    exact ⟨j, h1, h, h2, h3, h4⟩
theorem atI_nat {α : Type} {xs : List α} {j : Nat} {v : α} (h : xs[j]? = some v) : atI xs (j : Int) = some v := by
 have hj : j < xs.length := (zq5x.mp h).1
 have e : ixN xs.length (j : Int) = some j := by
  unfold ixN
  rw [if_pos (by omega), if_pos (by omega)]; simp
 unfold atI; rw [e]; exact h
def PlainIx (b : Expr) : Prop := ∀ o i, subscripted b false o i = operate [o, i] (getItem o i)
def IxR (X : Cx) (r : R2) : Prop :=
 ∀ (value slice : Expr) (pins : List (Addr × Obj)) (s : Shared) (σ : St) (H : Hp) (x y : V) (v u : Value) (Q : VK), Inv X pins σ H s -> RelV x v -> RelV y u -> r x y H Q ->
  subscripted slice false v u = operate [v, u] (getItem v u) -> wpAny (model X.prog X.w) X.A (subscriptTail value slice v u) (EP X pins σ Q) X.xe s
def MtR (X : Cx) (id : String) (r : V -> List V -> Hp -> VK -> Prop) : Prop :=
 ∀ (pins : List (Addr × Obj)) (s : Shared) (σ : St) (H : Hp) (x : V) (xs : List V) (v : Value) (us : List Value) (Q : VK), Inv X pins σ H s -> RelV x v -> Vals xs us -> r x xs H Q ->
  wpAny (model X.prog X.w) X.A (call (.builtin id) (v :: us)) (EP X pins σ Q) X.xe s
section
variable {X : Cx} {a b : Expr} {ta tb : TE} {pos : Pos}
theorem IxR.or {r r' : R2} (h : IxR X r) (h' : IxR X r') : IxR X (fun x y H Q => r x y H Q \/ r' x y H Q) := by
 intro value slice pins s σ H x y v u Q I rx ry q hs
 rcases q with q | q
 ·exact h value slice pins s σ H x y v u Q I rx ry q hs
 ·exact h' value slice pins s σ H x y v u Q I rx ry q hs
theorem pe_ix {r : R2} (hr : IxR X r) (ha : PE X a ta) (hb : PE X b tb) (hs : PlainIx b) : PE X (.Subscript a b pos) (tOp r ta tb) := by
 intro pins s σ H Q I h
 exact Subscript_ (binT ha hb I h fun v u s2 x y H2 I2 rx ry q => hr a b pins s2 σ H2 x y v u Q I2 rx ry q (hs _ _))
def rIxL (K : PySem.W.Frag) : R2 := fun x y H Q => ∃ p xs i v, x = .ref p /\ y = .int i /\ SqL K H p xs /\ atI xs i = some v /\ Q v H
def rIxT (K : PySem.W.Frag) : R2 := fun x y H Q => ∃ p xs i v, x = .ref p /\ y = .int i /\ SqT K H p xs /\ atI xs i = some v /\ Q v H
def rIxS : R2 := fun x y H Q => ∃ z i c, x = .str z /\ y = .int i /\ z.length <= sizeLine /\ atI z.cps.toList i = some c /\ Q (.str ⟨#[c]⟩) H
theorem ix_list : IxR X (rIxL X.K) := by
 intro value slice pins s σ H x y v u Q I rx ry h hs
 obtain ⟨p, xs, i, z, rfl, rfl, hq, he, q⟩ := h
 cases rx
 obtain ⟨t, rfl⟩ := ry
 obtain ⟨its, r, pl, hz⟩ := I.list hq
 obtain ⟨j, h1, h2, h3, h4, h5⟩ := atI_get he
 obtain ⟨w, ew, rw'⟩ := r.get h2
 have hl := r.length
 have hn := line63
 have fin : EP X pins σ Q w s := ⟨z, H, I, rw', q⟩
 by_cases h0 : 0 <= i
 ·have hj : i.toNat = j := by
   rw [seqIndex_of h0 h5] at h1
   exact zq37x h1
  exact item_listR pl.isList h0 (by omega) (by rw [hj]; simpa using ew) fin hs
 ·have hj : (i + (its.toArray.size : Int)).toNat = j := by
   rw [seqIndex_neg (by omega) h4] at h1
   rw [zq18x, <- hl]
   exact zq37x h1
  exact subscriptTail_builtinR (x := w) pl.isList.typeIs slot_list_getitem.lookup
   (wpAny_getItem_list_neg (Q := fun r s' => r = w /\ EP X pins σ Q r s') pl.isList (by omega) (by rw [zq18x] <;> omega) (by omega) (by rw [hj]; simpa using ew) ⟨rfl, fin⟩) hs
theorem ix_tup : IxR X (rIxT X.K) := by
 intro value slice pins s σ H x y v u Q I rx ry h hs
 obtain ⟨p, xs, i, z, rfl, rfl, hq, he, q⟩ := h
 cases rx
 obtain ⟨t, rfl⟩ := ry
 obtain ⟨its, r, pl, hz⟩ := I.tuple hq
 obtain ⟨j, h1, h2, h3, h4, h5⟩ := atI_get he
 obtain ⟨w, ew, rw'⟩ := r.get h2
 have hl := r.length
 have hn := line63
 have fin : EP X pins σ Q w s := ⟨z, H, I, rw', q⟩
 exact subscriptTail_builtinR (x := w) pl.typeIs slot_tuple_getitem.lookup
  (getItem_tuple (j := j) (Q := fun r s' => r = w /\ EP X pins σ Q r s') pl (by omega) (by omega) (by rw [zq18x, <- hl]; exact h1) (by simpa using ew) ⟨rfl, fin⟩) hs
theorem ix_str : IxR X rIxS := by
 intro value slice pins s σ H x y v u Q I rx ry h hs
 obtain ⟨z, i, c, rfl, rfl, hz, he, q⟩ := h
 obtain ⟨t, rfl⟩ := rx
 obtain ⟨t', rfl⟩ := ry
 obtain ⟨j, h1, h2, h3, h4, h5⟩ := atI_get he
 have hl : z.cps.toList.length = z.length := by simp [Str.length]
 rw [hl] at h1 h4 h5
 have hn := line63
 exact tail_any (typeIs_str s z t) slot_str_getitem.lookup (getItem_str (c := c) (by
  have e1 : decide (i < -(2 ^ 63 : Int)) = false := decide_eq_false (by omega)
  have e2 : decide (i ≥ 2 ^ 63) = false := decide_eq_false (by omega)
  rw [e1, e2, zq90x]) (by rw [h1]; simpa using h2) ⟨.str ⟨#[c]⟩, H, I.tok _, ⟨_, rfl⟩, q⟩) hs
def rIx (K : PySem.W.Frag) : R2 := fun x y H Q => rIxL K x y H Q \/ rIxT K x y H Q \/ rIxS x y H Q
theorem ix_seq : IxR X (rIx X.K) := ix_list.or (ix_tup.or ix_str)
theorem mapSeq_set (its : List Value) (n j : Nat) (u : Value) : Obj.mapSeq (·.setIfInBounds j u) { cls := .type "list", data := .seq its.toArray n } = { cls := .type "list", data := .seq (its.set j u).toArray n } := by
 simp [Obj.mapSeq]
theorem Inv.lst {pins : List (Addr × Obj)} {σ : St} {H : Hp} {s : Shared} {p : Addr} {xs : List V} (I : Inv X pins σ H s) (h : H p = some (.lst xs)) :
  ∃ (its : List Value) (n : Nat), Vals xs its /\ s.heap.get? p = some { cls := .type "list", data := .seq its.toArray n } /\ xs.length <= sizeLine := by
 obtain ⟨z, its, n, r, e⟩ := I.hok p _ h
 exact ⟨its, n, r, e, z⟩
theorem Inv.lstUpd {pins : List (Addr × Obj)} {σ : St} {H : Hp} {s : Shared} {p : Addr} {xs ys : List V} {its its' : List Value} {n n' : Nat} {f : Obj -> Obj} (I : Inv X pins σ H s) (h : H p = some (.lst xs))
  (ho : s.heap.get? p = some { cls := .type "list", data := .seq its.toArray n }) (hf : f { cls := .type "list", data := .seq its.toArray n } = { cls := .type "list", data := .seq its'.toArray n' }) (r : Vals ys its') (hz : ys.length <= sizeLine) (t : Nat) :
  Inv X pins σ (upd H p (.lst ys)) { s with heap := s.heap.update p f, toks := t } := by
 have e : (s.heap.update p f).get? p = some { cls := .type "list", data := .seq its'.toArray n' } := by
  rw [zq118x f ho (by rw [hf] <;> rfl), hf]
 refine I.write (x := p) (e := p) (by rw [h]; trivial) (.inl rfl) (fun b u hb q => (zq59x _ _ (zq10x hb)).trans q) ⟨_, e⟩ ?_
 exact ⟨hz, its', n', r, e⟩
def rSetL : V -> V -> V -> Hp -> (Hp -> Prop) -> Prop := fun o i v H Q => ∃ p xs k j, o = .ref p /\ i = .int k /\ H p = some (.lst xs) /\ ixN xs.length k = some j /\ Q (upd H p (.lst (xs.set j v)))
theorem set_list : PSet X rSetL := by
 intro pins s σ H o i v ov iv u Q I ro ri rv h
 obtain ⟨p, xs, k, j, rfl, rfl, hp, hj, q⟩ := h
 cases ro
 obtain ⟨t, rfl⟩ := ri
 obtain ⟨its, n, r, ho, hz⟩ := I.lst hp
 obtain ⟨h1, h2, h3, h4⟩ := ixN_seq hj
 have hl := r.length
 have hn := line63
 have I' : Inv X pins σ (upd H p (.lst (xs.set j v))) { s with heap := s.heap.update p (Obj.mapSeq (·.setIfInBounds j u)) } :=
  I.lstUpd hp ho (mapSeq_set its n j u) (r.set rv j) (by rw [zq40x]; exact hz) s.toks
 by_cases h0 : 0 <= k
 ·have hk : k.toNat = j := by
   rw [seqIndex_of h0 h4] at h1
   exact zq37x h1
  exact PySem.W.ki_setAt ho h0 (by omega) (by rw [zq18x, <- hl]; exact h4) (by rw [hk]; exact ⟨_, I', q⟩)
 ·have hk : (k + (its.toArray.size : Int)).toNat = j := by
   rw [seqIndex_neg (by omega) h3] at h1
   rw [zq18x, <- hl]
   exact zq37x h1
  exact PySem.W.ki_setBack ho (by omega) (by rw [zq18x, <- hl]; exact h3) (by omega) (by rw [hk]; exact ⟨_, I', q⟩)
theorem slice_bounds (lo hi : Option Int) (n : Nat) : (sliceBounds lo hi none n).1 = ((HT.sIx n 0 lo : Nat) : Int) /\ (sliceBounds lo hi none n).2.1 = ((HT.sIx n n hi : Nat) : Int) /\ (sliceBounds lo hi none n).2.2 = 1 := by
  refine ⟨?_, ?_, rfl⟩
  · cases lo with
    | none => simp [sliceBounds, HT.sIx]
    | some i =>
      simp only [sliceBounds, HT.sIx, Option.getD_none, show (1 : Int) > 0 by decide, if_true]
      by_cases h : i < 0
      · simp only [h, if_true] <;> omega
      · simp only [h, if_false] <;> omega
  · cases hi with
    | none => simp [sliceBounds, HT.sIx]
    | some i =>
      simp only [sliceBounds, HT.sIx, Option.getD_none, show (1 : Int) > 0 by decide, if_true]
      by_cases h : i < 0
      · simp only [h, if_true] <;> omega
      · simp only [h, if_false] <;> omega
theorem slicePick_cut (its : List Value) (lo hi : Option Int) : slicePick its.toArray lo hi none = ((its.drop (HT.sIx its.length 0 lo)).take (HT.sIx its.length its.length hi - HT.sIx its.length 0 lo)).toArray := by
 obtain ⟨h1, h2, h3⟩ := slice_bounds lo hi its.toArray.size
 unfold slicePick
 rw [h1, h2, h3]
 simp only [sliceRange_one, pick_run, zq18x] <;> rfl
def rSlL (K : PySem.W.Frag) : V -> Option Int -> Option Int -> Hp -> VK -> Prop := fun x lo hi H Q => ∃ a xs, x = .ref a /\ SqL K H a xs /\ ∀ p, H p = none -> Q (.ref p) (upd H p (.lst (cutV xs lo hi)))
theorem sl_list : SlR X (rSlL X.K) := by
 intro pins s σ H x v vl vu lo hi sl Q I rx hs pl pu h
 obtain ⟨a, xs, rfl, hx, q⟩ := h
 cases rx
 obtain ⟨its, r, ht, hz⟩ := I.list hx
 have hlen := r.length
 refine ⟨"list", _, slot_list_getitem.lookup, ht.isList.typeIs, ?_⟩
 refine wpAny_getItem_list_slice ht.isList hs pl pu .none (by simp) ?_ (by rw [zq18x] <;> omega)
 rw [slicePick_cut, <- hlen]
 refine ⟨.ref s.heap.objs.size, _, I.laid (t' := s.toks) (o := .lst (cutV xs lo hi)) (fun b ob q => zq7x _ q) (zq3x _) ?_, rfl, q _ (I.hok.fresh (zq3x _))⟩
 exact ⟨zq24x (cutV_length xs lo hi) hz, _, 0, (r.drop (HT.sIx xs.length 0 lo)).take (HT.sIx xs.length xs.length hi - HT.sIx xs.length 0 lo), zq27x _ rfl⟩
def flatV : V -> Bool
 | .non => true
 | .bl _ => true
 | .int _ => true
 | .str _ => true
 | _ => false
def eqV : V -> V -> Bool
 | .non, .non => true
 | .bl a, .bl b => a == b
 | .bl a, .int b => (if a then 1 else 0) == b
 | .int a, .bl b => a == (if b then 1 else 0)
 | .int a, .int b => a == b
 | .str a, .str b => a == b
 | _, _ => false
theorem eqAt_V {A : Around} {s : Shared} {y x : V} {u v : Value} (ry : RelV y u) (rx : RelV x v) (fy : flatV y = true) (fx : flatV x = true) : SeqAt.EqAt A s u v (eqV y x) := by
  cases y with
  | non =>
    cases ry
    cases x with
    | non => cases rx; exact SeqAt.EqAt.same _
    | bl b => cases rx; exact SeqAt.EqAt.none_bool b
    | int b => obtain ⟨t, rfl⟩ := rx; exact SeqAt.EqAt.none_int b t
    | str b => obtain ⟨t, rfl⟩ := rx; exact SeqAt.EqAt.none_str b t
    | _ => exact absurd (show false = true from fx) zq14x
  | bl a =>
    cases ry
    cases x with
    | non => cases rx; exact SeqAt.EqAt.bool_none a
    | bl b => cases rx; exact SeqAt.EqAt.bool_bool a b
    | int b => obtain ⟨t, rfl⟩ := rx; exact SeqAt.EqAt.bool_int a b t
    | str b => obtain ⟨t, rfl⟩ := rx; exact SeqAt.EqAt.bool_str a b t
    | _ => exact absurd (show false = true from fx) zq14x
  | int a =>
    obtain ⟨t', rfl⟩ := ry
    cases x with
    | non => cases rx; exact SeqAt.EqAt.int_none a t'
    | bl b => cases rx; exact SeqAt.EqAt.int_bool a t' b
    | int b => obtain ⟨t, rfl⟩ := rx; exact SeqAt.EqAt.int_int a t' b t
    | str b => obtain ⟨t, rfl⟩ := rx; exact SeqAt.EqAt.int_str a t' b t
    | _ => exact absurd (show false = true from fx) zq14x
  | str a =>
    obtain ⟨t', rfl⟩ := ry
    cases x with
    | non => cases rx; exact SeqAt.EqAt.str_none a t'
    | bl b => cases rx; exact SeqAt.EqAt.str_bool a t' b
    | int b => obtain ⟨t, rfl⟩ := rx; exact SeqAt.EqAt.str_int a t' b t
    | str b => obtain ⟨t, rfl⟩ := rx; exact SeqAt.EqAt.str_str a t' b t
    | _ => exact absurd (show false = true from fx) zq14x
  | _ => exact absurd (show false = true from fy) zq14x
def eqU (x : V) (u : Value) : Bool := match u with
 | .none => eqV .non x
 | .bool b => eqV (.bl b) x
 | .int i _ => eqV (.int i) x
 | .str z _ => eqV (.str z) x
 | _ => false
theorem eqU_of {x y : V} {u : Value} (r : RelV y u) (f : flatV y = true) : eqU x u = eqV y x := by
 cases y with
 | non => cases r; rfl
 | bl b => cases r; rfl
 | int i => obtain ⟨t, rfl⟩ := r; rfl
 | str z => obtain ⟨t, rfl⟩ := r; rfl
 | _ => exact absurd (show false = true from f) zq14x
theorem any_eqU {x : V} : ∀ {xs : List V} {us : List Value}, Vals xs us -> xs.all flatV = true -> us.any (eqU x) = xs.any fun y => eqV y x
  | _, _, .nil, _ => rfl
  | y :: xs, u :: us, .cons r t, f => by
    rw [zq73x, zq26x] at f
    rw [zq66x, zq66x, eqU_of r f.1, any_eqU t f.2]
theorem mem_eqAt {A : Around} {s : Shared} {x : V} {v : Value} (rx : RelV x v) (fx : flatV x = true) : ∀ {xs : List V} {us : List Value}, Vals xs us -> xs.all flatV = true -> ∀ u ∈ us, SeqAt.EqAt A s u v (eqU x u)
  | _, _, .nil, _ => fun u hu => by cases hu
  | y :: xs, u :: us, .cons r t, f => fun u' hu => by
    rw [zq73x, zq26x] at f
    rcases zq17x.mp hu with rfl | hu
    · rw [eqU_of r f.1]; exact eqAt_V r rx f.1 fx
    · exact mem_eqAt rx fx t f.2 u' hu
def inV (x : V) (xs : List V) : Bool := xs.any fun y => eqV y x
def rIn (K : PySem.W.Frag) (neg : Bool) : R2 := fun x y H Q => ∃ p xs, y = .ref p /\ (SqL K H p xs \/ SqT K H p xs) /\ flatV x = true /\ xs.all flatV = true /\ Q (.bl (if neg then !inV x xs else inV x xs)) H
theorem op_in_seq : OpR X (compareOp .In) (rIn X.K false) := by
 intro pins s σ H x y v u Q I rx ry h
 obtain ⟨p, xs, rfl, hq, fx, fs, q⟩ := h
 cases ry
 rcases hq with hq | hq
 ·obtain ⟨its, r, pl, hz⟩ := I.list hq
  refine SeqAt.in_listAt (eqU x) pl.isList (fun w hw => mem_eqAt rx fx r fs w (by simpa using hw)) ⟨.bl _, H, I, rfl, ?_⟩
  rw [show its.toArray.any (eqU x) = its.any (eqU x) by simp, any_eqU r fs]
  exact q
 ·obtain ⟨its, r, pl, hz⟩ := I.tuple hq
  refine SeqAt.in_tupleAt (eqU x) pl (fun w hw => mem_eqAt rx fx r fs w (by simpa using hw)) ⟨.bl _, H, I, rfl, ?_⟩
  rw [show its.toArray.any (eqU x) = its.any (eqU x) by simp, any_eqU r fs]
  exact q
theorem call_len_seq : CallR X (.builtin "len") (fun xs H Q => ∃ p ys, xs = [.ref p] /\ (SqL X.K H p ys \/ SqT X.K H p ys) /\ Q (.int ys.length) H) := by
 intro pins s σ H xs us Q I r h
 obtain ⟨p, ys, rfl, hq, q⟩ := h
 obtain ⟨u, rfl, rx⟩ := vals1 r
 cases rx
 have hn := line63
 rcases hq with hq | hq
 ·obtain ⟨its, r', pl, hz⟩ := I.list hq
  have hlen := r'.length
  exact Calls.call_len_list pl.isList (by simp only [zq18x] <;> omega) ⟨.int ys.length, H, I.tok _, ⟨s.toks + 1, by rw [zq18x, hlen]⟩, q⟩
 ·obtain ⟨its, r', pl, hz⟩ := I.tuple hq
  have hlen := r'.length
  exact len_tuple pl (by simp only [zq18x] <;> omega) ⟨.int ys.length, H, I.tok _, ⟨s.toks + 1, by rw [zq18x, hlen]⟩, q⟩
theorem call_list_of : CallR X (.type "list") (fun xs H Q => ∃ p ys, xs = [.ref p] /\ (SqL X.K H p ys \/ SqT X.K H p ys) /\ ∀ l, H l = none -> Q (.ref l) (upd H l (.lst ys))) := by
 intro pins s σ H xs us Q I r h
 obtain ⟨p, ys, rfl, hq, q⟩ := h
 obtain ⟨u, rfl, rx⟩ := vals1 r
 cases rx
 have fin : ∀ (its : List Value), Vals ys its -> ys.length <= sizeLine -> ∀ (h' : Heap) (c' : Nat), (∀ b o', s.heap.get? b = some o' -> h'.get? b = some o') ->
   h'.get? s.heap.objs.size = some { cls := .type "list", dict := none, data := .seq its.toArray c', slots := #[] } -> EP X pins σ Q (.ref s.heap.objs.size) { s with heap := h' } := fun its r' hz h' c' kp e =>
  ⟨.ref s.heap.objs.size, _, I.laid (t' := s.toks) kp (zq3x _) (show ObjOk X.prog X.w _ h' _ (.lst ys) from ⟨hz, its, c', r', e⟩), rfl, q _ (I.hok.fresh (zq3x _))⟩
 rcases hq with hq | hq
 ·obtain ⟨its, r', pl, hz⟩ := I.list hq
  have hlen := r'.length
  obtain ⟨o, ho, hc, n, hd⟩ := pl.isList
  exact call_list_seq p (.inl rfl) ho hc hd (fun h' c' kp e => fin its r' hz h' c' kp e) (by simp only [zq18x] <;> omega)
 ·obtain ⟨its, r', pl, hz⟩ := I.tuple hq
  have hlen := r'.length
  obtain ⟨o, ho, hc, n, hd⟩ := pl
  exact call_list_seq p (.inr rfl) ho hc hd (fun h' c' kp e => fin its r' hz h' c' kp e) (by simp only [zq18x] <;> omega)
def tyV (K : PySem.W.Frag) (T : String) (x : V) (H : Hp) : Prop := match x with
 | .str _ => T = "str"
 | .int _ => T = "int"
 | .ref p => (T = "list" /\ ∃ xs, SqL K H p xs) \/ (T = "tuple" /\ ∃ o, K.lookup p = some o /\ o.cls = .type "tuple" /\ o.dict = none) \/
   (T = "dict" /\ ((∃ kvs, H p = some (.dK kvs)) \/ (∃ kvs, H p = some (.dT kvs)) \/ ∃ o kvs, H p = some (.frz o (.dK kvs)))) \/ (T = "set" /\ ∃ S n, H p = some (.set S n))
 | _ => False
theorem tyV_is {pins : List (Addr × Obj)} {σ : St} {H : Hp} {s : Shared} {T : String} {x : V} {v : Value} (I : Inv X pins σ H s) (r : RelV x v) (ty : tyV X.K T x H) :
    s.TypeIs v T /\ ∀ a, v = .ref a -> ∃ ob, s.heap.get? a = some ob /\ ob.dict = none := by
  cases x with
  | str z =>
    obtain ⟨t, rfl⟩ := r
    cases (show T = "str" from ty)
    exact ⟨typeIs_str s z t, fun _ e => nomatch e⟩
  | int i =>
    obtain ⟨t, rfl⟩ := r
    cases (show T = "int" from ty)
    exact ⟨typeIs_int s i t, fun _ e => nomatch e⟩
  | ref p =>
    cases r
    rcases ty with ⟨rfl, xs, hq⟩ | ⟨rfl, o, hk, hc, hd⟩ | ⟨rfl, hk⟩ | ⟨rfl, S, n, hk⟩
    · obtain ⟨its, _, pl, _⟩ := I.list hq
      refine ⟨pl.isList.typeIs, fun a e => ?_⟩
      cases e
      obtain ⟨o, n, e, c, hd, _⟩ := pl
      exact ⟨o, e, hd⟩
    · refine ⟨⟨o, I.kIn p o hk, hc⟩, fun a e => ?_⟩
      cases e
      exact ⟨o, I.kIn _ o hk, hd⟩
    · have z : ∃ o, s.heap.get? p = some o /\ o.ExactDict := by
        rcases hk with ⟨kvs, hk⟩ | ⟨kvs, hk⟩ | ⟨ob, kvs, hk⟩
        · obtain ⟨_, _, _, _, o, _, _, e, ex, _⟩ := I.hok p _ hk
          exact ⟨o, e, ex⟩
        · obtain ⟨_, _, _, _, o, _, _, e, ex, _⟩ := I.hok p _ hk
          exact ⟨o, e, ex⟩
        · obtain ⟨_, _, _, _, _, o, _, _, e, ex, _⟩ := I.hok p _ hk
          exact ⟨o, e, ex⟩
      obtain ⟨o, e, ex⟩ := z
      refine ⟨⟨o, e, ex.1⟩, fun a e2 => ?_⟩
      cases e2
      exact ⟨o, e, ex.2.1⟩
    · obtain ⟨o, _, _, _, e, ex, _⟩ := I.hok p _ hk
      refine ⟨⟨o, e, ex.1⟩, fun a e2 => ?_⟩
      cases e2
      exact ⟨o, e, ex.2.1⟩
  | _ => exact False.elim ty
def tBM0 (K : PySem.W.Frag) (T : String) (r : V -> List V -> Hp -> VK -> Prop) (to : TE) : TE := fun σ H Q => to σ H fun x H1 => tyV K T x H1 /\ r x [] H1 Q
def tBM (K : PySem.W.Frag) (T : String) (r : V -> List V -> Hp -> VK -> Prop) (to : TE) (t : TA) : TE := fun σ H Q => to σ H fun x H1 => tyV K T x H1 /\ t σ H1 fun xs H2 => r x xs H2 Q
variable {o e : Expr} {es : List Expr} {to : TE} {t : TA} {name : Str} {apos cpos : Pos} {T id : String} {r : V -> List V -> Hp -> VK -> Prop}
theorem pe_bm0 (pa : PlainAttrs T) (slot : Slot T name id) (hty : typeOf (.builtin id) = pure (.type "method_descriptor")) (hm : MtR X id r) (ho : PE X o to)
  (hbase : attributeBase o name X.env (eval o X.env) = eval o X.env := by rfl) (hline : (apos.endLine == cpos.line) = true := by rfl) : PE X (.Call (.Attribute o name apos) [] [] cpos) (tBM0 X.K T r to) := by
 intro pins s σ H Q I h
 refine wpAny_Call_method0_late hbase hline (thn (ho pins s σ H _ I h) fun v s1 ⟨x, H1, I1, r1, ty, q1⟩ => ?_)
 obtain ⟨h1, h2⟩ := tyV_is I1 r1 ty
 exact ⟨T, id, pa, slot, hty, h1, h2, Calls.callWith_builtin rfl (PySem.evalArgs_none (hm pins s1 σ H1 x [] v [] Q I1 r1 .nil q1))⟩
theorem pe_bm (pa : PlainAttrs T) (slot : Slot T name id) (hty : typeOf (.builtin id) = pure (.type "method_descriptor")) (hm : MtR X id r) (ho : PE X o to) (ha : PA X (e :: es) t)
  (hbase : attributeBase o name X.env (eval o X.env) = eval o X.env := by rfl)
  (hfew : ((backTo cpos (starEach (e :: es) X.env)).all (fun x => !x.1) && (backToKw cpos (keywordEach [] X.env)).all (fun x => x.1.isSome)
   && decide ((e :: es).length + ([] : List Keyword).length + (if ([] : List Keyword).isEmpty then 0 else 1) < 30)) = true := by rfl)
  (hline : (apos.endLine == cpos.line) = true := by rfl) (hs : starEach (e :: es) X.env = (false, eval e X.env) :: starEach es X.env := by rfl) (hplain : (backTo cpos (starEach es X.env)).any (·.1) = false := by rfl) :
  PE X (.Call (.Attribute o name apos) (e :: es) [] cpos) (tBM X.K T r to t) := by
 intro pins s σ H Q I h
 refine wpAny_Call_method_late hbase hfew hline rfl (thn (ho pins s σ H _ I h) fun v s1 ⟨x, H1, I1, r1, ty, q1⟩ => ?_)
 obtain ⟨h1, h2⟩ := tyV_is I1 r1 ty
 refine ⟨T, id, pa, slot, hty, h1, h2, ?_⟩
 have hA := ha cpos pins s1 σ H1 _ I1 q1
 rw [hs] at hA ⊢
 refine Calls.callWith_builtin (by show (false || (backTo cpos (starEach es X.env)).any (·.1)) = false; rw [hplain] <;> rfl) (Calls.evalArgs_plain ?_)
 exact thn hA fun us s2 ⟨vs, H2, I2, r2, q2⟩ => hm pins s2 σ H2 x vs v us Q I2 r1 r2 q2
/- xs.append(e), list.index on a module's tuple .. are MtR facts of 06m -/
end
def MtM (X : Cx) (id : String) (r : V -> List V -> Hp -> VK -> Prop) : Prop :=
 ∀ (pins : List (Addr × Obj)) (s : Shared) (σ : St) (H : Hp) (x : V) (xs : List V) (v : Value) (us : List Value) (Q : VK), Inv X pins σ H s -> RelV x v -> Vals xs us -> r x xs H Q ->
  wpAny (model X.prog X.w) X.A (call (.builtin id) (v :: us)) (EP X pins σ Q) X.xe s
theorem Vals.one {x : V} {us : List Value} (h : Vals [x] us) : ∃ u, us = [u] /\ RelV x u := by
 cases h with
 | cons r t => cases t; exact ⟨_, rfl, r⟩
theorem Vals.two {x y : V} {us : List Value} (h : Vals [x, y] us) : ∃ u v, us = [u, v] /\ RelV x u /\ RelV y v := by
  cases h with
  | cons r t =>
    obtain ⟨v, e, q⟩ := Vals.one t
    exact ⟨_, v, by rw [e], r, q⟩
theorem Vals.dropLast {xs : List V} {us : List Value} (h : Vals xs us) : Vals xs.dropLast us.dropLast := by
  induction h with
  | nil => exact .nil
  | cons r t ih =>
    cases t with
    | nil => exact .nil
    | cons q t' => exact .cons r ih
theorem Vals.eraseIdx : ∀ {xs : List V} {us : List Value} (i : Nat), Vals xs us -> Vals (xs.eraseIdx i) (us.eraseIdx i)
 | _, _, _, .nil => .nil
 | _, _, 0, .cons _ t => t
 | _, _, i + 1, .cons r t => .cons r (Vals.eraseIdx i t)
theorem len_erase {α : Type} : ∀ (l : List α) (i : Nat), (l.eraseIdx i).length <= l.length
 | [], _ => zq3x _
 | _ :: _, 0 => zq54x _
 | _ :: r, i + 1 => Nat.succ_le_succ (len_erase r i)
section
variable {X : Cx} {pins : List (Addr × Obj)} {σ : St} {H : Hp} {s : Shared} {l b : Addr} {xs ys zs : List V}
theorem Inv.lset {its its' : List Value} {n : Nat} {f : Array Value -> Array Value} {t' : Nat} (I : Inv X pins σ H s) (hH : H l = some (.lst xs))
  (e : s.heap.get? l = some { cls := .type "list", data := .seq its.toArray n }) (hf : f its.toArray = its'.toArray) (hv : Vals ys its') (hz : ys.length <= sizeLine) :
  Inv X pins σ (upd H l (.lst ys)) { s with heap := s.heap.update l (Obj.mapSeq f), toks := t' } := by
 have q := PySem.IsL.update e f
 rw [hf] at q
 refine I.write (x := l) (e := l) (by rw [hH]; exact trivial) (.inl rfl) (fun b' u hb hu => (zq59x s.heap (Obj.mapSeq f) (zq10x hb)).trans hu) ⟨_, q⟩ ?_
 exact ⟨hz, its', _, hv, q⟩
theorem Inv.lnew {its : List Value} {t' : Nat} (I : Inv X pins σ H s) (hv : Vals ys its) (hz : ys.length <= sizeLine) :
  Inv X pins σ (upd H s.heap.objs.size (.lst ys)) { s with heap := s.heap.push { cls := .type "list", data := .seq its.toArray }, toks := t' } :=
 I.laid (fun _ _ q => zq7x _ q) (zq3x _) ⟨hz, its, 0, hv, zq27x _ rfl⟩
theorem Inv.fresh (I : Inv X pins σ H s) : H s.heap.objs.size = none := I.hok.fresh (zq3x _)
theorem Inv.lstM (I : Inv X pins σ H s) (hH : H l = some (.lst xs)) : xs.length <= sizeLine /\ ∃ (its : List Value) (n : Nat), Vals xs its /\ xs.length = its.length /\ s.heap.get? l = some { cls := .type "list", data := .seq its.toArray n } := by
 obtain ⟨z, its, n, r, e⟩ := I.hok l _ hH
 exact ⟨z, its, n, r, r.length, e⟩
theorem notLongL {n : Nat} (h : n <= sizeLine) : Builtin.List.listTooLong n = false := by
 unfold Builtin.List.listTooLong
 exact decide_eq_false (by omega)
end
section
variable {X : Cx}
def rAppend : V -> List V -> Hp -> VK -> Prop := fun x vs H Q => ∃ l xs y, x = .ref l /\ vs = [y] /\ H l = some (.lst xs) /\ xs.length < sizeLine /\ Q .non (upd H l (.lst (xs ++ [y])))
theorem mt_append : MtM X "list.append" rAppend := by
 intro pins s σ H x vs v us Q I rx rv h
 obtain ⟨l, xs, y, rfl, rfl, hH, hz, q⟩ := h
 cases rx
 obtain ⟨u, rfl, ru⟩ := rv.one
 obtain ⟨z, its, n, r, hl, e⟩ := I.lstM hH
 refine call_meets F.slot_list_append ⟨_, e, rfl⟩ F.entry_list_append (F.args_list_append_2 _ _) (PySem.list_append l its.toArray n u (by rw [zq18x]; omega)) ⟨e, ?_⟩
 refine ⟨.non, _, I.lset (its' := its ++ [u]) hH e (by simp) (r.append (.cons ru .nil)) ?_, rfl, q⟩
 rw [zq20x, zq41x]
 omega
def rExtend : V -> List V -> Hp -> VK -> Prop := fun x vs H Q => ∃ l b xs zs, x = .ref l /\ vs = [.ref b] /\ H l = some (.lst xs) /\ H b = some (.lst zs) /\ xs.length + zs.length <= sizeLine /\ Q .non (upd H l (.lst (xs ++ zs)))
theorem mt_extend : MtM X "list.extend" rExtend := by
 intro pins s σ H x vs v us Q I rx rv h
 obtain ⟨l, b, xs, zs, rfl, rfl, hH, hB, hz, q⟩ := h
 cases rx
 obtain ⟨u, rfl, ru⟩ := rv.one
 cases ru
 obtain ⟨z, its, n, r, hl, e⟩ := I.lstM hH
 obtain ⟨z2, its2, n2, r2, hl2, e2⟩ := I.lstM hB
 have hsz : its.toArray.size + its2.toArray.size <= sizeLine := by rw [zq18x, zq18x]; omega
 have hlong : ¬ (!its.toArray.isEmpty && Builtin.List.listTooLong (its.toArray.size + its2.toArray.size)) = true := by
  rw [notLongL hsz, Bool.and_false]
  exact zq14x
 refine call_meets F.slot_list_extend ⟨_, e, rfl⟩ F.entry_list_extend (F.args_list_extend_2 _ _)
  (AutoSeq1.list_extend_list_list_0 l its.toArray n b its2.toArray n2 hlong (by rw [zq18x]; omega) (by omega)) ⟨e, e2, ?_⟩
 refine ⟨.non, _, I.lset (its' := its ++ its2) hH e (by simp) (r.append r2) ?_, rfl, q⟩
 rw [zq20x]
 omega
def rPopAt : V -> List V -> Hp -> VK -> Prop := fun x vs H Q => ∃ l xs i k y, x = .ref l /\ vs = [.int i] /\ H l = some (.lst xs) /\ -(2 ^ 63) <= i /\ i < 2 ^ 63 /\ seqIndex? i xs.length = some k /\ xs[k]? = some y /\ Q y (upd H l (.lst (xs.eraseIdx k)))
theorem mt_popAt : MtM X "list.pop" rPopAt := by
 intro pins s σ H x vs v us Q I rx rv h
 obtain ⟨l, xs, i, k, y, rfl, rfl, hH, h1, h2, hk, hy, q⟩ := h
 cases rx
 obtain ⟨u, rfl, ru⟩ := rv.one
 obtain ⟨t, rfl⟩ := ru
 obtain ⟨z, its, n, r, hl, e⟩ := I.lstM hH
 obtain ⟨w, hw, rw'⟩ := r.get hy
 refine call_meets F.slot_list_pop ⟨_, e, rfl⟩ F.entry_list_pop (F.args_list_pop_2 _ _)
  (MeetsSeq.list_pop_at l its.toArray n i t k w (fitsIndex_both h1 h2) (by rw [zq18x, <- hl]; exact hk) (by rw [<- zq74x]; exact hw) (by rw [zq18x]; omega)) ⟨e, ?_⟩
 refine ⟨y, _, I.lset (its' := its.eraseIdx k) hH e ?_ (r.eraseIdx k) ?_, rw', q⟩
 ·show its.toArray.eraseIdxIfInBounds k = (its.eraseIdx k).toArray
  rw [List.eraseIdxIfInBounds_toArray]
 ·have := len_erase xs k
  omega
def rCat : R2 := fun x y H Q => ∃ l b xs zs, x = .ref l /\ y = .ref b /\ H l = some (.lst xs) /\ H b = some (.lst zs) /\ xs.length + zs.length <= sizeLine /\ ∀ p, H p = none -> Q (.ref p) (upd H p (.lst (xs ++ zs)))
theorem op_cat : OpR X (binaryOp .Add) rCat := by
 intro pins s σ H x y v u Q I rx ry h
 obtain ⟨l, b, xs, zs, rfl, rfl, hH, hB, hz, q⟩ := h
 cases rx
 cases ry
 obtain ⟨z, its, n, r, hl, e⟩ := I.lstM hH
 obtain ⟨z2, its2, n2, r2, hl2, e2⟩ := I.lstM hB
 refine PySem.P.add_list e e2 ?_ (by rw [zq18x, zq18x]; omega)
 have ea : its.toArray ++ its2.toArray = (its ++ its2).toArray := by simp
 rw [ea]
 exact ⟨.ref _, _, I.lnew (t' := s.toks) (r.append r2) (by rw [zq20x]; omega), rfl, q _ I.fresh⟩
end
end L2
namespace Att
open PySem PySem.W PySem.Calls PyProof.Rows
theorem ints_of_wellAll {P : Params} {h : Heap} : ∀ (ns : List Int) (vs : List Value), WellAll P h vs (ns.map WData.int) -> IntsAre vs ns := by
  intro ns
  induction ns with
  | nil =>
    intro vs w
    rw [zq91x] at w
    cases w
    exact .nil
  | cons n ns ih =>
    intro vs w
    rw [zq8x] at w
    cases w with
    | cons a b =>
      cases a
      exact .cons _ _ (ih _ b)
theorem script_of {l : OpenLaw} {n : Nat} (hn : l.most = some n) {P : Params} {h : Heap} {args : List WData} {vals : List Value}
    (hpre : l.row.toRowW.claim.pre args = true) (hwl : WellAll P h vals args) :
    ∃ a vs ns, vals = [Value.ref a] /\ args = [WData.list (ns.map WData.int)] /\ h.get? a = some { cls := .type "list", data := .seq vs.toArray } /\ IntsAre vs ns /\ ns.length <= n := by
  have hsh : WShape.hasAll [] args [.list .int] = true := (pre_splitW hpre).1
  have hc : l.pre.holds [] { args := args } = true := (pre_splitW hpre).2
  obtain ⟨d, r, rfl, h1, h2⟩ := hasAllW_cons hsh
  obtain rfl := hasAllW_nil h2
  obtain ⟨xs, rfl, h3⟩ := hasW_list h1
  obtain ⟨ns, rfl⟩ := items_int h3
  have hlen : ns.length <= n := by
    unfold OpenLaw.pre at hc
    have h4 : (WTm.not (.lt (.lit (.int (n : Int))) (.len (.arg 0)))).holds [] { args := [.list (ns.map .int)] } = true := by
      have h4 := (holds_andW hc).1
      rw [hn] at h4
      exact h4
    have h5 := condW_of h4 (w_not (w_lt w_lit (w_len_list (w_arg rfl))))
    rw [zq0x] at h5
    refine zq143x fun q => ?_
    have q' : (n : Int) < ((ns.length : Nat) : Int) := by omega
    first
      | (rw [decide_eq_true q'] at h5; exact absurd h5 (by decide))
      | (simp at h5; omega)
  cases hwl with
  | cons w1 w2 =>
    cases w2
    cases w1 with
    | list ho hall => exact ⟨_, _, ns, rfl, rfl, ho, ints_of_wellAll ns _ hall, hlen⟩
theorem post_true (l : OpenLaw) (args : List WData) : l.row.toRowW.claim.post args (.bool true) args = true :=
 postW_of (r := l.row.toRowW) (X := (true == true))
  (show WShape.has [] (.bool true) .bool = true by first | rfl | decide | simp [WShape.has, WShape.arms, WShape.armsAll])
  (show (WTm.eq .res (.lit (.bool true))).value [] { args := args, res := some (.bool true), after := args } = some (.bool (true == true)) from w_eq_bool (w_res rfl) w_lit) rfl
theorem attach_call {l : OpenLaw} {n : Nat} {q : Program} {loose : List Str} {XP : (Str -> Option Value) -> Heap -> Prop} {YP : World -> Heap -> Prop} {d : DefRec}
  (hn : l.most = some n) (hdf : d.params.defaults = [])
  (call : ∀ (w : World) (s₀ s₁ : Shared) (mg mb : Str -> Option Value) (fa : Addr) (o : Obj) (pm cd doc : Value) (a : Addr) (vs : List Value) (ns : List Int),
   Ground q loose [] XP w s₀ mg mb s₁.heap -> YP w s₁.heap ->
   s₁.heap.get? fa = some o -> o.data = .func (docDef d.name d.params d.body d.scope pm cd doc) -> s₁.heap.CodeRec cd d.name -> mg d.name = some (.ref fa) ->
   s₁.heap.get? a = some { cls := .type "list", data := .seq vs.toArray } -> IntsAre vs ns -> ns.length <= n -> s₁.gens = #[] ->
   codeAny (model l.prog w) callerA (.call (.ref fa) ⟨[.ref a], []⟩) (fun r s' => r = .ok (.ret (.bool true)) /\ OldK s₁.heap s'.heap /\ s'.os = s₁.os /\ AllBare s'.gens) s₁) :
  WalkO q loose XP YP l.row.toRowW d [] (fun f vs => PySem.call f vs) := by
 intro w s₀ s₁ mg mb G Y fa o pm cd doc dV kV ho hd hcd hD hmg hg args vals as hpre hlay hrd hwl hlo
 obtain rfl : dV = .none := Dflts.none hD hdf
 obtain rfl : kV = .none := Dflts.noKw hD
 obtain ⟨a, vs, ns, rfl, rfl, hobj, hints, hlen⟩ := script_of hn hpre hwl
 refine enter_call (codeAny_mono (call w s₀ s₁ mg mb fa o pm cd doc a vs ns G Y ho (fd_plain hd) hcd hmg hobj hints hlen hg) fun r s' hq => ?_)
 obtain ⟨rfl, h2, h3, h4⟩ := hq
 exact ⟨.inl ⟨.bool true, .bool true, [], rfl, fun _ => rfl, .bool true, post_true l _, fun _ => ⟨List.Pairwise.nil, fun _ hm => (nomatch hm)⟩⟩, h2, h3, h4⟩
section
variable {prog : Program} {w : World} {A : Around} {E : Value -> Shared -> Prop} {s : Shared} {K : Frag}
def ledger (h : Heap) (L d : Addr) : List (Addr × Obj) := (List.range h.objs.size).filterMap fun a => if a = L \/ a = d then none else (h.get? a).map fun o => (a, o)
end
end Att
namespace L2
open PySem PySem.Spec PyProof.Rows
theorem vals_ints : ∀ {vs : List Value} {ns : List Int}, IntsAre vs ns -> Vals (ns.map V.int) vs
 | _, _, .nil => .nil
 | _, _, .cons n t h => .cons ⟨t, rfl⟩ (vals_ints h)
def Only (H : Hp) : Prop := ∀ b, H b = none \/ ∃ o xs, H b = some (.frz o (.lst xs))
theorem law_call {P : Program} {w : World} {K : PySem.W.Frag} {mg mb : Str -> Option Value} {CX : CXT} {k : Nat} {fa a : Addr} {fd : FuncData} {x : Str} {sp : Sp} {s₁ : Shared} {vs : List Value} {ns : List Int}
    (KX : K.In s₁.heap) (hns : s₁.heap.Ns mainGlobals mg) (hb : s₁.heap.Ns builtinsNs mb) (hbb : ∀ x : Str, x ≠ "__name__" -> mb x = bootBuiltins x) (hlim : s₁.heap.NoLimit) (hg : s₁.gens = #[])
    (ha : s₁.heap.get? a = some { cls := .type "list", data := .seq vs.toArray }) (hi : IntsAre vs ns) (hl : ns.length <= sizeLine) (hr : Room k callerA)
    (F : ∀ base : Heap, K.In base -> base.Ns mainGlobals mg -> FnOk P w K mg base CX k fa fd [x] sp) (hbind : ∀ (s : Shared) (u : Value), BindsTo s fd ⟨[u], []⟩ [(x, u)])
    (hsp : ∀ H : Hp, Only H -> SqL K H a (ns.map V.int) -> sp [.ref a] H (fun v _ => v = .bl true) fun _ _ _ => False)
    (hCX : ∀ H e s', CX [] H s₁ (fun _ _ _ => False) e s' -> False) :
    codeAny (model P w) callerA (.call (.ref fa) ⟨[.ref a], []⟩) (fun r s' => r = .ok (.ret (.bool true)) /\ OldK s₁.heap s'.heap /\ s'.os = s₁.os /\ AllBare s'.gens) s₁ := by
  have rv := vals_ints hi
  have lenV := hi.length
  have core : ∀ H : Hp, Only H -> SqL K H a (ns.map V.int) -> HOk P w H s₁.heap -> (∀ b, H b ≠ none -> b = a) -> (H a ≠ none -> K.lookup a = none) ->
      codeAny (model P w) callerA (.call (.ref fa) ⟨[.ref a], []⟩) (fun r s' => r = .ok (.ret (.bool true)) /\ OldK s₁.heap s'.heap /\ s'.os = s₁.os /\ AllBare s'.gens) s₁ := by
    intro H hO hS hok hA hK
    have base_of : ∀ {b : Addr} {o : Obj}, s₁.heap.get? b = some o -> H b = none -> (hidT s₁.heap H).get? b = some o := fun e n => hidT_get e n
    have noA : ∀ {b : Addr} {o : Obj} {es : Array DictEntry} {ep : Nat}, s₁.heap.get? b = some o -> o.data = .dict es ep -> H b = none := fun {b o es ep} e d => by
      cases q : H b with
      | none => rfl
      | some u =>
        have e' : b = a := hA b (by rw [q]; simp)
        subst e'
        rw [ha] at e; cases e
        have d' : Data.seq vs.toArray _ = Data.dict es ep := d
        cases d'
    have nsK : ∀ {b : Addr} {m : Str -> Option Value}, s₁.heap.Ns b m -> (hidT s₁.heap H).Ns b m := fun {b m} ⟨o, es, ep, e, d, r⟩ => ⟨o, es, ep, base_of e (noA e d), d, r⟩
    have hKb : K.In (hidT s₁.heap H) := fun b o e => base_of (KX b o e) (by
      cases q : H b with
      | none => rfl
      | some u =>
        have e' : b = a := hA b (by rw [q]; simp)
        subst e'
        rw [hK (by rw [q]; simp)] at e; cases e)
    have hM : Mod K mg (hidT s₁.heap H) := ⟨hKb, nsK hns, ⟨mb, nsK hb, hbb⟩, let ⟨mc, h1, h2⟩ := hlim; ⟨mc, nsK h1, h2⟩⟩
    have e0 : Env0 P w K mg (hidT s₁.heap H) callerA [] s₁ H := ⟨rfl, hM, fun b o e => of_hidT e, zq119x (hidT_size _ _), trivial, fun b hb => absurd (show b ∈ ([] : List Addr) from hb) (by simp), hok, .of_eq hg⟩
    refine codeAny_mono ((F _ hKb (nsK hns)).run callerA [] s₁ H ⟨[.ref a], []⟩ [.ref a] [.ref a] _ _ hr e0 (hbind s₁ (.ref a)) (.cons rfl .nil) (hsp H hO hS)) fun r s' h => ?_
    cases r with
    | error e => exact (hCX H e s' h).elim
    | ok fl =>
      cases fl with
      | next => exact False.elim h
      | brk => exact False.elim h
      | cont => exact False.elim h
      | ret u =>
        obtain ⟨v, H', os, bare, un, hok', r', q⟩ := h
        have q' : v = .bl true := q
        subst q'
        obtain rfl : u = Value.bool true := r'
        refine ⟨rfl, OldK.of_keep fun b o e => ?_, os, bare⟩
        cases q : H b with
        | none => exact un.keep b o e q (by intro z; exact absurd (show b ∈ ([] : List Addr) from z) (by simp)) (by simp)
        | some u =>
          rcases hO b with z | ⟨ob, xs, z⟩
          · rw [q] at z; cases z
          · have z2 := un.frzs b ob _ z
            obtain ⟨e1, _⟩ := hok b _ z
            obtain ⟨e2, _⟩ := hok' b _ z2
            rw [e] at e1; cases e1
            exact e2
  cases hk : K.lookup a with
  | some o =>
    have e := KX a o hk
    rw [ha] at e
    cases e
    refine core (fun _ => none) (fun _ => .inl rfl) (.inr ⟨_, vs.toArray, _, hk, rfl, rfl, rfl, by rw [zq18x, lenV]; exact hl, by simpa using rv⟩) (fun b u z => by have z' : (none : Option HO) = some u := z; cases z') (fun b z => absurd rfl z) fun z => absurd rfl z
  | none =>
    refine core (fun b => if b = a then some (.frz { cls := .type "list", data := .seq vs.toArray } (.lst (ns.map V.int))) else none) (fun b => ?_) (.inl (.inr ⟨{ cls := .type "list", data := .seq vs.toArray }, if_pos rfl⟩)) (fun b u z => ?_) (fun b z => ?_) fun _ => hk
    · by_cases hb : b = a
      · exact .inr ⟨_, _, if_pos hb⟩
      · exact .inl (if_neg hb)
    · by_cases hb : b = a
      · have z' := (if_pos hb).symm.trans z
        cases z'
        subst hb
        exact ⟨ha, by rw [zq0x]; exact hl, vs, _, rv, ha⟩
      · have z' := (if_neg hb).symm.trans z
        cases z'
    · by_cases hb : b = a
      · exact hb
      · exact absurd (if_neg hb) z
theorem walk_of {l : PySem.W.OpenLaw} {n k : Nat} {q : Program} {loose : List Str} {XP : (Str -> Option Value) -> Heap -> Prop} {YP : World -> Heap -> Prop} {d : DefRec} {K : Params -> PySem.W.Frag} {CX : World -> CXT} {sp : World -> Sp} {x : Str}
  (hn : l.most = some n) (hn2 : n <= sizeLine) (hdf : d.params.defaults = []) (hr : Room k callerA)
  (hY : ∀ (w : World) (h : Heap), YP w h -> (K w.params).In h)
  (F : ∀ (w : World) (mg : Str -> Option Value) (fa : Addr) (h : Heap), (K w.params).In h -> h.Ns mainGlobals mg -> mg d.name = some (.ref fa) ->
   ∃ fd : FuncData, (∀ (s : Shared) (u : Value), BindsTo s fd ⟨[u], []⟩ [(x, u)]) /\
    ∀ base : Heap, (K w.params).In base -> base.Ns mainGlobals mg -> FnOk l.prog w (K w.params) mg base (CX w) k fa fd [x] (sp w))
  (hsp : ∀ (w : World) (H : Hp) (a : Addr) (ns : List Int), ns.length <= n -> Only H -> SqL (K w.params) H a (ns.map V.int) -> sp w [.ref a] H (fun v _ => v = .bl true) fun _ _ _ => False)
  (hCX : ∀ (w : World) (H : Hp) (s : Shared) (e : Value) (s' : Shared), CX w [] H s (fun _ _ _ => False) e s' -> False) :
  PySem.W.WalkO q loose XP YP l.row.toRowW d [] (fun f vs => PySem.call f vs) := by
 refine Att.attach_call hn hdf fun w s₀ s₁ mg mb fa o pm cd doc a vs ns G Y ho hd hcd hmg hobj hints hlen hg => ?_
 have KX := hY w _ Y
 obtain ⟨fd, hb, hF⟩ := F w mg fa _ KX G.T.g hmg
 exact law_call KX G.T.g G.T.b G.T.builtins G.T.nolimit hg hobj hints (zq24x hlen hn2) hr hF hb (fun H hO hS => hsp w H a ns hlen hO hS) fun H e s' => hCX w H s₁ e s'
end L2
/- THE LAST THEOREM (shape; LID, My.* are yours):
   My.Adr: a structure of the addresses that your layer names (classes, functions); My.Txt K t: a structure (Prop) of the equations over K;
   My.txt_mk : {K} {implicit addresses ..} (e1 : nsIn K mainGlobals "law" = some (some (.ref f))) (e2 : K.lookup f = some ⟨oc, od, .func (fnOf "law" "law" params body scope dV kV doc pm an cdv ct), sl⟩) (e3 : codeIn K cdv "law" = true) .. : ∃ t, My.Txt K t
set_option maxRecDepth 100000 in
set_option maxHeartbeats 0 in
(the tactic k_is has no namespace: write k_is) -/
namespace L2
open PySem PySem.Spec PyProof.Rows
def defArgs (s : Stmt) : Arguments := match s with
 | .FunctionDef _ a _ _ _ _ _ _ _ _ => a
 | _ => { posonlyargs := [], args := [], vararg := none, kwonlyargs := [], kw_defaults := [], kwarg := none, defaults := [] }
def defBody (s : Stmt) : List Stmt := match s with
 | .FunctionDef _ _ b _ _ _ _ _ _ _ => b
 | _ => []
def defScope (s : Stmt) : Scope := match s with
 | .FunctionDef _ _ _ _ _ _ sc _ _ _ => sc
 | _ => { kind := .function, names := [], isGenerator := false, isCoroutine := false }
abbrev CX0 : CXT := fun _ _ _ _ _ _ => False
abbrev E0 : XK := fun _ _ _ => False
theorem pass0 {X : Cx} : Passes CX0 X E0 := fun _ _ _ _ _ _ _ h => h.elim
structure Fun (K : PySem.W.Frag) (x qual : Str) (st : Stmt) (f : Addr) (fd : FuncData) : Prop where
 ex : ∃ (oc : Value) (od : Option Addr) (kV doc pm : Value) (an : Option Addr) (cdv ct : Value) (osl : Array (Option Value)),
  fd = PySem.W.fnOf x qual (defArgs st) (defBody st) (defScope st) .none kV doc pm an cdv ct /\ K.lookup f = some ⟨oc, od, .func fd, osl⟩ /\ PySem.W.codeIn K cdv qual = true
 kp : PySem.W.keepIn K (.ref f) = true
section
variable {P : Program} {w : World} {K : PySem.W.Frag} {mg : Str -> Option Value} {base : Heap}
theorem Fun.ok {x qual : Str} {st : Stmt} {f : Addr} {fd : FuncData} {N ps : List Str} {k : Nat} {sp : Sp} (F : Fun K x qual st f fd) (S : FnScope N ps (defScope st)) (len : ∀ vs H Q E, sp vs H Q E -> vs.length = ps.length)
  (hbody : ∀ (cdv : Value) (A : Around) (outer : List Env) (s : Shared) (H : Hp) (vs : List V) (Q : VK) (E : XK), Room k (A.deeper (envOfC qual (defScope st) s.heap.objs.size f cdv)) -> sp vs H Q E ->
   ∃ t, PSs (cxOf CX0 P w K mg base N qual (defScope st) f cdv A outer s H E).nox (defBody st) t /\ t { nx := fun _ H' => Q .non H', rt := Q } (start N vs) H) : FnOk P w K mg base CX0 (k + 1) f fd ps sp := by
 obtain ⟨oc, od, kV, doc, pm, an, cdv, ct, osl, rfl, lk, hcd⟩ := F.ex
 refine fn_of lk hcd S len fun A outer s H vs Q E hr hsp => ?_
 obtain ⟨t, h, q⟩ := hbody cdv A outer s H vs Q E hr hsp
 exact ⟨t, h.nox, q⟩
theorem Fun.binds {x qual : Str} {st : Stmt} {f : Addr} {fd : FuncData} {ps : List Str} (F : Fun K x qual st f fd)
  (h : ∀ (kV doc pm : Value) (an : Option Addr) (cdv ct : Value) (us : List Value), us.length = ps.length -> bindArgs (PySem.W.fnOf x qual (defArgs st) (defBody st) (defScope st) .none kV doc pm an cdv ct) ⟨us, []⟩ = pure (ps.zip us)) : Binds K fd ps [] := by
 obtain ⟨oc, od, kV, doc, pm, an, cdv, ct, osl, rfl, lk, hcd⟩ := F.ex
 exact .all (h kV doc pm an cdv ct)
theorem fun_mk {x qual : Str} {st : Stmt} {f : Addr} {oc : Value} {od an : Option Addr} {osl : Array (Option Value)} {kV doc pm cdv ct : Value} (l : K.lookup f = some ⟨oc, od, .func (PySem.W.fnOf x qual (defArgs st) (defBody st) (defScope st) .none kV doc pm an cdv ct), osl⟩)
  (c : PySem.W.codeIn K cdv qual = true) (k : PySem.W.keepIn K (.ref f) = true) : Fun K x qual st f (PySem.W.fnOf x qual (defArgs st) (defBody st) (defScope st) .none kV doc pm an cdv ct) := ⟨⟨oc, od, kV, doc, pm, an, cdv, ct, osl, rfl, l, c⟩, k⟩
end
theorem small1000 {n : Nat} (h : n <= 1000) : n < sizeLine := zq144x h (by decide)
section
variable {X : Cx}
theorem pv (i : Nat) {x : Str} {pos : Pos} (hN : X.N[i]? = some x := by rfl) (hv : Vis X.env.scope x := by first | exact Or.inl rfl | exact Or.inr (Or.inl rfl) | exact Or.inr (Or.inr rfl)) (hd : (x == ("__debug__" : Str)) = false := by decide)
  (hcd : (x == ("__classdict__" : Str)) = false := by decide) : PE X (.Name x pos) (tVar i) := pe_var hN hv hd hcd
end
theorem iteF {A B : Prop} (h : B) : if false = true then A else B := by
 rw [if_neg zq14x]
 exact h
theorem iteT {A B : Prop} (h : A) : if true = true then A else B := by
 rw [if_pos rfl]
 exact h
theorem ite2 {c A B : Prop} [Decidable c] (h1 : c -> A) (h2 : ¬ c -> B) : if c then A else B := by
 by_cases h : c
 ·rw [if_pos h]
  exact h1 h
 ·rw [if_neg h]
  exact h2 h
def Same (H H' : Hp) : Prop := ∀ b o, H b = some o -> H' b = some o
theorem Same.trans {H H1 H2 : Hp} (a : Same H H1) (b : Same H1 H2) : Same H H2 := fun c o h => b c o (a c o h)
theorem Same.free {H H' : Hp} (e : Same H H') {l : Addr} (h : H' l = Option.none) : H l = Option.none := by
  cases q : H l with
  | none => rfl
  | some o =>
    rw [e l o q] at h
    cases h
theorem Same.seq {K : PySem.W.Frag} {H H' : Hp} {a : Addr} {xs : List V} (e : Same H H') (h : SqL K H a xs) : SqL K H' a xs := by
 rcases h with (h | ⟨o, h⟩) | h
 ·exact .inl (.inl (e _ _ h))
 ·exact .inl (.inr ⟨o, e _ _ h⟩)
 ·exact .inr h
end L2
set_option maxHeartbeats 1000000
namespace L2
open PySem PySem.Spec PyProof.Rows
def clOf (cells : List (Str × Addr)) : List (Str × NameKind) -> List (Str × Addr) -> List (Str × Addr)
 | [], acc => acc
 | (n, k) :: r, acc => clOf cells r (if k == NameKind.free then (match cells.lookup n with | some a => (n, a) :: acc | none => acc) else acc)
theorem clOf_run {env : Env} {f : Str × NameKind -> List (Str × Addr) -> Sem (ForInStep (List (Str × Addr)))}
    (hf : ∀ x acc, f x acc = if (x.2 == NameKind.free) = true then (do let a <- cellOf env x.1; pure (ForInStep.yield ((x.1, a) :: acc))) else pure (ForInStep.yield acc)) :
    ∀ (l : List (Str × NameKind)) (acc : List (Str × Addr)), (∀ x ∈ l, x.2 = .free -> ∃ a, env.cells.lookup x.1 = some a) -> (forIn l acc f : Sem (List (Str × Addr))) = pure (clOf env.cells l acc)
  | [], acc, _ => by rw [List.forIn_nil]; rfl
  | (n, k) :: r, acc, h => by
    have hr := fun x hx => h x (zq25x _ hx)
    rw [List.forIn_cons, hf]
    by_cases hk : (k == NameKind.free) = true
    · have hk' : k = NameKind.free := by simpa using hk
      obtain ⟨a, ha⟩ := h (n, k) zq22x hk'
      have hc : cellOf env n = pure a := by unfold cellOf; rw [ha]
      rw [if_pos hk, hc]
      show (forIn r ((n, a) :: acc) f : Sem (List (Str × Addr))) = pure (clOf env.cells r _)
      rw [clOf_run hf r _ hr, if_pos hk, ha]
    · rw [if_neg hk]
      show (forIn r acc f : Sem (List (Str × Addr))) = pure (clOf env.cells r _)
      rw [clOf_run hf r _ hr, if_neg hk]
theorem closureFor_eq {scope : Scope} {env : Env} (h : ∀ x ∈ scope.names, x.2 = .free -> ∃ a, env.cells.lookup x.1 = some a) : closureFor scope env = pure (clOf env.cells scope.names []) := by
 simp only [closureFor]
 rw [clOf_run (env := env) (fun ⟨n, k⟩ acc => by dsimp only) scope.names [] h]
 rfl
theorem clOf_sub {cells : List (Str × Addr)} : ∀ {l : List (Str × NameKind)} {acc : List (Str × Addr)} {x : Str} {c : Addr}, (∀ y d, acc.lookup y = some d -> cells.lookup y = some d) -> (clOf cells l acc).lookup x = some c -> cells.lookup x = some c
  | [], _, _, _, ha, h => ha _ _ h
  | (n, k) :: r, acc, x, c, ha, h => by
    refine clOf_sub (l := r) ?_ h
    intro y d hd
    by_cases hk : (k == NameKind.free) = true
    · rw [if_pos hk] at hd
      cases q : cells.lookup n with
      | none => rw [q] at hd; exact ha _ _ hd
      | some a =>
        rw [q] at hd
        by_cases hy : (y == n) = true
        · have hy' : y = n := by simpa using hy
          subst hy'
          simp [zq31x] at hd
          rw [q, hd]
        · have hy' : (y == n) = false := by simpa using hy
          simp only [zq31x, hy'] at hd
          exact ha _ _ hd
    · rw [if_neg hk] at hd; exact ha _ _ hd
theorem clOf_keep {cells : List (Str × Addr)} : ∀ {l : List (Str × NameKind)} {acc : List (Str × Addr)} {x : Str}, (acc.lookup x).isSome = true -> ((clOf cells l acc).lookup x).isSome = true
  | [], _, _, h => h
  | (n, k) :: r, acc, x, h => by
    refine clOf_keep (l := r) ?_
    by_cases hk : (k == NameKind.free) = true
    · rw [if_pos hk]
      cases q : cells.lookup n with
      | none => exact h
      | some a =>
        by_cases hy : (x == n) = true
        · simp [zq31x, hy]
        · have hy' : (x == n) = false := by simpa using hy
          simp only [zq31x, hy']
          exact h
    · rw [if_neg hk]; exact h
theorem clOf_has {cells : List (Str × Addr)} : ∀ {l : List (Str × NameKind)} {acc : List (Str × Addr)} {x : Str} {a : Addr}, (x, NameKind.free) ∈ l -> cells.lookup x = some a -> ((clOf cells l acc).lookup x).isSome = true
  | [], _, _, _, h, _ => nomatch h
  | (n, k) :: r, acc, x, a, h, hc => by
    rcases zq17x.mp h with e | h
    · obtain ⟨rfl, rfl⟩ := Prod.mk.inj e
      refine clOf_keep (l := r) ?_
      rw [if_pos (by decide), hc]
      simp [zq31x]
    · exact clOf_has (l := r) h hc
theorem clOf_look {cells : List (Str × Addr)} {l : List (Str × NameKind)} {x : Str} {a : Addr} (h : (x, NameKind.free) ∈ l) (hc : cells.lookup x = some a) : (clOf cells l []).lookup x = some a := by
 obtain ⟨c, e⟩ := zq142x.mp (clOf_has (acc := []) h hc)
 have := clOf_sub (fun y d (q : ([] : List (Str × Addr)).lookup y = some d) => by simp at q) e
 rw [hc] at this; cases this
 exact e
theorem relabel_look {env : Env} : ∀ {l : List (Str × NameKind)} {x : Str} {k : NameKind}, (∀ y ∈ l, y.2 ≠ .cell) ->
    (l.map fun (n, k) => if (k == NameKind.free && env.scope.kind == .function && env.kindOf n == some .cell) then (n, NameKind.cell) else (n, k)).lookup x = some k -> k = .cell \/ k = .free -> l.lookup x = some .free
  | [], _, _, _, h, _ => by simp at h
  | (n, q) :: r, x, k, hc, h, hk => by
    have hr := fun y hy => hc y (zq25x _ hy)
    have ih := relabel_look (env := env) (l := r) (x := x) (k := k) hr
    rw [zq8x] at h
    dsimp only at h
    by_cases hx : (x == n) = true
    · simp only [zq31x, hx]
      by_cases hq : (q == NameKind.free && env.scope.kind == .function && env.kindOf n == some .cell) = true
      · have : q = .free := by
          simp only [zq26x] at hq
          simpa using hq.1.1
        rw [this]
      · rw [if_neg hq] at h
        simp only [zq31x, hx] at h
        have hqk : q = k := zq37x h
        rcases hk with e | e
        · exact absurd (hqk.trans e) (hc (n, q) zq22x)
        · rw [hqk, e]
    · have hx' : (x == n) = false := by simpa using hx
      simp only [zq31x, hx']
      refine ih ?_ hk
      by_cases hq : (q == NameKind.free && env.scope.kind == .function && env.kindOf n == some .cell) = true
      · rw [if_pos hq] at h
        simp only [zq31x, hx'] at h
        exact h
      · rw [if_neg hq] at h
        simp only [zq31x, hx'] at h
        exact h
theorem relabel_free {env : Env} : ∀ {l : List (Str × NameKind)} {x : Str}, l.lookup x = some .free ->
    (l.map fun (n, k) => if (k == NameKind.free && env.scope.kind == .function && env.kindOf n == some .cell) then (n, NameKind.cell) else (n, k)).lookup x = some .cell \/
    (l.map fun (n, k) => if (k == NameKind.free && env.scope.kind == .function && env.kindOf n == some .cell) then (n, NameKind.cell) else (n, k)).lookup x = some .free
  | [], _, h => by simp at h
  | (n, q) :: r, x, h => by
    have ih := relabel_free (env := env) (l := r) (x := x)
    rw [zq8x]
    dsimp only
    by_cases hx : (x == n) = true
    · simp only [zq31x, hx] at h
      by_cases hq : (q == NameKind.free && env.scope.kind == .function && env.kindOf n == some .cell) = true
      · rw [if_pos hq]
        left
        simp only [zq31x, hx]
      · rw [if_neg hq]
        right
        simp only [zq31x, hx]
        exact h
    · have hx' : (x == n) = false := by simpa using hx
      simp only [zq31x, hx'] at h
      have := ih h
      by_cases hq : (q == NameKind.free && env.scope.kind == .function && env.kindOf n == some .cell) = true
      · rw [if_pos hq]
        simp only [zq31x, hx']
        exact this
      · rw [if_neg hq]
        simp only [zq31x, hx']
        exact this
def compOkB (sx : Scope) (NX : List Str) (scope : Scope) (N : List Str) (mp : List (Option Nat)) : Bool :=
 (scope.kind == .function) && scope.names.all (fun y => y.2 != .cell) && scope.names.all (fun y => y.2 != .local || scope.names.lookup y.1 == some .local) &&
 scope.names.all (fun y => y.2 != .free || sx.names.lookup y.1 == some .cell || sx.names.lookup y.1 == some .free) && (mp.length == N.length) &&
 ((N.zip mp).all fun p => match p.2 with | none => true | some j => NX[j]? == some p.1 && scope.names.lookup p.1 == some .free)
structure CompOk (sx : Scope) (NX : List Str) (scope : Scope) (N : List Str) (mp : List (Option Nat)) : Prop where
 kind : scope.kind = .function
 cell : ∀ y ∈ scope.names, y.2 ≠ .cell
 names : ∀ y ∈ scope.names, y.2 = .local -> scope.names.lookup y.1 = some .local
 free : ∀ y ∈ scope.names, y.2 = .free -> sx.names.lookup y.1 = some .cell \/ sx.names.lookup y.1 = some .free
 len : mp.length = N.length
 look : ∀ (i j : Nat) (x : Str), mp[i]? = some (some j) -> N[i]? = some x -> NX[j]? = some x /\ scope.names.lookup x = some .free
theorem CompOk.of {sx : Scope} {NX : List Str} {scope : Scope} {N : List Str} {mp : List (Option Nat)} (h : compOkB sx NX scope N mp = true) : CompOk sx NX scope N mp := by
 unfold compOkB at h
 simp only [zq26x, zq101x] at h
 obtain ⟨⟨⟨⟨⟨h1, h2⟩, h3⟩, h4⟩, h5⟩, h6⟩ := h
 refine ⟨by simpa using h1, fun y hy => by simpa using h2 y hy, fun y hy e => ?_, fun y hy e => ?_, by simpa using h5, fun i j x e1 e2 => ?_⟩
 ·have := h3 y hy
  simpa [e] using this
 ·have := h4 y hy
  simpa [e] using this
 ·have hm : (x, some j) ∈ N.zip mp := by
   have : (N.zip mp)[i]? = some (x, some j) := by
    rw [List.getElem?_zip_eq_some]; exact ⟨e2, e1⟩
   exact zq4x this
  have := h6 _ hm
  simpa using this
def startC (mp : List (Option Nat)) (σ : St) : St := mp.map fun o => match o with | none => none | some j => match σ[j]? with | some v => v | none => none
def compX (X : Cx) (scope : Scope) (C : Addr) (N : List Str) (s₀ : Shared) (H₀ : Hp) (fp : List Addr) : Cx :=
 { X with N := N, s₀ := s₀, H₀ := H₀, env := compEnvC scope (clOf X.env.cells scope.names []) C X.env, outer := X.stack, ex := fp, fn := fun _ => false, pn := [], xe := fun _ _ => False }
def PTs (X : Cx) (ifs : List Expr) (t : TT) : Prop :=
 ∀ (pins : List (Addr × Obj)) (s : Shared) (σ : St) (H : Hp) (Q : Bool -> Hp -> Prop), Inv X pins σ H s -> t σ H Q ->
  wpAny (model X.prog X.w) X.A (forIn ifs true fun c r => if r = true then do let ok <- isTrue c X.env (eval c X.env); pure (ForInStep.yield ok) else pure (ForInStep.yield r)) (TP X pins σ Q) X.xe s
def tNoTest : TT := fun _ H Q => Q true H
theorem pts_nil {X : Cx} : PTs X [] tNoTest := fun pins s σ H Q I h => wpAny_tests_nil ⟨H, I, h⟩
theorem pts_one {X : Cx} {c : Expr} {t : TT} (h : PT X c t) : PTs X [c] t := fun pins s σ H Q I q => wpAny_tests_one (h pins s σ H Q I q)
def CompW (J : It) (g : TG) (tc : TT) (te : TE) (acc : Addr) (Qe : Hp -> Prop) (σ : St) (H : Hp) : Prop := ∃ W : Nat -> Nat -> St -> Hp -> Prop, (∃ m, W 0 m σ H) /\ ∀ i m σ H, W i m σ H ->
 (J.stop i H /\ Qe H) \/ (J.go i H /\ ∃ Nx : St -> Hp -> Prop, (∀ σ' H', Nx σ' H' -> ∃ m', m' < m /\ W (i + 1) m' σ' H') /\ ∀ x H', J.yld i H x H' -> g x σ H' fun σ2 H2 => tc σ2 H2 fun b H3 =>
  if b = true then te σ2 H3 fun v H4 => ∃ ys, H4 acc = some (.lst ys) /\ ys.length < sizeLine /\ Nx σ2 (upd H4 acc (.lst (ys ++ [v]))) else Nx σ2 H3)
def tComp (wi : TI) (g : TG) (tc : TT) (te : TE) (mp : List (Option Nat)) : TE := fun σ H Q => wi σ H fun J H1 => ∀ acc, H1 acc = none -> CompW J g tc te acc (fun H' => Q (.ref acc) H') (startC mp σ) (upd H1 acc (.lst []))
section
variable {prog : Program} {w : World} {A : Around} {R : Result -> Shared -> Prop} {s : Shared}
theorem codeAny_compLoop_own {elt target iter : Expr} {ifs : List Expr} {scope : Scope} {pos : Pos} {it acc : Value} {env : Env} (I : Nat -> Shared -> Prop)
    (turn : ∀ n s, I n s -> wpAny (model prog w) A (pyNext it) (fun r s₁ => match r with
      | none => R (.ok .next) s₁
      | some v => wpAny (model prog w) A (letOwnedTupleGo target it v) (fun _ s₀ => wpAny (model prog w) A (assign target env v) (fun _ s₂ =>
          wpAny (model prog w) A (forIn ifs true fun c r => if r = true then do let ok <- isTrue c env (eval c env); pure (ForInStep.yield ok) else pure (ForInStep.yield r)) (fun ok s₃ =>
            if ok = true then wpAny (model prog w) A (eval elt env) (fun x s₄ =>
              wpAny (model prog w) A (call (.builtin "list.append") [acc, x]) (fun _ s₅ => ∃ m, m < n /\ I m s₅) (fun _ _ => False) s₄) (fun _ _ => False) s₃
            else ∃ m, m < n /\ I m s₃) (fun _ _ => False) s₂) (fun _ _ => False) s₀) (fun _ _ => False) s₁) (fun _ _ => False) s)
    (n : Nat) (h : I n s) :
    codeAny (model prog w) A (.compLoop (.ListComp elt [⟨target, iter, ifs, 0⟩] scope pos) 0 it acc env) R s := by
  refine codeAny_loop rfl I (fun n s hI => ?_) n h
  show wpAny _ A ((compTurn (.ListComp elt [⟨target, iter, ifs, 0⟩] scope pos) 0 it acc env).onRaise (fun x => do noteFrame x env; theTreesLotGoes x)) _ _ s
  refine wpAny_noted ?_
  rw [compTurn_list]
  refine wpAny_bind (wpAny_standAt (wpAny_bind (wpAny_mono (turn n s hI) (fun r s₁ h₁ => ?_) fun _ _ h' => h'.elim)))
  cases r with
  | none => exact wpAny_pure h₁
  | some v =>
    refine wpAny_bind (wpAny_mono h₁ (fun _ s₀ h₀ => ?_) fun _ _ h' => h'.elim)
    refine wpAny_bind (wpAny_mono h₀ (fun _ s₂ h₂ => wpAny_bind (wpAny_mono h₂ (fun ok s₃ h₃ => ?_) fun _ _ h' => h'.elim)) fun _ _ h' => h'.elim)
    cases ok with
    | false => exact wpAny_pure ⟨rfl, h₃⟩
    | true =>
      exact wpAny_bind (wpAny_bind (wpAny_mono h₃ (fun x s₄ h₄ => wpAny_bind (wpAny_mono h₄ (fun _ s₅ h₅ => wpAny_pure (wpAny_pure ⟨rfl, h₅⟩)) fun _ _ h' => h'.elim)) fun _ _ h' => h'.elim))
end
section
variable {X : Cx}
theorem comp_core {elt iter tg : Expr} {ifs : List Expr} {scope : Scope} {pos pos' : Pos} {N : List Str} {mp : List (Option Nat)} {wi : TI} {g : TG} {tc : TT} {te : TE} {use : Option (Value -> Sem Unit)}
    {pins : List (Addr × Obj)} {s : Shared} {σ : St} {H : Hp} {Q : VK} {QQ : Value -> Shared -> Prop}
    (ok : CompOk X.env.scope X.N scope N mp) (hc : X.calm = true) (hi : PI X tg iter wi)
    (hb : ∀ C s₀ H₀ fp, PG (compX X scope C N s₀ H₀ fp) tg g /\ PTs (compX X scope C N s₀ H₀ fp) ifs tc /\ PE (compX X scope C N s₀ H₀ fp) elt te)
    (hs : ∀ x, foldedSetIterable iter X.env x = pure x) (I : Inv X pins σ H s) (h : tComp wi g tc te mp σ H Q)
    (fin : ∀ acc C H' s' m, Inv X pins σ H' s' -> FpOk X pins H' C -> s'.heap.Ns C m -> Q (.ref acc) H' -> compPost (model X.prog X.w) X.A X.xe use QQ (.ref acc) C (.ok .next) s') :
    wpAny (model X.prog X.w) X.A (comprehension (.ListComp elt [⟨tg, iter, ifs, 0⟩] scope pos) scope X.env pos' (newList []) false (eval iter X.env) use) QQ X.xe s := by
  have hfree : ∀ x ∈ scope.names, x.2 = .free -> ∃ a, X.env.cells.lookup x.1 = some a := fun x hx e => I.ok.has x.1 (ok.free x hx e)
  refine wpAny_comprehension_free (use := use) rfl hs (closureFor_eq hfree) ok.kind ok.names (thn (hi pins s σ H _ I h) fun v s1 h1 => thn h1 fun itv s2 h2 => ?_)
  obtain ⟨it, fp, tn, J, H2, e, I2, T, st2, f2, hW⟩ := h2
  subst e
  refine wpAny_newObj_type (wpAny_newFunctionEnv ok.cell (by intro y hy; simp at hy) (fun h₁ hns₁ hsb₁ => ?_) ok.kind)
  dsimp only at hns₁ hsb₁ ⊢
  have I3 := I2.lnew (its := []) (ys := []) (t' := s2.toks) .nil (zq45x _)
  have hW := hW s2.heap.objs.size I2.fresh
  obtain ⟨W, ⟨m0, w0⟩, turn⟩ := hW
  generalize hHP : s2.heap.push { cls := .type "list", dict := none, data := .seq ([] : List Value).toArray } = HP at hns₁ hsb₁ ⊢
  have I3 : Inv X pins σ (upd H2 s2.heap.objs.size (.lst [])) { s2 with heap := HP } := by rw [<- hHP]; exact I3
  generalize hH3 : upd H2 s2.heap.objs.size (.lst []) = H3 at I3 w0
  have hC : HP.objs.size = s2.heap.objs.size + 1 := by rw [<- hHP, zq75x]
  have old : ∀ b o, HP.get? b = some o -> h₁.get? b = some o := fun b o e => hsb₁.extBut b o (zq12x (zq6x e)) (zq7x _ e)
  have flt : ∀ b ∈ fp, b < s2.heap.objs.size := fun b hb => by
    obtain ⟨o, e, _⟩ := T.obj 0 _ st2 b hb
    exact zq6x e
  have fH3 : ∀ b ∈ fp, H3 b = none := fun b hb => by
    rw [<- hH3, upd_ne (zq12x (flt b hb))]
    exact (f2 b hb).1
  have clsub : ∀ {x : Str} {c : Addr}, (clOf X.env.cells scope.names []).lookup x = some c -> X.env.cells.lookup x = some c := fun {x c} e => clOf_sub (fun y d q => by simp at q) e
  have yok : (compX X scope HP.objs.size N { s2 with heap := HP } H3 fp).Ok := by
    refine ⟨I2.ok.mod, ok.kind, I2.ok.glob, I2.ok.blt, zq3x _, fun x y c e1 e2 => I2.ok.inj x y c (clsub e1) (clsub e2), fun x hx => ?_, (fun x c e => absurd (show false = true from e) (by decide)), I2.ok.hd, I2.ok.frames, .inl rfl, fun b hb => ?_, I3.bs, zq24x I3.ok.bsz I3.sz, fun b o e hb => ?_, fun b hb hz => ?_, I3.stack, I3.stkFree⟩
    · have hx' : scope.names.lookup x = some .free := by
        rcases hx with hx | hx
        · exact relabel_look ok.cell hx (.inl rfl)
        · exact relabel_look ok.cell hx (.inr rfl)
      have hm := zq88x hx'
      obtain ⟨a, ha⟩ := hfree _ hm rfl
      exact ⟨a, clOf_look hm ha⟩
    · refine ⟨fun z => ?_, fun x c e => (f2 b hb).2.2.2.2.1 x c (clsub e)⟩
      have z' : b = HP.objs.size := z
      have q := flt b hb
      rw [z', hC] at q
      exact absurd q (Nat.not_lt.mpr (zq54x _))
    · rcases (f2 b hb).2.2.2.1 with z | z
      · exact I2.ok.noex b o e z
      · exact absurd (zq23x (zq6x (I2.ok.bs b o e).1) z) (zq51x _)
    · rcases zq17x.mp (I2.stkSub b hz) with z | z
      · exact (f2 b hb).2.1 z
      · exact (f2 b hb).2.2.1 z
  have IY : Inv (compX X scope HP.objs.size N { s2 with heap := HP } H3 fp) [] (startC mp σ) H3 { s2 with heap := h₁, toks := s2.toks + ([] : List (Str × Value)).length } := by
    refine ⟨yok, rfl, I2.bare, Un.kept old, ⟨_, hns₁, fun i x v e1 e2 e3 => ?_⟩, fun x c e => ?_, I3.hok.fresh (zq3x _), fun x c e => I3.freeC x c (clsub e), fun p hp => absurd (show p ∈ ([] : List (Addr × Obj)) from hp) (by simp), I3.hok.kept old, ?_⟩
    · have hj : ∃ j, mp[i]? = some (some j) /\ σ[j]? = some (some v) := by
        unfold startC at e2
        rw [zq2x] at e2
        cases q : mp[i]? with
        | none => rw [q] at e2; cases e2
        | some o =>
          rw [q] at e2
          cases o with
          | none => cases e2
          | some j =>
            refine ⟨j, rfl, ?_⟩
            have e2 : (match σ[j]? with | some v => v | none => none) = some v := zq37x e2
            cases r : σ[j]? with
            | none => rw [r] at e2; cases e2
            | some u =>
              rw [r] at e2
              have e2 : u = some v := e2
              rw [e2]
      obtain ⟨j, hj1, hj2⟩ := hj
      obtain ⟨l1, l2⟩ := ok.look i j x hj1 e1
      have hm := zq88x l2
      have kx := ok.free _ hm rfl
      obtain ⟨mm, _, hl⟩ := I3.loc
      obtain ⟨u, ru, lk⟩ := hl j x v l1 hj2 (kx.elim (fun z => .inr (.inl z)) fun z => .inr (.inr z))
      refine ⟨u, ru, .inr ⟨relabel_free l2, ?_⟩⟩
      rcases lk with ⟨k, _⟩ | ⟨_, c, e, z⟩
      · exfalso
        have k' : X.env.scope.names.lookup x = some .local := k
        rcases kx with kx | kx
        · rw [k'] at kx; cases kx
        · rw [k'] at kx; cases kx
      · refine ⟨c, clOf_look hm e, ?_⟩
        obtain ⟨o, ho, hd⟩ := z
        exact ⟨o, old c o ho, hd⟩
    · obtain ⟨v, o, ho, hd⟩ := I3.cell x c (clsub e)
      exact ⟨v, o, old c o ho, hd⟩
    · show (startC mp σ).length = N.length
      unfold startC
      rw [zq0x, ok.len]
  have stat : ∀ {H' : Hp}, (∀ b ∈ fp, H' b = none) -> ∀ b ∈ fp, FpOk (compX X scope HP.objs.size N { s2 with heap := HP } H3 fp) [] H' b := fun {H'} hn b hb =>
    ⟨hn b hb, (yok.exf b hb).1, yok.exfs b hb, .inl hb, (yok.exf b hb).2, fun p hp => absurd (show p ∈ ([] : List (Addr × Obj)) from hp) (by simp)⟩
  have stY : tn 0 h₁ := T.keep 0 _ _ st2 fun b hb o e => old b o (by rw [<- hHP]; exact zq7x _ e)
  have loop : codeAny (model X.prog X.w) X.A (.compLoop (.ListComp elt [⟨tg, iter, ifs, 0⟩] scope pos) 0 (.ref it) (.ref s2.heap.objs.size) (compEnvC scope (clOf X.env.cells scope.names []) HP.objs.size X.env))
      (compPost (model X.prog X.w) X.A X.xe use QQ (.ref s2.heap.objs.size) HP.objs.size) { s2 with heap := h₁, toks := s2.toks + ([] : List (Str × Value)).length } := by
    obtain ⟨hg, ht, he⟩ := hb HP.objs.size { s2 with heap := HP } H3 fp
    generalize hY : compX X scope HP.objs.size N { s2 with heap := HP } H3 fp = Y at hg ht he IY stat
    have yp : Y.prog = X.prog := by rw [<- hY]; rfl
    have yw : Y.w = X.w := by rw [<- hY]; rfl
    have yK : Y.K = X.K := by rw [<- hY]; rfl
    have yA : Y.A = X.A := by rw [<- hY]; rfl
    have yc : Y.calm = true := by rw [<- hY]; exact hc
    have yx : Y.xe = fun _ _ => False := by rw [<- hY]; rfl
    have yenv : Y.env = compEnvC scope (clOf X.env.cells scope.names []) HP.objs.size X.env := by rw [<- hY]; rfl
    rw [<- yenv]
    refine codeAny_compLoop_own (fun n s' => ∃ i σ' H', Inv Y [] σ' H' s' /\ tn i s'.heap /\ (∀ b ∈ fp, H' b = none) /\ W i n σ' H') ?_ m0 ⟨0, _, H3, IY, stY, fH3, w0⟩
    rintro n s3 ⟨i, σ3, H4, I4, st3, fr3, w3⟩
    rcases turn i n σ3 H4 w3 with ⟨stop, qn⟩ | ⟨go, Nx, hN, step⟩
    · have q0 := T.done Y yp yw yK yc i [] s3 σ3 H4 (fun _ _ => False) I4 (stat fr3) st3 stop
      rw [yA] at q0
      refine thn q0 fun r s4 ⟨hr, I5⟩ => ?_
      subst hr
      show compPost (model X.prog X.w) X.A X.xe use QQ (.ref s2.heap.objs.size) HP.objs.size (.ok .next) s4
      obtain ⟨m, hm, _⟩ := id I5.loc
      have yl : Y.env.locals = HP.objs.size := by rw [yenv]; rfl
      rw [yl] at hm
      have fC : H4 HP.objs.size = none := by have := I5.free; rw [yl] at this; exact this
      have ub := I5.base
      have ub' : Un (frs X.stack) fp H3 H4 HP s4.heap := by rw [<- hY] at ub; exact ub
      have hos : s4.os = s2.os := by have := I5.os; rw [<- hY] at this; exact this
      have hok5 : HOk X.prog X.w H4 s4.heap := by have := I5.hok; rw [yp, yw] at this; exact this
      have IX : Inv X pins σ H4 s4 := I3.call' (ch := fp) hos ub' hok5 I5.bare fun b hb => ⟨(f2 b hb).2.2.2.1, (f2 b hb).2.1, (f2 b hb).2.2.2.2.1, (f2 b hb).2.2.2.2.2⟩
      exact fin _ _ H4 s4 m IX (I3.fpOk (zq3x _) fC) hm qn
    · have q0 := T.item Y yp yw yK yc i [] s3 σ3 H4 (fun _ _ => False) I4 (stat fr3) st3 go
      rw [yA] at q0
      refine thn q0 fun r s4 ⟨u, hr, h4⟩ => ?_
      subst hr
      refine thn h4 fun _ s5 ⟨x, H5, I5, r5, y5, st5, fr5⟩ => ?_
      have I5' := I5.pinned (stat fr5) (T.obj _ _ st5)
      rw [<- yx, <- yp, <- yw, <- yA]
      refine thn (hg _ s5 σ3 H5 x u _ I5' r5 (step x H5 y5)) fun _ s6 ⟨σ6, H6, I6, q6⟩ => ?_
      refine thn (ht _ s6 σ6 H6 _ I6 q6) fun b s7 ⟨H7, I7, q7⟩ => ?_
      have again : ∀ {σ8 : St} {H8 : Hp} {s8 : Shared}, Inv Y ([] ++ pinsAt fp s5.heap) σ8 H8 s8 -> Nx σ8 H8 -> ∃ m, m < n /\ ∃ i σ' H', Inv Y [] σ' H' s8 /\ tn i s8.heap /\ (∀ b ∈ fp, H' b = none) /\ W i m σ' H' := fun {σ8 H8 s8} I8 n8 => by
        obtain ⟨m', hm, w8⟩ := hN σ8 H8 n8
        refine ⟨m', hm, i + 1, σ8, H8, I8.unpinned, T.keep _ _ _ st5 fun b hb o e => (I8.pin (b, o) (zq57x _ (zq57x _ (mem_pinsAt hb e)))).1, fun b hb => ?_, w8⟩
        obtain ⟨o, e, d⟩ := T.obj _ _ st5 b hb
        exact (I8.pin (b, o) (zq57x _ (zq57x _ (mem_pinsAt hb e)))).2.1
      cases b with
      | false =>
        rw [if_neg zq14x]
        rw [if_neg zq14x] at q7
        exact again I7 q7
      | true =>
        rw [if_pos rfl]
        rw [if_pos rfl] at q7
        refine thn (he _ s7 σ6 H7 _ I7 q7) fun v s8 ⟨y, H8, I8, r8, ys, e8, z8, n8⟩ => ?_
        refine thn (mt_append _ s8 σ6 H8 (.ref s2.heap.objs.size) [y] (.ref s2.heap.objs.size) [v] (fun _ H9 => H9 = upd H8 s2.heap.objs.size (.lst (ys ++ [y]))) I8 rfl (.cons r8 .nil) ⟨_, ys, y, rfl, rfl, e8, z8, rfl⟩) fun v9 s9 ⟨y9, H9, I9, r9, e9⟩ => ?_
        subst e9
        exact again I9 n8
  refine codeAny_compStart_list loop (T.self _ _ _ _ _ stY loop)
theorem FpOk.turned {pins : List (Addr × Obj)} {s : Shared} {σ : St} {H : Hp} {C : Addr} {h' : Heap} (I : Inv X pins σ H s) (f : FpOk X pins H C) (hs : Heap.SameBut C s.heap h') : Inv X pins σ H { s with heap := h' } :=
 I.turned (t' := s.toks) (fun b o hb e => (hs.2 b hb).trans e) f.1 f.2.1 f.2.2.2.1 f.2.2.2.2.1 f.2.2.2.2.2
theorem pe_lcomp {elt iter tg : Expr} {ifs : List Expr} {scope : Scope} {pos : Pos} {N : List Str} {mp : List (Option Nat)} {wi : TI} {g : TG} {tc : TT} {te : TE}
  (ok : CompOk X.env.scope X.N scope N mp) (hi : PI X tg iter wi)
  (hb : ∀ C s₀ H₀ fp, PG (compX X scope C N s₀ H₀ fp) tg g /\ PTs (compX X scope C N s₀ H₀ fp) ifs tc /\ PE (compX X scope C N s₀ H₀ fp) elt te) (hc : X.calm = true := by rfl)
  (hs : ∀ x, foldedSetIterable iter X.env x = pure x := by intro _; rfl) : PE X (.ListComp elt [⟨tg, iter, ifs, 0⟩] scope pos) (tComp wi g tc te mp) := by
 intro pins s σ H Q I h
 rw [eval_ListComp]
 refine comp_core (use := none) ok hc hi hb hs I h fun acc C H' s' m I' f hn q => ?_
 exact ⟨m, hn, fun h' hs' => ⟨.ref acc, H', f.turned I' hs', rfl, q⟩⟩
def tSetC (i : Nat) (t : TE) : TS := fun D σ H => t σ H fun v H' => D.nx (σ.set i (some v)) H'
theorem ps_setC {elt iter tg : Expr} {ifs : List Expr} {scope : Scope} {pos spos py : Pos} {N : List Str} {mp : List (Option Nat)} {wi : TI} {g : TG} {tc : TT} {te : TE} {i : Nat} {y : Str}
  (hN : X.N.Nodup) (hy : X.N[i]? = some y) (hk : X.env.kindOf y = some .local)
  (ok : CompOk X.env.scope X.N scope N mp) (hi : PI X tg iter wi)
  (hb : ∀ C s₀ H₀ fp, PG (compX X scope C N s₀ H₀ fp) tg g /\ PTs (compX X scope C N s₀ H₀ fp) ifs tc /\ PE (compX X scope C N s₀ H₀ fp) elt te) (hc : X.calm = true := by rfl)
  (hsw : swapsWith (.ListComp elt [⟨tg, iter, ifs, 0⟩] scope pos) (some (.Name y py)) spos.line X.env = pure true := by rfl)
  (hs : ∀ x, foldedSetIterable iter X.env x = pure x := by intro _; rfl) : PS X (.Assign [.Name y py] (.ListComp elt [⟨tg, iter, ifs, 0⟩] scope pos) spos) (tSetC i (tComp wi g tc te mp)) := by
 intro pins s σ H D I h
 rw [exec_Assign_Name_used _ _ _ _ hsw]
 refine wpAny_bind (wpAny_standAt (wpAny_bind ?_))
 show wpAny _ X.A (do let _ <- comprehension (.ListComp elt [⟨tg, iter, ifs, 0⟩] scope pos) scope X.env _ (newList []) false (eval iter X.env) (some (assign (.Name y py) X.env))) _ _ s
 refine wpAny_bind (wpAny_mono (comp_core (use := some (assign (.Name y py) X.env)) (QQ := fun _ s' => SP X pins D .next s') ok hc hi hb hs I h fun acc C H' s' m I' f hn q => ?_) (fun _ s' hq => wpAny_pure (wpAny_pure hq)) fun _ _ e => e)
 refine wpAny_assign_Name (store_ok2 (v := .ref acc) I' hN hy (.inl hk) rfl (fun s2 I2 ⟨a, sb, ha⟩ => ?_) (.inr hk))
 have hne : C ≠ a := by
  rcases ha with z | z
  ·rw [z]; exact f.2.1
  ·exact fun e => f.2.2.2.2.1 y a z e.symm
 exact ⟨m, hn.sameBut sb hne, fun h' hs' => ⟨_, H', f.turned I2 hs', q⟩⟩
end
def Sm (i : Int) : Prop := -(2 ^ 300) < i /\ i < 2 ^ 300
theorem sm_bits {i : Int} (h : Sm i) : Builtin.Int.intBits i <= 2 ^ 20 := by
 obtain ⟨h1, h2⟩ := h
 unfold Builtin.Int.intBits
 split
 ·exact zq45x _
 ·rename_i h0
  have hn : i.natAbs ≠ 0 := by
   intro e
   apply h0
   simp
   omega
  have h3 : i.natAbs < 2 ^ 300 := by omega
  have h4 : i.natAbs.log2 < 300 := (zq145x hn).mpr h3
  have : (2 : Nat) ^ 20 = 1048576 := by decide
  omega
theorem sm_pylong {x y : Int} (h : Sm y) : Builtin.divisionGoesByPylong x y = false := by
 refine PyProof.noPylong_of_log2 ?_
 obtain ⟨h1, h2⟩ := h
 by_cases h0 : y.natAbs = 0
 ·rw [h0]; decide +kernel
 ·have h3 : y.natAbs < 2 ^ 300 := by omega
  have h4 : y.natAbs.log2 < 300 := (zq145x h0).mpr h3
  omega
section
variable {X : Cx}
theorem op_fdivS : OpR X (binaryOp .FloorDiv) (rI (fun _ j => 0 < j /\ Sm j) fun i j => .int (i / j)) := opI fun i j _ _ _ _ _ hc q =>
 floordiv_int (by omega) (by rw [Int.fdiv_eq_ediv_of_nonneg _ (by omega)]; exact q) (.inl (sm_pylong hc.2))
theorem mt_bits : MtR X "int.bit_length" (fun x xs H Q => ∃ i, x = .int i /\ xs = [] /\ Q (.int (Builtin.Int.intBits i)) H) := by
 intro pins s σ H x xs v us Q I rx rv h
 obtain ⟨i, rfl, rfl, q⟩ := h
 obtain ⟨t, rfl⟩ := rx
 cases rv
 exact call_int_bit_length ⟨.int _, H, I.tok _, ⟨_, rfl⟩, q⟩
def rIsi (K : PySem.W.Frag) : List V -> Hp -> VK -> Prop := fun xs H Q => ∃ x T t b, xs = [x, .ty T] /\ TyOf K H x t /\ PySem.W.kitOne K t (.type T) = some b /\ Q (.bl b) H
theorem call_isi : CallR X (.builtin "isinstance") (rIsi X.K) := by
 intro pins s σ H xs us Q I rv h
 obtain ⟨x, T, t, b, rfl, ty, e, q⟩ := h
 obtain ⟨u, v, rfl, ru, rv⟩ := rv.two
 cases (show v = Value.type T from rv)
 exact isinst_ok I ru ty e fun tk => ⟨.bl b, H, I.tok tk, rfl, q⟩
def KeyD : PyData -> Key -> Prop
 | .int i, k => k = .inl i
 | .str x, k => k = .inr x
 | _, _ => False
mutual
def IsD (nb : Addr -> Prop) (H : Hp) : PyData -> V -> Prop
 | .none, v => v = .non
 | .bool b, v => v = .bl b
 | .int i, v => v = .int i
 | .str x, v => v = .str x
 | .list ds, v => ∃ a xs, v = .ref a /\ ¬ nb a /\ H a = some (.lst xs) /\ IsDs nb H ds xs
 | .tuple ds, v => ∃ a xs, v = .ref a /\ ¬ nb a /\ H a = some (.tup xs) /\ IsDs nb H ds xs
 | .dict kvs, v => ∃ a ps, v = .ref a /\ ¬ nb a /\ Rd H a (.dK ps) /\ IsKs nb H kvs ps
termination_by structural d => d
def IsDs (nb : Addr -> Prop) (H : Hp) : List PyData -> List V -> Prop
 | [], xs => xs = []
 | d :: ds, xs => ∃ y ys, xs = y :: ys /\ IsD nb H d y /\ IsDs nb H ds ys
termination_by structural d => d
def IsKs (nb : Addr -> Prop) (H : Hp) : List (PyData × PyData) -> List (Key × V) -> Prop
 | [], xs => xs = []
 | d :: ds, xs => ∃ p ys, xs = p :: ys /\ IsK nb H d p /\ IsKs nb H ds ys
termination_by structural d => d
def IsK (nb : Addr -> Prop) (H : Hp) : PyData × PyData -> Key × V -> Prop
 | (k, d), p => KeyD k p.1 /\ IsD nb H d p.2
termination_by structural d => d
end
def But (nb : Addr -> Prop) (H H' : Hp) : Prop := ∀ a o, ¬ nb a -> H a = some o -> H' a = some o
def Nb (b : Addr) : Addr -> Prop := fun a => a = b
section
variable {nb nb' : Addr -> Prop} {H H1 H2 H' : Hp} {a b c p : Addr} {o : HO} {xs : List V}
theorem But.refl (nb : Addr -> Prop) (H : Hp) : But nb H H := fun _ _ _ h => h
theorem But.trans (x : But nb H H1) (y : But nb H1 H2) : But nb H H2 := fun a o n h => y a o n (x a o n h)
theorem But.of (x : Same H H') : But nb H H' := fun a o _ h => x a o h
theorem But.set (h : nb p) : But nb H (upd H p o) := fun a u n q => by rw [upd_ne (fun e => n (by rw [e]; exact h))]; exact q
theorem But.rd {u : HO} (x : But nb H H') (n : ¬ nb a) (h : Rd H a u) : Rd H' a u := by
 rcases h with h | ⟨o, h⟩
 ·exact .inl (x _ _ n h)
 ·exact .inr ⟨o, x _ _ n h⟩
end
mutual
theorem IsD.keep {nb : Addr -> Prop} {H H' : Hp} (x : But nb H H') : ∀ {d : PyData} {v : V}, IsD nb H d v -> IsD nb H' d v
 | .none, _, h => by unfold IsD at h ⊢; exact h
 | .bool _, _, h => by unfold IsD at h ⊢; exact h
 | .int _, _, h => by unfold IsD at h ⊢; exact h
 | .str _, _, h => by unfold IsD at h ⊢; exact h
 | .list ds, _, h => by unfold IsD at h ⊢; obtain ⟨a, xs, e, n, s, r⟩ := h; exact ⟨a, xs, e, n, x _ _ n s, IsDs.keep x r⟩
 | .tuple ds, _, h => by unfold IsD at h ⊢; obtain ⟨a, xs, e, n, s, r⟩ := h; exact ⟨a, xs, e, n, x _ _ n s, IsDs.keep x r⟩
 | .dict kvs, _, h => by unfold IsD at h ⊢; obtain ⟨a, xs, e, n, s, r⟩ := h; exact ⟨a, xs, e, n, x.rd n s, IsKs.keep x r⟩
theorem IsDs.keep {nb : Addr -> Prop} {H H' : Hp} (x : But nb H H') : ∀ {ds : List PyData} {vs : List V}, IsDs nb H ds vs -> IsDs nb H' ds vs
 | [], _, h => by unfold IsDs at h ⊢; exact h
 | d :: ds, _, h => by unfold IsDs at h ⊢; obtain ⟨y, ys, e, h1, h2⟩ := h; exact ⟨y, ys, e, IsD.keep x h1, IsDs.keep x h2⟩
theorem IsKs.keep {nb : Addr -> Prop} {H H' : Hp} (x : But nb H H') : ∀ {ds : List (PyData × PyData)} {vs : List (Key × V)}, IsKs nb H ds vs -> IsKs nb H' ds vs
 | [], _, h => by unfold IsKs at h ⊢; exact h
 | d :: ds, _, h => by unfold IsKs at h ⊢; obtain ⟨y, ys, e, h1, h2⟩ := h; exact ⟨y, ys, e, IsK.keep x h1, IsKs.keep x h2⟩
theorem IsK.keep {nb : Addr -> Prop} {H H' : Hp} (x : But nb H H') : ∀ {d : PyData × PyData} {v : Key × V}, IsK nb H d v -> IsK nb H' d v
 | (k, d), _, h => by unfold IsK at h ⊢; exact ⟨h.1, IsD.keep x h.2⟩
end
mutual
theorem IsD.av {nb nb' : Addr -> Prop} {H : Hp} (x : ∀ a, nb' a -> nb a) : ∀ {d : PyData} {v : V}, IsD nb H d v -> IsD nb' H d v
 | .none, _, h => by unfold IsD at h ⊢; exact h
 | .bool _, _, h => by unfold IsD at h ⊢; exact h
 | .int _, _, h => by unfold IsD at h ⊢; exact h
 | .str _, _, h => by unfold IsD at h ⊢; exact h
 | .list ds, _, h => by unfold IsD at h ⊢; obtain ⟨a, xs, e, n, s, r⟩ := h; exact ⟨a, xs, e, fun z => n (x a z), s, IsDs.av x r⟩
 | .tuple ds, _, h => by unfold IsD at h ⊢; obtain ⟨a, xs, e, n, s, r⟩ := h; exact ⟨a, xs, e, fun z => n (x a z), s, IsDs.av x r⟩
 | .dict kvs, _, h => by unfold IsD at h ⊢; obtain ⟨a, xs, e, n, s, r⟩ := h; exact ⟨a, xs, e, fun z => n (x a z), s, IsKs.av x r⟩
theorem IsDs.av {nb nb' : Addr -> Prop} {H : Hp} (x : ∀ a, nb' a -> nb a) : ∀ {ds : List PyData} {vs : List V}, IsDs nb H ds vs -> IsDs nb' H ds vs
 | [], _, h => by unfold IsDs at h ⊢; exact h
 | d :: ds, _, h => by unfold IsDs at h ⊢; obtain ⟨y, ys, e, h1, h2⟩ := h; exact ⟨y, ys, e, IsD.av x h1, IsDs.av x h2⟩
theorem IsKs.av {nb nb' : Addr -> Prop} {H : Hp} (x : ∀ a, nb' a -> nb a) : ∀ {ds : List (PyData × PyData)} {vs : List (Key × V)}, IsKs nb H ds vs -> IsKs nb' H ds vs
 | [], _, h => by unfold IsKs at h ⊢; exact h
 | d :: ds, _, h => by unfold IsKs at h ⊢; obtain ⟨y, ys, e, h1, h2⟩ := h; exact ⟨y, ys, e, IsK.av x h1, IsKs.av x h2⟩
theorem IsK.av {nb nb' : Addr -> Prop} {H : Hp} (x : ∀ a, nb' a -> nb a) : ∀ {d : PyData × PyData} {v : Key × V}, IsK nb H d v -> IsK nb' H d v
 | (k, d), _, h => by unfold IsK at h ⊢; exact ⟨h.1, IsD.av x h.2⟩
end
mutual
theorem IsD.fresh {nb : Addr -> Prop} {H : Hp} {p : Addr} (hp : H p = none) : ∀ {d : PyData} {v : V}, IsD nb H d v -> IsD (fun a => nb a \/ a = p) H d v
 | .none, _, h => by unfold IsD at h ⊢; exact h
 | .bool _, _, h => by unfold IsD at h ⊢; exact h
 | .int _, _, h => by unfold IsD at h ⊢; exact h
 | .str _, _, h => by unfold IsD at h ⊢; exact h
 | .list ds, _, h => by unfold IsD at h ⊢; obtain ⟨a, xs, e, n, s, r⟩ := h; exact ⟨a, xs, e, fun z => z.elim n (ne_of_none s hp), s, IsDs.fresh hp r⟩
 | .tuple ds, _, h => by unfold IsD at h ⊢; obtain ⟨a, xs, e, n, s, r⟩ := h; exact ⟨a, xs, e, fun z => z.elim n (ne_of_none s hp), s, IsDs.fresh hp r⟩
 | .dict kvs, _, h => by unfold IsD at h ⊢; obtain ⟨a, xs, e, n, s, r⟩ := h; exact ⟨a, xs, e, fun z => z.elim n (s.elim (fun s => ne_of_none s hp) fun ⟨_, s⟩ => ne_of_none s hp), s, IsKs.fresh hp r⟩
theorem IsDs.fresh {nb : Addr -> Prop} {H : Hp} {p : Addr} (hp : H p = none) : ∀ {ds : List PyData} {vs : List V}, IsDs nb H ds vs -> IsDs (fun a => nb a \/ a = p) H ds vs
 | [], _, h => by unfold IsDs at h ⊢; exact h
 | d :: ds, _, h => by unfold IsDs at h ⊢; obtain ⟨y, ys, e, h1, h2⟩ := h; exact ⟨y, ys, e, IsD.fresh hp h1, IsDs.fresh hp h2⟩
theorem IsKs.fresh {nb : Addr -> Prop} {H : Hp} {p : Addr} (hp : H p = none) : ∀ {ds : List (PyData × PyData)} {vs : List (Key × V)}, IsKs nb H ds vs -> IsKs (fun a => nb a \/ a = p) H ds vs
 | [], _, h => by unfold IsKs at h ⊢; exact h
 | d :: ds, _, h => by unfold IsKs at h ⊢; obtain ⟨y, ys, e, h1, h2⟩ := h; exact ⟨y, ys, e, IsK.fresh hp h1, IsKs.fresh hp h2⟩
theorem IsK.fresh {nb : Addr -> Prop} {H : Hp} {p : Addr} (hp : H p = none) : ∀ {d : PyData × PyData} {v : Key × V}, IsK nb H d v -> IsK (fun a => nb a \/ a = p) H d v
 | (k, d), _, h => by unfold IsK at h ⊢; exact ⟨h.1, IsD.fresh hp h.2⟩
end
mutual
theorem IsD.reads {pins : List (Addr × Obj)} {σ : St} {H : Hp} {s : Shared} {nb : Addr -> Prop} (I : Inv X pins σ H s) : ∀ {d : PyData} {v : V} {u : Value}, IsD nb H d v -> RelV v u -> d.canLay0 = true -> ∃ as, Reads s.heap u d as
  | .none, _, _, h, r, _ => by unfold IsD at h; subst h; cases r; exact ⟨_, .none⟩
  | .bool _, _, _, h, r, _ => by unfold IsD at h; subst h; cases r; exact ⟨_, .bool _⟩
  | .int _, _, _, h, r, _ => by unfold IsD at h; subst h; obtain ⟨t, rfl⟩ := r; exact ⟨_, .int _ _⟩
  | .str _, _, _, h, r, _ => by unfold IsD at h; subst h; obtain ⟨t, rfl⟩ := r; exact ⟨_, .str _ _⟩
  | .list ds, _, _, h, r, hc0 => by
    unfold IsD at h
    obtain ⟨a, xs, rfl, n, s, q⟩ := h
    cases r
    obtain ⟨its, rv, p, hz⟩ := I.list (SqL.of s)
    obtain ⟨as, ra⟩ := IsDs.reads I q rv (by simpa only [PyData.canLay0] using hc0)
    obtain ⟨o, ho, hc, m, hd⟩ := p.isList
    exact ⟨_, .list ho hc hd (by simpa using ra)⟩
  | .tuple ds, _, _, h, r, hc0 => by
    unfold IsD at h
    obtain ⟨a, xs, rfl, n, s, q⟩ := h
    cases r
    obtain ⟨its, rv, p, hz⟩ := I.tuple (SqT.of s)
    obtain ⟨as, ra⟩ := IsDs.reads I q rv (by simpa only [PyData.canLay0] using hc0)
    obtain ⟨o, ho, hc, m, hd⟩ := p
    exact ⟨_, .tuple ho hc hd (by simpa using ra)⟩
  | .dict _, _, _, h, r, hc0 => by simp [PyData.canLay0] at hc0
theorem IsDs.reads {pins : List (Addr × Obj)} {σ : St} {H : Hp} {s : Shared} {nb : Addr -> Prop} (I : Inv X pins σ H s) : ∀ {ds : List PyData} {vs : List V} {us : List Value}, IsDs nb H ds vs -> Vals vs us -> PyData.canLayAll0 ds = true -> ∃ as, ReadsAll s.heap us ds as
  | [], _, _, h, r, _ => by unfold IsDs at h; subst h; cases r; exact ⟨_, .nil⟩
  | d :: ds, _, _, h, r, hc0 => by
    rw [PyData.canLayAll0, zq26x] at hc0
    unfold IsDs at h
    obtain ⟨y, ys, rfl, h1, h2⟩ := h
    cases r with
    | cons r1 r2 =>
      obtain ⟨as, q1⟩ := IsD.reads I h1 r1 hc0.1
      obtain ⟨bs, q2⟩ := IsDs.reads I h2 r2 hc0.2
      exact ⟨_, .cons q1 q2⟩
end
def rEqD (neg : Bool) : R2 := fun x y H Q => ∃ nb d e, IsD nb H d x /\ IsD nb H e y /\ SeqAt.shaped d = true /\ SeqAt.shaped e = true /\ Q (.bl (PyData.eqv d e != neg)) H
theorem op_eqD (hu : X.A.units + 64 < cLine) : OpR X (compareOp .Eq) (rEqD false) := by
 intro pins s σ H x y v u Q I rx ry h
 obtain ⟨nb, d, e, h1, h2, h3, h4, q⟩ := h
 obtain ⟨as, r1⟩ := h1.reads I rx (zq92x h3)
 obtain ⟨bs, r2⟩ := h2.reads I ry (zq92x h4)
 exact eq_dataH r1 r2 h3 h4 hu ⟨.bl _, H, I, rfl, by simpa using q⟩
theorem op_neD (hu : X.A.units + 64 < cLine) : OpR X (compareOp .NotEq) (rEqD true) := by
 intro pins s σ H x y v u Q I rx ry h
 obtain ⟨nb, d, e, h1, h2, h3, h4, q⟩ := h
 obtain ⟨as, r1⟩ := h1.reads I rx (zq92x h3)
 obtain ⟨bs, r2⟩ := h2.reads I ry (zq92x h4)
 exact ne_dataH r1 r2 h3 h4 hu ⟨.bl _, H, I, rfl, by simpa using q⟩
end
mutual
theorem eqv_refl : ∀ d : PyData, SeqAt.shaped d = true \/ d.canLay0 = true -> PyData.eqv d d = true
  | .none, _ => by simp [PyData.eqv]
  | .bool _, _ => by simp [PyData.eqv]
  | .int _, _ => by simp [PyData.eqv]
  | .str _, _ => by simp [PyData.eqv]
  | .list ds, h => by
    have h' : PyData.canLayAll0 ds = true := by
      rcases h with h | h
      · have := zq92x h; simpa [PyData.canLay0] using this
      · simpa [PyData.canLay0] using h
    simp only [PyData.eqv]
    exact eqvAll_refl ds h'
  | .tuple ds, h => by
    have h' : PyData.canLayAll0 ds = true := by
      rcases h with h | h
      · have := zq92x h; simpa [PyData.canLay0] using this
      · simpa [PyData.canLay0] using h
    simp only [PyData.eqv]
    exact eqvAll_refl ds h'
  | .dict _, h => by
    rcases h with h | h
    · have := zq92x h; simp [PyData.canLay0] at this
    · simp [PyData.canLay0] at h
theorem eqvAll_refl : ∀ ds : List PyData, PyData.canLayAll0 ds = true -> PyData.eqvAll ds ds = true
  | [], _ => by simp [PyData.eqvAll]
  | d :: ds, h => by
    simp only [PyData.canLayAll0, zq26x] at h
    simp only [PyData.eqvAll, zq26x]
    exact ⟨eqv_refl d (.inr h.1), eqvAll_refl ds h.2⟩
end
structure Callee (P : Program) (w : World) (K : PySem.W.Frag) (mg : Str -> Option Value) (base : Heap) (x : Str) (k : Nat) (ps : List Str) (sp : Sp) : Prop where
 ex : ∃ f fd, FnOk P w K mg base CX0 k f fd ps sp /\ Binds K fd ps [] /\ PySem.W.keepIn K (.ref f) = true /\ mg x = some (.ref f)
theorem pe_callC {X : Cx} {x : Str} {k : Nat} {ps : List Str} {sp : Sp} {p pos : Pos} {e : Expr} {es : List Expr} {t : TA} (c : Callee X.prog X.w X.K X.mg X.base x k ps sp) (hr : Room k X.A) (ha : PA X (e :: es) t) (hg : Gl X x := by rfl)
  (hdb : (x == ("__debug__" : Str)) = false := by decide) (he : starEach (e :: es) X.env = (false, eval e X.env) :: starEach es X.env := by rfl) (hpl : (backTo pos (starEach es X.env)).any (·.1) = false := by rfl) :
  PE X (.Call (.Name x p) (e :: es) [] pos) (tCall sp [] E0 t) := by
 obtain ⟨f, fd, F, b, kp, m⟩ := c.ex
 exact pe_call F hr hg m kp b .nil pass0 ha hdb he hpl
theorem Callee.mk' {P : Program} {w : World} {K : PySem.W.Frag} {mg : Str -> Option Value} {base : Heap} {x : Str} {st : Stmt} {k : Nat} {ps : List Str} {sp : Sp} {f : Addr} {fd : FuncData} (F : Fun K x x st f fd) (ok : FnOk P w K mg base CX0 k f fd ps sp) (b : Binds K fd ps [])
  (m : mg x = some (.ref f)) : Callee P w K mg base x k ps sp := ⟨f, fd, ok, b, F.kp, m⟩
def DfAt (K : PySem.W.Frag) (x q : Str) (st : Stmt) (f : Addr) : Prop := PySem.W.nsIn K mainGlobals x = some (some (.ref f)) /\ ∃ fd, Fun K x q st f fd
theorem DfAt.mk {K : PySem.W.Frag} {x q : Str} {st : Stmt} {f : Addr} {oc : Value} {od an : Option Addr} {osl : Array (Option Value)} {kV doc pm cdv ct : Value} (a : PySem.W.nsIn K mainGlobals x = some (some (.ref f))) (l : K.lookup f = some ⟨oc, od, .func (PySem.W.fnOf x q (defArgs st) (defBody st) (defScope st) .none kV doc pm an cdv ct), osl⟩)
  (c : PySem.W.codeIn K cdv q = true) (k : PySem.W.keepIn K (.ref f) = true) : DfAt K x q st f := ⟨a, _, fun_mk l c k⟩
end L2
set_option maxRecDepth 100000
set_option maxHeartbeats 1000000
namespace L2
open PySem PySem.Spec PyProof.Rows
section
variable {X : Cx}
theorem op_mulA : OpR X (binaryOp .Mult) (rI (fun i j => CMul i j \/ (Sm i /\ Sm j)) fun i j => .int (i * j)) := opI fun _ _ _ _ _ _ _ hc q => mul_int q (by
 rcases hc with hc | hc
 ·exact hc.ok
 ·exact IntMulOk.of_bits (sm_bits hc.1) (sm_bits hc.2))
end
def BagAt (H : Hp) (b l : Addr) : Prop := ∃ (ns : List Int) (i c st n : Int), H b = some (.lst [.ref l, .int i, .int c, .int st, .int n]) /\ H l = some (.lst (ns.map V.int)) /\
 (∀ x ∈ ns, 0 <= x /\ x < 10 ^ 60) /\ ns.length <= 63 /\ 0 <= i /\ 0 <= c /\ c < 10 ^ 60 /\ 0 <= st /\ st < 2147483647
theorem bag_ne {H : Hp} {b l : Addr} {ns : List Int} {i c st n : V} (h : H b = some (.lst [.ref l, i, c, st, n])) (h' : H l = some (.lst (ns.map V.int))) : l ≠ b := by
 intro e
 subst e
 rw [h] at h'
 have e := HO.lst.inj (zq37x h')
 cases ns with
 | nil => cases e
 | cons x r => rw [zq8x] at e; cases (List.cons.inj e).1
theorem BagAt.put {H : Hp} {b l : Addr} {ns : List Int} {i c st n : Int} (hl : l ≠ b) (h' : H l = some (.lst (ns.map V.int))) (h1 : ∀ x ∈ ns, 0 <= x /\ x < 10 ^ 60) (h2 : ns.length <= 63)
  (h3 : 0 <= i) (h4 : 0 <= c) (h5 : c < 10 ^ 60) (h6 : 0 <= st) (h7 : st < 2147483647) : BagAt (upd H b (.lst [.ref l, .int i, .int c, .int st, .int n])) b l :=
 ⟨ns, i, c, st, n, upd_same, by rw [upd_ne hl]; exact h', h1, h2, h3, h4, h5, h6, h7⟩
theorem BagAt.put2 {H : Hp} {b l p : Addr} {o : HO} (h : BagAt H b l) (hp : p ≠ b /\ p ≠ l) : BagAt (upd H p o) b l := by
 obtain ⟨ns, i, c, st, n, h1, h2, r⟩ := h
 exact ⟨ns, i, c, st, n, by rw [upd_ne (zq10x hp.1)]; exact h1, by rw [upd_ne (zq10x hp.2)]; exact h2, r⟩
theorem BagAt.same {H H' : Hp} {b l : Addr} (h : BagAt H b l) (s : Same H H') : BagAt H' b l := by
 obtain ⟨ns, i, c, st, n, h1, h2, r⟩ := h
 exact ⟨ns, i, c, st, n, s _ _ h1, s _ _ h2, r⟩
def spDraw : Sp := fun vs H Q _ => ∃ (b l : Addr) (many : Int), vs = [.ref b, .int many] /\ BagAt H b l /\ 0 < many /\ Sm many /\ ∀ (r : Int) (H' : Hp), 0 <= r -> r < many -> But (Nb b) H H' -> BagAt H' b l -> Q (.int r) H'
def spBag (K : PySem.W.Frag) : Sp := fun vs H Q _ => ∃ (a : Addr) (ns : List Int), vs = [.ref a] /\ SqL K H a (ns.map V.int) /\ ns.length <= 63 /\ ∀ (b l : Addr) (H' : Hp), Same H H' -> H b = none -> BagAt H' b l -> Q (.ref b) H'
theorem atI_some {α : Type} {xs : List α} {i : Int} {v : α} (h0 : 0 <= i) (h : xs[i.toNat]? = some v) : atI xs i = some v := by
 have e : i = ((i.toNat : Nat) : Int) := by omega
 rw [e]
 exact atI_nat h
theorem same_new {H : Hp} {p : Addr} {o : HO} (h : H p = none) : Same H (upd H p o) := fun b u q => by rw [upd_ne (ne_of_none q h)]; exact q
section
variable {nb : Addr -> Prop} {H H' : Hp}
theorem IsDs.length : ∀ {ds : List PyData} {xs : List V}, IsDs nb H ds xs -> xs.length = ds.length
 | [], _, h => by unfold IsDs at h; subst h; rfl
 | d :: ds, _, h => by unfold IsDs at h; obtain ⟨y, ys, rfl, _, h2⟩ := h; simp [IsDs.length h2]
theorem IsDs.get : ∀ {ds : List PyData} {xs : List V} {i : Nat} {d : PyData}, IsDs nb H ds xs -> ds[i]? = some d -> ∃ x, xs[i]? = some x /\ IsD nb H d x
 | [], _, _, _, _, e => by simp at e
 | d :: ds, _, 0, _, h, e => by unfold IsDs at h; obtain ⟨y, ys, rfl, h1, h2⟩ := h; simp at e; subst e; exact ⟨y, rfl, h1⟩
 | d :: ds, _, i + 1, _, h, e => by unfold IsDs at h; obtain ⟨y, ys, rfl, h1, h2⟩ := h; simpa using IsDs.get (i := i) h2 (by simpa using e)
theorem IsDs.snoc {d : PyData} {x : V} (hd : IsD nb H d x) : ∀ {ds : List PyData} {xs : List V}, IsDs nb H ds xs -> IsDs nb H (ds ++ [d]) (xs ++ [x])
 | [], _, h => by unfold IsDs at h; subst h; unfold IsDs; exact ⟨x, [], rfl, hd, by unfold IsDs; rfl⟩
 | e :: ds, _, h => by unfold IsDs at h; obtain ⟨y, ys, rfl, h1, h2⟩ := h; show IsDs nb H (e :: (ds ++ [d])) _; unfold IsDs; exact ⟨y, ys ++ [x], rfl, h1, IsDs.snoc hd h2⟩
theorem IsDs.append : ∀ {ds es : List PyData} {xs ys : List V}, IsDs nb H ds xs -> IsDs nb H es ys -> IsDs nb H (ds ++ es) (xs ++ ys)
 | [], _, _, _, h, h' => by unfold IsDs at h; subst h; exact h'
 | e :: ds, es, _, zs, h, h' => by unfold IsDs at h; obtain ⟨y, ys, rfl, h1, h2⟩ := h; show IsDs nb H (e :: (ds ++ es)) _; unfold IsDs; exact ⟨y, ys ++ zs, rfl, h1, IsDs.append h2 h'⟩
theorem IsDs.take : ∀ {ds : List PyData} {xs : List V} (n : Nat), IsDs nb H ds xs -> IsDs nb H (ds.take n) (xs.take n)
 | _, _, 0, _ => by simp only [List.take_zero]; unfold IsDs; rfl
 | [], _, n + 1, h => by unfold IsDs at h; subst h; simp only [List.take_nil]; unfold IsDs; rfl
 | d :: ds, _, n + 1, h => by unfold IsDs at h; obtain ⟨y, ys, rfl, h1, h2⟩ := h; simp only [List.take_succ_cons]; unfold IsDs; exact ⟨y, _, rfl, h1, IsDs.take n h2⟩
theorem IsDs.drop : ∀ {ds : List PyData} {xs : List V} (n : Nat), IsDs nb H ds xs -> IsDs nb H (ds.drop n) (xs.drop n)
 | _, _, 0, h => h
 | [], _, n + 1, h => by unfold IsDs at h; subst h; simp only [List.drop_nil]; unfold IsDs; rfl
 | d :: ds, _, n + 1, h => by unfold IsDs at h; obtain ⟨y, ys, rfl, h1, h2⟩ := h; simp only [List.drop_succ_cons]; exact IsDs.drop n h2
theorem IsDs.nil : IsDs nb H [] [] := by unfold IsDs; rfl
theorem IsDs.cons {d : PyData} {x : V} {ds : List PyData} {xs : List V} (h1 : IsD nb H d x) (h2 : IsDs nb H ds xs) : IsDs nb H (d :: ds) (x :: xs) := by unfold IsDs; exact ⟨x, xs, rfl, h1, h2⟩
theorem IsD.int (i : Int) : IsD nb H (.int i) (.int i) := by unfold IsD; rfl
theorem IsD.non : IsD nb H .none .non := by unfold IsD; rfl
theorem IsD.bl (b : Bool) : IsD nb H (.bool b) (.bl b) := by unfold IsD; rfl
theorem IsD.lst {a : Addr} {ds : List PyData} {xs : List V} (n : ¬ nb a) (h : H a = some (.lst xs)) (hd : IsDs nb H ds xs) : IsD nb H (.list ds) (.ref a) := by unfold IsD; exact ⟨a, xs, rfl, n, h, hd⟩
theorem IsD.tup {a : Addr} {ds : List PyData} {xs : List V} (n : ¬ nb a) (h : H a = some (.tup xs)) (hd : IsDs nb H ds xs) : IsD nb H (.tuple ds) (.ref a) := by unfold IsD; exact ⟨a, xs, rfl, n, h, hd⟩
theorem IsD.ofL {v : V} {ds : List PyData} (h : IsD nb H (.list ds) v) : ∃ a xs, v = .ref a /\ ¬ nb a /\ H a = some (.lst xs) /\ IsDs nb H ds xs := by unfold IsD at h; exact h
theorem IsD.ofT {v : V} {ds : List PyData} (h : IsD nb H (.tuple ds) v) : ∃ a xs, v = .ref a /\ ¬ nb a /\ H a = some (.tup xs) /\ IsDs nb H ds xs := by unfold IsD at h; exact h
theorem IsD.ofI {v : V} {i : Int} (h : IsD nb H (.int i) v) : v = .int i := by unfold IsD at h; exact h
theorem IsD.ofN {v : V} (h : IsD nb H .none v) : v = .non := by unfold IsD at h; exact h
end
def spWhole : Sp := fun vs H Q _ => ∃ i : Int, vs = [.int i] /\ Q (.bl true) H
def spLaw (K : PySem.W.Frag) : Sp := fun vs H Q _ => ∃ (a : Addr) (ns : List Int), vs = [.ref a] /\ SqL K H a (ns.map V.int) /\ ns.length <= 63 /\ ∀ H', Q (.bl true) H'
end L2
set_option maxRecDepth 100000
set_option maxHeartbeats 1000000
namespace L2
open PySem PySem.Spec PyProof.Rows
def mkL (Q : VK) : List V -> Hp -> Prop := fun xs H1 => xs.length <= sizeLine /\ ∀ p, H1 p = none -> Q (.ref p) (upd H1 p (.lst xs))
def rListOf (K : PySem.W.Frag) : List V -> Hp -> VK -> Prop := fun xs H Q => ∃ p ys, xs = [.ref p] /\ (SqL K H p ys \/ SqT K H p ys) /\ ∀ l, H l = none -> Q (.ref l) (upd H l (.lst ys))
theorem call_listM {X : Cx} : CallR X (.type "list") (rListOf X.K) := call_list_of
def rIs : R2 := fun x y H Q => y = .non /\ Q (.bl (decide (x = .non))) H
def rIsNot : R2 := fun x y H Q => y = .non /\ Q (.bl (!decide (x = .non))) H
theorem op_isM {X : Cx} : OpR X (compareOp .Is) rIs := op_isN
theorem op_notM {X : Cx} : OpR X (compareOp .IsNot) rIsNot := op_notN
def intOf : Expr -> Option Int
 | .Constant (.int i) _ _ => some i
 | _ => none
theorem intOf_eq {e : Expr} {i : Int} (h : intOf e = some i) : ∃ k p, e = .Constant (.int i) k p := by
 unfold intOf at h
 split at h
 ·cases h; exact ⟨_, _, rfl⟩
 ·cases h
def constInts : List Expr -> Option (List Int)
 | [] => some []
 | e :: r => (intOf e).bind fun i => (constInts r).map (i :: ·)
def tInts (is : List Int) : TA := fun _ H Q => Q (is.map V.int) H
theorem pa_consts {X : Cx} : ∀ {es : List Expr} {is : List Int}, constInts es = some is -> PA X es (tInts is) := by
  intro es
  induction es with
  | nil =>
    intro is h
    have e : is = [] := by simpa [constInts] using h.symm
    subst e
    exact pa_nil
  | cons e r ih =>
    intro is h
    unfold constInts at h
    cases hi : intOf e with
    | none => rw [hi] at h; cases h
    | some i =>
      rw [hi] at h
      obtain ⟨k, p, rfl⟩ := intOf_eq hi
      obtain ⟨js, hj, rfl⟩ := zq42x.mp (show (constInts r).map (i :: ·) = some is from h)
      exact pa_cons (te := tC (.int i)) (t := tInts js) pe_int (ih hj)
theorem ps_setInts {X : Cx} {i : Nat} {x : Str} {es : List Expr} {is : List Int} {p1 p2 p3 : Pos} (hN : X.N.Nodup) (hi : X.N[i]? = some x) (hx : Loc X.env.scope x) (h : constInts es = some is) (hf : X.fn x = true \/ X.env.scope.names.lookup x = some .local) :
  PS X (.Assign [.Name x p1] (.List es p2) p3) (tAsg (tLst (tInts is)) (gName i)) := ps_set hN hi hx (pe_lst (pa_consts h)) rfl hf
namespace R
section
variable {σ : St} {H : Hp} {Q : VK} {D : Ends} {ta tb te : TE} {K : PySem.W.Frag}
theorem seq {t u : TS} (h : t { D with nx := u D } σ H) : tSeq t u D σ H := h
theorem asg {g : TG} (h : te σ H fun x H1 => g x σ H1 D.nx) : tAsg te g D σ H := h
theorem ifS {c : TT} {t u : TS} (h : c σ H fun b H1 => if b = true then t D σ H1 else u D σ H1) : tIfS c t u D σ H := h
theorem ret (h : te σ H D.rt) : tRet te D σ H := h
theorem next (h : D.nx σ H) : tNext D σ H := h
theorem var {i : Nat} {v : V} (e : σ[i]? = some (some v)) (h : Q v H) : tVar i σ H Q := ⟨v, e, h⟩
theorem c {v : V} (h : Q v H) : tC v σ H Q := h
theorem op {r : R2} (h : ta σ H fun x H1 => tb σ H1 fun y H2 => r x y H2 Q) : tOp r ta tb σ H Q := h
theorem un {r : V -> Hp -> VK -> Prop} (h : ta σ H fun x H1 => r x H1 Q) : tUn r ta σ H Q := h
theorem test {q : Bool -> Hp -> Prop} (h : te σ H fun x H' => ∃ k, x = .bl k /\ q k H') : tTest te σ H q := h
theorem bl {P : Bool -> Prop} {b : Bool} (h : P b) : ∃ k, V.bl b = .bl k /\ P k := ⟨b, rfl, h⟩
theorem and {t u : TT} {q : Bool -> Hp -> Prop} (h : t σ H fun c H1 => if c = true then u σ H1 q else q false H1) : tAnd t u σ H q := h
theorem cb {r : List V -> Hp -> VK -> Prop} {t : TA} (h : t σ H fun vs H1 => r vs H1 Q) : tCB r t σ H Q := h
theorem call {sp : Sp} {t : TA} (h : t σ H fun vs H1 => sp (vs ++ []) H1 Q E0) : tCall sp [] E0 t σ H Q := h
theorem nil {q : List V -> Hp -> Prop} (h : q [] H) : tNil σ H q := h
theorem cons {t : TA} {q : List V -> Hp -> Prop} (h : ta σ H fun x H1 => t σ H1 fun xs H2 => q (x :: xs) H2) : tCons ta t σ H q := h
theorem lst {t : TA} (h : t σ H (mkL Q)) : tLst t σ H Q := h
theorem sl {r : V -> Option Int -> Option Int -> Hp -> VK -> Prop} {tl th : TO} (h : te σ H fun x H1 => tl σ H1 fun l H2 => th σ H2 fun u H3 => r x l u H3 Q) : tSl r te tl th σ H Q := h
theorem noPart {q : Option Int -> Hp -> Prop} (h : q none H) : tNoPart σ H q := h
theorem part {q : Option Int -> Hp -> Prop} (h : te σ H fun x H1 => ∃ i, x = .int i /\ q (some i) H1) : tPart te σ H q := h
theorem partI {P : Int -> Prop} {i : Int} (h : P i) : ∃ j, V.int i = .int j /\ P j := ⟨i, rfl, h⟩
theorem bm0 {T : String} {r : V -> List V -> Hp -> VK -> Prop} (h : te σ H fun x H1 => tyV K T x H1 /\ r x [] H1 Q) : tBM0 K T r te σ H Q := h
theorem tyInt {i : Int} {A : Prop} (h : A) : tyV K "int" (.int i) H /\ A := ⟨rfl, h⟩
theorem gname {i : Nat} {v : V} {q : St -> Hp -> Prop} (h : q (σ.set i (some v)) H) : gName i v σ H q := h
theorem gsub {to ti : TE} {t : TSet} {v : V} {q : St -> Hp -> Prop} (h : to σ H fun o H1 => ti σ H1 fun i H2 => t o i v H2 fun H3 => q σ H3) : gSub to ti t v σ H q := h
theorem gcons {t : TG} {u : TGs} {v : V} {r : List V} {q : St -> Hp -> Prop} (h : t v σ H fun σ' H' => u r σ' H' q) : gCons t u (v :: r) σ H q := ⟨v, r, rfl, h⟩
theorem gnil {q : St -> Hp -> Prop} (h : q σ H) : gNil [] σ H q := ⟨rfl, h⟩
theorem gtup {n : Nat} {t : TGs} {a : Addr} {xs : List V} {q : St -> Hp -> Prop} (hq : SqT K H a xs) (hl : xs.length = n) (h : t xs σ H q) : gTup K n t (.ref a) σ H q := ⟨a, xs, rfl, hq, hl, h⟩
theorem noTest {q : Bool -> Hp -> Prop} (h : q true H) : tNoTest σ H q := h
theorem rI0 {g : Int -> Int -> V} {i j : Int} (h : Q (g i j) H) : L2.rI0 g (.int i) (.int j) H Q := ⟨i, j, rfl, rfl, h⟩
theorem rI {C : Int -> Int -> Prop} {g : Int -> Int -> V} {i j : Int} (hc : C i j) (h : Q (g i j) H) : L2.rI C g (.int i) (.int j) H Q := ⟨i, j, rfl, rfl, hc, h⟩
theorem dec_i {i j : Int} : decide (V.int i = V.int j) = decide (i = j) := by rw [zq64x]; simp
theorem eqI {i j : Int} (h : Q (.bl (decide (i = j))) H) : rEq (.int i) (.int j) H Q := ⟨rfl, by rw [dec_i]; exact h⟩
theorem notI {i : Int} (h : Q (.bl true) H) : rIsNot (.int i) .non H Q := ⟨rfl, by rw [decide_eq_false (fun e => V.noConfusion e)]; exact h⟩
theorem notN (h : Q (.bl false) H) : rIsNot .non .non H Q := ⟨rfl, by rw [decide_eq_true rfl]; exact h⟩
theorem ixM {p : Addr} {xs : List V} {i : Int} {v : V} (hp : H p = some (.lst xs)) (e : atI xs i = some v) (h : Q v H) : rIxL K (.ref p) (.int i) H Q := ⟨p, xs, i, v, rfl, rfl, SqL.of hp, e, h⟩
theorem ixS {p : Addr} {o : HO} {xs : List V} {i : Int} {v : V} (e : atI xs i = some v) (h : Q v (upd H p (.lst xs))) : rIxL K (.ref p) (.int i) (upd H p (.lst xs)) Q := ⟨p, xs, i, v, rfl, rfl, SqL.of upd_same, e, h⟩
theorem setM {p : Addr} {xs : List V} {k : Int} {j : Nat} {v : V} {q : Hp -> Prop} (hp : H p = some (.lst xs)) (e : ixN xs.length k = some j) (h : q (upd H p (.lst (xs.set j v)))) : rSetL (.ref p) (.int k) v H q := ⟨p, xs, k, j, rfl, rfl, hp, e, h⟩
theorem setS {p : Addr} {xs : List V} {k : Int} {j : Nat} {v : V} {q : Hp -> Prop} (e : ixN xs.length k = some j) (h : q (upd H p (.lst (xs.set j v)))) : rSetL (.ref p) (.int k) v (upd H p (.lst xs)) q :=
 ⟨p, xs, k, j, rfl, rfl, upd_same, e, by rw [upd_upd]; exact h⟩
theorem lenM {p : Addr} {xs : List V} {P : List V -> Prop} (hp : H p = some (.lst xs)) (h : P xs) : ∃ a ys, [V.ref p] = [.ref a] /\ (SqL K H a ys \/ SqT K H a ys) /\ P ys := ⟨p, xs, rfl, .inl (SqL.of hp), h⟩
theorem slL {p : Addr} {xs : List V} {lo hi : Option Int} (hp : SqL K H p xs) (h : ∀ a, H a = none -> Q (.ref a) (upd H a (.lst (cutV xs lo hi)))) : rSlL K (.ref p) lo hi H Q := ⟨p, xs, rfl, hp, h⟩
theorem abs1 {a : Int} {P : Int -> Prop} (h : P a) : ∃ i, [V.int a] = [.int i] /\ P i := ⟨a, rfl, h⟩
theorem bits {i : Int} {P : Int -> Prop} (h : P i) : ∃ j, V.int i = .int j /\ ([] : List V) = [] /\ P j := ⟨i, rfl, rfl, h⟩
theorem iteP {c A B : Prop} [Decidable c] (h : c) (q : A) : if c then A else B := by rw [if_pos h]; exact q
theorem iteN {c A B : Prop} [Decidable c] (h : ¬ c) (q : B) : if c then A else B := by rw [if_neg h]; exact q
theorem dT {c : Prop} [Decidable c] (h : c) : decide c = true := decide_eq_true h
theorem dF {c : Prop} [Decidable c] (h : ¬ c) : ¬ decide c = true := by rw [decide_eq_false h]; exact zq14x
theorem dTn {c : Prop} [Decidable c] (h : ¬ c) : (!decide c) = true := by rw [decide_eq_false h]; rfl
theorem dFn {c : Prop} [Decidable c] (h : c) : ¬ (!decide c) = true := by rw [decide_eq_true h]; decide
theorem rng1 {t : TA} {R : It -> Hp -> Prop} (h : t σ H fun vs H1 => ∃ j : Int, vs = [.int j] /\ -(2 ^ 62) <= j /\ j < 2 ^ 62 /\ R (Itr 0 j.toNat) H1) : iRng1 t σ H R := h
theorem rng1I {P : Int -> Prop} {i : Int} (h1 : -(2 ^ 62) <= i) (h2 : i < 2 ^ 62) (h : P i) : ∃ j : Int, [V.int i] = [.int j] /\ -(2 ^ 62) <= j /\ j < 2 ^ 62 /\ P j := ⟨i, rfl, h1, h2, h⟩
theorem iL {tl : TE} {R : It -> Hp -> Prop} (h : tl σ H fun x H1 => ∃ a, x = .ref a /\ (∃ xs, SqL K H1 a xs) /\ R (Itl K a) H1) : iList K tl σ H R := h
theorem iL1 {P : Addr -> Prop} {p : Addr} {xs : List V} (hp : SqL K H p xs) (h : P p) : ∃ a, V.ref p = .ref a /\ (∃ xs, SqL K H a xs) /\ P a := ⟨p, rfl, ⟨xs, hp⟩, h⟩
theorem for_ {wi : TI} {g : TG} {tb : TS} (h : wi σ H fun J H1 => ∃ W : Nat -> Nat -> St -> Hp -> Prop, (∃ m, W 0 m σ H1) /\ ∀ i m σ H, W i m σ H ->
 (J.stop i H /\ D.nx σ H) \/ (J.go i H /\ ∃ N : St -> Hp -> Prop, (∀ σ' H', N σ' H' -> ∃ m', m' < m /\ W (i + 1) m' σ' H') /\ ∀ x H', J.yld i H x H' -> g x σ H' fun σ2 H2 => tb { D with nx := N, ct := N, bk := D.nx } σ2 H2)) : tFor wi g tb D σ H := h
theorem comp {wi : TI} {g : TG} {tc : TT} {mp : List (Option Nat)} (h : wi σ H fun J H1 => ∀ acc, H1 acc = none -> CompW J g tc te acc (fun H' => Q (.ref acc) H') (startC mp σ) (upd H1 acc (.lst []))) : tComp wi g tc te mp σ H Q := h
end
theorem comp_range {lo : Int} {n : Nat} {g : TG} {tc : TT} {te : TE} {acc : Addr} {Qe : Hp -> Prop} {σ : St} {H : Hp} (Pv : Nat -> St -> Hp -> Prop) (h0 : Pv 0 σ H)
  (hs : ∀ i σ H, i < n -> Pv i σ H -> g (.int (lo + i)) σ H fun σ2 H2 => tc σ2 H2 fun b H3 => if b = true then te σ2 H3 fun v H4 => ∃ ys, H4 acc = some (.lst ys) /\ ys.length < sizeLine /\ Pv (i + 1) σ2 (upd H4 acc (.lst (ys ++ [v]))) else Pv (i + 1) σ2 H3)
  (hd : ∀ σ H, Pv n σ H -> Qe H) : CompW (Itr lo n) g tc te acc Qe σ H := by
 refine ⟨fun i m σ H => m = n - i /\ i <= n /\ Pv i σ H, ⟨n, by simp, zq45x _, h0⟩, ?_⟩
 rintro i m σ H ⟨rfl, hi, p⟩
 by_cases hlt : i < n
 ·refine .inr ⟨hlt, Pv (i + 1), fun σ' H' p' => ⟨n - (i + 1), by omega, rfl, hlt, p'⟩, fun x H' y => ?_⟩
  obtain ⟨e, y⟩ := y
  subst e y
  exact hs i σ _ hlt p
 ·have e : i = n := by omega
  subst e
  exact .inl ⟨zq3x _, hd σ H p⟩
theorem comp_list {K : PySem.W.Frag} {a : Addr} {xs : List V} {g : TG} {tc : TT} {te : TE} {acc : Addr} {Qe : Hp -> Prop} {σ : St} {H : Hp} (Pv : Nat -> St -> Hp -> Prop) (h0 : Pv 0 σ H) (hl : ∀ i σ H, i <= xs.length -> Pv i σ H -> SqL K H a xs)
  (hs : ∀ i x σ H, xs[i]? = some x -> Pv i σ H -> g x σ H fun σ2 H2 => tc σ2 H2 fun b H3 => if b = true then te σ2 H3 fun v H4 => ∃ ys, H4 acc = some (.lst ys) /\ ys.length < sizeLine /\ Pv (i + 1) σ2 (upd H4 acc (.lst (ys ++ [v]))) else Pv (i + 1) σ2 H3)
  (hd : ∀ σ H, Pv xs.length σ H -> Qe H) : CompW (Itl K a) g tc te acc Qe σ H := by
 refine ⟨fun i m σ H => m = xs.length - i /\ i <= xs.length /\ Pv i σ H, ⟨xs.length, by simp, zq45x _, h0⟩, ?_⟩
 rintro i m σ H ⟨rfl, hi, p⟩
 have q := hl i σ H hi p
 by_cases hlt : i < xs.length
 ·refine .inr ⟨⟨xs, xs[i], q, by simp [hlt]⟩, Pv (i + 1), fun σ' H' p' => ⟨xs.length - (i + 1), by omega, rfl, hlt, p'⟩, fun x H' y => ?_⟩
  obtain ⟨e, y⟩ := y
  subst e
  exact hs i x σ _ (y xs q) p
 ·have e : i = xs.length := by omega
  subst e
  exact .inl ⟨⟨xs, q, zq3x _⟩, hd σ H p⟩
end R
end L2
set_option maxRecDepth 100000
set_option maxHeartbeats 1000000
namespace L2
open PySem PySem.Spec PyProof.Rows
@[reducible] def pairD (pr : Int × Int) : PyData := .tuple [.int pr.1, .int pr.2]
def optD : Option Int -> PyData
 | none => .none
 | some i => .int i
def optV : Option Int -> V
 | none => .non
 | some i => .int i
def termOf (wd : List (Option Int)) (pr : Int × Int) : Int := match wd[pr.1.toNat]? with
 | some (some x) => pr.2 * x
 | _ => 0
def dueSum (prs : List (Int × Int)) (wd : List (Option Int)) : Int := (prs.map (termOf wd)).sum
theorem dueSum_snoc {prs : List (Int × Int)} {wd : List (Option Int)} {i : Nat} (h : i < prs.length) : dueSum (prs.take (i + 1)) wd = dueSum (prs.take i) wd + termOf wd prs[i] := by
 unfold dueSum
 rw [zq146x, zq1x h, zq21x, zq147x]
 simp
theorem isD_opt {nb : Addr -> Prop} {H : Hp} {o : Option Int} {v : V} (h : IsD nb H (optD o) v) : v = optV o := by
 cases o with
 | none => exact h.ofN
 | some i => exact h.ofI
theorem isDs_opt {nb : Addr -> Prop} {H : Hp} : ∀ {wd : List (Option Int)} {xs : List V}, IsDs nb H (wd.map optD) xs -> xs = wd.map optV
  | [], _, h => by unfold List.map IsDs at h; exact h
  | o :: wd, _, h => by
    rw [zq8x] at h
    unfold IsDs at h
    obtain ⟨y, ys, rfl, h1, h2⟩ := h
    rw [zq8x, isD_opt h1, isDs_opt h2]
theorem isD_pair {nb : Addr -> Prop} {H : Hp} {pr : Int × Int} {v : V} (h : IsD nb H (pairD pr) v) : ∃ t, v = .ref t /\ ¬ nb t /\ H t = some (.tup [.int pr.1, .int pr.2]) := by
 obtain ⟨t, xs, rfl, n, ht, hd⟩ := h.ofT
 unfold IsDs at hd
 obtain ⟨y, ys, rfl, h1, h2⟩ := hd
 unfold IsDs at h2
 obtain ⟨z, zs, rfl, h3, h4⟩ := h2
 unfold IsDs at h4
 subst h4
 rw [h1.ofI, h3.ofI] at ht
 exact ⟨t, rfl, n, ht⟩
def spTotal : Sp := fun vs H Q _ => ∃ (nb : Addr -> Prop) (p : Int) (va vc : V) (prs : List (Int × Int)) (wd : List (Option Int)), vs = [.int p, va, vc] /\ IsD nb H (.list (prs.map pairD)) va /\ IsD nb H (.list (wd.map optD)) vc /\ 0 < p /\
 (∀ pr ∈ prs, 0 <= pr.1 /\ pr.1 < wd.length /\ Sm pr.2) /\ (∀ x, some x ∈ wd -> Sm x) /\ Q (.int (dueSum prs wd % p)) H
theorem shaped_pairs (prs : List (Int × Int)) : SeqAt.shaped (.list (prs.map pairD)) = true /\ PyData.depthAll (prs.map pairD) <= 1 /\ PyData.canLayAll0 (prs.map pairD) = true := by
 have h : PyData.depthAll (prs.map pairD) <= 1 /\ PyData.canLayAll0 (prs.map pairD) = true := by
  induction prs with
  | nil => simp [PyData.depthAll, PyData.canLayAll0]
  | cons a r ih => simp [pairD, PyData.depthAll, PyData.depth, PyData.canLayAll0, PyData.canLay0, ih.2]; have := ih.1; omega
 refine ⟨?_, h⟩
 unfold SeqAt.shaped
 simp [PyData.canLay0, PyData.depth, h.2]
 omega
def NoDiv (r : Int) : Prop := ∀ d : Int, 2 <= d -> d * d <= r -> r % d ≠ 0
def primeList : List Int := [2, 3, 5, 7, 2, 11, 101, 10007, 65537, 1000003, 998244353, 1000000007, 2147483647, 1000000000039, 1000000000000000003, 18446744073709551557, 2305843009213693951, 618970019642690137449562111, 162259276829213363391578010288127, 170141183460469231731687303715884105727, 1000000000000000000000000000000000000003, 9999999999999999999999999999999999999983]
def IsP (p : Int) : Prop := 2 <= p /\ p < 10 ^ 40 /\ (p ∈ primeList \/ NoDiv p)
def spPrimeFrom : Sp := fun vs H Q _ => ∃ n : Int, vs = [.int n] /\ 2 <= n /\ n <= 10002 /\ ∀ (r : Int) (H' : Hp), Same H H' -> 2 <= r -> r <= 10100 -> NoDiv r -> Q (.int r) H'
def spPrime : Sp := fun vs H Q _ => ∃ (b l : Addr), vs = [.ref b] /\ BagAt H b l /\ ∀ (p : Int) (H' : Hp), IsP p -> But (Nb b) H H' -> BagAt H' b l -> Q (.int p) H'
def LossyOf (wd : List Int) (ld : List (Option Int)) : Prop := ld.length = wd.length /\ ∀ (i : Nat) x, ld[i]? = some (some x) -> wd[i]? = some x
theorem isDs_intsL {nb : Addr -> Prop} {H : Hp} : ∀ is : List Int, IsDs nb H (is.map PyData.int) (is.map V.int)
 | [] => IsDs.nil
 | i :: is => IsDs.cons (.int i) (isDs_intsL is)
theorem opts_of : ∀ ds : List PyData, (∀ (i : Nat) d, ds[i]? = some d -> ∃ o : Option Int, d = optD o) -> ∃ ld : List (Option Int), ds = ld.map optD
  | [], _ => ⟨[], rfl⟩
  | d :: ds, h => by
    obtain ⟨o, rfl⟩ := h 0 d rfl
    obtain ⟨ld, rfl⟩ := opts_of ds fun i e he => h (i + 1) e (by simpa using he)
    exact ⟨o :: ld, rfl⟩
theorem lossy_data {wd : List Int} (ds : List PyData) (hl : ds.length = wd.length) (h : ∀ (i : Nat) d, ds[i]? = some d -> d = .none \/ ∃ x, wd[i]? = some x /\ d = .int x) : ∃ ld : List (Option Int), ds = ld.map optD /\ LossyOf wd ld := by
 obtain ⟨ld, rfl⟩ := opts_of ds fun i d hd => by
  rcases h i d hd with e | ⟨x, _, e⟩
  ·exact ⟨none, e⟩
  ·exact ⟨some x, e⟩
 refine ⟨ld, rfl, by simpa using hl, fun i x hx => ?_⟩
 rcases h i (.int x) (by rw [zq2x, hx]; rfl) with e | ⟨y, hy, e⟩
 ·cases e
 ·cases e; exact hy
theorem isDs_ints_eq {nb : Addr -> Prop} {H : Hp} : ∀ {is : List Int} {xs : List V}, IsDs nb H (is.map PyData.int) xs -> xs = is.map V.int
  | [], _, h => by unfold List.map IsDs at h; exact h
  | i :: is, _, h => by
    rw [zq8x] at h
    unfold IsDs at h
    obtain ⟨y, ys, rfl, h1, h2⟩ := h
    rw [zq8x, h1.ofI, isDs_ints_eq h2]
theorem lossy_mem {wd : List Int} {ld : List (Option Int)} (h : LossyOf wd ld) {x : Int} (hx : some x ∈ ld) : x ∈ wd := by
 obtain ⟨i, hi⟩ := zq34x hx
 exact zq4x (h.2 i x hi)
end L2
set_option maxRecDepth 100000
set_option maxHeartbeats 1000000
namespace L2
open PySem PySem.Spec PyProof.Rows
abbrev Bg := Option (Addr × Addr)
def NB (B : Bg) (a : Addr) : Prop := ∀ b l, B = some (b, l) -> a ≠ b
def BagOk (B : Bg) (H : Hp) : Prop := ∀ b l, B = some (b, l) -> BagAt H b l
def Live (nb : Addr -> Prop) (H : Hp) : Prop := ∀ a, nb a -> H a ≠ none
structure Kp (S : Addr -> Prop) (F : List Addr) (H H' : Hp) : Prop where
 own : ∀ a ∈ F, ∀ o, H a = some o -> H' a = some o
 lst : ∀ a xs, ¬ S a -> H a = some (.lst xs) -> H' a = some (.lst xs)
 tup : ∀ a xs, ¬ S a -> H a = some (.tup xs) -> H' a = some (.tup xs)
 dic : ∀ a ps, ¬ S a -> Rd H a (.dK ps) -> Rd H' a (.dK ps)
theorem Kp.of {S : Addr -> Prop} {F : List Addr} {H H' : Hp} (h : ∀ a o, (¬ S a \/ a ∈ F) -> H a = some o -> H' a = some o) : Kp S F H H' :=
 ⟨fun a ha o e => h a o (.inr ha) e, fun a xs n e => h a _ (.inl n) e, fun a xs n e => h a _ (.inl n) e, fun a ps n e => e.elim (fun e => .inl (h a _ (.inl n) e)) fun ⟨o, e⟩ => .inr ⟨o, h a _ (.inl n) e⟩⟩
structure Cu where
 v : V
 F : List Addr
 f : Bool
 P : (Addr -> Prop) -> Hp -> Prop
 keep : ∀ {S : Addr -> Prop} {H H' : Hp}, Kp S F H H' -> P S H -> P S H'
 av : ∀ {S S' : Addr -> Prop} {H : Hp}, (∀ a, S' a -> S a) -> P S H -> P S' H
 fresh : ∀ {S : Addr -> Prop} {H : Hp} {p : Addr}, H p = none -> P S H -> P (fun a => S a \/ a = p) H
inductive HD where
 | d (x : PyData) | fz (o : Obj) (ps : List (Key × V)) | th (c : Cu)
def IsH (S : Addr -> Prop) (H : Hp) : HD -> V -> Prop
 | .d x, v => IsD S H x v
 | .fz o ps, v => ∃ a, v = .ref a /\ ¬ S a /\ H a = some (.frz o (.dK ps))
 | .th c, v => v = c.v /\ (∀ a ∈ c.F, ¬ S a /\ H a ≠ none) /\ c.P S H
theorem IsH.keep {S : Addr -> Prop} {H H' : Hp} {x : HD} {v : V} (h : IsH S H x v) (b : But S H H') : IsH S H' x v := by
  cases x with
  | d x => exact IsD.keep b h
  | fz o ps => obtain ⟨a, e, n, q⟩ := h; exact ⟨a, e, n, b _ _ n q⟩
  | th c =>
    obtain ⟨e, n, q⟩ := h
    refine ⟨e, fun a m => ⟨(n a m).1, ?_⟩, c.keep (.of fun a o m q => b a o (m.elim id fun m => (n a m).1) q) q⟩
    cases z : H a with
    | none => exact absurd z (n a m).2
    | some o => rw [b a o (n a m).1 z]; exact zq76x _
theorem IsH.av {S S' : Addr -> Prop} {H : Hp} {x : HD} {v : V} (h : IsH S H x v) (b : ∀ a, S' a -> S a) : IsH S' H x v := by
 cases x with
 | d x => exact IsD.av b h
 | fz o ps => obtain ⟨a, e, n, q⟩ := h; exact ⟨a, e, fun z => n (b a z), q⟩
 | th c => obtain ⟨e, n, q⟩ := h; exact ⟨e, fun a m => ⟨fun z => (n a m).1 (b a z), (n a m).2⟩, c.av b q⟩
theorem IsH.fresh {S : Addr -> Prop} {H : Hp} {x : HD} {v : V} {p : Addr} (h : IsH S H x v) (hp : H p = none) : IsH (fun a => S a \/ a = p) H x v := by
 cases x with
 | d x => exact IsD.fresh hp h
 | fz o ps => obtain ⟨a, e, n, q⟩ := h; exact ⟨a, e, fun z => z.elim n (ne_of_none q hp), q⟩
 | th c => obtain ⟨e, n, q⟩ := h; exact ⟨e, fun a m => ⟨fun z => z.elim (n a m).1 fun y => (n a m).2 (by rw [y]; exact hp), (n a m).2⟩, c.fresh hp q⟩
structure Gx where
 B : Bg
 H0 : Hp
 A : Addr -> Prop
 hold : List (Bool × HD × V) := []
inductive Sl where
 | no | d (f : Bool) (d : PyData) | own (a : Addr) (f : Bool) (ds : List PyData) | bag | raw (v : V) | dic (a : Addr) (f : Bool) (ks : List (Int × PyData)) | cu (c : Cu)
def Sl.adr : Sl -> List Addr
 | .own a _ _ => [a]
 | .dic a _ _ => [a]
 | .cu c => c.F
 | _ => []
@[reducible] def kvD (p : Int × PyData) : PyData × PyData := (.int p.1, p.2)
abbrev Rh := List Sl
def Gx.S (G : Gx) (nb : Addr -> Prop) (f : Bool) : Addr -> Prop := fun a => nb a \/ G.A a \/ ¬ NB G.B a \/ (f = true /\ G.H0 a ≠ none)
def SlOk (G : Gx) (nb : Addr -> Prop) (H : Hp) (x : Option V) : Sl -> Prop
 | .no => True
 | .d f d => ∃ v, x = some v /\ IsD (G.S nb f) H d v
 | .own a f ds => x = some (.ref a) /\ nb a /\ NB G.B a /\ ∃ xs, H a = some (.lst xs) /\ IsDs (G.S nb f) H ds xs
 | .bag => ∃ b l, G.B = some (b, l) /\ x = some (.ref b)
 | .raw v => x = some v
 | .dic a f ks => x = some (.ref a) /\ nb a /\ NB G.B a /\ ∃ ps, H a = some (.dK ps) /\ IsKs (G.S nb f) H (ks.map kvD) ps
 | .cu c => x = some c.v /\ (∀ a ∈ c.F, nb a /\ NB G.B a) /\ c.P (G.S nb c.f) H
structure Wd (G : Gx) (nb : Addr -> Prop) (ρ : Rh) (σ : St) (H : Hp) : Prop where
 bag : BagOk G.B H
 live : Live nb H
 old : ∀ a o, NB G.B a -> G.H0 a = some o -> H a = some o
 nbo : ∀ a, nb a -> NB G.B a -> G.H0 a = none
 gA : Live G.A G.H0
 len : σ.length = ρ.length
 gB : BagOk G.B G.H0
 hld : ∀ h ∈ G.hold, IsH (G.S nb h.1) H h.2.1 h.2.2
 ok : ∀ (i : Nat) (s : Sl), ρ[i]? = some s -> ∃ x, σ[i]? = some x /\ SlOk G nb H x s
 apart : ∀ (i j : Nat) a f as c g cs, i ≠ j -> ρ[i]? = some (.own a f as) -> ρ[j]? = some (.own c g cs) -> a ≠ c
 apd : ∀ (i j : Nat) a f as c g cs, i ≠ j -> ρ[i]? = some (.dic a f as) -> ρ[j]? = some (.dic c g cs) -> a ≠ c
 apc : ∀ (i j : Nat) c s, i ≠ j -> ρ[i]? = some (.cu c) -> ρ[j]? = some s -> ∀ a ∈ c.F, a ∉ s.adr
def Step (B : Bg) (H H' : Hp) : Prop := (∀ a o, NB B a -> H a = some o -> H' a = some o) /\ BagOk B H'
section
variable {G : Gx} {B : Bg} {nb : Addr -> Prop} {ρ : Rh} {σ : St} {H H1 H2 H' : Hp} {f g : Bool} {d : PyData} {ds : List PyData} {v : V} {xs : List V} {a p : Addr}
theorem Step.refl (h : BagOk B H) : Step B H H := ⟨fun _ _ _ e => e, h⟩
theorem Step.trans (x : Step B H H1) (y : Step B H1 H2) : Step B H H2 := ⟨fun a o n e => y.1 a o n (x.1 a o n e), y.2⟩
theorem BagOk.same (h : BagOk B H) (s : Same H H') : BagOk B H' := fun b l e => (h b l e).same s
theorem Step.same (h : BagOk B H) (s : Same H H') : Step B H H' := ⟨fun a o _ e => s a o e, h.same s⟩
theorem Step.but {nb' : Addr -> Prop} (s : Step B H H') (h : ∀ a, ¬ NB B a -> nb' a) : But nb' H H' := fun a o n e => s.1 a o (zq77x fun z => n (h a z)) e
theorem Step.butS (s : Step G.B H H') : But (G.S nb f) H H' := s.but fun a h => .inr (.inr (.inl h))
theorem S_mono (h : g = true -> f = true) {nb' : Addr -> Prop} (hn : ∀ a, nb a -> nb' a) : ∀ a, G.S nb g a -> G.S nb' f a := by
 intro a z
 rcases z with z | z | z | ⟨z, q⟩
 ·exact .inl (hn a z)
 ·exact .inr (.inl z)
 ·exact .inr (.inr (.inl z))
 ·exact .inr (.inr (.inr ⟨h z, q⟩))
theorem NB.bag_live (h : BagOk B H) (n : ¬ NB B a) : H a ≠ none := by
 intro e
 apply n
 intro b l hb z
 subst z
 obtain ⟨_, _, _, _, _, h1, _⟩ := h _ _ hb
 rw [h1] at e; cases e
theorem Wd.liveS (W : Wd G nb ρ σ H) : Live (G.S nb f) H := by
 intro a z
 rcases z with z | z | z | ⟨_, z⟩
 ·exact W.live a z
 ·by_cases n : NB G.B a
  ·cases e : G.H0 a with
   | none => exact absurd e (W.gA a z)
   | some o => rw [W.old a o n e]; exact zq76x _
  ·exact NB.bag_live W.bag n
 ·exact NB.bag_live W.bag z
 ·by_cases n : NB G.B a
  ·cases e : G.H0 a with
   | none => exact absurd e z
   | some o => rw [W.old a o n e]; exact zq76x _
  ·exact NB.bag_live W.bag n
theorem Wd.fresh (W : Wd G nb ρ σ H) (hp : H p = none) : ¬ G.S nb f p := fun z => W.liveS p z hp
theorem SlOk.step {x : Option V} {s : Sl} (st : Step G.B H H') (h : SlOk G nb H x s) : SlOk G nb H' x s := by
  cases s with
  | no => trivial
  | d f d => obtain ⟨v, e, h⟩ := h; exact ⟨v, e, h.keep st.butS⟩
  | own a f ds => obtain ⟨e, n, q, xs, hx, hd⟩ := h; exact ⟨e, n, q, xs, st.1 _ _ q hx, hd.keep st.butS⟩
  | bag => exact h
  | raw v => exact h
  | dic a f ks => obtain ⟨e, n, q, xs, hx, hd⟩ := h; exact ⟨e, n, q, xs, st.1 _ _ q hx, hd.keep st.butS⟩
  | cu c =>
    obtain ⟨e, n, p⟩ := h
    refine ⟨e, n, c.keep (.of fun a o ha e => st.1 a o ?_ e) p⟩
    rcases ha with ha | ha
    · exact zq77x fun z => ha (.inr (.inr (.inl z)))
    · exact (n a ha).2
theorem ne_none_keep (n : NB B a) (st : Step B H H') (h : H a ≠ none) : H' a ≠ none := by
 cases e : H a with
 | none => exact absurd e h
 | some o => rw [st.1 a o n e]; exact zq76x _
theorem Wd.step (W : Wd G nb ρ σ H) (st : Step G.B H H') : Wd G nb ρ σ H' where
 bag := st.2
 live := fun a n => by
  by_cases q : NB G.B a
  ·exact ne_none_keep q st (W.live a n)
  ·exact NB.bag_live st.2 q
 old := fun a o n e => st.1 a o n (W.old a o n e)
 nbo := W.nbo
 gA := W.gA
 len := W.len
 gB := W.gB
 hld := fun h m => (W.hld h m).keep st.butS
 ok := fun i s e => by
  obtain ⟨x, e1, h⟩ := W.ok i s e
  exact ⟨x, e1, h.step st⟩
 apart := W.apart
 apd := W.apd
 apc := W.apc
theorem Wd.set {i : Nat} {s : Sl} {x : Option V} (W : Wd G nb ρ σ H) (h : SlOk G nb H x s) (hs : ∀ a f ds, s = .own a f ds -> ∀ j c g cs, j ≠ i -> ρ[j]? = some (.own c g cs) -> a ≠ c) (hd : ∀ a f ds, s = .dic a f ds -> ∀ j c g cs, j ≠ i -> ρ[j]? = some (.dic c g cs) -> a ≠ c := by intro _ _ _ z; cases z) (hcu : ∀ a ∈ s.adr, ∀ j t, j ≠ i -> ρ[j]? = some t -> (∃ c, s = .cu c) \/ (∃ c, t = .cu c) -> a ∉ t.adr := by intro _ z; cases z) : Wd G nb (ρ.set i s) (σ.set i x) H where
 bag := W.bag
 live := W.live
 old := W.old
 nbo := W.nbo
 gA := W.gA
 len := by rw [zq40x, zq40x]; exact W.len
 gB := W.gB
 hld := W.hld
 ok := fun j t e => by
  by_cases hij : i = j
  ·subst hij
   have hl : i < ρ.length := by have := (zq5x.mp e).1; rwa [zq40x] at this
   rw [zq30x hl] at e
   cases e
   exact ⟨x, zq30x (by rw [W.len]; exact hl), h⟩
  ·rw [zq19x hij] at e ⊢
   exact W.ok j t e
 apart := fun j k a f as c g cs hjk e1 e2 => by
  by_cases hj : i = j
  ·subst hj
   have hl : i < ρ.length := by have := (zq5x.mp e1).1; rwa [zq40x] at this
   rw [zq30x hl] at e1
   cases e1
   rw [zq19x hjk] at e2
   exact hs a f as rfl k c g cs (zq10x hjk) e2
  ·by_cases hk : i = k
   ·subst hk
    have hl : i < ρ.length := by have := (zq5x.mp e2).1; rwa [zq40x] at this
    rw [zq30x hl] at e2
    cases e2
    rw [zq19x hj] at e1
    exact (hs c g cs rfl j a f as hjk e1).symm
   ·rw [zq19x hj] at e1
    rw [zq19x hk] at e2
    exact W.apart j k a f as c g cs hjk e1 e2
 apd := fun j k a f as c g cs hjk e1 e2 => by
  by_cases hj : i = j
  ·subst hj
   have hl : i < ρ.length := by have := (zq5x.mp e1).1; rwa [zq40x] at this
   rw [zq30x hl] at e1
   cases e1
   rw [zq19x hjk] at e2
   exact hd a f as rfl k c g cs (zq10x hjk) e2
  ·by_cases hk : i = k
   ·subst hk
    have hl : i < ρ.length := by have := (zq5x.mp e2).1; rwa [zq40x] at this
    rw [zq30x hl] at e2
    cases e2
    rw [zq19x hj] at e1
    exact (hd c g cs rfl j a f as hjk e1).symm
   ·rw [zq19x hj] at e1
    rw [zq19x hk] at e2
    exact W.apd j k a f as c g cs hjk e1 e2
 apc := fun j k c t hjk e1 e2 a ha => by
  by_cases hj : i = j
  ·subst hj
   have hl : i < ρ.length := by have := (zq5x.mp e1).1; rwa [zq40x] at this
   rw [zq30x hl] at e1
   cases e1
   rw [zq19x hjk] at e2
   exact hcu a ha k t (zq10x hjk) e2 (.inl ⟨c, rfl⟩)
  ·by_cases hk : i = k
   ·subst hk
    have hl : i < ρ.length := by have := (zq5x.mp e2).1; rwa [zq40x] at this
    rw [zq30x hl] at e2
    cases e2
    rw [zq19x hj] at e1
    exact fun z => hcu a z j (.cu c) hjk e1 (.inr ⟨c, rfl⟩) ha
   ·rw [zq19x hj] at e1
    rw [zq19x hk] at e2
    exact W.apc j k c t hjk e1 e2 a ha
theorem Wd.setD {i : Nat} (W : Wd G nb ρ σ H) (h : IsD (G.S nb f) H d v) : Wd G nb (ρ.set i (.d f d)) (σ.set i (some v)) H := W.set ⟨v, rfl, h⟩ fun _ _ _ e => by cases e
inductive Wk : Rh -> Rh -> Prop
 | nil : Wk [] []
 | no {s : Sl} {r r' : Rh} (h : Wk r r') : Wk (.no :: r) (s :: r')
 | eq {s : Sl} {r r' : Rh} (h : Wk r r') : Wk (s :: r) (s :: r')
theorem Wk.at : ∀ {r r' : Rh} {i : Nat} {s : Sl}, Wk r r' -> r[i]? = some s -> s = .no /\ (∃ t, r'[i]? = some t) \/ r'[i]? = some s
 | _, _, _, _, .nil, e => by simp at e
 | _, _, 0, _, .no h, e => by simp at e; subst e; exact .inl ⟨rfl, _, rfl⟩
 | _, _, 0, _, .eq h, e => by simp at e; subst e; exact .inr rfl
 | _, _, i + 1, _, .no h, e => by simpa using Wk.at (i := i) h (by simpa using e)
 | _, _, i + 1, _, .eq h, e => by simpa using Wk.at (i := i) h (by simpa using e)
theorem Wk.len {r r' : Rh} (h : Wk r r') : r.length = r'.length := by
 induction h with
 | nil => rfl
 | no _ ih => simp [ih]
 | eq _ ih => simp [ih]
theorem Wd.wk {ρ' : Rh} (W : Wd G nb ρ' σ H) (h : Wk ρ ρ') : Wd G nb ρ σ H where
 bag := W.bag
 live := W.live
 old := W.old
 nbo := W.nbo
 gA := W.gA
 len := by rw [h.len]; exact W.len
 gB := W.gB
 hld := W.hld
 ok := fun i s e => by
  rcases h.at e with ⟨rfl, t, e'⟩ | e'
  ·obtain ⟨x, e1, _⟩ := W.ok i t e'; exact ⟨x, e1, trivial⟩
  ·exact W.ok i s e'
 apart := fun i j a f as c g cs hij e1 e2 => by
  rcases h.at e1 with ⟨z, _⟩ | e1'
  ·cases z
  rcases h.at e2 with ⟨z, _⟩ | e2'
  ·cases z
  exact W.apart i j a f as c g cs hij e1' e2'
 apd := fun i j a f as c g cs hij e1 e2 => by
  rcases h.at e1 with ⟨z, _⟩ | e1'
  ·cases z
  rcases h.at e2 with ⟨z, _⟩ | e2'
  ·cases z
  exact W.apd i j a f as c g cs hij e1' e2'
 apc := fun i j c s hij e1 e2 a ha => by
  rcases h.at e1 with ⟨z, _⟩ | e1'
  ·cases z
  rcases h.at e2 with ⟨z, _⟩ | e2'
  ·subst z; exact fun z => by cases z
  exact W.apc i j c s hij e1' e2' a ha
theorem Wd.more (W : Wd G nb ρ σ H) (hp : H p = none) {o : HO} : Wd G (fun a => nb a \/ a = p) ρ σ (upd H p o) := by
 have hS : Same H (upd H p o) := same_new hp
 have hN : NB G.B p := fun b l e z => by
  subst z
  obtain ⟨_, _, _, _, _, h1, _⟩ := W.bag _ _ e
  rw [h1] at hp; cases hp
 have W' := W.step (Step.same W.bag hS)
 have hA : ∀ f a, G.S (fun a => nb a \/ a = p) f a -> (G.S nb f a \/ a = p) := fun f a z => by
  rcases z with (z | z) | z | z | z
  ·exact .inl (.inl z)
  ·exact .inr z
  ·exact .inl (.inr (.inl z))
  ·exact .inl (.inr (.inr (.inl z)))
  ·exact .inl (.inr (.inr (.inr z)))
 refine ⟨W'.bag, fun a n => ?_, W'.old, fun a n q => ?_, W.gA, W.len, W.gB, fun h m => (((W.hld h m).fresh hp).av (hA h.1)).keep (But.of hS), fun i s e => ?_, W.apart, W.apd, W.apc⟩
 ·rcases n with n | n
  ·exact W'.live a n
  ·subst n; rw [upd_same]; exact zq76x _
 ·rcases n with n | n
  ·exact W.nbo a n q
  ·subst n
   cases e : G.H0 a with
   | none => rfl
   | some o => rw [W.old a o q e] at hp; cases hp
 ·obtain ⟨x, e1, h⟩ := W.ok i s e
  refine ⟨x, e1, ?_⟩
  cases s with
  | no => trivial
  | d f d => obtain ⟨v, e, h⟩ := h; exact ⟨v, e, ((h.fresh hp).av (hA f)).keep (But.of hS)⟩
  | own a f ds => obtain ⟨e, n, q, xs, hx, hd⟩ := h; exact ⟨e, .inl n, q, xs, hS _ _ hx, ((hd.fresh hp).av (hA f)).keep (But.of hS)⟩
  | bag => exact h
  | raw v => exact h
  | dic a f ds => obtain ⟨e, n, q, xs, hx, hd⟩ := h; exact ⟨e, .inl n, q, xs, hS _ _ hx, ((hd.fresh hp).av (hA f)).keep (But.of hS)⟩
  | cu c => obtain ⟨e, n, q⟩ := h; exact ⟨e, fun a ha => ⟨.inl (n a ha).1, (n a ha).2⟩, c.keep (.of fun a o _ e => hS a o e) (c.av (hA c.f) (c.fresh hp q))⟩
theorem Wd.write (W : Wd G nb ρ σ H) {o : HO} (hp : nb p) (hN : NB G.B p) (ho : ∀ (i : Nat) a f ds, ρ[i]? = some (.own a f ds) -> a ≠ p) (hod : ∀ (i : Nat) a f ds, ρ[i]? = some (.dic a f ds) -> a ≠ p) (hoc : ∀ (i : Nat) c, ρ[i]? = some (.cu c) -> p ∉ c.F) : Wd G nb ρ σ (upd H p o) := by
  have hl : ∀ b l, G.B = some (b, l) -> p ≠ l := fun b l e z => by
    obtain ⟨_, _, _, _, _, _, h2, _⟩ := W.gB b l e
    rw [<- z, W.nbo p hp hN] at h2; cases h2
  have hB : BagOk G.B (upd H p o) := fun b l e => (W.bag b l e).put2 ⟨hN b l e, hl b l e⟩
  have bt : ∀ f, But (G.S nb f) H (upd H p o) := fun f => But.set (.inl hp)
  refine ⟨hB, fun a n => ?_, fun a o' n e => ?_, W.nbo, W.gA, W.len, W.gB, fun h m => (W.hld h m).keep (bt h.1), fun i s e => ?_, W.apart, W.apd, W.apc⟩
  · by_cases z : a = p
    · subst z; rw [upd_same]; exact zq76x _
    · rw [upd_ne z]; exact W.live a n
  · have z : a ≠ p := fun z => by subst z; rw [W.nbo a hp n] at e; cases e
    rw [upd_ne z]; exact W.old a o' n e
  · obtain ⟨x, e1, h⟩ := W.ok i s e
    refine ⟨x, e1, ?_⟩
    cases s with
    | no => trivial
    | d f d => obtain ⟨v, e, h⟩ := h; exact ⟨v, e, h.keep (bt f)⟩
    | own a f ds => obtain ⟨e', n, q, xs, hx, hd⟩ := h; exact ⟨e', n, q, xs, by rw [upd_ne (ho i a f ds e)]; exact hx, hd.keep (bt f)⟩
    | bag => exact h
    | raw v => exact h
    | dic a f ds => obtain ⟨e', n, q, xs, hx, hd⟩ := h; exact ⟨e', n, q, xs, by rw [upd_ne (hod i a f ds e)]; exact hx, hd.keep (bt f)⟩
    | cu c =>
      obtain ⟨e', n, q⟩ := h
      refine ⟨e', n, c.keep (.of fun a o' ha e'' => ?_) q⟩
      rw [upd_ne]
      · exact e''
      · rintro rfl
        rcases ha with ha | ha
        · exact ha (.inl hp)
        · exact hoc i c e ha
end
end L2
set_option maxRecDepth 100000
set_option maxHeartbeats 1000000
namespace L2
open PySem PySem.Spec PyProof.Rows
abbrev Pd := Bool -> PyData -> Prop
def Ev (G : Gx) (ρ : Rh) (te : TE) (Φ : Pd) : Prop := ∀ nb σ H (Q : VK), Wd G nb ρ σ H -> (∀ f v H' d, Φ f d -> Step G.B H H' -> IsD (G.S nb f) H' d v -> Q v H') -> te σ H Q
def EvN (G : Gx) (ρ : Rh) (te : TE) (Φ : Bool -> List PyData -> Prop) : Prop := ∀ nb σ H (Q : VK), Wd G nb ρ σ H ->
 (∀ f a xs H' ds, Φ f ds -> Step G.B H H' -> H a = none -> H' a = some (.lst xs) -> IsDs (fun x => G.S nb f x \/ x = a) H' ds xs -> Q (.ref a) H') -> te σ H Q
def Tv (G : Gx) (ρ : Rh) (tt : TT) (Φ : Bool -> Prop) : Prop := ∀ nb σ H (Q : Bool -> Hp -> Prop), Wd G nb ρ σ H -> (∀ b H', Φ b -> Step G.B H H' -> Q b H') -> tt σ H Q
def Ov (G : Gx) (ρ : Rh) (to : TO) (Φ : Option Int -> Prop) : Prop := ∀ nb σ H (Q : Option Int -> Hp -> Prop), Wd G nb ρ σ H -> (∀ o H', Φ o -> Step G.B H H' -> Q o H') -> to σ H Q
abbrev Fd := Bool × PyData
def IsF (G : Gx) (nb : Addr -> Prop) (H : Hp) : List Fd -> List V -> Prop
 | [], vs => vs = []
 | e :: es, vs => ∃ v ws, vs = v :: ws /\ IsD (G.S nb e.1) H e.2 v /\ IsF G nb H es ws
def Av (G : Gx) (ρ : Rh) (ta : TA) (Φ : List Fd -> Prop) : Prop := ∀ nb σ H (Q : List V -> Hp -> Prop), Wd G nb ρ σ H -> (∀ es vs H', Φ es -> Step G.B H H' -> IsF G nb H' es vs -> Q vs H') -> ta σ H Q
def Gv (G : Gx) (ρ : Rh) (g : TG) (f : Bool) (d : PyData) (Φ : Rh -> Prop) : Prop := ∀ nb σ H v (Q : St -> Hp -> Prop), Wd G nb ρ σ H -> IsD (G.S nb f) H d v -> (∀ σ' ρ', Φ ρ' -> Wd G nb ρ' σ' H -> Q σ' H) -> g v σ H Q
def Gvs (G : Gx) (ρ : Rh) (g : TGs) (f : Bool) (ds : List PyData) (Φ : Rh -> Prop) : Prop := ∀ nb σ H vs (Q : St -> Hp -> Prop), Wd G nb ρ σ H -> IsDs (G.S nb f) H ds vs -> (∀ σ' ρ', Φ ρ' -> Wd G nb ρ' σ' H -> Q σ' H) -> g vs σ H Q
structure DE where
 nx : Rh -> Prop
 rt : Pd
 bk : Rh -> Prop := fun _ => False
 ct : Rh -> Prop := fun _ => False
 rw : (Addr -> Prop) -> Rh -> V -> Hp -> Prop := fun _ _ _ _ => False
structure EndsOk (G : Gx) (E : DE) (D : Ends) : Prop where
 nx : ∀ nb ρ σ H, E.nx ρ -> Wd G nb ρ σ H -> D.nx σ H
 bk : ∀ nb ρ σ H, E.bk ρ -> Wd G nb ρ σ H -> D.bk σ H
 ct : ∀ nb ρ σ H, E.ct ρ -> Wd G nb ρ σ H -> D.ct σ H
 rt : ∀ nb ρ σ f v H d, E.rt f d -> Wd G nb ρ σ H -> IsD (G.S (fun _ => False) f) H d v -> D.rt v H
 rw : ∀ nb ρ σ v H, E.rw nb ρ v H -> Wd G nb ρ σ H -> D.rt v H
def Sv (G : Gx) (ρ : Rh) (ts : TS) (E : DE) : Prop := ∀ nb σ H D, Wd G nb ρ σ H -> EndsOk G E D -> ts D σ H
def scB : PyData -> Bool
 | .none => true | .bool _ => true | .int _ => true | .str _ => true | _ => false
def toV : PyData -> V
 | .bool b => .bl b | .int i => .int i | .str x => .str x | _ => .non
section
variable {nb nb' : Addr -> Prop} {H H' : Hp} {d e : PyData} {v : V}
theorem IsD.sc (h : scB d = true) : IsD nb H d (toV d) := by
 cases d <;> first | (cases h; done) | (unfold IsD; rfl)
theorem IsD.scEq (h : scB d = true) (q : IsD nb H d v) : v = toV d := by
 cases d <;> first | (cases h; done) | (unfold IsD at q; exact q)
theorem IsD.scAny (h : scB d = true) (q : IsD nb H d v) : IsD nb' H' d v := by
 rw [q.scEq h]; exact .sc h
theorem IsDs.scAny : ∀ {ds : List PyData} {xs : List V}, ds.all scB = true -> IsDs nb H ds xs -> IsDs nb' H' ds xs
  | [], _, _, q => by unfold IsDs at q ⊢; exact q
  | d :: ds, _, h, q => by
    rw [zq73x, zq26x] at h
    unfold IsDs at q ⊢
    obtain ⟨y, ys, e, h1, h2⟩ := q
    exact ⟨y, ys, e, h1.scAny h.1, IsDs.scAny h.2 h2⟩
end
section
variable {G : Gx} {ρ : Rh} {Φ Ψ : Pd} {ta tb te : TE} {t : TA} {i : Nat} {f g : Bool} {d e : PyData} {ds es : List PyData} {K : PySem.W.Frag}
theorem Ev.mono (h : Ev G ρ te Ψ) (q : ∀ f d, Ψ f d -> Φ f d) : Ev G ρ te Φ := fun nb σ H Q W z => h nb σ H Q W fun f v H' d p => z f v H' d (q f d p)
theorem EvN.ev (h : EvN G ρ te fun f ds => Φ f (.list ds)) : Ev G ρ te Φ := fun nb σ H Q W z => h nb σ H Q W fun f a xs H' ds p st n e hd =>
 z f _ H' _ p st (.lst (W.fresh n) e (hd.av fun _ x => .inl x))
namespace Ev
theorem var (e : ρ[i]? = some (.d f d)) (h : Φ f d) : Ev G ρ (tVar i) Φ := fun nb σ H Q W z => by
 obtain ⟨x, e1, v, rfl, hd⟩ := W.ok i _ e
 exact ⟨v, e1, z f v H d h (.refl W.bag) hd⟩
theorem int {n : Int} (h : Φ true (.int n)) : Ev G ρ (tC (.int n)) Φ := fun nb σ H Q W z => z true _ H _ h (.refl W.bag) (.int n)
theorem bl {b : Bool} (h : Φ true (.bool b)) : Ev G ρ (tC (.bl b)) Φ := fun nb σ H Q W z => z true _ H _ h (.refl W.bag) (.bl b)
theorem non (h : Φ true .none) : Ev G ρ (tC .non) Φ := fun nb σ H Q W z => z true _ H _ h (.refl W.bag) .non
theorem op2 {r : R2} (h : Ev G ρ ta fun f x => Ev G ρ tb fun g y => ∀ nb σ H u v (Q : VK), Wd G nb ρ σ H -> IsD (G.S nb f) H x u -> IsD (G.S nb g) H y v -> (∀ f w H' d, Φ f d -> Step G.B H H' -> IsD (G.S nb f) H' d w -> Q w H') -> r u v H Q) : Ev G ρ (tOp r ta tb) Φ := fun nb σ H Q W z =>
 h nb σ H _ W fun f v1 H1 d1 p1 s1 q1 => p1 nb σ H1 _ (W.step s1) fun g v2 H2 d2 p2 s2 q2 => p2 nb σ H2 _ _ _ ((W.step s1).step s2) (q1.keep s2.butS) q2 fun f w H' d p st q => z f w H' d p (s1.trans (s2.trans st)) q
theorem rI {C : Int -> Int -> Prop} {k : Int -> Int -> Int} (h : Ev G ρ ta fun _ x => ∃ i, x = .int i /\ Ev G ρ tb fun _ y => ∃ j, y = .int j /\ C i j /\ Φ true (.int (k i j))) : Ev G ρ (tOp (L2.rI C fun i j => .int (k i j)) ta tb) Φ :=
 op2 (h.mono fun f x ⟨i, ex, q⟩ => q.mono fun g y ⟨j, ey, hc, p⟩ nb σ H u v Q W hu hv z => by
  subst ex ey; exact ⟨i, j, hu.ofI, hv.ofI, hc, z true _ H _ p (.refl W.bag) (.int _)⟩)
theorem rI0 {k : Int -> Int -> Int} (h : Ev G ρ ta fun _ x => ∃ i, x = .int i /\ Ev G ρ tb fun _ y => ∃ j, y = .int j /\ Φ true (.int (k i j))) : Ev G ρ (tOp (L2.rI0 fun i j => .int (k i j)) ta tb) Φ :=
 op2 (h.mono fun f x ⟨i, ex, q⟩ => q.mono fun g y ⟨j, ey, p⟩ nb σ H u v Q W hu hv z => by
  subst ex ey; exact ⟨i, j, hu.ofI, hv.ofI, z true _ H _ p (.refl W.bag) (.int _)⟩)
theorem rB0 {k : Int -> Int -> Bool} (h : Ev G ρ ta fun _ x => ∃ i, x = .int i /\ Ev G ρ tb fun _ y => ∃ j, y = .int j /\ Φ true (.bool (k i j))) : Ev G ρ (tOp (L2.rI0 fun i j => .bl (k i j)) ta tb) Φ :=
 op2 (h.mono fun f x ⟨i, ex, q⟩ => q.mono fun g y ⟨j, ey, p⟩ nb σ H u v Q W hu hv z => by
  subst ex ey; exact ⟨i, j, hu.ofI, hv.ofI, z true _ H _ p (.refl W.bag) (.bl _)⟩)
theorem un {r : V -> Hp -> VK -> Prop} (h : Ev G ρ ta fun f x => ∀ nb σ H u (Q : VK), Wd G nb ρ σ H -> IsD (G.S nb f) H x u -> (∀ f w H' d, Φ f d -> Step G.B H H' -> IsD (G.S nb f) H' d w -> Q w H') -> r u H Q) : Ev G ρ (tUn r ta) Φ := fun nb σ H Q W z =>
 h nb σ H _ W fun f v1 H1 d1 p1 s1 q1 => p1 nb σ H1 _ _ (W.step s1) q1 fun f w H' d p st q => z f w H' d p (s1.trans st) q
end Ev
inductive EqD : PyData -> PyData -> Bool -> Prop
 | ii (i j : Int) : EqD (.int i) (.int j) (decide (i = j))
 | ni (i : Int) : EqD .none (.int i) false
 | i_n (i : Int) : EqD (.int i) .none false
 | nn : EqD .none .none true
 | bb (a b : Bool) : EqD (.bool a) (.bool b) (a == b)
 | ss (x : Str) : EqD (.str x) (.str x) true
 | sd (x y : Str) : EqD (.str x) (.str y) (decide (x = y))
theorem EqD.v {nb nb' : Addr -> Prop} {H : Hp} {x y : PyData} {b : Bool} {u v : V} (h : EqD x y b) (hu : IsD nb H x u) (hv : IsD nb' H y v) : scal u v = true /\ decide (u = v) = b := by
 cases h <;> (unfold IsD at hu hv; subst hu hv; refine ⟨rfl, ?_⟩)
 ·exact R.dec_i
 ·rfl
 ·rfl
 ·rfl
 ·rename_i a b; cases a <;> cases b <;> rfl
 ·exact decide_eq_true rfl
 ·rename_i x y
  by_cases c : x = y
  ·subst c; rw [decide_eq_true rfl, decide_eq_true rfl]
  ·rw [decide_eq_false c, decide_eq_false (fun z => c (V.str.inj z))]
theorem EqD.self {d : PyData} (h : scB d = true) : EqD d d true := by
 cases d <;> first | (cases h; done) | skip
 ·exact .nn
 ·rename_i b; have := EqD.bb b b; rwa [beq_self_eq_true] at this
 ·rename_i i; have := EqD.ii i i; rwa [decide_eq_true rfl] at this
 ·exact .ss _
namespace Ev
theorem eq (h : Ev G ρ ta fun _ x => Ev G ρ tb fun _ y => ∃ b, EqD x y b /\ Φ true (.bool b)) : Ev G ρ (tOp rEq ta tb) Φ :=
 op2 (h.mono fun f x q => q.mono fun g y ⟨b, e, p⟩ nb σ H u v Q W hu hv z => by
  obtain ⟨h1, h2⟩ := e.v hu hv
  exact ⟨h1, by rw [h2]; exact z true _ H _ p (.refl W.bag) (.bl _)⟩)
theorem ne (h : Ev G ρ ta fun _ x => Ev G ρ tb fun _ y => ∃ b, EqD x y b /\ Φ true (.bool !b)) : Ev G ρ (tOp rNe ta tb) Φ :=
 op2 (h.mono fun f x q => q.mono fun g y ⟨b, e, p⟩ nb σ H u v Q W hu hv z => by
  obtain ⟨h1, h2⟩ := e.v hu hv
  exact ⟨h1, by rw [h2]; exact z true _ H _ p (.refl W.bag) (.bl _)⟩)
theorem eqD {ng : Bool} (h : Ev G ρ ta fun _ x => Ev G ρ tb fun _ y => SeqAt.shaped x = true /\ SeqAt.shaped y = true /\ Φ true (.bool (PyData.eqv x y != ng))) : Ev G ρ (tOp (rEqD ng) ta tb) Φ :=
 op2 (h.mono fun f x q => q.mono fun g y ⟨h1, h2, p⟩ nb σ H u v Q W hu hv z =>
  ⟨G.S nb false, x, y, hu.av (S_mono (fun z => by cases z) fun _ z => z), hv.av (S_mono (fun z => by cases z) fun _ z => z), h1, h2, z true _ H _ p (.refl W.bag) (.bl _)⟩)
end Ev
def isN : PyData -> Bool
 | .none => true
 | _ => false
theorem isN_v {nb : Addr -> Prop} {H : Hp} {d : PyData} {v : V} (h : IsD nb H d v) : decide (v = .non) = isN d := by
 cases d <;> unfold IsD at h
 all_goals first
  | (subst h; rfl)
  | (obtain ⟨a, xs, rfl, _⟩ := h; rfl)
  | exact h.elim
namespace Ev
theorem is (h : Ev G ρ ta fun _ x => Φ true (.bool (isN x))) : Ev G ρ (tOp rIs ta (tC .non)) Φ :=
 op2 (h.mono fun f x p => Ev.non fun nb σ H u v Q W hu hv z => ⟨hv.ofN, by rw [isN_v hu]; exact z true _ H _ p (.refl W.bag) (.bl _)⟩)
theorem isNot (h : Ev G ρ ta fun _ x => Φ true (.bool !isN x)) : Ev G ρ (tOp rIsNot ta (tC .non)) Φ :=
 op2 (h.mono fun f x p => Ev.non fun nb σ H u v Q W hu hv z => ⟨hv.ofN, by rw [isN_v hu]; exact z true _ H _ p (.refl W.bag) (.bl _)⟩)
end Ev
theorem IsDs.atI {nb : Addr -> Prop} {H : Hp} {ds : List PyData} {xs : List V} {k : Int} {e : PyData} (h : IsDs nb H ds xs) (q : L2.atI ds k = some e) : ∃ v, L2.atI xs k = some v /\ IsD nb H e v := by
 unfold L2.atI at q ⊢
 rw [h.length]
 cases z : ixN ds.length k with
 | none => rw [z] at q; cases q
 | some j => rw [z] at q; exact h.get q
namespace Ev
theorem ixL (h : Ev G ρ ta fun f x => ∃ ds, x = .list ds /\ Ev G ρ tb fun _ y => ∃ k, y = .int k /\ ∃ e, atI ds k = some e /\ Φ f e) : Ev G ρ (tOp (rIxL K) ta tb) Φ :=
 op2 (h.mono fun f x ⟨ds, ex, q⟩ => q.mono fun g y ⟨k, ey, e, he, p⟩ nb σ H u v Q W hu hv z => by
  subst ex ey
  obtain ⟨a, xs, rfl, n, hx, hd⟩ := hu.ofL
  obtain ⟨w, hw, hD⟩ := hd.atI he
  exact ⟨a, xs, k, w, rfl, hv.ofI, .of hx, hw, z f _ H _ p (.refl W.bag) hD⟩)
theorem ixT (h : Ev G ρ ta fun f x => ∃ ds, x = .tuple ds /\ Ev G ρ tb fun _ y => ∃ k, y = .int k /\ ∃ e, atI ds k = some e /\ Φ f e) : Ev G ρ (tOp (rIxT K) ta tb) Φ :=
 op2 (h.mono fun f x ⟨ds, ex, q⟩ => q.mono fun g y ⟨k, ey, e, he, p⟩ nb σ H u v Q W hu hv z => by
  subst ex ey
  obtain ⟨a, xs, rfl, n, hx, hd⟩ := hu.ofT
  obtain ⟨w, hw, hD⟩ := hd.atI he
  exact ⟨a, xs, k, w, rfl, hv.ofI, .of hx, hw, z f _ H _ p (.refl W.bag) hD⟩)
theorem andV (h : Ev G ρ ta fun _ x => ∃ b, x = .bool b /\ if b = true then Ev G ρ tb Φ else Φ true (.bool false)) : Ev G ρ (tAndV ta tb) Φ := fun nb σ H Q W z =>
 h nb σ H _ W fun f v H1 d ⟨b, e, q⟩ s1 hv => by
  subst e
  refine ⟨b, by unfold IsD at hv; exact hv, ?_⟩
  cases b with
  | true => rw [if_pos rfl] at q ⊢; exact q nb σ H1 _ (W.step s1) fun f v H' d p st => z f v H' d p (s1.trans st)
  | false => rw [if_neg zq14x] at q ⊢; exact z true _ H1 _ q s1 (.bl false)
theorem ifE {c : TT} (h : Tv G ρ c fun b => if b = true then Ev G ρ ta Φ else Ev G ρ tb Φ) : Ev G ρ (tIf c ta tb) Φ := fun nb σ H Q W z =>
 h nb σ H _ W fun b H1 q s1 => by
  cases b with
  | true => rw [if_pos rfl] at q ⊢; exact q nb σ H1 _ (W.step s1) fun f v H' d p st => z f v H' d p (s1.trans st)
  | false => rw [if_neg zq14x] at q ⊢; exact q nb σ H1 _ (W.step s1) fun f v H' d p st => z f v H' d p (s1.trans st)
end Ev
namespace Tv
variable {Θ : Bool -> Prop} {t u : TT}
theorem test (h : Ev G ρ te fun _ x => ∃ b, x = .bool b /\ Θ b) : Tv G ρ (tTest te) Θ := fun nb σ H Q W z =>
 h nb σ H _ W fun f v H1 d ⟨b, e, q⟩ s1 hv => by subst e; exact ⟨b, by unfold IsD at hv; exact hv, z b H1 q s1⟩
theorem or (h : Tv G ρ t fun b => if b = true then Θ true else Tv G ρ u Θ) : Tv G ρ (tOr t u) Θ := fun nb σ H Q W z =>
 h nb σ H _ W fun b H1 q s1 => by
  cases b with
  | false => rw [if_neg zq14x] at q ⊢; exact q nb σ H1 _ (W.step s1) fun b H' p st => z b H' p (s1.trans st)
  | true => rw [if_pos rfl] at q ⊢; exact z true H1 q s1
theorem not (h : Tv G ρ t fun b => Θ (!b)) : Tv G ρ (tNot t) Θ := fun nb σ H Q W z => h nb σ H _ W fun b H1 q s1 => z _ H1 q s1
theorem noTest (h : Θ true) : Tv G ρ tNoTest Θ := fun nb σ H Q W z => z true H h (.refl W.bag)
end Tv
def tTruth (K : PySem.W.Frag) (ta : TE) : TT := fun σ H Q => ta σ H fun x H1 => ∃ k, TruV K x H1 k /\ Q k H1
theorem Tv.truB {Θ : Bool -> Prop} (h : Ev G ρ te fun _ x => ∃ b, x = .bool b /\ Θ b) : Tv G ρ (tTruth K te) Θ := fun nb σ H Q W z =>
 h nb σ H _ W fun f v H1 d ⟨b, e, q⟩ s1 hv => by subst e; exact ⟨b, by unfold IsD at hv; subst hv; rfl, z b H1 q s1⟩
namespace Av
variable {Θ : List Fd -> Prop}
theorem nil (h : Θ []) : Av G ρ tNil Θ := fun nb σ H Q W z => z [] [] H h (.refl W.bag) rfl
theorem cons (h : Ev G ρ te fun f d => Av G ρ t fun es => Θ ((f, d) :: es)) : Av G ρ (tCons te t) Θ := fun nb σ H Q W z =>
 h nb σ H _ W fun f v H1 d p1 s1 q1 => p1 nb σ H1 _ (W.step s1) fun es vs H2 p2 s2 q2 => z _ _ H2 p2 (s1.trans s2) ⟨v, vs, rfl, q1.keep s2.butS, q2⟩
theorem cints {is : List Int} (h : Θ (is.map fun i => (true, .int i))) : Av G ρ (tInts is) Θ := fun nb σ H Q W z => z _ _ H h (.refl W.bag) (by
 clear h
 induction is with
 | nil => rfl
 | cons i r ih => exact ⟨_, _, rfl, .int i, ih⟩)
end Av
def allF (es : List Fd) : Bool := es.all (·.1)
theorem IsF.all {nb : Addr -> Prop} {H : Hp} : ∀ {es : List Fd} {vs : List V} {f : Bool}, IsF G nb H es vs -> (f = true -> allF es = true) -> IsDs (G.S nb f) H (es.map (·.2)) vs
  | [], _, _, h, _ => by unfold IsF at h; subst h; exact .nil
  | e :: es, _, f, h, hf => by
    obtain ⟨v, ws, rfl, h1, h2⟩ := h
    refine .cons (h1.av (S_mono (fun z => ?_) fun _ z => z)) (h2.all fun z => ?_)
    · have := hf z; simp only [allF, zq73x, zq26x] at this; exact this.1
    · have := hf z; simp only [allF, zq73x, zq26x] at this; exact this.2
theorem IsF.len {nb : Addr -> Prop} {H : Hp} {es : List Fd} {vs : List V} (h : IsF G nb H es vs) : vs.length = es.length := by
 have := (h.all (f := false) (fun z => by cases z)).length
 simpa using this
theorem EvN.lst {Φ : Bool -> List PyData -> Prop} (h : Av G ρ t fun es => es.length <= 10000 /\ Φ (allF es) (es.map (·.2))) : EvN G ρ (tLst t) Φ := fun nb σ H Q W z =>
  h nb σ H _ W fun es vs H1 ⟨hl, p⟩ s1 q1 => ⟨zq24x (by rw [q1.len]; exact hl) (by decide), fun a ha => by
    have W1 := W.step s1
    refine z _ a vs _ _ p (s1.trans (.same W1.bag (same_new ha))) ?_ upd_same (((q1.all fun z => z).fresh ha).keep (But.of (same_new ha)))
    cases e : H a with
    | none => rfl
    | some o =>
      by_cases n : NB G.B a
      · rw [s1.1 a o n e] at ha; cases ha
      · exact absurd ha (NB.bag_live s1.2 n)⟩
theorem Ev.lst (h : Av G ρ t fun es => es.length <= 10000 /\ Φ (allF es) (.list (es.map (·.2)))) : Ev G ρ (tLst t) Φ := (EvN.lst (Φ := fun f ds => Φ f (.list ds)) h).ev
end
end L2
set_option maxRecDepth 100000
set_option maxHeartbeats 1000000
namespace L2
open PySem PySem.Spec PyProof.Rows
def rLen (K : PySem.W.Frag) : List V -> Hp -> VK -> Prop := fun xs H Q => ∃ p ys, xs = [.ref p] /\ (SqL K H p ys \/ SqT K H p ys) /\ Q (.int ys.length) H
theorem call_lenM {X : Cx} : CallR X (.builtin "len") (rLen X.K) := call_len_seq
def rMin : List V -> Hp -> VK -> Prop := fun xs H Q => ∃ i j, xs = [.int i, .int j] /\ Q (.int (if j < i then j else i)) H
def rInt : List V -> Hp -> VK -> Prop := fun xs H Q => (∃ i, xs = [.int i] /\ Q (.int i) H) \/ ∃ k, xs = [.bl k] /\ Q (.int (if k then 1 else 0)) H
theorem call_minM {X : Cx} (hc : X.calm = true) : CallR X (.builtin "min") rMin := call_min2 hc
theorem call_intM {X : Cx} : CallR X (.type "int") rInt := call_int1
def cutA {α : Type} (xs : List α) (lo hi : Option Int) : List α := (xs.drop (HT.sIx xs.length 0 lo)).take (HT.sIx xs.length xs.length hi - HT.sIx xs.length 0 lo)
theorem IsDs.cut {nb : Addr -> Prop} {H : Hp} {ds : List PyData} {xs : List V} {lo hi : Option Int} (h : IsDs nb H ds xs) : IsDs nb H (cutA ds lo hi) (cutV xs lo hi) := by
 unfold cutA cutV
 rw [h.length]
 exact (h.drop _).take _
def scAll (ds : List PyData) : Bool := ds.all scB
section
variable {G : Gx} {ρ : Rh} {Φ Ψ : Pd} {ta tb te : TE} {t : TA} {i : Nat} {f g : Bool} {d e : PyData} {ds es : List PyData} {K : PySem.W.Frag}
theorem Wd.none_of {nb : Addr -> Prop} {σ : St} {H H1 : Hp} {a : Addr} (W : Wd G nb ρ σ H) (s1 : Step G.B H H1) (ha : H1 a = none) : H a = none := by
  cases e : H a with
  | none => rfl
  | some o =>
    by_cases n : NB G.B a
    · rw [s1.1 a o n e] at ha; cases ha
    · exact absurd ha (NB.bag_live s1.2 n)
theorem EvN.fin {nb : Addr -> Prop} {σ : St} {H H1 : Hp} {Q : VK} {Φ : Bool -> List PyData -> Prop} {a : Addr} {xs : List V} (W : Wd G nb ρ σ H) (s1 : Step G.B H H1) (ha : H1 a = none) (hd : IsDs (G.S nb f) H1 ds xs) (p : Φ (f || scAll ds) ds)
  (z : ∀ f a xs H' ds, Φ f ds -> Step G.B H H' -> H a = none -> H' a = some (.lst xs) -> IsDs (fun x => G.S nb f x \/ x = a) H' ds xs -> Q (.ref a) H') : Q (.ref a) (upd H1 a (.lst xs)) := by
 refine z _ a xs _ ds p (s1.trans (.same s1.2 (same_new ha))) (W.none_of s1 ha) upd_same ?_
 cases hs : scAll ds with
 | true => exact IsDs.scAny hs hd
 | false => rw [zq90x]; exact (hd.fresh ha).keep (But.of (same_new ha))
namespace Ov
variable {Θ : Option Int -> Prop}
theorem none (h : Θ none) : Ov G ρ tNoPart Θ := fun nb σ H Q W z => z _ H h (.refl W.bag)
theorem some (h : Ev G ρ te fun _ x => ∃ k, x = .int k /\ Θ (some k)) : Ov G ρ (tPart te) Θ := fun nb σ H Q W z =>
 h nb σ H _ W fun f v H1 d ⟨k, e, q⟩ s1 hv => by subst e; exact ⟨k, hv.ofI, z _ H1 q s1⟩
end Ov
namespace EvN
variable {Θ : Bool -> List PyData -> Prop}
theorem sl {tl th : TO} (h : Ev G ρ te fun f x => ∃ ds, x = .list ds /\ Ov G ρ tl fun lo => Ov G ρ th fun hi => Θ (f || scAll (cutA ds lo hi)) (cutA ds lo hi)) : EvN G ρ (tSl (rSlL K) te tl th) Θ := fun nb σ H Q W z =>
 h nb σ H _ W fun f v H1 d ⟨ds, e, q⟩ s1 hv => q nb σ H1 _ (W.step s1) fun lo H2 q2 s2 => q2 nb σ H2 _ ((W.step s1).step s2) fun hi H3 q3 s3 => by
  subst e
  obtain ⟨a, xs, rfl, n, hx, hd⟩ := ((hv.keep s2.butS).keep s3.butS).ofL
  exact ⟨a, xs, rfl, .of hx, fun p hp => EvN.fin W (s1.trans (s2.trans s3)) hp hd.cut q3 z⟩
theorem listOf (h : Ev G ρ te fun f x => ∃ ds, (x = .list ds \/ x = .tuple ds) /\ Θ (f || scAll ds) ds) : EvN G ρ (tCB (rListOf K) (tCons te tNil)) Θ := fun nb σ H Q W z =>
 h nb σ H _ W fun f v H1 d ⟨ds, e, q⟩ s1 hv => by
  rcases e with e | e
  ·subst e
   obtain ⟨a, xs, rfl, n, hx, hd⟩ := hv.ofL
   exact ⟨a, xs, rfl, .inl (.of hx), fun p hp => EvN.fin W s1 hp hd q z⟩
  ·subst e
   obtain ⟨a, xs, rfl, n, hx, hd⟩ := hv.ofT
   exact ⟨a, xs, rfl, .inr (.of hx), fun p hp => EvN.fin W s1 hp hd q z⟩
theorem cat (h : Ev G ρ ta fun f x => ∃ ds, x = .list ds /\ Ev G ρ tb fun g y => ∃ es, y = .list es /\ ds.length + es.length <= 10000 /\ Θ ((f && g) || scAll (ds ++ es)) (ds ++ es)) : EvN G ρ (tOp rCat ta tb) Θ := fun nb σ H Q W z =>
 h nb σ H _ W fun f v H1 d ⟨ds, e, q⟩ s1 hv => q nb σ H1 _ (W.step s1) fun g u H2 d2 ⟨es, e2, hl, p⟩ s2 hu => by
  subst e e2
  obtain ⟨a, xs, rfl, n, hx, hd⟩ := (hv.keep s2.butS).ofL
  obtain ⟨c, ys, rfl, m, hy, hc⟩ := hu.ofL
  refine ⟨a, c, xs, ys, rfl, rfl, hx, hy, zq24x (by rw [hd.length, hc.length]; exact hl) (by decide), fun p' hp => EvN.fin (f := f && g) W (s1.trans s2) hp ?_ p z⟩
  exact IsDs.append (hd.av (S_mono (fun z => (zq26x _ _ ▸ z).1) fun _ z => z)) (hc.av (S_mono (fun z => (zq26x _ _ ▸ z).2) fun _ z => z))
end EvN
namespace Ev
theorem sl {tl th : TO} (h : Ev G ρ te fun f x => ∃ ds, x = .list ds /\ Ov G ρ tl fun lo => Ov G ρ th fun hi => Φ (f || scAll (cutA ds lo hi)) (.list (cutA ds lo hi))) : Ev G ρ (tSl (rSlL K) te tl th) Φ := (EvN.sl (Θ := fun f ds => Φ f (.list ds)) h).ev
theorem listOf (h : Ev G ρ te fun f x => ∃ ds, (x = .list ds \/ x = .tuple ds) /\ Φ (f || scAll ds) (.list ds)) : Ev G ρ (tCB (rListOf K) (tCons te tNil)) Φ := (EvN.listOf (Θ := fun f ds => Φ f (.list ds)) h).ev
theorem cat (h : Ev G ρ ta fun f x => ∃ ds, x = .list ds /\ Ev G ρ tb fun g y => ∃ es, y = .list es /\ ds.length + es.length <= 10000 /\ Φ ((f && g) || scAll (ds ++ es)) (.list (ds ++ es))) : Ev G ρ (tOp rCat ta tb) Φ := (EvN.cat (Θ := fun f ds => Φ f (.list ds)) h).ev
theorem lenOwn {a : Addr} (e : ρ[i]? = some (.own a f ds)) (h : Φ true (.int ds.length)) : Ev G ρ (tCB (rLen K) (tCons (tVar i) tNil)) Φ := fun nb σ H Q W z => by
 obtain ⟨x, e1, h1, h2, h3, xs, hx, hd⟩ := W.ok i _ e
 subst h1
 exact ⟨.ref a, e1, a, xs, rfl, .inl (.of hx), by rw [hd.length]; exact z true _ H _ h (.refl W.bag) (.int _)⟩
theorem min2 (h : Ev G ρ ta fun _ x => ∃ i, x = .int i /\ Ev G ρ tb fun _ y => ∃ j, y = .int j /\ Φ true (.int (if j < i then j else i))) : Ev G ρ (tCB rMin (tCons ta (tCons tb tNil))) Φ := fun nb σ H Q W z =>
 h nb σ H _ W fun f v H1 d ⟨i, e, q⟩ s1 hv => q nb σ H1 _ (W.step s1) fun g u H2 d2 ⟨j, e2, p⟩ s2 hu => by
  subst e e2
  exact ⟨i, j, by rw [hv.ofI, hu.ofI], z true _ H2 _ p (s1.trans s2) (.int _)⟩
theorem intB (h : Ev G ρ ta fun _ x => ∃ b, x = .bool b /\ Φ true (.int (if b then 1 else 0))) : Ev G ρ (tCB rInt (tCons ta tNil)) Φ := fun nb σ H Q W z =>
 h nb σ H _ W fun f v H1 d ⟨b, e, q⟩ s1 hv => by subst e; unfold IsD at hv; subst hv; exact .inr ⟨b, rfl, z true _ H1 _ q s1 (.int _)⟩
end Ev
abbrev DF := List PyData -> Pd -> Prop
def spD (n : Nat) (F : DF) : Sp := fun vs H Q _ => vs.length = n /\ ∃ (nb : Addr -> Prop) (ds : List PyData), Live nb H /\ IsDs nb H ds vs /\ F ds fun f d => ∀ v H', Same H H' -> IsD (fun a => nb a \/ (f = true /\ H a ≠ none)) H' d v -> Q v H'
def spB (n : Nat) (F : DF) : Sp := fun vs H Q _ => vs.length = n /\ ∃ (b l : Addr) (ws : List V) (nb : Addr -> Prop) (ds : List PyData), vs = .ref b :: ws /\ BagAt H b l /\ Live nb H /\ nb b /\ IsDs nb H ds ws /\
 F ds fun f d => ∀ v H', But (Nb b) H H' -> BagAt H' b l -> IsD (fun a => nb a \/ (f = true /\ H a ≠ none)) H' d v -> Q v H'
def MonoF (F : DF) : Prop := ∀ ds (Φ Ψ : Pd), F ds Φ -> (∀ f d, Φ f d -> Ψ f d) -> F ds Ψ
theorem Ev.callD {n : Nat} {F : DF} (hm : MonoF F) (h : Av G ρ t fun es => es.length = n /\ F (es.map (·.2)) fun f d => Φ (f || allF es) d) : Ev G ρ (tCall (spD n F) [] E0 t) Φ := fun nb σ H Q W z =>
 h nb σ H _ W fun es vs H1 ⟨hl, p⟩ s1 q1 => by
  have W1 := W.step s1
  rw [zq87x]
  refine ⟨by rw [q1.len, hl], G.S nb (allF es), es.map (·.2), W1.liveS, q1.all fun z => z, hm _ _ _ p fun f d hp v H' sm hd => z _ v H' d hp (s1.trans (.same W1.bag sm)) (hd.av fun a q => ?_)⟩
  cases f with
  | false => rw [zq102x] at q; exact .inl q
  | true => exact .inr ⟨rfl, W1.liveS a q⟩
theorem Step.ofBut {b l : Addr} {H H' : Hp} (hB : G.B = some (b, l)) (bt : But (Nb b) H H') (B' : BagAt H' b l) : Step G.B H H' :=
 ⟨fun a o n e => bt a o (n b l hB) e, fun b' l' e => by rw [hB] at e; cases e; exact B'⟩
theorem Wd.theBag {nb : Addr -> Prop} {σ : St} {H : Hp} (W : Wd G nb ρ σ H) (e : ρ[i]? = some .bag) : ∃ b l, G.B = some (b, l) /\ σ[i]? = some (some (.ref b)) /\ BagAt H b l := by
 obtain ⟨x, e1, b, l, hB, rfl⟩ := W.ok i _ e
 exact ⟨b, l, hB, e1, W.bag b l hB⟩
theorem Ev.callB {n : Nat} {F : DF} (hm : MonoF F) (e : ρ[i]? = some .bag) (h : Av G ρ t fun es => es.length + 1 = n /\ F (es.map (·.2)) fun f d => Φ (f || allF es) d) : Ev G ρ (tCall (spB n F) [] E0 (tCons (tVar i) t)) Φ := fun nb σ H Q W z => by
 obtain ⟨b, l, hB, e1, B⟩ := W.theBag e
 refine ⟨.ref b, e1, h nb σ H _ W fun es vs H1 ⟨hl, p⟩ s1 q1 => ?_⟩
 have W1 := W.step s1
 show spB n F ((V.ref b :: vs) ++ []) H1 Q E0
 rw [zq87x]
 have hb : ∀ f, G.S nb f b := fun f => .inr (.inr (.inl fun n => n b l hB rfl))
 refine ⟨by rw [zq67x, q1.len, hl], b, l, vs, G.S nb (allF es), es.map (·.2), rfl, W1.bag b l hB, W1.liveS, hb _, q1.all fun z => z, hm _ _ _ p fun f d hp v H' bt B' hd => z _ v H' d hp (s1.trans (.ofBut hB bt B')) (hd.av fun a q => ?_)⟩
 cases f with
 | false => rw [zq102x] at q; exact .inl q
 | true => exact .inr ⟨rfl, W1.liveS a q⟩
theorem Ev.draw (e : ρ[i]? = some .bag) (h : Ev G ρ te fun _ x => ∃ m : Int, x = .int m /\ 0 < m /\ Sm m /\ ∀ r : Int, 0 <= r -> r < m -> Φ true (.int r)) : Ev G ρ (tCall spDraw [] E0 (tCons (tVar i) (tCons te tNil))) Φ := fun nb σ H Q W z => by
 obtain ⟨b, l, hB, e1, B⟩ := W.theBag e
 refine ⟨.ref b, e1, h nb σ H _ W fun f v H1 d ⟨m, ed, h1, h2, p⟩ s1 hv => ?_⟩
 subst ed
 exact ⟨b, l, m, by rw [hv.ofI]; rfl, s1.2 b l hB, h1, h2, fun r H' r1 r2 bt B' => z true _ H' _ (p r r1 r2) (s1.trans (.ofBut hB bt B')) (.int r)⟩
theorem Ev.prime (e : ρ[i]? = some .bag) (h : ∀ p : Int, IsP p -> Φ true (.int p)) : Ev G ρ (tCall spPrime [] E0 (tCons (tVar i) tNil)) Φ := fun nb σ H Q W z => by
 obtain ⟨b, l, hB, e1, B⟩ := W.theBag e
 exact ⟨.ref b, e1, b, l, rfl, B, fun p H' hp bt B' => z true _ H' _ (h p hp) (.ofBut hB bt B') (.int p)⟩
theorem Ev.total (h : Av G ρ t fun es => ∃ (p : Int) (prs : List (Int × Int)) (wd : List (Option Int)), es.map (·.2) = [.int p, .list (prs.map pairD), .list (wd.map optD)] /\ 0 < p /\ (∀ pr ∈ prs, 0 <= pr.1 /\ pr.1 < wd.length /\ Sm pr.2) /\ (∀ x, some x ∈ wd -> Sm x) /\ Φ true (.int (dueSum prs wd % p))) :
  Ev G ρ (tCall spTotal [] E0 t) Φ := fun nb σ H Q W z =>
 h nb σ H _ W fun es vs H1 ⟨p, prs, wd, e, h1, h2, h3, q⟩ s1 q1 => by
  have hd := q1.all (f := false) (fun z => by cases z)
  rw [e] at hd
  unfold IsDs at hd
  obtain ⟨y, ys, rfl, d1, hd⟩ := hd
  unfold IsDs at hd
  obtain ⟨y2, ys, rfl, d2, hd⟩ := hd
  unfold IsDs at hd
  obtain ⟨y3, ys, rfl, d3, hd⟩ := hd
  unfold IsDs at hd
  subst hd
  exact ⟨G.S nb false, p, y2, y3, prs, wd, by rw [d1.ofI]; rfl, d2, d3, h1, h2, h3, z true _ H1 _ q s1 (.int _)⟩
theorem Ev.whole (h : Ev G ρ te fun _ x => ∃ n, x = .int n /\ Φ true (.bool true)) : Ev G ρ (tCall spWhole [] E0 (tCons te tNil)) Φ := fun nb σ H Q W z =>
 h nb σ H _ W fun f v H1 d ⟨n, e, q⟩ s1 hv => by subst e; exact ⟨n, by rw [hv.ofI]; rfl, z true _ H1 _ q s1 (.bl _)⟩
namespace Gv
variable {Θ : Rh -> Prop}
theorem name (h : Θ (ρ.set i (.d f d))) : Gv G ρ (gName i) f d Θ := fun nb σ H v Q W hv z => z _ _ h (W.setD hv)
theorem nameT (h : Θ (ρ.set i (.d true d))) : Gv G ρ (gName i) true d Θ := name h
theorem nameF (h : Θ (ρ.set i (.d false d))) : Gv G ρ (gName i) f d Θ := fun nb σ H v Q W hv z => z _ _ h (W.setD (hv.av (S_mono (fun z => by cases z) fun _ z => z)))
theorem nameS (hs : scB d = true) (h : Θ (ρ.set i (.d true d))) : Gv G ρ (gName i) f d Θ := fun nb σ H v Q W hv z => z _ _ h (W.setD (hv.scAny hs))
theorem nameI {n : Int} (h : Θ (ρ.set i (.d true (.int n)))) : Gv G ρ (gName i) f (.int n) Θ := nameS rfl h
theorem nameB {n : Bool} (h : Θ (ρ.set i (.d true (.bool n)))) : Gv G ρ (gName i) f (.bool n) Θ := nameS rfl h
theorem tup {n : Nat} {u : TGs} (hl : ds.length = n) (h : Gvs G ρ u f ds Θ) : Gv G ρ (gTup K n u) f (.tuple ds) Θ := fun nb σ H v Q W hv z => by
 obtain ⟨a, xs, rfl, m, hx, hd⟩ := hv.ofT
 exact ⟨a, xs, rfl, .of hx, by rw [hd.length]; exact hl, h nb σ H xs Q W hd z⟩
theorem snil (h : Θ ρ) : Gvs G ρ gNil f [] Θ := fun nb σ H vs Q W hv z => by unfold IsDs at hv; exact ⟨hv, z _ _ h W⟩
theorem scons {u : TG} {us : TGs} (h : Gv G ρ u f d fun ρ1 => Gvs G ρ1 us f ds Θ) : Gvs G ρ (gCons u us) f (d :: ds) Θ := fun nb σ H vs Q W hv z => by
 unfold IsDs at hv
 obtain ⟨y, ys, rfl, h1, h2⟩ := hv
 exact ⟨y, ys, rfl, h nb σ H y _ W h1 fun σ' ρ' q W' => q nb σ' H ys Q W' h2 z⟩
end Gv
namespace Sv
variable {E : DE} {s u : TS}
theorem seq (h : Sv G ρ s { E with nx := fun ρ1 => Sv G ρ1 u E }) : Sv G ρ (tSeq s u) E := fun nb σ H D W K => h nb σ H _ W ⟨fun nb' ρ' σ' H' q W' => q nb' σ' H' D W' K, K.bk, K.ct, K.rt, K.rw⟩
theorem next (h : E.nx ρ) : Sv G ρ tNext E := fun nb σ H D W K => K.nx nb ρ σ H h W
theorem brk (h : E.bk ρ) : Sv G ρ tBreak E := fun nb σ H D W K => K.bk nb ρ σ H h W
theorem cont (h : E.ct ρ) : Sv G ρ tCont E := fun nb σ H D W K => K.ct nb ρ σ H h W
theorem asg {g : TG} (h : Ev G ρ te fun f d => Gv G ρ g f d E.nx) : Sv G ρ (tAsg te g) E := fun nb σ H D W K => h nb σ H _ W fun f v H1 d q s1 hv => q nb σ H1 v _ (W.step s1) hv fun σ' ρ' p W' => K.nx nb ρ' σ' H1 p W'
theorem setCF (h : Ev G ρ te fun _ d => E.nx (ρ.set i (.d false d))) : Sv G ρ (tSetC i te) E := fun nb σ H D W K => h nb σ H _ W fun f v H1 d q s1 hv => K.nx nb _ _ H1 q ((W.step s1).setD (hv.av (S_mono (fun z => by cases z) fun _ z => z)))
theorem ret (h : Ev G ρ te E.rt) : Sv G ρ (tRet te) E := fun nb σ H D W K => h nb σ H _ W fun f v H1 d q s1 hv => K.rt nb ρ σ f v H1 d q (W.step s1) (hv.av (S_mono (fun z => z) fun _ z => z.elim))
theorem ifS {c : TT} (h : Tv G ρ c fun b => if b = true then Sv G ρ s E else Sv G ρ u E) : Sv G ρ (tIfS c s u) E := fun nb σ H D W K => h nb σ H _ W fun b H1 q s1 => by
 cases b with
 | true => rw [if_pos rfl] at q ⊢; exact q nb σ H1 D (W.step s1) K
 | false => rw [if_neg zq14x] at q ⊢; exact q nb σ H1 D (W.step s1) K
theorem own_of {nb : Addr -> Prop} {σ : St} {H H1 : Hp} {a : Addr} {xs : List V} (W : Wd G nb ρ σ H) (s1 : Step G.B H H1) (ha : H a = none) (e : H1 a = some (.lst xs)) (hd : IsDs (fun x => G.S nb f x \/ x = a) H1 ds xs) :
    Wd G (fun x => nb x \/ x = a) (ρ.set i (.own a f ds)) (σ.set i (some (.ref a))) H1 := by
  have hN : NB G.B a := fun b l e z => by
    subst z
    obtain ⟨_, _, _, _, _, h1, _⟩ := W.bag _ _ e
    rw [h1] at ha; cases ha
  have hA : ∀ f x, G.S (fun x => nb x \/ x = a) f x -> (G.S nb f x \/ x = a) := fun f x z => by
    rcases z with (z | z) | z | z | z
    · exact .inl (.inl z)
    · exact .inr z
    · exact .inl (.inr (.inl z))
    · exact .inl (.inr (.inr (.inl z)))
    · exact .inl (.inr (.inr (.inr z)))
  have W1 := W.step s1
  have W2 : Wd G (fun x => nb x \/ x = a) ρ σ H1 := by
    refine ⟨W1.bag, fun x n => ?_, W1.old, fun x n q => ?_, W.gA, W.len, W.gB, fun h m => (((W.hld h m).fresh ha).keep (s1.but fun x z => .inl (.inr (.inr (.inl z))))).av (hA h.1), fun j s e' => ?_, W.apart, W.apd, W.apc⟩
    · rcases n with n | n
      · exact W1.live x n
      · subst n; rw [e]; exact zq76x _
    · rcases n with n | n
      · exact W.nbo x n q
      · subst n
        cases z : G.H0 x with
        | none => rfl
        | some o => rw [W.old x o q z] at ha; cases ha
    · obtain ⟨x, e1, h⟩ := W.ok j s e'
      refine ⟨x, e1, ?_⟩
      cases s with
      | no => trivial
      | d f d => obtain ⟨v, e, h⟩ := h; exact ⟨v, e, ((h.fresh ha).keep (s1.but fun x z => .inl (.inr (.inr (.inl z))))).av (hA f)⟩
      | own c f es => obtain ⟨e, n, q, xs, hx, hd⟩ := h; exact ⟨e, .inl n, q, xs, s1.1 _ _ q hx, ((hd.fresh ha).keep (s1.but fun x z => .inl (.inr (.inr (.inl z))))).av (hA f)⟩
      | bag => exact h
      | raw v => exact h
      | dic c f es => obtain ⟨e, n, q, xs, hx, hd⟩ := h; exact ⟨e, .inl n, q, xs, s1.1 _ _ q hx, ((hd.fresh ha).keep (s1.but fun x z => .inl (.inr (.inr (.inl z))))).av (hA f)⟩
      | cu c =>
        obtain ⟨e, n, q⟩ := h
        refine ⟨e, fun a ha => ⟨.inl (n a ha).1, (n a ha).2⟩, c.av (hA c.f) (c.keep (.of fun x o hx e => s1.1 x o ?_ e) (c.fresh ha q))⟩
        rcases hx with hx | hx
        · exact zq77x fun z => hx (.inl (.inr (.inr (.inl z))))
        · exact (n x hx).2
  refine W2.set ⟨rfl, .inr rfl, hN, xs, e, hd.av (hA f)⟩ ?_ (fun _ _ _ z => by cases z) (fun x hx j t hj ht hc => ?_)
  rotate_left
  · have hx : x = a := zq16x.mp hx
    subst hx
    rcases hc with ⟨c, z⟩ | ⟨c, rfl⟩
    · cases z
    · exact fun z => W.live x ((W.ok j _ ht).choose_spec.2.2.1 x z).1 ha
  rintro a' f' ds' ⟨rfl, rfl, rfl⟩ j c g cs hj hc z
  subst z
  obtain ⟨x, e1, h1, h2, h3, ys, hy, _⟩ := W.ok j _ hc
  rw [hy] at ha; cases ha
theorem asgN (h : EvN G ρ te fun f ds => ∀ a, E.nx (ρ.set i (.own a f ds))) : Sv G ρ (tAsg te (gName i)) E := fun nb σ H D W K => h nb σ H _ W fun f a xs H1 ds q s1 ha e hd => K.nx _ _ _ H1 (q a) (own_of W s1 ha e hd)
theorem writeOwn {nb : Addr -> Prop} {σ : St} {H : Hp} {a : Addr} {xs : List V} (W : Wd G nb ρ σ H) (e : ρ[i]? = some (.own a f ds)) (hd : IsDs (G.S nb g) H es xs) : Wd G nb (ρ.set i (.own a g es)) σ (upd H a (.lst xs)) := by
  obtain ⟨x, e1, h1, h2, h3, ys, hy, _⟩ := W.ok i _ e
  subst h1
  have hil : i < ρ.length := (zq5x.mp e).1
  have W0 : Wd G nb (ρ.set i .no) (σ.set i (some (.ref a))) H := W.set trivial fun _ _ _ z => by cases z
  have W1 : Wd G nb (ρ.set i .no) (σ.set i (some (.ref a))) (upd H a (.lst xs)) := W0.write h2 h3 (fun j c f' cs hc => by
    by_cases hij : i = j
    · subst hij; rw [zq30x hil] at hc; cases hc
    · rw [zq19x hij] at hc
      exact (W.apart i j _ _ _ _ _ _ hij e hc).symm
   ) (fun j c f' cs hc z => by
      subst z
      have hij : i ≠ j := fun z => by subst z; rw [zq30x hil] at hc; cases hc
      rw [zq19x hij] at hc
      obtain ⟨_, _, _, _, _, ps, hp, _⟩ := W.ok j _ hc
      rw [hy] at hp; cases hp) (fun j c hc z => by
      have hij : i ≠ j := fun z => by subst z; rw [zq30x hil] at hc; cases hc
      rw [zq19x hij] at hc
      exact W.apc j i c _ (zq10x hij) hc e a z (zq16x.mpr rfl))
  have W2 := W1.set (i := i) (s := .own a g es) (x := some (.ref a)) ⟨rfl, h2, h3, xs, upd_same, hd.keep (But.set (.inl h2))⟩ (by
    rintro a' f' ds' ⟨rfl, rfl, rfl⟩ j c g' cs hj hc
    rw [zq19x (zq10x hj)] at hc
    exact W.apart i j _ _ _ _ _ _ (zq10x hj) e hc) (fun _ _ _ z => by cases z) (fun x hx j t hj ht hc z => by
    rw [zq19x (zq10x hj)] at ht
    have hx : x = a := zq16x.mp hx
    subst hx
    rcases hc with ⟨c, q⟩ | ⟨c, rfl⟩
    · cases q
    · exact W.apc j i c _ hj ht e x z (zq16x.mpr rfl))
  rw [zq120x, zq120x] at W2
  have : σ.set i (some (.ref a)) = σ := by
    apply zq35x
    intro j
    by_cases hij : i = j
    · subst hij; rw [zq30x (by rw [W.len]; exact hil), e1]
    · rw [zq19x hij]
  rwa [this] at W2
theorem append {a : Addr} (e : ρ[i]? = some (.own a f ds)) (h : Ev G ρ te fun g d => ds.length < 10000 /\ E.nx (ρ.set i (.own a (f && g) (ds ++ [d])))) : Sv G ρ (tDrop (tBM K "list" rAppend (tVar i) (tCons te tNil))) E := fun nb σ H D W KK => by
 obtain ⟨x, e1, h1, h2, h3, xs, hx, hd⟩ := W.ok i _ e
 subst h1
 refine ⟨.ref a, e1, .inl ⟨rfl, _, SqL.of hx⟩, h nb σ H _ W fun g v H1 d ⟨hl, q⟩ s1 hv => ?_⟩
 have W1 := W.step s1
 have hx1 := s1.1 _ _ h3 hx
 refine ⟨a, xs, v, rfl, rfl, hx1, zq23x (by rw [hd.length]; exact hl) (by decide), KK.nx nb _ _ _ q (writeOwn W1 e ?_)⟩
 exact IsDs.snoc (hv.av (S_mono (fun z => (zq26x _ _ ▸ z).2) fun _ z => z)) ((hd.keep s1.butS).av (S_mono (fun z => (zq26x _ _ ▸ z).1) fun _ z => z))
theorem share {nb : Addr -> Prop} {σ : St} {H : Hp} {a : Addr} (W : Wd G nb ρ σ H) (e : ρ[i]? = some (.own a f ds)) : Wd G (fun x => nb x /\ x ≠ a) (ρ.set i (.d f (.list ds))) σ H := by
  obtain ⟨x, e1, h1, h2, h3, xs, hx, hd⟩ := W.ok i _ e
  subst h1
  have hil : i < ρ.length := (zq5x.mp e).1
  have W0 : Wd G nb (ρ.set i .no) (σ.set i (some (.ref a))) H := W.set trivial fun _ _ _ z => by cases z
  have W1 : Wd G (fun x => nb x /\ x ≠ a) (ρ.set i .no) (σ.set i (some (.ref a))) H := by
    refine ⟨W0.bag, fun x n => W0.live x n.1, W0.old, fun x n => W0.nbo x n.1, W0.gA, W0.len, W0.gB, fun h m => (W0.hld h m).av (S_mono (fun z => z) fun _ z => z.1), fun j s e' => ?_, W0.apart, W0.apd, W0.apc⟩
    obtain ⟨x, e1', h⟩ := W0.ok j s e'
    refine ⟨x, e1', ?_⟩
    have hij : s ≠ .no -> i ≠ j := fun n z => by subst z; rw [zq30x hil] at e'; cases e'; exact n rfl
    cases s with
    | no => trivial
    | d f d => obtain ⟨v, e, h⟩ := h; exact ⟨v, e, h.av (S_mono (fun z => z) fun _ z => z.1)⟩
    | own c f es =>
      obtain ⟨e2, n, q, xs, hx, hd⟩ := h
      have hij := hij (by intro z; cases z)
      rw [zq19x hij] at e'
      exact ⟨e2, ⟨n, (W.apart i j _ _ _ _ _ _ hij e e').symm⟩, q, xs, hx, hd.av (S_mono (fun z => z) fun _ z => z.1)⟩
    | bag => exact h
    | raw v => exact h
    | dic c f es =>
      obtain ⟨e2, n, q, ps, hp, hd⟩ := h
      have hca : c ≠ a := fun z => by subst z; rw [hx] at hp; cases hp
      exact ⟨e2, ⟨n, hca⟩, q, ps, hp, hd.av (S_mono (fun z => z) fun _ z => z.1)⟩
    | cu c =>
      obtain ⟨e2, n, q⟩ := h
      have hij := hij (by intro z; cases z)
      rw [zq19x hij] at e'
      exact ⟨e2, fun x hx => ⟨⟨(n x hx).1, fun z => W.apc j i c _ (zq10x hij) e' e x hx (by rw [z]; exact zq16x.mpr rfl)⟩, (n x hx).2⟩, c.av (S_mono (fun z => z) fun _ z => z.1) q⟩
  have W2 := W1.setD (i := i) (f := f) (d := .list ds) (v := .ref a) (.lst (fun z => by
    rcases z with z | z | z | z
    · exact z.2 rfl
    · exact W.gA a z (W.nbo a h2 h3)
    · exact z h3
    · exact z.2 (W.nbo a h2 h3)) hx (hd.av (S_mono (fun z => z) fun _ z => z.1)))
  rw [zq120x, zq120x] at W2
  have : σ.set i (some (.ref a)) = σ := by
    apply zq35x
    intro j
    by_cases hij : i = j
    · subst hij; rw [zq30x (by rw [W.len]; exact hil), e1]
    · rw [zq19x hij]
  rwa [this] at W2
theorem demote {a : Addr} (i : Nat) (e : ρ[i]? = some (.own a f ds)) (h : Sv G (ρ.set i (.d f (.list ds))) s E) : Sv G ρ s E := fun nb σ H D W K => h _ σ H D (share W e) K
theorem wk {ρ' : Rh} (w : Wk ρ' ρ) (h : Sv G ρ' s E) : Sv G ρ s E := fun nb σ H D W K => h nb σ H D (W.wk w) K
end Sv
end
end L2
set_option maxRecDepth 100000
set_option maxHeartbeats 1000000
namespace L2
open PySem PySem.Spec PyProof.Rows
abbrev Gx.hd (G : Gx) (f : Bool) (d : PyData) (v : V) : Gx := { G with hold := (f, .d d, v) :: G.hold }
section
variable {G : Gx} {ρ ρc : Rh} {Φ Ψ : Pd} {ta tb te : TE} {t : TA} {i : Nat} {f g : Bool} {d e : PyData} {ds es : List PyData} {K : PySem.W.Frag}
theorem Wd.hd {nb : Addr -> Prop} {σ : St} {H : Hp} {v : V} (W : Wd G nb ρ σ H) (h : IsD (G.S nb f) H d v) : Wd (G.hd f d v) nb ρ σ H :=
 ⟨W.bag, W.live, W.old, W.nbo, W.gA, W.len, W.gB, fun x m => by
  rcases zq17x.mp m with e | m
  ·subst e; exact h
  ·exact W.hld x m, fun i s e => by
   obtain ⟨x, e1, h⟩ := W.ok i s e
   refine ⟨x, e1, ?_⟩
   cases s <;> exact h, W.apart, W.apd, W.apc⟩
theorem Wd.unhd {nb : Addr -> Prop} {σ : St} {H : Hp} {v : V} (W : Wd (G.hd f d v) nb ρ σ H) : Wd G nb ρ σ H /\ IsD (G.S nb f) H d v :=
 ⟨⟨W.bag, W.live, W.old, W.nbo, W.gA, W.len, W.gB, fun x m => W.hld x (zq25x _ m), fun i s e => by
   obtain ⟨x, e1, h⟩ := W.ok i s e
   refine ⟨x, e1, ?_⟩
   cases s <;> exact h, W.apart, W.apd, W.apc⟩, W.hld _ (zq22x ..)⟩
namespace Sv
variable {E : DE} {s : TS} {gt : TG}
def Turns (G : Gx) (ρ : Rh) (n : Nat) (it : Nat -> PyData -> Prop) (fi : Bool) (gt : TG) (s : TS) (E : DE) : Prop :=
 ∃ I : Nat -> Rh -> Prop, I 0 ρ /\ (∀ i d ρ', it i d -> I i ρ' -> Gv G ρ' gt fi d fun ρ2 => Sv G ρ2 s { nx := I (i + 1), rt := E.rt, bk := E.nx, ct := I (i + 1), rw := E.rw }) /\ ∀ ρ', I n ρ' -> E.nx ρ'
theorem loopR {lo : Int} {n : Nat} {nb : Addr -> Prop} {σ : St} {H : Hp} {D : Ends} (W : Wd G nb ρ σ H) (KK : EndsOk G E D) (h : Turns G ρ n (fun i d => i < n /\ d = .int (lo + i)) true gt s E) :
  ∃ W : Nat -> Nat -> St -> Hp -> Prop, (∃ m, W 0 m σ H) /\ ∀ i m σ H, W i m σ H ->
   ((Itr lo n).stop i H /\ D.nx σ H) \/ ((Itr lo n).go i H /\ ∃ N : St -> Hp -> Prop, (∀ σ' H', N σ' H' -> ∃ m', m' < m /\ W (i + 1) m' σ' H') /\ ∀ x H', (Itr lo n).yld i H x H' -> gt x σ H' fun σ2 H2 => s { D with nx := N, ct := N, bk := D.nx } σ2 H2) := by
 obtain ⟨I, h0, ht, he⟩ := h
 refine for_range (fun i σ H => ∃ nb ρ', I i ρ' /\ Wd G nb ρ' σ H) ⟨nb, ρ, h0, W⟩ ?_ ?_
 ·rintro i σ H hi ⟨nb, ρ', hI, W⟩
  refine ht i _ ρ' ⟨hi, rfl⟩ hI nb σ H _ _ W (.int _) fun σ2 ρ2 q W2 => q nb σ2 H _ W2 ?_
  exact ⟨fun nb ρ σ H q W => ⟨nb, ρ, q, W⟩, KK.nx, fun nb ρ σ H q W => ⟨nb, ρ, q, W⟩, KK.rt, KK.rw⟩
 ·rintro σ H ⟨nb, ρ', hI, W⟩
  exact KK.nx nb ρ' σ H (he ρ' hI) W
theorem forR1 (h : Ev G ρ te fun _ x => ∃ n : Int, x = .int n /\ -(2 ^ 62) <= n /\ n < 2 ^ 62 /\ Turns G ρ n.toNat (fun i d => i < n.toNat /\ d = .int (0 + i)) true gt s E) : Sv G ρ (tFor (iRng1 (tCons te tNil)) gt s) E := fun nb σ H D W KK =>
 h nb σ H _ W fun f v H1 x ⟨n, ex, h1, h2, q⟩ s1 hv => by
  subst ex
  rw [hv.ofI]
  exact ⟨n, rfl, h1, h2, loopR (W.step s1) KK q⟩
theorem forR2 (h : Ev G ρ ta fun _ x => ∃ m : Int, x = .int m /\ Ev G ρ tb fun _ y => ∃ n : Int, y = .int n /\ (-(2 ^ 62) <= m /\ m < 2 ^ 62 /\ -(2 ^ 62) <= n /\ n < 2 ^ 62) /\ Turns G ρ (n - m).toNat (fun i d => i < (n - m).toNat /\ d = .int (m + i)) true gt s E) : Sv G ρ (tFor (iRng2 (tCons ta (tCons tb tNil))) gt s) E := fun nb σ H D W KK =>
 h nb σ H _ W fun f v H1 x ⟨m, ex, q⟩ s1 hv => q nb σ H1 _ (W.step s1) fun f' u H2 y ⟨n, ey, hb, q⟩ s2 hu => by
  subst ex ey
  rw [hv.ofI, hu.ofI]
  exact ⟨m, n, rfl, hb, loopR ((W.step s1).step s2) KK q⟩
theorem forL (h : Ev G ρ te fun f x => ∃ ds, x = .list ds /\ ∀ v, Turns (G.hd f (.list ds) v) ρ ds.length (fun i d => ds[i]? = some d) f gt s E) : Sv G ρ (tFor (iList K te) gt s) E := fun nb σ H D W KK =>
 h nb σ H _ W fun f v H1 x ⟨ds, ex, q⟩ s1 hv => by
  subst ex
  obtain ⟨I, h0, ht, he⟩ := q v
  have W1 := (W.step s1).hd hv
  obtain ⟨a, xs, rfl, n, hx, hd⟩ := hv.ofL
  have key : ∀ {nb ρ' σ H}, Wd (G.hd f (.list ds) (.ref a)) nb ρ' σ H -> ∃ xs, H a = some (.lst xs) /\ IsDs (G.S nb f) H ds xs := fun W => by
   obtain ⟨a', xs', e', _, h', d'⟩ := W.unhd.2.ofL
   cases e'
   exact ⟨xs', h', d'⟩
  refine ⟨a, rfl, ⟨xs, .of hx⟩, ?_⟩
  refine ⟨fun i m σ H => m = ds.length - i /\ i <= ds.length /\ ∃ nb ρ', I i ρ' /\ Wd (G.hd f (.list ds) (.ref a)) nb ρ' σ H, ⟨ds.length, by simp, zq45x _, nb, ρ, h0, W1⟩, ?_⟩
  rintro i m σ H ⟨rfl, hi, nb, ρ', hI, W⟩
  obtain ⟨ys, hy, hD⟩ := key W
  have hl := hD.length
  by_cases hlt : i < ds.length
  ·refine .inr ⟨⟨ys, ys[i]'(by omega), .of hy, zq1x _⟩, fun σ H => ∃ nb ρ', I (i + 1) ρ' /\ Wd (G.hd f (.list ds) (.ref a)) nb ρ' σ H, fun σ' H' q => ⟨ds.length - (i + 1), by omega, rfl, hlt, q⟩, fun x H' y => ?_⟩
   obtain ⟨e, y⟩ := y
   subst e
   have hx := y ys (.of hy)
   obtain ⟨x', hx', dx⟩ := hD.get (zq1x hlt)
   rw [hx] at hx'; cases hx'
   refine ht i _ ρ' (zq1x hlt) hI nb σ _ _ _ W dx fun σ2 ρ2 q W2 => q nb σ2 _ _ W2 ?_
   exact ⟨fun nb ρ σ H q W => ⟨nb, ρ, q, W⟩, fun nb ρ σ H q W => KK.nx nb ρ σ H q W.unhd.1, fun nb ρ σ H q W => ⟨nb, ρ, q, W⟩, fun nb ρ σ f v H d q W hv => KK.rt nb ρ σ f v H d q W.unhd.1 hv, fun nb ρ σ v H q W => KK.rw nb ρ σ v H q W.unhd.1⟩
  ·have e : i = ds.length := by omega
   subst e
   exact .inl ⟨⟨ys, .of hy, by omega⟩, KK.nx nb ρ' σ H (he ρ' hI) W.unhd.1⟩
theorem while_ {c : TT} (I : Rh -> Prop) (μ : Rh -> Nat) (h0 : I ρ) (h : ∀ ρ', I ρ' -> Tv G ρ' c fun b => if b = true then Sv G ρ' s { nx := fun ρ2 => I ρ2 /\ μ ρ2 < μ ρ', rt := E.rt, bk := E.nx, ct := fun ρ2 => I ρ2 /\ μ ρ2 < μ ρ', rw := E.rw } else E.nx ρ') : Sv G ρ (tWhile c s) E := fun nb σ H D W KK => by
  refine ⟨fun m σ H => ∃ nb ρ', I ρ' /\ Wd G nb ρ' σ H /\ m = μ ρ', ⟨_, nb, ρ, h0, W, rfl⟩, ?_⟩
  rintro m σ H ⟨nb, ρ', hI, W, rfl⟩
  refine h ρ' hI nb σ H _ W fun b H1 q s1 => ?_
  cases b with
  | true =>
    rw [if_pos rfl] at q ⊢
    refine ⟨fun σ' H' => ∃ nb ρ2, (I ρ2 /\ μ ρ2 < μ ρ') /\ Wd G nb ρ2 σ' H', fun σ' H' ⟨nb, ρ2, ⟨q1, q2⟩, W2⟩ => ⟨μ ρ2, q2, nb, ρ2, q1, W2, rfl⟩, q nb σ H1 _ (W.step s1) ?_⟩
    exact ⟨fun nb ρ σ H q W => ⟨nb, ρ, q, W⟩, KK.nx, fun nb ρ σ H q W => ⟨nb, ρ, q, W⟩, KK.rt, KK.rw⟩
  | false => rw [if_neg zq14x] at q ⊢; exact KK.nx nb ρ' σ H1 q (W.step s1)
end Sv
def startR (mp : List (Option Nat)) (ρ : Rh) : Rh := mp.map fun o => match o with | none => .no | some j => match ρ[j]? with | some s => s | none => .no
theorem mp_inj {mp : List (Option Nat)} (h : (mp.filterMap id).Nodup) : ∀ {i j k : Nat}, mp[i]? = some (some k) -> mp[j]? = some (some k) -> i = j := by
  induction mp with
  | nil => intro i j k e; simp at e
  | cons o r ih =>
    intro i j k e1 e2
    have hr : (r.filterMap id).Nodup := by
      cases o with
      | none => simpa using h
      | some x => rw [zq177x (by rfl)] at h; exact (zq65x.mp h).2
    have hn : ∀ {m : Nat}, r[m]? = some (some k) -> o ≠ some k := fun {m} hm e => by
      subst e
      rw [zq177x (by rfl)] at h
      exact (zq65x.mp h).1 (zq139x.mpr ⟨some k, zq4x hm, rfl⟩)
    cases i with
    | zero =>
      cases j with
      | zero => rfl
      | succ j => simp at e1 e2; exact absurd e1 (hn e2)
    | succ i =>
      cases j with
      | zero => simp at e1 e2; exact absurd e2 (hn e1)
      | succ j => simp at e1 e2; rw [ih hr e1 e2]
theorem Wd.startC {nb : Addr -> Prop} {σ : St} {H : Hp} {mp : List (Option Nat)} (W : Wd G nb ρ σ H) (hm : (mp.filterMap id).Nodup) : Wd G nb (startR mp ρ) (startC mp σ) H := by
  have hat : ∀ {i : Nat} {s : Sl}, (startR mp ρ)[i]? = some s -> s = .no \/ ∃ k, mp[i]? = some (some k) /\ ρ[k]? = some s := fun {i s} e => by
    unfold startR at e
    rw [zq2x] at e
    obtain ⟨o, ho, e⟩ := zq42x.mp e
    cases o with
    | none => exact .inl e.symm
    | some k =>
      cases hk : ρ[k]? with
      | none => simp only [hk] at e; exact .inl e.symm
      | some s' => simp only [hk] at e; subst e; exact .inr ⟨k, ho, hk⟩
  refine ⟨W.bag, W.live, W.old, W.nbo, W.gA, by unfold L2.startC startR; rw [zq0x, zq0x], W.gB, W.hld, fun i s e => ?_, fun i j a f as c g cs hij e1 e2 => ?_, fun i j a f as c g cs hij e1 e2 => ?_, fun i j c t hij e1 e2 a ha => ?_⟩
  · have hi : i < mp.length := by have := (zq5x.mp e).1; unfold startR at this; rwa [zq0x] at this
    rcases hat e with rfl | ⟨k, hk, hs⟩
    · exact ⟨_, by unfold L2.startC; rw [zq2x, zq1x hi]; rfl, trivial⟩
    · obtain ⟨x, e1, h⟩ := W.ok k s hs
      refine ⟨x, ?_, h⟩
      unfold L2.startC
      rw [zq2x, hk]
      simp only [zq103x, e1]
  · rcases hat e1 with z | ⟨k, hk, hs⟩
    · cases z
    rcases hat e2 with z | ⟨k', hk', hs'⟩
    · cases z
    exact W.apart k k' a f as c g cs (fun z => by subst z; exact hij (mp_inj hm hk hk')) hs hs'
  · rcases hat e1 with z | ⟨k, hk, hs⟩
    · cases z
    rcases hat e2 with z | ⟨k', hk', hs'⟩
    · cases z
    exact W.apd k k' a f as c g cs (fun z => by subst z; exact hij (mp_inj hm hk hk')) hs hs'
  · rcases hat e1 with z | ⟨k, hk, hs⟩
    · cases z
    rcases hat e2 with z | ⟨k', hk', hs'⟩
    · subst z; exact fun z => by cases z
    exact W.apc k k' c t (fun z => by subst z; exact hij (mp_inj hm hk hk')) hs hs' a ha
def NoOwn (ρ : Rh) (acc : Addr) : Prop := (∀ (j : Nat) a f ds, ρ[j]? = some (.own a f ds) -> a ≠ acc) /\ ∀ (j : Nat) c, ρ[j]? = some (.cu c) -> acc ∉ c.F
def CompD (G : Gx) (ρc : Rh) (n : Nat) (it : Nat -> PyData -> Prop) (fi : Bool) (gt : TG) (tc : TT) (te : TE) (Θ : Bool -> List PyData -> Prop) : Prop :=
 ∃ (fl : Bool) (I : Nat -> List PyData -> Prop), I 0 [] /\ (∀ i d ds, it i d -> ds.length <= i -> I i ds -> Gv G ρc gt fi d fun ρ1 => Wk ρc ρ1 /\ Tv G ρ1 tc fun b => if b = true then Ev G ρ1 te fun f e => (fl = true -> f = true) /\ I (i + 1) (ds ++ [e]) else I (i + 1) ds) /\
  ∀ ds, ds.length <= n -> I n ds -> Θ (fl || scAll ds) ds
theorem comp_turn {gt : TG} {tc : TT} {nb : Addr -> Prop} {acc : Addr} {σ : St} {H H1 : Hp} {x : V} {fi fl : Bool} {I : Nat -> List PyData -> Prop} {xs : List V} {N : St -> Hp -> Prop} {ds : List PyData} {n : Nat} (hn : n <= 10000) (hi : i < n)
    (W : Wd G nb ρc σ H) (ha : nb acc) (hN : NB G.B acc) (hno : NoOwn ρc acc) (st : Step G.B H1 H) (hacc : H1 acc = none) (hx : H acc = some (.lst xs)) (hd : IsDs (G.S nb fl) H ds xs) (hl : ds.length <= i) (hxd : IsD (G.S nb fi) H d x)
    (h : Gv G ρc gt fi d fun ρ1 => Wk ρc ρ1 /\ Tv G ρ1 tc fun b => if b = true then Ev G ρ1 te fun f e => (fl = true -> f = true) /\ I (i + 1) (ds ++ [e]) else I (i + 1) ds)
    (z : ∀ σ' H' ds' xs', Wd G nb ρc σ' H' -> Step G.B H1 H' -> H' acc = some (.lst xs') -> IsDs (G.S nb fl) H' ds' xs' -> ds'.length <= i + 1 -> I (i + 1) ds' -> N σ' H') :
    gt x σ H fun σ2 H2 => tc σ2 H2 fun b H3 => if b = true then te σ2 H3 fun v H4 => ∃ ys, H4 acc = some (.lst ys) /\ ys.length < sizeLine /\ N σ2 (upd H4 acc (.lst (ys ++ [v]))) else N σ2 H3 := by
  refine h nb σ H x _ W hxd fun σ2 ρ1 ⟨wk, q⟩ W2 => q nb σ2 H _ W2 fun b H3 q3 s3 => ?_
  have hx3 := s3.1 _ _ hN hx
  have hd3 := hd.keep (s3.butS (nb := nb) (f := fl))
  cases b with
  | false =>
    rw [if_neg zq14x] at q3 ⊢
    exact z σ2 H3 ds xs ((W2.step s3).wk wk) (st.trans s3) hx3 hd3 (by omega) q3
  | true =>
    rw [if_pos rfl] at q3 ⊢
    refine q3 nb σ2 H3 _ (W2.step s3) fun f v H4 e ⟨hf, hI⟩ s4 hv => ?_
    have hx4 := s4.1 _ _ hN hx3
    have hd4 := hd3.keep (s4.butS (nb := nb) (f := fl))
    have hlen := hd.length
    refine ⟨xs, hx4, zq23x (show xs.length < 10001 by omega) (by decide), ?_⟩
    have W4 : Wd G nb ρc σ2 H4 := ((W2.step s3).step s4).wk wk
    have bt : But (G.S nb fl) H4 (upd H4 acc (.lst (xs ++ [v]))) := But.set (.inl ha)
    have W5 : Wd G nb ρc σ2 (upd H4 acc (.lst (xs ++ [v]))) := W4.write ha hN hno.1 (fun j a f ds e z => by
      subst z
      obtain ⟨_, _, _, _, _, ps, hp, _⟩ := W4.ok j _ e
      rw [hx4] at hp; cases hp) hno.2
    refine z σ2 _ (ds ++ [e]) (xs ++ [v]) W5 ⟨fun a o n q => ?_, W5.bag⟩ upd_same (IsDs.snoc ((hv.av (S_mono hf fun _ z => z)).keep bt) (hd4.keep bt)) (by rw [zq20x, zq41x]; omega) hI
    have hne : a ≠ acc := fun z => by subst z; rw [hacc] at q; cases q
    rw [upd_ne hne]
    exact (st.trans (s3.trans s4)).1 a o n q
theorem no_own {nb : Addr -> Prop} {σ : St} {H : Hp} {a : Addr} (W : Wd G nb ρ σ H) (ha : H a = none) : NoOwn ρ a := by
 refine ⟨fun j c f ds e z => ?_, fun j c e z => ?_⟩
 ·subst z
  obtain ⟨x, e1, h1, h2, h3, ys, hy, _⟩ := W.ok j _ e
  rw [hy] at ha; cases ha
 ·obtain ⟨x, e1, h1, h2, h3⟩ := W.ok j _ e
  exact W.live a (h2 a z).1 ha
theorem hA_more {nb : Addr -> Prop} {a : Addr} {f : Bool} : ∀ x, (G.S nb f x \/ x = a) -> G.S (fun x => nb x \/ x = a) f x := fun x z => by
 rcases z with (z | z | z | z) | z
 ·exact .inl (.inl z)
 ·exact .inr (.inl z)
 ·exact .inr (.inr (.inl z))
 ·exact .inr (.inr (.inr z))
 ·exact .inl (.inr z)
theorem comp_end {nb : Addr -> Prop} {acc : Addr} {H H1 H' : Hp} {σ : St} {Q : VK} {Θ : Bool -> List PyData -> Prop} {xs : List V} {ds : List PyData} {fl : Bool} (W : Wd G nb ρ σ H) (s1 : Step G.B H H1) (hacc : H1 acc = none) (s2 : Step G.B H1 H') (hx : H' acc = some (.lst xs)) (hd : IsDs (G.S (fun x => nb x \/ x = acc) fl) H' ds xs) (p : Θ (fl || scAll ds) ds)
  (z : ∀ f a xs H' ds, Θ f ds -> Step G.B H H' -> H a = none -> H' a = some (.lst xs) -> IsDs (fun x => G.S nb f x \/ x = a) H' ds xs -> Q (.ref a) H') : Q (.ref acc) H' := by
 refine z _ acc xs H' ds p (s1.trans s2) (W.none_of s1 hacc) hx ?_
 cases hs : scAll ds with
 | true => exact IsDs.scAny hs hd
 | false => rw [zq90x]; exact hd.av hA_more
theorem NB.new {B : Bg} {H : Hp} {a : Addr} (h : BagOk B H) (ha : H a = none) : NB B a := zq77x fun z => NB.bag_live h z ha
namespace EvN
variable {Θ : Bool -> List PyData -> Prop} {gt : TG} {tc : TT} {mp : List (Option Nat)}
theorem compR {lo : Int} {n : Nat} {nb : Addr -> Prop} {σ : St} {H H1 : Hp} {Q : VK} (W : Wd G nb ρ σ H) (s1 : Step G.B H H1) (hm : (mp.filterMap id).Nodup) (hρ : startR mp ρ = ρc) (hn : n <= 10000) (h : CompD G ρc n (fun i d => i < n /\ d = .int (lo + i)) true gt tc te Θ)
  (z : ∀ f a xs H' ds, Θ f ds -> Step G.B H H' -> H a = none -> H' a = some (.lst xs) -> IsDs (fun x => G.S nb f x \/ x = a) H' ds xs -> Q (.ref a) H') (acc : Addr) (hacc : H1 acc = none) : CompW (Itr lo n) gt tc te acc (fun H' => Q (.ref acc) H') (startC mp σ) (upd H1 acc (.lst [])) := by
 obtain ⟨fl, I, h0, ht, he⟩ := h
 have W0 : Wd G nb ρc (L2.startC mp σ) H1 := by rw [<- hρ]; exact (W.step s1).startC hm
 have W1 := W0.more hacc (o := .lst [])
 have hN := NB.new s1.2 hacc
 have hno := no_own W0 hacc
 have st0 : Step G.B H1 (upd H1 acc (.lst [])) := .same s1.2 (same_new hacc)
 refine R.comp_range (fun i σ H => ∃ ds xs, Wd G (fun x => nb x \/ x = acc) ρc σ H /\ Step G.B H1 H /\ H acc = some (.lst xs) /\ IsDs (G.S (fun x => nb x \/ x = acc) fl) H ds xs /\ ds.length <= i /\ I i ds) ⟨[], [], W1, st0, upd_same, .nil, zq3x _, h0⟩ ?_ ?_
 ·rintro i σ H hi ⟨ds, xs, W, st, hx, hd, hl, hI⟩
  exact comp_turn hn hi W (.inr rfl) hN hno st hacc hx hd hl (.int _) (ht i _ ds ⟨hi, rfl⟩ hl hI) fun σ' H' ds' xs' W' st' hx' hd' hl' hI' => ⟨ds', xs', W', st', hx', hd', hl', hI'⟩
 ·rintro σ H' ⟨ds, xs, W', st, hx, hd, hl, hI⟩
  exact comp_end W s1 hacc st hx hd (he ds hl hI) z
theorem compR1 {t0 : TE} (hm : (mp.filterMap id).Nodup) (hρ : startR mp ρ = ρc) (h : Ev G ρ t0 fun _ x => ∃ n : Int, x = .int n /\ -10000 <= n /\ n <= 10000 /\ CompD G ρc n.toNat (fun i d => i < n.toNat /\ d = .int (0 + i)) true gt tc te Θ) : EvN G ρ (tComp (iRng1 (tCons t0 tNil)) gt tc te mp) Θ := fun nb σ H Q W z =>
 h nb σ H _ W fun f v H1 x ⟨n, ex, h1, h2, q⟩ s1 hv => by
  subst ex
  rw [hv.ofI]
  exact ⟨n, rfl, by omega, by omega, compR W s1 hm hρ (by omega) q z⟩
theorem compL {t0 : TE} (hm : (mp.filterMap id).Nodup) (hρ : startR mp ρ = ρc) (h : Ev G ρ t0 fun fi x => ∃ es, x = .list es /\ es.length <= 10000 /\ ∀ v, CompD (G.hd fi (.list es) v) ρc es.length (fun i d => es[i]? = some d) fi gt tc te Θ) : EvN G ρ (tComp (iList K t0) gt tc te mp) Θ := fun nb σ H Q W z =>
 h nb σ H _ W fun fi v H1 x ⟨es, ex, hn, q⟩ s1 hv => by
  subst ex
  obtain ⟨fl, I, h0, ht, he⟩ := q v
  have W0 := (W.step s1).hd hv
  obtain ⟨a, xs, rfl, n, hx, hd⟩ := hv.ofL
  refine ⟨a, rfl, ⟨xs, .of hx⟩, fun acc hacc => ?_⟩
  have W0' : Wd (G.hd fi (.list es) (.ref a)) nb ρc (L2.startC mp σ) H1 := by rw [<- hρ]; exact W0.startC hm
  have W1 := W0'.more hacc (o := .lst [])
  have hN := NB.new s1.2 hacc
  have hno := no_own W0' hacc
  have st0 : Step G.B H1 (upd H1 acc (.lst [])) := .same s1.2 (same_new hacc)
  have hNa : NB G.B a := zq77x fun z => n (.inr (.inr (.inl z)))
  refine R.comp_list (xs := xs) (fun i σ H => ∃ ds ys, Wd (G.hd fi (.list es) (.ref a)) (fun x => nb x \/ x = acc) ρc σ H /\ Step G.B H1 H /\ H acc = some (.lst ys) /\ IsDs (G.S (fun x => nb x \/ x = acc) fl) H ds ys /\ ds.length <= i /\ I i ds) ⟨[], [], W1, st0, upd_same, .nil, zq3x _, h0⟩ ?_ ?_ ?_
  ·rintro i σ H hi ⟨ds, ys, W, st, _⟩
   exact .of (st.1 _ _ hNa hx)
  ·rintro i x σ H hi ⟨ds, ys, W, st, hy, hd', hl, hI⟩
   obtain ⟨a', xs', e', _, h', d'⟩ := W.unhd.2.ofL
   cases e'
   rw [st.1 _ _ hNa hx] at h'; cases h'
   have hil : i < es.length := by have := (zq5x.mp hi).1; have := d'.length; omega
   obtain ⟨x', hx', dx⟩ := d'.get (zq1x hil)
   rw [hi] at hx'; cases hx'
   exact comp_turn (G := G.hd fi (.list es) (.ref a)) hn hil W (.inr rfl) hN hno st hacc hy hd' hl dx (ht i _ ds (zq1x hil) hl hI) fun σ' H' ds' xs' W' st' hx' hd' hl' hI' => ⟨ds', xs', W', st', hx', hd', hl', hI'⟩
  ·rintro σ H' ⟨ds, ys, W', st, hy, hd', hl, hI⟩
   rw [hd.length] at hl hI
   exact comp_end W s1 hacc st hy hd' (he ds hl hI) z
end EvN
end
end L2
set_option maxRecDepth 100000
set_option maxHeartbeats 1000000
namespace L2
open PySem PySem.Spec PyProof.Rows
section
variable {ρ : Rh} {t : TS} {N : List Str} {vs : List V} {ds : List PyData} {nb : Addr -> Prop} {H : Hp} {Q : VK} {Φ : Pd} {b l : Addr}
theorem isDs_at {xs : List V} (h : IsDs nb H ds xs) {i : Nat} {s : Sl} (e : (ds.map (Sl.d false))[i]? = some s) : ∃ v d, xs[i]? = some v /\ s = .d false d /\ IsD nb H d v := by
 rw [zq2x] at e
 obtain ⟨d, hd, e⟩ := zq42x.mp e
 obtain ⟨v, hv, q⟩ := h.get hd
 exact ⟨v, d, hv, e.symm, q⟩
theorem Sv.enterD (hl : Live nb H) (hd : IsDs nb H ds vs) (hΦ : ∀ f d v H', Φ f d -> Same H H' -> IsD (fun a => nb a \/ (f = true /\ H a ≠ none)) H' d v -> Q v H')
  (hρ : ρ = ds.map (Sl.d false) ++ List.replicate (N.length - ds.length) .no) (h : Sv ⟨none, H, nb, []⟩ ρ t { nx := fun _ => Φ true .none, rt := Φ }) : t { nx := fun _ H' => Q .non H', rt := Q } (start N vs) H := by
 have hlen := hd.length
 have sm : ∀ {nb' ρ' σ' H'}, Wd ⟨none, H, nb, []⟩ nb' ρ' σ' H' -> Same H H' := fun W a o e => W.old a o (fun _ _ z => (by cases z)) e
 refine h (fun _ => False) _ H _ ⟨fun _ _ z => (by cases z), fun _ z => z.elim, fun _ _ _ e => e, fun _ z => z.elim, hl, ?_, fun _ _ z => (by cases z), fun _ m => (by cases m), fun i s e => ?_, ?_, ?_, ?_⟩ ⟨fun nb' ρ' σ' H' q W => hΦ _ _ _ _ q (sm W) .non, fun _ _ _ _ q _ => q.elim, fun _ _ _ _ q _ => q.elim, fun nb' ρ' σ' f v H' d q W hv => hΦ f d v H' q (sm W) (hv.av fun a z => ?_), fun _ _ _ _ _ q _ => q.elim⟩
 ·rw [hρ]; unfold start; simp [hlen]
 ·rw [hρ] at e
  unfold start
  by_cases hi : i < ds.length
  ·rw [zq38x (by rw [zq0x]; exact hi)] at e
   obtain ⟨v, d, hv, rfl, q⟩ := isDs_at hd e
   refine ⟨some v, ?_, v, rfl, q.av fun a z => ?_⟩
   ·rw [zq38x (by rw [zq0x, hlen]; exact hi), zq2x, hv]; rfl
   ·rcases z with z | z | z | z
    ·exact z.elim
    ·exact z
    ·exact absurd (fun _ _ z => (by cases z)) z
    ·cases z.1
  ·rw [zq46x (by rw [zq0x]; omega), zq33x] at e
   split at e
   ·rename_i h'
    cases e
    refine ⟨none, ?_, trivial⟩
    rw [zq0x] at h'
    rw [zq46x (by rw [zq0x]; omega), zq33x, if_pos (by rw [zq0x, hlen]; exact h')]
   ·cases e
 ·intro i j a f as c g cs hij e1
  rw [hρ] at e1
  by_cases hi : i < ds.length
  ·rw [zq38x (by rw [zq0x]; exact hi)] at e1
   obtain ⟨_, _, _, z, _⟩ := isDs_at hd e1
   cases z
  ·rw [zq46x (by rw [zq0x]; omega), zq33x] at e1
   split at e1 <;> cases e1
 ·intro i j a f as c g cs hij e1
  rw [hρ] at e1
  by_cases hi : i < ds.length
  ·rw [zq38x (by rw [zq0x]; exact hi)] at e1
   obtain ⟨_, _, _, z, _⟩ := isDs_at hd e1
   cases z
  ·rw [zq46x (by rw [zq0x]; omega), zq33x] at e1
   split at e1 <;> cases e1
 ·intro i j c t hij e1
  rw [hρ] at e1
  by_cases hi : i < ds.length
  ·rw [zq38x (by rw [zq0x]; exact hi)] at e1
   obtain ⟨_, _, _, z, _⟩ := isDs_at hd e1
   cases z
  ·rw [zq46x (by rw [zq0x]; omega), zq33x] at e1
   split at e1 <;> cases e1
 ·rcases z with z | z
  ·exact .inr (.inl z)
  ·exact .inr (.inr (.inr z))
theorem Sv.enterB (hB : BagAt H b l) (hl : Live nb H) (hb : nb b) (hd : IsDs nb H ds vs) (hΦ : ∀ f d v H', Φ f d -> But (Nb b) H H' -> BagAt H' b l -> IsD (fun a => nb a \/ (f = true /\ H a ≠ none)) H' d v -> Q v H')
    (hρ : ρ = .bag :: ds.map (Sl.d false) ++ List.replicate (N.length - (ds.length + 1)) .no) (h : Sv ⟨some (b, l), H, nb, []⟩ ρ t { nx := fun _ => Φ true .none, rt := Φ }) : t { nx := fun _ H' => Q .non H', rt := Q } (start N (.ref b :: vs)) H := by
  have hlen := hd.length
  have hNB : ∀ a, a ≠ b -> NB (some (b, l)) a := fun a n b' l' e => by cases e; exact n
  have hNB' : ∀ a, ¬ NB (some (b, l)) a -> a = b := fun a n => zq77x fun z => n (hNB a z)
  have bt : ∀ {nb' ρ' σ' H'}, Wd ⟨some (b, l), H, nb, []⟩ nb' ρ' σ' H' -> But (Nb b) H H' := fun W a o n e => W.old a o (hNB a n) e
  have bg : ∀ {nb' ρ' σ' H'}, Wd ⟨some (b, l), H, nb, []⟩ nb' ρ' σ' H' -> BagAt H' b l := fun W => W.bag b l rfl
  refine h (fun _ => False) _ H _ ⟨fun b' l' e => (by cases e; exact hB), fun _ z => z.elim, fun _ _ _ e => e, fun _ z => z.elim, hl, ?_, fun b' l' e => (by cases e; exact hB), fun _ m => (by cases m), fun i s e => ?_, ?_, ?_, ?_⟩ ⟨fun nb' ρ' σ' H' q W => hΦ _ _ _ _ q (bt W) (bg W) .non, fun _ _ _ _ q _ => q.elim, fun _ _ _ _ q _ => q.elim, fun nb' ρ' σ' f v H' d q W hv => hΦ f d v H' q (bt W) (bg W) (hv.av fun a z => ?_), fun _ _ _ _ _ q _ => q.elim⟩
  · rw [hρ]; unfold start; simp [hlen]
  · rw [hρ] at e
    unfold start
    cases i with
    | zero => simp at e; subst e; exact ⟨some (.ref b), by simp, b, l, rfl, rfl⟩
    | succ i =>
      simp only [zq78x, zq79x, zq8x, zq67x] at e ⊢
      by_cases hi : i < ds.length
      · rw [zq38x (by rw [zq0x]; exact hi)] at e
        obtain ⟨v, d, hv, rfl, q⟩ := isDs_at hd e
        refine ⟨some v, ?_, v, rfl, q.av fun a z => ?_⟩
        · rw [zq38x (by rw [zq0x, hlen]; exact hi), zq2x, hv]; rfl
        · rcases z with z | z | z | z
          · exact z.elim
          · exact z
          · rw [hNB' a z]; exact hb
          · cases z.1
      · rw [zq46x (by rw [zq0x]; omega), zq33x] at e
        split at e
        · rename_i h'
          cases e
          refine ⟨none, ?_, trivial⟩
          rw [zq0x] at h'
          rw [zq46x (by rw [zq0x]; omega), zq33x, if_pos (by rw [zq0x, hlen]; exact h')]
        · cases e
  · intro i j a f as c g cs hij e1
    rw [hρ] at e1
    cases i with
    | zero => simp at e1
    | succ i =>
      simp only [zq78x, zq79x] at e1
      by_cases hi : i < ds.length
      · rw [zq38x (by rw [zq0x]; exact hi)] at e1
        obtain ⟨_, _, _, z, _⟩ := isDs_at hd e1
        cases z
      · rw [zq46x (by rw [zq0x]; omega), zq33x] at e1
        split at e1 <;> cases e1
  · intro i j a f as c g cs hij e1
    rw [hρ] at e1
    cases i with
    | zero => simp at e1
    | succ i =>
      simp only [zq78x, zq79x] at e1
      by_cases hi : i < ds.length
      · rw [zq38x (by rw [zq0x]; exact hi)] at e1
        obtain ⟨_, _, _, z, _⟩ := isDs_at hd e1
        cases z
      · rw [zq46x (by rw [zq0x]; omega), zq33x] at e1
        split at e1 <;> cases e1
  · intro i j c t hij e1
    rw [hρ] at e1
    cases i with
    | zero => simp at e1
    | succ i =>
      simp only [zq78x, zq79x] at e1
      by_cases hi : i < ds.length
      · rw [zq38x (by rw [zq0x]; exact hi)] at e1
        obtain ⟨_, _, _, z, _⟩ := isDs_at hd e1
        cases z
      · rw [zq46x (by rw [zq0x]; omega), zq33x] at e1
        split at e1 <;> cases e1
  · rcases z with z | z
    · exact .inr (.inl z)
    · exact .inr (.inr (.inr z))
def lawG (b l : Addr) (H : Hp) : Gx := ⟨some (b, l), H, fun _ => False, []⟩
theorem law_wd {a : Option V} {m : Nat} (hB : BagAt H b l) : Wd (lawG b l H) (fun _ => False) (.no :: .bag :: List.replicate m .no) (a :: some (.ref b) :: List.replicate m none) H := by
  refine ⟨fun b' l' e => (by cases e; exact hB), fun _ z => z.elim, fun _ _ _ e => e, fun _ z => z.elim, fun _ z => z.elim, by simp, fun b' l' e => (by cases e; exact hB), fun _ m => (by cases m), fun i s e => ?_, ?_, ?_, ?_⟩
  · match i with
    | 0 => simp at e; subst e; exact ⟨a, rfl, trivial⟩
    | 1 => simp at e; subst e; exact ⟨some (.ref b), rfl, b, l, rfl, rfl⟩
    | i + 2 =>
      simp only [zq79x, zq33x] at e ⊢
      split at e
      · rename_i h; cases e; exact ⟨none, if_pos h, trivial⟩
      · cases e
  · intro i j a f as c g cs hij e1
    match i with
    | 0 => simp at e1
    | 1 => simp at e1
    | i + 2 =>
      simp only [zq79x, zq33x] at e1
      split at e1 <;> cases e1
  · intro i j a f as c g cs hij e1
    match i with
    | 0 => simp at e1
    | 1 => simp at e1
    | i + 2 =>
      simp only [zq79x, zq33x] at e1
      split at e1 <;> cases e1
  · intro i j c t hij e1
    match i with
    | 0 => simp at e1
    | 1 => simp at e1
    | i + 2 =>
      simp only [zq79x, zq33x] at e1
      split at e1 <;> cases e1
theorem Ev.lenRaw {G : Gx} {i : Nat} {a : Addr} {ns : List Int} {K : PySem.W.Frag} (e : ρ[i]? = some (.raw (.ref a))) (hS : SqL K G.H0 a (ns.map V.int)) (h : Φ true (.int ns.length)) : Ev G ρ (tCB (rLen K) (tCons (tVar i) tNil)) Φ := fun nb σ H Q W z => by
 obtain ⟨x, e1, h1⟩ := W.ok i _ e
 have h1 : x = some (.ref a) := h1
 subst h1
 have hS' : SqL K H a (ns.map V.int) := by
  rcases hS with hr | hk
  ·have hn : NB G.B a := fun b l hb z => by
    subst z
    obtain ⟨_, _, _, _, _, g1, _⟩ := W.gB _ _ hb
    rcases hr with hr | ⟨o, hr⟩
    ·rw [g1] at hr
     have := HO.lst.inj (zq37x hr)
     cases ns with
     | nil => cases this
     | cons n r => rw [zq8x] at this; cases (List.cons.inj this).1
    ·rw [g1] at hr; cases hr
   rcases hr with hr | ⟨o, hr⟩
   ·exact .inl (.inl (W.old _ _ hn hr))
   ·exact .inl (.inr ⟨o, W.old _ _ hn hr⟩)
  ·exact .inr hk
 refine ⟨.ref a, e1, a, _, rfl, .inl hS', ?_⟩
 rw [zq0x]
 exact z true _ H _ h (.refl W.bag) (.int _)
theorem law_ends {D : Ends} (h1 : ∀ σ H, D.nx σ H) (h2 : ∀ H, D.rt (.bl true) H) : EndsOk (lawG b l H) { nx := fun _ => True, rt := fun _ d => d = .bool true } D :=
 ⟨fun _ _ σ H _ _ => h1 σ H, fun _ _ _ _ q _ => q.elim, fun _ _ _ _ q _ => q.elim, fun _ _ _ f v H d q _ hv => by subst q; unfold IsD at hv; subst hv; exact h2 H, fun _ _ _ _ _ q _ => q.elim⟩
end
namespace R
theorem rmin {H : Hp} {Q : VK} {i j : Int} (h : Q (.int (if j < i then j else i)) H) : rMin [.int i, .int j] H Q := ⟨i, j, rfl, h⟩
theorem rlen {K : PySem.W.Frag} {H : Hp} {Q : VK} {p : Addr} {xs : List V} (hp : SqL K H p xs) (h : Q (.int xs.length) H) : rLen K [.ref p] H Q := ⟨p, xs, rfl, .inl hp, h⟩
theorem di {P : Int -> Prop} {i : Int} (h : P i) : ∃ j, PyData.int i = .int j /\ P j := ⟨i, rfl, h⟩
theorem db {P : Bool -> Prop} {i : Bool} (h : P i) : ∃ j, PyData.bool i = .bool j /\ P j := ⟨i, rfl, h⟩
theorem dl {P : List PyData -> Prop} {i : List PyData} (h : P i) : ∃ j, PyData.list i = .list j /\ P j := ⟨i, rfl, h⟩
theorem dt {P : List PyData -> Prop} {i : List PyData} (h : P i) : ∃ j, PyData.tuple i = .tuple j /\ P j := ⟨i, rfl, h⟩
theorem dll {P : List PyData -> Prop} {i : List PyData} (h : P i) : ∃ j, (PyData.list i = .list j \/ PyData.list i = .tuple j) /\ P j := ⟨i, .inl rfl, h⟩
theorem dlt {P : List PyData -> Prop} {i : List PyData} (h : P i) : ∃ j, (PyData.tuple i = .list j \/ PyData.tuple i = .tuple j) /\ P j := ⟨i, .inr rfl, h⟩
theorem eqii {P : Bool -> Prop} {i j : Int} (h : P (decide (i = j))) : ∃ b, EqD (.int i) (.int j) b /\ P b := ⟨_, .ii i j, h⟩
theorem eqbb {P : Bool -> Prop} {x y : Bool} (h : P (x == y)) : ∃ b, EqD (.bool x) (.bool y) b /\ P b := ⟨_, .bb x y, h⟩
theorem at_ {ds : List PyData} {k : Int} {e : PyData} {P : PyData -> Prop} (h : atI ds k = some e) (q : P e) : ∃ e, atI ds k = some e /\ P e := ⟨e, h, q⟩
theorem lnil {A : Prop} (q : A) : ([] : List Fd).length <= 10000 /\ A := ⟨by decide, q⟩
theorem cnd {C A : Prop} (c : C) (q : A) : C /\ A := ⟨c, q⟩
end R
theorem spD_out {n : Nat} {F : DF} {vs : List V} {H : Hp} {Q : VK} {E : XK} (h : spD n F vs H Q E) : ∃ (nb : Addr -> Prop) (ds : List PyData) (Φ : Pd), Live nb H /\ IsDs nb H ds vs /\ (∀ f d v H', Φ f d -> Same H H' -> IsD (fun a => nb a \/ (f = true /\ H a ≠ none)) H' d v -> Q v H') /\ F ds Φ := by
 obtain ⟨_, nb, ds, h1, h2, h3⟩ := h
 exact ⟨nb, ds, _, h1, h2, fun f d v H' q => q v H', h3⟩
theorem spB_out {n : Nat} {F : DF} {vs : List V} {H : Hp} {Q : VK} {E : XK} (h : spB n F vs H Q E) : ∃ (b l : Addr) (ws : List V) (nb : Addr -> Prop) (ds : List PyData) (Φ : Pd), vs = .ref b :: ws /\ BagAt H b l /\ Live nb H /\ nb b /\ IsDs nb H ds ws /\ (∀ f d v H', Φ f d -> But (Nb b) H H' -> BagAt H' b l -> IsD (fun a => nb a \/ (f = true /\ H a ≠ none)) H' d v -> Q v H') /\ F ds Φ := by
 obtain ⟨_, b, l, ws, nb, ds, e, hB, h1, hb, h2, h3⟩ := h
 exact ⟨b, l, ws, nb, ds, _, e, hB, h1, hb, h2, fun f d v H' q => q v H', h3⟩
end L2
set_option maxRecDepth 100000
set_option maxHeartbeats 1000000
namespace L2
open PySem PySem.Spec PyProof.Rows
abbrev Prs := List (Int × Int)
abbrev Wo := List (Option Int)
abbrev prsD (prs : Prs) : PyData := .list (prs.map pairD)
abbrev woD (wd : Wo) : PyData := .list (wd.map optD)
abbrev netD (p n : Int) (cs : List Prs) : PyData := .tuple [.int p, .int n, .list (cs.map prsD)]
def lostIn (prs : Prs) (wd : Wo) : Prop := ∃ pr ∈ prs, wd[pr.1.toNat]? = some none
instance {prs : Prs} {wd : Wo} : Decidable (lostIn prs wd) := by unfold lostIn; infer_instance
def sumOpt (p : Int) (prs : Prs) (wd : Wo) : Option Int := if lostIn prs wd then none else some (dueSum prs wd % p)
def PrsOk (prs : Prs) (m : Nat) : Prop := ∀ pr ∈ prs, 0 <= pr.1 /\ pr.1 < m /\ Sm pr.2
def WoOk (wd : Wo) : Prop := ∀ x, some x ∈ wd -> Sm x
theorem atI_nat' {α β : Type} {xs : List α} (φ : α -> β) {k : Int} {m : Nat} (h0 : 0 <= k) (h1 : k < m) (hm : m = xs.length) : ∃ x, xs[k.toNat]? = some x /\ atI (xs.map φ) k = some (φ x) := by
 have hk : k.toNat < xs.length := by omega
 exact ⟨xs[k.toNat], zq1x hk, atI_some h0 (by rw [zq2x, zq1x hk]; rfl)⟩
theorem map_at {α β : Type} {xs : List α} {φ : α -> β} {i : Nat} {d : β} (h : (xs.map φ)[i]? = some d) : ∃ x, xs[i]? = some x /\ d = φ x := by
 rw [zq2x] at h
 obtain ⟨x, hx, e⟩ := zq42x.mp h
 exact ⟨x, hx, e.symm⟩
theorem take_snoc {α : Type} {xs : List α} {i : Nat} {x : α} (h : xs[i]? = some x) : xs.take (i + 1) = xs.take i ++ [x] := by
 rw [zq146x, h]; rfl
theorem isN_opt (o : Option Int) : isN (optD o) = o.isNone := by cases o <;> rfl
end L2
set_option maxRecDepth 100000
set_option maxHeartbeats 4000000
namespace L2
open PySem PySem.Spec PyProof.Rows
structure Eu (p b L lt r t : Int) : Prop where
 l0 : 0 < L
 r0 : 0 <= r
 lp : L <= p
 rp : r <= p
 lc : ∃ k, L = lt * b + p * k
 rc : ∃ k, r = t * b + p * k
 dv : ∀ d, d ∣ L -> d ∣ r -> d ∣ p /\ d ∣ b % p
 sz : (t.natAbs : Int) * L + (lt.natAbs : Int) * r <= p
theorem Eu.start {p b : Int} (hp : 2 <= p) : Eu p b p 0 (b % p) 1 := by
 have m1 := zq47x b (show p ≠ 0 by omega)
 have m2 := zq48x b (show 0 < p by omega)
 refine ⟨by omega, m1, zq60x _, by omega, ⟨1, by rw [zq98x, Int.zero_add, zq138x]⟩, ⟨-(b / p), ?_⟩, fun d h1 h2 => ⟨h1, h2⟩, ?_⟩
 ·have := zq104x b p
  rw [zq121x, Int.mul_neg]
  omega
 ·show (1 : Int) * p + 0 * (b % p) <= p
  rw [zq121x, zq98x]
  omega
theorem Eu.tb {p b L lt r t : Int} (h : Eu p b L lt r t) : -p <= t /\ t <= p := by
 have h1 : (t.natAbs : Int) * 1 <= (t.natAbs : Int) * L := Int.mul_le_mul_of_nonneg_left (by have := h.l0; omega) (by omega)
 have h2 : 0 <= (lt.natAbs : Int) * r := Int.mul_nonneg (by omega) h.r0
 have := h.sz
 omega
theorem Eu.next {p b L lt r t : Int} (h : Eu p b L lt r t) (hr : 0 < r) : Eu p b r t (L - L / r * r) (lt - L / r * t) /\ L - L / r * r < r := by
 have e := zq104x L r
 have m1 := zq47x L (show r ≠ 0 by omega)
 have m2 := zq48x L hr
 have e' : L - L / r * r = L % r := by rw [zq80x (L / r) r]; omega
 have q0 : 0 <= L / r := zq148x (by have := h.l0; omega) (by omega)
 obtain ⟨k1, c1⟩ := h.lc
 obtain ⟨k2, c2⟩ := h.rc
 refine ⟨⟨hr, by omega, h.rp, by have := h.rp; omega, h.rc, ⟨k1 - L / r * k2, ?_⟩, fun d d1 d2 => ?_, ?_⟩, by omega⟩
 ·rw [zq122x, zq105x]
  generalize L / r = q at *
  have z : q * r = q * (t * b) + q * (p * k2) := by rw [<- zq149x, <- c2]
  have z1 : q * (t * b) = q * t * b := (zq68x q t b).symm
  have z2 : q * (p * k2) = p * (q * k2) := by rw [<- zq68x, zq80x q p, zq68x]
  omega
 ·have dL : d ∣ L := by
   have z : d ∣ (L - L / r * r) + L / r * r := Int.dvd_add d2 (Int.dvd_mul_of_dvd_right d1)
   have z2 : (L - L / r * r) + L / r * r = L := by omega
   rwa [z2] at z
  exact h.dv d dL d1
 ·generalize L / r = q at *
  have a1 : ((lt - q * t).natAbs : Int) <= (lt.natAbs : Int) + q * (t.natAbs : Int) := by
   have b1 : (lt - q * t).natAbs <= lt.natAbs + (q * t).natAbs := by omega
   have b2 : ((q * t).natAbs : Int) = q * (t.natAbs : Int) := by
    rw [Int.natAbs_mul]
    have : (q.natAbs : Int) = q := by omega
    rw [Int.natCast_mul, this]
   omega
  have a2 : ((lt - q * t).natAbs : Int) * r <= ((lt.natAbs : Int) + q * (t.natAbs : Int)) * r := zq150x a1 (by omega)
  have a3 : ((lt.natAbs : Int) + q * (t.natAbs : Int)) * r = (lt.natAbs : Int) * r + q * (t.natAbs : Int) * r := zq123x _ _ _
  have a4 : (t.natAbs : Int) * (L - q * r) = (t.natAbs : Int) * L - q * (t.natAbs : Int) * r := by
   rw [zq105x, <- zq68x, zq80x (t.natAbs : Int) q]
  have := h.sz
  omega
theorem Eu.one {p b lt t : Int} (h : Eu p b 1 lt 0 t) (hp : 2 <= p) : ∃ k, b * (lt % p) = 1 + p * k := by
 obtain ⟨k, hk⟩ := h.lc
 have e := zq104x lt p
 refine ⟨-k - lt / p * b, ?_⟩
 have e2 : lt % p = lt - p * (lt / p) := by omega
 rw [zq80x b, e2, zq122x, zq105x, Int.mul_neg, zq68x]
 omega
theorem ln1 {α : Type} {us : List α} (h : us.length = 1) : ∃ a, us = [a] := by
  cases us with
  | nil => cases h
  | cons a us =>
    cases us with
    | nil => exact ⟨a, rfl⟩
    | cons _ _ => cases h
theorem ln2 {α : Type} {us : List α} (h : us.length = 2) : ∃ a b, us = [a, b] := by
  cases us with
  | nil => cases h
  | cons a us =>
    obtain ⟨b, rfl⟩ := ln1 (us := us) (zq124x h)
    exact ⟨a, b, rfl⟩
theorem ln3 {α : Type} {us : List α} (h : us.length = 3) : ∃ a b c, us = [a, b, c] := by
  cases us with
  | nil => cases h
  | cons a us =>
    obtain ⟨b, c, rfl⟩ := ln2 (us := us) (zq124x h)
    exact ⟨a, b, c, rfl⟩
theorem ln4 {α : Type} {us : List α} (h : us.length = 4) : ∃ a b c d, us = [a, b, c, d] := by
  cases us with
  | nil => cases h
  | cons a us =>
    obtain ⟨b, c, d, rfl⟩ := ln3 (us := us) (zq124x h)
    exact ⟨a, b, c, d, rfl⟩
theorem ln5 {α : Type} {us : List α} (h : us.length = 5) : ∃ a b c d e, us = [a, b, c, d, e] := by
  cases us with
  | nil => cases h
  | cons a us =>
    obtain ⟨b, c, d, e, rfl⟩ := ln4 (us := us) (zq124x h)
    exact ⟨a, b, c, d, e, rfl⟩
end L2
set_option maxRecDepth 100000
set_option maxHeartbeats 1000000
namespace L2
open PySem PySem.Spec PyProof.Rows
def Ris (xs : Array Nat) : Prop := ∀ (i j x y : Nat), i < j -> xs[i]? = some x -> xs[j]? = some y -> x < y
theorem below_go {xs : Array Nat} {q : Nat} (hr : Ris xs) : ∀ (f lo hi : Nat), hi <= xs.size -> lo <= hi -> hi - lo <= f -> (∀ i x, i < lo -> xs[i]? = some x -> x < q) -> (∀ i x, hi <= i -> xs[i]? = some x -> q <= x) ->
    lo <= SetTable.below.go xs q f lo hi /\ SetTable.below.go xs q f lo hi <= hi /\ (∀ i x, i < SetTable.below.go xs q f lo hi -> xs[i]? = some x -> x < q) /\ (∀ i x, SetTable.below.go xs q f lo hi <= i -> xs[i]? = some x -> q <= x) := by
  intro f
  induction f with
  | zero =>
    intro lo hi h1 h2 h3 h4 h5
    have e : lo = hi := by omega
    subst e
    exact ⟨zq3x _, zq3x _, h4, h5⟩
  | succ f ih =>
    intro lo hi h1 h2 h3 h4 h5
    unfold SetTable.below.go
    by_cases hlt : lo < hi
    · rw [if_pos hlt]
      have hm : (lo + hi) / 2 < xs.size := by omega
      have hg : xs[(lo + hi) / 2]? = some xs[(lo + hi) / 2] := zq61x hm
      have hgd : xs.getD ((lo + hi) / 2) q = xs[(lo + hi) / 2] := by rw [zq125x, hg]; rfl
      dsimp only
      rw [hgd]
      by_cases hc : xs[(lo + hi) / 2] < q
      · rw [if_pos hc]
        obtain ⟨a1, a2, a3, a4⟩ := ih ((lo + hi) / 2 + 1) hi h1 (by omega) (by omega) (fun i x hi' e => by
          rcases zq151x i ((lo + hi) / 2) with z | z
          · exact zq55x (hr i _ x _ z e hg) hc
          · have : i = (lo + hi) / 2 := by omega
            subst this; rw [hg] at e; cases e; exact hc) h5
        exact ⟨by omega, a2, a3, a4⟩
      · rw [if_neg hc]
        obtain ⟨a1, a2, a3, a4⟩ := ih lo ((lo + hi) / 2) (by omega) (by omega) (by omega) h4 (fun i x hi' e => by
          rcases zq151x ((lo + hi) / 2) i with z | z
          · exact zq43x (zq144x (zq143x hc) (hr _ i _ x z hg e))
          · have : i = (lo + hi) / 2 := by omega
            subst this; rw [hg] at e; cases e; exact zq143x hc)
        exact ⟨a1, by omega, a3, a4⟩
    · rw [if_neg hlt]
      have e : lo = hi := by omega
      subst e
      exact ⟨zq3x _, zq3x _, h4, h5⟩
theorem below_at {xs : Array Nat} {q : Nat} (hr : Ris xs) : SetTable.below xs q <= xs.size /\ (∀ i x, i < SetTable.below xs q -> xs[i]? = some x -> x < q) /\ (∀ i x, SetTable.below xs q <= i -> xs[i]? = some x -> q <= x) := by
 obtain ⟨_, h2, h3, h4⟩ := below_go (q := q) hr xs.size 0 xs.size (zq3x _) (zq45x _) (by omega) (fun i x h => absurd h (Nat.not_lt_zero _)) (fun i x h e => by
  have := (zq106x.mp e).1; omega)
 exact ⟨h2, h3, h4⟩
theorem insertAt_get {α : Type} {xs : Array α} {p : Nat} {x : α} (hp : p <= xs.size) (i : Nat) : (SetTable.insertAt xs p x)[i]? = if i < p then xs[i]? else if i = p then some x else xs[i - 1]? := by
 unfold SetTable.insertAt
 rw [Array.getElem?_append]
 have e1 : ((xs.extract 0 p).push x).size = p + 1 := by rw [Array.size_push, zq126x]; omega
 rw [e1]
 by_cases h1 : i < p
 ·rw [if_pos (show i < p + 1 by omega), if_pos h1, zq178x, if_neg (by rw [zq126x]; omega), zq179x (by omega)]
  simp
 ·rw [if_neg h1]
  by_cases h2 : i = p
  ·rw [if_pos (show i < p + 1 by omega), if_pos h2, zq178x, if_pos (by rw [zq126x]; omega)]
  ·rw [if_neg (show ¬ i < p + 1 by omega), if_neg h2]
   by_cases h3 : i - (p + 1) < xs.size - p
   ·rw [zq179x (by omega), <- zq61x, show p + (i - (p + 1)) = i - 1 by omega]
   ·rw [zq152x (by rw [zq126x]; omega), zq152x (by omega)]
theorem Ris.insert {xs : Array Nat} {q : Nat} (hr : Ris xs) (hq : xs[SetTable.below xs q]? ≠ some q) : Ris (SetTable.insertAt xs (SetTable.below xs q) q) := by
 obtain ⟨h1, h2, h3⟩ := below_at (q := q) hr
 have h3' : ∀ i x, SetTable.below xs q <= i -> xs[i]? = some x -> q < x := fun i x hi e => by
  rcases zq153x (h3 i x hi e) with z | z
  ·exact z
  ·subst z
   rcases zq153x hi with z | z
   ·have hb : SetTable.below xs q < xs.size := zq23x z (zq43x (zq106x.mp e).1)
    have hg : xs[SetTable.below xs q]? = some xs[SetTable.below xs q] := zq61x hb
    have := hr _ i _ q z hg e
    have := h3 _ _ (zq3x _) hg
    omega
   ·rw [<- z] at e; exact absurd e hq
 intro i j x y hij ex ey
 rw [insertAt_get h1] at ex ey
 by_cases a : i < SetTable.below xs q
 ·rw [if_pos a] at ex
  by_cases b : j < SetTable.below xs q
  ·rw [if_pos b] at ey; exact hr i j x y hij ex ey
  ·rw [if_neg b] at ey
   by_cases c : j = SetTable.below xs q
   ·rw [if_pos c] at ey; cases ey; exact h2 i x a ex
   ·rw [if_neg c] at ey; exact hr i (j - 1) x y (by omega) ex ey
 ·rw [if_neg a] at ex
  by_cases c : i = SetTable.below xs q
  ·rw [if_pos c] at ex; cases ex
   rw [if_neg (by omega), if_neg (by omega)] at ey
   exact h3' (j - 1) y (by omega) ey
  ·rw [if_neg c] at ex
   rw [if_neg (by omega), if_neg (by omega)] at ey
   exact hr (i - 1) (j - 1) x y (by omega) ex ey
theorem probe_free {t : SetTable} {ha : Nat -> Int} {h : Int} : ∀ (f : Nat) (p : SetTable.Probe) (j : Nat) (dm : Option Nat), (∀ d, p.dummy = some d -> t.slot d = .dummy) -> SetTable.probe.go t ha h f p = some (.empty j dm) -> t.slot j = .empty /\ ∀ d, dm = some d -> t.slot d = .dummy := by
  intro f
  induction f with
  | zero => intro p j dm _ e; unfold SetTable.probe.go at e; cases e
  | succ f ih =>
    intro p j dm hd e
    have adv : ∀ p : SetTable.Probe, (t.advance p).dummy = p.dummy := fun p => by unfold SetTable.advance; split <;> rfl
    unfold SetTable.probe.go at e
    cases hs : t.slot p.j with
    | empty => rw [hs] at e; cases e; exact ⟨hs, hd⟩
    | dummy => rw [hs] at e; exact ih _ j dm (fun d h' => by rw [adv] at h'; cases h'; exact hs) e
    | live i =>
      rw [hs] at e
      dsimp only at e
      split at e
      · cases e
      · exact ih _ j dm (fun d h' => by rw [adv] at h'; exact hd d h') e
theorem free_not_live {t : SetTable} {h : Int} {j : Nat} {wd : Bool} (e : t.freeSlot h = some (j, wd)) : ∀ i, t.slot j ≠ .live i := by
 unfold SetTable.freeSlot SetTable.probe at e
 intro i z
 split at e
 ·rename_i j0 dm he
  obtain ⟨h1, h2⟩ := probe_free (10 * SetTable.turns t.mask) (t.probeStart h) j0 dm (fun d h' => by unfold SetTable.probeStart at h'; cases h') he
  cases dm with
  | none => cases e; simp at z; rw [h1] at z; cases z
  | some d => cases e; simp at z; rw [h2 d rfl] at z; cases z
 ·cases e
structure TOk (bt : Bool) (t : SetTable) : Prop where
 led : bt = false -> t.led = true
 ris : t.plain = true -> Ris t.place
theorem TOk.standIn {bt : Bool} {t : SetTable} (h : TOk bt t) (n : Nat) : TOk bt (t.standIn n) := ⟨h.led, fun z => by cases z⟩
theorem TOk.off {bt : Bool} {t : SetTable} (h : TOk bt t) : TOk bt { t with plain := false } := ⟨h.led, fun z => by cases z⟩
theorem TOk.put {bt : Bool} {t : SetTable} {j : Nat} (h : TOk bt t) (hj : ∀ i, t.slot j ≠ .live i) : TOk bt (t.put j).1 := by
 refine ⟨h.led, fun z => ?_⟩
 refine Ris.insert (h.ris z) fun e => hj (SetTable.below t.place j) ?_
 unfold SetTable.slot
 dsimp only
 rw [if_pos (by rw [e]; exact beq_self_eq_true _)]
theorem TOk.layNew {bt : Bool} {t : SetTable} {es : Array (Int × Value)} {h : Int} {x : Value} (ok : TOk bt t) : TOk bt (layNew t es h x).2.1 := by
 unfold PySem.layNew
 split
 ·rename_i slot wd e
  dsimp only
  unfold SetTable.orStandIn
  split
  ·exact ok.put (free_not_live e)
  ·exact (ok.put (free_not_live e)).standIn _
 ·exact ok.standIn _
theorem range_rise (n : Nat) (φ : Nat -> Option Nat) : Ris (((List.range n).filterMap fun j => (φ j).map (j, ·)).map (·.1)).toArray := by
  have hp : (((List.range n).filterMap fun j => (φ j).map (j, ·)).map (·.1)).Pairwise (· < ·) := by
    have hs : List.Sublist (((List.range n).filterMap fun j => (φ j).map (j, ·)).map (·.1)) (List.range n) := by
      induction List.range n with
      | nil => simp
      | cons a r ih =>
        rw [zq97x]
        cases φ a with
        | none => exact ih.cons a
        | some y => exact ih.cons₂ a
    exact List.pairwise_lt_range.sublist hs
  intro i j x y hij ex ey
  rw [zq180x] at ex ey
  obtain ⟨hi, rfl⟩ := zq5x.mp ex
  obtain ⟨hj, rfl⟩ := zq5x.mp ey
  exact zq99x.mp hp i j hi hj hij
theorem TOk.relay {bt : Bool} {t : SetTable} {es : Array (Int × Value)} {n : Nat} (ok : TOk bt t) : TOk bt (relayAll t es n).2.1 := by
  unfold relayAll
  split
  · rename_i t' order e
    dsimp only
    split
    · unfold SetTable.relaid SetTable.laid at e
      cases hl : SetTable.layClean (SetTable.sizeAbove n - 1) (es.map (·.1)) with
      | none => rw [hl] at e; cases e
      | some owner =>
        rw [hl] at e
        cases e
        exact ⟨ok.led, fun _ => range_rise _ _⟩
    · exact ok.standIn _
  · exact ok.standIn _
theorem TOk.fresh {bt : Bool} : TOk bt (.fresh 0 0 (!bt)) := ⟨fun h => by rw [h]; rfl, fun _ i j x y _ e => by simp [SetTable.fresh] at e⟩
end L2
set_option maxRecDepth 100000
set_option maxHeartbeats 4000000
namespace L2
open PySem PySem.Spec PyProof.Rows
def TAt (bt : Bool) (h : Heap) (a : Addr) : Prop := ∀ o es ep t, h.get? a = some o -> o.data = .set es ep t -> TOk bt t
theorem TAt.of {bt : Bool} {h : Heap} {a : Addr} {o : Obj} {es : Array (Int × Value)} {ep : Nat} {t : SetTable} (e : h.get? a = some o) (d : o.data = .set es ep t) (k : TOk bt t) : TAt bt h a := fun o' es' ep' t' e' d' => by
 rw [e] at e'; cases e'; rw [d] at d'; cases d'; exact k
theorem TAt.keep {bt : Bool} {h h' : Heap} {a : Addr} {o : Obj} (k : TAt bt h a) (e : h.get? a = some o) (e' : h'.get? a = some o) : TAt bt h' a := fun o1 es ep t x d => by
 rw [e'] at x; cases x; exact k o es ep t e d
section
variable {prog : Program} {w : World} {A : Around} {E : Value -> Shared -> Prop} {s : Shared} {a : Addr} {bt : Bool}
abbrev IK (prog : Program) (w : World) := intKind prog w
theorem store_G {o : Obj} {es es' : Array (Int × Value)} {ep : Nat} {t t' : SetTable} {T : Int -> Bool} {h : Heap} (g1 : h.get? a = some o) (g2 : o.ExactSet) (g3 : o.data = .set es ep t) (l1 : ElemsOf (IK prog w) es'.toList)
  (l2 : ∀ k, T k = true ↔ ∃ e ∈ es'.toList, (IK prog w).is k e.2 = true) (l3 : es'.size < scanBound) (l4 : t'.fits es'.size = true) (tk : TOk bt t') :
  (∃ o', (h.update a (Obj.putSet es' t')).get? a = some o' /\ o'.ExactSet /\ o'.data = .set es' (ep + 1) t') /\ (h.update a (Obj.putSet es' t')).SetOf (IK prog w) a T es'.size /\ TAt bt (h.update a (Obj.putSet es' t')) a := by
 obtain ⟨q1, q2⟩ := SetOf_store (knd := IK prog w) (es' := es') (t' := t') (S' := T) g1 g2 g3 l1 l2 l3 l4
 exact ⟨⟨_, q1, g2, rfl⟩, q2, .of q1 rfl tk⟩
theorem tail_G {gg : Bool -> Sem Unit} (hgg : ∀ (b : Bool) (s₁ : Shared) (Q₁ : Unit -> Shared -> Prop), Q₁ () s₁ -> wpAny (model prog w) A (gg b) Q₁ E s₁) {o : Obj} {es : Array (Int × Value)} {ep : Nat} {t : SetTable}
    (g1 : s.heap.get? a = some o) (g2 : o.ExactSet) (g3 : o.data = .set es ep t) {es1 : Array (Int × Value)} {t2 : SetTable} {T : Int -> Bool} (l1 : ElemsOf (IK prog w) es1.toList) (l2 : ∀ k, T k = true ↔ ∃ e ∈ es1.toList, (IK prog w).is k e.2 = true)
    (l3 : es1.size < scanBound) (l4 : t2.fits es1.size = true) (tk : TOk bt t2) {wd : Bool} {R : Option Bool -> Shared -> Prop}
    (fin : ∀ h', Heap.SameBut a s.heap h' -> h'.SetOf (IK prog w) a T es1.size -> TAt bt h' a -> R (some true) { s with heap := h' }) :
    wpAny (model prog w) A (do storeSet a es1 t2
                               if (!wd && t2.tooFull) = true then do
                                 gg (relayAll t2 es1 (SetTable.grown es1.size)).2.2
                                 storeSet a (relayAll t2 es1 (SetTable.grown es1.size)).1 (relayAll t2 es1 (SetTable.grown es1.size)).2.1
                                 pure (some true)
                               else pure (some true)) R E s := by
  obtain ⟨⟨o1, k1, k2, k3⟩, q1, q2⟩ := store_G (T := T) g1 g2 g3 l1 l2 l3 l4 tk
  have sb := Heap.SameBut.update s.heap a (Obj.putSet es1 t2)
  refine wpAny_bind (wpAny_storeSet_of g1 g3 ?_ (fits_of_scanBound l3))
  by_cases c : (!wd && t2.tooFull) = true
  · rw [if_pos c]
    have pp := relayAll_perm t2 es1 (SetTable.grown es1.size)
    have pf := relayAll_fits t2 es1 (SetTable.grown es1.size)
    have pt := tk.relay (es := es1) (n := SetTable.grown es1.size)
    generalize relayAll t2 es1 (SetTable.grown es1.size) = Z at pp pf pt ⊢
    obtain ⟨es2, t3, gave⟩ := Z
    dsimp only at pp pf pt ⊢
    have sz : es2.size = es1.size := by have := pp.length_eq; rwa [zq44x, zq44x] at this
    have l2' : ∀ k, T k = true ↔ ∃ e ∈ es2.toList, (IK prog w).is k e.2 = true := fun k => (l2 k).trans ⟨fun ⟨e, m, z⟩ => ⟨e, pp.mem_iff.mpr m, z⟩, fun ⟨e, m, z⟩ => ⟨e, pp.mem_iff.mp m, z⟩⟩
    obtain ⟨_, r1, r2⟩ := store_G (T := T) k1 k2 k3 (l1.perm pp) l2' (by rw [sz]; exact l3) pf pt
    refine wpAny_bind (hgg _ _ _ (wpAny_bind (wpAny_storeSet_of k1 k3 ?_ (fits_of_scanBound (by rw [sz]; exact l3)))))
    rw [sz] at r1
    exact wpAny_pure (fin _ (sb.trans (Heap.SameBut.update _ a _)) r1 r2)
  · rw [if_neg c]
    exact wpAny_pure (fin _ sb q1 q2)
theorem add_G {S : Int -> Bool} {n : Nat} {k : Int} {x : Value} {Q : Bool -> Shared -> Prop} (hx : (IK prog w).is k x = true) (sc : x.scannable = true) (hS : s.heap.SetOf (IK prog w) a S n) (hT : TAt bt s.heap a) (room : n + 1 < scanBound)
    (fin : ∀ h', Heap.SameBut a s.heap h' -> h'.SetOf (IK prog w) a (fun j => S j || decide (j = k)) (if S k then n else n + 1) -> TAt bt h' a -> Q (!S k) { s with heap := h' }) :
    wpAny (model prog w) A (setAddHashed a x ((IK prog w).hash k)) Q E s := by
  obtain ⟨o, es, ep, t, g1, g2, g3, l1, l2, l3, l4, sz⟩ := hS
  have tk := hT o es ep t g1 g3
  unfold setAddHashed setAddHashedIn
  refine wpAny_holding (wpAny_bind (wpAny_setState_of g1 g3 l4 ?_))
  dsimp only
  rw [if_pos (byScan_of sc l3 l1)]
  unfold setAddByScan
  refine wpAny_bind (wpAny_bind (wpAny_rule (wpAny_bind (wpAny_setScan_of hx g1 g3 l4 l1 ?_))))
  cases fr : List.findIdx? (fun e => (IK prog w).is k e.2) es.toList with
  | some j =>
    obtain ⟨hj, pj, _⟩ := List.findIdx?_eq_some_iff_getElem.mp fr
    have yes : S k = true := (l2 k).mpr ⟨_, zq28x hj, pj⟩
    have z := fin s.heap (.refl a s.heap) ⟨o, es, ep, t, g1, g2, g3, l1, fun j => by
      rw [Bool.or_eq_true, decide_eq_true_eq, <- l2 j]
      exact ⟨fun q => q.elim id fun e => e ▸ yes, .inl⟩, l3, l4, by rw [if_pos yes]; exact sz⟩ hT
    rw [yes] at z
    exact wpAny_pure (wpAny_pure z)
  | none =>
    have no : S k = false := by
      cases q : S k with
      | false => rfl
      | true =>
        obtain ⟨e, m, p⟩ := (l2 k).mp q
        rw [List.findIdx?_eq_none_iff.mp fr e m] at p; cases p
    have pp := layNew_perm t es ((IK prog w).hash k) x
    have pf := layNew_fits t es ((IK prog w).hash k) x
    have pt := tk.layNew (es := es) (h := (IK prog w).hash k) (x := x)
    dsimp only
    generalize layNew t es ((IK prog w).hash k) x = Z at pp pf pt ⊢
    obtain ⟨es1, t1, wd, gave⟩ := Z
    dsimp only at pp pf pt ⊢
    rw [Array.toList_push] at pp
    have sz1 : es1.size = n + 1 := by have := pp.length_eq; rw [zq20x, zq44x, zq44x, sz] at this; exact this
    have fin' : ∀ h', Heap.SameBut a s.heap h' -> h'.SetOf (IK prog w) a (fun j => S j || decide (j = k)) es1.size -> TAt bt h' a -> Q true { s with heap := h' } := fun h' x1 x2 x3 => by
      have := fin h' x1; rw [no, if_neg zq14x] at this; rw [sz1] at x2; exact this x2 x3
    have gw : ∀ (b : Bool) (s₁ : Shared) (Q₁ : Unit -> Shared -> Prop), Q₁ () s₁ -> wpAny (model prog w) A (match b with | true => rule "set.scan.the-table-gave-way" | false => pure ()) Q₁ E s₁ := fun b s₁ Q₁ q => by
      cases b
      · exact wpAny_pure q
      · exact wpAny_rule q
    refine wpAny_bind (gw _ _ _ ?_)
    have e1 := (l1.push hx sc).perm pp
    have e2 := mem_push_iff hx l2 pp
    have e3 : es1.size < scanBound := by rw [sz1]; exact room
    by_cases pl : t1.plain = true
    · rw [if_pos pl, hashByValue_scannable 8 sc]
      refine wpAny_bind (wpAny_pure ?_)
      refine tail_G gw g1 g2 g3 e1 e2 e3 ?_ ?_ fun h' x1 x2 x3 => wpAny_pure (fin' h' x1 x2 x3)
      · split
        · exact pf
        · exact SetTable.fits_plain_off pf
      · split
        · exact pt
        · exact pt.off
    · rw [if_neg pl]
      refine wpAny_bind (wpAny_pure ?_)
      rw [if_pos rfl]
      exact tail_G gw g1 g2 g3 e1 e2 e3 pf pt fun h' x1 x2 x3 => wpAny_pure (fin' h' x1 x2 x3)
end
end L2
set_option maxRecDepth 100000
set_option maxHeartbeats 4000000
namespace L2
open PySem PySem.Spec PyProof.Rows
section
variable {prog : Program} {w : World} {A : Around} {R : Result -> Shared -> Prop} {I : Addr} {fp wr : List Addr} {G : Array GenState -> Array GenState -> Prop} {n : Nat} {P : Nat -> Value -> Prop} {St : Nat -> Shared -> Prop} {bt : Bool}
abbrev met (val : Nat -> Int) (i : Nat) : Int -> Bool := fun k => (firstMet val i).any (· == k)
theorem loop_G (W : WalksS prog w A.in1 I fp wr G n P St) (C : Addr) (nC : C ∉ fp) (val : Nat -> Int) (hv : ∀ i v, P i v -> ∃ t, v = .int (val i) t) (room : n + 1 < scanBound) (fuel : Nat) :
    ∀ (i : Nat) (s : Shared), n - i = fuel -> i <= n -> St i s -> s.heap.SetOf (IK prog w) C (met val i) (firstMet val i).length -> TAt bt s.heap C ->
      (∀ s', Moved (C :: wr) G s s' -> s'.heap.SetOf (IK prog w) C (met val n) (firstMet val n).length -> TAt bt s'.heap C -> R (.ok (.ret .none)) s') ->
      codeAny (model prog w) A (.builtin "set.update.loop" ⟨[.ref C, .ref I], []⟩) R s := by
  have nw : C ∉ wr := fun z => nC (W.sub _ z)
  have up : ∀ b ∈ wr, b ∈ C :: wr := fun b z => zq25x _ z
  have mv : ∀ {s s' : Shared} {T : Int -> Bool} {m : Nat}, Moved wr G s s' -> s.heap.SetOf (IK prog w) C T m -> TAt bt s.heap C -> s'.heap.SetOf (IK prog w) C T m /\ TAt bt s'.heap C := fun mo q tt => by
    obtain ⟨o, es, ep, t, ho, r⟩ := q
    exact ⟨⟨o, es, ep, t, mo.heap C _ nw ho, r⟩, tt.keep ho (mo.heap C _ nw ho)⟩
  induction fuel with
  | zero =>
    intro i s e1 e2 st q tt fin
    obtain rfl : i = n := by omega
    refine codeAny_builtin F.entry_set_update_loop ?_
    rw [zq69x zq154x _]
    refine wpAny_bind (W.done s _ _ st fun s' mo => ?_)
    exact wpAny_pure (fin s' (mo.mono up) (mv mo q tt).1 (mv mo q tt).2)
  | succ fuel ih =>
    intro i s e1 e2 st q tt fin
    have lt : i < n := by omega
    refine codeAny_builtin F.entry_set_update_loop ?_
    rw [zq69x zq154x _]
    refine wpAny_bind (W.item i s _ _ lt st fun v s' hP st' mo => ?_)
    obtain ⟨tok, rfl⟩ := hv i v hP
    obtain ⟨q', tt'⟩ := mv mo q tt
    show wpAny _ A.in1 (holding [Value.int (val i) tok] (setAdd C (.int (val i) tok)) >>= _) _ _ s'
    unfold setAdd
    refine wpAny_bind (wpAny_holding (wpAny_holding (wpAny_bind ((IK prog w).pyHash (k := val i) (intKind_is _ _ _ _) ?_))))
    refine add_G (bt := bt) (s := { s' with toks := s'.toks + 1 }) (intKind_is _ _ _ _) rfl q' tt' (by have := firstMet_length_le val i; omega) fun h' sb q2 tt2 => ?_
    have q3 : h'.SetOf (IK prog w) C (met val (i + 1)) (firstMet val (i + 1)).length := SetOf_congr q2 (fun j => by unfold met; rw [firstMet_succ, step_any]) (by rw [firstMet_succ, step_length])
    refine wpAny_pure ⟨plainId_quiet zq154x _, ih (i + 1) _ (by omega) lt (W.frame _ s' _ _ st' (zq54x _) fun b hb o e => ?_) q3 tt2 fun s2 mo2 q4 tt4 => ?_⟩
    · rw [sb.2 b fun z : b = C => nC (z ▸ hb)]; exact e
    · refine fin s2 (Moved.trans W.gtrans ((mo.mono up).then_heap (zq54x _) fun b o hb e => ?_) mo2) q4 tt4
      rw [sb.2 b fun z : b = C => hb (z ▸ zq22x)]; exact e
end
section
variable {prog : Program} {w : World} {A : Around} {E : Value -> Shared -> Prop} {s : Shared}
abbrev byText (w : World) : Bool := w.params.followText "set-order"
abbrev newSetO (w : World) : Obj := { cls := .type "set", dict := none, data := .set #[] 0 (.fresh 0 0 (!byText w)) }
theorem new_G (a : Value) {Q₁ : Value -> Shared -> Prop} (fin : Q₁ (.ref s.heap.objs.size) { s with heap := s.heap.push (newSetO w) }) : codeAny (model prog w) A (.call (.builtin "set.__new__") ⟨[.type "set", a], []⟩) (wants Q₁ E) s := by
 refine codeAny_of_tree ?_
 show wpAny _ A.in1 (do checkBuiltinCall "set.__new__" ⟨[.type "set", a], []⟩; again (.builtin "set.__new__" ⟨[.type "set", a], []⟩)) _ _ s
 refine wpAny_bind (wpAny_of_eq (F.newCall_set_1 a) (wpAny_pure ⟨plainId_quiet F.plain_set_new _, codeAny_builtin F.entry_set_new ?_⟩))
 rw [zq69x F.plain_set_new _]
 unfold Builtin.«set.__new__» Builtin.Frozenset.newClass
 have hsub := sub_set_self
 obtain ⟨hp, g, d, tk, os⟩ := s
 dsimp only at fin ⊢
 wp_walk
 refine wpAny_askSetting (wpAny_pure ?_)
 dsimp only
 simp only [newObj]
 exact wpAny_bind (wpAny_alloc (wpAny_pure (wpAny_pure fin)))
theorem callset_G {l : Addr} {items : Array Value} {ns : List Int} {Q : Value -> Shared -> Prop} (hh : A.handled = none) (hl : s.heap.IsList l items) (hi : IntsAre items.toList ns) (room : items.size + 1 < scanBound)
    (fin : ∀ (h' : Heap) (tk : Nat), h'.SetOf (IK prog w) s.heap.objs.size (met (fun i => ns.getD i 0) items.size) (firstMet (fun i => ns.getD i 0) items.size).length -> TAt (byText w) h' s.heap.objs.size ->
      (∀ b o, b < s.heap.objs.size -> s.heap.get? b = some o -> h'.get? b = some o) -> Q (.ref s.heap.objs.size) { s with heap := h', toks := tk }) : wpAny (model prog w) A (call (.type "set") [.ref l]) Q E s := by
  obtain ⟨c, tl, hmro⟩ := zq81x.mro
  have hmade := zq81x.made
  have hsub := zq81x.sub
  have h1 := zq81x.notType
  have h2 := zq81x.canCreate
  have hct := F.typeCall_set_1 (.ref l)
  refine wpAny_call (codeAny_of_tree ?_)
  show wpAny _ _ (callAny (.type "set") _) _ _ _
  refine wpAny_pure ⟨Code.quiet_builtin _ (by decide +kernel), codeAny_builtin F.entry_type_call ?_⟩
  rw [Around.under_plain (weight_type_call_type "set" [.ref l] []) rfl]
  repeat (any_goals (first | assumption | wp_step))
  refine codeAny_mono (new_G (.ref l) (E := E) (Q₁ := fun obj s₁ => obj = .ref s.heap.objs.size /\ s₁ = { s with heap := s.heap.push (newSetO w) }) ⟨rfl, rfl⟩) fun r s₁ hr => ?_
  cases r with
  | error e => exact hr
  | ok fl =>
    cases fl with
    | ret obj =>
      obtain ⟨rfl, rfl⟩ := hr
      have hS : (s.heap.push (newSetO w)).get? s.heap.objs.size = some (newSetO w) := zq27x _ rfl
      have hT : Shared.TypeIs { s with heap := s.heap.push (newSetO w) } (.ref s.heap.objs.size) "set" := ⟨_, hS, rfl⟩
      have hli := zq81x.init.lookup
      have hbi := zq81x.init.bind (.ref s.heap.objs.size)
      repeat (any_goals (first | assumption | wp_step))
      refine codeAny_mono (codeAny_call_builtin (R := wants (fun r s₂ => r = .none /\ ∃ h' tk, s₂ = { s with heap := h', toks := tk } /\ h'.SetOf (IK prog w) s.heap.objs.size (met (fun i => ns.getD i 0) items.size) (firstMet (fun i => ns.getD i 0) items.size).length /\ TAt (byText w) h' s.heap.objs.size /\
          (∀ b o, b < s.heap.objs.size -> s.heap.get? b = some o -> h'.get? b = some o)) E) zq81x.init.plain F.entry_set_init (check_set_init_1 hT ?_)) fun r₂ s₂ hr₂ => ?_
      · obtain ⟨ol, hol, hcl, nl, hdl⟩ := hl
        obtain ⟨ocls, odict, odata, oslots⟩ := ol
        simp only at hcl hdl
        subst hcl; subst hdl
        have hol' := zq7x (newSetO w) hol
        have hsls := F.sub_list_set
        have hslf := F.sub_list_frozenset
        have hne : (Value.type "list" == Value.type "dict") = false := by decide
        have hl1 : (s.heap.push (newSetO w)).IsList l items := ⟨_, hol', rfl, nl, rfl⟩
        unfold Builtin.«set.__init__» noKeywords Builtin.Frozenset.updateFrom
        generalize hPI : pyIter = PI
        wp_walk
        subst hPI
        refine wpAny_pyIter_list hl1 (wpAny_bind (wpAny_runValue ?_))
        have hlS : l < s.heap.objs.size := zq6x hol
        have sz1 : (s.heap.push (newSetO w)).objs.size = s.heap.objs.size + 1 := zq75x ..
        have n1 : l ≠ (s.heap.push (newSetO w)).objs.size := by rw [sz1]; exact zq12x (zq70x hlS)
        have n2 : s.heap.objs.size ∉ [(s.heap.push (newSetO w)).objs.size, l] := by
          rw [sz1]; intro z; rcases zq17x.mp z with z | z
          · exact absurd z (zq12x (zq107x _))
          · exact absurd (zq16x.mp z) (zq86x hlS)
        have h3 : A.in1.in1.in1.handled = none := by simp [hh]
        have hS' := zq7x ({ cls := .type "list_iterator", data := .fields #[.ref l, .int 0 0] } : Obj) hS
        refine loop_G (bt := byText w) ((Walks.list h3 _ l n1 items).toS) s.heap.objs.size n2 (fun i => ns.getD i 0) (fun i v e => IntsAre.int_at hi i v (by rw [zq74x]; exact e)) room (items.size - 0) 0 _ (by omega) (zq45x _)
          ⟨⟨_, zq27x _ rfl, rfl, rfl⟩, (hl1.push _)⟩ (SetOf_congr ((setObjOf_fresh (knd := IK prog w) (!byText w)).setOf hS' (by unfold scanBound; omega)) (fun _ => rfl) rfl) (.of hS' rfl .fresh) ?_
        intro s' mo q tt
        obtain ⟨h', g', d', tk', os'⟩ := s'
        obtain rfl : g' = s.gens := mo.gens
        obtain rfl : d' = s.drawn := mo.drawn
        obtain rfl : os' = s.os := mo.os
        refine wpAny_pure (wpAny_pure ⟨rfl, h', tk', rfl, q, tt, fun b o hb e => ?_⟩)
        refine mo.heap b o (fun z => ?_) (zq7x _ (zq7x _ e))
        rcases zq17x.mp z with z | z
        · exact absurd z (zq12x hb)
        · rw [sz1] at z; exact absurd (zq16x.mp z) (zq12x (zq70x hb))
      · cases r₂ with
        | error e => exact hr₂
        | ok fl₂ =>
          cases fl₂ with
          | ret r =>
            obtain ⟨rfl, h', tk, rfl, q1, q2, q3⟩ := hr₂
            repeat (any_goals (first | assumption | wp_step))
            exact fin _ _ q1 q2 q3
          | _ => exact hr₂.elim
    | _ => exact hr.elim
end
end L2
set_option maxRecDepth 100000
set_option maxHeartbeats 4000000
namespace L2
open PySem PySem.Spec PyProof.Rows
theorem sl_setiter_next : Slot "set_iterator" "__next__" "set_iterator.__next__" := .of (owner := "set_iterator") (n := "__next__") (by rw [typeLookup_type, builtinLookup_eq_fast]; kernel_rfl) (by decide +kernel) (by decide +kernel) (by decide +kernel) (by first | exact .inl (by decide +kernel) | exact .inr (by decide +kernel)) (by rw [isSubtype_type]; kernel_rfl)
theorem en_setiter_next : entryFor table "set_iterator.__next__" = some Builtin.«set_iterator.__next__» := entryFor_of_tree (by kernel_rfl)
theorem ar_setiter_next (a : Value) : argsOk "set_iterator.__next__" ⟨[a], []⟩ := by unfold argsOk; kernel_rfl
theorem sl_set_iter : Slot "set" "__iter__" "set.__iter__" := .of (owner := "set") (n := "__iter__") (by rw [typeLookup_type, builtinLookup_eq_fast]; kernel_rfl) (by decide +kernel) (by decide +kernel) (by decide +kernel) (by first | exact .inl (by decide +kernel) | exact .inr (by decide +kernel)) (by rw [isSubtype_type]; kernel_rfl)
theorem en_set_iter : entryFor table "set.__iter__" = some Builtin.«frozenset.__iter__» := entryFor_alias (id' := "frozenset.__iter__") (by kernel_rfl) rfl (by decide +kernel) (by kernel_rfl)
theorem ar_set_iter (a : Value) : argsOk "set.__iter__" ⟨[a], []⟩ := by unfold argsOk; kernel_rfl
theorem sl_setiter_iter : Slot "set_iterator" "__iter__" "set_iterator.__iter__" := .of (owner := "set_iterator") (n := "__iter__") (by rw [typeLookup_type, builtinLookup_eq_fast]; kernel_rfl) (by decide +kernel) (by decide +kernel) (by decide +kernel) (by first | exact .inl (by decide +kernel) | exact .inr (by decide +kernel)) (by rw [isSubtype_type]; kernel_rfl)
theorem en_setiter_iter : entryFor table "set_iterator.__iter__" = some Builtin.«dict_keyiterator.__iter__» := entryFor_alias (id' := "dict_keyiterator.__iter__") (by kernel_rfl) rfl (by decide +kernel) (by kernel_rfl)
theorem ar_setiter_iter (a : Value) : argsOk "set_iterator.__iter__" ⟨[a], []⟩ := by unfold argsOk; kernel_rfl
end L2
set_option maxRecDepth 100000
set_option maxHeartbeats 4000000
namespace L2
open PySem PySem.Spec PyProof.Rows
section
variable {prog : Program} {w : World} {A : Around} {E : Value -> Shared -> Prop} {s : Shared} {a it tp : Addr} {o : Obj} {es : Array (Int × Value)} {ep : Nat} {t : SetTable}
theorem erase_perm {α : Type} : ∀ {l : List α} {i : Nat} (h : i < l.length), (l[i] :: l.eraseIdx i).Perm l
  | b :: r, 0, _ => by simp
  | b :: r, i + 1, h => by
    have := erase_perm (l := r) (i := i) (by simpa using h)
    simp only [List.getElem_cons_succ, List.eraseIdx_cons_succ]
    exact (List.Perm.swap b _ _).trans (this.cons b)
theorem pick_perm {α : Type} (nx : Nat -> Nat) : ∀ (f k : Nat) (l : List α) (out : Array α), l.length <= f -> (pickOrder.go nx f k l out).toList.Perm (out.toList ++ l) := by
  intro f
  induction f with
  | zero =>
    intro k l out h
    have : l = [] := zq93x.mp (by omega)
    subst this
    unfold pickOrder.go
    simp
  | succ f ih =>
    intro k l out h
    unfold pickOrder.go
    cases l with
    | nil => simp
    | cons b r =>
      have hlt : nx k % (b :: r).length < (b :: r).length := Nat.mod_lt _ (by simp)
      rw [zq1x hlt]
      dsimp only
      refine (ih (k + 1) _ _ (by rw [zq181x hlt]; omega)).trans ?_
      rw [Array.toList_push, zq108x]
      refine zq182x _ ?_
      exact erase_perm hlt
theorem next_text (bt : byText w = true) (g1 : s.heap.get? a = some o) (g3 : o.data = .set es ep t) (g4 : t.fits es.size = true) {i sl : Nat} {Q : Option (Value × Nat) -> Shared -> Prop}
  (h : Q (((pickOrder (w.params.setOrder a ep) es)[i]?).map fun e => (e.2, sl)) s) : wpAny (model prog w) A (setNext a sl i ep) Q E s := by
 unfold setNext
 refine wpAny_bind (wpAny_setState_of g1 g3 g4 ?_)
 dsimp only
 unfold setsByText
 refine wpAny_bind (wpAny_bind (wpAny_askSetting (wpAny_pure ?_)))
 show wpAny _ _ (if byText w = true then _ else _) _ _ _
 rw [if_pos bt]
 rw [if_neg (by simp)]
 refine wpAny_bind ?_
 unfold setWalk
 refine wpAny_bind (wpAny_setState_of g1 g3 g4 ?_)
 dsimp only
 unfold setsByText
 refine wpAny_bind (wpAny_bind (wpAny_askSetting (wpAny_pure ?_)))
 show wpAny _ _ (if byText w = true then _ else _) _ _ _
 rw [if_pos bt]
 refine wpAny_bind (wpAny_askSetting (wpAny_pure ?_))
 exact wpAny_pure h
theorem next_plain (bt : byText w = false) (g1 : s.heap.get? a = some o) (g3 : o.data = .set es ep t) (g4 : t.fits es.size = true) (tk : TOk (byText w) t) (pl : t.plain = true \/ es.size <= 1) {i sl : Nat} {Q : Option (Value × Nat) -> Shared -> Prop}
  (h : Q (match es[SetTable.below t.place sl]?, t.place[SetTable.below t.place sl]? with | some (_, x), some j => some (x, j + 1) | _, _ => none) s) : wpAny (model prog w) A (setNext a sl i ep) Q E s := by
 unfold setNext
 refine wpAny_bind (wpAny_setState_of g1 g3 g4 ?_)
 dsimp only
 unfold setsByText
 refine wpAny_bind (wpAny_bind (wpAny_askSetting (wpAny_pure ?_)))
 show wpAny _ _ (if byText w = true then _ else _) _ _ _
 rw [bt, if_neg zq14x]
 show wpAny _ _ (if (!t.plain && decide (es.size > 1)) = true then _ else _) _ _ _
 rw [if_neg (by
  intro z
  rw [zq26x, Bool.not_eq_true', decide_eq_true_eq] at z
  rcases pl with p | p
  ·rw [p] at z; cases z.1
  ·omega)]
 refine wpAny_bind ?_
 show wpAny _ _ (if (!t.led && !es.isEmpty) = true then _ else _) _ _ _
 rw [if_neg (by rw [tk.led bt]; simp)]
 refine wpAny_pure ?_
 exact wpAny_pure h
theorem next_drawn (g1 : s.heap.get? a = some o) (g3 : o.data = .set es ep t) (g4 : t.fits es.size = true) {pl : Nat} {hx : Int} {x : Value} {Q : Value -> Shared -> Prop} (e : es[pl]? = some (hx, x)) (h : Q x s) : wpAny (model prog w) A (setNextDrawn a pl ep) Q E s := by
 unfold setNextDrawn
 refine wpAny_bind (wpAny_setState_of g1 g3 g4 ?_)
 dsimp only
 rw [if_neg (by simp)]
 rw [e]
 exact wpAny_pure h
def SIt (h : Heap) (it a : Addr) (first : Value) (i n ep : Nat) : Prop := ∃ o, h.get? it = some o /\ o.cls = .type "set_iterator" /\ o.data = .fields #[first, .int i 0, .ref a, .int n 0, .int ep 0]
theorem SIt.ty {first : Value} {i n : Nat} (h : SIt s.heap it a first i n ep) : s.TypeIs (.ref it) "set_iterator" := let ⟨o, e, c, _⟩ := h; ⟨o, e, c⟩
theorem sit_head {first : Value} {i n : Nat} {QQ : Fin -> Shared -> Prop} {EE : Value -> Shared -> Prop} (hit : SIt s.heap it a first i n ep) (g1 : s.heap.get? a = some o) (g3 : o.data = .set es ep t) (g4 : t.fits es.size = true) (hn : es.size = n)
    (h : wpAny (model prog w) A (match first with
      | .int slot _ => (do
        match <- setNext a slot.toNat i ep with
        | some (x, next) => do
          setField (.ref it) 0 (rawInt next)
          setField (.ref it) 1 (rawInt ((i : Int) + 1))
          ret x
        | none => do
          setField (.ref it) 2 .none
          raiseNew (<- newExc (.type "StopIteration") []))
      | _ => (do
        let some places <- seqItems? first | unsupported "internal:set_iterator"
        match places[i]? with
        | some (.int place _) => do
          let x <- setNextDrawn a place.toNat ep
          setField (.ref it) 1 (rawInt ((i : Int) + 1))
          ret x
        | some _ => unsupported "internal:set_iterator"
        | none => do
          setField (.ref it) 0 (rawInt 0)
          setField (.ref it) 2 .none
          raiseNew (<- newExc (.type "StopIteration") []))) QQ EE s) : wpAny (model prog w) A (Builtin.«set_iterator.__next__» ⟨[.ref it], []⟩) QQ EE s := by
  obtain ⟨oi, ho, hc, hd⟩ := hit
  unfold Builtin.«set_iterator.__next__»
  refine wpAny_bind (wpAny_pure ?_)
  refine wpAny_bind (wpAny_fieldsOf ho hd ?_)
  dsimp only
  refine wpAny_bind (wpAny_setEntries_of g1 g3 g4 ?_)
  rw [if_neg (by rw [hn]; simp)]
  cases first <;> exact h
theorem sit_upd {h : Heap} {first : Value} {i n k : Nat} {x : Value} {oi : Obj} {vs : Array Value} (ho : h.get? it = some oi) (hc : oi.cls = .type "set_iterator") (hd : oi.data = .fields vs) :
  (h.update it (Obj.mapFields (·.setIfInBounds k x))).get? it = some (Obj.mapFields (·.setIfInBounds k x) oi) /\ (Obj.mapFields (·.setIfInBounds k x) oi).cls = .type "set_iterator" /\ (Obj.mapFields (·.setIfInBounds k x) oi).data = .fields (vs.setIfInBounds k x) := by
 refine ⟨zq118x _ ho (Obj.isFreed_of_fields (Obj.data_mapFields hd _)), (Obj.cls_mapFields ..).trans hc, Obj.data_mapFields hd _⟩
theorem sit_item {sl i n nx : Nat} {x : Value} {Q : Option Value -> Shared -> Prop} (hit : SIt s.heap it a (.int sl 0) i n ep) (g1 : s.heap.get? a = some o) (g3 : o.data = .set es ep t) (g4 : t.fits es.size = true) (hn : es.size = n)
  (hN : ∀ (Q : Option (Value × Nat) -> Shared -> Prop) (E : Value -> Shared -> Prop), Q (some (x, nx)) s -> wpAny (model prog w) A.in1 (setNext a sl i ep) Q E s)
  (hQ : ∀ h', SIt h' it a (.int nx 0) (i + 1) n ep -> (∀ b, b ≠ it -> h'.get? b = s.heap.get? b) -> Q (some x) { s with heap := h' }) : wpAny (model prog w) A (pyNext (.ref it)) Q E s := by
 obtain ⟨oi, ho, hc, hd⟩ := id hit
 unfold pyNext
 refine wpAny_bind (wpAny_attempt (wpAny_callSpecial?_slot (name := Str.ofString "__next__") hit.ty sl_setiter_next (wpAny_call_entry sl_setiter_next hit.ty en_setiter_next ?_ (ar_setiter_next _))))
 refine sit_head hit g1 g3 g4 hn ?_
 dsimp only
 refine wpAny_bind (hN _ _ ?_)
 dsimp only
 obtain ⟨u1, u2, u3⟩ := sit_upd (first := .none) (i := 0) (n := 0) (k := 0) (x := rawInt nx) ho hc hd
 obtain ⟨w1, w2, w3⟩ := sit_upd (first := .none) (i := 0) (n := 0) (k := 1) (x := rawInt ((i : Int) + 1)) u1 u2 u3
 refine wpAny_bind (wpAny_setField ho hd (by simp) ?_)
 refine wpAny_bind (wpAny_setField u1 u3 (by simp) ?_)
 refine wpAny_pure ⟨x, rfl, wpAny_pure (hQ _ ⟨_, w1, w2, ?_⟩ fun b hb => ?_)⟩
 ·rw [w3]; simp [rawInt]
 ·exact ((zq59x _ _ (zq10x hb))).trans (zq59x _ _ (zq10x hb))
theorem stop_raise {QQ : Fin -> Shared -> Prop} {B : Around} {Q : Option Value -> Shared -> Prop} (hh : B.handled = none) (hQ : ∀ o1 o2, Q none { s with heap := (s.heap.push o1).push o2 }) : wpAny (model prog w) B (do raiseNew (<- newExc (.type "StopIteration") [])) QQ
  (fun e s' => wpAny (model prog w) A (do if <- isInstance e (.type "StopIteration") then pure none else throw e) Q E s') s := by
 refine wpAny_bind ?_
 simp only [newExc, newTuple]
 refine wpAny_bind (wpAny_newObj_type ?_ (by size_fits))
 refine wpAny_bind (m := firstArgMember _ _) (wpAny_of_eq (a := Value.none) (by first | rfl | (simp only [firstArgMember]; rfl)) (wpAny_newObj_type ?_ (by size_fits)))
 simp only [raiseNew]
 refine wpAny_bind (wpAny_handled ?_)
 rw [hh]
 refine wpAny_bind (wpAny_pure (wpAny_throw ?_))
 refine wpAny_bind (wpAny_isInstance (b := true) (T := "StopIteration") ⟨_, zq27x _ rfl, rfl⟩ isSubtype_stop ?_)
 exact wpAny_pure (hQ _ _)
theorem sit_end {sl i n : Nat} {Q : Option Value -> Shared -> Prop} (hh : A.handled = none) (hit : SIt s.heap it a (.int sl 0) i n ep) (g1 : s.heap.get? a = some o) (g3 : o.data = .set es ep t) (g4 : t.fits es.size = true) (hn : es.size = n)
  (hN : ∀ (Q : Option (Value × Nat) -> Shared -> Prop) (E : Value -> Shared -> Prop), Q none s -> wpAny (model prog w) A.in1 (setNext a sl i ep) Q E s)
  (hQ : ∀ h', (∀ b o, b ≠ it -> s.heap.get? b = some o -> h'.get? b = some o) -> Q none { s with heap := h' }) : wpAny (model prog w) A (pyNext (.ref it)) Q E s := by
 obtain ⟨oi, ho, hc, hd⟩ := id hit
 unfold pyNext
 refine wpAny_bind (wpAny_attempt (wpAny_callSpecial?_slot (name := Str.ofString "__next__") hit.ty sl_setiter_next (wpAny_call_entry sl_setiter_next hit.ty en_setiter_next ?_ (ar_setiter_next _))))
 refine sit_head hit g1 g3 g4 hn ?_
 dsimp only
 refine wpAny_bind (hN _ _ ?_)
 dsimp only
 refine wpAny_bind (wpAny_setField ho hd (by simp) ?_)
 exact stop_raise (B := A.in1) hh fun o1 o2 => hQ _ fun b o hb e => zq7x _ (zq7x _ ((zq59x _ _ (zq10x hb)).trans e))
theorem sit_itemT {i n pl : Nat} {hx : Int} {x : Value} {pls : Array Value} {Q : Option Value -> Shared -> Prop} (hit : SIt s.heap it a (.ref tp) i n ep) (g1 : s.heap.get? a = some o) (g3 : o.data = .set es ep t) (g4 : t.fits es.size = true) (hn : es.size = n)
  (htp : ∃ ot m, s.heap.get? tp = some ot /\ ot.data = .seq pls m) (hp : pls[i]? = some (.int pl 0)) (he : es[pl]? = some (hx, x))
  (hQ : ∀ h', SIt h' it a (.ref tp) (i + 1) n ep -> (∀ b, b ≠ it -> h'.get? b = s.heap.get? b) -> Q (some x) { s with heap := h' }) : wpAny (model prog w) A (pyNext (.ref it)) Q E s := by
 obtain ⟨oi, ho, hc, hd⟩ := id hit
 obtain ⟨ot, m, t1, t2⟩ := htp
 unfold pyNext
 refine wpAny_bind (wpAny_attempt (wpAny_callSpecial?_slot (name := Str.ofString "__next__") hit.ty sl_setiter_next (wpAny_call_entry sl_setiter_next hit.ty en_setiter_next ?_ (ar_setiter_next _))))
 refine sit_head hit g1 g3 g4 hn ?_
 dsimp only
 refine wpAny_bind (wpAny_seqItems t1 t2 ?_)
 dsimp only
 rw [hp]
 dsimp only
 refine wpAny_bind (next_drawn g1 g3 g4 (by simpa using he) ?_)
 obtain ⟨w1, w2, w3⟩ := sit_upd (first := .none) (i := 0) (n := 0) (k := 1) (x := rawInt ((i : Int) + 1)) ho hc hd
 refine wpAny_bind (wpAny_setField ho hd (by simp) (wpAny_pure ⟨x, rfl, wpAny_pure (hQ _ ⟨_, w1, w2, ?_⟩ fun b hb => zq59x _ _ (zq10x hb))⟩))
 rw [w3]; simp [rawInt]
theorem sit_endT {i n : Nat} {pls : Array Value} {Q : Option Value -> Shared -> Prop} (hh : A.handled = none) (hit : SIt s.heap it a (.ref tp) i n ep) (g1 : s.heap.get? a = some o) (g3 : o.data = .set es ep t) (g4 : t.fits es.size = true) (hn : es.size = n)
  (htp : ∃ ot m, s.heap.get? tp = some ot /\ ot.data = .seq pls m) (hp : pls[i]? = none)
  (hQ : ∀ h', (∀ b o, b ≠ it -> s.heap.get? b = some o -> h'.get? b = some o) -> Q none { s with heap := h' }) : wpAny (model prog w) A (pyNext (.ref it)) Q E s := by
 obtain ⟨oi, ho, hc, hd⟩ := id hit
 obtain ⟨ot, m, t1, t2⟩ := htp
 unfold pyNext
 refine wpAny_bind (wpAny_attempt (wpAny_callSpecial?_slot (name := Str.ofString "__next__") hit.ty sl_setiter_next (wpAny_call_entry sl_setiter_next hit.ty en_setiter_next ?_ (ar_setiter_next _))))
 refine sit_head hit g1 g3 g4 hn ?_
 dsimp only
 refine wpAny_bind (wpAny_seqItems t1 t2 ?_)
 dsimp only
 rw [hp]
 dsimp only
 obtain ⟨u1, u2, u3⟩ := sit_upd (first := .none) (i := 0) (n := 0) (k := 0) (x := rawInt 0) ho hc hd
 refine wpAny_bind (wpAny_setField ho hd (by simp) (wpAny_bind (wpAny_setField u1 u3 (by simp) ?_)))
 exact stop_raise (B := A.in1) hh fun o1 o2 => hQ _ fun b o hb e => zq7x _ (zq7x _ ((zq59x _ _ (zq10x hb)).trans ((zq59x _ _ (zq10x hb)).trans e)))
end
end L2
set_option maxRecDepth 100000
set_option maxHeartbeats 4000000
namespace L2
open PySem PySem.Spec PyProof.Rows
def slotAt (xs : Array Nat) : Nat -> Nat
 | 0 => 0
 | i + 1 => xs.getD i 0 + 1
theorem slot_z (xs : Array Nat) : slotAt xs 0 = 0 := rfl
theorem slot_s (xs : Array Nat) (i : Nat) : slotAt xs (i + 1) = xs.getD i 0 + 1 := rfl
theorem below_slot {xs : Array Nat} (hr : Ris xs) {i : Nat} (hi : i <= xs.size) : SetTable.below xs (slotAt xs i) = i := by
  obtain ⟨h1, h2, h3⟩ := below_at (q := slotAt xs i) hr
  have g : ∀ {j : Nat}, j < xs.size -> ∃ y, xs[j]? = some y /\ xs.getD j 0 = y := fun {j} hj => ⟨xs[j], zq61x hj, by rw [zq125x, zq61x hj]; rfl⟩
  rcases zq155x (SetTable.below xs (slotAt xs i)) i with z | z | z
  · obtain ⟨y, e, _⟩ := g (zq23x z hi)
    have := h3 _ y (zq3x _) e
    cases i with
    | zero => omega
    | succ i =>
      obtain ⟨y', e', d'⟩ := g (j := i) (by omega)
      have es := slot_s xs i
      rw [d'] at es
      rcases zq153x (Nat.le_of_lt_succ z) with z | z
      · have := hr _ _ _ _ z e e'; omega
      · rw [z, e'] at e; cases e; omega
  · exact z
  · obtain ⟨y, e, d⟩ := g (j := i) (by omega)
    have := h2 i y z e
    cases i with
    | zero => rw [slot_z] at this; omega
    | succ i =>
      obtain ⟨y', e', d'⟩ := g (j := i) (by omega)
      rw [slot_s, d'] at this
      have := hr i (i + 1) _ _ (by omega) e' e
      omega
section
variable {prog : Program} {w : World} {a I tp : Addr} {o : Obj} {es : Array (Int × Value)} {ep : Nat} {t : SetTable}
theorem fits_size (h : t.fits es.size = true) : t.place.size = es.size := by
 unfold SetTable.fits at h
 rw [zq26x] at h
 exact eq_of_beq h.1
theorem walks_text {A : Around} (hh : A.handled = none) (bt : byText w = true) (g3 : o.data = .set es ep t) (g4 : t.fits es.size = true) (hne : a ≠ I) :
  Walks prog w A I [I, a] [I] es.size (fun i v => ((pickOrder (w.params.setOrder a ep) es).toList.map (·.2))[i]? = some v) (fun i h => SIt h I a (.int (0 : Nat) 0) i es.size ep /\ h.get? a = some o) where
 sub := fun b hb => by simp at hb; simp [hb]
 frame := fun i h h' st hk => by
  obtain ⟨⟨oi, h1, h2, h3⟩, h4⟩ := st
  exact ⟨⟨oi, hk I (by simp) _ h1, h2, h3⟩, hk a (by simp) _ h4⟩
 item := fun i s Q E hi st hQ => by
  have hsz : (pickOrder (w.params.setOrder a ep) es).toList.length = es.size := by
   have := (pick_perm (w.params.setOrder a ep) es.size 0 es.toList #[] (by simp)).length_eq
   simpa [pickOrder] using this
  have hlt : i < (pickOrder (w.params.setOrder a ep) es).toList.length := by omega
  have e1 : (pickOrder (w.params.setOrder a ep) es)[i]? = some (pickOrder (w.params.setOrder a ep) es).toList[i] := by rw [<- zq74x]; exact zq1x hlt
  refine sit_item st.1 st.2 g3 g4 rfl (x := (pickOrder (w.params.setOrder a ep) es).toList[i].2) (nx := 0) (fun Q E q => next_text bt st.2 g3 g4 (by rw [e1]; exact q)) fun h' x1 x2 => ?_
  refine hQ _ h' s.toks (by rw [zq2x, zq1x hlt]; rfl) ⟨x1, (x2 a hne).trans st.2⟩ fun b o' hb e => (x2 b (fun z => hb (by simp [z]))).trans e
 done := fun s Q E st hQ => by
  have hsz : (pickOrder (w.params.setOrder a ep) es).toList.length = es.size := by
   have := (pick_perm (w.params.setOrder a ep) es.size 0 es.toList #[] (by simp)).length_eq
   simpa [pickOrder] using this
  refine sit_end hh st.1 st.2 g3 g4 rfl (fun Q E q => next_text bt st.2 g3 g4 (by rw [<- zq74x, zq13x (by omega)]; exact q)) fun h' x1 => hQ h' s.toks fun b o' hb e => x1 b o' (fun z => hb (by simp [z])) e
 self := fun i s Q E st hQ => by
  refine wpAny_pyIter_slot st.1.ty sl_setiter_iter (wpAny_call_entry sl_setiter_iter st.1.ty en_setiter_iter ?_ (ar_setiter_iter _))
  exact wpAny_pure ⟨_, rfl, "set_iterator", _, st.1.ty, sl_setiter_next.lookup, hQ⟩
theorem walks_plain {A : Around} (hh : A.handled = none) (bt : byText w = false) (g3 : o.data = .set es ep t) (g4 : t.fits es.size = true) (tk : TOk (byText w) t) (pl : t.plain = true \/ es.size <= 1) (hne : a ≠ I) :
  Walks prog w A I [I, a] [I] es.size (fun i v => (es.toList.map (·.2))[i]? = some v) (fun i h => SIt h I a (.int (slotAt t.place i) 0) i es.size ep /\ h.get? a = some o) where
 sub := fun b hb => by simp at hb; simp [hb]
 frame := fun i h h' st hk => by
  obtain ⟨⟨oi, h1, h2, h3⟩, h4⟩ := st
  exact ⟨⟨oi, hk I (by simp) _ h1, h2, h3⟩, hk a (by simp) _ h4⟩
 item := fun i s Q E hi st hQ => by
  have hps := fits_size g4
  have hr : Ris t.place := by
   rcases pl with p | p
   ·exact tk.ris p
   ·intro i j x y hij ex ey
    have := (zq106x.mp ey).1; omega
  have hlt : i < es.toList.length := by simpa using hi
  have e1 : es[i]? = some es.toList[i] := by rw [<- zq74x]; exact zq1x hlt
  have e2 : t.place[i]? = some (t.place.getD i 0) := by rw [zq125x, zq61x (by omega)]; rfl
  refine sit_item st.1 st.2 g3 g4 rfl (x := es.toList[i].2) (nx := slotAt t.place (i + 1)) (fun Q E q => next_plain bt st.2 g3 g4 tk pl (by rw [below_slot hr (by omega), e1, e2]; exact q)) fun h' x1 x2 => ?_
  refine hQ _ h' s.toks (by rw [zq2x, zq1x hlt]; rfl) ⟨x1, (x2 a hne).trans st.2⟩ fun b o' hb e => (x2 b (fun z => hb (by simp [z]))).trans e
 done := fun s Q E st hQ => by
  have hps := fits_size g4
  have hr : Ris t.place := by
   rcases pl with p | p
   ·exact tk.ris p
   ·intro i j x y hij ex ey
    have := (zq106x.mp ey).1; omega
  refine sit_end hh st.1 st.2 g3 g4 rfl (fun Q E q => next_plain bt st.2 g3 g4 tk pl (by rw [below_slot hr (by omega), zq152x (zq3x _)]; exact q)) fun h' x1 => hQ h' s.toks fun b o' hb e => x1 b o' (fun z => hb (by simp [z])) e
 self := fun i s Q E st hQ => by
  refine wpAny_pyIter_slot st.1.ty sl_setiter_iter (wpAny_call_entry sl_setiter_iter st.1.ty en_setiter_iter ?_ (ar_setiter_iter _))
  exact wpAny_pure ⟨_, rfl, "set_iterator", _, st.1.ty, sl_setiter_next.lookup, hQ⟩
theorem walks_drawn {A : Around} {ks : List Nat} (hh : A.handled = none) (g3 : o.data = .set es ep t) (g4 : t.fits es.size = true) (hk : ks.Perm (List.range es.size)) (hne : a ≠ I) (hnt : tp ≠ I) :
    Walks prog w A I [I, a, tp] [I] es.size (fun i v => ((ks.filterMap (es[·]?)).map (·.2))[i]? = some v) (fun i h => SIt h I a (.ref tp) i es.size ep /\ h.get? a = some o /\ ∃ ot m, h.get? tp = some ot /\ ot.data = .seq (ks.map fun (k : Nat) => rawInt k).toArray m) where
  sub := fun b hb => by simp at hb; simp [hb]
  frame := fun i h h' st hk => by
    obtain ⟨⟨oi, h1, h2, h3⟩, h4, ot, m, h5, h6⟩ := st
    exact ⟨⟨oi, hk I (by simp) _ h1, h2, h3⟩, hk a (by simp) _ h4, ot, m, hk tp (by simp) _ h5, h6⟩
  item := fun i s Q E hi st hQ => by
    have hlen : ks.length = es.size := by rw [hk.length_eq]; simp
    have hin : ∀ k ∈ ks, k < es.size := fun k m => by simpa using hk.mem_iff.mp m
    have hi' : i < ks.length := by omega
    have hki := hin ks[i] (zq28x hi')
    have e1 : es[ks[i]]? = some es[ks[i]] := zq61x hki
    have fm : ∀ (l : List Nat), (∀ k ∈ l, k < es.size) -> ∀ j (hj : j < l.length), (l.filterMap (es[·]?))[j]? = es[l[j]]? := by
      intro l
      induction l with
      | nil => intro _ j hj; simp at hj
      | cons b r ih =>
        intro hl j hj
        have hb := hl b (zq22x ..)
        rw [zq97x, zq61x hb]
        cases j with
        | zero => simp [zq61x hb]
        | succ j => simpa using ih (fun k m => hl k (zq25x _ m)) j (by simpa using hj)
    refine sit_itemT st.1 st.2.1 g3 g4 rfl st.2.2 (pl := ks[i]) (hx := es[ks[i]].1) (x := es[ks[i]].2) (by simp [zq1x hi', rawInt]) e1 fun h' x1 x2 => ?_
    obtain ⟨ot, m, t1, t2⟩ := st.2.2
    refine hQ _ h' s.toks ?_ ⟨x1, (x2 a hne).trans st.2.1, ot, m, (x2 tp hnt).trans t1, t2⟩ fun b o' hb e => (x2 b (fun z => hb (by simp [z]))).trans e
    rw [zq2x, fm ks hin i hi', e1]; rfl
  done := fun s Q E st hQ => by
    have hlen : ks.length = es.size := by rw [hk.length_eq]; simp
    exact sit_endT hh st.1 st.2.1 g3 g4 rfl st.2.2 (by simp; omega) fun h' x1 => hQ h' s.toks fun b o' hb e => x1 b o' (fun z => hb (by simp [z])) e
  self := fun i s Q E st hQ => by
    refine wpAny_pyIter_slot st.1.ty sl_setiter_iter (wpAny_call_entry sl_setiter_iter st.1.ty en_setiter_iter ?_ (ar_setiter_iter _))
    exact wpAny_pure ⟨_, rfl, "set_iterator", _, st.1.ty, sl_setiter_next.lookup, hQ⟩
end
section
variable {prog : Program} {w : World} {A : Around} {E : Value -> Shared -> Prop} {s : Shared} {a : Addr} {o : Obj} {es : Array (Int × Value)} {ep : Nat} {t : SetTable}
theorem range_get {α : Type} : ∀ l : List α, (List.range l.length).filterMap (fun i => l[i]?) = l
  | [] => rfl
  | x :: l => by
    have := range_get l
    rw [zq67x, zq156x, zq97x, List.filterMap_map]
    simpa [Function.comp_def] using this
theorem choose_any {src : Source} {n : Nat} {Q : Nat -> Shared -> Prop} (hn : n ≠ 0) (h : ∀ i d', i < n -> Q i { s with drawn := d' }) : wpAny (model prog w) A (choose src n) Q E s := fun Γ p _ => ⟨hn, h _ _ (Nat.mod_lt _ (Nat.pos_of_ne_zero hn))⟩
theorem draw_perm {α : Type} : ∀ (n : Nat) (xs : List α) (s : Shared) (Q : List α -> Shared -> Prop), xs.length <= n -> (∀ ks d', ks.Perm xs -> Q ks { s with drawn := d' }) -> wpAny (model prog w) A (drawOrder n xs) Q E s
  | 0, xs, s, Q, hl, h => by
    have : xs = [] := zq93x.mp (by omega)
    subst this
    unfold drawOrder
    exact wpAny_pure (h [] s.drawn .nil)
  | n + 1, [], s, Q, hl, h => by
    unfold drawOrder
    exact wpAny_pure (h [] s.drawn .nil)
  | n + 1, x :: xs, s, Q, hl, h => by
    unfold drawOrder
    refine wpAny_bind (choose_any (by simp) fun i d' hi => ?_)
    rw [zq1x hi]
    dsimp only
    refine wpAny_bind (draw_perm n _ _ _ (by rw [zq181x hi]; simp at hl ⊢; omega) fun ks d2 hk => ?_)
    exact wpAny_pure (h _ d2 ((hk.cons _).trans (erase_perm hi)))
theorem drawn_of (g1 : s.heap.get? a = some o) (g3 : o.data = .set es ep t) (g4 : t.fits es.size = true) {Q : Bool -> Shared -> Prop} (h : Q (!byText w && (!t.plain && decide (es.size > 1))) s) : wpAny (model prog w) A (setDrawn a) Q E s := by
 unfold setDrawn
 refine wpAny_bind (wpAny_setState_of g1 g3 g4 ?_)
 dsimp only
 unfold setsByText
 refine wpAny_bind (wpAny_bind (wpAny_askSetting (wpAny_pure ?_)))
 exact wpAny_pure h
theorem epoch_of (g1 : s.heap.get? a = some o) (g3 : o.data = .set es ep t) (g4 : t.fits es.size = true) {Q : Nat -> Shared -> Prop} (h : Q ep s) : wpAny (model prog w) A (setEpoch a) Q E s := by
 unfold setEpoch
 exact wpAny_bind (wpAny_setState_of g1 g3 g4 (wpAny_pure h))
theorem iter_G {Q : Value -> Shared -> Prop} (hb : es.size < scanBound) (g1 : s.heap.get? a = some o) (g2 : o.ExactSet) (g3 : o.data = .set es ep t) (g4 : t.fits es.size = true) (tk : TOk (byText w) t)
    (hQ : ∀ (I : Addr) (h' : Heap) d' (items : List Value) (fp : List Addr) (St : Nat -> Heap -> Prop), (∀ b o, s.heap.get? b = some o -> h'.get? b = some o) -> s.heap.objs.size <= I -> (∀ b ∈ fp, b = a \/ s.heap.objs.size <= b) -> I ∈ fp -> (∀ b ∈ fp, b < h'.objs.size) -> items.Perm (es.toList.map (·.2)) ->
      (∀ B : Around, B.handled = none -> Walks prog w B I fp [I] items.length (fun i v => items[i]? = some v) St) -> St 0 h' -> Q (.ref I) { s with heap := h', drawn := d' }) : wpAny (model prog w) A (pyIter (.ref a)) Q E s := by
  have hT : s.TypeIs (.ref a) "set" := ⟨o, g1, g2.1⟩
  have hlt := zq6x g1
  refine wpAny_pyIter_slot hT sl_set_iter (wpAny_call_entry sl_set_iter hT en_set_iter ?_ (ar_set_iter _))
  unfold Builtin.«frozenset.__iter__»
  unfold Builtin.Frozenset.slot0 slotArgs
  simp only [List.isEmpty_nil, Bool.not_true, zq82x, ↓reduceIte, bind_assoc, zq157x, bne_self_eq_false]
  unfold Builtin.Frozenset.addrOf Builtin.Frozenset.sizeOf
  refine wpAny_bind (wpAny_pure ?_)
  try dsimp only
  refine wpAny_bind (wpAny_pure ?_)
  refine wpAny_bind (wpAny_bind (wpAny_setEntries_of g1 g3 g4 (wpAny_pure ?_)))
  refine wpAny_bind (drawn_of g1 g3 g4 ?_)
  by_cases c : (!byText w && (!t.plain && decide (es.size > 1))) = true
  · rw [if_pos c]
    refine wpAny_bind (draw_perm es.size (List.range es.size) s _ (by simp) fun ks d' hk => ?_)
    unfold newTuple
    refine wpAny_bind (wpAny_newObj_type ?_ ?_)
    rotate_left
    · have hk0 : ks.length = es.size := by rw [hk.length_eq]; simp
      show (List.map (fun (i : Nat) => rawInt i) ks).toArray.size <= sizeLine
      rw [zq18x, zq0x, hk0]
      exact fits_of_scanBound hb
    have g1' := zq7x ({ cls := .type "tuple", data := .seq (ks.map fun (i : Nat) => rawInt i).toArray } : Obj) g1
    refine wpAny_bind (epoch_of (s := { s with heap := _, drawn := d' }) g1' g3 g4 ?_)
    unfold newFields
    refine wpAny_bind (wpAny_newObj_type ?_)
    have hk0 : ks.length = es.size := by rw [hk.length_eq]; simp
    have fin := hQ
    clear hQ
    have sz1 : (s.heap.push ({ cls := .type "tuple", data := .seq (ks.map fun (i : Nat) => rawInt i).toArray } : Obj)).objs.size = s.heap.objs.size + 1 := zq75x ..
    have gT : (s.heap.push ({ cls := .type "tuple", data := .seq (ks.map fun (i : Nat) => rawInt i).toArray } : Obj)).get? s.heap.objs.size = some { cls := .type "tuple", data := .seq (ks.map fun (i : Nat) => rawInt i).toArray } := zq27x _ rfl
    have gO : ∀ b o, s.heap.get? b = some o -> (s.heap.push ({ cls := .type "tuple", data := .seq (ks.map fun (i : Nat) => rawInt i).toArray } : Obj)).get? b = some o := fun b o e => zq7x _ e
    generalize hh1 : s.heap.push ({ cls := .type "tuple", data := .seq (ks.map fun (i : Nat) => rawInt i).toArray } : Obj) = h1 at g1' sz1 gT gO ⊢
    have gI : (h1.push ({ cls := .type "set_iterator", data := .fields #[.ref s.heap.objs.size, rawInt 0, .ref a, rawInt es.size, rawInt ep] } : Obj)).get? h1.objs.size = some { cls := .type "set_iterator", data := .fields #[.ref s.heap.objs.size, rawInt 0, .ref a, rawInt es.size, rawInt ep] } := zq27x _ rfl
    have gS := zq7x ({ cls := .type "set_iterator", data := .fields #[.ref s.heap.objs.size, rawInt 0, .ref a, rawInt es.size, rawInt ep] } : Obj) g1'
    have gT' := zq7x ({ cls := .type "set_iterator", data := .fields #[.ref s.heap.objs.size, rawInt 0, .ref a, rawInt es.size, rawInt ep] } : Obj) gT
    have sz2 : (h1.push ({ cls := .type "set_iterator", data := .fields #[.ref s.heap.objs.size, rawInt 0, .ref a, rawInt es.size, rawInt ep] } : Obj)).objs.size = h1.objs.size + 1 := zq75x ..
    subst hh1
    refine wpAny_pure ⟨_, rfl, "set_iterator", _, ⟨_, gI, rfl⟩, sl_setiter_next.lookup, ?_⟩
    have pp : (ks.filterMap (es[·]?)).Perm es.toList := by
      have := hk.filterMap (es[·]?)
      have e : (List.range es.size).filterMap (es[·]?) = es.toList := by
        have := range_get es.toList
        simpa using this
      rwa [e] at this
    have hn : ((ks.filterMap (es[·]?)).map (·.2)).length = es.size := by rw [zq0x, pp.length_eq]; simp
    have nlt := zq158x (zq107x s.heap.objs.size) sz1.symm
    refine fin _ _ d' ((ks.filterMap (es[·]?)).map (·.2)) [_, a, s.heap.objs.size] _ (fun b o e => zq7x _ (gO b o e)) (zq43x nlt) (fun b m => ?_) (zq22x ..) (fun b m => ?_) (pp.map _) (fun B hB => by rw [hn]; exact walks_drawn hB g3 g4 hk (zq12x (zq55x hlt nlt)) (zq12x nlt)) ?_
    · rcases zq17x.mp m with e | m
      · exact .inr (by rw [e]; exact zq43x nlt)
      · rcases zq17x.mp m with e | m
        · exact .inl e
        · exact .inr (zq119x (zq16x.mp m).symm)
    · refine zq158x ?_ sz2.symm
      rcases zq17x.mp m with e | m
      · rw [e]; exact zq107x _
      · rcases zq17x.mp m with e | m
        · rw [e]; exact zq70x (zq55x hlt nlt)
        · rw [zq16x.mp m]; exact zq70x nlt
    · exact ⟨⟨_, gI, rfl, rfl⟩, gS, _, _, gT', rfl⟩
  · rw [if_neg c]
    refine wpAny_bind (wpAny_pure ?_)
    refine wpAny_bind (epoch_of g1 g3 g4 ?_)
    unfold newFields
    refine wpAny_bind (wpAny_newObj_type ?_)
    have gI : (s.heap.push ({ cls := .type "set_iterator", data := .fields #[rawInt 0, rawInt 0, .ref a, rawInt es.size, rawInt ep] } : Obj)).get? s.heap.objs.size = some { cls := .type "set_iterator", data := .fields #[rawInt 0, rawInt 0, .ref a, rawInt es.size, rawInt ep] } := zq27x _ rfl
    have gS := zq7x ({ cls := .type "set_iterator", data := .fields #[rawInt 0, rawInt 0, .ref a, rawInt es.size, rawInt ep] } : Obj) g1
    have hfp : ∀ b ∈ [s.heap.objs.size, a], b = a \/ s.heap.objs.size <= b := fun b m => by
      rcases zq17x.mp m with e | m
      · exact .inr (zq119x e.symm)
      · exact .inl (zq16x.mp m)
    have hsz : (s.heap.push ({ cls := .type "set_iterator", data := .fields #[rawInt 0, rawInt 0, .ref a, rawInt es.size, rawInt ep] } : Obj)).objs.size = s.heap.objs.size + 1 := zq75x ..
    have hlts : ∀ b ∈ [s.heap.objs.size, a], b < (s.heap.push ({ cls := .type "set_iterator", data := .fields #[rawInt 0, rawInt 0, .ref a, rawInt es.size, rawInt ep] } : Obj)).objs.size := fun b m => by
      rw [hsz]
      rcases zq17x.mp m with e | m
      · rw [e]; exact zq107x _
      · rw [zq16x.mp m]; exact zq70x hlt
    refine wpAny_pure ⟨_, rfl, "set_iterator", _, ⟨_, gI, rfl⟩, sl_setiter_next.lookup, ?_⟩
    cases bt : byText w with
    | true =>
      have pp : (pickOrder (w.params.setOrder a ep) es).toList.Perm es.toList := by simpa [pickOrder] using pick_perm (w.params.setOrder a ep) es.size 0 es.toList #[] (by simp)
      have hn : ((pickOrder (w.params.setOrder a ep) es).toList.map (·.2)).length = es.size := by rw [zq0x, pp.length_eq]; simp
      refine hQ _ _ s.drawn ((pickOrder (w.params.setOrder a ep) es).toList.map (·.2)) [s.heap.objs.size, a] _ (fun b o e => zq7x _ e) (zq3x _) hfp (by simp) hlts (pp.map _) (fun B hB => by rw [hn]; exact walks_text hB bt g3 g4 (zq12x hlt)) ?_
      exact ⟨⟨_, gI, rfl, rfl⟩, gS⟩
    | false =>
      have pl : t.plain = true \/ es.size <= 1 := by
        rw [bt, Bool.not_false, zq127x] at c
        cases hp : t.plain with
        | true => exact .inl rfl
        | false =>
          rw [hp, Bool.not_false, zq127x, decide_eq_true_eq] at c
          exact .inr (by omega)
      have hn : (es.toList.map (·.2)).length = es.size := by simp
      refine hQ _ _ s.drawn (es.toList.map (·.2)) [s.heap.objs.size, a] _ (fun b o e => zq7x _ e) (zq3x _) hfp (by simp) hlts (.refl _) (fun B hB => by rw [hn]; exact walks_plain hB bt g3 g4 tk pl (zq12x hlt)) ?_
      exact ⟨⟨_, gI, rfl, rfl⟩, gS⟩
end
end L2
set_option maxRecDepth 100000
set_option maxHeartbeats 4000000
namespace L2
open PySem PySem.Spec PyProof.Rows
section
variable {prog : Program} {w : World} {A : Around} {E : Value -> Shared -> Prop} {s : Shared} {a : Addr} {o : Obj} {es : Array (Int × Value)} {ep : Nat} {t : SetTable}
theorem hint_set {Q : Bool -> Shared -> Prop} (hT : s.TypeIs (.ref a) "set") (h : Q false s) : wpAny (model prog w) A (Builtin.List.listLengthHint (.ref a)) Q E s := by
 unfold Builtin.List.listLengthHint
 refine wpAny_bind (wpAny_specialOf hT PySem.F.slot_set_len.lookup ?_)
 generalize hid : ("set.__len__" : String) = id0
 wp_delta
 rw [show splitId id0 = some ("set", "__len__") from by subst hid; decide +kernel]
 subst hid
 refine wpAny_bind (wpAny_isInstance (b := true) (T := "set") hT (by rw [isSubtype_type]; kernel_rfl) ?_)
 refine wpAny_ite_split (fun z => absurd z (by decide)) fun _ => wpAny_ite_split (fun _ => ?_) fun z => absurd (by decide +kernel) z
 exact wpAny_bind (wpAny_typeOf hT (wpAny_pure h))
theorem items_eq {items : List Value} {acc : Array Value} (h : ItemsOf (fun i v => items[i]? = some v) acc items.length) : acc.toList = items := by
 apply zq35x
 intro i
 by_cases hi : i < acc.size
 ·have e : acc[i]? = some acc[i] := zq61x hi
  rw [zq74x, e, h.2 i _ e]
 ·have := h.1
  rw [zq13x (by simp; omega), zq13x (by omega)]
theorem collect_set {Q : List Value -> Shared -> Prop} (hh : A.handled = none) (hb : es.size < scanBound) (g1 : s.heap.get? a = some o) (g2 : o.ExactSet) (g3 : o.data = .set es ep t) (g4 : t.fits es.size = true) (tk : TOk (byText w) t)
  (hQ : ∀ h' d' tk' items, (∀ b o, s.heap.get? b = some o -> h'.get? b = some o) -> s.heap.objs.size <= h'.objs.size -> items.Perm (es.toList.map (·.2)) -> Q items { s with heap := h', drawn := d', toks := tk' }) : wpAny (model prog w) A (collect (.ref a)) Q E s := by
 have hlt := zq6x g1
 unfold collect
 refine wpAny_bind (wpAny_runValue (codeAny_builtin zq183x ?_))
 rw [zq69x zq184x _]
 show wpAny _ A.in1 (newList [] >>= fun l => again (.builtin "list.__iadd__" ⟨[l, .ref a], []⟩)) _ _ s
 refine wpAny_bind (wpAny_newObj_type ?_)
 refine wpAny_pure ⟨plainId_quiet zq128x _, codeAny_builtin zq185x ?_⟩
 rw [zq69x zq128x _]
 have gL : (s.heap.push ({ cls := .type "list", data := .seq ([] : List Value).toArray } : Obj)).get? s.heap.objs.size = some { cls := .type "list", data := .seq ([] : List Value).toArray } := zq27x _ rfl
 have gA := zq7x ({ cls := .type "list", data := .seq ([] : List Value).toArray } : Obj) g1
 have szL : (s.heap.push ({ cls := .type "list", data := .seq ([] : List Value).toArray } : Obj)).objs.size = s.heap.objs.size + 1 := zq75x ..
 show wpAny _ A.in1 (Builtin.List.listExtendWith (.ref s.heap.objs.size) (.ref a) (.ref s.heap.objs.size)) _ _ { s with heap := s.heap.push ({ cls := .type "list", data := .seq ([] : List Value).toArray } : Obj) }
 have hkeep : ∀ b o, s.heap.get? b = some o -> (s.heap.push ({ cls := .type "list", data := .seq ([] : List Value).toArray } : Obj)).get? b = some o := fun b o e => zq7x _ e
 generalize s.heap.push ({ cls := .type "list", data := .seq ([] : List Value).toArray } : Obj) = h1 at gL gA szL hkeep ⊢
 unfold Builtin.List.listExtendWith
 refine wpAny_bind (wpAny_typeOf (T := "set") ⟨o, gA, g2.1⟩ ?_)
 have n1 : Builtin.List.listSameRef (.ref s.heap.objs.size) (.ref a) = false := by
  show (s.heap.objs.size == a) = false
  exact beq_eq_false_iff_ne.mpr (zq86x hlt)
 have n2 : (Value.type "set" == Value.type "list") = false := by decide
 have n3 : (Value.type "set" == Value.type "tuple") = false := by decide
 simp only [n1, n2, n3, zq90x, zq82x, if_false]
 refine wpAny_bind (iter_G (s := { s with heap := h1 }) hb gA g2 g3 g4 tk fun I h2 d' items fp St k1 k2 k3 k4 k5 pp W st => ?_)
 have gA2 := k1 _ _ gA
 have gL2 := k1 _ _ gL
 refine wpAny_bind (wpAny_holding (hint_set (s := { s with heap := h2, drawn := d' }) ⟨o, gA2, g2.1⟩ ?_))
 have lS : s.heap.objs.size < h1.objs.size := zq158x (zq107x _) szL.symm
 have nS : s.heap.objs.size ∉ fp := fun m => by
  rcases k3 _ m with e | e
  ·exact absurd e (zq86x hlt)
  ·exact absurd (zq23x lS e) (zq51x _)
 have hil : items.length <= sizeLine := by
  rw [pp.length_eq, zq0x, zq44x]; exact fits_of_scanBound hb
 have key : ∀ (h3 : Heap) (c : Nat), St 0 h3 -> (∀ b o, b ≠ s.heap.objs.size -> h2.get? b = some o -> h3.get? b = some o) -> h3.get? s.heap.objs.size = some { cls := .type "list", data := .seq #[] c } ->
   codeAny (model prog w) A (.builtin "list.extend.loop" ⟨[.ref s.heap.objs.size, .ref I, .ref s.heap.objs.size], []⟩) (fun r s' => match r with
    | .ok (.ret v) => wpAny (model prog w) A (match v with | .ref x => (do match (<- load x).data with | .seq xs _ => pure xs.toList | _ => unsupported "internal:collect") | _ => unsupported "internal:collect") Q E s'
    | .ok _ => False
    | .error e => E e s') { s with heap := h3, drawn := d' } := by
  intro h3 c st3 q1 q2
  refine codeAny_extend_loopS ((W A.in1 hh).toS) hil _ nS _ items.length 0 _ #[] c rfl (zq45x _) st3 q2 (ItemsOf.nil _) fun s' acc c' mo q3 q4 => ?_
  refine wpAny_bind (wpAny_load q3 (wpAny_pure ?_))
  rw [items_eq q4, Moved.eq_with mo]
  refine hQ s'.heap d' s'.toks items (fun b o e => ?_) ?_ pp
  ·have nb : b ≠ s.heap.objs.size := zq12x (zq6x e)
   refine mo.heap b o (fun m => ?_) (q1 b o nb (k1 b o (hkeep b o e)))
   rcases zq17x.mp m with z | z
   ·exact nb z
   ·have z := zq16x.mp z
    rw [z] at e
    exact absurd (zq23x (zq55x (zq6x e) lS) k2) (zq51x _)
  ·exact zq43x (zq6x q3)
 refine wpAny_ite_split (fun _ => ?_) fun _ => wpAny_pure ⟨plainId_quiet zq186x _, key h2 _ st (fun _ _ _ e => e) gL2⟩
 refine wpAny_bind (wpAny_rule (wpAny_bind ?_))
 show wpAny _ A.in1 (updateSeq s.heap.objs.size (·.push .none) >>= fun _ => updateSeq s.heap.objs.size (·.pop)) _ _ _
 have u1 := zq118x (Obj.mapSeq (·.push Value.none)) gL2 rfl
 have u2 := zq118x (Obj.mapSeq (·.pop)) u1 rfl
 refine wpAny_bind (wpAny_updateSeq gL2 rfl (wpAny_updateSeq (hz := by seq_fits) u1 rfl ?_))
 have oth : ∀ b o, b ≠ s.heap.objs.size -> h2.get? b = some o -> ((h2.update s.heap.objs.size (Obj.mapSeq (·.push Value.none))).update s.heap.objs.size (Obj.mapSeq (·.pop))).get? b = some o := fun b o nb e => (zq59x _ _ (zq10x nb)).trans ((zq59x _ _ (zq10x nb)).trans e)
 exact wpAny_pure ⟨plainId_quiet zq186x _, key _ _ ((W A.in1 hh).frame 0 _ _ st fun b m o e => oth b o (fun z => nS (z ▸ m)) e) oth u2⟩
theorem ints_all {ks : List Int -> Prop} : ∀ {vs : List Value}, (∀ v ∈ vs, ∃ k t, v = .int k t) -> ∃ ns, IntsAre vs ns
  | [], _ => ⟨[], .nil⟩
  | v :: vs, h => by
    obtain ⟨k, t, rfl⟩ := h v (zq22x ..)
    obtain ⟨ns, hn⟩ := ints_all (ks := ks) fun v m => h v (zq25x _ m)
    exact ⟨k :: ns, .cons k t hn⟩
theorem ints_mem : ∀ {vs : List Value} {ns : List Int}, IntsAre vs ns -> ∀ k, k ∈ ns ↔ ∃ t, .int k t ∈ vs
  | _, _, .nil, k => by simp
  | _, _, .cons j t h, k => by
    rw [zq17x, ints_mem h k]
    constructor
    · rintro (rfl | ⟨t', m⟩)
      · exact ⟨_, zq22x ..⟩
      · exact ⟨t', zq25x _ m⟩
    · rintro ⟨t', m⟩
      rcases zq17x.mp m with e | m
      · cases e; exact .inl rfl
      · exact .inr ⟨t', m⟩
theorem sorted_set {S : Int -> Bool} {n : Nat} {Q : Value -> Shared -> Prop} (hh : A.handled = none) (hS : s.heap.SetOf (IK prog w) a S n) (hT : TAt (byText w) s.heap a) (h64 : n < 64)
  (h : ∀ h' d' tk' (l : Addr) (out : List Value) (ns : List Int) (e : Nat), (∀ b o, s.heap.get? b = some o -> h'.get? b = some o) -> s.heap.objs.size <= l -> h'.get? l = some (seqObj "list" out.toArray e) -> IntsAre out ns -> ns.Pairwise (· <= ·) -> (∀ k, S k = true ↔ k ∈ ns) -> ns.length = n ->
   Q (.ref l) { s with heap := h', drawn := d', toks := tk' }) : wpAny (model prog w) A (call (.builtin "sorted") [.ref a]) Q E s := by
 obtain ⟨o, es, ep, t, g1, g2, g3, l1, l2, l3, l4, sz⟩ := hS
 refine zq129x kind_sorted plain_sorted entry_sorted (args_sorted1 _) ?_
 unfold Builtin.«sorted»
 refine wpAny_bind (m := checkCount "sorted" 1 1 _) (wpAny_pure (wpAny_bind ?_))
 refine collect_set (A := A.in1) hh l3 g1 g2 g3 l4 (hT o es ep t g1 g3) fun h1 d1 tk1 items k1 k2 pp => ?_
 have hint : ∀ v ∈ items, ∃ k t, v = .int k t := fun v m => by
  obtain ⟨e, m', rfl⟩ := zq9x.mp (pp.mem_iff.mp m)
  obtain ⟨⟨k, hk, _⟩, _⟩ := l1 e m'
  obtain ⟨t, ht⟩ := zq114x hk
  exact ⟨k, t, ht⟩
 obtain ⟨ns, hI⟩ := ints_all (ks := fun _ => True) hint
 have hlen : items.length = n := by rw [pp.length_eq, zq0x, zq44x, sz]
 refine wpAny_bind (wpAny_newList ?_)
 have gL : (h1.push (seqObj "list" items.toArray 0)).get? h1.objs.size = some (seqObj "list" items.toArray 0) := zq27x _ rfl
 refine wpAny_bind (wpAny_holding (wpAny_call_entry slot_list_sort ⟨_, gL, rfl⟩ entry_list_sort (list_sort_tree gL hI (by omega) fun out ns' a1 a2 a3 => ⟨_, rfl, ?_⟩) (args_list_sort _)))
 obtain ⟨e, he⟩ := sortedHeap_at (out := out) gL
 refine wpAny_pure ⟨_, rfl, h _ d1 tk1 h1.objs.size out.toList ns' e (fun b o q => ?_) k2 (by simpa using he) a1 a3 (fun k => ?_) ?_⟩
 ·have lb := zq6x (k1 b o q)
  rw [sortedHeap_old (zq12x lb) (by rw [zq75x]; exact zq70x lb)]
  exact zq7x _ (k1 b o q)
 ·rw [a2.mem_iff, ints_mem hI, l2 k]
  constructor
  ·rintro ⟨e, m, q⟩
   obtain ⟨t, ht⟩ := zq114x q
   exact ⟨t, pp.mem_iff.mpr (ht ▸ zq9x.mpr ⟨e, m, rfl⟩)⟩
  ·rintro ⟨t, m⟩
   obtain ⟨e, m', q⟩ := zq9x.mp (pp.mem_iff.mp m)
   exact ⟨e, m', by rw [q]; exact intKind_is _ _ _ _⟩
 ·rw [a2.length_eq, <- hI.length, hlen]
end
end L2
set_option maxRecDepth 100000
set_option maxHeartbeats 4000000
namespace L2
open PySem PySem.Spec PyProof.Rows
def SetX (P : Program) (w : World) (a : Addr) (S : Int -> Bool) (n : Nat) : HO := .ext fun h => h.SetOf (IK P w) a S n /\ TAt (byText w) h a
theorem Inv.dr {X : Cx} {pins : List (Addr × Obj)} {σ : St} {H : Hp} {s : Shared} (I : Inv X pins σ H s) (d : Drawn) : Inv X pins σ H { s with drawn := d } :=
 ⟨I.ok, I.os, I.bare, I.base, I.loc, I.cell, I.free, I.freeC, I.pin, I.hok, I.len⟩
theorem vals_intsA : ∀ {ns : List Int} {us : List Value}, Vals (ns.map V.int) us -> IntsAre us ns
  | [], _, .nil => .nil
  | n :: ns, _, .cons r t => by
    obtain ⟨k, rfl⟩ := r
    exact .cons n k (vals_intsA t)
theorem ints_vals : ∀ {us : List Value} {ns : List Int}, IntsAre us ns -> Vals (ns.map V.int) us
 | _, _, .nil => .nil
 | _, _, .cons k t h => .cons ⟨t, rfl⟩ (ints_vals h)
theorem nodup_step {σ : List Int} {k : Int} (h : σ.Nodup) : (step_dedup σ k).Nodup := by
 unfold step_dedup
 split
 ·exact h
 ·rename_i q
  rw [zq130x]
  refine ⟨h, by simp, fun x hx y hy => ?_⟩
  rw [zq16x.mp hy]
  intro e
  subst e
  exact q (by simp [hx])
theorem firstMet_nodup (val : Nat -> Int) : ∀ i, (firstMet val i).Nodup
 | 0 => zq159x
 | i + 1 => by rw [firstMet_succ]; exact nodup_step (firstMet_nodup val i)
theorem perm_of_sub : ∀ {ds ns : List Int}, ds.Nodup -> (∀ k ∈ ds, k ∈ ns) -> ns.length <= ds.length -> ds.Perm ns
  | [], ns, _, _, hl => by
    have : ns = [] := zq93x.mp (by simpa using hl)
    rw [this]
  | d :: ds, ns, hd, hs, hl => by
    have hm := hs d (zq22x ..)
    obtain ⟨h1, h2⟩ := zq65x.mp hd
    have hp := List.perm_cons_erase hm
    refine (List.Perm.cons d (perm_of_sub h2 (fun k hk => ?_) ?_)).trans hp.symm
    · rcases zq17x.mp (hp.mem_iff.mp (hs k (zq25x _ hk))) with e | e
      · subst e; exact absurd hk h1
      · exact e
    · have := hp.length_eq; simp at this hl ⊢; omega
def rSetOf (P : Program) (w : World) (K : PySem.W.Frag) : List V -> Hp -> VK -> Prop := fun xs H Q => ∃ p, ∃ ns : List Int, xs = [.ref p] /\ SqL K H p (ns.map V.int) /\ ns.length <= 4000 /\ ∀ a (ms : List Int), H a = none -> ms.Nodup -> (∀ k, k ∈ ms ↔ k ∈ ns) -> Q (.ref a) (upd H a (SetX P w a (fun k => ms.any (· == k)) ms.length))
def rSorted (P : Program) (w : World) : List V -> Hp -> VK -> Prop := fun xs H Q => ∃ a, ∃ ms : List Int, xs = [.ref a] /\ H a = some (SetX P w a (fun k => ms.any (· == k)) ms.length) /\ ms.Nodup /\ ms.length < 64 /\
 ∀ l (rs : List Int), H l = none -> rs.Pairwise (· < ·) -> (∀ k, k ∈ rs ↔ k ∈ ms) -> Q (.ref l) (upd H l (.lst (rs.map V.int)))
section
variable {X : Cx}
theorem call_setM (hc : X.calm = true) : CallR X (.type "set") (rSetOf X.prog X.w X.K) := by
 intro pins s σ H xs us Q I rv h
 obtain ⟨p, ns, rfl, hp, hn, q⟩ := h
 obtain ⟨u, rfl, ru⟩ := vals1 rv
 cases ru
 obtain ⟨its, rs, il, hz⟩ := I.list hp
 have hI := vals_intsA rs
 have hlen := hI.length
 refine callset_G (I.ok.hd hc) il.isList (by simpa using hI) (by rw [zq18x]; unfold scanBound; omega) fun h' tk q1 q2 q3 => ?_
 have hmem : ∀ k, k ∈ firstMet (fun i => ns.getD i 0) its.toArray.size ↔ k ∈ ns := fun k => by
  have e := firstMet_any (fun i => ns.getD i 0) its.toArray.size k
  have e2 : (List.range its.toArray.size).map (fun i => ns.getD i 0) = ns := by
   rw [zq18x, hlen]
   apply List.ext_getElem
   ·simp
   ·intro i h1 h2
    simp [zq11x, zq1x h2]
  rw [e2] at e
  have a1 : ∀ (l : List Int), (l.any (· == k)) = true ↔ k ∈ l := fun l => by
   rw [zq100x]
   exact ⟨fun ⟨x, m, z⟩ => (beq_iff_eq.mp z) ▸ m, fun m => ⟨k, m, beq_self_eq_true _⟩⟩
  rw [<- a1, <- a1, e]
 have kp : ∀ b u, s.heap.get? b = some u -> h'.get? b = some u := fun b u e => q3 b u (zq6x e) e
 have new : ObjOk X.prog X.w (upd H s.heap.objs.size (SetX X.prog X.w s.heap.objs.size (fun k => (firstMet (fun i => ns.getD i 0) its.toArray.size).any (· == k)) (firstMet (fun i => ns.getD i 0) its.toArray.size).length)) h' s.heap.objs.size (SetX X.prog X.w s.heap.objs.size (fun k => (firstMet (fun i => ns.getD i 0) its.toArray.size).any (· == k)) (firstMet (fun i => ns.getD i 0) its.toArray.size).length) := by
  refine ⟨⟨q1, q2⟩, ?_, fun h1 h2 z k => ?_⟩
  ·obtain ⟨o, _, _, _, ho, _⟩ := q1; exact ⟨o, ho⟩
  ·obtain ⟨⟨o, es, ep, t, ho, r⟩, tt⟩ := z
   exact ⟨⟨o, es, ep, t, k o ho, r⟩, tt.keep ho (k o ho)⟩
 exact ⟨.ref s.heap.objs.size, _, I.laid (t' := tk) kp (zq3x _) new, rfl, q _ _ (I.hok.fresh (zq3x _)) (firstMet_nodup _ _) hmem⟩
theorem call_sortM (hc : X.calm = true) : CallR X (.builtin "sorted") (rSorted X.prog X.w) := by
 intro pins s σ H xs us Q I rv h
 obtain ⟨a, ms, rfl, hH, nd, h64, q⟩ := h
 obtain ⟨u, rfl, ru⟩ := vals1 rv
 cases ru
 obtain ⟨⟨q1, q2⟩, _, _⟩ := I.hok a _ hH
 refine sorted_set (I.ok.hd hc) q1 q2 h64 fun h' d' tk' l out ns e kp hl gl hI pw hm hn => ?_
 have a1 : ∀ k, (ms.any (· == k)) = true ↔ k ∈ ms := fun k => by
  rw [zq100x]
  exact ⟨fun ⟨x, m, z⟩ => (beq_iff_eq.mp z) ▸ m, fun m => ⟨k, m, beq_self_eq_true _⟩⟩
 have hm' : ∀ k, k ∈ ns ↔ k ∈ ms := fun k => by rw [<- hm k, a1]
 have pp := perm_of_sub nd (fun k m => (hm' k).mpr m) (zq119x hn)
 have ndn : ns.Nodup := pp.nodup_iff.mp nd
 have lt : ns.Pairwise (· < ·) := by
  have := pw.and ndn
  exact this.imp fun ⟨x, y⟩ => by omega
 have new : ObjOk X.prog X.w (upd H l (.lst (ns.map V.int))) h' l (.lst (ns.map V.int)) := by
  refine ⟨?_, out, e, ints_vals hI, gl⟩
  rw [zq0x, hn]; exact zq24x (zq43x h64) (by decide)
 exact ⟨.ref l, _, (I.laid (t' := tk') kp hl new).dr d', rfl, q _ _ (I.hok.fresh hl) lt hm'⟩
end
theorem EvN.sortedSet {G : Gx} {ρ : Rh} {te : TE} {P : Program} {w : World} {K : PySem.W.Frag} {Θ : Bool -> List PyData -> Prop} (h : Ev G ρ te fun _ x => ∃ ns : List Int, x = .list (ns.map .int) /\ ns.length < 64 /\ ∀ rs : List Int, rs.Pairwise (· < ·) -> (∀ k, k ∈ rs ↔ k ∈ ns) -> Θ true (rs.map .int)) :
  EvN G ρ (tCB (rSorted P w) (tCons (tCB (rSetOf P w K) (tCons te tNil)) tNil)) Θ := fun nb σ H Q W z =>
 h nb σ H _ W fun f v H1 x ⟨ns, ex, hn, q⟩ s1 hv => by
  subst ex
  obtain ⟨a, xs, rfl, na, hx, hd⟩ := hv.ofL
  have e := isDs_ints_eq hd
  subst e
  refine ⟨a, ns, rfl, .of hx, by omega, fun b ms hb nd hm => ?_⟩
  have hms : ms.length <= ns.length := zq94x nd fun k m => (hm k).mp m
  refine ⟨b, ms, rfl, upd_same, nd, by omega, fun l rs hl lt hm' => ?_⟩
  have s2 : Step G.B H1 (upd H1 b (SetX P w b (fun k => ms.any (· == k)) ms.length)) := .same s1.2 (same_new hb)
  exact EvN.fin (f := true) W (s1.trans s2) hl (isDs_intsL rs) (q rs lt fun k => (hm' k).trans (hm k)) z
theorem nodup_below {ms : List Int} {m : Int} (nd : ms.Nodup) (h : ∀ k ∈ ms, 0 <= k /\ k < m) : ms.length <= m.toNat := by
 have := zq94x nd (l₂ := (List.range m.toNat).map fun (i : Nat) => (i : Int)) fun k hk => by
  have := h k hk
  exact zq9x.mpr ⟨k.toNat, zq52x.mpr (by omega), by omega⟩
 rwa [zq0x, zq50x] at this
end L2
set_option maxRecDepth 100000
set_option maxHeartbeats 4000000
set_option maxRecDepth 100000
set_option maxHeartbeats 4000000
set_option maxRecDepth 100000
set_option maxHeartbeats 4000000
set_option maxRecDepth 100000
set_option maxHeartbeats 4000000
set_option maxRecDepth 100000
set_option maxHeartbeats 4000000
set_option maxRecDepth 100000
set_option maxHeartbeats 4000000
set_option maxRecDepth 100000
set_option maxHeartbeats 4000000
set_option maxRecDepth 100000
set_option maxHeartbeats 4000000
set_option maxRecDepth 100000
set_option maxHeartbeats 4000000
set_option maxRecDepth 100000
set_option maxHeartbeats 4000000
set_option maxRecDepth 100000
set_option maxHeartbeats 4000000
set_option maxRecDepth 100000
set_option maxHeartbeats 4000000
namespace L2
open PySem PySem.Spec PyProof.Rows
def rRange1 : List V -> Hp -> VK -> Prop := fun xs H Q => ∃ j : Int, xs = [.int j] /\ ∀ a, H a = none -> Q (.ref a) (upd H a (.rng 0 j))
def rListR : List V -> Hp -> VK -> Prop := fun xs H Q => ∃ (a : Addr) (lo hi : Int), xs = [.ref a] /\ H a = some (.rng lo hi) /\ (-10000 <= lo /\ lo <= 10000 /\ -10000 <= hi /\ hi <= 10000) /\ ∀ l, H l = none -> Q (.ref l) (upd H l (.lst (((List.range (hi - lo).toNat).map fun (i : Nat) => lo + (i : Int)).map V.int)))
def rSum (K : PySem.W.Frag) : List V -> Hp -> VK -> Prop := fun xs H Q => ∃ p, ∃ ns : List Int, xs = [.ref p] /\ SqL K H p (ns.map V.int) /\ Q (.int ns.sum) H
def rAll (K : PySem.W.Frag) : List V -> Hp -> VK -> Prop := fun xs H Q => ∃ p, ∃ bs : List Bool, xs = [.ref p] /\ SqL K H p (bs.map V.bl) /\ Q (.bl (bs.all id)) H
section
variable {X : Cx}
theorem call_rangeM : CallR X (.type "range") rRange1 := by
 intro pins s σ H xs us Q I rv h
 obtain ⟨j, rfl, q⟩ := h
 obtain ⟨u, rfl, ru⟩ := vals1 rv
 obtain ⟨t, rfl⟩ := ru
 refine call_range_1 ?_
 exact ⟨.ref s.heap.objs.size, _, I.laid (t' := s.toks + 1 + 1) (o := .rng 0 j) (fun b o e => zq7x _ e) (zq3x _) ⟨_, _, _, zq27x _ rfl⟩, rfl, q _ (I.hok.fresh (zq3x _))⟩
theorem call_listR (hc : X.calm = true) : CallR X (.type "list") rListR := by
  intro pins s σ H xs us Q I rv h
  obtain ⟨a, lo, hi, rfl, hH, hb, q⟩ := h
  obtain ⟨u, rfl, ru⟩ := vals1 rv
  cases ru
  obtain ⟨t, u, v, e⟩ := (show ObjOk X.prog X.w H s.heap a (.rng lo hi) from I.hok a _ hH)
  refine call_list_range (n := (hi - lo).toNat) (I.ok.hd hc) (show IsRange s.heap a lo hi 1 t u v from e) (small_one (by omega) (by omega) (by omega) (by omega)) (rangeSize_nat lo hi) (by omega) fun h' tk acc c' kp hl hi' => ?_
  have vv : Vals (((List.range (hi - lo).toNat).map fun (i : Nat) => lo + (i : Int)).map V.int) acc.toList := by
    have key : ∀ (n : Nat) (l : List Value), l.length = n -> ∀ b : Int, (∀ (j : Nat) (v : Value), l[j]? = some v -> ∃ t, v = Value.int (b + (j : Int)) t) -> Vals (((List.range n).map fun (i : Nat) => b + (i : Int)).map V.int) l := by
      intro n
      induction n with
      | zero => intro l hl b _; rw [zq93x.mp hl]; exact .nil
      | succ n ih =>
        intro l hl b hv
        cases l with
        | nil => cases hl
        | cons x r =>
          obtain ⟨t, e⟩ := hv 0 x rfl
          rw [zq156x, zq8x, zq8x]
          refine .cons ⟨t, by simpa using e⟩ ?_
          have := ih r (by simpa using hl) (b + 1) (fun j v e => by
            obtain ⟨t, z⟩ := hv (j + 1) v (by simpa using e)
            exact ⟨t, by rw [z]; congr 1; omega⟩)
          rw [zq71x] at this ⊢
          rw [zq71x]
          have e : ∀ i : Nat, ((V.int ∘ fun (i : Nat) => b + (i : Int)) ∘ Nat.succ) i = (V.int ∘ fun (i : Nat) => b + 1 + (i : Int)) i := fun i => by
            show V.int (b + ((i + 1 : Nat) : Int)) = V.int (b + 1 + (i : Int)); congr 1; omega
          rw [zq131x fun i _ => e i]
          exact this
    refine key _ _ (by rw [zq44x]; exact hi'.1) lo fun j v e => ?_
    obtain ⟨t, z⟩ := hi'.2 j v (by rw [<- zq74x]; exact e)
    exact ⟨t, by rw [z]; congr 1; omega⟩
  refine ⟨.ref s.heap.objs.size, _, I.laid (t' := tk) (o := .lst (((List.range (hi - lo).toNat).map fun (i : Nat) => lo + (i : Int)).map V.int)) kp (zq3x _) ⟨?_, acc.toList, c', vv, by simpa using hl⟩, rfl, q _ (I.hok.fresh (zq3x _))⟩
  rw [zq0x, zq0x, zq50x]
  exact zq24x (show (hi - lo).toNat <= 20000 by omega) (by decide)
theorem call_sumM (hc : X.calm = true) : CallR X (.builtin "sum") (rSum X.K) := by
 intro pins s σ H xs us Q I rv h
 obtain ⟨p, ns, rfl, hp, q⟩ := h
 obtain ⟨u, rfl, ru⟩ := vals1 rv
 cases ru
 obtain ⟨its, rs, il, hz⟩ := I.list hp
 have hI := vals_intsA rs
 obtain ⟨ys, e⟩ := hI.allInts.items
 have hn := hI.numsOf
 refine sum_intListG (xs := ys) (I.ok.hd hc) (by rw [<- e]; exact il.isList) fun h' tk t' kp => ?_
 have e2 : preSum (numAt ys) ys.size = ns.sum := by
  rw [preSum_eq, zq160x (by simp), <- nums_intItems, <- e, <- hn]
 rw [e2]
 exact ⟨.int ns.sum, H, I.kept kp, ⟨_, rfl⟩, q⟩
theorem call_allM (hc : X.calm = true) : CallR X (.builtin "all") (rAll X.K) := by
  intro pins s σ H xs us Q I rv h
  obtain ⟨p, bs, rfl, hp, q⟩ := h
  obtain ⟨u, rfl, ru⟩ := vals1 rv
  cases ru
  obtain ⟨its, rs, il, hz⟩ := I.list hp
  have hl := rs.length
  have hv : ∀ (i : Nat) (v : Value), its.toArray[i]? = some v -> v = .bool (bs.getD i false) := fun i v e => by
    have hi : i < bs.length := by
      have := (zq106x.mp e).1
      rw [zq0x] at hl
      simp at this; omega
    obtain ⟨u, hu, ru⟩ := rs.get (i := i) (x := .bl bs[i]) (by rw [zq2x, zq1x hi]; rfl)
    rw [zq180x, hu] at e
    cases e
    rw [zq11x, zq1x hi]
    exact ru
  have ll := il.isList
  have hlt : p < s.heap.objs.size := by obtain ⟨o, e, _⟩ := ll; exact zq6x e
  refine call_all_walk (wpAny_pyIter_list ll ⟨s.heap.objs.size, _, _, _, _, _, fun i => bs.getD i false, rfl, Walks.list (A := X.A.in1) (I.ok.hd hc) _ p (zq12x hlt) its.toArray, ⟨⟨_, zq27x _ rfl, rfl, rfl⟩, ll.push _⟩, fun i v s Q E hP hQ => ?_, fun h' tk kp => ?_⟩)
  · rw [hv i v hP]; exact wpAny_truthy_bool hQ
  · have e : (List.range its.toArray.size).all (fun i => bs.getD i false) = bs.all id := by
      have hs : its.toArray.size = bs.length := by rw [zq0x] at hl; simp; omega
      rw [hs]
      clear hv hl rs q hp hs hz
      induction bs with
      | nil => rfl
      | cons b r ih =>
        rw [zq67x, zq156x, zq73x, zq73x, List.all_map]
        simpa [Function.comp_def] using congrArg (b && ·) ih
    rw [e]
    refine ⟨.bl (bs.all id), H, I.kept fun b o q => kp b o (fun m => ?_) (zq7x _ q), rfl, q⟩
    have := zq16x.mp m
    rw [this] at q
    exact absurd (zq6x q) (zq51x _)
end
section
variable {G : Gx} {ρ : Rh} {te : TE} {K : PySem.W.Frag} {Φ : Pd}
theorem EvN.listRange {Θ : Bool -> List PyData -> Prop} (h : Ev G ρ te fun _ x => ∃ n : Int, x = .int n /\ -10000 <= n /\ n <= 10000 /\ Θ true (((List.range n.toNat).map fun (i : Nat) => (0 : Int) + (i : Int)).map .int)) : EvN G ρ (tCB rListR (tCons (tCB rRange1 (tCons te tNil)) tNil)) Θ := fun nb σ H Q W z =>
 h nb σ H _ W fun f v H1 x ⟨n, ex, h1, h2, q⟩ s1 hv => by
  subst ex
  rw [hv.ofI]
  refine ⟨n, rfl, fun a ha => ⟨a, 0, n, rfl, upd_same, by omega, fun l hl => ?_⟩⟩
  rw [zq161x]
  exact EvN.fin (f := true) W (s1.trans (.same s1.2 (same_new ha))) hl (isDs_intsL _) q z
theorem Ev.sum (h : Ev G ρ te fun _ x => ∃ ns : List Int, x = .list (ns.map .int) /\ Φ true (.int ns.sum)) : Ev G ρ (tCB (rSum K) (tCons te tNil)) Φ := fun nb σ H Q W z =>
 h nb σ H _ W fun f v H1 x ⟨ns, ex, q⟩ s1 hv => by
  subst ex
  obtain ⟨a, xs, rfl, na, hx, hd⟩ := hv.ofL
  have e := isDs_ints_eq hd
  subst e
  exact ⟨a, ns, rfl, .of hx, z true _ H1 _ q s1 (.int _)⟩
theorem isDs_bools_eq {nb : Addr -> Prop} {H : Hp} : ∀ {is : List Bool} {xs : List V}, IsDs nb H (is.map PyData.bool) xs -> xs = is.map V.bl
  | [], _, h => by unfold List.map IsDs at h; exact h
  | i :: is, _, h => by
    rw [zq8x] at h
    unfold IsDs at h
    obtain ⟨y, ys, rfl, h1, h2⟩ := h
    unfold IsD at h1
    rw [zq8x, h1, isDs_bools_eq h2]
theorem Ev.all (h : Ev G ρ te fun _ x => ∃ bs : List Bool, x = .list (bs.map .bool) /\ Φ true (.bool (bs.all id))) : Ev G ρ (tCB (rAll K) (tCons te tNil)) Φ := fun nb σ H Q W z =>
 h nb σ H _ W fun f v H1 x ⟨bs, ex, q⟩ s1 hv => by
  subst ex
  obtain ⟨a, xs, rfl, na, hx, hd⟩ := hv.ofL
  have e := isDs_bools_eq hd
  subst e
  exact ⟨a, bs, rfl, .of hx, z true _ H1 _ q s1 (.bl _)⟩
end
end L2
set_option maxRecDepth 100000
set_option maxHeartbeats 4000000
namespace L2
open PySem PySem.Spec PyProof.Rows
def isiD : PyData -> String -> Bool
 | .bool _, T => T == "bool" || T == "int"
 | .int _, T => T == "int"
 | .str _, T => T == "str"
 | .list _, T => T == "list"
 | .tuple _, T => T == "tuple"
 | _, _ => false
def tyD : PyData -> String
 | .none => "NoneType" | .bool _ => "bool" | .int _ => "int" | .str _ => "str" | .list _ => "list" | .tuple _ => "tuple" | .dict _ => "dict"
theorem isi_list (ds : List PyData) : isiD (.list ds) "list" = true /\ isiD (.list ds) "tuple" = false := ⟨rfl, rfl⟩
theorem isi_tuple (ds : List PyData) : isiD (.tuple ds) "list" = false /\ isiD (.tuple ds) "tuple" = true := ⟨rfl, rfl⟩
theorem tyD_of {K : PySem.W.Frag} {nb : Addr -> Prop} {H : Hp} {d : PyData} {v : V} (h : IsD nb H d v) : TyOf K H v (.type (tyD d)) := by
 cases d <;> unfold IsD at h
 ·subst h; exact .non
 ·subst h; exact .bl _
 ·subst h; exact .int _
 ·subst h; exact .str _
 ·obtain ⟨a, xs, rfl, _, e, _⟩ := h; exact .lst e
 ·obtain ⟨a, xs, rfl, _, e, _⟩ := h; exact .tup e
 ·obtain ⟨a, xs, rfl, _, e, _⟩ := h; exact e.elim .dK fun ⟨_, e⟩ => .fzd e
def five (T : String) : Prop := T = "int" \/ T = "bool" \/ T = "list" \/ T = "tuple" \/ T = "str"
theorem kit_of {K : PySem.W.Frag} {d : PyData} {T : String} (hT : five T) : PySem.W.kitOne K (.type (tyD d)) (.type T) = some (isiD d T) := by
 rcases hT with rfl | rfl | rfl | rfl | rfl <;> cases d <;> (with_unfolding_all rfl)
theorem kit_any {K : PySem.W.Frag} {d : PyData} : ∀ {Ts : List String}, (∀ T ∈ Ts, five T) -> PySem.W.kitAny K (.type (tyD d)) (Ts.map Value.type) = some (Ts.any (isiD d))
  | [], _ => rfl
  | T :: r, h => by
    rw [zq8x]
    unfold PySem.W.kitAny
    rw [kit_of (h T (zq22x ..)), zq66x]
    cases isiD d T with
    | true => rfl
    | false => exact kit_any fun T m => h T (zq25x _ m)
def rIsiT : List V -> Hp -> VK -> Prop := fun xs H Q => ∃ (x : V) (tp : Addr) (Ts : List String) (nb : Addr -> Prop) (d : PyData), xs = [x, .ref tp] /\ H tp = some (.tup (Ts.map V.ty)) /\ IsD nb H d x /\ (∀ T ∈ Ts, five T) /\ Q (.bl (Ts.any (isiD d))) H
theorem vals_ty : ∀ {Ts : List String} {us : List Value}, Vals (Ts.map V.ty) us -> us = Ts.map Value.type
 | [], _, .nil => rfl
 | T :: r, _, .cons h t => by rw [zq8x, vals_ty t, show _ = Value.type T from h]
section
variable {X : Cx}
theorem call_isiT : CallR X (.builtin "isinstance") rIsiT := by
 intro pins s σ H xs us Q I rv h
 obtain ⟨x, tp, Ts, nb, d, rfl, ht, hd, h5, q⟩ := h
 obtain ⟨u, v, rfl, ru, rv⟩ := rv.two
 cases (show v = Value.ref tp from rv)
 obtain ⟨_, its, vt, o, ho, hc, n, hdat⟩ := (show ObjOk X.prog X.w H s.heap tp (.tup (Ts.map V.ty)) from I.hok tp _ ht)
 have e := vals_ty vt
 subst e
 obtain ⟨c0, d0, dt, sl⟩ := o
 dsimp only at hc hdat
 subst hc hdat
 have fin : ∀ tk, EP X pins σ Q (.bool (Ts.any (isiD d))) { s with toks := tk } := fun tk => ⟨.bl _, H, I.tok tk, rfl, q⟩
 have ka := kit_any (K := X.K) (d := d) h5
 cases d <;> unfold IsD at hd
 ·subst hd; cases (show u = Value.none from ru); exact zq95x PySem.W.kitx_none I.kIn True.intro ho ka (fun z => nomatch z) fin
 ·subst hd; cases (show u = Value.bool _ from ru); exact zq95x PySem.W.kitx_bool I.kIn True.intro ho ka (fun z => nomatch z) fin
 ·subst hd; obtain ⟨t, rfl⟩ := (show ∃ t, u = Value.int _ t from ru); exact zq95x PySem.W.kitx_int I.kIn True.intro ho ka (fun z => nomatch z) fin
 ·subst hd; obtain ⟨t, rfl⟩ := (show ∃ t, u = Value.str _ t from ru); exact zq95x PySem.W.kitx_str I.kIn True.intro ho ka (fun z => nomatch z) fin
 ·obtain ⟨a, ys, rfl, _, ea, _⟩ := hd
  cases (show u = Value.ref a from ru)
  obtain ⟨_, _, n, _, h1⟩ := (show ObjOk X.prog X.w H s.heap a (.lst ys) from I.hok a _ ea)
  exact zq95x zq140x I.kIn ⟨_, h1, rfl⟩ ho ka (fun z => nomatch z) fin
 ·obtain ⟨a, ys, rfl, _, ea, _⟩ := hd
  cases (show u = Value.ref a from ru)
  obtain ⟨_, _, _, o', h1, h2, _⟩ := (show ObjOk X.prog X.w H s.heap a (.tup ys) from I.hok a _ ea)
  exact zq95x PySem.W.kitx_tuple I.kIn ⟨o', h1, h2⟩ ho ka (fun z => nomatch z) fin
 ·obtain ⟨a, ys, rfl, _, ea, _⟩ := hd
  cases (show u = Value.ref a from ru)
  obtain ⟨_, _, vs, _, dd⟩ := (show ObjOk X.prog X.w H s.heap a (.dK ys) from ea.ok I.hok)
  exact zq95x zq117x I.kIn dd.typeIs ho ka (fun z => nomatch z) fin
end
section
variable {G : Gx} {ρ : Rh} {ta tb te : TE} {K : PySem.W.Frag} {Φ : Pd} {T U : String}
theorem Ev.isi (hT : five T) (h : Ev G ρ te fun _ x => Φ true (.bool (isiD x T))) : Ev G ρ (tCB (rIsi K) (tCons te (tCons (tC (.ty T)) tNil))) Φ := fun nb σ H Q W z =>
 h nb σ H _ W fun f v H1 d q s1 hv => ⟨v, T, _, _, rfl, tyD_of hv, kit_of hT, z true _ H1 _ q s1 (.bl _)⟩
theorem Ev.isi2 (hT : five T) (hU : five U) (h : Ev G ρ te fun _ x => Φ true (.bool (isiD x T || isiD x U))) : Ev G ρ (tCB rIsiT (tCons te (tCons (tTup (tCons (tC (.ty T)) (tCons (tC (.ty U)) tNil))) tNil))) Φ := fun nb σ H Q W z =>
 h nb σ H _ W fun f v H1 d q s1 hv => by
  refine ⟨by show 2 <= sizeLine; decide, fun p hp => ⟨v, p, [T, U], G.S nb f, d, rfl, upd_same, hv.keep (But.of (same_new hp)), fun S m => ?_, ?_⟩⟩
  ·rcases zq17x.mp m with e | m
   ·rw [e]; exact hT
   ·rw [zq16x.mp m]; exact hU
  ·rw [zq66x, zq66x, List.any_nil, zq90x]
   exact z true _ _ _ q (s1.trans (.same s1.2 (same_new hp))) (.bl _)
theorem Ev.lenS (h : Ev G ρ te fun _ x => ∃ ds, (x = .list ds \/ x = .tuple ds) /\ Φ true (.int ds.length)) : Ev G ρ (tCB (rLen K) (tCons te tNil)) Φ := fun nb σ H Q W z =>
 h nb σ H _ W fun f v H1 d ⟨ds, e, q⟩ s1 hv => by
  rcases e with e | e
  ·subst e
   obtain ⟨a, xs, rfl, n, hx, hd⟩ := hv.ofL
   exact ⟨a, xs, rfl, .inl (.of hx), by rw [hd.length]; exact z true _ H1 _ q s1 (.int _)⟩
  ·subst e
   obtain ⟨a, xs, rfl, n, hx, hd⟩ := hv.ofT
   exact ⟨a, xs, rfl, .inr (.of hx), by rw [hd.length]; exact z true _ H1 _ q s1 (.int _)⟩
theorem Ev.ixS (h : Ev G ρ ta fun f x => ∃ ds, (x = .list ds \/ x = .tuple ds) /\ Ev G ρ tb fun _ y => ∃ k, y = .int k /\ ∃ e, atI ds k = some e /\ Φ f e) : Ev G ρ (tOp (rIx K) ta tb) Φ :=
 Ev.op2 (h.mono fun f x ⟨ds, ex, q⟩ => q.mono fun g y ⟨k, ey, e, he, p⟩ nb σ H u v Q W hu hv z => by
  subst ey
  rcases ex with ex | ex
  ·subst ex
   obtain ⟨a, xs, rfl, n, hx, hd⟩ := hu.ofL
   obtain ⟨w, hw, hD⟩ := hd.atI he
   exact .inl ⟨a, xs, k, w, rfl, hv.ofI, .of hx, hw, z f _ H _ p (.refl W.bag) hD⟩
  ·subst ex
   obtain ⟨a, xs, rfl, n, hx, hd⟩ := hu.ofT
   obtain ⟨w, hw, hD⟩ := hd.atI he
   exact .inr (.inl ⟨a, xs, k, w, rfl, hv.ofI, .of hx, hw, z f _ H _ p (.refl W.bag) hD⟩))
end
theorem Callee.void {P : Program} {w : World} {K : PySem.W.Frag} {mg : Str -> Option Value} {base : Heap} {x : Str} {st : Stmt} {k : Nat} {ps : List Str} {sp : Sp} {f : Addr} {fd : FuncData} (F : Fun K x x st f fd) (b : Binds K fd ps []) (m : mg x = some (.ref f)) (hv : ∀ vs H Q E, ¬ sp vs H Q E) : Callee P w K mg base x k ps sp :=
 ⟨f, fd, ⟨fun vs H Q E h => (hv vs H Q E h).elim, fun A outer s H args us vs Q E _ _ _ _ h => (hv vs H Q E h).elim⟩, b, F.kp, m⟩
end L2
set_option maxRecDepth 100000
set_option maxHeartbeats 4000000
namespace L2
open PySem PySem.Spec PyProof.Rows
section
variable {G : Gx} {ρ ρc : Rh} {te : TE} {gt : TG} {n i : Nat} {it : Nat -> PyData -> Prop} {fi : Bool} {Θ : Bool -> List PyData -> Prop} {E : DE}
theorem scAll_ints (os : List Int) : scAll (os.map PyData.int) = true := by
 unfold scAll
 rw [zq101x]
 intro x hx
 obtain ⟨y, _, rfl⟩ := zq9x.mp hx
 rfl
theorem CompD.ints (P : Int -> Prop) (ht : ∀ i d, it i d -> Gv G ρc gt fi d fun ρ1 => Wk ρc ρ1 /\ Ev G ρ1 te fun _ e => ∃ r : Int, e = .int r /\ P r) (h : ∀ os : List Int, os.length = n -> (∀ x ∈ os, P x) -> Θ true (os.map .int)) : CompD G ρc n it fi gt tNoTest te Θ := by
 refine ⟨false, fun i ds => ds.length = i /\ ∃ os : List Int, ds = os.map .int /\ ∀ x ∈ os, P x, ⟨rfl, [], rfl, fun _ h => nomatch h⟩, ?_, ?_⟩
 ·rintro i d ds hd hl ⟨hl2, os, rfl, ho⟩
  refine fun nb σ H v Q W hv z => ht i d hd nb σ H v Q W hv fun σ' ρ' ⟨w, q⟩ W' => z σ' ρ' ⟨w, Tv.noTest (iteT (q.mono fun f e ⟨r, ee, hr⟩ => ⟨fun z => (by cases z), ?_, os ++ [r], ?_, fun x hx => ?_⟩))⟩ W'
  ·rw [zq20x, zq41x, hl2]
  ·rw [ee]; simp
  ·rcases zq29x.mp hx with h | h
   ·exact ho x h
   ·rw [zq16x.mp h]; exact hr
 ·rintro ds hl ⟨hl2, os, rfl, ho⟩
  rw [scAll_ints, Bool.or_true]
  exact h os (by rw [zq0x] at hl2; exact hl2) ho
theorem CompD.rel {α : Type} (φ : α -> PyData) (fl : Bool) (P : Nat -> α -> Prop) (ht : ∀ i d, it i d -> Gv G ρc gt fi d fun ρ1 => Wk ρc ρ1 /\ Ev G ρ1 te fun f e => (fl = true -> f = true) /\ ∃ r : α, e = φ r /\ P i r)
  (h : ∀ os : List α, os.length = n -> (∀ (i : Nat) x, os[i]? = some x -> P i x) -> Θ (fl || scAll (os.map φ)) (os.map φ)) : CompD G ρc n it fi gt tNoTest te Θ := by
 refine ⟨fl, fun i ds => ds.length = i /\ ∃ os : List α, ds = os.map φ /\ ∀ (i : Nat) x, os[i]? = some x -> P i x, ⟨rfl, [], rfl, fun j x e => by simp at e⟩, ?_, ?_⟩
 ·rintro i d ds hd hl ⟨hl2, os, rfl, ho⟩
  refine fun nb σ H v Q W hv z => ht i d hd nb σ H v Q W hv fun σ' ρ' ⟨w, q⟩ W' => z σ' ρ' ⟨w, Tv.noTest (iteT (q.mono fun f e ⟨hf, r, ee, hr⟩ => ⟨hf, ?_, os ++ [r], ?_, fun j x hj => ?_⟩))⟩ W'
  ·rw [zq20x, zq41x, hl2]
  ·rw [ee]; simp
  ·rw [zq0x] at hl2
   rcases zq155x j os.length with h | h | h
   ·exact ho j x (by rwa [zq38x h] at hj)
   ·subst h
    simp at hj
    subst hj
    rw [hl2]; exact hr
   ·rw [zq13x (by rw [zq20x, zq41x]; omega)] at hj
    cases hj
 ·rintro ds hl ⟨hl2, os, rfl, ho⟩
  exact h os (by rw [zq0x] at hl2; exact hl2) ho
theorem Sv.asgNil (h : ∀ a, E.nx (ρ.set i (.own a true []))) : Sv G ρ (tAsg (tLst tNil) (gName i)) E := Sv.asgN (EvN.lst (Av.nil ⟨by decide, fun a => h a⟩))
end
def rIsB : R2 := fun x y H Q => ∃ a b : Bool, x = .bl a /\ y = .bl b /\ Q (.bl (a == b)) H
theorem Ev.isB {G : Gx} {ρ : Rh} {ta : TE} {b : Bool} {Φ : Pd} (h : Ev G ρ ta fun _ x => ∃ a, x = .bool a /\ Φ true (.bool (a == b))) : Ev G ρ (tOp rIsB ta (tC (.bl b))) Φ := fun nb σ H Q W z =>
 h nb σ H _ W fun f v H1 d ⟨a, e, q⟩ s1 hv => by
  subst e
  unfold IsD at hv
  subst hv
  exact ⟨a, b, rfl, rfl, z true _ H1 _ q s1 (.bl _)⟩
theorem pt_truthK {X : Cx} {K : PySem.W.Frag} {a : Expr} {ta : TE} (hK : X.K = K) (ha : PE X a ta) (he : ∀ whole, isTrue a X.env whole = (do let v <- whole; standAt a.pos; holding [v] (truthy v))) : PT X a (tTruth K ta) := by
 subst hK
 exact pt_truth ha he
theorem pg_tupM {X : Cx} {K : PySem.W.Frag} {es : List Expr} {k : Nat} {t : TGs} {n : Nat} {pos : Pos} (hK : X.K = K) (hc : X.calm = true) (h : PGs X es t) (hn : (assignEach es X.env).length = n := by rfl) (hst : (assignEach es X.env).findIdx? (·.1) = none := by rfl) : PG X (.Tuple es k pos) (gTup K n t) := by
 subst hK
 exact pg_tup hc h hn hst
theorem list_eq_map {α β : Type} {os : List β} {xs : List α} {φ : α -> β} (hl : os.length = xs.length) (h : ∀ (i : Nat) o, os[i]? = some o -> ∃ x, xs[i]? = some x /\ o = φ x) : os = xs.map φ := by
 apply zq35x
 intro i
 by_cases hi : i < os.length
 ·obtain ⟨x, hx, e⟩ := h i _ (zq1x hi)
  rw [zq1x hi, zq2x, hx, e]; rfl
 ·rw [zq13x (by omega), zq2x, zq13x (by omega)]; rfl
theorem eqv_nil (ds : List PyData) : PyData.eqv (.list ds) (.list []) = ds.isEmpty := by cases ds <;> simp [PyData.eqv, PyData.eqvAll]
theorem shaped_checks (cs : List Prs) : PyData.depthAll (cs.map prsD) <= 2 /\ PyData.canLayAll0 (cs.map prsD) = true := by
  induction cs with
  | nil => simp [PyData.depthAll, PyData.canLayAll0]
  | cons a r ih =>
    have h := shaped_pairs a
    simp [PyData.depthAll, PyData.depth, PyData.canLayAll0, PyData.canLay0, ih.2, h.2.2]
    have := ih.1
    have := h.2.1
    omega
theorem Sv.conseq {G : Gx} {ρ : Rh} {s : TS} {E : DE} (I : Rh -> Prop) (h : Sv G ρ s { E with nx := I }) (hI : ∀ ρ', I ρ' -> E.nx ρ') : Sv G ρ s E := fun nb σ H D W K => h nb σ H D W ⟨fun nb ρ σ H q W => K.nx nb ρ σ H (hI ρ q) W, K.bk, K.ct, K.rt, K.rw⟩
theorem cutA_len {α : Type} {xs : List α} {lo hi : Option Int} : (cutA xs lo hi).length <= xs.length := by
 unfold cutA
 rw [zq58x, zq89x]; omega
theorem Ev.noneIn {G : Gx} {ρ : Rh} {tb : TE} {K : PySem.W.Frag} {Φ : Pd} (h : Ev G ρ tb fun _ y => ∃ wd : Wo, y = woD wd /\ Φ true (.bool (decide (none ∈ wd)))) : Ev G ρ (tOp (rIn K false) (tC .non) tb) Φ := fun nb σ H Q W z =>
 h nb σ H _ W fun f v H1 d ⟨wd, e, q⟩ s1 hv => by
  subst e
  obtain ⟨a, xs, rfl, na, hx, hd⟩ := hv.ofL
  have ex := isDs_opt hd
  subst ex
  refine ⟨a, wd.map optV, rfl, .inl (.of hx), rfl, ?_, ?_⟩
  ·rw [zq101x]
   intro x hx
   obtain ⟨o, _, rfl⟩ := zq9x.mp hx
   cases o <;> rfl
  ·have e : inV V.non (wd.map optV) = decide (none ∈ wd) := by
    unfold inV
    rw [List.any_map, zq64x, zq100x, decide_eq_true_eq]
    constructor
    ·rintro ⟨o, m, h⟩
     cases o with
     | none => exact m
     | some x => cases h
    ·intro m
     exact ⟨none, m, rfl⟩
   show Q (.bl (if false = true then _ else _)) H1
   rw [if_neg zq14x, e]
   exact z true _ H1 _ q s1 (.bl _)
def POk (p : Int) : Prop := 2 <= p /\ p <= 10 ^ 60
def trueW (p : Int) (cs : List Prs) (wd : Wo) : Prop := none ∉ wd /\ ∀ prs ∈ cs, dueSum prs wd % p = 0
instance {p : Int} {cs : List Prs} {wd : Wo} : Decidable (trueW p cs wd) := by unfold trueW; infer_instance
def PrsT (prs : Prs) (wd : List Int) (p : Int) : Prop := (prs.Pairwise fun a b => a.1 < b.1) /\ prs.length <= 64 /\ (∀ pr ∈ prs, 0 <= pr.1 /\ pr.1 < wd.length /\ 1 <= pr.2 /\ pr.2 < p) /\ dueSum prs (wd.map some) % p = 0
def NetT (cs : List Prs) (wd : List Int) (p : Int) : Prop := cs.length <= 400 /\ ∀ prs ∈ cs, prs ≠ [] /\ PrsT prs wd p
end L2
set_option maxRecDepth 100000
set_option maxHeartbeats 4000000
namespace L2
open PySem PySem.Spec PyProof.Rows
theorem cut_to {α : Type} {xs : List α} {k : Int} (h0 : 0 <= k) (h1 : k <= xs.length) : cutA xs none (some k) = xs.take k.toNat := by
 unfold cutA HT.sIx
 simp only [List.drop_zero, Nat.sub_zero]
 congr 1
 first | omega | (split <;> omega)
theorem cut_from {α : Type} {xs : List α} {k : Int} (h0 : 0 <= k) (h1 : k <= xs.length) : cutA xs (some k) none = xs.drop k.toNat := by
 have e : HT.sIx xs.length 0 (some k) = k.toNat := by
  show (if k < 0 then _ else _) = _
  rw [if_neg (by omega)]; omega
 unfold cutA
 rw [e, HT.sIx_none]
 exact zq160x (by rw [zq89x]; omega)
theorem cut_put {α : Type} {xs : List α} {k : Int} {y : α} (h0 : 0 <= k) (h1 : k < xs.length) : cutA xs none (some k) ++ [y] ++ cutA xs (some (k + 1)) none = xs.set k.toNat y := by
 rw [cut_to h0 (by omega), cut_from (by omega) (by omega), List.set_eq_take_append_cons_drop, if_pos (by omega), zq108x]
 congr 2
 show [y] ++ _ = _
 rw [show (k + 1).toNat = k.toNat + 1 by omega]
 rfl
theorem cut_len {α : Type} {xs : List α} {lo hi : Option Int} : (cutA xs lo hi).length <= xs.length := by
 unfold cutA
 rw [zq58x, zq89x]; omega
theorem dueSum_append (a b : Prs) (wd : Wo) : dueSum (a ++ b) wd = dueSum a wd + dueSum b wd := by
 unfold dueSum; rw [zq21x, zq147x]
theorem fit {p S r y : Int} (hp : 0 < p) (h : ∃ k, y * r = 1 + p * k) : (S + ((0 - S % p) * r % p) * y) % p = 0 := by
 obtain ⟨k, hk⟩ := h
 have e1 := zq104x S p
 have e2 := zq104x ((0 - S % p) * r) p
 refine zq162x ⟨S / p - S % p * k - (0 - S % p) * r / p * y, ?_⟩
 generalize S % p = R at *
 generalize S / p = s at *
 generalize (0 - R) * r / p = q at *
 generalize hf : (0 - R) * r % p = f at *
 have e3 : f * y = (0 - R) * r * y - p * q * y := by rw [<- zq122x]; congr 1; omega
 have e4 : (0 - R) * r * y = -R - R * (p * k) := by
  rw [zq68x, zq80x r y, hk, zq149x, zq138x, zq122x, zq98x]; omega
 rw [e3, e4, zq105x, zq105x, <- zq68x p R k, zq80x p R, zq68x R p k, <- zq68x p q y]
 omega
theorem fit_pos {p S r y : Int} (hp : 2 <= p) (h : ∃ k, y * r = 1 + p * k) (hS : S % p ≠ 0) : 1 <= (0 - S % p) * r % p /\ (0 - S % p) * r % p < p := by
 have a1 := zq47x ((0 - S % p) * r) (show p ≠ 0 by omega)
 have a2 := zq48x ((0 - S % p) * r) (show 0 < p by omega)
 refine ⟨?_, a2⟩
 rcases Int.lt_or_eq_of_le a1 with z | z
 ·omega
 ·exfalso
  have f := fit (S := S) (by omega) h
  rw [<- z, zq98x, zq163x] at f
  exact hS f
end L2
set_option maxRecDepth 100000
set_option maxHeartbeats 4000000
set_option maxRecDepth 100000
set_option maxHeartbeats 4000000
namespace L2
open PySem PySem.Spec PyProof.Rows
def tRev (K : PySem.W.Frag) (te : TE) (ts : TO) : TE := fun σ H Q => te σ H fun x H1 => ts σ H1 fun k H2 => k = some (-1) /\ ∃ a xs, x = .ref a /\ SqL K H2 a xs /\ ∀ p, H2 p = none -> Q (.ref p) (upd H2 p (.lst xs.reverse))
theorem IsDs.rev {nb : Addr -> Prop} {H : Hp} : ∀ {ds : List PyData} {xs : List V}, IsDs nb H ds xs -> IsDs nb H ds.reverse xs.reverse
  | [], xs, h => by unfold IsDs at h; subst h; exact .nil
  | d :: ds, xs, h => by
    unfold IsDs at h
    obtain ⟨y, ys, e, h1, h2⟩ := h
    subst e
    rw [List.reverse_cons, List.reverse_cons]
    exact IsDs.append (IsDs.rev h2) (.cons h1 .nil)
section
variable {G : Gx} {ρ : Rh} {Φ : Pd} {ta tb te : TE} {K : PySem.W.Frag}
theorem EvN.rev {ts : TO} {Θ : Bool -> List PyData -> Prop} (h : Ev G ρ te fun f x => ∃ ds, x = .list ds /\ Ov G ρ ts fun o => o = some (-1) /\ Θ (f || scAll ds.reverse) ds.reverse) : EvN G ρ (tRev K te ts) Θ := fun nb σ H Q W z =>
 h nb σ H _ W fun f v H1 d ⟨ds, e, q⟩ s1 hv => q nb σ H1 _ (W.step s1) fun o H2 ⟨eo, q2⟩ s2 => by
  subst e
  obtain ⟨a, xs, rfl, n, hx, hd⟩ := (hv.keep s2.butS).ofL
  exact ⟨eo, a, xs, rfl, .of hx, fun p hp => EvN.fin W (s1.trans s2) hp hd.rev q2 z⟩
theorem Ev.rev {ts : TO} (h : Ev G ρ te fun f x => ∃ ds, x = .list ds /\ Ov G ρ ts fun o => o = some (-1) /\ Φ (f || scAll ds.reverse) (.list ds.reverse)) : Ev G ρ (tRev K te ts) Φ := (EvN.rev (Θ := fun f ds => Φ f (.list ds)) h).ev
theorem op_inK {X : Cx} {K : PySem.W.Frag} (hK : X.K = K) : OpR X (compareOp .In) (rIn K false) := by subst hK; exact op_in_seq
theorem Ev.inI {ng : Bool} (h : Ev G ρ ta fun _ x => ∃ k : Int, x = .int k /\ Ev G ρ tb fun _ y => ∃ ns : List Int, y = .list (ns.map .int) /\ Φ true (.bool (decide (k ∈ ns) != ng))) : Ev G ρ (tOp (rIn K ng) ta tb) Φ := fun nb σ H Q W z =>
 h nb σ H _ W fun f v H1 d ⟨k, e, q⟩ s1 hv => q nb σ H1 _ (W.step s1) fun g u H2 d2 ⟨ns, e2, p⟩ s2 hu => by
  subst e e2
  have hk := hv.ofI
  subst hk
  obtain ⟨a, xs, rfl, na, hx, hd⟩ := hu.ofL
  have ex := isDs_ints_eq hd
  subst ex
  refine ⟨a, ns.map V.int, rfl, .inl (.of hx), rfl, ?_, ?_⟩
  ·rw [zq101x]
   intro x hx
   obtain ⟨o, _, rfl⟩ := zq9x.mp hx
   rfl
  ·have e : inV (V.int k) (ns.map V.int) = decide (k ∈ ns) := by
    unfold inV
    rw [List.any_map, zq64x, zq100x, decide_eq_true_eq]
    constructor
    ·rintro ⟨o, m, h⟩
     have : o = k := eq_of_beq h
     exact this ▸ m
    ·intro m
     exact ⟨k, m, beq_self_eq_true k⟩
   have e2 : (if ng = true then !inV (V.int k) (ns.map V.int) else inV (V.int k) (ns.map V.int)) = (decide (k ∈ ns) != ng) := by
    rw [e]
    cases ng <;> simp
   rw [e2]
   exact z true _ H2 _ p (s1.trans s2) (.bl _)
end
end L2
set_option maxRecDepth 100000
set_option maxHeartbeats 1000000
namespace PC
def PrimeN (n : Nat) : Prop := 2 <= n /\ ∀ d, d ∣ n -> d = 1 \/ d = n
def tr (q : Nat) : Nat -> Nat -> Bool
 | 0, _ => false
 | f + 1, d => if q < d * d then true else if q % d = 0 then false else tr q f (d + 1)
theorem prime_of_no {q : Nat} (h2 : 2 <= q) (h : ∀ e, 2 <= e -> e * e <= q -> q % e ≠ 0) : PrimeN q := by
 refine ⟨h2, fun d hd => ?_⟩
 obtain ⟨e, he⟩ := hd
 by_cases d1 : d = 1
 ·exact .inl d1
 by_cases e1 : e = 1
 ·right; rw [he, e1, Nat.mul_one]
 exfalso
 have d0 : d ≠ 0 := fun z => by rw [z, Nat.zero_mul] at he; omega
 have e0 : e ≠ 0 := fun z => by rw [z, Nat.mul_zero] at he; omega
 by_cases hle : d <= e
 ·refine h d (by omega) (by rw [he]; exact Nat.mul_le_mul_left d hle) ?_
  rw [he]; exact Nat.mul_mod_right d e
 ·refine h e (by omega) (by rw [he]; exact zq187x e (by omega)) ?_
  rw [he]; exact Nat.mul_mod_left d e
def pw (N : Nat) : Nat -> Nat -> Nat -> Nat -> Nat
 | 0, _, _, acc => acc
 | f + 1, e, g, acc => pw N f (e / 2) (g * g % N) (if e % 2 = 1 then acc * g % N else acc)
end PC
set_option maxRecDepth 100000
set_option maxHeartbeats 1000000
namespace L2
open PC
def PrimeZ (p : Int) : Prop := 2 <= p /\ ∀ d : Int, 0 < d -> d ∣ p -> d = 1 \/ d = p
theorem primeZ_of {n : Nat} (h : PrimeN n) : PrimeZ (n : Int) := by
 refine ⟨by have := h.1; omega, fun d d0 hd => ?_⟩
 obtain ⟨k, rfl⟩ := zq164x (zq165x d0)
 rcases h.2 k (Int.natCast_dvd_natCast.mp hd) with e | e
 ·left; rw [e]; rfl
 ·right; rw [e]
theorem primeZ_no {p : Int} (h2 : 2 <= p) (h : NoDiv p) : PrimeZ p := by
 obtain ⟨n, rfl⟩ := zq164x (show 0 <= p by omega)
 refine primeZ_of (prime_of_no (by omega) fun e e1 e2 e3 => ?_)
 refine h (e : Int) (by omega) (by rw [<- Int.natCast_mul]; exact Int.ofNat_le.mpr e2) ?_
 have := congrArg (Nat.cast : Nat -> Int) e3
 simpa using this
end L2
set_option maxRecDepth 100000
set_option maxHeartbeats 4000000
set_option maxRecDepth 100000
set_option maxHeartbeats 4000000
namespace L2
open PySem PySem.Spec PyProof.Rows
section
variable {X : Cx} {pins : List (Addr × Obj)} {σ : List (Option V)} {H : Hp} {s : Shared} {h' : Heap}
theorem Inv.turnedLaid {t' : Nat} {e it T : Addr} {o : HO} (I : Inv X pins σ H s) (k : ∀ b u, b ≠ e -> b ≠ it -> s.heap.get? b = some u -> h'.get? b = some u) (fe : FpOk X pins H e) (fi : FpOk X pins H it) (hT : s.heap.objs.size <= T) (hTe : T ≠ e) (hTi : T ≠ it)
  (le : ∃ u, s.heap.get? e = some u) (li : ∃ u, s.heap.get? it = some u) (new : ObjOk X.prog X.w (upd H T o) h' T o) : Inv X pins σ (upd H T o) { s with heap := h', toks := t' } := by
 have hn := I.hok.fresh hT
 obtain ⟨e0, e1, e2, e3, e4, e5⟩ := fe
 obtain ⟨i0, i1, i2, i3, i4, i5⟩ := fi
 have ne : ∀ b u, H b = some u -> b ≠ e := fun b u q z => by rw [z, e0] at q; cases q
 have ni : ∀ b u, H b = some u -> b ≠ it := fun b u q z => by rw [z, i0] at q; cases q
 have nT : ∀ b u, H b = some u -> b ≠ T := fun b u q z => by rw [z, hn] at q; cases q
 refine I.step (g' := s.gens) (d' := s.drawn) (ch := [e, it]) (fun b hb => ?_) (fun b o _ _ hc q _ => k b o (fun z => hc (by simp [z])) (fun z => hc (by simp [z])) q) (fun b o _ _ hc q _ => ⟨o.slots, k b o (fun z => hc (by simp [z])) (fun z => hc (by simp [z])) q⟩)
  (fun b o hc q n => ?_) (fun b o hc q => ⟨o, k b o (fun z => hc (by simp [z])) (fun z => hc (by simp [z])) q⟩) (fun b xs q => by rw [upd_ne (nT b _ q)]; exact q) (fun b o u q => by rw [upd_ne (nT b _ q)]; exact q) (fun b ps q => ⟨#[], by rw [upd_ne (nT b _ q), q]; simp⟩) (fun m hm => ?_) (fun b u q => ?_) I.bare
 ·rcases (show b = e \/ b = it by simpa using hb) with z | z
  ·subst z; exact ⟨e3, e1, e4, e5⟩
  ·subst z; exact ⟨i3, i1, i4, i5⟩
 ·rw [upd_ne (fun z => absurd (zq23x (zq6x q) (by rw [z]; exact hT)) (zq51x _))]; exact n
 ·obtain ⟨o, es, ep, ho, r⟩ := hm
  exact ⟨o, es, ep, k _ o (zq10x e1) (zq10x i1) ho, r⟩
 ·by_cases hb : b = T
  ·subst hb; rw [upd_same] at q; cases q; exact new
  ·rw [upd_ne hb] at q
   refine (I.hok b u q).stay (fun c v hc z => ?_) (fun c z => by rw [upd_ne (nT c _ z)]; exact z) fun c xs z => by rw [upd_ne (nT c _ z)]; exact z
   rcases hc with y | y
   ·subst y; exact k _ v (ne _ u q) (ni _ u q) z
   ·exact k c v (ne c _ y) (ni c _ y) z
theorem Inv.turned2 {t' : Nat} {e it : Addr} (I : Inv X pins σ H s) (k : ∀ b u, b ≠ e -> b ≠ it -> s.heap.get? b = some u -> h'.get? b = some u) (fe : FpOk X pins H e) (fi : FpOk X pins H it) : Inv X pins σ H { s with heap := h', toks := t' } := by
 obtain ⟨e0, e1, e2, e3, e4, e5⟩ := fe
 obtain ⟨i0, i1, i2, i3, i4, i5⟩ := fi
 have ne : ∀ b u, H b = some u -> b ≠ e := fun b u q z => by rw [z, e0] at q; cases q
 have ni : ∀ b u, H b = some u -> b ≠ it := fun b u q z => by rw [z, i0] at q; cases q
 refine I.step (g' := s.gens) (d' := s.drawn) (ch := [e, it]) (fun b hb => ?_) (fun b o _ _ hc q _ => k b o (fun z => hc (by simp [z])) (fun z => hc (by simp [z])) q) (fun b o _ _ hc q _ => ⟨o.slots, k b o (fun z => hc (by simp [z])) (fun z => hc (by simp [z])) q⟩)
  (fun _ _ _ _ n => n) (fun b o hc q => ⟨o, k b o (fun z => hc (by simp [z])) (fun z => hc (by simp [z])) q⟩) (fun _ _ q => q) (fun _ _ _ q => q) (fun b ps q => ⟨#[], by rw [q]; simp⟩) (fun m hm => ?_) (fun b u q => ?_) I.bare
 ·rcases (show b = e \/ b = it by simpa using hb) with z | z
  ·subst z; exact ⟨e3, e1, e4, e5⟩
  ·subst z; exact ⟨i3, i1, i4, i5⟩
 ·obtain ⟨o, es, ep, ho, r⟩ := hm
  exact ⟨o, es, ep, k _ o (zq10x e1) (zq10x i1) ho, r⟩
 ·refine (I.hok b u q).stay (fun c v hc z => ?_) (fun c z => z) fun c xs z => z
  rcases hc with y | y
  ·subst y; exact k _ v (ne _ u q) (ni _ u q) z
  ·exact k c v (ne c _ y) (ni c _ y) z
end
def Ite (K : PySem.W.Frag) (a : Addr) : It :=
 ⟨fun i H => ∃ xs x, SqL K H a xs /\ xs[i]? = some x, fun i H x H' => ∃ p y, x = .ref p /\ H p = none /\ (∀ xs, SqL K H a xs -> xs[i]? = some y) /\ H' = upd H p (.tup [.int i, y]), fun i H => ∃ xs, SqL K H a xs /\ xs.length = i⟩
theorem turn_enum {P : Program} {w : World} {K : PySem.W.Frag} {elts : List Expr} {k : Nat} {pos : Pos} (a e it : Addr) (hei : e ≠ it) :
  Turn P w K (.Tuple elts k pos) (Ite K a) [e, it] e (fun i h => (∃ old, IsEnum h e it i old) /\ h.IsListIter it a i) where
 mem := by simp
 obj := fun i h st b hb => by
  obtain ⟨⟨old, s1⟩, ⟨o, e1, c, d⟩⟩ := st
  rcases (show b = e \/ b = it by simpa using hb) with z | z
  ·subst z
   exact ⟨_, s1, fun v z => by
    have z' : Data.fields _ = Data.cell v := z
    cases z'⟩
  ·subst z
   exact ⟨o, e1, fun v z => by rw [d] at z; cases z⟩
 keep := fun i h h' st k => ⟨let ⟨old, s1⟩ := st.1; ⟨old, k e (by simp) _ s1⟩, st.2.at fun o q => k it (by simp) o q⟩
 item := by
  intro X hP hw hK hc i pins s σ H E I hf st hg
  subst hP hw hK
  obtain ⟨xs, x, hq, hx⟩ := hg
  obtain ⟨its, rv, p, hz⟩ := I.list hq
  obtain ⟨u, hu, ru⟩ := rv.get hx
  have fe := hf e (by simp)
  have fi := hf it (by simp)
  obtain ⟨⟨old, s1⟩, s2⟩ := st
  obtain ⟨ol, l1, l2, l3⟩ := id p.isList
  obtain ⟨oi, i1, i2, i3⟩ := id s2
  have hae : a ≠ e := fun z => by
   subst z
   rw [s1] at l1; cases l1
   exact absurd l2 (by simp)
  have hai : a ≠ it := fun z => by
   subst z
   rw [i1] at l1; cases l1
   rw [i2] at l2
   exact absurd l2 (by simp)
  have W := WalksT.enumerate (prog := X.prog) (w := X.w) (I.ok.hd hc) e it a hei hae hai its.toArray
  have hi : i < its.toArray.size := by
   have := (zq5x.mp hu).1
   simpa using this
  refine W.item i s _ _ hi ⟨⟨old, s1⟩, s2, p.isList⟩ fun T vals h' tk hv hT hTup hMid kp => ⟨.ref T, rfl, ?_⟩
  refine W.go elts k pos i T _ _ _ hMid fun h'' st' kp2 => ?_
  obtain ⟨t, x', hx', hvv⟩ := hv
  have hxu : x' = u := by
   have : its.toArray[i]? = some u := by simpa using hu
   rw [hx'] at this; exact zq37x this
  subst hxu hvv
  have hTw := W.apart i T h' hMid
  obtain ⟨_, _, _, hTe, hTi⟩ := hMid
  obtain ⟨oT, t1, t2, nT, t3⟩ := hTup
  have t1' := kp2 T oT hTw t1
  refine ⟨.ref T, upd H T (.tup [.int i, x]), I.turnedLaid (fun b v h1 h2 q => kp2 b v (by simp [h1, h2]) (kp b v (by simp [h1, h2]) q)) fe fi hT hTe hTi ⟨_, s1⟩ ⟨_, i1⟩ ?_, rfl, ⟨T, x, rfl, I.hok.fresh hT, fun ys hy => by rw [I.list_inj hy hq]; exact hx, rfl⟩, ⟨st'.1, st'.2.1⟩, fun b hb => ?_⟩
  ·exact ⟨by show 2 <= sizeLine; decide, [.int i t, x'], .cons ⟨t, rfl⟩ (.cons ru .nil), oT, t1', t2, nT, t3⟩
  ·rw [upd_ne, (hf b hb).1]
   rcases (show b = e \/ b = it by simpa using hb) with z | z
   ·rw [z]; exact zq10x hTe
   ·rw [z]; exact zq10x hTi
 done := by
  intro X hP hw hK hc i pins s σ H E I hf st hg
  subst hP hw hK
  obtain ⟨xs, hq, hx⟩ := hg
  obtain ⟨its, rv, p, hz⟩ := I.list hq
  have fe := hf e (by simp)
  have fi := hf it (by simp)
  obtain ⟨⟨old, s1⟩, s2⟩ := st
  obtain ⟨ol, l1, l2, l3⟩ := id p.isList
  obtain ⟨oi, i1, i2, i3⟩ := id s2
  have hl := rv.length
  have hae : a ≠ e := fun z => by
   subst z
   rw [s1] at l1; cases l1
   exact absurd l2 (by simp)
  have hai : a ≠ it := fun z => by
   subst z
   rw [i1] at l1; cases l1
   rw [i2] at l2
   exact absurd l2 (by simp)
  have W := WalksT.enumerate (prog := X.prog) (w := X.w) (I.ok.hd hc) e it a hei hae hai its.toArray
  have hn : its.toArray.size = i := by rw [zq18x]; omega
  refine W.done s _ _ (by rw [hn]; exact ⟨⟨old, s1⟩, s2, p.isList⟩) fun h' tk kp => ⟨rfl, ?_⟩
  exact I.turned2 (fun b v h1 h2 q => kp b v (by simp [h1, h2]) q) fe fi
 self := fun _ _ _ _ _ st h => let ⟨old, s1⟩ := st.1; wpAny_pyIter_enum s1 h
def iEnum (K : PySem.W.Frag) (tl : TE) : TI := fun σ H R => tl σ H fun x H1 => ∃ a, x = .ref a /\ (∃ xs, SqL K H1 a xs) /\ R (Ite K a) H1
theorem pi_enum {X : Cx} {K : PySem.W.Frag} {elts : List Expr} {k : Nat} {tpos : Pos} {l : Expr} {tl : TE} {p pos : Pos} (hK : X.K = K) (hg : Gl X "enumerate") (hm : X.mg "enumerate" = none) (hl : PE X l tl) (hs : starEach [l] X.env = [(false, eval l X.env)] := by rfl) :
    PI X (.Tuple elts k tpos) (.Call (.Name "enumerate" p) [l] [] pos) (iEnum K tl) := by
  subst hK
  intro pins s σ H R I h
  have ha : PA X [l] (tCons tl tNil) := pa_cons hl pa_nil (by rw [hs]; rfl)
  refine Call_ (ld_blt I hg hm boot_enumerate (zq116x (thn (ha pos pins s σ H (fun vs H1 => match vs with | [x] => ∃ a, x = .ref a /\ (∃ xs, SqL X.K H1 a xs) /\ R (Ite X.K a) H1 | _ => False) I h) fun us s1 ⟨vs, H1, I1, r1, q1⟩ => ?_) hs rfl))
  cases r1 with
  | nil => exact q1.elim
  | cons r rr =>
    cases rr with
    | cons _ _ => exact q1.elim
    | nil =>
    obtain ⟨a, e2, ⟨xs, hq⟩, q⟩ := q1
    subst e2
    cases r
    obtain ⟨its, rv, p, hz⟩ := I1.list hq
    obtain ⟨m, hn, _⟩ := I1.loc
    refine enum_rows (h₀ := { objs := #[] }) (L := X.env.locals) (m := m) ⟨hn, fun b o z => ?_, zq45x _⟩ p.isList fun h' e1 e2 e3 e4 kp ne n1 n2 _ _ => ?_
    · cases z
    refine wpAny_pyIter_enum e1 ?_
    have I2 : Inv X pins σ H1 { s1 with heap := h' } := I1.kept (t' := s1.toks) kp
    refine ⟨s1.heap.objs.size + 1, [s1.heap.objs.size + 1, s1.heap.objs.size], _, _, H1, rfl, I2, turn_enum a _ _ ne, ⟨⟨_, e1⟩, e2⟩, fun b hb => ?_, q⟩
    rcases (show b = s1.heap.objs.size + 1 \/ b = s1.heap.objs.size by simpa using hb) with z | z
    · subst z; exact I1.fpOk (zq54x _) (I1.hok.fresh (zq54x _))
    · subst z; exact I1.fpOk (zq3x _) (I1.hok.fresh (zq3x _))
end L2
set_option maxRecDepth 100000
set_option maxHeartbeats 4000000
set_option maxRecDepth 100000
set_option maxHeartbeats 4000000
namespace L2
open PySem PySem.Spec PyProof.Rows
section
variable {G : Gx} {ρ : Rh} {Φ : Pd} {te : TE} {t : TA} {i n : Nat} {f : Bool} {ds : List PyData} {Θ : List PyData -> Prop}
theorem Ev.tupS (h : Av G ρ t fun es => es.length <= 10000 /\ Φ (allF es || scAll (es.map (·.2))) (.tuple (es.map (·.2)))) : Ev G ρ (tTup t) Φ := fun nb σ H Q W z =>
 h nb σ H _ W fun es vs H1 ⟨hl, p⟩ s1 q1 => ⟨zq24x (by rw [q1.len]; exact hl) (by decide), fun a ha => z _ _ _ _ p (s1.trans (.same (W.step s1).bag (same_new ha))) (by
  cases hs : scAll (es.map (·.2)) with
  | true => rw [Bool.or_true]; exact .tup ((W.step s1).fresh ha) upd_same ((q1.all (f := false) fun z => by cases z).scAny hs)
  | false => rw [zq90x]; exact .tup ((W.step s1).fresh ha) upd_same ((q1.all fun z => z).keep (But.of (same_new ha))))⟩
theorem Ev.primeFrom (h : Ev G ρ te fun _ x => ∃ n : Int, x = .int n /\ 2 <= n /\ n <= 10002 /\ ∀ r : Int, PrimeZ r -> r < 10 ^ 40 -> Φ true (.int r)) : Ev G ρ (tCall spPrimeFrom [] E0 (tCons te tNil)) Φ := fun nb σ H Q W z =>
 h nb σ H _ W fun f v H1 d ⟨n, e, h1, h2, p⟩ s1 hv => by
  subst e
  exact ⟨n, by rw [hv.ofI]; rfl, h1, h2, fun r H' sm r1 r2 r3 => z true _ H' _ (p r (primeZ_no r1 r3) (by omega)) (s1.trans (.same (W.step s1).bag sm)) (.int r)⟩
theorem Ev.str {x : Str} (h : Φ true (.str x)) : Ev G ρ (tC (.str x)) Φ := fun nb σ H Q W z => z true _ H _ h (.refl W.bag) (by unfold IsD; rfl)
end
theorem pi_listK {X : Cx} {K : PySem.W.Frag} {tg l : Expr} {tl : TE} (hK : X.K = K) (hl : PE X l tl) : PI X tg l (iList K tl) := by subst hK; exact pi_list hl
theorem lookup_relabel {env : Env} {n : Str} {l : List (Str × NameKind)} : (List.lookup n l = some .cell \/ List.lookup n l = some .free) ->
    (List.lookup n (l.map fun x => match x with | (n, k) => if (k == NameKind.free && env.scope.kind == ScopeKind.function && env.kindOf n == some NameKind.cell) = true then (n, NameKind.cell) else (n, k)) = some .cell \/
     List.lookup n (l.map fun x => match x with | (n, k) => if (k == NameKind.free && env.scope.kind == ScopeKind.function && env.kindOf n == some NameKind.cell) = true then (n, NameKind.cell) else (n, k)) = some .free) := by
  induction l with
  | nil => intro h; simpa using h
  | cons a r ih =>
    obtain ⟨m, k⟩ := a
    intro h
    rw [zq8x]
    by_cases c : n = m
    · subst c
      rw [zq166x] at h
      dsimp only
      split
      · rw [zq166x]; exact .inl rfl
      · rw [zq166x]; exact h
    · have hb : (n == m) = false := by simpa using c
      have e1 : List.lookup n ((m, k) :: r) = List.lookup n r := by rw [zq31x, hb]
      rw [e1] at h
      dsimp only
      split
      · rw [zq31x, hb]; exact ih h
      · rw [zq31x, hb]; exact ih h
theorem CompOk.rel {sx : Scope} {env : Env} {NX : List Str} {scope : Scope} {N : List Str} {mp : List (Option Nat)} (h : CompOk sx NX scope N mp) : CompOk (relabel sx env) NX scope N mp :=
 ⟨h.kind, h.cell, h.names, fun y hy e => lookup_relabel (h.free y hy e), h.len, h.look⟩
theorem pe_lcompN {X : Cx} {scope : Scope} {C : Addr} {N : List Str} {s₀ : Shared} {H₀ : Hp} {fp : List Addr} {elt iter tg : Expr} {ifs : List Expr} {scope2 : Scope} {pos : Pos} {N2 : List Str} {mp : List (Option Nat)} {wi : TI} {g : TG} {tc : TT} {te : TE}
  (ok : CompOk scope N scope2 N2 mp) (hi : PI (compX X scope C N s₀ H₀ fp) tg iter wi)
  (hb : ∀ C' s₀' H₀' fp', PG (compX (compX X scope C N s₀ H₀ fp) scope2 C' N2 s₀' H₀' fp') tg g /\ PTs (compX (compX X scope C N s₀ H₀ fp) scope2 C' N2 s₀' H₀' fp') ifs tc /\ PE (compX (compX X scope C N s₀ H₀ fp) scope2 C' N2 s₀' H₀' fp') elt te) (hc : X.calm = true := by rfl)
  (hs : ∀ x, foldedSetIterable iter (compX X scope C N s₀ H₀ fp).env x = pure x := by intro _; rfl) : PE (compX X scope C N s₀ H₀ fp) (.ListComp elt [⟨tg, iter, ifs, 0⟩] scope2 pos) (tComp wi g tc te mp) :=
 pe_lcomp (X := compX X scope C N s₀ H₀ fp) (CompOk.rel ok) hi hb hc hs
end L2
set_option maxRecDepth 100000
set_option maxHeartbeats 4000000
namespace L2
open PySem PySem.Spec PyProof.Rows
section
variable {G : Gx} {ρ : Rh} {Φ : Pd} {ta tb te : TE} {E : DE} {K : PySem.W.Frag}
theorem Ev.slT {tl th : TO} (h : Ev G ρ te fun f x => ∃ ds, x = .tuple ds /\ Ov G ρ tl fun lo => Ov G ρ th fun hi => ¬ (HT.sIx ds.length 0 lo = 0 /\ HT.sIx ds.length ds.length hi = ds.length) /\ Φ f (.tuple (cutA ds lo hi))) : Ev G ρ (tSl (rSlT K) te tl th) Φ := fun nb σ H Q W z =>
 h nb σ H _ W fun f v H1 d ⟨ds, e, q⟩ s1 hv => q nb σ H1 _ (W.step s1) fun lo H2 q2 s2 => q2 nb σ H2 _ ((W.step s1).step s2) fun hi H3 ⟨hn, q3⟩ s3 => by
  subst e
  obtain ⟨a, xs, rfl, n, hx, hd⟩ := ((hv.keep s2.butS).keep s3.butS).ofT
  have W3 := ((W.step s1).step s2).step s3
  refine ⟨a, xs, rfl, .of hx, by rw [hd.length]; exact hn, fun p hp => ?_⟩
  exact z f _ _ _ q3 (s1.trans (s2.trans (s3.trans (.same W3.bag (same_new hp))))) (.tup (W3.fresh hp) upd_same (hd.cut.keep (But.of (same_new hp))))
theorem Ev.catT (h : Ev G ρ ta fun f x => ∃ ds, x = .tuple ds /\ ds ≠ [] /\ Ev G ρ tb fun g y => ∃ es, y = .tuple es /\ es ≠ [] /\ ds.length + es.length <= 10000 /\ Φ (f && g) (.tuple (ds ++ es))) : Ev G ρ (tOp (rCatT K) ta tb) Φ := fun nb σ H Q W z =>
 h nb σ H _ W fun f v H1 d ⟨ds, e, hne, q⟩ s1 hv => q nb σ H1 _ (W.step s1) fun g u H2 d2 ⟨es, e2, hne2, hl, p⟩ s2 hu => by
  subst e e2
  obtain ⟨a, xs, rfl, n, hx, hd⟩ := (hv.keep s2.butS).ofT
  obtain ⟨c, ys, rfl, m, hy, hc⟩ := hu.ofT
  have W2 := (W.step s1).step s2
  have hxl := hd.length
  have hyl := hc.length
  refine ⟨a, c, xs, ys, rfl, rfl, .of hx, .of hy, fun z => hne (zq93x.mp (by rw [<- hxl, z]; rfl)), zq24x (by rw [hxl, hyl]; exact hl) (by decide), fun z => absurd (zq93x.mp (by rw [<- hyl, z]; rfl)) hne2, fun _ q hq => ?_⟩
  refine z (f && g) _ _ _ p (s1.trans (s2.trans (.same W2.bag (same_new hq)))) (.tup (W2.fresh hq) upd_same ?_)
  exact (IsDs.append (hd.av (S_mono (fun z => (zq26x _ _ ▸ z).1) fun _ z => z)) (hc.av (S_mono (fun z => (zq26x _ _ ▸ z).2) fun _ z => z))).keep (But.of (same_new hq))
end
end L2
set_option maxRecDepth 100000
set_option maxHeartbeats 4000000
namespace L2
open PySem PySem.Spec PyProof.Rows
def fAll (es : List Fd) : Bool := es.all fun e => e.1 || scB e.2
section
variable {G : Gx} {ρ : Rh} {Φ : Pd} {t : TA} {te : TE}
theorem IsF.allS {nb : Addr -> Prop} {H : Hp} : ∀ {es : List Fd} {vs : List V} {f : Bool}, IsF G nb H es vs -> (f = true -> fAll es = true) -> IsDs (G.S nb f) H (es.map (·.2)) vs
  | [], _, _, h, _ => by unfold IsF at h; subst h; exact .nil
  | e :: es, _, f, h, hf => by
    obtain ⟨v, ws, rfl, h1, h2⟩ := h
    have hh : f = true -> (e.1 || scB e.2) = true /\ fAll es = true := fun z => by
      have := hf z
      unfold fAll at this
      rw [zq73x, zq26x] at this
      exact this
    refine .cons ?_ (h2.allS fun z => (hh z).2)
    cases hs : scB e.2 with
    | true => exact h1.scAny hs
    | false => exact h1.av (S_mono (fun z => by have := (hh z).1; rw [hs, zq90x] at this; exact this) fun _ z => z)
theorem Ev.tupF (h : Av G ρ t fun es => es.length <= 10000 /\ Φ (fAll es) (.tuple (es.map (·.2)))) : Ev G ρ (tTup t) Φ := fun nb σ H Q W z =>
 h nb σ H _ W fun es vs H1 ⟨hl, p⟩ s1 q1 => ⟨zq24x (by rw [q1.len]; exact hl) (by decide), fun a ha => z _ _ _ _ p (s1.trans (.same (W.step s1).bag (same_new ha)))
  (.tup ((W.step s1).fresh ha) upd_same ((q1.allS fun z => z).keep (But.of (same_new ha))))⟩
end
def rIsNotB : R2 := fun x y H Q => ∃ a b : Bool, x = .bl a /\ y = .bl b /\ Q (.bl (!(a == b))) H
theorem Ev.isNotB {G : Gx} {ρ : Rh} {ta : TE} {b : Bool} {Φ : Pd} (h : Ev G ρ ta fun _ x => ∃ a, x = .bool a /\ Φ true (.bool (!(a == b)))) : Ev G ρ (tOp rIsNotB ta (tC (.bl b))) Φ := fun nb σ H Q W z =>
 h nb σ H _ W fun f v H1 d ⟨a, e, q⟩ s1 hv => by
  subst e
  unfold IsD at hv
  subst hv
  exact ⟨a, b, rfl, rfl, z true _ H1 _ q s1 (.bl _)⟩
abbrev rowD (r : List Int) : PyData := .list (r.map .int)
end L2
set_option maxRecDepth 100000
set_option maxHeartbeats 4000000
namespace L2
open PySem PySem.Spec PyProof.Rows
theorem for_enum {K : PySem.W.Frag} {a : Addr} {xs : List V} {g : TG} {tb : TS} {D : Ends} {σ : St} {H : Hp} (Pv : Nat -> St -> Hp -> Prop) (h0 : Pv 0 σ H) (hl : ∀ i σ H, i <= xs.length -> Pv i σ H -> SqL K H a xs)
  (hs : ∀ i x σ H p, xs[i]? = some x -> Pv i σ H -> H p = none -> g (.ref p) σ (upd H p (.tup [.int i, x])) fun σ2 H2 => tb { D with nx := Pv (i + 1), ct := Pv (i + 1), bk := D.nx } σ2 H2) (hd : ∀ σ H, Pv xs.length σ H -> D.nx σ H) :
  ∃ W : Nat -> Nat -> St -> Hp -> Prop, (∃ m, W 0 m σ H) /\ ∀ i m σ H, W i m σ H ->
   ((Ite K a).stop i H /\ D.nx σ H) \/ ((Ite K a).go i H /\ ∃ N : St -> Hp -> Prop, (∀ σ' H', N σ' H' -> ∃ m', m' < m /\ W (i + 1) m' σ' H') /\ ∀ x H', (Ite K a).yld i H x H' -> g x σ H' fun σ2 H2 => tb { D with nx := N, ct := N, bk := D.nx } σ2 H2) := by
 refine ⟨fun i m σ H => m = xs.length - i /\ i <= xs.length /\ Pv i σ H, ⟨xs.length, by simp, zq45x _, h0⟩, ?_⟩
 rintro i m σ H ⟨rfl, hi, p⟩
 have q := hl i σ H hi p
 by_cases hlt : i < xs.length
 ·refine .inr ⟨⟨xs, xs[i], q, by simp [hlt]⟩, Pv (i + 1), fun σ' H' p' => ⟨xs.length - (i + 1), by omega, rfl, hlt, p'⟩, fun x H' y => ?_⟩
  obtain ⟨pp, y, e, hn, hy, e2⟩ := y
  subst e e2
  exact hs i y σ H pp (hy xs q) p hn
 ·have e : i = xs.length := by omega
  subst e
  exact .inl ⟨⟨xs, q, rfl⟩, hd σ H p⟩
structure Grid (H0 H : Hp) (L : Addr) (as : List Addr) (rows : List (List Int)) : Prop where
 same : ∀ a o, H0 a = some o -> H a = some o
 hL : H L = some (.lst (as.map V.ref))
 fL : H0 L = none
 fa : ∀ c ∈ as, H0 c = none
 nL : L ∉ as
 nd : as.Nodup
 len : as.length = rows.length
 row : ∀ (i : Nat) c r, as[i]? = some c -> rows[i]? = some r -> H c = some (.lst (r.map V.int))
section
variable {H0 H : Hp} {L c q : Addr} {as : List Addr} {rows : List (List Int)} {k : Nat} {r : List Int} {o : HO} {x : Int}
theorem Grid.new (g : Grid H0 H L as rows) (hq : H q = none) : Grid H0 (upd H q o) L as rows := by
 refine ⟨fun a o e => ?_, ?_, g.fL, g.fa, g.nL, g.nd, g.len, fun i c r e1 e2 => ?_⟩
 ·have h := g.same a o e
  rw [upd_ne (fun z => by rw [z, hq] at h; cases h)]; exact h
 ·rw [upd_ne (fun z => by have h := g.hL; rw [z, hq] at h; cases h)]; exact g.hL
 ·have h := g.row i c r e1 e2
  rw [upd_ne (fun z => by rw [z, hq] at h; cases h)]; exact h
theorem Grid.app (g : Grid H0 H L as rows) (hc : as[k]? = some c) (hr : rows[k]? = some r) : Grid H0 (upd H c (.lst (r.map V.int ++ [.int x]))) L as (rows.set k (r ++ [x])) := by
 have hm : c ∈ as := zq4x hc
 have hk : k < rows.length := (zq5x.mp hr).1
 refine ⟨fun a o e => ?_, ?_, g.fL, g.fa, g.nL, g.nd, by rw [zq40x]; exact g.len, fun i d s e1 e2 => ?_⟩
 ·rw [upd_ne (fun z => by have h := g.fa c hm; rw [<- z, e] at h; cases h)]; exact g.same a o e
 ·rw [upd_ne (fun z => g.nL (by rw [z]; exact hm))]; exact g.hL
 ·by_cases hik : k = i
  ·subst hik
   rw [hc] at e1; cases e1
   rw [zq30x hk] at e2; cases e2
   rw [upd_same, zq21x]; rfl
  ·rw [zq19x hik] at e2
   have hdc : d ≠ c := fun z => by
    subst z
    obtain ⟨l1, e3⟩ := zq5x.mp hc
    obtain ⟨l2, e4⟩ := zq5x.mp e1
    exact hik ((List.getElem_inj g.nd).mp (e3.trans e4.symm))
   rw [upd_ne hdc]
   exact g.row i d s e1 e2
end
def stepR (rows : List (List Int)) (c : Int) (pr : Int × Int) : List (List Int) := rows.set pr.1.toNat (rows.getD pr.1.toNat [] ++ [c])
def rowsC (rows : List (List Int)) (c : Int) (prs : Prs) : List (List Int) := prs.foldl (fun rs pr => stepR rs c pr) rows
def rowsTo (n : Nat) (cs : List Prs) (i : Nat) : List (List Int) := (List.range i).foldl (fun rs (c : Nat) => rowsC rs c (cs.getD c [])) (List.replicate n [])
theorem rowsC_snoc {rows : List (List Int)} {c : Int} {prs : Prs} {pr : Int × Int} : rowsC rows c (prs ++ [pr]) = stepR (rowsC rows c prs) c pr := by unfold rowsC; rw [zq132x]; rfl
theorem rowsC_len {rows : List (List Int)} {c : Int} {prs : Prs} : (rowsC rows c prs).length = rows.length := by
 unfold rowsC
 induction prs generalizing rows with
 | nil => rfl
 | cons p r ih => rw [List.foldl_cons, ih]; unfold stepR; rw [zq40x]
theorem rowsTo_succ {n : Nat} {cs : List Prs} {i : Nat} {prs : Prs} (h : cs[i]? = some prs) : rowsTo n cs (i + 1) = rowsC (rowsTo n cs i) i prs := by
 unfold rowsTo
 rw [List.range_succ, zq132x]
 show rowsC _ _ (cs.getD i []) = _
 rw [zq11x, h]; rfl
theorem rowsTo_len {n : Nat} {cs : List Prs} {i : Nat} : (rowsTo n cs i).length = n := by
 unfold rowsTo
 induction i with
 | zero => simp
 | succ i ih => rw [List.range_succ, zq132x]; show (rowsC _ _ _).length = n; rw [rowsC_len]; exact ih
def Short (rows : List (List Int)) (m : Nat) : Prop := ∀ r ∈ rows, r.length <= m
def spSeats : Sp := fun vs H Q _ => ∃ (nb : Addr -> Prop) (p n : Int) (cs : List Prs) (v : V), vs = [v] /\ Live nb H /\ IsD nb H (netD p n cs) v /\ 0 <= n /\ n <= 1000 /\ (∀ prs ∈ cs, ∀ pr ∈ prs, 0 <= pr.1 /\ pr.1 < n) /\
 (∀ i m : Nat, ∀ prs, cs[i]? = some prs -> Short (rowsC (rowsTo n.toNat cs i) i (prs.take m)) 10000) /\
 ∀ (L : Addr) (as : List Addr) (H' : Hp), Grid H H' L as (rowsTo n.toNat cs cs.length) -> Q (.ref L) H'
theorem seats_run {K : PySem.W.Frag} {D : Ends} {H : Hp} {v : V} (h : spSeats [v] H D.rt E0) :
  tSeq (tSetC 1 (tComp (iRng1 (tCons (tOp (rIxT K) (tVar 0) (tC (.int 1))) tNil)) (gName 0) tNoTest (tLst tNil) [none]))
   (tSeq (tFor (iEnum K (tOp (rIxT K) (tVar 0) (tC (.int 2)))) (gTup K 2 (gCons (gName 2) (gCons (gName 3) gNil)))
    (tFor (iList K (tVar 3)) (gTup K 2 (gCons (gName 4) (gCons (gName 5) gNil))) (tDrop (tBM K "list" rAppend (tOp (rIxL K) (tVar 1) (tVar 4)) (tCons (tVar 2) tNil)))))
    (tRet (tVar 1))) D [some v, none, none, none, none, none] H := by
 obtain ⟨nb, p, n, cs, v', e, hlive, hv, n0, n1, hpl, hsh, q⟩ := h
 cases e
 obtain ⟨tp, xs3, rfl, ntp, htp, hds⟩ := hv.ofT
 unfold IsDs at hds
 obtain ⟨vp, r1, rfl, _, hds⟩ := hds
 unfold IsDs at hds
 obtain ⟨vn, r2, rfl, hvn, hds⟩ := hds
 unfold IsDs at hds
 obtain ⟨vL, r3, rfl, hvL, hds⟩ := hds
 unfold IsDs at hds
 subst hds
 have hvn := hvn.ofI
 subst hvn
 obtain ⟨NL, ys, rfl, nNL, hNL, hys⟩ := hvL.ofL
 have hyl := hys.length
 rw [zq0x] at hyl
 refine ⟨.ref tp, rfl, tp, _, 1, .int n, rfl, rfl, .of htp, rfl, n, rfl, by omega, by omega, fun acc hacc => ?_⟩
 refine R.comp_range (fun j σ H1 => ∃ as, as.length = j /\ Grid H H1 acc as (List.replicate j [])) ?_ ?_ ?_
 ·refine ⟨[], rfl, fun a o e => ?_, upd_same, hacc, fun _ z => (by cases z), by simp, zq159x, rfl, fun i c r e => by simp at e⟩
  rw [upd_ne (fun z => by rw [z, hacc] at e; cases e)]; exact e
 ·rintro j σ H1 hj ⟨as, hal, g⟩
  refine ⟨by decide, fun q1 hq1 => ?_⟩
  have hq1a : q1 ≠ acc := fun z => by have h := g.hL; rw [<- z, hq1] at h; cases h
  have hq1s : q1 ∉ as := fun z => by
   obtain ⟨i, hi⟩ := zq34x z
   have h := g.row i q1 [] hi (by rw [zq33x, if_pos (by have := (zq5x.mp hi).1; omega)])
   rw [hq1] at h; cases h
  have hq10 : H q1 = none := by
   cases e : H q1 with
   | none => rfl
   | some o => have h := g.same q1 o e; rw [hq1] at h; cases h
  refine ⟨as.map V.ref, by rw [upd_ne (zq10x hq1a)]; exact g.hL, by rw [zq0x]; exact zq23x (show as.length < 10000 by omega) (by decide), as ++ [q1], by simp [hal], fun a o e => ?_, ?_, g.fL, fun c hc => ?_, ?_, ?_, by simp [hal], fun i c r e1 e2 => ?_⟩
  ·have h := g.same a o e
   rw [upd_ne (fun z => by rw [z, hacc] at e; cases e), upd_ne (fun z => by rw [z, hq1] at h; cases h)]; exact h
  ·rw [upd_same, zq21x]; rfl
  ·rcases zq29x.mp hc with z | z
   ·exact g.fa c z
   ·rw [zq16x.mp z]; exact hq10
  ·intro z
   rcases zq29x.mp z with z | z
   ·exact g.nL z
   ·exact hq1a (zq16x.mp z).symm
  ·rw [zq130x]
   exact ⟨g.nd, by simp, fun a ha b hb z => by rw [zq16x.mp hb] at z; exact hq1s (z ▸ ha)⟩
  ·rw [zq33x] at e2
   split at e2
   ·cases e2
    by_cases hi : i < as.length
    ·rw [zq38x hi] at e1
     have hm := zq4x e1
     have h := g.row i c [] e1 (by rw [zq33x, if_pos (by omega)])
     rw [upd_ne (fun z => g.nL (by rw [<- z]; exact hm)), upd_ne (fun z => hq1s (by rw [<- z]; exact hm))]; exact h
    ·have : i = as.length := by omega
     subst this
     rw [zq46x (zq3x _), zq167x] at e1
     cases e1
     rw [upd_ne hq1a, upd_same]; rfl
   ·cases e2
 rintro σ1 H1 ⟨as, hal, g⟩
 refine ⟨.ref tp, rfl, tp, _, 2, .ref NL, rfl, rfl, .of (g.same _ _ htp), rfl, NL, rfl, ⟨ys, .of (g.same _ _ hNL)⟩, ?_⟩
 refine for_enum (xs := ys) (fun i σ H2 => ∃ x2 x3 x4 x5 : Option V, σ = [some (.ref tp), some (.ref acc), x2, x3, x4, x5] /\ Grid H H2 acc as (rowsTo n.toNat cs i)) ⟨_, _, _, _, rfl, g⟩ ?_ ?_ ?_
 ·rintro i σ H2 hi ⟨_, _, _, _, _, g2⟩
  exact .of (g2.same _ _ hNL)
 ·rintro i x σ H2 pp hx ⟨x2, x3, x4, x5, rfl, g2⟩ hpp
  have hil : i < cs.length := by have := (zq5x.mp hx).1; omega
  obtain ⟨prs, eprs⟩ : ∃ prs, cs[i]? = some prs := ⟨_, zq1x hil⟩
  obtain ⟨x', e1, e2⟩ := hys.get (i := i) (d := prsD prs) (by rw [zq2x, eprs]; rfl)
  rw [hx] at e1; cases e1
  obtain ⟨PL, zs, rfl, nPL, hPL, hzs⟩ := e2.ofL
  have hzl := hzs.length
  rw [zq0x] at hzl
  have g3 := g2.new (o := .tup [.int i, .ref PL]) hpp
  refine ⟨pp, [.int i, .ref PL], rfl, .of upd_same, rfl, .int i, [.ref PL], rfl, .ref PL, [], rfl, rfl, ?_⟩
  refine ⟨.ref PL, rfl, PL, rfl, ⟨zs, .of (g3.same _ _ hPL)⟩, ?_⟩
  refine for_list (xs := zs) (fun m σ H4 => ∃ x4 x5 : Option V, σ = [some (.ref tp), some (.ref acc), some (.int i), some (.ref PL), x4, x5] /\ Grid H H4 acc as (rowsC (rowsTo n.toNat cs i) i (prs.take m))) ⟨_, _, rfl, by simpa [rowsC] using g3⟩ ?_ ?_ ?_
  ·rintro m σ H4 hm ⟨_, _, _, g4⟩
   exact .of (g4.same _ _ hPL)
  ·rintro m z σ H4 hz ⟨x4, x5, rfl, g4⟩
   have hml : m < prs.length := by have := (zq5x.mp hz).1; omega
   obtain ⟨pr, epr⟩ : ∃ pr, prs[m]? = some pr := ⟨_, zq1x hml⟩
   obtain ⟨z', e3, e4⟩ := hzs.get (i := m) (d := pairD pr) (by rw [zq2x, epr]; rfl)
   rw [hz] at e3; cases e3
   obtain ⟨t, rfl, nt, ht⟩ := isD_pair e4
   obtain ⟨k0, k1⟩ := hpl prs (zq4x eprs) pr (zq4x epr)
   have hrl : (rowsC (rowsTo n.toNat cs i) (i : Int) (prs.take m)).length = n.toNat := by rw [rowsC_len, rowsTo_len]
   have hal2 := g4.len
   have hk : pr.1.toNat < as.length := by omega
   have hk2 : pr.1.toNat < (rowsC (rowsTo n.toNat cs i) (i : Int) (prs.take m)).length := by omega
   obtain ⟨c, hc⟩ : ∃ c, as[pr.1.toNat]? = some c := ⟨_, zq1x hk⟩
   obtain ⟨r, hr⟩ : ∃ r, (rowsC (rowsTo n.toNat cs i) (i : Int) (prs.take m))[pr.1.toNat]? = some r := ⟨_, zq1x hk2⟩
   have hcl := g4.row _ _ _ hc hr
   have hrs := hsh i m prs eprs r (zq4x hr)
   refine ⟨t, _, rfl, .of (g4.same _ _ ht), rfl, _, _, rfl, _, _, rfl, rfl, ?_⟩
   refine ⟨.ref acc, rfl, .int pr.1, rfl, acc, as.map V.ref, pr.1, .ref c, rfl, rfl, .of g4.hL, atI_some k0 (by rw [zq2x, hc]; rfl), .inl ⟨rfl, _, SqL.of hcl⟩, .int i, rfl, c, r.map V.int, .int i, rfl, rfl, hcl, by rw [zq0x]; exact zq144x hrs (by decide), _, _, rfl, ?_⟩
   rw [take_snoc epr, rowsC_snoc]
   unfold stepR
   rw [zq11x, hr]
   exact g4.app hc hr
  ·rintro σ H4 ⟨x4, x5, rfl, g4⟩
   rw [hzl, zq62x] at g4
   refine ⟨_, _, _, _, rfl, ?_⟩
   rw [rowsTo_succ eprs]
   exact g4
 ·rintro σ H2 ⟨x2, x3, x4, x5, rfl, g2⟩
  rw [hyl] at g2
  exact ⟨.ref acc, rfl, q acc as H2 g2⟩
theorem IsDs.ofGet {S : Addr -> Prop} {H : Hp} : ∀ {ds : List PyData} {xs : List V}, ds.length = xs.length -> (∀ (i : Nat) d x, ds[i]? = some d -> xs[i]? = some x -> IsD S H d x) -> IsDs S H ds xs
 | [], [], _, _ => .nil
 | [], _ :: _, h, _ => by simp at h
 | _ :: _, [], h, _ => by simp at h
 | d :: ds, x :: xs, h, q => .cons (q 0 d x rfl rfl) (IsDs.ofGet (by simpa using h) fun i d' x' e1 e2 => q (i + 1) d' x' (by simpa using e1) (by simpa using e2))
section
variable {H0 H H' : Hp} {L : Addr} {as : List Addr} {rows : List (List Int)}
theorem Grid.isD (g : Grid H0 H L as rows) {S : Addr -> Prop} (hS : ∀ a, S a -> H0 a ≠ none) : IsD S H (.list (rows.map rowD)) (.ref L) := by
 refine .lst (fun z => hS L z g.fL) g.hL (IsDs.ofGet (by rw [zq0x, zq0x, g.len]) fun i d x e1 e2 => ?_)
 obtain ⟨r, hr, rfl⟩ := map_at e1
 rw [zq2x] at e2
 obtain ⟨c, hc, rfl⟩ := zq42x.mp e2
 exact .lst (fun z => hS c z (g.fa c (zq4x hc))) (g.row i c r hc hr) (isDs_intsL r)
end
def SeatOk (n : Int) (cs : List Prs) : Prop := 0 <= n /\ n <= 1000 /\ (∀ prs ∈ cs, ∀ pr ∈ prs, 0 <= pr.1 /\ pr.1 < n) /\ ∀ i m : Nat, ∀ prs, cs[i]? = some prs -> Short (rowsC (rowsTo n.toNat cs i) i (prs.take m)) 10000
section
variable {G : Gx} {ρ : Rh} {Φ : Pd} {te : TE} {E : DE} {K : PySem.W.Frag}
theorem Ev.seats (h : Ev G ρ te fun _ x => ∃ (p n : Int) (cs : List Prs), x = netD p n cs /\ SeatOk n cs /\ Φ true (.list ((rowsTo n.toNat cs cs.length).map rowD))) : Ev G ρ (tCall spSeats [] E0 (tCons te tNil)) Φ := fun nb σ H Q W z =>
 h nb σ H _ W fun f v H1 d ⟨p, n, cs, e, ⟨h1, h2, h3, h4⟩, q⟩ s1 hv => by
  subst e
  have W1 := W.step s1
  refine ⟨G.S nb f, p, n, cs, v, rfl, W1.liveS, hv, h1, h2, h3, h4, fun L as H' g => ?_⟩
  exact z true _ H' _ q (s1.trans (.same W1.bag fun a o e => g.same a o e)) (g.isD fun a q => W1.liveS a q)
end
def NetG (n : Int) (cs : List Prs) : Prop := 1 <= n /\ n <= 400 /\ cs.length <= 400 /\ (∀ prs ∈ cs, ∀ pr ∈ prs, 0 <= pr.1 /\ pr.1 < n) /\ ∃ w : Nat, w <= 60 /\ (∀ prs ∈ cs, prs.length <= w) /\ cs.length * w <= 5000
theorem short_step {rows : List (List Int)} {b : Nat} {c : Int} {pr : Int × Int} (h : Short rows b) : Short (stepR rows c pr) (b + 1) := fun r hr => by
 unfold stepR at hr
 rcases zq188x hr with z | z
 ·have := h r z; omega
 ·subst z
  rw [zq20x, zq41x]
  by_cases hk : pr.1.toNat < rows.length
  ·have : (rows.getD pr.1.toNat []).length <= b := by
    rw [zq11x, zq1x hk]; exact h _ (zq28x hk)
   omega
  ·rw [zq11x, zq13x (by omega)]
   simp
theorem short_C {c : Int} : ∀ {prs : Prs} {rows : List (List Int)} {b : Nat}, Short rows b -> Short (rowsC rows c prs) (b + prs.length)
  | [], rows, b, h => h
  | pr :: prs, rows, b, h => by
    have := short_C (c := c) (prs := prs) (short_step (c := c) (pr := pr) h)
    show Short (rowsC (stepR rows c pr) c prs) _
    rw [zq67x, show b + (prs.length + 1) = b + 1 + prs.length by omega]
    exact this
theorem short_To {n : Nat} {cs : List Prs} {w : Nat} (hw : ∀ prs ∈ cs, prs.length <= w) : ∀ i, i <= cs.length -> Short (rowsTo n cs i) (i * w)
  | 0, _ => fun r hr => by
    unfold rowsTo at hr
    rw [zq189x hr]; simp
  | i + 1, hi => by
    have ih := short_To (n := n) hw i (by omega)
    have e : cs[i]? = some cs[i] := zq1x (by omega)
    rw [rowsTo_succ e]
    intro r hr
    have h1 := short_C (c := (i : Int)) (prs := cs[i]) ih r hr
    have h2 := hw cs[i] (zq28x _)
    rw [Nat.succ_mul]
    omega
theorem NetG.seat {n : Int} {cs : List Prs} (h : NetG n cs) : SeatOk n cs /\ Short (rowsTo n.toNat cs cs.length) 10000 := by
 obtain ⟨h1, h2, h3, h4, w, w1, hw, h5⟩ := h
 refine ⟨⟨by omega, by omega, h4, fun i m prs e r hr => ?_⟩, fun r hr => ?_⟩
 ·have hi := (zq5x.mp e).1
  have a1 := short_C (c := (i : Int)) (prs := prs.take m) (short_To (n := n.toNat) hw i (by omega)) r hr
  have a2 := hw prs (zq4x e)
  have a3 : (prs.take m).length <= prs.length := by rw [zq58x]; omega
  have a4 : i * w <= cs.length * w := zq187x _ (by omega)
  omega
 ·have := short_To (n := n.toNat) hw cs.length (zq3x _) r hr
  omega
end L2
set_option maxRecDepth 100000
namespace L2
open PySem PySem.Spec PyProof.Rows
section
variable {κ : Type} [DecidableEq κ]
def valV (kvs : List (κ × V)) (k : κ) : Option V := (kvs.find? fun kv => decide (kv.1 = k)).map (·.2)
def putK (kvs : List (κ × V)) (k : κ) (v : V) : List (κ × V) :=
 if (kvs.any fun kv => decide (kv.1 = k)) = true then kvs.map (fun kv => if kv.1 = k then (kv.1, v) else kv) else kvs ++ [(k, v)]
theorem valV_nil {k : κ} : valV ([] : List (κ × V)) k = none := rfl
theorem valV_pos {p : κ × V} {r : List (κ × V)} {k : κ} (e : p.1 = k) : valV (p :: r) k = some p.2 := by simp [valV, zq83x, e]
theorem valV_neg {p : κ × V} {r : List (κ × V)} {k : κ} (e : ¬ p.1 = k) : valV (p :: r) k = valV r k := by simp [valV, zq83x, e]
theorem valV_any (k : κ) : ∀ kvs : List (κ × V), (kvs.any fun kv => decide (kv.1 = k)) = (valV kvs k).isSome
  | [] => rfl
  | p :: r => by
    rw [zq66x]
    by_cases e : p.1 = k
    · simp only [valV_pos e, decide_eq_true e, Bool.true_or, Option.isSome_some]
    · rw [valV_neg e, decide_eq_false e, zq102x]; exact valV_any k r
theorem valV_map (k j : κ) (y : V) : ∀ kvs : List (κ × V), valV (kvs.map fun kv => if kv.1 = k then (kv.1, y) else kv) j = (valV kvs j).map fun x => if j = k then y else x
  | [] => rfl
  | p :: r => by
    have ih := valV_map k j y r
    rw [zq8x]
    by_cases h : p.1 = k
    · rw [if_pos h]
      by_cases e : p.1 = j
      · rw [valV_pos (p := (p.1, y)) e, valV_pos e, zq103x, if_pos (e.symm.trans h)]
      · rw [valV_neg (p := (p.1, y)) e, valV_neg e, ih]
    · rw [if_neg h]
      by_cases e : p.1 = j
      · rw [valV_pos (p := p) e, valV_pos e, zq103x, if_neg (fun z => h (e.trans z))]
      · rw [valV_neg (p := p) e, valV_neg e, ih]
theorem valV_snoc (k j : κ) (y : V) : ∀ kvs : List (κ × V), valV kvs k = none -> valV (kvs ++ [(k, y)]) j = if j = k then some y else valV kvs j
  | [], _ => by
    by_cases e : k = j
    · rw [if_pos e.symm]; exact valV_pos (p := (k, y)) e
    · rw [if_neg (fun z => e z.symm)]; exact valV_neg (p := (k, y)) e
  | p :: r, hn => by
    rw [zq78x]
    have hk : ¬ p.1 = k := fun z => by rw [valV_pos z] at hn; cases hn
    rw [valV_neg hk] at hn
    have ih := valV_snoc k j y r hn
    by_cases e : p.1 = j
    · rw [valV_pos e, valV_pos e, if_neg (fun z => hk (e.trans z))]
    · rw [valV_neg e, valV_neg e, ih]
theorem valV_put (kvs : List (κ × V)) (k j : κ) (y : V) : valV (putK kvs k y) j = if j = k then some y else valV kvs j := by
 unfold putK
 by_cases a : (kvs.any fun kv => decide (kv.1 = k)) = true
 ·rw [if_pos a, valV_map]
  rw [valV_any] at a
  by_cases e : j = k
  ·obtain ⟨x, hx⟩ := zq142x.mp a
   rw [if_pos e, e, hx, zq103x, if_pos rfl]
  ·rw [if_neg e]
   cases valV kvs j with
   | none => rfl
   | some x => rw [zq103x, if_neg e]
 ·rw [if_neg a]
  refine valV_snoc k j y kvs ?_
  rw [valV_any] at a
  cases q : valV kvs k with
  | none => rfl
  | some x => rw [q] at a; exact (a rfl).elim
theorem length_putK (kvs : List (κ × V)) (k : κ) (v : V) : (putK kvs k v).length <= kvs.length + 1 := by
 unfold putK
 split
 ·rw [zq0x]; omega
 ·rw [zq20x, zq67x, zq157x]; omega
theorem putK_new {kvs : List (κ × V)} {k : κ} (v : V) (h : valV kvs k = none) : putK kvs k v = kvs ++ [(k, v)] := by
 unfold putK
 rw [valV_any, h]
 exact if_neg (by decide)
theorem RelO.isSome_eq {o : Option V} {u : Option Value} (r : RelO o u) : o.isSome = u.isSome := by
  cases o with
  | none => cases u with
    | none => rfl
    | some _ => exact (show False from r).elim
  | some _ => cases u with
    | none => exact (show False from r).elim
    | some _ => rfl
theorem RelO.getD {o : Option V} {u : Option Value} {d : V} {d' : Value} (r : RelO o u) (rd : RelV d d') : RelV (o.getD d) (u.getD d') := by
  cases o with
  | none => cases u with
    | none => exact rd
    | some _ => exact (show False from r).elim
  | some _ => cases u with
    | none => exact (show False from r).elim
    | some _ => exact r
theorem KV.val {kvs : List (κ × V)} {vs : List (κ × Value)} (r : KV kvs vs) (k : κ) : RelO (valV kvs k) (valueAt vs k) := by
  unfold KV at r
  induction r with
  | nil => exact True.intro
  | @cons p q ps qs h t ih =>
    obtain ⟨h1, h2⟩ := h
    by_cases e : p.1 = k
    · have e' : q.1 = k := h1.symm.trans e
      have b : valueAt (q :: qs) k = some q.2 := by simp [valueAt, zq83x, e']
      rw [valV_pos e, b]; exact h2
    · have e' : ¬ q.1 = k := fun z => e (h1.trans z)
      have b : valueAt (q :: qs) k = valueAt qs k := by simp [valueAt, zq83x, e']
      rw [valV_neg e, b]; exact ih
theorem KV.any {kvs : List (κ × V)} {vs : List (κ × Value)} (r : KV kvs vs) (k : κ) : (kvs.any fun kv => decide (kv.1 = k)) = vs.any fun kv => decide (kv.1 = k) := by
 unfold KV at r
 induction r with
 | nil => rfl
 | cons h t ih => rw [zq66x, zq66x, ih, h.1]
theorem KV.repl {kvs : List (κ × V)} {vs : List (κ × Value)} (r : KV kvs vs) (k : κ) {y : V} {u : Value} (ry : RelV y u) :
    KV (kvs.map fun kv => if kv.1 = k then (kv.1, y) else kv) (vs.map fun kv => if kv.1 = k then (kv.1, u) else kv) := by
  unfold KV at r ⊢
  induction r with
  | nil => exact .nil
  | @cons p q ps qs h t ih =>
    rw [zq8x, zq8x]
    refine .cons ?_ ih
    obtain ⟨h1, h2⟩ := h
    by_cases e : p.1 = k
    · rw [if_pos e, if_pos (h1.symm.trans e)]; exact ⟨h1, ry⟩
    · rw [if_neg e, if_neg (fun z => e (h1.trans z))]; exact ⟨h1, h2⟩
theorem KV.put {kvs : List (κ × V)} {vs : List (κ × Value)} (r : KV kvs vs) (k : κ) {y : V} {u : Value} (ry : RelV y u) : KV (putK kvs k y) (stored vs k u) := by
 unfold putK stored
 rw [r.any k]
 by_cases e : (vs.any fun kv => decide (kv.1 = k)) = true
 ·rw [if_pos e, if_pos e]; exact r.repl k ry
 ·rw [if_neg e, if_neg e]; exact Paired.snoc r ⟨rfl, ry⟩
theorem KV.keys {kvs : List (κ × V)} {vs : List (κ × Value)} (r : KV kvs vs) : kvs.map (·.1) = vs.map (·.1) := by
 unfold KV at r
 induction r with
 | nil => rfl
 | cons h t ih => rw [zq8x, zq8x, ih, h.1]
theorem KV.length {kvs : List (κ × V)} {vs : List (κ × Value)} (r : KV kvs vs) : kvs.length = vs.length := Paired.length r
end
theorem kV_is {P : Program} {w : World} {k : Key} {u : Value} (r : RelV (kV k) u) : (mixKind P w).is k u = true := by
 cases k with
 | inl i => obtain ⟨t, e⟩ := (show ∃ t, u = Value.int i t from r); subst e; exact mixKind_int P w i t
 | inr x => obtain ⟨t, e⟩ := (show ∃ t, u = Value.str x t from r); subst e; exact mixKind_str P w x t
theorem items_are {P : Program} {w : World} : ∀ {ks : List Key} {us : List Value}, Vals (ks.map kV) us -> ItemsAre (mixKind P w) ks us
  | [], _, r => by rw [zq91x] at r; cases r; exact .nil
  | k :: ks, _, r => by
    rw [zq8x] at r
    cases r with
    | cons h t => exact .cons (kV_is h) (items_are t)
abbrev KT (H : Hp) : List (List Key × V) -> List (List Key × Addr × Value) -> Prop := Paired fun p q => p.1 = q.1 /\ H q.2.1 = some (.tup (p.1.map kV)) /\ RelV p.2 q.2.2
theorem KT.val {H : Hp} {kvs : List (List Key × V)} {xs : List (List Key × Addr × Value)} (r : KT H kvs xs) (k : List Key) : RelO (valV kvs k) ((atKey xs k).map (·.2)) := by
  induction r with
  | nil => exact True.intro
  | @cons p q ps qs h t ih =>
    obtain ⟨h1, _, h2⟩ := h
    by_cases e : p.1 = k
    · have e' : q.1 = k := h1.symm.trans e
      have b : atKey (q :: qs) k = some q.2 := by simp [atKey, zq83x, e']
      rw [valV_pos e, b]; exact h2
    · have e' : ¬ q.1 = k := fun z => e (h1.trans z)
      have b : atKey (q :: qs) k = atKey qs k := by simp [atKey, zq83x, e']
      rw [valV_neg e, b]; exact ih
section
variable {P : Program} {w : World} {H : Hp} {h : Heap} {a : Addr}
theorem rd_of {u : HO} (ok : HOk P w H h) (e : Rd H a u) : ObjOk P w H h a u := e.ok ok
theorem dk_rd {kvs : List (Key × V)} (ok : HOk P w H h) (e : Rd H a (.dK kvs)) : kvs.length <= sizeLine /\ (a == sysModules) = false /\ ∃ vs, KV kvs vs /\ h.DictOf (mixKind P w) a vs :=
 show ObjOk P w H h a (.dK kvs) from rd_of ok e
theorem dk_of {kvs : List (Key × V)} (ok : HOk P w H h) (e : H a = some (.dK kvs)) : kvs.length <= sizeLine /\ (a == sysModules) = false /\ ∃ vs, KV kvs vs /\ h.DictOf (mixKind P w) a vs := dk_rd ok (.inl e)
theorem key_of {ks : List Key} (ok : HOk P w H h) (e : H a = some (.tup (ks.map kV))) : (tupleKind (mixKind P w)).is h ks a := by
 obtain ⟨_, its, r, o, h1, h2, n, h3⟩ := (show ObjOk P w H h a (.tup (ks.map kV)) from ok a _ e)
 exact ⟨o, its.toArray, n, h1, h2, h3, by simpa using items_are r⟩
theorem dt_rd {kvs : List (List Key × V)} (ok : HOk P w H h) (e : Rd H a (.dT kvs)) : kvs.length <= sizeLine /\ (a == sysModules) = false /\
    ∃ xs, KT H kvs xs /\ h.DictOfH (tupleKind (mixKind P w)) a xs := by
  obtain ⟨z, y, xs, r, o, es, ep, h1, h2, h3, h4, h5⟩ := (show ObjOk P w H h a (.dT kvs) from rd_of ok e)
  refine ⟨z, y, xs, r, o, es, ep, h1, h2, h3, h4, fun x hx => ?_, h5⟩
  have all : ∀ {l : List (List Key × V)} {m : List (List Key × Addr × Value)}, KT H l m -> ∀ x ∈ m, (tupleKind (mixKind P w)).is h x.1 x.2.1 := by
    intro l m q
    induction q with
    | nil => intro x hx; exact nomatch hx
    | @cons p q ps qs hq t ih =>
      intro x hx
      rcases zq17x.mp hx with e | hx
      · subst e
        exact key_of ok (by rw [<- hq.1]; exact hq.2.1)
      · exact ih x hx
  exact all r x hx
end
def DGet (H : Hp) (a : Addr) (y : V) (r : Option V) : Prop :=
 (∃ kvs k, Rd H a (.dK kvs) /\ y = kV k /\ r = valV kvs k) \/ ∃ kvs k b, Rd H a (.dT kvs) /\ y = .ref b /\ H b = some (.tup (k.map kV)) /\ r = valV kvs k
theorem DGet.k {H : Hp} {a : Addr} {kvs : List (Key × V)} {k : Key} (e : H a = some (.dK kvs)) : DGet H a (kV k) (valV kvs k) := .inl ⟨kvs, k, .inl e, rfl, rfl⟩
section
variable {X : Cx} {pins : List (Addr × Obj)} {σ : St} {H : Hp} {s : Shared} {a : Addr} {y v : V} {u r : Value} {o : Option V} {A : Around} {E : Value -> Shared -> Prop}
theorem Inv.big (I : Inv X pins σ H s) : sysModules < s.heap.objs.size := by
 have h : mainGlobals < s.heap.objs.size := (I.mod.glob.keeps I.bk).lt
 exact zq55x (by decide) h
theorem d_in {Q : Value -> Shared -> Prop} (hu : A.units + 1 < cLine) (I : Inv X pins σ H s) (g : DGet H a y o) (ry : RelV y u) (h : ∀ s', Inv X pins σ H s' -> Q (.bool o.isSome) s') :
  wpAny (model X.prog X.w) A (compareOp .In u (.ref a)) Q E s := by
 rcases g with ⟨kvs, k, e, ey, l⟩ | ⟨kvs, k, b, e, ey, eb, l⟩
 ·subst ey
  obtain ⟨z, hd, vs, rel, dd⟩ := dk_rd I.hok e
  refine wpAny_in_of (kV_is ry) hd dd.mapOf ?_
  rw [<- (rel.val k).isSome_eq, <- l]
  exact h _ (I.tok _)
 ·subst ey
  cases (show u = Value.ref b from ry)
  obtain ⟨z, hd, xs, rel, dd⟩ := dt_rd I.hok e
  refine wpAny_in_heap (tupleKind_room_in1 hu) (key_of I.hok eb) hd dd ?_
  have q := (rel.val k).isSome_eq
  rw [Option.isSome_map] at q
  rw [<- q, <- l]
  exact h _ (I.tok _)
theorem d_write {h' : Heap} {t' : Nat} {ob : HO} (I : Inv X pins σ H s) (mu : Mut (H a)) (hs : Heap.SameBut a s.heap h') (he : ∃ q, h'.get? a = some q) (new : ObjOk X.prog X.w (upd H a ob) h' a ob) :
  Inv X pins σ (upd H a ob) { s with heap := h', toks := t' } :=
 I.write (x := a) (e := a) mu (.inl rfl) (fun b q hb z => (hs.2 b hb).trans z) he new
theorem dk_new {P : Program} {w : World} {H' : Hp} {h' : Heap} {kvs : List (Key × V)} {vs : List (Key × Value)} (z : kvs.length <= sizeLine) (hd : (a == sysModules) = false) (rel : KV kvs vs) (dd : h'.DictOf (mixKind P w) a vs) :
  ObjOk P w H' h' a (.dK kvs) := ⟨z, hd, vs, rel, dd⟩
end
theorem dk_empty {P : Program} {w : World} {H : Hp} (h : Heap) (hb : sysModules < h.objs.size) : ObjOk P w H (h.push { cls := .type "dict", data := .dict #[] }) h.objs.size (.dK []) :=
 ⟨zq45x _, beq_eq_false_iff_ne.mpr (zq10x (zq12x hb)), [], .nil, Heap.DictOf.new h⟩
def tDNewK : TE := fun _ H Q => ∀ p, H p = none -> Q (.ref p) (upd H p (.dK []))
section
variable {X : Cx} {pos : Pos}
theorem pe_dnewK : PE X (.Dict [] [] pos) tDNewK := fun pins s σ H Q I h =>
 wpAny_Dict_empty ⟨.ref s.heap.objs.size, _, I.laid (a := s.heap.objs.size) (o := .dK []) (t' := s.toks) (fun _ _ q => zq7x _ q) (zq3x _) (dk_empty s.heap I.big), rfl, h _ (I.hok.fresh (zq3x _))⟩
end
def mergeK (kvs more : List (Key × V)) : List (Key × V) := more.foldl (fun acc kv => putK acc kv.1 kv.2) kvs
theorem KV.merge : ∀ {more : List (Key × V)} {rs : List (Key × Value)} {kvs : List (Key × V)} {vs : List (Key × Value)}, KV more rs -> KV kvs vs -> KV (mergeK kvs more) (merged vs rs) := by
  intro more rs kvs vs r
  unfold KV at r
  induction r generalizing kvs vs with
  | nil => intro q; exact q
  | @cons p q ps qs h t ih =>
    intro r0
    have e : KV (putK kvs p.1 p.2) (stored vs q.1 q.2) := by
      have := r0.put p.1 h.2
      rw [<- h.1]; exact this
    exact ih e
theorem length_mergeK : ∀ (more kvs : List (Key × V)), (mergeK kvs more).length <= kvs.length + more.length
  | [], kvs => by show kvs.length <= kvs.length + 0; omega
  | p :: r, kvs => by
    have h1 := length_mergeK r (putK kvs p.1 p.2)
    have h2 := length_putK kvs p.1 p.2
    show (mergeK (putK kvs p.1 p.2) r).length <= _
    rw [zq67x]; omega
end L2
/- THE LAST THEOREM (shape; LID, My.* are yours):
   My.Adr: a structure of the addresses that your layer names (classes, functions); My.Txt K t: a structure (Prop) of the equations over K;
   My.txt_mk : {K} {implicit addresses ..} (e1 : nsIn K mainGlobals "law" = some (some (.ref f))) (e2 : K.lookup f = some ⟨oc, od, .func (fnOf "law" "law" params body scope dV kV doc pm an cdv ct), sl⟩) (e3 : codeIn K cdv "law" = true) .. : ∃ t, My.Txt K t
set_option maxRecDepth 100000 in
set_option maxHeartbeats 0 in
(the tactic k_is has no namespace: write k_is) -/
namespace L2
open PySem PySem.Spec PyProof.Rows
section
variable {κ : Type} [DecidableEq κ]
theorem valV_in {kvs : List (κ × V)} {k : κ} {v : V} (h : valV kvs k = some v) : k ∈ kvs.map (·.1) := by
 have q : (kvs.any fun kv => decide (kv.1 = k)) = true := by
  rw [valV_any, h]
  all_goals rfl
 obtain ⟨p, hp, e⟩ := zq100x.mp q
 exact zq9x.mpr ⟨p, hp, of_decide_eq_true e⟩
end
end L2
set_option maxRecDepth 100000
set_option maxHeartbeats 4000000
namespace L2
open PySem PySem.Spec PyProof.Rows
section
variable {prog : Program} {w : World} {A : Around} {E : Value -> Shared -> Prop} {s : Shared}
theorem collect_kdl {T : String} {r d : Addr} {n : Nat} {P : Nat -> Value -> Prop} {OK : Heap -> Prop} {Q : List Value -> Shared -> Prop} (K : PySem.W.KdlSrc prog w T r d n P OK) (hh : A.handled = none) (hok : OK s.heap) (hn : n <= sizeLine)
  (hQ : ∀ h' tk' items, (∀ b o, s.heap.get? b = some o -> h'.get? b = some o) -> s.heap.objs.size <= h'.objs.size -> items.length = n -> (∀ (i : Nat) v, items[i]? = some v -> P i v) -> Q items { s with heap := h', toks := tk' }) : wpAny (model prog w) A (collect (.ref r)) Q E s := by
 obtain ⟨lr, ld⟩ := K.there _ hok
 unfold collect
 refine wpAny_bind (wpAny_runValue (codeAny_builtin zq183x ?_))
 rw [zq69x zq184x _]
 show wpAny _ A.in1 (newList [] >>= fun l => again (.builtin "list.__iadd__" ⟨[l, .ref r], []⟩)) _ _ s
 refine wpAny_bind (wpAny_newObj_type ?_)
 refine wpAny_pure ⟨plainId_quiet zq128x _, codeAny_builtin zq185x ?_⟩
 rw [zq69x zq128x _]
 have gL : (s.heap.push ({ cls := .type "list", data := .seq ([] : List Value).toArray } : Obj)).get? s.heap.objs.size = some { cls := .type "list", data := .seq ([] : List Value).toArray } := zq27x _ rfl
 show wpAny _ A.in1 (Builtin.List.listExtendWith (.ref s.heap.objs.size) (.ref r) (.ref s.heap.objs.size)) _ _ { s with heap := s.heap.push ({ cls := .type "list", data := .seq ([] : List Value).toArray } : Obj) }
 refine PySem.W.kdl_extend (A := A) (R := fun r s' => match r with
    | .ok (.ret v) => wpAny (model prog w) A (match v with | .ref x => (do match (<- load x).data with | .seq xs _ => pure xs.toList | _ => unsupported "internal:collect") | _ => unsupported "internal:collect") Q E s'
    | .ok _ => False
    | .error e => E e s') (s := { s with heap := s.heap.push ({ cls := .type "list", data := .seq ([] : List Value).toArray } : Obj) }) K hh (K.keep _ _ hok fun b _ o e => zq7x _ e) s.heap.objs.size (zq86x lr) (zq86x ld) _ _ gL (fun h' tk acc' c' hk hS hacc => ?_) hn
 refine wpAny_bind (wpAny_load hS (wpAny_pure ?_))
 refine hQ h' tk acc'.toList (fun b o e => hk b o (zq12x (zq6x e)) (zq7x _ e)) (zq43x (zq6x hS)) (by rw [zq44x]; exact hacc.1) fun i v e => hacc.2 i v (by rw [<- zq74x]; exact e)
theorem sorted_dictI {a : Addr} {vs : List (Key × Value)} {ms : List Int} {Q : Value -> Shared -> Prop} (hh : A.handled = none) (lo : (a == sysModules) = false) (hd : s.heap.DictOf (mixKind prog w) a vs) (hk : vs.map (·.1) = ms.map Sum.inl) (h64 : ms.length < 64)
    (h : ∀ h' tk' (l : Addr) (out : List Value) (ns : List Int) (e : Nat), (∀ b o, s.heap.get? b = some o -> h'.get? b = some o) -> s.heap.objs.size <= l -> h'.get? l = some (seqObj "list" out.toArray e) -> IntsAre out ns -> ns.Pairwise (· <= ·) -> ns.Perm ms ->
      Q (.ref l) { s with heap := h', toks := tk' }) : wpAny (model prog w) A (call (.builtin "sorted") [.ref a]) Q E s := by
  obtain ⟨ep, hat⟩ := hd.dictAt
  have hvl : vs.length = ms.length := by have := congrArg List.length hk; simpa using this
  refine zq129x kind_sorted plain_sorted entry_sorted (args_sorted1 _) ?_
  unfold Builtin.«sorted»
  refine wpAny_bind (m := checkCount "sorted" 1 1 _) (wpAny_pure (wpAny_bind ?_))
  refine collect_kdl (A := A.in1) (PySem.W.kdl_dict lo) hh hat (by rw [hvl]; exact zq24x (zq43x h64) (by decide)) fun h1 tk1 items k1 k2 hil hit => ?_
  have hI : IntsAre items ms := by
    have key : ∀ (its : List Value) (us : List (Key × Value)) (ms : List Int), us.map (·.1) = ms.map Sum.inl -> its.length = us.length -> (∀ (i : Nat) v, its[i]? = some v -> ∃ k x, us[i]? = some (k, x) /\ (mixKind prog w).is k v = true) -> IntsAre its ms := by
      intro its
      induction its with
      | nil =>
        intro us ms e l _
        cases us with
        | nil => cases ms with
          | nil => exact .nil
          | cons _ _ => cases e
        | cons _ _ => cases l
      | cons v its ih =>
        intro us ms e l hp
        cases us with
        | nil => cases l
        | cons u us => cases ms with
          | nil => cases e
          | cons m ms =>
            have e1 : u.1 = Sum.inl m := by injection e
            have e2 : us.map (·.1) = ms.map Sum.inl := by injection e
            obtain ⟨k, x, q1, q2⟩ := hp 0 v rfl
            have q1 : u = (k, x) := by simpa using q1
            subst q1
            have e1 : k = Sum.inl m := e1
            subst e1
            obtain ⟨t, rfl⟩ := zq114x (k := m) (v := v) q2
            exact .cons m t (ih us ms e2 (by simpa using l) fun i v q => by simpa using hp (i + 1) v (by simpa using q))
    exact key items vs ms hk hil hit
  have hlen : items.length = ms.length := by rw [hil, hvl]
  refine wpAny_bind (wpAny_newList ?_)
  have gL : (h1.push (seqObj "list" items.toArray 0)).get? h1.objs.size = some (seqObj "list" items.toArray 0) := zq27x _ rfl
  refine wpAny_bind (wpAny_holding (wpAny_call_entry slot_list_sort ⟨_, gL, rfl⟩ entry_list_sort (list_sort_tree gL hI (by omega) fun out ns' a1 a2 a3 => ⟨_, rfl, ?_⟩) (args_list_sort _)))
  obtain ⟨e, he⟩ := sortedHeap_at (out := out) gL
  refine wpAny_pure ⟨_, rfl, h _ tk1 h1.objs.size out.toList ns' e (fun b o q => ?_) k2 (by simpa using he) a1 a3 a2⟩
  have lb := zq6x (k1 b o q)
  rw [sortedHeap_old (zq12x lb) (by rw [zq75x]; exact zq70x lb)]
  exact zq7x _ (k1 b o q)
end
def rSortedD : List V -> Hp -> VK -> Prop := fun xs H Q => ∃ a, ∃ kvs : List (Key × V), ∃ ms : List Int, xs = [.ref a] /\ Rd H a (.dK kvs) /\ kvs.map (·.1) = ms.map Sum.inl /\ ms.length < 64 /\
 ∀ l (rs : List Int), H l = none -> rs.Pairwise (· <= ·) -> rs.Perm ms -> Q (.ref l) (upd H l (.lst (rs.map V.int)))
theorem call_sortD {X : Cx} (hc : X.calm = true) : CallR X (.builtin "sorted") rSortedD := by
 intro pins s σ H xs us Q I rv h
 obtain ⟨a, kvs, ms, rfl, hH, hk, h64, q⟩ := h
 obtain ⟨u, rfl, ru⟩ := vals1 rv
 cases ru
 obtain ⟨z, hd, vs, rel, dd⟩ := dk_rd I.hok hH
 refine sorted_dictI (I.ok.hd hc) hd dd (by rw [<- rel.keys]; exact hk) h64 fun h' tk' l out ns e kp hl gl hI pw pp => ?_
 have new : ObjOk X.prog X.w (upd H l (.lst (ns.map V.int))) h' l (.lst (ns.map V.int)) := by
  refine ⟨?_, out, e, ints_vals hI, gl⟩
  rw [zq0x, pp.length_eq]; exact zq24x (zq43x h64) (by decide)
 exact ⟨.ref l, _, I.laid (t' := tk') kp hl new, rfl, q _ _ (I.hok.fresh hl) pw pp⟩
section
variable {X : Cx}
def rIxD : R2 := fun x y H Q => ∃ a kvs k v, x = .ref a /\ y = kV k /\ Rd H a (.dK kvs) /\ valV kvs k = some v /\ Q v H
theorem ix_dict : IxR X rIxD := by
 intro value slice pins s σ H x y v u Q I rx ry h hs
 obtain ⟨a, kvs, k, z, rfl, rfl, hH, hv, q⟩ := h
 cases rx
 obtain ⟨hz, hd, vs, rel, dd⟩ := dk_rd I.hok hH
 have hT := dd.typeIs (s := s)
 obtain ⟨w', hw, rw'⟩ := RelO.some_of (v := z) (o := valueAt vs k) (by rw [<- hv]; exact rel.val k)
 unfold subscriptTail
 refine wpAny_bind ?_
 rw [getitemInPython_of_ne hT.not_modules]
 refine wpAny_bind (wpAny_specialOf hT PySem.F.slot_dict_getitem.lookup ?_)
 have fin : wpAny (model X.prog X.w) X.A (subscripted slice false (.ref a) u) (fun r s₃ => wpAny (model X.prog X.w) X.A (letTemporaryGo value (.ref a) r >>= fun _ => pure r) (EP X pins σ Q) X.xe s₃) X.xe s := by
  rw [hs]
  refine wpAny_operating (wpAny_getItem_of (kV_is ry) dd.mapOf hw ?_)
  exact wpAny_bind (wpAny_letTemporaryGo (wpAny_pure ⟨z, H, I.tok _, rw', q⟩))
 first
  | exact wpAny_pure (wpAny_bind fin)
  | exact wpAny_bind (wpAny_pure (wpAny_bind fin))
  | exact wpAny_bind fin
def rPutD : V -> V -> V -> Hp -> (Hp -> Prop) -> Prop := fun o i v H Q => ∃ a kvs k, o = .ref a /\ i = kV k /\ H a = some (.dK kvs) /\ kvs.length < sizeLine /\ Q (upd H a (.dK (putK kvs k v)))
theorem set_dict : PSet X rPutD := by
 intro pins s σ H o i v ov iv u Q I ro ri rv h
 obtain ⟨a, kvs, k, rfl, rfl, hH, hl0, q⟩ := h
 cases ro
 obtain ⟨z, hd, vs, rel, dd⟩ := dk_of I.hok hH
 have hz : vs.length <= sizeLine := by rw [<- rel.length]; exact z
 have hl : (putK kvs k v).length <= sizeLine := by have := length_putK kvs k v; omega
 refine wpAny_setItem_pairs (hsz := hz) (kV_is ri) dd fun h' dd' hs => ?_
 have he : ∃ q, h'.get? a = some q := let ⟨q, _, _, hq, _⟩ := dd'; ⟨q, hq⟩
 exact ⟨_, d_write I (by rw [hH]; exact True.intro) hs he (dk_new hl hd (rel.put k rv) dd'), q⟩
def rGetD2 : V -> List V -> Hp -> VK -> Prop := fun x vs H Q => ∃ a kvs k d, x = .ref a /\ vs = [kV k, d] /\ Rd H a (.dK kvs) /\ Q ((valV kvs k).getD d) H
theorem mt_get2 : MtR X "dict.get" rGetD2 := by
  intro pins s σ H x xs v us Q I rx rv h
  obtain ⟨a, kvs, k, d, rfl, rfl, hH, q⟩ := h
  cases rx
  cases rv with
  | cons r1 r2 =>
    obtain ⟨r, rfl, rd⟩ := vals1 r2
    obtain ⟨z, hd, vs, rel, dd⟩ := dk_rd I.hok hH
    refine call_meetsIn zq190x dd.typeIs PySem.F.entry_dict_get (PySem.F.args_dict_get_3 _ _ _) (meets_dict_get_default (mixKind X.prog X.w) a (kV_is r1) hd r) ⟨_, dd.mapOf, ?_⟩
    exact ⟨_, H, I.tok _, (rel.val k).getD rd, q⟩
end
end L2
set_option maxRecDepth 100000
set_option maxHeartbeats 4000000
namespace L2
open PySem PySem.Spec PyProof.Rows
def Cnt (l : List Int) (kvs : List (Key × V)) : Prop := ∃ ms : List Int, kvs.map (·.1) = ms.map Sum.inl /\ ms.Nodup /\ (∀ k, k ∈ ms ↔ k ∈ l) /\ ∀ k : Int, k ∈ l -> valV kvs (Sum.inl k) = some (.int (l.count k))
theorem Cnt.nil : Cnt [] [] := ⟨[], rfl, zq159x, fun _ => Iff.rfl, fun _ h => by cases h⟩
theorem Cnt.none {l : List Int} {kvs : List (Key × V)} {x : Int} (h : Cnt l kvs) (hx : x ∉ l) : valV kvs (Sum.inl x) = none := by
  obtain ⟨ms, h1, _, h3, _⟩ := h
  cases e : valV kvs (Sum.inl x) with
  | none => rfl
  | some v =>
    have := valV_in e
    rw [h1] at this
    obtain ⟨m, hm, e2⟩ := zq9x.mp this
    cases e2
    exact absurd ((h3 x).mp hm) hx
theorem Cnt.at {l : List Int} {kvs : List (Key × V)} (h : Cnt l kvs) (x : Int) : (valV kvs (Sum.inl x)).getD (.int 0) = .int (l.count x) := by
 by_cases hx : x ∈ l
 ·obtain ⟨_, _, _, _, h4⟩ := h
  rw [h4 x hx]; rfl
 ·rw [h.none hx, List.count_eq_zero_of_not_mem hx]; rfl
theorem Cnt.len {l : List Int} {kvs : List (Key × V)} (h : Cnt l kvs) (hl : ∀ k ∈ l, 0 <= k /\ k <= 62) : kvs.length < 64 := by
 obtain ⟨ms, h1, h2, h3, _⟩ := h
 have e : kvs.length = ms.length := by have := congrArg List.length h1; simpa using this
 have := zq94x (l₂ := (List.range 63).map fun (i : Nat) => (i : Int)) h2 fun k hk => by
  obtain ⟨a, b⟩ := hl k ((h3 k).mp hk)
  exact zq9x.mpr ⟨k.toNat, zq52x.mpr (by omega), by omega⟩
 simp at this
 omega
theorem keys_map {kvs : List (Key × V)} {k : Key} {v : V} (h : (valV kvs k).isSome = true) : (putK kvs k v).map (·.1) = kvs.map (·.1) := by
 unfold putK
 rw [valV_any, if_pos h, zq71x]
 apply zq131x
 intro p _
 show (if p.1 = k then (p.1, v) else p).1 = p.1
 split <;> rfl
theorem Cnt.step {l : List Int} {kvs : List (Key × V)} {x : Int} (h : Cnt l kvs) : Cnt (l ++ [x]) (putK kvs (Sum.inl x) (.int (l.count x + 1))) := by
 have hn := h.none (x := x)
 obtain ⟨ms, h1, h2, h3, h4⟩ := h
 have hval : ∀ k : Int, k ∈ l ++ [x] -> valV (putK kvs (Sum.inl x) (.int (l.count x + 1))) (Sum.inl k) = some (.int ((l ++ [x]).count k)) := fun k hk => by
  rw [valV_put]
  by_cases e : k = x
  ·subst e
   rw [if_pos rfl, List.count_append, List.count_singleton_self]; rfl
  ·rw [if_neg (fun z => e (zq115x z)), List.count_append, List.count_singleton, if_neg (by simpa using zq10x e)]
   rcases zq29x.mp hk with z | z
   ·exact h4 k z
   ·exact absurd (zq16x.mp z) e
 by_cases hx : x ∈ l
 ·refine ⟨ms, ?_, h2, fun k => ?_, hval⟩
  ·rw [keys_map (by rw [h4 x hx]; rfl)]; exact h1
  ·rw [h3 k, zq29x, zq16x]
   exact ⟨.inl, fun z => z.elim id fun e => e ▸ hx⟩
 ·refine ⟨ms ++ [x], ?_, ?_, fun k => ?_, hval⟩
  ·rw [putK_new _ (hn hx), zq21x, zq21x, h1]; rfl
  ·rw [zq130x]
   exact ⟨h2, by simp, fun a ha b hb z => by rw [zq16x.mp hb] at z; exact hx ((h3 x).mp (z ▸ ha))⟩
  ·rw [zq29x, zq29x, h3 k]
theorem counted_run {K : PySem.W.Frag} {D : Ends} {H : Hp} {vs : List V} {nb : Addr -> Prop} {ns : List Int} (hlive : Live nb H) (hds : IsDs nb H [.list (ns.map .int)] vs) (hns : ∀ k ∈ ns, 0 <= k /\ k <= 62)
  (q : ∀ (rs : List Int) v H', rs.Pairwise (· < ·) -> (∀ k, k ∈ rs ↔ k ∈ ns) -> Same H H' -> IsD (fun a => nb a \/ H a ≠ none) H' (.list (rs.map fun d => pairD (d, (ns.count d : Int)))) v -> D.rt v H') :
  tSeq (tAsg tDNewK (gName 1)) (tSeq (tFor (iList K (tVar 0)) (gName 2) (tAsg (tOp (rI0 fun i j => V.int (i + j)) (tBM K "dict" rGetD2 (tVar 1) (tCons (tVar 2) (tCons (tC (V.int 0)) tNil))) (tC (V.int 1))) (gSub (tVar 1) (tVar 2) rPutD)))
   (tRet (tComp (iList K (tCB rSortedD (tCons (tVar 1) tNil))) (gName 0) tNoTest (tTup (tCons (tVar 0) (tCons (tOp rIxD (tVar 1) (tVar 0)) tNil))) [none, some 1]))) D (L2.start ["found", "counts", "degree"] vs) H := by
 unfold IsDs at hds
 obtain ⟨v, r, rfl, hv, hds⟩ := hds
 unfold IsDs at hds
 subst hds
 obtain ⟨a, xs, rfl, na, ha, hxs⟩ := hv.ofL
 have e := isDs_ints_eq hxs
 subst e
 intro d hd
 have hda : d ≠ a := fun z => by rw [z, ha] at hd; cases hd
 refine ⟨.ref a, rfl, a, rfl, ⟨_, .of (show (upd H d (.dK [])) a = _ by rw [upd_ne (zq10x hda)]; exact ha)⟩, ?_⟩
 refine for_list (xs := ns.map V.int) (fun i σ H2 => ∃ x2 kvs, σ = [some (.ref a), some (.ref d), x2] /\ Cnt (ns.take i) kvs /\ H2 d = some (.dK kvs) /\ ∀ b o, H b = some o -> H2 b = some o) ⟨_, _, rfl, Cnt.nil, upd_same, fun b o e => by rw [upd_ne (fun z => by rw [z, hd] at e; cases e)]; exact e⟩ ?_ ?_ ?_
 ·rintro i σ H2 hi ⟨_, _, _, _, _, hk⟩
  exact .of (hk _ _ ha)
 ·rintro i x σ H2 hx ⟨x2, kvs, rfl, hC, hd2, hk⟩
  rw [zq2x] at hx
  obtain ⟨n, hn, rfl⟩ := zq42x.mp hx
  have hlen := hC.len fun k hk => hns k (zq168x hk)
  refine ⟨.ref d, rfl, .inr (.inr (.inl ⟨rfl, .inl ⟨_, hd2⟩⟩)), .int n, rfl, d, kvs, Sum.inl n, .int 0, rfl, rfl, .inl hd2, (ns.take i).count n, 1, hC.at n, rfl, .ref d, rfl, .int n, rfl, d, kvs, Sum.inl n, rfl, rfl, hd2, zq55x hlen (by decide), _, _, rfl, ?_, upd_same, fun b o e => ?_⟩
  ·rw [take_snoc hn]; exact hC.step
  ·rw [upd_ne (fun z => by rw [z, hd] at e; cases e)]; exact hk b o e
 ·rintro σ H2 ⟨x2, kvs, rfl, hC, hd2, hk⟩
  rw [zq0x, zq62x] at hC
  have hlen := hC.len hns
  obtain ⟨ms, k1, k2, k3, k4⟩ := id hC
  have hml : kvs.length = ms.length := by have := congrArg List.length k1; simpa using this
  refine ⟨.ref d, rfl, d, kvs, ms, rfl, .inl hd2, k1, by omega, fun L0 rs hL0 pw pp => ?_⟩
  have ndr : rs.Nodup := pp.nodup_iff.mpr k2
  have lt : rs.Pairwise (· < ·) := (pw.and ndr).imp fun ⟨x, y⟩ => by omega
  have hrs : ∀ k, k ∈ rs ↔ k ∈ ns := fun k => by rw [pp.mem_iff, k3 k]
  have hrl : rs.length < 64 := by rw [pp.length_eq]; omega
  refine ⟨L0, rfl, ⟨_, .of upd_same⟩, fun acc hacc => ?_⟩
  have hLd : L0 ≠ d := fun z => by rw [z, hd2] at hL0; cases hL0
  have hkeep : ∀ b o, H2 b = some o -> (upd H2 L0 (.lst (rs.map V.int))) b = some o := fun b o e => by rw [upd_ne (fun z => by rw [z, hL0] at e; cases e)]; exact e
  have hd3 := hkeep _ _ hd2
  have hL3 : (upd H2 L0 (.lst (rs.map V.int))) L0 = some (.lst (rs.map V.int)) := upd_same
  have hb3 : ∀ b o, H b = some o -> (upd H2 L0 (.lst (rs.map V.int))) b = some o := fun b o e => hkeep b o (hk b o e)
  generalize upd H2 L0 (.lst (rs.map V.int)) = H3 at hacc hd3 hL3 hb3 ⊢
  have fresh : ∀ b, H3 b = none -> H b = none := fun b e => by
   cases e2 : H b with
   | none => rfl
   | some o => rw [hb3 b o e2] at e; cases e
  refine R.comp_list (xs := rs.map V.int) (fun i σ H4 => ∃ x0 ts, σ = [x0, some (.ref d)] /\ ts.length = i /\ H4 acc = some (.lst (ts.map V.ref)) /\ acc ∉ ts /\ (∀ t ∈ ts, H3 t = none) /\ (∀ (j : Nat) t k, ts[j]? = some t -> rs[j]? = some k -> H4 t = some (.tup [.int k, .int (ns.count k)])) /\ ∀ b o, H3 b = some o -> H4 b = some o)
   ⟨_, [], rfl, rfl, upd_same, by simp, by simp, by simp, fun b o e => by rw [upd_ne (fun z => by rw [z, hacc] at e; cases e)]; exact e⟩ ?_ ?_ ?_
  ·rintro i σ H4 hi ⟨_, _, _, _, _, _, _, _, hk4⟩
   exact .of (hk4 _ _ hL3)
  ·rintro i x σ H4 hx ⟨x0, ts, rfl, tl, hacc4, nacc, tf, tv, hk4⟩
   rw [zq2x] at hx
   obtain ⟨k, hkk, rfl⟩ := zq42x.mp hx
   have hkn : k ∈ ns := (hrs k).mp (zq4x hkk)
   refine ⟨.int k, rfl, .ref d, rfl, .int k, rfl, d, kvs, Sum.inl k, .int (ns.count k), rfl, rfl, .inl (hk4 _ _ hd3), k4 k hkn, zq169x rfl, fun t ht => ?_⟩
   have hta : t ≠ acc := fun z => by rw [z, hacc4] at ht; cases ht
   have htn : t ∉ ts := fun z => by
    obtain ⟨j, hj⟩ := zq34x z
    have hjl := (zq5x.mp hj).1
    have hil : i < rs.length := (zq5x.mp hkk).1
    have := tv j t _ hj (zq1x (by omega))
    rw [ht] at this; cases this
   have ht3 : H3 t = none := by
    cases e2 : H3 t with
    | none => rfl
    | some o => rw [hk4 t o e2] at ht; cases ht
   refine ⟨ts.map V.ref, by rw [upd_ne (zq10x hta)]; exact hacc4, by rw [zq0x, tl]; exact zq55x (zq55x (zq5x.mp hkk).1 hrl) (by decide), _, ts ++ [t], rfl, by simp [tl], by rw [upd_same, zq21x]; rfl, ?_, ?_, ?_, ?_⟩
   ·intro z
    rcases zq29x.mp z with z | z
    ·exact nacc z
    ·exact hta (zq16x.mp z).symm
   ·intro u hu
    rcases zq29x.mp hu with z | z
    ·exact tf u z
    ·rw [zq16x.mp z]; exact ht3
   ·intro j u k' hj hk'
    by_cases hji : j < ts.length
    ·rw [zq38x hji] at hj
     have hm := zq4x hj
     rw [upd_ne (fun z : u = acc => nacc (z ▸ hm)), upd_ne (fun z : u = t => htn (z ▸ hm))]
     exact tv j u k' hj hk'
    ·have hjl := (zq5x.mp hj).1
     have : j = ts.length := by simp at hjl; omega
     subst this
     rw [zq46x (zq3x _), zq167x] at hj
     cases hj
     rw [tl] at hk'
     rw [hkk] at hk'; cases hk'
     rw [upd_ne hta, upd_same]
   ·intro b o e
    rw [upd_ne (fun z => by rw [z, hacc] at e; cases e), upd_ne (fun z => by rw [z, ht3] at e; cases e)]
    exact hk4 b o e
  ·rintro σ H4 ⟨x0, ts, rfl, tl, hacc4, nacc, tf, tv, hk4⟩
   rw [zq0x] at tl
   refine q rs _ H4 lt hrs (fun b o e => hk4 b o (hb3 b o e)) (.lst (fun z => ?_) hacc4 (IsDs.ofGet (by simp [tl]) fun i d' x e1 e2 => ?_))
   ·rcases z with z | z
    ·exact hlive acc z (fresh acc hacc)
    ·exact z (fresh acc hacc)
   ·rw [zq2x] at e1 e2
    obtain ⟨k, hkk, rfl⟩ := zq42x.mp e1
    obtain ⟨t, htt, rfl⟩ := zq42x.mp e2
    have h3 := fresh t (tf t (zq4x htt))
    refine .tup (fun z => ?_) (tv i t k htt hkk) (isDs_intsL [k, (ns.count k : Int)])
    rcases z with z | z
    ·exact hlive t z h3
    ·exact z h3
def thr (rows : List (List Int)) : List Int := rows.map fun r => (r.length : Int)
def degP (n : Int) (cs : List Prs) : List Int := thr (rowsTo n.toNat cs cs.length)
def degC (cs : List Prs) : List Int := cs.map fun prs => (prs.length : Int)
def Rise (ns rs : List Int) : Prop := rs.Pairwise (· < ·) /\ ∀ k, k ∈ rs ↔ k ∈ ns
theorem rowsC_cnt {c : Int} : ∀ {prs : Prs} {rows : List (List Int)} {g : Nat -> Nat}, (∀ (k : Nat) r, rows[k]? = some r -> r.length <= g k) -> ∀ (k : Nat) r, (rowsC rows c prs)[k]? = some r -> r.length <= g k + (prs.map fun pr => pr.1.toNat).count k
  | [], rows, g, h, k, r, e => by simpa using h k r e
  | pr :: prs, rows, g, h, k, r, e => by
    have := rowsC_cnt (c := c) (prs := prs) (rows := stepR rows c pr) (g := fun k => g k + if pr.1.toNat = k then 1 else 0) (fun k r e => by
      unfold stepR at e
      by_cases hk : pr.1.toNat = k
      · rw [if_pos hk]
        subst hk
        by_cases hl : pr.1.toNat < rows.length
        · rw [zq30x hl] at e
          cases e
          have := h _ _ (zq1x hl)
          rw [zq11x, zq1x hl, zq20x, zq41x]
          exact Nat.add_le_add_right this 1
        · rw [zq13x (by rw [zq40x]; omega)] at e; cases e
      · rw [if_neg hk]
        rw [zq19x hk] at e
        exact h k r e) k r e
    rw [zq8x, List.count_cons]
    by_cases hk : pr.1.toNat = k
    · simp [hk] at this ⊢; omega
    · simp [hk] at this ⊢; omega
theorem rowsTo_deg {n : Nat} {cs : List Prs} (hr : ∀ prs ∈ cs, (prs.map (·.1)).Pairwise (· < ·) /\ ∀ pr ∈ prs, 0 <= pr.1) : ∀ i, i <= cs.length -> ∀ (k : Nat) r, (rowsTo n cs i)[k]? = some r -> r.length <= i
  | 0, _, k, r, e => by
    unfold rowsTo at e
    have := zq4x e
    rw [zq189x this]; simp
  | i + 1, hi, k, r, e => by
    obtain ⟨prs, eprs⟩ : ∃ prs, cs[i]? = some prs := ⟨_, zq1x (by omega)⟩
    rw [rowsTo_succ eprs] at e
    have h1 := rowsC_cnt (g := fun _ => i) (rowsTo_deg hr i (by omega)) k r e
    obtain ⟨a1, a2⟩ := hr prs (zq4x eprs)
    have nd : (prs.map fun pr => pr.1.toNat).Nodup := by
      have : (prs.map fun pr => pr.1.toNat).Pairwise (· < ·) := by
        rw [zq49x] at a1 ⊢
        refine a1.imp_of_mem fun {x y} hx hy h => ?_
        have := a2 x hx; have := a2 y hy; omega
      exact this.imp fun h => zq12x h
    have h2 := List.nodup_iff_count.mp nd k
    show r.length <= i + 1
    have h1 : r.length <= i + (prs.map fun pr => pr.1.toNat).count k := h1
    omega
def pairsD (ns rs : List Int) : List PyData := rs.map fun d => pairD (d, (ns.count d : Int))
def F_counted : DF := fun ds Φ => ∃ ns : List Int, ds = [.list (ns.map .int)] /\ (∀ k ∈ ns, 0 <= k /\ k <= 62) /\ ∀ rs : List Int, rs.Pairwise (· < ·) -> (∀ k, k ∈ rs ↔ k ∈ ns) -> Φ true (.list (rs.map fun d => pairD (d, (ns.count d : Int))))
theorem mono_counted : MonoF F_counted := fun ds Φ Ψ ⟨ns, e, h, q⟩ z => ⟨ns, e, h, fun rs h1 h2 => z _ _ (q rs h1 h2)⟩
end L2
set_option maxRecDepth 100000
set_option maxHeartbeats 4000000
namespace L2
open PySem PySem.Spec PyProof.Rows
theorem rises_eq : ∀ {a b : List Int}, a.Pairwise (· < ·) -> b.Pairwise (· < ·) -> (∀ k, k ∈ a ↔ k ∈ b) -> a = b
  | [], [], _, _, _ => rfl
  | [], y :: b, _, _, h => absurd ((h y).mpr (zq22x ..)) (by simp)
  | x :: a, [], _, _, h => absurd ((h x).mp (zq22x ..)) (by simp)
  | x :: a, y :: b, ha, hb, h => by
    obtain ⟨ha1, ha2⟩ := zq170x.mp ha
    obtain ⟨hb1, hb2⟩ := zq170x.mp hb
    have e : x = y := by
      rcases zq17x.mp ((h x).mp (zq22x ..)) with z | z
      · exact z
      · rcases zq17x.mp ((h y).mpr (zq22x ..)) with w | w
        · exact w.symm
        · have := hb1 x z; have := ha1 y w; omega
    subst e
    have : a = b := rises_eq ha2 hb2 fun k => by
      constructor
      · intro hk
        rcases zq17x.mp ((h k).mp (zq25x _ hk)) with z | z
        · have := ha1 k hk; omega
        · exact z
      · intro hk
        rcases zq17x.mp ((h k).mpr (zq25x _ hk)) with z | z
        · have := hb1 k hk; omega
        · exact z
    rw [this]
theorem rise_len {ns a : List Int} (ha : Rise ns a) (h : ∀ k ∈ ns, 0 <= k /\ k <= 62) : a.length <= 100 := by
 have := zq94x (l₂ := (List.range 63).map fun (i : Nat) => (i : Int)) (ha.1.imp fun h => zq133x h) fun k hk => by
  obtain ⟨x, y⟩ := h k ((ha.2 k).mp hk)
  exact zq9x.mpr ⟨k.toNat, zq52x.mpr (by omega), by omega⟩
 simp at this
 omega
end L2
namespace L2
def Lg (n : Nat) (i : Int) : Prop := -(2 ^ n : Int) < i /\ i < 2 ^ n
abbrev Cn := List (Int × Int)
structure CntOk (cs : Cn) : Prop where
 rng : ∀ c ∈ cs, 0 <= c.1 /\ c.1 <= 12 /\ 0 <= c.2 /\ c.2 <= 10 ^ 7
 nd : (cs.map (·.1)).Nodup
 len : cs.length <= 14
 pos : ∃ c ∈ cs, 0 < c.1 /\ 0 < c.2
def sumS : Cn -> Rat -> Rat
 | [], _ => 0
 | c :: r, v => (if 0 < c.1 then ((c.1 * c.2 : Int) : Rat) * v ^ (c.1.toNat - 1) else 0) + sumS r v
def sumW : Cn -> Int
 | [] => 0
 | c :: r => c.1 * c.2 + sumW r
def tellT (cs : Cn) (v : Rat) : Rat := sumS cs v / (sumW cs : Int)
structure Sh (v : Rat) (a b : Int) (k : Nat) : Prop where
 a0 : 0 <= a
 ab : a <= b
 b0 : 0 < b
 bk : Lg k b
 e : (a : Rat) = v * b
def growG (l c : Cn) (s v : Rat) : Rat := s * tellT l (1 - tellT c (1 - v))
section
variable {l c : Cn} {s : Rat} (hl : CntOk l) (hc : CntOk c) (s0 : 0 <= s)
include hl hc s0
end
def ceilR (x : Rat) : Int := -((-x).floor)
end L2
namespace L2
structure Gw where
 l : Cn
 c : Cn
 s : Rat
 u : Int
def Gw.gr (g : Gw) (x : Int) : Rat := growG g.l g.c g.s ((x : Rat) / g.u) * g.u
def Gw.lo (g : Gw) : Nat -> Int
 | 0 => (g.s * g.u).floor
 | k + 1 => (g.gr (g.lo k)).floor
def Gw.hi (g : Gw) : Nat -> Int
 | 0 => ceilR (g.s * g.u)
 | k + 1 => ceilR (g.gr (g.hi k))
end L2
set_option maxRecDepth 100000
set_option maxHeartbeats 4000000
namespace L2
open PySem PySem.Spec PyProof.Rows
@[reducible] def bdD (g : Gw) (k : Nat) : PyData := .tuple [.int (g.lo k), .int (g.hi k)]
@[reducible] def fallD (n : Nat) : PyData := .tuple [.str "falls", .int n]
@[reducible] def stayD (x : Int) : PyData := .tuple [.str "stays", .int x]
@[reducible] def openD : PyData := .tuple [.str "open"]
def gLst (K : PySem.W.Frag) (n : Nat) (t : TGs) : TG := fun v σ H Q => ∃ a xs, v = .ref a /\ SqL K H a xs /\ xs.length = n /\ t xs σ H Q
theorem Gv.lst {G : Gx} {ρ : Rh} {f : Bool} {ds : List PyData} {K : PySem.W.Frag} {Θ : Rh -> Prop} {n : Nat} {u : TGs} (hl : ds.length = n) (h : Gvs G ρ u f ds Θ) : Gv G ρ (gLst K n u) f (.list ds) Θ := fun nb σ H v Q W hv z => by
 obtain ⟨a, xs, rfl, m, hx, hd⟩ := hv.ofL
 exact ⟨a, xs, rfl, .of hx, by rw [hd.length]; exact hl, h nb σ H xs Q W hd z⟩
end L2
set_option maxRecDepth 100000
set_option maxHeartbeats 4000000
namespace L2
open PySem PySem.Spec PyProof.Rows PySem.W
section
variable {n : Nat} {cmp : Nat -> Nat -> (Bool -> Shared -> Prop) -> Shared -> Prop} {s : Shared}
def VP (n : Nat) (p : Array Nat) : Prop := p.toList.Perm (List.range n)
theorem VP.of {p q : Array Nat} (h : VP n p) (z : q.Perm p) : VP n q := (Array.perm_iff_toList_perm.mp z).trans h
theorem VP.lt {p : Array Nat} (h0 : 0 < n) (h : VP n p) (k : Nat) : p.getD k 0 < n := by
 by_cases hk : k < p.size
 ·have e : p.getD k 0 = p[k] := by simp [Array.getD, hk]
  rw [e]
  have m : p[k] ∈ p.toList := by simp
  exact zq52x.mp (h.mem_iff.mp m)
 ·have e : p.getD k 0 = 0 := by simp [Array.getD, hk]
  rw [e]; exact h0
variable (h0 : 0 < n) (hc : ∀ i j C, i < n -> j < n -> (∀ b, C b s) -> cmp i j C s)
include h0 hc
end
def PairAt (h : Heap) (v : Value) : Prop := ∃ a o i j t u m, v = .ref a /\ h.get? a = some o /\ o.cls = .type "tuple" /\ o.data = .seq #[.int i t, .int j u] m
section
variable {prog : Program} {w : World} {A : Around} {E : Value -> Shared -> Prop} {s : Shared}
theorem pairs_kind {M : Model} {vs : List Value} {Q : SortKind -> Shared -> Prop} (hp : ∀ v ∈ vs, PairAt s.heap v) (hne : 0 < vs.length) (h : Q (tuples' true) s) : wpAny M A (keyKind' vs.toArray) Q E s := by
  obtain ⟨fs, hf, hl, hT⟩ : ∃ fs : List Value, KatTups s.heap vs fs /\ fs.length = vs.length /\ ∀ v ∈ fs, ∃ i t, v = .int i t := by
    clear hne h
    induction vs with
    | nil => exact ⟨[], .nil, rfl, fun _ h => nomatch h⟩
    | cons v r ih =>
      obtain ⟨fs, h1, h2, h3⟩ := ih fun x hx => hp x (zq25x _ hx)
      obtain ⟨a, o, i, j, t, u, m, rfl, g1, g2, g3⟩ := hp v (zq22x ..)
      refine ⟨.int i t :: fs, .cons g1 g2 g3 rfl h1, by simp [h2], fun x hx => ?_⟩
      rcases zq17x.mp hx with e | hx
      · exact ⟨i, t, e⟩
      · exact h3 x hx
  refine kat_kind (T := .type "int") hf (by omega) (fun v hv => ?_) (by decide) h
  obtain ⟨i, t, rfl⟩ := hT v hv
  exact Looks.of_pure rfl
end
end L2
set_option maxRecDepth 100000
set_option maxHeartbeats 4000000
namespace L2
open PySem PySem.Spec PyProof.Rows PySem.W
section
variable {n : Nat} {key : Nat -> Int} {cmp : Nat -> Nat -> (Bool -> Shared -> Prop) -> Shared -> Prop} {s : Shared}
def Kp' (key : Nat -> Int) (p : Array Nat) (x : Nat) : Int := key (p.getD x 0)
def So (key : Nat -> Int) (p : Array Nat) (b : Nat) : Prop := ∀ i j, i <= j -> j < b -> Kp' key p i <= Kp' key p j
def Ni (key : Nat -> Int) (p : Array Nat) (b : Nat) : Prop := ∀ i j, i <= j -> j < b -> Kp' key p j <= Kp' key p i
theorem VP.size {p : Array Nat} (h : VP n p) : p.size = n := by
 have := h.length_eq
 rw [zq50x, zq44x] at this
 exact this
theorem kp_eq (p : Array Nat) (x : Nat) : Kp' key p x = key ((p[x]?).getD 0) := by unfold Kp'; rw [zq125x]
theorem kp_rev {p : Array Nat} {i j : Nat} (hj : j <= p.size) (k : Nat) : Kp' key (kas_rev p i j) k = if i <= k /\ k < j then Kp' key p (i + j - 1 - k) else Kp' key p k := by
 rw [kp_eq, kp_eq, kp_eq]
 unfold kas_rev
 rw [getElem?_mirror_all hj k]
 split <;> rfl
theorem kp_bub {p : Array Nat} {k d : Nat} (hk : k < p.size) (hd : d <= k) (x : Nat) : Kp' key (bubble p k d) x = if x = k - d then Kp' key p k else if k - d < x /\ x <= k then Kp' key p (x - 1) else Kp' key p x := by
 rw [kp_eq, kp_eq, kp_eq, kp_eq, getElem?_bubble hk d hd x]
 split
 ·rfl
 ·split <;> rfl
theorem VP.rev {p : Array Nat} (h : VP n p) (i j : Nat) : VP n (kas_rev p i j) := h.of (mirror_perm _ _ _ _)
theorem kp_revEq {p : Array Nat} {i j : Nat} (hj : j <= p.size) (he : ∀ a b, i <= a -> a < j -> i <= b -> b < j -> Kp' key p a = Kp' key p b) (k : Nat) : Kp' key (kas_rev p i j) k = Kp' key p k := by
 rw [kp_rev hj]
 split
 ·exact he _ _ (by omega) (by omega) (by omega) (by omega)
 ·rfl
theorem ni_rev {p : Array Nat} {m : Nat} (hm : m <= p.size) (h : Ni key p m) : So key (kas_rev p 0 m) m := by
 intro i j hij hj
 rw [kp_rev hm, kp_rev hm, if_pos (by omega), if_pos (by omega)]
 exact h _ _ (by omega) (by omega)
variable (h0 : 0 < n) (hc : ∀ i j C, i < n -> j < n -> C (decide (key i < key j)) s -> cmp i j C s)
include h0 hc
theorem asc_ris {p : Array Nat} (hp : VP n p) {Q : Nat -> Shared -> Prop} : ∀ f m, 1 <= m -> m + f <= n -> So key p m -> (∀ r, m <= r -> r <= m + f -> So key p r -> (r = m + f \/ Kp' key p r < Kp' key p (r - 1)) -> Q r s) -> (kas_asc p f m).kasWp cmp Q s
  | 0, m, _, _, hs, hQ => hQ m (zq3x _) (zq3x _) hs (.inl rfl)
  | f + 1, m, m1, hm, hs, hQ => hc _ _ _ (hp.lt h0 _) (hp.lt h0 _) (by
    by_cases c : Kp' key p m < Kp' key p (m - 1)
    · rw [show decide (key (p.getD m 0) < key (p.getD (m - 1) 0)) = true from decide_eq_true c]
      exact hQ m (zq3x _) (by omega) hs (.inr c)
    · rw [show decide (key (p.getD m 0) < key (p.getD (m - 1) 0)) = false from decide_eq_false c]
      refine asc_ris hp f (m + 1) (by omega) (by omega) (fun i j hij hj => ?_) fun r r1 r2 r3 r4 => hQ r (by omega) (by omega) r3 (r4.elim (fun z => .inl (by omega)) .inr)
      by_cases e : j = m
      · subst e
        by_cases e2 : i = j
        · subst e2; exact zq60x _
        · have := hs i (j - 1) (by omega) (by omega)
          omega
      · exact hs i j hij (by omega))
theorem desc_ris {Q : Array Nat × Nat × Nat -> Shared -> Prop} : ∀ f p m q, VP n p -> 1 <= m -> m + f <= n -> q + 1 <= m -> Ni key p m -> (∀ a b, m - (q + 1) <= a -> a < m -> m - (q + 1) <= b -> b < m -> Kp' key p a = Kp' key p b) ->
    (∀ p' m' q', VP n p' -> m <= m' -> m' <= m + f -> q' + 1 <= m' -> Ni key p' m' -> (∀ a b, m' - (q' + 1) <= a -> a < m' -> m' - (q' + 1) <= b -> b < m' -> Kp' key p' a = Kp' key p' b) -> Q (p', m', q') s) -> (kas_desc f p m q).kasWp cmp Q s
  | 0, p, m, q, hp, m1, hm, hq, hn, he, hQ => hQ p m q hp (zq3x _) (zq3x _) hq hn he
  | f + 1, p, m, q, hp, m1, hm, hq, hn, he, hQ => hc _ _ _ (hp.lt h0 _) (hp.lt h0 _) (by
    have hps := hp.size
    by_cases c : Kp' key p m < Kp' key p (m - 1)
    · rw [show decide (key (p.getD m 0) < key (p.getD (m - 1) 0)) = true from decide_eq_true c]
      have hn1 : Ni key p (m + 1) := fun i j hij hj => by
        by_cases e : j = m
        · subst e
          by_cases e2 : i = j
          · subst e2; exact zq60x _
          · have := hn i (j - 1) (by omega) (by omega)
            omega
        · exact hn i j hij (by omega)
      simp only [if_true]
      split
      · have hk := kp_revEq (key := key) (p := p) (i := m - (q + 1)) (j := m) (by omega) he
        refine desc_ris f _ _ _ (hp.rev _ _) (by omega) (by omega) (by omega) (fun i j hij hj => by rw [hk, hk]; exact hn1 i j hij hj) (fun a b a1 a2 b1 b2 => by rw [show a = b by omega]) fun p' m' q' g1 g2 g3 g4 g5 g6 => hQ p' m' q' g1 (by omega) (by omega) g4 g5 g6
      · exact desc_ris f _ _ _ hp (by omega) (by omega) (by omega) hn1 (fun a b a1 a2 b1 b2 => by rw [show a = b by omega]) fun p' m' q' g1 g2 g3 g4 g5 g6 => hQ p' m' q' g1 (by omega) (by omega) g4 g5 g6
    · rw [show decide (key (p.getD m 0) < key (p.getD (m - 1) 0)) = false from decide_eq_false c]
      simp only [zq82x, if_false]
      refine hc _ _ _ (hp.lt h0 _) (hp.lt h0 _) ?_
      by_cases c2 : Kp' key p (m - 1) < Kp' key p m
      · rw [show decide (key (p.getD (m - 1) 0) < key (p.getD m 0)) = true from decide_eq_true c2]
        simp only [if_true]
        exact hQ p m q hp (zq3x _) (by omega) hq hn he
      · rw [show decide (key (p.getD (m - 1) 0) < key (p.getD m 0)) = false from decide_eq_false c2]
        simp only [zq82x, if_false]
        have ee : Kp' key p m = Kp' key p (m - 1) := by omega
        have hn1 : Ni key p (m + 1) := fun i j hij hj => by
          by_cases e : j = m
          · subst e
            by_cases e2 : i = j
            · subst e2; exact zq60x _
            · have := hn i (j - 1) (by omega) (by omega)
              omega
          · exact hn i j hij (by omega)
        have hel : ∀ a, m - (q + 1) <= a -> a < m + 1 -> Kp' key p a = Kp' key p (m - 1) := fun a a1 a2 => by
          by_cases e : a = m
          · rw [e, ee]
          · exact he a (m - 1) a1 (by omega) (by omega) (by omega)
        refine desc_ris f p (m + 1) (q + 1) hp (by omega) (by omega) (by omega) hn1 (fun a b a1 a2 b1 b2 => by rw [hel a (by omega) a2, hel b (by omega) b2]) fun p' m' q' g1 g2 g3 g4 g5 g6 => hQ p' m' q' g1 (by omega) (by omega) g4 g5 g6)
theorem tail3_ris {p : Array Nat} (hp : VP n p) {Q : Nat × Array Nat -> Shared -> Prop} {m : Nat} (m1 : 1 <= m) (hm : m <= n) (hn : Ni key p m) (hQ : ∀ m p, VP n p -> m <= n -> So key p m -> Q (m, p) s) : (kas_tail3 m n p).kasWp cmp Q s := by
 unfold kas_tail3
 rw [zq109x]
 have hp' : VP n (kas_rev p 0 m) := hp.of (mirror_perm _ _ _ _)
 have hps := hp.size
 exact asc_ris h0 hc hp' (n - m) m m1 (by omega) (ni_rev (by omega) hn) fun r r1 r2 r3 _ => hQ r _ hp' (by omega) r3
theorem descPart_ris {p : Array Nat} (hp : VP n p) {Q : Nat × Array Nat -> Shared -> Prop} {m : Nat} (m1 : 1 <= m) (hm : m + 1 <= n) (hn : Ni key p (m + 1)) (hQ : ∀ m p, VP n p -> m <= n -> So key p m -> Q (m, p) s) : (kas_descPart m n p).kasWp cmp Q s := by
 unfold kas_descPart
 rw [zq109x]
 refine desc_ris h0 hc (n - (m + 1)) p (m + 1) 0 hp (by omega) (by omega) (by omega) hn (fun a b a1 a2 b1 b2 => by rw [show a = b by omega]) fun p' m' q' g1 g2 g3 g4 g5 g6 => ?_
 have hps := g1.size
 dsimp only
 split
 ·have hk := kp_revEq (key := key) (p := p') (i := m' - (q' + 1)) (j := m') (by omega) g6
  exact tail3_ris h0 hc (g1.rev _ _) (by omega) (by omega) (fun i j hij hj => by rw [hk, hk]; exact g5 i j hij hj) hQ
 ·exact tail3_ris h0 hc g1 (by omega) (by omega) g5 hQ
theorem count_ris {p : Array Nat} (hp : VP n p) {Q : Nat × Array Nat -> Shared -> Prop} (hQ : ∀ m p, VP n p -> m <= n -> So key p m -> Q (m, p) s) : (kas_count n p).kasWp cmp Q s := by
 unfold kas_count
 rw [zq109x]
 have hps := hp.size
 refine asc_ris h0 hc hp (n - 1) 1 (by omega) (by omega) (fun i j hij hj => by rw [show i = j by omega]; exact zq60x _) fun m m1 m2 m3 m4 => ?_
 split
 ·exact hQ _ _ hp (by omega) m3
 rename_i c1
 have c1 : m ≠ n := by simpa using c1
 have hlt : Kp' key p m < Kp' key p (m - 1) := m4.elim (fun z => absurd z (by omega)) id
 split
 ·refine hc _ _ _ (hp.lt h0 _) (hp.lt h0 _) ?_
  by_cases c2 : Kp' key p 0 < Kp' key p (m - 1)
  ·rw [show decide (key (p.getD 0 0) < key (p.getD (m - 1) 0)) = true from decide_eq_true c2]
   simp only [if_true]
   exact hQ _ _ hp (by omega) m3
  ·rw [show decide (key (p.getD 0 0) < key (p.getD (m - 1) 0)) = false from decide_eq_false c2]
   simp only [zq82x, if_false]
   have he : ∀ a, a < m -> Kp' key p a = Kp' key p 0 := fun a ha => by
    have e1 := m3 0 a (by omega) ha
    have e2 := m3 a (m - 1) (by omega) (by omega)
    omega
   have hk := kp_revEq (key := key) (p := p) (i := 0) (j := m) (by omega) fun a b _ a2 _ b2 => by rw [he a a2, he b b2]
   refine descPart_ris h0 hc (hp.rev _ _) m1 (by omega) (fun i j hij hj => ?_) hQ
   rw [hk, hk]
   by_cases e : j = m
   ·subst e
    by_cases e2 : i = j
    ·subst e2; exact zq60x _
    ·have e3 := he i (by omega)
     have e4 := he (j - 1) (by omega)
     omega
   ·rw [he i (by omega), he j (by omega)]
    exact zq60x _
 ·have : m = 1 := by omega
  subst this
  refine descPart_ris h0 hc hp m1 (by omega) (fun i j hij hj => ?_) hQ
  by_cases e : i = j
  ·subst e; exact zq60x _
  ·have : i = 0 := by omega
   have : j = 1 := by omega
   subst i j
   exact zq165x hlt
theorem place_ris {p : Array Nat} (hp : VP n p) {k : Nat} (hs : So key p k) {Q : Nat -> Shared -> Prop} (hQ : ∀ l, l <= k -> (∀ i, i < l -> Kp' key p i <= Kp' key p k) -> (∀ i, l <= i -> i < k -> Kp' key p k < Kp' key p i) -> Q l s) :
    ∀ f l r, l <= r -> r <= k -> r - l <= f -> (∀ i, i < l -> Kp' key p i <= Kp' key p k) -> (∀ i, r <= i -> i < k -> Kp' key p k < Kp' key p i) -> (kas_place p k f l r).kasWp cmp Q s
  | 0, l, r, h1, h2, h3, h4, h5 => hQ l (by omega) h4 (by rw [show l = r by omega]; exact h5)
  | f + 1, l, r, h1, h2, h3, h4, h5 => by
    unfold kas_place
    split
    · exact hQ l (by omega) h4 (by rw [show l = r by omega]; exact h5)
    · refine hc _ _ _ (hp.lt h0 _) (hp.lt h0 _) ?_
      by_cases c : Kp' key p k < Kp' key p ((l + r) / 2)
      · rw [show decide (key (p.getD k 0) < key (p.getD ((l + r) / 2) 0)) = true from decide_eq_true c]
        simp only [if_true]
        exact place_ris hp hs hQ f _ _ (by omega) (by omega) (by omega) h4 fun i i1 i2 => by have := hs _ i i1 i2; omega
      · rw [show decide (key (p.getD k 0) < key (p.getD ((l + r) / 2) 0)) = false from decide_eq_false c]
        simp only [zq82x, if_false]
        exact place_ris hp hs hQ f _ _ (by omega) (by omega) (by omega) (fun i i1 => by have := hs i ((l + r) / 2) (by omega) (by omega); omega) h5
theorem bin_ris {Q : Array Nat -> Shared -> Prop} (hQ : ∀ p, VP n p -> So key p n -> Q p s) : ∀ f p k, VP n p -> f + k = n -> So key p k -> (kas_bin f p k).kasWp cmp Q s
  | 0, p, k, hp, hf, hs => hQ p hp (by rw [show n = k by omega]; exact hs)
  | f + 1, p, k, hp, hf, hs => by
    unfold kas_bin
    rw [zq109x]
    have hps := hp.size
    refine place_ris h0 hc hp hs (fun l l1 l2 l3 => ?_) k 0 k (by omega) (by omega) (by omega) (fun i hi => by omega) (fun i i1 i2 => by omega)
    refine bin_ris hQ f _ _ (hp.of (bubble_perm _ _ _)) (by omega) fun i j hij hj => ?_
    rw [kp_bub (by omega) (by omega), kp_bub (by omega) (by omega), show k - (k - l) = l by omega]
    by_cases e1 : i = l
    · rw [if_pos e1]
      by_cases e2 : j = l
      · rw [if_pos e2]; exact zq60x _
      · rw [if_neg e2, if_pos (by omega)]
        exact zq165x (l3 _ (by omega) (by omega))
    · rw [if_neg e1]
      by_cases e2 : j = l
      · rw [if_pos e2, if_neg (by omega)]
        exact l2 i (by omega)
      · rw [if_neg e2]
        by_cases e3 : l < i /\ i <= k
        · rw [if_pos e3, if_pos (by omega)]
          exact hs _ _ (by omega) (by omega)
        · rw [if_neg e3]
          by_cases e4 : l < j /\ j <= k
          · rw [if_pos e4]
            exact hs _ _ (by omega) (by omega)
          · rw [if_neg e4]
            exact hs _ _ (by omega) (by omega)
theorem sort_ris {Q : Array Nat -> Shared -> Prop} (hQ : ∀ p, VP n p -> So key p n -> Q p s) : (kas_sort n).kasWp cmp Q s := by
 unfold kas_sort
 rw [zq109x]
 refine count_ris h0 hc (p := List.toArray (List.range n)) (by unfold VP; exact .refl _) fun m p hp hm hs => ?_
 dsimp only
 split
 ·refine bin_ris h0 hc hQ _ _ _ hp (by omega) fun i j hij hj => ?_
  by_cases e : i = j
  ·rw [e]; exact zq60x _
  ·exact hs i j hij (by omega)
 ·exact hQ _ hp (by rw [show n = m by omega]; exact hs)
end
end L2
set_option maxRecDepth 100000
set_option maxHeartbeats 4000000
namespace L2
open PySem PySem.Spec PyProof.Rows PySem.W
def lexB (c d : Int × Int) : Bool := if c.1 = d.1 then decide (c.2 < d.2) else decide (c.1 < d.1)
def encP (M : Int) (c : Int × Int) : Int := c.1 * M + c.2
theorem enc_ex : ∀ cs : List (Int × Int), ∃ M : Int, 0 < M /\ ∀ c ∈ cs, -M < 2 * c.2 /\ 2 * c.2 < M
  | [] => ⟨1, by decide, fun _ h => nomatch h⟩
  | c :: cs => by
    obtain ⟨M, h0, h⟩ := enc_ex cs
    refine ⟨M + 2 * c.2.natAbs + 1, by omega, fun d hd => ?_⟩
    rcases zq17x.mp hd with e | e
    · subst e; omega
    · have := h d e; omega
theorem enc_lex {M : Int} {c d : Int × Int} (h0 : 0 < M) (hc : -M < 2 * c.2 /\ 2 * c.2 < M) (hd : -M < 2 * d.2 /\ 2 * d.2 < M) : lexB c d = decide (encP M c < encP M d) := by
 unfold lexB encP
 split
 ·rename_i e
  rw [e]
  apply decide_eq_decide.mpr
  omega
 ·rename_i e
  apply decide_eq_decide.mpr
  constructor
  ·intro z
   have : (c.1 + 1) * M <= d.1 * M := zq150x (by omega) (by omega)
   rw [zq123x, zq121x] at this
   omega
  ·intro z
   rcases Int.lt_trichotomy c.1 d.1 with y | y | y
   ·exact y
   ·exact absurd y e
   ·have : (d.1 + 1) * M <= c.1 * M := zq150x (by omega) (by omega)
    rw [zq123x, zq121x] at this
    omega
def PairIs (h : Heap) (c : Int × Int) (v : Value) : Prop := ∃ a o t u m, v = .ref a /\ h.get? a = some o /\ o.cls = .type "tuple" /\ o.data = .seq #[.int c.1 t, .int c.2 u] m
def PairsAre (h : Heap) (cs : List (Int × Int)) (vs : List Value) : Prop := vs.length = cs.length /\ ∀ k, k < cs.length -> PairIs h (cs.getD k (0, 0)) (vs.getD k .none)
theorem PairIs.at {h : Heap} {c : Int × Int} {v : Value} (x : PairIs h c v) : PairAt h v := by
 obtain ⟨a, o, t, u, m, e, h1, h2, h3⟩ := x
 exact ⟨a, o, _, _, t, u, m, e, h1, h2, h3⟩
theorem PairIs.keep {h h' : Heap} {c : Int × Int} {v : Value} (x : PairIs h c v) (k : ∀ b o, v = .ref b -> h.get? b = some o -> h'.get? b = some o) : PairIs h' c v := by
 obtain ⟨a, o, t, u, m, e, h1, h2, h3⟩ := x
 exact ⟨a, o, t, u, m, e, k _ _ e h1, h2, h3⟩
theorem PairsAre.at {h : Heap} {cs : List (Int × Int)} {vs : List Value} (x : PairsAre h cs vs) : ∀ v ∈ vs, PairAt h v := fun v hv => by
 obtain ⟨k, hk, e⟩ := List.mem_iff_getElem.mp hv
 have := x.2 k (by rw [<- x.1]; exact hk)
 rw [zq11x (l := vs), zq1x hk, e] at this
 exact this.at
section
variable {prog : Program} {w : World} {A : Around} {E : Value -> Shared -> Prop} {s : Shared}
theorem pair_ltR {x y : Value} {c d : Int × Int} {C : Bool -> Shared -> Prop} (hx : PairIs s.heap c x) (hy : PairIs s.heap d y) (h : C (lexB c d) s) : wpAny (model prog w) A (keyLt' (tuples' true) x y) C E s := by
 obtain ⟨a, o, t, u, m, rfl, h1, h2, h3⟩ := hx
 obtain ⟨a', o', t', u', m', rfl, h1', h2', h3'⟩ := hy
 unfold lexB at h
 refine kat_lt h1 h3 h1' h3' ?_
 refine kat_cons (wpAny_eqBool_int ?_)
 by_cases e1 : c.1 = d.1
 ·rw [if_pos e1] at h
  rw [show (c.1 == d.1) = true from beq_iff_eq.mpr e1]
  refine kat_yes (kat_cons (wpAny_eqBool_int ?_))
  by_cases e2 : c.2 = d.2
  ·rw [show (c.2 == d.2) = true from beq_iff_eq.mpr e2]
   refine kat_yes (kat_nil ?_)
   rw [decide_eq_false (by omega)] at h
   exact h
  ·rw [show (c.2 == d.2) = false from beq_eq_false_iff_ne.mpr e2]
   refine kat_no ?_
   refine kat_one _ _ (lt_int ?_)
   exact h
 ·rw [if_neg e1] at h
  rw [show (c.1 == d.1) = false from beq_eq_false_iff_ne.mpr e1]
  refine kat_no ?_
  exact oneLt_int h
theorem list_sort_pairsR {a : Addr} {vs : List Value} {cs : List (Int × Int)} {n : Nat} {P : Fin -> Shared -> Prop} (ho : s.heap.get? a = some (seqObj "list" vs.toArray n)) (hp : PairsAre s.heap cs vs) (hna : ∀ v ∈ vs, v ≠ .ref a) (h64 : vs.length < 64)
  (h : ∀ (out : Array Value) (ix : List Nat), ix.Perm (List.range vs.length) -> out.toList = ix.map (fun i => vs.getD i .none) -> (ix.map fun i => cs.getD i (0, 0)).Pairwise (fun c d => lexB d c = false) -> P (.done (.ret .none)) { s with heap := sortedHeap s.heap a vs out }) :
  wpAny (model prog w) A (Builtin.«list.sort» ⟨[.ref a], []⟩) P E s := by
 rw [list_sort_plain]
 have ha : a < s.heap.objs.size := zq6x ho
 refine wpAny_bind (listItems_at ho rfl ?_)
 refine wpAny_bind (listUpdate_at ho rfl ?_)
 obtain ⟨e1, ho1⟩ : ∃ e1, (s.heap.update a (Obj.mapSeq fun _ => #[])).get? a = some (seqObj "list" #[] e1) := ⟨_, get?_update_seq ho (fun _ => #[])⟩
 refine wpAny_bind (seqEpoch_at ho1 rfl ?_)
 refine wpAny_bind (wpAny_newTuple ?_)
 refine wpAny_bind (wpAny_newList ?_)
 refine wpAny_holding ?_
 have ho6 : (((s.heap.update a (Obj.mapSeq fun _ => #[])).push (seqObj "tuple" vs.toArray 0)).push (seqObj "list" #[] 0)).get? a = some (seqObj "list" #[] e1) := by
  rw [zq134x _ _ _ (by rw [size_push', zq135x]; exact zq12x (zq70x ha)), zq134x _ _ _ (by rw [zq135x]; exact zq12x ha)]
  exact ho1
 show wpAny (model prog w) A _ P E { s with heap := ((s.heap.update a (Obj.mapSeq fun _ => #[])).push (seqObj "tuple" vs.toArray 0)).push (seqObj "list" #[] 0) }
 dsimp only
 have hsz : vs.toArray.size = vs.length := by simp
 have hp6 : PairsAre (((s.heap.update a (Obj.mapSeq fun _ => #[])).push (seqObj "tuple" vs.toArray 0)).push (seqObj "list" #[] 0)) cs vs := ⟨hp.1, fun k hk => by
  have hm : vs.getD k .none ∈ vs := by
   have : k < vs.length := by rw [hp.1]; exact hk
   rw [zq11x, zq1x this]
   exact zq28x _
  refine (hp.2 k hk).keep fun b o e g1 => zq7x _ (zq7x _ ?_)
  have hb : b ≠ a := fun z => hna _ hm (by rw [e, z])
  rw [Heap.get?_update_ne _ _ _ _ hb]; exact g1⟩
 by_cases h2 : vs.toArray.size < 2
 ·rw [if_pos h2, if_pos h2]
  refine wpAny_bind (wpAny_pure ?_)
  rw [StateT.run_pure]
  refine wpAny_bind (wpAny_pure ?_)
  dsimp only
  refine wpAny_bind (seqEpoch_at ho6 rfl ?_)
  refine wpAny_bind (listUpdate_at ho6 rfl ?_ (hsz2 := by rw [Array.size_map]; show (pairsOf vs).size <= _; rw [pairsOf_size, sizeLine_eq]; omega))
  simp only [bne_self_eq_false, zq82x, if_false]
  refine wpAny_pure (h _ (List.range vs.length) (.refl _) ?_ ?_)
  ·have e : (Array.map (fun x => x.2) (vs.toArray.zip vs.toArray)).toList = vs := by
    rw [Array.toList_map, Array.toList_zip]
    simp [List.map_snd_zip]
   show (Array.map (fun x => x.2) (vs.toArray.zip vs.toArray)).toList = _
   rw [e]
   refine zq35x fun k => ?_
   rw [zq2x]
   by_cases hk : k < vs.length
   ·rw [zq110x hk, zq1x hk]; simp [hk]
   ·rw [zq13x (by omega), zq13x (by rw [zq50x]; omega)]; rfl
  ·have : vs.length < 2 := by omega
   rcases zq151x vs.length 1 with z | z
   ·rw [show vs.length = 0 by omega]; exact .nil
   ·rw [show vs.length = 1 by omega]
    show List.Pairwise _ [_]
    exact zq191x _ _
 ·rw [if_neg h2, if_neg h2]
  refine wpAny_bind (pairs_kind hp6.at (by omega) ?_)
  obtain ⟨M, M0, hM⟩ := enc_ex cs
  have hMd : ∀ i, i < vs.length -> -M < 2 * (cs.getD i (0, 0)).2 /\ 2 * (cs.getD i (0, 0)).2 < M := fun i hi => by
   have : i < cs.length := by rw [<- hp.1]; exact hi
   rw [zq11x, zq1x this]
   exact hM _ (zq28x _)
  refine wpAny_bind (wpAny_mono (kat_run (κ := tuples' true) (vs := vs) (ks := vs) (s := { s with heap := ((s.heap.update a (Obj.mapSeq fun _ => #[])).push (seqObj "tuple" vs.toArray 0)).push (seqObj "list" #[] 0) }) (Q := fun st' s' => s' = { s with heap := ((s.heap.update a (Obj.mapSeq fun _ => #[])).push (seqObj "tuple" vs.toArray 0)).push (seqObj "list" #[] 0) } /\ failedOf st' = none /\ ∃ ix : List Nat, ix.Perm (List.range vs.length) /\ ((arrOf st').map (·.2)).toList = ix.map (fun i => vs.getD i .none) /\ (ix.map fun i => cs.getD i (0, 0)).Pairwise (fun c d => lexB d c = false))
   (G := fun p s' => s' = { s with heap := ((s.heap.update a (Obj.mapSeq fun _ => #[])).push (seqObj "tuple" vs.toArray 0)).push (seqObj "list" #[] 0) } /\ VP vs.length p /\ So (fun i => encP M (cs.getD i (0, 0))) p vs.length) rfl (by omega) h64 (fun p st' s' g1 g2 g3 ⟨g4, g5, g6⟩ => ⟨g4, g3, p.toList, g5, ?_, ?_⟩) (sort_ris (n := vs.length) (key := fun i => encP M (cs.getD i (0, 0))) (by omega) (fun i j C hi hj hC => ?_) fun p hp hs => ⟨rfl, hp, hs⟩)) ?_ fun _ _ e => e)
  ·rw [kat_snds rfl g2]
  ·rw [zq49x]
   have hps := g5.length_eq
   rw [zq50x, zq44x] at hps
   rw [zq99x]
   intro i j hi hj hij
   rw [zq44x] at hi hj
   have := g6 i j (by omega) (by omega)
   unfold Kp' at this
   have ei : p.getD i 0 = p.toList[i] := by simp [Array.getD, hi]
   have ej : p.getD j 0 = p.toList[j] := by simp [Array.getD, hj]
   rw [ei, ej] at this
   dsimp only at this
   have li : p.toList[i] < vs.length := zq52x.mp (g5.mem_iff.mp (zq28x _))
   have lj : p.toList[j] < vs.length := zq52x.mp (g5.mem_iff.mp (zq28x _))
   rw [enc_lex M0 (hMd _ lj) (hMd _ li)]
   apply decide_eq_false
   omega
  ·rw [kat_ask_eq (vs := vs) rfl]
   unfold kas_cmp
   rw [kat_item rfl, kat_item rfl]
   refine pair_ltR (hp6.2 i (by rw [<- hp.1]; exact hi)) (hp6.2 j (by rw [<- hp.1]; exact hj)) ?_
   rw [enc_lex M0 (hMd _ hi) (hMd _ hj)]
   exact hC
  rintro ⟨⟨⟩, st'⟩ s' ⟨rfl, hf, ix, hs, hs2, hs3⟩
  dsimp only
  refine wpAny_bind (seqEpoch_at ho6 rfl ?_)
  refine wpAny_bind (listUpdate_at ho6 rfl ?_ (hsz2 := by
   have e := congrArg List.length hs2
   rw [zq44x, zq0x, hs.length_eq, zq50x] at e
   rw [sizeLine_eq]
   have e' : (Array.map (fun x => x.2) (arrOf st')).size = vs.length := e
   omega))
  rw [hf]
  simp only [bne_self_eq_false, zq82x, if_false]
  exact wpAny_pure (h _ ix hs hs2 hs3)
theorem sorted_pairsR {l : Addr} {vs : List Value} {cs : List (Int × Int)} {Q : Value -> Shared -> Prop} (hl : s.heap.IsList l vs.toArray) (hp : PairsAre s.heap cs vs) (h64 : vs.length < 64)
  (h : ∀ (out : Array Value) (ix : List Nat), ix.Perm (List.range vs.length) -> out.toList = ix.map (fun i => vs.getD i .none) -> (ix.map fun i => cs.getD i (0, 0)).Pairwise (fun c d => lexB d c = false) -> Q (.ref (s.heap.objs.size + 1)) { s with heap := sortedAll s.heap vs out }) :
  wpAny (model prog w) A (call (.builtin "sorted") [.ref l]) Q E s := by
 refine zq129x kind_sorted plain_sorted entry_sorted (args_sorted1 _) ?_
 unfold Builtin.«sorted»
 refine wpAny_bind (m := checkCount "sorted" 1 1 _) (wpAny_pure ?_)
 refine wpAny_bind (collect_list hl ?_)
 refine wpAny_bind (wpAny_newList ?_)
 have hsz : ((s.heap.push (seqObj "list" #[] 0)).update s.heap.objs.size (Obj.mapSeq (· ++ vs.toArray))).objs.size = s.heap.objs.size + 1 := by
  rw [zq135x, size_push']
 have hoL : (((s.heap.push (seqObj "list" #[] 0)).update s.heap.objs.size (Obj.mapSeq (· ++ vs.toArray))).push (seqObj "list" vs.toArray 0)).get? (s.heap.objs.size + 1) = some (seqObj "list" vs.toArray 0) := by
  rw [<- hsz]; exact zq27x _ rfl
 have keep : ∀ b o, s.heap.get? b = some o -> (((s.heap.push (seqObj "list" #[] 0)).update s.heap.objs.size (Obj.mapSeq (· ++ vs.toArray))).push (seqObj "list" vs.toArray 0)).get? b = some o := fun b o q => by
  have hlt : b < s.heap.objs.size := zq6x q
  rw [zq134x _ _ _ (by rw [hsz]; exact zq12x (zq70x hlt)), Heap.get?_update_ne _ _ _ _ (zq12x hlt), zq134x _ _ _ (zq12x hlt)]
  exact q
 show wpAny _ _ _ _ _ { s with heap := ((s.heap.push (seqObj "list" #[] 0)).update s.heap.objs.size (Obj.mapSeq (· ++ vs.toArray))).push (seqObj "list" vs.toArray 0) }
 rw [hsz]
 refine wpAny_bind (wpAny_holding (wpAny_call_entry slot_list_sort ⟨_, hoL, rfl⟩ entry_list_sort (list_sort_pairsR hoL ⟨hp.1, fun k hk => (hp.2 k hk).keep fun b o _ => keep b o⟩ (fun v hv z => ?_) h64 fun out ix a1 a2 a3 => ⟨_, rfl, ?_⟩) (args_list_sort _)))
 ·obtain ⟨b, o, i, j, t, u, m, rfl, g1, _⟩ := hp.at v hv
  have := zq6x g1
  have z' : b = s.heap.objs.size + 1 := by cases z; rfl
  rw [z'] at this
  exact absurd this (Nat.not_lt.mpr (zq54x _))
 ·exact wpAny_pure ⟨_, rfl, h out ix a1 a2 a3⟩
end
def rSortP (K : PySem.W.Frag) : List V -> Hp -> VK -> Prop := fun xs H Q => ∃ (p : Addr) (ys : List V) (cs : List (Int × Int)), xs = [.ref p] /\ SqL K H p ys /\ ys.length = cs.length /\ ys.length < 64 /\ (∀ k, k < cs.length -> ∃ a, ys.getD k (.int 0) = .ref a /\ H a = some (.tup [.int (cs.getD k (0, 0)).1, .int (cs.getD k (0, 0)).2])) /\
 ∀ ix : List Nat, ix.Perm (List.range ys.length) -> (ix.map fun i => cs.getD i (0, 0)).Pairwise (fun c d => lexB d c = false) -> ∀ l, H l = none -> Q (.ref l) (upd H l (.lst (ix.map fun i => ys.getD i (.int 0))))
theorem vals_ix {ys : List V} {vs : List Value} (h : Vals ys vs) : ∀ ix : List Nat, (∀ i ∈ ix, i < ys.length) -> Vals (ix.map fun i => ys.getD i (.int 0)) (ix.map fun i => vs.getD i Value.none)
  | [], _ => .nil
  | i :: ix, hi => by
    have hl := hi i (zq22x ..)
    obtain ⟨v, hv, rv⟩ := h.get (i := i) (x := ys[i]) (zq1x hl)
    refine .cons ?_ (vals_ix h ix fun j hj => hi j (zq25x _ hj))
    dsimp only
    rw [zq11x, zq1x hl, zq11x, hv]
    exact rv
theorem call_sortP {X : Cx} : CallR X (.builtin "sorted") (rSortP X.K) := by
  intro pins s σ H xs us Q I rv h
  obtain ⟨p, ys, cs, rfl, hp, hyc, h64, hy, q⟩ := h
  obtain ⟨u, rfl, ru⟩ := vals1 rv
  cases ru
  obtain ⟨its, rs, il, hz⟩ := I.list hp
  have hl := rs.length
  refine sorted_pairsR (vs := its) (cs := cs) il.isList ⟨by omega, fun k hk => ?_⟩ (by omega) fun out ix ho ho2 ho3 => ?_
  · have hk' : k < ys.length := by omega
    obtain ⟨v', hv', rv'⟩ := rs.get (i := k) (x := ys[k]) (zq1x hk')
    obtain ⟨a, ea, ha⟩ := hy k hk
    rw [zq11x, zq1x hk'] at ea
    have ea : ys[k] = .ref a := ea
    rw [ea] at rv'
    rw [zq11x (l := its), hv']
    cases rv'
    obtain ⟨_, its2, rv2, o, g1, g2, m, g3⟩ := (show ObjOk X.prog X.w H s.heap a (.tup [.int (cs.getD k (0, 0)).1, .int (cs.getD k (0, 0)).2]) from I.hok a _ ha)
    cases rv2 with
    | cons x1 x2 =>
      cases x2 with
      | cons y1 y2 =>
        cases y2
        obtain ⟨t, rfl⟩ := x1
        obtain ⟨t2, rfl⟩ := y1
        exact ⟨a, o, t, t2, m, rfl, g1, g2, g3⟩
  · rw [hl.symm] at ho
    obtain ⟨e, ge⟩ := sortedAll_at s.heap its out
    have hlt : ∀ i ∈ ix, i < ys.length := fun i hi => zq52x.mp (ho.mem_iff.mp hi)
    have h1 := vals_ix rs ix hlt
    rw [<- ho2] at h1
    have new : ObjOk X.prog X.w (upd H (s.heap.objs.size + 1) (.lst (ix.map fun i => ys.getD i (.int 0)))) (sortedAll s.heap its out) (s.heap.objs.size + 1) (.lst (ix.map fun i => ys.getD i (.int 0))) := by
      refine ⟨?_, out.toList, e, h1, by simpa using ge⟩
      rw [zq0x, ho.length_eq, zq50x]; exact zq24x (zq43x h64) (by decide)
    exact ⟨.ref (s.heap.objs.size + 1), _, I.laid (t' := s.toks) (fun b o z => sortedAll_old z) (zq54x _) new, rfl, q ix ho ho3 _ (I.hok.fresh (zq54x _))⟩
theorem isDs_nth {nb : Addr -> Prop} {H : Hp} : ∀ {ds : List PyData} {xs : List V}, IsDs nb H ds xs -> ∀ k, k < ds.length -> IsD nb H (ds.getD k .none) (xs.getD k (.int 0))
  | [], xs, h, k, hk => absurd hk (Nat.not_lt_zero _)
  | d :: ds, xs, h, k, hk => by
    unfold IsDs at h
    obtain ⟨z, zs, rfl, h1, h2⟩ := h
    cases k with
    | zero => exact h1
    | succ k => exact isDs_nth h2 k (Nat.lt_of_succ_lt_succ hk)
theorem isDs_ix {nb : Addr -> Prop} {H : Hp} {ds : List PyData} {xs : List V} (h : IsDs nb H ds xs) : ∀ ix : List Nat, (∀ i ∈ ix, i < ds.length) -> IsDs nb H (ix.map fun i => ds.getD i .none) (ix.map fun i => xs.getD i (.int 0))
 | [], _ => .nil
 | i :: ix, hi => .cons (isDs_nth h i (hi i (zq22x ..))) (isDs_ix h ix fun j hj => hi j (zq25x _ hj))
theorem ix_perm {α : Type} {x : α} {l : List α} {ix : List Nat} (h : ix.Perm (List.range l.length)) : (ix.map fun i => l.getD i x).Perm l := by
 have := h.map fun i => l.getD i x
 refine this.trans (List.Perm.of_eq ?_)
 refine zq35x fun k => ?_
 rw [zq2x]
 by_cases hk : k < l.length
 ·rw [zq110x hk, zq1x hk]; simp [hk]
 ·rw [zq13x (by rw [zq50x]; omega), zq13x (by omega)]; rfl
theorem EvN.sortP {G : Gx} {ρ : Rh} {te : TE} {K : PySem.W.Frag} {Θ : Bool -> List PyData -> Prop} (h : Ev G ρ te fun f x => ∃ cs : Cn, x = .list (cs.map pairD) /\ cs.length < 64 /\ ∀ (cs' : Cn) (g : Bool), cs'.Perm cs -> cs'.Pairwise (fun c d => lexB d c = false) -> Θ g (cs'.map pairD)) : EvN G ρ (tCB (rSortP K) (tCons te tNil)) Θ := fun nb σ H Q W z =>
 h nb σ H _ W fun f v H1 x ⟨cs, ex, hn, q⟩ s1 hv => by
  subst ex
  obtain ⟨a, xs, rfl, na, hx, hd⟩ := hv.ofL
  have hl := hd.length
  rw [zq0x] at hl
  refine ⟨a, xs, cs, rfl, .of hx, hl, by omega, fun k hk => ?_, fun ix hix hr l hll => ?_⟩
  ·have hk' : k < xs.length := by omega
   have hm : xs.getD k (.int 0) ∈ xs := by rw [zq11x, zq1x hk']; exact zq28x _
   have h1 := isDs_nth hd k (by rw [zq0x]; exact hk)
   have e : (cs.map pairD).getD k .none = pairD (cs.getD k (0, 0)) := by rw [zq11x, zq2x, zq11x, zq1x hk]; rfl
   rw [e] at h1
   obtain ⟨b, ws, eb, n, hx, hd⟩ := h1.ofT
   have : ws = [V.int (cs.getD k (0, 0)).1, V.int (cs.getD k (0, 0)).2] := isDs_ints_eq (is := [(cs.getD k (0, 0)).1, (cs.getD k (0, 0)).2]) hd
   subst this
   exact ⟨b, eb, hx⟩
  ·rw [hl] at hix
   have hlt : ∀ i ∈ ix, i < cs.length := fun i hi => zq52x.mp (hix.mem_iff.mp hi)
   have e : (ix.map fun i => (cs.map pairD).getD i .none) = (ix.map fun i => cs.getD i (0, 0)).map pairD := by
    rw [zq71x]
    apply zq131x
    intro i hi
    show (cs.map pairD).getD i .none = pairD (cs.getD i (0, 0))
    rw [zq11x, zq2x, zq11x, zq1x (hlt i hi)]; rfl
   have h2 := isDs_ix hd ix fun i hi => by rw [zq0x]; exact hlt i hi
   rw [e] at h2
   exact EvN.fin (f := f) W s1 hll h2 (q _ _ (ix_perm hix) hr) z
end L2
set_option maxRecDepth 100000
set_option maxHeartbeats 4000000
namespace L2
open PySem PySem.Spec PyProof.Rows
@[reducible] def gwOf (l c : Cn) (u p : Int) : Gw := ⟨l, c, (p : Rat) / u, u⟩
end L2
set_option maxRecDepth 100000
set_option maxHeartbeats 4000000
set_option maxRecDepth 100000
set_option maxHeartbeats 4000000
namespace L2
open PySem PySem.Spec PyProof.Rows
theorem lk_list_keys : typeLookup (.type "list") "keys" = pure none := by rw [typeLookup_type, builtinLookup_eq_fast]; kernel_rfl
theorem lk_list_getattr : typeLookup (.type "list") "__getattr__" = pure none := by rw [typeLookup_type, builtinLookup_eq_fast]; kernel_rfl
section
variable {prog : Program} {w : World} {A : Around} {E : Value -> Shared -> Prop} {h : Heap} {g : Array GenState} {d : Drawn} {t : Nat} {os : OsState} {a : Addr} {o : Obj}
theorem keys_entry_list {tk : Tok} {Q : Fin -> Shared -> Prop} {xs : Array Value} {n : Nat} (hh : A.handled = none) (hx : h.get? a = some (seqObj "list" xs n))
  (hq : ∀ h' tk e, Heap.NewAttrErr h h' e (.ref a) "keys" -> E (.ref e) ⟨h', g, d, tk, os⟩) :
  wpAny (model prog w) A (Builtin.«object.__getattribute__» ⟨[.ref a, .str "keys" tk], []⟩) Q E ⟨h, g, d, t, os⟩ := by
 have hT : (⟨h, g, d, t, os⟩ : Shared).TypeIs (.ref a) "list" := ⟨_, hx, rfl⟩
 have f4 := lk_list_keys
 unfold Builtin.«object.__getattribute__»
 repeat (any_goals (first | assumption | wp_step))
 exact wpAny_raiseAttrError hh hq (attrMsg_fits (by decide +kernel) (by size_fits))
theorem keys_call_list {tk : Tok} {R : Result -> Shared -> Prop} {xs : Array Value} {n : Nat} (hh : A.handled = none) (hx : h.get? a = some (seqObj "list" xs n)) (hq : ∀ h' tk e, Heap.NewAttrErr h h' e (.ref a) "keys" -> R (.error (.ref e)) ⟨h', g, d, tk, os⟩) :
  codeAny (model prog w) A (.call (.builtin "list.__getattribute__") ⟨[.ref a, .str "keys" tk], []⟩) R ⟨h, g, d, t, os⟩ :=
 codeAny_call_builtin zq136x.plain PySem.F.entry_list_ga (zq136x.check _ _ _ _ _ _ _ _ (show (⟨h, g, d, t, os⟩ : Shared).TypeIs (.ref a) "list" from ⟨_, hx, rfl⟩) (PySem.F.args_list_getattribute_2 _ _) (keys_entry_list (by exact hh) hx hq))
theorem no_keys_list {Q : Option Value -> Shared -> Prop} {xs : Array Value} {n : Nat} (hh : A.handled = none) (hx : h.get? a = some (seqObj "list" xs n))
  (hq : ∀ h' tk, (∀ b ob, h.get? b = some ob -> h'.get? b = some ob) -> Q none ⟨h', g, d, tk, os⟩) : wpAny (model prog w) A (getAttr? (.ref a) "keys") Q E ⟨h, g, d, t, os⟩ := by
 have hT : (⟨h, g, d, t, os⟩ : Shared).TypeIs (.ref a) "list" := ⟨_, hx, rfl⟩
 have f1 := sub_AttributeError
 have f2 := zq136x.lookup
 have f3 := zq136x.bind (.ref a)
 have f5 := lk_list_getattr
 unfold getAttr? getAttrBy? getAttrBy
 repeat (any_goals (first | assumption | wp_step))
 refine keys_call_list hh hx fun h' tk e hx' => ?_
 obtain ⟨t', u', he⟩ := hx'.there
 unfold getattributeRaised
 repeat (any_goals (first | assumption | wp_step))
 exact hq _ _ hx'.keeps
end
end L2
set_option maxRecDepth 100000
set_option maxHeartbeats 4000000
namespace L2
open PySem PySem.Spec PyProof.Rows
theorem entry_dict_loop : entryFor table "dict.update.loop" = some Builtin.«dict.update.loop» := entryFor_of_tree (by kernel_rfl)
theorem plain_dict_loop : plainId "dict.update.loop" = true := by decide +kernel
def KvAt (P : Program) (w : World) (h : Heap) (v : Value) (p : Key × Value) : Prop := ∃ a o m ku, v = .ref a /\ h.get? a = some o /\ o.cls = .type "tuple" /\ o.data = .seq #[ku, p.2] m /\ (mixKind P w).is p.1 ku = true
section
variable {prog : Program} {w : World} {A : Around} {E : Value -> Shared -> Prop} {s : Shared}
theorem dict_loop {R : Result -> Shared -> Prop} {d it l : Addr} {its : List Value} {ps : List (Key × Value)} (hh : A.in1.handled = none) (hdl : d ≠ l) (hdi : d ≠ it) (hil : l ≠ it) (hlen : its.length = ps.length) (hsz : its.length <= 10000) :
    ∀ (k i : Nat) (s : Shared) (t : Tok), its.length - i = k -> i <= its.length -> s.heap.IsListIter it l i -> s.heap.IsList l its.toArray -> (∀ (j : Nat) (v : Value) (p : Key × Value), its[j]? = some v -> ps[j]? = some p -> KvAt prog w s.heap v p) -> (∀ (j : Nat) (v : Value), its[j]? = some v -> v ≠ Value.ref d /\ v ≠ Value.ref it) ->
      s.heap.DictOf (mixKind prog w) d (merged [] (ps.take i)) -> (merged [] (ps.take i)).length <= i ->
      (∀ h' tk, (∀ b o, b ≠ d -> b ≠ it -> s.heap.get? b = some o -> h'.get? b = some o) -> h'.DictOf (mixKind prog w) d (merged [] ps) -> R (.ok (.ret .none)) { s with heap := h', toks := tk }) ->
      codeAny (model prog w) A (.builtin "dict.update.loop" ⟨[.ref d, .ref it, .int i t, .none], []⟩) R s := by
  intro k
  induction k with
  | zero =>
    intro i s t hk hi hit hl hp hne hD hDl hR
    have hin : i = its.length := by omega
    subst hin
    refine codeAny_builtin entry_dict_loop ?_
    rw [zq69x plain_dict_loop _]
    show wpAny _ A.in1 (pyNext (.ref it) >>= _) _ _ s
    refine wpAny_bind (wpAny_pyNext_list_end hh hit hl (by simp) fun h' he => ?_)
    show wpAny _ A.in1 (ret Value.none) _ _ _
    rw [hlen, zq62x] at hD
    exact wpAny_pure (hR h' s.toks (fun b o _ n e => he b o n e) (hD.extBut he hdi))
  | succ k ih =>
    intro i s t hk hi hit hl hp hne hD hDl hR
    have hlt : i < its.length := by omega
    obtain ⟨v, hv⟩ : ∃ v, its[i]? = some v := ⟨_, zq1x hlt⟩
    obtain ⟨p, hpp⟩ : ∃ p, ps[i]? = some p := ⟨_, zq1x (by omega)⟩
    obtain ⟨hn1, hn2⟩ := hne i v hv
    obtain ⟨a, o, m, ku, rfl, g1, g2, g3, g4⟩ := hp i v p hv hpp
    have had : a ≠ d := fun z => hn1 (by rw [z])
    have hai : a ≠ it := fun z => hn2 (by rw [z])
    refine codeAny_builtin entry_dict_loop ?_
    rw [zq69x plain_dict_loop _]
    show wpAny _ A.in1 (pyNext (.ref it) >>= _) _ _ s
    refine wpAny_bind (wpAny_pyNext_list_item hit hl (x := .ref a) (by simpa using hv) fun h1 hit1 sb1 => ?_)
    have g1' : h1.get? a = some o := (sb1.2 a hai).trans g1
    have hT : (⟨h1, s.gens, s.drawn, s.toks, s.os⟩ : Shared).TypeIs (.ref a) "tuple" := ⟨o, g1', g2⟩
    show wpAny _ A.in1 (holding [Value.ref a] _ >>= _) _ _ _
    refine wpAny_bind (wpAny_holding (wpAny_bind (wpAny_tryCatch ?_)))
    show wpAny _ A.in1 (Builtin.Dict.pairItems (.ref a)) _ _ _
    unfold Builtin.Dict.pairItems
    refine wpAny_bind (wpAny_typeOf hT ?_)
    rw [if_pos (by decide)]
    refine wpAny_bind (wpAny_seqItems g1' g3 (wpAny_pure ?_))
    show wpAny _ A.in1 (holding [ku, p.2] (dictSet d ku p.2)) _ _ _
    have hD1 : h1.DictOf (mixKind prog w) d (merged [] (ps.take i)) := hD.sameBut sb1 hdi
    refine wpAny_holding (wpAny_dictSet_pairs (s := ⟨h1, s.gens, s.drawn, s.toks, s.os⟩) g4 hD1 (fun h2 hD2 sb2 => ?_) (zq24x hDl (zq24x hi (zq24x hsz (by decide)))))
    have e : stored (merged [] (ps.take i)) p.1 p.2 = merged [] (ps.take (i + 1)) := by rw [take_snoc hpp]; unfold merged; rw [zq132x]; rfl
    rw [e] at hD2
    have kk : ∀ b o, b ≠ d -> b ≠ it -> s.heap.get? b = some o -> h2.get? b = some o := fun b o n1 n2 z => (sb2.2 b n1).trans ((sb1.2 b n2).trans z)
    refine wpAny_pure ⟨plainId_quiet plain_dict_loop _, ih (i + 1) ⟨h2, s.gens, s.drawn, s.toks + 1, s.os⟩ _ (by omega) hlt ?_ ?_ ?_ hne hD2 ?_ fun h' tk k' hD' => ?_⟩
    · exact hit1.at fun o z => (sb2.2 it (zq10x hdi)).trans z
    · exact hl.at fun o z => kk l o (zq10x hdl) hil z
    · intro j v' p' hv' hp'
      obtain ⟨hn1, hn2⟩ := hne j v' hv'
      obtain ⟨a, o, m, ku, rfl, q1, q2, q3, q4⟩ := hp j v' p' hv' hp'
      exact ⟨a, o, m, ku, rfl, kk a o (fun z => hn1 (by rw [z])) (fun z => hn2 (by rw [z])) q1, q2, q3, q4⟩
    · rw [<- e]
      unfold stored
      split
      · rw [zq0x]; omega
      · rw [zq20x, zq41x]; omega
    · exact hR h' tk (fun b o n1 n2 z => k' b o n1 n2 (kk b o n1 n2 z)) hD'
theorem call_dict_list {l : Addr} {its : List Value} {n : Nat} {ps : List (Key × Value)} {Q : Value -> Shared -> Prop} (hh : A.handled = none) (hlo : s.heap.get? l = some (seqObj "list" its.toArray n)) (hlen : its.length = ps.length) (hsz : its.length <= 10000)
  (hp : ∀ (j : Nat) (v : Value) (p : Key × Value), its[j]? = some v -> ps[j]? = some p -> KvAt prog w s.heap v p)
  (h : ∀ h' tk, h'.DictOf (mixKind prog w) s.heap.objs.size (merged [] ps) -> (∀ b o, s.heap.get? b = some o -> h'.get? b = some o) -> Q (.ref s.heap.objs.size) { s with heap := h', toks := tk }) :
  wpAny (model prog w) A (call (.type "dict") [.ref l]) Q E s := by
 refine callType_codes (Q₁ := fun obj s₁ => obj = .ref s.heap.objs.size /\ s₁ = { s with heap := s.heap.push { cls := .type "dict", data := .dict #[] } }) PySem.F.kt_called_dict (PySem.F.kt_typeCall_dict_1 _) PySem.F.entry_dict_init (kt_code_dict_new _ ⟨rfl, rfl⟩) ?_
 rintro obj s₁ ⟨rfl, rfl⟩
 have hnew : (s.heap.push { cls := .type "dict", data := .dict #[] }).DictOf (mixKind prog w) s.heap.objs.size [] := Heap.DictOf.new s.heap
 have hl1 : (s.heap.push { cls := .type "dict", data := .dict #[] }).get? l = some (seqObj "list" its.toArray n) := zq7x _ hlo
 have hll : l < s.heap.objs.size := zq6x hlo
 refine ⟨hnew.typeIs, PySem.F.args_dict_init_2 _ _, ?_⟩
 unfold Builtin.«dict.__init__»
 refine wpAny_bind ?_
 unfold Builtin.Dict.selfAndRest
 refine wpAny_bind (wpAny_notOrdered_dict hnew.typeIs ?_)
 show wpAny _ _ (pure (s.heap.objs.size, [Value.ref l])) _ _ _
 refine wpAny_pure ?_
 show wpAny _ _ (Builtin.Dict.updateFrom "dict.__init__" s.heap.objs.size (.ref l) [] .none) _ _ _
 unfold Builtin.Dict.updateFrom
 refine wpAny_bind (wpAny_typeOf (T := "list") ⟨_, hl1, rfl⟩ ?_)
 rw [if_pos (by decide)]
 refine wpAny_bind (no_keys_list (A := A.in1.in1) hh hl1 fun h1 tk k1 => ?_)
 rw [if_pos (show (none : Option Value).isNone = true from rfl)]
 refine wpAny_bind (wpAny_rule (wpAny_bind ?_))
 have hl2 : h1.get? l = some (seqObj "list" its.toArray n) := k1 _ _ hl1
 have hD1 : h1.DictOf (mixKind prog w) s.heap.objs.size [] := let ⟨o', es, ep, ho, r⟩ := hnew; ⟨o', es, ep, k1 _ _ ho, r⟩
 have hs1 : s.heap.objs.size < h1.objs.size := by obtain ⟨o', es, ep, ho, _⟩ := hD1; exact zq6x ho
 have L2' : h1.IsList l its.toArray := ⟨_, hl2, rfl, n, rfl⟩
 refine wpAny_pyIter_list L2' ?_
 refine wpAny_pure ⟨plainId_quiet plain_dict_loop _, ?_⟩
 refine dict_loop (A := A.in1) (its := its) (ps := ps) hh (zq10x (zq12x hll)) (zq12x hs1) (zq12x (zq55x hll hs1)) hlen hsz its.length 0 _ _ (by omega) (zq45x _) ⟨_, zq27x _ rfl, rfl, rfl⟩ (L2'.push _) ?_ ?_ (hD1.push _) (zq3x _) fun h' tk' k' hD' => ?_
 ·intro j v p hv hpp
  obtain ⟨a, o, m, ku, rfl, q1, q2, q3, q4⟩ := hp j v p hv hpp
  exact ⟨a, o, m, ku, rfl, zq7x _ (k1 _ _ (zq7x _ q1)), q2, q3, q4⟩
 ·intro j v hv
  obtain ⟨p, hpp⟩ : ∃ p, ps[j]? = some p := ⟨_, zq1x (by have := (zq5x.mp hv).1; omega)⟩
  obtain ⟨a, o, m, ku, rfl, q1, _⟩ := hp j v p hv hpp
  have la := zq6x q1
  refine ⟨fun z => ?_, fun z => ?_⟩
  ·cases z; exact absurd la (zq51x _)
  ·have z' : a = h1.objs.size := by cases z; rfl
   rw [z'] at la
   exact absurd (zq55x la hs1) (zq51x _)
 ·refine ⟨rfl, h h' tk' hD' fun b o z => ?_⟩
  have lb := zq6x z
  exact k' b o (zq12x lb) (zq12x (zq55x lb hs1)) (zq7x _ (k1 _ _ (zq7x _ z)))
end
def rDictL : List V -> Hp -> VK -> Prop := fun xs H Q => ∃ (l : Addr) (ys : List V) (kvs : List (Key × V)), xs = [.ref l] /\ H l = some (.lst ys) /\ ys.length = kvs.length /\ ys.length <= 10000 /\
 (∀ (j : Nat) (y : V) (p : Key × V), ys[j]? = some y -> kvs[j]? = some p -> ∃ a, y = .ref a /\ H a = some (.tup [kV p.1, p.2])) /\ ∀ d, H d = none -> Q (.ref d) (upd H d (.dK (mergeK [] kvs)))
theorem call_dictL {X : Cx} (hc : X.calm = true) : CallR X (.type "dict") rDictL := by
  intro pins s σ H xs us Q I rv h
  obtain ⟨l, ys, kvs, rfl, hH, hlen, hsz, hy, q⟩ := h
  obtain ⟨u, rfl, ru⟩ := vals1 rv
  cases ru
  obtain ⟨_, its, n, rs, h1⟩ := (show ObjOk X.prog X.w H s.heap l (.lst ys) from I.hok l _ hH)
  have hli := rs.length
  have key : ∃ ps : List (Key × Value), KV kvs ps /\ ∀ (j : Nat) (v : Value) (p : Key × Value), its[j]? = some v -> ps[j]? = some p -> KvAt X.prog X.w s.heap v p := by
    have gen : ∀ (ys : List V) (its : List Value) (kvs : List (Key × V)), Vals ys its -> ys.length = kvs.length -> (∀ (j : Nat) (y : V) (p : Key × V), ys[j]? = some y -> kvs[j]? = some p -> ∃ a, y = .ref a /\ H a = some (.tup [kV p.1, p.2])) -> ∃ ps : List (Key × Value), KV kvs ps /\ ∀ (j : Nat) (v : Value) (p : Key × Value), its[j]? = some v -> ps[j]? = some p -> KvAt X.prog X.w s.heap v p := by
      intro ys
      induction ys with
      | nil =>
        intro its kvs r e _
        cases r
        cases kvs with
        | nil => exact ⟨[], .nil, fun j v p z => by simp at z⟩
        | cons _ _ => cases e
      | cons y ys ih =>
        intro its kvs r e hq
        cases r with
        | cons r1 r2 =>
          cases kvs with
          | nil => cases e
          | cons kv kvs =>
            obtain ⟨ps, g1, g2⟩ := ih _ kvs r2 (by simpa using e) fun j y p a b => hq (j + 1) y p (by simpa using a) (by simpa using b)
            obtain ⟨a, rfl, ha⟩ := hq 0 y kv rfl rfl
            cases r1
            obtain ⟨_, its2, rv2, o, w1, w2, m, w3⟩ := (show ObjOk X.prog X.w H s.heap a (.tup [kV kv.1, kv.2]) from I.hok a _ ha)
            cases rv2 with
            | cons x1 x2 =>
              cases x2 with
              | cons y1 y2 =>
                cases y2
                refine ⟨(kv.1, _) :: ps, .cons ⟨rfl, y1⟩ g1, fun j v p a b => ?_⟩
                cases j with
                | zero =>
                  simp at a b
                  subst a b
                  exact ⟨_, o, m, _, rfl, w1, w2, w3, kV_is x1⟩
                | succ j => exact g2 j v p (by simpa using a) (by simpa using b)
    exact gen ys its kvs rs hlen hy
  obtain ⟨ps, rel, hps⟩ := key
  have hpl := rel.length
  refine call_dict_list (I.ok.hd hc) h1 (by omega) (by omega) hps fun h' tk' hD k => ?_
  have hml := length_mergeK kvs []
  have new : ObjOk X.prog X.w (upd H s.heap.objs.size (.dK (mergeK [] kvs))) h' s.heap.objs.size (.dK (mergeK [] kvs)) := by
    refine dk_new (zq24x hml (zq24x (show _ <= 10000 by simp; omega) (by decide))) ?_ (rel.merge .nil) hD
    have hb := I.big
    have : s.heap.objs.size ≠ sysModules := zq86x hb
    simpa using this
  exact ⟨.ref s.heap.objs.size, _, I.laid (t' := tk') k (zq3x _) new, rfl, q _ (I.hok.fresh (zq3x _))⟩
end L2
set_option maxRecDepth 100000
set_option maxHeartbeats 4000000
namespace L2
open PySem PySem.Spec PyProof.Rows
abbrev Ks := List (Int × PyData)
def valI (ks : Ks) (k : Int) : Option PyData := (ks.find? fun p => decide (p.1 = k)).map (·.2)
def hasI (ks : Ks) (k : Int) : Bool := ks.any fun p => decide (p.1 = k)
def putI (ks : Ks) (k : Int) (d : PyData) : Ks := if hasI ks k then ks.map fun p => if p.1 = k then (p.1, d) else p else ks ++ [(k, d)]
theorem valI_has (ks : Ks) (k : Int) : (valI ks k).isSome = hasI ks k := by
  unfold valI hasI
  rw [Option.isSome_map]
  induction ks with
  | nil => rfl
  | cons p r ih =>
    rw [zq83x, zq66x]
    by_cases h : p.1 = k
    · simp [h]
    · simp only [h, decide_false, zq102x]; exact ih
theorem hasI_iff {ks : Ks} {k : Int} : hasI ks k = true ↔ k ∈ ks.map (·.1) := by
 unfold hasI
 rw [zq100x, zq9x]
 constructor
 ·rintro ⟨p, h1, h2⟩; exact ⟨p, h1, by simpa using h2⟩
 ·rintro ⟨p, h1, h2⟩; exact ⟨p, h1, by simpa using h2⟩
theorem valI_nil {k : Int} : valI [] k = none := rfl
theorem valI_cons {p : Int × PyData} {r : Ks} {k : Int} : valI (p :: r) k = if p.1 = k then some p.2 else valI r k := by
 unfold valI
 rw [zq83x]
 by_cases h : p.1 = k <;> simp [h]
theorem valI_append {ks : Ks} {k j : Int} {d : PyData} : valI (ks ++ [(k, d)]) j = match valI ks j with | some x => some x | none => if j = k then some d else none := by
  induction ks with
  | nil =>
    rw [List.nil_append, valI_cons, valI_nil]
    by_cases h : k = j
    · subst h; simp
    · have h' : ¬ j = k := fun z => h z.symm
      simp [h, h']
  | cons p r ih =>
    rw [zq78x, valI_cons, valI_cons, ih]
    by_cases h : p.1 = j <;> simp [h]
section
variable {S : Addr -> Prop} {H : Hp}
theorem IsKs.val : ∀ {ks : Ks} {ps : List (Key × V)} (k : Int), IsKs S H (ks.map kvD) ps -> match valI ks k with | some d => ∃ v, valV ps (Sum.inl k) = some v /\ IsD S H d v | none => valV ps (Sum.inl k) = none
  | [], ps, k, h => by unfold IsKs at h; subst h; exact valV_nil
  | p :: r, ps, k, h => by
    rw [zq8x] at h
    unfold IsKs at h
    obtain ⟨q, qs, rfl, h1, h2⟩ := h
    unfold IsK at h1
    obtain ⟨h3, h4⟩ := h1
    have h3 : q.1 = Sum.inl p.1 := h3
    rw [valI_cons]
    have ih := IsKs.val k h2
    by_cases e : p.1 = k
    · rw [if_pos e]
      refine ⟨q.2, ?_, h4⟩
      rw [valV_pos (by rw [h3, e])]
    · rw [if_neg e, valV_neg (fun z => e (by rw [h3] at z; exact zq115x z))]
      exact ih
theorem IsKs.snoc : ∀ {ks : Ks} {ps : List (Key × V)} {k : Int} {d : PyData} {v : V}, IsKs S H (ks.map kvD) ps -> IsD S H d v -> IsKs S H ((ks ++ [(k, d)]).map kvD) (ps ++ [(Sum.inl k, v)])
  | [], ps, k, d, v, h, hd => by
    unfold IsKs at h; subst h
    show IsKs S H [kvD (k, d)] [(Sum.inl k, v)]
    unfold IsKs
    exact ⟨_, _, rfl, by unfold IsK; exact ⟨rfl, hd⟩, by unfold IsKs; rfl⟩
  | p :: r, ps, k, d, v, h, hd => by
    rw [zq8x] at h
    unfold IsKs at h
    obtain ⟨q, qs, rfl, h1, h2⟩ := h
    rw [zq78x, zq8x, zq78x]
    unfold IsKs
    exact ⟨q, _, rfl, h1, IsKs.snoc h2 hd⟩
theorem IsKs.repl : ∀ {ks : Ks} {ps : List (Key × V)} {k : Int} {d : PyData} {v : V}, IsKs S H (ks.map kvD) ps -> IsD S H d v -> IsKs S H ((ks.map fun p => if p.1 = k then (p.1, d) else p).map kvD) (ps.map fun kv => if kv.1 = Sum.inl k then (kv.1, v) else kv)
  | [], ps, k, d, v, h, hd => by unfold IsKs at h; subst h; simp only [zq91x]; unfold IsKs; rfl
  | p :: r, ps, k, d, v, h, hd => by
    rw [zq8x] at h
    unfold IsKs at h
    obtain ⟨q, qs, rfl, h1, h2⟩ := h
    rw [zq8x, zq8x, zq8x]
    unfold IsK at h1
    obtain ⟨h3, h4⟩ := h1
    have h3 : q.1 = Sum.inl p.1 := h3
    unfold IsKs
    refine ⟨_, _, rfl, ?_, IsKs.repl h2 hd⟩
    by_cases e : p.1 = k
    · rw [if_pos e, if_pos (by rw [h3, e])]
      unfold IsK
      exact ⟨h3, hd⟩
    · rw [if_neg e, if_neg (fun z => e (by rw [h3] at z; exact zq115x z))]
      unfold IsK
      exact ⟨h3, h4⟩
theorem IsKs.any : ∀ {ks : Ks} {ps : List (Key × V)} (k : Int), IsKs S H (ks.map kvD) ps -> (ps.any fun kv => decide (kv.1 = Sum.inl k)) = hasI ks k := fun {ks ps} k h => by
 rw [valV_any, <- valI_has]
 have := IsKs.val k h
 cases hv : valI ks k with
 | none => rw [hv] at this; rw [this]; rfl
 | some d => rw [hv] at this; obtain ⟨v, e, _⟩ := this; rw [e]; rfl
theorem IsKs.put {ks : Ks} {ps : List (Key × V)} {k : Int} {d : PyData} {v : V} (h : IsKs S H (ks.map kvD) ps) (hd : IsD S H d v) : IsKs S H ((putI ks k d).map kvD) (putK ps (Sum.inl k) v) := by
 unfold putI putK
 rw [IsKs.any k h]
 split
 ·exact IsKs.repl h hd
 ·exact IsKs.snoc h hd
end
def EvK (G : Gx) (ρ : Rh) (te : TE) (Φ : Bool -> Ks -> Prop) : Prop := ∀ nb σ H (Q : VK), Wd G nb ρ σ H ->
 (∀ f a ps H' ks, Φ f ks -> Step G.B H H' -> H a = none -> H' a = some (.dK ps) -> IsKs (fun x => G.S nb f x \/ x = a) H' (ks.map kvD) ps -> Q (.ref a) H') -> te σ H Q
section
variable {G : Gx} {ρ ρc : Rh} {Φ Ψ : Pd} {ta tb te : TE} {t : TA} {i : Nat} {f g : Bool} {d e : PyData} {ks : Ks} {K : PySem.W.Frag} {E : DE} {Θ : Bool -> Ks -> Prop}
theorem Wd.grow {nb : Addr -> Prop} {σ : St} {H H1 : Hp} {a : Addr} {o : HO} (W : Wd G nb ρ σ H) (s1 : Step G.B H H1) (ha : H a = none) (e : H1 a = some o) : Wd G (fun x => nb x \/ x = a) ρ σ H1 /\ NB G.B a /\ ∀ f x, G.S (fun x => nb x \/ x = a) f x -> (G.S nb f x \/ x = a) := by
  have hN : NB G.B a := NB.new W.bag ha
  have hA : ∀ f x, G.S (fun x => nb x \/ x = a) f x -> (G.S nb f x \/ x = a) := fun f x z => by
    rcases z with (z | z) | z | z | z
    · exact .inl (.inl z)
    · exact .inr z
    · exact .inl (.inr (.inl z))
    · exact .inl (.inr (.inr (.inl z)))
    · exact .inl (.inr (.inr (.inr z)))
  have W1 := W.step s1
  refine ⟨?_, hN, hA⟩
  refine ⟨W1.bag, fun x n => ?_, W1.old, fun x n q => ?_, W.gA, W.len, W.gB, fun h m => (((W.hld h m).fresh ha).keep (s1.but fun x z => .inl (.inr (.inr (.inl z))))).av (hA h.1), fun j s e' => ?_, W.apart, W.apd, W.apc⟩
  · rcases n with n | n
    · exact W1.live x n
    · subst n; rw [e]; exact zq76x _
  · rcases n with n | n
    · exact W.nbo x n q
    · subst n
      cases z : G.H0 x with
      | none => rfl
      | some o => rw [W.old x o q z] at ha; cases ha
  · obtain ⟨x, e1, h⟩ := W.ok j s e'
    refine ⟨x, e1, ?_⟩
    cases s with
    | no => trivial
    | d f d => obtain ⟨v, e, h⟩ := h; exact ⟨v, e, ((h.fresh ha).keep (s1.but fun x z => .inl (.inr (.inr (.inl z))))).av (hA f)⟩
    | own c f es => obtain ⟨e, n, q, xs, hx, hd⟩ := h; exact ⟨e, .inl n, q, xs, s1.1 _ _ q hx, ((hd.fresh ha).keep (s1.but fun x z => .inl (.inr (.inr (.inl z))))).av (hA f)⟩
    | bag => exact h
    | raw v => exact h
    | dic c f es => obtain ⟨e, n, q, xs, hx, hd⟩ := h; exact ⟨e, .inl n, q, xs, s1.1 _ _ q hx, ((hd.fresh ha).keep (s1.but fun x z => .inl (.inr (.inr (.inl z))))).av (hA f)⟩
    | cu c =>
      obtain ⟨e, n, q⟩ := h
      refine ⟨e, fun a ha => ⟨.inl (n a ha).1, (n a ha).2⟩, c.av (hA c.f) (c.keep (.of fun x o hx e => s1.1 x o ?_ e) (c.fresh ha q))⟩
      rcases hx with hx | hx
      · exact zq77x fun z => hx (.inl (.inr (.inr (.inl z))))
      · exact (n x hx).2
theorem dic_of {nb : Addr -> Prop} {σ : St} {H H1 : Hp} {a : Addr} {ps : List (Key × V)} (W : Wd G nb ρ σ H) (s1 : Step G.B H H1) (ha : H a = none) (e : H1 a = some (.dK ps)) (hd : IsKs (fun x => G.S nb f x \/ x = a) H1 (ks.map kvD) ps) :
  Wd G (fun x => nb x \/ x = a) (ρ.set i (.dic a f ks)) (σ.set i (some (.ref a))) H1 := by
 obtain ⟨W2, hN, hA⟩ := W.grow s1 ha e
 refine W2.set ⟨rfl, .inr rfl, hN, ps, e, hd.av (hA f)⟩ (fun _ _ _ z => by cases z) ?_ (fun x hx j t hj ht hc => ?_)
 rotate_left
 ·have hx : x = a := zq16x.mp hx
  subst hx
  rcases hc with ⟨c, z⟩ | ⟨c, rfl⟩
  ·cases z
  ·exact fun z => W.live x ((W.ok j _ ht).choose_spec.2.2.1 x z).1 ha
 rintro a' f' ds' ⟨rfl, rfl, rfl⟩ j c g cs hj hc z
 subst z
 obtain ⟨x, e1, h1, h2, h3, ys, hy, _⟩ := W.ok j _ hc
 rw [hy] at ha; cases ha
theorem Sv.asgK (h : EvK G ρ te fun f ks => ∀ a, E.nx (ρ.set i (.dic a f ks))) : Sv G ρ (tAsg te (gName i)) E := fun nb σ H D W K => h nb σ H _ W fun f a ps H1 ks q s1 ha e hd => K.nx _ _ _ H1 (q a) (dic_of W s1 ha e hd)
@[reducible] def itD (p : Int × PyData) : PyData := .tuple [.int p.1, p.2]
def putsI (ks : Ks) (more : Ks) : Ks := more.foldl (fun acc p => putI acc p.1 p.2) ks
theorem isKs_merge {S : Addr -> Prop} {H : Hp} : ∀ {more : Ks} {ms : List (Key × V)} {ks : Ks} {ps : List (Key × V)}, IsKs S H (more.map kvD) ms -> IsKs S H (ks.map kvD) ps -> IsKs S H ((putsI ks more).map kvD) (mergeK ps ms)
  | [], ms, ks, ps, h, g => by unfold IsKs at h; subst h; exact g
  | p :: r, ms, ks, ps, h, g => by
    rw [zq8x] at h
    unfold IsKs at h
    obtain ⟨q, qs, rfl, h1, h2⟩ := h
    unfold IsK at h1
    obtain ⟨k, v⟩ := q
    have h3 : k = Sum.inl p.1 := h1.1
    subst h3
    show IsKs S H ((putsI (putI ks p.1 p.2) r).map kvD) (mergeK (putK ps (Sum.inl p.1) v) qs)
    exact isKs_merge (more := r) h2 (IsKs.put g h1.2)
theorem EvK.dictL (h : Ev G ρ te fun f x => ∃ es : Ks, x = .list (es.map itD) /\ es.length <= 10000 /\ Θ f (putsI [] es)) : EvK G ρ (tCB rDictL (tCons te tNil)) Θ := fun nb σ H Q W z =>
  h nb σ H _ W fun f v H1 x ⟨es, ex, hl, q⟩ s1 hv => by
    subst ex
    obtain ⟨a, xs, rfl, n, hx, hd⟩ := hv.ofL
    have key : ∀ {es : Ks} {xs : List V}, IsDs (G.S nb f) H1 (es.map itD) xs -> ∃ kvs : List (Key × V), xs.length = kvs.length /\ (∀ (j : Nat) (y : V) (p : Key × V), xs[j]? = some y -> kvs[j]? = some p -> ∃ a, y = .ref a /\ H1 a = some (.tup [kV p.1, p.2])) /\ IsKs (G.S nb f) H1 (es.map kvD) kvs := by
      intro es
      induction es with
      | nil => intro xs h; unfold IsDs at h; subst h; exact ⟨[], rfl, fun j y p z => by simp at z, by simp only [zq91x]; unfold IsKs; rfl⟩
      | cons e es ih =>
        intro xs h
        rw [zq8x] at h
        unfold IsDs at h
        obtain ⟨y, ys, rfl, h1, h2⟩ := h
        obtain ⟨kvs, g1, g2, g3⟩ := ih h2
        obtain ⟨b, ws, rfl, nb', hb, hws⟩ := h1.ofT
        unfold IsDs at hws
        obtain ⟨w1, wr, rfl, k1, hws⟩ := hws
        unfold IsDs at hws
        obtain ⟨w2, wr, rfl, k2, hws⟩ := hws
        unfold IsDs at hws
        subst hws
        rw [k1.ofI] at hb
        refine ⟨(Sum.inl e.1, w2) :: kvs, by simp [g1], fun j y p a b' => ?_, ?_⟩
        · cases j with
          | zero => simp at a b'; subst a b'; exact ⟨b, rfl, hb⟩
          | succ j => exact g2 j y p (by simpa using a) (by simpa using b')
        · rw [zq8x]
          unfold IsKs
          exact ⟨_, _, rfl, by unfold IsK; exact ⟨rfl, k2⟩, g3⟩
    obtain ⟨kvs, g1, g2, g3⟩ := key hd
    have hlx := hd.length
    rw [zq0x] at hlx
    refine ⟨a, xs, kvs, rfl, hx, g1, by omega, g2, fun p hp => ?_⟩
    have hnil : IsKs (G.S nb f) H1 (([] : Ks).map kvD) [] := by simp only [zq91x]; unfold IsKs; rfl
    exact z f p _ _ _ q (s1.trans (.same s1.2 (same_new hp))) (W.none_of s1 hp) upd_same (((isKs_merge g3 hnil).fresh hp).keep (But.of (same_new hp)))
end
def rInD (ng : Bool) : R2 := fun x y H Q => ∃ a o, y = .ref a /\ DGet H a x o /\ Q (.bl (o.isSome != ng)) H
theorem op_inD {X : Cx} (hu : X.A.units + 64 < cLine) : OpR X (compareOp .In) (rInD false) := by
 intro pins s σ H x y v u Q I rx ry h
 obtain ⟨a, o, rfl, g, q⟩ := h
 cases ry
 exact d_in (by omega) I g rx fun s' I' => ⟨.bl o.isSome, H, I', rfl, by simpa using q⟩
section
variable {G : Gx} {ρ : Rh} {Φ : Pd} {ta tb te : TE} {i : Nat} {f : Bool} {ks : Ks} {K : PySem.W.Frag} {E : DE}
theorem Ev.inDic {a : Addr} {ng : Bool} (e : ρ[i]? = some (.dic a f ks)) (h : Ev G ρ ta fun _ y => ∃ k, y = .int k /\ Φ true (.bool (hasI ks k != ng))) : Ev G ρ (tOp (rInD ng) ta (tVar i)) Φ := fun nb σ H Q W z =>
 h nb σ H _ W fun g w H1 y ⟨k, ey, p⟩ s1 hw => by
  obtain ⟨x, e1, h1, h2, h3, ps, hp, hd⟩ := (W.step s1).ok i _ e
  subst h1 ey
  refine ⟨.ref a, e1, a, _, rfl, by rw [hw.ofI]; exact DGet.k (k := .inl k) hp, ?_⟩
  have : (valV ps (Sum.inl k)).isSome = hasI ks k := by rw [<- valV_any]; exact IsKs.any k hd
  rw [this]
  exact z true _ H1 _ p s1 (.bl _)
end
end L2
set_option maxRecDepth 100000
set_option maxHeartbeats 4000000
namespace L2
open PySem PySem.Spec PyProof.Rows
section
variable {prog : Program} {w : World} {A : Around} {E : Value -> Shared -> Prop} {s : Shared}
theorem sorted_intsS {l : Addr} {vs : List Value} {ns : List Int} {Q : Value -> Shared -> Prop} (hl : s.heap.IsList l vs.toArray) (hI : IntsAre vs ns) (hz : vs.length < 64)
  (h : ∀ (out : Array Value) (ns' : List Int), IntsAre out.toList ns' -> ns'.Perm ns -> ns'.Pairwise (· <= ·) -> Q (.ref (s.heap.objs.size + 1)) { s with heap := sortedAll s.heap vs out }) :
  wpAny (model prog w) A (call (.builtin "sorted") [.ref l]) Q E s := by
 have hZ : vs.length <= sizeLine := by rw [sizeLine_eq]; omega
 refine zq129x kind_sorted plain_sorted entry_sorted (args_sorted1 _) ?_
 unfold Builtin.«sorted»
 refine wpAny_bind (m := checkCount "sorted" 1 1 _) (wpAny_pure ?_)
 refine wpAny_bind (collect_list hl ?_ (hsz := hZ))
 refine wpAny_bind (wpAny_newList ?_)
 have hsz : ((s.heap.push (seqObj "list" #[] 0)).update s.heap.objs.size (Obj.mapSeq (· ++ vs.toArray))).objs.size = s.heap.objs.size + 1 := by
  rw [zq135x, size_push']
 have hoL : (((s.heap.push (seqObj "list" #[] 0)).update s.heap.objs.size (Obj.mapSeq (· ++ vs.toArray))).push (seqObj "list" vs.toArray 0)).get? (s.heap.objs.size + 1) = some (seqObj "list" vs.toArray 0) := by
  rw [<- hsz]; exact zq27x _ rfl
 show wpAny _ _ _ _ _ { s with heap := ((s.heap.push (seqObj "list" #[] 0)).update s.heap.objs.size (Obj.mapSeq (· ++ vs.toArray))).push (seqObj "list" vs.toArray 0) }
 rw [hsz]
 refine wpAny_bind (wpAny_holding (wpAny_call_entry slot_list_sort ⟨_, hoL, rfl⟩ entry_list_sort (list_sort_tree hoL hI hz fun out ns' a1 a2 a3 => ⟨_, rfl, ?_⟩) (args_list_sort _)))
 exact wpAny_pure ⟨_, rfl, h out ns' a1 a2 a3⟩
end
def rSortLS (K : PySem.W.Frag) : List V -> Hp -> VK -> Prop := fun xs H Q => ∃ p, ∃ ns : List Int, xs = [.ref p] /\ SqL K H p (ns.map V.int) /\ ns.length < 64 /\ ∀ rs : List Int, rs.Perm ns -> rs.Pairwise (· <= ·) -> ∀ l, H l = none -> Q (.ref l) (upd H l (.lst (rs.map V.int)))
theorem call_sortLS {X : Cx} : CallR X (.builtin "sorted") (rSortLS X.K) := by
 intro pins s σ H xs us Q I rv h
 obtain ⟨p, ns, rfl, hp, hn, q⟩ := h
 obtain ⟨u, rfl, ru⟩ := vals1 rv
 cases ru
 obtain ⟨its, rs, il, hz⟩ := I.list hp
 have hI := vals_intsA rs
 have hlen := hI.length
 refine sorted_intsS (vs := its) il.isList hI (by omega) fun out ns' h1 h2 h3 => ?_
 obtain ⟨e, ge⟩ := sortedAll_at s.heap its out
 have new : ObjOk X.prog X.w (upd H (s.heap.objs.size + 1) (.lst (ns'.map V.int))) (sortedAll s.heap its out) (s.heap.objs.size + 1) (.lst (ns'.map V.int)) := by
  refine ⟨?_, out.toList, e, ints_vals h1, by simpa using ge⟩
  rw [zq0x, h2.length_eq]; exact zq24x (zq43x hn) (by decide)
 exact ⟨.ref (s.heap.objs.size + 1), _, I.laid (t' := s.toks) (fun b o z => sortedAll_old z) (zq54x _) new, rfl, q _ h2 h3 _ (I.hok.fresh (zq54x _))⟩
theorem EvN.sortLS {G : Gx} {ρ : Rh} {te : TE} {K : PySem.W.Frag} {Θ : Bool -> List PyData -> Prop} (h : Ev G ρ te fun _ x => ∃ ns : List Int, x = .list (ns.map .int) /\ ns.length < 64 /\ ∀ rs : List Int, rs.Perm ns -> rs.Pairwise (· <= ·) -> Θ true (rs.map .int)) :
  EvN G ρ (tCB (rSortLS K) (tCons te tNil)) Θ := fun nb σ H Q W z =>
 h nb σ H _ W fun f v H1 x ⟨ns, ex, hn, q⟩ s1 hv => by
  subst ex
  obtain ⟨a, xs, rfl, na, hx, hd⟩ := hv.ofL
  have e := isDs_ints_eq hd
  subst e
  refine ⟨a, ns, rfl, .of hx, hn, fun rs hp hw l hl => ?_⟩
  exact EvN.fin (f := true) W s1 hl (isDs_intsL rs) (q rs hp hw) z
end L2
set_option maxRecDepth 100000
set_option maxHeartbeats 4000000
namespace L2
open PySem PySem.Spec PyProof.Rows
theorem pe_bmK {X : Cx} {K : PySem.W.Frag} {e : Expr} {T : String} {r : V -> List V -> Hp -> VK -> Prop} {to : TE} {t : TA} (hK : X.K = K) (h : PE X e (tBM X.K T r to t)) : PE X e (tBM K T r to t) := by subst hK; exact h
structure NetK (n : Int) (cs : List Prs) : Prop where
 n0 : 1 <= n
 n1 : n <= 10
 c0 : cs ≠ []
 c1 : cs.length <= 8
 ok : ∀ prs ∈ cs, prs ≠ [] /\ prs.length <= 4 /\ (prs.map (·.1)).Pairwise (· < ·) /\ ∀ pr ∈ prs, 0 <= pr.1 /\ pr.1 < n
section
variable {n : Int} {cs : List Prs} (h : NetK n cs)
include h
end
end L2
set_option maxRecDepth 100000
set_option maxHeartbeats 4000000
set_option maxRecDepth 100000
set_option maxHeartbeats 4000000
namespace L2
open PySem PySem.Spec PyProof.Rows
theorem IsDs.era {nb : Addr -> Prop} {H : Hp} : ∀ {ds : List PyData} {xs : List V} (m : Nat), IsDs nb H ds xs -> IsDs nb H (ds.eraseIdx m) (xs.eraseIdx m)
 | [], _, m, h => by unfold IsDs at h; subst h; exact .nil
 | e :: ds, _, 0, h => by unfold IsDs at h; obtain ⟨y, ys, rfl, h1, h2⟩ := h; exact h2
 | e :: ds, _, m + 1, h => by unfold IsDs at h; obtain ⟨y, ys, rfl, h1, h2⟩ := h; exact .cons h1 (IsDs.era m h2)
section
variable {G : Gx} {ρ : Rh} {te : TE} {E : DE} {i j : Nat} {f : Bool} {ds : List PyData} {K : PySem.W.Frag}
theorem Sv.appPop {K2 : PySem.W.Frag} {a c : Addr} {g : Bool} {es : List PyData} (hij : i ≠ j) (e : ρ[i]? = some (.own a f ds)) (ej : ρ[j]? = some (.own c g es))
  (h : Ev G ρ te fun _ y => ∃ (m : Nat) (d : PyData), y = .int (m : Int) /\ m < 2 ^ 62 /\ es[m]? = some d /\ ds.length < 10000 /\ E.nx ((ρ.set j (.own c g (es.eraseIdx m))).set i (.own a (f && g) (ds ++ [d])))) :
  Sv G ρ (tDrop (tBM K "list" rAppend (tVar i) (tCons (tBM K2 "list" rPopAt (tVar j) (tCons te tNil)) tNil))) E := fun nb σ H D W KK => by
 obtain ⟨x, e1, h1, h2, h3, xs, hx, hd⟩ := W.ok i _ e
 subst h1
 obtain ⟨y, e2, k1, k2, k3, ys, hy, he⟩ := W.ok j _ ej
 subst k1
 have hac : a ≠ c := W.apart i j _ _ _ _ _ _ hij e ej
 refine ⟨.ref a, e1, .inl ⟨rfl, _, SqL.of hx⟩, .ref c, e2, .inl ⟨rfl, _, SqL.of hy⟩, h nb σ H _ W fun b v H1 z ⟨m, d, ez, hm, hdm, hl, q⟩ s1 hv => ?_⟩
 subst ez
 have hk := hv.ofI
 subst hk
 have W1 := W.step s1
 have hx1 := s1.1 _ _ h3 hx
 have hy1 := s1.1 _ _ k3 hy
 have hd1 := hd.keep s1.butS
 have he1 := he.keep s1.butS
 obtain ⟨y', hy', hD⟩ := he1.get hdm
 have hml : m < ys.length := (zq5x.mp hy').1
 have hix : seqIndex? (m : Int) ys.length = some m := by
  have : ixN ys.length (m : Int) = some m := by
   unfold ixN
   rw [if_pos (by omega), if_pos (by omega), zq56x]
  exact (ixN_seq this).1
 refine ⟨c, ys, (m : Int), m, y', rfl, rfl, hy1, by omega, by omega, hix, hy', ?_⟩
 have W2 := writeOwn W1 ej (he1.era m)
 have bt := (But.set (.inl k2) : But (G.S nb true) H1 (upd H1 c (.lst (ys.eraseIdx m))))
 have eI : (ρ.set j (.own c g (es.eraseIdx m)))[i]? = some (.own a f ds) := by rw [zq19x (zq10x hij)]; exact e
 refine ⟨a, xs, y', rfl, rfl, by rw [upd_ne hac]; exact hx1, zq23x (by rw [hd.length]; exact hl) (by decide), KK.nx nb _ _ _ q (writeOwn W2 eI ?_)⟩
 exact IsDs.snoc ((hD.keep (But.set (.inl k2))).av (S_mono (fun z => (zq26x _ _ ▸ z).2) fun _ z => z)) ((hd1.keep (But.set (.inl k2))).av (S_mono (fun z => (zq26x _ _ ▸ z).1) fun _ z => z))
end
end L2
set_option maxRecDepth 100000
set_option maxHeartbeats 4000000
set_option maxRecDepth 100000
set_option maxHeartbeats 1000000
set_option maxRecDepth 100000
set_option maxHeartbeats 4000000
namespace L2
open PySem PySem.Spec PyProof.Rows
def inLot (lot : List Int) (prs : Prs) : Nat := (prs.filter fun pr => decide (pr.1 ∈ lot)).length
def holdB (cs : List Prs) (lot : List Int) : Bool := cs.all fun prs => decide (inLot lot prs ≠ 1)
end L2
set_option maxRecDepth 100000
set_option maxHeartbeats 4000000
namespace L2
open PySem PySem.Spec PyProof.Rows
theorem perm_eraseIdx {α : Type} {d : α} : ∀ {ds : List α} {r : Nat}, ds[r]? = some d -> (d :: ds.eraseIdx r).Perm ds
 | x :: ds, 0, e => by simp at e; subst e; exact .refl _
 | x :: ds, r + 1, e => (List.Perm.swap x d _).trans ((perm_eraseIdx (ds := ds) (r := r) (by simpa using e)).cons x)
 | [], r, e => by simp at e
end L2
set_option maxRecDepth 100000
set_option maxHeartbeats 4000000
namespace L2
open PySem PySem.Spec PyProof.Rows
structure Great (cs : List Prs) (lot g : List Int) : Prop where
 sub : ∃ q : Int -> Bool, g = lot.filter q
 out : holdB cs g = true
 max : ∀ T : List Int, (∀ x ∈ T, x ∈ lot) -> holdB cs T = true -> ∀ x ∈ T, x ∈ g
@[reducible] def insK (S : List Int) : Ks := S.map fun x => (x, PyData.bool true)
theorem insK_has (S : List Int) (k : Int) : hasI (insK S) k = decide (k ∈ S) := by
 rw [zq64x, hasI_iff, zq71x, decide_eq_true_eq]
 have : S.map ((·.1) ∘ fun x => (x, PyData.bool true)) = S := List.map_id'' (fun _ => rfl) S
 rw [this]
theorem insK_puts {S : List Int} (nd : S.Nodup) : putsI [] (insK S) = insK S := by
  have key : ∀ (S : List Int) (acc : List Int), (acc ++ S).Nodup -> putsI (insK acc) (insK S) = insK (acc ++ S) := by
    intro S
    induction S with
    | nil => intro acc _; simp [putsI, insK]
    | cons x S ih =>
      intro acc nd
      have hx : x ∉ acc := fun z => (zq130x.mp nd).2.2 x z x (by simp) rfl
      show putsI (putI (insK acc) x (.bool true)) (insK S) = _
      have e : putI (insK acc) x (.bool true) = insK (acc ++ [x]) := by
        unfold putI
        rw [insK_has, if_neg (by simpa using hx)]
        unfold insK
        rw [zq21x]; rfl
      rw [e, ih (acc ++ [x]) (by rw [zq108x]; exact nd), zq108x]
      rfl
  have := key S [] (by simpa using nd)
  simpa using this
end L2
set_option maxRecDepth 100000
set_option maxHeartbeats 4000000
namespace L2
open PySem PySem.Spec PyProof.Rows
theorem Great.mem {cs : List Prs} {lot g : List Int} (h : Great cs lot g) : ∀ x ∈ g, x ∈ lot := fun x hx => by
 obtain ⟨q, e⟩ := h.sub
 rw [e] at hx
 exact (zq85x.mp hx).1
end L2
set_option maxRecDepth 100000
set_option maxHeartbeats 4000000
namespace L2
open PySem PySem.Spec PyProof.Rows
def fst0 (row : List Int) : Int := match row.getLast? with | none => 0 | some l => l + 1
def aft (n : Int) (row : List Int) : List Int := (List.range (n - fst0 row).toNat).map fun (i : Nat) => fst0 row + (i : Int)
def ext (n : Int) (row : List Int) : List (List Int) := (aft n row).map fun p => row ++ [p]
@[reducible] def optRow : Option (List Int) -> PyData
 | none => .none
 | some r => rowD r
end L2
set_option maxRecDepth 100000
set_option maxHeartbeats 4000000
set_option maxRecDepth 100000
set_option maxHeartbeats 4000000
set_option maxRecDepth 100000
set_option maxHeartbeats 4000000
set_option maxRecDepth 100000
set_option maxHeartbeats 4000000
namespace L2
open PySem PySem.Spec PyProof.Rows
def gI (r : List Int) (i : Nat) : Int := r.getD i 0
def co (prs : Prs) (j : Nat) : Int := (prs.map fun pr => if pr.1.toNat = j then pr.2 else 0).sum
end L2
set_option maxRecDepth 100000
set_option maxHeartbeats 4000000
set_option maxRecDepth 100000
set_option maxHeartbeats 4000000
set_option maxRecDepth 100000
set_option maxHeartbeats 4000000
set_option maxRecDepth 100000
set_option maxHeartbeats 4000000
set_option maxRecDepth 100000
set_option maxHeartbeats 4000000
namespace L2
open PySem PySem.Spec PyProof.Rows
abbrev GRow := Int × Addr × List PyData
end L2
set_option maxRecDepth 100000
set_option maxHeartbeats 4000000
set_option maxRecDepth 100000
set_option maxHeartbeats 4000000
namespace L2
open PySem PySem.Spec PyProof.Rows
@[reducible] def trD (t : Int × Int × Int) : PyData := .tuple [.int t.1, .int t.2.1, .int t.2.2]
end L2
set_option maxRecDepth 100000
set_option maxHeartbeats 4000000
namespace L2
open PySem PySem.Spec PyProof.Rows
def brk (p : Int) (cs : List Prs) (ws : List Int) : Nat := cs.countP fun prs => decide (dueSum prs (ws.map some) % p ≠ 0)
end L2
set_option maxRecDepth 100000
set_option maxHeartbeats 4000000
set_option maxRecDepth 100000
set_option maxHeartbeats 4000000
set_option maxRecDepth 100000
set_option maxHeartbeats 4000000
namespace L2
open PySem PySem.Spec PyProof.Rows
abbrev CF := Cu -> List PyData -> (Cu -> Pd) -> Prop
end L2
set_option maxRecDepth 100000
set_option maxHeartbeats 4000000
namespace L2
open PySem PySem.Spec PyProof.Rows
inductive Fl where
 | d (d : PyData) | cu (c : Cu)
abbrev Fs := List (Str × Fl)
end L2
set_option maxRecDepth 100000
set_option maxHeartbeats 4000000
set_option maxRecDepth 100000
set_option maxHeartbeats 4000000
set_option maxRecDepth 100000
set_option maxHeartbeats 4000000
set_option maxRecDepth 100000
set_option maxHeartbeats 4000000
set_option maxRecDepth 100000
set_option maxHeartbeats 4000000
namespace L2
open PySem PySem.Spec PyProof.Rows
inductive Oi where
 | own (b : Addr) | dat (x : PyData)
inductive OO where
 | lst (xs : List Oi) | tup (xs : List Oi) | dic (ks : List (Int × Oi))
abbrev Sto := List (Addr × OO)
end L2
set_option maxRecDepth 100000
set_option maxHeartbeats 4000000
set_option maxRecDepth 100000
set_option maxHeartbeats 4000000
set_option maxRecDepth 100000
set_option maxHeartbeats 4000000
namespace L2
open PySem PySem.Spec PyProof.Rows
abbrev Crs := Option (Int × Int × Int × Int)
def shr (a b : List Int) : List Int := b.filter fun x => decide (x ∈ a)
def NoC (R : List (List Int)) (P : Nat -> Nat -> Prop) : Prop := ∀ (c d : Nat) a b, c < d -> R[c]? = some a -> R[d]? = some b -> P c d -> (shr a b).length < 2
def IsCr (R : List (List Int)) (o : Crs) : Prop := (o = none /\ NoC R fun _ _ => True) \/ ∃ (c d : Nat) (a b : List Int) (x y : Int) (r : List Int), c < d /\ R[c]? = some a /\ R[d]? = some b /\ shr a b = x :: y :: r /\ o = some ((c : Int), (d : Int), x, y) /\ NoC R fun c' d' => c' < c \/ (c' = c /\ d' < d)
def crD : Crs -> PyData
 | none => .none
 | some (c, d, x, y) => .tuple [.int c, .int d, .int x, .int y]
def rwsOf (cs : List Prs) : List (List Int) := cs.map fun prs => prs.map (·.1)
theorem rwsOf_at {cs : List Prs} {i : Nat} {prs : Prs} (h : cs[i]? = some prs) : (rwsOf cs)[i]? = some (prs.map (·.1)) := by unfold rwsOf; rw [zq2x, h]; rfl
end L2
set_option maxRecDepth 100000
set_option maxHeartbeats 4000000
set_option maxRecDepth 100000
set_option maxHeartbeats 4000000
set_option maxRecDepth 100000
set_option maxHeartbeats 4000000
set_option maxRecDepth 100000
set_option maxHeartbeats 4000000
namespace L2
open PySem PySem.Spec PyProof.Rows
abbrev RF := Cu -> List PyData -> Pd -> Prop
end L2
set_option maxRecDepth 100000
set_option maxHeartbeats 4000000
set_option maxRecDepth 100000
set_option maxHeartbeats 4000000
set_option maxRecDepth 100000
set_option maxHeartbeats 4000000
set_option maxRecDepth 100000
set_option maxHeartbeats 4000000
set_option maxRecDepth 100000
set_option maxHeartbeats 4000000
namespace L2
open PySem PySem.Spec PyProof.Rows
def sumN : Nat -> (Nat -> Int) -> Int
 | 0, _ => 0
 | n + 1, f => sumN n f + f n
theorem sumN_succ {n : Nat} {f : Nat -> Int} : sumN (n + 1) f = sumN n f + f n := rfl
theorem sumN_congr {f g : Nat -> Int} : ∀ {n : Nat}, (∀ k, k < n -> f k = g k) -> sumN n f = sumN n g
 | 0, _ => rfl
 | n + 1, h => by unfold sumN; rw [sumN_congr fun k hk => h k (by omega), h n (by omega)]
theorem sumN_add {f g : Nat -> Int} : ∀ {n : Nat}, sumN n (fun k => f k + g k) = sumN n f + sumN n g
 | 0 => rfl
 | n + 1 => by rw [sumN_succ, sumN_succ, sumN_succ, sumN_add]; omega
theorem sumN_mul {a : Int} {f : Nat -> Int} : ∀ {n : Nat}, sumN n (fun k => a * f k) = a * sumN n f
 | 0 => by unfold sumN; simp
 | n + 1 => by unfold sumN; rw [sumN_mul, zq149x]
theorem sumN_zero : ∀ {n : Nat}, sumN n (fun _ => 0) = 0
 | 0 => rfl
 | n + 1 => by unfold sumN; rw [sumN_zero]; rfl
theorem sumN_swap {f : Nat -> Nat -> Int} {n : Nat} : ∀ {m : Nat}, sumN n (fun k => sumN m fun c => f c k) = sumN m fun c => sumN n (f c)
  | 0 => sumN_zero
  | m + 1 => by
    show sumN n (fun k => sumN m (fun c => f c k) + f m k) = sumN m (fun c => sumN n (f c)) + sumN n (f m)
    rw [sumN_add, sumN_swap]
theorem sumN_le {f : Nat -> Int} {b : Int} : ∀ {n : Nat}, (∀ k, k < n -> f k <= b) -> sumN n f <= n * b
  | 0, _ => by unfold sumN; simp
  | n + 1, h => by
    unfold sumN
    have h1 := sumN_le (n := n) fun k hk => h k (by omega)
    have h2 := h n (by omega)
    rw [show ((n + 1 : Nat) : Int) * b = n * b + b by rw [Int.natCast_add, zq123x]; simp]
    omega
theorem sumN_one {f : Nat -> Int} (hf : ∀ k, f k = 0 \/ f k = 1) : ∀ {n : Nat}, (∀ k k', k < k' -> k' < n -> ¬ (f k = 1 /\ f k' = 1)) -> sumN n f <= 1
  | 0, _ => by unfold sumN; omega
  | n + 1, h => by
    unfold sumN
    rcases hf n with e | e
    · have := sumN_one hf (n := n) fun k k' a b => h k k' a (by omega)
      omega
    · have : sumN n f = 0 := by
        rw [sumN_congr (g := fun _ => 0) fun k hk => (hf k).resolve_right fun z => h k n hk (by omega) ⟨z, e⟩]
        exact sumN_zero
      omega
theorem meet {I : Nat -> Nat -> Int} (hI : ∀ c k, I c k = 0 \/ I c k = 1) {n : Nat} : ∀ {m : Nat}, (∀ c d k k', c < d -> d < m -> k < k' -> k' < n -> ¬ (I c k = 1 /\ I d k = 1 /\ I c k' = 1 /\ I d k' = 1)) ->
    sumN n (fun k => sumN m (fun c => I c k) * (sumN m (fun c => I c k) - 1)) <= m * (m - 1)
  | 0, _ => by
    rw [sumN_congr (g := fun _ => 0) fun k _ => by unfold sumN; simp, sumN_zero]; simp
  | m + 1, h => by
    have ih := meet hI (n := n) (m := m) fun c d k k' a b => h c d k k' a (by omega)
    have e : sumN n (fun k => sumN (m + 1) (fun c => I c k) * (sumN (m + 1) (fun c => I c k) - 1)) = sumN n (fun k => sumN m (fun c => I c k) * (sumN m (fun c => I c k) - 1) + 2 * sumN m (fun c => I m k * I c k)) := by
      refine sumN_congr fun k _ => ?_
      rw [sumN_mul]
      show (sumN m (fun c => I c k) + I m k) * (sumN m (fun c => I c k) + I m k - 1) = _
      generalize sumN m (fun c => I c k) = D
      rcases hI m k with z | z <;> rw [z] <;> grind
    rw [e, sumN_add, sumN_mul, sumN_swap (f := fun c k => I m k * I c k)]
    have h2 : sumN m (fun c => sumN n fun k => I m k * I c k) <= m * 1 := sumN_le fun c hc => sumN_one (fun k => by rcases hI m k with z | z <;> rcases hI c k with y | y <;> rw [z, y] <;> simp) fun k k' hk hk' ⟨z1, z2⟩ => by
      refine h c m k k' hc (by omega) hk hk' ?_
      rcases hI m k with a | a <;> rcases hI c k with b | b <;> rcases hI m k' with a' | a' <;> rcases hI c k' with b' | b' <;> simp_all
    have e3 : ((m + 1 : Nat) : Int) * ((m + 1 : Nat) - 1) = (m : Int) * (m - 1) + 2 * m := by rw [Int.natCast_add]; grind
    omega
def Ap (R : List (List Int)) : Prop := NoC R fun _ _ => True
theorem two_le {r : List Int} {x y : Int} (hx : x ∈ r) (hy : y ∈ r) (h : x ≠ y) : 2 <= r.length := by
 match r, hx, hy with
 | [z], hx, hy => simp at hx hy; omega
 | _ :: _ :: _, _, _ => simp
structure NetJ (n : Int) (cs : List Prs) : Prop where
 n1 : 1 <= n
 n2 : n <= 62
 l : cs.length <= 62
 r : ∀ prs ∈ cs, prs.length <= 40 /\ (prs.map (·.1)).Pairwise (· < ·) /\ ∀ pr ∈ prs, 0 <= pr.1 /\ pr.1 < n
section
variable {n : Int} {cs : List Prs}
theorem NetJ.netG (h : NetJ n cs) : NetG n cs := ⟨h.n1, by have := h.n2; omega, by have := h.l; omega, fun prs hp => (h.r prs hp).2.2, 40, by decide, fun prs hp => (h.r prs hp).1, by have := h.l; omega⟩
theorem NetJ.degLe (h : NetJ n cs) : ∀ x ∈ degP n cs, 0 <= x /\ x <= 62 := fun x hx => by
 obtain ⟨r, hr, rfl⟩ := zq9x.mp hx
 obtain ⟨j, hj⟩ := zq34x hr
 have := rowsTo_deg (n := n.toNat) (fun prs hp => ⟨(h.r prs hp).2.1, fun pr hpr => ((h.r prs hp).2.2 pr hpr).1⟩) cs.length (zq3x _) j r hj
 have := h.l
 omega
theorem NetJ.degCLe (h : NetJ n cs) : ∀ x ∈ degC cs, 0 <= x /\ x <= 62 := fun k hk => by
 obtain ⟨prs, hp, rfl⟩ := zq9x.mp hk
 have := (h.r prs hp).1
 omega
end
def In2 (a : List Int) (x y : Int) : Prop := ∃ l' l : Nat, l' < l /\ a[l']? = some x /\ a[l]? = some y
theorem In2.mem {a : List Int} {x y : Int} (h : In2 a x y) : x ∈ a /\ y ∈ a := let ⟨_, _, _, h1, h2⟩ := h; ⟨zq4x h1, zq4x h2⟩
theorem In2.lt {a : List Int} {x y : Int} (ha : a.Pairwise (· < ·)) (h : In2 a x y) : x < y := by
 obtain ⟨l', l, hl, h1, h2⟩ := h
 obtain ⟨i1, e1⟩ := zq5x.mp h1
 obtain ⟨i2, e2⟩ := zq5x.mp h2
 rw [<- e1, <- e2]
 exact zq99x.mp ha l' l i1 i2 hl
theorem in2_of {a : List Int} {x y : Int} (ha : a.Pairwise (· < ·)) (hx : x ∈ a) (hy : y ∈ a) (h : x < y) : In2 a x y := by
 obtain ⟨i, hi⟩ := zq34x hx
 obtain ⟨j, hj⟩ := zq34x hy
 obtain ⟨i1, e1⟩ := zq5x.mp hi
 obtain ⟨j1, e2⟩ := zq5x.mp hj
 refine ⟨i, j, ?_, hi, hj⟩
 by_cases c : i < j
 ·exact c
 ·exfalso
  by_cases e : i = j
  ·subst e; omega
  ·have := zq99x.mp ha j i j1 i1 (by omega); omega
theorem ap_iff {R : List (List Int)} (hR : ∀ r ∈ R, r.Pairwise (· < ·)) : Ap R ↔ ∀ (c d : Nat) a b x y, c < d -> R[c]? = some a -> R[d]? = some b -> In2 a x y -> In2 b x y -> False := by
  constructor
  · intro h c d a b x y hcd ea eb ha hb
    have := h c d a b hcd ea eb trivial
    have hlt := ha.lt (hR a (zq4x ea))
    have := two_le (r := shr a b) (x := x) (y := y) (zq85x.mpr ⟨hb.mem.1, by simpa using ha.mem.1⟩) (zq85x.mpr ⟨hb.mem.2, by simpa using ha.mem.2⟩) (by omega)
    omega
  · intro h c d a b hcd ea eb _
    have ra := hR a (zq4x ea)
    have rb := hR b (zq4x eb)
    cases hs : shr a b with
    | nil => simp
    | cons x r =>
      cases r with
      | nil => simp
      | cons y r =>
        exfalso
        have rs : (shr a b).Pairwise (· < ·) := rb.filter _
        rw [hs] at rs
        have hxy : x < y := (zq170x.mp rs).1 y zq22x
        have hx : x ∈ shr a b := by rw [hs]; exact zq22x
        have hy : y ∈ shr a b := by rw [hs]; exact zq25x _ zq22x
        have hx := zq85x.mp hx
        have hy := zq85x.mp hy
        exact h c d a b x y hcd ea eb (in2_of ra (by simpa using hx.2) (by simpa using hy.2) hxy) (in2_of rb hx.1 hy.1 hxy)
end L2
set_option maxRecDepth 100000
set_option maxHeartbeats 4000000
set_option maxRecDepth 100000
set_option maxHeartbeats 4000000
namespace L2
open PySem PySem.Spec PyProof.Rows
theorem lay_ints {ns : List Int} (h : ns.length <= 10000) (hb : ∀ x ∈ ns, 0 <= x /\ x < 1048576) : PyData.layable0 (.list (ns.map .int)) = true := by
  have h1 : PyData.depthAll (ns.map PyData.int) = 0 /\ PyData.canLayAll0 (ns.map PyData.int) = true /\ PyData.weightAll (ns.map PyData.int) <= 22 * ns.length := by
    clear h
    induction ns with
    | nil => simp [PyData.depthAll, PyData.canLayAll0, PyData.weightAll]
    | cons a r ih =>
      obtain ⟨h1, h2, h3⟩ := ih fun x hx => hb x (zq25x _ hx)
      refine ⟨by simp [PyData.depthAll, PyData.depth, h1], by simp [PyData.canLayAll0, PyData.canLay0, h2], ?_⟩
      rw [zq8x, zq67x]
      simp only [PyData.weightAll, PyData.weight]
      obtain ⟨a0, a1⟩ := hb a zq22x
      split
      · omega
      · rename_i hz
        have : a.natAbs.log2 < 20 := (zq145x (by simp at hz; omega)).mpr (by show a.natAbs < 1048576; omega)
        omega
  obtain ⟨h1, h2, h3⟩ := h1
  unfold PyData.layable0
  simp only [PyData.canLay0, PyData.depth, PyData.weight, h1, h2, zq127x, zq26x, decide_eq_true_eq]
  exact ⟨by decide, decide_eq_true (by show _ <= 1048576; omega)⟩
section
variable {X : Cx}
def rIndex : V -> List V -> Hp -> VK -> Prop := fun x vs H Q => ∃ (l : Addr) (ns : List Int) (k : Int), x = .ref l /\ vs = [.int k] /\ H l = some (.lst (ns.map .int)) /\ ns.length <= 10000 /\ (∀ x ∈ ns, 0 <= x /\ x < 1048576) /\ k ∈ ns /\ Q (.int (ns.idxOf k : Nat)) H
theorem mt_index : MtR X "list.index" rIndex := by
 intro pins s σ H x vs v us Q I rx rv h
 obtain ⟨l, ns, k, rfl, rfl, hH, hl, hb, hk, q⟩ := h
 cases rx
 obtain ⟨u, rfl, ru⟩ := rv.one
 obtain ⟨t, rfl⟩ := ru
 obtain ⟨z, its, n, r, hl2, e⟩ := I.lstM hH
 refine index_list_ints ⟨_, e, rfl, n, rfl⟩ (vals_intsA r) (lay_ints hl hb) hk ?_
 exact ⟨.int (ns.idxOf k : Nat), H, I.tok _, ⟨_, rfl⟩, q⟩
end
section
variable {G : Gx} {ρ : Rh} {ta tb : TE} {Φ : Pd} {K : PySem.W.Frag}
theorem Ev.idx (h : Ev G ρ ta fun _ x => ∃ ns : List Int, x = .list (ns.map .int) /\ ns.length <= 10000 /\ (∀ x ∈ ns, 0 <= x /\ x < 1048576) /\ Ev G ρ tb fun _ y => ∃ k, y = .int k /\ k ∈ ns /\ Φ true (.int (ns.idxOf k : Nat))) : Ev G ρ (tBM K "list" rIndex ta (tCons tb tNil)) Φ := fun nb σ H Q W z =>
 h nb σ H _ W fun f v H1 d ⟨ns, e, hn, hb, q⟩ s1 hv => by
  subst e
  obtain ⟨a0, xs0, rfl, na0, hx0, hd0⟩ := hv.ofL
  refine ⟨.inl ⟨rfl, _, SqL.of hx0⟩, q nb σ H1 _ (W.step s1) fun g u H2 y ⟨k, ey, hk, p⟩ s2 hu => ?_⟩
  subst ey
  have hk2 := hu.ofI
  subst hk2
  obtain ⟨a, xs, e1, na, hx, hd⟩ := (hv.keep s2.butS).ofL
  cases e1
  have ex := isDs_ints_eq hd
  subst ex
  exact ⟨a0, ns, k, rfl, rfl, hx, hn, hb, hk, z true _ H2 _ p (s1.trans s2) (.int _)⟩
end
end L2
set_option maxRecDepth 100000
set_option maxHeartbeats 4000000
namespace L2
open PySem PySem.Spec PyProof.Rows
structure OrdP (O : List Int) (n : Nat) : Prop where
 nd : O.Nodup
 len : O.length = n
 rg : ∀ x ∈ O, 0 <= x /\ x < n
def oAt (O : List Int) (i : Nat) : Int := O.getD i 0
theorem OrdP.at {O : List Int} {n : Nat} (h : OrdP O n) {i : Nat} (hi : i < n) : O[i]? = some (oAt O i) := by
 unfold oAt
 rw [zq11x, zq1x (by rw [h.len]; exact hi)]; rfl
theorem OrdP.lt {O : List Int} {n : Nat} (h : OrdP O n) {i : Nat} (hi : i < n) : 0 <= oAt O i /\ oAt O i < n := h.rg _ (zq4x (h.at hi))
theorem nd_at {α : Type} {l : List α} (h : l.Nodup) {i j : Nat} {a : α} (hi : l[i]? = some a) (hj : l[j]? = some a) : i = j := by
 obtain ⟨i1, e1⟩ := zq5x.mp hi
 obtain ⟨j1, e2⟩ := zq5x.mp hj
 by_cases c : i = j
 ·exact c
 ·exfalso
  rcases Nat.lt_or_gt_of_ne c with c | c
  ·exact zq99x.mp h i j i1 j1 c (e1.trans e2.symm)
  ·exact zq99x.mp h j i j1 i1 c (e2.trans e1.symm)
theorem OrdP.inj {O : List Int} {n : Nat} (h : OrdP O n) {i j : Nat} (hi : i < n) (hj : j < n) (e : oAt O i = oAt O j) : i = j := nd_at h.nd (h.at hi) (by rw [h.at hj, e])
theorem OrdP.perm {O : List Int} {n : Nat} (h : OrdP O n) : (O.map Int.toNat).Perm (List.range n) := by
 have nd : (O.map Int.toNat).Nodup := by
  refine zq49x.mpr (h.nd.imp_of_mem fun {a b} ha hb hab z => hab ?_)
  have := h.rg a ha; have := h.rg b hb; omega
 have hs : ∀ x ∈ O.map Int.toNat, x ∈ List.range n := fun x hx => by
  obtain ⟨y, hy, rfl⟩ := zq9x.mp hx
  have := h.rg y hy
  exact zq52x.mpr (by omega)
 refine (List.perm_ext_iff_of_nodup nd List.nodup_range).mpr fun j => ⟨hs j, fun hj => zq77x fun z => ?_⟩
 have h1 : (j :: O.map Int.toNat).Nodup := zq65x.mpr ⟨z, nd⟩
 have h2 := zq94x h1 (l₂ := List.range n) fun x hx => by
  rcases zq17x.mp hx with e | e
  ·rw [e]; exact hj
  ·exact hs x e
 rw [zq67x, zq0x, zq50x, h.len] at h2
 omega
theorem OrdP.ex {O : List Int} {n : Nat} (h : OrdP O n) {j : Nat} (hj : j < n) : ∃ i, i < n /\ oAt O i = j := by
 have := (h.perm.mem_iff (a := j)).mpr (zq52x.mpr hj)
 obtain ⟨y, hy, e⟩ := zq9x.mp this
 obtain ⟨i, hi⟩ := zq34x hy
 have hil : i < n := by have := (zq5x.mp hi).1; rw [h.len] at this; exact this
 refine ⟨i, hil, ?_⟩
 have := h.at hil
 rw [hi] at this
 have := h.rg y hy
 cases this
 have e2 : y = oAt O i := by rw [h.at hil] at hi; cases hi; rfl
 omega
def IsUn (p t : Int) : Prop := ∃ u k : Int, t * u = 1 + p * k
def Rn (p : Int) (O : List Int) (prs prs' : Prs) : Prop := ∃ t, IsUn p t /\ prs'.Perm (prs.map fun pr => (oAt O pr.1.toNat, pr.2 * t % p))
structure WR (O : List Int) (wd wd' : List (Option Int)) : Prop where
 l : wd.length = O.length
 l' : wd'.length = O.length
 e : ∀ i, i < O.length -> wd'[(oAt O i).toNat]? = wd[i]?
theorem sum_perm {a b : List Int} (h : a.Perm b) : a.sum = b.sum := by
 induction h with
 | nil => rfl
 | cons x _ ih => rw [zq96x, zq96x, ih]
 | swap x y l => rw [zq96x, zq96x, zq96x, zq96x]; omega
 | trans _ _ h1 h2 => exact h1.trans h2
theorem due_perm {a b : Prs} {wd : List (Option Int)} (h : a.Perm b) : dueSum a wd = dueSum b wd := by unfold dueSum; exact sum_perm (h.map _)
theorem due_ren {p t : Int} {O : List Int} {wd wd' : List (Option Int)} (hw : WR O wd wd') : ∀ {prs : Prs}, (∀ pr ∈ prs, 0 <= pr.1 /\ pr.1 < O.length) -> ∃ k, dueSum (prs.map fun pr => (oAt O pr.1.toNat, pr.2 * t % p)) wd' = t * dueSum prs wd + p * k
  | [], _ => ⟨0, by unfold dueSum; simp⟩
  | pr :: prs, h => by
    obtain ⟨k, hk⟩ := due_ren (t := t) hw (prs := prs) fun q hq => h q (zq25x _ hq)
    obtain ⟨h0, h1⟩ := h pr zq22x
    have he := hw.e pr.1.toNat (by omega)
    have ht : ∃ j, termOf wd' (oAt O pr.1.toNat, pr.2 * t % p) = t * termOf wd pr + p * j := by
      unfold termOf
      rw [he]
      cases wd[pr.1.toNat]? with
      | none => exact ⟨0, by simp⟩
      | some o =>
        cases o with
        | none => exact ⟨0, by simp⟩
        | some x =>
          refine ⟨-(pr.2 * t / p) * x, ?_⟩
          have : pr.2 * t % p = pr.2 * t - p * (pr.2 * t / p) := Int.emod_def ..
          show pr.2 * t % p * x = t * (pr.2 * x) + p * _
          rw [this]
          grind
    obtain ⟨j, hj⟩ := ht
    refine ⟨k + j, ?_⟩
    show termOf wd' _ + dueSum _ wd' = t * (termOf wd pr + dueSum prs wd) + _
    rw [hk, hj]
    grind
theorem un_zero {p t a : Int} (h : IsUn p t) : (t * a) % p = 0 ↔ a % p = 0 := by
 obtain ⟨u, k, hu⟩ := h
 constructor
 ·intro z
  obtain ⟨j, hj⟩ := zq192x z
  refine zq162x ⟨u * j - k * a, ?_⟩
  have : (t * u) * a = (1 + p * k) * a := by rw [hu]
  grind
 ·intro z
  obtain ⟨j, hj⟩ := zq192x z
  exact zq162x ⟨t * j, by rw [hj]; grind⟩
theorem Rn.zero {p : Int} {O : List Int} {prs prs' : Prs} {wd wd' : List (Option Int)} (h : Rn p O prs prs') (hw : WR O wd wd') (hr : ∀ pr ∈ prs, 0 <= pr.1 /\ pr.1 < O.length) : dueSum prs' wd' % p = 0 ↔ dueSum prs wd % p = 0 := by
 obtain ⟨t, ht, hp⟩ := h
 obtain ⟨k, hk⟩ := due_ren (p := p) (t := t) hw hr
 rw [due_perm hp, hk, zq193x]
 exact un_zero ht
theorem Rn.mem {p : Int} {O : List Int} {n : Nat} {prs prs' : Prs} (h : Rn p O prs prs') (hO : OrdP O n) (hr : ∀ pr ∈ prs, 0 <= pr.1 /\ pr.1 < n) {i : Nat} (hi : i < n) : oAt O i ∈ prs'.map (·.1) ↔ (i : Int) ∈ prs.map (·.1) := by
 obtain ⟨t, ht, hp⟩ := h
 rw [(hp.map (·.1)).mem_iff, zq71x]
 constructor
 ·intro z
  obtain ⟨pr, hpr, e⟩ := zq9x.mp z
  obtain ⟨h0, h1⟩ := hr pr hpr
  have := hO.inj (i := pr.1.toNat) (j := i) (by omega) hi e
  exact zq9x.mpr ⟨pr, hpr, by omega⟩
 ·intro z
  obtain ⟨pr, hpr, e⟩ := zq9x.mp z
  refine zq9x.mpr ⟨pr, hpr, ?_⟩
  show oAt O pr.1.toNat = _
  rw [show pr.1.toNat = i by omega]
end L2
set_option maxRecDepth 100000
set_option maxHeartbeats 4000000
namespace L2
open PySem PySem.Spec PyProof.Rows
structure NK (p n : Int) (cs : List Prs) : Prop where
 hp : POk p
 n0 : 1 <= n
 n1 : n <= 30
 l : cs.length <= 30
 r : ∀ prs ∈ cs, (prs.map (·.1)).Pairwise (· < ·) /\ ∀ pr ∈ prs, 0 <= pr.1 /\ pr.1 < n /\ 1 <= pr.2 /\ pr.2 < p
theorem rise_short {n : Int} {prs : Prs} (h : (prs.map (·.1)).Pairwise (· < ·)) (hr : ∀ pr ∈ prs, 0 <= pr.1 /\ pr.1 < n) : prs.length <= n.toNat := by
 have := nodup_below (m := n) (h.imp fun z => zq133x z) fun x hx => by
  obtain ⟨pr, hpr, rfl⟩ := zq9x.mp hx
  exact hr pr hpr
 rwa [zq0x] at this
theorem NK.netJ {p n : Int} {cs : List Prs} (h : NK p n cs) : NetJ n cs := ⟨h.n0, by have := h.n1; omega, by have := h.l; omega, fun prs hp => by
 obtain ⟨h1, h2⟩ := h.r prs hp
 have h3 : ∀ pr ∈ prs, 0 <= pr.1 /\ pr.1 < n := fun pr hpr => let ⟨a, b, _⟩ := h2 pr hpr; ⟨a, b⟩
 have := rise_short h1 h3
 have := h.n1
 exact ⟨by omega, h1, h3⟩⟩
structure NQ (p : Int) (O Q T : List Int) (cs cs' : List Prs) : Prop where
 l : cs'.length = cs.length
 u : ∀ k, k < cs.length -> IsUn p (T.getD k 0)
 e : ∀ (k : Nat) b, cs'[k]? = some b -> b.Perm ((cs.getD (oAt Q k).toNat []).map fun pr => (oAt O pr.1.toNat, pr.2 * T.getD k 0 % p))
 s : ∀ b ∈ cs', b.Pairwise fun c d => lexB d c = false
section
variable {p n : Int} {O Q T : List Int} {cs cs' : List Prs}
theorem NQ.rn (h : NQ p O Q T cs cs') {k : Nat} {b : Prs} (e : cs'[k]? = some b) : Rn p O (cs.getD (oAt Q k).toNat []) b := ⟨_, h.u k (by have := (zq5x.mp e).1; have := h.l; omega), h.e k b e⟩
theorem getD_at {cs : List Prs} {k : Nat} (hk : k < cs.length) : cs[k]? = some (cs.getD k []) := by rw [zq11x, zq1x hk]; rfl
theorem NQ.qat (hQ : OrdP Q cs.length) {k : Nat} (hk : k < cs.length) : cs[(oAt Q k).toNat]? = some (cs.getD (oAt Q k).toNat []) := getD_at (by have := hQ.lt hk; omega)
theorem NK.hr (h : NK p n cs) {prs : Prs} (hp : prs ∈ cs) : ∀ pr ∈ prs, 0 <= pr.1 /\ pr.1 < n.toNat := fun pr hpr => by
 obtain ⟨a, b, _⟩ := (h.r prs hp).2 pr hpr
 omega
theorem NQ.mem (h : NQ p O Q T cs cs') (hN : NK p n cs) (hO : OrdP O n.toNat) (hQ : OrdP Q cs.length) {k i : Nat} (hk : k < cs.length) (hi : i < n.toNat) : oAt O i ∈ (cs'.getD k []).map (·.1) ↔ (i : Int) ∈ (cs.getD (oAt Q k).toNat []).map (·.1) :=
 (h.rn (getD_at (by rw [h.l]; exact hk))).mem hO (hN.hr (zq4x (NQ.qat hQ hk))) hi
theorem NQ.nk (h : NQ p O Q T cs cs') (hN : NK p n cs) (hO : OrdP O n.toNat) (hQ : OrdP Q cs.length) : NK p n cs' := by
 refine ⟨hN.hp, hN.n0, hN.n1, by rw [h.l]; exact hN.l, fun b hb => ?_⟩
 obtain ⟨k, hk⟩ := zq34x hb
 have hkl : k < cs.length := by have := (zq5x.mp hk).1; have := h.l; omega
 obtain ⟨t, ⟨u, j, hu⟩, hpm⟩ := h.rn hk
 have hm := zq4x (NQ.qat hQ hkl)
 obtain ⟨h1, h2⟩ := hN.r _ hm
 have p2 := hN.hp.1
 generalize cs.getD (oAt Q k).toNat [] = a at hpm h1 h2
 have nd : (b.map (·.1)).Nodup := by
  rw [(hpm.map (·.1)).nodup_iff, zq71x]
  rw [zq137x, zq49x]
  refine (zq49x.mp h1).imp_of_mem fun {x y} hx hy hxy z => ?_
  obtain ⟨a0, a1, _⟩ := h2 x hx
  obtain ⟨b0, b1, _⟩ := h2 y hy
  have := hO.inj (i := x.1.toNat) (j := y.1.toNat) (by omega) (by omega) z
  omega
 refine ⟨?_, fun pr hpr => ?_⟩
 ·have hs := h.s b hb
  rw [zq137x, zq49x] at nd
  refine zq49x.mpr ((hs.and nd).imp fun {x y} ⟨z1, z2⟩ => ?_)
  unfold lexB at z1
  rw [if_neg (fun z => z2 z.symm)] at z1
  have := of_decide_eq_false z1
  omega
 ·obtain ⟨q, hq2, rfl⟩ := zq9x.mp (hpm.mem_iff.mp hpr)
  obtain ⟨a0, a1, a2, a3⟩ := h2 q hq2
  have hl := hO.lt (i := q.1.toNat) (by omega)
  have h0 := zq47x (q.2 * t) (show p ≠ 0 by omega)
  have hne : q.2 * t % p ≠ 0 := fun z => by
   have z2 : (t * q.2) % p = 0 := by rw [zq80x]; exact z
   have := (un_zero (a := q.2) ⟨u, j, hu⟩).mp z2
   rw [Int.emod_eq_of_lt (by omega) a3] at this
   omega
  refine ⟨hl.1, ?_, ?_, zq48x _ (by omega)⟩
  ·show oAt O q.1.toNat < n
   have := hN.n0; omega
  ·show 1 <= q.2 * t % p
   omega
theorem lost_perm {a b : Prs} {wd : Wo} (h : a.Perm b) : lostIn a wd ↔ lostIn b wd := by
 unfold lostIn
 exact ⟨fun ⟨x, h1, h2⟩ => ⟨x, h.mem_iff.mp h1, h2⟩, fun ⟨x, h1, h2⟩ => ⟨x, h.mem_iff.mpr h1, h2⟩⟩
theorem sum_ren {t : Int} {wd wd' : Wo} {a b : Prs} (hw : WR O wd wd') (hr : ∀ pr ∈ a, 0 <= pr.1 /\ pr.1 < O.length) (h : b.Perm (a.map fun pr => (oAt O pr.1.toNat, pr.2 * t % p))) : sumOpt p b wd' = (sumOpt p a wd).map fun s => s * t % p := by
 have hl : lostIn b wd' ↔ lostIn a wd := by
  rw [lost_perm h]
  unfold lostIn
  constructor
  ·rintro ⟨x, h1, h2⟩
   obtain ⟨pr, hpr, rfl⟩ := zq9x.mp h1
   refine ⟨pr, hpr, ?_⟩
   rw [<- hw.e pr.1.toNat (by have := hr pr hpr; omega)]
   exact h2
  ·rintro ⟨pr, hpr, h2⟩
   refine ⟨_, zq9x.mpr ⟨pr, hpr, rfl⟩, ?_⟩
   rw [<- hw.e pr.1.toNat (by have := hr pr hpr; omega)] at h2
   exact h2
 unfold sumOpt
 by_cases c : lostIn a wd
 ·rw [if_pos c, if_pos (hl.mpr c)]; rfl
 ·rw [if_neg c, if_neg (fun z => c (hl.mp z))]
  obtain ⟨k, hk⟩ := due_ren (p := p) (t := t) hw hr
  show some _ = some (dueSum a wd % p * t % p)
  rw [due_perm h, hk, zq193x, zq80x t, Int.mul_emod (dueSum a wd) t, Int.mul_emod (dueSum a wd % p) t, Int.emod_emod]
theorem NQ.sums (h : NQ p O Q T cs cs') (hN : NK p n cs) (hO : OrdP O n.toNat) (hQ : OrdP Q cs.length) {wd wd' : Wo} (hw : WR O wd wd') {k : Nat} (hk : k < cs.length) : sumOpt p (cs'.getD k []) wd' = (sumOpt p (cs.getD (oAt Q k).toNat []) wd).map fun s => s * T.getD k 0 % p :=
 sum_ren hw (by rw [hO.len]; exact hN.hr (zq4x (NQ.qat hQ hk))) (h.e k _ (getD_at (by rw [h.l]; exact hk)))
theorem NQ.true_ (h : NQ p O Q T cs cs') (hN : NK p n cs) (hO : OrdP O n.toNat) (hQ : OrdP Q cs.length) {wd wd' : Wo} (hw : WR O wd wd') : trueW p cs' wd' ↔ trueW p cs wd := by
 have hnone : none ∈ wd' ↔ none ∈ wd := by
  have hl := hw.l
  have hl' := hw.l'
  have hol := hO.len
  constructor
  ·intro z
   obtain ⟨j, hj⟩ := zq34x z
   obtain ⟨i, hi, e⟩ := hO.ex (j := j) (by have := (zq5x.mp hj).1; omega)
   have := hw.e i (by omega)
   rw [e, zq56x, hj] at this
   exact zq4x this.symm
  ·intro z
   obtain ⟨i, hi⟩ := zq34x z
   have := hw.e i (by have := (zq5x.mp hi).1; omega)
   rw [hi] at this
   exact zq4x this
 have hz : ∀ k, k < cs.length -> (dueSum (cs'.getD k []) wd' % p = 0 ↔ dueSum (cs.getD (oAt Q k).toNat []) wd % p = 0) := fun k hk =>
  (h.rn (getD_at (by rw [h.l]; exact hk))).zero hw (by rw [hO.len]; exact hN.hr (zq4x (NQ.qat hQ hk)))
 unfold trueW
 refine and_congr (not_congr hnone) ⟨fun z a ha => ?_, fun z b hb => ?_⟩
 ·obtain ⟨c, hc⟩ := zq34x ha
  have hcl := (zq5x.mp hc).1
  obtain ⟨k, hk, e⟩ := hQ.ex hcl
  have := (hz k hk).mp (z _ (zq4x (getD_at (by rw [h.l]; exact hk))))
  rw [e, zq56x, zq11x, hc] at this
  exact this
 ·obtain ⟨k, hk⟩ := zq34x hb
  have hkl : k < cs.length := by have := (zq5x.mp hk).1; have := h.l; omega
  have := (hz k hkl).mpr (z _ (zq4x (NQ.qat hQ hkl)))
  rw [zq11x, hk] at this
  exact this
theorem rowsC_at {c : Int} : ∀ {prs : Prs} {rows : List (List Int)}, (prs.map fun pr => pr.1.toNat).Nodup -> ∀ k : Nat, (rowsC rows c prs)[k]? = rows[k]?.map fun r => if k ∈ prs.map (fun pr => pr.1.toNat) then r ++ [c] else r
  | [], rows, _, k => by
    show rows[k]? = _
    cases rows[k]? <;> simp
  | pr :: prs, rows, hd, k => by
    rw [zq8x, zq65x] at hd
    show (rowsC (stepR rows c pr) c prs)[k]? = _
    rw [rowsC_at hd.2 k]
    unfold stepR
    by_cases e : pr.1.toNat = k
    · subst e
      by_cases hl : pr.1.toNat < rows.length
      · rw [zq30x hl, zq1x hl, zq11x, zq1x hl]
        show some _ = some _
        dsimp only
        rw [if_neg hd.1, if_pos (by rw [zq8x]; exact zq22x)]; rfl
      · rw [zq13x (by rw [zq40x]; omega), zq13x (by omega)]; rfl
    · rw [zq19x e]
      congr 1
      funext r
      by_cases c2 : k ∈ prs.map (fun pr => pr.1.toNat)
      · rw [if_pos c2, if_pos (by rw [zq8x]; exact zq25x _ c2)]
      · rw [if_neg c2, if_neg (by rw [zq8x]; exact fun z => (zq17x.mp z).elim (fun z => e z.symm) c2)]
theorem rowsTo_rise {n : Nat} {cs : List Prs} (hr : ∀ prs ∈ cs, (prs.map fun pr => pr.1.toNat).Nodup) : ∀ i, i <= cs.length -> ∀ (k : Nat) r, (rowsTo n cs i)[k]? = some r -> r.Pairwise (· < ·) /\ ∀ x, x ∈ r ↔ ∃ c : Nat, c < i /\ x = c /\ k ∈ (cs.getD c []).map fun pr => pr.1.toNat
  | 0, _, k, r, e => by
    unfold rowsTo at e
    rw [List.range_zero, List.foldl_nil] at e
    have hm := zq4x e
    rw [List.mem_replicate] at hm
    rw [hm.2]
    exact ⟨List.Pairwise.nil, fun x => ⟨(fun z => by cases z), (fun ⟨c, hc, _⟩ => by omega)⟩⟩
  | i + 1, hi, k, r, e => by
    have eprs := getD_at (cs := cs) (k := i) (by omega)
    rw [rowsTo_succ eprs, rowsC_at (hr _ (zq4x eprs)) k] at e
    obtain ⟨r0, e1, e2⟩ := zq42x.mp e
    obtain ⟨h1, h2⟩ := rowsTo_rise hr i (by omega) k r0 e1
    by_cases c : k ∈ (cs.getD i []).map fun pr => pr.1.toNat
    · rw [if_pos c] at e2
      subst e2
      refine ⟨List.pairwise_append.mpr ⟨h1, zq191x _ _, fun x hx y hy => ?_⟩, fun x => ?_⟩
      · rw [zq16x.mp hy]
        obtain ⟨c', hc', rfl, _⟩ := (h2 x).mp hx
        omega
      · rw [zq29x, zq16x]
        constructor
        · rintro (z | z)
          · obtain ⟨c', hc', ex, hm⟩ := (h2 x).mp z
            exact ⟨c', by omega, ex, hm⟩
          · exact ⟨i, by omega, z, c⟩
        · rintro ⟨c', hc', ex, hm⟩
          by_cases ce : c' = i
          · rw [ce] at ex; exact .inr ex
          · exact .inl ((h2 x).mpr ⟨c', by omega, ex, hm⟩)
    · rw [if_neg c] at e2
      subst e2
      refine ⟨h1, fun x => ?_⟩
      rw [h2 x]
      constructor
      · rintro ⟨c', hc', ex, hm⟩
        exact ⟨c', by omega, ex, hm⟩
      · rintro ⟨c', hc', ex, hm⟩
        by_cases ce : c' = i
        · rw [ce] at hm; exact absurd hm c
        · exact ⟨c', by omega, ex, hm⟩
theorem NK.nodup (h : NK p n cs) : ∀ prs ∈ cs, (prs.map fun pr => pr.1.toNat).Nodup := fun prs hp => by
 obtain ⟨h1, h2⟩ := h.r prs hp
 rw [zq137x, zq49x]
 refine (zq49x.mp h1).imp_of_mem fun {x y} hx hy hxy => ?_
 have := (h2 x hx).1; have := (h2 y hy).1
 omega
theorem toN_mem {prs : Prs} (h : ∀ pr ∈ prs, 0 <= pr.1) {k : Nat} : (k ∈ prs.map fun pr => pr.1.toNat) ↔ (k : Int) ∈ prs.map (·.1) := by
 constructor
 ·intro z
  obtain ⟨pr, hpr, e⟩ := zq9x.mp z
  exact zq9x.mpr ⟨pr, hpr, by have := h pr hpr; omega⟩
 ·intro z
  obtain ⟨pr, hpr, e⟩ := zq9x.mp z
  exact zq9x.mpr ⟨pr, hpr, by omega⟩
theorem NK.seat (h : NK p n cs) {k : Nat} {r : List Int} (e : (rowsTo n.toNat cs cs.length)[k]? = some r) : r.Pairwise (· < ·) /\ ∀ x, x ∈ r ↔ ∃ c : Nat, c < cs.length /\ x = c /\ (k : Int) ∈ (cs.getD c []).map (·.1) := by
 obtain ⟨h1, h2⟩ := rowsTo_rise h.nodup cs.length (zq3x _) k r e
 refine ⟨h1, fun x => (h2 x).trans ⟨fun ⟨c, a, b, d⟩ => ⟨c, a, b, ?_⟩, fun ⟨c, a, b, d⟩ => ⟨c, a, b, ?_⟩⟩⟩
 ·exact (toN_mem fun pr hpr => ((h.r _ (zq4x (getD_at a))).2 pr hpr).1).mp d
 ·exact (toN_mem fun pr hpr => ((h.r _ (zq4x (getD_at a))).2 pr hpr).1).mpr d
theorem OrdP.idx {O : List Int} {n : Nat} (h : OrdP O n) {i : Nat} (hi : i < n) : O.idxOf (oAt O i) = i := by
 have hmem : oAt O i ∈ O := zq4x (h.at hi)
 have hlt : O.idxOf (oAt O i) < O.length := List.idxOf_lt_length_iff.mpr hmem
 exact nd_at h.nd (by rw [zq1x hlt, List.getElem_idxOf hlt]) (h.at hi)
theorem NQ.seat (h : NQ p O Q T cs cs') (hN : NK p n cs) (hO : OrdP O n.toNat) (hQ : OrdP Q cs.length) {i : Nat} (hi : i < n.toNat) {r r' xs : List Int} (e : (rowsTo n.toNat cs cs.length)[i]? = some r) (e' : (rowsTo n.toNat cs' cs'.length)[(oAt O i).toNat]? = some r') (hp : xs.Perm (r.map fun c => ((Q.idxOf c : Nat) : Int))) (hs : xs.Pairwise (· <= ·)) : xs = r' := by
 obtain ⟨h1, h2⟩ := hN.seat e
 obtain ⟨h3, h4⟩ := (h.nk hN hO hQ).seat e'
 have hl := hO.lt hi
 have hq : ∀ c ∈ r, ∃ k, k < cs.length /\ oAt Q k = c := fun c hc => by
  obtain ⟨d, hd, rfl, _⟩ := (h2 c).mp hc
  exact hQ.ex hd
 have nd : xs.Nodup := by
  rw [hp.nodup_iff, zq137x, zq49x]
  refine h1.imp_of_mem fun {x y} hx hy hxy z => ?_
  obtain ⟨k, hk, rfl⟩ := hq x hx
  obtain ⟨l, hl2, rfl⟩ := hq y hy
  rw [hQ.idx hk, hQ.idx hl2] at z
  have : k = l := by omega
  subst this
  omega
 refine rises_eq ((hs.and nd).imp fun {x y} ⟨z1, z2⟩ => by omega) h3 fun x => ?_
 rw [hp.mem_iff, h4 x]
 have et : (((oAt O i).toNat : Nat) : Int) = oAt O i := by omega
 constructor
 ·intro z
  obtain ⟨c, hc, ex⟩ := zq9x.mp z
  obtain ⟨k, hk, rfl⟩ := hq c hc
  obtain ⟨d, hd, hdk, hm⟩ := (h2 _).mp hc
  rw [hQ.idx hk] at ex
  refine ⟨k, by rw [h.l]; exact hk, ex.symm, ?_⟩
  rw [et]
  refine (h.mem hN hO hQ hk hi).mpr ?_
  rw [hdk, zq56x]
  exact hm
 ·rintro ⟨k, hk, rfl, hm⟩
  rw [h.l] at hk
  rw [et] at hm
  have := (h.mem hN hO hQ hk hi).mp hm
  have hlt := hQ.lt hk
  refine zq9x.mpr ⟨oAt Q k, (h2 _).mpr ⟨(oAt Q k).toNat, by omega, by omega, this⟩, by rw [hQ.idx hk]⟩
theorem NQ.row (h : NQ p O Q T cs cs') (hN : NK p n cs) (hO : OrdP O n.toNat) (hQ : OrdP Q cs.length) {i : Nat} (hi : i < n.toNat) {r r' : List Int} (e : (rowsTo n.toNat cs cs.length)[i]? = some r) (e' : (rowsTo n.toNat cs' cs'.length)[(oAt O i).toNat]? = some r') : r'.length = r.length := by
 have hm := List.mergeSort_perm (r.map fun c => ((Q.idxOf c : Nat) : Int)) (fun a b => decide (a <= b))
 have hs := List.pairwise_mergeSort (le := fun a b : Int => decide (a <= b)) (fun a b c h1 h2 => by have := of_decide_eq_true h1; have := of_decide_eq_true h2; exact decide_eq_true (by omega)) (fun a b => by simp; omega) (r.map fun c => ((Q.idxOf c : Nat) : Int))
 rw [<- h.seat hN hO hQ hi e e' hm (hs.imp fun z => of_decide_eq_true z), hm.length_eq, zq0x]
theorem ord_map {α : Type} {O : List Int} {n : Nat} (hO : OrdP O n) {f g : Nat -> α} (h : ∀ i, i < n -> f (oAt O i).toNat = g i) : ((List.range n).map f).Perm ((List.range n).map g) := by
 have e1 : (O.map Int.toNat).map f = (List.range n).map g := by
  apply zq35x
  intro k
  rw [zq2x, zq2x, zq2x]
  by_cases hk : k < n
  ·rw [hO.at hk, zq110x hk]
   exact congrArg some (h k hk)
  ·rw [zq13x (by rw [hO.len]; omega), zq13x (by rw [zq50x]; omega)]; rfl
 rw [<- e1]
 exact (hO.perm.map f).symm
theorem map_range {α : Type} {l : List α} {n : Nat} (hl : l.length = n) {f : Nat -> α} (h : ∀ k x, l[k]? = some x -> x = f k) : l = (List.range n).map f := by
 apply zq35x
 intro k
 rw [zq2x]
 by_cases hk : k < n
 ·rw [zq110x hk, zq1x (by omega), h k l[k] (zq1x (by omega))]; rfl
 ·rw [zq13x (by omega), zq13x (by rw [zq50x]; omega)]; rfl
theorem NQ.degP (h : NQ p O Q T cs cs') (hN : NK p n cs) (hO : OrdP O n.toNat) (hQ : OrdP Q cs.length) : (degP n cs').Perm (degP n cs) := by
 have h1 : ∀ cs : List Prs, L2.degP n cs = (List.range n.toNat).map fun i => (((rowsTo n.toNat cs cs.length).getD i []).length : Int) := fun cs => by
  refine map_range (by unfold L2.degP thr; rw [zq0x, rowsTo_len]) fun k x e => ?_
  unfold L2.degP thr at e
  rw [zq2x] at e
  obtain ⟨r, e1, rfl⟩ := zq42x.mp e
  rw [zq11x, e1]; rfl
 have hg : ∀ (cs : List Prs) (k : Nat), k < n.toNat -> (rowsTo n.toNat cs cs.length)[k]? = some ((rowsTo n.toNat cs cs.length).getD k []) := fun cs k hk => by
  rw [zq11x, zq1x (by rw [rowsTo_len]; exact hk)]; rfl
 rw [h1, h1]
 refine ord_map hO fun i hi => ?_
 have := h.row hN hO hQ hi (hg cs i hi) (hg cs' (oAt O i).toNat (by have := hO.lt hi; omega))
 exact congrArg (fun n : Nat => (n : Int)) this
theorem NQ.degC (h : NQ p O Q T cs cs') (hQ : OrdP Q cs.length) : (degC cs').Perm (degC cs) := by
 have h1 : L2.degC cs = (List.range cs.length).map fun i => ((cs.getD i []).length : Int) := by
  refine map_range (by unfold L2.degC; rw [zq0x]) fun k x e => ?_
  unfold L2.degC at e
  rw [zq2x] at e
  obtain ⟨r, e1, rfl⟩ := zq42x.mp e
  rw [zq11x, e1]; rfl
 have h2 : L2.degC cs' = (Q.map Int.toNat).map fun i => ((cs.getD i []).length : Int) := by
  apply zq35x
  intro k
  unfold L2.degC
  rw [zq2x, zq2x, zq2x]
  have hl := h.l
  by_cases hk : k < cs.length
  ·rw [hQ.at hk, getD_at (by omega)]
   have := (h.e k _ (getD_at (by omega))).length_eq
   rw [zq0x] at this
   exact congrArg (fun n : Nat => some (n : Int)) this
  ·rw [zq13x (by omega), zq13x (by rw [hQ.len]; omega)]; rfl
 rw [h1, h2]
 exact hQ.perm.map _
theorem rise_perm {a b r s : List Int} (h : a.Perm b) (hr : Rise a r) (hs : Rise b s) : r = s /\ pairsD a r = pairsD b s := by
 have e : r = s := rises_eq hr.1 hs.1 fun k => (hr.2 k).trans (h.mem_iff.trans (hs.2 k).symm)
 subst e
 exact ⟨rfl, zq131x fun d _ => by rw [h.count_eq]⟩
def ApS (R : List (List Int)) : Prop := ∀ (c d : Nat) a b x y, c ≠ d -> R[c]? = some a -> R[d]? = some b -> x ≠ y -> x ∈ a -> y ∈ a -> x ∈ b -> y ∈ b -> False
theorem ap_s {R : List (List Int)} (hR : ∀ r ∈ R, r.Pairwise (· < ·)) : Ap R ↔ ApS R := by
 rw [ap_iff hR]
 constructor
 ·intro h
  have key : ∀ (c d : Nat) a b x y, c < d -> R[c]? = some a -> R[d]? = some b -> x < y -> x ∈ a -> y ∈ a -> x ∈ b -> y ∈ b -> False := fun c d a b x y hcd ea eb hxy h1 h2 h3 h4 =>
   h c d a b x y hcd ea eb (in2_of (hR a (zq4x ea)) h1 h2 hxy) (in2_of (hR b (zq4x eb)) h3 h4 hxy)
  intro c d a b x y hcd ea eb hxy h1 h2 h3 h4
  rcases Nat.lt_or_gt_of_ne hcd with c1 | c1 <;> rcases Int.lt_or_gt_of_ne hxy with c2 | c2
  ·exact key c d a b x y c1 ea eb c2 h1 h2 h3 h4
  ·exact key c d a b y x c1 ea eb c2 h2 h1 h4 h3
  ·exact key d c b a x y c1 eb ea c2 h3 h4 h1 h2
  ·exact key d c b a y x c1 eb ea c2 h4 h3 h2 h1
 ·intro h c d a b x y hcd ea eb ha hb
  have h1 := ha.mem
  have h2 := hb.mem
  have := ha.lt (hR a (zq4x ea))
  exact h c d a b x y (by omega) ea eb (by omega) h1.1 h1.2 h2.1 h2.2
theorem NK.rise (h : NK p n cs) : ∀ r ∈ rwsOf cs, r.Pairwise (· < ·) := fun r hr => by
 obtain ⟨prs, hp, rfl⟩ := zq9x.mp hr
 exact (h.r prs hp).1
theorem rws_get {cs : List Prs} {k : Nat} {a : List Int} (h : (rwsOf cs)[k]? = some a) : k < cs.length /\ a = (cs.getD k []).map (·.1) := by
 unfold rwsOf at h
 rw [zq2x] at h
 obtain ⟨prs, e1, rfl⟩ := zq42x.mp h
 refine ⟨(zq5x.mp e1).1, ?_⟩
 rw [zq11x, e1]; rfl
theorem NK.rg (h : NK p n cs) {k : Nat} (hk : k < cs.length) {x : Int} (hx : x ∈ (cs.getD k []).map (·.1)) : ∃ i : Nat, i < n.toNat /\ x = i := by
 obtain ⟨pr, hpr, rfl⟩ := zq9x.mp hx
 obtain ⟨h1, h2, _⟩ := (h.r _ (zq4x (getD_at hk))).2 pr hpr
 exact ⟨pr.1.toNat, by omega, by omega⟩
theorem NQ.ap (h : NQ p O Q T cs cs') (hN : NK p n cs) (hO : OrdP O n.toNat) (hQ : OrdP Q cs.length) : Ap (rwsOf cs') ↔ Ap (rwsOf cs) := by
 have hN' := h.nk hN hO hQ
 rw [ap_s hN'.rise, ap_s hN.rise]
 constructor
 ·intro z c d a b x y hcd ea eb hxy h1 h2 h3 h4
  obtain ⟨hc, rfl⟩ := rws_get ea
  obtain ⟨hd, rfl⟩ := rws_get eb
  obtain ⟨k, hk, ek⟩ := hQ.ex hc
  obtain ⟨l, hl, el⟩ := hQ.ex hd
  obtain ⟨i, hi, rfl⟩ := hN.rg hc h1
  obtain ⟨j, hj, rfl⟩ := hN.rg hc h2
  have hat : ∀ m, m < cs.length -> (rwsOf cs')[m]? = some ((cs'.getD m []).map (·.1)) := fun m hm => rwsOf_at (getD_at (by rw [h.l]; exact hm))
  refine z k l _ _ (oAt O i) (oAt O j) (fun e => hcd (by subst e; omega)) (hat k hk) (hat l hl) (fun e => hxy (by rw [hO.inj hi hj e])) ((h.mem hN hO hQ hk hi).mpr ?_) ((h.mem hN hO hQ hk hj).mpr ?_) ((h.mem hN hO hQ hl hi).mpr ?_) ((h.mem hN hO hQ hl hj).mpr ?_)
  ·rw [ek, zq56x]; exact h1
  ·rw [ek, zq56x]; exact h2
  ·rw [el, zq56x]; exact h3
  ·rw [el, zq56x]; exact h4
 ·intro z k l a b x y hkl ea eb hxy h1 h2 h3 h4
  obtain ⟨hk, rfl⟩ := rws_get ea
  obtain ⟨hl, rfl⟩ := rws_get eb
  obtain ⟨i', hi', rfl⟩ := hN'.rg hk h1
  obtain ⟨j', hj', rfl⟩ := hN'.rg hk h2
  obtain ⟨i, hi, ei⟩ := hO.ex hi'
  obtain ⟨j, hj, ej⟩ := hO.ex hj'
  rw [h.l] at hk hl
  rw [<- ei] at h1 h3
  rw [<- ej] at h2 h4
  have hat : ∀ m, m < cs.length -> (rwsOf cs)[(oAt Q m).toNat]? = some ((cs.getD (oAt Q m).toNat []).map (·.1)) := fun m hm => rwsOf_at (NQ.qat hQ hm)
  have hne : (i : Int) = j -> (i' : Int) = j' := fun e => by
   have : i = j := by omega
   subst this; omega
  exact z _ _ _ _ (i : Int) (j : Int) (fun e => hkl (hQ.inj hk hl (by have := hQ.lt hk; have := hQ.lt hl; omega))) (hat k hk) (hat l hl) (fun e => hxy (hne e)) ((h.mem hN hO hQ hk hi).mp h1) ((h.mem hN hO hQ hk hj).mp h2) ((h.mem hN hO hQ hl hi).mp h3) ((h.mem hN hO hQ hl hj).mp h4)
theorem cr_none {R : List (List Int)} {o : Crs} (h : IsCr R o) : o = none ↔ Ap R := by
 constructor
 ·intro e
  rcases h with ⟨_, h⟩ | ⟨c, d, a, b, x, y, r, _, _, _, _, e2, _⟩
  ·exact h
  ·rw [e] at e2; cases e2
 ·intro ha
  rcases h with ⟨h, _⟩ | ⟨c, d, a, b, x, y, r, hcd, ea, eb, hs, e2, _⟩
  ·exact h
  ·have := ha c d a b hcd ea eb trivial
   rw [hs] at this
   simp at this; omega
end
end L2
set_option maxRecDepth 100000
set_option maxHeartbeats 8000000
namespace K19
open PySem L2
def top (i : Nat) : Stmt := PySem.Challenge.pw_fewchecks_k19_whole_other_names.main.body.getD i (.Pass ⟨0, 0, 0, 0⟩)
abbrev sTotal : Stmt := top 1
abbrev sSums : Stmt := top 3
abbrev sSumOf : Stmt := top 4
abbrev sIsTrue : Stmt := top 5
abbrev sSeats : Stmt := top 6
abbrev sDegrees : Stmt := top 7
abbrev sCounted : Stmt := top 8
abbrev sCrossed : Stmt := top 9
abbrev sLawBag : Stmt := top 11
abbrev sLawStirred : Stmt := top 12
abbrev sLawDraw : Stmt := top 13
abbrev sLawP : Stmt := top 14
abbrev sLawPart : Stmt := top 15
abbrev sLawSum : Stmt := top 16
abbrev sLawLetters : Stmt := top 17
abbrev sLawTruePairs : Stmt := top 18
abbrev sLawPlanted : Stmt := top 19
abbrev sLawNet : Stmt := top 20
abbrev sLawSide : Stmt := top 21
abbrev sLawLossy : Stmt := top 22
abbrev sLawAlike : Stmt := top 23
abbrev sLawCopy : Stmt := top 24
abbrev sLawOrder : Stmt := top 25
abbrev sLawRenamed : Stmt := top 26
abbrev sLawUnit : Stmt := top 27
abbrev sLawTimes : Stmt := top 28
abbrev sLawRight : Stmt := top 29
abbrev sLaw : Stmt := top 30
local macro_rules | `(tactic| walk_at "d0") => `(tactic| first | omega | assumption | decide | (unfold Sm at *; omega) | (unfold CMul; omega) | (unfold CPow; decide) | (unfold CPow; omega))
local macro_rules | `(tactic| walk_at "ds") => `(tactic| ((try dsimp only); first | walk_at "d0" | (refine And.intro ?_ ?_ <;> walk_at "d0") | (refine Or.inl ?_; walk_at "d0") | (refine Or.inr (And.intro ?_ ?_) <;> walk_at "d0")))
local macro_rules | `(tactic| walk_at "s1") => `(tactic| with_reducible first
 | refine R.seq ?_ | refine R.asg ?_ | refine R.setC ?_ | refine R.ifS ?_ | refine R.ret ?_ | refine R.next ?_ | refine R.c ?_ | refine R.op ?_ | refine R.test ?_ | refine R.bl ?_ | refine R.tru ?_
 | refine R.and ?_ | refine R.notV ?_ | refine R.cb ?_ | refine R.call ?_ | refine R.nil ?_ | refine R.cons ?_
 | refine R.lst ?_ | refine R.sl ?_ | refine R.noPart ?_ | refine R.part ?_ | refine R.bm0 ?_ | refine R.bm ?_ | refine R.tyInt ?_ | refine R.gname ?_ | refine R.gsub ?_ | refine R.gcons ?_ | refine R.gnil ?_ | refine R.noTest ?_
 | refine R.rI0 ?_ | refine R.rU ?_ | refine R.eqI ?_ | refine R.neI ?_ | refine R.eqNI ?_ | refine R.eqIN ?_ | refine R.isI ?_ | refine R.notI ?_ | refine R.notN ?_ | refine R.bits ?_
 | refine iteT ?_ | refine iteF ?_ | refine R.nilE ?_ | refine R.isiII ?_ | refine R.isiIB ?_ | refine R.rng1 ?_ | refine R.rng2 ?_ | refine R.iL ?_ | refine R.for_ ?_ | refine R.comp ?_)
local macro_rules | `(tactic| walk_at "st") => `(tactic| repeat (first
 | walk_at "s1"
 | ((with_reducible refine' R.var ?h0 ?_); (case h0 => rfl))
 | ((with_reducible refine' R.rI ?h1 ?_); (case h1 => walk_at "ds"))
 | ((with_reducible refine' R.ixS (o := .lst []) ?h1 ?_); (case h1 => rfl))
 | ((with_reducible refine' R.ixM ?h0 ?h1 ?_); (case h0 => assumption); (case h1 => rfl))
 | ((with_reducible refine' R.ixTM ?h0 ?h1 ?_); (case h0 => assumption); (case h1 => rfl))
 | ((with_reducible refine' R.setS ?h1 ?_); (case h1 => rfl))
 | ((with_reducible refine' R.setM ?h0 ?h1 ?_); (case h0 => assumption); (case h1 => rfl))
 | ((with_reducible refine' R.lenM ?h0 ?_); (case h0 => assumption))
 | ((with_reducible refine' R.lenL ?h0 ?_); (case h0 => assumption))
 | ((with_reducible refine' R.rng1I ?h0 ?h1 ?_); (case h0 => walk_at "ds"); (case h1 => walk_at "ds"))
 | ((with_reducible refine' R.rng2I ?h0 ?_); (case h0 => walk_at "ds"))
 | ((with_reducible refine' R.iL1 ?h0 ?_); (case h0 => assumption))
 | ((with_reducible refine' R.iteP ?h0 ?_); (case h0 => first | exact R.dT (by omega) | exact R.dTn (by omega) | decide))
 | ((with_reducible refine' R.iteN ?h0 ?_); (case h0 => first | exact R.dF (by omega) | exact R.dFn (by omega) | decide))
 | (with_reducible refine R.abs1 ?_) | (with_reducible refine R.partI ?_)))
local macro_rules | `(tactic| walk_at "fv") => `(tactic| first | exact Or.inl rfl | exact Or.inr (Or.inl rfl) | exact Or.inr (Or.inr (Or.inl rfl)) | exact Or.inr (Or.inr (Or.inr (Or.inl rfl))) | exact Or.inr (Or.inr (Or.inr (Or.inr rfl))))
local macro_rules | `(tactic| walk_at "d1") => `(tactic| with_reducible first
 | refine Sv.seq ?_ | refine Sv.asgNil ?_ | refine Sv.asg ?_ | refine Sv.setCF ?_ | refine Sv.ifS ?_ | refine Sv.ret ?_ | refine Sv.next ?_ | refine Sv.retN ?_
 | refine Ev.int ?_ | refine Ev.bl ?_ | refine Ev.non ?_ | refine Ev.rI0 ?_ | refine Ev.rB0 ?_ | refine Ev.rI ?_ | refine Ev.rU ?_ | refine Ev.eq ?_ | refine Ev.ne ?_ | refine Ev.is ?_ | refine Ev.isNot ?_ | refine Ev.eqD ?_
 | refine Ev.andV ?_ | refine Ev.orV ?_ | refine Ev.notV ?_ | refine Ev.ifE ?_ | refine Tv.test ?_ | refine Tv.or ?_ | refine Tv.not ?_ | refine Tv.noTest ?_ | refine Tv.truB ?_
 | refine Ev.tupF ?_ | refine Ev.lst ?_ | refine Av.nil ?_ | refine Av.cons ?_ | refine Av.cints ?_ | refine Ov.none ?_ | refine Ov.some ?_ | refine Ev.min2 ?_ | refine Ev.max2 ?_ | refine Ev.intB ?_
 | refine R.di ?_ | refine R.db ?_ | refine R.dl ?_ | refine R.dt ?_ | refine R.dll ?_ | refine R.dlt ?_ | refine R.eqii ?_ | refine R.eqni ?_ | refine R.eqin ?_ | refine R.eqnn ?_ | refine R.eqbb ?_
 | refine Gv.nameI ?_ | refine Gv.nameB ?_ | refine Gv.nameN ?_ | refine Gv.nameT ?_ | refine Gv.nameF ?_ | refine Gv.snil ?_ | refine Gv.scons ?_ | refine iteT ?_ | refine iteF ?_)
local macro_rules | `(tactic| walk_at "dt") => `(tactic| repeat (first
 | ((with_reducible refine' Sv.retOwn ?h0 ?_); (case h0 => rfl))
 | ((with_reducible refine' Sv.setOwn ?h0 ?_); (case h0 => rfl))
 | walk_at "d1"
 | ((with_reducible refine' Ev.var ?h0 ?_); (case h0 => rfl))
 | ((with_reducible refine' Ev.draw ?h0 ?_); (case h0 => rfl))
 | ((with_reducible refine' Ev.ixOwn ?h0 ?_); (case h0 => rfl))
 | ((with_reducible refine' Ev.lenOwn ?h0 ?_); (case h0 => rfl))
 | ((with_reducible refine' Ev.listOwn ?h0 ?_); (case h0 => rfl))
 | ((with_reducible refine' Ev.slOwn ?h0 ?_); (case h0 => rfl))
 | ((with_reducible refine' Sv.append ?h0 ?_); (case h0 => rfl))
 | ((with_reducible refine' Sv.setOwn ?h0 ?_); (case h0 => rfl))
 | ((with_reducible refine' Sv.retOwn ?h0 ?_); (case h0 => rfl))
 | ((with_reducible refine' Gv.tup ?h0 ?_); (case h0 => rfl))
 | ((with_reducible refine' R.at_ ?h0 ?_); (case h0 => first | rfl | assumption))
 | (with_reducible refine Ev.ixL ?_) | (with_reducible refine Ev.ixT ?_) | (with_reducible refine Ev.listOf ?_) | (with_reducible refine Ev.sl ?_) | (with_reducible refine Ev.cat ?_) | (with_reducible refine Ev.lenS ?_)
 | ((with_reducible refine' Ev.isi ?h0 ?_); (case h0 => walk_at "fv"))
 | ((with_reducible refine' Ev.isi2 ?h0 ?h1 ?_); (case h0 => walk_at "fv"); (case h1 => walk_at "fv"))
 | (with_reducible refine Ev.all ?_) | (with_reducible refine Ev.sum ?_) | (with_reducible refine Ev.ixS ?_)
 | ((with_reducible refine' R.lnil ?_))
 | ((with_reducible refine' R.iteP ?h0 ?_); (case h0 => first | exact R.dT (by omega) | exact R.dTn (by omega) | rfl))
 | ((with_reducible refine' R.iteN ?h0 ?_); (case h0 => first | exact R.dF (by omega) | exact R.dFn (by omega) | exact zq14x))
 | ((with_reducible refine' R.cnd ?h0 ?_); (case h0 => first | walk_at "ds" | exact zq169x rfl))))
local macro_rules | `(tactic| walk_at "wk") => `(tactic| repeat (first | exact Wk.nil | apply Wk.no | apply Wk.eq))
section
variable {P : Program} {w : World} {K : PySem.W.Frag} {mg : Str -> Option Value} {base : Heap} {f : Addr} {fd : FuncData}
theorem scTotal : FnScope ["p", "pairs", "word", "reached", "place", "factor"] ["p", "pairs", "word"] (defScope sTotal) := ⟨rfl, rfl, rfl, by decide +kernel, rfl, by decide +kernel, by decide +kernel⟩
theorem ok_total (F : Fun K "total" "total" sTotal f fd)     :
    FnOk P w K mg base CX0 1 f fd ["p", "pairs", "word"] spTotal := by
  refine F.ok scTotal (fun vs H Q E h => ?_) (fun cdv A outer s H vs Q E hr h => ?_)
  · obtain ⟨nb, p, va, vc, prs, wd, rfl, hA, hC, hp, h1, h2, q⟩ := h
    rfl
  obtain ⟨nb, p, va, vc, prs, wd, rfl, hA, hC, hp, h1, h2, q⟩ := h
  refine ⟨_, (@pss_cons _ _ _ _ _ (@ps_set _ _ (3) _ _ _ _ scTotal.nd rfl (Or.inl rfl) pe_int (by rfl) (by first | exact .inl rfl | exact .inr rfl | assumption)) (@pss_cons _ _ _ _ _ (@ps_for _ _ _ _ _ _ _ _ zq36x rfl (pi_listK (K := K) rfl (pv 1)) (pg_tup rfl (@pgs_cons _ _ _ _ _ (pg_name (i := 4) scTotal.nd rfl (Or.inl rfl)) (@pgs_cons _ _ _ _ _ (pg_name (i := 5) scTotal.nd rfl (Or.inl rfl)) pgs_nil (by rfl)) (by rfl))) (@pss_one _ _ _ (@ps_if _ _ _ _ _ _ _ _ (@pt_cmpR _ _ _ _ _ _ _ _ op_notM (@pe_ix _ _ _ _ _ _ _ ix_list (pv 2) (pv 4) (fun _ _ => rfl)) pe_non (nomark _)) (@pss_one _ _ _ (@ps_set _ _ (3) _ _ _ _ scTotal.nd rfl (Or.inl rfl) (@pe_op _ _ _ _ _ _ _ _ op_mod (@pe_op _ _ _ _ _ _ _ _ op_add (pv 3) (@pe_op _ _ _ _ _ _ _ _ op_mulA (pv 5) (@pe_ix _ _ _ _ _ _ _ ix_list (pv 2) (pv 4) (fun _ _ => rfl)))) (pv 0)) (by rfl) (by first | exact .inl rfl | exact .inr rfl | assumption))) pss_nil)) (by intro _; rfl)) (@pss_one _ _ _ (@ps_ret _ _ _ _ (pv 3))))), ?_⟩
  obtain ⟨a, xs, rfl, na, ha, da⟩ := hA.ofL
  obtain ⟨c, ws, rfl, nc, hc, dc⟩ := hC.ofL
  have hxl := da.length
  rw [zq0x] at hxl
  have ew := isDs_opt dc
  subst ew
  walk_at "st"
  refine R.iL1 (SqL.of ha) ?_
  refine for_list (xs := xs) (fun i σ H1 => H1 = H /\ ∃ (r : Int) (x y : Option V), σ = [some (.int p), some (.ref a), some (.ref c), some (.int r), x, y] /\ r = dueSum (prs.take i) wd % p) ⟨rfl, 0, none, none, rfl, by simp [dueSum]⟩ ?_ ?_ ?_
  · rintro i σ H1 hi ⟨rfl, _⟩
    exact SqL.of ha
  · rintro i x σ H1 hx ⟨rfl, r, y, z, rfl, hr⟩
    have hi : i < prs.length := by have := (zq5x.mp hx).1; omega
    obtain ⟨x', hx', dx⟩ := da.get (i := i) (by rw [zq2x, zq1x hi]; rfl)
    rw [hx] at hx'; cases hx'
    obtain ⟨t, rfl, nt, ht⟩ := isD_pair dx
    obtain ⟨g1, g2, g3⟩ := h1 _ (zq28x hi)
    have hk : prs[i].fst.toNat < wd.length := by omega
    have hat : atI (wd.map optV) prs[i].fst = some (optV wd[prs[i].fst.toNat]) := atI_some g1 (by rw [zq2x, zq1x hk]; rfl)
    have htm : termOf wd prs[i] = match wd[prs[i].fst.toNat] with | some x => prs[i].snd * x | none => 0 := by
      unfold termOf
      rw [zq1x hk]
      cases wd[prs[i].fst.toNat] <;> rfl
    have hs2 : ∀ x, wd[prs[i].fst.toNat] = some x -> Sm x := fun x e => h2 x (by rw [<- e]; exact zq28x hk)
    have hd := dueSum_snoc (wd := wd) hi
    refine R.gtup (SqT.of ht) rfl ?_
    walk_at "st"
    refine R.ixM hc hat ?_
    walk_at "st"
    generalize wd[prs[i].fst.toNat] = o at hat htm hs2 ⊢
    cases o with
    | none =>
      refine R.notN ?_
      walk_at "st"
      refine ⟨rfl, _, _, _, rfl, ?_⟩
      rw [hd, htm, hr, zq163x]
    | some x =>
      have hsx := hs2 x rfl
      refine R.notI ?_
      walk_at "st"
      refine R.ixM hc hat ?_
      refine R.rI (Or.inr ⟨g3, hsx⟩) ?_
      walk_at "st"
      refine ⟨rfl, _, _, _, rfl, ?_⟩
      rw [hd, htm, hr, Int.emod_add_emod]
  · rintro σ H1 ⟨rfl, r, x, y, rfl, hr⟩
    walk_at "st"
    rw [hxl, zq62x] at hr
    rw [hr]
    exact q
def F_sum_of : DF := fun ds Φ => ∃ (p : Int) (prs : Prs) (wd : Wo), ds = [.int p, prsD prs, woD wd] /\ 0 < p /\ PrsOk prs wd.length /\ WoOk wd /\ Φ true (optD (sumOpt p prs wd))
theorem mono_sum_of : MonoF F_sum_of := by
 intro ds Φ Ψ hm z
 obtain ⟨p, prs, wd, e, h1, h2, h3, q⟩ := hm
 exact ⟨p, prs, wd, e, h1, h2, h3, z _ _ q⟩
theorem scSumOf : FnScope ["p", "pairs", "word", "place", "factor"] ["p", "pairs", "word"] (defScope sSumOf) := ⟨rfl, rfl, rfl, by decide +kernel, rfl, by decide +kernel, by decide +kernel⟩
theorem ok_sum_of (F : Fun K "sum_of" "sum_of" sSumOf f fd)  (c_total : Callee P w K mg base "total" 1 ["p", "pairs", "word"] spTotal)   :
    FnOk P w K mg base CX0 2 f fd ["p", "pairs", "word"] (spD 3 F_sum_of) := by
  refine F.ok scSumOf (fun vs H Q E h => h.1) (fun cdv A outer s H vs Q E hr h => ?_)
  obtain ⟨nb, ds, Φ, hlive, hds, hΦ, hF⟩ := spD_out h
  obtain ⟨p, prs, wd, rfl, hp, h1, h2, q⟩ := hF
  refine ⟨_, (@pss_cons _ _ _ _ _ (@ps_for _ _ _ _ _ _ _ _ zq36x rfl (pi_listK (K := K) rfl (pv 1)) (@pg_tupM _ (K) _ _ _ (2) _ rfl rfl (@pgs_cons _ _ _ _ _ (pg_name (i := 3) scSumOf.nd rfl (Or.inl rfl)) (@pgs_cons _ _ _ _ _ (pg_name (i := 4) scSumOf.nd rfl (Or.inl rfl)) pgs_nil (by rfl)) (by rfl)) (by rfl) (by rfl)) (@pss_one _ _ _ (@ps_if _ _ _ _ _ _ _ _ (@pt_cmpR _ _ _ _ _ _ _ _ op_isM (@pe_ix _ _ _ _ _ _ (rIxL K) ix_list (pv 2) (pv 3) (fun _ _ => rfl)) pe_non (nomark _)) (@pss_one _ _ _ (@ps_ret _ _ _ _ pe_non)) pss_nil)) (by intro _; rfl)) (@pss_one _ _ _ (@ps_ret _ _ _ _ (@pe_callC _ _ _ _ _ _ _ _ _ _ c_total (hr.mono (by decide)) (@pa_cons _ _ _ _ _ (pv 0) (@pa_cons _ _ _ _ _ (pv 1) (@pa_cons _ _ _ _ _ (pv 2) pa_nil rfl) rfl) rfl) (by rfl) (by decide) (by rfl) (by rfl))))), ?_⟩
  refine Sv.enterD hlive hds hΦ (ρ := [.d false _, .d false _, .d false _, .no, .no]) rfl ?_
  clear hΦ hds
  walk_at "dt"
  refine Sv.forL (Ev.var rfl ⟨_, rfl, fun v => ?_⟩)
  refine ⟨fun i ρ => (∃ x y, ρ = [.d false (.int p), .d false (prsD prs), .d false (woD wd), x, y]) /\ ∀ pr ∈ prs.take i, wd[pr.1.toNat]? ≠ some none, ⟨⟨_, _, rfl⟩, by simp⟩, ?_, ?_⟩
  · rintro i d ρ hd ⟨⟨x, y, rfl⟩, hI⟩
    obtain ⟨pr, hpr, rfl⟩ := map_at hd
    obtain ⟨g1, g2, g3⟩ := h1 pr (zq4x hpr)
    obtain ⟨o, ho, hat⟩ := atI_nat' (xs := wd) optD g1 g2 rfl
    walk_at "dt"
    rw [isN_opt]
    cases o with
    | none =>
      walk_at "dt"
      have e : sumOpt p prs wd = none := if_pos ⟨pr, zq4x hpr, ho⟩
      rw [e] at q
      exact q
    | some z =>
      walk_at "dt"
      refine ⟨⟨_, _, rfl⟩, fun pr' h' => ?_⟩
      rw [take_snoc hpr] at h'
      rcases zq29x.mp h' with h' | h'
      · exact hI pr' h'
      · rw [zq16x.mp h', ho]; exact fun z => by cases z
  · rintro ρ ⟨⟨x, y, rfl⟩, hI⟩
    walk_at "dt"
    refine Ev.total ?_
    walk_at "dt"
    refine ⟨p, prs, wd, rfl, hp, h1, h2, ?_⟩
    have e : sumOpt p prs wd = some (dueSum prs wd % p) := if_neg fun ⟨pr, h, e⟩ => hI pr (by rw [zq0x, zq62x]; exact h) e
    rw [e] at q
    exact q
def F_sums : DF := fun ds Φ => ∃ (p n : Int) (cs : List Prs) (wd : Wo), ds = [netD p n cs, woD wd] /\ 0 < p /\ cs.length <= 10000 /\ (∀ prs ∈ cs, PrsOk prs wd.length) /\ WoOk wd /\ Φ true (.list (cs.map fun prs => optD (sumOpt p prs wd)))
theorem mono_sums : MonoF F_sums := by
 intro ds Φ Ψ hm z
 obtain ⟨p, n, cs, wd, e, h1, h2, h3, h4, q⟩ := hm
 exact ⟨p, n, cs, wd, e, h1, h2, h3, h4, z _ _ q⟩
theorem scSums : FnScope ["net", "word"] ["net", "word"] (defScope sSums) := ⟨rfl, rfl, rfl, by decide +kernel, rfl, by decide +kernel, by decide +kernel⟩
theorem ok_sums (F : Fun K "sums" "sums" sSums f fd)  (c_sum_of : Callee P w K mg base "sum_of" 2 ["p", "pairs", "word"] (spD 3 F_sum_of))   :
  FnOk P w K mg base CX0 3 f fd ["net", "word"] (spD 2 F_sums) := by
 refine F.ok scSums (fun vs H Q E h => h.1) (fun cdv A outer s H vs Q E hr h => ?_)
 obtain ⟨nb, ds, Φ, hlive, hds, hΦ, hF⟩ := spD_out h
 obtain ⟨p, n, cs, wd, rfl, hp, hl, h1, h2, q⟩ := hF
 refine ⟨_, (@pss_one _ _ _ (@ps_ret _ _ _ _ (pe_lcomp (CompOk.of (show compOkB (defScope sSums) ["net", "word"] _ ["pairs", "net", "word"] [none, some 0, some 1] = true by decide +kernel)) (pi_listK (K := K) rfl (@pe_ix _ _ _ _ _ _ (rIxT K) ix_tup (pv 0) pe_int (fun _ _ => rfl))) (fun _ _ _ _ => ⟨(pg_name (i := 0) (by show List.Nodup (["pairs", "net", "word"] : List Str); decide +kernel) rfl (Or.inl rfl)), pts_nil, (@pe_callC _ _ _ _ _ _ _ _ _ _ c_sum_of (hr.mono (by decide)) (@pa_cons _ _ _ _ _ (@pe_ix _ _ _ _ _ _ (rIxT K) ix_tup (pv 1) pe_int (fun _ _ => rfl)) (@pa_cons _ _ _ _ _ (pv 0) (@pa_cons _ _ _ _ _ (pv 2) pa_nil rfl) rfl) rfl) (by rfl) (by decide) (by rfl) (by rfl))⟩)))), ?_⟩
 refine Sv.enterD hlive hds hΦ (ρ := [.d false _, .d false _]) rfl ?_
 clear hΦ hds
 walk_at "dt"
 refine EvN.ev (EvN.compL (by decide) rfl ?_)
 walk_at "dt"
 refine ⟨by rw [zq0x]; exact hl, fun v => ⟨true, fun i ds => ds = (cs.take i).map fun prs => optD (sumOpt p prs wd), rfl, ?_, ?_⟩⟩
 ·rintro i d ds hd hl' rfl
  obtain ⟨prs, hprs, rfl⟩ := map_at hd
  walk_at "dt"
  refine ⟨by walk_at "wk", ?_⟩
  walk_at "dt"
  refine Ev.callD mono_sum_of ?_
  walk_at "dt"
  refine ⟨rfl, p, prs, wd, rfl, hp, h1 prs (zq4x hprs), h2, fun _ => rfl, ?_⟩
  show _ = List.map _ _
  rw [take_snoc hprs, zq21x]
  rfl
 ·rintro ds hl' rfl
  rw [zq0x, zq62x]
  exact q
def F_is_true : DF := fun ds Φ => ∃ (p n : Int) (cs : List Prs) (wd : Wo), ds = [netD p n cs, woD wd] /\ 0 < p /\ cs.length <= 10000 /\ (∀ prs ∈ cs, PrsOk prs wd.length) /\ WoOk wd /\ Φ true (.bool (decide (trueW p cs wd)))
theorem mono_is_true : MonoF F_is_true := by
 intro ds Φ Ψ hm z
 obtain ⟨p, n, cs, wd, e, h1, h2, h3, h4, q⟩ := hm
 exact ⟨p, n, cs, wd, e, h1, h2, h3, h4, z _ _ q⟩
theorem scIsTrue : FnScope ["net", "word"] ["net", "word"] (defScope sIsTrue) := ⟨rfl, rfl, rfl, by decide +kernel, rfl, by decide +kernel, by decide +kernel⟩
theorem ok_is_true (F : Fun K "is_true" "is_true" sIsTrue f fd)  (c_sums : Callee P w K mg base "sums" 3 ["net", "word"] (spD 2 F_sums)) (m_all : mg "all" = none)  :
  FnOk P w K mg base CX0 4 f fd ["net", "word"] (spD 2 F_is_true) := by
 refine F.ok scIsTrue (fun vs H Q E h => h.1) (fun cdv A outer s H vs Q E hr h => ?_)
 obtain ⟨nb, ds, Φ, hlive, hds, hΦ, hF⟩ := spD_out h
 obtain ⟨p, n, cs, wd, rfl, hp, hl, h1, h2, q⟩ := hF
 refine ⟨_, (@pss_cons _ _ _ _ _ (@ps_if _ _ _ _ _ _ _ _ (pt_cmpR (op_inK (K := K) (by rfl)) pe_non (pv 1) (by with_unfolding_all rfl)) (@pss_one _ _ _ (@ps_ret _ _ _ _ pe_bl)) pss_nil) (@pss_one _ _ _ (@ps_ret _ _ _ _ (@pe_callB _ _ _ _ _ _ _ _ (rAll K) (call_allM rfl) rfl m_all zq194x (@pa_cons _ _ _ _ _ (pe_lcomp (CompOk.of (show compOkB (defScope sIsTrue) ["net", "word"] _ ["reached"] [none] = true by decide +kernel)) (pi_listK (K := K) rfl (@pe_callC _ _ _ _ _ _ _ _ _ _ c_sums (hr.mono (by decide)) (@pa_cons _ _ _ _ _ (pv 0) (@pa_cons _ _ _ _ _ (pv 1) pa_nil rfl) rfl) (by rfl) (by decide) (by rfl) (by rfl))) (fun _ _ _ _ => ⟨(pg_name (i := 0) (by show List.Nodup (["reached"] : List Str); decide +kernel) rfl (Or.inl rfl)), pts_nil, (@pe_cmpR _ _ _ _ _ _ _ _ op_eq (pv 0) pe_int (nomark _))⟩)) pa_nil rfl) (by decide) (by decide) (by rfl) (by rfl))))), ?_⟩
 refine Sv.enterD hlive hds hΦ (ρ := [.d false _, .d false _]) rfl ?_
 clear hΦ hds
 refine Sv.seq ?_
 refine Sv.ifS ?_
 refine Tv.test ?_
 refine Ev.noneIn ?_
 walk_at "dt"
 refine ⟨wd, rfl, ?_⟩
 by_cases c : none ∈ wd
 ·rw [decide_eq_true c]
  walk_at "dt"
  rw [decide_eq_false (show ¬ trueW p cs wd from fun h => h.1 c)] at q
  exact q
 ·rw [decide_eq_false c]
  walk_at "dt"
  refine EvN.ev (EvN.compL (by decide) rfl ?_)
  refine Ev.callD mono_sums ?_
  walk_at "dt"
  refine ⟨rfl, p, n, cs, wd, rfl, hp, hl, h1, h2, _, rfl, by rw [zq0x]; exact hl, fun v => ?_⟩
  have hno : ∀ prs ∈ cs, ¬ lostIn prs wd := fun prs _ ⟨pr, _, e⟩ => c (zq4x e)
  refine CompD.rel PyData.bool true (fun i o => ∃ prs, cs[i]? = some prs /\ o = decide (dueSum prs wd % p = 0)) ?_ fun os hol hos => ?_
  ·rintro i d hd
   obtain ⟨prs, hprs, rfl⟩ := map_at hd
   have es : sumOpt p prs wd = some (dueSum prs wd % p) := if_neg (hno prs (zq4x hprs))
   rw [es]
   show Gv _ _ _ _ (PyData.int (dueSum prs wd % p)) _
   walk_at "dt"
   refine ⟨by walk_at "wk", ?_⟩
   walk_at "dt"
   exact ⟨prs, hprs, rfl⟩
  rw [zq0x] at hol
  have ho := list_eq_map (φ := fun prs : Prs => decide (dueSum prs wd % p = 0)) hol hos
  refine ⟨os, rfl, ?_⟩
  have e : os.all id = decide (trueW p cs wd) := by
   rw [ho, List.all_map, zq64x, zq101x, decide_eq_true_eq]
   constructor
   ·intro h
    exact ⟨c, fun prs hp => by have := h prs hp; simpa using this⟩
   ·intro h prs hp
    have := h.2 prs hp
    simpa using this
  rw [e]
  exact q
theorem scSeats : FnScope ["net", "told", "c", "pairs", "place", "factor"] ["net"] (defScope sSeats) := ⟨rfl, rfl, rfl, by decide +kernel, rfl, by decide +kernel, by decide +kernel⟩
theorem ok_seats (F : Fun K "seats" "seats" sSeats f fd)   (m_enumerate : mg "enumerate" = none) (m_range : mg "range" = none)  :
  FnOk P w K mg base CX0 1 f fd ["net"] spSeats := by
 refine F.ok scSeats (fun vs H Q E h => ?_) (fun cdv A outer s H vs Q E hr h => ?_)
 ·obtain ⟨nb, p, n, cs, v, rfl, hrest⟩ := h
  rfl
 obtain ⟨nb, p, n, cs, v, rfl, hrest⟩ := h
 refine ⟨_, (@pss_cons _ _ _ _ _ (ps_setC (i := 1) scSeats.nd rfl rfl (CompOk.of (show compOkB (defScope sSeats) ["net", "told", "c", "pairs", "place", "factor"] _ ["place"] [none] = true by decide +kernel)) (@pi_range1 _ _ _ _ _ _ rfl m_range (@pa_cons _ _ _ _ _ (@pe_ix _ _ _ _ _ _ (rIxT K) ix_tup (pv 0) pe_int (fun _ _ => rfl)) pa_nil rfl) (by rfl)) (fun _ _ _ _ => ⟨(pg_name (i := 0) (by show List.Nodup (["place"] : List Str); decide +kernel) rfl (Or.inl rfl)), pts_nil, (@pe_lst _ _ _ _ pa_nil)⟩)) (@pss_cons _ _ _ _ _ (@ps_for _ _ _ _ _ _ _ _ zq36x rfl (@pi_enum _ (K) _ _ _ _ _ _ _ rfl rfl m_enumerate (@pe_ix _ _ _ _ _ _ (rIxT K) ix_tup (pv 0) pe_int (fun _ _ => rfl)) (by rfl)) (@pg_tupM _ (K) _ _ _ (2) _ rfl rfl (@pgs_cons _ _ _ _ _ (pg_name (i := 2) scSeats.nd rfl (Or.inl rfl)) (@pgs_cons _ _ _ _ _ (pg_name (i := 3) scSeats.nd rfl (Or.inl rfl)) pgs_nil (by rfl)) (by rfl)) (by rfl) (by rfl)) (@pss_one _ _ _ (@ps_for _ _ _ _ _ _ _ _ zq36x rfl (pi_listK (K := K) rfl (pv 3)) (@pg_tupM _ (K) _ _ _ (2) _ rfl rfl (@pgs_cons _ _ _ _ _ (pg_name (i := 4) scSeats.nd rfl (Or.inl rfl)) (@pgs_cons _ _ _ _ _ (pg_name (i := 5) scSeats.nd rfl (Or.inl rfl)) pgs_nil (by rfl)) (by rfl)) (by rfl) (by rfl)) (@pss_one _ _ _ (@ps_expr _ _ _ _ (pe_bm zq72x zq111x zq112x mt_append (@pe_ix _ _ _ _ _ _ (rIxL K) ix_list (pv 1) (pv 4) (fun _ _ => rfl)) (@pa_cons _ _ _ _ _ (pv 2) pa_nil rfl)) (by rfl))) (by intro _; rfl))) (by intro _; rfl)) (@pss_one _ _ _ (@ps_ret _ _ _ _ (pv 1))))), ?_⟩
 exact seats_run ⟨nb, p, n, cs, v, rfl, hrest⟩
theorem scCounted : FnScope ["found", "counts", "degree"] ["found"] (defScope sCounted) := ⟨rfl, rfl, rfl, by decide +kernel, rfl, by decide +kernel, by decide +kernel⟩
theorem ok_counted (F : Fun K "counted" "counted" sCounted f fd)   (m_sorted : mg "sorted" = none)  :
  FnOk P w K mg base CX0 1 f fd ["found"] (spD 1 F_counted) := by
 refine F.ok scCounted (fun vs H Q E h => h.1) (fun cdv A outer s H vs Q E hr h => ?_)
 obtain ⟨nb, ds, Φ, hlive, hds, hΦ, hF⟩ := spD_out h
 obtain ⟨ns, rfl, hns, q⟩ := hF
 refine ⟨_, (@pss_cons _ _ _ _ _ (@ps_set _ _ (1) _ _ _ _ scCounted.nd rfl (Or.inr rfl) pe_dnewK (by rfl) (by first | exact .inl rfl | exact .inr rfl | assumption)) (@pss_cons _ _ _ _ _ (@ps_for _ _ _ _ _ _ _ _ zq36x rfl (pi_listK (K := K) rfl (pv 0)) (pg_name (i := 2) scCounted.nd rfl (Or.inl rfl)) (@pss_one _ _ _ (@ps_asg _ _ _ _ _ _ (@pe_op _ _ _ _ _ _ _ _ op_add (pe_bm PySem.F.plainAttrs_dict zq190x PySem.F.type_dict_get mt_get2 (pv 1) (@pa_cons _ _ _ _ _ (pv 2) (@pa_cons _ _ _ _ _ pe_int pa_nil rfl) rfl)) pe_int) (pg_sub (pv 1) (pv 2) set_dict) (by rfl) (by rfl) (by rfl))) (by intro _; rfl)) (@pss_one _ _ _ (@ps_ret _ _ _ _ (pe_lcomp (CompOk.of (show compOkB (defScope sCounted) ["found", "counts", "degree"] _ ["degree", "counts"] [none, some 1] = true by decide +kernel)) (pi_listK (K := K) rfl (@pe_callB _ _ _ _ _ _ _ _ (rSortedD) (call_sortD rfl) rfl m_sorted zq113x (@pa_cons _ _ _ _ _ (pv 1) pa_nil rfl) (by decide) (by decide) (by rfl) (by rfl))) (fun _ _ _ _ => ⟨(pg_name (i := 0) (by show List.Nodup (["degree", "counts"] : List Str); decide +kernel) rfl (Or.inl rfl)), pts_nil, (@pe_tup _ _ _ _ _ (@pa_cons _ _ _ _ _ (pv 0) (@pa_cons _ _ _ _ _ (@pe_ix _ _ _ _ _ _ (rIxD) ix_dict (pv 1) (pv 0) (fun _ _ => rfl)) pa_nil rfl) rfl))⟩)))))), ?_⟩
 exact counted_run hlive hds hns fun rs v H' lt hm s1 hv => hΦ true _ v H' (q rs lt hm) s1 (hv.av fun a z => z.imp id (·.2))
def F_degrees : DF := fun ds Φ => ∃ (p n : Int) (cs : List Prs), ds = [netD p n cs] /\ NetJ n cs /\ ∀ r1 r2, Rise (degP n cs) r1 -> Rise (degC cs) r2 -> ∀ f, Φ f (.tuple [.list (pairsD (degP n cs) r1), .list (pairsD (degC cs) r2)])
theorem mono_degrees : MonoF F_degrees := by
 intro ds Φ Ψ hm z
 obtain ⟨p, n, cs, e, h, q⟩ := hm
 exact ⟨p, n, cs, e, h, fun r1 r2 h1 h2 f => z _ _ (q r1 r2 h1 h2 f)⟩
theorem mono_counted : MonoF F_counted := L2.mono_counted
theorem scDegrees : FnScope ["net", "of_places", "of_checks"] ["net"] (defScope sDegrees) := ⟨rfl, rfl, rfl, by decide +kernel, rfl, by decide +kernel, by decide +kernel⟩
theorem ok_degrees (F : Fun K "degrees" "degrees" sDegrees f fd)  (c_counted : Callee P w K mg base "counted" 1 ["found"] (spD 1 F_counted)) (c_seats : Callee P w K mg base "seats" 1 ["net"] spSeats) (m_len : mg "len" = none)  :
  FnOk P w K mg base CX0 2 f fd ["net"] (spD 1 F_degrees) := by
 refine F.ok scDegrees (fun vs H Q E h => h.1) (fun cdv A outer s H vs Q E hr h => ?_)
 obtain ⟨nb, ds, Φ, hlive, hds, hΦ, hF⟩ := spD_out h
 obtain ⟨p, n, cs, rfl, hN, q⟩ := hF
 refine ⟨_, (@pss_cons _ _ _ _ _ (ps_setC (i := 1) scDegrees.nd rfl rfl (CompOk.of (show compOkB (defScope sDegrees) ["net", "of_places", "of_checks"] _ ["numbers"] [none] = true by decide +kernel)) (pi_listK (K := K) rfl (@pe_callC _ _ _ _ _ _ _ _ _ _ c_seats (hr.mono (by decide)) (@pa_cons _ _ _ _ _ (pv 0) pa_nil rfl) (by rfl) (by decide) (by rfl) (by rfl))) (fun _ _ _ _ => ⟨(pg_name (i := 0) (by show List.Nodup (["numbers"] : List Str); decide +kernel) rfl (Or.inl rfl)), pts_nil, (@pe_callB _ _ _ _ _ _ _ _ (rLen K) call_lenM rfl m_len zq32x (@pa_cons _ _ _ _ _ (pv 0) pa_nil rfl) (by decide) (by decide) (by rfl) (by rfl))⟩)) (@pss_cons _ _ _ _ _ (ps_setC (i := 2) scDegrees.nd rfl rfl (CompOk.of (show compOkB (defScope sDegrees) ["net", "of_places", "of_checks"] _ ["pairs"] [none] = true by decide +kernel)) (pi_listK (K := K) rfl (@pe_ix _ _ _ _ _ _ (rIxT K) ix_tup (pv 0) pe_int (fun _ _ => rfl))) (fun _ _ _ _ => ⟨(pg_name (i := 0) (by show List.Nodup (["pairs"] : List Str); decide +kernel) rfl (Or.inl rfl)), pts_nil, (@pe_callB _ _ _ _ _ _ _ _ (rLen K) call_lenM rfl m_len zq32x (@pa_cons _ _ _ _ _ (pv 0) pa_nil rfl) (by decide) (by decide) (by rfl) (by rfl))⟩)) (@pss_one _ _ _ (@ps_ret _ _ _ _ (@pe_tup _ _ _ _ _ (@pa_cons _ _ _ _ _ (@pe_callC _ _ _ _ _ _ _ _ _ _ c_counted (hr.mono (by decide)) (@pa_cons _ _ _ _ _ (pv 1) pa_nil rfl) (by rfl) (by decide) (by rfl) (by rfl)) (@pa_cons _ _ _ _ _ (@pe_callC _ _ _ _ _ _ _ _ _ _ c_counted (hr.mono (by decide)) (@pa_cons _ _ _ _ _ (pv 2) pa_nil rfl) (by rfl) (by decide) (by rfl) (by rfl)) pa_nil rfl) rfl)))))), ?_⟩
 refine Sv.enterD hlive hds hΦ (ρ := [.d false _, .no, .no]) rfl ?_
 clear hΦ hds
 obtain ⟨hS, hsh⟩ := hN.netG.seat
 have hn1 := hN.n1
 have hn2 := hN.n2
 have hcl := hN.l
 walk_at "dt"
 refine EvN.ev (EvN.compL (by decide) rfl ?_)
 refine Ev.seats ?_
 walk_at "dt"
 refine ⟨p, n, cs, rfl, hS, _, rfl, by rw [zq0x, rowsTo_len]; omega, fun v => CompD.rel PyData.int true (fun i r => ∃ row, (rowsTo n.toNat cs cs.length)[i]? = some row /\ r = (row.length : Int)) ?_ fun os hol hos => ?_⟩
 ·rintro j d hd
  obtain ⟨row, hrow, rfl⟩ := map_at hd
  have hl40 := hsh row (zq4x hrow)
  walk_at "dt"
  refine ⟨by walk_at "wk", ?_⟩
  walk_at "dt"
  exact ⟨row, hrow, by rw [zq0x]⟩
 have eos : os = degP n cs := by
  rw [zq0x] at hol
  apply zq35x
  intro k
  unfold degP thr
  rw [zq2x]
  by_cases hk : k < (rowsTo n.toNat cs cs.length).length
  ·obtain ⟨prs, e1, e2⟩ := hos k os[k] (zq1x (by omega))
   rw [e1, zq1x (by omega), e2]; rfl
  ·rw [zq13x (by omega), zq13x (by omega)]; rfl
 subst eos
 walk_at "dt"
 refine EvN.ev (EvN.compL (by decide) rfl ?_)
 walk_at "dt"
 refine ⟨by rw [zq0x]; omega, fun v => CompD.rel PyData.int true (fun i r => ∃ prs, cs[i]? = some prs /\ r = (prs.length : Int)) ?_ fun os hol hos => ?_⟩
 ·rintro j d hd
  obtain ⟨prs, hprs, rfl⟩ := map_at hd
  have hl40 := (hN.r prs (zq4x hprs)).1
  walk_at "dt"
  refine ⟨by walk_at "wk", ?_⟩
  walk_at "dt"
  exact ⟨prs, hprs, by rw [zq0x]⟩
 have eos : os = degC cs := by
  rw [zq0x] at hol
  apply zq35x
  intro k
  unfold degC
  rw [zq2x]
  by_cases hk : k < cs.length
  ·obtain ⟨prs, e1, e2⟩ := hos k os[k] (zq1x (by omega))
   rw [e1, zq1x (by omega), e2]; rfl
  ·rw [zq13x (by omega), zq13x (by omega)]; rfl
 subst eos
 walk_at "dt"
 refine Ev.callD mono_counted ?_
 walk_at "dt"
 refine ⟨rfl, _, rfl, hN.degLe, fun r1 h1 h2 => ?_⟩
 refine Av.cons ?_
 refine Ev.callD mono_counted ?_
 walk_at "dt"
 refine ⟨rfl, _, rfl, hN.degCLe, fun r2 h3 h4 => ?_⟩
 refine Av.nil ?_
 exact ⟨zq169x rfl, q r1 r2 ⟨h1, h2⟩ ⟨h3, h4⟩ _⟩
def F_crossed : DF := fun ds Φ => ∃ (p n : Int) (cs : List Prs), ds = [netD p n cs] /\ cs.length <= 400 /\ (∀ prs ∈ cs, (prs.map (·.1)).Nodup /\ prs.length <= 1000) /\ ∀ (o : Crs) (f : Bool), IsCr (rwsOf cs) o -> Φ f (crD o)
theorem mono_crossed : MonoF F_crossed := by
 intro ds Φ Ψ hm z
 obtain ⟨p, n, cs, e, h1, h2, q⟩ := hm
 exact ⟨p, n, cs, e, h1, h2, fun o f h => z _ _ (q o f h)⟩
theorem scCrossed : FnScope ["net", "checks", "c", "own", "d", "shared"] ["net"] (defScope sCrossed) := ⟨rfl, rfl, rfl, by decide +kernel, rfl, by decide +kernel, by decide +kernel⟩
theorem ok_crossed (F : Fun K "crossed" "crossed" sCrossed f fd)   (m_range : mg "range" = none) (m_len : mg "len" = none) (m_dict : mg "dict" = none)  :
  FnOk P w K mg base CX0 1 f fd ["net"] (spD 1 F_crossed) := by
 refine F.ok scCrossed (fun vs H Q E h => h.1) (fun cdv A outer s H vs Q E hr h => ?_)
 obtain ⟨nb, ds, Φ, hlive, hds, hΦ, hF⟩ := spD_out h
 obtain ⟨p, n, cs, rfl, hcl, hpr, q⟩ := hF
 refine ⟨_, (@pss_cons _ _ _ _ _ (@ps_set _ _ (1) _ _ _ _ scCrossed.nd rfl (Or.inl rfl) (@pe_ix _ _ _ _ _ _ (rIxT K) ix_tup (pv 0) pe_int (fun _ _ => rfl)) (by rfl) (by first | exact .inl rfl | exact .inr rfl | assumption)) (@pss_cons _ _ _ _ _ (@ps_for _ _ _ _ _ _ _ _ zq36x rfl (@pi_range1 _ _ _ _ _ _ rfl m_range (@pa_cons _ _ _ _ _ (@pe_callB _ _ _ _ _ _ _ _ (rLen K) call_lenM rfl m_len zq32x (@pa_cons _ _ _ _ _ (pv 1) pa_nil rfl) (by decide) (by decide) (by rfl) (by rfl)) pa_nil rfl) (by rfl)) (pg_name (i := 2) scCrossed.nd rfl (Or.inl rfl)) (@pss_cons _ _ _ _ _ (@ps_set _ _ (3) _ _ _ _ scCrossed.nd rfl (Or.inr rfl) (@pe_callTy _ _ _ _ _ _ _ _ (rDictL) (call_dictL rfl) rfl m_dict PyProof.Rows.boot_dict (@pa_cons _ _ _ _ _ (pe_lcomp (CompOk.of (show compOkB (defScope sCrossed) ["net", "checks", "c", "own", "d", "shared"] _ ["place", "factor"] [none, none] = true by decide +kernel)) (pi_listK (K := K) rfl (@pe_ix _ _ _ _ _ _ (rIxL K) ix_list (pv 1) (pv 2) (fun _ _ => rfl))) (fun _ _ _ _ => ⟨(@pg_tupM _ (K) _ _ _ (2) _ rfl rfl (@pgs_cons _ _ _ _ _ (pg_name (i := 0) (by show List.Nodup (["place", "factor"] : List Str); decide +kernel) rfl (Or.inl rfl)) (@pgs_cons _ _ _ _ _ (pg_name (i := 1) (by show List.Nodup (["place", "factor"] : List Str); decide +kernel) rfl (Or.inl rfl)) pgs_nil (by rfl)) (by rfl)) (by rfl) (by rfl)), pts_nil, (@pe_tup _ _ _ _ _ (@pa_cons _ _ _ _ _ (pv 0) (@pa_cons _ _ _ _ _ pe_bl pa_nil rfl) rfl))⟩)) pa_nil rfl) (by decide) (by decide) (by rfl) (by rfl)) (by rfl) (by first | exact .inl rfl | exact .inr rfl | assumption)) (@pss_one _ _ _ (@ps_for _ _ _ _ _ _ _ _ zq36x rfl (@pi_range2 _ _ _ _ _ _ _ rfl m_range (@pa_cons _ _ _ _ _ (@pe_op _ _ _ _ _ _ _ _ op_add (pv 2) pe_int) (@pa_cons _ _ _ _ _ (@pe_callB _ _ _ _ _ _ _ _ (rLen K) call_lenM rfl m_len zq32x (@pa_cons _ _ _ _ _ (pv 1) pa_nil rfl) (by decide) (by decide) (by rfl) (by rfl)) pa_nil rfl) rfl) (by rfl) (by rfl)) (pg_name (i := 4) scCrossed.nd rfl (Or.inl rfl)) (@pss_cons _ _ _ _ _ (ps_setC (i := 5) scCrossed.nd rfl rfl (CompOk.of (show compOkB (defScope sCrossed) ["net", "checks", "c", "own", "d", "shared"] _ ["place", "factor", "own"] [none, none, some 3] = true by decide +kernel)) (pi_listK (K := K) rfl (@pe_ix _ _ _ _ _ _ (rIxL K) ix_list (pv 1) (pv 4) (fun _ _ => rfl))) (fun _ _ _ _ => ⟨(@pg_tupM _ (K) _ _ _ (2) _ rfl rfl (@pgs_cons _ _ _ _ _ (pg_name (i := 0) (by show List.Nodup (["place", "factor", "own"] : List Str); decide +kernel) rfl (Or.inl rfl)) (@pgs_cons _ _ _ _ _ (pg_name (i := 1) (by show List.Nodup (["place", "factor", "own"] : List Str); decide +kernel) rfl (Or.inl rfl)) pgs_nil (by rfl)) (by rfl)) (by rfl) (by rfl)), (pts_one (@pt_cmpR _ _ _ _ _ _ _ _ (op_inD hr.units) (pv 0) (pv 2) (by with_unfolding_all rfl))), (pv 0)⟩)) (@pss_one _ _ _ (@ps_if _ _ _ _ _ _ _ _ (@pt_cmpR _ _ _ _ _ _ _ _ op_ge (@pe_callB _ _ _ _ _ _ _ _ (rLen K) call_lenM rfl m_len zq32x (@pa_cons _ _ _ _ _ (pv 5) pa_nil rfl) (by decide) (by decide) (by rfl) (by rfl)) pe_int (nomark _)) (@pss_one _ _ _ (@ps_ret _ _ _ _ (@pe_tup _ _ _ _ _ (@pa_cons _ _ _ _ _ (pv 2) (@pa_cons _ _ _ _ _ (pv 4) (@pa_cons _ _ _ _ _ (@pe_ix _ _ _ _ _ _ (rIxL K) ix_list (pv 5) pe_int (fun _ _ => rfl)) (@pa_cons _ _ _ _ _ (@pe_ix _ _ _ _ _ _ (rIxL K) ix_list (pv 5) pe_int (fun _ _ => rfl)) pa_nil rfl) rfl) rfl) rfl)))) pss_nil))) (by intro _; rfl)))) (by intro _; rfl)) (@pss_one _ _ _ (@ps_ret _ _ _ _ pe_non)))), ?_⟩
 refine Sv.enterD hlive hds hΦ (ρ := [.d false _, .no, .no, .no, .no, .no]) rfl ?_
 clear hΦ hds
 have hcm : (cs.map prsD).length = cs.length := zq0x ..
 have hat : ∀ i : Nat, i < cs.length -> atI (cs.map prsD) (i : Int) = some (prsD (cs.getD i [])) := fun i hi => atI_some (by omega) (by rw [show ((i : Int)).toNat = i by omega, zq2x, zq11x, zq1x hi]; rfl)
 have hgt : ∀ i : Nat, i < cs.length -> cs[i]? = some (cs.getD i []) := fun i hi => by rw [zq11x, zq1x hi]; rfl
 walk_at "dt"
 refine Sv.forR1 ?_
 walk_at "dt"
 refine ⟨fun i ρ => ∃ (x2 x3 x4 x5 : Sl), NoC (rwsOf cs) (fun c d => c < i) /\ ρ = [.d false (netD p n cs), .d false (.list (cs.map prsD)), x2, x3, x4, x5], ⟨_, _, _, _, fun c d a b _ _ _ z => by omega, rfl⟩, ?_, ?_⟩
 ·rintro i d ρ ⟨hi, rfl⟩ ⟨x2, x3, x4, x5, hno, rfl⟩
  have hi' : i < cs.length := by omega
  have hati := hat i hi'
  have hgti := hgt i hi'
  obtain ⟨P, hP⟩ : ∃ P, cs.getD i [] = P := ⟨_, rfl⟩
  rw [hP] at hati hgti
  obtain ⟨hPn, hPl⟩ := hpr P (zq4x hgti)
  have hPm : (P.map pairD).length = P.length := zq0x ..
  have hati' : atI (cs.map prsD) (0 + (i : Int)) = some (prsD P) := by rw [show (0 + (i : Int)) = i by omega]; exact hati
  refine Gv.nameI ?_
  refine Sv.seq ?_
  refine Sv.asgK (EvK.dictL ?_)
  refine EvN.ev (EvN.compL (by decide) rfl ?_)
  walk_at "dt"
  refine fun v => ⟨true, fun j ds => ds = (insK ((P.map (·.1)).take j)).map itD, rfl, ?_, ?_⟩
  ·rintro j d ds hd hl' rfl
   obtain ⟨pr, hx, rfl⟩ := map_at hd
   walk_at "dt"
   refine ⟨by walk_at "wk", ?_⟩
   walk_at "dt"
   refine ⟨fun _ => rfl, ?_⟩
   show _ = (insK ((P.map (·.1)).take (j + 1))).map itD
   unfold insK
   rw [take_snoc (x := pr.1) (by rw [zq2x, hx]; rfl), zq21x, zq21x]
   rfl
  rintro ds hl' rfl
  rw [show (P.map pairD).length = (P.map (·.1)).length by rw [zq0x, zq0x], zq62x]
  refine ⟨insK (P.map (·.1)), rfl, by unfold insK; rw [zq0x, zq0x]; omega, ?_⟩
  rw [insK_puts hPn]
  intro A3
  refine Sv.forR2 ?_
  walk_at "dt"
  generalize (true || scAll (List.map itD (insK (List.map (fun x => x.fst) P)))) = f3
  refine ⟨fun j ρ => ∃ (x4 x5 : Sl), NoC (rwsOf cs) (fun c d => c < i \/ (c = i /\ d < i + 1 + j)) /\ ρ = [.d false (netD p n cs), .d false (.list (cs.map prsD)), .d true (.int (0 + (i : Int))), .dic A3 f3 (insK (P.map (·.1))), x4, x5], ⟨_, _, fun c d a b hcd ha hb z => hno c d a b hcd ha hb (by omega), rfl⟩, ?_, ?_⟩
  ·rintro j d ρ ⟨hj, rfl⟩ ⟨x4, x5, hno2, rfl⟩
   have hj' : i + 1 + j < cs.length := by omega
   have hatj := hat (i + 1 + j) hj'
   have hgtj := hgt (i + 1 + j) hj'
   obtain ⟨Q, hQ⟩ : ∃ Q, cs.getD (i + 1 + j) [] = Q := ⟨_, rfl⟩
   rw [hQ] at hatj hgtj
   obtain ⟨hQn, hQl⟩ := hpr Q (zq4x hgtj)
   have hQm : (Q.map pairD).length = Q.length := zq0x ..
   have hatj' : atI (cs.map prsD) (0 + (i : Int) + 1 + (j : Int)) = some (prsD Q) := by rw [show (0 + (i : Int) + 1 + (j : Int)) = ((i + 1 + j : Nat) : Int) by omega]; exact hatj
   refine Gv.nameI ?_
   refine Sv.seq ?_
   refine Sv.setCF ?_
   refine EvN.ev (EvN.compL (by decide) rfl ?_)
   walk_at "dt"
   refine fun v => ⟨true, fun m ds => ds = (((Q.take m).map (·.1)).filter fun x => decide (x ∈ P.map (·.1))).map .int, rfl, ?_, ?_⟩
   ·rintro m d ds hd hl' rfl
    obtain ⟨pr, hpr', rfl⟩ := map_at hd
    walk_at "dt"
    refine ⟨by walk_at "wk", ?_⟩
    refine Tv.test ?_
    refine Ev.inDic rfl ?_
    walk_at "dt"
    rw [insK_has]
    by_cases c : pr.1 ∈ P.map (·.1)
    ·rw [if_pos (by rw [decide_eq_true c]; rfl)]
     walk_at "dt"
     show _ = List.map _ (List.filter _ ((Q.take (m + 1)).map (·.1)))
     rw [take_snoc hpr', zq21x, List.filter_append, zq21x, List.map_singleton, List.filter_cons_of_pos (by rw [decide_eq_true c]), List.filter_nil]
     rfl
    ·rw [if_neg (by rw [decide_eq_false c]; decide)]
     show _ = List.map _ (List.filter _ ((Q.take (m + 1)).map (·.1)))
     rw [take_snoc hpr', zq21x, List.filter_append, zq21x, List.map_singleton, List.filter_cons_of_neg (by rw [decide_eq_false c]; decide), List.filter_nil, zq91x, zq87x]
   rintro ds hl' rfl
   rw [hQm, zq62x]
   obtain ⟨Sh, hSh⟩ : ∃ Sh, shr (P.map (·.1)) (Q.map (·.1)) = Sh := ⟨_, rfl⟩
   have eS : ((Q.map (·.1)).filter fun x => decide (x ∈ P.map (·.1))) = Sh := hSh
   rw [eS]
   walk_at "dt"
   rw [zq0x]
   have hic := rwsOf_at hgti
   have hjc := rwsOf_at hgtj
   by_cases c2 : 2 <= Sh.length
   ·rw [if_pos (by simp; omega)]
    obtain ⟨x, y, r, eSh⟩ : ∃ x y r, Sh = x :: y :: r := by
     match Sh, c2 with
     | x :: y :: r, _ => exact ⟨x, y, r, rfl⟩
    subst eSh
    have z0 : atI ((x :: y :: r).map PyData.int) 0 = some (.int x) := atI_some (by omega) rfl
    have z1 : atI ((x :: y :: r).map PyData.int) 1 = some (.int y) := atI_some (by omega) rfl
    walk_at "dt"
    have e1 : (0 + (i : Int)) = i := by omega
    have e2 : (0 + (i : Int) + 1 + (j : Int)) = ((i + 1 + j : Nat) : Int) := by omega
    rw [e2, e1]
    exact q (some (((i : Nat) : Int), ((i + 1 + j : Nat) : Int), x, y)) _ (.inr ⟨i, i + 1 + j, _, _, x, y, r, by omega, hic, hjc, hSh, rfl, hno2⟩)
   ·rw [if_neg (by simp; omega)]
    refine Sv.next ?_
    refine ⟨_, _, fun c d a b hcd ha hb z => ?_, rfl⟩
    by_cases c3 : c = i /\ d = i + 1 + j
    ·obtain ⟨rfl, rfl⟩ := c3
     rw [hic] at ha; cases ha
     rw [hjc] at hb; cases hb
     rw [hSh]; omega
    ·exact hno2 c d a b hcd ha hb (by omega)
  ·rintro ρ ⟨x4, x5, hno2, rfl⟩
   refine ⟨_, _, _, _, fun c d a b hcd ha hb z => hno2 c d a b hcd ha hb ?_, rfl⟩
   have hd : d < cs.length := by have := (zq5x.mp hb).1; unfold rwsOf at this; rwa [zq0x] at this
   omega
 ·rintro ρ ⟨x2, x3, x4, x5, hno, rfl⟩
  walk_at "dt"
  refine q none _ (.inl ⟨rfl, fun c d a b hcd ha hb _ => hno c d a b hcd ha hb ?_⟩)
  have hd : c < cs.length := by have := (zq5x.mp ha).1; unfold rwsOf at this; rwa [zq0x] at this
  omega
theorem scLawBag : FnScope ["script", "stir", "cell"] ["script"] (defScope sLawBag) := ⟨rfl, rfl, rfl, by decide +kernel, rfl, by decide +kernel, by decide +kernel⟩
theorem ok__law_bag (F : Fun K "_law_bag" "_law_bag" sLawBag f fd)   (m_abs : mg "abs" = none)  :
  FnOk P w K mg base CX0 1 f fd ["script"] (spBag K) := by
 refine F.ok scLawBag (fun vs H Q E h => ?_) (fun cdv A outer s H vs Q E hr h => ?_)
 ·obtain ⟨a, ns, rfl, hS, hl, q⟩ := h
  rfl
 obtain ⟨a, ns, rfl, hS, hl, q⟩ := h
 refine ⟨_, (@pss_cons _ _ _ _ _ (@ps_set _ _ (1) _ _ _ _ scLawBag.nd rfl (Or.inl rfl) pe_int (by rfl) (by first | exact .inl rfl | exact .inr rfl | assumption)) (@pss_cons _ _ _ _ _ (@ps_for _ _ _ _ _ _ _ _ zq36x rfl (pi_listK (K := K) rfl (@pe_slice _ _ _ _ _ _ _ _ _ _ sl_list (pv 0) po_none (@po_some _ _ _ pe_int))) (pg_name (i := 2) scLawBag.nd rfl (Or.inl rfl)) (@pss_one _ _ _ (@ps_set _ _ (1) _ _ _ _ scLawBag.nd rfl (Or.inl rfl) (@pe_op _ _ _ _ _ _ _ _ op_mod (@pe_op _ _ _ _ _ _ _ _ op_add (@pe_op _ _ _ _ _ _ _ _ op_add (@pe_op _ _ _ _ _ _ _ _ op_mulA (pv 1) pe_int) (@pe_op _ _ _ _ _ _ _ _ op_mod (pv 2) pe_int)) pe_int) pe_int) (by rfl) (by first | exact .inl rfl | exact .inr rfl | assumption))) (by intro _; rfl)) (@pss_one _ _ _ (@ps_ret _ _ _ _ (@pe_lst _ _ _ _ (@pa_cons _ _ _ _ _ (pe_lcomp (CompOk.of (show compOkB (defScope sLawBag) ["script", "stir", "cell"] _ ["cell"] [none] = true by decide +kernel)) (pi_listK (K := K) rfl (@pe_slice _ _ _ _ _ _ _ _ _ _ sl_list (pv 0) po_none (@po_some _ _ _ pe_int))) (fun _ _ _ _ => ⟨(pg_name (i := 0) (by show List.Nodup (["cell"] : List Str); decide +kernel) rfl (Or.inl rfl)), pts_nil, (@pe_op _ _ _ _ _ _ _ _ op_mod (@pe_callB _ _ _ _ _ _ _ _ _ call_abs rfl m_abs PyProof.Rows.boot_abs (@pa_cons _ _ _ _ _ (pv 0) pa_nil rfl) (by decide) (by decide) (by rfl) (by rfl)) (@pe_op _ _ _ _ _ _ _ _ op_pow pe_int pe_int))⟩)) (@pa_cons _ _ _ _ _ pe_int (@pa_cons _ _ _ _ _ pe_int (@pa_cons _ _ _ _ _ (pv 1) (@pa_cons _ _ _ _ _ pe_int pa_nil rfl) rfl) rfl) rfl) rfl)))))), ?_⟩
 have hcut : cutV (ns.map V.int) none (some 63) = ns.map V.int := by
  have e : (ns.map V.int).length = ns.length := zq0x _
  show List.take (min 63 (ns.map V.int).length - 0) (List.drop 0 (ns.map V.int)) = _
  rw [List.drop_zero]
  exact zq160x (by omega)
 walk_at "st"
 refine R.slL hS fun c hc => ?_
 rw [hcut]
 refine R.iL1 (SqL.of upd_same) ?_
 refine for_list (xs := ns.map V.int) (fun i σ H1 => ∃ (st : Int) (x : Option V), σ = [some (.ref a), some (.int st), x] /\ 0 <= st /\ st < 2147483647 /\ H1 = upd H c (.lst (ns.map V.int))) ⟨19, none, rfl, by omega, by omega, rfl⟩ ?_ ?_ ?_
 ·rintro i σ H1 hi ⟨st, x, rfl, h1, h2, rfl⟩
  exact SqL.of upd_same
 ·rintro i x σ H1 hx ⟨st, y, rfl, h1, h2, rfl⟩
  rw [zq2x] at hx
  obtain ⟨n, _, rfl⟩ := zq42x.mp hx
  walk_at "st"
  exact ⟨_, _, rfl, zq47x _ (by decide), zq48x _ (by decide), rfl⟩
 ·rintro σ H1 ⟨st, x, rfl, h1, h2, rfl⟩
  walk_at "st"
  refine R.slL ((same_new hc).seq hS) fun c2 hc2 => ?_
  rw [hcut]
  refine R.iL1 (SqL.of upd_same) ?_
  intro acc hacc
  refine R.comp_list (xs := ns.map V.int) (fun i σ H2 => ∃ (x : Option V), σ = [x] /\ H2 = upd (upd (upd H c (.lst (ns.map V.int))) c2 (.lst (ns.map V.int))) acc (.lst (((ns.take i).map fun n => (if n < 0 then -n else n) % 10 ^ 60).map V.int))) ⟨none, rfl, rfl⟩ ?_ ?_ ?_
  ·rintro i σ H1 hi ⟨x, rfl, rfl⟩
   refine SqL.of ?_
   rw [upd_ne (ne_of_none upd_same hacc)]
   exact upd_same
  ·rintro i x σ H1 hx ⟨y, rfl, rfl⟩
   rw [zq2x] at hx
   obtain ⟨n, hn, rfl⟩ := zq42x.mp hx
   walk_at "st"
   refine ⟨_, upd_same, ?_, _, rfl, ?_⟩
   ·rw [zq0x, zq0x, zq58x]
    exact small1000 (by omega)
   ·rw [upd_upd, zq146x, hn, zq21x, zq21x]
    rfl
  ·rintro σ H1 ⟨x, rfl, rfl⟩
   walk_at "st"
   refine (show mkL _ _ _ from ⟨by show 5 <= sizeLine; decide, fun p hp => ?_⟩)
   have hn1 := ne_of_none (upd_same (H := upd (upd H c (.lst (ns.map V.int))) c2 (.lst (ns.map V.int))) (a := acc)) hp
   have s1 : Same H (upd (upd (upd H c (.lst (ns.map V.int))) c2 (.lst (ns.map V.int))) acc (.lst (((ns.take (ns.map V.int).length).map fun n => (if n < 0 then -n else n) % 10 ^ 60).map V.int))) := (same_new hc).trans ((same_new hc2).trans (same_new hacc))
   refine q p acc _ (s1.trans (same_new hp)) (s1.free hp) ⟨_, 0, 0, st, 0, upd_same, by rw [upd_ne hn1]; exact upd_same, ?_, ?_, by omega, by omega, by omega, h1, h2⟩
   ·intro y hy
    obtain ⟨z, _, rfl⟩ := zq9x.mp hy
    exact ⟨zq47x _ (by decide), zq48x _ (by decide)⟩
   ·rw [zq0x, zq58x]
    omega
theorem scLawStirred : FnScope ["bag", "many", "found", "k"] ["bag", "many"] (defScope sLawStirred) := ⟨rfl, rfl, rfl, by decide +kernel, rfl, by decide +kernel, by decide +kernel⟩
theorem ok__law_stirred (F : Fun K "_law_stirred" "_law_stirred" sLawStirred f fd)   (m_range : mg "range" = none)  :
  FnOk P w K mg base CX0 1 f fd ["bag", "many"] spDraw := by
 refine F.ok scLawStirred (fun vs H Q E h => ?_) (fun cdv A outer s H vs Q E hr h => ?_)
 ·obtain ⟨b, l, many, rfl, hB, hm, hs, q⟩ := h
  rfl
 obtain ⟨b, l, many, rfl, hB, hm, hs, q⟩ := h
 refine ⟨_, (@pss_cons _ _ _ _ _ (@ps_set _ _ (2) _ _ _ _ scLawStirred.nd rfl (Or.inl rfl) pe_int (by rfl) (by first | exact .inl rfl | exact .inr rfl | assumption)) (@pss_cons _ _ _ _ _ (@ps_for _ _ _ _ _ _ _ _ zq36x rfl (@pi_range1 _ _ _ _ _ _ rfl m_range (@pa_cons _ _ _ _ _ (@pe_op _ _ _ _ _ _ _ _ op_add pe_int (@pe_op _ _ _ _ _ _ _ _ op_fdivS (pe_bm0 PySem.F.plainAttrs_int PySem.F.slot_int_bit_length PySem.F.type_int_bit_length mt_bits (pv 1)) pe_int)) pa_nil rfl) (by rfl)) (pg_name (i := 3) scLawStirred.nd rfl (Or.inl rfl)) (@pss_cons _ _ _ _ _ (@ps_asg _ _ _ _ _ _ (@pe_op _ _ _ _ _ _ _ _ op_add (@pe_ix _ _ _ _ _ _ _ ix_list (pv 0) pe_int (fun _ _ => rfl)) pe_int) (pg_sub (pv 0) pe_int set_list) (by rfl) (by rfl) (by rfl)) (@pss_cons _ _ _ _ _ (@ps_asg _ _ _ _ _ _ (@pe_op _ _ _ _ _ _ _ _ op_mod (@pe_op _ _ _ _ _ _ _ _ op_add (@pe_op _ _ _ _ _ _ _ _ op_add (@pe_op _ _ _ _ _ _ _ _ op_add (@pe_op _ _ _ _ _ _ _ _ op_pow (@pe_ix _ _ _ _ _ _ _ ix_list (pv 0) pe_int (fun _ _ => rfl)) pe_int) (@pe_op _ _ _ _ _ _ _ _ op_mulA pe_int (@pe_ix _ _ _ _ _ _ _ ix_list (pv 0) pe_int (fun _ _ => rfl)))) (@pe_op _ _ _ _ _ _ _ _ op_mulA pe_int (@pe_ix _ _ _ _ _ _ _ ix_list (pv 0) pe_int (fun _ _ => rfl)))) pe_int) pe_int) (pg_sub (pv 0) pe_int set_list) (by rfl) (by rfl) (by rfl)) (@pss_one _ _ _ (@ps_set _ _ (2) _ _ _ _ scLawStirred.nd rfl (Or.inl rfl) (@pe_op _ _ _ _ _ _ _ _ op_add (@pe_op _ _ _ _ _ _ _ _ op_mulA (pv 2) pe_int) (@pe_op _ _ _ _ _ _ _ _ op_fdivS (@pe_ix _ _ _ _ _ _ _ ix_list (pv 0) pe_int (fun _ _ => rfl)) pe_int)) (by rfl) (by first | exact .inl rfl | exact .inr rfl | assumption))))) (by intro _; rfl)) (@pss_one _ _ _ (@ps_ret _ _ _ _ (@pe_op _ _ _ _ _ _ _ _ op_mod (pv 2) (pv 1)))))), ?_⟩
 have hbits := sm_bits hs
 walk_at "st"
 refine for_range (fun i σ H1 => ∃ (fv : Int) (x : Option V), σ = [some (.ref b), some (.int many), some (.int fv), x] /\ But (Nb b) H H1 /\ BagAt H1 b l) ⟨0, none, rfl, But.refl _ _, hB⟩ ?_ ?_
 ·rintro i σ H1 hi ⟨fv, x, rfl, bt, ns, j, c, st, n, h1, h2, h3, h4, h5, h6, h7, h8, h9⟩
  have hlb := bag_ne h1 h2
  walk_at "st"
  refine ⟨_, _, rfl, bt.trans (But.set rfl), ?_⟩
  exact BagAt.put hlb h2 h3 h4 h5 h6 h7 (zq47x _ (by decide)) (zq48x _ (by decide))
 ·rintro σ H1 ⟨fv, x, rfl, bt, B⟩
  walk_at "st"
  exact q _ _ (zq47x _ (by omega)) (zq48x _ hm) bt B
theorem scLawDraw : FnScope ["bag", "many", "found"] ["bag", "many"] (defScope sLawDraw) := ⟨rfl, rfl, rfl, by decide +kernel, rfl, by decide +kernel, by decide +kernel⟩
theorem ok__law_draw (F : Fun K "_law_draw" "_law_draw" sLawDraw f fd)  (c__law_stirred : Callee P w K mg base "_law_stirred" 1 ["bag", "many"] spDraw) (m_len : mg "len" = none)  :
  FnOk P w K mg base CX0 2 f fd ["bag", "many"] spDraw := by
 refine F.ok scLawDraw (fun vs H Q E h => ?_) (fun cdv A outer s H vs Q E hr h => ?_)
 ·obtain ⟨b, l, many, rfl, hB, hm, hs, q⟩ := h
  rfl
 obtain ⟨b, l, many, rfl, hB, hm, hs, q⟩ := h
 refine ⟨_, (@pss_cons _ _ _ _ _ (@ps_if _ _ _ _ _ _ _ _ (PW.pt (pw_and (@pt_cmpR _ _ _ _ _ _ _ _ op_eq (@pe_ix _ _ _ _ _ _ _ ix_list (pv 0) pe_int (fun _ _ => rfl)) pe_int (nomark _)) (pw_and1 (@pt_cmpR _ _ _ _ _ _ _ _ op_lt (@pe_ix _ _ _ _ _ _ _ ix_list (pv 0) pe_int (fun _ _ => rfl)) (@pe_callB _ _ _ _ _ _ _ _ _ call_len_seq rfl m_len zq32x (@pa_cons _ _ _ _ _ (@pe_ix _ _ _ _ _ _ _ ix_list (pv 0) pe_int (fun _ _ => rfl)) pa_nil rfl) (by decide) (by decide) (by rfl) (by rfl)) (nomark _))))) (@pss_cons _ _ _ _ _ (@ps_asg _ _ _ _ _ _ (@pe_ix _ _ _ _ _ _ _ ix_list (@pe_ix _ _ _ _ _ _ _ ix_list (pv 0) pe_int (fun _ _ => rfl)) (@pe_ix _ _ _ _ _ _ _ ix_list (pv 0) pe_int (fun _ _ => rfl)) (fun _ _ => rfl)) (pg_sub (pv 0) pe_int set_list) (by rfl) (by rfl) (by rfl)) (@pss_one _ _ _ (@ps_asg _ _ _ _ _ _ (@pe_op _ _ _ _ _ _ _ _ op_add (@pe_ix _ _ _ _ _ _ _ ix_list (pv 0) pe_int (fun _ _ => rfl)) pe_int) (pg_sub (pv 0) pe_int set_list) (by rfl) (by rfl) (by rfl)))) (@pss_one _ _ _ (@ps_if _ _ _ _ _ _ _ _ (@pt_cmpR _ _ _ _ _ _ _ _ op_eq (@pe_ix _ _ _ _ _ _ _ ix_list (pv 0) pe_int (fun _ _ => rfl)) pe_int (nomark _)) (@pss_one _ _ _ (@ps_ret _ _ _ _ (@pe_callC _ _ _ _ _ _ _ _ _ _ c__law_stirred (hr.mono (by decide)) (@pa_cons _ _ _ _ _ (pv 0) (@pa_cons _ _ _ _ _ (pv 1) pa_nil rfl) rfl) (by rfl) (by decide) (by rfl) (by rfl)))) pss_nil))) (@pss_cons _ _ _ _ _ (@ps_set _ _ (2) _ _ _ _ scLawDraw.nd rfl (Or.inl rfl) (@pe_op _ _ _ _ _ _ _ _ op_mod (@pe_ix _ _ _ _ _ _ _ ix_list (pv 0) pe_int (fun _ _ => rfl)) (pv 1)) (by rfl) (by first | exact .inl rfl | exact .inr rfl | assumption)) (@pss_cons _ _ _ _ _ (@ps_asg _ _ _ _ _ _ (@pe_op _ _ _ _ _ _ _ _ op_fdivS (@pe_ix _ _ _ _ _ _ _ ix_list (pv 0) pe_int (fun _ _ => rfl)) (pv 1)) (pg_sub (pv 0) pe_int set_list) (by rfl) (by rfl) (by rfl)) (@pss_one _ _ _ (@ps_ret _ _ _ _ (pv 2)))))), ?_⟩
 obtain ⟨ns, i, c, st, n, h1, h2, h3, h4, h5, h6, h7, h8, h9⟩ := id hB
 have hlb := bag_ne h1 h2
 have fin : ∀ (H1 : Hp) (i' c' : Int), H1 b = some (.lst [.ref l, .int i', .int c', .int st, .int n]) -> But (Nb b) H H1 -> 0 <= i' -> 0 <= c' -> c' < 10 ^ 60 ->
   ∀ (H2 : Hp), H2 = upd H1 b (.lst [.ref l, .int i', .int (c' / many), .int st, .int n]) -> Q (.int (c' % many)) H2 := fun H1 i' c' e1 bt g1 g2 g3 H2 e2 => by
  subst e2
  have hd1 : 0 <= c' / many := zq148x g2 (by omega)
  have hd2 : c' / many <= c' := Int.ediv_le_self _ g2
  exact q _ _ (zq47x _ (by omega)) (zq48x _ hm) (bt.trans (But.set rfl)) (BagAt.put hlb (bt _ _ hlb h2) h3 h4 g1 hd1 (by omega) h8 h9)
 walk_at "st"
 refine ite2 (fun c1 => ?_) (fun c1 => ?_)
 ·have c1 : c = 0 := of_decide_eq_true c1
  walk_at "st"
  refine ite2 (fun c2 => ?_) (fun c2 => ?_)
  ·have c2 : i < (List.map V.int ns).length := of_decide_eq_true c2
   rw [zq0x] at c2
   have hi : i.toNat < ns.length := by omega
   obtain ⟨g1, g2⟩ := h3 _ (zq28x hi)
   walk_at "st"
   refine R.ixM h2 (v := .int ns[i.toNat]) (atI_some h5 (by rw [zq2x, zq1x hi]; rfl)) ?_
   walk_at "st"
   refine fin (upd H b (.lst [.ref l, .int (i + 1), .int ns[i.toNat], .int st, .int n])) (i + 1) ns[i.toNat] upd_same (But.set rfl) (by omega) g1 g2 _ ?_
   rw [upd_upd]
   rfl
  ·walk_at "st"
   exact ⟨b, l, many, rfl, hB, hm, hs, q⟩
 ·have c1 : ¬ c = 0 := of_decide_eq_false (Bool.eq_false_iff.mpr c1)
  walk_at "st"
  exact fin H i c h1 (But.refl _ _) h5 h6 h7 _ rfl
def F__law_p : DF := fun ds Φ => ds = [] /\ ∀ (p : Int) (f : Bool), POk p -> Φ f (.int p)
theorem mono__law_p : MonoF F__law_p := by
 intro ds Φ Ψ hm z
 obtain ⟨e, q⟩ := hm
 exact ⟨e, fun p f h => z _ _ (q p f h)⟩
theorem scLawP : FnScope ["bag", "some", "way"] ["bag"] (defScope sLawP) := ⟨rfl, rfl, rfl, by decide +kernel, rfl, by decide +kernel, by decide +kernel⟩
theorem ok__law_p (F : Fun K "_law_p" "_law_p" sLawP f fd)  (c__law_draw : Callee P w K mg base "_law_draw" 2 ["bag", "many"] spDraw)   :
  FnOk P w K mg base CX0 3 f fd ["bag"] (spB 1 F__law_p) := by
 refine F.ok scLawP (fun vs H Q E h => h.1) (fun cdv A outer s H vs Q E hr h => ?_)
 obtain ⟨b, l, ws, nb, ds, Φ, rfl, hB, hlive, hnb, hds, hΦ, hF⟩ := spB_out h
 obtain ⟨rfl, q⟩ := hF
 refine ⟨_, (@pss_cons _ _ _ _ _ (@ps_setInts _ 1 _ _ _ _ _ _ scLawP.nd rfl (Or.inl rfl) rfl (Or.inl rfl)) (@pss_cons _ _ _ _ _ (@ps_set _ _ (1) _ _ _ _ scLawP.nd rfl (Or.inl rfl) (@pe_op _ _ _ _ _ _ _ _ op_cat (pv 1) (@pe_lst _ _ _ _ (@pa_cons _ _ _ _ _ pe_int (@pa_cons _ _ _ _ _ pe_int pa_nil rfl) rfl))) (by rfl) (by first | exact .inl rfl | exact .inr rfl | assumption)) (@pss_cons _ _ _ _ _ (@ps_set _ _ (2) _ _ _ _ scLawP.nd rfl (Or.inl rfl) (@pe_callC _ _ _ _ _ _ _ _ _ _ c__law_draw (hr.mono (by decide)) (@pa_cons _ _ _ _ _ (pv 0) (@pa_cons _ _ _ _ _ pe_int pa_nil rfl) rfl) (by rfl) (by decide) (by rfl) (by rfl)) (by rfl) (by first | exact .inl rfl | exact .inr rfl | assumption)) (@pss_cons _ _ _ _ _ (@ps_if _ _ _ _ _ _ _ _ (@pt_cmpR _ _ _ _ _ _ _ _ op_lt (pv 2) pe_int (nomark _)) (@pss_one _ _ _ (@ps_ret _ _ _ _ (@pe_ix _ _ _ _ _ _ (rIxL K) ix_list (pv 1) (pv 2) (fun _ _ => rfl)))) pss_nil) (@pss_one _ _ _ (@ps_ret _ _ _ _ (@pe_op _ _ _ _ _ _ _ _ op_add pe_int (@pe_callC _ _ _ _ _ _ _ _ _ _ c__law_draw (hr.mono (by decide)) (@pa_cons _ _ _ _ _ (pv 0) (@pa_cons _ _ _ _ _ (@pe_ix _ _ _ _ _ _ (rIxL K) ix_list (@pe_lst _ _ _ _ (@pa_cons _ _ _ _ _ pe_int (@pa_cons _ _ _ _ _ (@pe_op _ _ _ _ _ _ _ _ op_pow pe_int pe_int) (@pa_cons _ _ _ _ _ (@pe_op _ _ _ _ _ _ _ _ op_sub (@pe_op _ _ _ _ _ _ _ _ op_pow pe_int pe_int) pe_int) (@pa_cons _ _ _ _ _ (@pe_op _ _ _ _ _ _ _ _ op_sub (@pe_op _ _ _ _ _ _ _ _ op_pow pe_int pe_int) pe_int) pa_nil rfl) rfl) rfl) rfl)) (@pe_op _ _ _ _ _ _ _ _ op_sub (pv 2) pe_int) (fun _ _ => rfl)) pa_nil rfl) rfl) (by rfl) (by decide) (by rfl) (by rfl))))))))), ?_⟩
 refine Sv.enterB hB hlive hnb hds hΦ (ρ := [.bag, .no, .no]) rfl ?_
 clear hΦ hds
 walk_at "dt"
 intro way w1 w2
 by_cases c : way < 12
 ·walk_at "dt"
  have hL : way.toNat < ([2, 3, 5, 7, 4, 11, 101, 65537, 2147483647, 2305843009213693951, 618970019642690137449562111, 170141183460469231731687303715884105727] : List Int).length := by show way.toNat < 12; omega
  refine ⟨.int ([2, 3, 5, 7, 4, 11, 101, 65537, 2147483647, 2305843009213693951, 618970019642690137449562111, 170141183460469231731687303715884105727] : List Int)[way.toNat], ?_, q _ _ ?_⟩
  ·show atI (List.map PyData.int [2, 3, 5, 7, 4, 11, 101, 65537, 2147483647, 2305843009213693951, 618970019642690137449562111, 170141183460469231731687303715884105727]) way = _
   exact atI_some w1 (by rw [zq2x, zq1x hL]; rfl)
  ·have : ∀ x ∈ ([2, 3, 5, 7, 4, 11, 101, 65537, 2147483647, 2305843009213693951, 618970019642690137449562111, 170141183460469231731687303715884105727] : List Int), 2 <= x /\ x <= 10 ^ 60 := by decide
   exact this _ (zq28x _)
 ·walk_at "dt"
  have hL : (way - 12).toNat < ([300, 10 ^ 20, 10 ^ 60 - 2, 10 ^ 60 - 2] : List Int).length := by show (way - 12).toNat < 4; omega
  have hm : ∀ x ∈ ([300, 10 ^ 20, 10 ^ 60 - 2, 10 ^ 60 - 2] : List Int), 0 < x /\ x <= 10 ^ 60 - 2 := by decide
  obtain ⟨m1, m2⟩ := hm _ (zq28x hL)
  refine ⟨.int ([300, 10 ^ 20, 10 ^ 60 - 2, 10 ^ 60 - 2] : List Int)[(way - 12).toNat], ?_, _, rfl, m1, by unfold Sm; omega, fun r r1 r2 => ⟨r, rfl, q _ _ ⟨by omega, by omega⟩⟩⟩
  show atI (List.map PyData.int [300, 10 ^ 20, 10 ^ 60 - 2, 10 ^ 60 - 2]) (way - 12) = _
  exact atI_some (by omega) (by rw [zq2x, zq1x hL]; rfl)
def F__law_part : DF := fun ds Φ => ∃ p b : Int, ds = [.int p, .int b] /\ POk p /\ ∀ r : Int, 0 <= r -> r < p -> (r ≠ 0 -> ∃ k, b * r = 1 + p * k) -> Φ true (.int r)
theorem mono__law_part : MonoF F__law_part := by
 intro ds Φ Ψ hm z
 obtain ⟨p, b, e, h, q⟩ := hm
 exact ⟨p, b, e, h, fun r a1 a2 a3 => z _ _ (q r a1 a2 a3)⟩
theorem scLawPart : FnScope ["p", "b", "old", "new", "one", "two", "times"] ["p", "b"] (defScope sLawPart) := ⟨rfl, rfl, rfl, by decide +kernel, rfl, by decide +kernel, by decide +kernel⟩
theorem ok__law_part (F : Fun K "_law_part" "_law_part" sLawPart f fd)     :
  FnOk P w K mg base CX0 1 f fd ["p", "b"] (spD 2 F__law_part) := by
 refine F.ok scLawPart (fun vs H Q E h => h.1) (fun cdv A outer s H vs Q E hr h => ?_)
 obtain ⟨nb, ds, Φ, hlive, hds, hΦ, hF⟩ := spD_out h
 obtain ⟨p, b, rfl, ⟨p2, p60⟩, q⟩ := hF
 refine ⟨_, (@pss_cons _ _ _ _ _ (@ps_asg _ _ _ _ _ _ (@pe_tup _ _ _ _ _ (@pa_cons _ _ _ _ _ (@pe_op _ _ _ _ _ _ _ _ op_mod (pv 1) (pv 0)) (@pa_cons _ _ _ _ _ (pv 0) (@pa_cons _ _ _ _ _ pe_int (@pa_cons _ _ _ _ _ pe_int pa_nil rfl) rfl) rfl) rfl)) (@pg_tupM _ (K) _ _ _ (4) _ rfl rfl (@pgs_cons _ _ _ _ _ (pg_name (i := 2) scLawPart.nd rfl (Or.inl rfl)) (@pgs_cons _ _ _ _ _ (pg_name (i := 3) scLawPart.nd rfl (Or.inl rfl)) (@pgs_cons _ _ _ _ _ (pg_name (i := 4) scLawPart.nd rfl (Or.inl rfl)) (@pgs_cons _ _ _ _ _ (pg_name (i := 5) scLawPart.nd rfl (Or.inl rfl)) pgs_nil (by rfl)) (by rfl)) (by rfl)) (by rfl)) (by rfl) (by rfl)) (by rfl) (by rfl) (by rfl)) (@pss_cons _ _ _ _ _ (@ps_while _ _ _ _ _ _ zq36x (@pt_cmpR _ _ _ _ _ _ _ _ op_ne (pv 3) pe_int (nomark _)) (@pss_cons _ _ _ _ _ (@ps_set _ _ (6) _ _ _ _ scLawPart.nd rfl (Or.inl rfl) (@pe_op _ _ _ _ _ _ _ _ op_fdivS (pv 2) (pv 3)) (by rfl) (by first | exact .inl rfl | exact .inr rfl | assumption)) (@pss_one _ _ _ (@ps_asg _ _ _ _ _ _ (@pe_tup _ _ _ _ _ (@pa_cons _ _ _ _ _ (pv 3) (@pa_cons _ _ _ _ _ (@pe_op _ _ _ _ _ _ _ _ op_sub (pv 2) (@pe_op _ _ _ _ _ _ _ _ op_mulA (pv 6) (pv 3))) (@pa_cons _ _ _ _ _ (pv 5) (@pa_cons _ _ _ _ _ (@pe_op _ _ _ _ _ _ _ _ op_sub (pv 4) (@pe_op _ _ _ _ _ _ _ _ op_mulA (pv 6) (pv 5))) pa_nil rfl) rfl) rfl) rfl)) (@pg_tupM _ (K) _ _ _ (4) _ rfl rfl (@pgs_cons _ _ _ _ _ (pg_name (i := 2) scLawPart.nd rfl (Or.inl rfl)) (@pgs_cons _ _ _ _ _ (pg_name (i := 3) scLawPart.nd rfl (Or.inl rfl)) (@pgs_cons _ _ _ _ _ (pg_name (i := 4) scLawPart.nd rfl (Or.inl rfl)) (@pgs_cons _ _ _ _ _ (pg_name (i := 5) scLawPart.nd rfl (Or.inl rfl)) pgs_nil (by rfl)) (by rfl)) (by rfl)) (by rfl)) (by rfl) (by rfl)) (by rfl) (by rfl) (by rfl))))) (@pss_one _ _ _ (@ps_ret _ _ _ _ (@pe_ifExp _ _ _ _ _ _ _ _ (@pt_cmpR _ _ _ _ _ _ _ _ op_eq (pv 2) pe_int (nomark _)) (@pe_op _ _ _ _ _ _ _ _ op_mod (pv 4) (pv 0)) pe_int))))), ?_⟩
 refine Sv.enterD hlive hds hΦ (ρ := [.d false _, .d false _, .no, .no, .no, .no, .no]) rfl ?_
 clear hΦ hds
 have m1 := zq47x b (show p ≠ 0 by omega)
 have m2 := zq48x b (show 0 < p by omega)
 walk_at "dt"
 show Gvs _ _ _ _ [PyData.int (b % p), .int p, .int 1, .int 0] _
 walk_at "dt"
 refine Sv.while_ (fun ρ => ∃ (L lt r t : Int) (x6 : Sl), ρ = [.d false (.int p), .d false (.int b), .d true (.int L), .d true (.int r), .d true (.int lt), .d true (.int t), x6] /\ ((L = b % p /\ r = p /\ lt = 1 /\ t = 0) \/ Eu p b L lt r t)) (fun ρ : Rh => match ρ[3]? with | some (Sl.d _ (PyData.int r)) => r.toNat | _ => 0) ⟨_, _, _, _, _, rfl, .inl ⟨rfl, rfl, rfl, rfl⟩⟩ ?_
 rintro ρ ⟨L, lt, r, t, x6, rfl, hI⟩
 by_cases c : r = 0
 ·rcases hI with ⟨_, h, _, _⟩ | hE
  ·omega
  subst c
  walk_at "dt"
  by_cases c1 : L = 1
  ·subst c1
   walk_at "dt"
   exact q _ (zq47x _ (by omega)) (zq48x _ (by omega)) fun _ => hE.one p2
  ·walk_at "dt"
   exact q 0 (by omega) (by omega) fun h => absurd rfl h
 ·rcases hI with ⟨rfl, rfl, rfl, rfl⟩ | hE
  ·have e0 : b % r / r = 0 := Int.ediv_eq_zero_of_lt m1 m2
   walk_at "dt"
   show Gvs _ _ _ _ [PyData.int r, .int (b % r - b % r / r * r), .int 0, .int (1 - b % r / r * 0)] _
   rw [e0]
   walk_at "dt"
   refine ⟨⟨_, _, _, _, _, rfl, .inr ?_⟩, ?_⟩
   ·rw [zq98x, zq161x, Int.mul_zero, zq161x]
    exact Eu.start p2
   ·show (b % r - 0 * r).toNat < r.toNat
    rw [zq98x]; omega
  ·obtain ⟨t1, t2⟩ := hE.tb
   have e1 := hE.l0
   have e2 := hE.r0
   have e3 := hE.lp
   have e4 := hE.rp
   have hr : 0 < r := by omega
   have q1 : 0 <= L / r := zq148x (by omega) (by omega)
   have q2 : L / r <= L := Int.ediv_le_self _ (by omega)
   obtain ⟨N1, N2⟩ := hE.next hr
   walk_at "dt"
   show Gvs _ _ _ _ [PyData.int r, .int (L - L / r * r), .int t, .int (lt - L / r * t)] _
   walk_at "dt"
   exact ⟨⟨_, _, _, _, _, rfl, .inr N1⟩, by show (L - L / r * r).toNat < r.toNat; omega⟩
def F__law_sum : DF := fun ds Φ => ∃ (p : Int) (prs : Prs) (wd : Wo), ds = [.int p, prsD prs, woD wd] /\ 0 < p /\ prs.length <= 10000 /\ PrsOk prs wd.length /\ WoOk wd /\ Φ true (.int (dueSum prs wd % p))
theorem mono__law_sum : MonoF F__law_sum := by
 intro ds Φ Ψ hm z
 obtain ⟨p, prs, wd, e, h1, h2, h3, h4, q⟩ := hm
 exact ⟨p, prs, wd, e, h1, h2, h3, h4, z _ _ q⟩
theorem scLawSum : FnScope ["p", "pairs", "word"] ["p", "pairs", "word"] (defScope sLawSum) := ⟨rfl, rfl, rfl, by decide +kernel, rfl, by decide +kernel, by decide +kernel⟩
theorem ok__law_sum (F : Fun K "_law_sum" "_law_sum" sLawSum f fd)   (m_sum : mg "sum" = none)  :
    FnOk P w K mg base CX0 1 f fd ["p", "pairs", "word"] (spD 3 F__law_sum) := by
  refine F.ok scLawSum (fun vs H Q E h => h.1) (fun cdv A outer s H vs Q E hr h => ?_)
  obtain ⟨nb, ds, Φ, hlive, hds, hΦ, hF⟩ := spD_out h
  obtain ⟨p, prs, wd, rfl, hp, hl, h1, h2, q⟩ := hF
  refine ⟨_, (@pss_one _ _ _ (@ps_ret _ _ _ _ (@pe_op _ _ _ _ _ _ _ _ op_mod (@pe_callB _ _ _ _ _ _ _ _ (rSum K) (call_sumM rfl) rfl m_sum PyProof.Rows.boot_sum (@pa_cons _ _ _ _ _ (pe_lcomp (CompOk.of (show compOkB (defScope sLawSum) ["p", "pairs", "word"] _ ["place", "factor", "word"] [none, none, some 2] = true by decide +kernel)) (pi_listK (K := K) rfl (pv 1)) (fun _ _ _ _ => ⟨(@pg_tupM _ (K) _ _ _ (2) _ rfl rfl (@pgs_cons _ _ _ _ _ (pg_name (i := 0) (by show List.Nodup (["place", "factor", "word"] : List Str); decide +kernel) rfl (Or.inl rfl)) (@pgs_cons _ _ _ _ _ (pg_name (i := 1) (by show List.Nodup (["place", "factor", "word"] : List Str); decide +kernel) rfl (Or.inl rfl)) pgs_nil (by rfl)) (by rfl)) (by rfl) (by rfl)), (pts_one (@pt_cmpR _ _ _ _ _ _ _ _ op_notM (@pe_ix _ _ _ _ _ _ (rIxL K) ix_list (pv 2) (pv 0) (fun _ _ => rfl)) pe_non (nomark _))), (@pe_op _ _ _ _ _ _ _ _ op_mulA (pv 1) (@pe_ix _ _ _ _ _ _ (rIxL K) ix_list (pv 2) (pv 0) (fun _ _ => rfl)))⟩)) pa_nil rfl) (by decide) (by decide) (by rfl) (by rfl)) (pv 0)))), ?_⟩
  refine Sv.enterD hlive hds hΦ (ρ := [.d false _, .d false _, .d false _]) rfl ?_
  clear hΦ hds
  walk_at "dt"
  refine EvN.ev (EvN.compL (by decide) rfl ?_)
  walk_at "dt"
  refine ⟨by rw [zq0x]; exact hl, fun v => ⟨false, fun i ds => ∃ ns : List Int, ds = ns.map .int /\ ns.sum = dueSum (prs.take i) wd, ⟨[], rfl, by simp [dueSum]⟩, ?_, ?_⟩⟩
  · rintro i d ds hd hl' ⟨ns, rfl, hs⟩
    obtain ⟨pr, hpr, rfl⟩ := map_at hd
    obtain ⟨g1, g2, g3⟩ := h1 pr (zq4x hpr)
    obtain ⟨o, ho, hat⟩ := atI_nat' (xs := wd) optD g1 g2 rfl
    have hi : i < prs.length := (zq5x.mp hpr).1
    have hsn := dueSum_snoc (wd := wd) hi
    have hpe : prs[i] = pr := (zq5x.mp hpr).2
    rw [hpe] at hsn
    walk_at "dt"
    refine ⟨by walk_at "wk", ?_⟩
    walk_at "dt"
    rw [isN_opt]
    cases o with
    | none =>
      walk_at "dt"
      refine ⟨ns, rfl, ?_⟩
      rw [hsn, hs]
      unfold termOf
      rw [ho]; simp
    | some x =>
      have hx : Sm x := h2 x (zq4x ho)
      have hat' : atI (wd.map optD) pr.1 = some (.int x) := hat
      walk_at "dt"
      refine ⟨ns ++ [pr.2 * x], by simp, ?_⟩
      rw [hsn, zq147x, hs]
      unfold termOf
      rw [ho]; simp
  · rintro ds hl' ⟨ns, rfl, hs⟩
    rw [zq0x, zq62x] at hs
    refine ⟨ns, rfl, ?_⟩
    rw [hs]
    walk_at "dt"
    exact q
def F__law_letters : DF := fun ds Φ => ∃ p n : Int, ds = [.int p, .int n] /\ POk p /\ 0 <= n /\ n <= 10000 /\ ∀ os : List Int, (os.length : Int) = n -> (∀ x ∈ os, 0 <= x /\ x < p) -> Φ true (.list (os.map .int))
theorem mono__law_letters : MonoF F__law_letters := by
 intro ds Φ Ψ hm z
 obtain ⟨p, n, e, h1, h2, h3, q⟩ := hm
 exact ⟨p, n, e, h1, h2, h3, fun os a b => z _ _ (q os a b)⟩
theorem scLawLetters : FnScope ["bag", "p", "n", "way"] ["bag", "p", "n"] (defScope sLawLetters) := ⟨rfl, rfl, rfl, by decide +kernel, rfl, by decide +kernel, by decide +kernel⟩
theorem ok__law_letters (F : Fun K "_law_letters" "_law_letters" sLawLetters f fd)  (c__law_draw : Callee P w K mg base "_law_draw" 2 ["bag", "many"] spDraw) (m_range : mg "range" = none) (m_int : mg "int" = none) (m_min : mg "min" = none)  :
  FnOk P w K mg base CX0 3 f fd ["bag", "p", "n"] (spB 3 F__law_letters) := by
 refine F.ok scLawLetters (fun vs H Q E h => h.1) (fun cdv A outer s H vs Q E hr h => ?_)
 obtain ⟨b, l, ws, nb, ds, Φ, rfl, hB, hlive, hnb, hds, hΦ, hF⟩ := spB_out h
 obtain ⟨p, n, rfl, ⟨p2, p60⟩, n0, n1, q⟩ := hF
 refine ⟨_, (@pss_cons _ _ _ _ _ (@ps_set _ _ (3) _ _ _ _ scLawLetters.nd rfl (Or.inr rfl) (@pe_callC _ _ _ _ _ _ _ _ _ _ c__law_draw (hr.mono (by decide)) (@pa_cons _ _ _ _ _ (pv 0) (@pa_cons _ _ _ _ _ pe_int pa_nil rfl) rfl) (by rfl) (by decide) (by rfl) (by rfl)) (by rfl) (by first | exact .inl rfl | exact .inr rfl | assumption)) (@pss_cons _ _ _ _ _ (@ps_if _ _ _ _ _ _ _ _ (@pt_cmpR _ _ _ _ _ _ _ _ op_eq (pv 3) pe_int (nomark _)) (@pss_one _ _ _ (@ps_ret _ _ _ _ (pe_lcomp (CompOk.of (show compOkB (defScope sLawLetters) ["bag", "p", "n", "way"] _ ["k", "bag", "p"] [none, some 0, some 1] = true by decide +kernel)) (@pi_range1 _ _ _ _ _ _ rfl m_range (@pa_cons _ _ _ _ _ (pv 2) pa_nil rfl) (by rfl)) (fun _ _ _ _ => ⟨(pg_name (i := 0) (by show List.Nodup (["k", "bag", "p"] : List Str); decide +kernel) rfl (Or.inl rfl)), pts_nil, (@pe_op _ _ _ _ _ _ _ _ op_mulA (@pe_callC _ _ _ _ _ _ _ _ _ _ c__law_draw (hr.mono (by decide)) (@pa_cons _ _ _ _ _ (pv 1) (@pa_cons _ _ _ _ _ (pv 2) pa_nil rfl) rfl) (by rfl) (by decide) (by rfl) (by rfl)) (@pe_callTy _ _ _ _ _ _ _ _ _ call_intM rfl m_int zq171x (@pa_cons _ _ _ _ _ (@pe_cmpR _ _ _ _ _ _ _ _ op_eq (@pe_callC _ _ _ _ _ _ _ _ _ _ c__law_draw (hr.mono (by decide)) (@pa_cons _ _ _ _ _ (pv 1) (@pa_cons _ _ _ _ _ pe_int pa_nil rfl) rfl) (by rfl) (by decide) (by rfl) (by rfl)) pe_int (nomark _)) pa_nil rfl) (by decide) (by decide) (by rfl) (by rfl)))⟩)))) pss_nil) (@pss_one _ _ _ (@ps_ret _ _ _ _ (pe_lcomp (CompOk.of (show compOkB (defScope sLawLetters) ["bag", "p", "n", "way"] _ ["k", "bag", "p", "way"] [none, some 0, some 1, some 3] = true by decide +kernel)) (@pi_range1 _ _ _ _ _ _ rfl m_range (@pa_cons _ _ _ _ _ (pv 2) pa_nil rfl) (by rfl)) (fun _ _ _ _ => ⟨(pg_name (i := 0) (by show List.Nodup (["k", "bag", "p", "way"] : List Str); decide +kernel) rfl (Or.inl rfl)), pts_nil, (@pe_callC _ _ _ _ _ _ _ _ _ _ c__law_draw (hr.mono (by decide)) (@pa_cons _ _ _ _ _ (pv 1) (@pa_cons _ _ _ _ _ (@pe_ix _ _ _ _ _ _ (rIxL K) ix_list (@pe_lst _ _ _ _ (@pa_cons _ _ _ _ _ (pv 2) (@pa_cons _ _ _ _ _ (@pe_callB _ _ _ _ _ _ _ _ _ (call_minM rfl) rfl m_min zq195x (@pa_cons _ _ _ _ _ (pv 2) (@pa_cons _ _ _ _ _ pe_int pa_nil rfl) rfl) (by decide) (by decide) (by rfl) (by rfl)) pa_nil rfl) rfl)) (pv 3) (fun _ _ => rfl)) pa_nil rfl) rfl) (by rfl) (by decide) (by rfl) (by rfl))⟩)))))), ?_⟩
 refine Sv.enterB hB hlive hnb hds hΦ (ρ := [.bag, .d false _, .d false _, .no]) rfl ?_
 clear hΦ hds
 walk_at "dt"
 intro way w1 w2
 by_cases c : way = 2
 ·walk_at "dt"
  refine EvN.ev (EvN.compR1 (by decide) rfl ?_)
  walk_at "dt"
  refine CompD.ints (fun x => 0 <= x /\ x < p) ?_ fun os hol hos => q os (by omega) hos
  rintro i d ⟨hi, rfl⟩
  walk_at "dt"
  refine ⟨by walk_at "wk", ?_⟩
  walk_at "dt"
  intro r r1 r2
  walk_at "dt"
  intro s s1 s2
  by_cases c2 : s = 3
  ·walk_at "dt"
   rw [decide_eq_true c2]
   exact ⟨by simp; omega, by simp; omega⟩
  ·walk_at "dt"
   rw [decide_eq_false c2]
   exact ⟨by simp, by simp; omega⟩
 ·obtain ⟨m, em, m1, m2⟩ : ∃ m : Int, atI [PyData.int p, .int (if 3 < p then 3 else p)] way = some (.int m) /\ 1 <= m /\ m <= p := by
   rcases (show way = 0 \/ way = 1 by omega) with rfl | rfl
   ·exact ⟨p, rfl, by omega, by omega⟩
   ·exact ⟨_, rfl, by split <;> omega, by split <;> omega⟩
  walk_at "dt"
  refine EvN.ev (EvN.compR1 (by decide) rfl ?_)
  walk_at "dt"
  refine CompD.ints (fun x => 0 <= x /\ x < p) ?_ fun os hol hos => q os (by omega) hos
  rintro i d ⟨hi, rfl⟩
  walk_at "dt"
  refine ⟨by walk_at "wk", ?_⟩
  walk_at "dt"
  exact fun r r1 r2 => ⟨r, rfl, r1, by omega⟩
def F__law_true_pairs : DF := fun ds Φ => ∃ (p : Int) (rs wd : List Int), ds = [.int p, .list (rs.map .int), .list (wd.map .int)] /\ POk p /\ rs.Pairwise (· < ·) /\ (∀ x ∈ rs, 0 <= x /\ x < wd.length) /\ 0 < rs.length /\ rs.length < 64 /\ wd.length <= 1000 /\ (∀ x ∈ wd, 0 <= x /\ x < p) /\
 ∀ (prs : Prs) (f : Bool), PrsT prs wd p -> Φ f (prsD prs)
theorem mono__law_true_pairs : MonoF F__law_true_pairs := by
 intro ds Φ Ψ hm z
 obtain ⟨p, rs, wd, e, h1, h2, h3, h4, h5, h6, h7, q⟩ := hm
 exact ⟨p, rs, wd, e, h1, h2, h3, h4, h5, h6, h7, fun prs f h => z _ _ (q prs f h)⟩
theorem scLawTruePairs : FnScope ["bag", "p", "row", "word", "pairs", "first", "k", "at", "part", "rest", "last"] ["bag", "p", "row", "word"] (defScope sLawTruePairs) := ⟨rfl, rfl, rfl, by decide +kernel, rfl, by decide +kernel, by decide +kernel⟩
theorem ok__law_true_pairs (F : Fun K "_law_true_pairs" "_law_true_pairs" sLawTruePairs f fd)  (c__law_draw : Callee P w K mg base "_law_draw" 2 ["bag", "many"] spDraw) (c__law_part : Callee P w K mg base "_law_part" 1 ["p", "b"] (spD 2 F__law_part)) (c__law_sum : Callee P w K mg base "_law_sum" 1 ["p", "pairs", "word"] (spD 3 F__law_sum)) (m_range : mg "range" = none) (m_len : mg "len" = none)  :
  FnOk P w K mg base CX0 3 f fd ["bag", "p", "row", "word"] (spB 4 F__law_true_pairs) := by
 refine F.ok scLawTruePairs (fun vs H Q E h => h.1) (fun cdv A outer s H vs Q E hr h => ?_)
 obtain ⟨b, l, ws, nb, ds, Φ, rfl, hB, hlive, hnb, hds, hΦ, hF⟩ := spB_out h
 obtain ⟨p, rs, wd, rfl, ⟨p2, p60⟩, hrs, hrs0, hrl, hrl2, hwl, hwd, q⟩ := hF
 refine ⟨_, (@pss_cons _ _ _ _ _ (ps_setC (i := 4) scLawTruePairs.nd rfl rfl (CompOk.of (show compOkB (defScope sLawTruePairs) ["bag", "p", "row", "word", "pairs", "first", "k", "at", "part", "rest", "last"] _ ["place", "bag", "p"] [none, some 0, some 1] = true by decide +kernel)) (pi_listK (K := K) rfl (pv 2)) (fun _ _ _ _ => ⟨(pg_name (i := 0) (by show List.Nodup (["place", "bag", "p"] : List Str); decide +kernel) rfl (Or.inl rfl)), pts_nil, (@pe_tup _ _ _ _ _ (@pa_cons _ _ _ _ _ (pv 0) (@pa_cons _ _ _ _ _ (@pe_op _ _ _ _ _ _ _ _ op_add pe_int (@pe_callC _ _ _ _ _ _ _ _ _ _ c__law_draw (hr.mono (by decide)) (@pa_cons _ _ _ _ _ (pv 1) (@pa_cons _ _ _ _ _ (@pe_op _ _ _ _ _ _ _ _ op_sub (pv 2) pe_int) pa_nil rfl) rfl) (by rfl) (by decide) (by rfl) (by rfl))) pa_nil rfl) rfl))⟩)) (@pss_cons _ _ _ _ _ (@ps_set _ _ (5) _ _ _ _ scLawTruePairs.nd rfl (Or.inl rfl) (@pe_callC _ _ _ _ _ _ _ _ _ _ c__law_draw (hr.mono (by decide)) (@pa_cons _ _ _ _ _ (pv 0) (@pa_cons _ _ _ _ _ (@pe_callB _ _ _ _ _ _ _ _ (rLen K) call_lenM rfl m_len zq32x (@pa_cons _ _ _ _ _ (pv 2) pa_nil rfl) (by decide) (by decide) (by rfl) (by rfl)) pa_nil rfl) rfl) (by rfl) (by decide) (by rfl) (by rfl)) (by rfl) (by first | exact .inl rfl | exact .inr rfl | assumption)) (@pss_cons _ _ _ _ _ (@ps_for _ _ _ _ _ _ _ _ zq36x rfl (@pi_range1 _ _ _ _ _ _ rfl m_range (@pa_cons _ _ _ _ _ (@pe_callB _ _ _ _ _ _ _ _ (rLen K) call_lenM rfl m_len zq32x (@pa_cons _ _ _ _ _ (pv 2) pa_nil rfl) (by decide) (by decide) (by rfl) (by rfl)) pa_nil rfl) (by rfl)) (pg_name (i := 6) scLawTruePairs.nd rfl (Or.inl rfl)) (@pss_cons _ _ _ _ _ (@ps_set _ _ (7) _ _ _ _ scLawTruePairs.nd rfl (Or.inl rfl) (@pe_op _ _ _ _ _ _ _ _ op_mod (@pe_op _ _ _ _ _ _ _ _ op_add (pv 5) (pv 6)) (@pe_callB _ _ _ _ _ _ _ _ (rLen K) call_lenM rfl m_len zq32x (@pa_cons _ _ _ _ _ (pv 2) pa_nil rfl) (by decide) (by decide) (by rfl) (by rfl))) (by rfl) (by first | exact .inl rfl | exact .inr rfl | assumption)) (@pss_cons _ _ _ _ _ (@ps_set _ _ (8) _ _ _ _ scLawTruePairs.nd rfl (Or.inl rfl) (@pe_callC _ _ _ _ _ _ _ _ _ _ c__law_part (hr.mono (by decide)) (@pa_cons _ _ _ _ _ (pv 1) (@pa_cons _ _ _ _ _ (@pe_ix _ _ _ _ _ _ (rIxL K) ix_list (pv 3) (@pe_ix _ _ _ _ _ _ (rIxL K) ix_list (pv 2) (pv 7) (fun _ _ => rfl)) (fun _ _ => rfl)) pa_nil rfl) rfl) (by rfl) (by decide) (by rfl) (by rfl)) (by rfl) (by first | exact .inl rfl | exact .inr rfl | assumption)) (@pss_one _ _ _ (@ps_if _ _ _ _ _ _ _ _ (@pt_cmpR _ _ _ _ _ _ _ _ op_ne (pv 8) pe_int (nomark _)) (@pss_cons _ _ _ _ _ (@ps_set _ _ (9) _ _ _ _ scLawTruePairs.nd rfl (Or.inr rfl) (@pe_callC _ _ _ _ _ _ _ _ _ _ c__law_sum (hr.mono (by decide)) (@pa_cons _ _ _ _ _ (pv 1) (@pa_cons _ _ _ _ _ (@pe_op _ _ _ _ _ _ _ _ op_cat (@pe_slice _ _ _ _ _ _ _ _ _ (rSlL K) sl_list (pv 4) po_none (@po_some _ _ _ (pv 7))) (@pe_slice _ _ _ _ _ _ _ _ _ (rSlL K) sl_list (pv 4) (@po_some _ _ _ (@pe_op _ _ _ _ _ _ _ _ op_add (pv 7) pe_int)) po_none)) (@pa_cons _ _ _ _ _ (pv 3) pa_nil rfl) rfl) rfl) (by rfl) (by decide) (by rfl) (by rfl)) (by rfl) (by first | exact .inl rfl | exact .inr rfl | assumption)) (@pss_cons _ _ _ _ _ (@ps_set _ _ (10) _ _ _ _ scLawTruePairs.nd rfl (Or.inl rfl) (@pe_lst _ _ _ _ (@pa_cons _ _ _ _ _ (@pe_tup _ _ _ _ _ (@pa_cons _ _ _ _ _ (@pe_ix _ _ _ _ _ _ (rIxL K) ix_list (pv 2) (pv 7) (fun _ _ => rfl)) (@pa_cons _ _ _ _ _ (@pe_op _ _ _ _ _ _ _ _ op_mod (@pe_op _ _ _ _ _ _ _ _ op_mulA (@pe_op _ _ _ _ _ _ _ _ op_sub pe_int (pv 9)) (pv 8)) (pv 1)) pa_nil rfl) rfl)) pa_nil rfl)) (by rfl) (by first | exact .inl rfl | exact .inr rfl | assumption)) (@pss_one _ _ _ (@ps_ret _ _ _ _ (@pe_op _ _ _ _ _ _ _ _ op_cat (@pe_op _ _ _ _ _ _ _ _ op_cat (@pe_slice _ _ _ _ _ _ _ _ _ (rSlL K) sl_list (pv 4) po_none (@po_some _ _ _ (pv 7))) (pe_lcomp (CompOk.of (show compOkB (defScope sLawTruePairs) ["bag", "p", "row", "word", "pairs", "first", "k", "at", "part", "rest", "last"] _ ["pair", "rest"] [none, some 9] = true by decide +kernel)) (pi_listK (K := K) rfl (pv 10)) (fun _ _ _ _ => ⟨(pg_name (i := 0) (by show List.Nodup (["pair", "rest"] : List Str); decide +kernel) rfl (Or.inl rfl)), (pts_one (@pt_cmpR _ _ _ _ _ _ _ _ op_ne (pv 1) pe_int (nomark _))), (pv 0)⟩))) (@pe_slice _ _ _ _ _ _ _ _ _ (rSlL K) sl_list (pv 4) (@po_some _ _ _ (@pe_op _ _ _ _ _ _ _ _ op_add (pv 7) pe_int)) po_none)))))) pss_nil)))) (by intro _; rfl)) (@pss_one _ _ _ (@ps_ret _ _ _ _ (@pe_ifExp _ _ _ _ _ _ _ _ (@pt_cmpR _ _ _ _ _ _ _ _ op_eq (@pe_callC _ _ _ _ _ _ _ _ _ _ c__law_sum (hr.mono (by decide)) (@pa_cons _ _ _ _ _ (pv 1) (@pa_cons _ _ _ _ _ (pv 4) (@pa_cons _ _ _ _ _ (pv 3) pa_nil rfl) rfl) rfl) (by rfl) (by decide) (by rfl) (by rfl)) pe_int (nomark _)) (pv 4) (@pe_lst _ _ _ _ pa_nil))))))), ?_⟩
 refine Sv.enterB hB hlive hnb hds hΦ (ρ := [.bag, .d false _, .d false _, .d false _, .no, .no, .no, .no, .no, .no, .no]) rfl ?_
 clear hΦ hds
 walk_at "dt"
 refine EvN.ev (EvN.compL (by decide) rfl ?_)
 walk_at "dt"
 refine ⟨by rw [zq0x]; omega, fun v => CompD.rel pairD true (fun i pr => rs[i]? = some pr.1 /\ 1 <= pr.2 /\ pr.2 < p) ?_ fun prs hpl hprs => ?_⟩
 ·rintro i d hd
  obtain ⟨x, hx, rfl⟩ := map_at hd
  walk_at "dt"
  refine ⟨by walk_at "wk", ?_⟩
  walk_at "dt"
  intro r r1 r2
  walk_at "dt"
  exact ⟨fun _ => rfl, (x, 1 + r), rfl, hx, by show 1 <= 1 + r; omega, by show 1 + r < p; omega⟩
 rw [zq0x] at hpl
 have hmap : prs.map (·.1) = rs := by
  apply zq35x
  intro i
  rw [zq2x]
  by_cases hi : i < prs.length
  ·have := hprs i _ (zq1x hi)
   rw [zq1x hi]; exact this.1.symm
  ·rw [zq13x (by omega), zq13x (by omega)]; rfl
 have hpw : prs.Pairwise fun a b => a.1 < b.1 := zq49x.mp (hmap ▸ hrs)
 have hpo : ∀ pr ∈ prs, 0 <= pr.1 /\ pr.1 < wd.length /\ 1 <= pr.2 /\ pr.2 < p := fun pr hpr => by
  have h1 := hrs0 pr.1 (hmap ▸ zq9x.mpr ⟨pr, hpr, rfl⟩)
  obtain ⟨k, hk⟩ := zq34x hpr
  have h2 := hprs k pr hk
  exact ⟨h1.1, h1.2, h2.2⟩
 have hwo : WoOk (wd.map some) := fun x hx => by
  obtain ⟨y, hy, e⟩ := zq9x.mp hx
  cases e
  have := hwd x hy
  unfold Sm; omega
 have hwD : wd.map PyData.int = (wd.map some).map optD := by rw [zq71x]; rfl
 have hlm : (rs.map PyData.int).length = rs.length := zq0x ..
 have hlp : (prs.map pairD).length = prs.length := zq0x ..
 walk_at "dt"
 intro f0 f1 f2
 walk_at "dt"
 refine Sv.forR1 ?_
 walk_at "dt"
 refine ⟨fun _ ρ => ∃ x6 x7 x8 x9 x10 : Sl, ρ = [.bag, .d false (.int p), .d false (.list (rs.map .int)), .d false (.list (wd.map .int)), .d false (prsD prs), .d true (.int f0), x6, x7, x8, x9, x10], ⟨_, _, _, _, _, rfl⟩, ?_, ?_⟩
 ·rintro i d ρ ⟨hi, rfl⟩ ⟨x6, x7, x8, x9, x10, rfl⟩
  have hA0 := zq47x (f0 + (0 + (i : Int))) (show ((rs.map PyData.int).length : Int) ≠ 0 by omega)
  have hA1 := zq48x (f0 + (0 + (i : Int))) (show 0 < ((rs.map PyData.int).length : Int) by omega)
  obtain ⟨x, ex, hat1⟩ := atI_nat' (xs := rs) PyData.int hA0 (m := rs.length) (by omega) rfl
  obtain ⟨g1, g2⟩ := hrs0 x (zq4x ex)
  obtain ⟨y, ey, hat2⟩ := atI_nat' (xs := wd) PyData.int g1 g2 rfl
  walk_at "dt"
  refine Ev.callD mono__law_part ?_
  walk_at "dt"
  refine ⟨rfl, p, y, rfl, ⟨p2, p60⟩, fun r r1 r2 hr => ?_⟩
  generalize hAe : (f0 + (0 + (i : Int))) % ((rs.map PyData.int).length : Int) = A at *
  by_cases c : r = 0
  ·walk_at "dt"
   exact ⟨_, _, _, _, _, rfl⟩
  ·have hk := hr c
   have hA : A.toNat < prs.length := by omega
   have c1 : cutA (prs.map pairD) none (some A) = (prs.take A.toNat).map pairD := by rw [cut_to hA0 (by omega), List.map_take]
   have c2 : cutA (prs.map pairD) (some (A + 1)) none = (prs.drop (A.toNat + 1)).map pairD := by rw [cut_from (by omega) (by omega), List.map_drop, show (A + 1).toNat = A.toNat + 1 by omega]
   have l1 := cut_len (xs := prs.map pairD) (lo := none) (hi := some A)
   have l2 := cut_len (xs := prs.map pairD) (lo := some (A + 1)) (hi := none)
   have hsub : ∀ pr ∈ prs.take A.toNat ++ prs.drop (A.toNat + 1), pr ∈ prs := fun pr h => by
    rcases zq29x.mp h with h | h
    ·exact zq168x h
    ·exact zq196x h
   walk_at "dt"
   refine Ev.callD mono__law_sum ?_
   walk_at "dt"
   refine ⟨rfl, p, prs.take A.toNat ++ prs.drop (A.toNat + 1), wd.map some, by show [_, PyData.list (_ ++ _), PyData.list _] = _; rw [c1, c2, hwD, <- zq21x], by omega, by rw [zq20x, zq58x, zq89x]; omega, fun pr h => ?_, hwo, ?_⟩
   ·have := hpo pr (hsub pr h)
    exact ⟨this.1, by rw [zq0x]; exact this.2.1, by unfold Sm; omega⟩
   generalize hS : dueSum (prs.take A.toNat ++ prs.drop (A.toNat + 1)) (wd.map some) = S
   have s0 := zq47x S (show p ≠ 0 by omega)
   have s1 := zq48x S (show 0 < p by omega)
   have hfit := fit (S := S) (show 0 < p by omega) hk
   have hx1 : (prs[A.toNat]).1 = x := by
    have := hprs A.toNat _ (zq1x hA)
    rw [ex] at this; exact (zq37x this.1).symm
   have epr : prs = prs.take A.toNat ++ prs[A.toNat] :: prs.drop (A.toNat + 1) := (zq197x A.toNat prs).symm.trans (by rw [List.drop_eq_getElem_cons hA])
   have hsl : List.Sublist (prs.take A.toNat ++ prs.drop (A.toNat + 1)) prs := by
    conv => rhs; rw [<- zq197x A.toNat prs]
    exact List.Sublist.append_left (List.drop_sublist_drop_left _ (zq54x _)) _
   walk_at "dt"
   refine EvN.ev (EvN.compL (by decide) rfl ?_)
   walk_at "dt"
   refine fun v => ⟨false, fun i ds => ds = if i = 0 \/ S % p = 0 then [] else [pairD (x, (0 - S % p) * r % p)], by simp, ?_, ?_⟩
   ·rintro j d ds hd hl' rfl
    have hj : j = 0 := by
     have := (zq5x.mp hd).1
     exact Nat.lt_one_iff.mp this
    subst hj
    have hd' : d = pairD (x, (0 - S % p) * r % p) := (zq37x hd).symm
    subst hd'
    by_cases cR : S % p = 0
    ·walk_at "dt"
     refine ⟨by walk_at "wk", ?_⟩
     walk_at "dt"
     simp [cR]
    ·walk_at "dt"
     refine ⟨by walk_at "wk", ?_⟩
     walk_at "dt"
     show _ = ite _ _ _
     rw [if_pos (Or.inl rfl), if_neg (by
      rintro (h | h)
      ·cases h
      ·exact cR h)]
     rfl
   rintro ds hl' rfl
   by_cases cR : S % p = 0
   ·refine ⟨[], by rw [if_pos (Or.inr cR)], by simp only [zq157x]; omega, _, rfl, ?_⟩
    walk_at "dt"
    refine ⟨by rw [zq87x]; omega, ?_⟩
    rw [zq87x, c1, c2, <- zq21x]
    exact q _ _ ⟨hpw.sublist hsl, by rw [zq20x, zq58x, zq89x]; omega, fun pr h => hpo pr (hsub pr h), by rw [hS]; exact cR⟩
   ·have hF := fit_pos p2 hk cR
    refine ⟨[pairD (x, (0 - S % p) * r % p)], by rw [if_neg (by
     rintro (h | h)
     ·cases h
     ·exact cR h)], by simp only [zq41x]; omega, _, rfl, ?_⟩
    generalize (0 - S % p) * r % p = F at *
    walk_at "dt"
    refine ⟨by rw [zq20x, zq41x]; omega, ?_⟩
    rw [c1, c2, show [pairD (x, F)] = List.map pairD [(x, F)] from rfl, <- zq21x, <- zq21x]
    refine q _ _ ⟨?_, ?_, fun pr h => ?_, ?_⟩
    ·have e : (prs.take A.toNat ++ [(x, F)] ++ prs.drop (A.toNat + 1)).map (fun pr : Int × Int => pr.1) = rs := by
      have h2 := congrArg (List.map (fun pr : Int × Int => pr.1)) epr
      rw [zq21x, zq8x, hx1] at h2
      rw [<- hmap]
      refine Eq.trans ?_ h2.symm
      simp
     have h := hrs
     rw [<- e] at h
     exact zq49x.mp h
    ·rw [zq20x, zq20x, zq58x, zq89x, zq41x]; omega
    ·rcases zq29x.mp h with h | h
     ·rcases zq29x.mp h with h | h
      ·exact hpo pr (zq168x h)
      ·rw [zq16x.mp h]; exact ⟨g1, g2, hF⟩
     ·exact hpo pr (zq196x h)
    ·rw [dueSum_append, dueSum_append]
     rw [dueSum_append] at hS
     have et : dueSum [(x, F)] (wd.map some) = F * y := by
      unfold dueSum termOf
      rw [zq8x, zq91x, zq96x, List.sum_nil, zq163x, zq2x, ey]
      rfl
     rw [et]
     rw [<- hfit]
     congr 1
     omega
 ·rintro ρ ⟨x6, x7, x8, x9, x10, rfl⟩
  walk_at "dt"
  refine Ev.callD mono__law_sum ?_
  walk_at "dt"
  refine ⟨rfl, p, prs, wd.map some, by show [_, _, PyData.list _] = _; rw [hwD], by omega, by omega, fun pr h => ?_, hwo, ?_⟩
  ·have := hpo pr h
   exact ⟨this.1, by rw [zq0x]; exact this.2.1, by unfold Sm; omega⟩
  by_cases c : dueSum prs (wd.map some) % p = 0
  ·walk_at "dt"
   exact q prs _ ⟨hpw, by omega, hpo, c⟩
  ·walk_at "dt"
   exact q [] _ ⟨.nil, by decide, (fun _ h => nomatch h), by simp [dueSum]⟩
def F__law_planted : DF := fun ds Φ => ∃ (p : Int) (wd : List Int) (many wide : Int), ds = [.int p, .list (wd.map .int), .int many, .int wide] /\ POk p /\ 1 <= wd.length /\ wd.length <= 400 /\ (∀ x ∈ wd, 0 <= x /\ x < p) /\ 0 <= many /\ many <= 400 /\ 1 <= wide /\ wide <= 60 /\
 ∀ (cs : List Prs) (f : Bool), NetT cs wd p -> (cs.length : Int) <= many -> Φ f (netD p wd.length cs)
theorem mono__law_planted : MonoF F__law_planted := by
 intro ds Φ Ψ hm z
 obtain ⟨p, wd, m, w, e, h1, h2, h3, h4, h5, h6, h7, h8, q⟩ := hm
 exact ⟨p, wd, m, w, e, h1, h2, h3, h4, h5, h6, h7, h8, fun cs f h g => z _ _ (q cs f h g)⟩
theorem shaped_prs (prs : Prs) : SeqAt.shaped (prsD prs) = true := (shaped_pairs prs).1
theorem eqv_prs_nil (prs : Prs) : PyData.eqv (prsD prs) (.list []) = prs.isEmpty := by
 rw [eqv_nil]; cases prs <;> rfl
theorem scLawPlanted : FnScope ["bag", "p", "word", "many", "wide", "checks", "c", "row"] ["bag", "p", "word", "many", "wide"] (defScope sLawPlanted) := ⟨rfl, rfl, rfl, by decide +kernel, rfl, by decide +kernel, by decide +kernel⟩
theorem ok__law_planted (F : Fun K "_law_planted" "_law_planted" sLawPlanted f fd)  (c__law_true_pairs : Callee P w K mg base "_law_true_pairs" 3 ["bag", "p", "row", "word"] (spB 4 F__law_true_pairs)) (c__law_draw : Callee P w K mg base "_law_draw" 2 ["bag", "many"] spDraw) (m_range : mg "range" = none) (m_sorted : mg "sorted" = none) (m_len : mg "len" = none) (m_set : mg "set" = none)  :
    FnOk P w K mg base CX0 4 f fd ["bag", "p", "word", "many", "wide"] (spB 5 F__law_planted) := by
  refine F.ok scLawPlanted (fun vs H Q E h => h.1) (fun cdv A outer s H vs Q E hr h => ?_)
  obtain ⟨b, l, ws, nb, ds, Φ, rfl, hB, hlive, hnb, hds, hΦ, hF⟩ := spB_out h
  obtain ⟨p, wd, many, wide, rfl, hp, w1, w2, hwd, m1, m2, d1, d2, q⟩ := hF
  refine ⟨_, (@pss_cons _ _ _ _ _ (@ps_set _ _ (5) _ _ _ _ scLawPlanted.nd rfl (Or.inl rfl) (@pe_lst _ _ _ _ pa_nil) (by rfl) (by first | exact .inl rfl | exact .inr rfl | assumption)) (@pss_cons _ _ _ _ _ (@ps_for _ _ _ _ _ _ _ _ zq36x rfl (@pi_range1 _ _ _ _ _ _ rfl m_range (@pa_cons _ _ _ _ _ (pv 3) pa_nil rfl) (by rfl)) (pg_name (i := 6) scLawPlanted.nd rfl (Or.inl rfl)) (@pss_cons _ _ _ _ _ (@ps_set _ _ (7) _ _ _ _ scLawPlanted.nd rfl (Or.inl rfl) (@pe_callB _ _ _ _ _ _ _ _ (rSorted P w) (call_sortM rfl) rfl m_sorted zq113x (@pa_cons _ _ _ _ _ (@pe_callTy _ _ _ _ _ _ _ _ (rSetOf P w K) (call_setM rfl) rfl m_set zq198x (@pa_cons _ _ _ _ _ (pe_lcomp (CompOk.of (show compOkB (defScope sLawPlanted) ["bag", "p", "word", "many", "wide", "checks", "c", "row"] _ ["k", "bag", "word"] [none, some 0, some 2] = true by decide +kernel)) (@pi_range1 _ _ _ _ _ _ rfl m_range (@pa_cons _ _ _ _ _ (@pe_op _ _ _ _ _ _ _ _ op_add pe_int (@pe_callC _ _ _ _ _ _ _ _ _ _ c__law_draw (hr.mono (by decide)) (@pa_cons _ _ _ _ _ (pv 0) (@pa_cons _ _ _ _ _ (pv 4) pa_nil rfl) rfl) (by rfl) (by decide) (by rfl) (by rfl))) pa_nil rfl) (by rfl)) (fun _ _ _ _ => ⟨(pg_name (i := 0) (by show List.Nodup (["k", "bag", "word"] : List Str); decide +kernel) rfl (Or.inl rfl)), pts_nil, (@pe_callC _ _ _ _ _ _ _ _ _ _ c__law_draw (hr.mono (by decide)) (@pa_cons _ _ _ _ _ (pv 1) (@pa_cons _ _ _ _ _ (@pe_callB _ _ _ _ _ _ _ _ (rLen K) call_lenM rfl m_len zq32x (@pa_cons _ _ _ _ _ (pv 2) pa_nil rfl) (by decide) (by decide) (by rfl) (by rfl)) pa_nil rfl) rfl) (by rfl) (by decide) (by rfl) (by rfl))⟩)) pa_nil rfl) (by decide) (by decide) (by rfl) (by rfl)) pa_nil rfl) (by decide) (by decide) (by rfl) (by rfl)) (by rfl) (by first | exact .inl rfl | exact .inr rfl | assumption)) (@pss_one _ _ _ (@ps_expr _ _ _ _ (pe_bm zq72x zq111x zq112x mt_append (pv 5) (@pa_cons _ _ _ _ _ (@pe_callC _ _ _ _ _ _ _ _ _ _ c__law_true_pairs (hr.mono (by decide)) (@pa_cons _ _ _ _ _ (pv 0) (@pa_cons _ _ _ _ _ (pv 1) (@pa_cons _ _ _ _ _ (pv 7) (@pa_cons _ _ _ _ _ (pv 2) pa_nil rfl) rfl) rfl) rfl) (by rfl) (by decide) (by rfl) (by rfl)) pa_nil rfl)) (by rfl)))) (by intro _; rfl)) (@pss_one _ _ _ (@ps_ret _ _ _ _ (@pe_tup _ _ _ _ _ (@pa_cons _ _ _ _ _ (pv 1) (@pa_cons _ _ _ _ _ (@pe_callB _ _ _ _ _ _ _ _ (rLen K) call_lenM rfl m_len zq32x (@pa_cons _ _ _ _ _ (pv 2) pa_nil rfl) (by decide) (by decide) (by rfl) (by rfl)) (@pa_cons _ _ _ _ _ (pe_lcomp (CompOk.of (show compOkB (defScope sLawPlanted) ["bag", "p", "word", "many", "wide", "checks", "c", "row"] _ ["pairs"] [none] = true by decide +kernel)) (pi_listK (K := K) rfl (pv 5)) (fun _ _ _ _ => ⟨(pg_name (i := 0) (by show List.Nodup (["pairs"] : List Str); decide +kernel) rfl (Or.inl rfl)), (pts_one (@pt_cmpR _ _ _ _ _ _ _ _ (op_neD hr.units) (pv 0) (@pe_lst _ _ _ _ pa_nil) (nomark _))), (pv 0)⟩)) pa_nil rfl) rfl) rfl)))))), ?_⟩
  refine Sv.enterB hB hlive hnb hds hΦ (ρ := [.bag, .d false _, .d false _, .d false _, .d false _, .no, .no, .no]) rfl ?_
  clear hΦ hds
  obtain ⟨p2, p60⟩ := id hp
  have hlw : (wd.map PyData.int).length = wd.length := zq0x ..
  walk_at "dt"
  intro a
  walk_at "dt"
  refine Sv.forR1 ?_
  walk_at "dt"
  refine ⟨fun i ρ => ∃ (f : Bool) (x6 x7 : Sl) (cs : List Prs), ρ = [.bag, .d false (.int p), .d false (.list (wd.map .int)), .d false (.int many), .d false (.int wide), .own a f (cs.map prsD), x6, x7] /\ cs.length = i /\ ∀ prs ∈ cs, PrsT prs wd p, ⟨_, _, _, [], rfl, rfl, (fun _ h => nomatch h)⟩, ?_, ?_⟩
  · rintro i d ρ ⟨hi, rfl⟩ ⟨f, x6, x7, cs, rfl, hcl, hcs⟩
    walk_at "dt"
    refine EvN.ev (EvN.sortedSet (EvN.ev (EvN.compR1 (by decide) rfl ?_)))
    walk_at "dt"
    intro k0 k1 k2
    walk_at "dt"
    refine CompD.ints (fun x => 0 <= x /\ x < (wd.map PyData.int).length) ?_ fun os hol hos => ⟨os, rfl, by omega, fun rs hrs hmem => ?_⟩
    · rintro i d ⟨hi, rfl⟩
      walk_at "dt"
      refine ⟨by walk_at "wk", ?_⟩
      walk_at "dt"
      exact fun r r1 r2 => ⟨r, rfl, r1, r2⟩
    have hrl : 0 < rs.length := by
      have : 0 < os.length := by omega
      obtain ⟨y, hy⟩ := List.exists_mem_of_length_pos this
      exact List.length_pos_of_mem ((hmem y).mpr hy)
    have hrl2 : rs.length <= os.length := zq94x (hrs.imp fun h => by omega) fun k hk => (hmem k).mp hk
    walk_at "dt"
    refine Ev.callB mono__law_true_pairs rfl ?_
    walk_at "dt"
    refine ⟨rfl, p, rs, wd, rfl, hp, hrs, fun x hx => by have := hos x ((hmem x).mp hx); omega, hrl, by omega, by omega, hwd, fun prs fp hprs => ?_⟩
    refine ⟨by rw [zq0x]; omega, _, _, _, cs ++ [prs], by rw [zq21x]; rfl, by simp [hcl], fun q hq => ?_⟩
    rcases zq29x.mp hq with h | h
    · exact hcs q h
    · rw [zq16x.mp h]; exact hprs
  · rintro ρ ⟨f, x6, x7, cs, rfl, hcl, hcs⟩
    refine Sv.demote 5 rfl ?_
    walk_at "dt"
    refine EvN.ev (EvN.compL (by decide) rfl ?_)
    walk_at "dt"
    refine ⟨by rw [zq0x]; omega, fun v => ⟨false, fun i ds => ∃ es : List Prs, ds = es.map prsD /\ es.length <= i /\ ∀ prs ∈ es, prs ≠ [] /\ PrsT prs wd p, ⟨[], rfl, zq3x _, (fun _ h => nomatch h)⟩, ?_, ?_⟩⟩
    · rintro j d ds hd hl' ⟨es, rfl, hel, hes⟩
      obtain ⟨prs, hprs, rfl⟩ := map_at hd
      walk_at "dt"
      refine ⟨by walk_at "wk", ?_⟩
      walk_at "dt"
      refine ⟨shaped_prs prs, by decide, ?_⟩
      show ∃ b, PyData.bool (PyData.eqv (prsD prs) (.list []) != true) = .bool b /\ _
      rw [eqv_prs_nil]
      cases hc : prs with
      | nil =>
        walk_at "dt"
        exact ⟨es, rfl, by omega, hes⟩
      | cons pr r =>
        walk_at "dt"
        refine ⟨es ++ [prs], by rw [hc]; simp, by simp; omega, fun q hq => ?_⟩
        rcases zq29x.mp hq with h | h
        · exact hes q h
        · rw [zq16x.mp h]; exact ⟨by rw [hc]; exact List.cons_ne_nil _ _, hcs prs (zq4x hprs)⟩
    rintro ds hl' ⟨es, rfl, hel, hes⟩
    walk_at "dt"
    rw [zq0x] at hel
    show Φ _ (.tuple [.int p, .int ((wd.map PyData.int).length : Int), .list (es.map prsD)])
    rw [hlw]
    exact q es _ ⟨by omega, hes⟩ (by omega)
def F__law_net : DF := fun ds Φ => ∃ (p places many wide : Int), ds = [.int p, .int places, .int many, .int wide] /\ POk p /\ 1 <= places /\ places <= 30 /\ 0 <= many /\ many <= 30 /\ 1 <= wide /\ wide <= 60 /\ ∀ (n : Int) (cs : List Prs) (f : Bool), NK p n cs -> Φ f (netD p n cs)
theorem mono__law_net : MonoF F__law_net := by
 intro ds Φ Ψ hm z
 obtain ⟨p, a, b, c, e, hp, h1, h2, h3, h5, h6, h7, q⟩ := hm
 exact ⟨p, a, b, c, e, hp, h1, h2, h3, h5, h6, h7, fun n cs f h => z _ _ (q n cs f h)⟩
theorem scLawNet : FnScope ["bag", "p", "places", "many", "wide", "n", "checks", "c", "there"] ["bag", "p", "places", "many", "wide"] (defScope sLawNet) := ⟨rfl, rfl, rfl, by decide +kernel, rfl, by decide +kernel, by decide +kernel⟩
theorem ok__law_net (F : Fun K "_law_net" "_law_net" sLawNet f fd)  (c__law_draw : Callee P w K mg base "_law_draw" 2 ["bag", "many"] spDraw) (m_range : mg "range" = none) (m_sorted : mg "sorted" = none) (m_set : mg "set" = none)  :
  FnOk P w K mg base CX0 3 f fd ["bag", "p", "places", "many", "wide"] (spB 5 F__law_net) := by
 refine F.ok scLawNet (fun vs H Q E h => h.1) (fun cdv A outer s H vs Q E hr h => ?_)
 obtain ⟨b, l, ws, nb, ds, Φ, rfl, hB, hlive, hnb, hds, hΦ, hF⟩ := spB_out h
 obtain ⟨p, places, many, wide, rfl, hp, l1, l2, m1, m2, w1, w2, q⟩ := hF
 refine ⟨_, (@pss_cons _ _ _ _ _ (@ps_set _ _ (5) _ _ _ _ scLawNet.nd rfl (Or.inr rfl) (@pe_op _ _ _ _ _ _ _ _ op_add pe_int (@pe_callC _ _ _ _ _ _ _ _ _ _ c__law_draw (hr.mono (by decide)) (@pa_cons _ _ _ _ _ (pv 0) (@pa_cons _ _ _ _ _ (pv 2) pa_nil rfl) rfl) (by rfl) (by decide) (by rfl) (by rfl))) (by rfl) (by first | exact .inl rfl | exact .inr rfl | assumption)) (@pss_cons _ _ _ _ _ (@ps_set _ _ (6) _ _ _ _ scLawNet.nd rfl (Or.inl rfl) (@pe_lst _ _ _ _ pa_nil) (by rfl) (by first | exact .inl rfl | exact .inr rfl | assumption)) (@pss_cons _ _ _ _ _ (@ps_for _ _ _ _ _ _ _ _ zq36x rfl (@pi_range1 _ _ _ _ _ _ rfl m_range (@pa_cons _ _ _ _ _ (@pe_callC _ _ _ _ _ _ _ _ _ _ c__law_draw (hr.mono (by decide)) (@pa_cons _ _ _ _ _ (pv 0) (@pa_cons _ _ _ _ _ (@pe_op _ _ _ _ _ _ _ _ op_add (pv 3) pe_int) pa_nil rfl) rfl) (by rfl) (by decide) (by rfl) (by rfl)) pa_nil rfl) (by rfl)) (pg_name (i := 7) scLawNet.nd rfl (Or.inl rfl)) (@pss_cons _ _ _ _ _ (@ps_set _ _ (8) _ _ _ _ scLawNet.nd rfl (Or.inl rfl) (@pe_callB _ _ _ _ _ _ _ _ (rSorted P w) (call_sortM rfl) rfl m_sorted zq113x (@pa_cons _ _ _ _ _ (@pe_callTy _ _ _ _ _ _ _ _ (rSetOf P w K) (call_setM rfl) rfl m_set zq198x (@pa_cons _ _ _ _ _ (pe_lcomp (CompOk.of (show compOkB (defScope sLawNet) ["bag", "p", "places", "many", "wide", "n", "checks", "c", "there"] _ ["k", "bag", "n"] [none, some 0, some 5] = true by decide +kernel)) (@pi_range1 _ _ _ _ _ _ rfl m_range (@pa_cons _ _ _ _ _ (@pe_op _ _ _ _ _ _ _ _ op_add pe_int (@pe_callC _ _ _ _ _ _ _ _ _ _ c__law_draw (hr.mono (by decide)) (@pa_cons _ _ _ _ _ (pv 0) (@pa_cons _ _ _ _ _ (pv 4) pa_nil rfl) rfl) (by rfl) (by decide) (by rfl) (by rfl))) pa_nil rfl) (by rfl)) (fun _ _ _ _ => ⟨(pg_name (i := 0) (by show List.Nodup (["k", "bag", "n"] : List Str); decide +kernel) rfl (Or.inl rfl)), pts_nil, (@pe_callC _ _ _ _ _ _ _ _ _ _ c__law_draw (hr.mono (by decide)) (@pa_cons _ _ _ _ _ (pv 1) (@pa_cons _ _ _ _ _ (pv 2) pa_nil rfl) rfl) (by rfl) (by decide) (by rfl) (by rfl))⟩)) pa_nil rfl) (by decide) (by decide) (by rfl) (by rfl)) pa_nil rfl) (by decide) (by decide) (by rfl) (by rfl)) (by rfl) (by first | exact .inl rfl | exact .inr rfl | assumption)) (@pss_one _ _ _ (@ps_expr _ _ _ _ (pe_bm zq72x zq111x zq112x mt_append (pv 6) (@pa_cons _ _ _ _ _ (pe_lcomp (CompOk.of (show compOkB (defScope sLawNet) ["bag", "p", "places", "many", "wide", "n", "checks", "c", "there"] _ ["place", "bag", "p"] [none, some 0, some 1] = true by decide +kernel)) (pi_listK (K := K) rfl (pv 8)) (fun _ _ _ _ => ⟨(pg_name (i := 0) (by show List.Nodup (["place", "bag", "p"] : List Str); decide +kernel) rfl (Or.inl rfl)), pts_nil, (@pe_tup _ _ _ _ _ (@pa_cons _ _ _ _ _ (pv 0) (@pa_cons _ _ _ _ _ (@pe_op _ _ _ _ _ _ _ _ op_add pe_int (@pe_callC _ _ _ _ _ _ _ _ _ _ c__law_draw (hr.mono (by decide)) (@pa_cons _ _ _ _ _ (pv 1) (@pa_cons _ _ _ _ _ (@pe_op _ _ _ _ _ _ _ _ op_sub (pv 2) pe_int) pa_nil rfl) rfl) (by rfl) (by decide) (by rfl) (by rfl))) pa_nil rfl) rfl))⟩)) pa_nil rfl)) (by rfl)))) (by intro _; rfl)) (@pss_one _ _ _ (@ps_ret _ _ _ _ (@pe_tup _ _ _ _ _ (@pa_cons _ _ _ _ _ (pv 1) (@pa_cons _ _ _ _ _ (pv 5) (@pa_cons _ _ _ _ _ (pv 6) pa_nil rfl) rfl) rfl))))))), ?_⟩
 refine Sv.enterB hB hlive hnb hds hΦ (ρ := [.bag, .d false _, .d false _, .d false _, .d false _, .no, .no, .no, .no]) rfl ?_
 clear hΦ hds
 obtain ⟨p2, p60⟩ := id hp
 walk_at "dt"
 intro n n0 n1
 walk_at "dt"
 intro A6
 refine Sv.seq ?_
 refine Sv.forR1 ?_
 walk_at "dt"
 intro m mm0 mm1
 walk_at "dt"
 refine ⟨fun c ρ => ∃ (cs : List Prs) (f6 : Bool) (x7 x8 : Sl), cs.length <= c /\ (∀ prs ∈ cs, (prs.map (·.1)).Pairwise (· < ·) /\ ∀ pr ∈ prs, 0 <= pr.1 /\ pr.1 < 1 + n /\ 1 <= pr.2 /\ pr.2 < p) /\ ρ = [.bag, .d false (.int p), .d false (.int places), .d false (.int many), .d false (.int wide), .d true (.int (1 + n)), .own A6 f6 (cs.map prsD), x7, x8], ⟨[], _, _, _, zq3x _, (fun _ h => nomatch h), rfl⟩, ?_, ?_⟩
 ·rintro c d ρ ⟨hc, rfl⟩ ⟨cs, f6, x7, x8, hcl, hcs, rfl⟩
  refine Gv.nameI ?_
  walk_at "dt"
  refine EvN.ev (EvN.sortedSet (EvN.ev (EvN.compR1 (by decide) rfl ?_)))
  walk_at "dt"
  intro k0 k1 k2
  walk_at "dt"
  refine CompD.ints (fun x => 0 <= x /\ x < 1 + n) ?_ fun os hol hos => ⟨os, rfl, by omega, fun rs hrs0 hmem => ?_⟩
  ·rintro i d ⟨hi, rfl⟩
   walk_at "dt"
   refine ⟨by walk_at "wk", ?_⟩
   walk_at "dt"
   exact fun r r1 r2 => ⟨r, rfl, r1, r2⟩
  have hrs : rs.Nodup := hrs0.imp fun h => by omega
  have hrl2 : rs.length <= os.length := zq94x hrs fun k hk => (hmem k).mp hk
  walk_at "dt"
  refine EvN.ev (EvN.compL (by decide) rfl ?_)
  walk_at "dt"
  refine ⟨by rw [zq0x]; omega, fun v => CompD.rel pairD true (fun i pr => rs[i]? = some pr.1 /\ 1 <= pr.2 /\ pr.2 < p) ?_ fun prs hpl hprs => ?_⟩
  ·rintro i d hd
   obtain ⟨x, hx, rfl⟩ := map_at hd
   walk_at "dt"
   refine ⟨by walk_at "wk", ?_⟩
   walk_at "dt"
   intro r r1 r2
   walk_at "dt"
   exact ⟨fun _ => rfl, (x, 1 + r), rfl, hx, by show 1 <= 1 + r; omega, by show 1 + r < p; omega⟩
  rw [zq0x] at hpl
  have eprs : prs.map (·.1) = rs := by
   apply zq35x
   intro j
   rw [zq2x]
   cases e : prs[j]? with
   | none => rw [zq13x (by have := List.getElem?_eq_none_iff.mp e; omega)]; rfl
   | some pr => exact (hprs j pr e).1.symm
  have hQ : (prs.map (·.1)).Pairwise (· < ·) /\ ∀ pr ∈ prs, 0 <= pr.1 /\ pr.1 < 1 + n /\ 1 <= pr.2 /\ pr.2 < p := ⟨by rw [eprs]; exact hrs0, fun pr hpr => by
   obtain ⟨k, hk⟩ := zq34x hpr
   have h2 := hprs k pr hk
   have h1 := hos pr.1 ((hmem _).mp (zq4x h2.1))
   omega⟩
  refine ⟨by rw [zq0x]; omega, ?_⟩
  refine ⟨cs ++ [prs], _, _, _, by rw [zq20x, zq41x]; omega, fun q' hq' => ?_, by rw [zq21x]; rfl⟩
  rcases zq29x.mp hq' with h | h
  ·exact hcs q' h
  ·rw [zq16x.mp h]; exact hQ
 ·rintro ρ ⟨cs, f6, x7, x8, hcl, hcs, rfl⟩
  refine Sv.demote 6 rfl ?_
  walk_at "dt"
  exact q (1 + n) cs _ ⟨hp, by omega, by omega, by omega, hcs⟩
def F__law_side : DF := fun ds Φ => ∃ (p places many wide : Int), ds = [.int p, .int places, .int many, .int wide] /\ POk p /\ 1 <= places /\ places <= 30 /\ 0 <= many /\ many <= 30 /\ 1 <= wide /\ wide <= 60 /\ ∀ (n : Int) (cs : List Prs) (ws : List Int) (f : Bool), NK p n cs -> ws.length = n.toNat -> (∀ x ∈ ws, 0 <= x /\ x < p) -> Φ f (.tuple [netD p n cs, rowD ws])
theorem mono__law_side : MonoF F__law_side := by
 intro ds Φ Ψ hm z
 obtain ⟨p, a, b, c, e, hp, h1, h2, h3, h5, h6, h7, q⟩ := hm
 exact ⟨p, a, b, c, e, hp, h1, h2, h3, h5, h6, h7, fun n cs ws f h g k => z _ _ (q n cs ws f h g k)⟩
theorem scLawSide : FnScope ["bag", "p", "places", "many", "wide", "way", "net", "word", "k", "at"] ["bag", "p", "places", "many", "wide"] (defScope sLawSide) := ⟨rfl, rfl, rfl, by decide +kernel, rfl, by decide +kernel, by decide +kernel⟩
theorem ok__law_side (F : Fun K "_law_side" "_law_side" sLawSide f fd)  (c__law_draw : Callee P w K mg base "_law_draw" 2 ["bag", "many"] spDraw) (c__law_net : Callee P w K mg base "_law_net" 3 ["bag", "p", "places", "many", "wide"] (spB 5 F__law_net)) (c__law_letters : Callee P w K mg base "_law_letters" 3 ["bag", "p", "n"] (spB 3 F__law_letters)) (c__law_planted : Callee P w K mg base "_law_planted" 4 ["bag", "p", "word", "many", "wide"] (spB 5 F__law_planted)) (m_range : mg "range" = none)  :
  FnOk P w K mg base CX0 5 f fd ["bag", "p", "places", "many", "wide"] (spB 5 F__law_side) := by
 refine F.ok scLawSide (fun vs H Q E h => h.1) (fun cdv A outer s H vs Q E hr h => ?_)
 obtain ⟨b, l, ws, nb, ds, Φ, rfl, hB, hlive, hnb, hds, hΦ, hF⟩ := spB_out h
 obtain ⟨p, places, many, wide, rfl, hp, l1, l2, m1, m2, w1, w2, q⟩ := hF
 refine ⟨_, (@pss_cons _ _ _ _ _ (@ps_set _ _ (5) _ _ _ _ scLawSide.nd rfl (Or.inl rfl) (@pe_callC _ _ _ _ _ _ _ _ _ _ c__law_draw (hr.mono (by decide)) (@pa_cons _ _ _ _ _ (pv 0) (@pa_cons _ _ _ _ _ pe_int pa_nil rfl) rfl) (by rfl) (by decide) (by rfl) (by rfl)) (by rfl) (by first | exact .inl rfl | exact .inr rfl | assumption)) (@pss_cons _ _ _ _ _ (@ps_set _ _ (6) _ _ _ _ scLawSide.nd rfl (Or.inl rfl) (@pe_callC _ _ _ _ _ _ _ _ _ _ c__law_net (hr.mono (by decide)) (@pa_cons _ _ _ _ _ (pv 0) (@pa_cons _ _ _ _ _ (pv 1) (@pa_cons _ _ _ _ _ (pv 2) (@pa_cons _ _ _ _ _ (pv 3) (@pa_cons _ _ _ _ _ (pv 4) pa_nil rfl) rfl) rfl) rfl) rfl) (by rfl) (by decide) (by rfl) (by rfl)) (by rfl) (by first | exact .inl rfl | exact .inr rfl | assumption)) (@pss_cons _ _ _ _ _ (@ps_set _ _ (7) _ _ _ _ scLawSide.nd rfl (Or.inl rfl) (@pe_callC _ _ _ _ _ _ _ _ _ _ c__law_letters (hr.mono (by decide)) (@pa_cons _ _ _ _ _ (pv 0) (@pa_cons _ _ _ _ _ (pv 1) (@pa_cons _ _ _ _ _ (@pe_ix _ _ _ _ _ _ (rIxT K) ix_tup (pv 6) pe_int (fun _ _ => rfl)) pa_nil rfl) rfl) rfl) (by rfl) (by decide) (by rfl) (by rfl)) (by rfl) (by first | exact .inl rfl | exact .inr rfl | assumption)) (@pss_cons _ _ _ _ _ (@ps_if _ _ _ _ _ _ _ _ (@pt_cmpR _ _ _ _ _ _ _ _ op_gt (pv 5) pe_int (nomark _)) (@pss_cons _ _ _ _ _ (@ps_set _ _ (6) _ _ _ _ scLawSide.nd rfl (Or.inl rfl) (@pe_callC _ _ _ _ _ _ _ _ _ _ c__law_planted (hr.mono (by decide)) (@pa_cons _ _ _ _ _ (pv 0) (@pa_cons _ _ _ _ _ (pv 1) (@pa_cons _ _ _ _ _ (pv 7) (@pa_cons _ _ _ _ _ (@pe_callC _ _ _ _ _ _ _ _ _ _ c__law_draw (hr.mono (by decide)) (@pa_cons _ _ _ _ _ (pv 0) (@pa_cons _ _ _ _ _ (@pe_op _ _ _ _ _ _ _ _ op_add (pv 3) pe_int) pa_nil rfl) rfl) (by rfl) (by decide) (by rfl) (by rfl)) (@pa_cons _ _ _ _ _ (pv 4) pa_nil rfl) rfl) rfl) rfl) rfl) (by rfl) (by decide) (by rfl) (by rfl)) (by rfl) (by first | exact .inl rfl | exact .inr rfl | assumption)) (@pss_one _ _ _ (@ps_for _ _ _ _ _ _ _ _ zq36x rfl (@pi_range1 _ _ _ _ _ _ rfl m_range (@pa_cons _ _ _ _ _ (@pe_callC _ _ _ _ _ _ _ _ _ _ c__law_draw (hr.mono (by decide)) (@pa_cons _ _ _ _ _ (pv 0) (@pa_cons _ _ _ _ _ pe_int pa_nil rfl) rfl) (by rfl) (by decide) (by rfl) (by rfl)) pa_nil rfl) (by rfl)) (pg_name (i := 8) scLawSide.nd rfl (Or.inl rfl)) (@pss_cons _ _ _ _ _ (@ps_set _ _ (9) _ _ _ _ scLawSide.nd rfl (Or.inl rfl) (@pe_callC _ _ _ _ _ _ _ _ _ _ c__law_draw (hr.mono (by decide)) (@pa_cons _ _ _ _ _ (pv 0) (@pa_cons _ _ _ _ _ (@pe_ix _ _ _ _ _ _ (rIxT K) ix_tup (pv 6) pe_int (fun _ _ => rfl)) pa_nil rfl) rfl) (by rfl) (by decide) (by rfl) (by rfl)) (by rfl) (by first | exact .inl rfl | exact .inr rfl | assumption)) (@pss_one _ _ _ (@ps_set _ _ (7) _ _ _ _ scLawSide.nd rfl (Or.inl rfl) (@pe_op _ _ _ _ _ _ _ _ op_cat (@pe_op _ _ _ _ _ _ _ _ op_cat (@pe_slice _ _ _ _ _ _ _ _ _ (rSlL K) sl_list (pv 7) po_none (@po_some _ _ _ (pv 9))) (@pe_lst _ _ _ _ (@pa_cons _ _ _ _ _ (@pe_callC _ _ _ _ _ _ _ _ _ _ c__law_draw (hr.mono (by decide)) (@pa_cons _ _ _ _ _ (pv 0) (@pa_cons _ _ _ _ _ (pv 1) pa_nil rfl) rfl) (by rfl) (by decide) (by rfl) (by rfl)) pa_nil rfl))) (@pe_slice _ _ _ _ _ _ _ _ _ (rSlL K) sl_list (pv 7) (@po_some _ _ _ (@pe_op _ _ _ _ _ _ _ _ op_add (pv 9) pe_int)) po_none)) (by rfl) (by first | exact .inl rfl | exact .inr rfl | assumption)))) (by intro _; rfl)))) pss_nil) (@pss_one _ _ _ (@ps_ret _ _ _ _ (@pe_tup _ _ _ _ _ (@pa_cons _ _ _ _ _ (pv 6) (@pa_cons _ _ _ _ _ (pv 7) pa_nil rfl) rfl)))))))), ?_⟩
 refine Sv.enterB hB hlive hnb hds hΦ (ρ := [.bag, .d false _, .d false _, .d false _, .d false _, .no, .no, .no, .no, .no]) rfl ?_
 clear hΦ hds
 obtain ⟨p2, p60⟩ := id hp
 walk_at "dt"
 intro way y0 y1
 walk_at "dt"
 refine Ev.callB mono__law_net rfl ?_
 walk_at "dt"
 refine ⟨rfl, p, places, many, wide, rfl, hp, l1, by omega, m1, by omega, w1, w2, fun n cs f hV => ?_⟩
 have n0 := hV.n0
 have n1 := hV.n1
 have hsm : ∀ (n : Int) (ws : List Int) (k : Int), 0 <= k -> k < (ws.length : Int) -> ∀ y, cutA (ws.map PyData.int) none (some k) ++ [.int y] ++ cutA (ws.map PyData.int) (some (k + 1)) none = (ws.set k.toNat y).map .int := fun n ws k h0 h1 y => by
  rw [cut_put h0 (by rw [zq0x]; exact h1), List.map_set]
 walk_at "dt"
 refine Ev.callB mono__law_letters rfl ?_
 walk_at "dt"
 refine ⟨rfl, p, n, rfl, ⟨by omega, by omega⟩, by omega, by omega, fun ws hwl hws => ?_⟩
 by_cases cw : 0 < way
 ·walk_at "dt"
  refine Ev.callB mono__law_planted rfl ?_
  walk_at "dt"
  intro u0 u1 u2
  walk_at "dt"
  refine ⟨rfl, p, ws, _, wide, rfl, hp, by omega, by omega, hws, by omega, by omega, w1, w2, fun cs2 f2 hT2 hc2 => ?_⟩
  refine Gv.nameF ?_
  refine Sv.forR1 ?_
  walk_at "dt"
  intro g0 g1 g2
  walk_at "dt"
  refine ⟨fun i ρ => ∃ (ws' : List Int) (f7 : Bool) (x8 x9 : Sl), ws'.length = ws.length /\ (∀ x ∈ ws', 0 <= x /\ x < p) /\ ρ = [.bag, .d false (.int p), .d false (.int places), .d false (.int many), .d false (.int wide), .d true (.int way), .d false (netD p (ws.length : Int) cs2), .d f7 (.list (ws'.map .int)), x8, x9], ⟨ws, _, _, _, rfl, hws, rfl⟩, ?_, ?_⟩
  ·rintro i d ρ ⟨hi, rfl⟩ ⟨ws', f7, x8, x9, hl', hw', rfl⟩
   have hwm : (ws'.map PyData.int).length = ws'.length := zq0x ..
   walk_at "dt"
   intro at0 a1 a2
   have hc1 := cutA_len (xs := ws'.map PyData.int) (lo := none) (hi := some at0)
   have hc2 := cutA_len (xs := ws'.map PyData.int) (lo := some (at0 + 1)) (hi := none)
   walk_at "dt"
   intro y y1 y2
   walk_at "dt"
   refine ⟨by show _ + 1 <= _; omega, _, rfl, ?_⟩
   walk_at "dt"
   refine ⟨by rw [zq20x]; show _ + 1 + _ <= _; omega, ?_⟩
   show Gv _ _ _ _ (.list (cutA (ws'.map PyData.int) none (some at0) ++ [.int y] ++ cutA (ws'.map PyData.int) (some (at0 + 1)) none)) _
   rw [hsm n ws' at0 a1 (by omega) y]
   refine Gv.name ?_
   exact ⟨ws'.set at0.toNat y, _, _, _, by rw [zq40x]; exact hl', fun x hx => (zq188x hx).elim (hw' x) fun z => z ▸ ⟨y1, y2⟩, rfl⟩
  rintro ρ ⟨ws', f7, x8, x9, hl', hw', rfl⟩
  walk_at "dt"
  exact q (ws.length : Int) cs2 ws' _ ⟨hp, by omega, by omega, by omega, fun prs h => ⟨zq49x.mpr (hT2.2 prs h).2.1, (hT2.2 prs h).2.2.2.1⟩⟩ (by omega) hw'
 ·walk_at "dt"
  exact q n cs ws _ hV (by omega) hws
def F__law_lossy : DF := fun ds Φ => ∃ wd : List Int, ds = [.list (wd.map .int)] /\ wd.length <= 10000 /\ ∀ ld : Wo, LossyOf wd ld -> Φ true (woD ld)
theorem mono__law_lossy : MonoF F__law_lossy := by
 intro ds Φ Ψ hm z
 obtain ⟨wd, e, h, q⟩ := hm
 exact ⟨wd, e, h, fun ld hl => z _ _ (q ld hl)⟩
theorem scLawLossy : FnScope ["bag", "word", "often"] ["bag", "word"] (defScope sLawLossy) := ⟨rfl, rfl, rfl, by decide +kernel, rfl, by decide +kernel, by decide +kernel⟩
theorem ok__law_lossy (F : Fun K "_law_lossy" "_law_lossy" sLawLossy f fd)  (c__law_draw : Callee P w K mg base "_law_draw" 2 ["bag", "many"] spDraw)   :
  FnOk P w K mg base CX0 3 f fd ["bag", "word"] (spB 2 F__law_lossy) := by
 refine F.ok scLawLossy (fun vs H Q E h => h.1) (fun cdv A outer s H vs Q E hr h => ?_)
 obtain ⟨b, l, ws, nb, ds, Φ, rfl, hB, hlive, hnb, hds, hΦ, hF⟩ := spB_out h
 obtain ⟨wd, rfl, hl, q⟩ := hF
 refine ⟨_, (@pss_cons _ _ _ _ _ (@ps_set _ _ (2) _ _ _ _ scLawLossy.nd rfl (Or.inr rfl) (@pe_ix _ _ _ _ _ _ (rIxL K) ix_list (@pe_lst _ _ _ _ (@pa_consts _ _ _ rfl)) (@pe_callC _ _ _ _ _ _ _ _ _ _ c__law_draw (hr.mono (by decide)) (@pa_cons _ _ _ _ _ (pv 0) (@pa_cons _ _ _ _ _ pe_int pa_nil rfl) rfl) (by rfl) (by decide) (by rfl) (by rfl)) (fun _ _ => rfl)) (by rfl) (by first | exact .inl rfl | exact .inr rfl | assumption)) (@pss_one _ _ _ (@ps_ret _ _ _ _ (pe_lcomp (CompOk.of (show compOkB (defScope sLawLossy) ["bag", "word", "often"] _ ["letter", "bag", "often"] [none, some 0, some 2] = true by decide +kernel)) (pi_listK (K := K) rfl (pv 1)) (fun _ _ _ _ => ⟨(pg_name (i := 0) (by show List.Nodup (["letter", "bag", "often"] : List Str); decide +kernel) rfl (Or.inl rfl)), pts_nil, (@pe_ifExp _ _ _ _ _ _ _ _ (@pt_cmpR _ _ _ _ _ _ _ _ op_eq (@pe_callC _ _ _ _ _ _ _ _ _ _ c__law_draw (hr.mono (by decide)) (@pa_cons _ _ _ _ _ (pv 1) (@pa_cons _ _ _ _ _ (pv 2) pa_nil rfl) rfl) (by rfl) (by decide) (by rfl) (by rfl)) pe_int (nomark _)) pe_non (pv 0))⟩))))), ?_⟩
 refine Sv.enterB hB hlive hnb hds hΦ (ρ := [.bag, .d false _, .no]) rfl ?_
 clear hΦ hds
 walk_at "dt"
 intro way w1 w2
 have hL : way.toNat < ([8, 3, 2, 1] : List Int).length := by show way.toNat < 4; omega
 have hm : ∀ x ∈ ([8, 3, 2, 1] : List Int), 1 <= x /\ x <= 8 := by decide
 obtain ⟨m1, m2⟩ := hm _ (zq28x hL)
 refine ⟨way, rfl, .int ([8, 3, 2, 1] : List Int)[way.toNat], ?_, ?_⟩
 ·show atI (List.map PyData.int [8, 3, 2, 1]) way = _
  exact atI_some w1 (by rw [zq2x, zq1x hL]; rfl)
 generalize ([8, 3, 2, 1] : List Int)[way.toNat] = often at m1 m2 ⊢
 walk_at "dt"
 refine EvN.ev (EvN.compL (by decide) rfl ?_)
 walk_at "dt"
 refine ⟨by rw [zq0x]; exact hl, fun v => ⟨true, fun i ds => ds.length = i /\ ∀ (j : Nat) d, ds[j]? = some d -> d = .none \/ ∃ x, wd[j]? = some x /\ d = .int x, ⟨rfl, fun j d e => by simp at e⟩, ?_, ?_⟩⟩
 ·rintro i d ds hd hl' ⟨hl2, hI⟩
  obtain ⟨x, hx, rfl⟩ := map_at hd
  walk_at "dt"
  refine ⟨by walk_at "wk", ?_⟩
  walk_at "dt"
  intro r r1 r2
  have key : ∀ e : PyData, (e = .none \/ e = .int x) -> (ds ++ [e]).length = i + 1 /\ ∀ (j : Nat) d, (ds ++ [e])[j]? = some d -> d = .none \/ ∃ x, wd[j]? = some x /\ d = .int x := fun e he => by
   refine ⟨by rw [zq20x, zq41x, hl2], fun j d hj => ?_⟩
   rcases zq155x j ds.length with h | h | h
   ·exact hI j d (by rwa [zq38x h] at hj)
   ·subst h
    simp at hj
    subst hj
    rw [hl2]
    rcases he with he | he
    ·exact .inl he
    ·exact .inr ⟨x, hx, he⟩
   ·rw [zq13x (by rw [zq20x, zq41x]; omega)] at hj
    cases hj
  by_cases c : r = 0
  ·walk_at "dt"
   exact key _ (.inl rfl)
  ·walk_at "dt"
   exact key _ (.inr rfl)
 ·rintro ds hl' ⟨hl2, hI⟩
  rw [zq0x] at hl2
  obtain ⟨ld, rfl, hld⟩ := lossy_data (wd := wd) ds hl2 hI
  exact q ld hld
def alikeOk : Nat -> PyData -> Prop
 | 0, _ => False
 | n + 1, d => scB d = true \/ ∃ ds, (d = .list ds \/ d = .tuple ds) /\ ds.length <= 10000 /\ ∀ e ∈ ds, alikeOk n e
def F__law_alike (n : Nat) : DF := fun ds Φ => ∃ d, ds = [d, d] /\ alikeOk n d /\ Φ true (.bool true)
theorem mono__law_alike (n : Nat) : MonoF (F__law_alike n) := fun ds Φ Ψ ⟨d, e, h, q⟩ z => ⟨d, e, h, z _ _ q⟩
theorem void__law_alike : ∀ vs H Q E, ¬ spD 2 (F__law_alike 0) vs H Q E := fun vs H Q E ⟨_, _, _, _, _, d, _, h, _⟩ => h
theorem scLawAlike : FnScope ["found", "due"] ["found", "due"] (defScope sLawAlike) := ⟨rfl, rfl, rfl, by decide +kernel, rfl, by decide +kernel, by decide +kernel⟩
theorem ok__law_alike (n : Nat) (F : Fun K "_law_alike" "_law_alike" sLawAlike f fd) (c__law_alike : Callee P w K mg base "_law_alike" (n) ["found", "due"] (spD 2 (F__law_alike n)))   (m_isinstance : mg "isinstance" = none) (m_list : mg "list" = none) (m_tuple : mg "tuple" = none) (m_all : mg "all" = none) (m_len : mg "len" = none) (m_bool : mg "bool" = none) (m_int : mg "int" = none) (m_str : mg "str" = none) (m_range : mg "range" = none)  :
  FnOk P w K mg base CX0 (n + 1) f fd ["found", "due"] (spD 2 (F__law_alike (n + 1))) := by
 refine F.ok scLawAlike (fun vs H Q E h => h.1) (fun cdv A outer s H vs Q E hr h => ?_)
 obtain ⟨nb, ds, Φ, hlive, hds, hΦ, hF⟩ := spD_out h
 obtain ⟨d, rfl, hok, q⟩ := hF
 refine ⟨_, (@pss_cons _ _ _ _ _ (@ps_if _ _ _ _ _ _ _ _ (@pt_truthK _ (K) _ _ rfl (@pe_callB _ _ _ _ _ _ _ _ (rIsiT) call_isiT rfl m_isinstance zq63x (@pa_cons _ _ _ _ _ (pv 1) (@pa_cons _ _ _ _ _ (@pe_tup _ _ _ _ _ (@pa_cons _ _ _ _ _ (pe_bltn (v := .ty "list") rfl m_list zq84x rfl) (@pa_cons _ _ _ _ _ (pe_bltn (v := .ty "tuple") rfl m_tuple zq199x rfl) pa_nil rfl) rfl)) pa_nil rfl) rfl) (by decide) (by decide) (by rfl) (by rfl)) (fun _ => rfl)) (@pss_cons _ _ _ _ _ (@ps_if _ _ _ _ _ _ _ _ (PW.pt (pw_or (@pt_not _ _ _ _ (@pt_truthK _ (K) _ _ rfl (@pe_callB _ _ _ _ _ _ _ _ (rIsiT) call_isiT rfl m_isinstance zq63x (@pa_cons _ _ _ _ _ (pv 0) (@pa_cons _ _ _ _ _ (@pe_tup _ _ _ _ _ (@pa_cons _ _ _ _ _ (pe_bltn (v := .ty "list") rfl m_list zq84x rfl) (@pa_cons _ _ _ _ _ (pe_bltn (v := .ty "tuple") rfl m_tuple zq199x rfl) pa_nil rfl) rfl)) pa_nil rfl) rfl) (by decide) (by decide) (by rfl) (by rfl)) (fun _ => rfl))) (pw_or1 (@pt_cmpR _ _ _ _ _ _ _ _ op_ne (@pe_callB _ _ _ _ _ _ _ _ (rIsi K) call_isi rfl m_isinstance zq63x (@pa_cons _ _ _ _ _ (pv 0) (@pa_cons _ _ _ _ _ (pe_bltn (v := .ty "list") rfl m_list zq84x rfl) pa_nil rfl) rfl) (by decide) (by decide) (by rfl) (by rfl)) (@pe_callB _ _ _ _ _ _ _ _ (rIsi K) call_isi rfl m_isinstance zq63x (@pa_cons _ _ _ _ _ (pv 1) (@pa_cons _ _ _ _ _ (pe_bltn (v := .ty "list") rfl m_list zq84x rfl) pa_nil rfl) rfl) (by decide) (by decide) (by rfl) (by rfl)) (nomark _))))) (@pss_one _ _ _ (@ps_ret _ _ _ _ pe_bl)) pss_nil) (@pss_cons _ _ _ _ _ (@ps_if _ _ _ _ _ _ _ _ (@pt_cmpR _ _ _ _ _ _ _ _ op_ne (@pe_callB _ _ _ _ _ _ _ _ (rLen K) call_lenM rfl m_len zq32x (@pa_cons _ _ _ _ _ (pv 0) pa_nil rfl) (by decide) (by decide) (by rfl) (by rfl)) (@pe_callB _ _ _ _ _ _ _ _ (rLen K) call_lenM rfl m_len zq32x (@pa_cons _ _ _ _ _ (pv 1) pa_nil rfl) (by decide) (by decide) (by rfl) (by rfl)) (nomark _)) (@pss_one _ _ _ (@ps_ret _ _ _ _ pe_bl)) pss_nil) (@pss_one _ _ _ (@ps_ret _ _ _ _ (@pe_callB _ _ _ _ _ _ _ _ (rAll K) (call_allM rfl) rfl m_all zq194x (@pa_cons _ _ _ _ _ (pe_lcomp (CompOk.of (show compOkB (defScope sLawAlike) ["found", "due"] _ ["k", "found", "due"] [none, some 0, some 1] = true by decide +kernel)) (@pi_range1 _ _ _ _ _ _ rfl m_range (@pa_cons _ _ _ _ _ (@pe_callB _ _ _ _ _ _ _ _ (rLen K) call_lenM rfl m_len zq32x (@pa_cons _ _ _ _ _ (pv 1) pa_nil rfl) (by decide) (by decide) (by rfl) (by rfl)) pa_nil rfl) (by rfl)) (fun _ _ _ _ => ⟨(pg_name (i := 0) (by show List.Nodup (["k", "found", "due"] : List Str); decide +kernel) rfl (Or.inl rfl)), pts_nil, (@pe_callC _ _ _ _ _ _ _ _ _ _ c__law_alike (hr.mono (zq3x _)) (@pa_cons _ _ _ _ _ (@pe_ix _ _ _ _ _ _ (rIx K) ix_seq (pv 1) (pv 0) (fun _ _ => rfl)) (@pa_cons _ _ _ _ _ (@pe_ix _ _ _ _ _ _ (rIx K) ix_seq (pv 2) (pv 0) (fun _ _ => rfl)) pa_nil rfl) rfl) (by rfl) (by decide) (by rfl) (by rfl))⟩)) pa_nil rfl) (by decide) (by decide) (by rfl) (by rfl)))))) pss_nil) (@pss_cons _ _ _ _ _ (@ps_if _ _ _ _ _ _ _ _ (PW.pt (pw_or (@pt_cmpR _ _ _ _ _ _ _ _ op_ne (@pe_callB _ _ _ _ _ _ _ _ (rIsi K) call_isi rfl m_isinstance zq63x (@pa_cons _ _ _ _ _ (pv 0) (@pa_cons _ _ _ _ _ (pe_bltn (v := .ty "bool") rfl m_bool zq200x rfl) pa_nil rfl) rfl) (by decide) (by decide) (by rfl) (by rfl)) (@pe_callB _ _ _ _ _ _ _ _ (rIsi K) call_isi rfl m_isinstance zq63x (@pa_cons _ _ _ _ _ (pv 1) (@pa_cons _ _ _ _ _ (pe_bltn (v := .ty "bool") rfl m_bool zq200x rfl) pa_nil rfl) rfl) (by decide) (by decide) (by rfl) (by rfl)) (nomark _)) (pw_or1 (@pt_cmpR _ _ _ _ _ _ _ _ op_ne (@pe_callB _ _ _ _ _ _ _ _ (rIsi K) call_isi rfl m_isinstance zq63x (@pa_cons _ _ _ _ _ (pv 0) (@pa_cons _ _ _ _ _ (pe_bltn (v := .ty "int") rfl m_int zq171x rfl) pa_nil rfl) rfl) (by decide) (by decide) (by rfl) (by rfl)) (@pe_callB _ _ _ _ _ _ _ _ (rIsi K) call_isi rfl m_isinstance zq63x (@pa_cons _ _ _ _ _ (pv 1) (@pa_cons _ _ _ _ _ (pe_bltn (v := .ty "int") rfl m_int zq171x rfl) pa_nil rfl) rfl) (by decide) (by decide) (by rfl) (by rfl)) (nomark _))))) (@pss_one _ _ _ (@ps_ret _ _ _ _ pe_bl)) pss_nil) (@pss_one _ _ _ (@ps_ret _ _ _ _ (@pe_and _ _ _ _ _ _ _ (@pe_cmpR _ _ _ _ _ _ _ _ op_eq (@pe_callB _ _ _ _ _ _ _ _ (rIsi K) call_isi rfl m_isinstance zq63x (@pa_cons _ _ _ _ _ (pv 0) (@pa_cons _ _ _ _ _ (pe_bltn (v := .ty "str") rfl m_str zq201x rfl) pa_nil rfl) rfl) (by decide) (by decide) (by rfl) (by rfl)) (@pe_callB _ _ _ _ _ _ _ _ (rIsi K) call_isi rfl m_isinstance zq63x (@pa_cons _ _ _ _ _ (pv 1) (@pa_cons _ _ _ _ _ (pe_bltn (v := .ty "str") rfl m_str zq201x rfl) pa_nil rfl) rfl) (by decide) (by decide) (by rfl) (by rfl)) (nomark _)) (@pe_one _ _ _ _ _ (@pe_cmpR _ _ _ _ _ _ _ _ op_eq (pv 0) (pv 1) (nomark _)))))))), ?_⟩
 refine Sv.enterD hlive hds hΦ (ρ := [.d false _, .d false _]) rfl ?_
 clear hΦ hds
 walk_at "dt"
 rcases hok with hs | ⟨ds, hd, hl, he⟩
 ·have h1 : (isiD d "list" || isiD d "tuple") = false := by cases d <;> first | rfl | cases hs
  rw [h1]
  walk_at "dt"
  rw [beq_self_eq_true]
  walk_at "dt"
  rw [beq_self_eq_true]
  walk_at "dt"
  rw [beq_self_eq_true]
  walk_at "dt"
  exact ⟨true, .self hs, q⟩
 rcases hd with rfl | rfl
 ·rw [(isi_list ds).1, (isi_list ds).2, Bool.true_or]
  walk_at "dt"
  refine EvN.ev (EvN.compR1 (by decide) rfl ?_)
  walk_at "dt"
  refine ⟨true, fun i es => es = List.replicate i (.bool true), rfl, ?_, ?_⟩
  ·rintro i d' es ⟨hi, rfl⟩ hl' rfl
   have hi' : i < ds.length := by omega
   have hat : atI ds (0 + (i : Int)) = some ds[i] := atI_some (by omega) (by rw [show (0 + (i : Int)).toNat = i by omega]; exact zq1x hi')
   walk_at "dt"
   refine ⟨by walk_at "wk", ?_⟩
   walk_at "dt"
   refine Ev.callD (mono__law_alike n) ?_
   walk_at "dt"
   refine ⟨rfl, ds[i], rfl, he _ (zq28x hi'), fun _ => rfl, ?_⟩
   show _ = List.replicate (i + 1) _
   rw [zq202x]
  ·rintro es hl' rfl
   refine ⟨List.replicate ds.length true, by simp, ?_⟩
   rw [show (List.replicate ds.length true).all id = true by simp]
   exact q
 ·rw [(isi_tuple ds).1, (isi_tuple ds).2, zq102x]
  walk_at "dt"
  refine EvN.ev (EvN.compR1 (by decide) rfl ?_)
  walk_at "dt"
  refine ⟨true, fun i es => es = List.replicate i (.bool true), rfl, ?_, ?_⟩
  ·rintro i d' es ⟨hi, rfl⟩ hl' rfl
   have hi' : i < ds.length := by omega
   have hat : atI ds (0 + (i : Int)) = some ds[i] := atI_some (by omega) (by rw [show (0 + (i : Int)).toNat = i by omega]; exact zq1x hi')
   walk_at "dt"
   refine ⟨by walk_at "wk", ?_⟩
   walk_at "dt"
   refine Ev.callD (mono__law_alike n) ?_
   walk_at "dt"
   refine ⟨rfl, ds[i], rfl, he _ (zq28x hi'), fun _ => rfl, ?_⟩
   show _ = List.replicate (i + 1) _
   rw [zq202x]
  ·rintro es hl' rfl
   refine ⟨List.replicate ds.length true, by simp, ?_⟩
   rw [show (List.replicate ds.length true).all id = true by simp]
   exact q
def F__law_copy : DF := fun ds Φ => ∃ (p n : Int) (cs : List Prs), ds = [netD p n cs] /\ cs.length <= 10000 /\ ∀ f, Φ f (netD p n cs)
theorem mono__law_copy : MonoF F__law_copy := by
 intro ds Φ Ψ hm z
 obtain ⟨p, n, cs, e, h, q⟩ := hm
 exact ⟨p, n, cs, e, h, fun f => z _ _ (q f)⟩
theorem scLawCopy : FnScope ["net"] ["net"] (defScope sLawCopy) := ⟨rfl, rfl, rfl, by decide +kernel, rfl, by decide +kernel, by decide +kernel⟩
theorem ok__law_copy (F : Fun K "_law_copy" "_law_copy" sLawCopy f fd)   (m_list : mg "list" = none)  :
  FnOk P w K mg base CX0 1 f fd ["net"] (spD 1 F__law_copy) := by
 refine F.ok scLawCopy (fun vs H Q E h => h.1) (fun cdv A outer s H vs Q E hr h => ?_)
 obtain ⟨nb, ds, Φ, hlive, hds, hΦ, hF⟩ := spD_out h
 obtain ⟨p, n, cs, rfl, hl, q⟩ := hF
 refine ⟨_, (@pss_one _ _ _ (@ps_ret _ _ _ _ (@pe_tup _ _ _ _ _ (@pa_cons _ _ _ _ _ (@pe_ix _ _ _ _ _ _ (rIxT K) ix_tup (pv 0) pe_int (fun _ _ => rfl)) (@pa_cons _ _ _ _ _ (@pe_ix _ _ _ _ _ _ (rIxT K) ix_tup (pv 0) pe_int (fun _ _ => rfl)) (@pa_cons _ _ _ _ _ (pe_lcomp (CompOk.of (show compOkB (defScope sLawCopy) ["net"] _ ["pairs"] [none] = true by decide +kernel)) (pi_listK (K := K) rfl (@pe_ix _ _ _ _ _ _ (rIxT K) ix_tup (pv 0) pe_int (fun _ _ => rfl))) (fun _ _ _ _ => ⟨(pg_name (i := 0) (by show List.Nodup (["pairs"] : List Str); decide +kernel) rfl (Or.inl rfl)), pts_nil, (@pe_callTy _ _ _ _ _ _ _ _ (rListOf K) call_listM rfl m_list zq84x (@pa_cons _ _ _ _ _ (pv 0) pa_nil rfl) (by decide) (by decide) (by rfl) (by rfl))⟩)) pa_nil rfl) rfl) rfl)))), ?_⟩
 refine Sv.enterD hlive hds hΦ (ρ := [.d false _]) rfl ?_
 clear hΦ hds
 walk_at "dt"
 refine EvN.ev (EvN.compL (by decide) rfl ?_)
 walk_at "dt"
 refine ⟨by rw [zq0x]; exact hl, fun v => ⟨false, fun i ds => ds = (cs.take i).map prsD, rfl, ?_, ?_⟩⟩
 ·rintro i d ds hd hl' rfl
  obtain ⟨prs, hprs, rfl⟩ := map_at hd
  walk_at "dt"
  refine ⟨by walk_at "wk", ?_⟩
  walk_at "dt"
  refine ⟨fun z => (by cases z), ?_⟩
  show _ = List.map _ _
  rw [take_snoc hprs, zq21x]
  rfl
 ·rintro ds hl' rfl
  rw [zq0x, zq62x]
  walk_at "dt"
  exact q _
theorem map_eraseIdxI : ∀ {N : List Int} {m : Nat}, (N.map PyData.int).eraseIdx m = (N.eraseIdx m).map .int
 | [], _ => rfl
 | _ :: _, 0 => rfl
 | x :: N, m + 1 => congrArg (PyData.int x :: ·) (map_eraseIdxI (N := N) (m := m))
def F__law_order : DF := fun ds Φ => ∃ (n : Int), ds = [.int n] /\ 0 <= n /\ n <= 400 /\ ∀ (f : Bool) (O : List Int), OrdP O n.toNat -> Φ f (rowD O)
theorem mono__law_order : MonoF F__law_order := by
 intro ds Φ Ψ hm z
 obtain ⟨n, e, h1, h2, q⟩ := hm
 exact ⟨n, e, h1, h2, fun f O a => z _ _ (q f O a)⟩
theorem scLawOrder : FnScope ["bag", "many", "left", "found", "k"] ["bag", "many"] (defScope sLawOrder) := ⟨rfl, rfl, rfl, by decide +kernel, rfl, by decide +kernel, by decide +kernel⟩
theorem ok__law_order (F : Fun K "_law_order" "_law_order" sLawOrder f fd)  (c__law_draw : Callee P w K mg base "_law_draw" 2 ["bag", "many"] spDraw) (m_list : mg "list" = none) (m_range : mg "range" = none) (m_len : mg "len" = none)  :
  FnOk P w K mg base CX0 3 f fd ["bag", "many"] (spB 2 F__law_order) := by
 refine F.ok scLawOrder (fun vs H Q E h => h.1) (fun cdv A outer s H vs Q E hr h => ?_)
 obtain ⟨b, l, ws, nb, ds, Φ, rfl, hB, hlive, hnb, hds, hΦ, hF⟩ := spB_out h
 obtain ⟨n, rfl, n1, n2, q⟩ := hF
 refine ⟨_, (@pss_cons _ _ _ _ _ (@ps_set _ _ (2) _ _ _ _ scLawOrder.nd rfl (Or.inl rfl) (@pe_callTy _ _ _ _ _ _ _ _ _ (call_listR rfl) rfl m_list zq84x (@pa_cons _ _ _ _ _ (@pe_callTy _ _ _ _ _ _ _ _ _ call_rangeM rfl m_range PyProof.Rows.boot_range (@pa_cons _ _ _ _ _ (pv 1) pa_nil rfl) (by decide) (by decide) (by rfl) (by rfl)) pa_nil rfl) (by decide) (by decide) (by rfl) (by rfl)) (by rfl) (by first | exact .inl rfl | exact .inr rfl | assumption)) (@pss_cons _ _ _ _ _ (@ps_set _ _ (3) _ _ _ _ scLawOrder.nd rfl (Or.inl rfl) (@pe_lst _ _ _ _ pa_nil) (by rfl) (by first | exact .inl rfl | exact .inr rfl | assumption)) (@pss_cons _ _ _ _ _ (@ps_for _ _ _ _ _ _ _ _ zq36x rfl (@pi_range1 _ _ _ _ _ _ rfl m_range (@pa_cons _ _ _ _ _ (pv 1) pa_nil rfl) (by rfl)) (pg_name (i := 4) scLawOrder.nd rfl (Or.inl rfl)) (@pss_one _ _ _ (@ps_expr _ _ _ _ (pe_bm zq72x zq111x zq112x mt_append (pv 3) (@pa_cons _ _ _ _ _ (pe_bm zq72x PySem.F.slot_list_pop PySem.F.type_list_pop mt_popAt (pv 2) (@pa_cons _ _ _ _ _ (@pe_callC _ _ _ _ _ _ _ _ _ _ c__law_draw (hr.mono (by decide)) (@pa_cons _ _ _ _ _ (pv 0) (@pa_cons _ _ _ _ _ (@pe_callB _ _ _ _ _ _ _ _ (rLen K) call_lenM rfl m_len zq32x (@pa_cons _ _ _ _ _ (pv 2) pa_nil rfl) (by decide) (by decide) (by rfl) (by rfl)) pa_nil rfl) rfl) (by rfl) (by decide) (by rfl) (by rfl)) pa_nil rfl)) pa_nil rfl)) (by rfl))) (by intro _; rfl)) (@pss_one _ _ _ (@ps_ret _ _ _ _ (pv 3)))))), ?_⟩
 refine Sv.enterB hB hlive hnb hds hΦ (ρ := [.bag, .d false _, .no, .no, .no]) rfl ?_
 clear hΦ hds
 refine Sv.seq ?_
 refine Sv.asgN (EvN.listRange ?_)
 walk_at "dt"
 intro A3
 walk_at "dt"
 intro A4
 obtain ⟨N0, hN0⟩ : ∃ N0, (List.range n.toNat).map (fun (i : Nat) => (0 : Int) + (i : Int)) = N0 := ⟨_, rfl⟩
 rw [hN0]
 have hNl : N0.length = n.toNat := by rw [<- hN0]; simp
 have hNm : ∀ x ∈ N0, 0 <= x /\ x < n := fun x hx => by
  rw [<- hN0] at hx
  obtain ⟨i, hi, rfl⟩ := zq9x.mp hx
  have := zq52x.mp hi; omega
 have hNd : N0.Nodup := by
  rw [<- hN0]
  refine zq49x.mpr (List.nodup_range.imp fun h z => h (by omega))
 refine Sv.seq ?_
 refine Sv.forR1 ?_
 walk_at "dt"
 refine ⟨fun i ρ => ∃ (N O : List Int) (f4 : Bool) (x5 : Sl), (O ++ N).Perm N0 /\ O.length = i /\ ρ = [.bag, .d false (.int n), .own A3 true (N.map .int), .own A4 f4 (O.map .int), x5], ⟨N0, [], _, _, List.Perm.refl _, rfl, rfl⟩, ?_, ?_⟩
 ·rintro i d ρ ⟨hi, rfl⟩ ⟨N, O, f4, x5, hp, hO, rfl⟩
  have hl := hp.length_eq
  rw [zq20x] at hl
  have hNl2 : (N.map PyData.int).length = N.length := zq0x ..
  have hOl2 : (O.map PyData.int).length = O.length := zq0x ..
  refine Gv.nameI ?_
  refine Sv.appPop (by decide) rfl rfl ?_
  walk_at "dt"
  intro r r0 r1
  obtain ⟨m, rfl⟩ := zq164x r0
  have hm : m < N.length := by omega
  refine ⟨m, .int N[m], rfl, by omega, by rw [zq2x, zq1x hm]; rfl, by omega, ?_⟩
  rw [show (N.map PyData.int).eraseIdx m = (N.eraseIdx m).map .int by rw [map_eraseIdxI], show O.map PyData.int ++ [.int N[m]] = (O ++ [N[m]]).map .int by rw [zq21x]; rfl]
  refine ⟨N.eraseIdx m, O ++ [N[m]], _, _, ?_, by rw [zq20x]; simp; omega, rfl⟩
  rw [zq108x]
  exact (zq182x O (perm_eraseIdx (zq1x hm))).trans hp
 rintro ρ ⟨N, O, f4, x5, hp, hO, rfl⟩
 have hl := hp.length_eq
 rw [zq20x] at hl
 have hNe : N = [] := zq93x.mp (by omega)
 subst hNe
 rw [zq87x] at hp
 have hOP : OrdP O n.toNat := ⟨hp.nodup_iff.mpr hNd, by omega, fun x hx => by have := hNm x (hp.mem_iff.mp hx); omega⟩
 refine Sv.demote 3 rfl ?_
 walk_at "dt"
 exact q _ O hOP
def F__law_renamed : DF := fun ds Φ => ∃ (p n : Int) (cs : List Prs) (O Q T : List Int), ds = [netD p n cs, rowD O, rowD Q, rowD T] /\ NK p n cs /\ OrdP O n.toNat /\ OrdP Q cs.length /\ T.length = Q.length /\ (∀ t ∈ T, 1 <= t /\ t < p /\ IsUn p t) /\ ∀ (cs' : List Prs) (f : Bool), NQ p O Q T cs cs' -> Φ f (netD p n cs')
theorem mono__law_renamed : MonoF F__law_renamed := by
 intro ds Φ Ψ hm z
 obtain ⟨p, n, cs, O, Q, T, e, h1, h2, h3, h4, h5, q⟩ := hm
 exact ⟨p, n, cs, O, Q, T, e, h1, h2, h3, h4, h5, fun c f a => z _ _ (q c f a)⟩
theorem scLawRenamed : FnScope ["net", "order", "rows", "times", "checks", "k", "pairs"] ["net", "order", "rows", "times"] (defScope sLawRenamed) := ⟨rfl, rfl, rfl, by decide +kernel, rfl, by decide +kernel, by decide +kernel⟩
theorem ok__law_renamed (F : Fun K "_law_renamed" "_law_renamed" sLawRenamed f fd)   (m_range : mg "range" = none) (m_len : mg "len" = none) (m_sorted : mg "sorted" = none)  :
  FnOk P w K mg base CX0 1 f fd ["net", "order", "rows", "times"] (spD 4 F__law_renamed) := by
 refine F.ok scLawRenamed (fun vs H Q E h => h.1) (fun cdv A outer s H vs Q E hr h => ?_)
 obtain ⟨nb, ds, Φ, hlive, hds, hΦ, hF⟩ := spD_out h
 obtain ⟨p, n, cs, O, Q, T, rfl, hN, hO, hQ, hT, hTr, q⟩ := hF
 refine ⟨_, (@pss_cons _ _ _ _ _ (@ps_set _ _ (4) _ _ _ _ scLawRenamed.nd rfl (Or.inl rfl) (@pe_lst _ _ _ _ pa_nil) (by rfl) (by first | exact .inl rfl | exact .inr rfl | assumption)) (@pss_cons _ _ _ _ _ (@ps_for _ _ _ _ _ _ _ _ zq36x rfl (@pi_range1 _ _ _ _ _ _ rfl m_range (@pa_cons _ _ _ _ _ (@pe_callB _ _ _ _ _ _ _ _ (rLen K) call_lenM rfl m_len zq32x (@pa_cons _ _ _ _ _ (pv 2) pa_nil rfl) (by decide) (by decide) (by rfl) (by rfl)) pa_nil rfl) (by rfl)) (pg_name (i := 5) scLawRenamed.nd rfl (Or.inr rfl)) (@pss_cons _ _ _ _ _ (@ps_set _ _ (6) _ _ _ _ scLawRenamed.nd rfl (Or.inl rfl) (@pe_ix _ _ _ _ _ _ (rIxL K) ix_list (@pe_ix _ _ _ _ _ _ (rIxT K) ix_tup (pv 0) pe_int (fun _ _ => rfl)) (@pe_ix _ _ _ _ _ _ (rIxL K) ix_list (pv 2) (pv 5) (fun _ _ => rfl)) (fun _ _ => rfl)) (by rfl) (by first | exact .inl rfl | exact .inr rfl | assumption)) (@pss_one _ _ _ (@ps_expr _ _ _ _ (pe_bm zq72x zq111x zq112x mt_append (pv 4) (@pa_cons _ _ _ _ _ (@pe_callB _ _ _ _ _ _ _ _ (rSortP K) call_sortP rfl m_sorted zq113x (@pa_cons _ _ _ _ _ (pe_lcomp (CompOk.of (show compOkB (defScope sLawRenamed) ["net", "order", "rows", "times", "checks", "k", "pairs"] _ ["place", "factor", "net", "order", "times", "k"] [none, none, some 0, some 1, some 3, some 5] = true by decide +kernel)) (pi_listK (K := K) rfl (pv 6)) (fun _ _ _ _ => ⟨(@pg_tupM _ (K) _ _ _ (2) _ rfl rfl (@pgs_cons _ _ _ _ _ (pg_name (i := 0) (by show List.Nodup (["place", "factor", "net", "order", "times", "k"] : List Str); decide +kernel) rfl (Or.inl rfl)) (@pgs_cons _ _ _ _ _ (pg_name (i := 1) (by show List.Nodup (["place", "factor", "net", "order", "times", "k"] : List Str); decide +kernel) rfl (Or.inl rfl)) pgs_nil (by rfl)) (by rfl)) (by rfl) (by rfl)), pts_nil, (@pe_tup _ _ _ _ _ (@pa_cons _ _ _ _ _ (@pe_ix _ _ _ _ _ _ (rIxL K) ix_list (pv 3) (pv 0) (fun _ _ => rfl)) (@pa_cons _ _ _ _ _ (@pe_op _ _ _ _ _ _ _ _ op_mod (@pe_op _ _ _ _ _ _ _ _ op_mulA (pv 1) (@pe_ix _ _ _ _ _ _ (rIxL K) ix_list (pv 4) (pv 5) (fun _ _ => rfl))) (@pe_ix _ _ _ _ _ _ (rIxT K) ix_tup (pv 2) pe_int (fun _ _ => rfl))) pa_nil rfl) rfl))⟩)) pa_nil rfl) (by decide) (by decide) (by rfl) (by rfl)) pa_nil rfl)) (by rfl)))) (by intro _; rfl)) (@pss_one _ _ _ (@ps_ret _ _ _ _ (@pe_tup _ _ _ _ _ (@pa_cons _ _ _ _ _ (@pe_ix _ _ _ _ _ _ (rIxT K) ix_tup (pv 0) pe_int (fun _ _ => rfl)) (@pa_cons _ _ _ _ _ (@pe_ix _ _ _ _ _ _ (rIxT K) ix_tup (pv 0) pe_int (fun _ _ => rfl)) (@pa_cons _ _ _ _ _ (pv 4) pa_nil rfl) rfl) rfl)))))), ?_⟩
 refine Sv.enterD hlive hds hΦ (ρ := [.d false _, .d false _, .d false _, .d false _, .no, .no, .no]) rfl ?_
 clear hΦ hds
 obtain ⟨p2, p60⟩ := id hN.hp
 have n0 := hN.n0
 have n1 := hN.n1
 have hcl := hN.l
 have hOl := hO.len
 have hQl := hQ.len
 have hcm : (cs.map prsD).length = cs.length := zq0x ..
 have hQm : (Q.map PyData.int).length = Q.length := zq0x ..
 unfold rowD
 walk_at "dt"
 intro A4
 refine Sv.seq ?_
 refine Sv.forR1 ?_
 walk_at "dt"
 refine ⟨fun i ρ => ∃ (cs' : List Prs) (f4 : Bool) (x5 x6 : Sl), cs'.length = i /\ (∀ (k : Nat) b, cs'[k]? = some b -> (b.Perm ((cs.getD (oAt Q k).toNat []).map fun pr => (oAt O pr.1.toNat, pr.2 * T.getD k 0 % p)) /\ b.Pairwise fun c d => lexB d c = false)) /\ ρ = [.d false (netD p n cs), .d false (.list (O.map .int)), .d false (.list (Q.map .int)), .d false (.list (T.map .int)), .own A4 f4 (cs'.map prsD), x5, x6], ⟨[], _, _, _, rfl, (fun k b z => by simp at z), rfl⟩, ?_, ?_⟩
 ·rintro i d ρ ⟨hi, rfl⟩ ⟨cs', f4, x5, x6, hl', hcs', rfl⟩
  have hiQ : i < cs.length := by omega
  have hlt := hQ.lt hiQ
  have hat1 : atI (Q.map PyData.int) (0 + (i : Int)) = some (.int (oAt Q i)) := atI_some (by omega) (by rw [show (0 + (i : Int)).toNat = i by omega, zq2x, hQ.at hiQ]; rfl)
  obtain ⟨P0, hP0⟩ : ∃ P0, cs.getD (oAt Q i).toNat [] = P0 := ⟨_, rfl⟩
  have hg0 : cs[(oAt Q i).toNat]? = some P0 := by rw [<- hP0, zq11x, zq1x (by omega)]; rfl
  have hat2 : atI (cs.map prsD) (oAt Q i) = some (prsD P0) := atI_some (by omega) (by rw [zq2x, hg0]; rfl)
  have hmP := zq4x hg0
  have hPr : ∀ pr ∈ P0, 0 <= pr.1 /\ pr.1 < n /\ 1 <= pr.2 /\ pr.2 < p := (hN.r P0 hmP).2
  have hPl := rise_short (hN.r P0 hmP).1 fun pr hpr => let ⟨a, b, _⟩ := hPr pr hpr; ⟨a, b⟩
  have hPm : (P0.map pairD).length = P0.length := zq0x ..
  have hiT : i < T.length := by omega
  have hat3 : atI (T.map PyData.int) (0 + (i : Int)) = some (.int T[i]) := atI_some (by omega) (by rw [show (0 + (i : Int)).toNat = i by omega, zq2x, zq1x hiT]; rfl)
  obtain ⟨t1, t2, t3⟩ := hTr T[i] (zq28x _)
  have eT : T.getD i 0 = T[i] := by rw [zq11x, zq1x hiT]; rfl
  have hcm' : (cs'.map prsD).length = cs'.length := zq0x ..
  walk_at "dt"
  refine EvN.ev (EvN.sortP (EvN.ev (EvN.compL (by decide) rfl ?_)))
  walk_at "dt"
  refine fun v => CompD.rel pairD false (fun j x => ∃ pr, P0[j]? = some pr /\ x = (oAt O pr.1.toNat, pr.2 * T[i] % p)) ?_ fun os hol hos => ?_
  ·rintro j d hd
   obtain ⟨pr, hj, rfl⟩ := map_at hd
   obtain ⟨r0, r1, r2, r3⟩ := hPr pr (zq4x hj)
   have hat : atI (O.map PyData.int) pr.1 = some (.int (oAt O pr.1.toNat)) := atI_some r0 (by rw [zq2x, hO.at (by omega)]; rfl)
   unfold pairD
   walk_at "dt"
   refine ⟨by walk_at "wk", ?_⟩
   walk_at "dt"
   exact ⟨fun z => absurd z (by decide), (oAt O pr.1.toNat, pr.2 * T[i] % p), rfl, pr, hj, rfl⟩
  rw [hPm] at hol
  have eos : os = P0.map fun pr => (oAt O pr.1.toNat, pr.2 * T[i] % p) := by
   apply zq35x
   intro k
   rw [zq2x]
   by_cases hk : k < P0.length
   ·obtain ⟨t, e1, e2⟩ := hos k os[k] (zq1x (by omega))
    rw [e1, zq1x (by omega), e2]; rfl
   ·rw [zq13x (by omega), zq13x (by omega)]; rfl
  refine ⟨os, rfl, by omega, fun xs g hxp hxs => ⟨by omega, ?_⟩⟩
  refine ⟨cs' ++ [xs], _, _, _, by rw [zq20x]; simp; omega, fun k b hb => ?_, by rw [zq21x]; rfl⟩
  by_cases hk : k < cs'.length
  ·rw [zq38x hk] at hb
   exact hcs' k b hb
  ·have hki : k = i := by
    have := (zq5x.mp hb).1
    rw [zq20x, zq41x] at this
    omega
   subst hki
   rw [zq46x (by omega), hl', zq167x] at hb
   cases hb
   exact ⟨by rw [hP0, eT, <- eos]; exact hxp, hxs⟩
 rintro ρ ⟨cs', f4, x5, x6, hl', hcs', rfl⟩
 refine Sv.demote 4 rfl ?_
 walk_at "dt"
 refine q cs' _ ⟨by omega, fun k hk => ?_, fun k b e => (hcs' k b e).1, fun b hb => ?_⟩
 ·have hkT : k < T.length := by omega
  rw [zq11x, zq1x hkT]
  exact (hTr T[k] (zq28x _)).2.2
 ·obtain ⟨k, hk⟩ := zq34x hb
  exact (hcs' k b hk).2
def F__law_unit : DF := fun ds Φ => ∃ p : Int, ds = [.int p] /\ POk p /\ ∀ (t : Int) (f : Bool), 1 <= t -> t < p -> IsUn p t -> Φ f (.int t)
theorem mono__law_unit : MonoF F__law_unit := by
 intro ds Φ Ψ hm z
 obtain ⟨p, e, h, q⟩ := hm
 exact ⟨p, e, h, fun t f a b c => z _ _ (q t f a b c)⟩
theorem scLawUnit : FnScope ["bag", "p", "number"] ["bag", "p"] (defScope sLawUnit) := ⟨rfl, rfl, rfl, by decide +kernel, rfl, by decide +kernel, by decide +kernel⟩
theorem ok__law_unit (F : Fun K "_law_unit" "_law_unit" sLawUnit f fd)  (c__law_draw : Callee P w K mg base "_law_draw" 2 ["bag", "many"] spDraw) (c__law_part : Callee P w K mg base "_law_part" 1 ["p", "b"] (spD 2 F__law_part))   :
  FnOk P w K mg base CX0 3 f fd ["bag", "p"] (spB 2 F__law_unit) := by
 refine F.ok scLawUnit (fun vs H Q E h => h.1) (fun cdv A outer s H vs Q E hr h => ?_)
 obtain ⟨b, l, ws, nb, ds, Φ, rfl, hB, hlive, hnb, hds, hΦ, hF⟩ := spB_out h
 obtain ⟨p, rfl, hp, q⟩ := hF
 refine ⟨_, (@pss_cons _ _ _ _ _ (@ps_set _ _ (2) _ _ _ _ scLawUnit.nd rfl (Or.inl rfl) (@pe_op _ _ _ _ _ _ _ _ op_add pe_int (@pe_callC _ _ _ _ _ _ _ _ _ _ c__law_draw (hr.mono (by decide)) (@pa_cons _ _ _ _ _ (pv 0) (@pa_cons _ _ _ _ _ (@pe_op _ _ _ _ _ _ _ _ op_sub (pv 1) pe_int) pa_nil rfl) rfl) (by rfl) (by decide) (by rfl) (by rfl))) (by rfl) (by first | exact .inl rfl | exact .inr rfl | assumption)) (@pss_one _ _ _ (@ps_ret _ _ _ _ (@pe_ifExp _ _ _ _ _ _ _ _ (@pt_cmpR _ _ _ _ _ _ _ _ op_ne (@pe_callC _ _ _ _ _ _ _ _ _ _ c__law_part (hr.mono (by decide)) (@pa_cons _ _ _ _ _ (pv 1) (@pa_cons _ _ _ _ _ (pv 2) pa_nil rfl) rfl) (by rfl) (by decide) (by rfl) (by rfl)) pe_int (nomark _)) (pv 2) pe_int)))), ?_⟩
 refine Sv.enterB hB hlive hnb hds hΦ (ρ := [.bag, .d false _, .no]) rfl ?_
 clear hΦ hds
 obtain ⟨p2, p60⟩ := id hp
 walk_at "dt"
 intro y y0 y1
 walk_at "dt"
 refine Ev.callD mono__law_part ?_
 walk_at "dt"
 refine ⟨rfl, p, 1 + y, rfl, hp, fun r r0 r1 hr => ?_⟩
 by_cases c : r = 0
 ·subst c
  walk_at "dt"
  exact q 1 _ (by omega) (by omega) ⟨1, 0, by omega⟩
 ·walk_at "dt"
  obtain ⟨k, hk⟩ := hr c
  exact q (1 + y) _ (by omega) (by omega) ⟨r, k, hk⟩
def F__law_times : DF := fun ds Φ => ∃ (p : Int) (so : Wo) (T : List Int), ds = [.int p, woD so, rowD T] /\ POk p /\ so.length = T.length /\ so.length <= 400 /\ (∀ x, some x ∈ so -> 0 <= x /\ x < p) /\ (∀ t ∈ T, 1 <= t /\ t < p) /\ ∀ f, Φ f (woD ((List.range so.length).map fun k => (so.getD k none).map fun s => s * T.getD k 0 % p))
theorem mono__law_times : MonoF F__law_times := by
 intro ds Φ Ψ hm z
 obtain ⟨p, so, T, e, h1, h2, h3, h4, h5, q⟩ := hm
 exact ⟨p, so, T, e, h1, h2, h3, h4, h5, fun f => z _ _ (q f)⟩
theorem scLawTimes : FnScope ["p", "some", "times"] ["p", "some", "times"] (defScope sLawTimes) := ⟨rfl, rfl, rfl, by decide +kernel, rfl, by decide +kernel, by decide +kernel⟩
theorem ok__law_times (F : Fun K "_law_times" "_law_times" sLawTimes f fd)   (m_range : mg "range" = none) (m_len : mg "len" = none)  :
    FnOk P w K mg base CX0 1 f fd ["p", "some", "times"] (spD 3 F__law_times) := by
  refine F.ok scLawTimes (fun vs H Q E h => h.1) (fun cdv A outer s H vs Q E hr h => ?_)
  obtain ⟨nb, ds, Φ, hlive, hds, hΦ, hF⟩ := spD_out h
  obtain ⟨p, so, T, rfl, hp, hsl, hs4, hso, hT, q⟩ := hF
  refine ⟨_, (@pss_one _ _ _ (@ps_ret _ _ _ _ (pe_lcomp (CompOk.of (show compOkB (defScope sLawTimes) ["p", "some", "times"] _ ["k", "p", "some", "times"] [none, some 0, some 1, some 2] = true by decide +kernel)) (@pi_range1 _ _ _ _ _ _ rfl m_range (@pa_cons _ _ _ _ _ (@pe_callB _ _ _ _ _ _ _ _ (rLen K) call_lenM rfl m_len zq32x (@pa_cons _ _ _ _ _ (pv 1) pa_nil rfl) (by decide) (by decide) (by rfl) (by rfl)) pa_nil rfl) (by rfl)) (fun _ _ _ _ => ⟨(pg_name (i := 0) (by show List.Nodup (["k", "p", "some", "times"] : List Str); decide +kernel) rfl (Or.inl rfl)), pts_nil, (@pe_ifExp _ _ _ _ _ _ _ _ (@pt_cmpR _ _ _ _ _ _ _ _ op_isM (@pe_ix _ _ _ _ _ _ (rIxL K) ix_list (pv 2) (pv 0) (fun _ _ => rfl)) pe_non (nomark _)) pe_non (@pe_op _ _ _ _ _ _ _ _ op_mod (@pe_op _ _ _ _ _ _ _ _ op_mulA (@pe_ix _ _ _ _ _ _ (rIxL K) ix_list (pv 2) (pv 0) (fun _ _ => rfl)) (@pe_ix _ _ _ _ _ _ (rIxL K) ix_list (pv 3) (pv 0) (fun _ _ => rfl))) (pv 1)))⟩)))), ?_⟩
  refine Sv.enterD hlive hds hΦ (ρ := [.d false _, .d false _, .d false _]) rfl ?_
  clear hΦ hds
  obtain ⟨p2, p60⟩ := id hp
  have hsm : (so.map optD).length = so.length := zq0x ..
  unfold rowD woD
  walk_at "dt"
  refine EvN.ev (EvN.compR1 (by decide) rfl ?_)
  walk_at "dt"
  refine CompD.rel optD true (fun j x => x = (so.getD j none).map fun s => s * T.getD j 0 % p) ?_ fun os hol hos => ?_
  · rintro j d ⟨hj, rfl⟩
    have hjs : j < so.length := by omega
    have hjT : j < T.length := by omega
    have eT : T.getD j 0 = T[j] := by rw [zq11x, zq1x hjT]; rfl
    have eS : so[j]? = some (so.getD j none) := by rw [zq11x, zq1x hjs]; rfl
    have hatT : atI (T.map PyData.int) (0 + (j : Int)) = some (.int T[j]) := atI_some (by omega) (by rw [show (0 + (j : Int)).toNat = j by omega, zq2x, zq1x hjT]; rfl)
    have hatS : atI (so.map optD) (0 + (j : Int)) = some (optD (so.getD j none)) := atI_some (by omega) (by rw [show (0 + (j : Int)).toNat = j by omega, zq2x, eS]; rfl)
    obtain ⟨t1, t2⟩ := hT T[j] (zq28x _)
    rw [eT]
    generalize so.getD j none = o at eS hatS ⊢
    cases o with
    | none =>
      have hatS : atI (so.map optD) (0 + (j : Int)) = some .none := hatS
      walk_at "dt"
      refine ⟨by walk_at "wk", ?_⟩
      walk_at "dt"
      exact ⟨none, rfl, rfl⟩
    | some x =>
      have hatS : atI (so.map optD) (0 + (j : Int)) = some (.int x) := hatS
      have hx := hso x (zq4x eS)
      walk_at "dt"
      refine ⟨by walk_at "wk", ?_⟩
      walk_at "dt"
      exact ⟨some (x * T[j] % p), rfl, rfl⟩
  have hol : os.length = so.length := by omega
  rw [map_range hol hos]
  exact q _
def F__law_right : DF := fun ds Φ => ∃ (p n : Int) (cs : List Prs) (wd : Wo) (O Q T : List Int), ds = [netD p n cs, woD wd, rowD O, rowD Q, rowD T] /\ NK p n cs /\ wd.length = n.toNat /\ (∀ x, some x ∈ wd -> 0 <= x /\ x < p) /\ OrdP O n.toNat /\ OrdP Q cs.length /\ T.length = Q.length /\ (∀ t ∈ T, 1 <= t /\ t < p /\ IsUn p t) /\ ∀ f, Φ f (.bool true)
theorem mono__law_right : MonoF F__law_right := by
 intro ds Φ Ψ hm z
 obtain ⟨p, n, cs, wd, O, Q, T, e, h1, h2, h3, h4, h5, h6, h7, q⟩ := hm
 exact ⟨p, n, cs, wd, O, Q, T, e, h1, h2, h3, h4, h5, h6, h7, fun f => z _ _ (q f)⟩
theorem alike_wo {n : Nat} {w : Wo} (h : w.length <= 10000) : alikeOk (n + 2) (.list (w.map optD)) := by
 refine .inr ⟨_, .inl rfl, by rw [zq0x]; exact h, fun e he => ?_⟩
 obtain ⟨x, _, rfl⟩ := zq9x.mp he
 cases x <;> exact .inl rfl
theorem alike_rws {n : Nat} {R : List (List Int)} (h : R.length <= 10000) (hr : ∀ r ∈ R, r.length <= 10000) : alikeOk (n + 3) (.list (R.map rowD)) := by
 refine .inr ⟨_, .inl rfl, by rw [zq0x]; exact h, fun e he => ?_⟩
 obtain ⟨r, hm, rfl⟩ := zq9x.mp he
 refine .inr ⟨_, .inl rfl, by rw [zq0x]; exact hr r hm, fun e he => ?_⟩
 obtain ⟨x, _, rfl⟩ := zq9x.mp he
 exact .inl rfl
theorem alike_deg {n : Nat} {a b r s : List Int} (h : r.length <= 10000) (h' : s.length <= 10000) : alikeOk (n + 4) (.tuple [.list (pairsD a r), .list (pairsD b s)]) := by
 have key : ∀ {a r : List Int}, r.length <= 10000 -> alikeOk (n + 3) (.list (pairsD a r)) := fun {a r} h => by
  refine .inr ⟨_, .inl rfl, by unfold pairsD; rw [zq0x]; exact h, fun e he => ?_⟩
  obtain ⟨x, _, rfl⟩ := zq9x.mp he
  refine .inr ⟨_, .inr rfl, by show 2 <= 10000; omega, fun e he => ?_⟩
  simp only [zq17x, List.not_mem_nil, or_false] at he
  rcases he with rfl | rfl <;> exact .inl rfl
 refine .inr ⟨_, .inr rfl, by show 2 <= 10000; omega, fun e he => ?_⟩
 simp only [zq17x, List.not_mem_nil, or_false] at he
 rcases he with rfl | rfl
 ·exact key h
 ·exact key h'
theorem shaped_w4 (p n : Int) (cs cs' : List Prs) (ws ws' : Wo) : SeqAt.shaped (.tuple [netD p n cs, .list (ws.map optD), netD p n cs', .list (ws'.map optD)]) = true := by
 have h1 := shaped_checks cs
 have h2 := shaped_checks cs'
 have hi : ∀ l : Wo, PyData.depthAll (l.map optD) = 0 /\ PyData.canLayAll0 (l.map optD) = true := fun l => by
  induction l with
  | nil => simp [PyData.depthAll, PyData.canLayAll0]
  | cons a r ih => cases a <;> simp [PyData.depthAll, PyData.depth, PyData.canLayAll0, PyData.canLay0, optD, ih.1, ih.2]
 unfold SeqAt.shaped netD
 simp only [PyData.canLay0, PyData.canLayAll0, PyData.depth, PyData.depthAll, h1.2, h2.2, (hi ws).1, (hi ws').1, (hi ws).2, (hi ws').2, zq127x, Bool.and_true]
 have := h1.1
 have := h2.1
 simp
 omega
theorem scLawRight : FnScope ["net", "word", "order", "rows", "times", "other", "put", "handed", "some", "there", "due"] ["net", "word", "order", "rows", "times"] (defScope sLawRight) := ⟨rfl, rfl, rfl, by decide +kernel, rfl, by decide +kernel, by decide +kernel⟩
theorem ok__law_right (F : Fun K "_law_right" "_law_right" sLawRight f fd)  (c__law_renamed : Callee P w K mg base "_law_renamed" 1 ["net", "order", "rows", "times"] (spD 4 F__law_renamed)) (c_sums : Callee P w K mg base "sums" 3 ["net", "word"] (spD 2 F_sums)) (c_seats : Callee P w K mg base "seats" 1 ["net"] spSeats) (c__law_copy : Callee P w K mg base "_law_copy" 1 ["net"] (spD 1 F__law_copy)) (c__law_alike : Callee P w K mg base "_law_alike" 5 ["found", "due"] (spD 2 (F__law_alike 5))) (c__law_times : Callee P w K mg base "_law_times" 1 ["p", "some", "times"] (spD 3 F__law_times)) (c_is_true : Callee P w K mg base "is_true" 4 ["net", "word"] (spD 2 F_is_true)) (c_crossed : Callee P w K mg base "crossed" 1 ["net"] (spD 1 F_crossed)) (c_degrees : Callee P w K mg base "degrees" 2 ["net"] (spD 1 F_degrees)) (m_list : mg "list" = none) (m_sorted : mg "sorted" = none) (m_range : mg "range" = none)  :
  FnOk P w K mg base CX0 6 f fd ["net", "word", "order", "rows", "times"] (spD 5 F__law_right) := by
 refine F.ok scLawRight (fun vs H Q E h => h.1) (fun cdv A outer s H vs Q E hr h => ?_)
 obtain ⟨nb, ds, Φ, hlive, hds, hΦ, hF⟩ := spD_out h
 obtain ⟨p, n, cs, wd, O, Q, T, rfl, hN, hwl, hwx, hO, hQ, hTl, hT, q⟩ := hF
 refine ⟨_, (@pss_cons _ _ _ _ _ (@ps_set _ _ (5) _ _ _ _ scLawRight.nd rfl (Or.inl rfl) (@pe_callC _ _ _ _ _ _ _ _ _ _ c__law_renamed (hr.mono (by decide)) (@pa_cons _ _ _ _ _ (pv 0) (@pa_cons _ _ _ _ _ (pv 2) (@pa_cons _ _ _ _ _ (pv 3) (@pa_cons _ _ _ _ _ (pv 4) pa_nil rfl) rfl) rfl) rfl) (by rfl) (by decide) (by rfl) (by rfl)) (by rfl) (by first | exact .inl rfl | exact .inr rfl | assumption)) (@pss_cons _ _ _ _ _ (ps_setC (i := 6) scLawRight.nd rfl rfl (CompOk.of (show compOkB (defScope sLawRight) ["net", "word", "order", "rows", "times", "other", "put", "handed", "some", "there", "due"] _ ["place", "word", "order"] [none, some 1, some 2] = true by decide +kernel)) (@pi_range1 _ _ _ _ _ _ rfl m_range (@pa_cons _ _ _ _ _ (@pe_ix _ _ _ _ _ _ (rIxT K) ix_tup (pv 0) pe_int (fun _ _ => rfl)) pa_nil rfl) (by rfl)) (fun _ _ _ _ => ⟨(pg_name (i := 0) (by show List.Nodup (["place", "word", "order"] : List Str); decide +kernel) rfl (Or.inl rfl)), pts_nil, (@pe_ix _ _ _ _ _ _ (rIxL K) ix_list (pv 1) (pe_bmK (K := K) rfl (pe_bm zq72x zq172x zq173x mt_index (pv 2) (@pa_cons _ _ _ _ _ (pv 0) pa_nil rfl))) (fun _ _ => rfl))⟩)) (@pss_cons _ _ _ _ _ (@ps_set _ _ (7) _ _ _ _ scLawRight.nd rfl (Or.inl rfl) (@pe_tup _ _ _ _ _ (@pa_cons _ _ _ _ _ (@pe_callC _ _ _ _ _ _ _ _ _ _ c__law_copy (hr.mono (by decide)) (@pa_cons _ _ _ _ _ (pv 0) pa_nil rfl) (by rfl) (by decide) (by rfl) (by rfl)) (@pa_cons _ _ _ _ _ (@pe_callTy _ _ _ _ _ _ _ _ (rListOf K) call_listM rfl m_list zq84x (@pa_cons _ _ _ _ _ (pv 1) pa_nil rfl) (by decide) (by decide) (by rfl) (by rfl)) (@pa_cons _ _ _ _ _ (@pe_callC _ _ _ _ _ _ _ _ _ _ c__law_copy (hr.mono (by decide)) (@pa_cons _ _ _ _ _ (pv 5) pa_nil rfl) (by rfl) (by decide) (by rfl) (by rfl)) (@pa_cons _ _ _ _ _ (@pe_callTy _ _ _ _ _ _ _ _ (rListOf K) call_listM rfl m_list zq84x (@pa_cons _ _ _ _ _ (pv 6) pa_nil rfl) (by decide) (by decide) (by rfl) (by rfl)) pa_nil rfl) rfl) rfl) rfl)) (by rfl) (by first | exact .inl rfl | exact .inr rfl | assumption)) (@pss_cons _ _ _ _ _ (@ps_set _ _ (8) _ _ _ _ scLawRight.nd rfl (Or.inr rfl) (@pe_callC _ _ _ _ _ _ _ _ _ _ c_sums (hr.mono (by decide)) (@pa_cons _ _ _ _ _ (@pe_ix _ _ _ _ _ _ (rIxT K) ix_tup (pv 7) pe_int (fun _ _ => rfl)) (@pa_cons _ _ _ _ _ (@pe_ix _ _ _ _ _ _ (rIxT K) ix_tup (pv 7) pe_int (fun _ _ => rfl)) pa_nil rfl) rfl) (by rfl) (by decide) (by rfl) (by rfl)) (by rfl) (by first | exact .inl rfl | exact .inr rfl | assumption)) (@pss_cons _ _ _ _ _ (@ps_if _ _ _ _ _ _ _ _ (@pt_not _ _ _ _ (@pt_truthK _ (K) _ _ rfl (@pe_callC _ _ _ _ _ _ _ _ _ _ c__law_alike (hr.mono (by decide)) (@pa_cons _ _ _ _ _ (@pe_callC _ _ _ _ _ _ _ _ _ _ c_sums (hr.mono (by decide)) (@pa_cons _ _ _ _ _ (@pe_ix _ _ _ _ _ _ (rIxT K) ix_tup (pv 7) pe_int (fun _ _ => rfl)) (@pa_cons _ _ _ _ _ (@pe_ix _ _ _ _ _ _ (rIxT K) ix_tup (pv 7) pe_int (fun _ _ => rfl)) pa_nil rfl) rfl) (by rfl) (by decide) (by rfl) (by rfl)) (@pa_cons _ _ _ _ _ (@pe_callC _ _ _ _ _ _ _ _ _ _ c__law_times (hr.mono (by decide)) (@pa_cons _ _ _ _ _ (@pe_ix _ _ _ _ _ _ (rIxT K) ix_tup (pv 0) pe_int (fun _ _ => rfl)) (@pa_cons _ _ _ _ _ (pe_lcomp (CompOk.of (show compOkB (defScope sLawRight) ["net", "word", "order", "rows", "times", "other", "put", "handed", "some", "there", "due"] _ ["c", "some"] [none, some 8] = true by decide +kernel)) (pi_listK (K := K) rfl (pv 3)) (fun _ _ _ _ => ⟨(pg_name (i := 0) (by show List.Nodup (["c", "some"] : List Str); decide +kernel) rfl (Or.inl rfl)), pts_nil, (@pe_ix _ _ _ _ _ _ (rIxL K) ix_list (pv 1) (pv 0) (fun _ _ => rfl))⟩)) (@pa_cons _ _ _ _ _ (pv 4) pa_nil rfl) rfl) rfl) (by rfl) (by decide) (by rfl) (by rfl)) pa_nil rfl) rfl) (by rfl) (by decide) (by rfl) (by rfl)) (fun _ => rfl))) (@pss_one _ _ _ (@ps_ret _ _ _ _ pe_bl)) pss_nil) (@pss_cons _ _ _ _ _ (@ps_if _ _ _ _ _ _ _ _ (@pt_not _ _ _ _ (@pt_truthK _ (K) _ _ rfl (@pe_callC _ _ _ _ _ _ _ _ _ _ c__law_alike (hr.mono (by decide)) (@pa_cons _ _ _ _ _ (@pe_callC _ _ _ _ _ _ _ _ _ _ c_is_true (hr.mono (by decide)) (@pa_cons _ _ _ _ _ (@pe_ix _ _ _ _ _ _ (rIxT K) ix_tup (pv 7) pe_int (fun _ _ => rfl)) (@pa_cons _ _ _ _ _ (@pe_ix _ _ _ _ _ _ (rIxT K) ix_tup (pv 7) pe_int (fun _ _ => rfl)) pa_nil rfl) rfl) (by rfl) (by decide) (by rfl) (by rfl)) (@pa_cons _ _ _ _ _ (@pe_callC _ _ _ _ _ _ _ _ _ _ c_is_true (hr.mono (by decide)) (@pa_cons _ _ _ _ _ (@pe_ix _ _ _ _ _ _ (rIxT K) ix_tup (pv 7) pe_int (fun _ _ => rfl)) (@pa_cons _ _ _ _ _ (@pe_ix _ _ _ _ _ _ (rIxT K) ix_tup (pv 7) pe_int (fun _ _ => rfl)) pa_nil rfl) rfl) (by rfl) (by decide) (by rfl) (by rfl)) pa_nil rfl) rfl) (by rfl) (by decide) (by rfl) (by rfl)) (fun _ => rfl))) (@pss_one _ _ _ (@ps_ret _ _ _ _ pe_bl)) pss_nil) (@pss_cons _ _ _ _ _ (@ps_set _ _ (9) _ _ _ _ scLawRight.nd rfl (Or.inr rfl) (@pe_callC _ _ _ _ _ _ _ _ _ _ c_seats (hr.mono (by decide)) (@pa_cons _ _ _ _ _ (@pe_ix _ _ _ _ _ _ (rIxT K) ix_tup (pv 7) pe_int (fun _ _ => rfl)) pa_nil rfl) (by rfl) (by decide) (by rfl) (by rfl)) (by rfl) (by first | exact .inl rfl | exact .inr rfl | assumption)) (@pss_cons _ _ _ _ _ (ps_setC (i := 10) scLawRight.nd rfl rfl (CompOk.of (show compOkB (defScope sLawRight) ["net", "word", "order", "rows", "times", "other", "put", "handed", "some", "there", "due"] _ ["place", "order", "rows", "there"] [none, some 2, some 3, some 9] = true by decide +kernel)) (@pi_range1 _ _ _ _ _ _ rfl m_range (@pa_cons _ _ _ _ _ (@pe_ix _ _ _ _ _ _ (rIxT K) ix_tup (pv 0) pe_int (fun _ _ => rfl)) pa_nil rfl) (by rfl)) (fun _ _ _ _ => ⟨(pg_name (i := 0) (by show List.Nodup (["place", "order", "rows", "there"] : List Str); decide +kernel) rfl (Or.inl rfl)), pts_nil, (@pe_callB _ _ _ _ _ _ _ _ (rSortLS K) call_sortLS rfl m_sorted zq113x (@pa_cons _ _ _ _ _ (by (refine' pe_lcompN (CompOk.of (NX := ["place", "order", "rows", "there"]) (N := ["c", "rows"]) (mp := [none, some 2]) ?nc0) ?ni0 ?nb0); (case ni0 => exact (pi_listK (K := K) rfl (pe_ix (r := rIxL K) ix_list (pv 3) (pe_bmK (K := K) rfl (pe_bm zq72x zq172x zq173x mt_index (pv 1) (pa_cons (pv 0) pa_nil rfl))) (fun _ _ => rfl)))); (case nb0 => exact (fun _ _ _ _ => ⟨(pg_name (i := 0) (by show List.Nodup (["c", "rows"] : List Str); decide +kernel) rfl (Or.inl rfl)), pts_nil, (pe_bmK (K := K) rfl (pe_bm zq72x zq172x zq173x mt_index (pv 1) (pa_cons (pv 0) pa_nil rfl)))⟩)); (case nc0 => decide +kernel)) pa_nil rfl) (by decide) (by decide) (by rfl) (by rfl))⟩)) (@pss_cons _ _ _ _ _ (@ps_if _ _ _ _ _ _ _ _ (PW.pt (pw_or (@pt_not _ _ _ _ (@pt_truthK _ (K) _ _ rfl (@pe_callC _ _ _ _ _ _ _ _ _ _ c__law_alike (hr.mono (by decide)) (@pa_cons _ _ _ _ _ (@pe_callC _ _ _ _ _ _ _ _ _ _ c_seats (hr.mono (by decide)) (@pa_cons _ _ _ _ _ (@pe_ix _ _ _ _ _ _ (rIxT K) ix_tup (pv 7) pe_int (fun _ _ => rfl)) pa_nil rfl) (by rfl) (by decide) (by rfl) (by rfl)) (@pa_cons _ _ _ _ _ (pv 10) pa_nil rfl) rfl) (by rfl) (by decide) (by rfl) (by rfl)) (fun _ => rfl))) (pw_or1 (@pt_not _ _ _ _ (@pt_truthK _ (K) _ _ rfl (@pe_callC _ _ _ _ _ _ _ _ _ _ c__law_alike (hr.mono (by decide)) (@pa_cons _ _ _ _ _ (@pe_callC _ _ _ _ _ _ _ _ _ _ c_degrees (hr.mono (by decide)) (@pa_cons _ _ _ _ _ (@pe_ix _ _ _ _ _ _ (rIxT K) ix_tup (pv 7) pe_int (fun _ _ => rfl)) pa_nil rfl) (by rfl) (by decide) (by rfl) (by rfl)) (@pa_cons _ _ _ _ _ (@pe_callC _ _ _ _ _ _ _ _ _ _ c_degrees (hr.mono (by decide)) (@pa_cons _ _ _ _ _ (@pe_ix _ _ _ _ _ _ (rIxT K) ix_tup (pv 7) pe_int (fun _ _ => rfl)) pa_nil rfl) (by rfl) (by decide) (by rfl) (by rfl)) pa_nil rfl) rfl) (by rfl) (by decide) (by rfl) (by rfl)) (fun _ => rfl)))))) (@pss_one _ _ _ (@ps_ret _ _ _ _ pe_bl)) pss_nil) (@pss_cons _ _ _ _ _ (@ps_if _ _ _ _ _ _ _ _ (@pt_cmpR _ _ _ _ _ _ _ _ op_ne (@pe_cmpR _ _ _ _ _ _ _ _ op_isM (@pe_callC _ _ _ _ _ _ _ _ _ _ c_crossed (hr.mono (by decide)) (@pa_cons _ _ _ _ _ (@pe_ix _ _ _ _ _ _ (rIxT K) ix_tup (pv 7) pe_int (fun _ _ => rfl)) pa_nil rfl) (by rfl) (by decide) (by rfl) (by rfl)) pe_non (nomark _)) (@pe_cmpR _ _ _ _ _ _ _ _ op_isM (@pe_callC _ _ _ _ _ _ _ _ _ _ c_crossed (hr.mono (by decide)) (@pa_cons _ _ _ _ _ (@pe_ix _ _ _ _ _ _ (rIxT K) ix_tup (pv 7) pe_int (fun _ _ => rfl)) pa_nil rfl) (by rfl) (by decide) (by rfl) (by rfl)) pe_non (nomark _)) (nomark _)) (@pss_one _ _ _ (@ps_ret _ _ _ _ pe_bl)) pss_nil) (@pss_one _ _ _ (@ps_ret _ _ _ _ (@pe_cmpR _ _ _ _ _ _ _ _ (op_eqD hr.units) (pv 7) (@pe_tup _ _ _ _ _ (@pa_cons _ _ _ _ _ (pv 0) (@pa_cons _ _ _ _ _ (pv 1) (@pa_cons _ _ _ _ _ (pv 5) (@pa_cons _ _ _ _ _ (pv 6) pa_nil rfl) rfl) rfl) rfl)) (nomark _)))))))))))))), ?_⟩
 refine Sv.enterD hlive hds hΦ (ρ := [.d false _, .d false _, .d false _, .d false _, .d false _, .no, .no, .no, .no, .no, .no]) rfl ?_
 clear hΦ hds
 obtain ⟨p2, p60⟩ := id hN.hp
 have n0 := hN.n0
 have n1 := hN.n1
 have hcl := hN.l
 have hOl := hO.len
 have hQl := hQ.len
 have hwm : (wd.map optD).length = wd.length := zq0x ..
 have hcm : (cs.map prsD).length = cs.length := zq0x ..
 have hQm : (Q.map PyData.int).length = Q.length := zq0x ..
 unfold woD
 walk_at "dt"
 refine Ev.callD mono__law_renamed ?_
 walk_at "dt"
 refine ⟨rfl, p, n, cs, O, Q, T, rfl, hN, hO, hQ, hTl, hT, fun cs' f1 hR => ?_⟩
 have hN' := hR.nk hN hO hQ
 have hcl' := hR.l
 have hcm' : (cs'.map prsD).length = cs'.length := zq0x ..
 refine Gv.nameF ?_
 unfold rowD
 walk_at "dt"
 refine EvN.ev (EvN.compR1 (by decide) rfl ?_)
 walk_at "dt"
 refine CompD.rel optD false (fun j x => ∃ i : Nat, i < n.toNat /\ oAt O i = (j : Int) /\ wd[i]? = some x) ?_ fun wd' hwl' hwd' => ?_
 ·rintro j d ⟨hj, rfl⟩
  obtain ⟨i, hi, e⟩ := hO.ex (j := j) (by omega)
  have hmem : (j : Int) ∈ O := by rw [<- e]; exact zq4x (hO.at hi)
  have hix : O.idxOf (j : Int) = i := by rw [<- e]; exact hO.idx hi
  have hwi : i < wd.length := by omega
  walk_at "dt"
  refine ⟨by walk_at "wk", ?_⟩
  refine Ev.ixL ?_
  walk_at "dt"
  refine Ev.idx ?_
  walk_at "dt"
  refine ⟨O, rfl, by omega, fun x hx => by have := hO.rg x hx; omega, ?_⟩
  walk_at "dt"
  refine ⟨by rw [show (0 + (j : Int)) = j by omega]; exact hmem, _, rfl, optD wd[i], ?_, (fun z => absurd z (by decide)), _, rfl, i, hi, e, zq1x hwi⟩
  rw [show (0 + (j : Int)) = j by omega, hix]
  exact atI_some (by omega) (by rw [zq56x, zq2x, zq1x hwi]; rfl)
 have hwl2 : wd'.length = n.toNat := by omega
 have hW : WR O wd wd' := ⟨by omega, by omega, fun i hi => by
  have hl := hO.lt (i := i) (by omega)
  have hk : (oAt O i).toNat < wd'.length := by omega
  obtain ⟨i', g1, g2, g3⟩ := hwd' (oAt O i).toNat wd'[(oAt O i).toNat] (zq1x hk)
  have : i' = i := hO.inj g1 (by omega) (by rw [g2]; omega)
  subst this
  rw [g3, zq1x hk]⟩
 have hwx' : ∀ x, some x ∈ wd' -> 0 <= x /\ x < p := fun x hx => by
  obtain ⟨k, hk⟩ := zq34x hx
  obtain ⟨i, _, _, g3⟩ := hwd' k _ hk
  exact hwx x (zq4x g3)
 have hwm' : (wd'.map optD).length = wd'.length := zq0x ..
 have hpr : ∀ {cs : List Prs}, NK p n cs -> ∀ prs ∈ cs, PrsOk prs n.toNat := fun h prs hp pr hpr => by
  obtain ⟨a, b, c, d⟩ := (h.r prs hp).2 pr hpr
  exact ⟨a, by omega, by unfold Sm; omega⟩
 have hwo : ∀ {w : Wo}, (∀ x, some x ∈ w -> 0 <= x /\ x < p) -> WoOk w := fun h x hx => by have := h x hx; unfold Sm; omega
 walk_at "dt"
 refine Ev.callD mono__law_copy ?_
 walk_at "dt"
 refine ⟨rfl, p, n, cs, rfl, by omega, fun f7 => ?_⟩
 walk_at "dt"
 refine Ev.callD mono__law_copy ?_
 walk_at "dt"
 refine ⟨rfl, p, n, cs', rfl, by omega, fun f8 => ?_⟩
 walk_at "dt"
 refine Ev.callD mono_sums ?_
 walk_at "dt"
 refine ⟨rfl, p, n, cs, wd, rfl, by omega, by omega, by rw [hwl]; exact hpr hN, hwo hwx, ?_⟩
 walk_at "dt"
 refine Ev.callD (mono__law_alike 5) ?_
 walk_at "dt"
 refine Ev.callD mono_sums ?_
 walk_at "dt"
 refine ⟨rfl, p, n, cs', wd', rfl, by omega, by omega, by rw [hwl2]; exact hpr hN', hwo hwx', ?_⟩
 walk_at "dt"
 refine Ev.callD mono__law_times ?_
 walk_at "dt"
 refine EvN.ev (EvN.compL (by decide) rfl ?_)
 walk_at "dt"
 refine fun v => CompD.rel optD false (fun k x => x = sumOpt p (cs.getD (oAt Q k).toNat []) wd) ?_ fun so hsl hso => ?_
 ·rintro j d hd
  obtain ⟨x, hx, rfl⟩ := map_at hd
  have hj : j < cs.length := by have := (zq5x.mp hx).1; omega
  have hqj := hQ.at hj
  rw [hx] at hqj
  cases hqj
  have hlt := hQ.lt hj
  have hat : atI (cs.map fun prs => optD (sumOpt p prs wd)) (oAt Q j) = some (optD (sumOpt p (cs.getD (oAt Q j).toNat []) wd)) := atI_some (by omega) (by rw [zq2x, NQ.qat hQ hj]; rfl)
  walk_at "dt"
  refine ⟨by walk_at "wk", ?_⟩
  walk_at "dt"
  exact ⟨_, rfl, rfl⟩
 rw [hQm] at hsl
 have eso := map_range hsl hso
 have hsoR : ∀ x, some x ∈ so -> 0 <= x /\ x < p := fun x hx => by
  obtain ⟨k, hk⟩ := zq34x hx
  have := hso k _ hk
  unfold sumOpt at this
  split at this
  ·cases this
  ·cases this
   exact ⟨zq47x _ (by omega), zq48x _ (by omega)⟩
 walk_at "dt"
 refine ⟨rfl, p, so, T, rfl, hN.hp, by omega, by omega, hsoR, fun t ht => ⟨(hT t ht).1, (hT t ht).2.1⟩, fun g1 => ?_⟩
 have eE : (cs'.map fun prs => optD (sumOpt p prs wd')) = ((List.range so.length).map fun k => (so.getD k none).map fun s => s * T.getD k 0 % p).map optD := by
  apply zq35x
  intro k
  rw [zq2x, zq2x, zq2x]
  by_cases hk : k < cs.length
  ·rw [getD_at (by omega), zq110x (by omega)]
   show some _ = some _
   have hk2 : k < so.length := by omega
   have := hso k _ (zq1x hk2)
   dsimp only
   rw [hR.sums hN hO hQ hW hk, show so.getD k none = sumOpt p (cs.getD (oAt Q k).toNat []) wd by rw [zq11x, zq1x hk2, this]; rfl]
  ·rw [zq13x (by omega), zq13x (by rw [zq50x]; omega)]; rfl
 rw [eE]
 unfold woD
 walk_at "dt"
 refine ⟨rfl, _, rfl, alike_wo (by rw [zq0x, zq50x]; omega), ?_⟩
 walk_at "dt"
 refine Ev.callD (mono__law_alike 5) ?_
 walk_at "dt"
 refine Ev.callD mono_is_true ?_
 walk_at "dt"
 refine ⟨rfl, p, n, cs', wd', rfl, by omega, by omega, by rw [hwl2]; exact hpr hN', hwo hwx', ?_⟩
 walk_at "dt"
 refine Ev.callD mono_is_true ?_
 walk_at "dt"
 refine ⟨rfl, p, n, cs, wd, rfl, by omega, by omega, by rw [hwl]; exact hpr hN, hwo hwx, ?_⟩
 rw [decide_eq_decide.mpr (hR.true_ hN hO hQ hW)]
 walk_at "dt"
 refine ⟨rfl, _, rfl, .inl rfl, ?_⟩
 walk_at "dt"
 have hS := hN.netJ.netG.seat
 have hS' := hN'.netJ.netG.seat
 refine Ev.seats ?_
 walk_at "dt"
 refine ⟨p, n, cs, rfl, hS.1, ?_⟩
 have hrg : ∀ (cs : List Prs) (k : Nat), k < n.toNat -> (rowsTo n.toNat cs cs.length)[k]? = some ((rowsTo n.toNat cs cs.length).getD k []) := fun cs k hk => by
  rw [zq11x, zq1x (by rw [rowsTo_len]; exact hk)]; rfl
 walk_at "dt"
 refine EvN.ev (EvN.compR1 (by decide) rfl ?_)
 walk_at "dt"
 refine CompD.rel rowD false (fun j r => r = (rowsTo n.toNat cs' cs'.length).getD j []) ?_ fun due hdl hdue => ?_
 ·rintro j d ⟨hj, rfl⟩
  have hj' : j < n.toNat := by omega
  obtain ⟨i, hi, e⟩ := hO.ex hj'
  have hmem : (j : Int) ∈ O := by rw [<- e]; exact zq4x (hO.at hi)
  have hix : O.idxOf (j : Int) = i := by rw [<- e]; exact hO.idx hi
  have hri := hrg cs i hi
  obtain ⟨r, er⟩ : ∃ r, (rowsTo n.toNat cs cs.length).getD i [] = r := ⟨_, rfl⟩
  rw [er] at hri
  have hseat := hN.seat hri
  have hrl : r.length <= 62 := by
   have := nodup_below (ms := r) (m := (cs.length : Int)) (hseat.1.imp fun z => zq133x z) fun x hx => by
    obtain ⟨c, hc, rfl, _⟩ := (hseat.2 x).mp hx
    omega
   omega
  have hrm : (r.map PyData.int).length = r.length := zq0x ..
  walk_at "dt"
  refine ⟨by walk_at "wk", ?_⟩
  walk_at "dt"
  refine EvN.ev (EvN.sortLS (EvN.ev (EvN.compL (by decide) rfl ?_)))
  refine Ev.ixL ?_
  walk_at "dt"
  refine Ev.idx ?_
  walk_at "dt"
  refine ⟨O, rfl, by omega, fun x hx => by have := hO.rg x hx; omega, ?_⟩
  walk_at "dt"
  refine ⟨by rw [show (0 + (j : Int)) = j by omega]; exact hmem, _, rfl, rowD r, ?_, ?_⟩
  ·rw [show (0 + (j : Int)) = j by omega, hix]
   exact atI_some (by omega) (by rw [zq56x, zq2x, hri]; rfl)
  walk_at "dt"
  refine fun v => CompD.rel PyData.int true (fun m x => ∃ c, r[m]? = some c /\ x = ((Q.idxOf c : Nat) : Int)) ?_ fun os hol hos => ?_
  ·rintro m d hd
   obtain ⟨c, hc, rfl⟩ := map_at hd
   obtain ⟨c', hc', ec, _⟩ := (hseat.2 c).mp (zq4x hc)
   obtain ⟨k, hk, ek⟩ := hQ.ex hc'
   have hmq : c ∈ Q := by rw [ec, <- ek]; exact zq4x (hQ.at hk)
   walk_at "dt"
   refine ⟨by walk_at "wk", ?_⟩
   refine Ev.idx ?_
   walk_at "dt"
   refine ⟨Q, rfl, by omega, fun x hx => by have := hQ.rg x hx; omega, ?_⟩
   walk_at "dt"
   exact ⟨c, hc, rfl⟩
  rw [hrm] at hol
  have eos : os = r.map fun c => ((Q.idxOf c : Nat) : Int) := by
   apply zq35x
   intro k
   rw [zq2x]
   by_cases hk : k < r.length
   ·obtain ⟨c, e1, e2⟩ := hos k os[k] (zq1x (by omega))
    rw [e1, zq1x (by omega), e2]; rfl
   ·rw [zq13x (by omega), zq13x (by omega)]; rfl
  refine ⟨os, rfl, by omega, fun xs hp hs => ?_⟩
  refine ⟨fun z => absurd z (by decide), xs, rfl, ?_⟩
  refine hR.seat hN hO hQ hi hri (r' := (rowsTo n.toNat cs' cs'.length).getD j []) ?_ (by rw [<- eos]; exact hp) hs
  rw [e, zq56x]
  exact hrg cs' j hj'
 have hdl : due.length = n.toNat := by omega
 have ed : due = rowsTo n.toNat cs' cs'.length := by
  apply zq35x
  intro k
  by_cases hk : k < n.toNat
  ·rw [hrg cs' k hk, zq1x (by omega), hdue k due[k] (zq1x (by omega))]
  ·rw [zq13x (by omega), zq13x (by rw [rowsTo_len]; omega)]
 subst ed
 walk_at "dt"
 refine Ev.callD (mono__law_alike 5) ?_
 walk_at "dt"
 refine Ev.seats ?_
 walk_at "dt"
 refine ⟨p, n, cs', rfl, hS'.1, ?_⟩
 walk_at "dt"
 refine ⟨rfl, _, rfl, alike_rws (by omega) hS'.2, ?_⟩
 walk_at "dt"
 refine Ev.callD (mono__law_alike 5) ?_
 walk_at "dt"
 refine Ev.callD mono_degrees ?_
 walk_at "dt"
 refine ⟨rfl, p, n, cs', rfl, hN'.netJ, fun r1' r2' h1' h2' f9 => ?_⟩
 walk_at "dt"
 refine Ev.callD mono_degrees ?_
 walk_at "dt"
 refine ⟨rfl, p, n, cs, rfl, hN.netJ, fun r1 r2 h1 h2 f10 => ?_⟩
 rw [(rise_perm (hR.degP hN hO hQ) h1' h1).2, (rise_perm (hR.degC hQ) h2' h2).2]
 walk_at "dt"
 refine ⟨rfl, _, rfl, alike_deg (by have := rise_len h1 hN.netJ.degLe; omega) (by have := rise_len h2 hN.netJ.degCLe; omega), ?_⟩
 walk_at "dt"
 refine Ev.callD mono_crossed ?_
 walk_at "dt"
 have hnd : ∀ {cs : List Prs}, NK p n cs -> ∀ prs ∈ cs, (prs.map (·.1)).Nodup /\ prs.length <= 1000 := fun h prs hp => by
  have := (h.netJ.r prs hp).1
  exact ⟨(h.r prs hp).1.imp fun z => zq133x z, by omega⟩
 refine ⟨rfl, p, n, cs, rfl, by omega, hnd hN, fun o f11 ho => ?_⟩
 walk_at "dt"
 refine Ev.callD mono_crossed ?_
 walk_at "dt"
 refine ⟨rfl, p, n, cs', rfl, by omega, hnd hN', fun o' f12 ho' => ?_⟩
 have eN : isN (crD o') = isN (crD o) := by
  have h1 := (cr_none ho').trans ((hR.ap hN hO hQ).trans (cr_none ho).symm)
  cases o <;> cases o' <;> first | rfl | simp at h1
 dsimp only
 rw [eN]
 refine ⟨true, .self rfl, ?_⟩
 walk_at "dt"
 have hsh := shaped_w4 p n cs cs' wd wd'
 refine ⟨hsh, hsh, ?_⟩
 have hq : ∀ X : PyData, SeqAt.shaped X = true -> Φ true (.bool (PyData.eqv X X != false)) := fun X h => by
  rw [eqv_refl _ (.inl h)]; exact q _
 exact hq _ hsh
theorem ifJoin {G : Gx} {ρ : Rh} {t : TS} {E : DE} {b : Bool} (P : Rh -> Prop) (hP : ∀ ρ', P ρ' -> E.nx ρ') (h1 : b = true -> Sv G ρ t { E with nx := P }) (h2 : b = false -> P ρ) : if b = true then Sv G ρ t E else Sv G ρ tNext E := by
 cases b with
 | true => exact Sv.conseq P (h1 rfl) hP
 | false => exact Sv.next (hP _ (h2 rfl))
theorem scLaw : FnScope ["script", "bag", "k", "whole", "great", "p", "net", "word", "rows", "times"] ["script"] (defScope sLaw) := ⟨rfl, rfl, rfl, by decide +kernel, rfl, by decide +kernel, by decide +kernel⟩
theorem ok_law (F : Fun K "law" "law" sLaw f fd)  (c__law_bag : Callee P w K mg base "_law_bag" 1 ["script"] (spBag K)) (c__law_p : Callee P w K mg base "_law_p" 3 ["bag"] (spB 1 F__law_p)) (c__law_side : Callee P w K mg base "_law_side" 5 ["bag", "p", "places", "many", "wide"] (spB 5 F__law_side)) (c__law_order : Callee P w K mg base "_law_order" 3 ["bag", "many"] (spB 2 F__law_order)) (c__law_draw : Callee P w K mg base "_law_draw" 2 ["bag", "many"] spDraw) (c__law_lossy : Callee P w K mg base "_law_lossy" 3 ["bag", "word"] (spB 2 F__law_lossy)) (c__law_unit : Callee P w K mg base "_law_unit" 3 ["bag", "p"] (spB 2 F__law_unit)) (c__law_right : Callee P w K mg base "_law_right" 6 ["net", "word", "order", "rows", "times"] (spD 5 F__law_right)) (m_range : mg "range" = none) (m_min : mg "min" = none) (m_len : mg "len" = none)  :
  FnOk P w K mg base CX0 7 f fd ["script"] (spLaw K) := by
 refine F.ok scLaw (fun vs H Q E h => ?_) (fun cdv A outer s H vs Q E hr h => ?_)
 ·obtain ⟨a, ns, rfl, hS, hl, q⟩ := h
  rfl
 obtain ⟨a, ns, rfl, hS, hl, q⟩ := h
 refine ⟨_, (@pss_cons _ _ _ _ _ (@ps_set _ _ (1) _ _ _ _ scLaw.nd rfl (Or.inr rfl) (@pe_callC _ _ _ _ _ _ _ _ _ _ c__law_bag (hr.mono (by decide)) (@pa_cons _ _ _ _ _ (pv 0) pa_nil rfl) (by rfl) (by decide) (by rfl) (by rfl)) (by rfl) (by first | exact .inl rfl | exact .inr rfl | assumption)) (@pss_cons _ _ _ _ _ (@ps_for _ _ _ _ _ _ _ _ zq36x rfl (@pi_range1 _ _ _ _ _ _ rfl m_range (@pa_cons _ _ _ _ _ (@pe_op _ _ _ _ _ _ _ _ op_add pe_int (@pe_callB _ _ _ _ _ _ _ _ _ (call_minM rfl) rfl m_min zq195x (@pa_cons _ _ _ _ _ (@pe_op _ _ _ _ _ _ _ _ op_fdivS (@pe_callB _ _ _ _ _ _ _ _ (rLen K) call_lenM rfl m_len zq32x (@pa_cons _ _ _ _ _ (pv 0) pa_nil rfl) (by decide) (by decide) (by rfl) (by rfl)) pe_int) (@pa_cons _ _ _ _ _ pe_int pa_nil rfl) rfl) (by decide) (by decide) (by rfl) (by rfl))) pa_nil rfl) (by rfl)) (pg_name (i := 2) scLaw.nd rfl (Or.inl rfl)) (@pss_cons _ _ _ _ _ (@ps_set _ _ (3) _ _ _ _ scLaw.nd rfl (Or.inl rfl) (@pe_cmpR _ _ _ _ _ _ _ _ op_eq (@pe_callC _ _ _ _ _ _ _ _ _ _ c__law_draw (hr.mono (by decide)) (@pa_cons _ _ _ _ _ (pv 1) (@pa_cons _ _ _ _ _ pe_int pa_nil rfl) rfl) (by rfl) (by decide) (by rfl) (by rfl)) pe_int (nomark _)) (by rfl) (by first | exact .inl rfl | exact .inr rfl | assumption)) (@pss_cons _ _ _ _ _ (@ps_set _ _ (4) _ _ _ _ scLaw.nd rfl (Or.inl rfl) (@pe_op _ _ _ _ _ _ _ _ op_fdivS (@pe_callC _ _ _ _ _ _ _ _ _ _ c__law_draw (hr.mono (by decide)) (@pa_cons _ _ _ _ _ (pv 1) (@pa_cons _ _ _ _ _ pe_int pa_nil rfl) rfl) (by rfl) (by decide) (by rfl) (by rfl)) pe_int) (by rfl) (by first | exact .inl rfl | exact .inr rfl | assumption)) (@pss_cons _ _ _ _ _ (@ps_set _ _ (5) _ _ _ _ scLaw.nd rfl (Or.inr rfl) (@pe_callC _ _ _ _ _ _ _ _ _ _ c__law_p (hr.mono (by decide)) (@pa_cons _ _ _ _ _ (pv 1) pa_nil rfl) (by rfl) (by decide) (by rfl) (by rfl)) (by rfl) (by first | exact .inl rfl | exact .inr rfl | assumption)) (@pss_cons _ _ _ _ _ (@ps_asg _ _ _ _ _ _ (@pe_callC _ _ _ _ _ _ _ _ _ _ c__law_side (hr.mono (by decide)) (@pa_cons _ _ _ _ _ (pv 1) (@pa_cons _ _ _ _ _ (pv 5) (@pa_cons _ _ _ _ _ (@pe_ix _ _ _ _ _ _ (rIxL K) ix_list (@pe_lst _ _ _ _ (@pa_cons _ _ _ _ _ pe_int (@pa_cons _ _ _ _ _ pe_int pa_nil rfl) rfl)) (pv 4) (fun _ _ => rfl)) (@pa_cons _ _ _ _ _ (@pe_ix _ _ _ _ _ _ (rIxL K) ix_list (@pe_lst _ _ _ _ (@pa_cons _ _ _ _ _ pe_int (@pa_cons _ _ _ _ _ pe_int pa_nil rfl) rfl)) (pv 4) (fun _ _ => rfl)) (@pa_cons _ _ _ _ _ (@pe_ix _ _ _ _ _ _ (rIxL K) ix_list (@pe_lst _ _ _ _ (@pa_cons _ _ _ _ _ pe_int (@pa_cons _ _ _ _ _ pe_int pa_nil rfl) rfl)) (pv 4) (fun _ _ => rfl)) pa_nil rfl) rfl) rfl) rfl) rfl) (by rfl) (by decide) (by rfl) (by rfl)) (@pg_tupM _ (K) _ _ _ (2) _ rfl rfl (@pgs_cons _ _ _ _ _ (pg_name (i := 6) scLaw.nd rfl (Or.inl rfl)) (@pgs_cons _ _ _ _ _ (pg_name (i := 7) scLaw.nd rfl (Or.inl rfl)) pgs_nil (by rfl)) (by rfl)) (by rfl) (by rfl)) (by rfl) (by rfl) (by rfl)) (@pss_cons _ _ _ _ _ (@ps_if _ _ _ _ _ _ _ _ (@pt_not _ _ _ _ (@pt_truthK _ (K) _ _ rfl (pv 3) (fun _ => rfl))) (@pss_one _ _ _ (@ps_set _ _ (7) _ _ _ _ scLaw.nd rfl (Or.inl rfl) (@pe_callC _ _ _ _ _ _ _ _ _ _ c__law_lossy (hr.mono (by decide)) (@pa_cons _ _ _ _ _ (pv 1) (@pa_cons _ _ _ _ _ (pv 7) pa_nil rfl) rfl) (by rfl) (by decide) (by rfl) (by rfl)) (by rfl) (by first | exact .inl rfl | exact .inr rfl | assumption))) pss_nil) (@pss_cons _ _ _ _ _ (@ps_set _ _ (8) _ _ _ _ scLaw.nd rfl (Or.inl rfl) (@pe_callC _ _ _ _ _ _ _ _ _ _ c__law_order (hr.mono (by decide)) (@pa_cons _ _ _ _ _ (pv 1) (@pa_cons _ _ _ _ _ (@pe_callB _ _ _ _ _ _ _ _ (rLen K) call_lenM rfl m_len zq32x (@pa_cons _ _ _ _ _ (@pe_ix _ _ _ _ _ _ (rIxT K) ix_tup (pv 6) pe_int (fun _ _ => rfl)) pa_nil rfl) (by decide) (by decide) (by rfl) (by rfl)) pa_nil rfl) rfl) (by rfl) (by decide) (by rfl) (by rfl)) (by rfl) (by first | exact .inl rfl | exact .inr rfl | assumption)) (@pss_cons _ _ _ _ _ (ps_setC (i := 9) scLaw.nd rfl rfl (CompOk.of (show compOkB (defScope sLaw) ["script", "bag", "k", "whole", "great", "p", "net", "word", "rows", "times"] _ ["c", "bag", "p"] [none, some 1, some 5] = true by decide +kernel)) (pi_listK (K := K) rfl (pv 8)) (fun _ _ _ _ => ⟨(pg_name (i := 0) (by show List.Nodup (["c", "bag", "p"] : List Str); decide +kernel) rfl (Or.inl rfl)), pts_nil, (@pe_callC _ _ _ _ _ _ _ _ _ _ c__law_unit (hr.mono (by decide)) (@pa_cons _ _ _ _ _ (pv 1) (@pa_cons _ _ _ _ _ (pv 2) pa_nil rfl) rfl) (by rfl) (by decide) (by rfl) (by rfl))⟩)) (@pss_one _ _ _ (@ps_if _ _ _ _ _ _ _ _ (@pt_not _ _ _ _ (@pt_truthK _ (K) _ _ rfl (@pe_callC _ _ _ _ _ _ _ _ _ _ c__law_right (hr.mono (by decide)) (@pa_cons _ _ _ _ _ (pv 6) (@pa_cons _ _ _ _ _ (pv 7) (@pa_cons _ _ _ _ _ (@pe_callC _ _ _ _ _ _ _ _ _ _ c__law_order (hr.mono (by decide)) (@pa_cons _ _ _ _ _ (pv 1) (@pa_cons _ _ _ _ _ (@pe_ix _ _ _ _ _ _ (rIxT K) ix_tup (pv 6) pe_int (fun _ _ => rfl)) pa_nil rfl) rfl) (by rfl) (by decide) (by rfl) (by rfl)) (@pa_cons _ _ _ _ _ (pv 8) (@pa_cons _ _ _ _ _ (pv 9) pa_nil rfl) rfl) rfl) rfl) rfl) (by rfl) (by decide) (by rfl) (by rfl)) (fun _ => rfl))) (@pss_one _ _ _ (@ps_ret _ _ _ _ pe_bl)) pss_nil))))))))) (by intro _; rfl)) (@pss_one _ _ _ (@ps_ret _ _ _ _ pe_bl)))), ?_⟩
 walk_at "st"
 refine ⟨a, ns, rfl, hS, hl, fun b l H1 s1 f1 B1 => ?_⟩
 have hS1 := s1.seq hS
 walk_at "st"
 refine R.rlen hS1 ?_
 walk_at "st"
 refine R.rmin ?_
 walk_at "st"
 refine Sv.loopR (G := lawG b l H1) (E := { nx := fun _ => True, rt := fun _ d => d = .bool true }) (ρ := [.no, .bag, .no, .no, .no, .no, .no, .no, .no, .no]) (law_wd (m := 8) B1) (law_ends (fun σ H => by walk_at "st"; exact q _) (fun H => q _)) ?_
 refine ⟨fun _ ρ => ∃ x2 x3 x4 x5 x6 x7 x8 x9 : Sl, ρ = [.no, .bag, x2, x3, x4, x5, x6, x7, x8, x9], ⟨_, _, _, _, _, _, _, _, rfl⟩, ?_, fun _ _ => trivial⟩
 rintro i d ρ ⟨hi, rfl⟩ ⟨x2, x3, x4, x5, x6, x7, x8, x9, rfl⟩
 walk_at "dt"
 intro w0 w1 w2
 walk_at "dt"
 intro gr gr0 gr1
 walk_at "dt"
 refine Ev.callB mono__law_p rfl ?_
 walk_at "dt"
 refine ⟨rfl, fun p f hp => ?_⟩
 obtain ⟨p2, p60⟩ := id hp
 refine Gv.nameI ?_
 walk_at "dt"
 have hg : gr / 3 = 0 \/ gr / 3 = 1 := by omega
 generalize gr / 3 = g at hg ⊢
 obtain ⟨c1, em1, c10, c11⟩ : ∃ c, atI [PyData.int 8, PyData.int 30] g = some (.int c) /\ 1 <= c /\ c <= 30 := by rcases hg with rfl | rfl; exact ⟨8, rfl, by decide, by decide⟩; exact ⟨30, rfl, by decide, by decide⟩
 obtain ⟨c3, em3, c30, c31⟩ : ∃ c, atI [PyData.int 6, PyData.int 15] g = some (.int c) /\ 1 <= c /\ c <= 20 := by rcases hg with rfl | rfl; exact ⟨6, rfl, by decide, by decide⟩; exact ⟨15, rfl, by decide, by decide⟩
 refine Ev.callB mono__law_side rfl ?_
 walk_at "dt"
 refine ⟨rfl, p, c1, c1, c3, rfl, hp, by omega, by omega, by omega, by omega, by omega, by omega, fun n cs ws f2 hN hwl hws => ?_⟩
 have n0 := hN.n0
 have n1 := hN.n1
 have hcl := hN.l
 have hcm : (cs.map prsD).length = cs.length := zq0x ..
 walk_at "dt"
 refine ifJoin (fun ρ => ∃ (wd : Wo) (f7 : Bool), wd.length = n.toNat /\ (∀ x, some x ∈ wd -> 0 <= x /\ x < p) /\ ρ = [.no, .bag, .d true (.int (0 + (i : Int))), .d true (.bool (decide (w0 = 1))), .d true (.int g), .d true (.int p), .d false (netD p n cs), .d f7 (woD wd), x8, x9]) ?_ (fun _ => ?_) fun _ => ?_
 rotate_left
 ·refine Sv.asg ?_
  refine Ev.callB mono__law_lossy rfl ?_
  unfold rowD
  walk_at "dt"
  refine ⟨rfl, ws, rfl, by omega, fun ld hld => ?_⟩
  refine Gv.name ?_
  exact ⟨ld, _, by rw [hld.1]; omega, fun x hx => hws x (lossy_mem hld hx), rfl⟩
 ·refine ⟨ws.map some, false, by rw [zq0x]; omega, fun x hx => ?_, by unfold woD; rw [zq71x]; rfl⟩
  obtain ⟨y, hy, e⟩ := zq9x.mp hx
  cases e
  exact hws x hy
 rintro ρ' ⟨wd, f7, hwl2, hwx, rfl⟩
 walk_at "dt"
 refine Ev.callB mono__law_order rfl ?_
 walk_at "dt"
 refine ⟨rfl, _, rfl, by omega, by omega, fun f4 Q hQ => ?_⟩
 have hQ2 : OrdP Q cs.length := by rw [show cs.length = ((cs.map prsD).length : Int).toNat by omega]; exact hQ
 have hQl := hQ2.len
 have hQm : (Q.map PyData.int).length = Q.length := zq0x ..
 refine Gv.nameF ?_
 unfold rowD
 walk_at "dt"
 refine EvN.ev (EvN.compL (by decide) rfl ?_)
 walk_at "dt"
 refine fun v => CompD.rel PyData.int false (fun _ t => 1 <= t /\ t < p /\ IsUn p t) ?_ fun T hTl hTr => ?_
 ·rintro j d hd
  obtain ⟨x, hx, rfl⟩ := map_at hd
  walk_at "dt"
  refine ⟨by walk_at "wk", ?_⟩
  refine Ev.callB mono__law_unit rfl ?_
  walk_at "dt"
  exact ⟨rfl, p, rfl, hp, fun t f g1 g2 g3 => ⟨fun z => absurd z (by decide), t, rfl, g1, g2, g3⟩⟩
 walk_at "dt"
 refine Ev.callD mono__law_right ?_
 walk_at "dt"
 refine Ev.callB mono__law_order rfl ?_
 walk_at "dt"
 refine ⟨rfl, n, rfl, by omega, by omega, fun f3 O hO => ?_⟩
 walk_at "dt"
 refine ⟨rfl, p, n, cs, wd, O, Q, T, rfl, hN, hwl2, hwx, hO, hQ2, by omega, fun t ht => ?_, fun f => ?_⟩
 ·obtain ⟨k, hk⟩ := zq34x ht
  exact hTr k t hk
 walk_at "dt"
 exact ⟨_, _, _, _, _, _, _, _, rfl⟩
end
local macro_rules | `(tactic| walk_at "bn") => `(tactic| (intro _ _ _ _ _ _ us hl; first | (obtain ⟨_, h⟩ := ln1 hl; subst h; rfl) | (obtain ⟨_, _, h⟩ := ln2 hl; subst h; rfl) | (obtain ⟨_, _, _, h⟩ := ln3 hl; subst h; rfl) | (obtain ⟨_, _, _, _, h⟩ := ln4 hl; subst h; rfl) | (obtain ⟨_, _, _, _, _, h⟩ := ln5 hl; subst h; rfl) | (obtain ⟨_, _, _, _, _, _, h⟩ := ln6 hl; subst h; rfl) | (obtain ⟨_, _, _, _, _, _, _, h⟩ := ln7 hl; subst h; rfl)))
theorem all_mk {l : PySem.W.OpenLaw} {w : World} {K : PySem.W.Frag} {h : Heap} {mg : Str -> Option Value} {fa : Addr} {f0 f1 f2 f3 f4 f5 f6 f7 f8 f9 f10 f11 f12 f13 f14 f15 f16 f17 f18 f19 f20 f21 f22 f23 f24 f25 f26 f27 : Addr} (X : K.In h) (G : h.Ns mainGlobals mg) (hfa : mg "law" = some (.ref fa))
  {od27 an27 : Option Addr} {sl27 : Array (Option Value)} {oc27 kV27 dc27 pm27 cd27 ct27 : Value}
  (d0 : DfAt K "total" "total" sTotal f0)
  (d1 : DfAt K "sums" "sums" sSums f1)
  (d2 : DfAt K "sum_of" "sum_of" sSumOf f2)
  (d3 : DfAt K "is_true" "is_true" sIsTrue f3)
  (d4 : DfAt K "seats" "seats" sSeats f4)
  (d5 : DfAt K "degrees" "degrees" sDegrees f5)
  (d6 : DfAt K "counted" "counted" sCounted f6)
  (d7 : DfAt K "crossed" "crossed" sCrossed f7)
  (d8 : DfAt K "_law_bag" "_law_bag" sLawBag f8)
  (d9 : DfAt K "_law_stirred" "_law_stirred" sLawStirred f9)
  (d10 : DfAt K "_law_draw" "_law_draw" sLawDraw f10)
  (d11 : DfAt K "_law_p" "_law_p" sLawP f11)
  (d12 : DfAt K "_law_part" "_law_part" sLawPart f12)
  (d13 : DfAt K "_law_sum" "_law_sum" sLawSum f13)
  (d14 : DfAt K "_law_letters" "_law_letters" sLawLetters f14)
  (d15 : DfAt K "_law_true_pairs" "_law_true_pairs" sLawTruePairs f15)
  (d16 : DfAt K "_law_planted" "_law_planted" sLawPlanted f16)
  (d17 : DfAt K "_law_net" "_law_net" sLawNet f17)
  (d18 : DfAt K "_law_side" "_law_side" sLawSide f18)
  (d19 : DfAt K "_law_lossy" "_law_lossy" sLawLossy f19)
  (d20 : DfAt K "_law_alike" "_law_alike" sLawAlike f20)
  (d21 : DfAt K "_law_copy" "_law_copy" sLawCopy f21)
  (d22 : DfAt K "_law_order" "_law_order" sLawOrder f22)
  (d23 : DfAt K "_law_renamed" "_law_renamed" sLawRenamed f23)
  (d24 : DfAt K "_law_unit" "_law_unit" sLawUnit f24)
  (d25 : DfAt K "_law_times" "_law_times" sLawTimes f25)
  (d26 : DfAt K "_law_right" "_law_right" sLawRight f26)
  (a27 : PySem.W.nsIn K mainGlobals "law" = some (some (.ref f27))) (l27 : K.lookup f27 = some ⟨oc27, od27, .func (PySem.W.fnOf "law" "law" (defArgs sLaw) (defBody sLaw) (defScope sLaw) .none kV27 dc27 pm27 an27 cd27 ct27), sl27⟩) (c27 : PySem.W.codeIn K cd27 "law" = true) (k27 : PySem.W.keepIn K (.ref f27) = true)
  (z_abs : PySem.W.nsIn K mainGlobals "abs" = some none)
  (z_all : PySem.W.nsIn K mainGlobals "all" = some none)
  (z_bool : PySem.W.nsIn K mainGlobals "bool" = some none)
  (z_dict : PySem.W.nsIn K mainGlobals "dict" = some none)
  (z_enumerate : PySem.W.nsIn K mainGlobals "enumerate" = some none)
  (z_int : PySem.W.nsIn K mainGlobals "int" = some none)
  (z_isinstance : PySem.W.nsIn K mainGlobals "isinstance" = some none)
  (z_len : PySem.W.nsIn K mainGlobals "len" = some none)
  (z_list : PySem.W.nsIn K mainGlobals "list" = some none)
  (z_min : PySem.W.nsIn K mainGlobals "min" = some none)
  (z_range : PySem.W.nsIn K mainGlobals "range" = some none)
  (z_set : PySem.W.nsIn K mainGlobals "set" = some none)
  (z_sorted : PySem.W.nsIn K mainGlobals "sorted" = some none)
  (z_str : PySem.W.nsIn K mainGlobals "str" = some none)
  (z_sum : PySem.W.nsIn K mainGlobals "sum" = some none)
  (z_tuple : PySem.W.nsIn K mainGlobals "tuple" = some none)
  : ∃ fd : FuncData, (∀ (s : Shared) (v : Value), BindsTo s fd ⟨[v], []⟩ [("script", v)]) /\ ∀ base : Heap, K.In base -> base.Ns mainGlobals mg -> FnOk l.prog w K mg base CX0 7 fa fd ["script"] (spLaw K) := by
 have e := hfa.symm.trans (zq15x X G a27)
 cases e
 obtain ⟨a0, _, F0⟩ := d0
 have b0 := F0.binds (ps := ["p", "pairs", "word"]) (by walk_at "bn")
 obtain ⟨a1, _, F1⟩ := d1
 have b1 := F1.binds (ps := ["net", "word"]) (by walk_at "bn")
 obtain ⟨a2, _, F2⟩ := d2
 have b2 := F2.binds (ps := ["p", "pairs", "word"]) (by walk_at "bn")
 obtain ⟨a3, _, F3⟩ := d3
 have b3 := F3.binds (ps := ["net", "word"]) (by walk_at "bn")
 obtain ⟨a4, _, F4⟩ := d4
 have b4 := F4.binds (ps := ["net"]) (by walk_at "bn")
 obtain ⟨a5, _, F5⟩ := d5
 have b5 := F5.binds (ps := ["net"]) (by walk_at "bn")
 obtain ⟨a6, _, F6⟩ := d6
 have b6 := F6.binds (ps := ["found"]) (by walk_at "bn")
 obtain ⟨a7, _, F7⟩ := d7
 have b7 := F7.binds (ps := ["net"]) (by walk_at "bn")
 obtain ⟨a8, _, F8⟩ := d8
 have b8 := F8.binds (ps := ["script"]) (by walk_at "bn")
 obtain ⟨a9, _, F9⟩ := d9
 have b9 := F9.binds (ps := ["bag", "many"]) (by walk_at "bn")
 obtain ⟨a10, _, F10⟩ := d10
 have b10 := F10.binds (ps := ["bag", "many"]) (by walk_at "bn")
 obtain ⟨a11, _, F11⟩ := d11
 have b11 := F11.binds (ps := ["bag"]) (by walk_at "bn")
 obtain ⟨a12, _, F12⟩ := d12
 have b12 := F12.binds (ps := ["p", "b"]) (by walk_at "bn")
 obtain ⟨a13, _, F13⟩ := d13
 have b13 := F13.binds (ps := ["p", "pairs", "word"]) (by walk_at "bn")
 obtain ⟨a14, _, F14⟩ := d14
 have b14 := F14.binds (ps := ["bag", "p", "n"]) (by walk_at "bn")
 obtain ⟨a15, _, F15⟩ := d15
 have b15 := F15.binds (ps := ["bag", "p", "row", "word"]) (by walk_at "bn")
 obtain ⟨a16, _, F16⟩ := d16
 have b16 := F16.binds (ps := ["bag", "p", "word", "many", "wide"]) (by walk_at "bn")
 obtain ⟨a17, _, F17⟩ := d17
 have b17 := F17.binds (ps := ["bag", "p", "places", "many", "wide"]) (by walk_at "bn")
 obtain ⟨a18, _, F18⟩ := d18
 have b18 := F18.binds (ps := ["bag", "p", "places", "many", "wide"]) (by walk_at "bn")
 obtain ⟨a19, _, F19⟩ := d19
 have b19 := F19.binds (ps := ["bag", "word"]) (by walk_at "bn")
 obtain ⟨a20, _, F20⟩ := d20
 have b20 := F20.binds (ps := ["found", "due"]) (by walk_at "bn")
 obtain ⟨a21, _, F21⟩ := d21
 have b21 := F21.binds (ps := ["net"]) (by walk_at "bn")
 obtain ⟨a22, _, F22⟩ := d22
 have b22 := F22.binds (ps := ["bag", "many"]) (by walk_at "bn")
 obtain ⟨a23, _, F23⟩ := d23
 have b23 := F23.binds (ps := ["net", "order", "rows", "times"]) (by walk_at "bn")
 obtain ⟨a24, _, F24⟩ := d24
 have b24 := F24.binds (ps := ["bag", "p"]) (by walk_at "bn")
 obtain ⟨a25, _, F25⟩ := d25
 have b25 := F25.binds (ps := ["p", "some", "times"]) (by walk_at "bn")
 obtain ⟨a26, _, F26⟩ := d26
 have b26 := F26.binds (ps := ["net", "word", "order", "rows", "times"]) (by walk_at "bn")
 have F27 := fun_mk (st := sLaw) l27 c27 k27
 have m_abs := zq39x X G z_abs
 have m_all := zq39x X G z_all
 have m_bool := zq39x X G z_bool
 have m_dict := zq39x X G z_dict
 have m_enumerate := zq39x X G z_enumerate
 have m_int := zq39x X G z_int
 have m_isinstance := zq39x X G z_isinstance
 have m_len := zq39x X G z_len
 have m_list := zq39x X G z_list
 have m_min := zq39x X G z_min
 have m_range := zq39x X G z_range
 have m_set := zq39x X G z_set
 have m_sorted := zq39x X G z_sorted
 have m_str := zq39x X G z_str
 have m_sum := zq39x X G z_sum
 have m_tuple := zq39x X G z_tuple
 refine ⟨PySem.W.fnOf "law" "law" (defArgs sLaw) (defBody sLaw) (defScope sLaw) .none kV27 dc27 pm27 an27 cd27 ct27, fun s v => .of_eq rfl, fun base _ _ => ?_⟩
 have C_total := Callee.mk' F0 (ok_total (P := l.prog) (w := w) (base := base) F0) b0 (zq15x X G a0)
 have C_sum_of := Callee.mk' F2 (ok_sum_of (P := l.prog) (w := w) (base := base) F2 C_total) b2 (zq15x X G a2)
 have C_sums := Callee.mk' F1 (ok_sums (P := l.prog) (w := w) (base := base) F1 C_sum_of) b1 (zq15x X G a1)
 have C_is_true := Callee.mk' F3 (ok_is_true (P := l.prog) (w := w) (base := base) F3 C_sums m_all) b3 (zq15x X G a3)
 have C_seats := Callee.mk' F4 (ok_seats (P := l.prog) (w := w) (base := base) F4 m_enumerate m_range) b4 (zq15x X G a4)
 have C_counted := Callee.mk' F6 (ok_counted (P := l.prog) (w := w) (base := base) F6 m_sorted) b6 (zq15x X G a6)
 have C_degrees := Callee.mk' F5 (ok_degrees (P := l.prog) (w := w) (base := base) F5 C_counted C_seats m_len) b5 (zq15x X G a5)
 have C_crossed := Callee.mk' F7 (ok_crossed (P := l.prog) (w := w) (base := base) F7 m_range m_len m_dict) b7 (zq15x X G a7)
 have C__law_bag := Callee.mk' F8 (ok__law_bag (P := l.prog) (w := w) (base := base) F8 m_abs) b8 (zq15x X G a8)
 have C__law_stirred := Callee.mk' F9 (ok__law_stirred (P := l.prog) (w := w) (base := base) F9 m_range) b9 (zq15x X G a9)
 have C__law_draw := Callee.mk' F10 (ok__law_draw (P := l.prog) (w := w) (base := base) F10 C__law_stirred m_len) b10 (zq15x X G a10)
 have C__law_p := Callee.mk' F11 (ok__law_p (P := l.prog) (w := w) (base := base) F11 C__law_draw) b11 (zq15x X G a11)
 have C__law_part := Callee.mk' F12 (ok__law_part (P := l.prog) (w := w) (base := base) F12) b12 (zq15x X G a12)
 have C__law_sum := Callee.mk' F13 (ok__law_sum (P := l.prog) (w := w) (base := base) F13 m_sum) b13 (zq15x X G a13)
 have C__law_letters := Callee.mk' F14 (ok__law_letters (P := l.prog) (w := w) (base := base) F14 C__law_draw m_range m_int m_min) b14 (zq15x X G a14)
 have C__law_true_pairs := Callee.mk' F15 (ok__law_true_pairs (P := l.prog) (w := w) (base := base) F15 C__law_draw C__law_part C__law_sum m_range m_len) b15 (zq15x X G a15)
 have C__law_planted := Callee.mk' F16 (ok__law_planted (P := l.prog) (w := w) (base := base) F16 C__law_true_pairs C__law_draw m_range m_sorted m_len m_set) b16 (zq15x X G a16)
 have C__law_net := Callee.mk' F17 (ok__law_net (P := l.prog) (w := w) (base := base) F17 C__law_draw m_range m_sorted m_set) b17 (zq15x X G a17)
 have C__law_side := Callee.mk' F18 (ok__law_side (P := l.prog) (w := w) (base := base) F18 C__law_draw C__law_net C__law_letters C__law_planted m_range) b18 (zq15x X G a18)
 have C__law_lossy := Callee.mk' F19 (ok__law_lossy (P := l.prog) (w := w) (base := base) F19 C__law_draw) b19 (zq15x X G a19)
 have C__law_alike_0 := Callee.void (P := l.prog) (w := w) (base := base) (k := 0) (sp := spD 2 (F__law_alike 0)) F20 b20 (zq15x X G a20) void__law_alike
 have C__law_alike_1 := Callee.mk' F20 (ok__law_alike (P := l.prog) (w := w) (base := base) 0 F20 C__law_alike_0 m_isinstance m_list m_tuple m_all m_len m_bool m_int m_str m_range) b20 (zq15x X G a20)
 have C__law_alike_2 := Callee.mk' F20 (ok__law_alike (P := l.prog) (w := w) (base := base) 1 F20 C__law_alike_1 m_isinstance m_list m_tuple m_all m_len m_bool m_int m_str m_range) b20 (zq15x X G a20)
 have C__law_alike_3 := Callee.mk' F20 (ok__law_alike (P := l.prog) (w := w) (base := base) 2 F20 C__law_alike_2 m_isinstance m_list m_tuple m_all m_len m_bool m_int m_str m_range) b20 (zq15x X G a20)
 have C__law_alike_4 := Callee.mk' F20 (ok__law_alike (P := l.prog) (w := w) (base := base) 3 F20 C__law_alike_3 m_isinstance m_list m_tuple m_all m_len m_bool m_int m_str m_range) b20 (zq15x X G a20)
 have C__law_alike_5 := Callee.mk' F20 (ok__law_alike (P := l.prog) (w := w) (base := base) 4 F20 C__law_alike_4 m_isinstance m_list m_tuple m_all m_len m_bool m_int m_str m_range) b20 (zq15x X G a20)
 have C__law_alike := C__law_alike_5
 have C__law_copy := Callee.mk' F21 (ok__law_copy (P := l.prog) (w := w) (base := base) F21 m_list) b21 (zq15x X G a21)
 have C__law_order := Callee.mk' F22 (ok__law_order (P := l.prog) (w := w) (base := base) F22 C__law_draw m_list m_range m_len) b22 (zq15x X G a22)
 have C__law_renamed := Callee.mk' F23 (ok__law_renamed (P := l.prog) (w := w) (base := base) F23 m_range m_len m_sorted) b23 (zq15x X G a23)
 have C__law_unit := Callee.mk' F24 (ok__law_unit (P := l.prog) (w := w) (base := base) F24 C__law_draw C__law_part) b24 (zq15x X G a24)
 have C__law_times := Callee.mk' F25 (ok__law_times (P := l.prog) (w := w) (base := base) F25 m_range m_len) b25 (zq15x X G a25)
 have C__law_right := Callee.mk' F26 (ok__law_right (P := l.prog) (w := w) (base := base) F26 C__law_renamed C_sums C_seats C__law_copy C__law_alike C__law_times C_is_true C_crossed C_degrees m_list m_sorted m_range) b26 (zq15x X G a26)
 exact ok_law F27 C__law_bag C__law_p C__law_side C__law_order C__law_draw C__law_lossy C__law_unit C__law_right m_range m_min m_len
theorem walk {l : PySem.W.OpenLaw} {q : Program} {loose : List Str} {XP : (Str -> Option Value) -> Heap -> Prop} {YP : World -> Heap -> Prop} {d : DefRec} {K : Params -> PySem.W.Frag} (hn : l.most = some 63) (hdf : d.params.defaults = [])
  (hY : ∀ (w : World) (h : Heap), YP w h -> (K w.params).In h)
  (F : ∀ (w : World) (mg : Str -> Option Value) (fa : Addr) (h : Heap), (K w.params).In h -> h.Ns mainGlobals mg -> mg d.name = some (.ref fa) ->
   ∃ fd : FuncData, (∀ (s : Shared) (u : Value), BindsTo s fd ⟨[u], []⟩ [("script", u)]) /\ ∀ base : Heap, (K w.params).In base -> base.Ns mainGlobals mg -> FnOk l.prog w (K w.params) mg base CX0 7 fa fd ["script"] (spLaw (K w.params))) :
  PySem.W.WalkO q loose XP YP l.row.toRowW d [] (fun f vs => PySem.call f vs) :=
 L2.walk_of (n := 63) (k := 7) (x := "script") (CX := fun _ => CX0) (sp := fun w => spLaw (K w.params)) hn (by decide) hdf ⟨rfl, by decide, by decide⟩ hY F (fun _ _ a ns hl _ hS => ⟨a, ns, rfl, hS, hl, fun _ => rfl⟩) fun _ _ _ _ _ z => z
def view : Program := { PySem.Challenge.pw_fewchecks_k19_whole_other_names with main := { PySem.Challenge.pw_fewchecks_k19_whole_other_names.main with body := [top 1, top 3, top 4, top 5, top 6, top 7, top 8, top 9, top 11, top 12, top 13, top 14, top 15, top 16, top 17, top 18, top 19, top 20, top 21, top 22, top 23, top 24, top 25, top 26, top 27, top 28, top 29, top 30] } }
end K19
open PySem PySem.W PyProof.Rows
local macro_rules | `(tactic| o_head $H:term) => `(tactic|
 (refine holds_open (q := K19.view) (loose := [])
    (Xt := fun s => xlAt K19.view [] s && recOk [] s) (XP := XL K19.view []) (Yf := Hook.obs $H)
    (Ya := Hook.val $H) (YP := Hook.says $H) (N := 100000) ?hl (Hook.of $H)
    (Hook.keeps $H) (fun s e => xl_of s (zq203x.mp e).1) XL.keeps
    rfl rfl rfl (fun s e => recFacts_of (zq203x.mp e).2) rfl
    (by assumption) (by decide +kernel) ⟨rfl, rfl, rfl, rfl, rfl, by decide +kernel⟩ ?hw ?hc; (case hl => exact fun w => by kernel_rfl)))
set_option maxRecDepth 100000 in
set_option maxHeartbeats 0 in
theorem PySem.Challenge.cw_fewchecks_k19_whole_other_names_holds : PySem.Challenge.rw_fewchecks_k19_whole_other_names.Holds := by
 w_on
 refine holds_law (by decide +kernel) fun said => ?_
 k_head
 (case hw => w_witness2)
 k_fill
 refine K19.walk (l := PySem.Challenge.rw_fewchecks_k19_whole_other_names) rfl rfl (fun w h Y => PySem.W.kIn_of Y) ?F
 case F =>
  intro w mg fa h KX G hmg
  refine' K19.all_mk KX G hmg ?d0 ?d1 ?d2 ?d3 ?d4 ?d5 ?d6 ?d7 ?d8 ?d9 ?d10 ?d11 ?d12 ?d13 ?d14 ?d15 ?d16 ?d17 ?d18 ?d19 ?d20 ?d21 ?d22 ?d23 ?d24 ?d25 ?d26 ?a27 ?l27 ?c27 ?k27 ?z_abs ?z_all ?z_bool ?z_dict ?z_enumerate ?z_int ?z_isinstance ?z_len ?z_list ?z_min ?z_range ?z_set ?z_sorted ?z_str ?z_sum ?z_tuple
  (case d0 => refine' L2.DfAt.mk ?a ?l ?c ?k; (case a => k_is); (case l => k_is); (case c => k_is); (case k => k_is))
  (case d1 => refine' L2.DfAt.mk ?a ?l ?c ?k; (case a => k_is); (case l => k_is); (case c => k_is); (case k => k_is))
  (case d2 => refine' L2.DfAt.mk ?a ?l ?c ?k; (case a => k_is); (case l => k_is); (case c => k_is); (case k => k_is))
  (case d3 => refine' L2.DfAt.mk ?a ?l ?c ?k; (case a => k_is); (case l => k_is); (case c => k_is); (case k => k_is))
  (case d4 => refine' L2.DfAt.mk ?a ?l ?c ?k; (case a => k_is); (case l => k_is); (case c => k_is); (case k => k_is))
  (case d5 => refine' L2.DfAt.mk ?a ?l ?c ?k; (case a => k_is); (case l => k_is); (case c => k_is); (case k => k_is))
  (case d6 => refine' L2.DfAt.mk ?a ?l ?c ?k; (case a => k_is); (case l => k_is); (case c => k_is); (case k => k_is))
  (case d7 => refine' L2.DfAt.mk ?a ?l ?c ?k; (case a => k_is); (case l => k_is); (case c => k_is); (case k => k_is))
  (case d8 => refine' L2.DfAt.mk ?a ?l ?c ?k; (case a => k_is); (case l => k_is); (case c => k_is); (case k => k_is))
  (case d9 => refine' L2.DfAt.mk ?a ?l ?c ?k; (case a => k_is); (case l => k_is); (case c => k_is); (case k => k_is))
  (case d10 => refine' L2.DfAt.mk ?a ?l ?c ?k; (case a => k_is); (case l => k_is); (case c => k_is); (case k => k_is))
  (case d11 => refine' L2.DfAt.mk ?a ?l ?c ?k; (case a => k_is); (case l => k_is); (case c => k_is); (case k => k_is))
  (case d12 => refine' L2.DfAt.mk ?a ?l ?c ?k; (case a => k_is); (case l => k_is); (case c => k_is); (case k => k_is))
  (case d13 => refine' L2.DfAt.mk ?a ?l ?c ?k; (case a => k_is); (case l => k_is); (case c => k_is); (case k => k_is))
  (case d14 => refine' L2.DfAt.mk ?a ?l ?c ?k; (case a => k_is); (case l => k_is); (case c => k_is); (case k => k_is))
  (case d15 => refine' L2.DfAt.mk ?a ?l ?c ?k; (case a => k_is); (case l => k_is); (case c => k_is); (case k => k_is))
  (case d16 => refine' L2.DfAt.mk ?a ?l ?c ?k; (case a => k_is); (case l => k_is); (case c => k_is); (case k => k_is))
  (case d17 => refine' L2.DfAt.mk ?a ?l ?c ?k; (case a => k_is); (case l => k_is); (case c => k_is); (case k => k_is))
  (case d18 => refine' L2.DfAt.mk ?a ?l ?c ?k; (case a => k_is); (case l => k_is); (case c => k_is); (case k => k_is))
  (case d19 => refine' L2.DfAt.mk ?a ?l ?c ?k; (case a => k_is); (case l => k_is); (case c => k_is); (case k => k_is))
  (case d20 => refine' L2.DfAt.mk ?a ?l ?c ?k; (case a => k_is); (case l => k_is); (case c => k_is); (case k => k_is))
  (case d21 => refine' L2.DfAt.mk ?a ?l ?c ?k; (case a => k_is); (case l => k_is); (case c => k_is); (case k => k_is))
  (case d22 => refine' L2.DfAt.mk ?a ?l ?c ?k; (case a => k_is); (case l => k_is); (case c => k_is); (case k => k_is))
  (case d23 => refine' L2.DfAt.mk ?a ?l ?c ?k; (case a => k_is); (case l => k_is); (case c => k_is); (case k => k_is))
  (case d24 => refine' L2.DfAt.mk ?a ?l ?c ?k; (case a => k_is); (case l => k_is); (case c => k_is); (case k => k_is))
  (case d25 => refine' L2.DfAt.mk ?a ?l ?c ?k; (case a => k_is); (case l => k_is); (case c => k_is); (case k => k_is))
  (case d26 => refine' L2.DfAt.mk ?a ?l ?c ?k; (case a => k_is); (case l => k_is); (case c => k_is); (case k => k_is))
  (case a27 => k_is)
  (case l27 => k_is)
  (case c27 => k_is)
  (case k27 => k_is)
  (case z_abs => k_is)
  (case z_all => k_is)
  (case z_bool => k_is)
  (case z_dict => k_is)
  (case z_enumerate => k_is)
  (case z_int => k_is)
  (case z_isinstance => k_is)
  (case z_len => k_is)
  (case z_list => k_is)
  (case z_min => k_is)
  (case z_range => k_is)
  (case z_set => k_is)
  (case z_sorted => k_is)
  (case z_str => k_is)
  (case z_sum => k_is)
  (case z_tuple => k_is)
