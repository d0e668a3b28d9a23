import PyProof.Rows.All
import Wide.All
import OpenK.AllK
import Wide.FinOn
import Lean
import PyProof.EqAt
import PyProof.EqKinds
import PyProof.TupleCall
import PySem.Challenge.RW_fewchecks_k28_whole_few_lost_come_back
set_option compiler.extract_closed false
set_option maxRecDepth 100000 in
set_option maxHeartbeats 0 in
def zq0x := @List.length_map
def zq1x := @List.getElem?_eq_getElem
def zq2x := @List.mem_cons
def zq3x := @List.getD_eq_getElem?_getD
def zq4x := @List.map_cons
def zq5x := @Nat.le_refl
def zq6x := @List.getElem?_map
def zq7x := @List.getElem?_eq_some_iff
def zq8x := @List.mem_singleton
def zq9x := @List.getElem?_set_ne
def zq10x := @List.lookup_cons
def zq11x := @List.getElem_mem
def zq12x := @PySem.Heap.lt_size
def zq13x := @Bool.false_ne_true
def zq14x := @Ne.symm
def zq15x := @PySem.W.mg_of
def zq16x := @List.mem_of_getElem?
def zq17x := @List.mem_map
def zq18x := @List.not_mem_nil
def zq19x := @List.mem_cons_self
def zq20x := @List.getElem?_set_self
def zq21x := @Int.emod_nonneg
def zq22x := @Int.emod_lt_of_pos
def zq23x := @List.mem_cons_of_mem
def zq24x := @Bool.and_eq_true
def zq25x := @List.map_append
def zq26x := @List.size_toArray
def zq27x := @List.mem_filter
def zq28x := @Nat.le_trans
def zq29x := @List.mem_range
def zq30x := @List.length_append
def zq31x := @Nat.lt_of_lt_of_le
def zq32x := @Nat.ne_of_lt
def zq33x := @PySem.Heap.get?_push_of_some
def zq34x := @List.getElem?_append_left
def zq35x := @List.getElem?_replicate
def zq36x := @Option.some.inj
def zq37x := @Nat.zero_le
def zq38x := @List.getElem?_append_right
def zq39x := @List.length_cons
def zq40x := @List.getElem?_eq_none
def zq41x := @List.sum_cons
def zq42x := @PySem.Heap.get?_push_size
def zq43x := @List.getElem?_of_mem
def zq44x := @PySem.PassesOwn.never
def zq45x := @List.mem_append
def zq46x := @List.append_nil
def zq47x := @List.length_set
def zq48x := @Option.some_ne_none
def zq49x := @PySem.boot_len
def zq50x := @PySem.W.mg_none_of
def zq51x := @Int.mul_ediv_add_emod
def zq52x := @PyProof.Rows.boot_list
def zq53x := @List.mem_append_right
def zq54x := @PySem.W.kia_one
def zq55x := @Classical.byContradiction
def zq56x := @Int.mul_comm
def zq57x := @List.take_length
def zq58x := @Nat.lt_irrefl
def zq59x := @List.nodup_cons
def zq60x := @List.length_singleton
def zq61x := @List.ext_getElem?
def zq62x := @Bool.eq_iff_iff
def zq63x := @Nat.le_succ
def zq64x := @List.any_cons
def zq65x := @List.getElem?_cons_succ
def zq66x := @Int.mul_sub
def zq67x := @List.map_map
def zq68x := @List.map_congr_left
def zq69x := @PyProof.Rows.boot_isinstance
def zq70x := @List.length_take
def zq71x := @List.cons_append
def zq72x := @Int.mul_le_mul_of_nonneg_left
def zq73x := @Int.mul_assoc
def zq74x := @List.length_range
def zq75x := @Nat.mul_mod
def zq76x := @List.pairwise_map
def zq77x := @Int.toNat_of_nonneg
def zq78x := @Nat.le_of_lt
def zq79x := @Array.length_toList
def zq80x := @PySem.mem_of_lookup
def zq81x := @List.all_cons
def zq82x := @List.set_set
def zq83x := @List.countP_cons
def zq84x := @List.find?_cons
def zq85x := @List.mem_append_left
def zq86x := @PySem.Heap.size_push
def zq87x := @List.replicate_succ
def zq88x := @Bool.false_or
def zq89x := @Int.ediv_nonneg
def zq90x := @PySem.W.kia_tup
def zq91x := @Nat.lt_succ_of_lt
def zq92x := @List.pairwise_iff_getElem
def zq93x := @Int.emod_eq_of_lt
def zq94x := @Int.dvd_of_emod_eq_zero
def zq95x := @PySem.F.plainAttrs_list
def zq96x := @Bool.or_false
def zq97x := @Nat.mul_comm
def zq98x := @List.map_nil
def zq99x := @Option.map_eq_some_iff
def zq100x := @Int.zero_mul
def zq101x := @Int.zero_add
def zq102x := @Int.mul_add
def zq103x := @Int.add_mul
def zq104x := @List.filter_append
def zq105x := @Bool.false_eq_true
def zq106x := @Int.toNat_natCast
def zq107x := @List.flatMap_cons
def zq108x := @Int.add_comm
def zq109x := @List.idxOf_lt_length_of_mem
def zq110x := @List.flatten_cons
def zq111x := @List.cons.inj
def zq112x := @List.sum_append
def zq113x := @List.length_eq_zero_iff
def zq114x := @List.take_of_length_le
def zq115x := @List.all_eq_true
def zq116x := @Nat.mul_assoc
def zq117x := @Int.lt_trichotomy
def zq118x := @PySem.W.KasT.kasWp_bind
def zq119x := @List.getElem?_range
def zq120x := @List.nodup_append
def zq121x := @List.mem_of_mem_take
def zq122x := @Int.mul_le_mul
def zq123x := @Int.mul_zero
def zq124x := @PyProof.Rows.callWith_type1
def zq125x := @PySem.W.kitx_dict
def zq126x := @List.getElem?_take_of_lt
def zq127x := @PySem.SeqAt.canLay_of_shaped
def zq128x := @Int.mul_le_mul_of_nonneg_right
def zq129x := @Int.sub_zero
def zq130x := @List.drop_zero
def zq131x := @Nat.pow_add
def zq132x := @Int.le_of_lt
def zq133x := @Int.natAbs_dvd_natAbs
def zq134x := @Int.emod_eq_zero_of_dvd
def zq135x := @List.filter_cons_of_pos
def zq136x := @List.filter_cons_of_neg
def zq137x := @List.countP_eq_zero
def zq138x := @PySem.Heap.get?_push_ne
def zq139x := @PySem.Heap.size_update
def zq140x := @List.mem_flatMap
def zq141x := @List.pairwise_cons
def zq142x := @List.length_pos_iff
def zq143x := @Int.ediv_eq_zero_of_lt
def zq144x := @PyProof.Rows.boot_sorted
def zq145x := @PySem.F.slot_list_append
def zq146x := @PySem.F.type_list_append
def zq147x := @Int.le_trans
def zq148x := @Sum.inl.inj
def zq149x := @List.filterMap_cons
def zq150x := @List.getElem_inj
def zq151x := @Nat.ne_of_gt
def zq152x := @Int.mul_one
def zq153x := @List.mem_filterMap
def zq154x := @PySem.W.plainGet_of
def zq155x := @Nat.lt_succ_self
def zq156x := @PySem.W.methodCall_KW
def zq157x := @PySem.W.kitx_list
def zq158x := @PySem.W.callWith_K
def zq159x := @List.of_mem_zip
def zq160x := @PySem.W.cellsFrom_some
def zq161x := @Option.isSome_iff_exists
def zq162x := @List.length_replicate
def zq163x := @List.append_assoc
def zq164x := @Array.getElem?_toList
def zq165x := @List.take_add_one
def zq166x := @Int.one_mul
def zq167x := @Int.mul_nonneg
def zq168x := @Int.natAbs_mul
def zq169x := @Nat.succ.inj
def zq170x := @List.Nodup.length_le_of_subset
def zq171x := @Nat.sub_zero
def zq172x := @List.any_eq_true
def zq173x := @Nat.mul_one
def zq174x := @Nat.zero_mul
def zq175x := @Nat.div_add_mod
def zq176x := @Nat.mod_mod
def zq177x := @Nat.mod_mod_of_dvd
def zq178x := @Nat.one_mul
def zq179x := @Nat.le_of_dvd
def zq180x := @Int.eq_ofNat_of_zero_le
def zq181x := @Int.le_of_dvd
def zq182x := @List.lookup_cons_self
def zq183x := @Int.add_zero
def zq184x := @Bool.true_or
def zq185x := @Option.isSome_map
def zq186x := @PySem.Calls.call_function_entry
def zq187x := @Nat.le_of_succ_le
def zq188x := @List.filter_cons
def zq189x := @List.filter_nil
def zq190x := @List.filter_congr
def zq191x := @Int.natCast_add
def zq192x := @Int.add_mul_ediv_right
def zq193x := @Int.add_mul_emod_self_right
def zq194x := @List.nodup_range
def zq195x := @Int.ediv_lt_of_lt_mul
def zq196x := @List.getElem_idxOf
def zq197x := @List.range_succ
def zq198x := @List.length_filter_le
def zq199x := @Int.ediv_le_self
def zq200x := @List.map_set
def zq201x := @Bool.eq_false_iff
def zq202x := @PyProof.Rows.boot_int
def zq203x := @PyProof.Rows.boot_sum
def zq204x := @PyProof.Rows.boot_range
def zq205x := @List.map_take
def zq206x := @PySem.Calls.Name_function_global
def zq207x := @List.filterMap_cons_some
def zq208x := @List.range_succ_eq_map
def zq209x := @Nat.dvd_of_mod_eq_zero
def zq210x := @Int.gcd_eq_zero_iff
def zq211x := @Classical.choose_spec
def zq212x := @PySem.F.plain_list_iadd
def zq213x := @Option.isNone_iff_eq_none
def zq214x := @List.flatMap_append
def zq215x := @List.mem_map_of_mem
def zq216x := @List.mem_or_eq_of_mem_set
def zq217x := @List.perm_ext_iff_of_nodup
def zq218x := @Nat.le_of_ble_eq_true
def zq219x := @PyProof.Rows.boot_tuple
def zq220x := @PyProof.Rows.boot_bool
def zq221x := @PyProof.Rows.boot_str
def zq222x := @List.replicate_succ'
def zq223x := @List.eq_of_mem_replicate
def zq224x := @List.set_append_right
def zq225x := @PySem.F.slot_list_extend
def zq226x := @PySem.F.type_list_extend
def zq227x := @List.getElem?_concat_length
def zq228x := @Bool.and_eq_true_iff
theorem said0 : PySem.Challenge.rw_fewchecks_k28_whole_few_lost_come_back.wellSaid = true := by decide +kernel
set_option Elab.async false
set_option linter.all false
set_option maxRecDepth 100000
namespace L2
open PySem PySem.Spec PyProof.Rows
abbrev Key := Sum Int Str
def keyIs : Key -> Value -> Bool
 | .inl k, v => Value.isInt k v
 | .inr x, v => Value.isStrOf x v
def keyH (w : World) : Key -> Int
 | .inl k => hashInt k
 | .inr x => hashStr w x
theorem keyIs_shape : ∀ {k : Key} {v : Value}, keyIs k v = true -> (∃ i t, k = Sum.inl i /\ v = Value.int i t) \/ (∃ x t, k = Sum.inr x /\ v = Value.str x t)
  | .inl i, v, h => by
    obtain ⟨t, e⟩ := Value.isInt_shape (k := i) (v := v) h
    exact .inl ⟨i, t, rfl, e⟩
  | .inr x, v, h => by
    obtain ⟨t, e⟩ := Value.isStrOf_shape (x := x) (v := v) h
    exact .inr ⟨x, t, rfl, e⟩
theorem keyIs_int (i : Int) (t : Tok) : keyIs (.inl i) (.int i t) = true := by simp [keyIs, Value.isInt]
theorem keyIs_str (x : Str) (t : Tok) : keyIs (.inr x) (.str x t) = true := by simp [keyIs, Value.isStrOf]
theorem key_ll (a b : Int) : decide ((Sum.inl a : Key) = Sum.inl b) = (a == b) := by
 by_cases e : a = b
 ·subst e; simp
 ·have h : ¬ (Sum.inl a : Key) = Sum.inl b := fun q => e (zq148x q)
  rw [decide_eq_false h]
  exact (beq_eq_false_iff_ne.mpr e).symm
theorem key_rr (a b : Str) : decide ((Sum.inr a : Key) = Sum.inr b) = decide (a = b) := by
 by_cases e : a = b
 ·subst e; simp
 ·have h : ¬ (Sum.inr a : Key) = Sum.inr b := fun q => e (Sum.inr.inj q)
  rw [decide_eq_false h, decide_eq_false e]
theorem key_lr (a : Int) (b : Str) : decide ((Sum.inl a : Key) = Sum.inr b) = false := decide_eq_false (fun q => nomatch q)
theorem key_rl (a : Str) (b : Int) : decide ((Sum.inr a : Key) = Sum.inl b) = false := decide_eq_false (fun q => nomatch q)
def mixKind (prog : Program) (w : World) : PySem.KeyKind prog w Key where
 is := keyIs
 hash := keyH w
 inj := fun v a b ha hb => by
  rcases keyIs_shape ha with ⟨i, t, rfl, rfl⟩ | ⟨x, t, rfl, rfl⟩
  ·rcases keyIs_shape hb with ⟨j, u, rfl, e⟩ | ⟨y, u, rfl, e⟩
   ·injection e with e1 _; rw [e1]
   ·exact nomatch e
  ·rcases keyIs_shape hb with ⟨j, u, rfl, e⟩ | ⟨y, u, rfl, e⟩
   ·exact nomatch e
   ·injection e with e1 _; rw [e1]
 byValue := fun k v h => by
  rcases keyIs_shape h with ⟨i, t, rfl, rfl⟩ | ⟨x, t, rfl, rfl⟩ <;> rfl
 pyHash := fun hv h => by
  rcases keyIs_shape hv with ⟨i, t, rfl, rfl⟩ | ⟨x, t, rfl, rfl⟩
  ·exact wpAny_pyHash_int h
  ·exact wpAny_pyHash_str h
 eqBool := fun hu hv h => by
  rcases keyIs_shape hu with ⟨i, t, rfl, rfl⟩ | ⟨x, t, rfl, rfl⟩
  ·rcases keyIs_shape hv with ⟨j, u, rfl, rfl⟩ | ⟨y, u, rfl, rfl⟩
   ·rw [key_ll] at h; exact wpAny_eqBool_int h
   ·rw [key_lr] at h; exact SeqAt.EqAt.int_str i t y u _ _ _ _ h
  ·rcases keyIs_shape hv with ⟨j, u, rfl, rfl⟩ | ⟨y, u, rfl, rfl⟩
   ·rw [key_rl] at h; exact SeqAt.EqAt.str_int x t j u _ _ _ _ h
   ·rw [key_rr] at h; exact wpAny_eqBool_str h
 «strs» := fun k x t v h => by
  rcases keyIs_shape h with ⟨i, u, rfl, e⟩ | ⟨y, u, rfl, e⟩
  ·exact nomatch e
  ·injection e with e1 _
   subst e1
   cases v <;> rfl
theorem mixKind_int (prog : Program) (w : World) (i : Int) (t : Tok) : (mixKind prog w).is (.inl i) (.int i t) = true := keyIs_int i t
theorem mixKind_str (prog : Program) (w : World) (x : Str) (t : Tok) : (mixKind prog w).is (.inr x) (.str x t) = true := keyIs_str x t
inductive V where
 | non | bl (b : Bool) | int (i : Int) | str (x : Str) | byt (b : Array UInt8) | flt (b : UInt64) | ref (a : Addr) | ty (n : String)
 deriving DecidableEq
def RelV : V -> Value -> Prop
 | .non, u => u = Value.none
 | .bl b, u => u = Value.bool b
 | .int i, u => ∃ t, u = Value.int i t
 | .str x, u => ∃ t, u = Value.str x t
 | .byt b, u => ∃ t, u = Value.bytes b t
 | .flt b, u => ∃ t, u = Value.float b t
 | .ref a, u => u = Value.ref a
 | .ty n, u => u = Value.type n
abbrev Vals : List V -> List Value -> Prop := Paired RelV
theorem Vals.length {xs : List V} {us : List Value} (r : Vals xs us) : xs.length = us.length := Paired.length r
theorem Vals.get : ∀ {xs : List V} {us : List Value} {i : Nat} {x : V}, Vals xs us -> xs[i]? = some x -> ∃ u, us[i]? = some u /\ RelV x u
  | _, _, _, _, .nil, e => by simp at e
  | _, _, 0, _, .cons r _, e => by simp at e; subst e; exact ⟨_, rfl, r⟩
  | _, _, i + 1, x, .cons _ t, e => by
    obtain ⟨u, h1, h2⟩ := Vals.get (i := i) (x := x) t (by simpa using e)
    exact ⟨u, by simpa using h1, h2⟩
theorem Vals.set {x : V} {u : Value} (r : RelV x u) : ∀ {xs : List V} {us : List Value} (i : Nat), Vals xs us -> Vals (xs.set i x) (us.set i u)
 | _, _, _, .nil => .nil
 | _, _, 0, .cons _ t => .cons r t
 | _, _, i + 1, .cons q t => .cons q (Vals.set r i t)
theorem Vals.append : ∀ {xs ys : List V} {us ws : List Value}, Vals xs us -> Vals ys ws -> Vals (xs ++ ys) (us ++ ws)
 | _, _, _, _, .nil, s => s
 | _, _, _, _, .cons r t, s => .cons r (Vals.append t s)
theorem Vals.take : ∀ {xs : List V} {us : List Value} (n : Nat), Vals xs us -> Vals (xs.take n) (us.take n)
 | _, _, 0, _ => .nil
 | _, _, _ + 1, .nil => .nil
 | _, _, n + 1, .cons r t => .cons r (Vals.take n t)
theorem Vals.drop : ∀ {xs : List V} {us : List Value} (n : Nat), Vals xs us -> Vals (xs.drop n) (us.drop n)
 | _, _, 0, r => r
 | _, _, _ + 1, .nil => .nil
 | _, _, n + 1, .cons _ t => Vals.drop n t
def RelO : Option V -> Option Value -> Prop
 | some v, some u => RelV v u
 | none, none => True
 | _, _ => False
def KV {κ : Type} : List (κ × V) -> List (κ × Value) -> Prop := Paired fun (p : κ × V) (q : κ × Value) => p.1 = q.1 /\ RelV p.2 q.2
def kV : Key -> V
 | .inl i => .int i
 | .inr x => .str x
inductive HO where
  | lst (xs : List V)
  | tup (xs : List V)
  | dK (kvs : List (Key × V)) | dT (kvs : List (List Key × V))
  | set (S : Int -> Bool) (n : Nat)
  | ins (C dx : Addr) (fs : List (Str × V))
  | own (x : Addr)
  | xd (fs : List (Str × V))
  | met (f x : Addr)
  | rng (lo hi : Int)
  | frz (o : Obj) (u : HO)
  | tbl (ps : Array Value)
  | ext (φ : Heap -> Prop)
abbrev Hp := Addr -> Option HO
def upd (H : Hp) (a : Addr) (o : HO) : Hp := fun b => if b = a then some o else H b
theorem upd_same {H : Hp} {a : Addr} {o : HO} : upd H a o a = some o := by unfold upd; rw [if_pos rfl]
theorem upd_ne {H : Hp} {a b : Addr} {o : HO} (h : b ≠ a) : upd H a o b = H b := by unfold upd; rw [if_neg h]
theorem upd_upd {H : Hp} {a : Addr} {o u : HO} : upd (upd H a o) a u = upd H a u := by
 funext b; unfold upd; split <;> rfl
theorem ne_of_none {H : Hp} {a b : Addr} {o : HO} (h : H a = some o) (h' : H b = none) : a ≠ b := by
 intro e; subst e; rw [h] at h'; cases h'
section
variable (P : Program) (w : World)
def ObjOk (H : Hp) (h : Heap) (a : Addr) : HO -> Prop
 | .lst xs => xs.length <= sizeLine /\ ∃ (its : List Value) (n : Nat), Vals xs its /\ h.get? a = some { cls := .type "list", data := .seq its.toArray n }
 | .tup xs => xs.length <= sizeLine /\ ∃ its : List Value, Vals xs its /\ IsTup h a its.toArray
 | .dK kvs => kvs.length <= sizeLine /\ (a == sysModules) = false /\ ∃ vs, KV kvs vs /\ h.DictOf (mixKind P w) a vs
 | .dT kvs => kvs.length <= sizeLine /\ (a == sysModules) = false /\ ∃ xs : List (List Key × Addr × Value),
   Paired (fun (p : List Key × V) (q : List Key × Addr × Value) => p.1 = q.1 /\ H q.2.1 = some (.tup (p.1.map kV)) /\ RelV p.2 q.2.2) kvs xs /\
   ∃ o es ep, h.get? a = some o /\ o.ExactDict /\ o.data = .dict es ep /\ es.toList = xs.map (entryOfKey (tupleKind (mixKind P w))) /\ (xs.map (·.1)).Nodup
 | .set S n => h.SetOf (intKind P w) a S n
 | .ins C dx fs => H dx = some (.own a) /\ fs.length <= 1000 /\ dx ≠ a /\ h.get? a = some (PySem.W.instObj C dx) /\
   ∃ mA, h.Ns1 dx mA /\ (∀ f, RelO (fs.lookup f) (mA f)) /\ PySem.Within mA (fs.map (·.1))
 | .own _ => ∃ o, h.get? a = some o
 | .xd fs => ∃ mA, h.Ns1 a mA /\ ∀ f, RelO (fs.lookup f) (mA f)
 | .rng lo hi => ∃ t u v, h.get? a = some { cls := .type "range", data := .fields #[.int lo t, .int hi u, .int 1 v] }
 | .frz o u => h.get? a = some o /\ ObjOk H h a u
 | .tbl ps => h.get? a = some { cls := .none, data := .fields ps }
 | .met f x => h.get? a = some (PySem.W.methodObj (.ref f) (.ref x))
 | .ext φ => φ h /\ (∃ o, h.get? a = some o) /\ ∀ h1 h2 : Heap, φ h1 -> (∀ o, h1.get? a = some o -> h2.get? a = some o) -> φ h2
def HOk (H : Hp) (h : Heap) : Prop := ∀ a o, H a = some o -> ObjOk P w H h a o
end
section
variable {P : Program} {w : World} {H H' : Hp} {h h' : Heap} {a : Addr} {o : HO}
theorem ObjOk.lt (x : ObjOk P w H h a o) : a < h.objs.size := by
 cases o with
 | lst xs => obtain ⟨_, _, _, _, e⟩ := x; exact zq12x e
 | tup xs => obtain ⟨_, _, _, p⟩ := x; exact p.lt
 | dK kvs => obtain ⟨_, _, _, _, o, _, _, e, _⟩ := x; exact zq12x e
 | dT kvs => obtain ⟨_, _, _, _, o, _, _, e, _⟩ := x; exact zq12x e
 | set S n => obtain ⟨o, _, _, _, e, _⟩ := x; exact zq12x e
 | ins C dx fs => obtain ⟨_, _, _, e, _⟩ := x; exact zq12x e
 | own y => obtain ⟨_, e⟩ := x; exact zq12x e
 | xd fs => obtain ⟨_, ⟨_, _, _, e, _⟩, _⟩ := x; exact zq12x e
 | rng lo hi => obtain ⟨_, _, _, e⟩ := x; exact zq12x e
 | frz ob u => obtain ⟨e, _⟩ := x; exact zq12x e
 | tbl ps => exact zq12x (show h.get? a = some _ from x)
 | met f y => exact zq12x (show h.get? a = some _ from x)
 | ext φ => obtain ⟨_, ⟨_, e⟩, _⟩ := x; exact zq12x e
theorem Paired.mapP {α β : Type} {F G : α -> β -> Prop} : ∀ {l₁ : List α} {l₂ : List β}, Paired F l₁ l₂ -> (∀ a b, F a b -> G a b) -> Paired G l₁ l₂
 | _, _, .nil, _ => .nil
 | _, _, .cons r t, f => .cons (f _ _ r) (Paired.mapP t f)
theorem ObjOk.stay (x : ObjOk P w H h a o) (k : ∀ b u, (b = a \/ H b = some (.own a)) -> h.get? b = some u -> h'.get? b = some u)
    (ho : ∀ b, H b = some (.own a) -> H' b = some (.own a)) (ht : ∀ b xs, H b = some (.tup xs) -> H' b = some (.tup xs)) : ObjOk P w H' h' a o := by
  induction o with
  | lst xs => obtain ⟨z, its, n, r, e⟩ := x; exact ⟨z, its, n, r, k _ _ (.inl rfl) e⟩
  | tup xs => obtain ⟨z, its, r, ob, e, c⟩ := x; exact ⟨z, its, r, ob, k _ _ (.inl rfl) e, c⟩
  | dK kvs => obtain ⟨z, y, vs, r, ob, es, ep, e, c⟩ := x; exact ⟨z, y, vs, r, ob, es, ep, k _ _ (.inl rfl) e, c⟩
  | dT kvs =>
    obtain ⟨z, y, xs, r, ob, es, ep, e, c⟩ := x
    exact ⟨z, y, xs, Paired.mapP r fun p q z => ⟨z.1, ht _ _ z.2.1, z.2.2⟩, ob, es, ep, k _ _ (.inl rfl) e, c⟩
  | set S n => obtain ⟨ob, es, ep, t, e, c⟩ := x; exact ⟨ob, es, ep, t, k _ _ (.inl rfl) e, c⟩
  | ins C dx fs =>
    obtain ⟨d, z, ne, e, mA, ⟨od, es, ep, e2, c⟩, r⟩ := x
    exact ⟨ho _ d, z, ne, k _ _ (.inl rfl) e, mA, ⟨od, es, ep, k _ _ (.inr d) e2, c⟩, r⟩
  | own y => obtain ⟨ob, e⟩ := x; exact ⟨ob, k _ _ (.inl rfl) e⟩
  | xd fs => obtain ⟨mA, ⟨od, es, ep, e, c⟩, r⟩ := x; exact ⟨mA, ⟨od, es, ep, k _ _ (.inl rfl) e, c⟩, r⟩
  | rng lo hi => obtain ⟨t, u, v, e⟩ := x; exact ⟨t, u, v, k _ _ (.inl rfl) e⟩
  | frz ob u ih => obtain ⟨e, q⟩ := x; exact ⟨k _ _ (.inl rfl) e, ih q⟩
  | tbl ps =>
    have e : h.get? a = some { cls := .none, data := .fields ps } := x
    show h'.get? a = some { cls := .none, data := .fields ps }
    exact k a _ (.inl rfl) e
  | met f y =>
    have e : h.get? a = some (PySem.W.methodObj (.ref f) (.ref y)) := x
    show h'.get? a = some (PySem.W.methodObj (.ref f) (.ref y))
    exact k a _ (.inl rfl) e
  | ext φ => obtain ⟨p, ⟨o, e⟩, st⟩ := x; exact ⟨st _ _ p fun o q => k _ _ (.inl rfl) q, ⟨o, k _ _ (.inl rfl) e⟩, st⟩
theorem HOk.lt (x : HOk P w H h) (e : H a = some o) : a < h.objs.size := (x a o e).lt
theorem HOk.fresh (x : HOk P w H h) (e : h.objs.size <= a) : H a = none := by
 cases q : H a with
 | none => rfl
 | some u => exact absurd (zq31x (x.lt q) e) (zq58x _)
theorem HOk.kept (x : HOk P w H h) (k : ∀ b u, h.get? b = some u -> h'.get? b = some u) : HOk P w H h' := fun a o e =>
 (x a o e).stay (fun b u _ q => k b u q) (fun _ q => q) fun _ _ q => q
theorem HOk.laid (x : HOk P w H h) (k : ∀ b u, h.get? b = some u -> h'.get? b = some u) (hp : h.objs.size <= a) (new : ObjOk P w (upd H a o) h' a o) : HOk P w (upd H a o) h' := fun b u e => by
 have hn := x.fresh hp
 by_cases hb : b = a
 ·subst hb; rw [upd_same] at e; cases e; exact new
 ·rw [upd_ne hb] at e
  exact (x b u e).stay (fun c v _ q => k c v q) (fun c q => by rw [upd_ne (ne_of_none q hn)]; exact q) fun c xs q => by rw [upd_ne (ne_of_none q hn)]; exact q
end
def Rd (H : Hp) (a : Addr) (u : HO) : Prop := H a = some u \/ ∃ o, H a = some (.frz o u)
theorem Rd.ok {P : Program} {w : World} {H : Hp} {h : Heap} {a : Addr} {u : HO} (r : Rd H a u) (x : HOk P w H h) : ObjOk P w H h a u := by
 rcases r with r | ⟨o, r⟩
 ·exact x a u r
 ·obtain ⟨_, q⟩ := x a _ r
  exact q
def Mut : Option HO -> Prop
 | some (.lst _) => True
 | some (.dK _) => True
 | some (.dT _) => True
 | some (.set _ _) => True
 | some (.ins _ _ _) => True
 | some (.ext _) => True
 | _ => False
section
variable {P : Program} {w : World} {H : Hp} {h h' : Heap} {x e : Addr} {o' : HO}
theorem HOk.write (ok : HOk P w H h) (mu : Mut (H x)) (he : e = x \/ H e = some (.own x)) (k : ∀ b u, b ≠ e -> h.get? b = some u -> h'.get? b = some u) (heo : ∃ u, h'.get? e = some u)
  (new : ObjOk P w (upd H x o') h' x o') : HOk P w (upd H x o') h' := fun b u q => by
 have nown : ∀ c y, H c = some (.own y) -> c ≠ x := fun c y r z => by subst z; rw [r] at mu; exact mu
 have ntup : ∀ c xs, H c = some (.tup xs) -> c ≠ x := fun c xs r z => by subst z; rw [r] at mu; exact mu
 by_cases hb : b = x
 ·subst hb; rw [upd_same] at q; cases q; exact new
 ·rw [upd_ne hb] at q
  by_cases hbe : b = e
  ·have q' : H b = some (.own x) := by
    rcases he with z | z
    ·exact absurd (hbe.trans z) hb
    ·rw [hbe]; exact z
   rw [q] at q'; cases q'
   obtain ⟨v, hv⟩ := heo
   exact ⟨v, by rw [hbe]; exact hv⟩
  ·refine (ok b u q).stay (fun c v hc r => k c v ?_ r) (fun c r => by rw [upd_ne (nown c b r)]; exact r) fun c xs r => by rw [upd_ne (ntup c xs r)]; exact r
   rcases hc with rfl | hc
   ·exact hbe
   ·rintro rfl
    rcases he with z | z
    ·exact nown c b hc z
    ·rw [hc] at z; cases z; exact hb rfl
end
structure Un (fs ex : List Addr) (H H' : Hp) (h h' : Heap) : Prop where
 keep : ∀ b o, h.get? b = some o -> H b = none -> b ∉ fs -> b ∉ ex -> h'.get? b = some o
 slot : ∀ b o, h.get? b = some o -> H b = none -> b ∈ fs -> b ∉ ex -> ∃ sl, h'.get? b = some { o with slots := sl }
 free : ∀ b o, h.get? b = some o -> H b = none -> b ∉ ex -> H' b = none
 there : ∀ b o, h.get? b = some o -> b ∉ ex -> ∃ o', h'.get? b = some o'
 tups : ∀ b xs, H b = some (.tup xs) -> H' b = some (.tup xs)
 frzs : ∀ b o u, H b = some (.frz o u) -> H' b = some (.frz o u)
 tbls : ∀ b ps, H b = some (.tbl ps) -> ∃ more, H' b = some (.tbl (ps ++ more))
section
variable {fs fs' ex ex' : List Addr} {H H1 H2 : Hp} {h h1 h2 h' : Heap} {a x e : Addr} {o : HO}
theorem Un.any (u : Un fs ex H H1 h h1) {b : Addr} {ob : Obj} (q : h.get? b = some ob) (n : H b = none) (hx : b ∉ ex) : ∃ sl, h1.get? b = some { ob with slots := sl } := by
 by_cases hb : b ∈ fs
 ·exact u.slot b ob q n hb hx
 ·exact ⟨ob.slots, u.keep b ob q n hb hx⟩
theorem Un.kept (k : ∀ b u, h.get? b = some u -> h'.get? b = some u) : Un fs ex H H h h' :=
 ⟨fun b ob q _ _ _ => k b ob q, fun b ob q _ _ _ => ⟨ob.slots, k b ob q⟩, fun _ _ _ n _ => n, fun b ob q _ => ⟨ob, k b ob q⟩, fun _ _ q => q, fun _ _ _ q => q, fun _ ps q => ⟨#[], by rw [q]; simp⟩⟩
theorem Un.refl : Un fs ex H H h h := Un.kept fun _ _ q => q
theorem Un.laid (k : ∀ b u, h.get? b = some u -> h'.get? b = some u) (hp : h.objs.size <= a) (hn : H a = none) : Un fs ex H (upd H a o) h h' where
 keep := fun b u q _ _ _ => k b u q
 slot := fun b u q _ _ _ => ⟨u.slots, k b u q⟩
 free := fun b u q n _ => by rw [upd_ne (zq32x (zq31x (zq12x q) hp))]; exact n
 there := fun b u q _ => ⟨u, k b u q⟩
 tups := fun b xs q => by rw [upd_ne (ne_of_none q hn)]; exact q
 frzs := fun b u xs q => by rw [upd_ne (ne_of_none q hn)]; exact q
 tbls := fun b ps q => ⟨#[], by rw [upd_ne (ne_of_none q hn), q]; simp⟩
theorem Un.write (mu : Mut (H x)) (he : e = x \/ H e = some (.own x)) (k : ∀ b u, b ≠ e -> h.get? b = some u -> h'.get? b = some u) (heo : ∃ u, h'.get? e = some u) : Un fs ex H (upd H x o) h h' := by
 have hx : ∀ b, H b = none -> b ≠ x := fun b n z => by subst z; rw [n] at mu; exact mu
 have hb : ∀ b, H b = none -> b ≠ e := fun b n z => by
  subst z
  rcases he with r | r
  ·exact hx b n r
  ·rw [n] at r; cases r
 have hm : ∀ b u, H b = some u -> ¬ Mut (some u) -> b ≠ x := fun b u q nm z => by subst z; rw [q] at mu; exact nm mu
 refine ⟨fun b u q n _ _ => k b u (hb b n) q, fun b u q n _ _ => ⟨u.slots, k b u (hb b n) q⟩, fun b u q n _ => by rw [upd_ne (hx b n)]; exact n, fun b u q _ => ?_,
  fun b xs q => by rw [upd_ne (hm b _ q fun z => z)]; exact q, fun b u xs q => by rw [upd_ne (hm b _ q fun z => z)]; exact q, fun b ps q => ⟨#[], by rw [upd_ne (hm b _ q fun z => z), q]; simp⟩⟩
 by_cases hbe : b = e
 ·subst hbe; exact heo
 ·exact ⟨u, k b u hbe q⟩
end
def trk (h : Heap) (H : Hp) : List Addr := (List.range h.objs.size).filter fun a => (H a).isSome
def hidT (h : Heap) (H : Hp) : Heap := PySem.W.hideAll h (trk h H)
theorem hidT_size (h : Heap) (H : Hp) : (hidT h H).objs.size = h.objs.size := PySem.W.hideAll_size _ _
theorem hidT_get {h : Heap} {H : Hp} {b : Addr} {o : Obj} (e : h.get? b = some o) (n : H b = none) : (hidT h H).get? b = some o :=
 PySem.W.hideAll_get _ e fun hm => by
  have q : (H b).isSome = true := (zq27x.mp hm).2
  rw [n] at q; simp at q
theorem of_hidT {h : Heap} {H : Hp} {b : Addr} {o : Obj} (e : (hidT h H).get? b = some o) : h.get? b = some o /\ H b = none := by
  have e' : h.get? b = some o := PySem.W.of_hideAll (trk h H) e
  refine ⟨e', ?_⟩
  cases q : H b with
  | none => rfl
  | some x =>
    have hm : b ∈ trk h H := zq27x.mpr ⟨zq29x.mpr (zq12x e'), by simp [q]⟩
    have z : (hidT h H).get? b = none := PySem.W.hideAll_none (trk h H) hm
    rw [z] at e; cases e
def allNews (g h : Heap) (L : Addr) : List (Addr × Obj) := (List.range h.objs.size).filterMap fun a => if a = L \/ (g.get? a).isSome = true then none else (h.get? a).map fun o => (a, o)
def rest (g h : Heap) (L d : Addr) : List (Addr × Obj) := (allNews g h L).filter fun p => decide (p.1 ≠ d)
structure Mod (K : PySem.W.Frag) (mg : Str -> Option Value) (base : Heap) : Prop where
 kin : K.In base
 glob : base.Ns mainGlobals mg
 blt : ∃ mb, base.Ns builtinsNs mb /\ ∀ x : Str, x ≠ "__name__" -> mb x = bootBuiltins x
 nolimit : base.NoLimit
structure Cx where
 prog : Program
 w : World
 K : PySem.W.Frag
 mg : Str -> Option Value
 base : Heap
 A : Around
 N : List Str
 s₀ : Shared
 H₀ : Hp
 env : Env
 outer : List Env
 stack : List Env
 ex : List Addr
 fn : Str -> Bool
 calm : Bool
 pn : List (Addr × Obj)
 xe : Value -> Shared -> Prop
def frs (l : List Env) : List Addr := l.filterMap (·.frame)
abbrev Cx.fs (X : Cx) : List Addr := frs X.outer
def Vis (sc : Scope) (x : Str) : Prop := sc.names.lookup x = some .local \/ sc.names.lookup x = some .cell \/ sc.names.lookup x = some .free
def Loc (sc : Scope) (x : Str) : Prop := sc.names.lookup x = some .local \/ sc.names.lookup x = some .cell
def Look (env : Env) (h : Heap) (m : Str -> Option Value) (x : Str) (u : Value) : Prop :=
 (env.kindOf x = some .local /\ m x = some u) \/ ((env.kindOf x = some .cell \/ env.kindOf x = some .free) /\ ∃ c, env.cells.lookup x = some c /\ h.IsCell c (some u))
structure Cx.Ok (X : Cx) : Prop where
 mod : Mod X.K X.mg X.base
 kind : X.env.scope.kind = .function
 glob : X.env.globals = mainGlobals
 blt : X.env.builtins = builtinsNs
 above : X.s₀.heap.objs.size <= X.env.locals
 inj : ∀ x y c, X.env.cells.lookup x = some c -> X.env.cells.lookup y = some c -> x = y
 has : ∀ x, (X.env.kindOf x = some .cell \/ X.env.kindOf x = some .free) -> ∃ c, X.env.cells.lookup x = some c
 cab : ∀ x c, X.fn x = true -> X.env.cells.lookup x = some c -> X.s₀.heap.objs.size <= c
 hd : X.calm = true -> X.A.handled = none
 frames : X.A.frames = some X.stack
 stk : X.stack = X.outer \/ (X.stack = X.env :: X.outer /\ X.env.frame = some X.env.locals)
 exf : ∀ b ∈ X.ex, b ≠ X.env.locals /\ ∀ x c, X.env.cells.lookup x = some c -> c ≠ b
 bs : ∀ b o, X.base.get? b = some o -> X.s₀.heap.get? b = some o /\ X.H₀ b = none
 bsz : X.base.objs.size <= X.s₀.heap.objs.size
 noex : ∀ b o, X.base.get? b = some o -> b ∉ X.ex
 exfs : ∀ b ∈ X.ex, b ∉ X.fs
 funs : X.s₀.heap.FunFrames X.base X.outer
 frf : ∀ b ∈ X.fs, X.H₀ b = none
structure Inv (X : Cx) (pins : List (Addr × Obj)) (σ : List (Option V)) (H : Hp) (s : Shared) : Prop where
 ok : X.Ok
 os : s.os = X.s₀.os
 bare : AllBare s.gens
 base : Un X.fs X.ex X.H₀ H X.s₀.heap s.heap
 loc : ∃ m, s.heap.Ns X.env.locals m /\ ∀ (i : Nat) (x : Str) (v : V), X.N[i]? = some x -> σ[i]? = some (some v) -> Vis X.env.scope x -> ∃ u, RelV v u /\ Look X.env s.heap m x u
 cell : ∀ x c, X.env.cells.lookup x = some c -> ∃ v, s.heap.IsCell c v
 free : H X.env.locals = none
 freeC : ∀ x c, X.env.cells.lookup x = some c -> H c = none
 pin : ∀ p ∈ X.pn ++ pins, s.heap.get? p.1 = some p.2 /\ H p.1 = none /\ p.1 ≠ X.env.locals /\ p.1 ∉ X.fs /\ ∀ v, p.2.data ≠ .cell v
 hok : HOk X.prog X.w H s.heap
 len : σ.length = X.N.length
section
variable {X : Cx} {pins : List (Addr × Obj)} {σ : List (Option V)} {H H' : Hp} {s : Shared} {h' : Heap}
theorem Cx.Ok.nofr (ok : X.Ok) {b : Addr} {o : Obj} (e : X.base.get? b = some o) : b ∉ X.fs := fun hb => by
 have := (ok.funs.mem hb).1
 rw [e] at this; cases this
theorem Inv.bs (I : Inv X pins σ H s) : ∀ b o, X.base.get? b = some o -> s.heap.get? b = some o /\ H b = none := fun b o e =>
 ⟨I.base.keep b o (I.ok.bs b o e).1 (I.ok.bs b o e).2 (I.ok.nofr e) (I.ok.noex b o e), I.base.free b o (I.ok.bs b o e).1 (I.ok.bs b o e).2 (I.ok.noex b o e)⟩
theorem Inv.bk (I : Inv X pins σ H s) : ∀ b o, X.base.get? b = some o -> s.heap.get? b = some o := fun b o e => (I.bs b o e).1
theorem Inv.mod (I : Inv X pins σ H s) : Mod X.K X.mg X.base := I.ok.mod
theorem Inv.kIn (I : Inv X pins σ H s) : X.K.In s.heap := I.ok.mod.kin.keeps I.bk
theorem Inv.lt (I : Inv X pins σ H s) : X.env.locals < s.heap.objs.size := let ⟨_, hn, _⟩ := I.loc; hn.lt
theorem Inv.sz (I : Inv X pins σ H s) : X.s₀.heap.objs.size <= s.heap.objs.size := zq28x I.ok.above (zq78x I.lt)
theorem Inv.nofs (I : Inv X pins σ H s) {a : Addr} (h : s.heap.objs.size <= a) : a ∉ X.fs := fun hb => by
 obtain ⟨_, o, ho, _⟩ := I.ok.funs.mem hb
 exact absurd (zq31x (zq12x ho) (zq28x I.sz h)) (zq58x _)
theorem Inv.cne (I : Inv X pins σ H s) : ∀ x c, X.env.cells.lookup x = some c -> c ≠ X.env.locals := fun x c e z => by
 obtain ⟨v, o, ho, hd⟩ := I.cell x c e
 obtain ⟨m, ⟨o', es, ep, ho', hd', _⟩, _⟩ := I.loc
 rw [z, ho'] at ho; cases ho; rw [hd'] at hd; cases hd
theorem Inv.funs (I : Inv X pins σ H s) : s.heap.FunFrames X.base X.outer := by
  have all : ∀ (l : List Env), (∀ b ∈ frs l, b ∈ X.fs) -> X.s₀.heap.FunFrames X.base l -> s.heap.FunFrames X.base l := by
    intro l
    induction l with
    | nil => intro _ _; trivial
    | cons env r ih =>
      intro hs hl
      obtain ⟨hk, ⟨L, o, hf, hn, ho, hd⟩, hr⟩ := hl
      have hL : L ∈ X.fs := hs L (by unfold frs; rw [zq149x, hf]; exact zq19x)
      obtain ⟨sl, e⟩ := I.base.slot L o ho (I.ok.frf L hL) hL fun z => I.ok.exfs L z hL
      exact ⟨hk, ⟨L, _, hf, hn, e, hd⟩, ih (fun b hb => hs b (by unfold frs; rw [zq149x, hf]; exact zq23x _ hb)) hr⟩
  exact all X.outer (fun _ hb => hb) I.ok.funs
theorem Inv.stack (I : Inv X pins σ H s) : s.heap.FunFrames X.base X.stack := by
 rcases I.ok.stk with e | ⟨e, hf⟩
 ·rw [e]; exact I.funs
 ·rw [e]
  obtain ⟨m, hn, _⟩ := I.loc
  refine .cons (by rw [I.ok.kind]; decide) hf hn ?_ I.funs
  exact Heap.get?_none_of_le (zq28x I.ok.bsz I.ok.above)
theorem Inv.stkSub (I : Inv X pins σ H s) : ∀ b ∈ frs X.stack, b ∈ X.env.locals :: X.fs := fun b hb => by
 rcases I.ok.stk with e | ⟨e, hf⟩
 ·rw [e] at hb; exact zq23x _ hb
 ·rw [e] at hb
  unfold frs at hb
  rw [zq149x, hf] at hb
  exact hb
theorem Inv.stkFree (I : Inv X pins σ H s) : ∀ b ∈ frs X.stack, H b = none := fun b hb => by
 rcases zq2x.mp (I.stkSub b hb) with e | hb
 ·rw [e]; exact I.free
 ·obtain ⟨_, o, ho, _⟩ := I.ok.funs.mem hb
  exact I.base.free b o ho (I.ok.frf b hb) fun z => I.ok.exfs b z hb
theorem Inv.step {g' : Array GenState} {t' : Nat} {d' : Drawn} {ch : List Addr} (I : Inv X pins σ H s)
  (hch : ∀ b ∈ ch, (b ∈ X.ex \/ X.s₀.heap.objs.size <= b) /\ b ≠ X.env.locals /\ (∀ x c, X.env.cells.lookup x = some c -> c ≠ b) /\ ∀ p ∈ X.pn ++ pins, p.1 ≠ b)
  (keep : ∀ b o, b ≠ X.env.locals -> b ∉ X.fs -> b ∉ ch -> s.heap.get? b = some o -> H b = none -> h'.get? b = some o)
  (slot : ∀ b o, b ≠ X.env.locals -> b ∈ X.fs -> b ∉ ch -> s.heap.get? b = some o -> H b = none -> ∃ sl, h'.get? b = some { o with slots := sl }) (free : ∀ b o, b ∉ ch -> s.heap.get? b = some o -> H b = none -> H' b = none)
  (there : ∀ b o, b ∉ ch -> s.heap.get? b = some o -> ∃ o', h'.get? b = some o')
  (tups : ∀ b xs, H b = some (.tup xs) -> H' b = some (.tup xs)) (frzs : ∀ b o u, H b = some (.frz o u) -> H' b = some (.frz o u)) (tbls : ∀ b ps, H b = some (.tbl ps) -> ∃ more, H' b = some (.tbl (ps ++ more)))
  (ns : ∀ m, s.heap.Ns X.env.locals m -> h'.Ns X.env.locals m) (hok : HOk X.prog X.w H' h') (hg : AllBare g') :
  Inv X pins σ H' { s with heap := h', gens := g', drawn := d', toks := t' } := by
 have neL : ∀ b o, X.s₀.heap.get? b = some o -> b ≠ X.env.locals := fun b o e => zq32x (zq31x (zq12x e) I.ok.above)
 have neC : ∀ b o, X.s₀.heap.get? b = some o -> b ∉ X.ex -> b ∉ ch := fun b o e hx hb => by
  rcases (hch b hb).1 with z | z
  ·exact hx z
  ·exact absurd (zq31x (zq12x e) z) (zq58x _)
 have cellK : ∀ x c, X.env.cells.lookup x = some c -> ∀ v, s.heap.IsCell c v -> h'.IsCell c v := fun x c e v ⟨o, ho, hd⟩ => by
  have nch : c ∉ ch := fun z => (hch c z).2.2.1 x c e rfl
  by_cases hc : c ∈ X.fs
  ·obtain ⟨sl, q⟩ := slot c o (I.cne x c e) hc nch ho (I.freeC x c e)
   exact ⟨_, q, hd⟩
  ·exact ⟨o, keep c o (I.cne x c e) hc nch ho (I.freeC x c e), hd⟩
 refine ⟨I.ok, I.os, hg, ⟨fun b o e n hb hx => ?_, fun b o e n hb hx => ?_, fun b o e n hx => ?_, fun b o e hx => ?_, fun b xs e => tups b xs (I.base.tups b xs e), fun b o xs e => frzs b o xs (I.base.frzs b o xs e), fun b ps e => ?_⟩, ?_, fun x c e => ?_, ?_, fun x c e => ?_, fun p hp => ?_, hok, I.len⟩
 ·exact keep b o (neL b o e) hb (neC b o e hx) (I.base.keep b o e n hb hx) (I.base.free b o e n hx)
 ·obtain ⟨sl, e1⟩ := I.base.slot b o e n hb hx
  obtain ⟨sl', e2⟩ := slot b _ (neL b o e) hb (neC b o e hx) e1 (I.base.free b o e n hx)
  exact ⟨sl', e2⟩
 ·obtain ⟨o', e1⟩ := I.base.there b o e hx
  exact free b o' (neC b o e hx) e1 (I.base.free b o e n hx)
 ·obtain ⟨o', e1⟩ := I.base.there b o e hx
  exact there b o' (neC b o e hx) e1
 ·obtain ⟨m1, e1⟩ := I.base.tbls b ps e
  obtain ⟨m2, e2⟩ := tbls b _ e1
  exact ⟨m1 ++ m2, by rw [e2, Array.append_assoc]⟩
 ·obtain ⟨m, hn, hl⟩ := I.loc
  refine ⟨m, ns m hn, fun i x v e1 e2 e3 => ?_⟩
  obtain ⟨u, r, l⟩ := hl i x v e1 e2 e3
  refine ⟨u, r, ?_⟩
  rcases l with l | ⟨k, c, e, z⟩
  ·exact .inl l
  ·exact .inr ⟨k, c, e, cellK x c e _ z⟩
 ·obtain ⟨v, z⟩ := I.cell x c e
  exact ⟨v, cellK x c e v z⟩
 ·obtain ⟨m, ⟨o, _, _, ho, _⟩, _⟩ := I.loc
  exact free _ o (fun z => (hch _ z).2.1 rfl) ho I.free
 ·obtain ⟨v, o, ho, hd⟩ := I.cell x c e
  exact free c o (fun z => (hch c z).2.2.1 x c e rfl) ho (I.freeC x c e)
 ·obtain ⟨e, n, ne, nf, d⟩ := I.pin p hp
  have nch : p.1 ∉ ch := fun z => (hch p.1 z).2.2.2 p hp rfl
  exact ⟨keep p.1 p.2 ne nf nch e n, free p.1 p.2 nch e n, ne, nf, d⟩
theorem Inv.un {t' : Nat} (I : Inv X pins σ H s) (u : Un X.fs [] H H' s.heap h') (hok : HOk X.prog X.w H' h') : Inv X pins σ H' { s with heap := h', toks := t' } := by
 obtain ⟨m, ⟨o, es, ep, ho, r⟩, _⟩ := id I.loc
 obtain ⟨sl, hL⟩ := u.any ho I.free (by simp)
 exact I.step (g' := s.gens) (d' := s.drawn) (ch := []) (fun _ z => nomatch z) (fun b o _ hb _ e n => u.keep b o e n hb (by simp)) (fun b o _ hb _ e n => u.slot b o e n hb (by simp)) (fun b o _ e n => u.free b o e n (by simp)) (fun b o _ e => u.there b o e (by simp)) u.tups u.frzs u.tbls (fun m' hm => by
  obtain ⟨o', es', ep', ho', r'⟩ := hm
  rw [ho] at ho'; cases ho'
  exact ⟨_, es', ep', hL, r'⟩) hok I.bare
theorem Inv.call {g' : Array GenState} {t' : Nat} {d' : Drawn} {ch : List Addr} (I : Inv X pins σ H s) (u : Un (frs X.stack) ch H H' s.heap h') (hok : HOk X.prog X.w H' h') (hg : AllBare g')
  (hch : ∀ b ∈ ch, (b ∈ X.ex \/ X.s₀.heap.objs.size <= b) /\ b ≠ X.env.locals /\ (∀ x c, X.env.cells.lookup x = some c -> c ≠ b) /\ ∀ p ∈ X.pn ++ pins, p.1 ≠ b) :
  Inv X pins σ H' { s with heap := h', gens := g', drawn := d', toks := t' } := by
 obtain ⟨m, ⟨o, es, ep, ho, r⟩, _⟩ := id I.loc
 obtain ⟨sl, hL⟩ := u.any ho I.free fun z => (hch _ z).2.1 rfl
 exact I.step (ch := ch) hch (fun b o hL hb hc e n => u.keep b o e n (fun z => (zq2x.mp (I.stkSub b z)).elim hL hb) hc) (fun b o _ _ hc e n => u.any e n hc) (fun b o hc e n => u.free b o e n hc) (fun b o hc e => u.there b o e hc) u.tups u.frzs u.tbls (fun m' hm => by
  obtain ⟨o', es', ep', ho', r'⟩ := hm
  rw [ho] at ho'; cases ho'
  exact ⟨_, es', ep', hL, r'⟩) hok hg
theorem Inv.turned {t' : Nat} {it : Addr} (I : Inv X pins σ H s) (k : ∀ b o, b ≠ it -> s.heap.get? b = some o -> h'.get? b = some o) (hn : H it = none) (hL : it ≠ X.env.locals)
  (h1 : it ∈ X.ex \/ X.s₀.heap.objs.size <= it) (h2 : ∀ x c, X.env.cells.lookup x = some c -> c ≠ it) (h3 : ∀ p ∈ X.pn ++ pins, p.1 ≠ it) : Inv X pins σ H { s with heap := h', toks := t' } := by
 have nit : ∀ b u, H b = some u -> b ≠ it := fun b u e z => by rw [z, hn] at e; cases e
 refine I.step (g' := s.gens) (d' := s.drawn) (ch := [it]) (fun b hb => ?_) (fun b o _ _ hc e _ => k b o (fun z => hc (by simp [z])) e) (fun b o _ _ hc e _ => ⟨o.slots, k b o (fun z => hc (by simp [z])) e⟩) (fun _ _ _ _ n => n)
  (fun b o hc e => ⟨o, k b o (fun z => hc (by simp [z])) e⟩) (fun _ _ e => e) (fun _ _ _ e => e) (fun b ps e => ⟨#[], by rw [e]; simp⟩) (fun m hm => ?_) (fun b u e => ?_) I.bare
 ·have e : b = it := by simpa using hb
  subst e
  exact ⟨h1, hL, h2, h3⟩
 ·obtain ⟨o, es, ep, ho, r⟩ := hm
  exact ⟨o, es, ep, k _ o (zq14x hL) ho, r⟩
 ·refine (I.hok b u e).stay (fun c v hc q => k c v ?_ q) (fun _ q => q) fun _ _ q => q
  rcases hc with z | z
  ·rw [z]; exact nit b u e
  ·exact nit c _ z
theorem Inv.tok (I : Inv X pins σ H s) (t : Nat) : Inv X pins σ H { s with toks := t } := I.un (h' := s.heap) (t' := t) Un.refl I.hok
theorem Inv.kept {t' : Nat} (I : Inv X pins σ H s) (k : ∀ b u, s.heap.get? b = some u -> h'.get? b = some u) : Inv X pins σ H { s with heap := h', toks := t' } := I.un (Un.kept k) (I.hok.kept k)
theorem Inv.laid {a : Addr} {o : HO} {t' : Nat} (I : Inv X pins σ H s) (k : ∀ b u, s.heap.get? b = some u -> h'.get? b = some u) (hp : s.heap.objs.size <= a) (new : ObjOk X.prog X.w (upd H a o) h' a o) :
  Inv X pins σ (upd H a o) { s with heap := h', toks := t' } := I.un (Un.laid k hp (I.hok.fresh hp)) (I.hok.laid k hp new)
theorem Inv.write {x e : Addr} {o : HO} {t' : Nat} (I : Inv X pins σ H s) (mu : Mut (H x)) (he : e = x \/ H e = some (.own x)) (k : ∀ b u, b ≠ e -> s.heap.get? b = some u -> h'.get? b = some u) (heo : ∃ u, h'.get? e = some u)
  (new : ObjOk X.prog X.w (upd H x o) h' x o) : Inv X pins σ (upd H x o) { s with heap := h', toks := t' } := I.un (Un.write mu he k heo) (I.hok.write mu he k heo new)
theorem Inv.pins_of {pins' : List (Addr × Obj)} (I : Inv X pins σ H s) (h : ∀ p ∈ pins', s.heap.get? p.1 = some p.2 /\ H p.1 = none /\ p.1 ≠ X.env.locals /\ p.1 ∉ X.fs /\ ∀ v, p.2.data ≠ .cell v) : Inv X pins' σ H s :=
 ⟨I.ok, I.os, I.bare, I.base, I.loc, I.cell, I.free, I.freeC, fun p hp => (zq45x.mp hp).elim (fun z => I.pin p (zq85x _ z)) (h p), I.hok, I.len⟩
theorem nodup_ix {N : List Str} (hN : N.Nodup) {i j : Nat} {x : Str} (a : N[i]? = some x) (b : N[j]? = some x) : i = j := by
 obtain ⟨h1, e1⟩ := zq7x.mp a
 obtain ⟨h2, e2⟩ := zq7x.mp b
 exact (zq150x hN).mp (e1.trans e2.symm)
theorem store_ok2 {M : Model} {A : Around} {E : Value -> Shared -> Prop} {i : Nat} {x : Str} {v : V} {u : Value} {Q : Unit -> Shared -> Prop} (I : Inv X pins σ H s) (hN : X.N.Nodup) (hi : X.N[i]? = some x) (hx : Loc X.env.scope x) (r : RelV v u)
  (h : ∀ s', Inv X pins (σ.set i (some v)) H s' -> (∃ a, Heap.SameBut a s.heap s'.heap /\ (a = X.env.locals \/ X.env.cells.lookup x = some a)) -> Q () s') (hf : X.fn x = true \/ X.env.scope.names.lookup x = some .local := by first | exact .inl rfl | exact .inr rfl | assumption) : wpAny M A (storeName X.env x u) Q E s := by
 obtain ⟨m, hn, hl⟩ := id I.loc
 have hcls : (X.env.scope.kind == .class || (X.env.scope.kind == .module && X.env.locals != X.env.globals)) = false := by rw [I.ok.kind]; rfl
 have hiσ : i < σ.length := by rw [I.len]; exact (zq7x.mp hi).1
 have cne := I.cne
 have tracked : ∀ {a : Addr} {h' : Heap}, (∃ o, s.heap.get? a = some o /\ H a = none) -> Heap.SameBut a s.heap h' -> HOk X.prog X.w H h' := fun {a h'} ha hs b ob e => by
  obtain ⟨_, _, hfree⟩ := ha
  refine (I.hok b ob e).stay (fun c w' hc q => (hs.2 c ?_).trans q) (fun _ q => q) fun _ _ q => q
  rintro rfl
  rcases hc with rfl | hc
  ·rw [hfree] at e; cases e
  ·rw [hfree] at hc; cases hc
 rcases hx with hk | hk
 ·refine wpAny_storeName_local hk hn (fun h' hn' hs => ?_) hcls
  obtain ⟨oL, _, _, hoL, _⟩ := id hn
  refine h _ ⟨I.ok, I.os, I.bare, ⟨fun b o e n hb hx => ?_, fun b o e n hb hx => ?_, I.base.free, fun b o e hx => ?_, I.base.tups, I.base.frzs, I.base.tbls⟩, ⟨_, hn', fun j y v' e1 e2 e3 => ?_⟩, fun y c e => ?_, I.free, I.freeC, fun p hp => ?_, tracked ⟨oL, hoL, I.free⟩ hs, by simpa using I.len⟩ ⟨_, hs, .inl rfl⟩
  ·exact (hs.2 b (zq32x (zq31x (zq12x e) I.ok.above))).trans (I.base.keep b o e n hb hx)
  ·obtain ⟨sl, e1⟩ := I.base.slot b o e n hb hx
   exact ⟨sl, (hs.2 b (zq32x (zq31x (zq12x e) I.ok.above))).trans e1⟩
  ·obtain ⟨o', e1⟩ := I.base.there b o e hx
   exact ⟨o', (hs.2 b (zq32x (zq31x (zq12x e) I.ok.above))).trans e1⟩
  ·by_cases hj : j = i
   ·subst hj
    rw [hi] at e1; cases e1
    rw [zq20x hiσ] at e2
    cases e2
    exact ⟨u, r, .inl ⟨hk, by simp⟩⟩
   ·rw [zq9x (zq14x hj)] at e2
    obtain ⟨u', r', q⟩ := hl j y v' e1 e2 e3
    refine ⟨u', r', ?_⟩
    rcases q with ⟨k, e⟩ | ⟨k, c, e, z⟩
    ·refine .inl ⟨k, ?_⟩
     have : y ≠ x := fun e => hj (nodup_ix hN e1 (e ▸ hi))
     simp [this, e]
    ·exact .inr ⟨k, c, e, z.sameBut hs (cne y c e)⟩
  ·obtain ⟨w', z⟩ := I.cell y c e
   exact ⟨w', z.sameBut hs (cne y c e)⟩
  ·obtain ⟨e, n, ne, nf, d⟩ := I.pin p hp
   exact ⟨(hs.2 p.1 ne).trans e, n, ne, nf, d⟩
 ·have hfn : X.fn x = true := by
   rcases hf with z | z
   ·exact z
   ·rw [z] at hk; cases hk
  obtain ⟨c, hc⟩ := I.ok.has x (.inl hk)
  obtain ⟨w', z⟩ := I.cell x c hc
  refine wpAny_storeName_cell I.ok.kind hk hc z (fun h' hc' hs => ?_)
  obtain ⟨oc, hoc, hocd⟩ := id z
  refine h { s with heap := h' } ⟨I.ok, I.os, I.bare, ⟨fun b o e n hb hx => ?_, fun b o e n hb hx => ?_, I.base.free, fun b o e hx => ?_, I.base.tups, I.base.frzs, I.base.tbls⟩, ⟨m, hn.sameBut hs (zq14x (cne x c hc)), fun j y v' e1 e2 e3 => ?_⟩, fun y c' e => ?_, I.free, I.freeC, fun p hp => ?_, tracked ⟨oc, hoc, I.freeC x c hc⟩ hs, by simpa using I.len⟩ ⟨c, hs, .inr hc⟩
  ·exact (hs.2 b (zq32x (zq31x (zq12x e) (I.ok.cab x c hfn hc)))).trans (I.base.keep b o e n hb hx)
  ·obtain ⟨sl, e1⟩ := I.base.slot b o e n hb hx
   exact ⟨sl, (hs.2 b (zq32x (zq31x (zq12x e) (I.ok.cab x c hfn hc)))).trans e1⟩
  ·obtain ⟨o', e1⟩ := I.base.there b o e hx
   exact ⟨o', (hs.2 b (zq32x (zq31x (zq12x e) (I.ok.cab x c hfn hc)))).trans e1⟩
  ·by_cases hj : j = i
   ·subst hj
    rw [hi] at e1; cases e1
    rw [zq20x hiσ] at e2
    cases e2
    exact ⟨u, r, .inr ⟨.inl hk, c, hc, hc'⟩⟩
   ·rw [zq9x (zq14x hj)] at e2
    obtain ⟨u', r', q⟩ := hl j y v' e1 e2 e3
    refine ⟨u', r', ?_⟩
    rcases q with q | ⟨k, c', e, z'⟩
    ·exact .inl q
    ·refine .inr ⟨k, c', e, z'.sameBut hs ?_⟩
     rintro rfl
     exact hj (nodup_ix hN e1 (I.ok.inj _ _ _ e hc ▸ hi))
  ·by_cases hcc : c' = c
   ·subst hcc; exact ⟨_, hc'⟩
   ·obtain ⟨w2, z2⟩ := I.cell y c' e
    exact ⟨w2, z2.sameBut hs hcc⟩
  ·obtain ⟨e, n, ne, nf, d⟩ := I.pin p hp
   refine ⟨(hs.2 p.1 ?_).trans e, n, ne, nf, d⟩
   intro q
   rw [q, hoc] at e
   have q' : oc = p.2 := zq36x e
   exact d w' (by rw [<- q']; exact hocd)
theorem store_ok {M : Model} {A : Around} {E : Value -> Shared -> Prop} {i : Nat} {x : Str} {v : V} {u : Value} {Q : Unit -> Shared -> Prop} (I : Inv X pins σ H s) (hN : X.N.Nodup) (hi : X.N[i]? = some x) (hx : Loc X.env.scope x) (r : RelV v u)
  (h : ∀ s', Inv X pins (σ.set i (some v)) H s' -> Q () s') (hf : X.fn x = true \/ X.env.scope.names.lookup x = some .local := by first | exact .inl rfl | exact .inr rfl | assumption) : wpAny M A (storeName X.env x u) Q E s :=
 store_ok2 I hN hi hx r (fun s' I' _ => h s' I') hf
theorem Inv.call' {s' : Shared} {ch : List Addr} (I : Inv X pins σ H s) (ho : s'.os = s.os) (u : Un (frs X.stack) ch H H' s.heap s'.heap) (hok : HOk X.prog X.w H' s'.heap) (hg : AllBare s'.gens)
  (hch : ∀ b ∈ ch, (b ∈ X.ex \/ X.s₀.heap.objs.size <= b) /\ b ≠ X.env.locals /\ (∀ x c, X.env.cells.lookup x = some c -> c ≠ b) /\ ∀ p ∈ X.pn ++ pins, p.1 ≠ b) : Inv X pins σ H' s' := by
 obtain ⟨h', g', d', t', o'⟩ := s'
 have e : o' = s.os := ho
 subst e
 exact I.call (g' := g') (t' := t') (d' := d') u hok hg hch
end
abbrev XK := Value -> Option Addr -> Hp -> Prop
abbrev St := List (Option V)
abbrev VK := V -> Hp -> Prop
abbrev TE := St -> Hp -> VK -> Prop
abbrev TT := St -> Hp -> (Bool -> Hp -> Prop) -> Prop
abbrev TA := St -> Hp -> (List V -> Hp -> Prop) -> Prop
structure Ends where
 nx : St -> Hp -> Prop
 rt : VK
 bk : St -> Hp -> Prop := fun _ _ => False
 ct : St -> Hp -> Prop := fun _ _ => False
abbrev TS := Ends -> St -> Hp -> Prop
def EP (X : Cx) (pins : List (Addr × Obj)) (σ : St) (Q : VK) (u : Value) (s' : Shared) : Prop := ∃ v H', Inv X pins σ H' s' /\ RelV v u /\ Q v H'
def TP (X : Cx) (pins : List (Addr × Obj)) (σ : St) (Q : Bool -> Hp -> Prop) (b : Bool) (s' : Shared) : Prop := ∃ H', Inv X pins σ H' s' /\ Q b H'
def AP (X : Cx) (pins : List (Addr × Obj)) (σ : St) (Q : List V -> Hp -> Prop) (us : List Value) (s' : Shared) : Prop := ∃ vs H', Inv X pins σ H' s' /\ Vals vs us /\ Q vs H'
def SP (X : Cx) (pins : List (Addr × Obj)) (D : Ends) (f : Flow) (s' : Shared) : Prop :=
 match f with
 | .next => ∃ σ' H', Inv X pins σ' H' s' /\ D.nx σ' H'
 | .brk => ∃ σ' H', Inv X pins σ' H' s' /\ D.bk σ' H'
 | .cont => ∃ σ' H', Inv X pins σ' H' s' /\ D.ct σ' H'
 | .ret u => ∃ v σ' H', Inv X pins σ' H' s' /\ RelV v u /\ D.rt v H'
def PE (X : Cx) (e : Expr) (t : TE) : Prop :=
 ∀ (pins : List (Addr × Obj)) (s : Shared) (σ : St) (H : Hp) (Q : VK), Inv X pins σ H s -> t σ H Q -> wpAny (model X.prog X.w) X.A (eval e X.env) (EP X pins σ Q) X.xe s
def PT (X : Cx) (e : Expr) (t : TT) : Prop :=
 ∀ (pins : List (Addr × Obj)) (s : Shared) (σ : St) (H : Hp) (Q : Bool -> Hp -> Prop), Inv X pins σ H s -> t σ H Q -> wpAny (model X.prog X.w) X.A (isTrue e X.env (eval e X.env)) (TP X pins σ Q) X.xe s
def PW (X : Cx) (e : Expr) (t : TT) : Prop :=
 ∀ (whole : Sem Value) (pins : List (Addr × Obj)) (s : Shared) (σ : St) (H : Hp) (Q : Bool -> Hp -> Prop), Inv X pins σ H s -> t σ H Q -> wpAny (model X.prog X.w) X.A (isTrue e X.env whole) (TP X pins σ Q) X.xe s
theorem PW.pt {X : Cx} {e : Expr} {t : TT} (h : PW X e t) : PT X e t := h _
def PA (X : Cx) (es : List Expr) (t : TA) : Prop :=
 ∀ (pos : Pos) (pins : List (Addr × Obj)) (s : Shared) (σ : St) (H : Hp) (Q : List V -> Hp -> Prop), Inv X pins σ H s -> t σ H Q -> wpAny (model X.prog X.w) X.A (spliced (backTo pos (starEach es X.env))) (AP X pins σ Q) X.xe s
def PS (X : Cx) (st : Stmt) (t : TS) : Prop :=
 ∀ (pins : List (Addr × Obj)) (s : Shared) (σ : St) (H : Hp) (D : Ends), Inv X pins σ H s -> t D σ H -> wpAny (model X.prog X.w) X.A (exec st X.env) (SP X pins D) X.xe s
def PSs (X : Cx) (st : List Stmt) (t : TS) : Prop :=
 ∀ (pins : List (Addr × Obj)) (s : Shared) (σ : St) (H : Hp) (D : Ends), Inv X pins σ H s -> t D σ H -> wpAny (model X.prog X.w) X.A (execs st X.env) (SP X pins D) X.xe s
theorem thn {α : Type} {t : Sem α} {Q Q' : α -> Shared -> Prop} {M : Model} {A : Around} {E : Value -> Shared -> Prop} {s : Shared} (h : wpAny M A t Q E s) (hQ : ∀ a s, Q a s -> Q' a s) : wpAny M A t Q' E s := wpAny_mono h hQ fun _ _ x => x
section
variable {X : Cx}
theorem bin {a b : Expr} {ta tb : TE} (ha : PE X a ta) (hb : PE X b tb) {pins : List (Addr × Obj)} {s : Shared} {σ : St} {H : Hp} {R : V -> V -> Hp -> Prop} (I : Inv X pins σ H s) (h : ta σ H fun x H1 => tb σ H1 fun y H2 => R x y H2)
  {α : Type} {Q : α -> Shared -> Prop} {f : Value -> Value -> Sem α}
  (hf : ∀ v u s2 x y H2, Inv X pins σ H2 s2 -> RelV x v -> RelV y u -> R x y H2 -> wpAny (model X.prog X.w) X.A (f v u) Q X.xe s2) :
  wpAny (model X.prog X.w) X.A (eval a X.env) (fun v s₁ => wpAny (model X.prog X.w) X.A (eval b X.env) (fun u s₂ => wpAny (model X.prog X.w) X.A (f v u) Q X.xe s₂) X.xe s₁) X.xe s := by
 refine thn (ha pins s σ H _ I h) fun v s1 ⟨x, H1, I1, r1, q1⟩ => ?_
 refine thn (hb pins s1 σ H1 _ I1 q1) fun u s2 ⟨y, H2, I2, r2, q2⟩ => ?_
 exact hf v u s2 x y H2 I2 r1 r2 q2
def tVar (i : Nat) : TE := fun σ H Q => ∃ v, σ[i]? = some (some v) /\ Q v H
def tC (v : V) : TE := fun _ H Q => Q v H
theorem pe_var {i : Nat} {x : Str} {pos : Pos} (hN : X.N[i]? = some x) (hv : Vis X.env.scope x) (hd : (x == ("__debug__" : Str)) = false := by decide) (hcd : (x == ("__classdict__" : Str)) = false := by decide) : PE X (.Name x pos) (tVar i) := by
 intro pins s σ H Q I h
 obtain ⟨v, e, h⟩ := h
 obtain ⟨m, hn, hl⟩ := I.loc
 obtain ⟨u, r, l⟩ := hl i x v hN e hv
 have fin : EP X pins σ Q u s := ⟨v, H, I, r, h⟩
 rcases l with ⟨hk, hm⟩ | ⟨hk, c, hc, hcell⟩
 ·exact wpAny_Name (wpAny_loadName_local I.ok.kind hk hn hm fin) hd
 ·rcases hk with hk | hk
  ·exact wpAny_Name (wpAny_loadName_cell I.ok.kind hk hc hcell fin) hd
  ·exact wpAny_Name (wpAny_loadName_free I.ok.kind hk hc hcell fin hcd) hd
theorem pe_int {i j pos} : PE X (.Constant (.int i) j pos) (tC (.int i)) := fun _ _ _ H _ I h => wpAny_Constant_int ⟨.int i, H, I.tok _, ⟨_, rfl⟩, h⟩
theorem pe_bl {b j pos} : PE X (.Constant (.bool b) j pos) (tC (.bl b)) := fun _ _ _ H _ I h => Constant_bool ⟨.bl b, H, I, rfl, h⟩
theorem pe_non {j pos} : PE X (.Constant .none j pos) (tC .non) := fun _ _ _ H _ I h => Constant_none ⟨.non, H, I, rfl, h⟩
def Gl (X : Cx) (x : Str) : Prop := X.env.kindOf x = some .globalImplicit
theorem ld_glob {E : Value -> Shared -> Prop} {pins : List (Addr × Obj)} {s : Shared} {σ : St} {H : Hp} {x : Str} {u : Value} {pos : Pos} {Q : Value -> Shared -> Prop} (I : Inv X pins σ H s) (hg : Gl X x) (hm : X.mg x = some u) (h : Q u s)
  (hd : (x == ("__debug__" : Str)) = false := by decide) : wpAny (model X.prog X.w) X.A (eval (.Name x pos) X.env) Q E s :=
 zq206x I.ok.kind hg (Calls.loadGlobal_global (by rw [I.ok.glob]; exact I.mod.glob.keeps I.bk) hm h) hd
theorem ld_blt {E : Value -> Shared -> Prop} {pins : List (Addr × Obj)} {s : Shared} {σ : St} {H : Hp} {x : Str} {u : Value} {pos : Pos} {Q : Value -> Shared -> Prop} (I : Inv X pins σ H s) (hg : Gl X x) (hm : X.mg x = none) (hv : bootBuiltins x = some u) (h : Q u s)
  (hn : x ≠ "__name__" := by decide) (hd : (x == ("__debug__" : Str)) = false := by decide) : wpAny (model X.prog X.w) X.A (eval (.Name x pos) X.env) Q E s := by
 obtain ⟨mb, h1, h2⟩ := I.mod.blt
 exact zq206x I.ok.kind hg (Calls.loadGlobal_builtin (by rw [I.ok.glob]; exact I.mod.glob.keeps I.bk) hm (by rw [I.ok.blt]; exact h1.keeps I.bk) ((h2 x hn).trans hv) h) hd
theorem pe_bltn {x : Str} {v : V} {u : Value} {pos : Pos} (hg : Gl X x) (hm : X.mg x = none) (hv : bootBuiltins x = some u) (r : RelV v u) (hn : x ≠ "__name__" := by decide) (hd : (x == ("__debug__" : Str)) = false := by decide) : PE X (.Name x pos) (tC v) :=
 fun _ _ _ H _ I h => ld_blt I hg hm hv ⟨v, H, I, r, h⟩ hn hd
variable {a b : Expr} {ta tb : TE} {pos : Pos}
def PC (X : Cx) (op : CmpOp) (a b : Expr) (t : TE) : Prop :=
 ∀ (pins : List (Addr × Obj)) (s : Shared) (σ : St) (H : Hp) (Q : VK), Inv X pins σ H s -> t σ H Q ->
  wpAny (model X.prog X.w) X.A (eval a X.env) (fun v s₁ => wpAny (model X.prog X.w) X.A (eval b X.env) (fun u s₂ => wpAny (model X.prog X.w) X.A (compareOp op v u) (EP X pins σ Q) X.xe s₂) X.xe s₁) X.xe s
variable {tA tB' : TT} {rest : List Expr}
def tAnd (t u : TT) : TT := fun σ H Q => t σ H fun c H1 => if c = true then u σ H1 Q else Q false H1
def tOr (t u : TT) : TT := fun σ H Q => t σ H fun c H1 => if c = true then Q true H1 else u σ H1 Q
def tNot (t : TT) : TT := fun σ H Q => t σ H fun c H1 => Q (!c) H1
theorem pw_and1 (ha : PT X a tA) : PW X (.BoolOp .And [a] pos) tA := by
 intro wh pins s σ H Q I h
 refine isTrue_and (thn (ha pins s σ H Q I h) fun c s1 e => ?_)
 cases c with
 | true => exact isTrue_and_nil e
 | false => exact e
theorem pw_or1 (ha : PT X a tA) : PW X (.BoolOp .Or [a] pos) tA := by
 intro wh pins s σ H Q I h
 refine isTrue_or (thn (ha pins s σ H Q I h) fun c s1 e => ?_)
 cases c with
 | false => exact isTrue_or_nil e
 | true => exact e
theorem pw_and (ha : PT X a tA) (hb : PW X (.BoolOp .And (b :: rest) pos) tB') : PW X (.BoolOp .And (a :: b :: rest) pos) (tAnd tA tB') := by
 intro wh pins s σ H Q I h
 refine isTrue_and (thn (ha pins s σ H _ I h) fun c s1 ⟨H1, I1, q1⟩ => ?_)
 cases c with
 | true => exact hb wh pins s1 σ H1 Q I1 q1
 | false => exact ⟨H1, I1, q1⟩
theorem pw_or (ha : PT X a tA) (hb : PW X (.BoolOp .Or (b :: rest) pos) tB') : PW X (.BoolOp .Or (a :: b :: rest) pos) (tOr tA tB') := by
 intro wh pins s σ H Q I h
 refine isTrue_or (thn (ha pins s σ H _ I h) fun c s1 ⟨H1, I1, q1⟩ => ?_)
 cases c with
 | true => exact ⟨H1, I1, q1⟩
 | false => exact hb wh pins s1 σ H1 Q I1 q1
theorem pt_not (ha : PT X a tA) : PT X (.UnaryOp .Not a pos) (tNot tA) := by
 intro pins s σ H Q I h
 exact isTrue_not (ha pins s σ H (fun c H1 => Q (!c) H1) I h)
def tAndV (ta tb : TE) : TE := fun σ H Q => ta σ H fun x H1 => ∃ c, x = .bl c /\ if c = true then tb σ H1 Q else Q (.bl false) H1
theorem pe_one {op} {t : TE} (h : PE X a t) : PE X (.BoolOp op [a] pos) t := fun pins s σ H Q I hw => BoolOp_one (h pins s σ H Q I hw)
theorem pe_and (ha : PE X a ta) (hb : PE X (.BoolOp .And (b :: rest) pos) tb) : PE X (.BoolOp .And (a :: b :: rest) pos) (tAndV ta tb) := by
 intro pins s σ H Q I h
 refine BoolOp_and (thn (ha pins s σ H _ I h) fun v s1 ⟨x, H1, I1, r1, q1⟩ => ?_)
 obtain ⟨c, rfl, q1⟩ := q1
 cases r1
 refine wpAny_truthy_bool ?_
 cases c with
 | true => exact hb pins s1 σ H1 Q I1 q1
 | false => exact ⟨.bl false, H1, I1, rfl, q1⟩
def tIf (t : TT) (ta tb : TE) : TE := fun σ H Q => t σ H fun c H1 => if c = true then ta σ H1 Q else tb σ H1 Q
theorem pe_ifExp {c : Expr} (hc : PT X c tA) (ha : PE X a ta) (hb : PE X b tb) : PE X (.IfExp c a b pos) (tIf tA ta tb) := by
 intro pins s σ H Q I h
 refine wpAny_IfExp (thn (hc pins s σ H _ I h) fun d s1 ⟨H1, I1, q1⟩ => ?_)
 cases d with
 | true => exact ha pins s1 σ H1 Q I1 q1
 | false => exact hb pins s1 σ H1 Q I1 q1
end
def SqL (K : PySem.W.Frag) (H : Hp) (a : Addr) (xs : List V) : Prop :=
 Rd H a (.lst xs) \/
  ∃ (o : Obj) (its : Array Value) (n : Nat), K.lookup a = some o /\ o.cls = .type "list" /\ o.dict = none /\ o.data = .seq its n /\ its.size <= sizeLine /\ Vals xs its.toList
def SqT (K : PySem.W.Frag) (H : Hp) (a : Addr) (xs : List V) : Prop :=
 Rd H a (.tup xs) \/
  ∃ (o : Obj) (its : Array Value) (n : Nat), K.lookup a = some o /\ o.cls = .type "tuple" /\ o.data = .seq its n /\ its.size <= sizeLine /\ Vals xs its.toList
def absV : Value -> Option V
 | .none => some .non
 | .bool b => some (.bl b)
 | .int i _ => some (.int i)
 | .str x _ => some (.str x)
 | .bytes b _ => some (.byt b)
 | .float b _ => some (.flt b)
 | .ref a => some (.ref a)
 | .type n => some (.ty n)
 | _ => none
theorem RelV.abs {x : V} {u : Value} (r : RelV x u) : absV u = some x := by
 cases x with
 | non => cases r; rfl
 | bl _ => cases r; rfl
 | int _ => obtain ⟨t, rfl⟩ := r; rfl
 | str _ => obtain ⟨t, rfl⟩ := r; rfl
 | byt _ => obtain ⟨t, rfl⟩ := r; rfl
 | flt _ => obtain ⟨t, rfl⟩ := r; rfl
 | ref _ => cases r; rfl
 | ty _ => cases r; rfl
theorem RelV.inj {x y : V} {u : Value} (r : RelV x u) (q : RelV y u) : x = y := zq36x (r.abs.symm.trans q.abs)
theorem Vals.inj {xs ys : List V} {us : List Value} (h : Vals xs us) (k : Vals ys us) : xs = ys := by
 induction h generalizing ys with
 | nil => cases k; rfl
 | cons r t ih => cases k with | cons r' t' => rw [r.inj r', ih t']
section
variable {X : Cx} {pins : List (Addr × Obj)} {σ : St} {H : Hp} {s : Shared} {a : Addr} {xs ys : List V}
theorem SqL.of {K : PySem.W.Frag} (h : H a = some (.lst xs)) : SqL K H a xs := .inl (.inl h)
theorem SqT.of {K : PySem.W.Frag} (h : H a = some (.tup xs)) : SqT K H a xs := .inl (.inl h)
theorem Inv.list (I : Inv X pins σ H s) (h : SqL X.K H a xs) : ∃ its : List Value, Vals xs its /\ PlainL s.heap a its.toArray /\ xs.length <= sizeLine := by
 rcases h with h | ⟨o, its, n, hk, hc, hd, hs, hz, r⟩
 ·obtain ⟨z, its, n, r, e⟩ := h.ok I.hok
  exact ⟨its, r, ⟨_, n, e, rfl, rfl, rfl⟩, z⟩
 ·refine ⟨its.toList, r, ⟨o, n, I.kIn a o hk, hc, hd, by simpa using hs⟩, ?_⟩
  have e := r.length
  simp only [zq79x] at e
  omega
theorem Inv.tuple (I : Inv X pins σ H s) (h : SqT X.K H a xs) : ∃ its : List Value, Vals xs its /\ IsTup s.heap a its.toArray /\ xs.length <= sizeLine := by
 rcases h with h | ⟨o, its, n, hk, hc, hs, hz, r⟩
 ·obtain ⟨z, its, r, p⟩ := h.ok I.hok
  exact ⟨its, r, p, z⟩
 ·refine ⟨its.toList, r, ⟨o, I.kIn a o hk, hc, n, by simpa using hs⟩, ?_⟩
  have e := r.length
  simp only [zq79x] at e
  omega
theorem Inv.list_inj (I : Inv X pins σ H s) (h : SqL X.K H a xs) (h' : SqL X.K H a ys) : xs = ys := by
 obtain ⟨its, r, ⟨o, n, e, _, _, d⟩, _⟩ := I.list h
 obtain ⟨its', r', ⟨o', n', e', _, _, d'⟩, _⟩ := I.list h'
 rw [e] at e'; cases e'
 rw [d] at d'
 injection d' with d1 _
 have : its = its' := by simpa using congrArg Array.toList d1
 subst this
 exact r.inj r'
end
abbrev Cx.wish (X : Cx) (E : Value -> Shared -> Prop) : Cx := { X with xe := E }
abbrev Cx.nox (X : Cx) : Cx := X.wish fun _ _ => False
theorem Cx.Ok.wish {X : Cx} (ok : X.Ok) (E : Value -> Shared -> Prop) : (X.wish E).Ok :=
 ⟨ok.mod, ok.kind, ok.glob, ok.blt, ok.above, ok.inj, ok.has, ok.cab, ok.hd, ok.frames, ok.stk, ok.exf, ok.bs, ok.bsz, ok.noex, ok.exfs, ok.funs, ok.frf⟩
theorem Cx.Ok.unwish {X : Cx} {E : Value -> Shared -> Prop} (ok : (X.wish E).Ok) : X.Ok :=
 ⟨ok.mod, ok.kind, ok.glob, ok.blt, ok.above, ok.inj, ok.has, ok.cab, ok.hd, ok.frames, ok.stk, ok.exf, ok.bs, ok.bsz, ok.noex, ok.exfs, ok.funs, ok.frf⟩
section
variable {X : Cx} {pins : List (Addr × Obj)} {σ : St} {H : Hp} {s : Shared} {E : Value -> Shared -> Prop}
theorem Inv.wish (I : Inv X pins σ H s) (E : Value -> Shared -> Prop) : Inv (X.wish E) pins σ H s := ⟨I.ok.wish E, I.os, I.bare, I.base, I.loc, I.cell, I.free, I.freeC, I.pin, I.hok, I.len⟩
theorem Inv.unwish (I : Inv (X.wish E) pins σ H s) : Inv X pins σ H s := ⟨I.ok.unwish, I.os, I.bare, I.base, I.loc, I.cell, I.free, I.freeC, I.pin, I.hok, I.len⟩
theorem SP.unwish {D : Ends} {f : Flow} {s' : Shared} (h : SP (X.wish E) pins D f s') : SP X pins D f s' := by
 cases f with
 | next => obtain ⟨σ', H', I, q⟩ := h; exact ⟨σ', H', I.unwish, q⟩
 | brk => obtain ⟨σ', H', I, q⟩ := h; exact ⟨σ', H', I.unwish, q⟩
 | cont => obtain ⟨σ', H', I, q⟩ := h; exact ⟨σ', H', I.unwish, q⟩
 | ret u => obtain ⟨v, σ', H', I, r, q⟩ := h; exact ⟨v, σ', H', I.unwish, r, q⟩
theorem PSs.nox {st : List Stmt} {t : TS} (h : PSs X.nox st t) : PSs X st t := fun pins s σ H D I hw =>
 wpAny_mono (h pins s σ H D (I.wish _) hw) (fun _ _ q => q.unwish) fun _ _ z => False.elim z
end
section
variable {X : Cx} {st : Stmt} {rest : List Stmt} {t u : TS} {e : Expr} {te : TE} {pos : Pos}
def tNext : TS := fun D σ H => D.nx σ H
def tSeq (t u : TS) : TS := fun D σ H => t { D with nx := u D } σ H
theorem pss_nil : PSs X [] tNext := fun _ _ σ H _ I h => wpAny_execs_nil ⟨σ, H, I, h⟩
theorem pss_cons (h1 : PS X st t) (h2 : PSs X rest u) : PSs X (st :: rest) (tSeq t u) := by
  intro pins s σ H D I h
  refine wpAny_execs_cons (thn (h1 pins s σ H { D with nx := u D } I h) fun f s1 q => ?_)
  cases f with
  | next =>
    obtain ⟨σ', H', I', q⟩ := q
    exact h2 pins s1 σ' H' D I' q
  | ret v => exact q
  | brk => exact q
  | cont => exact q
theorem pss_one (h1 : PS X st t) : PSs X [st] t := by
 intro pins s σ H D I h
 refine wpAny_execs_cons (thn (h1 pins s σ H D I h) fun f s1 q => ?_)
 cases f with
 | next => exact wpAny_execs_nil q
 | ret v => exact q
 | brk => exact q
 | cont => exact q
def tBreak : TS := fun D σ H => D.bk σ H
def tCont : TS := fun D σ H => D.ct σ H
theorem Inv.quiet {pins : List (Addr × Obj)} {σ : St} {H : Hp} {s : Shared} (I : Inv X pins σ H s) : interactive X.env = false := by simp [interactive, I.ok.kind]
def tDrop (te : TE) : TS := fun D σ H => te σ H fun _ H1 => D.nx σ H1
theorem ps_expr (he : PE X e te) (hs : swapsWith e none pos.line X.env = pure false := by rfl) : PS X (.Expr e pos) (tDrop te) := by
 intro pins s σ H D I h
 exact wpAny_Expr_any (thn (he pins s σ H _ I h) fun v s1 ⟨x, H1, I1, r1, q1⟩ => ⟨σ, H1, I1, q1⟩) I.quiet hs
def tRet (te : TE) : TS := fun D σ H => te σ H D.rt
theorem ps_ret (he : PE X e te) : PS X (.Return (some e) pos) (tRet te) := by
 intro pins s σ H D I h
 exact wpAny_Return_some (thn (he pins s σ H _ I h) fun v s1 ⟨x, H1, I1, r1, q1⟩ => ⟨x, σ, H1, I1, r1, q1⟩)
def tIfS (c : TT) (t u : TS) : TS := fun D σ H => c σ H fun b H1 => if b = true then t D σ H1 else u D σ H1
theorem ps_if {c : Expr} {a b : List Stmt} {tc : TT} (hc : PT X c tc) (ha : PSs X a t) (hb : PSs X b u) : PS X (.If c a b pos) (tIfS tc t u) := by
 intro pins s σ H D I h
 refine wpAny_If (thn (hc pins s σ H _ I h) fun d s1 ⟨H1, I1, q1⟩ => ?_)
 cases d with
 | true => exact ha pins s1 σ H1 D I1 q1
 | false => exact hb pins s1 σ H1 D I1 q1
end
abbrev TG := V -> St -> Hp -> (St -> Hp -> Prop) -> Prop
abbrev TGs := List V -> St -> Hp -> (St -> Hp -> Prop) -> Prop
def PG (X : Cx) (target : Expr) (t : TG) : Prop :=
 ∀ (pins : List (Addr × Obj)) (s : Shared) (σ : St) (H : Hp) (v : V) (u : Value) (Q : St -> Hp -> Prop), Inv X pins σ H s -> RelV v u -> t v σ H Q ->
  wpAny (model X.prog X.w) X.A (assign target X.env u) (fun _ s' => ∃ σ' H', Inv X pins σ' H' s' /\ Q σ' H') X.xe s
def PGs (X : Cx) (ts : List Expr) (t : TGs) : Prop :=
 ∀ (pins : List (Addr × Obj)) (s : Shared) (σ : St) (H : Hp) (vs : List V) (us : List Value) (Q : St -> Hp -> Prop), Inv X pins σ H s -> Vals vs us -> t vs σ H Q ->
  wpAny (model X.prog X.w) X.A (assignInOrder ((assignEach ts X.env).map (·.2)) us) (fun _ s' => ∃ σ' H', Inv X pins σ' H' s' /\ Q σ' H') X.xe s
abbrev TSet := V -> V -> V -> Hp -> (Hp -> Prop) -> Prop
def PSet (X : Cx) (t : TSet) : Prop :=
 ∀ (pins : List (Addr × Obj)) (s : Shared) (σ : St) (H : Hp) (o i v : V) (ov iv u : Value) (Q : Hp -> Prop), Inv X pins σ H s -> RelV o ov -> RelV i iv -> RelV v u -> t o i v H Q ->
  wpAny (model X.prog X.w) X.A (setItem ov iv u) (fun _ s' => ∃ H', Inv X pins σ H' s' /\ Q H') X.xe s
section
variable {X : Cx} {pos : Pos}
def gName (i : Nat) : TG := fun v σ H Q => Q (σ.set i (some v)) H
theorem pg_name {i : Nat} {x : Str} (hN : X.N.Nodup) (hi : X.N[i]? = some x) (hx : Loc X.env.scope x) (hf : X.fn x = true \/ X.env.scope.names.lookup x = some .local := by first | exact .inl rfl | exact .inr rfl | assumption) : PG X (.Name x pos) (gName i) := by
 intro pins s σ H v u Q I r h
 exact wpAny_assign_Name (store_ok I hN hi hx r (fun s' I' => ⟨_, H, I', h⟩) hf)
def gNil : TGs := fun vs σ H Q => vs = [] /\ Q σ H
def gCons (t : TG) (u : TGs) : TGs := fun vs σ H Q => ∃ v r, vs = v :: r /\ t v σ H fun σ' H' => u r σ' H' Q
theorem pgs_nil : PGs X [] gNil := by
 intro pins s σ H vs us Q I r h
 obtain ⟨e, h⟩ := h
 subst e
 cases r
 exact assignInOrder_nil ⟨σ, H, I, h⟩
theorem pgs_cons {e : Expr} {es : List Expr} {t : TG} {u : TGs} (h1 : PG X e t) (h2 : PGs X es u)
    (hs : (assignEach (e :: es) X.env).map (·.2) = assign e X.env :: (assignEach es X.env).map (·.2) := by rfl) : PGs X (e :: es) (gCons t u) := by
  intro pins s σ H vs us Q I r h
  obtain ⟨v, vr, e1, h⟩ := h
  subst e1
  cases r with
  | cons r rr =>
    rw [hs]
    refine assignInOrder_cons (thn (h1 pins s σ H _ _ _ I r h) fun _ s1 ⟨σ1, H1, I1, q1⟩ => ?_)
    exact h2 pins s1 σ1 H1 _ _ Q I1 rr q1
def gTup (K : PySem.W.Frag) (n : Nat) (t : TGs) : TG := fun v σ H Q => ∃ a xs, v = .ref a /\ SqT K H a xs /\ xs.length = n /\ t xs σ H Q
theorem pg_tup {es : List Expr} {k : Nat} {t : TGs} {n : Nat} (hc : X.calm = true) (h : PGs X es t)
  (hn : (assignEach es X.env).length = n := by rfl) (hst : (assignEach es X.env).findIdx? (·.1) = none := by rfl) : PG X (.Tuple es k pos) (gTup X.K n t) := by
 intro pins s σ H v u Q I r hw
 obtain ⟨a, xs, e1, hq, hl, hw⟩ := hw
 subst e1
 cases r
 obtain ⟨its, rv, ht, hz⟩ := I.tuple hq
 refine assign_Tuple_tuple (I.ok.hd hc) ht (by simp [hn, <- hl, rv.length]) hst fun h' hx => ?_
 have I1 : Inv X pins σ H { s with heap := h' } := I.kept (t' := s.toks) fun b o e => hx b o (zq32x (zq12x e)) e
 exact h pins _ σ H xs _ Q I1 (by simpa using rv) hw
def gSub (to ti : TE) (t : TSet) : TG := fun v σ H Q => to σ H fun o H1 => ti σ H1 fun i H2 => t o i v H2 fun H3 => Q σ H3
theorem pg_sub {o i : Expr} {to ti : TE} {t : TSet} (ho : PE X o to) (hi : PE X i ti) (hs : PSet X t)
  (ha : ∀ v, assign (.Subscript o i pos) X.env v = (do
   let ov <- holding [v] (eval o X.env)
   let iv <- holding [v, ov] (eval i X.env)
   standAt pos
   holding [v, ov, iv] (setItem ov iv v)
   release [v, ov, iv] []) := by intro _; rfl) : PG X (.Subscript o i pos) (gSub to ti t) := by
 intro pins s σ H v u Q I r h
 rw [ha]
 refine wpAny_bind (wpAny_holding (thn (ho pins s σ H _ I h) fun ov s1 ⟨x, H1, I1, r1, q1⟩ => ?_))
 refine wpAny_bind (wpAny_holding (thn (hi pins s1 σ H1 _ I1 q1) fun iv s2 ⟨y, H2, I2, r2, q2⟩ => ?_))
 refine wpAny_bind (wpAny_standAt (wpAny_bind (wpAny_holding (thn (hs pins s2 σ H2 x y v ov iv u _ I2 r1 r2 r q2) fun _ s3 ⟨H3, I3, q3⟩ => ?_))))
 exact wpAny_release ⟨σ, H3, I3, q3⟩
def tAsg (te : TE) (g : TG) : TS := fun D σ H => te σ H fun x H1 => g x σ H1 D.nx
theorem ps_asg {tg e : Expr} {te : TE} {g : TG} (he : PE X e te) (hg : PG X tg g) (hs : swapsWithSole [tg] e pos.line X.env = pure false := by rfl) (hw : swappedStores [tg] e X.env = pure none := by rfl)
  (h1 : (assignEach [tg] X.env).map (·.2) = [assign tg X.env] := by rfl) : PS X (.Assign [tg] e pos) (tAsg te g) := by
 intro pins s σ H D I h
 refine wpAny_Assign_stores (thn (he pins s σ H _ I h) fun v s1 ⟨x, H1, I1, r1, q1⟩ => ?_) hs hw
 rw [h1]
 exact thn (hg pins s1 σ H1 x v _ I1 r1 q1) fun _ s2 q => q
theorem ps_set {i : Nat} {x : Str} {e : Expr} {te : TE} {pos' : Pos} (hN : X.N.Nodup) (hi : X.N[i]? = some x) (hx : Loc X.env.scope x) (he : PE X e te) (hs : swapsWith e (some (.Name x pos')) pos.line X.env = pure false := by rfl) (hf : X.fn x = true \/ X.env.scope.names.lookup x = some .local := by first | exact .inl rfl | exact .inr rfl | assumption) :
  PS X (.Assign [.Name x pos'] e pos) (tAsg te (gName i)) := by
 intro pins s σ H D I h
 refine wpAny_Assign_Name (thn (he pins s σ H _ I h) fun v s1 ⟨y, H1, I1, r1, q1⟩ => ?_) hs
 exact store_ok I1 hN hi hx r1 (fun s2 I2 => ⟨_, H1, I2, q1⟩) hf
end
section
variable {X : Cx} {pos : Pos}
def tWhile (c : TT) (tb : TS) : TS := fun D σ H => ∃ W : Nat -> St -> Hp -> Prop, (∃ m, W m σ H) /\ ∀ m σ H, W m σ H ->
 c σ H fun b H1 => if b = true then ∃ N : St -> Hp -> Prop, (∀ σ' H', N σ' H' -> ∃ m', m' < m /\ W m' σ' H') /\ tb { D with nx := N, ct := N, bk := D.nx } σ H1 else D.nx σ H1
theorem ps_while {c : Expr} {body : List Stmt} {tc : TT} {tb : TS} (hp : PassesOwn (model X.prog X.w) X.A X.env X.xe) (hc : PT X c tc) (hb : PSs X body tb) : PS X (.While c body [] pos) (tWhile tc tb) := by
  intro pins s σ H D I h
  obtain ⟨W, ⟨m0, w0⟩, turn⟩ := h
  refine wpAny_While (codeAny_whileLoop (fun n s' => ∃ σ' H', Inv X pins σ' H' s' /\ W n σ' H') ?_ m0 ⟨σ, H, I, w0⟩)
  rintro n s1 ⟨σ1, H1, I1, w1⟩
  refine wpAny_passesOwn hp (thn (hc pins s1 σ1 H1 _ I1 (turn n σ1 H1 w1)) fun b s2 ⟨H2, I2, q2⟩ => ?_)
  cases b with
  | true =>
    obtain ⟨N, hN, q2⟩ := q2
    rw [if_pos rfl]
    refine wpAny_passesOwn hp (thn (hb pins s2 σ1 H2 _ I2 q2) fun f s3 q3 => ?_)
    cases f with
    | next =>
      obtain ⟨σ3, H3, I3, n3⟩ := q3
      obtain ⟨m', hm, w3⟩ := hN σ3 H3 n3
      exact ⟨m', hm, σ3, H3, I3, w3⟩
    | cont =>
      obtain ⟨σ3, H3, I3, n3⟩ := q3
      obtain ⟨m', hm, w3⟩ := hN σ3 H3 n3
      exact ⟨m', hm, σ3, H3, I3, w3⟩
    | brk => exact q3
    | ret v => exact q3
  | false =>
    rw [if_neg zq13x]
    exact wpAny_execs_nil ⟨σ1, H2, I2, q2⟩
end
structure It where
 go : Nat -> Hp -> Prop
 yld : Nat -> Hp -> V -> Hp -> Prop
 stop : Nat -> Hp -> Prop
def FpOk (X : Cx) (pins : List (Addr × Obj)) (H : Hp) (b : Addr) : Prop :=
 H b = none /\ b ≠ X.env.locals /\ b ∉ X.fs /\ (b ∈ X.ex \/ X.s₀.heap.objs.size <= b) /\ (∀ x c, X.env.cells.lookup x = some c -> c ≠ b) /\ ∀ p ∈ X.pn ++ pins, p.1 ≠ b
theorem Inv.fpOk {X : Cx} {pins : List (Addr × Obj)} {σ : St} {H H' : Hp} {s : Shared} {b : Addr} (I : Inv X pins σ H s) (hb : s.heap.objs.size <= b) (hn : H' b = none) : FpOk X pins H' b := by
 refine ⟨hn, zq151x (zq31x I.lt hb), I.nofs hb, .inr (zq28x I.sz hb), fun x c e z => ?_, fun p hp z => ?_⟩
 ·obtain ⟨v, q⟩ := I.cell x c e
  exact absurd (zq31x q.lt (by rw [z]; exact hb)) (zq58x _)
 ·exact absurd (zq31x (zq12x (I.pin p hp).1) (by rw [z]; exact hb)) (zq58x _)
structure Turn (P : Program) (w : World) (K : PySem.W.Frag) (tg : Expr) (J : It) (fp : List Addr) (it : Addr) (tn : Nat -> Heap -> Prop) : Prop where
 mem : it ∈ fp
 obj : ∀ i h, tn i h -> ∀ b ∈ fp, ∃ o, h.get? b = some o /\ ∀ v, o.data ≠ .cell v
 keep : ∀ i h h', tn i h -> (∀ b ∈ fp, ∀ o, h.get? b = some o -> h'.get? b = some o) -> tn i h'
 item : ∀ (X : Cx), X.prog = P -> X.w = w -> X.K = K -> X.calm = true -> ∀ (i : Nat) (pins : List (Addr × Obj)) (s : Shared) (σ : St) (H : Hp) (E : Value -> Shared -> Prop), Inv X pins σ H s -> (∀ b ∈ fp, FpOk X pins H b) -> tn i s.heap -> J.go i H ->
  wpAny (model P w) X.A (pyNext (.ref it)) (fun r s1 => ∃ u, r = some u /\
   wpAny (model P w) X.A (letOwnedTupleGo tg (.ref it) u) (fun _ s2 => ∃ x H', Inv X pins σ H' s2 /\ RelV x u /\ J.yld i H x H' /\ tn (i + 1) s2.heap /\ ∀ b ∈ fp, H' b = none) E s1) E s
 done : ∀ (X : Cx), X.prog = P -> X.w = w -> X.K = K -> X.calm = true -> ∀ (i : Nat) (pins : List (Addr × Obj)) (s : Shared) (σ : St) (H : Hp) (E : Value -> Shared -> Prop), Inv X pins σ H s -> (∀ b ∈ fp, FpOk X pins H b) -> tn i s.heap -> J.stop i H ->
  wpAny (model P w) X.A (pyNext (.ref it)) (fun r s1 => r = none /\ Inv X pins σ H s1) E s
 self : ∀ (A : Around) (i : Nat) (s : Shared) (Q : Value -> Shared -> Prop) (E : Value -> Shared -> Prop), tn i s.heap -> Q (.ref it) s -> wpAny (model P w) A (pyIter (.ref it)) Q E s
abbrev TI := St -> Hp -> (It -> Hp -> Prop) -> Prop
def PIE (X : Cx) (pins : List (Addr × Obj)) (σ : St) (tg : Expr) (R : It -> Hp -> Prop) (itv : Value) (s2 : Shared) : Prop :=
 ∃ (it : Addr) (fp : List Addr) (tn : Nat -> Heap -> Prop) (J : It) (H' : Hp), itv = .ref it /\ Inv X pins σ H' s2 /\ Turn X.prog X.w X.K tg J fp it tn /\ tn 0 s2.heap /\ (∀ b ∈ fp, FpOk X pins H' b) /\ R J H'
def PI (X : Cx) (tg iter : Expr) (wi : TI) : Prop :=
 ∀ (pins : List (Addr × Obj)) (s : Shared) (σ : St) (H : Hp) (R : It -> Hp -> Prop), Inv X pins σ H s -> wi σ H R ->
  wpAny (model X.prog X.w) X.A (eval iter X.env) (fun v s1 => wpAny (model X.prog X.w) X.A (pyIter v) (PIE X pins σ tg R) X.xe s1) X.xe s
theorem go_of {M : Model} {A : Around} {E : Value -> Shared -> Prop} {s : Shared} {tg : Expr} {it : Addr} {u : Value} {o : Obj} {n : String} {vs : Array Value} {Q : Unit -> Shared -> Prop} (ho : s.heap.get? it = some o) (hc : o.cls = .type n) (hd : o.data = .fields vs)
    (hn : ["enumerate", "zip", "dict_itemiterator", "dict_reverseitemiterator", "odict_iterator", "itertools.zip_longest", "itertools.pairwise"].contains n = false) (hQ : Q () s) : wpAny M A (letOwnedTupleGo tg (.ref it) u) Q E s := by
  unfold letOwnedTupleGo
  cases tg <;> first
    | exact wpAny_pure hQ
    | (cases u <;> first
        | exact wpAny_pure hQ
        | (refine wpAny_bind (wpAny_load ho ?_)
           rw [hc, hd]
           show wpAny M A (if (["enumerate", "zip", "dict_itemiterator", "dict_reverseitemiterator", "odict_iterator", "itertools.zip_longest", "itertools.pairwise"].contains n && vs[0]? == some (rawInt _)) = true then _ else _) Q E s
           rw [if_neg (by intro h; rw [hn, Bool.false_and] at h; cases h)]
           exact wpAny_pure hQ))
def Itl (K : PySem.W.Frag) (a : Addr) : It :=
 ⟨fun i H => ∃ xs x, SqL K H a xs /\ xs[i]? = some x, fun i H x H' => H' = H /\ ∀ xs, SqL K H a xs -> xs[i]? = some x, fun i H => ∃ xs, SqL K H a xs /\ xs.length <= i⟩
def Itr (lo : Int) (n : Nat) : It := ⟨fun i _ => i < n, fun i H x H' => H' = H /\ x = .int (lo + i), fun i _ => n <= i⟩
theorem turn_list {P : Program} {w : World} {K : PySem.W.Frag} {tg : Expr} (a it : Addr) : Turn P w K tg (Itl K a) [it] it (fun i h => h.IsListIter it a i) where
 mem := by simp
 obj := fun i h st b hb => by
  have e : b = it := by simpa using hb
  subst e
  obtain ⟨o, e, c, d⟩ := st
  exact ⟨o, e, fun v z => by rw [d] at z; cases z⟩
 keep := fun i h h' st k => st.at fun o e => k it (by simp) o e
 item := by
  intro X hP hw hK hc i pins s σ H E I hf st hg
  subst hP hw hK
  obtain ⟨xs, x, hq, hx⟩ := hg
  obtain ⟨its, rv, p, hz⟩ := I.list hq
  obtain ⟨u, hu, ru⟩ := rv.get hx
  obtain ⟨f0, f1, f2, f3, f4, f5⟩ := hf it (by simp)
  refine wpAny_pyNext_list_item st p.isList (x := u) (by simpa using hu) fun h' st' sb => ?_
  have I1 : Inv X pins σ H { s with heap := h' } := I.turned (t' := s.toks) (fun b o hb e => (sb.2 b hb).trans e) f0 f1 f3 f4 f5
  obtain ⟨o, e, c, d⟩ := id st'
  exact ⟨u, rfl, go_of (s := { s with heap := h' }) e c d (by decide) ⟨x, H, I1, ru, ⟨rfl, fun ys hy => by rw [I.list_inj hy hq]; exact hx⟩, st', fun b hb => (hf b hb).1⟩⟩
 done := by
  intro X hP hw hK hc i pins s σ H E I hf st hg
  subst hP hw hK
  obtain ⟨xs, hq, hx⟩ := hg
  obtain ⟨its, rv, p, hz⟩ := I.list hq
  obtain ⟨f0, f1, f2, f3, f4, f5⟩ := hf it (by simp)
  have hl := rv.length
  exact wpAny_pyNext_list_end (I.ok.hd hc) st p.isList (by simp; omega) fun h' eb => ⟨rfl, I.turned (t' := s.toks) (fun b o hb e => eb b o hb e) f0 f1 f3 f4 f5⟩
 self := fun _ _ _ _ _ st h => wpAny_pyIter_listiter st h
theorem turn_range {P : Program} {w : World} {K : PySem.W.Frag} {tg : Expr} (it : Addr) (lo : Int) (n : Nat) : Turn P w K tg (Itr lo n) [it] it (fun i h => IsRangeIter h it (lo + (i : Nat) * 1) ((n : Int) - (i : Nat)) 1) where
 mem := by simp
 obj := fun i h st b hb => by
  have e : b = it := by simpa using hb
  subst e
  exact ⟨_, st, fun v z => by
   have z' : Data.fields _ = Data.cell v := z
   cases z'⟩
 keep := fun i h h' st k => k it (by simp) _ st
 item := by
  intro X hP hw hK hc i pins s σ H E I hf st hg
  subst hP hw hK
  obtain ⟨f0, f1, f2, f3, f4, f5⟩ := hf it (by simp)
  have W := Walks.range (prog := X.prog) (w := X.w) (I.ok.hd hc) it lo 1 n
  refine W.item i s _ _ hg st fun v h' tk hv st' kk => ?_
  obtain ⟨t, rfl⟩ := hv
  have I1 : Inv X pins σ H { s with heap := h', toks := tk } := I.turned (fun b o hb e => kk b o (by simpa using hb) e) f0 f1 f3 f4 f5
  refine ⟨_, rfl, go_of (s := { s with heap := h', toks := tk }) (n := "range_iterator") st' rfl rfl (by decide) ⟨.int (lo + i), H, I1, ⟨t, ?_⟩, ⟨rfl, rfl⟩, st', fun b hb => (hf b hb).1⟩⟩
  rw [zq152x]
 done := by
  intro X hP hw hK hc i pins s σ H E I hf st hg
  subst hP hw hK
  obtain ⟨f0, f1, f2, f3, f4, f5⟩ := hf it (by simp)
  exact wpAny_pyNext_range_end (I.ok.hd hc) st (by have : n <= i := hg; omega) fun h' eb => ⟨rfl, I.turned (t' := s.toks) (fun b o hb e => eb b o hb e) f0 f1 f3 f4 f5⟩
 self := fun _ _ _ _ _ st h => wpAny_pyIter_rangeiter st h
section
variable {X : Cx} {tg : Expr}
def iList (K : PySem.W.Frag) (tl : TE) : TI := fun σ H R => tl σ H fun x H1 => ∃ a, x = .ref a /\ (∃ xs, SqL K H1 a xs) /\ R (Itl K a) H1
theorem pi_list {l : Expr} {tl : TE} (hl : PE X l tl) : PI X tg l (iList X.K tl) := by
 intro pins s σ H R I h
 refine thn (hl pins s σ H _ I h) fun v s1 ⟨x, H1, I1, r1, q1⟩ => ?_
 obtain ⟨a, e, ⟨xs, hq⟩, q⟩ := q1
 subst e
 cases r1
 obtain ⟨its, rv, p, hz⟩ := I1.list hq
 refine wpAny_pyIter_list p.isList ?_
 refine ⟨s1.heap.objs.size, [s1.heap.objs.size], _, _, H1, rfl, I1.kept (t' := s1.toks) fun b o e => zq33x _ e, turn_list a _, ⟨_, zq42x _ rfl, rfl, rfl⟩, fun b hb => ?_, q⟩
 have e : b = s1.heap.objs.size := by simpa using hb
 subst e
 exact I1.fpOk (zq5x _) (I1.hok.fresh (zq5x _))
theorem range_it {pins : List (Addr × Obj)} {σ : St} {H : Hp} {s : Shared} {R : It -> Hp -> Prop} {E : Value -> Shared -> Prop} {lo hi : Int} {t u v : Tok} {tk : Nat} (I : Inv X pins σ H s) (h1 : -(2 ^ 62) <= lo) (h2 : lo < 2 ^ 62) (h3 : -(2 ^ 62) <= hi) (h4 : hi < 2 ^ 62)
  (q : R (Itr lo (hi - lo).toNat) H) : wpAny (model X.prog X.w) X.A (pyIter (.ref s.heap.objs.size)) (PIE X pins σ tg R) E { s with heap := s.heap.push { cls := .type "range", data := .fields #[.int lo t, .int hi u, .int 1 v] }, toks := tk } := by
 refine wpAny_pyIter_range (IsRange.new ..) (small_one h1 h2 h3 h4) ?_
 have I1 : Inv X pins σ H { s with heap := s.heap.push { cls := .type "range", data := .fields #[.int lo t, .int hi u, .int 1 v] }, toks := tk } := I.kept fun b o e => zq33x _ e
 refine ⟨(s.heap.push { cls := .type "range", data := .fields #[.int lo t, .int hi u, .int 1 v] }).objs.size, [(s.heap.push { cls := .type "range", data := .fields #[.int lo t, .int hi u, .int 1 v] }).objs.size], _, _, H, rfl,
  I1.kept (t' := tk) fun b o e => zq33x _ e, turn_range _ lo (hi - lo).toNat, ?_, fun b hb => ?_, q⟩
 ·have e1 : lo + ((0 : Nat) : Int) * 1 = lo := by simp
  have e2 : (((hi - lo).toNat : Nat) : Int) - ((0 : Nat) : Int) = Builtin.Range.rangeSize lo hi 1 := by rw [rangeSize_one]; split <;> omega
  show IsRangeIter _ _ (lo + ((0 : Nat) : Int) * 1) ((((hi - lo).toNat : Nat) : Int) - ((0 : Nat) : Int)) 1
  rw [e1, e2]
  exact zq42x _ rfl
 ·have e : b = (s.heap.push { cls := .type "range", data := .fields #[.int lo t, .int hi u, .int 1 v] }).objs.size := by simpa using hb
  subst e
  exact I1.fpOk (zq5x _) (I1.hok.fresh (zq5x _))
def iRng1 (ta : TA) : TI := fun σ H R => ta σ H fun vs H1 => ∃ j : Int, vs = [.int j] /\ -(2 ^ 62) <= j /\ j < 2 ^ 62 /\ R (Itr 0 j.toNat) H1
def iRng2 (ta : TA) : TI := fun σ H R => ta σ H fun vs H1 => ∃ i j : Int, vs = [.int i, .int j] /\ (-(2 ^ 62) <= i /\ i < 2 ^ 62 /\ -(2 ^ 62) <= j /\ j < 2 ^ 62) /\ R (Itr i (j - i).toNat) H1
theorem pi_range1 {a : Expr} {ta : TA} {p pos : Pos} (hg : Gl X "range") (hm : X.mg "range" = none) (ha : PA X [a] ta) (hs : starEach [a] X.env = [(false, eval a X.env)] := by rfl) : PI X tg (.Call (.Name "range" p) [a] [] pos) (iRng1 ta) := by
  intro pins s σ H R I h
  refine Call_ (ld_blt I hg hm boot_range (zq124x (thn (ha pos pins s σ H _ I h) fun us s1 ⟨vs, H1, I1, r1, q1⟩ => ?_) hs rfl))
  obtain ⟨j, e, q1, q2, q⟩ := q1
  subst e
  cases r1 with
  | cons r rr =>
    cases rr
    obtain ⟨t, rfl⟩ := r
    exact call_range_1 (range_it I1 (by omega) (by omega) q1 q2 (by simpa using q))
theorem pi_range2 {a b : Expr} {ta : TA} {p pos : Pos} (hg : Gl X "range") (hm : X.mg "range" = none) (ha : PA X [a, b] ta) (hs : starEach [a, b] X.env = [(false, eval a X.env), (false, eval b X.env)] := by rfl) (hs2 : starEach [b] X.env = [(false, eval b X.env)] := by rfl) :
    PI X tg (.Call (.Name "range" p) [a, b] [] pos) (iRng2 ta) := by
  intro pins s σ H R I h
  refine Call_ (ld_blt I hg hm boot_range (zq124x (thn (ha pos pins s σ H _ I h) fun us s1 ⟨vs, H1, I1, r1, q1⟩ => ?_) (by rw [hs, hs2]) (by rw [hs2]; rfl)))
  obtain ⟨i, j, e, ⟨q1, q2, q3, q4⟩, q⟩ := q1
  subst e
  cases r1 with
  | cons r rr =>
    cases rr with
    | cons r' rr =>
      cases rr
      obtain ⟨t, rfl⟩ := r
      obtain ⟨t', rfl⟩ := r'
      exact call_range_2 (range_it I1 q1 q2 q3 q4 q)
def tFor (wi : TI) (g : TG) (tb : TS) : TS := fun D σ H => wi σ H fun J H1 => ∃ W : Nat -> Nat -> St -> Hp -> Prop, (∃ m, W 0 m σ H1) /\ ∀ i m σ H, W i m σ H ->
 (J.stop i H /\ D.nx σ H) \/ (J.go i H /\ ∃ N : St -> Hp -> Prop, (∀ σ' H', N σ' H' -> ∃ m', m' < m /\ W (i + 1) m' σ' H') /\ ∀ x H', J.yld i H x H' -> g x σ H' fun σ2 H2 => tb { D with nx := N, ct := N, bk := D.nx } σ2 H2)
def pinsAt (fp : List Addr) (h : Heap) : List (Addr × Obj) := fp.filterMap fun b => (h.get? b).map fun o => (b, o)
theorem mem_pinsAt {fp : List Addr} {h : Heap} {b : Addr} {o : Obj} (hb : b ∈ fp) (e : h.get? b = some o) : (b, o) ∈ pinsAt fp h := zq153x.mpr ⟨b, hb, by rw [e]; rfl⟩
theorem of_pinsAt {fp : List Addr} {h : Heap} {p : Addr × Obj} (hp : p ∈ pinsAt fp h) : p.1 ∈ fp /\ h.get? p.1 = some p.2 := by
  obtain ⟨b, hb, e⟩ := zq153x.mp hp
  cases q : h.get? b with
  | none => rw [q] at e; cases e
  | some o =>
    rw [q] at e
    have e' : (b, o) = p := zq36x e
    subst e'
    exact ⟨hb, q⟩
theorem Inv.pinned {pins : List (Addr × Obj)} {σ : St} {H : Hp} {s : Shared} {fp : List Addr} (I : Inv X pins σ H s) (hf : ∀ b ∈ fp, FpOk X pins H b) (ho : ∀ b ∈ fp, ∃ o, s.heap.get? b = some o /\ ∀ v, o.data ≠ .cell v) : Inv X (pins ++ pinsAt fp s.heap) σ H s :=
 I.pins_of fun p hp => (zq45x.mp hp).elim (fun z => I.pin p (zq53x _ z)) fun z => by
  obtain ⟨hb, e⟩ := of_pinsAt z
  obtain ⟨f0, f1, f2, _⟩ := hf p.1 hb
  obtain ⟨o, e', d⟩ := ho p.1 hb
  rw [e] at e'; cases e'
  exact ⟨e, f0, f1, f2, d⟩
theorem Inv.unpinned {pins pl : List (Addr × Obj)} {σ : St} {H : Hp} {s : Shared} (I : Inv X (pins ++ pl) σ H s) : Inv X pins σ H s := I.pins_of fun p hp => I.pin p (zq53x _ (zq85x _ hp))
theorem ps_for {iter : Expr} {body : List Stmt} {wi : TI} {g : TG} {tb : TS} {pos : Pos} (hp : PassesOwn (model X.prog X.w) X.A X.env X.xe) (hc : X.calm = true) (hi : PI X tg iter wi) (hg : PG X tg g) (hb : PSs X body tb)
  (hs : ∀ x, foldedSetIterable iter X.env x = pure x := by intro _; rfl) : PS X (.For tg iter body [] pos) (tFor wi g tb) := by
 intro pins s σ H D I h
 refine wpAny_For (thn (hi pins s σ H _ I h) fun v s1 h1 => thn h1 fun itv s2 h2 => ?_) hs
 obtain ⟨it, fp, tn, J, H2, e, I2, T, st2, f2, W, ⟨m0, w0⟩, turn⟩ := h2
 subst e
 have stat : ∀ {H' : Hp}, (∀ b ∈ fp, H' b = none) -> ∀ b ∈ fp, FpOk X pins H' b := fun hn b hb => ⟨hn b hb, (f2 b hb).2⟩
 refine codeAny_forLoop_any (fun n s' => ∃ i σ' H', Inv X pins σ' H' s' /\ tn i s'.heap /\ (∀ b ∈ fp, H' b = none) /\ W i n σ' H') ?_ m0 ⟨0, σ, H2, I2, st2, fun b hb => (f2 b hb).1, w0⟩
 rintro n s3 ⟨i, σ3, H3, I3, st3, fr3, w3⟩
 rcases turn i n σ3 H3 w3 with ⟨stop, qn⟩ | ⟨go, N, hN, step⟩
 ·refine wpAny_passesOwn hp (thn (T.done X rfl rfl rfl hc i pins s3 σ3 H3 X.xe I3 (stat fr3) st3 stop) fun r s4 ⟨hr, I4⟩ => ?_)
  subst hr
  exact wpAny_execs_nil ⟨σ3, H3, I4, qn⟩
 ·refine wpAny_passesOwn hp (thn (T.item X rfl rfl rfl hc i pins s3 σ3 H3 X.xe I3 (stat fr3) st3 go) fun r s4 ⟨u, hr, h4⟩ => ?_)
  subst hr
  refine wpAny_passesOwn hp (thn h4 fun _ s5 ⟨x, H5, I5, r5, y5, st5, fr5⟩ => ?_)
  have I5' := I5.pinned (stat fr5) (T.obj _ _ st5)
  refine wpAny_passesOwn hp (thn (hg _ s5 σ3 H5 x u _ I5' r5 (step x H5 y5)) fun _ s6 ⟨σ6, H6, I6, q6⟩ => ?_)
  refine wpAny_passesOwn hp (thn (hb _ s6 σ6 H6 _ I6 q6) fun f s7 q7 => ?_)
  have again : ∀ {σ7 : St} {H7 : Hp}, Inv X (pins ++ pinsAt fp s5.heap) σ7 H7 s7 -> N σ7 H7 -> ∃ m, m < n /\ ∃ i σ' H', Inv X pins σ' H' s7 /\ tn i s7.heap /\ (∀ b ∈ fp, H' b = none) /\ W i m σ' H' := fun {σ7 H7} I7 n7 => by
   obtain ⟨m', hm, w7⟩ := hN σ7 H7 n7
   refine ⟨m', hm, i + 1, σ7, H7, I7.unpinned, T.keep _ _ _ st5 fun b hb o e => (I7.pin (b, o) (zq53x _ (zq53x _ (mem_pinsAt hb e)))).1, fun b hb => ?_, w7⟩
   obtain ⟨o, e, d⟩ := T.obj _ _ st5 b hb
   exact (I7.pin (b, o) (zq53x _ (zq53x _ (mem_pinsAt hb e)))).2.1
  cases f with
  | next => obtain ⟨σ7, H7, I7, n7⟩ := q7; exact again I7 n7
  | cont => obtain ⟨σ7, H7, I7, n7⟩ := q7; exact again I7 n7
  | brk => obtain ⟨σ7, H7, I7, q7⟩ := q7; exact ⟨σ7, H7, I7.unpinned, q7⟩
  | ret v => obtain ⟨x7, σ7, H7, I7, r7, q7⟩ := q7; exact ⟨x7, σ7, H7, I7.unpinned, r7, q7⟩
end
theorem for_list {K : PySem.W.Frag} {a : Addr} {xs : List V} {g : TG} {tb : TS} {D : Ends} {σ : St} {H : Hp} (Pv : Nat -> St -> Hp -> Prop) (h0 : Pv 0 σ H) (hl : ∀ i σ H, i <= xs.length -> Pv i σ H -> SqL K H a xs)
  (hs : ∀ i x σ H, xs[i]? = some x -> Pv i σ H -> g x σ H fun σ2 H2 => tb { D with nx := Pv (i + 1), ct := Pv (i + 1), bk := D.nx } σ2 H2) (hd : ∀ σ H, Pv xs.length σ H -> D.nx σ H) :
  ∃ W : Nat -> Nat -> St -> Hp -> Prop, (∃ m, W 0 m σ H) /\ ∀ i m σ H, W i m σ H ->
   ((Itl K a).stop i H /\ D.nx σ H) \/ ((Itl K a).go i H /\ ∃ N : St -> Hp -> Prop, (∀ σ' H', N σ' H' -> ∃ m', m' < m /\ W (i + 1) m' σ' H') /\ ∀ x H', (Itl K a).yld i H x H' -> g x σ H' fun σ2 H2 => tb { D with nx := N, ct := N, bk := D.nx } σ2 H2) := by
 refine ⟨fun i m σ H => m = xs.length - i /\ i <= xs.length /\ Pv i σ H, ⟨xs.length, by simp, zq37x _, h0⟩, ?_⟩
 rintro i m σ H ⟨rfl, hi, p⟩
 have q := hl i σ H hi p
 by_cases hlt : i < xs.length
 ·refine .inr ⟨⟨xs, xs[i], q, by simp [hlt]⟩, Pv (i + 1), fun σ' H' p' => ⟨xs.length - (i + 1), by omega, rfl, hlt, p'⟩, fun x H' y => ?_⟩
  obtain ⟨e, y⟩ := y
  subst e
  exact hs i x σ _ (y xs q) p
 ·have e : i = xs.length := by omega
  subst e
  exact .inl ⟨⟨xs, q, zq5x _⟩, hd σ H p⟩
theorem for_range {lo : Int} {n : Nat} {g : TG} {tb : TS} {D : Ends} {σ : St} {H : Hp} (Pv : Nat -> St -> Hp -> Prop) (h0 : Pv 0 σ H)
  (hs : ∀ i σ H, i < n -> Pv i σ H -> g (.int (lo + i)) σ H fun σ2 H2 => tb { D with nx := Pv (i + 1), ct := Pv (i + 1), bk := D.nx } σ2 H2) (hd : ∀ σ H, Pv n σ H -> D.nx σ H) :
  ∃ W : Nat -> Nat -> St -> Hp -> Prop, (∃ m, W 0 m σ H) /\ ∀ i m σ H, W i m σ H ->
   ((Itr lo n).stop i H /\ D.nx σ H) \/ ((Itr lo n).go i H /\ ∃ N : St -> Hp -> Prop, (∀ σ' H', N σ' H' -> ∃ m', m' < m /\ W (i + 1) m' σ' H') /\ ∀ x H', (Itr lo n).yld i H x H' -> g x σ H' fun σ2 H2 => tb { D with nx := N, ct := N, bk := D.nx } σ2 H2) := by
 refine ⟨fun i m σ H => m = n - i /\ i <= n /\ Pv i σ H, ⟨n, by simp, zq37x _, h0⟩, ?_⟩
 rintro i m σ H ⟨rfl, hi, p⟩
 by_cases hlt : i < n
 ·refine .inr ⟨hlt, Pv (i + 1), fun σ' H' p' => ⟨n - (i + 1), by omega, rfl, hlt, p'⟩, fun x H' y => ?_⟩
  obtain ⟨e, y⟩ := y
  subst e y
  exact hs i σ _ hlt p
 ·have e : i = n := by omega
  subst e
  exact .inl ⟨zq5x _, hd σ H p⟩
theorem while_by {c : TT} {tb : TS} {D : Ends} {σ : St} {H : Hp} (Pv : St -> Hp -> Prop) (μ : St -> Hp -> Nat) (h0 : Pv σ H)
  (hs : ∀ σ H, Pv σ H -> c σ H fun b H1 => if b = true then tb { D with nx := fun σ' H' => Pv σ' H' /\ μ σ' H' < μ σ H, ct := fun σ' H' => Pv σ' H' /\ μ σ' H' < μ σ H, bk := D.nx } σ H1 else D.nx σ H1)
  (mono : ∀ σ H Q Q', (∀ b H1, Q b H1 -> Q' b H1) -> c σ H Q -> c σ H Q') : tWhile c tb D σ H := by
 refine ⟨fun m σ H => m = μ σ H /\ Pv σ H, ⟨_, rfl, h0⟩, ?_⟩
 rintro m σ H ⟨rfl, p⟩
 refine mono σ H _ _ (fun b H1 q => ?_) (hs σ H p)
 cases b with
 | true => exact ⟨_, fun σ' H' ⟨p', l⟩ => ⟨_, l, rfl, p'⟩, q⟩
 | false => exact q
abbrev R2 := V -> V -> Hp -> VK -> Prop
def OpR (X : Cx) (f : Value -> Value -> Sem Value) (r : R2) : Prop :=
 ∀ (pins : List (Addr × Obj)) (s : Shared) (σ : St) (H : Hp) (x y : V) (v u : Value) (Q : VK), Inv X pins σ H s -> RelV x v -> RelV y u -> r x y H Q ->
  wpAny (model X.prog X.w) X.A (f v u) (EP X pins σ Q) X.xe s
def UnR (X : Cx) (f : Value -> Sem Value) (r : V -> Hp -> VK -> Prop) : Prop :=
 ∀ (pins : List (Addr × Obj)) (s : Shared) (σ : St) (H : Hp) (x : V) (v : Value) (Q : VK), Inv X pins σ H s -> RelV x v -> r x H Q ->
  wpAny (model X.prog X.w) X.A (f v) (EP X pins σ Q) X.xe s
def CallR (X : Cx) (f : Value) (r : List V -> Hp -> VK -> Prop) : Prop :=
 ∀ (pins : List (Addr × Obj)) (s : Shared) (σ : St) (H : Hp) (xs : List V) (us : List Value) (Q : VK), Inv X pins σ H s -> Vals xs us -> r xs H Q ->
  wpAny (model X.prog X.w) X.A (call f us) (EP X pins σ Q) X.xe s
def TruR (X : Cx) (r : V -> Hp -> (Bool -> Hp -> Prop) -> Prop) : Prop :=
 ∀ (pins : List (Addr × Obj)) (s : Shared) (σ : St) (H : Hp) (x : V) (v : Value) (Q : Bool -> Hp -> Prop), Inv X pins σ H s -> RelV x v -> r x H Q ->
  wpAny (model X.prog X.w) X.A (truthy v) (TP X pins σ Q) X.xe s
def tOp (r : R2) (ta tb : TE) : TE := fun σ H Q => ta σ H fun x H1 => tb σ H1 fun y H2 => r x y H2 Q
def tUn (r : V -> Hp -> VK -> Prop) (ta : TE) : TE := fun σ H Q => ta σ H fun x H1 => r x H1 Q
def rI (C : Int -> Int -> Prop) (g : Int -> Int -> V) : R2 := fun x y H Q => ∃ i j, x = .int i /\ y = .int j /\ C i j /\ Q (g i j) H
def rI0 (g : Int -> Int -> V) : R2 := fun x y H Q => ∃ i j, x = .int i /\ y = .int j /\ Q (g i j) H
def rU (g : Int -> V) : V -> Hp -> VK -> Prop := fun x H Q => ∃ i, x = .int i /\ Q (g i) H
section
variable {X : Cx} {a b c : Expr} {ta tb tc : TE} {pos : Pos}
theorem binT (ha : PE X a ta) (hb : PE X b tb) {pins : List (Addr × Obj)} {s : Shared} {σ : St} {H : Hp} {R : V -> V -> Hp -> Prop} (I : Inv X pins σ H s)
  (h : ta σ H fun x H1 => tb σ H1 fun y H2 => R x y H2) {Q : Value -> Shared -> Prop} {f : Value -> Value -> Sem Value}
  (hf : ∀ v u s2 x y H2, Inv X pins σ H2 s2 -> RelV x v -> RelV y u -> R x y H2 -> wpAny (model X.prog X.w) X.A (f v u) Q X.xe s2) :
  wpAny (model X.prog X.w) X.A (eval a X.env) (fun v s₁ => wpAny (model X.prog X.w) X.A (eval b X.env) (fun u s₂ => wpAny (model X.prog X.w) X.A (f v u) Q X.xe s₂) X.xe s₁) X.xe s := by
 refine thn (ha pins s σ H _ I h) fun v s1 ⟨x, H1, I1, r1, q1⟩ => ?_
 refine thn (hb pins s1 σ H1 _ I1 q1) fun u s2 ⟨y, H2, I2, r2, q2⟩ => ?_
 exact hf v u s2 x y H2 I2 r1 r2 q2
theorem pe_op {op : Operator} {r : R2} (ho : OpR X (binaryOp op) r) (ha : PE X a ta) (hb : PE X b tb) : PE X (.BinOp a op b pos) (tOp r ta tb) := by
 intro pins s σ H Q I h
 exact wpAny_BinOp (binT ha hb I h fun v u s2 x y H2 I2 rx ry q => ho pins s2 σ H2 x y v u Q I2 rx ry q)
theorem pe_un {op : UnaryOp} {r : V -> Hp -> VK -> Prop} (ho : UnR X (unaryOp op) r) (ha : PE X a ta) : PE X (.UnaryOp op a pos) (tUn r ta) := by
 intro pins s σ H Q I h
 exact UnaryOp_ (thn (ha pins s σ H _ I h) fun v s1 ⟨x, H1, I1, r1, q1⟩ => ho pins s1 σ H1 x v Q I1 r1 q1)
theorem opI {f : Value -> Value -> Sem Value} {C : Int -> Int -> Prop} {g : Int -> Int -> Int}
  (rule : ∀ (i j : Int) (t u : Tok) (s : Shared) (Q : Value -> Shared -> Prop) (E : Value -> Shared -> Prop), C i j -> Q (.int (g i j) s.toks) { s with toks := s.toks + 1 } -> wpAny (model X.prog X.w) X.A (f (.int i t) (.int j u)) Q E s) :
  OpR X f (rI C fun i j => .int (g i j)) := by
 intro pins s σ H x y v u Q I rx ry h
 obtain ⟨i, j, rfl, rfl, hc, q⟩ := h
 obtain ⟨t, rfl⟩ := rx
 obtain ⟨t', rfl⟩ := ry
 exact rule i j t t' s _ _ hc ⟨.int (g i j), H, I.tok _, ⟨_, rfl⟩, q⟩
theorem opI0 {f : Value -> Value -> Sem Value} {g : Int -> Int -> Int}
  (rule : ∀ (i j : Int) (t u : Tok) (s : Shared) (Q : Value -> Shared -> Prop) (E : Value -> Shared -> Prop), Q (.int (g i j) s.toks) { s with toks := s.toks + 1 } -> wpAny (model X.prog X.w) X.A (f (.int i t) (.int j u)) Q E s) :
  OpR X f (rI0 fun i j => .int (g i j)) := by
 intro pins s σ H x y v u Q I rx ry h
 obtain ⟨i, j, rfl, rfl, q⟩ := h
 obtain ⟨t, rfl⟩ := rx
 obtain ⟨t', rfl⟩ := ry
 exact rule i j t t' s _ _ ⟨.int (g i j), H, I.tok _, ⟨_, rfl⟩, q⟩
theorem opB0 {f : Value -> Value -> Sem Value} {g : Int -> Int -> Bool}
  (rule : ∀ (i j : Int) (t u : Tok) (s : Shared) (Q : Value -> Shared -> Prop) (E : Value -> Shared -> Prop), Q (.bool (g i j)) s -> wpAny (model X.prog X.w) X.A (f (.int i t) (.int j u)) Q E s) :
  OpR X f (rI0 fun i j => .bl (g i j)) := by
 intro pins s σ H x y v u Q I rx ry h
 obtain ⟨i, j, rfl, rfl, q⟩ := h
 obtain ⟨t, rfl⟩ := rx
 obtain ⟨t', rfl⟩ := ry
 exact rule i j t t' s _ _ ⟨.bl (g i j), H, I, rfl, q⟩
def CPow (i j : Int) : Prop := 0 <= j /\ j <= 1000000 /\ i.natAbs < 2 ^ 64
def CMul (i j : Int) : Prop := (-(2 ^ 64) < i /\ i < 2 ^ 64) \/ (-(2 ^ 64) < j /\ j < 2 ^ 64)
theorem CMul.ok {i j : Int} (h : CMul i j) : IntMulOk i j := by
 rcases h with ⟨h1, h2⟩ | ⟨h1, h2⟩
 ·exact .of_left (intBits_le_64 h1 h2)
 ·exact .of_right (intBits_le_64 h1 h2)
theorem op_add : OpR X (binaryOp .Add) (rI0 fun i j => .int (i + j)) := opI0 fun _ _ _ _ _ _ _ q => add_int q
theorem op_sub : OpR X (binaryOp .Sub) (rI0 fun i j => .int (i - j)) := opI0 fun _ _ _ _ _ _ _ q => sub_int q
theorem op_mod : OpR X (binaryOp .Mod) (rI (fun _ j => 0 < j) fun i j => .int (i % j)) := opI fun i j _ _ _ _ _ hc q => by
 have h1 : (0 : Int) < j := hc
 exact mod_int' (by omega) (by rw [Int.fmod_eq_emod_of_nonneg i (by omega)]; exact q)
theorem op_pow : OpR X (binaryOp .Pow) (rI CPow fun i j => .int (i ^ j.toNat)) := opI fun _ _ _ _ _ _ _ hc q => pow_int_small hc.1 hc.2.1 hc.2.2 q
theorem unI {f : Value -> Sem Value} {g : Int -> Int}
  (rule : ∀ (i : Int) (t : Tok) (s : Shared) (Q : Value -> Shared -> Prop) (E : Value -> Shared -> Prop), Q (.int (g i) s.toks) { s with toks := s.toks + 1 } -> wpAny (model X.prog X.w) X.A (f (.int i t)) Q E s) :
  UnR X f (rU fun i => .int (g i)) := by
 intro pins s σ H x v Q I rx h
 obtain ⟨i, rfl, q⟩ := h
 obtain ⟨t, rfl⟩ := rx
 exact rule i t s _ _ ⟨.int (g i), H, I.tok _, ⟨_, rfl⟩, q⟩
theorem un_neg : UnR X (unaryOp .USub) (rU fun i => .int (-i)) := unI fun _ _ _ _ _ q => neg_int q
end
def scal : V -> V -> Bool
 | .non, .non => true | .non, .int _ => true | .int _, .non => true | .non, .bl _ => true | .bl _, .non => true | .non, .str _ => true | .str _, .non => true
 | .int _, .int _ => true | .bl _, .bl _ => true | .str _, .str _ => true | .byt _, .byt _ => true
 | .int _, .str _ => true | .str _, .int _ => true | .bl _, .str _ => true | .str _, .bl _ => true
 | _, _ => false
def rEq : R2 := fun x y H Q => scal x y = true /\ Q (.bl (decide (x = y))) H
def rNe : R2 := fun x y H Q => scal x y = true /\ Q (.bl (!decide (x = y))) H
theorem dec_int {i j : Int} : decide (V.int i = V.int j) = (i == j) := by
 rw [zq62x]
 simp
theorem dec_bl {i j : Bool} : decide (V.bl i = V.bl j) = (i == j) := by
 rw [zq62x]
 simp
theorem dec_str {i j : Str} : decide (V.str i = V.str j) = (i == j) := by
 rw [zq62x]
 simp
theorem dec_byt {i j : Array UInt8} : decide (V.byt i = V.byt j) = (i.toList == j.toList) := by
 rw [zq62x]
 cases i
 cases j
 simp
section
variable {X : Cx} {a b c : Expr} {ta tb tc : TE} {pos : Pos}
theorem fin_bl {pins : List (Addr × Obj)} {σ : St} {H : Hp} {s : Shared} {Q : VK} {k k' : Bool} (I : Inv X pins σ H s) (q : Q (.bl k) H) (e : k = k') : EP X pins σ Q (.bool k') s := by
 subst e
 exact ⟨.bl k, H, I, rfl, q⟩
theorem op_eq : OpR X (compareOp .Eq) rEq := by
  intro pins s σ H x y v u Q I rx ry h
  obtain ⟨hs, q⟩ := h
  cases x with
  | non =>
    cases rx
    cases y with
    | non => cases ry; exact PySem.EqNone.eq_none_none (fin_bl I q (by simp))
    | bl j => cases ry; exact PySem.EqNone.eq_none_bool (fin_bl I q (by simp))
    | int j => obtain ⟨t', rfl⟩ := ry; exact PySem.EqNone.eq_none_int (fin_bl I q (by simp))
    | str j => obtain ⟨t', rfl⟩ := ry; exact PySem.EqNone.eq_none_str (fin_bl I q (by simp))
    | _ => exact absurd (show false = true from hs) zq13x
  | bl i =>
    cases rx
    cases y with
    | non => cases ry; exact PySem.EqNone.eq_bool_none (fin_bl I q (by simp))
    | bl j => cases ry; exact eq_bool (fin_bl I q dec_bl)
    | str j => obtain ⟨t', rfl⟩ := ry; exact PySem.EqMixed.eq_bool_str (fin_bl I q (by simp))
    | _ => exact absurd (show false = true from hs) zq13x
  | int i =>
    obtain ⟨t, rfl⟩ := rx
    cases y with
    | non => cases ry; exact PySem.EqNone.eq_int_none (fin_bl I q (by simp))
    | int j => obtain ⟨t', rfl⟩ := ry; exact eq_int (fin_bl I q dec_int)
    | str j => obtain ⟨t', rfl⟩ := ry; exact PySem.EqMixed.eq_int_str (fin_bl I q (by simp))
    | _ => exact absurd (show false = true from hs) zq13x
  | str i =>
    obtain ⟨t, rfl⟩ := rx
    cases y with
    | non => cases ry; exact PySem.EqNone.eq_str_none (fin_bl I q (by simp))
    | bl j => cases ry; exact PySem.EqMixed.eq_str_bool (fin_bl I q (by simp))
    | int j => obtain ⟨t', rfl⟩ := ry; exact PySem.EqMixed.eq_str_int (fin_bl I q (by simp))
    | str j => obtain ⟨t', rfl⟩ := ry; exact eq_str (fin_bl I q dec_str)
    | _ => exact absurd (show false = true from hs) zq13x
  | byt i =>
    obtain ⟨t, rfl⟩ := rx
    cases y with
    | byt j => obtain ⟨t', rfl⟩ := ry; exact PySem.W.eq_bytes (fin_bl I q dec_byt)
    | _ => exact absurd (show false = true from hs) zq13x
  | _ => cases y <;> exact absurd (show false = true from hs) zq13x
theorem op_ne : OpR X (compareOp .NotEq) rNe := by
  intro pins s σ H x y v u Q I rx ry h
  obtain ⟨hs, q⟩ := h
  cases x with
  | non =>
    cases rx
    cases y with
    | non => cases ry; exact PySem.EqNone.ne_none_none (fin_bl I q (by simp))
    | bl j => cases ry; exact PySem.EqNone.ne_none_bool (fin_bl I q (by simp))
    | int j => obtain ⟨t', rfl⟩ := ry; exact PySem.EqNone.ne_none_int (fin_bl I q (by simp))
    | str j => obtain ⟨t', rfl⟩ := ry; exact PySem.EqNone.ne_none_str (fin_bl I q (by simp))
    | _ => exact absurd (show false = true from hs) zq13x
  | bl i =>
    cases rx
    cases y with
    | non => cases ry; exact PySem.EqNone.ne_bool_none (fin_bl I q (by simp))
    | bl j => cases ry; exact ne_bool (fin_bl I q (congrArg not dec_bl))
    | str j => obtain ⟨t', rfl⟩ := ry; exact PySem.EqMixed.ne_bool_str (fin_bl I q (by simp))
    | _ => exact absurd (show false = true from hs) zq13x
  | int i =>
    obtain ⟨t, rfl⟩ := rx
    cases y with
    | non => cases ry; exact PySem.EqNone.ne_int_none (fin_bl I q (by simp))
    | int j => obtain ⟨t', rfl⟩ := ry; exact ne_int (fin_bl I q (congrArg not dec_int))
    | str j => obtain ⟨t', rfl⟩ := ry; exact PySem.EqMixed.ne_int_str (fin_bl I q (by simp))
    | _ => exact absurd (show false = true from hs) zq13x
  | str i =>
    obtain ⟨t, rfl⟩ := rx
    cases y with
    | non => cases ry; exact PySem.EqNone.ne_str_none (fin_bl I q (by simp))
    | bl j => cases ry; exact PySem.EqMixed.ne_str_bool (fin_bl I q (by simp))
    | int j => obtain ⟨t', rfl⟩ := ry; exact PySem.EqMixed.ne_str_int (fin_bl I q (by simp))
    | str j => obtain ⟨t', rfl⟩ := ry; exact ne_str (fin_bl I q (congrArg not dec_str))
    | _ => exact absurd (show false = true from hs) zq13x
  | byt i =>
    obtain ⟨t, rfl⟩ := rx
    cases y with
    | byt j => obtain ⟨t', rfl⟩ := ry; exact PySem.W.ne_bytes (fin_bl I q (congrArg not dec_byt))
    | _ => exact absurd (show false = true from hs) zq13x
  | _ => cases y <;> exact absurd (show false = true from hs) zq13x
theorem op_lt : OpR X (compareOp .Lt) (rI0 fun i j => .bl (decide (i < j))) := opB0 fun _ _ _ _ _ _ _ q => lt_int q
theorem op_le : OpR X (compareOp .LtE) (rI0 fun i j => .bl (decide (i <= j))) := opB0 fun _ _ _ _ _ _ _ q => le_int q
theorem op_ge : OpR X (compareOp .GtE) (rI0 fun i j => .bl (decide (j <= i))) := opB0 fun _ _ _ _ _ _ _ q => ge_int q
theorem op_isN : OpR X (compareOp .Is) (fun x y H Q => y = .non /\ Q (.bl (decide (x = .non))) H) := by
 intro pins s σ H x y v u Q I rx ry h
 obtain ⟨rfl, q⟩ := h
 cases ry
 refine is_none_gen (fin_bl I q ?_)
 cases x <;> first
  | (cases rx; rfl)
  | (obtain ⟨t, rfl⟩ := rx; rfl)
theorem op_notN : OpR X (compareOp .IsNot) (fun x y H Q => y = .non /\ Q (.bl (!decide (x = .non))) H) := by
 intro pins s σ H x y v u Q I rx ry h
 obtain ⟨rfl, q⟩ := h
 cases ry
 refine isnot_none_gen (fin_bl I q ?_)
 cases x <;> first
  | (cases rx; rfl)
  | (obtain ⟨t, rfl⟩ := rx; rfl)
theorem nomark (b : Expr) {op : CmpOp} (h : op ≠ .In := by decide) (h2 : op ≠ .NotIn := by decide) : behindInMarks op b = false := by
 have e1 : (op == CmpOp.In) = false := by cases op <;> first | rfl | exact absurd rfl h
 have e2 : (op == CmpOp.NotIn) = false := by cases op <;> first | rfl | exact absurd rfl h2
 cases b <;> simp [behindInMarks, e1, e2]
theorem pe_cmpR {op : CmpOp} {r : R2} (ho : OpR X (compareOp op) r) (ha : PE X a ta) (hb : PE X b tb) (hm : behindInMarks op b = false) : PE X (.Compare a [op] [b] pos) (tOp r ta tb) := by
 intro pins s σ H Q I h
 exact wpAny_Compare1 (binT ha hb I h fun v u s2 x y H2 I2 rx ry q => ho pins s2 σ H2 x y v u Q I2 rx ry q) hm
def tTest (t : TE) : TT := fun σ H Q => t σ H fun x H' => ∃ k, x = .bl k /\ Q k H'
theorem pt_cmpR {op : CmpOp} {r : R2} (ho : OpR X (compareOp op) r) (ha : PE X a ta) (hb : PE X b tb) (hm : behindInMarks op b = false) : PT X (.Compare a [op] [b] pos) (tTest (tOp r ta tb)) := by
 intro pins s σ H Q I h
 refine wpAny_isTrue_Compare1 (thn (ha pins s σ H _ I h) fun v s1 ⟨x, H1, I1, r1, q1⟩ => thn (hb pins s1 σ H1 _ I1 q1) fun u s2 ⟨y, H2, I2, r2, q2⟩ =>
  thn (ho pins s2 σ H2 x y v u _ I2 r1 r2 q2) fun c s3 ⟨z, H3, I3, r3, k, e, q3⟩ => ?_) hm
 subst e
 cases r3
 exact wpAny_truthy_bool ⟨H3, I3, q3⟩
def TruV (K : PySem.W.Frag) (x : V) (H : Hp) (k : Bool) : Prop :=
 match x with
 | .non => k = false
 | .bl b => k = b
 | .int i => k = (i != 0)
 | .str y => y.length <= sizeLine /\ k = ((y.length : Int) != 0)
 | .byt y => y.size <= sizeLine /\ k = ((y.size : Int) != 0)
 | .ref p => (∃ xs, SqL K H p xs /\ k = !xs.isEmpty) \/ (∃ xs, SqT K H p xs /\ k = !xs.isEmpty) \/ ∃ kvs, H p = some (.dK kvs) /\ k = !kvs.isEmpty
 | _ => False
theorem isEmpty_kv {κ : Type} {kvs : List (κ × V)} {vs : List (κ × Value)} (r : KV kvs vs) : (!vs.isEmpty) = !kvs.isEmpty := by
 cases r <;> rfl
theorem isEmpty_of {xs : List V} {its : List Value} (r : Vals xs its) : (!its.toArray.isEmpty) = !xs.isEmpty := by
 cases r <;> simp
theorem line63 : (sizeLine : Nat) < 2 ^ 63 := by rw [sizeLine_eq]; decide
theorem tru_ok : TruR X (fun x H Q => ∃ k, TruV X.K x H k /\ Q k H) := by
  intro pins s σ H x v Q I rx h
  obtain ⟨k, e, q⟩ := h
  have hl := line63
  have hs : sizeLine = 16777216 := sizeLine_eq
  cases x with
  | non =>
    cases rx
    have e' : k = false := e
    subst e'
    exact truthy_none ⟨H, I, q⟩
  | bl b =>
    cases rx
    have e' : k = b := e
    subst e'
    exact wpAny_truthy_bool ⟨H, I, q⟩
  | int i =>
    obtain ⟨t, rfl⟩ := rx
    have e' : k = (i != 0) := e
    subst e'
    exact PySem.P.truthy_int ⟨H, I, q⟩
  | str y =>
    obtain ⟨t, rfl⟩ := rx
    obtain ⟨hy, e'⟩ : y.length <= sizeLine /\ k = ((y.length : Int) != 0) := e
    subst e'
    exact PySem.P.truthy_str (by omega) ⟨H, I.tok _, q⟩
  | byt y =>
    obtain ⟨t, rfl⟩ := rx
    obtain ⟨hy, e'⟩ : y.size <= sizeLine /\ k = ((y.size : Int) != 0) := e
    subst e'
    exact PySem.W.truthy_bytes (by omega) ⟨H, I.tok _, q⟩
  | ref p =>
    cases rx
    have e' : (∃ xs, SqL X.K H p xs /\ k = !xs.isEmpty) \/ (∃ xs, SqT X.K H p xs /\ k = !xs.isEmpty) \/ ∃ kvs, H p = some (.dK kvs) /\ k = !kvs.isEmpty := e
    rcases e' with ⟨xs, hx, e'⟩ | ⟨xs, hx, e'⟩ | ⟨kvs, hx, e'⟩
    · subst e'
      obtain ⟨its, r, pl, hz⟩ := I.list hx
      have hlen := r.length
      exact wpAny_truthy_list pl.isList (by simp only [zq26x]; omega) ⟨H, I.tok _, by rw [isEmpty_of r]; exact q⟩
    · subst e'
      obtain ⟨its, r, pl, hz⟩ := I.tuple hx
      have hlen := r.length
      exact truthy_tuple pl (by simp only [zq26x]; omega) ⟨H, I.tok _, by rw [isEmpty_of r]; exact q⟩
    · subst e'
      obtain ⟨hz, hS, vs, r, m⟩ : kvs.length <= sizeLine /\ (p == sysModules) = false /\ ∃ vs, KV kvs vs /\ s.heap.DictOf (mixKind X.prog X.w) p vs := I.hok p _ hx
      have hlen : kvs.length = vs.length := Paired.length r
      exact wpAny_truthy_dict hS m (by omega) ⟨H, I.tok _, by rw [isEmpty_kv r]; exact q⟩
  | _ => exact (show False from e).elim
theorem pt_truth (ha : PE X a ta) (he : ∀ whole, isTrue a X.env whole = (do let v <- whole; standAt a.pos; holding [v] (truthy v))) :
  PT X a (fun σ H Q => ta σ H fun x H' => ∃ k, TruV X.K x H' k /\ Q k H') := by
 intro pins s σ H Q I h
 exact isTrue_plain (thn (ha pins s σ H _ I h) fun v s1 ⟨x, H1, I1, r1, q1⟩ => tru_ok pins s1 σ H1 x v Q I1 r1 q1) (he _)
theorem vals1 {x : V} {us : List Value} (r : Vals [x] us) : ∃ u, us = [u] /\ RelV x u := by
 cases r with
 | cons r1 r2 => cases r2; exact ⟨_, rfl, r1⟩
theorem call_abs : CallR X (.builtin "abs") (fun xs H Q => ∃ i, xs = [.int i] /\ Q (.int (if i < 0 then -i else i)) H) := by
 intro pins s σ H xs us Q I r h
 obtain ⟨i, rfl, q⟩ := h
 obtain ⟨u, rfl, t, rfl⟩ := vals1 r
 exact call_abs_int fun u tk => ⟨.int (if i < 0 then -i else i), H, I.tok _, ⟨_, rfl⟩, q⟩
theorem call_int1 : CallR X (.type "int") (fun xs H Q => (∃ i, xs = [.int i] /\ Q (.int i) H) \/ ∃ k, xs = [.bl k] /\ Q (.int (if k then 1 else 0)) H) := by
 intro pins s σ H xs us Q I r h
 rcases h with ⟨i, rfl, q⟩ | ⟨k, rfl, q⟩
 ·obtain ⟨u, rfl, t, rfl⟩ := vals1 r
  exact call_int_int ⟨.int i, H, I, ⟨_, rfl⟩, q⟩
 ·obtain ⟨u, rfl, r1⟩ := vals1 r
  cases r1
  exact call_int_bool ⟨.int (if k then 1 else 0), H, I.tok _, ⟨_, rfl⟩, q⟩
end
structure ObjM (h : Heap) (x dx C : Addr) (mA : Str -> Option Value) : Prop where
 obj : h.get? x = some (PySem.W.instObj C dx)
 ns : h.Ns1 dx mA
 ne : dx ≠ x
theorem lookIn_ns {h : Heap} {dx : Addr} {mA : Str -> Option Value} (n : h.Ns1 dx mA) : ∃ od, h.get? dx = some od /\ ∀ name, PySem.W.lookIn name od = some (mA name) := by
 obtain ⟨o, es, ep, ho, hd, hk, _, hm⟩ := n
 refine ⟨o, ho, fun name => ?_⟩
 have e := hm name
 unfold nsFind findBy at e
 rw [<- Array.find?_toList] at e
 unfold PySem.W.lookIn
 rw [hd]
 dsimp only
 split
 ·rename_i y q
  rw [q] at e
  exact congrArg some e
 ·rename_i q
  rw [q] at e
  have a : es.toList.any (·.refKey) = false := by
   rw [List.any_eq_false]
   intro y hy
   obtain ⟨z, t, hkey⟩ := hk y (Array.mem_toList_iff.mp hy)
   simp [DictEntry.refKey, hkey]
  have a' : ¬ es.toList.any (·.refKey) = true := by rw [a]; exact zq13x
  rw [if_neg a']
  exact congrArg some e
theorem ObjM.look {h : Heap} {x dx C : Addr} {mA : Str -> Option Value} (I : ObjM h x dx C mA) : ∃ od, PySem.W.InstAt h x (PySem.W.instObj C dx) C (some od) /\ ∀ name, PySem.W.lookIn name od = some (mA name) :=
 let ⟨od, ho, hl⟩ := lookIn_ns I.ns
 ⟨od, ⟨I.obj, rfl, rfl, ho⟩, hl⟩
section
variable {prog : Program} {w : World} {A : Around} {E : Value -> Shared -> Prop} {s : Shared} {K : PySem.W.Frag} {x dx C f : Addr} {mA : Str -> Option Value} {name : Str} {v : Value}
theorem get_map {expr : Bool} {Q : Value -> Shared -> Prop} (X : K.In s.heap) (I : ObjM s.heap x dx C mA) (hg : PySem.W.plainGet K C name = true) (hh : PySem.W.hasDictIn K C = true)
  (ha : PySem.W.findIn K (.ref C) name = some none) (hv : mA name = some v) (hv' : PySem.W.handedIn v = true) (h : Q v { s with toks := s.toks + 1 }) :
  wpAny (model prog w) A (getAttr (.ref x) name expr) Q E s := by
 obtain ⟨od, J, hl⟩ := I.look
 exact PySem.W.get_value X J (zq154x hg).1 (PySem.W.findObj_own hh ha rfl (by rw [hl, hv])) hv' h
theorem get_meth {pl : Sem Bool} {Q : Value × List Value -> Shared -> Prop} (X : K.In s.heap) (I : ObjM s.heap x dx C mA) (hg : PySem.W.plainGet K C name = true)
  (hf : PySem.W.findIn K (.ref C) name = some (some (.ref f))) (ht : PySem.W.isFn K (.ref f) = true) (hv : mA name = none) (h : Q (.ref f, [.ref x]) s) :
  wpAny (model prog w) A (getMethod (.ref x) name pl) Q E s := by
 obtain ⟨od, J, hl⟩ := I.look
 exact PySem.W.method_fn X J (zq154x hg).1 (zq154x hg).2 hf (beq_iff_eq.mp ht) (by show (PySem.W.lookIn name od).map (·.isSome) = some false; rw [hl, hv]; rfl) h
theorem set_map {ns : List Str} {Q : Unit -> Shared -> Prop} (X : K.In s.heap) (I : ObjM s.heap x dx C mA)
  (hs : PySem.W.findIn K (.ref C) "__setattr__" = some (some (.builtin "object.__setattr__"))) (hp : PySem.W.plainOver K C = true) (ht : PySem.W.takerIn K C name = some none) (hh : PySem.W.hasDictIn K C = true)
  (hw : PySem.Within mA ns) (hsz : ns.length <= sizeLine)
  (h : ∀ h', ObjM h' x dx C (fun y => if y = name then some v else mA y) -> Heap.SameBut dx s.heap h' -> Q () { s with heap := h', toks := s.toks + 2 }) :
  wpAny (model prog w) A (setAttr (.ref x) name v) Q E s := by
 obtain ⟨od, J, hl⟩ := I.look
 refine PySem.W.set_plain X J hs (PySem.W.osa_open (s := { s with toks := s.toks + 1 }) (r := none) X J hp ht fun b => ?_)
 obtain ⟨cd, hc, hd'⟩ := PySem.W.any_some hh
 have hx : s.heap.get? x = some ⟨.ref C, some dx, .plain, #[]⟩ := I.obj
 refine wpAny_bind (wpAny_pure (wpAny_bind (wpAny_bind (wpAny_loadPart hx (wpAny_bind (PySem.W.Looks.here (s := { s with toks := s.toks + 1 }) (PySem.W.looks_clsIn X hc) ?_))))))
 rw [hd']
 refine wpAny_pure (a := some dx) (wpAny_bind (wpAny_pure (wpAny_bind ?_)))
 refine wpAny_nsSet1 (s := { s with toks := s.toks + 1 }) I.ns fun h' hn2 hs2 => ?_
 obtain ⟨oD, esD, epD, hoD, hdD, hcD⟩ := hn2.count (PySem.Within.cons name v hw)
 refine wpAny_bind (wpAny_lookBehind hoD (by rw [hdD]; exact pastItsLine_dict (zq28x hcD (by rw [zq39x]; omega))) ?_)
 exact wpAny_pure (h _ ⟨(hs2.2 _ (zq14x I.ne)).trans I.obj, hn2, I.ne⟩ hs2)
theorem make_map {R : Result -> Shared -> Prop} {vs : List Value} {kw : List (Str × Value)} (X : K.In s.heap) (hm : PySem.W.makesIn K C = true)
  (hi : PySem.W.findIn K (.ref C) "__init__" = some (some (.ref f))) (hf : PySem.W.typeIn K (.ref f) = some (.type "function"))
  (h : codeAny (model prog w) (A.under (.builtin "type.__call__" ⟨.ref C :: vs, kw⟩)) (.call (.ref f) ⟨.ref (s.heap.objs.size + 1) :: vs, kw⟩) (PySem.W.InitBack (s.heap.objs.size + 1) R)
   { s with heap := (s.heap.push PySem.W.emptyDict).push (PySem.W.instObj C s.heap.objs.size) }) :
  codeAny (model prog w) A (.call (.ref C) ⟨vs, kw⟩) R s := by
 obtain ⟨hh, g, d, t, os⟩ := s
 exact PySem.W.make_core (PySem.W.makes_of X hm) (PySem.W.looks_findIn X hi) (fun self => PySem.W.bind_fn X self hf) (.inl rfl) h
end
def putF (f : Str) (v : V) : List (Str × V) -> List (Str × V)
 | [] => [(f, v)]
 | (g, x) :: r => if g = f then (g, v) :: r else (g, x) :: putF f v r
theorem lookup_putF (f g : Str) (v : V) : ∀ fs : List (Str × V), (putF f v fs).lookup g = if g = f then some v else fs.lookup g
  | [] => by
    show List.lookup g [(f, v)] = _
    by_cases h : g = f
    · have hb : (g == f) = true := beq_iff_eq.mpr h
      simp only [List.lookup, hb, if_pos h]
    · have hb : (g == f) = false := beq_eq_false_iff_ne.mpr h
      simp only [List.lookup, hb, if_neg h]
  | (k, x) :: r => by
    have ih := lookup_putF f g v r
    rw [show putF f v ((k, x) :: r) = (if k = f then (k, v) :: r else (k, x) :: putF f v r) from rfl]
    by_cases hk : k = f
    · rw [if_pos hk]
      by_cases h : g = k
      · have hb : (g == k) = true := beq_iff_eq.mpr h
        simp only [List.lookup, hb, if_pos (h.trans hk)]
      · have hb : (g == k) = false := beq_eq_false_iff_ne.mpr h
        simp only [List.lookup, hb, if_neg (fun e : g = f => h (e.trans hk.symm))]
    · rw [if_neg hk]
      by_cases h : g = k
      · have hb : (g == k) = true := beq_iff_eq.mpr h
        simp only [List.lookup, hb, if_neg (fun e : g = f => hk (h.symm.trans e))]
      · have hb : (g == k) = false := beq_eq_false_iff_ne.mpr h
        simp only [List.lookup, hb]
        exact ih
theorem keys_putF (f : Str) (v : V) : ∀ fs : List (Str × V), f ∈ (putF f v fs).map (·.1) /\ ∀ g, g ∈ fs.map (·.1) -> g ∈ (putF f v fs).map (·.1)
  | [] => ⟨by simp [putF], fun g h => by simp at h⟩
  | (k, x) :: r => by
    obtain ⟨i1, i2⟩ := keys_putF f v r
    rw [show putF f v ((k, x) :: r) = (if k = f then (k, v) :: r else (k, x) :: putF f v r) from rfl]
    by_cases hk : k = f
    · rw [if_pos hk]
      subst hk
      exact ⟨by simp, fun g h => by simpa using h⟩
    · rw [if_neg hk]
      refine ⟨?_, fun g h => ?_⟩
      · rw [zq4x]
        exact zq23x _ i1
      · rw [zq4x] at h ⊢
        rcases zq2x.mp h with e | e
        · exact zq2x.mpr (.inl e)
        · exact zq23x _ (i2 g e)
theorem length_putF (f : Str) (v : V) : ∀ fs : List (Str × V), (putF f v fs).length <= fs.length + 1
  | [] => by simp [putF]
  | (k, x) :: r => by
    have ih := length_putF f v r
    rw [show putF f v ((k, x) :: r) = (if k = f then (k, v) :: r else (k, x) :: putF f v r) from rfl]
    by_cases hk : k = f
    · rw [if_pos hk, zq39x, zq39x]; omega
    · rw [if_neg hk, zq39x, zq39x]; omega
theorem RelO.some_of {v : V} {o : Option Value} (r : RelO (some v) o) : ∃ u, o = some u /\ RelV v u := by
 cases o with
 | none => exact (show False from r).elim
 | some u => exact ⟨u, rfl, r⟩
theorem RelO.none_of {o : Option Value} (r : RelO none o) : o = none := by
 cases o with
 | none => rfl
 | some u => exact (show False from r).elim
theorem handed_of {v : V} {u : Value} (r : RelV v u) : PySem.W.handedIn u = true := by
 cases v with
 | non => cases (show u = Value.none from r); rfl
 | bl b => cases (show u = Value.bool b from r); rfl
 | int i => obtain ⟨t, e⟩ := (show ∃ t, u = Value.int i t from r); cases e; rfl
 | str x => obtain ⟨t, e⟩ := (show ∃ t, u = Value.str x t from r); cases e; rfl
 | byt b => obtain ⟨t, e⟩ := (show ∃ t, u = Value.bytes b t from r); cases e; rfl
 | flt b => obtain ⟨t, e⟩ := (show ∃ t, u = Value.float b t from r); cases e; rfl
 | ref a => cases (show u = Value.ref a from r); rfl
 | ty n => cases (show u = Value.type n from r); rfl
section
variable {P : Program} {w : World} {H H' : Hp} {h h' : Heap} {a C dx : Addr} {fs fs' : List (Str × V)}
theorem ins_get (hok : HOk P w H h) (e : H a = some (.ins C dx fs)) : ∃ mA, ObjM h a dx C mA /\ (∀ f, RelO (fs.lookup f) (mA f)) /\ PySem.Within mA (fs.map (·.1)) /\ fs.length <= 1000 /\ H dx = some (.own a) := by
 obtain ⟨d, z, ne, ob, mA, n, r, q⟩ := (show ObjOk P w H h a (.ins C dx fs) from hok a _ e)
 exact ⟨mA, ⟨ob, n, ne⟩, r, q, z, d⟩
end
structure Cls (K : PySem.W.Frag) (C : Addr) : Prop where
 pg : PySem.W.plainGet K C Str.empty = true
 hd : PySem.W.hasDictIn K C = true
 po : PySem.W.plainOver K C = true
 sa : PySem.W.findIn K (.ref C) "__setattr__" = some (some (.builtin "object.__setattr__"))
theorem Cls.get {K : PySem.W.Frag} {C : Addr} (c : Cls K C) (f : Str) : PySem.W.plainGet K C f = true := c.pg
def NoAttr (K : PySem.W.Frag) (C : Addr) (f : Str) : Prop := PySem.W.findIn K (.ref C) f = some none
theorem NoAttr.taker {K : PySem.W.Frag} {C : Addr} {f : Str} (n : NoAttr K C f) : PySem.W.takerIn K C f = some none := by
 unfold PySem.W.takerIn
 rw [show PySem.W.findIn K (.ref C) f = some none from n]
 rfl
structure Meth (K : PySem.W.Frag) (C : Addr) (m : Str) (f : Addr) : Prop where
 at_ : PySem.W.findIn K (.ref C) m = some (some (.ref f))
 fn : PySem.W.isFn K (.ref f) = true
 kp : PySem.W.keepIn K (.ref f) = true
section
variable {X : Cx} {pins : List (Addr × Obj)} {σ : St} {H : Hp} {s : Shared} {a C dx : Addr} {fs : List (Str × V)} {f : Str} {v : V} {A : Around} {E : Value -> Shared -> Prop}
theorem getattr_ok {b : Bool} {Q : Value -> Shared -> Prop} (I : Inv X pins σ H s) (e : H a = some (.ins C dx fs)) (c : Cls X.K C) (n : NoAttr X.K C f) (l : fs.lookup f = some v)
  (h : ∀ u s', Inv X pins σ H s' -> RelV v u -> Q u s') : wpAny (model X.prog X.w) A (getAttr (.ref a) f b) Q E s := by
 obtain ⟨mA, O, r, _, _, _⟩ := ins_get I.hok e
 obtain ⟨u, hu, ru⟩ := RelO.some_of (v := v) (o := mA f) (by rw [<- l]; exact r f)
 exact get_map I.kIn O (c.get f) c.hd n hu (handed_of ru) (h u _ (I.tok _) ru)
theorem getmeth_ok {m : Str} {g : Addr} {pl : Sem Bool} {Q : Value × List Value -> Shared -> Prop} (I : Inv X pins σ H s) (e : H a = some (.ins C dx fs)) (c : Cls X.K C) (k : Meth X.K C m g) (l : fs.lookup m = none)
  (h : Q (.ref g, [.ref a]) s) : wpAny (model X.prog X.w) A (getMethod (.ref a) m pl) Q E s := by
 obtain ⟨mA, O, r, _, _, _⟩ := ins_get I.hok e
 have hn : mA m = none := RelO.none_of (by rw [<- l]; exact r m)
 exact get_meth I.kIn O (c.get m) k.at_ k.fn hn h
theorem setattr_ok {y : V} {u : Value} {Q : Unit -> Shared -> Prop} (I : Inv X pins σ H s) (e : H a = some (.ins C dx fs)) (c : Cls X.K C) (n : NoAttr X.K C f) (hl : fs.length < 1000) (ry : RelV y u)
  (h : ∀ s', Inv X pins σ (upd H a (.ins C dx (putF f y fs))) s' -> Q () s') : wpAny (model X.prog X.w) A (setAttr (.ref a) f u) Q E s := by
 obtain ⟨mA, O, r, wi, _, ho⟩ := ins_get I.hok e
 have hz : (fs.map (·.1)).length <= sizeLine := by rw [zq0x, sizeLine_eq]; omega
 refine set_map I.kIn O c.sa c.po n.taker c.hd wi hz fun h' O' sb => h _ ?_
 have hd : ∃ o, h'.get? dx = some o := let ⟨o, _, _, e', _⟩ := O'.ns; ⟨o, e'⟩
 refine I.write (x := a) (e := dx) (by rw [e]; exact True.intro) (.inr ho) (fun b q hb z => (sb.2 b hb).trans z) hd ?_
 refine ⟨by rw [upd_ne O.ne]; exact ho, ?_, O.ne, O'.obj, _, O'.ns, fun g => ?_, fun g hg => ?_⟩
 ·have := length_putF f y fs; omega
 ·show RelO ((putF f y fs).lookup g) (if g = f then some u else mA g)
  rw [lookup_putF]
  by_cases q : g = f
  ·rw [if_pos q, if_pos q]; exact ry
  ·rw [if_neg q, if_neg q]; exact r g
 ·by_cases q : g = f
  ·rw [q]; exact (keys_putF f y fs).1
  ·refine (keys_putF f y fs).2 g (wi g fun z => hg ?_)
   show (if g = f then some u else mA g) = none
   rw [if_neg q]; exact z
theorem Inv.made (I : Inv X pins σ H s) : Inv X pins σ (upd (upd H s.heap.objs.size (.own (s.heap.objs.size + 1))) (s.heap.objs.size + 1) (.ins C s.heap.objs.size []))
  { s with heap := (s.heap.push PySem.W.emptyDict).push (PySem.W.instObj C s.heap.objs.size) } := by
 have e1 : (s.heap.push PySem.W.emptyDict).get? s.heap.objs.size = some PySem.W.emptyDict := zq42x s.heap rfl
 have e2 : ((s.heap.push PySem.W.emptyDict).push (PySem.W.instObj C s.heap.objs.size)).get? (s.heap.objs.size + 1) = some (PySem.W.instObj C s.heap.objs.size) := by
  have := zq42x (s.heap.push PySem.W.emptyDict) (o := PySem.W.instObj C s.heap.objs.size) rfl
  rwa [zq86x] at this
 have e3 : (s.heap.push PySem.W.emptyDict).Ns s.heap.objs.size (fun _ => none) := ⟨PySem.W.emptyDict, #[], _, e1, rfl, (fun e he => absurd he (by simp)), fun _ => rfl⟩
 have I1 := I.laid (a := s.heap.objs.size) (o := .own (s.heap.objs.size + 1)) (h' := s.heap.push PySem.W.emptyDict) (t' := s.toks) (fun b u q => zq33x _ q) (zq5x _) ⟨_, e1⟩
 refine I1.laid (a := s.heap.objs.size + 1) (o := .ins C s.heap.objs.size []) (t' := s.toks) (fun b u q => zq33x _ q) (Nat.le_of_eq (zq86x _ _)) ?_
 have ne : s.heap.objs.size ≠ s.heap.objs.size + 1 := zq32x (zq155x _)
 refine ⟨by rw [upd_ne ne, upd_same], zq37x _, ne, e2, fun _ => none, (Heap.Ns1.of_empty e3).at fun o q => zq33x _ q, fun _ => True.intro, fun y hy => absurd rfl hy⟩
theorem attr_of {prog : Program} {w : World} {env : Env} {e : Expr} {f : Str} {pos : Pos} {s : Shared} {Q : Value -> Shared -> Prop} (hb : attributeBase e f env (eval e env) = eval e env)
  (h : wpAny (model prog w) A (eval e env) (fun o s₁ => wpAny (model prog w) A (getAttr o f true) Q E s₁) E s) : wpAny (model prog w) A (eval (.Attribute e f pos) env) Q E s :=
 Attribute_any_ h (by rw [arm_eval_Attribute, hb])
end
def tFld (K : PySem.W.Frag) (ta : TE) (f : Str) : TE := fun σ H Q => ta σ H fun x H1 => ∃ a C dx fs v, x = .ref a /\ H1 a = some (.ins C dx fs) /\ Cls K C /\ NoAttr K C f /\ fs.lookup f = some v /\ Q v H1
def sFld (K : PySem.W.Frag) (ta tv : TE) (f : Str) : TS := fun D σ H => tv σ H fun y H1 => ta σ H1 fun x H2 => ∃ a C dx fs, x = .ref a /\ H2 a = some (.ins C dx fs) /\ Cls K C /\ NoAttr K C f /\ fs.length < 1000 /\
 D.nx σ (upd H2 a (.ins C dx (putF f y fs)))
section
variable {X : Cx} {o e value : Expr} {f : Str} {pos pos' tpos : Pos} {ta tv : TE}
theorem pe_fld (he : PE X e ta) (hb : attributeBase e f X.env (eval e X.env) = eval e X.env) : PE X (.Attribute e f pos) (tFld X.K ta f) := by
 intro pins s σ H Q I h
 refine attr_of hb (thn (he pins s σ H _ I h) fun u s1 ⟨x, H1, I1, rx, a, C, dx, fs, v, ex, ea, c, n, l, q⟩ => ?_)
 subst ex
 obtain rfl : u = Value.ref a := rx
 exact getattr_ok I1 ea c n l fun u' s2 I2 ru => ⟨v, H1, I2, ru, q⟩
theorem ps_fld (ha : PE X o ta) (hv : PE X value tv) (hs : swapsWith value (some (.Attribute o f pos')) pos.line X.env = pure false) : PS X (.Assign [.Attribute o f pos'] value pos) (sFld X.K ta tv f) := by
 intro pins s σ H D I h
 refine plainObj_wpAny_Assign_Attribute (thn (hv pins s σ H _ I h) fun u s1 ⟨y, H1, I1, ry, q⟩ => thn (ha pins s1 σ H1 _ I1 q) fun ov s2 ⟨x, H2, I2, rx, a, C, dx, fs, ex, ea, c, n, l, q2⟩ => ?_) hs
 subst ex
 obtain rfl : ov = Value.ref a := rx
 exact setattr_ok I2 ea c n l ry fun s3 I3 => ⟨σ, _, I3, q2⟩
theorem methcall_of {pl : Sem Bool} {m : Str} {apos : Pos} {args : List Expr} {pins : List (Addr × Obj)} {s : Shared} {σ : St} {H : Hp} {Q : Value -> Shared -> Prop} {te : TE} (he : PE X e te) (I : Inv X pins σ H s)
  (h : te σ H fun x H1 => ∃ a C dx fs g, x = .ref a /\ H1 a = some (.ins C dx fs) /\ Cls X.K C /\ Meth X.K C m g /\ fs.lookup m = none /\
   ∀ s1, Inv X pins σ H1 s1 -> wpAny (model X.prog X.w) X.A (callWith pos (.ref g) [.ref a] (backTo pos (starEach args X.env)) (backToKw pos (keywordEach [] X.env))) Q X.xe s1)
  (ht : eval (.Call (.Attribute e m apos) args [] pos) X.env = (do
   let ov <- eval e X.env
   standAt apos.atName
   let (f, first) <- holding [ov] (getMethod ov m pl)
   callWith pos f first (backTo pos (starEach args X.env)) (backToKw pos (keywordEach [] X.env)))) :
  wpAny (model X.prog X.w) X.A (eval (.Call (.Attribute e m apos) args [] pos) X.env) Q X.xe s := by
 refine zq156x (pl := pl) (thn (he pins s σ H _ I h) fun u s1 ⟨x, H1, I1, rx, a, C, dx, fs, g, ex, ea, c, k, l, q⟩ => ?_) ht
 subst ex
 obtain rfl : u = Value.ref a := rx
 exact getmeth_ok I1 ea c k l (q s1 I1)
end
section
variable {X : Cx} {pins : List (Addr × Obj)} {σ : St} {H : Hp} {s : Shared} {A : Around} {E : Value -> Shared -> Prop} {Q : Value -> Shared -> Prop} {c : Value} {b : Bool}
inductive TyOf (K : PySem.W.Frag) (H : Hp) : V -> Value -> Prop where
 | non : TyOf K H .non (.type "NoneType")
 | bl (x : Bool) : TyOf K H (.bl x) (.type "bool")
 | int (i : Int) : TyOf K H (.int i) (.type "int")
 | str (x : Str) : TyOf K H (.str x) (.type "str")
 | flt (x : UInt64) : TyOf K H (.flt x) (.type "float")
 | lst {a : Addr} {xs : List V} (e : H a = some (.lst xs)) : TyOf K H (.ref a) (.type "list")
 | frz {a : Addr} {o : Obj} {xs : List V} (e : H a = some (.frz o (.lst xs))) : TyOf K H (.ref a) (.type "list")
 | tup {a : Addr} {xs : List V} (e : H a = some (.tup xs)) : TyOf K H (.ref a) (.type "tuple")
 | dK {a : Addr} {kvs : List (Key × V)} (e : H a = some (.dK kvs)) : TyOf K H (.ref a) (.type "dict")
 | dT {a : Addr} {kvs : List (List Key × V)} (e : H a = some (.dT kvs)) : TyOf K H (.ref a) (.type "dict")
 | fzd {a : Addr} {o : Obj} {kvs : List (Key × V)} (e : H a = some (.frz o (.dK kvs))) : TyOf K H (.ref a) (.type "dict")
 | ins {a C dx : Addr} {fs : List (Str × V)} (e : H a = some (.ins C dx fs)) (cl : Cls K C) (ha : PySem.W.findIn K (.ref C) "__class__" = some (some (.builtin "object.__class__")))
   (hn : PySem.W.specialIn K (.builtin "object.__class__") "__get__" = some (some (.builtin "getset_descriptor.__get__"))) (htk : PySem.W.takesIn K (.builtin "object.__class__") = some true)
   (hm : PySem.W.mroIn K C (.type "object") = some true) : TyOf K H (.ref a) (.ref C)
theorem isinst_ok {x : V} {u t : Value} (I : Inv X pins σ H s) (rx : RelV x u) (ty : TyOf X.K H x t) (e : PySem.W.kitOne X.K t c = some b) (h : ∀ tk, Q (.bool b) { s with toks := tk }) :
    wpAny (model X.prog X.w) A (call (.builtin "isinstance") [u, c]) Q E s := by
  cases ty with
  | non => cases (show u = Value.none from rx); exact zq54x PySem.W.kitx_none I.kIn True.intro e (fun z => nomatch z) h
  | bl y => cases (show u = Value.bool y from rx); exact zq54x PySem.W.kitx_bool I.kIn True.intro e (fun z => nomatch z) h
  | int i => obtain ⟨t, q⟩ := (show ∃ t, u = Value.int i t from rx); cases q; exact zq54x PySem.W.kitx_int I.kIn True.intro e (fun z => nomatch z) h
  | str y => obtain ⟨t, q⟩ := (show ∃ t, u = Value.str y t from rx); cases q; exact zq54x PySem.W.kitx_str I.kIn True.intro e (fun z => nomatch z) h
  | flt y => obtain ⟨t, q⟩ := (show ∃ t, u = Value.float y t from rx); cases q; exact zq54x PySem.W.kitx_float I.kIn True.intro e (fun z => nomatch z) h
  | @lst a xs ea =>
    cases (show u = Value.ref a from rx)
    obtain ⟨_, _, n, _, h1⟩ := (show ObjOk X.prog X.w H s.heap a (.lst xs) from I.hok a _ ea)
    exact zq54x zq157x I.kIn ⟨_, h1, rfl⟩ e (fun z => nomatch z) h
  | @frz a ob xs ea =>
    cases (show u = Value.ref a from rx)
    obtain ⟨_, _, _, n, _, h1⟩ := (show ObjOk X.prog X.w H s.heap a (.frz ob (.lst xs)) from I.hok a _ ea)
    exact zq54x zq157x I.kIn ⟨_, h1, rfl⟩ e (fun z => nomatch z) h
  | @tup a xs ea =>
    cases (show u = Value.ref a from rx)
    obtain ⟨_, _, _, p⟩ := (show ObjOk X.prog X.w H s.heap a (.tup xs) from I.hok a _ ea)
    obtain ⟨o, h1, h2, _⟩ := p
    exact zq54x PySem.W.kitx_tuple I.kIn ⟨o, h1, h2⟩ e (fun z => nomatch z) h
  | @dK a kvs ea =>
    cases (show u = Value.ref a from rx)
    obtain ⟨_, _, vs, _, p⟩ := (show ObjOk X.prog X.w H s.heap a (.dK kvs) from I.hok a _ ea)
    obtain ⟨o, es, ep, h1, h2, _⟩ := p
    exact zq54x zq125x I.kIn ⟨o, h1, h2.1⟩ e (fun z => nomatch z) h
  | @dT a kvs ea =>
    cases (show u = Value.ref a from rx)
    obtain ⟨_, _, xs, _, o, es, ep, h1, h2, _⟩ := (show ObjOk X.prog X.w H s.heap a (.dT kvs) from I.hok a _ ea)
    exact zq54x zq125x I.kIn ⟨o, h1, h2.1⟩ e (fun z => nomatch z) h
  | @fzd a ob kvs ea =>
    cases (show u = Value.ref a from rx)
    obtain ⟨_, _, _, vs, _, o, es, ep, h1, h2, _⟩ := I.hok a _ ea
    exact zq54x zq125x I.kIn ⟨o, h1, h2.1⟩ e (fun z => nomatch z) h
  | @ins a C dx fs ea cl ha hn htk hm =>
    cases (show u = Value.ref a from rx)
    obtain ⟨mA, O, _⟩ := ins_get I.hok ea
    obtain ⟨od, J, _⟩ := O.look
    exact zq54x (PySem.W.kitx_own (cl.get _) cl.hd ha hn htk hm) I.kIn J e (fun z => nomatch z) h
end
structure Room (k : Nat) (A : Around) : Prop where
 hd : A.handled = none
 dp : A.depth + 3 * k + 5 < recursionLimit
 un : A.units + 16 * k + 200 < cLine
theorem Room.mono {j k : Nat} {A : Around} (r : Room k A) (h : j <= k) : Room j A := ⟨r.hd, by have := r.dp; omega, by have := r.un; omega⟩
theorem Room.deeper {k : Nat} {A : Around} (r : Room (k + 1) A) (env : Env) : Room k (A.deeper env) :=
 ⟨r.hd, by have := r.dp; show A.depth + 1 + 3 * k + 5 < _; omega, by have := r.un; show A.units + 3 + 16 * k + 200 < _; omega⟩
theorem make_depth {A : Around} {C : Addr} {us : List Value} {kw : List (Str × Value)} : (A.under (.builtin "type.__call__" ⟨.ref C :: us, kw⟩)).depth = A.depth + 1 := by
 first | rfl | simp [Around.under, Code.weight, Code.isCreation, Code.isGuard, Code.isCaller, Code.frames, Code.isFrame, guardIds]
theorem make_units {A : Around} {C : Addr} {us : List Value} {kw : List (Str × Value)} : (A.under (.builtin "type.__call__" ⟨.ref C :: us, kw⟩)).units = A.units + 1 := by
 first | rfl | simp [Around.under, Code.cUnits, Code.frames, Code.isFrame]
theorem Room.make {k : Nat} {A : Around} (r : Room (k + 1) A) (C : Addr) (us : List Value) (kw : List (Str × Value)) : Room k (A.under (.builtin "type.__call__" ⟨.ref C :: us, kw⟩)) :=
 ⟨r.hd, by have := r.dp; rw [make_depth]; omega, by have := r.un; rw [make_units]; omega⟩
theorem Room.depth {k : Nat} {A : Around} (r : Room k A) : A.depth < recursionLimit := by have := r.dp; omega
theorem Room.units {k : Nat} {A : Around} (r : Room k A) : A.units + 64 < cLine := by have := r.un; omega
def tNil : TA := fun _ H Q => Q [] H
def tCons (ta : TE) (tr : TA) : TA := fun σ H Q => ta σ H fun x H1 => tr σ H1 fun xs H2 => Q (x :: xs) H2
section
variable {X : Cx} {e : Expr} {es : List Expr} {te : TE} {t : TA} {pos : Pos}
theorem pa_nil : PA X [] tNil := fun _ _ _ _ H Q I h => Calls.spliced_nil ⟨[], H, I, .nil, h⟩
theorem pa_cons (ha : PE X e te) (hr : PA X es t) (hs : starEach (e :: es) X.env = (false, eval e X.env) :: starEach es X.env := by rfl) : PA X (e :: es) (tCons te t) := by
 intro pos pins s σ H Q I h
 rw [hs]
 show wpAny _ _ (spliced ((false, eval e X.env) :: backTo pos (starEach es X.env))) _ _ s
 refine Calls.spliced_cons (thn (ha pins s σ H _ I h) fun u s1 ⟨x, H1, I1, r1, q1⟩ => ?_)
 exact thn (hr pos pins s1 σ H1 _ I1 q1) fun us s2 ⟨xs, H2, I2, r2, q2⟩ => ⟨x :: xs, H2, I2, .cons r1 r2, q2⟩
def tTup (t : TA) : TE := fun σ H Q => t σ H fun xs H1 => xs.length <= sizeLine /\ ∀ p, H1 p = none -> Q (.ref p) (upd H1 p (.tup xs))
def tLst (t : TA) : TE := fun σ H Q => t σ H fun xs H1 => xs.length <= sizeLine /\ ∀ p, H1 p = none -> Q (.ref p) (upd H1 p (.lst xs))
theorem pe_tup {x1} (h : PA X es t) : PE X (.Tuple es x1 pos) (tTup t) := by
 intro pins s σ H Q I hq
 refine wpAny_Tuple_spliced (thn (h pos pins s σ H _ I hq) fun us s1 ⟨xs, H1, I1, r, z, q⟩ => ⟨by rw [<- r.length]; exact z, ?_⟩)
 have hf : H1 s1.heap.objs.size = none := I1.hok.fresh (zq5x _)
 refine ⟨.ref s1.heap.objs.size, upd H1 s1.heap.objs.size (.tup xs), I1.laid (t' := s1.toks) (fun b u e => zq33x _ e) (zq5x _) ?_, rfl, q _ hf⟩
 exact ⟨z, us, r, ⟨_, zq42x _ rfl, rfl, _, rfl⟩⟩
theorem pe_lst (h : PA X es t) : PE X (.List es pos) (tLst t) := by
 intro pins s σ H Q I hq
 refine wpAny_List_spliced (thn (h pos pins s σ H _ I hq) fun us s1 ⟨xs, H1, I1, r, z, q⟩ => ⟨by rw [<- r.length]; exact z, ?_⟩)
 have hf : H1 s1.heap.objs.size = none := I1.hok.fresh (zq5x _)
 refine ⟨.ref s1.heap.objs.size, upd H1 s1.heap.objs.size (.lst xs), I1.laid (t' := s1.toks) (fun b u e => zq33x _ e) (zq5x _) ?_, rfl, q _ hf⟩
 exact ⟨z, us, 0, r, zq42x _ rfl⟩
end
abbrev Sp := List V -> Hp -> VK -> XK -> Prop
abbrev CXT := List Env -> Hp -> Shared -> XK -> Value -> Shared -> Prop
structure Env0 (P : Program) (w : World) (K : PySem.W.Frag) (mg : Str -> Option Value) (base : Heap) (A : Around) (outer : List Env) (s : Shared) (H : Hp) : Prop where
 frames : A.frames = some outer
 mod : Mod K mg base
 bs : ∀ b o, base.get? b = some o -> s.heap.get? b = some o /\ H b = none
 bsz : base.objs.size <= s.heap.objs.size
 funs : s.heap.FunFrames base outer
 frf : ∀ b ∈ frs outer, H b = none
 hok : HOk P w H s.heap
 bare : AllBare s.gens
def CE (outer : List Env) (P : Program) (w : World) (H : Hp) (s : Shared) (Q : VK) (u : Value) (s' : Shared) : Prop :=
 ∃ v H', s'.os = s.os /\ AllBare s'.gens /\ Un (frs outer) [] H H' s.heap s'.heap /\ HOk P w H' s'.heap /\ RelV v u /\ Q v H'
def CR (CX : CXT) (outer : List Env) (P : Program) (w : World) (H : Hp) (s : Shared) (Q : VK) (E : XK) (r : Result) (s' : Shared) : Prop :=
 match r with
 | .ok (.ret u) => CE outer P w H s Q u s'
 | .ok _ => False
 | .error e => CX outer H s E e s'
structure FnOk (P : Program) (w : World) (K : PySem.W.Frag) (mg : Str -> Option Value) (base : Heap) (CX : CXT) (k : Nat) (f : Addr) (fd : FuncData) (ps : List Str) (sp : Sp) : Prop where
 len : ∀ vs H Q E, sp vs H Q E -> vs.length = ps.length
 run : ∀ (A : Around) (outer : List Env) (s : Shared) (H : Hp) (args : Args) (us : List Value) (vs : List V) (Q : VK) (E : XK), Room k A -> Env0 P w K mg base A outer s H -> BindsTo s fd args (ps.zip us) -> Vals vs us -> sp vs H Q E ->
  codeAny (model P w) A (.call (.ref f) args) (CR CX outer P w H s Q E) s
theorem Env0.make {P : Program} {w : World} {K : PySem.W.Frag} {mg : Str -> Option Value} {base : Heap} {A : Around} {outer : List Env} {s : Shared} {H : Hp} (e : Env0 P w K mg base A outer s H) (C : Addr) (us : List Value) (kw : List (Str × Value)) :
  Env0 P w K mg base (A.under (.builtin "type.__call__" ⟨.ref C :: us, kw⟩)) outer s H := ⟨by first | exact e.frames | (simpa [Around.under, Code.envs, Code.isFrame, pushEnvs] using e.frames), e.mod, e.bs, e.bsz, e.funs, e.frf, e.hok, e.bare⟩
section
variable {X : Cx} {pins : List (Addr × Obj)} {σ : St} {H : Hp} {s s' : Shared}
theorem Inv.env0 (I : Inv X pins σ H s) : Env0 X.prog X.w X.K X.mg X.base X.A X.stack s H :=
 ⟨I.ok.frames, I.ok.mod, I.bs, zq28x I.ok.bsz I.sz, I.stack, I.stkFree, I.hok, I.bare⟩
theorem Inv.after {Q : VK} {u : Value} (I : Inv X pins σ H s) (h : CE X.stack X.prog X.w H s Q u s') : EP X pins σ Q u s' := by
 obtain ⟨v, H', os, bare, un, hok, r, q⟩ := h
 obtain ⟨hh, g, d, t, os'⟩ := s'
 obtain rfl : os' = s.os := os
 exact ⟨v, H', I.call (h' := hh) (g' := g) (d' := d) (t' := t) (ch := []) un hok bare (fun b z => absurd z (by simp)), r, q⟩
end
def tCall (sp : Sp) (dvs : List V) (E : XK) (t : TA) : TE := fun σ H Q => t σ H fun vs H1 => sp (vs ++ dvs) H1 Q E
def tMeth (C : Addr) (m : Str) (sp : Sp) (dvs : List V) (E : XK) (ta : TE) (t : TA) : TE := fun σ H Q => ta σ H fun x H1 => ∃ a dx fs, x = .ref a /\ H1 a = some (.ins C dx fs) /\ fs.lookup m = none /\
 t σ H1 fun vs H2 => sp (x :: (vs ++ dvs)) H2 Q E
def tMake (C : Addr) (sp : Sp) (dvs : List V) (E : XK) (t : TA) : TE := fun σ H Q => t σ H fun vs H1 => ∀ x dx, H1 x = none -> H1 dx = none -> dx ≠ x ->
 sp (.ref x :: (vs ++ dvs)) (upd (upd H1 dx (.own x)) x (.ins C dx [])) (fun v H2 => v = .non /\ Q (.ref x) H2) E
def Binds (K : PySem.W.Frag) (fd : FuncData) (ps : List Str) (ds : List Value) : Prop :=
 ∀ (s : Shared) (us : List Value), K.In s.heap -> (us ++ ds).length = ps.length -> BindsTo s fd ⟨us, []⟩ (ps.zip (us ++ ds))
theorem Binds.all {K : PySem.W.Frag} {fd : FuncData} {ps : List Str} (h : ∀ us : List Value, us.length = ps.length -> bindArgs fd ⟨us, []⟩ = pure (ps.zip us)) : Binds K fd ps [] := fun s us _ hl => by
 rw [zq46x] at hl ⊢
 exact .of_eq (h us hl)
def Passes (CX : CXT) (X : Cx) (E : XK) : Prop := ∀ (pins : List (Addr × Obj)) (σ : St) (H : Hp) (s : Shared) (e : Value) (s' : Shared), Inv X pins σ H s -> CX X.stack H s E e s' -> X.xe e s'
section
variable {X : Cx} {CX : CXT} {k : Nat} {f C : Addr} {fd : FuncData} {ps : List Str} {sp : Sp} {dvs : List V} {ds : List Value} {E : XK} {x m : Str} {p pos apos : Pos} {e o : Expr} {es : List Expr} {ta : TE} {t : TA}
theorem run_fn {pins : List (Addr × Obj)} {σ : St} {H : Hp} {s : Shared} {Q : VK} {us : List Value} {vs : List V} (F : FnOk X.prog X.w X.K X.mg X.base CX k f fd ps sp) (hr : Room k X.A) (hb : Binds X.K fd ps ds) (hd : Vals dvs ds) (hx : Passes CX X E)
    (I : Inv X pins σ H s) (r : Vals vs us) (h : sp (vs ++ dvs) H Q E) : wpAny (model X.prog X.w) X.A (call (.ref f) us) (EP X pins σ Q) X.xe s := by
  have r2 : Vals (vs ++ dvs) (us ++ ds) := r.append hd
  have hl : (us ++ ds).length = ps.length := by rw [<- r2.length]; exact F.len _ _ _ _ h
  refine wpAny_call (codeAny_mono (F.run X.A X.stack s H ⟨us, []⟩ (us ++ ds) (vs ++ dvs) Q E hr I.env0 (hb s us I.kIn hl) r2 h) fun r s' hq => ?_)
  cases r with
  | error e => exact hx pins σ H s e s' I hq
  | ok fl =>
    cases fl with
    | ret u => exact I.after hq
    | next => exact False.elim hq
    | brk => exact False.elim hq
    | cont => exact False.elim hq
theorem pe_call (F : FnOk X.prog X.w X.K X.mg X.base CX k f fd ps sp) (hr : Room k X.A) (hg : Gl X x) (hm : X.mg x = some (.ref f)) (hk : PySem.W.keepIn X.K (.ref f) = true) (hb : Binds X.K fd ps ds) (hd : Vals dvs ds) (hx : Passes CX X E)
  (ha : PA X (e :: es) t) (hdb : (x == ("__debug__" : Str)) = false := by decide) (he : starEach (e :: es) X.env = (false, eval e X.env) :: starEach es X.env := by rfl) (hpl : (backTo pos (starEach es X.env)).any (·.1) = false := by rfl) :
  PE X (.Call (.Name x p) (e :: es) [] pos) (tCall sp dvs E t) := by
 intro pins s σ H Q I h
 refine wpAny_Call_Name_kw (ld_glob I hg hm ?_ hdb)
 refine zq158x (h₀ := X.base) I.ok.mod.kin hk (thn (ha pos pins s σ H _ I h) fun us s1 ⟨vs, H1, I1, r, q⟩ => ⟨I1.kIn, ?_⟩) he hpl
 exact run_fn F hr hb hd hx I1 r q
theorem pe_meth {pl : Sem Bool} (he : PE X o ta) (c : Cls X.K C) (hm : Meth X.K C m f) (F : FnOk X.prog X.w X.K X.mg X.base CX k f fd ps sp) (hr : Room k X.A) (hb : Binds X.K fd ps ds) (hd : Vals dvs ds) (hx : Passes CX X E) (ha : PA X (e :: es) t)
  (hst : starEach (e :: es) X.env = (false, eval e X.env) :: starEach es X.env := by rfl) (hpl : (backTo pos (starEach es X.env)).any (·.1) = false := by rfl)
  (ht : eval (.Call (.Attribute o m apos) (e :: es) [] pos) X.env = (do
   let ov <- eval o X.env
   standAt apos.atName
   let (f, first) <- holding [ov] (getMethod ov m pl)
   callWith pos f first (backTo pos (starEach (e :: es) X.env)) (backToKw pos (keywordEach [] X.env))) := by rfl) :
  PE X (.Call (.Attribute o m apos) (e :: es) [] pos) (tMeth C m sp dvs E ta t) := by
 intro pins s σ H Q I h
 refine zq156x (pl := pl) (thn (he pins s σ H _ I h) fun u s1 ⟨x, H1, I1, rx, a, dx, fs, ex, ea, l, q⟩ => ?_) ht
 subst ex
 obtain rfl : u = Value.ref a := rx
 refine getmeth_ok I1 ea c hm l ?_
 refine zq158x (first := [.ref a]) (h₀ := X.base) I.ok.mod.kin hm.kp (thn (ha pos pins s1 σ H1 _ I1 q) fun us s2 ⟨vs, H2, I2, r, q2⟩ => ⟨I2.kIn, ?_⟩) hst hpl
 exact run_fn (us := .ref a :: us) (vs := .ref a :: vs) F hr hb hd hx I2 (.cons rfl r) q2
theorem pe_meth0 {pl : Sem Bool} (he : PE X o ta) (c : Cls X.K C) (hm : Meth X.K C m f) (F : FnOk X.prog X.w X.K X.mg X.base CX k f fd ps sp) (hr : Room k X.A) (hb : Binds X.K fd ps ds) (hd : Vals dvs ds) (hx : Passes CX X E)
  (ht : eval (.Call (.Attribute o m apos) [] [] pos) X.env = (do
   let ov <- eval o X.env
   standAt apos.atName
   let (f, first) <- holding [ov] (getMethod ov m pl)
   callWith pos f first (backTo pos (starEach [] X.env)) (backToKw pos (keywordEach [] X.env))) := by rfl) :
  PE X (.Call (.Attribute o m apos) [] [] pos) (tMeth C m sp dvs E ta tNil) := by
 intro pins s σ H Q I h
 refine zq156x (pl := pl) (thn (he pins s σ H _ I h) fun u s1 ⟨x, H1, I1, rx, a, dx, fs, ex, ea, l, q⟩ => ?_) ht
 subst ex
 obtain rfl : u = Value.ref a := rx
 refine getmeth_ok I1 ea c hm l ?_
 exact PySem.W.callWith_K0 (first := [.ref a]) I1.kIn hm.kp (run_fn (us := [.ref a]) (vs := [.ref a]) F hr hb hd hx I1 (.cons rfl .nil) q)
structure Mk (K : PySem.W.Frag) (C f : Addr) : Prop where
 makes : PySem.W.makesIn K C = true
 init : PySem.W.findIn K (.ref C) "__init__" = some (some (.ref f))
 fn : PySem.W.isFn K (.ref f) = true
 kp : PySem.W.keepIn K (.ref C) = true
theorem run_make {pins : List (Addr × Obj)} {σ : St} {H : Hp} {s : Shared} {Q : VK} {us : List Value} {vs : List V} (M : Mk X.K C f) (F : FnOk X.prog X.w X.K X.mg X.base CX k f fd ps sp) (hr : Room (k + 1) X.A) (hb : Binds X.K fd ps ds) (hd : Vals dvs ds)
    (hx : Passes CX X E) (I : Inv X pins σ H s) (r : Vals vs us)
    (h : ∀ x dx, H x = none -> H dx = none -> dx ≠ x -> sp (.ref x :: (vs ++ dvs)) (upd (upd H dx (.own x)) x (.ins C dx [])) (fun v H2 => v = .non /\ Q (.ref x) H2) E) :
    wpAny (model X.prog X.w) X.A (call (.ref C) us) (EP X pins σ Q) X.xe s := by
  have hq := h (s.heap.objs.size + 1) s.heap.objs.size (I.hok.fresh (zq63x _)) (I.hok.fresh (zq5x _)) (zq32x (zq155x _))
  have I2 := Inv.made (C := C) I
  have r2 : Vals (V.ref (s.heap.objs.size + 1) :: (vs ++ dvs)) (Value.ref (s.heap.objs.size + 1) :: (us ++ ds)) := .cons rfl (r.append hd)
  have hl : (Value.ref (s.heap.objs.size + 1) :: us ++ ds).length = ps.length := by
    have e := r2.length
    rw [F.len _ _ _ _ hq] at e
    exact e.symm
  refine wpAny_call (make_map (f := f) I.kIn M.makes M.init (beq_iff_eq.mp M.fn) (codeAny_mono (F.run _ X.stack _ _ ⟨Value.ref (s.heap.objs.size + 1) :: us, []⟩ (Value.ref (s.heap.objs.size + 1) :: (us ++ ds)) _ _ E (hr.make C us [])
    (I2.env0.make C us []) (hb _ (Value.ref (s.heap.objs.size + 1) :: us) I2.kIn hl) r2 hq) fun r s' hq' => ?_))
  cases r with
  | error e => exact hx pins σ _ _ e s' I2 hq'
  | ok fl =>
    cases fl with
    | ret u =>
      obtain ⟨v, H', I3, rv, ev, q3⟩ := I2.after hq'
      subst ev
      exact ⟨rv, ⟨V.ref (s.heap.objs.size + 1), H', I3, rfl, q3⟩⟩
    | next => exact False.elim hq'
    | brk => exact False.elim hq'
    | cont => exact False.elim hq'
theorem pe_make (M : Mk X.K C f) (F : FnOk X.prog X.w X.K X.mg X.base CX k f fd ps sp) (hr : Room (k + 1) X.A) (hg : Gl X x) (hm : X.mg x = some (.ref C)) (hb : Binds X.K fd ps ds) (hd : Vals dvs ds) (hx : Passes CX X E)
  (ha : PA X (e :: es) t) (hdb : (x == ("__debug__" : Str)) = false := by decide) (he : starEach (e :: es) X.env = (false, eval e X.env) :: starEach es X.env := by rfl) (hpl : (backTo pos (starEach es X.env)).any (·.1) = false := by rfl) :
  PE X (.Call (.Name x p) (e :: es) [] pos) (tMake C sp dvs E t) := by
 intro pins s σ H Q I h
 refine wpAny_Call_Name_kw (ld_glob I hg hm ?_ hdb)
 refine zq158x (h₀ := X.base) I.ok.mod.kin M.kp (thn (ha pos pins s σ H _ I h) fun us s1 ⟨vs, H1, I1, r, q⟩ => ⟨I1.kIn, ?_⟩) he hpl
 exact run_make M F hr hb hd hx I1 r q
end
structure FnScope (N P : List Str) (sc : Scope) : Prop where
 kind : sc.kind = .function
 co : sc.isCoroutine = false
 gen : sc.isGenerator = false
 nd : N.Nodup
 pre : N.take P.length = P
 par : ∀ x ∈ P, sc.names.lookup x = some .local \/ sc.names.lookup x = some .cell
 nofree : ∀ y ∈ sc.names, y.2 ≠ .free
theorem bindL_out {kindOf : Str -> Option NameKind} {x : Str} : ∀ {binds : List (Str × Value)} {m : Str -> Option Value}, (∀ v, (x, v) ∉ binds) -> bindL kindOf binds m x = m x
  | [], _, _ => rfl
  | (n, v) :: r, m, h => by
    unfold bindL
    rw [bindL_out fun w hw => h w (zq23x _ hw)]
    split
    · have : x ≠ n := by rintro rfl; exact h v zq19x
      simp [this]
    · rfl
theorem bindC_out {kindOf : Str -> Option NameKind} {x : Str} : ∀ {binds : List (Str × Value)} {m : Str -> Option Value}, (∀ v, (x, v) ∉ binds) -> bindC kindOf binds m x = m x
  | [], _, _ => rfl
  | (n, v) :: r, m, h => by
    unfold bindC
    rw [bindC_out fun w hw => h w (zq23x _ hw)]
    split
    · rfl
    · have : x ≠ n := by rintro rfl; exact h v zq19x
      simp [this]
theorem bindL_get {kindOf : Str -> Option NameKind} {x : Str} {v : Value} : ∀ {P : List Str} {vs : List Value} {i : Nat} {m : Str -> Option Value}, P.Nodup -> P[i]? = some x -> vs[i]? = some v -> kindOf x = some .local ->
    bindL kindOf (P.zip vs) m x = some v
  | [], _, _, _, _, h, _, _ => by simp at h
  | _ :: _, [], _, _, _, _, h, _ => by simp at h
  | p :: P, w :: vs, 0, m, nd, h1, h2, hk => by
    simp at h1 h2; subst h1; subst h2
    show bindL kindOf ((p, w) :: P.zip vs) m p = _
    unfold bindL
    rw [bindL_out fun v hv => (zq59x.mp nd).1 (zq159x hv).1, if_pos hk]
    simp
  | p :: P, w :: vs, i + 1, m, nd, h1, h2, hk => by
    show bindL kindOf ((p, w) :: P.zip vs) m x = _
    unfold bindL
    exact bindL_get (i := i) (zq59x.mp nd).2 (by simpa using h1) (by simpa using h2) hk
theorem bindC_get {kindOf : Str -> Option NameKind} {x : Str} {v : Value} : ∀ {P : List Str} {vs : List Value} {i : Nat} {m : Str -> Option Value}, P.Nodup -> P[i]? = some x -> vs[i]? = some v -> kindOf x ≠ some .local ->
    bindC kindOf (P.zip vs) m x = some v
  | [], _, _, _, _, h, _, _ => by simp at h
  | _ :: _, [], _, _, _, _, h, _ => by simp at h
  | p :: P, w :: vs, 0, m, nd, h1, h2, hk => by
    simp at h1 h2; subst h1; subst h2
    show bindC kindOf ((p, w) :: P.zip vs) m p = _
    unfold bindC
    rw [bindC_out fun v hv => (zq59x.mp nd).1 (zq159x hv).1, if_neg hk]
    simp
  | p :: P, w :: vs, i + 1, m, nd, h1, h2, hk => by
    show bindC kindOf ((p, w) :: P.zip vs) m x = _
    unfold bindC
    exact bindC_get (i := i) (zq59x.mp nd).2 (by simpa using h1) (by simpa using h2) hk
def start (N : List Str) (vs : List V) : St := vs.map some ++ List.replicate (N.length - vs.length) none
def cxOf (CX : CXT) (P : Program) (w : World) (K : PySem.W.Frag) (mg : Str -> Option Value) (base : Heap) (N : List Str) (qual : Str) (scope : Scope) (f : Addr) (cd : Value) (A : Around) (outer : List Env) (s : Shared) (H : Hp) (E : XK) : Cx where
 prog := P
 w := w
 K := K
 mg := mg
 base := base
 A := A.deeper (envOfC qual scope s.heap.objs.size f cd)
 N := N
 s₀ := s
 H₀ := H
 env := envOfC qual scope s.heap.objs.size f cd
 outer := outer
 stack := envOfC qual scope s.heap.objs.size f cd :: outer
 ex := []
 calm := true
 fn := fun _ => true
 pn := []
 xe := fun e s' => wpAny (model P w) (A.deeper (envOfC qual scope s.heap.objs.size f cd)) (leaving (envOfC qual scope s.heap.objs.size f cd) e) (fun _ s'' => CX outer H s E e s'') (fun e' s'' => CX outer H s E e' s'') s'
theorem cell_has {sc : Scope} {n : Nat} {x : Str} (h : sc.names.lookup x = some .cell) : ∃ c, (cellsFrom n sc.names []).lookup x = some c := by
 have q := zq160x sc.names n [] (.inl h)
 exact zq161x.mp q
theorem inv_start {CX : CXT} {P : Program} {w : World} {K : PySem.W.Frag} {mg : Str -> Option Value} {base : Heap} {N ps : List Str} {qual : Str} {scope : Scope} {f : Addr} {cd : Value} {A : Around} {outer : List Env} {s s1 : Shared} {H : Hp} {E : XK} {us : List Value} {vs : List V}
  (S : FnScope N ps scope) (hd : A.handled = none) (e0 : Env0 P w K mg base A outer s H) (hl : vs.length = ps.length) (r : Vals vs us)
  (x : InCallC s s.heap.objs.size (bindL (envOfC qual scope s.heap.objs.size f cd).kindOf (ps.zip us) fun _ => none) (cellsFrom (s.heap.objs.size + 1) scope.names []) (bindC (envOfC qual scope s.heap.objs.size f cd).kindOf (ps.zip us) fun _ => none) s1) :
  Inv (cxOf CX P w K mg base N qual scope f cd A outer s H E) [] (start N vs) H s1 := by
 have hpl : ps.length <= N.length := by have := congrArg List.length S.pre; rw [zq70x] at this; omega
 obtain ⟨h1, tk, rfl, hk⟩ := x.done
 have noA : ∀ b : Addr, b ∉ (cxOf CX P w K mg base N qual scope f cd A outer s H E).ex := fun b z => absurd (show b ∈ ([] : List Addr) from z) (by simp)
 refine ⟨⟨e0.mod, S.kind, rfl, rfl, zq5x _, fun y z c h1 h2 => ?_, fun y hy => ?_, fun y c _ h => ?_, fun _ => hd, Around.frames_deeper e0.frames, .inr ⟨rfl, rfl⟩, fun b z => absurd z (noA b), e0.bs, e0.bsz, fun b _ _ => noA b, fun b z => absurd z (noA b), e0.funs, e0.frf⟩,
  rfl, e0.bare, Un.kept hk, ⟨_, x.toInCall.ns, fun i y v h1 h2 h3 => ?_⟩, fun y c h => ⟨_, x.cell y c h⟩, e0.hok.fresh (zq5x _), fun y c h => ?_, fun p hp => absurd (show p ∈ ([] : List (Addr × Obj)) from hp) (by simp), e0.hok.kept hk, ?_⟩
 ·exact name_of_addr x.apart (zq80x h1) (zq80x h2)
 ·have hy : scope.names.lookup y = some .cell \/ scope.names.lookup y = some .free := hy
  rcases hy with hy | hy
  ·exact cell_has hy
  ·exact absurd rfl (S.nofree _ (zq80x hy))
 ·exact zq78x (x.above y c (zq80x h))
 ·have hi : i < vs.length := by
   unfold start at h2
   by_cases hi : i < vs.length
   ·exact hi
   ·rw [zq38x (by simpa using hi)] at h2
    rw [zq35x] at h2
    split at h2 <;> cases h2
  have ha : vs[i]? = some v := by
   unfold start at h2
   rw [zq34x (by simpa using hi), zq6x] at h2
   cases e : vs[i]? with
   | none => rw [e] at h2; cases h2
   | some a => rw [e] at h2; cases h2; rfl
  obtain ⟨u, hu, rv⟩ := r.get ha
  have hp : ps[i]? = some y := by
   rw [<- S.pre, zq126x (by omega)]; exact h1
  have ndP : ps.Nodup := by rw [<- S.pre]; exact S.nd.sublist (List.take_sublist _ _)
  refine ⟨u, rv, ?_⟩
  rcases S.par y (zq16x hp) with k | k
  ·exact .inl ⟨k, bindL_get ndP hp hu k⟩
  ·obtain ⟨c, e⟩ := cell_has (n := s.heap.objs.size + 1) k
   refine .inr ⟨.inl k, c, e, ?_⟩
   have q := x.cell y c e
   rw [bindC_get ndP hp hu (by show scope.names.lookup y ≠ _; rw [k]; decide)] at q
   exact q
 ·exact e0.hok.fresh (zq78x (x.above y c (zq80x h)))
 ·unfold start
  show _ = N.length
  rw [zq30x, zq0x, zq162x]
  omega
theorem fn_of {CX : CXT} {P : Program} {w : World} {K : PySem.W.Frag} {mg : Str -> Option Value} {base : Heap} {k : Nat} {f : Addr} {name qual : Str} {params : Arguments} {body : List Stmt} {scope : Scope} {dV kV doc pm cdv ct oc : Value} {an od : Option Addr}
    {osl : Array (Option Value)} {N ps : List Str} {sp : Sp} (lk : K.lookup f = some ⟨oc, od, .func (PySem.W.fnOf name qual params body scope dV kV doc pm an cdv ct), osl⟩) (hcd : PySem.W.codeIn K cdv qual = true) (S : FnScope N ps scope)
    (len : ∀ vs H Q E, sp vs H Q E -> vs.length = ps.length)
    (hbody : ∀ (A : Around) (outer : List Env) (s : Shared) (H : Hp) (vs : List V) (Q : VK) (E : XK), Room k (A.deeper (envOfC qual scope s.heap.objs.size f cdv)) -> sp vs H Q E ->
      ∃ t, PSs (cxOf CX P w K mg base N qual scope f cdv A outer s H E) body t /\ t { nx := fun _ H' => Q .non H', rt := Q } (start N vs) H) :
    FnOk P w K mg base CX (k + 1) f (PySem.W.fnOf name qual params body scope dV kV doc pm an cdv ct) ps sp := by
  refine ⟨len, fun A outer s H args us vs Q E hr e0 hb r hsp => ?_⟩
  have hl := len _ _ _ _ hsp
  have KX : K.In s.heap := e0.mod.kin.keeps fun b o e => (e0.bs b o e).1
  have lim : s.heap.NoLimit := e0.mod.nolimit.keeps fun b o e => (e0.bs b o e).1
  have hkind : ∀ y ∈ ps.zip us, scope.names.lookup y.1 = some .local \/ (scope.names.lookup y.1 = some .cell /\ ((cellsFrom (s.heap.objs.size + 1) scope.names []).lookup y.1).isSome = true) := fun ⟨n, v⟩ hy => by
    rcases S.par n (zq159x hy).1 with q | q
    · exact .inl q
    · exact .inr ⟨q, zq160x _ _ _ (.inl q)⟩
  refine codeAny_call_function hr.depth (KX _ _ lk) rfl S.co S.gen rfl (PySem.W.codeRec_of KX hcd) (hb _ _ _ _ ?_)
  refine wpAny_newFunctionEnv_cells S.kind hkind fun env he s1 x => ?_
  subst he
  refine ⟨lim.keeps x.toInCall.keep, codeAny_func ?_⟩
  obtain ⟨t, ht, hq⟩ := hbody A outer s H vs Q E (hr.deeper _) hsp
  have I : Inv (cxOf CX P w K mg base N qual scope f cdv A outer s H E) [] (start N vs) H s1 := inv_start S hr.hd e0 hl r x
  refine wpAny_mono (ht [] s1 (start N vs) H _ I hq) (fun fl s' hs => ?_) fun e s' hs => hs
  have fin : ∀ {σ' : St} {H' : Hp} {v : V} {u : Value}, Inv (cxOf CX P w K mg base N qual scope f cdv A outer s H E) [] σ' H' s' -> RelV v u -> Q v H' -> CE outer P w H s Q u s' :=
    fun {σ' H' v u} J rv q => ⟨v, H', J.os, J.bare, J.base, J.hok, rv, q⟩
  cases fl with
  | ret u =>
    obtain ⟨v, σ', H', J, rv, q⟩ := hs
    exact fin J rv q
  | next =>
    obtain ⟨σ', H', J, q⟩ := hs
    exact fin (v := V.non) (u := Value.none) J rfl q
  | brk =>
    obtain ⟨_, _, _, q⟩ := hs
    exact False.elim q
  | cont =>
    obtain ⟨_, _, _, q⟩ := hs
    exact False.elim q
section
variable {X : Cx} {x : Str} {p pos : Pos} {e : Expr} {es : List Expr} {t : TA} {id T : String} {r : List V -> Hp -> VK -> Prop}
def tCB (r : List V -> Hp -> VK -> Prop) (t : TA) : TE := fun σ H Q => t σ H fun vs H1 => r vs H1 Q
theorem pe_callB (hc : CallR X (.builtin id) r) (hg : Gl X x) (hm : X.mg x = none) (hv : bootBuiltins x = some (.builtin id)) (ha : PA X (e :: es) t) (hn : x ≠ "__name__" := by decide) (hdb : (x == ("__debug__" : Str)) = false := by decide)
  (he : starEach (e :: es) X.env = (false, eval e X.env) :: starEach es X.env := by rfl) (hpl : (backTo pos (starEach es X.env)).any (·.1) = false := by rfl) : PE X (.Call (.Name x p) (e :: es) [] pos) (tCB r t) := by
 intro pins s σ H Q I h
 refine wpAny_Call_Name_kw (ld_blt I hg hm hv ?_ hn hdb)
 exact PyProof.Rows.callWith_builtin1 (thn (ha pos pins s σ H _ I h) fun us s1 ⟨vs, H1, I1, r1, q1⟩ => hc pins s1 σ H1 vs us Q I1 r1 q1) he hpl
theorem pe_callTy (hc : CallR X (.type T) r) (hg : Gl X x) (hm : X.mg x = none) (hv : bootBuiltins x = some (.type T)) (ha : PA X (e :: es) t) (hn : x ≠ "__name__" := by decide) (hdb : (x == ("__debug__" : Str)) = false := by decide)
  (he : starEach (e :: es) X.env = (false, eval e X.env) :: starEach es X.env := by rfl) (hpl : (backTo pos (starEach es X.env)).any (·.1) = false := by rfl) : PE X (.Call (.Name x p) (e :: es) [] pos) (tCB r t) := by
 intro pins s σ H Q I h
 refine wpAny_Call_Name_kw (ld_blt I hg hm hv ?_ hn hdb)
 exact zq124x (thn (ha pos pins s σ H _ I h) fun us s1 ⟨vs, H1, I1, r1, q1⟩ => hc pins s1 σ H1 vs us Q I1 r1 q1) he hpl
end
end L2
namespace HT
open PySem PyProof.Rows
section
open PySem.SeqAt
open PySem.AutoSeq1 (wpAny_loadPart')
open PySem.MeetsSeq PySem.MeetsSeq2 PySem.MeetsSeq3
end
section
variable {prog : Program} {w : World} {A : Around} {E : Value -> Shared -> Prop} {s : Shared}
def sIx (n d : Nat) : Option Int -> Nat
 | none => d
 | some v => if v < 0 then (v + (n : Int)).toNat else min v.toNat n
end
end HT
namespace L2
open PySem PySem.Spec PyProof.Rows
abbrev TO := St -> Hp -> (Option Int -> Hp -> Prop) -> Prop
def PO (X : Cx) (e : Option Expr) (t : TO) : Prop :=
 ∀ (pins : List (Addr × Obj)) (s : Shared) (σ : St) (H : Hp) (Q : Option Int -> Hp -> Prop), Inv X pins σ H s -> t σ H Q ->
  wpAny (model X.prog X.w) X.A (evalPart e X.env) (fun u s' => ∃ o H', Inv X pins σ H' s' /\ IsPart u o /\ Q o H') X.xe s
def tNoPart : TO := fun _ H Q => Q none H
def tPart (t : TE) : TO := fun σ H Q => t σ H fun x H1 => ∃ i, x = .int i /\ Q (some i) H1
section
variable {X : Cx} {e : Expr} {te : TE} {lo hi : Option Expr} {tl th : TO} {pos p2 : Pos}
theorem po_none : PO X none tNoPart := by
 intro pins s σ H Q I h
 rw [evalPart_none]
 exact wpAny_pure ⟨none, H, I, .none, h⟩
theorem po_some (h : PE X e te) : PO X (some e) (tPart te) := by
 intro pins s σ H Q I hw
 rw [evalPart_some]
 refine thn (h pins s σ H _ I hw) fun u s1 ⟨x, H1, I1, r1, q1⟩ => ?_
 obtain ⟨i, rfl, q⟩ := q1
 obtain ⟨t, rfl⟩ := r1
 exact ⟨some i, H1, I1, .int i t, q⟩
def SlR (X : Cx) (r : V -> Option Int -> Option Int -> Hp -> VK -> Prop) : Prop :=
 ∀ (pins : List (Addr × Obj)) (s : Shared) (σ : St) (H : Hp) (x : V) (v vl vu : Value) (lo hi : Option Int) (sl : Addr) (Q : VK), Inv X pins σ H s -> RelV x v -> s.heap.IsSliceOf sl vl vu .none -> IsPart vl lo -> IsPart vu hi -> r x lo hi H Q ->
  ∃ T id, typeLookup (.type T) "__getitem__" = pure (some (.builtin id)) /\ s.TypeIs v T /\ wpAny (model X.prog X.w) X.A (getItem v (.ref sl)) (EP X pins σ Q) X.xe s
def tSl (r : V -> Option Int -> Option Int -> Hp -> VK -> Prop) (te : TE) (tl th : TO) : TE := fun σ H Q => te σ H fun x H1 => tl σ H1 fun l H2 => th σ H2 fun u H3 => r x l u H3 Q
theorem pe_slice {r : V -> Option Int -> Option Int -> Hp -> VK -> Prop} (hr : SlR X r) (he : PE X e te) (hl : PO X lo tl) (hu : PO X hi th) : PE X (.Subscript e (.Slice lo hi none p2) pos) (tSl r te tl th) := by
 intro pins s σ H Q I h
 refine Subscript_ (thn (he pins s σ H _ I h) fun v s1 ⟨x, H1, I1, r1, q1⟩ => ?_)
 refine wpAny_Slice (thn (hl pins s1 σ H1 _ I1 q1) fun vl s2 ⟨l, H2, I2, pl, q2⟩ => thn (hu pins s2 σ H2 _ I2 q2) fun vu s3 ⟨u, H3, I3, pu, q3⟩ => ?_)
 rw [evalPart_none]
 refine wpAny_pure ?_
 have I4 : Inv X pins σ H3 { s3 with heap := s3.heap.push { cls := .type "slice", data := .fields #[vl, vu, .none] } } := I3.kept (t' := s3.toks) fun b ob q => zq33x _ q
 obtain ⟨T, id, hT, ht, hg⟩ := hr pins { s3 with heap := s3.heap.push { cls := .type "slice", data := .fields #[vl, vu, .none] } } σ H3 x v vl vu l u s3.heap.objs.size Q I4 r1 (Heap.IsSliceOf.new ..) pl pu q3
 show wpAny (model X.prog X.w) X.A (subscriptTail e (.Slice lo hi none p2) v (.ref s3.heap.objs.size)) (EP X pins σ Q) X.xe { s3 with heap := s3.heap.push { cls := .type "slice", data := .fields #[vl, vu, .none] } }
 exact tail_any (ops := [.ref s3.heap.objs.size, v]) ht hT hg (by with_unfolding_all rfl)
def cutV (xs : List V) (lo hi : Option Int) : List V := (xs.drop (HT.sIx xs.length 0 lo)).take (HT.sIx xs.length xs.length hi - HT.sIx xs.length 0 lo)
theorem cutV_length (xs : List V) (lo hi : Option Int) : (cutV xs lo hi).length <= xs.length := by
 unfold cutV
 rw [zq70x, List.length_drop]
 omega
def rSlT (K : PySem.W.Frag) : V -> Option Int -> Option Int -> Hp -> VK -> Prop := fun x lo hi H Q => ∃ a xs, x = .ref a /\ SqT K H a xs /\
 ¬ (HT.sIx xs.length 0 lo = 0 /\ HT.sIx xs.length xs.length hi = xs.length) /\ ∀ p, H p = none -> Q (.ref p) (upd H p (.tup (cutV xs lo hi)))
def rCatT (K : PySem.W.Frag) : R2 := fun x y H Q => ∃ a b xs ys, x = .ref a /\ y = .ref b /\ SqT K H a xs /\ SqT K H b ys /\ xs ≠ [] /\ xs.length + ys.length <= sizeLine /\
 (ys = [] -> Q (.ref a) H) /\ (ys ≠ [] -> ∀ p, H p = none -> Q (.ref p) (upd H p (.tup (xs ++ ys))))
end
def ixN (n : Nat) (i : Int) : Option Nat := if 0 <= i then (if i < n then some i.toNat else none) else if -(n : Int) <= i then some (i + n).toNat else none
def atI {α : Type} (xs : List α) (i : Int) : Option α := (ixN xs.length i).bind fun j => xs[j]?
theorem ixN_seq {n : Nat} {i : Int} {j : Nat} (h : ixN n i = some j) : seqIndex? i n = some j /\ j < n /\ -(n : Int) <= i /\ i < n := by
 unfold ixN at h
 by_cases h0 : 0 <= i
 ·rw [if_pos h0] at h
  by_cases h1 : i < n
  ·rw [if_pos h1] at h
   have e : i.toNat = j := zq36x h
   exact ⟨by rw [seqIndex_of h0 h1, e], by omega, by omega, h1⟩
  ·rw [if_neg h1] at h; cases h
 ·rw [if_neg h0] at h
  by_cases h1 : -(n : Int) <= i
  ·rw [if_pos h1] at h
   have e : (i + n).toNat = j := zq36x h
   exact ⟨by rw [seqIndex_neg (by omega) h1, e], by omega, h1, by omega⟩
  ·rw [if_neg h1] at h; cases h
theorem atI_get {α : Type} {xs : List α} {i : Int} {v : α} (h : atI xs i = some v) : ∃ j, seqIndex? i xs.length = some j /\ xs[j]? = some v /\ j < xs.length /\ -(xs.length : Int) <= i /\ i < xs.length := by
  unfold atI at h
  cases e : ixN xs.length i with
  | none => rw [e] at h; cases h
  | some j =>
    rw [e] at h
    obtain ⟨h1, h2, h3, h4⟩ := ixN_seq e
    exact ⟨j, h1, h, h2, h3, h4⟩
theorem atI_nat {α : Type} {xs : List α} {j : Nat} {v : α} (h : xs[j]? = some v) : atI xs (j : Int) = some v := by
 have hj : j < xs.length := (zq7x.mp h).1
 have e : ixN xs.length (j : Int) = some j := by
  unfold ixN
  rw [if_pos (by omega), if_pos (by omega)]; simp
 unfold atI; rw [e]; exact h
def PlainIx (b : Expr) : Prop := ∀ o i, subscripted b false o i = operate [o, i] (getItem o i)
def IxR (X : Cx) (r : R2) : Prop :=
 ∀ (value slice : Expr) (pins : List (Addr × Obj)) (s : Shared) (σ : St) (H : Hp) (x y : V) (v u : Value) (Q : VK), Inv X pins σ H s -> RelV x v -> RelV y u -> r x y H Q ->
  subscripted slice false v u = operate [v, u] (getItem v u) -> wpAny (model X.prog X.w) X.A (subscriptTail value slice v u) (EP X pins σ Q) X.xe s
def MtR (X : Cx) (id : String) (r : V -> List V -> Hp -> VK -> Prop) : Prop :=
 ∀ (pins : List (Addr × Obj)) (s : Shared) (σ : St) (H : Hp) (x : V) (xs : List V) (v : Value) (us : List Value) (Q : VK), Inv X pins σ H s -> RelV x v -> Vals xs us -> r x xs H Q ->
  wpAny (model X.prog X.w) X.A (call (.builtin id) (v :: us)) (EP X pins σ Q) X.xe s
section
variable {X : Cx} {a b : Expr} {ta tb : TE} {pos : Pos}
theorem IxR.or {r r' : R2} (h : IxR X r) (h' : IxR X r') : IxR X (fun x y H Q => r x y H Q \/ r' x y H Q) := by
 intro value slice pins s σ H x y v u Q I rx ry q hs
 rcases q with q | q
 ·exact h value slice pins s σ H x y v u Q I rx ry q hs
 ·exact h' value slice pins s σ H x y v u Q I rx ry q hs
theorem pe_ix {r : R2} (hr : IxR X r) (ha : PE X a ta) (hb : PE X b tb) (hs : PlainIx b) : PE X (.Subscript a b pos) (tOp r ta tb) := by
 intro pins s σ H Q I h
 exact Subscript_ (binT ha hb I h fun v u s2 x y H2 I2 rx ry q => hr a b pins s2 σ H2 x y v u Q I2 rx ry q (hs _ _))
def rIxL (K : PySem.W.Frag) : R2 := fun x y H Q => ∃ p xs i v, x = .ref p /\ y = .int i /\ SqL K H p xs /\ atI xs i = some v /\ Q v H
def rIxT (K : PySem.W.Frag) : R2 := fun x y H Q => ∃ p xs i v, x = .ref p /\ y = .int i /\ SqT K H p xs /\ atI xs i = some v /\ Q v H
def rIxS : R2 := fun x y H Q => ∃ z i c, x = .str z /\ y = .int i /\ z.length <= sizeLine /\ atI z.cps.toList i = some c /\ Q (.str ⟨#[c]⟩) H
theorem ix_list : IxR X (rIxL X.K) := by
 intro value slice pins s σ H x y v u Q I rx ry h hs
 obtain ⟨p, xs, i, z, rfl, rfl, hq, he, q⟩ := h
 cases rx
 obtain ⟨t, rfl⟩ := ry
 obtain ⟨its, r, pl, hz⟩ := I.list hq
 obtain ⟨j, h1, h2, h3, h4, h5⟩ := atI_get he
 obtain ⟨w, ew, rw'⟩ := r.get h2
 have hl := r.length
 have hn := line63
 have fin : EP X pins σ Q w s := ⟨z, H, I, rw', q⟩
 by_cases h0 : 0 <= i
 ·have hj : i.toNat = j := by
   rw [seqIndex_of h0 h5] at h1
   exact zq36x h1
  exact item_listR pl.isList h0 (by omega) (by rw [hj]; simpa using ew) fin hs
 ·have hj : (i + (its.toArray.size : Int)).toNat = j := by
   rw [seqIndex_neg (by omega) h4] at h1
   rw [zq26x, <- hl]
   exact zq36x h1
  exact subscriptTail_builtinR (x := w) pl.isList.typeIs slot_list_getitem.lookup
   (wpAny_getItem_list_neg (Q := fun r s' => r = w /\ EP X pins σ Q r s') pl.isList (by omega) (by rw [zq26x] <;> omega) (by omega) (by rw [hj]; simpa using ew) ⟨rfl, fin⟩) hs
theorem ix_tup : IxR X (rIxT X.K) := by
 intro value slice pins s σ H x y v u Q I rx ry h hs
 obtain ⟨p, xs, i, z, rfl, rfl, hq, he, q⟩ := h
 cases rx
 obtain ⟨t, rfl⟩ := ry
 obtain ⟨its, r, pl, hz⟩ := I.tuple hq
 obtain ⟨j, h1, h2, h3, h4, h5⟩ := atI_get he
 obtain ⟨w, ew, rw'⟩ := r.get h2
 have hl := r.length
 have hn := line63
 have fin : EP X pins σ Q w s := ⟨z, H, I, rw', q⟩
 exact subscriptTail_builtinR (x := w) pl.typeIs slot_tuple_getitem.lookup
  (getItem_tuple (j := j) (Q := fun r s' => r = w /\ EP X pins σ Q r s') pl (by omega) (by omega) (by rw [zq26x, <- hl]; exact h1) (by simpa using ew) ⟨rfl, fin⟩) hs
theorem ix_str : IxR X rIxS := by
 intro value slice pins s σ H x y v u Q I rx ry h hs
 obtain ⟨z, i, c, rfl, rfl, hz, he, q⟩ := h
 obtain ⟨t, rfl⟩ := rx
 obtain ⟨t', rfl⟩ := ry
 obtain ⟨j, h1, h2, h3, h4, h5⟩ := atI_get he
 have hl : z.cps.toList.length = z.length := by simp [Str.length]
 rw [hl] at h1 h4 h5
 have hn := line63
 exact tail_any (typeIs_str s z t) slot_str_getitem.lookup (getItem_str (c := c) (by
  have e1 : decide (i < -(2 ^ 63 : Int)) = false := decide_eq_false (by omega)
  have e2 : decide (i ≥ 2 ^ 63) = false := decide_eq_false (by omega)
  rw [e1, e2, zq96x]) (by rw [h1]; simpa using h2) ⟨.str ⟨#[c]⟩, H, I.tok _, ⟨_, rfl⟩, q⟩) hs
def rIx (K : PySem.W.Frag) : R2 := fun x y H Q => rIxL K x y H Q \/ rIxT K x y H Q \/ rIxS x y H Q
theorem ix_seq : IxR X (rIx X.K) := ix_list.or (ix_tup.or ix_str)
theorem mapSeq_set (its : List Value) (n j : Nat) (u : Value) : Obj.mapSeq (·.setIfInBounds j u) { cls := .type "list", data := .seq its.toArray n } = { cls := .type "list", data := .seq (its.set j u).toArray n } := by
 simp [Obj.mapSeq]
theorem Inv.lst {pins : List (Addr × Obj)} {σ : St} {H : Hp} {s : Shared} {p : Addr} {xs : List V} (I : Inv X pins σ H s) (h : H p = some (.lst xs)) :
  ∃ (its : List Value) (n : Nat), Vals xs its /\ s.heap.get? p = some { cls := .type "list", data := .seq its.toArray n } /\ xs.length <= sizeLine := by
 obtain ⟨z, its, n, r, e⟩ := I.hok p _ h
 exact ⟨its, n, r, e, z⟩
theorem Inv.lstUpd {pins : List (Addr × Obj)} {σ : St} {H : Hp} {s : Shared} {p : Addr} {xs ys : List V} {its its' : List Value} {n n' : Nat} {f : Obj -> Obj} (I : Inv X pins σ H s) (h : H p = some (.lst xs))
  (ho : s.heap.get? p = some { cls := .type "list", data := .seq its.toArray n }) (hf : f { cls := .type "list", data := .seq its.toArray n } = { cls := .type "list", data := .seq its'.toArray n' }) (r : Vals ys its') (hz : ys.length <= sizeLine) (t : Nat) :
  Inv X pins σ (upd H p (.lst ys)) { s with heap := s.heap.update p f, toks := t } := by
 have e : (s.heap.update p f).get? p = some { cls := .type "list", data := .seq its'.toArray n' } := by
  rw [Heap.get?_update_self f ho (by rw [hf] <;> rfl), hf]
 refine I.write (x := p) (e := p) (by rw [h]; trivial) (.inl rfl) (fun b u hb q => (Heap.get?_update_other _ _ (zq14x hb)).trans q) ⟨_, e⟩ ?_
 exact ⟨hz, its', n', r, e⟩
def rSetL : V -> V -> V -> Hp -> (Hp -> Prop) -> Prop := fun o i v H Q => ∃ p xs k j, o = .ref p /\ i = .int k /\ H p = some (.lst xs) /\ ixN xs.length k = some j /\ Q (upd H p (.lst (xs.set j v)))
theorem set_list : PSet X rSetL := by
 intro pins s σ H o i v ov iv u Q I ro ri rv h
 obtain ⟨p, xs, k, j, rfl, rfl, hp, hj, q⟩ := h
 cases ro
 obtain ⟨t, rfl⟩ := ri
 obtain ⟨its, n, r, ho, hz⟩ := I.lst hp
 obtain ⟨h1, h2, h3, h4⟩ := ixN_seq hj
 have hl := r.length
 have hn := line63
 have I' : Inv X pins σ (upd H p (.lst (xs.set j v))) { s with heap := s.heap.update p (Obj.mapSeq (·.setIfInBounds j u)) } :=
  I.lstUpd hp ho (mapSeq_set its n j u) (r.set rv j) (by rw [zq47x]; exact hz) s.toks
 by_cases h0 : 0 <= k
 ·have hk : k.toNat = j := by
   rw [seqIndex_of h0 h4] at h1
   exact zq36x h1
  exact PySem.W.ki_setAt ho h0 (by omega) (by rw [zq26x, <- hl]; exact h4) (by rw [hk]; exact ⟨_, I', q⟩)
 ·have hk : (k + (its.toArray.size : Int)).toNat = j := by
   rw [seqIndex_neg (by omega) h3] at h1
   rw [zq26x, <- hl]
   exact zq36x h1
  exact PySem.W.ki_setBack ho (by omega) (by rw [zq26x, <- hl]; exact h3) (by omega) (by rw [hk]; exact ⟨_, I', q⟩)
theorem slice_bounds (lo hi : Option Int) (n : Nat) : (sliceBounds lo hi none n).1 = ((HT.sIx n 0 lo : Nat) : Int) /\ (sliceBounds lo hi none n).2.1 = ((HT.sIx n n hi : Nat) : Int) /\ (sliceBounds lo hi none n).2.2 = 1 := by
  refine ⟨?_, ?_, rfl⟩
  · cases lo with
    | none => simp [sliceBounds, HT.sIx]
    | some i =>
      simp only [sliceBounds, HT.sIx, Option.getD_none, show (1 : Int) > 0 by decide, if_true]
      by_cases h : i < 0
      · simp only [h, if_true] <;> omega
      · simp only [h, if_false] <;> omega
  · cases hi with
    | none => simp [sliceBounds, HT.sIx]
    | some i =>
      simp only [sliceBounds, HT.sIx, Option.getD_none, show (1 : Int) > 0 by decide, if_true]
      by_cases h : i < 0
      · simp only [h, if_true] <;> omega
      · simp only [h, if_false] <;> omega
theorem slicePick_cut (its : List Value) (lo hi : Option Int) : slicePick its.toArray lo hi none = ((its.drop (HT.sIx its.length 0 lo)).take (HT.sIx its.length its.length hi - HT.sIx its.length 0 lo)).toArray := by
 obtain ⟨h1, h2, h3⟩ := slice_bounds lo hi its.toArray.size
 unfold slicePick
 rw [h1, h2, h3]
 simp only [sliceRange_one, pick_run, zq26x] <;> rfl
def rSlL (K : PySem.W.Frag) : V -> Option Int -> Option Int -> Hp -> VK -> Prop := fun x lo hi H Q => ∃ a xs, x = .ref a /\ SqL K H a xs /\ ∀ p, H p = none -> Q (.ref p) (upd H p (.lst (cutV xs lo hi)))
theorem sl_list : SlR X (rSlL X.K) := by
 intro pins s σ H x v vl vu lo hi sl Q I rx hs pl pu h
 obtain ⟨a, xs, rfl, hx, q⟩ := h
 cases rx
 obtain ⟨its, r, ht, hz⟩ := I.list hx
 have hlen := r.length
 refine ⟨"list", _, slot_list_getitem.lookup, ht.isList.typeIs, ?_⟩
 refine wpAny_getItem_list_slice ht.isList hs pl pu .none (by simp) ?_ (by rw [zq26x] <;> omega)
 rw [slicePick_cut, <- hlen]
 refine ⟨.ref s.heap.objs.size, _, I.laid (t' := s.toks) (o := .lst (cutV xs lo hi)) (fun b ob q => zq33x _ q) (zq5x _) ?_, rfl, q _ (I.hok.fresh (zq5x _))⟩
 exact ⟨zq28x (cutV_length xs lo hi) hz, _, 0, (r.drop (HT.sIx xs.length 0 lo)).take (HT.sIx xs.length xs.length hi - HT.sIx xs.length 0 lo), zq42x _ rfl⟩
def flatV : V -> Bool
 | .non => true
 | .bl _ => true
 | .int _ => true
 | .str _ => true
 | _ => false
def eqV : V -> V -> Bool
 | .non, .non => true
 | .bl a, .bl b => a == b
 | .bl a, .int b => (if a then 1 else 0) == b
 | .int a, .bl b => a == (if b then 1 else 0)
 | .int a, .int b => a == b
 | .str a, .str b => a == b
 | _, _ => false
theorem eqAt_V {A : Around} {s : Shared} {y x : V} {u v : Value} (ry : RelV y u) (rx : RelV x v) (fy : flatV y = true) (fx : flatV x = true) : SeqAt.EqAt A s u v (eqV y x) := by
  cases y with
  | non =>
    cases ry
    cases x with
    | non => cases rx; exact SeqAt.EqAt.same _
    | bl b => cases rx; exact SeqAt.EqAt.none_bool b
    | int b => obtain ⟨t, rfl⟩ := rx; exact SeqAt.EqAt.none_int b t
    | str b => obtain ⟨t, rfl⟩ := rx; exact SeqAt.EqAt.none_str b t
    | _ => exact absurd (show false = true from fx) zq13x
  | bl a =>
    cases ry
    cases x with
    | non => cases rx; exact SeqAt.EqAt.bool_none a
    | bl b => cases rx; exact SeqAt.EqAt.bool_bool a b
    | int b => obtain ⟨t, rfl⟩ := rx; exact SeqAt.EqAt.bool_int a b t
    | str b => obtain ⟨t, rfl⟩ := rx; exact SeqAt.EqAt.bool_str a b t
    | _ => exact absurd (show false = true from fx) zq13x
  | int a =>
    obtain ⟨t', rfl⟩ := ry
    cases x with
    | non => cases rx; exact SeqAt.EqAt.int_none a t'
    | bl b => cases rx; exact SeqAt.EqAt.int_bool a t' b
    | int b => obtain ⟨t, rfl⟩ := rx; exact SeqAt.EqAt.int_int a t' b t
    | str b => obtain ⟨t, rfl⟩ := rx; exact SeqAt.EqAt.int_str a t' b t
    | _ => exact absurd (show false = true from fx) zq13x
  | str a =>
    obtain ⟨t', rfl⟩ := ry
    cases x with
    | non => cases rx; exact SeqAt.EqAt.str_none a t'
    | bl b => cases rx; exact SeqAt.EqAt.str_bool a t' b
    | int b => obtain ⟨t, rfl⟩ := rx; exact SeqAt.EqAt.str_int a t' b t
    | str b => obtain ⟨t, rfl⟩ := rx; exact SeqAt.EqAt.str_str a t' b t
    | _ => exact absurd (show false = true from fx) zq13x
  | _ => exact absurd (show false = true from fy) zq13x
def eqU (x : V) (u : Value) : Bool := match u with
 | .none => eqV .non x
 | .bool b => eqV (.bl b) x
 | .int i _ => eqV (.int i) x
 | .str z _ => eqV (.str z) x
 | _ => false
theorem eqU_of {x y : V} {u : Value} (r : RelV y u) (f : flatV y = true) : eqU x u = eqV y x := by
 cases y with
 | non => cases r; rfl
 | bl b => cases r; rfl
 | int i => obtain ⟨t, rfl⟩ := r; rfl
 | str z => obtain ⟨t, rfl⟩ := r; rfl
 | _ => exact absurd (show false = true from f) zq13x
theorem any_eqU {x : V} : ∀ {xs : List V} {us : List Value}, Vals xs us -> xs.all flatV = true -> us.any (eqU x) = xs.any fun y => eqV y x
  | _, _, .nil, _ => rfl
  | y :: xs, u :: us, .cons r t, f => by
    rw [zq81x, zq24x] at f
    rw [zq64x, zq64x, eqU_of r f.1, any_eqU t f.2]
theorem mem_eqAt {A : Around} {s : Shared} {x : V} {v : Value} (rx : RelV x v) (fx : flatV x = true) : ∀ {xs : List V} {us : List Value}, Vals xs us -> xs.all flatV = true -> ∀ u ∈ us, SeqAt.EqAt A s u v (eqU x u)
  | _, _, .nil, _ => fun u hu => by cases hu
  | y :: xs, u :: us, .cons r t, f => fun u' hu => by
    rw [zq81x, zq24x] at f
    rcases zq2x.mp hu with rfl | hu
    · rw [eqU_of r f.1]; exact eqAt_V r rx f.1 fx
    · exact mem_eqAt rx fx t f.2 u' hu
def inV (x : V) (xs : List V) : Bool := xs.any fun y => eqV y x
def rIn (K : PySem.W.Frag) (neg : Bool) : R2 := fun x y H Q => ∃ p xs, y = .ref p /\ (SqL K H p xs \/ SqT K H p xs) /\ flatV x = true /\ xs.all flatV = true /\ Q (.bl (if neg then !inV x xs else inV x xs)) H
theorem op_in_seq : OpR X (compareOp .In) (rIn X.K false) := by
 intro pins s σ H x y v u Q I rx ry h
 obtain ⟨p, xs, rfl, hq, fx, fs, q⟩ := h
 cases ry
 rcases hq with hq | hq
 ·obtain ⟨its, r, pl, hz⟩ := I.list hq
  refine SeqAt.in_listAt (eqU x) pl.isList (fun w hw => mem_eqAt rx fx r fs w (by simpa using hw)) ⟨.bl _, H, I, rfl, ?_⟩
  rw [show its.toArray.any (eqU x) = its.any (eqU x) by simp, any_eqU r fs]
  exact q
 ·obtain ⟨its, r, pl, hz⟩ := I.tuple hq
  refine SeqAt.in_tupleAt (eqU x) pl (fun w hw => mem_eqAt rx fx r fs w (by simpa using hw)) ⟨.bl _, H, I, rfl, ?_⟩
  rw [show its.toArray.any (eqU x) = its.any (eqU x) by simp, any_eqU r fs]
  exact q
theorem op_notIn_seq : OpR X (compareOp .NotIn) (rIn X.K true) := by
 intro pins s σ H x y v u Q I rx ry h
 obtain ⟨p, xs, rfl, hq, fx, fs, q⟩ := h
 cases ry
 rcases hq with hq | hq
 ·obtain ⟨its, r, pl, hz⟩ := I.list hq
  refine SeqAt.notIn_listAt (eqU x) pl.isList (fun w hw => mem_eqAt rx fx r fs w (by simpa using hw)) ⟨.bl _, H, I, rfl, ?_⟩
  rw [show its.toArray.any (eqU x) = its.any (eqU x) by simp, any_eqU r fs]
  exact q
 ·obtain ⟨its, r, pl, hz⟩ := I.tuple hq
  refine SeqAt.notIn_tupleAt (eqU x) pl (fun w hw => mem_eqAt rx fx r fs w (by simpa using hw)) ⟨.bl _, H, I, rfl, ?_⟩
  rw [show its.toArray.any (eqU x) = its.any (eqU x) by simp, any_eqU r fs]
  exact q
theorem call_len_seq : CallR X (.builtin "len") (fun xs H Q => ∃ p ys, xs = [.ref p] /\ (SqL X.K H p ys \/ SqT X.K H p ys) /\ Q (.int ys.length) H) := by
 intro pins s σ H xs us Q I r h
 obtain ⟨p, ys, rfl, hq, q⟩ := h
 obtain ⟨u, rfl, rx⟩ := vals1 r
 cases rx
 have hn := line63
 rcases hq with hq | hq
 ·obtain ⟨its, r', pl, hz⟩ := I.list hq
  have hlen := r'.length
  exact Calls.call_len_list pl.isList (by simp only [zq26x] <;> omega) ⟨.int ys.length, H, I.tok _, ⟨s.toks + 1, by rw [zq26x, hlen]⟩, q⟩
 ·obtain ⟨its, r', pl, hz⟩ := I.tuple hq
  have hlen := r'.length
  exact len_tuple pl (by simp only [zq26x] <;> omega) ⟨.int ys.length, H, I.tok _, ⟨s.toks + 1, by rw [zq26x, hlen]⟩, q⟩
theorem call_list_of : CallR X (.type "list") (fun xs H Q => ∃ p ys, xs = [.ref p] /\ (SqL X.K H p ys \/ SqT X.K H p ys) /\ ∀ l, H l = none -> Q (.ref l) (upd H l (.lst ys))) := by
 intro pins s σ H xs us Q I r h
 obtain ⟨p, ys, rfl, hq, q⟩ := h
 obtain ⟨u, rfl, rx⟩ := vals1 r
 cases rx
 have fin : ∀ (its : List Value), Vals ys its -> ys.length <= sizeLine -> ∀ (h' : Heap) (c' : Nat), (∀ b o', s.heap.get? b = some o' -> h'.get? b = some o') ->
   h'.get? s.heap.objs.size = some { cls := .type "list", dict := none, data := .seq its.toArray c', slots := #[] } -> EP X pins σ Q (.ref s.heap.objs.size) { s with heap := h' } := fun its r' hz h' c' kp e =>
  ⟨.ref s.heap.objs.size, _, I.laid (t' := s.toks) kp (zq5x _) (show ObjOk X.prog X.w _ h' _ (.lst ys) from ⟨hz, its, c', r', e⟩), rfl, q _ (I.hok.fresh (zq5x _))⟩
 rcases hq with hq | hq
 ·obtain ⟨its, r', pl, hz⟩ := I.list hq
  have hlen := r'.length
  obtain ⟨o, ho, hc, n, hd⟩ := pl.isList
  exact call_list_seq p (.inl rfl) ho hc hd (fun h' c' kp e => fin its r' hz h' c' kp e) (by simp only [zq26x] <;> omega)
 ·obtain ⟨its, r', pl, hz⟩ := I.tuple hq
  have hlen := r'.length
  obtain ⟨o, ho, hc, n, hd⟩ := pl
  exact call_list_seq p (.inr rfl) ho hc hd (fun h' c' kp e => fin its r' hz h' c' kp e) (by simp only [zq26x] <;> omega)
def tyV (K : PySem.W.Frag) (T : String) (x : V) (H : Hp) : Prop := match x with
 | .str _ => T = "str"
 | .int _ => T = "int"
 | .ref p => (T = "list" /\ ∃ xs, SqL K H p xs) \/ (T = "tuple" /\ ∃ o, K.lookup p = some o /\ o.cls = .type "tuple" /\ o.dict = none) \/
   (T = "dict" /\ ((∃ kvs, H p = some (.dK kvs)) \/ (∃ kvs, H p = some (.dT kvs)) \/ ∃ o kvs, H p = some (.frz o (.dK kvs)))) \/ (T = "set" /\ ∃ S n, H p = some (.set S n))
 | _ => False
theorem tyV_is {pins : List (Addr × Obj)} {σ : St} {H : Hp} {s : Shared} {T : String} {x : V} {v : Value} (I : Inv X pins σ H s) (r : RelV x v) (ty : tyV X.K T x H) :
    s.TypeIs v T /\ ∀ a, v = .ref a -> ∃ ob, s.heap.get? a = some ob /\ ob.dict = none := by
  cases x with
  | str z =>
    obtain ⟨t, rfl⟩ := r
    cases (show T = "str" from ty)
    exact ⟨typeIs_str s z t, fun _ e => nomatch e⟩
  | int i =>
    obtain ⟨t, rfl⟩ := r
    cases (show T = "int" from ty)
    exact ⟨typeIs_int s i t, fun _ e => nomatch e⟩
  | ref p =>
    cases r
    rcases ty with ⟨rfl, xs, hq⟩ | ⟨rfl, o, hk, hc, hd⟩ | ⟨rfl, hk⟩ | ⟨rfl, S, n, hk⟩
    · obtain ⟨its, _, pl, _⟩ := I.list hq
      refine ⟨pl.isList.typeIs, fun a e => ?_⟩
      cases e
      obtain ⟨o, n, e, c, hd, _⟩ := pl
      exact ⟨o, e, hd⟩
    · refine ⟨⟨o, I.kIn p o hk, hc⟩, fun a e => ?_⟩
      cases e
      exact ⟨o, I.kIn _ o hk, hd⟩
    · have z : ∃ o, s.heap.get? p = some o /\ o.ExactDict := by
        rcases hk with ⟨kvs, hk⟩ | ⟨kvs, hk⟩ | ⟨ob, kvs, hk⟩
        · obtain ⟨_, _, _, _, o, _, _, e, ex, _⟩ := I.hok p _ hk
          exact ⟨o, e, ex⟩
        · obtain ⟨_, _, _, _, o, _, _, e, ex, _⟩ := I.hok p _ hk
          exact ⟨o, e, ex⟩
        · obtain ⟨_, _, _, _, _, o, _, _, e, ex, _⟩ := I.hok p _ hk
          exact ⟨o, e, ex⟩
      obtain ⟨o, e, ex⟩ := z
      refine ⟨⟨o, e, ex.1⟩, fun a e2 => ?_⟩
      cases e2
      exact ⟨o, e, ex.2.1⟩
    · obtain ⟨o, _, _, _, e, ex, _⟩ := I.hok p _ hk
      refine ⟨⟨o, e, ex.1⟩, fun a e2 => ?_⟩
      cases e2
      exact ⟨o, e, ex.2.1⟩
  | _ => exact False.elim ty
def tBM0 (K : PySem.W.Frag) (T : String) (r : V -> List V -> Hp -> VK -> Prop) (to : TE) : TE := fun σ H Q => to σ H fun x H1 => tyV K T x H1 /\ r x [] H1 Q
def tBM (K : PySem.W.Frag) (T : String) (r : V -> List V -> Hp -> VK -> Prop) (to : TE) (t : TA) : TE := fun σ H Q => to σ H fun x H1 => tyV K T x H1 /\ t σ H1 fun xs H2 => r x xs H2 Q
variable {o e : Expr} {es : List Expr} {to : TE} {t : TA} {name : Str} {apos cpos : Pos} {T id : String} {r : V -> List V -> Hp -> VK -> Prop}
theorem pe_bm (pa : PlainAttrs T) (slot : Slot T name id) (hty : typeOf (.builtin id) = pure (.type "method_descriptor")) (hm : MtR X id r) (ho : PE X o to) (ha : PA X (e :: es) t)
  (hbase : attributeBase o name X.env (eval o X.env) = eval o X.env := by rfl)
  (hfew : ((backTo cpos (starEach (e :: es) X.env)).all (fun x => !x.1) && (backToKw cpos (keywordEach [] X.env)).all (fun x => x.1.isSome)
   && decide ((e :: es).length + ([] : List Keyword).length + (if ([] : List Keyword).isEmpty then 0 else 1) < 30)) = true := by rfl)
  (hline : (apos.endLine == cpos.line) = true := by rfl) (hs : starEach (e :: es) X.env = (false, eval e X.env) :: starEach es X.env := by rfl) (hplain : (backTo cpos (starEach es X.env)).any (·.1) = false := by rfl) :
  PE X (.Call (.Attribute o name apos) (e :: es) [] cpos) (tBM X.K T r to t) := by
 intro pins s σ H Q I h
 refine wpAny_Call_method_late hbase hfew hline rfl (thn (ho pins s σ H _ I h) fun v s1 ⟨x, H1, I1, r1, ty, q1⟩ => ?_)
 obtain ⟨h1, h2⟩ := tyV_is I1 r1 ty
 refine ⟨T, id, pa, slot, hty, h1, h2, ?_⟩
 have hA := ha cpos pins s1 σ H1 _ I1 q1
 rw [hs] at hA ⊢
 refine Calls.callWith_builtin (by show (false || (backTo cpos (starEach es X.env)).any (·.1)) = false; rw [hplain] <;> rfl) (Calls.evalArgs_plain ?_)
 exact thn hA fun us s2 ⟨vs, H2, I2, r2, q2⟩ => hm pins s2 σ H2 x vs v us Q I2 r1 r2 q2
/- xs.append(e), list.index on a module's tuple .. are MtR facts of 06m -/
end
def MtM (X : Cx) (id : String) (r : V -> List V -> Hp -> VK -> Prop) : Prop :=
 ∀ (pins : List (Addr × Obj)) (s : Shared) (σ : St) (H : Hp) (x : V) (xs : List V) (v : Value) (us : List Value) (Q : VK), Inv X pins σ H s -> RelV x v -> Vals xs us -> r x xs H Q ->
  wpAny (model X.prog X.w) X.A (call (.builtin id) (v :: us)) (EP X pins σ Q) X.xe s
theorem Vals.one {x : V} {us : List Value} (h : Vals [x] us) : ∃ u, us = [u] /\ RelV x u := by
 cases h with
 | cons r t => cases t; exact ⟨_, rfl, r⟩
theorem Vals.two {x y : V} {us : List Value} (h : Vals [x, y] us) : ∃ u v, us = [u, v] /\ RelV x u /\ RelV y v := by
  cases h with
  | cons r t =>
    obtain ⟨v, e, q⟩ := Vals.one t
    exact ⟨_, v, by rw [e], r, q⟩
theorem Vals.dropLast {xs : List V} {us : List Value} (h : Vals xs us) : Vals xs.dropLast us.dropLast := by
  induction h with
  | nil => exact .nil
  | cons r t ih =>
    cases t with
    | nil => exact .nil
    | cons q t' => exact .cons r ih
theorem Vals.eraseIdx : ∀ {xs : List V} {us : List Value} (i : Nat), Vals xs us -> Vals (xs.eraseIdx i) (us.eraseIdx i)
 | _, _, _, .nil => .nil
 | _, _, 0, .cons _ t => t
 | _, _, i + 1, .cons r t => .cons r (Vals.eraseIdx i t)
theorem Vals.rep {xs : List V} {us : List Value} (h : Vals xs us) : ∀ k : Nat, Vals (List.replicate k xs).flatten (List.replicate k us).flatten
  | 0 => .nil
  | k + 1 => by
    rw [zq87x, zq87x, zq110x, zq110x]
    exact Vals.append h (Vals.rep h k)
theorem len_erase {α : Type} : ∀ (l : List α) (i : Nat), (l.eraseIdx i).length <= l.length
 | [], _ => zq5x _
 | _ :: _, 0 => zq63x _
 | _ :: r, i + 1 => Nat.succ_le_succ (len_erase r i)
theorem foldl_rep (its : List Value) : ∀ (k : Nat) (acc : List Value),
    List.foldl (fun x1 x2 => x1 ++ x2) acc.toArray (List.replicate k its.toArray) = (acc ++ (List.replicate k its).flatten).toArray
  | 0, acc => by simp
  | k + 1, acc => by
    have e : acc.toArray ++ its.toArray = (acc ++ its).toArray := by simp
    have e2 : (acc ++ its) ++ (List.replicate k its).flatten = acc ++ (List.replicate (k + 1) its).flatten := by
      rw [zq87x, zq110x, zq163x]
    rw [<- e2, <- foldl_rep its k (acc ++ its), <- e, zq87x, List.foldl_cons]
section
variable {X : Cx} {pins : List (Addr × Obj)} {σ : St} {H : Hp} {s : Shared} {l b : Addr} {xs ys zs : List V}
theorem Inv.lset {its its' : List Value} {n : Nat} {f : Array Value -> Array Value} {t' : Nat} (I : Inv X pins σ H s) (hH : H l = some (.lst xs))
  (e : s.heap.get? l = some { cls := .type "list", data := .seq its.toArray n }) (hf : f its.toArray = its'.toArray) (hv : Vals ys its') (hz : ys.length <= sizeLine) :
  Inv X pins σ (upd H l (.lst ys)) { s with heap := s.heap.update l (Obj.mapSeq f), toks := t' } := by
 have q := PySem.IsL.update e f
 rw [hf] at q
 refine I.write (x := l) (e := l) (by rw [hH]; exact trivial) (.inl rfl) (fun b' u hb hu => (Heap.get?_update_other s.heap (Obj.mapSeq f) (zq14x hb)).trans hu) ⟨_, q⟩ ?_
 exact ⟨hz, its', _, hv, q⟩
theorem Inv.lnew {its : List Value} {t' : Nat} (I : Inv X pins σ H s) (hv : Vals ys its) (hz : ys.length <= sizeLine) :
  Inv X pins σ (upd H s.heap.objs.size (.lst ys)) { s with heap := s.heap.push { cls := .type "list", data := .seq its.toArray }, toks := t' } :=
 I.laid (fun _ _ q => zq33x _ q) (zq5x _) ⟨hz, its, 0, hv, zq42x _ rfl⟩
theorem Inv.fresh (I : Inv X pins σ H s) : H s.heap.objs.size = none := I.hok.fresh (zq5x _)
theorem Inv.lstM (I : Inv X pins σ H s) (hH : H l = some (.lst xs)) : xs.length <= sizeLine /\ ∃ (its : List Value) (n : Nat), Vals xs its /\ xs.length = its.length /\ s.heap.get? l = some { cls := .type "list", data := .seq its.toArray n } := by
 obtain ⟨z, its, n, r, e⟩ := I.hok l _ hH
 exact ⟨z, its, n, r, r.length, e⟩
theorem notLongL {n : Nat} (h : n <= sizeLine) : Builtin.List.listTooLong n = false := by
 unfold Builtin.List.listTooLong
 exact decide_eq_false (by omega)
end
section
variable {X : Cx}
def rAppend : V -> List V -> Hp -> VK -> Prop := fun x vs H Q => ∃ l xs y, x = .ref l /\ vs = [y] /\ H l = some (.lst xs) /\ xs.length < sizeLine /\ Q .non (upd H l (.lst (xs ++ [y])))
theorem mt_append : MtM X "list.append" rAppend := by
 intro pins s σ H x vs v us Q I rx rv h
 obtain ⟨l, xs, y, rfl, rfl, hH, hz, q⟩ := h
 cases rx
 obtain ⟨u, rfl, ru⟩ := rv.one
 obtain ⟨z, its, n, r, hl, e⟩ := I.lstM hH
 refine call_meets F.slot_list_append ⟨_, e, rfl⟩ F.entry_list_append (F.args_list_append_2 _ _) (PySem.list_append l its.toArray n u (by rw [zq26x]; omega)) ⟨e, ?_⟩
 refine ⟨.non, _, I.lset (its' := its ++ [u]) hH e (by simp) (r.append (.cons ru .nil)) ?_, rfl, q⟩
 rw [zq30x, zq60x]
 omega
def rExtend : V -> List V -> Hp -> VK -> Prop := fun x vs H Q => ∃ l b xs zs, x = .ref l /\ vs = [.ref b] /\ H l = some (.lst xs) /\ H b = some (.lst zs) /\ xs.length + zs.length <= sizeLine /\ Q .non (upd H l (.lst (xs ++ zs)))
theorem mt_extend : MtM X "list.extend" rExtend := by
 intro pins s σ H x vs v us Q I rx rv h
 obtain ⟨l, b, xs, zs, rfl, rfl, hH, hB, hz, q⟩ := h
 cases rx
 obtain ⟨u, rfl, ru⟩ := rv.one
 cases ru
 obtain ⟨z, its, n, r, hl, e⟩ := I.lstM hH
 obtain ⟨z2, its2, n2, r2, hl2, e2⟩ := I.lstM hB
 have hsz : its.toArray.size + its2.toArray.size <= sizeLine := by rw [zq26x, zq26x]; omega
 have hlong : ¬ (!its.toArray.isEmpty && Builtin.List.listTooLong (its.toArray.size + its2.toArray.size)) = true := by
  rw [notLongL hsz, Bool.and_false]
  exact zq13x
 refine call_meets F.slot_list_extend ⟨_, e, rfl⟩ F.entry_list_extend (F.args_list_extend_2 _ _)
  (AutoSeq1.list_extend_list_list_0 l its.toArray n b its2.toArray n2 hlong (by rw [zq26x]; omega) (by omega)) ⟨e, e2, ?_⟩
 refine ⟨.non, _, I.lset (its' := its ++ its2) hH e (by simp) (r.append r2) ?_, rfl, q⟩
 rw [zq30x]
 omega
def rPopAt : V -> List V -> Hp -> VK -> Prop := fun x vs H Q => ∃ l xs i k y, x = .ref l /\ vs = [.int i] /\ H l = some (.lst xs) /\ -(2 ^ 63) <= i /\ i < 2 ^ 63 /\ seqIndex? i xs.length = some k /\ xs[k]? = some y /\ Q y (upd H l (.lst (xs.eraseIdx k)))
theorem mt_popAt : MtM X "list.pop" rPopAt := by
 intro pins s σ H x vs v us Q I rx rv h
 obtain ⟨l, xs, i, k, y, rfl, rfl, hH, h1, h2, hk, hy, q⟩ := h
 cases rx
 obtain ⟨u, rfl, ru⟩ := rv.one
 obtain ⟨t, rfl⟩ := ru
 obtain ⟨z, its, n, r, hl, e⟩ := I.lstM hH
 obtain ⟨w, hw, rw'⟩ := r.get hy
 refine call_meets F.slot_list_pop ⟨_, e, rfl⟩ F.entry_list_pop (F.args_list_pop_2 _ _)
  (MeetsSeq.list_pop_at l its.toArray n i t k w (fitsIndex_both h1 h2) (by rw [zq26x, <- hl]; exact hk) (by rw [<- zq164x]; exact hw) (by rw [zq26x]; omega)) ⟨e, ?_⟩
 refine ⟨y, _, I.lset (its' := its.eraseIdx k) hH e ?_ (r.eraseIdx k) ?_, rw', q⟩
 ·show its.toArray.eraseIdxIfInBounds k = (its.eraseIdx k).toArray
  rw [List.eraseIdxIfInBounds_toArray]
 ·have := len_erase xs k
  omega
def rCat : R2 := fun x y H Q => ∃ l b xs zs, x = .ref l /\ y = .ref b /\ H l = some (.lst xs) /\ H b = some (.lst zs) /\ xs.length + zs.length <= sizeLine /\ ∀ p, H p = none -> Q (.ref p) (upd H p (.lst (xs ++ zs)))
theorem op_cat : OpR X (binaryOp .Add) rCat := by
 intro pins s σ H x y v u Q I rx ry h
 obtain ⟨l, b, xs, zs, rfl, rfl, hH, hB, hz, q⟩ := h
 cases rx
 cases ry
 obtain ⟨z, its, n, r, hl, e⟩ := I.lstM hH
 obtain ⟨z2, its2, n2, r2, hl2, e2⟩ := I.lstM hB
 refine PySem.P.add_list e e2 ?_ (by rw [zq26x, zq26x]; omega)
 have ea : its.toArray ++ its2.toArray = (its ++ its2).toArray := by simp
 rw [ea]
 exact ⟨.ref _, _, I.lnew (t' := s.toks) (r.append r2) (by rw [zq30x]; omega), rfl, q _ I.fresh⟩
def rRep : R2 := fun x y H Q => ∃ l k xs, x = .ref l /\ y = .int k /\ H l = some (.lst xs) /\ -(2 ^ 63) <= k /\ k < 2 ^ 63 /\ xs.length * k.toNat <= sizeLine /\
 ∀ p, H p = none -> Q (.ref p) (upd H p (.lst (List.replicate k.toNat xs).flatten))
theorem len_rep {α : Type} (xs : List α) (k : Nat) : (List.replicate k xs).flatten.length = k * xs.length := by
 induction k with
 | zero => simp
 | succ k ih => rw [zq87x, zq110x, zq30x, ih, Nat.succ_mul, Nat.add_comm]
theorem op_rep : OpR X (binaryOp .Mult) rRep := by
 intro pins s σ H x y v u Q I rx ry h
 obtain ⟨l, k, xs, rfl, rfl, hH, h1, h2, hz, q⟩ := h
 cases rx
 obtain ⟨t, rfl⟩ := ry
 obtain ⟨z, its, n, r, hl, e⟩ := I.lstM hH
 have hlen : its.toArray.size * k.toNat <= sizeLine := by rw [zq26x, <- hl]; exact hz
 have hcap : ¬ its.toArray.size * k.toNat > (2 ^ 63 - 1) / 8 := by
  have : (sizeLine : Nat) <= (2 ^ 63 - 1) / 8 := by decide
  omega
 have hfit : ¬ (!Builtin.List.listFitsIndex k) = true := by
  rw [fitsIndex_both h1 h2]
  exact zq13x
 have hlong : ¬ Builtin.List.listTooLong (its.toArray.size * k.toNat) = true := by
  rw [notLongL hlen]
  exact zq13x
 have hnew : List.foldl (fun x1 x2 => x1 ++ x2) #[] (List.replicate (if its.toArray.isEmpty = true then 0 else k.toNat) its.toArray) = (List.replicate k.toNat its).flatten.toArray := by
  have f0 : ∀ m : Nat, List.foldl (fun x1 x2 => x1 ++ x2) #[] (List.replicate m its.toArray) = (List.replicate m its).flatten.toArray := fun m => by
   have := foldl_rep its m []
   rw [List.nil_append] at this
   exact this
  rw [f0]
  cases its with
  | nil => simp
  | cons a r' => rw [if_neg (by simp)]
 refine wpAny_binaryOp_repeat_ref (T := "list") (U := "int") (by decide) ⟨_, e, rfl⟩ (fun s' => typeIs_int s' k t) noFill_list_mul F.fills_int_mul F.slot_int_rmul repeat_list F.slot_int_index.lookup
  (call_meets F.slot_int_rmul (typeIs_int s k t) F.entry_int_rmul (F.args_int_rmul_2 _ _) (int___rmul___int_list k t l its.toArray n)
   ⟨e, rfl, ⟨_, e, rfl⟩, call_meets F.slot_list_mul ⟨_, e, rfl⟩ F.entry_list_mul (F.args_list_mul_2 _ _) (AutoListH.list___mul___list_int_3 l its.toArray n k t hfit hcap hlong) ⟨e, ?_⟩⟩)
 rw [hnew]
 exact ⟨.ref _, _, I.lnew (t' := s.toks) (r.rep k.toNat) (by rw [len_rep, zq97x]; exact hz), rfl, q _ I.fresh⟩
end
end L2
namespace Att
open PySem PySem.W PySem.Calls PyProof.Rows
theorem ints_of_wellAll {P : Params} {h : Heap} : ∀ (ns : List Int) (vs : List Value), WellAll P h vs (ns.map WData.int) -> IntsAre vs ns := by
  intro ns
  induction ns with
  | nil =>
    intro vs w
    rw [zq98x] at w
    cases w
    exact .nil
  | cons n ns ih =>
    intro vs w
    rw [zq4x] at w
    cases w with
    | cons a b =>
      cases a
      exact .cons _ _ (ih _ b)
theorem script_of {l : OpenLaw} {n : Nat} (hn : l.most = some n) {P : Params} {h : Heap} {args : List WData} {vals : List Value}
    (hpre : l.row.toRowW.claim.pre args = true) (hwl : WellAll P h vals args) :
    ∃ a vs ns, vals = [Value.ref a] /\ args = [WData.list (ns.map WData.int)] /\ h.get? a = some { cls := .type "list", data := .seq vs.toArray } /\ IntsAre vs ns /\ ns.length <= n := by
  have hsh : WShape.hasAll [] args [.list .int] = true := (pre_splitW hpre).1
  have hc : l.pre.holds [] { args := args } = true := (pre_splitW hpre).2
  obtain ⟨d, r, rfl, h1, h2⟩ := hasAllW_cons hsh
  obtain rfl := hasAllW_nil h2
  obtain ⟨xs, rfl, h3⟩ := hasW_list h1
  obtain ⟨ns, rfl⟩ := items_int h3
  have hlen : ns.length <= n := by
    unfold OpenLaw.pre at hc
    have h4 : (WTm.not (.lt (.lit (.int (n : Int))) (.len (.arg 0)))).holds [] { args := [.list (ns.map .int)] } = true := by
      have h4 := (holds_andW hc).1
      rw [hn] at h4
      exact h4
    have h5 := condW_of h4 (w_not (w_lt w_lit (w_len_list (w_arg rfl))))
    rw [zq0x] at h5
    refine Nat.le_of_not_lt fun q => ?_
    have q' : (n : Int) < ((ns.length : Nat) : Int) := by omega
    first
      | (rw [decide_eq_true q'] at h5; exact absurd h5 (by decide))
      | (simp at h5; omega)
  cases hwl with
  | cons w1 w2 =>
    cases w2
    cases w1 with
    | list ho hall => exact ⟨_, _, ns, rfl, rfl, ho, ints_of_wellAll ns _ hall, hlen⟩
theorem post_true (l : OpenLaw) (args : List WData) : l.row.toRowW.claim.post args (.bool true) args = true :=
 postW_of (r := l.row.toRowW) (X := (true == true))
  (show WShape.has [] (.bool true) .bool = true by first | rfl | decide | simp [WShape.has, WShape.arms, WShape.armsAll])
  (show (WTm.eq .res (.lit (.bool true))).value [] { args := args, res := some (.bool true), after := args } = some (.bool (true == true)) from w_eq_bool (w_res rfl) w_lit) rfl
theorem attach_call {l : OpenLaw} {n : Nat} {q : Program} {loose : List Str} {XP : (Str -> Option Value) -> Heap -> Prop} {YP : World -> Heap -> Prop} {d : DefRec}
  (hn : l.most = some n) (hdf : d.params.defaults = [])
  (call : ∀ (w : World) (s₀ s₁ : Shared) (mg mb : Str -> Option Value) (fa : Addr) (o : Obj) (pm cd doc : Value) (a : Addr) (vs : List Value) (ns : List Int),
   Ground q loose [] XP w s₀ mg mb s₁.heap -> YP w s₁.heap ->
   s₁.heap.get? fa = some o -> o.data = .func (docDef d.name d.params d.body d.scope pm cd doc) -> s₁.heap.CodeRec cd d.name -> mg d.name = some (.ref fa) ->
   s₁.heap.get? a = some { cls := .type "list", data := .seq vs.toArray } -> IntsAre vs ns -> ns.length <= n -> s₁.gens = #[] ->
   codeAny (model l.prog w) callerA (.call (.ref fa) ⟨[.ref a], []⟩) (fun r s' => r = .ok (.ret (.bool true)) /\ OldK s₁.heap s'.heap /\ s'.os = s₁.os /\ AllBare s'.gens) s₁) :
  WalkO q loose XP YP l.row.toRowW d [] (fun f vs => PySem.call f vs) := by
 intro w s₀ s₁ mg mb G Y fa o pm cd doc dV kV ho hd hcd hD hmg hg args vals as hpre hlay hrd hwl hlo
 obtain rfl : dV = .none := Dflts.none hD hdf
 obtain rfl : kV = .none := Dflts.noKw hD
 obtain ⟨a, vs, ns, rfl, rfl, hobj, hints, hlen⟩ := script_of hn hpre hwl
 refine enter_call (codeAny_mono (call w s₀ s₁ mg mb fa o pm cd doc a vs ns G Y ho (fd_plain hd) hcd hmg hobj hints hlen hg) fun r s' hq => ?_)
 obtain ⟨rfl, h2, h3, h4⟩ := hq
 exact ⟨.inl ⟨.bool true, .bool true, [], rfl, fun _ => rfl, .bool true, post_true l _, fun _ => ⟨List.Pairwise.nil, fun _ hm => (nomatch hm)⟩⟩, h2, h3, h4⟩
section
variable {prog : Program} {w : World} {A : Around} {E : Value -> Shared -> Prop} {s : Shared} {K : Frag}
def ledger (h : Heap) (L d : Addr) : List (Addr × Obj) := (List.range h.objs.size).filterMap fun a => if a = L \/ a = d then none else (h.get? a).map fun o => (a, o)
end
end Att
namespace L2
open PySem PySem.Spec PyProof.Rows
theorem vals_ints : ∀ {vs : List Value} {ns : List Int}, IntsAre vs ns -> Vals (ns.map V.int) vs
 | _, _, .nil => .nil
 | _, _, .cons n t h => .cons ⟨t, rfl⟩ (vals_ints h)
def Only (H : Hp) : Prop := ∀ b, H b = none \/ ∃ o xs, H b = some (.frz o (.lst xs))
theorem law_call {P : Program} {w : World} {K : PySem.W.Frag} {mg mb : Str -> Option Value} {CX : CXT} {k : Nat} {fa a : Addr} {fd : FuncData} {x : Str} {sp : Sp} {s₁ : Shared} {vs : List Value} {ns : List Int}
    (KX : K.In s₁.heap) (hns : s₁.heap.Ns mainGlobals mg) (hb : s₁.heap.Ns builtinsNs mb) (hbb : ∀ x : Str, x ≠ "__name__" -> mb x = bootBuiltins x) (hlim : s₁.heap.NoLimit) (hg : s₁.gens = #[])
    (ha : s₁.heap.get? a = some { cls := .type "list", data := .seq vs.toArray }) (hi : IntsAre vs ns) (hl : ns.length <= sizeLine) (hr : Room k callerA)
    (F : ∀ base : Heap, K.In base -> base.Ns mainGlobals mg -> FnOk P w K mg base CX k fa fd [x] sp) (hbind : ∀ (s : Shared) (u : Value), BindsTo s fd ⟨[u], []⟩ [(x, u)])
    (hsp : ∀ H : Hp, Only H -> SqL K H a (ns.map V.int) -> sp [.ref a] H (fun v _ => v = .bl true) fun _ _ _ => False)
    (hCX : ∀ H e s', CX [] H s₁ (fun _ _ _ => False) e s' -> False) :
    codeAny (model P w) callerA (.call (.ref fa) ⟨[.ref a], []⟩) (fun r s' => r = .ok (.ret (.bool true)) /\ OldK s₁.heap s'.heap /\ s'.os = s₁.os /\ AllBare s'.gens) s₁ := by
  have rv := vals_ints hi
  have lenV := hi.length
  have core : ∀ H : Hp, Only H -> SqL K H a (ns.map V.int) -> HOk P w H s₁.heap -> (∀ b, H b ≠ none -> b = a) -> (H a ≠ none -> K.lookup a = none) ->
      codeAny (model P w) callerA (.call (.ref fa) ⟨[.ref a], []⟩) (fun r s' => r = .ok (.ret (.bool true)) /\ OldK s₁.heap s'.heap /\ s'.os = s₁.os /\ AllBare s'.gens) s₁ := by
    intro H hO hS hok hA hK
    have base_of : ∀ {b : Addr} {o : Obj}, s₁.heap.get? b = some o -> H b = none -> (hidT s₁.heap H).get? b = some o := fun e n => hidT_get e n
    have noA : ∀ {b : Addr} {o : Obj} {es : Array DictEntry} {ep : Nat}, s₁.heap.get? b = some o -> o.data = .dict es ep -> H b = none := fun {b o es ep} e d => by
      cases q : H b with
      | none => rfl
      | some u =>
        have e' : b = a := hA b (by rw [q]; simp)
        subst e'
        rw [ha] at e; cases e
        have d' : Data.seq vs.toArray _ = Data.dict es ep := d
        cases d'
    have nsK : ∀ {b : Addr} {m : Str -> Option Value}, s₁.heap.Ns b m -> (hidT s₁.heap H).Ns b m := fun {b m} ⟨o, es, ep, e, d, r⟩ => ⟨o, es, ep, base_of e (noA e d), d, r⟩
    have hKb : K.In (hidT s₁.heap H) := fun b o e => base_of (KX b o e) (by
      cases q : H b with
      | none => rfl
      | some u =>
        have e' : b = a := hA b (by rw [q]; simp)
        subst e'
        rw [hK (by rw [q]; simp)] at e; cases e)
    have hM : Mod K mg (hidT s₁.heap H) := ⟨hKb, nsK hns, ⟨mb, nsK hb, hbb⟩, let ⟨mc, h1, h2⟩ := hlim; ⟨mc, nsK h1, h2⟩⟩
    have e0 : Env0 P w K mg (hidT s₁.heap H) callerA [] s₁ H := ⟨rfl, hM, fun b o e => of_hidT e, Nat.le_of_eq (hidT_size _ _), trivial, fun b hb => absurd (show b ∈ ([] : List Addr) from hb) (by simp), hok, .of_eq hg⟩
    refine codeAny_mono ((F _ hKb (nsK hns)).run callerA [] s₁ H ⟨[.ref a], []⟩ [.ref a] [.ref a] _ _ hr e0 (hbind s₁ (.ref a)) (.cons rfl .nil) (hsp H hO hS)) fun r s' h => ?_
    cases r with
    | error e => exact (hCX H e s' h).elim
    | ok fl =>
      cases fl with
      | next => exact False.elim h
      | brk => exact False.elim h
      | cont => exact False.elim h
      | ret u =>
        obtain ⟨v, H', os, bare, un, hok', r', q⟩ := h
        have q' : v = .bl true := q
        subst q'
        obtain rfl : u = Value.bool true := r'
        refine ⟨rfl, OldK.of_keep fun b o e => ?_, os, bare⟩
        cases q : H b with
        | none => exact un.keep b o e q (by intro z; exact absurd (show b ∈ ([] : List Addr) from z) (by simp)) (by simp)
        | some u =>
          rcases hO b with z | ⟨ob, xs, z⟩
          · rw [q] at z; cases z
          · have z2 := un.frzs b ob _ z
            obtain ⟨e1, _⟩ := hok b _ z
            obtain ⟨e2, _⟩ := hok' b _ z2
            rw [e] at e1; cases e1
            exact e2
  cases hk : K.lookup a with
  | some o =>
    have e := KX a o hk
    rw [ha] at e
    cases e
    refine core (fun _ => none) (fun _ => .inl rfl) (.inr ⟨_, vs.toArray, _, hk, rfl, rfl, rfl, by rw [zq26x, lenV]; exact hl, by simpa using rv⟩) (fun b u z => by have z' : (none : Option HO) = some u := z; cases z') (fun b z => absurd rfl z) fun z => absurd rfl z
  | none =>
    refine core (fun b => if b = a then some (.frz { cls := .type "list", data := .seq vs.toArray } (.lst (ns.map V.int))) else none) (fun b => ?_) (.inl (.inr ⟨{ cls := .type "list", data := .seq vs.toArray }, if_pos rfl⟩)) (fun b u z => ?_) (fun b z => ?_) fun _ => hk
    · by_cases hb : b = a
      · exact .inr ⟨_, _, if_pos hb⟩
      · exact .inl (if_neg hb)
    · by_cases hb : b = a
      · have z' := (if_pos hb).symm.trans z
        cases z'
        subst hb
        exact ⟨ha, by rw [zq0x]; exact hl, vs, _, rv, ha⟩
      · have z' := (if_neg hb).symm.trans z
        cases z'
    · by_cases hb : b = a
      · exact hb
      · exact absurd (if_neg hb) z
theorem walk_of {l : PySem.W.OpenLaw} {n k : Nat} {q : Program} {loose : List Str} {XP : (Str -> Option Value) -> Heap -> Prop} {YP : World -> Heap -> Prop} {d : DefRec} {K : Params -> PySem.W.Frag} {CX : World -> CXT} {sp : World -> Sp} {x : Str}
  (hn : l.most = some n) (hn2 : n <= sizeLine) (hdf : d.params.defaults = []) (hr : Room k callerA)
  (hY : ∀ (w : World) (h : Heap), YP w h -> (K w.params).In h)
  (F : ∀ (w : World) (mg : Str -> Option Value) (fa : Addr) (h : Heap), (K w.params).In h -> h.Ns mainGlobals mg -> mg d.name = some (.ref fa) ->
   ∃ fd : FuncData, (∀ (s : Shared) (u : Value), BindsTo s fd ⟨[u], []⟩ [(x, u)]) /\
    ∀ base : Heap, (K w.params).In base -> base.Ns mainGlobals mg -> FnOk l.prog w (K w.params) mg base (CX w) k fa fd [x] (sp w))
  (hsp : ∀ (w : World) (H : Hp) (a : Addr) (ns : List Int), ns.length <= n -> Only H -> SqL (K w.params) H a (ns.map V.int) -> sp w [.ref a] H (fun v _ => v = .bl true) fun _ _ _ => False)
  (hCX : ∀ (w : World) (H : Hp) (s : Shared) (e : Value) (s' : Shared), CX w [] H s (fun _ _ _ => False) e s' -> False) :
  PySem.W.WalkO q loose XP YP l.row.toRowW d [] (fun f vs => PySem.call f vs) := by
 refine Att.attach_call hn hdf fun w s₀ s₁ mg mb fa o pm cd doc a vs ns G Y ho hd hcd hmg hobj hints hlen hg => ?_
 have KX := hY w _ Y
 obtain ⟨fd, hb, hF⟩ := F w mg fa _ KX G.T.g hmg
 exact law_call KX G.T.g G.T.b G.T.builtins G.T.nolimit hg hobj hints (zq28x hlen hn2) hr hF hb (fun H hO hS => hsp w H a ns hlen hO hS) fun H e s' => hCX w H s₁ e s'
end L2
/- THE LAST THEOREM (shape; LID, My.* are yours):
   My.Adr: a structure of the addresses that your layer names (classes, functions); My.Txt K t: a structure (Prop) of the equations over K;
   My.txt_mk : {K} {implicit addresses ..} (e1 : nsIn K mainGlobals "law" = some (some (.ref f))) (e2 : K.lookup f = some ⟨oc, od, .func (fnOf "law" "law" params body scope dV kV doc pm an cdv ct), sl⟩) (e3 : codeIn K cdv "law" = true) .. : ∃ t, My.Txt K t
set_option maxRecDepth 100000 in
set_option maxHeartbeats 0 in
(the tactic k_is has no namespace: write k_is) -/
namespace L2
open PySem PySem.Spec PyProof.Rows
def inClass (s : Stmt) (j : Nat) : Stmt := match s with
 | .ClassDef _ _ _ body _ _ _ _ _ _ _ => body.getD j (.Pass ⟨0, 0, 0, 0⟩)
 | _ => .Pass ⟨0, 0, 0, 0⟩
def defArgs (s : Stmt) : Arguments := match s with
 | .FunctionDef _ a _ _ _ _ _ _ _ _ => a
 | _ => { posonlyargs := [], args := [], vararg := none, kwonlyargs := [], kw_defaults := [], kwarg := none, defaults := [] }
def defBody (s : Stmt) : List Stmt := match s with
 | .FunctionDef _ _ b _ _ _ _ _ _ _ => b
 | _ => []
def defScope (s : Stmt) : Scope := match s with
 | .FunctionDef _ _ _ _ _ _ sc _ _ _ => sc
 | _ => { kind := .function, names := [], isGenerator := false, isCoroutine := false }
abbrev CX0 : CXT := fun _ _ _ _ _ _ => False
abbrev E0 : XK := fun _ _ _ => False
theorem pass0 {X : Cx} : Passes CX0 X E0 := fun _ _ _ _ _ _ _ h => h.elim
structure Fun (K : PySem.W.Frag) (x qual : Str) (st : Stmt) (f : Addr) (fd : FuncData) : Prop where
 ex : ∃ (oc : Value) (od : Option Addr) (kV doc pm : Value) (an : Option Addr) (cdv ct : Value) (osl : Array (Option Value)),
  fd = PySem.W.fnOf x qual (defArgs st) (defBody st) (defScope st) .none kV doc pm an cdv ct /\ K.lookup f = some ⟨oc, od, .func fd, osl⟩ /\ PySem.W.codeIn K cdv qual = true
 kp : PySem.W.keepIn K (.ref f) = true
section
variable {P : Program} {w : World} {K : PySem.W.Frag} {mg : Str -> Option Value} {base : Heap}
theorem Fun.ok {x qual : Str} {st : Stmt} {f : Addr} {fd : FuncData} {N ps : List Str} {k : Nat} {sp : Sp} (F : Fun K x qual st f fd) (S : FnScope N ps (defScope st)) (len : ∀ vs H Q E, sp vs H Q E -> vs.length = ps.length)
  (hbody : ∀ (cdv : Value) (A : Around) (outer : List Env) (s : Shared) (H : Hp) (vs : List V) (Q : VK) (E : XK), Room k (A.deeper (envOfC qual (defScope st) s.heap.objs.size f cdv)) -> sp vs H Q E ->
   ∃ t, PSs (cxOf CX0 P w K mg base N qual (defScope st) f cdv A outer s H E).nox (defBody st) t /\ t { nx := fun _ H' => Q .non H', rt := Q } (start N vs) H) : FnOk P w K mg base CX0 (k + 1) f fd ps sp := by
 obtain ⟨oc, od, kV, doc, pm, an, cdv, ct, osl, rfl, lk, hcd⟩ := F.ex
 refine fn_of lk hcd S len fun A outer s H vs Q E hr hsp => ?_
 obtain ⟨t, h, q⟩ := hbody cdv A outer s H vs Q E hr hsp
 exact ⟨t, h.nox, q⟩
theorem Fun.binds {x qual : Str} {st : Stmt} {f : Addr} {fd : FuncData} {ps : List Str} (F : Fun K x qual st f fd)
  (h : ∀ (kV doc pm : Value) (an : Option Addr) (cdv ct : Value) (us : List Value), us.length = ps.length -> bindArgs (PySem.W.fnOf x qual (defArgs st) (defBody st) (defScope st) .none kV doc pm an cdv ct) ⟨us, []⟩ = pure (ps.zip us)) : Binds K fd ps [] := by
 obtain ⟨oc, od, kV, doc, pm, an, cdv, ct, osl, rfl, lk, hcd⟩ := F.ex
 exact .all (h kV doc pm an cdv ct)
theorem fun_mk {x qual : Str} {st : Stmt} {f : Addr} {oc : Value} {od an : Option Addr} {osl : Array (Option Value)} {kV doc pm cdv ct : Value} (l : K.lookup f = some ⟨oc, od, .func (PySem.W.fnOf x qual (defArgs st) (defBody st) (defScope st) .none kV doc pm an cdv ct), osl⟩)
  (c : PySem.W.codeIn K cdv qual = true) (k : PySem.W.keepIn K (.ref f) = true) : Fun K x qual st f (PySem.W.fnOf x qual (defArgs st) (defBody st) (defScope st) .none kV doc pm an cdv ct) := ⟨⟨oc, od, kV, doc, pm, an, cdv, ct, osl, rfl, l, c⟩, k⟩
end
theorem small1000 {n : Nat} (h : n <= 1000) : n < sizeLine := Nat.lt_of_le_of_lt h (by decide)
section
variable {X : Cx}
theorem pv (i : Nat) {x : Str} {pos : Pos} (hN : X.N[i]? = some x := by rfl) (hv : Vis X.env.scope x := by first | exact Or.inl rfl | exact Or.inr (Or.inl rfl) | exact Or.inr (Or.inr rfl)) (hd : (x == ("__debug__" : Str)) = false := by decide)
  (hcd : (x == ("__classdict__" : Str)) = false := by decide) : PE X (.Name x pos) (tVar i) := pe_var hN hv hd hcd
end
theorem iteF {A B : Prop} (h : B) : if false = true then A else B := by
 rw [if_neg zq13x]
 exact h
theorem iteT {A B : Prop} (h : A) : if true = true then A else B := by
 rw [if_pos rfl]
 exact h
theorem ite2 {c A B : Prop} [Decidable c] (h1 : c -> A) (h2 : ¬ c -> B) : if c then A else B := by
 by_cases h : c
 ·rw [if_pos h]
  exact h1 h
 ·rw [if_neg h]
  exact h2 h
def Same (H H' : Hp) : Prop := ∀ b o, H b = some o -> H' b = some o
theorem Same.refl (H : Hp) : Same H H := fun _ _ h => h
theorem Same.trans {H H1 H2 : Hp} (a : Same H H1) (b : Same H1 H2) : Same H H2 := fun c o h => b c o (a c o h)
theorem Same.free {H H' : Hp} (e : Same H H') {l : Addr} (h : H' l = Option.none) : H l = Option.none := by
  cases q : H l with
  | none => rfl
  | some o =>
    rw [e l o q] at h
    cases h
theorem Same.seq {K : PySem.W.Frag} {H H' : Hp} {a : Addr} {xs : List V} (e : Same H H') (h : SqL K H a xs) : SqL K H' a xs := by
 rcases h with (h | ⟨o, h⟩) | h
 ·exact .inl (.inl (e _ _ h))
 ·exact .inl (.inr ⟨o, e _ _ h⟩)
 ·exact .inr h
end L2
set_option maxHeartbeats 1000000
namespace L2
open PySem PySem.Spec PyProof.Rows
def clOf (cells : List (Str × Addr)) : List (Str × NameKind) -> List (Str × Addr) -> List (Str × Addr)
 | [], acc => acc
 | (n, k) :: r, acc => clOf cells r (if k == NameKind.free then (match cells.lookup n with | some a => (n, a) :: acc | none => acc) else acc)
theorem clOf_run {env : Env} {f : Str × NameKind -> List (Str × Addr) -> Sem (ForInStep (List (Str × Addr)))}
    (hf : ∀ x acc, f x acc = if (x.2 == NameKind.free) = true then (do let a <- cellOf env x.1; pure (ForInStep.yield ((x.1, a) :: acc))) else pure (ForInStep.yield acc)) :
    ∀ (l : List (Str × NameKind)) (acc : List (Str × Addr)), (∀ x ∈ l, x.2 = .free -> ∃ a, env.cells.lookup x.1 = some a) -> (forIn l acc f : Sem (List (Str × Addr))) = pure (clOf env.cells l acc)
  | [], acc, _ => by rw [List.forIn_nil]; rfl
  | (n, k) :: r, acc, h => by
    have hr := fun x hx => h x (zq23x _ hx)
    rw [List.forIn_cons, hf]
    by_cases hk : (k == NameKind.free) = true
    · have hk' : k = NameKind.free := by simpa using hk
      obtain ⟨a, ha⟩ := h (n, k) zq19x hk'
      have hc : cellOf env n = pure a := by unfold cellOf; rw [ha]
      rw [if_pos hk, hc]
      show (forIn r ((n, a) :: acc) f : Sem (List (Str × Addr))) = pure (clOf env.cells r _)
      rw [clOf_run hf r _ hr, if_pos hk, ha]
    · rw [if_neg hk]
      show (forIn r acc f : Sem (List (Str × Addr))) = pure (clOf env.cells r _)
      rw [clOf_run hf r _ hr, if_neg hk]
theorem closureFor_eq {scope : Scope} {env : Env} (h : ∀ x ∈ scope.names, x.2 = .free -> ∃ a, env.cells.lookup x.1 = some a) : closureFor scope env = pure (clOf env.cells scope.names []) := by
 simp only [closureFor]
 rw [clOf_run (env := env) (fun ⟨n, k⟩ acc => by dsimp only) scope.names [] h]
 rfl
theorem clOf_sub {cells : List (Str × Addr)} : ∀ {l : List (Str × NameKind)} {acc : List (Str × Addr)} {x : Str} {c : Addr}, (∀ y d, acc.lookup y = some d -> cells.lookup y = some d) -> (clOf cells l acc).lookup x = some c -> cells.lookup x = some c
  | [], _, _, _, ha, h => ha _ _ h
  | (n, k) :: r, acc, x, c, ha, h => by
    refine clOf_sub (l := r) ?_ h
    intro y d hd
    by_cases hk : (k == NameKind.free) = true
    · rw [if_pos hk] at hd
      cases q : cells.lookup n with
      | none => rw [q] at hd; exact ha _ _ hd
      | some a =>
        rw [q] at hd
        by_cases hy : (y == n) = true
        · have hy' : y = n := by simpa using hy
          subst hy'
          simp [zq10x] at hd
          rw [q, hd]
        · have hy' : (y == n) = false := by simpa using hy
          simp only [zq10x, hy'] at hd
          exact ha _ _ hd
    · rw [if_neg hk] at hd; exact ha _ _ hd
theorem clOf_keep {cells : List (Str × Addr)} : ∀ {l : List (Str × NameKind)} {acc : List (Str × Addr)} {x : Str}, (acc.lookup x).isSome = true -> ((clOf cells l acc).lookup x).isSome = true
  | [], _, _, h => h
  | (n, k) :: r, acc, x, h => by
    refine clOf_keep (l := r) ?_
    by_cases hk : (k == NameKind.free) = true
    · rw [if_pos hk]
      cases q : cells.lookup n with
      | none => exact h
      | some a =>
        by_cases hy : (x == n) = true
        · simp [zq10x, hy]
        · have hy' : (x == n) = false := by simpa using hy
          simp only [zq10x, hy']
          exact h
    · rw [if_neg hk]; exact h
theorem clOf_has {cells : List (Str × Addr)} : ∀ {l : List (Str × NameKind)} {acc : List (Str × Addr)} {x : Str} {a : Addr}, (x, NameKind.free) ∈ l -> cells.lookup x = some a -> ((clOf cells l acc).lookup x).isSome = true
  | [], _, _, _, h, _ => nomatch h
  | (n, k) :: r, acc, x, a, h, hc => by
    rcases zq2x.mp h with e | h
    · obtain ⟨rfl, rfl⟩ := Prod.mk.inj e
      refine clOf_keep (l := r) ?_
      rw [if_pos (by decide), hc]
      simp [zq10x]
    · exact clOf_has (l := r) h hc
theorem clOf_look {cells : List (Str × Addr)} {l : List (Str × NameKind)} {x : Str} {a : Addr} (h : (x, NameKind.free) ∈ l) (hc : cells.lookup x = some a) : (clOf cells l []).lookup x = some a := by
 obtain ⟨c, e⟩ := zq161x.mp (clOf_has (acc := []) h hc)
 have := clOf_sub (fun y d (q : ([] : List (Str × Addr)).lookup y = some d) => by simp at q) e
 rw [hc] at this; cases this
 exact e
theorem relabel_look {env : Env} : ∀ {l : List (Str × NameKind)} {x : Str} {k : NameKind}, (∀ y ∈ l, y.2 ≠ .cell) ->
    (l.map fun (n, k) => if (k == NameKind.free && env.scope.kind == .function && env.kindOf n == some .cell) then (n, NameKind.cell) else (n, k)).lookup x = some k -> k = .cell \/ k = .free -> l.lookup x = some .free
  | [], _, _, _, h, _ => by simp at h
  | (n, q) :: r, x, k, hc, h, hk => by
    have hr := fun y hy => hc y (zq23x _ hy)
    have ih := relabel_look (env := env) (l := r) (x := x) (k := k) hr
    rw [zq4x] at h
    dsimp only at h
    by_cases hx : (x == n) = true
    · simp only [zq10x, hx]
      by_cases hq : (q == NameKind.free && env.scope.kind == .function && env.kindOf n == some .cell) = true
      · have : q = .free := by
          simp only [zq24x] at hq
          simpa using hq.1.1
        rw [this]
      · rw [if_neg hq] at h
        simp only [zq10x, hx] at h
        have hqk : q = k := zq36x h
        rcases hk with e | e
        · exact absurd (hqk.trans e) (hc (n, q) zq19x)
        · rw [hqk, e]
    · have hx' : (x == n) = false := by simpa using hx
      simp only [zq10x, hx']
      refine ih ?_ hk
      by_cases hq : (q == NameKind.free && env.scope.kind == .function && env.kindOf n == some .cell) = true
      · rw [if_pos hq] at h
        simp only [zq10x, hx'] at h
        exact h
      · rw [if_neg hq] at h
        simp only [zq10x, hx'] at h
        exact h
theorem relabel_free {env : Env} : ∀ {l : List (Str × NameKind)} {x : Str}, l.lookup x = some .free ->
    (l.map fun (n, k) => if (k == NameKind.free && env.scope.kind == .function && env.kindOf n == some .cell) then (n, NameKind.cell) else (n, k)).lookup x = some .cell \/
    (l.map fun (n, k) => if (k == NameKind.free && env.scope.kind == .function && env.kindOf n == some .cell) then (n, NameKind.cell) else (n, k)).lookup x = some .free
  | [], _, h => by simp at h
  | (n, q) :: r, x, h => by
    have ih := relabel_free (env := env) (l := r) (x := x)
    rw [zq4x]
    dsimp only
    by_cases hx : (x == n) = true
    · simp only [zq10x, hx] at h
      by_cases hq : (q == NameKind.free && env.scope.kind == .function && env.kindOf n == some .cell) = true
      · rw [if_pos hq]
        left
        simp only [zq10x, hx]
      · rw [if_neg hq]
        right
        simp only [zq10x, hx]
        exact h
    · have hx' : (x == n) = false := by simpa using hx
      simp only [zq10x, hx'] at h
      have := ih h
      by_cases hq : (q == NameKind.free && env.scope.kind == .function && env.kindOf n == some .cell) = true
      · rw [if_pos hq]
        simp only [zq10x, hx']
        exact this
      · rw [if_neg hq]
        simp only [zq10x, hx']
        exact this
def compOkB (sx : Scope) (NX : List Str) (scope : Scope) (N : List Str) (mp : List (Option Nat)) : Bool :=
 (scope.kind == .function) && scope.names.all (fun y => y.2 != .cell) && scope.names.all (fun y => y.2 != .local || scope.names.lookup y.1 == some .local) &&
 scope.names.all (fun y => y.2 != .free || sx.names.lookup y.1 == some .cell || sx.names.lookup y.1 == some .free) && (mp.length == N.length) &&
 ((N.zip mp).all fun p => match p.2 with | none => true | some j => NX[j]? == some p.1 && scope.names.lookup p.1 == some .free)
def startC (mp : List (Option Nat)) (σ : St) : St := mp.map fun o => match o with | none => none | some j => match σ[j]? with | some v => v | none => none
def PTs (X : Cx) (ifs : List Expr) (t : TT) : Prop :=
 ∀ (pins : List (Addr × Obj)) (s : Shared) (σ : St) (H : Hp) (Q : Bool -> Hp -> Prop), Inv X pins σ H s -> t σ H Q ->
  wpAny (model X.prog X.w) X.A (forIn ifs true fun c r => if r = true then do let ok <- isTrue c X.env (eval c X.env); pure (ForInStep.yield ok) else pure (ForInStep.yield r)) (TP X pins σ Q) X.xe s
def tNoTest : TT := fun _ H Q => Q true H
theorem pts_nil {X : Cx} : PTs X [] tNoTest := fun pins s σ H Q I h => wpAny_tests_nil ⟨H, I, h⟩
theorem pts_one {X : Cx} {c : Expr} {t : TT} (h : PT X c t) : PTs X [c] t := fun pins s σ H Q I q => wpAny_tests_one (h pins s σ H Q I q)
def CompW (J : It) (g : TG) (tc : TT) (te : TE) (acc : Addr) (Qe : Hp -> Prop) (σ : St) (H : Hp) : Prop := ∃ W : Nat -> Nat -> St -> Hp -> Prop, (∃ m, W 0 m σ H) /\ ∀ i m σ H, W i m σ H ->
 (J.stop i H /\ Qe H) \/ (J.go i H /\ ∃ Nx : St -> Hp -> Prop, (∀ σ' H', Nx σ' H' -> ∃ m', m' < m /\ W (i + 1) m' σ' H') /\ ∀ x H', J.yld i H x H' -> g x σ H' fun σ2 H2 => tc σ2 H2 fun b H3 =>
  if b = true then te σ2 H3 fun v H4 => ∃ ys, H4 acc = some (.lst ys) /\ ys.length < sizeLine /\ Nx σ2 (upd H4 acc (.lst (ys ++ [v]))) else Nx σ2 H3)
def tComp (wi : TI) (g : TG) (tc : TT) (te : TE) (mp : List (Option Nat)) : TE := fun σ H Q => wi σ H fun J H1 => ∀ acc, H1 acc = none -> CompW J g tc te acc (fun H' => Q (.ref acc) H') (startC mp σ) (upd H1 acc (.lst []))
section
variable {prog : Program} {w : World} {A : Around} {R : Result -> Shared -> Prop} {s : Shared}
theorem codeAny_compLoop_own {elt target iter : Expr} {ifs : List Expr} {scope : Scope} {pos : Pos} {it acc : Value} {env : Env} (I : Nat -> Shared -> Prop)
    (turn : ∀ n s, I n s -> wpAny (model prog w) A (pyNext it) (fun r s₁ => match r with
      | none => R (.ok .next) s₁
      | some v => wpAny (model prog w) A (letOwnedTupleGo target it v) (fun _ s₀ => wpAny (model prog w) A (assign target env v) (fun _ s₂ =>
          wpAny (model prog w) A (forIn ifs true fun c r => if r = true then do let ok <- isTrue c env (eval c env); pure (ForInStep.yield ok) else pure (ForInStep.yield r)) (fun ok s₃ =>
            if ok = true then wpAny (model prog w) A (eval elt env) (fun x s₄ =>
              wpAny (model prog w) A (call (.builtin "list.append") [acc, x]) (fun _ s₅ => ∃ m, m < n /\ I m s₅) (fun _ _ => False) s₄) (fun _ _ => False) s₃
            else ∃ m, m < n /\ I m s₃) (fun _ _ => False) s₂) (fun _ _ => False) s₀) (fun _ _ => False) s₁) (fun _ _ => False) s)
    (n : Nat) (h : I n s) :
    codeAny (model prog w) A (.compLoop (.ListComp elt [⟨target, iter, ifs, 0⟩] scope pos) 0 it acc env) R s := by
  refine codeAny_loop rfl I (fun n s hI => ?_) n h
  show wpAny _ A ((compTurn (.ListComp elt [⟨target, iter, ifs, 0⟩] scope pos) 0 it acc env).onRaise (fun x => do noteFrame x env; theTreesLotGoes x)) _ _ s
  refine wpAny_noted ?_
  rw [compTurn_list]
  refine wpAny_bind (wpAny_standAt (wpAny_bind (wpAny_mono (turn n s hI) (fun r s₁ h₁ => ?_) fun _ _ h' => h'.elim)))
  cases r with
  | none => exact wpAny_pure h₁
  | some v =>
    refine wpAny_bind (wpAny_mono h₁ (fun _ s₀ h₀ => ?_) fun _ _ h' => h'.elim)
    refine wpAny_bind (wpAny_mono h₀ (fun _ s₂ h₂ => wpAny_bind (wpAny_mono h₂ (fun ok s₃ h₃ => ?_) fun _ _ h' => h'.elim)) fun _ _ h' => h'.elim)
    cases ok with
    | false => exact wpAny_pure ⟨rfl, h₃⟩
    | true =>
      exact wpAny_bind (wpAny_bind (wpAny_mono h₃ (fun x s₄ h₄ => wpAny_bind (wpAny_mono h₄ (fun _ s₅ h₅ => wpAny_pure (wpAny_pure ⟨rfl, h₅⟩)) fun _ _ h' => h'.elim)) fun _ _ h' => h'.elim))
end
section
variable {X : Cx}
theorem FpOk.turned {pins : List (Addr × Obj)} {s : Shared} {σ : St} {H : Hp} {C : Addr} {h' : Heap} (I : Inv X pins σ H s) (f : FpOk X pins H C) (hs : Heap.SameBut C s.heap h') : Inv X pins σ H { s with heap := h' } :=
 I.turned (t' := s.toks) (fun b o hb e => (hs.2 b hb).trans e) f.1 f.2.1 f.2.2.2.1 f.2.2.2.2.1 f.2.2.2.2.2
def tSetC (i : Nat) (t : TE) : TS := fun D σ H => t σ H fun v H' => D.nx (σ.set i (some v)) H'
end
def Sm (i : Int) : Prop := -(2 ^ 300) < i /\ i < 2 ^ 300
theorem sm_bits {i : Int} (h : Sm i) : Builtin.Int.intBits i <= 2 ^ 20 := by
 obtain ⟨h1, h2⟩ := h
 unfold Builtin.Int.intBits
 split
 ·exact zq37x _
 ·rename_i h0
  have hn : i.natAbs ≠ 0 := by
   intro e
   apply h0
   simp
   omega
  have h3 : i.natAbs < 2 ^ 300 := by omega
  have h4 : i.natAbs.log2 < 300 := (Nat.log2_lt hn).mpr h3
  have : (2 : Nat) ^ 20 = 1048576 := by decide
  omega
theorem sm_pylong {x y : Int} (h : Sm y) : Builtin.divisionGoesByPylong x y = false := by
 refine PyProof.noPylong_of_log2 ?_
 obtain ⟨h1, h2⟩ := h
 by_cases h0 : y.natAbs = 0
 ·rw [h0]; decide +kernel
 ·have h3 : y.natAbs < 2 ^ 300 := by omega
  have h4 : y.natAbs.log2 < 300 := (Nat.log2_lt h0).mpr h3
  omega
section
variable {X : Cx}
theorem op_fdivS : OpR X (binaryOp .FloorDiv) (rI (fun _ j => 0 < j /\ Sm j) fun i j => .int (i / j)) := opI fun i j _ _ _ _ _ hc q =>
 floordiv_int (by omega) (by rw [Int.fdiv_eq_ediv_of_nonneg _ (by omega)]; exact q) (.inl (sm_pylong hc.2))
def rIsi (K : PySem.W.Frag) : List V -> Hp -> VK -> Prop := fun xs H Q => ∃ x T t b, xs = [x, .ty T] /\ TyOf K H x t /\ PySem.W.kitOne K t (.type T) = some b /\ Q (.bl b) H
theorem call_isi : CallR X (.builtin "isinstance") (rIsi X.K) := by
 intro pins s σ H xs us Q I rv h
 obtain ⟨x, T, t, b, rfl, ty, e, q⟩ := h
 obtain ⟨u, v, rfl, ru, rv⟩ := rv.two
 cases (show v = Value.type T from rv)
 exact isinst_ok I ru ty e fun tk => ⟨.bl b, H, I.tok tk, rfl, q⟩
def KeyD : PyData -> Key -> Prop
 | .int i, k => k = .inl i
 | .str x, k => k = .inr x
 | _, _ => False
mutual
def IsD (nb : Addr -> Prop) (H : Hp) : PyData -> V -> Prop
 | .none, v => v = .non
 | .bool b, v => v = .bl b
 | .int i, v => v = .int i
 | .str x, v => v = .str x
 | .list ds, v => ∃ a xs, v = .ref a /\ ¬ nb a /\ H a = some (.lst xs) /\ IsDs nb H ds xs
 | .tuple ds, v => ∃ a xs, v = .ref a /\ ¬ nb a /\ H a = some (.tup xs) /\ IsDs nb H ds xs
 | .dict kvs, v => ∃ a ps, v = .ref a /\ ¬ nb a /\ Rd H a (.dK ps) /\ IsKs nb H kvs ps
termination_by structural d => d
def IsDs (nb : Addr -> Prop) (H : Hp) : List PyData -> List V -> Prop
 | [], xs => xs = []
 | d :: ds, xs => ∃ y ys, xs = y :: ys /\ IsD nb H d y /\ IsDs nb H ds ys
termination_by structural d => d
def IsKs (nb : Addr -> Prop) (H : Hp) : List (PyData × PyData) -> List (Key × V) -> Prop
 | [], xs => xs = []
 | d :: ds, xs => ∃ p ys, xs = p :: ys /\ IsK nb H d p /\ IsKs nb H ds ys
termination_by structural d => d
def IsK (nb : Addr -> Prop) (H : Hp) : PyData × PyData -> Key × V -> Prop
 | (k, d), p => KeyD k p.1 /\ IsD nb H d p.2
termination_by structural d => d
end
def But (nb : Addr -> Prop) (H H' : Hp) : Prop := ∀ a o, ¬ nb a -> H a = some o -> H' a = some o
def Nb (b : Addr) : Addr -> Prop := fun a => a = b
section
variable {nb nb' : Addr -> Prop} {H H1 H2 H' : Hp} {a b c p : Addr} {o : HO} {xs : List V}
theorem But.refl (nb : Addr -> Prop) (H : Hp) : But nb H H := fun _ _ _ h => h
theorem But.trans (x : But nb H H1) (y : But nb H1 H2) : But nb H H2 := fun a o n h => y a o n (x a o n h)
theorem But.of (x : Same H H') : But nb H H' := fun a o _ h => x a o h
theorem But.set (h : nb p) : But nb H (upd H p o) := fun a u n q => by rw [upd_ne (fun e => n (by rw [e]; exact h))]; exact q
theorem But.rd {u : HO} (x : But nb H H') (n : ¬ nb a) (h : Rd H a u) : Rd H' a u := by
 rcases h with h | ⟨o, h⟩
 ·exact .inl (x _ _ n h)
 ·exact .inr ⟨o, x _ _ n h⟩
end
mutual
theorem IsD.keep {nb : Addr -> Prop} {H H' : Hp} (x : But nb H H') : ∀ {d : PyData} {v : V}, IsD nb H d v -> IsD nb H' d v
 | .none, _, h => by unfold IsD at h ⊢; exact h
 | .bool _, _, h => by unfold IsD at h ⊢; exact h
 | .int _, _, h => by unfold IsD at h ⊢; exact h
 | .str _, _, h => by unfold IsD at h ⊢; exact h
 | .list ds, _, h => by unfold IsD at h ⊢; obtain ⟨a, xs, e, n, s, r⟩ := h; exact ⟨a, xs, e, n, x _ _ n s, IsDs.keep x r⟩
 | .tuple ds, _, h => by unfold IsD at h ⊢; obtain ⟨a, xs, e, n, s, r⟩ := h; exact ⟨a, xs, e, n, x _ _ n s, IsDs.keep x r⟩
 | .dict kvs, _, h => by unfold IsD at h ⊢; obtain ⟨a, xs, e, n, s, r⟩ := h; exact ⟨a, xs, e, n, x.rd n s, IsKs.keep x r⟩
theorem IsDs.keep {nb : Addr -> Prop} {H H' : Hp} (x : But nb H H') : ∀ {ds : List PyData} {vs : List V}, IsDs nb H ds vs -> IsDs nb H' ds vs
 | [], _, h => by unfold IsDs at h ⊢; exact h
 | d :: ds, _, h => by unfold IsDs at h ⊢; obtain ⟨y, ys, e, h1, h2⟩ := h; exact ⟨y, ys, e, IsD.keep x h1, IsDs.keep x h2⟩
theorem IsKs.keep {nb : Addr -> Prop} {H H' : Hp} (x : But nb H H') : ∀ {ds : List (PyData × PyData)} {vs : List (Key × V)}, IsKs nb H ds vs -> IsKs nb H' ds vs
 | [], _, h => by unfold IsKs at h ⊢; exact h
 | d :: ds, _, h => by unfold IsKs at h ⊢; obtain ⟨y, ys, e, h1, h2⟩ := h; exact ⟨y, ys, e, IsK.keep x h1, IsKs.keep x h2⟩
theorem IsK.keep {nb : Addr -> Prop} {H H' : Hp} (x : But nb H H') : ∀ {d : PyData × PyData} {v : Key × V}, IsK nb H d v -> IsK nb H' d v
 | (k, d), _, h => by unfold IsK at h ⊢; exact ⟨h.1, IsD.keep x h.2⟩
end
mutual
theorem IsD.av {nb nb' : Addr -> Prop} {H : Hp} (x : ∀ a, nb' a -> nb a) : ∀ {d : PyData} {v : V}, IsD nb H d v -> IsD nb' H d v
 | .none, _, h => by unfold IsD at h ⊢; exact h
 | .bool _, _, h => by unfold IsD at h ⊢; exact h
 | .int _, _, h => by unfold IsD at h ⊢; exact h
 | .str _, _, h => by unfold IsD at h ⊢; exact h
 | .list ds, _, h => by unfold IsD at h ⊢; obtain ⟨a, xs, e, n, s, r⟩ := h; exact ⟨a, xs, e, fun z => n (x a z), s, IsDs.av x r⟩
 | .tuple ds, _, h => by unfold IsD at h ⊢; obtain ⟨a, xs, e, n, s, r⟩ := h; exact ⟨a, xs, e, fun z => n (x a z), s, IsDs.av x r⟩
 | .dict kvs, _, h => by unfold IsD at h ⊢; obtain ⟨a, xs, e, n, s, r⟩ := h; exact ⟨a, xs, e, fun z => n (x a z), s, IsKs.av x r⟩
theorem IsDs.av {nb nb' : Addr -> Prop} {H : Hp} (x : ∀ a, nb' a -> nb a) : ∀ {ds : List PyData} {vs : List V}, IsDs nb H ds vs -> IsDs nb' H ds vs
 | [], _, h => by unfold IsDs at h ⊢; exact h
 | d :: ds, _, h => by unfold IsDs at h ⊢; obtain ⟨y, ys, e, h1, h2⟩ := h; exact ⟨y, ys, e, IsD.av x h1, IsDs.av x h2⟩
theorem IsKs.av {nb nb' : Addr -> Prop} {H : Hp} (x : ∀ a, nb' a -> nb a) : ∀ {ds : List (PyData × PyData)} {vs : List (Key × V)}, IsKs nb H ds vs -> IsKs nb' H ds vs
 | [], _, h => by unfold IsKs at h ⊢; exact h
 | d :: ds, _, h => by unfold IsKs at h ⊢; obtain ⟨y, ys, e, h1, h2⟩ := h; exact ⟨y, ys, e, IsK.av x h1, IsKs.av x h2⟩
theorem IsK.av {nb nb' : Addr -> Prop} {H : Hp} (x : ∀ a, nb' a -> nb a) : ∀ {d : PyData × PyData} {v : Key × V}, IsK nb H d v -> IsK nb' H d v
 | (k, d), _, h => by unfold IsK at h ⊢; exact ⟨h.1, IsD.av x h.2⟩
end
mutual
theorem IsD.fresh {nb : Addr -> Prop} {H : Hp} {p : Addr} (hp : H p = none) : ∀ {d : PyData} {v : V}, IsD nb H d v -> IsD (fun a => nb a \/ a = p) H d v
 | .none, _, h => by unfold IsD at h ⊢; exact h
 | .bool _, _, h => by unfold IsD at h ⊢; exact h
 | .int _, _, h => by unfold IsD at h ⊢; exact h
 | .str _, _, h => by unfold IsD at h ⊢; exact h
 | .list ds, _, h => by unfold IsD at h ⊢; obtain ⟨a, xs, e, n, s, r⟩ := h; exact ⟨a, xs, e, fun z => z.elim n (ne_of_none s hp), s, IsDs.fresh hp r⟩
 | .tuple ds, _, h => by unfold IsD at h ⊢; obtain ⟨a, xs, e, n, s, r⟩ := h; exact ⟨a, xs, e, fun z => z.elim n (ne_of_none s hp), s, IsDs.fresh hp r⟩
 | .dict kvs, _, h => by unfold IsD at h ⊢; obtain ⟨a, xs, e, n, s, r⟩ := h; exact ⟨a, xs, e, fun z => z.elim n (s.elim (fun s => ne_of_none s hp) fun ⟨_, s⟩ => ne_of_none s hp), s, IsKs.fresh hp r⟩
theorem IsDs.fresh {nb : Addr -> Prop} {H : Hp} {p : Addr} (hp : H p = none) : ∀ {ds : List PyData} {vs : List V}, IsDs nb H ds vs -> IsDs (fun a => nb a \/ a = p) H ds vs
 | [], _, h => by unfold IsDs at h ⊢; exact h
 | d :: ds, _, h => by unfold IsDs at h ⊢; obtain ⟨y, ys, e, h1, h2⟩ := h; exact ⟨y, ys, e, IsD.fresh hp h1, IsDs.fresh hp h2⟩
theorem IsKs.fresh {nb : Addr -> Prop} {H : Hp} {p : Addr} (hp : H p = none) : ∀ {ds : List (PyData × PyData)} {vs : List (Key × V)}, IsKs nb H ds vs -> IsKs (fun a => nb a \/ a = p) H ds vs
 | [], _, h => by unfold IsKs at h ⊢; exact h
 | d :: ds, _, h => by unfold IsKs at h ⊢; obtain ⟨y, ys, e, h1, h2⟩ := h; exact ⟨y, ys, e, IsK.fresh hp h1, IsKs.fresh hp h2⟩
theorem IsK.fresh {nb : Addr -> Prop} {H : Hp} {p : Addr} (hp : H p = none) : ∀ {d : PyData × PyData} {v : Key × V}, IsK nb H d v -> IsK (fun a => nb a \/ a = p) H d v
 | (k, d), _, h => by unfold IsK at h ⊢; exact ⟨h.1, IsD.fresh hp h.2⟩
end
mutual
theorem IsD.reads {pins : List (Addr × Obj)} {σ : St} {H : Hp} {s : Shared} {nb : Addr -> Prop} (I : Inv X pins σ H s) : ∀ {d : PyData} {v : V} {u : Value}, IsD nb H d v -> RelV v u -> d.canLay0 = true -> ∃ as, Reads s.heap u d as
  | .none, _, _, h, r, _ => by unfold IsD at h; subst h; cases r; exact ⟨_, .none⟩
  | .bool _, _, _, h, r, _ => by unfold IsD at h; subst h; cases r; exact ⟨_, .bool _⟩
  | .int _, _, _, h, r, _ => by unfold IsD at h; subst h; obtain ⟨t, rfl⟩ := r; exact ⟨_, .int _ _⟩
  | .str _, _, _, h, r, _ => by unfold IsD at h; subst h; obtain ⟨t, rfl⟩ := r; exact ⟨_, .str _ _⟩
  | .list ds, _, _, h, r, hc0 => by
    unfold IsD at h
    obtain ⟨a, xs, rfl, n, s, q⟩ := h
    cases r
    obtain ⟨its, rv, p, hz⟩ := I.list (SqL.of s)
    obtain ⟨as, ra⟩ := IsDs.reads I q rv (by simpa only [PyData.canLay0] using hc0)
    obtain ⟨o, ho, hc, m, hd⟩ := p.isList
    exact ⟨_, .list ho hc hd (by simpa using ra)⟩
  | .tuple ds, _, _, h, r, hc0 => by
    unfold IsD at h
    obtain ⟨a, xs, rfl, n, s, q⟩ := h
    cases r
    obtain ⟨its, rv, p, hz⟩ := I.tuple (SqT.of s)
    obtain ⟨as, ra⟩ := IsDs.reads I q rv (by simpa only [PyData.canLay0] using hc0)
    obtain ⟨o, ho, hc, m, hd⟩ := p
    exact ⟨_, .tuple ho hc hd (by simpa using ra)⟩
  | .dict _, _, _, h, r, hc0 => by simp [PyData.canLay0] at hc0
theorem IsDs.reads {pins : List (Addr × Obj)} {σ : St} {H : Hp} {s : Shared} {nb : Addr -> Prop} (I : Inv X pins σ H s) : ∀ {ds : List PyData} {vs : List V} {us : List Value}, IsDs nb H ds vs -> Vals vs us -> PyData.canLayAll0 ds = true -> ∃ as, ReadsAll s.heap us ds as
  | [], _, _, h, r, _ => by unfold IsDs at h; subst h; cases r; exact ⟨_, .nil⟩
  | d :: ds, _, _, h, r, hc0 => by
    rw [PyData.canLayAll0, zq24x] at hc0
    unfold IsDs at h
    obtain ⟨y, ys, rfl, h1, h2⟩ := h
    cases r with
    | cons r1 r2 =>
      obtain ⟨as, q1⟩ := IsD.reads I h1 r1 hc0.1
      obtain ⟨bs, q2⟩ := IsDs.reads I h2 r2 hc0.2
      exact ⟨_, .cons q1 q2⟩
end
def rEqD (neg : Bool) : R2 := fun x y H Q => ∃ nb d e, IsD nb H d x /\ IsD nb H e y /\ SeqAt.shaped d = true /\ SeqAt.shaped e = true /\ Q (.bl (PyData.eqv d e != neg)) H
theorem op_eqD (hu : X.A.units + 64 < cLine) : OpR X (compareOp .Eq) (rEqD false) := by
 intro pins s σ H x y v u Q I rx ry h
 obtain ⟨nb, d, e, h1, h2, h3, h4, q⟩ := h
 obtain ⟨as, r1⟩ := h1.reads I rx (zq127x h3)
 obtain ⟨bs, r2⟩ := h2.reads I ry (zq127x h4)
 exact eq_dataH r1 r2 h3 h4 hu ⟨.bl _, H, I, rfl, by simpa using q⟩
theorem op_neD (hu : X.A.units + 64 < cLine) : OpR X (compareOp .NotEq) (rEqD true) := by
 intro pins s σ H x y v u Q I rx ry h
 obtain ⟨nb, d, e, h1, h2, h3, h4, q⟩ := h
 obtain ⟨as, r1⟩ := h1.reads I rx (zq127x h3)
 obtain ⟨bs, r2⟩ := h2.reads I ry (zq127x h4)
 exact ne_dataH r1 r2 h3 h4 hu ⟨.bl _, H, I, rfl, by simpa using q⟩
end
structure Callee (P : Program) (w : World) (K : PySem.W.Frag) (mg : Str -> Option Value) (base : Heap) (x : Str) (k : Nat) (ps : List Str) (sp : Sp) : Prop where
 ex : ∃ f fd, FnOk P w K mg base CX0 k f fd ps sp /\ Binds K fd ps [] /\ PySem.W.keepIn K (.ref f) = true /\ mg x = some (.ref f)
theorem pe_callC {X : Cx} {x : Str} {k : Nat} {ps : List Str} {sp : Sp} {p pos : Pos} {e : Expr} {es : List Expr} {t : TA} (c : Callee X.prog X.w X.K X.mg X.base x k ps sp) (hr : Room k X.A) (ha : PA X (e :: es) t) (hg : Gl X x := by rfl)
  (hdb : (x == ("__debug__" : Str)) = false := by decide) (he : starEach (e :: es) X.env = (false, eval e X.env) :: starEach es X.env := by rfl) (hpl : (backTo pos (starEach es X.env)).any (·.1) = false := by rfl) :
  PE X (.Call (.Name x p) (e :: es) [] pos) (tCall sp [] E0 t) := by
 obtain ⟨f, fd, F, b, kp, m⟩ := c.ex
 exact pe_call F hr hg m kp b .nil pass0 ha hdb he hpl
theorem Callee.mk' {P : Program} {w : World} {K : PySem.W.Frag} {mg : Str -> Option Value} {base : Heap} {x : Str} {st : Stmt} {k : Nat} {ps : List Str} {sp : Sp} {f : Addr} {fd : FuncData} (F : Fun K x x st f fd) (ok : FnOk P w K mg base CX0 k f fd ps sp) (b : Binds K fd ps [])
  (m : mg x = some (.ref f)) : Callee P w K mg base x k ps sp := ⟨f, fd, ok, b, F.kp, m⟩
def DfAt (K : PySem.W.Frag) (x q : Str) (st : Stmt) (f : Addr) : Prop := PySem.W.nsIn K mainGlobals x = some (some (.ref f)) /\ ∃ fd, Fun K x q st f fd
theorem DfAt.mk {K : PySem.W.Frag} {x q : Str} {st : Stmt} {f : Addr} {oc : Value} {od an : Option Addr} {osl : Array (Option Value)} {kV doc pm cdv ct : Value} (a : PySem.W.nsIn K mainGlobals x = some (some (.ref f))) (l : K.lookup f = some ⟨oc, od, .func (PySem.W.fnOf x q (defArgs st) (defBody st) (defScope st) .none kV doc pm an cdv ct), osl⟩)
  (c : PySem.W.codeIn K cdv q = true) (k : PySem.W.keepIn K (.ref f) = true) : DfAt K x q st f := ⟨a, _, fun_mk l c k⟩
end L2
set_option maxRecDepth 100000
set_option maxHeartbeats 1000000
namespace L2
open PySem PySem.Spec PyProof.Rows
section
variable {X : Cx}
theorem op_mulA : OpR X (binaryOp .Mult) (rI (fun i j => CMul i j \/ (Sm i /\ Sm j)) fun i j => .int (i * j)) := opI fun _ _ _ _ _ _ _ hc q => mul_int q (by
 rcases hc with hc | hc
 ·exact hc.ok
 ·exact IntMulOk.of_bits (sm_bits hc.1) (sm_bits hc.2))
end
def BagAt (H : Hp) (b l : Addr) : Prop := ∃ (ns : List Int) (i c st n : Int), H b = some (.lst [.ref l, .int i, .int c, .int st, .int n]) /\ H l = some (.lst (ns.map V.int)) /\
 (∀ x ∈ ns, 0 <= x /\ x < 10 ^ 60) /\ ns.length <= 63 /\ 0 <= i /\ 0 <= c /\ c < 10 ^ 60 /\ 0 <= st /\ st < 2147483647
theorem bag_ne {H : Hp} {b l : Addr} {ns : List Int} {i c st n : V} (h : H b = some (.lst [.ref l, i, c, st, n])) (h' : H l = some (.lst (ns.map V.int))) : l ≠ b := by
 intro e
 subst e
 rw [h] at h'
 have e := HO.lst.inj (zq36x h')
 cases ns with
 | nil => cases e
 | cons x r => rw [zq4x] at e; cases (zq111x e).1
theorem BagAt.put {H : Hp} {b l : Addr} {ns : List Int} {i c st n : Int} (hl : l ≠ b) (h' : H l = some (.lst (ns.map V.int))) (h1 : ∀ x ∈ ns, 0 <= x /\ x < 10 ^ 60) (h2 : ns.length <= 63)
  (h3 : 0 <= i) (h4 : 0 <= c) (h5 : c < 10 ^ 60) (h6 : 0 <= st) (h7 : st < 2147483647) : BagAt (upd H b (.lst [.ref l, .int i, .int c, .int st, .int n])) b l :=
 ⟨ns, i, c, st, n, upd_same, by rw [upd_ne hl]; exact h', h1, h2, h3, h4, h5, h6, h7⟩
theorem BagAt.put2 {H : Hp} {b l p : Addr} {o : HO} (h : BagAt H b l) (hp : p ≠ b /\ p ≠ l) : BagAt (upd H p o) b l := by
 obtain ⟨ns, i, c, st, n, h1, h2, r⟩ := h
 exact ⟨ns, i, c, st, n, by rw [upd_ne (zq14x hp.1)]; exact h1, by rw [upd_ne (zq14x hp.2)]; exact h2, r⟩
theorem BagAt.same {H H' : Hp} {b l : Addr} (h : BagAt H b l) (s : Same H H') : BagAt H' b l := by
 obtain ⟨ns, i, c, st, n, h1, h2, r⟩ := h
 exact ⟨ns, i, c, st, n, s _ _ h1, s _ _ h2, r⟩
def spDraw : Sp := fun vs H Q _ => ∃ (b l : Addr) (many : Int), vs = [.ref b, .int many] /\ BagAt H b l /\ 0 < many /\ Sm many /\ ∀ (r : Int) (H' : Hp), 0 <= r -> r < many -> But (Nb b) H H' -> BagAt H' b l -> Q (.int r) H'
def spBag (K : PySem.W.Frag) : Sp := fun vs H Q _ => ∃ (a : Addr) (ns : List Int), vs = [.ref a] /\ SqL K H a (ns.map V.int) /\ ns.length <= 63 /\ ∀ (b l : Addr) (H' : Hp), Same H H' -> H b = none -> BagAt H' b l -> Q (.ref b) H'
theorem atI_some {α : Type} {xs : List α} {i : Int} {v : α} (h0 : 0 <= i) (h : xs[i.toNat]? = some v) : atI xs i = some v := by
 have e : i = ((i.toNat : Nat) : Int) := by omega
 rw [e]
 exact atI_nat h
theorem same_new {H : Hp} {p : Addr} {o : HO} (h : H p = none) : Same H (upd H p o) := fun b u q => by rw [upd_ne (ne_of_none q h)]; exact q
section
variable {nb : Addr -> Prop} {H H' : Hp}
theorem IsDs.length : ∀ {ds : List PyData} {xs : List V}, IsDs nb H ds xs -> xs.length = ds.length
 | [], _, h => by unfold IsDs at h; subst h; rfl
 | d :: ds, _, h => by unfold IsDs at h; obtain ⟨y, ys, rfl, _, h2⟩ := h; simp [IsDs.length h2]
theorem IsDs.get : ∀ {ds : List PyData} {xs : List V} {i : Nat} {d : PyData}, IsDs nb H ds xs -> ds[i]? = some d -> ∃ x, xs[i]? = some x /\ IsD nb H d x
 | [], _, _, _, _, e => by simp at e
 | d :: ds, _, 0, _, h, e => by unfold IsDs at h; obtain ⟨y, ys, rfl, h1, h2⟩ := h; simp at e; subst e; exact ⟨y, rfl, h1⟩
 | d :: ds, _, i + 1, _, h, e => by unfold IsDs at h; obtain ⟨y, ys, rfl, h1, h2⟩ := h; simpa using IsDs.get (i := i) h2 (by simpa using e)
theorem IsDs.snoc {d : PyData} {x : V} (hd : IsD nb H d x) : ∀ {ds : List PyData} {xs : List V}, IsDs nb H ds xs -> IsDs nb H (ds ++ [d]) (xs ++ [x])
 | [], _, h => by unfold IsDs at h; subst h; unfold IsDs; exact ⟨x, [], rfl, hd, by unfold IsDs; rfl⟩
 | e :: ds, _, h => by unfold IsDs at h; obtain ⟨y, ys, rfl, h1, h2⟩ := h; show IsDs nb H (e :: (ds ++ [d])) _; unfold IsDs; exact ⟨y, ys ++ [x], rfl, h1, IsDs.snoc hd h2⟩
theorem IsDs.append : ∀ {ds es : List PyData} {xs ys : List V}, IsDs nb H ds xs -> IsDs nb H es ys -> IsDs nb H (ds ++ es) (xs ++ ys)
 | [], _, _, _, h, h' => by unfold IsDs at h; subst h; exact h'
 | e :: ds, es, _, zs, h, h' => by unfold IsDs at h; obtain ⟨y, ys, rfl, h1, h2⟩ := h; show IsDs nb H (e :: (ds ++ es)) _; unfold IsDs; exact ⟨y, ys ++ zs, rfl, h1, IsDs.append h2 h'⟩
theorem IsDs.take : ∀ {ds : List PyData} {xs : List V} (n : Nat), IsDs nb H ds xs -> IsDs nb H (ds.take n) (xs.take n)
 | _, _, 0, _ => by simp only [List.take_zero]; unfold IsDs; rfl
 | [], _, n + 1, h => by unfold IsDs at h; subst h; simp only [List.take_nil]; unfold IsDs; rfl
 | d :: ds, _, n + 1, h => by unfold IsDs at h; obtain ⟨y, ys, rfl, h1, h2⟩ := h; simp only [List.take_succ_cons]; unfold IsDs; exact ⟨y, _, rfl, h1, IsDs.take n h2⟩
theorem IsDs.drop : ∀ {ds : List PyData} {xs : List V} (n : Nat), IsDs nb H ds xs -> IsDs nb H (ds.drop n) (xs.drop n)
 | _, _, 0, h => h
 | [], _, n + 1, h => by unfold IsDs at h; subst h; simp only [List.drop_nil]; unfold IsDs; rfl
 | d :: ds, _, n + 1, h => by unfold IsDs at h; obtain ⟨y, ys, rfl, h1, h2⟩ := h; simp only [List.drop_succ_cons]; exact IsDs.drop n h2
theorem IsDs.nil : IsDs nb H [] [] := by unfold IsDs; rfl
theorem IsDs.cons {d : PyData} {x : V} {ds : List PyData} {xs : List V} (h1 : IsD nb H d x) (h2 : IsDs nb H ds xs) : IsDs nb H (d :: ds) (x :: xs) := by unfold IsDs; exact ⟨x, xs, rfl, h1, h2⟩
theorem IsD.int (i : Int) : IsD nb H (.int i) (.int i) := by unfold IsD; rfl
theorem IsD.non : IsD nb H .none .non := by unfold IsD; rfl
theorem IsD.bl (b : Bool) : IsD nb H (.bool b) (.bl b) := by unfold IsD; rfl
theorem IsD.lst {a : Addr} {ds : List PyData} {xs : List V} (n : ¬ nb a) (h : H a = some (.lst xs)) (hd : IsDs nb H ds xs) : IsD nb H (.list ds) (.ref a) := by unfold IsD; exact ⟨a, xs, rfl, n, h, hd⟩
theorem IsD.tup {a : Addr} {ds : List PyData} {xs : List V} (n : ¬ nb a) (h : H a = some (.tup xs)) (hd : IsDs nb H ds xs) : IsD nb H (.tuple ds) (.ref a) := by unfold IsD; exact ⟨a, xs, rfl, n, h, hd⟩
theorem IsD.ofL {v : V} {ds : List PyData} (h : IsD nb H (.list ds) v) : ∃ a xs, v = .ref a /\ ¬ nb a /\ H a = some (.lst xs) /\ IsDs nb H ds xs := by unfold IsD at h; exact h
theorem IsD.ofT {v : V} {ds : List PyData} (h : IsD nb H (.tuple ds) v) : ∃ a xs, v = .ref a /\ ¬ nb a /\ H a = some (.tup xs) /\ IsDs nb H ds xs := by unfold IsD at h; exact h
theorem IsD.ofI {v : V} {i : Int} (h : IsD nb H (.int i) v) : v = .int i := by unfold IsD at h; exact h
theorem IsD.ofN {v : V} (h : IsD nb H .none v) : v = .non := by unfold IsD at h; exact h
end
def spWhole : Sp := fun vs H Q _ => ∃ i : Int, vs = [.int i] /\ Q (.bl true) H
def spLaw (K : PySem.W.Frag) : Sp := fun vs H Q _ => ∃ (a : Addr) (ns : List Int), vs = [.ref a] /\ SqL K H a (ns.map V.int) /\ ns.length <= 63 /\ ∀ H', Q (.bl true) H'
end L2
set_option maxRecDepth 100000
set_option maxHeartbeats 1000000
namespace L2
open PySem PySem.Spec PyProof.Rows
def mkL (Q : VK) : List V -> Hp -> Prop := fun xs H1 => xs.length <= sizeLine /\ ∀ p, H1 p = none -> Q (.ref p) (upd H1 p (.lst xs))
def rListOf (K : PySem.W.Frag) : List V -> Hp -> VK -> Prop := fun xs H Q => ∃ p ys, xs = [.ref p] /\ (SqL K H p ys \/ SqT K H p ys) /\ ∀ l, H l = none -> Q (.ref l) (upd H l (.lst ys))
theorem call_listM {X : Cx} : CallR X (.type "list") (rListOf X.K) := call_list_of
def rIs : R2 := fun x y H Q => y = .non /\ Q (.bl (decide (x = .non))) H
def rIsNot : R2 := fun x y H Q => y = .non /\ Q (.bl (!decide (x = .non))) H
theorem op_isM {X : Cx} : OpR X (compareOp .Is) rIs := op_isN
theorem op_notM {X : Cx} : OpR X (compareOp .IsNot) rIsNot := op_notN
def intOf : Expr -> Option Int
 | .Constant (.int i) _ _ => some i
 | _ => none
theorem intOf_eq {e : Expr} {i : Int} (h : intOf e = some i) : ∃ k p, e = .Constant (.int i) k p := by
 unfold intOf at h
 split at h
 ·cases h; exact ⟨_, _, rfl⟩
 ·cases h
def constInts : List Expr -> Option (List Int)
 | [] => some []
 | e :: r => (intOf e).bind fun i => (constInts r).map (i :: ·)
def tInts (is : List Int) : TA := fun _ H Q => Q (is.map V.int) H
theorem pa_consts {X : Cx} : ∀ {es : List Expr} {is : List Int}, constInts es = some is -> PA X es (tInts is) := by
  intro es
  induction es with
  | nil =>
    intro is h
    have e : is = [] := by simpa [constInts] using h.symm
    subst e
    exact pa_nil
  | cons e r ih =>
    intro is h
    unfold constInts at h
    cases hi : intOf e with
    | none => rw [hi] at h; cases h
    | some i =>
      rw [hi] at h
      obtain ⟨k, p, rfl⟩ := intOf_eq hi
      obtain ⟨js, hj, rfl⟩ := zq99x.mp (show (constInts r).map (i :: ·) = some is from h)
      exact pa_cons (te := tC (.int i)) (t := tInts js) pe_int (ih hj)
theorem ps_setInts {X : Cx} {i : Nat} {x : Str} {es : List Expr} {is : List Int} {p1 p2 p3 : Pos} (hN : X.N.Nodup) (hi : X.N[i]? = some x) (hx : Loc X.env.scope x) (h : constInts es = some is) (hf : X.fn x = true \/ X.env.scope.names.lookup x = some .local) :
  PS X (.Assign [.Name x p1] (.List es p2) p3) (tAsg (tLst (tInts is)) (gName i)) := ps_set hN hi hx (pe_lst (pa_consts h)) rfl hf
namespace R
section
variable {σ : St} {H : Hp} {Q : VK} {D : Ends} {ta tb te : TE} {K : PySem.W.Frag}
theorem seq {t u : TS} (h : t { D with nx := u D } σ H) : tSeq t u D σ H := h
theorem asg {g : TG} (h : te σ H fun x H1 => g x σ H1 D.nx) : tAsg te g D σ H := h
theorem ifS {c : TT} {t u : TS} (h : c σ H fun b H1 => if b = true then t D σ H1 else u D σ H1) : tIfS c t u D σ H := h
theorem ret (h : te σ H D.rt) : tRet te D σ H := h
theorem next (h : D.nx σ H) : tNext D σ H := h
theorem var {i : Nat} {v : V} (e : σ[i]? = some (some v)) (h : Q v H) : tVar i σ H Q := ⟨v, e, h⟩
theorem c {v : V} (h : Q v H) : tC v σ H Q := h
theorem op {r : R2} (h : ta σ H fun x H1 => tb σ H1 fun y H2 => r x y H2 Q) : tOp r ta tb σ H Q := h
theorem test {q : Bool -> Hp -> Prop} (h : te σ H fun x H' => ∃ k, x = .bl k /\ q k H') : tTest te σ H q := h
theorem bl {P : Bool -> Prop} {b : Bool} (h : P b) : ∃ k, V.bl b = .bl k /\ P k := ⟨b, rfl, h⟩
theorem and {t u : TT} {q : Bool -> Hp -> Prop} (h : t σ H fun c H1 => if c = true then u σ H1 q else q false H1) : tAnd t u σ H q := h
theorem cb {r : List V -> Hp -> VK -> Prop} {t : TA} (h : t σ H fun vs H1 => r vs H1 Q) : tCB r t σ H Q := h
theorem call {sp : Sp} {t : TA} (h : t σ H fun vs H1 => sp (vs ++ []) H1 Q E0) : tCall sp [] E0 t σ H Q := h
theorem nil {q : List V -> Hp -> Prop} (h : q [] H) : tNil σ H q := h
theorem cons {t : TA} {q : List V -> Hp -> Prop} (h : ta σ H fun x H1 => t σ H1 fun xs H2 => q (x :: xs) H2) : tCons ta t σ H q := h
theorem lst {t : TA} (h : t σ H (mkL Q)) : tLst t σ H Q := h
theorem sl {r : V -> Option Int -> Option Int -> Hp -> VK -> Prop} {tl th : TO} (h : te σ H fun x H1 => tl σ H1 fun l H2 => th σ H2 fun u H3 => r x l u H3 Q) : tSl r te tl th σ H Q := h
theorem noPart {q : Option Int -> Hp -> Prop} (h : q none H) : tNoPart σ H q := h
theorem part {q : Option Int -> Hp -> Prop} (h : te σ H fun x H1 => ∃ i, x = .int i /\ q (some i) H1) : tPart te σ H q := h
theorem partI {P : Int -> Prop} {i : Int} (h : P i) : ∃ j, V.int i = .int j /\ P j := ⟨i, rfl, h⟩
theorem bm0 {T : String} {r : V -> List V -> Hp -> VK -> Prop} (h : te σ H fun x H1 => tyV K T x H1 /\ r x [] H1 Q) : tBM0 K T r te σ H Q := h
theorem bm {T : String} {r : V -> List V -> Hp -> VK -> Prop} {t : TA} (h : te σ H fun x H1 => tyV K T x H1 /\ t σ H1 fun xs H2 => r x xs H2 Q) : tBM K T r te t σ H Q := h
theorem gname {i : Nat} {v : V} {q : St -> Hp -> Prop} (h : q (σ.set i (some v)) H) : gName i v σ H q := h
theorem gsub {to ti : TE} {t : TSet} {v : V} {q : St -> Hp -> Prop} (h : to σ H fun o H1 => ti σ H1 fun i H2 => t o i v H2 fun H3 => q σ H3) : gSub to ti t v σ H q := h
theorem gcons {t : TG} {u : TGs} {v : V} {r : List V} {q : St -> Hp -> Prop} (h : t v σ H fun σ' H' => u r σ' H' q) : gCons t u (v :: r) σ H q := ⟨v, r, rfl, h⟩
theorem gnil {q : St -> Hp -> Prop} (h : q σ H) : gNil [] σ H q := ⟨rfl, h⟩
theorem gtup {n : Nat} {t : TGs} {a : Addr} {xs : List V} {q : St -> Hp -> Prop} (hq : SqT K H a xs) (hl : xs.length = n) (h : t xs σ H q) : gTup K n t (.ref a) σ H q := ⟨a, xs, rfl, hq, hl, h⟩
theorem noTest {q : Bool -> Hp -> Prop} (h : q true H) : tNoTest σ H q := h
theorem rI0 {g : Int -> Int -> V} {i j : Int} (h : Q (g i j) H) : L2.rI0 g (.int i) (.int j) H Q := ⟨i, j, rfl, rfl, h⟩
theorem rI {C : Int -> Int -> Prop} {g : Int -> Int -> V} {i j : Int} (hc : C i j) (h : Q (g i j) H) : L2.rI C g (.int i) (.int j) H Q := ⟨i, j, rfl, rfl, hc, h⟩
theorem dec_i {i j : Int} : decide (V.int i = V.int j) = decide (i = j) := by rw [zq62x]; simp
theorem eqI {i j : Int} (h : Q (.bl (decide (i = j))) H) : rEq (.int i) (.int j) H Q := ⟨rfl, by rw [dec_i]; exact h⟩
theorem neI {i j : Int} (h : Q (.bl (decide (i ≠ j))) H) : rNe (.int i) (.int j) H Q := ⟨rfl, by rw [dec_i, <- decide_not]; exact h⟩
theorem notI {i : Int} (h : Q (.bl true) H) : rIsNot (.int i) .non H Q := ⟨rfl, by rw [decide_eq_false (fun e => V.noConfusion e)]; exact h⟩
theorem notN (h : Q (.bl false) H) : rIsNot .non .non H Q := ⟨rfl, by rw [decide_eq_true rfl]; exact h⟩
theorem ixM {p : Addr} {xs : List V} {i : Int} {v : V} (hp : H p = some (.lst xs)) (e : atI xs i = some v) (h : Q v H) : rIxL K (.ref p) (.int i) H Q := ⟨p, xs, i, v, rfl, rfl, SqL.of hp, e, h⟩
theorem ixS {p : Addr} {o : HO} {xs : List V} {i : Int} {v : V} (e : atI xs i = some v) (h : Q v (upd H p (.lst xs))) : rIxL K (.ref p) (.int i) (upd H p (.lst xs)) Q := ⟨p, xs, i, v, rfl, rfl, SqL.of upd_same, e, h⟩
theorem setM {p : Addr} {xs : List V} {k : Int} {j : Nat} {v : V} {q : Hp -> Prop} (hp : H p = some (.lst xs)) (e : ixN xs.length k = some j) (h : q (upd H p (.lst (xs.set j v)))) : rSetL (.ref p) (.int k) v H q := ⟨p, xs, k, j, rfl, rfl, hp, e, h⟩
theorem setS {p : Addr} {xs : List V} {k : Int} {j : Nat} {v : V} {q : Hp -> Prop} (e : ixN xs.length k = some j) (h : q (upd H p (.lst (xs.set j v)))) : rSetL (.ref p) (.int k) v (upd H p (.lst xs)) q :=
 ⟨p, xs, k, j, rfl, rfl, upd_same, e, by rw [upd_upd]; exact h⟩
theorem lenM {p : Addr} {xs : List V} {P : List V -> Prop} (hp : H p = some (.lst xs)) (h : P xs) : ∃ a ys, [V.ref p] = [.ref a] /\ (SqL K H a ys \/ SqT K H a ys) /\ P ys := ⟨p, xs, rfl, .inl (SqL.of hp), h⟩
theorem slL {p : Addr} {xs : List V} {lo hi : Option Int} (hp : SqL K H p xs) (h : ∀ a, H a = none -> Q (.ref a) (upd H a (.lst (cutV xs lo hi)))) : rSlL K (.ref p) lo hi H Q := ⟨p, xs, rfl, hp, h⟩
theorem abs1 {a : Int} {P : Int -> Prop} (h : P a) : ∃ i, [V.int a] = [.int i] /\ P i := ⟨a, rfl, h⟩
theorem lstA {xs : List V} (h : xs.length <= 10000) (q : ∀ p H', Same H H' -> H p = none -> H' p = some (.lst xs) -> Q (.ref p) H') : mkL Q xs H :=
 ⟨zq28x h (by decide), fun p hp => q p _ (same_new hp) hp upd_same⟩
theorem iteP {c A B : Prop} [Decidable c] (h : c) (q : A) : if c then A else B := by rw [if_pos h]; exact q
theorem iteN {c A B : Prop} [Decidable c] (h : ¬ c) (q : B) : if c then A else B := by rw [if_neg h]; exact q
theorem dT {c : Prop} [Decidable c] (h : c) : decide c = true := decide_eq_true h
theorem dF {c : Prop} [Decidable c] (h : ¬ c) : ¬ decide c = true := by rw [decide_eq_false h]; exact zq13x
theorem dTn {c : Prop} [Decidable c] (h : ¬ c) : (!decide c) = true := by rw [decide_eq_false h]; rfl
theorem dFn {c : Prop} [Decidable c] (h : c) : ¬ (!decide c) = true := by rw [decide_eq_true h]; decide
theorem rng2 {t : TA} {R : It -> Hp -> Prop} (h : t σ H fun vs H1 => ∃ i j : Int, vs = [.int i, .int j] /\ (-(2 ^ 62) <= i /\ i < 2 ^ 62 /\ -(2 ^ 62) <= j /\ j < 2 ^ 62) /\ R (Itr i (j - i).toNat) H1) : iRng2 t σ H R := h
theorem rng2I {P : Int -> Int -> Prop} {a b : Int} (h1 : -(2 ^ 62) <= a /\ a < 2 ^ 62 /\ -(2 ^ 62) <= b /\ b < 2 ^ 62) (h : P a b) : ∃ i j : Int, [V.int a, V.int b] = [.int i, .int j] /\ (-(2 ^ 62) <= i /\ i < 2 ^ 62 /\ -(2 ^ 62) <= j /\ j < 2 ^ 62) /\ P i j := ⟨a, b, rfl, h1, h⟩
theorem iL {tl : TE} {R : It -> Hp -> Prop} (h : tl σ H fun x H1 => ∃ a, x = .ref a /\ (∃ xs, SqL K H1 a xs) /\ R (Itl K a) H1) : iList K tl σ H R := h
theorem iL1 {P : Addr -> Prop} {p : Addr} {xs : List V} (hp : SqL K H p xs) (h : P p) : ∃ a, V.ref p = .ref a /\ (∃ xs, SqL K H a xs) /\ P a := ⟨p, rfl, ⟨xs, hp⟩, h⟩
theorem for_ {wi : TI} {g : TG} {tb : TS} (h : wi σ H fun J H1 => ∃ W : Nat -> Nat -> St -> Hp -> Prop, (∃ m, W 0 m σ H1) /\ ∀ i m σ H, W i m σ H ->
 (J.stop i H /\ D.nx σ H) \/ (J.go i H /\ ∃ N : St -> Hp -> Prop, (∀ σ' H', N σ' H' -> ∃ m', m' < m /\ W (i + 1) m' σ' H') /\ ∀ x H', J.yld i H x H' -> g x σ H' fun σ2 H2 => tb { D with nx := N, ct := N, bk := D.nx } σ2 H2)) : tFor wi g tb D σ H := h
theorem comp {wi : TI} {g : TG} {tc : TT} {mp : List (Option Nat)} (h : wi σ H fun J H1 => ∀ acc, H1 acc = none -> CompW J g tc te acc (fun H' => Q (.ref acc) H') (startC mp σ) (upd H1 acc (.lst []))) : tComp wi g tc te mp σ H Q := h
end
theorem comp_range {lo : Int} {n : Nat} {g : TG} {tc : TT} {te : TE} {acc : Addr} {Qe : Hp -> Prop} {σ : St} {H : Hp} (Pv : Nat -> St -> Hp -> Prop) (h0 : Pv 0 σ H)
  (hs : ∀ i σ H, i < n -> Pv i σ H -> g (.int (lo + i)) σ H fun σ2 H2 => tc σ2 H2 fun b H3 => if b = true then te σ2 H3 fun v H4 => ∃ ys, H4 acc = some (.lst ys) /\ ys.length < sizeLine /\ Pv (i + 1) σ2 (upd H4 acc (.lst (ys ++ [v]))) else Pv (i + 1) σ2 H3)
  (hd : ∀ σ H, Pv n σ H -> Qe H) : CompW (Itr lo n) g tc te acc Qe σ H := by
 refine ⟨fun i m σ H => m = n - i /\ i <= n /\ Pv i σ H, ⟨n, by simp, zq37x _, h0⟩, ?_⟩
 rintro i m σ H ⟨rfl, hi, p⟩
 by_cases hlt : i < n
 ·refine .inr ⟨hlt, Pv (i + 1), fun σ' H' p' => ⟨n - (i + 1), by omega, rfl, hlt, p'⟩, fun x H' y => ?_⟩
  obtain ⟨e, y⟩ := y
  subst e y
  exact hs i σ _ hlt p
 ·have e : i = n := by omega
  subst e
  exact .inl ⟨zq5x _, hd σ H p⟩
theorem comp_list {K : PySem.W.Frag} {a : Addr} {xs : List V} {g : TG} {tc : TT} {te : TE} {acc : Addr} {Qe : Hp -> Prop} {σ : St} {H : Hp} (Pv : Nat -> St -> Hp -> Prop) (h0 : Pv 0 σ H) (hl : ∀ i σ H, i <= xs.length -> Pv i σ H -> SqL K H a xs)
  (hs : ∀ i x σ H, xs[i]? = some x -> Pv i σ H -> g x σ H fun σ2 H2 => tc σ2 H2 fun b H3 => if b = true then te σ2 H3 fun v H4 => ∃ ys, H4 acc = some (.lst ys) /\ ys.length < sizeLine /\ Pv (i + 1) σ2 (upd H4 acc (.lst (ys ++ [v]))) else Pv (i + 1) σ2 H3)
  (hd : ∀ σ H, Pv xs.length σ H -> Qe H) : CompW (Itl K a) g tc te acc Qe σ H := by
 refine ⟨fun i m σ H => m = xs.length - i /\ i <= xs.length /\ Pv i σ H, ⟨xs.length, by simp, zq37x _, h0⟩, ?_⟩
 rintro i m σ H ⟨rfl, hi, p⟩
 have q := hl i σ H hi p
 by_cases hlt : i < xs.length
 ·refine .inr ⟨⟨xs, xs[i], q, by simp [hlt]⟩, Pv (i + 1), fun σ' H' p' => ⟨xs.length - (i + 1), by omega, rfl, hlt, p'⟩, fun x H' y => ?_⟩
  obtain ⟨e, y⟩ := y
  subst e
  exact hs i x σ _ (y xs q) p
 ·have e : i = xs.length := by omega
  subst e
  exact .inl ⟨⟨xs, q, zq5x _⟩, hd σ H p⟩
end R
end L2
set_option maxRecDepth 100000
set_option maxHeartbeats 1000000
namespace L2
open PySem PySem.Spec PyProof.Rows
@[reducible] def pairD (pr : Int × Int) : PyData := .tuple [.int pr.1, .int pr.2]
def optD : Option Int -> PyData
 | none => .none
 | some i => .int i
def optV : Option Int -> V
 | none => .non
 | some i => .int i
def termOf (wd : List (Option Int)) (pr : Int × Int) : Int := match wd[pr.1.toNat]? with
 | some (some x) => pr.2 * x
 | _ => 0
def dueSum (prs : List (Int × Int)) (wd : List (Option Int)) : Int := (prs.map (termOf wd)).sum
theorem dueSum_snoc {prs : List (Int × Int)} {wd : List (Option Int)} {i : Nat} (h : i < prs.length) : dueSum (prs.take (i + 1)) wd = dueSum (prs.take i) wd + termOf wd prs[i] := by
 unfold dueSum
 rw [zq165x, zq1x h, zq25x, zq112x]
 simp
theorem isD_opt {nb : Addr -> Prop} {H : Hp} {o : Option Int} {v : V} (h : IsD nb H (optD o) v) : v = optV o := by
 cases o with
 | none => exact h.ofN
 | some i => exact h.ofI
theorem isDs_opt {nb : Addr -> Prop} {H : Hp} : ∀ {wd : List (Option Int)} {xs : List V}, IsDs nb H (wd.map optD) xs -> xs = wd.map optV
  | [], _, h => by unfold List.map IsDs at h; exact h
  | o :: wd, _, h => by
    rw [zq4x] at h
    unfold IsDs at h
    obtain ⟨y, ys, rfl, h1, h2⟩ := h
    rw [zq4x, isD_opt h1, isDs_opt h2]
theorem isD_pair {nb : Addr -> Prop} {H : Hp} {pr : Int × Int} {v : V} (h : IsD nb H (pairD pr) v) : ∃ t, v = .ref t /\ ¬ nb t /\ H t = some (.tup [.int pr.1, .int pr.2]) := by
 obtain ⟨t, xs, rfl, n, ht, hd⟩ := h.ofT
 unfold IsDs at hd
 obtain ⟨y, ys, rfl, h1, h2⟩ := hd
 unfold IsDs at h2
 obtain ⟨z, zs, rfl, h3, h4⟩ := h2
 unfold IsDs at h4
 subst h4
 rw [h1.ofI, h3.ofI] at ht
 exact ⟨t, rfl, n, ht⟩
def spTotal : Sp := fun vs H Q _ => ∃ (nb : Addr -> Prop) (p : Int) (va vc : V) (prs : List (Int × Int)) (wd : List (Option Int)), vs = [.int p, va, vc] /\ IsD nb H (.list (prs.map pairD)) va /\ IsD nb H (.list (wd.map optD)) vc /\ 0 < p /\
 (∀ pr ∈ prs, 0 <= pr.1 /\ pr.1 < wd.length /\ Sm pr.2) /\ (∀ x, some x ∈ wd -> Sm x) /\ Q (.int (dueSum prs wd % p)) H
theorem shaped_word (wd : List (Option Int)) : PyData.depthAll (wd.map optD) = 0 /\ PyData.canLayAll0 (wd.map optD) = true := by
 induction wd with
 | nil => simp [PyData.depthAll, PyData.canLayAll0]
 | cons a r ih => cases a <;> simp [optD, PyData.depthAll, PyData.depth, PyData.canLayAll0, PyData.canLay0, ih.2, ih.1]
def NoDiv (r : Int) : Prop := ∀ d : Int, 2 <= d -> d * d <= r -> r % d ≠ 0
def primeList : List Int := [2, 3, 5, 7, 2, 11, 101, 10007, 65537, 1000003, 998244353, 1000000007, 2147483647, 1000000000039, 1000000000000000003, 18446744073709551557, 2305843009213693951, 618970019642690137449562111, 162259276829213363391578010288127, 170141183460469231731687303715884105727, 1000000000000000000000000000000000000003, 9999999999999999999999999999999999999983]
def IsP (p : Int) : Prop := 2 <= p /\ p < 10 ^ 40 /\ (p ∈ primeList \/ NoDiv p)
def spPrimeFrom : Sp := fun vs H Q _ => ∃ n : Int, vs = [.int n] /\ 2 <= n /\ n <= 10002 /\ ∀ (r : Int) (H' : Hp), Same H H' -> 2 <= r -> r <= 10100 -> NoDiv r -> Q (.int r) H'
def spPrime : Sp := fun vs H Q _ => ∃ (b l : Addr), vs = [.ref b] /\ BagAt H b l /\ ∀ (p : Int) (H' : Hp), IsP p -> But (Nb b) H H' -> BagAt H' b l -> Q (.int p) H'
theorem isDs_intsL {nb : Addr -> Prop} {H : Hp} : ∀ is : List Int, IsDs nb H (is.map PyData.int) (is.map V.int)
 | [] => IsDs.nil
 | i :: is => IsDs.cons (.int i) (isDs_intsL is)
theorem isDs_ints_eq {nb : Addr -> Prop} {H : Hp} : ∀ {is : List Int} {xs : List V}, IsDs nb H (is.map PyData.int) xs -> xs = is.map V.int
  | [], _, h => by unfold List.map IsDs at h; exact h
  | i :: is, _, h => by
    rw [zq4x] at h
    unfold IsDs at h
    obtain ⟨y, ys, rfl, h1, h2⟩ := h
    rw [zq4x, h1.ofI, isDs_ints_eq h2]
end L2
set_option maxRecDepth 100000
set_option maxHeartbeats 1000000
namespace L2
open PySem PySem.Spec PyProof.Rows
abbrev Bg := Option (Addr × Addr)
def NB (B : Bg) (a : Addr) : Prop := ∀ b l, B = some (b, l) -> a ≠ b
def BagOk (B : Bg) (H : Hp) : Prop := ∀ b l, B = some (b, l) -> BagAt H b l
def Live (nb : Addr -> Prop) (H : Hp) : Prop := ∀ a, nb a -> H a ≠ none
structure Kp (S : Addr -> Prop) (F : List Addr) (H H' : Hp) : Prop where
 own : ∀ a ∈ F, ∀ o, H a = some o -> H' a = some o
 lst : ∀ a xs, ¬ S a -> H a = some (.lst xs) -> H' a = some (.lst xs)
 tup : ∀ a xs, ¬ S a -> H a = some (.tup xs) -> H' a = some (.tup xs)
 dic : ∀ a ps, ¬ S a -> Rd H a (.dK ps) -> Rd H' a (.dK ps)
theorem Kp.of {S : Addr -> Prop} {F : List Addr} {H H' : Hp} (h : ∀ a o, (¬ S a \/ a ∈ F) -> H a = some o -> H' a = some o) : Kp S F H H' :=
 ⟨fun a ha o e => h a o (.inr ha) e, fun a xs n e => h a _ (.inl n) e, fun a xs n e => h a _ (.inl n) e, fun a ps n e => e.elim (fun e => .inl (h a _ (.inl n) e)) fun ⟨o, e⟩ => .inr ⟨o, h a _ (.inl n) e⟩⟩
mutual
theorem IsD.kp {S : Addr -> Prop} {F : List Addr} {H H' : Hp} (m : Kp S F H H') : ∀ {d : PyData} {v : V}, IsD S H d v -> IsD S H' d v
 | .none, _, h => by unfold IsD at h ⊢; exact h
 | .bool _, _, h => by unfold IsD at h ⊢; exact h
 | .int _, _, h => by unfold IsD at h ⊢; exact h
 | .str _, _, h => by unfold IsD at h ⊢; exact h
 | .list ds, _, h => by unfold IsD at h ⊢; obtain ⟨a, xs, e, n, s, r⟩ := h; exact ⟨a, xs, e, n, m.lst _ _ n s, IsDs.kp m r⟩
 | .tuple ds, _, h => by unfold IsD at h ⊢; obtain ⟨a, xs, e, n, s, r⟩ := h; exact ⟨a, xs, e, n, m.tup _ _ n s, IsDs.kp m r⟩
 | .dict kvs, _, h => by unfold IsD at h ⊢; obtain ⟨a, xs, e, n, s, r⟩ := h; exact ⟨a, xs, e, n, m.dic _ _ n s, IsKs.kp m r⟩
theorem IsDs.kp {S : Addr -> Prop} {F : List Addr} {H H' : Hp} (m : Kp S F H H') : ∀ {ds : List PyData} {vs : List V}, IsDs S H ds vs -> IsDs S H' ds vs
 | [], _, h => by unfold IsDs at h ⊢; exact h
 | d :: ds, _, h => by unfold IsDs at h ⊢; obtain ⟨y, ys, e, h1, h2⟩ := h; exact ⟨y, ys, e, IsD.kp m h1, IsDs.kp m h2⟩
theorem IsKs.kp {S : Addr -> Prop} {F : List Addr} {H H' : Hp} (m : Kp S F H H') : ∀ {ds : List (PyData × PyData)} {vs : List (Key × V)}, IsKs S H ds vs -> IsKs S H' ds vs
 | [], _, h => by unfold IsKs at h ⊢; exact h
 | d :: ds, _, h => by unfold IsKs at h ⊢; obtain ⟨y, ys, e, h1, h2⟩ := h; exact ⟨y, ys, e, IsK.kp m h1, IsKs.kp m h2⟩
theorem IsK.kp {S : Addr -> Prop} {F : List Addr} {H H' : Hp} (m : Kp S F H H') : ∀ {d : PyData × PyData} {v : Key × V}, IsK S H d v -> IsK S H' d v
 | (k, d), _, h => by unfold IsK at h ⊢; exact ⟨h.1, IsD.kp m h.2⟩
end
structure Cu where
 v : V
 F : List Addr
 f : Bool
 P : (Addr -> Prop) -> Hp -> Prop
 keep : ∀ {S : Addr -> Prop} {H H' : Hp}, Kp S F H H' -> P S H -> P S H'
 av : ∀ {S S' : Addr -> Prop} {H : Hp}, (∀ a, S' a -> S a) -> P S H -> P S' H
 fresh : ∀ {S : Addr -> Prop} {H : Hp} {p : Addr}, H p = none -> P S H -> P (fun a => S a \/ a = p) H
inductive HD where
 | d (x : PyData) | fz (o : Obj) (ps : List (Key × V)) | th (c : Cu)
def IsH (S : Addr -> Prop) (H : Hp) : HD -> V -> Prop
 | .d x, v => IsD S H x v
 | .fz o ps, v => ∃ a, v = .ref a /\ ¬ S a /\ H a = some (.frz o (.dK ps))
 | .th c, v => v = c.v /\ (∀ a ∈ c.F, ¬ S a /\ H a ≠ none) /\ c.P S H
theorem IsH.keep {S : Addr -> Prop} {H H' : Hp} {x : HD} {v : V} (h : IsH S H x v) (b : But S H H') : IsH S H' x v := by
  cases x with
  | d x => exact IsD.keep b h
  | fz o ps => obtain ⟨a, e, n, q⟩ := h; exact ⟨a, e, n, b _ _ n q⟩
  | th c =>
    obtain ⟨e, n, q⟩ := h
    refine ⟨e, fun a m => ⟨(n a m).1, ?_⟩, c.keep (.of fun a o m q => b a o (m.elim id fun m => (n a m).1) q) q⟩
    cases z : H a with
    | none => exact absurd z (n a m).2
    | some o => rw [b a o (n a m).1 z]; exact zq48x _
theorem IsH.av {S S' : Addr -> Prop} {H : Hp} {x : HD} {v : V} (h : IsH S H x v) (b : ∀ a, S' a -> S a) : IsH S' H x v := by
 cases x with
 | d x => exact IsD.av b h
 | fz o ps => obtain ⟨a, e, n, q⟩ := h; exact ⟨a, e, fun z => n (b a z), q⟩
 | th c => obtain ⟨e, n, q⟩ := h; exact ⟨e, fun a m => ⟨fun z => (n a m).1 (b a z), (n a m).2⟩, c.av b q⟩
theorem IsH.fresh {S : Addr -> Prop} {H : Hp} {x : HD} {v : V} {p : Addr} (h : IsH S H x v) (hp : H p = none) : IsH (fun a => S a \/ a = p) H x v := by
 cases x with
 | d x => exact IsD.fresh hp h
 | fz o ps => obtain ⟨a, e, n, q⟩ := h; exact ⟨a, e, fun z => z.elim n (ne_of_none q hp), q⟩
 | th c => obtain ⟨e, n, q⟩ := h; exact ⟨e, fun a m => ⟨fun z => z.elim (n a m).1 fun y => (n a m).2 (by rw [y]; exact hp), (n a m).2⟩, c.fresh hp q⟩
structure Gx where
 B : Bg
 H0 : Hp
 A : Addr -> Prop
 hold : List (Bool × HD × V) := []
inductive Sl where
 | no | d (f : Bool) (d : PyData) | own (a : Addr) (f : Bool) (ds : List PyData) | bag | raw (v : V) | dic (a : Addr) (f : Bool) (ks : List (Int × PyData)) | cu (c : Cu)
def Sl.adr : Sl -> List Addr
 | .own a _ _ => [a]
 | .dic a _ _ => [a]
 | .cu c => c.F
 | _ => []
@[reducible] def kvD (p : Int × PyData) : PyData × PyData := (.int p.1, p.2)
abbrev Rh := List Sl
def Gx.S (G : Gx) (nb : Addr -> Prop) (f : Bool) : Addr -> Prop := fun a => nb a \/ G.A a \/ ¬ NB G.B a \/ (f = true /\ G.H0 a ≠ none)
def SlOk (G : Gx) (nb : Addr -> Prop) (H : Hp) (x : Option V) : Sl -> Prop
 | .no => True
 | .d f d => ∃ v, x = some v /\ IsD (G.S nb f) H d v
 | .own a f ds => x = some (.ref a) /\ nb a /\ NB G.B a /\ ∃ xs, H a = some (.lst xs) /\ IsDs (G.S nb f) H ds xs
 | .bag => ∃ b l, G.B = some (b, l) /\ x = some (.ref b)
 | .raw v => x = some v
 | .dic a f ks => x = some (.ref a) /\ nb a /\ NB G.B a /\ ∃ ps, H a = some (.dK ps) /\ IsKs (G.S nb f) H (ks.map kvD) ps
 | .cu c => x = some c.v /\ (∀ a ∈ c.F, nb a /\ NB G.B a) /\ c.P (G.S nb c.f) H
structure Wd (G : Gx) (nb : Addr -> Prop) (ρ : Rh) (σ : St) (H : Hp) : Prop where
 bag : BagOk G.B H
 live : Live nb H
 old : ∀ a o, NB G.B a -> G.H0 a = some o -> H a = some o
 nbo : ∀ a, nb a -> NB G.B a -> G.H0 a = none
 gA : Live G.A G.H0
 len : σ.length = ρ.length
 gB : BagOk G.B G.H0
 hld : ∀ h ∈ G.hold, IsH (G.S nb h.1) H h.2.1 h.2.2
 ok : ∀ (i : Nat) (s : Sl), ρ[i]? = some s -> ∃ x, σ[i]? = some x /\ SlOk G nb H x s
 apart : ∀ (i j : Nat) a f as c g cs, i ≠ j -> ρ[i]? = some (.own a f as) -> ρ[j]? = some (.own c g cs) -> a ≠ c
 apd : ∀ (i j : Nat) a f as c g cs, i ≠ j -> ρ[i]? = some (.dic a f as) -> ρ[j]? = some (.dic c g cs) -> a ≠ c
 apc : ∀ (i j : Nat) c s, i ≠ j -> ρ[i]? = some (.cu c) -> ρ[j]? = some s -> ∀ a ∈ c.F, a ∉ s.adr
def Step (B : Bg) (H H' : Hp) : Prop := (∀ a o, NB B a -> H a = some o -> H' a = some o) /\ BagOk B H'
section
variable {G : Gx} {B : Bg} {nb : Addr -> Prop} {ρ : Rh} {σ : St} {H H1 H2 H' : Hp} {f g : Bool} {d : PyData} {ds : List PyData} {v : V} {xs : List V} {a p : Addr}
theorem Step.refl (h : BagOk B H) : Step B H H := ⟨fun _ _ _ e => e, h⟩
theorem Step.trans (x : Step B H H1) (y : Step B H1 H2) : Step B H H2 := ⟨fun a o n e => y.1 a o n (x.1 a o n e), y.2⟩
theorem BagOk.same (h : BagOk B H) (s : Same H H') : BagOk B H' := fun b l e => (h b l e).same s
theorem Step.same (h : BagOk B H) (s : Same H H') : Step B H H' := ⟨fun a o _ e => s a o e, h.same s⟩
theorem Step.but {nb' : Addr -> Prop} (s : Step B H H') (h : ∀ a, ¬ NB B a -> nb' a) : But nb' H H' := fun a o n e => s.1 a o (zq55x fun z => n (h a z)) e
theorem Step.butS (s : Step G.B H H') : But (G.S nb f) H H' := s.but fun a h => .inr (.inr (.inl h))
theorem S_mono (h : g = true -> f = true) {nb' : Addr -> Prop} (hn : ∀ a, nb a -> nb' a) : ∀ a, G.S nb g a -> G.S nb' f a := by
 intro a z
 rcases z with z | z | z | ⟨z, q⟩
 ·exact .inl (hn a z)
 ·exact .inr (.inl z)
 ·exact .inr (.inr (.inl z))
 ·exact .inr (.inr (.inr ⟨h z, q⟩))
theorem NB.bag_live (h : BagOk B H) (n : ¬ NB B a) : H a ≠ none := by
 intro e
 apply n
 intro b l hb z
 subst z
 obtain ⟨_, _, _, _, _, h1, _⟩ := h _ _ hb
 rw [h1] at e; cases e
theorem Wd.liveS (W : Wd G nb ρ σ H) : Live (G.S nb f) H := by
 intro a z
 rcases z with z | z | z | ⟨_, z⟩
 ·exact W.live a z
 ·by_cases n : NB G.B a
  ·cases e : G.H0 a with
   | none => exact absurd e (W.gA a z)
   | some o => rw [W.old a o n e]; exact zq48x _
  ·exact NB.bag_live W.bag n
 ·exact NB.bag_live W.bag z
 ·by_cases n : NB G.B a
  ·cases e : G.H0 a with
   | none => exact absurd e z
   | some o => rw [W.old a o n e]; exact zq48x _
  ·exact NB.bag_live W.bag n
theorem Wd.fresh (W : Wd G nb ρ σ H) (hp : H p = none) : ¬ G.S nb f p := fun z => W.liveS p z hp
theorem SlOk.step {x : Option V} {s : Sl} (st : Step G.B H H') (h : SlOk G nb H x s) : SlOk G nb H' x s := by
  cases s with
  | no => trivial
  | d f d => obtain ⟨v, e, h⟩ := h; exact ⟨v, e, h.keep st.butS⟩
  | own a f ds => obtain ⟨e, n, q, xs, hx, hd⟩ := h; exact ⟨e, n, q, xs, st.1 _ _ q hx, hd.keep st.butS⟩
  | bag => exact h
  | raw v => exact h
  | dic a f ks => obtain ⟨e, n, q, xs, hx, hd⟩ := h; exact ⟨e, n, q, xs, st.1 _ _ q hx, hd.keep st.butS⟩
  | cu c =>
    obtain ⟨e, n, p⟩ := h
    refine ⟨e, n, c.keep (.of fun a o ha e => st.1 a o ?_ e) p⟩
    rcases ha with ha | ha
    · exact zq55x fun z => ha (.inr (.inr (.inl z)))
    · exact (n a ha).2
theorem ne_none_keep (n : NB B a) (st : Step B H H') (h : H a ≠ none) : H' a ≠ none := by
 cases e : H a with
 | none => exact absurd e h
 | some o => rw [st.1 a o n e]; exact zq48x _
theorem Wd.step (W : Wd G nb ρ σ H) (st : Step G.B H H') : Wd G nb ρ σ H' where
 bag := st.2
 live := fun a n => by
  by_cases q : NB G.B a
  ·exact ne_none_keep q st (W.live a n)
  ·exact NB.bag_live st.2 q
 old := fun a o n e => st.1 a o n (W.old a o n e)
 nbo := W.nbo
 gA := W.gA
 len := W.len
 gB := W.gB
 hld := fun h m => (W.hld h m).keep st.butS
 ok := fun i s e => by
  obtain ⟨x, e1, h⟩ := W.ok i s e
  exact ⟨x, e1, h.step st⟩
 apart := W.apart
 apd := W.apd
 apc := W.apc
theorem Wd.set {i : Nat} {s : Sl} {x : Option V} (W : Wd G nb ρ σ H) (h : SlOk G nb H x s) (hs : ∀ a f ds, s = .own a f ds -> ∀ j c g cs, j ≠ i -> ρ[j]? = some (.own c g cs) -> a ≠ c) (hd : ∀ a f ds, s = .dic a f ds -> ∀ j c g cs, j ≠ i -> ρ[j]? = some (.dic c g cs) -> a ≠ c := by intro _ _ _ z; cases z) (hcu : ∀ a ∈ s.adr, ∀ j t, j ≠ i -> ρ[j]? = some t -> (∃ c, s = .cu c) \/ (∃ c, t = .cu c) -> a ∉ t.adr := by intro _ z; cases z) : Wd G nb (ρ.set i s) (σ.set i x) H where
 bag := W.bag
 live := W.live
 old := W.old
 nbo := W.nbo
 gA := W.gA
 len := by rw [zq47x, zq47x]; exact W.len
 gB := W.gB
 hld := W.hld
 ok := fun j t e => by
  by_cases hij : i = j
  ·subst hij
   have hl : i < ρ.length := by have := (zq7x.mp e).1; rwa [zq47x] at this
   rw [zq20x hl] at e
   cases e
   exact ⟨x, zq20x (by rw [W.len]; exact hl), h⟩
  ·rw [zq9x hij] at e ⊢
   exact W.ok j t e
 apart := fun j k a f as c g cs hjk e1 e2 => by
  by_cases hj : i = j
  ·subst hj
   have hl : i < ρ.length := by have := (zq7x.mp e1).1; rwa [zq47x] at this
   rw [zq20x hl] at e1
   cases e1
   rw [zq9x hjk] at e2
   exact hs a f as rfl k c g cs (zq14x hjk) e2
  ·by_cases hk : i = k
   ·subst hk
    have hl : i < ρ.length := by have := (zq7x.mp e2).1; rwa [zq47x] at this
    rw [zq20x hl] at e2
    cases e2
    rw [zq9x hj] at e1
    exact (hs c g cs rfl j a f as hjk e1).symm
   ·rw [zq9x hj] at e1
    rw [zq9x hk] at e2
    exact W.apart j k a f as c g cs hjk e1 e2
 apd := fun j k a f as c g cs hjk e1 e2 => by
  by_cases hj : i = j
  ·subst hj
   have hl : i < ρ.length := by have := (zq7x.mp e1).1; rwa [zq47x] at this
   rw [zq20x hl] at e1
   cases e1
   rw [zq9x hjk] at e2
   exact hd a f as rfl k c g cs (zq14x hjk) e2
  ·by_cases hk : i = k
   ·subst hk
    have hl : i < ρ.length := by have := (zq7x.mp e2).1; rwa [zq47x] at this
    rw [zq20x hl] at e2
    cases e2
    rw [zq9x hj] at e1
    exact (hd c g cs rfl j a f as hjk e1).symm
   ·rw [zq9x hj] at e1
    rw [zq9x hk] at e2
    exact W.apd j k a f as c g cs hjk e1 e2
 apc := fun j k c t hjk e1 e2 a ha => by
  by_cases hj : i = j
  ·subst hj
   have hl : i < ρ.length := by have := (zq7x.mp e1).1; rwa [zq47x] at this
   rw [zq20x hl] at e1
   cases e1
   rw [zq9x hjk] at e2
   exact hcu a ha k t (zq14x hjk) e2 (.inl ⟨c, rfl⟩)
  ·by_cases hk : i = k
   ·subst hk
    have hl : i < ρ.length := by have := (zq7x.mp e2).1; rwa [zq47x] at this
    rw [zq20x hl] at e2
    cases e2
    rw [zq9x hj] at e1
    exact fun z => hcu a z j (.cu c) hjk e1 (.inr ⟨c, rfl⟩) ha
   ·rw [zq9x hj] at e1
    rw [zq9x hk] at e2
    exact W.apc j k c t hjk e1 e2 a ha
theorem Wd.setD {i : Nat} (W : Wd G nb ρ σ H) (h : IsD (G.S nb f) H d v) : Wd G nb (ρ.set i (.d f d)) (σ.set i (some v)) H := W.set ⟨v, rfl, h⟩ fun _ _ _ e => by cases e
inductive Wk : Rh -> Rh -> Prop
 | nil : Wk [] []
 | no {s : Sl} {r r' : Rh} (h : Wk r r') : Wk (.no :: r) (s :: r')
 | eq {s : Sl} {r r' : Rh} (h : Wk r r') : Wk (s :: r) (s :: r')
theorem Wk.at : ∀ {r r' : Rh} {i : Nat} {s : Sl}, Wk r r' -> r[i]? = some s -> s = .no /\ (∃ t, r'[i]? = some t) \/ r'[i]? = some s
 | _, _, _, _, .nil, e => by simp at e
 | _, _, 0, _, .no h, e => by simp at e; subst e; exact .inl ⟨rfl, _, rfl⟩
 | _, _, 0, _, .eq h, e => by simp at e; subst e; exact .inr rfl
 | _, _, i + 1, _, .no h, e => by simpa using Wk.at (i := i) h (by simpa using e)
 | _, _, i + 1, _, .eq h, e => by simpa using Wk.at (i := i) h (by simpa using e)
theorem Wk.len {r r' : Rh} (h : Wk r r') : r.length = r'.length := by
 induction h with
 | nil => rfl
 | no _ ih => simp [ih]
 | eq _ ih => simp [ih]
theorem Wd.wk {ρ' : Rh} (W : Wd G nb ρ' σ H) (h : Wk ρ ρ') : Wd G nb ρ σ H where
 bag := W.bag
 live := W.live
 old := W.old
 nbo := W.nbo
 gA := W.gA
 len := by rw [h.len]; exact W.len
 gB := W.gB
 hld := W.hld
 ok := fun i s e => by
  rcases h.at e with ⟨rfl, t, e'⟩ | e'
  ·obtain ⟨x, e1, _⟩ := W.ok i t e'; exact ⟨x, e1, trivial⟩
  ·exact W.ok i s e'
 apart := fun i j a f as c g cs hij e1 e2 => by
  rcases h.at e1 with ⟨z, _⟩ | e1'
  ·cases z
  rcases h.at e2 with ⟨z, _⟩ | e2'
  ·cases z
  exact W.apart i j a f as c g cs hij e1' e2'
 apd := fun i j a f as c g cs hij e1 e2 => by
  rcases h.at e1 with ⟨z, _⟩ | e1'
  ·cases z
  rcases h.at e2 with ⟨z, _⟩ | e2'
  ·cases z
  exact W.apd i j a f as c g cs hij e1' e2'
 apc := fun i j c s hij e1 e2 a ha => by
  rcases h.at e1 with ⟨z, _⟩ | e1'
  ·cases z
  rcases h.at e2 with ⟨z, _⟩ | e2'
  ·subst z; exact fun z => by cases z
  exact W.apc i j c s hij e1' e2' a ha
theorem Wd.more (W : Wd G nb ρ σ H) (hp : H p = none) {o : HO} : Wd G (fun a => nb a \/ a = p) ρ σ (upd H p o) := by
 have hS : Same H (upd H p o) := same_new hp
 have hN : NB G.B p := fun b l e z => by
  subst z
  obtain ⟨_, _, _, _, _, h1, _⟩ := W.bag _ _ e
  rw [h1] at hp; cases hp
 have W' := W.step (Step.same W.bag hS)
 have hA : ∀ f a, G.S (fun a => nb a \/ a = p) f a -> (G.S nb f a \/ a = p) := fun f a z => by
  rcases z with (z | z) | z | z | z
  ·exact .inl (.inl z)
  ·exact .inr z
  ·exact .inl (.inr (.inl z))
  ·exact .inl (.inr (.inr (.inl z)))
  ·exact .inl (.inr (.inr (.inr z)))
 refine ⟨W'.bag, fun a n => ?_, W'.old, fun a n q => ?_, W.gA, W.len, W.gB, fun h m => (((W.hld h m).fresh hp).av (hA h.1)).keep (But.of hS), fun i s e => ?_, W.apart, W.apd, W.apc⟩
 ·rcases n with n | n
  ·exact W'.live a n
  ·subst n; rw [upd_same]; exact zq48x _
 ·rcases n with n | n
  ·exact W.nbo a n q
  ·subst n
   cases e : G.H0 a with
   | none => rfl
   | some o => rw [W.old a o q e] at hp; cases hp
 ·obtain ⟨x, e1, h⟩ := W.ok i s e
  refine ⟨x, e1, ?_⟩
  cases s with
  | no => trivial
  | d f d => obtain ⟨v, e, h⟩ := h; exact ⟨v, e, ((h.fresh hp).av (hA f)).keep (But.of hS)⟩
  | own a f ds => obtain ⟨e, n, q, xs, hx, hd⟩ := h; exact ⟨e, .inl n, q, xs, hS _ _ hx, ((hd.fresh hp).av (hA f)).keep (But.of hS)⟩
  | bag => exact h
  | raw v => exact h
  | dic a f ds => obtain ⟨e, n, q, xs, hx, hd⟩ := h; exact ⟨e, .inl n, q, xs, hS _ _ hx, ((hd.fresh hp).av (hA f)).keep (But.of hS)⟩
  | cu c => obtain ⟨e, n, q⟩ := h; exact ⟨e, fun a ha => ⟨.inl (n a ha).1, (n a ha).2⟩, c.keep (.of fun a o _ e => hS a o e) (c.av (hA c.f) (c.fresh hp q))⟩
theorem Wd.write (W : Wd G nb ρ σ H) {o : HO} (hp : nb p) (hN : NB G.B p) (ho : ∀ (i : Nat) a f ds, ρ[i]? = some (.own a f ds) -> a ≠ p) (hod : ∀ (i : Nat) a f ds, ρ[i]? = some (.dic a f ds) -> a ≠ p) (hoc : ∀ (i : Nat) c, ρ[i]? = some (.cu c) -> p ∉ c.F) : Wd G nb ρ σ (upd H p o) := by
  have hl : ∀ b l, G.B = some (b, l) -> p ≠ l := fun b l e z => by
    obtain ⟨_, _, _, _, _, _, h2, _⟩ := W.gB b l e
    rw [<- z, W.nbo p hp hN] at h2; cases h2
  have hB : BagOk G.B (upd H p o) := fun b l e => (W.bag b l e).put2 ⟨hN b l e, hl b l e⟩
  have bt : ∀ f, But (G.S nb f) H (upd H p o) := fun f => But.set (.inl hp)
  refine ⟨hB, fun a n => ?_, fun a o' n e => ?_, W.nbo, W.gA, W.len, W.gB, fun h m => (W.hld h m).keep (bt h.1), fun i s e => ?_, W.apart, W.apd, W.apc⟩
  · by_cases z : a = p
    · subst z; rw [upd_same]; exact zq48x _
    · rw [upd_ne z]; exact W.live a n
  · have z : a ≠ p := fun z => by subst z; rw [W.nbo a hp n] at e; cases e
    rw [upd_ne z]; exact W.old a o' n e
  · obtain ⟨x, e1, h⟩ := W.ok i s e
    refine ⟨x, e1, ?_⟩
    cases s with
    | no => trivial
    | d f d => obtain ⟨v, e, h⟩ := h; exact ⟨v, e, h.keep (bt f)⟩
    | own a f ds => obtain ⟨e', n, q, xs, hx, hd⟩ := h; exact ⟨e', n, q, xs, by rw [upd_ne (ho i a f ds e)]; exact hx, hd.keep (bt f)⟩
    | bag => exact h
    | raw v => exact h
    | dic a f ds => obtain ⟨e', n, q, xs, hx, hd⟩ := h; exact ⟨e', n, q, xs, by rw [upd_ne (hod i a f ds e)]; exact hx, hd.keep (bt f)⟩
    | cu c =>
      obtain ⟨e', n, q⟩ := h
      refine ⟨e', n, c.keep (.of fun a o' ha e'' => ?_) q⟩
      rw [upd_ne]
      · exact e''
      · rintro rfl
        rcases ha with ha | ha
        · exact ha (.inl hp)
        · exact hoc i c e ha
end
end L2
set_option maxRecDepth 100000
set_option maxHeartbeats 1000000
namespace L2
open PySem PySem.Spec PyProof.Rows
abbrev Pd := Bool -> PyData -> Prop
def Ev (G : Gx) (ρ : Rh) (te : TE) (Φ : Pd) : Prop := ∀ nb σ H (Q : VK), Wd G nb ρ σ H -> (∀ f v H' d, Φ f d -> Step G.B H H' -> IsD (G.S nb f) H' d v -> Q v H') -> te σ H Q
def EvN (G : Gx) (ρ : Rh) (te : TE) (Φ : Bool -> List PyData -> Prop) : Prop := ∀ nb σ H (Q : VK), Wd G nb ρ σ H ->
 (∀ f a xs H' ds, Φ f ds -> Step G.B H H' -> H a = none -> H' a = some (.lst xs) -> IsDs (fun x => G.S nb f x \/ x = a) H' ds xs -> Q (.ref a) H') -> te σ H Q
def Tv (G : Gx) (ρ : Rh) (tt : TT) (Φ : Bool -> Prop) : Prop := ∀ nb σ H (Q : Bool -> Hp -> Prop), Wd G nb ρ σ H -> (∀ b H', Φ b -> Step G.B H H' -> Q b H') -> tt σ H Q
def Ov (G : Gx) (ρ : Rh) (to : TO) (Φ : Option Int -> Prop) : Prop := ∀ nb σ H (Q : Option Int -> Hp -> Prop), Wd G nb ρ σ H -> (∀ o H', Φ o -> Step G.B H H' -> Q o H') -> to σ H Q
abbrev Fd := Bool × PyData
def IsF (G : Gx) (nb : Addr -> Prop) (H : Hp) : List Fd -> List V -> Prop
 | [], vs => vs = []
 | e :: es, vs => ∃ v ws, vs = v :: ws /\ IsD (G.S nb e.1) H e.2 v /\ IsF G nb H es ws
def Av (G : Gx) (ρ : Rh) (ta : TA) (Φ : List Fd -> Prop) : Prop := ∀ nb σ H (Q : List V -> Hp -> Prop), Wd G nb ρ σ H -> (∀ es vs H', Φ es -> Step G.B H H' -> IsF G nb H' es vs -> Q vs H') -> ta σ H Q
def Gv (G : Gx) (ρ : Rh) (g : TG) (f : Bool) (d : PyData) (Φ : Rh -> Prop) : Prop := ∀ nb σ H v (Q : St -> Hp -> Prop), Wd G nb ρ σ H -> IsD (G.S nb f) H d v -> (∀ σ' ρ', Φ ρ' -> Wd G nb ρ' σ' H -> Q σ' H) -> g v σ H Q
def Gvs (G : Gx) (ρ : Rh) (g : TGs) (f : Bool) (ds : List PyData) (Φ : Rh -> Prop) : Prop := ∀ nb σ H vs (Q : St -> Hp -> Prop), Wd G nb ρ σ H -> IsDs (G.S nb f) H ds vs -> (∀ σ' ρ', Φ ρ' -> Wd G nb ρ' σ' H -> Q σ' H) -> g vs σ H Q
structure DE where
 nx : Rh -> Prop
 rt : Pd
 bk : Rh -> Prop := fun _ => False
 ct : Rh -> Prop := fun _ => False
 rw : (Addr -> Prop) -> Rh -> V -> Hp -> Prop := fun _ _ _ _ => False
structure EndsOk (G : Gx) (E : DE) (D : Ends) : Prop where
 nx : ∀ nb ρ σ H, E.nx ρ -> Wd G nb ρ σ H -> D.nx σ H
 bk : ∀ nb ρ σ H, E.bk ρ -> Wd G nb ρ σ H -> D.bk σ H
 ct : ∀ nb ρ σ H, E.ct ρ -> Wd G nb ρ σ H -> D.ct σ H
 rt : ∀ nb ρ σ f v H d, E.rt f d -> Wd G nb ρ σ H -> IsD (G.S (fun _ => False) f) H d v -> D.rt v H
 rw : ∀ nb ρ σ v H, E.rw nb ρ v H -> Wd G nb ρ σ H -> D.rt v H
def Sv (G : Gx) (ρ : Rh) (ts : TS) (E : DE) : Prop := ∀ nb σ H D, Wd G nb ρ σ H -> EndsOk G E D -> ts D σ H
def scB : PyData -> Bool
 | .none => true | .bool _ => true | .int _ => true | .str _ => true | _ => false
def toV : PyData -> V
 | .bool b => .bl b | .int i => .int i | .str x => .str x | _ => .non
section
variable {nb nb' : Addr -> Prop} {H H' : Hp} {d e : PyData} {v : V}
theorem IsD.sc (h : scB d = true) : IsD nb H d (toV d) := by
 cases d <;> first | (cases h; done) | (unfold IsD; rfl)
theorem IsD.scEq (h : scB d = true) (q : IsD nb H d v) : v = toV d := by
 cases d <;> first | (cases h; done) | (unfold IsD at q; exact q)
theorem IsD.scAny (h : scB d = true) (q : IsD nb H d v) : IsD nb' H' d v := by
 rw [q.scEq h]; exact .sc h
theorem IsDs.scAny : ∀ {ds : List PyData} {xs : List V}, ds.all scB = true -> IsDs nb H ds xs -> IsDs nb' H' ds xs
  | [], _, _, q => by unfold IsDs at q ⊢; exact q
  | d :: ds, _, h, q => by
    rw [zq81x, zq24x] at h
    unfold IsDs at q ⊢
    obtain ⟨y, ys, e, h1, h2⟩ := q
    exact ⟨y, ys, e, h1.scAny h.1, IsDs.scAny h.2 h2⟩
end
section
variable {G : Gx} {ρ : Rh} {Φ Ψ : Pd} {ta tb te : TE} {t : TA} {i : Nat} {f g : Bool} {d e : PyData} {ds es : List PyData} {K : PySem.W.Frag}
theorem Ev.mono (h : Ev G ρ te Ψ) (q : ∀ f d, Ψ f d -> Φ f d) : Ev G ρ te Φ := fun nb σ H Q W z => h nb σ H Q W fun f v H' d p => z f v H' d (q f d p)
theorem EvN.ev (h : EvN G ρ te fun f ds => Φ f (.list ds)) : Ev G ρ te Φ := fun nb σ H Q W z => h nb σ H Q W fun f a xs H' ds p st n e hd =>
 z f _ H' _ p st (.lst (W.fresh n) e (hd.av fun _ x => .inl x))
namespace Ev
theorem var (e : ρ[i]? = some (.d f d)) (h : Φ f d) : Ev G ρ (tVar i) Φ := fun nb σ H Q W z => by
 obtain ⟨x, e1, v, rfl, hd⟩ := W.ok i _ e
 exact ⟨v, e1, z f v H d h (.refl W.bag) hd⟩
theorem int {n : Int} (h : Φ true (.int n)) : Ev G ρ (tC (.int n)) Φ := fun nb σ H Q W z => z true _ H _ h (.refl W.bag) (.int n)
theorem bl {b : Bool} (h : Φ true (.bool b)) : Ev G ρ (tC (.bl b)) Φ := fun nb σ H Q W z => z true _ H _ h (.refl W.bag) (.bl b)
theorem non (h : Φ true .none) : Ev G ρ (tC .non) Φ := fun nb σ H Q W z => z true _ H _ h (.refl W.bag) .non
theorem op2 {r : R2} (h : Ev G ρ ta fun f x => Ev G ρ tb fun g y => ∀ nb σ H u v (Q : VK), Wd G nb ρ σ H -> IsD (G.S nb f) H x u -> IsD (G.S nb g) H y v -> (∀ f w H' d, Φ f d -> Step G.B H H' -> IsD (G.S nb f) H' d w -> Q w H') -> r u v H Q) : Ev G ρ (tOp r ta tb) Φ := fun nb σ H Q W z =>
 h nb σ H _ W fun f v1 H1 d1 p1 s1 q1 => p1 nb σ H1 _ (W.step s1) fun g v2 H2 d2 p2 s2 q2 => p2 nb σ H2 _ _ _ ((W.step s1).step s2) (q1.keep s2.butS) q2 fun f w H' d p st q => z f w H' d p (s1.trans (s2.trans st)) q
theorem rI {C : Int -> Int -> Prop} {k : Int -> Int -> Int} (h : Ev G ρ ta fun _ x => ∃ i, x = .int i /\ Ev G ρ tb fun _ y => ∃ j, y = .int j /\ C i j /\ Φ true (.int (k i j))) : Ev G ρ (tOp (L2.rI C fun i j => .int (k i j)) ta tb) Φ :=
 op2 (h.mono fun f x ⟨i, ex, q⟩ => q.mono fun g y ⟨j, ey, hc, p⟩ nb σ H u v Q W hu hv z => by
  subst ex ey; exact ⟨i, j, hu.ofI, hv.ofI, hc, z true _ H _ p (.refl W.bag) (.int _)⟩)
theorem rI0 {k : Int -> Int -> Int} (h : Ev G ρ ta fun _ x => ∃ i, x = .int i /\ Ev G ρ tb fun _ y => ∃ j, y = .int j /\ Φ true (.int (k i j))) : Ev G ρ (tOp (L2.rI0 fun i j => .int (k i j)) ta tb) Φ :=
 op2 (h.mono fun f x ⟨i, ex, q⟩ => q.mono fun g y ⟨j, ey, p⟩ nb σ H u v Q W hu hv z => by
  subst ex ey; exact ⟨i, j, hu.ofI, hv.ofI, z true _ H _ p (.refl W.bag) (.int _)⟩)
theorem rB0 {k : Int -> Int -> Bool} (h : Ev G ρ ta fun _ x => ∃ i, x = .int i /\ Ev G ρ tb fun _ y => ∃ j, y = .int j /\ Φ true (.bool (k i j))) : Ev G ρ (tOp (L2.rI0 fun i j => .bl (k i j)) ta tb) Φ :=
 op2 (h.mono fun f x ⟨i, ex, q⟩ => q.mono fun g y ⟨j, ey, p⟩ nb σ H u v Q W hu hv z => by
  subst ex ey; exact ⟨i, j, hu.ofI, hv.ofI, z true _ H _ p (.refl W.bag) (.bl _)⟩)
theorem un {r : V -> Hp -> VK -> Prop} (h : Ev G ρ ta fun f x => ∀ nb σ H u (Q : VK), Wd G nb ρ σ H -> IsD (G.S nb f) H x u -> (∀ f w H' d, Φ f d -> Step G.B H H' -> IsD (G.S nb f) H' d w -> Q w H') -> r u H Q) : Ev G ρ (tUn r ta) Φ := fun nb σ H Q W z =>
 h nb σ H _ W fun f v1 H1 d1 p1 s1 q1 => p1 nb σ H1 _ _ (W.step s1) q1 fun f w H' d p st q => z f w H' d p (s1.trans st) q
theorem rU {k : Int -> Int} (h : Ev G ρ ta fun _ x => ∃ i, x = .int i /\ Φ true (.int (k i))) : Ev G ρ (tUn (L2.rU fun i => .int (k i)) ta) Φ :=
 un (h.mono fun f x ⟨i, ex, p⟩ nb σ H u Q W hu z => by subst ex; exact ⟨i, hu.ofI, z true _ H _ p (.refl W.bag) (.int _)⟩)
end Ev
inductive EqD : PyData -> PyData -> Bool -> Prop
 | ii (i j : Int) : EqD (.int i) (.int j) (decide (i = j))
 | ni (i : Int) : EqD .none (.int i) false
 | i_n (i : Int) : EqD (.int i) .none false
 | nn : EqD .none .none true
 | bb (a b : Bool) : EqD (.bool a) (.bool b) (a == b)
 | ss (x : Str) : EqD (.str x) (.str x) true
 | sd (x y : Str) : EqD (.str x) (.str y) (decide (x = y))
theorem EqD.v {nb nb' : Addr -> Prop} {H : Hp} {x y : PyData} {b : Bool} {u v : V} (h : EqD x y b) (hu : IsD nb H x u) (hv : IsD nb' H y v) : scal u v = true /\ decide (u = v) = b := by
 cases h <;> (unfold IsD at hu hv; subst hu hv; refine ⟨rfl, ?_⟩)
 ·exact R.dec_i
 ·rfl
 ·rfl
 ·rfl
 ·rename_i a b; cases a <;> cases b <;> rfl
 ·exact decide_eq_true rfl
 ·rename_i x y
  by_cases c : x = y
  ·subst c; rw [decide_eq_true rfl, decide_eq_true rfl]
  ·rw [decide_eq_false c, decide_eq_false (fun z => c (V.str.inj z))]
theorem EqD.self {d : PyData} (h : scB d = true) : EqD d d true := by
 cases d <;> first | (cases h; done) | skip
 ·exact .nn
 ·rename_i b; have := EqD.bb b b; rwa [beq_self_eq_true] at this
 ·rename_i i; have := EqD.ii i i; rwa [decide_eq_true rfl] at this
 ·exact .ss _
namespace Ev
theorem eq (h : Ev G ρ ta fun _ x => Ev G ρ tb fun _ y => ∃ b, EqD x y b /\ Φ true (.bool b)) : Ev G ρ (tOp rEq ta tb) Φ :=
 op2 (h.mono fun f x q => q.mono fun g y ⟨b, e, p⟩ nb σ H u v Q W hu hv z => by
  obtain ⟨h1, h2⟩ := e.v hu hv
  exact ⟨h1, by rw [h2]; exact z true _ H _ p (.refl W.bag) (.bl _)⟩)
theorem ne (h : Ev G ρ ta fun _ x => Ev G ρ tb fun _ y => ∃ b, EqD x y b /\ Φ true (.bool !b)) : Ev G ρ (tOp rNe ta tb) Φ :=
 op2 (h.mono fun f x q => q.mono fun g y ⟨b, e, p⟩ nb σ H u v Q W hu hv z => by
  obtain ⟨h1, h2⟩ := e.v hu hv
  exact ⟨h1, by rw [h2]; exact z true _ H _ p (.refl W.bag) (.bl _)⟩)
theorem eqD {ng : Bool} (h : Ev G ρ ta fun _ x => Ev G ρ tb fun _ y => SeqAt.shaped x = true /\ SeqAt.shaped y = true /\ Φ true (.bool (PyData.eqv x y != ng))) : Ev G ρ (tOp (rEqD ng) ta tb) Φ :=
 op2 (h.mono fun f x q => q.mono fun g y ⟨h1, h2, p⟩ nb σ H u v Q W hu hv z =>
  ⟨G.S nb false, x, y, hu.av (S_mono (fun z => by cases z) fun _ z => z), hv.av (S_mono (fun z => by cases z) fun _ z => z), h1, h2, z true _ H _ p (.refl W.bag) (.bl _)⟩)
end Ev
def isN : PyData -> Bool
 | .none => true
 | _ => false
theorem isN_v {nb : Addr -> Prop} {H : Hp} {d : PyData} {v : V} (h : IsD nb H d v) : decide (v = .non) = isN d := by
 cases d <;> unfold IsD at h
 all_goals first
  | (subst h; rfl)
  | (obtain ⟨a, xs, rfl, _⟩ := h; rfl)
  | exact h.elim
namespace Ev
theorem is (h : Ev G ρ ta fun _ x => Φ true (.bool (isN x))) : Ev G ρ (tOp rIs ta (tC .non)) Φ :=
 op2 (h.mono fun f x p => Ev.non fun nb σ H u v Q W hu hv z => ⟨hv.ofN, by rw [isN_v hu]; exact z true _ H _ p (.refl W.bag) (.bl _)⟩)
theorem isNot (h : Ev G ρ ta fun _ x => Φ true (.bool !isN x)) : Ev G ρ (tOp rIsNot ta (tC .non)) Φ :=
 op2 (h.mono fun f x p => Ev.non fun nb σ H u v Q W hu hv z => ⟨hv.ofN, by rw [isN_v hu]; exact z true _ H _ p (.refl W.bag) (.bl _)⟩)
end Ev
theorem IsDs.atI {nb : Addr -> Prop} {H : Hp} {ds : List PyData} {xs : List V} {k : Int} {e : PyData} (h : IsDs nb H ds xs) (q : L2.atI ds k = some e) : ∃ v, L2.atI xs k = some v /\ IsD nb H e v := by
 unfold L2.atI at q ⊢
 rw [h.length]
 cases z : ixN ds.length k with
 | none => rw [z] at q; cases q
 | some j => rw [z] at q; exact h.get q
namespace Ev
theorem ixL (h : Ev G ρ ta fun f x => ∃ ds, x = .list ds /\ Ev G ρ tb fun _ y => ∃ k, y = .int k /\ ∃ e, atI ds k = some e /\ Φ f e) : Ev G ρ (tOp (rIxL K) ta tb) Φ :=
 op2 (h.mono fun f x ⟨ds, ex, q⟩ => q.mono fun g y ⟨k, ey, e, he, p⟩ nb σ H u v Q W hu hv z => by
  subst ex ey
  obtain ⟨a, xs, rfl, n, hx, hd⟩ := hu.ofL
  obtain ⟨w, hw, hD⟩ := hd.atI he
  exact ⟨a, xs, k, w, rfl, hv.ofI, .of hx, hw, z f _ H _ p (.refl W.bag) hD⟩)
theorem ixT (h : Ev G ρ ta fun f x => ∃ ds, x = .tuple ds /\ Ev G ρ tb fun _ y => ∃ k, y = .int k /\ ∃ e, atI ds k = some e /\ Φ f e) : Ev G ρ (tOp (rIxT K) ta tb) Φ :=
 op2 (h.mono fun f x ⟨ds, ex, q⟩ => q.mono fun g y ⟨k, ey, e, he, p⟩ nb σ H u v Q W hu hv z => by
  subst ex ey
  obtain ⟨a, xs, rfl, n, hx, hd⟩ := hu.ofT
  obtain ⟨w, hw, hD⟩ := hd.atI he
  exact ⟨a, xs, k, w, rfl, hv.ofI, .of hx, hw, z f _ H _ p (.refl W.bag) hD⟩)
theorem ixOwn {a : Addr} (e : ρ[i]? = some (.own a f ds)) (h : Ev G ρ tb fun _ y => ∃ k, y = .int k /\ ∃ e, atI ds k = some e /\ Φ f e) : Ev G ρ (tOp (rIxL K) (tVar i) tb) Φ := fun nb σ H Q W z => by
 obtain ⟨x, e1, h1, h2, h3, xs, hx, hd⟩ := W.ok i _ e
 subst h1
 refine ⟨.ref a, e1, h nb σ H _ W fun g w H1 y ⟨k, ey, e', he, p⟩ s1 hv => ?_⟩
 subst ey
 obtain ⟨u, hu, hD⟩ := (hd.keep s1.butS).atI he
 exact ⟨a, xs, k, u, rfl, hv.ofI, .of (s1.1 _ _ h3 hx), hu, z f _ H1 _ p s1 hD⟩
theorem andV (h : Ev G ρ ta fun _ x => ∃ b, x = .bool b /\ if b = true then Ev G ρ tb Φ else Φ true (.bool false)) : Ev G ρ (tAndV ta tb) Φ := fun nb σ H Q W z =>
 h nb σ H _ W fun f v H1 d ⟨b, e, q⟩ s1 hv => by
  subst e
  refine ⟨b, by unfold IsD at hv; exact hv, ?_⟩
  cases b with
  | true => rw [if_pos rfl] at q ⊢; exact q nb σ H1 _ (W.step s1) fun f v H' d p st => z f v H' d p (s1.trans st)
  | false => rw [if_neg zq13x] at q ⊢; exact z true _ H1 _ q s1 (.bl false)
theorem ifE {c : TT} (h : Tv G ρ c fun b => if b = true then Ev G ρ ta Φ else Ev G ρ tb Φ) : Ev G ρ (tIf c ta tb) Φ := fun nb σ H Q W z =>
 h nb σ H _ W fun b H1 q s1 => by
  cases b with
  | true => rw [if_pos rfl] at q ⊢; exact q nb σ H1 _ (W.step s1) fun f v H' d p st => z f v H' d p (s1.trans st)
  | false => rw [if_neg zq13x] at q ⊢; exact q nb σ H1 _ (W.step s1) fun f v H' d p st => z f v H' d p (s1.trans st)
end Ev
namespace Tv
variable {Θ : Bool -> Prop} {t u : TT}
theorem test (h : Ev G ρ te fun _ x => ∃ b, x = .bool b /\ Θ b) : Tv G ρ (tTest te) Θ := fun nb σ H Q W z =>
 h nb σ H _ W fun f v H1 d ⟨b, e, q⟩ s1 hv => by subst e; exact ⟨b, by unfold IsD at hv; exact hv, z b H1 q s1⟩
theorem and (h : Tv G ρ t fun b => if b = true then Tv G ρ u Θ else Θ false) : Tv G ρ (tAnd t u) Θ := fun nb σ H Q W z =>
 h nb σ H _ W fun b H1 q s1 => by
  cases b with
  | true => rw [if_pos rfl] at q ⊢; exact q nb σ H1 _ (W.step s1) fun b H' p st => z b H' p (s1.trans st)
  | false => rw [if_neg zq13x] at q ⊢; exact z false H1 q s1
theorem or (h : Tv G ρ t fun b => if b = true then Θ true else Tv G ρ u Θ) : Tv G ρ (tOr t u) Θ := fun nb σ H Q W z =>
 h nb σ H _ W fun b H1 q s1 => by
  cases b with
  | false => rw [if_neg zq13x] at q ⊢; exact q nb σ H1 _ (W.step s1) fun b H' p st => z b H' p (s1.trans st)
  | true => rw [if_pos rfl] at q ⊢; exact z true H1 q s1
theorem not (h : Tv G ρ t fun b => Θ (!b)) : Tv G ρ (tNot t) Θ := fun nb σ H Q W z => h nb σ H _ W fun b H1 q s1 => z _ H1 q s1
theorem noTest (h : Θ true) : Tv G ρ tNoTest Θ := fun nb σ H Q W z => z true H h (.refl W.bag)
end Tv
def tTruth (K : PySem.W.Frag) (ta : TE) : TT := fun σ H Q => ta σ H fun x H1 => ∃ k, TruV K x H1 k /\ Q k H1
theorem Tv.truB {Θ : Bool -> Prop} (h : Ev G ρ te fun _ x => ∃ b, x = .bool b /\ Θ b) : Tv G ρ (tTruth K te) Θ := fun nb σ H Q W z =>
 h nb σ H _ W fun f v H1 d ⟨b, e, q⟩ s1 hv => by subst e; exact ⟨b, by unfold IsD at hv; subst hv; rfl, z b H1 q s1⟩
namespace Av
variable {Θ : List Fd -> Prop}
theorem nil (h : Θ []) : Av G ρ tNil Θ := fun nb σ H Q W z => z [] [] H h (.refl W.bag) rfl
theorem cons (h : Ev G ρ te fun f d => Av G ρ t fun es => Θ ((f, d) :: es)) : Av G ρ (tCons te t) Θ := fun nb σ H Q W z =>
 h nb σ H _ W fun f v H1 d p1 s1 q1 => p1 nb σ H1 _ (W.step s1) fun es vs H2 p2 s2 q2 => z _ _ H2 p2 (s1.trans s2) ⟨v, vs, rfl, q1.keep s2.butS, q2⟩
theorem cints {is : List Int} (h : Θ (is.map fun i => (true, .int i))) : Av G ρ (tInts is) Θ := fun nb σ H Q W z => z _ _ H h (.refl W.bag) (by
 clear h
 induction is with
 | nil => rfl
 | cons i r ih => exact ⟨_, _, rfl, .int i, ih⟩)
end Av
def allF (es : List Fd) : Bool := es.all (·.1)
theorem IsF.all {nb : Addr -> Prop} {H : Hp} : ∀ {es : List Fd} {vs : List V} {f : Bool}, IsF G nb H es vs -> (f = true -> allF es = true) -> IsDs (G.S nb f) H (es.map (·.2)) vs
  | [], _, _, h, _ => by unfold IsF at h; subst h; exact .nil
  | e :: es, _, f, h, hf => by
    obtain ⟨v, ws, rfl, h1, h2⟩ := h
    refine .cons (h1.av (S_mono (fun z => ?_) fun _ z => z)) (h2.all fun z => ?_)
    · have := hf z; simp only [allF, zq81x, zq24x] at this; exact this.1
    · have := hf z; simp only [allF, zq81x, zq24x] at this; exact this.2
theorem IsF.len {nb : Addr -> Prop} {H : Hp} {es : List Fd} {vs : List V} (h : IsF G nb H es vs) : vs.length = es.length := by
 have := (h.all (f := false) (fun z => by cases z)).length
 simpa using this
theorem EvN.lst {Φ : Bool -> List PyData -> Prop} (h : Av G ρ t fun es => es.length <= 10000 /\ Φ (allF es) (es.map (·.2))) : EvN G ρ (tLst t) Φ := fun nb σ H Q W z =>
  h nb σ H _ W fun es vs H1 ⟨hl, p⟩ s1 q1 => ⟨zq28x (by rw [q1.len]; exact hl) (by decide), fun a ha => by
    have W1 := W.step s1
    refine z _ a vs _ _ p (s1.trans (.same W1.bag (same_new ha))) ?_ upd_same (((q1.all fun z => z).fresh ha).keep (But.of (same_new ha)))
    cases e : H a with
    | none => rfl
    | some o =>
      by_cases n : NB G.B a
      · rw [s1.1 a o n e] at ha; cases ha
      · exact absurd ha (NB.bag_live s1.2 n)⟩
theorem Ev.lst (h : Av G ρ t fun es => es.length <= 10000 /\ Φ (allF es) (.list (es.map (·.2)))) : Ev G ρ (tLst t) Φ := (EvN.lst (Φ := fun f ds => Φ f (.list ds)) h).ev
end
end L2
set_option maxRecDepth 100000
set_option maxHeartbeats 1000000
namespace L2
open PySem PySem.Spec PyProof.Rows
def rLen (K : PySem.W.Frag) : List V -> Hp -> VK -> Prop := fun xs H Q => ∃ p ys, xs = [.ref p] /\ (SqL K H p ys \/ SqT K H p ys) /\ Q (.int ys.length) H
theorem call_lenM {X : Cx} : CallR X (.builtin "len") (rLen X.K) := call_len_seq
def rInt : List V -> Hp -> VK -> Prop := fun xs H Q => (∃ i, xs = [.int i] /\ Q (.int i) H) \/ ∃ k, xs = [.bl k] /\ Q (.int (if k then 1 else 0)) H
theorem call_intM {X : Cx} : CallR X (.type "int") rInt := call_int1
def cutA {α : Type} (xs : List α) (lo hi : Option Int) : List α := (xs.drop (HT.sIx xs.length 0 lo)).take (HT.sIx xs.length xs.length hi - HT.sIx xs.length 0 lo)
theorem IsDs.cut {nb : Addr -> Prop} {H : Hp} {ds : List PyData} {xs : List V} {lo hi : Option Int} (h : IsDs nb H ds xs) : IsDs nb H (cutA ds lo hi) (cutV xs lo hi) := by
 unfold cutA cutV
 rw [h.length]
 exact (h.drop _).take _
def scAll (ds : List PyData) : Bool := ds.all scB
section
variable {G : Gx} {ρ : Rh} {Φ Ψ : Pd} {ta tb te : TE} {t : TA} {i : Nat} {f g : Bool} {d e : PyData} {ds es : List PyData} {K : PySem.W.Frag}
theorem Wd.none_of {nb : Addr -> Prop} {σ : St} {H H1 : Hp} {a : Addr} (W : Wd G nb ρ σ H) (s1 : Step G.B H H1) (ha : H1 a = none) : H a = none := by
  cases e : H a with
  | none => rfl
  | some o =>
    by_cases n : NB G.B a
    · rw [s1.1 a o n e] at ha; cases ha
    · exact absurd ha (NB.bag_live s1.2 n)
theorem EvN.fin {nb : Addr -> Prop} {σ : St} {H H1 : Hp} {Q : VK} {Φ : Bool -> List PyData -> Prop} {a : Addr} {xs : List V} (W : Wd G nb ρ σ H) (s1 : Step G.B H H1) (ha : H1 a = none) (hd : IsDs (G.S nb f) H1 ds xs) (p : Φ (f || scAll ds) ds)
  (z : ∀ f a xs H' ds, Φ f ds -> Step G.B H H' -> H a = none -> H' a = some (.lst xs) -> IsDs (fun x => G.S nb f x \/ x = a) H' ds xs -> Q (.ref a) H') : Q (.ref a) (upd H1 a (.lst xs)) := by
 refine z _ a xs _ ds p (s1.trans (.same s1.2 (same_new ha))) (W.none_of s1 ha) upd_same ?_
 cases hs : scAll ds with
 | true => exact IsDs.scAny hs hd
 | false => rw [zq96x]; exact (hd.fresh ha).keep (But.of (same_new ha))
namespace Ov
variable {Θ : Option Int -> Prop}
theorem none (h : Θ none) : Ov G ρ tNoPart Θ := fun nb σ H Q W z => z _ H h (.refl W.bag)
theorem some (h : Ev G ρ te fun _ x => ∃ k, x = .int k /\ Θ (some k)) : Ov G ρ (tPart te) Θ := fun nb σ H Q W z =>
 h nb σ H _ W fun f v H1 d ⟨k, e, q⟩ s1 hv => by subst e; exact ⟨k, hv.ofI, z _ H1 q s1⟩
end Ov
namespace EvN
variable {Θ : Bool -> List PyData -> Prop}
theorem sl {tl th : TO} (h : Ev G ρ te fun f x => ∃ ds, x = .list ds /\ Ov G ρ tl fun lo => Ov G ρ th fun hi => Θ (f || scAll (cutA ds lo hi)) (cutA ds lo hi)) : EvN G ρ (tSl (rSlL K) te tl th) Θ := fun nb σ H Q W z =>
 h nb σ H _ W fun f v H1 d ⟨ds, e, q⟩ s1 hv => q nb σ H1 _ (W.step s1) fun lo H2 q2 s2 => q2 nb σ H2 _ ((W.step s1).step s2) fun hi H3 q3 s3 => by
  subst e
  obtain ⟨a, xs, rfl, n, hx, hd⟩ := ((hv.keep s2.butS).keep s3.butS).ofL
  exact ⟨a, xs, rfl, .of hx, fun p hp => EvN.fin W (s1.trans (s2.trans s3)) hp hd.cut q3 z⟩
theorem slOwn {a : Addr} {tl th : TO} (e : ρ[i]? = some (.own a f ds)) (h : Ov G ρ tl fun lo => Ov G ρ th fun hi => Θ (f || scAll (cutA ds lo hi)) (cutA ds lo hi)) : EvN G ρ (tSl (rSlL K) (tVar i) tl th) Θ := fun nb σ H Q W z => by
 obtain ⟨x, e1, h1, h2, h3, xs, hx, hd⟩ := W.ok i _ e
 subst h1
 refine ⟨.ref a, e1, h nb σ H _ W fun lo H2 q2 s2 => q2 nb σ H2 _ (W.step s2) fun hi H3 q3 s3 => ?_⟩
 exact ⟨a, xs, rfl, .of (s3.1 _ _ h3 (s2.1 _ _ h3 hx)), fun p hp => EvN.fin W (s2.trans s3) hp ((hd.keep s2.butS).keep s3.butS).cut q3 z⟩
theorem listOf (h : Ev G ρ te fun f x => ∃ ds, (x = .list ds \/ x = .tuple ds) /\ Θ (f || scAll ds) ds) : EvN G ρ (tCB (rListOf K) (tCons te tNil)) Θ := fun nb σ H Q W z =>
 h nb σ H _ W fun f v H1 d ⟨ds, e, q⟩ s1 hv => by
  rcases e with e | e
  ·subst e
   obtain ⟨a, xs, rfl, n, hx, hd⟩ := hv.ofL
   exact ⟨a, xs, rfl, .inl (.of hx), fun p hp => EvN.fin W s1 hp hd q z⟩
  ·subst e
   obtain ⟨a, xs, rfl, n, hx, hd⟩ := hv.ofT
   exact ⟨a, xs, rfl, .inr (.of hx), fun p hp => EvN.fin W s1 hp hd q z⟩
theorem cat (h : Ev G ρ ta fun f x => ∃ ds, x = .list ds /\ Ev G ρ tb fun g y => ∃ es, y = .list es /\ ds.length + es.length <= 10000 /\ Θ ((f && g) || scAll (ds ++ es)) (ds ++ es)) : EvN G ρ (tOp rCat ta tb) Θ := fun nb σ H Q W z =>
 h nb σ H _ W fun f v H1 d ⟨ds, e, q⟩ s1 hv => q nb σ H1 _ (W.step s1) fun g u H2 d2 ⟨es, e2, hl, p⟩ s2 hu => by
  subst e e2
  obtain ⟨a, xs, rfl, n, hx, hd⟩ := (hv.keep s2.butS).ofL
  obtain ⟨c, ys, rfl, m, hy, hc⟩ := hu.ofL
  refine ⟨a, c, xs, ys, rfl, rfl, hx, hy, zq28x (by rw [hd.length, hc.length]; exact hl) (by decide), fun p' hp => EvN.fin (f := f && g) W (s1.trans s2) hp ?_ p z⟩
  exact IsDs.append (hd.av (S_mono (fun z => (zq24x _ _ ▸ z).1) fun _ z => z)) (hc.av (S_mono (fun z => (zq24x _ _ ▸ z).2) fun _ z => z))
end EvN
namespace Ev
theorem sl {tl th : TO} (h : Ev G ρ te fun f x => ∃ ds, x = .list ds /\ Ov G ρ tl fun lo => Ov G ρ th fun hi => Φ (f || scAll (cutA ds lo hi)) (.list (cutA ds lo hi))) : Ev G ρ (tSl (rSlL K) te tl th) Φ := (EvN.sl (Θ := fun f ds => Φ f (.list ds)) h).ev
theorem slOwn {a : Addr} {tl th : TO} (e : ρ[i]? = some (.own a f ds)) (h : Ov G ρ tl fun lo => Ov G ρ th fun hi => Φ (f || scAll (cutA ds lo hi)) (.list (cutA ds lo hi))) : Ev G ρ (tSl (rSlL K) (tVar i) tl th) Φ := (EvN.slOwn (Θ := fun f ds => Φ f (.list ds)) e h).ev
theorem listOf (h : Ev G ρ te fun f x => ∃ ds, (x = .list ds \/ x = .tuple ds) /\ Φ (f || scAll ds) (.list ds)) : Ev G ρ (tCB (rListOf K) (tCons te tNil)) Φ := (EvN.listOf (Θ := fun f ds => Φ f (.list ds)) h).ev
theorem cat (h : Ev G ρ ta fun f x => ∃ ds, x = .list ds /\ Ev G ρ tb fun g y => ∃ es, y = .list es /\ ds.length + es.length <= 10000 /\ Φ ((f && g) || scAll (ds ++ es)) (.list (ds ++ es))) : Ev G ρ (tOp rCat ta tb) Φ := (EvN.cat (Θ := fun f ds => Φ f (.list ds)) h).ev
theorem lenOwn {a : Addr} (e : ρ[i]? = some (.own a f ds)) (h : Φ true (.int ds.length)) : Ev G ρ (tCB (rLen K) (tCons (tVar i) tNil)) Φ := fun nb σ H Q W z => by
 obtain ⟨x, e1, h1, h2, h3, xs, hx, hd⟩ := W.ok i _ e
 subst h1
 exact ⟨.ref a, e1, a, xs, rfl, .inl (.of hx), by rw [hd.length]; exact z true _ H _ h (.refl W.bag) (.int _)⟩
theorem intB (h : Ev G ρ ta fun _ x => ∃ b, x = .bool b /\ Φ true (.int (if b then 1 else 0))) : Ev G ρ (tCB rInt (tCons ta tNil)) Φ := fun nb σ H Q W z =>
 h nb σ H _ W fun f v H1 d ⟨b, e, q⟩ s1 hv => by subst e; unfold IsD at hv; subst hv; exact .inr ⟨b, rfl, z true _ H1 _ q s1 (.int _)⟩
end Ev
abbrev DF := List PyData -> Pd -> Prop
def spD (n : Nat) (F : DF) : Sp := fun vs H Q _ => vs.length = n /\ ∃ (nb : Addr -> Prop) (ds : List PyData), Live nb H /\ IsDs nb H ds vs /\ F ds fun f d => ∀ v H', Same H H' -> IsD (fun a => nb a \/ (f = true /\ H a ≠ none)) H' d v -> Q v H'
def spB (n : Nat) (F : DF) : Sp := fun vs H Q _ => vs.length = n /\ ∃ (b l : Addr) (ws : List V) (nb : Addr -> Prop) (ds : List PyData), vs = .ref b :: ws /\ BagAt H b l /\ Live nb H /\ nb b /\ IsDs nb H ds ws /\
 F ds fun f d => ∀ v H', But (Nb b) H H' -> BagAt H' b l -> IsD (fun a => nb a \/ (f = true /\ H a ≠ none)) H' d v -> Q v H'
def MonoF (F : DF) : Prop := ∀ ds (Φ Ψ : Pd), F ds Φ -> (∀ f d, Φ f d -> Ψ f d) -> F ds Ψ
theorem Ev.callD {n : Nat} {F : DF} (hm : MonoF F) (h : Av G ρ t fun es => es.length = n /\ F (es.map (·.2)) fun f d => Φ (f || allF es) d) : Ev G ρ (tCall (spD n F) [] E0 t) Φ := fun nb σ H Q W z =>
 h nb σ H _ W fun es vs H1 ⟨hl, p⟩ s1 q1 => by
  have W1 := W.step s1
  rw [zq46x]
  refine ⟨by rw [q1.len, hl], G.S nb (allF es), es.map (·.2), W1.liveS, q1.all fun z => z, hm _ _ _ p fun f d hp v H' sm hd => z _ v H' d hp (s1.trans (.same W1.bag sm)) (hd.av fun a q => ?_)⟩
  cases f with
  | false => rw [zq88x] at q; exact .inl q
  | true => exact .inr ⟨rfl, W1.liveS a q⟩
theorem Step.ofBut {b l : Addr} {H H' : Hp} (hB : G.B = some (b, l)) (bt : But (Nb b) H H') (B' : BagAt H' b l) : Step G.B H H' :=
 ⟨fun a o n e => bt a o (n b l hB) e, fun b' l' e => by rw [hB] at e; cases e; exact B'⟩
theorem Wd.theBag {nb : Addr -> Prop} {σ : St} {H : Hp} (W : Wd G nb ρ σ H) (e : ρ[i]? = some .bag) : ∃ b l, G.B = some (b, l) /\ σ[i]? = some (some (.ref b)) /\ BagAt H b l := by
 obtain ⟨x, e1, b, l, hB, rfl⟩ := W.ok i _ e
 exact ⟨b, l, hB, e1, W.bag b l hB⟩
theorem Ev.callB {n : Nat} {F : DF} (hm : MonoF F) (e : ρ[i]? = some .bag) (h : Av G ρ t fun es => es.length + 1 = n /\ F (es.map (·.2)) fun f d => Φ (f || allF es) d) : Ev G ρ (tCall (spB n F) [] E0 (tCons (tVar i) t)) Φ := fun nb σ H Q W z => by
 obtain ⟨b, l, hB, e1, B⟩ := W.theBag e
 refine ⟨.ref b, e1, h nb σ H _ W fun es vs H1 ⟨hl, p⟩ s1 q1 => ?_⟩
 have W1 := W.step s1
 show spB n F ((V.ref b :: vs) ++ []) H1 Q E0
 rw [zq46x]
 have hb : ∀ f, G.S nb f b := fun f => .inr (.inr (.inl fun n => n b l hB rfl))
 refine ⟨by rw [zq39x, q1.len, hl], b, l, vs, G.S nb (allF es), es.map (·.2), rfl, W1.bag b l hB, W1.liveS, hb _, q1.all fun z => z, hm _ _ _ p fun f d hp v H' bt B' hd => z _ v H' d hp (s1.trans (.ofBut hB bt B')) (hd.av fun a q => ?_)⟩
 cases f with
 | false => rw [zq88x] at q; exact .inl q
 | true => exact .inr ⟨rfl, W1.liveS a q⟩
theorem Ev.draw (e : ρ[i]? = some .bag) (h : Ev G ρ te fun _ x => ∃ m : Int, x = .int m /\ 0 < m /\ Sm m /\ ∀ r : Int, 0 <= r -> r < m -> Φ true (.int r)) : Ev G ρ (tCall spDraw [] E0 (tCons (tVar i) (tCons te tNil))) Φ := fun nb σ H Q W z => by
 obtain ⟨b, l, hB, e1, B⟩ := W.theBag e
 refine ⟨.ref b, e1, h nb σ H _ W fun f v H1 d ⟨m, ed, h1, h2, p⟩ s1 hv => ?_⟩
 subst ed
 exact ⟨b, l, m, by rw [hv.ofI]; rfl, s1.2 b l hB, h1, h2, fun r H' r1 r2 bt B' => z true _ H' _ (p r r1 r2) (s1.trans (.ofBut hB bt B')) (.int r)⟩
theorem Ev.prime (e : ρ[i]? = some .bag) (h : ∀ p : Int, IsP p -> Φ true (.int p)) : Ev G ρ (tCall spPrime [] E0 (tCons (tVar i) tNil)) Φ := fun nb σ H Q W z => by
 obtain ⟨b, l, hB, e1, B⟩ := W.theBag e
 exact ⟨.ref b, e1, b, l, rfl, B, fun p H' hp bt B' => z true _ H' _ (h p hp) (.ofBut hB bt B') (.int p)⟩
theorem Ev.total (h : Av G ρ t fun es => ∃ (p : Int) (prs : List (Int × Int)) (wd : List (Option Int)), es.map (·.2) = [.int p, .list (prs.map pairD), .list (wd.map optD)] /\ 0 < p /\ (∀ pr ∈ prs, 0 <= pr.1 /\ pr.1 < wd.length /\ Sm pr.2) /\ (∀ x, some x ∈ wd -> Sm x) /\ Φ true (.int (dueSum prs wd % p))) :
  Ev G ρ (tCall spTotal [] E0 t) Φ := fun nb σ H Q W z =>
 h nb σ H _ W fun es vs H1 ⟨p, prs, wd, e, h1, h2, h3, q⟩ s1 q1 => by
  have hd := q1.all (f := false) (fun z => by cases z)
  rw [e] at hd
  unfold IsDs at hd
  obtain ⟨y, ys, rfl, d1, hd⟩ := hd
  unfold IsDs at hd
  obtain ⟨y2, ys, rfl, d2, hd⟩ := hd
  unfold IsDs at hd
  obtain ⟨y3, ys, rfl, d3, hd⟩ := hd
  unfold IsDs at hd
  subst hd
  exact ⟨G.S nb false, p, y2, y3, prs, wd, by rw [d1.ofI]; rfl, d2, d3, h1, h2, h3, z true _ H1 _ q s1 (.int _)⟩
theorem Ev.whole (h : Ev G ρ te fun _ x => ∃ n, x = .int n /\ Φ true (.bool true)) : Ev G ρ (tCall spWhole [] E0 (tCons te tNil)) Φ := fun nb σ H Q W z =>
 h nb σ H _ W fun f v H1 d ⟨n, e, q⟩ s1 hv => by subst e; exact ⟨n, by rw [hv.ofI]; rfl, z true _ H1 _ q s1 (.bl _)⟩
namespace Gv
variable {Θ : Rh -> Prop}
theorem name (h : Θ (ρ.set i (.d f d))) : Gv G ρ (gName i) f d Θ := fun nb σ H v Q W hv z => z _ _ h (W.setD hv)
theorem nameF (h : Θ (ρ.set i (.d false d))) : Gv G ρ (gName i) f d Θ := fun nb σ H v Q W hv z => z _ _ h (W.setD (hv.av (S_mono (fun z => by cases z) fun _ z => z)))
theorem nameS (hs : scB d = true) (h : Θ (ρ.set i (.d true d))) : Gv G ρ (gName i) f d Θ := fun nb σ H v Q W hv z => z _ _ h (W.setD (hv.scAny hs))
theorem nameI {n : Int} (h : Θ (ρ.set i (.d true (.int n)))) : Gv G ρ (gName i) f (.int n) Θ := nameS rfl h
theorem nameB {n : Bool} (h : Θ (ρ.set i (.d true (.bool n)))) : Gv G ρ (gName i) f (.bool n) Θ := nameS rfl h
theorem nameN (h : Θ (ρ.set i (.d true .none))) : Gv G ρ (gName i) f .none Θ := nameS rfl h
theorem tup {n : Nat} {u : TGs} (hl : ds.length = n) (h : Gvs G ρ u f ds Θ) : Gv G ρ (gTup K n u) f (.tuple ds) Θ := fun nb σ H v Q W hv z => by
 obtain ⟨a, xs, rfl, m, hx, hd⟩ := hv.ofT
 exact ⟨a, xs, rfl, .of hx, by rw [hd.length]; exact hl, h nb σ H xs Q W hd z⟩
theorem snil (h : Θ ρ) : Gvs G ρ gNil f [] Θ := fun nb σ H vs Q W hv z => by unfold IsDs at hv; exact ⟨hv, z _ _ h W⟩
theorem scons {u : TG} {us : TGs} (h : Gv G ρ u f d fun ρ1 => Gvs G ρ1 us f ds Θ) : Gvs G ρ (gCons u us) f (d :: ds) Θ := fun nb σ H vs Q W hv z => by
 unfold IsDs at hv
 obtain ⟨y, ys, rfl, h1, h2⟩ := hv
 exact ⟨y, ys, rfl, h nb σ H y _ W h1 fun σ' ρ' q W' => q nb σ' H ys Q W' h2 z⟩
end Gv
namespace Sv
variable {E : DE} {s u : TS}
theorem seq (h : Sv G ρ s { E with nx := fun ρ1 => Sv G ρ1 u E }) : Sv G ρ (tSeq s u) E := fun nb σ H D W K => h nb σ H _ W ⟨fun nb' ρ' σ' H' q W' => q nb' σ' H' D W' K, K.bk, K.ct, K.rt, K.rw⟩
theorem next (h : E.nx ρ) : Sv G ρ tNext E := fun nb σ H D W K => K.nx nb ρ σ H h W
theorem brk (h : E.bk ρ) : Sv G ρ tBreak E := fun nb σ H D W K => K.bk nb ρ σ H h W
theorem cont (h : E.ct ρ) : Sv G ρ tCont E := fun nb σ H D W K => K.ct nb ρ σ H h W
theorem asg {g : TG} (h : Ev G ρ te fun f d => Gv G ρ g f d E.nx) : Sv G ρ (tAsg te g) E := fun nb σ H D W K => h nb σ H _ W fun f v H1 d q s1 hv => q nb σ H1 v _ (W.step s1) hv fun σ' ρ' p W' => K.nx nb ρ' σ' H1 p W'
theorem setCF (h : Ev G ρ te fun _ d => E.nx (ρ.set i (.d false d))) : Sv G ρ (tSetC i te) E := fun nb σ H D W K => h nb σ H _ W fun f v H1 d q s1 hv => K.nx nb _ _ H1 q ((W.step s1).setD (hv.av (S_mono (fun z => by cases z) fun _ z => z)))
theorem drop (h : Ev G ρ te fun _ _ => E.nx ρ) : Sv G ρ (tDrop te) E := fun nb σ H D W K => h nb σ H _ W fun f v H1 d q s1 hv => K.nx nb ρ σ H1 q (W.step s1)
theorem ret (h : Ev G ρ te E.rt) : Sv G ρ (tRet te) E := fun nb σ H D W K => h nb σ H _ W fun f v H1 d q s1 hv => K.rt nb ρ σ f v H1 d q (W.step s1) (hv.av (S_mono (fun z => z) fun _ z => z.elim))
theorem retOwn {a : Addr} (e : ρ[i]? = some (.own a f ds)) (h : E.rt f (.list ds)) : Sv G ρ (tRet (tVar i)) E := fun nb σ H D W K => by
 obtain ⟨x, e1, h1, h2, h3, xs, hx, hd⟩ := W.ok i _ e
 subst h1
 refine ⟨.ref a, e1, K.rt nb ρ σ f _ H _ h W (.lst (fun z => ?_) hx (hd.av (S_mono (fun z => z) fun _ z => z.elim)))⟩
 rcases z with z | z | z | z
 ·exact z
 ·exact W.gA a z (W.nbo a h2 h3)
 ·exact z h3
 ·exact z.2 (W.nbo a h2 h3)
theorem ifS {c : TT} (h : Tv G ρ c fun b => if b = true then Sv G ρ s E else Sv G ρ u E) : Sv G ρ (tIfS c s u) E := fun nb σ H D W K => h nb σ H _ W fun b H1 q s1 => by
 cases b with
 | true => rw [if_pos rfl] at q ⊢; exact q nb σ H1 D (W.step s1) K
 | false => rw [if_neg zq13x] at q ⊢; exact q nb σ H1 D (W.step s1) K
theorem own_of {nb : Addr -> Prop} {σ : St} {H H1 : Hp} {a : Addr} {xs : List V} (W : Wd G nb ρ σ H) (s1 : Step G.B H H1) (ha : H a = none) (e : H1 a = some (.lst xs)) (hd : IsDs (fun x => G.S nb f x \/ x = a) H1 ds xs) :
    Wd G (fun x => nb x \/ x = a) (ρ.set i (.own a f ds)) (σ.set i (some (.ref a))) H1 := by
  have hN : NB G.B a := fun b l e z => by
    subst z
    obtain ⟨_, _, _, _, _, h1, _⟩ := W.bag _ _ e
    rw [h1] at ha; cases ha
  have hA : ∀ f x, G.S (fun x => nb x \/ x = a) f x -> (G.S nb f x \/ x = a) := fun f x z => by
    rcases z with (z | z) | z | z | z
    · exact .inl (.inl z)
    · exact .inr z
    · exact .inl (.inr (.inl z))
    · exact .inl (.inr (.inr (.inl z)))
    · exact .inl (.inr (.inr (.inr z)))
  have W1 := W.step s1
  have W2 : Wd G (fun x => nb x \/ x = a) ρ σ H1 := by
    refine ⟨W1.bag, fun x n => ?_, W1.old, fun x n q => ?_, W.gA, W.len, W.gB, fun h m => (((W.hld h m).fresh ha).keep (s1.but fun x z => .inl (.inr (.inr (.inl z))))).av (hA h.1), fun j s e' => ?_, W.apart, W.apd, W.apc⟩
    · rcases n with n | n
      · exact W1.live x n
      · subst n; rw [e]; exact zq48x _
    · rcases n with n | n
      · exact W.nbo x n q
      · subst n
        cases z : G.H0 x with
        | none => rfl
        | some o => rw [W.old x o q z] at ha; cases ha
    · obtain ⟨x, e1, h⟩ := W.ok j s e'
      refine ⟨x, e1, ?_⟩
      cases s with
      | no => trivial
      | d f d => obtain ⟨v, e, h⟩ := h; exact ⟨v, e, ((h.fresh ha).keep (s1.but fun x z => .inl (.inr (.inr (.inl z))))).av (hA f)⟩
      | own c f es => obtain ⟨e, n, q, xs, hx, hd⟩ := h; exact ⟨e, .inl n, q, xs, s1.1 _ _ q hx, ((hd.fresh ha).keep (s1.but fun x z => .inl (.inr (.inr (.inl z))))).av (hA f)⟩
      | bag => exact h
      | raw v => exact h
      | dic c f es => obtain ⟨e, n, q, xs, hx, hd⟩ := h; exact ⟨e, .inl n, q, xs, s1.1 _ _ q hx, ((hd.fresh ha).keep (s1.but fun x z => .inl (.inr (.inr (.inl z))))).av (hA f)⟩
      | cu c =>
        obtain ⟨e, n, q⟩ := h
        refine ⟨e, fun a ha => ⟨.inl (n a ha).1, (n a ha).2⟩, c.av (hA c.f) (c.keep (.of fun x o hx e => s1.1 x o ?_ e) (c.fresh ha q))⟩
        rcases hx with hx | hx
        · exact zq55x fun z => hx (.inl (.inr (.inr (.inl z))))
        · exact (n x hx).2
  refine W2.set ⟨rfl, .inr rfl, hN, xs, e, hd.av (hA f)⟩ ?_ (fun _ _ _ z => by cases z) (fun x hx j t hj ht hc => ?_)
  rotate_left
  · have hx : x = a := zq8x.mp hx
    subst hx
    rcases hc with ⟨c, z⟩ | ⟨c, rfl⟩
    · cases z
    · exact fun z => W.live x ((W.ok j _ ht).choose_spec.2.2.1 x z).1 ha
  rintro a' f' ds' ⟨rfl, rfl, rfl⟩ j c g cs hj hc z
  subst z
  obtain ⟨x, e1, h1, h2, h3, ys, hy, _⟩ := W.ok j _ hc
  rw [hy] at ha; cases ha
theorem asgN (h : EvN G ρ te fun f ds => ∀ a, E.nx (ρ.set i (.own a f ds))) : Sv G ρ (tAsg te (gName i)) E := fun nb σ H D W K => h nb σ H _ W fun f a xs H1 ds q s1 ha e hd => K.nx _ _ _ H1 (q a) (own_of W s1 ha e hd)
theorem writeOwn {nb : Addr -> Prop} {σ : St} {H : Hp} {a : Addr} {xs : List V} (W : Wd G nb ρ σ H) (e : ρ[i]? = some (.own a f ds)) (hd : IsDs (G.S nb g) H es xs) : Wd G nb (ρ.set i (.own a g es)) σ (upd H a (.lst xs)) := by
  obtain ⟨x, e1, h1, h2, h3, ys, hy, _⟩ := W.ok i _ e
  subst h1
  have hil : i < ρ.length := (zq7x.mp e).1
  have W0 : Wd G nb (ρ.set i .no) (σ.set i (some (.ref a))) H := W.set trivial fun _ _ _ z => by cases z
  have W1 : Wd G nb (ρ.set i .no) (σ.set i (some (.ref a))) (upd H a (.lst xs)) := W0.write h2 h3 (fun j c f' cs hc => by
    by_cases hij : i = j
    · subst hij; rw [zq20x hil] at hc; cases hc
    · rw [zq9x hij] at hc
      exact (W.apart i j _ _ _ _ _ _ hij e hc).symm
   ) (fun j c f' cs hc z => by
      subst z
      have hij : i ≠ j := fun z => by subst z; rw [zq20x hil] at hc; cases hc
      rw [zq9x hij] at hc
      obtain ⟨_, _, _, _, _, ps, hp, _⟩ := W.ok j _ hc
      rw [hy] at hp; cases hp) (fun j c hc z => by
      have hij : i ≠ j := fun z => by subst z; rw [zq20x hil] at hc; cases hc
      rw [zq9x hij] at hc
      exact W.apc j i c _ (zq14x hij) hc e a z (zq8x.mpr rfl))
  have W2 := W1.set (i := i) (s := .own a g es) (x := some (.ref a)) ⟨rfl, h2, h3, xs, upd_same, hd.keep (But.set (.inl h2))⟩ (by
    rintro a' f' ds' ⟨rfl, rfl, rfl⟩ j c g' cs hj hc
    rw [zq9x (zq14x hj)] at hc
    exact W.apart i j _ _ _ _ _ _ (zq14x hj) e hc) (fun _ _ _ z => by cases z) (fun x hx j t hj ht hc z => by
    rw [zq9x (zq14x hj)] at ht
    have hx : x = a := zq8x.mp hx
    subst hx
    rcases hc with ⟨c, q⟩ | ⟨c, rfl⟩
    · cases q
    · exact W.apc j i c _ hj ht e x z (zq8x.mpr rfl))
  rw [zq82x, zq82x] at W2
  have : σ.set i (some (.ref a)) = σ := by
    apply zq61x
    intro j
    by_cases hij : i = j
    · subst hij; rw [zq20x (by rw [W.len]; exact hil), e1]
    · rw [zq9x hij]
  rwa [this] at W2
theorem append {a : Addr} (e : ρ[i]? = some (.own a f ds)) (h : Ev G ρ te fun g d => ds.length < 10000 /\ E.nx (ρ.set i (.own a (f && g) (ds ++ [d])))) : Sv G ρ (tDrop (tBM K "list" rAppend (tVar i) (tCons te tNil))) E := fun nb σ H D W KK => by
 obtain ⟨x, e1, h1, h2, h3, xs, hx, hd⟩ := W.ok i _ e
 subst h1
 refine ⟨.ref a, e1, .inl ⟨rfl, _, SqL.of hx⟩, h nb σ H _ W fun g v H1 d ⟨hl, q⟩ s1 hv => ?_⟩
 have W1 := W.step s1
 have hx1 := s1.1 _ _ h3 hx
 refine ⟨a, xs, v, rfl, rfl, hx1, zq31x (by rw [hd.length]; exact hl) (by decide), KK.nx nb _ _ _ q (writeOwn W1 e ?_)⟩
 exact IsDs.snoc (hv.av (S_mono (fun z => (zq24x _ _ ▸ z).2) fun _ z => z)) ((hd.keep s1.butS).av (S_mono (fun z => (zq24x _ _ ▸ z).1) fun _ z => z))
theorem IsDs.set' {nb : Addr -> Prop} {H : Hp} {x : V} (hd : IsD nb H d x) : ∀ {ds : List PyData} {xs : List V} (j : Nat), IsDs nb H ds xs -> IsDs nb H (ds.set j d) (xs.set j x)
 | [], _, j, h => by unfold IsDs at h; subst h; exact .nil
 | e :: ds, _, 0, h => by unfold IsDs at h; obtain ⟨y, ys, rfl, h1, h2⟩ := h; exact .cons hd h2
 | e :: ds, _, j + 1, h => by unfold IsDs at h; obtain ⟨y, ys, rfl, h1, h2⟩ := h; exact .cons h1 (IsDs.set' hd j h2)
theorem setOwn {a : Addr} (e : ρ[i]? = some (.own a f ds)) (h : Ev G ρ te fun g d => Ev G ρ tb fun _ y => ∃ k j, y = .int k /\ ixN ds.length k = some j /\ E.nx (ρ.set i (.own a (f && g) (ds.set j d)))) : Sv G ρ (tAsg te (gSub (tVar i) tb rSetL)) E := fun nb σ H D W KK =>
 h nb σ H _ W fun g v H1 d q s1 hv => by
  obtain ⟨x, e1, h1, h2, h3, xs, hx, hd⟩ := (W.step s1).ok i _ e
  subst h1
  refine ⟨.ref a, e1, q nb σ H1 _ (W.step s1) fun g' u H2 y ⟨k, j, ey, hj, p⟩ s2 hu => ?_⟩
  subst ey
  have W2 := (W.step s1).step s2
  refine ⟨a, xs, k, j, rfl, hu.ofI, s2.1 _ _ h3 hx, by rw [hd.length]; exact hj, KK.nx nb _ _ _ p (writeOwn W2 e ?_)⟩
  exact IsDs.set' ((hv.keep s2.butS).av (S_mono (fun z => (zq24x _ _ ▸ z).2) fun _ z => z)) j ((hd.keep s2.butS).av (S_mono (fun z => (zq24x _ _ ▸ z).1) fun _ z => z))
theorem share {nb : Addr -> Prop} {σ : St} {H : Hp} {a : Addr} (W : Wd G nb ρ σ H) (e : ρ[i]? = some (.own a f ds)) : Wd G (fun x => nb x /\ x ≠ a) (ρ.set i (.d f (.list ds))) σ H := by
  obtain ⟨x, e1, h1, h2, h3, xs, hx, hd⟩ := W.ok i _ e
  subst h1
  have hil : i < ρ.length := (zq7x.mp e).1
  have W0 : Wd G nb (ρ.set i .no) (σ.set i (some (.ref a))) H := W.set trivial fun _ _ _ z => by cases z
  have W1 : Wd G (fun x => nb x /\ x ≠ a) (ρ.set i .no) (σ.set i (some (.ref a))) H := by
    refine ⟨W0.bag, fun x n => W0.live x n.1, W0.old, fun x n => W0.nbo x n.1, W0.gA, W0.len, W0.gB, fun h m => (W0.hld h m).av (S_mono (fun z => z) fun _ z => z.1), fun j s e' => ?_, W0.apart, W0.apd, W0.apc⟩
    obtain ⟨x, e1', h⟩ := W0.ok j s e'
    refine ⟨x, e1', ?_⟩
    have hij : s ≠ .no -> i ≠ j := fun n z => by subst z; rw [zq20x hil] at e'; cases e'; exact n rfl
    cases s with
    | no => trivial
    | d f d => obtain ⟨v, e, h⟩ := h; exact ⟨v, e, h.av (S_mono (fun z => z) fun _ z => z.1)⟩
    | own c f es =>
      obtain ⟨e2, n, q, xs, hx, hd⟩ := h
      have hij := hij (by intro z; cases z)
      rw [zq9x hij] at e'
      exact ⟨e2, ⟨n, (W.apart i j _ _ _ _ _ _ hij e e').symm⟩, q, xs, hx, hd.av (S_mono (fun z => z) fun _ z => z.1)⟩
    | bag => exact h
    | raw v => exact h
    | dic c f es =>
      obtain ⟨e2, n, q, ps, hp, hd⟩ := h
      have hca : c ≠ a := fun z => by subst z; rw [hx] at hp; cases hp
      exact ⟨e2, ⟨n, hca⟩, q, ps, hp, hd.av (S_mono (fun z => z) fun _ z => z.1)⟩
    | cu c =>
      obtain ⟨e2, n, q⟩ := h
      have hij := hij (by intro z; cases z)
      rw [zq9x hij] at e'
      exact ⟨e2, fun x hx => ⟨⟨(n x hx).1, fun z => W.apc j i c _ (zq14x hij) e' e x hx (by rw [z]; exact zq8x.mpr rfl)⟩, (n x hx).2⟩, c.av (S_mono (fun z => z) fun _ z => z.1) q⟩
  have W2 := W1.setD (i := i) (f := f) (d := .list ds) (v := .ref a) (.lst (fun z => by
    rcases z with z | z | z | z
    · exact z.2 rfl
    · exact W.gA a z (W.nbo a h2 h3)
    · exact z h3
    · exact z.2 (W.nbo a h2 h3)) hx (hd.av (S_mono (fun z => z) fun _ z => z.1)))
  rw [zq82x, zq82x] at W2
  have : σ.set i (some (.ref a)) = σ := by
    apply zq61x
    intro j
    by_cases hij : i = j
    · subst hij; rw [zq20x (by rw [W.len]; exact hil), e1]
    · rw [zq9x hij]
  rwa [this] at W2
theorem demote {a : Addr} (i : Nat) (e : ρ[i]? = some (.own a f ds)) (h : Sv G (ρ.set i (.d f (.list ds))) s E) : Sv G ρ s E := fun nb σ H D W K => h _ σ H D (share W e) K
theorem wk {ρ' : Rh} (w : Wk ρ' ρ) (h : Sv G ρ' s E) : Sv G ρ s E := fun nb σ H D W K => h nb σ H D (W.wk w) K
end Sv
end
end L2
set_option maxRecDepth 100000
set_option maxHeartbeats 1000000
namespace L2
open PySem PySem.Spec PyProof.Rows
abbrev Gx.hd (G : Gx) (f : Bool) (d : PyData) (v : V) : Gx := { G with hold := (f, .d d, v) :: G.hold }
section
variable {G : Gx} {ρ ρc : Rh} {Φ Ψ : Pd} {ta tb te : TE} {t : TA} {i : Nat} {f g : Bool} {d e : PyData} {ds es : List PyData} {K : PySem.W.Frag}
theorem Wd.hd {nb : Addr -> Prop} {σ : St} {H : Hp} {v : V} (W : Wd G nb ρ σ H) (h : IsD (G.S nb f) H d v) : Wd (G.hd f d v) nb ρ σ H :=
 ⟨W.bag, W.live, W.old, W.nbo, W.gA, W.len, W.gB, fun x m => by
  rcases zq2x.mp m with e | m
  ·subst e; exact h
  ·exact W.hld x m, fun i s e => by
   obtain ⟨x, e1, h⟩ := W.ok i s e
   refine ⟨x, e1, ?_⟩
   cases s <;> exact h, W.apart, W.apd, W.apc⟩
theorem Wd.unhd {nb : Addr -> Prop} {σ : St} {H : Hp} {v : V} (W : Wd (G.hd f d v) nb ρ σ H) : Wd G nb ρ σ H /\ IsD (G.S nb f) H d v :=
 ⟨⟨W.bag, W.live, W.old, W.nbo, W.gA, W.len, W.gB, fun x m => W.hld x (zq23x _ m), fun i s e => by
   obtain ⟨x, e1, h⟩ := W.ok i s e
   refine ⟨x, e1, ?_⟩
   cases s <;> exact h, W.apart, W.apd, W.apc⟩, W.hld _ (zq19x ..)⟩
namespace Sv
variable {E : DE} {s : TS} {gt : TG}
def Turns (G : Gx) (ρ : Rh) (n : Nat) (it : Nat -> PyData -> Prop) (fi : Bool) (gt : TG) (s : TS) (E : DE) : Prop :=
 ∃ I : Nat -> Rh -> Prop, I 0 ρ /\ (∀ i d ρ', it i d -> I i ρ' -> Gv G ρ' gt fi d fun ρ2 => Sv G ρ2 s { nx := I (i + 1), rt := E.rt, bk := E.nx, ct := I (i + 1), rw := E.rw }) /\ ∀ ρ', I n ρ' -> E.nx ρ'
theorem loopR {lo : Int} {n : Nat} {nb : Addr -> Prop} {σ : St} {H : Hp} {D : Ends} (W : Wd G nb ρ σ H) (KK : EndsOk G E D) (h : Turns G ρ n (fun i d => i < n /\ d = .int (lo + i)) true gt s E) :
  ∃ W : Nat -> Nat -> St -> Hp -> Prop, (∃ m, W 0 m σ H) /\ ∀ i m σ H, W i m σ H ->
   ((Itr lo n).stop i H /\ D.nx σ H) \/ ((Itr lo n).go i H /\ ∃ N : St -> Hp -> Prop, (∀ σ' H', N σ' H' -> ∃ m', m' < m /\ W (i + 1) m' σ' H') /\ ∀ x H', (Itr lo n).yld i H x H' -> gt x σ H' fun σ2 H2 => s { D with nx := N, ct := N, bk := D.nx } σ2 H2) := by
 obtain ⟨I, h0, ht, he⟩ := h
 refine for_range (fun i σ H => ∃ nb ρ', I i ρ' /\ Wd G nb ρ' σ H) ⟨nb, ρ, h0, W⟩ ?_ ?_
 ·rintro i σ H hi ⟨nb, ρ', hI, W⟩
  refine ht i _ ρ' ⟨hi, rfl⟩ hI nb σ H _ _ W (.int _) fun σ2 ρ2 q W2 => q nb σ2 H _ W2 ?_
  exact ⟨fun nb ρ σ H q W => ⟨nb, ρ, q, W⟩, KK.nx, fun nb ρ σ H q W => ⟨nb, ρ, q, W⟩, KK.rt, KK.rw⟩
 ·rintro σ H ⟨nb, ρ', hI, W⟩
  exact KK.nx nb ρ' σ H (he ρ' hI) W
theorem forR1 (h : Ev G ρ te fun _ x => ∃ n : Int, x = .int n /\ -(2 ^ 62) <= n /\ n < 2 ^ 62 /\ Turns G ρ n.toNat (fun i d => i < n.toNat /\ d = .int (0 + i)) true gt s E) : Sv G ρ (tFor (iRng1 (tCons te tNil)) gt s) E := fun nb σ H D W KK =>
 h nb σ H _ W fun f v H1 x ⟨n, ex, h1, h2, q⟩ s1 hv => by
  subst ex
  rw [hv.ofI]
  exact ⟨n, rfl, h1, h2, loopR (W.step s1) KK q⟩
theorem forL (h : Ev G ρ te fun f x => ∃ ds, x = .list ds /\ ∀ v, Turns (G.hd f (.list ds) v) ρ ds.length (fun i d => ds[i]? = some d) f gt s E) : Sv G ρ (tFor (iList K te) gt s) E := fun nb σ H D W KK =>
 h nb σ H _ W fun f v H1 x ⟨ds, ex, q⟩ s1 hv => by
  subst ex
  obtain ⟨I, h0, ht, he⟩ := q v
  have W1 := (W.step s1).hd hv
  obtain ⟨a, xs, rfl, n, hx, hd⟩ := hv.ofL
  have key : ∀ {nb ρ' σ H}, Wd (G.hd f (.list ds) (.ref a)) nb ρ' σ H -> ∃ xs, H a = some (.lst xs) /\ IsDs (G.S nb f) H ds xs := fun W => by
   obtain ⟨a', xs', e', _, h', d'⟩ := W.unhd.2.ofL
   cases e'
   exact ⟨xs', h', d'⟩
  refine ⟨a, rfl, ⟨xs, .of hx⟩, ?_⟩
  refine ⟨fun i m σ H => m = ds.length - i /\ i <= ds.length /\ ∃ nb ρ', I i ρ' /\ Wd (G.hd f (.list ds) (.ref a)) nb ρ' σ H, ⟨ds.length, by simp, zq37x _, nb, ρ, h0, W1⟩, ?_⟩
  rintro i m σ H ⟨rfl, hi, nb, ρ', hI, W⟩
  obtain ⟨ys, hy, hD⟩ := key W
  have hl := hD.length
  by_cases hlt : i < ds.length
  ·refine .inr ⟨⟨ys, ys[i]'(by omega), .of hy, zq1x _⟩, fun σ H => ∃ nb ρ', I (i + 1) ρ' /\ Wd (G.hd f (.list ds) (.ref a)) nb ρ' σ H, fun σ' H' q => ⟨ds.length - (i + 1), by omega, rfl, hlt, q⟩, fun x H' y => ?_⟩
   obtain ⟨e, y⟩ := y
   subst e
   have hx := y ys (.of hy)
   obtain ⟨x', hx', dx⟩ := hD.get (zq1x hlt)
   rw [hx] at hx'; cases hx'
   refine ht i _ ρ' (zq1x hlt) hI nb σ _ _ _ W dx fun σ2 ρ2 q W2 => q nb σ2 _ _ W2 ?_
   exact ⟨fun nb ρ σ H q W => ⟨nb, ρ, q, W⟩, fun nb ρ σ H q W => KK.nx nb ρ σ H q W.unhd.1, fun nb ρ σ H q W => ⟨nb, ρ, q, W⟩, fun nb ρ σ f v H d q W hv => KK.rt nb ρ σ f v H d q W.unhd.1 hv, fun nb ρ σ v H q W => KK.rw nb ρ σ v H q W.unhd.1⟩
  ·have e : i = ds.length := by omega
   subst e
   exact .inl ⟨⟨ys, .of hy, by omega⟩, KK.nx nb ρ' σ H (he ρ' hI) W.unhd.1⟩
theorem while_ {c : TT} (I : Rh -> Prop) (μ : Rh -> Nat) (h0 : I ρ) (h : ∀ ρ', I ρ' -> Tv G ρ' c fun b => if b = true then Sv G ρ' s { nx := fun ρ2 => I ρ2 /\ μ ρ2 < μ ρ', rt := E.rt, bk := E.nx, ct := fun ρ2 => I ρ2 /\ μ ρ2 < μ ρ', rw := E.rw } else E.nx ρ') : Sv G ρ (tWhile c s) E := fun nb σ H D W KK => by
  refine ⟨fun m σ H => ∃ nb ρ', I ρ' /\ Wd G nb ρ' σ H /\ m = μ ρ', ⟨_, nb, ρ, h0, W, rfl⟩, ?_⟩
  rintro m σ H ⟨nb, ρ', hI, W, rfl⟩
  refine h ρ' hI nb σ H _ W fun b H1 q s1 => ?_
  cases b with
  | true =>
    rw [if_pos rfl] at q ⊢
    refine ⟨fun σ' H' => ∃ nb ρ2, (I ρ2 /\ μ ρ2 < μ ρ') /\ Wd G nb ρ2 σ' H', fun σ' H' ⟨nb, ρ2, ⟨q1, q2⟩, W2⟩ => ⟨μ ρ2, q2, nb, ρ2, q1, W2, rfl⟩, q nb σ H1 _ (W.step s1) ?_⟩
    exact ⟨fun nb ρ σ H q W => ⟨nb, ρ, q, W⟩, KK.nx, fun nb ρ σ H q W => ⟨nb, ρ, q, W⟩, KK.rt, KK.rw⟩
  | false => rw [if_neg zq13x] at q ⊢; exact KK.nx nb ρ' σ H1 q (W.step s1)
end Sv
def startR (mp : List (Option Nat)) (ρ : Rh) : Rh := mp.map fun o => match o with | none => .no | some j => match ρ[j]? with | some s => s | none => .no
theorem mp_inj {mp : List (Option Nat)} (h : (mp.filterMap id).Nodup) : ∀ {i j k : Nat}, mp[i]? = some (some k) -> mp[j]? = some (some k) -> i = j := by
  induction mp with
  | nil => intro i j k e; simp at e
  | cons o r ih =>
    intro i j k e1 e2
    have hr : (r.filterMap id).Nodup := by
      cases o with
      | none => simpa using h
      | some x => rw [zq207x (by rfl)] at h; exact (zq59x.mp h).2
    have hn : ∀ {m : Nat}, r[m]? = some (some k) -> o ≠ some k := fun {m} hm e => by
      subst e
      rw [zq207x (by rfl)] at h
      exact (zq59x.mp h).1 (zq153x.mpr ⟨some k, zq16x hm, rfl⟩)
    cases i with
    | zero =>
      cases j with
      | zero => rfl
      | succ j => simp at e1 e2; exact absurd e1 (hn e2)
    | succ i =>
      cases j with
      | zero => simp at e1 e2; exact absurd e2 (hn e1)
      | succ j => simp at e1 e2; rw [ih hr e1 e2]
theorem Wd.startC {nb : Addr -> Prop} {σ : St} {H : Hp} {mp : List (Option Nat)} (W : Wd G nb ρ σ H) (hm : (mp.filterMap id).Nodup) : Wd G nb (startR mp ρ) (startC mp σ) H := by
  have hat : ∀ {i : Nat} {s : Sl}, (startR mp ρ)[i]? = some s -> s = .no \/ ∃ k, mp[i]? = some (some k) /\ ρ[k]? = some s := fun {i s} e => by
    unfold startR at e
    rw [zq6x] at e
    obtain ⟨o, ho, e⟩ := zq99x.mp e
    cases o with
    | none => exact .inl e.symm
    | some k =>
      cases hk : ρ[k]? with
      | none => simp only [hk] at e; exact .inl e.symm
      | some s' => simp only [hk] at e; subst e; exact .inr ⟨k, ho, hk⟩
  refine ⟨W.bag, W.live, W.old, W.nbo, W.gA, by unfold L2.startC startR; rw [zq0x, zq0x], W.gB, W.hld, fun i s e => ?_, fun i j a f as c g cs hij e1 e2 => ?_, fun i j a f as c g cs hij e1 e2 => ?_, fun i j c t hij e1 e2 a ha => ?_⟩
  · have hi : i < mp.length := by have := (zq7x.mp e).1; unfold startR at this; rwa [zq0x] at this
    rcases hat e with rfl | ⟨k, hk, hs⟩
    · exact ⟨_, by unfold L2.startC; rw [zq6x, zq1x hi]; rfl, trivial⟩
    · obtain ⟨x, e1, h⟩ := W.ok k s hs
      refine ⟨x, ?_, h⟩
      unfold L2.startC
      rw [zq6x, hk]
      simp only [Option.map_some, e1]
  · rcases hat e1 with z | ⟨k, hk, hs⟩
    · cases z
    rcases hat e2 with z | ⟨k', hk', hs'⟩
    · cases z
    exact W.apart k k' a f as c g cs (fun z => by subst z; exact hij (mp_inj hm hk hk')) hs hs'
  · rcases hat e1 with z | ⟨k, hk, hs⟩
    · cases z
    rcases hat e2 with z | ⟨k', hk', hs'⟩
    · cases z
    exact W.apd k k' a f as c g cs (fun z => by subst z; exact hij (mp_inj hm hk hk')) hs hs'
  · rcases hat e1 with z | ⟨k, hk, hs⟩
    · cases z
    rcases hat e2 with z | ⟨k', hk', hs'⟩
    · subst z; exact fun z => by cases z
    exact W.apc k k' c t (fun z => by subst z; exact hij (mp_inj hm hk hk')) hs hs' a ha
def NoOwn (ρ : Rh) (acc : Addr) : Prop := (∀ (j : Nat) a f ds, ρ[j]? = some (.own a f ds) -> a ≠ acc) /\ ∀ (j : Nat) c, ρ[j]? = some (.cu c) -> acc ∉ c.F
def CompD (G : Gx) (ρc : Rh) (n : Nat) (it : Nat -> PyData -> Prop) (fi : Bool) (gt : TG) (tc : TT) (te : TE) (Θ : Bool -> List PyData -> Prop) : Prop :=
 ∃ (fl : Bool) (I : Nat -> List PyData -> Prop), I 0 [] /\ (∀ i d ds, it i d -> ds.length <= i -> I i ds -> Gv G ρc gt fi d fun ρ1 => Wk ρc ρ1 /\ Tv G ρ1 tc fun b => if b = true then Ev G ρ1 te fun f e => (fl = true -> f = true) /\ I (i + 1) (ds ++ [e]) else I (i + 1) ds) /\
  ∀ ds, ds.length <= n -> I n ds -> Θ (fl || scAll ds) ds
theorem comp_turn {gt : TG} {tc : TT} {nb : Addr -> Prop} {acc : Addr} {σ : St} {H H1 : Hp} {x : V} {fi fl : Bool} {I : Nat -> List PyData -> Prop} {xs : List V} {N : St -> Hp -> Prop} {ds : List PyData} {n : Nat} (hn : n <= 10000) (hi : i < n)
    (W : Wd G nb ρc σ H) (ha : nb acc) (hN : NB G.B acc) (hno : NoOwn ρc acc) (st : Step G.B H1 H) (hacc : H1 acc = none) (hx : H acc = some (.lst xs)) (hd : IsDs (G.S nb fl) H ds xs) (hl : ds.length <= i) (hxd : IsD (G.S nb fi) H d x)
    (h : Gv G ρc gt fi d fun ρ1 => Wk ρc ρ1 /\ Tv G ρ1 tc fun b => if b = true then Ev G ρ1 te fun f e => (fl = true -> f = true) /\ I (i + 1) (ds ++ [e]) else I (i + 1) ds)
    (z : ∀ σ' H' ds' xs', Wd G nb ρc σ' H' -> Step G.B H1 H' -> H' acc = some (.lst xs') -> IsDs (G.S nb fl) H' ds' xs' -> ds'.length <= i + 1 -> I (i + 1) ds' -> N σ' H') :
    gt x σ H fun σ2 H2 => tc σ2 H2 fun b H3 => if b = true then te σ2 H3 fun v H4 => ∃ ys, H4 acc = some (.lst ys) /\ ys.length < sizeLine /\ N σ2 (upd H4 acc (.lst (ys ++ [v]))) else N σ2 H3 := by
  refine h nb σ H x _ W hxd fun σ2 ρ1 ⟨wk, q⟩ W2 => q nb σ2 H _ W2 fun b H3 q3 s3 => ?_
  have hx3 := s3.1 _ _ hN hx
  have hd3 := hd.keep (s3.butS (nb := nb) (f := fl))
  cases b with
  | false =>
    rw [if_neg zq13x] at q3 ⊢
    exact z σ2 H3 ds xs ((W2.step s3).wk wk) (st.trans s3) hx3 hd3 (by omega) q3
  | true =>
    rw [if_pos rfl] at q3 ⊢
    refine q3 nb σ2 H3 _ (W2.step s3) fun f v H4 e ⟨hf, hI⟩ s4 hv => ?_
    have hx4 := s4.1 _ _ hN hx3
    have hd4 := hd3.keep (s4.butS (nb := nb) (f := fl))
    have hlen := hd.length
    refine ⟨xs, hx4, zq31x (show xs.length < 10001 by omega) (by decide), ?_⟩
    have W4 : Wd G nb ρc σ2 H4 := ((W2.step s3).step s4).wk wk
    have bt : But (G.S nb fl) H4 (upd H4 acc (.lst (xs ++ [v]))) := But.set (.inl ha)
    have W5 : Wd G nb ρc σ2 (upd H4 acc (.lst (xs ++ [v]))) := W4.write ha hN hno.1 (fun j a f ds e z => by
      subst z
      obtain ⟨_, _, _, _, _, ps, hp, _⟩ := W4.ok j _ e
      rw [hx4] at hp; cases hp) hno.2
    refine z σ2 _ (ds ++ [e]) (xs ++ [v]) W5 ⟨fun a o n q => ?_, W5.bag⟩ upd_same (IsDs.snoc ((hv.av (S_mono hf fun _ z => z)).keep bt) (hd4.keep bt)) (by rw [zq30x, zq60x]; omega) hI
    have hne : a ≠ acc := fun z => by subst z; rw [hacc] at q; cases q
    rw [upd_ne hne]
    exact (st.trans (s3.trans s4)).1 a o n q
theorem no_own {nb : Addr -> Prop} {σ : St} {H : Hp} {a : Addr} (W : Wd G nb ρ σ H) (ha : H a = none) : NoOwn ρ a := by
 refine ⟨fun j c f ds e z => ?_, fun j c e z => ?_⟩
 ·subst z
  obtain ⟨x, e1, h1, h2, h3, ys, hy, _⟩ := W.ok j _ e
  rw [hy] at ha; cases ha
 ·obtain ⟨x, e1, h1, h2, h3⟩ := W.ok j _ e
  exact W.live a (h2 a z).1 ha
theorem hA_more {nb : Addr -> Prop} {a : Addr} {f : Bool} : ∀ x, (G.S nb f x \/ x = a) -> G.S (fun x => nb x \/ x = a) f x := fun x z => by
 rcases z with (z | z | z | z) | z
 ·exact .inl (.inl z)
 ·exact .inr (.inl z)
 ·exact .inr (.inr (.inl z))
 ·exact .inr (.inr (.inr z))
 ·exact .inl (.inr z)
theorem comp_end {nb : Addr -> Prop} {acc : Addr} {H H1 H' : Hp} {σ : St} {Q : VK} {Θ : Bool -> List PyData -> Prop} {xs : List V} {ds : List PyData} {fl : Bool} (W : Wd G nb ρ σ H) (s1 : Step G.B H H1) (hacc : H1 acc = none) (s2 : Step G.B H1 H') (hx : H' acc = some (.lst xs)) (hd : IsDs (G.S (fun x => nb x \/ x = acc) fl) H' ds xs) (p : Θ (fl || scAll ds) ds)
  (z : ∀ f a xs H' ds, Θ f ds -> Step G.B H H' -> H a = none -> H' a = some (.lst xs) -> IsDs (fun x => G.S nb f x \/ x = a) H' ds xs -> Q (.ref a) H') : Q (.ref acc) H' := by
 refine z _ acc xs H' ds p (s1.trans s2) (W.none_of s1 hacc) hx ?_
 cases hs : scAll ds with
 | true => exact IsDs.scAny hs hd
 | false => rw [zq96x]; exact hd.av hA_more
theorem NB.new {B : Bg} {H : Hp} {a : Addr} (h : BagOk B H) (ha : H a = none) : NB B a := zq55x fun z => NB.bag_live h z ha
namespace EvN
variable {Θ : Bool -> List PyData -> Prop} {gt : TG} {tc : TT} {mp : List (Option Nat)}
theorem compR {lo : Int} {n : Nat} {nb : Addr -> Prop} {σ : St} {H H1 : Hp} {Q : VK} (W : Wd G nb ρ σ H) (s1 : Step G.B H H1) (hm : (mp.filterMap id).Nodup) (hρ : startR mp ρ = ρc) (hn : n <= 10000) (h : CompD G ρc n (fun i d => i < n /\ d = .int (lo + i)) true gt tc te Θ)
  (z : ∀ f a xs H' ds, Θ f ds -> Step G.B H H' -> H a = none -> H' a = some (.lst xs) -> IsDs (fun x => G.S nb f x \/ x = a) H' ds xs -> Q (.ref a) H') (acc : Addr) (hacc : H1 acc = none) : CompW (Itr lo n) gt tc te acc (fun H' => Q (.ref acc) H') (startC mp σ) (upd H1 acc (.lst [])) := by
 obtain ⟨fl, I, h0, ht, he⟩ := h
 have W0 : Wd G nb ρc (L2.startC mp σ) H1 := by rw [<- hρ]; exact (W.step s1).startC hm
 have W1 := W0.more hacc (o := .lst [])
 have hN := NB.new s1.2 hacc
 have hno := no_own W0 hacc
 have st0 : Step G.B H1 (upd H1 acc (.lst [])) := .same s1.2 (same_new hacc)
 refine R.comp_range (fun i σ H => ∃ ds xs, Wd G (fun x => nb x \/ x = acc) ρc σ H /\ Step G.B H1 H /\ H acc = some (.lst xs) /\ IsDs (G.S (fun x => nb x \/ x = acc) fl) H ds xs /\ ds.length <= i /\ I i ds) ⟨[], [], W1, st0, upd_same, .nil, zq5x _, h0⟩ ?_ ?_
 ·rintro i σ H hi ⟨ds, xs, W, st, hx, hd, hl, hI⟩
  exact comp_turn hn hi W (.inr rfl) hN hno st hacc hx hd hl (.int _) (ht i _ ds ⟨hi, rfl⟩ hl hI) fun σ' H' ds' xs' W' st' hx' hd' hl' hI' => ⟨ds', xs', W', st', hx', hd', hl', hI'⟩
 ·rintro σ H' ⟨ds, xs, W', st, hx, hd, hl, hI⟩
  exact comp_end W s1 hacc st hx hd (he ds hl hI) z
theorem compR1 {t0 : TE} (hm : (mp.filterMap id).Nodup) (hρ : startR mp ρ = ρc) (h : Ev G ρ t0 fun _ x => ∃ n : Int, x = .int n /\ -10000 <= n /\ n <= 10000 /\ CompD G ρc n.toNat (fun i d => i < n.toNat /\ d = .int (0 + i)) true gt tc te Θ) : EvN G ρ (tComp (iRng1 (tCons t0 tNil)) gt tc te mp) Θ := fun nb σ H Q W z =>
 h nb σ H _ W fun f v H1 x ⟨n, ex, h1, h2, q⟩ s1 hv => by
  subst ex
  rw [hv.ofI]
  exact ⟨n, rfl, by omega, by omega, compR W s1 hm hρ (by omega) q z⟩
theorem compL {t0 : TE} (hm : (mp.filterMap id).Nodup) (hρ : startR mp ρ = ρc) (h : Ev G ρ t0 fun fi x => ∃ es, x = .list es /\ es.length <= 10000 /\ ∀ v, CompD (G.hd fi (.list es) v) ρc es.length (fun i d => es[i]? = some d) fi gt tc te Θ) : EvN G ρ (tComp (iList K t0) gt tc te mp) Θ := fun nb σ H Q W z =>
 h nb σ H _ W fun fi v H1 x ⟨es, ex, hn, q⟩ s1 hv => by
  subst ex
  obtain ⟨fl, I, h0, ht, he⟩ := q v
  have W0 := (W.step s1).hd hv
  obtain ⟨a, xs, rfl, n, hx, hd⟩ := hv.ofL
  refine ⟨a, rfl, ⟨xs, .of hx⟩, fun acc hacc => ?_⟩
  have W0' : Wd (G.hd fi (.list es) (.ref a)) nb ρc (L2.startC mp σ) H1 := by rw [<- hρ]; exact W0.startC hm
  have W1 := W0'.more hacc (o := .lst [])
  have hN := NB.new s1.2 hacc
  have hno := no_own W0' hacc
  have st0 : Step G.B H1 (upd H1 acc (.lst [])) := .same s1.2 (same_new hacc)
  have hNa : NB G.B a := zq55x fun z => n (.inr (.inr (.inl z)))
  refine R.comp_list (xs := xs) (fun i σ H => ∃ ds ys, Wd (G.hd fi (.list es) (.ref a)) (fun x => nb x \/ x = acc) ρc σ H /\ Step G.B H1 H /\ H acc = some (.lst ys) /\ IsDs (G.S (fun x => nb x \/ x = acc) fl) H ds ys /\ ds.length <= i /\ I i ds) ⟨[], [], W1, st0, upd_same, .nil, zq5x _, h0⟩ ?_ ?_ ?_
  ·rintro i σ H hi ⟨ds, ys, W, st, _⟩
   exact .of (st.1 _ _ hNa hx)
  ·rintro i x σ H hi ⟨ds, ys, W, st, hy, hd', hl, hI⟩
   obtain ⟨a', xs', e', _, h', d'⟩ := W.unhd.2.ofL
   cases e'
   rw [st.1 _ _ hNa hx] at h'; cases h'
   have hil : i < es.length := by have := (zq7x.mp hi).1; have := d'.length; omega
   obtain ⟨x', hx', dx⟩ := d'.get (zq1x hil)
   rw [hi] at hx'; cases hx'
   exact comp_turn (G := G.hd fi (.list es) (.ref a)) hn hil W (.inr rfl) hN hno st hacc hy hd' hl dx (ht i _ ds (zq1x hil) hl hI) fun σ' H' ds' xs' W' st' hx' hd' hl' hI' => ⟨ds', xs', W', st', hx', hd', hl', hI'⟩
  ·rintro σ H' ⟨ds, ys, W', st, hy, hd', hl, hI⟩
   rw [hd.length] at hl hI
   exact comp_end W s1 hacc st hy hd' (he ds hl hI) z
end EvN
end
end L2
set_option maxRecDepth 100000
set_option maxHeartbeats 1000000
namespace L2
open PySem PySem.Spec PyProof.Rows
section
variable {ρ : Rh} {t : TS} {N : List Str} {vs : List V} {ds : List PyData} {nb : Addr -> Prop} {H : Hp} {Q : VK} {Φ : Pd} {b l : Addr}
theorem isDs_at {xs : List V} (h : IsDs nb H ds xs) {i : Nat} {s : Sl} (e : (ds.map (Sl.d false))[i]? = some s) : ∃ v d, xs[i]? = some v /\ s = .d false d /\ IsD nb H d v := by
 rw [zq6x] at e
 obtain ⟨d, hd, e⟩ := zq99x.mp e
 obtain ⟨v, hv, q⟩ := h.get hd
 exact ⟨v, d, hv, e.symm, q⟩
theorem Sv.enterD (hl : Live nb H) (hd : IsDs nb H ds vs) (hΦ : ∀ f d v H', Φ f d -> Same H H' -> IsD (fun a => nb a \/ (f = true /\ H a ≠ none)) H' d v -> Q v H')
  (hρ : ρ = ds.map (Sl.d false) ++ List.replicate (N.length - ds.length) .no) (h : Sv ⟨none, H, nb, []⟩ ρ t { nx := fun _ => Φ true .none, rt := Φ }) : t { nx := fun _ H' => Q .non H', rt := Q } (start N vs) H := by
 have hlen := hd.length
 have sm : ∀ {nb' ρ' σ' H'}, Wd ⟨none, H, nb, []⟩ nb' ρ' σ' H' -> Same H H' := fun W a o e => W.old a o (fun _ _ z => (by cases z)) e
 refine h (fun _ => False) _ H _ ⟨fun _ _ z => (by cases z), fun _ z => z.elim, fun _ _ _ e => e, fun _ z => z.elim, hl, ?_, fun _ _ z => (by cases z), fun _ m => (by cases m), fun i s e => ?_, ?_, ?_, ?_⟩ ⟨fun nb' ρ' σ' H' q W => hΦ _ _ _ _ q (sm W) .non, fun _ _ _ _ q _ => q.elim, fun _ _ _ _ q _ => q.elim, fun nb' ρ' σ' f v H' d q W hv => hΦ f d v H' q (sm W) (hv.av fun a z => ?_), fun _ _ _ _ _ q _ => q.elim⟩
 ·rw [hρ]; unfold start; simp [hlen]
 ·rw [hρ] at e
  unfold start
  by_cases hi : i < ds.length
  ·rw [zq34x (by rw [zq0x]; exact hi)] at e
   obtain ⟨v, d, hv, rfl, q⟩ := isDs_at hd e
   refine ⟨some v, ?_, v, rfl, q.av fun a z => ?_⟩
   ·rw [zq34x (by rw [zq0x, hlen]; exact hi), zq6x, hv]; rfl
   ·rcases z with z | z | z | z
    ·exact z.elim
    ·exact z
    ·exact absurd (fun _ _ z => (by cases z)) z
    ·cases z.1
  ·rw [zq38x (by rw [zq0x]; omega), zq35x] at e
   split at e
   ·rename_i h'
    cases e
    refine ⟨none, ?_, trivial⟩
    rw [zq0x] at h'
    rw [zq38x (by rw [zq0x]; omega), zq35x, if_pos (by rw [zq0x, hlen]; exact h')]
   ·cases e
 ·intro i j a f as c g cs hij e1
  rw [hρ] at e1
  by_cases hi : i < ds.length
  ·rw [zq34x (by rw [zq0x]; exact hi)] at e1
   obtain ⟨_, _, _, z, _⟩ := isDs_at hd e1
   cases z
  ·rw [zq38x (by rw [zq0x]; omega), zq35x] at e1
   split at e1 <;> cases e1
 ·intro i j a f as c g cs hij e1
  rw [hρ] at e1
  by_cases hi : i < ds.length
  ·rw [zq34x (by rw [zq0x]; exact hi)] at e1
   obtain ⟨_, _, _, z, _⟩ := isDs_at hd e1
   cases z
  ·rw [zq38x (by rw [zq0x]; omega), zq35x] at e1
   split at e1 <;> cases e1
 ·intro i j c t hij e1
  rw [hρ] at e1
  by_cases hi : i < ds.length
  ·rw [zq34x (by rw [zq0x]; exact hi)] at e1
   obtain ⟨_, _, _, z, _⟩ := isDs_at hd e1
   cases z
  ·rw [zq38x (by rw [zq0x]; omega), zq35x] at e1
   split at e1 <;> cases e1
 ·rcases z with z | z
  ·exact .inr (.inl z)
  ·exact .inr (.inr (.inr z))
theorem Sv.enterB (hB : BagAt H b l) (hl : Live nb H) (hb : nb b) (hd : IsDs nb H ds vs) (hΦ : ∀ f d v H', Φ f d -> But (Nb b) H H' -> BagAt H' b l -> IsD (fun a => nb a \/ (f = true /\ H a ≠ none)) H' d v -> Q v H')
    (hρ : ρ = .bag :: ds.map (Sl.d false) ++ List.replicate (N.length - (ds.length + 1)) .no) (h : Sv ⟨some (b, l), H, nb, []⟩ ρ t { nx := fun _ => Φ true .none, rt := Φ }) : t { nx := fun _ H' => Q .non H', rt := Q } (start N (.ref b :: vs)) H := by
  have hlen := hd.length
  have hNB : ∀ a, a ≠ b -> NB (some (b, l)) a := fun a n b' l' e => by cases e; exact n
  have hNB' : ∀ a, ¬ NB (some (b, l)) a -> a = b := fun a n => zq55x fun z => n (hNB a z)
  have bt : ∀ {nb' ρ' σ' H'}, Wd ⟨some (b, l), H, nb, []⟩ nb' ρ' σ' H' -> But (Nb b) H H' := fun W a o n e => W.old a o (hNB a n) e
  have bg : ∀ {nb' ρ' σ' H'}, Wd ⟨some (b, l), H, nb, []⟩ nb' ρ' σ' H' -> BagAt H' b l := fun W => W.bag b l rfl
  refine h (fun _ => False) _ H _ ⟨fun b' l' e => (by cases e; exact hB), fun _ z => z.elim, fun _ _ _ e => e, fun _ z => z.elim, hl, ?_, fun b' l' e => (by cases e; exact hB), fun _ m => (by cases m), fun i s e => ?_, ?_, ?_, ?_⟩ ⟨fun nb' ρ' σ' H' q W => hΦ _ _ _ _ q (bt W) (bg W) .non, fun _ _ _ _ q _ => q.elim, fun _ _ _ _ q _ => q.elim, fun nb' ρ' σ' f v H' d q W hv => hΦ f d v H' q (bt W) (bg W) (hv.av fun a z => ?_), fun _ _ _ _ _ q _ => q.elim⟩
  · rw [hρ]; unfold start; simp [hlen]
  · rw [hρ] at e
    unfold start
    cases i with
    | zero => simp at e; subst e; exact ⟨some (.ref b), by simp, b, l, rfl, rfl⟩
    | succ i =>
      simp only [zq71x, zq65x, zq4x, zq39x] at e ⊢
      by_cases hi : i < ds.length
      · rw [zq34x (by rw [zq0x]; exact hi)] at e
        obtain ⟨v, d, hv, rfl, q⟩ := isDs_at hd e
        refine ⟨some v, ?_, v, rfl, q.av fun a z => ?_⟩
        · rw [zq34x (by rw [zq0x, hlen]; exact hi), zq6x, hv]; rfl
        · rcases z with z | z | z | z
          · exact z.elim
          · exact z
          · rw [hNB' a z]; exact hb
          · cases z.1
      · rw [zq38x (by rw [zq0x]; omega), zq35x] at e
        split at e
        · rename_i h'
          cases e
          refine ⟨none, ?_, trivial⟩
          rw [zq0x] at h'
          rw [zq38x (by rw [zq0x]; omega), zq35x, if_pos (by rw [zq0x, hlen]; exact h')]
        · cases e
  · intro i j a f as c g cs hij e1
    rw [hρ] at e1
    cases i with
    | zero => simp at e1
    | succ i =>
      simp only [zq71x, zq65x] at e1
      by_cases hi : i < ds.length
      · rw [zq34x (by rw [zq0x]; exact hi)] at e1
        obtain ⟨_, _, _, z, _⟩ := isDs_at hd e1
        cases z
      · rw [zq38x (by rw [zq0x]; omega), zq35x] at e1
        split at e1 <;> cases e1
  · intro i j a f as c g cs hij e1
    rw [hρ] at e1
    cases i with
    | zero => simp at e1
    | succ i =>
      simp only [zq71x, zq65x] at e1
      by_cases hi : i < ds.length
      · rw [zq34x (by rw [zq0x]; exact hi)] at e1
        obtain ⟨_, _, _, z, _⟩ := isDs_at hd e1
        cases z
      · rw [zq38x (by rw [zq0x]; omega), zq35x] at e1
        split at e1 <;> cases e1
  · intro i j c t hij e1
    rw [hρ] at e1
    cases i with
    | zero => simp at e1
    | succ i =>
      simp only [zq71x, zq65x] at e1
      by_cases hi : i < ds.length
      · rw [zq34x (by rw [zq0x]; exact hi)] at e1
        obtain ⟨_, _, _, z, _⟩ := isDs_at hd e1
        cases z
      · rw [zq38x (by rw [zq0x]; omega), zq35x] at e1
        split at e1 <;> cases e1
  · rcases z with z | z
    · exact .inr (.inl z)
    · exact .inr (.inr (.inr z))
def lawG (b l : Addr) (H : Hp) : Gx := ⟨some (b, l), H, fun _ => False, []⟩
theorem law_wdS {a : Addr} {m : Nat} (hB : BagAt H b l) : Wd (lawG b l H) (fun _ => False) (.raw (.ref a) :: .bag :: List.replicate m .no) (some (.ref a) :: some (.ref b) :: List.replicate m none) H := by
  refine ⟨fun b' l' e => (by cases e; exact hB), fun _ z => z.elim, fun _ _ _ e => e, fun _ z => z.elim, fun _ z => z.elim, by simp, fun b' l' e => (by cases e; exact hB), fun _ m => (by cases m), fun i s e => ?_, ?_, ?_, ?_⟩
  · match i with
    | 0 => simp at e; subst e; exact ⟨_, rfl, rfl⟩
    | 1 => simp at e; subst e; exact ⟨some (.ref b), rfl, b, l, rfl, rfl⟩
    | i + 2 =>
      simp only [zq65x, zq35x] at e ⊢
      split at e
      · rename_i h; cases e; exact ⟨none, if_pos h, trivial⟩
      · cases e
  · intro i j a f as c g cs hij e1
    match i with
    | 0 => simp at e1
    | 1 => simp at e1
    | i + 2 =>
      simp only [zq65x, zq35x] at e1
      split at e1 <;> cases e1
  · intro i j a f as c g cs hij e1
    match i with
    | 0 => simp at e1
    | 1 => simp at e1
    | i + 2 =>
      simp only [zq65x, zq35x] at e1
      split at e1 <;> cases e1
  · intro i j c t hij e1
    match i with
    | 0 => simp at e1
    | 1 => simp at e1
    | i + 2 =>
      simp only [zq65x, zq35x] at e1
      split at e1 <;> cases e1
theorem Ev.lenRaw {G : Gx} {i : Nat} {a : Addr} {ns : List Int} {K : PySem.W.Frag} (e : ρ[i]? = some (.raw (.ref a))) (hS : SqL K G.H0 a (ns.map V.int)) (h : Φ true (.int ns.length)) : Ev G ρ (tCB (rLen K) (tCons (tVar i) tNil)) Φ := fun nb σ H Q W z => by
 obtain ⟨x, e1, h1⟩ := W.ok i _ e
 have h1 : x = some (.ref a) := h1
 subst h1
 have hS' : SqL K H a (ns.map V.int) := by
  rcases hS with hr | hk
  ·have hn : NB G.B a := fun b l hb z => by
    subst z
    obtain ⟨_, _, _, _, _, g1, _⟩ := W.gB _ _ hb
    rcases hr with hr | ⟨o, hr⟩
    ·rw [g1] at hr
     have := HO.lst.inj (zq36x hr)
     cases ns with
     | nil => cases this
     | cons n r => rw [zq4x] at this; cases (zq111x this).1
    ·rw [g1] at hr; cases hr
   rcases hr with hr | ⟨o, hr⟩
   ·exact .inl (.inl (W.old _ _ hn hr))
   ·exact .inl (.inr ⟨o, W.old _ _ hn hr⟩)
  ·exact .inr hk
 refine ⟨.ref a, e1, a, _, rfl, .inl hS', ?_⟩
 rw [zq0x]
 exact z true _ H _ h (.refl W.bag) (.int _)
theorem law_endsR {D : Ends} (h2 : ∀ H, D.rt (.bl true) H) : EndsOk (lawG b l H) { nx := fun _ => False, rt := fun _ d => d = .bool true } D :=
 ⟨fun _ _ _ _ q _ => q.elim, fun _ _ _ _ q _ => q.elim, fun _ _ _ _ q _ => q.elim, fun _ _ _ f v H d q _ hv => by subst q; unfold IsD at hv; subst hv; exact h2 H, fun _ _ _ _ _ q _ => q.elim⟩
end
namespace R
theorem di {P : Int -> Prop} {i : Int} (h : P i) : ∃ j, PyData.int i = .int j /\ P j := ⟨i, rfl, h⟩
theorem db {P : Bool -> Prop} {i : Bool} (h : P i) : ∃ j, PyData.bool i = .bool j /\ P j := ⟨i, rfl, h⟩
theorem dl {P : List PyData -> Prop} {i : List PyData} (h : P i) : ∃ j, PyData.list i = .list j /\ P j := ⟨i, rfl, h⟩
theorem dt {P : List PyData -> Prop} {i : List PyData} (h : P i) : ∃ j, PyData.tuple i = .tuple j /\ P j := ⟨i, rfl, h⟩
theorem dll {P : List PyData -> Prop} {i : List PyData} (h : P i) : ∃ j, (PyData.list i = .list j \/ PyData.list i = .tuple j) /\ P j := ⟨i, .inl rfl, h⟩
theorem dlt {P : List PyData -> Prop} {i : List PyData} (h : P i) : ∃ j, (PyData.tuple i = .list j \/ PyData.tuple i = .tuple j) /\ P j := ⟨i, .inr rfl, h⟩
theorem eqii {P : Bool -> Prop} {i j : Int} (h : P (decide (i = j))) : ∃ b, EqD (.int i) (.int j) b /\ P b := ⟨_, .ii i j, h⟩
theorem eqbb {P : Bool -> Prop} {x y : Bool} (h : P (x == y)) : ∃ b, EqD (.bool x) (.bool y) b /\ P b := ⟨_, .bb x y, h⟩
theorem at_ {ds : List PyData} {k : Int} {e : PyData} {P : PyData -> Prop} (h : atI ds k = some e) (q : P e) : ∃ e, atI ds k = some e /\ P e := ⟨e, h, q⟩
theorem lnil {A : Prop} (q : A) : ([] : List Fd).length <= 10000 /\ A := ⟨by decide, q⟩
theorem cnd {C A : Prop} (c : C) (q : A) : C /\ A := ⟨c, q⟩
end R
theorem spD_out {n : Nat} {F : DF} {vs : List V} {H : Hp} {Q : VK} {E : XK} (h : spD n F vs H Q E) : ∃ (nb : Addr -> Prop) (ds : List PyData) (Φ : Pd), Live nb H /\ IsDs nb H ds vs /\ (∀ f d v H', Φ f d -> Same H H' -> IsD (fun a => nb a \/ (f = true /\ H a ≠ none)) H' d v -> Q v H') /\ F ds Φ := by
 obtain ⟨_, nb, ds, h1, h2, h3⟩ := h
 exact ⟨nb, ds, _, h1, h2, fun f d v H' q => q v H', h3⟩
theorem spB_out {n : Nat} {F : DF} {vs : List V} {H : Hp} {Q : VK} {E : XK} (h : spB n F vs H Q E) : ∃ (b l : Addr) (ws : List V) (nb : Addr -> Prop) (ds : List PyData) (Φ : Pd), vs = .ref b :: ws /\ BagAt H b l /\ Live nb H /\ nb b /\ IsDs nb H ds ws /\ (∀ f d v H', Φ f d -> But (Nb b) H H' -> BagAt H' b l -> IsD (fun a => nb a \/ (f = true /\ H a ≠ none)) H' d v -> Q v H') /\ F ds Φ := by
 obtain ⟨_, b, l, ws, nb, ds, e, hB, h1, hb, h2, h3⟩ := h
 exact ⟨b, l, ws, nb, ds, _, e, hB, h1, hb, h2, fun f d v H' q => q v H', h3⟩
end L2
set_option maxRecDepth 100000
set_option maxHeartbeats 1000000
namespace L2
open PySem PySem.Spec PyProof.Rows
abbrev Prs := List (Int × Int)
abbrev Wo := List (Option Int)
abbrev prsD (prs : Prs) : PyData := .list (prs.map pairD)
abbrev woD (wd : Wo) : PyData := .list (wd.map optD)
abbrev netD (p n : Int) (cs : List Prs) : PyData := .tuple [.int p, .int n, .list (cs.map prsD)]
def PrsOk (prs : Prs) (m : Nat) : Prop := ∀ pr ∈ prs, 0 <= pr.1 /\ pr.1 < m /\ Sm pr.2
def WoOk (wd : Wo) : Prop := ∀ x, some x ∈ wd -> Sm x
theorem atI_nat' {α β : Type} {xs : List α} (φ : α -> β) {k : Int} {m : Nat} (h0 : 0 <= k) (h1 : k < m) (hm : m = xs.length) : ∃ x, xs[k.toNat]? = some x /\ atI (xs.map φ) k = some (φ x) := by
 have hk : k.toNat < xs.length := by omega
 exact ⟨xs[k.toNat], zq1x hk, atI_some h0 (by rw [zq6x, zq1x hk]; rfl)⟩
theorem map_at {α β : Type} {xs : List α} {φ : α -> β} {i : Nat} {d : β} (h : (xs.map φ)[i]? = some d) : ∃ x, xs[i]? = some x /\ d = φ x := by
 rw [zq6x] at h
 obtain ⟨x, hx, e⟩ := zq99x.mp h
 exact ⟨x, hx, e.symm⟩
theorem take_snoc {α : Type} {xs : List α} {i : Nat} {x : α} (h : xs[i]? = some x) : xs.take (i + 1) = xs.take i ++ [x] := by
 rw [zq165x, h]; rfl
theorem isN_opt (o : Option Int) : isN (optD o) = o.isNone := by cases o <;> rfl
end L2
set_option maxRecDepth 100000
set_option maxHeartbeats 4000000
namespace L2
open PySem PySem.Spec PyProof.Rows
structure Eu (p b L lt r t : Int) : Prop where
 l0 : 0 < L
 r0 : 0 <= r
 lp : L <= p
 rp : r <= p
 lc : ∃ k, L = lt * b + p * k
 rc : ∃ k, r = t * b + p * k
 dv : ∀ d, d ∣ L -> d ∣ r -> d ∣ p /\ d ∣ b % p
 sz : (t.natAbs : Int) * L + (lt.natAbs : Int) * r <= p
theorem Eu.start {p b : Int} (hp : 2 <= p) : Eu p b p 0 (b % p) 1 := by
 have m1 := zq21x b (show p ≠ 0 by omega)
 have m2 := zq22x b (show 0 < p by omega)
 refine ⟨by omega, m1, Int.le_refl _, by omega, ⟨1, by rw [zq100x, zq101x, zq152x]⟩, ⟨-(b / p), ?_⟩, fun d h1 h2 => ⟨h1, h2⟩, ?_⟩
 ·have := zq51x b p
  rw [zq166x, Int.mul_neg]
  omega
 ·show (1 : Int) * p + 0 * (b % p) <= p
  rw [zq166x, zq100x]
  omega
theorem Eu.tb {p b L lt r t : Int} (h : Eu p b L lt r t) : -p <= t /\ t <= p := by
 have h1 : (t.natAbs : Int) * 1 <= (t.natAbs : Int) * L := zq72x (by have := h.l0; omega) (by omega)
 have h2 : 0 <= (lt.natAbs : Int) * r := zq167x (by omega) h.r0
 have := h.sz
 omega
theorem Eu.next {p b L lt r t : Int} (h : Eu p b L lt r t) (hr : 0 < r) : Eu p b r t (L - L / r * r) (lt - L / r * t) /\ L - L / r * r < r := by
 have e := zq51x L r
 have m1 := zq21x L (show r ≠ 0 by omega)
 have m2 := zq22x L hr
 have e' : L - L / r * r = L % r := by rw [zq56x (L / r) r]; omega
 have q0 : 0 <= L / r := zq89x (by have := h.l0; omega) (by omega)
 obtain ⟨k1, c1⟩ := h.lc
 obtain ⟨k2, c2⟩ := h.rc
 refine ⟨⟨hr, by omega, h.rp, by have := h.rp; omega, h.rc, ⟨k1 - L / r * k2, ?_⟩, fun d d1 d2 => ?_, ?_⟩, by omega⟩
 ·rw [Int.sub_mul, zq66x]
  generalize L / r = q at *
  have z : q * r = q * (t * b) + q * (p * k2) := by rw [<- zq102x, <- c2]
  have z1 : q * (t * b) = q * t * b := (zq73x q t b).symm
  have z2 : q * (p * k2) = p * (q * k2) := by rw [<- zq73x, zq56x q p, zq73x]
  omega
 ·have dL : d ∣ L := by
   have z : d ∣ (L - L / r * r) + L / r * r := Int.dvd_add d2 (Int.dvd_mul_of_dvd_right d1)
   have z2 : (L - L / r * r) + L / r * r = L := by omega
   rwa [z2] at z
  exact h.dv d dL d1
 ·generalize L / r = q at *
  have a1 : ((lt - q * t).natAbs : Int) <= (lt.natAbs : Int) + q * (t.natAbs : Int) := by
   have b1 : (lt - q * t).natAbs <= lt.natAbs + (q * t).natAbs := by omega
   have b2 : ((q * t).natAbs : Int) = q * (t.natAbs : Int) := by
    rw [zq168x]
    have : (q.natAbs : Int) = q := by omega
    rw [Int.natCast_mul, this]
   omega
  have a2 : ((lt - q * t).natAbs : Int) * r <= ((lt.natAbs : Int) + q * (t.natAbs : Int)) * r := zq128x a1 (by omega)
  have a3 : ((lt.natAbs : Int) + q * (t.natAbs : Int)) * r = (lt.natAbs : Int) * r + q * (t.natAbs : Int) * r := zq103x _ _ _
  have a4 : (t.natAbs : Int) * (L - q * r) = (t.natAbs : Int) * L - q * (t.natAbs : Int) * r := by
   rw [zq66x, <- zq73x, zq56x (t.natAbs : Int) q]
  have := h.sz
  omega
theorem ln1 {α : Type} {us : List α} (h : us.length = 1) : ∃ a, us = [a] := by
  cases us with
  | nil => cases h
  | cons a us =>
    cases us with
    | nil => exact ⟨a, rfl⟩
    | cons _ _ => cases h
theorem ln2 {α : Type} {us : List α} (h : us.length = 2) : ∃ a b, us = [a, b] := by
  cases us with
  | nil => cases h
  | cons a us =>
    obtain ⟨b, rfl⟩ := ln1 (us := us) (zq169x h)
    exact ⟨a, b, rfl⟩
theorem ln3 {α : Type} {us : List α} (h : us.length = 3) : ∃ a b c, us = [a, b, c] := by
  cases us with
  | nil => cases h
  | cons a us =>
    obtain ⟨b, c, rfl⟩ := ln2 (us := us) (zq169x h)
    exact ⟨a, b, c, rfl⟩
theorem ln4 {α : Type} {us : List α} (h : us.length = 4) : ∃ a b c d, us = [a, b, c, d] := by
  cases us with
  | nil => cases h
  | cons a us =>
    obtain ⟨b, c, d, rfl⟩ := ln3 (us := us) (zq169x h)
    exact ⟨a, b, c, d, rfl⟩
end L2
set_option maxRecDepth 100000
set_option maxHeartbeats 1000000
set_option maxRecDepth 100000
set_option maxHeartbeats 4000000
set_option maxRecDepth 100000
set_option maxHeartbeats 4000000
namespace L2
open PySem PySem.Spec PyProof.Rows
section
variable {prog : Program} {w : World} {A : Around} {R : Result -> Shared -> Prop} {I : Addr} {fp wr : List Addr} {G : Array GenState -> Array GenState -> Prop} {n : Nat} {P : Nat -> Value -> Prop} {St : Nat -> Shared -> Prop} {bt : Bool}
abbrev met (val : Nat -> Int) (i : Nat) : Int -> Bool := fun k => (firstMet val i).any (· == k)
end
end L2
set_option maxRecDepth 100000
set_option maxHeartbeats 4000000
set_option maxRecDepth 100000
set_option maxHeartbeats 4000000
set_option maxRecDepth 100000
set_option maxHeartbeats 4000000
set_option maxRecDepth 100000
set_option maxHeartbeats 4000000
set_option maxRecDepth 100000
set_option maxHeartbeats 4000000
namespace L2
open PySem PySem.Spec PyProof.Rows
theorem vals_intsA : ∀ {ns : List Int} {us : List Value}, Vals (ns.map V.int) us -> IntsAre us ns
  | [], _, .nil => .nil
  | n :: ns, _, .cons r t => by
    obtain ⟨k, rfl⟩ := r
    exact .cons n k (vals_intsA t)
theorem ints_vals : ∀ {us : List Value} {ns : List Int}, IntsAre us ns -> Vals (ns.map V.int) us
 | _, _, .nil => .nil
 | _, _, .cons k t h => .cons ⟨t, rfl⟩ (ints_vals h)
theorem nodup_below {ms : List Int} {m : Int} (nd : ms.Nodup) (h : ∀ k ∈ ms, 0 <= k /\ k < m) : ms.length <= m.toNat := by
 have := zq170x nd (l₂ := (List.range m.toNat).map fun (i : Nat) => (i : Int)) fun k hk => by
  have := h k hk
  exact zq17x.mpr ⟨k.toNat, zq29x.mpr (by omega), by omega⟩
 rwa [zq0x, zq74x] at this
end L2
set_option maxRecDepth 100000
set_option maxHeartbeats 4000000
set_option maxRecDepth 100000
set_option maxHeartbeats 4000000
set_option maxRecDepth 100000
set_option maxHeartbeats 4000000
set_option maxRecDepth 100000
set_option maxHeartbeats 4000000
set_option maxRecDepth 100000
set_option maxHeartbeats 4000000
set_option maxRecDepth 100000
set_option maxHeartbeats 4000000
set_option maxRecDepth 100000
set_option maxHeartbeats 4000000
set_option maxRecDepth 100000
set_option maxHeartbeats 4000000
set_option maxRecDepth 100000
set_option maxHeartbeats 4000000
set_option maxRecDepth 100000
set_option maxHeartbeats 4000000
set_option maxRecDepth 100000
set_option maxHeartbeats 4000000
set_option maxRecDepth 100000
set_option maxHeartbeats 4000000
namespace L2
open PySem PySem.Spec PyProof.Rows
def rRange1 : List V -> Hp -> VK -> Prop := fun xs H Q => ∃ j : Int, xs = [.int j] /\ ∀ a, H a = none -> Q (.ref a) (upd H a (.rng 0 j))
def rListR : List V -> Hp -> VK -> Prop := fun xs H Q => ∃ (a : Addr) (lo hi : Int), xs = [.ref a] /\ H a = some (.rng lo hi) /\ (-10000 <= lo /\ lo <= 10000 /\ -10000 <= hi /\ hi <= 10000) /\ ∀ l, H l = none -> Q (.ref l) (upd H l (.lst (((List.range (hi - lo).toNat).map fun (i : Nat) => lo + (i : Int)).map V.int)))
def rSum (K : PySem.W.Frag) : List V -> Hp -> VK -> Prop := fun xs H Q => ∃ p, ∃ ns : List Int, xs = [.ref p] /\ SqL K H p (ns.map V.int) /\ Q (.int ns.sum) H
def rAll (K : PySem.W.Frag) : List V -> Hp -> VK -> Prop := fun xs H Q => ∃ p, ∃ bs : List Bool, xs = [.ref p] /\ SqL K H p (bs.map V.bl) /\ Q (.bl (bs.all id)) H
section
variable {X : Cx}
theorem call_rangeM : CallR X (.type "range") rRange1 := by
 intro pins s σ H xs us Q I rv h
 obtain ⟨j, rfl, q⟩ := h
 obtain ⟨u, rfl, ru⟩ := vals1 rv
 obtain ⟨t, rfl⟩ := ru
 refine call_range_1 ?_
 exact ⟨.ref s.heap.objs.size, _, I.laid (t' := s.toks + 1 + 1) (o := .rng 0 j) (fun b o e => zq33x _ e) (zq5x _) ⟨_, _, _, zq42x _ rfl⟩, rfl, q _ (I.hok.fresh (zq5x _))⟩
theorem call_listR (hc : X.calm = true) : CallR X (.type "list") rListR := by
  intro pins s σ H xs us Q I rv h
  obtain ⟨a, lo, hi, rfl, hH, hb, q⟩ := h
  obtain ⟨u, rfl, ru⟩ := vals1 rv
  cases ru
  obtain ⟨t, u, v, e⟩ := (show ObjOk X.prog X.w H s.heap a (.rng lo hi) from I.hok a _ hH)
  refine call_list_range (n := (hi - lo).toNat) (I.ok.hd hc) (show IsRange s.heap a lo hi 1 t u v from e) (small_one (by omega) (by omega) (by omega) (by omega)) (rangeSize_nat lo hi) (by omega) fun h' tk acc c' kp hl hi' => ?_
  have vv : Vals (((List.range (hi - lo).toNat).map fun (i : Nat) => lo + (i : Int)).map V.int) acc.toList := by
    have key : ∀ (n : Nat) (l : List Value), l.length = n -> ∀ b : Int, (∀ (j : Nat) (v : Value), l[j]? = some v -> ∃ t, v = Value.int (b + (j : Int)) t) -> Vals (((List.range n).map fun (i : Nat) => b + (i : Int)).map V.int) l := by
      intro n
      induction n with
      | zero => intro l hl b _; rw [zq113x.mp hl]; exact .nil
      | succ n ih =>
        intro l hl b hv
        cases l with
        | nil => cases hl
        | cons x r =>
          obtain ⟨t, e⟩ := hv 0 x rfl
          rw [zq208x, zq4x, zq4x]
          refine .cons ⟨t, by simpa using e⟩ ?_
          have := ih r (by simpa using hl) (b + 1) (fun j v e => by
            obtain ⟨t, z⟩ := hv (j + 1) v (by simpa using e)
            exact ⟨t, by rw [z]; congr 1; omega⟩)
          rw [zq67x] at this ⊢
          rw [zq67x]
          have e : ∀ i : Nat, ((V.int ∘ fun (i : Nat) => b + (i : Int)) ∘ Nat.succ) i = (V.int ∘ fun (i : Nat) => b + 1 + (i : Int)) i := fun i => by
            show V.int (b + ((i + 1 : Nat) : Int)) = V.int (b + 1 + (i : Int)); congr 1; omega
          rw [zq68x fun i _ => e i]
          exact this
    refine key _ _ (by rw [zq79x]; exact hi'.1) lo fun j v e => ?_
    obtain ⟨t, z⟩ := hi'.2 j v (by rw [<- zq164x]; exact e)
    exact ⟨t, by rw [z]; congr 1; omega⟩
  refine ⟨.ref s.heap.objs.size, _, I.laid (t' := tk) (o := .lst (((List.range (hi - lo).toNat).map fun (i : Nat) => lo + (i : Int)).map V.int)) kp (zq5x _) ⟨?_, acc.toList, c', vv, by simpa using hl⟩, rfl, q _ (I.hok.fresh (zq5x _))⟩
  rw [zq0x, zq0x, zq74x]
  exact zq28x (show (hi - lo).toNat <= 20000 by omega) (by decide)
theorem call_sumM (hc : X.calm = true) : CallR X (.builtin "sum") (rSum X.K) := by
 intro pins s σ H xs us Q I rv h
 obtain ⟨p, ns, rfl, hp, q⟩ := h
 obtain ⟨u, rfl, ru⟩ := vals1 rv
 cases ru
 obtain ⟨its, rs, il, hz⟩ := I.list hp
 have hI := vals_intsA rs
 obtain ⟨ys, e⟩ := hI.allInts.items
 have hn := hI.numsOf
 refine sum_intListG (xs := ys) (I.ok.hd hc) (by rw [<- e]; exact il.isList) fun h' tk t' kp => ?_
 have e2 : preSum (numAt ys) ys.size = ns.sum := by
  rw [preSum_eq, zq114x (by simp), <- nums_intItems, <- e, <- hn]
 rw [e2]
 exact ⟨.int ns.sum, H, I.kept kp, ⟨_, rfl⟩, q⟩
theorem call_allM (hc : X.calm = true) : CallR X (.builtin "all") (rAll X.K) := by
  intro pins s σ H xs us Q I rv h
  obtain ⟨p, bs, rfl, hp, q⟩ := h
  obtain ⟨u, rfl, ru⟩ := vals1 rv
  cases ru
  obtain ⟨its, rs, il, hz⟩ := I.list hp
  have hl := rs.length
  have hv : ∀ (i : Nat) (v : Value), its.toArray[i]? = some v -> v = .bool (bs.getD i false) := fun i v e => by
    have hi : i < bs.length := by
      have := (Array.getElem?_eq_some_iff.mp e).1
      rw [zq0x] at hl
      simp at this; omega
    obtain ⟨u, hu, ru⟩ := rs.get (i := i) (x := .bl bs[i]) (by rw [zq6x, zq1x hi]; rfl)
    rw [List.getElem?_toArray, hu] at e
    cases e
    rw [zq3x, zq1x hi]
    exact ru
  have ll := il.isList
  have hlt : p < s.heap.objs.size := by obtain ⟨o, e, _⟩ := ll; exact zq12x e
  refine call_all_walk (wpAny_pyIter_list ll ⟨s.heap.objs.size, _, _, _, _, _, fun i => bs.getD i false, rfl, Walks.list (A := X.A.in1) (I.ok.hd hc) _ p (zq32x hlt) its.toArray, ⟨⟨_, zq42x _ rfl, rfl, rfl⟩, ll.push _⟩, fun i v s Q E hP hQ => ?_, fun h' tk kp => ?_⟩)
  · rw [hv i v hP]; exact wpAny_truthy_bool hQ
  · have e : (List.range its.toArray.size).all (fun i => bs.getD i false) = bs.all id := by
      have hs : its.toArray.size = bs.length := by rw [zq0x] at hl; simp; omega
      rw [hs]
      clear hv hl rs q hp hs hz
      induction bs with
      | nil => rfl
      | cons b r ih =>
        rw [zq39x, zq208x, zq81x, zq81x, List.all_map]
        simpa [Function.comp_def] using congrArg (b && ·) ih
    rw [e]
    refine ⟨.bl (bs.all id), H, I.kept fun b o q => kp b o (fun m => ?_) (zq33x _ q), rfl, q⟩
    have := zq8x.mp m
    rw [this] at q
    exact absurd (zq12x q) (zq58x _)
end
section
variable {G : Gx} {ρ : Rh} {te : TE} {K : PySem.W.Frag} {Φ : Pd}
theorem EvN.listRange {Θ : Bool -> List PyData -> Prop} (h : Ev G ρ te fun _ x => ∃ n : Int, x = .int n /\ -10000 <= n /\ n <= 10000 /\ Θ true (((List.range n.toNat).map fun (i : Nat) => (0 : Int) + (i : Int)).map .int)) : EvN G ρ (tCB rListR (tCons (tCB rRange1 (tCons te tNil)) tNil)) Θ := fun nb σ H Q W z =>
 h nb σ H _ W fun f v H1 x ⟨n, ex, h1, h2, q⟩ s1 hv => by
  subst ex
  rw [hv.ofI]
  refine ⟨n, rfl, fun a ha => ⟨a, 0, n, rfl, upd_same, by omega, fun l hl => ?_⟩⟩
  rw [zq129x]
  exact EvN.fin (f := true) W (s1.trans (.same s1.2 (same_new ha))) hl (isDs_intsL _) q z
theorem Ev.sum (h : Ev G ρ te fun _ x => ∃ ns : List Int, x = .list (ns.map .int) /\ Φ true (.int ns.sum)) : Ev G ρ (tCB (rSum K) (tCons te tNil)) Φ := fun nb σ H Q W z =>
 h nb σ H _ W fun f v H1 x ⟨ns, ex, q⟩ s1 hv => by
  subst ex
  obtain ⟨a, xs, rfl, na, hx, hd⟩ := hv.ofL
  have e := isDs_ints_eq hd
  subst e
  exact ⟨a, ns, rfl, .of hx, z true _ H1 _ q s1 (.int _)⟩
theorem isDs_bools_eq {nb : Addr -> Prop} {H : Hp} : ∀ {is : List Bool} {xs : List V}, IsDs nb H (is.map PyData.bool) xs -> xs = is.map V.bl
  | [], _, h => by unfold List.map IsDs at h; exact h
  | i :: is, _, h => by
    rw [zq4x] at h
    unfold IsDs at h
    obtain ⟨y, ys, rfl, h1, h2⟩ := h
    unfold IsD at h1
    rw [zq4x, h1, isDs_bools_eq h2]
theorem Ev.all (h : Ev G ρ te fun _ x => ∃ bs : List Bool, x = .list (bs.map .bool) /\ Φ true (.bool (bs.all id))) : Ev G ρ (tCB (rAll K) (tCons te tNil)) Φ := fun nb σ H Q W z =>
 h nb σ H _ W fun f v H1 x ⟨bs, ex, q⟩ s1 hv => by
  subst ex
  obtain ⟨a, xs, rfl, na, hx, hd⟩ := hv.ofL
  have e := isDs_bools_eq hd
  subst e
  exact ⟨a, bs, rfl, .of hx, z true _ H1 _ q s1 (.bl _)⟩
end
end L2
set_option maxRecDepth 100000
set_option maxHeartbeats 4000000
namespace L2
open PySem PySem.Spec PyProof.Rows
def isiD : PyData -> String -> Bool
 | .bool _, T => T == "bool" || T == "int"
 | .int _, T => T == "int"
 | .str _, T => T == "str"
 | .list _, T => T == "list"
 | .tuple _, T => T == "tuple"
 | _, _ => false
def tyD : PyData -> String
 | .none => "NoneType" | .bool _ => "bool" | .int _ => "int" | .str _ => "str" | .list _ => "list" | .tuple _ => "tuple" | .dict _ => "dict"
theorem isi_list (ds : List PyData) : isiD (.list ds) "list" = true /\ isiD (.list ds) "tuple" = false := ⟨rfl, rfl⟩
theorem isi_tuple (ds : List PyData) : isiD (.tuple ds) "list" = false /\ isiD (.tuple ds) "tuple" = true := ⟨rfl, rfl⟩
theorem tyD_of {K : PySem.W.Frag} {nb : Addr -> Prop} {H : Hp} {d : PyData} {v : V} (h : IsD nb H d v) : TyOf K H v (.type (tyD d)) := by
 cases d <;> unfold IsD at h
 ·subst h; exact .non
 ·subst h; exact .bl _
 ·subst h; exact .int _
 ·subst h; exact .str _
 ·obtain ⟨a, xs, rfl, _, e, _⟩ := h; exact .lst e
 ·obtain ⟨a, xs, rfl, _, e, _⟩ := h; exact .tup e
 ·obtain ⟨a, xs, rfl, _, e, _⟩ := h; exact e.elim .dK fun ⟨_, e⟩ => .fzd e
def five (T : String) : Prop := T = "int" \/ T = "bool" \/ T = "list" \/ T = "tuple" \/ T = "str"
theorem kit_of {K : PySem.W.Frag} {d : PyData} {T : String} (hT : five T) : PySem.W.kitOne K (.type (tyD d)) (.type T) = some (isiD d T) := by
 rcases hT with rfl | rfl | rfl | rfl | rfl <;> cases d <;> (with_unfolding_all rfl)
theorem kit_any {K : PySem.W.Frag} {d : PyData} : ∀ {Ts : List String}, (∀ T ∈ Ts, five T) -> PySem.W.kitAny K (.type (tyD d)) (Ts.map Value.type) = some (Ts.any (isiD d))
  | [], _ => rfl
  | T :: r, h => by
    rw [zq4x]
    unfold PySem.W.kitAny
    rw [kit_of (h T (zq19x ..)), zq64x]
    cases isiD d T with
    | true => rfl
    | false => exact kit_any fun T m => h T (zq23x _ m)
def rIsiT : List V -> Hp -> VK -> Prop := fun xs H Q => ∃ (x : V) (tp : Addr) (Ts : List String) (nb : Addr -> Prop) (d : PyData), xs = [x, .ref tp] /\ H tp = some (.tup (Ts.map V.ty)) /\ IsD nb H d x /\ (∀ T ∈ Ts, five T) /\ Q (.bl (Ts.any (isiD d))) H
theorem vals_ty : ∀ {Ts : List String} {us : List Value}, Vals (Ts.map V.ty) us -> us = Ts.map Value.type
 | [], _, .nil => rfl
 | T :: r, _, .cons h t => by rw [zq4x, vals_ty t, show _ = Value.type T from h]
section
variable {X : Cx}
theorem call_isiT : CallR X (.builtin "isinstance") rIsiT := by
 intro pins s σ H xs us Q I rv h
 obtain ⟨x, tp, Ts, nb, d, rfl, ht, hd, h5, q⟩ := h
 obtain ⟨u, v, rfl, ru, rv⟩ := rv.two
 cases (show v = Value.ref tp from rv)
 obtain ⟨_, its, vt, o, ho, hc, n, hdat⟩ := (show ObjOk X.prog X.w H s.heap tp (.tup (Ts.map V.ty)) from I.hok tp _ ht)
 have e := vals_ty vt
 subst e
 obtain ⟨c0, d0, dt, sl⟩ := o
 dsimp only at hc hdat
 subst hc hdat
 have fin : ∀ tk, EP X pins σ Q (.bool (Ts.any (isiD d))) { s with toks := tk } := fun tk => ⟨.bl _, H, I.tok tk, rfl, q⟩
 have ka := kit_any (K := X.K) (d := d) h5
 cases d <;> unfold IsD at hd
 ·subst hd; cases (show u = Value.none from ru); exact zq90x PySem.W.kitx_none I.kIn True.intro ho ka (fun z => nomatch z) fin
 ·subst hd; cases (show u = Value.bool _ from ru); exact zq90x PySem.W.kitx_bool I.kIn True.intro ho ka (fun z => nomatch z) fin
 ·subst hd; obtain ⟨t, rfl⟩ := (show ∃ t, u = Value.int _ t from ru); exact zq90x PySem.W.kitx_int I.kIn True.intro ho ka (fun z => nomatch z) fin
 ·subst hd; obtain ⟨t, rfl⟩ := (show ∃ t, u = Value.str _ t from ru); exact zq90x PySem.W.kitx_str I.kIn True.intro ho ka (fun z => nomatch z) fin
 ·obtain ⟨a, ys, rfl, _, ea, _⟩ := hd
  cases (show u = Value.ref a from ru)
  obtain ⟨_, _, n, _, h1⟩ := (show ObjOk X.prog X.w H s.heap a (.lst ys) from I.hok a _ ea)
  exact zq90x zq157x I.kIn ⟨_, h1, rfl⟩ ho ka (fun z => nomatch z) fin
 ·obtain ⟨a, ys, rfl, _, ea, _⟩ := hd
  cases (show u = Value.ref a from ru)
  obtain ⟨_, _, _, o', h1, h2, _⟩ := (show ObjOk X.prog X.w H s.heap a (.tup ys) from I.hok a _ ea)
  exact zq90x PySem.W.kitx_tuple I.kIn ⟨o', h1, h2⟩ ho ka (fun z => nomatch z) fin
 ·obtain ⟨a, ys, rfl, _, ea, _⟩ := hd
  cases (show u = Value.ref a from ru)
  obtain ⟨_, _, vs, _, dd⟩ := (show ObjOk X.prog X.w H s.heap a (.dK ys) from ea.ok I.hok)
  exact zq90x zq125x I.kIn dd.typeIs ho ka (fun z => nomatch z) fin
end
section
variable {G : Gx} {ρ : Rh} {ta tb te : TE} {K : PySem.W.Frag} {Φ : Pd} {T U : String}
theorem Ev.isi (hT : five T) (h : Ev G ρ te fun _ x => Φ true (.bool (isiD x T))) : Ev G ρ (tCB (rIsi K) (tCons te (tCons (tC (.ty T)) tNil))) Φ := fun nb σ H Q W z =>
 h nb σ H _ W fun f v H1 d q s1 hv => ⟨v, T, _, _, rfl, tyD_of hv, kit_of hT, z true _ H1 _ q s1 (.bl _)⟩
theorem Ev.isi2 (hT : five T) (hU : five U) (h : Ev G ρ te fun _ x => Φ true (.bool (isiD x T || isiD x U))) : Ev G ρ (tCB rIsiT (tCons te (tCons (tTup (tCons (tC (.ty T)) (tCons (tC (.ty U)) tNil))) tNil))) Φ := fun nb σ H Q W z =>
 h nb σ H _ W fun f v H1 d q s1 hv => by
  refine ⟨by show 2 <= sizeLine; decide, fun p hp => ⟨v, p, [T, U], G.S nb f, d, rfl, upd_same, hv.keep (But.of (same_new hp)), fun S m => ?_, ?_⟩⟩
  ·rcases zq2x.mp m with e | m
   ·rw [e]; exact hT
   ·rw [zq8x.mp m]; exact hU
  ·rw [zq64x, zq64x, List.any_nil, zq96x]
   exact z true _ _ _ q (s1.trans (.same s1.2 (same_new hp))) (.bl _)
theorem Ev.lenS (h : Ev G ρ te fun _ x => ∃ ds, (x = .list ds \/ x = .tuple ds) /\ Φ true (.int ds.length)) : Ev G ρ (tCB (rLen K) (tCons te tNil)) Φ := fun nb σ H Q W z =>
 h nb σ H _ W fun f v H1 d ⟨ds, e, q⟩ s1 hv => by
  rcases e with e | e
  ·subst e
   obtain ⟨a, xs, rfl, n, hx, hd⟩ := hv.ofL
   exact ⟨a, xs, rfl, .inl (.of hx), by rw [hd.length]; exact z true _ H1 _ q s1 (.int _)⟩
  ·subst e
   obtain ⟨a, xs, rfl, n, hx, hd⟩ := hv.ofT
   exact ⟨a, xs, rfl, .inr (.of hx), by rw [hd.length]; exact z true _ H1 _ q s1 (.int _)⟩
theorem Ev.ixS (h : Ev G ρ ta fun f x => ∃ ds, (x = .list ds \/ x = .tuple ds) /\ Ev G ρ tb fun _ y => ∃ k, y = .int k /\ ∃ e, atI ds k = some e /\ Φ f e) : Ev G ρ (tOp (rIx K) ta tb) Φ :=
 Ev.op2 (h.mono fun f x ⟨ds, ex, q⟩ => q.mono fun g y ⟨k, ey, e, he, p⟩ nb σ H u v Q W hu hv z => by
  subst ey
  rcases ex with ex | ex
  ·subst ex
   obtain ⟨a, xs, rfl, n, hx, hd⟩ := hu.ofL
   obtain ⟨w, hw, hD⟩ := hd.atI he
   exact .inl ⟨a, xs, k, w, rfl, hv.ofI, .of hx, hw, z f _ H _ p (.refl W.bag) hD⟩
  ·subst ex
   obtain ⟨a, xs, rfl, n, hx, hd⟩ := hu.ofT
   obtain ⟨w, hw, hD⟩ := hd.atI he
   exact .inr (.inl ⟨a, xs, k, w, rfl, hv.ofI, .of hx, hw, z f _ H _ p (.refl W.bag) hD⟩))
end
theorem Callee.void {P : Program} {w : World} {K : PySem.W.Frag} {mg : Str -> Option Value} {base : Heap} {x : Str} {st : Stmt} {k : Nat} {ps : List Str} {sp : Sp} {f : Addr} {fd : FuncData} (F : Fun K x x st f fd) (b : Binds K fd ps []) (m : mg x = some (.ref f)) (hv : ∀ vs H Q E, ¬ sp vs H Q E) : Callee P w K mg base x k ps sp :=
 ⟨f, fd, ⟨fun vs H Q E h => (hv vs H Q E h).elim, fun A outer s H args us vs Q E _ _ _ _ h => (hv vs H Q E h).elim⟩, b, F.kp, m⟩
end L2
set_option maxRecDepth 100000
set_option maxHeartbeats 4000000
namespace L2
open PySem PySem.Spec PyProof.Rows
section
variable {G : Gx} {ρ ρc : Rh} {te : TE} {gt : TG} {n i : Nat} {it : Nat -> PyData -> Prop} {fi : Bool} {Θ : Bool -> List PyData -> Prop} {E : DE}
theorem scAll_ints (os : List Int) : scAll (os.map PyData.int) = true := by
 unfold scAll
 rw [zq115x]
 intro x hx
 obtain ⟨y, _, rfl⟩ := zq17x.mp hx
 rfl
theorem CompD.ints (P : Int -> Prop) (ht : ∀ i d, it i d -> Gv G ρc gt fi d fun ρ1 => Wk ρc ρ1 /\ Ev G ρ1 te fun _ e => ∃ r : Int, e = .int r /\ P r) (h : ∀ os : List Int, os.length = n -> (∀ x ∈ os, P x) -> Θ true (os.map .int)) : CompD G ρc n it fi gt tNoTest te Θ := by
 refine ⟨false, fun i ds => ds.length = i /\ ∃ os : List Int, ds = os.map .int /\ ∀ x ∈ os, P x, ⟨rfl, [], rfl, fun _ h => nomatch h⟩, ?_, ?_⟩
 ·rintro i d ds hd hl ⟨hl2, os, rfl, ho⟩
  refine fun nb σ H v Q W hv z => ht i d hd nb σ H v Q W hv fun σ' ρ' ⟨w, q⟩ W' => z σ' ρ' ⟨w, Tv.noTest (iteT (q.mono fun f e ⟨r, ee, hr⟩ => ⟨fun z => (by cases z), ?_, os ++ [r], ?_, fun x hx => ?_⟩))⟩ W'
  ·rw [zq30x, zq60x, hl2]
  ·rw [ee]; simp
  ·rcases zq45x.mp hx with h | h
   ·exact ho x h
   ·rw [zq8x.mp h]; exact hr
 ·rintro ds hl ⟨hl2, os, rfl, ho⟩
  rw [scAll_ints, Bool.or_true]
  exact h os (by rw [zq0x] at hl2; exact hl2) ho
theorem CompD.rel {α : Type} (φ : α -> PyData) (fl : Bool) (P : Nat -> α -> Prop) (ht : ∀ i d, it i d -> Gv G ρc gt fi d fun ρ1 => Wk ρc ρ1 /\ Ev G ρ1 te fun f e => (fl = true -> f = true) /\ ∃ r : α, e = φ r /\ P i r)
  (h : ∀ os : List α, os.length = n -> (∀ (i : Nat) x, os[i]? = some x -> P i x) -> Θ (fl || scAll (os.map φ)) (os.map φ)) : CompD G ρc n it fi gt tNoTest te Θ := by
 refine ⟨fl, fun i ds => ds.length = i /\ ∃ os : List α, ds = os.map φ /\ ∀ (i : Nat) x, os[i]? = some x -> P i x, ⟨rfl, [], rfl, fun j x e => by simp at e⟩, ?_, ?_⟩
 ·rintro i d ds hd hl ⟨hl2, os, rfl, ho⟩
  refine fun nb σ H v Q W hv z => ht i d hd nb σ H v Q W hv fun σ' ρ' ⟨w, q⟩ W' => z σ' ρ' ⟨w, Tv.noTest (iteT (q.mono fun f e ⟨hf, r, ee, hr⟩ => ⟨hf, ?_, os ++ [r], ?_, fun j x hj => ?_⟩))⟩ W'
  ·rw [zq30x, zq60x, hl2]
  ·rw [ee]; simp
  ·rw [zq0x] at hl2
   rcases Nat.lt_trichotomy j os.length with h | h | h
   ·exact ho j x (by rwa [zq34x h] at hj)
   ·subst h
    simp at hj
    subst hj
    rw [hl2]; exact hr
   ·rw [zq40x (by rw [zq30x, zq60x]; omega)] at hj
    cases hj
 ·rintro ds hl ⟨hl2, os, rfl, ho⟩
  exact h os (by rw [zq0x] at hl2; exact hl2) ho
theorem Sv.asgNil (h : ∀ a, E.nx (ρ.set i (.own a true []))) : Sv G ρ (tAsg (tLst tNil) (gName i)) E := Sv.asgN (EvN.lst (Av.nil ⟨by decide, fun a => h a⟩))
end
def rIsB : R2 := fun x y H Q => ∃ a b : Bool, x = .bl a /\ y = .bl b /\ Q (.bl (a == b)) H
theorem Ev.isB {G : Gx} {ρ : Rh} {ta : TE} {b : Bool} {Φ : Pd} (h : Ev G ρ ta fun _ x => ∃ a, x = .bool a /\ Φ true (.bool (a == b))) : Ev G ρ (tOp rIsB ta (tC (.bl b))) Φ := fun nb σ H Q W z =>
 h nb σ H _ W fun f v H1 d ⟨a, e, q⟩ s1 hv => by
  subst e
  unfold IsD at hv
  subst hv
  exact ⟨a, b, rfl, rfl, z true _ H1 _ q s1 (.bl _)⟩
theorem pt_truthK {X : Cx} {K : PySem.W.Frag} {a : Expr} {ta : TE} (hK : X.K = K) (ha : PE X a ta) (he : ∀ whole, isTrue a X.env whole = (do let v <- whole; standAt a.pos; holding [v] (truthy v))) : PT X a (tTruth K ta) := by
 subst hK
 exact pt_truth ha he
theorem pg_tupM {X : Cx} {K : PySem.W.Frag} {es : List Expr} {k : Nat} {t : TGs} {n : Nat} {pos : Pos} (hK : X.K = K) (hc : X.calm = true) (h : PGs X es t) (hn : (assignEach es X.env).length = n := by rfl) (hst : (assignEach es X.env).findIdx? (·.1) = none := by rfl) : PG X (.Tuple es k pos) (gTup K n t) := by
 subst hK
 exact pg_tup hc h hn hst
theorem Sv.conseq {G : Gx} {ρ : Rh} {s : TS} {E : DE} (I : Rh -> Prop) (h : Sv G ρ s { E with nx := I }) (hI : ∀ ρ', I ρ' -> E.nx ρ') : Sv G ρ s E := fun nb σ H D W K => h nb σ H D W ⟨fun nb ρ σ H q W => K.nx nb ρ σ H (hI ρ q) W, K.bk, K.ct, K.rt, K.rw⟩
theorem pick {L : List Int} {k : Int} (h0 : 0 <= k) (h1 : k < L.length) (P : Int -> Prop) (hP : ∀ x ∈ L, P x) : ∃ x, atI (L.map PyData.int) k = some (.int x) /\ P x := by
 have hL : k.toNat < L.length := by omega
 exact ⟨L[k.toNat], atI_some h0 (by rw [zq6x, zq1x hL]; rfl), hP _ (zq11x hL)⟩
end L2
set_option maxRecDepth 100000
set_option maxHeartbeats 4000000
namespace L2
open PySem PySem.Spec PyProof.Rows
theorem cut_to {α : Type} {xs : List α} {k : Int} (h0 : 0 <= k) (h1 : k <= xs.length) : cutA xs none (some k) = xs.take k.toNat := by
 unfold cutA HT.sIx
 simp only [zq130x, zq171x]
 congr 1
 first | omega | (split <;> omega)
theorem dueSum_cons (a : Int × Int) (b : Prs) (wd : Wo) : dueSum (a :: b) wd = termOf wd a + dueSum b wd := by
 unfold dueSum; rw [zq4x, zq41x]
end L2
set_option maxRecDepth 100000
set_option maxHeartbeats 4000000
namespace L2
open PySem PySem.Spec PyProof.Rows
theorem eqvAll_ints : ∀ xs ys : List Int, PyData.eqvAll (xs.map PyData.int) (ys.map PyData.int) = decide (xs = ys)
  | [], [] => by simp [PyData.eqvAll]
  | [], y :: ys => by simp [PyData.eqvAll]
  | x :: xs, [] => by simp [PyData.eqvAll]
  | x :: xs, y :: ys => by
    simp only [zq4x, PyData.eqvAll, eqvAll_ints xs ys]
    have : PyData.eqv (.int x) (.int y) = decide (x = y) := by rw [zq62x]; simp [PyData.eqv]
    rw [this, zq62x]
    simp
theorem eqv_ints (xs ys : List Int) : PyData.eqv (.list (xs.map .int)) (.list (ys.map .int)) = decide (xs = ys) := by
 simp only [PyData.eqv]
 exact eqvAll_ints xs ys
theorem shaped_ints (xs : List Int) : SeqAt.shaped (.list (xs.map .int)) = true := by
 have h := shaped_word (xs.map some)
 have e : (xs.map some).map optD = xs.map PyData.int := by rw [zq67x]; rfl
 rw [e] at h
 unfold SeqAt.shaped
 simp [PyData.canLay0, PyData.depth, h.1, h.2]
theorem termOf_some {w : List Int} {pr : Int × Int} {x : Int} (h : w[pr.1.toNat]? = some x) : termOf (w.map some) pr = pr.2 * x := by
 unfold termOf
 rw [zq6x, h]; rfl
end L2
set_option maxRecDepth 100000
set_option maxHeartbeats 4000000
namespace L2
open PySem PySem.Spec PyProof.Rows
def tRev (K : PySem.W.Frag) (te : TE) (ts : TO) : TE := fun σ H Q => te σ H fun x H1 => ts σ H1 fun k H2 => k = some (-1) /\ ∃ a xs, x = .ref a /\ SqL K H2 a xs /\ ∀ p, H2 p = none -> Q (.ref p) (upd H2 p (.lst xs.reverse))
theorem IsDs.rev {nb : Addr -> Prop} {H : Hp} : ∀ {ds : List PyData} {xs : List V}, IsDs nb H ds xs -> IsDs nb H ds.reverse xs.reverse
  | [], xs, h => by unfold IsDs at h; subst h; exact .nil
  | d :: ds, xs, h => by
    unfold IsDs at h
    obtain ⟨y, ys, e, h1, h2⟩ := h
    subst e
    rw [List.reverse_cons, List.reverse_cons]
    exact IsDs.append (IsDs.rev h2) (.cons h1 .nil)
section
variable {G : Gx} {ρ : Rh} {Φ : Pd} {ta tb te : TE} {K : PySem.W.Frag}
theorem EvN.rev {ts : TO} {Θ : Bool -> List PyData -> Prop} (h : Ev G ρ te fun f x => ∃ ds, x = .list ds /\ Ov G ρ ts fun o => o = some (-1) /\ Θ (f || scAll ds.reverse) ds.reverse) : EvN G ρ (tRev K te ts) Θ := fun nb σ H Q W z =>
 h nb σ H _ W fun f v H1 d ⟨ds, e, q⟩ s1 hv => q nb σ H1 _ (W.step s1) fun o H2 ⟨eo, q2⟩ s2 => by
  subst e
  obtain ⟨a, xs, rfl, n, hx, hd⟩ := (hv.keep s2.butS).ofL
  exact ⟨eo, a, xs, rfl, .of hx, fun p hp => EvN.fin W (s1.trans s2) hp hd.rev q2 z⟩
theorem Ev.rev {ts : TO} (h : Ev G ρ te fun f x => ∃ ds, x = .list ds /\ Ov G ρ ts fun o => o = some (-1) /\ Φ (f || scAll ds.reverse) (.list ds.reverse)) : Ev G ρ (tRev K te ts) Φ := (EvN.rev (Θ := fun f ds => Φ f (.list ds)) h).ev
theorem op_inK {X : Cx} {K : PySem.W.Frag} (hK : X.K = K) : OpR X (compareOp .In) (rIn K false) := by subst hK; exact op_in_seq
theorem op_notInK {X : Cx} {K : PySem.W.Frag} (hK : X.K = K) : OpR X (compareOp .NotIn) (rIn K true) := by subst hK; exact op_notIn_seq
theorem Ev.inI {ng : Bool} (h : Ev G ρ ta fun _ x => ∃ k : Int, x = .int k /\ Ev G ρ tb fun _ y => ∃ ns : List Int, y = .list (ns.map .int) /\ Φ true (.bool (decide (k ∈ ns) != ng))) : Ev G ρ (tOp (rIn K ng) ta tb) Φ := fun nb σ H Q W z =>
 h nb σ H _ W fun f v H1 d ⟨k, e, q⟩ s1 hv => q nb σ H1 _ (W.step s1) fun g u H2 d2 ⟨ns, e2, p⟩ s2 hu => by
  subst e e2
  have hk := hv.ofI
  subst hk
  obtain ⟨a, xs, rfl, na, hx, hd⟩ := hu.ofL
  have ex := isDs_ints_eq hd
  subst ex
  refine ⟨a, ns.map V.int, rfl, .inl (.of hx), rfl, ?_, ?_⟩
  ·rw [zq115x]
   intro x hx
   obtain ⟨o, _, rfl⟩ := zq17x.mp hx
   rfl
  ·have e : inV (V.int k) (ns.map V.int) = decide (k ∈ ns) := by
    unfold inV
    rw [List.any_map, zq62x, zq172x, decide_eq_true_eq]
    constructor
    ·rintro ⟨o, m, h⟩
     have : o = k := eq_of_beq h
     exact this ▸ m
    ·intro m
     exact ⟨k, m, beq_self_eq_true k⟩
   have e2 : (if ng = true then !inV (V.int k) (ns.map V.int) else inV (V.int k) (ns.map V.int)) = (decide (k ∈ ns) != ng) := by
    rw [e]
    cases ng <;> simp
   rw [e2]
   exact z true _ H2 _ p (s1.trans s2) (.bl _)
end
end L2
set_option maxRecDepth 100000
set_option maxHeartbeats 1000000
namespace PC
def PrimeN (n : Nat) : Prop := 2 <= n /\ ∀ d, d ∣ n -> d = 1 \/ d = n
def tr (q : Nat) : Nat -> Nat -> Bool
 | 0, _ => false
 | f + 1, d => if q < d * d then true else if q % d = 0 then false else tr q f (d + 1)
theorem tr_no {q : Nat} : ∀ {f d : Nat}, tr q f d = true -> ∀ e, d <= e -> e * e <= q -> q % e ≠ 0
  | 0, _, h => by simp [tr] at h
  | f + 1, d, h => by
    intro e hde hee
    unfold tr at h
    by_cases h1 : q < d * d
    · have := Nat.mul_le_mul hde hde
      omega
    · rw [if_neg h1] at h
      by_cases h2 : q % d = 0
      · rw [if_pos h2] at h; cases h
      · rw [if_neg h2] at h
        by_cases h3 : d = e
        · rw [<- h3]; exact h2
        · exact tr_no h e (by omega) hee
theorem prime_of_no {q : Nat} (h2 : 2 <= q) (h : ∀ e, 2 <= e -> e * e <= q -> q % e ≠ 0) : PrimeN q := by
 refine ⟨h2, fun d hd => ?_⟩
 obtain ⟨e, he⟩ := hd
 by_cases d1 : d = 1
 ·exact .inl d1
 by_cases e1 : e = 1
 ·right; rw [he, e1, zq173x]
 exfalso
 have d0 : d ≠ 0 := fun z => by rw [z, zq174x] at he; omega
 have e0 : e ≠ 0 := fun z => by rw [z, Nat.mul_zero] at he; omega
 by_cases hle : d <= e
 ·refine h d (by omega) (by rw [he]; exact Nat.mul_le_mul_left d hle) ?_
  rw [he]; exact Nat.mul_mod_right d e
 ·refine h e (by omega) (by rw [he]; exact Nat.mul_le_mul_right e (by omega)) ?_
  rw [he]; exact Nat.mul_mod_left d e
theorem prime_tr (f : Nat) {q : Nat} (h2 : 2 <= q) (h : tr q f 2 = true) : PrimeN q := prime_of_no h2 (tr_no h)
def pw (N : Nat) : Nat -> Nat -> Nat -> Nat -> Nat
 | 0, _, _, acc => acc
 | f + 1, e, g, acc => pw N f (e / 2) (g * g % N) (if e % 2 = 1 then acc * g % N else acc)
theorem pw_eq {N : Nat} : ∀ (f e g acc : Nat), e < 2 ^ f -> pw N f e g acc % N = acc * g ^ e % N
  | 0, e, g, acc, h => by
    have : e = 0 := by simp at h; exact h
    subst this
    simp [pw]
  | f + 1, e, g, acc, h => by
    have h2 : e / 2 < 2 ^ f := by rw [Nat.pow_succ] at h; omega
    unfold pw
    rw [pw_eq f _ _ _ h2]
    have e2 : g ^ e = (g * g) ^ (e / 2) * g ^ (e % 2) := by
      conv => lhs; rw [<- zq175x e 2]
      rw [zq131x, Nat.pow_mul, Nat.pow_two]
    have m1 : (g * g % N) ^ (e / 2) % N = (g * g) ^ (e / 2) % N := (Nat.pow_mod _ _ _).symm
    rw [e2]
    by_cases ho : e % 2 = 1
    · rw [if_pos ho, ho, Nat.pow_one, zq75x, m1, zq176x, <- zq75x]
      congr 1
      rw [zq116x, zq97x g]
    · have ho' : e % 2 = 0 := by omega
      rw [if_neg ho, ho', Nat.pow_zero, zq173x, zq75x, m1, <- zq75x]
theorem exists_min {P : Nat -> Prop} : ∀ n, P n -> ∃ m, P m /\ ∀ k, k < m -> ¬ P k := by
  intro n
  induction n using Nat.strongRecOn with
  | _ n ih =>
    intro h
    by_cases hk : ∃ k, k < n /\ P k
    · obtain ⟨k, hk1, hk2⟩ := hk
      exact ih k hk1 hk2
    · exact ⟨n, h, fun k hk1 hk2 => hk ⟨k, hk1, hk2⟩⟩
theorem php : ∀ (n : Nat) (f : Nat -> Nat), (∀ i, i < n + 1 -> f i < n) -> ∃ i j, i < j /\ j < n + 1 /\ f i = f j
  | 0, f, h => absurd (h 0 (by omega)) (by omega)
  | n + 1, f, h => by
    by_cases he : ∃ i, i < n + 1 /\ f i = f (n + 1)
    · obtain ⟨i, h1, h2⟩ := he
      exact ⟨i, n + 1, h1, by omega, h2⟩
    · have hne : ∀ i, i < n + 1 -> f i ≠ f (n + 1) := fun i hi e => he ⟨i, hi, e⟩
      have hlast := h (n + 1) (by omega)
      obtain ⟨i, j, h1, h2, h3⟩ := php n (fun i => if f i = n then f (n + 1) else f i) (fun i hi => by
        have g1 := h i (by omega)
        have g2 := hne i hi
        by_cases c : f i = n
        · simp only [c, if_true]
          have : f (n + 1) ≠ n := fun z => g2 (c.trans z.symm)
          omega
        · simp only [c, if_false]
          omega)
      refine ⟨i, j, h1, by omega, ?_⟩
      have gi := hne i (by omega)
      have gj := hne j (by omega)
      by_cases ci : f i = n
      · by_cases cj : f j = n
        · rw [ci, cj]
        · simp only [ci, cj, if_true, if_false] at h3
          exact absurd h3.symm gj
      · by_cases cj : f j = n
        · simp only [ci, cj, if_true, if_false] at h3
          exact absurd h3 gi
        · simpa only [ci, cj, if_false] using h3
def lcms : List (Nat × Nat) -> Nat
 | [] => 1
 | qe :: r => Nat.lcm (qe.1 ^ qe.2) (lcms r)
theorem lcms_dvd {o : Nat} : ∀ {fs : List (Nat × Nat)}, (∀ qe ∈ fs, qe.1 ^ qe.2 ∣ o) -> lcms fs ∣ o
 | [], _ => ⟨o, by simp [lcms]⟩
 | qe :: r, h => Nat.lcm_dvd (h qe zq19x) (lcms_dvd fun x hx => h x (zq23x _ hx))
theorem coprime_of {q m : Nat} (hq : PrimeN q) (h : ¬ q ∣ m) : Nat.Coprime q m := by
 rcases hq.2 _ (Nat.gcd_dvd_left q m) with e | e
 ·exact e
 ·exact absurd (e ▸ Nat.gcd_dvd_right q m) h
theorem coprime_pow {q m : Nat} (h : Nat.Coprime q m) (e : Nat) : Nat.Coprime (q ^ e) m := Nat.Coprime.pow_left e h
theorem mm3 (a b c d : Nat) : (a % d) * (b % d) % d * (c % d) % d = a * b * c % d := by
 rw [<- zq75x a b, <- zq75x (a * b) c]
theorem order_big {N g d : Nat} {fs : List (Nat × Nat)} (hN : 2 <= N) (hd : d ∣ N) (d1 : 1 < d) (h1 : g ^ (N - 1) % N = 1 % N)
  (hq : ∀ qe ∈ fs, PrimeN qe.1 /\ qe.1 ^ qe.2 ∣ N - 1 /\ Nat.gcd (g ^ ((N - 1) / qe.1) % N + (N - 1)) N = 1) : lcms fs < d := by
 have down : ∀ {a b : Nat}, a % N = b % N -> a % d = b % d := fun {a b} e => by
  rw [<- zq177x a hd, e, zq177x b hd]
 have one : 1 % d = 1 := Nat.mod_eq_of_lt d1
 have f1 : g ^ (N - 1) % d = 1 := by rw [down h1, one]
 obtain ⟨o, ⟨o0, o1⟩, omin⟩ := exists_min (P := fun k => 0 < k /\ g ^ k % d = 1) (N - 1) ⟨by omega, f1⟩
 have per : ∀ q r : Nat, g ^ (o * q + r) % d = g ^ r % d := fun q r => by
  rw [zq131x, Nat.pow_mul, zq75x, Nat.pow_mod, o1, Nat.one_pow, one, zq178x, zq176x]
 have odvd : ∀ k, g ^ k % d = 1 -> o ∣ k := fun k hk => by
  have e := zq175x k o
  rw [<- e, per] at hk
  by_cases h0 : k % o = 0
  ·exact zq209x h0
  ·exact absurd ⟨by omega, hk⟩ (omin (k % o) (Nat.mod_lt _ o0))
 have od := odvd _ f1
 have parts : lcms fs ∣ o := lcms_dvd fun qe hqe => by
  obtain ⟨pq, ⟨c, hc⟩, gq⟩ := hq qe hqe
  obtain ⟨m, hm⟩ := od
  by_cases hqm : qe.1 ∣ m
  ·exfalso
   obtain ⟨m', hm'⟩ := hqm
   have q0 : 0 < qe.1 := by have := pq.1; omega
   have ek : (N - 1) / qe.1 = o * m' := by
    rw [hm, hm', show o * (qe.1 * m') = qe.1 * (o * m') by rw [<- zq116x, zq97x o, zq116x], Nat.mul_div_cancel_left _ q0]
   have e1 : g ^ ((N - 1) / qe.1) % d = 1 := by
    have := per m' 0
    rw [Nat.add_zero, Nat.pow_zero, one] at this
    rw [ek]; exact this
   have e2 : d ∣ g ^ ((N - 1) / qe.1) % N + (N - 1) := by
    have e3 : (g ^ ((N - 1) / qe.1) % N) % d = 1 := by rw [zq177x _ hd]; exact e1
    obtain ⟨k, hk⟩ := hd
    have e4 := zq175x (g ^ ((N - 1) / qe.1) % N) d
    rw [e3] at e4
    refine ⟨(g ^ ((N - 1) / qe.1) % N) / d + k, ?_⟩
    rw [Nat.mul_add, <- hk]
    omega
   have e5 := Nat.dvd_gcd e2 hd
   rw [gq] at e5
   have := zq179x (by omega) e5
   omega
  ·have cp := coprime_pow (coprime_of pq hqm) qe.2
   have hdv : qe.1 ^ qe.2 ∣ o * m := ⟨c, by rw [<- hm]; exact hc⟩
   exact cp.dvd_of_dvd_mul_right hdv
 have olt : o < d := by
  refine Nat.lt_of_not_le fun hle => ?_
  have unit : ∀ i, i <= N - 1 -> (g ^ i % d) * (g ^ (N - 1 - i) % d) % d = 1 := fun i hi => by
   rw [<- zq75x, <- zq131x, show i + (N - 1 - i) = N - 1 by omega]; exact f1
  have ole : o <= N - 1 := zq179x (by omega) od
  have pos : ∀ i, i < o -> 0 < g ^ i % d := fun i hi => by
   refine Nat.pos_of_ne_zero fun z => ?_
   have := unit i (by omega)
   rw [z, zq174x, Nat.zero_mod] at this
   cases this
  obtain ⟨i, j, h1, h2, h3⟩ := php (d - 1) (fun i => g ^ i % d - 1) (fun i hi => by
   have a1 := pos i (by omega)
   have a2 := Nat.mod_lt (g ^ i) (show d > 0 by omega)
   omega)
  have pi := pos i (by omega)
  have pj := pos j (by omega)
  have e : g ^ i % d = g ^ j % d := by omega
  have ej : g ^ j = g ^ i * g ^ (j - i) := by rw [<- zq131x, show i + (j - i) = j by omega]
  have u := unit i (by omega)
  have k1 : g ^ (j - i) % d = 1 := by
   have w : (g ^ i % d) * (g ^ (N - 1 - i) % d) % d * (g ^ (j - i) % d) % d = (g ^ j % d) * (g ^ (N - 1 - i) % d) % d := by
    rw [mm3, <- zq75x (g ^ j), ej]
    congr 1
    rw [zq116x, zq116x, zq97x (g ^ (N - 1 - i))]
   rw [u, zq178x, zq176x, <- e, u] at w
   exact w
  exact omin (j - i) (by omega) ⟨by omega, k1⟩
 exact Nat.lt_of_le_of_lt (zq179x o0 parts) olt
theorem pock {N g : Nat} (fs : List (Nat × Nat)) (hN : 2 <= N) (h1 : g ^ (N - 1) % N = 1 % N)
  (hq : ∀ qe ∈ fs, PrimeN qe.1 /\ qe.1 ^ qe.2 ∣ N - 1 /\ Nat.gcd (g ^ ((N - 1) / qe.1) % N + (N - 1)) N = 1) (hF : N < (lcms fs + 1) * (lcms fs + 1)) : PrimeN N := by
 refine ⟨hN, fun d hd => ?_⟩
 obtain ⟨e, he⟩ := id hd
 by_cases d1 : d = 1
 ·exact .inl d1
 by_cases e1 : e = 1
 ·right; rw [he, e1, zq173x]
 exfalso
 have d0 : d ≠ 0 := fun z => by rw [z, zq174x] at he; omega
 have e0 : e ≠ 0 := fun z => by rw [z, Nat.mul_zero] at he; omega
 have b1 := order_big hN hd (by omega) h1 hq
 have b2 := order_big hN ⟨d, by rw [he, zq97x]⟩ (show 1 < e by omega) h1 hq
 have := Nat.mul_le_mul (show lcms fs + 1 <= d from b1) (show lcms fs + 1 <= e from b2)
 omega
def chk (N g : Nat) (fs : List (Nat × Nat)) : Bool :=
 decide (2 <= N) && decide (N < 2 ^ 140) && (pw N 140 (N - 1) g 1 % N == 1) && fs.all (fun qe => ((N - 1) % qe.1 ^ qe.2 == 0) && (Nat.gcd (pw N 140 ((N - 1) / qe.1) g 1 % N + (N - 1)) N == 1)) && decide (N < (lcms fs + 1) * (lcms fs + 1))
theorem by_chk {N : Nat} (g : Nat) (fs : List (Nat × Nat)) (hp : ∀ qe ∈ fs, PrimeN qe.1) (h : chk N g fs = true) : PrimeN N := by
 unfold chk at h
 simp only [zq24x, decide_eq_true_eq, beq_iff_eq, zq115x] at h
 obtain ⟨⟨⟨⟨h1, h2⟩, h3⟩, h4⟩, h5⟩ := h
 have P : ∀ e, e <= N - 1 -> pw N 140 e g 1 % N = g ^ e % N := fun e he => by
  rw [pw_eq 140 e g 1 (by omega), zq178x]
 refine pock (g := g) fs h1 (by rw [<- P _ (zq5x _), h3, Nat.mod_eq_of_lt (by omega)]) (fun qe hqe => ?_) h5
 obtain ⟨g1, g2⟩ := h4 qe hqe
 refine ⟨hp qe hqe, zq209x g1, ?_⟩
 rw [<- P _ (Nat.div_le_self _ _)]
 exact g2
end PC
set_option maxRecDepth 100000
set_option maxHeartbeats 1000000
namespace PC
theorem pr_2 : PrimeN 2 := prime_tr 4 (by decide) (by decide +kernel)
theorem pr_3 : PrimeN 3 := prime_tr 4 (by decide) (by decide +kernel)
theorem pr_5 : PrimeN 5 := prime_tr 5 (by decide) (by decide +kernel)
theorem pr_7 : PrimeN 7 := prime_tr 5 (by decide) (by decide +kernel)
theorem pr_11 : PrimeN 11 := prime_tr 6 (by decide) (by decide +kernel)
theorem pr_101 : PrimeN 101 := prime_tr 13 (by decide) (by decide +kernel)
theorem pr_10007 : PrimeN 10007 := prime_tr 103 (by decide) (by decide +kernel)
theorem pr_65537 : PrimeN 65537 := prime_tr 259 (by decide) (by decide +kernel)
theorem pr_1000003 : PrimeN 1000003 := prime_tr 1003 (by decide) (by decide +kernel)
theorem pr_17 : PrimeN 17 := prime_tr 7 (by decide) (by decide +kernel)
theorem pr_998244353 : PrimeN 998244353 := by_chk 3 [(17, 1), (7, 1), (2, 23)] (fun qe h => by
 simp only [zq2x, zq18x, or_false] at h
 rcases h with rfl | rfl | rfl
 ·exact pr_17
 ·exact pr_7
 ·exact pr_2) (by decide +kernel)
theorem pr_148721 : PrimeN 148721 := prime_tr 388 (by decide) (by decide +kernel)
theorem pr_500000003 : PrimeN 500000003 := by_chk 2 [(148721, 1)] (fun qe h => by
 simp only [zq2x, zq18x, or_false] at h
 subst h; exact pr_148721) (by decide +kernel)
theorem pr_1000000007 : PrimeN 1000000007 := by_chk 2 [(500000003, 1)] (fun qe h => by
 simp only [zq2x, zq18x, or_false] at h
 subst h; exact pr_500000003) (by decide +kernel)
theorem pr_331 : PrimeN 331 := prime_tr 21 (by decide) (by decide +kernel)
theorem pr_151 : PrimeN 151 := prime_tr 15 (by decide) (by decide +kernel)
theorem pr_2147483647 : PrimeN 2147483647 := by_chk 3 [(331, 1), (151, 1)] (fun qe h => by
 simp only [zq2x, zq18x, or_false] at h
 rcases h with rfl | rfl
 ·exact pr_331
 ·exact pr_151) (by decide +kernel)
theorem pr_250049 : PrimeN 250049 := prime_tr 503 (by decide) (by decide +kernel)
theorem pr_26005097 : PrimeN 26005097 := by_chk 2 [(250049, 1)] (fun qe h => by
 simp only [zq2x, zq18x, or_false] at h
 subst h; exact pr_250049) (by decide +kernel)
theorem pr_1000000000039 : PrimeN 1000000000039 := by_chk 2 [(26005097, 1)] (fun qe h => by
 simp only [zq2x, zq18x, or_false] at h
 subst h; exact pr_26005097) (by decide +kernel)
theorem pr_234931 : PrimeN 234931 := prime_tr 487 (by decide) (by decide +kernel)
theorem pr_8740842787 : PrimeN 8740842787 := by_chk 2 [(234931, 1)] (fun qe h => by
 simp only [zq2x, zq18x, or_false] at h
 subst h; exact pr_234931) (by decide +kernel)
theorem pr_52445056723 : PrimeN 52445056723 := by_chk 2 [(8740842787, 1)] (fun qe h => by
 simp only [zq2x, zq18x, or_false] at h
 subst h; exact pr_8740842787) (by decide +kernel)
theorem pr_1000000000000000003 : PrimeN 1000000000000000003 := by_chk 2 [(52445056723, 1)] (fun qe h => by
 simp only [zq2x, zq18x, or_false] at h
 subst h; exact pr_52445056723) (by decide +kernel)
theorem pr_15331 : PrimeN 15331 := prime_tr 126 (by decide) (by decide +kernel)
theorem pr_2131 : PrimeN 2131 := prime_tr 49 (by decide) (by decide +kernel)
theorem pr_5594472617641 : PrimeN 5594472617641 := by_chk 2 [(15331, 1), (2131, 1)] (fun qe h => by
 simp only [zq2x, zq18x, or_false] at h
 rcases h with rfl | rfl
 ·exact pr_15331
 ·exact pr_2131) (by decide +kernel)
theorem pr_18446744073709551557 : PrimeN 18446744073709551557 := by_chk 2 [(5594472617641, 1)] (fun qe h => by
 simp only [zq2x, zq18x, or_false] at h
 subst h; exact pr_5594472617641) (by decide +kernel)
theorem pr_1321 : PrimeN 1321 := prime_tr 39 (by decide) (by decide +kernel)
theorem pr_61 : PrimeN 61 := prime_tr 10 (by decide) (by decide +kernel)
theorem pr_2305843009213693951 : PrimeN 2305843009213693951 := by_chk 3 [(1321, 1), (331, 1), (151, 1), (61, 1)] (fun qe h => by
 simp only [zq2x, zq18x, or_false] at h
 rcases h with rfl | rfl | rfl | rfl
 ·exact pr_1321
 ·exact pr_331
 ·exact pr_151
 ·exact pr_61) (by decide +kernel)
theorem pr_8707 : PrimeN 8707 := prime_tr 96 (by decide) (by decide +kernel)
theorem pr_1913 : PrimeN 1913 := prime_tr 46 (by decide) (by decide +kernel)
theorem pr_2931542417 : PrimeN 2931542417 := by_chk 3 [(8707, 1), (1913, 1)] (fun qe h => by
 simp only [zq2x, zq18x, or_false] at h
 rcases h with rfl | rfl
 ·exact pr_8707
 ·exact pr_1913) (by decide +kernel)
theorem pr_2113 : PrimeN 2113 := prime_tr 48 (by decide) (by decide +kernel)
theorem pr_683 : PrimeN 683 := prime_tr 29 (by decide) (by decide +kernel)
theorem pr_618970019642690137449562111 : PrimeN 618970019642690137449562111 := by_chk 3 [(2931542417, 1), (2113, 1), (683, 1)] (fun qe h => by
 simp only [zq2x, zq18x, or_false] at h
 rcases h with rfl | rfl | rfl
 ·exact pr_2931542417
 ·exact pr_2113
 ·exact pr_683) (by decide +kernel)
theorem pr_1097 : PrimeN 1097 := prime_tr 36 (by decide) (by decide +kernel)
theorem pr_131 : PrimeN 131 := prime_tr 14 (by decide) (by decide +kernel)
theorem pr_67254877 : PrimeN 67254877 := by_chk 2 [(1097, 1), (131, 1)] (fun qe h => by
 simp only [zq2x, zq18x, or_false] at h
 rcases h with rfl | rfl
 ·exact pr_1097
 ·exact pr_131) (by decide +kernel)
theorem pr_28059810762433 : PrimeN 28059810762433 := by_chk 3 [(67254877, 1)] (fun qe h => by
 simp only [zq2x, zq18x, or_false] at h
 subst h; exact pr_67254877) (by decide +kernel)
theorem pr_53 : PrimeN 53 := prime_tr 10 (by decide) (by decide +kernel)
theorem pr_37 : PrimeN 37 := prime_tr 9 (by decide) (by decide +kernel)
theorem pr_13 : PrimeN 13 := prime_tr 6 (by decide) (by decide +kernel)
theorem pr_20394401 : PrimeN 20394401 := by_chk 3 [(53, 1), (37, 1), (13, 1)] (fun qe h => by
 simp only [zq2x, zq18x, or_false] at h
 rcases h with rfl | rfl | rfl
 ·exact pr_53
 ·exact pr_37
 ·exact pr_13) (by decide +kernel)
theorem pr_162259276829213363391578010288127 : PrimeN 162259276829213363391578010288127 := by_chk 3 [(28059810762433, 1), (20394401, 1)] (fun qe h => by
 simp only [zq2x, zq18x, or_false] at h
 rcases h with rfl | rfl
 ·exact pr_28059810762433
 ·exact pr_20394401) (by decide +kernel)
theorem pr_699053 : PrimeN 699053 := prime_tr 839 (by decide) (by decide +kernel)
theorem pr_77158673929 : PrimeN 77158673929 := by_chk 3 [(699053, 1)] (fun qe h => by
 simp only [zq2x, zq18x, or_false] at h
 subst h; exact pr_699053) (by decide +kernel)
theorem pr_649657 : PrimeN 649657 := prime_tr 809 (by decide) (by decide +kernel)
theorem pr_92737 : PrimeN 92737 := prime_tr 307 (by decide) (by decide +kernel)
theorem pr_170141183460469231731687303715884105727 : PrimeN 170141183460469231731687303715884105727 := by_chk 3 [(77158673929, 1), (649657, 1), (92737, 1)] (fun qe h => by
 simp only [zq2x, zq18x, or_false] at h
 rcases h with rfl | rfl | rfl
 ·exact pr_77158673929
 ·exact pr_649657
 ·exact pr_92737) (by decide +kernel)
theorem pr_7963 : PrimeN 7963 := prime_tr 92 (by decide) (by decide +kernel)
theorem pr_3011 : PrimeN 3011 := prime_tr 57 (by decide) (by decide +kernel)
theorem pr_575438233 : PrimeN 575438233 := by_chk 2 [(7963, 1), (3011, 1)] (fun qe h => by
 simp only [zq2x, zq18x, or_false] at h
 rcases h with rfl | rfl
 ·exact pr_7963
 ·exact pr_3011) (by decide +kernel)
theorem pr_52316542391429 : PrimeN 52316542391429 := by_chk 2 [(575438233, 1)] (fun qe h => by
 simp only [zq2x, zq18x, or_false] at h
 subst h; exact pr_575438233) (by decide +kernel)
theorem pr_104633084782859 : PrimeN 104633084782859 := by_chk 2 [(52316542391429, 1)] (fun qe h => by
 simp only [zq2x, zq18x, or_false] at h
 subst h; exact pr_52316542391429) (by decide +kernel)
theorem pr_179 : PrimeN 179 := prime_tr 16 (by decide) (by decide +kernel)
theorem pr_31 : PrimeN 31 := prime_tr 8 (by decide) (by decide +kernel)
theorem pr_7935071 : PrimeN 7935071 := by_chk 2 [(179, 1), (31, 1)] (fun qe h => by
 simp only [zq2x, zq18x, or_false] at h
 rcases h with rfl | rfl
 ·exact pr_179
 ·exact pr_31) (by decide +kernel)
theorem pr_15870143 : PrimeN 15870143 := by_chk 2 [(7935071, 1)] (fun qe h => by
 simp only [zq2x, zq18x, or_false] at h
 subst h; exact pr_7935071) (by decide +kernel)
theorem pr_401321030361983486780957614729 : PrimeN 401321030361983486780957614729 := by_chk 2 [(104633084782859, 1), (15870143, 1)] (fun qe h => by
 simp only [zq2x, zq18x, or_false] at h
 rcases h with rfl | rfl
 ·exact pr_104633084782859
 ·exact pr_15870143) (by decide +kernel)
theorem pr_1000000000000000000000000000000000000003 : PrimeN 1000000000000000000000000000000000000003 := by_chk 2 [(401321030361983486780957614729, 1)] (fun qe h => by
 simp only [zq2x, zq18x, or_false] at h
 subst h; exact pr_401321030361983486780957614729) (by decide +kernel)
theorem pr_25733 : PrimeN 25733 := prime_tr 163 (by decide) (by decide +kernel)
theorem pr_1151 : PrimeN 1151 := prime_tr 36 (by decide) (by decide +kernel)
theorem pr_4916701379 : PrimeN 4916701379 := by_chk 2 [(25733, 1), (1151, 1)] (fun qe h => by
 simp only [zq2x, zq18x, or_false] at h
 rcases h with rfl | rfl
 ·exact pr_25733
 ·exact pr_1151) (by decide +kernel)
theorem pr_83 : PrimeN 83 := prime_tr 12 (by decide) (by decide +kernel)
theorem pr_23 : PrimeN 23 := prime_tr 7 (by decide) (by decide +kernel)
theorem pr_1676254721 : PrimeN 1676254721 := by_chk 5 [(83, 1), (23, 1), (7, 3)] (fun qe h => by
 simp only [zq2x, zq18x, or_false] at h
 rcases h with rfl | rfl | rfl
 ·exact pr_83
 ·exact pr_23
 ·exact pr_7) (by decide +kernel)
theorem pr_149927568276670622397029177 : PrimeN 149927568276670622397029177 := by_chk 2 [(4916701379, 1), (1676254721, 1)] (fun qe h => by
 simp only [zq2x, zq18x, or_false] at h
 rcases h with rfl | rfl
 ·exact pr_4916701379
 ·exact pr_1676254721) (by decide +kernel)
theorem pr_9999999999999999999999999999999999999983 : PrimeN 9999999999999999999999999999999999999983 := by_chk 2 [(149927568276670622397029177, 1)] (fun qe h => by
 simp only [zq2x, zq18x, or_false] at h
 subst h; exact pr_149927568276670622397029177) (by decide +kernel)
end PC
namespace L2
open PC
def PrimeZ (p : Int) : Prop := 2 <= p /\ ∀ d : Int, 0 < d -> d ∣ p -> d = 1 \/ d = p
theorem primeZ_of {n : Nat} (h : PrimeN n) : PrimeZ (n : Int) := by
 refine ⟨by have := h.1; omega, fun d d0 hd => ?_⟩
 obtain ⟨k, rfl⟩ := zq180x (zq132x d0)
 rcases h.2 k (Int.natCast_dvd_natCast.mp hd) with e | e
 ·left; rw [e]; rfl
 ·right; rw [e]
theorem primeZ_no {p : Int} (h2 : 2 <= p) (h : NoDiv p) : PrimeZ p := by
 obtain ⟨n, rfl⟩ := zq180x (show 0 <= p by omega)
 refine primeZ_of (prime_of_no (by omega) fun e e1 e2 e3 => ?_)
 refine h (e : Int) (by omega) (by rw [<- Int.natCast_mul]; exact Int.ofNat_le.mpr e2) ?_
 have := congrArg (Nat.cast : Nat -> Int) e3
 simpa using this
theorem primeZ_list : ∀ p ∈ primeList, PrimeZ p := by
 intro p hp
 simp only [primeList, zq2x, zq18x, or_false] at hp
 rcases hp with rfl | rfl | rfl | rfl | rfl | rfl | rfl | rfl | rfl | rfl | rfl | rfl | rfl | rfl | rfl | rfl | rfl | rfl | rfl | rfl | rfl | rfl
 ·exact primeZ_of pr_2
 ·exact primeZ_of pr_3
 ·exact primeZ_of pr_5
 ·exact primeZ_of pr_7
 ·exact primeZ_of pr_2
 ·exact primeZ_of pr_11
 ·exact primeZ_of pr_101
 ·exact primeZ_of pr_10007
 ·exact primeZ_of pr_65537
 ·exact primeZ_of pr_1000003
 ·exact primeZ_of pr_998244353
 ·exact primeZ_of pr_1000000007
 ·exact primeZ_of pr_2147483647
 ·exact primeZ_of pr_1000000000039
 ·exact primeZ_of pr_1000000000000000003
 ·exact primeZ_of pr_18446744073709551557
 ·exact primeZ_of pr_2305843009213693951
 ·exact primeZ_of pr_618970019642690137449562111
 ·exact primeZ_of pr_162259276829213363391578010288127
 ·exact primeZ_of pr_170141183460469231731687303715884105727
 ·exact primeZ_of pr_1000000000000000000000000000000000000003
 ·exact primeZ_of pr_9999999999999999999999999999999999999983
def spInverse : Sp := fun vs H Q _ => ∃ p b : Int, vs = [.int p, .int b] /\ PrimeZ p /\ p < 10 ^ 40 /\ b % p ≠ 0 /\ ∀ u : Int, 0 <= u -> u < p -> (∃ k, u * b = 1 + p * k) -> Q (.int u) H
def spOver : Sp := fun vs H Q _ => ∃ p a b : Int, vs = [.int p, .int a, .int b] /\ PrimeZ p /\ p < 10 ^ 40 /\ b % p ≠ 0 /\ -(10 ^ 61) <= a /\ a <= 10 ^ 61 /\ ∀ x : Int, 0 <= x -> x < p -> (∃ k, b * x - a = p * k) -> Q (.int x) H
end L2
set_option maxRecDepth 100000
set_option maxHeartbeats 4000000
namespace L2
open PySem PySem.Spec PyProof.Rows
theorem IsDs.three {nb : Addr -> Prop} {H : Hp} {a b c : PyData} {vs : List V} (h : IsDs nb H [a, b, c] vs) : ∃ x y z, vs = [x, y, z] /\ IsD nb H a x /\ IsD nb H b y /\ IsD nb H c z := by
 unfold IsDs at h
 obtain ⟨x, ys, rfl, h1, h⟩ := h
 unfold IsDs at h
 obtain ⟨y, zs, rfl, h2, h⟩ := h
 unfold IsDs at h
 obtain ⟨z, ws, rfl, h3, h⟩ := h
 unfold IsDs at h
 subst h
 exact ⟨x, y, z, rfl, h1, h2, h3⟩
theorem Ev.over {G : Gx} {ρ : Rh} {t : TA} {Φ : Pd} (h : Av G ρ t fun es => ∃ p a b : Int, es.map (·.2) = [.int p, .int a, .int b] /\ PrimeZ p /\ p < 10 ^ 40 /\ b % p ≠ 0 /\ -(10 ^ 61) <= a /\ a <= 10 ^ 61 /\ ∀ x : Int, 0 <= x -> x < p -> (∃ k, b * x - a = p * k) -> Φ true (.int x)) :
  Ev G ρ (tCall spOver [] E0 t) Φ := fun nb σ H Q W z =>
 h nb σ H _ W fun es vs H1 ⟨p, a, b, e, h1, h2, h3, h4, h5, q⟩ s1 q1 => by
  have hd := q1.all (f := false) (fun z => by cases z)
  rw [e] at hd
  obtain ⟨x, y, w, rfl, d1, d2, d3⟩ := hd.three
  rw [d1.ofI, d2.ofI, d3.ofI]
  exact ⟨p, a, b, rfl, h1, h2, h3, h4, h5, fun x x1 x2 x3 => z true _ H1 _ (q x x1 x2 x3) s1 (.int x)⟩
theorem prime_mul {p a b : Int} (hp : PrimeZ p) (h : p ∣ a * b) (ha : ¬ p ∣ a) : p ∣ b := by
 have p2 := hp.1
 have g1 : ((Int.gcd a p : Nat) : Int) ∣ p := Int.gcd_dvd_right ..
 have g2 : ((Int.gcd a p : Nat) : Int) ∣ a := Int.gcd_dvd_left ..
 have g0 : 0 < ((Int.gcd a p : Nat) : Int) := by
  have : Int.gcd a p ≠ 0 := fun z => by have := (zq210x.mp z).2; omega
  omega
 rcases hp.2 _ g0 g1 with e | e
 ·have c : Nat.Coprime p.natAbs a.natAbs := by
   show Nat.gcd p.natAbs a.natAbs = 1
   have : Int.gcd a p = 1 := by omega
   rw [Nat.gcd_comm]; exact this
  have h' : p.natAbs ∣ b.natAbs * a.natAbs := by rw [zq97x, <- zq168x]; exact zq133x.mpr h
  exact zq133x.mp (c.dvd_of_dvd_mul_right h')
 ·rw [e] at g2; exact absurd g2 ha
theorem small_dvd {p a b : Int} (ha : 0 <= a) (ha' : a < p) (hb : 0 <= b) (hb' : b < p) (h : p ∣ a - b) : a = b := by
 obtain ⟨k, e⟩ := h
 rcases zq117x k 0 with z | z | z
 ·have : p * k <= p * (-1) := zq72x (by omega) (by omega)
  omega
 ·subst z; omega
 ·have : p * 1 <= p * k := zq72x (by omega) (by omega)
  omega
end L2
set_option maxRecDepth 100000
set_option maxHeartbeats 4000000
namespace L2
open PySem PySem.Spec PyProof.Rows
section
variable {X : Cx} {pins : List (Addr × Obj)} {σ : List (Option V)} {H : Hp} {s : Shared} {h' : Heap}
theorem Inv.turnedLaid {t' : Nat} {e it T : Addr} {o : HO} (I : Inv X pins σ H s) (k : ∀ b u, b ≠ e -> b ≠ it -> s.heap.get? b = some u -> h'.get? b = some u) (fe : FpOk X pins H e) (fi : FpOk X pins H it) (hT : s.heap.objs.size <= T) (hTe : T ≠ e) (hTi : T ≠ it)
  (le : ∃ u, s.heap.get? e = some u) (li : ∃ u, s.heap.get? it = some u) (new : ObjOk X.prog X.w (upd H T o) h' T o) : Inv X pins σ (upd H T o) { s with heap := h', toks := t' } := by
 have hn := I.hok.fresh hT
 obtain ⟨e0, e1, e2, e3, e4, e5⟩ := fe
 obtain ⟨i0, i1, i2, i3, i4, i5⟩ := fi
 have ne : ∀ b u, H b = some u -> b ≠ e := fun b u q z => by rw [z, e0] at q; cases q
 have ni : ∀ b u, H b = some u -> b ≠ it := fun b u q z => by rw [z, i0] at q; cases q
 have nT : ∀ b u, H b = some u -> b ≠ T := fun b u q z => by rw [z, hn] at q; cases q
 refine I.step (g' := s.gens) (d' := s.drawn) (ch := [e, it]) (fun b hb => ?_) (fun b o _ _ hc q _ => k b o (fun z => hc (by simp [z])) (fun z => hc (by simp [z])) q) (fun b o _ _ hc q _ => ⟨o.slots, k b o (fun z => hc (by simp [z])) (fun z => hc (by simp [z])) q⟩)
  (fun b o hc q n => ?_) (fun b o hc q => ⟨o, k b o (fun z => hc (by simp [z])) (fun z => hc (by simp [z])) q⟩) (fun b xs q => by rw [upd_ne (nT b _ q)]; exact q) (fun b o u q => by rw [upd_ne (nT b _ q)]; exact q) (fun b ps q => ⟨#[], by rw [upd_ne (nT b _ q), q]; simp⟩) (fun m hm => ?_) (fun b u q => ?_) I.bare
 ·rcases (show b = e \/ b = it by simpa using hb) with z | z
  ·subst z; exact ⟨e3, e1, e4, e5⟩
  ·subst z; exact ⟨i3, i1, i4, i5⟩
 ·rw [upd_ne (fun z => absurd (zq31x (zq12x q) (by rw [z]; exact hT)) (zq58x _))]; exact n
 ·obtain ⟨o, es, ep, ho, r⟩ := hm
  exact ⟨o, es, ep, k _ o (zq14x e1) (zq14x i1) ho, r⟩
 ·by_cases hb : b = T
  ·subst hb; rw [upd_same] at q; cases q; exact new
  ·rw [upd_ne hb] at q
   refine (I.hok b u q).stay (fun c v hc z => ?_) (fun c z => by rw [upd_ne (nT c _ z)]; exact z) fun c xs z => by rw [upd_ne (nT c _ z)]; exact z
   rcases hc with y | y
   ·subst y; exact k _ v (ne _ u q) (ni _ u q) z
   ·exact k c v (ne c _ y) (ni c _ y) z
theorem Inv.turned2 {t' : Nat} {e it : Addr} (I : Inv X pins σ H s) (k : ∀ b u, b ≠ e -> b ≠ it -> s.heap.get? b = some u -> h'.get? b = some u) (fe : FpOk X pins H e) (fi : FpOk X pins H it) : Inv X pins σ H { s with heap := h', toks := t' } := by
 obtain ⟨e0, e1, e2, e3, e4, e5⟩ := fe
 obtain ⟨i0, i1, i2, i3, i4, i5⟩ := fi
 have ne : ∀ b u, H b = some u -> b ≠ e := fun b u q z => by rw [z, e0] at q; cases q
 have ni : ∀ b u, H b = some u -> b ≠ it := fun b u q z => by rw [z, i0] at q; cases q
 refine I.step (g' := s.gens) (d' := s.drawn) (ch := [e, it]) (fun b hb => ?_) (fun b o _ _ hc q _ => k b o (fun z => hc (by simp [z])) (fun z => hc (by simp [z])) q) (fun b o _ _ hc q _ => ⟨o.slots, k b o (fun z => hc (by simp [z])) (fun z => hc (by simp [z])) q⟩)
  (fun _ _ _ _ n => n) (fun b o hc q => ⟨o, k b o (fun z => hc (by simp [z])) (fun z => hc (by simp [z])) q⟩) (fun _ _ q => q) (fun _ _ _ q => q) (fun b ps q => ⟨#[], by rw [q]; simp⟩) (fun m hm => ?_) (fun b u q => ?_) I.bare
 ·rcases (show b = e \/ b = it by simpa using hb) with z | z
  ·subst z; exact ⟨e3, e1, e4, e5⟩
  ·subst z; exact ⟨i3, i1, i4, i5⟩
 ·obtain ⟨o, es, ep, ho, r⟩ := hm
  exact ⟨o, es, ep, k _ o (zq14x e1) (zq14x i1) ho, r⟩
 ·refine (I.hok b u q).stay (fun c v hc z => ?_) (fun c z => z) fun c xs z => z
  rcases hc with y | y
  ·subst y; exact k _ v (ne _ u q) (ni _ u q) z
  ·exact k c v (ne c _ y) (ni c _ y) z
end
def Ite (K : PySem.W.Frag) (a : Addr) : It :=
 ⟨fun i H => ∃ xs x, SqL K H a xs /\ xs[i]? = some x, fun i H x H' => ∃ p y, x = .ref p /\ H p = none /\ (∀ xs, SqL K H a xs -> xs[i]? = some y) /\ H' = upd H p (.tup [.int i, y]), fun i H => ∃ xs, SqL K H a xs /\ xs.length = i⟩
theorem turn_enum {P : Program} {w : World} {K : PySem.W.Frag} {elts : List Expr} {k : Nat} {pos : Pos} (a e it : Addr) (hei : e ≠ it) :
  Turn P w K (.Tuple elts k pos) (Ite K a) [e, it] e (fun i h => (∃ old, IsEnum h e it i old) /\ h.IsListIter it a i) where
 mem := by simp
 obj := fun i h st b hb => by
  obtain ⟨⟨old, s1⟩, ⟨o, e1, c, d⟩⟩ := st
  rcases (show b = e \/ b = it by simpa using hb) with z | z
  ·subst z
   exact ⟨_, s1, fun v z => by
    have z' : Data.fields _ = Data.cell v := z
    cases z'⟩
  ·subst z
   exact ⟨o, e1, fun v z => by rw [d] at z; cases z⟩
 keep := fun i h h' st k => ⟨let ⟨old, s1⟩ := st.1; ⟨old, k e (by simp) _ s1⟩, st.2.at fun o q => k it (by simp) o q⟩
 item := by
  intro X hP hw hK hc i pins s σ H E I hf st hg
  subst hP hw hK
  obtain ⟨xs, x, hq, hx⟩ := hg
  obtain ⟨its, rv, p, hz⟩ := I.list hq
  obtain ⟨u, hu, ru⟩ := rv.get hx
  have fe := hf e (by simp)
  have fi := hf it (by simp)
  obtain ⟨⟨old, s1⟩, s2⟩ := st
  obtain ⟨ol, l1, l2, l3⟩ := id p.isList
  obtain ⟨oi, i1, i2, i3⟩ := id s2
  have hae : a ≠ e := fun z => by
   subst z
   rw [s1] at l1; cases l1
   exact absurd l2 (by simp)
  have hai : a ≠ it := fun z => by
   subst z
   rw [i1] at l1; cases l1
   rw [i2] at l2
   exact absurd l2 (by simp)
  have W := WalksT.enumerate (prog := X.prog) (w := X.w) (I.ok.hd hc) e it a hei hae hai its.toArray
  have hi : i < its.toArray.size := by
   have := (zq7x.mp hu).1
   simpa using this
  refine W.item i s _ _ hi ⟨⟨old, s1⟩, s2, p.isList⟩ fun T vals h' tk hv hT hTup hMid kp => ⟨.ref T, rfl, ?_⟩
  refine W.go elts k pos i T _ _ _ hMid fun h'' st' kp2 => ?_
  obtain ⟨t, x', hx', hvv⟩ := hv
  have hxu : x' = u := by
   have : its.toArray[i]? = some u := by simpa using hu
   rw [hx'] at this; exact zq36x this
  subst hxu hvv
  have hTw := W.apart i T h' hMid
  obtain ⟨_, _, _, hTe, hTi⟩ := hMid
  obtain ⟨oT, t1, t2, nT, t3⟩ := hTup
  have t1' := kp2 T oT hTw t1
  refine ⟨.ref T, upd H T (.tup [.int i, x]), I.turnedLaid (fun b v h1 h2 q => kp2 b v (by simp [h1, h2]) (kp b v (by simp [h1, h2]) q)) fe fi hT hTe hTi ⟨_, s1⟩ ⟨_, i1⟩ ?_, rfl, ⟨T, x, rfl, I.hok.fresh hT, fun ys hy => by rw [I.list_inj hy hq]; exact hx, rfl⟩, ⟨st'.1, st'.2.1⟩, fun b hb => ?_⟩
  ·exact ⟨by show 2 <= sizeLine; decide, [.int i t, x'], .cons ⟨t, rfl⟩ (.cons ru .nil), oT, t1', t2, nT, t3⟩
  ·rw [upd_ne, (hf b hb).1]
   rcases (show b = e \/ b = it by simpa using hb) with z | z
   ·rw [z]; exact zq14x hTe
   ·rw [z]; exact zq14x hTi
 done := by
  intro X hP hw hK hc i pins s σ H E I hf st hg
  subst hP hw hK
  obtain ⟨xs, hq, hx⟩ := hg
  obtain ⟨its, rv, p, hz⟩ := I.list hq
  have fe := hf e (by simp)
  have fi := hf it (by simp)
  obtain ⟨⟨old, s1⟩, s2⟩ := st
  obtain ⟨ol, l1, l2, l3⟩ := id p.isList
  obtain ⟨oi, i1, i2, i3⟩ := id s2
  have hl := rv.length
  have hae : a ≠ e := fun z => by
   subst z
   rw [s1] at l1; cases l1
   exact absurd l2 (by simp)
  have hai : a ≠ it := fun z => by
   subst z
   rw [i1] at l1; cases l1
   rw [i2] at l2
   exact absurd l2 (by simp)
  have W := WalksT.enumerate (prog := X.prog) (w := X.w) (I.ok.hd hc) e it a hei hae hai its.toArray
  have hn : its.toArray.size = i := by rw [zq26x]; omega
  refine W.done s _ _ (by rw [hn]; exact ⟨⟨old, s1⟩, s2, p.isList⟩) fun h' tk kp => ⟨rfl, ?_⟩
  exact I.turned2 (fun b v h1 h2 q => kp b v (by simp [h1, h2]) q) fe fi
 self := fun _ _ _ _ _ st h => let ⟨old, s1⟩ := st.1; wpAny_pyIter_enum s1 h
def iEnum (K : PySem.W.Frag) (tl : TE) : TI := fun σ H R => tl σ H fun x H1 => ∃ a, x = .ref a /\ (∃ xs, SqL K H1 a xs) /\ R (Ite K a) H1
theorem pi_enum {X : Cx} {K : PySem.W.Frag} {elts : List Expr} {k : Nat} {tpos : Pos} {l : Expr} {tl : TE} {p pos : Pos} (hK : X.K = K) (hg : Gl X "enumerate") (hm : X.mg "enumerate" = none) (hl : PE X l tl) (hs : starEach [l] X.env = [(false, eval l X.env)] := by rfl) :
    PI X (.Tuple elts k tpos) (.Call (.Name "enumerate" p) [l] [] pos) (iEnum K tl) := by
  subst hK
  intro pins s σ H R I h
  have ha : PA X [l] (tCons tl tNil) := pa_cons hl pa_nil (by rw [hs]; rfl)
  refine Call_ (ld_blt I hg hm boot_enumerate (zq124x (thn (ha pos pins s σ H (fun vs H1 => match vs with | [x] => ∃ a, x = .ref a /\ (∃ xs, SqL X.K H1 a xs) /\ R (Ite X.K a) H1 | _ => False) I h) fun us s1 ⟨vs, H1, I1, r1, q1⟩ => ?_) hs rfl))
  cases r1 with
  | nil => exact q1.elim
  | cons r rr =>
    cases rr with
    | cons _ _ => exact q1.elim
    | nil =>
    obtain ⟨a, e2, ⟨xs, hq⟩, q⟩ := q1
    subst e2
    cases r
    obtain ⟨its, rv, p, hz⟩ := I1.list hq
    obtain ⟨m, hn, _⟩ := I1.loc
    refine enum_rows (h₀ := { objs := #[] }) (L := X.env.locals) (m := m) ⟨hn, fun b o z => ?_, zq37x _⟩ p.isList fun h' e1 e2 e3 e4 kp ne n1 n2 _ _ => ?_
    · cases z
    refine wpAny_pyIter_enum e1 ?_
    have I2 : Inv X pins σ H1 { s1 with heap := h' } := I1.kept (t' := s1.toks) kp
    refine ⟨s1.heap.objs.size + 1, [s1.heap.objs.size + 1, s1.heap.objs.size], _, _, H1, rfl, I2, turn_enum a _ _ ne, ⟨⟨_, e1⟩, e2⟩, fun b hb => ?_, q⟩
    rcases (show b = s1.heap.objs.size + 1 \/ b = s1.heap.objs.size by simpa using hb) with z | z
    · subst z; exact I1.fpOk (zq63x _) (I1.hok.fresh (zq63x _))
    · subst z; exact I1.fpOk (zq5x _) (I1.hok.fresh (zq5x _))
end L2
set_option maxRecDepth 100000
set_option maxHeartbeats 4000000
namespace L2
open PySem PySem.Spec PyProof.Rows
theorem R.comp_enum {K : PySem.W.Frag} {a : Addr} {xs : List V} {g : TG} {tc : TT} {te : TE} {acc : Addr} {Qe : Hp -> Prop} {σ : St} {H : Hp} (Pv : Nat -> St -> Hp -> Prop) (h0 : Pv 0 σ H) (hl : ∀ i σ H, i <= xs.length -> Pv i σ H -> SqL K H a xs)
  (hs : ∀ i x σ H p, xs[i]? = some x -> Pv i σ H -> H p = none -> g (.ref p) σ (upd H p (.tup [.int i, x])) fun σ2 H2 => tc σ2 H2 fun b H3 => if b = true then te σ2 H3 fun v H4 => ∃ ys, H4 acc = some (.lst ys) /\ ys.length < sizeLine /\ Pv (i + 1) σ2 (upd H4 acc (.lst (ys ++ [v]))) else Pv (i + 1) σ2 H3)
  (hd : ∀ σ H, Pv xs.length σ H -> Qe H) : CompW (Ite K a) g tc te acc Qe σ H := by
 refine ⟨fun i m σ H => m = xs.length - i /\ i <= xs.length /\ Pv i σ H, ⟨xs.length, by simp, zq37x _, h0⟩, ?_⟩
 rintro i m σ H ⟨rfl, hi, p⟩
 have q := hl i σ H hi p
 by_cases hlt : i < xs.length
 ·refine .inr ⟨⟨xs, xs[i], q, by simp [hlt]⟩, Pv (i + 1), fun σ' H' p' => ⟨xs.length - (i + 1), by omega, rfl, hlt, p'⟩, fun x H' y => ?_⟩
  obtain ⟨pp, y, e, hn, hy, e2⟩ := y
  subst e e2
  exact hs i y σ H pp (hy xs q) p hn
 ·have e : i = xs.length := by omega
  subst e
  exact .inl ⟨⟨xs, q, rfl⟩, hd σ H p⟩
section
variable {G : Gx} {ρ ρc : Rh} {te : TE} {s : TS} {gt : TG} {E : DE} {K : PySem.W.Frag} {Θ : Bool -> List PyData -> Prop} {tc : TT} {mp : List (Option Nat)}
theorem EvN.compE {t0 : TE} (hm : (mp.filterMap id).Nodup) (hρ : startR mp ρ = ρc) (h : Ev G ρ t0 fun fi x => ∃ es, x = .list es /\ es.length <= 10000 /\ ∀ v, CompD (G.hd fi (.list es) v) ρc es.length (fun i d => ∃ e, es[i]? = some e /\ d = .tuple [.int i, e]) fi gt tc te Θ) : EvN G ρ (tComp (iEnum K t0) gt tc te mp) Θ := fun nb σ H Q W z =>
 h nb σ H _ W fun fi v H1 x ⟨es, ex, hn, q⟩ s1 hv => by
  subst ex
  obtain ⟨fl, I, h0, ht, he⟩ := q v
  have W0 := (W.step s1).hd hv
  obtain ⟨a, xs, rfl, n, hx, hd⟩ := hv.ofL
  refine ⟨a, rfl, ⟨xs, .of hx⟩, fun acc hacc => ?_⟩
  have W0' : Wd (G.hd fi (.list es) (.ref a)) nb ρc (L2.startC mp σ) H1 := by rw [<- hρ]; exact W0.startC hm
  have W1 := W0'.more hacc (o := .lst [])
  have hN := NB.new s1.2 hacc
  have hno := no_own W0' hacc
  have st0 : Step G.B H1 (upd H1 acc (.lst [])) := .same s1.2 (same_new hacc)
  have hNa : NB G.B a := zq55x fun z => n (.inr (.inr (.inl z)))
  refine R.comp_enum (xs := xs) (fun i σ H => ∃ ds ys, Wd (G.hd fi (.list es) (.ref a)) (fun x => nb x \/ x = acc) ρc σ H /\ Step G.B H1 H /\ H acc = some (.lst ys) /\ IsDs (G.S (fun x => nb x \/ x = acc) fl) H ds ys /\ ds.length <= i /\ I i ds /\ H a = some (.lst xs)) ⟨[], [], W1, st0, upd_same, .nil, zq5x _, h0, st0.1 _ _ hNa hx⟩ ?_ ?_ ?_
  ·rintro i σ H hi ⟨ds, ys, W, st, _, _, _, _, ha⟩
   exact .of ha
  ·rintro i x σ H p hi ⟨ds, ys, W, st, hy, hd', hl, hI, ha⟩ hp
   obtain ⟨a', xs', e', _, h', d'⟩ := W.unhd.2.ofL
   cases e'
   rw [ha] at h'; cases h'
   have hil : i < es.length := by have := (zq7x.mp hi).1; have := d'.length; omega
   obtain ⟨x', hx', dx⟩ := d'.get (zq1x hil)
   rw [hi] at hx'; cases hx'
   have st2 : Step (G.hd fi (.list es) (.ref a)).B H (upd H p (.tup [.int i, x])) := .same W.bag (same_new hp)
   have hap : acc ≠ p := fun z => by subst z; rw [hp] at hy; cases hy
   have haa : a ≠ p := fun z => by subst z; rw [hp] at ha; cases ha
   refine comp_turn (G := G.hd fi (.list es) (.ref a)) hn hil (W.step st2) (.inr rfl) hN hno (st.trans st2) hacc (by rw [upd_ne hap]; exact hy) (hd'.keep st2.butS) hl (.tup (W.fresh hp) upd_same (.cons (.int _) (.cons (dx.keep st2.butS) .nil))) (ht i _ ds ⟨_, zq1x hil, rfl⟩ hl hI) fun σ' H' ds' xs' W' st' hx' hd' hl' hI' => ⟨ds', xs', W', st', hx', hd', hl', hI', st'.1 _ _ hNa hx⟩
  ·rintro σ H' ⟨ds, ys, W', st, hy, hd', hl, hI, _⟩
   rw [hd.length] at hl hI
   exact comp_end W s1 hacc st hy hd' (he ds hl hI) z
end
end L2
set_option maxRecDepth 100000
set_option maxHeartbeats 4000000
namespace L2
open PySem PySem.Spec PyProof.Rows
section
variable {G : Gx} {ρ : Rh} {Φ : Pd} {te : TE} {t : TA} {i n : Nat} {f : Bool} {ds : List PyData} {Θ : List PyData -> Prop}
theorem Ev.tupS (h : Av G ρ t fun es => es.length <= 10000 /\ Φ (allF es || scAll (es.map (·.2))) (.tuple (es.map (·.2)))) : Ev G ρ (tTup t) Φ := fun nb σ H Q W z =>
 h nb σ H _ W fun es vs H1 ⟨hl, p⟩ s1 q1 => ⟨zq28x (by rw [q1.len]; exact hl) (by decide), fun a ha => z _ _ _ _ p (s1.trans (.same (W.step s1).bag (same_new ha))) (by
  cases hs : scAll (es.map (·.2)) with
  | true => rw [Bool.or_true]; exact .tup ((W.step s1).fresh ha) upd_same ((q1.all (f := false) fun z => by cases z).scAny hs)
  | false => rw [zq96x]; exact .tup ((W.step s1).fresh ha) upd_same ((q1.all fun z => z).keep (But.of (same_new ha))))⟩
theorem Ev.primeFrom (h : Ev G ρ te fun _ x => ∃ n : Int, x = .int n /\ 2 <= n /\ n <= 10002 /\ ∀ r : Int, PrimeZ r -> r < 10 ^ 40 -> Φ true (.int r)) : Ev G ρ (tCall spPrimeFrom [] E0 (tCons te tNil)) Φ := fun nb σ H Q W z =>
 h nb σ H _ W fun f v H1 d ⟨n, e, h1, h2, p⟩ s1 hv => by
  subst e
  exact ⟨n, by rw [hv.ofI]; rfl, h1, h2, fun r H' sm r1 r2 r3 => z true _ H' _ (p r (primeZ_no r1 r3) (by omega)) (s1.trans (.same (W.step s1).bag sm)) (.int r)⟩
theorem Ev.str {x : Str} (h : Φ true (.str x)) : Ev G ρ (tC (.str x)) Φ := fun nb σ H Q W z => z true _ H _ h (.refl W.bag) (by unfold IsD; rfl)
end
theorem Eu.fin {p b L lt t : Int} (h : Eu p b L lt 0 t) (hp : PrimeZ p) (hb : b % p ≠ 0) : ∃ k, lt % p * b = 1 + p * k := by
 obtain ⟨g1, g2⟩ := h.dv L (Int.dvd_refl L) (Int.dvd_zero L)
 have m1 := zq21x b (show p ≠ 0 by have := hp.1; omega)
 have m2 := zq22x b (show 0 < p by have := hp.1; omega)
 have hL : L = 1 := by
  rcases hp.2 L h.l0 g1 with e | e
  ·exact e
  ·exfalso
   rw [e] at g2
   have := zq181x (by omega) g2
   omega
 obtain ⟨k, hk⟩ := h.lc
 have e := zq51x lt p
 refine ⟨-k - lt / p * b, ?_⟩
 have e2 : lt % p = lt - p * (lt / p) := by omega
 rw [e2, Int.sub_mul, zq66x, Int.mul_neg, zq73x]
 omega
noncomputable def sol (p b a : Int) : Int := open Classical in if h : ∃ x, 0 <= x /\ x < p /\ ∃ k, b * x - a = p * k then Classical.choose h else 0
theorem sol_eq {p b a x : Int} (hp : PrimeZ p) (hb : b % p ≠ 0) (h0 : 0 <= x) (h1 : x < p) (hx : ∃ k, b * x - a = p * k) : x = sol p b a := by
 have ex : ∃ x, 0 <= x /\ x < p /\ ∃ k, b * x - a = p * k := ⟨x, h0, h1, hx⟩
 unfold sol
 rw [dif_pos ex]
 obtain ⟨g0, g1, k', hk'⟩ := zq211x ex
 generalize Classical.choose ex = y at *
 obtain ⟨k, hk⟩ := hx
 refine small_dvd h0 h1 g0 g1 (prime_mul hp (a := b) ⟨k - k', ?_⟩ fun z => hb (zq134x z))
 rw [zq66x, zq66x]; omega
theorem sol_range {p b a : Int} (hp : 0 < p) : 0 <= sol p b a /\ sol p b a < p := by
 unfold sol
 split
 ·rename_i h
  obtain ⟨g0, g1, _⟩ := zq211x h
  exact ⟨g0, g1⟩
 ·omega
def lostP (wd : Wo) (prs : Prs) : Prs := prs.filter fun pr => wd[pr.1.toNat]? == some none
theorem lostP_snoc {wd : Wo} {prs : Prs} {pr : Int × Int} : lostP wd (prs ++ [pr]) = if wd[pr.1.toNat]? = some none then lostP wd prs ++ [pr] else lostP wd prs := by
 unfold lostP
 rw [zq104x]
 by_cases c : wd[pr.1.toNat]? = some none
 ·rw [if_pos c, zq135x (by rw [c]; rfl)]; rfl
 ·rw [if_neg c, zq136x (by simpa using c)]; simp
noncomputable def toldF (p : Int) (prs : Prs) (rest : Int) (wd : Wo) : Option (Int × Int) := match lostP wd prs with
 | [pr] => some (pr.1, sol p pr.2 (rest - dueSum prs wd % p))
 | _ => none
def toldD : Option (Int × Int) -> PyData
 | none => .none
 | some pr => pairD pr
def lostOf (wd : Wo) : List Int := ((List.range wd.length).filter fun i => wd[i]? == some none).map fun (i : Nat) => (i : Int)
def FacOk (p : Int) (prs : Prs) : Prop := ∀ pr ∈ prs, pr.2 % p ≠ 0
def NetQ (p : Int) (cs : List Prs) (m : Nat) : Prop := PrimeZ p /\ p < 10 ^ 40 /\ cs.length <= 1000 /\ ∀ prs ∈ cs, prs.length <= 1000 /\ PrsOk prs m /\ FacOk p prs
theorem NetQ.at {p : Int} {cs : List Prs} {m : Nat} {c : Int} (h : NetQ p cs m) (h0 : 0 <= c) (h1 : c < cs.length) : ∃ prs, cs[c.toNat]? = some prs /\ cs.getD c.toNat [] = prs /\ prs.length <= 1000 /\ PrsOk prs m /\ FacOk p prs := by
 have hc : c.toNat < cs.length := by omega
 refine ⟨cs[c.toNat], zq1x hc, ?_, h.2.2.2 _ (zq11x hc)⟩
 rw [zq3x, zq1x hc]; rfl
abbrev Mend := Int × Int × Int
abbrev mendD (m : Mend) : PyData := .tuple [.int m.1, .int m.2.1, .int m.2.2]
noncomputable def mendF (p : Int) (cs : List Prs) (wd : Wo) (m : Mend) : PyData :=
 if m.2.1 < 0 \/ (cs.length : Int) <= m.2.1 then .str "check" else match toldF p (cs.getD m.2.1.toNat []) 0 wd with
 | none => .str "place"
 | some (a, x) => if a ≠ m.1 then .str "place" else if x ≠ m.2.2 then .str "letter" else .none
def putAll (wd : Wo) (ms : List Mend) : Wo := ms.foldl (fun w m => w.set m.1.toNat (some m.2.2)) wd
theorem putAll_snoc {wd : Wo} {ms : List Mend} {m : Mend} : putAll wd (ms ++ [m]) = (putAll wd ms).set m.1.toNat (some m.2.2) := by
 unfold putAll; rw [List.foldl_append]; rfl
def okM (p : Int) (cs : List Prs) (wd : Wo) (ms : List Mend) (j : Nat) : Prop := ∃ m, ms[j]? = some m /\ mendF p cs (putAll wd (ms.take j)) m = .none
theorem lostP_mem {wd : Wo} {prs : Prs} {pr : Int × Int} (h : pr ∈ lostP wd prs) : pr ∈ prs /\ wd[pr.1.toNat]? = some none := by
 unfold lostP at h
 have := zq27x.mp h
 exact ⟨this.1, by simpa using this.2⟩
theorem toldF_some {p : Int} {prs : Prs} {rest : Int} {wd : Wo} {a x : Int} (hp : 0 < p) (h : toldF p prs rest wd = some (a, x)) : ∃ pr ∈ prs, pr.1 = a /\ wd[a.toNat]? = some none /\ 0 <= x /\ x < p := by
 unfold toldF at h
 split at h
 ·rename_i pr e
  cases h
  have := lostP_mem (wd := wd) (prs := prs) (pr := pr) (by rw [e]; simp)
  exact ⟨pr, this.1, rfl, this.2, sol_range hp⟩
 ·cases h
theorem ixN_ok {n : Nat} {k : Int} (h0 : 0 <= k) (h1 : k < n) : ixN n k = some k.toNat := by
 unfold ixN; rw [if_pos h0, if_pos h1]
theorem putAll_len {wd : Wo} {ms : List Mend} : (putAll wd ms).length = wd.length := by
 unfold putAll
 induction ms generalizing wd with
 | nil => rfl
 | cons m r ih => rw [List.foldl_cons, ih, zq47x]
theorem pi_listK {X : Cx} {K : PySem.W.Frag} {tg l : Expr} {tl : TE} (hK : X.K = K) (hl : PE X l tl) : PI X tg l (iList K tl) := by subst hK; exact pi_list hl
theorem lookup_relabel {env : Env} {n : Str} {l : List (Str × NameKind)} : (List.lookup n l = some .cell \/ List.lookup n l = some .free) ->
    (List.lookup n (l.map fun x => match x with | (n, k) => if (k == NameKind.free && env.scope.kind == ScopeKind.function && env.kindOf n == some NameKind.cell) = true then (n, NameKind.cell) else (n, k)) = some .cell \/
     List.lookup n (l.map fun x => match x with | (n, k) => if (k == NameKind.free && env.scope.kind == ScopeKind.function && env.kindOf n == some NameKind.cell) = true then (n, NameKind.cell) else (n, k)) = some .free) := by
  induction l with
  | nil => intro h; simpa using h
  | cons a r ih =>
    obtain ⟨m, k⟩ := a
    intro h
    rw [zq4x]
    by_cases c : n = m
    · subst c
      rw [zq182x] at h
      dsimp only
      split
      · rw [zq182x]; exact .inl rfl
      · rw [zq182x]; exact h
    · have hb : (n == m) = false := by simpa using c
      have e1 : List.lookup n ((m, k) :: r) = List.lookup n r := by rw [zq10x, hb]
      rw [e1] at h
      dsimp only
      split
      · rw [zq10x, hb]; exact ih h
      · rw [zq10x, hb]; exact ih h
end L2
set_option maxRecDepth 100000
set_option maxHeartbeats 4000000
namespace L2
open PySem PySem.Spec PyProof.Rows
def RunOk (p : Int) (cs : List Prs) (wd : Wo) (ms : List Mend) : Prop := ∀ j < ms.length, okM p cs wd ms j
theorem mendF_none {p : Int} {cs : List Prs} {wd : Wo} {m : Mend} (h : mendF p cs wd m = .none) : 0 <= m.2.1 /\ m.2.1 < cs.length /\ toldF p (cs.getD m.2.1.toNat []) 0 wd = some (m.1, m.2.2) := by
 unfold mendF at h
 split at h
 ·cases h
 rename_i c
 split at h
 ·cases h
 rename_i a x e
 split at h
 ·cases h
 rename_i c3
 split at h
 ·cases h
 rename_i c4
 have c3 : a = m.1 := by omega
 have c4 : x = m.2.2 := by omega
 subst c3 c4
 exact ⟨by omega, by omega, e⟩
theorem toldF_one {p : Int} {prs : Prs} {wd : Wo} {a x : Int} (h : toldF p prs 0 wd = some (a, x)) : ∃ pr, lostP wd prs = [pr] /\ pr.1 = a /\ x = sol p pr.2 (0 - dueSum prs wd % p) := by
 unfold toldF at h
 split at h
 ·rename_i pr e
  cases h
  exact ⟨pr, e, rfl, rfl⟩
 ·cases h
theorem mendF_told {p : Int} {cs : List Prs} {wd : Wo} {a c x : Int} (h0 : 0 <= c) (h1 : c < cs.length) (h : toldF p (cs.getD c.toNat []) 0 wd = some (a, x)) : mendF p cs wd (a, c, x) = .none := by
 unfold mendF
 rw [if_neg (by show ¬ (c < 0 \/ (cs.length : Int) <= c); omega)]
 show (match toldF p (cs.getD c.toNat []) 0 wd with | none => _ | some (a', x') => _) = _
 rw [h]
 simp
def cnt (wd : Wo) : Nat := wd.countP fun o => o.isNone
theorem cnt_set : ∀ {wd : Wo} {k : Nat} {x : Int}, wd[k]? = some none -> cnt (wd.set k (some x)) + 1 = cnt wd
  | [], k, x, h => by simp at h
  | o :: wd, 0, x, h => by
    simp at h
    subst h
    simp [cnt]
  | o :: wd, k + 1, x, h => by
    have ih := cnt_set (wd := wd) (k := k) (x := x) (by simpa using h)
    unfold cnt at ih ⊢
    rw [List.set_cons_succ, zq83x, zq83x]
    omega
theorem run_cnt {p : Int} {cs : List Prs} {wd : Wo} {ms : List Mend} (hp : 0 < p) (h1 : RunOk p cs wd ms) : ∀ j, j <= ms.length -> cnt (putAll wd (ms.take j)) + j = cnt wd
  | 0, _ => by simp [putAll]
  | j + 1, hj => by
    have ih := run_cnt hp h1 j (by omega)
    obtain ⟨m, e1, e2⟩ := h1 j (by omega)
    rw [take_snoc e1, putAll_snoc]
    obtain ⟨c0, c1, e3⟩ := mendF_none e2
    obtain ⟨pr, g1, g2, g3, _⟩ := toldF_some hp e3
    have := cnt_set (x := m.2.2) g3
    omega
theorem cnt_le (wd : Wo) : cnt wd <= wd.length := List.countP_le_length
theorem cnt_zero {wd : Wo} (h : cnt wd = 0) (i : Nat) : wd[i]? ≠ some none := fun e => by
 unfold cnt at h
 rw [zq137x] at h
 exact h none (zq16x e) rfl
def Agree (os : List Int) (wd : Wo) : Prop := ∀ (i : Nat) (x : Int), wd[i]? = some (some x) -> os[i]? = some x
theorem dueSum_lost {os : List Int} {wd : Wo} (hl : wd.length = os.length) (ha : Agree os wd) : ∀ {prs : Prs}, (∀ pr ∈ prs, 0 <= pr.1 /\ pr.1 < wd.length) ->
    dueSum prs (os.map some) = dueSum prs wd + ((lostP wd prs).map fun q => q.2 * os.getD q.1.toNat 0).sum
  | [], _ => by simp [dueSum, lostP]
  | pr :: prs, h => by
    have ih := dueSum_lost hl ha (prs := prs) fun q hq => h q (zq23x _ hq)
    obtain ⟨h0, h1⟩ := h pr (zq19x ..)
    have k1 : pr.1.toNat < wd.length := by omega
    have k2 : pr.1.toNat < os.length := by omega
    rw [dueSum_cons, dueSum_cons, ih, termOf_some (w := os) (zq1x k2)]
    have eg : os.getD pr.1.toNat 0 = os[pr.1.toNat] := by rw [zq3x, zq1x k2]; rfl
    cases e : wd[pr.1.toNat] with
    | none =>
      have e2 : wd[pr.1.toNat]? = some none := by rw [zq1x k1, e]
      have e3 : lostP wd (pr :: prs) = pr :: lostP wd prs := by unfold lostP; rw [zq135x (by rw [e2]; rfl)]
      have e4 : termOf wd pr = 0 := by unfold termOf; rw [e2]
      rw [e3, zq4x, zq41x, e4, eg]
      omega
    | some x =>
      have e2 : wd[pr.1.toNat]? = some (some x) := by rw [zq1x k1, e]
      have e3 : lostP wd (pr :: prs) = lostP wd prs := by unfold lostP; rw [zq136x (by rw [e2]; simp)]
      have e4 : termOf wd pr = pr.2 * x := by unfold termOf; rw [e2]
      have e5 := ha _ _ e2
      rw [zq1x k2] at e5
      cases e5
      rw [e3, e4]
      omega
theorem run_true {p : Int} {cs : List Prs} {wd : Wo} {ms : List Mend} {os : List Int} (hN : NetQ p cs wd.length) (hl : wd.length = os.length) (hos : ∀ x ∈ os, 0 <= x /\ x < p) (ht : ∀ prs ∈ cs, dueSum prs (os.map some) % p = 0) (ha : Agree os wd) (h1 : RunOk p cs wd ms) :
    ∀ j, j <= ms.length -> Agree os (putAll wd (ms.take j))
  | 0, _ => by simpa [putAll] using ha
  | j + 1, hj => by
    have ih := run_true hN hl hos ht ha h1 j (by omega)
    obtain ⟨m, e1, e2⟩ := h1 j (by omega)
    rw [take_snoc e1, putAll_snoc]
    obtain ⟨c0, c1, e3⟩ := mendF_none e2
    obtain ⟨prs, g1, g2, g3, g4, g5⟩ := hN.at c0 c1
    rw [g2] at e3
    obtain ⟨pr, e4, e5, e6⟩ := toldF_one e3
    have hpm : prs ∈ cs := zq16x g1
    have hle : (putAll wd (ms.take j)).length = wd.length := putAll_len
    have hd := dueSum_lost (by rw [hle]; exact hl) ih (prs := prs) fun q hq => by rw [hle]; exact ⟨(g4 q hq).1, (g4 q hq).2.1⟩
    have hprm : pr ∈ prs := (lostP_mem (wd := putAll wd (ms.take j)) (by rw [e4]; simp)).1
    have k2 : pr.1.toNat < os.length := by have := g4 pr hprm; omega
    rw [e4] at hd
    simp only [zq4x, zq98x, zq41x, List.sum_nil, zq183x] at hd
    have eg : os.getD pr.1.toNat 0 = os[pr.1.toNat] := by rw [zq3x, zq1x k2]; rfl
    rw [eg] at hd
    have ho := hos _ (zq11x k2)
    have hz := ht prs hpm
    have p2 := hN.1.1
    have es : os[pr.1.toNat] = sol p pr.2 (0 - dueSum prs (putAll wd (ms.take j)) % p) := by
      refine sol_eq hN.1 (g5 pr hprm) ho.1 ho.2 ?_
      have d1 := zq51x (dueSum prs (putAll wd (ms.take j))) p
      have d2 := zq51x (dueSum prs (os.map some)) p
      generalize dueSum prs (putAll wd (ms.take j)) = S at *
      generalize dueSum prs (os.map some) = T at *
      generalize os[pr.1.toNat] = o at *
      refine ⟨T / p - S / p, ?_⟩
      rw [zq66x]
      omega
    intro i x hx
    by_cases c : m.1.toNat = i
    · subst c
      have hk : m.1.toNat < (putAll wd (ms.take j)).length := by
        rw [hle, hl, <- e5]; exact k2
      rw [zq20x hk] at hx
      cases hx
      rw [<- e5, zq1x k2, es, e6]
    · rw [zq9x c] at hx
      exact ih i x hx
section
variable {G : Gx} {ρ : Rh} {Φ : Pd} {ta tb te : TE} {E : DE} {K : PySem.W.Frag}
theorem Ev.slT {tl th : TO} (h : Ev G ρ te fun f x => ∃ ds, x = .tuple ds /\ Ov G ρ tl fun lo => Ov G ρ th fun hi => ¬ (HT.sIx ds.length 0 lo = 0 /\ HT.sIx ds.length ds.length hi = ds.length) /\ Φ f (.tuple (cutA ds lo hi))) : Ev G ρ (tSl (rSlT K) te tl th) Φ := fun nb σ H Q W z =>
 h nb σ H _ W fun f v H1 d ⟨ds, e, q⟩ s1 hv => q nb σ H1 _ (W.step s1) fun lo H2 q2 s2 => q2 nb σ H2 _ ((W.step s1).step s2) fun hi H3 ⟨hn, q3⟩ s3 => by
  subst e
  obtain ⟨a, xs, rfl, n, hx, hd⟩ := ((hv.keep s2.butS).keep s3.butS).ofT
  have W3 := ((W.step s1).step s2).step s3
  refine ⟨a, xs, rfl, .of hx, by rw [hd.length]; exact hn, fun p hp => ?_⟩
  exact z f _ _ _ q3 (s1.trans (s2.trans (s3.trans (.same W3.bag (same_new hp))))) (.tup (W3.fresh hp) upd_same (hd.cut.keep (But.of (same_new hp))))
theorem Ev.catT (h : Ev G ρ ta fun f x => ∃ ds, x = .tuple ds /\ ds ≠ [] /\ Ev G ρ tb fun g y => ∃ es, y = .tuple es /\ es ≠ [] /\ ds.length + es.length <= 10000 /\ Φ (f && g) (.tuple (ds ++ es))) : Ev G ρ (tOp (rCatT K) ta tb) Φ := fun nb σ H Q W z =>
 h nb σ H _ W fun f v H1 d ⟨ds, e, hne, q⟩ s1 hv => q nb σ H1 _ (W.step s1) fun g u H2 d2 ⟨es, e2, hne2, hl, p⟩ s2 hu => by
  subst e e2
  obtain ⟨a, xs, rfl, n, hx, hd⟩ := (hv.keep s2.butS).ofT
  obtain ⟨c, ys, rfl, m, hy, hc⟩ := hu.ofT
  have W2 := (W.step s1).step s2
  have hxl := hd.length
  have hyl := hc.length
  refine ⟨a, c, xs, ys, rfl, rfl, .of hx, .of hy, fun z => hne (zq113x.mp (by rw [<- hxl, z]; rfl)), zq28x (by rw [hxl, hyl]; exact hl) (by decide), fun z => absurd (zq113x.mp (by rw [<- hyl, z]; rfl)) hne2, fun _ q hq => ?_⟩
  refine z (f && g) _ _ _ p (s1.trans (s2.trans (.same W2.bag (same_new hq)))) (.tup (W2.fresh hq) upd_same ?_)
  exact (IsDs.append (hd.av (S_mono (fun z => (zq24x _ _ ▸ z).1) fun _ z => z)) (hc.av (S_mono (fun z => (zq24x _ _ ▸ z).2) fun _ z => z))).keep (But.of (same_new hq))
end
end L2
set_option maxRecDepth 100000
set_option maxHeartbeats 4000000
namespace L2
open PySem PySem.Spec PyProof.Rows
def fAll (es : List Fd) : Bool := es.all fun e => e.1 || scB e.2
section
variable {G : Gx} {ρ : Rh} {Φ : Pd} {t : TA} {te : TE}
theorem IsF.allS {nb : Addr -> Prop} {H : Hp} : ∀ {es : List Fd} {vs : List V} {f : Bool}, IsF G nb H es vs -> (f = true -> fAll es = true) -> IsDs (G.S nb f) H (es.map (·.2)) vs
  | [], _, _, h, _ => by unfold IsF at h; subst h; exact .nil
  | e :: es, _, f, h, hf => by
    obtain ⟨v, ws, rfl, h1, h2⟩ := h
    have hh : f = true -> (e.1 || scB e.2) = true /\ fAll es = true := fun z => by
      have := hf z
      unfold fAll at this
      rw [zq81x, zq24x] at this
      exact this
    refine .cons ?_ (h2.allS fun z => (hh z).2)
    cases hs : scB e.2 with
    | true => exact h1.scAny hs
    | false => exact h1.av (S_mono (fun z => by have := (hh z).1; rw [hs, zq96x] at this; exact this) fun _ z => z)
theorem Ev.tupF (h : Av G ρ t fun es => es.length <= 10000 /\ Φ (fAll es) (.tuple (es.map (·.2)))) : Ev G ρ (tTup t) Φ := fun nb σ H Q W z =>
 h nb σ H _ W fun es vs H1 ⟨hl, p⟩ s1 q1 => ⟨zq28x (by rw [q1.len]; exact hl) (by decide), fun a ha => z _ _ _ _ p (s1.trans (.same (W.step s1).bag (same_new ha)))
  (.tup ((W.step s1).fresh ha) upd_same ((q1.allS fun z => z).keep (But.of (same_new ha))))⟩
end
def rIsNotB : R2 := fun x y H Q => ∃ a b : Bool, x = .bl a /\ y = .bl b /\ Q (.bl (!(a == b))) H
theorem Ev.isNotB {G : Gx} {ρ : Rh} {ta : TE} {b : Bool} {Φ : Pd} (h : Ev G ρ ta fun _ x => ∃ a, x = .bool a /\ Φ true (.bool (!(a == b)))) : Ev G ρ (tOp rIsNotB ta (tC (.bl b))) Φ := fun nb σ H Q W z =>
 h nb σ H _ W fun f v H1 d ⟨a, e, q⟩ s1 hv => by
  subst e
  unfold IsD at hv
  subst hv
  exact ⟨a, b, rfl, rfl, z true _ H1 _ q s1 (.bl _)⟩
theorem cut_take {α : Type} {xs : List α} {k : Int} (h0 : 0 <= k) : cutA xs none (some k) = xs.take k.toNat := by
 by_cases h : k <= xs.length
 ·exact cut_to h0 h
 ·unfold cutA HT.sIx
  simp only [zq130x, zq171x]
  rw [zq114x (by first | omega | (split <;> omega)), zq114x (by omega)]
abbrev rowD (r : List Int) : PyData := .list (r.map .int)
end L2
set_option maxRecDepth 100000
set_option maxHeartbeats 4000000
set_option maxRecDepth 100000
namespace L2
open PySem PySem.Spec PyProof.Rows
section
variable {κ : Type} [DecidableEq κ]
def valV (kvs : List (κ × V)) (k : κ) : Option V := (kvs.find? fun kv => decide (kv.1 = k)).map (·.2)
def putK (kvs : List (κ × V)) (k : κ) (v : V) : List (κ × V) :=
 if (kvs.any fun kv => decide (kv.1 = k)) = true then kvs.map (fun kv => if kv.1 = k then (kv.1, v) else kv) else kvs ++ [(k, v)]
theorem valV_nil {k : κ} : valV ([] : List (κ × V)) k = none := rfl
theorem valV_pos {p : κ × V} {r : List (κ × V)} {k : κ} (e : p.1 = k) : valV (p :: r) k = some p.2 := by simp [valV, zq84x, e]
theorem valV_neg {p : κ × V} {r : List (κ × V)} {k : κ} (e : ¬ p.1 = k) : valV (p :: r) k = valV r k := by simp [valV, zq84x, e]
theorem valV_any (k : κ) : ∀ kvs : List (κ × V), (kvs.any fun kv => decide (kv.1 = k)) = (valV kvs k).isSome
  | [] => rfl
  | p :: r => by
    rw [zq64x]
    by_cases e : p.1 = k
    · simp only [valV_pos e, decide_eq_true e, zq184x, Option.isSome_some]
    · rw [valV_neg e, decide_eq_false e, zq88x]; exact valV_any k r
theorem length_putK (kvs : List (κ × V)) (k : κ) (v : V) : (putK kvs k v).length <= kvs.length + 1 := by
 unfold putK
 split
 ·rw [zq0x]; omega
 ·rw [zq30x, zq39x, List.length_nil]; omega
theorem RelO.isSome_eq {o : Option V} {u : Option Value} (r : RelO o u) : o.isSome = u.isSome := by
  cases o with
  | none => cases u with
    | none => rfl
    | some _ => exact (show False from r).elim
  | some _ => cases u with
    | none => exact (show False from r).elim
    | some _ => rfl
theorem KV.val {kvs : List (κ × V)} {vs : List (κ × Value)} (r : KV kvs vs) (k : κ) : RelO (valV kvs k) (valueAt vs k) := by
  unfold KV at r
  induction r with
  | nil => exact True.intro
  | @cons p q ps qs h t ih =>
    obtain ⟨h1, h2⟩ := h
    by_cases e : p.1 = k
    · have e' : q.1 = k := h1.symm.trans e
      have b : valueAt (q :: qs) k = some q.2 := by simp [valueAt, zq84x, e']
      rw [valV_pos e, b]; exact h2
    · have e' : ¬ q.1 = k := fun z => e (h1.trans z)
      have b : valueAt (q :: qs) k = valueAt qs k := by simp [valueAt, zq84x, e']
      rw [valV_neg e, b]; exact ih
theorem KV.any {kvs : List (κ × V)} {vs : List (κ × Value)} (r : KV kvs vs) (k : κ) : (kvs.any fun kv => decide (kv.1 = k)) = vs.any fun kv => decide (kv.1 = k) := by
 unfold KV at r
 induction r with
 | nil => rfl
 | cons h t ih => rw [zq64x, zq64x, ih, h.1]
theorem KV.repl {kvs : List (κ × V)} {vs : List (κ × Value)} (r : KV kvs vs) (k : κ) {y : V} {u : Value} (ry : RelV y u) :
    KV (kvs.map fun kv => if kv.1 = k then (kv.1, y) else kv) (vs.map fun kv => if kv.1 = k then (kv.1, u) else kv) := by
  unfold KV at r ⊢
  induction r with
  | nil => exact .nil
  | @cons p q ps qs h t ih =>
    rw [zq4x, zq4x]
    refine .cons ?_ ih
    obtain ⟨h1, h2⟩ := h
    by_cases e : p.1 = k
    · rw [if_pos e, if_pos (h1.symm.trans e)]; exact ⟨h1, ry⟩
    · rw [if_neg e, if_neg (fun z => e (h1.trans z))]; exact ⟨h1, h2⟩
theorem KV.put {kvs : List (κ × V)} {vs : List (κ × Value)} (r : KV kvs vs) (k : κ) {y : V} {u : Value} (ry : RelV y u) : KV (putK kvs k y) (stored vs k u) := by
 unfold putK stored
 rw [r.any k]
 by_cases e : (vs.any fun kv => decide (kv.1 = k)) = true
 ·rw [if_pos e, if_pos e]; exact r.repl k ry
 ·rw [if_neg e, if_neg e]; exact Paired.snoc r ⟨rfl, ry⟩
theorem KV.keys {kvs : List (κ × V)} {vs : List (κ × Value)} (r : KV kvs vs) : kvs.map (·.1) = vs.map (·.1) := by
 unfold KV at r
 induction r with
 | nil => rfl
 | cons h t ih => rw [zq4x, zq4x, ih, h.1]
theorem KV.length {kvs : List (κ × V)} {vs : List (κ × Value)} (r : KV kvs vs) : kvs.length = vs.length := Paired.length r
end
theorem kV_is {P : Program} {w : World} {k : Key} {u : Value} (r : RelV (kV k) u) : (mixKind P w).is k u = true := by
 cases k with
 | inl i => obtain ⟨t, e⟩ := (show ∃ t, u = Value.int i t from r); subst e; exact mixKind_int P w i t
 | inr x => obtain ⟨t, e⟩ := (show ∃ t, u = Value.str x t from r); subst e; exact mixKind_str P w x t
theorem items_are {P : Program} {w : World} : ∀ {ks : List Key} {us : List Value}, Vals (ks.map kV) us -> ItemsAre (mixKind P w) ks us
  | [], _, r => by rw [zq98x] at r; cases r; exact .nil
  | k :: ks, _, r => by
    rw [zq4x] at r
    cases r with
    | cons h t => exact .cons (kV_is h) (items_are t)
abbrev KT (H : Hp) : List (List Key × V) -> List (List Key × Addr × Value) -> Prop := Paired fun p q => p.1 = q.1 /\ H q.2.1 = some (.tup (p.1.map kV)) /\ RelV p.2 q.2.2
theorem KT.val {H : Hp} {kvs : List (List Key × V)} {xs : List (List Key × Addr × Value)} (r : KT H kvs xs) (k : List Key) : RelO (valV kvs k) ((atKey xs k).map (·.2)) := by
  induction r with
  | nil => exact True.intro
  | @cons p q ps qs h t ih =>
    obtain ⟨h1, _, h2⟩ := h
    by_cases e : p.1 = k
    · have e' : q.1 = k := h1.symm.trans e
      have b : atKey (q :: qs) k = some q.2 := by simp [atKey, zq84x, e']
      rw [valV_pos e, b]; exact h2
    · have e' : ¬ q.1 = k := fun z => e (h1.trans z)
      have b : atKey (q :: qs) k = atKey qs k := by simp [atKey, zq84x, e']
      rw [valV_neg e, b]; exact ih
section
variable {P : Program} {w : World} {H : Hp} {h : Heap} {a : Addr}
theorem rd_of {u : HO} (ok : HOk P w H h) (e : Rd H a u) : ObjOk P w H h a u := e.ok ok
theorem dk_rd {kvs : List (Key × V)} (ok : HOk P w H h) (e : Rd H a (.dK kvs)) : kvs.length <= sizeLine /\ (a == sysModules) = false /\ ∃ vs, KV kvs vs /\ h.DictOf (mixKind P w) a vs :=
 show ObjOk P w H h a (.dK kvs) from rd_of ok e
theorem dk_of {kvs : List (Key × V)} (ok : HOk P w H h) (e : H a = some (.dK kvs)) : kvs.length <= sizeLine /\ (a == sysModules) = false /\ ∃ vs, KV kvs vs /\ h.DictOf (mixKind P w) a vs := dk_rd ok (.inl e)
theorem key_of {ks : List Key} (ok : HOk P w H h) (e : H a = some (.tup (ks.map kV))) : (tupleKind (mixKind P w)).is h ks a := by
 obtain ⟨_, its, r, o, h1, h2, n, h3⟩ := (show ObjOk P w H h a (.tup (ks.map kV)) from ok a _ e)
 exact ⟨o, its.toArray, n, h1, h2, h3, by simpa using items_are r⟩
theorem dt_rd {kvs : List (List Key × V)} (ok : HOk P w H h) (e : Rd H a (.dT kvs)) : kvs.length <= sizeLine /\ (a == sysModules) = false /\
    ∃ xs, KT H kvs xs /\ h.DictOfH (tupleKind (mixKind P w)) a xs := by
  obtain ⟨z, y, xs, r, o, es, ep, h1, h2, h3, h4, h5⟩ := (show ObjOk P w H h a (.dT kvs) from rd_of ok e)
  refine ⟨z, y, xs, r, o, es, ep, h1, h2, h3, h4, fun x hx => ?_, h5⟩
  have all : ∀ {l : List (List Key × V)} {m : List (List Key × Addr × Value)}, KT H l m -> ∀ x ∈ m, (tupleKind (mixKind P w)).is h x.1 x.2.1 := by
    intro l m q
    induction q with
    | nil => intro x hx; exact nomatch hx
    | @cons p q ps qs hq t ih =>
      intro x hx
      rcases zq2x.mp hx with e | hx
      · subst e
        exact key_of ok (by rw [<- hq.1]; exact hq.2.1)
      · exact ih x hx
  exact all r x hx
end
def DGet (H : Hp) (a : Addr) (y : V) (r : Option V) : Prop :=
 (∃ kvs k, Rd H a (.dK kvs) /\ y = kV k /\ r = valV kvs k) \/ ∃ kvs k b, Rd H a (.dT kvs) /\ y = .ref b /\ H b = some (.tup (k.map kV)) /\ r = valV kvs k
theorem DGet.k {H : Hp} {a : Addr} {kvs : List (Key × V)} {k : Key} (e : H a = some (.dK kvs)) : DGet H a (kV k) (valV kvs k) := .inl ⟨kvs, k, .inl e, rfl, rfl⟩
section
variable {X : Cx} {pins : List (Addr × Obj)} {σ : St} {H : Hp} {s : Shared} {a : Addr} {y v : V} {u r : Value} {o : Option V} {A : Around} {E : Value -> Shared -> Prop}
theorem Inv.big (I : Inv X pins σ H s) : sysModules < s.heap.objs.size := by
 have h : mainGlobals < s.heap.objs.size := (I.mod.glob.keeps I.bk).lt
 exact Nat.lt_trans (by decide) h
theorem d_in {Q : Value -> Shared -> Prop} (hu : A.units + 1 < cLine) (I : Inv X pins σ H s) (g : DGet H a y o) (ry : RelV y u) (h : ∀ s', Inv X pins σ H s' -> Q (.bool o.isSome) s') :
  wpAny (model X.prog X.w) A (compareOp .In u (.ref a)) Q E s := by
 rcases g with ⟨kvs, k, e, ey, l⟩ | ⟨kvs, k, b, e, ey, eb, l⟩
 ·subst ey
  obtain ⟨z, hd, vs, rel, dd⟩ := dk_rd I.hok e
  refine wpAny_in_of (kV_is ry) hd dd.mapOf ?_
  rw [<- (rel.val k).isSome_eq, <- l]
  exact h _ (I.tok _)
 ·subst ey
  cases (show u = Value.ref b from ry)
  obtain ⟨z, hd, xs, rel, dd⟩ := dt_rd I.hok e
  refine wpAny_in_heap (tupleKind_room_in1 hu) (key_of I.hok eb) hd dd ?_
  have q := (rel.val k).isSome_eq
  rw [zq185x] at q
  rw [<- q, <- l]
  exact h _ (I.tok _)
theorem d_notIn {Q : Value -> Shared -> Prop} (hu : A.units + 1 < cLine) (I : Inv X pins σ H s) (g : DGet H a y o) (ry : RelV y u) (h : ∀ s', Inv X pins σ H s' -> Q (.bool (!o.isSome)) s') :
  wpAny (model X.prog X.w) A (compareOp .NotIn u (.ref a)) Q E s := by
 rcases g with ⟨kvs, k, e, ey, l⟩ | ⟨kvs, k, b, e, ey, eb, l⟩
 ·subst ey
  obtain ⟨z, hd, vs, rel, dd⟩ := dk_rd I.hok e
  refine wpAny_notIn_of (kV_is ry) hd dd.mapOf ?_
  rw [<- (rel.val k).isSome_eq, <- l]
  exact h _ (I.tok _)
 ·subst ey
  cases (show u = Value.ref b from ry)
  obtain ⟨z, hd, xs, rel, dd⟩ := dt_rd I.hok e
  refine wpAny_notIn_heap (tupleKind_room_in1 hu) (key_of I.hok eb) hd dd ?_
  have q := (rel.val k).isSome_eq
  rw [zq185x] at q
  rw [<- q, <- l]
  exact h _ (I.tok _)
theorem d_write {h' : Heap} {t' : Nat} {ob : HO} (I : Inv X pins σ H s) (mu : Mut (H a)) (hs : Heap.SameBut a s.heap h') (he : ∃ q, h'.get? a = some q) (new : ObjOk X.prog X.w (upd H a ob) h' a ob) :
  Inv X pins σ (upd H a ob) { s with heap := h', toks := t' } :=
 I.write (x := a) (e := a) mu (.inl rfl) (fun b q hb z => (hs.2 b hb).trans z) he new
theorem dk_new {P : Program} {w : World} {H' : Hp} {h' : Heap} {kvs : List (Key × V)} {vs : List (Key × Value)} (z : kvs.length <= sizeLine) (hd : (a == sysModules) = false) (rel : KV kvs vs) (dd : h'.DictOf (mixKind P w) a vs) :
  ObjOk P w H' h' a (.dK kvs) := ⟨z, hd, vs, rel, dd⟩
end
theorem dk_empty {P : Program} {w : World} {H : Hp} (h : Heap) (hb : sysModules < h.objs.size) : ObjOk P w H (h.push { cls := .type "dict", data := .dict #[] }) h.objs.size (.dK []) :=
 ⟨zq37x _, beq_eq_false_iff_ne.mpr (zq14x (zq32x hb)), [], .nil, Heap.DictOf.new h⟩
def tDNewK : TE := fun _ H Q => ∀ p, H p = none -> Q (.ref p) (upd H p (.dK []))
section
variable {X : Cx} {pos : Pos}
theorem pe_dnewK : PE X (.Dict [] [] pos) tDNewK := fun pins s σ H Q I h =>
 wpAny_Dict_empty ⟨.ref s.heap.objs.size, _, I.laid (a := s.heap.objs.size) (o := .dK []) (t' := s.toks) (fun _ _ q => zq33x _ q) (zq5x _) (dk_empty s.heap I.big), rfl, h _ (I.hok.fresh (zq5x _))⟩
end
end L2
/- THE LAST THEOREM (shape; LID, My.* are yours):
   My.Adr: a structure of the addresses that your layer names (classes, functions); My.Txt K t: a structure (Prop) of the equations over K;
   My.txt_mk : {K} {implicit addresses ..} (e1 : nsIn K mainGlobals "law" = some (some (.ref f))) (e2 : K.lookup f = some ⟨oc, od, .func (fnOf "law" "law" params body scope dV kV doc pm an cdv ct), sl⟩) (e3 : codeIn K cdv "law" = true) .. : ∃ t, My.Txt K t
set_option maxRecDepth 100000 in
set_option maxHeartbeats 0 in
(the tactic k_is has no namespace: write k_is) -/
set_option maxRecDepth 100000
set_option maxHeartbeats 4000000
namespace L2
open PySem PySem.Spec PyProof.Rows
section
variable {prog : Program} {w : World} {A : Around} {E : Value -> Shared -> Prop} {s : Shared}
theorem collect_kdl {T : String} {r d : Addr} {n : Nat} {P : Nat -> Value -> Prop} {OK : Heap -> Prop} {Q : List Value -> Shared -> Prop} (K : PySem.W.KdlSrc prog w T r d n P OK) (hh : A.handled = none) (hok : OK s.heap) (hn : n <= sizeLine)
  (hQ : ∀ h' tk' items, (∀ b o, s.heap.get? b = some o -> h'.get? b = some o) -> s.heap.objs.size <= h'.objs.size -> items.length = n -> (∀ (i : Nat) v, items[i]? = some v -> P i v) -> Q items { s with heap := h', toks := tk' }) : wpAny (model prog w) A (collect (.ref r)) Q E s := by
 obtain ⟨lr, ld⟩ := K.there _ hok
 unfold collect
 refine wpAny_bind (wpAny_runValue (codeAny_builtin PySem.F.entry_proto_collect ?_))
 rw [Around.under_plainId PySem.F.plain_proto_collect _]
 show wpAny _ A.in1 (newList [] >>= fun l => again (.builtin "list.__iadd__" ⟨[l, .ref r], []⟩)) _ _ s
 refine wpAny_bind (wpAny_newObj_type ?_)
 refine wpAny_pure ⟨plainId_quiet zq212x _, codeAny_builtin PySem.F.entry_list_iadd ?_⟩
 rw [Around.under_plainId zq212x _]
 have gL : (s.heap.push ({ cls := .type "list", data := .seq ([] : List Value).toArray } : Obj)).get? s.heap.objs.size = some { cls := .type "list", data := .seq ([] : List Value).toArray } := zq42x _ rfl
 show wpAny _ A.in1 (Builtin.List.listExtendWith (.ref s.heap.objs.size) (.ref r) (.ref s.heap.objs.size)) _ _ { s with heap := s.heap.push ({ cls := .type "list", data := .seq ([] : List Value).toArray } : Obj) }
 refine PySem.W.kdl_extend (A := A) (R := fun r s' => match r with
    | .ok (.ret v) => wpAny (model prog w) A (match v with | .ref x => (do match (<- load x).data with | .seq xs _ => pure xs.toList | _ => unsupported "internal:collect") | _ => unsupported "internal:collect") Q E s'
    | .ok _ => False
    | .error e => E e s') (s := { s with heap := s.heap.push ({ cls := .type "list", data := .seq ([] : List Value).toArray } : Obj) }) K hh (K.keep _ _ hok fun b _ o e => zq33x _ e) s.heap.objs.size (zq151x lr) (zq151x ld) _ _ gL (fun h' tk acc' c' hk hS hacc => ?_) hn
 refine wpAny_bind (wpAny_load hS (wpAny_pure ?_))
 refine hQ h' tk acc'.toList (fun b o e => hk b o (zq32x (zq12x e)) (zq33x _ e)) (zq78x (zq12x hS)) (by rw [zq79x]; exact hacc.1) fun i v e => hacc.2 i v (by rw [<- zq164x]; exact e)
theorem sorted_dictI {a : Addr} {vs : List (Key × Value)} {ms : List Int} {Q : Value -> Shared -> Prop} (hh : A.handled = none) (lo : (a == sysModules) = false) (hd : s.heap.DictOf (mixKind prog w) a vs) (hk : vs.map (·.1) = ms.map Sum.inl) (h64 : ms.length < 64)
    (h : ∀ h' tk' (l : Addr) (out : List Value) (ns : List Int) (e : Nat), (∀ b o, s.heap.get? b = some o -> h'.get? b = some o) -> s.heap.objs.size <= l -> h'.get? l = some (seqObj "list" out.toArray e) -> IntsAre out ns -> ns.Pairwise (· <= ·) -> ns.Perm ms ->
      Q (.ref l) { s with heap := h', toks := tk' }) : wpAny (model prog w) A (call (.builtin "sorted") [.ref a]) Q E s := by
  obtain ⟨ep, hat⟩ := hd.dictAt
  have hvl : vs.length = ms.length := by have := congrArg List.length hk; simpa using this
  refine zq186x kind_sorted plain_sorted entry_sorted (args_sorted1 _) ?_
  unfold Builtin.«sorted»
  refine wpAny_bind (m := checkCount "sorted" 1 1 _) (wpAny_pure (wpAny_bind ?_))
  refine collect_kdl (A := A.in1) (PySem.W.kdl_dict lo) hh hat (by rw [hvl]; exact zq28x (zq78x h64) (by decide)) fun h1 tk1 items k1 k2 hil hit => ?_
  have hI : IntsAre items ms := by
    have key : ∀ (its : List Value) (us : List (Key × Value)) (ms : List Int), us.map (·.1) = ms.map Sum.inl -> its.length = us.length -> (∀ (i : Nat) v, its[i]? = some v -> ∃ k x, us[i]? = some (k, x) /\ (mixKind prog w).is k v = true) -> IntsAre its ms := by
      intro its
      induction its with
      | nil =>
        intro us ms e l _
        cases us with
        | nil => cases ms with
          | nil => exact .nil
          | cons _ _ => cases e
        | cons _ _ => cases l
      | cons v its ih =>
        intro us ms e l hp
        cases us with
        | nil => cases l
        | cons u us => cases ms with
          | nil => cases e
          | cons m ms =>
            have e1 : u.1 = Sum.inl m := by injection e
            have e2 : us.map (·.1) = ms.map Sum.inl := by injection e
            obtain ⟨k, x, q1, q2⟩ := hp 0 v rfl
            have q1 : u = (k, x) := by simpa using q1
            subst q1
            have e1 : k = Sum.inl m := e1
            subst e1
            obtain ⟨t, rfl⟩ := Value.isInt_shape (k := m) (v := v) q2
            exact .cons m t (ih us ms e2 (by simpa using l) fun i v q => by simpa using hp (i + 1) v (by simpa using q))
    exact key items vs ms hk hil hit
  have hlen : items.length = ms.length := by rw [hil, hvl]
  refine wpAny_bind (wpAny_newList ?_)
  have gL : (h1.push (seqObj "list" items.toArray 0)).get? h1.objs.size = some (seqObj "list" items.toArray 0) := zq42x _ rfl
  refine wpAny_bind (wpAny_holding (wpAny_call_entry slot_list_sort ⟨_, gL, rfl⟩ entry_list_sort (list_sort_tree gL hI (by omega) fun out ns' a1 a2 a3 => ⟨_, rfl, ?_⟩) (args_list_sort _)))
  obtain ⟨e, he⟩ := sortedHeap_at (out := out) gL
  refine wpAny_pure ⟨_, rfl, h _ tk1 h1.objs.size out.toList ns' e (fun b o q => ?_) k2 (by simpa using he) a1 a3 a2⟩
  have lb := zq12x (k1 b o q)
  rw [sortedHeap_old (zq32x lb) (by rw [zq86x]; exact zq91x lb)]
  exact zq33x _ (k1 b o q)
end
def rSortedD : List V -> Hp -> VK -> Prop := fun xs H Q => ∃ a, ∃ kvs : List (Key × V), ∃ ms : List Int, xs = [.ref a] /\ Rd H a (.dK kvs) /\ kvs.map (·.1) = ms.map Sum.inl /\ ms.length < 64 /\
 ∀ l (rs : List Int), H l = none -> rs.Pairwise (· <= ·) -> rs.Perm ms -> Q (.ref l) (upd H l (.lst (rs.map V.int)))
theorem call_sortD {X : Cx} (hc : X.calm = true) : CallR X (.builtin "sorted") rSortedD := by
 intro pins s σ H xs us Q I rv h
 obtain ⟨a, kvs, ms, rfl, hH, hk, h64, q⟩ := h
 obtain ⟨u, rfl, ru⟩ := vals1 rv
 cases ru
 obtain ⟨z, hd, vs, rel, dd⟩ := dk_rd I.hok hH
 refine sorted_dictI (I.ok.hd hc) hd dd (by rw [<- rel.keys]; exact hk) h64 fun h' tk' l out ns e kp hl gl hI pw pp => ?_
 have new : ObjOk X.prog X.w (upd H l (.lst (ns.map V.int))) h' l (.lst (ns.map V.int)) := by
  refine ⟨?_, out, e, ints_vals hI, gl⟩
  rw [zq0x, pp.length_eq]; exact zq28x (zq78x h64) (by decide)
 exact ⟨.ref l, _, I.laid (t' := tk') kp hl new, rfl, q _ _ (I.hok.fresh hl) pw pp⟩
section
variable {X : Cx}
def rIxD : R2 := fun x y H Q => ∃ a kvs k v, x = .ref a /\ y = kV k /\ Rd H a (.dK kvs) /\ valV kvs k = some v /\ Q v H
theorem ix_dict : IxR X rIxD := by
 intro value slice pins s σ H x y v u Q I rx ry h hs
 obtain ⟨a, kvs, k, z, rfl, rfl, hH, hv, q⟩ := h
 cases rx
 obtain ⟨hz, hd, vs, rel, dd⟩ := dk_rd I.hok hH
 have hT := dd.typeIs (s := s)
 obtain ⟨w', hw, rw'⟩ := RelO.some_of (v := z) (o := valueAt vs k) (by rw [<- hv]; exact rel.val k)
 unfold subscriptTail
 refine wpAny_bind ?_
 rw [getitemInPython_of_ne hT.not_modules]
 refine wpAny_bind (wpAny_specialOf hT PySem.F.slot_dict_getitem.lookup ?_)
 have fin : wpAny (model X.prog X.w) X.A (subscripted slice false (.ref a) u) (fun r s₃ => wpAny (model X.prog X.w) X.A (letTemporaryGo value (.ref a) r >>= fun _ => pure r) (EP X pins σ Q) X.xe s₃) X.xe s := by
  rw [hs]
  refine wpAny_operating (wpAny_getItem_of (kV_is ry) dd.mapOf hw ?_)
  exact wpAny_bind (wpAny_letTemporaryGo (wpAny_pure ⟨z, H, I.tok _, rw', q⟩))
 first
  | exact wpAny_pure (wpAny_bind fin)
  | exact wpAny_bind (wpAny_pure (wpAny_bind fin))
  | exact wpAny_bind fin
def rPutD : V -> V -> V -> Hp -> (Hp -> Prop) -> Prop := fun o i v H Q => ∃ a kvs k, o = .ref a /\ i = kV k /\ H a = some (.dK kvs) /\ kvs.length < sizeLine /\ Q (upd H a (.dK (putK kvs k v)))
theorem set_dict : PSet X rPutD := by
 intro pins s σ H o i v ov iv u Q I ro ri rv h
 obtain ⟨a, kvs, k, rfl, rfl, hH, hl0, q⟩ := h
 cases ro
 obtain ⟨z, hd, vs, rel, dd⟩ := dk_of I.hok hH
 have hz : vs.length <= sizeLine := by rw [<- rel.length]; exact z
 have hl : (putK kvs k v).length <= sizeLine := by have := length_putK kvs k v; omega
 refine wpAny_setItem_pairs (hsz := hz) (kV_is ri) dd fun h' dd' hs => ?_
 have he : ∃ q, h'.get? a = some q := let ⟨q, _, _, hq, _⟩ := dd'; ⟨q, hq⟩
 exact ⟨_, d_write I (by rw [hH]; exact True.intro) hs he (dk_new hl hd (rel.put k rv) dd'), q⟩
end
end L2
set_option maxRecDepth 100000
set_option maxHeartbeats 4000000
set_option maxRecDepth 100000
set_option maxHeartbeats 4000000
namespace L2
abbrev Cn := List (Int × Int)
structure CntOk (cs : Cn) : Prop where
 rng : ∀ c ∈ cs, 0 <= c.1 /\ c.1 <= 12 /\ 0 <= c.2 /\ c.2 <= 10 ^ 7
 nd : (cs.map (·.1)).Nodup
 len : cs.length <= 14
 pos : ∃ c ∈ cs, 0 < c.1 /\ 0 < c.2
def sumS : Cn -> Rat -> Rat
 | [], _ => 0
 | c :: r, v => (if 0 < c.1 then ((c.1 * c.2 : Int) : Rat) * v ^ (c.1.toNat - 1) else 0) + sumS r v
def sumW : Cn -> Int
 | [] => 0
 | c :: r => c.1 * c.2 + sumW r
def tellT (cs : Cn) (v : Rat) : Rat := sumS cs v / (sumW cs : Int)
def growG (l c : Cn) (s v : Rat) : Rat := s * tellT l (1 - tellT c (1 - v))
section
variable {l c : Cn} {s : Rat} (hl : CntOk l) (hc : CntOk c) (s0 : 0 <= s)
include hl hc s0
end
def ceilR (x : Rat) : Int := -((-x).floor)
end L2
namespace L2
structure Gw where
 l : Cn
 c : Cn
 s : Rat
 u : Int
def Gw.gr (g : Gw) (x : Int) : Rat := growG g.l g.c g.s ((x : Rat) / g.u) * g.u
def Gw.lo (g : Gw) : Nat -> Int
 | 0 => (g.s * g.u).floor
 | k + 1 => (g.gr (g.lo k)).floor
def Gw.hi (g : Gw) : Nat -> Int
 | 0 => ceilR (g.s * g.u)
 | k + 1 => ceilR (g.gr (g.hi k))
end L2
set_option maxRecDepth 100000
set_option maxHeartbeats 4000000
namespace L2
open PySem PySem.Spec PyProof.Rows
@[reducible] def bdD (g : Gw) (k : Nat) : PyData := .tuple [.int (g.lo k), .int (g.hi k)]
@[reducible] def fallD (n : Nat) : PyData := .tuple [.str "falls", .int n]
@[reducible] def stayD (x : Int) : PyData := .tuple [.str "stays", .int x]
@[reducible] def openD : PyData := .tuple [.str "open"]
def gLst (K : PySem.W.Frag) (n : Nat) (t : TGs) : TG := fun v σ H Q => ∃ a xs, v = .ref a /\ SqL K H a xs /\ xs.length = n /\ t xs σ H Q
theorem Gv.lst {G : Gx} {ρ : Rh} {f : Bool} {ds : List PyData} {K : PySem.W.Frag} {Θ : Rh -> Prop} {n : Nat} {u : TGs} (hl : ds.length = n) (h : Gvs G ρ u f ds Θ) : Gv G ρ (gLst K n u) f (.list ds) Θ := fun nb σ H v Q W hv z => by
 obtain ⟨a, xs, rfl, m, hx, hd⟩ := hv.ofL
 exact ⟨a, xs, rfl, .of hx, by rw [hd.length]; exact hl, h nb σ H xs Q W hd z⟩
end L2
set_option maxRecDepth 100000
set_option maxHeartbeats 4000000
namespace L2
open PySem PySem.Spec PyProof.Rows PySem.W
section
variable {n : Nat} {cmp : Nat -> Nat -> (Bool -> Shared -> Prop) -> Shared -> Prop} {s : Shared}
def VP (n : Nat) (p : Array Nat) : Prop := p.toList.Perm (List.range n)
theorem VP.of {p q : Array Nat} (h : VP n p) (z : q.Perm p) : VP n q := (Array.perm_iff_toList_perm.mp z).trans h
theorem VP.lt {p : Array Nat} (h0 : 0 < n) (h : VP n p) (k : Nat) : p.getD k 0 < n := by
 by_cases hk : k < p.size
 ·have e : p.getD k 0 = p[k] := by simp [Array.getD, hk]
  rw [e]
  have m : p[k] ∈ p.toList := by simp
  exact zq29x.mp (h.mem_iff.mp m)
 ·have e : p.getD k 0 = 0 := by simp [Array.getD, hk]
  rw [e]; exact h0
variable (h0 : 0 < n) (hc : ∀ i j C, i < n -> j < n -> (∀ b, C b s) -> cmp i j C s)
include h0 hc
theorem asc_any {p : Array Nat} (hp : VP n p) {Q : Nat -> Shared -> Prop} (hQ : ∀ r, Q r s) : ∀ f m, (kas_asc p f m).kasWp cmp Q s
  | 0, m => hQ m
  | f + 1, m => hc _ _ _ (hp.lt h0 _) (hp.lt h0 _) fun b => by
    cases b with
    | true => exact hQ m
    | false => exact asc_any hp hQ f (m + 1)
theorem desc_any {Q : Array Nat × Nat × Nat -> Shared -> Prop} (hQ : ∀ p m q, VP n p -> Q (p, m, q) s) : ∀ f p m q, VP n p -> (kas_desc f p m q).kasWp cmp Q s
  | 0, p, m, q, hp => hQ p m q hp
  | f + 1, p, m, q, hp => hc _ _ _ (hp.lt h0 _) (hp.lt h0 _) fun b => by
    cases b with
    | true =>
      simp only [if_true]
      split
      · exact desc_any hQ f _ _ _ (hp.of (mirror_perm _ _ _ _))
      · exact desc_any hQ f _ _ _ hp
    | false =>
      simp only [zq105x, if_false]
      refine hc _ _ _ (hp.lt h0 _) (hp.lt h0 _) fun b => ?_
      cases b with
      | true => simp only [if_true]; exact hQ p m q hp
      | false => simp only [zq105x, if_false]; exact desc_any hQ f p (m + 1) (q + 1) hp
theorem tail3_any {p : Array Nat} (hp : VP n p) {Q : Nat × Array Nat -> Shared -> Prop} (hQ : ∀ m p, VP n p -> Q (m, p) s) (m r : Nat) : (kas_tail3 m r p).kasWp cmp Q s := by
 unfold kas_tail3
 rw [zq118x]
 have hp' : VP n (kas_rev p 0 m) := hp.of (mirror_perm _ _ _ _)
 exact asc_any h0 hc hp' (fun r => hQ r _ hp') _ _
theorem descPart_any {p : Array Nat} (hp : VP n p) {Q : Nat × Array Nat -> Shared -> Prop} (hQ : ∀ m p, VP n p -> Q (m, p) s) (m r : Nat) : (kas_descPart m r p).kasWp cmp Q s := by
 unfold kas_descPart
 rw [zq118x]
 refine desc_any h0 hc (fun p' m' q' hp' => ?_) _ _ _ _ hp
 split
 ·exact tail3_any h0 hc (hp'.of (mirror_perm _ _ _ _)) hQ _ _
 ·exact tail3_any h0 hc hp' hQ _ _
theorem count_any {p : Array Nat} (hp : VP n p) {Q : Nat × Array Nat -> Shared -> Prop} (hQ : ∀ m p, VP n p -> Q (m, p) s) (r : Nat) : (kas_count r p).kasWp cmp Q s := by
 unfold kas_count
 rw [zq118x]
 refine asc_any h0 hc hp (fun m => ?_) _ _
 split
 ·exact hQ _ _ hp
 split
 ·refine hc _ _ _ (hp.lt h0 _) (hp.lt h0 _) fun b => ?_
  cases b with
  | true => simp only [if_true]; exact hQ _ _ hp
  | false => simp only [zq105x, if_false]; exact descPart_any h0 hc (hp.of (mirror_perm _ _ _ _)) hQ _ _
 ·exact descPart_any h0 hc hp hQ _ _
theorem place_any {p : Array Nat} (hp : VP n p) (k : Nat) {Q : Nat -> Shared -> Prop} (hQ : ∀ r, Q r s) : ∀ f l r, (kas_place p k f l r).kasWp cmp Q s
  | 0, l, r => hQ l
  | f + 1, l, r => by
    unfold kas_place
    split
    · exact hQ l
    · refine hc _ _ _ (hp.lt h0 _) (hp.lt h0 _) fun b => ?_
      cases b with
      | true => simp only [if_true]; exact place_any hp k hQ f _ _
      | false => simp only [zq105x, if_false]; exact place_any hp k hQ f _ _
theorem bin_any {Q : Array Nat -> Shared -> Prop} (hQ : ∀ p, VP n p -> Q p s) : ∀ f p k, VP n p -> (kas_bin f p k).kasWp cmp Q s
  | 0, p, k, hp => hQ p hp
  | f + 1, p, k, hp => by
    unfold kas_bin
    rw [zq118x]
    exact place_any h0 hc hp k (fun l => bin_any hQ f _ _ (hp.of (bubble_perm _ _ _))) _ _ _
theorem sort_any {Q : Array Nat -> Shared -> Prop} (hQ : ∀ p, VP n p -> Q p s) : (kas_sort n).kasWp cmp Q s := by
 unfold kas_sort
 rw [zq118x]
 refine count_any h0 hc (p := List.toArray (List.range n)) (by unfold VP; exact .refl _) (fun m p hp => ?_) _
 dsimp only
 split
 ·exact bin_any h0 hc hQ _ _ _ hp
 ·exact hQ _ hp
end
def PairAt (h : Heap) (v : Value) : Prop := ∃ a o i j t u m, v = .ref a /\ h.get? a = some o /\ o.cls = .type "tuple" /\ o.data = .seq #[.int i t, .int j u] m
section
variable {prog : Program} {w : World} {A : Around} {E : Value -> Shared -> Prop} {s : Shared}
theorem pair_lt {x y : Value} {C : Bool -> Shared -> Prop} (hx : PairAt s.heap x) (hy : PairAt s.heap y) (h : ∀ b, C b s) : wpAny (model prog w) A (keyLt' (tuples' true) x y) C E s := by
  obtain ⟨a, o, i, j, t, u, m, rfl, h1, h2, h3⟩ := hx
  obtain ⟨a', o', i', j', t', u', m', rfl, h1', h2', h3'⟩ := hy
  refine kat_lt h1 h3 h1' h3' ?_
  refine kat_cons (wpAny_eqBool_int ?_)
  cases (i == i') with
  | false =>
    refine kat_no ?_
    exact oneLt_int (h _)
  | true =>
    refine kat_yes (kat_cons (wpAny_eqBool_int ?_))
    cases (j == j') with
    | false =>
      refine kat_no ?_
      refine kat_one _ _ (lt_int ?_)
      exact h _
    | true => exact kat_yes (kat_nil (h _))
theorem pairs_kind {M : Model} {vs : List Value} {Q : SortKind -> Shared -> Prop} (hp : ∀ v ∈ vs, PairAt s.heap v) (hne : 0 < vs.length) (h : Q (tuples' true) s) : wpAny M A (keyKind' vs.toArray) Q E s := by
  obtain ⟨fs, hf, hl, hT⟩ : ∃ fs : List Value, KatTups s.heap vs fs /\ fs.length = vs.length /\ ∀ v ∈ fs, ∃ i t, v = .int i t := by
    clear hne h
    induction vs with
    | nil => exact ⟨[], .nil, rfl, fun _ h => nomatch h⟩
    | cons v r ih =>
      obtain ⟨fs, h1, h2, h3⟩ := ih fun x hx => hp x (zq23x _ hx)
      obtain ⟨a, o, i, j, t, u, m, rfl, g1, g2, g3⟩ := hp v (zq19x ..)
      refine ⟨.int i t :: fs, .cons g1 g2 g3 rfl h1, by simp [h2], fun x hx => ?_⟩
      rcases zq2x.mp hx with e | hx
      · exact ⟨i, t, e⟩
      · exact h3 x hx
  refine kat_kind (T := .type "int") hf (by omega) (fun v hv => ?_) (by decide) h
  obtain ⟨i, t, rfl⟩ := hT v hv
  exact Looks.of_pure rfl
theorem PairAt.keep {h h' : Heap} {v : Value} (x : PairAt h v) (k : ∀ b o, h.get? b = some o -> h'.get? b = some o) : PairAt h' v := by
 obtain ⟨a, o, i, j, t, u, m, e, h1, h2, h3⟩ := x
 exact ⟨a, o, i, j, t, u, m, e, k _ _ h1, h2, h3⟩
theorem list_sort_pairs {a : Addr} {vs : List Value} {n : Nat} {P : Fin -> Shared -> Prop} (ho : s.heap.get? a = some (seqObj "list" vs.toArray n)) (hp : ∀ v ∈ vs, PairAt s.heap v) (hna : ∀ v ∈ vs, v ≠ .ref a) (h64 : vs.length < 64)
  (h : ∀ out : Array Value, out.toList.Perm vs -> P (.done (.ret .none)) { s with heap := sortedHeap s.heap a vs out }) :
  wpAny (model prog w) A (Builtin.«list.sort» ⟨[.ref a], []⟩) P E s := by
 rw [list_sort_plain]
 have ha : a < s.heap.objs.size := zq12x ho
 refine wpAny_bind (listItems_at ho rfl ?_)
 refine wpAny_bind (listUpdate_at ho rfl ?_)
 obtain ⟨e1, ho1⟩ : ∃ e1, (s.heap.update a (Obj.mapSeq fun _ => #[])).get? a = some (seqObj "list" #[] e1) := ⟨_, get?_update_seq ho (fun _ => #[])⟩
 refine wpAny_bind (seqEpoch_at ho1 rfl ?_)
 refine wpAny_bind (wpAny_newTuple ?_)
 refine wpAny_bind (wpAny_newList ?_)
 refine wpAny_holding ?_
 have ho6 : (((s.heap.update a (Obj.mapSeq fun _ => #[])).push (seqObj "tuple" vs.toArray 0)).push (seqObj "list" #[] 0)).get? a = some (seqObj "list" #[] e1) := by
  rw [zq138x _ _ _ (by rw [size_push', zq139x]; exact zq32x (zq91x ha)), zq138x _ _ _ (by rw [zq139x]; exact zq32x ha)]
  exact ho1
 show wpAny (model prog w) A _ P E { s with heap := ((s.heap.update a (Obj.mapSeq fun _ => #[])).push (seqObj "tuple" vs.toArray 0)).push (seqObj "list" #[] 0) }
 dsimp only
 have hsz : vs.toArray.size = vs.length := by simp
 have hp6 : ∀ v ∈ vs, PairAt (((s.heap.update a (Obj.mapSeq fun _ => #[])).push (seqObj "tuple" vs.toArray 0)).push (seqObj "list" #[] 0)) v := fun v hv => by
  obtain ⟨b, o, i, j, t, u, m, rfl, g1, g2, g3⟩ := hp v hv
  have hb : b ≠ a := fun z => hna _ hv (by rw [z])
  refine ⟨b, o, i, j, t, u, m, rfl, zq33x _ (zq33x _ ?_), g2, g3⟩
  rw [Heap.get?_update_ne _ _ _ _ hb]; exact g1
 by_cases h2 : vs.toArray.size < 2
 ·rw [if_pos h2, if_pos h2]
  refine wpAny_bind (wpAny_pure ?_)
  rw [StateT.run_pure]
  refine wpAny_bind (wpAny_pure ?_)
  dsimp only
  refine wpAny_bind (seqEpoch_at ho6 rfl ?_)
  refine wpAny_bind (listUpdate_at ho6 rfl ?_ (hsz2 := by rw [Array.size_map]; show (pairsOf vs).size <= _; rw [pairsOf_size, sizeLine_eq]; omega))
  simp only [bne_self_eq_false, zq105x, if_false]
  refine wpAny_pure (h _ ?_)
  have e : (Array.map (fun x => x.2) (vs.toArray.zip vs.toArray)).toList = vs := by
   rw [Array.toList_map, Array.toList_zip]
   simp [List.map_snd_zip]
  show (Array.map (fun x => x.2) (vs.toArray.zip vs.toArray)).toList.Perm vs
  rw [e]
 ·rw [if_neg h2, if_neg h2]
  refine wpAny_bind (pairs_kind hp6 (by omega) ?_)
  refine wpAny_bind (wpAny_mono (kat_run (κ := tuples' true) (vs := vs) (ks := vs) (s := { s with heap := ((s.heap.update a (Obj.mapSeq fun _ => #[])).push (seqObj "tuple" vs.toArray 0)).push (seqObj "list" #[] 0) }) (Q := fun st' s' => s' = { s with heap := ((s.heap.update a (Obj.mapSeq fun _ => #[])).push (seqObj "tuple" vs.toArray 0)).push (seqObj "list" #[] 0) } /\ failedOf st' = none /\ ((arrOf st').map (·.2)).toList.Perm vs)
   (G := fun p s' => s' = { s with heap := ((s.heap.update a (Obj.mapSeq fun _ => #[])).push (seqObj "tuple" vs.toArray 0)).push (seqObj "list" #[] 0) } /\ VP vs.length p) rfl (by omega) h64 (fun p st' s' g1 g2 g3 ⟨g4, g5⟩ => ⟨g4, g3, ?_⟩) (sort_any (n := vs.length) (by omega) (fun i j C hi hj hC => ?_) fun p hp => ⟨rfl, hp⟩)) ?_ fun _ _ e => e)
  ·rw [kat_snds rfl g2]
   show (List.map _ _).Perm vs
   have := g5.map fun i => vs.getD i Value.none
   refine this.trans (List.Perm.of_eq ?_)
   refine zq61x fun k => ?_
   rw [zq6x]
   by_cases hk : k < vs.length
   ·rw [zq119x hk, zq1x hk]; simp [hk]
   ·rw [zq40x (by rw [zq74x]; omega), zq40x (by omega)]; rfl
  ·rw [kat_ask_eq (vs := vs) rfl]
   unfold kas_cmp
   rw [kat_item rfl, kat_item rfl]
   refine pair_lt (hp6 _ ?_) (hp6 _ ?_) hC
   ·rw [zq3x, zq1x hi]; exact zq11x _
   ·rw [zq3x, zq1x hj]; exact zq11x _
  rintro ⟨⟨⟩, st'⟩ s' ⟨rfl, hf, hs⟩
  dsimp only
  refine wpAny_bind (seqEpoch_at ho6 rfl ?_)
  refine wpAny_bind (listUpdate_at ho6 rfl ?_ (hsz2 := by
   have e := hs.length_eq
   rw [zq79x] at e
   rw [sizeLine_eq]
   have e' : (Array.map (fun x => x.2) (arrOf st')).size = vs.length := e
   omega))
  rw [hf]
  simp only [bne_self_eq_false, zq105x, if_false]
  exact wpAny_pure (h _ hs)
theorem sorted_pairs {l : Addr} {vs : List Value} {Q : Value -> Shared -> Prop} (hl : s.heap.IsList l vs.toArray) (hp : ∀ v ∈ vs, PairAt s.heap v) (h64 : vs.length < 64)
  (h : ∀ out : Array Value, out.toList.Perm vs -> Q (.ref (s.heap.objs.size + 1)) { s with heap := sortedAll s.heap vs out }) :
  wpAny (model prog w) A (call (.builtin "sorted") [.ref l]) Q E s := by
 refine zq186x kind_sorted plain_sorted entry_sorted (args_sorted1 _) ?_
 unfold Builtin.«sorted»
 refine wpAny_bind (m := checkCount "sorted" 1 1 _) (wpAny_pure ?_)
 refine wpAny_bind (collect_list hl ?_)
 refine wpAny_bind (wpAny_newList ?_)
 have hsz : ((s.heap.push (seqObj "list" #[] 0)).update s.heap.objs.size (Obj.mapSeq (· ++ vs.toArray))).objs.size = s.heap.objs.size + 1 := by
  rw [zq139x, size_push']
 have hoL : (((s.heap.push (seqObj "list" #[] 0)).update s.heap.objs.size (Obj.mapSeq (· ++ vs.toArray))).push (seqObj "list" vs.toArray 0)).get? (s.heap.objs.size + 1) = some (seqObj "list" vs.toArray 0) := by
  rw [<- hsz]; exact zq42x _ rfl
 have keep : ∀ b o, s.heap.get? b = some o -> (((s.heap.push (seqObj "list" #[] 0)).update s.heap.objs.size (Obj.mapSeq (· ++ vs.toArray))).push (seqObj "list" vs.toArray 0)).get? b = some o := fun b o q => by
  have hlt : b < s.heap.objs.size := zq12x q
  rw [zq138x _ _ _ (by rw [hsz]; exact zq32x (zq91x hlt)), Heap.get?_update_ne _ _ _ _ (zq32x hlt), zq138x _ _ _ (zq32x hlt)]
  exact q
 show wpAny _ _ _ _ _ { s with heap := ((s.heap.push (seqObj "list" #[] 0)).update s.heap.objs.size (Obj.mapSeq (· ++ vs.toArray))).push (seqObj "list" vs.toArray 0) }
 rw [hsz]
 refine wpAny_bind (wpAny_holding (wpAny_call_entry slot_list_sort ⟨_, hoL, rfl⟩ entry_list_sort (list_sort_pairs hoL (fun v hv => (hp v hv).keep keep) (fun v hv z => ?_) h64 fun out a1 => ⟨_, rfl, ?_⟩) (args_list_sort _)))
 ·obtain ⟨b, o, i, j, t, u, m, rfl, g1, _⟩ := hp v hv
  have := zq12x g1
  have z' : b = s.heap.objs.size + 1 := by cases z; rfl
  rw [z'] at this
  exact absurd this (Nat.not_lt.mpr (zq63x _))
 ·exact wpAny_pure ⟨_, rfl, h out a1⟩
end
def rSortT (K : PySem.W.Frag) : List V -> Hp -> VK -> Prop := fun xs H Q => ∃ p ys, xs = [.ref p] /\ SqL K H p ys /\ ys.length < 64 /\ (∀ y ∈ ys, ∃ a i j, y = .ref a /\ H a = some (.tup [.int i, .int j])) /\ ∀ zs : List V, zs.Perm ys -> ∀ l, H l = none -> Q (.ref l) (upd H l (.lst zs))
theorem vals_perm : ∀ {vs us : List Value} {ys : List V}, Vals ys vs -> us.Perm vs -> ∃ zs, Vals zs us /\ zs.Perm ys := by
  intro vs us ys h p
  induction p generalizing ys with
  | nil => cases h; exact ⟨[], .nil, .refl _⟩
  | cons x p ih =>
    cases h with
    | cons r rr =>
      obtain ⟨zs, h1, h2⟩ := ih rr
      exact ⟨_ :: zs, .cons r h1, h2.cons _⟩
  | swap x y l =>
    cases h with
    | cons r rr =>
      cases rr with
      | cons r' rr' => exact ⟨_ :: _ :: _, .cons r' (.cons r rr'), .swap ..⟩
  | trans p1 p2 ih1 ih2 =>
    obtain ⟨zs, h1, h2⟩ := ih2 h
    obtain ⟨ws, h3, h4⟩ := ih1 h1
    exact ⟨ws, h3, h4.trans h2⟩
theorem call_sortT {X : Cx} : CallR X (.builtin "sorted") (rSortT X.K) := by
  intro pins s σ H xs us Q I rv h
  obtain ⟨p, ys, rfl, hp, h64, hy, q⟩ := h
  obtain ⟨u, rfl, ru⟩ := vals1 rv
  cases ru
  obtain ⟨its, rs, il, hz⟩ := I.list hp
  have hl := rs.length
  refine sorted_pairs (vs := its) il.isList (fun v hv => ?_) (by omega) fun out ho => ?_
  · obtain ⟨k, hk, e⟩ := List.mem_iff_getElem.mp hv
    have hk' : k < ys.length := by omega
    obtain ⟨v', hv', rv'⟩ := rs.get (i := k) (x := ys[k]) (zq1x hk')
    have : v' = v := by rw [zq1x hk, e] at hv'; exact (zq36x hv').symm
    subst this
    obtain ⟨a, i, j, ea, ha⟩ := hy _ (zq11x hk')
    rw [ea] at rv'
    cases rv'
    obtain ⟨_, its2, rv2, o, g1, g2, m, g3⟩ := (show ObjOk X.prog X.w H s.heap a (.tup [.int i, .int j]) from I.hok a _ ha)
    cases rv2 with
    | cons x1 x2 =>
      cases x2 with
      | cons y1 y2 =>
        cases y2
        obtain ⟨t, rfl⟩ := x1
        obtain ⟨t2, rfl⟩ := y1
        exact ⟨a, o, i, j, t, t2, m, rfl, g1, g2, g3⟩
  · obtain ⟨zs, h1, h2⟩ := vals_perm rs ho
    obtain ⟨e, ge⟩ := sortedAll_at s.heap its out
    have new : ObjOk X.prog X.w (upd H (s.heap.objs.size + 1) (.lst zs)) (sortedAll s.heap its out) (s.heap.objs.size + 1) (.lst zs) := by
      refine ⟨?_, out.toList, e, h1, by simpa using ge⟩
      rw [h2.length_eq]; exact zq28x (zq78x h64) (by decide)
    exact ⟨.ref (s.heap.objs.size + 1), _, I.laid (t' := s.toks) (fun b o z => sortedAll_old z) (zq63x _) new, rfl, q _ h2 _ (I.hok.fresh (zq63x _))⟩
theorem isDs_pairs {nb : Addr -> Prop} {H : Hp} : ∀ {cs : Cn} {xs : List V}, IsDs nb H (cs.map pairD) xs -> ∀ y ∈ xs, ∃ a i j, y = .ref a /\ H a = some (.tup [.int i, .int j])
  | [], xs, h, y, hy => by unfold IsDs at h; rw [h] at hy; cases hy
  | c :: r, xs, h, y, hy => by
    unfold IsDs at h
    obtain ⟨z, zs, rfl, h1, h2⟩ := h
    rcases zq2x.mp hy with e | hy
    · subst e
      obtain ⟨a, ws, rfl, n, hx, hd⟩ := h1.ofT
      have : ws = [V.int c.1, V.int c.2] := isDs_ints_eq (is := [c.1, c.2]) hd
      subst this
      exact ⟨a, _, _, rfl, hx⟩
    · exact isDs_pairs h2 y hy
theorem isDs_perm {nb : Addr -> Prop} {H : Hp} {ys zs : List V} (p : zs.Perm ys) : ∀ {ds : List PyData}, IsDs nb H ds ys -> ∃ es, es.Perm ds /\ IsDs nb H es zs := by
  induction p with
  | nil => intro ds h; cases ds with
    | nil => exact ⟨[], .refl _, .nil⟩
    | cons d r => unfold IsDs at h; obtain ⟨_, _, e, _⟩ := h; cases e
  | cons x p ih =>
    intro ds h
    cases ds with
    | nil => unfold IsDs at h; cases h
    | cons d r =>
      unfold IsDs at h
      obtain ⟨y, ys', e, h1, h2⟩ := h
      cases e
      obtain ⟨es, h3, h4⟩ := ih h2
      exact ⟨d :: es, h3.cons _, .cons h1 h4⟩
  | swap x y l =>
    intro ds h
    cases ds with
    | nil => unfold IsDs at h; cases h
    | cons d r =>
      unfold IsDs at h
      obtain ⟨y', ys', e, h1, h2⟩ := h
      cases e
      cases r with
      | nil => unfold IsDs at h2; cases h2
      | cons d2 r2 =>
        unfold IsDs at h2
        obtain ⟨y2, ys2, e, h3, h4⟩ := h2
        cases e
        exact ⟨d2 :: d :: r2, .swap .., .cons h3 (.cons h1 h4)⟩
  | trans p1 p2 ih1 ih2 =>
    intro ds h
    obtain ⟨es, h1, h2⟩ := ih2 h
    obtain ⟨fs, h3, h4⟩ := ih1 h2
    exact ⟨fs, h3.trans h1, h4⟩
theorem perm_map {es ds : List PyData} (h1 : es.Perm ds) : ∀ {cs : Cn}, cs.map pairD = ds -> ∃ cs' : Cn, cs'.Perm cs /\ es = cs'.map pairD := by
  induction h1 with
  | nil => intro cs hds; exact ⟨[], by rw [List.map_eq_nil_iff.mp hds], rfl⟩
  | cons x p ih =>
    intro cs hds
    cases cs with
    | nil => cases hds
    | cons c r =>
      rw [zq4x] at hds
      cases hds
      obtain ⟨cs', h1, h2⟩ := ih (cs := r) rfl
      exact ⟨c :: cs', h1.cons _, by rw [zq4x, h2]⟩
  | swap x y l =>
    intro cs hds
    cases cs with
    | nil => cases hds
    | cons c r =>
      rw [zq4x] at hds
      cases r with
      | nil => cases hds
      | cons c2 r2 =>
        rw [zq4x] at hds
        cases hds
        exact ⟨c2 :: c :: r2, .swap .., rfl⟩
  | trans p1 p2 ih1 ih2 =>
    intro cs hds
    obtain ⟨c1, g1, g2⟩ := ih2 hds
    obtain ⟨c2, g3, g4⟩ := ih1 g2.symm
    exact ⟨c2, g3.trans g1, g4⟩
theorem EvN.sortT {G : Gx} {ρ : Rh} {te : TE} {K : PySem.W.Frag} {Θ : Bool -> List PyData -> Prop} (h : Ev G ρ te fun f x => ∃ cs : Cn, x = .list (cs.map pairD) /\ cs.length < 64 /\ ∀ (cs' : Cn) (g : Bool), cs'.Perm cs -> Θ g (cs'.map pairD)) : EvN G ρ (tCB (rSortT K) (tCons te tNil)) Θ := fun nb σ H Q W z =>
 h nb σ H _ W fun f v H1 x ⟨cs, ex, hn, q⟩ s1 hv => by
  subst ex
  obtain ⟨a, xs, rfl, na, hx, hd⟩ := hv.ofL
  have hl := hd.length
  refine ⟨a, xs, rfl, .of hx, by rw [hl, zq0x]; exact hn, isDs_pairs hd, fun zs hz l hll => ?_⟩
  obtain ⟨es, h1, h2⟩ := isDs_perm hz hd
  obtain ⟨cs', h3, rfl⟩ := perm_map h1 rfl
  exact EvN.fin (f := f) W s1 hll h2 (q cs' _ h3) z
theorem EvN.repD {G : Gx} {ρ : Rh} {te tb : TE} {Θ : Bool -> List PyData -> Prop} (h : Ev G ρ te fun f d => Ev G ρ tb fun _ y => ∃ k, y = .int k /\ k <= 10000 /\ -(10000) <= k /\ ∀ g, Θ g (List.replicate k.toNat d)) : EvN G ρ (tOp rRep (tLst (tCons te tNil)) tb) Θ := fun nb σ H Q W z =>
 h nb σ H _ W fun f v H1 d' q s1 hv => by
  refine ⟨by show 1 <= sizeLine; decide, fun p hp => ?_⟩
  have W1 := W.step s1
  have s2 : Step G.B H1 (upd H1 p (.lst [v])) := .same W1.bag (same_new hp)
  refine q nb σ _ _ (W1.step s2) fun g u H2 d2 ⟨k, e2, h1, h2, p2⟩ s3 hu => ?_
  subst e2
  have hN : NB G.B p := fun b l e z => by
   subst z
   exact NB.bag_live (B := G.B) (a := p) s1.2 (fun z => z _ _ e rfl) hp
  refine ⟨p, k, [v], rfl, hu.ofI, s3.1 _ _ hN upd_same, by omega, by omega, ?_, fun a ha => ?_⟩
  ·show 1 * k.toNat <= sizeLine
   exact zq28x (show 1 * k.toNat <= 10000 by omega) (by decide)
  ·have hv2 := (hv.keep s2.butS).keep s3.butS
   have hd : IsDs (G.S nb f) H2 (List.replicate k.toNat d') (List.replicate k.toNat [v]).flatten := by
    induction k.toNat with
    | zero => exact .nil
    | succ m ih => rw [zq87x, zq87x, zq110x]; exact .cons hv2 ih
   exact EvN.fin (f := f) W (s1.trans (s2.trans s3)) ha hd (p2 _) z
end L2
set_option maxRecDepth 100000
set_option maxHeartbeats 4000000
namespace L2
open PySem PySem.Spec PyProof.Rows PySem.W
section
variable {n : Nat} {key : Nat -> Int} {cmp : Nat -> Nat -> (Bool -> Shared -> Prop) -> Shared -> Prop} {s : Shared}
variable (h0 : 0 < n) (hc : ∀ i j C, i < n -> j < n -> C (decide (key i < key j)) s -> cmp i j C s)
include h0 hc
end
end L2
set_option maxRecDepth 100000
set_option maxHeartbeats 4000000
set_option maxRecDepth 100000
set_option maxHeartbeats 4000000
namespace L2
open PySem PySem.Spec PyProof.Rows
@[reducible] def gwOf (l c : Cn) (u p : Int) : Gw := ⟨l, c, (p : Rat) / u, u⟩
end L2
set_option maxRecDepth 100000
set_option maxHeartbeats 4000000
set_option maxRecDepth 100000
set_option maxHeartbeats 4000000
set_option maxRecDepth 100000
set_option maxHeartbeats 4000000
set_option maxRecDepth 100000
set_option maxHeartbeats 4000000
namespace L2
open PySem PySem.Spec PyProof.Rows
abbrev Ks := List (Int × PyData)
def valI (ks : Ks) (k : Int) : Option PyData := (ks.find? fun p => decide (p.1 = k)).map (·.2)
def hasI (ks : Ks) (k : Int) : Bool := ks.any fun p => decide (p.1 = k)
def putI (ks : Ks) (k : Int) (d : PyData) : Ks := if hasI ks k then ks.map fun p => if p.1 = k then (p.1, d) else p else ks ++ [(k, d)]
theorem valI_has (ks : Ks) (k : Int) : (valI ks k).isSome = hasI ks k := by
  unfold valI hasI
  rw [zq185x]
  induction ks with
  | nil => rfl
  | cons p r ih =>
    rw [zq84x, zq64x]
    by_cases h : p.1 = k
    · simp [h]
    · simp only [h, decide_false, zq88x]; exact ih
theorem hasI_iff {ks : Ks} {k : Int} : hasI ks k = true ↔ k ∈ ks.map (·.1) := by
 unfold hasI
 rw [zq172x, zq17x]
 constructor
 ·rintro ⟨p, h1, h2⟩; exact ⟨p, h1, by simpa using h2⟩
 ·rintro ⟨p, h1, h2⟩; exact ⟨p, h1, by simpa using h2⟩
theorem valI_nil {k : Int} : valI [] k = none := rfl
theorem valI_cons {p : Int × PyData} {r : Ks} {k : Int} : valI (p :: r) k = if p.1 = k then some p.2 else valI r k := by
 unfold valI
 rw [zq84x]
 by_cases h : p.1 = k <;> simp [h]
theorem valI_append {ks : Ks} {k j : Int} {d : PyData} : valI (ks ++ [(k, d)]) j = match valI ks j with | some x => some x | none => if j = k then some d else none := by
  induction ks with
  | nil =>
    rw [List.nil_append, valI_cons, valI_nil]
    by_cases h : k = j
    · subst h; simp
    · have h' : ¬ j = k := fun z => h z.symm
      simp [h, h']
  | cons p r ih =>
    rw [zq71x, valI_cons, valI_cons, ih]
    by_cases h : p.1 = j <;> simp [h]
section
variable {S : Addr -> Prop} {H : Hp}
theorem IsKs.val : ∀ {ks : Ks} {ps : List (Key × V)} (k : Int), IsKs S H (ks.map kvD) ps -> match valI ks k with | some d => ∃ v, valV ps (Sum.inl k) = some v /\ IsD S H d v | none => valV ps (Sum.inl k) = none
  | [], ps, k, h => by unfold IsKs at h; subst h; exact valV_nil
  | p :: r, ps, k, h => by
    rw [zq4x] at h
    unfold IsKs at h
    obtain ⟨q, qs, rfl, h1, h2⟩ := h
    unfold IsK at h1
    obtain ⟨h3, h4⟩ := h1
    have h3 : q.1 = Sum.inl p.1 := h3
    rw [valI_cons]
    have ih := IsKs.val k h2
    by_cases e : p.1 = k
    · rw [if_pos e]
      refine ⟨q.2, ?_, h4⟩
      rw [valV_pos (by rw [h3, e])]
    · rw [if_neg e, valV_neg (fun z => e (by rw [h3] at z; exact zq148x z))]
      exact ih
theorem IsKs.snoc : ∀ {ks : Ks} {ps : List (Key × V)} {k : Int} {d : PyData} {v : V}, IsKs S H (ks.map kvD) ps -> IsD S H d v -> IsKs S H ((ks ++ [(k, d)]).map kvD) (ps ++ [(Sum.inl k, v)])
  | [], ps, k, d, v, h, hd => by
    unfold IsKs at h; subst h
    show IsKs S H [kvD (k, d)] [(Sum.inl k, v)]
    unfold IsKs
    exact ⟨_, _, rfl, by unfold IsK; exact ⟨rfl, hd⟩, by unfold IsKs; rfl⟩
  | p :: r, ps, k, d, v, h, hd => by
    rw [zq4x] at h
    unfold IsKs at h
    obtain ⟨q, qs, rfl, h1, h2⟩ := h
    rw [zq71x, zq4x, zq71x]
    unfold IsKs
    exact ⟨q, _, rfl, h1, IsKs.snoc h2 hd⟩
theorem IsKs.repl : ∀ {ks : Ks} {ps : List (Key × V)} {k : Int} {d : PyData} {v : V}, IsKs S H (ks.map kvD) ps -> IsD S H d v -> IsKs S H ((ks.map fun p => if p.1 = k then (p.1, d) else p).map kvD) (ps.map fun kv => if kv.1 = Sum.inl k then (kv.1, v) else kv)
  | [], ps, k, d, v, h, hd => by unfold IsKs at h; subst h; simp only [zq98x]; unfold IsKs; rfl
  | p :: r, ps, k, d, v, h, hd => by
    rw [zq4x] at h
    unfold IsKs at h
    obtain ⟨q, qs, rfl, h1, h2⟩ := h
    rw [zq4x, zq4x, zq4x]
    unfold IsK at h1
    obtain ⟨h3, h4⟩ := h1
    have h3 : q.1 = Sum.inl p.1 := h3
    unfold IsKs
    refine ⟨_, _, rfl, ?_, IsKs.repl h2 hd⟩
    by_cases e : p.1 = k
    · rw [if_pos e, if_pos (by rw [h3, e])]
      unfold IsK
      exact ⟨h3, hd⟩
    · rw [if_neg e, if_neg (fun z => e (by rw [h3] at z; exact zq148x z))]
      unfold IsK
      exact ⟨h3, h4⟩
theorem IsKs.any : ∀ {ks : Ks} {ps : List (Key × V)} (k : Int), IsKs S H (ks.map kvD) ps -> (ps.any fun kv => decide (kv.1 = Sum.inl k)) = hasI ks k := fun {ks ps} k h => by
 rw [valV_any, <- valI_has]
 have := IsKs.val k h
 cases hv : valI ks k with
 | none => rw [hv] at this; rw [this]; rfl
 | some d => rw [hv] at this; obtain ⟨v, e, _⟩ := this; rw [e]; rfl
theorem IsKs.put {ks : Ks} {ps : List (Key × V)} {k : Int} {d : PyData} {v : V} (h : IsKs S H (ks.map kvD) ps) (hd : IsD S H d v) : IsKs S H ((putI ks k d).map kvD) (putK ps (Sum.inl k) v) := by
 unfold putI putK
 rw [IsKs.any k h]
 split
 ·exact IsKs.repl h hd
 ·exact IsKs.snoc h hd
theorem IsKs.len : ∀ {ks : Ks} {ps : List (Key × V)}, IsKs S H (ks.map kvD) ps -> ps.length = ks.length
  | [], ps, h => by unfold IsKs at h; subst h; rfl
  | p :: r, ps, h => by
    rw [zq4x] at h
    unfold IsKs at h
    obtain ⟨q, qs, rfl, _, h2⟩ := h
    simp [IsKs.len h2]
theorem IsKs.keys : ∀ {ks : Ks} {ps : List (Key × V)}, IsKs S H (ks.map kvD) ps -> ps.map (·.1) = (ks.map (·.1)).map Sum.inl
  | [], ps, h => by unfold IsKs at h; subst h; rfl
  | p :: r, ps, h => by
    rw [zq4x] at h
    unfold IsKs at h
    obtain ⟨q, qs, rfl, h1, h2⟩ := h
    unfold IsK at h1
    have h3 : q.1 = Sum.inl p.1 := h1.1
    simp [IsKs.keys h2, h3]
end
def EvK (G : Gx) (ρ : Rh) (te : TE) (Φ : Bool -> Ks -> Prop) : Prop := ∀ nb σ H (Q : VK), Wd G nb ρ σ H ->
 (∀ f a ps H' ks, Φ f ks -> Step G.B H H' -> H a = none -> H' a = some (.dK ps) -> IsKs (fun x => G.S nb f x \/ x = a) H' (ks.map kvD) ps -> Q (.ref a) H') -> te σ H Q
section
variable {G : Gx} {ρ ρc : Rh} {Φ Ψ : Pd} {ta tb te : TE} {t : TA} {i : Nat} {f g : Bool} {d e : PyData} {ks : Ks} {K : PySem.W.Frag} {E : DE} {Θ : Bool -> Ks -> Prop}
theorem Wd.grow {nb : Addr -> Prop} {σ : St} {H H1 : Hp} {a : Addr} {o : HO} (W : Wd G nb ρ σ H) (s1 : Step G.B H H1) (ha : H a = none) (e : H1 a = some o) : Wd G (fun x => nb x \/ x = a) ρ σ H1 /\ NB G.B a /\ ∀ f x, G.S (fun x => nb x \/ x = a) f x -> (G.S nb f x \/ x = a) := by
  have hN : NB G.B a := NB.new W.bag ha
  have hA : ∀ f x, G.S (fun x => nb x \/ x = a) f x -> (G.S nb f x \/ x = a) := fun f x z => by
    rcases z with (z | z) | z | z | z
    · exact .inl (.inl z)
    · exact .inr z
    · exact .inl (.inr (.inl z))
    · exact .inl (.inr (.inr (.inl z)))
    · exact .inl (.inr (.inr (.inr z)))
  have W1 := W.step s1
  refine ⟨?_, hN, hA⟩
  refine ⟨W1.bag, fun x n => ?_, W1.old, fun x n q => ?_, W.gA, W.len, W.gB, fun h m => (((W.hld h m).fresh ha).keep (s1.but fun x z => .inl (.inr (.inr (.inl z))))).av (hA h.1), fun j s e' => ?_, W.apart, W.apd, W.apc⟩
  · rcases n with n | n
    · exact W1.live x n
    · subst n; rw [e]; exact zq48x _
  · rcases n with n | n
    · exact W.nbo x n q
    · subst n
      cases z : G.H0 x with
      | none => rfl
      | some o => rw [W.old x o q z] at ha; cases ha
  · obtain ⟨x, e1, h⟩ := W.ok j s e'
    refine ⟨x, e1, ?_⟩
    cases s with
    | no => trivial
    | d f d => obtain ⟨v, e, h⟩ := h; exact ⟨v, e, ((h.fresh ha).keep (s1.but fun x z => .inl (.inr (.inr (.inl z))))).av (hA f)⟩
    | own c f es => obtain ⟨e, n, q, xs, hx, hd⟩ := h; exact ⟨e, .inl n, q, xs, s1.1 _ _ q hx, ((hd.fresh ha).keep (s1.but fun x z => .inl (.inr (.inr (.inl z))))).av (hA f)⟩
    | bag => exact h
    | raw v => exact h
    | dic c f es => obtain ⟨e, n, q, xs, hx, hd⟩ := h; exact ⟨e, .inl n, q, xs, s1.1 _ _ q hx, ((hd.fresh ha).keep (s1.but fun x z => .inl (.inr (.inr (.inl z))))).av (hA f)⟩
    | cu c =>
      obtain ⟨e, n, q⟩ := h
      refine ⟨e, fun a ha => ⟨.inl (n a ha).1, (n a ha).2⟩, c.av (hA c.f) (c.keep (.of fun x o hx e => s1.1 x o ?_ e) (c.fresh ha q))⟩
      rcases hx with hx | hx
      · exact zq55x fun z => hx (.inl (.inr (.inr (.inl z))))
      · exact (n x hx).2
theorem dic_of {nb : Addr -> Prop} {σ : St} {H H1 : Hp} {a : Addr} {ps : List (Key × V)} (W : Wd G nb ρ σ H) (s1 : Step G.B H H1) (ha : H a = none) (e : H1 a = some (.dK ps)) (hd : IsKs (fun x => G.S nb f x \/ x = a) H1 (ks.map kvD) ps) :
  Wd G (fun x => nb x \/ x = a) (ρ.set i (.dic a f ks)) (σ.set i (some (.ref a))) H1 := by
 obtain ⟨W2, hN, hA⟩ := W.grow s1 ha e
 refine W2.set ⟨rfl, .inr rfl, hN, ps, e, hd.av (hA f)⟩ (fun _ _ _ z => by cases z) ?_ (fun x hx j t hj ht hc => ?_)
 rotate_left
 ·have hx : x = a := zq8x.mp hx
  subst hx
  rcases hc with ⟨c, z⟩ | ⟨c, rfl⟩
  ·cases z
  ·exact fun z => W.live x ((W.ok j _ ht).choose_spec.2.2.1 x z).1 ha
 rintro a' f' ds' ⟨rfl, rfl, rfl⟩ j c g cs hj hc z
 subst z
 obtain ⟨x, e1, h1, h2, h3, ys, hy, _⟩ := W.ok j _ hc
 rw [hy] at ha; cases ha
theorem Sv.asgK (h : EvK G ρ te fun f ks => ∀ a, E.nx (ρ.set i (.dic a f ks))) : Sv G ρ (tAsg te (gName i)) E := fun nb σ H D W K => h nb σ H _ W fun f a ps H1 ks q s1 ha e hd => K.nx _ _ _ H1 (q a) (dic_of W s1 ha e hd)
theorem EvK.new (h : Θ true []) : EvK G ρ tDNewK Θ := fun nb σ H Q W z p hp => z true p [] _ [] h (.same W.bag (same_new hp)) hp upd_same (by unfold IsKs; rfl)
@[reducible] def itD (p : Int × PyData) : PyData := .tuple [.int p.1, p.2]
theorem writeDic {nb : Addr -> Prop} {σ : St} {H : Hp} {a : Addr} {ps : List (Key × V)} {ks' : Ks} (W : Wd G nb ρ σ H) (e : ρ[i]? = some (.dic a f ks)) (hd : IsKs (G.S nb g) H (ks'.map kvD) ps) : Wd G nb (ρ.set i (.dic a g ks')) σ (upd H a (.dK ps)) := by
 obtain ⟨x, e1, h1, h2, h3, ys, hy, _⟩ := W.ok i _ e
 subst h1
 have hil : i < ρ.length := (zq7x.mp e).1
 have W0 : Wd G nb (ρ.set i .no) (σ.set i (some (.ref a))) H := W.set trivial fun _ _ _ z => by cases z
 have W1 : Wd G nb (ρ.set i .no) (σ.set i (some (.ref a))) (upd H a (.dK ps)) := W0.write h2 h3 (fun j c f' cs hc z => by
   subst z
   have hij : i ≠ j := fun z => by subst z; rw [zq20x hil] at hc; cases hc
   rw [zq9x hij] at hc
   obtain ⟨_, _, _, _, _, ps, hp, _⟩ := W.ok j _ hc
   rw [hy] at hp; cases hp) (fun j c f' cs hc => by
   by_cases hij : i = j
   ·subst hij; rw [zq20x hil] at hc; cases hc
   ·rw [zq9x hij] at hc
    exact (W.apd i j _ _ _ _ _ _ hij e hc).symm) (fun j c hc z => by
   have hij : i ≠ j := fun z => by subst z; rw [zq20x hil] at hc; cases hc
   rw [zq9x hij] at hc
   exact W.apc j i c _ (zq14x hij) hc e a z (zq8x.mpr rfl))
 have W2 := W1.set (i := i) (s := .dic a g ks') (x := some (.ref a)) ⟨rfl, h2, h3, ps, upd_same, hd.keep (But.set (.inl h2))⟩ (fun _ _ _ z => by cases z) (by
  rintro a' f' ds' ⟨rfl, rfl, rfl⟩ j c g' cs hj hc
  rw [zq9x (zq14x hj)] at hc
  exact W.apd i j _ _ _ _ _ _ (zq14x hj) e hc) (fun x hx j t hj ht hc z => by
  rw [zq9x (zq14x hj)] at ht
  have hx : x = a := zq8x.mp hx
  subst hx
  rcases hc with ⟨c, q⟩ | ⟨c, rfl⟩
  ·cases q
  ·exact W.apc j i c _ hj ht e x z (zq8x.mpr rfl))
 rw [zq82x, zq82x] at W2
 have : σ.set i (some (.ref a)) = σ := by
  apply zq61x
  intro j
  by_cases hij : i = j
  ·subst hij; rw [zq20x (by rw [W.len]; exact hil), e1]
  ·rw [zq9x hij]
 rwa [this] at W2
theorem Sv.putDic {a : Addr} (e : ρ[i]? = some (.dic a f ks)) (h : Ev G ρ te fun g d => Ev G ρ tb fun _ y => ∃ k, y = .int k /\ ks.length < 10000 /\ E.nx (ρ.set i (.dic a (f && g) (putI ks k d)))) : Sv G ρ (tAsg te (gSub (tVar i) tb rPutD)) E := fun nb σ H D W KK =>
 h nb σ H _ W fun g v H1 d q s1 hv => by
  obtain ⟨x, e1, h1, h2, h3, ps, hp, hd⟩ := (W.step s1).ok i _ e
  subst h1
  refine ⟨.ref a, e1, q nb σ H1 _ (W.step s1) fun g' u H2 y ⟨k, ey, hl, p⟩ s2 hu => ?_⟩
  subst ey
  have W2 := (W.step s1).step s2
  have hlen := hd.len
  refine ⟨a, ps, .inl k, rfl, hu.ofI, s2.1 _ _ h3 hp, zq31x (by rw [hlen]; exact hl) (by decide), KK.nx nb _ _ _ p (writeDic W2 e ?_)⟩
  exact IsKs.put ((hd.keep s2.butS).av (S_mono (fun z => (zq24x _ _ ▸ z).1) fun _ z => z)) ((hv.keep s2.butS).av (S_mono (fun z => (zq24x _ _ ▸ z).2) fun _ z => z))
namespace Ev
theorem ixDic {a : Addr} (e : ρ[i]? = some (.dic a f ks)) (h : Ev G ρ tb fun _ y => ∃ k, y = .int k /\ ∃ d, valI ks k = some d /\ Φ f d) : Ev G ρ (tOp rIxD (tVar i) tb) Φ := fun nb σ H Q W z => by
 obtain ⟨x, e1, h1, h2, h3, ps, hp, hd⟩ := W.ok i _ e
 subst h1
 refine ⟨.ref a, e1, h nb σ H _ W fun g w H1 y ⟨k, ey, d, hv, p⟩ s1 hw => ?_⟩
 subst ey
 have := IsKs.val k (hd.keep s1.butS)
 rw [hv] at this
 obtain ⟨v, hv', hD⟩ := this
 exact ⟨a, ps, .inl k, v, rfl, hw.ofI, .inl (s1.1 _ _ h3 hp), hv', z f _ H1 _ p s1 hD⟩
end Ev
end
def rInD (ng : Bool) : R2 := fun x y H Q => ∃ a o, y = .ref a /\ DGet H a x o /\ Q (.bl (o.isSome != ng)) H
theorem op_inD {X : Cx} (hu : X.A.units + 64 < cLine) : OpR X (compareOp .In) (rInD false) := by
 intro pins s σ H x y v u Q I rx ry h
 obtain ⟨a, o, rfl, g, q⟩ := h
 cases ry
 exact d_in (by omega) I g rx fun s' I' => ⟨.bl o.isSome, H, I', rfl, by simpa using q⟩
theorem op_notInD {X : Cx} (hu : X.A.units + 64 < cLine) : OpR X (compareOp .NotIn) (rInD true) := by
 intro pins s σ H x y v u Q I rx ry h
 obtain ⟨a, o, rfl, g, q⟩ := h
 cases ry
 exact d_notIn (by omega) I g rx fun s' I' => ⟨.bl (!o.isSome), H, I', rfl, by simpa using q⟩
section
variable {G : Gx} {ρ : Rh} {Φ : Pd} {ta tb te : TE} {i : Nat} {f : Bool} {ks : Ks} {K : PySem.W.Frag} {E : DE}
theorem Ev.inDic {a : Addr} {ng : Bool} (e : ρ[i]? = some (.dic a f ks)) (h : Ev G ρ ta fun _ y => ∃ k, y = .int k /\ Φ true (.bool (hasI ks k != ng))) : Ev G ρ (tOp (rInD ng) ta (tVar i)) Φ := fun nb σ H Q W z =>
 h nb σ H _ W fun g w H1 y ⟨k, ey, p⟩ s1 hw => by
  obtain ⟨x, e1, h1, h2, h3, ps, hp, hd⟩ := (W.step s1).ok i _ e
  subst h1 ey
  refine ⟨.ref a, e1, a, _, rfl, by rw [hw.ofI]; exact DGet.k (k := .inl k) hp, ?_⟩
  have : (valV ps (Sum.inl k)).isSome = hasI ks k := by rw [<- valV_any]; exact IsKs.any k hd
  rw [this]
  exact z true _ H1 _ p s1 (.bl _)
end
end L2
set_option maxRecDepth 100000
set_option maxHeartbeats 4000000
namespace L2
open PySem PySem.Spec PyProof.Rows
section
variable {prog : Program} {w : World} {A : Around} {E : Value -> Shared -> Prop} {s : Shared}
theorem sorted_intsS {l : Addr} {vs : List Value} {ns : List Int} {Q : Value -> Shared -> Prop} (hl : s.heap.IsList l vs.toArray) (hI : IntsAre vs ns) (hz : vs.length < 64)
  (h : ∀ (out : Array Value) (ns' : List Int), IntsAre out.toList ns' -> ns'.Perm ns -> ns'.Pairwise (· <= ·) -> Q (.ref (s.heap.objs.size + 1)) { s with heap := sortedAll s.heap vs out }) :
  wpAny (model prog w) A (call (.builtin "sorted") [.ref l]) Q E s := by
 have hZ : vs.length <= sizeLine := by rw [sizeLine_eq]; omega
 refine zq186x kind_sorted plain_sorted entry_sorted (args_sorted1 _) ?_
 unfold Builtin.«sorted»
 refine wpAny_bind (m := checkCount "sorted" 1 1 _) (wpAny_pure ?_)
 refine wpAny_bind (collect_list hl ?_ (hsz := hZ))
 refine wpAny_bind (wpAny_newList ?_)
 have hsz : ((s.heap.push (seqObj "list" #[] 0)).update s.heap.objs.size (Obj.mapSeq (· ++ vs.toArray))).objs.size = s.heap.objs.size + 1 := by
  rw [zq139x, size_push']
 have hoL : (((s.heap.push (seqObj "list" #[] 0)).update s.heap.objs.size (Obj.mapSeq (· ++ vs.toArray))).push (seqObj "list" vs.toArray 0)).get? (s.heap.objs.size + 1) = some (seqObj "list" vs.toArray 0) := by
  rw [<- hsz]; exact zq42x _ rfl
 show wpAny _ _ _ _ _ { s with heap := ((s.heap.push (seqObj "list" #[] 0)).update s.heap.objs.size (Obj.mapSeq (· ++ vs.toArray))).push (seqObj "list" vs.toArray 0) }
 rw [hsz]
 refine wpAny_bind (wpAny_holding (wpAny_call_entry slot_list_sort ⟨_, hoL, rfl⟩ entry_list_sort (list_sort_tree hoL hI hz fun out ns' a1 a2 a3 => ⟨_, rfl, ?_⟩) (args_list_sort _)))
 exact wpAny_pure ⟨_, rfl, h out ns' a1 a2 a3⟩
end
def rSortLS (K : PySem.W.Frag) : List V -> Hp -> VK -> Prop := fun xs H Q => ∃ p, ∃ ns : List Int, xs = [.ref p] /\ SqL K H p (ns.map V.int) /\ ns.length < 64 /\ ∀ rs : List Int, rs.Perm ns -> rs.Pairwise (· <= ·) -> ∀ l, H l = none -> Q (.ref l) (upd H l (.lst (rs.map V.int)))
theorem call_sortLS {X : Cx} : CallR X (.builtin "sorted") (rSortLS X.K) := by
 intro pins s σ H xs us Q I rv h
 obtain ⟨p, ns, rfl, hp, hn, q⟩ := h
 obtain ⟨u, rfl, ru⟩ := vals1 rv
 cases ru
 obtain ⟨its, rs, il, hz⟩ := I.list hp
 have hI := vals_intsA rs
 have hlen := hI.length
 refine sorted_intsS (vs := its) il.isList hI (by omega) fun out ns' h1 h2 h3 => ?_
 obtain ⟨e, ge⟩ := sortedAll_at s.heap its out
 have new : ObjOk X.prog X.w (upd H (s.heap.objs.size + 1) (.lst (ns'.map V.int))) (sortedAll s.heap its out) (s.heap.objs.size + 1) (.lst (ns'.map V.int)) := by
  refine ⟨?_, out.toList, e, ints_vals h1, by simpa using ge⟩
  rw [zq0x, h2.length_eq]; exact zq28x (zq78x hn) (by decide)
 exact ⟨.ref (s.heap.objs.size + 1), _, I.laid (t' := s.toks) (fun b o z => sortedAll_old z) (zq63x _) new, rfl, q _ h2 h3 _ (I.hok.fresh (zq63x _))⟩
theorem EvN.sortLS {G : Gx} {ρ : Rh} {te : TE} {K : PySem.W.Frag} {Θ : Bool -> List PyData -> Prop} (h : Ev G ρ te fun _ x => ∃ ns : List Int, x = .list (ns.map .int) /\ ns.length < 64 /\ ∀ rs : List Int, rs.Perm ns -> rs.Pairwise (· <= ·) -> Θ true (rs.map .int)) :
  EvN G ρ (tCB (rSortLS K) (tCons te tNil)) Θ := fun nb σ H Q W z =>
 h nb σ H _ W fun f v H1 x ⟨ns, ex, hn, q⟩ s1 hv => by
  subst ex
  obtain ⟨a, xs, rfl, na, hx, hd⟩ := hv.ofL
  have e := isDs_ints_eq hd
  subst e
  refine ⟨a, ns, rfl, .of hx, hn, fun rs hp hw l hl => ?_⟩
  exact EvN.fin (f := true) W s1 hl (isDs_intsL rs) (q rs hp hw) z
theorem EvN.sortedDic {G : Gx} {ρ : Rh} {i : Nat} {a : Addr} {f : Bool} {ks : Ks} {Θ : Bool -> List PyData -> Prop} (e : ρ[i]? = some (.dic a f ks)) (hl : ks.length < 64) (h : ∀ rs : List Int, rs.Pairwise (· <= ·) -> rs.Perm (ks.map (·.1)) -> Θ true (rs.map .int)) :
  EvN G ρ (tCB rSortedD (tCons (tVar i) tNil)) Θ := fun nb σ H Q W z => by
 obtain ⟨x, e1, h1, h2, h3, ps, hp, hd⟩ := W.ok i _ e
 subst h1
 refine ⟨.ref a, e1, a, ps, ks.map (·.1), rfl, .inl hp, IsKs.keys hd, by rw [zq0x]; exact hl, fun l rs hl' hw hpm => ?_⟩
 exact EvN.fin (f := true) W (.refl W.bag) hl' (isDs_intsL rs) (h rs hw hpm) z
end L2
set_option maxRecDepth 100000
set_option maxHeartbeats 4000000
namespace L2
open PySem PySem.Spec PyProof.Rows
structure NetK (n : Int) (cs : List Prs) : Prop where
 n0 : 1 <= n
 n1 : n <= 10
 c0 : cs ≠ []
 c1 : cs.length <= 8
 ok : ∀ prs ∈ cs, prs ≠ [] /\ prs.length <= 4 /\ (prs.map (·.1)).Pairwise (· < ·) /\ ∀ pr ∈ prs, 0 <= pr.1 /\ pr.1 < n
section
variable {n : Int} {cs : List Prs} (h : NetK n cs)
include h
end
end L2
set_option maxRecDepth 100000
set_option maxHeartbeats 4000000
set_option maxRecDepth 100000
set_option maxHeartbeats 4000000
namespace L2
open PySem PySem.Spec PyProof.Rows
theorem IsDs.era {nb : Addr -> Prop} {H : Hp} : ∀ {ds : List PyData} {xs : List V} (m : Nat), IsDs nb H ds xs -> IsDs nb H (ds.eraseIdx m) (xs.eraseIdx m)
 | [], _, m, h => by unfold IsDs at h; subst h; exact .nil
 | e :: ds, _, 0, h => by unfold IsDs at h; obtain ⟨y, ys, rfl, h1, h2⟩ := h; exact h2
 | e :: ds, _, m + 1, h => by unfold IsDs at h; obtain ⟨y, ys, rfl, h1, h2⟩ := h; exact .cons h1 (IsDs.era m h2)
section
variable {G : Gx} {ρ : Rh} {te : TE} {E : DE} {i j : Nat} {f : Bool} {ds : List PyData} {K : PySem.W.Frag}
theorem Sv.extend {a : Addr} (e : ρ[i]? = some (.own a f ds)) (h : Ev G ρ te fun g y => ∃ es, y = .list es /\ ds.length + es.length <= 10000 /\ E.nx (ρ.set i (.own a (f && g) (ds ++ es)))) :
  Sv G ρ (tDrop (tBM K "list" rExtend (tVar i) (tCons te tNil))) E := fun nb σ H D W KK => by
 obtain ⟨x, e1, h1, h2, h3, xs, hx, hd⟩ := W.ok i _ e
 subst h1
 refine ⟨.ref a, e1, .inl ⟨rfl, _, SqL.of hx⟩, h nb σ H _ W fun g v H1 y ⟨es, ey, hl, q⟩ s1 hv => ?_⟩
 subst ey
 obtain ⟨c, ys, rfl, n, hy, he⟩ := hv.ofL
 have W1 := W.step s1
 have hx1 := s1.1 _ _ h3 hx
 have hd1 := hd.keep s1.butS
 refine ⟨a, c, xs, ys, rfl, rfl, hx1, hy, zq28x (by rw [hd.length, he.length]; exact hl) (by decide), KK.nx nb _ _ _ q (writeOwn W1 e ?_)⟩
 exact IsDs.append (hd1.av (S_mono (fun z => (zq24x _ _ ▸ z).1) fun _ z => z)) (he.av (S_mono (fun z => (zq24x _ _ ▸ z).2) fun _ z => z))
end
end L2
set_option maxRecDepth 100000
set_option maxHeartbeats 4000000
set_option maxRecDepth 100000
set_option maxHeartbeats 1000000
namespace L2
open PySem PySem.Spec PyProof.Rows
theorem cells_inj : ∀ {names : List (Str × NameKind)} {n : Nat} {acc : List (Str × Addr)}, (∀ x y c, acc.lookup x = some c -> acc.lookup y = some c -> x = y) -> (∀ x c, acc.lookup x = some c -> c < n) -> ∀ {x y : Str} {c : Addr}, (cellsFrom n names acc).lookup x = some c -> (cellsFrom n names acc).lookup y = some c -> x = y
  | [], n, acc, h1, h2, x, y, c, e1, e2 => h1 x y c e1 e2
  | (m, k) :: r, n, acc, h1, h2, x, y, c, e1, e2 => by
    unfold cellsFrom at e1 e2
    by_cases hk : (k == .cell) = true
    · rw [if_pos hk] at e1 e2
      have look : ∀ {z : Str} {d : Addr}, ((m, n) :: acc).lookup z = some d -> (z = m /\ d = n) \/ acc.lookup z = some d := fun {z d} e => by
        by_cases hz : (z == m) = true
        · rw [zq10x, hz] at e
          cases e
          exact .inl ⟨by simpa using hz, rfl⟩
        · have hz : (z == m) = false := by simpa using hz
          rw [zq10x, hz] at e
          exact .inr e
      refine cells_inj (names := r) (n := n + 1) (acc := (m, n) :: acc) (fun x y c g1 g2 => ?_) (fun x c g => ?_) e1 e2
      · rcases look g1 with ⟨a1, a2⟩ | a
        · rcases look g2 with ⟨b1, b2⟩ | b
          · rw [a1, b1]
          · rw [a2] at b; exact absurd (h2 _ _ b) (zq58x _)
        · rcases look g2 with ⟨b1, b2⟩ | b
          · rw [b2] at a; exact absurd (h2 _ _ a) (zq58x _)
          · exact h1 _ _ _ a b
      · rcases look g with ⟨a1, a2⟩ | a
        · rw [a2]; exact zq155x n
        · exact zq91x (h2 _ _ a)
    · rw [if_neg hk] at e1 e2
      exact cells_inj (names := r) h1 h2 e1 e2
theorem cells_keep {x : Str} : ∀ {names : List (Str × NameKind)} {n : Nat} {acc : List (Str × Addr)}, (∀ k, (x, k) ∈ names -> k ≠ .cell) -> (cellsFrom n names acc).lookup x = acc.lookup x
  | [], n, acc, h => rfl
  | (m, k) :: r, n, acc, h => by
    unfold cellsFrom
    by_cases hk : (k == .cell) = true
    · rw [if_pos hk, cells_keep (names := r) fun k hk => h k (zq23x _ hk)]
      have hne : (x == m) = false := by
        rw [beq_eq_false_iff_ne]
        intro z
        subst z
        exact h k (zq19x ..) (by simpa using hk)
      rw [zq10x, hne]
    · rw [if_neg hk]
      exact cells_keep (names := r) fun k hk => h k (zq23x _ hk)
theorem cells_up {x : Str} {lo : Nat} : ∀ {names : List (Str × NameKind)} {n : Nat} {acc : List (Str × Addr)} {c : Addr}, lo <= n -> ((∃ d, acc.lookup x = some d /\ lo <= d) \/ (x, NameKind.cell) ∈ names) -> (cellsFrom n names acc).lookup x = some c -> lo <= c
  | [], n, acc, c, hl, h, e => by
    rcases h with ⟨d, e', z⟩ | h
    · have e : acc.lookup x = some c := e
      rw [e'] at e; cases e; exact z
    · cases h
  | (m, k) :: r, n, acc, c, hl, h, e => by
    unfold cellsFrom at e
    by_cases hk : (k == .cell) = true
    · rw [if_pos hk] at e
      refine cells_up (names := r) (Nat.le_succ_of_le hl) ?_ e
      by_cases hx : (x == m) = true
      · exact .inl ⟨n, by rw [zq10x, hx], hl⟩
      · have hx' : (x == m) = false := by simpa using hx
        rcases h with ⟨d, e', z⟩ | h
        · exact .inl ⟨d, by rw [zq10x, hx']; exact e', z⟩
        · rcases zq2x.mp h with z | z
          · cases z; simp at hx
          · exact .inr z
    · rw [if_neg hk] at e
      refine cells_up (names := r) hl ?_ e
      rcases h with h | h
      · exact .inl h
      · rcases zq2x.mp h with z | z
        · cases z; exact absurd (by rfl) hk
        · exact .inr z
theorem cells_new {x : Str} {c : Addr} : ∀ {names : List (Str × NameKind)} {n : Nat} {acc : List (Str × Addr)} {h : Heap}, h.objs.size = n -> (cellsFrom n names acc).lookup x = some c -> (n <= c /\ (pushCells h names).IsCell c none) \/ acc.lookup x = some c
  | [], n, acc, h, hn, e => .inr e
  | (m, k) :: r, n, acc, h, hn, e => by
    unfold cellsFrom at e
    unfold pushCells
    by_cases hk : (k == .cell) = true
    · rw [if_pos hk] at e ⊢
      rcases cells_new (names := r) (h := h.push { cls := .type "cell", data := .cell none }) (by rw [zq86x, hn]) e with ⟨z1, z2⟩ | z
      · exact .inl ⟨zq187x z1, z2⟩
      · by_cases hx : (x == m) = true
        · rw [zq10x, hx] at z
          cases z
          refine .inl ⟨zq5x _, ?_⟩
          subst hn
          exact ⟨_, pushCells_keeps _ _ _ _ (zq42x _ rfl), rfl⟩
        · have hx' : (x == m) = false := by simpa using hx
          rw [zq10x, hx'] at z
          exact .inr z
    · rw [if_neg hk] at e ⊢
      exact cells_new (names := r) hn e
theorem relabel_lookC {env : Env} : ∀ {l : List (Str × NameKind)} {x : Str} {k : NameKind},
    (l.map fun (n, k) => if (k == NameKind.free && env.scope.kind == .function && env.kindOf n == some .cell) then (n, NameKind.cell) else (n, k)).lookup x = some k -> k = .cell \/ k = .free -> l.lookup x = some .free \/ l.lookup x = some .cell
  | [], _, _, h, _ => by simp at h
  | (n, q) :: r, x, k, h, hk => by
    have ih := relabel_lookC (env := env) (l := r) (x := x) (k := k)
    rw [zq4x] at h
    dsimp only at h
    by_cases hx : (x == n) = true
    · simp only [zq10x, hx]
      by_cases hq : (q == NameKind.free && env.scope.kind == .function && env.kindOf n == some .cell) = true
      · have : q = .free := by
          simp only [zq24x] at hq
          simpa using hq.1.1
        rw [this]; exact .inl rfl
      · rw [if_neg hq] at h
        simp only [zq10x, hx] at h
        have hqk : q = k := zq36x h
        rcases hk with e | e
        · rw [hqk, e]; exact .inr rfl
        · rw [hqk, e]; exact .inl rfl
    · have hx' : (x == n) = false := by simpa using hx
      simp only [zq10x, hx']
      refine ih ?_ hk
      by_cases hq : (q == NameKind.free && env.scope.kind == .function && env.kindOf n == some .cell) = true
      · rw [if_pos hq] at h
        simp only [zq10x, hx'] at h
        exact h
      · rw [if_neg hq] at h
        simp only [zq10x, hx'] at h
        exact h
def compOkBC (sx : Scope) (NX : List Str) (scope : Scope) (N : List Str) (mp : List (Option Nat)) : Bool :=
 (scope.kind == .function) && scope.names.all (fun y => y.2 != .cell || scope.names.lookup y.1 != some .free) && scope.names.all (fun y => y.2 != .local || scope.names.lookup y.1 == some .local) &&
 scope.names.all (fun y => y.2 != .free || sx.names.lookup y.1 == some .cell || sx.names.lookup y.1 == some .free) && (mp.length == N.length) &&
 ((N.zip mp).all fun p => match p.2 with | none => true | some j => NX[j]? == some p.1 && scope.names.lookup p.1 == some .free)
structure CompOkC (sx : Scope) (NX : List Str) (scope : Scope) (N : List Str) (mp : List (Option Nat)) : Prop where
 kind : scope.kind = .function
 own : ∀ x, scope.names.lookup x = some .free -> ∀ k, (x, k) ∈ scope.names -> k ≠ .cell
 names : ∀ y ∈ scope.names, y.2 = .local -> scope.names.lookup y.1 = some .local
 free : ∀ y ∈ scope.names, y.2 = .free -> sx.names.lookup y.1 = some .cell \/ sx.names.lookup y.1 = some .free
 len : mp.length = N.length
 look : ∀ (i j : Nat) (x : Str), mp[i]? = some (some j) -> N[i]? = some x -> NX[j]? = some x /\ scope.names.lookup x = some .free
theorem CompOkC.of {sx : Scope} {NX : List Str} {scope : Scope} {N : List Str} {mp : List (Option Nat)} (h : compOkBC sx NX scope N mp = true) : CompOkC sx NX scope N mp := by
 unfold compOkBC at h
 simp only [zq24x, zq115x] at h
 obtain ⟨⟨⟨⟨⟨h1, h2⟩, h3⟩, h4⟩, h5⟩, h6⟩ := h
 refine ⟨by simpa using h1, fun x e k m z => ?_, fun y hy e => ?_, fun y hy e => ?_, by simpa using h5, fun i j x e1 e2 => ?_⟩
 ·subst z
  have := h2 (x, .cell) m
  simp [e] at this
 ·have := h3 y hy
  simpa [e] using this
 ·have := h4 y hy
  simpa [e] using this
 ·have hm : (x, some j) ∈ N.zip mp := by
   have : (N.zip mp)[i]? = some (x, some j) := by
    rw [List.getElem?_zip_eq_some]; exact ⟨e2, e1⟩
   exact zq16x this
  have := h6 _ hm
  simpa using this
def clC (X : Cx) (scope : Scope) (C : Addr) : List (Str × Addr) := cellsFrom (C + 1) scope.names (clOf X.env.cells scope.names [])
def compXC (X : Cx) (scope : Scope) (C : Addr) (N : List Str) (s₀ : Shared) (H₀ : Hp) (fp : List Addr) : Cx :=
 { X with N := N, s₀ := s₀, H₀ := H₀, env := compEnvC scope (clC X scope C) C X.env, outer := X.stack, ex := fp, fn := fun x => scope.names.lookup x == some .cell, pn := [], xe := fun _ _ => False }
theorem newEnvC {M : Model} {A : Around} {E : Value -> Shared -> Prop} {s : Shared} {scope : Scope} {globals : Addr} {closure : List (Str × Addr)} {qual : Str} {outer : Env} {builtins : Addr} {Q : Env -> Shared -> Prop}
  (hQ : ∀ h', h' = pushCells (s.heap.push { cls := .type "dict", data := .dict #[] }) scope.names -> h'.Ns s.heap.objs.size (fun _ => none) -> (∀ b o, s.heap.get? b = some o -> h'.get? b = some o) ->
   Q (newEnv scope s.heap.objs.size globals (cellsFrom (s.heap.objs.size + 1) scope.names closure) qual none .none (some outer) builtins) { s with heap := h' }) :
  wpAny M A (newFunctionEnv scope globals closure [] qual none .none (some outer) builtins) Q E s := by
 simp only [newFunctionEnv, Option.isSome_some, if_true]
 refine wpAny_bind (wpAny_alloc ?_)
 refine wpAny_bind (wpAny_layCells _ (fun name kind cells => by cases hkc : kind == NameKind.cell <;> simp [hkc]) _ _ _ _ ?_)
 rw [show ({ s with heap := s.heap.push { cls := .type "dict", data := .dict #[] } } : Shared).heap.objs.size = s.heap.objs.size + 1 from zq86x ..]
 rw [List.forIn_nil]
 refine wpAny_bind (wpAny_pure (wpAny_pure ?_))
 exact hQ _ rfl ((Heap.Ns.new s.heap (.type "dict")).keeps (pushCells_keeps _ _)) fun b o e => pushCells_keeps _ _ b o (zq33x _ e)
section
variable {X : Cx}
theorem comp_coreC {elt iter tg : Expr} {ifs : List Expr} {scope : Scope} {pos pos' : Pos} {N : List Str} {mp : List (Option Nat)} {wi : TI} {g : TG} {tc : TT} {te : TE} {use : Option (Value -> Sem Unit)}
    {pins : List (Addr × Obj)} {s : Shared} {σ : St} {H : Hp} {Q : VK} {QQ : Value -> Shared -> Prop}
    (ok : CompOkC X.env.scope X.N scope N mp) (hc : X.calm = true) (hi : PI X tg iter wi)
    (hb : ∀ C s₀ H₀ fp, PG (compXC X scope C N s₀ H₀ fp) tg g /\ PTs (compXC X scope C N s₀ H₀ fp) ifs tc /\ PE (compXC X scope C N s₀ H₀ fp) elt te)
    (hs : ∀ x, foldedSetIterable iter X.env x = pure x) (I : Inv X pins σ H s) (h : tComp wi g tc te mp σ H Q)
    (fin : ∀ acc C H' s' m, Inv X pins σ H' s' -> FpOk X pins H' C -> s'.heap.Ns C m -> Q (.ref acc) H' -> compPost (model X.prog X.w) X.A X.xe use QQ (.ref acc) C (.ok .next) s') :
    wpAny (model X.prog X.w) X.A (comprehension (.ListComp elt [⟨tg, iter, ifs, 0⟩] scope pos) scope X.env pos' (newList []) false (eval iter X.env) use) QQ X.xe s := by
  have hfree : ∀ x ∈ scope.names, x.2 = .free -> ∃ a, X.env.cells.lookup x.1 = some a := fun x hx e => I.ok.has x.1 (ok.free x hx e)
  refine wpAny_comprehension_free (use := use) rfl hs (closureFor_eq hfree) ok.kind ok.names (thn (hi pins s σ H _ I h) fun v s1 h1 => thn h1 fun itv s2 h2 => ?_)
  obtain ⟨it, fp, tn, J, H2, e, I2, T, st2, f2, hW⟩ := h2
  subst e
  refine wpAny_newObj_type (newEnvC (fun h₁ hh₁ hns₁ old₁ => ?_))
  dsimp only at hns₁ hh₁ old₁ ⊢
  have I3 := I2.lnew (its := []) (ys := []) (t' := s2.toks) .nil (zq37x _)
  have hW := hW s2.heap.objs.size I2.fresh
  obtain ⟨W, ⟨m0, w0⟩, turn⟩ := hW
  generalize hHP : s2.heap.push { cls := .type "list", dict := none, data := .seq ([] : List Value).toArray } = HP at hns₁ hh₁ old₁ ⊢
  have I3 : Inv X pins σ (upd H2 s2.heap.objs.size (.lst [])) { s2 with heap := HP } := by rw [<- hHP]; exact I3
  generalize hH3 : upd H2 s2.heap.objs.size (.lst []) = H3 at I3 w0
  have hC : HP.objs.size = s2.heap.objs.size + 1 := by rw [<- hHP, zq86x]
  have old := old₁
  have flt : ∀ b ∈ fp, b < s2.heap.objs.size := fun b hb => by
    obtain ⟨o, e, _⟩ := T.obj 0 _ st2 b hb
    exact zq12x e
  have fH3 : ∀ b ∈ fp, H3 b = none := fun b hb => by
    rw [<- hH3, upd_ne (zq32x (flt b hb))]
    exact (f2 b hb).1
  have clsub : ∀ {x : Str} {c : Addr}, (clC X scope HP.objs.size).lookup x = some c -> (HP.objs.size + 1 <= c /\ h₁.IsCell c none) \/ X.env.cells.lookup x = some c := fun {x c} e => by
    rcases cells_new (h := HP.push { cls := .type "dict", data := .dict #[] }) (by rw [zq86x]) e with z | z
    · rw [hh₁]; exact .inl z
    · exact .inr (clOf_sub (fun y d q => by simp at q) z)
  have cllt : ∀ {x : Str} {c : Addr}, X.env.cells.lookup x = some c -> c < HP.objs.size := fun {x c} e => by
    obtain ⟨v, o, ho, hd⟩ := I3.cell x c e
    exact zq12x ho
  have yok : (compXC X scope HP.objs.size N { s2 with heap := HP } H3 fp).Ok := by
    refine ⟨I2.ok.mod, ok.kind, I2.ok.glob, I2.ok.blt, zq5x _, fun x y c e1 e2 => ?_, fun x hx => ?_, fun x c e1 e2 => ?_, I2.ok.hd, I2.ok.frames, .inl rfl, fun b hb => ?_, I3.bs, zq28x I3.ok.bsz I3.sz, fun b o e hb => ?_, fun b hb hz => ?_, I3.stack, I3.stkFree⟩
    · refine cells_inj (n := HP.objs.size + 1) (acc := clOf X.env.cells scope.names []) (fun x y c g1 g2 => I2.ok.inj x y c (clOf_sub (fun y d q => by simp at q) g1) (clOf_sub (fun y d q => by simp at q) g2)) (fun x c g => zq91x (cllt (clOf_sub (fun y d q => by simp at q) g))) e1 e2
    · have hx' : scope.names.lookup x = some .free \/ scope.names.lookup x = some .cell := by
        rcases hx with hx | hx
        · exact relabel_lookC hx (.inl rfl)
        · exact relabel_lookC hx (.inr rfl)
      rcases hx' with hx' | hx'
      · have hm := zq80x hx'
        obtain ⟨a, ha⟩ := hfree _ hm rfl
        refine ⟨a, ?_⟩
        show (clC X scope HP.objs.size).lookup x = some a
        unfold clC
        rw [cells_keep (ok.own x hx')]
        exact clOf_look hm ha
      · exact zq161x.mp (zq160x _ _ _ (.inl hx'))
    · have e1 : scope.names.lookup x = some .cell := by
        have e1 : (scope.names.lookup x == some NameKind.cell) = true := e1
        simpa using e1
      exact zq187x (cells_up (lo := HP.objs.size + 1) (zq5x _) (.inr (zq80x e1)) e2)
    · refine ⟨fun z => ?_, fun x c e => ?_⟩
      rotate_left
      · rcases clsub e with ⟨z, _⟩ | z
        · have q := flt b hb
          intro w
          rw [hC] at z
          rw [w] at z
          exact absurd (zq31x (zq91x (zq91x q)) z) (zq58x _)
        · exact (f2 b hb).2.2.2.2.1 x c z
      have z' : b = HP.objs.size := z
      have q := flt b hb
      rw [z', hC] at q
      exact absurd q (Nat.not_lt.mpr (zq63x _))
    · rcases (f2 b hb).2.2.2.1 with z | z
      · exact I2.ok.noex b o e z
      · exact absurd (zq31x (zq12x (I2.ok.bs b o e).1) z) (zq58x _)
    · rcases zq2x.mp (I2.stkSub b hz) with z | z
      · exact (f2 b hb).2.1 z
      · exact (f2 b hb).2.2.1 z
  have IY : Inv (compXC X scope HP.objs.size N { s2 with heap := HP } H3 fp) [] (startC mp σ) H3 { s2 with heap := h₁ } := by
    refine ⟨yok, rfl, I2.bare, Un.kept old, ⟨_, hns₁, fun i x v e1 e2 e3 => ?_⟩, fun x c e => ?_, I3.hok.fresh (zq5x _), fun x c e => ?_, fun p hp => absurd (show p ∈ ([] : List (Addr × Obj)) from hp) (by simp), I3.hok.kept old, ?_⟩
    · have hj : ∃ j, mp[i]? = some (some j) /\ σ[j]? = some (some v) := by
        unfold startC at e2
        rw [zq6x] at e2
        cases q : mp[i]? with
        | none => rw [q] at e2; cases e2
        | some o =>
          rw [q] at e2
          cases o with
          | none => cases e2
          | some j =>
            refine ⟨j, rfl, ?_⟩
            have e2 : (match σ[j]? with | some v => v | none => none) = some v := zq36x e2
            cases r : σ[j]? with
            | none => rw [r] at e2; cases e2
            | some u =>
              rw [r] at e2
              have e2 : u = some v := e2
              rw [e2]
      obtain ⟨j, hj1, hj2⟩ := hj
      obtain ⟨l1, l2⟩ := ok.look i j x hj1 e1
      have hm := zq80x l2
      have kx := ok.free _ hm rfl
      obtain ⟨mm, _, hl⟩ := I3.loc
      obtain ⟨u, ru, lk⟩ := hl j x v l1 hj2 (kx.elim (fun z => .inr (.inl z)) fun z => .inr (.inr z))
      refine ⟨u, ru, .inr ⟨relabel_free l2, ?_⟩⟩
      rcases lk with ⟨k, _⟩ | ⟨_, c, e, z⟩
      · exfalso
        have k' : X.env.scope.names.lookup x = some .local := k
        rcases kx with kx | kx
        · rw [k'] at kx; cases kx
        · rw [k'] at kx; cases kx
      · refine ⟨c, (cells_keep (ok.own x l2)).trans (clOf_look hm e), ?_⟩
        obtain ⟨o, ho, hd⟩ := z
        exact ⟨o, old c o ho, hd⟩
    · rcases clsub e with ⟨_, z⟩ | z
      · exact ⟨none, z⟩
      · obtain ⟨v, o, ho, hd⟩ := I3.cell x c z
        exact ⟨v, o, old c o ho, hd⟩
    · rcases clsub e with ⟨z, _⟩ | z
      · exact I3.hok.fresh (zq187x z)
      · exact I3.freeC x c z
    · show (startC mp σ).length = N.length
      unfold startC
      rw [zq0x, ok.len]
  have stat : ∀ {H' : Hp}, (∀ b ∈ fp, H' b = none) -> ∀ b ∈ fp, FpOk (compXC X scope HP.objs.size N { s2 with heap := HP } H3 fp) [] H' b := fun {H'} hn b hb =>
    ⟨hn b hb, (yok.exf b hb).1, yok.exfs b hb, .inl hb, (yok.exf b hb).2, fun p hp => absurd (show p ∈ ([] : List (Addr × Obj)) from hp) (by simp)⟩
  have stY : tn 0 h₁ := T.keep 0 _ _ st2 fun b hb o e => old b o (by rw [<- hHP]; exact zq33x _ e)
  have loop : codeAny (model X.prog X.w) X.A (.compLoop (.ListComp elt [⟨tg, iter, ifs, 0⟩] scope pos) 0 (.ref it) (.ref s2.heap.objs.size) (compEnvC scope (clC X scope HP.objs.size) HP.objs.size X.env))
      (compPost (model X.prog X.w) X.A X.xe use QQ (.ref s2.heap.objs.size) HP.objs.size) { s2 with heap := h₁ } := by
    obtain ⟨hg, ht, he⟩ := hb HP.objs.size { s2 with heap := HP } H3 fp
    generalize hY : compXC X scope HP.objs.size N { s2 with heap := HP } H3 fp = Y at hg ht he IY stat
    have yp : Y.prog = X.prog := by rw [<- hY]; rfl
    have yw : Y.w = X.w := by rw [<- hY]; rfl
    have yK : Y.K = X.K := by rw [<- hY]; rfl
    have yA : Y.A = X.A := by rw [<- hY]; rfl
    have yc : Y.calm = true := by rw [<- hY]; exact hc
    have yx : Y.xe = fun _ _ => False := by rw [<- hY]; rfl
    have yenv : Y.env = compEnvC scope (clC X scope HP.objs.size) HP.objs.size X.env := by rw [<- hY]; rfl
    rw [<- yenv]
    refine codeAny_compLoop_own (fun n s' => ∃ i σ' H', Inv Y [] σ' H' s' /\ tn i s'.heap /\ (∀ b ∈ fp, H' b = none) /\ W i n σ' H') ?_ m0 ⟨0, _, H3, IY, stY, fH3, w0⟩
    rintro n s3 ⟨i, σ3, H4, I4, st3, fr3, w3⟩
    rcases turn i n σ3 H4 w3 with ⟨stop, qn⟩ | ⟨go, Nx, hN, step⟩
    · have q0 := T.done Y yp yw yK yc i [] s3 σ3 H4 (fun _ _ => False) I4 (stat fr3) st3 stop
      rw [yA] at q0
      refine thn q0 fun r s4 ⟨hr, I5⟩ => ?_
      subst hr
      show compPost (model X.prog X.w) X.A X.xe use QQ (.ref s2.heap.objs.size) HP.objs.size (.ok .next) s4
      obtain ⟨m, hm, _⟩ := id I5.loc
      have yl : Y.env.locals = HP.objs.size := by rw [yenv]; rfl
      rw [yl] at hm
      have fC : H4 HP.objs.size = none := by have := I5.free; rw [yl] at this; exact this
      have ub := I5.base
      have ub' : Un (frs X.stack) fp H3 H4 HP s4.heap := by rw [<- hY] at ub; exact ub
      have hos : s4.os = s2.os := by have := I5.os; rw [<- hY] at this; exact this
      have hok5 : HOk X.prog X.w H4 s4.heap := by have := I5.hok; rw [yp, yw] at this; exact this
      have IX : Inv X pins σ H4 s4 := I3.call' (ch := fp) hos ub' hok5 I5.bare fun b hb => ⟨(f2 b hb).2.2.2.1, (f2 b hb).2.1, (f2 b hb).2.2.2.2.1, (f2 b hb).2.2.2.2.2⟩
      exact fin _ _ H4 s4 m IX (I3.fpOk (zq5x _) fC) hm qn
    · have q0 := T.item Y yp yw yK yc i [] s3 σ3 H4 (fun _ _ => False) I4 (stat fr3) st3 go
      rw [yA] at q0
      refine thn q0 fun r s4 ⟨u, hr, h4⟩ => ?_
      subst hr
      refine thn h4 fun _ s5 ⟨x, H5, I5, r5, y5, st5, fr5⟩ => ?_
      have I5' := I5.pinned (stat fr5) (T.obj _ _ st5)
      rw [<- yx, <- yp, <- yw, <- yA]
      refine thn (hg _ s5 σ3 H5 x u _ I5' r5 (step x H5 y5)) fun _ s6 ⟨σ6, H6, I6, q6⟩ => ?_
      refine thn (ht _ s6 σ6 H6 _ I6 q6) fun b s7 ⟨H7, I7, q7⟩ => ?_
      have again : ∀ {σ8 : St} {H8 : Hp} {s8 : Shared}, Inv Y ([] ++ pinsAt fp s5.heap) σ8 H8 s8 -> Nx σ8 H8 -> ∃ m, m < n /\ ∃ i σ' H', Inv Y [] σ' H' s8 /\ tn i s8.heap /\ (∀ b ∈ fp, H' b = none) /\ W i m σ' H' := fun {σ8 H8 s8} I8 n8 => by
        obtain ⟨m', hm, w8⟩ := hN σ8 H8 n8
        refine ⟨m', hm, i + 1, σ8, H8, I8.unpinned, T.keep _ _ _ st5 fun b hb o e => (I8.pin (b, o) (zq53x _ (zq53x _ (mem_pinsAt hb e)))).1, fun b hb => ?_, w8⟩
        obtain ⟨o, e, d⟩ := T.obj _ _ st5 b hb
        exact (I8.pin (b, o) (zq53x _ (zq53x _ (mem_pinsAt hb e)))).2.1
      cases b with
      | false =>
        rw [if_neg zq13x]
        rw [if_neg zq13x] at q7
        exact again I7 q7
      | true =>
        rw [if_pos rfl]
        rw [if_pos rfl] at q7
        refine thn (he _ s7 σ6 H7 _ I7 q7) fun v s8 ⟨y, H8, I8, r8, ys, e8, z8, n8⟩ => ?_
        refine thn (mt_append _ s8 σ6 H8 (.ref s2.heap.objs.size) [y] (.ref s2.heap.objs.size) [v] (fun _ H9 => H9 = upd H8 s2.heap.objs.size (.lst (ys ++ [y]))) I8 rfl (.cons r8 .nil) ⟨_, ys, y, rfl, rfl, e8, z8, rfl⟩) fun v9 s9 ⟨y9, H9, I9, r9, e9⟩ => ?_
        subst e9
        exact again I9 n8
  refine codeAny_compStart_list loop (T.self _ _ _ _ _ stY loop)
theorem pe_lcompC {elt iter tg : Expr} {ifs : List Expr} {scope : Scope} {pos : Pos} {N : List Str} {mp : List (Option Nat)} {wi : TI} {g : TG} {tc : TT} {te : TE}
  (ok : CompOkC X.env.scope X.N scope N mp) (hi : PI X tg iter wi)
  (hb : ∀ C s₀ H₀ fp, PG (compXC X scope C N s₀ H₀ fp) tg g /\ PTs (compXC X scope C N s₀ H₀ fp) ifs tc /\ PE (compXC X scope C N s₀ H₀ fp) elt te) (hc : X.calm = true := by rfl)
  (hs : ∀ x, foldedSetIterable iter X.env x = pure x := by intro _; rfl) : PE X (.ListComp elt [⟨tg, iter, ifs, 0⟩] scope pos) (tComp wi g tc te mp) := by
 intro pins s σ H Q I h
 rw [eval_ListComp]
 refine comp_coreC (use := none) ok hc hi hb hs I h fun acc C H' s' m I' f hn q => ?_
 exact ⟨m, hn, fun h' hs' => ⟨.ref acc, H', f.turned I' hs', rfl, q⟩⟩
theorem ps_setCC {elt iter tg : Expr} {ifs : List Expr} {scope : Scope} {pos spos py : Pos} {N : List Str} {mp : List (Option Nat)} {wi : TI} {g : TG} {tc : TT} {te : TE} {i : Nat} {y : Str}
  (hN : X.N.Nodup) (hy : X.N[i]? = some y) (hk : X.env.kindOf y = some .local)
  (ok : CompOkC X.env.scope X.N scope N mp) (hi : PI X tg iter wi)
  (hb : ∀ C s₀ H₀ fp, PG (compXC X scope C N s₀ H₀ fp) tg g /\ PTs (compXC X scope C N s₀ H₀ fp) ifs tc /\ PE (compXC X scope C N s₀ H₀ fp) elt te) (hc : X.calm = true := by rfl)
  (hsw : swapsWith (.ListComp elt [⟨tg, iter, ifs, 0⟩] scope pos) (some (.Name y py)) spos.line X.env = pure true := by rfl)
  (hs : ∀ x, foldedSetIterable iter X.env x = pure x := by intro _; rfl) : PS X (.Assign [.Name y py] (.ListComp elt [⟨tg, iter, ifs, 0⟩] scope pos) spos) (tSetC i (tComp wi g tc te mp)) := by
 intro pins s σ H D I h
 rw [exec_Assign_Name_used _ _ _ _ hsw]
 refine wpAny_bind (wpAny_standAt (wpAny_bind ?_))
 show wpAny _ X.A (do let _ <- comprehension (.ListComp elt [⟨tg, iter, ifs, 0⟩] scope pos) scope X.env _ (newList []) false (eval iter X.env) (some (assign (.Name y py) X.env))) _ _ s
 refine wpAny_bind (wpAny_mono (comp_coreC (use := some (assign (.Name y py) X.env)) (QQ := fun _ s' => SP X pins D .next s') ok hc hi hb hs I h fun acc C H' s' m I' f hn q => ?_) (fun _ s' hq => wpAny_pure (wpAny_pure hq)) fun _ _ e => e)
 refine wpAny_assign_Name (store_ok2 (v := .ref acc) I' hN hy (.inl hk) rfl (fun s2 I2 ⟨a, sb, ha⟩ => ?_) (.inr hk))
 have hne : C ≠ a := by
  rcases ha with z | z
  ·rw [z]; exact f.2.1
  ·exact fun e => f.2.2.2.2.1 y a z e.symm
 exact ⟨m, hn.sameBut sb hne, fun h' hs' => ⟨_, H', f.turned I2 hs', q⟩⟩
end
end L2
set_option maxRecDepth 100000
set_option maxHeartbeats 4000000
namespace L2
open PySem PySem.Spec PyProof.Rows
def inLot (lot : List Int) (prs : Prs) : Nat := (prs.filter fun pr => decide (pr.1 ∈ lot)).length
def holdB (cs : List Prs) (lot : List Int) : Bool := cs.all fun prs => decide (inLot lot prs ≠ 1)
structure LotOk (n : Int) (l : List Int) : Prop where
 nd : l.Nodup
 rg : ∀ x ∈ l, 0 <= x /\ x < n
theorem LotOk.len {n : Int} {l : List Int} (h : LotOk n l) (hn : n <= 400) : l.length <= 400 := by
 have := zq170x (l₂ := (List.range n.toNat).map fun (i : Nat) => (i : Int)) h.nd fun k hk => by
  obtain ⟨a, b⟩ := h.rg k hk
  exact zq17x.mpr ⟨k.toNat, zq29x.mpr (by omega), by omega⟩
 rw [zq0x, zq74x] at this
 omega
theorem LotOk.nil {n : Int} : LotOk n [] := ⟨List.nodup_nil, fun _ h => nomatch h⟩
theorem LotOk.perm {n : Int} {l r : List Int} (h : LotOk n l) (p : r.Perm l) : LotOk n r := ⟨p.nodup_iff.mpr h.nd, fun x hx => h.rg x (p.mem_iff.mp hx)⟩
theorem LotOk.range {n : Int} (hn : 0 <= n) : LotOk n ((List.range n.toNat).map fun (i : Nat) => (i : Int)) := by
 refine ⟨?_, fun x hx => ?_⟩
 ·rw [List.nodup_iff_pairwise_ne, zq76x]
  exact List.pairwise_lt_range.imp fun h => by omega
 ·obtain ⟨i, hi, rfl⟩ := zq17x.mp hx
  have := zq29x.mp hi
  omega
def CksOk (n : Int) (cs : List Prs) : Prop := ∀ prs ∈ cs, LotOk n (prs.map (·.1))
theorem filter_snoc (q : Int -> Bool) {xs : List Int} {j : Nat} {x : Int} (e : xs[j]? = some x) : (xs.take (j + 1)).filter q = (xs.take j).filter q ++ if q x = true then [x] else [] := by
 rw [take_snoc e, zq104x]
 congr 1
 rw [zq188x, zq189x]
theorem LotOk.range0 {n : Int} (hn : 0 <= n) : LotOk n ((List.range n.toNat).map fun (i : Nat) => 0 + (i : Int)) := by
 have e : ((List.range n.toNat).map fun (i : Nat) => 0 + (i : Int)) = ((List.range n.toNat).map fun (i : Nat) => (i : Int)) := zq68x fun i _ => by omega
 rw [e]; exact .range hn
theorem LotOk.lenN {n : Int} {l : List Int} (h : LotOk n l) : l.length <= n.toNat := by
 have := zq170x (l₂ := (List.range n.toNat).map fun (i : Nat) => (i : Int)) h.nd fun k hk => by
  obtain ⟨a, b⟩ := h.rg k hk
  exact zq17x.mpr ⟨k.toNat, zq29x.mpr (by omega), by omega⟩
 rwa [zq0x, zq74x] at this
end L2
set_option maxRecDepth 100000
set_option maxHeartbeats 4000000
namespace L2
open PySem PySem.Spec PyProof.Rows
theorem pe_bmJ {X : Cx} {K : PySem.W.Frag} {e : Expr} {T : String} {r : V -> List V -> Hp -> VK -> Prop} {to : TE} {t : TA} (hK : X.K = K) (h : PE X e (tBM X.K T r to t)) : PE X e (tBM K T r to t) := by subst hK; exact h
theorem perm_eraseIdx {α : Type} {d : α} : ∀ {ds : List α} {r : Nat}, ds[r]? = some d -> (d :: ds.eraseIdx r).Perm ds
 | x :: ds, 0, e => by simp at e; subst e; exact .refl _
 | x :: ds, r + 1, e => (List.Perm.swap x d _).trans ((perm_eraseIdx (ds := ds) (r := r) (by simpa using e)).cons x)
 | [], r, e => by simp at e
section
variable {G : Gx} {ρ : Rh} {t0 : TE} {E : DE} {i0 j : Nat} {f : Bool} {K K2 : PySem.W.Frag}
theorem Sv.retTurn {a : Addr} {ds : List PyData} (e0 : ρ[i0]? = some .bag) (ej : ρ[j]? = some (.own a f ds)) (hl : ds.length <= 9000) (hlen : Ev G ρ t0 fun _ x => x = .int ds.length) (h : ∀ rs : List PyData, rs.Perm ds -> E.rt f (.list rs)) :
  Sv G ρ (tRet (tComp (iRng1 (tCons t0 tNil)) (gName 0) tNoTest (tBM K "list" rPopAt (tVar 2) (tCons (tCall spDraw [] E0 (tCons (tVar 1) (tCons (tCB (rLen K2) (tCons (tVar 2) tNil)) tNil))) tNil)) [none, some i0, some j])) E := fun nb σ H D W KK => by
 refine hlen nb σ H _ W fun g v H1 x ex s1 hv => ?_
 subst ex
 rw [hv.ofI]
 refine ⟨ds.length, rfl, by omega, by omega, fun acc hacc => ?_⟩
 have hij : i0 ≠ j := fun z => by subst z; rw [e0] at ej; cases ej
 have hρ : startR [none, some i0, some j] ρ = [.no, .bag, .own a f ds] := by unfold startR; simp [e0, ej]
 have W0 : Wd G nb [.no, .bag, .own a f ds] (L2.startC [none, some i0, some j] σ) H1 := by rw [<- hρ]; exact (W.step s1).startC (by simp [hij])
 have W1 := W0.more hacc (o := .lst [])
 have hN := NB.new s1.2 hacc
 have haa : a ≠ acc := (no_own W0 hacc).1 2 a f ds rfl
 rw [zq106x]
 refine R.comp_range (fun i σ H2 => ∃ (s0 : Sl) (ds' es : List PyData) (xs : List V), (∀ a f ds, s0 ≠ .own a f ds) /\ (∀ a f ds, s0 ≠ .dic a f ds) /\ Wd G (fun x => nb x \/ x = acc) [s0, .bag, .own a f ds'] σ H2 /\ H2 acc = some (.lst xs) /\ IsDs (G.S (fun x => nb x \/ x = acc) f) H2 es xs /\ (es ++ ds').Perm ds /\ es.length = i) ⟨.no, ds, [], [], (fun _ _ _ z => by cases z), (fun _ _ _ z => by cases z), W1, upd_same, .nil, by simp, rfl⟩ ?_ ?_
 ·rintro i σ H2 hi ⟨s0, ds', es, xs, hs0, hs1, W2, hx2, hd2, hp, hel⟩
  have hlen' := hp.length_eq
  rw [zq30x] at hlen'
  have W3 := W2.setD (i := 0) (f := true) (d := .int (0 + (i : Int))) (v := .int (0 + (i : Int))) (.int _)
  dsimp only [gName, tNoTest]
  rw [if_pos rfl]
  obtain ⟨x, e1, h1, h2, h3, ys, hy, hdy⟩ := W3.ok 2 _ rfl
  subst h1
  refine ⟨.ref a, e1, .inl ⟨rfl, _, SqL.of hy⟩, ?_⟩
  refine Ev.draw (i := 1) (Φ := fun _ d => ∃ r : Nat, d = .int (r : Int) /\ r < ds'.length) rfl (Ev.lenOwn (i := 2) rfl ?_) _ _ _ _ W3 fun g v H3 d ⟨r, er, hr⟩ s3 hv => ?_
  ·refine ⟨_, rfl, by omega, by unfold Sm; omega, fun r r1 r2 => ⟨r.toNat, ?_, by omega⟩⟩
   rw [zq77x r1]
  subst er
  have hk := hv.ofI
  subst hk
  have W4 := W3.step s3
  have hy3 := s3.1 _ _ h3 hy
  have hx3 := s3.1 _ _ hN hx2
  have hdy3 := hdy.keep s3.butS
  have hd3 := hd2.keep (s3.butS (nb := fun x => nb x \/ x = acc) (f := f))
  obtain ⟨d, edd⟩ : ∃ d, ds'[r]? = some d := ⟨_, zq1x hr⟩
  obtain ⟨y', hy', hD⟩ := hdy3.get edd
  have hml : r < ys.length := (zq7x.mp hy').1
  have hix : seqIndex? (r : Int) ys.length = some r := by
   have : ixN ys.length (r : Int) = some r := by
    unfold ixN
    rw [if_pos (by omega), if_pos (by omega), zq106x]
   exact (ixN_seq this).1
  have W5 := Sv.writeOwn W4 (i := 2) rfl (hdy3.era r)
  have bt1 : But (G.S (fun x => nb x \/ x = acc) f) H3 (upd H3 a (.lst (ys.eraseIdx r))) := But.set (.inl h2)
  have hx5 : (upd H3 a (.lst (ys.eraseIdx r))) acc = some (.lst xs) := by rw [upd_ne (zq14x haa)]; exact hx3
  refine ⟨a, ys, (r : Int), r, y', rfl, rfl, hy3, by omega, by omega, hix, hy', ?_⟩
  have hxl := hd2.length
  refine ⟨xs, hx5, zq31x (show xs.length < 10000 by omega) (by decide), ?_⟩
  have bt2 : But (G.S (fun x => nb x \/ x = acc) f) (upd H3 a (.lst (ys.eraseIdx r))) (upd (upd H3 a (.lst (ys.eraseIdx r))) acc (.lst (xs ++ [y']))) := But.set (.inl (.inr rfl))
  have W6 := W5.write (p := acc) (o := .lst (xs ++ [y'])) (.inr rfl) hN (fun k c f' cs hc => by
   match k with
   | 0 => cases hc
   | 1 => cases hc
   | 2 => cases hc; exact haa
   | k + 3 => simp at hc) (fun k c f' cs hc => by
   match k with
   | 0 => cases hc
   | 1 => cases hc
   | 2 => cases hc
   | k + 3 => simp at hc) (fun k c hc => by
   match k with
   | 0 => cases hc
   | 1 => cases hc
   | 2 => cases hc
   | k + 3 => simp at hc)
  refine ⟨_, ds'.eraseIdx r, es ++ [d], xs ++ [y'], ?_, ?_, W6, upd_same, IsDs.snoc ((hD.keep bt1).keep bt2) ((hd3.keep bt1).keep bt2), ?_, by simp [hel]⟩
  ·intro _ _ _ z; cases z
  ·intro _ _ _ z; cases z
  ·have := perm_eraseIdx edd
   rw [zq163x]
   exact ((List.perm_append_left_iff es).mpr this).trans hp
 ·rintro σ H2 ⟨s0, ds', es, xs, hs0, hs1, W2, hx2, hd2, hp, hel⟩
  have hlen' := hp.length_eq
  rw [zq30x] at hlen'
  have e9 : ds' = [] := zq113x.mp (by omega)
  subst e9
  rw [zq46x] at hp
  refine KK.rt _ _ _ f _ H2 _ (h es hp) W2 (.lst (fun z => ?_) hx2 (hd2.av (S_mono (fun z => z) fun _ z => z.elim)))
  have hn := W2.nbo acc (.inr rfl) hN
  rcases z with z | z | z | z
  ·exact z
  ·exact W2.gA acc z hn
  ·exact z hN
  ·exact z.2 hn
end
end L2
set_option maxRecDepth 100000
set_option maxHeartbeats 4000000
namespace L2
open PySem PySem.Spec PyProof.Rows
structure Great (cs : List Prs) (lot g : List Int) : Prop where
 sub : ∃ q : Int -> Bool, g = lot.filter q
 out : holdB cs g = true
 max : ∀ T : List Int, (∀ x ∈ T, x ∈ lot) -> holdB cs T = true -> ∀ x ∈ T, x ∈ g
@[reducible] def insK (S : List Int) : Ks := S.map fun x => (x, PyData.bool true)
end L2
set_option maxRecDepth 100000
set_option maxHeartbeats 4000000
namespace L2
open PySem PySem.Spec PyProof.Rows
theorem Great.mem {cs : List Prs} {lot g : List Int} (h : Great cs lot g) : ∀ x ∈ g, x ∈ lot := fun x hx => by
 obtain ⟨q, e⟩ := h.sub
 rw [e] at hx
 exact (zq27x.mp hx).1
end L2
set_option maxRecDepth 100000
set_option maxHeartbeats 4000000
namespace L2
open PySem PySem.Spec PyProof.Rows
def fst0 (row : List Int) : Int := match row.getLast? with | none => 0 | some l => l + 1
def aft (n : Int) (row : List Int) : List Int := (List.range (n - fst0 row).toNat).map fun (i : Nat) => fst0 row + (i : Int)
def ext (n : Int) (row : List Int) : List (List Int) := (aft n row).map fun p => row ++ [p]
@[reducible] def optRow : Option (List Int) -> PyData
 | none => .none
 | some r => rowD r
theorem perm_map_inv {α β : Type} {φ : α -> β} {l1 l2 : List β} (h : l1.Perm l2) : ∀ xs : List α, l2 = xs.map φ -> ∃ ys : List α, l1 = ys.map φ /\ ys.Perm xs := by
  induction h with
  | nil => intro xs e; exact ⟨[], rfl, by cases xs <;> first | exact .nil | cases e⟩
  | cons x _ ih =>
    intro xs e
    cases xs with
    | nil => cases e
    | cons a xs =>
      obtain ⟨e1, e2⟩ := zq111x e
      obtain ⟨ys, e3, p⟩ := ih xs e2
      exact ⟨a :: ys, by rw [e3, e1]; rfl, p.cons a⟩
  | swap x y l =>
    intro xs e
    match xs, e with
    | a :: b :: xs, e =>
      obtain ⟨e1, e2⟩ := zq111x e
      obtain ⟨e3, e4⟩ := zq111x e2
      exact ⟨b :: a :: xs, by rw [e1, e3, e4]; rfl, .swap a b xs⟩
  | trans _ _ ih1 ih2 =>
    intro xs e
    obtain ⟨ys, e1, p1⟩ := ih2 xs e
    obtain ⟨zs, e2, p2⟩ := ih1 ys e1
    exact ⟨zs, e2, p2.trans p1⟩
end L2
set_option maxRecDepth 100000
set_option maxHeartbeats 4000000
set_option maxRecDepth 100000
set_option maxHeartbeats 4000000
set_option maxRecDepth 100000
set_option maxHeartbeats 4000000
set_option maxRecDepth 100000
set_option maxHeartbeats 4000000
namespace L2
open PySem PySem.Spec PyProof.Rows
def gI (r : List Int) (i : Nat) : Int := r.getD i 0
theorem due_all {v : List Int} {n : Int} (hv : v.length = n.toNat) : ∀ (prs : Prs), (∀ pr ∈ prs, 0 <= pr.1 /\ pr.1 < n) -> dueSum prs (v.map some) = (prs.map fun pr => gI v pr.1.toNat * pr.2).sum
  | [], _ => rfl
  | pr :: prs, h => by
    show termOf _ pr + dueSum prs _ = _
    rw [due_all hv prs fun q hq => h q (zq23x _ hq), zq4x, zq41x]
    congr 1
    obtain ⟨h0, h1⟩ := h pr (zq19x ..)
    unfold termOf gI
    rw [zq6x, zq3x, zq1x (show pr.1.toNat < v.length by omega)]
    exact zq56x ..
def co (prs : Prs) (j : Nat) : Int := (prs.map fun pr => if pr.1.toNat = j then pr.2 else 0).sum
def PrsQ (p : Int) (m : Nat) (prs : Prs) : Prop := (prs.map (·.1)).Nodup /\ prs.length <= 1000 /\ ∀ pr ∈ prs, 0 <= pr.1 /\ pr.1 < m /\ 1 <= pr.2 /\ pr.2 < p
end L2
set_option maxRecDepth 100000
set_option maxHeartbeats 4000000
set_option maxRecDepth 100000
set_option maxHeartbeats 4000000
namespace L2
open PySem PySem.Spec PyProof.Rows
theorem Sv.lift {G : Gx} {ρ : Rh} {s : TS} {E : DE} {f : Bool} {ds : List PyData} {a : Addr} (i : Nat) (e : ρ[i]? = some (.own a f ds)) (hs : scAll ds = true) (h : Sv G (ρ.set i (.own a true ds)) s E) : Sv G ρ s E := fun nb σ H D W K => by
 obtain ⟨x, e1, h1, h2, h3, xs, hx, hd⟩ := W.ok i _ e
 have W' := Sv.writeOwn (g := true) W e (IsDs.scAny (nb' := G.S nb true) (H' := H) hs hd)
 have : upd H a (.lst xs) = H := by
  funext b
  by_cases c : b = a
  ·subst c; rw [upd_same, hx]
  ·rw [upd_ne c]
 rw [this] at W'
 exact h nb σ H D W' K
end L2
set_option maxRecDepth 100000
set_option maxHeartbeats 4000000
set_option maxRecDepth 100000
set_option maxHeartbeats 4000000
namespace L2
open PySem PySem.Spec PyProof.Rows
theorem freshL {P : (Addr -> Prop) -> Prop} {H : Hp} (hP : ∀ {S S' : Addr -> Prop}, (∀ a, S' a -> S a) -> P S -> P S') (hf : ∀ {S : Addr -> Prop} {p : Addr}, H p = none -> P S -> P fun a => S a \/ a = p) : ∀ {L : List Addr} {S : Addr -> Prop}, (∀ a ∈ L, H a = none) -> P S -> P fun a => S a \/ a ∈ L
 | [], S, _, h => hP (fun a z => z.elim (fun z => z) fun z => by cases z) h
 | p :: L, S, hL, h => hP (fun a z => by
   rcases z with z | z
   ·exact .inl (.inl z)
   ·rcases zq2x.mp z with z | z
    ·exact .inr z
    ·exact .inl (.inr z)) (hf (hL p (zq19x ..)) (freshL hP hf (L := L) (fun a m => hL a (zq23x _ m)) h))
section
variable {G : Gx} {ρ : Rh} {nb : Addr -> Prop} {σ : St} {H H1 : Hp} {i : Nat} {L : List Addr} {c c' : Cu} {f : Bool} {d : PyData} {p : Addr} {o : HO} {E : DE}
theorem Wd.growL (W : Wd G nb ρ σ H) (s1 : Step G.B H H1) (ha : ∀ a ∈ L, H a = none) (e : ∀ a ∈ L, H1 a ≠ none) : Wd G (fun x => nb x \/ x ∈ L) ρ σ H1 /\ (∀ a ∈ L, NB G.B a) /\ ∀ f x, G.S (fun x => nb x \/ x ∈ L) f x -> (G.S nb f x \/ x ∈ L) := by
  have hN : ∀ a ∈ L, NB G.B a := fun a m => NB.new W.bag (ha a m)
  have hA : ∀ f x, G.S (fun x => nb x \/ x ∈ L) f x -> (G.S nb f x \/ x ∈ L) := fun f x z => by
    rcases z with (z | z) | z | z | z
    · exact .inl (.inl z)
    · exact .inr z
    · exact .inl (.inr (.inl z))
    · exact .inl (.inr (.inr (.inl z)))
    · exact .inl (.inr (.inr (.inr z)))
  have W1 := W.step s1
  have fD : ∀ {S : Addr -> Prop} {d : PyData} {v : V}, IsD S H d v -> IsD (fun a => S a \/ a ∈ L) H d v := fun {S d v} h => freshL (P := fun S => IsD S H d v) (fun z h => IsD.av z h) (fun hp h => IsD.fresh hp h) ha h
  have fDs : ∀ {S : Addr -> Prop} {d : List PyData} {v : List V}, IsDs S H d v -> IsDs (fun a => S a \/ a ∈ L) H d v := fun {S d v} h => freshL (P := fun S => IsDs S H d v) (fun z h => IsDs.av z h) (fun hp h => IsDs.fresh hp h) ha h
  have fKs : ∀ {S : Addr -> Prop} {d : List (PyData × PyData)} {v : List (Key × V)}, IsKs S H d v -> IsKs (fun a => S a \/ a ∈ L) H d v := fun {S d v} h => freshL (P := fun S => IsKs S H d v) (fun z h => IsKs.av z h) (fun hp h => IsKs.fresh hp h) ha h
  have fH : ∀ {S : Addr -> Prop} {d : HD} {v : V}, IsH S H d v -> IsH (fun a => S a \/ a ∈ L) H d v := fun {S d v} h => freshL (P := fun S => IsH S H d v) (fun z h => IsH.av h z) (fun hp h => IsH.fresh h hp) ha h
  refine ⟨?_, hN, hA⟩
  refine ⟨W1.bag, fun x n => ?_, W1.old, fun x n q => ?_, W.gA, W.len, W.gB, fun h m => ((fH (W.hld h m)).keep (s1.but fun x z => .inl (.inr (.inr (.inl z))))).av (hA h.1), fun j s e' => ?_, W.apart, W.apd, W.apc⟩
  · rcases n with n | n
    · exact W1.live x n
    · exact e x n
  · rcases n with n | n
    · exact W.nbo x n q
    · cases z : G.H0 x with
      | none => rfl
      | some o => have := ha x n; rw [W.old x o q z] at this; cases this
  · obtain ⟨x, e1, h⟩ := W.ok j s e'
    refine ⟨x, e1, ?_⟩
    cases s with
    | no => trivial
    | d f d => obtain ⟨v, e, h⟩ := h; exact ⟨v, e, ((fD h).keep (s1.but fun x z => .inl (.inr (.inr (.inl z))))).av (hA f)⟩
    | own c f es => obtain ⟨e, n, q, xs, hx, hd⟩ := h; exact ⟨e, .inl n, q, xs, s1.1 _ _ q hx, ((fDs hd).keep (s1.but fun x z => .inl (.inr (.inr (.inl z))))).av (hA f)⟩
    | bag => exact h
    | raw v => exact h
    | dic c f es => obtain ⟨e, n, q, xs, hx, hd⟩ := h; exact ⟨e, .inl n, q, xs, s1.1 _ _ q hx, ((fKs hd).keep (s1.but fun x z => .inl (.inr (.inr (.inl z))))).av (hA f)⟩
    | cu c =>
      obtain ⟨e, n, q⟩ := h
      refine ⟨e, fun a ha => ⟨.inl (n a ha).1, (n a ha).2⟩, c.av (hA c.f) (c.keep (.of fun x o hx e => s1.1 x o ?_ e) (freshL (P := fun S => c.P S H) (fun z h => c.av z h) (fun hp h => c.fresh hp h) ha q))⟩
      rcases hx with hx | hx
      · exact zq55x fun z => hx (.inl (.inr (.inr (.inl z))))
      · exact (n x hx).2
theorem SlOk.adr_nb {x : Option V} {s : Sl} (h : SlOk G nb H x s) : ∀ a ∈ s.adr, nb a /\ NB G.B a := by
 cases s with
 | own a f ds => intro x hx; rw [zq8x.mp hx]; exact ⟨h.2.1, h.2.2.1⟩
 | dic a f ds => intro x hx; rw [zq8x.mp hx]; exact ⟨h.2.1, h.2.2.1⟩
 | cu c => exact h.2.1
 | no => intro _ z; cases z
 | d _ _ => intro _ z; cases z
 | bag => intro _ z; cases z
 | raw _ => intro _ z; cases z
theorem Wd.cu_of (W : Wd G nb ρ σ H) (s1 : Step G.B H H1) (ha : ∀ a ∈ c.F, H a = none) (e : ∀ a ∈ c.F, H1 a ≠ none) (hP : c.P (fun x => G.S nb c.f x \/ x ∈ c.F) H1) : Wd G (fun x => nb x \/ x ∈ c.F) (ρ.set i (.cu c)) (σ.set i (some c.v)) H1 := by
 obtain ⟨W2, hN, hA⟩ := W.growL s1 ha e
 refine W2.set ⟨rfl, fun a m => ⟨.inr m, hN a m⟩, c.av (hA c.f) hP⟩ (fun _ _ _ z => by cases z) (fun _ _ _ z => by cases z) (fun x hx j t hj ht hc z => ?_)
 obtain ⟨y, e1, h⟩ := W.ok j _ ht
 exact W.live x (h.adr_nb x z).1 (ha x hx)
theorem Wd.writeCu (W : Wd G nb ρ σ H) (e : ρ[i]? = some (.cu c)) (hp : p ∈ c.F) (hv : c'.v = c.v) (hF : ∀ a ∈ c'.F, a ∈ c.F) (h : c'.P (G.S nb c'.f) (upd H p o)) : Wd G nb (ρ.set i (.cu c')) σ (upd H p o) := by
 obtain ⟨x, e1, h1, h2, h3⟩ := W.ok i _ e
 subst h1
 have hil : i < ρ.length := (zq7x.mp e).1
 have W0 : Wd G nb (ρ.set i .no) (σ.set i (some c.v)) H := W.set trivial fun _ _ _ z => by cases z
 have other : ∀ (j : Nat) s, (ρ.set i .no)[j]? = some s -> s ≠ .no -> p ∉ s.adr := fun j s hs hn => by
  have hij : i ≠ j := fun z => by subst z; rw [zq20x hil] at hs; cases hs; exact hn rfl
  rw [zq9x hij] at hs
  exact W.apc i j c s hij e hs p hp
 have W1 : Wd G nb (ρ.set i .no) (σ.set i (some c.v)) (upd H p o) := W0.write (h2 p hp).1 (h2 p hp).2 (fun j a f ds hs z => other j _ hs (by intro z; cases z) (zq8x.mpr z.symm)) (fun j a f ds hs z => other j _ hs (by intro z; cases z) (zq8x.mpr z.symm)) (fun j c hs => other j _ hs (by intro z; cases z))
 have W2 := W1.set (i := i) (s := .cu c') (x := some c.v) ⟨by rw [hv], fun a m => h2 a (hF a m), h⟩ (fun _ _ _ z => by cases z) (fun _ _ _ z => by cases z) (fun x hx j t hj ht hc => by
  rw [zq9x (zq14x hj)] at ht
  exact W.apc i j c t (zq14x hj) e ht x (hF x hx))
 rw [zq82x, zq82x] at W2
 have : σ.set i (some c.v) = σ := by
  apply zq61x
  intro j
  by_cases hij : i = j
  ·subst hij; rw [zq20x (by rw [W.len]; exact hil), e1]
  ·rw [zq9x hij]
 rwa [this] at W2
end
end L2
set_option maxRecDepth 100000
set_option maxHeartbeats 4000000
namespace L2
open PySem PySem.Spec PyProof.Rows
abbrev GRow := Int × Addr × List PyData
end L2
set_option maxRecDepth 100000
set_option maxHeartbeats 4000000
namespace L2
open PySem PySem.Spec PyProof.Rows
def facOf (prs : Prs) (pl : Int) : Option Int := (prs.find? fun pr => decide (pr.1 = pl)).map (·.2)
noncomputable def vc1 (p : Int) (c : Nat) : Option Int -> List (Int × Int)
 | some f => [((c : Int), sol p f 1)]
 | none => []
noncomputable def vcTo (p : Int) (cs : List Prs) (pl : Int) (i : Nat) : List (Int × Int) := (List.range i).flatMap fun c => vc1 p c (facOf (cs.getD c []) pl)
theorem vcTo_mem {p : Int} {cs : List Prs} {pl : Int} {q : Int × Int} {i : Nat} (hi : i <= cs.length) (h : q ∈ vcTo p cs pl i) : ∃ (c : Nat) (prs : Prs) (f : Int), cs[c]? = some prs /\ c < i /\ facOf prs pl = some f /\ q = ((c : Int), sol p f 1) := by
  unfold vcTo at h
  obtain ⟨c, hc, hq⟩ := zq140x.mp h
  have hc := zq29x.mp hc
  have e : cs[c]? = some cs[c] := zq1x (by omega)
  rw [zq3x, e] at hq
  cases hf : facOf cs[c] pl with
  | none => simp [vc1, hf] at hq
  | some f =>
    have hq : q ∈ vc1 p c (facOf cs[c] pl) := hq
    rw [hf] at hq
    exact ⟨c, cs[c], f, e, hc, hf, zq8x.mp hq⟩
noncomputable def votesL (p : Int) (cs : List Prs) (ws : List Int) (pl : Int) : List Int :=
 (vcTo p cs pl cs.length).map fun q => (ws.getD pl.toNat 0 - dueSum (cs.getD q.1.toNat []) (ws.map some) % p * q.2) % p
structure VNet (p n : Int) (cs : List Prs) : Prop where
 hp : PrimeZ p
 p40 : p < 10 ^ 40
 n0 : 1 <= n
 n1 : n <= 400
 cl : cs.length <= 400
 ok : ∀ prs ∈ cs, PrsQ p n.toNat prs
end L2
set_option maxRecDepth 100000
set_option maxHeartbeats 4000000
namespace L2
open PySem PySem.Spec PyProof.Rows
def goodV (L : List Int) (w x : Int) : Bool := decide (x ≠ w) && decide (L.length < 2 * L.count x)
def mjL (L : List Int) (w : Int) : List Int := (L.filter (goodV L w)).take 1
@[reducible] def trD (t : Int × Int × Int) : PyData := .tuple [.int t.1, .int t.2.1, .int t.2.2]
noncomputable def trnAt (p : Int) (cs : List Prs) (ws : List Int) (i : Nat) : List (Int × Int × Int) := (mjL (votesL p cs ws (i : Int)) (ws.getD i 0)).map fun x => ((i : Int), ws.getD i 0, x)
noncomputable def trnTo (p : Int) (cs : List Prs) (ws : List Int) (m : Nat) : List (Int × Int × Int) := (List.range m).flatMap (trnAt p cs ws)
end L2
set_option maxRecDepth 100000
set_option maxHeartbeats 4000000
namespace L2
open PySem PySem.Spec PyProof.Rows
def brk (p : Int) (cs : List Prs) (ws : List Int) : Nat := cs.countP fun prs => decide (dueSum prs (ws.map some) % p ≠ 0)
abbrev Bst := Int × Option (Int × Int × Int)
end L2
set_option maxRecDepth 100000
set_option maxHeartbeats 4000000
namespace L2
open PySem PySem.Spec PyProof.Rows
abbrev Trn := Int × Int × Int
theorem shaped_trn (ts : List Trn) : SeqAt.shaped (.list (ts.map trD)) = true := by
 have h : PyData.depthAll (ts.map trD) <= 1 /\ PyData.canLayAll0 (ts.map trD) = true := by
  induction ts with
  | nil => simp [PyData.depthAll, PyData.canLayAll0]
  | cons a r ih => simp [trD, PyData.depthAll, PyData.depth, PyData.canLayAll0, PyData.canLay0, ih.2]; have := ih.1; omega
 unfold SeqAt.shaped
 simp only [PyData.canLay0, PyData.depth, h.2, Bool.true_and]
 have := h.1
 simp
 omega
theorem shaped_nilL : SeqAt.shaped (.list []) = true := by with_unfolding_all rfl
theorem eqv_trn (ts : List Trn) : (PyData.eqv (.list (ts.map trD)) (.list []) != false) = decide (ts = []) := by
 cases ts <;> simp [PyData.eqv, PyData.eqvAll]
end L2
set_option maxRecDepth 100000
set_option maxHeartbeats 4000000
set_option maxRecDepth 100000
set_option maxHeartbeats 4000000
namespace L2
open PySem PySem.Spec PyProof.Rows
structure MCallee (P : Program) (w : World) (K : PySem.W.Frag) (mg : Str -> Option Value) (base : Heap) (C : Addr) (m : Str) (k : Nat) (ps : List Str) (sp : Sp) : Prop where
 cl : Cls K C
 ex : ∃ f fd, FnOk P w K mg base CX0 k f fd ps sp /\ Binds K fd ps [] /\ Meth K C m f
structure ICallee (P : Program) (w : World) (K : PySem.W.Frag) (mg : Str -> Option Value) (base : Heap) (C : Addr) (x : Str) (k : Nat) (ps : List Str) (sp : Sp) : Prop where
 ex : ∃ f fd, FnOk P w K mg base CX0 k f fd ps sp /\ Binds K fd ps [] /\ Mk K C f /\ mg x = some (.ref C)
section
variable {X : Cx} {C : Addr} {k : Nat} {ps : List Str} {sp : Sp} {x m : Str} {p pos apos : Pos} {e o : Expr} {es : List Expr} {ta : TE} {t : TA}
theorem pe_methC {pl : Sem Bool} (c : MCallee X.prog X.w X.K X.mg X.base C m k ps sp) (he : PE X o ta) (hr : Room k X.A) (ha : PA X (e :: es) t)
  (hst : starEach (e :: es) X.env = (false, eval e X.env) :: starEach es X.env := by rfl) (hpl : (backTo pos (starEach es X.env)).any (·.1) = false := by rfl)
  (ht : eval (.Call (.Attribute o m apos) (e :: es) [] pos) X.env = (do
   let ov <- eval o X.env
   standAt apos.atName
   let (f, first) <- holding [ov] (getMethod ov m pl)
   callWith pos f first (backTo pos (starEach (e :: es) X.env)) (backToKw pos (keywordEach [] X.env))) := by rfl) :
  PE X (.Call (.Attribute o m apos) (e :: es) [] pos) (tMeth C m sp [] E0 ta t) := by
 obtain ⟨f, fd, F, b, mm⟩ := c.ex
 exact pe_meth (pl := pl) he c.cl mm F hr b .nil pass0 ha hst hpl ht
theorem pe_methC0 {pl : Sem Bool} (c : MCallee X.prog X.w X.K X.mg X.base C m k ps sp) (he : PE X o ta) (hr : Room k X.A)
  (ht : eval (.Call (.Attribute o m apos) [] [] pos) X.env = (do
   let ov <- eval o X.env
   standAt apos.atName
   let (f, first) <- holding [ov] (getMethod ov m pl)
   callWith pos f first (backTo pos (starEach [] X.env)) (backToKw pos (keywordEach [] X.env))) := by rfl) :
  PE X (.Call (.Attribute o m apos) [] [] pos) (tMeth C m sp [] E0 ta tNil) := by
 obtain ⟨f, fd, F, b, mm⟩ := c.ex
 exact pe_meth0 (pl := pl) he c.cl mm F hr b .nil pass0 ht
theorem pe_makeC (c : ICallee X.prog X.w X.K X.mg X.base C x k ps sp) (hr : Room (k + 1) X.A) (ha : PA X (e :: es) t) (hg : Gl X x := by rfl)
  (hdb : (x == ("__debug__" : Str)) = false := by decide) (he : starEach (e :: es) X.env = (false, eval e X.env) :: starEach es X.env := by rfl) (hpl : (backTo pos (starEach es X.env)).any (·.1) = false := by rfl) :
  PE X (.Call (.Name x p) (e :: es) [] pos) (tMake C sp [] E0 t) := by
 obtain ⟨f, fd, F, b, M, m⟩ := c.ex
 exact pe_make M F hr hg m b .nil pass0 ha hdb he hpl
end
section
variable {G : Gx} {ρ : Rh} {nb : Addr -> Prop} {σ : St} {H H' : Hp} {i : Nat} {c c' : Cu} {E : DE}
theorem Wd.setCu (W : Wd G nb ρ σ H) (e : ρ[i]? = some (.cu c)) (hH : ∀ a o, a ∉ c.F -> H a = some o -> H' a = some o) (hv : c'.v = c.v) (hF : ∀ a ∈ c'.F, a ∈ c.F \/ H a = none \/ (nb a /\ NB G.B a /\ ∀ (j : Nat) s, ρ[j]? = some s -> a ∉ s.adr)) (hl : ∀ a, a ∈ c.F \/ a ∈ c'.F -> H' a ≠ none)
    (h : c'.P (G.S (fun x => nb x \/ x ∈ c'.F) c'.f) H') : Wd G (fun x => nb x \/ x ∈ c'.F) (ρ.set i (.cu c')) σ H' := by
  obtain ⟨x0, e1, h1, h2, h3⟩ := W.ok i _ e
  subst h1
  have hil : i < ρ.length := (zq7x.mp e).1
  obtain ⟨L, hL⟩ : ∃ L, L = c'.F.filter fun a => (H a).isNone := ⟨_, rfl⟩
  have ha : ∀ a ∈ L, H a = none := fun a m => by
    rw [hL, zq27x] at m
    exact zq213x.mp m.2
  have inL : ∀ a ∈ c'.F, nb a \/ a ∈ L := fun a m => by
    rcases hF a m with z | z | z
    · exact .inl (h2 a z).1
    · exact .inr (by rw [hL]; exact zq27x.mpr ⟨m, zq213x.mpr z⟩)
    · exact .inl z.1
  have hA : ∀ f x, G.S (fun x => nb x \/ x ∈ c'.F) f x -> (G.S nb f x \/ x ∈ L) := fun f x z => by
    rcases z with (z | z) | z | z | z
    · exact .inl (.inl z)
    · exact (inL x z).elim (fun z => .inl (.inl z)) .inr
    · exact .inl (.inr (.inl z))
    · exact .inl (.inr (.inr (.inl z)))
    · exact .inl (.inr (.inr (.inr z)))
  have bt : ∀ f, But (G.S (fun x => nb x \/ x ∈ c'.F) f) H H' := fun f a o n q => hH a o (fun z => n (.inl (.inl (h2 a z).1))) q
  have fD : ∀ {S : Addr -> Prop} {d : PyData} {v : V}, IsD S H d v -> IsD (fun a => S a \/ a ∈ L) H d v := fun {S d v} h => freshL (P := fun S => IsD S H d v) (fun z h => IsD.av z h) (fun hp h => IsD.fresh hp h) ha h
  have fDs : ∀ {S : Addr -> Prop} {d : List PyData} {v : List V}, IsDs S H d v -> IsDs (fun a => S a \/ a ∈ L) H d v := fun {S d v} h => freshL (P := fun S => IsDs S H d v) (fun z h => IsDs.av z h) (fun hp h => IsDs.fresh hp h) ha h
  have fKs : ∀ {S : Addr -> Prop} {d : List (PyData × PyData)} {v : List (Key × V)}, IsKs S H d v -> IsKs (fun a => S a \/ a ∈ L) H d v := fun {S d v} h => freshL (P := fun S => IsKs S H d v) (fun z h => IsKs.av z h) (fun hp h => IsKs.fresh hp h) ha h
  have fH : ∀ {S : Addr -> Prop} {d : HD} {v : V}, IsH S H d v -> IsH (fun a => S a \/ a ∈ L) H d v := fun {S d v} h => freshL (P := fun S => IsH S H d v) (fun z h => IsH.av h z) (fun hp h => IsH.fresh h hp) ha h
  have hNB : ∀ a ∈ c'.F, NB G.B a := fun a m => (hF a m).elim (fun z => (h2 a z).2) fun z => z.elim (fun z => NB.new W.bag z) fun z => z.2.1
  have hbag : BagOk G.B H' := fun b l eb => by
    obtain ⟨ns, i0, c0, st, n, g1, g2, g3⟩ := W.bag b l eb
    have hb : b ∉ c.F := fun z => (h2 b z).2 b l eb rfl
    have hll : l ∉ c.F := fun z => by
      obtain ⟨_, _, _, _, _, _, q2, _⟩ := W.gB b l eb
      rw [W.nbo l (h2 l z).1 (h2 l z).2] at q2; cases q2
    exact ⟨ns, i0, c0, st, n, hH _ _ hb g1, hH _ _ hll g2, g3⟩
  have other : ∀ (j : Nat) s, i ≠ j -> ρ[j]? = some s -> ∀ a ∈ s.adr, a ∉ c.F := fun j s hij hs a m z => W.apc i j c s hij e hs a z m
  refine ⟨hbag, fun a n => ?_, fun a o n q => ?_, fun a n q => ?_, W.gA, by rw [zq47x]; exact W.len, W.gB, fun h m => ((fH (W.hld h m)).av (hA h.1)).keep (bt h.1), fun j s e' => ?_, ?_, ?_, ?_⟩
  · rcases n with n | n
    · by_cases z : a ∈ c.F
      · exact hl a (.inl z)
      · cases q : H a with
        | none => exact absurd q (W.live a n)
        | some o => rw [hH a o z q]; exact zq48x _
    · exact hl a (.inr n)
  · refine hH a o (fun z => ?_) (W.old a o n q)
    rw [W.nbo a (h2 a z).1 n] at q; cases q
  · rcases n with n | n
    · exact W.nbo a n q
    · rcases hF a n with z | z | z
      · exact W.nbo a (h2 a z).1 q
      · cases w : G.H0 a with
        | none => rfl
        | some o => rw [W.old a o q w] at z; cases z
      · exact W.nbo a z.1 q
  · by_cases hij : i = j
    · subst hij
      rw [zq20x hil] at e'
      cases e'
      exact ⟨some c.v, e1, by rw [hv], fun a m => ⟨.inr m, hNB a m⟩, h⟩
    · rw [zq9x hij] at e'
      obtain ⟨x, e2, q⟩ := W.ok j s e'
      refine ⟨x, e2, ?_⟩
      have ap := other j s hij e'
      cases s with
      | no => trivial
      | d f d => obtain ⟨v, e, h⟩ := q; exact ⟨v, e, ((fD h).av (hA f)).keep (bt f)⟩
      | own a f es => obtain ⟨e, n, q, xs, hx, hd⟩ := q; exact ⟨e, .inl n, q, xs, hH _ _ (ap a (zq8x.mpr rfl)) hx, ((fDs hd).av (hA f)).keep (bt f)⟩
      | bag => exact q
      | raw v => exact q
      | dic a f es => obtain ⟨e, n, q, xs, hx, hd⟩ := q; exact ⟨e, .inl n, q, xs, hH _ _ (ap a (zq8x.mpr rfl)) hx, ((fKs hd).av (hA f)).keep (bt f)⟩
      | cu c2 =>
        obtain ⟨e, n, q⟩ := q
        refine ⟨e, fun a ha => ⟨.inl (n a ha).1, (n a ha).2⟩, c2.keep (.of fun x o hx e => hH x o ?_ e) (c2.av (hA c2.f) (freshL (P := fun S => c2.P S H) (fun z h => c2.av z h) (fun hp h => c2.fresh hp h) ha q))⟩
        rcases hx with hx | hx
        · exact fun z => hx (.inl (.inl (h2 x z).1))
        · exact ap x hx
  all_goals
    intro j k
  · intro a f as c2 g cs hjk q1 q2
    have hj : i ≠ j := fun z => by subst z; rw [zq20x hil] at q1; cases q1
    have hk : i ≠ k := fun z => by subst z; rw [zq20x hil] at q2; cases q2
    rw [zq9x hj] at q1
    rw [zq9x hk] at q2
    exact W.apart j k a f as c2 g cs hjk q1 q2
  · intro a f as c2 g cs hjk q1 q2
    have hj : i ≠ j := fun z => by subst z; rw [zq20x hil] at q1; cases q1
    have hk : i ≠ k := fun z => by subst z; rw [zq20x hil] at q2; cases q2
    rw [zq9x hj] at q1
    rw [zq9x hk] at q2
    exact W.apd j k a f as c2 g cs hjk q1 q2
  · intro c2 s hjk q1 q2 a m z
    have far : ∀ (j : Nat) s, i ≠ j -> ρ[j]? = some s -> ∀ a ∈ s.adr, a ∉ c'.F := fun j s hij hs a m z => by
      rcases hF a z with w | w | w
      · exact other j s hij hs a m w
      · obtain ⟨x, _, q⟩ := W.ok j s hs
        exact W.live a (q.adr_nb a m).1 w
      · exact w.2.2 j s hs m
    by_cases hj : i = j
    · subst hj
      rw [zq20x hil] at q1
      cases q1
      rw [zq9x hjk] at q2
      exact far k s hjk q2 a z m
    · rw [zq9x hj] at q1
      by_cases hk : i = k
      · subst hk
        rw [zq20x hil] at q2
        cases q2
        exact far j _ hj q1 a m z
      · rw [zq9x hk] at q2
        exact W.apc j k c2 s hjk q1 q2 a m z
end
def EvS (G : Gx) (ρ : Rh) (te : TE) (Φ : Rh -> Pd) : Prop := ∀ nb σ H (Q : VK), Wd G nb ρ σ H -> (∀ nb' ρ' f v H' d, Φ ρ' f d -> Wd G nb' ρ' σ H' -> IsD (G.S nb' f) H' d v -> Q v H') -> te σ H Q
def TvS (G : Gx) (ρ : Rh) (tt : TT) (Φ : Rh -> Bool -> Prop) : Prop := ∀ nb σ H (Q : Bool -> Hp -> Prop), Wd G nb ρ σ H -> (∀ nb' ρ' b H', Φ ρ' b -> Wd G nb' ρ' σ H' -> Q b H') -> tt σ H Q
def AvS (G : Gx) (ρ : Rh) (ta : TA) (Φ : Rh -> List Fd -> Prop) : Prop := ∀ nb σ H (Q : List V -> Hp -> Prop), Wd G nb ρ σ H -> (∀ nb' ρ' es vs H', Φ ρ' es -> Wd G nb' ρ' σ H' -> IsF G nb' H' es vs -> Q vs H') -> ta σ H Q
section
variable {G : Gx} {ρ : Rh} {Φ : Rh -> Pd} {ta tb te : TE} {t : TA} {c u : TT} {i : Nat} {E : DE} {s s' : TS}
theorem EvS.of (h : Ev G ρ te (Φ ρ)) : EvS G ρ te Φ := fun nb σ H Q W z => h nb σ H Q W fun f v H' d q st hv => z nb ρ f v H' d q (W.step st) hv
theorem AvS.cons {Θ : Rh -> List Fd -> Prop} (h : EvS G ρ te fun ρ' f d => Av G ρ' t fun es => Θ ρ' ((f, d) :: es)) : AvS G ρ (tCons te t) Θ := fun nb σ H Q W z =>
 h nb σ H _ W fun nb' ρ' f v H1 d p1 W1 q1 => p1 nb' σ H1 _ W1 fun es vs H2 p2 s2 q2 => z nb' ρ' _ _ H2 p2 (W1.step s2) ⟨v, vs, rfl, q1.keep s2.butS, q2⟩
theorem EvS.callD {n : Nat} {F : DF} (hm : MonoF F) (h : AvS G ρ t fun ρ' es => es.length = n /\ F (es.map (·.2)) fun f d => Φ ρ' (f || allF es) d) : EvS G ρ (tCall (spD n F) [] E0 t) Φ := fun nb σ H Q W z =>
 h nb σ H _ W fun nb' ρ' es vs H1 ⟨hl, p⟩ W1 q1 => by
  rw [zq46x]
  refine ⟨by rw [q1.len, hl], G.S nb' (allF es), es.map (·.2), W1.liveS, q1.all fun z => z, hm _ _ _ p fun f d hp v H' sm hd => z nb' ρ' _ v H' d hp (W1.step (.same W1.bag sm)) (hd.av fun a q => ?_)⟩
  cases f with
  | false => rw [zq88x] at q; exact .inl q
  | true => exact .inr ⟨rfl, W1.liveS a q⟩
theorem TvS.truB {K : PySem.W.Frag} {Θ : Rh -> Bool -> Prop} (h : EvS G ρ te fun ρ' _ x => ∃ b, x = .bool b /\ Θ ρ' b) : TvS G ρ (tTruth K te) Θ := fun nb σ H Q W z =>
 h nb σ H _ W fun nb' ρ' f v H1 d ⟨b, e, q⟩ W1 hv => by subst e; exact ⟨b, by unfold IsD at hv; subst hv; rfl, z nb' ρ' b H1 q W1⟩
theorem TvS.or {Θ : Rh -> Bool -> Prop} (h : TvS G ρ c fun ρ' b => if b = true then Θ ρ' true else TvS G ρ' u Θ) : TvS G ρ (tOr c u) Θ := fun nb σ H Q W z =>
 h nb σ H _ W fun nb' ρ' b H1 q W1 => by
  cases b with
  | false => rw [if_neg zq13x] at q ⊢; exact q nb' σ H1 _ W1 z
  | true => rw [if_pos rfl] at q ⊢; exact z nb' ρ' true H1 q W1
theorem TvS.not {Θ : Rh -> Bool -> Prop} (h : TvS G ρ c fun ρ' b => Θ ρ' (!b)) : TvS G ρ (tNot c) Θ := fun nb σ H Q W z => h nb σ H _ W fun nb' ρ' b H1 q W1 => z nb' ρ' _ H1 q W1
namespace Sv
theorem asgS {g : TG} (h : EvS G ρ te fun ρ' f d => Gv G ρ' g f d E.nx) : Sv G ρ (tAsg te g) E := fun nb σ H D W K => h nb σ H _ W fun nb' ρ' f v H1 d q W1 hv => q nb' σ H1 v _ W1 hv fun σ' ρ' p W' => K.nx nb' ρ' σ' H1 p W'
theorem dropS (h : EvS G ρ te fun ρ' _ _ => E.nx ρ') : Sv G ρ (tDrop te) E := fun nb σ H D W K => h nb σ H _ W fun nb' ρ' f v H1 d q W1 hv => K.nx nb' ρ' σ H1 q W1
theorem retS (h : EvS G ρ te fun _ => E.rt) : Sv G ρ (tRet te) E := fun nb σ H D W K => h nb σ H _ W fun nb' ρ' f v H1 d q W1 hv => K.rt nb' ρ' σ f v H1 d q W1 (hv.av (S_mono (fun z => z) fun _ z => z.elim))
theorem retM (h : EvS G ρ te fun ρ' f d => ∀ nb v H, IsD (G.S nb f) H d v -> E.rw nb ρ' v H) : Sv G ρ (tRet te) E := fun nb σ H D W K => h nb σ H _ W fun nb' ρ' f v H1 d q W1 hv => K.rw nb' ρ' σ v H1 (q nb' v H1 hv) W1
theorem ifSS (h : TvS G ρ c fun ρ' b => if b = true then Sv G ρ' s E else Sv G ρ' s' E) : Sv G ρ (tIfS c s s') E := fun nb σ H D W K => h nb σ H _ W fun nb' ρ' b H1 q W1 => by
 cases b with
 | true => rw [if_pos rfl] at q ⊢; exact q nb' σ H1 D W1 K
 | false => rw [if_neg zq13x] at q ⊢; exact q nb' σ H1 D W1 K
end Sv
end
structure CuTo (c c' : Cu) (H H' : Hp) : Prop where
 v : c'.v = c.v
 f : c'.f = false
 sub : ∀ a ∈ c.F, a ∈ c'.F
 new : ∀ a ∈ c'.F, a ∈ c.F \/ H a = none
 kp : ∀ a o, a ∉ c.F -> H a = some o -> H' a = some o
 lv : ∀ a ∈ c'.F, H' a ≠ none
abbrev CF := Cu -> List PyData -> (Cu -> Pd) -> Prop
def MonoC (F : CF) : Prop := ∀ c ds (Φ Ψ : Cu -> Pd), F c ds Φ -> (∀ c f d, Φ c f d -> Ψ c f d) -> F c ds Ψ
def spC (n : Nat) (F : CF) : Sp := fun vs H Q _ => vs.length = n /\ ∃ (nb : Addr -> Prop) (c : Cu) (ws : List V) (ds : List PyData), vs = c.v :: ws /\ Live nb H /\ (∀ a ∈ c.F, nb a) /\ c.f = false /\ c.P nb H /\ IsDs nb H ds ws /\
 F c ds fun c' f d => ∀ v H', CuTo c c' H H' -> c'.P (fun a => nb a \/ a ∈ c'.F) H' -> IsD (fun a => nb a \/ a ∈ c'.F \/ (f = true /\ H a ≠ none)) H' d v -> Q v H'
section
variable {G : Gx} {ρ : Rh} {Φ : Rh -> Pd} {ta tb te : TE} {t : TA} {i : Nat} {E : DE} {c : Cu} {C : Addr} {m : Str} {n : Nat} {F : CF}
theorem EvS.run_cu {nb : Addr -> Prop} {σ : St} {H1 : Hp} {Q : VK} {es : List Fd} {vs : List V} (hm : MonoC F) (e : ρ[i]? = some (.cu c)) (W1 : Wd G nb ρ σ H1) (q1 : IsF G nb H1 es vs) (hl : es.length + 1 = n) (hcf : c.f = false) (p : F c (es.map (·.2)) fun c' f d => Φ (ρ.set i (.cu c')) f d)
  (z : ∀ nb' ρ' f v H' d, Φ ρ' f d -> Wd G nb' ρ' σ H' -> IsD (G.S nb' f) H' d v -> Q v H') : spC n F (c.v :: (vs ++ [])) H1 Q E0 := by
 rw [zq46x]
 obtain ⟨x0, e1, h1, h2, h3⟩ := W1.ok i _ e
 refine ⟨by rw [zq39x, q1.len, hl], G.S nb false, c, vs, es.map (·.2), rfl, W1.liveS, fun a m => .inl (h2 a m).1, hcf, by rw [hcf] at h3; exact h3, q1.all (f := false) (fun z => by cases z), hm _ _ _ _ p fun c' f d hp v H' to hP hd => ?_⟩
 refine z _ _ f v H' d hp (W1.setCu (c' := c') e to.kp to.v (fun a m => (to.new a m).imp id .inl) (fun a m => m.elim (fun m => to.lv a (to.sub a m)) fun m => to.lv a m) (c'.av (fun a y => ?_) hP)) (hd.av fun a y => ?_)
 ·rw [to.f] at y
  rcases y with (y | y) | y | y | y
  ·exact .inl (.inl y)
  ·exact .inr y
  ·exact .inl (.inr (.inl y))
  ·exact .inl (.inr (.inr (.inl y)))
  ·cases y.1
 ·rcases y with (y | y) | y | y | y
  ·exact .inl (.inl y)
  ·exact .inr (.inl y)
  ·exact .inl (.inr (.inl y))
  ·exact .inl (.inr (.inr (.inl y)))
  ·exact .inr (.inr ⟨y.1, W1.liveS (f := true) a (.inr (.inr (.inr ⟨rfl, y.2⟩)))⟩)
theorem EvS.meth (hm : MonoC F) (e : ρ[i]? = some (.cu c)) (hcf : c.f = false) (hi : ∀ S H, c.P S H -> ∃ a dx fs, c.v = .ref a /\ H a = some (.ins C dx fs) /\ fs.lookup m = none)
  (h : Av G ρ t fun es => es.length + 1 = n /\ F c (es.map (·.2)) fun c' f d => Φ (ρ.set i (.cu c')) f d) : EvS G ρ (tMeth C m (spC n F) [] E0 (tVar i) t) Φ := fun nb σ H Q W z => by
 obtain ⟨x0, e1, h1, h2, h3⟩ := W.ok i _ e
 subst h1
 obtain ⟨a, dx, fs, g1, g2, g3⟩ := hi _ _ h3
 refine ⟨c.v, e1, a, dx, fs, g1, g2, g3, h nb σ H _ W fun es vs H1 ⟨hl, p⟩ s1 q1 => ?_⟩
 exact EvS.run_cu hm e (W.step s1) q1 hl hcf p z
end
def objG (F : List Addr) (H : Hp) (nb : Addr -> Prop) : Gx := ⟨none, fun a => if a ∈ F then none else H a, fun a => nb a /\ a ∉ F, []⟩
structure CuUp (c c' : Cu) : Prop where
 v : c'.v = c.v
 f : c'.f = false
 sub : ∀ a ∈ c.F, a ∈ c'.F
def objE (G : Gx) (c : Cu) (Φ : Cu -> Pd) : DE where
 nx := fun ρ => ∃ c', ρ[0]? = some (.cu c') /\ CuUp c c' /\ Φ c' true .none
 rt := fun _ _ => False
 rw := fun nb ρ v H => ∃ c' f d, ρ[0]? = some (.cu c') /\ CuUp c c' /\ Φ c' f d /\ IsD (G.S nb f) H d v
section
variable {ρ : Rh} {t : TS} {N : List Str} {ws : List V} {ds : List PyData} {nb : Addr -> Prop} {H : Hp} {Q : VK} {Φ : Cu -> Pd} {c : Cu}
theorem Sv.enterC (hl : Live nb H) (hF : ∀ a ∈ c.F, nb a) (hf : c.f = false) (hP : c.P nb H) (hd : IsDs nb H ds ws)
    (hΦ : ∀ c' f d v H', Φ c' f d -> CuTo c c' H H' -> c'.P (fun a => nb a \/ a ∈ c'.F) H' -> IsD (fun a => nb a \/ a ∈ c'.F \/ (f = true /\ H a ≠ none)) H' d v -> Q v H')
    (hρ : ρ = .cu c :: ds.map (Sl.d false) ++ List.replicate (N.length - (ds.length + 1)) .no) (h : Sv (objG c.F H nb) ρ t (objE (objG c.F H nb) c Φ)) : t { nx := fun _ H' => Q .non H', rt := Q } (start N (c.v :: ws)) H := by
  have hlen := hd.length
  have hNB : ∀ a, NB (objG c.F H nb).B a := fun a b l e => by cases e
  have key : ∀ {nb' ρ' σ' H' c'} {f : Bool} {d : PyData} {v : V}, Wd (objG c.F H nb) nb' ρ' σ' H' -> ρ'[0]? = some (.cu c') -> CuUp c c' -> Φ c' f d -> IsD ((objG c.F H nb).S nb' f) H' d v -> Q v H' := fun {nb' ρ' σ' H' c' f d v} W e up p hv => by
    obtain ⟨x0, e1, h1, h2, h3⟩ := W.ok 0 _ e
    have inS : ∀ (f : Bool) a, nb a \/ a ∈ c'.F \/ (f = true /\ H a ≠ none) -> (objG c.F H nb).S nb' f a := fun f a z => by
      by_cases m : a ∈ c'.F
      · exact .inl (h2 a m).1
      have m' : a ∉ c.F := fun z => m (up.sub a z)
      rcases z with z | z | z
      · exact .inr (.inl ⟨z, m'⟩)
      · exact absurd z m
      · exact .inr (.inr (.inr ⟨z.1, by show (if a ∈ c.F then none else H a) ≠ none; rw [if_neg m']; exact z.2⟩))
    refine hΦ c' f d v H' p ⟨up.v, up.f, up.sub, fun a m => ?_, fun a o n q => ?_, fun a m => W.live a (h2 a m).1⟩ (c'.av (fun a z => by rw [up.f]; exact inS false a (z.elim .inl fun z => .inr (.inl z))) h3) (hv.av (inS f))
    · have := W.nbo a (h2 a m).1 (h2 a m).2
      by_cases z : a ∈ c.F
      · exact .inl z
      · exact .inr (by have q : (if a ∈ c.F then none else H a) = none := this; rwa [if_neg z] at q)
    · exact W.old a o (hNB a) (by show (if a ∈ c.F then none else H a) = _; rw [if_neg n]; exact q)
  refine h (fun a => a ∈ c.F) _ H _ ⟨fun _ _ z => (by cases z), fun a z => hl a (hF a z), fun a o _ e => ?_, fun a z _ => by show (if a ∈ c.F then none else H a) = none; rw [if_pos z], fun a z => ?_, ?_, fun _ _ z => (by cases z), fun _ m => (by cases m), fun i s e => ?_, ?_, ?_, ?_⟩ ⟨fun nb' ρ' σ' H' ⟨c', e, up, p⟩ W => key W e up p .non, fun _ _ _ _ q _ => q.elim, fun _ _ _ _ q _ => q.elim, fun _ _ _ _ _ _ _ q _ _ => q.elim, fun nb' ρ' σ' v H' ⟨c', f, d, e, up, p, hv⟩ W => key W e up p hv⟩
  · have e : (if a ∈ c.F then none else H a) = some o := e
    by_cases z : a ∈ c.F
    · rw [if_pos z] at e; cases e
    · rwa [if_neg z] at e
  · show (if a ∈ c.F then none else H a) ≠ none
    rw [if_neg z.2]; exact hl a z.1
  · rw [hρ]; unfold start; simp [hlen]
  · rw [hρ] at e
    unfold start
    have av : ∀ a, (objG c.F H nb).S (fun a => a ∈ c.F) false a -> nb a := fun a z => by
      rcases z with z | z | z | z
      · exact hF a z
      · exact z.1
      · exact absurd (hNB a) z
      · cases z.1
    cases i with
    | zero => simp at e; subst e; exact ⟨some c.v, by simp, rfl, fun a m => ⟨m, hNB a⟩, by rw [hf]; exact c.av av hP⟩
    | succ i =>
      simp only [zq71x, zq65x, zq4x, zq39x] at e ⊢
      by_cases hi : i < ds.length
      · rw [zq34x (by rw [zq0x]; exact hi)] at e
        obtain ⟨v, d, hv, rfl, q⟩ := isDs_at hd e
        refine ⟨some v, ?_, v, rfl, q.av av⟩
        rw [zq34x (by rw [zq0x, hlen]; exact hi), zq6x, hv]; rfl
      · rw [zq38x (by rw [zq0x]; omega), zq35x] at e
        split at e
        · rename_i h'
          cases e
          refine ⟨none, ?_, trivial⟩
          rw [zq0x] at h'
          rw [zq38x (by rw [zq0x]; omega), zq35x, if_pos (by rw [zq0x, hlen]; exact h')]
        · cases e
  all_goals
    have sl : ∀ {i : Nat} {s : Sl}, ρ[i + 1]? = some s -> s.adr = [] := fun {i s} e1 => by
      rw [hρ] at e1
      simp only [zq71x, zq65x] at e1
      by_cases hi : i < ds.length
      · rw [zq34x (by rw [zq0x]; exact hi)] at e1
        obtain ⟨_, _, _, z, _⟩ := isDs_at hd e1
        subst z; rfl
      · rw [zq38x (by rw [zq0x]; omega), zq35x] at e1
        split at e1
        · cases e1; rfl
        · cases e1
    have s0 : ∀ {s : Sl}, ρ[0]? = some s -> s = .cu c := fun {s} e1 => by rw [hρ] at e1; simp at e1; exact e1.symm
  · intro i j a f as c2 g cs hij e1
    cases i with
    | zero => cases s0 e1
    | succ i => cases sl e1
  · intro i j a f as c2 g cs hij e1
    cases i with
    | zero => cases s0 e1
    | succ i => cases sl e1
  · intro i j c2 s hij e1 e2 a m
    cases i with
    | zero =>
      cases j with
      | zero => exact absurd rfl hij
      | succ j => rw [sl e2]; exact fun z => by cases z
    | succ i =>
      have := sl e1
      rw [show Sl.adr (.cu c2) = c2.F from rfl] at this
      rw [this] at m; cases m
end
end L2
set_option maxRecDepth 100000
set_option maxHeartbeats 4000000
namespace L2
open PySem PySem.Spec PyProof.Rows
theorem Kp.sub {S : Addr -> Prop} {F F' : List Addr} {H H' : Hp} (k : Kp S F H H') (h : ∀ a ∈ F', a ∈ F) : Kp S F' H H' := ⟨fun a m => k.own a (h a m), k.lst, k.tup, k.dic⟩
def ownCu (a : Addr) (ds : List PyData) : Cu where
 v := .ref a
 F := [a]
 f := false
 P := fun S H => ∃ xs, H a = some (.lst xs) /\ IsDs S H ds xs
 keep := fun k ⟨xs, h, q⟩ => ⟨xs, k.own _ (zq8x.mpr rfl) _ h, IsDs.kp k q⟩
 av := fun z ⟨xs, h, q⟩ => ⟨xs, h, q.av z⟩
 fresh := fun z ⟨xs, h, q⟩ => ⟨xs, h, q.fresh z⟩
inductive Fl where
 | d (d : PyData) | cu (c : Cu)
def Fl.adr : Fl -> List Addr
 | .d _ => []
 | .cu c => c.F
def FlOk (S : Addr -> Prop) (H : Hp) (v : V) : Fl -> Prop
 | .d d => IsD S H d v
 | .cu c => v = c.v /\ c.P S H
abbrev Fs := List (Str × Fl)
def FlsOk (S : Addr -> Prop) (H : Hp) : Fs -> List (Str × V) -> Prop
 | [], vs => vs = []
 | f :: fs, vs => ∃ v ws, vs = (f.1, v) :: ws /\ FlOk S H v f.2 /\ FlsOk S H fs ws
def insF (x dx : Addr) (fs : Fs) : List Addr := x :: dx :: fs.flatMap fun f => f.2.adr
theorem FlOk.map {S S' : Addr -> Prop} {H H' : Hp} {v : V} {fl : Fl} (h : FlOk S H v fl) (hd : ∀ d v, IsD S H d v -> IsD S' H' d v) (hc : ∀ c, fl = .cu c -> c.P S H -> c.P S' H') : FlOk S' H' v fl := by
 cases fl with
 | d d => exact hd _ _ h
 | cu c => exact ⟨h.1, hc c rfl h.2⟩
theorem FlsOk.map {S S' : Addr -> Prop} {H H' : Hp} : ∀ {fs : Fs} {vs : List (Str × V)}, FlsOk S H fs vs -> (∀ d v, IsD S H d v -> IsD S' H' d v) -> (∀ f ∈ fs, ∀ c, f.2 = .cu c -> c.P S H -> c.P S' H') -> FlsOk S' H' fs vs
 | [], _, h, _, _ => h
 | f :: fs, _, ⟨v, ws, e, h1, h2⟩, hd, hc => ⟨v, ws, e, h1.map hd (hc f (zq19x ..)), FlsOk.map h2 hd fun g m => hc g (zq23x _ m)⟩
theorem insF_mem {x dx : Addr} {fs : Fs} {f : Str × Fl} (h : f ∈ fs) {a : Addr} (m : a ∈ f.2.adr) : a ∈ insF x dx fs := zq23x _ (zq23x _ (zq140x.mpr ⟨f, h, m⟩))
def insCu (C x dx : Addr) (fs : Fs) : Cu where
 v := .ref x
 F := insF x dx fs
 f := false
 P := fun S H => (insF x dx fs).Nodup /\ H dx = some (.own x) /\ fs.length <= 900 /\ ∃ vs, H x = some (.ins C dx vs) /\ FlsOk S H fs vs
 keep := fun k ⟨n, h, l, vs, q, r⟩ => ⟨n, k.own _ (by simp [insF]) _ h, l, vs, k.own _ (by simp [insF]) _ q, r.map (fun d v z => IsD.kp k z) fun f m c e z => c.keep (k.sub fun a y => insF_mem m (by rw [e]; exact y)) z⟩
 av := fun z ⟨n, h, l, vs, q, r⟩ => ⟨n, h, l, vs, q, r.map (fun d v y => y.av z) fun f m c e y => c.av z y⟩
 fresh := fun z ⟨n, h, l, vs, q, r⟩ => ⟨n, h, l, vs, q, r.map (fun d v y => y.fresh z) fun f m c e y => c.fresh z y⟩
theorem FlsOk.get {S : Addr -> Prop} {H : Hp} {f : Str} {fl : Fl} : ∀ {fs : Fs} {vs : List (Str × V)}, FlsOk S H fs vs -> fs.lookup f = some fl -> ∃ v, vs.lookup f = some v /\ FlOk S H v fl
  | [], _, h, e => by simp at e
  | (g, x) :: fs, _, ⟨v, ws, e, h1, h2⟩, q => by
    subst e
    rw [zq10x] at q ⊢
    cases hb : (f == g) with
    | true => rw [hb] at q; cases q; exact ⟨v, rfl, h1⟩
    | false => rw [hb] at q; exact FlsOk.get h2 q
theorem FlsOk.no {S : Addr -> Prop} {H : Hp} {f : Str} : ∀ {fs : Fs} {vs : List (Str × V)}, FlsOk S H fs vs -> fs.lookup f = none -> vs.lookup f = none
  | [], _, h, e => by unfold FlsOk at h; subst h; rfl
  | (g, x) :: fs, _, ⟨v, ws, e, h1, h2⟩, q => by
    subst e
    rw [zq10x] at q ⊢
    cases hb : (f == g) with
    | true => rw [hb] at q; cases q
    | false => rw [hb] at q; exact FlsOk.no h2 q
def putFl (f : Str) (v : Fl) : Fs -> Fs
 | [] => [(f, v)]
 | (g, x) :: r => if g = f then (g, v) :: r else (g, x) :: putFl f v r
theorem FlsOk.put {S : Addr -> Prop} {H : Hp} {f : Str} {fl : Fl} {v : V} (hv : FlOk S H v fl) : ∀ {fs : Fs} {vs : List (Str × V)}, FlsOk S H fs vs -> FlsOk S H (putFl f fl fs) (putF f v vs)
  | [], _, h => by unfold FlsOk at h; subst h; exact ⟨v, [], rfl, hv, rfl⟩
  | (g, x) :: fs, _, ⟨w, ws, e, h1, h2⟩ => by
    subst e
    unfold putFl putF
    by_cases h : g = f
    · rw [if_pos h, if_pos h]; exact ⟨v, ws, rfl, hv, h2⟩
    · rw [if_neg h, if_neg h]; exact ⟨w, _, rfl, h1, FlsOk.put hv h2⟩
theorem FlsOk.len {S : Addr -> Prop} {H : Hp} : ∀ {fs : Fs} {vs : List (Str × V)}, FlsOk S H fs vs -> vs.length = fs.length
 | [], _, h => by unfold FlsOk at h; subst h; rfl
 | f :: fs, _, ⟨v, ws, e, h1, h2⟩ => by subst e; simp [FlsOk.len h2]
theorem insCu.is {C x dx : Addr} {fs : Fs} {m : Str} (hm : fs.lookup m = none) : ∀ S H, (insCu C x dx fs).P S H -> ∃ a dx' vs, (insCu C x dx fs).v = .ref a /\ H a = some (.ins C dx' vs) /\ vs.lookup m = none := fun S H ⟨n, h, l, vs, q, r⟩ => ⟨x, dx, vs, rfl, q, r.no hm⟩
section
variable {G : Gx} {ρ : Rh} {Φ : Pd} {ta tb te : TE} {t : TA} {i : Nat} {E : DE} {C x dx l : Addr} {fs : Fs} {K : PySem.W.Frag} {f m : Str} {d : PyData} {ds : List PyData}
theorem Wd.insAt {nb : Addr -> Prop} {σ : St} {H : Hp} (W : Wd G nb ρ σ H) (e : ρ[i]? = some (.cu (insCu C x dx fs))) : ∃ vs, σ[i]? = some (some (.ref x)) /\ (∀ a ∈ insF x dx fs, nb a /\ NB G.B a) /\ (insF x dx fs).Nodup /\ H dx = some (.own x) /\ fs.length <= 900 /\ H x = some (.ins C dx vs) /\ FlsOk (G.S nb false) H fs vs := by
 obtain ⟨x0, e1, h1, h2, n, h, l, vs, q, r⟩ := W.ok i _ e
 subst h1
 exact ⟨vs, e1, h2, n, h, l, q, r⟩
theorem Ev.fld (e : ρ[i]? = some (.cu (insCu C x dx fs))) (cl : Cls K C) (na : NoAttr K C f) (hl : fs.lookup f = some (.d d)) (h : Φ false d) : Ev G ρ (tFld K (tVar i) f) Φ := fun nb σ H Q W z => by
 obtain ⟨vs, e1, h2, n, h3, l, q, r⟩ := W.insAt e
 obtain ⟨v, g1, g2⟩ := r.get hl
 exact ⟨.ref x, e1, x, C, dx, vs, v, rfl, q, cl, na, g1, z false v H d h (.refl W.bag) g2⟩
theorem lookup_mem {fl : Fl} : ∀ {fs : Fs}, fs.lookup f = some fl -> (f, fl) ∈ fs
  | [], h => by simp at h
  | (g, y) :: r, h => by
    rw [zq10x] at h
    cases hb : (f == g) with
    | true => rw [hb] at h; cases h; rw [beq_iff_eq.mp hb]; exact zq19x ..
    | false => rw [hb] at h; exact zq23x _ (lookup_mem h)
theorem fld_mem {fl : Fl} (hl : fs.lookup f = some fl) {a : Addr} (m : a ∈ fl.adr) : a ∈ insF x dx fs := insF_mem (lookup_mem hl) m
theorem fld_cu {nb : Addr -> Prop} {σ : St} {H : Hp} {Q : VK} {c : Cu} (W : Wd G nb ρ σ H) (e : ρ[i]? = some (.cu (insCu C x dx fs))) (cl : Cls K C) (na : NoAttr K C f) (hl : fs.lookup f = some (.cu c))
  (z : (∀ a ∈ c.F, nb a /\ NB G.B a) -> c.P (G.S nb false) H -> Q c.v H) : tFld K (tVar i) f σ H Q := by
 obtain ⟨vs, e1, h2, n, h3, len, q, r⟩ := W.insAt e
 obtain ⟨v, g1, g2, g3⟩ := r.get hl
 exact ⟨.ref x, e1, x, C, dx, vs, v, rfl, q, cl, na, g1, by rw [g2]; exact z (fun a m => h2 a (fld_mem hl m)) g3⟩
theorem putFl_adr {fl fl' : Fl} (h' : fl'.adr = fl.adr) : ∀ {fs : Fs}, fs.lookup f = some fl -> ((putFl f fl' fs).flatMap fun g => g.2.adr) = fs.flatMap fun g => g.2.adr
  | [], h => by simp at h
  | (g, y) :: r, h => by
    unfold putFl
    rw [zq10x] at h
    cases hb : (f == g) with
    | true =>
      rw [hb] at h; cases h
      rw [if_pos (beq_iff_eq.mp hb).symm, zq107x, zq107x, h']
    | false =>
      rw [hb] at h
      rw [if_neg (fun z => by rw [z, beq_self_eq_true] at hb; cases hb), zq107x, zq107x, putFl_adr h' h]
theorem putFl_len {fl fl' : Fl} : ∀ {fs : Fs}, fs.lookup f = some fl -> (putFl f fl' fs).length = fs.length
  | [], h => by simp at h
  | (g, y) :: r, h => by
    unfold putFl
    rw [zq10x] at h
    cases hb : (f == g) with
    | true => rw [if_pos (beq_iff_eq.mp hb).symm]; rfl
    | false =>
      rw [hb] at h
      rw [if_neg (fun z => by rw [z, beq_self_eq_true] at hb; cases hb), zq39x, zq39x, putFl_len h]
theorem FlOk.wr {S : Addr -> Prop} {H : Hp} {v : V} {fl : Fl} {p : Addr} {o : HO} (hS : S p) (hp : p ∉ fl.adr) (h : FlOk S H v fl) : FlOk S (upd H p o) v fl :=
 h.map (fun d v z => z.keep (But.set hS)) fun c e z => c.keep (.of fun a o' m q => by
  rw [upd_ne]
  ·exact q
  ·rintro rfl
   rcases m with m | m
   ·exact m hS
   ·rw [e] at hp; exact hp m) z
theorem FlsOk.wrs {S : Addr -> Prop} {H : Hp} {p : Addr} {o : HO} (hS : S p) : ∀ {fs : Fs} {vs : List (Str × V)}, (p ∉ fs.flatMap fun g => g.2.adr) -> FlsOk S H fs vs -> FlsOk S (upd H p o) fs vs
  | [], _, _, h => h
  | g :: fs, _, hp, ⟨v, ws, e, h1, h2⟩ => by
    rw [zq107x, zq45x] at hp
    exact ⟨v, ws, e, h1.wr hS fun z => hp (.inl z), FlsOk.wrs hS (fun z => hp (.inr z)) h2⟩
theorem FlsOk.wr {S : Addr -> Prop} {H : Hp} {p : Addr} {o : HO} {c c' : Cu} (hS : S p) (hp : p ∈ c.F) (hv : c'.v = c.v) (hc : c'.P S (upd H p o)) : ∀ {fs : Fs} {vs : List (Str × V)}, (fs.flatMap fun g => g.2.adr).Nodup -> fs.lookup f = some (.cu c) -> FlsOk S H fs vs -> FlsOk S (upd H p o) (putFl f (.cu c') fs) vs
  | [], _, _, h, _ => by simp at h
  | (g, y) :: r, _, hn, h, ⟨v, ws, e, h1, h2⟩ => by
    unfold putFl
    rw [zq107x, zq120x] at hn
    rw [zq10x] at h
    cases hb : (f == g) with
    | true =>
      rw [hb] at h; cases h
      rw [if_pos (beq_iff_eq.mp hb).symm]
      exact ⟨v, ws, e, ⟨by rw [hv]; exact h1.1, hc⟩, FlsOk.wrs hS (fun z => hn.2.2 p hp p z rfl) h2⟩
    | false =>
      rw [hb] at h
      rw [if_neg (fun z => by rw [z, beq_self_eq_true] at hb; cases hb)]
      exact ⟨v, ws, e, h1.wr hS fun z => hn.2.2 p z p (zq140x.mpr ⟨_, lookup_mem h, hp⟩) rfl, FlsOk.wr hS hp hv hc hn.2.1 h h2⟩
theorem Wd.wrFld {nb : Addr -> Prop} {σ : St} {H : Hp} {c c' : Cu} {p : Addr} {o : HO} (W : Wd G nb ρ σ H) (e : ρ[i]? = some (.cu (insCu C x dx fs))) (hl : fs.lookup f = some (.cu c)) (hp : p ∈ c.F) (hv : c'.v = c.v) (hF : c'.F = c.F) (h : c'.P (G.S nb false) (upd H p o)) :
  Wd G nb (ρ.set i (.cu (insCu C x dx (putFl f (.cu c') fs)))) σ (upd H p o) := by
 obtain ⟨vs, e1, h2, n, h3, len, q, r⟩ := W.insAt e
 have hpm : p ∈ insF x dx fs := fld_mem hl hp
 have hS : G.S nb false p := .inl (h2 p hpm).1
 have hn := n
 unfold insF at hn
 obtain ⟨n1, n2⟩ := zq59x.mp hn
 obtain ⟨n3, n4⟩ := zq59x.mp n2
 have hin : p ∈ fs.flatMap fun g => g.2.adr := zq140x.mpr ⟨_, lookup_mem hl, hp⟩
 have hpx : x ≠ p := fun z => n1 (by rw [z]; exact zq23x _ hin)
 have hpd : dx ≠ p := fun z => n3 (by rw [z]; exact hin)
 have eF : insF x dx (putFl f (.cu c') fs) = insF x dx fs := by unfold insF; rw [putFl_adr (fl := .cu c) (fl' := .cu c') hF hl]
 refine W.writeCu (c' := insCu C x dx (putFl f (.cu c') fs)) e hpm rfl (fun a m => by rw [show (insCu C x dx (putFl f (.cu c') fs)).F = insF x dx fs from eF] at m; exact m) ?_
 exact ⟨by rw [eF]; exact n, by rw [upd_ne hpd]; exact h3, by rw [putFl_len hl]; exact len, vs, by rw [upd_ne hpx]; exact q, FlsOk.wr hS hp hv h n4 hl r⟩
theorem FlsOk.put' {S : Addr -> Prop} {H : Hp} {fl : Fl} {v : V} {p : Addr} {o : HO} (hS : S p) (hv : FlOk S (upd H p o) v fl) {fs : Fs} {vs : List (Str × V)} (hp : p ∉ fs.flatMap fun g => g.2.adr) (h : FlsOk S H fs vs) : FlsOk S (upd H p o) (putFl f fl fs) (putF f v vs) := FlsOk.put hv (FlsOk.wrs hS hp h)
theorem putFl_new {fl : Fl} : ∀ {fs : Fs}, fs.lookup f = none -> putFl f fl fs = fs ++ [(f, fl)]
  | [], _ => rfl
  | (g, y) :: r, h => by
    unfold putFl
    rw [zq10x] at h
    cases hb : (f == g) with
    | true => rw [hb] at h; cases h
    | false =>
      rw [hb] at h
      rw [if_neg (fun z => by rw [z, beq_self_eq_true] at hb; cases hb), putFl_new h]; rfl
theorem Sv.fldD (e : ρ[i]? = some (.cu (insCu C x dx fs))) (cl : Cls K C) (na : NoAttr K C f) (hl : fs.lookup f = none \/ ∃ d0, fs.lookup f = some (.d d0)) (hlen : fs.length < 900) (h : Ev G ρ te fun _ d => E.nx (ρ.set i (.cu (insCu C x dx (putFl f (.d d) fs))))) : Sv G ρ (sFld K (tVar i) te f) E := fun nb σ H D W KK =>
 h nb σ H _ W fun fg v H1 d q s1 hv => by
  have W1 := W.step s1
  obtain ⟨vs, e1, h2, n, h3, len, qx, r⟩ := W1.insAt e
  have hxS : G.S nb false x := .inl (h2 x (by simp [insF])).1
  have hn := n
  unfold insF at hn
  obtain ⟨n1, n2⟩ := zq59x.mp hn
  have hdx : dx ≠ x := fun z => n1 (by rw [z]; exact zq19x ..)
  have hx : x ∉ fs.flatMap fun g => g.2.adr := fun z => n1 (zq23x _ z)
  have eF : insF x dx (putFl f (.d d) fs) = insF x dx fs := by
   unfold insF
   rcases hl with hl | ⟨d0, hl⟩
   ·rw [putFl_new hl, zq214x]
    show _ :: _ :: (_ ++ ([] ++ [])) = _
    rw [zq46x, zq46x]
   ·rw [putFl_adr (fl := .d d0) (fl' := .d d) rfl hl]
  have eL : (putFl f (.d d) fs).length <= 900 := by
   rcases hl with hl | ⟨d0, hl⟩
   ·rw [putFl_new hl, zq30x, zq60x]; omega
   ·rw [putFl_len hl]; exact len
  refine ⟨.ref x, e1, x, C, dx, vs, rfl, qx, cl, na, by rw [r.len]; omega, KK.nx nb _ _ _ q ?_⟩
  refine W1.writeCu (c' := insCu C x dx (putFl f (.d d) fs)) e (by show x ∈ insF x dx fs; simp [insF]) rfl (fun a m => by rw [show (insCu C x dx (putFl f (.d d) fs)).F = insF x dx fs from eF] at m; exact m) ?_
  refine ⟨by rw [eF]; exact n, by rw [upd_ne hdx]; exact h3, eL, _, upd_same, FlsOk.put' hxS ?_ hx r⟩
  exact (hv.av (S_mono (fun z => by cases z) fun _ z => z)).keep (But.set hxS)
theorem Wd.fldNew {nb : Addr -> Prop} {σ : St} {H H1 : Hp} {c : Cu} {vs : List (Str × V)} {l : Addr} (W : Wd G nb ρ σ H) (s1 : Step G.B H H1) (e : ρ[i]? = some (.cu (insCu C x dx fs))) (hl : fs.lookup f = none) (hlen : fs.length < 900) (hcF : c.F = [l]) (hcv : c.v = .ref l) (hln : H l = none) (hl1 : H1 l ≠ none)
  (hP : c.P (fun a => G.S nb false a \/ a = l) H1) (qx : H1 x = some (.ins C dx vs)) : Wd G (fun a => (nb a \/ a ∈ [l]) \/ a ∈ insF x dx (fs ++ [(f, .cu c)])) (ρ.set i (.cu (insCu C x dx (fs ++ [(f, .cu c)])))) σ (upd H1 x (.ins C dx (putF f c.v vs))) := by
 have hL1 : ∀ a ∈ [l], H a = none := fun a m => by rw [zq8x.mp m]; exact hln
 obtain ⟨vs0, e0, h20, _⟩ := W.insAt e
 have hlF : l ∉ insF x dx fs := fun z => W.live l (h20 l z).1 hln
 obtain ⟨W1, hN1, hA1⟩ := W.growL s1 hL1 (fun a m => by rw [zq8x.mp m]; exact hl1)
 obtain ⟨vs', e1, h2, n, h3, len, qx', r⟩ := W1.insAt e
 rw [qx] at qx'
 cases qx'
 have hn := n
 unfold insF at hn
 obtain ⟨n1, n2⟩ := zq59x.mp hn
 have hdx : dx ≠ x := fun z => n1 (by rw [z]; exact zq19x ..)
 have hx : x ∉ fs.flatMap fun g => g.2.adr := fun z => n1 (zq23x _ z)
 have hlx : l ≠ x := fun z => hlF (by rw [z]; simp [insF])
 have hxF : x ∈ insF x dx fs := by simp [insF]
 have eF : insF x dx (fs ++ [(f, .cu c)]) = insF x dx fs ++ [l] := by
  unfold insF
  rw [zq214x]
  show _ :: _ :: (_ ++ (c.F ++ [])) = _
  rw [hcF]
  rfl
 have hS : ∀ {a}, G.S (fun y => (nb y \/ y ∈ [l]) \/ y ∈ insF x dx (fs ++ [(f, .cu c)])) false a -> G.S (fun y => nb y \/ y ∈ [l]) false a := fun {a} z => by
  rcases z with (z | z) | z | z | z
  ·exact .inl z
  ·rw [eF, zq45x] at z
   rcases z with z | z
   ·exact .inl (h2 a z).1
   ·exact .inl (.inr z)
  ·exact .inr (.inl z)
  ·exact .inr (.inr (.inl z))
  ·exact .inr (.inr (.inr z))
 refine W1.setCu (c := insCu C x dx fs) (c' := insCu C x dx (fs ++ [(f, .cu c)])) e (fun a o na q => ?_) rfl (fun a m => ?_) (fun a m => ?_) ?_
 ·rw [upd_ne (fun z => na (by rw [z]; exact hxF))]; exact q
 ·rw [show (insCu C x dx (fs ++ [(f, .cu c)])).F = insF x dx fs ++ [l] from eF, zq45x] at m
  rcases m with m | m
  ·exact .inl m
  ·rw [zq8x.mp m]
   refine .inr (.inr ⟨.inr (zq8x.mpr rfl), hN1 l (zq8x.mpr rfl), fun j s hs z => ?_⟩)
   obtain ⟨y, _, q⟩ := W.ok j s hs
   exact W.live l (q.adr_nb l z).1 hln
 ·by_cases z : a = x
  ·rw [z, upd_same]; exact zq48x _
  ·rw [upd_ne z]
   rcases m with m | m
   ·exact W1.live a (h2 a m).1
   ·rw [show (insCu C x dx (fs ++ [(f, .cu c)])).F = insF x dx fs ++ [l] from eF, zq45x] at m
    rcases m with m | m
    ·exact W1.live a (h2 a m).1
    ·rw [zq8x.mp m]; exact hl1
 ·refine ⟨?_, by rw [upd_ne hdx]; exact h3, by rw [zq30x, zq60x]; omega, _, upd_same, ?_⟩
  ·rw [eF, zq120x]
   exact ⟨n, by simp, fun a m b m' z => hlF (by rw [zq8x.mp m'] at z; rw [<- z]; exact m)⟩
  ·have hxS : G.S (fun y => nb y \/ y ∈ [l]) false x := .inl (h2 x hxF).1
   have := FlsOk.put' (f := f) (fl := .cu c) (v := c.v) (o := .ins C dx (putF f c.v vs)) hxS ⟨rfl, c.keep (S := G.S (fun y => nb y \/ y ∈ [l]) false) (.of fun a o m q => ?_) (c.av (fun a z => ?_) hP)⟩ hx r
   ·rw [putFl_new hl] at this
    exact this.map (fun d v z => z.av fun a => hS) fun g m c' e z => c'.av (fun a => hS) z
   ·rw [upd_ne]
    ·exact q
    ·rintro rfl
     rcases m with m | m
     ·exact m hxS
     ·rw [hcF] at m; exact hlx (zq8x.mp m).symm
   ·rcases hA1 false a z with z | z
    ·exact .inl z
    ·exact .inr (zq8x.mp z)
theorem Sv.fldN (e : ρ[i]? = some (.cu (insCu C x dx fs))) (cl : Cls K C) (na : NoAttr K C f) (hl : fs.lookup f = none) (hlen : fs.length < 900) (h : EvN G ρ te fun _ ds => ∀ l, E.nx (ρ.set i (.cu (insCu C x dx (fs ++ [(f, .cu (ownCu l ds))]))))) : Sv G ρ (sFld K (tVar i) te f) E := fun nb σ H D W KK =>
 h nb σ H _ W fun fg l xs H1 ds q s1 hln el hd => by
  obtain ⟨vs, e1, h2, n, h3, len, qx, r⟩ := (W.step s1).insAt e
  refine ⟨.ref x, e1, x, C, dx, vs, rfl, qx, cl, na, by rw [r.len]; omega, KK.nx _ _ _ _ (q l) (W.fldNew (c := ownCu l ds) s1 e hl hlen rfl rfl hln (by rw [el]; exact zq48x _) ⟨xs, el, hd.av fun a z => ?_⟩ qx)⟩
  rcases z with z | z
  ·exact .inl (S_mono (fun w => by cases w) (fun _ w => w) a z)
  ·exact .inr z
theorem Sv.fldAt {l : Addr} (e : ρ[i]? = some (.cu (insCu C x dx fs))) (cl : Cls K C) (na : NoAttr K C f) (hl : fs.lookup f = some (.cu (ownCu l ds))) (h : Ev G ρ te fun _ d => Ev G ρ tb fun _ y => ∃ k j, y = .int k /\ ixN ds.length k = some j /\ E.nx (ρ.set i (.cu (insCu C x dx (putFl f (.cu (ownCu l (ds.set j d))) fs))))) : Sv G ρ (tAsg te (gSub (tFld K (tVar i) f) tb rSetL)) E := fun nb σ H D W KK =>
 h nb σ H _ W fun g v H1 d q s1 hv => fld_cu (W.step s1) e cl na hl fun hF ⟨xs, hx, hd⟩ => q nb σ H1 _ (W.step s1) fun g' u H2 y ⟨k, j, ey, hj, p⟩ s2 hu => by
  subst ey
  have W2 := (W.step s1).step s2
  have hlF := hF l (zq8x.mpr rfl)
  have hS : G.S nb false l := .inl hlF.1
  refine ⟨l, xs, k, j, rfl, hu.ofI, s2.1 _ _ hlF.2 hx, by rw [hd.length]; exact hj, KK.nx nb _ _ _ p (W2.wrFld (c := ownCu l ds) (c' := ownCu l (ds.set j d)) e hl (zq8x.mpr rfl) rfl rfl ⟨_, upd_same, ?_⟩)⟩
  exact (IsDs.set' ((hv.av (S_mono (fun z => by cases z) fun _ z => z)).keep s2.butS) j (hd.keep s2.butS)).keep (But.set hS)
theorem EvN.listFld {l : Addr} {Θ : Bool -> List PyData -> Prop} (e : ρ[i]? = some (.cu (insCu C x dx fs))) (cl : Cls K C) (na : NoAttr K C f) (hl : fs.lookup f = some (.cu (ownCu l ds))) (h : Θ (scAll ds) ds) : EvN G ρ (tCB (rListOf K) (tCons (tFld K (tVar i) f) tNil)) Θ := fun nb σ H Q W z => by
 show tFld K (tVar i) f σ H _
 exact fld_cu W e cl na hl fun hF ⟨xs, hx, hd⟩ => ⟨l, xs, rfl, .inl (.of hx), fun p hp => EvN.fin (f := false) W (.refl W.bag) hp hd (by rw [zq88x]; exact h) z⟩
def AvL (G : Gx) (ρ : Rh) (ta : TA) (Φ : List PyData -> Prop) : Prop := ∀ nb σ H (Q : List V -> Hp -> Prop), Wd G nb ρ σ H -> (∀ ds vs H', Φ ds -> Step G.B H H' -> IsDs (fun a => ¬ NB G.B a) H' ds vs -> Q vs H') -> ta σ H Q
theorem AvL.nil {Θ : List PyData -> Prop} (h : Θ []) : AvL G ρ tNil Θ := fun nb σ H Q W z => z [] [] H h (.refl W.bag) .nil
theorem AvL.cons {Θ : List PyData -> Prop} (h : Ev G ρ te fun _ d => AvL G ρ t fun ds => Θ (d :: ds)) : AvL G ρ (tCons te t) Θ := fun nb σ H Q W z =>
 h nb σ H _ W fun f v H1 d p1 s1 q1 => p1 nb σ H1 _ (W.step s1) fun ds vs H2 p2 s2 q2 => z _ _ H2 p2 (s1.trans s2) (.cons ((q1.av fun a y => .inr (.inr (.inl y))).keep (s2.but fun _ y => y)) q2)
theorem AvL.fld {Θ : List PyData -> Prop} {l : Addr} (e : ρ[i]? = some (.cu (insCu C x dx fs))) (cl : Cls K C) (na : NoAttr K C f) (hl : fs.lookup f = some (.cu (ownCu l ds))) (h : AvL G ρ t fun es => Θ (.list ds :: es)) : AvL G ρ (tCons (tFld K (tVar i) f) t) Θ := fun nb σ H Q W z => by
 show tFld K (tVar i) f σ H _
 exact fld_cu W e cl na hl fun hF ⟨xs, hx, hd⟩ => h nb σ H _ W fun es vs H2 p2 s2 q2 => z _ _ H2 p2 s2 (.cons (.lst (fun y => y (hF l (zq8x.mpr rfl)).2) (s2.1 _ _ (hF l (zq8x.mpr rfl)).2 hx) ((hd.av fun a y => .inr (.inr (.inl y))).keep (s2.but fun _ y => y))) q2)
theorem Ev.callL {n : Nat} {F : DF} (hm : MonoF F) (h : AvL G ρ t fun ds => ds.length = n /\ F ds fun f d => (f = true \/ scB d = true) /\ Φ true d) : Ev G ρ (tCall (spD n F) [] E0 t) Φ := fun nb σ H Q W z =>
 h nb σ H _ W fun ds vs H1 ⟨hl, p⟩ s1 q1 => by
  have W1 := W.step s1
  rw [zq46x]
  refine ⟨by rw [q1.length, hl], fun a => ¬ NB G.B a, ds, fun a y => NB.bag_live W1.bag y, q1, hm _ _ _ p fun f d ⟨hf, hp⟩ v H' sm hd => z true v H' d hp (s1.trans (.same W1.bag sm)) ?_⟩
  rcases hf with hf | hf
  ·exact hd.av fun a y => .inr ⟨hf, W1.liveS (f := true) a y⟩
  ·exact hd.scAny hf
theorem Sv.make {n : Nat} {F : CF} (hm : MonoC F) (h : Av G ρ t fun es => es.length + 1 = n /\ ∀ x dx, F (insCu C x dx []) (es.map (·.2)) fun c' _ d => d = .none /\ E.nx (ρ.set i (.cu c'))) : Sv G ρ (tAsg (tMake C (spC n F) [] E0 t) (gName i)) E := fun nb σ H D W KK =>
 h nb σ H _ W fun es vs H1 ⟨hl, p⟩ s1 q1 x dx hx hdx hne => by
  have W1 := W.step s1
  have hsm : Same H1 (upd (upd H1 dx (.own x)) x (.ins C dx [])) := fun a o e => by
   rw [upd_ne (ne_of_none e hx), upd_ne (ne_of_none e hdx)]; exact e
  have lvS : ∀ a, G.S nb false a -> H1 a ≠ none := fun a y => W1.liveS a y
  have fD : IsDs (fun a => G.S nb false a \/ a ∈ [x, dx]) (upd (upd H1 dx (.own x)) x (.ins C dx [])) (es.map (·.2)) vs := by
   have hq := q1.all (f := false) fun z => by cases z
   generalize es.map (·.2) = dl at hq
   refine IsDs.keep (But.of hsm) ?_
   exact freshL (P := fun S => IsDs S H1 dl vs) (fun z h => IsDs.av z h) (fun hp h => IsDs.fresh hp h) (L := [x, dx]) (fun a m => by
    rcases zq2x.mp m with m | m
    ·rw [m]; exact hx
    ·rw [zq8x.mp m]; exact hdx) hq
  rw [zq46x]
  refine ⟨by rw [zq39x, q1.len, hl], fun a => G.S nb false a \/ a ∈ [x, dx], insCu C x dx [], vs, es.map (·.2), rfl, fun a y => ?_, fun a m => .inr m, rfl, ?_, fD, hm _ _ _ _ (p x dx) fun c' f d ⟨hd0, hp⟩ v H' to hP hd => ?_⟩
  ·rcases y with y | y
   ·cases e : H1 a with
    | none => exact absurd e (lvS a y)
    | some o => rw [hsm a o e]; exact zq48x _
   ·rcases zq2x.mp y with m | m
    ·rw [m, upd_same]; exact zq48x _
    ·rw [zq8x.mp m, upd_ne hne, upd_same]; exact zq48x _
  ·refine ⟨by simp [insF, zq14x hne], by rw [upd_ne hne, upd_same], by decide, [], upd_same, rfl⟩
  ·subst hd0
   refine ⟨hd.ofN, ?_⟩
   have hfr : ∀ a ∈ c'.F, H1 a = none := fun a m => by
    rcases to.new a m with y | y
    ·rcases zq2x.mp y with m | m
     ·rw [m]; exact hx
     ·rw [zq8x.mp m]; exact hdx
    ·cases e : H1 a with
     | none => rfl
     | some o => rw [hsm a o e] at y; cases y
   have st : Step G.B H1 H' := by
    have sm : Same H1 H' := fun a o e => to.kp a o (fun m => by
     rcases zq2x.mp m with m | m
     ·rw [m, hx] at e; cases e
     ·rw [zq8x.mp m, hdx] at e; cases e) (hsm a o e)
    exact .same W1.bag sm
   have := W1.cu_of (i := i) (c := c') st hfr to.lv (c'.av (fun a y => ?_) hP)
   ·rw [to.v] at this
    exact KK.nx _ _ _ _ hp this
   ·rw [to.f] at y
    rcases y with y | y
    ·exact .inl (.inl y)
    ·exact .inr y
theorem EvS.tup {Φ : Rh -> Pd} (h : AvS G ρ t fun ρ' es => es.length <= 10000 /\ Φ ρ' (allF es) (.tuple (es.map (·.2)))) : EvS G ρ (tTup t) Φ := fun nb σ H Q W z =>
 h nb σ H _ W fun nb' ρ' es vs H1 ⟨hl, p⟩ W1 q1 => ⟨zq28x (by rw [q1.len]; exact hl) (by decide), fun a ha => z nb' ρ' _ _ _ _ p (W1.step (.same W1.bag (same_new ha)))
  (.tup (W1.fresh ha) upd_same ((q1.all fun z => z).keep (But.of (same_new ha))))⟩
end
end L2
set_option maxRecDepth 100000
set_option maxHeartbeats 4000000
namespace L2
open PySem PySem.Spec PyProof.Rows
noncomputable def fst1 (p : Int) (cs : List Prs) (wd : Wo) : Nat -> List Mend
  | 0 => []
  | i + 1 => match toldF p (cs.getD i []) 0 wd with
    | some (a, x) => if a ∈ (fst1 p cs wd i).map (·.1) then fst1 p cs wd i else fst1 p cs wd i ++ [(a, (i : Int), x)]
    | none => fst1 p cs wd i
theorem fst1_nd {p : Int} {cs : List Prs} {wd : Wo} : ∀ i, ((fst1 p cs wd i).map (·.1)).Nodup
  | 0 => by simp [fst1]
  | i + 1 => by
    unfold fst1
    split
    · split
      · exact fst1_nd i
      · rename_i a x e c
        rw [zq25x, zq120x]
        refine ⟨fst1_nd i, by simp, fun y hy z hz e => c ?_⟩
        simp at hz
        rw [<- hz, <- e]; exact hy
    · exact fst1_nd i
theorem fst1_told {p : Int} {cs : List Prs} {wd : Wo} {m : Mend} : ∀ {i}, m ∈ fst1 p cs wd i -> 0 <= m.2.1 /\ m.2.1 < i /\ toldF p (cs.getD m.2.1.toNat []) 0 wd = some (m.1, m.2.2) /\ ∀ c : Nat, (c : Int) < m.2.1 -> ∀ x, toldF p (cs.getD c []) 0 wd ≠ some (m.1, x)
  | 0, h => by simp [fst1] at h
  | i + 1, h => by
    have key : ∀ {c : Nat}, (∃ x, toldF p (cs.getD c []) 0 wd = some (m.1, x)) -> c < i -> m.1 ∈ (fst1 p cs wd i).map (·.1) := fun {c} hx hc => by
      clear h
      induction i with
      | zero => omega
      | succ i ih =>
        unfold fst1
        by_cases e : c = i
        · subst e
          obtain ⟨x, hx⟩ := hx
          rw [hx]
          dsimp only
          split
          · rename_i h; exact h
          · simp
        · have := ih (by omega)
          split
          · split
            · exact this
            · rw [zq25x]; exact zq85x _ this
          · exact this
    unfold fst1 at h
    split at h
    · rename_i a x e
      split at h
      · obtain ⟨h1, h2, h3⟩ := fst1_told h; exact ⟨h1, by omega, h3⟩
      · rename_i c
        rcases zq45x.mp h with h | h
        · obtain ⟨h1, h2, h3⟩ := fst1_told h; exact ⟨h1, by omega, h3⟩
        · simp at h
          subst h
          refine ⟨by simp, by simp; omega, by simpa using e, fun c' hc' x' hx' => c ?_⟩
          exact key ⟨x', hx'⟩ (by simpa using hc')
    · obtain ⟨h1, h2, h3⟩ := fst1_told h; exact ⟨h1, by omega, h3⟩
theorem fst1_has {p : Int} {cs : List Prs} {wd : Wo} {c : Nat} {a x : Int} (hx : toldF p (cs.getD c []) 0 wd = some (a, x)) : ∀ {i}, c < i -> a ∈ (fst1 p cs wd i).map (·.1)
  | 0, h => by omega
  | i + 1, h => by
    unfold fst1
    by_cases e : c = i
    · subst e
      rw [hx]
      dsimp only
      split
      · rename_i h; exact h
      · simp
    · have := fst1_has hx (i := i) (by omega)
      split
      · split
        · exact this
        · rw [zq25x]; exact zq85x _ this
      · exact this
noncomputable def rndF (p : Int) (cs : List Prs) (wd : Wo) : List Mend := (fst1 p cs wd cs.length).mergeSort fun a b => decide (a.1 <= b.1)
theorem rndF_perm (p : Int) (cs : List Prs) (wd : Wo) : (rndF p cs wd).Perm (fst1 p cs wd cs.length) := List.mergeSort_perm _ _
theorem rndF_up (p : Int) (cs : List Prs) (wd : Wo) : (rndF p cs wd).Pairwise fun a b => a.1 < b.1 := by
 have h1 : (rndF p cs wd).Pairwise fun a b => decide (a.1 <= b.1) = true := List.pairwise_mergeSort (fun a b c h1 h2 => by simp at h1 h2 ⊢; omega) (fun a b => by simp; omega) _
 have h2 : ((rndF p cs wd).map (·.1)).Nodup := ((rndF_perm p cs wd).map _).nodup_iff.mpr (fst1_nd _)
 have h3 : (rndF p cs wd).Pairwise fun a b => a.1 ≠ b.1 := zq76x.mp h2
 exact (h1.and h3).imp fun ⟨a, b⟩ => by simp at a; omega
theorem up_uniq : ∀ {a b : List Mend}, (a.Pairwise fun x y => x.1 < y.1) -> (b.Pairwise fun x y => x.1 < y.1) -> a.Perm b -> a = b
  | [], b, _, _, h => by rw [List.nil_perm.mp h]
  | x :: a, [], _, _, h => by cases List.perm_nil.mp h
  | x :: a, y :: b, h1, h2, h => by
    obtain ⟨x1, x2⟩ := zq141x.mp h1
    obtain ⟨y1, y2⟩ := zq141x.mp h2
    have e : x = y := by
      rcases zq2x.mp (h.mem_iff.mp (zq19x ..)) with e | e
      · exact e
      rcases zq2x.mp (h.symm.mem_iff.mp (zq19x ..)) with e' | e'
      · exact e'.symm
      have := y1 x e; have := x1 y e'; omega
    subst e
    rw [up_uniq x2 y2 h.cons_inv]
theorem rnd_uniq {p : Int} {cs : List Prs} {wd : Wo} {ms : List Mend} (h : ms.Perm (fst1 p cs wd cs.length)) (hs : (ms.map (·.1)).Pairwise (· <= ·)) : ms = rndF p cs wd := by
 refine up_uniq ?_ (rndF_up p cs wd) (h.trans (rndF_perm p cs wd).symm)
 have h2 : (ms.map (·.1)).Nodup := (h.map _).nodup_iff.mpr (fst1_nd _)
 exact ((zq76x.mp hs).and (zq76x.mp h2)).imp fun ⟨a, b⟩ => by omega
theorem rndF_told {p : Int} {cs : List Prs} {wd : Wo} {m : Mend} (h : m ∈ rndF p cs wd) : 0 <= m.2.1 /\ m.2.1 < cs.length /\ toldF p (cs.getD m.2.1.toNat []) 0 wd = some (m.1, m.2.2) /\ ∀ c : Nat, (c : Int) < m.2.1 -> ∀ x, toldF p (cs.getD c []) 0 wd ≠ some (m.1, x) := fst1_told ((rndF_perm p cs wd).mem_iff.mp h)
theorem rndF_has {p : Int} {cs : List Prs} {wd : Wo} {c : Nat} {a x : Int} (hc : c < cs.length) (h : toldF p (cs.getD c []) 0 wd = some (a, x)) : ∃ m ∈ rndF p cs wd, m.1 = a := by
 have := fst1_has h hc
 obtain ⟨m, hm, e⟩ := zq17x.mp this
 exact ⟨m, (rndF_perm p cs wd).mem_iff.mpr hm, e⟩
theorem toldF_put {p : Int} {prs : Prs} {wd : Wo} {ms : List Mend} {a x : Int} (h : toldF p prs 0 wd = some (a, x)) (ha : ∀ m ∈ ms, m.1.toNat ≠ a.toNat) (hl : ∀ m ∈ ms, wd[m.1.toNat]? = some none) (h0 : ∀ pr ∈ prs, 0 <= pr.1) : toldF p prs 0 (putAll wd ms) = some (a, x) := by
  have keep : ∀ {ms : List Mend} {wd : Wo} {k : Nat}, (∀ m ∈ ms, m.1.toNat ≠ k) -> (putAll wd ms)[k]? = wd[k]? := fun {ms} => by
    induction ms with
    | nil => intro wd k _; rfl
    | cons m r ih =>
      intro wd k hk
      show (putAll (wd.set m.1.toNat (some m.2.2)) r)[k]? = _
      rw [ih fun m' hm' => hk m' (zq23x _ hm'), zq9x (hk m (zq19x ..))]
  obtain ⟨pr, e1, e2, e3⟩ := toldF_one h
  have same : ∀ q ∈ prs, (putAll wd ms)[q.1.toNat]? = wd[q.1.toNat]? := fun q hq => keep fun m hm z => by
    have hq' : q ∈ lostP wd prs := by
      unfold lostP
      exact zq27x.mpr ⟨hq, by rw [<- z, hl m hm]; rfl⟩
    rw [e1, zq8x] at hq'
    exact ha m hm (by rw [z, hq', e2])
  have e4 : lostP (putAll wd ms) prs = lostP wd prs := by
    unfold lostP
    exact zq190x fun q hq => by rw [same q hq]
  have e5 : dueSum prs (putAll wd ms) = dueSum prs wd := by
    unfold dueSum
    congr 1
    exact zq68x fun q hq => by unfold termOf; rw [same q hq]
  unfold toldF at h ⊢
  rw [e4, e5]
  exact h
theorem putAll_append (wd : Wo) (a b : List Mend) : putAll wd (a ++ b) = putAll (putAll wd a) b := by unfold putAll; rw [List.foldl_append]
theorem rndF_lost {p : Int} {cs : List Prs} {wd : Wo} (hp : 0 < p) {m : Mend} (h : m ∈ rndF p cs wd) (h0 : ∀ prs ∈ cs, ∀ pr ∈ prs, 0 <= pr.1 /\ pr.1 < wd.length) : 0 <= m.1 /\ m.1 < wd.length /\ wd[m.1.toNat]? = some none /\ 0 <= m.2.2 /\ m.2.2 < p := by
 obtain ⟨a1, a2, a3, _⟩ := rndF_told h
 obtain ⟨pr, b1, b2, b3, b4, b5⟩ := toldF_some hp a3
 have hc : m.2.1.toNat < cs.length := by omega
 rw [zq3x, zq1x hc] at b1
 have := h0 _ (zq11x hc) pr b1
 rw [b2] at this
 exact ⟨this.1, this.2, b3, b4, b5⟩
theorem rnd_run {p : Int} {cs : List Prs} {wd : Wo} (hp : 0 < p) (h0 : ∀ prs ∈ cs, ∀ pr ∈ prs, 0 <= pr.1 /\ pr.1 < wd.length) : RunOk p cs wd (rndF p cs wd) := fun j hj => by
 refine ⟨_, zq1x hj, ?_⟩
 have hm : (rndF p cs wd)[j] ∈ rndF p cs wd := zq11x hj
 obtain ⟨a1, a2, a3, _⟩ := rndF_told hm
 obtain ⟨b1, b2, b3, b4, b5⟩ := rndF_lost hp hm h0
 have tk : ∀ m ∈ (rndF p cs wd).take j, m ∈ rndF p cs wd /\ m.1.toNat ≠ (rndF p cs wd)[j].1.toNat := fun m h => by
  have hm' := zq121x h
  refine ⟨hm', fun z => ?_⟩
  obtain ⟨c1, _⟩ := rndF_lost hp hm' h0
  have hlt : m.1 < (rndF p cs wd)[j].1 := by
   obtain ⟨i, hi, e⟩ := List.mem_take_iff_getElem.mp h
   rw [<- e]
   exact zq92x.mp (rndF_up p cs wd) i j (by omega) hj (by omega)
  omega
 have hc : (rndF p cs wd)[j].2.1.toNat < cs.length := by omega
 have hpr : ∀ pr ∈ cs.getD (rndF p cs wd)[j].2.1.toNat [], 0 <= pr.1 := fun pr h => by
  rw [zq3x, zq1x hc] at h
  exact (h0 _ (zq11x hc) pr h).1
 have := toldF_put a3 (fun m h => (tk m h).2) (fun m h => (rndF_lost hp (tk m h).1 h0).2.2.1) hpr
 exact mendF_told a1 a2 this
noncomputable def mnd (p : Int) (cs : List Prs) : Nat -> Wo -> List (List Mend)
 | 0, _ => []
 | k + 1, wd => if rndF p cs wd = [] then [] else rndF p cs wd :: mnd p cs k (putAll wd (rndF p cs wd))
theorem cnt_put {p : Int} {cs : List Prs} {wd : Wo} (hp : 0 < p) (h0 : ∀ prs ∈ cs, ∀ pr ∈ prs, 0 <= pr.1 /\ pr.1 < wd.length) : cnt (putAll wd (rndF p cs wd)) + (rndF p cs wd).length = cnt wd := by
 have := run_cnt hp (rnd_run hp h0) (rndF p cs wd).length (zq5x _)
 rwa [zq57x] at this
theorem mnd_more {p : Int} {cs : List Prs} (hp : 0 < p) : ∀ {k : Nat} {wd : Wo}, (∀ prs ∈ cs, ∀ pr ∈ prs, 0 <= pr.1 /\ pr.1 < wd.length) -> cnt wd <= k -> mnd p cs (k + 1) wd = mnd p cs k wd
  | 0, wd, h0, h => by
    have e : rndF p cs wd = [] := by
      cases e : rndF p cs wd with
      | nil => rfl
      | cons m r =>
        have := cnt_put hp h0
        rw [e] at this
        simp at this
        omega
    unfold mnd
    rw [if_pos e]
    all_goals rfl
  | k + 1, wd, h0, h => by
    rw [mnd]
    conv => rhs; rw [mnd]
    by_cases e : rndF p cs wd = []
    · rw [if_pos e, if_pos e]
    · rw [if_neg e, if_neg e]
      congr 1
      have := cnt_put hp h0
      have hl : 0 < (rndF p cs wd).length := zq142x.mpr e
      exact mnd_more hp (fun prs hp pr hr => by rw [putAll_len]; exact h0 prs hp pr hr) (by omega)
noncomputable def mndF (p : Int) (cs : List Prs) (wd : Wo) : List (List Mend) := mnd p cs (cnt wd) wd
theorem mnd_ge {p : Int} {cs : List Prs} (hp : 0 < p) {wd : Wo} (h0 : ∀ prs ∈ cs, ∀ pr ∈ prs, 0 <= pr.1 /\ pr.1 < wd.length) : ∀ {k : Nat}, cnt wd <= k -> mnd p cs k wd = mndF p cs wd := fun {k} h => by
 obtain ⟨j, rfl⟩ : ∃ j, k = cnt wd + j := ⟨k - cnt wd, by omega⟩
 clear h
 induction j with
 | zero => rfl
 | succ j ih => rw [<- Nat.add_assoc, mnd_more hp h0 (by omega), ih]
theorem mndF_nil {p : Int} {cs : List Prs} {wd : Wo} (h : rndF p cs wd = []) : mndF p cs wd = [] := by
 unfold mndF
 cases cnt wd with
 | zero => rfl
 | succ k => rw [mnd, if_pos h]
theorem mndF_cons {p : Int} {cs : List Prs} {wd : Wo} (hp : 0 < p) (h0 : ∀ prs ∈ cs, ∀ pr ∈ prs, 0 <= pr.1 /\ pr.1 < wd.length) (h : rndF p cs wd ≠ []) : mndF p cs wd = rndF p cs wd :: mndF p cs (putAll wd (rndF p cs wd)) := by
 have hc := cnt_put hp h0
 have hl : 0 < (rndF p cs wd).length := zq142x.mpr h
 obtain ⟨k, hk⟩ : ∃ k, cnt wd = k + 1 := ⟨cnt wd - 1, by omega⟩
 have e : mndF p cs wd = mnd p cs (k + 1) wd := by unfold mndF; rw [hk]
 rw [e, mnd, if_neg h, mnd_ge hp (fun prs hp pr hr => by rw [putAll_len]; exact h0 prs hp pr hr) (by omega)]
noncomputable def endW (p : Int) (cs : List Prs) (wd : Wo) : Wo := putAll wd (mndF p cs wd).flatten
theorem endW_nil {p : Int} {cs : List Prs} {wd : Wo} (h : rndF p cs wd = []) : endW p cs wd = wd := by unfold endW; rw [mndF_nil h]; rfl
theorem endW_cons {p : Int} {cs : List Prs} {wd : Wo} (hp : 0 < p) (h0 : ∀ prs ∈ cs, ∀ pr ∈ prs, 0 <= pr.1 /\ pr.1 < wd.length) (h : rndF p cs wd ≠ []) : endW p cs wd = endW p cs (putAll wd (rndF p cs wd)) := by
 unfold endW
 rw [mndF_cons hp h0 h]
 exact putAll_append _ _ _
abbrev rdsD (r : List Mend) : PyData := .list (r.map mendD)
def mdF (nd : PyData) (l : Addr) (wd : Wo) : Fs := [("net", .d nd), ("letters", .cu (ownCu l (wd.map optD)))]
abbrev kM (m : Mend) : Int × PyData := (m.1, mendD m)
theorem kM_keys (ms : List Mend) : (ms.map kM).map (·.1) = ms.map (·.1) := by rw [zq67x]; rfl
theorem kM_val : ∀ {ms : List Mend} {m : Mend}, (ms.map (·.1)).Nodup -> m ∈ ms -> valI (ms.map kM) m.1 = some (mendD m)
  | x :: r, m, nd, h => by
    rw [zq4x, valI_cons]
    rw [zq4x, zq59x] at nd
    rcases zq2x.mp h with e | e
    · subst e; rw [if_pos rfl]
    · rw [if_neg (fun z => nd.1 (by rw [show x.1 = m.1 from z]; exact zq215x e)), kM_val nd.2 e]
theorem fst1_lt {p : Int} {cs : List Prs} {wd : Wo} (hp : 0 < p) (h0 : ∀ prs ∈ cs, ∀ pr ∈ prs, 0 <= pr.1 /\ pr.1 < wd.length) : ∀ {i}, i <= cs.length -> (fst1 p cs wd i).length <= wd.length := fun {i} hi => by
 have nd := fst1_nd (p := p) (cs := cs) (wd := wd) i
 have := nodup_below (m := wd.length) nd fun k hk => by
  obtain ⟨m, hm, e⟩ := zq17x.mp hk
  obtain ⟨a1, a2, a3, _⟩ := fst1_told hm
  obtain ⟨pr, b1, b2, _⟩ := toldF_some hp a3
  have hc : m.2.1.toNat < cs.length := by omega
  rw [zq3x, zq1x hc] at b1
  have := h0 _ (zq11x hc) pr b1
  omega
 rw [zq0x] at this
 omega
theorem NetQ.rg {p : Int} {cs : List Prs} {m : Nat} (h : NetQ p cs m) : ∀ prs ∈ cs, ∀ pr ∈ prs, 0 <= pr.1 /\ pr.1 < m := fun prs hp pr hr => ⟨((h.2.2.2 prs hp).2.1 pr hr).1, ((h.2.2.2 prs hp).2.1 pr hr).2.1⟩
theorem rnd_ok {p : Int} {cs : List Prs} {wd : Wo} (hN : NetQ p cs wd.length) (hW : WoOk wd) : WoOk (putAll wd (rndF p cs wd)) := by
  have key : ∀ {ms : List Mend} {wd : Wo}, WoOk wd -> (∀ m ∈ ms, Sm m.2.2) -> WoOk (putAll wd ms) := fun {ms} => by
    induction ms with
    | nil => intro wd h _; exact h
    | cons m r ih =>
      intro wd h hm
      refine ih (wd := wd.set m.1.toNat (some m.2.2)) (fun x hx => ?_) fun m' h' => hm m' (zq23x _ h')
      rcases zq216x hx with z | z
      · exact h x z
      · cases z; exact hm m (zq19x ..)
  have p2 := hN.1.1
  have p40 := hN.2.1
  refine key hW fun m hm => ?_
  obtain ⟨_, _, _, b4, b5⟩ := rndF_lost (by omega) hm hN.rg
  unfold Sm; omega
theorem scAll_opts (wd : Wo) : scAll (wd.map optD) = true := by
 unfold scAll
 rw [zq115x]
 intro x hx
 obtain ⟨o, _, rfl⟩ := zq17x.mp hx
 cases o <;> rfl
theorem mdF_put (nd : PyData) (l : Addr) (wd wd' : Wo) : putFl "letters" (.cu (ownCu l (wd'.map optD))) (mdF nd l wd) = mdF nd l wd' := by
 unfold mdF putFl
 rw [if_neg (by decide +kernel)]
 unfold putFl
 rw [if_pos rfl]
theorem mnd_len {p : Int} {cs : List Prs} : ∀ {k : Nat} {wd : Wo}, (mnd p cs k wd).length <= k
  | 0, wd => by simp [mnd]
  | k + 1, wd => by
    rw [mnd]
    split
    · simp
    · simp [mnd_len]
theorem mndF_len {p : Int} {cs : List Prs} {wd : Wo} : (mndF p cs wd).length <= wd.length := zq28x mnd_len (cnt_le wd)
theorem shaped_mds (ms : List Mend) : SeqAt.shaped (rdsD ms) = true := shaped_trn ms
theorem eqv_mds (ms : List Mend) : PyData.eqv (rdsD ms) (.list []) = decide (ms = []) := by
 have := eqv_trn ms
 rw [Bool.bne_false] at this
 exact this
end L2
set_option maxRecDepth 100000
set_option maxHeartbeats 4000000
namespace L2
open PySem PySem.Spec PyProof.Rows
theorem lostOf_mem {wd : Wo} {x : Int} : x ∈ lostOf wd ↔ 0 <= x /\ wd[x.toNat]? = some none := by
 unfold lostOf
 rw [zq17x]
 constructor
 ·rintro ⟨i, hi, rfl⟩
  obtain ⟨h1, h2⟩ := zq27x.mp hi
  exact ⟨by omega, by simpa using h2⟩
 ·rintro ⟨h0, h1⟩
  refine ⟨x.toNat, zq27x.mpr ⟨zq29x.mpr (zq7x.mp h1).1, by simpa using h1⟩, by omega⟩
end L2
set_option maxRecDepth 100000
set_option maxHeartbeats 4000000
namespace L2
open PySem PySem.Spec PyProof.Rows
theorem CompOkC.rel {sx : Scope} {env : Env} {NX : List Str} {scope : Scope} {N : List Str} {mp : List (Option Nat)} (h : CompOkC sx NX scope N mp) : CompOkC (relabel sx env) NX scope N mp :=
 ⟨h.kind, h.own, h.names, fun y hy e => lookup_relabel (h.free y hy e), h.len, h.look⟩
theorem pe_lcompND {X : Cx} {scope : Scope} {C : Addr} {N : List Str} {s₀ : Shared} {H₀ : Hp} {fp : List Addr} {elt iter tg : Expr} {ifs : List Expr} {scope2 : Scope} {pos : Pos} {N2 : List Str} {mp : List (Option Nat)} {wi : TI} {g : TG} {tc : TT} {te : TE}
  (ok : CompOkC scope N scope2 N2 mp) (hi : PI (compXC X scope C N s₀ H₀ fp) tg iter wi)
  (hb : ∀ C' s₀' H₀' fp', PG (compXC (compXC X scope C N s₀ H₀ fp) scope2 C' N2 s₀' H₀' fp') tg g /\ PTs (compXC (compXC X scope C N s₀ H₀ fp) scope2 C' N2 s₀' H₀' fp') ifs tc /\ PE (compXC (compXC X scope C N s₀ H₀ fp) scope2 C' N2 s₀' H₀' fp') elt te) (hc : X.calm = true := by rfl)
  (hs : ∀ x, foldedSetIterable iter (compXC X scope C N s₀ H₀ fp).env x = pure x := by intro _; rfl) : PE (compXC X scope C N s₀ H₀ fp) (.ListComp elt [⟨tg, iter, ifs, 0⟩] scope2 pos) (tComp wi g tc te mp) :=
 pe_lcompC (X := compXC X scope C N s₀ H₀ fp) (CompOkC.rel ok) hi hb hc hs
end L2
set_option maxRecDepth 100000
set_option maxHeartbeats 4000000
set_option maxRecDepth 100000
set_option maxHeartbeats 4000000
namespace L2
open PySem PySem.Spec PyProof.Rows
inductive Oi where
 | own (b : Addr) | dat (x : PyData)
inductive OO where
 | lst (xs : List Oi) | tup (xs : List Oi) | dic (ks : List (Int × Oi))
abbrev Sto := List (Addr × OO)
end L2
set_option maxRecDepth 100000
set_option maxHeartbeats 4000000
set_option maxRecDepth 100000
set_option maxHeartbeats 4000000
set_option maxRecDepth 100000
set_option maxHeartbeats 4000000
namespace L2
open PySem PySem.Spec PyProof.Rows
def shr (a b : List Int) : List Int := b.filter fun x => decide (x ∈ a)
def NoC (R : List (List Int)) (P : Nat -> Nat -> Prop) : Prop := ∀ (c d : Nat) a b, c < d -> R[c]? = some a -> R[d]? = some b -> P c d -> (shr a b).length < 2
end L2
set_option maxRecDepth 100000
set_option maxHeartbeats 4000000
namespace L2
open PySem PySem.Spec PyProof.Rows
def tDead : TS := fun _ _ _ => False
theorem ps_dead {X : Cx} {st : Stmt} : PS X st tDead := fun _ _ _ _ _ _ h => h.elim
end L2
set_option maxRecDepth 100000
set_option maxHeartbeats 4000000
set_option maxRecDepth 100000
set_option maxHeartbeats 4000000
namespace L2
open PySem PySem.Spec PyProof.Rows
theorem ixN_at {m : Nat} {k : Int} (h0 : 0 <= k) (h1 : k < m) : ixN m k = some k.toNat := by
 unfold ixN
 repeat (first | rw [if_pos (by omega)] | rw [if_neg (by omega)])
end L2
set_option maxRecDepth 100000
set_option maxHeartbeats 4000000
namespace L2
open PySem PySem.Spec PyProof.Rows
abbrev RF := Cu -> List PyData -> Pd -> Prop
end L2
set_option maxRecDepth 100000
set_option maxHeartbeats 4000000
set_option maxRecDepth 100000
set_option maxHeartbeats 4000000
set_option maxRecDepth 100000
set_option maxHeartbeats 4000000
set_option maxRecDepth 100000
set_option maxHeartbeats 4000000
set_option maxRecDepth 100000
set_option maxHeartbeats 4000000
namespace L2
open PySem PySem.Spec PyProof.Rows
def sumN : Nat -> (Nat -> Int) -> Int
 | 0, _ => 0
 | n + 1, f => sumN n f + f n
theorem sumN_succ {n : Nat} {f : Nat -> Int} : sumN (n + 1) f = sumN n f + f n := rfl
theorem sumN_congr {f g : Nat -> Int} : ∀ {n : Nat}, (∀ k, k < n -> f k = g k) -> sumN n f = sumN n g
 | 0, _ => rfl
 | n + 1, h => by unfold sumN; rw [sumN_congr fun k hk => h k (by omega), h n (by omega)]
theorem sumN_add {f g : Nat -> Int} : ∀ {n : Nat}, sumN n (fun k => f k + g k) = sumN n f + sumN n g
 | 0 => rfl
 | n + 1 => by rw [sumN_succ, sumN_succ, sumN_succ, sumN_add]; omega
theorem sumN_mul {a : Int} {f : Nat -> Int} : ∀ {n : Nat}, sumN n (fun k => a * f k) = a * sumN n f
 | 0 => by unfold sumN; simp
 | n + 1 => by unfold sumN; rw [sumN_mul, zq102x]
theorem sumN_zero : ∀ {n : Nat}, sumN n (fun _ => 0) = 0
 | 0 => rfl
 | n + 1 => by unfold sumN; rw [sumN_zero]; rfl
theorem sumN_swap {f : Nat -> Nat -> Int} {n : Nat} : ∀ {m : Nat}, sumN n (fun k => sumN m fun c => f c k) = sumN m fun c => sumN n (f c)
  | 0 => sumN_zero
  | m + 1 => by
    show sumN n (fun k => sumN m (fun c => f c k) + f m k) = sumN m (fun c => sumN n (f c)) + sumN n (f m)
    rw [sumN_add, sumN_swap]
theorem sumN_le {f : Nat -> Int} {b : Int} : ∀ {n : Nat}, (∀ k, k < n -> f k <= b) -> sumN n f <= n * b
  | 0, _ => by unfold sumN; simp
  | n + 1, h => by
    unfold sumN
    have h1 := sumN_le (n := n) fun k hk => h k (by omega)
    have h2 := h n (by omega)
    rw [show ((n + 1 : Nat) : Int) * b = n * b + b by rw [zq191x, zq103x]; simp]
    omega
theorem sumN_one {f : Nat -> Int} (hf : ∀ k, f k = 0 \/ f k = 1) : ∀ {n : Nat}, (∀ k k', k < k' -> k' < n -> ¬ (f k = 1 /\ f k' = 1)) -> sumN n f <= 1
  | 0, _ => by unfold sumN; omega
  | n + 1, h => by
    unfold sumN
    rcases hf n with e | e
    · have := sumN_one hf (n := n) fun k k' a b => h k k' a (by omega)
      omega
    · have : sumN n f = 0 := by
        rw [sumN_congr (g := fun _ => 0) fun k hk => (hf k).resolve_right fun z => h k n hk (by omega) ⟨z, e⟩]
        exact sumN_zero
      omega
theorem meet {I : Nat -> Nat -> Int} (hI : ∀ c k, I c k = 0 \/ I c k = 1) {n : Nat} : ∀ {m : Nat}, (∀ c d k k', c < d -> d < m -> k < k' -> k' < n -> ¬ (I c k = 1 /\ I d k = 1 /\ I c k' = 1 /\ I d k' = 1)) ->
    sumN n (fun k => sumN m (fun c => I c k) * (sumN m (fun c => I c k) - 1)) <= m * (m - 1)
  | 0, _ => by
    rw [sumN_congr (g := fun _ => 0) fun k _ => by unfold sumN; simp, sumN_zero]; simp
  | m + 1, h => by
    have ih := meet hI (n := n) (m := m) fun c d k k' a b => h c d k k' a (by omega)
    have e : sumN n (fun k => sumN (m + 1) (fun c => I c k) * (sumN (m + 1) (fun c => I c k) - 1)) = sumN n (fun k => sumN m (fun c => I c k) * (sumN m (fun c => I c k) - 1) + 2 * sumN m (fun c => I m k * I c k)) := by
      refine sumN_congr fun k _ => ?_
      rw [sumN_mul]
      show (sumN m (fun c => I c k) + I m k) * (sumN m (fun c => I c k) + I m k - 1) = _
      generalize sumN m (fun c => I c k) = D
      rcases hI m k with z | z <;> rw [z] <;> grind
    rw [e, sumN_add, sumN_mul, sumN_swap (f := fun c k => I m k * I c k)]
    have h2 : sumN m (fun c => sumN n fun k => I m k * I c k) <= m * 1 := sumN_le fun c hc => sumN_one (fun k => by rcases hI m k with z | z <;> rcases hI c k with y | y <;> rw [z, y] <;> simp) fun k k' hk hk' ⟨z1, z2⟩ => by
      refine h c m k k' hc (by omega) hk hk' ?_
      rcases hI m k with a | a <;> rcases hI c k with b | b <;> rcases hI m k' with a' | a' <;> rcases hI c k' with b' | b' <;> simp_all
    have e3 : ((m + 1 : Nat) : Int) * ((m + 1 : Nat) - 1) = (m : Int) * (m - 1) + 2 * m := by rw [zq191x]; grind
    omega
def Ap (R : List (List Int)) : Prop := NoC R fun _ _ => True
theorem two_le {r : List Int} {x y : Int} (hx : x ∈ r) (hy : y ∈ r) (h : x ≠ y) : 2 <= r.length := by
 match r, hx, hy with
 | [z], hx, hy => simp at hx hy; omega
 | _ :: _ :: _, _, _ => simp
def In2 (a : List Int) (x y : Int) : Prop := ∃ l' l : Nat, l' < l /\ a[l']? = some x /\ a[l]? = some y
theorem In2.mem {a : List Int} {x y : Int} (h : In2 a x y) : x ∈ a /\ y ∈ a := let ⟨_, _, _, h1, h2⟩ := h; ⟨zq16x h1, zq16x h2⟩
theorem In2.lt {a : List Int} {x y : Int} (ha : a.Pairwise (· < ·)) (h : In2 a x y) : x < y := by
 obtain ⟨l', l, hl, h1, h2⟩ := h
 obtain ⟨i1, e1⟩ := zq7x.mp h1
 obtain ⟨i2, e2⟩ := zq7x.mp h2
 rw [<- e1, <- e2]
 exact zq92x.mp ha l' l i1 i2 hl
theorem in2_of {a : List Int} {x y : Int} (ha : a.Pairwise (· < ·)) (hx : x ∈ a) (hy : y ∈ a) (h : x < y) : In2 a x y := by
 obtain ⟨i, hi⟩ := zq43x hx
 obtain ⟨j, hj⟩ := zq43x hy
 obtain ⟨i1, e1⟩ := zq7x.mp hi
 obtain ⟨j1, e2⟩ := zq7x.mp hj
 refine ⟨i, j, ?_, hi, hj⟩
 by_cases c : i < j
 ·exact c
 ·exfalso
  by_cases e : i = j
  ·subst e; omega
  ·have := zq92x.mp ha j i j1 i1 (by omega); omega
theorem ap_iff {R : List (List Int)} (hR : ∀ r ∈ R, r.Pairwise (· < ·)) : Ap R ↔ ∀ (c d : Nat) a b x y, c < d -> R[c]? = some a -> R[d]? = some b -> In2 a x y -> In2 b x y -> False := by
  constructor
  · intro h c d a b x y hcd ea eb ha hb
    have := h c d a b hcd ea eb trivial
    have hlt := ha.lt (hR a (zq16x ea))
    have := two_le (r := shr a b) (x := x) (y := y) (zq27x.mpr ⟨hb.mem.1, by simpa using ha.mem.1⟩) (zq27x.mpr ⟨hb.mem.2, by simpa using ha.mem.2⟩) (by omega)
    omega
  · intro h c d a b hcd ea eb _
    have ra := hR a (zq16x ea)
    have rb := hR b (zq16x eb)
    cases hs : shr a b with
    | nil => simp
    | cons x r =>
      cases r with
      | nil => simp
      | cons y r =>
        exfalso
        have rs : (shr a b).Pairwise (· < ·) := rb.filter _
        rw [hs] at rs
        have hxy : x < y := (zq141x.mp rs).1 y zq19x
        have hx : x ∈ shr a b := by rw [hs]; exact zq19x
        have hy : y ∈ shr a b := by rw [hs]; exact zq23x _ zq19x
        have hx := zq27x.mp hx
        have hy := zq27x.mp hy
        exact h c d a b x y hcd ea eb (in2_of ra (by simpa using hx.2) (by simpa using hy.2) hxy) (in2_of rb hx.1 hy.1 hxy)
end L2
set_option maxRecDepth 100000
set_option maxHeartbeats 4000000
set_option maxRecDepth 100000
set_option maxHeartbeats 4000000
set_option maxRecDepth 100000
set_option maxHeartbeats 4000000
namespace L2
open PySem PySem.Spec PyProof.Rows
theorem nd_at {α : Type} {l : List α} (h : l.Nodup) {i j : Nat} {a : α} (hi : l[i]? = some a) (hj : l[j]? = some a) : i = j := by
 obtain ⟨i1, e1⟩ := zq7x.mp hi
 obtain ⟨j1, e2⟩ := zq7x.mp hj
 by_cases c : i = j
 ·exact c
 ·exfalso
  rcases Nat.lt_or_gt_of_ne c with c | c
  ·exact zq92x.mp h i j i1 j1 c (e1.trans e2.symm)
  ·exact zq92x.mp h j i j1 i1 c (e2.trans e1.symm)
theorem sum_perm {a b : List Int} (h : a.Perm b) : a.sum = b.sum := by
 induction h with
 | nil => rfl
 | cons x _ ih => rw [zq41x, zq41x, ih]
 | swap x y l => rw [zq41x, zq41x, zq41x, zq41x]; omega
 | trans _ _ h1 h2 => exact h1.trans h2
theorem due_perm {a b : Prs} {wd : List (Option Int)} (h : a.Perm b) : dueSum a wd = dueSum b wd := by unfold dueSum; exact sum_perm (h.map _)
end L2
set_option maxRecDepth 100000
set_option maxHeartbeats 4000000
namespace L2
open PySem PySem.Spec PyProof.Rows
section
variable {p n : Int} {O Q T : List Int} {cs cs' : List Prs}
theorem map_range {α : Type} {l : List α} {n : Nat} (hl : l.length = n) {f : Nat -> α} (h : ∀ k x, l[k]? = some x -> x = f k) : l = (List.range n).map f := by
 apply zq61x
 intro k
 rw [zq6x]
 by_cases hk : k < n
 ·rw [zq119x hk, zq1x (by omega), h k l[k] (zq1x (by omega))]; rfl
 ·rw [zq40x (by omega), zq40x (by rw [zq74x]; omega)]; rfl
def ApS (R : List (List Int)) : Prop := ∀ (c d : Nat) a b x y, c ≠ d -> R[c]? = some a -> R[d]? = some b -> x ≠ y -> x ∈ a -> y ∈ a -> x ∈ b -> y ∈ b -> False
theorem ap_s {R : List (List Int)} (hR : ∀ r ∈ R, r.Pairwise (· < ·)) : Ap R ↔ ApS R := by
 rw [ap_iff hR]
 constructor
 ·intro h
  have key : ∀ (c d : Nat) a b x y, c < d -> R[c]? = some a -> R[d]? = some b -> x < y -> x ∈ a -> y ∈ a -> x ∈ b -> y ∈ b -> False := fun c d a b x y hcd ea eb hxy h1 h2 h3 h4 =>
   h c d a b x y hcd ea eb (in2_of (hR a (zq16x ea)) h1 h2 hxy) (in2_of (hR b (zq16x eb)) h3 h4 hxy)
  intro c d a b x y hcd ea eb hxy h1 h2 h3 h4
  rcases Nat.lt_or_gt_of_ne hcd with c1 | c1 <;> rcases Int.lt_or_gt_of_ne hxy with c2 | c2
  ·exact key c d a b x y c1 ea eb c2 h1 h2 h3 h4
  ·exact key c d a b y x c1 ea eb c2 h2 h1 h4 h3
  ·exact key d c b a x y c1 eb ea c2 h3 h4 h1 h2
  ·exact key d c b a y x c1 eb ea c2 h4 h3 h2 h1
 ·intro h c d a b x y hcd ea eb ha hb
  have h1 := ha.mem
  have h2 := hb.mem
  have := ha.lt (hR a (zq16x ea))
  exact h c d a b x y (by omega) ea eb (by omega) h1.1 h1.2 h2.1 h2.2
end
end L2
set_option maxRecDepth 100000
set_option maxHeartbeats 4000000
namespace L2
open PySem PySem.Spec PyProof.Rows
section
variable {p n m : Int} {c1 c2 cs : List Prs} {u w : List Int}
theorem trn_held {ws : List Int} (hV : VNet p n cs) (hl : ws.length = n.toNat) (hw : ∀ x ∈ ws, 0 <= x /\ x < p) (h : brk p cs ws = 0) : trnTo p cs ws n.toNat = [] := by
  have hb := zq137x.mp h
  refine List.flatMap_eq_nil_iff.mpr fun i hi => ?_
  have hi := zq29x.mp hi
  unfold trnAt
  have hmj : mjL (votesL p cs ws (i : Int)) (ws.getD i 0) = [] := by
    cases e : mjL (votesL p cs ws (i : Int)) (ws.getD i 0) with
    | nil => rfl
    | cons x r =>
      exfalso
      have hx : x ∈ mjL (votesL p cs ws (i : Int)) (ws.getD i 0) := by rw [e]; exact zq19x
      have hxf := zq27x.mp (zq121x hx)
      have hg := hxf.2
      unfold goodV at hg
      rw [zq24x, decide_eq_true_eq] at hg
      refine hg.1 ?_
      have hm := hxf.1
      unfold votesL at hm
      obtain ⟨q, hq, rfl⟩ := zq17x.mp hm
      obtain ⟨c, prs, f, hc, _, _, rfl⟩ := vcTo_mem (zq5x _) hq
      have hz := hb prs (zq16x hc)
      have hz : dueSum prs (ws.map some) % p = 0 := by simpa using hz
      show (ws.getD (i : Int).toNat 0 - dueSum (cs.getD (c : Int).toNat []) (ws.map some) % p * sol p f 1) % p = _
      rw [zq106x, zq106x, show cs.getD c [] = prs by rw [zq3x, hc]; rfl, hz, zq100x, zq129x]
      have := hw (ws.getD i 0) (by rw [zq3x, zq1x (by omega)]; exact zq11x _)
      exact zq93x this.1 this.2
  rw [hmj]; rfl
inductive Way (p : Int) (cs : List Prs) (n k : Nat) (ws : List Int) : Prop
 | held (hb : brk p cs ws = 0) (ht : trnTo p cs ws n = [])
 | rest (hb : brk p cs ws ≠ 0) (ht : trnTo p cs ws n = [])
 | on (hb : brk p cs ws ≠ 0) (ht : trnTo p cs ws n ≠ [])
theorem way (hV : VNet p n cs) {ws : List Int} (hl : ws.length = n.toNat) (hw : ∀ x ∈ ws, 0 <= x /\ x < p) (k : Nat) : Way p cs n.toNat k ws := by
 by_cases h1 : brk p cs ws = 0
 ·exact .held h1 (trn_held hV hl hw h1)
 by_cases h2 : trnTo p cs ws n.toNat = []
 ·exact .rest h1 h2
 ·exact .on h1 h2
end
end L2
set_option maxRecDepth 100000
set_option maxHeartbeats 4000000
set_option maxRecDepth 100000
set_option maxHeartbeats 4000000
set_option maxRecDepth 100000
set_option maxHeartbeats 4000000
namespace L2
open PySem PySem.Spec PyProof.Rows
def SmallP (q : Int) : Prop := q = 2 \/ q = 3 \/ q = 5 \/ q = 7
theorem small_mul {q d e : Int} (hq : SmallP q) (h : (d * e) % q = 0) : d % q = 0 \/ e % q = 0 := by
 rw [Int.mul_emod] at h
 rcases hq with rfl | rfl | rfl | rfl
 ·have u0 := zq21x d (by decide : (2 : Int) ≠ 0)
  have v0 := zq21x e (by decide : (2 : Int) ≠ 0)
  have u1 := zq22x d (by decide : (0 : Int) < 2)
  have v1 := zq22x e (by decide : (0 : Int) < 2)
  generalize d % 2 = u at *; generalize e % 2 = v at *
  rcases (by omega : u = 0 \/ u = 1) with rfl | rfl <;> omega
 ·have u0 := zq21x d (by decide : (3 : Int) ≠ 0)
  have v0 := zq21x e (by decide : (3 : Int) ≠ 0)
  have u1 := zq22x d (by decide : (0 : Int) < 3)
  have v1 := zq22x e (by decide : (0 : Int) < 3)
  generalize d % 3 = u at *; generalize e % 3 = v at *
  rcases (by omega : u = 0 \/ u = 1 \/ u = 2) with rfl | rfl | rfl <;> omega
 ·have u0 := zq21x d (by decide : (5 : Int) ≠ 0)
  have v0 := zq21x e (by decide : (5 : Int) ≠ 0)
  have u1 := zq22x d (by decide : (0 : Int) < 5)
  have v1 := zq22x e (by decide : (0 : Int) < 5)
  generalize d % 5 = u at *; generalize e % 5 = v at *
  rcases (by omega : u = 0 \/ u = 1 \/ u = 2 \/ u = 3 \/ u = 4) with rfl | rfl | rfl | rfl | rfl <;> omega
 ·have u0 := zq21x d (by decide : (7 : Int) ≠ 0)
  have v0 := zq21x e (by decide : (7 : Int) ≠ 0)
  have u1 := zq22x d (by decide : (0 : Int) < 7)
  have v1 := zq22x e (by decide : (0 : Int) < 7)
  generalize d % 7 = u at *; generalize e % 7 = v at *
  rcases (by omega : u = 0 \/ u = 1 \/ u = 2 \/ u = 3 \/ u = 4 \/ u = 5 \/ u = 6) with rfl | rfl | rfl | rfl | rfl | rfl | rfl <;> omega
structure LnS (q s c : Int) (r : List Int) : Prop where
 s0 : 0 <= s
 s1 : s <= q
 c0 : 0 <= c
 c1 : c < q
 l : r.length = q.toNat
 e : ∀ (i : Nat) x, r[i]? = some x -> if s = q then x = c * q + i else x = (i : Int) * q + (s * i + c) % q
section
variable {q s c s' c' : Int} {r r' : List Int}
theorem LnS.rise (hq : 0 < q) (h : LnS q s c r) : r.Pairwise (· < ·) := zq92x.mpr fun i j hi hj hij => by
 have e1 := h.e i _ (zq1x hi)
 have e2 := h.e j _ (zq1x hj)
 by_cases k : s = q
 ·rw [if_pos k] at e1 e2; omega
 ·rw [if_neg k] at e1 e2
  have a1 := zq22x (s * i + c) hq
  have a2 := zq21x (s * j + c) (show q ≠ 0 by omega)
  have := zq128x (show ((i : Int) + 1) <= j by omega) (zq132x hq)
  rw [zq103x] at this
  omega
theorem LnS.mem (hq : 0 < q) (h : LnS q s c r) {x : Int} (hx : x ∈ r) : 0 <= x /\ x < q * q /\ 0 <= x / q /\ x / q < q /\ (if s = q then x / q = c else x % q = (s * (x / q) + c) % q) := by
 obtain ⟨i, hi⟩ := zq43x hx
 have hil := (zq7x.mp hi).1
 have hl := h.l
 have e1 := h.e i x hi
 have hc0 := h.c0; have hc1 := h.c1
 have hmul : ∀ a : Int, 0 <= a -> a < q -> 0 <= a * q /\ a * q + q <= q * q := fun a h0 h1 => by
  have := zq167x h0 (zq132x hq)
  have := zq128x (show a + 1 <= q by omega) (zq132x hq)
  rw [zq103x] at this
  omega
 have hdiv : ∀ a b : Int, 0 <= b -> b < q -> (a * q + b) / q = a /\ (a * q + b) % q = b := fun a b h0 h1 => by
  refine ⟨?_, ?_⟩
  ·rw [zq108x, zq192x _ _ (by omega), zq143x h0 h1]; omega
  ·rw [zq108x, zq193x, zq93x h0 h1]
 by_cases k : s = q
 ·rw [if_pos k] at e1 ⊢
  obtain ⟨d1, d2⟩ := hdiv c i (by omega) (by omega)
  have := hmul c hc0 hc1
  rw [e1, d1]
  exact ⟨by omega, by omega, by omega, by omega, rfl⟩
 ·rw [if_neg k] at e1 ⊢
  have a1 := zq22x (s * i + c) hq
  have a2 := zq21x (s * i + c) (show q ≠ 0 by omega)
  obtain ⟨d1, d2⟩ := hdiv i ((s * i + c) % q) a2 a1
  have := hmul i (by omega) (by omega)
  rw [e1, d1, d2]
  exact ⟨by omega, by omega, by omega, by omega, rfl⟩
theorem emod_sub {q a b : Int} (hq : 0 < q) (h : a % q = b % q) : (a - b) % q = 0 := zq134x (by
 have h1 := Int.emod_def a q
 have h2 := Int.emod_def b q
 refine ⟨a / q - b / q, ?_⟩
 rw [zq66x]
 omega)
theorem LnS.meet (hq : SmallP q) (h : LnS q s c r) (h' : LnS q s' c' r') (hne : ¬ (s = s' /\ c = c')) {x y : Int} (hxy : x ≠ y) (x1 : x ∈ r) (y1 : y ∈ r) (x2 : x ∈ r') (y2 : y ∈ r') : False := by
 have q0 : 0 < q := by rcases hq with rfl | rfl | rfl | rfl <;> decide
 obtain ⟨_, _, ax0, ax1, e1⟩ := h.mem q0 x1
 obtain ⟨_, _, ay0, ay1, e2⟩ := h.mem q0 y1
 obtain ⟨_, _, _, _, e3⟩ := h'.mem q0 x2
 obtain ⟨_, _, _, _, e4⟩ := h'.mem q0 y2
 have hx := zq51x x q
 have hy := zq51x y q
 have hc0 := h.c0; have hc1 := h.c1; have hc0' := h'.c0; have hc1' := h'.c1
 have hs0 := h.s0; have hs1 := h.s1; have hs0' := h'.s0; have hs1' := h'.s1
 have small : ∀ {d : Int}, -q < d -> d < q -> d % q = 0 -> d = 0 := fun {d} d0 d1 dz => by
  obtain ⟨k, hk⟩ := zq94x dz
  rcases zq117x k 0 with z | z | z
  ·have : q * k <= q * (-1) := zq72x (by omega) (by omega)
   omega
  ·rw [z] at hk; omega
  ·have : q * 1 <= q * k := zq72x (by omega) (by omega)
   omega
 by_cases k : s = q
 ·rw [if_pos k] at e1 e2
  by_cases k' : s' = q
  ·rw [if_pos k'] at e3
   exact hne ⟨by omega, by omega⟩
  ·rw [if_neg k'] at e3 e4
   have ea : x / q = y / q := by omega
   rw [ea, <- e4] at e3
   exact hxy (by rw [<- hx, <- hy, ea, e3])
 ·rw [if_neg k] at e1 e2
  by_cases k' : s' = q
  ·rw [if_pos k'] at e3 e4
   have ea : x / q = y / q := by omega
   rw [ea, <- e2] at e1
   exact hxy (by rw [<- hx, <- hy, ea, e1])
  ·rw [if_neg k'] at e3 e4
   have f1 := emod_sub q0 (e1.symm.trans e3)
   have f2 := emod_sub q0 (e2.symm.trans e4)
   have f3 : ((s - s') * (x / q - y / q)) % q = 0 := by
    obtain ⟨u, hu⟩ := zq94x f1
    obtain ⟨v, hv⟩ := zq94x f2
    exact zq134x ⟨u - v, by grind⟩
   rcases small_mul hq f3 with z | z
   ·have hs := small (by omega) (by omega) z
    have es : s = s' := by omega
    rw [es, show s' * (x / q) + c - (s' * (x / q) + c') = c - c' by omega] at f1
    have hc := small (by omega) (by omega) f1
    exact hne ⟨es, by omega⟩
   ·have ha := small (by omega) (by omega) z
    have ea : x / q = y / q := by omega
    rw [ea, <- e2] at e1
    exact hxy (by rw [<- hx, <- hy, ea, e1])
structure LnL (q : Int) (R : List (List Int)) (T : List (Int × Int)) : Prop where
 l : R.length = T.length
 nd : T.Nodup
 e : ∀ (i : Nat) r t, R[i]? = some r -> T[i]? = some t -> LnS q t.1 t.2 r
theorem LnL.ap {R : List (List Int)} {T : List (Int × Int)} (hq : SmallP q) (h : LnL q R T) : Ap R := by
 have q0 : 0 < q := by rcases hq with rfl | rfl | rfl | rfl <;> decide
 have hat : ∀ (i : Nat) r, R[i]? = some r -> ∃ t, T[i]? = some t /\ LnS q t.1 t.2 r := fun i r e => by
  have hi : i < T.length := by have := (zq7x.mp e).1; have := h.l; omega
  exact ⟨_, zq1x hi, h.e i r _ e (zq1x hi)⟩
 refine (ap_s fun r hr => ?_).mpr fun c d a b x y hcd ea eb hxy h1 h2 h3 h4 => ?_
 ·obtain ⟨i, hi⟩ := zq43x hr
  obtain ⟨t, _, hl⟩ := hat i r hi
  exact hl.rise q0
 ·obtain ⟨t, et, hl⟩ := hat c a ea
  obtain ⟨t', et', hl'⟩ := hat d b eb
  refine hl.meet hq hl' (fun ⟨z1, z2⟩ => hcd ?_) hxy h1 h2 h3 h4
  have : t = t' := Prod.ext z1 z2
  subst this
  exact nd_at h.nd et et'
end
end L2
set_option maxRecDepth 100000
set_option maxHeartbeats 4000000
namespace L2
open PySem PySem.Spec PyProof.Rows
section
variable {X : Cx}
def rMinL (K : PySem.W.Frag) : List V -> Hp -> VK -> Prop := fun xs H Q => ∃ p, ∃ ns : List Int, xs = [.ref p] /\ SqL K H p (ns.map V.int) /\ ns ≠ [] /\ ∀ M, M ∈ ns -> (∀ a ∈ ns, M <= a) -> Q (.int M) H
theorem call_minL (hc : X.calm = true) : CallR X (.builtin "min") (rMinL X.K) := by
 intro pins s σ H xs us Q I rv h
 obtain ⟨p, ns, rfl, hp, hne, q⟩ := h
 obtain ⟨u, rfl, ru⟩ := vals1 rv
 cases ru
 obtain ⟨its, rs, il, hz⟩ := I.list hp
 have hI := vals_intsA rs
 obtain ⟨ys, e⟩ := hI.allInts.items
 have hns : ns = ys.toList.map (·.1) := by
  rw [<- hI.numsOf, <- nums_intItems, <- e]
 have hsz : 0 < ys.size := by
  have h3 : 0 < ns.length := zq142x.mpr hne
  rw [hns, zq0x, zq79x] at h3; exact h3
 refine min_intList (I.ok.hd hc) (by rw [<- e]; exact il.isList) hsz fun v h' tk hv kp => ?_
 obtain ⟨t, rfl⟩ := intItems_at hv
 obtain ⟨h1, h2⟩ := argBest_lt (numAt ys) (ys.size - 1)
 refine ⟨.int _, H, I.kept kp, ⟨_, rfl⟩, q _ ?_ fun a ha => ?_⟩
 ·rw [hns, numAt_eq]; exact getD_mem (by rw [zq0x, zq79x]; omega)
 ·rw [hns] at ha
  obtain ⟨j, hj, rfl⟩ := mem_getD ha
  rw [zq0x, zq79x] at hj
  rw [<- numAt_eq]; exact h2 j (by omega)
end
theorem Ev.minL {G : Gx} {ρ : Rh} {te : TE} {K : PySem.W.Frag} {Φ : Pd} (h : Ev G ρ te fun _ x => ∃ ns : List Int, x = .list (ns.map .int) /\ ns ≠ [] /\ ∀ M, M ∈ ns -> (∀ a ∈ ns, M <= a) -> Φ true (.int M)) : Ev G ρ (tCB (rMinL K) (tCons te tNil)) Φ := fun nb σ H Q W z =>
 h nb σ H _ W fun f v H1 d ⟨ns, e, hne, q⟩ s1 hv => by
  subst e
  obtain ⟨a, xs, rfl, n, hx, hd⟩ := hv.ofL
  have : xs = ns.map V.int := isDs_ints_eq hd
  subst this
  exact ⟨a, ns, rfl, .of hx, hne, fun M m1 m2 => z true _ H1 _ (q M m1 m2) s1 (.int _)⟩
def deg (cs : List Prs) (i : Nat) : Nat := cs.countP fun prs => decide ((i : Int) ∈ prs.map (·.1))
def ApP (cs : List Prs) : Prop := cs.Pairwise fun a b => ∀ x y : Int, x ≠ y -> x ∈ a.map (·.1) -> y ∈ a.map (·.1) -> x ∈ b.map (·.1) -> y ∈ b.map (·.1) -> False
structure HNet (p n : Int) (cs : List Prs) (ws : List Int) : Prop where
 v : VNet p n cs
 a : ApP cs
 t : ∀ prs ∈ cs, dueSum prs (ws.map some) % p = 0
 l : ws.length = n.toNat
 r : ∀ x ∈ ws, 0 <= x /\ x < p
section
variable {p n : Int} {cs : List Prs} {ws xs O : List Int} {i : Nat}
theorem countP_one {α : Type} {Q : α -> Bool} : ∀ {l : List α}, l.Pairwise (fun a b => ¬ (Q a = true /\ Q b = true)) -> l.countP Q <= 1
  | [], _ => zq37x _
  | a :: l, h => by
    rw [zq141x] at h
    rw [zq83x]
    by_cases c : Q a = true
    · rw [if_pos c, zq137x.mpr fun b hb z => h.1 b hb ⟨c, z⟩]; exact zq5x _
    · rw [if_neg c]; exact countP_one h.2
theorem countP_or {α : Type} {Q R S : α -> Bool} : ∀ {l : List α}, (∀ a ∈ l, Q a = true -> R a = true \/ S a = true) -> l.countP Q <= l.countP R + l.countP S
  | [], _ => zq37x _
  | a :: l, h => by
    have ih := countP_or (l := l) fun b hb => h b (zq23x _ hb)
    have ha := h a zq19x
    rw [zq83x, zq83x, zq83x]
    by_cases c : Q a = true
    · rcases ha c with z | z
      · rw [if_pos c, if_pos z]; split <;> omega
      · rw [if_pos c, if_pos z]; split <;> omega
    · rw [if_neg c]; split <;> split <;> omega
def othB (i : Nat) (O : List Int) (prs : Prs) : Bool := decide ((i : Int) ∈ prs.map (·.1)) && O.any fun j => decide (j ≠ (i : Int)) && decide (j ∈ prs.map (·.1))
theorem oth_count (ha : ApP cs) : ∀ O : List Int, cs.countP (othB i O) <= (O.filter fun j => decide (j ≠ (i : Int))).length
  | [] => by
    rw [zq137x.mpr fun a _ z => by unfold othB at z; simp at z]; exact zq37x _
  | j :: O => by
    have ih := oth_count ha O
    by_cases c : j = (i : Int)
    · rw [zq136x (by simp [c])]
      have : cs.countP (othB i (j :: O)) = cs.countP (othB i O) := List.countP_congr fun a _ => by unfold othB; simp [c]
      omega
    · rw [zq135x (by simp [c]), zq39x]
      have h1 : cs.countP (othB i (j :: O)) <= cs.countP (fun a => decide ((i : Int) ∈ a.map (·.1)) && decide (j ∈ a.map (·.1))) + cs.countP (othB i O) := countP_or fun a _ z => by
        unfold othB at z ⊢
        rw [zq24x, zq64x, Bool.or_eq_true, zq24x] at z
        rcases z with ⟨z1, z2 | z2⟩
        · exact .inl (by rw [z1, z2.2]; rfl)
        · exact .inr (by rw [z1, z2]; rfl)
      have h2 : cs.countP (fun a => decide ((i : Int) ∈ a.map (·.1)) && decide (j ∈ a.map (·.1))) <= 1 := countP_one (ha.imp fun h ⟨z1, z2⟩ => by
        rw [zq24x, decide_eq_true_eq, decide_eq_true_eq] at z1 z2
        exact h i j (zq14x c) z1.1 z1.2 z2.1 z2.2)
      omega
theorem getD_set {u : List Int} {i j : Nat} {x : Int} (h : i < u.length) : (u.set i x).getD j 0 = if i = j then x else u.getD j 0 := by
 rw [zq3x]
 by_cases c : i = j
 ·subst c; rw [zq20x h, if_pos rfl]; rfl
 ·rw [zq9x c, if_neg c, <- zq3x]
theorem wr (h : HNet p n cs ws) (hi : i < n.toNat) : 0 <= ws.getD i 0 /\ ws.getD i 0 < p := by
 have := h.l
 exact h.r _ (by rw [zq3x, zq1x (by omega)]; exact zq11x _)
end
end L2
set_option maxRecDepth 100000
set_option maxHeartbeats 4000000
namespace L2
open PySem PySem.Spec PyProof.Rows
theorem LnL.app {q : Int} {R R' : List (List Int)} {T T' : List (Int × Int)} (h : LnL q R T) (h' : LnL q R' T') (hd : ∀ t ∈ T, t ∉ T') : LnL q (R ++ R') (T ++ T') := by
 refine ⟨by rw [zq30x, zq30x, h.l, h'.l], zq120x.mpr ⟨h.nd, h'.nd, fun a ha b hb z => hd a ha (z ▸ hb)⟩, fun i a t e1 e2 => ?_⟩
 have hl := h.l
 by_cases k : i < R.length
 ·rw [zq34x k] at e1
  rw [zq34x (by omega)] at e2
  exact h.e i a t e1 e2
 ·rw [zq38x (by omega)] at e1
  rw [zq38x (by omega), <- hl] at e2
  exact h'.e _ a t e1 e2
theorem LnL.block {q s : Int} {R : List (List Int)} (h : ∀ (t : Nat) r, R[t]? = some r -> LnS q s t r) : LnL q R ((List.range R.length).map fun (t : Nat) => (s, (t : Int))) := by
 refine ⟨by simp, zq76x.mpr (zq194x.imp fun h z => h (by cases z; rfl)), fun i r t e1 e2 => ?_⟩
 rw [zq6x, zq119x (zq7x.mp e1).1] at e2
 cases e2
 exact h i r e1
theorem LnS.has {q s x : Int} {R : List (List Int)} (hq : 0 < q) (hl : R.length = q.toNat) (h : ∀ (t : Nat) r, R[t]? = some r -> LnS q s t r) (x0 : 0 <= x) (x1 : x < q * q) : ∃ r ∈ R, x ∈ r := by
 have d0 : 0 <= x / q := zq89x x0 (by omega)
 have d1 : x / q < q := zq195x hq x1
 have m0 := zq21x x (show q ≠ 0 by omega)
 have m1 := zq22x x hq
 have hx := zq51x x q
 by_cases k : s = q
 ·have ht : (x / q).toNat < R.length := by omega
  have hr := h (x / q).toNat _ (zq1x ht)
  refine ⟨_, zq11x ht, ?_⟩
  have hi : (x % q).toNat < R[(x / q).toNat].length := by rw [hr.l]; omega
  have e := hr.e (x % q).toNat _ (zq1x hi)
  rw [if_pos k] at e
  have : R[(x / q).toNat][(x % q).toNat] = x := by
   rw [e, zq77x d0, zq77x m0, zq56x]; exact hx
  exact zq16x ((zq1x hi).trans (congrArg some this))
 ·obtain ⟨c, hc⟩ : ∃ c, (x % q - s * (x / q)) % q = c := ⟨_, rfl⟩
  have c0 := zq21x (x % q - s * (x / q)) (show q ≠ 0 by omega)
  have c1 := zq22x (x % q - s * (x / q)) hq
  rw [hc] at c0 c1
  have ht : c.toNat < R.length := by omega
  have hr := h c.toNat _ (zq1x ht)
  refine ⟨_, zq11x ht, ?_⟩
  have hi : (x / q).toNat < R[c.toNat].length := by rw [hr.l]; omega
  have e := hr.e (x / q).toNat _ (zq1x hi)
  have em : (s * (x / q) + c) % q = x % q := by rw [<- hc, Int.add_emod_emod, show s * (x / q) + (x % q - s * (x / q)) = x % q by omega, Int.emod_emod]
  rw [if_neg k, zq77x d0, zq77x c0, em] at e
  exact zq16x ((zq1x hi).trans (congrArg some (by rw [e, zq56x]; exact hx)))
theorem countP_rel {α β : Type} {P : α -> Bool} {Q : β -> Bool} : ∀ {A : List α} {B : List β}, A.length = B.length -> (∀ (i : Nat) a b, A[i]? = some a -> B[i]? = some b -> P a = true -> Q b = true) -> A.countP P <= B.countP Q
  | [], _, _, _ => zq37x _
  | a :: A, [], h, _ => by cases h
  | a :: A, b :: B, h, g => by
    have ih := countP_rel (A := A) (B := B) (by simpa using h) fun i x y e1 e2 => g (i + 1) x y e1 e2
    have h0 := g 0 a b rfl rfl
    rw [zq83x, zq83x]
    by_cases c : P a = true
    · rw [if_pos c, if_pos (h0 c)]; omega
    · rw [if_neg c]; omega
section
variable {n : Int} {d : Nat} {cs : List Prs} {T lot g : List Int}
structure DNet (n : Int) (d : Nat) (cs : List Prs) : Prop where
 ck : CksOk n cs
 ap : ApP cs
 dg : ∀ i : Nat, (i : Int) < n -> d <= deg cs i
theorem DNet.perm {cs' : List Prs} (h : DNet n d cs) (p : cs'.Perm cs) : DNet n d cs' := by
 refine ⟨fun prs hp => h.ck prs (p.mem_iff.mp hp), (p.pairwise_iff fun {a b} w x y hxy x1 y1 x2 y2 => w x y hxy x2 y2 x1 y1).mpr h.ap, fun i hi => ?_⟩
 have := h.dg i hi
 unfold deg at this ⊢
 rwa [p.countP_eq]
theorem DNet.ne (h : DNet n d cs) (hn : 1 <= n) (hd : 1 <= d) : cs ≠ [] := fun z => by
 have := h.dg 0 (by omega)
 rw [z] at this
 unfold deg at this
 simp at this
 omega
theorem DNet.named {R : List (List Int)} {q : Int} {K : List Int} (hK : K.Nodup) (hq : ∀ x ∈ K, 0 <= x /\ x < q * q) (hRn : ∀ r ∈ R, r.Nodup) (hA : ApS R) (hd : ∀ x : Int, 0 <= x -> x < q * q -> d <= R.countP fun r => decide (x ∈ r)) (hl : cs.length = R.length)
  (hcs : ∀ (j : Nat) prs, cs[j]? = some prs -> ∃ r, R[j]? = some r /\ (prs.map (·.1)).Perm ((r.filter fun x => decide (x ∈ K)).map fun x => (K.idxOf x : Int))) : DNet (K.length : Int) d cs := by
 have inj : ∀ x ∈ K, ∀ y ∈ K, (K.idxOf x : Int) = K.idxOf y -> x = y := fun x hx y hy e => by
  have e : K.idxOf x = K.idxOf y := by omega
  have h1 := zq196x (zq109x hx)
  have h2 := zq196x (zq109x hy)
  rw [<- h1, <- h2]
  exact List.getElem_of_eq rfl _ |>.trans (by congr 1)
 have mem : ∀ (j : Nat) prs, cs[j]? = some prs -> ∃ r, R[j]? = some r /\ ∀ y : Int, y ∈ prs.map (·.1) ↔ ∃ x ∈ r, x ∈ K /\ (K.idxOf x : Int) = y := fun j prs e => by
  obtain ⟨r, er, hp⟩ := hcs j prs e
  refine ⟨r, er, fun y => ?_⟩
  rw [hp.mem_iff, zq17x]
  constructor
  ·rintro ⟨x, hx, e⟩
   obtain ⟨h1, h2⟩ := zq27x.mp hx
   exact ⟨x, h1, of_decide_eq_true h2, e⟩
  ·rintro ⟨x, h1, h2, e⟩
   exact ⟨x, zq27x.mpr ⟨h1, decide_eq_true h2⟩, e⟩
 refine ⟨fun prs hp => ?_, zq92x.mpr fun i j hi hj hij x y hxy x1 y1 x2 y2 => ?_, fun i hi => ?_⟩
 ·obtain ⟨j, hj⟩ := zq43x hp
  obtain ⟨r, er, hpm⟩ := hcs j prs hj
  refine ⟨hpm.nodup_iff.mpr ?_, fun y hy => ?_⟩
  ·refine zq76x.mpr (List.Pairwise.imp_of_mem (fun {a b} ha hb hab z => hab (inj a ?_ b ?_ z)) ((hRn r (zq16x er)).filter _))
   ·exact of_decide_eq_true (zq27x.mp ha).2
   ·exact of_decide_eq_true (zq27x.mp hb).2
  ·obtain ⟨x, hx, rfl⟩ := zq17x.mp (hpm.mem_iff.mp hy)
   have := zq109x (of_decide_eq_true (zq27x.mp hx).2)
   omega
 ·obtain ⟨r, er, hr⟩ := mem i cs[i] (zq1x hi)
  obtain ⟨r', er', hr'⟩ := mem j cs[j] (zq1x hj)
  obtain ⟨u, u1, u2, u3⟩ := (hr x).mp x1
  obtain ⟨v, v1, v2, v3⟩ := (hr y).mp y1
  obtain ⟨u', w1, w2, w3⟩ := (hr' x).mp x2
  obtain ⟨v', z1, z2, z3⟩ := (hr' y).mp y2
  have eu := inj u u2 u' w2 (u3.trans w3.symm)
  have ev := inj v v2 v' z2 (v3.trans z3.symm)
  subst eu ev
  exact hA i j r r' u v (by omega) er er' (fun z => hxy (by rw [<- u3, <- v3, z])) u1 v1 w1 z1
 ·have hi' : i < K.length := by omega
  obtain ⟨k0, k1⟩ := hq _ (zq11x hi')
  refine zq28x (hd K[i] k0 k1) (countP_rel hl.symm fun j r prs e1 e2 hm => ?_)
  obtain ⟨r', er', hr⟩ := mem j prs e2
  rw [e1] at er'
  cases er'
  refine decide_eq_true ((hr i).mpr ⟨K[i], of_decide_eq_true hm, zq11x hi', ?_⟩)
  rw [hK.idxOf_getElem]
end
end L2
set_option maxRecDepth 100000
set_option maxHeartbeats 4000000
namespace L2
open PySem PySem.Spec PyProof.Rows
theorem filter_snocG {α : Type} (q : α -> Bool) {xs : List α} {j : Nat} {x : α} (e : xs[j]? = some x) : (xs.take (j + 1)).filter q = (xs.take j).filter q ++ if q x = true then [x] else [] := by
 rw [take_snoc e, zq104x]
 congr 1
 rw [zq188x, zq189x]
theorem filter_range (q : Nat -> Bool) (k : Nat) : (List.range (k + 1)).filter q = (List.range k).filter q ++ if q k = true then [k] else [] := by
 rw [zq197x, zq104x]
 congr 1
 rw [zq188x, zq189x]
theorem rndF_is {p : Int} {cs : List Prs} {wd : Wo} {ms : List Mend} (hup : ms.Pairwise fun a b => a.1 < b.1)
  (h1 : ∀ m ∈ ms, 0 <= m.2.1 /\ m.2.1 < cs.length /\ toldF p (cs.getD m.2.1.toNat []) 0 wd = some (m.1, m.2.2) /\ ∀ c : Nat, (c : Int) < m.2.1 -> ∀ x, toldF p (cs.getD c []) 0 wd ≠ some (m.1, x))
  (h2 : ∀ c : Nat, c < cs.length -> ∀ a x, toldF p (cs.getD c []) 0 wd = some (a, x) -> a ∈ ms.map (·.1)) : ms = rndF p cs wd := by
 have same : ∀ m m' : Mend, m.1 = m'.1 -> (0 <= m.2.1 /\ m.2.1 < cs.length /\ toldF p (cs.getD m.2.1.toNat []) 0 wd = some (m.1, m.2.2) /\ ∀ c : Nat, (c : Int) < m.2.1 -> ∀ x, toldF p (cs.getD c []) 0 wd ≠ some (m.1, x)) -> (0 <= m'.2.1 /\ m'.2.1 < cs.length /\ toldF p (cs.getD m'.2.1.toNat []) 0 wd = some (m'.1, m'.2.2) /\ ∀ c : Nat, (c : Int) < m'.2.1 -> ∀ x, toldF p (cs.getD c []) 0 wd ≠ some (m'.1, x)) -> m = m' := by
  rintro ⟨a, c, x⟩ ⟨a', c', x'⟩ e ⟨q1, q2, q3, q4⟩ ⟨r1, r2, r3, r4⟩
  dsimp only at *
  subst e
  have ec : c = c' := by
   rcases zq117x c c' with z | z | z
   ·exact absurd q3 (r4 c.toNat (by omega) x)
   ·exact z
   ·exact absurd r3 (q4 c'.toNat (by omega) x')
  subst ec
  rw [q3] at r3
  cases r3
  rfl
 refine up_uniq hup (rndF_up p cs wd) ?_
 have nd1 : ms.Nodup := hup.imp fun h z => by rw [z] at h; omega
 have nd2 : (rndF p cs wd).Nodup := (rndF_up p cs wd).imp fun h z => by rw [z] at h; omega
 refine (zq217x nd1 nd2).mpr fun m => ⟨fun hm => ?_, fun hm => ?_⟩
 ·have q := h1 m hm
  obtain ⟨m', hm', e⟩ := rndF_has (by omega) q.2.2.1
  rw [same m m' e.symm q (rndF_told hm')]
  exact hm'
 ·have q := rndF_told hm
  obtain ⟨m', hm', e⟩ := zq17x.mp (h2 m.2.1.toNat (by omega) _ _ q.2.2.1)
  rw [<- same m' m e (h1 m' hm') q]
  exact hm'
def losW (ws L : List Int) : Wo := (List.range ws.length).map fun (i : Nat) => if (i : Int) ∈ L then none else some (ws.getD i 0)
section
variable {p n : Int} {d : Nat} {cs : List Prs} {ws L : List Int}
theorem losW_len : (losW ws L).length = ws.length := by unfold losW; rw [zq0x, zq74x]
theorem losW_at {i : Nat} (hi : i < ws.length) : (losW ws L)[i]? = some (if (i : Int) ∈ L then none else some (ws.getD i 0)) := by
 unfold losW
 rw [zq6x, zq119x hi]
 rfl
theorem losW_none {i : Nat} (hi : i < ws.length) : (losW ws L)[i]? = some none ↔ (i : Int) ∈ L := by
 rw [losW_at hi]
 by_cases c : (i : Int) ∈ L
 ·rw [if_pos c]; exact ⟨fun _ => c, fun _ => rfl⟩
 ·rw [if_neg c]; exact ⟨(fun z => by cases z), fun z => absurd z c⟩
theorem losW_nil : losW ws [] = ws.map some := by
 refine zq61x fun i => ?_
 by_cases hi : i < ws.length
 ·rw [losW_at hi, if_neg (fun h => nomatch h), zq6x, zq1x hi, zq3x, zq1x hi]; rfl
 ·rw [zq40x (by rw [losW_len]; omega), zq40x (by rw [zq0x]; omega)]
theorem losW_set {x : Int} (h0 : 0 <= x) : (losW ws L).set x.toNat none = losW ws (L ++ [x]) := by
 refine zq61x fun i => ?_
 by_cases hi : i < ws.length
 ·rw [List.getElem?_set, losW_at hi, losW_at hi]
  by_cases c : x.toNat = i
  ·rw [if_pos c, if_pos (by rw [losW_len]; omega), if_pos (zq53x _ (zq8x.mpr (by omega)))]
  ·rw [if_neg c]
   have : ((i : Int) ∈ L ++ [x]) ↔ (i : Int) ∈ L := by
    rw [zq45x, zq8x]
    exact ⟨fun z => z.elim id fun z => by omega, .inl⟩
   by_cases c2 : (i : Int) ∈ L
   ·rw [if_pos c2, if_pos (this.mpr c2)]
   ·rw [if_neg c2, if_neg (fun z => c2 (this.mp z))]
 ·rw [zq40x (by rw [zq47x, losW_len]; omega), zq40x (by rw [losW_len]; omega)]
theorem losW_agree : Agree ws (losW ws L) := fun i x e => by
 have hi : i < ws.length := by have := (zq7x.mp e).1; rw [losW_len] at this; exact this
 rw [losW_at hi] at e
 by_cases c : (i : Int) ∈ L
 ·rw [if_pos c] at e; cases e
 ·rw [if_neg c, zq3x, zq1x hi] at e
  cases e
  exact zq1x hi
theorem losW_lost {prs : Prs} (h : ∀ pr ∈ prs, 0 <= pr.1 /\ pr.1 < ws.length) : lostP (losW ws L) prs = prs.filter fun pr => decide (pr.1 ∈ L) := by
 unfold lostP
 refine zq190x fun pr hp => ?_
 obtain ⟨h0, h1⟩ := h pr hp
 have hn := losW_none (ws := ws) (L := L) (i := pr.1.toNat) (by omega)
 rw [zq77x h0] at hn
 rw [zq62x, beq_iff_eq, decide_eq_true_eq]
 exact hn
theorem DNet.alone (h : DNet n d cs) (hT : LotOk n L) (hl : L.length <= d) {x : Int} (hx : x ∈ L) : ∃ prs ∈ cs, x ∈ prs.map (·.1) /\ ∀ y ∈ L, y ∈ prs.map (·.1) -> y = x := by
 obtain ⟨x0, x1⟩ := hT.rg x hx
 obtain ⟨i, rfl⟩ := zq180x x0
 have h1 := oth_count (i := i) h.ap L
 have h2 : (L.filter fun j => decide (j ≠ (i : Int))).length < L.length := by
  have a1 : (L.filter fun j => decide (j ≠ (i : Int))).length <= L.length := zq198x _ _
  have a2 : (L.filter fun j => decide (j ≠ (i : Int))).length ≠ L.length := fun z => by
   have := List.length_filter_eq_length_iff.mp z _ hx
   simp at this
  omega
 have h3 := h.dg i x1
 refine zq55x fun z => ?_
 have h4 : deg cs i <= cs.countP (othB i L) := by
  unfold deg
  refine List.countP_mono_left fun prs hp hm => ?_
  have hm := of_decide_eq_true hm
  refine zq55x fun w => z ⟨prs, hp, hm, fun y hy hyp => zq55x fun v => w ?_⟩
  unfold othB
  rw [zq24x, decide_eq_true_eq, zq172x]
  exact ⟨hm, y, hy, by rw [zq24x, decide_eq_true_eq, decide_eq_true_eq]; exact ⟨v, hyp⟩⟩
 omega
def only (cs : List Prs) (L : List Int) (x : Int) (c : Nat) : Prop := ((cs.getD c []).filter fun pr => decide (pr.1 ∈ L)).map (·.1) = [x]
def onlyB (cs : List Prs) (L : List Int) (x : Int) (c : Nat) : Bool := decide (((cs.getD c []).filter fun pr => decide (pr.1 ∈ L)).map (·.1) = [x])
theorem onlyB_iff {c : Nat} {x : Int} : onlyB cs L x c = true ↔ only cs L x c := by unfold onlyB only; exact decide_eq_true_iff
theorem only_of (hck : CksOk n cs) {c : Nat} {x : Int} {prs : Prs} (hc : cs[c]? = some prs) (hx : x ∈ L) (hm : x ∈ prs.map (·.1)) (hu : ∀ y ∈ L, y ∈ prs.map (·.1) -> y = x) : only cs L x c := by
 unfold only
 rw [zq3x, hc]
 show ((prs.filter _).map _) = _
 have nd := (hck prs (zq16x hc)).nd
 have e : (prs.filter fun pr => decide (pr.1 ∈ L)).map (·.1) = (prs.map (·.1)).filter fun y => decide (y ∈ L) := by rw [List.filter_map]; rfl
 rw [e]
 have e2 : ((prs.map (·.1)).filter fun y => decide (y ∈ L)) = (prs.map (·.1)).filter fun y => y == x := zq190x fun y hy => by
  rw [zq62x, decide_eq_true_eq, beq_iff_eq]
  exact ⟨fun z => hu y z hy, fun z => z ▸ hx⟩
 rw [e2, List.filter_beq, nd.count, if_pos hm]
 rfl
theorem only_told {c : Nat} {x : Int} (hN : NetQ p cs ws.length) (hr : ∀ x ∈ ws, 0 <= x /\ x < p) (ht : ∀ prs ∈ cs, dueSum prs (ws.map some) % p = 0) (hc : c < cs.length) : (only cs L x c ↔ toldF p (cs.getD c []) 0 (losW ws L) = some (x, ws.getD x.toNat 0)) /\ ∀ y, toldF p (cs.getD c []) 0 (losW ws L) = some (x, y) -> only cs L x c := by
 obtain ⟨prs, hprs⟩ : ∃ prs, cs[c]? = some prs := ⟨_, zq1x hc⟩
 have hg : cs.getD c [] = prs := by rw [zq3x, hprs]; rfl
 have hm := zq16x hprs
 obtain ⟨g3, g4, g5⟩ := hN.2.2.2 prs hm
 have hrg : ∀ pr ∈ prs, 0 <= pr.1 /\ pr.1 < ws.length := fun pr h => ⟨(g4 pr h).1, (g4 pr h).2.1⟩
 have key : ∀ y, toldF p (cs.getD c []) 0 (losW ws L) = some (x, y) -> only cs L x c := fun y hy => by
  rw [hg] at hy
  obtain ⟨pr, e1, e2, _⟩ := toldF_one hy
  rw [losW_lost hrg] at e1
  unfold only
  rw [hg, e1, <- e2]
  rfl
 refine ⟨⟨fun ho => ?_, fun h => key _ h⟩, key⟩
 unfold only at ho
 rw [hg] at ho ⊢
 obtain ⟨pr, e1, e2⟩ : ∃ pr, (prs.filter fun pr => decide (pr.1 ∈ L)) = [pr] /\ pr.1 = x := by
  generalize (prs.filter fun pr => decide (pr.1 ∈ L)) = r at ho
  match r, ho with
  | [pr], ho => exact ⟨pr, rfl, by simpa using ho⟩
 rw [<- losW_lost (ws := ws) hrg] at e1
 have hprm : pr ∈ prs := (lostP_mem (wd := losW ws L) (by rw [e1]; exact zq8x.mpr rfl)).1
 have hd := dueSum_lost (os := ws) (wd := losW ws L) losW_len losW_agree (prs := prs) fun q hq => by rw [losW_len]; exact hrg q hq
 rw [e1] at hd
 simp only [zq4x, zq98x, zq41x, List.sum_nil, zq183x] at hd
 have k2 : pr.1.toNat < ws.length := by have := hrg pr hprm; omega
 have ho2 := hr _ (zq11x k2)
 have eg : ws.getD pr.1.toNat 0 = ws[pr.1.toNat] := by rw [zq3x, zq1x k2]; rfl
 rw [eg] at hd
 have hz := ht prs hm
 have es : ws[pr.1.toNat] = sol p pr.2 (0 - dueSum prs (losW ws L) % p) := by
  refine sol_eq hN.1 (g5 pr hprm) ho2.1 ho2.2 ?_
  have d1 := zq51x (dueSum prs (losW ws L)) p
  have d2 := zq51x (dueSum prs (ws.map some)) p
  generalize dueSum prs (losW ws L) = S at *
  generalize dueSum prs (ws.map some) = T at *
  generalize ws[pr.1.toNat] = o at *
  refine ⟨T / p - S / p, ?_⟩
  rw [zq66x]
  generalize p * (T / p) = u at *
  generalize p * (S / p) = v at *
  omega
 unfold toldF
 rw [e1]
 show some (pr.1, _) = _
 rw [<- es, <- eg, e2]
theorem only_least {ns : List Int} {x M : Int} {k : Nat} (hns : ns = ((List.range k).filter fun c => onlyB cs L x c).map fun (c : Nat) => (c : Int)) (hM : M ∈ ns) (hle : ∀ a ∈ ns, M <= a) : ∃ c : Nat, M = c /\ c < k /\ only cs L x c /\ ∀ c' < c, ¬ only cs L x c' := by
 subst hns
 obtain ⟨c, hc, rfl⟩ := zq17x.mp hM
 obtain ⟨h1, h2⟩ := zq27x.mp hc
 have h1 := zq29x.mp h1
 refine ⟨c, rfl, h1, onlyB_iff.mp h2, fun c' hc' ho => ?_⟩
 have := hle c' (zq17x.mpr ⟨c', zq27x.mpr ⟨zq29x.mpr (by omega), onlyB_iff.mpr ho⟩, rfl⟩)
 omega
theorem few_round {ms : List Mend} (h : DNet n d cs) (hN : NetQ p cs ws.length) (hr : ∀ x ∈ ws, 0 <= x /\ x < p) (ht : ∀ prs ∈ cs, dueSum prs (ws.map some) % p = 0) (hn : n = ws.length)
  (hL : LotOk n L) (hup : L.Pairwise (· < ·)) (hml : ms.length = L.length) (hms : ∀ (i : Nat) m, ms[i]? = some m -> ∃ x, L[i]? = some x /\ m.1 = x /\ m.2.2 = ws.getD x.toNat 0 /\ ∃ c : Nat, m.2.1 = c /\ c < cs.length /\ only cs L x c /\ ∀ c' < c, ¬ only cs L x c') : ms = rndF p cs (losW ws L) := by
 have e1 : ms.map (·.1) = L := by
  refine zq61x fun i => ?_
  rw [zq6x]
  by_cases hi : i < ms.length
  ·obtain ⟨x, hx, hm, _⟩ := hms i _ (zq1x hi)
   rw [zq1x hi, hx]
   exact congrArg some hm
  ·rw [zq40x (by omega), zq40x (by omega)]
   rfl
 refine rndF_is ?_ (fun m hm => ?_) fun c hc a x hx => ?_
 ·rw [<- zq76x (f := fun m : Mend => m.1) (R := (· < ·)), e1]; exact hup
 ·obtain ⟨i, hi⟩ := zq43x hm
  obtain ⟨x, hx, q1, q2, c, q3, q4, q5, q6⟩ := hms i m hi
  rw [q3]
  refine ⟨by omega, by omega, ?_, fun c' hc' y hy => ?_⟩
  ·rw [q1, q2]
   exact (only_told hN hr ht q4).1.mp q5
  ·rw [q1] at hy
   exact q6 c' (by omega) ((only_told hN hr ht (by omega)).2 y hy)
 ·rw [e1]
  have := (only_told hN hr ht hc).2 x hx
  unfold only at this
  have hm : a ∈ ((cs.getD c []).filter fun pr => decide (pr.1 ∈ L)).map (·.1) := by rw [this]; exact zq8x.mpr rfl
  obtain ⟨pr, h1, rfl⟩ := zq17x.mp hm
  exact of_decide_eq_true (zq27x.mp h1).2
theorem cnt_losW (hL : LotOk n L) (hn : n = ws.length) : cnt (losW ws L) = L.length := by
 unfold cnt losW
 rw [List.countP_map]
 have e1 : (List.range ws.length).countP ((fun o : Option Int => o.isNone) ∘ fun (i : Nat) => if (i : Int) ∈ L then none else some (ws.getD i 0)) = (List.range ws.length).countP fun (i : Nat) => decide ((i : Int) ∈ L) := by
  refine List.countP_congr fun i _ => ?_
  show (Option.isNone (if (i : Int) ∈ L then none else some (ws.getD i 0)) = true) ↔ _
  by_cases c : (i : Int) ∈ L
  ·rw [if_pos c]; simp [c]
  ·rw [if_neg c]; simp [c]
 rw [e1, List.countP_eq_length_filter]
 have hp : ((List.range ws.length).filter fun (i : Nat) => decide ((i : Int) ∈ L)).Perm (L.map Int.toNat) := by
  refine (zq217x (zq194x.filter _) ?_).mpr fun i => ?_
  ·exact zq76x.mpr (hL.nd.imp_of_mem fun {a b} ha hb hab z => by have := hL.rg a ha; have := hL.rg b hb; omega)
  ·rw [zq27x, zq29x, decide_eq_true_eq, zq17x]
   constructor
   ·rintro ⟨_, h⟩; exact ⟨i, h, by omega⟩
   ·rintro ⟨x, hx, rfl⟩
    have := hL.rg x hx
    exact ⟨by omega, by rw [zq77x this.1]; exact hx⟩
 rw [hp.length_eq, zq0x]
theorem few_put (hN : NetQ p cs ws.length) (hr : ∀ x ∈ ws, 0 <= x /\ x < p) (ht : ∀ prs ∈ cs, dueSum prs (ws.map some) % p = 0) (hn : n = ws.length) (hL : LotOk n L) (hl : (rndF p cs (losW ws L)).length = L.length) : putAll (losW ws L) (rndF p cs (losW ws L)) = ws.map some := by
  have p2 := hN.1.1
  have hN' : NetQ p cs (losW ws L).length := by rw [losW_len]; exact hN
  have h1 := cnt_put (p := p) (cs := cs) (wd := losW ws L) (by omega) hN'.rg
  rw [cnt_losW hL hn, hl] at h1
  have hA := run_true hN' losW_len hr ht losW_agree (rnd_run (by omega) hN'.rg) _ (zq5x _)
  rw [zq57x] at hA
  have hz : cnt (putAll (losW ws L) (rndF p cs (losW ws L))) = 0 := by omega
  have hle : (putAll (losW ws L) (rndF p cs (losW ws L))).length = ws.length := by rw [putAll_len, losW_len]
  generalize putAll (losW ws L) (rndF p cs (losW ws L)) = w at *
  refine zq61x fun i => ?_
  by_cases hi : i < ws.length
  · have hi2 : i < w.length := by omega
    cases e : w[i] with
    | none => exact absurd (by rw [zq1x hi2, e]) (cnt_zero hz i)
    | some x =>
      have := hA i x (by rw [zq1x hi2, e])
      rw [zq1x hi2, e, zq6x, this]
      rfl
  · rw [zq40x (by omega), zq40x (by rw [zq0x]; omega)]
theorem full_round (hN : NetQ p cs ws.length) (hn : n = ws.length) : rndF p cs (ws.map some) = [] := by
  have p2 := hN.1.1
  have hN' : NetQ p cs (ws.map some).length := by rw [zq0x]; exact hN
  cases e : rndF p cs (ws.map some) with
  | nil => rfl
  | cons m ms =>
    have h := rndF_lost (p := p) (cs := cs) (wd := ws.map some) (by omega) (m := m) (by rw [e]; exact zq19x) hN'.rg
    have h3 := h.2.2.1
    rw [zq6x] at h3
    cases z : ws[m.1.toNat]? with
    | none => rw [z] at h3; cases h3
    | some x => rw [z] at h3; cases h3
theorem few_end (hN : NetQ p cs ws.length) (hr : ∀ x ∈ ws, 0 <= x /\ x < p) (ht : ∀ prs ∈ cs, dueSum prs (ws.map some) % p = 0) (hn : n = ws.length) (hL : LotOk n L) (hl : (rndF p cs (losW ws L)).length = L.length) : endW p cs (losW ws L) = ws.map some /\ mndF p cs (losW ws L) = if L = [] then [] else [rndF p cs (losW ws L)] := by
 have p2 := hN.1.1
 have hN' : NetQ p cs (losW ws L).length := by rw [losW_len]; exact hN
 by_cases c : L = []
 ·subst c
  have e := full_round (n := n) hN hn
  rw [losW_nil, if_pos rfl]
  exact ⟨endW_nil e, mndF_nil e⟩
 ·have hne : rndF p cs (losW ws L) ≠ [] := fun z => by
   rw [z] at hl
   exact c (zq113x.mp hl.symm)
  have e := full_round (n := n) hN hn
  have ep := few_put hN hr ht hn hL hl
  rw [if_neg c, endW_cons (by omega) hN'.rg hne, mndF_cons (by omega) hN'.rg hne, ep]
  exact ⟨endW_nil e, by rw [mndF_nil e]⟩
end
end L2
set_option maxRecDepth 100000
set_option maxHeartbeats 4000000
set_option maxRecDepth 100000
set_option maxHeartbeats 4000000
namespace L2
open PySem PySem.Spec PyProof.Rows
section
variable {prog : Program} {w : World} {A : Around} {E : Value -> Shared -> Prop} {h : Heap} {g : Array GenState} {d : Drawn} {t : Nat} {os : OsState} {a : Addr} {o : Obj} {K : PySem.W.Frag}
 {nm q : Str} {C N : Addr} {bs bm : List Value} {hdct : Bool} {sn : List Str} {sub : List Value} {ab : Bool} {col : Option Bool} {dd : Option Addr} {k0 k1 k2 k3 k5 : Option Value} {newId : String}
end
end L2
set_option maxRecDepth 100000
set_option maxHeartbeats 8000000
namespace K28
open PySem L2
def top (i : Nat) : Stmt := PySem.Challenge.pw_fewchecks_k28_whole_few_lost_come_back.main.body.getD i (.Pass ⟨0, 0, 0, 0⟩)
abbrev sWall : Stmt := top 0
abbrev sOver : Stmt := top 2
abbrev sInverse : Stmt := top 3
abbrev sTotal : Stmt := top 4
abbrev sAskPlace : Stmt := top 9
abbrev sLostOf : Stmt := top 10
abbrev sToldBy : Stmt := top 12
abbrev sToldFor : Stmt := top 13
abbrev sRoundOf : Stmt := top 14
abbrev sCopied : Stmt := top 15
abbrev sMended : Stmt := top 17
abbrev sLawBag : Stmt := top 19
abbrev sLawDraw : Stmt := top 20
abbrev sLawPrimeFrom : Stmt := top 21
abbrev sLawPrime : Stmt := top 22
abbrev sLawOver : Stmt := top 23
abbrev sLawFactor : Stmt := top 24
abbrev sLawTurned : Stmt := top 25
abbrev sLawCopy : Stmt := top 26
abbrev sLawAlike : Stmt := top 27
abbrev sLawDirection : Stmt := top 28
abbrev sLawEven : Stmt := top 29
abbrev sLawWord : Stmt := top 30
abbrev sLawFactors : Stmt := top 31
abbrev sLawLinesNet : Stmt := top 32
abbrev sLawLosses : Stmt := top 33
abbrev sLawDue : Stmt := top 34
abbrev sLaw : Stmt := top 35
abbrev sMenderInit : Stmt := inClass (top 16) 0
abbrev sMenderStep : Stmt := inClass (top 16) 1
abbrev sMenderMend : Stmt := inClass (top 16) 2
abbrev sMenderLose : Stmt := inClass (top 16) 3
abbrev sMenderWord : Stmt := inClass (top 16) 5
abbrev sMenderLost : Stmt := inClass (top 16) 6
local macro_rules | `(tactic| walk_at "d0") => `(tactic| first | omega | assumption | decide | (unfold Sm at *; omega) | (unfold CMul; omega) | (unfold CPow; decide) | (unfold CPow; omega))
local macro_rules | `(tactic| walk_at "ds") => `(tactic| ((try dsimp only); first | walk_at "d0" | (refine And.intro ?_ ?_ <;> walk_at "d0") | (refine Or.inl ?_; walk_at "d0") | (refine Or.inr (And.intro ?_ ?_) <;> walk_at "d0")))
local macro_rules | `(tactic| walk_at "s1") => `(tactic| with_reducible first
 | refine R.seq ?_ | refine R.asg ?_ | refine R.setC ?_ | refine R.ifS ?_ | refine R.ret ?_ | refine R.next ?_ | refine R.c ?_ | refine R.op ?_ | refine R.test ?_ | refine R.bl ?_ | refine R.tru ?_
 | refine R.and ?_ | refine R.notV ?_ | refine R.cb ?_ | refine R.call ?_ | refine R.nil ?_ | refine R.cons ?_
 | refine R.lst ?_ | refine R.sl ?_ | refine R.noPart ?_ | refine R.part ?_ | refine R.tyInt ?_ | refine R.gname ?_ | refine R.gsub ?_ | refine R.gcons ?_ | refine R.gnil ?_ | refine R.noTest ?_
 | refine R.rI0 ?_ | refine R.eqI ?_ | refine R.neI ?_ | refine R.eqNI ?_ | refine R.eqIN ?_ | refine R.isI ?_ | refine R.notI ?_ | refine R.notN ?_ | refine R.bits ?_
 | refine iteT ?_ | refine iteF ?_ | refine R.nilE ?_ | refine R.isiII ?_ | refine R.isiIB ?_ | refine R.rng1 ?_ | refine R.rng2 ?_ | refine R.iL ?_ | refine R.for_ ?_ | refine R.comp ?_)
local macro_rules | `(tactic| walk_at "st") => `(tactic| repeat (first
 | walk_at "s1"
 | ((with_reducible refine' R.var ?h0 ?_); (case h0 => rfl))
 | ((with_reducible refine' R.rI ?h1 ?_); (case h1 => walk_at "ds"))
 | ((with_reducible refine' R.ixS (o := .lst []) ?h1 ?_); (case h1 => rfl))
 | ((with_reducible refine' R.ixM ?h0 ?h1 ?_); (case h0 => assumption); (case h1 => rfl))
 | ((with_reducible refine' R.ixTM ?h0 ?h1 ?_); (case h0 => assumption); (case h1 => rfl))
 | ((with_reducible refine' R.setS ?h1 ?_); (case h1 => rfl))
 | ((with_reducible refine' R.setM ?h0 ?h1 ?_); (case h0 => assumption); (case h1 => rfl))
 | ((with_reducible refine' R.lenM ?h0 ?_); (case h0 => assumption))
 | ((with_reducible refine' R.lenL ?h0 ?_); (case h0 => assumption))
 | ((with_reducible refine' R.rng1I ?h0 ?h1 ?_); (case h0 => walk_at "ds"); (case h1 => walk_at "ds"))
 | ((with_reducible refine' R.rng2I ?h0 ?_); (case h0 => walk_at "ds"))
 | ((with_reducible refine' R.iL1 ?h0 ?_); (case h0 => assumption))
 | ((with_reducible refine' R.iteP ?h0 ?_); (case h0 => first | exact R.dT (by omega) | exact R.dTn (by omega) | decide))
 | ((with_reducible refine' R.iteN ?h0 ?_); (case h0 => first | exact R.dF (by omega) | exact R.dFn (by omega) | decide))
 | (with_reducible refine R.min2 ?_) | (with_reducible refine R.abs1 ?_) | (with_reducible refine R.partI ?_)))
local macro_rules | `(tactic| walk_at "fv") => `(tactic| first | exact Or.inl rfl | exact Or.inr (Or.inl rfl) | exact Or.inr (Or.inr (Or.inl rfl)) | exact Or.inr (Or.inr (Or.inr (Or.inl rfl))) | exact Or.inr (Or.inr (Or.inr (Or.inr rfl))))
local macro_rules | `(tactic| walk_at "d1") => `(tactic| with_reducible first
 | refine Sv.seq ?_ | refine Sv.asgNil ?_ | refine Sv.asg ?_ | refine Sv.setCF ?_ | refine Sv.ifS ?_ | refine Sv.ret ?_ | refine Sv.next ?_ | refine Sv.retN ?_
 | refine Ev.int ?_ | refine Ev.bl ?_ | refine Ev.non ?_ | refine Ev.rI0 ?_ | refine Ev.rB0 ?_ | refine Ev.rI ?_ | refine Ev.rU ?_ | refine Ev.eq ?_ | refine Ev.ne ?_ | refine Ev.is ?_ | refine Ev.isNot ?_ | refine Ev.eqD ?_ | refine Ev.inI ?_ | refine Ev.primeFrom ?_
 | refine Ev.andV ?_ | refine Ev.orV ?_ | refine Ev.notV ?_ | refine Ev.ifE ?_ | refine Tv.test ?_ | refine Tv.and ?_ | refine Tv.or ?_ | refine Tv.not ?_ | refine Tv.noTest ?_ | refine Tv.truB ?_
 | refine Ev.tupF ?_ | refine Ev.lst ?_ | refine Av.nil ?_ | refine Av.cons ?_ | refine Av.cints ?_ | refine Ov.none ?_ | refine Ov.some ?_ | refine Ev.min2 ?_ | refine Ev.max2 ?_ | refine Ev.intB ?_
 | refine R.di ?_ | refine R.db ?_ | refine R.dl ?_ | refine R.dt ?_ | refine R.dll ?_ | refine R.dlt ?_ | refine R.eqii ?_ | refine R.eqni ?_ | refine R.eqin ?_ | refine R.eqnn ?_ | refine R.eqbb ?_
 | refine Gv.nameI ?_ | refine Gv.nameB ?_ | refine Gv.nameN ?_ | refine Gv.nameT ?_ | refine Gv.nameF ?_ | refine Gv.snil ?_ | refine Gv.scons ?_ | refine iteT ?_ | refine iteF ?_)
local macro_rules | `(tactic| walk_at "dt") => `(tactic| repeat (first
 | ((with_reducible refine' Sv.retOwn ?h0 ?_); (case h0 => rfl))
 | ((with_reducible refine' Sv.setOwn ?h0 ?_); (case h0 => rfl))
 | walk_at "d1"
 | ((with_reducible refine' Ev.var ?h0 ?_); (case h0 => rfl))
 | ((with_reducible refine' Ev.draw ?h0 ?_); (case h0 => rfl))
 | ((with_reducible refine' Ev.ixOwn ?h0 ?_); (case h0 => rfl))
 | ((with_reducible refine' Ev.lenOwn ?h0 ?_); (case h0 => rfl))
 | ((with_reducible refine' Ev.listOwn ?h0 ?_); (case h0 => rfl))
 | ((with_reducible refine' Ev.slOwn ?h0 ?_); (case h0 => rfl))
 | ((with_reducible refine' Sv.append ?h0 ?_); (case h0 => rfl))
 | ((with_reducible refine' Sv.setOwn ?h0 ?_); (case h0 => rfl))
 | ((with_reducible refine' Sv.retOwn ?h0 ?_); (case h0 => rfl))
 | ((with_reducible refine' Gv.tup ?h0 ?_); (case h0 => rfl))
 | ((with_reducible refine' R.at_ ?h0 ?_); (case h0 => first | rfl | assumption))
 | (with_reducible refine Ev.ixL ?_) | (with_reducible refine Ev.ixT ?_) | (with_reducible refine Ev.listOf ?_) | (with_reducible refine Ev.sl ?_) | (with_reducible refine Ev.cat ?_) | (with_reducible refine Ev.lenS ?_)
 | ((with_reducible refine' Ev.isi ?h0 ?_); (case h0 => walk_at "fv"))
 | ((with_reducible refine' Ev.isi2 ?h0 ?h1 ?_); (case h0 => walk_at "fv"); (case h1 => walk_at "fv"))
 | (with_reducible refine Ev.all ?_) | (with_reducible refine Ev.sum ?_) | (with_reducible refine Ev.ixS ?_)
 | ((with_reducible refine' R.lnil ?_))
 | ((with_reducible refine' R.iteP ?h0 ?_); (case h0 => first | exact R.dT (by omega) | exact R.dTn (by omega) | rfl))
 | ((with_reducible refine' R.iteN ?h0 ?_); (case h0 => first | exact R.dF (by omega) | exact R.dFn (by omega) | exact zq13x))
 | ((with_reducible refine' R.cnd ?h0 ?_); (case h0 => first | walk_at "ds" | exact zq218x rfl))))
local macro_rules | `(tactic| walk_at "wk") => `(tactic| repeat (first | exact Wk.nil | apply Wk.no | apply Wk.eq))
section
variable {P : Program} {w : World} {K : PySem.W.Frag} {mg : Str -> Option Value} {base : Heap} {f : Addr} {fd : FuncData}
theorem scInverse : FnScope ["p", "b", "last_rest", "last_times", "rest", "times", "quotient", "next_rest", "next_times"] ["p", "b"] (defScope sInverse) := ⟨rfl, rfl, rfl, by decide +kernel, rfl, by decide +kernel, by decide +kernel⟩
theorem ok_inverse (F : Fun K "inverse" "inverse" sInverse f fd)     :
  FnOk P w K mg base CX0 1 f fd ["p", "b"] spInverse := by
 refine F.ok scInverse (fun vs H Q E h => ?_) (fun cdv A outer s H vs Q E hr h => ?_)
 ·obtain ⟨p, b, rfl, hp, hp3, hb, q⟩ := h
  rfl
 obtain ⟨p, b, rfl, hp, hp3, hb, q⟩ := h
 refine ⟨_, (@pss_cons _ _ _ _ _ (@ps_set _ _ (2) _ _ _ _ scInverse.nd rfl (Or.inl rfl) (pv 0) (by rfl) (by first | exact .inl rfl | exact .inr rfl | assumption)) (@pss_cons _ _ _ _ _ (@ps_set _ _ (3) _ _ _ _ scInverse.nd rfl (Or.inl rfl) pe_int (by rfl) (by first | exact .inl rfl | exact .inr rfl | assumption)) (@pss_cons _ _ _ _ _ (@ps_set _ _ (4) _ _ _ _ scInverse.nd rfl (Or.inl rfl) (@pe_op _ _ _ _ _ _ _ _ op_mod (pv 1) (pv 0)) (by rfl) (by first | exact .inl rfl | exact .inr rfl | assumption)) (@pss_cons _ _ _ _ _ (@ps_set _ _ (5) _ _ _ _ scInverse.nd rfl (Or.inl rfl) pe_int (by rfl) (by first | exact .inl rfl | exact .inr rfl | assumption)) (@pss_cons _ _ _ _ _ (@ps_while _ _ _ _ _ _ zq44x (@pt_cmpR _ _ _ _ _ _ _ _ op_ne (pv 4) pe_int (nomark _)) (@pss_cons _ _ _ _ _ (@ps_set _ _ (6) _ _ _ _ scInverse.nd rfl (Or.inl rfl) (@pe_op _ _ _ _ _ _ _ _ op_fdivS (pv 2) (pv 4)) (by rfl) (by first | exact .inl rfl | exact .inr rfl | assumption)) (@pss_cons _ _ _ _ _ (@ps_set _ _ (7) _ _ _ _ scInverse.nd rfl (Or.inl rfl) (@pe_op _ _ _ _ _ _ _ _ op_sub (pv 2) (@pe_op _ _ _ _ _ _ _ _ op_mulA (pv 6) (pv 4))) (by rfl) (by first | exact .inl rfl | exact .inr rfl | assumption)) (@pss_cons _ _ _ _ _ (@ps_set _ _ (8) _ _ _ _ scInverse.nd rfl (Or.inl rfl) (@pe_op _ _ _ _ _ _ _ _ op_sub (pv 3) (@pe_op _ _ _ _ _ _ _ _ op_mulA (pv 6) (pv 5))) (by rfl) (by first | exact .inl rfl | exact .inr rfl | assumption)) (@pss_cons _ _ _ _ _ (@ps_set _ _ (2) _ _ _ _ scInverse.nd rfl (Or.inl rfl) (pv 4) (by rfl) (by first | exact .inl rfl | exact .inr rfl | assumption)) (@pss_cons _ _ _ _ _ (@ps_set _ _ (3) _ _ _ _ scInverse.nd rfl (Or.inl rfl) (pv 5) (by rfl) (by first | exact .inl rfl | exact .inr rfl | assumption)) (@pss_cons _ _ _ _ _ (@ps_set _ _ (4) _ _ _ _ scInverse.nd rfl (Or.inl rfl) (pv 7) (by rfl) (by first | exact .inl rfl | exact .inr rfl | assumption)) (@pss_one _ _ _ (@ps_set _ _ (5) _ _ _ _ scInverse.nd rfl (Or.inl rfl) (pv 8) (by rfl) (by first | exact .inl rfl | exact .inr rfl | assumption)))))))))) (@pss_one _ _ _ (@ps_ret _ _ _ _ (@pe_op _ _ _ _ _ _ _ _ op_mod (pv 3) (pv 0))))))))), ?_⟩
 have hp2 := hp.1
 walk_at "st"
 refine while_by (fun σ H1 => H1 = H /\ ∃ (L lt r t : Int) (x6 x7 x8 : Option V), σ = [some (.int p), some (.int b), some (.int L), some (.int lt), some (.int r), some (.int t), x6, x7, x8] /\ Eu p b L lt r t) (fun (σ : St) (_ : Hp) => match σ[4]? with | some (some (V.int r)) => r.toNat | _ => 0) ⟨rfl, _, _, _, _, _, _, _, rfl, Eu.start hp2⟩ ?_ ?_
 ·rintro σ H1 ⟨rfl, L, lt, r, t, x6, x7, x8, rfl, E⟩
  obtain ⟨t1, t2⟩ := E.tb
  have e1 := E.l0
  have e2 := E.r0
  have e3 := E.lp
  have e4 := E.rp
  walk_at "st"
  refine ite2 (fun c => ?_) (fun c => ?_)
  ·have c : r ≠ 0 := of_decide_eq_true c
   have hr : 0 < r := by omega
   have q1 : 0 <= L / r := zq89x (by omega) (by omega)
   have q2 : L / r <= L := zq199x _ (by omega)
   obtain ⟨N1, N2⟩ := E.next hr
   walk_at "st"
   refine ⟨⟨rfl, _, _, _, _, _, _, _, rfl, N1⟩, ?_⟩
   show (L - L / r * r).toNat < r.toNat
   omega
  ·have c : r = 0 := by simpa using c
   subst c
   walk_at "st"
   exact q _ (zq21x _ (by omega)) (zq22x _ (by omega)) (E.fin hp hb)
 ·exact fun σ H Q Q' h ⟨v, e, s, k, ek, z⟩ => ⟨v, e, s, k, ek, h _ _ z⟩
theorem scOver : FnScope ["p", "a", "b"] ["p", "a", "b"] (defScope sOver) := ⟨rfl, rfl, rfl, by decide +kernel, rfl, by decide +kernel, by decide +kernel⟩
theorem ok_over (F : Fun K "over" "over" sOver f fd)  (c_inverse : Callee P w K mg base "inverse" 1 ["p", "b"] spInverse)   :
  FnOk P w K mg base CX0 2 f fd ["p", "a", "b"] spOver := by
 refine F.ok scOver (fun vs H Q E h => ?_) (fun cdv A outer s H vs Q E hr h => ?_)
 ·obtain ⟨p, a, b, rfl, hp, hp3, hb, a1, a2, q⟩ := h
  rfl
 obtain ⟨p, a, b, rfl, hp, hp3, hb, a1, a2, q⟩ := h
 refine ⟨_, (@pss_one _ _ _ (@ps_ret _ _ _ _ (@pe_op _ _ _ _ _ _ _ _ op_mod (@pe_op _ _ _ _ _ _ _ _ op_mulA (pv 1) (@pe_callC _ _ _ _ _ _ _ _ _ _ c_inverse (hr.mono (by decide)) (@pa_cons _ _ _ _ _ (pv 0) (@pa_cons _ _ _ _ _ (pv 2) pa_nil rfl) rfl) (by rfl) (by decide) (by rfl) (by rfl))) (pv 0)))), ?_⟩
 have hp2 := hp.1
 walk_at "st"
 refine ⟨p, b, rfl, hp, hp3, hb, fun u u1 u2 ⟨k, hk⟩ => ?_⟩
 walk_at "st"
 refine q _ (zq21x _ (by omega)) (zq22x _ (by omega)) ⟨a * k - a * u / p * b, ?_⟩
 have e := zq51x (a * u) p
 have e2 : a * u % p = a * u - p * (a * u / p) := by omega
 have e3 : b * (a * u) = a * (u * b) := by rw [zq56x b, zq73x]
 rw [e2, zq66x, e3, hk, zq102x, zq152x, zq66x, <- zq73x a p k, zq56x a p, zq73x p a k, zq56x b (p * _), zq73x p]
 omega
theorem scTotal : FnScope ["p", "pairs", "word", "reached", "place", "factor"] ["p", "pairs", "word"] (defScope sTotal) := ⟨rfl, rfl, rfl, by decide +kernel, rfl, by decide +kernel, by decide +kernel⟩
theorem ok_total (F : Fun K "total" "total" sTotal f fd)     :
    FnOk P w K mg base CX0 1 f fd ["p", "pairs", "word"] spTotal := by
  refine F.ok scTotal (fun vs H Q E h => ?_) (fun cdv A outer s H vs Q E hr h => ?_)
  · obtain ⟨nb, p, va, vc, prs, wd, rfl, hA, hC, hp, h1, h2, q⟩ := h
    rfl
  obtain ⟨nb, p, va, vc, prs, wd, rfl, hA, hC, hp, h1, h2, q⟩ := h
  refine ⟨_, (@pss_cons _ _ _ _ _ (@ps_set _ _ (3) _ _ _ _ scTotal.nd rfl (Or.inl rfl) pe_int (by rfl) (by first | exact .inl rfl | exact .inr rfl | assumption)) (@pss_cons _ _ _ _ _ (@ps_for _ _ _ _ _ _ _ _ zq44x rfl (pi_listK (K := K) rfl (pv 1)) (pg_tup rfl (@pgs_cons _ _ _ _ _ (pg_name (i := 4) scTotal.nd rfl (Or.inl rfl)) (@pgs_cons _ _ _ _ _ (pg_name (i := 5) scTotal.nd rfl (Or.inl rfl)) pgs_nil (by rfl)) (by rfl))) (@pss_one _ _ _ (@ps_if _ _ _ _ _ _ _ _ (@pt_cmpR _ _ _ _ _ _ _ _ op_notM (@pe_ix _ _ _ _ _ _ _ ix_list (pv 2) (pv 4) (fun _ _ => rfl)) pe_non (nomark _)) (@pss_one _ _ _ (@ps_set _ _ (3) _ _ _ _ scTotal.nd rfl (Or.inl rfl) (@pe_op _ _ _ _ _ _ _ _ op_mod (@pe_op _ _ _ _ _ _ _ _ op_add (pv 3) (@pe_op _ _ _ _ _ _ _ _ op_mulA (pv 5) (@pe_ix _ _ _ _ _ _ _ ix_list (pv 2) (pv 4) (fun _ _ => rfl)))) (pv 0)) (by rfl) (by first | exact .inl rfl | exact .inr rfl | assumption))) pss_nil)) (by intro _; rfl)) (@pss_one _ _ _ (@ps_ret _ _ _ _ (pv 3))))), ?_⟩
  obtain ⟨a, xs, rfl, na, ha, da⟩ := hA.ofL
  obtain ⟨c, ws, rfl, nc, hc, dc⟩ := hC.ofL
  have hxl := da.length
  rw [zq0x] at hxl
  have ew := isDs_opt dc
  subst ew
  walk_at "st"
  refine R.iL1 (SqL.of ha) ?_
  refine for_list (xs := xs) (fun i σ H1 => H1 = H /\ ∃ (r : Int) (x y : Option V), σ = [some (.int p), some (.ref a), some (.ref c), some (.int r), x, y] /\ r = dueSum (prs.take i) wd % p) ⟨rfl, 0, none, none, rfl, by simp [dueSum]⟩ ?_ ?_ ?_
  · rintro i σ H1 hi ⟨rfl, _⟩
    exact SqL.of ha
  · rintro i x σ H1 hx ⟨rfl, r, y, z, rfl, hr⟩
    have hi : i < prs.length := by have := (zq7x.mp hx).1; omega
    obtain ⟨x', hx', dx⟩ := da.get (i := i) (by rw [zq6x, zq1x hi]; rfl)
    rw [hx] at hx'; cases hx'
    obtain ⟨t, rfl, nt, ht⟩ := isD_pair dx
    obtain ⟨g1, g2, g3⟩ := h1 _ (zq11x hi)
    have hk : prs[i].fst.toNat < wd.length := by omega
    have hat : atI (wd.map optV) prs[i].fst = some (optV wd[prs[i].fst.toNat]) := atI_some g1 (by rw [zq6x, zq1x hk]; rfl)
    have htm : termOf wd prs[i] = match wd[prs[i].fst.toNat] with | some x => prs[i].snd * x | none => 0 := by
      unfold termOf
      rw [zq1x hk]
      cases wd[prs[i].fst.toNat] <;> rfl
    have hs2 : ∀ x, wd[prs[i].fst.toNat] = some x -> Sm x := fun x e => h2 x (by rw [<- e]; exact zq11x hk)
    have hd := dueSum_snoc (wd := wd) hi
    refine R.gtup (SqT.of ht) rfl ?_
    walk_at "st"
    refine R.ixM hc hat ?_
    walk_at "st"
    generalize wd[prs[i].fst.toNat] = o at hat htm hs2 ⊢
    cases o with
    | none =>
      refine R.notN ?_
      walk_at "st"
      refine ⟨rfl, _, _, _, rfl, ?_⟩
      rw [hd, htm, hr, zq183x]
    | some x =>
      have hsx := hs2 x rfl
      refine R.notI ?_
      walk_at "st"
      refine R.ixM hc hat ?_
      refine R.rI (Or.inr ⟨g3, hsx⟩) ?_
      walk_at "st"
      refine ⟨rfl, _, _, _, rfl, ?_⟩
      rw [hd, htm, hr, Int.emod_add_emod]
  · rintro σ H1 ⟨rfl, r, x, y, rfl, hr⟩
    walk_at "st"
    rw [hxl, zq57x] at hr
    rw [hr]
    exact q
def F_ask_place : DF := fun ds Φ => ∃ (n a : Int), ds = [.int n, .int a] /\ 0 <= a /\ a < n /\ Φ true .none
theorem mono_ask_place : MonoF F_ask_place := by
 intro ds Φ Ψ hm z
 obtain ⟨n, a, e, h1, h2, q⟩ := hm
 exact ⟨n, a, e, h1, h2, z _ _ q⟩
theorem scAskPlace : FnScope ["n", "place"] ["n", "place"] (defScope sAskPlace) := ⟨rfl, rfl, rfl, by decide +kernel, rfl, by decide +kernel, by decide +kernel⟩
theorem ok_ask_place (F : Fun K "ask_place" "ask_place" sAskPlace f fd)     :
  FnOk P w K mg base CX0 1 f fd ["n", "place"] (spD 2 F_ask_place) := by
 refine F.ok scAskPlace (fun vs H Q E h => h.1) (fun cdv A outer s H vs Q E hr h => ?_)
 obtain ⟨nb, ds, Φ, hlive, hds, hΦ, hF⟩ := spD_out h
 obtain ⟨n, a, rfl, a0, a1, q⟩ := hF
 refine ⟨_, (@pss_one _ _ _ (@ps_if _ _ _ _ _ _ _ _ (PW.pt (pw_or (@pt_cmpR _ _ _ _ _ _ _ _ op_lt (pv 1) pe_int (nomark _)) (pw_or1 (@pt_cmpR _ _ _ _ _ _ _ _ op_ge (pv 1) (pv 0) (nomark _))))) (@pss_one _ _ _ ps_dead) pss_nil)), ?_⟩
 refine Sv.enterD hlive hds hΦ (ρ := [.d false _, .d false _]) rfl ?_
 clear hΦ hds
 walk_at "dt"
 exact q
def F_lost_of : DF := fun ds Φ => ∃ wd : Wo, ds = [woD wd] /\ wd.length <= 10000 /\ Φ true (.list ((lostOf wd).map .int))
theorem mono_lost_of : MonoF F_lost_of := by
 intro ds Φ Ψ hm z
 obtain ⟨wd, e, h, q⟩ := hm
 exact ⟨wd, e, h, z _ _ q⟩
theorem scLostOf : FnScope ["word"] ["word"] (defScope sLostOf) := ⟨rfl, rfl, rfl, by decide +kernel, rfl, by decide +kernel, by decide +kernel⟩
theorem ok_lost_of (F : Fun K "lost_of" "lost_of" sLostOf f fd)   (m_enumerate : mg "enumerate" = none)  :
    FnOk P w K mg base CX0 1 f fd ["word"] (spD 1 F_lost_of) := by
  refine F.ok scLostOf (fun vs H Q E h => h.1) (fun cdv A outer s H vs Q E hr h => ?_)
  obtain ⟨nb, ds, Φ, hlive, hds, hΦ, hF⟩ := spD_out h
  obtain ⟨wd, rfl, hl, q⟩ := hF
  refine ⟨_, (@pss_one _ _ _ (@ps_ret _ _ _ _ (pe_lcompC (CompOkC.of (show compOkBC (defScope sLostOf) ["word"] _ ["place", "letter"] [none, none] = true by decide +kernel)) (@pi_enum _ (K) _ _ _ _ _ _ _ rfl rfl m_enumerate (pv 0) (by rfl)) (fun _ _ _ _ => ⟨(@pg_tupM _ (K) _ _ _ (2) _ rfl rfl (@pgs_cons _ _ _ _ _ (pg_name (i := 0) (by show List.Nodup (["place", "letter"] : List Str); decide +kernel) rfl (Or.inl rfl)) (@pgs_cons _ _ _ _ _ (pg_name (i := 1) (by show List.Nodup (["place", "letter"] : List Str); decide +kernel) rfl (Or.inl rfl)) pgs_nil (by rfl)) (by rfl)) (by rfl) (by rfl)), (pts_one (@pt_cmpR _ _ _ _ _ _ _ _ op_isM (pv 1) pe_non (nomark _))), (pv 0)⟩)))), ?_⟩
  refine Sv.enterD hlive hds hΦ (ρ := [.d false _]) rfl ?_
  clear hΦ hds
  have hlm : (wd.map optD).length = wd.length := zq0x ..
  walk_at "dt"
  refine EvN.ev (EvN.compE (by decide) rfl ?_)
  walk_at "dt"
  refine fun v => ⟨true, fun i ds => ds = (((List.range i).filter fun j => wd[j]? == some none).map fun (j : Nat) => (j : Int)).map PyData.int, rfl, ?_, ?_⟩
  · rintro i d ds ⟨e, he, rfl⟩ hl' rfl
    obtain ⟨o, ho, rfl⟩ := map_at he
    walk_at "dt"
    refine ⟨by walk_at "wk", ?_⟩
    walk_at "dt"
    rw [isN_opt]
    cases o with
    | none =>
      walk_at "dt"
      show _ = List.map _ (List.map _ (List.filter _ (List.range (i + 1))))
      rw [zq197x, zq104x, zq135x (by rw [ho]; rfl)]
      simp
    | some x =>
      walk_at "dt"
      show _ = List.map _ (List.map _ (List.filter _ (List.range (i + 1))))
      rw [zq197x, zq104x, zq136x (by rw [ho]; simp)]
      simp
  · rintro ds hl' rfl
    rw [hlm]
    exact q
def F_told_for : DF := fun ds Φ => ∃ (p rest : Int) (prs : Prs) (wd : Wo), ds = [.int p, prsD prs, .int rest, woD wd] /\ PrimeZ p /\ p < 10 ^ 40 /\ 0 <= rest /\ rest < p /\ prs.length <= 10000 /\ PrsOk prs wd.length /\ FacOk p prs /\ WoOk wd /\ Φ true (toldD (toldF p prs rest wd))
theorem mono_told_for : MonoF F_told_for := by
 intro ds Φ Ψ hm z
 obtain ⟨p, r, prs, wd, e, h1, h2, h3, h4, h5, h6, h7, h8, q⟩ := hm
 exact ⟨p, r, prs, wd, e, h1, h2, h3, h4, h5, h6, h7, h8, z _ _ q⟩
theorem scToldFor : FnScope ["p", "pairs", "rest", "word", "lost", "place", "factor"] ["p", "pairs", "rest", "word"] (defScope sToldFor) := ⟨rfl, rfl, rfl, by decide +kernel, rfl, by decide +kernel, by decide +kernel⟩
theorem ok_told_for (F : Fun K "told_for" "told_for" sToldFor f fd)  (c_over : Callee P w K mg base "over" 2 ["p", "a", "b"] spOver) (c_total : Callee P w K mg base "total" 1 ["p", "pairs", "word"] spTotal) (m_len : mg "len" = none)  :
    FnOk P w K mg base CX0 3 f fd ["p", "pairs", "rest", "word"] (spD 4 F_told_for) := by
  refine F.ok scToldFor (fun vs H Q E h => h.1) (fun cdv A outer s H vs Q E hr h => ?_)
  obtain ⟨nb, ds, Φ, hlive, hds, hΦ, hF⟩ := spD_out h
  obtain ⟨p, rest, prs, wd, rfl, hp, hp40, r0, r1, hl, hP, hF', hW, q⟩ := hF
  refine ⟨_, (@pss_cons _ _ _ _ _ (ps_setCC (i := 4) scToldFor.nd rfl rfl (CompOkC.of (show compOkBC (defScope sToldFor) ["p", "pairs", "rest", "word", "lost", "place", "factor"] _ ["place", "factor", "word"] [none, none, some 3] = true by decide +kernel)) (pi_listK (K := K) rfl (pv 1)) (fun _ _ _ _ => ⟨(@pg_tupM _ (K) _ _ _ (2) _ rfl rfl (@pgs_cons _ _ _ _ _ (pg_name (i := 0) (by show List.Nodup (["place", "factor", "word"] : List Str); decide +kernel) rfl (Or.inl rfl)) (@pgs_cons _ _ _ _ _ (pg_name (i := 1) (by show List.Nodup (["place", "factor", "word"] : List Str); decide +kernel) rfl (Or.inl rfl)) pgs_nil (by rfl)) (by rfl)) (by rfl) (by rfl)), (pts_one (@pt_cmpR _ _ _ _ _ _ _ _ op_isM (@pe_ix _ _ _ _ _ _ (rIxL K) ix_list (pv 2) (pv 0) (fun _ _ => rfl)) pe_non (nomark _))), (@pe_tup _ _ _ _ _ (@pa_cons _ _ _ _ _ (pv 0) (@pa_cons _ _ _ _ _ (pv 1) pa_nil rfl) rfl))⟩)) (@pss_cons _ _ _ _ _ (@ps_if _ _ _ _ _ _ _ _ (@pt_cmpR _ _ _ _ _ _ _ _ op_ne (@pe_callB _ _ _ _ _ _ _ _ (rLen K) call_lenM rfl m_len zq49x (@pa_cons _ _ _ _ _ (pv 4) pa_nil rfl) (by decide) (by decide) (by rfl) (by rfl)) pe_int (nomark _)) (@pss_one _ _ _ (@ps_ret _ _ _ _ pe_non)) pss_nil) (@pss_cons _ _ _ _ _ (@ps_set _ _ (5) _ _ _ _ scToldFor.nd rfl (Or.inl rfl) (@pe_ix _ _ _ _ _ _ (rIxT K) ix_tup (@pe_ix _ _ _ _ _ _ (rIxL K) ix_list (pv 4) pe_int (fun _ _ => rfl)) pe_int (fun _ _ => rfl)) (by rfl) (by first | exact .inl rfl | exact .inr rfl | assumption)) (@pss_cons _ _ _ _ _ (@ps_set _ _ (6) _ _ _ _ scToldFor.nd rfl (Or.inl rfl) (@pe_ix _ _ _ _ _ _ (rIxT K) ix_tup (@pe_ix _ _ _ _ _ _ (rIxL K) ix_list (pv 4) pe_int (fun _ _ => rfl)) pe_int (fun _ _ => rfl)) (by rfl) (by first | exact .inl rfl | exact .inr rfl | assumption)) (@pss_one _ _ _ (@ps_ret _ _ _ _ (@pe_tup _ _ _ _ _ (@pa_cons _ _ _ _ _ (pv 5) (@pa_cons _ _ _ _ _ (@pe_callC _ _ _ _ _ _ _ _ _ _ c_over (hr.mono (by decide)) (@pa_cons _ _ _ _ _ (pv 0) (@pa_cons _ _ _ _ _ (@pe_op _ _ _ _ _ _ _ _ op_sub (pv 2) (@pe_callC _ _ _ _ _ _ _ _ _ _ c_total (hr.mono (by decide)) (@pa_cons _ _ _ _ _ (pv 0) (@pa_cons _ _ _ _ _ (pv 1) (@pa_cons _ _ _ _ _ (pv 3) pa_nil rfl) rfl) rfl) (by rfl) (by decide) (by rfl) (by rfl))) (@pa_cons _ _ _ _ _ (pv 6) pa_nil rfl) rfl) rfl) (by rfl) (by decide) (by rfl) (by rfl)) pa_nil rfl) rfl)))))))), ?_⟩
  refine Sv.enterD hlive hds hΦ (ρ := [.d false _, .d false _, .d false _, .d false _, .no, .no, .no]) rfl ?_
  clear hΦ hds
  have hlm : (prs.map pairD).length = prs.length := zq0x ..
  have p2 := hp.1
  walk_at "dt"
  refine EvN.ev (EvN.compL (by decide) rfl ?_)
  walk_at "dt"
  refine fun v => ⟨true, fun i ds => ds = (lostP wd (prs.take i)).map pairD, rfl, ?_, ?_⟩
  · rintro i d ds hd hl' rfl
    obtain ⟨pr, hpr, rfl⟩ := map_at hd
    obtain ⟨g1, g2, g3⟩ := hP pr (zq16x hpr)
    obtain ⟨o, ho, hat⟩ := atI_nat' (xs := wd) optD g1 g2 rfl
    walk_at "dt"
    refine ⟨by walk_at "wk", ?_⟩
    walk_at "dt"
    rw [isN_opt]
    cases o with
    | none =>
      walk_at "dt"
      refine ⟨fun _ => rfl, ?_⟩
      show _ = List.map pairD (lostP wd (prs.take (i + 1)))
      rw [take_snoc hpr, lostP_snoc, if_pos ho, zq25x]
      rfl
    | some x =>
      walk_at "dt"
      show _ = List.map pairD (lostP wd (prs.take (i + 1)))
      rw [take_snoc hpr, lostP_snoc, if_neg (by rw [ho]; simp)]
  rintro ds hl' rfl
  rw [hlm, zq57x]
  walk_at "dt"
  have key : ∀ L, lostP wd prs = L -> toldF p prs rest wd = (match L with | [pr] => some (pr.1, sol p pr.2 (rest - dueSum prs wd % p)) | _ => none) := fun L e => by unfold toldF; rw [e] <;> rfl
  cases hL : lostP wd prs with
  | nil =>
    walk_at "dt"
    rw [key _ hL] at q
    exact q
  | cons pr r =>
    cases r with
    | cons pr2 r2 =>
      have : ¬ ((List.map pairD (pr :: pr2 :: r2)).length : Int) = 1 := by simp; omega
      walk_at "dt"
      rw [key _ hL] at q
      exact q
    | nil =>
      have hm := (lostP_mem (wd := wd) (prs := prs) (pr := pr) (by rw [hL]; simp)).1
      have d0 := zq21x (dueSum prs wd) (show p ≠ 0 by omega)
      have d1 := zq22x (dueSum prs wd) (show 0 < p by omega)
      walk_at "dt"
      refine Ev.over ?_
      walk_at "dt"
      refine Ev.total ?_
      walk_at "dt"
      refine ⟨p, prs, wd, rfl, by omega, hP, hW, ?_⟩
      walk_at "dt"
      refine ⟨p, rest - dueSum prs wd % p, pr.2, rfl, hp, hp40, hF' pr hm, by omega, by omega, fun x x0 x1 hx => ?_⟩
      walk_at "dt"
      rw [key _ hL] at q
      have e := sol_eq hp (hF' pr hm) x0 x1 hx
      rw [e]
      exact q
def F_told_by : DF := fun ds Φ => ∃ (p n c : Int) (cs : List Prs) (wd : Wo), ds = [netD p n cs, woD wd, .int c] /\ NetQ p cs wd.length /\ WoOk wd /\ 0 <= c /\ c < cs.length /\ Φ true (toldD (toldF p (cs.getD c.toNat []) 0 wd))
theorem mono_told_by : MonoF F_told_by := by
 intro ds Φ Ψ hm z
 obtain ⟨p, n, c, cs, wd, e, h1, h2, h3, h4, q⟩ := hm
 exact ⟨p, n, c, cs, wd, e, h1, h2, h3, h4, z _ _ q⟩
theorem scToldBy : FnScope ["net", "word", "c"] ["net", "word", "c"] (defScope sToldBy) := ⟨rfl, rfl, rfl, by decide +kernel, rfl, by decide +kernel, by decide +kernel⟩
theorem ok_told_by (F : Fun K "told_by" "told_by" sToldBy f fd)  (c_told_for : Callee P w K mg base "told_for" 3 ["p", "pairs", "rest", "word"] (spD 4 F_told_for))   :
  FnOk P w K mg base CX0 4 f fd ["net", "word", "c"] (spD 3 F_told_by) := by
 refine F.ok scToldBy (fun vs H Q E h => h.1) (fun cdv A outer s H vs Q E hr h => ?_)
 obtain ⟨nb, ds, Φ, hlive, hds, hΦ, hF⟩ := spD_out h
 obtain ⟨p, n, c, cs, wd, rfl, hN, hW, c0, c1, q⟩ := hF
 refine ⟨_, (@pss_one _ _ _ (@ps_ret _ _ _ _ (@pe_callC _ _ _ _ _ _ _ _ _ _ c_told_for (hr.mono (by decide)) (@pa_cons _ _ _ _ _ (@pe_ix _ _ _ _ _ _ (rIxT K) ix_tup (pv 0) pe_int (fun _ _ => rfl)) (@pa_cons _ _ _ _ _ (@pe_ix _ _ _ _ _ _ (rIxL K) ix_list (@pe_ix _ _ _ _ _ _ (rIxT K) ix_tup (pv 0) pe_int (fun _ _ => rfl)) (pv 2) (fun _ _ => rfl)) (@pa_cons _ _ _ _ _ pe_int (@pa_cons _ _ _ _ _ (pv 1) pa_nil rfl) rfl) rfl) rfl) (by rfl) (by decide) (by rfl) (by rfl)))), ?_⟩
 refine Sv.enterD hlive hds hΦ (ρ := [.d false _, .d false _, .d false _]) rfl ?_
 clear hΦ hds
 obtain ⟨prs, e1, e2, e3, e4, e5⟩ := hN.at c0 c1
 have p2 := hN.1.1
 have hat : atI (cs.map prsD) c = some (prsD prs) := atI_some c0 (by rw [zq6x, e1]; rfl)
 walk_at "dt"
 refine Ev.callD mono_told_for ?_
 walk_at "dt"
 rw [e2] at q
 exact ⟨rfl, p, 0, prs, wd, rfl, hN.1, hN.2.1, by omega, by omega, by omega, e4, e5, hW, q⟩
def F_round_of : DF := fun ds Φ => ∃ (p n : Int) (cs : List Prs) (wd : Wo), ds = [netD p n cs, woD wd] /\ NetQ p cs wd.length /\ WoOk wd /\ wd.length < 64 /\ Φ true (rdsD (rndF p cs wd))
theorem mono_round_of : MonoF F_round_of := by
 intro ds Φ Ψ hm z
 obtain ⟨p, n, cs, wd, e, h1, h2, h3, q⟩ := hm
 exact ⟨p, n, cs, wd, e, h1, h2, h3, z _ _ q⟩
theorem scRoundOf : FnScope ["net", "word", "found", "c", "told"] ["net", "word"] (defScope sRoundOf) := ⟨rfl, rfl, rfl, by decide +kernel, rfl, by decide +kernel, by decide +kernel⟩
theorem ok_round_of (F : Fun K "round_of" "round_of" sRoundOf f fd)  (c_told_by : Callee P w K mg base "told_by" 4 ["net", "word", "c"] (spD 3 F_told_by)) (m_range : mg "range" = none) (m_len : mg "len" = none) (m_sorted : mg "sorted" = none)  :
    FnOk P w K mg base CX0 5 f fd ["net", "word"] (spD 2 F_round_of) := by
  refine F.ok scRoundOf (fun vs H Q E h => h.1) (fun cdv A outer s H vs Q E hr h => ?_)
  obtain ⟨nb, ds, Φ, hlive, hds, hΦ, hF⟩ := spD_out h
  obtain ⟨p, n, cs, wd, rfl, hN, hW, hl, q⟩ := hF
  refine ⟨_, (@pss_cons _ _ _ _ _ (@ps_set _ _ (2) _ _ _ _ scRoundOf.nd rfl (Or.inr rfl) pe_dnewK (by rfl) (by first | exact .inl rfl | exact .inr rfl | assumption)) (@pss_cons _ _ _ _ _ (@ps_for _ _ _ _ _ _ _ _ zq44x rfl (@pi_range1 _ _ _ _ _ _ rfl m_range (@pa_cons _ _ _ _ _ (@pe_callB _ _ _ _ _ _ _ _ (rLen K) call_lenM rfl m_len zq49x (@pa_cons _ _ _ _ _ (@pe_ix _ _ _ _ _ _ (rIxT K) ix_tup (pv 0) pe_int (fun _ _ => rfl)) pa_nil rfl) (by decide) (by decide) (by rfl) (by rfl)) pa_nil rfl) (by rfl)) (pg_name (i := 3) scRoundOf.nd rfl (Or.inl rfl)) (@pss_cons _ _ _ _ _ (@ps_set _ _ (4) _ _ _ _ scRoundOf.nd rfl (Or.inl rfl) (@pe_callC _ _ _ _ _ _ _ _ _ _ c_told_by (hr.mono (by decide)) (@pa_cons _ _ _ _ _ (pv 0) (@pa_cons _ _ _ _ _ (pv 1) (@pa_cons _ _ _ _ _ (pv 3) pa_nil rfl) rfl) rfl) (by rfl) (by decide) (by rfl) (by rfl)) (by rfl) (by first | exact .inl rfl | exact .inr rfl | assumption)) (@pss_one _ _ _ (@ps_if _ _ _ _ _ _ _ _ (PW.pt (pw_and (@pt_cmpR _ _ _ _ _ _ _ _ op_notM (pv 4) pe_non (nomark _)) (pw_and1 (@pt_cmpR _ _ _ _ _ _ _ _ (op_notInD hr.units) (@pe_ix _ _ _ _ _ _ (rIxT K) ix_tup (pv 4) pe_int (fun _ _ => rfl)) (pv 2) (by with_unfolding_all rfl))))) (@pss_one _ _ _ (@ps_asg _ _ _ _ _ _ (@pe_tup _ _ _ _ _ (@pa_cons _ _ _ _ _ (@pe_ix _ _ _ _ _ _ (rIxT K) ix_tup (pv 4) pe_int (fun _ _ => rfl)) (@pa_cons _ _ _ _ _ (pv 3) (@pa_cons _ _ _ _ _ (@pe_ix _ _ _ _ _ _ (rIxT K) ix_tup (pv 4) pe_int (fun _ _ => rfl)) pa_nil rfl) rfl) rfl)) (pg_sub (pv 2) (@pe_ix _ _ _ _ _ _ (rIxT K) ix_tup (pv 4) pe_int (fun _ _ => rfl)) set_dict) (by rfl) (by rfl) (by rfl))) pss_nil))) (by intro _; rfl)) (@pss_one _ _ _ (@ps_ret _ _ _ _ (pe_lcompC (CompOkC.of (show compOkBC (defScope sRoundOf) ["net", "word", "found", "c", "told"] _ ["place", "found"] [none, some 2] = true by decide +kernel)) (pi_listK (K := K) rfl (@pe_callB _ _ _ _ _ _ _ _ (rSortedD) (call_sortD rfl) rfl m_sorted zq144x (@pa_cons _ _ _ _ _ (pv 2) pa_nil rfl) (by decide) (by decide) (by rfl) (by rfl))) (fun _ _ _ _ => ⟨(pg_name (i := 0) (by show List.Nodup (["place", "found"] : List Str); decide +kernel) rfl (Or.inl rfl)), pts_nil, (@pe_ix _ _ _ _ _ _ (rIxD) ix_dict (pv 1) (pv 0) (fun _ _ => rfl))⟩)))))), ?_⟩
  refine Sv.enterD hlive hds hΦ (ρ := [.d false _, .d false _, .no, .no, .no]) rfl ?_
  clear hΦ hds
  have p2 := hN.1.1
  have hcl := hN.2.2.1
  have hcm : ((cs.map prsD).length : Int) = cs.length := by rw [zq0x]
  refine Sv.seq ?_
  refine Sv.asgK (EvK.new ?_)
  intro A2
  refine Sv.seq ?_
  refine Sv.forR1 ?_
  refine Ev.lenS ?_
  refine Ev.ixT ?_
  refine Ev.var rfl ?_
  refine ⟨_, rfl, Ev.int ⟨_, rfl, _, rfl, _, .inl rfl, _, rfl, by omega, by omega, ?_⟩⟩
  rw [show ((cs.map prsD).length : Int).toNat = cs.length by omega]
  refine ⟨fun i ρ => ∃ (x3 x4 : Sl), ρ = [.d false (netD p n cs), .d false (woD wd), .dic A2 true ((fst1 p cs wd i).map kM), x3, x4], ⟨_, _, rfl⟩, ?_, ?_⟩
  · rintro i d ρ' ⟨hi, rfl⟩ ⟨x3, x4, rfl⟩
    have hfl := fst1_lt (p := p) (cs := cs) (wd := wd) (by omega) hN.rg (i := i) (by omega)
    walk_at "dt"
    refine Ev.callD mono_told_by ?_
    walk_at "dt"
    refine ⟨rfl, p, n, 0 + (i : Int), cs, wd, rfl, hN, hW, by omega, by omega, ?_⟩
    rw [show (0 + (i : Int)).toNat = i by omega]
    have ef : fst1 p cs wd (i + 1) = match toldF p (cs.getD i []) 0 wd with
      | some (a, x) => if a ∈ (fst1 p cs wd i).map (·.1) then fst1 p cs wd i else fst1 p cs wd i ++ [(a, (i : Int), x)]
      | none => fst1 p cs wd i := by rw [fst1] <;> rfl
    cases ht : toldF p (cs.getD i []) 0 wd with
    | none =>
      rw [ht] at ef
      dsimp only at ef
      show Gv _ _ _ _ PyData.none _
      walk_at "dt"
      show ∃ (x3 x4 : Sl), (_ : Rh) = [Sl.d false (netD p n cs), Sl.d false (woD wd), Sl.dic A2 true ((fst1 p cs wd (i + 1)).map kM), x3, x4]
      rw [ef]
      exact ⟨_, _, rfl⟩
    | some ax =>
      obtain ⟨a, x⟩ := ax
      rw [ht] at ef
      dsimp only at ef
      show Gv _ _ _ _ (PyData.tuple [.int a, .int x]) _
      walk_at "dt"
      refine Ev.inDic rfl ?_
      walk_at "dt"
      rw [Bool.bne_true]
      by_cases c : a ∈ (fst1 p cs wd i).map (·.1)
      · rw [if_pos c] at ef
        have : hasI ((fst1 p cs wd i).map kM) a = true := by rw [hasI_iff, kM_keys]; exact c
        rw [this]
        walk_at "dt"
        show ∃ (x3 x4 : Sl), (_ : Rh) = [Sl.d false (netD p n cs), Sl.d false (woD wd), Sl.dic A2 true ((fst1 p cs wd (i + 1)).map kM), x3, x4]
        rw [ef]
        exact ⟨_, _, rfl⟩
      · rw [if_neg c] at ef
        have : hasI ((fst1 p cs wd i).map kM) a = false := by rw [<- Bool.not_eq_true, hasI_iff, kM_keys]; exact c
        rw [this]
        generalize htl : (tAsg _ (gSub (tVar 2) _ _) : TS) = tl
        walk_at "dt"
        subst htl
        refine Sv.putDic rfl ?_
        walk_at "dt"
        refine ⟨by rw [zq0x]; omega, ?_⟩
        show ∃ (x3 x4 : Sl), (_ : Rh) = [Sl.d false (netD p n cs), Sl.d false (woD wd), Sl.dic A2 true ((fst1 p cs wd (i + 1)).map kM), x3, x4]
        rw [ef, zq25x]
        unfold putI
        rw [this, show (0 + (i : Int)) = i by omega]
        exact ⟨_, _, rfl⟩
  · rintro ρ' ⟨x3, x4, rfl⟩
    have hfl := fst1_lt (p := p) (cs := cs) (wd := wd) (by omega) hN.rg (i := cs.length) (zq5x _)
    refine Sv.ret (EvN.ev (EvN.compL (by decide) rfl ?_))
    refine EvN.ev (EvN.sortedDic rfl (by rw [zq0x]; omega) fun rs hrs hpm => ?_)
    rw [kM_keys] at hpm
    obtain ⟨ms, rfl, hms⟩ := perm_map_inv hpm _ rfl
    have hmr := rnd_uniq hms hrs
    have hml : ms.length <= wd.length := by rw [hms.length_eq]; exact hfl
    refine ⟨_, rfl, by rw [zq0x, zq0x]; omega, fun v => ⟨true, fun i ds => ds = (ms.take i).map mendD, rfl, ?_, ?_⟩⟩
    · rintro i d ds hd hl' rfl
      obtain ⟨a, ha, rfl⟩ := map_at hd
      obtain ⟨m, hm, rfl⟩ := map_at ha
      have hv := kM_val (fst1_nd (p := p) (cs := cs) (wd := wd) cs.length) (hms.mem_iff.mp (zq16x hm))
      walk_at "dt"
      refine ⟨by walk_at "wk", ?_⟩
      walk_at "dt"
      refine Ev.ixDic rfl ?_
      walk_at "dt"
      refine ⟨_, hv, fun _ => rfl, ?_⟩
      show _ = List.map _ (List.take (i + 1) ms)
      rw [take_snoc hm, zq25x]
      rfl
    · rintro ds hl' rfl
      rw [zq0x, zq0x, zq57x, hmr, zq184x]
      exact q
def F_copied : DF := fun ds Φ => ∃ (p n : Int) (cs : List Prs), ds = [netD p n cs] /\ cs.length <= 10000 /\ (∀ prs ∈ cs, prs.length <= 10000) /\ ∀ f, Φ f (netD p n cs)
theorem mono_copied : MonoF F_copied := by
 intro ds Φ Ψ hm z
 obtain ⟨p, n, cs, e, h1, h2, q⟩ := hm
 exact ⟨p, n, cs, e, h1, h2, fun f => z _ _ (q f)⟩
theorem scCopied : FnScope ["net"] ["net"] (defScope sCopied) := ⟨rfl, rfl, rfl, by decide +kernel, rfl, by decide +kernel, by decide +kernel⟩
theorem ok_copied (F : Fun K "copied" "copied" sCopied f fd)   (m_list : mg "list" = none)  :
  FnOk P w K mg base CX0 1 f fd ["net"] (spD 1 F_copied) := by
 refine F.ok scCopied (fun vs H Q E h => h.1) (fun cdv A outer s H vs Q E hr h => ?_)
 obtain ⟨nb, ds, Φ, hlive, hds, hΦ, hF⟩ := spD_out h
 obtain ⟨p, n, cs, rfl, hl, hl2, q⟩ := hF
 refine ⟨_, (@pss_one _ _ _ (@ps_ret _ _ _ _ (@pe_tup _ _ _ _ _ (@pa_cons _ _ _ _ _ (@pe_ix _ _ _ _ _ _ (rIxT K) ix_tup (pv 0) pe_int (fun _ _ => rfl)) (@pa_cons _ _ _ _ _ (@pe_ix _ _ _ _ _ _ (rIxT K) ix_tup (pv 0) pe_int (fun _ _ => rfl)) (@pa_cons _ _ _ _ _ (pe_lcompC (CompOkC.of (show compOkBC (defScope sCopied) ["net"] _ ["pairs"] [none] = true by decide +kernel)) (pi_listK (K := K) rfl (@pe_ix _ _ _ _ _ _ (rIxT K) ix_tup (pv 0) pe_int (fun _ _ => rfl))) (fun _ _ _ _ => ⟨(pg_name (i := 0) (by show List.Nodup (["pairs"] : List Str); decide +kernel) rfl (Or.inl rfl)), pts_nil, (@pe_callTy _ _ _ _ _ _ _ _ (rListOf K) call_listM rfl m_list zq52x (@pa_cons _ _ _ _ _ (pv 0) pa_nil rfl) (by decide) (by decide) (by rfl) (by rfl))⟩)) pa_nil rfl) rfl) rfl)))), ?_⟩
 refine Sv.enterD hlive hds hΦ (ρ := [.d false _]) rfl ?_
 clear hΦ hds
 walk_at "dt"
 refine EvN.ev (EvN.compL (by decide) rfl ?_)
 walk_at "dt"
 refine ⟨by rw [zq0x]; exact hl, fun v => ⟨false, fun i ds => ds = (cs.take i).map prsD, rfl, ?_, ?_⟩⟩
 ·rintro i d ds hd hl' rfl
  obtain ⟨prs, hprs, rfl⟩ := map_at hd
  walk_at "dt"
  refine ⟨by walk_at "wk", ?_⟩
  walk_at "dt"
  refine ⟨fun z => (by cases z), ?_⟩
  show _ = List.map prsD (List.take (i + 1) cs)
  rw [take_snoc hprs, zq25x]
  rfl
 ·rintro ds hl' rfl
  rw [zq0x, zq57x]
  walk_at "dt"
  exact q _
def F_Mender_step (C : Addr) : CF := fun c ds Φ => ∃ (x dx l : Addr) (p n : Int) (cs : List Prs) (wd : Wo), c = insCu C x dx (mdF (netD p n cs) l wd) /\ ds = [] /\ NetQ p cs wd.length /\ WoOk wd /\ wd.length < 64 /\ Φ (insCu C x dx (mdF (netD p n cs) l (putAll wd (rndF p cs wd)))) true (rdsD (rndF p cs wd))
theorem mono_Mender_step {C : Addr} : MonoC (F_Mender_step C) := by
 intro c ds Φ Ψ h z
 obtain ⟨x, dx, l, p, n, cs, wd, e1, e2, h1, h2, h3, q⟩ := h
 exact ⟨x, dx, l, p, n, cs, wd, e1, e2, h1, h2, h3, z _ _ _ q⟩
theorem scMenderStep : FnScope ["self", "found", "place", "c", "letter"] ["self"] (defScope sMenderStep) := ⟨rfl, rfl, rfl, by decide +kernel, rfl, by decide +kernel, by decide +kernel⟩
theorem ok_Mender_step (F : Fun K "step" "Mender.step" sMenderStep f fd)  {C_Mender : Addr} (cl_Mender : Cls K C_Mender) (na_Mender_net : NoAttr K C_Mender "net") (na_Mender_letters : NoAttr K C_Mender "letters") (c_round_of : Callee P w K mg base "round_of" 5 ["net", "word"] (spD 2 F_round_of))   :
  FnOk P w K mg base CX0 6 f fd ["self"] (spC 1 (F_Mender_step C_Mender)) := by
 refine F.ok scMenderStep (fun vs H Q E h => h.1) (fun cdv A outer s H vs Q E hr h => ?_)
 obtain ⟨_, nb, c, ws, ds, rfl, hlive, hcF, hcf, hcP, hds, hF⟩ := h
 obtain ⟨Φ, hΦ, hF⟩ : ∃ Φ : Cu -> Pd, (∀ c' f d v H', Φ c' f d -> CuTo c c' H H' -> c'.P (fun a => nb a \/ a ∈ c'.F) H' -> IsD (fun a => nb a \/ a ∈ c'.F \/ (f = true /\ H a ≠ none)) H' d v -> Q v H') /\ F_Mender_step C_Mender c ds Φ := ⟨_, fun c' f d v H' q => q v H', hF⟩
 obtain ⟨x, dx, l, p, n, cs, wd, rfl, rfl, hN, hW, hl, q⟩ := hF
 refine ⟨_, (@pss_cons _ _ _ _ _ (@ps_set _ _ (1) _ _ _ _ scMenderStep.nd rfl (Or.inl rfl) (@pe_callC _ _ _ _ _ _ _ _ _ _ c_round_of (hr.mono (by decide)) (@pa_cons _ _ _ _ _ (@pe_fld _ _ _ _ _ (pv 0) rfl) (@pa_cons _ _ _ _ _ (@pe_fld _ _ _ _ _ (pv 0) rfl) pa_nil rfl) rfl) (by rfl) (by decide) (by rfl) (by rfl)) (by rfl) (by first | exact .inl rfl | exact .inr rfl | assumption)) (@pss_cons _ _ _ _ _ (@ps_for _ _ _ _ _ _ _ _ zq44x rfl (pi_listK (K := K) rfl (pv 1)) (@pg_tupM _ (K) _ _ _ (3) _ rfl rfl (@pgs_cons _ _ _ _ _ (pg_name (i := 2) scMenderStep.nd rfl (Or.inl rfl)) (@pgs_cons _ _ _ _ _ (pg_name (i := 3) scMenderStep.nd rfl (Or.inl rfl)) (@pgs_cons _ _ _ _ _ (pg_name (i := 4) scMenderStep.nd rfl (Or.inl rfl)) pgs_nil (by rfl)) (by rfl)) (by rfl)) (by rfl) (by rfl)) (@pss_one _ _ _ (@ps_asg _ _ _ _ _ _ (pv 4) (pg_sub (@pe_fld _ _ _ _ _ (pv 0) rfl) (pv 2) set_list) (by rfl) (by rfl) (by rfl))) (by intro _; rfl)) (@pss_one _ _ _ (@ps_ret _ _ _ _ (pv 1))))), ?_⟩
 refine Sv.enterC hlive hcF hcf hcP hds hΦ (ρ := [.cu _, .no, .no, .no, .no]) rfl ?_
 clear hΦ hds
 have p2 := hN.1.1
 refine Sv.seq ?_
 refine Sv.asg ?_
 refine Ev.callL mono_round_of ?_
 refine AvL.cons (Ev.fld rfl cl_Mender na_Mender_net rfl ?_)
 refine AvL.fld rfl cl_Mender na_Mender_letters rfl ?_
 refine AvL.nil ?_
 refine ⟨rfl, p, n, cs, wd, rfl, hN, hW, hl, .inl rfl, ?_⟩
 refine Gv.name ?_
 refine Sv.seq ?_
 refine Sv.forL ?_
 refine Ev.var rfl ?_
 refine ⟨_, rfl, fun v => ⟨fun i ρ => ∃ (x2 x3 x4 : Sl), ρ = [.cu (insCu C_Mender x dx (mdF (netD p n cs) l (putAll wd ((rndF p cs wd).take i)))), .d true (rdsD (rndF p cs wd)), x2, x3, x4], ⟨_, _, _, rfl⟩, ?_, ?_⟩⟩
 ·rintro i d ρ hd ⟨x2, x3, x4, rfl⟩
  obtain ⟨m, hm, rfl⟩ := map_at hd
  obtain ⟨b1, b2, b3, b4, b5⟩ := rndF_lost (by omega) (zq16x hm) hN.rg
  generalize htl : (tAsg (tVar 4) _ : TS) = tl
  walk_at "dt"
  subst htl
  refine Sv.fldAt rfl cl_Mender na_Mender_letters rfl ?_
  walk_at "dt"
  refine ⟨_, m.1.toNat, rfl, ixN_ok b1 (by rw [zq0x, putAll_len]; omega), ?_⟩
  have e : ((putAll wd ((rndF p cs wd).take i)).map optD).set m.1.toNat (.int m.2.2) = (putAll wd ((rndF p cs wd).take (i + 1))).map optD := by
   rw [take_snoc hm, putAll_append]
   show _ = ((putAll wd ((rndF p cs wd).take i)).set m.1.toNat (some m.2.2)).map optD
   rw [zq200x]
   rfl
  rw [e, mdF_put]
  exact ⟨_, _, _, rfl⟩
 ·rintro ρ ⟨x2, x3, x4, rfl⟩
  rw [zq0x, zq57x]
  refine Sv.retM (EvS.of ?_)
  refine Ev.var rfl ?_
  intro nb' v' H' hv
  exact ⟨_, _, _, rfl, ⟨rfl, rfl, fun a m => m⟩, q, hv⟩
def F_Mender_mend (C : Addr) : CF := fun c ds Φ => ∃ (x dx l : Addr) (p n : Int) (cs : List Prs) (wd : Wo), c = insCu C x dx (mdF (netD p n cs) l wd) /\ ds = [] /\ NetQ p cs wd.length /\ WoOk wd /\ wd.length < 64 /\ Φ (insCu C x dx (mdF (netD p n cs) l (endW p cs wd))) true (.list ((mndF p cs wd).map rdsD))
theorem mono_Mender_mend {C : Addr} : MonoC (F_Mender_mend C) := by
 intro c ds Φ Ψ h z
 obtain ⟨x, dx, l, p, n, cs, wd, e1, e2, h1, h2, h3, q⟩ := h
 exact ⟨x, dx, l, p, n, cs, wd, e1, e2, h1, h2, h3, z _ _ _ q⟩
theorem scMenderMend : FnScope ["self", "rounds", "found"] ["self"] (defScope sMenderMend) := ⟨rfl, rfl, rfl, by decide +kernel, rfl, by decide +kernel, by decide +kernel⟩
theorem ok_Mender_mend (F : Fun K "mend" "Mender.mend" sMenderMend f fd)  {C_Mender : Addr} (c_Mender_step : MCallee P w K mg base C_Mender "step" 6 ["self"] (spC 1 (F_Mender_step C_Mender)))    :
  FnOk P w K mg base CX0 7 f fd ["self"] (spC 1 (F_Mender_mend C_Mender)) := by
 refine F.ok scMenderMend (fun vs H Q E h => h.1) (fun cdv A outer s H vs Q E hr h => ?_)
 obtain ⟨_, nb, c, ws, ds, rfl, hlive, hcF, hcf, hcP, hds, hF⟩ := h
 obtain ⟨Φ, hΦ, hF⟩ : ∃ Φ : Cu -> Pd, (∀ c' f d v H', Φ c' f d -> CuTo c c' H H' -> c'.P (fun a => nb a \/ a ∈ c'.F) H' -> IsD (fun a => nb a \/ a ∈ c'.F \/ (f = true /\ H a ≠ none)) H' d v -> Q v H') /\ F_Mender_mend C_Mender c ds Φ := ⟨_, fun c' f d v H' q => q v H', hF⟩
 obtain ⟨x, dx, l, p, n, cs, wd, rfl, rfl, hN, hW, hl, q⟩ := hF
 refine ⟨_, (@pss_cons _ _ _ _ _ (@ps_set _ _ (1) _ _ _ _ scMenderMend.nd rfl (Or.inl rfl) (@pe_lst _ _ _ _ pa_nil) (by rfl) (by first | exact .inl rfl | exact .inr rfl | assumption)) (@pss_cons _ _ _ _ _ (@ps_set _ _ (2) _ _ _ _ scMenderMend.nd rfl (Or.inl rfl) (@pe_methC0 _ _ _ _ _ _ _ _ _ _ _ c_Mender_step (pv 0) (hr.mono (by decide)) (by rfl)) (by rfl) (by first | exact .inl rfl | exact .inr rfl | assumption)) (@pss_cons _ _ _ _ _ (@ps_while _ _ _ _ _ _ zq44x (@pt_cmpR _ _ _ _ _ _ _ _ (op_neD hr.units) (pv 2) (@pe_lst _ _ _ _ pa_nil) (nomark _)) (@pss_cons _ _ _ _ _ (@ps_expr _ _ _ _ (pe_bm zq95x zq145x zq146x mt_append (pv 1) (@pa_cons _ _ _ _ _ (pv 2) pa_nil rfl)) (by rfl)) (@pss_one _ _ _ (@ps_set _ _ (2) _ _ _ _ scMenderMend.nd rfl (Or.inl rfl) (@pe_methC0 _ _ _ _ _ _ _ _ _ _ _ c_Mender_step (pv 0) (hr.mono (by decide)) (by rfl)) (by rfl) (by first | exact .inl rfl | exact .inr rfl | assumption))))) (@pss_one _ _ _ (@ps_ret _ _ _ _ (pv 1)))))), ?_⟩
 refine Sv.enterC hlive hcF hcf hcP hds hΦ (ρ := [.cu _, .no, .no]) rfl ?_
 clear hΦ hds
 have p2 := hN.1.1
 have key : ∀ {w : Wo}, w.length = wd.length -> NetQ p cs w.length := fun {w} h => by rw [h]; exact hN
 refine Sv.seq ?_
 refine Sv.asgNil ?_
 intro A1
 refine Sv.seq ?_
 refine Sv.asgS (EvS.meth mono_Mender_step rfl rfl (insCu.is rfl) ?_)
 refine Av.nil ?_
 refine ⟨rfl, x, dx, l, p, n, cs, wd, rfl, rfl, hN, hW, hl, ?_⟩
 refine Gv.name ?_
 refine Sv.seq ?_
 refine Sv.while_ (fun ρ => ∃ (w : Wo) (st : List (List Mend)), w.length = wd.length /\ WoOk w /\ st ++ mndF p cs w = mndF p cs wd /\ endW p cs w = endW p cs wd /\ ρ = [.cu (insCu C_Mender x dx (mdF (netD p n cs) l (putAll w (rndF p cs w)))), .own A1 true (st.map rdsD), .d true (rdsD (rndF p cs w))]) (fun (ρ : Rh) => match ρ[1]? with | some (Sl.own _ _ ds) => wd.length - ds.length | _ => 0) ⟨wd, [], rfl, hW, rfl, rfl, rfl⟩ ?_
 rintro ρ' ⟨w, st, hwl, hwW, h1, h2, rfl⟩
 have hNw := key hwl
 walk_at "dt"
 refine ⟨shaped_mds _, shaped_nilL, _, rfl, ?_⟩
 rw [zq98x, eqv_mds]
 by_cases c : rndF p cs w = []
 ·rw [if_neg (by rw [decide_eq_true c]; simp)]
  rw [mndF_nil c, zq46x] at h1
  rw [endW_nil c] at h2
  subst h1 h2
  rw [c]
  refine Sv.demote 1 rfl ?_
  refine Sv.retM (EvS.of ?_)
  refine Ev.var rfl ?_
  intro nb' v' H' hv
  exact ⟨_, _, _, rfl, ⟨rfl, rfl, fun a m => m⟩, q, hv⟩
 rw [if_pos (by rw [decide_eq_false c]; rfl)]
 have hl' := mndF_len (p := p) (cs := cs) (wd := wd)
 rw [<- h1, mndF_cons (by omega) hNw.rg c, zq30x, zq39x] at hl'
 rw [mndF_cons (by omega) hNw.rg c] at h1
 rw [endW_cons (by omega) hNw.rg c] at h2
 have hNp : NetQ p cs (putAll w (rndF p cs w)).length := by rw [putAll_len]; exact hNw
 have hWp := rnd_ok hNw hwW
 refine Sv.seq ?_
 refine Sv.append rfl ?_
 refine Ev.var rfl ?_
 refine ⟨by rw [zq0x]; omega, ?_⟩
 refine Sv.asgS (EvS.meth mono_Mender_step rfl rfl (insCu.is rfl) ?_)
 refine Av.nil ?_
 refine ⟨rfl, x, dx, l, p, n, cs, putAll w (rndF p cs w), rfl, rfl, hNp, hWp, by rw [putAll_len, hwl]; exact hl, ?_⟩
 refine Gv.name ?_
 refine ⟨⟨putAll w (rndF p cs w), st ++ [rndF p cs w], by rw [putAll_len]; exact hwl, hWp, by rw [zq163x]; exact h1, h2, by rw [zq25x]; rfl⟩, ?_⟩
 show wd.length - (List.map rdsD st ++ [_]).length < wd.length - (List.map rdsD st).length
 rw [zq30x, zq60x, zq0x]
 omega
def F_Mender_word (C : Addr) : CF := fun c ds Φ => ∃ (x dx l : Addr) (nd : PyData) (wd : Wo), c = insCu C x dx (mdF nd l wd) /\ ds = [] /\ Φ (insCu C x dx (mdF nd l wd)) true (woD wd)
theorem mono_Mender_word {C : Addr} : MonoC (F_Mender_word C) := by
 intro c ds Φ Ψ h z
 obtain ⟨x, dx, l, nd, wd, e1, e2, q⟩ := h
 exact ⟨x, dx, l, nd, wd, e1, e2, z _ _ _ q⟩
theorem scMenderWord : FnScope ["self"] ["self"] (defScope sMenderWord) := ⟨rfl, rfl, rfl, by decide +kernel, rfl, by decide +kernel, by decide +kernel⟩
theorem ok_Mender_word (F : Fun K "word" "Mender.word" sMenderWord f fd)  {C_Mender : Addr} (cl_Mender : Cls K C_Mender) (na_Mender_letters : NoAttr K C_Mender "letters")  (m_list : mg "list" = none)  :
  FnOk P w K mg base CX0 1 f fd ["self"] (spC 1 (F_Mender_word C_Mender)) := by
 refine F.ok scMenderWord (fun vs H Q E h => h.1) (fun cdv A outer s H vs Q E hr h => ?_)
 obtain ⟨_, nb, c, ws, ds, rfl, hlive, hcF, hcf, hcP, hds, hF⟩ := h
 obtain ⟨Φ, hΦ, hF⟩ : ∃ Φ : Cu -> Pd, (∀ c' f d v H', Φ c' f d -> CuTo c c' H H' -> c'.P (fun a => nb a \/ a ∈ c'.F) H' -> IsD (fun a => nb a \/ a ∈ c'.F \/ (f = true /\ H a ≠ none)) H' d v -> Q v H') /\ F_Mender_word C_Mender c ds Φ := ⟨_, fun c' f d v H' q => q v H', hF⟩
 obtain ⟨x, dx, l, nd, wd, rfl, rfl, q⟩ := hF
 refine ⟨_, (@pss_one _ _ _ (@ps_ret _ _ _ _ (@pe_callTy _ _ _ _ _ _ _ _ (rListOf K) call_listM rfl m_list zq52x (@pa_cons _ _ _ _ _ (@pe_fld _ _ _ _ _ (pv 0) rfl) pa_nil rfl) (by decide) (by decide) (by rfl) (by rfl)))), ?_⟩
 refine Sv.enterC hlive hcF hcf hcP hds hΦ (ρ := [.cu _]) rfl ?_
 clear hΦ hds
 refine Sv.retM (EvS.of (EvN.ev (EvN.listFld rfl cl_Mender na_Mender_letters rfl ?_)))
 rw [scAll_opts]
 intro nb' v' H' hv
 exact ⟨_, _, _, rfl, ⟨rfl, rfl, fun a m => m⟩, q, hv⟩
def F_Mender___init__ (C : Addr) : CF := fun c ds Φ => ∃ (x dx : Addr) (p n : Int) (cs : List Prs) (wd : Wo), c = insCu C x dx [] /\ ds = [netD p n cs, woD wd] /\ cs.length <= 10000 /\ (∀ prs ∈ cs, prs.length <= 10000) /\ ∀ l, Φ (insCu C x dx (mdF (netD p n cs) l wd)) true .none
theorem mono_Mender___init__ {C : Addr} : MonoC (F_Mender___init__ C) := by
 intro c ds Φ Ψ h z
 obtain ⟨x, dx, p, n, cs, wd, e1, e2, h1, h2, q⟩ := h
 exact ⟨x, dx, p, n, cs, wd, e1, e2, h1, h2, fun l => z _ _ _ (q l)⟩
theorem scMenderInit : FnScope ["self", "net", "word"] ["self", "net", "word"] (defScope sMenderInit) := ⟨rfl, rfl, rfl, by decide +kernel, rfl, by decide +kernel, by decide +kernel⟩
theorem ok_Mender___init__ (F : Fun K "__init__" "Mender.__init__" sMenderInit f fd)  {C_Mender : Addr} (cl_Mender : Cls K C_Mender) (na_Mender_net : NoAttr K C_Mender "net") (na_Mender_letters : NoAttr K C_Mender "letters") (c_copied : Callee P w K mg base "copied" 1 ["net"] (spD 1 F_copied)) (m_list : mg "list" = none)  :
  FnOk P w K mg base CX0 2 f fd ["self", "net", "word"] (spC 3 (F_Mender___init__ C_Mender)) := by
 refine F.ok scMenderInit (fun vs H Q E h => h.1) (fun cdv A outer s H vs Q E hr h => ?_)
 obtain ⟨_, nb, c, ws, ds, rfl, hlive, hcF, hcf, hcP, hds, hF⟩ := h
 obtain ⟨Φ, hΦ, hF⟩ : ∃ Φ : Cu -> Pd, (∀ c' f d v H', Φ c' f d -> CuTo c c' H H' -> c'.P (fun a => nb a \/ a ∈ c'.F) H' -> IsD (fun a => nb a \/ a ∈ c'.F \/ (f = true /\ H a ≠ none)) H' d v -> Q v H') /\ F_Mender___init__ C_Mender c ds Φ := ⟨_, fun c' f d v H' q => q v H', hF⟩
 obtain ⟨x, dx, p, n, cs, wd, rfl, rfl, hl, hl2, q⟩ := hF
 refine ⟨_, (@pss_cons _ _ _ _ _ (@ps_fld _ _ _ _ _ _ _ _ (pv 0) (@pe_callC _ _ _ _ _ _ _ _ _ _ c_copied (hr.mono (by decide)) (@pa_cons _ _ _ _ _ (pv 1) pa_nil rfl) (by rfl) (by decide) (by rfl) (by rfl)) rfl) (@pss_one _ _ _ (@ps_fld _ _ _ _ _ _ _ _ (pv 0) (@pe_callTy _ _ _ _ _ _ _ _ (rListOf K) call_listM rfl m_list zq52x (@pa_cons _ _ _ _ _ (pv 2) pa_nil rfl) (by decide) (by decide) (by rfl) (by rfl)) rfl))), ?_⟩
 refine Sv.enterC hlive hcF hcf hcP hds hΦ (ρ := [.cu _, .d false _, .d false _]) rfl ?_
 clear hΦ hds
 refine Sv.seq ?_
 refine Sv.fldD rfl cl_Mender na_Mender_net (.inl rfl) (by decide) ?_
 refine Ev.callD mono_copied ?_
 walk_at "dt"
 refine ⟨rfl, p, n, cs, rfl, hl, hl2, fun f => ?_⟩
 refine Sv.fldN rfl cl_Mender na_Mender_letters rfl (zq218x rfl) ?_
 refine EvN.listOf ?_
 walk_at "dt"
 intro l
 exact ⟨_, rfl, ⟨rfl, rfl, fun a m => zq85x [l] m⟩, q l⟩
def F_mended : DF := fun ds Φ => ∃ (p n : Int) (cs : List Prs) (wd : Wo), ds = [netD p n cs, woD wd] /\ NetQ p cs wd.length /\ WoOk wd /\ wd.length < 64 /\ Φ true (.tuple [woD (endW p cs wd), .list ((mndF p cs wd).map rdsD)])
theorem mono_mended : MonoF F_mended := by
 intro ds Φ Ψ hm z
 obtain ⟨p, n, cs, wd, e, h1, h2, h3, q⟩ := hm
 exact ⟨p, n, cs, wd, e, h1, h2, h3, z _ _ q⟩
theorem scMended : FnScope ["net", "word", "mender", "rounds"] ["net", "word"] (defScope sMended) := ⟨rfl, rfl, rfl, by decide +kernel, rfl, by decide +kernel, by decide +kernel⟩
theorem ok_mended (F : Fun K "mended" "mended" sMended f fd)  {C_Mender : Addr} (c_Mender_mend : MCallee P w K mg base C_Mender "mend" 7 ["self"] (spC 1 (F_Mender_mend C_Mender))) (c_Mender_word : MCallee P w K mg base C_Mender "word" 1 ["self"] (spC 1 (F_Mender_word C_Mender))) (i_Mender : ICallee P w K mg base C_Mender "Mender" 2 ["self", "net", "word"] (spC 3 (F_Mender___init__ C_Mender)))    :
  FnOk P w K mg base CX0 8 f fd ["net", "word"] (spD 2 F_mended) := by
 refine F.ok scMended (fun vs H Q E h => h.1) (fun cdv A outer s H vs Q E hr h => ?_)
 obtain ⟨nb, ds, Φ, hlive, hds, hΦ, hF⟩ := spD_out h
 obtain ⟨p, n, cs, wd, rfl, hN, hW, hl, q⟩ := hF
 refine ⟨_, (@pss_cons _ _ _ _ _ (@ps_set _ _ (2) _ _ _ _ scMended.nd rfl (Or.inl rfl) (@pe_makeC _ _ _ _ _ _ _ _ _ _ _ i_Mender (hr.mono (by decide)) (@pa_cons _ _ _ _ _ (pv 0) (@pa_cons _ _ _ _ _ (pv 1) pa_nil rfl) rfl) (by rfl) (by decide) (by rfl) (by rfl)) (by rfl) (by first | exact .inl rfl | exact .inr rfl | assumption)) (@pss_cons _ _ _ _ _ (@ps_set _ _ (3) _ _ _ _ scMended.nd rfl (Or.inl rfl) (@pe_methC0 _ _ _ _ _ _ _ _ _ _ _ c_Mender_mend (pv 2) (hr.mono (by decide)) (by rfl)) (by rfl) (by first | exact .inl rfl | exact .inr rfl | assumption)) (@pss_one _ _ _ (@ps_ret _ _ _ _ (@pe_tup _ _ _ _ _ (@pa_cons _ _ _ _ _ (@pe_methC0 _ _ _ _ _ _ _ _ _ _ _ c_Mender_word (pv 2) (hr.mono (by decide)) (by rfl)) (@pa_cons _ _ _ _ _ (pv 3) pa_nil rfl) rfl)))))), ?_⟩
 refine Sv.enterD hlive hds hΦ (ρ := [.d false _, .d false _, .no, .no]) rfl ?_
 clear hΦ hds
 have hcl := hN.2.2.1
 refine Sv.seq ?_
 refine Sv.make mono_Mender___init__ ?_
 walk_at "dt"
 refine ⟨rfl, fun x dx => ⟨x, dx, p, n, cs, wd, rfl, rfl, by omega, fun prs hp => by have := (hN.2.2.2 prs hp).1; omega, fun l => ⟨rfl, ?_⟩⟩⟩
 refine Sv.seq ?_
 refine Sv.asgS (EvS.meth mono_Mender_mend rfl rfl (insCu.is rfl) ?_)
 refine Av.nil ?_
 refine ⟨rfl, x, dx, l, p, n, cs, wd, rfl, rfl, hN, hW, hl, ?_⟩
 refine Gv.name ?_
 refine Sv.retS (EvS.tup ?_)
 refine AvS.cons (EvS.meth mono_Mender_word rfl rfl (insCu.is rfl) ?_)
 refine Av.nil ?_
 refine ⟨rfl, x, dx, l, _, endW p cs wd, rfl, rfl, ?_⟩
 walk_at "dt"
 exact q
theorem scLawBag : FnScope ["script", "stir", "cell"] ["script"] (defScope sLawBag) := ⟨rfl, rfl, rfl, by decide +kernel, rfl, by decide +kernel, by decide +kernel⟩
theorem ok__law_bag (F : Fun K "_law_bag" "_law_bag" sLawBag f fd)   (m_abs : mg "abs" = none)  :
  FnOk P w K mg base CX0 1 f fd ["script"] (spBag K) := by
 refine F.ok scLawBag (fun vs H Q E h => ?_) (fun cdv A outer s H vs Q E hr h => ?_)
 ·obtain ⟨a, ns, rfl, hS, hl, q⟩ := h
  rfl
 obtain ⟨a, ns, rfl, hS, hl, q⟩ := h
 refine ⟨_, (@pss_cons _ _ _ _ _ (@ps_set _ _ (1) _ _ _ _ scLawBag.nd rfl (Or.inl rfl) pe_int (by rfl) (by first | exact .inl rfl | exact .inr rfl | assumption)) (@pss_cons _ _ _ _ _ (@ps_for _ _ _ _ _ _ _ _ zq44x rfl (pi_listK (K := K) rfl (@pe_slice _ _ _ _ _ _ _ _ _ _ sl_list (pv 0) po_none (@po_some _ _ _ pe_int))) (pg_name (i := 2) scLawBag.nd rfl (Or.inl rfl)) (@pss_one _ _ _ (@ps_set _ _ (1) _ _ _ _ scLawBag.nd rfl (Or.inl rfl) (@pe_op _ _ _ _ _ _ _ _ op_mod (@pe_op _ _ _ _ _ _ _ _ op_add (@pe_op _ _ _ _ _ _ _ _ op_add (@pe_op _ _ _ _ _ _ _ _ op_mulA (pv 1) pe_int) (@pe_op _ _ _ _ _ _ _ _ op_mod (pv 2) pe_int)) pe_int) pe_int) (by rfl) (by first | exact .inl rfl | exact .inr rfl | assumption))) (by intro _; rfl)) (@pss_one _ _ _ (@ps_ret _ _ _ _ (@pe_lst _ _ _ _ (@pa_cons _ _ _ _ _ (pe_lcompC (CompOkC.of (show compOkBC (defScope sLawBag) ["script", "stir", "cell"] _ ["cell"] [none] = true by decide +kernel)) (pi_listK (K := K) rfl (@pe_slice _ _ _ _ _ _ _ _ _ _ sl_list (pv 0) po_none (@po_some _ _ _ pe_int))) (fun _ _ _ _ => ⟨(pg_name (i := 0) (by show List.Nodup (["cell"] : List Str); decide +kernel) rfl (Or.inl rfl)), pts_nil, (@pe_op _ _ _ _ _ _ _ _ op_mod (@pe_callB _ _ _ _ _ _ _ _ _ call_abs rfl m_abs PyProof.Rows.boot_abs (@pa_cons _ _ _ _ _ (pv 0) pa_nil rfl) (by decide) (by decide) (by rfl) (by rfl)) (@pe_op _ _ _ _ _ _ _ _ op_pow pe_int pe_int))⟩)) (@pa_cons _ _ _ _ _ pe_int (@pa_cons _ _ _ _ _ pe_int (@pa_cons _ _ _ _ _ (pv 1) (@pa_cons _ _ _ _ _ pe_int pa_nil rfl) rfl) rfl) rfl) rfl)))))), ?_⟩
 have hcut : cutV (ns.map V.int) none (some 63) = ns.map V.int := by
  have e : (ns.map V.int).length = ns.length := zq0x _
  show List.take (min 63 (ns.map V.int).length - 0) (List.drop 0 (ns.map V.int)) = _
  rw [zq130x]
  exact zq114x (by omega)
 walk_at "st"
 refine R.slL hS fun c hc => ?_
 rw [hcut]
 refine R.iL1 (SqL.of upd_same) ?_
 refine for_list (xs := ns.map V.int) (fun i σ H1 => ∃ (st : Int) (x : Option V), σ = [some (.ref a), some (.int st), x] /\ 0 <= st /\ st < 2147483647 /\ H1 = upd H c (.lst (ns.map V.int))) ⟨19, none, rfl, by omega, by omega, rfl⟩ ?_ ?_ ?_
 ·rintro i σ H1 hi ⟨st, x, rfl, h1, h2, rfl⟩
  exact SqL.of upd_same
 ·rintro i x σ H1 hx ⟨st, y, rfl, h1, h2, rfl⟩
  rw [zq6x] at hx
  obtain ⟨n, _, rfl⟩ := zq99x.mp hx
  walk_at "st"
  exact ⟨_, _, rfl, zq21x _ (by decide), zq22x _ (by decide), rfl⟩
 ·rintro σ H1 ⟨st, x, rfl, h1, h2, rfl⟩
  walk_at "st"
  refine R.slL ((same_new hc).seq hS) fun c2 hc2 => ?_
  rw [hcut]
  refine R.iL1 (SqL.of upd_same) ?_
  intro acc hacc
  refine R.comp_list (xs := ns.map V.int) (fun i σ H2 => ∃ (x : Option V), σ = [x] /\ H2 = upd (upd (upd H c (.lst (ns.map V.int))) c2 (.lst (ns.map V.int))) acc (.lst (((ns.take i).map fun n => (if n < 0 then -n else n) % 10 ^ 60).map V.int))) ⟨none, rfl, rfl⟩ ?_ ?_ ?_
  ·rintro i σ H1 hi ⟨x, rfl, rfl⟩
   refine SqL.of ?_
   rw [upd_ne (ne_of_none upd_same hacc)]
   exact upd_same
  ·rintro i x σ H1 hx ⟨y, rfl, rfl⟩
   rw [zq6x] at hx
   obtain ⟨n, hn, rfl⟩ := zq99x.mp hx
   walk_at "st"
   refine ⟨_, upd_same, ?_, _, rfl, ?_⟩
   ·rw [zq0x, zq0x, zq70x]
    exact small1000 (by omega)
   ·rw [upd_upd, zq165x, hn, zq25x, zq25x]
    rfl
  ·rintro σ H1 ⟨x, rfl, rfl⟩
   walk_at "st"
   refine (show mkL _ _ _ from ⟨by show 5 <= sizeLine; decide, fun p hp => ?_⟩)
   have hn1 := ne_of_none (upd_same (H := upd (upd H c (.lst (ns.map V.int))) c2 (.lst (ns.map V.int))) (a := acc)) hp
   have s1 : Same H (upd (upd (upd H c (.lst (ns.map V.int))) c2 (.lst (ns.map V.int))) acc (.lst (((ns.take (ns.map V.int).length).map fun n => (if n < 0 then -n else n) % 10 ^ 60).map V.int))) := (same_new hc).trans ((same_new hc2).trans (same_new hacc))
   refine q p acc _ (s1.trans (same_new hp)) (s1.free hp) ⟨_, 0, 0, st, 0, upd_same, by rw [upd_ne hn1]; exact upd_same, ?_, ?_, by omega, by omega, by omega, h1, h2⟩
   ·intro y hy
    obtain ⟨z, _, rfl⟩ := zq17x.mp hy
    exact ⟨zq21x _ (by decide), zq22x _ (by decide)⟩
   ·rw [zq0x, zq70x]
    omega
theorem scLawDraw : FnScope ["bag", "many", "found"] ["bag", "many"] (defScope sLawDraw) := ⟨rfl, rfl, rfl, by decide +kernel, rfl, by decide +kernel, by decide +kernel⟩
theorem ok__law_draw (F : Fun K "_law_draw" "_law_draw" sLawDraw f fd)   (m_len : mg "len" = none)  :
  FnOk P w K mg base CX0 1 f fd ["bag", "many"] spDraw := by
 refine F.ok scLawDraw (fun vs H Q E h => ?_) (fun cdv A outer s H vs Q E hr h => ?_)
 ·obtain ⟨b, l, many, rfl, hB, hm, hs, q⟩ := h
  rfl
 obtain ⟨b, l, many, rfl, hB, hm, hs, q⟩ := h
 refine ⟨_, (@pss_cons _ _ _ _ _ (@ps_if _ _ _ _ _ _ _ _ (PW.pt (pw_and (@pt_cmpR _ _ _ _ _ _ _ _ op_eq (@pe_ix _ _ _ _ _ _ _ ix_list (pv 0) pe_int (fun _ _ => rfl)) pe_int (nomark _)) (pw_and1 (@pt_cmpR _ _ _ _ _ _ _ _ op_lt (@pe_ix _ _ _ _ _ _ _ ix_list (pv 0) pe_int (fun _ _ => rfl)) (@pe_callB _ _ _ _ _ _ _ _ _ call_len_seq rfl m_len zq49x (@pa_cons _ _ _ _ _ (@pe_ix _ _ _ _ _ _ _ ix_list (pv 0) pe_int (fun _ _ => rfl)) pa_nil rfl) (by decide) (by decide) (by rfl) (by rfl)) (nomark _))))) (@pss_cons _ _ _ _ _ (@ps_asg _ _ _ _ _ _ (@pe_ix _ _ _ _ _ _ _ ix_list (@pe_ix _ _ _ _ _ _ _ ix_list (pv 0) pe_int (fun _ _ => rfl)) (@pe_ix _ _ _ _ _ _ _ ix_list (pv 0) pe_int (fun _ _ => rfl)) (fun _ _ => rfl)) (pg_sub (pv 0) pe_int set_list) (by rfl) (by rfl) (by rfl)) (@pss_one _ _ _ (@ps_asg _ _ _ _ _ _ (@pe_op _ _ _ _ _ _ _ _ op_add (@pe_ix _ _ _ _ _ _ _ ix_list (pv 0) pe_int (fun _ _ => rfl)) pe_int) (pg_sub (pv 0) pe_int set_list) (by rfl) (by rfl) (by rfl)))) (@pss_one _ _ _ (@ps_if _ _ _ _ _ _ _ _ (@pt_cmpR _ _ _ _ _ _ _ _ op_eq (@pe_ix _ _ _ _ _ _ _ ix_list (pv 0) pe_int (fun _ _ => rfl)) pe_int (nomark _)) (@pss_cons _ _ _ _ _ (@ps_asg _ _ _ _ _ _ (@pe_op _ _ _ _ _ _ _ _ op_add (@pe_ix _ _ _ _ _ _ _ ix_list (pv 0) pe_int (fun _ _ => rfl)) pe_int) (pg_sub (pv 0) pe_int set_list) (by rfl) (by rfl) (by rfl)) (@pss_cons _ _ _ _ _ (@ps_asg _ _ _ _ _ _ (@pe_op _ _ _ _ _ _ _ _ op_mod (@pe_op _ _ _ _ _ _ _ _ op_add (@pe_op _ _ _ _ _ _ _ _ op_add (@pe_op _ _ _ _ _ _ _ _ op_add (@pe_op _ _ _ _ _ _ _ _ op_pow (@pe_ix _ _ _ _ _ _ _ ix_list (pv 0) pe_int (fun _ _ => rfl)) pe_int) (@pe_op _ _ _ _ _ _ _ _ op_mulA pe_int (@pe_ix _ _ _ _ _ _ _ ix_list (pv 0) pe_int (fun _ _ => rfl)))) (@pe_op _ _ _ _ _ _ _ _ op_mulA pe_int (@pe_ix _ _ _ _ _ _ _ ix_list (pv 0) pe_int (fun _ _ => rfl)))) pe_int) pe_int) (pg_sub (pv 0) pe_int set_list) (by rfl) (by rfl) (by rfl)) (@pss_one _ _ _ (@ps_ret _ _ _ _ (@pe_op _ _ _ _ _ _ _ _ op_mod (@pe_op _ _ _ _ _ _ _ _ op_fdivS (@pe_ix _ _ _ _ _ _ _ ix_list (pv 0) pe_int (fun _ _ => rfl)) pe_int) (pv 1)))))) pss_nil))) (@pss_cons _ _ _ _ _ (@ps_set _ _ (2) _ _ _ _ scLawDraw.nd rfl (Or.inl rfl) (@pe_op _ _ _ _ _ _ _ _ op_mod (@pe_ix _ _ _ _ _ _ _ ix_list (pv 0) pe_int (fun _ _ => rfl)) (pv 1)) (by rfl) (by first | exact .inl rfl | exact .inr rfl | assumption)) (@pss_cons _ _ _ _ _ (@ps_asg _ _ _ _ _ _ (@pe_op _ _ _ _ _ _ _ _ op_fdivS (@pe_ix _ _ _ _ _ _ _ ix_list (pv 0) pe_int (fun _ _ => rfl)) (pv 1)) (pg_sub (pv 0) pe_int set_list) (by rfl) (by rfl) (by rfl)) (@pss_one _ _ _ (@ps_ret _ _ _ _ (pv 2)))))), ?_⟩
 obtain ⟨ns, i, c, st, n, h1, h2, h3, h4, h5, h6, h7, h8, h9⟩ := id hB
 have hlb := bag_ne h1 h2
 have fin : ∀ (H1 : Hp) (i' c' : Int), H1 b = some (.lst [.ref l, .int i', .int c', .int st, .int n]) -> But (Nb b) H H1 -> 0 <= i' -> 0 <= c' -> c' < 10 ^ 60 ->
   ∀ (H2 : Hp), H2 = upd H1 b (.lst [.ref l, .int i', .int (c' / many), .int st, .int n]) -> Q (.int (c' % many)) H2 := fun H1 i' c' e1 bt g1 g2 g3 H2 e2 => by
  subst e2
  have hd1 : 0 <= c' / many := zq89x g2 (by omega)
  have hd2 : c' / many <= c' := zq199x _ g2
  exact q _ _ (zq21x _ (by omega)) (zq22x _ hm) (bt.trans (But.set rfl)) (BagAt.put hlb (bt _ _ hlb h2) h3 h4 g1 hd1 (by omega) h8 h9)
 walk_at "st"
 refine ite2 (fun c1 => ?_) (fun c1 => ?_)
 ·have c1 : c = 0 := of_decide_eq_true c1
  walk_at "st"
  refine ite2 (fun c2 => ?_) (fun c2 => ?_)
  ·have c2 : i < (List.map V.int ns).length := of_decide_eq_true c2
   rw [zq0x] at c2
   have hi : i.toNat < ns.length := by omega
   obtain ⟨g1, g2⟩ := h3 _ (zq11x hi)
   walk_at "st"
   refine R.ixM h2 (v := .int ns[i.toNat]) (atI_some h5 (by rw [zq6x, zq1x hi]; rfl)) ?_
   walk_at "st"
   refine fin (upd H b (.lst [.ref l, .int (i + 1), .int ns[i.toNat], .int st, .int n])) (i + 1) ns[i.toNat] upd_same (But.set rfl) (by omega) g1 g2 _ ?_
   rw [upd_upd]
   rfl
  ·walk_at "st"
   exact q _ _ (zq21x _ (by omega)) (zq22x _ hm) (But.set rfl) (BagAt.put hlb h2 h3 h4 h5 h6 h7 (zq21x _ (by decide)) (zq22x _ (by decide)))
 ·have c1 : ¬ c = 0 := of_decide_eq_false (zq201x.mpr c1)
  walk_at "st"
  exact fin H i c h1 (But.refl _ _) h5 h6 h7 _ rfl
theorem eqv_nilP (is : List Int) : PyData.eqv (.list (is.map PyData.int)) (.list []) = decide (is = []) := by
 cases is <;> simp [PyData.eqv, PyData.eqvAll]
theorem shaped_intsP (is : List Int) : SeqAt.shaped (.list (is.map PyData.int)) = true := by
 have h : PyData.depthAll (is.map PyData.int) = 0 /\ PyData.canLayAll0 (is.map PyData.int) = true := by
  induction is with
  | nil => simp [PyData.depthAll, PyData.canLayAll0]
  | cons a r ih => simp [PyData.depthAll, PyData.depth, PyData.canLayAll0, PyData.canLay0, ih.2, ih.1]
 unfold SeqAt.shaped
 simp [PyData.canLay0, PyData.depth, h.2, h.1]
theorem isDs_intsP {nb : Addr -> Prop} {H : Hp} : ∀ is : List Int, IsDs nb H (is.map PyData.int) (is.map V.int)
 | [] => IsDs.nil
 | i :: is => IsDs.cons (.int i) (isDs_intsP is)
theorem noDiv_of {r : Int} (h0 : r <= 10100) (h : ∀ d : Int, 2 <= d -> d < 102 -> ¬ (d * d <= r /\ r % d = 0)) : NoDiv r := fun d d1 d2 e => by
 by_cases hd : d < 102
 ·exact h d d1 hd ⟨d2, e⟩
 ·have : 102 * 102 <= d * d := zq122x (by omega) (by omega) (by omega) (by omega)
  omega
theorem scLawPrimeFrom : FnScope ["number", "found"] ["number"] (defScope sLawPrimeFrom) := ⟨rfl, rfl, rfl, by decide +kernel, rfl, by decide +kernel, by decide +kernel⟩
theorem ok__law_prime_from (F : Fun K "_law_prime_from" "_law_prime_from" sLawPrimeFrom f fd)   (m_range : mg "range" = none)  :
  FnOk P w K mg base CX0 1 f fd ["number"] spPrimeFrom := by
 refine F.ok scLawPrimeFrom (fun vs H Q E h => ?_) (fun cdv A outer s H vs Q E hr h => ?_)
 ·obtain ⟨n, rfl, hn1, hn2, q⟩ := h
  rfl
 obtain ⟨n, rfl, hn1, hn2, q⟩ := h
 refine ⟨_, (@pss_cons _ _ _ _ _ (@ps_for _ _ _ _ _ _ _ _ zq44x rfl (@pi_range2 _ _ _ _ _ _ _ rfl m_range (@pa_cons _ _ _ _ _ (pv 0) (@pa_cons _ _ _ _ _ (@pe_op _ _ _ _ _ _ _ _ op_add (pv 0) pe_int) pa_nil rfl) rfl) (by rfl) (by rfl)) (pg_name (i := 1) scLawPrimeFrom.nd rfl (Or.inr rfl)) (@pss_one _ _ _ (@ps_if _ _ _ _ _ _ _ _ (@pt_cmpR _ _ _ _ _ _ _ _ (op_eqD hr.units) (pe_lcompC (CompOkC.of (show compOkBC (defScope sLawPrimeFrom) ["number", "found"] _ ["k", "found"] [none, some 1] = true by decide +kernel)) (@pi_range2 _ _ _ _ _ _ _ rfl m_range (@pa_cons _ _ _ _ _ pe_int (@pa_cons _ _ _ _ _ pe_int pa_nil rfl) rfl) (by rfl) (by rfl)) (fun _ _ _ _ => ⟨(pg_name (i := 0) (by show List.Nodup (["k", "found"] : List Str); decide +kernel) rfl (Or.inl rfl)), (pts_one (PW.pt (pw_and (@pt_cmpR _ _ _ _ _ _ _ _ op_le (@pe_op _ _ _ _ _ _ _ _ op_mulA (pv 0) (pv 0)) (pv 1) (nomark _)) (pw_and1 (@pt_cmpR _ _ _ _ _ _ _ _ op_eq (@pe_op _ _ _ _ _ _ _ _ op_mod (pv 1) (pv 0)) pe_int (nomark _)))))), (pv 0)⟩)) (@pe_lst _ _ _ _ pa_nil) (nomark _)) (@pss_one _ _ _ (@ps_ret _ _ _ _ (pv 1))) pss_nil)) (by intro _; rfl)) (@pss_one _ _ _ (@ps_ret _ _ _ _ pe_int))), ?_⟩
 walk_at "st"
 refine for_range (fun i σ H1 => Same H H1 /\ ∃ (x : Option V), σ = [some (.int n), x]) ⟨Same.refl _, none, rfl⟩ ?_ ?_
 ·rintro i σ H1 hi ⟨s1, x, rfl⟩
  have hi2 : (i : Int) < 60 := by omega
  walk_at "st"
  intro acc hacc
  refine R.comp_range (fun j σ H2 => Same H1 H2 /\ (∃ x : Option V, σ = [x, some (.int (n + i))]) /\ ∃ is : List Int, H2 acc = some (.lst (is.map V.int)) /\ is.length <= j /\ (is = [] -> ∀ d : Int, 2 <= d -> d < 2 + j -> ¬ (d * d <= n + i /\ (n + i) % d = 0))) ?_ ?_ ?_
  ·exact ⟨same_new hacc, ⟨none, rfl⟩, [], upd_same, zq37x _, fun _ d d1 d2 => by omega⟩
  ·rintro j σ H2 hj ⟨s2, ⟨x, rfl⟩, is, e2, l2, h2⟩
   have hj2 : (j : Int) < 100 := by omega
   have next : ∀ d : Int, d < 2 + ((j + 1 : Nat) : Int) -> d < 2 + j \/ d = 2 + j := fun d h => by omega
   walk_at "st"
   refine ite2 (fun c1 => ?_) (fun c1 => ?_)
   ·have c1 : (2 + (j : Int)) * (2 + j) <= n + i := of_decide_eq_true c1
    walk_at "st"
    refine ite2 (fun c2 => ?_) (fun c2 => ?_)
    ·have c2 : (n + i) % (2 + (j : Int)) = 0 := of_decide_eq_true c2
     walk_at "st"
     refine ⟨_, e2, ?_, ?_, ⟨_, rfl⟩, is ++ [2 + (j : Int)], ?_, ?_, fun e => ?_⟩
     ·rw [zq0x]; exact small1000 (by omega)
     ·exact fun a o h => by rw [upd_ne (ne_of_none h hacc)]; exact s2 _ _ h
     ·rw [upd_same, zq25x]; rfl
     ·rw [zq30x, zq60x]; omega
     ·simp at e
    ·have c2 : ¬ (n + i) % (2 + (j : Int)) = 0 := of_decide_eq_false (zq201x.mpr c2)
     refine ⟨s2, ⟨_, rfl⟩, is, e2, by omega, fun e d d1 d2 => ?_⟩
     rcases next d d2 with h | h
     ·exact h2 e d d1 h
     ·rw [h]; exact fun z => c2 z.2
   ·have c1 : ¬ (2 + (j : Int)) * (2 + j) <= n + i := of_decide_eq_false (zq201x.mpr c1)
    walk_at "st"
    refine ⟨s2, ⟨_, rfl⟩, is, e2, by omega, fun e d d1 d2 => ?_⟩
    rcases next d d2 with h | h
    ·exact h2 e d d1 h
    ·rw [h]; exact fun z => c1 z.1
  ·rintro σ H2 ⟨s2, ⟨x, rfl⟩, is, e2, l2, h2⟩
   walk_at "st"
   refine R.lstA (by decide) fun p H3 s3 f3 e3 => ?_
   refine ⟨fun _ => False, .list (is.map PyData.int), .list [], .lst id (s3 _ _ e2) (isDs_intsP is), .lst id e3 IsDs.nil, shaped_intsP is, by decide, ?_⟩
   rw [eqv_nilP]
   walk_at "st"
   have s : Same H H3 := s1.trans (s2.trans s3)
   refine ite2 (fun c => ?_) (fun c => ?_)
   ·have c : is = [] := by simpa using c
    walk_at "st"
    exact q _ _ s (by omega) (by omega) (noDiv_of (by omega) fun d d1 d2 => h2 c d d1 (by omega))
   ·walk_at "st"
    exact ⟨s, _, rfl⟩
 ·rintro σ H1 ⟨s1, x, rfl⟩
  walk_at "st"
  refine q _ _ s1 (by omega) (by omega) fun d d1 d2 => ?_
  have : 2 * 2 <= d * d := zq122x d1 d1 (by omega) (by omega)
  omega
def F__law_prime : DF := fun ds Φ => ds = [] /\ ∀ p : Int, PrimeZ p -> p < 10 ^ 40 -> ∀ f, Φ f (.int p)
theorem mono__law_prime : MonoF F__law_prime := by
 intro ds Φ Ψ hm z
 obtain ⟨e, q⟩ := hm
 exact ⟨e, fun p h1 h2 f => z _ _ (q p h1 h2 f)⟩
theorem prime_pick : ∀ x ∈ ([2, 3, 5, 7, 2, 11, 101, 10007, 65537, 1000003, 998244353, 1000000007, 2147483647, 1000000000039, 10 ^ Int.toNat 39 + 3, 10 ^ Int.toNat 40 - 17, 2305843009213693951, 618970019642690137449562111, 162259276829213363391578010288127, 170141183460469231731687303715884105727] : List Int), x ∈ primeList /\ x < 10 ^ 40 := by decide
theorem scLawPrime : FnScope ["bag", "some", "way"] ["bag"] (defScope sLawPrime) := ⟨rfl, rfl, rfl, by decide +kernel, rfl, by decide +kernel, by decide +kernel⟩
theorem ok__law_prime (F : Fun K "_law_prime" "_law_prime" sLawPrime f fd)  (c__law_draw : Callee P w K mg base "_law_draw" 1 ["bag", "many"] spDraw) (c__law_prime_from : Callee P w K mg base "_law_prime_from" 1 ["number"] spPrimeFrom)   :
  FnOk P w K mg base CX0 2 f fd ["bag"] (spB 1 F__law_prime) := by
 refine F.ok scLawPrime (fun vs H Q E h => h.1) (fun cdv A outer s H vs Q E hr h => ?_)
 obtain ⟨b, l, ws, nb, ds, Φ, rfl, hB, hlive, hnb, hds, hΦ, hF⟩ := spB_out h
 obtain ⟨rfl, q⟩ := hF
 refine ⟨_, (@pss_cons _ _ _ _ _ (@ps_setInts _ 1 _ _ _ _ _ _ scLawPrime.nd rfl (Or.inl rfl) rfl (Or.inl rfl)) (@pss_cons _ _ _ _ _ (@ps_set _ _ (1) _ _ _ _ scLawPrime.nd rfl (Or.inl rfl) (@pe_op _ _ _ _ _ _ _ _ op_cat (pv 1) (@pe_lst _ _ _ _ (@pa_cons _ _ _ _ _ (@pe_op _ _ _ _ _ _ _ _ op_add (@pe_op _ _ _ _ _ _ _ _ op_pow pe_int pe_int) pe_int) (@pa_cons _ _ _ _ _ (@pe_op _ _ _ _ _ _ _ _ op_sub (@pe_op _ _ _ _ _ _ _ _ op_pow pe_int pe_int) pe_int) (@pa_cons _ _ _ _ _ pe_int (@pa_cons _ _ _ _ _ pe_int pa_nil rfl) rfl) rfl) rfl))) (by rfl) (by first | exact .inl rfl | exact .inr rfl | assumption)) (@pss_cons _ _ _ _ _ (@ps_set _ _ (1) _ _ _ _ scLawPrime.nd rfl (Or.inl rfl) (@pe_op _ _ _ _ _ _ _ _ op_cat (pv 1) (@pe_lst _ _ _ _ (@pa_cons _ _ _ _ _ pe_int (@pa_cons _ _ _ _ _ pe_int pa_nil rfl) rfl))) (by rfl) (by first | exact .inl rfl | exact .inr rfl | assumption)) (@pss_cons _ _ _ _ _ (@ps_set _ _ (2) _ _ _ _ scLawPrime.nd rfl (Or.inl rfl) (@pe_callC _ _ _ _ _ _ _ _ _ _ c__law_draw (hr.mono (by decide)) (@pa_cons _ _ _ _ _ (pv 0) (@pa_cons _ _ _ _ _ pe_int pa_nil rfl) rfl) (by rfl) (by decide) (by rfl) (by rfl)) (by rfl) (by first | exact .inl rfl | exact .inr rfl | assumption)) (@pss_one _ _ _ (@ps_ret _ _ _ _ (@pe_ifExp _ _ _ _ _ _ _ _ (@pt_cmpR _ _ _ _ _ _ _ _ op_lt (pv 2) pe_int (nomark _)) (@pe_ix _ _ _ _ _ _ (rIxL K) ix_list (pv 1) (pv 2) (fun _ _ => rfl)) (@pe_callC _ _ _ _ _ _ _ _ _ _ c__law_prime_from (hr.mono (by decide)) (@pa_cons _ _ _ _ _ (@pe_op _ _ _ _ _ _ _ _ op_add pe_int (@pe_callC _ _ _ _ _ _ _ _ _ _ c__law_draw (hr.mono (by decide)) (@pa_cons _ _ _ _ _ (pv 0) (@pa_cons _ _ _ _ _ pe_int pa_nil rfl) rfl) (by rfl) (by decide) (by rfl) (by rfl))) pa_nil rfl) (by rfl) (by decide) (by rfl) (by rfl))))))))), ?_⟩
 refine Sv.enterB hB hlive hnb hds hΦ (ρ := [.bag, .no, .no]) rfl ?_
 clear hΦ hds
 walk_at "dt"
 intro way w1 w2
 by_cases c : way < 20
 ·walk_at "dt"
  obtain ⟨m, em, hm1, hm2⟩ := pick (L := [2, 3, 5, 7, 2, 11, 101, 10007, 65537, 1000003, 998244353, 1000000007, 2147483647, 1000000000039, 10 ^ Int.toNat 39 + 3, 10 ^ Int.toNat 40 - 17, 2305843009213693951, 618970019642690137449562111, 162259276829213363391578010288127, 170141183460469231731687303715884105727]) (k := way) w1 (by show _ < (20 : Int); omega) _ prime_pick
  refine ⟨_, em, ?_⟩
  exact q m (primeZ_list m hm1) hm2 _
 ·walk_at "dt"
  intro r r1 r2
  walk_at "dt"
  exact fun r' h1 h2 => q r' h1 h2 _
def F__law_over : DF := fun ds Φ => ∃ p a b : Int, ds = [.int p, .int a, .int b] /\ PrimeZ p /\ p < 10 ^ 40 /\ b % p ≠ 0 /\ -(10 ^ 61) <= a /\ a <= 10 ^ 61 /\ ((∃ k, b * sol p b a - a = p * k) -> Φ true (.int (sol p b a)))
theorem mono__law_over : MonoF F__law_over := by
 intro ds Φ Ψ hm z
 obtain ⟨p, a, b, e, h1, h2, h3, h4, h5, q⟩ := hm
 exact ⟨p, a, b, e, h1, h2, h3, h4, h5, fun h => z _ _ (q h)⟩
theorem scLawOver : FnScope ["p", "a", "b", "old", "new", "one", "two", "times"] ["p", "a", "b"] (defScope sLawOver) := ⟨rfl, rfl, rfl, by decide +kernel, rfl, by decide +kernel, by decide +kernel⟩
theorem ok__law_over (F : Fun K "_law_over" "_law_over" sLawOver f fd)     :
  FnOk P w K mg base CX0 1 f fd ["p", "a", "b"] (spD 3 F__law_over) := by
 refine F.ok scLawOver (fun vs H Q E h => h.1) (fun cdv A outer s H vs Q E hr h => ?_)
 obtain ⟨nb, ds, Φ, hlive, hds, hΦ, hF⟩ := spD_out h
 obtain ⟨p, a, b, rfl, hp, hp40, hb, a0, a1, q⟩ := hF
 refine ⟨_, (@pss_cons _ _ _ _ _ (@ps_asg _ _ _ _ _ _ (@pe_tup _ _ _ _ _ (@pa_cons _ _ _ _ _ (@pe_op _ _ _ _ _ _ _ _ op_mod (pv 2) (pv 0)) (@pa_cons _ _ _ _ _ (pv 0) (@pa_cons _ _ _ _ _ pe_int (@pa_cons _ _ _ _ _ pe_int pa_nil rfl) rfl) rfl) rfl)) (@pg_tupM _ (K) _ _ _ (4) _ rfl rfl (@pgs_cons _ _ _ _ _ (pg_name (i := 3) scLawOver.nd rfl (Or.inl rfl)) (@pgs_cons _ _ _ _ _ (pg_name (i := 4) scLawOver.nd rfl (Or.inl rfl)) (@pgs_cons _ _ _ _ _ (pg_name (i := 5) scLawOver.nd rfl (Or.inl rfl)) (@pgs_cons _ _ _ _ _ (pg_name (i := 6) scLawOver.nd rfl (Or.inl rfl)) pgs_nil (by rfl)) (by rfl)) (by rfl)) (by rfl)) (by rfl) (by rfl)) (by rfl) (by rfl) (by rfl)) (@pss_cons _ _ _ _ _ (@ps_while _ _ _ _ _ _ zq44x (@pt_cmpR _ _ _ _ _ _ _ _ op_ne (pv 4) pe_int (nomark _)) (@pss_cons _ _ _ _ _ (@ps_set _ _ (7) _ _ _ _ scLawOver.nd rfl (Or.inl rfl) (@pe_op _ _ _ _ _ _ _ _ op_fdivS (pv 3) (pv 4)) (by rfl) (by first | exact .inl rfl | exact .inr rfl | assumption)) (@pss_one _ _ _ (@ps_asg _ _ _ _ _ _ (@pe_tup _ _ _ _ _ (@pa_cons _ _ _ _ _ (pv 4) (@pa_cons _ _ _ _ _ (@pe_op _ _ _ _ _ _ _ _ op_sub (pv 3) (@pe_op _ _ _ _ _ _ _ _ op_mulA (pv 7) (pv 4))) (@pa_cons _ _ _ _ _ (pv 6) (@pa_cons _ _ _ _ _ (@pe_op _ _ _ _ _ _ _ _ op_sub (pv 5) (@pe_op _ _ _ _ _ _ _ _ op_mulA (pv 7) (pv 6))) pa_nil rfl) rfl) rfl) rfl)) (@pg_tupM _ (K) _ _ _ (4) _ rfl rfl (@pgs_cons _ _ _ _ _ (pg_name (i := 3) scLawOver.nd rfl (Or.inl rfl)) (@pgs_cons _ _ _ _ _ (pg_name (i := 4) scLawOver.nd rfl (Or.inl rfl)) (@pgs_cons _ _ _ _ _ (pg_name (i := 5) scLawOver.nd rfl (Or.inl rfl)) (@pgs_cons _ _ _ _ _ (pg_name (i := 6) scLawOver.nd rfl (Or.inl rfl)) pgs_nil (by rfl)) (by rfl)) (by rfl)) (by rfl)) (by rfl) (by rfl)) (by rfl) (by rfl) (by rfl))))) (@pss_one _ _ _ (@ps_ret _ _ _ _ (@pe_op _ _ _ _ _ _ _ _ op_mod (@pe_op _ _ _ _ _ _ _ _ op_mulA (pv 1) (pv 5)) (pv 0)))))), ?_⟩
 refine Sv.enterD hlive hds hΦ (ρ := [.d false _, .d false _, .d false _, .no, .no, .no, .no, .no]) rfl ?_
 clear hΦ hds
 have p2 := hp.1
 have m1 := zq21x b (show p ≠ 0 by omega)
 have m2 := zq22x b (show 0 < p by omega)
 walk_at "dt"
 show Gvs _ _ _ _ [PyData.int (b % p), .int p, .int 1, .int 0] _
 walk_at "dt"
 refine Sv.while_ (fun ρ => ∃ (L lt r t : Int) (x6 : Sl), ρ = [.d false (.int p), .d false (.int a), .d false (.int b), .d true (.int L), .d true (.int r), .d true (.int lt), .d true (.int t), x6] /\ (-p <= lt /\ lt <= p) /\ ((L = b % p /\ r = p /\ lt = 1 /\ t = 0) \/ Eu p b L lt r t)) (fun ρ : Rh => match ρ[4]? with | some (Sl.d _ (PyData.int r)) => r.toNat | _ => 0) ⟨_, _, _, _, _, rfl, by omega, .inl ⟨rfl, rfl, rfl, rfl⟩⟩ ?_
 rintro ρ ⟨L, lt, r, t, x6, rfl, hlt, hI⟩
 by_cases c : r = 0
 ·rcases hI with ⟨_, h, _, _⟩ | hE
  ·omega
  subst c
  obtain ⟨k, hk⟩ := hE.fin hp hb
  obtain ⟨t1, t2⟩ := hE.tb
  have sa : Sm a := by unfold Sm; omega
  have sl : Sm lt := by unfold Sm; omega
  walk_at "dt"
  have e := zq51x (a * lt) p
  have ef := zq51x lt p
  have ex : ∃ k, b * (a * lt % p) - a = p * k := ⟨a * k + a * (lt / p) * b - a * lt / p * b, by
   generalize a * lt / p = Q1 at *
   generalize a * lt % p = R1 at *
   generalize lt / p = Q2 at *
   generalize lt % p = R2 at *
   have h1 : R1 = a * lt - p * Q1 := by omega
   have h2 : lt = p * Q2 + R2 := by omega
   rw [h1]
   have h3 : a * (R2 * b) = a * (1 + p * k) := by rw [hk]
   grind⟩
  have es := sol_eq (x := a * lt % p) (a := a) hp hb (zq21x _ (by omega)) (zq22x _ (by omega)) ex
  rw [es]
  rw [es] at ex
  exact q ex
 ·rcases hI with ⟨rfl, rfl, rfl, rfl⟩ | hE
  ·have e0 : b % r / r = 0 := zq143x m1 m2
   walk_at "dt"
   show Gvs _ _ _ _ [PyData.int r, .int (b % r - b % r / r * r), .int 0, .int (1 - b % r / r * 0)] _
   rw [e0]
   walk_at "dt"
   refine ⟨⟨_, _, _, _, _, rfl, by omega, .inr ?_⟩, ?_⟩
   ·rw [zq100x, zq129x, zq123x, zq129x]
    exact Eu.start p2
   ·show (b % r - 0 * r).toNat < r.toNat
    rw [zq100x]; omega
  ·obtain ⟨t1, t2⟩ := hE.tb
   have e1 := hE.l0
   have e2 := hE.r0
   have e3 := hE.lp
   have e4 := hE.rp
   have hr : 0 < r := by omega
   have q1 : 0 <= L / r := zq89x (by omega) (by omega)
   have q2 : L / r <= L := zq199x _ (by omega)
   obtain ⟨N1, N2⟩ := hE.next hr
   walk_at "dt"
   show Gvs _ _ _ _ [PyData.int r, .int (L - L / r * r), .int t, .int (lt - L / r * t)] _
   walk_at "dt"
   exact ⟨⟨_, _, _, _, _, rfl, ⟨t1, t2⟩, .inr N1⟩, by show (L - L / r * r).toNat < r.toNat; omega⟩
def F__law_factor : DF := fun ds Φ => ∃ p : Int, ds = [.int p] /\ PrimeZ p /\ p < 10 ^ 40 /\ ∀ x : Int, 0 < x -> x < p -> Φ true (.int x)
theorem mono__law_factor : MonoF F__law_factor := by
 intro ds Φ Ψ hm z
 obtain ⟨p, e, h1, h2, q⟩ := hm
 exact ⟨p, e, h1, h2, fun x a b => z _ _ (q x a b)⟩
theorem prime_mulZ {p a b : Int} (hp : PrimeZ p) (h : p ∣ a * b) : p ∣ a \/ p ∣ b := by
 by_cases ha : p ∣ a
 ·exact .inl ha
 ·right
  have hg : Int.gcd p a = 1 := by
   have d1 : (Int.gcd p a : Int) ∣ p := Int.gcd_dvd_left ..
   have d2 : (Int.gcd p a : Int) ∣ a := Int.gcd_dvd_right ..
   have h0 : 0 < (Int.gcd p a : Int) := by
    have : Int.gcd p a ≠ 0 := fun z => by have := (zq210x.mp z).1; have := hp.1; omega
    omega
   rcases hp.2 _ h0 d1 with e | e
   ·exact_mod_cast e
   ·rw [e] at d2; exact absurd d2 ha
  have h' : p.natAbs ∣ a.natAbs * b.natAbs := by rw [<- zq168x]; exact zq133x.mpr h
  have c : Nat.Coprime p.natAbs a.natAbs := hg
  exact zq133x.mp (c.dvd_of_dvd_mul_left h')
theorem scLawFactor : FnScope ["bag", "p"] ["bag", "p"] (defScope sLawFactor) := ⟨rfl, rfl, rfl, by decide +kernel, rfl, by decide +kernel, by decide +kernel⟩
theorem ok__law_factor (F : Fun K "_law_factor" "_law_factor" sLawFactor f fd)  (c__law_draw : Callee P w K mg base "_law_draw" 1 ["bag", "many"] spDraw)   :
  FnOk P w K mg base CX0 2 f fd ["bag", "p"] (spB 2 F__law_factor) := by
 refine F.ok scLawFactor (fun vs H Q E h => h.1) (fun cdv A outer s H vs Q E hr h => ?_)
 obtain ⟨b, l, ws, nb, ds, Φ, rfl, hB, hlive, hnb, hds, hΦ, hF⟩ := spB_out h
 obtain ⟨p, rfl, hp, p40, q⟩ := hF
 refine ⟨_, (@pss_one _ _ _ (@ps_ret _ _ _ _ (@pe_op _ _ _ _ _ _ _ _ op_mod (@pe_op _ _ _ _ _ _ _ _ op_mulA (@pe_op _ _ _ _ _ _ _ _ op_add pe_int (@pe_callC _ _ _ _ _ _ _ _ _ _ c__law_draw (hr.mono (by decide)) (@pa_cons _ _ _ _ _ (pv 0) (@pa_cons _ _ _ _ _ (@pe_op _ _ _ _ _ _ _ _ op_sub (pv 1) pe_int) pa_nil rfl) rfl) (by rfl) (by decide) (by rfl) (by rfl))) (@pe_op _ _ _ _ _ _ _ _ op_add (@pe_op _ _ _ _ _ _ _ _ op_fdivS (pv 1) pe_int) pe_int)) (pv 1)))), ?_⟩
 refine Sv.enterB hB hlive hnb hds hΦ (ρ := [.bag, .d false _]) rfl ?_
 clear hΦ hds
 have p2 := hp.1
 walk_at "dt"
 intro r r1 r2
 walk_at "dt"
 refine q _ ?_ (zq22x _ (by omega))
 have h0 := zq21x ((1 + r) * (p / 3 + 1)) (show p ≠ 0 by omega)
 have hne : (1 + r) * (p / 3 + 1) % p ≠ 0 := fun e => by
  rcases prime_mulZ hp (zq94x e) with h | h
  ·have := zq181x (by omega) h; omega
  ·have := zq181x (by omega) h; omega
 omega
def F__law_turned : DF := fun ds Φ => ∃ es : List PyData, ds = [.list es] /\ es.length <= 9000 /\ ∀ (f : Bool) (rs : List PyData), rs.Perm es -> Φ f (.list rs)
theorem mono__law_turned : MonoF F__law_turned := by
 intro ds Φ Ψ hm z
 obtain ⟨es, e, h1, q⟩ := hm
 exact ⟨es, e, h1, fun f rs a => z _ _ (q f rs a)⟩
theorem scLawTurned : FnScope ["bag", "row", "left"] ["bag", "row"] (defScope sLawTurned) := ⟨rfl, rfl, rfl, by decide +kernel, rfl, by decide +kernel, by decide +kernel⟩
theorem ok__law_turned (F : Fun K "_law_turned" "_law_turned" sLawTurned f fd)  (c__law_draw : Callee P w K mg base "_law_draw" 1 ["bag", "many"] spDraw) (m_list : mg "list" = none) (m_range : mg "range" = none) (m_len : mg "len" = none)  :
  FnOk P w K mg base CX0 2 f fd ["bag", "row"] (spB 2 F__law_turned) := by
 refine F.ok scLawTurned (fun vs H Q E h => h.1) (fun cdv A outer s H vs Q E hr h => ?_)
 obtain ⟨b, l, ws, nb, ds, Φ, rfl, hB, hlive, hnb, hds, hΦ, hF⟩ := spB_out h
 obtain ⟨es, rfl, hl, q⟩ := hF
 refine ⟨_, (@pss_cons _ _ _ _ _ (@ps_set _ _ (2) _ _ _ _ scLawTurned.nd rfl (Or.inr rfl) (@pe_callTy _ _ _ _ _ _ _ _ (rListOf K) call_listM rfl m_list zq52x (@pa_cons _ _ _ _ _ (pv 1) pa_nil rfl) (by decide) (by decide) (by rfl) (by rfl)) (by rfl) (by first | exact .inl rfl | exact .inr rfl | assumption)) (@pss_one _ _ _ (@ps_ret _ _ _ _ (pe_lcompC (CompOkC.of (show compOkBC (defScope sLawTurned) ["bag", "row", "left"] _ ["k", "bag", "left"] [none, some 0, some 2] = true by decide +kernel)) (@pi_range1 _ _ _ _ _ _ rfl m_range (@pa_cons _ _ _ _ _ (@pe_callB _ _ _ _ _ _ _ _ (rLen K) call_lenM rfl m_len zq49x (@pa_cons _ _ _ _ _ (pv 1) pa_nil rfl) (by decide) (by decide) (by rfl) (by rfl)) pa_nil rfl) (by rfl)) (fun _ _ _ _ => ⟨(pg_name (i := 0) (by show List.Nodup (["k", "bag", "left"] : List Str); decide +kernel) rfl (Or.inl rfl)), pts_nil, (pe_bmJ (K := K) rfl (pe_bm zq95x PySem.F.slot_list_pop PySem.F.type_list_pop mt_popAt (pv 2) (@pa_cons _ _ _ _ _ (@pe_callC _ _ _ _ _ _ _ _ _ _ c__law_draw (hr.mono (by decide)) (@pa_cons _ _ _ _ _ (pv 1) (@pa_cons _ _ _ _ _ (@pe_callB _ _ _ _ _ _ _ _ (rLen K) call_lenM rfl m_len zq49x (@pa_cons _ _ _ _ _ (pv 2) pa_nil rfl) (by decide) (by decide) (by rfl) (by rfl)) pa_nil rfl) rfl) (by rfl) (by decide) (by rfl) (by rfl)) pa_nil rfl)))⟩))))), ?_⟩
 refine Sv.enterB hB hlive hnb hds hΦ (ρ := [.bag, .d false _, .no]) rfl ?_
 clear hΦ hds
 refine Sv.seq ?_
 refine Sv.asgN (EvN.listOf ?_)
 walk_at "dt"
 intro A2
 refine Sv.retTurn rfl rfl hl ?_ (fun rs hp => q _ rs hp)
 walk_at "dt"
 rfl
def F__law_copy : DF := fun ds Φ => ∃ (p n : Int) (cs : List Prs), ds = [netD p n cs] /\ cs.length <= 10000 /\ ∀ f, Φ f (netD p n cs)
theorem mono__law_copy : MonoF F__law_copy := by
 intro ds Φ Ψ hm z
 obtain ⟨p, n, cs, e, h, q⟩ := hm
 exact ⟨p, n, cs, e, h, fun f => z _ _ (q f)⟩
theorem scLawCopy : FnScope ["net"] ["net"] (defScope sLawCopy) := ⟨rfl, rfl, rfl, by decide +kernel, rfl, by decide +kernel, by decide +kernel⟩
theorem ok__law_copy (F : Fun K "_law_copy" "_law_copy" sLawCopy f fd)   (m_list : mg "list" = none)  :
  FnOk P w K mg base CX0 1 f fd ["net"] (spD 1 F__law_copy) := by
 refine F.ok scLawCopy (fun vs H Q E h => h.1) (fun cdv A outer s H vs Q E hr h => ?_)
 obtain ⟨nb, ds, Φ, hlive, hds, hΦ, hF⟩ := spD_out h
 obtain ⟨p, n, cs, rfl, hl, q⟩ := hF
 refine ⟨_, (@pss_one _ _ _ (@ps_ret _ _ _ _ (@pe_tup _ _ _ _ _ (@pa_cons _ _ _ _ _ (@pe_ix _ _ _ _ _ _ (rIxT K) ix_tup (pv 0) pe_int (fun _ _ => rfl)) (@pa_cons _ _ _ _ _ (@pe_ix _ _ _ _ _ _ (rIxT K) ix_tup (pv 0) pe_int (fun _ _ => rfl)) (@pa_cons _ _ _ _ _ (pe_lcompC (CompOkC.of (show compOkBC (defScope sLawCopy) ["net"] _ ["pairs"] [none] = true by decide +kernel)) (pi_listK (K := K) rfl (@pe_ix _ _ _ _ _ _ (rIxT K) ix_tup (pv 0) pe_int (fun _ _ => rfl))) (fun _ _ _ _ => ⟨(pg_name (i := 0) (by show List.Nodup (["pairs"] : List Str); decide +kernel) rfl (Or.inl rfl)), pts_nil, (@pe_callTy _ _ _ _ _ _ _ _ (rListOf K) call_listM rfl m_list zq52x (@pa_cons _ _ _ _ _ (pv 0) pa_nil rfl) (by decide) (by decide) (by rfl) (by rfl))⟩)) pa_nil rfl) rfl) rfl)))), ?_⟩
 refine Sv.enterD hlive hds hΦ (ρ := [.d false _]) rfl ?_
 clear hΦ hds
 walk_at "dt"
 refine EvN.ev (EvN.compL (by decide) rfl ?_)
 walk_at "dt"
 refine ⟨by rw [zq0x]; exact hl, fun v => ⟨false, fun i ds => ds = (cs.take i).map prsD, rfl, ?_, ?_⟩⟩
 ·rintro i d ds hd hl' rfl
  obtain ⟨prs, hprs, rfl⟩ := map_at hd
  walk_at "dt"
  refine ⟨by walk_at "wk", ?_⟩
  walk_at "dt"
  refine ⟨fun z => (by cases z), ?_⟩
  show _ = List.map _ _
  rw [take_snoc hprs, zq25x]
  rfl
 ·rintro ds hl' rfl
  rw [zq0x, zq57x]
  walk_at "dt"
  exact q _
def alikeOk : Nat -> PyData -> Prop
 | 0, _ => False
 | n + 1, d => scB d = true \/ ∃ ds, (d = .list ds \/ d = .tuple ds) /\ ds.length <= 10000 /\ ∀ e ∈ ds, alikeOk n e
def F__law_alike (n : Nat) : DF := fun ds Φ => ∃ d, ds = [d, d] /\ alikeOk n d /\ Φ true (.bool true)
theorem mono__law_alike (n : Nat) : MonoF (F__law_alike n) := fun ds Φ Ψ ⟨d, e, h, q⟩ z => ⟨d, e, h, z _ _ q⟩
theorem void__law_alike : ∀ vs H Q E, ¬ spD 2 (F__law_alike 0) vs H Q E := fun vs H Q E ⟨_, _, _, _, _, d, _, h, _⟩ => h
theorem scLawAlike : FnScope ["found", "due"] ["found", "due"] (defScope sLawAlike) := ⟨rfl, rfl, rfl, by decide +kernel, rfl, by decide +kernel, by decide +kernel⟩
theorem ok__law_alike (n : Nat) (F : Fun K "_law_alike" "_law_alike" sLawAlike f fd) (c__law_alike : Callee P w K mg base "_law_alike" (n) ["found", "due"] (spD 2 (F__law_alike n)))   (m_isinstance : mg "isinstance" = none) (m_list : mg "list" = none) (m_tuple : mg "tuple" = none) (m_all : mg "all" = none) (m_len : mg "len" = none) (m_bool : mg "bool" = none) (m_int : mg "int" = none) (m_str : mg "str" = none) (m_range : mg "range" = none)  :
  FnOk P w K mg base CX0 (n + 1) f fd ["found", "due"] (spD 2 (F__law_alike (n + 1))) := by
 refine F.ok scLawAlike (fun vs H Q E h => h.1) (fun cdv A outer s H vs Q E hr h => ?_)
 obtain ⟨nb, ds, Φ, hlive, hds, hΦ, hF⟩ := spD_out h
 obtain ⟨d, rfl, hok, q⟩ := hF
 refine ⟨_, (@pss_cons _ _ _ _ _ (@ps_if _ _ _ _ _ _ _ _ (@pt_truthK _ (K) _ _ rfl (@pe_callB _ _ _ _ _ _ _ _ (rIsiT) call_isiT rfl m_isinstance zq69x (@pa_cons _ _ _ _ _ (pv 1) (@pa_cons _ _ _ _ _ (@pe_tup _ _ _ _ _ (@pa_cons _ _ _ _ _ (pe_bltn (v := .ty "list") rfl m_list zq52x rfl) (@pa_cons _ _ _ _ _ (pe_bltn (v := .ty "tuple") rfl m_tuple zq219x rfl) pa_nil rfl) rfl)) pa_nil rfl) rfl) (by decide) (by decide) (by rfl) (by rfl)) (fun _ => rfl)) (@pss_cons _ _ _ _ _ (@ps_if _ _ _ _ _ _ _ _ (PW.pt (pw_or (@pt_not _ _ _ _ (@pt_truthK _ (K) _ _ rfl (@pe_callB _ _ _ _ _ _ _ _ (rIsiT) call_isiT rfl m_isinstance zq69x (@pa_cons _ _ _ _ _ (pv 0) (@pa_cons _ _ _ _ _ (@pe_tup _ _ _ _ _ (@pa_cons _ _ _ _ _ (pe_bltn (v := .ty "list") rfl m_list zq52x rfl) (@pa_cons _ _ _ _ _ (pe_bltn (v := .ty "tuple") rfl m_tuple zq219x rfl) pa_nil rfl) rfl)) pa_nil rfl) rfl) (by decide) (by decide) (by rfl) (by rfl)) (fun _ => rfl))) (pw_or1 (@pt_cmpR _ _ _ _ _ _ _ _ op_ne (@pe_callB _ _ _ _ _ _ _ _ (rIsi K) call_isi rfl m_isinstance zq69x (@pa_cons _ _ _ _ _ (pv 0) (@pa_cons _ _ _ _ _ (pe_bltn (v := .ty "list") rfl m_list zq52x rfl) pa_nil rfl) rfl) (by decide) (by decide) (by rfl) (by rfl)) (@pe_callB _ _ _ _ _ _ _ _ (rIsi K) call_isi rfl m_isinstance zq69x (@pa_cons _ _ _ _ _ (pv 1) (@pa_cons _ _ _ _ _ (pe_bltn (v := .ty "list") rfl m_list zq52x rfl) pa_nil rfl) rfl) (by decide) (by decide) (by rfl) (by rfl)) (nomark _))))) (@pss_one _ _ _ (@ps_ret _ _ _ _ pe_bl)) pss_nil) (@pss_cons _ _ _ _ _ (@ps_if _ _ _ _ _ _ _ _ (@pt_cmpR _ _ _ _ _ _ _ _ op_ne (@pe_callB _ _ _ _ _ _ _ _ (rLen K) call_lenM rfl m_len zq49x (@pa_cons _ _ _ _ _ (pv 0) pa_nil rfl) (by decide) (by decide) (by rfl) (by rfl)) (@pe_callB _ _ _ _ _ _ _ _ (rLen K) call_lenM rfl m_len zq49x (@pa_cons _ _ _ _ _ (pv 1) pa_nil rfl) (by decide) (by decide) (by rfl) (by rfl)) (nomark _)) (@pss_one _ _ _ (@ps_ret _ _ _ _ pe_bl)) pss_nil) (@pss_one _ _ _ (@ps_ret _ _ _ _ (@pe_callB _ _ _ _ _ _ _ _ (rAll K) (call_allM rfl) rfl m_all PyProof.Rows.boot_all (@pa_cons _ _ _ _ _ (pe_lcompC (CompOkC.of (show compOkBC (defScope sLawAlike) ["found", "due"] _ ["k", "found", "due"] [none, some 0, some 1] = true by decide +kernel)) (@pi_range1 _ _ _ _ _ _ rfl m_range (@pa_cons _ _ _ _ _ (@pe_callB _ _ _ _ _ _ _ _ (rLen K) call_lenM rfl m_len zq49x (@pa_cons _ _ _ _ _ (pv 1) pa_nil rfl) (by decide) (by decide) (by rfl) (by rfl)) pa_nil rfl) (by rfl)) (fun _ _ _ _ => ⟨(pg_name (i := 0) (by show List.Nodup (["k", "found", "due"] : List Str); decide +kernel) rfl (Or.inl rfl)), pts_nil, (@pe_callC _ _ _ _ _ _ _ _ _ _ c__law_alike (hr.mono (zq5x _)) (@pa_cons _ _ _ _ _ (@pe_ix _ _ _ _ _ _ (rIx K) ix_seq (pv 1) (pv 0) (fun _ _ => rfl)) (@pa_cons _ _ _ _ _ (@pe_ix _ _ _ _ _ _ (rIx K) ix_seq (pv 2) (pv 0) (fun _ _ => rfl)) pa_nil rfl) rfl) (by rfl) (by decide) (by rfl) (by rfl))⟩)) pa_nil rfl) (by decide) (by decide) (by rfl) (by rfl)))))) pss_nil) (@pss_cons _ _ _ _ _ (@ps_if _ _ _ _ _ _ _ _ (PW.pt (pw_or (@pt_cmpR _ _ _ _ _ _ _ _ op_ne (@pe_callB _ _ _ _ _ _ _ _ (rIsi K) call_isi rfl m_isinstance zq69x (@pa_cons _ _ _ _ _ (pv 0) (@pa_cons _ _ _ _ _ (pe_bltn (v := .ty "bool") rfl m_bool zq220x rfl) pa_nil rfl) rfl) (by decide) (by decide) (by rfl) (by rfl)) (@pe_callB _ _ _ _ _ _ _ _ (rIsi K) call_isi rfl m_isinstance zq69x (@pa_cons _ _ _ _ _ (pv 1) (@pa_cons _ _ _ _ _ (pe_bltn (v := .ty "bool") rfl m_bool zq220x rfl) pa_nil rfl) rfl) (by decide) (by decide) (by rfl) (by rfl)) (nomark _)) (pw_or1 (@pt_cmpR _ _ _ _ _ _ _ _ op_ne (@pe_callB _ _ _ _ _ _ _ _ (rIsi K) call_isi rfl m_isinstance zq69x (@pa_cons _ _ _ _ _ (pv 0) (@pa_cons _ _ _ _ _ (pe_bltn (v := .ty "int") rfl m_int zq202x rfl) pa_nil rfl) rfl) (by decide) (by decide) (by rfl) (by rfl)) (@pe_callB _ _ _ _ _ _ _ _ (rIsi K) call_isi rfl m_isinstance zq69x (@pa_cons _ _ _ _ _ (pv 1) (@pa_cons _ _ _ _ _ (pe_bltn (v := .ty "int") rfl m_int zq202x rfl) pa_nil rfl) rfl) (by decide) (by decide) (by rfl) (by rfl)) (nomark _))))) (@pss_one _ _ _ (@ps_ret _ _ _ _ pe_bl)) pss_nil) (@pss_one _ _ _ (@ps_ret _ _ _ _ (@pe_and _ _ _ _ _ _ _ (@pe_cmpR _ _ _ _ _ _ _ _ op_eq (@pe_callB _ _ _ _ _ _ _ _ (rIsi K) call_isi rfl m_isinstance zq69x (@pa_cons _ _ _ _ _ (pv 0) (@pa_cons _ _ _ _ _ (pe_bltn (v := .ty "str") rfl m_str zq221x rfl) pa_nil rfl) rfl) (by decide) (by decide) (by rfl) (by rfl)) (@pe_callB _ _ _ _ _ _ _ _ (rIsi K) call_isi rfl m_isinstance zq69x (@pa_cons _ _ _ _ _ (pv 1) (@pa_cons _ _ _ _ _ (pe_bltn (v := .ty "str") rfl m_str zq221x rfl) pa_nil rfl) rfl) (by decide) (by decide) (by rfl) (by rfl)) (nomark _)) (@pe_one _ _ _ _ _ (@pe_cmpR _ _ _ _ _ _ _ _ op_eq (pv 0) (pv 1) (nomark _)))))))), ?_⟩
 refine Sv.enterD hlive hds hΦ (ρ := [.d false _, .d false _]) rfl ?_
 clear hΦ hds
 walk_at "dt"
 rcases hok with hs | ⟨ds, hd, hl, he⟩
 ·have h1 : (isiD d "list" || isiD d "tuple") = false := by cases d <;> first | rfl | cases hs
  rw [h1]
  walk_at "dt"
  rw [beq_self_eq_true]
  walk_at "dt"
  rw [beq_self_eq_true]
  walk_at "dt"
  rw [beq_self_eq_true]
  walk_at "dt"
  exact ⟨true, .self hs, q⟩
 rcases hd with rfl | rfl
 ·rw [(isi_list ds).1, (isi_list ds).2, zq184x]
  walk_at "dt"
  refine EvN.ev (EvN.compR1 (by decide) rfl ?_)
  walk_at "dt"
  refine ⟨true, fun i es => es = List.replicate i (.bool true), rfl, ?_, ?_⟩
  ·rintro i d' es ⟨hi, rfl⟩ hl' rfl
   have hi' : i < ds.length := by omega
   have hat : atI ds (0 + (i : Int)) = some ds[i] := atI_some (by omega) (by rw [show (0 + (i : Int)).toNat = i by omega]; exact zq1x hi')
   walk_at "dt"
   refine ⟨by walk_at "wk", ?_⟩
   walk_at "dt"
   refine Ev.callD (mono__law_alike n) ?_
   walk_at "dt"
   refine ⟨rfl, ds[i], rfl, he _ (zq11x hi'), fun _ => rfl, ?_⟩
   show _ = List.replicate (i + 1) _
   rw [zq222x]
  ·rintro es hl' rfl
   refine ⟨List.replicate ds.length true, by simp, ?_⟩
   rw [show (List.replicate ds.length true).all id = true by simp]
   exact q
 ·rw [(isi_tuple ds).1, (isi_tuple ds).2, zq88x]
  walk_at "dt"
  refine EvN.ev (EvN.compR1 (by decide) rfl ?_)
  walk_at "dt"
  refine ⟨true, fun i es => es = List.replicate i (.bool true), rfl, ?_, ?_⟩
  ·rintro i d' es ⟨hi, rfl⟩ hl' rfl
   have hi' : i < ds.length := by omega
   have hat : atI ds (0 + (i : Int)) = some ds[i] := atI_some (by omega) (by rw [show (0 + (i : Int)).toNat = i by omega]; exact zq1x hi')
   walk_at "dt"
   refine ⟨by walk_at "wk", ?_⟩
   walk_at "dt"
   refine Ev.callD (mono__law_alike n) ?_
   walk_at "dt"
   refine ⟨rfl, ds[i], rfl, he _ (zq11x hi'), fun _ => rfl, ?_⟩
   show _ = List.replicate (i + 1) _
   rw [zq222x]
  ·rintro es hl' rfl
   refine ⟨List.replicate ds.length true, by simp, ?_⟩
   rw [show (List.replicate ds.length true).all id = true by simp]
   exact q
def F__law_direction : DF := fun ds Φ => ∃ q s : Int, ds = [.int q, .int s] /\ 2 <= q /\ q <= 7 /\ 0 <= s /\ s <= q /\ ∀ R : List (List Int), R.length = q.toNat -> (∀ (t : Nat) r, R[t]? = some r -> LnS q s t r) -> Φ true (.list (R.map rowD))
theorem mono__law_direction : MonoF F__law_direction := by
 intro ds Φ Ψ hm z
 obtain ⟨q, s, e, h1, h2, h3, h4, k⟩ := hm
 exact ⟨q, s, e, h1, h2, h3, h4, fun R a b => z _ _ (k R a b)⟩
theorem scLawDirection : FnScope ["q", "s"] ["q", "s"] (defScope sLawDirection) := ⟨rfl, rfl, rfl, by decide +kernel, rfl, by decide +kernel, by decide +kernel⟩
theorem ok__law_direction (F : Fun K "_law_direction" "_law_direction" sLawDirection f fd)   (m_range : mg "range" = none)  :
  FnOk P w K mg base CX0 1 f fd ["q", "s"] (spD 2 F__law_direction) := by
 refine F.ok scLawDirection (fun vs H Q E h => h.1) (fun cdv A outer s H vs Q E hr h => ?_)
 obtain ⟨nb, ds, Φ, hlive, hds, hΦ, hF⟩ := spD_out h
 obtain ⟨q, s, rfl, q2, q7, s0, s1, k⟩ := hF
 refine ⟨_, (@pss_cons _ _ _ _ _ (@ps_if _ _ _ _ _ _ _ _ (@pt_cmpR _ _ _ _ _ _ _ _ op_eq (pv 1) (pv 0) (nomark _)) (@pss_one _ _ _ (@ps_ret _ _ _ _ (pe_lcompC (CompOkC.of (show compOkBC (defScope sLawDirection) ["q", "s"] _ ["t", "q"] [none, some 0] = true by decide +kernel)) (@pi_range1 _ _ _ _ _ _ rfl m_range (@pa_cons _ _ _ _ _ (pv 0) pa_nil rfl) (by rfl)) (fun _ _ _ _ => ⟨(pg_name (i := 0) (by show List.Nodup (["t", "q"] : List Str); decide +kernel) rfl (Or.inr rfl)), pts_nil, (by (refine' pe_lcompND (CompOkC.of (NX := ["t", "q"]) (N := ["y", "t", "q"]) (mp := [none, some 0, some 1]) ?nc0) ?ni0 ?nb0); (case ni0 => exact (pi_range1 rfl m_range (pa_cons (pv 1) pa_nil rfl))); (case nb0 => exact (fun _ _ _ _ => ⟨(pg_name (i := 0) (by show List.Nodup (["y", "t", "q"] : List Str); decide +kernel) rfl (Or.inl rfl)), pts_nil, (pe_op op_add (pe_op op_mulA (pv 1) (pv 2)) (pv 0))⟩)); (case nc0 => decide +kernel))⟩)))) pss_nil) (@pss_one _ _ _ (@ps_ret _ _ _ _ (pe_lcompC (CompOkC.of (show compOkBC (defScope sLawDirection) ["q", "s"] _ ["t", "q", "s"] [none, some 0, some 1] = true by decide +kernel)) (@pi_range1 _ _ _ _ _ _ rfl m_range (@pa_cons _ _ _ _ _ (pv 0) pa_nil rfl) (by rfl)) (fun _ _ _ _ => ⟨(pg_name (i := 0) (by show List.Nodup (["t", "q", "s"] : List Str); decide +kernel) rfl (Or.inr rfl)), pts_nil, (by (refine' pe_lcompND (CompOkC.of (NX := ["t", "q", "s"]) (N := ["x", "t", "q", "s"]) (mp := [none, some 0, some 1, some 2]) ?nc1) ?ni1 ?nb1); (case ni1 => exact (pi_range1 rfl m_range (pa_cons (pv 1) pa_nil rfl))); (case nb1 => exact (fun _ _ _ _ => ⟨(pg_name (i := 0) (by show List.Nodup (["x", "t", "q", "s"] : List Str); decide +kernel) rfl (Or.inl rfl)), pts_nil, (pe_op op_add (pe_op op_mulA (pv 0) (pv 2)) (pe_op op_mod (pe_op op_add (pe_op op_mulA (pv 3) (pv 0)) (pv 1)) (pv 2)))⟩)); (case nc1 => decide +kernel))⟩))))), ?_⟩
 refine Sv.enterD hlive hds hΦ (ρ := [.d false _, .d false _]) rfl ?_
 clear hΦ hds
 refine Sv.seq ?_
 refine Sv.ifS ?_
 walk_at "dt"
 have hm : ∀ a : Nat, a < q.toNat -> 0 <= (a : Int) * q /\ (a : Int) * q <= 49 := fun a ha => by
  refine ⟨zq167x (by omega) (by omega), zq147x (zq122x (show (a : Int) <= 7 by omega) q7 (by omega) (by omega)) (by decide)⟩
 by_cases c : s = q
 ·walk_at "dt"
  refine EvN.ev (EvN.compR1 (by decide) rfl ?_)
  walk_at "dt"
  refine CompD.rel rowD true (fun t r => LnS q s t r) ?_ fun R hRl hR => k R (by omega) hR
  rintro t d ⟨ht, rfl⟩
  walk_at "dt"
  refine ⟨by walk_at "wk", ?_⟩
  refine EvN.ev (EvN.compR1 (by decide) rfl ?_)
  walk_at "dt"
  refine CompD.rel PyData.int true (fun a x => x = (t : Int) * q + a) ?_ fun os hol hos => ⟨fun _ => rfl, os, rfl, ⟨s0, s1, by omega, by omega, by omega, fun a x e => by rw [if_pos c, hos a x e]⟩⟩
  rintro a d ⟨ha, rfl⟩
  walk_at "dt"
  refine ⟨by walk_at "wk", ?_⟩
  walk_at "dt"
  rw [zq101x, zq101x]
 ·walk_at "dt"
  refine EvN.ev (EvN.compR1 (by decide) rfl ?_)
  walk_at "dt"
  refine CompD.rel rowD true (fun t r => LnS q s t r) ?_ fun R hRl hR => k R (by omega) hR
  rintro t d ⟨ht, rfl⟩
  walk_at "dt"
  refine ⟨by walk_at "wk", ?_⟩
  refine EvN.ev (EvN.compR1 (by decide) rfl ?_)
  walk_at "dt"
  refine CompD.rel PyData.int true (fun a x => x = (a : Int) * q + (s * a + t) % q) ?_ fun os hol hos => ⟨fun _ => rfl, os, rfl, ⟨s0, s1, by omega, by omega, by omega, fun a x e => by rw [if_neg c, hos a x e]⟩⟩
  rintro a d ⟨ha, rfl⟩
  walk_at "dt"
  refine ⟨by walk_at "wk", ?_⟩
  walk_at "dt"
  rw [zq101x, zq101x]
structure EvenR (q : Int) (rs : List Int) : Prop where
 l : rs.length = q.toNat
 b : ∀ x ∈ rs, x = 0 \/ x = 1
 s : rs.sum % 2 = 0
def F__law_even : DF := fun ds Φ => ∃ q : Int, ds = [.int q] /\ 2 <= q /\ q <= 7 /\ ∀ (f : Bool) (rs : List Int), EvenR q rs -> Φ f (.list (rs.map .int))
theorem mono__law_even : MonoF F__law_even := by
 intro ds Φ Ψ hm z
 obtain ⟨q, e, h1, h2, k⟩ := hm
 exact ⟨q, e, h1, h2, fun f rs a => z _ _ (k f rs a)⟩
theorem scLawEven : FnScope ["bag", "q", "row"] ["bag", "q"] (defScope sLawEven) := ⟨rfl, rfl, rfl, by decide +kernel, rfl, by decide +kernel, by decide +kernel⟩
theorem ok__law_even (F : Fun K "_law_even" "_law_even" sLawEven f fd)  (c__law_draw : Callee P w K mg base "_law_draw" 1 ["bag", "many"] spDraw) (m_range : mg "range" = none) (m_sum : mg "sum" = none)  :
  FnOk P w K mg base CX0 2 f fd ["bag", "q"] (spB 2 F__law_even) := by
 refine F.ok scLawEven (fun vs H Q E h => h.1) (fun cdv A outer s H vs Q E hr h => ?_)
 obtain ⟨b, l, ws, nb, ds, Φ, rfl, hB, hlive, hnb, hds, hΦ, hF⟩ := spB_out h
 obtain ⟨q, rfl, q2, q7, k⟩ := hF
 refine ⟨_, (@pss_cons _ _ _ _ _ (ps_setCC (i := 2) scLawEven.nd rfl rfl (CompOkC.of (show compOkBC (defScope sLawEven) ["bag", "q", "row"] _ ["k", "bag"] [none, some 0] = true by decide +kernel)) (@pi_range1 _ _ _ _ _ _ rfl m_range (@pa_cons _ _ _ _ _ (@pe_op _ _ _ _ _ _ _ _ op_sub (pv 1) pe_int) pa_nil rfl) (by rfl)) (fun _ _ _ _ => ⟨(pg_name (i := 0) (by show List.Nodup (["k", "bag"] : List Str); decide +kernel) rfl (Or.inl rfl)), pts_nil, (@pe_callC _ _ _ _ _ _ _ _ _ _ c__law_draw (hr.mono (by decide)) (@pa_cons _ _ _ _ _ (pv 1) (@pa_cons _ _ _ _ _ pe_int pa_nil rfl) rfl) (by rfl) (by decide) (by rfl) (by rfl))⟩)) (@pss_one _ _ _ (@ps_ret _ _ _ _ (@pe_op _ _ _ _ _ _ _ _ op_cat (pv 2) (@pe_lst _ _ _ _ (@pa_cons _ _ _ _ _ (@pe_op _ _ _ _ _ _ _ _ op_mod (@pe_callB _ _ _ _ _ _ _ _ (rSum K) (call_sumM rfl) rfl m_sum zq203x (@pa_cons _ _ _ _ _ (pv 2) pa_nil rfl) (by decide) (by decide) (by rfl) (by rfl)) pe_int) pa_nil rfl)))))), ?_⟩
 refine Sv.enterB hB hlive hnb hds hΦ (ρ := [.bag, .d false _, .no]) rfl ?_
 clear hΦ hds
 walk_at "dt"
 refine EvN.ev (EvN.compR1 (by decide) rfl ?_)
 walk_at "dt"
 refine CompD.ints (fun x => x = 0 \/ x = 1) ?_ fun os hol hos => ?_
 ·rintro i d ⟨hi, rfl⟩
  walk_at "dt"
  refine ⟨by walk_at "wk", ?_⟩
  walk_at "dt"
  exact fun r r1 r2 => ⟨r, rfl, by omega⟩
 have hom : (os.map PyData.int).length = os.length := zq0x ..
 walk_at "dt"
 refine ⟨os, rfl, _, rfl, ?_⟩
 walk_at "dt"
 refine ⟨by rw [hom]; simp; omega, ?_⟩
 have e9 : os.map PyData.int ++ [PyData.int (os.sum % 2)] = (os ++ [os.sum % 2]).map .int := by rw [zq25x]; rfl
 show Φ _ (.list (os.map PyData.int ++ [PyData.int (os.sum % 2)]))
 rw [e9]
 refine k _ _ ⟨by simp; omega, fun x hx => ?_, by rw [zq112x]; simp; omega⟩
 rcases zq45x.mp hx with h | h
 ·exact hos x h
 ·rw [zq8x.mp h]; omega
theorem EvenR.at {q : Int} {rs : List Int} (h : EvenR q rs) {i : Nat} (hi : i < q.toNat) : rs.getD i 0 = 0 \/ rs.getD i 0 = 1 := by
 have hl : i < rs.length := by rw [h.l]; exact hi
 rw [zq3x, zq1x hl]
 exact h.b _ (zq11x hl)
structure SqW (p q : Int) (z : Bool) (ws : List Int) : Prop where
 l : ws.length = (q * q).toNat
 r : ∀ x ∈ ws, 0 <= x /\ x < p
 o : z = true -> ∀ x ∈ ws, x = 0
 t : z = false -> p = 2 -> ∃ rs cs, EvenR q rs /\ EvenR q cs /\ ∀ k : Nat, (k : Int) < q * q -> ws.getD k 0 = rs.getD ((k : Int) / q).toNat 0 * cs.getD ((k : Int) % q).toNat 0
 n : z = false -> p ≠ 2 -> ∀ x ∈ ws, 0 < x
def F__law_word : DF := fun ds Φ => ∃ (p q : Int) (z : Bool), ds = [.int p, .int q, .bool z] /\ PrimeZ p /\ p < 10 ^ 40 /\ 2 <= q /\ q <= 7 /\ ∀ (f : Bool) (ws : List Int), SqW p q z ws -> Φ f (.list (ws.map .int))
theorem mono__law_word : MonoF F__law_word := fun ds Φ Ψ ⟨p, q, z, e, h1, h2, h3, h4, k⟩ w => ⟨p, q, z, e, h1, h2, h3, h4, fun f ws a => w _ _ (k f ws a)⟩
theorem scLawWord : FnScope ["bag", "p", "q", "noughts", "rows", "columns"] ["bag", "p", "q", "noughts"] (defScope sLawWord) := ⟨rfl, rfl, rfl, by decide +kernel, rfl, by decide +kernel, by decide +kernel⟩
theorem ok__law_word (F : Fun K "_law_word" "_law_word" sLawWord f fd)  (c__law_even : Callee P w K mg base "_law_even" 2 ["bag", "q"] (spB 2 F__law_even)) (c__law_factor : Callee P w K mg base "_law_factor" 2 ["bag", "p"] (spB 2 F__law_factor)) (m_range : mg "range" = none)  :
    FnOk P w K mg base CX0 3 f fd ["bag", "p", "q", "noughts"] (spB 4 F__law_word) := by
  refine F.ok scLawWord (fun vs H Q E h => h.1) (fun cdv A outer s H vs Q E hr h => ?_)
  obtain ⟨b, l, ws, nb, ds, Φ, rfl, hB, hlive, hnb, hds, hΦ, hF⟩ := spB_out h
  obtain ⟨p, q, z, rfl, hp, hp40, q2, q7, kk⟩ := hF
  refine ⟨_, (@pss_cons _ _ _ _ _ (@ps_if _ _ _ _ _ _ _ _ (@pt_truthK _ (K) _ _ rfl (pv 3) (fun _ => rfl)) (@pss_one _ _ _ (@ps_ret _ _ _ _ (@pe_op _ _ _ _ _ _ _ _ op_rep (@pe_lst _ _ _ _ (@pa_cons _ _ _ _ _ pe_int pa_nil rfl)) (@pe_op _ _ _ _ _ _ _ _ op_mulA (pv 2) (pv 2))))) pss_nil) (@pss_cons _ _ _ _ _ (@ps_if _ _ _ _ _ _ _ _ (@pt_cmpR _ _ _ _ _ _ _ _ op_eq (pv 1) pe_int (nomark _)) (@pss_cons _ _ _ _ _ (@ps_set _ _ (4) _ _ _ _ scLawWord.nd rfl (Or.inr rfl) (@pe_callC _ _ _ _ _ _ _ _ _ _ c__law_even (hr.mono (by decide)) (@pa_cons _ _ _ _ _ (pv 0) (@pa_cons _ _ _ _ _ (pv 2) pa_nil rfl) rfl) (by rfl) (by decide) (by rfl) (by rfl)) (by rfl) (by first | exact .inl rfl | exact .inr rfl | assumption)) (@pss_cons _ _ _ _ _ (@ps_set _ _ (5) _ _ _ _ scLawWord.nd rfl (Or.inr rfl) (@pe_callC _ _ _ _ _ _ _ _ _ _ c__law_even (hr.mono (by decide)) (@pa_cons _ _ _ _ _ (pv 0) (@pa_cons _ _ _ _ _ (pv 2) pa_nil rfl) rfl) (by rfl) (by decide) (by rfl) (by rfl)) (by rfl) (by first | exact .inl rfl | exact .inr rfl | assumption)) (@pss_one _ _ _ (@ps_ret _ _ _ _ (pe_lcompC (CompOkC.of (show compOkBC (defScope sLawWord) ["bag", "p", "q", "noughts", "rows", "columns"] _ ["k", "q", "rows", "columns"] [none, some 2, some 4, some 5] = true by decide +kernel)) (@pi_range1 _ _ _ _ _ _ rfl m_range (@pa_cons _ _ _ _ _ (@pe_op _ _ _ _ _ _ _ _ op_mulA (pv 2) (pv 2)) pa_nil rfl) (by rfl)) (fun _ _ _ _ => ⟨(pg_name (i := 0) (by show List.Nodup (["k", "q", "rows", "columns"] : List Str); decide +kernel) rfl (Or.inl rfl)), pts_nil, (@pe_op _ _ _ _ _ _ _ _ op_mulA (@pe_ix _ _ _ _ _ _ (rIxL K) ix_list (pv 2) (@pe_op _ _ _ _ _ _ _ _ op_fdivS (pv 0) (pv 1)) (fun _ _ => rfl)) (@pe_ix _ _ _ _ _ _ (rIxL K) ix_list (pv 3) (@pe_op _ _ _ _ _ _ _ _ op_mod (pv 0) (pv 1)) (fun _ _ => rfl)))⟩)))))) pss_nil) (@pss_one _ _ _ (@ps_ret _ _ _ _ (pe_lcompC (CompOkC.of (show compOkBC (defScope sLawWord) ["bag", "p", "q", "noughts", "rows", "columns"] _ ["k", "bag", "p"] [none, some 0, some 1] = true by decide +kernel)) (@pi_range1 _ _ _ _ _ _ rfl m_range (@pa_cons _ _ _ _ _ (@pe_op _ _ _ _ _ _ _ _ op_mulA (pv 2) (pv 2)) pa_nil rfl) (by rfl)) (fun _ _ _ _ => ⟨(pg_name (i := 0) (by show List.Nodup (["k", "bag", "p"] : List Str); decide +kernel) rfl (Or.inl rfl)), pts_nil, (@pe_callC _ _ _ _ _ _ _ _ _ _ c__law_factor (hr.mono (by decide)) (@pa_cons _ _ _ _ _ (pv 1) (@pa_cons _ _ _ _ _ (pv 2) pa_nil rfl) rfl) (by rfl) (by decide) (by rfl) (by rfl))⟩)))))), ?_⟩
  refine Sv.enterB hB hlive hnb hds hΦ (ρ := [.bag, .d false _, .d false _, .d false _, .no, .no]) rfl ?_
  clear hΦ hds
  have p2 := hp.1
  have hqq2 : 4 <= q * q /\ q * q <= 49 := ⟨zq147x (by decide) (zq122x q2 q2 (by decide) (by omega)), zq147x (zq122x q7 q7 (by omega) (by decide)) (by decide)⟩
  cases z with
  | true =>
    walk_at "dt"
    refine EvN.ev (EvN.repD ?_)
    walk_at "dt"
    intro g
    have e9 : List.replicate (q * q).toNat (PyData.int 0) = (List.replicate (q * q).toNat (0 : Int)).map .int := by rw [List.map_replicate]
    show Φ _ (.list (List.replicate (q * q).toNat (PyData.int 0)))
    rw [e9]
    exact kk _ _ ⟨zq162x, fun x hx => by rw [zq223x hx]; omega, fun _ x hx => zq223x hx, (fun z => by cases z), (fun z => by cases z)⟩
  | false =>
    refine Sv.seq ?_
    refine Sv.ifS ?_
    walk_at "dt"
    by_cases c : p = 2
    · walk_at "dt"
      refine Ev.callB mono__law_even rfl ?_
      walk_at "dt"
      refine ⟨rfl, q, rfl, q2, q7, fun f1 rs hrs => ?_⟩
      refine Gv.nameF ?_
      walk_at "dt"
      refine Ev.callB mono__law_even rfl ?_
      walk_at "dt"
      refine ⟨rfl, q, rfl, q2, q7, fun f2 cs hcs => ?_⟩
      refine Gv.nameF ?_
      have hrm : (rs.map PyData.int).length = rs.length := zq0x ..
      have hcm : (cs.map PyData.int).length = cs.length := zq0x ..
      have hrl := hrs.l
      have hcl := hcs.l
      walk_at "dt"
      refine EvN.ev (EvN.compR1 (by decide) rfl ?_)
      walk_at "dt"
      refine CompD.rel PyData.int true (fun k x => x = rs.getD ((k : Int) / q).toNat 0 * cs.getD ((k : Int) % q).toNat 0) ?_ fun os hol hos => ?_
      · rintro k d ⟨hk, rfl⟩
        have d0 : 0 <= (k : Int) / q := zq89x (by omega) (by omega)
        have d1 : (k : Int) / q < q := zq195x (by omega) (by omega)
        have m0 := zq21x (k : Int) (show q ≠ 0 by omega)
        have m1 := zq22x (k : Int) (show 0 < q by omega)
        have ea : atI (rs.map PyData.int) ((k : Int) / q) = some (.int (rs.getD ((k : Int) / q).toNat 0)) := atI_some d0 (by rw [zq6x, zq3x, zq1x (by omega)]; rfl)
        have eb : atI (cs.map PyData.int) ((k : Int) % q) = some (.int (cs.getD ((k : Int) % q).toNat 0)) := atI_some m0 (by rw [zq6x, zq3x, zq1x (by omega)]; rfl)
        rw [show (0 + (k : Int)) = k by omega]
        walk_at "dt"
        refine ⟨by walk_at "wk", ?_⟩
        walk_at "dt"
        have ba := EvenR.at hrs (i := ((k : Int) / q).toNat) (by omega)
        have bb := EvenR.at hcs (i := ((k : Int) % q).toNat) (by omega)
        exact ⟨.inr ⟨by unfold Sm; omega, by unfold Sm; omega⟩, fun _ => rfl, _, rfl, rfl⟩
      have hat : ∀ k : Nat, (k : Int) < q * q -> os.getD k 0 = rs.getD ((k : Int) / q).toNat 0 * cs.getD ((k : Int) % q).toNat 0 := fun k hk => by
        have hkl : k < os.length := by omega
        rw [zq3x, zq1x hkl]
        exact hos k _ (zq1x hkl)
      refine kk _ os ⟨hol, fun x hx => ?_, (fun z => by cases z), fun _ _ => ⟨rs, cs, hrs, hcs, hat⟩, fun _ z => absurd c z⟩
      obtain ⟨k, hk⟩ := zq43x hx
      have hkl := (zq7x.mp hk).1
      rw [hos k x hk]
      have d0 : 0 <= (k : Int) / q := zq89x (by omega) (by omega)
      have d1 : (k : Int) / q < q := zq195x (by omega) (by omega)
      have m0 := zq21x (k : Int) (show q ≠ 0 by omega)
      have m1 := zq22x (k : Int) (show 0 < q by omega)
      rcases EvenR.at hrs (i := ((k : Int) / q).toNat) (by omega) with e | e <;> rcases EvenR.at hcs (i := ((k : Int) % q).toNat) (by omega) with e' | e' <;> rw [e, e'] <;> omega
    · walk_at "dt"
      refine EvN.ev (EvN.compR1 (by decide) rfl ?_)
      walk_at "dt"
      refine CompD.ints (fun x => 0 < x /\ x < p) ?_ fun os hol hos => kk _ os ⟨hol, fun x hx => by have := hos x hx; omega, (fun z => by cases z), fun _ z => absurd z c, fun _ _ x hx => (hos x hx).1⟩
      rintro i d ⟨hi, rfl⟩
      walk_at "dt"
      refine ⟨by walk_at "wk", ?_⟩
      refine Ev.callB mono__law_factor rfl ?_
      walk_at "dt"
      exact ⟨rfl, p, rfl, hp, hp40, fun x x0 x1 => ⟨x, rfl, x0, x1⟩⟩
theorem sum_zeros : ∀ l : List Nat, (l.map fun _ => (0 : Int)).sum = 0
 | [] => rfl
 | _ :: l => by rw [zq4x, zq41x, sum_zeros l]; rfl
theorem sum_near {p : Int} {a b : Nat -> Int} : ∀ l : List Nat, (∀ k ∈ l, ∃ j, a k - b k = p * j) -> ∃ j, (l.map a).sum - (l.map b).sum = p * j
  | [], _ => ⟨0, by simp⟩
  | k :: l, h => by
    obtain ⟨j, hj⟩ := h k zq19x
    obtain ⟨m, hm⟩ := sum_near l fun i hi => h i (zq23x _ hi)
    refine ⟨j + m, ?_⟩
    rw [zq4x, zq4x, zq41x, zq41x, zq102x]
    omega
theorem two_last {l : List Int} (h : 2 <= l.length) : ∃ U x y, l = U ++ [x, y] := by
 have e : l = l.reverse.reverse := (List.reverse_reverse l).symm
 have hl : l.reverse.length = l.length := List.length_reverse
 generalize l.reverse = r at e hl
 match r, e, hl with
 | [], _, hl => simp at hl; omega
 | [_], _, hl => simp at hl; omega
 | y :: x :: t, e, _ => exact ⟨t.reverse, x, y, by rw [e]; simp⟩
theorem ix_m2 {α : Type} {U : List α} {x y : α} : ixN (U ++ [x, y]).length (-2) = some U.length := by
 unfold ixN
 have : (U ++ [x, y]).length = U.length + 2 := by simp
 rw [if_neg (by decide), if_pos (by omega), this]
 congr 1
 omega
theorem ix_m1 {α : Type} {U : List α} {x y : α} : ixN (U ++ [x, y]).length (-1) = some (U.length + 1) := by
 unfold ixN
 have : (U ++ [x, y]).length = U.length + 2 := by simp
 rw [if_neg (by decide), if_pos (by omega), this]
 congr 1
 omega
theorem set_m2 {α : Type} {U : List α} {x y z : α} : (U ++ [x, y]).set U.length z = U ++ [z, y] := by
 rw [zq224x _ _ (zq5x _), Nat.sub_self]; rfl
theorem set_m1 {α : Type} {U : List α} {x y z : α} : (U ++ [x, y]).set (U.length + 1) z = U ++ [x, z] := by
 rw [zq224x _ _ (by omega), show U.length + 1 - U.length = 1 by omega]; rfl
theorem at_m2 {α : Type} {U : List α} {x y : α} : atI (U ++ [x, y]) (-2) = some x := by
 unfold atI
 rw [ix_m2]
 show (U ++ [x, y])[U.length]? = _
 rw [zq38x (zq5x _), Nat.sub_self]; rfl
theorem cut_last {α : Type} {U : List α} {x y : α} : cutA (U ++ [x, y]) none (some (-1)) = U ++ [x] := by
 unfold cutA HT.sIx
 simp only [zq130x, zq171x]
 rw [if_pos (by decide), show ((-1 : Int) + ((U ++ [x, y]).length : Nat)).toNat = U.length + 1 by simp; omega]
 rw [show U ++ [x, y] = (U ++ [x]) ++ [y] by simp, List.take_append_of_le_length (by simp)]
 exact zq114x (by simp)
def F__law_factors : DF := fun ds Φ => ∃ (p : Int) (ln ws : List Int), ds = [.int p, .list (ln.map .int), .list (ws.map .int)] /\ PrimeZ p /\ p < 10 ^ 40 /\ 2 <= ln.length /\ ln.length <= 7 /\ ws.length <= 49 /\ (∀ x ∈ ln, 0 <= x /\ x < ws.length) /\ (∀ x ∈ ws, 0 <= x /\ x < p) /\ (p = 2 \/ (∀ x ∈ ln, ws.getD x.toNat 0 = 0) \/ (∀ x ∈ ln, 0 < ws.getD x.toNat 0)) /\
 ∀ (f : Bool) (fs : List Int), fs.length = ln.length -> (∀ x ∈ fs, 0 < x /\ x < p) -> (p ≠ 2 -> ((List.range ln.length).map fun k => fs.getD k 0 * ws.getD (ln.getD k 0).toNat 0).sum % p = 0) -> Φ f (.list (fs.map .int))
theorem mono__law_factors : MonoF F__law_factors := fun ds Φ Ψ ⟨p, ln, ws, e, h1, h2, h3, h4, h5, h6, h7, h8, k⟩ w => ⟨p, ln, ws, e, h1, h2, h3, h4, h5, h6, h7, h8, fun f fs a b c => w _ _ (k f fs a b c)⟩
theorem scLawFactors : FnScope ["bag", "p", "line", "word", "parts", "rest"] ["bag", "p", "line", "word"] (defScope sLawFactors) := ⟨rfl, rfl, rfl, by decide +kernel, rfl, by decide +kernel, by decide +kernel⟩
theorem ok__law_factors (F : Fun K "_law_factors" "_law_factors" sLawFactors f fd)  (c__law_factor : Callee P w K mg base "_law_factor" 2 ["bag", "p"] (spB 2 F__law_factor)) (c__law_over : Callee P w K mg base "_law_over" 1 ["p", "a", "b"] (spD 3 F__law_over)) (m_sum : mg "sum" = none) (m_int : mg "int" = none) (m_range : mg "range" = none) (m_len : mg "len" = none)  :
  FnOk P w K mg base CX0 3 f fd ["bag", "p", "line", "word"] (spB 4 F__law_factors) := by
 refine F.ok scLawFactors (fun vs H Q E h => h.1) (fun cdv A outer s H vs Q E hr h => ?_)
 obtain ⟨b, l, ws, nb, ds, Φ, rfl, hB, hlive, hnb, hds, hΦ, hF⟩ := spB_out h
 obtain ⟨p, ln, ws, rfl, hp, hp40, l2, l7, wl, hln, hws, hc, kk⟩ := hF
 refine ⟨_, (@pss_cons _ _ _ _ _ (@ps_set _ _ (4) _ _ _ _ scLawFactors.nd rfl (Or.inr rfl) (pe_lcompC (CompOkC.of (show compOkBC (defScope sLawFactors) ["bag", "p", "line", "word", "parts", "rest"] _ ["place", "bag", "p"] [none, some 0, some 1] = true by decide +kernel)) (pi_listK (K := K) rfl (pv 2)) (fun _ _ _ _ => ⟨(pg_name (i := 0) (by show List.Nodup (["place", "bag", "p"] : List Str); decide +kernel) rfl (Or.inl rfl)), pts_nil, (@pe_callC _ _ _ _ _ _ _ _ _ _ c__law_factor (hr.mono (by decide)) (@pa_cons _ _ _ _ _ (pv 1) (@pa_cons _ _ _ _ _ (pv 2) pa_nil rfl) rfl) (by rfl) (by decide) (by rfl) (by rfl))⟩)) (by rfl) (by first | exact .inl rfl | exact .inr rfl | assumption)) (@pss_cons _ _ _ _ _ (@ps_if _ _ _ _ _ _ _ _ (PW.pt (pw_or (@pt_cmpR _ _ _ _ _ _ _ _ op_eq (pv 1) pe_int (nomark _)) (pw_or1 (@pt_cmpR _ _ _ _ _ _ _ _ op_eq (@pe_ix _ _ _ _ _ _ (rIxL K) ix_list (pv 3) (@pe_ix _ _ _ _ _ _ (rIxL K) ix_list (pv 2) pe_int (fun _ _ => rfl)) (fun _ _ => rfl)) pe_int (nomark _))))) (@pss_one _ _ _ (@ps_ret _ _ _ _ (pv 4))) pss_nil) (@pss_cons _ _ _ _ _ (@ps_set _ _ (5) _ _ _ _ scLawFactors.nd rfl (Or.inl rfl) (@pe_op _ _ _ _ _ _ _ _ op_mod (@pe_callB _ _ _ _ _ _ _ _ (rSum K) (call_sumM rfl) rfl m_sum zq203x (@pa_cons _ _ _ _ _ (@pe_slice _ _ _ _ _ _ _ _ _ (rSlL K) sl_list (pv 4) po_none (@po_some _ _ _ (@pe_un _ _ _ _ _ _ un_neg pe_int))) pa_nil rfl) (by decide) (by decide) (by rfl) (by rfl)) (pv 1)) (by rfl) (by first | exact .inl rfl | exact .inr rfl | assumption)) (@pss_cons _ _ _ _ _ (@ps_if _ _ _ _ _ _ _ _ (@pt_cmpR _ _ _ _ _ _ _ _ op_eq (pv 5) pe_int (nomark _)) (@pss_cons _ _ _ _ _ (@ps_asg _ _ _ _ _ _ (@pe_op _ _ _ _ _ _ _ _ op_add pe_int (@pe_callTy _ _ _ _ _ _ _ _ _ call_intM rfl m_int zq202x (@pa_cons _ _ _ _ _ (@pe_cmpR _ _ _ _ _ _ _ _ op_eq (@pe_ix _ _ _ _ _ _ (rIxL K) ix_list (pv 4) (@pe_un _ _ _ _ _ _ un_neg pe_int) (fun _ _ => rfl)) pe_int (nomark _)) pa_nil rfl) (by decide) (by decide) (by rfl) (by rfl))) (pg_sub (pv 4) (@pe_un _ _ _ _ _ _ un_neg pe_int) set_list) (by rfl) (by rfl) (by rfl)) (@pss_one _ _ _ (@ps_set _ _ (5) _ _ _ _ scLawFactors.nd rfl (Or.inl rfl) (@pe_op _ _ _ _ _ _ _ _ op_mod (@pe_callB _ _ _ _ _ _ _ _ (rSum K) (call_sumM rfl) rfl m_sum zq203x (@pa_cons _ _ _ _ _ (@pe_slice _ _ _ _ _ _ _ _ _ (rSlL K) sl_list (pv 4) po_none (@po_some _ _ _ (@pe_un _ _ _ _ _ _ un_neg pe_int))) pa_nil rfl) (by decide) (by decide) (by rfl) (by rfl)) (pv 1)) (by rfl) (by first | exact .inl rfl | exact .inr rfl | assumption)))) pss_nil) (@pss_cons _ _ _ _ _ (@ps_asg _ _ _ _ _ _ (@pe_op _ _ _ _ _ _ _ _ op_sub (pv 1) (pv 5)) (pg_sub (pv 4) (@pe_un _ _ _ _ _ _ un_neg pe_int) set_list) (by rfl) (by rfl) (by rfl)) (@pss_one _ _ _ (@ps_ret _ _ _ _ (pe_lcompC (CompOkC.of (show compOkBC (defScope sLawFactors) ["bag", "p", "line", "word", "parts", "rest"] _ ["k", "p", "line", "word", "parts"] [none, some 1, some 2, some 3, some 4] = true by decide +kernel)) (@pi_range1 _ _ _ _ _ _ rfl m_range (@pa_cons _ _ _ _ _ (@pe_callB _ _ _ _ _ _ _ _ (rLen K) call_lenM rfl m_len zq49x (@pa_cons _ _ _ _ _ (pv 2) pa_nil rfl) (by decide) (by decide) (by rfl) (by rfl)) pa_nil rfl) (by rfl)) (fun _ _ _ _ => ⟨(pg_name (i := 0) (by show List.Nodup (["k", "p", "line", "word", "parts"] : List Str); decide +kernel) rfl (Or.inl rfl)), pts_nil, (@pe_callC _ _ _ _ _ _ _ _ _ _ c__law_over (hr.mono (by decide)) (@pa_cons _ _ _ _ _ (pv 1) (@pa_cons _ _ _ _ _ (@pe_ix _ _ _ _ _ _ (rIxL K) ix_list (pv 4) (pv 0) (fun _ _ => rfl)) (@pa_cons _ _ _ _ _ (@pe_ix _ _ _ _ _ _ (rIxL K) ix_list (pv 3) (@pe_ix _ _ _ _ _ _ (rIxL K) ix_list (pv 2) (pv 0) (fun _ _ => rfl)) (fun _ _ => rfl)) pa_nil rfl) rfl) rfl) (by rfl) (by decide) (by rfl) (by rfl))⟩))))))))), ?_⟩
 refine Sv.enterB hB hlive hnb hds hΦ (ρ := [.bag, .d false _, .d false _, .d false _, .no, .no]) rfl ?_
 clear hΦ hds
 have p2 := hp.1
 have hlm : (ln.map PyData.int).length = ln.length := zq0x ..
 refine Sv.seq ?_
 first | refine Sv.asgN (EvN.compL (by decide) rfl ?_) | refine Sv.setCN (EvN.compL (by decide) rfl ?_)
 walk_at "dt"
 refine fun v => CompD.ints (fun x => 0 < x /\ x < p) ?_ fun os hol hos => ?_
 ·rintro i d hd
  obtain ⟨x, hx, rfl⟩ := map_at hd
  walk_at "dt"
  refine ⟨by walk_at "wk", ?_⟩
  refine Ev.callB mono__law_factor rfl ?_
  walk_at "dt"
  exact ⟨rfl, p, rfl, hp, hp40, fun x x0 x1 => ⟨x, rfl, x0, x1⟩⟩
 intro A4
 rw [hlm] at hol
 have hom : (os.map PyData.int).length = os.length := zq0x ..
 obtain ⟨l0, t0, eln⟩ : ∃ l0 t0, ln = l0 :: t0 := List.exists_cons_of_ne_nil (by intro z; rw [z] at l2; simp at l2)
 have hl0 := hln l0 (by rw [eln]; exact zq19x ..)
 have e0 : atI (ln.map PyData.int) 0 = some (.int l0) := atI_some (by decide) (by rw [eln]; rfl)
 have ew : atI (ws.map PyData.int) l0 = some (.int (ws.getD l0.toNat 0)) := atI_some hl0.1 (by rw [zq6x, zq3x, zq1x (by omega)]; rfl)
 refine Sv.seq ?_
 refine Sv.ifS ?_
 refine Tv.or ?_
 walk_at "dt"
 by_cases c : p = 2
 ·walk_at "dt"
  exact kk _ os hol hos fun z => absurd c z
 walk_at "dt"
 by_cases c0 : ws.getD l0.toNat 0 = 0
 ·walk_at "dt"
  refine kk _ os hol hos fun _ => ?_
  have hz : ∀ x ∈ ln, ws.getD x.toNat 0 = 0 := by
   rcases hc with h | h | h
   ·exact absurd h c
   ·exact h
   ·have := h l0 (by rw [eln]; exact zq19x ..); omega
  rw [show ((List.range ln.length).map fun k => os.getD k 0 * ws.getD (ln.getD k 0).toNat 0) = (List.range ln.length).map fun _ => (0 : Int) from zq68x fun k hk => by
   have hk := zq29x.mp hk
   have : ln.getD k 0 ∈ ln := by rw [zq3x, zq1x hk]; exact zq11x hk
   rw [hz _ this, zq123x]]
  rw [sum_zeros]; rfl
 have hnz : ∀ x ∈ ln, 0 < ws.getD x.toNat 0 := by
  rcases hc with h | h | h
  ·exact absurd h c
  ·have := h l0 (by rw [eln]; exact zq19x ..); exact absurd this c0
  ·exact h
 walk_at "dt"
 obtain ⟨U, x, y, rfl⟩ := two_last (l := os) (by omega)
 have eU : ∀ a b : Int, (U ++ [a, b]).map PyData.int = U.map PyData.int ++ [.int a, .int b] := fun a b => by rw [zq25x]; rfl
 have hx := hos x (by simp)
 have hy := hos y (by simp)
 rw [eU, cut_last]
 refine ⟨U ++ [x], by rw [zq25x]; rfl, _, rfl, ?_⟩
 refine Ev.var rfl ?_
 refine ⟨p, rfl, by omega, ?_⟩
 refine Gv.nameI ?_
 have hUs : (U ++ [x]).sum = U.sum + x := by rw [zq112x]; simp
 rw [hUs]
 have hUl : (U.map PyData.int ++ [PyData.int x, PyData.int y]).length = U.length + 2 := by simp
 refine Sv.seq ?_
 refine Sv.conseq (fun ρ' => ∃ (x' r : Int) (f4 : Bool), (0 < x' /\ x' < p /\ 0 < r /\ r < p /\ r = (U.sum + x') % p) /\ ρ' = [.bag, .d false (.int p), .d false (.list (ln.map .int)), .d false (.list (ws.map .int)), .own A4 f4 (U.map PyData.int ++ [.int x', .int y]), .d true (.int r)]) ?_ ?_
 ·refine Sv.ifS ?_
  have r0 := zq21x (U.sum + x) (show p ≠ 0 by omega)
  have r1 := zq22x (U.sum + x) (show 0 < p by omega)
  by_cases cr : (U.sum + x) % p = 0
  ·obtain ⟨x', ex', x0, x2, xn⟩ : ∃ x' : Int, 1 + (if decide (x = 1) = true then (1 : Int) else 0) = x' /\ 0 < x' /\ x' <= 2 /\ x' ≠ x := ⟨_, rfl, by split <;> omega, by split <;> omega, by
    by_cases c : x = 1
    ·rw [if_pos (decide_eq_true c)]; omega
    ·rw [if_neg (by simpa using c)]; omega⟩
   have hx2 : x' < p := by omega
   have r2 : (U.sum + x') % p = (x' - x) % p := by
    obtain ⟨k, hk⟩ := zq94x cr
    rw [show U.sum + x' = (x' - x) + p * k by omega, Int.add_mul_emod_self_left]
   have r3 : (x' - x) % p ≠ 0 := fun z => by
    obtain ⟨k, hk⟩ := zq94x z
    rcases zq117x k 0 with w | w | w
    ·have : p * k <= p * (-1) := zq72x (by omega) (by omega)
     omega
    ·rw [w] at hk; omega
    ·have : p * 1 <= p * k := zq72x (by omega) (by omega)
     omega
   have r4 := zq21x (x' - x) (show p ≠ 0 by omega)
   have r5 := zq22x (x' - x) (show 0 < p by omega)
   walk_at "dt"
   refine ⟨.int x, at_m2, ?_⟩
   walk_at "dt"
   refine ⟨_, _, rfl, ix_m2, ?_⟩
   rw [set_m2, ex']
   walk_at "dt"
   rw [cut_last]
   refine ⟨U ++ [x'], by rw [zq25x]; rfl, _, rfl, ?_⟩
   have hUs' : (U ++ [x']).sum = U.sum + x' := by rw [zq112x]; simp
   rw [hUs']
   walk_at "dt"
   exact ⟨x', _, _, ⟨x0, hx2, by omega, by omega, rfl⟩, rfl⟩
  ·walk_at "dt"
   exact ⟨x, _, _, ⟨hx.1, hx.2, by omega, r1, rfl⟩, rfl⟩
 rintro ρ' ⟨x', r, f4, ⟨x0, x1, r0, r1, er⟩, rfl⟩
 refine Sv.seq ?_
 refine Sv.setOwn rfl ?_
 walk_at "dt"
 refine ⟨_, _, rfl, ix_m1, ?_⟩
 rw [set_m1, <- eU x' (p - r)]
 obtain ⟨G, hG⟩ : ∃ G, U ++ [x', p - r] = G := ⟨_, rfl⟩
 rw [hG]
 have hGl : G.length = ln.length := by rw [<- hG]; simp at hol ⊢; omega
 have hGr : ∀ g ∈ G, 0 < g /\ g < p := fun g hg => by
  rw [<- hG] at hg
  rcases zq45x.mp hg with h | h
  ·exact hos g (zq85x _ h)
  ·rcases zq2x.mp h with h | h
   ·rw [h]; exact ⟨x0, x1⟩
   ·rw [zq8x.mp h]; omega
 have hGs : G.sum % p = 0 := by
  rw [<- hG, zq112x]
  have e1 : U.sum + [x', p - r].sum = (U.sum + x') - r + p := by simp; omega
  rw [e1, Int.add_emod_right, er]
  exact emod_sub (q := p) (a := U.sum + x') (b := (U.sum + x') % p) (by omega) (by rw [Int.emod_emod])
 refine Sv.demote 4 rfl ?_
 have hGm : (G.map PyData.int).length = G.length := zq0x ..
 refine Sv.ret ?_
 refine EvN.ev (EvN.compR1 (by decide) rfl ?_)
 walk_at "dt"
 refine CompD.rel PyData.int true (fun k f => (0 < f /\ f < p) /\ ∃ j, ws.getD (ln.getD k 0).toNat 0 * f - G.getD k 0 = p * j) ?_ fun fs hfl hfs => ?_
 ·rintro k d ⟨hk, rfl⟩
  have hk2 : k < ln.length := by omega
  have hlk : ln.getD k 0 ∈ ln := by rw [zq3x, zq1x hk2]; exact zq11x hk2
  obtain ⟨b0, b1⟩ := hln _ hlk
  have hgk : G.getD k 0 ∈ G := by rw [zq3x, zq1x (by omega)]; exact zq11x (by omega)
  have hgr := hGr _ hgk
  have hwk : ws.getD (ln.getD k 0).toNat 0 ∈ ws := by rw [zq3x (l := ws), zq1x (by omega)]; exact zq11x (by omega)
  have hwr := hws _ hwk
  have hw0 := hnz _ hlk
  have ea : atI (G.map PyData.int) (k : Int) = some (.int (G.getD k 0)) := atI_some (by omega) (by rw [show ((k : Int)).toNat = k by omega, zq6x, zq3x, zq1x (by omega)]; rfl)
  have eb : atI (ln.map PyData.int) (k : Int) = some (.int (ln.getD k 0)) := atI_some (by omega) (by rw [show ((k : Int)).toNat = k by omega, zq6x, zq3x, zq1x (by omega)]; rfl)
  have ec : atI (ws.map PyData.int) (ln.getD k 0) = some (.int (ws.getD (ln.getD k 0).toNat 0)) := atI_some b0 (by rw [zq6x, zq3x (l := ws), zq1x (by omega)]; rfl)
  rw [show (0 + (k : Int)) = k by omega]
  walk_at "dt"
  refine ⟨by walk_at "wk", ?_⟩
  refine Ev.callD mono__law_over ?_
  walk_at "dt"
  have hwm : ws.getD (ln.getD k 0).toNat 0 % p ≠ 0 := by rw [zq93x hwr.1 hwr.2]; omega
  refine ⟨rfl, p, G.getD k 0, _, rfl, hp, hp40, hwm, by omega, by omega, fun ⟨j, hj⟩ => ⟨fun _ => rfl, _, rfl, ⟨?_, (sol_range (by omega)).2⟩, j, hj⟩⟩
  have hs0 := (sol_range (p := p) (b := ws.getD (ln.getD k 0).toNat 0) (a := G.getD k 0) (by omega)).1
  rcases Int.lt_or_eq_of_le hs0 with h | h
  ·exact h
  ·exfalso
   rw [<- h, zq123x] at hj
   rcases zq117x j 0 with w | w | w
   ·have : p * j <= p * (-1) := zq72x (by omega) (by omega)
    omega
   ·rw [w] at hj; omega
   ·have : p * 1 <= p * j := zq72x (by omega) (by omega)
    omega
 have hfl2 : fs.length = ln.length := by omega
 have hfat : ∀ k, k < ln.length -> fs[k]? = some (fs.getD k 0) := fun k hk => by rw [zq3x, zq1x (by omega)]; rfl
 refine kk _ fs hfl2 (fun f hf => ?_) fun _ => ?_
 ·obtain ⟨k, hk⟩ := zq43x hf
  exact (hfs k f hk).1
 ·obtain ⟨j, hj⟩ := sum_near (p := p) (a := fun k => fs.getD k 0 * ws.getD (ln.getD k 0).toNat 0) (b := fun k => G.getD k 0) (List.range ln.length) fun k hk => by
   obtain ⟨_, j, hj⟩ := hfs k _ (hfat k (zq29x.mp hk))
   exact ⟨j, by rw [zq56x]; exact hj⟩
  have eG : (List.range ln.length).map (fun k => G.getD k 0) = G := by
   refine List.ext_getElem (by simp [hGl]) fun i h1 h2 => ?_
   rw [List.getElem_map, List.getElem_range, zq3x, zq1x h2]; rfl
  rw [eG] at hj
  obtain ⟨m, hm⟩ := zq94x hGs
  exact zq134x ⟨j + m, by rw [zq102x]; omega⟩
theorem take_not {N : List Int} (h : N.Nodup) {i : Nat} {x : Int} (e : N[i]? = some x) : x ∉ N.take i := fun z => by
 obtain ⟨k, hk⟩ := zq43x z
 have hki : k < i := by have := (zq7x.mp hk).1; rw [zq70x] at this; omega
 rw [zq126x hki] at hk
 obtain ⟨l1, e1⟩ := zq7x.mp hk
 obtain ⟨l2, e2⟩ := zq7x.mp e
 have := (zq150x h).mp (e1.trans e2.symm)
 omega
structure SqN (p q : Int) (d : Nat) (cs : List Prs) (ws : List Int) : Prop where
 net : DNet (q * q) d cs
 l : ws.length = (q * q).toNat
 r : ∀ x ∈ ws, 0 <= x /\ x < p
 fc : ∀ prs ∈ cs, ∀ pr ∈ prs, 0 < pr.2 /\ pr.2 < p
 t : ∀ prs ∈ cs, dueSum prs (ws.map some) % p = 0
theorem getD_set (l : List Int) (i j : Nat) (x : Int) : (l.set i x).getD j 0 = if i = j /\ i < l.length then x else l.getD j 0 := by
 rw [zq3x, List.getElem?_set, zq3x]
 by_cases c : i = j
 ·subst c
  by_cases c2 : i < l.length
  ·rw [if_pos rfl, if_pos c2, if_pos ⟨rfl, c2⟩]; rfl
  ·rw [if_pos rfl, if_neg c2, if_neg (fun z => c2 z.2), zq40x (by omega)]
 ·rw [if_neg c, if_neg (fun z => c z.1)]
theorem range_getD (l : List Int) : (List.range l.length).map (fun k => l.getD k 0) = l := by
 refine zq61x fun i => ?_
 rw [zq6x]
 by_cases c : i < l.length
 ·rw [zq119x c, zq1x c]
  show some (l.getD i 0) = _
  rw [zq3x, zq1x c]; rfl
 ·rw [zq40x (by rw [zq74x]; omega), zq40x (by omega)]; rfl
theorem sum_times (a : Int) : ∀ l : List Int, (l.map fun x => a * x).sum = a * l.sum
 | [] => by simp
 | x :: l => by rw [zq4x, zq41x, zq41x, sum_times a l, zq102x]
theorem inv_names {n : Int} {M : List Int} (hM : LotOk n M) (hA : ∀ x : Int, 0 <= x -> x < n -> x ∈ M) (hl : M.length = n.toNat) : ∃ K : List Int, K.Nodup /\ (∀ x ∈ K, 0 <= x /\ x < n) /\ K.length = n.toNat /\ ∀ x : Int, 0 <= x -> x < n -> x ∈ K /\ (K.idxOf x : Int) = M.getD x.toNat 0 := by
 have nd : ((List.range n.toNat).map fun (i : Nat) => (M.idxOf (i : Int) : Int)).Nodup := by
  refine zq76x.mpr (zq194x.imp_of_mem fun {a b} ha hb hab z => hab ?_)
  have h1 := hA a (by omega) (by have := zq29x.mp ha; omega)
  have h2 := hA b (by omega) (by have := zq29x.mp hb; omega)
  have g1 := zq1x (zq109x h1)
  have g2 := zq1x (zq109x h2)
  rw [zq196x] at g1 g2
  rw [show M.idxOf (a : Int) = M.idxOf (b : Int) by omega, g2] at g1
  have := zq36x g1
  omega
 refine ⟨_, nd, fun x hx => ?_, by simp, fun x x0 x1 => ?_⟩
 ·obtain ⟨i, hi, rfl⟩ := zq17x.mp hx
  have := zq109x (hA i (by omega) (by have := zq29x.mp hi; omega))
  omega
 ·have hxl : x.toNat < M.length := by omega
  have em : M.getD x.toNat 0 = M[x.toNat] := by rw [zq3x, zq1x hxl]; rfl
  have hr := hM.rg _ (zq11x hxl)
  rw [em]
  have hml : M[x.toNat].toNat < ((List.range n.toNat).map fun (i : Nat) => (M.idxOf (i : Int) : Int)).length := by simp; omega
  have e1 : ((List.range n.toNat).map fun (i : Nat) => (M.idxOf (i : Int) : Int))[M[x.toNat].toNat] = x := by
   rw [List.getElem_map, List.getElem_range, zq77x hr.1, hM.nd.idxOf_getElem]
   omega
  refine ⟨by rw [<- e1]; exact zq11x hml, ?_⟩
  have := nd.idxOf_getElem _ hml
  rw [e1] at this
  rw [this]
  omega
theorem line_even {q s c : Int} {r rs cc fs ws : List Int} (hrs : EvenR q rs) (hcc : EvenR q cc) (hw : ∀ k : Nat, (k : Int) < q * q -> ws.getD k 0 = rs.getD ((k : Int) / q).toNat 0 * cc.getD ((k : Int) % q).toNat 0) (q2 : 2 <= q) (hl : LnS q s c r) (hs : s = 0 \/ s = q) (hf : fs.length = r.length) (hf1 : ∀ x ∈ fs, x = 1) : ((List.range r.length).map fun k => fs.getD k 0 * ws.getD (r.getD k 0).toNat 0).sum % 2 = 0 := by
 have hll := hl.l
 have c0 := hl.c0
 have c1 := hl.c1
 have term : ∀ k : Nat, k < r.length -> fs.getD k 0 * ws.getD (r.getD k 0).toNat 0 = if s = q then rs.getD c.toNat 0 * cc.getD k 0 else cc.getD c.toNat 0 * rs.getD k 0 := fun k hk => by
  have e0 : fs.getD k 0 = 1 := hf1 _ (by rw [zq3x, zq1x (by omega)]; exact zq11x (by omega))
  have hrk : r[k]? = some (r.getD k 0) := by rw [zq3x, zq1x hk]; rfl
  have hm := hl.mem (by omega) (zq16x hrk)
  have e1 := hl.e k _ hrk
  rw [e0, zq166x, hw _ (by omega), zq77x hm.1]
  have hkq : (k : Int) < q := by omega
  by_cases z : s = q
  ·rw [if_pos z] at e1 ⊢
   have ed : r.getD k 0 / q = c := by rw [e1, zq108x, zq192x _ _ (by omega), zq143x (by omega) hkq]; omega
   have em : r.getD k 0 % q = k := by rw [e1, zq108x, zq193x, zq93x (by omega) hkq]
   rw [ed, em, zq106x]
  ·rw [if_neg z] at e1 ⊢
   have es : s = 0 := hs.elim id fun h => absurd h z
   rw [es, zq100x, zq101x, zq93x c0 c1] at e1
   have ed : r.getD k 0 / q = k := by rw [e1, zq108x, zq192x _ _ (by omega), zq143x c0 c1]; omega
   have em : r.getD k 0 % q = c := by rw [e1, zq108x, zq193x, zq93x c0 c1]
   rw [ed, em, zq106x, zq56x]
 rw [zq68x fun k hk => term k (zq29x.mp hk)]
 have fin : ∀ (a : Int) (l : List Int), l.length = r.length -> l.sum % 2 = 0 -> ((List.range r.length).map fun k => a * l.getD k 0).sum % 2 = 0 := fun a l h1 h2 => by
  have e : ((List.range r.length).map fun k => a * l.getD k 0) = (l.map fun x => a * x) := by
   rw [<- h1]
   exact (zq67x (f := fun k => l.getD k 0) (g := fun x => a * x) (l := List.range l.length)).symm.trans (by rw [range_getD])
  rw [e, sum_times, Int.mul_emod, h2, zq123x]
  rfl
 by_cases z : s = q
 ·rw [zq68x (g := fun k => rs.getD c.toNat 0 * cc.getD k 0) fun k _ => if_pos z]
  exact fin _ cc (by rw [hcc.l, hll]) hcc.s
 ·rw [zq68x (g := fun k => cc.getD c.toNat 0 * rs.getD k 0) fun k _ => if_neg z]
  exact fin _ rs (by rw [hrs.l, hll]) hrs.s
structure NmI (p q : Int) (M ws : List Int) (i : Nat) (nd : List Int) : Prop where
 l : nd.length = (q * q).toNat
 r : ∀ x ∈ nd, 0 <= x /\ x < p
 e : ∀ j : Nat, j < i -> nd.getD (M.getD j 0).toNat 0 = ws.getD j 0
theorem NmI.zero {p q : Int} {M ws : List Int} (hp : 0 < p) : NmI p q M ws 0 (List.replicate (q * q).toNat 0) :=
 ⟨zq162x, fun x hx => by rw [List.mem_replicate] at hx; omega, fun j hj => by omega⟩
theorem NmI.step {p q : Int} {M ws nd : List Int} {i : Nat} (h : NmI p q M ws i nd) (hM : M.Nodup) (hi : i < M.length) (hg : ∀ k : Nat, k < M.length -> 0 <= M.getD k 0 /\ M.getD k 0 < q * q) (hw : 0 <= ws.getD i 0 /\ ws.getD i 0 < p) : NmI p q M ws (i + 1) (nd.set (M.getD i 0).toNat (ws.getD i 0)) := by
 have hl := h.l
 refine ⟨by rw [zq47x, hl], fun x hx => ?_, fun j hj => ?_⟩
 ·rcases zq216x hx with z | rfl
  ·exact h.r x z
  ·exact hw
 ·have gi := hg i hi
  have gj := hg j (by omega)
  rw [getD_set]
  by_cases c : j = i
  ·subst c
   rw [if_pos ⟨rfl, by omega⟩]
  ·rw [if_neg (fun z => c ?_)]
   ·exact h.e j (by omega)
   ·have e : M.getD i 0 = M.getD j 0 := by omega
    rw [zq3x, zq3x, zq1x hi, zq1x (show j < M.length by omega)] at e
    exact ((zq150x hM).mp e).symm
def F__law_lines_net : DF := fun ds Φ => ds = [] /\ ∀ (f : Bool) (p q d : Int) (cs : List Prs) (ws : List Int), PrimeZ p -> p < 10 ^ 40 -> SmallP q -> 1 <= d -> d <= 8 -> cs.length <= 56 -> SqN p q d.toNat cs ws -> Φ f (.tuple [.int d, netD p (q * q) cs, .list (ws.map .int)])
theorem mono__law_lines_net : MonoF F__law_lines_net := by
 intro ds Φ Ψ hm z
 obtain ⟨e, q⟩ := hm
 exact ⟨e, fun f p n d cs ws a1 a2 a3 a4 a5 a6 a7 => z _ _ (q f p n d cs ws a1 a2 a3 a4 a5 a6 a7)⟩
theorem scLawLinesNet : FnScope ["bag", "q", "noughts", "p", "some", "d", "word", "lines", "s", "names", "checks", "line", "factors", "named", "k"] ["bag"] (defScope sLawLinesNet) := ⟨rfl, rfl, rfl, by decide +kernel, rfl, by decide +kernel, by decide +kernel⟩
theorem ok__law_lines_net (F : Fun K "_law_lines_net" "_law_lines_net" sLawLinesNet f fd)  (c__law_prime : Callee P w K mg base "_law_prime" 2 ["bag"] (spB 1 F__law_prime)) (c__law_turned : Callee P w K mg base "_law_turned" 2 ["bag", "row"] (spB 2 F__law_turned)) (c__law_word : Callee P w K mg base "_law_word" 3 ["bag", "p", "q", "noughts"] (spB 4 F__law_word)) (c__law_draw : Callee P w K mg base "_law_draw" 1 ["bag", "many"] spDraw) (c__law_factors : Callee P w K mg base "_law_factors" 3 ["bag", "p", "line", "word"] (spB 4 F__law_factors)) (c__law_direction : Callee P w K mg base "_law_direction" 1 ["q", "s"] (spD 2 F__law_direction)) (m_range : mg "range" = none) (m_list : mg "list" = none) (m_len : mg "len" = none) (m_sorted : mg "sorted" = none)  :
    FnOk P w K mg base CX0 4 f fd ["bag"] (spB 1 F__law_lines_net) := by
  refine F.ok scLawLinesNet (fun vs H Q E h => h.1) (fun cdv A outer s H vs Q E hr h => ?_)
  obtain ⟨b, l, ws, nb, ds, Φ, rfl, hB, hlive, hnb, hds, hΦ, hF⟩ := spB_out h
  obtain ⟨rfl, qq⟩ := hF
  refine ⟨_, (@pss_cons _ _ _ _ _ (@ps_set _ _ (1) _ _ _ _ scLawLinesNet.nd rfl (Or.inl rfl) (@pe_ix _ _ _ _ _ _ (rIxL K) ix_list (@pe_lst _ _ _ _ (@pa_consts _ _ _ rfl)) (@pe_callC _ _ _ _ _ _ _ _ _ _ c__law_draw (hr.mono (by decide)) (@pa_cons _ _ _ _ _ (pv 0) (@pa_cons _ _ _ _ _ pe_int pa_nil rfl) rfl) (by rfl) (by decide) (by rfl) (by rfl)) (fun _ _ => rfl)) (by rfl) (by first | exact .inl rfl | exact .inr rfl | assumption)) (@pss_cons _ _ _ _ _ (@ps_set _ _ (2) _ _ _ _ scLawLinesNet.nd rfl (Or.inl rfl) (@pe_cmpR _ _ _ _ _ _ _ _ op_eq (@pe_callC _ _ _ _ _ _ _ _ _ _ c__law_draw (hr.mono (by decide)) (@pa_cons _ _ _ _ _ (pv 0) (@pa_cons _ _ _ _ _ pe_int pa_nil rfl) rfl) (by rfl) (by decide) (by rfl) (by rfl)) pe_int (nomark _)) (by rfl) (by first | exact .inl rfl | exact .inr rfl | assumption)) (@pss_cons _ _ _ _ _ (@ps_set _ _ (3) _ _ _ _ scLawLinesNet.nd rfl (Or.inl rfl) (@pe_callC _ _ _ _ _ _ _ _ _ _ c__law_prime (hr.mono (by decide)) (@pa_cons _ _ _ _ _ (pv 0) pa_nil rfl) (by rfl) (by decide) (by rfl) (by rfl)) (by rfl) (by first | exact .inl rfl | exact .inr rfl | assumption)) (@pss_cons _ _ _ _ _ (@ps_set _ _ (4) _ _ _ _ scLawLinesNet.nd rfl (Or.inl rfl) (@pe_callC _ _ _ _ _ _ _ _ _ _ c__law_turned (hr.mono (by decide)) (@pa_cons _ _ _ _ _ (pv 0) (@pa_cons _ _ _ _ _ (@pe_callTy _ _ _ _ _ _ _ _ _ (call_listR rfl) rfl m_list zq52x (@pa_cons _ _ _ _ _ (@pe_callTy _ _ _ _ _ _ _ _ _ call_rangeM rfl m_range zq204x (@pa_cons _ _ _ _ _ (@pe_op _ _ _ _ _ _ _ _ op_add (pv 1) pe_int) pa_nil rfl) (by decide) (by decide) (by rfl) (by rfl)) pa_nil rfl) (by decide) (by decide) (by rfl) (by rfl)) pa_nil rfl) rfl) (by rfl) (by decide) (by rfl) (by rfl)) (by rfl) (by first | exact .inl rfl | exact .inr rfl | assumption)) (@pss_cons _ _ _ _ _ (@ps_if _ _ _ _ _ _ _ _ (PW.pt (pw_and (@pt_cmpR _ _ _ _ _ _ _ _ op_eq (pv 3) pe_int (nomark _)) (pw_and1 (@pt_not _ _ _ _ (@pt_truthK _ (K) _ _ rfl (pv 2) (fun _ => rfl)))))) (@pss_one _ _ _ (@ps_set _ _ (4) _ _ _ _ scLawLinesNet.nd rfl (Or.inl rfl) (@pe_ix _ _ _ _ _ _ (rIxL K) ix_list (@pe_lst _ _ _ _ (@pa_cons _ _ _ _ _ (@pe_lst _ _ _ _ (@pa_cons _ _ _ _ _ pe_int (@pa_cons _ _ _ _ _ (pv 1) pa_nil rfl) rfl)) (@pa_cons _ _ _ _ _ (@pe_lst _ _ _ _ (@pa_cons _ _ _ _ _ (pv 1) (@pa_cons _ _ _ _ _ pe_int pa_nil rfl) rfl)) pa_nil rfl) rfl)) (@pe_callC _ _ _ _ _ _ _ _ _ _ c__law_draw (hr.mono (by decide)) (@pa_cons _ _ _ _ _ (pv 0) (@pa_cons _ _ _ _ _ pe_int pa_nil rfl) rfl) (by rfl) (by decide) (by rfl) (by rfl)) (fun _ _ => rfl)) (by rfl) (by first | exact .inl rfl | exact .inr rfl | assumption))) pss_nil) (@pss_cons _ _ _ _ _ (@ps_set _ _ (5) _ _ _ _ scLawLinesNet.nd rfl (Or.inl rfl) (@pe_op _ _ _ _ _ _ _ _ op_add pe_int (@pe_callC _ _ _ _ _ _ _ _ _ _ c__law_draw (hr.mono (by decide)) (@pa_cons _ _ _ _ _ (pv 0) (@pa_cons _ _ _ _ _ (@pe_callB _ _ _ _ _ _ _ _ (rLen K) call_lenM rfl m_len zq49x (@pa_cons _ _ _ _ _ (pv 4) pa_nil rfl) (by decide) (by decide) (by rfl) (by rfl)) pa_nil rfl) rfl) (by rfl) (by decide) (by rfl) (by rfl))) (by rfl) (by first | exact .inl rfl | exact .inr rfl | assumption)) (@pss_cons _ _ _ _ _ (@ps_set _ _ (6) _ _ _ _ scLawLinesNet.nd rfl (Or.inl rfl) (@pe_callC _ _ _ _ _ _ _ _ _ _ c__law_word (hr.mono (by decide)) (@pa_cons _ _ _ _ _ (pv 0) (@pa_cons _ _ _ _ _ (pv 3) (@pa_cons _ _ _ _ _ (pv 1) (@pa_cons _ _ _ _ _ (pv 2) pa_nil rfl) rfl) rfl) rfl) (by rfl) (by decide) (by rfl) (by rfl)) (by rfl) (by first | exact .inl rfl | exact .inr rfl | assumption)) (@pss_cons _ _ _ _ _ (@ps_set _ _ (7) _ _ _ _ scLawLinesNet.nd rfl (Or.inl rfl) (@pe_lst _ _ _ _ pa_nil) (by rfl) (by first | exact .inl rfl | exact .inr rfl | assumption)) (@pss_cons _ _ _ _ _ (@ps_for _ _ _ _ _ _ _ _ zq44x rfl (pi_listK (K := K) rfl (@pe_slice _ _ _ _ _ _ _ _ _ (rSlL K) sl_list (pv 4) po_none (@po_some _ _ _ (pv 5)))) (pg_name (i := 8) scLawLinesNet.nd rfl (Or.inl rfl)) (@pss_one _ _ _ (@ps_expr _ _ _ _ (pe_bm zq95x zq225x zq226x mt_extend (pv 7) (@pa_cons _ _ _ _ _ (@pe_callC _ _ _ _ _ _ _ _ _ _ c__law_direction (hr.mono (by decide)) (@pa_cons _ _ _ _ _ (pv 1) (@pa_cons _ _ _ _ _ (pv 8) pa_nil rfl) rfl) (by rfl) (by decide) (by rfl) (by rfl)) pa_nil rfl)) (by rfl))) (by intro _; rfl)) (@pss_cons _ _ _ _ _ (@ps_if _ _ _ _ _ _ _ _ (@pt_cmpR _ _ _ _ _ _ _ _ op_lt (pv 5) (@pe_callB _ _ _ _ _ _ _ _ (rLen K) call_lenM rfl m_len zq49x (@pa_cons _ _ _ _ _ (pv 4) pa_nil rfl) (by decide) (by decide) (by rfl) (by rfl)) (nomark _)) (@pss_one _ _ _ (@ps_expr _ _ _ _ (pe_bm zq95x zq225x zq226x mt_extend (pv 7) (@pa_cons _ _ _ _ _ (@pe_slice _ _ _ _ _ _ _ _ _ (rSlL K) sl_list (@pe_callC _ _ _ _ _ _ _ _ _ _ c__law_direction (hr.mono (by decide)) (@pa_cons _ _ _ _ _ (pv 1) (@pa_cons _ _ _ _ _ (@pe_ix _ _ _ _ _ _ (rIxL K) ix_list (pv 4) (pv 5) (fun _ _ => rfl)) pa_nil rfl) rfl) (by rfl) (by decide) (by rfl) (by rfl)) po_none (@po_some _ _ _ (@pe_callC _ _ _ _ _ _ _ _ _ _ c__law_draw (hr.mono (by decide)) (@pa_cons _ _ _ _ _ (pv 0) (@pa_cons _ _ _ _ _ (@pe_op _ _ _ _ _ _ _ _ op_add (pv 1) pe_int) pa_nil rfl) rfl) (by rfl) (by decide) (by rfl) (by rfl)))) pa_nil rfl)) (by rfl))) pss_nil) (@pss_cons _ _ _ _ _ (@ps_set _ _ (9) _ _ _ _ scLawLinesNet.nd rfl (Or.inr rfl) (@pe_callC _ _ _ _ _ _ _ _ _ _ c__law_turned (hr.mono (by decide)) (@pa_cons _ _ _ _ _ (pv 0) (@pa_cons _ _ _ _ _ (@pe_callTy _ _ _ _ _ _ _ _ _ (call_listR rfl) rfl m_list zq52x (@pa_cons _ _ _ _ _ (@pe_callTy _ _ _ _ _ _ _ _ _ call_rangeM rfl m_range zq204x (@pa_cons _ _ _ _ _ (@pe_op _ _ _ _ _ _ _ _ op_mulA (pv 1) (pv 1)) pa_nil rfl) (by decide) (by decide) (by rfl) (by rfl)) pa_nil rfl) (by decide) (by decide) (by rfl) (by rfl)) pa_nil rfl) rfl) (by rfl) (by decide) (by rfl) (by rfl)) (by rfl) (by first | exact .inl rfl | exact .inr rfl | assumption)) (@pss_cons _ _ _ _ _ (@ps_set _ _ (10) _ _ _ _ scLawLinesNet.nd rfl (Or.inl rfl) (@pe_lst _ _ _ _ pa_nil) (by rfl) (by first | exact .inl rfl | exact .inr rfl | assumption)) (@pss_cons _ _ _ _ _ (@ps_for _ _ _ _ _ _ _ _ zq44x rfl (pi_listK (K := K) rfl (pv 7)) (pg_name (i := 11) scLawLinesNet.nd rfl (Or.inr rfl)) (@pss_cons _ _ _ _ _ (@ps_set _ _ (12) _ _ _ _ scLawLinesNet.nd rfl (Or.inr rfl) (@pe_callC _ _ _ _ _ _ _ _ _ _ c__law_factors (hr.mono (by decide)) (@pa_cons _ _ _ _ _ (pv 0) (@pa_cons _ _ _ _ _ (pv 3) (@pa_cons _ _ _ _ _ (pv 11) (@pa_cons _ _ _ _ _ (pv 6) pa_nil rfl) rfl) rfl) rfl) (by rfl) (by decide) (by rfl) (by rfl)) (by rfl) (by first | exact .inl rfl | exact .inr rfl | assumption)) (@pss_one _ _ _ (@ps_expr _ _ _ _ (pe_bm zq95x zq145x zq146x mt_append (pv 10) (@pa_cons _ _ _ _ _ (@pe_callB _ _ _ _ _ _ _ _ (rSortT K) call_sortT rfl m_sorted zq144x (@pa_cons _ _ _ _ _ (pe_lcompC (CompOkC.of (show compOkBC (defScope sLawLinesNet) ["bag", "q", "noughts", "p", "some", "d", "word", "lines", "s", "names", "checks", "line", "factors", "named", "k"] _ ["k", "names", "line", "factors"] [none, some 9, some 11, some 12] = true by decide +kernel)) (@pi_range1 _ _ _ _ _ _ rfl m_range (@pa_cons _ _ _ _ _ (pv 1) pa_nil rfl) (by rfl)) (fun _ _ _ _ => ⟨(pg_name (i := 0) (by show List.Nodup (["k", "names", "line", "factors"] : List Str); decide +kernel) rfl (Or.inl rfl)), pts_nil, (@pe_tup _ _ _ _ _ (@pa_cons _ _ _ _ _ (@pe_ix _ _ _ _ _ _ (rIxL K) ix_list (pv 1) (@pe_ix _ _ _ _ _ _ (rIxL K) ix_list (pv 2) (pv 0) (fun _ _ => rfl)) (fun _ _ => rfl)) (@pa_cons _ _ _ _ _ (@pe_ix _ _ _ _ _ _ (rIxL K) ix_list (pv 3) (pv 0) (fun _ _ => rfl)) pa_nil rfl) rfl))⟩)) pa_nil rfl) (by decide) (by decide) (by rfl) (by rfl)) pa_nil rfl)) (by rfl)))) (by intro _; rfl)) (@pss_cons _ _ _ _ _ (@ps_set _ _ (13) _ _ _ _ scLawLinesNet.nd rfl (Or.inl rfl) (@pe_op _ _ _ _ _ _ _ _ op_rep (@pe_lst _ _ _ _ (@pa_cons _ _ _ _ _ pe_int pa_nil rfl)) (@pe_op _ _ _ _ _ _ _ _ op_mulA (pv 1) (pv 1))) (by rfl) (by first | exact .inl rfl | exact .inr rfl | assumption)) (@pss_cons _ _ _ _ _ (@ps_for _ _ _ _ _ _ _ _ zq44x rfl (@pi_range1 _ _ _ _ _ _ rfl m_range (@pa_cons _ _ _ _ _ (@pe_op _ _ _ _ _ _ _ _ op_mulA (pv 1) (pv 1)) pa_nil rfl) (by rfl)) (pg_name (i := 14) scLawLinesNet.nd rfl (Or.inl rfl)) (@pss_one _ _ _ (@ps_asg _ _ _ _ _ _ (@pe_ix _ _ _ _ _ _ (rIxL K) ix_list (pv 6) (pv 14) (fun _ _ => rfl)) (pg_sub (pv 13) (@pe_ix _ _ _ _ _ _ (rIxL K) ix_list (pv 9) (pv 14) (fun _ _ => rfl)) set_list) (by rfl) (by rfl) (by rfl))) (by intro _; rfl)) (@pss_one _ _ _ (@ps_ret _ _ _ _ (@pe_tup _ _ _ _ _ (@pa_cons _ _ _ _ _ (pv 5) (@pa_cons _ _ _ _ _ (@pe_tup _ _ _ _ _ (@pa_cons _ _ _ _ _ (pv 3) (@pa_cons _ _ _ _ _ (@pe_op _ _ _ _ _ _ _ _ op_mulA (pv 1) (pv 1)) (@pa_cons _ _ _ _ _ (@pe_callC _ _ _ _ _ _ _ _ _ _ c__law_turned (hr.mono (by decide)) (@pa_cons _ _ _ _ _ (pv 0) (@pa_cons _ _ _ _ _ (pv 10) pa_nil rfl) rfl) (by rfl) (by decide) (by rfl) (by rfl)) pa_nil rfl) rfl) rfl)) (@pa_cons _ _ _ _ _ (pv 13) pa_nil rfl) rfl) rfl))))))))))))))))))), ?_⟩
  refine Sv.enterB hB hlive hnb hds hΦ (ρ := [.bag, .no, .no, .no, .no, .no, .no, .no, .no, .no, .no, .no, .no, .no, .no]) rfl ?_
  clear hΦ hds
  walk_at "dt"
  intro s0 s1 s2
  have hsp0 : ∀ x ∈ ([2, 3, 5, 7] : List Int), SmallP x := by unfold SmallP; decide
  obtain ⟨q, eq, hq⟩ := pick (L := [2, 3, 5, 7]) (k := s0) (by omega) (by show s0 < 4; omega) SmallP hsp0
  refine ⟨_, rfl, _, eq, ?_⟩
  have q2 : 2 <= q := by rcases hq with rfl | rfl | rfl | rfl <;> decide
  have q7 : q <= 7 := by rcases hq with rfl | rfl | rfl | rfl <;> decide
  have hqq : (q + 1) * q <= 56 := by rcases hq with rfl | rfl | rfl | rfl <;> decide
  have hqq2 : 4 <= q * q /\ q * q <= 49 := by rcases hq with rfl | rfl | rfl | rfl <;> decide
  walk_at "dt"
  intro zd z0 z1
  walk_at "dt"
  obtain ⟨z, ez⟩ : ∃ z, decide (zd = 7) = z := ⟨_, rfl⟩
  rw [ez]
  refine Ev.callB mono__law_prime rfl ?_
  walk_at "dt"
  refine ⟨rfl, fun p hp hp40 f3 => ?_⟩
  have p2 := hp.1
  walk_at "dt"
  refine Ev.callB mono__law_turned rfl ?_
  walk_at "dt"
  refine EvN.ev (EvN.listRange ?_)
  walk_at "dt"
  refine ⟨rfl, _, rfl, by simp; omega, fun f4 rs hrs => ?_⟩
  obtain ⟨N, rfl, hN⟩ := perm_map_inv hrs ((List.range (q + 1).toNat).map fun (i : Nat) => 0 + (i : Int)) rfl
  have hNo : LotOk (q + 1) N := (LotOk.range0 (by omega)).perm hN
  have hNl : N.length = (q + 1).toNat := by rw [hN.length_eq]; simp
  refine Gv.nameF ?_
  refine Sv.seq ?_
  refine Sv.conseq (fun ρ' => ∃ (S : List Int) (f3 f4 : Bool), (LotOk (q + 1) S /\ 1 <= S.length /\ S.length <= (q + 1).toNat /\ (p = 2 -> z = false -> ∀ s ∈ S, s = 0 \/ s = q)) /\ ρ' = [.bag, .d true (.int q), .d true (.bool z), .d f3 (.int p), .d f4 (.list (S.map .int)), .no, .no, .no, .no, .no, .no, .no, .no, .no, .no]) ?_ ?_
  · refine Sv.ifS ?_
    refine Tv.and ?_
    walk_at "dt"
    by_cases c : p = 2
    · walk_at "dt"
      cases z with
      | true =>
        walk_at "dt"
        exact ⟨N, _, _, ⟨hNo, by omega, by omega, fun _ z => by cases z⟩, rfl⟩
      | false =>
        walk_at "dt"
        intro w w0 w1
        refine ⟨_, rfl, ?_⟩
        rcases (by omega : w = 0 \/ w = 1) with rfl | rfl
        · refine ⟨.list (([0, q] : List Int).map .int), by rfl, ?_⟩
          refine Gv.nameF ?_
          exact ⟨[0, q], _, _, ⟨⟨by simp; omega, by simp; omega⟩, by simp, by simp; omega, fun _ _ s hs => by simpa using hs⟩, rfl⟩
        · refine ⟨.list (([q, 0] : List Int).map .int), by rfl, ?_⟩
          refine Gv.nameF ?_
          exact ⟨[q, 0], _, _, ⟨⟨by simp; omega, by simp; omega⟩, by simp, by simp; omega, fun _ _ s hs => by simp at hs; omega⟩, rfl⟩
    · walk_at "dt"
      exact ⟨N, _, _, ⟨hNo, by omega, by omega, fun z => absurd z c⟩, rfl⟩
  rintro ρ ⟨S, f3, f4, ⟨hSo, hS1, hS2, hS3⟩, rfl⟩
  have hSm : (S.map PyData.int).length = S.length := zq0x ..
  walk_at "dt"
  intro d0 d1 d2
  obtain ⟨d, ed, d3, d4⟩ : ∃ d : Int, 1 + d0 = d /\ 1 <= d /\ d <= S.length := ⟨_, rfl, by omega, by omega⟩
  refine ⟨_, rfl, Gv.nameI ?_⟩
  rw [ed]
  walk_at "dt"
  refine Ev.callB mono__law_word rfl ?_
  walk_at "dt"
  refine ⟨rfl, p, q, z, rfl, hp, hp40, q2, q7, fun f6 ws hws => ?_⟩
  refine Gv.nameF ?_
  walk_at "dt"
  intro A7
  refine Sv.seq ?_
  refine Sv.forL ?_
  walk_at "dt"
  rw [cut_take (by omega), <- zq205x]
  have hTl : (S.take d.toNat).length = d.toNat := by rw [zq70x]; omega
  have hTm : ((S.take d.toNat).map PyData.int).length = (S.take d.toNat).length := zq0x ..
  have hmul : ∀ i : Nat, ((i + 1 : Nat) : Int) * q = (i : Int) * q + q := fun i => by rw [zq191x, zq103x]; simp
  have hiq : ∀ i : Int, 0 <= i -> i <= q + 1 -> i * q <= 56 := fun i h0 h1 => zq147x (zq128x h1 (by omega)) hqq
  refine fun v => ⟨fun i ρ => ∃ (R : List (List Int)) (T : List (Int × Int)) (f7 : Bool) (x8 : Sl), ((R.length : Int) <= i * q /\ LnL q R T /\ (∀ t ∈ T, t.1 ∈ S.take i) /\ ∀ x : Int, 0 <= x -> x < q * q -> i <= R.countP fun r => decide (x ∈ r)) /\ ρ = [.bag, .d true (.int q), .d true (.bool z), .d f3 (.int p), .d f4 (.list (S.map .int)), .d true (.int d), .d false (.list (ws.map .int)), .own A7 f7 (R.map rowD), x8, .no, .no, .no, .no, .no, .no], ⟨[], [], _, _, ⟨by simp, ⟨rfl, List.nodup_nil, fun i r t z => by simp at z⟩, (fun _ h => nomatch h), fun x _ _ => zq37x _⟩, rfl⟩, ?_, ?_⟩
  · rintro i e ρ hd ⟨R, T, f7, x8, ⟨h1, h2, h3, h4⟩, rfl⟩
    obtain ⟨sl, hsl, rfl⟩ := map_at hd
    have hil := (zq7x.mp hsl).1
    have hsN : S[i]? = some sl := by rw [zq126x (by omega)] at hsl; exact hsl
    obtain ⟨sl0, sl1⟩ := hSo.rg sl (zq16x hsN)
    have hb := hiq i (by omega) (by omega)
    refine Gv.nameI ?_
    refine Sv.extend rfl ?_
    refine Ev.callD mono__law_direction ?_
    walk_at "dt"
    refine ⟨rfl, q, sl, rfl, q2, q7, sl0, by omega, fun R' hR'l hR' => ?_⟩
    refine ⟨_, rfl, by rw [zq0x, zq0x]; omega, ?_⟩
    rw [<- zq25x]
    refine ⟨R ++ R', T ++ (List.range R'.length).map (fun (t : Nat) => (sl, (t : Int))), _, _, ⟨by rw [zq30x, hmul]; omega, h2.app (.block hR') fun t ht z => ?_, fun t ht => ?_, fun x x0 x1 => ?_⟩, rfl⟩
    · obtain ⟨c, _, rfl⟩ := zq17x.mp z
      have := h3 _ ht
      exact take_not hSo.nd hsN this
    · rw [take_snoc hsN]
      rcases zq45x.mp ht with z | z
      · exact zq85x _ (h3 t z)
      · obtain ⟨c, _, rfl⟩ := zq17x.mp z
        exact zq53x _ (by simp)
    · rw [List.countP_append]
      have a1 := h4 x x0 x1
      obtain ⟨r, hr, hxr⟩ := LnS.has (by omega) hR'l hR' x0 x1
      have a2 : 0 < R'.countP fun r => decide (x ∈ r) := List.countP_pos_iff.mpr ⟨r, hr, decide_eq_true hxr⟩
      omega
  rintro ρ ⟨R, T, f7, x8, ⟨h1, h2, h3, h4⟩, rfl⟩
  rw [hTm, hTl] at h1 h3 h4
  refine Sv.seq ?_
  refine Sv.conseq (fun ρ' => ∃ (R : List (List Int)) (T : List (Int × Int)) (f7 : Bool), ((R.length : Int) <= 56 /\ LnL q R T /\ (∀ t ∈ T, t.1 ∈ S) /\ ∀ x : Int, 0 <= x -> x < q * q -> d.toNat <= R.countP fun r => decide (x ∈ r)) /\ ρ' = [.bag, .d true (.int q), .d true (.bool z), .d f3 (.int p), .d f4 (.list (S.map .int)), .d true (.int d), .d false (.list (ws.map .int)), .own A7 f7 (R.map rowD), x8, .no, .no, .no, .no, .no, .no]) ?_ ?_
  · refine Sv.ifS ?_
    walk_at "dt"
    by_cases c : d < S.length
    · have hb := hiq (d + 1) (by omega) (by omega)
      rw [zq103x] at hb
      rw [show ((d.toNat : Nat) : Int) = d by omega] at h1
      have hdN : d.toNat < S.length := by omega
      obtain ⟨sl, hsN⟩ : ∃ sl, S[d.toNat]? = some sl := ⟨_, zq1x hdN⟩
      obtain ⟨sl0, sl1⟩ := hSo.rg sl (zq16x hsN)
      walk_at "dt"
      refine Sv.extend rfl ?_
      walk_at "dt"
      refine Ev.callD mono__law_direction ?_
      walk_at "dt"
      refine ⟨.int sl, atI_some (by omega) (by rw [zq6x, hsN]; rfl), ?_⟩
      walk_at "dt"
      refine ⟨rfl, q, sl, rfl, q2, q7, sl0, by omega, fun R' hR'l hR' => ?_⟩
      refine ⟨_, rfl, ?_⟩
      walk_at "dt"
      intro m m0 m1
      refine ⟨_, rfl, ?_⟩
      rw [cut_take m0, <- zq205x]
      obtain ⟨R2, hR2⟩ : ∃ R2, R'.take m.toNat = R2 := ⟨_, rfl⟩
      have hR2l : R2.length <= q.toNat := by rw [<- hR2, zq70x]; omega
      have hR2' : ∀ (t : Nat) r, R2[t]? = some r -> LnS q sl t r := fun t r e => by
        rw [<- hR2] at e
        have hlt := (zq7x.mp e).1
        rw [zq70x] at hlt
        rw [zq126x (by omega)] at e
        exact hR' t r e
      rw [hR2]
      refine ⟨_, rfl, by rw [zq0x, zq0x]; omega, ?_⟩
      rw [<- zq25x]
      refine ⟨R ++ R2, T ++ (List.range R2.length).map (fun (t : Nat) => (sl, (t : Int))), _, ⟨by rw [zq30x]; omega, h2.app (.block hR2') fun t ht z => ?_, fun t ht => ?_, fun x x0 x1 => ?_⟩, rfl⟩
      · obtain ⟨c, _, rfl⟩ := zq17x.mp z
        exact take_not hSo.nd hsN (h3 _ ht)
      · rcases zq45x.mp ht with z | z
        · exact zq121x (h3 t z)
        · obtain ⟨c, _, rfl⟩ := zq17x.mp z
          exact zq16x hsN
      · rw [List.countP_append]
        have := h4 x x0 x1
        omega
    · walk_at "dt"
      have hb := hiq d (by omega) (by omega)
      exact ⟨R, T, _, ⟨by rw [show ((d.toNat : Nat) : Int) = d by omega] at h1; omega, h2, fun t ht => zq121x (h3 t ht), h4⟩, rfl⟩
  clear h1 h2 h3 h4
  rintro ρ ⟨R, T, f7, ⟨h1, h2, h3, h4⟩, rfl⟩
  refine Sv.demote 7 rfl ?_
  walk_at "dt"
  refine Ev.callB mono__law_turned rfl ?_
  walk_at "dt"
  refine EvN.ev (EvN.listRange ?_)
  walk_at "dt"
  refine ⟨rfl, _, rfl, by simp; omega, fun f9 rs hrs => ?_⟩
  obtain ⟨M, rfl, hM⟩ := perm_map_inv hrs ((List.range (q * q).toNat).map fun (i : Nat) => 0 + (i : Int)) rfl
  have hMo : LotOk (q * q) M := (LotOk.range0 (by omega)).perm hM
  have hMl : M.length = (q * q).toNat := by rw [hM.length_eq]; simp
  have hMm : (M.map PyData.int).length = M.length := zq0x ..
  refine Gv.nameF ?_
  walk_at "dt"
  intro A10
  have hRm : (R.map rowD).length = R.length := zq0x ..
  have hwl := hws.l
  have hLS : ∀ (i : Nat) r, R[i]? = some r -> ∃ t, T[i]? = some t /\ LnS q t.1 t.2 r := fun i r hi => by
    have hiT : i < T.length := by have := (zq7x.mp hi).1; have := h2.l; omega
    exact ⟨_, zq1x hiT, h2.e i r _ hi (zq1x hiT)⟩
  refine Sv.seq ?_
  refine Sv.forL ?_
  walk_at "dt"
  refine fun v => ⟨fun i ρ => ∃ (cs : List Prs) (f10 : Bool) (x11 x12 : Sl), (cs.length = i /\ ∀ (j : Nat) prs, cs[j]? = some prs -> ∃ (r fs : List Int), R[j]? = some r /\ fs.length = r.length /\ (∀ x ∈ fs, 0 < x /\ x < p) /\ (p ≠ 2 -> ((List.range r.length).map fun k => fs.getD k 0 * ws.getD (r.getD k 0).toNat 0).sum % p = 0) /\ prs.Perm ((List.range q.toNat).map fun k => (M.getD (r.getD k 0).toNat 0, fs.getD k 0))) /\ ρ = [.bag, .d true (.int q), .d true (.bool z), .d f3 (.int p), .d f4 (.list (S.map .int)), .d true (.int d), .d false (.list (ws.map .int)), .d f7 (.list (R.map rowD)), x8, .d false (.list (M.map .int)), .own A10 f10 (cs.map prsD), x11, x12, .no, .no], ⟨[], _, _, _, ⟨rfl, fun j prs z => by simp at z⟩, rfl⟩, ?_, ?_⟩
  · rintro i e ρ hd ⟨cs, f10, x11, x12, ⟨g1, g2⟩, rfl⟩
    obtain ⟨r, hr, rfl⟩ := map_at hd
    have hil := (zq7x.mp hr).1
    obtain ⟨t, ht, hln⟩ := hLS i r hr
    have hrl := hln.l
    have hrm : (r.map PyData.int).length = r.length := zq0x ..
    have hcm : (cs.map prsD).length = cs.length := zq0x ..
    have hrg : ∀ x ∈ r, 0 <= x /\ x < ws.length := fun x hx => by have := hln.mem (by omega) hx; omega
    unfold rowD
    walk_at "dt"
    refine Ev.callB mono__law_factors rfl ?_
    walk_at "dt"
    refine ⟨rfl, p, r, ws, rfl, hp, hp40, by omega, by omega, by omega, hrg, hws.r, ?_, fun f12 fs hfl hfr hfs => ?_⟩
    · by_cases c : p = 2
      · exact .inl c
      · have hgm : ∀ x ∈ r, ws.getD x.toNat 0 ∈ ws := fun x hx => by
          have := hrg x hx
          rw [zq3x, zq1x (by omega)]; exact zq11x (by omega)
        cases hz : z with
        | true => exact .inr (.inl fun x hx => hws.o hz _ (hgm x hx))
        | false => exact .inr (.inr fun x hx => hws.n hz c _ (hgm x hx))
    refine Gv.nameF ?_
    have hfm : (fs.map PyData.int).length = fs.length := zq0x ..
    walk_at "dt"
    refine EvN.ev (EvN.sortT ?_)
    refine EvN.ev (EvN.compR1 (by decide) rfl ?_)
    walk_at "dt"
    refine CompD.rel pairD false (fun k pr => pr = (M.getD (r.getD k 0).toNat 0, fs.getD k 0)) ?_ fun prs hpl hprs => ?_
    · rintro k e ⟨hk, rfl⟩
      have hk2 : k < r.length := by omega
      obtain ⟨b0, b1⟩ := hrg (r.getD k 0) (by rw [zq3x, zq1x hk2]; exact zq11x hk2)
      have ea : atI (r.map PyData.int) (k : Int) = some (.int (r.getD k 0)) := atI_some (by omega) (by rw [show ((k : Int)).toNat = k by omega, zq6x, zq3x, zq1x hk2]; rfl)
      have eb : atI (fs.map PyData.int) (k : Int) = some (.int (fs.getD k 0)) := atI_some (by omega) (by rw [show ((k : Int)).toNat = k by omega, zq6x, zq3x, zq1x (by omega)]; rfl)
      have ec : atI (M.map PyData.int) (r.getD k 0) = some (.int (M.getD (r.getD k 0).toNat 0)) := atI_some b0 (by rw [zq6x, zq3x (l := M), zq1x (by omega)]; rfl)
      rw [show (0 + (k : Int)) = k by omega]
      walk_at "dt"
      refine ⟨by walk_at "wk", ?_⟩
      walk_at "dt"
      exact ⟨(fun z => by cases z), (M.getD (r.getD k 0).toNat 0, fs.getD k 0), rfl, rfl⟩
    have epr : prs = (List.range q.toNat).map fun k => (M.getD (r.getD k 0).toNat 0, fs.getD k 0) := map_range hpl hprs
    refine ⟨prs, rfl, by omega, fun prs' g hpp => ⟨by omega, ?_⟩⟩
    refine ⟨cs ++ [prs'], _, _, _, ⟨by simp; omega, fun j ps e => ?_⟩, by rw [zq25x]; rfl⟩
    by_cases c : j < cs.length
    · rw [zq34x c] at e
      exact g2 j ps e
    · have hj : j = cs.length := by
        have := (zq7x.mp e).1
        rw [zq30x, zq60x] at this
        omega
      subst hj
      rw [zq227x] at e
      cases e
      exact ⟨r, fs, by rw [g1]; exact hr, hfl, hfr, hfs, by rw [<- epr]; exact hpp⟩
  rintro ρ ⟨cs, f10, x11, x12, ⟨g1, g2⟩, rfl⟩
  rw [hRm] at g1
  have hMg : ∀ k : Nat, k < (q * q).toNat -> 0 <= M.getD k 0 /\ M.getD k 0 < q * q := fun k hk => by
    rw [zq3x, zq1x (by omega)]; exact hMo.rg _ (zq11x (by omega))
  refine Sv.demote 10 rfl ?_
  refine Sv.seq ?_
  refine Sv.asgN (EvN.repD ?_)
  walk_at "dt"
  intro g13 A13
  have hz : List.replicate (q * q).toNat (PyData.int 0) = (List.replicate (q * q).toNat (0 : Int)).map PyData.int := by rw [List.map_replicate]
  rw [hz]
  refine Sv.lift 13 rfl (scAll_ints _) ?_
  refine Sv.seq ?_
  refine Sv.forR1 ?_
  walk_at "dt"
  refine ⟨fun i ρ => ∃ (nd : List Int) (f13 : Bool) (x14 : Sl), NmI p q M ws i nd /\ ρ = [.bag, .d true (.int q), .d true (.bool z), .d f3 (.int p), .d f4 (.list (S.map .int)), .d true (.int d), .d false (.list (ws.map .int)), .d f7 (.list (R.map rowD)), x8, .d false (.list (M.map .int)), .d f10 (.list (cs.map prsD)), x11, x12, .own A13 f13 (nd.map .int), x14], ⟨_, _, _, NmI.zero (by omega), rfl⟩, ?_, ?_⟩
  · rintro i e ρ ⟨hi, rfl⟩ ⟨nd, f13, x14, hI, rfl⟩
    have hiq2 : i < (q * q).toNat := by omega
    have hm := hMg i hiq2
    have ew : atI (ws.map PyData.int) (0 + (i : Int)) = some (.int (ws.getD i 0)) := atI_some (by omega) (by rw [show (0 + (i : Int)).toNat = i by omega, zq6x, zq3x, zq1x (by omega)]; rfl)
    have em : atI (M.map PyData.int) (0 + (i : Int)) = some (.int (M.getD i 0)) := atI_some (by omega) (by rw [show (0 + (i : Int)).toNat = i by omega, zq6x, zq3x, zq1x (by omega)]; rfl)
    have hndl := hI.l
    refine Gv.nameI ?_
    refine Sv.setOwn rfl ?_
    walk_at "dt"
    refine ⟨_, _, rfl, ixN_at hm.1 (by rw [zq0x]; omega), ?_⟩
    rw [<- zq200x]
    exact ⟨_, _, _, hI.step hMo.nd (by omega) (fun k hk => hMg k (by omega)) (hws.r _ (by rw [zq3x, zq1x (by omega)]; exact zq11x (by omega))), rfl⟩
  rintro ρ ⟨nd, f13, x14, hI, rfl⟩
  rw [show (q * q).toNat = ws.length by omega] at hI
  refine Sv.demote 13 rfl ?_
  have hMa : ∀ x : Int, 0 <= x -> x < q * q -> x ∈ M := fun x x0 x1 => by
    rw [hM.mem_iff, zq17x]
    exact ⟨x.toNat, zq29x.mpr (by omega), by omega⟩
  obtain ⟨Kn, k1, k2, k3, k4⟩ := inv_names hMo (by omega) hMl
  have hRn : ∀ r ∈ R, r.Nodup /\ r.length = q.toNat := fun r hr => by
    obtain ⟨i, hi⟩ := zq43x hr
    obtain ⟨t, ht, hln⟩ := hLS i r hi
    exact ⟨(hln.rise (by omega)).imp fun h => by omega, hln.l⟩
  have hDN0 : DNet (Kn.length : Int) d.toNat cs := DNet.named (d := d.toNat) (q := q) k1 k2 (fun r hr => (hRn r hr).1) ((ap_s fun r hr => by
    obtain ⟨i, hi⟩ := zq43x hr
    obtain ⟨t, ht, hln⟩ := hLS i r hi
    exact hln.rise (by omega)).mp (h2.ap hq)) h4 g1 fun j prs e => by
      obtain ⟨r, fs, q1, q2, q3, q4, q5⟩ := g2 j prs e
      obtain ⟨t, ht, hln⟩ := hLS j r q1
      refine ⟨r, q1, (q5.map _).trans (List.Perm.of_eq ?_)⟩
      have hall : ∀ x ∈ r, x ∈ Kn := fun x hx => by have := hln.mem (by omega) hx; exact (k4 x this.1 this.2.1).1
      rw [List.filter_eq_self.mpr fun x hx => decide_eq_true (hall x hx), zq67x, <- hln.l]
      conv => rhs; rw [<- range_getD r, zq67x]
      refine zq68x fun k hk => ?_
      have hkl := zq29x.mp hk
      have hxr : r.getD k 0 ∈ r := by rw [zq3x, zq1x hkl]; exact zq11x hkl
      have := hln.mem (by omega) hxr
      exact ((k4 _ this.1 this.2.1).2).symm
  have hDN : DNet (q * q) d.toNat cs := by rw [show q * q = (Kn.length : Int) by omega]; exact hDN0
  have hSq : SqN p q d.toNat cs nd := by
    refine ⟨hDN, hI.l, hI.r, fun prs hp pr hpr => ?_, fun prs hp => ?_⟩
    · obtain ⟨j, hj⟩ := zq43x hp
      obtain ⟨r, fs, q1, q2, q3, q4, q5⟩ := g2 j prs hj
      obtain ⟨t, ht, hln⟩ := hLS j r q1
      obtain ⟨k, hk, e9⟩ := zq17x.mp (q5.mem_iff.mp hpr)
      have hkl := zq29x.mp hk
      have hl9 := hln.l
      rw [<- e9]
      refine q3 _ ?_
      show fs.getD k 0 ∈ fs
      rw [zq3x, zq1x (by omega)]; exact zq11x (by omega)
    · obtain ⟨j, hj⟩ := zq43x hp
      obtain ⟨r, fs, q1, q2, q3, q4, q5⟩ := g2 j prs hj
      obtain ⟨t, ht, hln⟩ := hLS j r q1
      have hl9 := hln.l
      have hrg : ∀ k : Nat, k < q.toNat -> 0 <= r.getD k 0 /\ r.getD k 0 < q * q := fun k hk => by
        have := hln.mem (by omega) (x := r.getD k 0) (by rw [zq3x, zq1x (by omega)]; exact zq11x (by omega))
        exact ⟨this.1, this.2.1⟩
      have e1 : dueSum prs (nd.map some) = ((List.range r.length).map fun k => fs.getD k 0 * ws.getD (r.getD k 0).toNat 0).sum := by
        rw [due_perm q5, due_all (n := q * q) hI.l _ fun pr hpr => ?_, zq67x, hl9]
        · congr 1
          refine zq68x fun k hk => ?_
          have hkl := zq29x.mp hk
          have := hrg k hkl
          show gI nd (M.getD (r.getD k 0).toNat 0).toNat * fs.getD k 0 = _
          rw [zq56x]
          congr 1
          exact hI.e _ (by omega)
        · obtain ⟨k, hk, e9⟩ := zq17x.mp hpr
          have := hrg k (zq29x.mp hk)
          rw [<- e9]
          exact hMg _ (by omega)
      rw [e1]
      by_cases c : p = 2
      · cases hz9 : z with
        | true =>
          have e2 : ((List.range r.length).map fun k => fs.getD k 0 * ws.getD (r.getD k 0).toNat 0) = (List.range r.length).map fun _ => (0 : Int) := zq68x fun k hk => by
            have := hrg k (by have := zq29x.mp hk; omega)
            rw [hws.o hz9 (ws.getD (r.getD k 0).toNat 0) (by rw [zq3x, zq1x (by omega)]; exact zq11x (by omega)), zq123x]
          rw [e2, sum_zeros]
          rfl
        | false =>
          obtain ⟨rs, cc, hrs, hcc, hwk⟩ := hws.t hz9 c
          have ht9 := hS3 c hz9 t.1 (h3 t (zq16x ht))
          rw [c] at q3 ⊢
          exact line_even hrs hcc hwk (by omega) hln ht9 q2 fun x hx => by have := q3 x hx; omega
      · exact q4 c
  clear hI g2 hDN0 hDN hws h4 h3
  walk_at "dt"
  refine Ev.callB mono__law_turned rfl ?_
  walk_at "dt"
  refine ⟨rfl, _, rfl, by rw [zq0x]; omega, fun fz rz hrz => ?_⟩
  obtain ⟨zs, rfl, hzs⟩ := perm_map_inv hrz cs rfl
  have hzl := hzs.length_eq
  walk_at "dt"
  exact qq _ p q d zs nd hp hp40 hq d3 (by omega) (by omega) ⟨hSq.net.perm hzs, hSq.l, hSq.r, fun prs h => hSq.fc prs (hzs.mem_iff.mp h), fun prs h => hSq.t prs (hzs.mem_iff.mp h)⟩
def F__law_losses : DF := fun ds Φ => ∃ (p n d : Int) (cs : List Prs), ds = [netD p n cs, .int d] /\ 1 <= n /\ n <= 49 /\ 1 <= d /\ d <= 8 /\ CksOk n cs /\ cs ≠ [] /\ cs.length <= 56 /\ ∀ (f : Bool) (rs : List Int), LotOk n rs -> (rs.length : Int) <= d -> Φ f (.list (rs.map .int))
theorem mono__law_losses : MonoF F__law_losses := by
 intro ds Φ Ψ hm z
 obtain ⟨p, n, d, cs, e, h1, h2, h3, h4, h5, h6, h7, q⟩ := hm
 exact ⟨p, n, d, cs, e, h1, h2, h3, h4, h5, h6, h7, fun f rs a b => z _ _ (q f rs a b)⟩
theorem scLawLosses : FnScope ["bag", "net", "d", "many", "first", "others"] ["bag", "net", "d"] (defScope sLawLosses) := ⟨rfl, rfl, rfl, by decide +kernel, rfl, by decide +kernel, by decide +kernel⟩
theorem ok__law_losses (F : Fun K "_law_losses" "_law_losses" sLawLosses f fd)  (c__law_draw : Callee P w K mg base "_law_draw" 1 ["bag", "many"] spDraw) (c__law_turned : Callee P w K mg base "_law_turned" 2 ["bag", "row"] (spB 2 F__law_turned)) (m_list : mg "list" = none) (m_range : mg "range" = none) (m_len : mg "len" = none)  :
  FnOk P w K mg base CX0 3 f fd ["bag", "net", "d"] (spB 3 F__law_losses) := by
 refine F.ok scLawLosses (fun vs H Q E h => h.1) (fun cdv A outer s H vs Q E hr h => ?_)
 obtain ⟨b, l, ws, nb, ds, Φ, rfl, hB, hlive, hnb, hds, hΦ, hF⟩ := spB_out h
 obtain ⟨p, n, d, cs, rfl, n0, n1, d0, d1, hck, hne, hcl, q⟩ := hF
 refine ⟨_, (@pss_cons _ _ _ _ _ (@ps_set _ _ (3) _ _ _ _ scLawLosses.nd rfl (Or.inl rfl) (@pe_ix _ _ _ _ _ _ (rIxL K) ix_list (@pe_lst _ _ _ _ (@pa_cons _ _ _ _ _ (pv 2) (@pa_cons _ _ _ _ _ (pv 2) (@pa_cons _ _ _ _ _ (@pe_callC _ _ _ _ _ _ _ _ _ _ c__law_draw (hr.mono (by decide)) (@pa_cons _ _ _ _ _ (pv 0) (@pa_cons _ _ _ _ _ (@pe_op _ _ _ _ _ _ _ _ op_add (pv 2) pe_int) pa_nil rfl) rfl) (by rfl) (by decide) (by rfl) (by rfl)) pa_nil rfl) rfl) rfl)) (@pe_callC _ _ _ _ _ _ _ _ _ _ c__law_draw (hr.mono (by decide)) (@pa_cons _ _ _ _ _ (pv 0) (@pa_cons _ _ _ _ _ pe_int pa_nil rfl) rfl) (by rfl) (by decide) (by rfl) (by rfl)) (fun _ _ => rfl)) (by rfl) (by first | exact .inl rfl | exact .inr rfl | assumption)) (@pss_cons _ _ _ _ _ (@ps_set _ _ (4) _ _ _ _ scLawLosses.nd rfl (Or.inr rfl) (@pe_lst _ _ _ _ pa_nil) (by rfl) (by first | exact .inl rfl | exact .inr rfl | assumption)) (@pss_cons _ _ _ _ _ (@ps_if _ _ _ _ _ _ _ _ (@pt_cmpR _ _ _ _ _ _ _ _ op_eq (@pe_callC _ _ _ _ _ _ _ _ _ _ c__law_draw (hr.mono (by decide)) (@pa_cons _ _ _ _ _ (pv 0) (@pa_cons _ _ _ _ _ pe_int pa_nil rfl) rfl) (by rfl) (by decide) (by rfl) (by rfl)) pe_int (nomark _)) (@pss_one _ _ _ (@ps_set _ _ (4) _ _ _ _ scLawLosses.nd rfl (Or.inr rfl) (pe_lcompC (CompOkC.of (show compOkBC (defScope sLawLosses) ["bag", "net", "d", "many", "first", "others"] _ ["place", "factor"] [none, none] = true by decide +kernel)) (pi_listK (K := K) rfl (@pe_ix _ _ _ _ _ _ (rIxL K) ix_list (@pe_ix _ _ _ _ _ _ (rIxT K) ix_tup (pv 1) pe_int (fun _ _ => rfl)) (@pe_callC _ _ _ _ _ _ _ _ _ _ c__law_draw (hr.mono (by decide)) (@pa_cons _ _ _ _ _ (pv 0) (@pa_cons _ _ _ _ _ (@pe_callB _ _ _ _ _ _ _ _ (rLen K) call_lenM rfl m_len zq49x (@pa_cons _ _ _ _ _ (@pe_ix _ _ _ _ _ _ (rIxT K) ix_tup (pv 1) pe_int (fun _ _ => rfl)) pa_nil rfl) (by decide) (by decide) (by rfl) (by rfl)) pa_nil rfl) rfl) (by rfl) (by decide) (by rfl) (by rfl)) (fun _ _ => rfl))) (fun _ _ _ _ => ⟨(@pg_tupM _ (K) _ _ _ (2) _ rfl rfl (@pgs_cons _ _ _ _ _ (pg_name (i := 0) (by show List.Nodup (["place", "factor"] : List Str); decide +kernel) rfl (Or.inl rfl)) (@pgs_cons _ _ _ _ _ (pg_name (i := 1) (by show List.Nodup (["place", "factor"] : List Str); decide +kernel) rfl (Or.inl rfl)) pgs_nil (by rfl)) (by rfl)) (by rfl) (by rfl)), pts_nil, (pv 0)⟩)) (by rfl) (by first | exact .inl rfl | exact .inr rfl | assumption))) pss_nil) (@pss_cons _ _ _ _ _ (ps_setCC (i := 5) scLawLosses.nd rfl rfl (CompOkC.of (show compOkBC (defScope sLawLosses) ["bag", "net", "d", "many", "first", "others"] _ ["place", "first"] [none, some 4] = true by decide +kernel)) (pi_listK (K := K) rfl (@pe_callC _ _ _ _ _ _ _ _ _ _ c__law_turned (hr.mono (by decide)) (@pa_cons _ _ _ _ _ (pv 0) (@pa_cons _ _ _ _ _ (@pe_callTy _ _ _ _ _ _ _ _ _ (call_listR rfl) rfl m_list zq52x (@pa_cons _ _ _ _ _ (@pe_callTy _ _ _ _ _ _ _ _ _ call_rangeM rfl m_range zq204x (@pa_cons _ _ _ _ _ (@pe_ix _ _ _ _ _ _ (rIxT K) ix_tup (pv 1) pe_int (fun _ _ => rfl)) pa_nil rfl) (by decide) (by decide) (by rfl) (by rfl)) pa_nil rfl) (by decide) (by decide) (by rfl) (by rfl)) pa_nil rfl) rfl) (by rfl) (by decide) (by rfl) (by rfl))) (fun _ _ _ _ => ⟨(pg_name (i := 0) (by show List.Nodup (["place", "first"] : List Str); decide +kernel) rfl (Or.inl rfl)), (pts_one (pt_cmpR (op_notInK (K := K) (by rfl)) (pv 0) (pv 1) (by with_unfolding_all rfl))), (pv 0)⟩)) (@pss_one _ _ _ (@ps_ret _ _ _ _ (@pe_slice _ _ _ _ _ _ _ _ _ (rSlL K) sl_list (@pe_op _ _ _ _ _ _ _ _ op_cat (@pe_callC _ _ _ _ _ _ _ _ _ _ c__law_turned (hr.mono (by decide)) (@pa_cons _ _ _ _ _ (pv 0) (@pa_cons _ _ _ _ _ (pv 4) pa_nil rfl) rfl) (by rfl) (by decide) (by rfl) (by rfl)) (pv 5)) po_none (@po_some _ _ _ (pv 3))))))))), ?_⟩
 refine Sv.enterB hB hlive hnb hds hΦ (ρ := [.bag, .d false _, .d false _, .no, .no, .no]) rfl ?_
 clear hΦ hds
 have hcl0 : 0 < cs.length := zq142x.mpr hne
 have hcm : (cs.map prsD).length = cs.length := zq0x ..
 walk_at "dt"
 intro r r0 r1
 walk_at "dt"
 intro w w0 w1
 obtain ⟨ma, ema, ma1, ma2⟩ := pick (L := [d, d, r]) (k := w) (by omega) (by show w < 3; omega) (fun x => 0 <= x /\ x <= d) (by simp; omega)
 refine ⟨_, rfl, _, ema, ?_⟩
 walk_at "dt"
 intro A4
 refine Sv.demote 4 rfl ?_
 refine Sv.seq ?_
 refine Sv.conseq (fun ρ' => ∃ (F : List Int) (f fm : Bool), LotOk n F /\ ρ' = [.bag, .d false (netD p n cs), .d false (.int d), .d fm (.int ma), .d f (.list (F.map .int)), .no]) ?_ ?_
 ·refine Sv.ifS ?_
  walk_at "dt"
  intro t t0 t1
  by_cases ct : t = 1
  ·walk_at "dt"
   refine EvN.ev (EvN.compL (by decide) rfl ?_)
   walk_at "dt"
   intro c c0 c1
   have hcl9 : c.toNat < cs.length := by omega
   obtain ⟨prs, hprs⟩ : ∃ prs, cs[c.toNat]? = some prs := ⟨_, zq1x hcl9⟩
   have hpk := hck prs (zq16x hprs)
   have hpl := hpk.lenN
   rw [zq0x] at hpl
   have hpm : (prs.map pairD).length = prs.length := zq0x ..
   refine ⟨_, rfl, prsD prs, atI_some c0 (by rw [zq6x, hprs]; rfl), _, rfl, by omega, ?_⟩
   refine fun v => ⟨true, fun j ds => ds = ((prs.take j).map (·.1)).map .int, rfl, ?_, ?_⟩
   ·rintro j d ds hd hl' rfl
    obtain ⟨pr, hpr, rfl⟩ := map_at hd
    walk_at "dt"
    refine ⟨by walk_at "wk", ?_⟩
    walk_at "dt"
    show _ = List.map _ (List.map _ (prs.take (j + 1)))
    rw [take_snoc hpr, zq25x, zq25x]
    rfl
   rintro ds hl' rfl
   rw [hpm, zq57x]
   walk_at "dt"
   exact ⟨_, _, _, hpk, rfl⟩
  ·walk_at "dt"
   exact ⟨[], _, _, .nil, rfl⟩
 rintro ρ' ⟨F, f, fm, hF, rfl⟩
 have hFl := hF.lenN
 have hFm : (F.map PyData.int).length = F.length := zq0x ..
 refine Sv.seq ?_
 refine Sv.setCF ?_
 refine EvN.ev (EvN.compL (by decide) rfl ?_)
 refine Ev.callB mono__law_turned rfl ?_
 walk_at "dt"
 refine EvN.ev (EvN.listRange ?_)
 walk_at "dt"
 refine ⟨rfl, _, rfl, by simp; omega, fun f2 rs hrs => ?_⟩
 obtain ⟨N, rfl, hN⟩ := perm_map_inv hrs ((List.range n.toNat).map fun (i : Nat) => 0 + (i : Int)) rfl
 have hNo : LotOk n N := (LotOk.range0 (by omega)).perm hN
 have hNl := hNo.lenN
 have hNm : (N.map PyData.int).length = N.length := zq0x ..
 refine ⟨_, rfl, by omega, ?_⟩
 refine fun v => ⟨true, fun j ds => ds = ((N.take j).filter fun y => decide (y ∉ F)).map .int, rfl, ?_, ?_⟩
 ·rintro j d ds hd hl' rfl
  obtain ⟨y, hy, rfl⟩ := map_at hd
  walk_at "dt"
  refine ⟨by walk_at "wk", ?_⟩
  refine Tv.test ?_
  refine Ev.inI ?_
  walk_at "dt"
  refine ⟨F, rfl, ?_⟩
  refine ⟨_, rfl, ?_⟩
  by_cases c : y ∈ F
  ·rw [if_neg (by simpa using c)]
   show _ = List.map _ (List.filter _ (N.take (j + 1)))
   rw [filter_snoc _ hy, if_neg (by simpa using c), zq46x]
  ·rw [if_pos (by simpa using c)]
   walk_at "dt"
   show _ = List.map _ (List.filter _ (N.take (j + 1)))
   rw [filter_snoc _ hy, if_pos (by simpa using c), zq25x]
   rfl
 rintro ds hl' rfl
 rw [hNm, zq57x]
 obtain ⟨O, hO⟩ : ∃ O, (N.filter fun y => decide (y ∉ F)) = O := ⟨_, rfl⟩
 rw [hO]
 have hOl : O.length <= N.length := by rw [<- hO]; exact zq198x _ _
 walk_at "dt"
 refine Ev.callB mono__law_turned rfl ?_
 walk_at "dt"
 refine ⟨rfl, _, rfl, by omega, fun f3 rs3 hrs3 => ?_⟩
 obtain ⟨F2, rfl, hF2⟩ := perm_map_inv hrs3 F rfl
 have hF2l := hF2.length_eq
 walk_at "dt"
 refine ⟨by rw [zq0x, zq0x]; omega, _, rfl, ?_⟩
 walk_at "dt"
 rw [cut_take (by omega), <- zq25x, <- zq205x]
 have hAo : LotOk n (F2 ++ O) := by
  refine ⟨zq120x.mpr ⟨hF2.nodup_iff.mpr hF.nd, by rw [<- hO]; exact hNo.nd.filter _, fun a ha b hb z => ?_⟩, fun x hx => ?_⟩
  ·rw [<- hO] at hb
   exact of_decide_eq_true (zq27x.mp hb).2 (z ▸ hF2.mem_iff.mp ha)
  ·rcases zq45x.mp hx with h | h
   ·exact hF.rg x (hF2.mem_iff.mp h)
   ·rw [<- hO] at h; exact hNo.rg x (zq27x.mp h).1
 obtain ⟨A, hA⟩ : ∃ A, F2 ++ O = A := ⟨_, rfl⟩
 rw [hA] at hAo ⊢
 have hTo : LotOk n (A.take ma.toNat) := ⟨hAo.nd.sublist (List.take_sublist ..), fun x hx => hAo.rg x (zq121x hx)⟩
 have hTl : (A.take ma.toNat).length <= d := by rw [zq70x]; omega
 exact q _ _ hTo hTl
def F__law_due : DF := fun ds Φ => ∃ (p n : Int) (d : Nat) (cs : List Prs) (ws L : List Int), ds = [netD p n cs, rowD ws, rowD L] /\ DNet n d cs /\ NetQ p cs ws.length /\ (∀ x ∈ ws, 0 <= x /\ x < p) /\ (∀ prs ∈ cs, dueSum prs (ws.map some) % p = 0) /\ n = ws.length /\ n <= 49 /\ LotOk n L /\ L.Pairwise (· < ·) /\ L.length <= d /\ ((rndF p cs (losW ws L)).length = L.length -> Φ true (rdsD (rndF p cs (losW ws L))))
theorem mono__law_due : MonoF F__law_due := by
 intro ds Φ Ψ hm z
 obtain ⟨p, n, d, cs, ws, L, e, h1, h2, h3, h4, h5, h6, h7, h8, h9, q⟩ := hm
 exact ⟨p, n, d, cs, ws, L, e, h1, h2, h3, h4, h5, h6, h7, h8, h9, fun a => z _ _ (q a)⟩
theorem scLawDue : FnScope ["net", "word", "lost", "turns", "place", "some", "c"] ["net", "word", "lost"] (defScope sLawDue) := ⟨rfl, rfl, rfl, by decide +kernel, rfl, by decide +kernel, by decide +kernel⟩
theorem ok__law_due (F : Fun K "_law_due" "_law_due" sLawDue f fd)   (m_range : mg "range" = none) (m_len : mg "len" = none) (m_min : mg "min" = none)  :
    FnOk P w K mg base CX0 1 f fd ["net", "word", "lost"] (spD 3 F__law_due) := by
  refine F.ok scLawDue (fun vs H Q E h => h.1) (fun cdv A outer s H vs Q E hr h => ?_)
  obtain ⟨nb, ds, Φ, hlive, hds, hΦ, hF⟩ := spD_out h
  obtain ⟨p, n, d, cs, ws, L, rfl, hD, hN, hR, ht, hn, n49, hL, hup, hld, q⟩ := hF
  refine ⟨_, (@pss_cons _ _ _ _ _ (@ps_set _ _ (3) _ _ _ _ scLawDue.nd rfl (Or.inl rfl) (@pe_lst _ _ _ _ pa_nil) (by rfl) (by first | exact .inl rfl | exact .inr rfl | assumption)) (@pss_cons _ _ _ _ _ (@ps_for _ _ _ _ _ _ _ _ zq44x rfl (pi_listK (K := K) rfl (pv 2)) (pg_name (i := 4) scLawDue.nd rfl (Or.inl rfl)) (@pss_cons _ _ _ _ _ (@ps_set _ _ (5) _ _ _ _ scLawDue.nd rfl (Or.inl rfl) (@pe_lst _ _ _ _ pa_nil) (by rfl) (by first | exact .inl rfl | exact .inr rfl | assumption)) (@pss_cons _ _ _ _ _ (@ps_for _ _ _ _ _ _ _ _ zq44x rfl (@pi_range1 _ _ _ _ _ _ rfl m_range (@pa_cons _ _ _ _ _ (@pe_callB _ _ _ _ _ _ _ _ (rLen K) call_lenM rfl m_len zq49x (@pa_cons _ _ _ _ _ (@pe_ix _ _ _ _ _ _ (rIxT K) ix_tup (pv 0) pe_int (fun _ _ => rfl)) pa_nil rfl) (by decide) (by decide) (by rfl) (by rfl)) pa_nil rfl) (by rfl)) (pg_name (i := 6) scLawDue.nd rfl (Or.inl rfl)) (@pss_one _ _ _ (@ps_if _ _ _ _ _ _ _ _ (@pt_cmpR _ _ _ _ _ _ _ _ (op_eqD hr.units) (pe_lcompC (CompOkC.of (show compOkBC (defScope sLawDue) ["net", "word", "lost", "turns", "place", "some", "c"] _ ["one", "factor", "lost"] [none, none, some 2] = true by decide +kernel)) (pi_listK (K := K) rfl (@pe_ix _ _ _ _ _ _ (rIxL K) ix_list (@pe_ix _ _ _ _ _ _ (rIxT K) ix_tup (pv 0) pe_int (fun _ _ => rfl)) (pv 6) (fun _ _ => rfl))) (fun _ _ _ _ => ⟨(@pg_tupM _ (K) _ _ _ (2) _ rfl rfl (@pgs_cons _ _ _ _ _ (pg_name (i := 0) (by show List.Nodup (["one", "factor", "lost"] : List Str); decide +kernel) rfl (Or.inl rfl)) (@pgs_cons _ _ _ _ _ (pg_name (i := 1) (by show List.Nodup (["one", "factor", "lost"] : List Str); decide +kernel) rfl (Or.inl rfl)) pgs_nil (by rfl)) (by rfl)) (by rfl) (by rfl)), (pts_one (pt_cmpR (op_inK (K := K) (by rfl)) (pv 0) (pv 2) (by with_unfolding_all rfl))), (pv 0)⟩)) (@pe_lst _ _ _ _ (@pa_cons _ _ _ _ _ (pv 4) pa_nil rfl)) (nomark _)) (@pss_one _ _ _ (@ps_expr _ _ _ _ (pe_bm zq95x zq145x zq146x mt_append (pv 5) (@pa_cons _ _ _ _ _ (pv 6) pa_nil rfl)) (by rfl))) pss_nil)) (by intro _; rfl)) (@pss_one _ _ _ (@ps_expr _ _ _ _ (pe_bm zq95x zq145x zq146x mt_append (pv 3) (@pa_cons _ _ _ _ _ (@pe_tup _ _ _ _ _ (@pa_cons _ _ _ _ _ (pv 4) (@pa_cons _ _ _ _ _ (@pe_callB _ _ _ _ _ _ _ _ (rMinL K) (call_minL rfl) rfl m_min PyProof.Rows.boot_min (@pa_cons _ _ _ _ _ (pv 5) pa_nil rfl) (by decide) (by decide) (by rfl) (by rfl)) (@pa_cons _ _ _ _ _ (@pe_ix _ _ _ _ _ _ (rIxL K) ix_list (pv 1) (pv 4) (fun _ _ => rfl)) pa_nil rfl) rfl) rfl)) pa_nil rfl)) (by rfl))))) (by intro _; rfl)) (@pss_one _ _ _ (@ps_ret _ _ _ _ (pv 3))))), ?_⟩
  refine Sv.enterD hlive hds hΦ (ρ := [.d false _, .d false _, .d false _, .no, .no, .no, .no]) rfl ?_
  clear hΦ hds
  have hcl := hN.2.2.1
  have hcm : (cs.map prsD).length = cs.length := zq0x ..
  have hLm : (L.map PyData.int).length = L.length := zq0x ..
  have hwm : (ws.map PyData.int).length = ws.length := zq0x ..
  have hLl : L.length <= n.toNat := hL.lenN
  unfold rowD
  walk_at "dt"
  intro A3
  refine Sv.seq ?_
  refine Sv.forL ?_
  walk_at "dt"
  refine fun v => ⟨fun i ρ => ∃ (ms : List Mend) (x4 x5 x6 : Sl), (ms.length = i /\ ∀ (j : Nat) m, ms[j]? = some m -> ∃ x, L[j]? = some x /\ m.1 = x /\ m.2.2 = ws.getD x.toNat 0 /\ ∃ c : Nat, m.2.1 = c /\ c < cs.length /\ only cs L x c /\ ∀ c' < c, ¬ only cs L x c') /\ ρ = [.d false (netD p n cs), .d false (.list (ws.map .int)), .d false (.list (L.map .int)), .own A3 true (ms.map mendD), x4, x5, x6], ⟨[], _, _, _, ⟨rfl, fun j m z => by simp at z⟩, rfl⟩, ?_, ?_⟩
  · rintro i e ρ hd ⟨ms, x4, x5, x6, ⟨g1, g2⟩, rfl⟩
    obtain ⟨x, hx, rfl⟩ := map_at hd
    have hil := (zq7x.mp hx).1
    have hxm := zq16x hx
    obtain ⟨x0, x1⟩ := hL.rg x hxm
    walk_at "dt"
    intro A5
    refine Sv.seq ?_
    refine Sv.forR1 ?_
    refine Ev.lenS ?_
    walk_at "dt"
    refine ⟨fun k ρ => ∃ (x6 : Sl), ρ = [.d false (netD p n cs), .d false (.list (ws.map .int)), .d false (.list (L.map .int)), .own A3 true (ms.map mendD), .d true (.int x), .own A5 true (((List.range k).filter fun c => onlyB cs L x c).map fun (c : Nat) => PyData.int c), x6], ⟨_, rfl⟩, ?_, ?_⟩
    · rintro k e ρ ⟨hk, rfl⟩ ⟨x6, rfl⟩
      obtain ⟨prs, hprs⟩ : ∃ prs, cs[k]? = some prs := ⟨_, zq1x (by omega)⟩
      have hpm := zq16x hprs
      have hpl : prs.length <= 1000 := (hN.2.2.2 prs hpm).1
      have hgd : cs.getD k [] = prs := by rw [zq3x, hprs]; rfl
      have hat : atI (cs.map prsD) (0 + (k : Int)) = some (prsD prs) := atI_some (by omega) (by rw [show (0 + (k : Int)).toNat = k by omega, zq6x, hprs]; rfl)
      refine Gv.nameI ?_
      refine Sv.ifS ?_
      refine Tv.test ?_
      refine Ev.eqD ?_
      refine EvN.ev (EvN.compL (by decide) rfl ?_)
      walk_at "dt"
      refine ⟨by rw [zq0x]; omega, fun v2 => ⟨true, fun j ds => ds = (((prs.take j).filter fun pr => decide (pr.1 ∈ L)).map (·.1)).map PyData.int, rfl, ?_, ?_⟩⟩
      · rintro j e ds hd hl' rfl
        obtain ⟨pr, hpr, rfl⟩ := map_at hd
        walk_at "dt"
        refine ⟨by walk_at "wk", ?_⟩
        walk_at "dt"
        have hts := filter_snocG (fun pr : Int × Int => decide (pr.1 ∈ L)) hpr
        refine ⟨L, rfl, _, rfl, ?_⟩
        by_cases c : pr.1 ∈ L
        · rw [if_pos (by simpa using c)]
          rw [if_pos (decide_eq_true c)] at hts
          walk_at "dt"
          show _ = List.map _ (List.map _ (List.filter _ (prs.take (j + 1))))
          rw [hts, zq25x, zq25x]
          rfl
        · rw [if_neg (by simpa using c)]
          rw [if_neg (by simpa using c), zq46x] at hts
          show _ = List.map _ (List.map _ (List.filter _ (prs.take (j + 1))))
          rw [hts]
      rintro ds hl' rfl
      rw [zq0x, zq57x]
      walk_at "dt"
      refine ⟨shaped_ints _, shaped_ints [x], _, rfl, ?_⟩
      have eo : PyData.eqv (.list ((((prs.filter fun pr => decide (pr.1 ∈ L))).map (·.1)).map PyData.int)) (.list (([x] : List Int).map PyData.int)) = onlyB cs L x k := by
        rw [eqv_ints]
        unfold onlyB
        rw [hgd]
      show if (PyData.eqv (.list ((((prs.filter fun pr => decide (pr.1 ∈ L))).map (·.1)).map PyData.int)) (.list (([x] : List Int).map PyData.int)) != false) = true then _ else _
      rw [eo]
      have hfs := filter_range (fun c => onlyB cs L x c) k
      have hfl : (((List.range k).filter fun c => onlyB cs L x c).map fun (c : Nat) => PyData.int c).length <= k := by
        rw [zq0x]
        refine zq28x (zq198x _ _) ?_
        rw [zq74x]
        exact zq5x _
      cases ho : onlyB cs L x k with
      | true =>
        rw [ho, if_pos rfl] at hfs
        rw [if_pos (by rfl)]
        walk_at "dt"
        exact ⟨_, by rw [hfs, zq25x, show (0 + (k : Int)) = k by omega]; rfl⟩
      | false =>
        rw [ho, if_neg (by decide), zq46x] at hfs
        rw [if_neg (by decide)]
        walk_at "dt"
        exact ⟨_, by rw [hfs]; rfl⟩
    rintro ρ ⟨x6, rfl⟩
    refine Sv.demote 5 rfl ?_
    walk_at "dt"
    refine Ev.minL ?_
    walk_at "dt"
    obtain ⟨nn, hnn⟩ : ∃ nn, nn = ((List.range cs.length).filter fun c => onlyB cs L x c).map fun (c : Nat) => (c : Int) := ⟨_, rfl⟩
    have ew : atI (ws.map PyData.int) x = some (.int (ws.getD x.toNat 0)) := atI_some x0 (by rw [zq6x, zq3x, zq1x (by omega)]; rfl)
    refine ⟨nn, by rw [hnn, zq67x, hcm]; rfl, ?_, fun M hM hle => ?_⟩
    · obtain ⟨prs, hp, hm, hu⟩ := hD.alone hL hld hxm
      obtain ⟨c, hc⟩ := zq43x hp
      have ho := only_of hD.ck hc hxm hm hu
      have : (c : Int) ∈ nn := by
        rw [hnn]
        exact zq17x.mpr ⟨c, zq27x.mpr ⟨zq29x.mpr (zq7x.mp hc).1, onlyB_iff.mpr ho⟩, rfl⟩
      exact List.ne_nil_of_mem this
    obtain ⟨c, rfl, hc1, hc2, hc3⟩ := only_least hnn hM hle
    walk_at "dt"
    refine ⟨by rw [zq0x]; omega, ?_⟩
    refine ⟨ms ++ [(x, (c : Int), ws.getD x.toNat 0)], _, _, _, ⟨by simp; omega, fun j m e => ?_⟩, by rw [zq25x]; rfl⟩
    by_cases cj : j < ms.length
    · rw [zq34x cj] at e
      exact g2 j m e
    · have hj : j = ms.length := by
        have := (zq7x.mp e).1
        rw [zq30x, zq60x] at this
        omega
      subst hj
      rw [zq227x] at e
      cases e
      exact ⟨x, by rw [g1]; exact hx, rfl, rfl, c, rfl, hc1, hc2, hc3⟩
  rintro ρ ⟨ms, x4, x5, x6, ⟨g1, g2⟩, rfl⟩
  rw [hLm] at g1
  have e9 := few_round hD hN hR ht hn hL hup g1 g2
  refine Sv.retOwn rfl ?_
  rw [e9]
  exact q (by rw [<- e9]; exact g1)
def F_Mender_lose (C : Addr) : CF := fun c ds Φ => ∃ (x dx l : Addr) (p n a : Int) (cs : List Prs) (wd : Wo), c = insCu C x dx (mdF (netD p n cs) l wd) /\ ds = [.int a] /\ 0 <= a /\ a < n /\ wd.length = n.toNat /\ Φ (insCu C x dx (mdF (netD p n cs) l (wd.set a.toNat none))) true .none
theorem mono_Mender_lose {C : Addr} : MonoC (F_Mender_lose C) := by
 intro c ds Φ Ψ h z
 obtain ⟨x, dx, l, p, n, a, cs, wd, e1, e2, h1, h2, h3, q⟩ := h
 exact ⟨x, dx, l, p, n, a, cs, wd, e1, e2, h1, h2, h3, z _ _ _ q⟩
theorem scMenderLose : FnScope ["self", "place"] ["self", "place"] (defScope sMenderLose) := ⟨rfl, rfl, rfl, by decide +kernel, rfl, by decide +kernel, by decide +kernel⟩
theorem ok_Mender_lose (F : Fun K "lose" "Mender.lose" sMenderLose f fd)  {C_Mender : Addr} (cl_Mender : Cls K C_Mender) (na_Mender_letters : NoAttr K C_Mender "letters") (na_Mender_net : NoAttr K C_Mender "net") (c_ask_place : Callee P w K mg base "ask_place" 1 ["n", "place"] (spD 2 F_ask_place))   :
  FnOk P w K mg base CX0 2 f fd ["self", "place"] (spC 2 (F_Mender_lose C_Mender)) := by
 refine F.ok scMenderLose (fun vs H Q E h => h.1) (fun cdv A outer s H vs Q E hr h => ?_)
 obtain ⟨_, nb, c, ws, ds, rfl, hlive, hcF, hcf, hcP, hds, hF⟩ := h
 obtain ⟨Φ, hΦ, hF⟩ : ∃ Φ : Cu -> Pd, (∀ c' f d v H', Φ c' f d -> CuTo c c' H H' -> c'.P (fun a => nb a \/ a ∈ c'.F) H' -> IsD (fun a => nb a \/ a ∈ c'.F \/ (f = true /\ H a ≠ none)) H' d v -> Q v H') /\ F_Mender_lose C_Mender c ds Φ := ⟨_, fun c' f d v H' q => q v H', hF⟩
 obtain ⟨x, dx, l, p, n, a, cs, wd, rfl, rfl, a0, a1, hl, q⟩ := hF
 refine ⟨_, (@pss_cons _ _ _ _ _ (@ps_expr _ _ _ _ (@pe_callC _ _ _ _ _ _ _ _ _ _ c_ask_place (hr.mono (by decide)) (@pa_cons _ _ _ _ _ (@pe_ix _ _ _ _ _ _ (rIxT K) ix_tup (@pe_fld _ _ _ _ _ (pv 0) rfl) pe_int (fun _ _ => rfl)) (@pa_cons _ _ _ _ _ (pv 1) pa_nil rfl) rfl) (by rfl) (by decide) (by rfl) (by rfl)) (by rfl)) (@pss_one _ _ _ (@ps_asg _ _ _ _ _ _ pe_non (pg_sub (@pe_fld _ _ _ _ _ (pv 0) rfl) (pv 1) set_list) (by rfl) (by rfl) (by rfl)))), ?_⟩
 refine Sv.enterC hlive hcF hcf hcP hds hΦ (ρ := [.cu _, .d false _]) rfl ?_
 clear hΦ hds
 refine Sv.seq ?_
 refine Sv.drop ?_
 refine Ev.callD mono_ask_place ?_
 refine Av.cons (Ev.ixT (Ev.fld rfl cl_Mender na_Mender_net rfl ?_))
 walk_at "dt"
 refine ⟨rfl, n, a, rfl, a0, a1, ?_⟩
 refine Sv.fldAt rfl cl_Mender na_Mender_letters rfl ?_
 walk_at "dt"
 refine ⟨_, a.toNat, rfl, ixN_ok a0 (by rw [zq0x]; omega), ?_⟩
 have e : (wd.map optD).set a.toNat .none = (wd.set a.toNat none).map optD := by rw [zq200x]; rfl
 rw [e, mdF_put]
 exact ⟨_, rfl, ⟨rfl, rfl, fun a m => m⟩, q⟩
def F_Mender_lost (C : Addr) : CF := fun c ds Φ => ∃ (x dx l : Addr) (nd : PyData) (wd : Wo), c = insCu C x dx (mdF nd l wd) /\ ds = [] /\ wd.length <= 10000 /\ Φ (insCu C x dx (mdF nd l wd)) true (.list ((lostOf wd).map .int))
theorem mono_Mender_lost {C : Addr} : MonoC (F_Mender_lost C) := by
 intro c ds Φ Ψ h z
 obtain ⟨x, dx, l, nd, wd, e1, e2, h1, q⟩ := h
 exact ⟨x, dx, l, nd, wd, e1, e2, h1, z _ _ _ q⟩
theorem scMenderLost : FnScope ["self"] ["self"] (defScope sMenderLost) := ⟨rfl, rfl, rfl, by decide +kernel, rfl, by decide +kernel, by decide +kernel⟩
theorem ok_Mender_lost (F : Fun K "lost" "Mender.lost" sMenderLost f fd)  {C_Mender : Addr} (cl_Mender : Cls K C_Mender) (na_Mender_letters : NoAttr K C_Mender "letters") (c_lost_of : Callee P w K mg base "lost_of" 1 ["word"] (spD 1 F_lost_of))   :
  FnOk P w K mg base CX0 2 f fd ["self"] (spC 1 (F_Mender_lost C_Mender)) := by
 refine F.ok scMenderLost (fun vs H Q E h => h.1) (fun cdv A outer s H vs Q E hr h => ?_)
 obtain ⟨_, nb, c, ws, ds, rfl, hlive, hcF, hcf, hcP, hds, hF⟩ := h
 obtain ⟨Φ, hΦ, hF⟩ : ∃ Φ : Cu -> Pd, (∀ c' f d v H', Φ c' f d -> CuTo c c' H H' -> c'.P (fun a => nb a \/ a ∈ c'.F) H' -> IsD (fun a => nb a \/ a ∈ c'.F \/ (f = true /\ H a ≠ none)) H' d v -> Q v H') /\ F_Mender_lost C_Mender c ds Φ := ⟨_, fun c' f d v H' q => q v H', hF⟩
 obtain ⟨x, dx, l, nd, wd, rfl, rfl, hl, q⟩ := hF
 refine ⟨_, (@pss_one _ _ _ (@ps_ret _ _ _ _ (@pe_callC _ _ _ _ _ _ _ _ _ _ c_lost_of (hr.mono (by decide)) (@pa_cons _ _ _ _ _ (@pe_fld _ _ _ _ _ (pv 0) rfl) pa_nil rfl) (by rfl) (by decide) (by rfl) (by rfl)))), ?_⟩
 refine Sv.enterC hlive hcF hcf hcP hds hΦ (ρ := [.cu _]) rfl ?_
 clear hΦ hds
 refine Sv.retM (EvS.of ?_)
 refine Ev.callL mono_lost_of ?_
 refine AvL.fld rfl cl_Mender na_Mender_letters rfl ?_
 refine AvL.nil ?_
 refine ⟨rfl, wd, rfl, hl, .inl rfl, ?_⟩
 intro nb' v' H' hv
 exact ⟨_, _, _, rfl, ⟨rfl, rfl, fun a m => m⟩, q, hv⟩
theorem alike_wo {n : Nat} (wd : Wo) (h : wd.length <= 10000) : alikeOk (n + 2) (woD wd) := .inr ⟨_, .inl rfl, by rw [zq0x]; exact h, fun e he => by
 obtain ⟨o, _, rfl⟩ := zq17x.mp he
 cases o <;> exact .inl rfl⟩
theorem alike_rds {n : Nat} (ms : List Mend) (h : ms.length <= 10000) : alikeOk (n + 3) (rdsD ms) := .inr ⟨_, .inl rfl, by rw [zq0x]; exact h, fun e he => by
 obtain ⟨m, _, rfl⟩ := zq17x.mp he
 exact .inr ⟨_, .inr rfl, (by decide : 3 <= 10000), fun e he => by
  rcases zq2x.mp he with rfl | he
  ·exact .inl rfl
  rcases zq2x.mp he with rfl | he
  ·exact .inl rfl
  rcases zq2x.mp he with rfl | he
  ·exact .inl rfl
  ·cases he⟩⟩
theorem alike_mnd {n : Nat} (rs : List (List Mend)) (h : rs.length <= 10000) (h2 : ∀ r ∈ rs, r.length <= 10000) : alikeOk (n + 4) (.list (rs.map rdsD)) := .inr ⟨_, .inl rfl, by rw [zq0x]; exact h, fun e he => by
 obtain ⟨r, hr, rfl⟩ := zq17x.mp he
 exact alike_rds r (h2 r hr)⟩
abbrev r28 (a : Addr) (p n d : Int) (cs : List Prs) (ws : List Int) (x5 x6 x7 x8 x9 x10 : Sl) : Rh := [.raw (.ref a), .bag, .d true (.int d), .d false (netD p n cs), .d false (.list (ws.map .int)), x5, x6, x7, x8, x9, x10]
theorem scLaw : FnScope ["script", "bag", "d", "net", "word", "lost", "found", "due", "mender", "k", "place"] ["script"] (defScope sLaw) := ⟨rfl, rfl, rfl, by decide +kernel, rfl, by decide +kernel, by decide +kernel⟩
theorem ok_law (F : Fun K "law" "law" sLaw f fd)  {C_Mender : Addr} (c_Mender_lose : MCallee P w K mg base C_Mender "lose" 2 ["self", "place"] (spC 2 (F_Mender_lose C_Mender))) (c_Mender_step : MCallee P w K mg base C_Mender "step" 6 ["self"] (spC 1 (F_Mender_step C_Mender))) (c_Mender_lost : MCallee P w K mg base C_Mender "lost" 2 ["self"] (spC 1 (F_Mender_lost C_Mender))) (c_Mender_word : MCallee P w K mg base C_Mender "word" 1 ["self"] (spC 1 (F_Mender_word C_Mender))) (i_Mender : ICallee P w K mg base C_Mender "Mender" 2 ["self", "net", "word"] (spC 3 (F_Mender___init__ C_Mender))) (c__law_bag : Callee P w K mg base "_law_bag" 1 ["script"] (spBag K)) (c__law_lines_net : Callee P w K mg base "_law_lines_net" 4 ["bag"] (spB 1 F__law_lines_net)) (c_mended : Callee P w K mg base "mended" 8 ["net", "word"] (spD 2 F_mended)) (c__law_losses : Callee P w K mg base "_law_losses" 3 ["bag", "net", "d"] (spB 3 F__law_losses)) (c__law_copy : Callee P w K mg base "_law_copy" 1 ["net"] (spD 1 F__law_copy)) (c__law_alike : Callee P w K mg base "_law_alike" 5 ["found", "due"] (spD 2 (F__law_alike 5))) (c__law_due : Callee P w K mg base "_law_due" 1 ["net", "word", "lost"] (spD 3 F__law_due)) (m_sorted : mg "sorted" = none) (m_range : mg "range" = none) (m_list : mg "list" = none) (m_len : mg "len" = none)  :
  FnOk P w K mg base CX0 9 f fd ["script"] (spLaw K) := by
 refine F.ok scLaw (fun vs H Q E h => ?_) (fun cdv A outer s H vs Q E hr h => ?_)
 ·obtain ⟨a, ns, rfl, hS, hl, q⟩ := h
  rfl
 obtain ⟨a, ns, rfl, hS, hl, q⟩ := h
 refine ⟨_, (@pss_cons _ _ _ _ _ (@ps_set _ _ (1) _ _ _ _ scLaw.nd rfl (Or.inl rfl) (@pe_callC _ _ _ _ _ _ _ _ _ _ c__law_bag (hr.mono (by decide)) (@pa_cons _ _ _ _ _ (pv 0) pa_nil rfl) (by rfl) (by decide) (by rfl) (by rfl)) (by rfl) (by first | exact .inl rfl | exact .inr rfl | assumption)) (@pss_cons _ _ _ _ _ (@ps_asg _ _ _ _ _ _ (@pe_callC _ _ _ _ _ _ _ _ _ _ c__law_lines_net (hr.mono (by decide)) (@pa_cons _ _ _ _ _ (pv 1) pa_nil rfl) (by rfl) (by decide) (by rfl) (by rfl)) (@pg_tupM _ (K) _ _ _ (3) _ rfl rfl (@pgs_cons _ _ _ _ _ (pg_name (i := 2) scLaw.nd rfl (Or.inl rfl)) (@pgs_cons _ _ _ _ _ (pg_name (i := 3) scLaw.nd rfl (Or.inl rfl)) (@pgs_cons _ _ _ _ _ (pg_name (i := 4) scLaw.nd rfl (Or.inr rfl)) pgs_nil (by rfl)) (by rfl)) (by rfl)) (by rfl) (by rfl)) (by rfl) (by rfl) (by rfl)) (@pss_cons _ _ _ _ _ (@ps_set _ _ (5) _ _ _ _ scLaw.nd rfl (Or.inr rfl) (@pe_callB _ _ _ _ _ _ _ _ (rSortLS K) call_sortLS rfl m_sorted zq144x (@pa_cons _ _ _ _ _ (@pe_callC _ _ _ _ _ _ _ _ _ _ c__law_losses (hr.mono (by decide)) (@pa_cons _ _ _ _ _ (pv 1) (@pa_cons _ _ _ _ _ (pv 3) (@pa_cons _ _ _ _ _ (pv 2) pa_nil rfl) rfl) rfl) (by rfl) (by decide) (by rfl) (by rfl)) pa_nil rfl) (by decide) (by decide) (by rfl) (by rfl)) (by rfl) (by first | exact .inl rfl | exact .inr rfl | assumption)) (@pss_cons _ _ _ _ _ (@ps_set _ _ (6) _ _ _ _ scLaw.nd rfl (Or.inl rfl) (@pe_callC _ _ _ _ _ _ _ _ _ _ c_mended (hr.mono (by decide)) (@pa_cons _ _ _ _ _ (@pe_callC _ _ _ _ _ _ _ _ _ _ c__law_copy (hr.mono (by decide)) (@pa_cons _ _ _ _ _ (pv 3) pa_nil rfl) (by rfl) (by decide) (by rfl) (by rfl)) (@pa_cons _ _ _ _ _ (pe_lcompC (CompOkC.of (show compOkBC (defScope sLaw) ["script", "bag", "d", "net", "word", "lost", "found", "due", "mender", "k", "place"] _ ["k", "word", "lost"] [none, some 4, some 5] = true by decide +kernel)) (@pi_range1 _ _ _ _ _ _ rfl m_range (@pa_cons _ _ _ _ _ (@pe_callB _ _ _ _ _ _ _ _ (rLen K) call_lenM rfl m_len zq49x (@pa_cons _ _ _ _ _ (pv 4) pa_nil rfl) (by decide) (by decide) (by rfl) (by rfl)) pa_nil rfl) (by rfl)) (fun _ _ _ _ => ⟨(pg_name (i := 0) (by show List.Nodup (["k", "word", "lost"] : List Str); decide +kernel) rfl (Or.inl rfl)), pts_nil, (@pe_ifExp _ _ _ _ _ _ _ _ (pt_cmpR (op_inK (K := K) (by rfl)) (pv 0) (pv 2) (by with_unfolding_all rfl)) pe_non (@pe_ix _ _ _ _ _ _ (rIxL K) ix_list (pv 1) (pv 0) (fun _ _ => rfl)))⟩)) pa_nil rfl) rfl) (by rfl) (by decide) (by rfl) (by rfl)) (by rfl) (by first | exact .inl rfl | exact .inr rfl | assumption)) (@pss_cons _ _ _ _ _ (@ps_set _ _ (7) _ _ _ _ scLaw.nd rfl (Or.inl rfl) (@pe_ifExp _ _ _ _ _ _ _ _ (@pt_cmpR _ _ _ _ _ _ _ _ (op_eqD hr.units) (pv 5) (@pe_lst _ _ _ _ pa_nil) (nomark _)) (@pe_lst _ _ _ _ pa_nil) (@pe_lst _ _ _ _ (@pa_cons _ _ _ _ _ (@pe_callC _ _ _ _ _ _ _ _ _ _ c__law_due (hr.mono (by decide)) (@pa_cons _ _ _ _ _ (pv 3) (@pa_cons _ _ _ _ _ (pv 4) (@pa_cons _ _ _ _ _ (pv 5) pa_nil rfl) rfl) rfl) (by rfl) (by decide) (by rfl) (by rfl)) pa_nil rfl))) (by rfl) (by first | exact .inl rfl | exact .inr rfl | assumption)) (@pss_cons _ _ _ _ _ (@ps_if _ _ _ _ _ _ _ _ (@pt_not _ _ _ _ (@pt_truthK _ (K) _ _ rfl (@pe_callC _ _ _ _ _ _ _ _ _ _ c__law_alike (hr.mono (by decide)) (@pa_cons _ _ _ _ _ (pv 6) (@pa_cons _ _ _ _ _ (@pe_tup _ _ _ _ _ (@pa_cons _ _ _ _ _ (pv 4) (@pa_cons _ _ _ _ _ (pv 7) pa_nil rfl) rfl)) pa_nil rfl) rfl) (by rfl) (by decide) (by rfl) (by rfl)) (fun _ => rfl))) (@pss_one _ _ _ (@ps_ret _ _ _ _ pe_bl)) pss_nil) (@pss_cons _ _ _ _ _ (@ps_set _ _ (8) _ _ _ _ scLaw.nd rfl (Or.inl rfl) (@pe_makeC _ _ _ _ _ _ _ _ _ _ _ i_Mender (hr.mono (by decide)) (@pa_cons _ _ _ _ _ (@pe_callC _ _ _ _ _ _ _ _ _ _ c__law_copy (hr.mono (by decide)) (@pa_cons _ _ _ _ _ (pv 3) pa_nil rfl) (by rfl) (by decide) (by rfl) (by rfl)) (@pa_cons _ _ _ _ _ (@pe_callTy _ _ _ _ _ _ _ _ (rListOf K) call_listM rfl m_list zq52x (@pa_cons _ _ _ _ _ (pv 4) pa_nil rfl) (by decide) (by decide) (by rfl) (by rfl)) pa_nil rfl) rfl) (by rfl) (by decide) (by rfl) (by rfl)) (by rfl) (by first | exact .inl rfl | exact .inr rfl | assumption)) (@pss_cons _ _ _ _ _ (@ps_for _ _ _ _ _ _ _ _ zq44x rfl (@pi_range1 _ _ _ _ _ _ rfl m_range (@pa_cons _ _ _ _ _ pe_int pa_nil rfl) (by rfl)) (pg_name (i := 9) scLaw.nd rfl (Or.inl rfl)) (@pss_cons _ _ _ _ _ (@ps_set _ _ (5) _ _ _ _ scLaw.nd rfl (Or.inr rfl) (@pe_callB _ _ _ _ _ _ _ _ (rSortLS K) call_sortLS rfl m_sorted zq144x (@pa_cons _ _ _ _ _ (@pe_callC _ _ _ _ _ _ _ _ _ _ c__law_losses (hr.mono (by decide)) (@pa_cons _ _ _ _ _ (pv 1) (@pa_cons _ _ _ _ _ (pv 3) (@pa_cons _ _ _ _ _ (pv 2) pa_nil rfl) rfl) rfl) (by rfl) (by decide) (by rfl) (by rfl)) pa_nil rfl) (by decide) (by decide) (by rfl) (by rfl)) (by rfl) (by first | exact .inl rfl | exact .inr rfl | assumption)) (@pss_cons _ _ _ _ _ (@ps_for _ _ _ _ _ _ _ _ zq44x rfl (pi_listK (K := K) rfl (pv 5)) (pg_name (i := 10) scLaw.nd rfl (Or.inl rfl)) (@pss_one _ _ _ (@ps_expr _ _ _ _ (@pe_methC _ _ _ _ _ _ _ _ _ _ _ _ _ _ c_Mender_lose (pv 8) (hr.mono (by decide)) (@pa_cons _ _ _ _ _ (pv 10) pa_nil rfl) (by rfl) (by rfl) (by rfl)) (by rfl))) (by intro _; rfl)) (@pss_cons _ _ _ _ _ (@ps_if _ _ _ _ _ _ _ _ (PW.pt (pw_or (@pt_not _ _ _ _ (@pt_truthK _ (K) _ _ rfl (@pe_callC _ _ _ _ _ _ _ _ _ _ c__law_alike (hr.mono (by decide)) (@pa_cons _ _ _ _ _ (@pe_methC0 _ _ _ _ _ _ _ _ _ _ _ c_Mender_step (pv 8) (hr.mono (by decide)) (by rfl)) (@pa_cons _ _ _ _ _ (@pe_callC _ _ _ _ _ _ _ _ _ _ c__law_due (hr.mono (by decide)) (@pa_cons _ _ _ _ _ (pv 3) (@pa_cons _ _ _ _ _ (pv 4) (@pa_cons _ _ _ _ _ (pv 5) pa_nil rfl) rfl) rfl) (by rfl) (by decide) (by rfl) (by rfl)) pa_nil rfl) rfl) (by rfl) (by decide) (by rfl) (by rfl)) (fun _ => rfl))) (pw_or1 (@pt_not _ _ _ _ (@pt_truthK _ (K) _ _ rfl (@pe_callC _ _ _ _ _ _ _ _ _ _ c__law_alike (hr.mono (by decide)) (@pa_cons _ _ _ _ _ (@pe_methC0 _ _ _ _ _ _ _ _ _ _ _ c_Mender_step (pv 8) (hr.mono (by decide)) (by rfl)) (@pa_cons _ _ _ _ _ (@pe_lst _ _ _ _ pa_nil) pa_nil rfl) rfl) (by rfl) (by decide) (by rfl) (by rfl)) (fun _ => rfl)))))) (@pss_one _ _ _ (@ps_ret _ _ _ _ pe_bl)) pss_nil) (@pss_one _ _ _ (@ps_if _ _ _ _ _ _ _ _ (PW.pt (pw_or (@pt_not _ _ _ _ (@pt_truthK _ (K) _ _ rfl (@pe_callC _ _ _ _ _ _ _ _ _ _ c__law_alike (hr.mono (by decide)) (@pa_cons _ _ _ _ _ (@pe_methC0 _ _ _ _ _ _ _ _ _ _ _ c_Mender_lost (pv 8) (hr.mono (by decide)) (by rfl)) (@pa_cons _ _ _ _ _ (@pe_lst _ _ _ _ pa_nil) pa_nil rfl) rfl) (by rfl) (by decide) (by rfl) (by rfl)) (fun _ => rfl))) (pw_or1 (@pt_not _ _ _ _ (@pt_truthK _ (K) _ _ rfl (@pe_callC _ _ _ _ _ _ _ _ _ _ c__law_alike (hr.mono (by decide)) (@pa_cons _ _ _ _ _ (@pe_methC0 _ _ _ _ _ _ _ _ _ _ _ c_Mender_word (pv 8) (hr.mono (by decide)) (by rfl)) (@pa_cons _ _ _ _ _ (pv 4) pa_nil rfl) rfl) (by rfl) (by decide) (by rfl) (by rfl)) (fun _ => rfl)))))) (@pss_one _ _ _ (@ps_ret _ _ _ _ pe_bl)) pss_nil))))) (by intro _; rfl)) (@pss_one _ _ _ (@ps_ret _ _ _ _ pe_bl)))))))))), ?_⟩
 walk_at "st"
 refine ⟨a, ns, rfl, hS, hl, fun b l H1 s1 f1 B1 => ?_⟩
 have key : ∀ (t : TS) (D : Ends), (∀ H, D.rt (.bl true) H) -> Sv (lawG b l H1) [.raw (.ref a), .bag, .no, .no, .no, .no, .no, .no, .no, .no, .no] t { nx := fun _ => False, rt := fun _ d => d = .bool true } -> t D [some (.ref a), some (.ref b), none, none, none, none, none, none, none, none, none] H1 := fun t D d2 h => h _ _ _ D (law_wdS (m := 9) B1) (law_endsR d2)
 refine R.gname ?_
 dsimp only
 refine key _ _ (fun H => ?_) ?_
 ·exact q _
 clear key q
 walk_at "dt"
 refine Ev.callB mono__law_lines_net rfl ?_
 walk_at "dt"
 refine ⟨rfl, fun f2 p q d cs ws hp p40 hq d1 d8 hcl hSq => ?_⟩
 have p2 := hp.1
 have hqq2 : 4 <= q * q /\ q * q <= 49 := by rcases hq with rfl | rfl | rfl | rfl <;> decide
 obtain ⟨n, hn⟩ : ∃ n, q * q = n := ⟨_, rfl⟩
 have hD : DNet n d.toNat cs := by rw [<- hn]; exact hSq.net
 have hwl : ws.length = n.toNat := by rw [<- hn]; exact hSq.l
 rw [hn] at hqq2 ⊢
 have hnw : n = ws.length := by omega
 have hR := hSq.r
 have ht := hSq.t
 have hne : cs ≠ [] := hD.ne (by omega) (by omega)
 have hpl : ∀ prs ∈ cs, prs.length <= 49 := fun prs hp => by
  have := (hD.ck prs hp).lenN
  rw [zq0x] at this
  omega
 have hN : NetQ p cs ws.length := ⟨hp, p40, by omega, fun prs hp => ⟨by have := hpl prs hp; omega, fun pr hr => by
  have h1 := (hD.ck prs hp).rg pr.1 (zq215x hr)
  have h2 := hSq.fc prs hp pr hr
  exact ⟨h1.1, by omega, by unfold Sm; omega⟩, fun pr hr => by
  have h2 := hSq.fc prs hp pr hr
  rw [zq93x (by omega) h2.2]; omega⟩⟩
 have hWs : ∀ L : List Int, WoOk (losW ws L) := fun L x hx => by
  obtain ⟨i, hi⟩ := zq43x hx
  have := hR x (zq16x (losW_agree i x hi))
  unfold Sm; omega
 have hwm : (ws.map PyData.int).length = ws.length := zq0x ..
 have hNl : ∀ L : List Int, NetQ p cs (losW ws L).length := fun L => by rw [losW_len]; exact hN
 clear hSq
 walk_at "dt"
 refine EvN.ev (EvN.sortLS ?_)
 refine Ev.callB mono__law_losses rfl ?_
 walk_at "dt"
 refine ⟨rfl, p, n, d, cs, rfl, by omega, by omega, d1, d8, hD.ck, hne, hcl, fun f5 ls hlo hll => ?_⟩
 refine ⟨ls, rfl, by omega, fun L hLp hLs => ?_⟩
 have hLo : LotOk n L := hlo.perm hLp
 have hLl : L.length <= d.toNat := by rw [hLp.length_eq]; omega
 have hLu : L.Pairwise (· < ·) := (hLs.and hLo.nd).imp fun ⟨a, b⟩ => by omega
 have hLm : (L.map PyData.int).length = L.length := zq0x ..
 have ewo : rowD ws = woD (ws.map some) := by show PyData.list _ = PyData.list _; rw [zq67x]; rfl
 refine Gv.name ?_
 walk_at "dt"
 refine Ev.callD mono_mended ?_
 refine Av.cons ?_
 refine Ev.callD mono__law_copy ?_
 walk_at "dt"
 refine ⟨rfl, p, n, cs, rfl, by omega, fun f2 => ?_⟩
 refine Av.cons ?_
 refine EvN.ev (EvN.compR1 (by decide) rfl ?_)
 walk_at "dt"
 refine CompD.rel optD false (fun k o => o = if (k : Int) ∈ L then none else some (ws.getD k 0)) ?_ fun os hol hos => ?_
 ·rintro k e ⟨hk, rfl⟩
  have ew : atI (ws.map PyData.int) (0 + (k : Int)) = some (.int (ws.getD k 0)) := atI_some (by omega) (by rw [show (0 + (k : Int)).toNat = k by omega, zq6x, zq3x, zq1x (by omega)]; rfl)
  walk_at "dt"
  refine ⟨by walk_at "wk", ?_⟩
  walk_at "dt"
  refine ⟨L, rfl, _, rfl, ?_⟩
  rw [show (0 + (k : Int)) = k by omega] at ew ⊢
  by_cases c : (k : Int) ∈ L
  ·rw [if_pos (by simpa using c), if_pos c]
   walk_at "dt"
   exact ⟨none, rfl, rfl⟩
  ·rw [if_neg (by simpa using c), if_neg c]
   walk_at "dt"
   exact ⟨some (ws.getD k 0), rfl, rfl⟩
 have hos9 : os = losW ws L := by
  unfold losW
  refine map_range ?_ hos
  rw [hol]; omega
 subst hos9
 refine Av.nil ?_
 refine ⟨rfl, p, n, cs, losW ws L, rfl, hNl L, hWs L, by rw [losW_len]; omega, ?_⟩
 refine Gv.name ?_
 refine Sv.seq ?_
 refine Sv.conseq (fun ρ' => ∃ f7 : Bool, (rndF p cs (losW ws L)).length = L.length /\ ρ' = r28 a p n d cs ws (.d true (.list (L.map .int))) (.d true (.tuple [woD (endW p cs (losW ws L)), .list ((mndF p cs (losW ws L)).map rdsD)])) (.d f7 (.list ((mndF p cs (losW ws L)).map rdsD))) .no .no .no) ?_ ?_
 ·refine Sv.asg ?_
  refine Ev.ifE ?_
  refine Tv.test ?_
  refine Ev.eqD ?_
  walk_at "dt"
  refine ⟨shaped_ints _, rfl, _, rfl, ?_⟩
  have eo : PyData.eqv (.list (L.map PyData.int)) (.list (([] : List Int).map PyData.int)) = decide (L = []) := eqv_ints L []
  show if (PyData.eqv (.list (L.map PyData.int)) (.list (([] : List Int).map PyData.int)) != false) = true then _ else _
  rw [eo]
  by_cases c : L = []
  ·rw [if_pos (by simpa using c)]
   subst c
   have e9 := full_round (n := n) hN hnw
   rw [losW_nil, e9, mndF_nil e9]
   walk_at "dt"
   exact ⟨_, rfl, rfl⟩
  ·rw [if_neg (by simpa using c)]
   walk_at "dt"
   refine Ev.callD mono__law_due ?_
   walk_at "dt"
   refine ⟨rfl, p, n, d.toNat, cs, ws, L, rfl, hD, hN, hR, ht, hnw, by omega, hLo, hLu, hLl, fun hlr => ?_⟩
   walk_at "dt"
   rw [(few_end hN hR ht hnw hLo hlr).2, if_neg c]
   exact ⟨_, hlr, rfl⟩
 rintro ρ ⟨f7, hlr, rfl⟩
 obtain ⟨hE1, hE2⟩ := few_end hN hR ht hnw hLo hlr
 have hml : (mndF p cs (losW ws L)).length <= 10000 /\ ∀ r ∈ mndF p cs (losW ws L), r.length <= 10000 := by
  rw [hE2]
  by_cases c : L = []
  ·rw [if_pos c]; exact ⟨by decide, fun r h => nomatch h⟩
  ·rw [if_neg c]; exact ⟨(show 1 <= 10000 by decide), fun r h => by rw [zq8x.mp h]; omega⟩
 rw [hE1]
 generalize mndF p cs (losW ws L) = MN at *
 refine Sv.seq ?_
 refine Sv.ifS ?_
 walk_at "dt"
 refine Ev.callD (mono__law_alike 5) ?_
 walk_at "dt"
 refine ⟨rfl, .tuple [woD (ws.map some), .list (MN.map rdsD)], by rw [<- ewo]; rfl, .inr ⟨_, .inr rfl, (by decide : 2 <= 10000), fun e he => ?_⟩, ?_⟩
 ·rcases zq2x.mp he with rfl | he
  ·exact alike_wo (n := 2) _ (by rw [zq0x]; omega)
  rcases zq2x.mp he with rfl | he
  ·exact alike_mnd MN hml.1 hml.2
  ·cases he
 generalize htl : (tSeq (tAsg (tMake _ _ _ _ _) _) _ : TS) = tl
 walk_at "dt"
 subst htl
 refine Sv.seq ?_
 refine Sv.make mono_Mender___init__ ?_
 refine Av.cons ?_
 refine Ev.callD mono__law_copy ?_
 walk_at "dt"
 refine ⟨rfl, p, n, cs, rfl, by omega, fun f2 => ?_⟩
 walk_at "dt"
 refine ⟨rfl, fun x dx => ⟨x, dx, p, n, cs, ws.map some, rfl, by rw [<- ewo]; rfl, by omega, fun prs hp => by have := hpl prs hp; omega, fun l9 => ⟨rfl, ?_⟩⟩⟩
 generalize hx6 : Sl.d true (PyData.tuple [woD (List.map some ws), PyData.list (List.map rdsD MN)]) = X6
 generalize hx7 : Sl.d f7 (PyData.list (List.map rdsD MN)) = X7
 have eal0 : alikeOk 5 (rdsD []) := alike_rds [] (by decide)
 refine Sv.seq ?_
 refine Sv.forR1 ?_
 walk_at "dt"
 clear hLo hLl hLu hLm hlo hll hLp hLs hlr hE1 hE2
 refine ⟨fun i ρ => ∃ (x5 x9 x10 : Sl), ρ = r28 a p n d cs ws x5 X6 X7 (.cu (insCu C_Mender x dx (mdF (netD p n cs) l9 (ws.map some)))) x9 x10, ⟨_, _, _, rfl⟩, ?_, ?_⟩
 ·rintro i e ρ ⟨hi, rfl⟩ ⟨x5, x9, x10, rfl⟩
  walk_at "dt"
  refine EvN.ev (EvN.sortLS ?_)
  refine Ev.callB mono__law_losses rfl ?_
  walk_at "dt"
  refine ⟨rfl, p, n, d, cs, rfl, by omega, by omega, d1, d8, hD.ck, hne, hcl, fun f5 ls hlo hll => ?_⟩
  refine ⟨ls, rfl, by omega, fun L hLp hLs => ?_⟩
  have hLo : LotOk n L := hlo.perm hLp
  have hLl : L.length <= d.toNat := by rw [hLp.length_eq]; omega
  have hLu : L.Pairwise (· < ·) := (hLs.and hLo.nd).imp fun ⟨a, b⟩ => by omega
  have hLm : (L.map PyData.int).length = L.length := zq0x ..
  refine Gv.name ?_
  refine Sv.seq ?_
  refine Sv.forL ?_
  refine Ev.var rfl ?_
  refine ⟨_, rfl, fun v => ⟨fun k ρ => ∃ (x10 : Sl), ρ = r28 a p n d cs ws (.d true (.list (L.map .int))) X6 X7 (.cu (insCu C_Mender x dx (mdF (netD p n cs) l9 (losW ws (L.take k))))) (.d true (.int (0 + (i : Int)))) x10, ⟨_, by rw [List.take_zero, losW_nil]; rfl⟩, ?_, ?_⟩⟩
  ·rintro k e ρ hd ⟨x10, rfl⟩
   obtain ⟨y, hy, rfl⟩ := map_at hd
   obtain ⟨y0, y1⟩ := hLo.rg y (zq16x hy)
   refine Gv.nameI ?_
   refine Sv.dropS (EvS.meth mono_Mender_lose rfl rfl (insCu.is rfl) ?_)
   walk_at "dt"
   refine ⟨rfl, x, dx, l9, p, n, y, cs, losW ws (L.take k), rfl, rfl, y0, y1, by rw [losW_len]; omega, ?_⟩
   rw [losW_set y0, <- take_snoc hy]
   exact ⟨_, rfl⟩
  rintro ρ ⟨x10, rfl⟩
  rw [hLm, zq57x]
  refine Sv.seq ?_
  refine Sv.ifSS ?_
  refine TvS.or ?_
  refine TvS.not ?_
  refine TvS.truB ?_
  refine EvS.callD (mono__law_alike 5) ?_
  refine AvS.cons (EvS.meth mono_Mender_step rfl rfl (insCu.is rfl) ?_)
  refine Av.nil ?_
  refine ⟨rfl, x, dx, l9, p, n, cs, losW ws L, rfl, rfl, hNl L, hWs L, by rw [losW_len]; omega, ?_⟩
  walk_at "dt"
  refine Ev.callD mono__law_due ?_
  walk_at "dt"
  refine ⟨rfl, p, n, d.toNat, cs, ws, L, rfl, hD, hN, hR, ht, hnw, by omega, hLo, hLu, hLl, fun hlr => ?_⟩
  rw [few_put hN hR ht hnw hLo hlr]
  walk_at "dt"
  refine ⟨rfl, rdsD (rndF p cs (losW ws L)), rfl, alike_rds _ (by omega), _, rfl, ?_⟩
  rw [if_neg (by decide)]
  refine TvS.not ?_
  refine TvS.truB ?_
  refine EvS.callD (mono__law_alike 5) ?_
  refine AvS.cons (EvS.meth mono_Mender_step rfl rfl (insCu.is rfl) ?_)
  refine Av.nil ?_
  have hN0 : NetQ p cs (ws.map some).length := by rw [zq0x]; exact hN
  have hW0 : WoOk (ws.map some) := by rw [<- losW_nil]; exact hWs []
  refine ⟨rfl, x, dx, l9, p, n, cs, ws.map some, rfl, rfl, hN0, hW0, by rw [zq0x]; omega, ?_⟩
  rw [full_round (n := n) hN hnw]
  walk_at "dt"
  refine ⟨rdsD [], rfl, eal0, _, rfl, ?_⟩
  rw [if_neg (by decide)]
  refine Sv.next ?_
  refine Sv.ifSS ?_
  refine TvS.or ?_
  refine TvS.not ?_
  refine TvS.truB ?_
  refine EvS.callD (mono__law_alike 5) ?_
  refine AvS.cons (EvS.meth mono_Mender_lost rfl rfl (insCu.is rfl) ?_)
  refine Av.nil ?_
  refine ⟨rfl, x, dx, l9, netD p n cs, ws.map some, rfl, rfl, by rw [zq0x]; omega, ?_⟩
  have hl0 : lostOf (ws.map some) = [] := List.eq_nil_iff_forall_not_mem.mpr fun y hy => by
   have := (lostOf_mem.mp hy).2
   rw [zq6x] at this
   cases z : ws[y.toNat]? with
   | none => rw [z] at this; cases this
   | some u => rw [z] at this; cases this
  rw [hl0]
  walk_at "dt"
  refine ⟨rdsD [], rfl, eal0, _, rfl, ?_⟩
  rw [if_neg (by decide)]
  refine TvS.not ?_
  refine TvS.truB ?_
  refine EvS.callD (mono__law_alike 5) ?_
  refine AvS.cons (EvS.meth mono_Mender_word rfl rfl (insCu.is rfl) ?_)
  refine Av.nil ?_
  refine ⟨rfl, x, dx, l9, netD p n cs, ws.map some, rfl, rfl, ?_⟩
  walk_at "dt"
  refine ⟨rfl, woD (ws.map some), by rw [<- ewo]; rfl, alike_wo (n := 3) _ (by rw [zq0x]; omega), _, rfl, ?_⟩
  rw [if_neg (by decide)]
  refine Sv.next ?_
  exact ⟨_, _, _, rfl⟩
 rintro ρ ⟨x5, x9, x10, rfl⟩
 walk_at "dt"
 rfl
end
local macro_rules | `(tactic| walk_at "bn") => `(tactic| (intro _ _ _ _ _ _ us hl; first | (obtain ⟨_, h⟩ := ln1 hl; subst h; rfl) | (obtain ⟨_, _, h⟩ := ln2 hl; subst h; rfl) | (obtain ⟨_, _, _, h⟩ := ln3 hl; subst h; rfl) | (obtain ⟨_, _, _, _, h⟩ := ln4 hl; subst h; rfl) | (obtain ⟨_, _, _, _, _, h⟩ := ln5 hl; subst h; rfl) | (obtain ⟨_, _, _, _, _, _, h⟩ := ln6 hl; subst h; rfl) | (obtain ⟨_, _, _, _, _, _, _, h⟩ := ln7 hl; subst h; rfl)))
theorem all_mk {l : PySem.W.OpenLaw} {w : World} {K : PySem.W.Frag} {h : Heap} {mg : Str -> Option Value} {fa : Addr} {f0 f1 f2 f3 f4 f5 f6 f7 f8 f9 f10 f11 f12 f13 f14 f15 f16 f17 f18 f19 f20 f21 f22 f23 f24 f25 f26 f27 f28 f29 f30 f31 f32 : Addr} (X : K.In h) (G : h.Ns mainGlobals mg) (hfa : mg "law" = some (.ref fa))
  {od26 an26 : Option Addr} {sl26 : Array (Option Value)} {oc26 kV26 dc26 pm26 cd26 ct26 : Value} {od27 an27 : Option Addr} {sl27 : Array (Option Value)} {oc27 kV27 dc27 pm27 cd27 ct27 : Value} {od28 an28 : Option Addr} {sl28 : Array (Option Value)} {oc28 kV28 dc28 pm28 cd28 ct28 : Value} {od29 an29 : Option Addr} {sl29 : Array (Option Value)} {oc29 kV29 dc29 pm29 cd29 ct29 : Value} {od30 an30 : Option Addr} {sl30 : Array (Option Value)} {oc30 kV30 dc30 pm30 cd30 ct30 : Value} {od31 an31 : Option Addr} {sl31 : Array (Option Value)} {oc31 kV31 dc31 pm31 cd31 ct31 : Value} {od32 an32 : Option Addr} {sl32 : Array (Option Value)} {oc32 kV32 dc32 pm32 cd32 ct32 : Value}
  {C_Mender : Addr} (aC_Mender : PySem.W.nsIn K mainGlobals "Mender" = some (some (.ref C_Mender))) (pg_Mender : PySem.W.plainGet K C_Mender Str.empty = true) (hd_Mender : PySem.W.hasDictIn K C_Mender = true) (po_Mender : PySem.W.plainOver K C_Mender = true) (sa_Mender : PySem.W.findIn K (.ref C_Mender) "__setattr__" = some (some (.builtin "object.__setattr__"))) (mk_Mender : PySem.W.makesIn K C_Mender = true) (kc_Mender : PySem.W.keepIn K (.ref C_Mender) = true)
  (na_Mender_net : PySem.W.findIn K (.ref C_Mender) "net" = some none)
  (na_Mender_letters : PySem.W.findIn K (.ref C_Mender) "letters" = some none)
  (d0 : DfAt K "over" "over" sOver f0)
  (d1 : DfAt K "inverse" "inverse" sInverse f1)
  (d2 : DfAt K "total" "total" sTotal f2)
  (d3 : DfAt K "ask_place" "ask_place" sAskPlace f3)
  (d4 : DfAt K "lost_of" "lost_of" sLostOf f4)
  (d5 : DfAt K "told_by" "told_by" sToldBy f5)
  (d6 : DfAt K "told_for" "told_for" sToldFor f6)
  (d7 : DfAt K "round_of" "round_of" sRoundOf f7)
  (d8 : DfAt K "copied" "copied" sCopied f8)
  (d9 : DfAt K "mended" "mended" sMended f9)
  (d10 : DfAt K "_law_bag" "_law_bag" sLawBag f10)
  (d11 : DfAt K "_law_draw" "_law_draw" sLawDraw f11)
  (d12 : DfAt K "_law_prime_from" "_law_prime_from" sLawPrimeFrom f12)
  (d13 : DfAt K "_law_prime" "_law_prime" sLawPrime f13)
  (d14 : DfAt K "_law_over" "_law_over" sLawOver f14)
  (d15 : DfAt K "_law_factor" "_law_factor" sLawFactor f15)
  (d16 : DfAt K "_law_turned" "_law_turned" sLawTurned f16)
  (d17 : DfAt K "_law_copy" "_law_copy" sLawCopy f17)
  (d18 : DfAt K "_law_alike" "_law_alike" sLawAlike f18)
  (d19 : DfAt K "_law_direction" "_law_direction" sLawDirection f19)
  (d20 : DfAt K "_law_even" "_law_even" sLawEven f20)
  (d21 : DfAt K "_law_word" "_law_word" sLawWord f21)
  (d22 : DfAt K "_law_factors" "_law_factors" sLawFactors f22)
  (d23 : DfAt K "_law_lines_net" "_law_lines_net" sLawLinesNet f23)
  (d24 : DfAt K "_law_losses" "_law_losses" sLawLosses f24)
  (d25 : DfAt K "_law_due" "_law_due" sLawDue f25)
  (a26 : PySem.W.nsIn K mainGlobals "law" = some (some (.ref f26))) (l26 : K.lookup f26 = some ⟨oc26, od26, .func (PySem.W.fnOf "law" "law" (defArgs sLaw) (defBody sLaw) (defScope sLaw) .none kV26 dc26 pm26 an26 cd26 ct26), sl26⟩) (c26 : PySem.W.codeIn K cd26 "law" = true) (k26 : PySem.W.keepIn K (.ref f26) = true)
  (a27 : PySem.W.findIn K (.ref C_Mender) "__init__" = some (some (.ref f27))) (i27 : PySem.W.isFn K (.ref f27) = true) (l27 : K.lookup f27 = some ⟨oc27, od27, .func (PySem.W.fnOf "__init__" "Mender.__init__" (defArgs sMenderInit) (defBody sMenderInit) (defScope sMenderInit) .none kV27 dc27 pm27 an27 cd27 ct27), sl27⟩) (c27 : PySem.W.codeIn K cd27 "Mender.__init__" = true) (k27 : PySem.W.keepIn K (.ref f27) = true)
  (a28 : PySem.W.findIn K (.ref C_Mender) "step" = some (some (.ref f28))) (i28 : PySem.W.isFn K (.ref f28) = true) (l28 : K.lookup f28 = some ⟨oc28, od28, .func (PySem.W.fnOf "step" "Mender.step" (defArgs sMenderStep) (defBody sMenderStep) (defScope sMenderStep) .none kV28 dc28 pm28 an28 cd28 ct28), sl28⟩) (c28 : PySem.W.codeIn K cd28 "Mender.step" = true) (k28 : PySem.W.keepIn K (.ref f28) = true)
  (a29 : PySem.W.findIn K (.ref C_Mender) "mend" = some (some (.ref f29))) (i29 : PySem.W.isFn K (.ref f29) = true) (l29 : K.lookup f29 = some ⟨oc29, od29, .func (PySem.W.fnOf "mend" "Mender.mend" (defArgs sMenderMend) (defBody sMenderMend) (defScope sMenderMend) .none kV29 dc29 pm29 an29 cd29 ct29), sl29⟩) (c29 : PySem.W.codeIn K cd29 "Mender.mend" = true) (k29 : PySem.W.keepIn K (.ref f29) = true)
  (a30 : PySem.W.findIn K (.ref C_Mender) "lose" = some (some (.ref f30))) (i30 : PySem.W.isFn K (.ref f30) = true) (l30 : K.lookup f30 = some ⟨oc30, od30, .func (PySem.W.fnOf "lose" "Mender.lose" (defArgs sMenderLose) (defBody sMenderLose) (defScope sMenderLose) .none kV30 dc30 pm30 an30 cd30 ct30), sl30⟩) (c30 : PySem.W.codeIn K cd30 "Mender.lose" = true) (k30 : PySem.W.keepIn K (.ref f30) = true)
  (a31 : PySem.W.findIn K (.ref C_Mender) "word" = some (some (.ref f31))) (i31 : PySem.W.isFn K (.ref f31) = true) (l31 : K.lookup f31 = some ⟨oc31, od31, .func (PySem.W.fnOf "word" "Mender.word" (defArgs sMenderWord) (defBody sMenderWord) (defScope sMenderWord) .none kV31 dc31 pm31 an31 cd31 ct31), sl31⟩) (c31 : PySem.W.codeIn K cd31 "Mender.word" = true) (k31 : PySem.W.keepIn K (.ref f31) = true)
  (a32 : PySem.W.findIn K (.ref C_Mender) "lost" = some (some (.ref f32))) (i32 : PySem.W.isFn K (.ref f32) = true) (l32 : K.lookup f32 = some ⟨oc32, od32, .func (PySem.W.fnOf "lost" "Mender.lost" (defArgs sMenderLost) (defBody sMenderLost) (defScope sMenderLost) .none kV32 dc32 pm32 an32 cd32 ct32), sl32⟩) (c32 : PySem.W.codeIn K cd32 "Mender.lost" = true) (k32 : PySem.W.keepIn K (.ref f32) = true)
  (z_abs : PySem.W.nsIn K mainGlobals "abs" = some none)
  (z_all : PySem.W.nsIn K mainGlobals "all" = some none)
  (z_bool : PySem.W.nsIn K mainGlobals "bool" = some none)
  (z_enumerate : PySem.W.nsIn K mainGlobals "enumerate" = some none)
  (z_int : PySem.W.nsIn K mainGlobals "int" = some none)
  (z_isinstance : PySem.W.nsIn K mainGlobals "isinstance" = some none)
  (z_len : PySem.W.nsIn K mainGlobals "len" = some none)
  (z_list : PySem.W.nsIn K mainGlobals "list" = some none)
  (z_min : PySem.W.nsIn K mainGlobals "min" = some none)
  (z_range : PySem.W.nsIn K mainGlobals "range" = some none)
  (z_sorted : PySem.W.nsIn K mainGlobals "sorted" = some none)
  (z_str : PySem.W.nsIn K mainGlobals "str" = some none)
  (z_sum : PySem.W.nsIn K mainGlobals "sum" = some none)
  (z_tuple : PySem.W.nsIn K mainGlobals "tuple" = some none)
  : ∃ fd : FuncData, (∀ (s : Shared) (v : Value), BindsTo s fd ⟨[v], []⟩ [("script", v)]) /\ ∀ base : Heap, K.In base -> base.Ns mainGlobals mg -> FnOk l.prog w K mg base CX0 9 fa fd ["script"] (spLaw K) := by
 have e := hfa.symm.trans (zq15x X G a26)
 cases e
 obtain ⟨a0, _, F0⟩ := d0
 have b0 := F0.binds (ps := ["p", "a", "b"]) (by walk_at "bn")
 obtain ⟨a1, _, F1⟩ := d1
 have b1 := F1.binds (ps := ["p", "b"]) (by walk_at "bn")
 obtain ⟨a2, _, F2⟩ := d2
 have b2 := F2.binds (ps := ["p", "pairs", "word"]) (by walk_at "bn")
 obtain ⟨a3, _, F3⟩ := d3
 have b3 := F3.binds (ps := ["n", "place"]) (by walk_at "bn")
 obtain ⟨a4, _, F4⟩ := d4
 have b4 := F4.binds (ps := ["word"]) (by walk_at "bn")
 obtain ⟨a5, _, F5⟩ := d5
 have b5 := F5.binds (ps := ["net", "word", "c"]) (by walk_at "bn")
 obtain ⟨a6, _, F6⟩ := d6
 have b6 := F6.binds (ps := ["p", "pairs", "rest", "word"]) (by walk_at "bn")
 obtain ⟨a7, _, F7⟩ := d7
 have b7 := F7.binds (ps := ["net", "word"]) (by walk_at "bn")
 obtain ⟨a8, _, F8⟩ := d8
 have b8 := F8.binds (ps := ["net"]) (by walk_at "bn")
 obtain ⟨a9, _, F9⟩ := d9
 have b9 := F9.binds (ps := ["net", "word"]) (by walk_at "bn")
 obtain ⟨a10, _, F10⟩ := d10
 have b10 := F10.binds (ps := ["script"]) (by walk_at "bn")
 obtain ⟨a11, _, F11⟩ := d11
 have b11 := F11.binds (ps := ["bag", "many"]) (by walk_at "bn")
 obtain ⟨a12, _, F12⟩ := d12
 have b12 := F12.binds (ps := ["number"]) (by walk_at "bn")
 obtain ⟨a13, _, F13⟩ := d13
 have b13 := F13.binds (ps := ["bag"]) (by walk_at "bn")
 obtain ⟨a14, _, F14⟩ := d14
 have b14 := F14.binds (ps := ["p", "a", "b"]) (by walk_at "bn")
 obtain ⟨a15, _, F15⟩ := d15
 have b15 := F15.binds (ps := ["bag", "p"]) (by walk_at "bn")
 obtain ⟨a16, _, F16⟩ := d16
 have b16 := F16.binds (ps := ["bag", "row"]) (by walk_at "bn")
 obtain ⟨a17, _, F17⟩ := d17
 have b17 := F17.binds (ps := ["net"]) (by walk_at "bn")
 obtain ⟨a18, _, F18⟩ := d18
 have b18 := F18.binds (ps := ["found", "due"]) (by walk_at "bn")
 obtain ⟨a19, _, F19⟩ := d19
 have b19 := F19.binds (ps := ["q", "s"]) (by walk_at "bn")
 obtain ⟨a20, _, F20⟩ := d20
 have b20 := F20.binds (ps := ["bag", "q"]) (by walk_at "bn")
 obtain ⟨a21, _, F21⟩ := d21
 have b21 := F21.binds (ps := ["bag", "p", "q", "noughts"]) (by walk_at "bn")
 obtain ⟨a22, _, F22⟩ := d22
 have b22 := F22.binds (ps := ["bag", "p", "line", "word"]) (by walk_at "bn")
 obtain ⟨a23, _, F23⟩ := d23
 have b23 := F23.binds (ps := ["bag"]) (by walk_at "bn")
 obtain ⟨a24, _, F24⟩ := d24
 have b24 := F24.binds (ps := ["bag", "net", "d"]) (by walk_at "bn")
 obtain ⟨a25, _, F25⟩ := d25
 have b25 := F25.binds (ps := ["net", "word", "lost"]) (by walk_at "bn")
 have F26 := fun_mk (st := sLaw) l26 c26 k26
 have F27 := fun_mk (st := sMenderInit) l27 c27 k27
 have b27 := F27.binds (ps := ["self", "net", "word"]) (by walk_at "bn")
 have F28 := fun_mk (st := sMenderStep) l28 c28 k28
 have b28 := F28.binds (ps := ["self"]) (by walk_at "bn")
 have F29 := fun_mk (st := sMenderMend) l29 c29 k29
 have b29 := F29.binds (ps := ["self"]) (by walk_at "bn")
 have F30 := fun_mk (st := sMenderLose) l30 c30 k30
 have b30 := F30.binds (ps := ["self", "place"]) (by walk_at "bn")
 have F31 := fun_mk (st := sMenderWord) l31 c31 k31
 have b31 := F31.binds (ps := ["self"]) (by walk_at "bn")
 have F32 := fun_mk (st := sMenderLost) l32 c32 k32
 have b32 := F32.binds (ps := ["self"]) (by walk_at "bn")
 have cl_Mender : Cls K C_Mender := ⟨pg_Mender, hd_Mender, po_Mender, sa_Mender⟩
 have m_abs := zq50x X G z_abs
 have m_all := zq50x X G z_all
 have m_bool := zq50x X G z_bool
 have m_enumerate := zq50x X G z_enumerate
 have m_int := zq50x X G z_int
 have m_isinstance := zq50x X G z_isinstance
 have m_len := zq50x X G z_len
 have m_list := zq50x X G z_list
 have m_min := zq50x X G z_min
 have m_range := zq50x X G z_range
 have m_sorted := zq50x X G z_sorted
 have m_str := zq50x X G z_str
 have m_sum := zq50x X G z_sum
 have m_tuple := zq50x X G z_tuple
 refine ⟨PySem.W.fnOf "law" "law" (defArgs sLaw) (defBody sLaw) (defScope sLaw) .none kV26 dc26 pm26 an26 cd26 ct26, fun s v => .of_eq rfl, fun base _ _ => ?_⟩
 have C_inverse := Callee.mk' F1 (ok_inverse (P := l.prog) (w := w) (base := base) F1) b1 (zq15x X G a1)
 have C_over := Callee.mk' F0 (ok_over (P := l.prog) (w := w) (base := base) F0 C_inverse) b0 (zq15x X G a0)
 have C_total := Callee.mk' F2 (ok_total (P := l.prog) (w := w) (base := base) F2) b2 (zq15x X G a2)
 have C_ask_place := Callee.mk' F3 (ok_ask_place (P := l.prog) (w := w) (base := base) F3) b3 (zq15x X G a3)
 have C_lost_of := Callee.mk' F4 (ok_lost_of (P := l.prog) (w := w) (base := base) F4 m_enumerate) b4 (zq15x X G a4)
 have C_told_for := Callee.mk' F6 (ok_told_for (P := l.prog) (w := w) (base := base) F6 C_over C_total m_len) b6 (zq15x X G a6)
 have C_told_by := Callee.mk' F5 (ok_told_by (P := l.prog) (w := w) (base := base) F5 C_told_for) b5 (zq15x X G a5)
 have C_round_of := Callee.mk' F7 (ok_round_of (P := l.prog) (w := w) (base := base) F7 C_told_by m_range m_len m_sorted) b7 (zq15x X G a7)
 have C_copied := Callee.mk' F8 (ok_copied (P := l.prog) (w := w) (base := base) F8 m_list) b8 (zq15x X G a8)
 have C_Mender_step : MCallee l.prog w K mg base C_Mender "step" 6 ["self"] (spC 1 (F_Mender_step C_Mender)) := ⟨cl_Mender, f28, _, ok_Mender_step (P := l.prog) (w := w) (base := base) F28 cl_Mender na_Mender_net na_Mender_letters C_round_of, b28, ⟨a28, i28, k28⟩⟩
 have C_Mender_mend : MCallee l.prog w K mg base C_Mender "mend" 7 ["self"] (spC 1 (F_Mender_mend C_Mender)) := ⟨cl_Mender, f29, _, ok_Mender_mend (P := l.prog) (w := w) (base := base) F29 C_Mender_step, b29, ⟨a29, i29, k29⟩⟩
 have C_Mender_word : MCallee l.prog w K mg base C_Mender "word" 1 ["self"] (spC 1 (F_Mender_word C_Mender)) := ⟨cl_Mender, f31, _, ok_Mender_word (P := l.prog) (w := w) (base := base) F31 cl_Mender na_Mender_letters m_list, b31, ⟨a31, i31, k31⟩⟩
 have I_Mender : ICallee l.prog w K mg base C_Mender "Mender" 2 ["self", "net", "word"] (spC 3 (F_Mender___init__ C_Mender)) := ⟨f27, _, ok_Mender___init__ (P := l.prog) (w := w) (base := base) F27 cl_Mender na_Mender_net na_Mender_letters C_copied m_list, b27, ⟨mk_Mender, a27, i27, kc_Mender⟩, zq15x X G aC_Mender⟩
 have C_mended := Callee.mk' F9 (ok_mended (P := l.prog) (w := w) (base := base) F9 C_Mender_mend C_Mender_word I_Mender) b9 (zq15x X G a9)
 have C__law_bag := Callee.mk' F10 (ok__law_bag (P := l.prog) (w := w) (base := base) F10 m_abs) b10 (zq15x X G a10)
 have C__law_draw := Callee.mk' F11 (ok__law_draw (P := l.prog) (w := w) (base := base) F11 m_len) b11 (zq15x X G a11)
 have C__law_prime_from := Callee.mk' F12 (ok__law_prime_from (P := l.prog) (w := w) (base := base) F12 m_range) b12 (zq15x X G a12)
 have C__law_prime := Callee.mk' F13 (ok__law_prime (P := l.prog) (w := w) (base := base) F13 C__law_draw C__law_prime_from) b13 (zq15x X G a13)
 have C__law_over := Callee.mk' F14 (ok__law_over (P := l.prog) (w := w) (base := base) F14) b14 (zq15x X G a14)
 have C__law_factor := Callee.mk' F15 (ok__law_factor (P := l.prog) (w := w) (base := base) F15 C__law_draw) b15 (zq15x X G a15)
 have C__law_turned := Callee.mk' F16 (ok__law_turned (P := l.prog) (w := w) (base := base) F16 C__law_draw m_list m_range m_len) b16 (zq15x X G a16)
 have C__law_copy := Callee.mk' F17 (ok__law_copy (P := l.prog) (w := w) (base := base) F17 m_list) b17 (zq15x X G a17)
 have C__law_alike_0 := Callee.void (P := l.prog) (w := w) (base := base) (k := 0) (sp := spD 2 (F__law_alike 0)) F18 b18 (zq15x X G a18) void__law_alike
 have C__law_alike_1 := Callee.mk' F18 (ok__law_alike (P := l.prog) (w := w) (base := base) 0 F18 C__law_alike_0 m_isinstance m_list m_tuple m_all m_len m_bool m_int m_str m_range) b18 (zq15x X G a18)
 have C__law_alike_2 := Callee.mk' F18 (ok__law_alike (P := l.prog) (w := w) (base := base) 1 F18 C__law_alike_1 m_isinstance m_list m_tuple m_all m_len m_bool m_int m_str m_range) b18 (zq15x X G a18)
 have C__law_alike_3 := Callee.mk' F18 (ok__law_alike (P := l.prog) (w := w) (base := base) 2 F18 C__law_alike_2 m_isinstance m_list m_tuple m_all m_len m_bool m_int m_str m_range) b18 (zq15x X G a18)
 have C__law_alike_4 := Callee.mk' F18 (ok__law_alike (P := l.prog) (w := w) (base := base) 3 F18 C__law_alike_3 m_isinstance m_list m_tuple m_all m_len m_bool m_int m_str m_range) b18 (zq15x X G a18)
 have C__law_alike_5 := Callee.mk' F18 (ok__law_alike (P := l.prog) (w := w) (base := base) 4 F18 C__law_alike_4 m_isinstance m_list m_tuple m_all m_len m_bool m_int m_str m_range) b18 (zq15x X G a18)
 have C__law_alike := C__law_alike_5
 have C__law_direction := Callee.mk' F19 (ok__law_direction (P := l.prog) (w := w) (base := base) F19 m_range) b19 (zq15x X G a19)
 have C__law_even := Callee.mk' F20 (ok__law_even (P := l.prog) (w := w) (base := base) F20 C__law_draw m_range m_sum) b20 (zq15x X G a20)
 have C__law_word := Callee.mk' F21 (ok__law_word (P := l.prog) (w := w) (base := base) F21 C__law_even C__law_factor m_range) b21 (zq15x X G a21)
 have C__law_factors := Callee.mk' F22 (ok__law_factors (P := l.prog) (w := w) (base := base) F22 C__law_factor C__law_over m_sum m_int m_range m_len) b22 (zq15x X G a22)
 have C__law_lines_net := Callee.mk' F23 (ok__law_lines_net (P := l.prog) (w := w) (base := base) F23 C__law_prime C__law_turned C__law_word C__law_draw C__law_factors C__law_direction m_range m_list m_len m_sorted) b23 (zq15x X G a23)
 have C__law_losses := Callee.mk' F24 (ok__law_losses (P := l.prog) (w := w) (base := base) F24 C__law_draw C__law_turned m_list m_range m_len) b24 (zq15x X G a24)
 have C__law_due := Callee.mk' F25 (ok__law_due (P := l.prog) (w := w) (base := base) F25 m_range m_len m_min) b25 (zq15x X G a25)
 have C_Mender_lose : MCallee l.prog w K mg base C_Mender "lose" 2 ["self", "place"] (spC 2 (F_Mender_lose C_Mender)) := ⟨cl_Mender, f30, _, ok_Mender_lose (P := l.prog) (w := w) (base := base) F30 cl_Mender na_Mender_letters na_Mender_net C_ask_place, b30, ⟨a30, i30, k30⟩⟩
 have C_Mender_lost : MCallee l.prog w K mg base C_Mender "lost" 2 ["self"] (spC 1 (F_Mender_lost C_Mender)) := ⟨cl_Mender, f32, _, ok_Mender_lost (P := l.prog) (w := w) (base := base) F32 cl_Mender na_Mender_letters C_lost_of, b32, ⟨a32, i32, k32⟩⟩
 exact ok_law F26 C_Mender_lose C_Mender_step C_Mender_lost C_Mender_word I_Mender C__law_bag C__law_lines_net C_mended C__law_losses C__law_copy C__law_alike C__law_due m_sorted m_range m_list m_len
theorem walk {l : PySem.W.OpenLaw} {q : Program} {loose : List Str} {XP : (Str -> Option Value) -> Heap -> Prop} {YP : World -> Heap -> Prop} {d : DefRec} {K : Params -> PySem.W.Frag} (hn : l.most = some 63) (hdf : d.params.defaults = [])
  (hY : ∀ (w : World) (h : Heap), YP w h -> (K w.params).In h)
  (F : ∀ (w : World) (mg : Str -> Option Value) (fa : Addr) (h : Heap), (K w.params).In h -> h.Ns mainGlobals mg -> mg d.name = some (.ref fa) ->
   ∃ fd : FuncData, (∀ (s : Shared) (u : Value), BindsTo s fd ⟨[u], []⟩ [("script", u)]) /\ ∀ base : Heap, (K w.params).In base -> base.Ns mainGlobals mg -> FnOk l.prog w (K w.params) mg base CX0 9 fa fd ["script"] (spLaw (K w.params))) :
  PySem.W.WalkO q loose XP YP l.row.toRowW d [] (fun f vs => PySem.call f vs) :=
 L2.walk_of (n := 63) (k := 9) (x := "script") (CX := fun _ => CX0) (sp := fun w => spLaw (K w.params)) hn (by decide) hdf ⟨rfl, by decide, by decide⟩ hY F (fun _ _ a ns hl _ hS => ⟨a, ns, rfl, hS, hl, fun _ => rfl⟩) fun _ _ _ _ _ z => z
def view : Program := { PySem.Challenge.pw_fewchecks_k28_whole_few_lost_come_back with main := { PySem.Challenge.pw_fewchecks_k28_whole_few_lost_come_back.main with body := [top 0, top 2, top 3, top 4, top 6, top 7, top 9, top 10, top 12, top 13, top 14, top 15, top 16, top 17, top 19, top 20, top 21, top 22, top 23, top 24, top 25, top 26, top 27, top 28, top 29, top 30, top 31, top 32, top 33, top 34, top 35] } }
end K28
open PySem PySem.W PyProof.Rows
local macro_rules | `(tactic| o_head $H:term) => `(tactic|
 (refine holds_open (q := K28.view) (loose := [])
    (Xt := fun s => xlAt K28.view [] s && recOk [] s) (XP := XL K28.view []) (Yf := Hook.obs $H)
    (Ya := Hook.val $H) (YP := Hook.says $H) (N := 100000) ?hl (Hook.of $H)
    (Hook.keeps $H) (fun s e => xl_of s (zq228x.mp e).1) XL.keeps
    rfl rfl rfl (fun s e => recFacts_of (zq228x.mp e).2) rfl
    (by assumption) (by decide +kernel) ⟨rfl, rfl, rfl, rfl, rfl, by decide +kernel⟩ ?hw ?hc; (case hl => exact fun w => by kernel_rfl)))
set_option maxRecDepth 100000 in
set_option maxHeartbeats 0 in
theorem PySem.Challenge.cw_fewchecks_k28_whole_few_lost_come_back_holds : PySem.Challenge.rw_fewchecks_k28_whole_few_lost_come_back.Holds := by
 w_on
 refine holds_law said0 fun said => ?_
 k_head
 (case hw => w_witness2)
 k_fill
 refine K28.walk (l := PySem.Challenge.rw_fewchecks_k28_whole_few_lost_come_back) rfl rfl (fun w h Y => PySem.W.kIn_of Y) ?F
 case F =>
  intro w mg fa h KX G hmg
  refine' K28.all_mk KX G hmg ?aC_Mender ?pg_Mender ?hd_Mender ?po_Mender ?sa_Mender ?mk_Mender ?kc_Mender ?na_Mender_net ?na_Mender_letters ?d0 ?d1 ?d2 ?d3 ?d4 ?d5 ?d6 ?d7 ?d8 ?d9 ?d10 ?d11 ?d12 ?d13 ?d14 ?d15 ?d16 ?d17 ?d18 ?d19 ?d20 ?d21 ?d22 ?d23 ?d24 ?d25 ?a26 ?l26 ?c26 ?k26 ?a27 ?i27 ?l27 ?c27 ?k27 ?a28 ?i28 ?l28 ?c28 ?k28 ?a29 ?i29 ?l29 ?c29 ?k29 ?a30 ?i30 ?l30 ?c30 ?k30 ?a31 ?i31 ?l31 ?c31 ?k31 ?a32 ?i32 ?l32 ?c32 ?k32 ?z_abs ?z_all ?z_bool ?z_enumerate ?z_int ?z_isinstance ?z_len ?z_list ?z_min ?z_range ?z_sorted ?z_str ?z_sum ?z_tuple
  (case aC_Mender => k_is)
  (case pg_Mender => k_is)
  (case hd_Mender => k_is)
  (case po_Mender => k_is)
  (case sa_Mender => k_is)
  (case mk_Mender => k_is)
  (case kc_Mender => k_is)
  (case na_Mender_net => k_is)
  (case na_Mender_letters => k_is)
  (case d0 => refine' L2.DfAt.mk ?a ?l ?c ?k; (case a => k_is); (case l => k_is); (case c => k_is); (case k => k_is))
  (case d1 => refine' L2.DfAt.mk ?a ?l ?c ?k; (case a => k_is); (case l => k_is); (case c => k_is); (case k => k_is))
  (case d2 => refine' L2.DfAt.mk ?a ?l ?c ?k; (case a => k_is); (case l => k_is); (case c => k_is); (case k => k_is))
  (case d3 => refine' L2.DfAt.mk ?a ?l ?c ?k; (case a => k_is); (case l => k_is); (case c => k_is); (case k => k_is))
  (case d4 => refine' L2.DfAt.mk ?a ?l ?c ?k; (case a => k_is); (case l => k_is); (case c => k_is); (case k => k_is))
  (case d5 => refine' L2.DfAt.mk ?a ?l ?c ?k; (case a => k_is); (case l => k_is); (case c => k_is); (case k => k_is))
  (case d6 => refine' L2.DfAt.mk ?a ?l ?c ?k; (case a => k_is); (case l => k_is); (case c => k_is); (case k => k_is))
  (case d7 => refine' L2.DfAt.mk ?a ?l ?c ?k; (case a => k_is); (case l => k_is); (case c => k_is); (case k => k_is))
  (case d8 => refine' L2.DfAt.mk ?a ?l ?c ?k; (case a => k_is); (case l => k_is); (case c => k_is); (case k => k_is))
  (case d9 => refine' L2.DfAt.mk ?a ?l ?c ?k; (case a => k_is); (case l => k_is); (case c => k_is); (case k => k_is))
  (case d10 => refine' L2.DfAt.mk ?a ?l ?c ?k; (case a => k_is); (case l => k_is); (case c => k_is); (case k => k_is))
  (case d11 => refine' L2.DfAt.mk ?a ?l ?c ?k; (case a => k_is); (case l => k_is); (case c => k_is); (case k => k_is))
  (case d12 => refine' L2.DfAt.mk ?a ?l ?c ?k; (case a => k_is); (case l => k_is); (case c => k_is); (case k => k_is))
  (case d13 => refine' L2.DfAt.mk ?a ?l ?c ?k; (case a => k_is); (case l => k_is); (case c => k_is); (case k => k_is))
  (case d14 => refine' L2.DfAt.mk ?a ?l ?c ?k; (case a => k_is); (case l => k_is); (case c => k_is); (case k => k_is))
  (case d15 => refine' L2.DfAt.mk ?a ?l ?c ?k; (case a => k_is); (case l => k_is); (case c => k_is); (case k => k_is))
  (case d16 => refine' L2.DfAt.mk ?a ?l ?c ?k; (case a => k_is); (case l => k_is); (case c => k_is); (case k => k_is))
  (case d17 => refine' L2.DfAt.mk ?a ?l ?c ?k; (case a => k_is); (case l => k_is); (case c => k_is); (case k => k_is))
  (case d18 => refine' L2.DfAt.mk ?a ?l ?c ?k; (case a => k_is); (case l => k_is); (case c => k_is); (case k => k_is))
  (case d19 => refine' L2.DfAt.mk ?a ?l ?c ?k; (case a => k_is); (case l => k_is); (case c => k_is); (case k => k_is))
  (case d20 => refine' L2.DfAt.mk ?a ?l ?c ?k; (case a => k_is); (case l => k_is); (case c => k_is); (case k => k_is))
  (case d21 => refine' L2.DfAt.mk ?a ?l ?c ?k; (case a => k_is); (case l => k_is); (case c => k_is); (case k => k_is))
  (case d22 => refine' L2.DfAt.mk ?a ?l ?c ?k; (case a => k_is); (case l => k_is); (case c => k_is); (case k => k_is))
  (case d23 => refine' L2.DfAt.mk ?a ?l ?c ?k; (case a => k_is); (case l => k_is); (case c => k_is); (case k => k_is))
  (case d24 => refine' L2.DfAt.mk ?a ?l ?c ?k; (case a => k_is); (case l => k_is); (case c => k_is); (case k => k_is))
  (case d25 => refine' L2.DfAt.mk ?a ?l ?c ?k; (case a => k_is); (case l => k_is); (case c => k_is); (case k => k_is))
  (case a26 => k_is)
  (case l26 => k_is)
  (case c26 => k_is)
  (case k26 => k_is)
  (case a27 => k_is)
  (case i27 => k_is)
  (case l27 => k_is)
  (case c27 => k_is)
  (case k27 => k_is)
  (case a28 => k_is)
  (case i28 => k_is)
  (case l28 => k_is)
  (case c28 => k_is)
  (case k28 => k_is)
  (case a29 => k_is)
  (case i29 => k_is)
  (case l29 => k_is)
  (case c29 => k_is)
  (case k29 => k_is)
  (case a30 => k_is)
  (case i30 => k_is)
  (case l30 => k_is)
  (case c30 => k_is)
  (case k30 => k_is)
  (case a31 => k_is)
  (case i31 => k_is)
  (case l31 => k_is)
  (case c31 => k_is)
  (case k31 => k_is)
  (case a32 => k_is)
  (case i32 => k_is)
  (case l32 => k_is)
  (case c32 => k_is)
  (case k32 => k_is)
  (case z_abs => k_is)
  (case z_all => k_is)
  (case z_bool => k_is)
  (case z_enumerate => k_is)
  (case z_int => k_is)
  (case z_isinstance => k_is)
  (case z_len => k_is)
  (case z_list => k_is)
  (case z_min => k_is)
  (case z_range => k_is)
  (case z_sorted => k_is)
  (case z_str => k_is)
  (case z_sum => k_is)
  (case z_tuple => k_is)
