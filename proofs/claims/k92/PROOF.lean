import PyProof.Rows.All
import Wide.All
import OpenK.AllK
import Wide.FinOn
import Lean
import PyProof.EqAt
import PyProof.EqKinds
import PyProof.TupleCall
import PySem.Challenge.RW_fewchecks_k92_whole_net_texts
set_option compiler.extract_closed false
set_option maxRecDepth 100000 in
set_option maxHeartbeats 0 in
def zq0x := @List.length_map
def zq1x := @Nat.le_refl
def zq2x := @List.lookup_cons
def zq3x := @PySem.Heap.lt_size
def zq4x := @List.mem_cons
def zq5x := @List.getElem?_eq_getElem
def zq6x := @List.getElem?_set_ne
def zq7x := @List.map_cons
def zq8x := @List.getElem?_eq_some_iff
def zq9x := @PySem.Heap.get?_push_of_some
def zq10x := @List.mem_singleton
def zq11x := @List.map_append
def zq12x := @List.getElem?_set_self
def zq13x := @PySem.W.mg_of
def zq14x := @List.mem_cons_self
def zq15x := @Bool.false_ne_true
def zq16x := @List.size_toArray
def zq17x := @Nat.lt_of_lt_of_le
def zq18x := @Ne.symm
def zq19x := @List.getElem?_map
def zq20x := @List.mem_cons_of_mem
def zq21x := @List.mem_map
def zq22x := @Nat.ne_of_lt
def zq23x := @List.append_assoc
def zq24x := @Array.toList_append
def zq25x := @Nat.le_trans
def zq26x := @List.length_append
def zq27x := @List.mem_of_getElem?
def zq28x := @Bool.and_eq_true
def zq29x := @PySem.Heap.get?_push_size
def zq30x := @List.getElem?_append_right
def zq31x := @List.getElem?_append_left
def zq32x := @Option.some_ne_none
def zq33x := @List.nodup_cons
def zq34x := @Array.length_toList
def zq35x := @List.length_cons
def zq36x := @Nat.zero_le
def zq37x := @List.getElem?_replicate
def zq38x := @List.length_set
def zq39x := @Option.some.inj
def zq40x := @Nat.lt_irrefl
def zq41x := @List.mem_append
def zq42x := @List.mem_append_right
def zq43x := @PySem.W.kia_one
def zq44x := @List.append_nil
def zq45x := @PySem.W.mg_none_of
def zq46x := @Option.map_eq_some_iff
def zq47x := @List.getElem_mem
def zq48x := @Array.getElem?_toList
def zq49x := @List.length_take
def zq50x := @PySem.Heap.get?_update_other
def zq51x := @Classical.byContradiction
def zq52x := @Array.getElem?_eq_getElem
def zq53x := @Array.toList_push
def zq54x := @List.Perm.append_left
def zq55x := @Bool.false_eq_true
def zq56x := @PyProof.Rows.boot_str
def zq57x := @List.take_length
def zq58x := @PySem.boot_len
def zq59x := @PyProof.Rows.boot_isinstance
def zq60x := @Bool.eq_iff_iff
def zq61x := @List.getElem?_eq_none
def zq62x := @List.perm_append_comm
def zq63x := @List.take_append_drop
def zq64x := @List.map_map
def zq65x := @PySem.PassesOwn.never
def zq66x := @Nat.le_of_lt
def zq67x := @List.length_singleton
def zq68x := @List.map_nil
def zq69x := @List.set_set
def zq70x := @List.cons_append
def zq71x := @List.getElem?_cons_succ
def zq72x := @Array.size_extract
def zq73x := @PySem.F.called_set
def zq74x := @List.length_eq_zero_iff
def zq75x := @PySem.F.plainAttrs_str
def zq76x := @PySem.mem_of_lookup
def zq77x := @Bool.or_false
def zq78x := @PySem.Heap.size_push
def zq79x := @List.ext_getElem?
def zq80x := @Nat.lt_succ_of_lt
def zq81x := @List.getElem?_of_mem
def zq82x := @PySem.W.kia_tup
def zq83x := @List.flatten_cons
def zq84x := @List.mem_filter
def zq85x := @List.filterMap_cons
def zq86x := @List.length_drop
def zq87x := @List.all_cons
def zq88x := @Array.getElem?_eq_some_iff
def zq89x := @List.getD_eq_getElem?_getD
def zq90x := @List.take_of_length_le
def zq91x := @Nat.sub_self
def zq92x := @Bool.eq_false_iff
def zq93x := @Nat.le_of_eq
def zq94x := @PySem.Around.under_plainId
def zq95x := @Nat.lt_succ_self
def zq96x := @Bool.not_true
def zq97x := @List.drop_zero
def zq98x := @Int.emod_nonneg
def zq99x := @Int.emod_lt_of_pos
def zq100x := @PyProof.Rows.boot_list
def zq101x := @PySem.F.plainAttrs_list
def zq102x := @PySem.F.slot_list_append
def zq103x := @PySem.F.type_list_append
def zq104x := @Nat.ne_of_gt
def zq105x := @Array.mem_toList_iff
def zq106x := @PySem.W.kitx_dict
def zq107x := @PySem.Heap.get?_update_self
def zq108x := @List.all_eq_true
def zq109x := @PySem.SeqAt.canLay_of_shaped
def zq110x := @Nat.lt_trans
def zq111x := @Nat.mod_lt
def zq112x := @Nat.lt_trichotomy
def zq113x := @List.drop_eq_getElem_cons
def zq114x := @Int.mul_assoc
def zq115x := @Nat.mul_le_mul_right
def zq116x := @List.flatten_nil
def zq117x := @PyProof.Rows.boot_int
def zq118x := @PySem.Value.isInt_shape
def zq119x := @List.mem_range
def zq120x := @PyProof.Rows.callWith_type1
def zq121x := @List.mem_filterMap
def zq122x := @PySem.W.kitx_list
def zq123x := @List.of_mem_zip
def zq124x := @Nat.le_of_not_lt
def zq125x := @Nat.lt_of_le_of_lt
def zq126x := @Nat.le_succ
def zq127x := @Nat.log2_lt
def zq128x := @Bool.false_or
def zq129x := @Array.getD_eq_getD_getElem?
def zq130x := @Array.getElem?_eq_none
def zq131x := @Nat.lt_or_eq_of_le
def zq132x := @PyProof.Rows.F.plain_set_update_loop
def zq133x := @List.length_eraseIdx_of_lt
def zq134x := @Bool.not_eq_true'
def zq135x := @Nat.lt_of_lt_of_eq
def zq136x := @List.any_eq_true
def zq137x := @List.Perm.refl
def zq138x := @List.Perm.append_right
def zq139x := @List.drop_of_length_le
def zq140x := @Array.toList_reverse
def zq141x := @List.reverse_perm
def zq142x := @Array.mem_of_getElem?
def zq143x := @List.mem_of_mem_take
def zq144x := @List.any_cons
def zq145x := @Int.eq_ofNat_of_zero_le
def zq146x := @List.lookup_cons_self
def zq147x := @PySem.F.entry_str_split
def zq148x := @PySem.F.args_str_split_2
def zq149x := @Nat.toDigits_of_lt_base
def zq150x := @PySem.F.slot_str_join
def zq151x := @PySem.F.type_str_join
def zq152x := @PySem.F.slot_str_split
def zq153x := @PySem.F.type_str_split
def zq154x := @Bool.true_or
def zq155x := @List.mem_append_left
def zq156x := @PySem.Calls.Name_function_global
def zq157x := @PySem.W.cellsFrom_some
def zq158x := @Option.isSome_iff_exists
def zq159x := @List.filterMap_cons_some
def zq160x := @Array.getElem?_push
def zq161x := @Array.getElem?_extract_of_lt
def zq162x := @List.getElem?_toArray
def zq163x := @List.range_succ_eq_map
def zq164x := @PySem.F.plain_list_iadd
def zq165x := @PySem.F.plain_extend_loop
def zq166x := @List.set_append_right
def zq167x := @Array.toList_setIfInBounds
def zq168x := @Array.toList_modify
def zq169x := @List.map_congr_left
def zq170x := @List.Nodup.length_le_of_subset
def zq171x := @Int.mul_ediv_add_emod
def zq172x := @Option.isNone_iff_eq_none
def zq173x := @PySem.intText_digits
def zq174x := @Nat.toDigits_append_toDigits
def zq175x := @PySem.W.KIN.val_back
def zq176x := @PySem.F.slot_str_startswith
def zq177x := @PySem.F.type_str_startswith
def zq178x := @PyProof.Rows.boot_all
def zq179x := @PyProof.Rows.boot_tuple
def zq180x := @PyProof.Rows.boot_bool
def zq181x := @List.replicate_succ'
def zq182x := @Bool.and_eq_true_iff
theorem said0 : PySem.Challenge.rw_fewchecks_k92_whole_net_texts.wellSaid = true := by decide +kernel
set_option Elab.async false
set_option linter.all false
set_option maxRecDepth 100000
namespace L2
open PySem PySem.Spec PyProof.Rows
abbrev Key := Sum Int Str
def keyIs : Key -> Value -> Bool
 | .inl k, v => Value.isInt k v
 | .inr x, v => Value.isStrOf x v
def keyH (w : World) : Key -> Int
 | .inl k => hashInt k
 | .inr x => hashStr w x
theorem keyIs_shape : ∀ {k : Key} {v : Value}, keyIs k v = true -> (∃ i t, k = Sum.inl i /\ v = Value.int i t) \/ (∃ x t, k = Sum.inr x /\ v = Value.str x t)
  | .inl i, v, h => by
    obtain ⟨t, e⟩ := zq118x (k := i) (v := v) h
    exact .inl ⟨i, t, rfl, e⟩
  | .inr x, v, h => by
    obtain ⟨t, e⟩ := Value.isStrOf_shape (x := x) (v := v) h
    exact .inr ⟨x, t, rfl, e⟩
theorem key_ll (a b : Int) : decide ((Sum.inl a : Key) = Sum.inl b) = (a == b) := by
 by_cases e : a = b
 ·subst e; simp
 ·have h : ¬ (Sum.inl a : Key) = Sum.inl b := fun q => e (Sum.inl.inj q)
  rw [decide_eq_false h]
  exact (beq_eq_false_iff_ne.mpr e).symm
theorem key_rr (a b : Str) : decide ((Sum.inr a : Key) = Sum.inr b) = decide (a = b) := by
 by_cases e : a = b
 ·subst e; simp
 ·have h : ¬ (Sum.inr a : Key) = Sum.inr b := fun q => e (Sum.inr.inj q)
  rw [decide_eq_false h, decide_eq_false e]
theorem key_lr (a : Int) (b : Str) : decide ((Sum.inl a : Key) = Sum.inr b) = false := decide_eq_false (fun q => nomatch q)
theorem key_rl (a : Str) (b : Int) : decide ((Sum.inr a : Key) = Sum.inl b) = false := decide_eq_false (fun q => nomatch q)
def mixKind (prog : Program) (w : World) : PySem.KeyKind prog w Key where
 is := keyIs
 hash := keyH w
 inj := fun v a b ha hb => by
  rcases keyIs_shape ha with ⟨i, t, rfl, rfl⟩ | ⟨x, t, rfl, rfl⟩
  ·rcases keyIs_shape hb with ⟨j, u, rfl, e⟩ | ⟨y, u, rfl, e⟩
   ·injection e with e1 _; rw [e1]
   ·exact nomatch e
  ·rcases keyIs_shape hb with ⟨j, u, rfl, e⟩ | ⟨y, u, rfl, e⟩
   ·exact nomatch e
   ·injection e with e1 _; rw [e1]
 byValue := fun k v h => by
  rcases keyIs_shape h with ⟨i, t, rfl, rfl⟩ | ⟨x, t, rfl, rfl⟩ <;> rfl
 pyHash := fun hv h => by
  rcases keyIs_shape hv with ⟨i, t, rfl, rfl⟩ | ⟨x, t, rfl, rfl⟩
  ·exact wpAny_pyHash_int h
  ·exact wpAny_pyHash_str h
 eqBool := fun hu hv h => by
  rcases keyIs_shape hu with ⟨i, t, rfl, rfl⟩ | ⟨x, t, rfl, rfl⟩
  ·rcases keyIs_shape hv with ⟨j, u, rfl, rfl⟩ | ⟨y, u, rfl, rfl⟩
   ·rw [key_ll] at h; exact wpAny_eqBool_int h
   ·rw [key_lr] at h; exact SeqAt.EqAt.int_str i t y u _ _ _ _ h
  ·rcases keyIs_shape hv with ⟨j, u, rfl, rfl⟩ | ⟨y, u, rfl, rfl⟩
   ·rw [key_rl] at h; exact SeqAt.EqAt.str_int x t j u _ _ _ _ h
   ·rw [key_rr] at h; exact wpAny_eqBool_str h
 «strs» := fun k x t v h => by
  rcases keyIs_shape h with ⟨i, u, rfl, e⟩ | ⟨y, u, rfl, e⟩
  ·exact nomatch e
  ·injection e with e1 _
   subst e1
   cases v <;> rfl
inductive V where
 | non | bl (b : Bool) | int (i : Int) | str (x : Str) | byt (b : Array UInt8) | flt (b : UInt64) | ref (a : Addr) | ty (n : String)
 deriving DecidableEq
def RelV : V -> Value -> Prop
 | .non, u => u = Value.none
 | .bl b, u => u = Value.bool b
 | .int i, u => ∃ t, u = Value.int i t
 | .str x, u => ∃ t, u = Value.str x t
 | .byt b, u => ∃ t, u = Value.bytes b t
 | .flt b, u => ∃ t, u = Value.float b t
 | .ref a, u => u = Value.ref a
 | .ty n, u => u = Value.type n
abbrev Vals : List V -> List Value -> Prop := Paired RelV
theorem Vals.length {xs : List V} {us : List Value} (r : Vals xs us) : xs.length = us.length := Paired.length r
theorem Vals.get : ∀ {xs : List V} {us : List Value} {i : Nat} {x : V}, Vals xs us -> xs[i]? = some x -> ∃ u, us[i]? = some u /\ RelV x u
  | _, _, _, _, .nil, e => by simp at e
  | _, _, 0, _, .cons r _, e => by simp at e; subst e; exact ⟨_, rfl, r⟩
  | _, _, i + 1, x, .cons _ t, e => by
    obtain ⟨u, h1, h2⟩ := Vals.get (i := i) (x := x) t (by simpa using e)
    exact ⟨u, by simpa using h1, h2⟩
theorem Vals.set {x : V} {u : Value} (r : RelV x u) : ∀ {xs : List V} {us : List Value} (i : Nat), Vals xs us -> Vals (xs.set i x) (us.set i u)
 | _, _, _, .nil => .nil
 | _, _, 0, .cons _ t => .cons r t
 | _, _, i + 1, .cons q t => .cons q (Vals.set r i t)
theorem Vals.append : ∀ {xs ys : List V} {us ws : List Value}, Vals xs us -> Vals ys ws -> Vals (xs ++ ys) (us ++ ws)
 | _, _, _, _, .nil, s => s
 | _, _, _, _, .cons r t, s => .cons r (Vals.append t s)
theorem Vals.take : ∀ {xs : List V} {us : List Value} (n : Nat), Vals xs us -> Vals (xs.take n) (us.take n)
 | _, _, 0, _ => .nil
 | _, _, _ + 1, .nil => .nil
 | _, _, n + 1, .cons r t => .cons r (Vals.take n t)
theorem Vals.drop : ∀ {xs : List V} {us : List Value} (n : Nat), Vals xs us -> Vals (xs.drop n) (us.drop n)
 | _, _, 0, r => r
 | _, _, _ + 1, .nil => .nil
 | _, _, n + 1, .cons _ t => Vals.drop n t
def RelO : Option V -> Option Value -> Prop
 | some v, some u => RelV v u
 | none, none => True
 | _, _ => False
def KV {κ : Type} : List (κ × V) -> List (κ × Value) -> Prop := Paired fun (p : κ × V) (q : κ × Value) => p.1 = q.1 /\ RelV p.2 q.2
def kV : Key -> V
 | .inl i => .int i
 | .inr x => .str x
inductive HO where
  | lst (xs : List V)
  | tup (xs : List V)
  | dK (kvs : List (Key × V)) | dT (kvs : List (List Key × V))
  | set (S : Int -> Bool) (n : Nat)
  | ins (C dx : Addr) (fs : List (Str × V))
  | own (x : Addr)
  | xd (fs : List (Str × V))
  | met (f x : Addr)
  | rng (lo hi : Int)
  | frz (o : Obj) (u : HO)
  | tbl (ps : Array Value)
  | ext (φ : Heap -> Prop)
abbrev Hp := Addr -> Option HO
def upd (H : Hp) (a : Addr) (o : HO) : Hp := fun b => if b = a then some o else H b
theorem upd_same {H : Hp} {a : Addr} {o : HO} : upd H a o a = some o := by unfold upd; rw [if_pos rfl]
theorem upd_ne {H : Hp} {a b : Addr} {o : HO} (h : b ≠ a) : upd H a o b = H b := by unfold upd; rw [if_neg h]
theorem upd_upd {H : Hp} {a : Addr} {o u : HO} : upd (upd H a o) a u = upd H a u := by
 funext b; unfold upd; split <;> rfl
theorem ne_of_none {H : Hp} {a b : Addr} {o : HO} (h : H a = some o) (h' : H b = none) : a ≠ b := by
 intro e; subst e; rw [h] at h'; cases h'
section
variable (P : Program) (w : World)
def ObjOk (H : Hp) (h : Heap) (a : Addr) : HO -> Prop
 | .lst xs => xs.length <= sizeLine /\ ∃ (its : List Value) (n : Nat), Vals xs its /\ h.get? a = some { cls := .type "list", data := .seq its.toArray n }
 | .tup xs => xs.length <= sizeLine /\ ∃ its : List Value, Vals xs its /\ IsTup h a its.toArray
 | .dK kvs => kvs.length <= sizeLine /\ (a == sysModules) = false /\ ∃ vs, KV kvs vs /\ h.DictOf (mixKind P w) a vs
 | .dT kvs => kvs.length <= sizeLine /\ (a == sysModules) = false /\ ∃ xs : List (List Key × Addr × Value),
   Paired (fun (p : List Key × V) (q : List Key × Addr × Value) => p.1 = q.1 /\ H q.2.1 = some (.tup (p.1.map kV)) /\ RelV p.2 q.2.2) kvs xs /\
   ∃ o es ep, h.get? a = some o /\ o.ExactDict /\ o.data = .dict es ep /\ es.toList = xs.map (entryOfKey (tupleKind (mixKind P w))) /\ (xs.map (·.1)).Nodup
 | .set S n => h.SetOf (intKind P w) a S n
 | .ins C dx fs => H dx = some (.own a) /\ fs.length <= 1000 /\ dx ≠ a /\ h.get? a = some (PySem.W.instObj C dx) /\
   ∃ mA, h.Ns1 dx mA /\ (∀ f, RelO (fs.lookup f) (mA f)) /\ PySem.Within mA (fs.map (·.1))
 | .own _ => ∃ o, h.get? a = some o
 | .xd fs => ∃ mA, h.Ns1 a mA /\ ∀ f, RelO (fs.lookup f) (mA f)
 | .rng lo hi => ∃ t u v, h.get? a = some { cls := .type "range", data := .fields #[.int lo t, .int hi u, .int 1 v] }
 | .frz o u => h.get? a = some o /\ ObjOk H h a u
 | .tbl ps => h.get? a = some { cls := .none, data := .fields ps }
 | .met f x => h.get? a = some (PySem.W.methodObj (.ref f) (.ref x))
 | .ext φ => φ h /\ (∃ o, h.get? a = some o) /\ ∀ h1 h2 : Heap, φ h1 -> (∀ o, h1.get? a = some o -> h2.get? a = some o) -> φ h2
def HOk (H : Hp) (h : Heap) : Prop := ∀ a o, H a = some o -> ObjOk P w H h a o
end
section
variable {P : Program} {w : World} {H H' : Hp} {h h' : Heap} {a : Addr} {o : HO}
theorem ObjOk.lt (x : ObjOk P w H h a o) : a < h.objs.size := by
 cases o with
 | lst xs => obtain ⟨_, _, _, _, e⟩ := x; exact zq3x e
 | tup xs => obtain ⟨_, _, _, p⟩ := x; exact p.lt
 | dK kvs => obtain ⟨_, _, _, _, o, _, _, e, _⟩ := x; exact zq3x e
 | dT kvs => obtain ⟨_, _, _, _, o, _, _, e, _⟩ := x; exact zq3x e
 | set S n => obtain ⟨o, _, _, _, e, _⟩ := x; exact zq3x e
 | ins C dx fs => obtain ⟨_, _, _, e, _⟩ := x; exact zq3x e
 | own y => obtain ⟨_, e⟩ := x; exact zq3x e
 | xd fs => obtain ⟨_, ⟨_, _, _, e, _⟩, _⟩ := x; exact zq3x e
 | rng lo hi => obtain ⟨_, _, _, e⟩ := x; exact zq3x e
 | frz ob u => obtain ⟨e, _⟩ := x; exact zq3x e
 | tbl ps => exact zq3x (show h.get? a = some _ from x)
 | met f y => exact zq3x (show h.get? a = some _ from x)
 | ext φ => obtain ⟨_, ⟨_, e⟩, _⟩ := x; exact zq3x e
theorem Paired.mapP {α β : Type} {F G : α -> β -> Prop} : ∀ {l₁ : List α} {l₂ : List β}, Paired F l₁ l₂ -> (∀ a b, F a b -> G a b) -> Paired G l₁ l₂
 | _, _, .nil, _ => .nil
 | _, _, .cons r t, f => .cons (f _ _ r) (Paired.mapP t f)
theorem ObjOk.stay (x : ObjOk P w H h a o) (k : ∀ b u, (b = a \/ H b = some (.own a)) -> h.get? b = some u -> h'.get? b = some u)
    (ho : ∀ b, H b = some (.own a) -> H' b = some (.own a)) (ht : ∀ b xs, H b = some (.tup xs) -> H' b = some (.tup xs)) : ObjOk P w H' h' a o := by
  induction o with
  | lst xs => obtain ⟨z, its, n, r, e⟩ := x; exact ⟨z, its, n, r, k _ _ (.inl rfl) e⟩
  | tup xs => obtain ⟨z, its, r, ob, e, c⟩ := x; exact ⟨z, its, r, ob, k _ _ (.inl rfl) e, c⟩
  | dK kvs => obtain ⟨z, y, vs, r, ob, es, ep, e, c⟩ := x; exact ⟨z, y, vs, r, ob, es, ep, k _ _ (.inl rfl) e, c⟩
  | dT kvs =>
    obtain ⟨z, y, xs, r, ob, es, ep, e, c⟩ := x
    exact ⟨z, y, xs, Paired.mapP r fun p q z => ⟨z.1, ht _ _ z.2.1, z.2.2⟩, ob, es, ep, k _ _ (.inl rfl) e, c⟩
  | set S n => obtain ⟨ob, es, ep, t, e, c⟩ := x; exact ⟨ob, es, ep, t, k _ _ (.inl rfl) e, c⟩
  | ins C dx fs =>
    obtain ⟨d, z, ne, e, mA, ⟨od, es, ep, e2, c⟩, r⟩ := x
    exact ⟨ho _ d, z, ne, k _ _ (.inl rfl) e, mA, ⟨od, es, ep, k _ _ (.inr d) e2, c⟩, r⟩
  | own y => obtain ⟨ob, e⟩ := x; exact ⟨ob, k _ _ (.inl rfl) e⟩
  | xd fs => obtain ⟨mA, ⟨od, es, ep, e, c⟩, r⟩ := x; exact ⟨mA, ⟨od, es, ep, k _ _ (.inl rfl) e, c⟩, r⟩
  | rng lo hi => obtain ⟨t, u, v, e⟩ := x; exact ⟨t, u, v, k _ _ (.inl rfl) e⟩
  | frz ob u ih => obtain ⟨e, q⟩ := x; exact ⟨k _ _ (.inl rfl) e, ih q⟩
  | tbl ps =>
    have e : h.get? a = some { cls := .none, data := .fields ps } := x
    show h'.get? a = some { cls := .none, data := .fields ps }
    exact k a _ (.inl rfl) e
  | met f y =>
    have e : h.get? a = some (PySem.W.methodObj (.ref f) (.ref y)) := x
    show h'.get? a = some (PySem.W.methodObj (.ref f) (.ref y))
    exact k a _ (.inl rfl) e
  | ext φ => obtain ⟨p, ⟨o, e⟩, st⟩ := x; exact ⟨st _ _ p fun o q => k _ _ (.inl rfl) q, ⟨o, k _ _ (.inl rfl) e⟩, st⟩
theorem HOk.lt (x : HOk P w H h) (e : H a = some o) : a < h.objs.size := (x a o e).lt
theorem HOk.fresh (x : HOk P w H h) (e : h.objs.size <= a) : H a = none := by
 cases q : H a with
 | none => rfl
 | some u => exact absurd (zq17x (x.lt q) e) (zq40x _)
theorem HOk.kept (x : HOk P w H h) (k : ∀ b u, h.get? b = some u -> h'.get? b = some u) : HOk P w H h' := fun a o e =>
 (x a o e).stay (fun b u _ q => k b u q) (fun _ q => q) fun _ _ q => q
theorem HOk.laid (x : HOk P w H h) (k : ∀ b u, h.get? b = some u -> h'.get? b = some u) (hp : h.objs.size <= a) (new : ObjOk P w (upd H a o) h' a o) : HOk P w (upd H a o) h' := fun b u e => by
 have hn := x.fresh hp
 by_cases hb : b = a
 ·subst hb; rw [upd_same] at e; cases e; exact new
 ·rw [upd_ne hb] at e
  exact (x b u e).stay (fun c v _ q => k c v q) (fun c q => by rw [upd_ne (ne_of_none q hn)]; exact q) fun c xs q => by rw [upd_ne (ne_of_none q hn)]; exact q
end
def Rd (H : Hp) (a : Addr) (u : HO) : Prop := H a = some u \/ ∃ o, H a = some (.frz o u)
theorem Rd.ok {P : Program} {w : World} {H : Hp} {h : Heap} {a : Addr} {u : HO} (r : Rd H a u) (x : HOk P w H h) : ObjOk P w H h a u := by
 rcases r with r | ⟨o, r⟩
 ·exact x a u r
 ·obtain ⟨_, q⟩ := x a _ r
  exact q
def Mut : Option HO -> Prop
 | some (.lst _) => True
 | some (.dK _) => True
 | some (.dT _) => True
 | some (.set _ _) => True
 | some (.ins _ _ _) => True
 | some (.ext _) => True
 | _ => False
section
variable {P : Program} {w : World} {H : Hp} {h h' : Heap} {x e : Addr} {o' : HO}
theorem HOk.write (ok : HOk P w H h) (mu : Mut (H x)) (he : e = x \/ H e = some (.own x)) (k : ∀ b u, b ≠ e -> h.get? b = some u -> h'.get? b = some u) (heo : ∃ u, h'.get? e = some u)
  (new : ObjOk P w (upd H x o') h' x o') : HOk P w (upd H x o') h' := fun b u q => by
 have nown : ∀ c y, H c = some (.own y) -> c ≠ x := fun c y r z => by subst z; rw [r] at mu; exact mu
 have ntup : ∀ c xs, H c = some (.tup xs) -> c ≠ x := fun c xs r z => by subst z; rw [r] at mu; exact mu
 by_cases hb : b = x
 ·subst hb; rw [upd_same] at q; cases q; exact new
 ·rw [upd_ne hb] at q
  by_cases hbe : b = e
  ·have q' : H b = some (.own x) := by
    rcases he with z | z
    ·exact absurd (hbe.trans z) hb
    ·rw [hbe]; exact z
   rw [q] at q'; cases q'
   obtain ⟨v, hv⟩ := heo
   exact ⟨v, by rw [hbe]; exact hv⟩
  ·refine (ok b u q).stay (fun c v hc r => k c v ?_ r) (fun c r => by rw [upd_ne (nown c b r)]; exact r) fun c xs r => by rw [upd_ne (ntup c xs r)]; exact r
   rcases hc with rfl | hc
   ·exact hbe
   ·rintro rfl
    rcases he with z | z
    ·exact nown c b hc z
    ·rw [hc] at z; cases z; exact hb rfl
end
structure Un (fs ex : List Addr) (H H' : Hp) (h h' : Heap) : Prop where
 keep : ∀ b o, h.get? b = some o -> H b = none -> b ∉ fs -> b ∉ ex -> h'.get? b = some o
 slot : ∀ b o, h.get? b = some o -> H b = none -> b ∈ fs -> b ∉ ex -> ∃ sl, h'.get? b = some { o with slots := sl }
 free : ∀ b o, h.get? b = some o -> H b = none -> b ∉ ex -> H' b = none
 there : ∀ b o, h.get? b = some o -> b ∉ ex -> ∃ o', h'.get? b = some o'
 tups : ∀ b xs, H b = some (.tup xs) -> H' b = some (.tup xs)
 frzs : ∀ b o u, H b = some (.frz o u) -> H' b = some (.frz o u)
 tbls : ∀ b ps, H b = some (.tbl ps) -> ∃ more, H' b = some (.tbl (ps ++ more))
section
variable {fs fs' ex ex' : List Addr} {H H1 H2 : Hp} {h h1 h2 h' : Heap} {a x e : Addr} {o : HO}
theorem Un.any (u : Un fs ex H H1 h h1) {b : Addr} {ob : Obj} (q : h.get? b = some ob) (n : H b = none) (hx : b ∉ ex) : ∃ sl, h1.get? b = some { ob with slots := sl } := by
 by_cases hb : b ∈ fs
 ·exact u.slot b ob q n hb hx
 ·exact ⟨ob.slots, u.keep b ob q n hb hx⟩
theorem Un.kept (k : ∀ b u, h.get? b = some u -> h'.get? b = some u) : Un fs ex H H h h' :=
 ⟨fun b ob q _ _ _ => k b ob q, fun b ob q _ _ _ => ⟨ob.slots, k b ob q⟩, fun _ _ _ n _ => n, fun b ob q _ => ⟨ob, k b ob q⟩, fun _ _ q => q, fun _ _ _ q => q, fun _ ps q => ⟨#[], by rw [q]; simp⟩⟩
theorem Un.refl : Un fs ex H H h h := Un.kept fun _ _ q => q
theorem Un.laid (k : ∀ b u, h.get? b = some u -> h'.get? b = some u) (hp : h.objs.size <= a) (hn : H a = none) : Un fs ex H (upd H a o) h h' where
 keep := fun b u q _ _ _ => k b u q
 slot := fun b u q _ _ _ => ⟨u.slots, k b u q⟩
 free := fun b u q n _ => by rw [upd_ne (zq22x (zq17x (zq3x q) hp))]; exact n
 there := fun b u q _ => ⟨u, k b u q⟩
 tups := fun b xs q => by rw [upd_ne (ne_of_none q hn)]; exact q
 frzs := fun b u xs q => by rw [upd_ne (ne_of_none q hn)]; exact q
 tbls := fun b ps q => ⟨#[], by rw [upd_ne (ne_of_none q hn), q]; simp⟩
theorem Un.write (mu : Mut (H x)) (he : e = x \/ H e = some (.own x)) (k : ∀ b u, b ≠ e -> h.get? b = some u -> h'.get? b = some u) (heo : ∃ u, h'.get? e = some u) : Un fs ex H (upd H x o) h h' := by
 have hx : ∀ b, H b = none -> b ≠ x := fun b n z => by subst z; rw [n] at mu; exact mu
 have hb : ∀ b, H b = none -> b ≠ e := fun b n z => by
  subst z
  rcases he with r | r
  ·exact hx b n r
  ·rw [n] at r; cases r
 have hm : ∀ b u, H b = some u -> ¬ Mut (some u) -> b ≠ x := fun b u q nm z => by subst z; rw [q] at mu; exact nm mu
 refine ⟨fun b u q n _ _ => k b u (hb b n) q, fun b u q n _ _ => ⟨u.slots, k b u (hb b n) q⟩, fun b u q n _ => by rw [upd_ne (hx b n)]; exact n, fun b u q _ => ?_,
  fun b xs q => by rw [upd_ne (hm b _ q fun z => z)]; exact q, fun b u xs q => by rw [upd_ne (hm b _ q fun z => z)]; exact q, fun b ps q => ⟨#[], by rw [upd_ne (hm b _ q fun z => z), q]; simp⟩⟩
 by_cases hbe : b = e
 ·subst hbe; exact heo
 ·exact ⟨u, k b u hbe q⟩
end
def trk (h : Heap) (H : Hp) : List Addr := (List.range h.objs.size).filter fun a => (H a).isSome
def hidT (h : Heap) (H : Hp) : Heap := PySem.W.hideAll h (trk h H)
theorem hidT_size (h : Heap) (H : Hp) : (hidT h H).objs.size = h.objs.size := PySem.W.hideAll_size _ _
theorem hidT_get {h : Heap} {H : Hp} {b : Addr} {o : Obj} (e : h.get? b = some o) (n : H b = none) : (hidT h H).get? b = some o :=
 PySem.W.hideAll_get _ e fun hm => by
  have q : (H b).isSome = true := (zq84x.mp hm).2
  rw [n] at q; simp at q
theorem of_hidT {h : Heap} {H : Hp} {b : Addr} {o : Obj} (e : (hidT h H).get? b = some o) : h.get? b = some o /\ H b = none := by
  have e' : h.get? b = some o := PySem.W.of_hideAll (trk h H) e
  refine ⟨e', ?_⟩
  cases q : H b with
  | none => rfl
  | some x =>
    have hm : b ∈ trk h H := zq84x.mpr ⟨zq119x.mpr (zq3x e'), by simp [q]⟩
    have z : (hidT h H).get? b = none := PySem.W.hideAll_none (trk h H) hm
    rw [z] at e; cases e
def allNews (g h : Heap) (L : Addr) : List (Addr × Obj) := (List.range h.objs.size).filterMap fun a => if a = L \/ (g.get? a).isSome = true then none else (h.get? a).map fun o => (a, o)
def rest (g h : Heap) (L d : Addr) : List (Addr × Obj) := (allNews g h L).filter fun p => decide (p.1 ≠ d)
structure Mod (K : PySem.W.Frag) (mg : Str -> Option Value) (base : Heap) : Prop where
 kin : K.In base
 glob : base.Ns mainGlobals mg
 blt : ∃ mb, base.Ns builtinsNs mb /\ ∀ x : Str, x ≠ "__name__" -> mb x = bootBuiltins x
 nolimit : base.NoLimit
structure Cx where
 prog : Program
 w : World
 K : PySem.W.Frag
 mg : Str -> Option Value
 base : Heap
 A : Around
 N : List Str
 s₀ : Shared
 H₀ : Hp
 env : Env
 outer : List Env
 stack : List Env
 ex : List Addr
 fn : Str -> Bool
 calm : Bool
 pn : List (Addr × Obj)
 xe : Value -> Shared -> Prop
def frs (l : List Env) : List Addr := l.filterMap (·.frame)
abbrev Cx.fs (X : Cx) : List Addr := frs X.outer
def Vis (sc : Scope) (x : Str) : Prop := sc.names.lookup x = some .local \/ sc.names.lookup x = some .cell \/ sc.names.lookup x = some .free
def Loc (sc : Scope) (x : Str) : Prop := sc.names.lookup x = some .local \/ sc.names.lookup x = some .cell
def Look (env : Env) (h : Heap) (m : Str -> Option Value) (x : Str) (u : Value) : Prop :=
 (env.kindOf x = some .local /\ m x = some u) \/ ((env.kindOf x = some .cell \/ env.kindOf x = some .free) /\ ∃ c, env.cells.lookup x = some c /\ h.IsCell c (some u))
structure Cx.Ok (X : Cx) : Prop where
 mod : Mod X.K X.mg X.base
 kind : X.env.scope.kind = .function
 glob : X.env.globals = mainGlobals
 blt : X.env.builtins = builtinsNs
 above : X.s₀.heap.objs.size <= X.env.locals
 inj : ∀ x y c, X.env.cells.lookup x = some c -> X.env.cells.lookup y = some c -> x = y
 has : ∀ x, (X.env.kindOf x = some .cell \/ X.env.kindOf x = some .free) -> ∃ c, X.env.cells.lookup x = some c
 cab : ∀ x c, X.fn x = true -> X.env.cells.lookup x = some c -> X.s₀.heap.objs.size <= c
 hd : X.calm = true -> X.A.handled = none
 frames : X.A.frames = some X.stack
 stk : X.stack = X.outer \/ (X.stack = X.env :: X.outer /\ X.env.frame = some X.env.locals)
 exf : ∀ b ∈ X.ex, b ≠ X.env.locals /\ ∀ x c, X.env.cells.lookup x = some c -> c ≠ b
 bs : ∀ b o, X.base.get? b = some o -> X.s₀.heap.get? b = some o /\ X.H₀ b = none
 bsz : X.base.objs.size <= X.s₀.heap.objs.size
 noex : ∀ b o, X.base.get? b = some o -> b ∉ X.ex
 exfs : ∀ b ∈ X.ex, b ∉ X.fs
 funs : X.s₀.heap.FunFrames X.base X.outer
 frf : ∀ b ∈ X.fs, X.H₀ b = none
structure Inv (X : Cx) (pins : List (Addr × Obj)) (σ : List (Option V)) (H : Hp) (s : Shared) : Prop where
 ok : X.Ok
 os : s.os = X.s₀.os
 bare : AllBare s.gens
 base : Un X.fs X.ex X.H₀ H X.s₀.heap s.heap
 loc : ∃ m, s.heap.Ns X.env.locals m /\ ∀ (i : Nat) (x : Str) (v : V), X.N[i]? = some x -> σ[i]? = some (some v) -> Vis X.env.scope x -> ∃ u, RelV v u /\ Look X.env s.heap m x u
 cell : ∀ x c, X.env.cells.lookup x = some c -> ∃ v, s.heap.IsCell c v
 free : H X.env.locals = none
 freeC : ∀ x c, X.env.cells.lookup x = some c -> H c = none
 pin : ∀ p ∈ X.pn ++ pins, s.heap.get? p.1 = some p.2 /\ H p.1 = none /\ p.1 ≠ X.env.locals /\ p.1 ∉ X.fs /\ ∀ v, p.2.data ≠ .cell v
 hok : HOk X.prog X.w H s.heap
 len : σ.length = X.N.length
section
variable {X : Cx} {pins : List (Addr × Obj)} {σ : List (Option V)} {H H' : Hp} {s : Shared} {h' : Heap}
theorem Cx.Ok.nofr (ok : X.Ok) {b : Addr} {o : Obj} (e : X.base.get? b = some o) : b ∉ X.fs := fun hb => by
 have := (ok.funs.mem hb).1
 rw [e] at this; cases this
theorem Inv.bs (I : Inv X pins σ H s) : ∀ b o, X.base.get? b = some o -> s.heap.get? b = some o /\ H b = none := fun b o e =>
 ⟨I.base.keep b o (I.ok.bs b o e).1 (I.ok.bs b o e).2 (I.ok.nofr e) (I.ok.noex b o e), I.base.free b o (I.ok.bs b o e).1 (I.ok.bs b o e).2 (I.ok.noex b o e)⟩
theorem Inv.bk (I : Inv X pins σ H s) : ∀ b o, X.base.get? b = some o -> s.heap.get? b = some o := fun b o e => (I.bs b o e).1
theorem Inv.mod (I : Inv X pins σ H s) : Mod X.K X.mg X.base := I.ok.mod
theorem Inv.kIn (I : Inv X pins σ H s) : X.K.In s.heap := I.ok.mod.kin.keeps I.bk
theorem Inv.lt (I : Inv X pins σ H s) : X.env.locals < s.heap.objs.size := let ⟨_, hn, _⟩ := I.loc; hn.lt
theorem Inv.sz (I : Inv X pins σ H s) : X.s₀.heap.objs.size <= s.heap.objs.size := zq25x I.ok.above (zq66x I.lt)
theorem Inv.nofs (I : Inv X pins σ H s) {a : Addr} (h : s.heap.objs.size <= a) : a ∉ X.fs := fun hb => by
 obtain ⟨_, o, ho, _⟩ := I.ok.funs.mem hb
 exact absurd (zq17x (zq3x ho) (zq25x I.sz h)) (zq40x _)
theorem Inv.cne (I : Inv X pins σ H s) : ∀ x c, X.env.cells.lookup x = some c -> c ≠ X.env.locals := fun x c e z => by
 obtain ⟨v, o, ho, hd⟩ := I.cell x c e
 obtain ⟨m, ⟨o', es, ep, ho', hd', _⟩, _⟩ := I.loc
 rw [z, ho'] at ho; cases ho; rw [hd'] at hd; cases hd
theorem Inv.funs (I : Inv X pins σ H s) : s.heap.FunFrames X.base X.outer := by
  have all : ∀ (l : List Env), (∀ b ∈ frs l, b ∈ X.fs) -> X.s₀.heap.FunFrames X.base l -> s.heap.FunFrames X.base l := by
    intro l
    induction l with
    | nil => intro _ _; trivial
    | cons env r ih =>
      intro hs hl
      obtain ⟨hk, ⟨L, o, hf, hn, ho, hd⟩, hr⟩ := hl
      have hL : L ∈ X.fs := hs L (by unfold frs; rw [zq85x, hf]; exact zq14x)
      obtain ⟨sl, e⟩ := I.base.slot L o ho (I.ok.frf L hL) hL fun z => I.ok.exfs L z hL
      exact ⟨hk, ⟨L, _, hf, hn, e, hd⟩, ih (fun b hb => hs b (by unfold frs; rw [zq85x, hf]; exact zq20x _ hb)) hr⟩
  exact all X.outer (fun _ hb => hb) I.ok.funs
theorem Inv.stack (I : Inv X pins σ H s) : s.heap.FunFrames X.base X.stack := by
 rcases I.ok.stk with e | ⟨e, hf⟩
 ·rw [e]; exact I.funs
 ·rw [e]
  obtain ⟨m, hn, _⟩ := I.loc
  refine .cons (by rw [I.ok.kind]; decide) hf hn ?_ I.funs
  exact Heap.get?_none_of_le (zq25x I.ok.bsz I.ok.above)
theorem Inv.stkSub (I : Inv X pins σ H s) : ∀ b ∈ frs X.stack, b ∈ X.env.locals :: X.fs := fun b hb => by
 rcases I.ok.stk with e | ⟨e, hf⟩
 ·rw [e] at hb; exact zq20x _ hb
 ·rw [e] at hb
  unfold frs at hb
  rw [zq85x, hf] at hb
  exact hb
theorem Inv.stkFree (I : Inv X pins σ H s) : ∀ b ∈ frs X.stack, H b = none := fun b hb => by
 rcases zq4x.mp (I.stkSub b hb) with e | hb
 ·rw [e]; exact I.free
 ·obtain ⟨_, o, ho, _⟩ := I.ok.funs.mem hb
  exact I.base.free b o ho (I.ok.frf b hb) fun z => I.ok.exfs b z hb
theorem Inv.step {g' : Array GenState} {t' : Nat} {d' : Drawn} {ch : List Addr} (I : Inv X pins σ H s)
  (hch : ∀ b ∈ ch, (b ∈ X.ex \/ X.s₀.heap.objs.size <= b) /\ b ≠ X.env.locals /\ (∀ x c, X.env.cells.lookup x = some c -> c ≠ b) /\ ∀ p ∈ X.pn ++ pins, p.1 ≠ b)
  (keep : ∀ b o, b ≠ X.env.locals -> b ∉ X.fs -> b ∉ ch -> s.heap.get? b = some o -> H b = none -> h'.get? b = some o)
  (slot : ∀ b o, b ≠ X.env.locals -> b ∈ X.fs -> b ∉ ch -> s.heap.get? b = some o -> H b = none -> ∃ sl, h'.get? b = some { o with slots := sl }) (free : ∀ b o, b ∉ ch -> s.heap.get? b = some o -> H b = none -> H' b = none)
  (there : ∀ b o, b ∉ ch -> s.heap.get? b = some o -> ∃ o', h'.get? b = some o')
  (tups : ∀ b xs, H b = some (.tup xs) -> H' b = some (.tup xs)) (frzs : ∀ b o u, H b = some (.frz o u) -> H' b = some (.frz o u)) (tbls : ∀ b ps, H b = some (.tbl ps) -> ∃ more, H' b = some (.tbl (ps ++ more)))
  (ns : ∀ m, s.heap.Ns X.env.locals m -> h'.Ns X.env.locals m) (hok : HOk X.prog X.w H' h') (hg : AllBare g') :
  Inv X pins σ H' { s with heap := h', gens := g', drawn := d', toks := t' } := by
 have neL : ∀ b o, X.s₀.heap.get? b = some o -> b ≠ X.env.locals := fun b o e => zq22x (zq17x (zq3x e) I.ok.above)
 have neC : ∀ b o, X.s₀.heap.get? b = some o -> b ∉ X.ex -> b ∉ ch := fun b o e hx hb => by
  rcases (hch b hb).1 with z | z
  ·exact hx z
  ·exact absurd (zq17x (zq3x e) z) (zq40x _)
 have cellK : ∀ x c, X.env.cells.lookup x = some c -> ∀ v, s.heap.IsCell c v -> h'.IsCell c v := fun x c e v ⟨o, ho, hd⟩ => by
  have nch : c ∉ ch := fun z => (hch c z).2.2.1 x c e rfl
  by_cases hc : c ∈ X.fs
  ·obtain ⟨sl, q⟩ := slot c o (I.cne x c e) hc nch ho (I.freeC x c e)
   exact ⟨_, q, hd⟩
  ·exact ⟨o, keep c o (I.cne x c e) hc nch ho (I.freeC x c e), hd⟩
 refine ⟨I.ok, I.os, hg, ⟨fun b o e n hb hx => ?_, fun b o e n hb hx => ?_, fun b o e n hx => ?_, fun b o e hx => ?_, fun b xs e => tups b xs (I.base.tups b xs e), fun b o xs e => frzs b o xs (I.base.frzs b o xs e), fun b ps e => ?_⟩, ?_, fun x c e => ?_, ?_, fun x c e => ?_, fun p hp => ?_, hok, I.len⟩
 ·exact keep b o (neL b o e) hb (neC b o e hx) (I.base.keep b o e n hb hx) (I.base.free b o e n hx)
 ·obtain ⟨sl, e1⟩ := I.base.slot b o e n hb hx
  obtain ⟨sl', e2⟩ := slot b _ (neL b o e) hb (neC b o e hx) e1 (I.base.free b o e n hx)
  exact ⟨sl', e2⟩
 ·obtain ⟨o', e1⟩ := I.base.there b o e hx
  exact free b o' (neC b o e hx) e1 (I.base.free b o e n hx)
 ·obtain ⟨o', e1⟩ := I.base.there b o e hx
  exact there b o' (neC b o e hx) e1
 ·obtain ⟨m1, e1⟩ := I.base.tbls b ps e
  obtain ⟨m2, e2⟩ := tbls b _ e1
  exact ⟨m1 ++ m2, by rw [e2, Array.append_assoc]⟩
 ·obtain ⟨m, hn, hl⟩ := I.loc
  refine ⟨m, ns m hn, fun i x v e1 e2 e3 => ?_⟩
  obtain ⟨u, r, l⟩ := hl i x v e1 e2 e3
  refine ⟨u, r, ?_⟩
  rcases l with l | ⟨k, c, e, z⟩
  ·exact .inl l
  ·exact .inr ⟨k, c, e, cellK x c e _ z⟩
 ·obtain ⟨v, z⟩ := I.cell x c e
  exact ⟨v, cellK x c e v z⟩
 ·obtain ⟨m, ⟨o, _, _, ho, _⟩, _⟩ := I.loc
  exact free _ o (fun z => (hch _ z).2.1 rfl) ho I.free
 ·obtain ⟨v, o, ho, hd⟩ := I.cell x c e
  exact free c o (fun z => (hch c z).2.2.1 x c e rfl) ho (I.freeC x c e)
 ·obtain ⟨e, n, ne, nf, d⟩ := I.pin p hp
  have nch : p.1 ∉ ch := fun z => (hch p.1 z).2.2.2 p hp rfl
  exact ⟨keep p.1 p.2 ne nf nch e n, free p.1 p.2 nch e n, ne, nf, d⟩
theorem Inv.un {t' : Nat} (I : Inv X pins σ H s) (u : Un X.fs [] H H' s.heap h') (hok : HOk X.prog X.w H' h') : Inv X pins σ H' { s with heap := h', toks := t' } := by
 obtain ⟨m, ⟨o, es, ep, ho, r⟩, _⟩ := id I.loc
 obtain ⟨sl, hL⟩ := u.any ho I.free (by simp)
 exact I.step (g' := s.gens) (d' := s.drawn) (ch := []) (fun _ z => nomatch z) (fun b o _ hb _ e n => u.keep b o e n hb (by simp)) (fun b o _ hb _ e n => u.slot b o e n hb (by simp)) (fun b o _ e n => u.free b o e n (by simp)) (fun b o _ e => u.there b o e (by simp)) u.tups u.frzs u.tbls (fun m' hm => by
  obtain ⟨o', es', ep', ho', r'⟩ := hm
  rw [ho] at ho'; cases ho'
  exact ⟨_, es', ep', hL, r'⟩) hok I.bare
theorem Inv.call {g' : Array GenState} {t' : Nat} {d' : Drawn} {ch : List Addr} (I : Inv X pins σ H s) (u : Un (frs X.stack) ch H H' s.heap h') (hok : HOk X.prog X.w H' h') (hg : AllBare g')
  (hch : ∀ b ∈ ch, (b ∈ X.ex \/ X.s₀.heap.objs.size <= b) /\ b ≠ X.env.locals /\ (∀ x c, X.env.cells.lookup x = some c -> c ≠ b) /\ ∀ p ∈ X.pn ++ pins, p.1 ≠ b) :
  Inv X pins σ H' { s with heap := h', gens := g', drawn := d', toks := t' } := by
 obtain ⟨m, ⟨o, es, ep, ho, r⟩, _⟩ := id I.loc
 obtain ⟨sl, hL⟩ := u.any ho I.free fun z => (hch _ z).2.1 rfl
 exact I.step (ch := ch) hch (fun b o hL hb hc e n => u.keep b o e n (fun z => (zq4x.mp (I.stkSub b z)).elim hL hb) hc) (fun b o _ _ hc e n => u.any e n hc) (fun b o hc e n => u.free b o e n hc) (fun b o hc e => u.there b o e hc) u.tups u.frzs u.tbls (fun m' hm => by
  obtain ⟨o', es', ep', ho', r'⟩ := hm
  rw [ho] at ho'; cases ho'
  exact ⟨_, es', ep', hL, r'⟩) hok hg
theorem Inv.turned {t' : Nat} {it : Addr} (I : Inv X pins σ H s) (k : ∀ b o, b ≠ it -> s.heap.get? b = some o -> h'.get? b = some o) (hn : H it = none) (hL : it ≠ X.env.locals)
  (h1 : it ∈ X.ex \/ X.s₀.heap.objs.size <= it) (h2 : ∀ x c, X.env.cells.lookup x = some c -> c ≠ it) (h3 : ∀ p ∈ X.pn ++ pins, p.1 ≠ it) : Inv X pins σ H { s with heap := h', toks := t' } := by
 have nit : ∀ b u, H b = some u -> b ≠ it := fun b u e z => by rw [z, hn] at e; cases e
 refine I.step (g' := s.gens) (d' := s.drawn) (ch := [it]) (fun b hb => ?_) (fun b o _ _ hc e _ => k b o (fun z => hc (by simp [z])) e) (fun b o _ _ hc e _ => ⟨o.slots, k b o (fun z => hc (by simp [z])) e⟩) (fun _ _ _ _ n => n)
  (fun b o hc e => ⟨o, k b o (fun z => hc (by simp [z])) e⟩) (fun _ _ e => e) (fun _ _ _ e => e) (fun b ps e => ⟨#[], by rw [e]; simp⟩) (fun m hm => ?_) (fun b u e => ?_) I.bare
 ·have e : b = it := by simpa using hb
  subst e
  exact ⟨h1, hL, h2, h3⟩
 ·obtain ⟨o, es, ep, ho, r⟩ := hm
  exact ⟨o, es, ep, k _ o (zq18x hL) ho, r⟩
 ·refine (I.hok b u e).stay (fun c v hc q => k c v ?_ q) (fun _ q => q) fun _ _ q => q
  rcases hc with z | z
  ·rw [z]; exact nit b u e
  ·exact nit c _ z
theorem Inv.tok (I : Inv X pins σ H s) (t : Nat) : Inv X pins σ H { s with toks := t } := I.un (h' := s.heap) (t' := t) Un.refl I.hok
theorem Inv.kept {t' : Nat} (I : Inv X pins σ H s) (k : ∀ b u, s.heap.get? b = some u -> h'.get? b = some u) : Inv X pins σ H { s with heap := h', toks := t' } := I.un (Un.kept k) (I.hok.kept k)
theorem Inv.laid {a : Addr} {o : HO} {t' : Nat} (I : Inv X pins σ H s) (k : ∀ b u, s.heap.get? b = some u -> h'.get? b = some u) (hp : s.heap.objs.size <= a) (new : ObjOk X.prog X.w (upd H a o) h' a o) :
  Inv X pins σ (upd H a o) { s with heap := h', toks := t' } := I.un (Un.laid k hp (I.hok.fresh hp)) (I.hok.laid k hp new)
theorem Inv.write {x e : Addr} {o : HO} {t' : Nat} (I : Inv X pins σ H s) (mu : Mut (H x)) (he : e = x \/ H e = some (.own x)) (k : ∀ b u, b ≠ e -> s.heap.get? b = some u -> h'.get? b = some u) (heo : ∃ u, h'.get? e = some u)
  (new : ObjOk X.prog X.w (upd H x o) h' x o) : Inv X pins σ (upd H x o) { s with heap := h', toks := t' } := I.un (Un.write mu he k heo) (I.hok.write mu he k heo new)
theorem Inv.pins_of {pins' : List (Addr × Obj)} (I : Inv X pins σ H s) (h : ∀ p ∈ pins', s.heap.get? p.1 = some p.2 /\ H p.1 = none /\ p.1 ≠ X.env.locals /\ p.1 ∉ X.fs /\ ∀ v, p.2.data ≠ .cell v) : Inv X pins' σ H s :=
 ⟨I.ok, I.os, I.bare, I.base, I.loc, I.cell, I.free, I.freeC, fun p hp => (zq41x.mp hp).elim (fun z => I.pin p (zq155x _ z)) (h p), I.hok, I.len⟩
theorem nodup_ix {N : List Str} (hN : N.Nodup) {i j : Nat} {x : Str} (a : N[i]? = some x) (b : N[j]? = some x) : i = j := by
 obtain ⟨h1, e1⟩ := zq8x.mp a
 obtain ⟨h2, e2⟩ := zq8x.mp b
 exact (List.getElem_inj hN).mp (e1.trans e2.symm)
theorem store_ok2 {M : Model} {A : Around} {E : Value -> Shared -> Prop} {i : Nat} {x : Str} {v : V} {u : Value} {Q : Unit -> Shared -> Prop} (I : Inv X pins σ H s) (hN : X.N.Nodup) (hi : X.N[i]? = some x) (hx : Loc X.env.scope x) (r : RelV v u)
  (h : ∀ s', Inv X pins (σ.set i (some v)) H s' -> (∃ a, Heap.SameBut a s.heap s'.heap /\ (a = X.env.locals \/ X.env.cells.lookup x = some a)) -> Q () s') (hf : X.fn x = true \/ X.env.scope.names.lookup x = some .local := by first | exact .inl rfl | exact .inr rfl | assumption) : wpAny M A (storeName X.env x u) Q E s := by
 obtain ⟨m, hn, hl⟩ := id I.loc
 have hcls : (X.env.scope.kind == .class || (X.env.scope.kind == .module && X.env.locals != X.env.globals)) = false := by rw [I.ok.kind]; rfl
 have hiσ : i < σ.length := by rw [I.len]; exact (zq8x.mp hi).1
 have cne := I.cne
 have tracked : ∀ {a : Addr} {h' : Heap}, (∃ o, s.heap.get? a = some o /\ H a = none) -> Heap.SameBut a s.heap h' -> HOk X.prog X.w H h' := fun {a h'} ha hs b ob e => by
  obtain ⟨_, _, hfree⟩ := ha
  refine (I.hok b ob e).stay (fun c w' hc q => (hs.2 c ?_).trans q) (fun _ q => q) fun _ _ q => q
  rintro rfl
  rcases hc with rfl | hc
  ·rw [hfree] at e; cases e
  ·rw [hfree] at hc; cases hc
 rcases hx with hk | hk
 ·refine wpAny_storeName_local hk hn (fun h' hn' hs => ?_) hcls
  obtain ⟨oL, _, _, hoL, _⟩ := id hn
  refine h _ ⟨I.ok, I.os, I.bare, ⟨fun b o e n hb hx => ?_, fun b o e n hb hx => ?_, I.base.free, fun b o e hx => ?_, I.base.tups, I.base.frzs, I.base.tbls⟩, ⟨_, hn', fun j y v' e1 e2 e3 => ?_⟩, fun y c e => ?_, I.free, I.freeC, fun p hp => ?_, tracked ⟨oL, hoL, I.free⟩ hs, by simpa using I.len⟩ ⟨_, hs, .inl rfl⟩
  ·exact (hs.2 b (zq22x (zq17x (zq3x e) I.ok.above))).trans (I.base.keep b o e n hb hx)
  ·obtain ⟨sl, e1⟩ := I.base.slot b o e n hb hx
   exact ⟨sl, (hs.2 b (zq22x (zq17x (zq3x e) I.ok.above))).trans e1⟩
  ·obtain ⟨o', e1⟩ := I.base.there b o e hx
   exact ⟨o', (hs.2 b (zq22x (zq17x (zq3x e) I.ok.above))).trans e1⟩
  ·by_cases hj : j = i
   ·subst hj
    rw [hi] at e1; cases e1
    rw [zq12x hiσ] at e2
    cases e2
    exact ⟨u, r, .inl ⟨hk, by simp⟩⟩
   ·rw [zq6x (zq18x hj)] at e2
    obtain ⟨u', r', q⟩ := hl j y v' e1 e2 e3
    refine ⟨u', r', ?_⟩
    rcases q with ⟨k, e⟩ | ⟨k, c, e, z⟩
    ·refine .inl ⟨k, ?_⟩
     have : y ≠ x := fun e => hj (nodup_ix hN e1 (e ▸ hi))
     simp [this, e]
    ·exact .inr ⟨k, c, e, z.sameBut hs (cne y c e)⟩
  ·obtain ⟨w', z⟩ := I.cell y c e
   exact ⟨w', z.sameBut hs (cne y c e)⟩
  ·obtain ⟨e, n, ne, nf, d⟩ := I.pin p hp
   exact ⟨(hs.2 p.1 ne).trans e, n, ne, nf, d⟩
 ·have hfn : X.fn x = true := by
   rcases hf with z | z
   ·exact z
   ·rw [z] at hk; cases hk
  obtain ⟨c, hc⟩ := I.ok.has x (.inl hk)
  obtain ⟨w', z⟩ := I.cell x c hc
  refine wpAny_storeName_cell I.ok.kind hk hc z (fun h' hc' hs => ?_)
  obtain ⟨oc, hoc, hocd⟩ := id z
  refine h { s with heap := h' } ⟨I.ok, I.os, I.bare, ⟨fun b o e n hb hx => ?_, fun b o e n hb hx => ?_, I.base.free, fun b o e hx => ?_, I.base.tups, I.base.frzs, I.base.tbls⟩, ⟨m, hn.sameBut hs (zq18x (cne x c hc)), fun j y v' e1 e2 e3 => ?_⟩, fun y c' e => ?_, I.free, I.freeC, fun p hp => ?_, tracked ⟨oc, hoc, I.freeC x c hc⟩ hs, by simpa using I.len⟩ ⟨c, hs, .inr hc⟩
  ·exact (hs.2 b (zq22x (zq17x (zq3x e) (I.ok.cab x c hfn hc)))).trans (I.base.keep b o e n hb hx)
  ·obtain ⟨sl, e1⟩ := I.base.slot b o e n hb hx
   exact ⟨sl, (hs.2 b (zq22x (zq17x (zq3x e) (I.ok.cab x c hfn hc)))).trans e1⟩
  ·obtain ⟨o', e1⟩ := I.base.there b o e hx
   exact ⟨o', (hs.2 b (zq22x (zq17x (zq3x e) (I.ok.cab x c hfn hc)))).trans e1⟩
  ·by_cases hj : j = i
   ·subst hj
    rw [hi] at e1; cases e1
    rw [zq12x hiσ] at e2
    cases e2
    exact ⟨u, r, .inr ⟨.inl hk, c, hc, hc'⟩⟩
   ·rw [zq6x (zq18x hj)] at e2
    obtain ⟨u', r', q⟩ := hl j y v' e1 e2 e3
    refine ⟨u', r', ?_⟩
    rcases q with q | ⟨k, c', e, z'⟩
    ·exact .inl q
    ·refine .inr ⟨k, c', e, z'.sameBut hs ?_⟩
     rintro rfl
     exact hj (nodup_ix hN e1 (I.ok.inj _ _ _ e hc ▸ hi))
  ·by_cases hcc : c' = c
   ·subst hcc; exact ⟨_, hc'⟩
   ·obtain ⟨w2, z2⟩ := I.cell y c' e
    exact ⟨w2, z2.sameBut hs hcc⟩
  ·obtain ⟨e, n, ne, nf, d⟩ := I.pin p hp
   refine ⟨(hs.2 p.1 ?_).trans e, n, ne, nf, d⟩
   intro q
   rw [q, hoc] at e
   have q' : oc = p.2 := zq39x e
   exact d w' (by rw [<- q']; exact hocd)
theorem store_ok {M : Model} {A : Around} {E : Value -> Shared -> Prop} {i : Nat} {x : Str} {v : V} {u : Value} {Q : Unit -> Shared -> Prop} (I : Inv X pins σ H s) (hN : X.N.Nodup) (hi : X.N[i]? = some x) (hx : Loc X.env.scope x) (r : RelV v u)
  (h : ∀ s', Inv X pins (σ.set i (some v)) H s' -> Q () s') (hf : X.fn x = true \/ X.env.scope.names.lookup x = some .local := by first | exact .inl rfl | exact .inr rfl | assumption) : wpAny M A (storeName X.env x u) Q E s :=
 store_ok2 I hN hi hx r (fun s' I' _ => h s' I') hf
theorem Inv.call' {s' : Shared} {ch : List Addr} (I : Inv X pins σ H s) (ho : s'.os = s.os) (u : Un (frs X.stack) ch H H' s.heap s'.heap) (hok : HOk X.prog X.w H' s'.heap) (hg : AllBare s'.gens)
  (hch : ∀ b ∈ ch, (b ∈ X.ex \/ X.s₀.heap.objs.size <= b) /\ b ≠ X.env.locals /\ (∀ x c, X.env.cells.lookup x = some c -> c ≠ b) /\ ∀ p ∈ X.pn ++ pins, p.1 ≠ b) : Inv X pins σ H' s' := by
 obtain ⟨h', g', d', t', o'⟩ := s'
 have e : o' = s.os := ho
 subst e
 exact I.call (g' := g') (t' := t') (d' := d') u hok hg hch
end
abbrev XK := Value -> Option Addr -> Hp -> Prop
abbrev St := List (Option V)
abbrev VK := V -> Hp -> Prop
abbrev TE := St -> Hp -> VK -> Prop
abbrev TT := St -> Hp -> (Bool -> Hp -> Prop) -> Prop
abbrev TA := St -> Hp -> (List V -> Hp -> Prop) -> Prop
structure Ends where
 nx : St -> Hp -> Prop
 rt : VK
 bk : St -> Hp -> Prop := fun _ _ => False
 ct : St -> Hp -> Prop := fun _ _ => False
abbrev TS := Ends -> St -> Hp -> Prop
def EP (X : Cx) (pins : List (Addr × Obj)) (σ : St) (Q : VK) (u : Value) (s' : Shared) : Prop := ∃ v H', Inv X pins σ H' s' /\ RelV v u /\ Q v H'
def TP (X : Cx) (pins : List (Addr × Obj)) (σ : St) (Q : Bool -> Hp -> Prop) (b : Bool) (s' : Shared) : Prop := ∃ H', Inv X pins σ H' s' /\ Q b H'
def AP (X : Cx) (pins : List (Addr × Obj)) (σ : St) (Q : List V -> Hp -> Prop) (us : List Value) (s' : Shared) : Prop := ∃ vs H', Inv X pins σ H' s' /\ Vals vs us /\ Q vs H'
def SP (X : Cx) (pins : List (Addr × Obj)) (D : Ends) (f : Flow) (s' : Shared) : Prop :=
 match f with
 | .next => ∃ σ' H', Inv X pins σ' H' s' /\ D.nx σ' H'
 | .brk => ∃ σ' H', Inv X pins σ' H' s' /\ D.bk σ' H'
 | .cont => ∃ σ' H', Inv X pins σ' H' s' /\ D.ct σ' H'
 | .ret u => ∃ v σ' H', Inv X pins σ' H' s' /\ RelV v u /\ D.rt v H'
def PE (X : Cx) (e : Expr) (t : TE) : Prop :=
 ∀ (pins : List (Addr × Obj)) (s : Shared) (σ : St) (H : Hp) (Q : VK), Inv X pins σ H s -> t σ H Q -> wpAny (model X.prog X.w) X.A (eval e X.env) (EP X pins σ Q) X.xe s
def PT (X : Cx) (e : Expr) (t : TT) : Prop :=
 ∀ (pins : List (Addr × Obj)) (s : Shared) (σ : St) (H : Hp) (Q : Bool -> Hp -> Prop), Inv X pins σ H s -> t σ H Q -> wpAny (model X.prog X.w) X.A (isTrue e X.env (eval e X.env)) (TP X pins σ Q) X.xe s
def PW (X : Cx) (e : Expr) (t : TT) : Prop :=
 ∀ (whole : Sem Value) (pins : List (Addr × Obj)) (s : Shared) (σ : St) (H : Hp) (Q : Bool -> Hp -> Prop), Inv X pins σ H s -> t σ H Q -> wpAny (model X.prog X.w) X.A (isTrue e X.env whole) (TP X pins σ Q) X.xe s
theorem PW.pt {X : Cx} {e : Expr} {t : TT} (h : PW X e t) : PT X e t := h _
def PA (X : Cx) (es : List Expr) (t : TA) : Prop :=
 ∀ (pos : Pos) (pins : List (Addr × Obj)) (s : Shared) (σ : St) (H : Hp) (Q : List V -> Hp -> Prop), Inv X pins σ H s -> t σ H Q -> wpAny (model X.prog X.w) X.A (spliced (backTo pos (starEach es X.env))) (AP X pins σ Q) X.xe s
def PS (X : Cx) (st : Stmt) (t : TS) : Prop :=
 ∀ (pins : List (Addr × Obj)) (s : Shared) (σ : St) (H : Hp) (D : Ends), Inv X pins σ H s -> t D σ H -> wpAny (model X.prog X.w) X.A (exec st X.env) (SP X pins D) X.xe s
def PSs (X : Cx) (st : List Stmt) (t : TS) : Prop :=
 ∀ (pins : List (Addr × Obj)) (s : Shared) (σ : St) (H : Hp) (D : Ends), Inv X pins σ H s -> t D σ H -> wpAny (model X.prog X.w) X.A (execs st X.env) (SP X pins D) X.xe s
theorem thn {α : Type} {t : Sem α} {Q Q' : α -> Shared -> Prop} {M : Model} {A : Around} {E : Value -> Shared -> Prop} {s : Shared} (h : wpAny M A t Q E s) (hQ : ∀ a s, Q a s -> Q' a s) : wpAny M A t Q' E s := wpAny_mono h hQ fun _ _ x => x
section
variable {X : Cx}
theorem bin {a b : Expr} {ta tb : TE} (ha : PE X a ta) (hb : PE X b tb) {pins : List (Addr × Obj)} {s : Shared} {σ : St} {H : Hp} {R : V -> V -> Hp -> Prop} (I : Inv X pins σ H s) (h : ta σ H fun x H1 => tb σ H1 fun y H2 => R x y H2)
  {α : Type} {Q : α -> Shared -> Prop} {f : Value -> Value -> Sem α}
  (hf : ∀ v u s2 x y H2, Inv X pins σ H2 s2 -> RelV x v -> RelV y u -> R x y H2 -> wpAny (model X.prog X.w) X.A (f v u) Q X.xe s2) :
  wpAny (model X.prog X.w) X.A (eval a X.env) (fun v s₁ => wpAny (model X.prog X.w) X.A (eval b X.env) (fun u s₂ => wpAny (model X.prog X.w) X.A (f v u) Q X.xe s₂) X.xe s₁) X.xe s := by
 refine thn (ha pins s σ H _ I h) fun v s1 ⟨x, H1, I1, r1, q1⟩ => ?_
 refine thn (hb pins s1 σ H1 _ I1 q1) fun u s2 ⟨y, H2, I2, r2, q2⟩ => ?_
 exact hf v u s2 x y H2 I2 r1 r2 q2
def tVar (i : Nat) : TE := fun σ H Q => ∃ v, σ[i]? = some (some v) /\ Q v H
def tC (v : V) : TE := fun _ H Q => Q v H
theorem pe_var {i : Nat} {x : Str} {pos : Pos} (hN : X.N[i]? = some x) (hv : Vis X.env.scope x) (hd : (x == ("__debug__" : Str)) = false := by decide) (hcd : (x == ("__classdict__" : Str)) = false := by decide) : PE X (.Name x pos) (tVar i) := by
 intro pins s σ H Q I h
 obtain ⟨v, e, h⟩ := h
 obtain ⟨m, hn, hl⟩ := I.loc
 obtain ⟨u, r, l⟩ := hl i x v hN e hv
 have fin : EP X pins σ Q u s := ⟨v, H, I, r, h⟩
 rcases l with ⟨hk, hm⟩ | ⟨hk, c, hc, hcell⟩
 ·exact wpAny_Name (wpAny_loadName_local I.ok.kind hk hn hm fin) hd
 ·rcases hk with hk | hk
  ·exact wpAny_Name (wpAny_loadName_cell I.ok.kind hk hc hcell fin) hd
  ·exact wpAny_Name (wpAny_loadName_free I.ok.kind hk hc hcell fin hcd) hd
theorem pe_int {i j pos} : PE X (.Constant (.int i) j pos) (tC (.int i)) := fun _ _ _ H _ I h => wpAny_Constant_int ⟨.int i, H, I.tok _, ⟨_, rfl⟩, h⟩
theorem pe_bl {b j pos} : PE X (.Constant (.bool b) j pos) (tC (.bl b)) := fun _ _ _ H _ I h => Constant_bool ⟨.bl b, H, I, rfl, h⟩
theorem pe_str {x j pos} : PE X (.Constant (.str x) j pos) (tC (.str x)) := fun _ _ _ H _ I h => Calls.Constant_str ⟨.str x, H, I.tok _, ⟨_, rfl⟩, h⟩
def Gl (X : Cx) (x : Str) : Prop := X.env.kindOf x = some .globalImplicit
theorem ld_glob {E : Value -> Shared -> Prop} {pins : List (Addr × Obj)} {s : Shared} {σ : St} {H : Hp} {x : Str} {u : Value} {pos : Pos} {Q : Value -> Shared -> Prop} (I : Inv X pins σ H s) (hg : Gl X x) (hm : X.mg x = some u) (h : Q u s)
  (hd : (x == ("__debug__" : Str)) = false := by decide) : wpAny (model X.prog X.w) X.A (eval (.Name x pos) X.env) Q E s :=
 zq156x I.ok.kind hg (Calls.loadGlobal_global (by rw [I.ok.glob]; exact I.mod.glob.keeps I.bk) hm h) hd
theorem ld_blt {E : Value -> Shared -> Prop} {pins : List (Addr × Obj)} {s : Shared} {σ : St} {H : Hp} {x : Str} {u : Value} {pos : Pos} {Q : Value -> Shared -> Prop} (I : Inv X pins σ H s) (hg : Gl X x) (hm : X.mg x = none) (hv : bootBuiltins x = some u) (h : Q u s)
  (hn : x ≠ "__name__" := by decide) (hd : (x == ("__debug__" : Str)) = false := by decide) : wpAny (model X.prog X.w) X.A (eval (.Name x pos) X.env) Q E s := by
 obtain ⟨mb, h1, h2⟩ := I.mod.blt
 exact zq156x I.ok.kind hg (Calls.loadGlobal_builtin (by rw [I.ok.glob]; exact I.mod.glob.keeps I.bk) hm (by rw [I.ok.blt]; exact h1.keeps I.bk) ((h2 x hn).trans hv) h) hd
theorem pe_glob {x : Str} {v : V} {u : Value} {pos : Pos} (hg : Gl X x) (hm : X.mg x = some u) (r : RelV v u) (hd : (x == ("__debug__" : Str)) = false := by decide) : PE X (.Name x pos) (tC v) :=
 fun _ _ _ H _ I h => ld_glob I hg hm ⟨v, H, I, r, h⟩ hd
theorem pe_bltn {x : Str} {v : V} {u : Value} {pos : Pos} (hg : Gl X x) (hm : X.mg x = none) (hv : bootBuiltins x = some u) (r : RelV v u) (hn : x ≠ "__name__" := by decide) (hd : (x == ("__debug__" : Str)) = false := by decide) : PE X (.Name x pos) (tC v) :=
 fun _ _ _ H _ I h => ld_blt I hg hm hv ⟨v, H, I, r, h⟩ hn hd
variable {a b : Expr} {ta tb : TE} {pos : Pos}
def PC (X : Cx) (op : CmpOp) (a b : Expr) (t : TE) : Prop :=
 ∀ (pins : List (Addr × Obj)) (s : Shared) (σ : St) (H : Hp) (Q : VK), Inv X pins σ H s -> t σ H Q ->
  wpAny (model X.prog X.w) X.A (eval a X.env) (fun v s₁ => wpAny (model X.prog X.w) X.A (eval b X.env) (fun u s₂ => wpAny (model X.prog X.w) X.A (compareOp op v u) (EP X pins σ Q) X.xe s₂) X.xe s₁) X.xe s
variable {tA tB' : TT} {rest : List Expr}
def tAnd (t u : TT) : TT := fun σ H Q => t σ H fun c H1 => if c = true then u σ H1 Q else Q false H1
def tOr (t u : TT) : TT := fun σ H Q => t σ H fun c H1 => if c = true then Q true H1 else u σ H1 Q
def tNot (t : TT) : TT := fun σ H Q => t σ H fun c H1 => Q (!c) H1
theorem pw_and1 (ha : PT X a tA) : PW X (.BoolOp .And [a] pos) tA := by
 intro wh pins s σ H Q I h
 refine isTrue_and (thn (ha pins s σ H Q I h) fun c s1 e => ?_)
 cases c with
 | true => exact isTrue_and_nil e
 | false => exact e
theorem pw_or1 (ha : PT X a tA) : PW X (.BoolOp .Or [a] pos) tA := by
 intro wh pins s σ H Q I h
 refine isTrue_or (thn (ha pins s σ H Q I h) fun c s1 e => ?_)
 cases c with
 | false => exact isTrue_or_nil e
 | true => exact e
theorem pw_and (ha : PT X a tA) (hb : PW X (.BoolOp .And (b :: rest) pos) tB') : PW X (.BoolOp .And (a :: b :: rest) pos) (tAnd tA tB') := by
 intro wh pins s σ H Q I h
 refine isTrue_and (thn (ha pins s σ H _ I h) fun c s1 ⟨H1, I1, q1⟩ => ?_)
 cases c with
 | true => exact hb wh pins s1 σ H1 Q I1 q1
 | false => exact ⟨H1, I1, q1⟩
theorem pw_or (ha : PT X a tA) (hb : PW X (.BoolOp .Or (b :: rest) pos) tB') : PW X (.BoolOp .Or (a :: b :: rest) pos) (tOr tA tB') := by
 intro wh pins s σ H Q I h
 refine isTrue_or (thn (ha pins s σ H _ I h) fun c s1 ⟨H1, I1, q1⟩ => ?_)
 cases c with
 | true => exact ⟨H1, I1, q1⟩
 | false => exact hb wh pins s1 σ H1 Q I1 q1
theorem pt_not (ha : PT X a tA) : PT X (.UnaryOp .Not a pos) (tNot tA) := by
 intro pins s σ H Q I h
 exact isTrue_not (ha pins s σ H (fun c H1 => Q (!c) H1) I h)
def tAndV (ta tb : TE) : TE := fun σ H Q => ta σ H fun x H1 => ∃ c, x = .bl c /\ if c = true then tb σ H1 Q else Q (.bl false) H1
theorem pe_one {op} {t : TE} (h : PE X a t) : PE X (.BoolOp op [a] pos) t := fun pins s σ H Q I hw => BoolOp_one (h pins s σ H Q I hw)
theorem pe_and (ha : PE X a ta) (hb : PE X (.BoolOp .And (b :: rest) pos) tb) : PE X (.BoolOp .And (a :: b :: rest) pos) (tAndV ta tb) := by
 intro pins s σ H Q I h
 refine BoolOp_and (thn (ha pins s σ H _ I h) fun v s1 ⟨x, H1, I1, r1, q1⟩ => ?_)
 obtain ⟨c, rfl, q1⟩ := q1
 cases r1
 refine wpAny_truthy_bool ?_
 cases c with
 | true => exact hb pins s1 σ H1 Q I1 q1
 | false => exact ⟨.bl false, H1, I1, rfl, q1⟩
def tIf (t : TT) (ta tb : TE) : TE := fun σ H Q => t σ H fun c H1 => if c = true then ta σ H1 Q else tb σ H1 Q
theorem pe_ifExp {c : Expr} (hc : PT X c tA) (ha : PE X a ta) (hb : PE X b tb) : PE X (.IfExp c a b pos) (tIf tA ta tb) := by
 intro pins s σ H Q I h
 refine wpAny_IfExp (thn (hc pins s σ H _ I h) fun d s1 ⟨H1, I1, q1⟩ => ?_)
 cases d with
 | true => exact ha pins s1 σ H1 Q I1 q1
 | false => exact hb pins s1 σ H1 Q I1 q1
end
def SqL (K : PySem.W.Frag) (H : Hp) (a : Addr) (xs : List V) : Prop :=
 Rd H a (.lst xs) \/
  ∃ (o : Obj) (its : Array Value) (n : Nat), K.lookup a = some o /\ o.cls = .type "list" /\ o.dict = none /\ o.data = .seq its n /\ its.size <= sizeLine /\ Vals xs its.toList
def SqT (K : PySem.W.Frag) (H : Hp) (a : Addr) (xs : List V) : Prop :=
 Rd H a (.tup xs) \/
  ∃ (o : Obj) (its : Array Value) (n : Nat), K.lookup a = some o /\ o.cls = .type "tuple" /\ o.data = .seq its n /\ its.size <= sizeLine /\ Vals xs its.toList
def absV : Value -> Option V
 | .none => some .non
 | .bool b => some (.bl b)
 | .int i _ => some (.int i)
 | .str x _ => some (.str x)
 | .bytes b _ => some (.byt b)
 | .float b _ => some (.flt b)
 | .ref a => some (.ref a)
 | .type n => some (.ty n)
 | _ => none
theorem RelV.abs {x : V} {u : Value} (r : RelV x u) : absV u = some x := by
 cases x with
 | non => cases r; rfl
 | bl _ => cases r; rfl
 | int _ => obtain ⟨t, rfl⟩ := r; rfl
 | str _ => obtain ⟨t, rfl⟩ := r; rfl
 | byt _ => obtain ⟨t, rfl⟩ := r; rfl
 | flt _ => obtain ⟨t, rfl⟩ := r; rfl
 | ref _ => cases r; rfl
 | ty _ => cases r; rfl
theorem RelV.inj {x y : V} {u : Value} (r : RelV x u) (q : RelV y u) : x = y := zq39x (r.abs.symm.trans q.abs)
theorem Vals.inj {xs ys : List V} {us : List Value} (h : Vals xs us) (k : Vals ys us) : xs = ys := by
 induction h generalizing ys with
 | nil => cases k; rfl
 | cons r t ih => cases k with | cons r' t' => rw [r.inj r', ih t']
section
variable {X : Cx} {pins : List (Addr × Obj)} {σ : St} {H : Hp} {s : Shared} {a : Addr} {xs ys : List V}
theorem SqL.of {K : PySem.W.Frag} (h : H a = some (.lst xs)) : SqL K H a xs := .inl (.inl h)
theorem SqT.of {K : PySem.W.Frag} (h : H a = some (.tup xs)) : SqT K H a xs := .inl (.inl h)
theorem Inv.list (I : Inv X pins σ H s) (h : SqL X.K H a xs) : ∃ its : List Value, Vals xs its /\ PlainL s.heap a its.toArray /\ xs.length <= sizeLine := by
 rcases h with h | ⟨o, its, n, hk, hc, hd, hs, hz, r⟩
 ·obtain ⟨z, its, n, r, e⟩ := h.ok I.hok
  exact ⟨its, r, ⟨_, n, e, rfl, rfl, rfl⟩, z⟩
 ·refine ⟨its.toList, r, ⟨o, n, I.kIn a o hk, hc, hd, by simpa using hs⟩, ?_⟩
  have e := r.length
  simp only [zq34x] at e
  omega
theorem Inv.tuple (I : Inv X pins σ H s) (h : SqT X.K H a xs) : ∃ its : List Value, Vals xs its /\ IsTup s.heap a its.toArray /\ xs.length <= sizeLine := by
 rcases h with h | ⟨o, its, n, hk, hc, hs, hz, r⟩
 ·obtain ⟨z, its, r, p⟩ := h.ok I.hok
  exact ⟨its, r, p, z⟩
 ·refine ⟨its.toList, r, ⟨o, I.kIn a o hk, hc, n, by simpa using hs⟩, ?_⟩
  have e := r.length
  simp only [zq34x] at e
  omega
theorem Inv.list_inj (I : Inv X pins σ H s) (h : SqL X.K H a xs) (h' : SqL X.K H a ys) : xs = ys := by
 obtain ⟨its, r, ⟨o, n, e, _, _, d⟩, _⟩ := I.list h
 obtain ⟨its', r', ⟨o', n', e', _, _, d'⟩, _⟩ := I.list h'
 rw [e] at e'; cases e'
 rw [d] at d'
 injection d' with d1 _
 have : its = its' := by simpa using congrArg Array.toList d1
 subst this
 exact r.inj r'
end
abbrev Cx.wish (X : Cx) (E : Value -> Shared -> Prop) : Cx := { X with xe := E }
abbrev Cx.nox (X : Cx) : Cx := X.wish fun _ _ => False
theorem Cx.Ok.wish {X : Cx} (ok : X.Ok) (E : Value -> Shared -> Prop) : (X.wish E).Ok :=
 ⟨ok.mod, ok.kind, ok.glob, ok.blt, ok.above, ok.inj, ok.has, ok.cab, ok.hd, ok.frames, ok.stk, ok.exf, ok.bs, ok.bsz, ok.noex, ok.exfs, ok.funs, ok.frf⟩
theorem Cx.Ok.unwish {X : Cx} {E : Value -> Shared -> Prop} (ok : (X.wish E).Ok) : X.Ok :=
 ⟨ok.mod, ok.kind, ok.glob, ok.blt, ok.above, ok.inj, ok.has, ok.cab, ok.hd, ok.frames, ok.stk, ok.exf, ok.bs, ok.bsz, ok.noex, ok.exfs, ok.funs, ok.frf⟩
section
variable {X : Cx} {pins : List (Addr × Obj)} {σ : St} {H : Hp} {s : Shared} {E : Value -> Shared -> Prop}
theorem Inv.wish (I : Inv X pins σ H s) (E : Value -> Shared -> Prop) : Inv (X.wish E) pins σ H s := ⟨I.ok.wish E, I.os, I.bare, I.base, I.loc, I.cell, I.free, I.freeC, I.pin, I.hok, I.len⟩
theorem Inv.unwish (I : Inv (X.wish E) pins σ H s) : Inv X pins σ H s := ⟨I.ok.unwish, I.os, I.bare, I.base, I.loc, I.cell, I.free, I.freeC, I.pin, I.hok, I.len⟩
theorem SP.unwish {D : Ends} {f : Flow} {s' : Shared} (h : SP (X.wish E) pins D f s') : SP X pins D f s' := by
 cases f with
 | next => obtain ⟨σ', H', I, q⟩ := h; exact ⟨σ', H', I.unwish, q⟩
 | brk => obtain ⟨σ', H', I, q⟩ := h; exact ⟨σ', H', I.unwish, q⟩
 | cont => obtain ⟨σ', H', I, q⟩ := h; exact ⟨σ', H', I.unwish, q⟩
 | ret u => obtain ⟨v, σ', H', I, r, q⟩ := h; exact ⟨v, σ', H', I.unwish, r, q⟩
theorem PSs.nox {st : List Stmt} {t : TS} (h : PSs X.nox st t) : PSs X st t := fun pins s σ H D I hw =>
 wpAny_mono (h pins s σ H D (I.wish _) hw) (fun _ _ q => q.unwish) fun _ _ z => False.elim z
end
section
variable {X : Cx} {st : Stmt} {rest : List Stmt} {t u : TS} {e : Expr} {te : TE} {pos : Pos}
def tNext : TS := fun D σ H => D.nx σ H
def tSeq (t u : TS) : TS := fun D σ H => t { D with nx := u D } σ H
theorem pss_nil : PSs X [] tNext := fun _ _ σ H _ I h => wpAny_execs_nil ⟨σ, H, I, h⟩
theorem pss_cons (h1 : PS X st t) (h2 : PSs X rest u) : PSs X (st :: rest) (tSeq t u) := by
  intro pins s σ H D I h
  refine wpAny_execs_cons (thn (h1 pins s σ H { D with nx := u D } I h) fun f s1 q => ?_)
  cases f with
  | next =>
    obtain ⟨σ', H', I', q⟩ := q
    exact h2 pins s1 σ' H' D I' q
  | ret v => exact q
  | brk => exact q
  | cont => exact q
theorem pss_one (h1 : PS X st t) : PSs X [st] t := by
 intro pins s σ H D I h
 refine wpAny_execs_cons (thn (h1 pins s σ H D I h) fun f s1 q => ?_)
 cases f with
 | next => exact wpAny_execs_nil q
 | ret v => exact q
 | brk => exact q
 | cont => exact q
def tBreak : TS := fun D σ H => D.bk σ H
def tCont : TS := fun D σ H => D.ct σ H
theorem Inv.quiet {pins : List (Addr × Obj)} {σ : St} {H : Hp} {s : Shared} (I : Inv X pins σ H s) : interactive X.env = false := by simp [interactive, I.ok.kind]
def tDrop (te : TE) : TS := fun D σ H => te σ H fun _ H1 => D.nx σ H1
theorem ps_expr (he : PE X e te) (hs : swapsWith e none pos.line X.env = pure false := by rfl) : PS X (.Expr e pos) (tDrop te) := by
 intro pins s σ H D I h
 exact wpAny_Expr_any (thn (he pins s σ H _ I h) fun v s1 ⟨x, H1, I1, r1, q1⟩ => ⟨σ, H1, I1, q1⟩) I.quiet hs
def tRet (te : TE) : TS := fun D σ H => te σ H D.rt
theorem ps_ret (he : PE X e te) : PS X (.Return (some e) pos) (tRet te) := by
 intro pins s σ H D I h
 exact wpAny_Return_some (thn (he pins s σ H _ I h) fun v s1 ⟨x, H1, I1, r1, q1⟩ => ⟨x, σ, H1, I1, r1, q1⟩)
def tIfS (c : TT) (t u : TS) : TS := fun D σ H => c σ H fun b H1 => if b = true then t D σ H1 else u D σ H1
theorem ps_if {c : Expr} {a b : List Stmt} {tc : TT} (hc : PT X c tc) (ha : PSs X a t) (hb : PSs X b u) : PS X (.If c a b pos) (tIfS tc t u) := by
 intro pins s σ H D I h
 refine wpAny_If (thn (hc pins s σ H _ I h) fun d s1 ⟨H1, I1, q1⟩ => ?_)
 cases d with
 | true => exact ha pins s1 σ H1 D I1 q1
 | false => exact hb pins s1 σ H1 D I1 q1
end
abbrev TG := V -> St -> Hp -> (St -> Hp -> Prop) -> Prop
abbrev TGs := List V -> St -> Hp -> (St -> Hp -> Prop) -> Prop
def PG (X : Cx) (target : Expr) (t : TG) : Prop :=
 ∀ (pins : List (Addr × Obj)) (s : Shared) (σ : St) (H : Hp) (v : V) (u : Value) (Q : St -> Hp -> Prop), Inv X pins σ H s -> RelV v u -> t v σ H Q ->
  wpAny (model X.prog X.w) X.A (assign target X.env u) (fun _ s' => ∃ σ' H', Inv X pins σ' H' s' /\ Q σ' H') X.xe s
def PGs (X : Cx) (ts : List Expr) (t : TGs) : Prop :=
 ∀ (pins : List (Addr × Obj)) (s : Shared) (σ : St) (H : Hp) (vs : List V) (us : List Value) (Q : St -> Hp -> Prop), Inv X pins σ H s -> Vals vs us -> t vs σ H Q ->
  wpAny (model X.prog X.w) X.A (assignInOrder ((assignEach ts X.env).map (·.2)) us) (fun _ s' => ∃ σ' H', Inv X pins σ' H' s' /\ Q σ' H') X.xe s
abbrev TSet := V -> V -> V -> Hp -> (Hp -> Prop) -> Prop
def PSet (X : Cx) (t : TSet) : Prop :=
 ∀ (pins : List (Addr × Obj)) (s : Shared) (σ : St) (H : Hp) (o i v : V) (ov iv u : Value) (Q : Hp -> Prop), Inv X pins σ H s -> RelV o ov -> RelV i iv -> RelV v u -> t o i v H Q ->
  wpAny (model X.prog X.w) X.A (setItem ov iv u) (fun _ s' => ∃ H', Inv X pins σ H' s' /\ Q H') X.xe s
section
variable {X : Cx} {pos : Pos}
def gName (i : Nat) : TG := fun v σ H Q => Q (σ.set i (some v)) H
theorem pg_name {i : Nat} {x : Str} (hN : X.N.Nodup) (hi : X.N[i]? = some x) (hx : Loc X.env.scope x) (hf : X.fn x = true \/ X.env.scope.names.lookup x = some .local := by first | exact .inl rfl | exact .inr rfl | assumption) : PG X (.Name x pos) (gName i) := by
 intro pins s σ H v u Q I r h
 exact wpAny_assign_Name (store_ok I hN hi hx r (fun s' I' => ⟨_, H, I', h⟩) hf)
def gNil : TGs := fun vs σ H Q => vs = [] /\ Q σ H
def gCons (t : TG) (u : TGs) : TGs := fun vs σ H Q => ∃ v r, vs = v :: r /\ t v σ H fun σ' H' => u r σ' H' Q
theorem pgs_nil : PGs X [] gNil := by
 intro pins s σ H vs us Q I r h
 obtain ⟨e, h⟩ := h
 subst e
 cases r
 exact assignInOrder_nil ⟨σ, H, I, h⟩
theorem pgs_cons {e : Expr} {es : List Expr} {t : TG} {u : TGs} (h1 : PG X e t) (h2 : PGs X es u)
    (hs : (assignEach (e :: es) X.env).map (·.2) = assign e X.env :: (assignEach es X.env).map (·.2) := by rfl) : PGs X (e :: es) (gCons t u) := by
  intro pins s σ H vs us Q I r h
  obtain ⟨v, vr, e1, h⟩ := h
  subst e1
  cases r with
  | cons r rr =>
    rw [hs]
    refine assignInOrder_cons (thn (h1 pins s σ H _ _ _ I r h) fun _ s1 ⟨σ1, H1, I1, q1⟩ => ?_)
    exact h2 pins s1 σ1 H1 _ _ Q I1 rr q1
def gTup (K : PySem.W.Frag) (n : Nat) (t : TGs) : TG := fun v σ H Q => ∃ a xs, v = .ref a /\ SqT K H a xs /\ xs.length = n /\ t xs σ H Q
theorem pg_tup {es : List Expr} {k : Nat} {t : TGs} {n : Nat} (hc : X.calm = true) (h : PGs X es t)
  (hn : (assignEach es X.env).length = n := by rfl) (hst : (assignEach es X.env).findIdx? (·.1) = none := by rfl) : PG X (.Tuple es k pos) (gTup X.K n t) := by
 intro pins s σ H v u Q I r hw
 obtain ⟨a, xs, e1, hq, hl, hw⟩ := hw
 subst e1
 cases r
 obtain ⟨its, rv, ht, hz⟩ := I.tuple hq
 refine assign_Tuple_tuple (I.ok.hd hc) ht (by simp [hn, <- hl, rv.length]) hst fun h' hx => ?_
 have I1 : Inv X pins σ H { s with heap := h' } := I.kept (t' := s.toks) fun b o e => hx b o (zq22x (zq3x e)) e
 exact h pins _ σ H xs _ Q I1 (by simpa using rv) hw
def gSub (to ti : TE) (t : TSet) : TG := fun v σ H Q => to σ H fun o H1 => ti σ H1 fun i H2 => t o i v H2 fun H3 => Q σ H3
theorem pg_sub {o i : Expr} {to ti : TE} {t : TSet} (ho : PE X o to) (hi : PE X i ti) (hs : PSet X t)
  (ha : ∀ v, assign (.Subscript o i pos) X.env v = (do
   let ov <- holding [v] (eval o X.env)
   let iv <- holding [v, ov] (eval i X.env)
   standAt pos
   holding [v, ov, iv] (setItem ov iv v)
   release [v, ov, iv] []) := by intro _; rfl) : PG X (.Subscript o i pos) (gSub to ti t) := by
 intro pins s σ H v u Q I r h
 rw [ha]
 refine wpAny_bind (wpAny_holding (thn (ho pins s σ H _ I h) fun ov s1 ⟨x, H1, I1, r1, q1⟩ => ?_))
 refine wpAny_bind (wpAny_holding (thn (hi pins s1 σ H1 _ I1 q1) fun iv s2 ⟨y, H2, I2, r2, q2⟩ => ?_))
 refine wpAny_bind (wpAny_standAt (wpAny_bind (wpAny_holding (thn (hs pins s2 σ H2 x y v ov iv u _ I2 r1 r2 r q2) fun _ s3 ⟨H3, I3, q3⟩ => ?_))))
 exact wpAny_release ⟨σ, H3, I3, q3⟩
def tAsg (te : TE) (g : TG) : TS := fun D σ H => te σ H fun x H1 => g x σ H1 D.nx
theorem ps_asg {tg e : Expr} {te : TE} {g : TG} (he : PE X e te) (hg : PG X tg g) (hs : swapsWithSole [tg] e pos.line X.env = pure false := by rfl) (hw : swappedStores [tg] e X.env = pure none := by rfl)
  (h1 : (assignEach [tg] X.env).map (·.2) = [assign tg X.env] := by rfl) : PS X (.Assign [tg] e pos) (tAsg te g) := by
 intro pins s σ H D I h
 refine wpAny_Assign_stores (thn (he pins s σ H _ I h) fun v s1 ⟨x, H1, I1, r1, q1⟩ => ?_) hs hw
 rw [h1]
 exact thn (hg pins s1 σ H1 x v _ I1 r1 q1) fun _ s2 q => q
theorem ps_set {i : Nat} {x : Str} {e : Expr} {te : TE} {pos' : Pos} (hN : X.N.Nodup) (hi : X.N[i]? = some x) (hx : Loc X.env.scope x) (he : PE X e te) (hs : swapsWith e (some (.Name x pos')) pos.line X.env = pure false := by rfl) (hf : X.fn x = true \/ X.env.scope.names.lookup x = some .local := by first | exact .inl rfl | exact .inr rfl | assumption) :
  PS X (.Assign [.Name x pos'] e pos) (tAsg te (gName i)) := by
 intro pins s σ H D I h
 refine wpAny_Assign_Name (thn (he pins s σ H _ I h) fun v s1 ⟨y, H1, I1, r1, q1⟩ => ?_) hs
 exact store_ok I1 hN hi hx r1 (fun s2 I2 => ⟨_, H1, I2, q1⟩) hf
end
structure It where
 go : Nat -> Hp -> Prop
 yld : Nat -> Hp -> V -> Hp -> Prop
 stop : Nat -> Hp -> Prop
def FpOk (X : Cx) (pins : List (Addr × Obj)) (H : Hp) (b : Addr) : Prop :=
 H b = none /\ b ≠ X.env.locals /\ b ∉ X.fs /\ (b ∈ X.ex \/ X.s₀.heap.objs.size <= b) /\ (∀ x c, X.env.cells.lookup x = some c -> c ≠ b) /\ ∀ p ∈ X.pn ++ pins, p.1 ≠ b
theorem Inv.fpOk {X : Cx} {pins : List (Addr × Obj)} {σ : St} {H H' : Hp} {s : Shared} {b : Addr} (I : Inv X pins σ H s) (hb : s.heap.objs.size <= b) (hn : H' b = none) : FpOk X pins H' b := by
 refine ⟨hn, zq104x (zq17x I.lt hb), I.nofs hb, .inr (zq25x I.sz hb), fun x c e z => ?_, fun p hp z => ?_⟩
 ·obtain ⟨v, q⟩ := I.cell x c e
  exact absurd (zq17x q.lt (by rw [z]; exact hb)) (zq40x _)
 ·exact absurd (zq17x (zq3x (I.pin p hp).1) (by rw [z]; exact hb)) (zq40x _)
structure Turn (P : Program) (w : World) (K : PySem.W.Frag) (tg : Expr) (J : It) (fp : List Addr) (it : Addr) (tn : Nat -> Heap -> Prop) : Prop where
 mem : it ∈ fp
 obj : ∀ i h, tn i h -> ∀ b ∈ fp, ∃ o, h.get? b = some o /\ ∀ v, o.data ≠ .cell v
 keep : ∀ i h h', tn i h -> (∀ b ∈ fp, ∀ o, h.get? b = some o -> h'.get? b = some o) -> tn i h'
 item : ∀ (X : Cx), X.prog = P -> X.w = w -> X.K = K -> X.calm = true -> ∀ (i : Nat) (pins : List (Addr × Obj)) (s : Shared) (σ : St) (H : Hp) (E : Value -> Shared -> Prop), Inv X pins σ H s -> (∀ b ∈ fp, FpOk X pins H b) -> tn i s.heap -> J.go i H ->
  wpAny (model P w) X.A (pyNext (.ref it)) (fun r s1 => ∃ u, r = some u /\
   wpAny (model P w) X.A (letOwnedTupleGo tg (.ref it) u) (fun _ s2 => ∃ x H', Inv X pins σ H' s2 /\ RelV x u /\ J.yld i H x H' /\ tn (i + 1) s2.heap /\ ∀ b ∈ fp, H' b = none) E s1) E s
 done : ∀ (X : Cx), X.prog = P -> X.w = w -> X.K = K -> X.calm = true -> ∀ (i : Nat) (pins : List (Addr × Obj)) (s : Shared) (σ : St) (H : Hp) (E : Value -> Shared -> Prop), Inv X pins σ H s -> (∀ b ∈ fp, FpOk X pins H b) -> tn i s.heap -> J.stop i H ->
  wpAny (model P w) X.A (pyNext (.ref it)) (fun r s1 => r = none /\ Inv X pins σ H s1) E s
 self : ∀ (A : Around) (i : Nat) (s : Shared) (Q : Value -> Shared -> Prop) (E : Value -> Shared -> Prop), tn i s.heap -> Q (.ref it) s -> wpAny (model P w) A (pyIter (.ref it)) Q E s
abbrev TI := St -> Hp -> (It -> Hp -> Prop) -> Prop
def PIE (X : Cx) (pins : List (Addr × Obj)) (σ : St) (tg : Expr) (R : It -> Hp -> Prop) (itv : Value) (s2 : Shared) : Prop :=
 ∃ (it : Addr) (fp : List Addr) (tn : Nat -> Heap -> Prop) (J : It) (H' : Hp), itv = .ref it /\ Inv X pins σ H' s2 /\ Turn X.prog X.w X.K tg J fp it tn /\ tn 0 s2.heap /\ (∀ b ∈ fp, FpOk X pins H' b) /\ R J H'
def PI (X : Cx) (tg iter : Expr) (wi : TI) : Prop :=
 ∀ (pins : List (Addr × Obj)) (s : Shared) (σ : St) (H : Hp) (R : It -> Hp -> Prop), Inv X pins σ H s -> wi σ H R ->
  wpAny (model X.prog X.w) X.A (eval iter X.env) (fun v s1 => wpAny (model X.prog X.w) X.A (pyIter v) (PIE X pins σ tg R) X.xe s1) X.xe s
theorem go_of {M : Model} {A : Around} {E : Value -> Shared -> Prop} {s : Shared} {tg : Expr} {it : Addr} {u : Value} {o : Obj} {n : String} {vs : Array Value} {Q : Unit -> Shared -> Prop} (ho : s.heap.get? it = some o) (hc : o.cls = .type n) (hd : o.data = .fields vs)
    (hn : ["enumerate", "zip", "dict_itemiterator", "dict_reverseitemiterator", "odict_iterator", "itertools.zip_longest", "itertools.pairwise"].contains n = false) (hQ : Q () s) : wpAny M A (letOwnedTupleGo tg (.ref it) u) Q E s := by
  unfold letOwnedTupleGo
  cases tg <;> first
    | exact wpAny_pure hQ
    | (cases u <;> first
        | exact wpAny_pure hQ
        | (refine wpAny_bind (wpAny_load ho ?_)
           rw [hc, hd]
           show wpAny M A (if (["enumerate", "zip", "dict_itemiterator", "dict_reverseitemiterator", "odict_iterator", "itertools.zip_longest", "itertools.pairwise"].contains n && vs[0]? == some (rawInt _)) = true then _ else _) Q E s
           rw [if_neg (by intro h; rw [hn, Bool.false_and] at h; cases h)]
           exact wpAny_pure hQ))
def Itl (K : PySem.W.Frag) (a : Addr) : It :=
 ⟨fun i H => ∃ xs x, SqL K H a xs /\ xs[i]? = some x, fun i H x H' => H' = H /\ ∀ xs, SqL K H a xs -> xs[i]? = some x, fun i H => ∃ xs, SqL K H a xs /\ xs.length <= i⟩
def Itr (lo : Int) (n : Nat) : It := ⟨fun i _ => i < n, fun i H x H' => H' = H /\ x = .int (lo + i), fun i _ => n <= i⟩
theorem turn_list {P : Program} {w : World} {K : PySem.W.Frag} {tg : Expr} (a it : Addr) : Turn P w K tg (Itl K a) [it] it (fun i h => h.IsListIter it a i) where
 mem := by simp
 obj := fun i h st b hb => by
  have e : b = it := by simpa using hb
  subst e
  obtain ⟨o, e, c, d⟩ := st
  exact ⟨o, e, fun v z => by rw [d] at z; cases z⟩
 keep := fun i h h' st k => st.at fun o e => k it (by simp) o e
 item := by
  intro X hP hw hK hc i pins s σ H E I hf st hg
  subst hP hw hK
  obtain ⟨xs, x, hq, hx⟩ := hg
  obtain ⟨its, rv, p, hz⟩ := I.list hq
  obtain ⟨u, hu, ru⟩ := rv.get hx
  obtain ⟨f0, f1, f2, f3, f4, f5⟩ := hf it (by simp)
  refine wpAny_pyNext_list_item st p.isList (x := u) (by simpa using hu) fun h' st' sb => ?_
  have I1 : Inv X pins σ H { s with heap := h' } := I.turned (t' := s.toks) (fun b o hb e => (sb.2 b hb).trans e) f0 f1 f3 f4 f5
  obtain ⟨o, e, c, d⟩ := id st'
  exact ⟨u, rfl, go_of (s := { s with heap := h' }) e c d (by decide) ⟨x, H, I1, ru, ⟨rfl, fun ys hy => by rw [I.list_inj hy hq]; exact hx⟩, st', fun b hb => (hf b hb).1⟩⟩
 done := by
  intro X hP hw hK hc i pins s σ H E I hf st hg
  subst hP hw hK
  obtain ⟨xs, hq, hx⟩ := hg
  obtain ⟨its, rv, p, hz⟩ := I.list hq
  obtain ⟨f0, f1, f2, f3, f4, f5⟩ := hf it (by simp)
  have hl := rv.length
  exact wpAny_pyNext_list_end (I.ok.hd hc) st p.isList (by simp; omega) fun h' eb => ⟨rfl, I.turned (t' := s.toks) (fun b o hb e => eb b o hb e) f0 f1 f3 f4 f5⟩
 self := fun _ _ _ _ _ st h => wpAny_pyIter_listiter st h
theorem turn_range {P : Program} {w : World} {K : PySem.W.Frag} {tg : Expr} (it : Addr) (lo : Int) (n : Nat) : Turn P w K tg (Itr lo n) [it] it (fun i h => IsRangeIter h it (lo + (i : Nat) * 1) ((n : Int) - (i : Nat)) 1) where
 mem := by simp
 obj := fun i h st b hb => by
  have e : b = it := by simpa using hb
  subst e
  exact ⟨_, st, fun v z => by
   have z' : Data.fields _ = Data.cell v := z
   cases z'⟩
 keep := fun i h h' st k => k it (by simp) _ st
 item := by
  intro X hP hw hK hc i pins s σ H E I hf st hg
  subst hP hw hK
  obtain ⟨f0, f1, f2, f3, f4, f5⟩ := hf it (by simp)
  have W := Walks.range (prog := X.prog) (w := X.w) (I.ok.hd hc) it lo 1 n
  refine W.item i s _ _ hg st fun v h' tk hv st' kk => ?_
  obtain ⟨t, rfl⟩ := hv
  have I1 : Inv X pins σ H { s with heap := h', toks := tk } := I.turned (fun b o hb e => kk b o (by simpa using hb) e) f0 f1 f3 f4 f5
  refine ⟨_, rfl, go_of (s := { s with heap := h', toks := tk }) (n := "range_iterator") st' rfl rfl (by decide) ⟨.int (lo + i), H, I1, ⟨t, ?_⟩, ⟨rfl, rfl⟩, st', fun b hb => (hf b hb).1⟩⟩
  rw [Int.mul_one]
 done := by
  intro X hP hw hK hc i pins s σ H E I hf st hg
  subst hP hw hK
  obtain ⟨f0, f1, f2, f3, f4, f5⟩ := hf it (by simp)
  exact wpAny_pyNext_range_end (I.ok.hd hc) st (by have : n <= i := hg; omega) fun h' eb => ⟨rfl, I.turned (t' := s.toks) (fun b o hb e => eb b o hb e) f0 f1 f3 f4 f5⟩
 self := fun _ _ _ _ _ st h => wpAny_pyIter_rangeiter st h
section
variable {X : Cx} {tg : Expr}
def iList (K : PySem.W.Frag) (tl : TE) : TI := fun σ H R => tl σ H fun x H1 => ∃ a, x = .ref a /\ (∃ xs, SqL K H1 a xs) /\ R (Itl K a) H1
theorem pi_list {l : Expr} {tl : TE} (hl : PE X l tl) : PI X tg l (iList X.K tl) := by
 intro pins s σ H R I h
 refine thn (hl pins s σ H _ I h) fun v s1 ⟨x, H1, I1, r1, q1⟩ => ?_
 obtain ⟨a, e, ⟨xs, hq⟩, q⟩ := q1
 subst e
 cases r1
 obtain ⟨its, rv, p, hz⟩ := I1.list hq
 refine wpAny_pyIter_list p.isList ?_
 refine ⟨s1.heap.objs.size, [s1.heap.objs.size], _, _, H1, rfl, I1.kept (t' := s1.toks) fun b o e => zq9x _ e, turn_list a _, ⟨_, zq29x _ rfl, rfl, rfl⟩, fun b hb => ?_, q⟩
 have e : b = s1.heap.objs.size := by simpa using hb
 subst e
 exact I1.fpOk (zq1x _) (I1.hok.fresh (zq1x _))
theorem range_it {pins : List (Addr × Obj)} {σ : St} {H : Hp} {s : Shared} {R : It -> Hp -> Prop} {E : Value -> Shared -> Prop} {lo hi : Int} {t u v : Tok} {tk : Nat} (I : Inv X pins σ H s) (h1 : -(2 ^ 62) <= lo) (h2 : lo < 2 ^ 62) (h3 : -(2 ^ 62) <= hi) (h4 : hi < 2 ^ 62)
  (q : R (Itr lo (hi - lo).toNat) H) : wpAny (model X.prog X.w) X.A (pyIter (.ref s.heap.objs.size)) (PIE X pins σ tg R) E { s with heap := s.heap.push { cls := .type "range", data := .fields #[.int lo t, .int hi u, .int 1 v] }, toks := tk } := by
 refine wpAny_pyIter_range (IsRange.new ..) (small_one h1 h2 h3 h4) ?_
 have I1 : Inv X pins σ H { s with heap := s.heap.push { cls := .type "range", data := .fields #[.int lo t, .int hi u, .int 1 v] }, toks := tk } := I.kept fun b o e => zq9x _ e
 refine ⟨(s.heap.push { cls := .type "range", data := .fields #[.int lo t, .int hi u, .int 1 v] }).objs.size, [(s.heap.push { cls := .type "range", data := .fields #[.int lo t, .int hi u, .int 1 v] }).objs.size], _, _, H, rfl,
  I1.kept (t' := tk) fun b o e => zq9x _ e, turn_range _ lo (hi - lo).toNat, ?_, fun b hb => ?_, q⟩
 ·have e1 : lo + ((0 : Nat) : Int) * 1 = lo := by simp
  have e2 : (((hi - lo).toNat : Nat) : Int) - ((0 : Nat) : Int) = Builtin.Range.rangeSize lo hi 1 := by rw [rangeSize_one]; split <;> omega
  show IsRangeIter _ _ (lo + ((0 : Nat) : Int) * 1) ((((hi - lo).toNat : Nat) : Int) - ((0 : Nat) : Int)) 1
  rw [e1, e2]
  exact zq29x _ rfl
 ·have e : b = (s.heap.push { cls := .type "range", data := .fields #[.int lo t, .int hi u, .int 1 v] }).objs.size := by simpa using hb
  subst e
  exact I1.fpOk (zq1x _) (I1.hok.fresh (zq1x _))
def iRng1 (ta : TA) : TI := fun σ H R => ta σ H fun vs H1 => ∃ j : Int, vs = [.int j] /\ -(2 ^ 62) <= j /\ j < 2 ^ 62 /\ R (Itr 0 j.toNat) H1
def iRng2 (ta : TA) : TI := fun σ H R => ta σ H fun vs H1 => ∃ i j : Int, vs = [.int i, .int j] /\ (-(2 ^ 62) <= i /\ i < 2 ^ 62 /\ -(2 ^ 62) <= j /\ j < 2 ^ 62) /\ R (Itr i (j - i).toNat) H1
theorem pi_range1 {a : Expr} {ta : TA} {p pos : Pos} (hg : Gl X "range") (hm : X.mg "range" = none) (ha : PA X [a] ta) (hs : starEach [a] X.env = [(false, eval a X.env)] := by rfl) : PI X tg (.Call (.Name "range" p) [a] [] pos) (iRng1 ta) := by
  intro pins s σ H R I h
  refine Call_ (ld_blt I hg hm boot_range (zq120x (thn (ha pos pins s σ H _ I h) fun us s1 ⟨vs, H1, I1, r1, q1⟩ => ?_) hs rfl))
  obtain ⟨j, e, q1, q2, q⟩ := q1
  subst e
  cases r1 with
  | cons r rr =>
    cases rr
    obtain ⟨t, rfl⟩ := r
    exact call_range_1 (range_it I1 (by omega) (by omega) q1 q2 (by simpa using q))
theorem pi_range2 {a b : Expr} {ta : TA} {p pos : Pos} (hg : Gl X "range") (hm : X.mg "range" = none) (ha : PA X [a, b] ta) (hs : starEach [a, b] X.env = [(false, eval a X.env), (false, eval b X.env)] := by rfl) (hs2 : starEach [b] X.env = [(false, eval b X.env)] := by rfl) :
    PI X tg (.Call (.Name "range" p) [a, b] [] pos) (iRng2 ta) := by
  intro pins s σ H R I h
  refine Call_ (ld_blt I hg hm boot_range (zq120x (thn (ha pos pins s σ H _ I h) fun us s1 ⟨vs, H1, I1, r1, q1⟩ => ?_) (by rw [hs, hs2]) (by rw [hs2]; rfl)))
  obtain ⟨i, j, e, ⟨q1, q2, q3, q4⟩, q⟩ := q1
  subst e
  cases r1 with
  | cons r rr =>
    cases rr with
    | cons r' rr =>
      cases rr
      obtain ⟨t, rfl⟩ := r
      obtain ⟨t', rfl⟩ := r'
      exact call_range_2 (range_it I1 q1 q2 q3 q4 q)
def tFor (wi : TI) (g : TG) (tb : TS) : TS := fun D σ H => wi σ H fun J H1 => ∃ W : Nat -> Nat -> St -> Hp -> Prop, (∃ m, W 0 m σ H1) /\ ∀ i m σ H, W i m σ H ->
 (J.stop i H /\ D.nx σ H) \/ (J.go i H /\ ∃ N : St -> Hp -> Prop, (∀ σ' H', N σ' H' -> ∃ m', m' < m /\ W (i + 1) m' σ' H') /\ ∀ x H', J.yld i H x H' -> g x σ H' fun σ2 H2 => tb { D with nx := N, ct := N, bk := D.nx } σ2 H2)
def pinsAt (fp : List Addr) (h : Heap) : List (Addr × Obj) := fp.filterMap fun b => (h.get? b).map fun o => (b, o)
theorem mem_pinsAt {fp : List Addr} {h : Heap} {b : Addr} {o : Obj} (hb : b ∈ fp) (e : h.get? b = some o) : (b, o) ∈ pinsAt fp h := zq121x.mpr ⟨b, hb, by rw [e]; rfl⟩
theorem of_pinsAt {fp : List Addr} {h : Heap} {p : Addr × Obj} (hp : p ∈ pinsAt fp h) : p.1 ∈ fp /\ h.get? p.1 = some p.2 := by
  obtain ⟨b, hb, e⟩ := zq121x.mp hp
  cases q : h.get? b with
  | none => rw [q] at e; cases e
  | some o =>
    rw [q] at e
    have e' : (b, o) = p := zq39x e
    subst e'
    exact ⟨hb, q⟩
theorem Inv.pinned {pins : List (Addr × Obj)} {σ : St} {H : Hp} {s : Shared} {fp : List Addr} (I : Inv X pins σ H s) (hf : ∀ b ∈ fp, FpOk X pins H b) (ho : ∀ b ∈ fp, ∃ o, s.heap.get? b = some o /\ ∀ v, o.data ≠ .cell v) : Inv X (pins ++ pinsAt fp s.heap) σ H s :=
 I.pins_of fun p hp => (zq41x.mp hp).elim (fun z => I.pin p (zq42x _ z)) fun z => by
  obtain ⟨hb, e⟩ := of_pinsAt z
  obtain ⟨f0, f1, f2, _⟩ := hf p.1 hb
  obtain ⟨o, e', d⟩ := ho p.1 hb
  rw [e] at e'; cases e'
  exact ⟨e, f0, f1, f2, d⟩
theorem Inv.unpinned {pins pl : List (Addr × Obj)} {σ : St} {H : Hp} {s : Shared} (I : Inv X (pins ++ pl) σ H s) : Inv X pins σ H s := I.pins_of fun p hp => I.pin p (zq42x _ (zq155x _ hp))
theorem ps_for {iter : Expr} {body : List Stmt} {wi : TI} {g : TG} {tb : TS} {pos : Pos} (hp : PassesOwn (model X.prog X.w) X.A X.env X.xe) (hc : X.calm = true) (hi : PI X tg iter wi) (hg : PG X tg g) (hb : PSs X body tb)
  (hs : ∀ x, foldedSetIterable iter X.env x = pure x := by intro _; rfl) : PS X (.For tg iter body [] pos) (tFor wi g tb) := by
 intro pins s σ H D I h
 refine wpAny_For (thn (hi pins s σ H _ I h) fun v s1 h1 => thn h1 fun itv s2 h2 => ?_) hs
 obtain ⟨it, fp, tn, J, H2, e, I2, T, st2, f2, W, ⟨m0, w0⟩, turn⟩ := h2
 subst e
 have stat : ∀ {H' : Hp}, (∀ b ∈ fp, H' b = none) -> ∀ b ∈ fp, FpOk X pins H' b := fun hn b hb => ⟨hn b hb, (f2 b hb).2⟩
 refine codeAny_forLoop_any (fun n s' => ∃ i σ' H', Inv X pins σ' H' s' /\ tn i s'.heap /\ (∀ b ∈ fp, H' b = none) /\ W i n σ' H') ?_ m0 ⟨0, σ, H2, I2, st2, fun b hb => (f2 b hb).1, w0⟩
 rintro n s3 ⟨i, σ3, H3, I3, st3, fr3, w3⟩
 rcases turn i n σ3 H3 w3 with ⟨stop, qn⟩ | ⟨go, N, hN, step⟩
 ·refine wpAny_passesOwn hp (thn (T.done X rfl rfl rfl hc i pins s3 σ3 H3 X.xe I3 (stat fr3) st3 stop) fun r s4 ⟨hr, I4⟩ => ?_)
  subst hr
  exact wpAny_execs_nil ⟨σ3, H3, I4, qn⟩
 ·refine wpAny_passesOwn hp (thn (T.item X rfl rfl rfl hc i pins s3 σ3 H3 X.xe I3 (stat fr3) st3 go) fun r s4 ⟨u, hr, h4⟩ => ?_)
  subst hr
  refine wpAny_passesOwn hp (thn h4 fun _ s5 ⟨x, H5, I5, r5, y5, st5, fr5⟩ => ?_)
  have I5' := I5.pinned (stat fr5) (T.obj _ _ st5)
  refine wpAny_passesOwn hp (thn (hg _ s5 σ3 H5 x u _ I5' r5 (step x H5 y5)) fun _ s6 ⟨σ6, H6, I6, q6⟩ => ?_)
  refine wpAny_passesOwn hp (thn (hb _ s6 σ6 H6 _ I6 q6) fun f s7 q7 => ?_)
  have again : ∀ {σ7 : St} {H7 : Hp}, Inv X (pins ++ pinsAt fp s5.heap) σ7 H7 s7 -> N σ7 H7 -> ∃ m, m < n /\ ∃ i σ' H', Inv X pins σ' H' s7 /\ tn i s7.heap /\ (∀ b ∈ fp, H' b = none) /\ W i m σ' H' := fun {σ7 H7} I7 n7 => by
   obtain ⟨m', hm, w7⟩ := hN σ7 H7 n7
   refine ⟨m', hm, i + 1, σ7, H7, I7.unpinned, T.keep _ _ _ st5 fun b hb o e => (I7.pin (b, o) (zq42x _ (zq42x _ (mem_pinsAt hb e)))).1, fun b hb => ?_, w7⟩
   obtain ⟨o, e, d⟩ := T.obj _ _ st5 b hb
   exact (I7.pin (b, o) (zq42x _ (zq42x _ (mem_pinsAt hb e)))).2.1
  cases f with
  | next => obtain ⟨σ7, H7, I7, n7⟩ := q7; exact again I7 n7
  | cont => obtain ⟨σ7, H7, I7, n7⟩ := q7; exact again I7 n7
  | brk => obtain ⟨σ7, H7, I7, q7⟩ := q7; exact ⟨σ7, H7, I7.unpinned, q7⟩
  | ret v => obtain ⟨x7, σ7, H7, I7, r7, q7⟩ := q7; exact ⟨x7, σ7, H7, I7.unpinned, r7, q7⟩
end
theorem for_list {K : PySem.W.Frag} {a : Addr} {xs : List V} {g : TG} {tb : TS} {D : Ends} {σ : St} {H : Hp} (Pv : Nat -> St -> Hp -> Prop) (h0 : Pv 0 σ H) (hl : ∀ i σ H, i <= xs.length -> Pv i σ H -> SqL K H a xs)
  (hs : ∀ i x σ H, xs[i]? = some x -> Pv i σ H -> g x σ H fun σ2 H2 => tb { D with nx := Pv (i + 1), ct := Pv (i + 1), bk := D.nx } σ2 H2) (hd : ∀ σ H, Pv xs.length σ H -> D.nx σ H) :
  ∃ W : Nat -> Nat -> St -> Hp -> Prop, (∃ m, W 0 m σ H) /\ ∀ i m σ H, W i m σ H ->
   ((Itl K a).stop i H /\ D.nx σ H) \/ ((Itl K a).go i H /\ ∃ N : St -> Hp -> Prop, (∀ σ' H', N σ' H' -> ∃ m', m' < m /\ W (i + 1) m' σ' H') /\ ∀ x H', (Itl K a).yld i H x H' -> g x σ H' fun σ2 H2 => tb { D with nx := N, ct := N, bk := D.nx } σ2 H2) := by
 refine ⟨fun i m σ H => m = xs.length - i /\ i <= xs.length /\ Pv i σ H, ⟨xs.length, by simp, zq36x _, h0⟩, ?_⟩
 rintro i m σ H ⟨rfl, hi, p⟩
 have q := hl i σ H hi p
 by_cases hlt : i < xs.length
 ·refine .inr ⟨⟨xs, xs[i], q, by simp [hlt]⟩, Pv (i + 1), fun σ' H' p' => ⟨xs.length - (i + 1), by omega, rfl, hlt, p'⟩, fun x H' y => ?_⟩
  obtain ⟨e, y⟩ := y
  subst e
  exact hs i x σ _ (y xs q) p
 ·have e : i = xs.length := by omega
  subst e
  exact .inl ⟨⟨xs, q, zq1x _⟩, hd σ H p⟩
theorem for_range {lo : Int} {n : Nat} {g : TG} {tb : TS} {D : Ends} {σ : St} {H : Hp} (Pv : Nat -> St -> Hp -> Prop) (h0 : Pv 0 σ H)
  (hs : ∀ i σ H, i < n -> Pv i σ H -> g (.int (lo + i)) σ H fun σ2 H2 => tb { D with nx := Pv (i + 1), ct := Pv (i + 1), bk := D.nx } σ2 H2) (hd : ∀ σ H, Pv n σ H -> D.nx σ H) :
  ∃ W : Nat -> Nat -> St -> Hp -> Prop, (∃ m, W 0 m σ H) /\ ∀ i m σ H, W i m σ H ->
   ((Itr lo n).stop i H /\ D.nx σ H) \/ ((Itr lo n).go i H /\ ∃ N : St -> Hp -> Prop, (∀ σ' H', N σ' H' -> ∃ m', m' < m /\ W (i + 1) m' σ' H') /\ ∀ x H', (Itr lo n).yld i H x H' -> g x σ H' fun σ2 H2 => tb { D with nx := N, ct := N, bk := D.nx } σ2 H2) := by
 refine ⟨fun i m σ H => m = n - i /\ i <= n /\ Pv i σ H, ⟨n, by simp, zq36x _, h0⟩, ?_⟩
 rintro i m σ H ⟨rfl, hi, p⟩
 by_cases hlt : i < n
 ·refine .inr ⟨hlt, Pv (i + 1), fun σ' H' p' => ⟨n - (i + 1), by omega, rfl, hlt, p'⟩, fun x H' y => ?_⟩
  obtain ⟨e, y⟩ := y
  subst e y
  exact hs i σ _ hlt p
 ·have e : i = n := by omega
  subst e
  exact .inl ⟨zq1x _, hd σ H p⟩
abbrev R2 := V -> V -> Hp -> VK -> Prop
def OpR (X : Cx) (f : Value -> Value -> Sem Value) (r : R2) : Prop :=
 ∀ (pins : List (Addr × Obj)) (s : Shared) (σ : St) (H : Hp) (x y : V) (v u : Value) (Q : VK), Inv X pins σ H s -> RelV x v -> RelV y u -> r x y H Q ->
  wpAny (model X.prog X.w) X.A (f v u) (EP X pins σ Q) X.xe s
def UnR (X : Cx) (f : Value -> Sem Value) (r : V -> Hp -> VK -> Prop) : Prop :=
 ∀ (pins : List (Addr × Obj)) (s : Shared) (σ : St) (H : Hp) (x : V) (v : Value) (Q : VK), Inv X pins σ H s -> RelV x v -> r x H Q ->
  wpAny (model X.prog X.w) X.A (f v) (EP X pins σ Q) X.xe s
def CallR (X : Cx) (f : Value) (r : List V -> Hp -> VK -> Prop) : Prop :=
 ∀ (pins : List (Addr × Obj)) (s : Shared) (σ : St) (H : Hp) (xs : List V) (us : List Value) (Q : VK), Inv X pins σ H s -> Vals xs us -> r xs H Q ->
  wpAny (model X.prog X.w) X.A (call f us) (EP X pins σ Q) X.xe s
def TruR (X : Cx) (r : V -> Hp -> (Bool -> Hp -> Prop) -> Prop) : Prop :=
 ∀ (pins : List (Addr × Obj)) (s : Shared) (σ : St) (H : Hp) (x : V) (v : Value) (Q : Bool -> Hp -> Prop), Inv X pins σ H s -> RelV x v -> r x H Q ->
  wpAny (model X.prog X.w) X.A (truthy v) (TP X pins σ Q) X.xe s
def tOp (r : R2) (ta tb : TE) : TE := fun σ H Q => ta σ H fun x H1 => tb σ H1 fun y H2 => r x y H2 Q
def tUn (r : V -> Hp -> VK -> Prop) (ta : TE) : TE := fun σ H Q => ta σ H fun x H1 => r x H1 Q
def rI (C : Int -> Int -> Prop) (g : Int -> Int -> V) : R2 := fun x y H Q => ∃ i j, x = .int i /\ y = .int j /\ C i j /\ Q (g i j) H
def rI0 (g : Int -> Int -> V) : R2 := fun x y H Q => ∃ i j, x = .int i /\ y = .int j /\ Q (g i j) H
def rU (g : Int -> V) : V -> Hp -> VK -> Prop := fun x H Q => ∃ i, x = .int i /\ Q (g i) H
section
variable {X : Cx} {a b c : Expr} {ta tb tc : TE} {pos : Pos}
theorem binT (ha : PE X a ta) (hb : PE X b tb) {pins : List (Addr × Obj)} {s : Shared} {σ : St} {H : Hp} {R : V -> V -> Hp -> Prop} (I : Inv X pins σ H s)
  (h : ta σ H fun x H1 => tb σ H1 fun y H2 => R x y H2) {Q : Value -> Shared -> Prop} {f : Value -> Value -> Sem Value}
  (hf : ∀ v u s2 x y H2, Inv X pins σ H2 s2 -> RelV x v -> RelV y u -> R x y H2 -> wpAny (model X.prog X.w) X.A (f v u) Q X.xe s2) :
  wpAny (model X.prog X.w) X.A (eval a X.env) (fun v s₁ => wpAny (model X.prog X.w) X.A (eval b X.env) (fun u s₂ => wpAny (model X.prog X.w) X.A (f v u) Q X.xe s₂) X.xe s₁) X.xe s := by
 refine thn (ha pins s σ H _ I h) fun v s1 ⟨x, H1, I1, r1, q1⟩ => ?_
 refine thn (hb pins s1 σ H1 _ I1 q1) fun u s2 ⟨y, H2, I2, r2, q2⟩ => ?_
 exact hf v u s2 x y H2 I2 r1 r2 q2
theorem pe_op {op : Operator} {r : R2} (ho : OpR X (binaryOp op) r) (ha : PE X a ta) (hb : PE X b tb) : PE X (.BinOp a op b pos) (tOp r ta tb) := by
 intro pins s σ H Q I h
 exact wpAny_BinOp (binT ha hb I h fun v u s2 x y H2 I2 rx ry q => ho pins s2 σ H2 x y v u Q I2 rx ry q)
theorem pe_un {op : UnaryOp} {r : V -> Hp -> VK -> Prop} (ho : UnR X (unaryOp op) r) (ha : PE X a ta) : PE X (.UnaryOp op a pos) (tUn r ta) := by
 intro pins s σ H Q I h
 exact UnaryOp_ (thn (ha pins s σ H _ I h) fun v s1 ⟨x, H1, I1, r1, q1⟩ => ho pins s1 σ H1 x v Q I1 r1 q1)
theorem opI {f : Value -> Value -> Sem Value} {C : Int -> Int -> Prop} {g : Int -> Int -> Int}
  (rule : ∀ (i j : Int) (t u : Tok) (s : Shared) (Q : Value -> Shared -> Prop) (E : Value -> Shared -> Prop), C i j -> Q (.int (g i j) s.toks) { s with toks := s.toks + 1 } -> wpAny (model X.prog X.w) X.A (f (.int i t) (.int j u)) Q E s) :
  OpR X f (rI C fun i j => .int (g i j)) := by
 intro pins s σ H x y v u Q I rx ry h
 obtain ⟨i, j, rfl, rfl, hc, q⟩ := h
 obtain ⟨t, rfl⟩ := rx
 obtain ⟨t', rfl⟩ := ry
 exact rule i j t t' s _ _ hc ⟨.int (g i j), H, I.tok _, ⟨_, rfl⟩, q⟩
theorem opI0 {f : Value -> Value -> Sem Value} {g : Int -> Int -> Int}
  (rule : ∀ (i j : Int) (t u : Tok) (s : Shared) (Q : Value -> Shared -> Prop) (E : Value -> Shared -> Prop), Q (.int (g i j) s.toks) { s with toks := s.toks + 1 } -> wpAny (model X.prog X.w) X.A (f (.int i t) (.int j u)) Q E s) :
  OpR X f (rI0 fun i j => .int (g i j)) := by
 intro pins s σ H x y v u Q I rx ry h
 obtain ⟨i, j, rfl, rfl, q⟩ := h
 obtain ⟨t, rfl⟩ := rx
 obtain ⟨t', rfl⟩ := ry
 exact rule i j t t' s _ _ ⟨.int (g i j), H, I.tok _, ⟨_, rfl⟩, q⟩
theorem opB0 {f : Value -> Value -> Sem Value} {g : Int -> Int -> Bool}
  (rule : ∀ (i j : Int) (t u : Tok) (s : Shared) (Q : Value -> Shared -> Prop) (E : Value -> Shared -> Prop), Q (.bool (g i j)) s -> wpAny (model X.prog X.w) X.A (f (.int i t) (.int j u)) Q E s) :
  OpR X f (rI0 fun i j => .bl (g i j)) := by
 intro pins s σ H x y v u Q I rx ry h
 obtain ⟨i, j, rfl, rfl, q⟩ := h
 obtain ⟨t, rfl⟩ := rx
 obtain ⟨t', rfl⟩ := ry
 exact rule i j t t' s _ _ ⟨.bl (g i j), H, I, rfl, q⟩
def CPow (i j : Int) : Prop := 0 <= j /\ j <= 1000000 /\ i.natAbs < 2 ^ 64
def CMul (i j : Int) : Prop := (-(2 ^ 64) < i /\ i < 2 ^ 64) \/ (-(2 ^ 64) < j /\ j < 2 ^ 64)
theorem CMul.ok {i j : Int} (h : CMul i j) : IntMulOk i j := by
 rcases h with ⟨h1, h2⟩ | ⟨h1, h2⟩
 ·exact .of_left (intBits_le_64 h1 h2)
 ·exact .of_right (intBits_le_64 h1 h2)
theorem op_add : OpR X (binaryOp .Add) (rI0 fun i j => .int (i + j)) := opI0 fun _ _ _ _ _ _ _ q => add_int q
theorem op_sub : OpR X (binaryOp .Sub) (rI0 fun i j => .int (i - j)) := opI0 fun _ _ _ _ _ _ _ q => sub_int q
theorem op_mod : OpR X (binaryOp .Mod) (rI (fun _ j => 0 < j) fun i j => .int (i % j)) := opI fun i j _ _ _ _ _ hc q => by
 have h1 : (0 : Int) < j := hc
 exact mod_int' (by omega) (by rw [Int.fmod_eq_emod_of_nonneg i (by omega)]; exact q)
theorem op_pow : OpR X (binaryOp .Pow) (rI CPow fun i j => .int (i ^ j.toNat)) := opI fun _ _ _ _ _ _ _ hc q => pow_int_small hc.1 hc.2.1 hc.2.2 q
theorem unI {f : Value -> Sem Value} {g : Int -> Int}
  (rule : ∀ (i : Int) (t : Tok) (s : Shared) (Q : Value -> Shared -> Prop) (E : Value -> Shared -> Prop), Q (.int (g i) s.toks) { s with toks := s.toks + 1 } -> wpAny (model X.prog X.w) X.A (f (.int i t)) Q E s) :
  UnR X f (rU fun i => .int (g i)) := by
 intro pins s σ H x v Q I rx h
 obtain ⟨i, rfl, q⟩ := h
 obtain ⟨t, rfl⟩ := rx
 exact rule i t s _ _ ⟨.int (g i), H, I.tok _, ⟨_, rfl⟩, q⟩
theorem un_neg : UnR X (unaryOp .USub) (rU fun i => .int (-i)) := unI fun _ _ _ _ _ q => neg_int q
end
def scal : V -> V -> Bool
 | .non, .non => true | .non, .int _ => true | .int _, .non => true | .non, .bl _ => true | .bl _, .non => true | .non, .str _ => true | .str _, .non => true
 | .int _, .int _ => true | .bl _, .bl _ => true | .str _, .str _ => true | .byt _, .byt _ => true
 | .int _, .str _ => true | .str _, .int _ => true | .bl _, .str _ => true | .str _, .bl _ => true
 | _, _ => false
def rEq : R2 := fun x y H Q => scal x y = true /\ Q (.bl (decide (x = y))) H
def rNe : R2 := fun x y H Q => scal x y = true /\ Q (.bl (!decide (x = y))) H
theorem dec_int {i j : Int} : decide (V.int i = V.int j) = (i == j) := by
 rw [zq60x]
 simp
theorem dec_bl {i j : Bool} : decide (V.bl i = V.bl j) = (i == j) := by
 rw [zq60x]
 simp
theorem dec_str {i j : Str} : decide (V.str i = V.str j) = (i == j) := by
 rw [zq60x]
 simp
theorem dec_byt {i j : Array UInt8} : decide (V.byt i = V.byt j) = (i.toList == j.toList) := by
 rw [zq60x]
 cases i
 cases j
 simp
section
variable {X : Cx} {a b c : Expr} {ta tb tc : TE} {pos : Pos}
theorem fin_bl {pins : List (Addr × Obj)} {σ : St} {H : Hp} {s : Shared} {Q : VK} {k k' : Bool} (I : Inv X pins σ H s) (q : Q (.bl k) H) (e : k = k') : EP X pins σ Q (.bool k') s := by
 subst e
 exact ⟨.bl k, H, I, rfl, q⟩
theorem op_eq : OpR X (compareOp .Eq) rEq := by
  intro pins s σ H x y v u Q I rx ry h
  obtain ⟨hs, q⟩ := h
  cases x with
  | non =>
    cases rx
    cases y with
    | non => cases ry; exact PySem.EqNone.eq_none_none (fin_bl I q (by simp))
    | bl j => cases ry; exact PySem.EqNone.eq_none_bool (fin_bl I q (by simp))
    | int j => obtain ⟨t', rfl⟩ := ry; exact PySem.EqNone.eq_none_int (fin_bl I q (by simp))
    | str j => obtain ⟨t', rfl⟩ := ry; exact PySem.EqNone.eq_none_str (fin_bl I q (by simp))
    | _ => exact absurd (show false = true from hs) zq15x
  | bl i =>
    cases rx
    cases y with
    | non => cases ry; exact PySem.EqNone.eq_bool_none (fin_bl I q (by simp))
    | bl j => cases ry; exact eq_bool (fin_bl I q dec_bl)
    | str j => obtain ⟨t', rfl⟩ := ry; exact PySem.EqMixed.eq_bool_str (fin_bl I q (by simp))
    | _ => exact absurd (show false = true from hs) zq15x
  | int i =>
    obtain ⟨t, rfl⟩ := rx
    cases y with
    | non => cases ry; exact PySem.EqNone.eq_int_none (fin_bl I q (by simp))
    | int j => obtain ⟨t', rfl⟩ := ry; exact eq_int (fin_bl I q dec_int)
    | str j => obtain ⟨t', rfl⟩ := ry; exact PySem.EqMixed.eq_int_str (fin_bl I q (by simp))
    | _ => exact absurd (show false = true from hs) zq15x
  | str i =>
    obtain ⟨t, rfl⟩ := rx
    cases y with
    | non => cases ry; exact PySem.EqNone.eq_str_none (fin_bl I q (by simp))
    | bl j => cases ry; exact PySem.EqMixed.eq_str_bool (fin_bl I q (by simp))
    | int j => obtain ⟨t', rfl⟩ := ry; exact PySem.EqMixed.eq_str_int (fin_bl I q (by simp))
    | str j => obtain ⟨t', rfl⟩ := ry; exact eq_str (fin_bl I q dec_str)
    | _ => exact absurd (show false = true from hs) zq15x
  | byt i =>
    obtain ⟨t, rfl⟩ := rx
    cases y with
    | byt j => obtain ⟨t', rfl⟩ := ry; exact PySem.W.eq_bytes (fin_bl I q dec_byt)
    | _ => exact absurd (show false = true from hs) zq15x
  | _ => cases y <;> exact absurd (show false = true from hs) zq15x
theorem op_ne : OpR X (compareOp .NotEq) rNe := by
  intro pins s σ H x y v u Q I rx ry h
  obtain ⟨hs, q⟩ := h
  cases x with
  | non =>
    cases rx
    cases y with
    | non => cases ry; exact PySem.EqNone.ne_none_none (fin_bl I q (by simp))
    | bl j => cases ry; exact PySem.EqNone.ne_none_bool (fin_bl I q (by simp))
    | int j => obtain ⟨t', rfl⟩ := ry; exact PySem.EqNone.ne_none_int (fin_bl I q (by simp))
    | str j => obtain ⟨t', rfl⟩ := ry; exact PySem.EqNone.ne_none_str (fin_bl I q (by simp))
    | _ => exact absurd (show false = true from hs) zq15x
  | bl i =>
    cases rx
    cases y with
    | non => cases ry; exact PySem.EqNone.ne_bool_none (fin_bl I q (by simp))
    | bl j => cases ry; exact ne_bool (fin_bl I q (congrArg not dec_bl))
    | str j => obtain ⟨t', rfl⟩ := ry; exact PySem.EqMixed.ne_bool_str (fin_bl I q (by simp))
    | _ => exact absurd (show false = true from hs) zq15x
  | int i =>
    obtain ⟨t, rfl⟩ := rx
    cases y with
    | non => cases ry; exact PySem.EqNone.ne_int_none (fin_bl I q (by simp))
    | int j => obtain ⟨t', rfl⟩ := ry; exact ne_int (fin_bl I q (congrArg not dec_int))
    | str j => obtain ⟨t', rfl⟩ := ry; exact PySem.EqMixed.ne_int_str (fin_bl I q (by simp))
    | _ => exact absurd (show false = true from hs) zq15x
  | str i =>
    obtain ⟨t, rfl⟩ := rx
    cases y with
    | non => cases ry; exact PySem.EqNone.ne_str_none (fin_bl I q (by simp))
    | bl j => cases ry; exact PySem.EqMixed.ne_str_bool (fin_bl I q (by simp))
    | int j => obtain ⟨t', rfl⟩ := ry; exact PySem.EqMixed.ne_str_int (fin_bl I q (by simp))
    | str j => obtain ⟨t', rfl⟩ := ry; exact ne_str (fin_bl I q (congrArg not dec_str))
    | _ => exact absurd (show false = true from hs) zq15x
  | byt i =>
    obtain ⟨t, rfl⟩ := rx
    cases y with
    | byt j => obtain ⟨t', rfl⟩ := ry; exact PySem.W.ne_bytes (fin_bl I q (congrArg not dec_byt))
    | _ => exact absurd (show false = true from hs) zq15x
  | _ => cases y <;> exact absurd (show false = true from hs) zq15x
theorem op_lt : OpR X (compareOp .Lt) (rI0 fun i j => .bl (decide (i < j))) := opB0 fun _ _ _ _ _ _ _ q => lt_int q
theorem op_le : OpR X (compareOp .LtE) (rI0 fun i j => .bl (decide (i <= j))) := opB0 fun _ _ _ _ _ _ _ q => le_int q
theorem op_gt : OpR X (compareOp .Gt) (rI0 fun i j => .bl (decide (j < i))) := opB0 fun _ _ _ _ _ _ _ q => gt_int q
theorem op_in_str : OpR X (compareOp .In) (fun x y H Q => ∃ i j, x = .str i /\ y = .str j /\ Q (.bl (!(Builtin.Str.occurrences j i 0 j.length 1).isEmpty)) H) := by
 intro pins s σ H x y v u Q I rx ry h
 obtain ⟨i, j, rfl, rfl, q⟩ := h
 obtain ⟨t, rfl⟩ := rx
 obtain ⟨t', rfl⟩ := ry
 exact in_str (fin_bl I q rfl)
theorem nomark (b : Expr) {op : CmpOp} (h : op ≠ .In := by decide) (h2 : op ≠ .NotIn := by decide) : behindInMarks op b = false := by
 have e1 : (op == CmpOp.In) = false := by cases op <;> first | rfl | exact absurd rfl h
 have e2 : (op == CmpOp.NotIn) = false := by cases op <;> first | rfl | exact absurd rfl h2
 cases b <;> simp [behindInMarks, e1, e2]
theorem pe_cmpR {op : CmpOp} {r : R2} (ho : OpR X (compareOp op) r) (ha : PE X a ta) (hb : PE X b tb) (hm : behindInMarks op b = false) : PE X (.Compare a [op] [b] pos) (tOp r ta tb) := by
 intro pins s σ H Q I h
 exact wpAny_Compare1 (binT ha hb I h fun v u s2 x y H2 I2 rx ry q => ho pins s2 σ H2 x y v u Q I2 rx ry q) hm
def tTest (t : TE) : TT := fun σ H Q => t σ H fun x H' => ∃ k, x = .bl k /\ Q k H'
theorem pt_cmpR {op : CmpOp} {r : R2} (ho : OpR X (compareOp op) r) (ha : PE X a ta) (hb : PE X b tb) (hm : behindInMarks op b = false) : PT X (.Compare a [op] [b] pos) (tTest (tOp r ta tb)) := by
 intro pins s σ H Q I h
 refine wpAny_isTrue_Compare1 (thn (ha pins s σ H _ I h) fun v s1 ⟨x, H1, I1, r1, q1⟩ => thn (hb pins s1 σ H1 _ I1 q1) fun u s2 ⟨y, H2, I2, r2, q2⟩ =>
  thn (ho pins s2 σ H2 x y v u _ I2 r1 r2 q2) fun c s3 ⟨z, H3, I3, r3, k, e, q3⟩ => ?_) hm
 subst e
 cases r3
 exact wpAny_truthy_bool ⟨H3, I3, q3⟩
def TruV (K : PySem.W.Frag) (x : V) (H : Hp) (k : Bool) : Prop :=
 match x with
 | .non => k = false
 | .bl b => k = b
 | .int i => k = (i != 0)
 | .str y => y.length <= sizeLine /\ k = ((y.length : Int) != 0)
 | .byt y => y.size <= sizeLine /\ k = ((y.size : Int) != 0)
 | .ref p => (∃ xs, SqL K H p xs /\ k = !xs.isEmpty) \/ (∃ xs, SqT K H p xs /\ k = !xs.isEmpty) \/ ∃ kvs, H p = some (.dK kvs) /\ k = !kvs.isEmpty
 | _ => False
theorem isEmpty_kv {κ : Type} {kvs : List (κ × V)} {vs : List (κ × Value)} (r : KV kvs vs) : (!vs.isEmpty) = !kvs.isEmpty := by
 cases r <;> rfl
theorem isEmpty_of {xs : List V} {its : List Value} (r : Vals xs its) : (!its.toArray.isEmpty) = !xs.isEmpty := by
 cases r <;> simp
theorem line63 : (sizeLine : Nat) < 2 ^ 63 := by rw [sizeLine_eq]; decide
theorem tru_ok : TruR X (fun x H Q => ∃ k, TruV X.K x H k /\ Q k H) := by
  intro pins s σ H x v Q I rx h
  obtain ⟨k, e, q⟩ := h
  have hl := line63
  have hs : sizeLine = 16777216 := sizeLine_eq
  cases x with
  | non =>
    cases rx
    have e' : k = false := e
    subst e'
    exact truthy_none ⟨H, I, q⟩
  | bl b =>
    cases rx
    have e' : k = b := e
    subst e'
    exact wpAny_truthy_bool ⟨H, I, q⟩
  | int i =>
    obtain ⟨t, rfl⟩ := rx
    have e' : k = (i != 0) := e
    subst e'
    exact PySem.P.truthy_int ⟨H, I, q⟩
  | str y =>
    obtain ⟨t, rfl⟩ := rx
    obtain ⟨hy, e'⟩ : y.length <= sizeLine /\ k = ((y.length : Int) != 0) := e
    subst e'
    exact PySem.P.truthy_str (by omega) ⟨H, I.tok _, q⟩
  | byt y =>
    obtain ⟨t, rfl⟩ := rx
    obtain ⟨hy, e'⟩ : y.size <= sizeLine /\ k = ((y.size : Int) != 0) := e
    subst e'
    exact PySem.W.truthy_bytes (by omega) ⟨H, I.tok _, q⟩
  | ref p =>
    cases rx
    have e' : (∃ xs, SqL X.K H p xs /\ k = !xs.isEmpty) \/ (∃ xs, SqT X.K H p xs /\ k = !xs.isEmpty) \/ ∃ kvs, H p = some (.dK kvs) /\ k = !kvs.isEmpty := e
    rcases e' with ⟨xs, hx, e'⟩ | ⟨xs, hx, e'⟩ | ⟨kvs, hx, e'⟩
    · subst e'
      obtain ⟨its, r, pl, hz⟩ := I.list hx
      have hlen := r.length
      exact wpAny_truthy_list pl.isList (by simp only [zq16x]; omega) ⟨H, I.tok _, by rw [isEmpty_of r]; exact q⟩
    · subst e'
      obtain ⟨its, r, pl, hz⟩ := I.tuple hx
      have hlen := r.length
      exact truthy_tuple pl (by simp only [zq16x]; omega) ⟨H, I.tok _, by rw [isEmpty_of r]; exact q⟩
    · subst e'
      obtain ⟨hz, hS, vs, r, m⟩ : kvs.length <= sizeLine /\ (p == sysModules) = false /\ ∃ vs, KV kvs vs /\ s.heap.DictOf (mixKind X.prog X.w) p vs := I.hok p _ hx
      have hlen : kvs.length = vs.length := Paired.length r
      exact wpAny_truthy_dict hS m (by omega) ⟨H, I.tok _, by rw [isEmpty_kv r]; exact q⟩
  | _ => exact (show False from e).elim
theorem pt_truth (ha : PE X a ta) (he : ∀ whole, isTrue a X.env whole = (do let v <- whole; standAt a.pos; holding [v] (truthy v))) :
  PT X a (fun σ H Q => ta σ H fun x H' => ∃ k, TruV X.K x H' k /\ Q k H') := by
 intro pins s σ H Q I h
 exact isTrue_plain (thn (ha pins s σ H _ I h) fun v s1 ⟨x, H1, I1, r1, q1⟩ => tru_ok pins s1 σ H1 x v Q I1 r1 q1) (he _)
theorem op_add_str : OpR X (binaryOp .Add) (fun x y H Q => ∃ i j, x = .str i /\ y = .str j /\ i.length + j.length <= sizeLine /\ Q (.str (i ++ j)) H) := by
 intro pins s σ H x y v u Q I rx ry h
 obtain ⟨i, j, rfl, rfl, hz, q⟩ := h
 obtain ⟨t, rfl⟩ := rx
 obtain ⟨t', rfl⟩ := ry
 exact add_str (fun t' tk => ⟨.str (i ++ j), H, I.tok _, ⟨_, rfl⟩, q⟩) hz
theorem vals1 {x : V} {us : List Value} (r : Vals [x] us) : ∃ u, us = [u] /\ RelV x u := by
 cases r with
 | cons r1 r2 => cases r2; exact ⟨_, rfl, r1⟩
theorem call_abs : CallR X (.builtin "abs") (fun xs H Q => ∃ i, xs = [.int i] /\ Q (.int (if i < 0 then -i else i)) H) := by
 intro pins s σ H xs us Q I r h
 obtain ⟨i, rfl, q⟩ := h
 obtain ⟨u, rfl, t, rfl⟩ := vals1 r
 exact call_abs_int fun u tk => ⟨.int (if i < 0 then -i else i), H, I.tok _, ⟨_, rfl⟩, q⟩
theorem call_int1 : CallR X (.type "int") (fun xs H Q => (∃ i, xs = [.int i] /\ Q (.int i) H) \/ ∃ k, xs = [.bl k] /\ Q (.int (if k then 1 else 0)) H) := by
 intro pins s σ H xs us Q I r h
 rcases h with ⟨i, rfl, q⟩ | ⟨k, rfl, q⟩
 ·obtain ⟨u, rfl, t, rfl⟩ := vals1 r
  exact call_int_int ⟨.int i, H, I, ⟨_, rfl⟩, q⟩
 ·obtain ⟨u, rfl, r1⟩ := vals1 r
  cases r1
  exact call_int_bool ⟨.int (if k then 1 else 0), H, I.tok _, ⟨_, rfl⟩, q⟩
theorem call_str_int : CallR X (.type "str") (fun xs H Q => ∃ i, xs = [.int i] /\ i.natAbs.log2 < 1920 /\ Q (.str (toString i)) H) := by
 intro pins s σ H xs us Q I r h
 obtain ⟨i, rfl, hz, q⟩ := h
 obtain ⟨u, rfl, t, rfl⟩ := vals1 r
 exact PySem.P.str_of_int hz ⟨.str _, H, I.tok _, ⟨_, rfl⟩, q⟩
end
structure ObjM (h : Heap) (x dx C : Addr) (mA : Str -> Option Value) : Prop where
 obj : h.get? x = some (PySem.W.instObj C dx)
 ns : h.Ns1 dx mA
 ne : dx ≠ x
theorem lookIn_ns {h : Heap} {dx : Addr} {mA : Str -> Option Value} (n : h.Ns1 dx mA) : ∃ od, h.get? dx = some od /\ ∀ name, PySem.W.lookIn name od = some (mA name) := by
 obtain ⟨o, es, ep, ho, hd, hk, _, hm⟩ := n
 refine ⟨o, ho, fun name => ?_⟩
 have e := hm name
 unfold nsFind findBy at e
 rw [<- Array.find?_toList] at e
 unfold PySem.W.lookIn
 rw [hd]
 dsimp only
 split
 ·rename_i y q
  rw [q] at e
  exact congrArg some e
 ·rename_i q
  rw [q] at e
  have a : es.toList.any (·.refKey) = false := by
   rw [List.any_eq_false]
   intro y hy
   obtain ⟨z, t, hkey⟩ := hk y (zq105x.mp hy)
   simp [DictEntry.refKey, hkey]
  have a' : ¬ es.toList.any (·.refKey) = true := by rw [a]; exact zq15x
  rw [if_neg a']
  exact congrArg some e
theorem ObjM.look {h : Heap} {x dx C : Addr} {mA : Str -> Option Value} (I : ObjM h x dx C mA) : ∃ od, PySem.W.InstAt h x (PySem.W.instObj C dx) C (some od) /\ ∀ name, PySem.W.lookIn name od = some (mA name) :=
 let ⟨od, ho, hl⟩ := lookIn_ns I.ns
 ⟨od, ⟨I.obj, rfl, rfl, ho⟩, hl⟩
section
variable {P : Program} {w : World} {H H' : Hp} {h h' : Heap} {a C dx : Addr} {fs fs' : List (Str × V)}
theorem ins_get (hok : HOk P w H h) (e : H a = some (.ins C dx fs)) : ∃ mA, ObjM h a dx C mA /\ (∀ f, RelO (fs.lookup f) (mA f)) /\ PySem.Within mA (fs.map (·.1)) /\ fs.length <= 1000 /\ H dx = some (.own a) := by
 obtain ⟨d, z, ne, ob, mA, n, r, q⟩ := (show ObjOk P w H h a (.ins C dx fs) from hok a _ e)
 exact ⟨mA, ⟨ob, n, ne⟩, r, q, z, d⟩
end
structure Cls (K : PySem.W.Frag) (C : Addr) : Prop where
 pg : PySem.W.plainGet K C Str.empty = true
 hd : PySem.W.hasDictIn K C = true
 po : PySem.W.plainOver K C = true
 sa : PySem.W.findIn K (.ref C) "__setattr__" = some (some (.builtin "object.__setattr__"))
theorem Cls.get {K : PySem.W.Frag} {C : Addr} (c : Cls K C) (f : Str) : PySem.W.plainGet K C f = true := c.pg
section
variable {X : Cx} {pins : List (Addr × Obj)} {σ : St} {H : Hp} {s : Shared} {A : Around} {E : Value -> Shared -> Prop} {Q : Value -> Shared -> Prop} {c : Value} {b : Bool}
inductive TyOf (K : PySem.W.Frag) (H : Hp) : V -> Value -> Prop where
 | non : TyOf K H .non (.type "NoneType")
 | bl (x : Bool) : TyOf K H (.bl x) (.type "bool")
 | int (i : Int) : TyOf K H (.int i) (.type "int")
 | str (x : Str) : TyOf K H (.str x) (.type "str")
 | flt (x : UInt64) : TyOf K H (.flt x) (.type "float")
 | lst {a : Addr} {xs : List V} (e : H a = some (.lst xs)) : TyOf K H (.ref a) (.type "list")
 | frz {a : Addr} {o : Obj} {xs : List V} (e : H a = some (.frz o (.lst xs))) : TyOf K H (.ref a) (.type "list")
 | tup {a : Addr} {xs : List V} (e : H a = some (.tup xs)) : TyOf K H (.ref a) (.type "tuple")
 | dK {a : Addr} {kvs : List (Key × V)} (e : H a = some (.dK kvs)) : TyOf K H (.ref a) (.type "dict")
 | dT {a : Addr} {kvs : List (List Key × V)} (e : H a = some (.dT kvs)) : TyOf K H (.ref a) (.type "dict")
 | fzd {a : Addr} {o : Obj} {kvs : List (Key × V)} (e : H a = some (.frz o (.dK kvs))) : TyOf K H (.ref a) (.type "dict")
 | ins {a C dx : Addr} {fs : List (Str × V)} (e : H a = some (.ins C dx fs)) (cl : Cls K C) (ha : PySem.W.findIn K (.ref C) "__class__" = some (some (.builtin "object.__class__")))
   (hn : PySem.W.specialIn K (.builtin "object.__class__") "__get__" = some (some (.builtin "getset_descriptor.__get__"))) (htk : PySem.W.takesIn K (.builtin "object.__class__") = some true)
   (hm : PySem.W.mroIn K C (.type "object") = some true) : TyOf K H (.ref a) (.ref C)
theorem isinst_ok {x : V} {u t : Value} (I : Inv X pins σ H s) (rx : RelV x u) (ty : TyOf X.K H x t) (e : PySem.W.kitOne X.K t c = some b) (h : ∀ tk, Q (.bool b) { s with toks := tk }) :
    wpAny (model X.prog X.w) A (call (.builtin "isinstance") [u, c]) Q E s := by
  cases ty with
  | non => cases (show u = Value.none from rx); exact zq43x PySem.W.kitx_none I.kIn True.intro e (fun z => nomatch z) h
  | bl y => cases (show u = Value.bool y from rx); exact zq43x PySem.W.kitx_bool I.kIn True.intro e (fun z => nomatch z) h
  | int i => obtain ⟨t, q⟩ := (show ∃ t, u = Value.int i t from rx); cases q; exact zq43x PySem.W.kitx_int I.kIn True.intro e (fun z => nomatch z) h
  | str y => obtain ⟨t, q⟩ := (show ∃ t, u = Value.str y t from rx); cases q; exact zq43x PySem.W.kitx_str I.kIn True.intro e (fun z => nomatch z) h
  | flt y => obtain ⟨t, q⟩ := (show ∃ t, u = Value.float y t from rx); cases q; exact zq43x PySem.W.kitx_float I.kIn True.intro e (fun z => nomatch z) h
  | @lst a xs ea =>
    cases (show u = Value.ref a from rx)
    obtain ⟨_, _, n, _, h1⟩ := (show ObjOk X.prog X.w H s.heap a (.lst xs) from I.hok a _ ea)
    exact zq43x zq122x I.kIn ⟨_, h1, rfl⟩ e (fun z => nomatch z) h
  | @frz a ob xs ea =>
    cases (show u = Value.ref a from rx)
    obtain ⟨_, _, _, n, _, h1⟩ := (show ObjOk X.prog X.w H s.heap a (.frz ob (.lst xs)) from I.hok a _ ea)
    exact zq43x zq122x I.kIn ⟨_, h1, rfl⟩ e (fun z => nomatch z) h
  | @tup a xs ea =>
    cases (show u = Value.ref a from rx)
    obtain ⟨_, _, _, p⟩ := (show ObjOk X.prog X.w H s.heap a (.tup xs) from I.hok a _ ea)
    obtain ⟨o, h1, h2, _⟩ := p
    exact zq43x PySem.W.kitx_tuple I.kIn ⟨o, h1, h2⟩ e (fun z => nomatch z) h
  | @dK a kvs ea =>
    cases (show u = Value.ref a from rx)
    obtain ⟨_, _, vs, _, p⟩ := (show ObjOk X.prog X.w H s.heap a (.dK kvs) from I.hok a _ ea)
    obtain ⟨o, es, ep, h1, h2, _⟩ := p
    exact zq43x zq106x I.kIn ⟨o, h1, h2.1⟩ e (fun z => nomatch z) h
  | @dT a kvs ea =>
    cases (show u = Value.ref a from rx)
    obtain ⟨_, _, xs, _, o, es, ep, h1, h2, _⟩ := (show ObjOk X.prog X.w H s.heap a (.dT kvs) from I.hok a _ ea)
    exact zq43x zq106x I.kIn ⟨o, h1, h2.1⟩ e (fun z => nomatch z) h
  | @fzd a ob kvs ea =>
    cases (show u = Value.ref a from rx)
    obtain ⟨_, _, _, vs, _, o, es, ep, h1, h2, _⟩ := I.hok a _ ea
    exact zq43x zq106x I.kIn ⟨o, h1, h2.1⟩ e (fun z => nomatch z) h
  | @ins a C dx fs ea cl ha hn htk hm =>
    cases (show u = Value.ref a from rx)
    obtain ⟨mA, O, _⟩ := ins_get I.hok ea
    obtain ⟨od, J, _⟩ := O.look
    exact zq43x (PySem.W.kitx_own (cl.get _) cl.hd ha hn htk hm) I.kIn J e (fun z => nomatch z) h
end
structure Room (k : Nat) (A : Around) : Prop where
 hd : A.handled = none
 dp : A.depth + 3 * k + 5 < recursionLimit
 un : A.units + 16 * k + 200 < cLine
theorem Room.mono {j k : Nat} {A : Around} (r : Room k A) (h : j <= k) : Room j A := ⟨r.hd, by have := r.dp; omega, by have := r.un; omega⟩
theorem Room.deeper {k : Nat} {A : Around} (r : Room (k + 1) A) (env : Env) : Room k (A.deeper env) :=
 ⟨r.hd, by have := r.dp; show A.depth + 1 + 3 * k + 5 < _; omega, by have := r.un; show A.units + 3 + 16 * k + 200 < _; omega⟩
theorem Room.depth {k : Nat} {A : Around} (r : Room k A) : A.depth < recursionLimit := by have := r.dp; omega
theorem Room.units {k : Nat} {A : Around} (r : Room k A) : A.units + 64 < cLine := by have := r.un; omega
def tNil : TA := fun _ H Q => Q [] H
def tCons (ta : TE) (tr : TA) : TA := fun σ H Q => ta σ H fun x H1 => tr σ H1 fun xs H2 => Q (x :: xs) H2
section
variable {X : Cx} {e : Expr} {es : List Expr} {te : TE} {t : TA} {pos : Pos}
theorem pa_nil : PA X [] tNil := fun _ _ _ _ H Q I h => Calls.spliced_nil ⟨[], H, I, .nil, h⟩
theorem pa_cons (ha : PE X e te) (hr : PA X es t) (hs : starEach (e :: es) X.env = (false, eval e X.env) :: starEach es X.env := by rfl) : PA X (e :: es) (tCons te t) := by
 intro pos pins s σ H Q I h
 rw [hs]
 show wpAny _ _ (spliced ((false, eval e X.env) :: backTo pos (starEach es X.env))) _ _ s
 refine Calls.spliced_cons (thn (ha pins s σ H _ I h) fun u s1 ⟨x, H1, I1, r1, q1⟩ => ?_)
 exact thn (hr pos pins s1 σ H1 _ I1 q1) fun us s2 ⟨xs, H2, I2, r2, q2⟩ => ⟨x :: xs, H2, I2, .cons r1 r2, q2⟩
def tTup (t : TA) : TE := fun σ H Q => t σ H fun xs H1 => xs.length <= sizeLine /\ ∀ p, H1 p = none -> Q (.ref p) (upd H1 p (.tup xs))
def tLst (t : TA) : TE := fun σ H Q => t σ H fun xs H1 => xs.length <= sizeLine /\ ∀ p, H1 p = none -> Q (.ref p) (upd H1 p (.lst xs))
theorem pe_tup {x1} (h : PA X es t) : PE X (.Tuple es x1 pos) (tTup t) := by
 intro pins s σ H Q I hq
 refine wpAny_Tuple_spliced (thn (h pos pins s σ H _ I hq) fun us s1 ⟨xs, H1, I1, r, z, q⟩ => ⟨by rw [<- r.length]; exact z, ?_⟩)
 have hf : H1 s1.heap.objs.size = none := I1.hok.fresh (zq1x _)
 refine ⟨.ref s1.heap.objs.size, upd H1 s1.heap.objs.size (.tup xs), I1.laid (t' := s1.toks) (fun b u e => zq9x _ e) (zq1x _) ?_, rfl, q _ hf⟩
 exact ⟨z, us, r, ⟨_, zq29x _ rfl, rfl, _, rfl⟩⟩
theorem pe_lst (h : PA X es t) : PE X (.List es pos) (tLst t) := by
 intro pins s σ H Q I hq
 refine wpAny_List_spliced (thn (h pos pins s σ H _ I hq) fun us s1 ⟨xs, H1, I1, r, z, q⟩ => ⟨by rw [<- r.length]; exact z, ?_⟩)
 have hf : H1 s1.heap.objs.size = none := I1.hok.fresh (zq1x _)
 refine ⟨.ref s1.heap.objs.size, upd H1 s1.heap.objs.size (.lst xs), I1.laid (t' := s1.toks) (fun b u e => zq9x _ e) (zq1x _) ?_, rfl, q _ hf⟩
 exact ⟨z, us, 0, r, zq29x _ rfl⟩
end
abbrev Sp := List V -> Hp -> VK -> XK -> Prop
abbrev CXT := List Env -> Hp -> Shared -> XK -> Value -> Shared -> Prop
structure Env0 (P : Program) (w : World) (K : PySem.W.Frag) (mg : Str -> Option Value) (base : Heap) (A : Around) (outer : List Env) (s : Shared) (H : Hp) : Prop where
 frames : A.frames = some outer
 mod : Mod K mg base
 bs : ∀ b o, base.get? b = some o -> s.heap.get? b = some o /\ H b = none
 bsz : base.objs.size <= s.heap.objs.size
 funs : s.heap.FunFrames base outer
 frf : ∀ b ∈ frs outer, H b = none
 hok : HOk P w H s.heap
 bare : AllBare s.gens
def CE (outer : List Env) (P : Program) (w : World) (H : Hp) (s : Shared) (Q : VK) (u : Value) (s' : Shared) : Prop :=
 ∃ v H', s'.os = s.os /\ AllBare s'.gens /\ Un (frs outer) [] H H' s.heap s'.heap /\ HOk P w H' s'.heap /\ RelV v u /\ Q v H'
def CR (CX : CXT) (outer : List Env) (P : Program) (w : World) (H : Hp) (s : Shared) (Q : VK) (E : XK) (r : Result) (s' : Shared) : Prop :=
 match r with
 | .ok (.ret u) => CE outer P w H s Q u s'
 | .ok _ => False
 | .error e => CX outer H s E e s'
structure FnOk (P : Program) (w : World) (K : PySem.W.Frag) (mg : Str -> Option Value) (base : Heap) (CX : CXT) (k : Nat) (f : Addr) (fd : FuncData) (ps : List Str) (sp : Sp) : Prop where
 len : ∀ vs H Q E, sp vs H Q E -> vs.length = ps.length
 run : ∀ (A : Around) (outer : List Env) (s : Shared) (H : Hp) (args : Args) (us : List Value) (vs : List V) (Q : VK) (E : XK), Room k A -> Env0 P w K mg base A outer s H -> BindsTo s fd args (ps.zip us) -> Vals vs us -> sp vs H Q E ->
  codeAny (model P w) A (.call (.ref f) args) (CR CX outer P w H s Q E) s
section
variable {X : Cx} {pins : List (Addr × Obj)} {σ : St} {H : Hp} {s s' : Shared}
theorem Inv.env0 (I : Inv X pins σ H s) : Env0 X.prog X.w X.K X.mg X.base X.A X.stack s H :=
 ⟨I.ok.frames, I.ok.mod, I.bs, zq25x I.ok.bsz I.sz, I.stack, I.stkFree, I.hok, I.bare⟩
theorem Inv.after {Q : VK} {u : Value} (I : Inv X pins σ H s) (h : CE X.stack X.prog X.w H s Q u s') : EP X pins σ Q u s' := by
 obtain ⟨v, H', os, bare, un, hok, r, q⟩ := h
 obtain ⟨hh, g, d, t, os'⟩ := s'
 obtain rfl : os' = s.os := os
 exact ⟨v, H', I.call (h' := hh) (g' := g) (d' := d) (t' := t) (ch := []) un hok bare (fun b z => absurd z (by simp)), r, q⟩
end
def tCall (sp : Sp) (dvs : List V) (E : XK) (t : TA) : TE := fun σ H Q => t σ H fun vs H1 => sp (vs ++ dvs) H1 Q E
def Binds (K : PySem.W.Frag) (fd : FuncData) (ps : List Str) (ds : List Value) : Prop :=
 ∀ (s : Shared) (us : List Value), K.In s.heap -> (us ++ ds).length = ps.length -> BindsTo s fd ⟨us, []⟩ (ps.zip (us ++ ds))
theorem Binds.all {K : PySem.W.Frag} {fd : FuncData} {ps : List Str} (h : ∀ us : List Value, us.length = ps.length -> bindArgs fd ⟨us, []⟩ = pure (ps.zip us)) : Binds K fd ps [] := fun s us _ hl => by
 rw [zq44x] at hl ⊢
 exact .of_eq (h us hl)
def Passes (CX : CXT) (X : Cx) (E : XK) : Prop := ∀ (pins : List (Addr × Obj)) (σ : St) (H : Hp) (s : Shared) (e : Value) (s' : Shared), Inv X pins σ H s -> CX X.stack H s E e s' -> X.xe e s'
section
variable {X : Cx} {CX : CXT} {k : Nat} {f C : Addr} {fd : FuncData} {ps : List Str} {sp : Sp} {dvs : List V} {ds : List Value} {E : XK} {x m : Str} {p pos apos : Pos} {e o : Expr} {es : List Expr} {ta : TE} {t : TA}
theorem run_fn {pins : List (Addr × Obj)} {σ : St} {H : Hp} {s : Shared} {Q : VK} {us : List Value} {vs : List V} (F : FnOk X.prog X.w X.K X.mg X.base CX k f fd ps sp) (hr : Room k X.A) (hb : Binds X.K fd ps ds) (hd : Vals dvs ds) (hx : Passes CX X E)
    (I : Inv X pins σ H s) (r : Vals vs us) (h : sp (vs ++ dvs) H Q E) : wpAny (model X.prog X.w) X.A (call (.ref f) us) (EP X pins σ Q) X.xe s := by
  have r2 : Vals (vs ++ dvs) (us ++ ds) := r.append hd
  have hl : (us ++ ds).length = ps.length := by rw [<- r2.length]; exact F.len _ _ _ _ h
  refine wpAny_call (codeAny_mono (F.run X.A X.stack s H ⟨us, []⟩ (us ++ ds) (vs ++ dvs) Q E hr I.env0 (hb s us I.kIn hl) r2 h) fun r s' hq => ?_)
  cases r with
  | error e => exact hx pins σ H s e s' I hq
  | ok fl =>
    cases fl with
    | ret u => exact I.after hq
    | next => exact False.elim hq
    | brk => exact False.elim hq
    | cont => exact False.elim hq
theorem pe_call (F : FnOk X.prog X.w X.K X.mg X.base CX k f fd ps sp) (hr : Room k X.A) (hg : Gl X x) (hm : X.mg x = some (.ref f)) (hk : PySem.W.keepIn X.K (.ref f) = true) (hb : Binds X.K fd ps ds) (hd : Vals dvs ds) (hx : Passes CX X E)
  (ha : PA X (e :: es) t) (hdb : (x == ("__debug__" : Str)) = false := by decide) (he : starEach (e :: es) X.env = (false, eval e X.env) :: starEach es X.env := by rfl) (hpl : (backTo pos (starEach es X.env)).any (·.1) = false := by rfl) :
  PE X (.Call (.Name x p) (e :: es) [] pos) (tCall sp dvs E t) := by
 intro pins s σ H Q I h
 refine wpAny_Call_Name_kw (ld_glob I hg hm ?_ hdb)
 refine PySem.W.callWith_K (h₀ := X.base) I.ok.mod.kin hk (thn (ha pos pins s σ H _ I h) fun us s1 ⟨vs, H1, I1, r, q⟩ => ⟨I1.kIn, ?_⟩) he hpl
 exact run_fn F hr hb hd hx I1 r q
end
structure FnScope (N P : List Str) (sc : Scope) : Prop where
 kind : sc.kind = .function
 co : sc.isCoroutine = false
 gen : sc.isGenerator = false
 nd : N.Nodup
 pre : N.take P.length = P
 par : ∀ x ∈ P, sc.names.lookup x = some .local \/ sc.names.lookup x = some .cell
 nofree : ∀ y ∈ sc.names, y.2 ≠ .free
theorem bindL_out {kindOf : Str -> Option NameKind} {x : Str} : ∀ {binds : List (Str × Value)} {m : Str -> Option Value}, (∀ v, (x, v) ∉ binds) -> bindL kindOf binds m x = m x
  | [], _, _ => rfl
  | (n, v) :: r, m, h => by
    unfold bindL
    rw [bindL_out fun w hw => h w (zq20x _ hw)]
    split
    · have : x ≠ n := by rintro rfl; exact h v zq14x
      simp [this]
    · rfl
theorem bindC_out {kindOf : Str -> Option NameKind} {x : Str} : ∀ {binds : List (Str × Value)} {m : Str -> Option Value}, (∀ v, (x, v) ∉ binds) -> bindC kindOf binds m x = m x
  | [], _, _ => rfl
  | (n, v) :: r, m, h => by
    unfold bindC
    rw [bindC_out fun w hw => h w (zq20x _ hw)]
    split
    · rfl
    · have : x ≠ n := by rintro rfl; exact h v zq14x
      simp [this]
theorem bindL_get {kindOf : Str -> Option NameKind} {x : Str} {v : Value} : ∀ {P : List Str} {vs : List Value} {i : Nat} {m : Str -> Option Value}, P.Nodup -> P[i]? = some x -> vs[i]? = some v -> kindOf x = some .local ->
    bindL kindOf (P.zip vs) m x = some v
  | [], _, _, _, _, h, _, _ => by simp at h
  | _ :: _, [], _, _, _, _, h, _ => by simp at h
  | p :: P, w :: vs, 0, m, nd, h1, h2, hk => by
    simp at h1 h2; subst h1; subst h2
    show bindL kindOf ((p, w) :: P.zip vs) m p = _
    unfold bindL
    rw [bindL_out fun v hv => (zq33x.mp nd).1 (zq123x hv).1, if_pos hk]
    simp
  | p :: P, w :: vs, i + 1, m, nd, h1, h2, hk => by
    show bindL kindOf ((p, w) :: P.zip vs) m x = _
    unfold bindL
    exact bindL_get (i := i) (zq33x.mp nd).2 (by simpa using h1) (by simpa using h2) hk
theorem bindC_get {kindOf : Str -> Option NameKind} {x : Str} {v : Value} : ∀ {P : List Str} {vs : List Value} {i : Nat} {m : Str -> Option Value}, P.Nodup -> P[i]? = some x -> vs[i]? = some v -> kindOf x ≠ some .local ->
    bindC kindOf (P.zip vs) m x = some v
  | [], _, _, _, _, h, _, _ => by simp at h
  | _ :: _, [], _, _, _, _, h, _ => by simp at h
  | p :: P, w :: vs, 0, m, nd, h1, h2, hk => by
    simp at h1 h2; subst h1; subst h2
    show bindC kindOf ((p, w) :: P.zip vs) m p = _
    unfold bindC
    rw [bindC_out fun v hv => (zq33x.mp nd).1 (zq123x hv).1, if_neg hk]
    simp
  | p :: P, w :: vs, i + 1, m, nd, h1, h2, hk => by
    show bindC kindOf ((p, w) :: P.zip vs) m x = _
    unfold bindC
    exact bindC_get (i := i) (zq33x.mp nd).2 (by simpa using h1) (by simpa using h2) hk
def start (N : List Str) (vs : List V) : St := vs.map some ++ List.replicate (N.length - vs.length) none
def cxOf (CX : CXT) (P : Program) (w : World) (K : PySem.W.Frag) (mg : Str -> Option Value) (base : Heap) (N : List Str) (qual : Str) (scope : Scope) (f : Addr) (cd : Value) (A : Around) (outer : List Env) (s : Shared) (H : Hp) (E : XK) : Cx where
 prog := P
 w := w
 K := K
 mg := mg
 base := base
 A := A.deeper (envOfC qual scope s.heap.objs.size f cd)
 N := N
 s₀ := s
 H₀ := H
 env := envOfC qual scope s.heap.objs.size f cd
 outer := outer
 stack := envOfC qual scope s.heap.objs.size f cd :: outer
 ex := []
 calm := true
 fn := fun _ => true
 pn := []
 xe := fun e s' => wpAny (model P w) (A.deeper (envOfC qual scope s.heap.objs.size f cd)) (leaving (envOfC qual scope s.heap.objs.size f cd) e) (fun _ s'' => CX outer H s E e s'') (fun e' s'' => CX outer H s E e' s'') s'
theorem cell_has {sc : Scope} {n : Nat} {x : Str} (h : sc.names.lookup x = some .cell) : ∃ c, (cellsFrom n sc.names []).lookup x = some c := by
 have q := zq157x sc.names n [] (.inl h)
 exact zq158x.mp q
theorem inv_start {CX : CXT} {P : Program} {w : World} {K : PySem.W.Frag} {mg : Str -> Option Value} {base : Heap} {N ps : List Str} {qual : Str} {scope : Scope} {f : Addr} {cd : Value} {A : Around} {outer : List Env} {s s1 : Shared} {H : Hp} {E : XK} {us : List Value} {vs : List V}
  (S : FnScope N ps scope) (hd : A.handled = none) (e0 : Env0 P w K mg base A outer s H) (hl : vs.length = ps.length) (r : Vals vs us)
  (x : InCallC s s.heap.objs.size (bindL (envOfC qual scope s.heap.objs.size f cd).kindOf (ps.zip us) fun _ => none) (cellsFrom (s.heap.objs.size + 1) scope.names []) (bindC (envOfC qual scope s.heap.objs.size f cd).kindOf (ps.zip us) fun _ => none) s1) :
  Inv (cxOf CX P w K mg base N qual scope f cd A outer s H E) [] (start N vs) H s1 := by
 have hpl : ps.length <= N.length := by have := congrArg List.length S.pre; rw [zq49x] at this; omega
 obtain ⟨h1, tk, rfl, hk⟩ := x.done
 have noA : ∀ b : Addr, b ∉ (cxOf CX P w K mg base N qual scope f cd A outer s H E).ex := fun b z => absurd (show b ∈ ([] : List Addr) from z) (by simp)
 refine ⟨⟨e0.mod, S.kind, rfl, rfl, zq1x _, fun y z c h1 h2 => ?_, fun y hy => ?_, fun y c _ h => ?_, fun _ => hd, Around.frames_deeper e0.frames, .inr ⟨rfl, rfl⟩, fun b z => absurd z (noA b), e0.bs, e0.bsz, fun b _ _ => noA b, fun b z => absurd z (noA b), e0.funs, e0.frf⟩,
  rfl, e0.bare, Un.kept hk, ⟨_, x.toInCall.ns, fun i y v h1 h2 h3 => ?_⟩, fun y c h => ⟨_, x.cell y c h⟩, e0.hok.fresh (zq1x _), fun y c h => ?_, fun p hp => absurd (show p ∈ ([] : List (Addr × Obj)) from hp) (by simp), e0.hok.kept hk, ?_⟩
 ·exact name_of_addr x.apart (zq76x h1) (zq76x h2)
 ·have hy : scope.names.lookup y = some .cell \/ scope.names.lookup y = some .free := hy
  rcases hy with hy | hy
  ·exact cell_has hy
  ·exact absurd rfl (S.nofree _ (zq76x hy))
 ·exact zq66x (x.above y c (zq76x h))
 ·have hi : i < vs.length := by
   unfold start at h2
   by_cases hi : i < vs.length
   ·exact hi
   ·rw [zq30x (by simpa using hi)] at h2
    rw [zq37x] at h2
    split at h2 <;> cases h2
  have ha : vs[i]? = some v := by
   unfold start at h2
   rw [zq31x (by simpa using hi), zq19x] at h2
   cases e : vs[i]? with
   | none => rw [e] at h2; cases h2
   | some a => rw [e] at h2; cases h2; rfl
  obtain ⟨u, hu, rv⟩ := r.get ha
  have hp : ps[i]? = some y := by
   rw [<- S.pre, List.getElem?_take_of_lt (by omega)]; exact h1
  have ndP : ps.Nodup := by rw [<- S.pre]; exact S.nd.sublist (List.take_sublist _ _)
  refine ⟨u, rv, ?_⟩
  rcases S.par y (zq27x hp) with k | k
  ·exact .inl ⟨k, bindL_get ndP hp hu k⟩
  ·obtain ⟨c, e⟩ := cell_has (n := s.heap.objs.size + 1) k
   refine .inr ⟨.inl k, c, e, ?_⟩
   have q := x.cell y c e
   rw [bindC_get ndP hp hu (by show scope.names.lookup y ≠ _; rw [k]; decide)] at q
   exact q
 ·exact e0.hok.fresh (zq66x (x.above y c (zq76x h)))
 ·unfold start
  show _ = N.length
  rw [zq26x, zq0x, List.length_replicate]
  omega
theorem fn_of {CX : CXT} {P : Program} {w : World} {K : PySem.W.Frag} {mg : Str -> Option Value} {base : Heap} {k : Nat} {f : Addr} {name qual : Str} {params : Arguments} {body : List Stmt} {scope : Scope} {dV kV doc pm cdv ct oc : Value} {an od : Option Addr}
    {osl : Array (Option Value)} {N ps : List Str} {sp : Sp} (lk : K.lookup f = some ⟨oc, od, .func (PySem.W.fnOf name qual params body scope dV kV doc pm an cdv ct), osl⟩) (hcd : PySem.W.codeIn K cdv qual = true) (S : FnScope N ps scope)
    (len : ∀ vs H Q E, sp vs H Q E -> vs.length = ps.length)
    (hbody : ∀ (A : Around) (outer : List Env) (s : Shared) (H : Hp) (vs : List V) (Q : VK) (E : XK), Room k (A.deeper (envOfC qual scope s.heap.objs.size f cdv)) -> sp vs H Q E ->
      ∃ t, PSs (cxOf CX P w K mg base N qual scope f cdv A outer s H E) body t /\ t { nx := fun _ H' => Q .non H', rt := Q } (start N vs) H) :
    FnOk P w K mg base CX (k + 1) f (PySem.W.fnOf name qual params body scope dV kV doc pm an cdv ct) ps sp := by
  refine ⟨len, fun A outer s H args us vs Q E hr e0 hb r hsp => ?_⟩
  have hl := len _ _ _ _ hsp
  have KX : K.In s.heap := e0.mod.kin.keeps fun b o e => (e0.bs b o e).1
  have lim : s.heap.NoLimit := e0.mod.nolimit.keeps fun b o e => (e0.bs b o e).1
  have hkind : ∀ y ∈ ps.zip us, scope.names.lookup y.1 = some .local \/ (scope.names.lookup y.1 = some .cell /\ ((cellsFrom (s.heap.objs.size + 1) scope.names []).lookup y.1).isSome = true) := fun ⟨n, v⟩ hy => by
    rcases S.par n (zq123x hy).1 with q | q
    · exact .inl q
    · exact .inr ⟨q, zq157x _ _ _ (.inl q)⟩
  refine codeAny_call_function hr.depth (KX _ _ lk) rfl S.co S.gen rfl (PySem.W.codeRec_of KX hcd) (hb _ _ _ _ ?_)
  refine wpAny_newFunctionEnv_cells S.kind hkind fun env he s1 x => ?_
  subst he
  refine ⟨lim.keeps x.toInCall.keep, codeAny_func ?_⟩
  obtain ⟨t, ht, hq⟩ := hbody A outer s H vs Q E (hr.deeper _) hsp
  have I : Inv (cxOf CX P w K mg base N qual scope f cdv A outer s H E) [] (start N vs) H s1 := inv_start S hr.hd e0 hl r x
  refine wpAny_mono (ht [] s1 (start N vs) H _ I hq) (fun fl s' hs => ?_) fun e s' hs => hs
  have fin : ∀ {σ' : St} {H' : Hp} {v : V} {u : Value}, Inv (cxOf CX P w K mg base N qual scope f cdv A outer s H E) [] σ' H' s' -> RelV v u -> Q v H' -> CE outer P w H s Q u s' :=
    fun {σ' H' v u} J rv q => ⟨v, H', J.os, J.bare, J.base, J.hok, rv, q⟩
  cases fl with
  | ret u =>
    obtain ⟨v, σ', H', J, rv, q⟩ := hs
    exact fin J rv q
  | next =>
    obtain ⟨σ', H', J, q⟩ := hs
    exact fin (v := V.non) (u := Value.none) J rfl q
  | brk =>
    obtain ⟨_, _, _, q⟩ := hs
    exact False.elim q
  | cont =>
    obtain ⟨_, _, _, q⟩ := hs
    exact False.elim q
section
variable {X : Cx} {x : Str} {p pos : Pos} {e : Expr} {es : List Expr} {t : TA} {id T : String} {r : List V -> Hp -> VK -> Prop}
def tCB (r : List V -> Hp -> VK -> Prop) (t : TA) : TE := fun σ H Q => t σ H fun vs H1 => r vs H1 Q
theorem pe_callB (hc : CallR X (.builtin id) r) (hg : Gl X x) (hm : X.mg x = none) (hv : bootBuiltins x = some (.builtin id)) (ha : PA X (e :: es) t) (hn : x ≠ "__name__" := by decide) (hdb : (x == ("__debug__" : Str)) = false := by decide)
  (he : starEach (e :: es) X.env = (false, eval e X.env) :: starEach es X.env := by rfl) (hpl : (backTo pos (starEach es X.env)).any (·.1) = false := by rfl) : PE X (.Call (.Name x p) (e :: es) [] pos) (tCB r t) := by
 intro pins s σ H Q I h
 refine wpAny_Call_Name_kw (ld_blt I hg hm hv ?_ hn hdb)
 exact PyProof.Rows.callWith_builtin1 (thn (ha pos pins s σ H _ I h) fun us s1 ⟨vs, H1, I1, r1, q1⟩ => hc pins s1 σ H1 vs us Q I1 r1 q1) he hpl
theorem pe_callTy (hc : CallR X (.type T) r) (hg : Gl X x) (hm : X.mg x = none) (hv : bootBuiltins x = some (.type T)) (ha : PA X (e :: es) t) (hn : x ≠ "__name__" := by decide) (hdb : (x == ("__debug__" : Str)) = false := by decide)
  (he : starEach (e :: es) X.env = (false, eval e X.env) :: starEach es X.env := by rfl) (hpl : (backTo pos (starEach es X.env)).any (·.1) = false := by rfl) : PE X (.Call (.Name x p) (e :: es) [] pos) (tCB r t) := by
 intro pins s σ H Q I h
 refine wpAny_Call_Name_kw (ld_blt I hg hm hv ?_ hn hdb)
 exact zq120x (thn (ha pos pins s σ H _ I h) fun us s1 ⟨vs, H1, I1, r1, q1⟩ => hc pins s1 σ H1 vs us Q I1 r1 q1) he hpl
end
end L2
namespace HT
open PySem PyProof.Rows
section
open PySem.SeqAt
open PySem.AutoSeq1 (wpAny_loadPart')
open PySem.MeetsSeq PySem.MeetsSeq2 PySem.MeetsSeq3
end
section
variable {prog : Program} {w : World} {A : Around} {E : Value -> Shared -> Prop} {s : Shared}
def sIx (n d : Nat) : Option Int -> Nat
 | none => d
 | some v => if v < 0 then (v + (n : Int)).toNat else min v.toNat n
theorem sIx_none (n d : Nat) : sIx n d none = d := rfl
end
end HT
namespace L2
open PySem PySem.Spec PyProof.Rows
abbrev TO := St -> Hp -> (Option Int -> Hp -> Prop) -> Prop
def PO (X : Cx) (e : Option Expr) (t : TO) : Prop :=
 ∀ (pins : List (Addr × Obj)) (s : Shared) (σ : St) (H : Hp) (Q : Option Int -> Hp -> Prop), Inv X pins σ H s -> t σ H Q ->
  wpAny (model X.prog X.w) X.A (evalPart e X.env) (fun u s' => ∃ o H', Inv X pins σ H' s' /\ IsPart u o /\ Q o H') X.xe s
def tNoPart : TO := fun _ H Q => Q none H
def tPart (t : TE) : TO := fun σ H Q => t σ H fun x H1 => ∃ i, x = .int i /\ Q (some i) H1
section
variable {X : Cx} {e : Expr} {te : TE} {lo hi : Option Expr} {tl th : TO} {pos p2 : Pos}
theorem po_none : PO X none tNoPart := by
 intro pins s σ H Q I h
 rw [evalPart_none]
 exact wpAny_pure ⟨none, H, I, .none, h⟩
theorem po_some (h : PE X e te) : PO X (some e) (tPart te) := by
 intro pins s σ H Q I hw
 rw [evalPart_some]
 refine thn (h pins s σ H _ I hw) fun u s1 ⟨x, H1, I1, r1, q1⟩ => ?_
 obtain ⟨i, rfl, q⟩ := q1
 obtain ⟨t, rfl⟩ := r1
 exact ⟨some i, H1, I1, .int i t, q⟩
def SlR (X : Cx) (r : V -> Option Int -> Option Int -> Hp -> VK -> Prop) : Prop :=
 ∀ (pins : List (Addr × Obj)) (s : Shared) (σ : St) (H : Hp) (x : V) (v vl vu : Value) (lo hi : Option Int) (sl : Addr) (Q : VK), Inv X pins σ H s -> RelV x v -> s.heap.IsSliceOf sl vl vu .none -> IsPart vl lo -> IsPart vu hi -> r x lo hi H Q ->
  ∃ T id, typeLookup (.type T) "__getitem__" = pure (some (.builtin id)) /\ s.TypeIs v T /\ wpAny (model X.prog X.w) X.A (getItem v (.ref sl)) (EP X pins σ Q) X.xe s
def tSl (r : V -> Option Int -> Option Int -> Hp -> VK -> Prop) (te : TE) (tl th : TO) : TE := fun σ H Q => te σ H fun x H1 => tl σ H1 fun l H2 => th σ H2 fun u H3 => r x l u H3 Q
theorem pe_slice {r : V -> Option Int -> Option Int -> Hp -> VK -> Prop} (hr : SlR X r) (he : PE X e te) (hl : PO X lo tl) (hu : PO X hi th) : PE X (.Subscript e (.Slice lo hi none p2) pos) (tSl r te tl th) := by
 intro pins s σ H Q I h
 refine Subscript_ (thn (he pins s σ H _ I h) fun v s1 ⟨x, H1, I1, r1, q1⟩ => ?_)
 refine wpAny_Slice (thn (hl pins s1 σ H1 _ I1 q1) fun vl s2 ⟨l, H2, I2, pl, q2⟩ => thn (hu pins s2 σ H2 _ I2 q2) fun vu s3 ⟨u, H3, I3, pu, q3⟩ => ?_)
 rw [evalPart_none]
 refine wpAny_pure ?_
 have I4 : Inv X pins σ H3 { s3 with heap := s3.heap.push { cls := .type "slice", data := .fields #[vl, vu, .none] } } := I3.kept (t' := s3.toks) fun b ob q => zq9x _ q
 obtain ⟨T, id, hT, ht, hg⟩ := hr pins { s3 with heap := s3.heap.push { cls := .type "slice", data := .fields #[vl, vu, .none] } } σ H3 x v vl vu l u s3.heap.objs.size Q I4 r1 (Heap.IsSliceOf.new ..) pl pu q3
 show wpAny (model X.prog X.w) X.A (subscriptTail e (.Slice lo hi none p2) v (.ref s3.heap.objs.size)) (EP X pins σ Q) X.xe { s3 with heap := s3.heap.push { cls := .type "slice", data := .fields #[vl, vu, .none] } }
 exact tail_any (ops := [.ref s3.heap.objs.size, v]) ht hT hg (by with_unfolding_all rfl)
def cutV (xs : List V) (lo hi : Option Int) : List V := (xs.drop (HT.sIx xs.length 0 lo)).take (HT.sIx xs.length xs.length hi - HT.sIx xs.length 0 lo)
theorem cutV_length (xs : List V) (lo hi : Option Int) : (cutV xs lo hi).length <= xs.length := by
 unfold cutV
 rw [zq49x, zq86x]
 omega
def rSlT (K : PySem.W.Frag) : V -> Option Int -> Option Int -> Hp -> VK -> Prop := fun x lo hi H Q => ∃ a xs, x = .ref a /\ SqT K H a xs /\
 ¬ (HT.sIx xs.length 0 lo = 0 /\ HT.sIx xs.length xs.length hi = xs.length) /\ ∀ p, H p = none -> Q (.ref p) (upd H p (.tup (cutV xs lo hi)))
def rCatT (K : PySem.W.Frag) : R2 := fun x y H Q => ∃ a b xs ys, x = .ref a /\ y = .ref b /\ SqT K H a xs /\ SqT K H b ys /\ xs ≠ [] /\ xs.length + ys.length <= sizeLine /\
 (ys = [] -> Q (.ref a) H) /\ (ys ≠ [] -> ∀ p, H p = none -> Q (.ref p) (upd H p (.tup (xs ++ ys))))
end
def ixN (n : Nat) (i : Int) : Option Nat := if 0 <= i then (if i < n then some i.toNat else none) else if -(n : Int) <= i then some (i + n).toNat else none
def atI {α : Type} (xs : List α) (i : Int) : Option α := (ixN xs.length i).bind fun j => xs[j]?
theorem ixN_seq {n : Nat} {i : Int} {j : Nat} (h : ixN n i = some j) : seqIndex? i n = some j /\ j < n /\ -(n : Int) <= i /\ i < n := by
 unfold ixN at h
 by_cases h0 : 0 <= i
 ·rw [if_pos h0] at h
  by_cases h1 : i < n
  ·rw [if_pos h1] at h
   have e : i.toNat = j := zq39x h
   exact ⟨by rw [seqIndex_of h0 h1, e], by omega, by omega, h1⟩
  ·rw [if_neg h1] at h; cases h
 ·rw [if_neg h0] at h
  by_cases h1 : -(n : Int) <= i
  ·rw [if_pos h1] at h
   have e : (i + n).toNat = j := zq39x h
   exact ⟨by rw [seqIndex_neg (by omega) h1, e], by omega, h1, by omega⟩
  ·rw [if_neg h1] at h; cases h
theorem atI_get {α : Type} {xs : List α} {i : Int} {v : α} (h : atI xs i = some v) : ∃ j, seqIndex? i xs.length = some j /\ xs[j]? = some v /\ j < xs.length /\ -(xs.length : Int) <= i /\ i < xs.length := by
  unfold atI at h
  cases e : ixN xs.length i with
  | none => rw [e] at h; cases h
  | some j =>
    rw [e] at h
    obtain ⟨h1, h2, h3, h4⟩ := ixN_seq e
    exact ⟨j, h1, h, h2, h3, h4⟩
theorem atI_nat {α : Type} {xs : List α} {j : Nat} {v : α} (h : xs[j]? = some v) : atI xs (j : Int) = some v := by
 have hj : j < xs.length := (zq8x.mp h).1
 have e : ixN xs.length (j : Int) = some j := by
  unfold ixN
  rw [if_pos (by omega), if_pos (by omega)]; simp
 unfold atI; rw [e]; exact h
def PlainIx (b : Expr) : Prop := ∀ o i, subscripted b false o i = operate [o, i] (getItem o i)
def IxR (X : Cx) (r : R2) : Prop :=
 ∀ (value slice : Expr) (pins : List (Addr × Obj)) (s : Shared) (σ : St) (H : Hp) (x y : V) (v u : Value) (Q : VK), Inv X pins σ H s -> RelV x v -> RelV y u -> r x y H Q ->
  subscripted slice false v u = operate [v, u] (getItem v u) -> wpAny (model X.prog X.w) X.A (subscriptTail value slice v u) (EP X pins σ Q) X.xe s
def MtR (X : Cx) (id : String) (r : V -> List V -> Hp -> VK -> Prop) : Prop :=
 ∀ (pins : List (Addr × Obj)) (s : Shared) (σ : St) (H : Hp) (x : V) (xs : List V) (v : Value) (us : List Value) (Q : VK), Inv X pins σ H s -> RelV x v -> Vals xs us -> r x xs H Q ->
  wpAny (model X.prog X.w) X.A (call (.builtin id) (v :: us)) (EP X pins σ Q) X.xe s
section
variable {X : Cx} {a b : Expr} {ta tb : TE} {pos : Pos}
theorem IxR.or {r r' : R2} (h : IxR X r) (h' : IxR X r') : IxR X (fun x y H Q => r x y H Q \/ r' x y H Q) := by
 intro value slice pins s σ H x y v u Q I rx ry q hs
 rcases q with q | q
 ·exact h value slice pins s σ H x y v u Q I rx ry q hs
 ·exact h' value slice pins s σ H x y v u Q I rx ry q hs
theorem pe_ix {r : R2} (hr : IxR X r) (ha : PE X a ta) (hb : PE X b tb) (hs : PlainIx b) : PE X (.Subscript a b pos) (tOp r ta tb) := by
 intro pins s σ H Q I h
 exact Subscript_ (binT ha hb I h fun v u s2 x y H2 I2 rx ry q => hr a b pins s2 σ H2 x y v u Q I2 rx ry q (hs _ _))
def rIxL (K : PySem.W.Frag) : R2 := fun x y H Q => ∃ p xs i v, x = .ref p /\ y = .int i /\ SqL K H p xs /\ atI xs i = some v /\ Q v H
def rIxT (K : PySem.W.Frag) : R2 := fun x y H Q => ∃ p xs i v, x = .ref p /\ y = .int i /\ SqT K H p xs /\ atI xs i = some v /\ Q v H
def rIxS : R2 := fun x y H Q => ∃ z i c, x = .str z /\ y = .int i /\ z.length <= sizeLine /\ atI z.cps.toList i = some c /\ Q (.str ⟨#[c]⟩) H
theorem ix_list : IxR X (rIxL X.K) := by
 intro value slice pins s σ H x y v u Q I rx ry h hs
 obtain ⟨p, xs, i, z, rfl, rfl, hq, he, q⟩ := h
 cases rx
 obtain ⟨t, rfl⟩ := ry
 obtain ⟨its, r, pl, hz⟩ := I.list hq
 obtain ⟨j, h1, h2, h3, h4, h5⟩ := atI_get he
 obtain ⟨w, ew, rw'⟩ := r.get h2
 have hl := r.length
 have hn := line63
 have fin : EP X pins σ Q w s := ⟨z, H, I, rw', q⟩
 by_cases h0 : 0 <= i
 ·have hj : i.toNat = j := by
   rw [seqIndex_of h0 h5] at h1
   exact zq39x h1
  exact item_listR pl.isList h0 (by omega) (by rw [hj]; simpa using ew) fin hs
 ·have hj : (i + (its.toArray.size : Int)).toNat = j := by
   rw [seqIndex_neg (by omega) h4] at h1
   rw [zq16x, <- hl]
   exact zq39x h1
  exact subscriptTail_builtinR (x := w) pl.isList.typeIs slot_list_getitem.lookup
   (wpAny_getItem_list_neg (Q := fun r s' => r = w /\ EP X pins σ Q r s') pl.isList (by omega) (by rw [zq16x] <;> omega) (by omega) (by rw [hj]; simpa using ew) ⟨rfl, fin⟩) hs
theorem ix_tup : IxR X (rIxT X.K) := by
 intro value slice pins s σ H x y v u Q I rx ry h hs
 obtain ⟨p, xs, i, z, rfl, rfl, hq, he, q⟩ := h
 cases rx
 obtain ⟨t, rfl⟩ := ry
 obtain ⟨its, r, pl, hz⟩ := I.tuple hq
 obtain ⟨j, h1, h2, h3, h4, h5⟩ := atI_get he
 obtain ⟨w, ew, rw'⟩ := r.get h2
 have hl := r.length
 have hn := line63
 have fin : EP X pins σ Q w s := ⟨z, H, I, rw', q⟩
 exact subscriptTail_builtinR (x := w) pl.typeIs slot_tuple_getitem.lookup
  (getItem_tuple (j := j) (Q := fun r s' => r = w /\ EP X pins σ Q r s') pl (by omega) (by omega) (by rw [zq16x, <- hl]; exact h1) (by simpa using ew) ⟨rfl, fin⟩) hs
theorem ix_str : IxR X rIxS := by
 intro value slice pins s σ H x y v u Q I rx ry h hs
 obtain ⟨z, i, c, rfl, rfl, hz, he, q⟩ := h
 obtain ⟨t, rfl⟩ := rx
 obtain ⟨t', rfl⟩ := ry
 obtain ⟨j, h1, h2, h3, h4, h5⟩ := atI_get he
 have hl : z.cps.toList.length = z.length := by simp [Str.length]
 rw [hl] at h1 h4 h5
 have hn := line63
 exact tail_any (typeIs_str s z t) slot_str_getitem.lookup (getItem_str (c := c) (by
  have e1 : decide (i < -(2 ^ 63 : Int)) = false := decide_eq_false (by omega)
  have e2 : decide (i ≥ 2 ^ 63) = false := decide_eq_false (by omega)
  rw [e1, e2, zq77x]) (by rw [h1]; simpa using h2) ⟨.str ⟨#[c]⟩, H, I.tok _, ⟨_, rfl⟩, q⟩) hs
def rIx (K : PySem.W.Frag) : R2 := fun x y H Q => rIxL K x y H Q \/ rIxT K x y H Q \/ rIxS x y H Q
theorem ix_seq : IxR X (rIx X.K) := ix_list.or (ix_tup.or ix_str)
theorem mapSeq_set (its : List Value) (n j : Nat) (u : Value) : Obj.mapSeq (·.setIfInBounds j u) { cls := .type "list", data := .seq its.toArray n } = { cls := .type "list", data := .seq (its.set j u).toArray n } := by
 simp [Obj.mapSeq]
theorem Inv.lst {pins : List (Addr × Obj)} {σ : St} {H : Hp} {s : Shared} {p : Addr} {xs : List V} (I : Inv X pins σ H s) (h : H p = some (.lst xs)) :
  ∃ (its : List Value) (n : Nat), Vals xs its /\ s.heap.get? p = some { cls := .type "list", data := .seq its.toArray n } /\ xs.length <= sizeLine := by
 obtain ⟨z, its, n, r, e⟩ := I.hok p _ h
 exact ⟨its, n, r, e, z⟩
theorem Inv.lstUpd {pins : List (Addr × Obj)} {σ : St} {H : Hp} {s : Shared} {p : Addr} {xs ys : List V} {its its' : List Value} {n n' : Nat} {f : Obj -> Obj} (I : Inv X pins σ H s) (h : H p = some (.lst xs))
  (ho : s.heap.get? p = some { cls := .type "list", data := .seq its.toArray n }) (hf : f { cls := .type "list", data := .seq its.toArray n } = { cls := .type "list", data := .seq its'.toArray n' }) (r : Vals ys its') (hz : ys.length <= sizeLine) (t : Nat) :
  Inv X pins σ (upd H p (.lst ys)) { s with heap := s.heap.update p f, toks := t } := by
 have e : (s.heap.update p f).get? p = some { cls := .type "list", data := .seq its'.toArray n' } := by
  rw [zq107x f ho (by rw [hf] <;> rfl), hf]
 refine I.write (x := p) (e := p) (by rw [h]; trivial) (.inl rfl) (fun b u hb q => (zq50x _ _ (zq18x hb)).trans q) ⟨_, e⟩ ?_
 exact ⟨hz, its', n', r, e⟩
def rSetL : V -> V -> V -> Hp -> (Hp -> Prop) -> Prop := fun o i v H Q => ∃ p xs k j, o = .ref p /\ i = .int k /\ H p = some (.lst xs) /\ ixN xs.length k = some j /\ Q (upd H p (.lst (xs.set j v)))
theorem set_list : PSet X rSetL := by
 intro pins s σ H o i v ov iv u Q I ro ri rv h
 obtain ⟨p, xs, k, j, rfl, rfl, hp, hj, q⟩ := h
 cases ro
 obtain ⟨t, rfl⟩ := ri
 obtain ⟨its, n, r, ho, hz⟩ := I.lst hp
 obtain ⟨h1, h2, h3, h4⟩ := ixN_seq hj
 have hl := r.length
 have hn := line63
 have I' : Inv X pins σ (upd H p (.lst (xs.set j v))) { s with heap := s.heap.update p (Obj.mapSeq (·.setIfInBounds j u)) } :=
  I.lstUpd hp ho (mapSeq_set its n j u) (r.set rv j) (by rw [zq38x]; exact hz) s.toks
 by_cases h0 : 0 <= k
 ·have hk : k.toNat = j := by
   rw [seqIndex_of h0 h4] at h1
   exact zq39x h1
  exact PySem.W.ki_setAt ho h0 (by omega) (by rw [zq16x, <- hl]; exact h4) (by rw [hk]; exact ⟨_, I', q⟩)
 ·have hk : (k + (its.toArray.size : Int)).toNat = j := by
   rw [seqIndex_neg (by omega) h3] at h1
   rw [zq16x, <- hl]
   exact zq39x h1
  exact PySem.W.ki_setBack ho (by omega) (by rw [zq16x, <- hl]; exact h3) (by omega) (by rw [hk]; exact ⟨_, I', q⟩)
theorem slice_bounds (lo hi : Option Int) (n : Nat) : (sliceBounds lo hi none n).1 = ((HT.sIx n 0 lo : Nat) : Int) /\ (sliceBounds lo hi none n).2.1 = ((HT.sIx n n hi : Nat) : Int) /\ (sliceBounds lo hi none n).2.2 = 1 := by
  refine ⟨?_, ?_, rfl⟩
  · cases lo with
    | none => simp [sliceBounds, HT.sIx]
    | some i =>
      simp only [sliceBounds, HT.sIx, Option.getD_none, show (1 : Int) > 0 by decide, if_true]
      by_cases h : i < 0
      · simp only [h, if_true] <;> omega
      · simp only [h, if_false] <;> omega
  · cases hi with
    | none => simp [sliceBounds, HT.sIx]
    | some i =>
      simp only [sliceBounds, HT.sIx, Option.getD_none, show (1 : Int) > 0 by decide, if_true]
      by_cases h : i < 0
      · simp only [h, if_true] <;> omega
      · simp only [h, if_false] <;> omega
theorem slicePick_cut (its : List Value) (lo hi : Option Int) : slicePick its.toArray lo hi none = ((its.drop (HT.sIx its.length 0 lo)).take (HT.sIx its.length its.length hi - HT.sIx its.length 0 lo)).toArray := by
 obtain ⟨h1, h2, h3⟩ := slice_bounds lo hi its.toArray.size
 unfold slicePick
 rw [h1, h2, h3]
 simp only [sliceRange_one, pick_run, zq16x] <;> rfl
def rSlL (K : PySem.W.Frag) : V -> Option Int -> Option Int -> Hp -> VK -> Prop := fun x lo hi H Q => ∃ a xs, x = .ref a /\ SqL K H a xs /\ ∀ p, H p = none -> Q (.ref p) (upd H p (.lst (cutV xs lo hi)))
theorem sl_list : SlR X (rSlL X.K) := by
 intro pins s σ H x v vl vu lo hi sl Q I rx hs pl pu h
 obtain ⟨a, xs, rfl, hx, q⟩ := h
 cases rx
 obtain ⟨its, r, ht, hz⟩ := I.list hx
 have hlen := r.length
 refine ⟨"list", _, slot_list_getitem.lookup, ht.isList.typeIs, ?_⟩
 refine wpAny_getItem_list_slice ht.isList hs pl pu .none (by simp) ?_ (by rw [zq16x] <;> omega)
 rw [slicePick_cut, <- hlen]
 refine ⟨.ref s.heap.objs.size, _, I.laid (t' := s.toks) (o := .lst (cutV xs lo hi)) (fun b ob q => zq9x _ q) (zq1x _) ?_, rfl, q _ (I.hok.fresh (zq1x _))⟩
 exact ⟨zq25x (cutV_length xs lo hi) hz, _, 0, (r.drop (HT.sIx xs.length 0 lo)).take (HT.sIx xs.length xs.length hi - HT.sIx xs.length 0 lo), zq29x _ rfl⟩
def flatV : V -> Bool
 | .non => true
 | .bl _ => true
 | .int _ => true
 | .str _ => true
 | _ => false
def eqV : V -> V -> Bool
 | .non, .non => true
 | .bl a, .bl b => a == b
 | .bl a, .int b => (if a then 1 else 0) == b
 | .int a, .bl b => a == (if b then 1 else 0)
 | .int a, .int b => a == b
 | .str a, .str b => a == b
 | _, _ => false
def inV (x : V) (xs : List V) : Bool := xs.any fun y => eqV y x
def rIn (K : PySem.W.Frag) (neg : Bool) : R2 := fun x y H Q => ∃ p xs, y = .ref p /\ (SqL K H p xs \/ SqT K H p xs) /\ flatV x = true /\ xs.all flatV = true /\ Q (.bl (if neg then !inV x xs else inV x xs)) H
theorem call_len_seq : CallR X (.builtin "len") (fun xs H Q => ∃ p ys, xs = [.ref p] /\ (SqL X.K H p ys \/ SqT X.K H p ys) /\ Q (.int ys.length) H) := by
 intro pins s σ H xs us Q I r h
 obtain ⟨p, ys, rfl, hq, q⟩ := h
 obtain ⟨u, rfl, rx⟩ := vals1 r
 cases rx
 have hn := line63
 rcases hq with hq | hq
 ·obtain ⟨its, r', pl, hz⟩ := I.list hq
  have hlen := r'.length
  exact Calls.call_len_list pl.isList (by simp only [zq16x] <;> omega) ⟨.int ys.length, H, I.tok _, ⟨s.toks + 1, by rw [zq16x, hlen]⟩, q⟩
 ·obtain ⟨its, r', pl, hz⟩ := I.tuple hq
  have hlen := r'.length
  exact len_tuple pl (by simp only [zq16x] <;> omega) ⟨.int ys.length, H, I.tok _, ⟨s.toks + 1, by rw [zq16x, hlen]⟩, q⟩
theorem call_len_str : CallR X (.builtin "len") (fun xs H Q => ∃ z, xs = [.str z] /\ z.length <= sizeLine /\ Q (.int z.length) H) := by
 intro pins s σ H xs us Q I r h
 obtain ⟨z, rfl, hz, q⟩ := h
 obtain ⟨u, rfl, t, rfl⟩ := vals1 r
 have hn := line63
 exact len_str (by omega) ⟨.int z.length, H, I.tok _, ⟨_, rfl⟩, q⟩
theorem call_list_of : CallR X (.type "list") (fun xs H Q => ∃ p ys, xs = [.ref p] /\ (SqL X.K H p ys \/ SqT X.K H p ys) /\ ∀ l, H l = none -> Q (.ref l) (upd H l (.lst ys))) := by
 intro pins s σ H xs us Q I r h
 obtain ⟨p, ys, rfl, hq, q⟩ := h
 obtain ⟨u, rfl, rx⟩ := vals1 r
 cases rx
 have fin : ∀ (its : List Value), Vals ys its -> ys.length <= sizeLine -> ∀ (h' : Heap) (c' : Nat), (∀ b o', s.heap.get? b = some o' -> h'.get? b = some o') ->
   h'.get? s.heap.objs.size = some { cls := .type "list", dict := none, data := .seq its.toArray c', slots := #[] } -> EP X pins σ Q (.ref s.heap.objs.size) { s with heap := h' } := fun its r' hz h' c' kp e =>
  ⟨.ref s.heap.objs.size, _, I.laid (t' := s.toks) kp (zq1x _) (show ObjOk X.prog X.w _ h' _ (.lst ys) from ⟨hz, its, c', r', e⟩), rfl, q _ (I.hok.fresh (zq1x _))⟩
 rcases hq with hq | hq
 ·obtain ⟨its, r', pl, hz⟩ := I.list hq
  have hlen := r'.length
  obtain ⟨o, ho, hc, n, hd⟩ := pl.isList
  exact call_list_seq p (.inl rfl) ho hc hd (fun h' c' kp e => fin its r' hz h' c' kp e) (by simp only [zq16x] <;> omega)
 ·obtain ⟨its, r', pl, hz⟩ := I.tuple hq
  have hlen := r'.length
  obtain ⟨o, ho, hc, n, hd⟩ := pl
  exact call_list_seq p (.inr rfl) ho hc hd (fun h' c' kp e => fin its r' hz h' c' kp e) (by simp only [zq16x] <;> omega)
def tyV (K : PySem.W.Frag) (T : String) (x : V) (H : Hp) : Prop := match x with
 | .str _ => T = "str"
 | .int _ => T = "int"
 | .ref p => (T = "list" /\ ∃ xs, SqL K H p xs) \/ (T = "tuple" /\ ∃ o, K.lookup p = some o /\ o.cls = .type "tuple" /\ o.dict = none) \/
   (T = "dict" /\ ((∃ kvs, H p = some (.dK kvs)) \/ (∃ kvs, H p = some (.dT kvs)) \/ ∃ o kvs, H p = some (.frz o (.dK kvs)))) \/ (T = "set" /\ ∃ S n, H p = some (.set S n))
 | _ => False
theorem tyV_is {pins : List (Addr × Obj)} {σ : St} {H : Hp} {s : Shared} {T : String} {x : V} {v : Value} (I : Inv X pins σ H s) (r : RelV x v) (ty : tyV X.K T x H) :
    s.TypeIs v T /\ ∀ a, v = .ref a -> ∃ ob, s.heap.get? a = some ob /\ ob.dict = none := by
  cases x with
  | str z =>
    obtain ⟨t, rfl⟩ := r
    cases (show T = "str" from ty)
    exact ⟨typeIs_str s z t, fun _ e => nomatch e⟩
  | int i =>
    obtain ⟨t, rfl⟩ := r
    cases (show T = "int" from ty)
    exact ⟨typeIs_int s i t, fun _ e => nomatch e⟩
  | ref p =>
    cases r
    rcases ty with ⟨rfl, xs, hq⟩ | ⟨rfl, o, hk, hc, hd⟩ | ⟨rfl, hk⟩ | ⟨rfl, S, n, hk⟩
    · obtain ⟨its, _, pl, _⟩ := I.list hq
      refine ⟨pl.isList.typeIs, fun a e => ?_⟩
      cases e
      obtain ⟨o, n, e, c, hd, _⟩ := pl
      exact ⟨o, e, hd⟩
    · refine ⟨⟨o, I.kIn p o hk, hc⟩, fun a e => ?_⟩
      cases e
      exact ⟨o, I.kIn _ o hk, hd⟩
    · have z : ∃ o, s.heap.get? p = some o /\ o.ExactDict := by
        rcases hk with ⟨kvs, hk⟩ | ⟨kvs, hk⟩ | ⟨ob, kvs, hk⟩
        · obtain ⟨_, _, _, _, o, _, _, e, ex, _⟩ := I.hok p _ hk
          exact ⟨o, e, ex⟩
        · obtain ⟨_, _, _, _, o, _, _, e, ex, _⟩ := I.hok p _ hk
          exact ⟨o, e, ex⟩
        · obtain ⟨_, _, _, _, _, o, _, _, e, ex, _⟩ := I.hok p _ hk
          exact ⟨o, e, ex⟩
      obtain ⟨o, e, ex⟩ := z
      refine ⟨⟨o, e, ex.1⟩, fun a e2 => ?_⟩
      cases e2
      exact ⟨o, e, ex.2.1⟩
    · obtain ⟨o, _, _, _, e, ex, _⟩ := I.hok p _ hk
      refine ⟨⟨o, e, ex.1⟩, fun a e2 => ?_⟩
      cases e2
      exact ⟨o, e, ex.2.1⟩
  | _ => exact False.elim ty
def tBM0 (K : PySem.W.Frag) (T : String) (r : V -> List V -> Hp -> VK -> Prop) (to : TE) : TE := fun σ H Q => to σ H fun x H1 => tyV K T x H1 /\ r x [] H1 Q
def tBM (K : PySem.W.Frag) (T : String) (r : V -> List V -> Hp -> VK -> Prop) (to : TE) (t : TA) : TE := fun σ H Q => to σ H fun x H1 => tyV K T x H1 /\ t σ H1 fun xs H2 => r x xs H2 Q
variable {o e : Expr} {es : List Expr} {to : TE} {t : TA} {name : Str} {apos cpos : Pos} {T id : String} {r : V -> List V -> Hp -> VK -> Prop}
theorem pe_bm0 (pa : PlainAttrs T) (slot : Slot T name id) (hty : typeOf (.builtin id) = pure (.type "method_descriptor")) (hm : MtR X id r) (ho : PE X o to)
  (hbase : attributeBase o name X.env (eval o X.env) = eval o X.env := by rfl) (hline : (apos.endLine == cpos.line) = true := by rfl) : PE X (.Call (.Attribute o name apos) [] [] cpos) (tBM0 X.K T r to) := by
 intro pins s σ H Q I h
 refine wpAny_Call_method0_late hbase hline (thn (ho pins s σ H _ I h) fun v s1 ⟨x, H1, I1, r1, ty, q1⟩ => ?_)
 obtain ⟨h1, h2⟩ := tyV_is I1 r1 ty
 exact ⟨T, id, pa, slot, hty, h1, h2, Calls.callWith_builtin rfl (PySem.evalArgs_none (hm pins s1 σ H1 x [] v [] Q I1 r1 .nil q1))⟩
theorem pe_bm (pa : PlainAttrs T) (slot : Slot T name id) (hty : typeOf (.builtin id) = pure (.type "method_descriptor")) (hm : MtR X id r) (ho : PE X o to) (ha : PA X (e :: es) t)
  (hbase : attributeBase o name X.env (eval o X.env) = eval o X.env := by rfl)
  (hfew : ((backTo cpos (starEach (e :: es) X.env)).all (fun x => !x.1) && (backToKw cpos (keywordEach [] X.env)).all (fun x => x.1.isSome)
   && decide ((e :: es).length + ([] : List Keyword).length + (if ([] : List Keyword).isEmpty then 0 else 1) < 30)) = true := by rfl)
  (hline : (apos.endLine == cpos.line) = true := by rfl) (hs : starEach (e :: es) X.env = (false, eval e X.env) :: starEach es X.env := by rfl) (hplain : (backTo cpos (starEach es X.env)).any (·.1) = false := by rfl) :
  PE X (.Call (.Attribute o name apos) (e :: es) [] cpos) (tBM X.K T r to t) := by
 intro pins s σ H Q I h
 refine wpAny_Call_method_late hbase hfew hline rfl (thn (ho pins s σ H _ I h) fun v s1 ⟨x, H1, I1, r1, ty, q1⟩ => ?_)
 obtain ⟨h1, h2⟩ := tyV_is I1 r1 ty
 refine ⟨T, id, pa, slot, hty, h1, h2, ?_⟩
 have hA := ha cpos pins s1 σ H1 _ I1 q1
 rw [hs] at hA ⊢
 refine Calls.callWith_builtin (by show (false || (backTo cpos (starEach es X.env)).any (·.1)) = false; rw [hplain] <;> rfl) (Calls.evalArgs_plain ?_)
 exact thn hA fun us s2 ⟨vs, H2, I2, r2, q2⟩ => hm pins s2 σ H2 x vs v us Q I2 r1 r2 q2
/- xs.append(e), list.index on a module's tuple .. are MtR facts of 06m -/
end
def MtM (X : Cx) (id : String) (r : V -> List V -> Hp -> VK -> Prop) : Prop :=
 ∀ (pins : List (Addr × Obj)) (s : Shared) (σ : St) (H : Hp) (x : V) (xs : List V) (v : Value) (us : List Value) (Q : VK), Inv X pins σ H s -> RelV x v -> Vals xs us -> r x xs H Q ->
  wpAny (model X.prog X.w) X.A (call (.builtin id) (v :: us)) (EP X pins σ Q) X.xe s
theorem Vals.one {x : V} {us : List Value} (h : Vals [x] us) : ∃ u, us = [u] /\ RelV x u := by
 cases h with
 | cons r t => cases t; exact ⟨_, rfl, r⟩
theorem Vals.two {x y : V} {us : List Value} (h : Vals [x, y] us) : ∃ u v, us = [u, v] /\ RelV x u /\ RelV y v := by
  cases h with
  | cons r t =>
    obtain ⟨v, e, q⟩ := Vals.one t
    exact ⟨_, v, by rw [e], r, q⟩
theorem Vals.dropLast {xs : List V} {us : List Value} (h : Vals xs us) : Vals xs.dropLast us.dropLast := by
  induction h with
  | nil => exact .nil
  | cons r t ih =>
    cases t with
    | nil => exact .nil
    | cons q t' => exact .cons r ih
section
variable {X : Cx} {pins : List (Addr × Obj)} {σ : St} {H : Hp} {s : Shared} {l b : Addr} {xs ys zs : List V}
theorem Inv.lset {its its' : List Value} {n : Nat} {f : Array Value -> Array Value} {t' : Nat} (I : Inv X pins σ H s) (hH : H l = some (.lst xs))
  (e : s.heap.get? l = some { cls := .type "list", data := .seq its.toArray n }) (hf : f its.toArray = its'.toArray) (hv : Vals ys its') (hz : ys.length <= sizeLine) :
  Inv X pins σ (upd H l (.lst ys)) { s with heap := s.heap.update l (Obj.mapSeq f), toks := t' } := by
 have q := PySem.IsL.update e f
 rw [hf] at q
 refine I.write (x := l) (e := l) (by rw [hH]; exact trivial) (.inl rfl) (fun b' u hb hu => (zq50x s.heap (Obj.mapSeq f) (zq18x hb)).trans hu) ⟨_, q⟩ ?_
 exact ⟨hz, its', _, hv, q⟩
theorem Inv.lnew {its : List Value} {t' : Nat} (I : Inv X pins σ H s) (hv : Vals ys its) (hz : ys.length <= sizeLine) :
  Inv X pins σ (upd H s.heap.objs.size (.lst ys)) { s with heap := s.heap.push { cls := .type "list", data := .seq its.toArray }, toks := t' } :=
 I.laid (fun _ _ q => zq9x _ q) (zq1x _) ⟨hz, its, 0, hv, zq29x _ rfl⟩
theorem Inv.fresh (I : Inv X pins σ H s) : H s.heap.objs.size = none := I.hok.fresh (zq1x _)
theorem Inv.lstM (I : Inv X pins σ H s) (hH : H l = some (.lst xs)) : xs.length <= sizeLine /\ ∃ (its : List Value) (n : Nat), Vals xs its /\ xs.length = its.length /\ s.heap.get? l = some { cls := .type "list", data := .seq its.toArray n } := by
 obtain ⟨z, its, n, r, e⟩ := I.hok l _ hH
 exact ⟨z, its, n, r, r.length, e⟩
theorem notLongL {n : Nat} (h : n <= sizeLine) : Builtin.List.listTooLong n = false := by
 unfold Builtin.List.listTooLong
 exact decide_eq_false (by omega)
end
section
variable {X : Cx}
def rAppend : V -> List V -> Hp -> VK -> Prop := fun x vs H Q => ∃ l xs y, x = .ref l /\ vs = [y] /\ H l = some (.lst xs) /\ xs.length < sizeLine /\ Q .non (upd H l (.lst (xs ++ [y])))
theorem mt_append : MtM X "list.append" rAppend := by
 intro pins s σ H x vs v us Q I rx rv h
 obtain ⟨l, xs, y, rfl, rfl, hH, hz, q⟩ := h
 cases rx
 obtain ⟨u, rfl, ru⟩ := rv.one
 obtain ⟨z, its, n, r, hl, e⟩ := I.lstM hH
 refine call_meets F.slot_list_append ⟨_, e, rfl⟩ F.entry_list_append (F.args_list_append_2 _ _) (PySem.list_append l its.toArray n u (by rw [zq16x]; omega)) ⟨e, ?_⟩
 refine ⟨.non, _, I.lset (its' := its ++ [u]) hH e (by simp) (r.append (.cons ru .nil)) ?_, rfl, q⟩
 rw [zq26x, zq67x]
 omega
def rExtend : V -> List V -> Hp -> VK -> Prop := fun x vs H Q => ∃ l b xs zs, x = .ref l /\ vs = [.ref b] /\ H l = some (.lst xs) /\ H b = some (.lst zs) /\ xs.length + zs.length <= sizeLine /\ Q .non (upd H l (.lst (xs ++ zs)))
theorem mt_extend : MtM X "list.extend" rExtend := by
 intro pins s σ H x vs v us Q I rx rv h
 obtain ⟨l, b, xs, zs, rfl, rfl, hH, hB, hz, q⟩ := h
 cases rx
 obtain ⟨u, rfl, ru⟩ := rv.one
 cases ru
 obtain ⟨z, its, n, r, hl, e⟩ := I.lstM hH
 obtain ⟨z2, its2, n2, r2, hl2, e2⟩ := I.lstM hB
 have hsz : its.toArray.size + its2.toArray.size <= sizeLine := by rw [zq16x, zq16x]; omega
 have hlong : ¬ (!its.toArray.isEmpty && Builtin.List.listTooLong (its.toArray.size + its2.toArray.size)) = true := by
  rw [notLongL hsz, Bool.and_false]
  exact zq15x
 refine call_meets F.slot_list_extend ⟨_, e, rfl⟩ F.entry_list_extend (F.args_list_extend_2 _ _)
  (AutoSeq1.list_extend_list_list_0 l its.toArray n b its2.toArray n2 hlong (by rw [zq16x]; omega) (by omega)) ⟨e, e2, ?_⟩
 refine ⟨.non, _, I.lset (its' := its ++ its2) hH e (by simp) (r.append r2) ?_, rfl, q⟩
 rw [zq26x]
 omega
def rCat : R2 := fun x y H Q => ∃ l b xs zs, x = .ref l /\ y = .ref b /\ H l = some (.lst xs) /\ H b = some (.lst zs) /\ xs.length + zs.length <= sizeLine /\ ∀ p, H p = none -> Q (.ref p) (upd H p (.lst (xs ++ zs)))
theorem op_cat : OpR X (binaryOp .Add) rCat := by
 intro pins s σ H x y v u Q I rx ry h
 obtain ⟨l, b, xs, zs, rfl, rfl, hH, hB, hz, q⟩ := h
 cases rx
 cases ry
 obtain ⟨z, its, n, r, hl, e⟩ := I.lstM hH
 obtain ⟨z2, its2, n2, r2, hl2, e2⟩ := I.lstM hB
 refine PySem.P.add_list e e2 ?_ (by rw [zq16x, zq16x]; omega)
 have ea : its.toArray ++ its2.toArray = (its ++ its2).toArray := by simp
 rw [ea]
 exact ⟨.ref _, _, I.lnew (t' := s.toks) (r.append r2) (by rw [zq26x]; omega), rfl, q _ I.fresh⟩
end
end L2
namespace Att
open PySem PySem.W PySem.Calls PyProof.Rows
theorem ints_of_wellAll {P : Params} {h : Heap} : ∀ (ns : List Int) (vs : List Value), WellAll P h vs (ns.map WData.int) -> IntsAre vs ns := by
  intro ns
  induction ns with
  | nil =>
    intro vs w
    rw [zq68x] at w
    cases w
    exact .nil
  | cons n ns ih =>
    intro vs w
    rw [zq7x] at w
    cases w with
    | cons a b =>
      cases a
      exact .cons _ _ (ih _ b)
theorem script_of {l : OpenLaw} {n : Nat} (hn : l.most = some n) {P : Params} {h : Heap} {args : List WData} {vals : List Value}
    (hpre : l.row.toRowW.claim.pre args = true) (hwl : WellAll P h vals args) :
    ∃ a vs ns, vals = [Value.ref a] /\ args = [WData.list (ns.map WData.int)] /\ h.get? a = some { cls := .type "list", data := .seq vs.toArray } /\ IntsAre vs ns /\ ns.length <= n := by
  have hsh : WShape.hasAll [] args [.list .int] = true := (pre_splitW hpre).1
  have hc : l.pre.holds [] { args := args } = true := (pre_splitW hpre).2
  obtain ⟨d, r, rfl, h1, h2⟩ := hasAllW_cons hsh
  obtain rfl := hasAllW_nil h2
  obtain ⟨xs, rfl, h3⟩ := hasW_list h1
  obtain ⟨ns, rfl⟩ := items_int h3
  have hlen : ns.length <= n := by
    unfold OpenLaw.pre at hc
    have h4 : (WTm.not (.lt (.lit (.int (n : Int))) (.len (.arg 0)))).holds [] { args := [.list (ns.map .int)] } = true := by
      have h4 := (holds_andW hc).1
      rw [hn] at h4
      exact h4
    have h5 := condW_of h4 (w_not (w_lt w_lit (w_len_list (w_arg rfl))))
    rw [zq0x] at h5
    refine zq124x fun q => ?_
    have q' : (n : Int) < ((ns.length : Nat) : Int) := by omega
    first
      | (rw [decide_eq_true q'] at h5; exact absurd h5 (by decide))
      | (simp at h5; omega)
  cases hwl with
  | cons w1 w2 =>
    cases w2
    cases w1 with
    | list ho hall => exact ⟨_, _, ns, rfl, rfl, ho, ints_of_wellAll ns _ hall, hlen⟩
theorem post_true (l : OpenLaw) (args : List WData) : l.row.toRowW.claim.post args (.bool true) args = true :=
 postW_of (r := l.row.toRowW) (X := (true == true))
  (show WShape.has [] (.bool true) .bool = true by first | rfl | decide | simp [WShape.has, WShape.arms, WShape.armsAll])
  (show (WTm.eq .res (.lit (.bool true))).value [] { args := args, res := some (.bool true), after := args } = some (.bool (true == true)) from w_eq_bool (w_res rfl) w_lit) rfl
theorem attach_call {l : OpenLaw} {n : Nat} {q : Program} {loose : List Str} {XP : (Str -> Option Value) -> Heap -> Prop} {YP : World -> Heap -> Prop} {d : DefRec}
  (hn : l.most = some n) (hdf : d.params.defaults = [])
  (call : ∀ (w : World) (s₀ s₁ : Shared) (mg mb : Str -> Option Value) (fa : Addr) (o : Obj) (pm cd doc : Value) (a : Addr) (vs : List Value) (ns : List Int),
   Ground q loose [] XP w s₀ mg mb s₁.heap -> YP w s₁.heap ->
   s₁.heap.get? fa = some o -> o.data = .func (docDef d.name d.params d.body d.scope pm cd doc) -> s₁.heap.CodeRec cd d.name -> mg d.name = some (.ref fa) ->
   s₁.heap.get? a = some { cls := .type "list", data := .seq vs.toArray } -> IntsAre vs ns -> ns.length <= n -> s₁.gens = #[] ->
   codeAny (model l.prog w) callerA (.call (.ref fa) ⟨[.ref a], []⟩) (fun r s' => r = .ok (.ret (.bool true)) /\ OldK s₁.heap s'.heap /\ s'.os = s₁.os /\ AllBare s'.gens) s₁) :
  WalkO q loose XP YP l.row.toRowW d [] (fun f vs => PySem.call f vs) := by
 intro w s₀ s₁ mg mb G Y fa o pm cd doc dV kV ho hd hcd hD hmg hg args vals as hpre hlay hrd hwl hlo
 obtain rfl : dV = .none := Dflts.none hD hdf
 obtain rfl : kV = .none := Dflts.noKw hD
 obtain ⟨a, vs, ns, rfl, rfl, hobj, hints, hlen⟩ := script_of hn hpre hwl
 refine enter_call (codeAny_mono (call w s₀ s₁ mg mb fa o pm cd doc a vs ns G Y ho (fd_plain hd) hcd hmg hobj hints hlen hg) fun r s' hq => ?_)
 obtain ⟨rfl, h2, h3, h4⟩ := hq
 exact ⟨.inl ⟨.bool true, .bool true, [], rfl, fun _ => rfl, .bool true, post_true l _, fun _ => ⟨List.Pairwise.nil, fun _ hm => (nomatch hm)⟩⟩, h2, h3, h4⟩
section
variable {prog : Program} {w : World} {A : Around} {E : Value -> Shared -> Prop} {s : Shared} {K : Frag}
def ledger (h : Heap) (L d : Addr) : List (Addr × Obj) := (List.range h.objs.size).filterMap fun a => if a = L \/ a = d then none else (h.get? a).map fun o => (a, o)
end
end Att
namespace L2
open PySem PySem.Spec PyProof.Rows
theorem vals_ints : ∀ {vs : List Value} {ns : List Int}, IntsAre vs ns -> Vals (ns.map V.int) vs
 | _, _, .nil => .nil
 | _, _, .cons n t h => .cons ⟨t, rfl⟩ (vals_ints h)
def Only (H : Hp) : Prop := ∀ b, H b = none \/ ∃ o xs, H b = some (.frz o (.lst xs))
theorem law_call {P : Program} {w : World} {K : PySem.W.Frag} {mg mb : Str -> Option Value} {CX : CXT} {k : Nat} {fa a : Addr} {fd : FuncData} {x : Str} {sp : Sp} {s₁ : Shared} {vs : List Value} {ns : List Int}
    (KX : K.In s₁.heap) (hns : s₁.heap.Ns mainGlobals mg) (hb : s₁.heap.Ns builtinsNs mb) (hbb : ∀ x : Str, x ≠ "__name__" -> mb x = bootBuiltins x) (hlim : s₁.heap.NoLimit) (hg : s₁.gens = #[])
    (ha : s₁.heap.get? a = some { cls := .type "list", data := .seq vs.toArray }) (hi : IntsAre vs ns) (hl : ns.length <= sizeLine) (hr : Room k callerA)
    (F : ∀ base : Heap, K.In base -> base.Ns mainGlobals mg -> FnOk P w K mg base CX k fa fd [x] sp) (hbind : ∀ (s : Shared) (u : Value), BindsTo s fd ⟨[u], []⟩ [(x, u)])
    (hsp : ∀ H : Hp, Only H -> SqL K H a (ns.map V.int) -> sp [.ref a] H (fun v _ => v = .bl true) fun _ _ _ => False)
    (hCX : ∀ H e s', CX [] H s₁ (fun _ _ _ => False) e s' -> False) :
    codeAny (model P w) callerA (.call (.ref fa) ⟨[.ref a], []⟩) (fun r s' => r = .ok (.ret (.bool true)) /\ OldK s₁.heap s'.heap /\ s'.os = s₁.os /\ AllBare s'.gens) s₁ := by
  have rv := vals_ints hi
  have lenV := hi.length
  have core : ∀ H : Hp, Only H -> SqL K H a (ns.map V.int) -> HOk P w H s₁.heap -> (∀ b, H b ≠ none -> b = a) -> (H a ≠ none -> K.lookup a = none) ->
      codeAny (model P w) callerA (.call (.ref fa) ⟨[.ref a], []⟩) (fun r s' => r = .ok (.ret (.bool true)) /\ OldK s₁.heap s'.heap /\ s'.os = s₁.os /\ AllBare s'.gens) s₁ := by
    intro H hO hS hok hA hK
    have base_of : ∀ {b : Addr} {o : Obj}, s₁.heap.get? b = some o -> H b = none -> (hidT s₁.heap H).get? b = some o := fun e n => hidT_get e n
    have noA : ∀ {b : Addr} {o : Obj} {es : Array DictEntry} {ep : Nat}, s₁.heap.get? b = some o -> o.data = .dict es ep -> H b = none := fun {b o es ep} e d => by
      cases q : H b with
      | none => rfl
      | some u =>
        have e' : b = a := hA b (by rw [q]; simp)
        subst e'
        rw [ha] at e; cases e
        have d' : Data.seq vs.toArray _ = Data.dict es ep := d
        cases d'
    have nsK : ∀ {b : Addr} {m : Str -> Option Value}, s₁.heap.Ns b m -> (hidT s₁.heap H).Ns b m := fun {b m} ⟨o, es, ep, e, d, r⟩ => ⟨o, es, ep, base_of e (noA e d), d, r⟩
    have hKb : K.In (hidT s₁.heap H) := fun b o e => base_of (KX b o e) (by
      cases q : H b with
      | none => rfl
      | some u =>
        have e' : b = a := hA b (by rw [q]; simp)
        subst e'
        rw [hK (by rw [q]; simp)] at e; cases e)
    have hM : Mod K mg (hidT s₁.heap H) := ⟨hKb, nsK hns, ⟨mb, nsK hb, hbb⟩, let ⟨mc, h1, h2⟩ := hlim; ⟨mc, nsK h1, h2⟩⟩
    have e0 : Env0 P w K mg (hidT s₁.heap H) callerA [] s₁ H := ⟨rfl, hM, fun b o e => of_hidT e, zq93x (hidT_size _ _), trivial, fun b hb => absurd (show b ∈ ([] : List Addr) from hb) (by simp), hok, .of_eq hg⟩
    refine codeAny_mono ((F _ hKb (nsK hns)).run callerA [] s₁ H ⟨[.ref a], []⟩ [.ref a] [.ref a] _ _ hr e0 (hbind s₁ (.ref a)) (.cons rfl .nil) (hsp H hO hS)) fun r s' h => ?_
    cases r with
    | error e => exact (hCX H e s' h).elim
    | ok fl =>
      cases fl with
      | next => exact False.elim h
      | brk => exact False.elim h
      | cont => exact False.elim h
      | ret u =>
        obtain ⟨v, H', os, bare, un, hok', r', q⟩ := h
        have q' : v = .bl true := q
        subst q'
        obtain rfl : u = Value.bool true := r'
        refine ⟨rfl, OldK.of_keep fun b o e => ?_, os, bare⟩
        cases q : H b with
        | none => exact un.keep b o e q (by intro z; exact absurd (show b ∈ ([] : List Addr) from z) (by simp)) (by simp)
        | some u =>
          rcases hO b with z | ⟨ob, xs, z⟩
          · rw [q] at z; cases z
          · have z2 := un.frzs b ob _ z
            obtain ⟨e1, _⟩ := hok b _ z
            obtain ⟨e2, _⟩ := hok' b _ z2
            rw [e] at e1; cases e1
            exact e2
  cases hk : K.lookup a with
  | some o =>
    have e := KX a o hk
    rw [ha] at e
    cases e
    refine core (fun _ => none) (fun _ => .inl rfl) (.inr ⟨_, vs.toArray, _, hk, rfl, rfl, rfl, by rw [zq16x, lenV]; exact hl, by simpa using rv⟩) (fun b u z => by have z' : (none : Option HO) = some u := z; cases z') (fun b z => absurd rfl z) fun z => absurd rfl z
  | none =>
    refine core (fun b => if b = a then some (.frz { cls := .type "list", data := .seq vs.toArray } (.lst (ns.map V.int))) else none) (fun b => ?_) (.inl (.inr ⟨{ cls := .type "list", data := .seq vs.toArray }, if_pos rfl⟩)) (fun b u z => ?_) (fun b z => ?_) fun _ => hk
    · by_cases hb : b = a
      · exact .inr ⟨_, _, if_pos hb⟩
      · exact .inl (if_neg hb)
    · by_cases hb : b = a
      · have z' := (if_pos hb).symm.trans z
        cases z'
        subst hb
        exact ⟨ha, by rw [zq0x]; exact hl, vs, _, rv, ha⟩
      · have z' := (if_neg hb).symm.trans z
        cases z'
    · by_cases hb : b = a
      · exact hb
      · exact absurd (if_neg hb) z
theorem walk_of {l : PySem.W.OpenLaw} {n k : Nat} {q : Program} {loose : List Str} {XP : (Str -> Option Value) -> Heap -> Prop} {YP : World -> Heap -> Prop} {d : DefRec} {K : Params -> PySem.W.Frag} {CX : World -> CXT} {sp : World -> Sp} {x : Str}
  (hn : l.most = some n) (hn2 : n <= sizeLine) (hdf : d.params.defaults = []) (hr : Room k callerA)
  (hY : ∀ (w : World) (h : Heap), YP w h -> (K w.params).In h)
  (F : ∀ (w : World) (mg : Str -> Option Value) (fa : Addr) (h : Heap), (K w.params).In h -> h.Ns mainGlobals mg -> mg d.name = some (.ref fa) ->
   ∃ fd : FuncData, (∀ (s : Shared) (u : Value), BindsTo s fd ⟨[u], []⟩ [(x, u)]) /\
    ∀ base : Heap, (K w.params).In base -> base.Ns mainGlobals mg -> FnOk l.prog w (K w.params) mg base (CX w) k fa fd [x] (sp w))
  (hsp : ∀ (w : World) (H : Hp) (a : Addr) (ns : List Int), ns.length <= n -> Only H -> SqL (K w.params) H a (ns.map V.int) -> sp w [.ref a] H (fun v _ => v = .bl true) fun _ _ _ => False)
  (hCX : ∀ (w : World) (H : Hp) (s : Shared) (e : Value) (s' : Shared), CX w [] H s (fun _ _ _ => False) e s' -> False) :
  PySem.W.WalkO q loose XP YP l.row.toRowW d [] (fun f vs => PySem.call f vs) := by
 refine Att.attach_call hn hdf fun w s₀ s₁ mg mb fa o pm cd doc a vs ns G Y ho hd hcd hmg hobj hints hlen hg => ?_
 have KX := hY w _ Y
 obtain ⟨fd, hb, hF⟩ := F w mg fa _ KX G.T.g hmg
 exact law_call KX G.T.g G.T.b G.T.builtins G.T.nolimit hg hobj hints (zq25x hlen hn2) hr hF hb (fun H hO hS => hsp w H a ns hlen hO hS) fun H e s' => hCX w H s₁ e s'
end L2
/- THE LAST THEOREM (shape; LID, My.* are yours):
   My.Adr: a structure of the addresses that your layer names (classes, functions); My.Txt K t: a structure (Prop) of the equations over K;
   My.txt_mk : {K} {implicit addresses ..} (e1 : nsIn K mainGlobals "law" = some (some (.ref f))) (e2 : K.lookup f = some ⟨oc, od, .func (fnOf "law" "law" params body scope dV kV doc pm an cdv ct), sl⟩) (e3 : codeIn K cdv "law" = true) .. : ∃ t, My.Txt K t
set_option maxRecDepth 100000 in
set_option maxHeartbeats 0 in
(the tactic k_is has no namespace: write k_is) -/
namespace L2
open PySem PySem.Spec PyProof.Rows
def defArgs (s : Stmt) : Arguments := match s with
 | .FunctionDef _ a _ _ _ _ _ _ _ _ => a
 | _ => { posonlyargs := [], args := [], vararg := none, kwonlyargs := [], kw_defaults := [], kwarg := none, defaults := [] }
def defBody (s : Stmt) : List Stmt := match s with
 | .FunctionDef _ _ b _ _ _ _ _ _ _ => b
 | _ => []
def defScope (s : Stmt) : Scope := match s with
 | .FunctionDef _ _ _ _ _ _ sc _ _ _ => sc
 | _ => { kind := .function, names := [], isGenerator := false, isCoroutine := false }
abbrev CX0 : CXT := fun _ _ _ _ _ _ => False
abbrev E0 : XK := fun _ _ _ => False
theorem pass0 {X : Cx} : Passes CX0 X E0 := fun _ _ _ _ _ _ _ h => h.elim
structure Fun (K : PySem.W.Frag) (x qual : Str) (st : Stmt) (f : Addr) (fd : FuncData) : Prop where
 ex : ∃ (oc : Value) (od : Option Addr) (kV doc pm : Value) (an : Option Addr) (cdv ct : Value) (osl : Array (Option Value)),
  fd = PySem.W.fnOf x qual (defArgs st) (defBody st) (defScope st) .none kV doc pm an cdv ct /\ K.lookup f = some ⟨oc, od, .func fd, osl⟩ /\ PySem.W.codeIn K cdv qual = true
 kp : PySem.W.keepIn K (.ref f) = true
section
variable {P : Program} {w : World} {K : PySem.W.Frag} {mg : Str -> Option Value} {base : Heap}
theorem Fun.ok {x qual : Str} {st : Stmt} {f : Addr} {fd : FuncData} {N ps : List Str} {k : Nat} {sp : Sp} (F : Fun K x qual st f fd) (S : FnScope N ps (defScope st)) (len : ∀ vs H Q E, sp vs H Q E -> vs.length = ps.length)
  (hbody : ∀ (cdv : Value) (A : Around) (outer : List Env) (s : Shared) (H : Hp) (vs : List V) (Q : VK) (E : XK), Room k (A.deeper (envOfC qual (defScope st) s.heap.objs.size f cdv)) -> sp vs H Q E ->
   ∃ t, PSs (cxOf CX0 P w K mg base N qual (defScope st) f cdv A outer s H E).nox (defBody st) t /\ t { nx := fun _ H' => Q .non H', rt := Q } (start N vs) H) : FnOk P w K mg base CX0 (k + 1) f fd ps sp := by
 obtain ⟨oc, od, kV, doc, pm, an, cdv, ct, osl, rfl, lk, hcd⟩ := F.ex
 refine fn_of lk hcd S len fun A outer s H vs Q E hr hsp => ?_
 obtain ⟨t, h, q⟩ := hbody cdv A outer s H vs Q E hr hsp
 exact ⟨t, h.nox, q⟩
theorem Fun.binds {x qual : Str} {st : Stmt} {f : Addr} {fd : FuncData} {ps : List Str} (F : Fun K x qual st f fd)
  (h : ∀ (kV doc pm : Value) (an : Option Addr) (cdv ct : Value) (us : List Value), us.length = ps.length -> bindArgs (PySem.W.fnOf x qual (defArgs st) (defBody st) (defScope st) .none kV doc pm an cdv ct) ⟨us, []⟩ = pure (ps.zip us)) : Binds K fd ps [] := by
 obtain ⟨oc, od, kV, doc, pm, an, cdv, ct, osl, rfl, lk, hcd⟩ := F.ex
 exact .all (h kV doc pm an cdv ct)
theorem fun_mk {x qual : Str} {st : Stmt} {f : Addr} {oc : Value} {od an : Option Addr} {osl : Array (Option Value)} {kV doc pm cdv ct : Value} (l : K.lookup f = some ⟨oc, od, .func (PySem.W.fnOf x qual (defArgs st) (defBody st) (defScope st) .none kV doc pm an cdv ct), osl⟩)
  (c : PySem.W.codeIn K cdv qual = true) (k : PySem.W.keepIn K (.ref f) = true) : Fun K x qual st f (PySem.W.fnOf x qual (defArgs st) (defBody st) (defScope st) .none kV doc pm an cdv ct) := ⟨⟨oc, od, kV, doc, pm, an, cdv, ct, osl, rfl, l, c⟩, k⟩
end
theorem small1000 {n : Nat} (h : n <= 1000) : n < sizeLine := zq125x h (by decide)
section
variable {X : Cx}
theorem pv (i : Nat) {x : Str} {pos : Pos} (hN : X.N[i]? = some x := by rfl) (hv : Vis X.env.scope x := by first | exact Or.inl rfl | exact Or.inr (Or.inl rfl) | exact Or.inr (Or.inr rfl)) (hd : (x == ("__debug__" : Str)) = false := by decide)
  (hcd : (x == ("__classdict__" : Str)) = false := by decide) : PE X (.Name x pos) (tVar i) := pe_var hN hv hd hcd
end
theorem iteF {A B : Prop} (h : B) : if false = true then A else B := by
 rw [if_neg zq15x]
 exact h
theorem iteT {A B : Prop} (h : A) : if true = true then A else B := by
 rw [if_pos rfl]
 exact h
theorem ite2 {c A B : Prop} [Decidable c] (h1 : c -> A) (h2 : ¬ c -> B) : if c then A else B := by
 by_cases h : c
 ·rw [if_pos h]
  exact h1 h
 ·rw [if_neg h]
  exact h2 h
def Same (H H' : Hp) : Prop := ∀ b o, H b = some o -> H' b = some o
theorem Same.refl (H : Hp) : Same H H := fun _ _ h => h
theorem Same.trans {H H1 H2 : Hp} (a : Same H H1) (b : Same H1 H2) : Same H H2 := fun c o h => b c o (a c o h)
theorem Same.free {H H' : Hp} (e : Same H H') {l : Addr} (h : H' l = Option.none) : H l = Option.none := by
  cases q : H l with
  | none => rfl
  | some o =>
    rw [e l o q] at h
    cases h
theorem Same.seq {K : PySem.W.Frag} {H H' : Hp} {a : Addr} {xs : List V} (e : Same H H') (h : SqL K H a xs) : SqL K H' a xs := by
 rcases h with (h | ⟨o, h⟩) | h
 ·exact .inl (.inl (e _ _ h))
 ·exact .inl (.inr ⟨o, e _ _ h⟩)
 ·exact .inr h
end L2
set_option maxHeartbeats 1000000
namespace L2
open PySem PySem.Spec PyProof.Rows
def clOf (cells : List (Str × Addr)) : List (Str × NameKind) -> List (Str × Addr) -> List (Str × Addr)
 | [], acc => acc
 | (n, k) :: r, acc => clOf cells r (if k == NameKind.free then (match cells.lookup n with | some a => (n, a) :: acc | none => acc) else acc)
theorem clOf_run {env : Env} {f : Str × NameKind -> List (Str × Addr) -> Sem (ForInStep (List (Str × Addr)))}
    (hf : ∀ x acc, f x acc = if (x.2 == NameKind.free) = true then (do let a <- cellOf env x.1; pure (ForInStep.yield ((x.1, a) :: acc))) else pure (ForInStep.yield acc)) :
    ∀ (l : List (Str × NameKind)) (acc : List (Str × Addr)), (∀ x ∈ l, x.2 = .free -> ∃ a, env.cells.lookup x.1 = some a) -> (forIn l acc f : Sem (List (Str × Addr))) = pure (clOf env.cells l acc)
  | [], acc, _ => by rw [List.forIn_nil]; rfl
  | (n, k) :: r, acc, h => by
    have hr := fun x hx => h x (zq20x _ hx)
    rw [List.forIn_cons, hf]
    by_cases hk : (k == NameKind.free) = true
    · have hk' : k = NameKind.free := by simpa using hk
      obtain ⟨a, ha⟩ := h (n, k) zq14x hk'
      have hc : cellOf env n = pure a := by unfold cellOf; rw [ha]
      rw [if_pos hk, hc]
      show (forIn r ((n, a) :: acc) f : Sem (List (Str × Addr))) = pure (clOf env.cells r _)
      rw [clOf_run hf r _ hr, if_pos hk, ha]
    · rw [if_neg hk]
      show (forIn r acc f : Sem (List (Str × Addr))) = pure (clOf env.cells r _)
      rw [clOf_run hf r _ hr, if_neg hk]
theorem closureFor_eq {scope : Scope} {env : Env} (h : ∀ x ∈ scope.names, x.2 = .free -> ∃ a, env.cells.lookup x.1 = some a) : closureFor scope env = pure (clOf env.cells scope.names []) := by
 simp only [closureFor]
 rw [clOf_run (env := env) (fun ⟨n, k⟩ acc => by dsimp only) scope.names [] h]
 rfl
theorem clOf_sub {cells : List (Str × Addr)} : ∀ {l : List (Str × NameKind)} {acc : List (Str × Addr)} {x : Str} {c : Addr}, (∀ y d, acc.lookup y = some d -> cells.lookup y = some d) -> (clOf cells l acc).lookup x = some c -> cells.lookup x = some c
  | [], _, _, _, ha, h => ha _ _ h
  | (n, k) :: r, acc, x, c, ha, h => by
    refine clOf_sub (l := r) ?_ h
    intro y d hd
    by_cases hk : (k == NameKind.free) = true
    · rw [if_pos hk] at hd
      cases q : cells.lookup n with
      | none => rw [q] at hd; exact ha _ _ hd
      | some a =>
        rw [q] at hd
        by_cases hy : (y == n) = true
        · have hy' : y = n := by simpa using hy
          subst hy'
          simp [zq2x] at hd
          rw [q, hd]
        · have hy' : (y == n) = false := by simpa using hy
          simp only [zq2x, hy'] at hd
          exact ha _ _ hd
    · rw [if_neg hk] at hd; exact ha _ _ hd
theorem clOf_keep {cells : List (Str × Addr)} : ∀ {l : List (Str × NameKind)} {acc : List (Str × Addr)} {x : Str}, (acc.lookup x).isSome = true -> ((clOf cells l acc).lookup x).isSome = true
  | [], _, _, h => h
  | (n, k) :: r, acc, x, h => by
    refine clOf_keep (l := r) ?_
    by_cases hk : (k == NameKind.free) = true
    · rw [if_pos hk]
      cases q : cells.lookup n with
      | none => exact h
      | some a =>
        by_cases hy : (x == n) = true
        · simp [zq2x, hy]
        · have hy' : (x == n) = false := by simpa using hy
          simp only [zq2x, hy']
          exact h
    · rw [if_neg hk]; exact h
theorem clOf_has {cells : List (Str × Addr)} : ∀ {l : List (Str × NameKind)} {acc : List (Str × Addr)} {x : Str} {a : Addr}, (x, NameKind.free) ∈ l -> cells.lookup x = some a -> ((clOf cells l acc).lookup x).isSome = true
  | [], _, _, _, h, _ => nomatch h
  | (n, k) :: r, acc, x, a, h, hc => by
    rcases zq4x.mp h with e | h
    · obtain ⟨rfl, rfl⟩ := Prod.mk.inj e
      refine clOf_keep (l := r) ?_
      rw [if_pos (by decide), hc]
      simp [zq2x]
    · exact clOf_has (l := r) h hc
theorem clOf_look {cells : List (Str × Addr)} {l : List (Str × NameKind)} {x : Str} {a : Addr} (h : (x, NameKind.free) ∈ l) (hc : cells.lookup x = some a) : (clOf cells l []).lookup x = some a := by
 obtain ⟨c, e⟩ := zq158x.mp (clOf_has (acc := []) h hc)
 have := clOf_sub (fun y d (q : ([] : List (Str × Addr)).lookup y = some d) => by simp at q) e
 rw [hc] at this; cases this
 exact e
theorem relabel_look {env : Env} : ∀ {l : List (Str × NameKind)} {x : Str} {k : NameKind}, (∀ y ∈ l, y.2 ≠ .cell) ->
    (l.map fun (n, k) => if (k == NameKind.free && env.scope.kind == .function && env.kindOf n == some .cell) then (n, NameKind.cell) else (n, k)).lookup x = some k -> k = .cell \/ k = .free -> l.lookup x = some .free
  | [], _, _, _, h, _ => by simp at h
  | (n, q) :: r, x, k, hc, h, hk => by
    have hr := fun y hy => hc y (zq20x _ hy)
    have ih := relabel_look (env := env) (l := r) (x := x) (k := k) hr
    rw [zq7x] at h
    dsimp only at h
    by_cases hx : (x == n) = true
    · simp only [zq2x, hx]
      by_cases hq : (q == NameKind.free && env.scope.kind == .function && env.kindOf n == some .cell) = true
      · have : q = .free := by
          simp only [zq28x] at hq
          simpa using hq.1.1
        rw [this]
      · rw [if_neg hq] at h
        simp only [zq2x, hx] at h
        have hqk : q = k := zq39x h
        rcases hk with e | e
        · exact absurd (hqk.trans e) (hc (n, q) zq14x)
        · rw [hqk, e]
    · have hx' : (x == n) = false := by simpa using hx
      simp only [zq2x, hx']
      refine ih ?_ hk
      by_cases hq : (q == NameKind.free && env.scope.kind == .function && env.kindOf n == some .cell) = true
      · rw [if_pos hq] at h
        simp only [zq2x, hx'] at h
        exact h
      · rw [if_neg hq] at h
        simp only [zq2x, hx'] at h
        exact h
theorem relabel_free {env : Env} : ∀ {l : List (Str × NameKind)} {x : Str}, l.lookup x = some .free ->
    (l.map fun (n, k) => if (k == NameKind.free && env.scope.kind == .function && env.kindOf n == some .cell) then (n, NameKind.cell) else (n, k)).lookup x = some .cell \/
    (l.map fun (n, k) => if (k == NameKind.free && env.scope.kind == .function && env.kindOf n == some .cell) then (n, NameKind.cell) else (n, k)).lookup x = some .free
  | [], _, h => by simp at h
  | (n, q) :: r, x, h => by
    have ih := relabel_free (env := env) (l := r) (x := x)
    rw [zq7x]
    dsimp only
    by_cases hx : (x == n) = true
    · simp only [zq2x, hx] at h
      by_cases hq : (q == NameKind.free && env.scope.kind == .function && env.kindOf n == some .cell) = true
      · rw [if_pos hq]
        left
        simp only [zq2x, hx]
      · rw [if_neg hq]
        right
        simp only [zq2x, hx]
        exact h
    · have hx' : (x == n) = false := by simpa using hx
      simp only [zq2x, hx'] at h
      have := ih h
      by_cases hq : (q == NameKind.free && env.scope.kind == .function && env.kindOf n == some .cell) = true
      · rw [if_pos hq]
        simp only [zq2x, hx']
        exact this
      · rw [if_neg hq]
        simp only [zq2x, hx']
        exact this
def compOkB (sx : Scope) (NX : List Str) (scope : Scope) (N : List Str) (mp : List (Option Nat)) : Bool :=
 (scope.kind == .function) && scope.names.all (fun y => y.2 != .cell) && scope.names.all (fun y => y.2 != .local || scope.names.lookup y.1 == some .local) &&
 scope.names.all (fun y => y.2 != .free || sx.names.lookup y.1 == some .cell || sx.names.lookup y.1 == some .free) && (mp.length == N.length) &&
 ((N.zip mp).all fun p => match p.2 with | none => true | some j => NX[j]? == some p.1 && scope.names.lookup p.1 == some .free)
structure CompOk (sx : Scope) (NX : List Str) (scope : Scope) (N : List Str) (mp : List (Option Nat)) : Prop where
 kind : scope.kind = .function
 cell : ∀ y ∈ scope.names, y.2 ≠ .cell
 names : ∀ y ∈ scope.names, y.2 = .local -> scope.names.lookup y.1 = some .local
 free : ∀ y ∈ scope.names, y.2 = .free -> sx.names.lookup y.1 = some .cell \/ sx.names.lookup y.1 = some .free
 len : mp.length = N.length
 look : ∀ (i j : Nat) (x : Str), mp[i]? = some (some j) -> N[i]? = some x -> NX[j]? = some x /\ scope.names.lookup x = some .free
theorem CompOk.of {sx : Scope} {NX : List Str} {scope : Scope} {N : List Str} {mp : List (Option Nat)} (h : compOkB sx NX scope N mp = true) : CompOk sx NX scope N mp := by
 unfold compOkB at h
 simp only [zq28x, zq108x] at h
 obtain ⟨⟨⟨⟨⟨h1, h2⟩, h3⟩, h4⟩, h5⟩, h6⟩ := h
 refine ⟨by simpa using h1, fun y hy => by simpa using h2 y hy, fun y hy e => ?_, fun y hy e => ?_, by simpa using h5, fun i j x e1 e2 => ?_⟩
 ·have := h3 y hy
  simpa [e] using this
 ·have := h4 y hy
  simpa [e] using this
 ·have hm : (x, some j) ∈ N.zip mp := by
   have : (N.zip mp)[i]? = some (x, some j) := by
    rw [List.getElem?_zip_eq_some]; exact ⟨e2, e1⟩
   exact zq27x this
  have := h6 _ hm
  simpa using this
def startC (mp : List (Option Nat)) (σ : St) : St := mp.map fun o => match o with | none => none | some j => match σ[j]? with | some v => v | none => none
def compX (X : Cx) (scope : Scope) (C : Addr) (N : List Str) (s₀ : Shared) (H₀ : Hp) (fp : List Addr) : Cx :=
 { X with N := N, s₀ := s₀, H₀ := H₀, env := compEnvC scope (clOf X.env.cells scope.names []) C X.env, outer := X.stack, ex := fp, fn := fun _ => false, pn := [], xe := fun _ _ => False }
def PTs (X : Cx) (ifs : List Expr) (t : TT) : Prop :=
 ∀ (pins : List (Addr × Obj)) (s : Shared) (σ : St) (H : Hp) (Q : Bool -> Hp -> Prop), Inv X pins σ H s -> t σ H Q ->
  wpAny (model X.prog X.w) X.A (forIn ifs true fun c r => if r = true then do let ok <- isTrue c X.env (eval c X.env); pure (ForInStep.yield ok) else pure (ForInStep.yield r)) (TP X pins σ Q) X.xe s
def tNoTest : TT := fun _ H Q => Q true H
theorem pts_nil {X : Cx} : PTs X [] tNoTest := fun pins s σ H Q I h => wpAny_tests_nil ⟨H, I, h⟩
theorem pts_one {X : Cx} {c : Expr} {t : TT} (h : PT X c t) : PTs X [c] t := fun pins s σ H Q I q => wpAny_tests_one (h pins s σ H Q I q)
def CompW (J : It) (g : TG) (tc : TT) (te : TE) (acc : Addr) (Qe : Hp -> Prop) (σ : St) (H : Hp) : Prop := ∃ W : Nat -> Nat -> St -> Hp -> Prop, (∃ m, W 0 m σ H) /\ ∀ i m σ H, W i m σ H ->
 (J.stop i H /\ Qe H) \/ (J.go i H /\ ∃ Nx : St -> Hp -> Prop, (∀ σ' H', Nx σ' H' -> ∃ m', m' < m /\ W (i + 1) m' σ' H') /\ ∀ x H', J.yld i H x H' -> g x σ H' fun σ2 H2 => tc σ2 H2 fun b H3 =>
  if b = true then te σ2 H3 fun v H4 => ∃ ys, H4 acc = some (.lst ys) /\ ys.length < sizeLine /\ Nx σ2 (upd H4 acc (.lst (ys ++ [v]))) else Nx σ2 H3)
def tComp (wi : TI) (g : TG) (tc : TT) (te : TE) (mp : List (Option Nat)) : TE := fun σ H Q => wi σ H fun J H1 => ∀ acc, H1 acc = none -> CompW J g tc te acc (fun H' => Q (.ref acc) H') (startC mp σ) (upd H1 acc (.lst []))
section
variable {prog : Program} {w : World} {A : Around} {R : Result -> Shared -> Prop} {s : Shared}
theorem codeAny_compLoop_own {elt target iter : Expr} {ifs : List Expr} {scope : Scope} {pos : Pos} {it acc : Value} {env : Env} (I : Nat -> Shared -> Prop)
    (turn : ∀ n s, I n s -> wpAny (model prog w) A (pyNext it) (fun r s₁ => match r with
      | none => R (.ok .next) s₁
      | some v => wpAny (model prog w) A (letOwnedTupleGo target it v) (fun _ s₀ => wpAny (model prog w) A (assign target env v) (fun _ s₂ =>
          wpAny (model prog w) A (forIn ifs true fun c r => if r = true then do let ok <- isTrue c env (eval c env); pure (ForInStep.yield ok) else pure (ForInStep.yield r)) (fun ok s₃ =>
            if ok = true then wpAny (model prog w) A (eval elt env) (fun x s₄ =>
              wpAny (model prog w) A (call (.builtin "list.append") [acc, x]) (fun _ s₅ => ∃ m, m < n /\ I m s₅) (fun _ _ => False) s₄) (fun _ _ => False) s₃
            else ∃ m, m < n /\ I m s₃) (fun _ _ => False) s₂) (fun _ _ => False) s₀) (fun _ _ => False) s₁) (fun _ _ => False) s)
    (n : Nat) (h : I n s) :
    codeAny (model prog w) A (.compLoop (.ListComp elt [⟨target, iter, ifs, 0⟩] scope pos) 0 it acc env) R s := by
  refine codeAny_loop rfl I (fun n s hI => ?_) n h
  show wpAny _ A ((compTurn (.ListComp elt [⟨target, iter, ifs, 0⟩] scope pos) 0 it acc env).onRaise (fun x => do noteFrame x env; theTreesLotGoes x)) _ _ s
  refine wpAny_noted ?_
  rw [compTurn_list]
  refine wpAny_bind (wpAny_standAt (wpAny_bind (wpAny_mono (turn n s hI) (fun r s₁ h₁ => ?_) fun _ _ h' => h'.elim)))
  cases r with
  | none => exact wpAny_pure h₁
  | some v =>
    refine wpAny_bind (wpAny_mono h₁ (fun _ s₀ h₀ => ?_) fun _ _ h' => h'.elim)
    refine wpAny_bind (wpAny_mono h₀ (fun _ s₂ h₂ => wpAny_bind (wpAny_mono h₂ (fun ok s₃ h₃ => ?_) fun _ _ h' => h'.elim)) fun _ _ h' => h'.elim)
    cases ok with
    | false => exact wpAny_pure ⟨rfl, h₃⟩
    | true =>
      exact wpAny_bind (wpAny_bind (wpAny_mono h₃ (fun x s₄ h₄ => wpAny_bind (wpAny_mono h₄ (fun _ s₅ h₅ => wpAny_pure (wpAny_pure ⟨rfl, h₅⟩)) fun _ _ h' => h'.elim)) fun _ _ h' => h'.elim))
end
section
variable {X : Cx}
theorem comp_core {elt iter tg : Expr} {ifs : List Expr} {scope : Scope} {pos pos' : Pos} {N : List Str} {mp : List (Option Nat)} {wi : TI} {g : TG} {tc : TT} {te : TE} {use : Option (Value -> Sem Unit)}
    {pins : List (Addr × Obj)} {s : Shared} {σ : St} {H : Hp} {Q : VK} {QQ : Value -> Shared -> Prop}
    (ok : CompOk X.env.scope X.N scope N mp) (hc : X.calm = true) (hi : PI X tg iter wi)
    (hb : ∀ C s₀ H₀ fp, PG (compX X scope C N s₀ H₀ fp) tg g /\ PTs (compX X scope C N s₀ H₀ fp) ifs tc /\ PE (compX X scope C N s₀ H₀ fp) elt te)
    (hs : ∀ x, foldedSetIterable iter X.env x = pure x) (I : Inv X pins σ H s) (h : tComp wi g tc te mp σ H Q)
    (fin : ∀ acc C H' s' m, Inv X pins σ H' s' -> FpOk X pins H' C -> s'.heap.Ns C m -> Q (.ref acc) H' -> compPost (model X.prog X.w) X.A X.xe use QQ (.ref acc) C (.ok .next) s') :
    wpAny (model X.prog X.w) X.A (comprehension (.ListComp elt [⟨tg, iter, ifs, 0⟩] scope pos) scope X.env pos' (newList []) false (eval iter X.env) use) QQ X.xe s := by
  have hfree : ∀ x ∈ scope.names, x.2 = .free -> ∃ a, X.env.cells.lookup x.1 = some a := fun x hx e => I.ok.has x.1 (ok.free x hx e)
  refine wpAny_comprehension_free (use := use) rfl hs (closureFor_eq hfree) ok.kind ok.names (thn (hi pins s σ H _ I h) fun v s1 h1 => thn h1 fun itv s2 h2 => ?_)
  obtain ⟨it, fp, tn, J, H2, e, I2, T, st2, f2, hW⟩ := h2
  subst e
  refine wpAny_newObj_type (wpAny_newFunctionEnv ok.cell (by intro y hy; simp at hy) (fun h₁ hns₁ hsb₁ => ?_) ok.kind)
  dsimp only at hns₁ hsb₁ ⊢
  have I3 := I2.lnew (its := []) (ys := []) (t' := s2.toks) .nil (zq36x _)
  have hW := hW s2.heap.objs.size I2.fresh
  obtain ⟨W, ⟨m0, w0⟩, turn⟩ := hW
  generalize hHP : s2.heap.push { cls := .type "list", dict := none, data := .seq ([] : List Value).toArray } = HP at hns₁ hsb₁ ⊢
  have I3 : Inv X pins σ (upd H2 s2.heap.objs.size (.lst [])) { s2 with heap := HP } := by rw [<- hHP]; exact I3
  generalize hH3 : upd H2 s2.heap.objs.size (.lst []) = H3 at I3 w0
  have hC : HP.objs.size = s2.heap.objs.size + 1 := by rw [<- hHP, zq78x]
  have old : ∀ b o, HP.get? b = some o -> h₁.get? b = some o := fun b o e => hsb₁.extBut b o (zq22x (zq3x e)) (zq9x _ e)
  have flt : ∀ b ∈ fp, b < s2.heap.objs.size := fun b hb => by
    obtain ⟨o, e, _⟩ := T.obj 0 _ st2 b hb
    exact zq3x e
  have fH3 : ∀ b ∈ fp, H3 b = none := fun b hb => by
    rw [<- hH3, upd_ne (zq22x (flt b hb))]
    exact (f2 b hb).1
  have clsub : ∀ {x : Str} {c : Addr}, (clOf X.env.cells scope.names []).lookup x = some c -> X.env.cells.lookup x = some c := fun {x c} e => clOf_sub (fun y d q => by simp at q) e
  have yok : (compX X scope HP.objs.size N { s2 with heap := HP } H3 fp).Ok := by
    refine ⟨I2.ok.mod, ok.kind, I2.ok.glob, I2.ok.blt, zq1x _, fun x y c e1 e2 => I2.ok.inj x y c (clsub e1) (clsub e2), fun x hx => ?_, (fun x c e => absurd (show false = true from e) (by decide)), I2.ok.hd, I2.ok.frames, .inl rfl, fun b hb => ?_, I3.bs, zq25x I3.ok.bsz I3.sz, fun b o e hb => ?_, fun b hb hz => ?_, I3.stack, I3.stkFree⟩
    · have hx' : scope.names.lookup x = some .free := by
        rcases hx with hx | hx
        · exact relabel_look ok.cell hx (.inl rfl)
        · exact relabel_look ok.cell hx (.inr rfl)
      have hm := zq76x hx'
      obtain ⟨a, ha⟩ := hfree _ hm rfl
      exact ⟨a, clOf_look hm ha⟩
    · refine ⟨fun z => ?_, fun x c e => (f2 b hb).2.2.2.2.1 x c (clsub e)⟩
      have z' : b = HP.objs.size := z
      have q := flt b hb
      rw [z', hC] at q
      exact absurd q (Nat.not_lt.mpr (zq126x _))
    · rcases (f2 b hb).2.2.2.1 with z | z
      · exact I2.ok.noex b o e z
      · exact absurd (zq17x (zq3x (I2.ok.bs b o e).1) z) (zq40x _)
    · rcases zq4x.mp (I2.stkSub b hz) with z | z
      · exact (f2 b hb).2.1 z
      · exact (f2 b hb).2.2.1 z
  have IY : Inv (compX X scope HP.objs.size N { s2 with heap := HP } H3 fp) [] (startC mp σ) H3 { s2 with heap := h₁, toks := s2.toks + ([] : List (Str × Value)).length } := by
    refine ⟨yok, rfl, I2.bare, Un.kept old, ⟨_, hns₁, fun i x v e1 e2 e3 => ?_⟩, fun x c e => ?_, I3.hok.fresh (zq1x _), fun x c e => I3.freeC x c (clsub e), fun p hp => absurd (show p ∈ ([] : List (Addr × Obj)) from hp) (by simp), I3.hok.kept old, ?_⟩
    · have hj : ∃ j, mp[i]? = some (some j) /\ σ[j]? = some (some v) := by
        unfold startC at e2
        rw [zq19x] at e2
        cases q : mp[i]? with
        | none => rw [q] at e2; cases e2
        | some o =>
          rw [q] at e2
          cases o with
          | none => cases e2
          | some j =>
            refine ⟨j, rfl, ?_⟩
            have e2 : (match σ[j]? with | some v => v | none => none) = some v := zq39x e2
            cases r : σ[j]? with
            | none => rw [r] at e2; cases e2
            | some u =>
              rw [r] at e2
              have e2 : u = some v := e2
              rw [e2]
      obtain ⟨j, hj1, hj2⟩ := hj
      obtain ⟨l1, l2⟩ := ok.look i j x hj1 e1
      have hm := zq76x l2
      have kx := ok.free _ hm rfl
      obtain ⟨mm, _, hl⟩ := I3.loc
      obtain ⟨u, ru, lk⟩ := hl j x v l1 hj2 (kx.elim (fun z => .inr (.inl z)) fun z => .inr (.inr z))
      refine ⟨u, ru, .inr ⟨relabel_free l2, ?_⟩⟩
      rcases lk with ⟨k, _⟩ | ⟨_, c, e, z⟩
      · exfalso
        have k' : X.env.scope.names.lookup x = some .local := k
        rcases kx with kx | kx
        · rw [k'] at kx; cases kx
        · rw [k'] at kx; cases kx
      · refine ⟨c, clOf_look hm e, ?_⟩
        obtain ⟨o, ho, hd⟩ := z
        exact ⟨o, old c o ho, hd⟩
    · obtain ⟨v, o, ho, hd⟩ := I3.cell x c (clsub e)
      exact ⟨v, o, old c o ho, hd⟩
    · show (startC mp σ).length = N.length
      unfold startC
      rw [zq0x, ok.len]
  have stat : ∀ {H' : Hp}, (∀ b ∈ fp, H' b = none) -> ∀ b ∈ fp, FpOk (compX X scope HP.objs.size N { s2 with heap := HP } H3 fp) [] H' b := fun {H'} hn b hb =>
    ⟨hn b hb, (yok.exf b hb).1, yok.exfs b hb, .inl hb, (yok.exf b hb).2, fun p hp => absurd (show p ∈ ([] : List (Addr × Obj)) from hp) (by simp)⟩
  have stY : tn 0 h₁ := T.keep 0 _ _ st2 fun b hb o e => old b o (by rw [<- hHP]; exact zq9x _ e)
  have loop : codeAny (model X.prog X.w) X.A (.compLoop (.ListComp elt [⟨tg, iter, ifs, 0⟩] scope pos) 0 (.ref it) (.ref s2.heap.objs.size) (compEnvC scope (clOf X.env.cells scope.names []) HP.objs.size X.env))
      (compPost (model X.prog X.w) X.A X.xe use QQ (.ref s2.heap.objs.size) HP.objs.size) { s2 with heap := h₁, toks := s2.toks + ([] : List (Str × Value)).length } := by
    obtain ⟨hg, ht, he⟩ := hb HP.objs.size { s2 with heap := HP } H3 fp
    generalize hY : compX X scope HP.objs.size N { s2 with heap := HP } H3 fp = Y at hg ht he IY stat
    have yp : Y.prog = X.prog := by rw [<- hY]; rfl
    have yw : Y.w = X.w := by rw [<- hY]; rfl
    have yK : Y.K = X.K := by rw [<- hY]; rfl
    have yA : Y.A = X.A := by rw [<- hY]; rfl
    have yc : Y.calm = true := by rw [<- hY]; exact hc
    have yx : Y.xe = fun _ _ => False := by rw [<- hY]; rfl
    have yenv : Y.env = compEnvC scope (clOf X.env.cells scope.names []) HP.objs.size X.env := by rw [<- hY]; rfl
    rw [<- yenv]
    refine codeAny_compLoop_own (fun n s' => ∃ i σ' H', Inv Y [] σ' H' s' /\ tn i s'.heap /\ (∀ b ∈ fp, H' b = none) /\ W i n σ' H') ?_ m0 ⟨0, _, H3, IY, stY, fH3, w0⟩
    rintro n s3 ⟨i, σ3, H4, I4, st3, fr3, w3⟩
    rcases turn i n σ3 H4 w3 with ⟨stop, qn⟩ | ⟨go, Nx, hN, step⟩
    · have q0 := T.done Y yp yw yK yc i [] s3 σ3 H4 (fun _ _ => False) I4 (stat fr3) st3 stop
      rw [yA] at q0
      refine thn q0 fun r s4 ⟨hr, I5⟩ => ?_
      subst hr
      show compPost (model X.prog X.w) X.A X.xe use QQ (.ref s2.heap.objs.size) HP.objs.size (.ok .next) s4
      obtain ⟨m, hm, _⟩ := id I5.loc
      have yl : Y.env.locals = HP.objs.size := by rw [yenv]; rfl
      rw [yl] at hm
      have fC : H4 HP.objs.size = none := by have := I5.free; rw [yl] at this; exact this
      have ub := I5.base
      have ub' : Un (frs X.stack) fp H3 H4 HP s4.heap := by rw [<- hY] at ub; exact ub
      have hos : s4.os = s2.os := by have := I5.os; rw [<- hY] at this; exact this
      have hok5 : HOk X.prog X.w H4 s4.heap := by have := I5.hok; rw [yp, yw] at this; exact this
      have IX : Inv X pins σ H4 s4 := I3.call' (ch := fp) hos ub' hok5 I5.bare fun b hb => ⟨(f2 b hb).2.2.2.1, (f2 b hb).2.1, (f2 b hb).2.2.2.2.1, (f2 b hb).2.2.2.2.2⟩
      exact fin _ _ H4 s4 m IX (I3.fpOk (zq1x _) fC) hm qn
    · have q0 := T.item Y yp yw yK yc i [] s3 σ3 H4 (fun _ _ => False) I4 (stat fr3) st3 go
      rw [yA] at q0
      refine thn q0 fun r s4 ⟨u, hr, h4⟩ => ?_
      subst hr
      refine thn h4 fun _ s5 ⟨x, H5, I5, r5, y5, st5, fr5⟩ => ?_
      have I5' := I5.pinned (stat fr5) (T.obj _ _ st5)
      rw [<- yx, <- yp, <- yw, <- yA]
      refine thn (hg _ s5 σ3 H5 x u _ I5' r5 (step x H5 y5)) fun _ s6 ⟨σ6, H6, I6, q6⟩ => ?_
      refine thn (ht _ s6 σ6 H6 _ I6 q6) fun b s7 ⟨H7, I7, q7⟩ => ?_
      have again : ∀ {σ8 : St} {H8 : Hp} {s8 : Shared}, Inv Y ([] ++ pinsAt fp s5.heap) σ8 H8 s8 -> Nx σ8 H8 -> ∃ m, m < n /\ ∃ i σ' H', Inv Y [] σ' H' s8 /\ tn i s8.heap /\ (∀ b ∈ fp, H' b = none) /\ W i m σ' H' := fun {σ8 H8 s8} I8 n8 => by
        obtain ⟨m', hm, w8⟩ := hN σ8 H8 n8
        refine ⟨m', hm, i + 1, σ8, H8, I8.unpinned, T.keep _ _ _ st5 fun b hb o e => (I8.pin (b, o) (zq42x _ (zq42x _ (mem_pinsAt hb e)))).1, fun b hb => ?_, w8⟩
        obtain ⟨o, e, d⟩ := T.obj _ _ st5 b hb
        exact (I8.pin (b, o) (zq42x _ (zq42x _ (mem_pinsAt hb e)))).2.1
      cases b with
      | false =>
        rw [if_neg zq15x]
        rw [if_neg zq15x] at q7
        exact again I7 q7
      | true =>
        rw [if_pos rfl]
        rw [if_pos rfl] at q7
        refine thn (he _ s7 σ6 H7 _ I7 q7) fun v s8 ⟨y, H8, I8, r8, ys, e8, z8, n8⟩ => ?_
        refine thn (mt_append _ s8 σ6 H8 (.ref s2.heap.objs.size) [y] (.ref s2.heap.objs.size) [v] (fun _ H9 => H9 = upd H8 s2.heap.objs.size (.lst (ys ++ [y]))) I8 rfl (.cons r8 .nil) ⟨_, ys, y, rfl, rfl, e8, z8, rfl⟩) fun v9 s9 ⟨y9, H9, I9, r9, e9⟩ => ?_
        subst e9
        exact again I9 n8
  refine codeAny_compStart_list loop (T.self _ _ _ _ _ stY loop)
theorem FpOk.turned {pins : List (Addr × Obj)} {s : Shared} {σ : St} {H : Hp} {C : Addr} {h' : Heap} (I : Inv X pins σ H s) (f : FpOk X pins H C) (hs : Heap.SameBut C s.heap h') : Inv X pins σ H { s with heap := h' } :=
 I.turned (t' := s.toks) (fun b o hb e => (hs.2 b hb).trans e) f.1 f.2.1 f.2.2.2.1 f.2.2.2.2.1 f.2.2.2.2.2
theorem pe_lcomp {elt iter tg : Expr} {ifs : List Expr} {scope : Scope} {pos : Pos} {N : List Str} {mp : List (Option Nat)} {wi : TI} {g : TG} {tc : TT} {te : TE}
  (ok : CompOk X.env.scope X.N scope N mp) (hi : PI X tg iter wi)
  (hb : ∀ C s₀ H₀ fp, PG (compX X scope C N s₀ H₀ fp) tg g /\ PTs (compX X scope C N s₀ H₀ fp) ifs tc /\ PE (compX X scope C N s₀ H₀ fp) elt te) (hc : X.calm = true := by rfl)
  (hs : ∀ x, foldedSetIterable iter X.env x = pure x := by intro _; rfl) : PE X (.ListComp elt [⟨tg, iter, ifs, 0⟩] scope pos) (tComp wi g tc te mp) := by
 intro pins s σ H Q I h
 rw [eval_ListComp]
 refine comp_core (use := none) ok hc hi hb hs I h fun acc C H' s' m I' f hn q => ?_
 exact ⟨m, hn, fun h' hs' => ⟨.ref acc, H', f.turned I' hs', rfl, q⟩⟩
def tSetC (i : Nat) (t : TE) : TS := fun D σ H => t σ H fun v H' => D.nx (σ.set i (some v)) H'
theorem ps_setC {elt iter tg : Expr} {ifs : List Expr} {scope : Scope} {pos spos py : Pos} {N : List Str} {mp : List (Option Nat)} {wi : TI} {g : TG} {tc : TT} {te : TE} {i : Nat} {y : Str}
  (hN : X.N.Nodup) (hy : X.N[i]? = some y) (hk : X.env.kindOf y = some .local)
  (ok : CompOk X.env.scope X.N scope N mp) (hi : PI X tg iter wi)
  (hb : ∀ C s₀ H₀ fp, PG (compX X scope C N s₀ H₀ fp) tg g /\ PTs (compX X scope C N s₀ H₀ fp) ifs tc /\ PE (compX X scope C N s₀ H₀ fp) elt te) (hc : X.calm = true := by rfl)
  (hsw : swapsWith (.ListComp elt [⟨tg, iter, ifs, 0⟩] scope pos) (some (.Name y py)) spos.line X.env = pure true := by rfl)
  (hs : ∀ x, foldedSetIterable iter X.env x = pure x := by intro _; rfl) : PS X (.Assign [.Name y py] (.ListComp elt [⟨tg, iter, ifs, 0⟩] scope pos) spos) (tSetC i (tComp wi g tc te mp)) := by
 intro pins s σ H D I h
 rw [exec_Assign_Name_used _ _ _ _ hsw]
 refine wpAny_bind (wpAny_standAt (wpAny_bind ?_))
 show wpAny _ X.A (do let _ <- comprehension (.ListComp elt [⟨tg, iter, ifs, 0⟩] scope pos) scope X.env _ (newList []) false (eval iter X.env) (some (assign (.Name y py) X.env))) _ _ s
 refine wpAny_bind (wpAny_mono (comp_core (use := some (assign (.Name y py) X.env)) (QQ := fun _ s' => SP X pins D .next s') ok hc hi hb hs I h fun acc C H' s' m I' f hn q => ?_) (fun _ s' hq => wpAny_pure (wpAny_pure hq)) fun _ _ e => e)
 refine wpAny_assign_Name (store_ok2 (v := .ref acc) I' hN hy (.inl hk) rfl (fun s2 I2 ⟨a, sb, ha⟩ => ?_) (.inr hk))
 have hne : C ≠ a := by
  rcases ha with z | z
  ·rw [z]; exact f.2.1
  ·exact fun e => f.2.2.2.2.1 y a z e.symm
 exact ⟨m, hn.sameBut sb hne, fun h' hs' => ⟨_, H', f.turned I2 hs', q⟩⟩
end
def Sm (i : Int) : Prop := -(2 ^ 300) < i /\ i < 2 ^ 300
theorem sm_bits {i : Int} (h : Sm i) : Builtin.Int.intBits i <= 2 ^ 20 := by
 obtain ⟨h1, h2⟩ := h
 unfold Builtin.Int.intBits
 split
 ·exact zq36x _
 ·rename_i h0
  have hn : i.natAbs ≠ 0 := by
   intro e
   apply h0
   simp
   omega
  have h3 : i.natAbs < 2 ^ 300 := by omega
  have h4 : i.natAbs.log2 < 300 := (zq127x hn).mpr h3
  have : (2 : Nat) ^ 20 = 1048576 := by decide
  omega
theorem sm_pylong {x y : Int} (h : Sm y) : Builtin.divisionGoesByPylong x y = false := by
 refine PyProof.noPylong_of_log2 ?_
 obtain ⟨h1, h2⟩ := h
 by_cases h0 : y.natAbs = 0
 ·rw [h0]; decide +kernel
 ·have h3 : y.natAbs < 2 ^ 300 := by omega
  have h4 : y.natAbs.log2 < 300 := (zq127x h0).mpr h3
  omega
section
variable {X : Cx}
theorem op_fdivS : OpR X (binaryOp .FloorDiv) (rI (fun _ j => 0 < j /\ Sm j) fun i j => .int (i / j)) := opI fun i j _ _ _ _ _ hc q =>
 floordiv_int (by omega) (by rw [Int.fdiv_eq_ediv_of_nonneg _ (by omega)]; exact q) (.inl (sm_pylong hc.2))
theorem mt_bits : MtR X "int.bit_length" (fun x xs H Q => ∃ i, x = .int i /\ xs = [] /\ Q (.int (Builtin.Int.intBits i)) H) := by
 intro pins s σ H x xs v us Q I rx rv h
 obtain ⟨i, rfl, rfl, q⟩ := h
 obtain ⟨t, rfl⟩ := rx
 cases rv
 exact call_int_bit_length ⟨.int _, H, I.tok _, ⟨_, rfl⟩, q⟩
def rIsi (K : PySem.W.Frag) : List V -> Hp -> VK -> Prop := fun xs H Q => ∃ x T t b, xs = [x, .ty T] /\ TyOf K H x t /\ PySem.W.kitOne K t (.type T) = some b /\ Q (.bl b) H
theorem call_isi : CallR X (.builtin "isinstance") (rIsi X.K) := by
 intro pins s σ H xs us Q I rv h
 obtain ⟨x, T, t, b, rfl, ty, e, q⟩ := h
 obtain ⟨u, v, rfl, ru, rv⟩ := rv.two
 cases (show v = Value.type T from rv)
 exact isinst_ok I ru ty e fun tk => ⟨.bl b, H, I.tok tk, rfl, q⟩
def KeyD : PyData -> Key -> Prop
 | .int i, k => k = .inl i
 | .str x, k => k = .inr x
 | _, _ => False
mutual
def IsD (nb : Addr -> Prop) (H : Hp) : PyData -> V -> Prop
 | .none, v => v = .non
 | .bool b, v => v = .bl b
 | .int i, v => v = .int i
 | .str x, v => v = .str x
 | .list ds, v => ∃ a xs, v = .ref a /\ ¬ nb a /\ H a = some (.lst xs) /\ IsDs nb H ds xs
 | .tuple ds, v => ∃ a xs, v = .ref a /\ ¬ nb a /\ H a = some (.tup xs) /\ IsDs nb H ds xs
 | .dict kvs, v => ∃ a ps, v = .ref a /\ ¬ nb a /\ Rd H a (.dK ps) /\ IsKs nb H kvs ps
termination_by structural d => d
def IsDs (nb : Addr -> Prop) (H : Hp) : List PyData -> List V -> Prop
 | [], xs => xs = []
 | d :: ds, xs => ∃ y ys, xs = y :: ys /\ IsD nb H d y /\ IsDs nb H ds ys
termination_by structural d => d
def IsKs (nb : Addr -> Prop) (H : Hp) : List (PyData × PyData) -> List (Key × V) -> Prop
 | [], xs => xs = []
 | d :: ds, xs => ∃ p ys, xs = p :: ys /\ IsK nb H d p /\ IsKs nb H ds ys
termination_by structural d => d
def IsK (nb : Addr -> Prop) (H : Hp) : PyData × PyData -> Key × V -> Prop
 | (k, d), p => KeyD k p.1 /\ IsD nb H d p.2
termination_by structural d => d
end
def But (nb : Addr -> Prop) (H H' : Hp) : Prop := ∀ a o, ¬ nb a -> H a = some o -> H' a = some o
def Nb (b : Addr) : Addr -> Prop := fun a => a = b
section
variable {nb nb' : Addr -> Prop} {H H1 H2 H' : Hp} {a b c p : Addr} {o : HO} {xs : List V}
theorem But.refl (nb : Addr -> Prop) (H : Hp) : But nb H H := fun _ _ _ h => h
theorem But.trans (x : But nb H H1) (y : But nb H1 H2) : But nb H H2 := fun a o n h => y a o n (x a o n h)
theorem But.of (x : Same H H') : But nb H H' := fun a o _ h => x a o h
theorem But.set (h : nb p) : But nb H (upd H p o) := fun a u n q => by rw [upd_ne (fun e => n (by rw [e]; exact h))]; exact q
theorem But.rd {u : HO} (x : But nb H H') (n : ¬ nb a) (h : Rd H a u) : Rd H' a u := by
 rcases h with h | ⟨o, h⟩
 ·exact .inl (x _ _ n h)
 ·exact .inr ⟨o, x _ _ n h⟩
end
mutual
theorem IsD.keep {nb : Addr -> Prop} {H H' : Hp} (x : But nb H H') : ∀ {d : PyData} {v : V}, IsD nb H d v -> IsD nb H' d v
 | .none, _, h => by unfold IsD at h ⊢; exact h
 | .bool _, _, h => by unfold IsD at h ⊢; exact h
 | .int _, _, h => by unfold IsD at h ⊢; exact h
 | .str _, _, h => by unfold IsD at h ⊢; exact h
 | .list ds, _, h => by unfold IsD at h ⊢; obtain ⟨a, xs, e, n, s, r⟩ := h; exact ⟨a, xs, e, n, x _ _ n s, IsDs.keep x r⟩
 | .tuple ds, _, h => by unfold IsD at h ⊢; obtain ⟨a, xs, e, n, s, r⟩ := h; exact ⟨a, xs, e, n, x _ _ n s, IsDs.keep x r⟩
 | .dict kvs, _, h => by unfold IsD at h ⊢; obtain ⟨a, xs, e, n, s, r⟩ := h; exact ⟨a, xs, e, n, x.rd n s, IsKs.keep x r⟩
theorem IsDs.keep {nb : Addr -> Prop} {H H' : Hp} (x : But nb H H') : ∀ {ds : List PyData} {vs : List V}, IsDs nb H ds vs -> IsDs nb H' ds vs
 | [], _, h => by unfold IsDs at h ⊢; exact h
 | d :: ds, _, h => by unfold IsDs at h ⊢; obtain ⟨y, ys, e, h1, h2⟩ := h; exact ⟨y, ys, e, IsD.keep x h1, IsDs.keep x h2⟩
theorem IsKs.keep {nb : Addr -> Prop} {H H' : Hp} (x : But nb H H') : ∀ {ds : List (PyData × PyData)} {vs : List (Key × V)}, IsKs nb H ds vs -> IsKs nb H' ds vs
 | [], _, h => by unfold IsKs at h ⊢; exact h
 | d :: ds, _, h => by unfold IsKs at h ⊢; obtain ⟨y, ys, e, h1, h2⟩ := h; exact ⟨y, ys, e, IsK.keep x h1, IsKs.keep x h2⟩
theorem IsK.keep {nb : Addr -> Prop} {H H' : Hp} (x : But nb H H') : ∀ {d : PyData × PyData} {v : Key × V}, IsK nb H d v -> IsK nb H' d v
 | (k, d), _, h => by unfold IsK at h ⊢; exact ⟨h.1, IsD.keep x h.2⟩
end
mutual
theorem IsD.av {nb nb' : Addr -> Prop} {H : Hp} (x : ∀ a, nb' a -> nb a) : ∀ {d : PyData} {v : V}, IsD nb H d v -> IsD nb' H d v
 | .none, _, h => by unfold IsD at h ⊢; exact h
 | .bool _, _, h => by unfold IsD at h ⊢; exact h
 | .int _, _, h => by unfold IsD at h ⊢; exact h
 | .str _, _, h => by unfold IsD at h ⊢; exact h
 | .list ds, _, h => by unfold IsD at h ⊢; obtain ⟨a, xs, e, n, s, r⟩ := h; exact ⟨a, xs, e, fun z => n (x a z), s, IsDs.av x r⟩
 | .tuple ds, _, h => by unfold IsD at h ⊢; obtain ⟨a, xs, e, n, s, r⟩ := h; exact ⟨a, xs, e, fun z => n (x a z), s, IsDs.av x r⟩
 | .dict kvs, _, h => by unfold IsD at h ⊢; obtain ⟨a, xs, e, n, s, r⟩ := h; exact ⟨a, xs, e, fun z => n (x a z), s, IsKs.av x r⟩
theorem IsDs.av {nb nb' : Addr -> Prop} {H : Hp} (x : ∀ a, nb' a -> nb a) : ∀ {ds : List PyData} {vs : List V}, IsDs nb H ds vs -> IsDs nb' H ds vs
 | [], _, h => by unfold IsDs at h ⊢; exact h
 | d :: ds, _, h => by unfold IsDs at h ⊢; obtain ⟨y, ys, e, h1, h2⟩ := h; exact ⟨y, ys, e, IsD.av x h1, IsDs.av x h2⟩
theorem IsKs.av {nb nb' : Addr -> Prop} {H : Hp} (x : ∀ a, nb' a -> nb a) : ∀ {ds : List (PyData × PyData)} {vs : List (Key × V)}, IsKs nb H ds vs -> IsKs nb' H ds vs
 | [], _, h => by unfold IsKs at h ⊢; exact h
 | d :: ds, _, h => by unfold IsKs at h ⊢; obtain ⟨y, ys, e, h1, h2⟩ := h; exact ⟨y, ys, e, IsK.av x h1, IsKs.av x h2⟩
theorem IsK.av {nb nb' : Addr -> Prop} {H : Hp} (x : ∀ a, nb' a -> nb a) : ∀ {d : PyData × PyData} {v : Key × V}, IsK nb H d v -> IsK nb' H d v
 | (k, d), _, h => by unfold IsK at h ⊢; exact ⟨h.1, IsD.av x h.2⟩
end
mutual
theorem IsD.fresh {nb : Addr -> Prop} {H : Hp} {p : Addr} (hp : H p = none) : ∀ {d : PyData} {v : V}, IsD nb H d v -> IsD (fun a => nb a \/ a = p) H d v
 | .none, _, h => by unfold IsD at h ⊢; exact h
 | .bool _, _, h => by unfold IsD at h ⊢; exact h
 | .int _, _, h => by unfold IsD at h ⊢; exact h
 | .str _, _, h => by unfold IsD at h ⊢; exact h
 | .list ds, _, h => by unfold IsD at h ⊢; obtain ⟨a, xs, e, n, s, r⟩ := h; exact ⟨a, xs, e, fun z => z.elim n (ne_of_none s hp), s, IsDs.fresh hp r⟩
 | .tuple ds, _, h => by unfold IsD at h ⊢; obtain ⟨a, xs, e, n, s, r⟩ := h; exact ⟨a, xs, e, fun z => z.elim n (ne_of_none s hp), s, IsDs.fresh hp r⟩
 | .dict kvs, _, h => by unfold IsD at h ⊢; obtain ⟨a, xs, e, n, s, r⟩ := h; exact ⟨a, xs, e, fun z => z.elim n (s.elim (fun s => ne_of_none s hp) fun ⟨_, s⟩ => ne_of_none s hp), s, IsKs.fresh hp r⟩
theorem IsDs.fresh {nb : Addr -> Prop} {H : Hp} {p : Addr} (hp : H p = none) : ∀ {ds : List PyData} {vs : List V}, IsDs nb H ds vs -> IsDs (fun a => nb a \/ a = p) H ds vs
 | [], _, h => by unfold IsDs at h ⊢; exact h
 | d :: ds, _, h => by unfold IsDs at h ⊢; obtain ⟨y, ys, e, h1, h2⟩ := h; exact ⟨y, ys, e, IsD.fresh hp h1, IsDs.fresh hp h2⟩
theorem IsKs.fresh {nb : Addr -> Prop} {H : Hp} {p : Addr} (hp : H p = none) : ∀ {ds : List (PyData × PyData)} {vs : List (Key × V)}, IsKs nb H ds vs -> IsKs (fun a => nb a \/ a = p) H ds vs
 | [], _, h => by unfold IsKs at h ⊢; exact h
 | d :: ds, _, h => by unfold IsKs at h ⊢; obtain ⟨y, ys, e, h1, h2⟩ := h; exact ⟨y, ys, e, IsK.fresh hp h1, IsKs.fresh hp h2⟩
theorem IsK.fresh {nb : Addr -> Prop} {H : Hp} {p : Addr} (hp : H p = none) : ∀ {d : PyData × PyData} {v : Key × V}, IsK nb H d v -> IsK (fun a => nb a \/ a = p) H d v
 | (k, d), _, h => by unfold IsK at h ⊢; exact ⟨h.1, IsD.fresh hp h.2⟩
end
mutual
theorem IsD.reads {pins : List (Addr × Obj)} {σ : St} {H : Hp} {s : Shared} {nb : Addr -> Prop} (I : Inv X pins σ H s) : ∀ {d : PyData} {v : V} {u : Value}, IsD nb H d v -> RelV v u -> d.canLay0 = true -> ∃ as, Reads s.heap u d as
  | .none, _, _, h, r, _ => by unfold IsD at h; subst h; cases r; exact ⟨_, .none⟩
  | .bool _, _, _, h, r, _ => by unfold IsD at h; subst h; cases r; exact ⟨_, .bool _⟩
  | .int _, _, _, h, r, _ => by unfold IsD at h; subst h; obtain ⟨t, rfl⟩ := r; exact ⟨_, .int _ _⟩
  | .str _, _, _, h, r, _ => by unfold IsD at h; subst h; obtain ⟨t, rfl⟩ := r; exact ⟨_, .str _ _⟩
  | .list ds, _, _, h, r, hc0 => by
    unfold IsD at h
    obtain ⟨a, xs, rfl, n, s, q⟩ := h
    cases r
    obtain ⟨its, rv, p, hz⟩ := I.list (SqL.of s)
    obtain ⟨as, ra⟩ := IsDs.reads I q rv (by simpa only [PyData.canLay0] using hc0)
    obtain ⟨o, ho, hc, m, hd⟩ := p.isList
    exact ⟨_, .list ho hc hd (by simpa using ra)⟩
  | .tuple ds, _, _, h, r, hc0 => by
    unfold IsD at h
    obtain ⟨a, xs, rfl, n, s, q⟩ := h
    cases r
    obtain ⟨its, rv, p, hz⟩ := I.tuple (SqT.of s)
    obtain ⟨as, ra⟩ := IsDs.reads I q rv (by simpa only [PyData.canLay0] using hc0)
    obtain ⟨o, ho, hc, m, hd⟩ := p
    exact ⟨_, .tuple ho hc hd (by simpa using ra)⟩
  | .dict _, _, _, h, r, hc0 => by simp [PyData.canLay0] at hc0
theorem IsDs.reads {pins : List (Addr × Obj)} {σ : St} {H : Hp} {s : Shared} {nb : Addr -> Prop} (I : Inv X pins σ H s) : ∀ {ds : List PyData} {vs : List V} {us : List Value}, IsDs nb H ds vs -> Vals vs us -> PyData.canLayAll0 ds = true -> ∃ as, ReadsAll s.heap us ds as
  | [], _, _, h, r, _ => by unfold IsDs at h; subst h; cases r; exact ⟨_, .nil⟩
  | d :: ds, _, _, h, r, hc0 => by
    rw [PyData.canLayAll0, zq28x] at hc0
    unfold IsDs at h
    obtain ⟨y, ys, rfl, h1, h2⟩ := h
    cases r with
    | cons r1 r2 =>
      obtain ⟨as, q1⟩ := IsD.reads I h1 r1 hc0.1
      obtain ⟨bs, q2⟩ := IsDs.reads I h2 r2 hc0.2
      exact ⟨_, .cons q1 q2⟩
end
def rEqD (neg : Bool) : R2 := fun x y H Q => ∃ nb d e, IsD nb H d x /\ IsD nb H e y /\ SeqAt.shaped d = true /\ SeqAt.shaped e = true /\ Q (.bl (PyData.eqv d e != neg)) H
theorem op_eqD (hu : X.A.units + 64 < cLine) : OpR X (compareOp .Eq) (rEqD false) := by
 intro pins s σ H x y v u Q I rx ry h
 obtain ⟨nb, d, e, h1, h2, h3, h4, q⟩ := h
 obtain ⟨as, r1⟩ := h1.reads I rx (zq109x h3)
 obtain ⟨bs, r2⟩ := h2.reads I ry (zq109x h4)
 exact eq_dataH r1 r2 h3 h4 hu ⟨.bl _, H, I, rfl, by simpa using q⟩
theorem op_neD (hu : X.A.units + 64 < cLine) : OpR X (compareOp .NotEq) (rEqD true) := by
 intro pins s σ H x y v u Q I rx ry h
 obtain ⟨nb, d, e, h1, h2, h3, h4, q⟩ := h
 obtain ⟨as, r1⟩ := h1.reads I rx (zq109x h3)
 obtain ⟨bs, r2⟩ := h2.reads I ry (zq109x h4)
 exact ne_dataH r1 r2 h3 h4 hu ⟨.bl _, H, I, rfl, by simpa using q⟩
end
structure Callee (P : Program) (w : World) (K : PySem.W.Frag) (mg : Str -> Option Value) (base : Heap) (x : Str) (k : Nat) (ps : List Str) (sp : Sp) : Prop where
 ex : ∃ f fd, FnOk P w K mg base CX0 k f fd ps sp /\ Binds K fd ps [] /\ PySem.W.keepIn K (.ref f) = true /\ mg x = some (.ref f)
theorem pe_callC {X : Cx} {x : Str} {k : Nat} {ps : List Str} {sp : Sp} {p pos : Pos} {e : Expr} {es : List Expr} {t : TA} (c : Callee X.prog X.w X.K X.mg X.base x k ps sp) (hr : Room k X.A) (ha : PA X (e :: es) t) (hg : Gl X x := by rfl)
  (hdb : (x == ("__debug__" : Str)) = false := by decide) (he : starEach (e :: es) X.env = (false, eval e X.env) :: starEach es X.env := by rfl) (hpl : (backTo pos (starEach es X.env)).any (·.1) = false := by rfl) :
  PE X (.Call (.Name x p) (e :: es) [] pos) (tCall sp [] E0 t) := by
 obtain ⟨f, fd, F, b, kp, m⟩ := c.ex
 exact pe_call F hr hg m kp b .nil pass0 ha hdb he hpl
theorem Callee.mk' {P : Program} {w : World} {K : PySem.W.Frag} {mg : Str -> Option Value} {base : Heap} {x : Str} {st : Stmt} {k : Nat} {ps : List Str} {sp : Sp} {f : Addr} {fd : FuncData} (F : Fun K x x st f fd) (ok : FnOk P w K mg base CX0 k f fd ps sp) (b : Binds K fd ps [])
  (m : mg x = some (.ref f)) : Callee P w K mg base x k ps sp := ⟨f, fd, ok, b, F.kp, m⟩
def DfAt (K : PySem.W.Frag) (x q : Str) (st : Stmt) (f : Addr) : Prop := PySem.W.nsIn K mainGlobals x = some (some (.ref f)) /\ ∃ fd, Fun K x q st f fd
theorem DfAt.mk {K : PySem.W.Frag} {x q : Str} {st : Stmt} {f : Addr} {oc : Value} {od an : Option Addr} {osl : Array (Option Value)} {kV doc pm cdv ct : Value} (a : PySem.W.nsIn K mainGlobals x = some (some (.ref f))) (l : K.lookup f = some ⟨oc, od, .func (PySem.W.fnOf x q (defArgs st) (defBody st) (defScope st) .none kV doc pm an cdv ct), osl⟩)
  (c : PySem.W.codeIn K cdv q = true) (k : PySem.W.keepIn K (.ref f) = true) : DfAt K x q st f := ⟨a, _, fun_mk l c k⟩
end L2
set_option maxRecDepth 100000
set_option maxHeartbeats 1000000
namespace L2
open PySem PySem.Spec PyProof.Rows
section
variable {X : Cx}
theorem op_mulA : OpR X (binaryOp .Mult) (rI (fun i j => CMul i j \/ (Sm i /\ Sm j)) fun i j => .int (i * j)) := opI fun _ _ _ _ _ _ _ hc q => mul_int q (by
 rcases hc with hc | hc
 ·exact hc.ok
 ·exact IntMulOk.of_bits (sm_bits hc.1) (sm_bits hc.2))
end
def BagAt (H : Hp) (b l : Addr) : Prop := ∃ (ns : List Int) (i c st n : Int), H b = some (.lst [.ref l, .int i, .int c, .int st, .int n]) /\ H l = some (.lst (ns.map V.int)) /\
 (∀ x ∈ ns, 0 <= x /\ x < 10 ^ 60) /\ ns.length <= 63 /\ 0 <= i /\ 0 <= c /\ c < 10 ^ 60 /\ 0 <= st /\ st < 2147483647
theorem bag_ne {H : Hp} {b l : Addr} {ns : List Int} {i c st n : V} (h : H b = some (.lst [.ref l, i, c, st, n])) (h' : H l = some (.lst (ns.map V.int))) : l ≠ b := by
 intro e
 subst e
 rw [h] at h'
 have e := HO.lst.inj (zq39x h')
 cases ns with
 | nil => cases e
 | cons x r => rw [zq7x] at e; cases (List.cons.inj e).1
theorem BagAt.put {H : Hp} {b l : Addr} {ns : List Int} {i c st n : Int} (hl : l ≠ b) (h' : H l = some (.lst (ns.map V.int))) (h1 : ∀ x ∈ ns, 0 <= x /\ x < 10 ^ 60) (h2 : ns.length <= 63)
  (h3 : 0 <= i) (h4 : 0 <= c) (h5 : c < 10 ^ 60) (h6 : 0 <= st) (h7 : st < 2147483647) : BagAt (upd H b (.lst [.ref l, .int i, .int c, .int st, .int n])) b l :=
 ⟨ns, i, c, st, n, upd_same, by rw [upd_ne hl]; exact h', h1, h2, h3, h4, h5, h6, h7⟩
theorem BagAt.ne {H : Hp} {b l p : Addr} (h : BagAt H b l) (hp : H p = none) : p ≠ b /\ p ≠ l := by
 obtain ⟨_, _, _, _, _, h1, h2, _⟩ := h
 exact ⟨(fun e => by rw [e, h1] at hp; cases hp), (fun e => by rw [e, h2] at hp; cases hp)⟩
theorem BagAt.put2 {H : Hp} {b l p : Addr} {o : HO} (h : BagAt H b l) (hp : p ≠ b /\ p ≠ l) : BagAt (upd H p o) b l := by
 obtain ⟨ns, i, c, st, n, h1, h2, r⟩ := h
 exact ⟨ns, i, c, st, n, by rw [upd_ne (zq18x hp.1)]; exact h1, by rw [upd_ne (zq18x hp.2)]; exact h2, r⟩
theorem BagAt.same {H H' : Hp} {b l : Addr} (h : BagAt H b l) (s : Same H H') : BagAt H' b l := by
 obtain ⟨ns, i, c, st, n, h1, h2, r⟩ := h
 exact ⟨ns, i, c, st, n, s _ _ h1, s _ _ h2, r⟩
def spDraw : Sp := fun vs H Q _ => ∃ (b l : Addr) (many : Int), vs = [.ref b, .int many] /\ BagAt H b l /\ 0 < many /\ Sm many /\ ∀ (r : Int) (H' : Hp), 0 <= r -> r < many -> But (Nb b) H H' -> BagAt H' b l -> Q (.int r) H'
def spBag (K : PySem.W.Frag) : Sp := fun vs H Q _ => ∃ (a : Addr) (ns : List Int), vs = [.ref a] /\ SqL K H a (ns.map V.int) /\ ns.length <= 63 /\ ∀ (b l : Addr) (H' : Hp), Same H H' -> H b = none -> BagAt H' b l -> Q (.ref b) H'
theorem atI_some {α : Type} {xs : List α} {i : Int} {v : α} (h0 : 0 <= i) (h : xs[i.toNat]? = some v) : atI xs i = some v := by
 have e : i = ((i.toNat : Nat) : Int) := by omega
 rw [e]
 exact atI_nat h
theorem same_new {H : Hp} {p : Addr} {o : HO} (h : H p = none) : Same H (upd H p o) := fun b u q => by rw [upd_ne (ne_of_none q h)]; exact q
section
variable {nb : Addr -> Prop} {H H' : Hp}
theorem IsDs.length : ∀ {ds : List PyData} {xs : List V}, IsDs nb H ds xs -> xs.length = ds.length
 | [], _, h => by unfold IsDs at h; subst h; rfl
 | d :: ds, _, h => by unfold IsDs at h; obtain ⟨y, ys, rfl, _, h2⟩ := h; simp [IsDs.length h2]
theorem IsDs.get : ∀ {ds : List PyData} {xs : List V} {i : Nat} {d : PyData}, IsDs nb H ds xs -> ds[i]? = some d -> ∃ x, xs[i]? = some x /\ IsD nb H d x
 | [], _, _, _, _, e => by simp at e
 | d :: ds, _, 0, _, h, e => by unfold IsDs at h; obtain ⟨y, ys, rfl, h1, h2⟩ := h; simp at e; subst e; exact ⟨y, rfl, h1⟩
 | d :: ds, _, i + 1, _, h, e => by unfold IsDs at h; obtain ⟨y, ys, rfl, h1, h2⟩ := h; simpa using IsDs.get (i := i) h2 (by simpa using e)
theorem IsDs.snoc {d : PyData} {x : V} (hd : IsD nb H d x) : ∀ {ds : List PyData} {xs : List V}, IsDs nb H ds xs -> IsDs nb H (ds ++ [d]) (xs ++ [x])
 | [], _, h => by unfold IsDs at h; subst h; unfold IsDs; exact ⟨x, [], rfl, hd, by unfold IsDs; rfl⟩
 | e :: ds, _, h => by unfold IsDs at h; obtain ⟨y, ys, rfl, h1, h2⟩ := h; show IsDs nb H (e :: (ds ++ [d])) _; unfold IsDs; exact ⟨y, ys ++ [x], rfl, h1, IsDs.snoc hd h2⟩
theorem IsDs.append : ∀ {ds es : List PyData} {xs ys : List V}, IsDs nb H ds xs -> IsDs nb H es ys -> IsDs nb H (ds ++ es) (xs ++ ys)
 | [], _, _, _, h, h' => by unfold IsDs at h; subst h; exact h'
 | e :: ds, es, _, zs, h, h' => by unfold IsDs at h; obtain ⟨y, ys, rfl, h1, h2⟩ := h; show IsDs nb H (e :: (ds ++ es)) _; unfold IsDs; exact ⟨y, ys ++ zs, rfl, h1, IsDs.append h2 h'⟩
theorem IsDs.take : ∀ {ds : List PyData} {xs : List V} (n : Nat), IsDs nb H ds xs -> IsDs nb H (ds.take n) (xs.take n)
 | _, _, 0, _ => by simp only [List.take_zero]; unfold IsDs; rfl
 | [], _, n + 1, h => by unfold IsDs at h; subst h; simp only [List.take_nil]; unfold IsDs; rfl
 | d :: ds, _, n + 1, h => by unfold IsDs at h; obtain ⟨y, ys, rfl, h1, h2⟩ := h; simp only [List.take_succ_cons]; unfold IsDs; exact ⟨y, _, rfl, h1, IsDs.take n h2⟩
theorem IsDs.drop : ∀ {ds : List PyData} {xs : List V} (n : Nat), IsDs nb H ds xs -> IsDs nb H (ds.drop n) (xs.drop n)
 | _, _, 0, h => h
 | [], _, n + 1, h => by unfold IsDs at h; subst h; simp only [List.drop_nil]; unfold IsDs; rfl
 | d :: ds, _, n + 1, h => by unfold IsDs at h; obtain ⟨y, ys, rfl, h1, h2⟩ := h; simp only [List.drop_succ_cons]; exact IsDs.drop n h2
theorem IsDs.nil : IsDs nb H [] [] := by unfold IsDs; rfl
theorem IsDs.cons {d : PyData} {x : V} {ds : List PyData} {xs : List V} (h1 : IsD nb H d x) (h2 : IsDs nb H ds xs) : IsDs nb H (d :: ds) (x :: xs) := by unfold IsDs; exact ⟨x, xs, rfl, h1, h2⟩
theorem IsD.int (i : Int) : IsD nb H (.int i) (.int i) := by unfold IsD; rfl
theorem IsD.non : IsD nb H .none .non := by unfold IsD; rfl
theorem IsD.bl (b : Bool) : IsD nb H (.bool b) (.bl b) := by unfold IsD; rfl
theorem IsD.lst {a : Addr} {ds : List PyData} {xs : List V} (n : ¬ nb a) (h : H a = some (.lst xs)) (hd : IsDs nb H ds xs) : IsD nb H (.list ds) (.ref a) := by unfold IsD; exact ⟨a, xs, rfl, n, h, hd⟩
theorem IsD.tup {a : Addr} {ds : List PyData} {xs : List V} (n : ¬ nb a) (h : H a = some (.tup xs)) (hd : IsDs nb H ds xs) : IsD nb H (.tuple ds) (.ref a) := by unfold IsD; exact ⟨a, xs, rfl, n, h, hd⟩
theorem IsD.ofL {v : V} {ds : List PyData} (h : IsD nb H (.list ds) v) : ∃ a xs, v = .ref a /\ ¬ nb a /\ H a = some (.lst xs) /\ IsDs nb H ds xs := by unfold IsD at h; exact h
theorem IsD.ofT {v : V} {ds : List PyData} (h : IsD nb H (.tuple ds) v) : ∃ a xs, v = .ref a /\ ¬ nb a /\ H a = some (.tup xs) /\ IsDs nb H ds xs := by unfold IsD at h; exact h
theorem IsD.ofI {v : V} {i : Int} (h : IsD nb H (.int i) v) : v = .int i := by unfold IsD at h; exact h
theorem IsD.ofN {v : V} (h : IsD nb H .none v) : v = .non := by unfold IsD at h; exact h
end
def spWhole : Sp := fun vs H Q _ => ∃ i : Int, vs = [.int i] /\ Q (.bl true) H
def spLaw (K : PySem.W.Frag) : Sp := fun vs H Q _ => ∃ (a : Addr) (ns : List Int), vs = [.ref a] /\ SqL K H a (ns.map V.int) /\ ns.length <= 63 /\ ∀ H', Q (.bl true) H'
end L2
set_option maxRecDepth 100000
set_option maxHeartbeats 1000000
namespace L2
open PySem PySem.Spec PyProof.Rows
def mkL (Q : VK) : List V -> Hp -> Prop := fun xs H1 => xs.length <= sizeLine /\ ∀ p, H1 p = none -> Q (.ref p) (upd H1 p (.lst xs))
def rListOf (K : PySem.W.Frag) : List V -> Hp -> VK -> Prop := fun xs H Q => ∃ p ys, xs = [.ref p] /\ (SqL K H p ys \/ SqT K H p ys) /\ ∀ l, H l = none -> Q (.ref l) (upd H l (.lst ys))
theorem call_listM {X : Cx} : CallR X (.type "list") (rListOf X.K) := call_list_of
def rIs : R2 := fun x y H Q => y = .non /\ Q (.bl (decide (x = .non))) H
def intOf : Expr -> Option Int
 | .Constant (.int i) _ _ => some i
 | _ => none
theorem intOf_eq {e : Expr} {i : Int} (h : intOf e = some i) : ∃ k p, e = .Constant (.int i) k p := by
 unfold intOf at h
 split at h
 ·cases h; exact ⟨_, _, rfl⟩
 ·cases h
def constInts : List Expr -> Option (List Int)
 | [] => some []
 | e :: r => (intOf e).bind fun i => (constInts r).map (i :: ·)
def tInts (is : List Int) : TA := fun _ H Q => Q (is.map V.int) H
theorem pa_consts {X : Cx} : ∀ {es : List Expr} {is : List Int}, constInts es = some is -> PA X es (tInts is) := by
  intro es
  induction es with
  | nil =>
    intro is h
    have e : is = [] := by simpa [constInts] using h.symm
    subst e
    exact pa_nil
  | cons e r ih =>
    intro is h
    unfold constInts at h
    cases hi : intOf e with
    | none => rw [hi] at h; cases h
    | some i =>
      rw [hi] at h
      obtain ⟨k, p, rfl⟩ := intOf_eq hi
      obtain ⟨js, hj, rfl⟩ := zq46x.mp (show (constInts r).map (i :: ·) = some is from h)
      exact pa_cons (te := tC (.int i)) (t := tInts js) pe_int (ih hj)
theorem ps_setInts {X : Cx} {i : Nat} {x : Str} {es : List Expr} {is : List Int} {p1 p2 p3 : Pos} (hN : X.N.Nodup) (hi : X.N[i]? = some x) (hx : Loc X.env.scope x) (h : constInts es = some is) (hf : X.fn x = true \/ X.env.scope.names.lookup x = some .local) :
  PS X (.Assign [.Name x p1] (.List es p2) p3) (tAsg (tLst (tInts is)) (gName i)) := ps_set hN hi hx (pe_lst (pa_consts h)) rfl hf
namespace R
section
variable {σ : St} {H : Hp} {Q : VK} {D : Ends} {ta tb te : TE} {K : PySem.W.Frag}
theorem seq {t u : TS} (h : t { D with nx := u D } σ H) : tSeq t u D σ H := h
theorem asg {g : TG} (h : te σ H fun x H1 => g x σ H1 D.nx) : tAsg te g D σ H := h
theorem ifS {c : TT} {t u : TS} (h : c σ H fun b H1 => if b = true then t D σ H1 else u D σ H1) : tIfS c t u D σ H := h
theorem ret (h : te σ H D.rt) : tRet te D σ H := h
theorem drop (h : te σ H fun _ H1 => D.nx σ H1) : tDrop te D σ H := h
theorem next (h : D.nx σ H) : tNext D σ H := h
theorem var {i : Nat} {v : V} (e : σ[i]? = some (some v)) (h : Q v H) : tVar i σ H Q := ⟨v, e, h⟩
theorem c {v : V} (h : Q v H) : tC v σ H Q := h
theorem op {r : R2} (h : ta σ H fun x H1 => tb σ H1 fun y H2 => r x y H2 Q) : tOp r ta tb σ H Q := h
theorem test {q : Bool -> Hp -> Prop} (h : te σ H fun x H' => ∃ k, x = .bl k /\ q k H') : tTest te σ H q := h
theorem bl {P : Bool -> Prop} {b : Bool} (h : P b) : ∃ k, V.bl b = .bl k /\ P k := ⟨b, rfl, h⟩
theorem and {t u : TT} {q : Bool -> Hp -> Prop} (h : t σ H fun c H1 => if c = true then u σ H1 q else q false H1) : tAnd t u σ H q := h
theorem ifE {t : TT} (h : t σ H fun c H1 => if c = true then ta σ H1 Q else tb σ H1 Q) : tIf t ta tb σ H Q := h
theorem cb {r : List V -> Hp -> VK -> Prop} {t : TA} (h : t σ H fun vs H1 => r vs H1 Q) : tCB r t σ H Q := h
theorem call {sp : Sp} {t : TA} (h : t σ H fun vs H1 => sp (vs ++ []) H1 Q E0) : tCall sp [] E0 t σ H Q := h
theorem cints {is : List Int} {q : List V -> Hp -> Prop} (h : q (is.map V.int) H) : tInts is σ H q := h
theorem nil {q : List V -> Hp -> Prop} (h : q [] H) : tNil σ H q := h
theorem cons {t : TA} {q : List V -> Hp -> Prop} (h : ta σ H fun x H1 => t σ H1 fun xs H2 => q (x :: xs) H2) : tCons ta t σ H q := h
theorem lst {t : TA} (h : t σ H (mkL Q)) : tLst t σ H Q := h
theorem sl {r : V -> Option Int -> Option Int -> Hp -> VK -> Prop} {tl th : TO} (h : te σ H fun x H1 => tl σ H1 fun l H2 => th σ H2 fun u H3 => r x l u H3 Q) : tSl r te tl th σ H Q := h
theorem noPart {q : Option Int -> Hp -> Prop} (h : q none H) : tNoPart σ H q := h
theorem part {q : Option Int -> Hp -> Prop} (h : te σ H fun x H1 => ∃ i, x = .int i /\ q (some i) H1) : tPart te σ H q := h
theorem partI {P : Int -> Prop} {i : Int} (h : P i) : ∃ j, V.int i = .int j /\ P j := ⟨i, rfl, h⟩
theorem bm0 {T : String} {r : V -> List V -> Hp -> VK -> Prop} (h : te σ H fun x H1 => tyV K T x H1 /\ r x [] H1 Q) : tBM0 K T r te σ H Q := h
theorem bm {T : String} {r : V -> List V -> Hp -> VK -> Prop} {t : TA} (h : te σ H fun x H1 => tyV K T x H1 /\ t σ H1 fun xs H2 => r x xs H2 Q) : tBM K T r te t σ H Q := h
theorem tyInt {i : Int} {A : Prop} (h : A) : tyV K "int" (.int i) H /\ A := ⟨rfl, h⟩
theorem gname {i : Nat} {v : V} {q : St -> Hp -> Prop} (h : q (σ.set i (some v)) H) : gName i v σ H q := h
theorem gsub {to ti : TE} {t : TSet} {v : V} {q : St -> Hp -> Prop} (h : to σ H fun o H1 => ti σ H1 fun i H2 => t o i v H2 fun H3 => q σ H3) : gSub to ti t v σ H q := h
theorem noTest {q : Bool -> Hp -> Prop} (h : q true H) : tNoTest σ H q := h
theorem rI0 {g : Int -> Int -> V} {i j : Int} (h : Q (g i j) H) : L2.rI0 g (.int i) (.int j) H Q := ⟨i, j, rfl, rfl, h⟩
theorem rI {C : Int -> Int -> Prop} {g : Int -> Int -> V} {i j : Int} (hc : C i j) (h : Q (g i j) H) : L2.rI C g (.int i) (.int j) H Q := ⟨i, j, rfl, rfl, hc, h⟩
theorem dec_i {i j : Int} : decide (V.int i = V.int j) = decide (i = j) := by rw [zq60x]; simp
theorem eqI {i j : Int} (h : Q (.bl (decide (i = j))) H) : rEq (.int i) (.int j) H Q := ⟨rfl, by rw [dec_i]; exact h⟩
theorem isN (h : Q (.bl true) H) : rIs .non .non H Q := ⟨rfl, by rw [decide_eq_true rfl]; exact h⟩
theorem ixM {p : Addr} {xs : List V} {i : Int} {v : V} (hp : H p = some (.lst xs)) (e : atI xs i = some v) (h : Q v H) : rIxL K (.ref p) (.int i) H Q := ⟨p, xs, i, v, rfl, rfl, SqL.of hp, e, h⟩
theorem ixS {p : Addr} {o : HO} {xs : List V} {i : Int} {v : V} (e : atI xs i = some v) (h : Q v (upd H p (.lst xs))) : rIxL K (.ref p) (.int i) (upd H p (.lst xs)) Q := ⟨p, xs, i, v, rfl, rfl, SqL.of upd_same, e, h⟩
theorem setM {p : Addr} {xs : List V} {k : Int} {j : Nat} {v : V} {q : Hp -> Prop} (hp : H p = some (.lst xs)) (e : ixN xs.length k = some j) (h : q (upd H p (.lst (xs.set j v)))) : rSetL (.ref p) (.int k) v H q := ⟨p, xs, k, j, rfl, rfl, hp, e, h⟩
theorem setS {p : Addr} {xs : List V} {k : Int} {j : Nat} {v : V} {q : Hp -> Prop} (e : ixN xs.length k = some j) (h : q (upd H p (.lst (xs.set j v)))) : rSetL (.ref p) (.int k) v (upd H p (.lst xs)) q :=
 ⟨p, xs, k, j, rfl, rfl, upd_same, e, by rw [upd_upd]; exact h⟩
theorem lenM {p : Addr} {xs : List V} {P : List V -> Prop} (hp : H p = some (.lst xs)) (h : P xs) : ∃ a ys, [V.ref p] = [.ref a] /\ (SqL K H a ys \/ SqT K H a ys) /\ P ys := ⟨p, xs, rfl, .inl (SqL.of hp), h⟩
theorem slL {p : Addr} {xs : List V} {lo hi : Option Int} (hp : SqL K H p xs) (h : ∀ a, H a = none -> Q (.ref a) (upd H a (.lst (cutV xs lo hi)))) : rSlL K (.ref p) lo hi H Q := ⟨p, xs, rfl, hp, h⟩
theorem abs1 {a : Int} {P : Int -> Prop} (h : P a) : ∃ i, [V.int a] = [.int i] /\ P i := ⟨a, rfl, h⟩
theorem bits {i : Int} {P : Int -> Prop} (h : P i) : ∃ j, V.int i = .int j /\ ([] : List V) = [] /\ P j := ⟨i, rfl, rfl, h⟩
theorem lstA {xs : List V} (h : xs.length <= 10000) (q : ∀ p H', Same H H' -> H p = none -> H' p = some (.lst xs) -> Q (.ref p) H') : mkL Q xs H :=
 ⟨zq25x h (by decide), fun p hp => q p _ (same_new hp) hp upd_same⟩
theorem catA {l b : Addr} {xs zs : List V} (h1 : H l = some (.lst xs)) (h2 : H b = some (.lst zs)) (hz : xs.length + zs.length <= 10000) (q : ∀ p H', Same H H' -> H p = none -> H' p = some (.lst (xs ++ zs)) -> Q (.ref p) H') : rCat (.ref l) (.ref b) H Q :=
 ⟨l, b, xs, zs, rfl, rfl, h1, h2, zq25x hz (by decide), fun p hp => q p _ (same_new hp) hp upd_same⟩
theorem slA {p : Addr} {xs : List V} {lo hi : Option Int} (hp : SqL K H p xs) (q : ∀ a H', Same H H' -> H a = none -> H' a = some (.lst (cutV xs lo hi)) -> Q (.ref a) H') : rSlL K (.ref p) lo hi H Q := ⟨p, xs, rfl, hp, fun a ha => q a _ (same_new ha) ha upd_same⟩
theorem iteP {c A B : Prop} [Decidable c] (h : c) (q : A) : if c then A else B := by rw [if_pos h]; exact q
theorem iteN {c A B : Prop} [Decidable c] (h : ¬ c) (q : B) : if c then A else B := by rw [if_neg h]; exact q
theorem dT {c : Prop} [Decidable c] (h : c) : decide c = true := decide_eq_true h
theorem dF {c : Prop} [Decidable c] (h : ¬ c) : ¬ decide c = true := by rw [decide_eq_false h]; exact zq15x
theorem dFn {c : Prop} [Decidable c] (h : c) : ¬ (!decide c) = true := by rw [decide_eq_true h]; decide
theorem rng1 {t : TA} {R : It -> Hp -> Prop} (h : t σ H fun vs H1 => ∃ j : Int, vs = [.int j] /\ -(2 ^ 62) <= j /\ j < 2 ^ 62 /\ R (Itr 0 j.toNat) H1) : iRng1 t σ H R := h
theorem rng1I {P : Int -> Prop} {i : Int} (h1 : -(2 ^ 62) <= i) (h2 : i < 2 ^ 62) (h : P i) : ∃ j : Int, [V.int i] = [.int j] /\ -(2 ^ 62) <= j /\ j < 2 ^ 62 /\ P j := ⟨i, rfl, h1, h2, h⟩
theorem rng2 {t : TA} {R : It -> Hp -> Prop} (h : t σ H fun vs H1 => ∃ i j : Int, vs = [.int i, .int j] /\ (-(2 ^ 62) <= i /\ i < 2 ^ 62 /\ -(2 ^ 62) <= j /\ j < 2 ^ 62) /\ R (Itr i (j - i).toNat) H1) : iRng2 t σ H R := h
theorem rng2I {P : Int -> Int -> Prop} {a b : Int} (h1 : -(2 ^ 62) <= a /\ a < 2 ^ 62 /\ -(2 ^ 62) <= b /\ b < 2 ^ 62) (h : P a b) : ∃ i j : Int, [V.int a, V.int b] = [.int i, .int j] /\ (-(2 ^ 62) <= i /\ i < 2 ^ 62 /\ -(2 ^ 62) <= j /\ j < 2 ^ 62) /\ P i j := ⟨a, b, rfl, h1, h⟩
theorem iL {tl : TE} {R : It -> Hp -> Prop} (h : tl σ H fun x H1 => ∃ a, x = .ref a /\ (∃ xs, SqL K H1 a xs) /\ R (Itl K a) H1) : iList K tl σ H R := h
theorem iL1 {P : Addr -> Prop} {p : Addr} {xs : List V} (hp : SqL K H p xs) (h : P p) : ∃ a, V.ref p = .ref a /\ (∃ xs, SqL K H a xs) /\ P a := ⟨p, rfl, ⟨xs, hp⟩, h⟩
theorem for_ {wi : TI} {g : TG} {tb : TS} (h : wi σ H fun J H1 => ∃ W : Nat -> Nat -> St -> Hp -> Prop, (∃ m, W 0 m σ H1) /\ ∀ i m σ H, W i m σ H ->
 (J.stop i H /\ D.nx σ H) \/ (J.go i H /\ ∃ N : St -> Hp -> Prop, (∀ σ' H', N σ' H' -> ∃ m', m' < m /\ W (i + 1) m' σ' H') /\ ∀ x H', J.yld i H x H' -> g x σ H' fun σ2 H2 => tb { D with nx := N, ct := N, bk := D.nx } σ2 H2)) : tFor wi g tb D σ H := h
theorem comp {wi : TI} {g : TG} {tc : TT} {mp : List (Option Nat)} (h : wi σ H fun J H1 => ∀ acc, H1 acc = none -> CompW J g tc te acc (fun H' => Q (.ref acc) H') (startC mp σ) (upd H1 acc (.lst []))) : tComp wi g tc te mp σ H Q := h
end
theorem comp_range {lo : Int} {n : Nat} {g : TG} {tc : TT} {te : TE} {acc : Addr} {Qe : Hp -> Prop} {σ : St} {H : Hp} (Pv : Nat -> St -> Hp -> Prop) (h0 : Pv 0 σ H)
  (hs : ∀ i σ H, i < n -> Pv i σ H -> g (.int (lo + i)) σ H fun σ2 H2 => tc σ2 H2 fun b H3 => if b = true then te σ2 H3 fun v H4 => ∃ ys, H4 acc = some (.lst ys) /\ ys.length < sizeLine /\ Pv (i + 1) σ2 (upd H4 acc (.lst (ys ++ [v]))) else Pv (i + 1) σ2 H3)
  (hd : ∀ σ H, Pv n σ H -> Qe H) : CompW (Itr lo n) g tc te acc Qe σ H := by
 refine ⟨fun i m σ H => m = n - i /\ i <= n /\ Pv i σ H, ⟨n, by simp, zq36x _, h0⟩, ?_⟩
 rintro i m σ H ⟨rfl, hi, p⟩
 by_cases hlt : i < n
 ·refine .inr ⟨hlt, Pv (i + 1), fun σ' H' p' => ⟨n - (i + 1), by omega, rfl, hlt, p'⟩, fun x H' y => ?_⟩
  obtain ⟨e, y⟩ := y
  subst e y
  exact hs i σ _ hlt p
 ·have e : i = n := by omega
  subst e
  exact .inl ⟨zq1x _, hd σ H p⟩
theorem comp_list {K : PySem.W.Frag} {a : Addr} {xs : List V} {g : TG} {tc : TT} {te : TE} {acc : Addr} {Qe : Hp -> Prop} {σ : St} {H : Hp} (Pv : Nat -> St -> Hp -> Prop) (h0 : Pv 0 σ H) (hl : ∀ i σ H, i <= xs.length -> Pv i σ H -> SqL K H a xs)
  (hs : ∀ i x σ H, xs[i]? = some x -> Pv i σ H -> g x σ H fun σ2 H2 => tc σ2 H2 fun b H3 => if b = true then te σ2 H3 fun v H4 => ∃ ys, H4 acc = some (.lst ys) /\ ys.length < sizeLine /\ Pv (i + 1) σ2 (upd H4 acc (.lst (ys ++ [v]))) else Pv (i + 1) σ2 H3)
  (hd : ∀ σ H, Pv xs.length σ H -> Qe H) : CompW (Itl K a) g tc te acc Qe σ H := by
 refine ⟨fun i m σ H => m = xs.length - i /\ i <= xs.length /\ Pv i σ H, ⟨xs.length, by simp, zq36x _, h0⟩, ?_⟩
 rintro i m σ H ⟨rfl, hi, p⟩
 have q := hl i σ H hi p
 by_cases hlt : i < xs.length
 ·refine .inr ⟨⟨xs, xs[i], q, by simp [hlt]⟩, Pv (i + 1), fun σ' H' p' => ⟨xs.length - (i + 1), by omega, rfl, hlt, p'⟩, fun x H' y => ?_⟩
  obtain ⟨e, y⟩ := y
  subst e
  exact hs i x σ _ (y xs q) p
 ·have e : i = xs.length := by omega
  subst e
  exact .inl ⟨⟨xs, q, zq1x _⟩, hd σ H p⟩
end R
end L2
set_option maxRecDepth 100000
set_option maxHeartbeats 1000000
namespace L2
open PySem PySem.Spec PyProof.Rows
@[reducible] def pairD (pr : Int × Int) : PyData := .tuple [.int pr.1, .int pr.2]
def optD : Option Int -> PyData
 | none => .none
 | some i => .int i
def termOf (wd : List (Option Int)) (pr : Int × Int) : Int := match wd[pr.1.toNat]? with
 | some (some x) => pr.2 * x
 | _ => 0
def dueSum (prs : List (Int × Int)) (wd : List (Option Int)) : Int := (prs.map (termOf wd)).sum
theorem shaped_word (wd : List (Option Int)) : PyData.depthAll (wd.map optD) = 0 /\ PyData.canLayAll0 (wd.map optD) = true := by
 induction wd with
 | nil => simp [PyData.depthAll, PyData.canLayAll0]
 | cons a r ih => cases a <;> simp [optD, PyData.depthAll, PyData.depth, PyData.canLayAll0, PyData.canLay0, ih.2, ih.1]
def NoDiv (r : Int) : Prop := ∀ d : Int, 2 <= d -> d * d <= r -> r % d ≠ 0
def primeList : List Int := [2, 3, 5, 7, 2, 11, 101, 10007, 65537, 1000003, 998244353, 1000000007, 2147483647, 1000000000039, 1000000000000000003, 18446744073709551557, 2305843009213693951, 618970019642690137449562111, 162259276829213363391578010288127, 170141183460469231731687303715884105727, 1000000000000000000000000000000000000003, 9999999999999999999999999999999999999983]
def IsP (p : Int) : Prop := 2 <= p /\ p < 10 ^ 40 /\ (p ∈ primeList \/ NoDiv p)
def spPrimeFrom : Sp := fun vs H Q _ => ∃ n : Int, vs = [.int n] /\ 2 <= n /\ n <= 10002 /\ ∀ (r : Int) (H' : Hp), Same H H' -> 2 <= r -> r <= 10100 -> NoDiv r -> Q (.int r) H'
def spPrime : Sp := fun vs H Q _ => ∃ (b l : Addr), vs = [.ref b] /\ BagAt H b l /\ ∀ (p : Int) (H' : Hp), IsP p -> But (Nb b) H H' -> BagAt H' b l -> Q (.int p) H'
theorem isDs_intsL {nb : Addr -> Prop} {H : Hp} : ∀ is : List Int, IsDs nb H (is.map PyData.int) (is.map V.int)
 | [] => IsDs.nil
 | i :: is => IsDs.cons (.int i) (isDs_intsL is)
theorem isDs_ints_eq {nb : Addr -> Prop} {H : Hp} : ∀ {is : List Int} {xs : List V}, IsDs nb H (is.map PyData.int) xs -> xs = is.map V.int
  | [], _, h => by unfold List.map IsDs at h; exact h
  | i :: is, _, h => by
    rw [zq7x] at h
    unfold IsDs at h
    obtain ⟨y, ys, rfl, h1, h2⟩ := h
    rw [zq7x, h1.ofI, isDs_ints_eq h2]
end L2
set_option maxRecDepth 100000
set_option maxHeartbeats 1000000
namespace L2
open PySem PySem.Spec PyProof.Rows
abbrev Bg := Option (Addr × Addr)
def NB (B : Bg) (a : Addr) : Prop := ∀ b l, B = some (b, l) -> a ≠ b
def BagOk (B : Bg) (H : Hp) : Prop := ∀ b l, B = some (b, l) -> BagAt H b l
def Live (nb : Addr -> Prop) (H : Hp) : Prop := ∀ a, nb a -> H a ≠ none
structure Kp (S : Addr -> Prop) (F : List Addr) (H H' : Hp) : Prop where
 own : ∀ a ∈ F, ∀ o, H a = some o -> H' a = some o
 lst : ∀ a xs, ¬ S a -> H a = some (.lst xs) -> H' a = some (.lst xs)
 tup : ∀ a xs, ¬ S a -> H a = some (.tup xs) -> H' a = some (.tup xs)
 dic : ∀ a ps, ¬ S a -> Rd H a (.dK ps) -> Rd H' a (.dK ps)
theorem Kp.of {S : Addr -> Prop} {F : List Addr} {H H' : Hp} (h : ∀ a o, (¬ S a \/ a ∈ F) -> H a = some o -> H' a = some o) : Kp S F H H' :=
 ⟨fun a ha o e => h a o (.inr ha) e, fun a xs n e => h a _ (.inl n) e, fun a xs n e => h a _ (.inl n) e, fun a ps n e => e.elim (fun e => .inl (h a _ (.inl n) e)) fun ⟨o, e⟩ => .inr ⟨o, h a _ (.inl n) e⟩⟩
mutual
theorem IsD.kp {S : Addr -> Prop} {F : List Addr} {H H' : Hp} (m : Kp S F H H') : ∀ {d : PyData} {v : V}, IsD S H d v -> IsD S H' d v
 | .none, _, h => by unfold IsD at h ⊢; exact h
 | .bool _, _, h => by unfold IsD at h ⊢; exact h
 | .int _, _, h => by unfold IsD at h ⊢; exact h
 | .str _, _, h => by unfold IsD at h ⊢; exact h
 | .list ds, _, h => by unfold IsD at h ⊢; obtain ⟨a, xs, e, n, s, r⟩ := h; exact ⟨a, xs, e, n, m.lst _ _ n s, IsDs.kp m r⟩
 | .tuple ds, _, h => by unfold IsD at h ⊢; obtain ⟨a, xs, e, n, s, r⟩ := h; exact ⟨a, xs, e, n, m.tup _ _ n s, IsDs.kp m r⟩
 | .dict kvs, _, h => by unfold IsD at h ⊢; obtain ⟨a, xs, e, n, s, r⟩ := h; exact ⟨a, xs, e, n, m.dic _ _ n s, IsKs.kp m r⟩
theorem IsDs.kp {S : Addr -> Prop} {F : List Addr} {H H' : Hp} (m : Kp S F H H') : ∀ {ds : List PyData} {vs : List V}, IsDs S H ds vs -> IsDs S H' ds vs
 | [], _, h => by unfold IsDs at h ⊢; exact h
 | d :: ds, _, h => by unfold IsDs at h ⊢; obtain ⟨y, ys, e, h1, h2⟩ := h; exact ⟨y, ys, e, IsD.kp m h1, IsDs.kp m h2⟩
theorem IsKs.kp {S : Addr -> Prop} {F : List Addr} {H H' : Hp} (m : Kp S F H H') : ∀ {ds : List (PyData × PyData)} {vs : List (Key × V)}, IsKs S H ds vs -> IsKs S H' ds vs
 | [], _, h => by unfold IsKs at h ⊢; exact h
 | d :: ds, _, h => by unfold IsKs at h ⊢; obtain ⟨y, ys, e, h1, h2⟩ := h; exact ⟨y, ys, e, IsK.kp m h1, IsKs.kp m h2⟩
theorem IsK.kp {S : Addr -> Prop} {F : List Addr} {H H' : Hp} (m : Kp S F H H') : ∀ {d : PyData × PyData} {v : Key × V}, IsK S H d v -> IsK S H' d v
 | (k, d), _, h => by unfold IsK at h ⊢; exact ⟨h.1, IsD.kp m h.2⟩
end
structure Cu where
 v : V
 F : List Addr
 f : Bool
 P : (Addr -> Prop) -> Hp -> Prop
 keep : ∀ {S : Addr -> Prop} {H H' : Hp}, Kp S F H H' -> P S H -> P S H'
 av : ∀ {S S' : Addr -> Prop} {H : Hp}, (∀ a, S' a -> S a) -> P S H -> P S' H
 fresh : ∀ {S : Addr -> Prop} {H : Hp} {p : Addr}, H p = none -> P S H -> P (fun a => S a \/ a = p) H
inductive HD where
 | d (x : PyData) | fz (o : Obj) (ps : List (Key × V)) | th (c : Cu)
def IsH (S : Addr -> Prop) (H : Hp) : HD -> V -> Prop
 | .d x, v => IsD S H x v
 | .fz o ps, v => ∃ a, v = .ref a /\ ¬ S a /\ H a = some (.frz o (.dK ps))
 | .th c, v => v = c.v /\ (∀ a ∈ c.F, ¬ S a /\ H a ≠ none) /\ c.P S H
theorem IsH.keep {S : Addr -> Prop} {H H' : Hp} {x : HD} {v : V} (h : IsH S H x v) (b : But S H H') : IsH S H' x v := by
  cases x with
  | d x => exact IsD.keep b h
  | fz o ps => obtain ⟨a, e, n, q⟩ := h; exact ⟨a, e, n, b _ _ n q⟩
  | th c =>
    obtain ⟨e, n, q⟩ := h
    refine ⟨e, fun a m => ⟨(n a m).1, ?_⟩, c.keep (.of fun a o m q => b a o (m.elim id fun m => (n a m).1) q) q⟩
    cases z : H a with
    | none => exact absurd z (n a m).2
    | some o => rw [b a o (n a m).1 z]; exact zq32x _
theorem IsH.av {S S' : Addr -> Prop} {H : Hp} {x : HD} {v : V} (h : IsH S H x v) (b : ∀ a, S' a -> S a) : IsH S' H x v := by
 cases x with
 | d x => exact IsD.av b h
 | fz o ps => obtain ⟨a, e, n, q⟩ := h; exact ⟨a, e, fun z => n (b a z), q⟩
 | th c => obtain ⟨e, n, q⟩ := h; exact ⟨e, fun a m => ⟨fun z => (n a m).1 (b a z), (n a m).2⟩, c.av b q⟩
theorem IsH.fresh {S : Addr -> Prop} {H : Hp} {x : HD} {v : V} {p : Addr} (h : IsH S H x v) (hp : H p = none) : IsH (fun a => S a \/ a = p) H x v := by
 cases x with
 | d x => exact IsD.fresh hp h
 | fz o ps => obtain ⟨a, e, n, q⟩ := h; exact ⟨a, e, fun z => z.elim n (ne_of_none q hp), q⟩
 | th c => obtain ⟨e, n, q⟩ := h; exact ⟨e, fun a m => ⟨fun z => z.elim (n a m).1 fun y => (n a m).2 (by rw [y]; exact hp), (n a m).2⟩, c.fresh hp q⟩
structure Gx where
 B : Bg
 H0 : Hp
 A : Addr -> Prop
 hold : List (Bool × HD × V) := []
inductive Sl where
 | no | d (f : Bool) (d : PyData) | own (a : Addr) (f : Bool) (ds : List PyData) | bag | raw (v : V) | dic (a : Addr) (f : Bool) (ks : List (Int × PyData)) | cu (c : Cu)
def Sl.adr : Sl -> List Addr
 | .own a _ _ => [a]
 | .dic a _ _ => [a]
 | .cu c => c.F
 | _ => []
@[reducible] def kvD (p : Int × PyData) : PyData × PyData := (.int p.1, p.2)
abbrev Rh := List Sl
def Gx.S (G : Gx) (nb : Addr -> Prop) (f : Bool) : Addr -> Prop := fun a => nb a \/ G.A a \/ ¬ NB G.B a \/ (f = true /\ G.H0 a ≠ none)
def SlOk (G : Gx) (nb : Addr -> Prop) (H : Hp) (x : Option V) : Sl -> Prop
 | .no => True
 | .d f d => ∃ v, x = some v /\ IsD (G.S nb f) H d v
 | .own a f ds => x = some (.ref a) /\ nb a /\ NB G.B a /\ ∃ xs, H a = some (.lst xs) /\ IsDs (G.S nb f) H ds xs
 | .bag => ∃ b l, G.B = some (b, l) /\ x = some (.ref b)
 | .raw v => x = some v
 | .dic a f ks => x = some (.ref a) /\ nb a /\ NB G.B a /\ ∃ ps, H a = some (.dK ps) /\ IsKs (G.S nb f) H (ks.map kvD) ps
 | .cu c => x = some c.v /\ (∀ a ∈ c.F, nb a /\ NB G.B a) /\ c.P (G.S nb c.f) H
structure Wd (G : Gx) (nb : Addr -> Prop) (ρ : Rh) (σ : St) (H : Hp) : Prop where
 bag : BagOk G.B H
 live : Live nb H
 old : ∀ a o, NB G.B a -> G.H0 a = some o -> H a = some o
 nbo : ∀ a, nb a -> NB G.B a -> G.H0 a = none
 gA : Live G.A G.H0
 len : σ.length = ρ.length
 gB : BagOk G.B G.H0
 hld : ∀ h ∈ G.hold, IsH (G.S nb h.1) H h.2.1 h.2.2
 ok : ∀ (i : Nat) (s : Sl), ρ[i]? = some s -> ∃ x, σ[i]? = some x /\ SlOk G nb H x s
 apart : ∀ (i j : Nat) a f as c g cs, i ≠ j -> ρ[i]? = some (.own a f as) -> ρ[j]? = some (.own c g cs) -> a ≠ c
 apd : ∀ (i j : Nat) a f as c g cs, i ≠ j -> ρ[i]? = some (.dic a f as) -> ρ[j]? = some (.dic c g cs) -> a ≠ c
 apc : ∀ (i j : Nat) c s, i ≠ j -> ρ[i]? = some (.cu c) -> ρ[j]? = some s -> ∀ a ∈ c.F, a ∉ s.adr
def Step (B : Bg) (H H' : Hp) : Prop := (∀ a o, NB B a -> H a = some o -> H' a = some o) /\ BagOk B H'
section
variable {G : Gx} {B : Bg} {nb : Addr -> Prop} {ρ : Rh} {σ : St} {H H1 H2 H' : Hp} {f g : Bool} {d : PyData} {ds : List PyData} {v : V} {xs : List V} {a p : Addr}
theorem Step.refl (h : BagOk B H) : Step B H H := ⟨fun _ _ _ e => e, h⟩
theorem Step.trans (x : Step B H H1) (y : Step B H1 H2) : Step B H H2 := ⟨fun a o n e => y.1 a o n (x.1 a o n e), y.2⟩
theorem BagOk.same (h : BagOk B H) (s : Same H H') : BagOk B H' := fun b l e => (h b l e).same s
theorem Step.same (h : BagOk B H) (s : Same H H') : Step B H H' := ⟨fun a o _ e => s a o e, h.same s⟩
theorem Step.but {nb' : Addr -> Prop} (s : Step B H H') (h : ∀ a, ¬ NB B a -> nb' a) : But nb' H H' := fun a o n e => s.1 a o (zq51x fun z => n (h a z)) e
theorem Step.butS (s : Step G.B H H') : But (G.S nb f) H H' := s.but fun a h => .inr (.inr (.inl h))
theorem S_mono (h : g = true -> f = true) {nb' : Addr -> Prop} (hn : ∀ a, nb a -> nb' a) : ∀ a, G.S nb g a -> G.S nb' f a := by
 intro a z
 rcases z with z | z | z | ⟨z, q⟩
 ·exact .inl (hn a z)
 ·exact .inr (.inl z)
 ·exact .inr (.inr (.inl z))
 ·exact .inr (.inr (.inr ⟨h z, q⟩))
theorem NB.bag_live (h : BagOk B H) (n : ¬ NB B a) : H a ≠ none := by
 intro e
 apply n
 intro b l hb z
 subst z
 obtain ⟨_, _, _, _, _, h1, _⟩ := h _ _ hb
 rw [h1] at e; cases e
theorem Wd.liveS (W : Wd G nb ρ σ H) : Live (G.S nb f) H := by
 intro a z
 rcases z with z | z | z | ⟨_, z⟩
 ·exact W.live a z
 ·by_cases n : NB G.B a
  ·cases e : G.H0 a with
   | none => exact absurd e (W.gA a z)
   | some o => rw [W.old a o n e]; exact zq32x _
  ·exact NB.bag_live W.bag n
 ·exact NB.bag_live W.bag z
 ·by_cases n : NB G.B a
  ·cases e : G.H0 a with
   | none => exact absurd e z
   | some o => rw [W.old a o n e]; exact zq32x _
  ·exact NB.bag_live W.bag n
theorem Wd.fresh (W : Wd G nb ρ σ H) (hp : H p = none) : ¬ G.S nb f p := fun z => W.liveS p z hp
theorem SlOk.step {x : Option V} {s : Sl} (st : Step G.B H H') (h : SlOk G nb H x s) : SlOk G nb H' x s := by
  cases s with
  | no => trivial
  | d f d => obtain ⟨v, e, h⟩ := h; exact ⟨v, e, h.keep st.butS⟩
  | own a f ds => obtain ⟨e, n, q, xs, hx, hd⟩ := h; exact ⟨e, n, q, xs, st.1 _ _ q hx, hd.keep st.butS⟩
  | bag => exact h
  | raw v => exact h
  | dic a f ks => obtain ⟨e, n, q, xs, hx, hd⟩ := h; exact ⟨e, n, q, xs, st.1 _ _ q hx, hd.keep st.butS⟩
  | cu c =>
    obtain ⟨e, n, p⟩ := h
    refine ⟨e, n, c.keep (.of fun a o ha e => st.1 a o ?_ e) p⟩
    rcases ha with ha | ha
    · exact zq51x fun z => ha (.inr (.inr (.inl z)))
    · exact (n a ha).2
theorem ne_none_keep (n : NB B a) (st : Step B H H') (h : H a ≠ none) : H' a ≠ none := by
 cases e : H a with
 | none => exact absurd e h
 | some o => rw [st.1 a o n e]; exact zq32x _
theorem Wd.step (W : Wd G nb ρ σ H) (st : Step G.B H H') : Wd G nb ρ σ H' where
 bag := st.2
 live := fun a n => by
  by_cases q : NB G.B a
  ·exact ne_none_keep q st (W.live a n)
  ·exact NB.bag_live st.2 q
 old := fun a o n e => st.1 a o n (W.old a o n e)
 nbo := W.nbo
 gA := W.gA
 len := W.len
 gB := W.gB
 hld := fun h m => (W.hld h m).keep st.butS
 ok := fun i s e => by
  obtain ⟨x, e1, h⟩ := W.ok i s e
  exact ⟨x, e1, h.step st⟩
 apart := W.apart
 apd := W.apd
 apc := W.apc
theorem Wd.set {i : Nat} {s : Sl} {x : Option V} (W : Wd G nb ρ σ H) (h : SlOk G nb H x s) (hs : ∀ a f ds, s = .own a f ds -> ∀ j c g cs, j ≠ i -> ρ[j]? = some (.own c g cs) -> a ≠ c) (hd : ∀ a f ds, s = .dic a f ds -> ∀ j c g cs, j ≠ i -> ρ[j]? = some (.dic c g cs) -> a ≠ c := by intro _ _ _ z; cases z) (hcu : ∀ a ∈ s.adr, ∀ j t, j ≠ i -> ρ[j]? = some t -> (∃ c, s = .cu c) \/ (∃ c, t = .cu c) -> a ∉ t.adr := by intro _ z; cases z) : Wd G nb (ρ.set i s) (σ.set i x) H where
 bag := W.bag
 live := W.live
 old := W.old
 nbo := W.nbo
 gA := W.gA
 len := by rw [zq38x, zq38x]; exact W.len
 gB := W.gB
 hld := W.hld
 ok := fun j t e => by
  by_cases hij : i = j
  ·subst hij
   have hl : i < ρ.length := by have := (zq8x.mp e).1; rwa [zq38x] at this
   rw [zq12x hl] at e
   cases e
   exact ⟨x, zq12x (by rw [W.len]; exact hl), h⟩
  ·rw [zq6x hij] at e ⊢
   exact W.ok j t e
 apart := fun j k a f as c g cs hjk e1 e2 => by
  by_cases hj : i = j
  ·subst hj
   have hl : i < ρ.length := by have := (zq8x.mp e1).1; rwa [zq38x] at this
   rw [zq12x hl] at e1
   cases e1
   rw [zq6x hjk] at e2
   exact hs a f as rfl k c g cs (zq18x hjk) e2
  ·by_cases hk : i = k
   ·subst hk
    have hl : i < ρ.length := by have := (zq8x.mp e2).1; rwa [zq38x] at this
    rw [zq12x hl] at e2
    cases e2
    rw [zq6x hj] at e1
    exact (hs c g cs rfl j a f as hjk e1).symm
   ·rw [zq6x hj] at e1
    rw [zq6x hk] at e2
    exact W.apart j k a f as c g cs hjk e1 e2
 apd := fun j k a f as c g cs hjk e1 e2 => by
  by_cases hj : i = j
  ·subst hj
   have hl : i < ρ.length := by have := (zq8x.mp e1).1; rwa [zq38x] at this
   rw [zq12x hl] at e1
   cases e1
   rw [zq6x hjk] at e2
   exact hd a f as rfl k c g cs (zq18x hjk) e2
  ·by_cases hk : i = k
   ·subst hk
    have hl : i < ρ.length := by have := (zq8x.mp e2).1; rwa [zq38x] at this
    rw [zq12x hl] at e2
    cases e2
    rw [zq6x hj] at e1
    exact (hd c g cs rfl j a f as hjk e1).symm
   ·rw [zq6x hj] at e1
    rw [zq6x hk] at e2
    exact W.apd j k a f as c g cs hjk e1 e2
 apc := fun j k c t hjk e1 e2 a ha => by
  by_cases hj : i = j
  ·subst hj
   have hl : i < ρ.length := by have := (zq8x.mp e1).1; rwa [zq38x] at this
   rw [zq12x hl] at e1
   cases e1
   rw [zq6x hjk] at e2
   exact hcu a ha k t (zq18x hjk) e2 (.inl ⟨c, rfl⟩)
  ·by_cases hk : i = k
   ·subst hk
    have hl : i < ρ.length := by have := (zq8x.mp e2).1; rwa [zq38x] at this
    rw [zq12x hl] at e2
    cases e2
    rw [zq6x hj] at e1
    exact fun z => hcu a z j (.cu c) hjk e1 (.inr ⟨c, rfl⟩) ha
   ·rw [zq6x hj] at e1
    rw [zq6x hk] at e2
    exact W.apc j k c t hjk e1 e2 a ha
theorem Wd.setD {i : Nat} (W : Wd G nb ρ σ H) (h : IsD (G.S nb f) H d v) : Wd G nb (ρ.set i (.d f d)) (σ.set i (some v)) H := W.set ⟨v, rfl, h⟩ fun _ _ _ e => by cases e
inductive Wk : Rh -> Rh -> Prop
 | nil : Wk [] []
 | no {s : Sl} {r r' : Rh} (h : Wk r r') : Wk (.no :: r) (s :: r')
 | eq {s : Sl} {r r' : Rh} (h : Wk r r') : Wk (s :: r) (s :: r')
theorem Wk.at : ∀ {r r' : Rh} {i : Nat} {s : Sl}, Wk r r' -> r[i]? = some s -> s = .no /\ (∃ t, r'[i]? = some t) \/ r'[i]? = some s
 | _, _, _, _, .nil, e => by simp at e
 | _, _, 0, _, .no h, e => by simp at e; subst e; exact .inl ⟨rfl, _, rfl⟩
 | _, _, 0, _, .eq h, e => by simp at e; subst e; exact .inr rfl
 | _, _, i + 1, _, .no h, e => by simpa using Wk.at (i := i) h (by simpa using e)
 | _, _, i + 1, _, .eq h, e => by simpa using Wk.at (i := i) h (by simpa using e)
theorem Wk.len {r r' : Rh} (h : Wk r r') : r.length = r'.length := by
 induction h with
 | nil => rfl
 | no _ ih => simp [ih]
 | eq _ ih => simp [ih]
theorem Wd.wk {ρ' : Rh} (W : Wd G nb ρ' σ H) (h : Wk ρ ρ') : Wd G nb ρ σ H where
 bag := W.bag
 live := W.live
 old := W.old
 nbo := W.nbo
 gA := W.gA
 len := by rw [h.len]; exact W.len
 gB := W.gB
 hld := W.hld
 ok := fun i s e => by
  rcases h.at e with ⟨rfl, t, e'⟩ | e'
  ·obtain ⟨x, e1, _⟩ := W.ok i t e'; exact ⟨x, e1, trivial⟩
  ·exact W.ok i s e'
 apart := fun i j a f as c g cs hij e1 e2 => by
  rcases h.at e1 with ⟨z, _⟩ | e1'
  ·cases z
  rcases h.at e2 with ⟨z, _⟩ | e2'
  ·cases z
  exact W.apart i j a f as c g cs hij e1' e2'
 apd := fun i j a f as c g cs hij e1 e2 => by
  rcases h.at e1 with ⟨z, _⟩ | e1'
  ·cases z
  rcases h.at e2 with ⟨z, _⟩ | e2'
  ·cases z
  exact W.apd i j a f as c g cs hij e1' e2'
 apc := fun i j c s hij e1 e2 a ha => by
  rcases h.at e1 with ⟨z, _⟩ | e1'
  ·cases z
  rcases h.at e2 with ⟨z, _⟩ | e2'
  ·subst z; exact fun z => by cases z
  exact W.apc i j c s hij e1' e2' a ha
theorem Wd.more (W : Wd G nb ρ σ H) (hp : H p = none) {o : HO} : Wd G (fun a => nb a \/ a = p) ρ σ (upd H p o) := by
 have hS : Same H (upd H p o) := same_new hp
 have hN : NB G.B p := fun b l e z => by
  subst z
  obtain ⟨_, _, _, _, _, h1, _⟩ := W.bag _ _ e
  rw [h1] at hp; cases hp
 have W' := W.step (Step.same W.bag hS)
 have hA : ∀ f a, G.S (fun a => nb a \/ a = p) f a -> (G.S nb f a \/ a = p) := fun f a z => by
  rcases z with (z | z) | z | z | z
  ·exact .inl (.inl z)
  ·exact .inr z
  ·exact .inl (.inr (.inl z))
  ·exact .inl (.inr (.inr (.inl z)))
  ·exact .inl (.inr (.inr (.inr z)))
 refine ⟨W'.bag, fun a n => ?_, W'.old, fun a n q => ?_, W.gA, W.len, W.gB, fun h m => (((W.hld h m).fresh hp).av (hA h.1)).keep (But.of hS), fun i s e => ?_, W.apart, W.apd, W.apc⟩
 ·rcases n with n | n
  ·exact W'.live a n
  ·subst n; rw [upd_same]; exact zq32x _
 ·rcases n with n | n
  ·exact W.nbo a n q
  ·subst n
   cases e : G.H0 a with
   | none => rfl
   | some o => rw [W.old a o q e] at hp; cases hp
 ·obtain ⟨x, e1, h⟩ := W.ok i s e
  refine ⟨x, e1, ?_⟩
  cases s with
  | no => trivial
  | d f d => obtain ⟨v, e, h⟩ := h; exact ⟨v, e, ((h.fresh hp).av (hA f)).keep (But.of hS)⟩
  | own a f ds => obtain ⟨e, n, q, xs, hx, hd⟩ := h; exact ⟨e, .inl n, q, xs, hS _ _ hx, ((hd.fresh hp).av (hA f)).keep (But.of hS)⟩
  | bag => exact h
  | raw v => exact h
  | dic a f ds => obtain ⟨e, n, q, xs, hx, hd⟩ := h; exact ⟨e, .inl n, q, xs, hS _ _ hx, ((hd.fresh hp).av (hA f)).keep (But.of hS)⟩
  | cu c => obtain ⟨e, n, q⟩ := h; exact ⟨e, fun a ha => ⟨.inl (n a ha).1, (n a ha).2⟩, c.keep (.of fun a o _ e => hS a o e) (c.av (hA c.f) (c.fresh hp q))⟩
theorem Wd.write (W : Wd G nb ρ σ H) {o : HO} (hp : nb p) (hN : NB G.B p) (ho : ∀ (i : Nat) a f ds, ρ[i]? = some (.own a f ds) -> a ≠ p) (hod : ∀ (i : Nat) a f ds, ρ[i]? = some (.dic a f ds) -> a ≠ p) (hoc : ∀ (i : Nat) c, ρ[i]? = some (.cu c) -> p ∉ c.F) : Wd G nb ρ σ (upd H p o) := by
  have hl : ∀ b l, G.B = some (b, l) -> p ≠ l := fun b l e z => by
    obtain ⟨_, _, _, _, _, _, h2, _⟩ := W.gB b l e
    rw [<- z, W.nbo p hp hN] at h2; cases h2
  have hB : BagOk G.B (upd H p o) := fun b l e => (W.bag b l e).put2 ⟨hN b l e, hl b l e⟩
  have bt : ∀ f, But (G.S nb f) H (upd H p o) := fun f => But.set (.inl hp)
  refine ⟨hB, fun a n => ?_, fun a o' n e => ?_, W.nbo, W.gA, W.len, W.gB, fun h m => (W.hld h m).keep (bt h.1), fun i s e => ?_, W.apart, W.apd, W.apc⟩
  · by_cases z : a = p
    · subst z; rw [upd_same]; exact zq32x _
    · rw [upd_ne z]; exact W.live a n
  · have z : a ≠ p := fun z => by subst z; rw [W.nbo a hp n] at e; cases e
    rw [upd_ne z]; exact W.old a o' n e
  · obtain ⟨x, e1, h⟩ := W.ok i s e
    refine ⟨x, e1, ?_⟩
    cases s with
    | no => trivial
    | d f d => obtain ⟨v, e, h⟩ := h; exact ⟨v, e, h.keep (bt f)⟩
    | own a f ds => obtain ⟨e', n, q, xs, hx, hd⟩ := h; exact ⟨e', n, q, xs, by rw [upd_ne (ho i a f ds e)]; exact hx, hd.keep (bt f)⟩
    | bag => exact h
    | raw v => exact h
    | dic a f ds => obtain ⟨e', n, q, xs, hx, hd⟩ := h; exact ⟨e', n, q, xs, by rw [upd_ne (hod i a f ds e)]; exact hx, hd.keep (bt f)⟩
    | cu c =>
      obtain ⟨e', n, q⟩ := h
      refine ⟨e', n, c.keep (.of fun a o' ha e'' => ?_) q⟩
      rw [upd_ne]
      · exact e''
      · rintro rfl
        rcases ha with ha | ha
        · exact ha (.inl hp)
        · exact hoc i c e ha
end
end L2
set_option maxRecDepth 100000
set_option maxHeartbeats 1000000
namespace L2
open PySem PySem.Spec PyProof.Rows
abbrev Pd := Bool -> PyData -> Prop
def Ev (G : Gx) (ρ : Rh) (te : TE) (Φ : Pd) : Prop := ∀ nb σ H (Q : VK), Wd G nb ρ σ H -> (∀ f v H' d, Φ f d -> Step G.B H H' -> IsD (G.S nb f) H' d v -> Q v H') -> te σ H Q
def EvN (G : Gx) (ρ : Rh) (te : TE) (Φ : Bool -> List PyData -> Prop) : Prop := ∀ nb σ H (Q : VK), Wd G nb ρ σ H ->
 (∀ f a xs H' ds, Φ f ds -> Step G.B H H' -> H a = none -> H' a = some (.lst xs) -> IsDs (fun x => G.S nb f x \/ x = a) H' ds xs -> Q (.ref a) H') -> te σ H Q
def Tv (G : Gx) (ρ : Rh) (tt : TT) (Φ : Bool -> Prop) : Prop := ∀ nb σ H (Q : Bool -> Hp -> Prop), Wd G nb ρ σ H -> (∀ b H', Φ b -> Step G.B H H' -> Q b H') -> tt σ H Q
def Ov (G : Gx) (ρ : Rh) (to : TO) (Φ : Option Int -> Prop) : Prop := ∀ nb σ H (Q : Option Int -> Hp -> Prop), Wd G nb ρ σ H -> (∀ o H', Φ o -> Step G.B H H' -> Q o H') -> to σ H Q
abbrev Fd := Bool × PyData
def IsF (G : Gx) (nb : Addr -> Prop) (H : Hp) : List Fd -> List V -> Prop
 | [], vs => vs = []
 | e :: es, vs => ∃ v ws, vs = v :: ws /\ IsD (G.S nb e.1) H e.2 v /\ IsF G nb H es ws
def Av (G : Gx) (ρ : Rh) (ta : TA) (Φ : List Fd -> Prop) : Prop := ∀ nb σ H (Q : List V -> Hp -> Prop), Wd G nb ρ σ H -> (∀ es vs H', Φ es -> Step G.B H H' -> IsF G nb H' es vs -> Q vs H') -> ta σ H Q
def Gv (G : Gx) (ρ : Rh) (g : TG) (f : Bool) (d : PyData) (Φ : Rh -> Prop) : Prop := ∀ nb σ H v (Q : St -> Hp -> Prop), Wd G nb ρ σ H -> IsD (G.S nb f) H d v -> (∀ σ' ρ', Φ ρ' -> Wd G nb ρ' σ' H -> Q σ' H) -> g v σ H Q
def Gvs (G : Gx) (ρ : Rh) (g : TGs) (f : Bool) (ds : List PyData) (Φ : Rh -> Prop) : Prop := ∀ nb σ H vs (Q : St -> Hp -> Prop), Wd G nb ρ σ H -> IsDs (G.S nb f) H ds vs -> (∀ σ' ρ', Φ ρ' -> Wd G nb ρ' σ' H -> Q σ' H) -> g vs σ H Q
structure DE where
 nx : Rh -> Prop
 rt : Pd
 bk : Rh -> Prop := fun _ => False
 ct : Rh -> Prop := fun _ => False
 rw : (Addr -> Prop) -> Rh -> V -> Hp -> Prop := fun _ _ _ _ => False
structure EndsOk (G : Gx) (E : DE) (D : Ends) : Prop where
 nx : ∀ nb ρ σ H, E.nx ρ -> Wd G nb ρ σ H -> D.nx σ H
 bk : ∀ nb ρ σ H, E.bk ρ -> Wd G nb ρ σ H -> D.bk σ H
 ct : ∀ nb ρ σ H, E.ct ρ -> Wd G nb ρ σ H -> D.ct σ H
 rt : ∀ nb ρ σ f v H d, E.rt f d -> Wd G nb ρ σ H -> IsD (G.S (fun _ => False) f) H d v -> D.rt v H
 rw : ∀ nb ρ σ v H, E.rw nb ρ v H -> Wd G nb ρ σ H -> D.rt v H
def Sv (G : Gx) (ρ : Rh) (ts : TS) (E : DE) : Prop := ∀ nb σ H D, Wd G nb ρ σ H -> EndsOk G E D -> ts D σ H
def scB : PyData -> Bool
 | .none => true | .bool _ => true | .int _ => true | .str _ => true | _ => false
def toV : PyData -> V
 | .bool b => .bl b | .int i => .int i | .str x => .str x | _ => .non
section
variable {nb nb' : Addr -> Prop} {H H' : Hp} {d e : PyData} {v : V}
theorem IsD.sc (h : scB d = true) : IsD nb H d (toV d) := by
 cases d <;> first | (cases h; done) | (unfold IsD; rfl)
theorem IsD.scEq (h : scB d = true) (q : IsD nb H d v) : v = toV d := by
 cases d <;> first | (cases h; done) | (unfold IsD at q; exact q)
theorem IsD.scAny (h : scB d = true) (q : IsD nb H d v) : IsD nb' H' d v := by
 rw [q.scEq h]; exact .sc h
theorem IsDs.scAny : ∀ {ds : List PyData} {xs : List V}, ds.all scB = true -> IsDs nb H ds xs -> IsDs nb' H' ds xs
  | [], _, _, q => by unfold IsDs at q ⊢; exact q
  | d :: ds, _, h, q => by
    rw [zq87x, zq28x] at h
    unfold IsDs at q ⊢
    obtain ⟨y, ys, e, h1, h2⟩ := q
    exact ⟨y, ys, e, h1.scAny h.1, IsDs.scAny h.2 h2⟩
end
section
variable {G : Gx} {ρ : Rh} {Φ Ψ : Pd} {ta tb te : TE} {t : TA} {i : Nat} {f g : Bool} {d e : PyData} {ds es : List PyData} {K : PySem.W.Frag}
theorem Ev.mono (h : Ev G ρ te Ψ) (q : ∀ f d, Ψ f d -> Φ f d) : Ev G ρ te Φ := fun nb σ H Q W z => h nb σ H Q W fun f v H' d p => z f v H' d (q f d p)
theorem EvN.ev (h : EvN G ρ te fun f ds => Φ f (.list ds)) : Ev G ρ te Φ := fun nb σ H Q W z => h nb σ H Q W fun f a xs H' ds p st n e hd =>
 z f _ H' _ p st (.lst (W.fresh n) e (hd.av fun _ x => .inl x))
namespace Ev
theorem var (e : ρ[i]? = some (.d f d)) (h : Φ f d) : Ev G ρ (tVar i) Φ := fun nb σ H Q W z => by
 obtain ⟨x, e1, v, rfl, hd⟩ := W.ok i _ e
 exact ⟨v, e1, z f v H d h (.refl W.bag) hd⟩
theorem int {n : Int} (h : Φ true (.int n)) : Ev G ρ (tC (.int n)) Φ := fun nb σ H Q W z => z true _ H _ h (.refl W.bag) (.int n)
theorem bl {b : Bool} (h : Φ true (.bool b)) : Ev G ρ (tC (.bl b)) Φ := fun nb σ H Q W z => z true _ H _ h (.refl W.bag) (.bl b)
theorem non (h : Φ true .none) : Ev G ρ (tC .non) Φ := fun nb σ H Q W z => z true _ H _ h (.refl W.bag) .non
theorem op2 {r : R2} (h : Ev G ρ ta fun f x => Ev G ρ tb fun g y => ∀ nb σ H u v (Q : VK), Wd G nb ρ σ H -> IsD (G.S nb f) H x u -> IsD (G.S nb g) H y v -> (∀ f w H' d, Φ f d -> Step G.B H H' -> IsD (G.S nb f) H' d w -> Q w H') -> r u v H Q) : Ev G ρ (tOp r ta tb) Φ := fun nb σ H Q W z =>
 h nb σ H _ W fun f v1 H1 d1 p1 s1 q1 => p1 nb σ H1 _ (W.step s1) fun g v2 H2 d2 p2 s2 q2 => p2 nb σ H2 _ _ _ ((W.step s1).step s2) (q1.keep s2.butS) q2 fun f w H' d p st q => z f w H' d p (s1.trans (s2.trans st)) q
theorem rI {C : Int -> Int -> Prop} {k : Int -> Int -> Int} (h : Ev G ρ ta fun _ x => ∃ i, x = .int i /\ Ev G ρ tb fun _ y => ∃ j, y = .int j /\ C i j /\ Φ true (.int (k i j))) : Ev G ρ (tOp (L2.rI C fun i j => .int (k i j)) ta tb) Φ :=
 op2 (h.mono fun f x ⟨i, ex, q⟩ => q.mono fun g y ⟨j, ey, hc, p⟩ nb σ H u v Q W hu hv z => by
  subst ex ey; exact ⟨i, j, hu.ofI, hv.ofI, hc, z true _ H _ p (.refl W.bag) (.int _)⟩)
theorem rI0 {k : Int -> Int -> Int} (h : Ev G ρ ta fun _ x => ∃ i, x = .int i /\ Ev G ρ tb fun _ y => ∃ j, y = .int j /\ Φ true (.int (k i j))) : Ev G ρ (tOp (L2.rI0 fun i j => .int (k i j)) ta tb) Φ :=
 op2 (h.mono fun f x ⟨i, ex, q⟩ => q.mono fun g y ⟨j, ey, p⟩ nb σ H u v Q W hu hv z => by
  subst ex ey; exact ⟨i, j, hu.ofI, hv.ofI, z true _ H _ p (.refl W.bag) (.int _)⟩)
theorem rB0 {k : Int -> Int -> Bool} (h : Ev G ρ ta fun _ x => ∃ i, x = .int i /\ Ev G ρ tb fun _ y => ∃ j, y = .int j /\ Φ true (.bool (k i j))) : Ev G ρ (tOp (L2.rI0 fun i j => .bl (k i j)) ta tb) Φ :=
 op2 (h.mono fun f x ⟨i, ex, q⟩ => q.mono fun g y ⟨j, ey, p⟩ nb σ H u v Q W hu hv z => by
  subst ex ey; exact ⟨i, j, hu.ofI, hv.ofI, z true _ H _ p (.refl W.bag) (.bl _)⟩)
theorem un {r : V -> Hp -> VK -> Prop} (h : Ev G ρ ta fun f x => ∀ nb σ H u (Q : VK), Wd G nb ρ σ H -> IsD (G.S nb f) H x u -> (∀ f w H' d, Φ f d -> Step G.B H H' -> IsD (G.S nb f) H' d w -> Q w H') -> r u H Q) : Ev G ρ (tUn r ta) Φ := fun nb σ H Q W z =>
 h nb σ H _ W fun f v1 H1 d1 p1 s1 q1 => p1 nb σ H1 _ _ (W.step s1) q1 fun f w H' d p st q => z f w H' d p (s1.trans st) q
theorem rU {k : Int -> Int} (h : Ev G ρ ta fun _ x => ∃ i, x = .int i /\ Φ true (.int (k i))) : Ev G ρ (tUn (L2.rU fun i => .int (k i)) ta) Φ :=
 un (h.mono fun f x ⟨i, ex, p⟩ nb σ H u Q W hu z => by subst ex; exact ⟨i, hu.ofI, z true _ H _ p (.refl W.bag) (.int _)⟩)
end Ev
inductive EqD : PyData -> PyData -> Bool -> Prop
 | ii (i j : Int) : EqD (.int i) (.int j) (decide (i = j))
 | ni (i : Int) : EqD .none (.int i) false
 | i_n (i : Int) : EqD (.int i) .none false
 | nn : EqD .none .none true
 | bb (a b : Bool) : EqD (.bool a) (.bool b) (a == b)
 | ss (x : Str) : EqD (.str x) (.str x) true
 | sd (x y : Str) : EqD (.str x) (.str y) (decide (x = y))
theorem EqD.v {nb nb' : Addr -> Prop} {H : Hp} {x y : PyData} {b : Bool} {u v : V} (h : EqD x y b) (hu : IsD nb H x u) (hv : IsD nb' H y v) : scal u v = true /\ decide (u = v) = b := by
 cases h <;> (unfold IsD at hu hv; subst hu hv; refine ⟨rfl, ?_⟩)
 ·exact R.dec_i
 ·rfl
 ·rfl
 ·rfl
 ·rename_i a b; cases a <;> cases b <;> rfl
 ·exact decide_eq_true rfl
 ·rename_i x y
  by_cases c : x = y
  ·subst c; rw [decide_eq_true rfl, decide_eq_true rfl]
  ·rw [decide_eq_false c, decide_eq_false (fun z => c (V.str.inj z))]
theorem EqD.self {d : PyData} (h : scB d = true) : EqD d d true := by
 cases d <;> first | (cases h; done) | skip
 ·exact .nn
 ·rename_i b; have := EqD.bb b b; rwa [beq_self_eq_true] at this
 ·rename_i i; have := EqD.ii i i; rwa [decide_eq_true rfl] at this
 ·exact .ss _
namespace Ev
theorem eq (h : Ev G ρ ta fun _ x => Ev G ρ tb fun _ y => ∃ b, EqD x y b /\ Φ true (.bool b)) : Ev G ρ (tOp rEq ta tb) Φ :=
 op2 (h.mono fun f x q => q.mono fun g y ⟨b, e, p⟩ nb σ H u v Q W hu hv z => by
  obtain ⟨h1, h2⟩ := e.v hu hv
  exact ⟨h1, by rw [h2]; exact z true _ H _ p (.refl W.bag) (.bl _)⟩)
theorem ne (h : Ev G ρ ta fun _ x => Ev G ρ tb fun _ y => ∃ b, EqD x y b /\ Φ true (.bool !b)) : Ev G ρ (tOp rNe ta tb) Φ :=
 op2 (h.mono fun f x q => q.mono fun g y ⟨b, e, p⟩ nb σ H u v Q W hu hv z => by
  obtain ⟨h1, h2⟩ := e.v hu hv
  exact ⟨h1, by rw [h2]; exact z true _ H _ p (.refl W.bag) (.bl _)⟩)
theorem eqD {ng : Bool} (h : Ev G ρ ta fun _ x => Ev G ρ tb fun _ y => SeqAt.shaped x = true /\ SeqAt.shaped y = true /\ Φ true (.bool (PyData.eqv x y != ng))) : Ev G ρ (tOp (rEqD ng) ta tb) Φ :=
 op2 (h.mono fun f x q => q.mono fun g y ⟨h1, h2, p⟩ nb σ H u v Q W hu hv z =>
  ⟨G.S nb false, x, y, hu.av (S_mono (fun z => by cases z) fun _ z => z), hv.av (S_mono (fun z => by cases z) fun _ z => z), h1, h2, z true _ H _ p (.refl W.bag) (.bl _)⟩)
end Ev
def isN : PyData -> Bool
 | .none => true
 | _ => false
theorem isN_v {nb : Addr -> Prop} {H : Hp} {d : PyData} {v : V} (h : IsD nb H d v) : decide (v = .non) = isN d := by
 cases d <;> unfold IsD at h
 all_goals first
  | (subst h; rfl)
  | (obtain ⟨a, xs, rfl, _⟩ := h; rfl)
  | exact h.elim
namespace Ev
theorem is (h : Ev G ρ ta fun _ x => Φ true (.bool (isN x))) : Ev G ρ (tOp rIs ta (tC .non)) Φ :=
 op2 (h.mono fun f x p => Ev.non fun nb σ H u v Q W hu hv z => ⟨hv.ofN, by rw [isN_v hu]; exact z true _ H _ p (.refl W.bag) (.bl _)⟩)
end Ev
theorem IsDs.atI {nb : Addr -> Prop} {H : Hp} {ds : List PyData} {xs : List V} {k : Int} {e : PyData} (h : IsDs nb H ds xs) (q : L2.atI ds k = some e) : ∃ v, L2.atI xs k = some v /\ IsD nb H e v := by
 unfold L2.atI at q ⊢
 rw [h.length]
 cases z : ixN ds.length k with
 | none => rw [z] at q; cases q
 | some j => rw [z] at q; exact h.get q
namespace Ev
theorem ixL (h : Ev G ρ ta fun f x => ∃ ds, x = .list ds /\ Ev G ρ tb fun _ y => ∃ k, y = .int k /\ ∃ e, atI ds k = some e /\ Φ f e) : Ev G ρ (tOp (rIxL K) ta tb) Φ :=
 op2 (h.mono fun f x ⟨ds, ex, q⟩ => q.mono fun g y ⟨k, ey, e, he, p⟩ nb σ H u v Q W hu hv z => by
  subst ex ey
  obtain ⟨a, xs, rfl, n, hx, hd⟩ := hu.ofL
  obtain ⟨w, hw, hD⟩ := hd.atI he
  exact ⟨a, xs, k, w, rfl, hv.ofI, .of hx, hw, z f _ H _ p (.refl W.bag) hD⟩)
theorem ixT (h : Ev G ρ ta fun f x => ∃ ds, x = .tuple ds /\ Ev G ρ tb fun _ y => ∃ k, y = .int k /\ ∃ e, atI ds k = some e /\ Φ f e) : Ev G ρ (tOp (rIxT K) ta tb) Φ :=
 op2 (h.mono fun f x ⟨ds, ex, q⟩ => q.mono fun g y ⟨k, ey, e, he, p⟩ nb σ H u v Q W hu hv z => by
  subst ex ey
  obtain ⟨a, xs, rfl, n, hx, hd⟩ := hu.ofT
  obtain ⟨w, hw, hD⟩ := hd.atI he
  exact ⟨a, xs, k, w, rfl, hv.ofI, .of hx, hw, z f _ H _ p (.refl W.bag) hD⟩)
theorem andV (h : Ev G ρ ta fun _ x => ∃ b, x = .bool b /\ if b = true then Ev G ρ tb Φ else Φ true (.bool false)) : Ev G ρ (tAndV ta tb) Φ := fun nb σ H Q W z =>
 h nb σ H _ W fun f v H1 d ⟨b, e, q⟩ s1 hv => by
  subst e
  refine ⟨b, by unfold IsD at hv; exact hv, ?_⟩
  cases b with
  | true => rw [if_pos rfl] at q ⊢; exact q nb σ H1 _ (W.step s1) fun f v H' d p st => z f v H' d p (s1.trans st)
  | false => rw [if_neg zq15x] at q ⊢; exact z true _ H1 _ q s1 (.bl false)
theorem ifE {c : TT} (h : Tv G ρ c fun b => if b = true then Ev G ρ ta Φ else Ev G ρ tb Φ) : Ev G ρ (tIf c ta tb) Φ := fun nb σ H Q W z =>
 h nb σ H _ W fun b H1 q s1 => by
  cases b with
  | true => rw [if_pos rfl] at q ⊢; exact q nb σ H1 _ (W.step s1) fun f v H' d p st => z f v H' d p (s1.trans st)
  | false => rw [if_neg zq15x] at q ⊢; exact q nb σ H1 _ (W.step s1) fun f v H' d p st => z f v H' d p (s1.trans st)
end Ev
namespace Tv
variable {Θ : Bool -> Prop} {t u : TT}
theorem test (h : Ev G ρ te fun _ x => ∃ b, x = .bool b /\ Θ b) : Tv G ρ (tTest te) Θ := fun nb σ H Q W z =>
 h nb σ H _ W fun f v H1 d ⟨b, e, q⟩ s1 hv => by subst e; exact ⟨b, by unfold IsD at hv; exact hv, z b H1 q s1⟩
theorem and (h : Tv G ρ t fun b => if b = true then Tv G ρ u Θ else Θ false) : Tv G ρ (tAnd t u) Θ := fun nb σ H Q W z =>
 h nb σ H _ W fun b H1 q s1 => by
  cases b with
  | true => rw [if_pos rfl] at q ⊢; exact q nb σ H1 _ (W.step s1) fun b H' p st => z b H' p (s1.trans st)
  | false => rw [if_neg zq15x] at q ⊢; exact z false H1 q s1
theorem or (h : Tv G ρ t fun b => if b = true then Θ true else Tv G ρ u Θ) : Tv G ρ (tOr t u) Θ := fun nb σ H Q W z =>
 h nb σ H _ W fun b H1 q s1 => by
  cases b with
  | false => rw [if_neg zq15x] at q ⊢; exact q nb σ H1 _ (W.step s1) fun b H' p st => z b H' p (s1.trans st)
  | true => rw [if_pos rfl] at q ⊢; exact z true H1 q s1
theorem not (h : Tv G ρ t fun b => Θ (!b)) : Tv G ρ (tNot t) Θ := fun nb σ H Q W z => h nb σ H _ W fun b H1 q s1 => z _ H1 q s1
theorem noTest (h : Θ true) : Tv G ρ tNoTest Θ := fun nb σ H Q W z => z true H h (.refl W.bag)
end Tv
def tTruth (K : PySem.W.Frag) (ta : TE) : TT := fun σ H Q => ta σ H fun x H1 => ∃ k, TruV K x H1 k /\ Q k H1
theorem Tv.truB {Θ : Bool -> Prop} (h : Ev G ρ te fun _ x => ∃ b, x = .bool b /\ Θ b) : Tv G ρ (tTruth K te) Θ := fun nb σ H Q W z =>
 h nb σ H _ W fun f v H1 d ⟨b, e, q⟩ s1 hv => by subst e; exact ⟨b, by unfold IsD at hv; subst hv; rfl, z b H1 q s1⟩
namespace Av
variable {Θ : List Fd -> Prop}
theorem nil (h : Θ []) : Av G ρ tNil Θ := fun nb σ H Q W z => z [] [] H h (.refl W.bag) rfl
theorem cons (h : Ev G ρ te fun f d => Av G ρ t fun es => Θ ((f, d) :: es)) : Av G ρ (tCons te t) Θ := fun nb σ H Q W z =>
 h nb σ H _ W fun f v H1 d p1 s1 q1 => p1 nb σ H1 _ (W.step s1) fun es vs H2 p2 s2 q2 => z _ _ H2 p2 (s1.trans s2) ⟨v, vs, rfl, q1.keep s2.butS, q2⟩
end Av
def allF (es : List Fd) : Bool := es.all (·.1)
theorem IsF.all {nb : Addr -> Prop} {H : Hp} : ∀ {es : List Fd} {vs : List V} {f : Bool}, IsF G nb H es vs -> (f = true -> allF es = true) -> IsDs (G.S nb f) H (es.map (·.2)) vs
  | [], _, _, h, _ => by unfold IsF at h; subst h; exact .nil
  | e :: es, _, f, h, hf => by
    obtain ⟨v, ws, rfl, h1, h2⟩ := h
    refine .cons (h1.av (S_mono (fun z => ?_) fun _ z => z)) (h2.all fun z => ?_)
    · have := hf z; simp only [allF, zq87x, zq28x] at this; exact this.1
    · have := hf z; simp only [allF, zq87x, zq28x] at this; exact this.2
theorem IsF.len {nb : Addr -> Prop} {H : Hp} {es : List Fd} {vs : List V} (h : IsF G nb H es vs) : vs.length = es.length := by
 have := (h.all (f := false) (fun z => by cases z)).length
 simpa using this
namespace Ev
theorem tup (h : Av G ρ t fun es => es.length <= 10000 /\ Φ (allF es) (.tuple (es.map (·.2)))) : Ev G ρ (tTup t) Φ := fun nb σ H Q W z =>
 h nb σ H _ W fun es vs H1 ⟨hl, p⟩ s1 q1 => ⟨zq25x (by rw [q1.len]; exact hl) (by decide), fun a ha => z _ _ _ _ p (s1.trans (.same (W.step s1).bag (same_new ha)))
  (.tup ((W.step s1).fresh ha) upd_same ((q1.all fun z => z).keep (But.of (same_new ha))))⟩
end Ev
theorem EvN.lst {Φ : Bool -> List PyData -> Prop} (h : Av G ρ t fun es => es.length <= 10000 /\ Φ (allF es) (es.map (·.2))) : EvN G ρ (tLst t) Φ := fun nb σ H Q W z =>
  h nb σ H _ W fun es vs H1 ⟨hl, p⟩ s1 q1 => ⟨zq25x (by rw [q1.len]; exact hl) (by decide), fun a ha => by
    have W1 := W.step s1
    refine z _ a vs _ _ p (s1.trans (.same W1.bag (same_new ha))) ?_ upd_same (((q1.all fun z => z).fresh ha).keep (But.of (same_new ha)))
    cases e : H a with
    | none => rfl
    | some o =>
      by_cases n : NB G.B a
      · rw [s1.1 a o n e] at ha; cases ha
      · exact absurd ha (NB.bag_live s1.2 n)⟩
theorem Ev.lst (h : Av G ρ t fun es => es.length <= 10000 /\ Φ (allF es) (.list (es.map (·.2)))) : Ev G ρ (tLst t) Φ := (EvN.lst (Φ := fun f ds => Φ f (.list ds)) h).ev
end
end L2
set_option maxRecDepth 100000
set_option maxHeartbeats 1000000
namespace L2
open PySem PySem.Spec PyProof.Rows
def rLen (K : PySem.W.Frag) : List V -> Hp -> VK -> Prop := fun xs H Q => ∃ p ys, xs = [.ref p] /\ (SqL K H p ys \/ SqT K H p ys) /\ Q (.int ys.length) H
theorem call_lenM {X : Cx} : CallR X (.builtin "len") (rLen X.K) := call_len_seq
def rInt : List V -> Hp -> VK -> Prop := fun xs H Q => (∃ i, xs = [.int i] /\ Q (.int i) H) \/ ∃ k, xs = [.bl k] /\ Q (.int (if k then 1 else 0)) H
theorem call_intM {X : Cx} : CallR X (.type "int") rInt := call_int1
def cutA {α : Type} (xs : List α) (lo hi : Option Int) : List α := (xs.drop (HT.sIx xs.length 0 lo)).take (HT.sIx xs.length xs.length hi - HT.sIx xs.length 0 lo)
theorem IsDs.cut {nb : Addr -> Prop} {H : Hp} {ds : List PyData} {xs : List V} {lo hi : Option Int} (h : IsDs nb H ds xs) : IsDs nb H (cutA ds lo hi) (cutV xs lo hi) := by
 unfold cutA cutV
 rw [h.length]
 exact (h.drop _).take _
def scAll (ds : List PyData) : Bool := ds.all scB
section
variable {G : Gx} {ρ : Rh} {Φ Ψ : Pd} {ta tb te : TE} {t : TA} {i : Nat} {f g : Bool} {d e : PyData} {ds es : List PyData} {K : PySem.W.Frag}
theorem Wd.none_of {nb : Addr -> Prop} {σ : St} {H H1 : Hp} {a : Addr} (W : Wd G nb ρ σ H) (s1 : Step G.B H H1) (ha : H1 a = none) : H a = none := by
  cases e : H a with
  | none => rfl
  | some o =>
    by_cases n : NB G.B a
    · rw [s1.1 a o n e] at ha; cases ha
    · exact absurd ha (NB.bag_live s1.2 n)
theorem EvN.fin {nb : Addr -> Prop} {σ : St} {H H1 : Hp} {Q : VK} {Φ : Bool -> List PyData -> Prop} {a : Addr} {xs : List V} (W : Wd G nb ρ σ H) (s1 : Step G.B H H1) (ha : H1 a = none) (hd : IsDs (G.S nb f) H1 ds xs) (p : Φ (f || scAll ds) ds)
  (z : ∀ f a xs H' ds, Φ f ds -> Step G.B H H' -> H a = none -> H' a = some (.lst xs) -> IsDs (fun x => G.S nb f x \/ x = a) H' ds xs -> Q (.ref a) H') : Q (.ref a) (upd H1 a (.lst xs)) := by
 refine z _ a xs _ ds p (s1.trans (.same s1.2 (same_new ha))) (W.none_of s1 ha) upd_same ?_
 cases hs : scAll ds with
 | true => exact IsDs.scAny hs hd
 | false => rw [zq77x]; exact (hd.fresh ha).keep (But.of (same_new ha))
namespace Ov
variable {Θ : Option Int -> Prop}
theorem none (h : Θ none) : Ov G ρ tNoPart Θ := fun nb σ H Q W z => z _ H h (.refl W.bag)
theorem some (h : Ev G ρ te fun _ x => ∃ k, x = .int k /\ Θ (some k)) : Ov G ρ (tPart te) Θ := fun nb σ H Q W z =>
 h nb σ H _ W fun f v H1 d ⟨k, e, q⟩ s1 hv => by subst e; exact ⟨k, hv.ofI, z _ H1 q s1⟩
end Ov
namespace EvN
variable {Θ : Bool -> List PyData -> Prop}
theorem sl {tl th : TO} (h : Ev G ρ te fun f x => ∃ ds, x = .list ds /\ Ov G ρ tl fun lo => Ov G ρ th fun hi => Θ (f || scAll (cutA ds lo hi)) (cutA ds lo hi)) : EvN G ρ (tSl (rSlL K) te tl th) Θ := fun nb σ H Q W z =>
 h nb σ H _ W fun f v H1 d ⟨ds, e, q⟩ s1 hv => q nb σ H1 _ (W.step s1) fun lo H2 q2 s2 => q2 nb σ H2 _ ((W.step s1).step s2) fun hi H3 q3 s3 => by
  subst e
  obtain ⟨a, xs, rfl, n, hx, hd⟩ := ((hv.keep s2.butS).keep s3.butS).ofL
  exact ⟨a, xs, rfl, .of hx, fun p hp => EvN.fin W (s1.trans (s2.trans s3)) hp hd.cut q3 z⟩
theorem listOf (h : Ev G ρ te fun f x => ∃ ds, (x = .list ds \/ x = .tuple ds) /\ Θ (f || scAll ds) ds) : EvN G ρ (tCB (rListOf K) (tCons te tNil)) Θ := fun nb σ H Q W z =>
 h nb σ H _ W fun f v H1 d ⟨ds, e, q⟩ s1 hv => by
  rcases e with e | e
  ·subst e
   obtain ⟨a, xs, rfl, n, hx, hd⟩ := hv.ofL
   exact ⟨a, xs, rfl, .inl (.of hx), fun p hp => EvN.fin W s1 hp hd q z⟩
  ·subst e
   obtain ⟨a, xs, rfl, n, hx, hd⟩ := hv.ofT
   exact ⟨a, xs, rfl, .inr (.of hx), fun p hp => EvN.fin W s1 hp hd q z⟩
theorem cat (h : Ev G ρ ta fun f x => ∃ ds, x = .list ds /\ Ev G ρ tb fun g y => ∃ es, y = .list es /\ ds.length + es.length <= 10000 /\ Θ ((f && g) || scAll (ds ++ es)) (ds ++ es)) : EvN G ρ (tOp rCat ta tb) Θ := fun nb σ H Q W z =>
 h nb σ H _ W fun f v H1 d ⟨ds, e, q⟩ s1 hv => q nb σ H1 _ (W.step s1) fun g u H2 d2 ⟨es, e2, hl, p⟩ s2 hu => by
  subst e e2
  obtain ⟨a, xs, rfl, n, hx, hd⟩ := (hv.keep s2.butS).ofL
  obtain ⟨c, ys, rfl, m, hy, hc⟩ := hu.ofL
  refine ⟨a, c, xs, ys, rfl, rfl, hx, hy, zq25x (by rw [hd.length, hc.length]; exact hl) (by decide), fun p' hp => EvN.fin (f := f && g) W (s1.trans s2) hp ?_ p z⟩
  exact IsDs.append (hd.av (S_mono (fun z => (zq28x _ _ ▸ z).1) fun _ z => z)) (hc.av (S_mono (fun z => (zq28x _ _ ▸ z).2) fun _ z => z))
end EvN
namespace Ev
theorem sl {tl th : TO} (h : Ev G ρ te fun f x => ∃ ds, x = .list ds /\ Ov G ρ tl fun lo => Ov G ρ th fun hi => Φ (f || scAll (cutA ds lo hi)) (.list (cutA ds lo hi))) : Ev G ρ (tSl (rSlL K) te tl th) Φ := (EvN.sl (Θ := fun f ds => Φ f (.list ds)) h).ev
theorem listOf (h : Ev G ρ te fun f x => ∃ ds, (x = .list ds \/ x = .tuple ds) /\ Φ (f || scAll ds) (.list ds)) : Ev G ρ (tCB (rListOf K) (tCons te tNil)) Φ := (EvN.listOf (Θ := fun f ds => Φ f (.list ds)) h).ev
theorem cat (h : Ev G ρ ta fun f x => ∃ ds, x = .list ds /\ Ev G ρ tb fun g y => ∃ es, y = .list es /\ ds.length + es.length <= 10000 /\ Φ ((f && g) || scAll (ds ++ es)) (.list (ds ++ es))) : Ev G ρ (tOp rCat ta tb) Φ := (EvN.cat (Θ := fun f ds => Φ f (.list ds)) h).ev
theorem lenL (h : Ev G ρ te fun _ x => ∃ ds, x = .list ds /\ Φ true (.int ds.length)) : Ev G ρ (tCB (rLen K) (tCons te tNil)) Φ := fun nb σ H Q W z =>
 h nb σ H _ W fun f v H1 d ⟨ds, e, q⟩ s1 hv => by
  subst e
  obtain ⟨a, xs, rfl, n, hx, hd⟩ := hv.ofL
  exact ⟨a, xs, rfl, .inl (.of hx), by rw [hd.length]; exact z true _ H1 _ q s1 (.int _)⟩
theorem intB (h : Ev G ρ ta fun _ x => ∃ b, x = .bool b /\ Φ true (.int (if b then 1 else 0))) : Ev G ρ (tCB rInt (tCons ta tNil)) Φ := fun nb σ H Q W z =>
 h nb σ H _ W fun f v H1 d ⟨b, e, q⟩ s1 hv => by subst e; unfold IsD at hv; subst hv; exact .inr ⟨b, rfl, z true _ H1 _ q s1 (.int _)⟩
end Ev
abbrev DF := List PyData -> Pd -> Prop
def spD (n : Nat) (F : DF) : Sp := fun vs H Q _ => vs.length = n /\ ∃ (nb : Addr -> Prop) (ds : List PyData), Live nb H /\ IsDs nb H ds vs /\ F ds fun f d => ∀ v H', Same H H' -> IsD (fun a => nb a \/ (f = true /\ H a ≠ none)) H' d v -> Q v H'
def spB (n : Nat) (F : DF) : Sp := fun vs H Q _ => vs.length = n /\ ∃ (b l : Addr) (ws : List V) (nb : Addr -> Prop) (ds : List PyData), vs = .ref b :: ws /\ BagAt H b l /\ Live nb H /\ nb b /\ IsDs nb H ds ws /\
 F ds fun f d => ∀ v H', But (Nb b) H H' -> BagAt H' b l -> IsD (fun a => nb a \/ (f = true /\ H a ≠ none)) H' d v -> Q v H'
def MonoF (F : DF) : Prop := ∀ ds (Φ Ψ : Pd), F ds Φ -> (∀ f d, Φ f d -> Ψ f d) -> F ds Ψ
theorem Ev.callD {n : Nat} {F : DF} (hm : MonoF F) (h : Av G ρ t fun es => es.length = n /\ F (es.map (·.2)) fun f d => Φ (f || allF es) d) : Ev G ρ (tCall (spD n F) [] E0 t) Φ := fun nb σ H Q W z =>
 h nb σ H _ W fun es vs H1 ⟨hl, p⟩ s1 q1 => by
  have W1 := W.step s1
  rw [zq44x]
  refine ⟨by rw [q1.len, hl], G.S nb (allF es), es.map (·.2), W1.liveS, q1.all fun z => z, hm _ _ _ p fun f d hp v H' sm hd => z _ v H' d hp (s1.trans (.same W1.bag sm)) (hd.av fun a q => ?_)⟩
  cases f with
  | false => rw [zq128x] at q; exact .inl q
  | true => exact .inr ⟨rfl, W1.liveS a q⟩
theorem Step.ofBut {b l : Addr} {H H' : Hp} (hB : G.B = some (b, l)) (bt : But (Nb b) H H') (B' : BagAt H' b l) : Step G.B H H' :=
 ⟨fun a o n e => bt a o (n b l hB) e, fun b' l' e => by rw [hB] at e; cases e; exact B'⟩
theorem Wd.theBag {nb : Addr -> Prop} {σ : St} {H : Hp} (W : Wd G nb ρ σ H) (e : ρ[i]? = some .bag) : ∃ b l, G.B = some (b, l) /\ σ[i]? = some (some (.ref b)) /\ BagAt H b l := by
 obtain ⟨x, e1, b, l, hB, rfl⟩ := W.ok i _ e
 exact ⟨b, l, hB, e1, W.bag b l hB⟩
theorem Ev.callB {n : Nat} {F : DF} (hm : MonoF F) (e : ρ[i]? = some .bag) (h : Av G ρ t fun es => es.length + 1 = n /\ F (es.map (·.2)) fun f d => Φ (f || allF es) d) : Ev G ρ (tCall (spB n F) [] E0 (tCons (tVar i) t)) Φ := fun nb σ H Q W z => by
 obtain ⟨b, l, hB, e1, B⟩ := W.theBag e
 refine ⟨.ref b, e1, h nb σ H _ W fun es vs H1 ⟨hl, p⟩ s1 q1 => ?_⟩
 have W1 := W.step s1
 show spB n F ((V.ref b :: vs) ++ []) H1 Q E0
 rw [zq44x]
 have hb : ∀ f, G.S nb f b := fun f => .inr (.inr (.inl fun n => n b l hB rfl))
 refine ⟨by rw [zq35x, q1.len, hl], b, l, vs, G.S nb (allF es), es.map (·.2), rfl, W1.bag b l hB, W1.liveS, hb _, q1.all fun z => z, hm _ _ _ p fun f d hp v H' bt B' hd => z _ v H' d hp (s1.trans (.ofBut hB bt B')) (hd.av fun a q => ?_)⟩
 cases f with
 | false => rw [zq128x] at q; exact .inl q
 | true => exact .inr ⟨rfl, W1.liveS a q⟩
theorem Ev.draw (e : ρ[i]? = some .bag) (h : Ev G ρ te fun _ x => ∃ m : Int, x = .int m /\ 0 < m /\ Sm m /\ ∀ r : Int, 0 <= r -> r < m -> Φ true (.int r)) : Ev G ρ (tCall spDraw [] E0 (tCons (tVar i) (tCons te tNil))) Φ := fun nb σ H Q W z => by
 obtain ⟨b, l, hB, e1, B⟩ := W.theBag e
 refine ⟨.ref b, e1, h nb σ H _ W fun f v H1 d ⟨m, ed, h1, h2, p⟩ s1 hv => ?_⟩
 subst ed
 exact ⟨b, l, m, by rw [hv.ofI]; rfl, s1.2 b l hB, h1, h2, fun r H' r1 r2 bt B' => z true _ H' _ (p r r1 r2) (s1.trans (.ofBut hB bt B')) (.int r)⟩
theorem Ev.prime (e : ρ[i]? = some .bag) (h : ∀ p : Int, IsP p -> Φ true (.int p)) : Ev G ρ (tCall spPrime [] E0 (tCons (tVar i) tNil)) Φ := fun nb σ H Q W z => by
 obtain ⟨b, l, hB, e1, B⟩ := W.theBag e
 exact ⟨.ref b, e1, b, l, rfl, B, fun p H' hp bt B' => z true _ H' _ (h p hp) (.ofBut hB bt B') (.int p)⟩
theorem Ev.whole (h : Ev G ρ te fun _ x => ∃ n, x = .int n /\ Φ true (.bool true)) : Ev G ρ (tCall spWhole [] E0 (tCons te tNil)) Φ := fun nb σ H Q W z =>
 h nb σ H _ W fun f v H1 d ⟨n, e, q⟩ s1 hv => by subst e; exact ⟨n, by rw [hv.ofI]; rfl, z true _ H1 _ q s1 (.bl _)⟩
namespace Gv
variable {Θ : Rh -> Prop}
theorem name (h : Θ (ρ.set i (.d f d))) : Gv G ρ (gName i) f d Θ := fun nb σ H v Q W hv z => z _ _ h (W.setD hv)
theorem nameT (h : Θ (ρ.set i (.d true d))) : Gv G ρ (gName i) true d Θ := name h
theorem nameF (h : Θ (ρ.set i (.d false d))) : Gv G ρ (gName i) f d Θ := fun nb σ H v Q W hv z => z _ _ h (W.setD (hv.av (S_mono (fun z => by cases z) fun _ z => z)))
theorem nameS (hs : scB d = true) (h : Θ (ρ.set i (.d true d))) : Gv G ρ (gName i) f d Θ := fun nb σ H v Q W hv z => z _ _ h (W.setD (hv.scAny hs))
theorem nameI {n : Int} (h : Θ (ρ.set i (.d true (.int n)))) : Gv G ρ (gName i) f (.int n) Θ := nameS rfl h
theorem nameB {n : Bool} (h : Θ (ρ.set i (.d true (.bool n)))) : Gv G ρ (gName i) f (.bool n) Θ := nameS rfl h
theorem tup {n : Nat} {u : TGs} (hl : ds.length = n) (h : Gvs G ρ u f ds Θ) : Gv G ρ (gTup K n u) f (.tuple ds) Θ := fun nb σ H v Q W hv z => by
 obtain ⟨a, xs, rfl, m, hx, hd⟩ := hv.ofT
 exact ⟨a, xs, rfl, .of hx, by rw [hd.length]; exact hl, h nb σ H xs Q W hd z⟩
theorem snil (h : Θ ρ) : Gvs G ρ gNil f [] Θ := fun nb σ H vs Q W hv z => by unfold IsDs at hv; exact ⟨hv, z _ _ h W⟩
theorem scons {u : TG} {us : TGs} (h : Gv G ρ u f d fun ρ1 => Gvs G ρ1 us f ds Θ) : Gvs G ρ (gCons u us) f (d :: ds) Θ := fun nb σ H vs Q W hv z => by
 unfold IsDs at hv
 obtain ⟨y, ys, rfl, h1, h2⟩ := hv
 exact ⟨y, ys, rfl, h nb σ H y _ W h1 fun σ' ρ' q W' => q nb σ' H ys Q W' h2 z⟩
end Gv
namespace Sv
variable {E : DE} {s u : TS}
theorem seq (h : Sv G ρ s { E with nx := fun ρ1 => Sv G ρ1 u E }) : Sv G ρ (tSeq s u) E := fun nb σ H D W K => h nb σ H _ W ⟨fun nb' ρ' σ' H' q W' => q nb' σ' H' D W' K, K.bk, K.ct, K.rt, K.rw⟩
theorem next (h : E.nx ρ) : Sv G ρ tNext E := fun nb σ H D W K => K.nx nb ρ σ H h W
theorem brk (h : E.bk ρ) : Sv G ρ tBreak E := fun nb σ H D W K => K.bk nb ρ σ H h W
theorem cont (h : E.ct ρ) : Sv G ρ tCont E := fun nb σ H D W K => K.ct nb ρ σ H h W
theorem asg {g : TG} (h : Ev G ρ te fun f d => Gv G ρ g f d E.nx) : Sv G ρ (tAsg te g) E := fun nb σ H D W K => h nb σ H _ W fun f v H1 d q s1 hv => q nb σ H1 v _ (W.step s1) hv fun σ' ρ' p W' => K.nx nb ρ' σ' H1 p W'
theorem setC (h : Ev G ρ te fun f d => E.nx (ρ.set i (.d f d))) : Sv G ρ (tSetC i te) E := fun nb σ H D W K => h nb σ H _ W fun f v H1 d q s1 hv => K.nx nb _ _ H1 q ((W.step s1).setD hv)
theorem drop (h : Ev G ρ te fun _ _ => E.nx ρ) : Sv G ρ (tDrop te) E := fun nb σ H D W K => h nb σ H _ W fun f v H1 d q s1 hv => K.nx nb ρ σ H1 q (W.step s1)
theorem ret (h : Ev G ρ te E.rt) : Sv G ρ (tRet te) E := fun nb σ H D W K => h nb σ H _ W fun f v H1 d q s1 hv => K.rt nb ρ σ f v H1 d q (W.step s1) (hv.av (S_mono (fun z => z) fun _ z => z.elim))
theorem ifS {c : TT} (h : Tv G ρ c fun b => if b = true then Sv G ρ s E else Sv G ρ u E) : Sv G ρ (tIfS c s u) E := fun nb σ H D W K => h nb σ H _ W fun b H1 q s1 => by
 cases b with
 | true => rw [if_pos rfl] at q ⊢; exact q nb σ H1 D (W.step s1) K
 | false => rw [if_neg zq15x] at q ⊢; exact q nb σ H1 D (W.step s1) K
theorem own_of {nb : Addr -> Prop} {σ : St} {H H1 : Hp} {a : Addr} {xs : List V} (W : Wd G nb ρ σ H) (s1 : Step G.B H H1) (ha : H a = none) (e : H1 a = some (.lst xs)) (hd : IsDs (fun x => G.S nb f x \/ x = a) H1 ds xs) :
    Wd G (fun x => nb x \/ x = a) (ρ.set i (.own a f ds)) (σ.set i (some (.ref a))) H1 := by
  have hN : NB G.B a := fun b l e z => by
    subst z
    obtain ⟨_, _, _, _, _, h1, _⟩ := W.bag _ _ e
    rw [h1] at ha; cases ha
  have hA : ∀ f x, G.S (fun x => nb x \/ x = a) f x -> (G.S nb f x \/ x = a) := fun f x z => by
    rcases z with (z | z) | z | z | z
    · exact .inl (.inl z)
    · exact .inr z
    · exact .inl (.inr (.inl z))
    · exact .inl (.inr (.inr (.inl z)))
    · exact .inl (.inr (.inr (.inr z)))
  have W1 := W.step s1
  have W2 : Wd G (fun x => nb x \/ x = a) ρ σ H1 := by
    refine ⟨W1.bag, fun x n => ?_, W1.old, fun x n q => ?_, W.gA, W.len, W.gB, fun h m => (((W.hld h m).fresh ha).keep (s1.but fun x z => .inl (.inr (.inr (.inl z))))).av (hA h.1), fun j s e' => ?_, W.apart, W.apd, W.apc⟩
    · rcases n with n | n
      · exact W1.live x n
      · subst n; rw [e]; exact zq32x _
    · rcases n with n | n
      · exact W.nbo x n q
      · subst n
        cases z : G.H0 x with
        | none => rfl
        | some o => rw [W.old x o q z] at ha; cases ha
    · obtain ⟨x, e1, h⟩ := W.ok j s e'
      refine ⟨x, e1, ?_⟩
      cases s with
      | no => trivial
      | d f d => obtain ⟨v, e, h⟩ := h; exact ⟨v, e, ((h.fresh ha).keep (s1.but fun x z => .inl (.inr (.inr (.inl z))))).av (hA f)⟩
      | own c f es => obtain ⟨e, n, q, xs, hx, hd⟩ := h; exact ⟨e, .inl n, q, xs, s1.1 _ _ q hx, ((hd.fresh ha).keep (s1.but fun x z => .inl (.inr (.inr (.inl z))))).av (hA f)⟩
      | bag => exact h
      | raw v => exact h
      | dic c f es => obtain ⟨e, n, q, xs, hx, hd⟩ := h; exact ⟨e, .inl n, q, xs, s1.1 _ _ q hx, ((hd.fresh ha).keep (s1.but fun x z => .inl (.inr (.inr (.inl z))))).av (hA f)⟩
      | cu c =>
        obtain ⟨e, n, q⟩ := h
        refine ⟨e, fun a ha => ⟨.inl (n a ha).1, (n a ha).2⟩, c.av (hA c.f) (c.keep (.of fun x o hx e => s1.1 x o ?_ e) (c.fresh ha q))⟩
        rcases hx with hx | hx
        · exact zq51x fun z => hx (.inl (.inr (.inr (.inl z))))
        · exact (n x hx).2
  refine W2.set ⟨rfl, .inr rfl, hN, xs, e, hd.av (hA f)⟩ ?_ (fun _ _ _ z => by cases z) (fun x hx j t hj ht hc => ?_)
  rotate_left
  · have hx : x = a := zq10x.mp hx
    subst hx
    rcases hc with ⟨c, z⟩ | ⟨c, rfl⟩
    · cases z
    · exact fun z => W.live x ((W.ok j _ ht).choose_spec.2.2.1 x z).1 ha
  rintro a' f' ds' ⟨rfl, rfl, rfl⟩ j c g cs hj hc z
  subst z
  obtain ⟨x, e1, h1, h2, h3, ys, hy, _⟩ := W.ok j _ hc
  rw [hy] at ha; cases ha
theorem asgN (h : EvN G ρ te fun f ds => ∀ a, E.nx (ρ.set i (.own a f ds))) : Sv G ρ (tAsg te (gName i)) E := fun nb σ H D W K => h nb σ H _ W fun f a xs H1 ds q s1 ha e hd => K.nx _ _ _ H1 (q a) (own_of W s1 ha e hd)
theorem writeOwn {nb : Addr -> Prop} {σ : St} {H : Hp} {a : Addr} {xs : List V} (W : Wd G nb ρ σ H) (e : ρ[i]? = some (.own a f ds)) (hd : IsDs (G.S nb g) H es xs) : Wd G nb (ρ.set i (.own a g es)) σ (upd H a (.lst xs)) := by
  obtain ⟨x, e1, h1, h2, h3, ys, hy, _⟩ := W.ok i _ e
  subst h1
  have hil : i < ρ.length := (zq8x.mp e).1
  have W0 : Wd G nb (ρ.set i .no) (σ.set i (some (.ref a))) H := W.set trivial fun _ _ _ z => by cases z
  have W1 : Wd G nb (ρ.set i .no) (σ.set i (some (.ref a))) (upd H a (.lst xs)) := W0.write h2 h3 (fun j c f' cs hc => by
    by_cases hij : i = j
    · subst hij; rw [zq12x hil] at hc; cases hc
    · rw [zq6x hij] at hc
      exact (W.apart i j _ _ _ _ _ _ hij e hc).symm
   ) (fun j c f' cs hc z => by
      subst z
      have hij : i ≠ j := fun z => by subst z; rw [zq12x hil] at hc; cases hc
      rw [zq6x hij] at hc
      obtain ⟨_, _, _, _, _, ps, hp, _⟩ := W.ok j _ hc
      rw [hy] at hp; cases hp) (fun j c hc z => by
      have hij : i ≠ j := fun z => by subst z; rw [zq12x hil] at hc; cases hc
      rw [zq6x hij] at hc
      exact W.apc j i c _ (zq18x hij) hc e a z (zq10x.mpr rfl))
  have W2 := W1.set (i := i) (s := .own a g es) (x := some (.ref a)) ⟨rfl, h2, h3, xs, upd_same, hd.keep (But.set (.inl h2))⟩ (by
    rintro a' f' ds' ⟨rfl, rfl, rfl⟩ j c g' cs hj hc
    rw [zq6x (zq18x hj)] at hc
    exact W.apart i j _ _ _ _ _ _ (zq18x hj) e hc) (fun _ _ _ z => by cases z) (fun x hx j t hj ht hc z => by
    rw [zq6x (zq18x hj)] at ht
    have hx : x = a := zq10x.mp hx
    subst hx
    rcases hc with ⟨c, q⟩ | ⟨c, rfl⟩
    · cases q
    · exact W.apc j i c _ hj ht e x z (zq10x.mpr rfl))
  rw [zq69x, zq69x] at W2
  have : σ.set i (some (.ref a)) = σ := by
    apply zq79x
    intro j
    by_cases hij : i = j
    · subst hij; rw [zq12x (by rw [W.len]; exact hil), e1]
    · rw [zq6x hij]
  rwa [this] at W2
theorem append {a : Addr} (e : ρ[i]? = some (.own a f ds)) (h : Ev G ρ te fun g d => ds.length < 10000 /\ E.nx (ρ.set i (.own a (f && g) (ds ++ [d])))) : Sv G ρ (tDrop (tBM K "list" rAppend (tVar i) (tCons te tNil))) E := fun nb σ H D W KK => by
 obtain ⟨x, e1, h1, h2, h3, xs, hx, hd⟩ := W.ok i _ e
 subst h1
 refine ⟨.ref a, e1, .inl ⟨rfl, _, SqL.of hx⟩, h nb σ H _ W fun g v H1 d ⟨hl, q⟩ s1 hv => ?_⟩
 have W1 := W.step s1
 have hx1 := s1.1 _ _ h3 hx
 refine ⟨a, xs, v, rfl, rfl, hx1, zq17x (by rw [hd.length]; exact hl) (by decide), KK.nx nb _ _ _ q (writeOwn W1 e ?_)⟩
 exact IsDs.snoc (hv.av (S_mono (fun z => (zq28x _ _ ▸ z).2) fun _ z => z)) ((hd.keep s1.butS).av (S_mono (fun z => (zq28x _ _ ▸ z).1) fun _ z => z))
theorem share {nb : Addr -> Prop} {σ : St} {H : Hp} {a : Addr} (W : Wd G nb ρ σ H) (e : ρ[i]? = some (.own a f ds)) : Wd G (fun x => nb x /\ x ≠ a) (ρ.set i (.d f (.list ds))) σ H := by
  obtain ⟨x, e1, h1, h2, h3, xs, hx, hd⟩ := W.ok i _ e
  subst h1
  have hil : i < ρ.length := (zq8x.mp e).1
  have W0 : Wd G nb (ρ.set i .no) (σ.set i (some (.ref a))) H := W.set trivial fun _ _ _ z => by cases z
  have W1 : Wd G (fun x => nb x /\ x ≠ a) (ρ.set i .no) (σ.set i (some (.ref a))) H := by
    refine ⟨W0.bag, fun x n => W0.live x n.1, W0.old, fun x n => W0.nbo x n.1, W0.gA, W0.len, W0.gB, fun h m => (W0.hld h m).av (S_mono (fun z => z) fun _ z => z.1), fun j s e' => ?_, W0.apart, W0.apd, W0.apc⟩
    obtain ⟨x, e1', h⟩ := W0.ok j s e'
    refine ⟨x, e1', ?_⟩
    have hij : s ≠ .no -> i ≠ j := fun n z => by subst z; rw [zq12x hil] at e'; cases e'; exact n rfl
    cases s with
    | no => trivial
    | d f d => obtain ⟨v, e, h⟩ := h; exact ⟨v, e, h.av (S_mono (fun z => z) fun _ z => z.1)⟩
    | own c f es =>
      obtain ⟨e2, n, q, xs, hx, hd⟩ := h
      have hij := hij (by intro z; cases z)
      rw [zq6x hij] at e'
      exact ⟨e2, ⟨n, (W.apart i j _ _ _ _ _ _ hij e e').symm⟩, q, xs, hx, hd.av (S_mono (fun z => z) fun _ z => z.1)⟩
    | bag => exact h
    | raw v => exact h
    | dic c f es =>
      obtain ⟨e2, n, q, ps, hp, hd⟩ := h
      have hca : c ≠ a := fun z => by subst z; rw [hx] at hp; cases hp
      exact ⟨e2, ⟨n, hca⟩, q, ps, hp, hd.av (S_mono (fun z => z) fun _ z => z.1)⟩
    | cu c =>
      obtain ⟨e2, n, q⟩ := h
      have hij := hij (by intro z; cases z)
      rw [zq6x hij] at e'
      exact ⟨e2, fun x hx => ⟨⟨(n x hx).1, fun z => W.apc j i c _ (zq18x hij) e' e x hx (by rw [z]; exact zq10x.mpr rfl)⟩, (n x hx).2⟩, c.av (S_mono (fun z => z) fun _ z => z.1) q⟩
  have W2 := W1.setD (i := i) (f := f) (d := .list ds) (v := .ref a) (.lst (fun z => by
    rcases z with z | z | z | z
    · exact z.2 rfl
    · exact W.gA a z (W.nbo a h2 h3)
    · exact z h3
    · exact z.2 (W.nbo a h2 h3)) hx (hd.av (S_mono (fun z => z) fun _ z => z.1)))
  rw [zq69x, zq69x] at W2
  have : σ.set i (some (.ref a)) = σ := by
    apply zq79x
    intro j
    by_cases hij : i = j
    · subst hij; rw [zq12x (by rw [W.len]; exact hil), e1]
    · rw [zq6x hij]
  rwa [this] at W2
theorem demote {a : Addr} (i : Nat) (e : ρ[i]? = some (.own a f ds)) (h : Sv G (ρ.set i (.d f (.list ds))) s E) : Sv G ρ s E := fun nb σ H D W K => h _ σ H D (share W e) K
theorem wk {ρ' : Rh} (w : Wk ρ' ρ) (h : Sv G ρ' s E) : Sv G ρ s E := fun nb σ H D W K => h nb σ H D (W.wk w) K
end Sv
end
end L2
set_option maxRecDepth 100000
set_option maxHeartbeats 1000000
namespace L2
open PySem PySem.Spec PyProof.Rows
abbrev Gx.hd (G : Gx) (f : Bool) (d : PyData) (v : V) : Gx := { G with hold := (f, .d d, v) :: G.hold }
section
variable {G : Gx} {ρ ρc : Rh} {Φ Ψ : Pd} {ta tb te : TE} {t : TA} {i : Nat} {f g : Bool} {d e : PyData} {ds es : List PyData} {K : PySem.W.Frag}
theorem Wd.hd {nb : Addr -> Prop} {σ : St} {H : Hp} {v : V} (W : Wd G nb ρ σ H) (h : IsD (G.S nb f) H d v) : Wd (G.hd f d v) nb ρ σ H :=
 ⟨W.bag, W.live, W.old, W.nbo, W.gA, W.len, W.gB, fun x m => by
  rcases zq4x.mp m with e | m
  ·subst e; exact h
  ·exact W.hld x m, fun i s e => by
   obtain ⟨x, e1, h⟩ := W.ok i s e
   refine ⟨x, e1, ?_⟩
   cases s <;> exact h, W.apart, W.apd, W.apc⟩
theorem Wd.unhd {nb : Addr -> Prop} {σ : St} {H : Hp} {v : V} (W : Wd (G.hd f d v) nb ρ σ H) : Wd G nb ρ σ H /\ IsD (G.S nb f) H d v :=
 ⟨⟨W.bag, W.live, W.old, W.nbo, W.gA, W.len, W.gB, fun x m => W.hld x (zq20x _ m), fun i s e => by
   obtain ⟨x, e1, h⟩ := W.ok i s e
   refine ⟨x, e1, ?_⟩
   cases s <;> exact h, W.apart, W.apd, W.apc⟩, W.hld _ (zq14x ..)⟩
namespace Sv
variable {E : DE} {s : TS} {gt : TG}
def Turns (G : Gx) (ρ : Rh) (n : Nat) (it : Nat -> PyData -> Prop) (fi : Bool) (gt : TG) (s : TS) (E : DE) : Prop :=
 ∃ I : Nat -> Rh -> Prop, I 0 ρ /\ (∀ i d ρ', it i d -> I i ρ' -> Gv G ρ' gt fi d fun ρ2 => Sv G ρ2 s { nx := I (i + 1), rt := E.rt, bk := E.nx, ct := I (i + 1), rw := E.rw }) /\ ∀ ρ', I n ρ' -> E.nx ρ'
theorem loopR {lo : Int} {n : Nat} {nb : Addr -> Prop} {σ : St} {H : Hp} {D : Ends} (W : Wd G nb ρ σ H) (KK : EndsOk G E D) (h : Turns G ρ n (fun i d => i < n /\ d = .int (lo + i)) true gt s E) :
  ∃ W : Nat -> Nat -> St -> Hp -> Prop, (∃ m, W 0 m σ H) /\ ∀ i m σ H, W i m σ H ->
   ((Itr lo n).stop i H /\ D.nx σ H) \/ ((Itr lo n).go i H /\ ∃ N : St -> Hp -> Prop, (∀ σ' H', N σ' H' -> ∃ m', m' < m /\ W (i + 1) m' σ' H') /\ ∀ x H', (Itr lo n).yld i H x H' -> gt x σ H' fun σ2 H2 => s { D with nx := N, ct := N, bk := D.nx } σ2 H2) := by
 obtain ⟨I, h0, ht, he⟩ := h
 refine for_range (fun i σ H => ∃ nb ρ', I i ρ' /\ Wd G nb ρ' σ H) ⟨nb, ρ, h0, W⟩ ?_ ?_
 ·rintro i σ H hi ⟨nb, ρ', hI, W⟩
  refine ht i _ ρ' ⟨hi, rfl⟩ hI nb σ H _ _ W (.int _) fun σ2 ρ2 q W2 => q nb σ2 H _ W2 ?_
  exact ⟨fun nb ρ σ H q W => ⟨nb, ρ, q, W⟩, KK.nx, fun nb ρ σ H q W => ⟨nb, ρ, q, W⟩, KK.rt, KK.rw⟩
 ·rintro σ H ⟨nb, ρ', hI, W⟩
  exact KK.nx nb ρ' σ H (he ρ' hI) W
theorem forR1 (h : Ev G ρ te fun _ x => ∃ n : Int, x = .int n /\ -(2 ^ 62) <= n /\ n < 2 ^ 62 /\ Turns G ρ n.toNat (fun i d => i < n.toNat /\ d = .int (0 + i)) true gt s E) : Sv G ρ (tFor (iRng1 (tCons te tNil)) gt s) E := fun nb σ H D W KK =>
 h nb σ H _ W fun f v H1 x ⟨n, ex, h1, h2, q⟩ s1 hv => by
  subst ex
  rw [hv.ofI]
  exact ⟨n, rfl, h1, h2, loopR (W.step s1) KK q⟩
theorem forL (h : Ev G ρ te fun f x => ∃ ds, x = .list ds /\ ∀ v, Turns (G.hd f (.list ds) v) ρ ds.length (fun i d => ds[i]? = some d) f gt s E) : Sv G ρ (tFor (iList K te) gt s) E := fun nb σ H D W KK =>
 h nb σ H _ W fun f v H1 x ⟨ds, ex, q⟩ s1 hv => by
  subst ex
  obtain ⟨I, h0, ht, he⟩ := q v
  have W1 := (W.step s1).hd hv
  obtain ⟨a, xs, rfl, n, hx, hd⟩ := hv.ofL
  have key : ∀ {nb ρ' σ H}, Wd (G.hd f (.list ds) (.ref a)) nb ρ' σ H -> ∃ xs, H a = some (.lst xs) /\ IsDs (G.S nb f) H ds xs := fun W => by
   obtain ⟨a', xs', e', _, h', d'⟩ := W.unhd.2.ofL
   cases e'
   exact ⟨xs', h', d'⟩
  refine ⟨a, rfl, ⟨xs, .of hx⟩, ?_⟩
  refine ⟨fun i m σ H => m = ds.length - i /\ i <= ds.length /\ ∃ nb ρ', I i ρ' /\ Wd (G.hd f (.list ds) (.ref a)) nb ρ' σ H, ⟨ds.length, by simp, zq36x _, nb, ρ, h0, W1⟩, ?_⟩
  rintro i m σ H ⟨rfl, hi, nb, ρ', hI, W⟩
  obtain ⟨ys, hy, hD⟩ := key W
  have hl := hD.length
  by_cases hlt : i < ds.length
  ·refine .inr ⟨⟨ys, ys[i]'(by omega), .of hy, zq5x _⟩, fun σ H => ∃ nb ρ', I (i + 1) ρ' /\ Wd (G.hd f (.list ds) (.ref a)) nb ρ' σ H, fun σ' H' q => ⟨ds.length - (i + 1), by omega, rfl, hlt, q⟩, fun x H' y => ?_⟩
   obtain ⟨e, y⟩ := y
   subst e
   have hx := y ys (.of hy)
   obtain ⟨x', hx', dx⟩ := hD.get (zq5x hlt)
   rw [hx] at hx'; cases hx'
   refine ht i _ ρ' (zq5x hlt) hI nb σ _ _ _ W dx fun σ2 ρ2 q W2 => q nb σ2 _ _ W2 ?_
   exact ⟨fun nb ρ σ H q W => ⟨nb, ρ, q, W⟩, fun nb ρ σ H q W => KK.nx nb ρ σ H q W.unhd.1, fun nb ρ σ H q W => ⟨nb, ρ, q, W⟩, fun nb ρ σ f v H d q W hv => KK.rt nb ρ σ f v H d q W.unhd.1 hv, fun nb ρ σ v H q W => KK.rw nb ρ σ v H q W.unhd.1⟩
  ·have e : i = ds.length := by omega
   subst e
   exact .inl ⟨⟨ys, .of hy, by omega⟩, KK.nx nb ρ' σ H (he ρ' hI) W.unhd.1⟩
end Sv
def startR (mp : List (Option Nat)) (ρ : Rh) : Rh := mp.map fun o => match o with | none => .no | some j => match ρ[j]? with | some s => s | none => .no
theorem mp_inj {mp : List (Option Nat)} (h : (mp.filterMap id).Nodup) : ∀ {i j k : Nat}, mp[i]? = some (some k) -> mp[j]? = some (some k) -> i = j := by
  induction mp with
  | nil => intro i j k e; simp at e
  | cons o r ih =>
    intro i j k e1 e2
    have hr : (r.filterMap id).Nodup := by
      cases o with
      | none => simpa using h
      | some x => rw [zq159x (by rfl)] at h; exact (zq33x.mp h).2
    have hn : ∀ {m : Nat}, r[m]? = some (some k) -> o ≠ some k := fun {m} hm e => by
      subst e
      rw [zq159x (by rfl)] at h
      exact (zq33x.mp h).1 (zq121x.mpr ⟨some k, zq27x hm, rfl⟩)
    cases i with
    | zero =>
      cases j with
      | zero => rfl
      | succ j => simp at e1 e2; exact absurd e1 (hn e2)
    | succ i =>
      cases j with
      | zero => simp at e1 e2; exact absurd e2 (hn e1)
      | succ j => simp at e1 e2; rw [ih hr e1 e2]
theorem Wd.startC {nb : Addr -> Prop} {σ : St} {H : Hp} {mp : List (Option Nat)} (W : Wd G nb ρ σ H) (hm : (mp.filterMap id).Nodup) : Wd G nb (startR mp ρ) (startC mp σ) H := by
  have hat : ∀ {i : Nat} {s : Sl}, (startR mp ρ)[i]? = some s -> s = .no \/ ∃ k, mp[i]? = some (some k) /\ ρ[k]? = some s := fun {i s} e => by
    unfold startR at e
    rw [zq19x] at e
    obtain ⟨o, ho, e⟩ := zq46x.mp e
    cases o with
    | none => exact .inl e.symm
    | some k =>
      cases hk : ρ[k]? with
      | none => simp only [hk] at e; exact .inl e.symm
      | some s' => simp only [hk] at e; subst e; exact .inr ⟨k, ho, hk⟩
  refine ⟨W.bag, W.live, W.old, W.nbo, W.gA, by unfold L2.startC startR; rw [zq0x, zq0x], W.gB, W.hld, fun i s e => ?_, fun i j a f as c g cs hij e1 e2 => ?_, fun i j a f as c g cs hij e1 e2 => ?_, fun i j c t hij e1 e2 a ha => ?_⟩
  · have hi : i < mp.length := by have := (zq8x.mp e).1; unfold startR at this; rwa [zq0x] at this
    rcases hat e with rfl | ⟨k, hk, hs⟩
    · exact ⟨_, by unfold L2.startC; rw [zq19x, zq5x hi]; rfl, trivial⟩
    · obtain ⟨x, e1, h⟩ := W.ok k s hs
      refine ⟨x, ?_, h⟩
      unfold L2.startC
      rw [zq19x, hk]
      simp only [Option.map_some, e1]
  · rcases hat e1 with z | ⟨k, hk, hs⟩
    · cases z
    rcases hat e2 with z | ⟨k', hk', hs'⟩
    · cases z
    exact W.apart k k' a f as c g cs (fun z => by subst z; exact hij (mp_inj hm hk hk')) hs hs'
  · rcases hat e1 with z | ⟨k, hk, hs⟩
    · cases z
    rcases hat e2 with z | ⟨k', hk', hs'⟩
    · cases z
    exact W.apd k k' a f as c g cs (fun z => by subst z; exact hij (mp_inj hm hk hk')) hs hs'
  · rcases hat e1 with z | ⟨k, hk, hs⟩
    · cases z
    rcases hat e2 with z | ⟨k', hk', hs'⟩
    · subst z; exact fun z => by cases z
    exact W.apc k k' c t (fun z => by subst z; exact hij (mp_inj hm hk hk')) hs hs' a ha
def NoOwn (ρ : Rh) (acc : Addr) : Prop := (∀ (j : Nat) a f ds, ρ[j]? = some (.own a f ds) -> a ≠ acc) /\ ∀ (j : Nat) c, ρ[j]? = some (.cu c) -> acc ∉ c.F
def CompD (G : Gx) (ρc : Rh) (n : Nat) (it : Nat -> PyData -> Prop) (fi : Bool) (gt : TG) (tc : TT) (te : TE) (Θ : Bool -> List PyData -> Prop) : Prop :=
 ∃ (fl : Bool) (I : Nat -> List PyData -> Prop), I 0 [] /\ (∀ i d ds, it i d -> ds.length <= i -> I i ds -> Gv G ρc gt fi d fun ρ1 => Wk ρc ρ1 /\ Tv G ρ1 tc fun b => if b = true then Ev G ρ1 te fun f e => (fl = true -> f = true) /\ I (i + 1) (ds ++ [e]) else I (i + 1) ds) /\
  ∀ ds, ds.length <= n -> I n ds -> Θ (fl || scAll ds) ds
theorem comp_turn {gt : TG} {tc : TT} {nb : Addr -> Prop} {acc : Addr} {σ : St} {H H1 : Hp} {x : V} {fi fl : Bool} {I : Nat -> List PyData -> Prop} {xs : List V} {N : St -> Hp -> Prop} {ds : List PyData} {n : Nat} (hn : n <= 10000) (hi : i < n)
    (W : Wd G nb ρc σ H) (ha : nb acc) (hN : NB G.B acc) (hno : NoOwn ρc acc) (st : Step G.B H1 H) (hacc : H1 acc = none) (hx : H acc = some (.lst xs)) (hd : IsDs (G.S nb fl) H ds xs) (hl : ds.length <= i) (hxd : IsD (G.S nb fi) H d x)
    (h : Gv G ρc gt fi d fun ρ1 => Wk ρc ρ1 /\ Tv G ρ1 tc fun b => if b = true then Ev G ρ1 te fun f e => (fl = true -> f = true) /\ I (i + 1) (ds ++ [e]) else I (i + 1) ds)
    (z : ∀ σ' H' ds' xs', Wd G nb ρc σ' H' -> Step G.B H1 H' -> H' acc = some (.lst xs') -> IsDs (G.S nb fl) H' ds' xs' -> ds'.length <= i + 1 -> I (i + 1) ds' -> N σ' H') :
    gt x σ H fun σ2 H2 => tc σ2 H2 fun b H3 => if b = true then te σ2 H3 fun v H4 => ∃ ys, H4 acc = some (.lst ys) /\ ys.length < sizeLine /\ N σ2 (upd H4 acc (.lst (ys ++ [v]))) else N σ2 H3 := by
  refine h nb σ H x _ W hxd fun σ2 ρ1 ⟨wk, q⟩ W2 => q nb σ2 H _ W2 fun b H3 q3 s3 => ?_
  have hx3 := s3.1 _ _ hN hx
  have hd3 := hd.keep (s3.butS (nb := nb) (f := fl))
  cases b with
  | false =>
    rw [if_neg zq15x] at q3 ⊢
    exact z σ2 H3 ds xs ((W2.step s3).wk wk) (st.trans s3) hx3 hd3 (by omega) q3
  | true =>
    rw [if_pos rfl] at q3 ⊢
    refine q3 nb σ2 H3 _ (W2.step s3) fun f v H4 e ⟨hf, hI⟩ s4 hv => ?_
    have hx4 := s4.1 _ _ hN hx3
    have hd4 := hd3.keep (s4.butS (nb := nb) (f := fl))
    have hlen := hd.length
    refine ⟨xs, hx4, zq17x (show xs.length < 10001 by omega) (by decide), ?_⟩
    have W4 : Wd G nb ρc σ2 H4 := ((W2.step s3).step s4).wk wk
    have bt : But (G.S nb fl) H4 (upd H4 acc (.lst (xs ++ [v]))) := But.set (.inl ha)
    have W5 : Wd G nb ρc σ2 (upd H4 acc (.lst (xs ++ [v]))) := W4.write ha hN hno.1 (fun j a f ds e z => by
      subst z
      obtain ⟨_, _, _, _, _, ps, hp, _⟩ := W4.ok j _ e
      rw [hx4] at hp; cases hp) hno.2
    refine z σ2 _ (ds ++ [e]) (xs ++ [v]) W5 ⟨fun a o n q => ?_, W5.bag⟩ upd_same (IsDs.snoc ((hv.av (S_mono hf fun _ z => z)).keep bt) (hd4.keep bt)) (by rw [zq26x, zq67x]; omega) hI
    have hne : a ≠ acc := fun z => by subst z; rw [hacc] at q; cases q
    rw [upd_ne hne]
    exact (st.trans (s3.trans s4)).1 a o n q
theorem no_own {nb : Addr -> Prop} {σ : St} {H : Hp} {a : Addr} (W : Wd G nb ρ σ H) (ha : H a = none) : NoOwn ρ a := by
 refine ⟨fun j c f ds e z => ?_, fun j c e z => ?_⟩
 ·subst z
  obtain ⟨x, e1, h1, h2, h3, ys, hy, _⟩ := W.ok j _ e
  rw [hy] at ha; cases ha
 ·obtain ⟨x, e1, h1, h2, h3⟩ := W.ok j _ e
  exact W.live a (h2 a z).1 ha
theorem hA_more {nb : Addr -> Prop} {a : Addr} {f : Bool} : ∀ x, (G.S nb f x \/ x = a) -> G.S (fun x => nb x \/ x = a) f x := fun x z => by
 rcases z with (z | z | z | z) | z
 ·exact .inl (.inl z)
 ·exact .inr (.inl z)
 ·exact .inr (.inr (.inl z))
 ·exact .inr (.inr (.inr z))
 ·exact .inl (.inr z)
theorem comp_end {nb : Addr -> Prop} {acc : Addr} {H H1 H' : Hp} {σ : St} {Q : VK} {Θ : Bool -> List PyData -> Prop} {xs : List V} {ds : List PyData} {fl : Bool} (W : Wd G nb ρ σ H) (s1 : Step G.B H H1) (hacc : H1 acc = none) (s2 : Step G.B H1 H') (hx : H' acc = some (.lst xs)) (hd : IsDs (G.S (fun x => nb x \/ x = acc) fl) H' ds xs) (p : Θ (fl || scAll ds) ds)
  (z : ∀ f a xs H' ds, Θ f ds -> Step G.B H H' -> H a = none -> H' a = some (.lst xs) -> IsDs (fun x => G.S nb f x \/ x = a) H' ds xs -> Q (.ref a) H') : Q (.ref acc) H' := by
 refine z _ acc xs H' ds p (s1.trans s2) (W.none_of s1 hacc) hx ?_
 cases hs : scAll ds with
 | true => exact IsDs.scAny hs hd
 | false => rw [zq77x]; exact hd.av hA_more
theorem NB.new {B : Bg} {H : Hp} {a : Addr} (h : BagOk B H) (ha : H a = none) : NB B a := zq51x fun z => NB.bag_live h z ha
namespace EvN
variable {Θ : Bool -> List PyData -> Prop} {gt : TG} {tc : TT} {mp : List (Option Nat)}
theorem compR {lo : Int} {n : Nat} {nb : Addr -> Prop} {σ : St} {H H1 : Hp} {Q : VK} (W : Wd G nb ρ σ H) (s1 : Step G.B H H1) (hm : (mp.filterMap id).Nodup) (hρ : startR mp ρ = ρc) (hn : n <= 10000) (h : CompD G ρc n (fun i d => i < n /\ d = .int (lo + i)) true gt tc te Θ)
  (z : ∀ f a xs H' ds, Θ f ds -> Step G.B H H' -> H a = none -> H' a = some (.lst xs) -> IsDs (fun x => G.S nb f x \/ x = a) H' ds xs -> Q (.ref a) H') (acc : Addr) (hacc : H1 acc = none) : CompW (Itr lo n) gt tc te acc (fun H' => Q (.ref acc) H') (startC mp σ) (upd H1 acc (.lst [])) := by
 obtain ⟨fl, I, h0, ht, he⟩ := h
 have W0 : Wd G nb ρc (L2.startC mp σ) H1 := by rw [<- hρ]; exact (W.step s1).startC hm
 have W1 := W0.more hacc (o := .lst [])
 have hN := NB.new s1.2 hacc
 have hno := no_own W0 hacc
 have st0 : Step G.B H1 (upd H1 acc (.lst [])) := .same s1.2 (same_new hacc)
 refine R.comp_range (fun i σ H => ∃ ds xs, Wd G (fun x => nb x \/ x = acc) ρc σ H /\ Step G.B H1 H /\ H acc = some (.lst xs) /\ IsDs (G.S (fun x => nb x \/ x = acc) fl) H ds xs /\ ds.length <= i /\ I i ds) ⟨[], [], W1, st0, upd_same, .nil, zq1x _, h0⟩ ?_ ?_
 ·rintro i σ H hi ⟨ds, xs, W, st, hx, hd, hl, hI⟩
  exact comp_turn hn hi W (.inr rfl) hN hno st hacc hx hd hl (.int _) (ht i _ ds ⟨hi, rfl⟩ hl hI) fun σ' H' ds' xs' W' st' hx' hd' hl' hI' => ⟨ds', xs', W', st', hx', hd', hl', hI'⟩
 ·rintro σ H' ⟨ds, xs, W', st, hx, hd, hl, hI⟩
  exact comp_end W s1 hacc st hx hd (he ds hl hI) z
theorem compR1 {t0 : TE} (hm : (mp.filterMap id).Nodup) (hρ : startR mp ρ = ρc) (h : Ev G ρ t0 fun _ x => ∃ n : Int, x = .int n /\ -10000 <= n /\ n <= 10000 /\ CompD G ρc n.toNat (fun i d => i < n.toNat /\ d = .int (0 + i)) true gt tc te Θ) : EvN G ρ (tComp (iRng1 (tCons t0 tNil)) gt tc te mp) Θ := fun nb σ H Q W z =>
 h nb σ H _ W fun f v H1 x ⟨n, ex, h1, h2, q⟩ s1 hv => by
  subst ex
  rw [hv.ofI]
  exact ⟨n, rfl, by omega, by omega, compR W s1 hm hρ (by omega) q z⟩
theorem compL {t0 : TE} (hm : (mp.filterMap id).Nodup) (hρ : startR mp ρ = ρc) (h : Ev G ρ t0 fun fi x => ∃ es, x = .list es /\ es.length <= 10000 /\ ∀ v, CompD (G.hd fi (.list es) v) ρc es.length (fun i d => es[i]? = some d) fi gt tc te Θ) : EvN G ρ (tComp (iList K t0) gt tc te mp) Θ := fun nb σ H Q W z =>
 h nb σ H _ W fun fi v H1 x ⟨es, ex, hn, q⟩ s1 hv => by
  subst ex
  obtain ⟨fl, I, h0, ht, he⟩ := q v
  have W0 := (W.step s1).hd hv
  obtain ⟨a, xs, rfl, n, hx, hd⟩ := hv.ofL
  refine ⟨a, rfl, ⟨xs, .of hx⟩, fun acc hacc => ?_⟩
  have W0' : Wd (G.hd fi (.list es) (.ref a)) nb ρc (L2.startC mp σ) H1 := by rw [<- hρ]; exact W0.startC hm
  have W1 := W0'.more hacc (o := .lst [])
  have hN := NB.new s1.2 hacc
  have hno := no_own W0' hacc
  have st0 : Step G.B H1 (upd H1 acc (.lst [])) := .same s1.2 (same_new hacc)
  have hNa : NB G.B a := zq51x fun z => n (.inr (.inr (.inl z)))
  refine R.comp_list (xs := xs) (fun i σ H => ∃ ds ys, Wd (G.hd fi (.list es) (.ref a)) (fun x => nb x \/ x = acc) ρc σ H /\ Step G.B H1 H /\ H acc = some (.lst ys) /\ IsDs (G.S (fun x => nb x \/ x = acc) fl) H ds ys /\ ds.length <= i /\ I i ds) ⟨[], [], W1, st0, upd_same, .nil, zq1x _, h0⟩ ?_ ?_ ?_
  ·rintro i σ H hi ⟨ds, ys, W, st, _⟩
   exact .of (st.1 _ _ hNa hx)
  ·rintro i x σ H hi ⟨ds, ys, W, st, hy, hd', hl, hI⟩
   obtain ⟨a', xs', e', _, h', d'⟩ := W.unhd.2.ofL
   cases e'
   rw [st.1 _ _ hNa hx] at h'; cases h'
   have hil : i < es.length := by have := (zq8x.mp hi).1; have := d'.length; omega
   obtain ⟨x', hx', dx⟩ := d'.get (zq5x hil)
   rw [hi] at hx'; cases hx'
   exact comp_turn (G := G.hd fi (.list es) (.ref a)) hn hil W (.inr rfl) hN hno st hacc hy hd' hl dx (ht i _ ds (zq5x hil) hl hI) fun σ' H' ds' xs' W' st' hx' hd' hl' hI' => ⟨ds', xs', W', st', hx', hd', hl', hI'⟩
  ·rintro σ H' ⟨ds, ys, W', st, hy, hd', hl, hI⟩
   rw [hd.length] at hl hI
   exact comp_end W s1 hacc st hy hd' (he ds hl hI) z
end EvN
end
end L2
set_option maxRecDepth 100000
set_option maxHeartbeats 1000000
namespace L2
open PySem PySem.Spec PyProof.Rows
section
variable {ρ : Rh} {t : TS} {N : List Str} {vs : List V} {ds : List PyData} {nb : Addr -> Prop} {H : Hp} {Q : VK} {Φ : Pd} {b l : Addr}
theorem isDs_at {xs : List V} (h : IsDs nb H ds xs) {i : Nat} {s : Sl} (e : (ds.map (Sl.d false))[i]? = some s) : ∃ v d, xs[i]? = some v /\ s = .d false d /\ IsD nb H d v := by
 rw [zq19x] at e
 obtain ⟨d, hd, e⟩ := zq46x.mp e
 obtain ⟨v, hv, q⟩ := h.get hd
 exact ⟨v, d, hv, e.symm, q⟩
theorem Sv.enterD (hl : Live nb H) (hd : IsDs nb H ds vs) (hΦ : ∀ f d v H', Φ f d -> Same H H' -> IsD (fun a => nb a \/ (f = true /\ H a ≠ none)) H' d v -> Q v H')
  (hρ : ρ = ds.map (Sl.d false) ++ List.replicate (N.length - ds.length) .no) (h : Sv ⟨none, H, nb, []⟩ ρ t { nx := fun _ => Φ true .none, rt := Φ }) : t { nx := fun _ H' => Q .non H', rt := Q } (start N vs) H := by
 have hlen := hd.length
 have sm : ∀ {nb' ρ' σ' H'}, Wd ⟨none, H, nb, []⟩ nb' ρ' σ' H' -> Same H H' := fun W a o e => W.old a o (fun _ _ z => (by cases z)) e
 refine h (fun _ => False) _ H _ ⟨fun _ _ z => (by cases z), fun _ z => z.elim, fun _ _ _ e => e, fun _ z => z.elim, hl, ?_, fun _ _ z => (by cases z), fun _ m => (by cases m), fun i s e => ?_, ?_, ?_, ?_⟩ ⟨fun nb' ρ' σ' H' q W => hΦ _ _ _ _ q (sm W) .non, fun _ _ _ _ q _ => q.elim, fun _ _ _ _ q _ => q.elim, fun nb' ρ' σ' f v H' d q W hv => hΦ f d v H' q (sm W) (hv.av fun a z => ?_), fun _ _ _ _ _ q _ => q.elim⟩
 ·rw [hρ]; unfold start; simp [hlen]
 ·rw [hρ] at e
  unfold start
  by_cases hi : i < ds.length
  ·rw [zq31x (by rw [zq0x]; exact hi)] at e
   obtain ⟨v, d, hv, rfl, q⟩ := isDs_at hd e
   refine ⟨some v, ?_, v, rfl, q.av fun a z => ?_⟩
   ·rw [zq31x (by rw [zq0x, hlen]; exact hi), zq19x, hv]; rfl
   ·rcases z with z | z | z | z
    ·exact z.elim
    ·exact z
    ·exact absurd (fun _ _ z => (by cases z)) z
    ·cases z.1
  ·rw [zq30x (by rw [zq0x]; omega), zq37x] at e
   split at e
   ·rename_i h'
    cases e
    refine ⟨none, ?_, trivial⟩
    rw [zq0x] at h'
    rw [zq30x (by rw [zq0x]; omega), zq37x, if_pos (by rw [zq0x, hlen]; exact h')]
   ·cases e
 ·intro i j a f as c g cs hij e1
  rw [hρ] at e1
  by_cases hi : i < ds.length
  ·rw [zq31x (by rw [zq0x]; exact hi)] at e1
   obtain ⟨_, _, _, z, _⟩ := isDs_at hd e1
   cases z
  ·rw [zq30x (by rw [zq0x]; omega), zq37x] at e1
   split at e1 <;> cases e1
 ·intro i j a f as c g cs hij e1
  rw [hρ] at e1
  by_cases hi : i < ds.length
  ·rw [zq31x (by rw [zq0x]; exact hi)] at e1
   obtain ⟨_, _, _, z, _⟩ := isDs_at hd e1
   cases z
  ·rw [zq30x (by rw [zq0x]; omega), zq37x] at e1
   split at e1 <;> cases e1
 ·intro i j c t hij e1
  rw [hρ] at e1
  by_cases hi : i < ds.length
  ·rw [zq31x (by rw [zq0x]; exact hi)] at e1
   obtain ⟨_, _, _, z, _⟩ := isDs_at hd e1
   cases z
  ·rw [zq30x (by rw [zq0x]; omega), zq37x] at e1
   split at e1 <;> cases e1
 ·rcases z with z | z
  ·exact .inr (.inl z)
  ·exact .inr (.inr (.inr z))
theorem Sv.enterB (hB : BagAt H b l) (hl : Live nb H) (hb : nb b) (hd : IsDs nb H ds vs) (hΦ : ∀ f d v H', Φ f d -> But (Nb b) H H' -> BagAt H' b l -> IsD (fun a => nb a \/ (f = true /\ H a ≠ none)) H' d v -> Q v H')
    (hρ : ρ = .bag :: ds.map (Sl.d false) ++ List.replicate (N.length - (ds.length + 1)) .no) (h : Sv ⟨some (b, l), H, nb, []⟩ ρ t { nx := fun _ => Φ true .none, rt := Φ }) : t { nx := fun _ H' => Q .non H', rt := Q } (start N (.ref b :: vs)) H := by
  have hlen := hd.length
  have hNB : ∀ a, a ≠ b -> NB (some (b, l)) a := fun a n b' l' e => by cases e; exact n
  have hNB' : ∀ a, ¬ NB (some (b, l)) a -> a = b := fun a n => zq51x fun z => n (hNB a z)
  have bt : ∀ {nb' ρ' σ' H'}, Wd ⟨some (b, l), H, nb, []⟩ nb' ρ' σ' H' -> But (Nb b) H H' := fun W a o n e => W.old a o (hNB a n) e
  have bg : ∀ {nb' ρ' σ' H'}, Wd ⟨some (b, l), H, nb, []⟩ nb' ρ' σ' H' -> BagAt H' b l := fun W => W.bag b l rfl
  refine h (fun _ => False) _ H _ ⟨fun b' l' e => (by cases e; exact hB), fun _ z => z.elim, fun _ _ _ e => e, fun _ z => z.elim, hl, ?_, fun b' l' e => (by cases e; exact hB), fun _ m => (by cases m), fun i s e => ?_, ?_, ?_, ?_⟩ ⟨fun nb' ρ' σ' H' q W => hΦ _ _ _ _ q (bt W) (bg W) .non, fun _ _ _ _ q _ => q.elim, fun _ _ _ _ q _ => q.elim, fun nb' ρ' σ' f v H' d q W hv => hΦ f d v H' q (bt W) (bg W) (hv.av fun a z => ?_), fun _ _ _ _ _ q _ => q.elim⟩
  · rw [hρ]; unfold start; simp [hlen]
  · rw [hρ] at e
    unfold start
    cases i with
    | zero => simp at e; subst e; exact ⟨some (.ref b), by simp, b, l, rfl, rfl⟩
    | succ i =>
      simp only [zq70x, zq71x, zq7x, zq35x] at e ⊢
      by_cases hi : i < ds.length
      · rw [zq31x (by rw [zq0x]; exact hi)] at e
        obtain ⟨v, d, hv, rfl, q⟩ := isDs_at hd e
        refine ⟨some v, ?_, v, rfl, q.av fun a z => ?_⟩
        · rw [zq31x (by rw [zq0x, hlen]; exact hi), zq19x, hv]; rfl
        · rcases z with z | z | z | z
          · exact z.elim
          · exact z
          · rw [hNB' a z]; exact hb
          · cases z.1
      · rw [zq30x (by rw [zq0x]; omega), zq37x] at e
        split at e
        · rename_i h'
          cases e
          refine ⟨none, ?_, trivial⟩
          rw [zq0x] at h'
          rw [zq30x (by rw [zq0x]; omega), zq37x, if_pos (by rw [zq0x, hlen]; exact h')]
        · cases e
  · intro i j a f as c g cs hij e1
    rw [hρ] at e1
    cases i with
    | zero => simp at e1
    | succ i =>
      simp only [zq70x, zq71x] at e1
      by_cases hi : i < ds.length
      · rw [zq31x (by rw [zq0x]; exact hi)] at e1
        obtain ⟨_, _, _, z, _⟩ := isDs_at hd e1
        cases z
      · rw [zq30x (by rw [zq0x]; omega), zq37x] at e1
        split at e1 <;> cases e1
  · intro i j a f as c g cs hij e1
    rw [hρ] at e1
    cases i with
    | zero => simp at e1
    | succ i =>
      simp only [zq70x, zq71x] at e1
      by_cases hi : i < ds.length
      · rw [zq31x (by rw [zq0x]; exact hi)] at e1
        obtain ⟨_, _, _, z, _⟩ := isDs_at hd e1
        cases z
      · rw [zq30x (by rw [zq0x]; omega), zq37x] at e1
        split at e1 <;> cases e1
  · intro i j c t hij e1
    rw [hρ] at e1
    cases i with
    | zero => simp at e1
    | succ i =>
      simp only [zq70x, zq71x] at e1
      by_cases hi : i < ds.length
      · rw [zq31x (by rw [zq0x]; exact hi)] at e1
        obtain ⟨_, _, _, z, _⟩ := isDs_at hd e1
        cases z
      · rw [zq30x (by rw [zq0x]; omega), zq37x] at e1
        split at e1 <;> cases e1
  · rcases z with z | z
    · exact .inr (.inl z)
    · exact .inr (.inr (.inr z))
def lawG (b l : Addr) (H : Hp) : Gx := ⟨some (b, l), H, fun _ => False, []⟩
theorem law_wdS {a : Addr} {m : Nat} (hB : BagAt H b l) : Wd (lawG b l H) (fun _ => False) (.raw (.ref a) :: .bag :: List.replicate m .no) (some (.ref a) :: some (.ref b) :: List.replicate m none) H := by
  refine ⟨fun b' l' e => (by cases e; exact hB), fun _ z => z.elim, fun _ _ _ e => e, fun _ z => z.elim, fun _ z => z.elim, by simp, fun b' l' e => (by cases e; exact hB), fun _ m => (by cases m), fun i s e => ?_, ?_, ?_, ?_⟩
  · match i with
    | 0 => simp at e; subst e; exact ⟨_, rfl, rfl⟩
    | 1 => simp at e; subst e; exact ⟨some (.ref b), rfl, b, l, rfl, rfl⟩
    | i + 2 =>
      simp only [zq71x, zq37x] at e ⊢
      split at e
      · rename_i h; cases e; exact ⟨none, if_pos h, trivial⟩
      · cases e
  · intro i j a f as c g cs hij e1
    match i with
    | 0 => simp at e1
    | 1 => simp at e1
    | i + 2 =>
      simp only [zq71x, zq37x] at e1
      split at e1 <;> cases e1
  · intro i j a f as c g cs hij e1
    match i with
    | 0 => simp at e1
    | 1 => simp at e1
    | i + 2 =>
      simp only [zq71x, zq37x] at e1
      split at e1 <;> cases e1
  · intro i j c t hij e1
    match i with
    | 0 => simp at e1
    | 1 => simp at e1
    | i + 2 =>
      simp only [zq71x, zq37x] at e1
      split at e1 <;> cases e1
theorem Ev.lenRaw {G : Gx} {i : Nat} {a : Addr} {ns : List Int} {K : PySem.W.Frag} (e : ρ[i]? = some (.raw (.ref a))) (hS : SqL K G.H0 a (ns.map V.int)) (h : Φ true (.int ns.length)) : Ev G ρ (tCB (rLen K) (tCons (tVar i) tNil)) Φ := fun nb σ H Q W z => by
 obtain ⟨x, e1, h1⟩ := W.ok i _ e
 have h1 : x = some (.ref a) := h1
 subst h1
 have hS' : SqL K H a (ns.map V.int) := by
  rcases hS with hr | hk
  ·have hn : NB G.B a := fun b l hb z => by
    subst z
    obtain ⟨_, _, _, _, _, g1, _⟩ := W.gB _ _ hb
    rcases hr with hr | ⟨o, hr⟩
    ·rw [g1] at hr
     have := HO.lst.inj (zq39x hr)
     cases ns with
     | nil => cases this
     | cons n r => rw [zq7x] at this; cases (List.cons.inj this).1
    ·rw [g1] at hr; cases hr
   rcases hr with hr | ⟨o, hr⟩
   ·exact .inl (.inl (W.old _ _ hn hr))
   ·exact .inl (.inr ⟨o, W.old _ _ hn hr⟩)
  ·exact .inr hk
 refine ⟨.ref a, e1, a, _, rfl, .inl hS', ?_⟩
 rw [zq0x]
 exact z true _ H _ h (.refl W.bag) (.int _)
theorem law_endsR {D : Ends} (h2 : ∀ H, D.rt (.bl true) H) : EndsOk (lawG b l H) { nx := fun _ => False, rt := fun _ d => d = .bool true } D :=
 ⟨fun _ _ _ _ q _ => q.elim, fun _ _ _ _ q _ => q.elim, fun _ _ _ _ q _ => q.elim, fun _ _ _ f v H d q _ hv => by subst q; unfold IsD at hv; subst hv; exact h2 H, fun _ _ _ _ _ q _ => q.elim⟩
end
namespace R
theorem di {P : Int -> Prop} {i : Int} (h : P i) : ∃ j, PyData.int i = .int j /\ P j := ⟨i, rfl, h⟩
theorem db {P : Bool -> Prop} {i : Bool} (h : P i) : ∃ j, PyData.bool i = .bool j /\ P j := ⟨i, rfl, h⟩
theorem dl {P : List PyData -> Prop} {i : List PyData} (h : P i) : ∃ j, PyData.list i = .list j /\ P j := ⟨i, rfl, h⟩
theorem dt {P : List PyData -> Prop} {i : List PyData} (h : P i) : ∃ j, PyData.tuple i = .tuple j /\ P j := ⟨i, rfl, h⟩
theorem dll {P : List PyData -> Prop} {i : List PyData} (h : P i) : ∃ j, (PyData.list i = .list j \/ PyData.list i = .tuple j) /\ P j := ⟨i, .inl rfl, h⟩
theorem dlt {P : List PyData -> Prop} {i : List PyData} (h : P i) : ∃ j, (PyData.tuple i = .list j \/ PyData.tuple i = .tuple j) /\ P j := ⟨i, .inr rfl, h⟩
theorem eqii {P : Bool -> Prop} {i j : Int} (h : P (decide (i = j))) : ∃ b, EqD (.int i) (.int j) b /\ P b := ⟨_, .ii i j, h⟩
theorem eqbb {P : Bool -> Prop} {x y : Bool} (h : P (x == y)) : ∃ b, EqD (.bool x) (.bool y) b /\ P b := ⟨_, .bb x y, h⟩
theorem at_ {ds : List PyData} {k : Int} {e : PyData} {P : PyData -> Prop} (h : atI ds k = some e) (q : P e) : ∃ e, atI ds k = some e /\ P e := ⟨e, h, q⟩
theorem cnd {C A : Prop} (c : C) (q : A) : C /\ A := ⟨c, q⟩
end R
theorem spD_out {n : Nat} {F : DF} {vs : List V} {H : Hp} {Q : VK} {E : XK} (h : spD n F vs H Q E) : ∃ (nb : Addr -> Prop) (ds : List PyData) (Φ : Pd), Live nb H /\ IsDs nb H ds vs /\ (∀ f d v H', Φ f d -> Same H H' -> IsD (fun a => nb a \/ (f = true /\ H a ≠ none)) H' d v -> Q v H') /\ F ds Φ := by
 obtain ⟨_, nb, ds, h1, h2, h3⟩ := h
 exact ⟨nb, ds, _, h1, h2, fun f d v H' q => q v H', h3⟩
theorem spB_out {n : Nat} {F : DF} {vs : List V} {H : Hp} {Q : VK} {E : XK} (h : spB n F vs H Q E) : ∃ (b l : Addr) (ws : List V) (nb : Addr -> Prop) (ds : List PyData) (Φ : Pd), vs = .ref b :: ws /\ BagAt H b l /\ Live nb H /\ nb b /\ IsDs nb H ds ws /\ (∀ f d v H', Φ f d -> But (Nb b) H H' -> BagAt H' b l -> IsD (fun a => nb a \/ (f = true /\ H a ≠ none)) H' d v -> Q v H') /\ F ds Φ := by
 obtain ⟨_, b, l, ws, nb, ds, e, hB, h1, hb, h2, h3⟩ := h
 exact ⟨b, l, ws, nb, ds, _, e, hB, h1, hb, h2, fun f d v H' q => q v H', h3⟩
end L2
set_option maxRecDepth 100000
set_option maxHeartbeats 1000000
namespace L2
open PySem PySem.Spec PyProof.Rows
abbrev Prs := List (Int × Int)
abbrev Wo := List (Option Int)
abbrev prsD (prs : Prs) : PyData := .list (prs.map pairD)
abbrev netD (p n : Int) (cs : List Prs) : PyData := .tuple [.int p, .int n, .list (cs.map prsD)]
theorem map_at {α β : Type} {xs : List α} {φ : α -> β} {i : Nat} {d : β} (h : (xs.map φ)[i]? = some d) : ∃ x, xs[i]? = some x /\ d = φ x := by
 rw [zq19x] at h
 obtain ⟨x, hx, e⟩ := zq46x.mp h
 exact ⟨x, hx, e.symm⟩
theorem take_snoc {α : Type} {xs : List α} {i : Nat} {x : α} (h : xs[i]? = some x) : xs.take (i + 1) = xs.take i ++ [x] := by
 rw [List.take_add_one, h]; rfl
end L2
set_option maxRecDepth 100000
set_option maxHeartbeats 4000000
namespace L2
open PySem PySem.Spec PyProof.Rows
theorem ln1 {α : Type} {us : List α} (h : us.length = 1) : ∃ a, us = [a] := by
  cases us with
  | nil => cases h
  | cons a us =>
    cases us with
    | nil => exact ⟨a, rfl⟩
    | cons _ _ => cases h
theorem ln2 {α : Type} {us : List α} (h : us.length = 2) : ∃ a b, us = [a, b] := by
  cases us with
  | nil => cases h
  | cons a us =>
    obtain ⟨b, rfl⟩ := ln1 (us := us) (Nat.succ.inj h)
    exact ⟨a, b, rfl⟩
end L2
set_option maxRecDepth 100000
set_option maxHeartbeats 1000000
namespace L2
open PySem PySem.Spec PyProof.Rows
def Ris (xs : Array Nat) : Prop := ∀ (i j x y : Nat), i < j -> xs[i]? = some x -> xs[j]? = some y -> x < y
theorem below_go {xs : Array Nat} {q : Nat} (hr : Ris xs) : ∀ (f lo hi : Nat), hi <= xs.size -> lo <= hi -> hi - lo <= f -> (∀ i x, i < lo -> xs[i]? = some x -> x < q) -> (∀ i x, hi <= i -> xs[i]? = some x -> q <= x) ->
    lo <= SetTable.below.go xs q f lo hi /\ SetTable.below.go xs q f lo hi <= hi /\ (∀ i x, i < SetTable.below.go xs q f lo hi -> xs[i]? = some x -> x < q) /\ (∀ i x, SetTable.below.go xs q f lo hi <= i -> xs[i]? = some x -> q <= x) := by
  intro f
  induction f with
  | zero =>
    intro lo hi h1 h2 h3 h4 h5
    have e : lo = hi := by omega
    subst e
    exact ⟨zq1x _, zq1x _, h4, h5⟩
  | succ f ih =>
    intro lo hi h1 h2 h3 h4 h5
    unfold SetTable.below.go
    by_cases hlt : lo < hi
    · rw [if_pos hlt]
      have hm : (lo + hi) / 2 < xs.size := by omega
      have hg : xs[(lo + hi) / 2]? = some xs[(lo + hi) / 2] := zq52x hm
      have hgd : xs.getD ((lo + hi) / 2) q = xs[(lo + hi) / 2] := by rw [zq129x, hg]; rfl
      dsimp only
      rw [hgd]
      by_cases hc : xs[(lo + hi) / 2] < q
      · rw [if_pos hc]
        obtain ⟨a1, a2, a3, a4⟩ := ih ((lo + hi) / 2 + 1) hi h1 (by omega) (by omega) (fun i x hi' e => by
          rcases Nat.lt_or_ge i ((lo + hi) / 2) with z | z
          · exact zq110x (hr i _ x _ z e hg) hc
          · have : i = (lo + hi) / 2 := by omega
            subst this; rw [hg] at e; cases e; exact hc) h5
        exact ⟨by omega, a2, a3, a4⟩
      · rw [if_neg hc]
        obtain ⟨a1, a2, a3, a4⟩ := ih lo ((lo + hi) / 2) (by omega) (by omega) (by omega) h4 (fun i x hi' e => by
          rcases Nat.lt_or_ge ((lo + hi) / 2) i with z | z
          · exact zq66x (zq125x (zq124x hc) (hr _ i _ x z hg e))
          · have : i = (lo + hi) / 2 := by omega
            subst this; rw [hg] at e; cases e; exact zq124x hc)
        exact ⟨a1, by omega, a3, a4⟩
    · rw [if_neg hlt]
      have e : lo = hi := by omega
      subst e
      exact ⟨zq1x _, zq1x _, h4, h5⟩
theorem below_at {xs : Array Nat} {q : Nat} (hr : Ris xs) : SetTable.below xs q <= xs.size /\ (∀ i x, i < SetTable.below xs q -> xs[i]? = some x -> x < q) /\ (∀ i x, SetTable.below xs q <= i -> xs[i]? = some x -> q <= x) := by
 obtain ⟨_, h2, h3, h4⟩ := below_go (q := q) hr xs.size 0 xs.size (zq1x _) (zq36x _) (by omega) (fun i x h => absurd h (Nat.not_lt_zero _)) (fun i x h e => by
  have := (zq88x.mp e).1; omega)
 exact ⟨h2, h3, h4⟩
theorem insertAt_get {α : Type} {xs : Array α} {p : Nat} {x : α} (hp : p <= xs.size) (i : Nat) : (SetTable.insertAt xs p x)[i]? = if i < p then xs[i]? else if i = p then some x else xs[i - 1]? := by
 unfold SetTable.insertAt
 rw [Array.getElem?_append]
 have e1 : ((xs.extract 0 p).push x).size = p + 1 := by rw [Array.size_push, zq72x]; omega
 rw [e1]
 by_cases h1 : i < p
 ·rw [if_pos (show i < p + 1 by omega), if_pos h1, zq160x, if_neg (by rw [zq72x]; omega), zq161x (by omega)]
  simp
 ·rw [if_neg h1]
  by_cases h2 : i = p
  ·rw [if_pos (show i < p + 1 by omega), if_pos h2, zq160x, if_pos (by rw [zq72x]; omega)]
  ·rw [if_neg (show ¬ i < p + 1 by omega), if_neg h2]
   by_cases h3 : i - (p + 1) < xs.size - p
   ·rw [zq161x (by omega), <- zq52x, show p + (i - (p + 1)) = i - 1 by omega]
   ·rw [zq130x (by rw [zq72x]; omega), zq130x (by omega)]
theorem Ris.insert {xs : Array Nat} {q : Nat} (hr : Ris xs) (hq : xs[SetTable.below xs q]? ≠ some q) : Ris (SetTable.insertAt xs (SetTable.below xs q) q) := by
 obtain ⟨h1, h2, h3⟩ := below_at (q := q) hr
 have h3' : ∀ i x, SetTable.below xs q <= i -> xs[i]? = some x -> q < x := fun i x hi e => by
  rcases zq131x (h3 i x hi e) with z | z
  ·exact z
  ·subst z
   rcases zq131x hi with z | z
   ·have hb : SetTable.below xs q < xs.size := zq17x z (zq66x (zq88x.mp e).1)
    have hg : xs[SetTable.below xs q]? = some xs[SetTable.below xs q] := zq52x hb
    have := hr _ i _ q z hg e
    have := h3 _ _ (zq1x _) hg
    omega
   ·rw [<- z] at e; exact absurd e hq
 intro i j x y hij ex ey
 rw [insertAt_get h1] at ex ey
 by_cases a : i < SetTable.below xs q
 ·rw [if_pos a] at ex
  by_cases b : j < SetTable.below xs q
  ·rw [if_pos b] at ey; exact hr i j x y hij ex ey
  ·rw [if_neg b] at ey
   by_cases c : j = SetTable.below xs q
   ·rw [if_pos c] at ey; cases ey; exact h2 i x a ex
   ·rw [if_neg c] at ey; exact hr i (j - 1) x y (by omega) ex ey
 ·rw [if_neg a] at ex
  by_cases c : i = SetTable.below xs q
  ·rw [if_pos c] at ex; cases ex
   rw [if_neg (by omega), if_neg (by omega)] at ey
   exact h3' (j - 1) y (by omega) ey
  ·rw [if_neg c] at ex
   rw [if_neg (by omega), if_neg (by omega)] at ey
   exact hr (i - 1) (j - 1) x y (by omega) ex ey
theorem probe_free {t : SetTable} {ha : Nat -> Int} {h : Int} : ∀ (f : Nat) (p : SetTable.Probe) (j : Nat) (dm : Option Nat), (∀ d, p.dummy = some d -> t.slot d = .dummy) -> SetTable.probe.go t ha h f p = some (.empty j dm) -> t.slot j = .empty /\ ∀ d, dm = some d -> t.slot d = .dummy := by
  intro f
  induction f with
  | zero => intro p j dm _ e; unfold SetTable.probe.go at e; cases e
  | succ f ih =>
    intro p j dm hd e
    have adv : ∀ p : SetTable.Probe, (t.advance p).dummy = p.dummy := fun p => by unfold SetTable.advance; split <;> rfl
    unfold SetTable.probe.go at e
    cases hs : t.slot p.j with
    | empty => rw [hs] at e; cases e; exact ⟨hs, hd⟩
    | dummy => rw [hs] at e; exact ih _ j dm (fun d h' => by rw [adv] at h'; cases h'; exact hs) e
    | live i =>
      rw [hs] at e
      dsimp only at e
      split at e
      · cases e
      · exact ih _ j dm (fun d h' => by rw [adv] at h'; exact hd d h') e
theorem free_not_live {t : SetTable} {h : Int} {j : Nat} {wd : Bool} (e : t.freeSlot h = some (j, wd)) : ∀ i, t.slot j ≠ .live i := by
 unfold SetTable.freeSlot SetTable.probe at e
 intro i z
 split at e
 ·rename_i j0 dm he
  obtain ⟨h1, h2⟩ := probe_free (10 * SetTable.turns t.mask) (t.probeStart h) j0 dm (fun d h' => by unfold SetTable.probeStart at h'; cases h') he
  cases dm with
  | none => cases e; simp at z; rw [h1] at z; cases z
  | some d => cases e; simp at z; rw [h2 d rfl] at z; cases z
 ·cases e
structure TOk (bt : Bool) (t : SetTable) : Prop where
 led : bt = false -> t.led = true
 ris : t.plain = true -> Ris t.place
theorem TOk.standIn {bt : Bool} {t : SetTable} (h : TOk bt t) (n : Nat) : TOk bt (t.standIn n) := ⟨h.led, fun z => by cases z⟩
theorem TOk.off {bt : Bool} {t : SetTable} (h : TOk bt t) : TOk bt { t with plain := false } := ⟨h.led, fun z => by cases z⟩
theorem TOk.put {bt : Bool} {t : SetTable} {j : Nat} (h : TOk bt t) (hj : ∀ i, t.slot j ≠ .live i) : TOk bt (t.put j).1 := by
 refine ⟨h.led, fun z => ?_⟩
 refine Ris.insert (h.ris z) fun e => hj (SetTable.below t.place j) ?_
 unfold SetTable.slot
 dsimp only
 rw [if_pos (by rw [e]; exact beq_self_eq_true _)]
theorem TOk.layNew {bt : Bool} {t : SetTable} {es : Array (Int × Value)} {h : Int} {x : Value} (ok : TOk bt t) : TOk bt (layNew t es h x).2.1 := by
 unfold PySem.layNew
 split
 ·rename_i slot wd e
  dsimp only
  unfold SetTable.orStandIn
  split
  ·exact ok.put (free_not_live e)
  ·exact (ok.put (free_not_live e)).standIn _
 ·exact ok.standIn _
theorem range_rise (n : Nat) (φ : Nat -> Option Nat) : Ris (((List.range n).filterMap fun j => (φ j).map (j, ·)).map (·.1)).toArray := by
  have hp : (((List.range n).filterMap fun j => (φ j).map (j, ·)).map (·.1)).Pairwise (· < ·) := by
    have hs : List.Sublist (((List.range n).filterMap fun j => (φ j).map (j, ·)).map (·.1)) (List.range n) := by
      induction List.range n with
      | nil => simp
      | cons a r ih =>
        rw [zq85x]
        cases φ a with
        | none => exact ih.cons a
        | some y => exact ih.cons₂ a
    exact List.pairwise_lt_range.sublist hs
  intro i j x y hij ex ey
  rw [zq162x] at ex ey
  obtain ⟨hi, rfl⟩ := zq8x.mp ex
  obtain ⟨hj, rfl⟩ := zq8x.mp ey
  exact List.pairwise_iff_getElem.mp hp i j hi hj hij
theorem TOk.relay {bt : Bool} {t : SetTable} {es : Array (Int × Value)} {n : Nat} (ok : TOk bt t) : TOk bt (relayAll t es n).2.1 := by
  unfold relayAll
  split
  · rename_i t' order e
    dsimp only
    split
    · unfold SetTable.relaid SetTable.laid at e
      cases hl : SetTable.layClean (SetTable.sizeAbove n - 1) (es.map (·.1)) with
      | none => rw [hl] at e; cases e
      | some owner =>
        rw [hl] at e
        cases e
        exact ⟨ok.led, fun _ => range_rise _ _⟩
    · exact ok.standIn _
  · exact ok.standIn _
theorem TOk.fresh {bt : Bool} : TOk bt (.fresh 0 0 (!bt)) := ⟨fun h => by rw [h]; rfl, fun _ i j x y _ e => by simp [SetTable.fresh] at e⟩
end L2
set_option maxRecDepth 100000
set_option maxHeartbeats 4000000
namespace L2
open PySem PySem.Spec PyProof.Rows
def TAt (bt : Bool) (h : Heap) (a : Addr) : Prop := ∀ o es ep t, h.get? a = some o -> o.data = .set es ep t -> TOk bt t
theorem TAt.of {bt : Bool} {h : Heap} {a : Addr} {o : Obj} {es : Array (Int × Value)} {ep : Nat} {t : SetTable} (e : h.get? a = some o) (d : o.data = .set es ep t) (k : TOk bt t) : TAt bt h a := fun o' es' ep' t' e' d' => by
 rw [e] at e'; cases e'; rw [d] at d'; cases d'; exact k
theorem TAt.keep {bt : Bool} {h h' : Heap} {a : Addr} {o : Obj} (k : TAt bt h a) (e : h.get? a = some o) (e' : h'.get? a = some o) : TAt bt h' a := fun o1 es ep t x d => by
 rw [e'] at x; cases x; exact k o es ep t e d
section
variable {prog : Program} {w : World} {A : Around} {E : Value -> Shared -> Prop} {s : Shared} {a : Addr} {bt : Bool}
abbrev IK (prog : Program) (w : World) := intKind prog w
theorem store_G {o : Obj} {es es' : Array (Int × Value)} {ep : Nat} {t t' : SetTable} {T : Int -> Bool} {h : Heap} (g1 : h.get? a = some o) (g2 : o.ExactSet) (g3 : o.data = .set es ep t) (l1 : ElemsOf (IK prog w) es'.toList)
  (l2 : ∀ k, T k = true ↔ ∃ e ∈ es'.toList, (IK prog w).is k e.2 = true) (l3 : es'.size < scanBound) (l4 : t'.fits es'.size = true) (tk : TOk bt t') :
  (∃ o', (h.update a (Obj.putSet es' t')).get? a = some o' /\ o'.ExactSet /\ o'.data = .set es' (ep + 1) t') /\ (h.update a (Obj.putSet es' t')).SetOf (IK prog w) a T es'.size /\ TAt bt (h.update a (Obj.putSet es' t')) a := by
 obtain ⟨q1, q2⟩ := SetOf_store (knd := IK prog w) (es' := es') (t' := t') (S' := T) g1 g2 g3 l1 l2 l3 l4
 exact ⟨⟨_, q1, g2, rfl⟩, q2, .of q1 rfl tk⟩
theorem tail_G {gg : Bool -> Sem Unit} (hgg : ∀ (b : Bool) (s₁ : Shared) (Q₁ : Unit -> Shared -> Prop), Q₁ () s₁ -> wpAny (model prog w) A (gg b) Q₁ E s₁) {o : Obj} {es : Array (Int × Value)} {ep : Nat} {t : SetTable}
    (g1 : s.heap.get? a = some o) (g2 : o.ExactSet) (g3 : o.data = .set es ep t) {es1 : Array (Int × Value)} {t2 : SetTable} {T : Int -> Bool} (l1 : ElemsOf (IK prog w) es1.toList) (l2 : ∀ k, T k = true ↔ ∃ e ∈ es1.toList, (IK prog w).is k e.2 = true)
    (l3 : es1.size < scanBound) (l4 : t2.fits es1.size = true) (tk : TOk bt t2) {wd : Bool} {R : Option Bool -> Shared -> Prop}
    (fin : ∀ h', Heap.SameBut a s.heap h' -> h'.SetOf (IK prog w) a T es1.size -> TAt bt h' a -> R (some true) { s with heap := h' }) :
    wpAny (model prog w) A (do storeSet a es1 t2
                               if (!wd && t2.tooFull) = true then do
                                 gg (relayAll t2 es1 (SetTable.grown es1.size)).2.2
                                 storeSet a (relayAll t2 es1 (SetTable.grown es1.size)).1 (relayAll t2 es1 (SetTable.grown es1.size)).2.1
                                 pure (some true)
                               else pure (some true)) R E s := by
  obtain ⟨⟨o1, k1, k2, k3⟩, q1, q2⟩ := store_G (T := T) g1 g2 g3 l1 l2 l3 l4 tk
  have sb := Heap.SameBut.update s.heap a (Obj.putSet es1 t2)
  refine wpAny_bind (wpAny_storeSet_of g1 g3 ?_ (fits_of_scanBound l3))
  by_cases c : (!wd && t2.tooFull) = true
  · rw [if_pos c]
    have pp := relayAll_perm t2 es1 (SetTable.grown es1.size)
    have pf := relayAll_fits t2 es1 (SetTable.grown es1.size)
    have pt := tk.relay (es := es1) (n := SetTable.grown es1.size)
    generalize relayAll t2 es1 (SetTable.grown es1.size) = Z at pp pf pt ⊢
    obtain ⟨es2, t3, gave⟩ := Z
    dsimp only at pp pf pt ⊢
    have sz : es2.size = es1.size := by have := pp.length_eq; rwa [zq34x, zq34x] at this
    have l2' : ∀ k, T k = true ↔ ∃ e ∈ es2.toList, (IK prog w).is k e.2 = true := fun k => (l2 k).trans ⟨fun ⟨e, m, z⟩ => ⟨e, pp.mem_iff.mpr m, z⟩, fun ⟨e, m, z⟩ => ⟨e, pp.mem_iff.mp m, z⟩⟩
    obtain ⟨_, r1, r2⟩ := store_G (T := T) k1 k2 k3 (l1.perm pp) l2' (by rw [sz]; exact l3) pf pt
    refine wpAny_bind (hgg _ _ _ (wpAny_bind (wpAny_storeSet_of k1 k3 ?_ (fits_of_scanBound (by rw [sz]; exact l3)))))
    rw [sz] at r1
    exact wpAny_pure (fin _ (sb.trans (Heap.SameBut.update _ a _)) r1 r2)
  · rw [if_neg c]
    exact wpAny_pure (fin _ sb q1 q2)
theorem add_G {S : Int -> Bool} {n : Nat} {k : Int} {x : Value} {Q : Bool -> Shared -> Prop} (hx : (IK prog w).is k x = true) (sc : x.scannable = true) (hS : s.heap.SetOf (IK prog w) a S n) (hT : TAt bt s.heap a) (room : n + 1 < scanBound)
    (fin : ∀ h', Heap.SameBut a s.heap h' -> h'.SetOf (IK prog w) a (fun j => S j || decide (j = k)) (if S k then n else n + 1) -> TAt bt h' a -> Q (!S k) { s with heap := h' }) :
    wpAny (model prog w) A (setAddHashed a x ((IK prog w).hash k)) Q E s := by
  obtain ⟨o, es, ep, t, g1, g2, g3, l1, l2, l3, l4, sz⟩ := hS
  have tk := hT o es ep t g1 g3
  unfold setAddHashed setAddHashedIn
  refine wpAny_holding (wpAny_bind (wpAny_setState_of g1 g3 l4 ?_))
  dsimp only
  rw [if_pos (byScan_of sc l3 l1)]
  unfold setAddByScan
  refine wpAny_bind (wpAny_bind (wpAny_rule (wpAny_bind (wpAny_setScan_of hx g1 g3 l4 l1 ?_))))
  cases fr : List.findIdx? (fun e => (IK prog w).is k e.2) es.toList with
  | some j =>
    obtain ⟨hj, pj, _⟩ := List.findIdx?_eq_some_iff_getElem.mp fr
    have yes : S k = true := (l2 k).mpr ⟨_, zq47x hj, pj⟩
    have z := fin s.heap (.refl a s.heap) ⟨o, es, ep, t, g1, g2, g3, l1, fun j => by
      rw [Bool.or_eq_true, decide_eq_true_eq, <- l2 j]
      exact ⟨fun q => q.elim id fun e => e ▸ yes, .inl⟩, l3, l4, by rw [if_pos yes]; exact sz⟩ hT
    rw [yes] at z
    exact wpAny_pure (wpAny_pure z)
  | none =>
    have no : S k = false := by
      cases q : S k with
      | false => rfl
      | true =>
        obtain ⟨e, m, p⟩ := (l2 k).mp q
        rw [List.findIdx?_eq_none_iff.mp fr e m] at p; cases p
    have pp := layNew_perm t es ((IK prog w).hash k) x
    have pf := layNew_fits t es ((IK prog w).hash k) x
    have pt := tk.layNew (es := es) (h := (IK prog w).hash k) (x := x)
    dsimp only
    generalize layNew t es ((IK prog w).hash k) x = Z at pp pf pt ⊢
    obtain ⟨es1, t1, wd, gave⟩ := Z
    dsimp only at pp pf pt ⊢
    rw [zq53x] at pp
    have sz1 : es1.size = n + 1 := by have := pp.length_eq; rw [zq26x, zq34x, zq34x, sz] at this; exact this
    have fin' : ∀ h', Heap.SameBut a s.heap h' -> h'.SetOf (IK prog w) a (fun j => S j || decide (j = k)) es1.size -> TAt bt h' a -> Q true { s with heap := h' } := fun h' x1 x2 x3 => by
      have := fin h' x1; rw [no, if_neg zq15x] at this; rw [sz1] at x2; exact this x2 x3
    have gw : ∀ (b : Bool) (s₁ : Shared) (Q₁ : Unit -> Shared -> Prop), Q₁ () s₁ -> wpAny (model prog w) A (match b with | true => rule "set.scan.the-table-gave-way" | false => pure ()) Q₁ E s₁ := fun b s₁ Q₁ q => by
      cases b
      · exact wpAny_pure q
      · exact wpAny_rule q
    refine wpAny_bind (gw _ _ _ ?_)
    have e1 := (l1.push hx sc).perm pp
    have e2 := mem_push_iff hx l2 pp
    have e3 : es1.size < scanBound := by rw [sz1]; exact room
    by_cases pl : t1.plain = true
    · rw [if_pos pl, hashByValue_scannable 8 sc]
      refine wpAny_bind (wpAny_pure ?_)
      refine tail_G gw g1 g2 g3 e1 e2 e3 ?_ ?_ fun h' x1 x2 x3 => wpAny_pure (fin' h' x1 x2 x3)
      · split
        · exact pf
        · exact SetTable.fits_plain_off pf
      · split
        · exact pt
        · exact pt.off
    · rw [if_neg pl]
      refine wpAny_bind (wpAny_pure ?_)
      rw [if_pos rfl]
      exact tail_G gw g1 g2 g3 e1 e2 e3 pf pt fun h' x1 x2 x3 => wpAny_pure (fin' h' x1 x2 x3)
end
end L2
set_option maxRecDepth 100000
set_option maxHeartbeats 4000000
namespace L2
open PySem PySem.Spec PyProof.Rows
section
variable {prog : Program} {w : World} {A : Around} {R : Result -> Shared -> Prop} {I : Addr} {fp wr : List Addr} {G : Array GenState -> Array GenState -> Prop} {n : Nat} {P : Nat -> Value -> Prop} {St : Nat -> Shared -> Prop} {bt : Bool}
abbrev met (val : Nat -> Int) (i : Nat) : Int -> Bool := fun k => (firstMet val i).any (· == k)
theorem loop_G (W : WalksS prog w A.in1 I fp wr G n P St) (C : Addr) (nC : C ∉ fp) (val : Nat -> Int) (hv : ∀ i v, P i v -> ∃ t, v = .int (val i) t) (room : n + 1 < scanBound) (fuel : Nat) :
    ∀ (i : Nat) (s : Shared), n - i = fuel -> i <= n -> St i s -> s.heap.SetOf (IK prog w) C (met val i) (firstMet val i).length -> TAt bt s.heap C ->
      (∀ s', Moved (C :: wr) G s s' -> s'.heap.SetOf (IK prog w) C (met val n) (firstMet val n).length -> TAt bt s'.heap C -> R (.ok (.ret .none)) s') ->
      codeAny (model prog w) A (.builtin "set.update.loop" ⟨[.ref C, .ref I], []⟩) R s := by
  have nw : C ∉ wr := fun z => nC (W.sub _ z)
  have up : ∀ b ∈ wr, b ∈ C :: wr := fun b z => zq20x _ z
  have mv : ∀ {s s' : Shared} {T : Int -> Bool} {m : Nat}, Moved wr G s s' -> s.heap.SetOf (IK prog w) C T m -> TAt bt s.heap C -> s'.heap.SetOf (IK prog w) C T m /\ TAt bt s'.heap C := fun mo q tt => by
    obtain ⟨o, es, ep, t, ho, r⟩ := q
    exact ⟨⟨o, es, ep, t, mo.heap C _ nw ho, r⟩, tt.keep ho (mo.heap C _ nw ho)⟩
  induction fuel with
  | zero =>
    intro i s e1 e2 st q tt fin
    obtain rfl : i = n := by omega
    refine codeAny_builtin F.entry_set_update_loop ?_
    rw [zq94x zq132x _]
    refine wpAny_bind (W.done s _ _ st fun s' mo => ?_)
    exact wpAny_pure (fin s' (mo.mono up) (mv mo q tt).1 (mv mo q tt).2)
  | succ fuel ih =>
    intro i s e1 e2 st q tt fin
    have lt : i < n := by omega
    refine codeAny_builtin F.entry_set_update_loop ?_
    rw [zq94x zq132x _]
    refine wpAny_bind (W.item i s _ _ lt st fun v s' hP st' mo => ?_)
    obtain ⟨tok, rfl⟩ := hv i v hP
    obtain ⟨q', tt'⟩ := mv mo q tt
    show wpAny _ A.in1 (holding [Value.int (val i) tok] (setAdd C (.int (val i) tok)) >>= _) _ _ s'
    unfold setAdd
    refine wpAny_bind (wpAny_holding (wpAny_holding (wpAny_bind ((IK prog w).pyHash (k := val i) (intKind_is _ _ _ _) ?_))))
    refine add_G (bt := bt) (s := { s' with toks := s'.toks + 1 }) (intKind_is _ _ _ _) rfl q' tt' (by have := firstMet_length_le val i; omega) fun h' sb q2 tt2 => ?_
    have q3 : h'.SetOf (IK prog w) C (met val (i + 1)) (firstMet val (i + 1)).length := SetOf_congr q2 (fun j => by unfold met; rw [firstMet_succ, step_any]) (by rw [firstMet_succ, step_length])
    refine wpAny_pure ⟨plainId_quiet zq132x _, ih (i + 1) _ (by omega) lt (W.frame _ s' _ _ st' (zq126x _) fun b hb o e => ?_) q3 tt2 fun s2 mo2 q4 tt4 => ?_⟩
    · rw [sb.2 b fun z : b = C => nC (z ▸ hb)]; exact e
    · refine fin s2 (Moved.trans W.gtrans ((mo.mono up).then_heap (zq126x _) fun b o hb e => ?_) mo2) q4 tt4
      rw [sb.2 b fun z : b = C => hb (z ▸ zq14x)]; exact e
end
section
variable {prog : Program} {w : World} {A : Around} {E : Value -> Shared -> Prop} {s : Shared}
abbrev byText (w : World) : Bool := w.params.followText "set-order"
abbrev newSetO (w : World) : Obj := { cls := .type "set", dict := none, data := .set #[] 0 (.fresh 0 0 (!byText w)) }
theorem new_G (a : Value) {Q₁ : Value -> Shared -> Prop} (fin : Q₁ (.ref s.heap.objs.size) { s with heap := s.heap.push (newSetO w) }) : codeAny (model prog w) A (.call (.builtin "set.__new__") ⟨[.type "set", a], []⟩) (wants Q₁ E) s := by
 refine codeAny_of_tree ?_
 show wpAny _ A.in1 (do checkBuiltinCall "set.__new__" ⟨[.type "set", a], []⟩; again (.builtin "set.__new__" ⟨[.type "set", a], []⟩)) _ _ s
 refine wpAny_bind (wpAny_of_eq (F.newCall_set_1 a) (wpAny_pure ⟨plainId_quiet F.plain_set_new _, codeAny_builtin F.entry_set_new ?_⟩))
 rw [zq94x F.plain_set_new _]
 unfold Builtin.«set.__new__» Builtin.Frozenset.newClass
 have hsub := sub_set_self
 obtain ⟨hp, g, d, tk, os⟩ := s
 dsimp only at fin ⊢
 wp_walk
 refine wpAny_askSetting (wpAny_pure ?_)
 dsimp only
 simp only [newObj]
 exact wpAny_bind (wpAny_alloc (wpAny_pure (wpAny_pure fin)))
theorem callset_G {l : Addr} {items : Array Value} {ns : List Int} {Q : Value -> Shared -> Prop} (hh : A.handled = none) (hl : s.heap.IsList l items) (hi : IntsAre items.toList ns) (room : items.size + 1 < scanBound)
    (fin : ∀ (h' : Heap) (tk : Nat), h'.SetOf (IK prog w) s.heap.objs.size (met (fun i => ns.getD i 0) items.size) (firstMet (fun i => ns.getD i 0) items.size).length -> TAt (byText w) h' s.heap.objs.size ->
      (∀ b o, b < s.heap.objs.size -> s.heap.get? b = some o -> h'.get? b = some o) -> Q (.ref s.heap.objs.size) { s with heap := h', toks := tk }) : wpAny (model prog w) A (call (.type "set") [.ref l]) Q E s := by
  obtain ⟨c, tl, hmro⟩ := zq73x.mro
  have hmade := zq73x.made
  have hsub := zq73x.sub
  have h1 := zq73x.notType
  have h2 := zq73x.canCreate
  have hct := F.typeCall_set_1 (.ref l)
  refine wpAny_call (codeAny_of_tree ?_)
  show wpAny _ _ (callAny (.type "set") _) _ _ _
  refine wpAny_pure ⟨Code.quiet_builtin _ (by decide +kernel), codeAny_builtin F.entry_type_call ?_⟩
  rw [Around.under_plain (weight_type_call_type "set" [.ref l] []) rfl]
  repeat (any_goals (first | assumption | wp_step))
  refine codeAny_mono (new_G (.ref l) (E := E) (Q₁ := fun obj s₁ => obj = .ref s.heap.objs.size /\ s₁ = { s with heap := s.heap.push (newSetO w) }) ⟨rfl, rfl⟩) fun r s₁ hr => ?_
  cases r with
  | error e => exact hr
  | ok fl =>
    cases fl with
    | ret obj =>
      obtain ⟨rfl, rfl⟩ := hr
      have hS : (s.heap.push (newSetO w)).get? s.heap.objs.size = some (newSetO w) := zq29x _ rfl
      have hT : Shared.TypeIs { s with heap := s.heap.push (newSetO w) } (.ref s.heap.objs.size) "set" := ⟨_, hS, rfl⟩
      have hli := zq73x.init.lookup
      have hbi := zq73x.init.bind (.ref s.heap.objs.size)
      repeat (any_goals (first | assumption | wp_step))
      refine codeAny_mono (codeAny_call_builtin (R := wants (fun r s₂ => r = .none /\ ∃ h' tk, s₂ = { s with heap := h', toks := tk } /\ h'.SetOf (IK prog w) s.heap.objs.size (met (fun i => ns.getD i 0) items.size) (firstMet (fun i => ns.getD i 0) items.size).length /\ TAt (byText w) h' s.heap.objs.size /\
          (∀ b o, b < s.heap.objs.size -> s.heap.get? b = some o -> h'.get? b = some o)) E) zq73x.init.plain F.entry_set_init (check_set_init_1 hT ?_)) fun r₂ s₂ hr₂ => ?_
      · obtain ⟨ol, hol, hcl, nl, hdl⟩ := hl
        obtain ⟨ocls, odict, odata, oslots⟩ := ol
        simp only at hcl hdl
        subst hcl; subst hdl
        have hol' := zq9x (newSetO w) hol
        have hsls := F.sub_list_set
        have hslf := F.sub_list_frozenset
        have hne : (Value.type "list" == Value.type "dict") = false := by decide
        have hl1 : (s.heap.push (newSetO w)).IsList l items := ⟨_, hol', rfl, nl, rfl⟩
        unfold Builtin.«set.__init__» noKeywords Builtin.Frozenset.updateFrom
        generalize hPI : pyIter = PI
        wp_walk
        subst hPI
        refine wpAny_pyIter_list hl1 (wpAny_bind (wpAny_runValue ?_))
        have hlS : l < s.heap.objs.size := zq3x hol
        have sz1 : (s.heap.push (newSetO w)).objs.size = s.heap.objs.size + 1 := zq78x ..
        have n1 : l ≠ (s.heap.push (newSetO w)).objs.size := by rw [sz1]; exact zq22x (zq80x hlS)
        have n2 : s.heap.objs.size ∉ [(s.heap.push (newSetO w)).objs.size, l] := by
          rw [sz1]; intro z; rcases zq4x.mp z with z | z
          · exact absurd z (zq22x (zq95x _))
          · exact absurd (zq10x.mp z) (zq104x hlS)
        have h3 : A.in1.in1.in1.handled = none := by simp [hh]
        have hS' := zq9x ({ cls := .type "list_iterator", data := .fields #[.ref l, .int 0 0] } : Obj) hS
        refine loop_G (bt := byText w) ((Walks.list h3 _ l n1 items).toS) s.heap.objs.size n2 (fun i => ns.getD i 0) (fun i v e => IntsAre.int_at hi i v (by rw [zq48x]; exact e)) room (items.size - 0) 0 _ (by omega) (zq36x _)
          ⟨⟨_, zq29x _ rfl, rfl, rfl⟩, (hl1.push _)⟩ (SetOf_congr ((setObjOf_fresh (knd := IK prog w) (!byText w)).setOf hS' (by unfold scanBound; omega)) (fun _ => rfl) rfl) (.of hS' rfl .fresh) ?_
        intro s' mo q tt
        obtain ⟨h', g', d', tk', os'⟩ := s'
        obtain rfl : g' = s.gens := mo.gens
        obtain rfl : d' = s.drawn := mo.drawn
        obtain rfl : os' = s.os := mo.os
        refine wpAny_pure (wpAny_pure ⟨rfl, h', tk', rfl, q, tt, fun b o hb e => ?_⟩)
        refine mo.heap b o (fun z => ?_) (zq9x _ (zq9x _ e))
        rcases zq4x.mp z with z | z
        · exact absurd z (zq22x hb)
        · rw [sz1] at z; exact absurd (zq10x.mp z) (zq22x (zq80x hb))
      · cases r₂ with
        | error e => exact hr₂
        | ok fl₂ =>
          cases fl₂ with
          | ret r =>
            obtain ⟨rfl, h', tk, rfl, q1, q2, q3⟩ := hr₂
            repeat (any_goals (first | assumption | wp_step))
            exact fin _ _ q1 q2 q3
          | _ => exact hr₂.elim
    | _ => exact hr.elim
end
end L2
set_option maxRecDepth 100000
set_option maxHeartbeats 4000000
namespace L2
open PySem PySem.Spec PyProof.Rows
theorem sl_setiter_next : Slot "set_iterator" "__next__" "set_iterator.__next__" := .of (owner := "set_iterator") (n := "__next__") (by rw [typeLookup_type, builtinLookup_eq_fast]; kernel_rfl) (by decide +kernel) (by decide +kernel) (by decide +kernel) (by first | exact .inl (by decide +kernel) | exact .inr (by decide +kernel)) (by rw [isSubtype_type]; kernel_rfl)
theorem en_setiter_next : entryFor table "set_iterator.__next__" = some Builtin.«set_iterator.__next__» := entryFor_of_tree (by kernel_rfl)
theorem ar_setiter_next (a : Value) : argsOk "set_iterator.__next__" ⟨[a], []⟩ := by unfold argsOk; kernel_rfl
theorem sl_set_iter : Slot "set" "__iter__" "set.__iter__" := .of (owner := "set") (n := "__iter__") (by rw [typeLookup_type, builtinLookup_eq_fast]; kernel_rfl) (by decide +kernel) (by decide +kernel) (by decide +kernel) (by first | exact .inl (by decide +kernel) | exact .inr (by decide +kernel)) (by rw [isSubtype_type]; kernel_rfl)
theorem en_set_iter : entryFor table "set.__iter__" = some Builtin.«frozenset.__iter__» := entryFor_alias (id' := "frozenset.__iter__") (by kernel_rfl) rfl (by decide +kernel) (by kernel_rfl)
theorem ar_set_iter (a : Value) : argsOk "set.__iter__" ⟨[a], []⟩ := by unfold argsOk; kernel_rfl
theorem sl_setiter_iter : Slot "set_iterator" "__iter__" "set_iterator.__iter__" := .of (owner := "set_iterator") (n := "__iter__") (by rw [typeLookup_type, builtinLookup_eq_fast]; kernel_rfl) (by decide +kernel) (by decide +kernel) (by decide +kernel) (by first | exact .inl (by decide +kernel) | exact .inr (by decide +kernel)) (by rw [isSubtype_type]; kernel_rfl)
theorem en_setiter_iter : entryFor table "set_iterator.__iter__" = some Builtin.«dict_keyiterator.__iter__» := entryFor_alias (id' := "dict_keyiterator.__iter__") (by kernel_rfl) rfl (by decide +kernel) (by kernel_rfl)
theorem ar_setiter_iter (a : Value) : argsOk "set_iterator.__iter__" ⟨[a], []⟩ := by unfold argsOk; kernel_rfl
end L2
set_option maxRecDepth 100000
set_option maxHeartbeats 4000000
namespace L2
open PySem PySem.Spec PyProof.Rows
section
variable {prog : Program} {w : World} {A : Around} {E : Value -> Shared -> Prop} {s : Shared} {a it tp : Addr} {o : Obj} {es : Array (Int × Value)} {ep : Nat} {t : SetTable}
theorem erase_perm {α : Type} : ∀ {l : List α} {i : Nat} (h : i < l.length), (l[i] :: l.eraseIdx i).Perm l
  | b :: r, 0, _ => by simp
  | b :: r, i + 1, h => by
    have := erase_perm (l := r) (i := i) (by simpa using h)
    simp only [List.getElem_cons_succ, List.eraseIdx_cons_succ]
    exact (List.Perm.swap b _ _).trans (this.cons b)
theorem pick_perm {α : Type} (nx : Nat -> Nat) : ∀ (f k : Nat) (l : List α) (out : Array α), l.length <= f -> (pickOrder.go nx f k l out).toList.Perm (out.toList ++ l) := by
  intro f
  induction f with
  | zero =>
    intro k l out h
    have : l = [] := zq74x.mp (by omega)
    subst this
    unfold pickOrder.go
    simp
  | succ f ih =>
    intro k l out h
    unfold pickOrder.go
    cases l with
    | nil => simp
    | cons b r =>
      have hlt : nx k % (b :: r).length < (b :: r).length := zq111x _ (by simp)
      rw [zq5x hlt]
      dsimp only
      refine (ih (k + 1) _ _ (by rw [zq133x hlt]; omega)).trans ?_
      rw [zq53x, zq23x]
      refine zq54x _ ?_
      exact erase_perm hlt
theorem next_text (bt : byText w = true) (g1 : s.heap.get? a = some o) (g3 : o.data = .set es ep t) (g4 : t.fits es.size = true) {i sl : Nat} {Q : Option (Value × Nat) -> Shared -> Prop}
  (h : Q (((pickOrder (w.params.setOrder a ep) es)[i]?).map fun e => (e.2, sl)) s) : wpAny (model prog w) A (setNext a sl i ep) Q E s := by
 unfold setNext
 refine wpAny_bind (wpAny_setState_of g1 g3 g4 ?_)
 dsimp only
 unfold setsByText
 refine wpAny_bind (wpAny_bind (wpAny_askSetting (wpAny_pure ?_)))
 show wpAny _ _ (if byText w = true then _ else _) _ _ _
 rw [if_pos bt]
 rw [if_neg (by simp)]
 refine wpAny_bind ?_
 unfold setWalk
 refine wpAny_bind (wpAny_setState_of g1 g3 g4 ?_)
 dsimp only
 unfold setsByText
 refine wpAny_bind (wpAny_bind (wpAny_askSetting (wpAny_pure ?_)))
 show wpAny _ _ (if byText w = true then _ else _) _ _ _
 rw [if_pos bt]
 refine wpAny_bind (wpAny_askSetting (wpAny_pure ?_))
 exact wpAny_pure h
theorem next_plain (bt : byText w = false) (g1 : s.heap.get? a = some o) (g3 : o.data = .set es ep t) (g4 : t.fits es.size = true) (tk : TOk (byText w) t) (pl : t.plain = true \/ es.size <= 1) {i sl : Nat} {Q : Option (Value × Nat) -> Shared -> Prop}
  (h : Q (match es[SetTable.below t.place sl]?, t.place[SetTable.below t.place sl]? with | some (_, x), some j => some (x, j + 1) | _, _ => none) s) : wpAny (model prog w) A (setNext a sl i ep) Q E s := by
 unfold setNext
 refine wpAny_bind (wpAny_setState_of g1 g3 g4 ?_)
 dsimp only
 unfold setsByText
 refine wpAny_bind (wpAny_bind (wpAny_askSetting (wpAny_pure ?_)))
 show wpAny _ _ (if byText w = true then _ else _) _ _ _
 rw [bt, if_neg zq15x]
 show wpAny _ _ (if (!t.plain && decide (es.size > 1)) = true then _ else _) _ _ _
 rw [if_neg (by
  intro z
  rw [zq28x, zq134x, decide_eq_true_eq] at z
  rcases pl with p | p
  ·rw [p] at z; cases z.1
  ·omega)]
 refine wpAny_bind ?_
 show wpAny _ _ (if (!t.led && !es.isEmpty) = true then _ else _) _ _ _
 rw [if_neg (by rw [tk.led bt]; simp)]
 refine wpAny_pure ?_
 exact wpAny_pure h
theorem next_drawn (g1 : s.heap.get? a = some o) (g3 : o.data = .set es ep t) (g4 : t.fits es.size = true) {pl : Nat} {hx : Int} {x : Value} {Q : Value -> Shared -> Prop} (e : es[pl]? = some (hx, x)) (h : Q x s) : wpAny (model prog w) A (setNextDrawn a pl ep) Q E s := by
 unfold setNextDrawn
 refine wpAny_bind (wpAny_setState_of g1 g3 g4 ?_)
 dsimp only
 rw [if_neg (by simp)]
 rw [e]
 exact wpAny_pure h
def SIt (h : Heap) (it a : Addr) (first : Value) (i n ep : Nat) : Prop := ∃ o, h.get? it = some o /\ o.cls = .type "set_iterator" /\ o.data = .fields #[first, .int i 0, .ref a, .int n 0, .int ep 0]
theorem SIt.ty {first : Value} {i n : Nat} (h : SIt s.heap it a first i n ep) : s.TypeIs (.ref it) "set_iterator" := let ⟨o, e, c, _⟩ := h; ⟨o, e, c⟩
theorem sit_head {first : Value} {i n : Nat} {QQ : Fin -> Shared -> Prop} {EE : Value -> Shared -> Prop} (hit : SIt s.heap it a first i n ep) (g1 : s.heap.get? a = some o) (g3 : o.data = .set es ep t) (g4 : t.fits es.size = true) (hn : es.size = n)
    (h : wpAny (model prog w) A (match first with
      | .int slot _ => (do
        match <- setNext a slot.toNat i ep with
        | some (x, next) => do
          setField (.ref it) 0 (rawInt next)
          setField (.ref it) 1 (rawInt ((i : Int) + 1))
          ret x
        | none => do
          setField (.ref it) 2 .none
          raiseNew (<- newExc (.type "StopIteration") []))
      | _ => (do
        let some places <- seqItems? first | unsupported "internal:set_iterator"
        match places[i]? with
        | some (.int place _) => do
          let x <- setNextDrawn a place.toNat ep
          setField (.ref it) 1 (rawInt ((i : Int) + 1))
          ret x
        | some _ => unsupported "internal:set_iterator"
        | none => do
          setField (.ref it) 0 (rawInt 0)
          setField (.ref it) 2 .none
          raiseNew (<- newExc (.type "StopIteration") []))) QQ EE s) : wpAny (model prog w) A (Builtin.«set_iterator.__next__» ⟨[.ref it], []⟩) QQ EE s := by
  obtain ⟨oi, ho, hc, hd⟩ := hit
  unfold Builtin.«set_iterator.__next__»
  refine wpAny_bind (wpAny_pure ?_)
  refine wpAny_bind (wpAny_fieldsOf ho hd ?_)
  dsimp only
  refine wpAny_bind (wpAny_setEntries_of g1 g3 g4 ?_)
  rw [if_neg (by rw [hn]; simp)]
  cases first <;> exact h
theorem sit_upd {h : Heap} {first : Value} {i n k : Nat} {x : Value} {oi : Obj} {vs : Array Value} (ho : h.get? it = some oi) (hc : oi.cls = .type "set_iterator") (hd : oi.data = .fields vs) :
  (h.update it (Obj.mapFields (·.setIfInBounds k x))).get? it = some (Obj.mapFields (·.setIfInBounds k x) oi) /\ (Obj.mapFields (·.setIfInBounds k x) oi).cls = .type "set_iterator" /\ (Obj.mapFields (·.setIfInBounds k x) oi).data = .fields (vs.setIfInBounds k x) := by
 refine ⟨zq107x _ ho (Obj.isFreed_of_fields (Obj.data_mapFields hd _)), (Obj.cls_mapFields ..).trans hc, Obj.data_mapFields hd _⟩
theorem sit_item {sl i n nx : Nat} {x : Value} {Q : Option Value -> Shared -> Prop} (hit : SIt s.heap it a (.int sl 0) i n ep) (g1 : s.heap.get? a = some o) (g3 : o.data = .set es ep t) (g4 : t.fits es.size = true) (hn : es.size = n)
  (hN : ∀ (Q : Option (Value × Nat) -> Shared -> Prop) (E : Value -> Shared -> Prop), Q (some (x, nx)) s -> wpAny (model prog w) A.in1 (setNext a sl i ep) Q E s)
  (hQ : ∀ h', SIt h' it a (.int nx 0) (i + 1) n ep -> (∀ b, b ≠ it -> h'.get? b = s.heap.get? b) -> Q (some x) { s with heap := h' }) : wpAny (model prog w) A (pyNext (.ref it)) Q E s := by
 obtain ⟨oi, ho, hc, hd⟩ := id hit
 unfold pyNext
 refine wpAny_bind (wpAny_attempt (wpAny_callSpecial?_slot (name := Str.ofString "__next__") hit.ty sl_setiter_next (wpAny_call_entry sl_setiter_next hit.ty en_setiter_next ?_ (ar_setiter_next _))))
 refine sit_head hit g1 g3 g4 hn ?_
 dsimp only
 refine wpAny_bind (hN _ _ ?_)
 dsimp only
 obtain ⟨u1, u2, u3⟩ := sit_upd (first := .none) (i := 0) (n := 0) (k := 0) (x := rawInt nx) ho hc hd
 obtain ⟨w1, w2, w3⟩ := sit_upd (first := .none) (i := 0) (n := 0) (k := 1) (x := rawInt ((i : Int) + 1)) u1 u2 u3
 refine wpAny_bind (wpAny_setField ho hd (by simp) ?_)
 refine wpAny_bind (wpAny_setField u1 u3 (by simp) ?_)
 refine wpAny_pure ⟨x, rfl, wpAny_pure (hQ _ ⟨_, w1, w2, ?_⟩ fun b hb => ?_)⟩
 ·rw [w3]; simp [rawInt]
 ·exact ((zq50x _ _ (zq18x hb))).trans (zq50x _ _ (zq18x hb))
theorem stop_raise {QQ : Fin -> Shared -> Prop} {B : Around} {Q : Option Value -> Shared -> Prop} (hh : B.handled = none) (hQ : ∀ o1 o2, Q none { s with heap := (s.heap.push o1).push o2 }) : wpAny (model prog w) B (do raiseNew (<- newExc (.type "StopIteration") [])) QQ
  (fun e s' => wpAny (model prog w) A (do if <- isInstance e (.type "StopIteration") then pure none else throw e) Q E s') s := by
 refine wpAny_bind ?_
 simp only [newExc, newTuple]
 refine wpAny_bind (wpAny_newObj_type ?_ (by size_fits))
 refine wpAny_bind (m := firstArgMember _ _) (wpAny_of_eq (a := Value.none) (by first | rfl | (simp only [firstArgMember]; rfl)) (wpAny_newObj_type ?_ (by size_fits)))
 simp only [raiseNew]
 refine wpAny_bind (wpAny_handled ?_)
 rw [hh]
 refine wpAny_bind (wpAny_pure (wpAny_throw ?_))
 refine wpAny_bind (wpAny_isInstance (b := true) (T := "StopIteration") ⟨_, zq29x _ rfl, rfl⟩ isSubtype_stop ?_)
 exact wpAny_pure (hQ _ _)
theorem sit_end {sl i n : Nat} {Q : Option Value -> Shared -> Prop} (hh : A.handled = none) (hit : SIt s.heap it a (.int sl 0) i n ep) (g1 : s.heap.get? a = some o) (g3 : o.data = .set es ep t) (g4 : t.fits es.size = true) (hn : es.size = n)
  (hN : ∀ (Q : Option (Value × Nat) -> Shared -> Prop) (E : Value -> Shared -> Prop), Q none s -> wpAny (model prog w) A.in1 (setNext a sl i ep) Q E s)
  (hQ : ∀ h', (∀ b o, b ≠ it -> s.heap.get? b = some o -> h'.get? b = some o) -> Q none { s with heap := h' }) : wpAny (model prog w) A (pyNext (.ref it)) Q E s := by
 obtain ⟨oi, ho, hc, hd⟩ := id hit
 unfold pyNext
 refine wpAny_bind (wpAny_attempt (wpAny_callSpecial?_slot (name := Str.ofString "__next__") hit.ty sl_setiter_next (wpAny_call_entry sl_setiter_next hit.ty en_setiter_next ?_ (ar_setiter_next _))))
 refine sit_head hit g1 g3 g4 hn ?_
 dsimp only
 refine wpAny_bind (hN _ _ ?_)
 dsimp only
 refine wpAny_bind (wpAny_setField ho hd (by simp) ?_)
 exact stop_raise (B := A.in1) hh fun o1 o2 => hQ _ fun b o hb e => zq9x _ (zq9x _ ((zq50x _ _ (zq18x hb)).trans e))
theorem sit_itemT {i n pl : Nat} {hx : Int} {x : Value} {pls : Array Value} {Q : Option Value -> Shared -> Prop} (hit : SIt s.heap it a (.ref tp) i n ep) (g1 : s.heap.get? a = some o) (g3 : o.data = .set es ep t) (g4 : t.fits es.size = true) (hn : es.size = n)
  (htp : ∃ ot m, s.heap.get? tp = some ot /\ ot.data = .seq pls m) (hp : pls[i]? = some (.int pl 0)) (he : es[pl]? = some (hx, x))
  (hQ : ∀ h', SIt h' it a (.ref tp) (i + 1) n ep -> (∀ b, b ≠ it -> h'.get? b = s.heap.get? b) -> Q (some x) { s with heap := h' }) : wpAny (model prog w) A (pyNext (.ref it)) Q E s := by
 obtain ⟨oi, ho, hc, hd⟩ := id hit
 obtain ⟨ot, m, t1, t2⟩ := htp
 unfold pyNext
 refine wpAny_bind (wpAny_attempt (wpAny_callSpecial?_slot (name := Str.ofString "__next__") hit.ty sl_setiter_next (wpAny_call_entry sl_setiter_next hit.ty en_setiter_next ?_ (ar_setiter_next _))))
 refine sit_head hit g1 g3 g4 hn ?_
 dsimp only
 refine wpAny_bind (wpAny_seqItems t1 t2 ?_)
 dsimp only
 rw [hp]
 dsimp only
 refine wpAny_bind (next_drawn g1 g3 g4 (by simpa using he) ?_)
 obtain ⟨w1, w2, w3⟩ := sit_upd (first := .none) (i := 0) (n := 0) (k := 1) (x := rawInt ((i : Int) + 1)) ho hc hd
 refine wpAny_bind (wpAny_setField ho hd (by simp) (wpAny_pure ⟨x, rfl, wpAny_pure (hQ _ ⟨_, w1, w2, ?_⟩ fun b hb => zq50x _ _ (zq18x hb))⟩))
 rw [w3]; simp [rawInt]
theorem sit_endT {i n : Nat} {pls : Array Value} {Q : Option Value -> Shared -> Prop} (hh : A.handled = none) (hit : SIt s.heap it a (.ref tp) i n ep) (g1 : s.heap.get? a = some o) (g3 : o.data = .set es ep t) (g4 : t.fits es.size = true) (hn : es.size = n)
  (htp : ∃ ot m, s.heap.get? tp = some ot /\ ot.data = .seq pls m) (hp : pls[i]? = none)
  (hQ : ∀ h', (∀ b o, b ≠ it -> s.heap.get? b = some o -> h'.get? b = some o) -> Q none { s with heap := h' }) : wpAny (model prog w) A (pyNext (.ref it)) Q E s := by
 obtain ⟨oi, ho, hc, hd⟩ := id hit
 obtain ⟨ot, m, t1, t2⟩ := htp
 unfold pyNext
 refine wpAny_bind (wpAny_attempt (wpAny_callSpecial?_slot (name := Str.ofString "__next__") hit.ty sl_setiter_next (wpAny_call_entry sl_setiter_next hit.ty en_setiter_next ?_ (ar_setiter_next _))))
 refine sit_head hit g1 g3 g4 hn ?_
 dsimp only
 refine wpAny_bind (wpAny_seqItems t1 t2 ?_)
 dsimp only
 rw [hp]
 dsimp only
 obtain ⟨u1, u2, u3⟩ := sit_upd (first := .none) (i := 0) (n := 0) (k := 0) (x := rawInt 0) ho hc hd
 refine wpAny_bind (wpAny_setField ho hd (by simp) (wpAny_bind (wpAny_setField u1 u3 (by simp) ?_)))
 exact stop_raise (B := A.in1) hh fun o1 o2 => hQ _ fun b o hb e => zq9x _ (zq9x _ ((zq50x _ _ (zq18x hb)).trans ((zq50x _ _ (zq18x hb)).trans e)))
end
end L2
set_option maxRecDepth 100000
set_option maxHeartbeats 4000000
namespace L2
open PySem PySem.Spec PyProof.Rows
def slotAt (xs : Array Nat) : Nat -> Nat
 | 0 => 0
 | i + 1 => xs.getD i 0 + 1
theorem slot_z (xs : Array Nat) : slotAt xs 0 = 0 := rfl
theorem slot_s (xs : Array Nat) (i : Nat) : slotAt xs (i + 1) = xs.getD i 0 + 1 := rfl
theorem below_slot {xs : Array Nat} (hr : Ris xs) {i : Nat} (hi : i <= xs.size) : SetTable.below xs (slotAt xs i) = i := by
  obtain ⟨h1, h2, h3⟩ := below_at (q := slotAt xs i) hr
  have g : ∀ {j : Nat}, j < xs.size -> ∃ y, xs[j]? = some y /\ xs.getD j 0 = y := fun {j} hj => ⟨xs[j], zq52x hj, by rw [zq129x, zq52x hj]; rfl⟩
  rcases zq112x (SetTable.below xs (slotAt xs i)) i with z | z | z
  · obtain ⟨y, e, _⟩ := g (zq17x z hi)
    have := h3 _ y (zq1x _) e
    cases i with
    | zero => omega
    | succ i =>
      obtain ⟨y', e', d'⟩ := g (j := i) (by omega)
      have es := slot_s xs i
      rw [d'] at es
      rcases zq131x (Nat.le_of_lt_succ z) with z | z
      · have := hr _ _ _ _ z e e'; omega
      · rw [z, e'] at e; cases e; omega
  · exact z
  · obtain ⟨y, e, d⟩ := g (j := i) (by omega)
    have := h2 i y z e
    cases i with
    | zero => rw [slot_z] at this; omega
    | succ i =>
      obtain ⟨y', e', d'⟩ := g (j := i) (by omega)
      rw [slot_s, d'] at this
      have := hr i (i + 1) _ _ (by omega) e' e
      omega
section
variable {prog : Program} {w : World} {a I tp : Addr} {o : Obj} {es : Array (Int × Value)} {ep : Nat} {t : SetTable}
theorem fits_size (h : t.fits es.size = true) : t.place.size = es.size := by
 unfold SetTable.fits at h
 rw [zq28x] at h
 exact eq_of_beq h.1
theorem walks_text {A : Around} (hh : A.handled = none) (bt : byText w = true) (g3 : o.data = .set es ep t) (g4 : t.fits es.size = true) (hne : a ≠ I) :
  Walks prog w A I [I, a] [I] es.size (fun i v => ((pickOrder (w.params.setOrder a ep) es).toList.map (·.2))[i]? = some v) (fun i h => SIt h I a (.int (0 : Nat) 0) i es.size ep /\ h.get? a = some o) where
 sub := fun b hb => by simp at hb; simp [hb]
 frame := fun i h h' st hk => by
  obtain ⟨⟨oi, h1, h2, h3⟩, h4⟩ := st
  exact ⟨⟨oi, hk I (by simp) _ h1, h2, h3⟩, hk a (by simp) _ h4⟩
 item := fun i s Q E hi st hQ => by
  have hsz : (pickOrder (w.params.setOrder a ep) es).toList.length = es.size := by
   have := (pick_perm (w.params.setOrder a ep) es.size 0 es.toList #[] (by simp)).length_eq
   simpa [pickOrder] using this
  have hlt : i < (pickOrder (w.params.setOrder a ep) es).toList.length := by omega
  have e1 : (pickOrder (w.params.setOrder a ep) es)[i]? = some (pickOrder (w.params.setOrder a ep) es).toList[i] := by rw [<- zq48x]; exact zq5x hlt
  refine sit_item st.1 st.2 g3 g4 rfl (x := (pickOrder (w.params.setOrder a ep) es).toList[i].2) (nx := 0) (fun Q E q => next_text bt st.2 g3 g4 (by rw [e1]; exact q)) fun h' x1 x2 => ?_
  refine hQ _ h' s.toks (by rw [zq19x, zq5x hlt]; rfl) ⟨x1, (x2 a hne).trans st.2⟩ fun b o' hb e => (x2 b (fun z => hb (by simp [z]))).trans e
 done := fun s Q E st hQ => by
  have hsz : (pickOrder (w.params.setOrder a ep) es).toList.length = es.size := by
   have := (pick_perm (w.params.setOrder a ep) es.size 0 es.toList #[] (by simp)).length_eq
   simpa [pickOrder] using this
  refine sit_end hh st.1 st.2 g3 g4 rfl (fun Q E q => next_text bt st.2 g3 g4 (by rw [<- zq48x, zq61x (by omega)]; exact q)) fun h' x1 => hQ h' s.toks fun b o' hb e => x1 b o' (fun z => hb (by simp [z])) e
 self := fun i s Q E st hQ => by
  refine wpAny_pyIter_slot st.1.ty sl_setiter_iter (wpAny_call_entry sl_setiter_iter st.1.ty en_setiter_iter ?_ (ar_setiter_iter _))
  exact wpAny_pure ⟨_, rfl, "set_iterator", _, st.1.ty, sl_setiter_next.lookup, hQ⟩
theorem walks_plain {A : Around} (hh : A.handled = none) (bt : byText w = false) (g3 : o.data = .set es ep t) (g4 : t.fits es.size = true) (tk : TOk (byText w) t) (pl : t.plain = true \/ es.size <= 1) (hne : a ≠ I) :
  Walks prog w A I [I, a] [I] es.size (fun i v => (es.toList.map (·.2))[i]? = some v) (fun i h => SIt h I a (.int (slotAt t.place i) 0) i es.size ep /\ h.get? a = some o) where
 sub := fun b hb => by simp at hb; simp [hb]
 frame := fun i h h' st hk => by
  obtain ⟨⟨oi, h1, h2, h3⟩, h4⟩ := st
  exact ⟨⟨oi, hk I (by simp) _ h1, h2, h3⟩, hk a (by simp) _ h4⟩
 item := fun i s Q E hi st hQ => by
  have hps := fits_size g4
  have hr : Ris t.place := by
   rcases pl with p | p
   ·exact tk.ris p
   ·intro i j x y hij ex ey
    have := (zq88x.mp ey).1; omega
  have hlt : i < es.toList.length := by simpa using hi
  have e1 : es[i]? = some es.toList[i] := by rw [<- zq48x]; exact zq5x hlt
  have e2 : t.place[i]? = some (t.place.getD i 0) := by rw [zq129x, zq52x (by omega)]; rfl
  refine sit_item st.1 st.2 g3 g4 rfl (x := es.toList[i].2) (nx := slotAt t.place (i + 1)) (fun Q E q => next_plain bt st.2 g3 g4 tk pl (by rw [below_slot hr (by omega), e1, e2]; exact q)) fun h' x1 x2 => ?_
  refine hQ _ h' s.toks (by rw [zq19x, zq5x hlt]; rfl) ⟨x1, (x2 a hne).trans st.2⟩ fun b o' hb e => (x2 b (fun z => hb (by simp [z]))).trans e
 done := fun s Q E st hQ => by
  have hps := fits_size g4
  have hr : Ris t.place := by
   rcases pl with p | p
   ·exact tk.ris p
   ·intro i j x y hij ex ey
    have := (zq88x.mp ey).1; omega
  refine sit_end hh st.1 st.2 g3 g4 rfl (fun Q E q => next_plain bt st.2 g3 g4 tk pl (by rw [below_slot hr (by omega), zq130x (zq1x _)]; exact q)) fun h' x1 => hQ h' s.toks fun b o' hb e => x1 b o' (fun z => hb (by simp [z])) e
 self := fun i s Q E st hQ => by
  refine wpAny_pyIter_slot st.1.ty sl_setiter_iter (wpAny_call_entry sl_setiter_iter st.1.ty en_setiter_iter ?_ (ar_setiter_iter _))
  exact wpAny_pure ⟨_, rfl, "set_iterator", _, st.1.ty, sl_setiter_next.lookup, hQ⟩
theorem walks_drawn {A : Around} {ks : List Nat} (hh : A.handled = none) (g3 : o.data = .set es ep t) (g4 : t.fits es.size = true) (hk : ks.Perm (List.range es.size)) (hne : a ≠ I) (hnt : tp ≠ I) :
    Walks prog w A I [I, a, tp] [I] es.size (fun i v => ((ks.filterMap (es[·]?)).map (·.2))[i]? = some v) (fun i h => SIt h I a (.ref tp) i es.size ep /\ h.get? a = some o /\ ∃ ot m, h.get? tp = some ot /\ ot.data = .seq (ks.map fun (k : Nat) => rawInt k).toArray m) where
  sub := fun b hb => by simp at hb; simp [hb]
  frame := fun i h h' st hk => by
    obtain ⟨⟨oi, h1, h2, h3⟩, h4, ot, m, h5, h6⟩ := st
    exact ⟨⟨oi, hk I (by simp) _ h1, h2, h3⟩, hk a (by simp) _ h4, ot, m, hk tp (by simp) _ h5, h6⟩
  item := fun i s Q E hi st hQ => by
    have hlen : ks.length = es.size := by rw [hk.length_eq]; simp
    have hin : ∀ k ∈ ks, k < es.size := fun k m => by simpa using hk.mem_iff.mp m
    have hi' : i < ks.length := by omega
    have hki := hin ks[i] (zq47x hi')
    have e1 : es[ks[i]]? = some es[ks[i]] := zq52x hki
    have fm : ∀ (l : List Nat), (∀ k ∈ l, k < es.size) -> ∀ j (hj : j < l.length), (l.filterMap (es[·]?))[j]? = es[l[j]]? := by
      intro l
      induction l with
      | nil => intro _ j hj; simp at hj
      | cons b r ih =>
        intro hl j hj
        have hb := hl b (zq14x ..)
        rw [zq85x, zq52x hb]
        cases j with
        | zero => simp [zq52x hb]
        | succ j => simpa using ih (fun k m => hl k (zq20x _ m)) j (by simpa using hj)
    refine sit_itemT st.1 st.2.1 g3 g4 rfl st.2.2 (pl := ks[i]) (hx := es[ks[i]].1) (x := es[ks[i]].2) (by simp [zq5x hi', rawInt]) e1 fun h' x1 x2 => ?_
    obtain ⟨ot, m, t1, t2⟩ := st.2.2
    refine hQ _ h' s.toks ?_ ⟨x1, (x2 a hne).trans st.2.1, ot, m, (x2 tp hnt).trans t1, t2⟩ fun b o' hb e => (x2 b (fun z => hb (by simp [z]))).trans e
    rw [zq19x, fm ks hin i hi', e1]; rfl
  done := fun s Q E st hQ => by
    have hlen : ks.length = es.size := by rw [hk.length_eq]; simp
    exact sit_endT hh st.1 st.2.1 g3 g4 rfl st.2.2 (by simp; omega) fun h' x1 => hQ h' s.toks fun b o' hb e => x1 b o' (fun z => hb (by simp [z])) e
  self := fun i s Q E st hQ => by
    refine wpAny_pyIter_slot st.1.ty sl_setiter_iter (wpAny_call_entry sl_setiter_iter st.1.ty en_setiter_iter ?_ (ar_setiter_iter _))
    exact wpAny_pure ⟨_, rfl, "set_iterator", _, st.1.ty, sl_setiter_next.lookup, hQ⟩
end
section
variable {prog : Program} {w : World} {A : Around} {E : Value -> Shared -> Prop} {s : Shared} {a : Addr} {o : Obj} {es : Array (Int × Value)} {ep : Nat} {t : SetTable}
theorem range_get {α : Type} : ∀ l : List α, (List.range l.length).filterMap (fun i => l[i]?) = l
  | [] => rfl
  | x :: l => by
    have := range_get l
    rw [zq35x, zq163x, zq85x, List.filterMap_map]
    simpa [Function.comp_def] using this
theorem choose_any {src : Source} {n : Nat} {Q : Nat -> Shared -> Prop} (hn : n ≠ 0) (h : ∀ i d', i < n -> Q i { s with drawn := d' }) : wpAny (model prog w) A (choose src n) Q E s := fun Γ p _ => ⟨hn, h _ _ (zq111x _ (Nat.pos_of_ne_zero hn))⟩
theorem draw_perm {α : Type} : ∀ (n : Nat) (xs : List α) (s : Shared) (Q : List α -> Shared -> Prop), xs.length <= n -> (∀ ks d', ks.Perm xs -> Q ks { s with drawn := d' }) -> wpAny (model prog w) A (drawOrder n xs) Q E s
  | 0, xs, s, Q, hl, h => by
    have : xs = [] := zq74x.mp (by omega)
    subst this
    unfold drawOrder
    exact wpAny_pure (h [] s.drawn .nil)
  | n + 1, [], s, Q, hl, h => by
    unfold drawOrder
    exact wpAny_pure (h [] s.drawn .nil)
  | n + 1, x :: xs, s, Q, hl, h => by
    unfold drawOrder
    refine wpAny_bind (choose_any (by simp) fun i d' hi => ?_)
    rw [zq5x hi]
    dsimp only
    refine wpAny_bind (draw_perm n _ _ _ (by rw [zq133x hi]; simp at hl ⊢; omega) fun ks d2 hk => ?_)
    exact wpAny_pure (h _ d2 ((hk.cons _).trans (erase_perm hi)))
theorem drawn_of (g1 : s.heap.get? a = some o) (g3 : o.data = .set es ep t) (g4 : t.fits es.size = true) {Q : Bool -> Shared -> Prop} (h : Q (!byText w && (!t.plain && decide (es.size > 1))) s) : wpAny (model prog w) A (setDrawn a) Q E s := by
 unfold setDrawn
 refine wpAny_bind (wpAny_setState_of g1 g3 g4 ?_)
 dsimp only
 unfold setsByText
 refine wpAny_bind (wpAny_bind (wpAny_askSetting (wpAny_pure ?_)))
 exact wpAny_pure h
theorem epoch_of (g1 : s.heap.get? a = some o) (g3 : o.data = .set es ep t) (g4 : t.fits es.size = true) {Q : Nat -> Shared -> Prop} (h : Q ep s) : wpAny (model prog w) A (setEpoch a) Q E s := by
 unfold setEpoch
 exact wpAny_bind (wpAny_setState_of g1 g3 g4 (wpAny_pure h))
theorem iter_G {Q : Value -> Shared -> Prop} (hb : es.size < scanBound) (g1 : s.heap.get? a = some o) (g2 : o.ExactSet) (g3 : o.data = .set es ep t) (g4 : t.fits es.size = true) (tk : TOk (byText w) t)
    (hQ : ∀ (I : Addr) (h' : Heap) d' (items : List Value) (fp : List Addr) (St : Nat -> Heap -> Prop), (∀ b o, s.heap.get? b = some o -> h'.get? b = some o) -> s.heap.objs.size <= I -> (∀ b ∈ fp, b = a \/ s.heap.objs.size <= b) -> I ∈ fp -> (∀ b ∈ fp, b < h'.objs.size) -> items.Perm (es.toList.map (·.2)) ->
      (∀ B : Around, B.handled = none -> Walks prog w B I fp [I] items.length (fun i v => items[i]? = some v) St) -> St 0 h' -> Q (.ref I) { s with heap := h', drawn := d' }) : wpAny (model prog w) A (pyIter (.ref a)) Q E s := by
  have hT : s.TypeIs (.ref a) "set" := ⟨o, g1, g2.1⟩
  have hlt := zq3x g1
  refine wpAny_pyIter_slot hT sl_set_iter (wpAny_call_entry sl_set_iter hT en_set_iter ?_ (ar_set_iter _))
  unfold Builtin.«frozenset.__iter__»
  unfold Builtin.Frozenset.slot0 slotArgs
  simp only [List.isEmpty_nil, zq96x, zq55x, ↓reduceIte, bind_assoc, List.length_nil, bne_self_eq_false]
  unfold Builtin.Frozenset.addrOf Builtin.Frozenset.sizeOf
  refine wpAny_bind (wpAny_pure ?_)
  try dsimp only
  refine wpAny_bind (wpAny_pure ?_)
  refine wpAny_bind (wpAny_bind (wpAny_setEntries_of g1 g3 g4 (wpAny_pure ?_)))
  refine wpAny_bind (drawn_of g1 g3 g4 ?_)
  by_cases c : (!byText w && (!t.plain && decide (es.size > 1))) = true
  · rw [if_pos c]
    refine wpAny_bind (draw_perm es.size (List.range es.size) s _ (by simp) fun ks d' hk => ?_)
    unfold newTuple
    refine wpAny_bind (wpAny_newObj_type ?_ ?_)
    rotate_left
    · have hk0 : ks.length = es.size := by rw [hk.length_eq]; simp
      show (List.map (fun (i : Nat) => rawInt i) ks).toArray.size <= sizeLine
      rw [zq16x, zq0x, hk0]
      exact fits_of_scanBound hb
    have g1' := zq9x ({ cls := .type "tuple", data := .seq (ks.map fun (i : Nat) => rawInt i).toArray } : Obj) g1
    refine wpAny_bind (epoch_of (s := { s with heap := _, drawn := d' }) g1' g3 g4 ?_)
    unfold newFields
    refine wpAny_bind (wpAny_newObj_type ?_)
    have hk0 : ks.length = es.size := by rw [hk.length_eq]; simp
    have fin := hQ
    clear hQ
    have sz1 : (s.heap.push ({ cls := .type "tuple", data := .seq (ks.map fun (i : Nat) => rawInt i).toArray } : Obj)).objs.size = s.heap.objs.size + 1 := zq78x ..
    have gT : (s.heap.push ({ cls := .type "tuple", data := .seq (ks.map fun (i : Nat) => rawInt i).toArray } : Obj)).get? s.heap.objs.size = some { cls := .type "tuple", data := .seq (ks.map fun (i : Nat) => rawInt i).toArray } := zq29x _ rfl
    have gO : ∀ b o, s.heap.get? b = some o -> (s.heap.push ({ cls := .type "tuple", data := .seq (ks.map fun (i : Nat) => rawInt i).toArray } : Obj)).get? b = some o := fun b o e => zq9x _ e
    generalize hh1 : s.heap.push ({ cls := .type "tuple", data := .seq (ks.map fun (i : Nat) => rawInt i).toArray } : Obj) = h1 at g1' sz1 gT gO ⊢
    have gI : (h1.push ({ cls := .type "set_iterator", data := .fields #[.ref s.heap.objs.size, rawInt 0, .ref a, rawInt es.size, rawInt ep] } : Obj)).get? h1.objs.size = some { cls := .type "set_iterator", data := .fields #[.ref s.heap.objs.size, rawInt 0, .ref a, rawInt es.size, rawInt ep] } := zq29x _ rfl
    have gS := zq9x ({ cls := .type "set_iterator", data := .fields #[.ref s.heap.objs.size, rawInt 0, .ref a, rawInt es.size, rawInt ep] } : Obj) g1'
    have gT' := zq9x ({ cls := .type "set_iterator", data := .fields #[.ref s.heap.objs.size, rawInt 0, .ref a, rawInt es.size, rawInt ep] } : Obj) gT
    have sz2 : (h1.push ({ cls := .type "set_iterator", data := .fields #[.ref s.heap.objs.size, rawInt 0, .ref a, rawInt es.size, rawInt ep] } : Obj)).objs.size = h1.objs.size + 1 := zq78x ..
    subst hh1
    refine wpAny_pure ⟨_, rfl, "set_iterator", _, ⟨_, gI, rfl⟩, sl_setiter_next.lookup, ?_⟩
    have pp : (ks.filterMap (es[·]?)).Perm es.toList := by
      have := hk.filterMap (es[·]?)
      have e : (List.range es.size).filterMap (es[·]?) = es.toList := by
        have := range_get es.toList
        simpa using this
      rwa [e] at this
    have hn : ((ks.filterMap (es[·]?)).map (·.2)).length = es.size := by rw [zq0x, pp.length_eq]; simp
    have nlt := zq135x (zq95x s.heap.objs.size) sz1.symm
    refine fin _ _ d' ((ks.filterMap (es[·]?)).map (·.2)) [_, a, s.heap.objs.size] _ (fun b o e => zq9x _ (gO b o e)) (zq66x nlt) (fun b m => ?_) (zq14x ..) (fun b m => ?_) (pp.map _) (fun B hB => by rw [hn]; exact walks_drawn hB g3 g4 hk (zq22x (zq110x hlt nlt)) (zq22x nlt)) ?_
    · rcases zq4x.mp m with e | m
      · exact .inr (by rw [e]; exact zq66x nlt)
      · rcases zq4x.mp m with e | m
        · exact .inl e
        · exact .inr (zq93x (zq10x.mp m).symm)
    · refine zq135x ?_ sz2.symm
      rcases zq4x.mp m with e | m
      · rw [e]; exact zq95x _
      · rcases zq4x.mp m with e | m
        · rw [e]; exact zq80x (zq110x hlt nlt)
        · rw [zq10x.mp m]; exact zq80x nlt
    · exact ⟨⟨_, gI, rfl, rfl⟩, gS, _, _, gT', rfl⟩
  · rw [if_neg c]
    refine wpAny_bind (wpAny_pure ?_)
    refine wpAny_bind (epoch_of g1 g3 g4 ?_)
    unfold newFields
    refine wpAny_bind (wpAny_newObj_type ?_)
    have gI : (s.heap.push ({ cls := .type "set_iterator", data := .fields #[rawInt 0, rawInt 0, .ref a, rawInt es.size, rawInt ep] } : Obj)).get? s.heap.objs.size = some { cls := .type "set_iterator", data := .fields #[rawInt 0, rawInt 0, .ref a, rawInt es.size, rawInt ep] } := zq29x _ rfl
    have gS := zq9x ({ cls := .type "set_iterator", data := .fields #[rawInt 0, rawInt 0, .ref a, rawInt es.size, rawInt ep] } : Obj) g1
    have hfp : ∀ b ∈ [s.heap.objs.size, a], b = a \/ s.heap.objs.size <= b := fun b m => by
      rcases zq4x.mp m with e | m
      · exact .inr (zq93x e.symm)
      · exact .inl (zq10x.mp m)
    have hsz : (s.heap.push ({ cls := .type "set_iterator", data := .fields #[rawInt 0, rawInt 0, .ref a, rawInt es.size, rawInt ep] } : Obj)).objs.size = s.heap.objs.size + 1 := zq78x ..
    have hlts : ∀ b ∈ [s.heap.objs.size, a], b < (s.heap.push ({ cls := .type "set_iterator", data := .fields #[rawInt 0, rawInt 0, .ref a, rawInt es.size, rawInt ep] } : Obj)).objs.size := fun b m => by
      rw [hsz]
      rcases zq4x.mp m with e | m
      · rw [e]; exact zq95x _
      · rw [zq10x.mp m]; exact zq80x hlt
    refine wpAny_pure ⟨_, rfl, "set_iterator", _, ⟨_, gI, rfl⟩, sl_setiter_next.lookup, ?_⟩
    cases bt : byText w with
    | true =>
      have pp : (pickOrder (w.params.setOrder a ep) es).toList.Perm es.toList := by simpa [pickOrder] using pick_perm (w.params.setOrder a ep) es.size 0 es.toList #[] (by simp)
      have hn : ((pickOrder (w.params.setOrder a ep) es).toList.map (·.2)).length = es.size := by rw [zq0x, pp.length_eq]; simp
      refine hQ _ _ s.drawn ((pickOrder (w.params.setOrder a ep) es).toList.map (·.2)) [s.heap.objs.size, a] _ (fun b o e => zq9x _ e) (zq1x _) hfp (by simp) hlts (pp.map _) (fun B hB => by rw [hn]; exact walks_text hB bt g3 g4 (zq22x hlt)) ?_
      exact ⟨⟨_, gI, rfl, rfl⟩, gS⟩
    | false =>
      have pl : t.plain = true \/ es.size <= 1 := by
        rw [bt, Bool.not_false, Bool.true_and] at c
        cases hp : t.plain with
        | true => exact .inl rfl
        | false =>
          rw [hp, Bool.not_false, Bool.true_and, decide_eq_true_eq] at c
          exact .inr (by omega)
      have hn : (es.toList.map (·.2)).length = es.size := by simp
      refine hQ _ _ s.drawn (es.toList.map (·.2)) [s.heap.objs.size, a] _ (fun b o e => zq9x _ e) (zq1x _) hfp (by simp) hlts (.refl _) (fun B hB => by rw [hn]; exact walks_plain hB bt g3 g4 tk pl (zq22x hlt)) ?_
      exact ⟨⟨_, gI, rfl, rfl⟩, gS⟩
end
end L2
set_option maxRecDepth 100000
set_option maxHeartbeats 4000000
namespace L2
open PySem PySem.Spec PyProof.Rows
section
variable {prog : Program} {w : World} {A : Around} {E : Value -> Shared -> Prop} {s : Shared} {a : Addr} {o : Obj} {es : Array (Int × Value)} {ep : Nat} {t : SetTable}
theorem hint_set {Q : Bool -> Shared -> Prop} (hT : s.TypeIs (.ref a) "set") (h : Q false s) : wpAny (model prog w) A (Builtin.List.listLengthHint (.ref a)) Q E s := by
 unfold Builtin.List.listLengthHint
 refine wpAny_bind (wpAny_specialOf hT PySem.F.slot_set_len.lookup ?_)
 generalize hid : ("set.__len__" : String) = id0
 wp_delta
 rw [show splitId id0 = some ("set", "__len__") from by subst hid; decide +kernel]
 subst hid
 refine wpAny_bind (wpAny_isInstance (b := true) (T := "set") hT (by rw [isSubtype_type]; kernel_rfl) ?_)
 refine wpAny_ite_split (fun z => absurd z (by decide)) fun _ => wpAny_ite_split (fun _ => ?_) fun z => absurd (by decide +kernel) z
 exact wpAny_bind (wpAny_typeOf hT (wpAny_pure h))
theorem items_eq {items : List Value} {acc : Array Value} (h : ItemsOf (fun i v => items[i]? = some v) acc items.length) : acc.toList = items := by
 apply zq79x
 intro i
 by_cases hi : i < acc.size
 ·have e : acc[i]? = some acc[i] := zq52x hi
  rw [zq48x, e, h.2 i _ e]
 ·have := h.1
  rw [zq61x (by simp; omega), zq61x (by omega)]
theorem collect_set {Q : List Value -> Shared -> Prop} (hh : A.handled = none) (hb : es.size < scanBound) (g1 : s.heap.get? a = some o) (g2 : o.ExactSet) (g3 : o.data = .set es ep t) (g4 : t.fits es.size = true) (tk : TOk (byText w) t)
  (hQ : ∀ h' d' tk' items, (∀ b o, s.heap.get? b = some o -> h'.get? b = some o) -> s.heap.objs.size <= h'.objs.size -> items.Perm (es.toList.map (·.2)) -> Q items { s with heap := h', drawn := d', toks := tk' }) : wpAny (model prog w) A (collect (.ref a)) Q E s := by
 have hlt := zq3x g1
 unfold collect
 refine wpAny_bind (wpAny_runValue (codeAny_builtin PySem.F.entry_proto_collect ?_))
 rw [zq94x PySem.F.plain_proto_collect _]
 show wpAny _ A.in1 (newList [] >>= fun l => again (.builtin "list.__iadd__" ⟨[l, .ref a], []⟩)) _ _ s
 refine wpAny_bind (wpAny_newObj_type ?_)
 refine wpAny_pure ⟨plainId_quiet zq164x _, codeAny_builtin PySem.F.entry_list_iadd ?_⟩
 rw [zq94x zq164x _]
 have gL : (s.heap.push ({ cls := .type "list", data := .seq ([] : List Value).toArray } : Obj)).get? s.heap.objs.size = some { cls := .type "list", data := .seq ([] : List Value).toArray } := zq29x _ rfl
 have gA := zq9x ({ cls := .type "list", data := .seq ([] : List Value).toArray } : Obj) g1
 have szL : (s.heap.push ({ cls := .type "list", data := .seq ([] : List Value).toArray } : Obj)).objs.size = s.heap.objs.size + 1 := zq78x ..
 show wpAny _ A.in1 (Builtin.List.listExtendWith (.ref s.heap.objs.size) (.ref a) (.ref s.heap.objs.size)) _ _ { s with heap := s.heap.push ({ cls := .type "list", data := .seq ([] : List Value).toArray } : Obj) }
 have hkeep : ∀ b o, s.heap.get? b = some o -> (s.heap.push ({ cls := .type "list", data := .seq ([] : List Value).toArray } : Obj)).get? b = some o := fun b o e => zq9x _ e
 generalize s.heap.push ({ cls := .type "list", data := .seq ([] : List Value).toArray } : Obj) = h1 at gL gA szL hkeep ⊢
 unfold Builtin.List.listExtendWith
 refine wpAny_bind (wpAny_typeOf (T := "set") ⟨o, gA, g2.1⟩ ?_)
 have n1 : Builtin.List.listSameRef (.ref s.heap.objs.size) (.ref a) = false := by
  show (s.heap.objs.size == a) = false
  exact beq_eq_false_iff_ne.mpr (zq104x hlt)
 have n2 : (Value.type "set" == Value.type "list") = false := by decide
 have n3 : (Value.type "set" == Value.type "tuple") = false := by decide
 simp only [n1, n2, n3, zq77x, zq55x, if_false]
 refine wpAny_bind (iter_G (s := { s with heap := h1 }) hb gA g2 g3 g4 tk fun I h2 d' items fp St k1 k2 k3 k4 k5 pp W st => ?_)
 have gA2 := k1 _ _ gA
 have gL2 := k1 _ _ gL
 refine wpAny_bind (wpAny_holding (hint_set (s := { s with heap := h2, drawn := d' }) ⟨o, gA2, g2.1⟩ ?_))
 have lS : s.heap.objs.size < h1.objs.size := zq135x (zq95x _) szL.symm
 have nS : s.heap.objs.size ∉ fp := fun m => by
  rcases k3 _ m with e | e
  ·exact absurd e (zq104x hlt)
  ·exact absurd (zq17x lS e) (zq40x _)
 have hil : items.length <= sizeLine := by
  rw [pp.length_eq, zq0x, zq34x]; exact fits_of_scanBound hb
 have key : ∀ (h3 : Heap) (c : Nat), St 0 h3 -> (∀ b o, b ≠ s.heap.objs.size -> h2.get? b = some o -> h3.get? b = some o) -> h3.get? s.heap.objs.size = some { cls := .type "list", data := .seq #[] c } ->
   codeAny (model prog w) A (.builtin "list.extend.loop" ⟨[.ref s.heap.objs.size, .ref I, .ref s.heap.objs.size], []⟩) (fun r s' => match r with
    | .ok (.ret v) => wpAny (model prog w) A (match v with | .ref x => (do match (<- load x).data with | .seq xs _ => pure xs.toList | _ => unsupported "internal:collect") | _ => unsupported "internal:collect") Q E s'
    | .ok _ => False
    | .error e => E e s') { s with heap := h3, drawn := d' } := by
  intro h3 c st3 q1 q2
  refine codeAny_extend_loopS ((W A.in1 hh).toS) hil _ nS _ items.length 0 _ #[] c rfl (zq36x _) st3 q2 (ItemsOf.nil _) fun s' acc c' mo q3 q4 => ?_
  refine wpAny_bind (wpAny_load q3 (wpAny_pure ?_))
  rw [items_eq q4, Moved.eq_with mo]
  refine hQ s'.heap d' s'.toks items (fun b o e => ?_) ?_ pp
  ·have nb : b ≠ s.heap.objs.size := zq22x (zq3x e)
   refine mo.heap b o (fun m => ?_) (q1 b o nb (k1 b o (hkeep b o e)))
   rcases zq4x.mp m with z | z
   ·exact nb z
   ·have z := zq10x.mp z
    rw [z] at e
    exact absurd (zq17x (zq110x (zq3x e) lS) k2) (zq40x _)
  ·exact zq66x (zq3x q3)
 refine wpAny_ite_split (fun _ => ?_) fun _ => wpAny_pure ⟨plainId_quiet zq165x _, key h2 _ st (fun _ _ _ e => e) gL2⟩
 refine wpAny_bind (wpAny_rule (wpAny_bind ?_))
 show wpAny _ A.in1 (updateSeq s.heap.objs.size (·.push .none) >>= fun _ => updateSeq s.heap.objs.size (·.pop)) _ _ _
 have u1 := zq107x (Obj.mapSeq (·.push Value.none)) gL2 rfl
 have u2 := zq107x (Obj.mapSeq (·.pop)) u1 rfl
 refine wpAny_bind (wpAny_updateSeq gL2 rfl (wpAny_updateSeq (hz := by seq_fits) u1 rfl ?_))
 have oth : ∀ b o, b ≠ s.heap.objs.size -> h2.get? b = some o -> ((h2.update s.heap.objs.size (Obj.mapSeq (·.push Value.none))).update s.heap.objs.size (Obj.mapSeq (·.pop))).get? b = some o := fun b o nb e => (zq50x _ _ (zq18x nb)).trans ((zq50x _ _ (zq18x nb)).trans e)
 exact wpAny_pure ⟨plainId_quiet zq165x _, key _ _ ((W A.in1 hh).frame 0 _ _ st fun b m o e => oth b o (fun z => nS (z ▸ m)) e) oth u2⟩
theorem ints_all {ks : List Int -> Prop} : ∀ {vs : List Value}, (∀ v ∈ vs, ∃ k t, v = .int k t) -> ∃ ns, IntsAre vs ns
  | [], _ => ⟨[], .nil⟩
  | v :: vs, h => by
    obtain ⟨k, t, rfl⟩ := h v (zq14x ..)
    obtain ⟨ns, hn⟩ := ints_all (ks := ks) fun v m => h v (zq20x _ m)
    exact ⟨k :: ns, .cons k t hn⟩
theorem ints_mem : ∀ {vs : List Value} {ns : List Int}, IntsAre vs ns -> ∀ k, k ∈ ns ↔ ∃ t, .int k t ∈ vs
  | _, _, .nil, k => by simp
  | _, _, .cons j t h, k => by
    rw [zq4x, ints_mem h k]
    constructor
    · rintro (rfl | ⟨t', m⟩)
      · exact ⟨_, zq14x ..⟩
      · exact ⟨t', zq20x _ m⟩
    · rintro ⟨t', m⟩
      rcases zq4x.mp m with e | m
      · cases e; exact .inl rfl
      · exact .inr ⟨t', m⟩
end
end L2
set_option maxRecDepth 100000
set_option maxHeartbeats 4000000
namespace L2
open PySem PySem.Spec PyProof.Rows
def SetX (P : Program) (w : World) (a : Addr) (S : Int -> Bool) (n : Nat) : HO := .ext fun h => h.SetOf (IK P w) a S n /\ TAt (byText w) h a
theorem Inv.dr {X : Cx} {pins : List (Addr × Obj)} {σ : St} {H : Hp} {s : Shared} (I : Inv X pins σ H s) (d : Drawn) : Inv X pins σ H { s with drawn := d } :=
 ⟨I.ok, I.os, I.bare, I.base, I.loc, I.cell, I.free, I.freeC, I.pin, I.hok, I.len⟩
theorem vals_intsA : ∀ {ns : List Int} {us : List Value}, Vals (ns.map V.int) us -> IntsAre us ns
  | [], _, .nil => .nil
  | n :: ns, _, .cons r t => by
    obtain ⟨k, rfl⟩ := r
    exact .cons n k (vals_intsA t)
theorem ints_vals : ∀ {us : List Value} {ns : List Int}, IntsAre us ns -> Vals (ns.map V.int) us
 | _, _, .nil => .nil
 | _, _, .cons k t h => .cons ⟨t, rfl⟩ (ints_vals h)
theorem nodup_step {σ : List Int} {k : Int} (h : σ.Nodup) : (step_dedup σ k).Nodup := by
 unfold step_dedup
 split
 ·exact h
 ·rename_i q
  rw [List.nodup_append]
  refine ⟨h, by simp, fun x hx y hy => ?_⟩
  rw [zq10x.mp hy]
  intro e
  subst e
  exact q (by simp [hx])
theorem firstMet_nodup (val : Nat -> Int) : ∀ i, (firstMet val i).Nodup
 | 0 => List.nodup_nil
 | i + 1 => by rw [firstMet_succ]; exact nodup_step (firstMet_nodup val i)
theorem perm_of_sub : ∀ {ds ns : List Int}, ds.Nodup -> (∀ k ∈ ds, k ∈ ns) -> ns.length <= ds.length -> ds.Perm ns
  | [], ns, _, _, hl => by
    have : ns = [] := zq74x.mp (by simpa using hl)
    rw [this]
  | d :: ds, ns, hd, hs, hl => by
    have hm := hs d (zq14x ..)
    obtain ⟨h1, h2⟩ := zq33x.mp hd
    have hp := List.perm_cons_erase hm
    refine (List.Perm.cons d (perm_of_sub h2 (fun k hk => ?_) ?_)).trans hp.symm
    · rcases zq4x.mp (hp.mem_iff.mp (hs k (zq20x _ hk))) with e | e
      · subst e; exact absurd hk h1
      · exact e
    · have := hp.length_eq; simp at this hl ⊢; omega
def rSetOf (P : Program) (w : World) (K : PySem.W.Frag) : List V -> Hp -> VK -> Prop := fun xs H Q => ∃ p, ∃ ns : List Int, xs = [.ref p] /\ SqL K H p (ns.map V.int) /\ ns.length <= 4000 /\ ∀ a (ms : List Int), H a = none -> ms.Nodup -> (∀ k, k ∈ ms ↔ k ∈ ns) -> Q (.ref a) (upd H a (SetX P w a (fun k => ms.any (· == k)) ms.length))
section
variable {X : Cx}
theorem call_setM (hc : X.calm = true) : CallR X (.type "set") (rSetOf X.prog X.w X.K) := by
 intro pins s σ H xs us Q I rv h
 obtain ⟨p, ns, rfl, hp, hn, q⟩ := h
 obtain ⟨u, rfl, ru⟩ := vals1 rv
 cases ru
 obtain ⟨its, rs, il, hz⟩ := I.list hp
 have hI := vals_intsA rs
 have hlen := hI.length
 refine callset_G (I.ok.hd hc) il.isList (by simpa using hI) (by rw [zq16x]; unfold scanBound; omega) fun h' tk q1 q2 q3 => ?_
 have hmem : ∀ k, k ∈ firstMet (fun i => ns.getD i 0) its.toArray.size ↔ k ∈ ns := fun k => by
  have e := firstMet_any (fun i => ns.getD i 0) its.toArray.size k
  have e2 : (List.range its.toArray.size).map (fun i => ns.getD i 0) = ns := by
   rw [zq16x, hlen]
   apply List.ext_getElem
   ·simp
   ·intro i h1 h2
    simp [zq89x, zq5x h2]
  rw [e2] at e
  have a1 : ∀ (l : List Int), (l.any (· == k)) = true ↔ k ∈ l := fun l => by
   rw [zq136x]
   exact ⟨fun ⟨x, m, z⟩ => (beq_iff_eq.mp z) ▸ m, fun m => ⟨k, m, beq_self_eq_true _⟩⟩
  rw [<- a1, <- a1, e]
 have kp : ∀ b u, s.heap.get? b = some u -> h'.get? b = some u := fun b u e => q3 b u (zq3x e) e
 have new : ObjOk X.prog X.w (upd H s.heap.objs.size (SetX X.prog X.w s.heap.objs.size (fun k => (firstMet (fun i => ns.getD i 0) its.toArray.size).any (· == k)) (firstMet (fun i => ns.getD i 0) its.toArray.size).length)) h' s.heap.objs.size (SetX X.prog X.w s.heap.objs.size (fun k => (firstMet (fun i => ns.getD i 0) its.toArray.size).any (· == k)) (firstMet (fun i => ns.getD i 0) its.toArray.size).length) := by
  refine ⟨⟨q1, q2⟩, ?_, fun h1 h2 z k => ?_⟩
  ·obtain ⟨o, _, _, _, ho, _⟩ := q1; exact ⟨o, ho⟩
  ·obtain ⟨⟨o, es, ep, t, ho, r⟩, tt⟩ := z
   exact ⟨⟨o, es, ep, t, k o ho, r⟩, tt.keep ho (k o ho)⟩
 exact ⟨.ref s.heap.objs.size, _, I.laid (t' := tk) kp (zq1x _) new, rfl, q _ _ (I.hok.fresh (zq1x _)) (firstMet_nodup _ _) hmem⟩
end
end L2
set_option maxRecDepth 100000
set_option maxHeartbeats 4000000
namespace L2
open PySem PySem.Spec PyProof.Rows
def gallop' : Bool -> Keyed -> Array Keyed -> Nat -> Nat -> Nat -> StateT SortSt Sem (Option Nat) := sortPriv% PySem.Builtin.gallop
def mergeLo' : Array Keyed -> Array Keyed -> StateT SortSt Sem (Array Keyed) := sortPriv% PySem.Builtin.mergeLo
def mergeHi' : Array Keyed -> Array Keyed -> StateT SortSt Sem (Array Keyed) := sortPriv% PySem.Builtin.mergeHi
def setMin' : Nat -> StateT SortSt Sem Unit := sortPriv% PySem.Builtin.setMinGallop
def bey (left : Bool) (key : Keyed) (arr : Array Keyed) (base : Nat) (i : Nat) : StateT SortSt Sem (Option Bool) := do
 let x <- elem' arr (base + i)
 if left then lt' x key else return (<- lt' key x).map (!·)
theorem gallop'_eq (left : Bool) (key : Keyed) (arr : Array Keyed) (base n hint : Nat) : gallop' left key arr base n hint = (do
 let mut lastofs := 0
 let mut ofs := 1
 let mut lo := 0
 let mut hi := 0
 let some right <- bey left key arr base hint | return none
 if right then
  let maxofs := n - hint
  for _ in [0:n] do
   if ofs ≥ maxofs then break
   let some more <- bey left key arr base (hint + ofs) | return none
   if !more then break
   lastofs := ofs
   ofs := 2 * ofs + 1
  lo := hint + lastofs + 1
  hi := hint + min ofs maxofs
 else
  let maxofs := hint + 1
  for _ in [0:n] do
   if ofs ≥ maxofs then break
   let some found <- bey left key arr base (hint - ofs) | return none
   if found then break
   lastofs := ofs
   ofs := 2 * ofs + 1
  lo := hint + 1 - min ofs maxofs
  hi := hint - lastofs
 for _ in [0:n] do
  if lo ≥ hi then break
  let m := lo + (hi - lo) / 2
  let some more <- bey left key arr base m | return none
  if more then lo := m + 1 else hi := m
 return some hi) := rfl
theorem setMin'_eq (g : Nat) : setMin' g = modify fun s => SortSt.mk' (kindOf s) (arrOf s) (pendingOf s) g (failedOf s) := rfl
theorem mergeLo'_eq (a b : Array Keyed) : mergeLo' a b = (do
 rule "list.sort.merge-lo"
 let total := a.size + b.size
 let done (out : Array Keyed) (ia ib : Nat) := out ++ a.extract ia a.size ++ b.extract ib b.size
 let lastOfA (out : Array Keyed) (ia ib : Nat) := out ++ b.extract ib b.size ++ a.extract ia a.size
 let mut out : Array Keyed := #[<- elem' b 0]
 let mut ia := 0
 let mut ib := 1
 if ib == b.size then return done out ia ib
 if ia + 1 == a.size then return lastOfA out ia ib
 let mut minGallop := gallopOf (<- get)
 for _ in [0:total] do
  let mut acount := 0
  let mut bcount := 0
  for _ in [0:total] do
   let some bWins <- lt' (<- elem' b ib) (<- elem' a ia) | return done out ia ib
   if bWins then
    out := out.push (<- elem' b ib); ib := ib + 1; bcount := bcount + 1; acount := 0
    if ib == b.size then return done out ia ib
    if bcount ≥ minGallop then break
   else
    out := out.push (<- elem' a ia); ia := ia + 1; acount := acount + 1; bcount := 0
    if ia + 1 == a.size then return lastOfA out ia ib
    if acount ≥ minGallop then break
  rule "list.sort.gallop"
  minGallop := minGallop + 1
  for _ in [0:total] do
   if minGallop > 1 then minGallop := minGallop - 1
   setMin' minGallop
   let some k <- gallop' false (<- elem' b ib) a ia (a.size - ia) 0 | return done out ia ib
   acount := k
   if k > 0 then
    out := out ++ a.extract ia (ia + k); ia := ia + k
    if ia + 1 == a.size then return lastOfA out ia ib
    if ia == a.size then return done out ia ib
   out := out.push (<- elem' b ib); ib := ib + 1
   if ib == b.size then return done out ia ib
   let some k <- gallop' true (<- elem' a ia) b ib (b.size - ib) 0 | return done out ia ib
   bcount := k
   if k > 0 then
    out := out ++ b.extract ib (ib + k); ib := ib + k
    if ib == b.size then return done out ia ib
   out := out.push (<- elem' a ia); ia := ia + 1
   if ia + 1 == a.size then return lastOfA out ia ib
   if acount < 7 && bcount < 7 then break
  minGallop := minGallop + 1
  setMin' minGallop
 unsupported "internal:list.sort.merge-bound") := rfl
def IsKd (x : Keyed) : Prop := ∃ n t, x.1 = .int n t
def AllKd (xs : Array Keyed) : Prop := ∀ (i : Nat) (x : Keyed), xs[i]? = some x -> IsKd x
section
variable {prog : Program} {w : World} {A : Around} {E : Value -> Shared -> Prop} {s : Shared} {st : SortSt}
theorem wpS_ltP {x y : Keyed} {Q : Option Bool -> SortSt -> Prop} (hk : kindOf st = oneType') (hx : IsKd x) (hy : IsKd y) (h : ∀ b, Q (some b) st) : wpS (model prog w) A E s (lt' x y) Q st := by
 obtain ⟨n, t, e1⟩ := hx
 obtain ⟨m, u, e2⟩ := hy
 rw [lt'_eq]
 refine wpS_bind (wpS_get ?_)
 rw [hk, keyLt'_oneType, e1, e2]
 refine wpS_bind (wpS_lift (wpAny_attempt (oneLt_int ⟨rfl, ?_⟩)))
 exact wpS_pure (h _)
theorem wpS_elem {arr : Array Keyed} {i : Nat} {Q : Keyed -> SortSt -> Prop} (hi : i < arr.size) (h : Q arr[i] st) : wpS (model prog w) A E s (elem' arr i) Q st := by
 rw [elem'_eq, getElem?_pos arr i hi]
 exact wpS_pure h
theorem AllKd.at {arr : Array Keyed} (h : AllKd arr) {i : Nat} (hi : i < arr.size) : IsKd arr[i] := h i _ (getElem?_pos arr i hi)
theorem wpS_bey {left : Bool} {key : Keyed} {arr : Array Keyed} {base i : Nat} {Q : Option Bool -> SortSt -> Prop} (hk : kindOf st = oneType') (hy : IsKd key) (ha : AllKd arr) (hi : base + i < arr.size) (h : ∀ b, Q (some b) st) : wpS (model prog w) A E s (bey left key arr base i) Q st := by
  unfold bey
  refine wpS_bind (wpS_elem hi ?_)
  cases left with
  | true => simp only [if_true]; exact wpS_ltP hk (ha.at hi) hy h
  | false =>
    simp only [zq55x, if_false]
    exact wpS_bind (wpS_ltP hk hy (ha.at hi) fun b => wpS_pure (h _))
theorem wpS_galEnd {left : Bool} {key : Keyed} {arr : Array Keyed} {base n lo hi : Nat} {Q : Option (Option Nat) × Nat × Nat -> SortSt -> Prop} (hk : kindOf st = oneType') (hy : IsKd key) (ha : AllKd arr) (hb : base + n <= arr.size) (hn : hi <= n) (h : ∀ l k, k <= n -> Q (none, l, k) st) :
    wpS (model prog w) A E s (forIn [0:n] ((none, lo, hi) : Option (Option Nat) × Nat × Nat) fun x __s =>
                if __s.snd.fst ≥ __s.snd.snd then pure (ForInStep.done (none, __s.snd.fst, __s.snd.snd))
                else do
                  let __x <- bey left key arr base (__s.snd.fst + (__s.snd.snd - __s.snd.fst) / 2)
                  match __x with
                    | some more =>
                      if more = true then
                        pure (ForInStep.yield (none, __s.snd.fst + (__s.snd.snd - __s.snd.fst) / 2 + 1, __s.snd.snd))
                      else pure (ForInStep.yield (none, __s.snd.fst, __s.snd.fst + (__s.snd.snd - __s.snd.fst) / 2))
                    | _ => pure (ForInStep.done (some none, __s.snd.fst, __s.snd.snd))) Q st := by
  refine wpS_forRange (I := fun x c st' => st' = st /\ ∃ l k, c = (none, l, k) /\ k <= n) ?_ ?_ ⟨rfl, lo, hi, rfl, hn⟩
  · rintro x c st' _ hx ⟨rfl, l, k, rfl, hkn⟩
    dsimp only
    by_cases hge : l ≥ k
    · rw [if_pos hge]; exact wpS_pure (h l k hkn)
    · rw [if_neg hge]
      refine wpS_bind (wpS_bey hk hy ha (by omega) fun b => ?_)
      cases b with
      | true => exact wpS_pure ⟨rfl, _, _, rfl, hkn⟩
      | false => exact wpS_pure ⟨rfl, _, _, rfl, by omega⟩
  · rintro c st' ⟨rfl, l, k, rfl, hkn⟩
    exact h l k hkn
theorem wpS_gallop {left : Bool} {key : Keyed} {arr : Array Keyed} {base n hint : Nat} {Q : Option Nat -> SortSt -> Prop} (hk : kindOf st = oneType') (hy : IsKd key) (ha : AllKd arr) (hb : base + n <= arr.size) (hh : hint < n) (h : ∀ k, k <= n -> Q (some k) st) : wpS (model prog w) A E s (gallop' left key arr base n hint) Q st := by
  rw [gallop'_eq]
  refine wpS_bind (wpS_bey hk hy ha (by omega) fun b => ?_)
  dsimp only
  cases b with
  | true =>
    simp only [if_true]
    refine wpS_bind (wpS_mono (wpS_forRange (I := fun x c st' => st' = st /\ ∃ l k, c = (none, l, k)) (Q := fun c st' => st' = st /\ ∃ l k, c = (none, l, k)) ?_ (fun c st' z => z) ⟨rfl, _, _, rfl⟩) ?_)
    · rintro x c st' _ hx ⟨rfl, l, k, rfl⟩
      dsimp only
      by_cases hge : k ≥ n - hint
      · rw [if_pos hge]; exact wpS_pure ⟨rfl, _, _, rfl⟩
      · rw [if_neg hge]
        refine wpS_bind (wpS_bey hk hy ha (by omega) fun b => ?_)
        cases b with
        | true => exact wpS_pure ⟨rfl, _, _, rfl⟩
        | false => exact wpS_pure ⟨rfl, _, _, rfl⟩
    · rintro c st' ⟨rfl, l, k, rfl⟩
      dsimp only
      exact wpS_bind (wpS_galEnd hk hy ha hb (by omega) fun l k hkn => wpS_pure (h k hkn))
  | false =>
    simp only [zq55x, if_false]
    refine wpS_bind (wpS_mono (wpS_forRange (I := fun x c st' => st' = st /\ ∃ l k, c = (none, l, k)) (Q := fun c st' => st' = st /\ ∃ l k, c = (none, l, k)) ?_ (fun c st' z => z) ⟨rfl, _, _, rfl⟩) ?_)
    · rintro x c st' _ hx ⟨rfl, l, k, rfl⟩
      dsimp only
      by_cases hge : k ≥ hint + 1
      · rw [if_pos hge]; exact wpS_pure ⟨rfl, _, _, rfl⟩
      · rw [if_neg hge]
        refine wpS_bind (wpS_bey hk hy ha (by omega) fun b => ?_)
        cases b with
        | true => exact wpS_pure ⟨rfl, _, _, rfl⟩
        | false => exact wpS_pure ⟨rfl, _, _, rfl⟩
    · rintro c st' ⟨rfl, l, k, rfl⟩
      dsimp only
      exact wpS_bind (wpS_galEnd hk hy ha hb (by omega) fun l k hkn => wpS_pure (h k hkn))
def SameS (st st' : SortSt) : Prop := kindOf st' = kindOf st /\ arrOf st' = arrOf st /\ pendingOf st' = pendingOf st /\ failedOf st' = failedOf st
theorem SameS.trans {s1 s2 s3 : SortSt} (h : SameS s1 s2) (g : SameS s2 s3) : SameS s1 s3 := ⟨g.1.trans h.1, g.2.1.trans h.2.1, g.2.2.1.trans h.2.2.1, g.2.2.2.trans h.2.2.2⟩
theorem SameS.refl (s1 : SortSt) : SameS s1 s1 := ⟨rfl, rfl, rfl, rfl⟩
def Mg (a b : Array Keyed) (i j : Nat) (out : Array Keyed) : Prop := out.toList.Perm (a.toList.take i ++ b.toList.take j)
theorem take_get {l : List Keyed} {i : Nat} (h : i < l.length) : l.take (i + 1) = l.take i ++ [l[i]] := by rw [List.take_succ, zq5x h]; rfl
theorem Mg.pushB {a b : Array Keyed} {i j : Nat} {out : Array Keyed} (h : Mg a b i j out) (hj : j < b.size) : Mg a b i (j + 1) (out.push b[j]) := by
 unfold Mg at *
 rw [zq53x, take_get (l := b.toList) (by simpa using hj), <- zq23x]
 exact h.append (by simp)
theorem Mg.pushA {a b : Array Keyed} {i j : Nat} {out : Array Keyed} (h : Mg a b i j out) (hi : i < a.size) : Mg a b (i + 1) j (out.push a[i]) := by
 unfold Mg at *
 rw [zq53x, take_get (l := a.toList) (by simpa using hi), zq23x]
 refine (h.append (zq137x [a[i]])).trans ?_
 rw [zq23x]
 refine zq54x _ ?_
 simpa using zq62x
theorem ext_list (a : Array Keyed) (i j : Nat) : (a.extract i j).toList = (a.toList.take j).drop i := by
 rw [Array.toList_extract, List.extract_eq_take_drop, List.drop_take]
theorem Mg.moreA {a b : Array Keyed} {i j k : Nat} {out : Array Keyed} (h : Mg a b i j out) : Mg a b (i + k) j (out ++ a.extract i (i + k)) := by
 unfold Mg at *
 rw [zq24x, ext_list]
 have e : a.toList.take (i + k) = a.toList.take i ++ (a.toList.take (i + k)).drop i := by
  have := (zq63x i (a.toList.take (i + k))).symm
  rwa [List.take_take, Nat.min_eq_left (by omega)] at this
 generalize (a.toList.take (i + k)).drop i = z at e ⊢
 rw [e]
 refine (h.append_right z).trans ?_
 rw [zq23x, zq23x]
 exact zq54x _ zq62x
theorem Mg.moreB {a b : Array Keyed} {i j k : Nat} {out : Array Keyed} (h : Mg a b i j out) : Mg a b i (j + k) (out ++ b.extract j (j + k)) := by
 unfold Mg at *
 rw [zq24x, ext_list]
 have e : b.toList.take (j + k) = b.toList.take j ++ (b.toList.take (j + k)).drop j := by
  have := (zq63x j (b.toList.take (j + k))).symm
  rwa [List.take_take, Nat.min_eq_left (by omega)] at this
 generalize (b.toList.take (j + k)).drop j = z at e ⊢
 rw [e, <- zq23x]
 exact h.append_right _
theorem ext_end (a : Array Keyed) (i : Nat) : (a.extract i a.size).toList = a.toList.drop i := by
 rw [ext_list, zq90x (by simp)]
theorem Mg.done {a b : Array Keyed} {i j : Nat} {out : Array Keyed} (h : Mg a b i j out) : (out ++ a.extract i a.size ++ b.extract j b.size).toList.Perm (a.toList ++ b.toList) := by
 unfold Mg at h
 rw [zq24x, zq24x, ext_end, ext_end]
 have ea := (zq63x i a.toList).symm
 have eb := (zq63x j b.toList).symm
 rw [show a.toList ++ b.toList = (a.toList.take i ++ a.toList.drop i) ++ (b.toList.take j ++ b.toList.drop j) by rw [<- ea, <- eb]]
 refine ((h.append_right _).append_right _).trans ?_
 simp only [zq23x]
 refine zq54x _ ?_
 rw [<- zq23x, <- zq23x]
 exact zq138x _ zq62x
theorem Mg.last {a b : Array Keyed} {i j : Nat} {out : Array Keyed} (h : Mg a b i j out) : (out ++ b.extract j b.size ++ a.extract i a.size).toList.Perm (a.toList ++ b.toList) := by
 refine List.Perm.trans ?_ h.done
 rw [zq24x, zq24x, zq24x, zq24x, zq23x, zq23x]
 exact zq54x _ zq62x
theorem wpS_setMin {g : Nat} {Q : Unit -> SortSt -> Prop} (h : ∀ st', SameS st st' -> Q () st') : wpS (model prog w) A E s (setMin' g) Q st := by
 rw [setMin'_eq]
 exact wpS_modify (h _ ⟨rfl, rfl, rfl, rfl⟩)
theorem iteB {x y : Nat} {α : Type} {t e : StateT SortSt Sem α} {Q : α -> SortSt -> Prop} (h1 : x = y -> wpS (model prog w) A E s t Q st) (h2 : x ≠ y -> wpS (model prog w) A E s e Q st) : wpS (model prog w) A E s (if (x == y) = true then t else e) Q st := by
 by_cases c : x = y
 ·rw [if_pos (by simpa using c)]; exact h1 c
 ·rw [if_neg (by simpa using c)]; exact h2 c
theorem iteP {c : Prop} [Decidable c] {α : Type} {t e : StateT SortSt Sem α} {Q : α -> SortSt -> Prop} (h1 : c -> wpS (model prog w) A E s t Q st) (h2 : ¬ c -> wpS (model prog w) A E s e Q st) : wpS (model prog w) A E s (if c then t else e) Q st := by
 by_cases c : c
 ·rw [if_pos c]; exact h1 c
 ·rw [if_neg c]; exact h2 c
theorem iteX {c : Bool} {α : Type} {t e : StateT SortSt Sem α} {Q : α -> SortSt -> Prop} (h1 : wpS (model prog w) A E s t Q st) (h2 : wpS (model prog w) A E s e Q st) : wpS (model prog w) A E s (if c = true then t else e) Q st := by
 cases c
 ·exact h2
 ·exact h1
def LP (a b : Array Keyed) (st0 : SortSt) (B : Nat) (r : Option (Array Keyed)) (out : Array Keyed) (ia ib : Nat) (st' : SortSt) : Prop :=
 SameS st0 st' /\ (match r with | some z => z.toList.Perm (a.toList ++ b.toList) | none => Mg a b ia ib out /\ ia + 1 < a.size /\ ib < b.size /\ B <= ia + ib)
theorem LP.some {a b : Array Keyed} {st0 st' : SortSt} {B ia ib : Nat} {z out : Array Keyed} (S : SameS st0 st') (h : z.toList.Perm (a.toList ++ b.toList)) : LP a b st0 B (some z) out ia ib st' := ⟨S, h⟩
theorem LP.none {a b : Array Keyed} {st0 st' : SortSt} {B ia ib : Nat} {out : Array Keyed} (S : SameS st0 st') (m : Mg a b ia ib out) (h1 : ia + 1 < a.size) (h2 : ib < b.size) (h3 : B <= ia + ib) : LP a b st0 B none out ia ib st' := ⟨S, m, h1, h2, h3⟩
variable {st0 : SortSt}
theorem setMinS {g : Nat} {α : Type} {f : Unit -> StateT SortSt Sem α} {Q : α -> SortSt -> Prop} (S : SameS st0 st) (h : ∀ st', SameS st0 st' -> wpS (model prog w) A E s (f ()) Q st') : wpS (model prog w) A E s (setMin' g >>= f) Q st :=
 wpS_bind (wpS_setMin fun st' z => h st' (S.trans z))
theorem elemS {arr : Array Keyed} {i : Nat} {α : Type} {f : Keyed -> StateT SortSt Sem α} {Q : α -> SortSt -> Prop} (hi : i < arr.size) (h : wpS (model prog w) A E s (f arr[i]) Q st) : wpS (model prog w) A E s (elem' arr i >>= f) Q st := wpS_bind (wpS_elem hi h)
theorem ltS {x y : Keyed} {α : Type} {f : Option Bool -> StateT SortSt Sem α} {Q : α -> SortSt -> Prop} (hk : kindOf st0 = oneType') (S : SameS st0 st) (hx : IsKd x) (hy : IsKd y) (h : ∀ b, wpS (model prog w) A E s (f (some b)) Q st) : wpS (model prog w) A E s (lt' x y >>= f) Q st := wpS_bind (wpS_ltP (S.1.trans hk) hx hy h)
theorem galS {left : Bool} {key : Keyed} {arr : Array Keyed} {base n hint : Nat} {α : Type} {f : Option Nat -> StateT SortSt Sem α} {Q : α -> SortSt -> Prop} (hk : kindOf st0 = oneType') (S : SameS st0 st) (hy : IsKd key) (ha : AllKd arr) (hb : base + n <= arr.size) (hh : hint < n) (h : ∀ k, k <= n -> wpS (model prog w) A E s (f (some k)) Q st) : wpS (model prog w) A E s (gallop' left key arr base n hint >>= f) Q st := wpS_bind (wpS_gallop (S.1.trans hk) hy ha hb hh h)
local macro_rules | `(tactic| walk_at "mg") => `(tactic| repeat (first | assumption | with_reducible refine Mg.pushB ?_ (by omega) | with_reducible refine Mg.pushA ?_ (by omega) | with_reducible refine Mg.moreA ?_ | with_reducible refine Mg.moreB ?_))
local macro_rules | `(tactic| walk_at "me") => `(tactic| (dsimp only; first
 | exact LP.some (by assumption) (Mg.done (by walk_at "mg"))
 | exact LP.some (by assumption) (Mg.last (by walk_at "mg"))
 | exact LP.none (by assumption) (by walk_at "mg") (by omega) (by omega) (by omega)
 | exact And.intro (by first | rfl | trivial) (LP.none (by assumption) (by walk_at "mg") (by omega) (by omega) (by omega))))
local macro_rules | `(tactic| walk_at "ms") => `(tactic| repeat' (first
 | with_reducible refine wpS_pure ?_
 | with_reducible refine iteB (fun _ => ?_) (fun _ => ?_)
 | with_reducible refine elemS (by omega) ?_
 | with_reducible refine ltS (by assumption) (by assumption) (AllKd.at (by assumption) _) (AllKd.at (by assumption) _) (fun _ => ?_)
 | with_reducible refine galS (by assumption) (by assumption) (AllKd.at (by assumption) _) (by assumption) (by omega) (by omega) (fun _ _ => ?_)
 | with_reducible refine setMinS (by assumption) (fun _ _ => ?_)
 | with_reducible refine iteX ?_ ?_
 | with_reducible refine iteP (fun _ => ?_) (fun _ => ?_)
 | walk_at "me"))
theorem wpS_mergeLo {a b : Array Keyed} {Q : Array Keyed -> SortSt -> Prop} (hk : kindOf st = oneType') (ha : AllKd a) (hb : AllKd b) (a0 : 0 < a.size) (b0 : 0 < b.size) (h : ∀ r st', SameS st st' -> r.toList.Perm (a.toList ++ b.toList) -> Q r st') : wpS (model prog w) A E s (mergeLo' a b) Q st := by
  rw [mergeLo'_eq]
  refine wpS_bind (wpS_lift (wpAny_rule ⟨rfl, ?_⟩))
  refine wpS_bind (wpS_elem b0 ?_)
  dsimp only
  have m0 : Mg a b 0 1 #[b[0]] := by unfold Mg; rw [take_get (l := b.toList) (by simpa using b0)]; simp
  refine iteB (fun c1 => wpS_pure (h _ _ (.refl _) m0.done)) (fun c1 => ?_)
  refine iteB (fun c2 => wpS_pure (h _ _ (.refl _) m0.last)) (fun c2 => ?_)
  refine wpS_bind (wpS_get ?_)
  refine wpS_bind (wpS_mono (wpS_forRange (I := fun x c st' => c.1 = none /\ LP a b st (x + 1) none c.2.1 c.2.2.1 c.2.2.2.1 st') (Q := fun c st' => SameS st st' /\ ∃ z, c.1 = some z /\ z.toList.Perm (a.toList ++ b.toList)) ?step ?fin ⟨rfl, .none (.refl _) m0 (by dsimp only; omega) (by dsimp only; omega) (by dsimp only; omega)⟩) ?post)
  case fin =>
    rintro c st' ⟨_, _, _, i1, i2, i3⟩
    omega
  case post =>
    rintro c st' ⟨S, z, e, hz⟩
    rw [e]
    exact wpS_pure (h z st' S hz)
  case step =>
    rintro x ⟨r, out, ia, ib, mn⟩ st' _ hx ⟨e, S, m, i1, i2, i3⟩
    dsimp only at e m i1 i2 i3
    subst e
    dsimp only
    refine wpS_bind (wpS_mono (wpS_forRange (I := fun y c st' => c.1 = none /\ LP a b st (x + 1 + y) none c.2.1 c.2.2.1 c.2.2.2.1 st') (Q := fun c st' => LP a b st (x + 2) c.1 c.2.1 c.2.2.1 c.2.2.2.1 st') ?step1 ?fin1 ⟨rfl, .none S m i1 i2 (by omega)⟩) ?post1)
    case fin1 =>
      rintro ⟨r, out, ia, ib, ac, bc⟩ st' ⟨e, S, m, i1, i2, i3⟩
      dsimp only at e m i1 i2 i3
      subst e
      exact .none S m i1 i2 (by omega)
    case step1 =>
      rintro y ⟨r, out, ia, ib, ac, bc⟩ st' _ hy ⟨e, S, m, i1, i2, i3⟩
      dsimp only at e m i1 i2 i3
      subst e
      dsimp only
      walk_at "ms"
    case post1 =>
      rintro ⟨r, out, ia, ib, ac, bc⟩ st' hL
      cases r with
      | some z => exact wpS_pure ⟨hL.1, z, rfl, hL.2⟩
      | none =>
        obtain ⟨S, m, i1, i2, i3⟩ := hL
        dsimp only at m i1 i2 i3
        dsimp only
        refine wpS_bind (wpS_lift (wpAny_rule ⟨rfl, ?_⟩))
        refine wpS_bind (wpS_mono (wpS_forRange (I := fun y c st' => c.1 = none /\ LP a b st (x + 2) none c.2.1 c.2.2.1 c.2.2.2.1 st') (Q := fun c st' => LP a b st (x + 2) c.1 c.2.1 c.2.2.1 c.2.2.2.1 st') ?step2 ?fin2 ⟨rfl, .none S m i1 i2 (by omega)⟩) ?post2)
        case fin2 =>
          rintro ⟨r, out, ia, ib, mn, ac, bc⟩ st' ⟨e, S, m, i1, i2, i3⟩
          dsimp only at e m i1 i2 i3
          subst e
          exact .none S m i1 i2 (by omega)
        case step2 =>
          rintro y ⟨r, out, ia, ib, mn, ac, bc⟩ st' _ hy ⟨e, S, m, i1, i2, i3⟩
          dsimp only at e m i1 i2 i3
          subst e
          dsimp only
          walk_at "ms"
        case post2 =>
          rintro ⟨r, out, ia, ib, mn, ac, bc⟩ st' hL
          cases r with
          | some z => exact wpS_pure ⟨hL.1, z, rfl, hL.2⟩
          | none =>
            obtain ⟨S, m, i1, i2, i3⟩ := hL
            dsimp only at m i1 i2 i3
            dsimp only
            exact setMinS S fun st' S' => wpS_pure ⟨rfl, .none S' m i1 i2 (by omega)⟩
end
end L2
set_option maxRecDepth 100000
set_option maxHeartbeats 4000000
namespace L2
open PySem PySem.Spec PyProof.Rows
section
variable {prog : Program} {w : World} {A : Around} {E : Value -> Shared -> Prop} {s : Shared} {st : SortSt} {st0 : SortSt}
theorem mergeHi'_eq (a b : Array Keyed) : mergeHi' a b = (do
 rule "list.sort.merge-hi"
 let total := a.size + b.size
 let done (out : Array Keyed) (na nb : Nat) := a.extract 0 na ++ b.extract 0 nb ++ out.reverse
 let firstOfB (out : Array Keyed) (na nb : Nat) := b.extract 0 nb ++ a.extract 0 na ++ out.reverse
 let mut na := a.size - 1
 let mut nb := b.size
 let mut out : Array Keyed := #[<- elem' a na]
 if na == 0 then return done out na nb
 if nb == 1 then return firstOfB out na nb
 let mut minGallop := gallopOf (<- get)
 for _ in [0:total] do
  let mut acount := 0
  let mut bcount := 0
  for _ in [0:total] do
   let some aWins <- lt' (<- elem' b (nb - 1)) (<- elem' a (na - 1)) | return done out na nb
   if aWins then
    na := na - 1; out := out.push (<- elem' a na); acount := acount + 1; bcount := 0
    if na == 0 then return done out na nb
    if acount ≥ minGallop then break
   else
    nb := nb - 1; out := out.push (<- elem' b nb); bcount := bcount + 1; acount := 0
    if nb == 1 then return firstOfB out na nb
    if bcount ≥ minGallop then break
  rule "list.sort.gallop"
  minGallop := minGallop + 1
  for _ in [0:total] do
   if minGallop > 1 then minGallop := minGallop - 1
   setMin' minGallop
   let some at_ <- gallop' false (<- elem' b (nb - 1)) a 0 na (na - 1) | return done out na nb
   let k := na - at_
   acount := k
   if k > 0 then
    out := out ++ (a.extract at_ na).reverse; na := at_
    if na == 0 then return done out na nb
   nb := nb - 1; out := out.push (<- elem' b nb)
   if nb == 1 then return firstOfB out na nb
   let some at_ <- gallop' true (<- elem' a (na - 1)) b 0 nb (nb - 1) | return done out na nb
   let k := nb - at_
   bcount := k
   if k > 0 then
    out := out ++ (b.extract at_ nb).reverse; nb := at_
    if nb == 1 then return firstOfB out na nb
    if nb == 0 then return done out na nb
   na := na - 1; out := out.push (<- elem' a na)
   if na == 0 then return done out na nb
   if acount < 7 && bcount < 7 then break
  minGallop := minGallop + 1
  setMin' minGallop
 unsupported "internal:list.sort.merge-bound") := rfl
def Mh (a b : Array Keyed) (i j : Nat) (out : Array Keyed) : Prop := out.toList.Perm (a.toList.drop i ++ b.toList.drop j)
theorem drop_get {l : List Keyed} {i : Nat} (h : i < l.length) : l.drop i = l[i] :: l.drop (i + 1) := zq113x h
theorem Mh.pushB {a b : Array Keyed} {i j : Nat} {out : Array Keyed} (h : Mh a b i j out) (hj : j - 1 < b.size) (h1 : 1 <= j) : Mh a b i (j - 1) (out.push b[j - 1]) := by
 unfold Mh at *
 rw [zq53x, drop_get (l := b.toList) (i := j - 1) (by simpa using hj), show j - 1 + 1 = j by omega]
 refine (h.append_right _).trans ?_
 rw [zq23x]
 refine zq54x _ ?_
 simp
theorem Mh.pushA {a b : Array Keyed} {i j : Nat} {out : Array Keyed} (h : Mh a b i j out) (hi : i - 1 < a.size) (h1 : 1 <= i) : Mh a b (i - 1) j (out.push a[i - 1]) := by
 unfold Mh at *
 rw [zq53x, drop_get (l := a.toList) (i := i - 1) (by simpa using hi), show i - 1 + 1 = i by omega]
 refine (h.append_right _).trans ?_
 refine zq62x.trans ?_
 simp
theorem Mh.pushB' {a b : Array Keyed} {i j : Nat} {out : Array Keyed} (h : Mh a b i (j + 1) out) (hj : j < b.size) : Mh a b i j (out.push b[j]) := Mh.pushB (j := j + 1) h hj (by omega)
theorem Mh.pushA' {a b : Array Keyed} {i j : Nat} {out : Array Keyed} (h : Mh a b (i + 1) j out) (hi : i < a.size) : Mh a b i j (out.push a[i]) := Mh.pushA (i := i + 1) h hi (by omega)
theorem drop_mid {l : List Keyed} {k i : Nat} (h : k <= i) : l.drop k = (l.take i).drop k ++ l.drop i := by
 have e := (zq63x i l).symm
 conv => lhs; rw [e]
 rw [List.drop_append]
 by_cases hl : k <= (l.take i).length
 ·rw [show k - (l.take i).length = 0 by omega]; rfl
 ·have : l.length <= k := by rw [zq49x] at hl; omega
  rw [zq139x (l := l) (i := i) (by omega)]; simp
theorem Mh.moreA {a b : Array Keyed} {i j k : Nat} {out : Array Keyed} (h : Mh a b i j out) (hk : k <= i) : Mh a b k j (out ++ (a.extract k i).reverse) := by
 unfold Mh at *
 rw [zq24x, zq140x, ext_list, drop_mid (l := a.toList) hk]
 refine (h.append (zq141x _)).trans ?_
 refine zq62x.trans ?_
 rw [zq23x]
theorem Mh.moreB {a b : Array Keyed} {i j k : Nat} {out : Array Keyed} (h : Mh a b i j out) (hk : k <= j) : Mh a b i k (out ++ (b.extract k j).reverse) := by
 unfold Mh at *
 rw [zq24x, zq140x, ext_list, drop_mid (l := b.toList) hk]
 refine (h.append (zq141x _)).trans ?_
 rw [zq23x]
 exact zq54x _ zq62x
theorem Mh.done {a b : Array Keyed} {i j : Nat} {out : Array Keyed} (h : Mh a b i j out) : (a.extract 0 i ++ b.extract 0 j ++ out.reverse).toList.Perm (a.toList ++ b.toList) := by
 unfold Mh at h
 rw [zq24x, zq24x, ext_list, ext_list, zq140x, zq97x, zq97x]
 have ea := (zq63x i a.toList).symm
 have eb := (zq63x j b.toList).symm
 rw [show a.toList ++ b.toList = (a.toList.take i ++ a.toList.drop i) ++ (b.toList.take j ++ b.toList.drop j) by rw [<- ea, <- eb]]
 refine (zq54x _ ((zq141x _).trans h)).trans ?_
 simp only [zq23x]
 refine zq54x _ ?_
 rw [<- zq23x, <- zq23x]
 exact zq138x _ zq62x
theorem Mh.first {a b : Array Keyed} {i j : Nat} {out : Array Keyed} (h : Mh a b i j out) : (b.extract 0 j ++ a.extract 0 i ++ out.reverse).toList.Perm (a.toList ++ b.toList) := by
 refine List.Perm.trans ?_ h.done
 rw [zq24x, zq24x, zq24x, zq24x]
 exact zq138x _ zq62x
def LH (a b : Array Keyed) (st0 : SortSt) (B : Nat) (r : Option (Array Keyed)) (out : Array Keyed) (ia ib : Nat) (st' : SortSt) : Prop :=
 SameS st0 st' /\ (match r with | some z => z.toList.Perm (a.toList ++ b.toList) | none => Mh a b ia ib out /\ 1 <= ia /\ ia <= a.size /\ 2 <= ib /\ ib <= b.size /\ B + ia + ib <= a.size + b.size)
theorem LH.some {a b : Array Keyed} {st0 st' : SortSt} {B ia ib : Nat} {z out : Array Keyed} (S : SameS st0 st') (h : z.toList.Perm (a.toList ++ b.toList)) : LH a b st0 B (some z) out ia ib st' := ⟨S, h⟩
theorem LH.none {a b : Array Keyed} {st0 st' : SortSt} {B ia ib : Nat} {out : Array Keyed} (S : SameS st0 st') (m : Mh a b ia ib out) (h1 : 1 <= ia /\ ia <= a.size /\ 2 <= ib /\ ib <= b.size /\ B + ia + ib <= a.size + b.size) : LH a b st0 B none out ia ib st' := ⟨S, m, h1⟩
local macro_rules | `(tactic| walk_at "hg") => `(tactic| repeat (first | assumption | with_reducible refine Mh.pushB ?_ (by omega) (by omega) | with_reducible refine Mh.pushA ?_ (by omega) (by omega) | with_reducible refine Mh.pushB' ?_ (by omega) | with_reducible refine Mh.pushA' ?_ (by omega) | with_reducible refine Mh.moreA ?_ (by omega) | with_reducible refine Mh.moreB ?_ (by omega)))
local macro_rules | `(tactic| walk_at "he") => `(tactic| (dsimp only; first
 | (with_reducible refine LH.some (by assumption) (Mh.done ?_); walk_at "hg"; done)
 | (with_reducible refine LH.some (by assumption) (Mh.first ?_); walk_at "hg"; done)
 | (with_reducible refine LH.none (by assumption) ?_ (And.intro ?_ (And.intro ?_ (And.intro ?_ (And.intro ?_ ?_)))); walk_at "hg"; all_goals omega)
 | (with_reducible refine And.intro rfl (LH.none (by assumption) ?_ (And.intro ?_ (And.intro ?_ (And.intro ?_ (And.intro ?_ ?_))))); walk_at "hg"; all_goals omega)))
local macro_rules | `(tactic| walk_at "hs") => `(tactic| repeat' (first
 | with_reducible refine wpS_pure ?_
 | with_reducible refine iteB (fun _ => ?_) (fun _ => ?_)
 | with_reducible refine elemS (by omega) ?_
 | with_reducible refine ltS (by assumption) (by assumption) (AllKd.at (by assumption) _) (AllKd.at (by assumption) _) (fun _ => ?_)
 | with_reducible refine galS (by assumption) (by assumption) (AllKd.at (by assumption) _) (by assumption) (by omega) (by omega) (fun _ _ => ?_)
 | with_reducible refine setMinS (by assumption) (fun _ _ => ?_)
 | with_reducible refine iteX ?_ ?_
 | with_reducible refine iteP (fun _ => ?_) (fun _ => ?_)
 | walk_at "he"))
local macro_rules | `(tactic| walk_at "h1") => `(tactic| repeat' (first
 | with_reducible refine wpS_pure ?_
 | with_reducible refine iteB (fun _ => ?_) (fun _ => ?_)
 | with_reducible refine elemS (by omega) ?_
 | with_reducible refine ltS (by assumption) (by assumption) (AllKd.at (by assumption) _) (AllKd.at (by assumption) _) (fun _ => ?_)
 | with_reducible refine galS (by assumption) (by assumption) (AllKd.at (by assumption) _) (by assumption) (by omega) (by omega) (fun _ _ => ?_)
 | with_reducible refine setMinS (by assumption) (fun _ _ => ?_)
 | with_reducible refine iteX ?_ ?_
 | with_reducible refine iteP (fun _ => ?_) (fun _ => ?_)))
theorem wpS_mergeHi {a b : Array Keyed} {Q : Array Keyed -> SortSt -> Prop} (hk : kindOf st = oneType') (ha : AllKd a) (hb : AllKd b) (a0 : 0 < a.size) (b0 : 0 < b.size) (h : ∀ r st', SameS st st' -> r.toList.Perm (a.toList ++ b.toList) -> Q r st') : wpS (model prog w) A E s (mergeHi' a b) Q st := by
  rw [mergeHi'_eq]
  refine wpS_bind (wpS_lift (wpAny_rule ⟨rfl, ?_⟩))
  refine wpS_bind (wpS_elem (i := a.size - 1) (by omega) ?_)
  dsimp only
  have m0 : Mh a b (a.size - 1) b.size #[a[a.size - 1]] := by
    unfold Mh
    rw [drop_get (l := a.toList) (i := a.size - 1) (by simp; omega), zq139x (l := a.toList) (by simp; omega), zq139x (l := b.toList) (by simp)]
    simp
  refine iteB (fun c1 => wpS_pure (h _ _ (.refl _) m0.done)) (fun c1 => ?_)
  refine iteB (fun c2 => wpS_pure (h _ _ (.refl _) m0.first)) (fun c2 => ?_)
  refine wpS_bind (wpS_get ?_)
  refine wpS_bind (wpS_mono (wpS_forRange (I := fun x c st' => c.1 = none /\ LH a b st (x + 1) none c.2.2.2.1 c.2.1 c.2.2.1 st') (Q := fun c st' => SameS st st' /\ ∃ z, c.1 = some z /\ z.toList.Perm (a.toList ++ b.toList)) ?step ?fin ⟨rfl, .none (.refl _) m0 (by dsimp only; omega)⟩) ?post)
  case fin =>
    rintro c st' ⟨_, _, _, i1, i2, i3, i4, i5⟩
    omega
  case post =>
    rintro c st' ⟨S, z, e, hz⟩
    rw [e]
    exact wpS_pure (h z st' S hz)
  case step =>
    rintro x ⟨r, ia, ib, out, mn⟩ st' _ hx ⟨e, S, m, i1, i2, i3, i4, i5⟩
    dsimp only at e m i1 i2 i3 i4 i5
    subst e
    dsimp only
    refine wpS_bind (wpS_mono (wpS_forRange (I := fun y c st' => c.1 = none /\ LH a b st (x + 1 + y) none c.2.2.2.1 c.2.1 c.2.2.1 st') (Q := fun c st' => LH a b st (x + 2) c.1 c.2.2.2.1 c.2.1 c.2.2.1 st') ?step1 ?fin1 ⟨rfl, .none S m (by dsimp only; omega)⟩) ?post1)
    case fin1 =>
      rintro ⟨r, ia, ib, out, ac, bc⟩ st' ⟨e, S, m, i1, i2, i3, i4, i5⟩
      dsimp only at e m i1 i2 i3 i4 i5
      subst e
      exact .none S m (by dsimp only; omega)
    case step1 =>
      clear S m i1 i2 i3 i4 i5 hx m0 c1 c2
      rintro y ⟨r, ia, ib, out, ac, bc⟩ st' _ hy ⟨e, S, m, i1, i2, i3, i4, i5⟩
      dsimp only at e m i1 i2 i3 i4 i5
      subst e
      dsimp only
      obtain ⟨p, rfl⟩ : ∃ p, ia = p + 1 := ⟨ia - 1, by omega⟩
      obtain ⟨q, rfl⟩ : ∃ q, ib = q + 1 + 1 := ⟨ib - 2, by omega⟩
      simp only [Nat.add_sub_cancel]
      walk_at "hs"
    case post1 =>
      rintro ⟨r, ia, ib, out, ac, bc⟩ st' hL
      cases r with
      | some z => exact wpS_pure ⟨hL.1, z, rfl, hL.2⟩
      | none =>
        obtain ⟨S, m, i1, i2, i3, i4, i5⟩ := hL
        dsimp only at m i1 i2 i3 i4 i5
        dsimp only
        refine wpS_bind (wpS_lift (wpAny_rule ⟨rfl, ?_⟩))
        refine wpS_bind (wpS_mono (wpS_forRange (I := fun y c st' => c.1 = none /\ LH a b st (x + 2) none c.2.2.2.1 c.2.1 c.2.2.1 st') (Q := fun c st' => LH a b st (x + 2) c.1 c.2.2.2.1 c.2.1 c.2.2.1 st') ?step2 ?fin2 ⟨rfl, .none S m (by dsimp only; omega)⟩) ?post2)
        case fin2 =>
          rintro ⟨r, ia, ib, out, mn, ac, bc⟩ st' ⟨e, S, m, i1, i2, i3, i4, i5⟩
          dsimp only at e m i1 i2 i3 i4 i5
          subst e
          exact .none S m (by dsimp only; omega)
        case step2 =>
          clear S m i1 i2 i3 i4 i5 hx m0 c1 c2
          rintro y ⟨r, ia, ib, out, mn, ac, bc⟩ st' _ hy ⟨e, S, m, i1, i2, i3, i4, i5⟩
          dsimp only at e m i1 i2 i3 i4 i5
          subst e
          dsimp only
          obtain ⟨p, rfl⟩ : ∃ p, ia = p + 1 := ⟨ia - 1, by omega⟩
          obtain ⟨q, rfl⟩ : ∃ q, ib = q + 1 + 1 := ⟨ib - 2, by omega⟩
          simp only [Nat.add_sub_cancel]
          walk_at "h1"
          all_goals walk_at "he"
        case post2 =>
          rintro ⟨r, ia, ib, out, mn, ac, bc⟩ st' hL
          cases r with
          | some z => exact wpS_pure ⟨hL.1, z, rfl, hL.2⟩
          | none =>
            obtain ⟨S, m, i1, i2, i3, i4, i5⟩ := hL
            dsimp only at m i1 i2 i3 i4 i5
            dsimp only
            exact setMinS S fun st' S' => wpS_pure ⟨rfl, .none S' m (by dsimp only; omega)⟩
end
end L2
set_option maxRecDepth 100000
set_option maxHeartbeats 4000000
namespace L2
open PySem PySem.Spec PyProof.Rows
theorem mergeAt'_eq (i : Nat) : mergeAt' i = (do
 let s <- get
 let (some (sa, na, power), some (sb, nb, _)) := ((pendingOf s)[i]?, (pendingOf s)[i + 1]?) | unsupported "internal:list.sort.pending"
 set (setPending s (((pendingOf s).setIfInBounds i (sa, na + nb, power)).eraseIdxIfInBounds (i + 1)))
 let some k <- gallop' false (<- elem' (arrOf s) sb) (arrOf s) sa na 0 | return false
 let (sa, na) := (sa + k, na - k)
 if na == 0 then return true
 let some nb <- gallop' true (<- elem' (arrOf s) (sa + na - 1)) (arrOf s) sb nb (nb - 1) | return false
 if nb == 0 then return true
 let x := (arrOf s).extract sa sb
 let y := (arrOf s).extract sb (sb + nb)
 let merged <- if na <= nb then mergeLo' x y else mergeHi' x y
 modify fun s => setArr s (merged.toList.zipIdx.foldl (fun a (p, j) => a.setIfInBounds (sa + j) p) (arrOf s))
 return (failedOf (<- get)).isNone) := rfl
def Ch : List (Nat × Nat × Nat) -> Nat -> Nat -> Prop
 | [], x, y => x = y
 | (s, n, _) :: r, x, y => s = x /\ 1 <= n /\ Ch r (x + n) y
theorem Ch.append : ∀ {l r : List (Nat × Nat × Nat)} {x z : Nat}, Ch (l ++ r) x z ↔ ∃ y, Ch l x y /\ Ch r y z
  | [], r, x, z => ⟨fun h => ⟨x, rfl, h⟩, fun ⟨y, e, h⟩ => by cases e; exact h⟩
  | (s, n, p) :: l, r, x, z => by
    show (s = x /\ 1 <= n /\ Ch (l ++ r) (x + n) z) ↔ ∃ y, (s = x /\ 1 <= n /\ Ch l (x + n) y) /\ Ch r y z
    rw [Ch.append]
    exact ⟨fun ⟨a, b, y, c, d⟩ => ⟨y, ⟨a, b, c⟩, d⟩, fun ⟨y, ⟨a, b, c⟩, d⟩ => ⟨a, b, y, c, d⟩⟩
theorem Ch.le : ∀ {l : List (Nat × Nat × Nat)} {x y : Nat}, Ch l x y -> x <= y
 | [], x, y, h => zq93x h
 | (s, n, p) :: l, x, y, ⟨a, b, c⟩ => by have := Ch.le c; omega
theorem Ch.two {l : List (Nat × Nat × Nat)} {lo i : Nat} {sa na pw sb nb pw2 : Nat} (h : Ch l 0 lo) (e1 : l[i]? = some (sa, na, pw)) (e2 : l[i + 1]? = some (sb, nb, pw2)) :
  sb = sa + na /\ 1 <= na /\ 1 <= nb /\ sb + nb <= lo /\ Ch ((l.set i (sa, na + nb, pw)).eraseIdx (i + 1)) 0 lo := by
 have hi : i < l.length := (zq8x.mp e1).1
 have hi2 : i + 1 < l.length := (zq8x.mp e2).1
 have g1 := (zq8x.mp e1).2
 have g2 := (zq8x.mp e2).2
 have el : l = l.take i ++ (sa, na, pw) :: (sb, nb, pw2) :: l.drop (i + 2) := by
  have := (zq63x i l).symm
  rwa [zq113x hi, zq113x hi2, g1, g2] at this
 have hl : (l.take i).length = i := by rw [zq49x]; omega
 generalize l.take i = A1 at *
 generalize l.drop (i + 2) = A2 at *
 subst el
 obtain ⟨y, c1, a1, a2, a3, a4, a5⟩ := Ch.append.mp h
 have := a5.le
 refine ⟨by omega, a2, a4, by omega, ?_⟩
 have e : ((A1 ++ (sa, na, pw) :: (sb, nb, pw2) :: A2).set i (sa, na + nb, pw)).eraseIdx (i + 1) = A1 ++ (sa, na + nb, pw) :: A2 := by
  rw [zq166x _ _ (by omega), hl, zq91x, List.set_cons_zero, List.eraseIdx_append_of_length_le (by omega), show i + 1 - A1.length = 1 by omega]
  rfl
 rw [e]
 exact Ch.append.mpr ⟨y, c1, a1, by omega, by rwa [<- Nat.add_assoc]⟩
theorem fold_set (sa : Nat) : ∀ (ms : List Keyed) (k : Nat) (arr : Array Keyed), sa + k + ms.length <= arr.size ->
    ((ms.zipIdx k).foldl (fun (a : Array Keyed) (pj : Keyed × Nat) => a.setIfInBounds (sa + pj.2) pj.1) arr).toList = arr.toList.take (sa + k) ++ ms ++ arr.toList.drop (sa + k + ms.length)
  | [], k, arr, h => by simp
  | m :: ms, k, arr, h => by
    rw [zq35x] at h
    rw [List.zipIdx_cons, List.foldl_cons, fold_set sa ms (k + 1) _ (by rw [Array.size_setIfInBounds]; omega)]
    have hs : (arr.setIfInBounds (sa + k) m).toList = arr.toList.set (sa + k) m := zq167x ..
    show List.take _ ((arr.setIfInBounds (sa + k) m).toList) ++ ms ++ List.drop _ ((arr.setIfInBounds (sa + k) m).toList) = _
    rw [hs]
    have h2 : sa + k < arr.toList.length := by simp; omega
    have e1 : (arr.toList.set (sa + k) m).take (sa + (k + 1)) = arr.toList.take (sa + k) ++ [m] := by
      rw [show sa + (k + 1) = sa + k + 1 by omega, List.take_succ, zq12x h2, List.take_set_of_le (zq1x _)]
      rfl
    have e2 : (arr.toList.set (sa + k) m).drop (sa + (k + 1) + ms.length) = arr.toList.drop (sa + k + (ms.length + 1)) := by
      rw [List.drop_set_of_lt (by omega), show sa + (k + 1) + ms.length = sa + k + (ms.length + 1) by omega]
    rw [e1, e2, zq35x]
    simp
theorem put_back {arr : Array Keyed} {merged : Array Keyed} {sa sb nb : Nat} (h1 : sa <= sb) (h2 : sb + nb <= arr.size) (hm : merged.toList.Perm ((arr.extract sa sb).toList ++ (arr.extract sb (sb + nb)).toList)) :
  (merged.toList.zipIdx.foldl (fun (a : Array Keyed) (pj : Keyed × Nat) => a.setIfInBounds (sa + pj.2) pj.1) arr).toList.Perm arr.toList := by
 have hl := hm.length_eq
 rw [zq26x, ext_list, ext_list, zq86x, zq86x, zq49x, zq49x, zq34x, zq34x] at hl
 have e := fold_set sa merged.toList 0 arr (by rw [zq34x]; omega)
 rw [zq34x, Nat.add_zero, show sa + merged.size = sb + nb by omega] at e
 rw [e]
 have e2 : arr.toList = arr.toList.take sa ++ ((arr.extract sa sb).toList ++ (arr.extract sb (sb + nb)).toList) ++ arr.toList.drop (sb + nb) := by
  rw [ext_list, ext_list]
  have a1 := drop_mid (l := arr.toList) (k := sb) (i := sb + nb) (by omega)
  have a2 := drop_mid (l := arr.toList) (k := sa) (i := sb) h1
  rw [zq23x, zq23x, <- a1, <- a2, zq63x]
 conv => rhs; rw [e2]
 exact (zq54x _ hm).append_right _
structure SI (a₀ : Array Keyed) (lo : Nat) (st : SortSt) : Prop where
 perm : (arrOf st).toList.Perm a₀.toList
 kind : kindOf st = oneType'
 failed : failedOf st = none
 ch : Ch (pendingOf st).toList 0 lo
theorem AllKd.perm {a b : Array Keyed} (h : AllKd a) (p : b.toList.Perm a.toList) : AllKd b := fun i x e => by
 have : x ∈ b.toList := by rw [zq105x]; exact zq142x e
 have : x ∈ a.toList := p.mem_iff.mp this
 obtain ⟨j, hj⟩ := zq81x this
 exact h j x (by rw [<- zq48x]; exact hj)
theorem AllKd.ext {a : Array Keyed} (h : AllKd a) (i j : Nat) : AllKd (a.extract i j) := fun k x e => by
 have : x ∈ (a.extract i j).toList := by rw [zq105x]; exact zq142x e
 rw [ext_list] at this
 have : x ∈ a.toList := zq143x (List.mem_of_mem_drop this)
 obtain ⟨j, hj⟩ := zq81x this
 exact h j x (by rw [<- zq48x]; exact hj)
theorem SI.size {a₀ : Array Keyed} {lo : Nat} {st : SortSt} (h : SI a₀ lo st) : (arrOf st).size = a₀.size := by have := h.perm.length_eq; simpa using this
section
variable {prog : Program} {w : World} {A : Around} {E : Value -> Shared -> Prop} {s : Shared} {st : SortSt} {a₀ : Array Keyed} {lo : Nat}
theorem wpS_set {st' : SortSt} {Q : PUnit -> SortSt -> Prop} (h : Q ⟨⟩ st') : wpS (model prog w) A E s (set st' : StateT SortSt Sem PUnit) Q st := by
 unfold wpS; rw [StateT.run_set]; exact wpAny_pure ⟨rfl, h⟩
theorem wpS_mergeAt {i : Nat} {Q : Bool -> SortSt -> Prop} (hA : AllKd a₀) (hI : SI a₀ lo st) (hlo : lo <= a₀.size) (hi : i + 1 < (pendingOf st).size) (h : ∀ st', SI a₀ lo st' -> (pendingOf st').size + 1 = (pendingOf st).size -> Q true st') : wpS (model prog w) A E s (mergeAt' i) Q st := by
 rw [mergeAt'_eq]
 refine wpS_bind (wpS_get ?_)
 obtain ⟨⟨sa, na, pw⟩, e1⟩ : ∃ v, (pendingOf st)[i]? = some v := ⟨_, getElem?_pos _ i (by omega)⟩
 obtain ⟨⟨sb, nb, pw2⟩, e2⟩ : ∃ v, (pendingOf st)[i + 1]? = some v := ⟨_, getElem?_pos _ (i + 1) hi⟩
 rw [e1, e2]
 dsimp only
 have hs := hI.size
 obtain ⟨b1, b2, b3, b4, b5⟩ := hI.ch.two (by rw [zq48x]; exact e1) (by rw [zq48x]; exact e2)
 have hAr := hA.perm hI.perm
 refine wpS_bind (wpS_set ?_)
 have hp2 : (((pendingOf st).setIfInBounds i (sa, na + nb, pw)).eraseIdxIfInBounds (i + 1)).toList = ((pendingOf st).toList.set i (sa, na + nb, pw)).eraseIdx (i + 1) := by
  rw [Array.toList_eraseIdxIfInBounds, zq167x]
 have hsz : (((pendingOf st).setIfInBounds i (sa, na + nb, pw)).eraseIdxIfInBounds (i + 1)).size + 1 = (pendingOf st).size := by
  rw [<- zq34x, hp2, zq133x (by rw [zq38x]; simpa using hi), zq38x, zq34x]
  omega
 have I2 : SI a₀ lo (setPending st (((pendingOf st).setIfInBounds i (sa, na + nb, pw)).eraseIdxIfInBounds (i + 1))) := ⟨hI.perm, hI.kind, hI.failed, by show Ch (((pendingOf st).setIfInBounds i (sa, na + nb, pw)).eraseIdxIfInBounds (i + 1)).toList 0 lo; rw [hp2]; exact b5⟩
 refine wpS_bind (wpS_elem (by omega) ?_)
 refine wpS_bind (wpS_gallop I2.kind (hAr.at _) hAr (by omega) (by omega) fun k hk => ?_)
 dsimp only
 refine iteB (fun c => wpS_pure (h _ I2 hsz)) (fun c => ?_)
 refine wpS_bind (wpS_elem (by omega) ?_)
 refine wpS_bind (wpS_gallop I2.kind (hAr.at _) hAr (by omega) (by omega) fun k2 hk2 => ?_)
 dsimp only
 refine iteB (fun c => wpS_pure (h _ I2 hsz)) (fun c2 => ?_)
 have fin : ∀ (r : Array Keyed) (st' : SortSt), SameS (setPending st (((pendingOf st).setIfInBounds i (sa, na + nb, pw)).eraseIdxIfInBounds (i + 1))) st' -> r.toList.Perm (((arrOf st).extract (sa + k) sb).toList ++ ((arrOf st).extract sb (sb + k2)).toList) ->
   wpS (model prog w) A E s (do modify fun s => setArr s (r.toList.zipIdx.foldl (fun a (p, j) => a.setIfInBounds (sa + k + j) p) (arrOf s)); return (failedOf (<- get)).isNone) Q st' := fun r st' S hr => by
  obtain ⟨q1, q2, q3, q4⟩ := S
  refine wpS_bind (wpS_modify (wpS_bind (wpS_get (wpS_pure ?_))))
  have hf : failedOf st' = none := q4.trans hI.failed
  show Q (failedOf st').isNone _
  rw [hf]
  refine h _ ⟨?_, q1.trans hI.kind, q4.trans hI.failed, ?_⟩ ?_
  ·have e : arrOf st' = arrOf st := q2
   show (r.toList.zipIdx.foldl (fun (a : Array Keyed) (pj : Keyed × Nat) => a.setIfInBounds (sa + k + pj.2) pj.1) (arrOf st')).toList.Perm a₀.toList
   rw [e]
   exact (put_back (by omega) (by omega) hr).trans hI.perm
  ·show Ch (pendingOf st').toList 0 lo
   rw [q3]; exact I2.ch
  ·show (pendingOf st').size + 1 = _
   rw [q3]; exact hsz
 refine iteP (fun c3 => wpS_bind ?_) (fun c3 => wpS_bind ?_)
 ·exact wpS_mergeLo I2.kind (hAr.ext _ _) (hAr.ext _ _) (by rw [zq72x]; omega) (by rw [zq72x]; omega) fin
 ·exact wpS_mergeHi I2.kind (hAr.ext _ _) (hAr.ext _ _) (by rw [zq72x]; omega) (by rw [zq72x]; omega) fin
theorem ltAtS {i j : Nat} {α : Type} {f : Option Bool -> StateT SortSt Sem α} {Q : α -> SortSt -> Prop} (hA : AllKd a₀) (hI : SI a₀ lo st) (hi : i < a₀.size) (hj : j < a₀.size) (h : ∀ b, wpS (model prog w) A E s (f (some b)) Q st) : wpS (model prog w) A E s (ltAt' i j >>= f) Q st := by
 have hs := hI.size
 have hAr := hA.perm hI.perm
 refine wpS_bind ?_
 rw [ltAt'_eq]
 refine wpS_bind (wpS_get ?_)
 refine wpS_bind (wpS_elem (by omega) (wpS_bind (wpS_elem (by omega) ?_)))
 exact wpS_ltP hI.kind (hAr.at _) (hAr.at _) h
theorem SI.arr {xs : Array Keyed} (hI : SI a₀ lo st) (hp : xs.Perm (arrOf st)) : SI a₀ lo (setArr st xs) := ⟨(Array.perm_iff_toList_perm.mp hp).trans hI.perm, hI.kind, hI.failed, hI.ch⟩
theorem revS {i j : Nat} {α : Type} {f : Unit -> StateT SortSt Sem α} {Q : α -> SortSt -> Prop} (hI : SI a₀ lo st) (h : ∀ st', SI a₀ lo st' -> pendingOf st' = pendingOf st -> wpS (model prog w) A E s (f ()) Q st') : wpS (model prog w) A E s (reverseSlice' i j >>= f) Q st := by
 refine wpS_bind ?_
 rw [reverseSlice'_eq]
 exact wpS_modify (h _ (hI.arr (mirror_perm _ _ _ _)) rfl)
theorem wpS_asc {at_ a nrem : Nat} {α : Type} {Q : Option (Option α) × Nat -> SortSt -> Prop} (hA : AllKd a₀) (hI : SI a₀ lo st) (hn : at_ + nrem <= a₀.size) (ha : 1 <= a) (han : a <= nrem) (h : ∀ n, a <= n -> n <= nrem -> Q (none, n) st) :
  wpS (model prog w) A E s (forIn [a:nrem] ((none, a) : Option (Option α) × Nat) fun _ __s => do
   let __x <- ltAt' (at_ + __s.snd) (at_ + __s.snd - 1)
   match __x with
   | some smaller => if smaller = true then pure (ForInStep.done (none, __s.snd)) else pure (ForInStep.yield (none, __s.snd + 1))
   | _ => pure (ForInStep.done (some none, __s.snd))) Q st := by
 refine wpS_forRange (I := fun x c st' => st' = st /\ c = (none, x)) ?_ ?_ ⟨rfl, rfl⟩
 ·rintro x c st' hax hxn ⟨rfl, rfl⟩
  dsimp only
  refine ltAtS hA hI (by omega) (by omega) fun b => ?_
  cases b
  ·exact wpS_pure ⟨rfl, rfl⟩
  ·exact wpS_pure (h x hax (by omega))
 ·rintro c st' ⟨rfl, rfl⟩
  rw [show max a nrem = nrem by omega]
  exact h nrem han (zq1x _)
theorem wpS_count {at_ nrem : Nat} {Q : Option Nat -> SortSt -> Prop} (hA : AllKd a₀) (hI : SI a₀ lo st) (hn : at_ + nrem <= a₀.size) (h1 : 1 <= nrem) (h : ∀ m st', SI a₀ lo st' -> pendingOf st' = pendingOf st -> 1 <= m -> m <= nrem -> Q (some m) st') : wpS (model prog w) A E s (countRun' at_ nrem) Q st := by
 rw [countRun'_eq]
 refine wpS_bind (wpS_asc hA hI hn (zq1x 1) h1 fun n n1 n2 => ?_)
 dsimp only
 refine iteB (fun c => wpS_pure (h n st hI rfl n1 n2)) (fun c => ?_)
 refine iteP (fun c2 => ltAtS hA hI (by omega) (by omega) fun b => iteX (wpS_pure (h n st hI rfl n1 n2)) (revS hI fun st1 I1 p1 => ?_)) (fun c2 => ?_)
 rotate_left
 have I1 := hI
 have p1 : pendingOf st = pendingOf st := rfl
 all_goals
  refine wpS_bind (wpS_lift (wpAny_rule ⟨rfl, ?_⟩))
  refine wpS_bind (wpS_mono (wpS_forRange (I := fun x c st' => SI a₀ lo st' /\ pendingOf st' = pendingOf st /\ ∃ q, c = (none, x, q)) (Q := fun c st' => SI a₀ lo st' /\ pendingOf st' = pendingOf st /\ ∃ x q, c = (none, x, q) /\ 1 <= x /\ x <= nrem) ?st ?fi ⟨I1, p1, 0, rfl⟩) ?po)
  case st =>
   rintro x c st' hx1 hx2 ⟨I2, p2, q, rfl⟩
   dsimp only
   refine ltAtS hA I2 (by omega) (by omega) fun b => iteX ?_ ?_
   ·refine iteP (fun _ => ?_) (fun _ => ?_)
    ·exact revS I2 fun st3 I3 p3 => wpS_pure ⟨I3, p3.trans p2, 0, rfl⟩
    ·exact wpS_pure ⟨I2, p2, 0, rfl⟩
   ·refine ltAtS hA I2 (by omega) (by omega) fun b => iteX ?_ ?_
    ·exact wpS_pure ⟨I2, p2, x, q, rfl, by omega, by omega⟩
    ·exact wpS_pure ⟨I2, p2, q + 1, rfl⟩
  case fi =>
   rintro c st' ⟨I2, p2, q, rfl⟩
   exact ⟨I2, p2, _, q, rfl, by omega, by omega⟩
  case po =>
   rintro c st' ⟨I2, p2, x, q, rfl, x1, x2⟩
   dsimp only
   refine iteP (fun _ => ?_) (fun _ => ?_)
   ·exact revS I2 fun st3 I3 p3 => revS I3 fun st4 I4 p4 => wpS_bind (wpS_asc hA I4 hn x1 x2 fun m m1 m2 => wpS_pure (h m st4 I4 (p4.trans (p3.trans p2)) (by omega) m2))
   ·exact revS I2 fun st4 I4 p4 => wpS_bind (wpS_asc hA I4 hn x1 x2 fun m m1 m2 => wpS_pure (h m st4 I4 (p4.trans p2) (by omega) m2))
theorem wpS_binary {at_ n ok : Nat} {Q : Bool -> SortSt -> Prop} (hA : AllKd a₀) (hI : SI a₀ lo st) (hn : at_ + n <= a₀.size) (h : ∀ st', SI a₀ lo st' -> pendingOf st' = pendingOf st -> Q true st') : wpS (model prog w) A E s (binarySort' at_ n ok) Q st := by
 rw [binarySort'_eq]
 refine wpS_bind (wpS_mono (wpS_forRange (I := fun k c st' => c = (none, ()) /\ SI a₀ lo st' /\ pendingOf st' = pendingOf st) (Q := fun c st' => c = (none, ()) /\ SI a₀ lo st' /\ pendingOf st' = pendingOf st) ?step (fun c st' z => z) ⟨rfl, hI, rfl⟩) ?post)
 case post =>
  rintro c st' ⟨rfl, I2, p2⟩
  exact wpS_pure (h st' I2 p2)
 case step =>
  rintro k c st' hk1 hk2 ⟨rfl, I2, p2⟩
  refine wpS_bind (wpS_mono (wpS_forRange (I := fun x c st'' => st'' = st' /\ ∃ l r, c = (none, l, r) /\ r <= k) (Q := fun c st'' => st'' = st' /\ ∃ l r, c = (none, l, r) /\ r <= k) ?is (fun c st' z => z) ⟨rfl, 0, k, rfl, zq1x _⟩) ?ip)
  case is =>
   rintro x c st'' _ hx ⟨rfl, l, r, rfl, hr⟩
   dsimp only
   refine iteP (fun c1 => wpS_pure ⟨rfl, l, r, rfl, hr⟩) (fun c1 => ?_)
   refine ltAtS hA I2 (by omega) (by omega) fun b => iteX ?_ ?_
   ·exact wpS_pure ⟨rfl, _, _, rfl, by omega⟩
   ·exact wpS_pure ⟨rfl, _, _, rfl, hr⟩
  case ip =>
   rintro c st'' ⟨rfl, l, r, rfl, hr⟩
   show wpS _ _ _ _ (do moveDown' (at_ + k) (at_ + l); pure (ForInStep.yield (none, ()))) _ _
   rw [moveDown'_eq]
   exact wpS_bind (wpS_modify (wpS_pure ⟨rfl, I2.arr (bubble_perm _ _ _), p2⟩))
theorem Ch.pw {f : Nat × Nat × Nat -> Nat × Nat × Nat} (hf : ∀ v, (f v).1 = v.1 /\ (f v).2.1 = v.2.1) {l : List (Nat × Nat × Nat)} {i x y : Nat} (h : Ch l x y) : Ch (l.modify i f) x y := by
  induction l generalizing i x with
  | nil => cases i <;> exact h
  | cons v l ih =>
    obtain ⟨s, n, p⟩ := v
    obtain ⟨a, b, c⟩ := h
    cases i with
    | zero =>
      have := hf (s, n, p)
      rw [List.modify_zero_cons]
      generalize f (s, n, p) = u at this
      obtain ⟨s2, n2, p2⟩ := u
      dsimp only at this
      exact ⟨this.1.trans a, by omega, by rw [this.2]; exact c⟩
    | succ i => rw [List.modify_succ_cons]; exact ⟨a, b, ih c⟩
theorem iteLe {c : Prop} [Decidable c] {a : Nat} : (if c then a - 1 else a) <= a := by split <;> omega
theorem wpS_sortAny {Q : Unit -> SortSt -> Prop} (hA : AllKd a₀) (hI : SI a₀ 0 st) (h : ∀ st', (arrOf st').toList.Perm a₀.toList -> failedOf st' = none -> Q () st') : wpS (model prog w) A E s sortRuns' Q st := by
  rw [sortRuns'_eq]
  refine wpS_bind (wpS_get ?_)
  dsimp only
  have hs := hI.size
  rw [hs]
  refine wpS_bind (wpS_mono (wpS_forRange (I := fun x c st' => ∃ l, c = (none, l) /\ SI a₀ l st' /\ l <= a₀.size /\ (x <= l \/ l = a₀.size)) (Q := fun c st' => c = (none, a₀.size) /\ SI a₀ a₀.size st') ?step ?fin ⟨0, rfl, hI, by omega, .inl (zq1x _)⟩) ?post)
  case fin =>
    rintro c st' ⟨l, rfl, I2, h1, h2⟩
    have : l = a₀.size := by omega
    subst this
    exact ⟨rfl, I2⟩
  case step =>
    rintro x c st' _ hx ⟨l, rfl, I2, h1, h2⟩
    dsimp only
    refine iteP (fun c1 => ?_) (fun c1 => ?_)
    · have : l = a₀.size := by omega
      subst this
      exact wpS_pure ⟨rfl, I2⟩
    refine wpS_bind (wpS_count hA I2 (by omega) (by omega) fun m st2 I3 p3 m1 m2 => ?_)
    dsimp only
    refine iteP (fun c2 => wpS_bind (wpS_lift (wpAny_rule ⟨rfl, wpS_bind (wpS_binary hA I3 (by omega) fun st3 I4 p4 => ?_)⟩))) (fun c2 => ?_)
    · simp only [zq96x, zq55x, if_false]
      have n1 : 1 <= min (a₀.size - l) (minRun' a₀.size a₀.size 0) := by omega
      have n2 : min (a₀.size - l) (minRun' a₀.size a₀.size 0) <= a₀.size - l := by omega
      generalize min (a₀.size - l) (minRun' a₀.size a₀.size 0) = n at n1 n2 ⊢
      refine wpS_bind (wpS_get ?_)
      cases hb : (pendingOf st3).back? with
      | none =>
        dsimp only
        refine wpS_bind (wpS_modify (wpS_pure ⟨l + n, rfl, ⟨I4.perm, I4.kind, I4.failed, ?_⟩, by omega, by omega⟩))
        show Ch ((pendingOf st3).push (l, n, 0)).toList 0 (l + n)
        rw [zq53x]
        exact Ch.append.mpr ⟨l, I4.ch, rfl, n1, rfl⟩
      | some v =>
        obtain ⟨s1, k1, pw1⟩ := v
        dsimp only
        generalize power' a₀.size (2 * s1 + k1) (2 * s1 + k1 + k1 + n) a₀.size = pw
        refine wpS_bind (wpS_mono (wpS_forRange (I := fun y c st' => c = (none, ()) /\ SI a₀ l st') (Q := fun c st' => c = (none, ()) /\ SI a₀ l st') ?is (fun c st' z => z) ⟨rfl, I4⟩) ?ip)
        case is =>
          rintro y c st'' _ _ ⟨rfl, I5⟩
          refine wpS_bind (wpS_get ?_)
          by_cases c5 : (pendingOf st'').size > 1
          · rw [if_pos c5]
            obtain ⟨⟨q1, q2, q3⟩, eq⟩ : ∃ v, (pendingOf st'')[(pendingOf st'').size - 2]? = some v := ⟨_, getElem?_pos _ _ (by omega)⟩
            rw [eq]
            dsimp only
            refine iteP (fun _ => wpS_pure ⟨rfl, I5⟩) (fun _ => ?_)
            refine wpS_bind (wpS_mergeAt hA I5 h1 (by omega) fun st6 I6 _ => ?_)
            simp only [zq96x, zq55x, if_false]
            exact wpS_pure ⟨rfl, I6⟩
          · rw [if_neg c5]; exact wpS_pure ⟨rfl, I5⟩
        case ip =>
          rintro c st'' ⟨rfl, I5⟩
          dsimp only
          refine wpS_bind (wpS_modify (wpS_bind (wpS_modify (wpS_pure ⟨l + n, rfl, ⟨I5.perm, I5.kind, I5.failed, ?_⟩, by omega, by omega⟩))))
          show Ch (((pendingOf st'').modify ((pendingOf st'').size - 1) fun x => (x.1, x.2.1, pw)).push (l, n, 0)).toList 0 (l + n)
          rw [zq53x, zq168x]
          exact Ch.append.mpr ⟨l, Ch.pw (f := fun x => (x.1, x.2.1, pw)) (fun v => ⟨rfl, rfl⟩) I5.ch, rfl, n1, rfl⟩
    · have I4 := I3
      have n1 := m1
      have n2 := m2
      generalize m = n at n1 n2 ⊢
      generalize st2 = st3 at I4 ⊢
      refine wpS_bind (wpS_get ?_)
      cases hb : (pendingOf st3).back? with
      | none =>
        dsimp only
        refine wpS_bind (wpS_modify (wpS_pure ⟨l + n, rfl, ⟨I4.perm, I4.kind, I4.failed, ?_⟩, by omega, by omega⟩))
        show Ch ((pendingOf st3).push (l, n, 0)).toList 0 (l + n)
        rw [zq53x]
        exact Ch.append.mpr ⟨l, I4.ch, rfl, n1, rfl⟩
      | some v =>
        obtain ⟨s1, k1, pw1⟩ := v
        dsimp only
        generalize power' a₀.size (2 * s1 + k1) (2 * s1 + k1 + k1 + n) a₀.size = pw
        refine wpS_bind (wpS_mono (wpS_forRange (I := fun y c st' => c = (none, ()) /\ SI a₀ l st') (Q := fun c st' => c = (none, ()) /\ SI a₀ l st') ?is (fun c st' z => z) ⟨rfl, I4⟩) ?ip)
        case is =>
          rintro y c st'' _ _ ⟨rfl, I5⟩
          refine wpS_bind (wpS_get ?_)
          by_cases c5 : (pendingOf st'').size > 1
          · rw [if_pos c5]
            obtain ⟨⟨q1, q2, q3⟩, eq⟩ : ∃ v, (pendingOf st'')[(pendingOf st'').size - 2]? = some v := ⟨_, getElem?_pos _ _ (by omega)⟩
            rw [eq]
            dsimp only
            refine iteP (fun _ => wpS_pure ⟨rfl, I5⟩) (fun _ => ?_)
            refine wpS_bind (wpS_mergeAt hA I5 h1 (by omega) fun st6 I6 _ => ?_)
            simp only [zq96x, zq55x, if_false]
            exact wpS_pure ⟨rfl, I6⟩
          · rw [if_neg c5]; exact wpS_pure ⟨rfl, I5⟩
        case ip =>
          rintro c st'' ⟨rfl, I5⟩
          dsimp only
          refine wpS_bind (wpS_modify (wpS_bind (wpS_modify (wpS_pure ⟨l + n, rfl, ⟨I5.perm, I5.kind, I5.failed, ?_⟩, by omega, by omega⟩))))
          show Ch (((pendingOf st'').modify ((pendingOf st'').size - 1) fun x => (x.1, x.2.1, pw)).push (l, n, 0)).toList 0 (l + n)
          rw [zq53x, zq168x]
          exact Ch.append.mpr ⟨l, Ch.pw (f := fun x => (x.1, x.2.1, pw)) (fun v => ⟨rfl, rfl⟩) I5.ch, rfl, n1, rfl⟩
  case post =>
    rintro c st' ⟨rfl, I2⟩
    dsimp only
    refine wpS_bind (wpS_mono (wpS_forRange (I := fun y c st'' => c = (none, ()) /\ SI a₀ a₀.size st'') (Q := fun c st'' => c = (none, ()) /\ SI a₀ a₀.size st'') ?is (fun c st' z => z) ⟨rfl, I2⟩) ?ip)
    case is =>
      rintro y c st'' _ _ ⟨rfl, I5⟩
      refine wpS_bind (wpS_get ?_)
      refine iteP (fun _ => wpS_pure ⟨rfl, I5⟩) (fun c6 => ?_)
      refine wpS_bind (wpS_mergeAt hA I5 (zq1x _) ?_ fun st6 I6 _ => ?_)
      · exact zq125x (Nat.add_le_add_right iteLe 1) (by omega)
      simp only [zq96x, zq55x, if_false]
      exact wpS_pure ⟨rfl, I6⟩
    case ip =>
      rintro c st'' ⟨rfl, I5⟩
      exact wpS_pure (h _ I5.perm I5.failed)
end
end L2
set_option maxRecDepth 100000
set_option maxHeartbeats 4000000
namespace L2
open PySem PySem.Spec PyProof.Rows
theorem perm_out {vs : List Value} {ns : List Int} (hI : IntsAre vs ns) {xs : Array Keyed} (hp : xs.toList.Perm (pairsOf vs).toList) :
  ∃ ns', IntsAre (xs.map (·.2)).toList ns' /\ ns'.Perm ns := by
 have hl : xs.toList.Perm (vs.zip vs) := by rw [<- pairsOf_toList]; exact hp
 have hmem : ∀ p, p ∈ xs.toList -> p.1 = p.2 /\ p.1 ∈ vs := fun p hp' => mem_zip_self (hl.mem_iff.mp hp')
 refine ⟨xs.toList.map (fun p => numOf p.1), ?_, ?_⟩
 ·have e : (xs.map (·.2)).toList = xs.toList.map (·.1) := by
   rw [Array.toList_map]; exact zq169x fun p hp' => (hmem p hp').1.symm
  rw [e]
  have h1 := intsAre_map (xs.toList.map (·.1)) (by
   intro v hv
   obtain ⟨p, hp', rfl⟩ := zq21x.mp hv
   exact hI.all _ (hmem p hp').2)
  rwa [zq64x] at h1
 ·have h1 := hl.map (fun p => numOf p.1)
  have e2 : (vs.zip vs).map (fun p => numOf p.1) = ns := by
   have : (vs.zip vs).map (fun p => numOf p.1) = ((vs.zip vs).map Prod.fst).map numOf := by rw [zq64x]; rfl
   rw [this, List.map_fst_zip (zq1x _), hI.nums]
  rwa [e2] at h1
theorem kd_pairs {vs : List Value} {ns : List Int} (hI : IntsAre vs ns) : AllKd (pairsOf vs) := fun i x e => by
 have : x ∈ (pairsOf vs).toList := by rw [zq105x]; exact zq142x e
 rw [pairsOf_toList] at this
 exact hI.all _ (mem_zip_self this).2
section
variable {prog : Program} {w : World} {A : Around} {E : Value -> Shared -> Prop} {s : Shared}
theorem list_sort_any {a : Addr} {vs : List Value} {ns : List Int} {n : Nat} {P : Fin -> Shared -> Prop} (ho : s.heap.get? a = some (seqObj "list" vs.toArray n))
  (hI : IntsAre vs ns) (hz : vs.length <= 100000)
  (h : ∀ (out : Array Value) (ns' : List Int), IntsAre out.toList ns' -> ns'.Perm ns -> P (.done (.ret .none)) { s with heap := sortedHeap s.heap a vs out }) :
  wpAny (model prog w) A (Builtin.«list.sort» ⟨[.ref a], []⟩) P E s := by
 rw [list_sort_plain]
 have hZ : vs.length <= sizeLine := by rw [sizeLine_eq]; omega
 have ha : a < s.heap.objs.size := zq3x ho
 refine wpAny_bind (listItems_at ho rfl ?_)
 refine wpAny_bind (listUpdate_at ho rfl ?_ (hsz := by rw [zq16x]; exact hZ))
 obtain ⟨e1, ho1⟩ : ∃ e1, (s.heap.update a (Obj.mapSeq fun _ => #[])).get? a = some (seqObj "list" #[] e1) := ⟨_, get?_update_seq ho (fun _ => #[])⟩
 refine wpAny_bind (seqEpoch_at ho1 rfl ?_)
 refine wpAny_bind (wpAny_newTuple ?_)
 refine wpAny_bind (wpAny_newList ?_)
 refine wpAny_holding ?_
 have ho6 : (((s.heap.update a (Obj.mapSeq fun _ => #[])).push (seqObj "tuple" vs.toArray 0)).push (seqObj "list" #[] 0)).get? a = some (seqObj "list" #[] e1) := by
  rw [Heap.get?_push_ne _ _ _ (by rw [size_push', Heap.size_update]; exact zq22x (zq80x ha)), Heap.get?_push_ne _ _ _ (by rw [Heap.size_update]; exact zq22x ha)]
  exact ho1
 show wpAny (model prog w) A _ P E { s with heap := ((s.heap.update a (Obj.mapSeq fun _ => #[])).push (seqObj "tuple" vs.toArray 0)).push (seqObj "list" #[] 0) }
 dsimp only
 have hsz : vs.toArray.size = vs.length := by simp
 have fin : ∀ st' : SortSt, (arrOf st').toList.Perm (pairsOf vs).toList ->
   P (.done (.ret .none)) { s with heap := sortedHeap s.heap a vs ((arrOf st').map (·.2)) } := by
  intro st' hp
  obtain ⟨ns', h1, h2⟩ := perm_out hI hp
  exact h _ ns' h1 h2
 by_cases h2 : vs.toArray.size < 2
 ·rw [if_pos h2, if_pos h2]
  refine wpAny_bind (wpAny_pure ?_)
  rw [StateT.run_pure]
  refine wpAny_bind (wpAny_pure ?_)
  dsimp only
  refine wpAny_bind (seqEpoch_at ho6 rfl ?_)
  refine wpAny_bind (listUpdate_at ho6 rfl ?_ (hsz2 := by rw [Array.size_map]; show (pairsOf vs).size <= _; rw [pairsOf_size, sizeLine_eq]; omega))
  simp only [bne_self_eq_false, zq55x, if_false]
  exact wpAny_pure (fin (SortSt.mk' general' (vs.toArray.zip vs.toArray) #[] 7 none) (zq137x _))
 ·rw [if_neg h2, if_neg h2]
  obtain ⟨v₁, v₂, rest, rfl⟩ : ∃ v₁ v₂ rest, vs = v₁ :: v₂ :: rest := by
   match vs, hsz, h2 with
   | [], _, h2 => simp at h2
   | [_], _, h2 => simp at h2
   | v₁ :: v₂ :: rest, _, _ => exact ⟨v₁, v₂, rest, rfl⟩
  rw [keyKind_ints hI]
  refine wpAny_bind (wpAny_pure ?_)
  refine wpAny_bind (wpAny_mono (wpS_sortAny (a₀ := pairsOf (v₁ :: v₂ :: rest)) (st := SortSt.mk' oneType' ((v₁ :: v₂ :: rest).toArray.zip (v₁ :: v₂ :: rest).toArray) #[] 7 none)
   (Q := fun _ st' => (arrOf st').toList.Perm (pairsOf (v₁ :: v₂ :: rest)).toList /\ failedOf st' = none)
   (kd_pairs hI) ⟨zq137x _, rfl, rfl, rfl⟩ fun st' a1 a2 => ⟨a1, a2⟩) ?_ fun _ _ e => e)
  rintro ⟨⟨⟩, st'⟩ s' ⟨rfl, hp, hf⟩
  dsimp only
  refine wpAny_bind (seqEpoch_at ho6 rfl ?_)
  refine wpAny_bind (listUpdate_at ho6 rfl ?_ (hsz2 := by
   have := hp.length_eq
   rw [zq34x, zq34x, pairsOf_size] at this
   show ((arrOf st').map (·.2)).size <= _
   rw [Array.size_map, this]
   omega))
  rw [hf]
  simp only [bne_self_eq_false, zq55x, if_false]
  exact wpAny_pure (fin st' hp)
variable {a : Addr}
theorem sorted_setA {S : Int -> Bool} {n : Nat} {Q : Value -> Shared -> Prop} (hh : A.handled = none) (hS : s.heap.SetOf (IK prog w) a S n) (hT : TAt (byText w) s.heap a) (hz : n <= 100000)
  (h : ∀ h' d' tk' (l : Addr) (out : List Value) (ns : List Int) (e : Nat), (∀ b o, s.heap.get? b = some o -> h'.get? b = some o) -> s.heap.objs.size <= l -> h'.get? l = some (seqObj "list" out.toArray e) -> IntsAre out ns -> (∀ k, S k = true ↔ k ∈ ns) -> ns.length = n ->
   Q (.ref l) { s with heap := h', drawn := d', toks := tk' }) : wpAny (model prog w) A (call (.builtin "sorted") [.ref a]) Q E s := by
 obtain ⟨o, es, ep, t, g1, g2, g3, l1, l2, l3, l4, sz⟩ := hS
 refine Calls.call_function_entry kind_sorted plain_sorted entry_sorted (args_sorted1 _) ?_
 unfold Builtin.«sorted»
 refine wpAny_bind (m := checkCount "sorted" 1 1 _) (wpAny_pure (wpAny_bind ?_))
 refine collect_set (A := A.in1) hh l3 g1 g2 g3 l4 (hT o es ep t g1 g3) fun h1 d1 tk1 items k1 k2 pp => ?_
 have hint : ∀ v ∈ items, ∃ k t, v = .int k t := fun v m => by
  obtain ⟨e, m', rfl⟩ := zq21x.mp (pp.mem_iff.mp m)
  obtain ⟨⟨k, hk, _⟩, _⟩ := l1 e m'
  obtain ⟨t, ht⟩ := zq118x hk
  exact ⟨k, t, ht⟩
 obtain ⟨ns, hI⟩ := ints_all (ks := fun _ => True) hint
 have hlen : items.length = n := by rw [pp.length_eq, zq0x, zq34x, sz]
 refine wpAny_bind (wpAny_newList ?_)
 have gL : (h1.push (seqObj "list" items.toArray 0)).get? h1.objs.size = some (seqObj "list" items.toArray 0) := zq29x _ rfl
 refine wpAny_bind (wpAny_holding (wpAny_call_entry slot_list_sort ⟨_, gL, rfl⟩ entry_list_sort (list_sort_any gL hI (by omega) fun out ns' a1 a2 => ⟨_, rfl, ?_⟩) (args_list_sort _)))
 obtain ⟨e, he⟩ := sortedHeap_at (out := out) gL
 refine wpAny_pure ⟨_, rfl, h _ d1 tk1 h1.objs.size out.toList ns' e (fun b o q => ?_) k2 (by simpa using he) a1 (fun k => ?_) ?_⟩
 ·have lb := zq3x (k1 b o q)
  rw [sortedHeap_old (zq22x lb) (by rw [zq78x]; exact zq80x lb)]
  exact zq9x _ (k1 b o q)
 ·rw [a2.mem_iff, ints_mem hI, l2 k]
  constructor
  ·rintro ⟨e, m, q⟩
   obtain ⟨t, ht⟩ := zq118x q
   exact ⟨t, pp.mem_iff.mpr (ht ▸ zq21x.mpr ⟨e, m, rfl⟩)⟩
  ·rintro ⟨t, m⟩
   obtain ⟨e, m', q⟩ := zq21x.mp (pp.mem_iff.mp m)
   exact ⟨e, m', by rw [q]; exact intKind_is _ _ _ _⟩
 ·rw [a2.length_eq, <- hI.length, hlen]
end
def rSortedA (P : Program) (w : World) : List V -> Hp -> VK -> Prop := fun xs H Q => ∃ a, ∃ ms : List Int, xs = [.ref a] /\ H a = some (SetX P w a (fun k => ms.any (· == k)) ms.length) /\ ms.Nodup /\ ms.length <= 4000 /\
 ∀ l (rs : List Int), H l = none -> rs.Nodup -> (∀ k, k ∈ rs ↔ k ∈ ms) -> Q (.ref l) (upd H l (.lst (rs.map V.int)))
section
variable {X : Cx}
theorem call_sortA (hc : X.calm = true) : CallR X (.builtin "sorted") (rSortedA X.prog X.w) := by
 intro pins s σ H xs us Q I rv h
 obtain ⟨a, ms, rfl, hH, nd, hz, q⟩ := h
 obtain ⟨u, rfl, ru⟩ := vals1 rv
 cases ru
 obtain ⟨⟨q1, q2⟩, _, _⟩ := I.hok a _ hH
 refine sorted_setA (I.ok.hd hc) q1 q2 (by omega) fun h' d' tk' l out ns e kp hl gl hI hm hn => ?_
 have a1 : ∀ k, (ms.any (· == k)) = true ↔ k ∈ ms := fun k => by
  rw [zq136x]
  exact ⟨fun ⟨x, m, z⟩ => (beq_iff_eq.mp z) ▸ m, fun m => ⟨k, m, beq_self_eq_true _⟩⟩
 have hm' : ∀ k, k ∈ ns ↔ k ∈ ms := fun k => by rw [<- hm k, a1]
 have pp := perm_of_sub nd (fun k m => (hm' k).mpr m) (zq93x hn)
 have ndn : ns.Nodup := pp.nodup_iff.mp nd
 have new : ObjOk X.prog X.w (upd H l (.lst (ns.map V.int))) h' l (.lst (ns.map V.int)) := by
  refine ⟨?_, out, e, ints_vals hI, gl⟩
  rw [zq0x, hn]; exact zq25x hz (by decide)
 exact ⟨.ref l, _, (I.laid (t' := tk') kp hl new).dr d', rfl, q _ _ (I.hok.fresh hl) ndn hm'⟩
end
theorem EvN.sortedSetA {G : Gx} {ρ : Rh} {te : TE} {P : Program} {w : World} {K : PySem.W.Frag} {Θ : Bool -> List PyData -> Prop} (h : Ev G ρ te fun _ x => ∃ ns : List Int, x = .list (ns.map .int) /\ ns.length <= 4000 /\ ∀ rs : List Int, rs.Nodup -> (∀ k, k ∈ rs ↔ k ∈ ns) -> Θ true (rs.map .int)) :
  EvN G ρ (tCB (rSortedA P w) (tCons (tCB (rSetOf P w K) (tCons te tNil)) tNil)) Θ := fun nb σ H Q W z =>
 h nb σ H _ W fun f v H1 x ⟨ns, ex, hn, q⟩ s1 hv => by
  subst ex
  obtain ⟨a, xs, rfl, na, hx, hd⟩ := hv.ofL
  have e := isDs_ints_eq hd
  subst e
  refine ⟨a, ns, rfl, .of hx, by omega, fun b ms hb nd hm => ?_⟩
  have hms : ms.length <= ns.length := zq170x nd fun k m => (hm k).mp m
  refine ⟨b, ms, rfl, upd_same, nd, by omega, fun l rs hl lt hm' => ?_⟩
  have s2 : Step G.B H1 (upd H1 b (SetX P w b (fun k => ms.any (· == k)) ms.length)) := .same s1.2 (same_new hb)
  exact EvN.fin (f := true) W (s1.trans s2) hl (isDs_intsL rs) (q rs lt fun k => (hm' k).trans (hm k)) z
end L2
set_option maxRecDepth 100000
set_option maxHeartbeats 4000000
set_option maxRecDepth 100000
set_option maxHeartbeats 4000000
set_option maxRecDepth 100000
set_option maxHeartbeats 4000000
set_option maxRecDepth 100000
set_option maxHeartbeats 4000000
set_option maxRecDepth 100000
set_option maxHeartbeats 4000000
set_option maxRecDepth 100000
set_option maxHeartbeats 4000000
set_option maxRecDepth 100000
set_option maxHeartbeats 4000000
set_option maxRecDepth 100000
set_option maxHeartbeats 4000000
namespace L2
open PySem PySem.Spec PyProof.Rows
def rSum (K : PySem.W.Frag) : List V -> Hp -> VK -> Prop := fun xs H Q => ∃ p, ∃ ns : List Int, xs = [.ref p] /\ SqL K H p (ns.map V.int) /\ Q (.int ns.sum) H
def rAll (K : PySem.W.Frag) : List V -> Hp -> VK -> Prop := fun xs H Q => ∃ p, ∃ bs : List Bool, xs = [.ref p] /\ SqL K H p (bs.map V.bl) /\ Q (.bl (bs.all id)) H
section
variable {X : Cx}
theorem call_allM (hc : X.calm = true) : CallR X (.builtin "all") (rAll X.K) := by
  intro pins s σ H xs us Q I rv h
  obtain ⟨p, bs, rfl, hp, q⟩ := h
  obtain ⟨u, rfl, ru⟩ := vals1 rv
  cases ru
  obtain ⟨its, rs, il, hz⟩ := I.list hp
  have hl := rs.length
  have hv : ∀ (i : Nat) (v : Value), its.toArray[i]? = some v -> v = .bool (bs.getD i false) := fun i v e => by
    have hi : i < bs.length := by
      have := (zq88x.mp e).1
      rw [zq0x] at hl
      simp at this; omega
    obtain ⟨u, hu, ru⟩ := rs.get (i := i) (x := .bl bs[i]) (by rw [zq19x, zq5x hi]; rfl)
    rw [zq162x, hu] at e
    cases e
    rw [zq89x, zq5x hi]
    exact ru
  have ll := il.isList
  have hlt : p < s.heap.objs.size := by obtain ⟨o, e, _⟩ := ll; exact zq3x e
  refine call_all_walk (wpAny_pyIter_list ll ⟨s.heap.objs.size, _, _, _, _, _, fun i => bs.getD i false, rfl, Walks.list (A := X.A.in1) (I.ok.hd hc) _ p (zq22x hlt) its.toArray, ⟨⟨_, zq29x _ rfl, rfl, rfl⟩, ll.push _⟩, fun i v s Q E hP hQ => ?_, fun h' tk kp => ?_⟩)
  · rw [hv i v hP]; exact wpAny_truthy_bool hQ
  · have e : (List.range its.toArray.size).all (fun i => bs.getD i false) = bs.all id := by
      have hs : its.toArray.size = bs.length := by rw [zq0x] at hl; simp; omega
      rw [hs]
      clear hv hl rs q hp hs hz
      induction bs with
      | nil => rfl
      | cons b r ih =>
        rw [zq35x, zq163x, zq87x, zq87x, List.all_map]
        simpa [Function.comp_def] using congrArg (b && ·) ih
    rw [e]
    refine ⟨.bl (bs.all id), H, I.kept fun b o q => kp b o (fun m => ?_) (zq9x _ q), rfl, q⟩
    have := zq10x.mp m
    rw [this] at q
    exact absurd (zq3x q) (zq40x _)
end
section
variable {G : Gx} {ρ : Rh} {te : TE} {K : PySem.W.Frag} {Φ : Pd}
theorem Ev.sum (h : Ev G ρ te fun _ x => ∃ ns : List Int, x = .list (ns.map .int) /\ Φ true (.int ns.sum)) : Ev G ρ (tCB (rSum K) (tCons te tNil)) Φ := fun nb σ H Q W z =>
 h nb σ H _ W fun f v H1 x ⟨ns, ex, q⟩ s1 hv => by
  subst ex
  obtain ⟨a, xs, rfl, na, hx, hd⟩ := hv.ofL
  have e := isDs_ints_eq hd
  subst e
  exact ⟨a, ns, rfl, .of hx, z true _ H1 _ q s1 (.int _)⟩
theorem isDs_bools_eq {nb : Addr -> Prop} {H : Hp} : ∀ {is : List Bool} {xs : List V}, IsDs nb H (is.map PyData.bool) xs -> xs = is.map V.bl
  | [], _, h => by unfold List.map IsDs at h; exact h
  | i :: is, _, h => by
    rw [zq7x] at h
    unfold IsDs at h
    obtain ⟨y, ys, rfl, h1, h2⟩ := h
    unfold IsD at h1
    rw [zq7x, h1, isDs_bools_eq h2]
theorem Ev.all (h : Ev G ρ te fun _ x => ∃ bs : List Bool, x = .list (bs.map .bool) /\ Φ true (.bool (bs.all id))) : Ev G ρ (tCB (rAll K) (tCons te tNil)) Φ := fun nb σ H Q W z =>
 h nb σ H _ W fun f v H1 x ⟨bs, ex, q⟩ s1 hv => by
  subst ex
  obtain ⟨a, xs, rfl, na, hx, hd⟩ := hv.ofL
  have e := isDs_bools_eq hd
  subst e
  exact ⟨a, bs, rfl, .of hx, z true _ H1 _ q s1 (.bl _)⟩
end
end L2
set_option maxRecDepth 100000
set_option maxHeartbeats 4000000
namespace L2
open PySem PySem.Spec PyProof.Rows
def isiD : PyData -> String -> Bool
 | .bool _, T => T == "bool" || T == "int"
 | .int _, T => T == "int"
 | .str _, T => T == "str"
 | .list _, T => T == "list"
 | .tuple _, T => T == "tuple"
 | _, _ => false
def tyD : PyData -> String
 | .none => "NoneType" | .bool _ => "bool" | .int _ => "int" | .str _ => "str" | .list _ => "list" | .tuple _ => "tuple" | .dict _ => "dict"
theorem isi_list (ds : List PyData) : isiD (.list ds) "list" = true /\ isiD (.list ds) "tuple" = false := ⟨rfl, rfl⟩
theorem isi_tuple (ds : List PyData) : isiD (.tuple ds) "list" = false /\ isiD (.tuple ds) "tuple" = true := ⟨rfl, rfl⟩
theorem tyD_of {K : PySem.W.Frag} {nb : Addr -> Prop} {H : Hp} {d : PyData} {v : V} (h : IsD nb H d v) : TyOf K H v (.type (tyD d)) := by
 cases d <;> unfold IsD at h
 ·subst h; exact .non
 ·subst h; exact .bl _
 ·subst h; exact .int _
 ·subst h; exact .str _
 ·obtain ⟨a, xs, rfl, _, e, _⟩ := h; exact .lst e
 ·obtain ⟨a, xs, rfl, _, e, _⟩ := h; exact .tup e
 ·obtain ⟨a, xs, rfl, _, e, _⟩ := h; exact e.elim .dK fun ⟨_, e⟩ => .fzd e
def five (T : String) : Prop := T = "int" \/ T = "bool" \/ T = "list" \/ T = "tuple" \/ T = "str"
theorem kit_of {K : PySem.W.Frag} {d : PyData} {T : String} (hT : five T) : PySem.W.kitOne K (.type (tyD d)) (.type T) = some (isiD d T) := by
 rcases hT with rfl | rfl | rfl | rfl | rfl <;> cases d <;> (with_unfolding_all rfl)
theorem kit_any {K : PySem.W.Frag} {d : PyData} : ∀ {Ts : List String}, (∀ T ∈ Ts, five T) -> PySem.W.kitAny K (.type (tyD d)) (Ts.map Value.type) = some (Ts.any (isiD d))
  | [], _ => rfl
  | T :: r, h => by
    rw [zq7x]
    unfold PySem.W.kitAny
    rw [kit_of (h T (zq14x ..)), zq144x]
    cases isiD d T with
    | true => rfl
    | false => exact kit_any fun T m => h T (zq20x _ m)
def rIsiT : List V -> Hp -> VK -> Prop := fun xs H Q => ∃ (x : V) (tp : Addr) (Ts : List String) (nb : Addr -> Prop) (d : PyData), xs = [x, .ref tp] /\ H tp = some (.tup (Ts.map V.ty)) /\ IsD nb H d x /\ (∀ T ∈ Ts, five T) /\ Q (.bl (Ts.any (isiD d))) H
theorem vals_ty : ∀ {Ts : List String} {us : List Value}, Vals (Ts.map V.ty) us -> us = Ts.map Value.type
 | [], _, .nil => rfl
 | T :: r, _, .cons h t => by rw [zq7x, vals_ty t, show _ = Value.type T from h]
section
variable {X : Cx}
theorem call_isiT : CallR X (.builtin "isinstance") rIsiT := by
 intro pins s σ H xs us Q I rv h
 obtain ⟨x, tp, Ts, nb, d, rfl, ht, hd, h5, q⟩ := h
 obtain ⟨u, v, rfl, ru, rv⟩ := rv.two
 cases (show v = Value.ref tp from rv)
 obtain ⟨_, its, vt, o, ho, hc, n, hdat⟩ := (show ObjOk X.prog X.w H s.heap tp (.tup (Ts.map V.ty)) from I.hok tp _ ht)
 have e := vals_ty vt
 subst e
 obtain ⟨c0, d0, dt, sl⟩ := o
 dsimp only at hc hdat
 subst hc hdat
 have fin : ∀ tk, EP X pins σ Q (.bool (Ts.any (isiD d))) { s with toks := tk } := fun tk => ⟨.bl _, H, I.tok tk, rfl, q⟩
 have ka := kit_any (K := X.K) (d := d) h5
 cases d <;> unfold IsD at hd
 ·subst hd; cases (show u = Value.none from ru); exact zq82x PySem.W.kitx_none I.kIn True.intro ho ka (fun z => nomatch z) fin
 ·subst hd; cases (show u = Value.bool _ from ru); exact zq82x PySem.W.kitx_bool I.kIn True.intro ho ka (fun z => nomatch z) fin
 ·subst hd; obtain ⟨t, rfl⟩ := (show ∃ t, u = Value.int _ t from ru); exact zq82x PySem.W.kitx_int I.kIn True.intro ho ka (fun z => nomatch z) fin
 ·subst hd; obtain ⟨t, rfl⟩ := (show ∃ t, u = Value.str _ t from ru); exact zq82x PySem.W.kitx_str I.kIn True.intro ho ka (fun z => nomatch z) fin
 ·obtain ⟨a, ys, rfl, _, ea, _⟩ := hd
  cases (show u = Value.ref a from ru)
  obtain ⟨_, _, n, _, h1⟩ := (show ObjOk X.prog X.w H s.heap a (.lst ys) from I.hok a _ ea)
  exact zq82x zq122x I.kIn ⟨_, h1, rfl⟩ ho ka (fun z => nomatch z) fin
 ·obtain ⟨a, ys, rfl, _, ea, _⟩ := hd
  cases (show u = Value.ref a from ru)
  obtain ⟨_, _, _, o', h1, h2, _⟩ := (show ObjOk X.prog X.w H s.heap a (.tup ys) from I.hok a _ ea)
  exact zq82x PySem.W.kitx_tuple I.kIn ⟨o', h1, h2⟩ ho ka (fun z => nomatch z) fin
 ·obtain ⟨a, ys, rfl, _, ea, _⟩ := hd
  cases (show u = Value.ref a from ru)
  obtain ⟨_, _, vs, _, dd⟩ := (show ObjOk X.prog X.w H s.heap a (.dK ys) from ea.ok I.hok)
  exact zq82x zq106x I.kIn dd.typeIs ho ka (fun z => nomatch z) fin
end
section
variable {G : Gx} {ρ : Rh} {ta tb te : TE} {K : PySem.W.Frag} {Φ : Pd} {T U : String}
theorem Ev.isi (hT : five T) (h : Ev G ρ te fun _ x => Φ true (.bool (isiD x T))) : Ev G ρ (tCB (rIsi K) (tCons te (tCons (tC (.ty T)) tNil))) Φ := fun nb σ H Q W z =>
 h nb σ H _ W fun f v H1 d q s1 hv => ⟨v, T, _, _, rfl, tyD_of hv, kit_of hT, z true _ H1 _ q s1 (.bl _)⟩
theorem Ev.isi2 (hT : five T) (hU : five U) (h : Ev G ρ te fun _ x => Φ true (.bool (isiD x T || isiD x U))) : Ev G ρ (tCB rIsiT (tCons te (tCons (tTup (tCons (tC (.ty T)) (tCons (tC (.ty U)) tNil))) tNil))) Φ := fun nb σ H Q W z =>
 h nb σ H _ W fun f v H1 d q s1 hv => by
  refine ⟨by show 2 <= sizeLine; decide, fun p hp => ⟨v, p, [T, U], G.S nb f, d, rfl, upd_same, hv.keep (But.of (same_new hp)), fun S m => ?_, ?_⟩⟩
  ·rcases zq4x.mp m with e | m
   ·rw [e]; exact hT
   ·rw [zq10x.mp m]; exact hU
  ·rw [zq144x, zq144x, List.any_nil, zq77x]
   exact z true _ _ _ q (s1.trans (.same s1.2 (same_new hp))) (.bl _)
theorem Ev.lenS (h : Ev G ρ te fun _ x => ∃ ds, (x = .list ds \/ x = .tuple ds) /\ Φ true (.int ds.length)) : Ev G ρ (tCB (rLen K) (tCons te tNil)) Φ := fun nb σ H Q W z =>
 h nb σ H _ W fun f v H1 d ⟨ds, e, q⟩ s1 hv => by
  rcases e with e | e
  ·subst e
   obtain ⟨a, xs, rfl, n, hx, hd⟩ := hv.ofL
   exact ⟨a, xs, rfl, .inl (.of hx), by rw [hd.length]; exact z true _ H1 _ q s1 (.int _)⟩
  ·subst e
   obtain ⟨a, xs, rfl, n, hx, hd⟩ := hv.ofT
   exact ⟨a, xs, rfl, .inr (.of hx), by rw [hd.length]; exact z true _ H1 _ q s1 (.int _)⟩
theorem Ev.ixS (h : Ev G ρ ta fun f x => ∃ ds, (x = .list ds \/ x = .tuple ds) /\ Ev G ρ tb fun _ y => ∃ k, y = .int k /\ ∃ e, atI ds k = some e /\ Φ f e) : Ev G ρ (tOp (rIx K) ta tb) Φ :=
 Ev.op2 (h.mono fun f x ⟨ds, ex, q⟩ => q.mono fun g y ⟨k, ey, e, he, p⟩ nb σ H u v Q W hu hv z => by
  subst ey
  rcases ex with ex | ex
  ·subst ex
   obtain ⟨a, xs, rfl, n, hx, hd⟩ := hu.ofL
   obtain ⟨w, hw, hD⟩ := hd.atI he
   exact .inl ⟨a, xs, k, w, rfl, hv.ofI, .of hx, hw, z f _ H _ p (.refl W.bag) hD⟩
  ·subst ex
   obtain ⟨a, xs, rfl, n, hx, hd⟩ := hu.ofT
   obtain ⟨w, hw, hD⟩ := hd.atI he
   exact .inr (.inl ⟨a, xs, k, w, rfl, hv.ofI, .of hx, hw, z f _ H _ p (.refl W.bag) hD⟩))
end
theorem Callee.void {P : Program} {w : World} {K : PySem.W.Frag} {mg : Str -> Option Value} {base : Heap} {x : Str} {st : Stmt} {k : Nat} {ps : List Str} {sp : Sp} {f : Addr} {fd : FuncData} (F : Fun K x x st f fd) (b : Binds K fd ps []) (m : mg x = some (.ref f)) (hv : ∀ vs H Q E, ¬ sp vs H Q E) : Callee P w K mg base x k ps sp :=
 ⟨f, fd, ⟨fun vs H Q E h => (hv vs H Q E h).elim, fun A outer s H args us vs Q E _ _ _ _ h => (hv vs H Q E h).elim⟩, b, F.kp, m⟩
end L2
set_option maxRecDepth 100000
set_option maxHeartbeats 4000000
namespace L2
open PySem PySem.Spec PyProof.Rows
section
variable {G : Gx} {ρ ρc : Rh} {te : TE} {gt : TG} {n i : Nat} {it : Nat -> PyData -> Prop} {fi : Bool} {Θ : Bool -> List PyData -> Prop} {E : DE}
theorem scAll_ints (os : List Int) : scAll (os.map PyData.int) = true := by
 unfold scAll
 rw [zq108x]
 intro x hx
 obtain ⟨y, _, rfl⟩ := zq21x.mp hx
 rfl
theorem CompD.ints (P : Int -> Prop) (ht : ∀ i d, it i d -> Gv G ρc gt fi d fun ρ1 => Wk ρc ρ1 /\ Ev G ρ1 te fun _ e => ∃ r : Int, e = .int r /\ P r) (h : ∀ os : List Int, os.length = n -> (∀ x ∈ os, P x) -> Θ true (os.map .int)) : CompD G ρc n it fi gt tNoTest te Θ := by
 refine ⟨false, fun i ds => ds.length = i /\ ∃ os : List Int, ds = os.map .int /\ ∀ x ∈ os, P x, ⟨rfl, [], rfl, fun _ h => nomatch h⟩, ?_, ?_⟩
 ·rintro i d ds hd hl ⟨hl2, os, rfl, ho⟩
  refine fun nb σ H v Q W hv z => ht i d hd nb σ H v Q W hv fun σ' ρ' ⟨w, q⟩ W' => z σ' ρ' ⟨w, Tv.noTest (iteT (q.mono fun f e ⟨r, ee, hr⟩ => ⟨fun z => (by cases z), ?_, os ++ [r], ?_, fun x hx => ?_⟩))⟩ W'
  ·rw [zq26x, zq67x, hl2]
  ·rw [ee]; simp
  ·rcases zq41x.mp hx with h | h
   ·exact ho x h
   ·rw [zq10x.mp h]; exact hr
 ·rintro ds hl ⟨hl2, os, rfl, ho⟩
  rw [scAll_ints, Bool.or_true]
  exact h os (by rw [zq0x] at hl2; exact hl2) ho
theorem CompD.rel {α : Type} (φ : α -> PyData) (fl : Bool) (P : Nat -> α -> Prop) (ht : ∀ i d, it i d -> Gv G ρc gt fi d fun ρ1 => Wk ρc ρ1 /\ Ev G ρ1 te fun f e => (fl = true -> f = true) /\ ∃ r : α, e = φ r /\ P i r)
  (h : ∀ os : List α, os.length = n -> (∀ (i : Nat) x, os[i]? = some x -> P i x) -> Θ (fl || scAll (os.map φ)) (os.map φ)) : CompD G ρc n it fi gt tNoTest te Θ := by
 refine ⟨fl, fun i ds => ds.length = i /\ ∃ os : List α, ds = os.map φ /\ ∀ (i : Nat) x, os[i]? = some x -> P i x, ⟨rfl, [], rfl, fun j x e => by simp at e⟩, ?_, ?_⟩
 ·rintro i d ds hd hl ⟨hl2, os, rfl, ho⟩
  refine fun nb σ H v Q W hv z => ht i d hd nb σ H v Q W hv fun σ' ρ' ⟨w, q⟩ W' => z σ' ρ' ⟨w, Tv.noTest (iteT (q.mono fun f e ⟨hf, r, ee, hr⟩ => ⟨hf, ?_, os ++ [r], ?_, fun j x hj => ?_⟩))⟩ W'
  ·rw [zq26x, zq67x, hl2]
  ·rw [ee]; simp
  ·rw [zq0x] at hl2
   rcases zq112x j os.length with h | h | h
   ·exact ho j x (by rwa [zq31x h] at hj)
   ·subst h
    simp at hj
    subst hj
    rw [hl2]; exact hr
   ·rw [zq61x (by rw [zq26x, zq67x]; omega)] at hj
    cases hj
 ·rintro ds hl ⟨hl2, os, rfl, ho⟩
  exact h os (by rw [zq0x] at hl2; exact hl2) ho
theorem Sv.asgNil (h : ∀ a, E.nx (ρ.set i (.own a true []))) : Sv G ρ (tAsg (tLst tNil) (gName i)) E := Sv.asgN (EvN.lst (Av.nil ⟨by decide, fun a => h a⟩))
end
def rIsB : R2 := fun x y H Q => ∃ a b : Bool, x = .bl a /\ y = .bl b /\ Q (.bl (a == b)) H
theorem Ev.isB {G : Gx} {ρ : Rh} {ta : TE} {b : Bool} {Φ : Pd} (h : Ev G ρ ta fun _ x => ∃ a, x = .bool a /\ Φ true (.bool (a == b))) : Ev G ρ (tOp rIsB ta (tC (.bl b))) Φ := fun nb σ H Q W z =>
 h nb σ H _ W fun f v H1 d ⟨a, e, q⟩ s1 hv => by
  subst e
  unfold IsD at hv
  subst hv
  exact ⟨a, b, rfl, rfl, z true _ H1 _ q s1 (.bl _)⟩
theorem pt_truthK {X : Cx} {K : PySem.W.Frag} {a : Expr} {ta : TE} (hK : X.K = K) (ha : PE X a ta) (he : ∀ whole, isTrue a X.env whole = (do let v <- whole; standAt a.pos; holding [v] (truthy v))) : PT X a (tTruth K ta) := by
 subst hK
 exact pt_truth ha he
theorem pg_tupM {X : Cx} {K : PySem.W.Frag} {es : List Expr} {k : Nat} {t : TGs} {n : Nat} {pos : Pos} (hK : X.K = K) (hc : X.calm = true) (h : PGs X es t) (hn : (assignEach es X.env).length = n := by rfl) (hst : (assignEach es X.env).findIdx? (·.1) = none := by rfl) : PG X (.Tuple es k pos) (gTup K n t) := by
 subst hK
 exact pg_tup hc h hn hst
theorem eqv_nil (ds : List PyData) : PyData.eqv (.list ds) (.list []) = ds.isEmpty := by cases ds <;> simp [PyData.eqv, PyData.eqvAll]
theorem Sv.conseq {G : Gx} {ρ : Rh} {s : TS} {E : DE} (I : Rh -> Prop) (h : Sv G ρ s { E with nx := I }) (hI : ∀ ρ', I ρ' -> E.nx ρ') : Sv G ρ s E := fun nb σ H D W K => h nb σ H D W ⟨fun nb ρ σ H q W => K.nx nb ρ σ H (hI ρ q) W, K.bk, K.ct, K.rt, K.rw⟩
theorem pick {L : List Int} {k : Int} (h0 : 0 <= k) (h1 : k < L.length) (P : Int -> Prop) (hP : ∀ x ∈ L, P x) : ∃ x, atI (L.map PyData.int) k = some (.int x) /\ P x := by
 have hL : k.toNat < L.length := by omega
 exact ⟨L[k.toNat], atI_some h0 (by rw [zq19x, zq5x hL]; rfl), hP _ (zq47x hL)⟩
end L2
set_option maxRecDepth 100000
set_option maxHeartbeats 4000000
namespace L2
open PySem PySem.Spec PyProof.Rows
theorem cut_to {α : Type} {xs : List α} {k : Int} (h0 : 0 <= k) (h1 : k <= xs.length) : cutA xs none (some k) = xs.take k.toNat := by
 unfold cutA HT.sIx
 simp only [zq97x, Nat.sub_zero]
 congr 1
 first | omega | (split <;> omega)
theorem cut_from {α : Type} {xs : List α} {k : Int} (h0 : 0 <= k) (h1 : k <= xs.length) : cutA xs (some k) none = xs.drop k.toNat := by
 have e : HT.sIx xs.length 0 (some k) = k.toNat := by
  show (if k < 0 then _ else _) = _
  rw [if_neg (by omega)]; omega
 unfold cutA
 rw [e, HT.sIx_none]
 exact zq90x (by rw [zq86x]; omega)
theorem fit {p S r y : Int} (hp : 0 < p) (h : ∃ k, y * r = 1 + p * k) : (S + ((0 - S % p) * r % p) * y) % p = 0 := by
 obtain ⟨k, hk⟩ := h
 have e1 := zq171x S p
 have e2 := zq171x ((0 - S % p) * r) p
 refine Int.emod_eq_zero_of_dvd ⟨S / p - S % p * k - (0 - S % p) * r / p * y, ?_⟩
 generalize S % p = R at *
 generalize S / p = s at *
 generalize (0 - R) * r / p = q at *
 generalize hf : (0 - R) * r % p = f at *
 have e3 : f * y = (0 - R) * r * y - p * q * y := by rw [<- Int.sub_mul]; congr 1; omega
 have e4 : (0 - R) * r * y = -R - R * (p * k) := by
  rw [zq114x, Int.mul_comm r y, hk, Int.mul_add, Int.mul_one, Int.sub_mul, Int.zero_mul]; omega
 rw [e3, e4, Int.mul_sub, Int.mul_sub, <- zq114x p R k, Int.mul_comm p R, zq114x R p k, <- zq114x p q y]
 omega
end L2
set_option maxRecDepth 100000
set_option maxHeartbeats 4000000
namespace L2
open PySem PySem.Spec PyProof.Rows
theorem eqvAll_ints : ∀ xs ys : List Int, PyData.eqvAll (xs.map PyData.int) (ys.map PyData.int) = decide (xs = ys)
  | [], [] => by simp [PyData.eqvAll]
  | [], y :: ys => by simp [PyData.eqvAll]
  | x :: xs, [] => by simp [PyData.eqvAll]
  | x :: xs, y :: ys => by
    simp only [zq7x, PyData.eqvAll, eqvAll_ints xs ys]
    have : PyData.eqv (.int x) (.int y) = decide (x = y) := by rw [zq60x]; simp [PyData.eqv]
    rw [this, zq60x]
    simp
theorem eqv_ints (xs ys : List Int) : PyData.eqv (.list (xs.map .int)) (.list (ys.map .int)) = decide (xs = ys) := by
 simp only [PyData.eqv]
 exact eqvAll_ints xs ys
theorem shaped_ints (xs : List Int) : SeqAt.shaped (.list (xs.map .int)) = true := by
 have h := shaped_word (xs.map some)
 have e : (xs.map some).map optD = xs.map PyData.int := by rw [zq64x]; rfl
 rw [e] at h
 unfold SeqAt.shaped
 simp [PyData.canLay0, PyData.depth, h.1, h.2]
end L2
set_option maxRecDepth 100000
set_option maxHeartbeats 4000000
namespace L2
open PySem PySem.Spec PyProof.Rows
def tRev (K : PySem.W.Frag) (te : TE) (ts : TO) : TE := fun σ H Q => te σ H fun x H1 => ts σ H1 fun k H2 => k = some (-1) /\ ∃ a xs, x = .ref a /\ SqL K H2 a xs /\ ∀ p, H2 p = none -> Q (.ref p) (upd H2 p (.lst xs.reverse))
theorem IsDs.rev {nb : Addr -> Prop} {H : Hp} : ∀ {ds : List PyData} {xs : List V}, IsDs nb H ds xs -> IsDs nb H ds.reverse xs.reverse
  | [], xs, h => by unfold IsDs at h; subst h; exact .nil
  | d :: ds, xs, h => by
    unfold IsDs at h
    obtain ⟨y, ys, e, h1, h2⟩ := h
    subst e
    rw [List.reverse_cons, List.reverse_cons]
    exact IsDs.append (IsDs.rev h2) (.cons h1 .nil)
section
variable {G : Gx} {ρ : Rh} {Φ : Pd} {ta tb te : TE} {K : PySem.W.Frag}
theorem EvN.rev {ts : TO} {Θ : Bool -> List PyData -> Prop} (h : Ev G ρ te fun f x => ∃ ds, x = .list ds /\ Ov G ρ ts fun o => o = some (-1) /\ Θ (f || scAll ds.reverse) ds.reverse) : EvN G ρ (tRev K te ts) Θ := fun nb σ H Q W z =>
 h nb σ H _ W fun f v H1 d ⟨ds, e, q⟩ s1 hv => q nb σ H1 _ (W.step s1) fun o H2 ⟨eo, q2⟩ s2 => by
  subst e
  obtain ⟨a, xs, rfl, n, hx, hd⟩ := (hv.keep s2.butS).ofL
  exact ⟨eo, a, xs, rfl, .of hx, fun p hp => EvN.fin W (s1.trans s2) hp hd.rev q2 z⟩
theorem Ev.rev {ts : TO} (h : Ev G ρ te fun f x => ∃ ds, x = .list ds /\ Ov G ρ ts fun o => o = some (-1) /\ Φ (f || scAll ds.reverse) (.list ds.reverse)) : Ev G ρ (tRev K te ts) Φ := (EvN.rev (Θ := fun f ds => Φ f (.list ds)) h).ev
theorem Ev.inI {ng : Bool} (h : Ev G ρ ta fun _ x => ∃ k : Int, x = .int k /\ Ev G ρ tb fun _ y => ∃ ns : List Int, y = .list (ns.map .int) /\ Φ true (.bool (decide (k ∈ ns) != ng))) : Ev G ρ (tOp (rIn K ng) ta tb) Φ := fun nb σ H Q W z =>
 h nb σ H _ W fun f v H1 d ⟨k, e, q⟩ s1 hv => q nb σ H1 _ (W.step s1) fun g u H2 d2 ⟨ns, e2, p⟩ s2 hu => by
  subst e e2
  have hk := hv.ofI
  subst hk
  obtain ⟨a, xs, rfl, na, hx, hd⟩ := hu.ofL
  have ex := isDs_ints_eq hd
  subst ex
  refine ⟨a, ns.map V.int, rfl, .inl (.of hx), rfl, ?_, ?_⟩
  ·rw [zq108x]
   intro x hx
   obtain ⟨o, _, rfl⟩ := zq21x.mp hx
   rfl
  ·have e : inV (V.int k) (ns.map V.int) = decide (k ∈ ns) := by
    unfold inV
    rw [List.any_map, zq60x, zq136x, decide_eq_true_eq]
    constructor
    ·rintro ⟨o, m, h⟩
     have : o = k := eq_of_beq h
     exact this ▸ m
    ·intro m
     exact ⟨k, m, beq_self_eq_true k⟩
   have e2 : (if ng = true then !inV (V.int k) (ns.map V.int) else inV (V.int k) (ns.map V.int)) = (decide (k ∈ ns) != ng) := by
    rw [e]
    cases ng <;> simp
   rw [e2]
   exact z true _ H2 _ p (s1.trans s2) (.bl _)
end
end L2
set_option maxRecDepth 100000
set_option maxHeartbeats 1000000
namespace PC
def PrimeN (n : Nat) : Prop := 2 <= n /\ ∀ d, d ∣ n -> d = 1 \/ d = n
def tr (q : Nat) : Nat -> Nat -> Bool
 | 0, _ => false
 | f + 1, d => if q < d * d then true else if q % d = 0 then false else tr q f (d + 1)
theorem prime_of_no {q : Nat} (h2 : 2 <= q) (h : ∀ e, 2 <= e -> e * e <= q -> q % e ≠ 0) : PrimeN q := by
 refine ⟨h2, fun d hd => ?_⟩
 obtain ⟨e, he⟩ := hd
 by_cases d1 : d = 1
 ·exact .inl d1
 by_cases e1 : e = 1
 ·right; rw [he, e1, Nat.mul_one]
 exfalso
 have d0 : d ≠ 0 := fun z => by rw [z, Nat.zero_mul] at he; omega
 have e0 : e ≠ 0 := fun z => by rw [z, Nat.mul_zero] at he; omega
 by_cases hle : d <= e
 ·refine h d (by omega) (by rw [he]; exact Nat.mul_le_mul_left d hle) ?_
  rw [he]; exact Nat.mul_mod_right d e
 ·refine h e (by omega) (by rw [he]; exact zq115x e (by omega)) ?_
  rw [he]; exact Nat.mul_mod_left d e
def pw (N : Nat) : Nat -> Nat -> Nat -> Nat -> Nat
 | 0, _, _, acc => acc
 | f + 1, e, g, acc => pw N f (e / 2) (g * g % N) (if e % 2 = 1 then acc * g % N else acc)
end PC
set_option maxRecDepth 100000
set_option maxHeartbeats 1000000
namespace L2
open PC
def PrimeZ (p : Int) : Prop := 2 <= p /\ ∀ d : Int, 0 < d -> d ∣ p -> d = 1 \/ d = p
theorem primeZ_of {n : Nat} (h : PrimeN n) : PrimeZ (n : Int) := by
 refine ⟨by have := h.1; omega, fun d d0 hd => ?_⟩
 obtain ⟨k, rfl⟩ := zq145x (Int.le_of_lt d0)
 rcases h.2 k (Int.natCast_dvd_natCast.mp hd) with e | e
 ·left; rw [e]; rfl
 ·right; rw [e]
theorem primeZ_no {p : Int} (h2 : 2 <= p) (h : NoDiv p) : PrimeZ p := by
 obtain ⟨n, rfl⟩ := zq145x (show 0 <= p by omega)
 refine primeZ_of (prime_of_no (by omega) fun e e1 e2 e3 => ?_)
 refine h (e : Int) (by omega) (by rw [<- Int.natCast_mul]; exact Int.ofNat_le.mpr e2) ?_
 have := congrArg (Nat.cast : Nat -> Int) e3
 simpa using this
end L2
set_option maxRecDepth 100000
set_option maxHeartbeats 4000000
set_option maxRecDepth 100000
set_option maxHeartbeats 4000000
set_option maxRecDepth 100000
set_option maxHeartbeats 4000000
set_option maxRecDepth 100000
set_option maxHeartbeats 4000000
namespace L2
open PySem PySem.Spec PyProof.Rows
section
variable {G : Gx} {ρ : Rh} {Φ : Pd} {te : TE} {t : TA} {i n : Nat} {f : Bool} {ds : List PyData} {Θ : List PyData -> Prop}
theorem Ev.tupS (h : Av G ρ t fun es => es.length <= 10000 /\ Φ (allF es || scAll (es.map (·.2))) (.tuple (es.map (·.2)))) : Ev G ρ (tTup t) Φ := fun nb σ H Q W z =>
 h nb σ H _ W fun es vs H1 ⟨hl, p⟩ s1 q1 => ⟨zq25x (by rw [q1.len]; exact hl) (by decide), fun a ha => z _ _ _ _ p (s1.trans (.same (W.step s1).bag (same_new ha))) (by
  cases hs : scAll (es.map (·.2)) with
  | true => rw [Bool.or_true]; exact .tup ((W.step s1).fresh ha) upd_same ((q1.all (f := false) fun z => by cases z).scAny hs)
  | false => rw [zq77x]; exact .tup ((W.step s1).fresh ha) upd_same ((q1.all fun z => z).keep (But.of (same_new ha))))⟩
theorem Ev.primeFrom (h : Ev G ρ te fun _ x => ∃ n : Int, x = .int n /\ 2 <= n /\ n <= 10002 /\ ∀ r : Int, PrimeZ r -> r < 10 ^ 40 -> Φ true (.int r)) : Ev G ρ (tCall spPrimeFrom [] E0 (tCons te tNil)) Φ := fun nb σ H Q W z =>
 h nb σ H _ W fun f v H1 d ⟨n, e, h1, h2, p⟩ s1 hv => by
  subst e
  exact ⟨n, by rw [hv.ofI]; rfl, h1, h2, fun r H' sm r1 r2 r3 => z true _ H' _ (p r (primeZ_no r1 r3) (by omega)) (s1.trans (.same (W.step s1).bag sm)) (.int r)⟩
theorem Ev.str {x : Str} (h : Φ true (.str x)) : Ev G ρ (tC (.str x)) Φ := fun nb σ H Q W z => z true _ H _ h (.refl W.bag) (by unfold IsD; rfl)
end
noncomputable def sol (p b a : Int) : Int := open Classical in if h : ∃ x, 0 <= x /\ x < p /\ ∃ k, b * x - a = p * k then Classical.choose h else 0
theorem pi_listK {X : Cx} {K : PySem.W.Frag} {tg l : Expr} {tl : TE} (hK : X.K = K) (hl : PE X l tl) : PI X tg l (iList K tl) := by subst hK; exact pi_list hl
theorem lookup_relabel {env : Env} {n : Str} {l : List (Str × NameKind)} : (List.lookup n l = some .cell \/ List.lookup n l = some .free) ->
    (List.lookup n (l.map fun x => match x with | (n, k) => if (k == NameKind.free && env.scope.kind == ScopeKind.function && env.kindOf n == some NameKind.cell) = true then (n, NameKind.cell) else (n, k)) = some .cell \/
     List.lookup n (l.map fun x => match x with | (n, k) => if (k == NameKind.free && env.scope.kind == ScopeKind.function && env.kindOf n == some NameKind.cell) = true then (n, NameKind.cell) else (n, k)) = some .free) := by
  induction l with
  | nil => intro h; simpa using h
  | cons a r ih =>
    obtain ⟨m, k⟩ := a
    intro h
    rw [zq7x]
    by_cases c : n = m
    · subst c
      rw [zq146x] at h
      dsimp only
      split
      · rw [zq146x]; exact .inl rfl
      · rw [zq146x]; exact h
    · have hb : (n == m) = false := by simpa using c
      have e1 : List.lookup n ((m, k) :: r) = List.lookup n r := by rw [zq2x, hb]
      rw [e1] at h
      dsimp only
      split
      · rw [zq2x, hb]; exact ih h
      · rw [zq2x, hb]; exact ih h
theorem CompOk.rel {sx : Scope} {env : Env} {NX : List Str} {scope : Scope} {N : List Str} {mp : List (Option Nat)} (h : CompOk sx NX scope N mp) : CompOk (relabel sx env) NX scope N mp :=
 ⟨h.kind, h.cell, h.names, fun y hy e => lookup_relabel (h.free y hy e), h.len, h.look⟩
theorem pe_lcompN {X : Cx} {scope : Scope} {C : Addr} {N : List Str} {s₀ : Shared} {H₀ : Hp} {fp : List Addr} {elt iter tg : Expr} {ifs : List Expr} {scope2 : Scope} {pos : Pos} {N2 : List Str} {mp : List (Option Nat)} {wi : TI} {g : TG} {tc : TT} {te : TE}
  (ok : CompOk scope N scope2 N2 mp) (hi : PI (compX X scope C N s₀ H₀ fp) tg iter wi)
  (hb : ∀ C' s₀' H₀' fp', PG (compX (compX X scope C N s₀ H₀ fp) scope2 C' N2 s₀' H₀' fp') tg g /\ PTs (compX (compX X scope C N s₀ H₀ fp) scope2 C' N2 s₀' H₀' fp') ifs tc /\ PE (compX (compX X scope C N s₀ H₀ fp) scope2 C' N2 s₀' H₀' fp') elt te) (hc : X.calm = true := by rfl)
  (hs : ∀ x, foldedSetIterable iter (compX X scope C N s₀ H₀ fp).env x = pure x := by intro _; rfl) : PE (compX X scope C N s₀ H₀ fp) (.ListComp elt [⟨tg, iter, ifs, 0⟩] scope2 pos) (tComp wi g tc te mp) :=
 pe_lcomp (X := compX X scope C N s₀ H₀ fp) (CompOk.rel ok) hi hb hc hs
end L2
set_option maxRecDepth 100000
set_option maxHeartbeats 4000000
namespace L2
open PySem PySem.Spec PyProof.Rows
section
variable {G : Gx} {ρ : Rh} {Φ : Pd} {ta tb te : TE} {E : DE} {K : PySem.W.Frag}
theorem Ev.slT {tl th : TO} (h : Ev G ρ te fun f x => ∃ ds, x = .tuple ds /\ Ov G ρ tl fun lo => Ov G ρ th fun hi => ¬ (HT.sIx ds.length 0 lo = 0 /\ HT.sIx ds.length ds.length hi = ds.length) /\ Φ f (.tuple (cutA ds lo hi))) : Ev G ρ (tSl (rSlT K) te tl th) Φ := fun nb σ H Q W z =>
 h nb σ H _ W fun f v H1 d ⟨ds, e, q⟩ s1 hv => q nb σ H1 _ (W.step s1) fun lo H2 q2 s2 => q2 nb σ H2 _ ((W.step s1).step s2) fun hi H3 ⟨hn, q3⟩ s3 => by
  subst e
  obtain ⟨a, xs, rfl, n, hx, hd⟩ := ((hv.keep s2.butS).keep s3.butS).ofT
  have W3 := ((W.step s1).step s2).step s3
  refine ⟨a, xs, rfl, .of hx, by rw [hd.length]; exact hn, fun p hp => ?_⟩
  exact z f _ _ _ q3 (s1.trans (s2.trans (s3.trans (.same W3.bag (same_new hp))))) (.tup (W3.fresh hp) upd_same (hd.cut.keep (But.of (same_new hp))))
theorem Ev.catT (h : Ev G ρ ta fun f x => ∃ ds, x = .tuple ds /\ ds ≠ [] /\ Ev G ρ tb fun g y => ∃ es, y = .tuple es /\ es ≠ [] /\ ds.length + es.length <= 10000 /\ Φ (f && g) (.tuple (ds ++ es))) : Ev G ρ (tOp (rCatT K) ta tb) Φ := fun nb σ H Q W z =>
 h nb σ H _ W fun f v H1 d ⟨ds, e, hne, q⟩ s1 hv => q nb σ H1 _ (W.step s1) fun g u H2 d2 ⟨es, e2, hne2, hl, p⟩ s2 hu => by
  subst e e2
  obtain ⟨a, xs, rfl, n, hx, hd⟩ := (hv.keep s2.butS).ofT
  obtain ⟨c, ys, rfl, m, hy, hc⟩ := hu.ofT
  have W2 := (W.step s1).step s2
  have hxl := hd.length
  have hyl := hc.length
  refine ⟨a, c, xs, ys, rfl, rfl, .of hx, .of hy, fun z => hne (zq74x.mp (by rw [<- hxl, z]; rfl)), zq25x (by rw [hxl, hyl]; exact hl) (by decide), fun z => absurd (zq74x.mp (by rw [<- hyl, z]; rfl)) hne2, fun _ q hq => ?_⟩
  refine z (f && g) _ _ _ p (s1.trans (s2.trans (.same W2.bag (same_new hq)))) (.tup (W2.fresh hq) upd_same ?_)
  exact (IsDs.append (hd.av (S_mono (fun z => (zq28x _ _ ▸ z).1) fun _ z => z)) (hc.av (S_mono (fun z => (zq28x _ _ ▸ z).2) fun _ z => z))).keep (But.of (same_new hq))
end
end L2
set_option maxRecDepth 100000
set_option maxHeartbeats 4000000
namespace L2
open PySem PySem.Spec PyProof.Rows
def fAll (es : List Fd) : Bool := es.all fun e => e.1 || scB e.2
section
variable {G : Gx} {ρ : Rh} {Φ : Pd} {t : TA} {te : TE}
theorem IsF.allS {nb : Addr -> Prop} {H : Hp} : ∀ {es : List Fd} {vs : List V} {f : Bool}, IsF G nb H es vs -> (f = true -> fAll es = true) -> IsDs (G.S nb f) H (es.map (·.2)) vs
  | [], _, _, h, _ => by unfold IsF at h; subst h; exact .nil
  | e :: es, _, f, h, hf => by
    obtain ⟨v, ws, rfl, h1, h2⟩ := h
    have hh : f = true -> (e.1 || scB e.2) = true /\ fAll es = true := fun z => by
      have := hf z
      unfold fAll at this
      rw [zq87x, zq28x] at this
      exact this
    refine .cons ?_ (h2.allS fun z => (hh z).2)
    cases hs : scB e.2 with
    | true => exact h1.scAny hs
    | false => exact h1.av (S_mono (fun z => by have := (hh z).1; rw [hs, zq77x] at this; exact this) fun _ z => z)
theorem Ev.tupF (h : Av G ρ t fun es => es.length <= 10000 /\ Φ (fAll es) (.tuple (es.map (·.2)))) : Ev G ρ (tTup t) Φ := fun nb σ H Q W z =>
 h nb σ H _ W fun es vs H1 ⟨hl, p⟩ s1 q1 => ⟨zq25x (by rw [q1.len]; exact hl) (by decide), fun a ha => z _ _ _ _ p (s1.trans (.same (W.step s1).bag (same_new ha)))
  (.tup ((W.step s1).fresh ha) upd_same ((q1.allS fun z => z).keep (But.of (same_new ha))))⟩
end
def rIsNotB : R2 := fun x y H Q => ∃ a b : Bool, x = .bl a /\ y = .bl b /\ Q (.bl (!(a == b))) H
theorem Ev.isNotB {G : Gx} {ρ : Rh} {ta : TE} {b : Bool} {Φ : Pd} (h : Ev G ρ ta fun _ x => ∃ a, x = .bool a /\ Φ true (.bool (!(a == b)))) : Ev G ρ (tOp rIsNotB ta (tC (.bl b))) Φ := fun nb σ H Q W z =>
 h nb σ H _ W fun f v H1 d ⟨a, e, q⟩ s1 hv => by
  subst e
  unfold IsD at hv
  subst hv
  exact ⟨a, b, rfl, rfl, z true _ H1 _ q s1 (.bl _)⟩
theorem cut_take {α : Type} {xs : List α} {k : Int} (h0 : 0 <= k) : cutA xs none (some k) = xs.take k.toNat := by
 by_cases h : k <= xs.length
 ·exact cut_to h0 h
 ·unfold cutA HT.sIx
  simp only [zq97x, Nat.sub_zero]
  rw [zq90x (by first | omega | (split <;> omega)), zq90x (by omega)]
abbrev rowD (r : List Int) : PyData := .list (r.map .int)
end L2
set_option maxRecDepth 100000
set_option maxHeartbeats 4000000
set_option maxRecDepth 100000
/- THE LAST THEOREM (shape; LID, My.* are yours):
   My.Adr: a structure of the addresses that your layer names (classes, functions); My.Txt K t: a structure (Prop) of the equations over K;
   My.txt_mk : {K} {implicit addresses ..} (e1 : nsIn K mainGlobals "law" = some (some (.ref f))) (e2 : K.lookup f = some ⟨oc, od, .func (fnOf "law" "law" params body scope dV kV doc pm an cdv ct), sl⟩) (e3 : codeIn K cdv "law" = true) .. : ∃ t, My.Txt K t
set_option maxRecDepth 100000 in
set_option maxHeartbeats 0 in
(the tactic k_is has no namespace: write k_is) -/
set_option maxRecDepth 100000
set_option maxHeartbeats 4000000
set_option maxRecDepth 100000
set_option maxHeartbeats 4000000
namespace L2
open PySem PySem.Spec PyProof.Rows
theorem enterW {N : List Str} {vs : List V} {ds : List PyData} {nb : Addr -> Prop} {H : Hp} {ρ : Rh} {P : St -> Hp -> Prop} (hl : Live nb H) (hd : IsDs nb H ds vs) (hρ : ρ = ds.map (Sl.d false) ++ List.replicate (N.length - ds.length) .no)
  (h : ∀ nb' σ H1, Wd ⟨none, H, nb, []⟩ nb' ρ σ H1 -> P σ H1) : P (start N vs) H :=
 Sv.enterD (t := fun _ σ H1 => P σ H1) (Φ := fun _ _ => False) (Q := fun _ _ => True) hl hd (fun _ _ _ _ z => z.elim) hρ (fun nb' σ H1 _ W _ => h nb' σ H1 W)
end L2
set_option maxRecDepth 100000
set_option maxHeartbeats 4000000
namespace L2
abbrev Cn := List (Int × Int)
structure CntOk (cs : Cn) : Prop where
 rng : ∀ c ∈ cs, 0 <= c.1 /\ c.1 <= 12 /\ 0 <= c.2 /\ c.2 <= 10 ^ 7
 nd : (cs.map (·.1)).Nodup
 len : cs.length <= 14
 pos : ∃ c ∈ cs, 0 < c.1 /\ 0 < c.2
def sumS : Cn -> Rat -> Rat
 | [], _ => 0
 | c :: r, v => (if 0 < c.1 then ((c.1 * c.2 : Int) : Rat) * v ^ (c.1.toNat - 1) else 0) + sumS r v
def sumW : Cn -> Int
 | [] => 0
 | c :: r => c.1 * c.2 + sumW r
def tellT (cs : Cn) (v : Rat) : Rat := sumS cs v / (sumW cs : Int)
def growG (l c : Cn) (s v : Rat) : Rat := s * tellT l (1 - tellT c (1 - v))
section
variable {l c : Cn} {s : Rat} (hl : CntOk l) (hc : CntOk c) (s0 : 0 <= s)
include hl hc s0
end
def ceilR (x : Rat) : Int := -((-x).floor)
end L2
namespace L2
structure Gw where
 l : Cn
 c : Cn
 s : Rat
 u : Int
def Gw.gr (g : Gw) (x : Int) : Rat := growG g.l g.c g.s ((x : Rat) / g.u) * g.u
def Gw.lo (g : Gw) : Nat -> Int
 | 0 => (g.s * g.u).floor
 | k + 1 => (g.gr (g.lo k)).floor
def Gw.hi (g : Gw) : Nat -> Int
 | 0 => ceilR (g.s * g.u)
 | k + 1 => ceilR (g.gr (g.hi k))
end L2
set_option maxRecDepth 100000
set_option maxHeartbeats 4000000
namespace L2
open PySem PySem.Spec PyProof.Rows
section
variable {X : Cx}
def rAddS : R2 := fun x y H Q => ∃ i j, x = .str i /\ y = .str j /\ i.length + j.length <= sizeLine /\ Q (.str (i ++ j)) H
theorem op_addS : OpR X (binaryOp .Add) rAddS := op_add_str
def rIntS : List V -> Hp -> VK -> Prop := fun xs H Q => ∃ (x : Str) (n : Int), xs = [.str x] /\ x.length <= 640 /\ PySem.intText? x = some n /\ Q (.int n) H
theorem call_intS : CallR X (.type "int") rIntS := by
 intro pins s σ H xs us Q I r h
 obtain ⟨x, n, rfl, hl, hn, q⟩ := h
 obtain ⟨u, rfl, t, rfl⟩ := vals1 r
 exact PySem.W.KIN.call_text hn hl ⟨.int n, H, I.tok _, ⟨_, rfl⟩, q⟩
end
section
variable {G : Gx} {ρ : Rh} {te ta tb : TE} {s : TS} {gt : TG} {E : DE} {K : PySem.W.Frag} {Φ : Pd}
theorem Ev.intS (h : Ev G ρ te fun _ x => ∃ i n, x = .str i /\ i.length <= 640 /\ PySem.intText? i = some n /\ Φ true (.int n)) : Ev G ρ (tCB rIntS (tCons te tNil)) Φ := fun nb σ H Q W z =>
 h nb σ H _ W fun f v H1 d ⟨i, n, e, hl, hn, q⟩ s1 hv => by
  subst e
  unfold IsD at hv
  subst hv
  exact ⟨i, n, rfl, hl, hn, z true _ H1 _ q s1 (.int _)⟩
end
@[reducible] def bdD (g : Gw) (k : Nat) : PyData := .tuple [.int (g.lo k), .int (g.hi k)]
@[reducible] def fallD (n : Nat) : PyData := .tuple [.str "falls", .int n]
@[reducible] def stayD (x : Int) : PyData := .tuple [.str "stays", .int x]
@[reducible] def openD : PyData := .tuple [.str "open"]
def gLst (K : PySem.W.Frag) (n : Nat) (t : TGs) : TG := fun v σ H Q => ∃ a xs, v = .ref a /\ SqL K H a xs /\ xs.length = n /\ t xs σ H Q
theorem Gv.lst {G : Gx} {ρ : Rh} {f : Bool} {ds : List PyData} {K : PySem.W.Frag} {Θ : Rh -> Prop} {n : Nat} {u : TGs} (hl : ds.length = n) (h : Gvs G ρ u f ds Θ) : Gv G ρ (gLst K n u) f (.list ds) Θ := fun nb σ H v Q W hv z => by
 obtain ⟨a, xs, rfl, m, hx, hd⟩ := hv.ofL
 exact ⟨a, xs, rfl, .of hx, by rw [hd.length]; exact hl, h nb σ H xs Q W hd z⟩
end L2
set_option maxRecDepth 100000
set_option maxHeartbeats 4000000
namespace L2
open PySem PySem.Spec PyProof.Rows PySem.W
section
variable {n : Nat} {cmp : Nat -> Nat -> (Bool -> Shared -> Prop) -> Shared -> Prop} {s : Shared}
variable (h0 : 0 < n) (hc : ∀ i j C, i < n -> j < n -> (∀ b, C b s) -> cmp i j C s)
include h0 hc
end
end L2
set_option maxRecDepth 100000
set_option maxHeartbeats 4000000
namespace L2
open PySem PySem.Spec PyProof.Rows PySem.W
section
variable {n : Nat} {key : Nat -> Int} {cmp : Nat -> Nat -> (Bool -> Shared -> Prop) -> Shared -> Prop} {s : Shared}
variable (h0 : 0 < n) (hc : ∀ i j C, i < n -> j < n -> C (decide (key i < key j)) s -> cmp i j C s)
include h0 hc
end
end L2
set_option maxRecDepth 100000
set_option maxHeartbeats 4000000
set_option maxRecDepth 100000
set_option maxHeartbeats 4000000
namespace L2
open PySem PySem.Spec PyProof.Rows
@[reducible] def gwOf (l c : Cn) (u p : Int) : Gw := ⟨l, c, (p : Rat) / u, u⟩
end L2
set_option maxRecDepth 100000
set_option maxHeartbeats 4000000
set_option maxRecDepth 100000
set_option maxHeartbeats 4000000
set_option maxRecDepth 100000
set_option maxHeartbeats 4000000
set_option maxRecDepth 100000
set_option maxHeartbeats 4000000
namespace L2
open PySem PySem.Spec PyProof.Rows
abbrev Ks := List (Int × PyData)
section
variable {G : Gx} {ρ ρc : Rh} {Φ Ψ : Pd} {ta tb te : TE} {t : TA} {i : Nat} {f g : Bool} {d e : PyData} {ks : Ks} {K : PySem.W.Frag} {E : DE} {Θ : Bool -> Ks -> Prop}
@[reducible] def itD (p : Int × PyData) : PyData := .tuple [.int p.1, p.2]
end
end L2
set_option maxRecDepth 100000
set_option maxHeartbeats 4000000
set_option maxRecDepth 100000
set_option maxHeartbeats 4000000
namespace L2
open PySem PySem.Spec PyProof.Rows
theorem pe_bmK {X : Cx} {K : PySem.W.Frag} {e : Expr} {T : String} {r : V -> List V -> Hp -> VK -> Prop} {to : TE} {t : TA} (hK : X.K = K) (h : PE X e (tBM X.K T r to t)) : PE X e (tBM K T r to t) := by subst hK; exact h
structure NetK (n : Int) (cs : List Prs) : Prop where
 n0 : 1 <= n
 n1 : n <= 10
 c0 : cs ≠ []
 c1 : cs.length <= 8
 ok : ∀ prs ∈ cs, prs ≠ [] /\ prs.length <= 4 /\ (prs.map (·.1)).Pairwise (· < ·) /\ ∀ pr ∈ prs, 0 <= pr.1 /\ pr.1 < n
section
variable {n : Int} {cs : List Prs} (h : NetK n cs)
include h
end
end L2
set_option maxRecDepth 100000
set_option maxHeartbeats 4000000
set_option maxRecDepth 100000
set_option maxHeartbeats 4000000
set_option maxRecDepth 100000
set_option maxHeartbeats 4000000
namespace L2
open PySem PySem.Spec PyProof.Rows
theorem rd_dK {H : Hp} {a : Addr} {xs ys : List (Key × V)} (h : Rd H a (.dK xs)) (g : Rd H a (.dK ys)) : xs = ys := by
 rcases h with h | ⟨o, h⟩ <;> rcases g with g | ⟨u, g⟩ <;> rw [h] at g <;> cases g <;> rfl
theorem KeyD.fn : ∀ {d e : PyData} {k : Key}, KeyD d k -> KeyD e k -> d = e
  | .int i, e, k, h, g => by
    have h : k = .inl i := h
    cases e <;> first | exact g.elim | (have g : k = _ := g; rw [h] at g; injection g with g; subst g; rfl) | (have g : k = _ := g; rw [h] at g; cases g)
  | .str i, e, k, h, g => by
    have h : k = .inr i := h
    cases e <;> first | exact g.elim | (have g : k = _ := g; rw [h] at g; injection g with g; subst g; rfl) | (have g : k = _ := g; rw [h] at g; cases g)
  | .none, _, _, h, _ => h.elim
  | .bool _, _, _, h, _ => h.elim
  | .list _, _, _, h, _ => h.elim
  | .tuple _, _, _, h, _ => h.elim
  | .dict _, _, _, h, _ => h.elim
mutual
theorem IsD.fn {S S' : Addr -> Prop} {H : Hp} : ∀ {d e : PyData} {v : V}, IsD S H d v -> IsD S' H e v -> d = e
  | .none, e, v, h, g => by
    unfold IsD at h; subst h
    cases e <;> unfold IsD at g <;> first | rfl | (cases g; done) | (obtain ⟨_, _, z, _⟩ := g; cases z)
  | .bool b, e, v, h, g => by
    unfold IsD at h; subst h
    cases e <;> unfold IsD at g <;> first | (cases g; done) | (cases g; rfl) | (obtain ⟨_, _, z, _⟩ := g; cases z)
  | .int b, e, v, h, g => by
    unfold IsD at h; subst h
    cases e <;> unfold IsD at g <;> first | (cases g; done) | (cases g; rfl) | (obtain ⟨_, _, z, _⟩ := g; cases z)
  | .str b, e, v, h, g => by
    unfold IsD at h; subst h
    cases e <;> unfold IsD at g <;> first | (cases g; done) | (cases g; rfl) | (obtain ⟨_, _, z, _⟩ := g; cases z)
  | .list ds, e, v, h, g => by
    unfold IsD at h
    obtain ⟨a, xs, rfl, n, hx, hd⟩ := h
    cases e <;> unfold IsD at g <;> first | (cases g; done) | skip
    all_goals (obtain ⟨a', xs', z, n', hx', hd'⟩ := g; cases z)
    all_goals first
      | (rcases hx' with hx' | ⟨o, hx'⟩ <;> rw [hx] at hx' <;> cases hx'; done)
      | (rw [hx] at hx'; cases hx'; done)
      | (rw [hx] at hx'; cases hx'; rw [IsDs.fn hd hd'])
  | .tuple ds, e, v, h, g => by
    unfold IsD at h
    obtain ⟨a, xs, rfl, n, hx, hd⟩ := h
    cases e <;> unfold IsD at g <;> first | (cases g; done) | skip
    all_goals (obtain ⟨a', xs', z, n', hx', hd'⟩ := g; cases z)
    all_goals first
      | (rcases hx' with hx' | ⟨o, hx'⟩ <;> rw [hx] at hx' <;> cases hx'; done)
      | (rw [hx] at hx'; cases hx'; done)
      | (rw [hx] at hx'; cases hx'; rw [IsDs.fn hd hd'])
  | .dict ds, e, v, h, g => by
    unfold IsD at h
    obtain ⟨a, xs, rfl, n, hx, hd⟩ := h
    cases e <;> unfold IsD at g <;> first | (cases g; done) | skip
    all_goals (obtain ⟨a', xs', z, n', hx', hd'⟩ := g; cases z)
    all_goals first
      | (rcases hx with hx | ⟨o, hx⟩ <;> rw [hx] at hx' <;> cases hx'; done)
      | (rw [IsKs.fn hd (by rw [rd_dK hx hx']; exact hd')])
theorem IsDs.fn {S S' : Addr -> Prop} {H : Hp} : ∀ {ds es : List PyData} {vs : List V}, IsDs S H ds vs -> IsDs S' H es vs -> ds = es
  | [], es, vs, h, g => by
    unfold IsDs at h; subst h
    cases es with
    | nil => rfl
    | cons e es => unfold IsDs at g; obtain ⟨_, _, z, _⟩ := g; cases z
  | d :: ds, es, vs, h, g => by
    unfold IsDs at h
    obtain ⟨y, ys, rfl, h1, h2⟩ := h
    cases es with
    | nil => unfold IsDs at g; cases g
    | cons e es =>
      unfold IsDs at g
      obtain ⟨y', ys', z, g1, g2⟩ := g
      cases z
      rw [IsD.fn h1 g1, IsDs.fn h2 g2]
theorem IsKs.fn {S S' : Addr -> Prop} {H : Hp} : ∀ {ds es : List (PyData × PyData)} {vs : List (Key × V)}, IsKs S H ds vs -> IsKs S' H es vs -> ds = es
  | [], es, vs, h, g => by
    unfold IsKs at h; subst h
    cases es with
    | nil => rfl
    | cons e es => unfold IsKs at g; obtain ⟨_, _, z, _⟩ := g; cases z
  | d :: ds, es, vs, h, g => by
    unfold IsKs at h
    obtain ⟨y, ys, rfl, h1, h2⟩ := h
    cases es with
    | nil => unfold IsKs at g; cases g
    | cons e es =>
      unfold IsKs at g
      obtain ⟨y', ys', z, g1, g2⟩ := g
      cases z
      rw [IsK.fn h1 g1, IsKs.fn h2 g2]
theorem IsK.fn {S S' : Addr -> Prop} {H : Hp} : ∀ {d e : PyData × PyData} {v : Key × V}, IsK S H d v -> IsK S' H e v -> d = e
  | (k, d), (k', e), v, h, g => by
    unfold IsK at h g
    rw [KeyD.fn h.1 g.1, IsD.fn h.2 g.2]
end
mutual
theorem IsD.out {S : Addr -> Prop} {H : Hp} {c : Addr} {D : PyData} (hc : IsD S H D (.ref c)) : ∀ {d : PyData} {v : V}, sizeOf d < sizeOf D -> IsD S H d v -> IsD (fun x => S x \/ x = c) H d v
  | .none, _, _, h => by unfold IsD at h ⊢; exact h
  | .bool _, _, _, h => by unfold IsD at h ⊢; exact h
  | .int _, _, _, h => by unfold IsD at h ⊢; exact h
  | .str _, _, _, h => by unfold IsD at h ⊢; exact h
  | .list ds, v, hs, h => by
    have h0 := h
    unfold IsD at h ⊢
    obtain ⟨a, xs, rfl, n, hx, hd⟩ := h
    refine ⟨a, xs, rfl, fun z => z.elim n fun z => ?_, hx, IsDs.out hc (by simp at hs; omega) hd⟩
    subst z
    rw [IsD.fn hc h0] at hs
    exact absurd hs (zq40x _)
  | .tuple ds, v, hs, h => by
    have h0 := h
    unfold IsD at h ⊢
    obtain ⟨a, xs, rfl, n, hx, hd⟩ := h
    refine ⟨a, xs, rfl, fun z => z.elim n fun z => ?_, hx, IsDs.out hc (by simp at hs; omega) hd⟩
    subst z
    rw [IsD.fn hc h0] at hs
    exact absurd hs (zq40x _)
  | .dict ds, v, hs, h => by
    have h0 := h
    unfold IsD at h ⊢
    obtain ⟨a, xs, rfl, n, hx, hd⟩ := h
    refine ⟨a, xs, rfl, fun z => z.elim n fun z => ?_, hx, IsKs.out hc (by simp at hs; omega) hd⟩
    subst z
    rw [IsD.fn hc h0] at hs
    exact absurd hs (zq40x _)
theorem IsDs.out {S : Addr -> Prop} {H : Hp} {c : Addr} {D : PyData} (hc : IsD S H D (.ref c)) : ∀ {ds : List PyData} {vs : List V}, sizeOf ds < sizeOf D -> IsDs S H ds vs -> IsDs (fun x => S x \/ x = c) H ds vs
  | [], _, _, h => by unfold IsDs at h ⊢; exact h
  | d :: ds, _, hs, h => by
    unfold IsDs at h ⊢
    obtain ⟨y, ys, e, h1, h2⟩ := h
    exact ⟨y, ys, e, IsD.out hc (by simp at hs; omega) h1, IsDs.out hc (by simp at hs; omega) h2⟩
theorem IsKs.out {S : Addr -> Prop} {H : Hp} {c : Addr} {D : PyData} (hc : IsD S H D (.ref c)) : ∀ {ds : List (PyData × PyData)} {vs : List (Key × V)}, sizeOf ds < sizeOf D -> IsKs S H ds vs -> IsKs (fun x => S x \/ x = c) H ds vs
  | [], _, _, h => by unfold IsKs at h ⊢; exact h
  | d :: ds, _, hs, h => by
    unfold IsKs at h ⊢
    obtain ⟨y, ys, e, h1, h2⟩ := h
    exact ⟨y, ys, e, IsK.out hc (by simp at hs; omega) h1, IsKs.out hc (by simp at hs; omega) h2⟩
theorem IsK.out {S : Addr -> Prop} {H : Hp} {c : Addr} {D : PyData} (hc : IsD S H D (.ref c)) : ∀ {d : PyData × PyData} {v : Key × V}, sizeOf d < sizeOf D -> IsK S H d v -> IsK (fun x => S x \/ x = c) H d v
  | (k, d), _, hs, h => by
    unfold IsK at h ⊢
    exact ⟨h.1, IsD.out hc (by simp at hs; omega) h.2⟩
end
def EvF (G : Gx) (ρ : Rh) (te : TE) (Φ : PyData -> Prop) : Prop := ∀ nb σ H (Q : VK), Wd G nb ρ σ H -> (∀ v H' d, Φ d -> Step G.B H H' -> IsD (fun a => H a ≠ none) H' d v -> Q v H') -> te σ H Q
section
variable {G : Gx} {ρ : Rh} {ta tb te : TE} {t : TA} {E : DE} {i j k m : Nat} {f : Bool} {K : PySem.W.Frag} {Φ : PyData -> Prop}
theorem Wd.live_of {nb : Addr -> Prop} {σ : St} {H H1 : Hp} {a : Addr} (W : Wd G nb ρ σ H) (s : Step G.B H H1) (h : H a ≠ none) : H1 a ≠ none := fun e => h (W.none_of s e)
theorem EvF.callB {n : Nat} {F : DF} (hm : MonoF F) (e : ρ[i]? = some .bag) (h : Av G ρ t fun es => es.length + 1 = n /\ F (es.map (·.2)) fun f d => f = true /\ Φ d) : EvF G ρ (tCall (spB n F) [] E0 (tCons (tVar i) t)) Φ := fun nb σ H Q W z => by
 obtain ⟨b, l, hB, e1, B⟩ := W.theBag e
 refine ⟨.ref b, e1, h nb σ H _ W fun es vs H1 ⟨hl, p⟩ s1 q1 => ?_⟩
 have W1 := W.step s1
 show spB n F ((V.ref b :: vs) ++ []) H1 Q E0
 rw [zq44x]
 have hb : ∀ f, G.S nb f b := fun f => .inr (.inr (.inl fun n => n b l hB rfl))
 refine ⟨by rw [zq35x, q1.len, hl], b, l, vs, G.S nb (allF es), es.map (·.2), rfl, W1.bag b l hB, W1.liveS, hb _, q1.all fun z => z, hm _ _ _ p fun f d ⟨hf, hp⟩ v H' bt B' hd => z v H' d hp (s1.trans (.ofBut hB bt B')) (hd.av fun a q => ?_)⟩
 exact .inr ⟨hf, W.live_of s1 q⟩
theorem EvF.callD {n : Nat} {F : DF} (hm : MonoF F) (h : Av G ρ t fun es => es.length = n /\ F (es.map (·.2)) fun f d => f = true /\ Φ d) : EvF G ρ (tCall (spD n F) [] E0 t) Φ := fun nb σ H Q W z =>
 h nb σ H _ W fun es vs H1 ⟨hl, p⟩ s1 q1 => by
  have W1 := W.step s1
  rw [zq44x]
  refine ⟨by rw [q1.len, hl], G.S nb (allF es), es.map (·.2), W1.liveS, q1.all fun z => z, hm _ _ _ p fun f d ⟨hf, hp⟩ v H' sm hd => z v H' d hp (s1.trans (.same W1.bag sm)) (hd.av fun a q => ?_)⟩
  exact .inr ⟨hf, W.live_of s1 q⟩
end
end L2
set_option maxRecDepth 100000
set_option maxHeartbeats 1000000
set_option maxRecDepth 100000
set_option maxHeartbeats 4000000
namespace L2
open PySem PySem.Spec PyProof.Rows
def inLot (lot : List Int) (prs : Prs) : Nat := (prs.filter fun pr => decide (pr.1 ∈ lot)).length
def holdB (cs : List Prs) (lot : List Int) : Bool := cs.all fun prs => decide (inLot lot prs ≠ 1)
end L2
set_option maxRecDepth 100000
set_option maxHeartbeats 4000000
set_option maxRecDepth 100000
set_option maxHeartbeats 4000000
namespace L2
open PySem PySem.Spec PyProof.Rows
structure Great (cs : List Prs) (lot g : List Int) : Prop where
 sub : ∃ q : Int -> Bool, g = lot.filter q
 out : holdB cs g = true
 max : ∀ T : List Int, (∀ x ∈ T, x ∈ lot) -> holdB cs T = true -> ∀ x ∈ T, x ∈ g
@[reducible] def insK (S : List Int) : Ks := S.map fun x => (x, PyData.bool true)
end L2
set_option maxRecDepth 100000
set_option maxHeartbeats 4000000
namespace L2
open PySem PySem.Spec PyProof.Rows
theorem Great.mem {cs : List Prs} {lot g : List Int} (h : Great cs lot g) : ∀ x ∈ g, x ∈ lot := fun x hx => by
 obtain ⟨q, e⟩ := h.sub
 rw [e] at hx
 exact (zq84x.mp hx).1
end L2
set_option maxRecDepth 100000
set_option maxHeartbeats 4000000
namespace L2
open PySem PySem.Spec PyProof.Rows
def fst0 (row : List Int) : Int := match row.getLast? with | none => 0 | some l => l + 1
def aft (n : Int) (row : List Int) : List Int := (List.range (n - fst0 row).toNat).map fun (i : Nat) => fst0 row + (i : Int)
def ext (n : Int) (row : List Int) : List (List Int) := (aft n row).map fun p => row ++ [p]
@[reducible] def optRow : Option (List Int) -> PyData
 | none => .none
 | some r => rowD r
end L2
set_option maxRecDepth 100000
set_option maxHeartbeats 4000000
set_option maxRecDepth 100000
set_option maxHeartbeats 4000000
set_option maxRecDepth 100000
set_option maxHeartbeats 4000000
set_option maxRecDepth 100000
set_option maxHeartbeats 4000000
namespace L2
open PySem PySem.Spec PyProof.Rows
def gI (r : List Int) (i : Nat) : Int := r.getD i 0
def co (prs : Prs) (j : Nat) : Int := (prs.map fun pr => if pr.1.toNat = j then pr.2 else 0).sum
def PrsQ (p : Int) (m : Nat) (prs : Prs) : Prop := (prs.map (·.1)).Nodup /\ prs.length <= 1000 /\ ∀ pr ∈ prs, 0 <= pr.1 /\ pr.1 < m /\ 1 <= pr.2 /\ pr.2 < p
end L2
set_option maxRecDepth 100000
set_option maxHeartbeats 4000000
set_option maxRecDepth 100000
set_option maxHeartbeats 4000000
set_option maxRecDepth 100000
set_option maxHeartbeats 4000000
set_option maxRecDepth 100000
set_option maxHeartbeats 4000000
namespace L2
open PySem PySem.Spec PyProof.Rows
theorem freshL {P : (Addr -> Prop) -> Prop} {H : Hp} (hP : ∀ {S S' : Addr -> Prop}, (∀ a, S' a -> S a) -> P S -> P S') (hf : ∀ {S : Addr -> Prop} {p : Addr}, H p = none -> P S -> P fun a => S a \/ a = p) : ∀ {L : List Addr} {S : Addr -> Prop}, (∀ a ∈ L, H a = none) -> P S -> P fun a => S a \/ a ∈ L
 | [], S, _, h => hP (fun a z => z.elim (fun z => z) fun z => by cases z) h
 | p :: L, S, hL, h => hP (fun a z => by
   rcases z with z | z
   ·exact .inl (.inl z)
   ·rcases zq4x.mp z with z | z
    ·exact .inr z
    ·exact .inl (.inr z)) (hf (hL p (zq14x ..)) (freshL hP hf (L := L) (fun a m => hL a (zq20x _ m)) h))
section
variable {G : Gx} {ρ : Rh} {nb : Addr -> Prop} {σ : St} {H H1 : Hp} {i : Nat} {L : List Addr} {c c' : Cu} {f : Bool} {d : PyData} {p : Addr} {o : HO} {E : DE}
theorem Wd.growL (W : Wd G nb ρ σ H) (s1 : Step G.B H H1) (ha : ∀ a ∈ L, H a = none) (e : ∀ a ∈ L, H1 a ≠ none) : Wd G (fun x => nb x \/ x ∈ L) ρ σ H1 /\ (∀ a ∈ L, NB G.B a) /\ ∀ f x, G.S (fun x => nb x \/ x ∈ L) f x -> (G.S nb f x \/ x ∈ L) := by
  have hN : ∀ a ∈ L, NB G.B a := fun a m => NB.new W.bag (ha a m)
  have hA : ∀ f x, G.S (fun x => nb x \/ x ∈ L) f x -> (G.S nb f x \/ x ∈ L) := fun f x z => by
    rcases z with (z | z) | z | z | z
    · exact .inl (.inl z)
    · exact .inr z
    · exact .inl (.inr (.inl z))
    · exact .inl (.inr (.inr (.inl z)))
    · exact .inl (.inr (.inr (.inr z)))
  have W1 := W.step s1
  have fD : ∀ {S : Addr -> Prop} {d : PyData} {v : V}, IsD S H d v -> IsD (fun a => S a \/ a ∈ L) H d v := fun {S d v} h => freshL (P := fun S => IsD S H d v) (fun z h => IsD.av z h) (fun hp h => IsD.fresh hp h) ha h
  have fDs : ∀ {S : Addr -> Prop} {d : List PyData} {v : List V}, IsDs S H d v -> IsDs (fun a => S a \/ a ∈ L) H d v := fun {S d v} h => freshL (P := fun S => IsDs S H d v) (fun z h => IsDs.av z h) (fun hp h => IsDs.fresh hp h) ha h
  have fKs : ∀ {S : Addr -> Prop} {d : List (PyData × PyData)} {v : List (Key × V)}, IsKs S H d v -> IsKs (fun a => S a \/ a ∈ L) H d v := fun {S d v} h => freshL (P := fun S => IsKs S H d v) (fun z h => IsKs.av z h) (fun hp h => IsKs.fresh hp h) ha h
  have fH : ∀ {S : Addr -> Prop} {d : HD} {v : V}, IsH S H d v -> IsH (fun a => S a \/ a ∈ L) H d v := fun {S d v} h => freshL (P := fun S => IsH S H d v) (fun z h => IsH.av h z) (fun hp h => IsH.fresh h hp) ha h
  refine ⟨?_, hN, hA⟩
  refine ⟨W1.bag, fun x n => ?_, W1.old, fun x n q => ?_, W.gA, W.len, W.gB, fun h m => ((fH (W.hld h m)).keep (s1.but fun x z => .inl (.inr (.inr (.inl z))))).av (hA h.1), fun j s e' => ?_, W.apart, W.apd, W.apc⟩
  · rcases n with n | n
    · exact W1.live x n
    · exact e x n
  · rcases n with n | n
    · exact W.nbo x n q
    · cases z : G.H0 x with
      | none => rfl
      | some o => have := ha x n; rw [W.old x o q z] at this; cases this
  · obtain ⟨x, e1, h⟩ := W.ok j s e'
    refine ⟨x, e1, ?_⟩
    cases s with
    | no => trivial
    | d f d => obtain ⟨v, e, h⟩ := h; exact ⟨v, e, ((fD h).keep (s1.but fun x z => .inl (.inr (.inr (.inl z))))).av (hA f)⟩
    | own c f es => obtain ⟨e, n, q, xs, hx, hd⟩ := h; exact ⟨e, .inl n, q, xs, s1.1 _ _ q hx, ((fDs hd).keep (s1.but fun x z => .inl (.inr (.inr (.inl z))))).av (hA f)⟩
    | bag => exact h
    | raw v => exact h
    | dic c f es => obtain ⟨e, n, q, xs, hx, hd⟩ := h; exact ⟨e, .inl n, q, xs, s1.1 _ _ q hx, ((fKs hd).keep (s1.but fun x z => .inl (.inr (.inr (.inl z))))).av (hA f)⟩
    | cu c =>
      obtain ⟨e, n, q⟩ := h
      refine ⟨e, fun a ha => ⟨.inl (n a ha).1, (n a ha).2⟩, c.av (hA c.f) (c.keep (.of fun x o hx e => s1.1 x o ?_ e) (freshL (P := fun S => c.P S H) (fun z h => c.av z h) (fun hp h => c.fresh hp h) ha q))⟩
      rcases hx with hx | hx
      · exact zq51x fun z => hx (.inl (.inr (.inr (.inl z))))
      · exact (n x hx).2
theorem SlOk.adr_nb {x : Option V} {s : Sl} (h : SlOk G nb H x s) : ∀ a ∈ s.adr, nb a /\ NB G.B a := by
 cases s with
 | own a f ds => intro x hx; rw [zq10x.mp hx]; exact ⟨h.2.1, h.2.2.1⟩
 | dic a f ds => intro x hx; rw [zq10x.mp hx]; exact ⟨h.2.1, h.2.2.1⟩
 | cu c => exact h.2.1
 | no => intro _ z; cases z
 | d _ _ => intro _ z; cases z
 | bag => intro _ z; cases z
 | raw _ => intro _ z; cases z
theorem Wd.cu_of (W : Wd G nb ρ σ H) (s1 : Step G.B H H1) (ha : ∀ a ∈ c.F, H a = none) (e : ∀ a ∈ c.F, H1 a ≠ none) (hP : c.P (fun x => G.S nb c.f x \/ x ∈ c.F) H1) : Wd G (fun x => nb x \/ x ∈ c.F) (ρ.set i (.cu c)) (σ.set i (some c.v)) H1 := by
 obtain ⟨W2, hN, hA⟩ := W.growL s1 ha e
 refine W2.set ⟨rfl, fun a m => ⟨.inr m, hN a m⟩, c.av (hA c.f) hP⟩ (fun _ _ _ z => by cases z) (fun _ _ _ z => by cases z) (fun x hx j t hj ht hc z => ?_)
 obtain ⟨y, e1, h⟩ := W.ok j _ ht
 exact W.live x (h.adr_nb x z).1 (ha x hx)
theorem Wd.writeCu (W : Wd G nb ρ σ H) (e : ρ[i]? = some (.cu c)) (hp : p ∈ c.F) (hv : c'.v = c.v) (hF : ∀ a ∈ c'.F, a ∈ c.F) (h : c'.P (G.S nb c'.f) (upd H p o)) : Wd G nb (ρ.set i (.cu c')) σ (upd H p o) := by
 obtain ⟨x, e1, h1, h2, h3⟩ := W.ok i _ e
 subst h1
 have hil : i < ρ.length := (zq8x.mp e).1
 have W0 : Wd G nb (ρ.set i .no) (σ.set i (some c.v)) H := W.set trivial fun _ _ _ z => by cases z
 have other : ∀ (j : Nat) s, (ρ.set i .no)[j]? = some s -> s ≠ .no -> p ∉ s.adr := fun j s hs hn => by
  have hij : i ≠ j := fun z => by subst z; rw [zq12x hil] at hs; cases hs; exact hn rfl
  rw [zq6x hij] at hs
  exact W.apc i j c s hij e hs p hp
 have W1 : Wd G nb (ρ.set i .no) (σ.set i (some c.v)) (upd H p o) := W0.write (h2 p hp).1 (h2 p hp).2 (fun j a f ds hs z => other j _ hs (by intro z; cases z) (zq10x.mpr z.symm)) (fun j a f ds hs z => other j _ hs (by intro z; cases z) (zq10x.mpr z.symm)) (fun j c hs => other j _ hs (by intro z; cases z))
 have W2 := W1.set (i := i) (s := .cu c') (x := some c.v) ⟨by rw [hv], fun a m => h2 a (hF a m), h⟩ (fun _ _ _ z => by cases z) (fun _ _ _ z => by cases z) (fun x hx j t hj ht hc => by
  rw [zq6x (zq18x hj)] at ht
  exact W.apc i j c t (zq18x hj) e ht x (hF x hx))
 rw [zq69x, zq69x] at W2
 have : σ.set i (some c.v) = σ := by
  apply zq79x
  intro j
  by_cases hij : i = j
  ·subst hij; rw [zq12x (by rw [W.len]; exact hil), e1]
  ·rw [zq6x hij]
 rwa [this] at W2
theorem Wd.shareCu (W : Wd G nb ρ σ H) (e : ρ[i]? = some (.cu c)) (h : c.P (G.S nb c.f) H -> (∀ a ∈ c.F, G.H0 a = none /\ ¬ G.A a /\ NB G.B a) -> IsD (G.S (fun x => nb x /\ x ∉ c.F) f) H d c.v) : Wd G (fun x => nb x /\ x ∉ c.F) (ρ.set i (.d f d)) σ H := by
 obtain ⟨x, e1, h1, h2, h3⟩ := W.ok i _ e
 subst h1
 have hil : i < ρ.length := (zq8x.mp e).1
 have W0 : Wd G nb (ρ.set i .no) (σ.set i (some c.v)) H := W.set trivial fun _ _ _ z => by cases z
 have W1 : Wd G (fun x => nb x /\ x ∉ c.F) (ρ.set i .no) (σ.set i (some c.v)) H := by
  refine ⟨W0.bag, fun x n => W0.live x n.1, W0.old, fun x n => W0.nbo x n.1, W0.gA, W0.len, W0.gB, fun h m => (W0.hld h m).av (S_mono (fun z => z) fun _ z => z.1), fun j s e' => ?_, W0.apart, W0.apd, W0.apc⟩
  obtain ⟨x, e1', hh⟩ := W0.ok j s e'
  refine ⟨x, e1', ?_⟩
  have hij : s ≠ .no -> i ≠ j := fun n z => by subst z; rw [zq12x hil] at e'; cases e'; exact n rfl
  have ap : s ≠ .no -> ∀ a ∈ s.adr, a ∉ c.F := fun n a m z => by
   have hij := hij n
   rw [zq6x hij] at e'
   exact W.apc i j c s hij e e' a z m
  cases s with
  | no => trivial
  | d f d => obtain ⟨v, e, hh⟩ := hh; exact ⟨v, e, hh.av (S_mono (fun z => z) fun _ z => z.1)⟩
  | own a f es => obtain ⟨e2, n, q, xs, hx, hd⟩ := hh; exact ⟨e2, ⟨n, ap (by intro z; cases z) a (zq10x.mpr rfl)⟩, q, xs, hx, hd.av (S_mono (fun z => z) fun _ z => z.1)⟩
  | bag => exact hh
  | raw v => exact hh
  | dic a f es => obtain ⟨e2, n, q, xs, hx, hd⟩ := hh; exact ⟨e2, ⟨n, ap (by intro z; cases z) a (zq10x.mpr rfl)⟩, q, xs, hx, hd.av (S_mono (fun z => z) fun _ z => z.1)⟩
  | cu c2 => obtain ⟨e2, n, q⟩ := hh; exact ⟨e2, fun a m => ⟨⟨(n a m).1, ap (by intro z; cases z) a m⟩, (n a m).2⟩, c2.av (S_mono (fun z => z) fun _ z => z.1) q⟩
 have W2 := W1.setD (i := i) (f := f) (d := d) (v := c.v) (h h3 fun a m => ⟨W.nbo a (h2 a m).1 (h2 a m).2, fun z => W.gA a z (W.nbo a (h2 a m).1 (h2 a m).2), (h2 a m).2⟩)
 rw [zq69x, zq69x] at W2
 have : σ.set i (some c.v) = σ := by
  apply zq79x
  intro j
  by_cases hij : i = j
  ·subst hij; rw [zq12x (by rw [W.len]; exact hil), e1]
  ·rw [zq6x hij]
 rwa [this] at W2
end
end L2
set_option maxRecDepth 100000
set_option maxHeartbeats 4000000
namespace L2
open PySem PySem.Spec PyProof.Rows
abbrev GRow := Int × Addr × List PyData
end L2
set_option maxRecDepth 100000
set_option maxHeartbeats 4000000
namespace L2
open PySem PySem.Spec PyProof.Rows
def facOf (prs : Prs) (pl : Int) : Option Int := (prs.find? fun pr => decide (pr.1 = pl)).map (·.2)
noncomputable def vc1 (p : Int) (c : Nat) : Option Int -> List (Int × Int)
 | some f => [((c : Int), sol p f 1)]
 | none => []
noncomputable def vcTo (p : Int) (cs : List Prs) (pl : Int) (i : Nat) : List (Int × Int) := (List.range i).flatMap fun c => vc1 p c (facOf (cs.getD c []) pl)
theorem vcTo_mem {p : Int} {cs : List Prs} {pl : Int} {q : Int × Int} {i : Nat} (hi : i <= cs.length) (h : q ∈ vcTo p cs pl i) : ∃ (c : Nat) (prs : Prs) (f : Int), cs[c]? = some prs /\ c < i /\ facOf prs pl = some f /\ q = ((c : Int), sol p f 1) := by
  unfold vcTo at h
  obtain ⟨c, hc, hq⟩ := List.mem_flatMap.mp h
  have hc := zq119x.mp hc
  have e : cs[c]? = some cs[c] := zq5x (by omega)
  rw [zq89x, e] at hq
  cases hf : facOf cs[c] pl with
  | none => simp [vc1, hf] at hq
  | some f =>
    have hq : q ∈ vc1 p c (facOf cs[c] pl) := hq
    rw [hf] at hq
    exact ⟨c, cs[c], f, e, hc, hf, zq10x.mp hq⟩
noncomputable def votesL (p : Int) (cs : List Prs) (ws : List Int) (pl : Int) : List Int :=
 (vcTo p cs pl cs.length).map fun q => (ws.getD pl.toNat 0 - dueSum (cs.getD q.1.toNat []) (ws.map some) % p * q.2) % p
structure VNet (p n : Int) (cs : List Prs) : Prop where
 hp : PrimeZ p
 p40 : p < 10 ^ 40
 n0 : 1 <= n
 n1 : n <= 400
 cl : cs.length <= 400
 ok : ∀ prs ∈ cs, PrsQ p n.toNat prs
end L2
set_option maxRecDepth 100000
set_option maxHeartbeats 4000000
namespace L2
open PySem PySem.Spec PyProof.Rows
def goodV (L : List Int) (w x : Int) : Bool := decide (x ≠ w) && decide (L.length < 2 * L.count x)
def mjL (L : List Int) (w : Int) : List Int := (L.filter (goodV L w)).take 1
@[reducible] def trD (t : Int × Int × Int) : PyData := .tuple [.int t.1, .int t.2.1, .int t.2.2]
noncomputable def trnAt (p : Int) (cs : List Prs) (ws : List Int) (i : Nat) : List (Int × Int × Int) := (mjL (votesL p cs ws (i : Int)) (ws.getD i 0)).map fun x => ((i : Int), ws.getD i 0, x)
noncomputable def trnTo (p : Int) (cs : List Prs) (ws : List Int) (m : Nat) : List (Int × Int × Int) := (List.range m).flatMap (trnAt p cs ws)
end L2
set_option maxRecDepth 100000
set_option maxHeartbeats 4000000
namespace L2
open PySem PySem.Spec PyProof.Rows
def brk (p : Int) (cs : List Prs) (ws : List Int) : Nat := cs.countP fun prs => decide (dueSum prs (ws.map some) % p ≠ 0)
abbrev Bst := Int × Option (Int × Int × Int)
end L2
set_option maxRecDepth 100000
set_option maxHeartbeats 4000000
set_option maxRecDepth 100000
set_option maxHeartbeats 4000000
set_option maxRecDepth 100000
set_option maxHeartbeats 4000000
namespace L2
open PySem PySem.Spec PyProof.Rows
section
variable {G : Gx} {ρ : Rh} {nb : Addr -> Prop} {σ : St} {H H' : Hp} {i : Nat} {c c' : Cu} {E : DE}
theorem Wd.setCu (W : Wd G nb ρ σ H) (e : ρ[i]? = some (.cu c)) (hH : ∀ a o, a ∉ c.F -> H a = some o -> H' a = some o) (hv : c'.v = c.v) (hF : ∀ a ∈ c'.F, a ∈ c.F \/ H a = none \/ (nb a /\ NB G.B a /\ ∀ (j : Nat) s, ρ[j]? = some s -> a ∉ s.adr)) (hl : ∀ a, a ∈ c.F \/ a ∈ c'.F -> H' a ≠ none)
    (h : c'.P (G.S (fun x => nb x \/ x ∈ c'.F) c'.f) H') : Wd G (fun x => nb x \/ x ∈ c'.F) (ρ.set i (.cu c')) σ H' := by
  obtain ⟨x0, e1, h1, h2, h3⟩ := W.ok i _ e
  subst h1
  have hil : i < ρ.length := (zq8x.mp e).1
  obtain ⟨L, hL⟩ : ∃ L, L = c'.F.filter fun a => (H a).isNone := ⟨_, rfl⟩
  have ha : ∀ a ∈ L, H a = none := fun a m => by
    rw [hL, zq84x] at m
    exact zq172x.mp m.2
  have inL : ∀ a ∈ c'.F, nb a \/ a ∈ L := fun a m => by
    rcases hF a m with z | z | z
    · exact .inl (h2 a z).1
    · exact .inr (by rw [hL]; exact zq84x.mpr ⟨m, zq172x.mpr z⟩)
    · exact .inl z.1
  have hA : ∀ f x, G.S (fun x => nb x \/ x ∈ c'.F) f x -> (G.S nb f x \/ x ∈ L) := fun f x z => by
    rcases z with (z | z) | z | z | z
    · exact .inl (.inl z)
    · exact (inL x z).elim (fun z => .inl (.inl z)) .inr
    · exact .inl (.inr (.inl z))
    · exact .inl (.inr (.inr (.inl z)))
    · exact .inl (.inr (.inr (.inr z)))
  have bt : ∀ f, But (G.S (fun x => nb x \/ x ∈ c'.F) f) H H' := fun f a o n q => hH a o (fun z => n (.inl (.inl (h2 a z).1))) q
  have fD : ∀ {S : Addr -> Prop} {d : PyData} {v : V}, IsD S H d v -> IsD (fun a => S a \/ a ∈ L) H d v := fun {S d v} h => freshL (P := fun S => IsD S H d v) (fun z h => IsD.av z h) (fun hp h => IsD.fresh hp h) ha h
  have fDs : ∀ {S : Addr -> Prop} {d : List PyData} {v : List V}, IsDs S H d v -> IsDs (fun a => S a \/ a ∈ L) H d v := fun {S d v} h => freshL (P := fun S => IsDs S H d v) (fun z h => IsDs.av z h) (fun hp h => IsDs.fresh hp h) ha h
  have fKs : ∀ {S : Addr -> Prop} {d : List (PyData × PyData)} {v : List (Key × V)}, IsKs S H d v -> IsKs (fun a => S a \/ a ∈ L) H d v := fun {S d v} h => freshL (P := fun S => IsKs S H d v) (fun z h => IsKs.av z h) (fun hp h => IsKs.fresh hp h) ha h
  have fH : ∀ {S : Addr -> Prop} {d : HD} {v : V}, IsH S H d v -> IsH (fun a => S a \/ a ∈ L) H d v := fun {S d v} h => freshL (P := fun S => IsH S H d v) (fun z h => IsH.av h z) (fun hp h => IsH.fresh h hp) ha h
  have hNB : ∀ a ∈ c'.F, NB G.B a := fun a m => (hF a m).elim (fun z => (h2 a z).2) fun z => z.elim (fun z => NB.new W.bag z) fun z => z.2.1
  have hbag : BagOk G.B H' := fun b l eb => by
    obtain ⟨ns, i0, c0, st, n, g1, g2, g3⟩ := W.bag b l eb
    have hb : b ∉ c.F := fun z => (h2 b z).2 b l eb rfl
    have hll : l ∉ c.F := fun z => by
      obtain ⟨_, _, _, _, _, _, q2, _⟩ := W.gB b l eb
      rw [W.nbo l (h2 l z).1 (h2 l z).2] at q2; cases q2
    exact ⟨ns, i0, c0, st, n, hH _ _ hb g1, hH _ _ hll g2, g3⟩
  have other : ∀ (j : Nat) s, i ≠ j -> ρ[j]? = some s -> ∀ a ∈ s.adr, a ∉ c.F := fun j s hij hs a m z => W.apc i j c s hij e hs a z m
  refine ⟨hbag, fun a n => ?_, fun a o n q => ?_, fun a n q => ?_, W.gA, by rw [zq38x]; exact W.len, W.gB, fun h m => ((fH (W.hld h m)).av (hA h.1)).keep (bt h.1), fun j s e' => ?_, ?_, ?_, ?_⟩
  · rcases n with n | n
    · by_cases z : a ∈ c.F
      · exact hl a (.inl z)
      · cases q : H a with
        | none => exact absurd q (W.live a n)
        | some o => rw [hH a o z q]; exact zq32x _
    · exact hl a (.inr n)
  · refine hH a o (fun z => ?_) (W.old a o n q)
    rw [W.nbo a (h2 a z).1 n] at q; cases q
  · rcases n with n | n
    · exact W.nbo a n q
    · rcases hF a n with z | z | z
      · exact W.nbo a (h2 a z).1 q
      · cases w : G.H0 a with
        | none => rfl
        | some o => rw [W.old a o q w] at z; cases z
      · exact W.nbo a z.1 q
  · by_cases hij : i = j
    · subst hij
      rw [zq12x hil] at e'
      cases e'
      exact ⟨some c.v, e1, by rw [hv], fun a m => ⟨.inr m, hNB a m⟩, h⟩
    · rw [zq6x hij] at e'
      obtain ⟨x, e2, q⟩ := W.ok j s e'
      refine ⟨x, e2, ?_⟩
      have ap := other j s hij e'
      cases s with
      | no => trivial
      | d f d => obtain ⟨v, e, h⟩ := q; exact ⟨v, e, ((fD h).av (hA f)).keep (bt f)⟩
      | own a f es => obtain ⟨e, n, q, xs, hx, hd⟩ := q; exact ⟨e, .inl n, q, xs, hH _ _ (ap a (zq10x.mpr rfl)) hx, ((fDs hd).av (hA f)).keep (bt f)⟩
      | bag => exact q
      | raw v => exact q
      | dic a f es => obtain ⟨e, n, q, xs, hx, hd⟩ := q; exact ⟨e, .inl n, q, xs, hH _ _ (ap a (zq10x.mpr rfl)) hx, ((fKs hd).av (hA f)).keep (bt f)⟩
      | cu c2 =>
        obtain ⟨e, n, q⟩ := q
        refine ⟨e, fun a ha => ⟨.inl (n a ha).1, (n a ha).2⟩, c2.keep (.of fun x o hx e => hH x o ?_ e) (c2.av (hA c2.f) (freshL (P := fun S => c2.P S H) (fun z h => c2.av z h) (fun hp h => c2.fresh hp h) ha q))⟩
        rcases hx with hx | hx
        · exact fun z => hx (.inl (.inl (h2 x z).1))
        · exact ap x hx
  all_goals
    intro j k
  · intro a f as c2 g cs hjk q1 q2
    have hj : i ≠ j := fun z => by subst z; rw [zq12x hil] at q1; cases q1
    have hk : i ≠ k := fun z => by subst z; rw [zq12x hil] at q2; cases q2
    rw [zq6x hj] at q1
    rw [zq6x hk] at q2
    exact W.apart j k a f as c2 g cs hjk q1 q2
  · intro a f as c2 g cs hjk q1 q2
    have hj : i ≠ j := fun z => by subst z; rw [zq12x hil] at q1; cases q1
    have hk : i ≠ k := fun z => by subst z; rw [zq12x hil] at q2; cases q2
    rw [zq6x hj] at q1
    rw [zq6x hk] at q2
    exact W.apd j k a f as c2 g cs hjk q1 q2
  · intro c2 s hjk q1 q2 a m z
    have far : ∀ (j : Nat) s, i ≠ j -> ρ[j]? = some s -> ∀ a ∈ s.adr, a ∉ c'.F := fun j s hij hs a m z => by
      rcases hF a z with w | w | w
      · exact other j s hij hs a m w
      · obtain ⟨x, _, q⟩ := W.ok j s hs
        exact W.live a (q.adr_nb a m).1 w
      · exact w.2.2 j s hs m
    by_cases hj : i = j
    · subst hj
      rw [zq12x hil] at q1
      cases q1
      rw [zq6x hjk] at q2
      exact far k s hjk q2 a z m
    · rw [zq6x hj] at q1
      by_cases hk : i = k
      · subst hk
        rw [zq12x hil] at q2
        cases q2
        exact far j _ hj q1 a m z
      · rw [zq6x hk] at q2
        exact W.apc j k c2 s hjk q1 q2 a m z
end
abbrev CF := Cu -> List PyData -> (Cu -> Pd) -> Prop
end L2
set_option maxRecDepth 100000
set_option maxHeartbeats 4000000
namespace L2
open PySem PySem.Spec PyProof.Rows
inductive Fl where
 | d (d : PyData) | cu (c : Cu)
abbrev Fs := List (Str × Fl)
end L2
set_option maxRecDepth 100000
set_option maxHeartbeats 4000000
set_option maxRecDepth 100000
set_option maxHeartbeats 4000000
set_option maxRecDepth 100000
set_option maxHeartbeats 4000000
set_option maxRecDepth 100000
set_option maxHeartbeats 4000000
set_option maxRecDepth 100000
set_option maxHeartbeats 4000000
namespace L2
open PySem PySem.Spec PyProof.Rows
inductive Oi where
 | own (b : Addr) | dat (x : PyData)
inductive OO where
 | lst (xs : List Oi) | tup (xs : List Oi) | dic (ks : List (Int × Oi))
abbrev Sto := List (Addr × OO)
def ItV (S : Addr -> Prop) (H : Hp) : Oi -> V -> Prop
 | .own b, v => v = .ref b
 | .dat x, v => IsD S H x v
def ItVs (S : Addr -> Prop) (H : Hp) (xs : List Oi) (vs : List V) : Prop := vs.length = xs.length /\ ∀ (i : Nat) x v, xs[i]? = some x -> vs[i]? = some v -> ItV S H x v
def dkOf (ks : List (Int × Oi)) (vs : List V) : List (Key × V) := List.zipWith (fun k v => (Sum.inl k.1, v)) ks vs
def OOk (S : Addr -> Prop) (H : Hp) (a : Addr) : OO -> Prop
 | .lst xs => ∃ vs, H a = some (.lst vs) /\ ItVs S H xs vs
 | .tup xs => ∃ vs, H a = some (.tup vs) /\ ItVs S H xs vs
 | .dic ks => ∃ vs, H a = some (.dK (dkOf ks vs)) /\ ItVs S H (ks.map (·.2)) vs
def StOk (S : Addr -> Prop) (H : Hp) (L : Sto) : Prop := (L.map (·.1)).Nodup /\ ∀ a o, L.lookup a = some o -> OOk S H a o
section
variable {S S' : Addr -> Prop} {H H' : Hp} {x : Oi} {v : V} {xs : List Oi} {vs : List V} {a b : Addr} {o : OO} {L : Sto} {F : List Addr} {p : Addr}
theorem lookup_key {L : Sto} : ∀ {a : Addr} {o : OO}, L.lookup a = some o -> a ∈ L.map (·.1) := by
  induction L with
  | nil => intro a o h; cases h
  | cons q L ih =>
    intro a o h
    rw [zq7x]
    by_cases c : a = q.1
    · rw [c]; exact zq14x ..
    · rw [zq2x, beq_false_of_ne c] at h
      exact zq20x _ (ih h)
theorem key_lookup {L : Sto} : ∀ {a : Addr}, a ∈ L.map (·.1) -> ∃ o, L.lookup a = some o := by
  induction L with
  | nil => intro a h; cases h
  | cons q L ih =>
    intro a h
    by_cases c : a = q.1
    · exact ⟨q.2, by rw [c]; simp [List.lookup]⟩
    · rw [zq2x, beq_false_of_ne c]
      rw [zq7x] at h
      exact ih ((zq4x.mp h).resolve_left c)
theorem ItV.kp (m : Kp S F H H') (h : ItV S H x v) : ItV S H' x v := by
 cases x with
 | own b => exact h
 | dat x => exact IsD.kp m h
theorem ItV.av (b : ∀ a, S' a -> S a) (h : ItV S H x v) : ItV S' H x v := by
 cases x with
 | own b => exact h
 | dat x => exact IsD.av b h
theorem ItV.fresh (hp : H p = none) (h : ItV S H x v) : ItV (fun a => S a \/ a = p) H x v := by
 cases x with
 | own b => exact h
 | dat x => exact IsD.fresh hp h
theorem ItV.keep (m : But S H H') (h : ItV S H x v) : ItV S H' x v := by
 cases x with
 | own b => exact h
 | dat x => exact IsD.keep m h
theorem ItVs.imp (h : ItVs S H xs vs) (q : ∀ x v, ItV S H x v -> ItV S' H' x v) : ItVs S' H' xs vs := ⟨h.1, fun i x v e1 e2 => q x v (h.2 i x v e1 e2)⟩
theorem OOk.imp (h : OOk S H a o) (q : ∀ x v, ItV S H x v -> ItV S' H' x v) (e : ∀ ho, H a = some ho -> H' a = some ho) : OOk S' H' a o := by
 cases o with
 | lst xs => obtain ⟨vs, h1, h2⟩ := h; exact ⟨vs, e _ h1, h2.imp q⟩
 | tup xs => obtain ⟨vs, h1, h2⟩ := h; exact ⟨vs, e _ h1, h2.imp q⟩
 | dic ks => obtain ⟨vs, h1, h2⟩ := h; exact ⟨vs, e _ h1, h2.imp q⟩
theorem OOk.live (h : OOk S H a o) : H a ≠ none := by
 cases o with
 | lst xs => obtain ⟨vs, h1, h2⟩ := h; rw [h1]; exact zq32x _
 | tup xs => obtain ⟨vs, h1, h2⟩ := h; rw [h1]; exact zq32x _
 | dic ks => obtain ⟨vs, h1, h2⟩ := h; rw [h1]; exact zq32x _
theorem StOk.live (h : StOk S H L) : ∀ a ∈ L.map (·.1), H a ≠ none := fun a m => by
 obtain ⟨o, e⟩ := key_lookup m
 exact (h.2 a o e).live
theorem ItVs.at {k : Int} (h : ItVs S H xs vs) (e : atI xs k = some x) : ∃ v, atI vs k = some v /\ ItV S H x v := by
  unfold atI at e ⊢
  rw [h.1]
  cases z : ixN xs.length k with
  | none => rw [z] at e; cases e
  | some j =>
    rw [z] at e
    have e : xs[j]? = some x := e
    have hj := (zq8x.mp e).1
    have hv : vs[j]? = some (vs[j]'(by rw [h.1]; exact hj)) := zq5x _
    exact ⟨_, hv, h.2 j x _ e hv⟩
theorem ItVs.snoc (h : ItVs S H xs vs) (q : ItV S H x v) : ItVs S H (xs ++ [x]) (vs ++ [v]) := by
 refine ⟨by rw [zq26x, zq26x, h.1]; rfl, fun i y u e1 e2 => ?_⟩
 by_cases c : i < xs.length
 ·rw [zq31x c] at e1
  rw [zq31x (by rw [h.1]; exact c)] at e2
  exact h.2 i y u e1 e2
 ·rw [zq30x (by omega)] at e1
  rw [zq30x (by rw [h.1]; omega), h.1] at e2
  cases hi : i - xs.length with
  | zero => rw [hi] at e1 e2; simp at e1 e2; subst e1 e2; exact q
  | succ m => rw [hi] at e1; simp at e1
theorem ItVs.nil : ItVs S H [] [] := ⟨rfl, fun i x v e => by simp at e⟩
theorem ItVs.cons (q : ItV S H x v) (h : ItVs S H xs vs) : ItVs S H (x :: xs) (v :: vs) := by
 refine ⟨by rw [zq35x, zq35x, h.1], fun i y u e1 e2 => ?_⟩
 cases i with
 | zero => simp at e1 e2; subst e1 e2; exact q
 | succ i => exact h.2 i y u (by simpa using e1) (by simpa using e2)
theorem ItVs.dats {ds : List PyData} (h : IsDs S H ds vs) : ItVs S H (ds.map .dat) vs := by
 refine ⟨by rw [zq0x, h.length], fun i x v e1 e2 => ?_⟩
 rw [zq19x] at e1
 obtain ⟨d, hd, rfl⟩ := zq46x.mp e1
 obtain ⟨y, hy, hq⟩ := h.get hd
 rw [hy] at e2; cases e2; exact hq
theorem isDs_of {ds : List PyData} : ∀ {vs : List V}, vs.length = ds.length -> (∀ (i : Nat) d v, ds[i]? = some d -> vs[i]? = some v -> IsD S H d v) -> IsDs S H ds vs := by
  induction ds with
  | nil => intro vs h _; rw [zq74x.mp h]; exact .nil
  | cons d ds ih =>
    intro vs h q
    cases vs with
    | nil => cases h
    | cons v vs => exact .cons (q 0 d v rfl rfl) (ih (by simpa using h) fun i d' v' e1 e2 => q (i + 1) d' v' (by simpa using e1) (by simpa using e2))
end
def putO (L : Sto) (b : Addr) (o : OO) : Sto := L.map fun q => if q.1 = b then (b, o) else q
theorem putO_keys (L : Sto) (b : Addr) (o : OO) : (putO L b o).map (·.1) = L.map (·.1) := by
 unfold putO
 rw [zq64x]
 apply zq169x
 intro q _
 show (if q.1 = b then (b, o) else q).1 = q.1
 split
 ·rename_i h; exact h.symm
 ·rfl
theorem putO_ne {L : Sto} {a b : Addr} {o : OO} (h : a ≠ b) : (putO L b o).lookup a = L.lookup a := by
  induction L with
  | nil => rfl
  | cons q L ih =>
    show List.lookup a ((if q.1 = b then (b, o) else q) :: putO L b o) = _
    by_cases c : q.1 = b
    · rw [if_pos c, zq2x, beq_false_of_ne h, ih]
      rw [zq2x, beq_false_of_ne (by rw [c]; exact h)]
    · rw [if_neg c, zq2x, zq2x, ih]
theorem putO_eq {L : Sto} {b : Addr} {o : OO} (h : b ∈ L.map (·.1)) : (putO L b o).lookup b = some o := by
  induction L with
  | nil => cases h
  | cons q L ih =>
    show List.lookup b ((if q.1 = b then (b, o) else q) :: putO L b o) = _
    by_cases c : q.1 = b
    · rw [if_pos c, zq2x, beq_self_eq_true]
    · rw [if_neg c, zq2x, beq_false_of_ne (fun z => c z.symm)]
      rw [zq7x] at h
      exact ih ((zq4x.mp h).resolve_left fun z => c z.symm)
theorem StOk.put {S : Addr -> Prop} {H : Hp} {L : Sto} {b : Addr} {ho : HO} {o : OO} (h : StOk S H L) (hb : b ∈ L.map (·.1)) (hS : S b) (hk : OOk S (upd H b ho) b o) : StOk S (upd H b ho) (putO L b o) := by
 refine ⟨by rw [putO_keys]; exact h.1, fun a o' e => ?_⟩
 by_cases c : a = b
 ·subst c
  rw [putO_eq hb] at e
  cases e
  exact hk
 ·rw [putO_ne c] at e
  exact (h.2 a o' e).imp (fun x v q => q.keep (But.set hS)) fun ho' q => by rw [upd_ne c]; exact q
def stC (v : V) (f : Bool) (L : Sto) : Cu where
 v := v
 F := L.map (·.1)
 f := f
 P := fun S H => StOk S H L
 keep := fun k p => ⟨p.1, fun a o e => (p.2 a o e).imp (fun x v q => q.kp k) fun ho q => k.own _ (lookup_key e) _ q⟩
 av := fun z p => ⟨p.1, fun a o e => (p.2 a o e).imp (fun x v q => q.av z) fun ho q => q⟩
 fresh := fun hp p => ⟨p.1, fun a o e => (p.2 a o e).imp (fun x v q => q.fresh hp) fun ho q => q⟩
def EvA (G : Gx) (ρ : Rh) (te : TE) (Ψ : Addr -> Prop) : Prop := ∀ nb σ H (Q : VK), Wd G nb ρ σ H -> (∀ b H', Ψ b -> Step G.B H H' -> Q (.ref b) H') -> te σ H Q
section
variable {G : Gx} {ρ : Rh} {ta tb te : TE} {t : TA} {E : DE} {i j : Nat} {v : V} {f : Bool} {L : Sto} {K : PySem.W.Frag} {Φ : Pd} {Ψ : Addr -> Prop} {r : Addr}
theorem Wd.sto {nb : Addr -> Prop} {σ : St} {H : Hp} (W : Wd G nb ρ σ H) (e : ρ[i]? = some (.cu (stC v f L))) : σ[i]? = some (some v) /\ (∀ a ∈ L.map (·.1), nb a /\ NB G.B a) /\ StOk (G.S nb f) H L := by
 obtain ⟨x, e1, h1, h2, h3⟩ := W.ok i _ e
 exact ⟨by rw [e1, h1]; rfl, h2, h3⟩
theorem EvA.root (e : ρ[i]? = some (.cu (stC (.ref r) f L))) (h : Ψ r) : EvA G ρ (tVar i) Ψ := fun nb σ H Q W z => ⟨.ref r, (W.sto e).1, z r H h (.refl W.bag)⟩
theorem EvA.raw {b : Addr} (e : ρ[j]? = some (.raw (.ref b))) (h : Ψ b) : EvA G ρ (tVar j) Ψ := fun nb σ H Q W z => by
 obtain ⟨x, e1, h1⟩ := W.ok j _ e
 have h1 : x = some (.ref b) := h1
 exact ⟨.ref b, by rw [e1, h1], z b H h (.refl W.bag)⟩
theorem EvA.ixT (e : ρ[i]? = some (.cu (stC v f L))) (h : EvA G ρ ta fun b => Ev G ρ tb fun _ y => ∃ k xs c, y = .int k /\ L.lookup b = some (.tup xs) /\ atI xs k = some (.own c) /\ Ψ c) : EvA G ρ (tOp (rIxT K) ta tb) Ψ := fun nb σ H Q W z =>
 h nb σ H _ W fun b H1 q s1 => q nb σ H1 _ (W.step s1) fun g u H2 y ⟨k, xs, c, ey, hb, hc, p⟩ s2 hu => by
  subst ey
  obtain ⟨vs, h1, h2⟩ := (((W.step s1).step s2).sto e).2.2.2 b _ hb
  obtain ⟨v', e1, e2⟩ := h2.at hc
  have e2 : v' = .ref c := e2
  subst e2
  exact ⟨b, vs, k, .ref c, rfl, hu.ofI, SqT.of h1, e1, z c H2 p (s1.trans s2)⟩
theorem StOk.mono {nb : Addr -> Prop} {H : Hp} {g : Bool} (h : StOk (G.S nb f) H L) : StOk (G.S nb (f && g)) H L := ⟨h.1, fun a o e => (h.2 a o e).imp (fun x v q => q.av (S_mono (fun z => by rw [zq28x] at z; exact z.1) fun _ z => z)) fun _ q => q⟩
theorem Sv.appA (e : ρ[i]? = some (.cu (stC v f L))) (h : EvA G ρ ta fun b => ∃ xs, L.lookup b = some (.lst xs) /\ xs.length < 10000 /\ Ev G ρ te fun g d => E.nx (ρ.set i (.cu (stC v (f && g) (putO L b (.lst (xs ++ [.dat d]))))))) :
  Sv G ρ (tDrop (tBM K "list" rAppend ta (tCons te tNil))) E := fun nb σ H D W KK =>
 h nb σ H _ W fun b H1 ⟨xs, hb, hl, q⟩ s1 => by
  have W1 := W.step s1
  obtain ⟨vs, h1, h2⟩ := (W1.sto e).2.2.2 b _ hb
  refine ⟨.inl ⟨rfl, _, SqL.of h1⟩, ?_⟩
  refine q nb σ H1 _ W1 fun g u H2 d p s2 hu => ?_
  have W2 := W1.step s2
  obtain ⟨_, hF, hk⟩ := W2.sto e
  obtain ⟨vs, h1, h2⟩ := hk.2 b _ hb
  have hbm := lookup_key hb
  refine ⟨b, vs, u, rfl, rfl, h1, zq17x (by rw [h2.1]; exact hl) (by decide), KK.nx nb _ _ _ p (W2.writeCu e hbm rfl (fun a ha => by
   have ha : a ∈ (putO L b (.lst (xs ++ [.dat d]))).map (·.1) := ha
   rw [putO_keys] at ha; exact ha) ?_)⟩
  have hS : G.S nb (f && g) b := .inl (hF b hbm).1
  refine hk.mono.put hbm hS ⟨_, upd_same, ?_⟩
  refine ItVs.snoc ((h2.imp fun x v q => (q.av (S_mono (fun z => by rw [zq28x] at z; exact z.1) fun _ z => z)).keep (But.set hS))) ?_
  exact (hu.av (S_mono (fun z => by rw [zq28x] at z; exact z.2) fun _ z => z)).keep (But.set hS)
theorem Sv.appNilA (e : ρ[i]? = some (.cu (stC v f L))) (h : EvA G ρ ta fun b => ∃ xs, L.lookup b = some (.lst xs) /\ xs.length < 10000 /\ ∀ c, c ∉ L.map (·.1) -> E.nx (ρ.set i (.cu (stC v f ((c, .lst []) :: putO L b (.lst (xs ++ [.own c]))))))) :
  Sv G ρ (tDrop (tBM K "list" rAppend ta (tCons (tLst tNil) tNil))) E := fun nb σ H D W KK =>
 h nb σ H _ W fun b H1 ⟨xs, hb, hl, q⟩ s1 => by
  have W1 := W.step s1
  obtain ⟨_, hF, hk⟩ := W1.sto e
  obtain ⟨vs, h1, h2⟩ := hk.2 b _ hb
  have hbm := lookup_key hb
  refine ⟨.inl ⟨rfl, _, SqL.of h1⟩, zq36x _, fun c hc => ?_⟩
  have hcb : b ≠ c := fun z => by rw [<- z, h1] at hc; cases hc
  have hcL : c ∉ L.map (·.1) := fun z => hk.live c z hc
  refine ⟨b, vs, .ref c, rfl, rfl, by rw [upd_ne hcb]; exact h1, zq17x (by rw [h2.1]; exact hl) (by decide), ?_⟩
  have hkeys : ((c, OO.lst []) :: putO L b (.lst (xs ++ [.own c]))).map (·.1) = c :: L.map (·.1) := by rw [zq7x, putO_keys]
  have W2 := W1.setCu (c' := stC v f ((c, .lst []) :: putO L b (.lst (xs ++ [.own c])))) (H' := upd (upd H1 c (.lst [])) b (.lst (vs ++ [.ref c]))) e (fun a o ha ho => ?_) rfl (fun a ha => ?_) (fun a ha => ?_) ?_
  ·exact KK.nx _ _ _ _ (q c hcL) W2
  ·have hab : a ≠ b := fun z => ha (z ▸ hbm)
   have hac : a ≠ c := fun z => by rw [z, hc] at ho; cases ho
   rw [upd_ne hab, upd_ne hac]; exact ho
  ·have ha : a ∈ ((c, OO.lst []) :: putO L b (.lst (xs ++ [.own c]))).map (·.1) := ha
   rw [hkeys] at ha
   rcases zq4x.mp ha with z | z
   ·exact .inr (.inl (z ▸ hc))
   ·exact .inl z
  ·by_cases hab : a = b
   ·rw [hab, upd_same]; exact zq32x _
   rw [upd_ne hab]
   by_cases hac : a = c
   ·rw [hac, upd_same]; exact zq32x _
   rw [upd_ne hac]
   rcases ha with z | z
   ·exact hk.live a z
   ·have z : a ∈ ((c, OO.lst []) :: putO L b (.lst (xs ++ [.own c]))).map (·.1) := z
    rw [hkeys] at z
    exact hk.live a ((zq4x.mp z).resolve_left hac)
  ·have bt : ∀ {x : Oi} {u : V}, ItV (G.S nb f) H1 x u -> ItV (G.S (fun x => nb x \/ x ∈ (stC v f ((c, .lst []) :: putO L b (.lst (xs ++ [.own c])))).F) f) (upd (upd H1 c (.lst [])) b (.lst (vs ++ [.ref c]))) x u := fun {x u} q => by
    refine ItV.keep (fun a o n ho => ?_) ((q.fresh hc).av fun a z => ?_)
    ·have hab : a ≠ b := fun z => n (.inl (.inl (z ▸ (hF b hbm).1)))
     have hac : a ≠ c := fun z => by rw [z, hc] at ho; cases ho
     rw [upd_ne hab, upd_ne hac]; exact ho
    ·rcases z with (z | z) | z | z | z
     ·exact .inl (.inl z)
     ·have z : a ∈ ((c, OO.lst []) :: putO L b (.lst (xs ++ [.own c]))).map (·.1) := z
      rw [hkeys] at z
      rcases zq4x.mp z with z | z
      ·exact .inr z
      ·exact .inl (.inl (hF a z).1)
     ·exact .inl (.inr (.inl z))
     ·exact .inl (.inr (.inr (.inl z)))
     ·exact .inl (.inr (.inr (.inr z)))
   refine ⟨by rw [hkeys]; exact zq33x.mpr ⟨hcL, hk.1⟩, fun a o eo => ?_⟩
   by_cases hac : a = c
   ·subst hac
    rw [zq2x, beq_self_eq_true] at eo
    cases eo
    exact ⟨[], by rw [upd_ne (fun z => hcb z.symm), upd_same], .nil⟩
   ·rw [zq2x, beq_false_of_ne hac] at eo
    by_cases hab : a = b
    ·subst hab
     rw [putO_eq hbm] at eo
     cases eo
     exact ⟨_, upd_same, ItVs.snoc (h2.imp fun x u q => bt q) rfl⟩
    ·rw [putO_ne hab] at eo
     exact (hk.2 a o eo).imp (fun x u q => bt q) fun ho q => by rw [upd_ne hab, upd_ne hac]; exact q
theorem Sv.forA {s : TS} (e : ρ[i]? = some (.cu (stC v f L))) (h : EvA G ρ ta fun b => ∃ bs : List Addr, L.lookup b = some (.lst (bs.map .own)) /\ ∃ I : Nat -> Rh -> Prop, I 0 ρ /\ (∀ m ρ', I m ρ' -> ∃ (i' : Nat) (v' : V) (f' : Bool) (L' : Sto), ρ'[i']? = some (.cu (stC v' f' L')) /\ L'.lookup b = some (.lst (bs.map .own))) /\
   (∀ m c ρ', bs[m]? = some c -> I m ρ' -> Sv G (ρ'.set j (.raw (.ref c))) s { nx := I (m + 1), rt := E.rt, bk := E.nx, ct := I (m + 1), rw := E.rw }) /\ ∀ ρ', I bs.length ρ' -> E.nx ρ') :
  Sv G ρ (tFor (iList K ta) (gName j) s) E := fun nb σ H D W KK =>
 h nb σ H _ W fun b H1 ⟨bs, hb, I, h0, hI, ht, he⟩ s1 => by
  have W1 := W.step s1
  have key : ∀ {nb ρ' σ H m}, Wd G nb ρ' σ H -> I m ρ' -> H b = some (.lst (bs.map .ref)) := fun {nb ρ' σ H m} W q => by
   obtain ⟨i', v', f', L', e', hb'⟩ := hI m ρ' q
   obtain ⟨vs, h1, h2⟩ := (W.sto e').2.2.2 b _ hb'
   rw [h1]
   congr 2
   apply zq79x
   intro n
   by_cases hn : n < bs.length
   ·have hl := h2.1
    rw [zq0x] at hl
    have e1 : vs[n]? = some (vs[n]'(by omega)) := zq5x _
    have := h2.2 n (.own bs[n]) _ (by rw [zq19x, zq5x hn]; rfl) e1
    have this : vs[n]'(by omega) = .ref bs[n] := this
    rw [e1, this, zq19x, zq5x hn]; rfl
   ·have hl := h2.1
    rw [zq0x] at hl
    rw [zq61x (by omega), zq61x (by rw [zq0x]; omega)]
  refine ⟨b, rfl, ⟨_, SqL.of (key W1 h0)⟩, ?_⟩
  refine for_list (xs := bs.map .ref) (fun m σ H => ∃ nb ρ', I m ρ' /\ Wd G nb ρ' σ H) ⟨nb, ρ, h0, W1⟩ (fun m σ H _ ⟨nb, ρ', q, W⟩ => SqL.of (key W q)) ?_ ?_
  ·rintro m x σ H hx ⟨nb, ρ', q, W⟩
   rw [zq19x] at hx
   obtain ⟨c, hc, rfl⟩ := zq46x.mp hx
   refine ht m c ρ' hc q nb _ H _ (W.set (s := .raw (.ref c)) (x := some (.ref c)) rfl (fun _ _ _ z => by cases z)) ?_
   exact ⟨fun nb ρ σ H q W => ⟨nb, ρ, q, W⟩, KK.nx, fun nb ρ σ H q W => ⟨nb, ρ, q, W⟩, KK.rt, KK.rw⟩
  ·rintro σ H ⟨nb, ρ', q, W⟩
   rw [zq0x] at q
   exact KK.nx nb ρ' σ H (he ρ' q) W
end
end L2
set_option maxRecDepth 100000
set_option maxHeartbeats 4000000
namespace L2
open PySem PySem.Spec PyProof.Rows
inductive StD (L : Sto) : Oi -> PyData -> Prop
 | dat (x : PyData) : StD L (.dat x) x
 | lst {b : Addr} {xs : List Oi} {ds : List PyData} (e : L.lookup b = some (.lst xs)) (h : ds.length = xs.length) (q : ∀ (i : Nat) x d, xs[i]? = some x -> ds[i]? = some d -> StD L x d) : StD L (.own b) (.list ds)
 | tup {b : Addr} {xs : List Oi} {ds : List PyData} (e : L.lookup b = some (.tup xs)) (h : ds.length = xs.length) (q : ∀ (i : Nat) x d, xs[i]? = some x -> ds[i]? = some d -> StD L x d) : StD L (.own b) (.tuple ds)
theorem StD.isD {S S' : Addr -> Prop} {H : Hp} {L : Sto} (h : StOk S H L) (hS : ∀ a, S' a -> S a) (hn : ∀ a ∈ L.map (·.1), ¬ S' a) {x : Oi} {d : PyData} (q : StD L x d) : ∀ {v : V}, ItV S H x v -> IsD S' H d v := by
  induction q with
  | dat x => intro v hv; exact IsD.av hS hv
  | lst e hl _ ih =>
    intro v hv
    have hv : v = _ := hv
    subst hv
    obtain ⟨vs, h1, h2⟩ := h.2 _ _ e
    refine .lst (hn _ (lookup_key e)) h1 (isDs_of (by rw [h2.1, hl]) fun i d v e1 e2 => ?_)
    have hi := (zq8x.mp e1).1
    have hx := zq5x (l := _) (i := i) (by rw [<- hl]; exact hi)
    exact ih i _ d hx e1 (h2.2 i _ v hx e2)
  | tup e hl _ ih =>
    intro v hv
    have hv : v = _ := hv
    subst hv
    obtain ⟨vs, h1, h2⟩ := h.2 _ _ e
    refine .tup (hn _ (lookup_key e)) h1 (isDs_of (by rw [h2.1, hl]) fun i d v e1 e2 => ?_)
    have hi := (zq8x.mp e1).1
    have hx := zq5x (l := _) (i := i) (by rw [<- hl]; exact hi)
    exact ih i _ d hx e1 (h2.2 i _ v hx e2)
theorem StD.dats {L : Sto} {b : Addr} {ds : List PyData} (e : L.lookup b = some (.lst (ds.map .dat))) : StD L (.own b) (.list ds) := by
 refine .lst e (by rw [zq0x]) fun i x d e1 e2 => ?_
 rw [zq19x, e2] at e1
 cases e1
 exact .dat d
section
variable {G : Gx} {ρ : Rh} {ta tb te : TE} {t : TA} {E : DE} {i j : Nat} {f : Bool} {L : Sto} {K : PySem.W.Frag} {Φ : Pd} {r : Addr} {d : PyData}
theorem Wd.shareSt {nb : Addr -> Prop} {σ : St} {H : Hp} (W : Wd G nb ρ σ H) (e : ρ[i]? = some (.cu (stC (.ref r) f L))) (hd : StD L (.own r) d) : Wd G (fun x => nb x /\ x ∉ L.map (·.1)) (ρ.set i (.d f d)) σ H :=
 W.shareCu e fun p hn => hd.isD p (S_mono (fun z => z) fun _ z => z.1) (fun a m z => by
  obtain ⟨q1, q2, q3⟩ := hn a m
  rcases z with z | z | z | z
  ·exact z.2 m
  ·exact q2 z
  ·exact z q3
  ·exact z.2 q1) rfl
theorem Tv.lendSt {tt : TT} {Θ : Bool -> Prop} (i : Nat) (e : ρ[i]? = some (.cu (stC (.ref r) f L))) (hd : StD L (.own r) d) (h : Tv G (ρ.set i (.d f d)) tt Θ) : Tv G ρ tt Θ := fun nb σ H Q W z => h _ σ H Q (W.shareSt e hd) z
theorem Sv.demoteSt {s : TS} (i : Nat) (e : ρ[i]? = some (.cu (stC (.ref r) f L))) (hd : StD L (.own r) d) (h : Sv G (ρ.set i (.d f d)) s E) : Sv G ρ s E := fun nb σ H D W K => h _ σ H D (W.shareSt e hd) K
end
abbrev SF := List PyData -> (V -> Sto -> Prop) -> Prop
def MonoS (F : SF) : Prop := ∀ ds (Φ Ψ : V -> Sto -> Prop), F ds Φ -> (∀ v L, Φ v L -> Ψ v L) -> F ds Ψ
def StNew (H H' : Hp) (L : Sto) : Prop := (∀ a ∈ L.map (·.1), H a = none) /\ StOk (fun a => H a ≠ none \/ a ∈ L.map (·.1)) H' L
def spS (n : Nat) (F : SF) : Sp := fun vs H Q _ => vs.length = n /\ ∃ (nb : Addr -> Prop) (ds : List PyData), Live nb H /\ IsDs nb H ds vs /\ F ds fun v L => ∀ H', Same H H' -> StNew H H' L -> Q v H'
def stE (G : Gx) (Ψ : V -> Sto -> Prop) : DE where
 nx := fun _ => False
 rt := fun _ _ => False
 rw := fun _ _ v H => ∃ L, Ψ v L /\ StNew G.H0 H L
section
variable {G : Gx} {ρ : Rh} {ta tb te : TE} {t : TA} {E : DE} {i j : Nat} {K : PySem.W.Frag}
theorem Sv.asgSt {n : Nat} {F : SF} (hm : MonoS F) (h : Av G ρ t fun es => es.length = n /\ F (es.map (·.2)) fun v L => (L.map (·.1)).Nodup -> E.nx (ρ.set i (.cu (stC v true L)))) : Sv G ρ (tAsg (tCall (spS n F) [] E0 t) (gName i)) E := fun nb σ H D W KK =>
 h nb σ H _ W fun es vs H1 ⟨hl, p⟩ s1 q1 => by
  have W1 := W.step s1
  show spS n F (vs ++ []) H1 _ E0
  rw [zq44x]
  refine ⟨by rw [q1.len, hl], G.S nb (allF es), es.map (·.2), W1.liveS, q1.all fun z => z, hm _ _ _ p fun v L hp H' sm ⟨hnew, hok⟩ => ?_⟩
  refine KK.nx _ _ _ _ (hp hok.1) (W1.cu_of (i := i) (c := stC v true L) (.same W1.bag sm) hnew hok.live ⟨hok.1, fun a o e => (hok.2 a o e).imp (fun x u q => q.av fun b z => ?_) fun _ q => q⟩)
  exact z.imp (fun z => W1.liveS b z) fun z => z
theorem Ev.callSt {n : Nat} {F : SF} {Φ : Pd} (hm : MonoS F) (h : Av G ρ t fun es => es.length = n /\ F (es.map (·.2)) fun v L => ∃ r d, v = .ref r /\ StD L (.own r) d /\ Φ true d) : Ev G ρ (tCall (spS n F) [] E0 t) Φ := fun nb σ H Q W z =>
 h nb σ H _ W fun es vs H1 ⟨hl, p⟩ s1 q1 => by
  have W1 := W.step s1
  show spS n F (vs ++ []) H1 _ E0
  rw [zq44x]
  refine ⟨by rw [q1.len, hl], G.S nb (allF es), es.map (·.2), W1.liveS, q1.all fun z => z, hm _ _ _ p fun v L ⟨r, d, ev, hd, hp⟩ H' sm ⟨hnew, hok⟩ => ?_⟩
  subst ev
  exact z true _ H' d hp (s1.trans (.same W1.bag sm)) (hd.isD hok (fun a q => .inl (W1.liveS a q)) (fun a m q => W1.liveS a q (hnew a m)) rfl)
theorem Sv.enterS {N : List Str} {vs : List V} {ds : List PyData} {nb : Addr -> Prop} {H : Hp} {Q : VK} {Φ : V -> Sto -> Prop} {ts : TS} (hl : Live nb H) (hd : IsDs nb H ds vs) (hΦ : ∀ v L H', Φ v L -> Same H H' -> StNew H H' L -> Q v H')
  (hρ : ρ = ds.map (Sl.d false) ++ List.replicate (N.length - ds.length) .no) (h : Sv ⟨none, H, nb, []⟩ ρ ts (stE ⟨none, H, nb, []⟩ Φ)) : ts { nx := fun _ H' => Q .non H', rt := Q } (start N vs) H :=
 enterW (P := fun σ H1 => ts { nx := fun _ H' => Q .non H', rt := Q } σ H1) hl hd hρ fun nb' σ H1 W => h nb' σ H1 _ W
  ⟨fun _ _ _ _ q _ => q.elim, fun _ _ _ _ q _ => q.elim, fun _ _ _ _ q _ => q.elim, fun _ _ _ _ _ _ _ q _ _ => q.elim, fun nb2 ρ2 σ2 v H2 ⟨L, q, hn⟩ W2 => hΦ v L H2 q (fun a o e => W2.old a o (fun _ _ z => (by cases z)) e) hn⟩
end
end L2
set_option maxRecDepth 100000
set_option maxHeartbeats 4000000
set_option maxRecDepth 100000
set_option maxHeartbeats 4000000
set_option maxRecDepth 100000
set_option maxHeartbeats 4000000
namespace L2
open PySem PySem.Spec PyProof.Rows
def tDead : TS := fun _ _ _ => False
theorem ps_dead {X : Cx} {st : Stmt} : PS X st tDead := fun _ _ _ _ _ _ h => h.elim
end L2
set_option maxRecDepth 100000
set_option maxHeartbeats 4000000
set_option maxRecDepth 100000
set_option maxHeartbeats 4000000
set_option maxRecDepth 100000
set_option maxHeartbeats 4000000
namespace L2
open PySem PySem.Spec PyProof.Rows
abbrev RF := Cu -> List PyData -> Pd -> Prop
end L2
set_option maxRecDepth 100000
set_option maxHeartbeats 4000000
set_option maxRecDepth 100000
set_option maxHeartbeats 4000000
set_option maxRecDepth 100000
set_option maxHeartbeats 4000000
set_option maxRecDepth 100000
set_option maxHeartbeats 4000000
set_option maxRecDepth 100000
set_option maxHeartbeats 4000000
namespace L2
open PySem PySem.Spec PyProof.Rows
def sumN : Nat -> (Nat -> Int) -> Int
 | 0, _ => 0
 | n + 1, f => sumN n f + f n
theorem sumN_succ {n : Nat} {f : Nat -> Int} : sumN (n + 1) f = sumN n f + f n := rfl
theorem sumN_congr {f g : Nat -> Int} : ∀ {n : Nat}, (∀ k, k < n -> f k = g k) -> sumN n f = sumN n g
 | 0, _ => rfl
 | n + 1, h => by unfold sumN; rw [sumN_congr fun k hk => h k (by omega), h n (by omega)]
theorem sumN_add {f g : Nat -> Int} : ∀ {n : Nat}, sumN n (fun k => f k + g k) = sumN n f + sumN n g
 | 0 => rfl
 | n + 1 => by rw [sumN_succ, sumN_succ, sumN_succ, sumN_add]; omega
theorem sumN_mul {a : Int} {f : Nat -> Int} : ∀ {n : Nat}, sumN n (fun k => a * f k) = a * sumN n f
 | 0 => by unfold sumN; simp
 | n + 1 => by unfold sumN; rw [sumN_mul, Int.mul_add]
theorem sumN_zero : ∀ {n : Nat}, sumN n (fun _ => 0) = 0
 | 0 => rfl
 | n + 1 => by unfold sumN; rw [sumN_zero]; rfl
theorem sumN_swap {f : Nat -> Nat -> Int} {n : Nat} : ∀ {m : Nat}, sumN n (fun k => sumN m fun c => f c k) = sumN m fun c => sumN n (f c)
  | 0 => sumN_zero
  | m + 1 => by
    show sumN n (fun k => sumN m (fun c => f c k) + f m k) = sumN m (fun c => sumN n (f c)) + sumN n (f m)
    rw [sumN_add, sumN_swap]
theorem sumN_le {f : Nat -> Int} {b : Int} : ∀ {n : Nat}, (∀ k, k < n -> f k <= b) -> sumN n f <= n * b
  | 0, _ => by unfold sumN; simp
  | n + 1, h => by
    unfold sumN
    have h1 := sumN_le (n := n) fun k hk => h k (by omega)
    have h2 := h n (by omega)
    rw [show ((n + 1 : Nat) : Int) * b = n * b + b by rw [Int.natCast_add, Int.add_mul]; simp]
    omega
theorem sumN_one {f : Nat -> Int} (hf : ∀ k, f k = 0 \/ f k = 1) : ∀ {n : Nat}, (∀ k k', k < k' -> k' < n -> ¬ (f k = 1 /\ f k' = 1)) -> sumN n f <= 1
  | 0, _ => by unfold sumN; omega
  | n + 1, h => by
    unfold sumN
    rcases hf n with e | e
    · have := sumN_one hf (n := n) fun k k' a b => h k k' a (by omega)
      omega
    · have : sumN n f = 0 := by
        rw [sumN_congr (g := fun _ => 0) fun k hk => (hf k).resolve_right fun z => h k n hk (by omega) ⟨z, e⟩]
        exact sumN_zero
      omega
theorem meet {I : Nat -> Nat -> Int} (hI : ∀ c k, I c k = 0 \/ I c k = 1) {n : Nat} : ∀ {m : Nat}, (∀ c d k k', c < d -> d < m -> k < k' -> k' < n -> ¬ (I c k = 1 /\ I d k = 1 /\ I c k' = 1 /\ I d k' = 1)) ->
    sumN n (fun k => sumN m (fun c => I c k) * (sumN m (fun c => I c k) - 1)) <= m * (m - 1)
  | 0, _ => by
    rw [sumN_congr (g := fun _ => 0) fun k _ => by unfold sumN; simp, sumN_zero]; simp
  | m + 1, h => by
    have ih := meet hI (n := n) (m := m) fun c d k k' a b => h c d k k' a (by omega)
    have e : sumN n (fun k => sumN (m + 1) (fun c => I c k) * (sumN (m + 1) (fun c => I c k) - 1)) = sumN n (fun k => sumN m (fun c => I c k) * (sumN m (fun c => I c k) - 1) + 2 * sumN m (fun c => I m k * I c k)) := by
      refine sumN_congr fun k _ => ?_
      rw [sumN_mul]
      show (sumN m (fun c => I c k) + I m k) * (sumN m (fun c => I c k) + I m k - 1) = _
      generalize sumN m (fun c => I c k) = D
      rcases hI m k with z | z <;> rw [z] <;> grind
    rw [e, sumN_add, sumN_mul, sumN_swap (f := fun c k => I m k * I c k)]
    have h2 : sumN m (fun c => sumN n fun k => I m k * I c k) <= m * 1 := sumN_le fun c hc => sumN_one (fun k => by rcases hI m k with z | z <;> rcases hI c k with y | y <;> rw [z, y] <;> simp) fun k k' hk hk' ⟨z1, z2⟩ => by
      refine h c m k k' hc (by omega) hk hk' ?_
      rcases hI m k with a | a <;> rcases hI c k with b | b <;> rcases hI m k' with a' | a' <;> rcases hI c k' with b' | b' <;> simp_all
    have e3 : ((m + 1 : Nat) : Int) * ((m + 1 : Nat) - 1) = (m : Int) * (m - 1) + 2 * m := by rw [Int.natCast_add]; grind
    omega
end L2
set_option maxRecDepth 100000
set_option maxHeartbeats 4000000
set_option maxRecDepth 100000
set_option maxHeartbeats 4000000
set_option maxRecDepth 100000
set_option maxHeartbeats 4000000
set_option maxRecDepth 100000
set_option maxHeartbeats 4000000
set_option maxRecDepth 100000
set_option maxHeartbeats 4000000
namespace L2
open PySem PySem.Spec PyProof.Rows
section
variable {p n m : Int} {c1 c2 cs : List Prs} {u w : List Int}
theorem trn_held {ws : List Int} (hV : VNet p n cs) (hl : ws.length = n.toNat) (hw : ∀ x ∈ ws, 0 <= x /\ x < p) (h : brk p cs ws = 0) : trnTo p cs ws n.toNat = [] := by
  have hb := List.countP_eq_zero.mp h
  refine List.flatMap_eq_nil_iff.mpr fun i hi => ?_
  have hi := zq119x.mp hi
  unfold trnAt
  have hmj : mjL (votesL p cs ws (i : Int)) (ws.getD i 0) = [] := by
    cases e : mjL (votesL p cs ws (i : Int)) (ws.getD i 0) with
    | nil => rfl
    | cons x r =>
      exfalso
      have hx : x ∈ mjL (votesL p cs ws (i : Int)) (ws.getD i 0) := by rw [e]; exact zq14x
      have hxf := zq84x.mp (zq143x hx)
      have hg := hxf.2
      unfold goodV at hg
      rw [zq28x, decide_eq_true_eq] at hg
      refine hg.1 ?_
      have hm := hxf.1
      unfold votesL at hm
      obtain ⟨q, hq, rfl⟩ := zq21x.mp hm
      obtain ⟨c, prs, f, hc, _, _, rfl⟩ := vcTo_mem (zq1x _) hq
      have hz := hb prs (zq27x hc)
      have hz : dueSum prs (ws.map some) % p = 0 := by simpa using hz
      show (ws.getD (i : Int).toNat 0 - dueSum (cs.getD (c : Int).toNat []) (ws.map some) % p * sol p f 1) % p = _
      rw [Int.toNat_natCast, Int.toNat_natCast, show cs.getD c [] = prs by rw [zq89x, hc]; rfl, hz, Int.zero_mul, Int.sub_zero]
      have := hw (ws.getD i 0) (by rw [zq89x, zq5x (by omega)]; exact zq47x _)
      exact Int.emod_eq_of_lt this.1 this.2
  rw [hmj]; rfl
inductive Way (p : Int) (cs : List Prs) (n k : Nat) (ws : List Int) : Prop
 | held (hb : brk p cs ws = 0) (ht : trnTo p cs ws n = [])
 | rest (hb : brk p cs ws ≠ 0) (ht : trnTo p cs ws n = [])
 | on (hb : brk p cs ws ≠ 0) (ht : trnTo p cs ws n ≠ [])
theorem way (hV : VNet p n cs) {ws : List Int} (hl : ws.length = n.toNat) (hw : ∀ x ∈ ws, 0 <= x /\ x < p) (k : Nat) : Way p cs n.toNat k ws := by
 by_cases h1 : brk p cs ws = 0
 ·exact .held h1 (trn_held hV hl hw h1)
 by_cases h2 : trnTo p cs ws n.toNat = []
 ·exact .rest h1 h2
 ·exact .on h1 h2
end
end L2
set_option maxRecDepth 100000
set_option maxHeartbeats 4000000
set_option maxRecDepth 100000
set_option maxHeartbeats 4000000
set_option maxRecDepth 100000
set_option maxHeartbeats 4000000
set_option maxRecDepth 100000
set_option maxHeartbeats 4000000
namespace L2
open PySem PySem.Spec PyProof.Rows
def ApP (cs : List Prs) : Prop := cs.Pairwise fun a b => ∀ x y : Int, x ≠ y -> x ∈ a.map (·.1) -> y ∈ a.map (·.1) -> x ∈ b.map (·.1) -> y ∈ b.map (·.1) -> False
structure HNet (p n : Int) (cs : List Prs) (ws : List Int) : Prop where
 v : VNet p n cs
 a : ApP cs
 t : ∀ prs ∈ cs, dueSum prs (ws.map some) % p = 0
 l : ws.length = n.toNat
 r : ∀ x ∈ ws, 0 <= x /\ x < p
section
variable {p n : Int} {cs : List Prs} {ws xs O : List Int} {i : Nat}
theorem wr (h : HNet p n cs ws) (hi : i < n.toNat) : 0 <= ws.getD i 0 /\ ws.getD i 0 < p := by
 have := h.l
 exact h.r _ (by rw [zq89x, zq5x (by omega)]; exact zq47x _)
end
end L2
set_option maxRecDepth 100000
set_option maxHeartbeats 4000000
set_option maxRecDepth 100000
set_option maxHeartbeats 4000000
namespace L2
open PySem PySem.Spec PyProof.Rows
section
variable {p n : Int} {d : Nat} {cs : List Prs} {ws L : List Int}
def only (cs : List Prs) (L : List Int) (x : Int) (c : Nat) : Prop := ((cs.getD c []).filter fun pr => decide (pr.1 ∈ L)).map (·.1) = [x]
end
end L2
set_option maxRecDepth 100000
set_option maxHeartbeats 4000000
set_option maxRecDepth 100000
set_option maxHeartbeats 4000000
namespace L2
open PySem PySem.Spec PyProof.Rows
section
variable {prog : Program} {w : World} {A : Around} {E : Value -> Shared -> Prop} {h : Heap} {g : Array GenState} {d : Drawn} {t : Nat} {os : OsState} {a : Addr} {o : Obj} {K : PySem.W.Frag}
 {nm q : Str} {C N : Addr} {bs bm : List Value} {hdct : Bool} {sn : List Str} {sub : List Value} {ab : Bool} {col : Option Bool} {dd : Option Addr} {k0 k1 k2 k3 k5 : Option Value} {newId : String}
end
end L2
set_option maxRecDepth 100000
set_option maxHeartbeats 4000000
namespace L2
open PySem PySem.Spec PyProof.Rows
abbrev DXF := List PyData -> Pd -> (Addr -> Prop) -> Prop
abbrev CXF := Cu -> List PyData -> (Cu -> Pd) -> (Cu -> Addr -> Prop) -> Prop
end L2
set_option maxRecDepth 100000
set_option maxHeartbeats 4000000
set_option maxRecDepth 100000
set_option maxHeartbeats 4000000
namespace L2
open PySem PySem.Spec PyProof.Rows
def Its (x : Str) : It := ⟨fun i _ => i < x.cps.size, fun i H v H' => H' = H /\ ∃ c, x.cps[i]? = some c /\ v = .str ⟨#[c]⟩, fun i _ => i = x.cps.size⟩
theorem turn_str {P : Program} {w : World} {K : PySem.W.Frag} {tg : Expr} (x : Str) (t : Tok) (it : Addr) {ty : String} (hty : ty = "str_ascii_iterator" \/ ty = "str_iterator") : Turn P w K tg (Its x) [it] it (fun i h => h.IsStrIter it ty x t i) where
 mem := by simp
 obj := fun i h st b hb => by
  have e : b = it := by simpa using hb
  subst e
  obtain ⟨o, e, c, d⟩ := st
  exact ⟨o, e, fun v z => by rw [d] at z; cases z⟩
 keep := fun i h h' st k => let ⟨o, ho, r⟩ := st; ⟨o, k it (by simp) o ho, r⟩
 item := by
  intro X hP hw hK hc i pins s σ H E I hf st hg
  subst hP hw hK
  have hg : i < x.cps.size := hg
  obtain ⟨f0, f1, f2, f3, f4, f5⟩ := hf it (by simp)
  have hx : x.cps[i]? = some x.cps[i] := by simp [hg]
  rcases hty with rfl | rfl
  ·refine wpAny_pyNext_ascii_item st hx fun h' st' sb => ?_
   have I1 : Inv X pins σ H { s with heap := h', toks := s.toks + 1 } := I.turned (t' := s.toks + 1) (fun b o hb e => (sb.2 b hb).trans e) f0 f1 f3 f4 f5
   obtain ⟨o, e, c, d⟩ := id st'
   exact ⟨_, rfl, go_of (s := { s with heap := h', toks := s.toks + 1 }) e c d (by decide) ⟨.str ⟨#[x.cps[i]]⟩, H, I1, ⟨_, rfl⟩, ⟨rfl, _, hx, rfl⟩, st', fun b hb => (hf b hb).1⟩⟩
  ·refine wpAny_pyNext_wide_item st hx fun h' st' sb => ?_
   have I1 : Inv X pins σ H { s with heap := h', toks := s.toks + 1 } := I.turned (t' := s.toks + 1) (fun b o hb e => (sb.2 b hb).trans e) f0 f1 f3 f4 f5
   obtain ⟨o, e, c, d⟩ := id st'
   exact ⟨_, rfl, go_of (s := { s with heap := h', toks := s.toks + 1 }) e c d (by decide) ⟨.str ⟨#[x.cps[i]]⟩, H, I1, ⟨_, rfl⟩, ⟨rfl, _, hx, rfl⟩, st', fun b hb => (hf b hb).1⟩⟩
 done := by
  intro X hP hw hK hc i pins s σ H E I hf st hg
  subst hP hw hK
  have hg : i = x.cps.size := hg
  obtain ⟨f0, f1, f2, f3, f4, f5⟩ := hf it (by simp)
  have hx : x.cps[i]? = none := by simp [hg]
  rcases hty with rfl | rfl
  ·exact wpAny_pyNext_ascii_end (I.ok.hd hc) st hx fun h' eb => ⟨rfl, I.turned (t' := s.toks) (fun b o hb e => eb b o hb e) f0 f1 f3 f4 f5⟩
  ·exact wpAny_pyNext_wide_end (I.ok.hd hc) st hx fun h' eb => ⟨rfl, I.turned (t' := s.toks) (fun b o hb e => eb b o hb e) f0 f1 f3 f4 f5⟩
 self := fun _ _ _ _ _ st h => by
  rcases hty with rfl | rfl
  ·exact wpAny_pyIter_striter_ascii st h
  ·exact wpAny_pyIter_striter_wide st h
def iStr (tl : TE) : TI := fun σ H R => tl σ H fun x H1 => ∃ z, x = .str z /\ R (Its z) H1
section
variable {X : Cx} {tg l : Expr} {tl : TE}
theorem pi_str (hl : PE X l tl) : PI X tg l (iStr tl) := by
 intro pins s σ H R I h
 refine thn (hl pins s σ H _ I h) fun v s1 ⟨x, H1, I1, r1, q1⟩ => ?_
 obtain ⟨z, e, q⟩ := q1
 subst e
 obtain ⟨t, rfl⟩ := r1
 cases ha : z.cps.all (· < 128)
 ·refine wpAny_pyIter_wide ha ?_
  refine ⟨s1.heap.objs.size, [s1.heap.objs.size], _, _, H1, rfl, I1.kept (t' := s1.toks) fun b o e => zq9x _ e, turn_str z t _ (.inr rfl), ⟨_, zq29x _ rfl, rfl, rfl⟩, fun b hb => ?_, q⟩
  have e : b = s1.heap.objs.size := by simpa using hb
  subst e
  exact I1.fpOk (zq1x _) (I1.hok.fresh (zq1x _))
 ·refine wpAny_pyIter_ascii ha ?_
  refine ⟨s1.heap.objs.size, [s1.heap.objs.size], _, _, H1, rfl, I1.kept (t' := s1.toks) fun b o e => zq9x _ e, turn_str z t _ (.inl rfl), ⟨_, zq29x _ rfl, rfl, rfl⟩, fun b hb => ?_, q⟩
  have e : b = s1.heap.objs.size := by simpa using hb
  subst e
  exact I1.fpOk (zq1x _) (I1.hok.fresh (zq1x _))
def rSlS : V -> Option Int -> Option Int -> Hp -> VK -> Prop := fun x lo hi H Q => ∃ z, x = .str z /\ z.length <= sizeLine /\ Q (.str (Txt.slice z lo hi)) H
theorem sl_str : SlR X rSlS := by
  intro pins s σ H x v vl vu lo hi sl Q I rx hs pl pu h
  obtain ⟨z, rfl, hz, q⟩ := h
  obtain ⟨t, rfl⟩ := rx
  refine ⟨"str", _, F.slot_str_getitem.lookup, typeIs_str _ _ _, ?_⟩
  have fin : ∀ (l u : Option (Int × Tok)), l.map (·.1) = lo -> u.map (·.1) = hi -> s.heap.IsSlice sl l u none -> wpAny (model X.prog X.w) X.A (getItem (.str z t) (.ref sl)) (EP X pins σ Q) X.xe s := fun l u e1 e2 hsl => by
    subst e1 e2
    refine wpAny_getItem_str_slice hsl rfl (post_val_or_str ⟨zq25x (Txt.slice_le z _ _) hz, fun t' k => ?_⟩)
    exact ⟨.str _, H, I.tok _, ⟨_, rfl⟩, q⟩
  cases pl with
  | none =>
    cases pu with
    | none => exact fin none none rfl rfl hs
    | int j uj => exact fin none (some (j, uj)) rfl rfl hs
  | int i ui =>
    cases pu with
    | none => exact fin (some (i, ui)) none rfl rfl hs
    | int j uj => exact fin (some (i, ui)) (some (j, uj)) rfl rfl hs
def rStarts : V -> List V -> Hp -> VK -> Prop := fun x vs H Q => ∃ z y, x = .str z /\ vs = [.str y] /\ Q (.bl (Txt.startswith z y)) H
theorem mt_starts : MtR X "str.startswith" rStarts := by
 intro pins s σ H x vs v us Q I rx rv h
 obtain ⟨z, y, rfl, rfl, q⟩ := h
 obtain ⟨t, rfl⟩ := rx
 obtain ⟨u, rfl, ru⟩ := rv.one
 obtain ⟨t', rfl⟩ := ru
 exact SC.startswith ⟨.bl _, H, I, rfl, q⟩
def rInS (neg : Bool) : R2 := fun x y H Q => ∃ i j, x = .str i /\ y = .str j /\ Q (.bl ((!(Builtin.Str.occurrences j i 0 j.length 1).isEmpty) != neg)) H
theorem op_inS : OpR X (compareOp .In) (rInS false) := by
 intro pins s σ H x y u v Q I rx ry h
 obtain ⟨i, j, e1, e2, q⟩ := h
 exact op_in_str pins s σ H x y u v Q I rx ry ⟨i, j, e1, e2, by simpa using q⟩
def rLenS : List V -> Hp -> VK -> Prop := fun xs H Q => ∃ z, xs = [.str z] /\ z.length <= sizeLine /\ Q (.int z.length) H
theorem call_lenStr : CallR X (.builtin "len") rLenS := call_len_str
def rJoin : V -> List V -> Hp -> VK -> Prop := fun x vs H Q => ∃ (z : Str) (a : Addr) (ys : List Str), x = .str z /\ vs = [.ref a] /\ H a = some (.lst (ys.map .str)) /\ JoinOk z ys = true /\ Q (.str (Txt.join z ys)) H
theorem vals_strs {us : List Value} : ∀ {ys : List Str}, Vals (ys.map V.str) us -> ∃ l : List (Str × Tok), us = strValues l /\ l.map (·.1) = ys := by
  intro ys
  induction ys generalizing us with
  | nil => intro h; cases h; exact ⟨[], rfl, rfl⟩
  | cons y ys ih =>
    intro h
    cases h with
    | cons r t =>
      obtain ⟨l, rfl, e⟩ := ih t
      obtain ⟨k, rfl⟩ := r
      exact ⟨(y, k) :: l, rfl, by rw [zq7x, e]⟩
theorem mt_join : MtR X "str.join" rJoin := by
 intro pins s σ H x vs v us Q I rx rv h
 obtain ⟨z, a, ys, rfl, rfl, hH, hok, q⟩ := h
 obtain ⟨t, rfl⟩ := rx
 obtain ⟨u, rfl, ru⟩ := rv.one
 cases ru
 obtain ⟨zz, its, n, r, hl, e⟩ := I.lstM hH
 obtain ⟨l, rfl, el⟩ := vals_strs r
 exact SC.join (l := l) ⟨_, e, rfl, n, rfl⟩ el hok fun t' k => ⟨.str _, H, I.tok _, ⟨_, rfl⟩, q⟩
end
theorem isD_str {S : Addr -> Prop} {H : Hp} {x : Str} : IsD S H (.str x) (.str x) := by unfold IsD; rfl
theorem R.comp_str {x : Str} {g : TG} {tc : TT} {te : TE} {acc : Addr} {Qe : Hp -> Prop} {σ : St} {H : Hp} (Pv : Nat -> St -> Hp -> Prop) (h0 : Pv 0 σ H)
  (hs : ∀ i c σ H, x.cps[i]? = some c -> Pv i σ H -> g (.str ⟨#[c]⟩) σ H fun σ2 H2 => tc σ2 H2 fun b H3 => if b = true then te σ2 H3 fun v H4 => ∃ ys, H4 acc = some (.lst ys) /\ ys.length < sizeLine /\ Pv (i + 1) σ2 (upd H4 acc (.lst (ys ++ [v]))) else Pv (i + 1) σ2 H3)
  (hd : ∀ σ H, Pv x.cps.size σ H -> Qe H) : CompW (Its x) g tc te acc Qe σ H := by
 refine ⟨fun i m σ H => m = x.cps.size - i /\ i <= x.cps.size /\ Pv i σ H, ⟨x.cps.size, by simp, zq36x _, h0⟩, ?_⟩
 rintro i m σ H ⟨rfl, hi, p⟩
 by_cases hlt : i < x.cps.size
 ·refine .inr ⟨hlt, Pv (i + 1), fun σ' H' p' => ⟨x.cps.size - (i + 1), by omega, rfl, hlt, p'⟩, fun y H' z => ?_⟩
  obtain ⟨e, c, hc, ey⟩ := z
  subst e ey
  exact hs i c σ _ hc p
 ·have e : i = x.cps.size := by omega
  subst e
  exact .inl ⟨rfl, hd σ H p⟩
section
variable {G : Gx} {ρ ρc : Rh} {ta tb te : TE} {gt : TG} {K : PySem.W.Frag} {Θ : Bool -> List PyData -> Prop} {Φ : Pd} {tc : TT} {mp : List (Option Nat)} {t0 : TE}
theorem EvN.compS (hm : (mp.filterMap id).Nodup) (hρ : startR mp ρ = ρc) (h : Ev G ρ t0 fun _ y => ∃ x, y = .str x /\ x.cps.size <= 10000 /\ CompD G ρc x.cps.size (fun i d => ∃ c, x.cps[i]? = some c /\ d = .str ⟨#[c]⟩) true gt tc te Θ) : EvN G ρ (tComp (iStr t0) gt tc te mp) Θ := fun nb σ H Q W z =>
 h nb σ H _ W fun f v H1 y ⟨x, ex, hn, q⟩ s1 hv => by
  subst ex
  obtain ⟨fl, I, h0, ht, he⟩ := q
  have hv : v = .str x := by unfold IsD at hv; exact hv
  subst hv
  refine ⟨x, rfl, fun acc hacc => ?_⟩
  have W0 : Wd G nb ρc (L2.startC mp σ) H1 := by rw [<- hρ]; exact (W.step s1).startC hm
  have W1 := W0.more hacc (o := .lst [])
  have hN := NB.new s1.2 hacc
  have hno := no_own W0 hacc
  have st0 : Step G.B H1 (upd H1 acc (.lst [])) := .same s1.2 (same_new hacc)
  refine R.comp_str (fun i σ H => ∃ ds xs, Wd G (fun x => nb x \/ x = acc) ρc σ H /\ Step G.B H1 H /\ H acc = some (.lst xs) /\ IsDs (G.S (fun x => nb x \/ x = acc) fl) H ds xs /\ ds.length <= i /\ I i ds) ⟨[], [], W1, st0, upd_same, .nil, zq1x _, h0⟩ ?_ ?_
  ·rintro i c σ H hc ⟨ds, xs, W, st, hx, hd, hl, hI⟩
   have hi : i < x.cps.size := (zq88x.mp hc).1
   exact comp_turn hn hi W (.inr rfl) hN hno st hacc hx hd hl isD_str (ht i _ ds ⟨c, hc, rfl⟩ hl hI) fun σ' H' ds' xs' W' st' hx' hd' hl' hI' => ⟨ds', xs', W', st', hx', hd', hl', hI'⟩
  ·rintro σ H' ⟨ds, xs, W', st, hx, hd, hl, hI⟩
   exact comp_end W s1 hacc st hx hd (he ds hl hI) z
theorem IsD.ofS {S : Addr -> Prop} {H : Hp} {x : Str} {v : V} (h : IsD S H (.str x) v) : v = .str x := by unfold IsD at h; exact h
theorem Ev.slS {tl th : TO} (h : Ev G ρ te fun _ y => ∃ x, y = .str x /\ x.length <= sizeLine /\ Ov G ρ tl fun lo => Ov G ρ th fun hi => Φ true (.str (Txt.slice x lo hi))) : Ev G ρ (tSl rSlS te tl th) Φ := fun nb σ H Q W z =>
 h nb σ H _ W fun f v H1 y ⟨x, ex, hl, q⟩ s1 hv => by
  subst ex
  rw [hv.ofS]
  exact q nb σ H1 _ (W.step s1) fun lo H2 q s2 => q nb σ H2 _ ((W.step s1).step s2) fun hi H3 q s3 => ⟨x, rfl, hl, z true _ H3 _ q ((s1.trans s2).trans s3) isD_str⟩
theorem Ev.starts (h : Ev G ρ ta fun _ x => ∃ a, x = .str a /\ Ev G ρ tb fun _ y => ∃ b, y = .str b /\ Φ true (.bool (Txt.startswith a b))) : Ev G ρ (tBM K "str" rStarts ta (tCons tb tNil)) Φ := fun nb σ H Q W z =>
 h nb σ H _ W fun f v H1 d ⟨a, e, q⟩ s1 hv => by
  subst e
  rw [hv.ofS]
  refine ⟨rfl, q nb σ H1 _ (W.step s1) fun g u H2 y ⟨b, ey, p⟩ s2 hu => ?_⟩
  subst ey
  rw [hu.ofS]
  exact ⟨a, b, rfl, rfl, z true _ H2 _ p (s1.trans s2) (.bl _)⟩
theorem Ev.inS {neg : Bool} (h : Ev G ρ ta fun _ x => ∃ a, x = .str a /\ Ev G ρ tb fun _ y => ∃ b, y = .str b /\ Φ true (.bool ((!(Builtin.Str.occurrences b a 0 b.length 1).isEmpty) != neg))) : Ev G ρ (tOp (rInS neg) ta tb) Φ := fun nb σ H Q W z =>
 h nb σ H _ W fun f v H1 d ⟨a, e, q⟩ s1 hv => by
  subst e
  rw [hv.ofS]
  refine q nb σ H1 _ (W.step s1) fun g u H2 y ⟨b, ey, p⟩ s2 hu => ?_
  subst ey
  rw [hu.ofS]
  exact ⟨a, b, rfl, rfl, z true _ H2 _ p (s1.trans s2) (.bl _)⟩
theorem Ev.lenStr (h : Ev G ρ ta fun _ x => ∃ a, x = .str a /\ a.length <= sizeLine /\ Φ true (.int a.length)) : Ev G ρ (tCB rLenS (tCons ta tNil)) Φ := fun nb σ H Q W z =>
 h nb σ H _ W fun f v H1 d ⟨a, e, hl, q⟩ s1 hv => by
  subst e
  rw [hv.ofS]
  exact ⟨a, rfl, hl, z true _ H1 _ q s1 (.int _)⟩
theorem isDs_strs_eq {S : Addr -> Prop} {H : Hp} : ∀ {ys : List Str} {xs : List V}, IsDs S H (ys.map .str) xs -> xs = ys.map V.str
  | [], xs, h => by unfold IsDs at h; exact h
  | y :: ys, xs, h => by
    unfold IsDs at h
    obtain ⟨v, vs, e, h1, h2⟩ := h
    rw [e, h1.ofS, isDs_strs_eq h2]
    rfl
theorem Ev.join (h : Ev G ρ ta fun _ x => ∃ z, x = .str z /\ Ev G ρ tb fun _ y => ∃ ys : List Str, y = .list (ys.map .str) /\ JoinOk z ys = true /\ Φ true (.str (Txt.join z ys))) : Ev G ρ (tBM K "str" rJoin ta (tCons tb tNil)) Φ := fun nb σ H Q W z =>
 h nb σ H _ W fun f v H1 d ⟨a, e, q⟩ s1 hv => by
  subst e
  rw [hv.ofS]
  refine ⟨rfl, q nb σ H1 _ (W.step s1) fun g u H2 y ⟨ys, ey, hok, p⟩ s2 hu => ?_⟩
  subst ey
  obtain ⟨b, xs, rfl, n, hx, hd⟩ := hu.ofL
  have ex := isDs_strs_eq hd
  subst ex
  exact ⟨a, b, ys, rfl, rfl, hx, hok, z true _ H2 _ p (s1.trans s2) isD_str⟩
end
end L2
namespace L2
open PySem PySem.Spec PyProof.Rows Builtin.Str
def SplitOk (x y : Str) : Prop := (y.length == 0) = false /\ x.length <= sizeLine /\ (partsBetween x (occurrences x y 0 x.length (x.length + 1)) y.length).length <= sizeLine
theorem call_splitN {prog : Program} {w : World} {A : Around} {E : Value -> Shared -> Prop} {s : Shared} {x y : Str} {t u : Tok} {Q : Value -> Shared -> Prop} (ok : SplitOk x y)
  (fin : ∀ (l : List (Str × Tok)) (k : Nat), l.map (·.1) = Txt.split x y -> Q (.ref s.heap.objs.size) { s with heap := s.heap.push { cls := .type "list", data := .seq (strValues l).toArray }, toks := k }) : wpAny (model prog w) A (call (.builtin "str.split") [.str x t, .str y u]) Q E s := by
 obtain ⟨o1, o2, o3⟩ := ok
 have sl := F.slot_str_split
 by_cases c1 : (decide (x.length < y.length) || decide (strKind x < strKind y)) = true
 ·refine call_meets sl (typeIs_str _ _ _) zq147x (zq148x _ _) (meets_str_split_cannot_occur x y t u c1) ?_
  exact fin [(x, t)] s.toks (if_pos c1).symm
 have n1 := zq92x.mpr c1
 by_cases c2 : (occurrences x y 0 x.length (x.length + 1)).isEmpty = true
 ·refine call_meets sl (typeIs_str _ _ _) zq147x (zq148x _ _) (meets_str_split_not_found x y t u n1 o1 c2) ?_
  exact fin [(x, t)] s.toks ((if_neg c1).trans (if_pos c2)).symm
 have n2 := zq92x.mpr c2
 refine call_meets sl (typeIs_str _ _ _) zq147x (zq148x _ _) (meets_str_split_sep x y t u n1 o1 n2 o2 o3) ?_
 have f := fin (numbered s.toks (partsBetween x (occurrences x y 0 x.length (x.length + 1)) y.length)) (s.toks + (partsBetween x (occurrences x y 0 x.length (x.length + 1)) y.length).length) ((numbered_texts _ _).trans ((if_neg c1).trans (if_neg c2)).symm)
 rw [<- strsFrom_eq] at f
 exact f
def rSplit : V -> List V -> Hp -> VK -> Prop := fun x vs H Q => ∃ z y, x = .str z /\ vs = [.str y] /\ SplitOk z y /\ (Txt.split z y).length <= sizeLine /\ ∀ p, H p = none -> Q (.ref p) (upd H p (.lst ((Txt.split z y).map .str)))
theorem vals_ofStrs : ∀ (l : List (Str × Tok)), Vals ((l.map (·.1)).map V.str) (strValues l)
 | [] => .nil
 | p :: l => .cons ⟨p.2, rfl⟩ (vals_ofStrs l)
theorem mt_split {X : Cx} : MtR X "str.split" rSplit := by
 intro pins s σ H x vs v us Q I rx rv h
 obtain ⟨z, y, rfl, rfl, ok, hle, q⟩ := h
 obtain ⟨t, rfl⟩ := rx
 obtain ⟨u, rfl, ru⟩ := rv.one
 obtain ⟨t', rfl⟩ := ru
 refine call_splitN ok fun l k e => ?_
 refine ⟨.ref s.heap.objs.size, _, I.laid (t' := k) (o := .lst ((Txt.split z y).map .str)) (fun b ob q => zq9x _ q) (zq1x _) ?_, rfl, q _ (I.hok.fresh (zq1x _))⟩
 refine ⟨by rw [zq0x]; exact hle, strValues l, 0, ?_, zq29x _ rfl⟩
 rw [<- e]
 exact vals_ofStrs l
theorem isDs_strs {S : Addr -> Prop} {H : Hp} : ∀ ys : List Str, IsDs S H (ys.map .str) (ys.map V.str)
 | [] => .nil
 | y :: ys => .cons isD_str (isDs_strs ys)
theorem EvN.split {G : Gx} {ρ : Rh} {ta tb : TE} {K : PySem.W.Frag} {Θ : Bool -> List PyData -> Prop} (h : Ev G ρ ta fun _ x => ∃ a, x = .str a /\ Ev G ρ tb fun _ y => ∃ b, y = .str b /\ SplitOk a b /\ (Txt.split a b).length <= sizeLine /\ Θ true ((Txt.split a b).map .str)) : EvN G ρ (tBM K "str" rSplit ta (tCons tb tNil)) Θ := fun nb σ H Q W z =>
 h nb σ H _ W fun f v H1 d ⟨a, e, q⟩ s1 hv => by
  subst e
  rw [hv.ofS]
  refine ⟨rfl, q nb σ H1 _ (W.step s1) fun g u H2 y ⟨b, ey, ok, hle, p⟩ s2 hu => ?_⟩
  subst ey
  rw [hu.ofS]
  refine ⟨a, b, rfl, rfl, ok, hle, fun c hc => ?_⟩
  have e0 : H c = none := W.none_of (s1.trans s2) hc
  refine z true c _ _ _ p ((s1.trans s2).trans (.same ((W.step (s1.trans s2)).bag) (same_new hc))) e0 upd_same ?_
  exact isDs_strs _
end L2
set_option maxRecDepth 100000
set_option maxHeartbeats 4000000
namespace L2
open PySem PySem.Spec PyProof.Rows PySem.NumText
section
variable {x : Str} {i : Int}
theorem slice_from (h0 : 0 <= i) : (Txt.slice x (some i) none).cps.toList = x.cps.toList.drop i.toNat := by
 by_cases h : i <= x.length
 ·rw [slice_from_eq h0 h rfl]
  show List.take _ _ = _
  rw [zq90x]
  rw [zq86x]
  have : x.cps.toList.length = x.length := by simp [Str.length]
  omega
 ·rw [slice_beyond (by omega)]
  have : x.cps.toList.length = x.length := by simp [Str.length]
  rw [List.drop_eq_nil_of_le (by omega)]
  rfl
theorem starts_one (c : Nat) : Txt.startswith x ⟨#[c]⟩ = decide (x.cps.toList.head? = some c) := by
  obtain ⟨⟨l⟩⟩ := x
  cases l with
  | nil => rfl
  | cons a r =>
    unfold Txt.startswith Builtin.Str.subAt
    by_cases e : a = c
    · subst e
      simp [Str.length]
    · simp [Str.length, e]
end
theorem str_ext {x y : Str} (h : x.cps.toList = y.cps.toList) : x = y := by
 obtain ⟨a⟩ := x
 obtain ⟨b⟩ := y
 congr 1
 exact Array.toList_inj.mp h
theorem len_app (x y : Str) : (x ++ y).length = x.length + y.length := by
 show (x.cps ++ y.cps).size = _
 rw [Array.size_append]; rfl
def figS : Str := "0123456789"
theorem fig_mem (c : Nat) : (!(Builtin.Str.occurrences figS ⟨#[c]⟩ 0 figS.length 1).isEmpty) = decide (48 <= c /\ c <= 57) := by
 rw [StrLaws.found_one, show figS.cps.toList = [48, 49, 50, 51, 52, 53, 54, 55, 56, 57] by decide]
 rw [zq60x, decide_eq_true_eq, decide_eq_true_eq]
 simp only [zq4x, List.not_mem_nil, or_false]
 omega
def figs (x : Str) : List Nat := if x.cps.toList.head? = some 45 then x.cps.toList.drop 1 else x.cps.toList
def okNum (x : Str) (most : Int) : Prop := figs x ≠ [] /\ ((figs x).length : Int) <= most /\ AllDigits (figs x) /\ ¬ ((figs x).head? = some 48 /\ 1 < x.length)
open Classical in
noncomputable def valF (x : Str) (most : Int) : Option Int := if okNum x most then PySem.intText? x else none
theorem okNum_int {x : Str} {most : Int} (h : okNum x most) (hl : x.length <= 640) : ∃ n, PySem.intText? x = some n := by
 obtain ⟨h1, h2, h3, h4⟩ := h
 unfold figs at h1 h2 h3
 by_cases c : x.cps.toList.head? = some 45
 ·rw [if_pos c] at h1 h3
  obtain ⟨cs, hcs⟩ : ∃ cs, x.cps.toList = 45 :: cs := by
   cases e : x.cps.toList with
   | nil => rw [e] at c; cases c
   | cons a r => rw [e] at c; cases c; exact ⟨r, rfl⟩
  rw [hcs] at h1 h3
  exact ⟨_, PySem.intText_neg hcs h3 h1 (by omega)⟩
 ·rw [if_neg c] at h1 h3
  exact ⟨_, zq173x h3 h1 (by omega)⟩
theorem valF_some {x : Str} {most n : Int} (h : okNum x most) (e : PySem.intText? x = some n) : valF x most = some n := by unfold valF; rw [if_pos h, e]
theorem valF_none {x : Str} {most : Int} (h : ¬ okNum x most) : valF x most = none := by unfold valF; rw [if_neg h]
end L2
set_option maxRecDepth 100000
set_option maxHeartbeats 4000000
namespace L2
open PySem PySem.Spec PyProof.Rows PySem.NumText
abbrev sg (c : Nat) : Str := ⟨#[c]⟩
theorem join_eq (sep : Str) (ys : List Str) : Txt.join sep ys = Str.join sep ys := StrLaws.glued_eq_join sep ys
theorem join_list (c : Nat) : ∀ (a : Str) (r : List Str), (Str.join (sg c) (a :: r)).cps.toList = a.cps.toList ++ (r.map fun y => c :: y.cps.toList).flatten
  | a, [] => by rw [zq68x, zq116x, zq44x]; rfl
  | a, b :: r => by
    have ih := join_list c b r
    show ((a.cps ++ (sg c).cps) ++ (Str.join (sg c) (b :: r)).cps).toList = _
    rw [zq24x, zq24x, ih, zq7x, zq83x]
    simp [sg]
theorem join_inj {c : Nat} : ∀ {A B : List Str}, A ≠ [] -> B ≠ [] -> (∀ a ∈ A, c ∉ a.cps.toList) -> (∀ b ∈ B, c ∉ b.cps.toList) -> Str.join (sg c) A = Str.join (sg c) B -> A = B := by
  have cut : ∀ {x y s t : List Nat}, c ∉ x -> c ∉ y -> x ++ (c :: s) = y ++ (c :: t) -> x = y /\ s = t := by
    intro x
    induction x with
    | nil =>
      intro y s t _ hy e
      cases y with
      | nil => exact ⟨rfl, by simpa using e⟩
      | cons b y => simp at e; exact absurd (by rw [e.1]; exact zq14x) hy
    | cons a x ih =>
      intro y s t hx hy e
      cases y with
      | nil => simp at e; exact absurd (by rw [<- e.1]; exact zq14x) hx
      | cons b y =>
        simp at e
        obtain ⟨q1, q2⟩ := ih (fun z => hx (zq20x _ z)) (fun z => hy (zq20x _ z)) e.2
        exact ⟨by rw [e.1, q1], q2⟩
  intro A
  induction A with
  | nil => intro B h; exact absurd rfl h
  | cons a r ih =>
    intro B _ hB hA hb e
    cases B with
    | nil => exact absurd rfl hB
    | cons b t =>
      have e2 := congrArg (fun x : Str => x.cps.toList) e
      rw [join_list, join_list] at e2
      have ha := hA a zq14x
      have hbb := hb b zq14x
      cases r with
      | nil =>
        cases t with
        | nil => rw [zq68x, zq116x, zq44x, zq44x] at e2; rw [str_ext e2]
        | cons d t =>
          rw [zq68x, zq116x, zq44x, zq7x, zq83x] at e2
          exact absurd (by rw [e2]; exact zq42x _ (by simp)) ha
      | cons r0 r =>
        cases t with
        | nil =>
          rw [zq68x, zq116x, zq44x, zq7x, zq83x] at e2
          exact absurd (by rw [<- e2]; exact zq42x _ (by simp)) hbb
        | cons t0 t =>
          rw [zq7x, zq83x, zq7x, zq83x, zq70x, zq70x] at e2
          obtain ⟨q1, q2⟩ := cut ha hbb e2
          have := ih (B := t0 :: t) (by simp) (by simp) (fun x hx => hA x (zq20x _ hx)) (fun x hx => hb x (zq20x _ hx)) (str_ext (by rw [join_list, join_list]; exact q2))
          rw [str_ext q1, this]
theorem split_join {c : Nat} {A : List Str} (hA : A ≠ []) (h : ∀ a ∈ A, c ∉ a.cps.toList) : Txt.split (Txt.join (sg c) A) (sg c) = A := by
 rw [join_eq]
 refine join_inj (c := c) ?_ hA (StrLaws.split_free _ c) h (StrLaws.join_split _ _)
 intro z
 have := split_pos (Str.join (sg c) A) (sg c)
 rw [z] at this
 exact absurd this (by decide)
theorem split_ok {x : Str} {c : Nat} (h : x.length + 2 <= sizeLine) : SplitOk x (sg c) /\ (Txt.split x (sg c)).length <= sizeLine := by
 refine ⟨⟨rfl, by omega, ?_⟩, zq25x (split_le x (sg c)) h⟩
 have h1 := StrLaws.occ_length_le_len x (sg c) 0 x.length (x.length + 1)
 unfold Builtin.Str.partsBetween
 simp
 omega
abbrev nS (n : Int) : Str := Str.ofString (toString n)
theorem nS_free (n : Int) {c : Nat} (h : c ≠ 45 /\ (c < 48 \/ 57 < c)) : c ∉ (nS n).cps.toList := fun z => int_text_free' c h n z
theorem digits_num (m : Nat) : AllDigits ((Nat.toDigits 10 m).map Char.toNat) := fun c hc => by
 obtain ⟨ch, hch, e⟩ := zq21x.mp hc
 rw [<- e]
 exact digit_range (Nat.isDigit_of_mem_toDigits (by decide) (by decide) hch)
theorem nS_pos (m : Nat) : (nS (m : Int)).cps.toList = (Nat.toDigits 10 m).map Char.toNat := PySem.W.KIN.signs_num m
theorem nS_neg (m : Nat) : (nS (-((m : Int) + 1))).cps.toList = 45 :: (Nat.toDigits 10 (m + 1)).map Char.toNat := by
 have e : (-((m : Int) + 1)) = Int.negSucc m := by omega
 rw [e]
 unfold nS
 rw [signs_ofString]
 show ("-" ++ Nat.repr (m + 1)).toList.map Char.toNat = _
 rw [String.toList_append, zq11x, Nat.toList_repr]
 rfl
theorem digs_len : ∀ (k m : Nat), 1 <= k -> m < 10 ^ k -> (Nat.toDigits 10 m).length <= k := by
  intro k
  induction k with
  | zero => intro m h; omega
  | succ k ih =>
    intro m _ hm
    by_cases h : m < 10
    · rw [zq149x h]; simp
    · have h2 : m % 10 < 10 := zq111x m (by decide)
      have t : Nat.toDigits 10 (m / 10) ++ Nat.toDigits 10 (m % 10) = Nat.toDigits 10 (10 * (m / 10) + m % 10) := zq174x (by decide) (by omega) h2
      rw [Nat.div_add_mod] at t
      have hk : 1 <= k := Nat.pos_of_ne_zero fun z => by subst z; simp at hm; omega
      have := ih (m / 10) hk (by rw [Nat.pow_succ] at hm; omega)
      rw [<- t, zq26x, zq149x h2]
      simp
      omega
theorem digs_head (m : Nat) : (Nat.toDigits 10 m).map Char.toNat ≠ [] /\ (((Nat.toDigits 10 m).map Char.toNat).head? = some 48 -> m = 0) := by
  induction m using Nat.strongRecOn with
  | _ m ih =>
    by_cases h : m < 10
    · rw [zq149x h]
      refine ⟨by simp, fun z => ?_⟩
      have e := PySem.W.KIN.digit_back m h
      simp at z
      omega
    · have h2 : m % 10 < 10 := zq111x m (by decide)
      have t : Nat.toDigits 10 (m / 10) ++ Nat.toDigits 10 (m % 10) = Nat.toDigits 10 (10 * (m / 10) + m % 10) := zq174x (by decide) (by omega) h2
      rw [Nat.div_add_mod] at t
      obtain ⟨i1, i2⟩ := ih (m / 10) (by omega)
      rw [<- t, zq11x]
      refine ⟨by simp [i1], fun z => ?_⟩
      rw [List.head?_append] at z
      cases e : ((Nat.toDigits 10 (m / 10)).map Char.toNat).head? with
      | none => exact absurd (List.head?_eq_none_iff.mp e) i1
      | some c =>
        rw [e] at z
        cases z
        have := i2 e
        omega
theorem num_ok {n : Int} (h : n.natAbs < 10 ^ 60) : valF (nS n) 60 = some n /\ (nS n).length <= 61 /\ 1 <= (nS n).length := by
  have hcl : (nS n).cps.toList.length = (nS n).length := by simp [Str.length]
  rcases Int.lt_or_le n 0 with hn | hn
  · obtain ⟨m, rfl⟩ : ∃ m : Nat, n = -((m : Int) + 1) := ⟨(-n - 1).toNat, by omega⟩
    have e := nS_neg m
    have hd := digits_num (m + 1)
    obtain ⟨h1, h2⟩ := digs_head (m + 1)
    have hl := digs_len 60 (m + 1) (by decide) (by omega)
    have hlen : (nS (-((m : Int) + 1))).length = (Nat.toDigits 10 (m + 1)).length + 1 := by rw [<- hcl, e]; simp
    have hf : figs (nS (-((m : Int) + 1))) = (Nat.toDigits 10 (m + 1)).map Char.toNat := by unfold figs; rw [e]; rfl
    have hi := PySem.intText_neg e hd h1 (by rw [hlen]; omega)
    rw [zq175x] at hi
    refine ⟨valF_some ⟨by rw [hf]; exact h1, by rw [hf, zq0x]; omega, by rw [hf]; exact hd, fun z => ?_⟩ (hi.trans (by congr 1)), by omega, by omega⟩
    rw [hf] at z
    have := h2 z.1
    omega
  · obtain ⟨m, rfl⟩ := zq145x hn
    have e := nS_pos m
    have hd := digits_num m
    obtain ⟨h1, h2⟩ := digs_head m
    have hl := digs_len 60 m (by decide) (by omega)
    have hl1 := List.length_pos_iff.mpr h1
    rw [zq0x] at hl1
    have hlen : (nS (m : Int)).length = (Nat.toDigits 10 m).length := by rw [<- hcl, e]; simp
    have hf : figs (nS (m : Int)) = (Nat.toDigits 10 m).map Char.toNat := by
      unfold figs
      rw [e, if_neg]
      intro z
      cases hh : (Nat.toDigits 10 m).map Char.toNat with
      | nil => exact h1 hh
      | cons c r =>
        rw [hh] at z
        cases z
        have := hd 45 (by rw [hh]; exact zq14x)
        omega
    have hi := zq173x (x := nS (m : Int)) (by rw [e]; exact hd) (by rw [e]; exact h1) (by rw [hlen]; omega)
    rw [e, zq175x] at hi
    refine ⟨valF_some ⟨by rw [hf]; exact h1, by rw [hf, zq0x]; omega, by rw [hf]; exact hd, fun z => ?_⟩ hi, by omega, by omega⟩
    rw [hf] at z
    have h0 := h2 z.1
    subst h0
    have := z.2
    rw [hlen] at this
    exact absurd this (by decide)
def rStrI : List V -> Hp -> VK -> Prop := fun xs H Q => ∃ i, xs = [.int i] /\ i.natAbs.log2 < 1920 /\ Q (.str (nS i)) H
theorem call_strI {X : Cx} : CallR X (.type "str") rStrI := call_str_int
section
variable {G : Gx} {ρ : Rh} {te ta : TE} {gt : TG} {tc : TT} {mp : List (Option Nat)} {K : PySem.W.Frag} {Θ : Bool -> List PyData -> Prop} {Φ : Pd}
theorem Ev.addL {tb : TE} (h : Ev G ρ ta fun _ x => ∃ i, x = .str i /\ Ev G ρ tb fun _ y => ∃ j, y = .str j /\ i.length + j.length <= sizeLine /\ Φ true (.str (i ++ j))) : Ev G ρ (tOp rAddS ta tb) Φ := fun nb σ H Q W z =>
 h nb σ H _ W fun f v H1 d ⟨a, e, q⟩ s1 hv => by
  subst e
  rw [hv.ofS]
  refine q nb σ H1 _ (W.step s1) fun g u H2 y ⟨b, ey, hl, p⟩ s2 hu => ?_
  subst ey
  rw [hu.ofS]
  exact ⟨a, b, rfl, rfl, hl, z true _ H2 _ p (s1.trans s2) isD_str⟩
theorem Ev.strI (h : Ev G ρ ta fun _ x => ∃ i, x = .int i /\ i.natAbs < 10 ^ 60 /\ Φ true (.str (nS i))) : Ev G ρ (tCB rStrI (tCons ta tNil)) Φ := fun nb σ H Q W z =>
 h nb σ H _ W fun f v H1 d ⟨i, e, hi, q⟩ s1 hv => by
  subst e
  rw [hv.ofI]
  refine ⟨i, rfl, ?_, z true _ H1 _ q s1 isD_str⟩
  by_cases c : i.natAbs = 0
  ·rw [c]; decide
  ·exact zq17x (zq127x c |>.mpr (zq17x hi (by decide : 10 ^ 60 <= 2 ^ 200))) (by decide)
end
def rwT (first : Str) (others : List Str) : Str := Txt.join (sg 32) (first :: others)
theorem row_cut {first : Str} {others : List Str} (h1 : 32 ∉ first.cps.toList) (h2 : ∀ o ∈ others, 32 ∉ o.cps.toList) : Txt.split (rwT first others) (sg 32) = first :: others :=
 split_join (by simp) fun a ha => (zq4x.mp ha).elim (fun e => e ▸ h1) (h2 a)
def sumL (ys : List Str) : Nat := (ys.map (·.length)).sum
theorem join_le (c : Nat) (a : Str) (r : List Str) : (Txt.join (sg c) (a :: r)).length = a.length + sumL r + r.length := by
  have e := congrArg List.length (join_list c a r)
  rw [<- join_eq] at e
  have h1 : (Txt.join (sg c) (a :: r)).cps.toList.length = (Txt.join (sg c) (a :: r)).length := by simp [Str.length]
  have h2 : a.cps.toList.length = a.length := by simp [Str.length]
  have h3 : ∀ r : List Str, ((r.map fun y => c :: y.cps.toList).flatten).length = sumL r + r.length := by
    intro r
    induction r with
    | nil => rfl
    | cons b r ih =>
      have h4 : b.cps.toList.length = b.length := by simp [Str.length]
      have h5 : sumL (b :: r) = b.length + sumL r := by unfold sumL; rw [zq7x, List.sum_cons]
      rw [zq7x, zq83x, zq26x, ih, zq35x, h4, h5, zq35x]
      omega
  rw [zq26x, h3] at e
  omega
theorem joinOk_of {c B : Nat} {ys : List Str} (hB : ∀ y ∈ ys, y.length <= B) (h : ys.length * B + ys.length <= 16777216) : JoinOk (sg c) ys = true := by
 unfold JoinOk
 rw [zq134x]
 exact StrLaws.joinFits hB (by show _ + _ * 1 <= _; omega)
theorem sumL_le {B : Nat} : ∀ {ys : List Str}, (∀ y ∈ ys, y.length <= B) -> sumL ys <= ys.length * B
  | [], _ => zq36x _
  | y :: ys, h => by
    have := sumL_le (ys := ys) fun z hz => h z (zq20x _ hz)
    have h1 := h y zq14x
    unfold sumL at this ⊢
    rw [zq7x, List.sum_cons, zq35x, Nat.succ_mul]
    omega
end L2
set_option maxRecDepth 100000
set_option maxHeartbeats 4000000
set_option maxRecDepth 100000
set_option maxHeartbeats 4000000
namespace L2
open PySem PySem.Spec PyProof.Rows
def EvG (G : Gx) (ρ : Rh) (te : TE) (Θ : List (List PyData) -> Prop) : Prop := ∀ nb σ H (Q : VK), Wd G nb ρ σ H ->
 (∀ a0 (bs : List Addr) (dss : List (List PyData)) H', Θ dss -> Step G.B H H' -> (a0 :: bs).Nodup -> (∀ b ∈ a0 :: bs, H b = none) -> bs.length = dss.length -> H' a0 = some (.lst (bs.map .ref)) ->
  (∀ (i : Nat) b ds, bs[i]? = some b -> dss[i]? = some ds -> ∃ xs, H' b = some (.lst xs) /\ IsDs (fun x => G.S nb true x \/ x ∈ a0 :: bs) H' ds xs) -> Q (.ref a0) H') -> te σ H Q
def RowsOk (S : Addr -> Prop) (H : Hp) (bs : List Addr) (dss : List (List PyData)) : Prop := ∀ (i : Nat) b ds, bs[i]? = some b -> dss[i]? = some ds -> ∃ xs, H b = some (.lst xs) /\ IsDs S H ds xs
theorem RowsOk.snoc {S : Addr -> Prop} {H : Hp} {bs : List Addr} {dss : List (List PyData)} {b : Addr} {ds : List PyData} (hl : bs.length = dss.length) (h : RowsOk S H bs dss) (q : ∃ xs, H b = some (.lst xs) /\ IsDs S H ds xs) : RowsOk S H (bs ++ [b]) (dss ++ [ds]) := fun i c es e1 e2 => by
 rcases zq112x i bs.length with z | z | z
 ·rw [zq31x z] at e1
  rw [zq31x (by omega)] at e2
  exact h i c es e1 e2
 ·subst z
  rw [zq30x (zq1x _), zq91x] at e1
  rw [hl, zq30x (zq1x _), zq91x] at e2
  cases e1; cases e2
  exact q
 ·rw [zq61x (by rw [zq26x, zq67x]; omega)] at e1
  cases e1
section
variable {G : Gx} {ρ ρc : Rh} {te ta tb t0 : TE} {gt : TG} {mp : List (Option Nat)} {K : PySem.W.Frag} {Θ : List (List PyData) -> Prop} {E : DE}
theorem EvG.compL (hm : (mp.filterMap id).Nodup) (hρ : startR mp ρ = ρc) (h : Ev G ρ t0 fun fi x => ∃ es, x = .list es /\ es.length <= 10000 /\ ∀ v, ∃ I : Nat -> List (List PyData) -> Prop, I 0 [] /\
   (∀ i d dss, es[i]? = some d -> dss.length = i -> I i dss -> Gv (G.hd fi (.list es) v) ρc gt fi d fun ρ1 => Wk ρc ρ1 /\ EvF (G.hd fi (.list es) v) ρ1 te fun e => ∃ ds, e = .list ds /\ I (i + 1) (dss ++ [ds])) /\ ∀ dss, dss.length = es.length -> I es.length dss -> Θ dss) :
  EvG G ρ (tComp (iList K t0) gt tNoTest te mp) Θ := fun nb σ H Q W z =>
 h nb σ H _ W fun fi v H1 x ⟨es, ex, hn, q⟩ s1 hv => by
  subst ex
  obtain ⟨I, h0, ht, he⟩ := q v
  have W0 := (W.step s1).hd hv
  obtain ⟨a, xs, rfl, n, hx, hd⟩ := hv.ofL
  refine ⟨a, rfl, ⟨xs, .of hx⟩, fun acc hacc => ?_⟩
  have W0' : Wd (G.hd fi (.list es) (.ref a)) nb ρc (L2.startC mp σ) H1 := by rw [<- hρ]; exact W0.startC hm
  have W1 := W0'.more hacc (o := .lst [])
  have hN := NB.new s1.2 hacc
  have hno := no_own W0' hacc
  have st0 : Step G.B H1 (upd H1 acc (.lst [])) := .same s1.2 (same_new hacc)
  have hNa : NB G.B a := zq51x fun z => n (.inr (.inr (.inl z)))
  refine R.comp_list (xs := xs) (fun i σ H => ∃ bs dss, Wd (G.hd fi (.list es) (.ref a)) (fun x => nb x \/ x = acc) ρc σ H /\ Step G.B H1 H /\ H acc = some (.lst (bs.map .ref)) /\ (acc :: bs).Nodup /\ (∀ b ∈ bs, H1 b = none /\ H b ≠ none) /\ bs.length = dss.length /\ dss.length = i /\ I i dss /\ RowsOk (fun x => G.S nb true x \/ x ∈ acc :: bs) H bs dss) ⟨[], [], W1, st0, upd_same, by simp, (fun _ z => by cases z), rfl, rfl, h0, fun i b ds e => by cases e⟩ ?_ ?_ ?_
  ·rintro i σ H hi ⟨bs, dss, W, st, _⟩
   exact .of (st.1 _ _ hNa hx)
  ·rintro i x σ H hi ⟨bs, dss, W, st, hy, hnd, hbn, hbl, hdl, hI, hrow⟩
   obtain ⟨a', xs', e', _, h', d'⟩ := W.unhd.2.ofL
   cases e'
   rw [st.1 _ _ hNa hx] at h'; cases h'
   have hil : i < es.length := by have := (zq8x.mp hi).1; have := d'.length; omega
   obtain ⟨x', hx', dx⟩ := d'.get (zq5x hil)
   rw [hi] at hx'; cases hx'
   refine ht i _ dss (zq5x hil) hdl hI _ σ H x _ W dx fun σ2 ρ1 ⟨wk, q⟩ W2 => ?_
   refine q _ σ2 H _ W2 fun v H4 e ⟨ds, ee, hI'⟩ s4 hv => ?_
   subst ee
   obtain ⟨b, ys, eb, hbn4, hb4, hds⟩ := id hv.ofL
   subst eb
   have hbH : H b = none := zq51x hbn4
   have hx4 := s4.1 _ _ hN hy
   refine ⟨_, hx4, by rw [zq0x]; exact zq17x (show bs.length < 10001 by omega) (by decide), ?_⟩
   have W4 : Wd (G.hd fi (.list es) (.ref a)) (fun x => nb x \/ x = acc) ρc σ2 H4 := (W2.step s4).wk wk
   have W5 : Wd (G.hd fi (.list es) (.ref a)) (fun x => nb x \/ x = acc) ρc σ2 (upd H4 acc (.lst (bs.map .ref ++ [.ref b]))) := W4.write (.inr rfl) hN hno.1 (fun j a f ds e z => by
    subst z
    obtain ⟨_, _, _, _, _, ps, hp, _⟩ := W4.ok j _ e
    rw [hx4] at hp; cases hp) hno.2
   have hab : acc ≠ b := fun z => by rw [z, hbH] at hy; cases hy
   have hbb : b ∉ bs := fun z => (hbn b z).2 hbH
   have hNb : NB G.B b := NB.new W.bag hbH
   have hStep : Step G.B H1 (upd H4 acc (.lst (bs.map .ref ++ [.ref b]))) := ⟨fun a o n q => by
    have hne : a ≠ acc := fun z => by subst z; rw [hacc] at q; cases q
    rw [upd_ne hne]
    exact (st.trans s4).1 a o n q, W5.bag⟩
   have hb1 : H1 b = none := zq51x fun z => by
    cases e : H1 b with
    | none => exact z e
    | some o => rw [st.1 b o hNb e] at hbH; cases hbH
   refine ⟨bs ++ [b], dss ++ [ds], W5, hStep, by rw [upd_same, zq11x]; rfl, ?_, fun c hc => ?_, by simp [hbl], by simp [hdl], hI', ?_⟩
   ·rw [<- zq70x]
    refine List.nodup_append.mpr ⟨hnd, by simp, fun x hx y hy => ?_⟩
    rw [zq10x.mp hy]
    rintro rfl
    rcases zq4x.mp hx with z | z
    ·exact hab z.symm
    ·exact hbb z
   ·have hca : c ≠ acc := fun z => by
     rcases zq41x.mp hc with q | q
     ·exact (zq33x.mp hnd).1 (z ▸ q)
     ·exact hab (z ▸ zq10x.mp q)
    rw [upd_ne hca]
    rcases zq41x.mp hc with q | q
    ·refine ⟨(hbn c q).1, ?_⟩
     cases e : H c with
     | none => exact absurd e (hbn c q).2
     | some o => rw [s4.1 c o (NB.new s1.2 (hbn c q).1) e]; exact zq32x _
    ·rw [zq10x.mp q]
     exact ⟨hb1, by rw [hb4]; exact zq32x _⟩
   ·have hS0 : ∀ x, (G.S nb true x \/ x ∈ acc :: (bs ++ [b])) -> ((G.S nb true x \/ x ∈ acc :: bs) \/ x = b) := fun x z => by
     rcases z with z | z
     ·exact .inl (.inl z)
     ·rcases zq4x.mp z with z | z
      ·exact .inl (.inr (z ▸ zq14x))
      ·rcases zq41x.mp z with z | z
       ·exact .inl (.inr (zq20x _ z))
       ·exact .inr (zq10x.mp z)
    have bt : But (fun x => G.S nb true x \/ x ∈ acc :: (bs ++ [b])) H4 (upd H4 acc (.lst (bs.map .ref ++ [.ref b]))) := But.set (.inr zq14x)
    refine RowsOk.snoc hbl (fun j c es' e1 e2 => ?_) ⟨ys, by rw [upd_ne hab.symm]; exact hb4, ?_⟩
    ·obtain ⟨zs, hz, hzd⟩ := hrow j c es' e1 e2
     have hcb := zq27x e1
     have hca : c ≠ acc := fun z => (zq33x.mp hnd).1 (z ▸ hcb)
     refine ⟨zs, by rw [upd_ne hca]; exact s4.1 c _ (NB.new s1.2 (hbn c hcb).1) hz, ?_⟩
     refine IsDs.keep bt (IsDs.av hS0 ?_)
     exact IsDs.keep (s4.but fun x z => .inl (.inl (.inr (.inr (.inl z))))) (hzd.fresh hbH)
    ·refine IsDs.keep bt ?_
     have hout := IsDs.out hv (by simp) hds
     refine hout.av fun x z => ?_
     rcases hS0 x z with z | z
     ·refine .inl ?_
      rcases z with z | z
      ·have hl : ∀ x, (G.hd fi (.list es) (.ref a)).S (fun x => nb x \/ x = acc) true x -> H x ≠ none := fun x q => W.liveS x q
       exact hl x (by
        rcases z with z | z | z | z
        ·exact .inl (.inl z)
        ·exact .inr (.inl z)
        ·exact .inr (.inr (.inl z))
        ·exact .inr (.inr (.inr z)))
      ·rcases zq4x.mp z with z | z
       ·rw [z, hy]; exact zq32x _
       ·exact (hbn x z).2
     ·exact .inr z
  ·rintro σ H' ⟨bs, dss, W', st, hy, hnd, hbn, hbl, hdl, hI, hrow⟩
   rw [hd.length] at hdl hI
   refine z acc bs dss H' (he dss hdl hI) (s1.trans st) hnd (fun b hb => ?_) hbl hy hrow
   rcases zq4x.mp hb with q | q
   ·rw [q]; exact W.none_of s1 hacc
   ·exact W.none_of s1 (hbn b q).1
structure NtOk (L : Sto) (c a0 : Addr) (bs : List Addr) (d1 d2 : PyData) (dss : List (List PyData)) : Prop where
 nd : (c :: a0 :: bs).Nodup
 len : bs.length = dss.length
 hc : L.lookup c = some (.tup [.dat d1, .dat d2, .own a0])
 h0 : L.lookup a0 = some (.lst (bs.map .own))
 hb : ∀ (i : Nat) b ds, bs[i]? = some b -> dss[i]? = some ds -> L.lookup b = some (.lst (ds.map .dat))
theorem nt_std {L : Sto} {c a0 : Addr} {bs : List Addr} {d1 d2 : PyData} {dss : List (List PyData)} (hc : L.lookup c = some (.tup [.dat d1, .dat d2, .own a0])) (h0 : L.lookup a0 = some (.lst (bs.map .own))) (len : bs.length = dss.length)
    (hb : ∀ (i : Nat) b ds, bs[i]? = some b -> dss[i]? = some ds -> L.lookup b = some (.lst (ds.map .dat))) : StD L (.own c) (.tuple [d1, d2, .list (dss.map .list)]) := by
  refine .tup hc rfl fun i x d e1 e2 => ?_
  match i with
  | 0 => cases e1; cases e2; exact .dat _
  | 1 => cases e1; cases e2; exact .dat _
  | 2 =>
    cases e1; cases e2
    refine .lst h0 (by rw [zq0x, zq0x, len]) fun j y e g1 g2 => ?_
    rw [zq19x] at g1 g2
    obtain ⟨b, hb', rfl⟩ := zq46x.mp g1
    obtain ⟨ds, hds, rfl⟩ := zq46x.mp g2
    exact StD.dats (hb j b ds hb' hds)
  | i + 3 => cases e1
theorem NtOk.std {L : Sto} {c a0 : Addr} {bs : List Addr} {d1 d2 : PyData} {dss : List (List PyData)} (h : NtOk L c a0 bs d1 d2 dss) : StD L (.own c) (.tuple [d1, d2, .list (dss.map .list)]) := nt_std h.hc h.h0 h.len h.hb
theorem NtOk.put {L : Sto} {c a0 b : Addr} {bs : List Addr} {d1 d2 : PyData} {dss : List (List PyData)} {ds : List PyData} {m : Nat} (h : NtOk L c a0 bs d1 d2 dss) (e : bs[m]? = some b) : NtOk (putO L b (.lst (ds.map .dat))) c a0 bs d1 d2 (dss.set m ds) := by
 have hbm := zq27x e
 obtain ⟨n1, n2⟩ := zq33x.mp h.nd
 obtain ⟨n3, n4⟩ := zq33x.mp n2
 have hml := (zq8x.mp e).1
 refine ⟨h.nd, by rw [zq38x]; exact h.len, (putO_ne fun z => n1 (by rw [z]; exact zq20x _ hbm)).trans h.hc, (putO_ne fun z => n3 (by rw [z]; exact hbm)).trans h.h0, fun i b' ds' e1 e2 => ?_⟩
 by_cases hi : m = i
 ·subst hi
  rw [e] at e1; cases e1
  rw [zq12x (by rw [<- h.len]; exact hml)] at e2
  cases e2
  exact putO_eq (lookup_key (h.hb m b _ e (zq5x (by rw [<- h.len]; exact hml))))
 ·rw [zq6x hi] at e2
  refine (putO_ne fun z => hi ?_).trans (h.hb i b' ds' e1 e2)
  subst z
  exact (List.getElem?_inj hml n4).mp (e.trans e1.symm)
theorem Sv.retN3 {Ψ : V -> Sto -> Prop} (hE : E.rw = (stE G Ψ).rw) (h : Ev G ρ ta fun _ d1 => scB d1 = true /\ Ev G ρ tb fun _ d2 => scB d2 = true /\ EvG G ρ te fun dss => ∀ L c a0 bs, NtOk L c a0 bs d1 d2 dss -> Ψ (.ref c) L) :
    Sv G ρ (tRet (tTup (tCons ta (tCons tb (tCons te tNil))))) E := fun nb σ H D W KK =>
  h nb σ H _ W fun f1 v1 H1 d1 ⟨sc1, q⟩ s1 hv1 => q nb σ H1 _ (W.step s1) fun f2 v2 H2 d2 ⟨sc2, q⟩ s2 hv2 => q nb σ H2 _ ((W.step s1).step s2) fun a0 bs dss H3 p s3 hnd hnew hl h0 hrow => by
    have W2 := (W.step s1).step s2
    have W3 := W2.step s3
    refine ⟨by show 3 <= sizeLine; decide, fun c hc => ?_⟩
    have hlive : ∀ b ∈ a0 :: bs, H3 b ≠ none := fun b hb => by
      rcases zq4x.mp hb with z | z
      · rw [z, h0]; exact zq32x _
      · obtain ⟨i, hi⟩ := zq81x z
        have hil := (zq8x.mp hi).1
        obtain ⟨xs, hx, _⟩ := hrow i b _ hi (zq5x (by rw [<- hl]; exact hil))
        rw [hx]; exact zq32x _
    have hcn : c ∉ a0 :: bs := fun z => hlive c z hc
    have hS1 : Same H3 (upd H3 c (.tup [v1, v2, .ref a0])) := same_new hc
    have W4 := W3.step (Step.same W3.bag hS1)
    have hz : (List.zipWith (fun (b : Addr) (ds : List PyData) => (b, OO.lst (ds.map .dat))) bs dss).map (·.1) = bs := by
      apply zq79x
      intro i
      rw [zq19x, List.getElem?_zipWith]
      by_cases hi : i < bs.length
      · rw [zq5x hi, zq5x (by omega : i < dss.length)]; rfl
      · rw [zq61x (by omega : bs.length <= i)]; rfl
    have hzl : ∀ b o, (List.zipWith (fun (b : Addr) (ds : List PyData) => (b, OO.lst (ds.map .dat))) bs dss).lookup b = some o -> ∃ (i : Nat) (ds : List PyData), bs[i]? = some b /\ dss[i]? = some ds /\ o = .lst (ds.map .dat) := by
      clear hrow hlive hcn h0 hnd hnew hz p
      induction bs generalizing dss with
      | nil => intro b o e; cases e
      | cons a r ih =>
        intro b o e
        cases dss with
        | nil => cases e
        | cons ds rs =>
          rw [List.zipWith_cons_cons] at e
          by_cases hb : b = a
          · subst hb
            rw [zq2x, beq_self_eq_true] at e
            cases e
            exact ⟨0, ds, rfl, rfl, rfl⟩
          · rw [zq2x, beq_false_of_ne hb] at e
            obtain ⟨i, ds', h1, h2, h3⟩ := ih rs (by simpa using hl) b o e
            exact ⟨i + 1, ds', h1, h2, h3⟩
    have hkeys : ((c, OO.tup [.dat d1, .dat d2, .own a0]) :: (a0, .lst (bs.map .own)) :: List.zipWith (fun (b : Addr) (ds : List PyData) => (b, OO.lst (ds.map .dat))) bs dss).map (·.1) = c :: a0 :: bs := by
      rw [zq7x, zq7x, hz]
    have hnd3 : (c :: a0 :: bs).Nodup := zq33x.mpr ⟨hcn, hnd⟩
    have hok : NtOk ((c, OO.tup [.dat d1, .dat d2, .own a0]) :: (a0, .lst (bs.map .own)) :: List.zipWith (fun (b : Addr) (ds : List PyData) => (b, OO.lst (ds.map .dat))) bs dss) c a0 bs d1 d2 dss := by
      have hne : a0 ≠ c := fun z => hcn (z ▸ zq14x)
      refine ⟨hnd3, hl, by simp, by rw [zq2x, beq_false_of_ne hne]; simp, fun i b ds e1 e2 => ?_⟩
      have hbm := zq27x e1
      have hbc : b ≠ c := fun z => hcn (z ▸ zq20x _ hbm)
      have hb0 : b ≠ a0 := fun z => (zq33x.mp hnd).1 (z ▸ hbm)
      rw [zq2x, beq_false_of_ne hbc]
      show List.lookup b ((a0, _) :: _) = _
      rw [zq2x, beq_false_of_ne hb0]
      show List.lookup b _ = _
      obtain ⟨o, ho⟩ := key_lookup (L := List.zipWith (fun (b : Addr) (ds : List PyData) => (b, OO.lst (ds.map .dat))) bs dss) (a := b) (by rw [hz]; exact hbm)
      obtain ⟨j, ds', g1, g2, rfl⟩ := hzl b o ho
      have : i = j := (List.getElem?_inj (zq8x.mp e1).1 (zq33x.mp hnd).2).mp (e1.trans g1.symm)
      subst this
      rw [e2] at g2; cases g2
      exact ho
    refine KK.rw nb ρ σ _ _ ?_ W4
    rw [hE]
    refine ⟨_, p _ c a0 bs hok, fun b hb => ?_, by rw [hkeys]; exact hnd3, fun b o eo => ?_⟩
    · rw [hkeys] at hb
      rcases zq4x.mp hb with z | z
      · rw [z]
        cases q : G.H0 c with
        | none => rfl
        | some o => rw [W3.old c o (NB.new W3.bag hc) q] at hc; cases hc
      · cases q : G.H0 b with
        | none => rfl
        | some o =>
          have := hnew b z
          rw [W2.old b o (NB.new W2.bag this) q] at this; cases this
    · rw [hkeys]
      have sub : ∀ b, (G.H0 b ≠ none \/ b ∈ c :: a0 :: bs) -> ((G.S nb true b \/ b ∈ a0 :: bs) \/ b = c) := fun b z => by
        rcases z with z | z
        · exact .inl (.inl (.inr (.inr (.inr ⟨rfl, z⟩))))
        · rcases zq4x.mp z with z | z
          · exact .inr z
          · exact .inl (.inr z)
      have up : ∀ {x : Oi} {y : V}, ItV (fun x => G.S nb true x \/ x ∈ a0 :: bs) H3 x y -> ItV (fun b => G.H0 b ≠ none \/ b ∈ c :: a0 :: bs) (upd H3 c (.tup [v1, v2, .ref a0])) x y := fun {x y} q => ((q.fresh hc).av sub).keep (But.of hS1)
      by_cases h1 : b = c
      · subst h1
        rw [zq2x, beq_self_eq_true] at eo
        cases eo
        exact ⟨_, upd_same, .cons (hv1.scAny sc1) (.cons (hv2.scAny sc2) (.cons rfl .nil))⟩
      · rw [zq2x, beq_false_of_ne h1] at eo
        by_cases h2 : b = a0
        · subst h2
          rw [zq2x, beq_self_eq_true] at eo
          cases eo
          refine ⟨bs.map .ref, by rw [upd_ne h1]; exact h0, by simp, fun i x y g1 g2 => ?_⟩
          rw [zq19x] at g1 g2
          obtain ⟨b', hb', rfl⟩ := zq46x.mp g1
          rw [hb'] at g2
          cases g2
          rfl
        · rw [zq2x, beq_false_of_ne h2] at eo
          obtain ⟨i, ds, e1, e2, rfl⟩ := hzl b o eo
          obtain ⟨xs, hx, hxd⟩ := hrow i b ds e1 e2
          exact ⟨xs, by rw [upd_ne h1]; exact hx, (ItVs.dats hxd).imp fun x y q => up q⟩
end
end L2
namespace L2
open PySem PySem.Spec PyProof.Rows PySem.NumText
def prS (pr : Int × Int) : Str := nS pr.1 ++ Str.ofString ":" ++ nS pr.2
def PrOk (pr : Int × Int) : Prop := pr.1.natAbs < 10 ^ 60 /\ pr.2.natAbs < 10 ^ 60
theorem prS_len {pr : Int × Int} (h : PrOk pr) : (prS pr).length <= 123 /\ 1 <= (prS pr).length := by
 have l1 : (Str.ofString ":").length = 1 := by decide
 have h1 := (num_ok h.1).2.1
 have h2 := (num_ok h.2).2.1
 unfold prS
 rw [len_app, len_app, l1]
 omega
theorem prS_join (pr : Int × Int) : prS pr = Txt.join (sg 58) [nS pr.1, nS pr.2] := by
 refine str_ext ?_
 rw [join_eq, join_list]
 unfold prS
 have h : ∀ x y : Str, (x ++ y).cps.toList = x.cps.toList ++ y.cps.toList := fun x y => by
  show (x.cps ++ y.cps).toList = _
  rw [zq24x]
 rw [h, h, show (Str.ofString ":").cps.toList = [58] by decide]
 simp
theorem prS_free (pr : Int × Int) {c : Nat} (h : c ≠ 45 /\ c ≠ 58 /\ (c < 48 \/ 57 < c)) : c ∉ (prS pr).cps.toList := by
 rw [prS_join, join_eq, join_list]
 intro z
 rcases zq41x.mp z with z | z
 ·exact nS_free _ ⟨h.1, h.2.2⟩ z
 ·simp at z
  rcases z with z | z
  ·exact h.2.1 z
  ·exact nS_free pr.2 ⟨h.1, h.2.2⟩ (by simpa using z)
def PxT (prs : Prs) : Prop := prs.length <= 240 /\ ∀ pr ∈ prs, PrOk pr
def NtU (p n : Int) (cs : List Prs) : Prop := p.natAbs < 10 ^ 60 /\ n.natAbs < 10 ^ 60 /\ cs.length <= 400 /\ ∀ prs ∈ cs, PxT prs
def ckT (prs : Prs) : Str := rwT "check" (prs.map prS)
def ntUL (p n : Int) (cs : List Prs) : List Str := rwT "net" ([p, n].map nS) :: cs.map ckT
def ntU (p n : Int) (cs : List Prs) : Str := Txt.join (sg 10) (ntUL p n cs)
end L2
set_option maxRecDepth 100000
set_option maxHeartbeats 8000000
namespace K92
open PySem L2
def top (i : Nat) : Stmt := PySem.Challenge.pw_fewchecks_k92_whole_net_texts.main.body.getD i (.Pass ⟨0, 0, 0, 0⟩)
abbrev sNetText : Stmt := top 6
abbrev sPairText : Stmt := top 7
abbrev sRowOf : Stmt := top 8
abbrev sReadNet : Stmt := top 9
abbrev sReadCheck : Stmt := top 10
abbrev sReadPair : Stmt := top 11
abbrev sNumbersOf : Stmt := top 12
abbrev sPartsOf : Stmt := top 13
abbrev sReadNumber : Stmt := top 14
abbrev sReadWhole : Stmt := top 15
abbrev sLawBag : Stmt := top 17
abbrev sLawStirred : Stmt := top 18
abbrev sLawDraw : Stmt := top 19
abbrev sLawAlike : Stmt := top 20
abbrev sLawPrimeFrom : Stmt := top 21
abbrev sLawPrime : Stmt := top 22
abbrev sLawNumber : Stmt := top 23
abbrev sLawAnyNet : Stmt := top 24
abbrev sLawWildNet : Stmt := top 25
abbrev sLawWritten : Stmt := top 26
abbrev sLawNetRight : Stmt := top 27
abbrev sLaw : Stmt := top 28
local macro_rules | `(tactic| walk_at "d0") => `(tactic| first | omega | assumption | decide | (unfold Sm at *; omega) | (unfold CMul; omega) | (unfold CPow; decide) | (unfold CPow; omega))
local macro_rules | `(tactic| walk_at "ds") => `(tactic| ((try dsimp only); first | walk_at "d0" | (refine And.intro ?_ ?_ <;> walk_at "d0") | (refine Or.inl ?_; walk_at "d0") | (refine Or.inr (And.intro ?_ ?_) <;> walk_at "d0")))
local macro_rules | `(tactic| walk_at "s1") => `(tactic| with_reducible first
 | refine R.seq ?_ | refine R.asg ?_ | refine R.ifS ?_ | refine R.ret ?_ | refine R.next ?_ | refine R.c ?_ | refine R.op ?_ | refine R.test ?_ | refine R.bl ?_ | refine R.tru ?_
 | refine R.and ?_ | refine R.notV ?_ | refine R.ifE ?_ | refine R.cb ?_ | refine R.call ?_ | refine R.nil ?_ | refine R.cints ?_ | refine R.cons ?_
 | refine R.lst ?_ | refine R.sl ?_ | refine R.noPart ?_ | refine R.part ?_ | refine R.bm0 ?_ | refine R.tyInt ?_ | refine R.gname ?_ | refine R.gsub ?_ | refine R.gcons ?_ | refine R.gnil ?_ | refine R.noTest ?_
 | refine R.rI0 ?_ | refine R.eqI ?_ | refine R.neI ?_ | refine R.eqNI ?_ | refine R.eqIN ?_ | refine R.isI ?_ | refine R.notI ?_ | refine R.notN ?_ | refine R.bits ?_
 | refine iteT ?_ | refine iteF ?_ | refine R.nilE ?_ | refine R.isiII ?_ | refine R.isiIB ?_ | refine R.rng1 ?_ | refine R.rng2 ?_ | refine R.iL ?_ | refine R.for_ ?_ | refine R.comp ?_)
local macro_rules | `(tactic| walk_at "st") => `(tactic| repeat (first
 | walk_at "s1"
 | ((with_reducible refine' R.var ?h0 ?_); (case h0 => rfl))
 | ((with_reducible refine' R.rI ?h1 ?_); (case h1 => walk_at "ds"))
 | ((with_reducible refine' R.ixS (o := .lst []) ?h1 ?_); (case h1 => rfl))
 | ((with_reducible refine' R.ixM ?h0 ?h1 ?_); (case h0 => assumption); (case h1 => rfl))
 | ((with_reducible refine' R.ixTM ?h0 ?h1 ?_); (case h0 => assumption); (case h1 => rfl))
 | ((with_reducible refine' R.setS ?h1 ?_); (case h1 => rfl))
 | ((with_reducible refine' R.setM ?h0 ?h1 ?_); (case h0 => assumption); (case h1 => rfl))
 | ((with_reducible refine' R.lenM ?h0 ?_); (case h0 => assumption))
 | ((with_reducible refine' R.rng1I ?h0 ?h1 ?_); (case h0 => walk_at "ds"); (case h1 => walk_at "ds"))
 | ((with_reducible refine' R.rng2I ?h0 ?_); (case h0 => walk_at "ds"))
 | ((with_reducible refine' R.iL1 ?h0 ?_); (case h0 => assumption))
 | ((with_reducible refine' R.iteP ?h0 ?_); (case h0 => first | exact R.dT (by omega) | exact R.dTn (by omega) | decide))
 | ((with_reducible refine' R.iteN ?h0 ?_); (case h0 => first | exact R.dF (by omega) | exact R.dFn (by omega) | decide))
 | (with_reducible refine R.min2 ?_) | (with_reducible refine R.abs1 ?_) | (with_reducible refine R.partI ?_)))
local macro_rules | `(tactic| walk_at "fv") => `(tactic| first | exact Or.inl rfl | exact Or.inr (Or.inl rfl) | exact Or.inr (Or.inr (Or.inl rfl)) | exact Or.inr (Or.inr (Or.inr (Or.inl rfl))) | exact Or.inr (Or.inr (Or.inr (Or.inr rfl))))
local macro_rules | `(tactic| walk_at "d1") => `(tactic| with_reducible first
 | refine Sv.seq ?_ | refine Sv.asgNil ?_ | refine Sv.asg ?_ | refine Sv.setCF ?_ | refine Sv.ifS ?_ | refine Sv.ret ?_ | refine Sv.next ?_ | refine Sv.retN ?_
 | refine Ev.int ?_ | refine Ev.bl ?_ | refine Ev.rI0 ?_ | refine Ev.rB0 ?_ | refine Ev.rI ?_ | refine Ev.rU ?_ | refine Ev.eq ?_ | refine Ev.ne ?_ | refine Ev.isNot ?_ | refine Ev.eqD ?_ | refine Ev.str ?_
 | refine Ev.andV ?_ | refine Ev.orV ?_ | refine Ev.notV ?_ | refine Ev.ifE ?_ | refine Tv.test ?_ | refine Tv.and ?_ | refine Tv.or ?_ | refine Tv.not ?_ | refine Tv.noTest ?_ | refine Tv.truB ?_
 | refine Ev.tupF ?_ | refine Ev.tup ?_ | refine Ev.lst ?_ | refine Av.nil ?_ | refine Av.cons ?_ | refine Ov.none ?_ | refine Ov.some ?_ | refine Ev.min2 ?_ | refine Ev.max2 ?_ | refine Ev.intB ?_
 | refine R.di ?_ | refine R.db ?_ | refine R.dl ?_ | refine R.dt ?_ | refine R.dll ?_ | refine R.dlt ?_ | refine R.eqii ?_ | refine R.eqni ?_ | refine R.eqin ?_ | refine R.eqnn ?_ | refine R.eqbb ?_
 | refine Gv.nameI ?_ | refine Gv.nameB ?_ | refine Gv.nameN ?_ | refine Gv.nameT ?_ | refine Gv.nameF ?_ | refine Gv.snil ?_ | refine Gv.scons ?_ | refine iteT ?_ | refine iteF ?_)
local macro_rules | `(tactic| walk_at "dt") => `(tactic| repeat (first
 | ((with_reducible refine' Sv.retOwn ?h0 ?_); (case h0 => rfl))
 | ((with_reducible refine' Sv.setOwn ?h0 ?_); (case h0 => rfl))
 | walk_at "d1"
 | ((with_reducible refine' Ev.var ?h0 ?_); (case h0 => rfl))
 | ((with_reducible refine' Ev.draw ?h0 ?_); (case h0 => rfl))
 | ((with_reducible refine' Ev.prime ?h0 ?_); (case h0 => rfl))
 | ((with_reducible refine' Ev.ixOwn ?h0 ?_); (case h0 => rfl))
 | ((with_reducible refine' Ev.lenOwn ?h0 ?_); (case h0 => rfl))
 | ((with_reducible refine' Ev.listOwn ?h0 ?_); (case h0 => rfl))
 | ((with_reducible refine' Ev.slOwn ?h0 ?_); (case h0 => rfl))
 | ((with_reducible refine' Sv.append ?h0 ?_); (case h0 => rfl))
 | ((with_reducible refine' Sv.setOwn ?h0 ?_); (case h0 => rfl))
 | ((with_reducible refine' Sv.retOwn ?h0 ?_); (case h0 => rfl))
 | ((with_reducible refine' Gv.tup ?h0 ?_); (case h0 => rfl))
 | ((with_reducible refine' R.at_ ?h0 ?_); (case h0 => first | rfl | assumption))
 | (with_reducible refine Ev.ixL ?_) | (with_reducible refine Ev.ixT ?_) | (with_reducible refine Ev.listOf ?_) | (with_reducible refine Ev.sl ?_) | (with_reducible refine Ev.cat ?_) | (with_reducible refine Ev.lenS ?_)
 | ((with_reducible refine' Ev.isi ?h0 ?_); (case h0 => walk_at "fv"))
 | ((with_reducible refine' Ev.isi2 ?h0 ?h1 ?_); (case h0 => walk_at "fv"); (case h1 => walk_at "fv"))
 | (with_reducible refine Ev.all ?_) | (with_reducible refine Ev.ixS ?_)
 | ((with_reducible refine' R.lnil ?_))
 | ((with_reducible refine' R.iteP ?h0 ?_); (case h0 => first | exact R.dT (by omega) | exact R.dTn (by omega) | rfl))
 | ((with_reducible refine' R.iteN ?h0 ?_); (case h0 => first | exact R.dF (by omega) | exact R.dFn (by omega) | exact zq15x))
 | ((with_reducible refine' R.cnd ?h0 ?_); (case h0 => first | walk_at "ds" | exact Nat.le_of_ble_eq_true rfl))))
local macro_rules | `(tactic| walk_at "wk") => `(tactic| repeat (first | exact Wk.nil | apply Wk.no | apply Wk.eq))
section
variable {P : Program} {w : World} {K : PySem.W.Frag} {mg : Str -> Option Value} {base : Heap} {f : Addr} {fd : FuncData}
def F_row_of : DF := fun ds Φ => ∃ (f : Str) (os : List Str), ds = [.str f, .list (os.map .str)] /\ os.length <= 1000 /\ JoinOk (sg 32) (f :: os) = true /\ Φ true (.str (rwT f os))
theorem mono_row_of : MonoF F_row_of := by
 intro ds Φ Ψ hm z
 obtain ⟨f, os, e, h1, h2, q⟩ := hm
 exact ⟨f, os, e, h1, h2, z _ _ q⟩
theorem scRowOf : FnScope ["first", "others"] ["first", "others"] (defScope sRowOf) := ⟨rfl, rfl, rfl, by decide +kernel, rfl, by decide +kernel, by decide +kernel⟩
theorem ok_row_of (F : Fun K "row_of" "row_of" sRowOf f fd)     :
  FnOk P w K mg base CX0 1 f fd ["first", "others"] (spD 2 F_row_of) := by
 refine F.ok scRowOf (fun vs H Q E h => h.1) (fun cdv A outer s H vs Q E hr h => ?_)
 obtain ⟨nb, ds, Φ, hlive, hds, hΦ, hF⟩ := spD_out h
 obtain ⟨f1, os, rfl, hl, hok, q⟩ := hF
 refine ⟨_, (@pss_one _ _ _ (@ps_ret _ _ _ _ (pe_bmK (K := K) rfl (pe_bm zq75x zq150x zq151x mt_join pe_str (@pa_cons _ _ _ _ _ (@pe_op _ _ _ _ _ _ _ _ op_cat (@pe_lst _ _ _ _ (@pa_cons _ _ _ _ _ (pv 0) pa_nil rfl)) (pv 1)) pa_nil rfl))))), ?_⟩
 refine Sv.enterD hlive hds hΦ (ρ := [.d false _, .d false _]) rfl ?_
 clear hΦ hds
 have hom : (os.map PyData.str).length = os.length := zq0x ..
 refine Sv.ret (Ev.join (Ev.str ⟨_, rfl, ?_⟩))
 walk_at "dt"
 refine ⟨by rw [hom]; show 1 + _ <= _; omega, f1 :: os, rfl, hok, q⟩
def F_pair_text : DF := fun ds Φ => ∃ pr : Int × Int, ds = [pairD pr] /\ PrOk pr /\ Φ true (.str (prS pr))
theorem mono_pair_text : MonoF F_pair_text := by
 intro ds Φ Ψ hm z
 obtain ⟨pr, e, h, q⟩ := hm
 exact ⟨pr, e, h, z _ _ q⟩
theorem scPairText : FnScope ["pair"] ["pair"] (defScope sPairText) := ⟨rfl, rfl, rfl, by decide +kernel, rfl, by decide +kernel, by decide +kernel⟩
theorem ok_pair_text (F : Fun K "pair_text" "pair_text" sPairText f fd)   (m_str : mg "str" = none)  :
  FnOk P w K mg base CX0 1 f fd ["pair"] (spD 1 F_pair_text) := by
 refine F.ok scPairText (fun vs H Q E h => h.1) (fun cdv A outer s H vs Q E hr h => ?_)
 obtain ⟨nb, ds, Φ, hlive, hds, hΦ, hF⟩ := spD_out h
 obtain ⟨pr, rfl, ⟨ha, hb⟩, q⟩ := hF
 refine ⟨_, (@pss_one _ _ _ (@ps_ret _ _ _ _ (@pe_op _ _ _ _ _ _ _ _ op_addS (@pe_op _ _ _ _ _ _ _ _ op_addS (@pe_callTy _ _ _ _ _ _ _ _ (rStrI) call_strI rfl m_str zq56x (@pa_cons _ _ _ _ _ (@pe_ix _ _ _ _ _ _ (rIxT K) ix_tup (pv 0) pe_int (fun _ _ => rfl)) pa_nil rfl) (by decide) (by decide) (by rfl) (by rfl)) pe_str) (@pe_callTy _ _ _ _ _ _ _ _ (rStrI) call_strI rfl m_str zq56x (@pa_cons _ _ _ _ _ (@pe_ix _ _ _ _ _ _ (rIxT K) ix_tup (pv 0) pe_int (fun _ _ => rfl)) pa_nil rfl) (by decide) (by decide) (by rfl) (by rfl))))), ?_⟩
 refine Sv.enterD hlive hds hΦ (ρ := [.d false _]) rfl ?_
 clear hΦ hds
 have l1 : (Str.ofString ":").length = 1 := by decide
 have h1 := (num_ok ha).2.1
 have h2 := (num_ok hb).2.1
 have h4 : 8000000 <= sizeLine := by decide
 refine Sv.ret (Ev.addL (Ev.addL (Ev.strI ?_)))
 refine Ev.ixT (Ev.var rfl ⟨_, rfl, Ev.int ⟨_, rfl, _, rfl, pr.1, rfl, ha, _, rfl, Ev.str ⟨_, rfl, by rw [l1]; omega, ?_⟩⟩⟩)
 refine ⟨_, rfl, Ev.strI ?_⟩
 refine Ev.ixT (Ev.var rfl ⟨_, rfl, Ev.int ⟨_, rfl, _, rfl, pr.2, rfl, hb, _, rfl, by rw [len_app, l1]; omega, q⟩⟩)
def F_net_text : DF := fun ds Φ => ∃ (p n : Int) (cs : List Prs), ds = [netD p n cs] /\ NtU p n cs /\ Φ true (.str (ntU p n cs))
theorem mono_net_text : MonoF F_net_text := by
 intro ds Φ Ψ hm z
 obtain ⟨p, n, cs, e, h, q⟩ := hm
 exact ⟨p, n, cs, e, h, z _ _ q⟩
theorem scNetText : FnScope ["net", "rows"] ["net"] (defScope sNetText) := ⟨rfl, rfl, rfl, by decide +kernel, rfl, by decide +kernel, by decide +kernel⟩
theorem ok_net_text (F : Fun K "net_text" "net_text" sNetText f fd)  (c_row_of : Callee P w K mg base "row_of" 1 ["first", "others"] (spD 2 F_row_of)) (c_pair_text : Callee P w K mg base "pair_text" 1 ["pair"] (spD 1 F_pair_text)) (m_str : mg "str" = none)  :
  FnOk P w K mg base CX0 2 f fd ["net"] (spD 1 F_net_text) := by
 refine F.ok scNetText (fun vs H Q E h => h.1) (fun cdv A outer s H vs Q E hr h => ?_)
 obtain ⟨nb, ds, Φ, hlive, hds, hΦ, hF⟩ := spD_out h
 obtain ⟨p, n, cs, rfl, hok, q⟩ := hF
 refine ⟨_, (@pss_cons _ _ _ _ _ (ps_setC (i := 1) scNetText.nd rfl rfl (CompOk.of (show compOkB (defScope sNetText) ["net", "rows"] _ ["pairs"] [none] = true by decide +kernel)) (pi_listK (K := K) rfl (@pe_ix _ _ _ _ _ _ (rIxT K) ix_tup (pv 0) pe_int (fun _ _ => rfl))) (fun _ _ _ _ => ⟨(pg_name (i := 0) (by show List.Nodup (["pairs"] : List Str); decide +kernel) rfl (Or.inl rfl)), pts_nil, (@pe_callC _ _ _ _ _ _ _ _ _ _ c_row_of (hr.mono (by decide)) (@pa_cons _ _ _ _ _ pe_str (@pa_cons _ _ _ _ _ (by (refine' pe_lcompN (CompOk.of (NX := ["pairs"]) (N := ["pair"]) (mp := [none]) ?nc0) ?ni0 ?nb0); (case ni0 => exact (pi_listK (K := K) rfl (pv 0))); (case nb0 => exact (fun _ _ _ _ => ⟨(pg_name (i := 0) (by show List.Nodup (["pair"] : List Str); decide +kernel) rfl (Or.inl rfl)), pts_nil, (pe_callC c_pair_text (hr.mono (by decide)) (pa_cons (pv 0) pa_nil rfl))⟩)); (case nc0 => decide +kernel)) pa_nil rfl) rfl) (by rfl) (by decide) (by rfl) (by rfl))⟩)) (@pss_one _ _ _ (@ps_ret _ _ _ _ (pe_bmK (K := K) rfl (pe_bm zq75x zq150x zq151x mt_join pe_str (@pa_cons _ _ _ _ _ (@pe_op _ _ _ _ _ _ _ _ op_cat (@pe_lst _ _ _ _ (@pa_cons _ _ _ _ _ (@pe_callC _ _ _ _ _ _ _ _ _ _ c_row_of (hr.mono (by decide)) (@pa_cons _ _ _ _ _ pe_str (@pa_cons _ _ _ _ _ (@pe_lst _ _ _ _ (@pa_cons _ _ _ _ _ (@pe_callTy _ _ _ _ _ _ _ _ (rStrI) call_strI rfl m_str zq56x (@pa_cons _ _ _ _ _ (@pe_ix _ _ _ _ _ _ (rIxT K) ix_tup (pv 0) pe_int (fun _ _ => rfl)) pa_nil rfl) (by decide) (by decide) (by rfl) (by rfl)) (@pa_cons _ _ _ _ _ (@pe_callTy _ _ _ _ _ _ _ _ (rStrI) call_strI rfl m_str zq56x (@pa_cons _ _ _ _ _ (@pe_ix _ _ _ _ _ _ (rIxT K) ix_tup (pv 0) pe_int (fun _ _ => rfl)) pa_nil rfl) (by decide) (by decide) (by rfl) (by rfl)) pa_nil rfl) rfl)) pa_nil rfl) rfl) (by rfl) (by decide) (by rfl) (by rfl)) pa_nil rfl)) (pv 1)) pa_nil rfl)))))), ?_⟩
 refine Sv.enterD hlive hds hΦ (ρ := [.d false _, .no]) rfl ?_
 clear hΦ hds
 have hcl := hok.2.2.1
 have a := (num_ok hok.1).2.1
 have b := (num_ok hok.2.1).2.1
 have hck : ∀ prs ∈ cs, (rwT "check" (prs.map prS)).length <= 30000 := fun prs hm => by
  have h := hok.2.2.2 prs hm
  unfold rwT
  rw [join_le]
  have h1 := sumL_le (B := 123) (ys := prs.map prS) fun y hy => by
   obtain ⟨o, hm, rfl⟩ := zq21x.mp hy
   exact (prS_len (h.2 o hm)).1
  have h2 := h.1
  rw [zq0x] at h1 ⊢
  have : (Str.ofString "check").length = 5 := by decide
  omega
 have hhd : (rwT "net" ([p, n].map nS)).length <= 200 := by
  unfold rwT
  rw [zq7x, zq7x, zq68x, join_le]
  have : (Str.ofString "net").length = 3 := by decide
  simp [sumL]
  omega
 refine Sv.seq ?_
 refine Sv.setC (EvN.ev (EvN.compL (by decide) rfl ?_))
 refine Ev.ixT (Ev.var rfl ⟨_, rfl, Ev.int ⟨_, rfl, _, rfl, ?_⟩⟩)
 refine ⟨_, rfl, by rw [zq0x]; omega, fun v => ⟨true, fun j ds => ds = ((cs.take j).map fun prs => rwT "check" (prs.map prS)).map .str, rfl, ?_, ?_⟩⟩
 ·rintro j d ds hd hl' rfl
  obtain ⟨prs, hp, rfl⟩ := map_at hd
  have hpo := hok.2.2.2 prs (zq27x hp)
  have hpl := hpo.1
  refine Gv.nameF ?_
  refine ⟨by walk_at "wk", ?_⟩
  refine Tv.noTest ?_
  rw [if_pos rfl]
  refine Ev.callD mono_row_of ?_
  refine Av.cons (Ev.str ?_)
  refine Av.cons (EvN.ev (EvN.compL (by decide) rfl ?_))
  refine Ev.var rfl ⟨_, rfl, by rw [zq0x]; omega, fun v => ⟨true, fun i ds => ds = ((prs.take i).map prS).map .str, rfl, ?_, ?_⟩⟩
  ·rintro i d ds hd hl' rfl
   obtain ⟨pr, hr, rfl⟩ := map_at hd
   refine Gv.nameF ?_
   refine ⟨by walk_at "wk", ?_⟩
   refine Tv.noTest ?_
   rw [if_pos rfl]
   refine Ev.callD mono_pair_text ?_
   walk_at "dt"
   refine ⟨rfl, pr, rfl, hpo.2 pr (zq27x hr), fun _ => rfl, ?_⟩
   show _ = List.map _ (List.map _ (List.take (i + 1) prs))
   rw [take_snoc hr, zq11x, zq11x]
   rfl
  ·rintro ds hl' rfl
   rw [zq0x, zq57x]
   refine Av.nil ⟨rfl, "check", prs.map prS, rfl, by rw [zq0x]; omega, ?_, fun _ => rfl, ?_⟩
   ·refine joinOk_of (B := 123) (fun y hy => ?_) (by rw [zq35x, zq0x]; omega)
    rcases zq4x.mp hy with rfl | hy
    ·decide
    ·obtain ⟨o, hm, rfl⟩ := zq21x.mp hy
     exact (prS_len (hpo.2 o hm)).1
   ·show _ = List.map _ (List.map _ (List.take (j + 1) cs))
    rw [take_snoc hp, zq11x, zq11x]
    rfl
 rintro ds hl' rfl
 rw [zq0x, zq57x]
 refine Sv.ret (Ev.join (Ev.str ⟨_, rfl, ?_⟩))
 refine EvN.ev (EvN.cat ?_)
 refine Ev.lst ?_
 refine Av.cons (Ev.callD mono_row_of ?_)
 refine Av.cons (Ev.str ?_)
 refine Av.cons (Ev.lst ?_)
 refine Av.cons (Ev.strI (Ev.ixT (Ev.var rfl ⟨_, rfl, Ev.int ⟨_, rfl, _, rfl, p, rfl, hok.1, ?_⟩⟩)))
 refine Av.cons (Ev.strI (Ev.ixT (Ev.var rfl ⟨_, rfl, Ev.int ⟨_, rfl, _, rfl, n, rfl, hok.2.1, ?_⟩⟩)))
 refine Av.nil ⟨(by decide : 2 <= 10000), ?_⟩
 refine Av.nil ⟨rfl, "net", [nS p, nS n], rfl, (by decide : 2 <= 1000), ?_, ?_⟩
 ·refine joinOk_of (B := 61) (fun y hy => ?_) (by show 3 * 61 + 3 <= 16777216; decide)
  simp at hy
  rcases hy with rfl | rfl | rfl
  ·decide
  ·exact a
  ·exact b
 refine Av.nil ⟨(by decide : 1 <= 10000), _, rfl, ?_⟩
 refine Ev.var rfl ⟨_, rfl, by simp; omega, ntUL p n cs, rfl, ?_, q⟩
 refine joinOk_of (B := 30000) (fun y hy => ?_) (by unfold ntUL; rw [zq35x, zq0x]; omega)
 rcases zq4x.mp hy with rfl | hy
 ·exact zq25x hhd (by decide)
 ·obtain ⟨prs, hm, rfl⟩ := zq21x.mp hy
  exact hck prs hm
def F_read_whole : DF := fun ds Φ => ∃ (x : Str) (most n : Int), ds = [.str x, .int most] /\ x.length <= 640 /\ valF x most = some n /\ Φ true (.int n)
theorem mono_read_whole : MonoF F_read_whole := by
 intro ds Φ Ψ hm z
 obtain ⟨x, most, n, e, h1, h2, q⟩ := hm
 exact ⟨x, most, n, e, h1, h2, z _ _ q⟩
theorem scReadWhole : FnScope ["text", "most", "figures"] ["text", "most"] (defScope sReadWhole) := ⟨rfl, rfl, rfl, by decide +kernel, rfl, by decide +kernel, by decide +kernel⟩
theorem ok_read_whole (F : Fun K "read_whole" "read_whole" sReadWhole f fd)   (m_int : mg "int" = none) (m_len : mg "len" = none) (m_all : mg "all" = none) {t_FIGURES : Tok} (g_FIGURES : mg "FIGURES" = some (.str "0123456789" t_FIGURES)) :
    FnOk P w K mg base CX0 1 f fd ["text", "most"] (spD 2 F_read_whole) := by
  refine F.ok scReadWhole (fun vs H Q E h => h.1) (fun cdv A outer s H vs Q E hr h => ?_)
  obtain ⟨nb, ds, Φ, hlive, hds, hΦ, hF⟩ := spD_out h
  obtain ⟨x, most, nv, rfl, hl, hv, q⟩ := hF
  refine ⟨_, (@pss_cons _ _ _ _ _ (@ps_set _ _ (2) _ _ _ _ scReadWhole.nd rfl (Or.inl rfl) (@pe_ifExp _ _ _ _ _ _ _ _ (@pt_truthK _ (K) _ _ rfl (pe_bmK (K := K) rfl (pe_bm zq75x zq176x zq177x mt_starts (pv 0) (@pa_cons _ _ _ _ _ pe_str pa_nil rfl))) (fun _ => rfl)) (@pe_slice _ _ _ _ _ _ _ _ _ (rSlS) sl_str (pv 0) (@po_some _ _ _ pe_int) po_none) (pv 0)) (by rfl) (by first | exact .inl rfl | exact .inr rfl | assumption)) (@pss_cons _ _ _ _ _ (@ps_if _ _ _ _ _ _ _ _ (PW.pt (pw_or (@pt_cmpR _ _ _ _ _ _ _ _ op_lt (@pe_callB _ _ _ _ _ _ _ _ (rLenS) call_lenStr rfl m_len zq58x (@pa_cons _ _ _ _ _ (pv 2) pa_nil rfl) (by decide) (by decide) (by rfl) (by rfl)) pe_int (nomark _)) (pw_or (@pt_cmpR _ _ _ _ _ _ _ _ op_gt (@pe_callB _ _ _ _ _ _ _ _ (rLenS) call_lenStr rfl m_len zq58x (@pa_cons _ _ _ _ _ (pv 2) pa_nil rfl) (by decide) (by decide) (by rfl) (by rfl)) (pv 1) (nomark _)) (pw_or1 (@pt_not _ _ _ _ (@pt_truthK _ (K) _ _ rfl (@pe_callB _ _ _ _ _ _ _ _ (rAll K) (call_allM rfl) rfl m_all zq178x (@pa_cons _ _ _ _ _ (pe_lcomp (CompOk.of (show compOkB (defScope sReadWhole) ["text", "most", "figures"] _ ["sign"] [none] = true by decide +kernel)) (pi_str (pv 2)) (fun _ _ _ _ => ⟨(pg_name (i := 0) (by show List.Nodup (["sign"] : List Str); decide +kernel) rfl (Or.inl rfl)), pts_nil, (@pe_cmpR _ _ _ _ _ _ _ _ op_inS (pv 0) (pe_glob (v := .str "0123456789") rfl g_FIGURES ⟨_, rfl⟩) (by with_unfolding_all rfl))⟩)) pa_nil rfl) (by decide) (by decide) (by rfl) (by rfl)) (fun _ => rfl))))))) (@pss_one _ _ _ ps_dead) pss_nil) (@pss_cons _ _ _ _ _ (@ps_if _ _ _ _ _ _ _ _ (PW.pt (pw_and (@pt_truthK _ (K) _ _ rfl (pe_bmK (K := K) rfl (pe_bm zq75x zq176x zq177x mt_starts (pv 2) (@pa_cons _ _ _ _ _ pe_str pa_nil rfl))) (fun _ => rfl)) (pw_and1 (@pt_cmpR _ _ _ _ _ _ _ _ op_ne (pv 0) pe_str (nomark _))))) (@pss_one _ _ _ ps_dead) pss_nil) (@pss_one _ _ _ (@ps_ret _ _ _ _ (@pe_callTy _ _ _ _ _ _ _ _ (rIntS) call_intS rfl m_int zq117x (@pa_cons _ _ _ _ _ (pv 0) pa_nil rfl) (by decide) (by decide) (by rfl) (by rfl))))))), ?_⟩
  refine Sv.enterD hlive hds hΦ (ρ := [.d false _, .d false _, .no]) rfl ?_
  clear hΦ hds
  have hsz : x.length <= sizeLine := zq25x hl (by decide)
  have hcl : x.cps.toList.length = x.length := by simp [Str.length]
  refine Sv.seq ?_
  refine Sv.conseq (fun ρ' => ∃ (y : Str) (f : Bool), y.cps.toList = figs x /\ ρ' = [.d false (.str x), .d false (.int most), .d f (.str y)]) ?_ ?_
  · refine Sv.asg (Ev.ifE (Tv.truB ?_))
    refine Ev.starts (Ev.var rfl ⟨x, rfl, Ev.str ⟨_, rfl, _, rfl, ?_⟩⟩)
    rw [show (Str.ofString "-") = (⟨#[45]⟩ : Str) by decide, starts_one]
    by_cases c : x.cps.toList.head? = some 45
    · rw [if_pos (decide_eq_true c)]
      refine Ev.slS (Ev.var rfl ⟨x, rfl, hsz, Ov.some (Ev.int ⟨_, rfl, Ov.none ?_⟩)⟩)
      refine Gv.name ?_
      refine ⟨_, _, ?_, rfl⟩
      unfold figs
      rw [slice_from (by decide), if_pos c]
      rfl
    · rw [if_neg (by simpa using c)]
      refine Ev.var rfl ?_
      refine Gv.name ?_
      refine ⟨x, _, ?_, rfl⟩
      unfold figs
      rw [if_neg c]
  rintro ρ ⟨y, fy, hy, rfl⟩
  have hyl : (figs x).length = y.length := by rw [<- hy]; simp [Str.length]
  have hys : y.cps.size = y.length := rfl
  have hfl : (figs x).length <= x.length := by
    rw [<- hcl]
    unfold figs
    split
    · rw [zq86x]; omega
    · exact zq1x _
  have hysz : y.length <= sizeLine := by omega
  have bad : ¬ okNum x most -> False := fun h => by rw [valF_none h] at hv; cases hv
  have rz : ∀ {P : Prop}, ¬ okNum x most -> P := fun h => (bad h).elim
  refine Sv.seq ?_
  refine Sv.ifS ?_
  refine Tv.or ?_
  refine Tv.test ?_
  refine Ev.rB0 ?_
  refine Ev.lenStr (Ev.var rfl ⟨y, rfl, hysz, _, rfl, Ev.int ⟨_, rfl, _, rfl, ?_⟩⟩)
  by_cases c1 : (y.length : Int) < 1
  · rw [if_pos (decide_eq_true c1), if_pos rfl]
    exact rz fun h => h.1 (zq74x.mp (by omega))
  rw [if_neg (by simpa using c1)]
  refine Tv.or ?_
  refine Tv.test ?_
  refine Ev.rB0 ?_
  refine Ev.lenStr (Ev.var rfl ⟨y, rfl, hysz, _, rfl, Ev.var rfl ⟨_, rfl, _, rfl, ?_⟩⟩)
  by_cases c2 : most < (y.length : Int)
  · rw [if_pos (decide_eq_true c2), if_pos rfl]
    exact rz fun h => by have := h.2.1; omega
  rw [if_neg (by simpa using c2)]
  refine Tv.not ?_
  refine Tv.truB ?_
  refine Ev.all ?_
  refine EvN.ev (EvN.compS (by decide) rfl ?_)
  refine Ev.var rfl ⟨y, rfl, by omega, ?_⟩
  refine CompD.rel PyData.bool true (fun i b => ∃ c, y.cps[i]? = some c /\ b = decide (48 <= c /\ c <= 57)) ?_ fun bs hbl hbs => ?_
  · rintro i d ⟨c, hc, rfl⟩
    refine Gv.name ?_
    refine ⟨by walk_at "wk", ?_⟩
    refine Ev.inS (Ev.var rfl ⟨_, rfl, Ev.str ⟨_, rfl, ?_⟩⟩)
    refine ⟨fun _ => rfl, _, rfl, c, hc, ?_⟩
    rw [Bool.bne_false]
    exact fig_mem c
  refine ⟨bs, rfl, _, rfl, ?_⟩
  have hall : bs.all id = true ↔ NumText.AllDigits (figs x) := by
    rw [zq108x, <- hy]
    constructor
    · intro h c hc
      obtain ⟨i, hi⟩ := zq81x hc
      have hil := (zq8x.mp hi).1
      have hil2 : i < bs.length := by rw [hbl]; simpa using hil
      obtain ⟨c', hc', e⟩ := hbs i _ (zq5x hil2)
      have := h _ (zq47x hil2)
      rw [e] at this
      rw [zq48x] at hi
      rw [hi] at hc'
      cases hc'
      exact of_decide_eq_true this
    · intro h b hb
      obtain ⟨i, hi⟩ := zq81x hb
      obtain ⟨c, hc, e⟩ := hbs i b hi
      rw [e]
      exact decide_eq_true (h c (zq27x (by rw [zq48x]; exact hc)))
  by_cases c3 : NumText.AllDigits (figs x)
  case neg =>
    have : bs.all id = false := zq92x.mpr fun h => c3 (hall.mp h)
    rw [this, if_pos (by rfl)]
    exact rz fun h => c3 h.2.2.1
  rw [hall.mpr c3, if_neg (by decide)]
  refine Sv.next ?_
  refine Sv.seq ?_
  refine Sv.ifS ?_
  refine Tv.and ?_
  refine Tv.truB ?_
  refine Ev.starts (Ev.var rfl ⟨y, rfl, Ev.str ⟨_, rfl, _, rfl, ?_⟩⟩)
  rw [show (Str.ofString "0") = (⟨#[48]⟩ : Str) by decide, starts_one, hy]
  have hgood : okNum x most -> Sv { B := none, H0 := H, A := nb } [.d false (.str x), .d false (.int most), .d fy (.str y)] (tRet (tCB rIntS (tCons (tVar 0) tNil))) { nx := fun _ => Φ true .none, rt := Φ } := fun h => by
    obtain ⟨n, hn⟩ := okNum_int h hl
    rw [valF_some h hn] at hv
    cases hv
    refine Sv.ret (Ev.intS (Ev.var rfl ⟨x, nv, rfl, hl, hn, q⟩))
  by_cases c4 : (figs x).head? = some 48
  · rw [if_pos (decide_eq_true c4)]
    refine Tv.test (Ev.ne (Ev.var rfl (Ev.str ⟨_, .sd _ _, _, rfl, ?_⟩)))
    by_cases c5 : x = ⟨#[48]⟩
    · rw [decide_eq_true c5, if_neg (by decide)]
      refine Sv.next ?_
      refine hgood ⟨fun z => ?_, by omega, c3, fun z => ?_⟩
      · rw [z] at c4; cases c4
      · have := z.2
        rw [c5] at this
        exact absurd this (by decide)
    · rw [decide_eq_false c5, if_pos (by rfl)]
      refine rz fun h => h.2.2.2 ⟨c4, ?_⟩
      refine Nat.lt_of_not_le fun z => c5 (str_ext ?_)
      show x.cps.toList = [48]
      have h1 := h.1
      unfold figs at c4 h1
      cases e : x.cps.toList with
      | nil => rw [e] at c4; simp at c4
      | cons a r =>
        have hr : r = [] := zq74x.mp (by rw [e] at hcl; simp at hcl; omega)
        subst hr
        rw [e] at c4 h1
        by_cases ca : a = 45
        · subst ca; simp at h1
        · simp [ca] at c4
          rw [c4]
  · rw [if_neg (by simpa using c4), if_neg (by decide)]
    refine Sv.next ?_
    exact hgood ⟨fun z => c1 (by rw [z] at hyl; simp at hyl; omega), by omega, c3, fun z => c4 z.1⟩
def F_read_number : DF := fun ds Φ => ∃ (n : Int), ds = [.str (nS n)] /\ n.natAbs < 10 ^ 60 /\ Φ true (.int n)
theorem mono_read_number : MonoF F_read_number := by
 intro ds Φ Ψ hm z
 obtain ⟨n, e, h1, q⟩ := hm
 exact ⟨n, e, h1, z _ _ q⟩
theorem scReadNumber : FnScope ["text"] ["text"] (defScope sReadNumber) := ⟨rfl, rfl, rfl, by decide +kernel, rfl, by decide +kernel, by decide +kernel⟩
theorem ok_read_number (F : Fun K "read_number" "read_number" sReadNumber f fd)  (c_read_whole : Callee P w K mg base "read_whole" 1 ["text", "most"] (spD 2 F_read_whole))  {t_MOST_FIGURES : Tok} (g_MOST_FIGURES : mg "MOST_FIGURES" = some (.int 60 t_MOST_FIGURES)) :
  FnOk P w K mg base CX0 2 f fd ["text"] (spD 1 F_read_number) := by
 refine F.ok scReadNumber (fun vs H Q E h => h.1) (fun cdv A outer s H vs Q E hr h => ?_)
 obtain ⟨nb, ds, Φ, hlive, hds, hΦ, hF⟩ := spD_out h
 obtain ⟨n, rfl, hn, q⟩ := hF
 refine ⟨_, (@pss_one _ _ _ (@ps_ret _ _ _ _ (@pe_callC _ _ _ _ _ _ _ _ _ _ c_read_whole (hr.mono (by decide)) (@pa_cons _ _ _ _ _ (pv 0) (@pa_cons _ _ _ _ _ (pe_glob (v := .int 60) rfl g_MOST_FIGURES ⟨_, rfl⟩) pa_nil rfl) rfl) (by rfl) (by decide) (by rfl) (by rfl)))), ?_⟩
 refine Sv.enterD hlive hds hΦ (ρ := [.d false _]) rfl ?_
 clear hΦ hds
 obtain ⟨hv, hl, _⟩ := num_ok hn
 walk_at "dt"
 refine Ev.callD mono_read_whole ?_
 walk_at "dt"
 exact ⟨rfl, nS n, 60, n, rfl, by omega, hv, q⟩
def F_parts_of : DF := fun ds Φ => ∃ (f : Str) (os : List Str), ds = [.str (rwT f os), .str f] /\ (rwT f os).length + 2 <= sizeLine /\ os.length <= 1000 /\ 32 ∉ f.cps.toList /\ (∀ o ∈ os, 32 ∉ o.cps.toList) /\ Φ true (.list (os.map .str))
theorem mono_parts_of : MonoF F_parts_of := by
 intro ds Φ Ψ hm z
 obtain ⟨f, os, e, h1, h2, h3, h4, q⟩ := hm
 exact ⟨f, os, e, h1, h2, h3, h4, z _ _ q⟩
theorem scPartsOf : FnScope ["row", "first", "parts"] ["row", "first"] (defScope sPartsOf) := ⟨rfl, rfl, rfl, by decide +kernel, rfl, by decide +kernel, by decide +kernel⟩
theorem ok_parts_of (F : Fun K "parts_of" "parts_of" sPartsOf f fd)     :
  FnOk P w K mg base CX0 1 f fd ["row", "first"] (spD 2 F_parts_of) := by
 refine F.ok scPartsOf (fun vs H Q E h => h.1) (fun cdv A outer s H vs Q E hr h => ?_)
 obtain ⟨nb, ds, Φ, hlive, hds, hΦ, hF⟩ := spD_out h
 obtain ⟨f1, os, rfl, hl, hol, hf, ho, q⟩ := hF
 refine ⟨_, (@pss_cons _ _ _ _ _ (@ps_set _ _ (2) _ _ _ _ scPartsOf.nd rfl (Or.inl rfl) (pe_bmK (K := K) rfl (pe_bm zq75x zq152x zq153x mt_split (pv 0) (@pa_cons _ _ _ _ _ pe_str pa_nil rfl))) (by rfl) (by first | exact .inl rfl | exact .inr rfl | assumption)) (@pss_cons _ _ _ _ _ (@ps_if _ _ _ _ _ _ _ _ (@pt_cmpR _ _ _ _ _ _ _ _ op_ne (@pe_ix _ _ _ _ _ _ (rIxL K) ix_list (pv 2) pe_int (fun _ _ => rfl)) (pv 1) (nomark _)) (@pss_one _ _ _ ps_dead) pss_nil) (@pss_one _ _ _ (@ps_ret _ _ _ _ (@pe_slice _ _ _ _ _ _ _ _ _ (rSlL K) sl_list (pv 2) (@po_some _ _ _ pe_int) po_none))))), ?_⟩
 refine Sv.enterD hlive hds hΦ (ρ := [.d false _, .d false _, .no]) rfl ?_
 clear hΦ hds
 obtain ⟨ok1, ok2⟩ := split_ok (x := rwT f1 os) (c := 32) hl
 have hcut := row_cut hf ho
 rw [hcut] at ok2
 refine Sv.seq (Sv.asg (EvN.ev (EvN.split ?_)))
 refine Ev.var rfl ⟨_, rfl, Ev.str ⟨_, rfl, ?_⟩⟩
 rw [show (Str.ofString " ") = sg 32 by decide, hcut]
 refine ⟨ok1, ok2, ?_⟩
 refine Gv.name ?_
 walk_at "dt"
 refine ⟨.str f1, atI_some (by decide) rfl, Ev.var rfl ⟨true, .ss _, _, rfl, ?_⟩⟩
 rw [if_neg (by decide)]
 walk_at "dt"
 rw [cut_from (by decide) (by simp; omega)]
 exact q
def F_numbers_of : DF := fun ds Φ => ∃ (f : Str) (ns : List Int), ds = [.str (rwT f (ns.map nS)), .str f] /\ (rwT f (ns.map nS)).length + 2 <= sizeLine /\ ns.length <= 1000 /\ 32 ∉ f.cps.toList /\ (∀ n ∈ ns, n.natAbs < 10 ^ 60) /\ Φ true (.list (ns.map .int))
theorem mono_numbers_of : MonoF F_numbers_of := by
 intro ds Φ Ψ hm z
 obtain ⟨f, os, e, h1, h2, h3, h4, q⟩ := hm
 exact ⟨f, os, e, h1, h2, h3, h4, z _ _ q⟩
theorem scNumbersOf : FnScope ["row", "first"] ["row", "first"] (defScope sNumbersOf) := ⟨rfl, rfl, rfl, by decide +kernel, rfl, by decide +kernel, by decide +kernel⟩
theorem ok_numbers_of (F : Fun K "numbers_of" "numbers_of" sNumbersOf f fd)  (c_read_number : Callee P w K mg base "read_number" 2 ["text"] (spD 1 F_read_number)) (c_parts_of : Callee P w K mg base "parts_of" 1 ["row", "first"] (spD 2 F_parts_of))   :
  FnOk P w K mg base CX0 3 f fd ["row", "first"] (spD 2 F_numbers_of) := by
 refine F.ok scNumbersOf (fun vs H Q E h => h.1) (fun cdv A outer s H vs Q E hr h => ?_)
 obtain ⟨nb, ds, Φ, hlive, hds, hΦ, hF⟩ := spD_out h
 obtain ⟨f1, ns, rfl, hl, hnl, hf, hn, q⟩ := hF
 refine ⟨_, (@pss_one _ _ _ (@ps_ret _ _ _ _ (pe_lcomp (CompOk.of (show compOkB (defScope sNumbersOf) ["row", "first"] _ ["part"] [none] = true by decide +kernel)) (pi_listK (K := K) rfl (@pe_callC _ _ _ _ _ _ _ _ _ _ c_parts_of (hr.mono (by decide)) (@pa_cons _ _ _ _ _ (pv 0) (@pa_cons _ _ _ _ _ (pv 1) pa_nil rfl) rfl) (by rfl) (by decide) (by rfl) (by rfl))) (fun _ _ _ _ => ⟨(pg_name (i := 0) (by show List.Nodup (["part"] : List Str); decide +kernel) rfl (Or.inl rfl)), pts_nil, (@pe_callC _ _ _ _ _ _ _ _ _ _ c_read_number (hr.mono (by decide)) (@pa_cons _ _ _ _ _ (pv 0) pa_nil rfl) (by rfl) (by decide) (by rfl) (by rfl))⟩)))), ?_⟩
 refine Sv.enterD hlive hds hΦ (ρ := [.d false _, .d false _]) rfl ?_
 clear hΦ hds
 refine Sv.ret (EvN.ev (EvN.compL (by decide) rfl ?_))
 refine Ev.callD mono_parts_of ?_
 walk_at "dt"
 refine ⟨rfl, f1, ns.map nS, rfl, hl, by rw [zq0x]; omega, hf, fun o ho => ?_, ?_⟩
 ·obtain ⟨n, _, rfl⟩ := zq21x.mp ho
  exact nS_free n ⟨by decide, by decide⟩
 refine ⟨_, rfl, by rw [zq0x, zq0x]; omega, fun v => ⟨true, fun j ds => ds = (ns.take j).map .int, rfl, ?_, ?_⟩⟩
 ·rintro j d ds hd hl' rfl
  obtain ⟨o, ho, rfl⟩ := map_at hd
  obtain ⟨n, hnj, rfl⟩ := map_at ho
  refine Gv.name ?_
  refine ⟨by walk_at "wk", ?_⟩
  walk_at "dt"
  refine Ev.callD mono_read_number ?_
  walk_at "dt"
  refine ⟨rfl, n, rfl, hn n (zq27x hnj), fun _ => rfl, ?_⟩
  show _ = List.map _ (List.take (j + 1) ns)
  rw [take_snoc hnj, zq11x]
  rfl
 ·rintro ds hl' rfl
  rw [zq0x, zq0x, zq57x, zq154x]
  exact q
def F_read_pair : DF := fun ds Φ => ∃ pr : Int × Int, ds = [.str (prS pr)] /\ PrOk pr /\ Φ true (pairD pr)
theorem mono_read_pair : MonoF F_read_pair := by
 intro ds Φ Ψ hm z
 obtain ⟨pr, e, h, q⟩ := hm
 exact ⟨pr, e, h, z _ _ q⟩
theorem scReadPair : FnScope ["part", "numbers"] ["part"] (defScope sReadPair) := ⟨rfl, rfl, rfl, by decide +kernel, rfl, by decide +kernel, by decide +kernel⟩
theorem ok_read_pair (F : Fun K "read_pair" "read_pair" sReadPair f fd)  (c_read_number : Callee P w K mg base "read_number" 2 ["text"] (spD 1 F_read_number)) (m_len : mg "len" = none)  :
    FnOk P w K mg base CX0 3 f fd ["part"] (spD 1 F_read_pair) := by
  refine F.ok scReadPair (fun vs H Q E h => h.1) (fun cdv A outer s H vs Q E hr h => ?_)
  obtain ⟨nb, ds, Φ, hlive, hds, hΦ, hF⟩ := spD_out h
  obtain ⟨pr, rfl, hok, q⟩ := hF
  refine ⟨_, (@pss_cons _ _ _ _ _ (ps_setC (i := 1) scReadPair.nd rfl rfl (CompOk.of (show compOkB (defScope sReadPair) ["part", "numbers"] _ ["side"] [none] = true by decide +kernel)) (pi_listK (K := K) rfl (pe_bmK (K := K) rfl (pe_bm zq75x zq152x zq153x mt_split (pv 0) (@pa_cons _ _ _ _ _ pe_str pa_nil rfl)))) (fun _ _ _ _ => ⟨(pg_name (i := 0) (by show List.Nodup (["side"] : List Str); decide +kernel) rfl (Or.inl rfl)), pts_nil, (@pe_callC _ _ _ _ _ _ _ _ _ _ c_read_number (hr.mono (by decide)) (@pa_cons _ _ _ _ _ (pv 0) pa_nil rfl) (by rfl) (by decide) (by rfl) (by rfl))⟩)) (@pss_cons _ _ _ _ _ (@ps_if _ _ _ _ _ _ _ _ (@pt_cmpR _ _ _ _ _ _ _ _ op_ne (@pe_callB _ _ _ _ _ _ _ _ (rLen K) call_lenM rfl m_len zq58x (@pa_cons _ _ _ _ _ (pv 1) pa_nil rfl) (by decide) (by decide) (by rfl) (by rfl)) pe_int (nomark _)) (@pss_one _ _ _ ps_dead) pss_nil) (@pss_one _ _ _ (@ps_ret _ _ _ _ (@pe_tup _ _ _ _ _ (@pa_cons _ _ _ _ _ (@pe_ix _ _ _ _ _ _ (rIxL K) ix_list (pv 1) pe_int (fun _ _ => rfl)) (@pa_cons _ _ _ _ _ (@pe_ix _ _ _ _ _ _ (rIxL K) ix_list (pv 1) pe_int (fun _ _ => rfl)) pa_nil rfl) rfl)))))), ?_⟩
  refine Sv.enterD hlive hds hΦ (ρ := [.d false _, .no]) rfl ?_
  clear hΦ hds
  have hl := (prS_len hok).1
  have hcut := split_join (c := 58) (A := [nS pr.1, nS pr.2]) (by simp) fun a ha => by
    rcases zq4x.mp ha with rfl | ha
    · exact nS_free _ ⟨by decide, by decide⟩
    · rw [zq10x.mp ha]
      exact nS_free _ ⟨by decide, by decide⟩
  rw [<- prS_join] at hcut
  obtain ⟨ok1, ok2⟩ := split_ok (x := prS pr) (c := 58) (by have h4 : 8000000 <= sizeLine := by decide
                                                            omega)
  rw [hcut] at ok2
  refine Sv.seq ?_
  refine Sv.setC (EvN.ev (EvN.compL (by decide) rfl ?_))
  refine EvN.ev (EvN.split ?_)
  refine Ev.var rfl ⟨_, rfl, Ev.str ⟨_, rfl, ?_⟩⟩
  rw [show (Str.ofString ":") = sg 58 by decide, hcut]
  refine ⟨ok1, ok2, ?_⟩
  refine ⟨_, rfl, (by decide : 2 <= 10000), fun v => ⟨true, fun j ds => ds = ([pr.1, pr.2].take j).map .int, rfl, ?_, ?_⟩⟩
  · rintro j d ds hd hl' rfl
    obtain ⟨s, hs, rfl⟩ := map_at hd
    obtain ⟨n, hn, rfl⟩ := map_at (xs := [pr.1, pr.2]) (φ := nS) hs
    have hno : n.natAbs < 10 ^ 60 := by
      have := zq27x hn
      simp at this
      rcases this with rfl | rfl
      · exact hok.1
      · exact hok.2
    refine Gv.name ?_
    refine ⟨by walk_at "wk", ?_⟩
    walk_at "dt"
    refine Ev.callD mono_read_number ?_
    walk_at "dt"
    refine ⟨rfl, n, rfl, hno, fun _ => rfl, ?_⟩
    show _ = List.map _ (List.take (j + 1) _)
    rw [take_snoc hn, zq11x]
    rfl
  rintro ds hl' rfl
  walk_at "dt"
  exact q
def F_read_check : DF := fun ds Φ => ∃ prs : Prs, ds = [.str (ckT prs)] /\ PxT prs /\ Φ true (prsD prs)
theorem mono_read_check : MonoF F_read_check := by
 intro ds Φ Ψ hm z
 obtain ⟨prs, e, h, q⟩ := hm
 exact ⟨prs, e, h, z _ _ q⟩
theorem ckT_len {prs : Prs} (h : PxT prs) : (ckT prs).length <= 30000 := by
 unfold ckT rwT
 rw [join_le]
 have h1 := sumL_le (B := 123) (ys := prs.map prS) fun y hy => by
  obtain ⟨o, hm, rfl⟩ := zq21x.mp hy
  exact (prS_len (h.2 o hm)).1
 have h2 := h.1
 rw [zq0x] at h1 ⊢
 have : (Str.ofString "check").length = 5 := by decide
 omega
theorem scReadCheck : FnScope ["row"] ["row"] (defScope sReadCheck) := ⟨rfl, rfl, rfl, by decide +kernel, rfl, by decide +kernel, by decide +kernel⟩
theorem ok_read_check (F : Fun K "read_check" "read_check" sReadCheck f fd)  (c_read_pair : Callee P w K mg base "read_pair" 3 ["part"] (spD 1 F_read_pair)) (c_parts_of : Callee P w K mg base "parts_of" 1 ["row", "first"] (spD 2 F_parts_of))   :
  FnOk P w K mg base CX0 4 f fd ["row"] (spD 1 F_read_check) := by
 refine F.ok scReadCheck (fun vs H Q E h => h.1) (fun cdv A outer s H vs Q E hr h => ?_)
 obtain ⟨nb, ds, Φ, hlive, hds, hΦ, hF⟩ := spD_out h
 obtain ⟨prs, rfl, hok, q⟩ := hF
 refine ⟨_, (@pss_one _ _ _ (@ps_ret _ _ _ _ (pe_lcomp (CompOk.of (show compOkB (defScope sReadCheck) ["row"] _ ["part"] [none] = true by decide +kernel)) (pi_listK (K := K) rfl (@pe_callC _ _ _ _ _ _ _ _ _ _ c_parts_of (hr.mono (by decide)) (@pa_cons _ _ _ _ _ (pv 0) (@pa_cons _ _ _ _ _ pe_str pa_nil rfl) rfl) (by rfl) (by decide) (by rfl) (by rfl))) (fun _ _ _ _ => ⟨(pg_name (i := 0) (by show List.Nodup (["part"] : List Str); decide +kernel) rfl (Or.inl rfl)), pts_nil, (@pe_callC _ _ _ _ _ _ _ _ _ _ c_read_pair (hr.mono (by decide)) (@pa_cons _ _ _ _ _ (pv 0) pa_nil rfl) (by rfl) (by decide) (by rfl) (by rfl))⟩)))), ?_⟩
 refine Sv.enterD hlive hds hΦ (ρ := [.d false _]) rfl ?_
 clear hΦ hds
 have hl := ckT_len hok
 have h2 := hok.1
 have h4 : 8000000 <= sizeLine := by decide
 refine Sv.ret (EvN.ev (EvN.compL (by decide) rfl ?_))
 refine Ev.callD mono_parts_of ?_
 walk_at "dt"
 refine ⟨rfl, "check", prs.map prS, rfl, by unfold ckT at hl; omega, by rw [zq0x]; omega, by decide, fun o ho => ?_, ?_⟩
 ·obtain ⟨pr, _, rfl⟩ := zq21x.mp ho
  exact prS_free pr ⟨by decide, by decide, by decide⟩
 refine ⟨_, rfl, by rw [zq0x, zq0x]; omega, fun v => ⟨true, fun j ds => ds = (prs.take j).map pairD, rfl, ?_, ?_⟩⟩
 ·rintro j d ds hd hl' rfl
  obtain ⟨s, hs, rfl⟩ := map_at hd
  obtain ⟨pr, hp, rfl⟩ := map_at hs
  refine Gv.name ?_
  refine ⟨by walk_at "wk", ?_⟩
  walk_at "dt"
  refine Ev.callD mono_read_pair ?_
  walk_at "dt"
  refine ⟨rfl, pr, rfl, hok.2 pr (zq27x hp), fun _ => rfl, ?_⟩
  show _ = List.map _ (List.take (j + 1) prs)
  rw [take_snoc hp, zq11x]
  rfl
 ·rintro ds hl' rfl
  rw [zq0x, zq0x, zq57x, zq154x]
  exact q
def F_read_net : SF := fun ds Φ => ∃ (p n : Int) (cs : List Prs), ds = [.str (ntU p n cs)] /\ NtU p n cs /\ ∀ L c a0 bs, NtOk L c a0 bs (.int p) (.int n) (cs.map fun prs => prs.map pairD) -> Φ (.ref c) L
theorem mono_read_net : MonoS F_read_net := fun ds Φ Ψ ⟨p, n, cs, e, h, q⟩ z => ⟨p, n, cs, e, h, fun L c a0 bs k => z _ _ (q L c a0 bs k)⟩
theorem hd_len {p n : Int} (hp : p.natAbs < 10 ^ 60) (hn : n.natAbs < 10 ^ 60) : (rwT "net" ([p, n].map nS)).length <= 200 := by
 have a := (num_ok hp).2.1
 have b := (num_ok hn).2.1
 unfold rwT
 rw [zq7x, zq7x, zq68x, join_le]
 have : (Str.ofString "net").length = 3 := by decide
 simp [sumL]
 omega
theorem ntL_len {p n : Int} {cs : List Prs} (h : NtU p n cs) : ∀ y ∈ ntUL p n cs, y.length <= 30000 := fun y hy => by
 rcases zq4x.mp hy with rfl | hy
 ·have := hd_len h.1 h.2.1
  omega
 ·obtain ⟨prs, hm, rfl⟩ := zq21x.mp hy
  exact ckT_len (h.2.2.2 prs hm)
theorem rw_fre {f : Str} {os : List Str} {c : Nat} (hc : c ≠ 32) (hf : c ∉ f.cps.toList) (ho : ∀ o ∈ os, c ∉ o.cps.toList) : c ∉ (rwT f os).cps.toList := by
 unfold rwT
 rw [join_eq, join_list]
 intro z
 rcases zq41x.mp z with z | z
 ·exact hf z
 ·obtain ⟨l, hl, hz⟩ := List.mem_flatten.mp z
  obtain ⟨o, hm, rfl⟩ := zq21x.mp hl
  rcases zq4x.mp hz with h | h
  ·exact hc h
  ·exact ho o hm h
theorem ntL_free {p n : Int} {cs : List Prs} : ∀ y ∈ ntUL p n cs, 10 ∉ y.cps.toList := fun y hy => by
 rcases zq4x.mp hy with rfl | hy
 ·refine rw_fre (by decide) (by decide) fun o ho => ?_
  obtain ⟨m, _, rfl⟩ := zq21x.mp ho
  exact nS_free m ⟨by decide, by decide⟩
 ·obtain ⟨prs, hm, rfl⟩ := zq21x.mp hy
  refine rw_fre (by decide) (by decide) fun o ho => ?_
  obtain ⟨m, _, rfl⟩ := zq21x.mp ho
  exact prS_free m ⟨by decide, by decide, by decide⟩
theorem ntS_len {p n : Int} {cs : List Prs} (h : NtU p n cs) : (ntU p n cs).length <= 12100000 := by
 unfold ntU ntUL
 rw [join_le]
 have h1 := hd_len h.1 h.2.1
 have h2 := sumL_le (B := 30000) (ys := cs.map ckT) fun y hy => ntL_len h y (zq20x _ hy)
 have h3 := h.2.2.1
 rw [zq0x] at h2 ⊢
 have : cs.length * 30000 <= 400 * 30000 := zq115x _ h3
 omega
theorem scReadNet : FnScope ["text", "rows", "head"] ["text"] (defScope sReadNet) := ⟨rfl, rfl, rfl, by decide +kernel, rfl, by decide +kernel, by decide +kernel⟩
theorem ok_read_net (F : Fun K "read_net" "read_net" sReadNet f fd)  (c_numbers_of : Callee P w K mg base "numbers_of" 3 ["row", "first"] (spD 2 F_numbers_of)) (c_read_check : Callee P w K mg base "read_check" 4 ["row"] (spD 1 F_read_check)) (m_len : mg "len" = none)  :
  FnOk P w K mg base CX0 5 f fd ["text"] (spS 1 F_read_net) := by
 refine F.ok scReadNet (fun vs H Q E h => h.1) (fun cdv A outer s H vs Q E hr h => ?_)
 obtain ⟨_, nb, ds, hlive, hds, hF⟩ := h
 obtain ⟨Φ, hΦ, hF⟩ : ∃ Φ : V -> Sto -> Prop, (∀ v L H', Φ v L -> Same H H' -> StNew H H' L -> Q v H') /\ F_read_net ds Φ := ⟨_, fun v L H' q => q H', hF⟩
 obtain ⟨p, n, cs, rfl, hok, q⟩ := hF
 refine ⟨_, (@pss_cons _ _ _ _ _ (@ps_set _ _ (1) _ _ _ _ scReadNet.nd rfl (Or.inl rfl) (pe_bmK (K := K) rfl (pe_bm zq75x zq152x zq153x mt_split (pv 0) (@pa_cons _ _ _ _ _ pe_str pa_nil rfl))) (by rfl) (by first | exact .inl rfl | exact .inr rfl | assumption)) (@pss_cons _ _ _ _ _ (@ps_set _ _ (2) _ _ _ _ scReadNet.nd rfl (Or.inl rfl) (@pe_callC _ _ _ _ _ _ _ _ _ _ c_numbers_of (hr.mono (by decide)) (@pa_cons _ _ _ _ _ (@pe_ix _ _ _ _ _ _ (rIxL K) ix_list (pv 1) pe_int (fun _ _ => rfl)) (@pa_cons _ _ _ _ _ pe_str pa_nil rfl) rfl) (by rfl) (by decide) (by rfl) (by rfl)) (by rfl) (by first | exact .inl rfl | exact .inr rfl | assumption)) (@pss_cons _ _ _ _ _ (@ps_if _ _ _ _ _ _ _ _ (@pt_cmpR _ _ _ _ _ _ _ _ op_ne (@pe_callB _ _ _ _ _ _ _ _ (rLen K) call_lenM rfl m_len zq58x (@pa_cons _ _ _ _ _ (pv 2) pa_nil rfl) (by decide) (by decide) (by rfl) (by rfl)) pe_int (nomark _)) (@pss_one _ _ _ ps_dead) pss_nil) (@pss_one _ _ _ (@ps_ret _ _ _ _ (@pe_tup _ _ _ _ _ (@pa_cons _ _ _ _ _ (@pe_ix _ _ _ _ _ _ (rIxL K) ix_list (pv 2) pe_int (fun _ _ => rfl)) (@pa_cons _ _ _ _ _ (@pe_ix _ _ _ _ _ _ (rIxL K) ix_list (pv 2) pe_int (fun _ _ => rfl)) (@pa_cons _ _ _ _ _ (pe_lcomp (CompOk.of (show compOkB (defScope sReadNet) ["text", "rows", "head"] _ ["row"] [none] = true by decide +kernel)) (pi_listK (K := K) rfl (@pe_slice _ _ _ _ _ _ _ _ _ (rSlL K) sl_list (pv 1) (@po_some _ _ _ pe_int) po_none)) (fun _ _ _ _ => ⟨(pg_name (i := 0) (by show List.Nodup (["row"] : List Str); decide +kernel) rfl (Or.inl rfl)), pts_nil, (@pe_callC _ _ _ _ _ _ _ _ _ _ c_read_check (hr.mono (by decide)) (@pa_cons _ _ _ _ _ (pv 0) pa_nil rfl) (by rfl) (by decide) (by rfl) (by rfl))⟩)) pa_nil rfl) rfl) rfl))))))), ?_⟩
 refine Sv.enterS hlive hds hΦ (ρ := [.d false _, .no, .no]) rfl ?_
 clear hΦ hds
 have hsl := ntS_len hok
 have h4 : 12200000 <= sizeLine := by decide
 have hcl := hok.2.2.1
 obtain ⟨ok1, ok2⟩ := split_ok (x := ntU p n cs) (c := 10) (by omega)
 have hcut := split_join (c := 10) (A := ntUL p n cs) (by unfold ntUL; simp) ntL_free
 change Txt.split (ntU p n cs) (sg 10) = _ at hcut
 rw [hcut] at ok2
 refine Sv.seq (Sv.asg (EvN.ev (EvN.split ?_)))
 refine Ev.var rfl ⟨_, rfl, Ev.str ⟨_, rfl, ?_⟩⟩
 rw [show (Str.ofString "\n") = sg 10 by decide, hcut]
 refine ⟨ok1, ok2, ?_⟩
 refine Gv.name ?_
 have e0 : atI ((ntUL p n cs).map PyData.str) 0 = some (.str (rwT "net" ([p, n].map nS))) := atI_some (by decide) rfl
 refine Sv.seq (Sv.asg (Ev.callD mono_numbers_of ?_))
 walk_at "dt"
 refine ⟨rfl, "net", [p, n], rfl, by have := hd_len hok.1 hok.2.1; omega, by show 2 <= 1000; decide, by decide, fun m hm => by
  simp at hm
  rcases hm with rfl | rfl
  ·exact hok.1
  ·exact hok.2.1, ?_⟩
 refine Gv.name ?_
 generalize htl : (tRet _ : TS) = tl
 walk_at "dt"
 subst htl
 refine Sv.retN3 rfl ?_
 walk_at "dt"
 refine ⟨rfl, ?_⟩
 walk_at "dt"
 refine ⟨rfl, EvG.compL (by decide) rfl ?_⟩
 walk_at "dt"
 have ec : cutA ((ntUL p n cs).map PyData.str) (some 1) none = (cs.map ckT).map .str := by
  rw [cut_from (by decide) (by unfold ntUL; simp; omega)]
  rfl
 rw [ec]
 refine ⟨by rw [zq0x, zq0x]; omega, fun v => ⟨fun i dss => dss = (cs.take i).map fun prs => prs.map pairD, rfl, ?_, ?_⟩⟩
 ·rintro i d dss hd hl rfl
  obtain ⟨s, hs, rfl⟩ := map_at hd
  obtain ⟨prs, hp, rfl⟩ := map_at hs
  refine Gv.name ?_
  refine ⟨by walk_at "wk", ?_⟩
  refine EvF.callD mono_read_check ?_
  walk_at "dt"
  refine ⟨rfl, prs, rfl, hok.2.2.2 prs (zq27x hp), rfl, _, rfl, ?_⟩
  show _ = List.map _ (List.take (i + 1) cs)
  rw [take_snoc hp, zq11x]
  rfl
 ·rintro dss hl rfl
  rw [zq0x, zq0x, zq57x]
  exact q
theorem scLawBag : FnScope ["script", "stir", "cell"] ["script"] (defScope sLawBag) := ⟨rfl, rfl, rfl, by decide +kernel, rfl, by decide +kernel, by decide +kernel⟩
theorem ok__law_bag (F : Fun K "_law_bag" "_law_bag" sLawBag f fd)   (m_abs : mg "abs" = none)  :
  FnOk P w K mg base CX0 1 f fd ["script"] (spBag K) := by
 refine F.ok scLawBag (fun vs H Q E h => ?_) (fun cdv A outer s H vs Q E hr h => ?_)
 ·obtain ⟨a, ns, rfl, hS, hl, q⟩ := h
  rfl
 obtain ⟨a, ns, rfl, hS, hl, q⟩ := h
 refine ⟨_, (@pss_cons _ _ _ _ _ (@ps_set _ _ (1) _ _ _ _ scLawBag.nd rfl (Or.inl rfl) pe_int (by rfl) (by first | exact .inl rfl | exact .inr rfl | assumption)) (@pss_cons _ _ _ _ _ (@ps_for _ _ _ _ _ _ _ _ zq65x rfl (pi_listK (K := K) rfl (@pe_slice _ _ _ _ _ _ _ _ _ _ sl_list (pv 0) po_none (@po_some _ _ _ pe_int))) (pg_name (i := 2) scLawBag.nd rfl (Or.inl rfl)) (@pss_one _ _ _ (@ps_set _ _ (1) _ _ _ _ scLawBag.nd rfl (Or.inl rfl) (@pe_op _ _ _ _ _ _ _ _ op_mod (@pe_op _ _ _ _ _ _ _ _ op_add (@pe_op _ _ _ _ _ _ _ _ op_add (@pe_op _ _ _ _ _ _ _ _ op_mulA (pv 1) pe_int) (@pe_op _ _ _ _ _ _ _ _ op_mod (pv 2) pe_int)) pe_int) pe_int) (by rfl) (by first | exact .inl rfl | exact .inr rfl | assumption))) (by intro _; rfl)) (@pss_one _ _ _ (@ps_ret _ _ _ _ (@pe_lst _ _ _ _ (@pa_cons _ _ _ _ _ (pe_lcomp (CompOk.of (show compOkB (defScope sLawBag) ["script", "stir", "cell"] _ ["cell"] [none] = true by decide +kernel)) (pi_listK (K := K) rfl (@pe_slice _ _ _ _ _ _ _ _ _ _ sl_list (pv 0) po_none (@po_some _ _ _ pe_int))) (fun _ _ _ _ => ⟨(pg_name (i := 0) (by show List.Nodup (["cell"] : List Str); decide +kernel) rfl (Or.inl rfl)), pts_nil, (@pe_op _ _ _ _ _ _ _ _ op_mod (@pe_callB _ _ _ _ _ _ _ _ _ call_abs rfl m_abs PyProof.Rows.boot_abs (@pa_cons _ _ _ _ _ (pv 0) pa_nil rfl) (by decide) (by decide) (by rfl) (by rfl)) (@pe_op _ _ _ _ _ _ _ _ op_pow pe_int pe_int))⟩)) (@pa_cons _ _ _ _ _ pe_int (@pa_cons _ _ _ _ _ pe_int (@pa_cons _ _ _ _ _ (pv 1) (@pa_cons _ _ _ _ _ pe_int pa_nil rfl) rfl) rfl) rfl) rfl)))))), ?_⟩
 have hcut : cutV (ns.map V.int) none (some 63) = ns.map V.int := by
  have e : (ns.map V.int).length = ns.length := zq0x _
  show List.take (min 63 (ns.map V.int).length - 0) (List.drop 0 (ns.map V.int)) = _
  rw [zq97x]
  exact zq90x (by omega)
 walk_at "st"
 refine R.slL hS fun c hc => ?_
 rw [hcut]
 refine R.iL1 (SqL.of upd_same) ?_
 refine for_list (xs := ns.map V.int) (fun i σ H1 => ∃ (st : Int) (x : Option V), σ = [some (.ref a), some (.int st), x] /\ 0 <= st /\ st < 2147483647 /\ H1 = upd H c (.lst (ns.map V.int))) ⟨19, none, rfl, by omega, by omega, rfl⟩ ?_ ?_ ?_
 ·rintro i σ H1 hi ⟨st, x, rfl, h1, h2, rfl⟩
  exact SqL.of upd_same
 ·rintro i x σ H1 hx ⟨st, y, rfl, h1, h2, rfl⟩
  rw [zq19x] at hx
  obtain ⟨n, _, rfl⟩ := zq46x.mp hx
  walk_at "st"
  exact ⟨_, _, rfl, zq98x _ (by decide), zq99x _ (by decide), rfl⟩
 ·rintro σ H1 ⟨st, x, rfl, h1, h2, rfl⟩
  walk_at "st"
  refine R.slL ((same_new hc).seq hS) fun c2 hc2 => ?_
  rw [hcut]
  refine R.iL1 (SqL.of upd_same) ?_
  intro acc hacc
  refine R.comp_list (xs := ns.map V.int) (fun i σ H2 => ∃ (x : Option V), σ = [x] /\ H2 = upd (upd (upd H c (.lst (ns.map V.int))) c2 (.lst (ns.map V.int))) acc (.lst (((ns.take i).map fun n => (if n < 0 then -n else n) % 10 ^ 60).map V.int))) ⟨none, rfl, rfl⟩ ?_ ?_ ?_
  ·rintro i σ H1 hi ⟨x, rfl, rfl⟩
   refine SqL.of ?_
   rw [upd_ne (ne_of_none upd_same hacc)]
   exact upd_same
  ·rintro i x σ H1 hx ⟨y, rfl, rfl⟩
   rw [zq19x] at hx
   obtain ⟨n, hn, rfl⟩ := zq46x.mp hx
   walk_at "st"
   refine ⟨_, upd_same, ?_, _, rfl, ?_⟩
   ·rw [zq0x, zq0x, zq49x]
    exact small1000 (by omega)
   ·rw [upd_upd, List.take_add_one, hn, zq11x, zq11x]
    rfl
  ·rintro σ H1 ⟨x, rfl, rfl⟩
   walk_at "st"
   refine (show mkL _ _ _ from ⟨by show 5 <= sizeLine; decide, fun p hp => ?_⟩)
   have hn1 := ne_of_none (upd_same (H := upd (upd H c (.lst (ns.map V.int))) c2 (.lst (ns.map V.int))) (a := acc)) hp
   have s1 : Same H (upd (upd (upd H c (.lst (ns.map V.int))) c2 (.lst (ns.map V.int))) acc (.lst (((ns.take (ns.map V.int).length).map fun n => (if n < 0 then -n else n) % 10 ^ 60).map V.int))) := (same_new hc).trans ((same_new hc2).trans (same_new hacc))
   refine q p acc _ (s1.trans (same_new hp)) (s1.free hp) ⟨_, 0, 0, st, 0, upd_same, by rw [upd_ne hn1]; exact upd_same, ?_, ?_, by omega, by omega, by omega, h1, h2⟩
   ·intro y hy
    obtain ⟨z, _, rfl⟩ := zq21x.mp hy
    exact ⟨zq98x _ (by decide), zq99x _ (by decide)⟩
   ·rw [zq0x, zq49x]
    omega
theorem scLawStirred : FnScope ["bag", "many", "found", "k"] ["bag", "many"] (defScope sLawStirred) := ⟨rfl, rfl, rfl, by decide +kernel, rfl, by decide +kernel, by decide +kernel⟩
theorem ok__law_stirred (F : Fun K "_law_stirred" "_law_stirred" sLawStirred f fd)   (m_range : mg "range" = none)  :
  FnOk P w K mg base CX0 1 f fd ["bag", "many"] spDraw := by
 refine F.ok scLawStirred (fun vs H Q E h => ?_) (fun cdv A outer s H vs Q E hr h => ?_)
 ·obtain ⟨b, l, many, rfl, hB, hm, hs, q⟩ := h
  rfl
 obtain ⟨b, l, many, rfl, hB, hm, hs, q⟩ := h
 refine ⟨_, (@pss_cons _ _ _ _ _ (@ps_set _ _ (2) _ _ _ _ scLawStirred.nd rfl (Or.inl rfl) pe_int (by rfl) (by first | exact .inl rfl | exact .inr rfl | assumption)) (@pss_cons _ _ _ _ _ (@ps_for _ _ _ _ _ _ _ _ zq65x rfl (@pi_range1 _ _ _ _ _ _ rfl m_range (@pa_cons _ _ _ _ _ (@pe_op _ _ _ _ _ _ _ _ op_add pe_int (@pe_op _ _ _ _ _ _ _ _ op_fdivS (pe_bm0 PySem.F.plainAttrs_int PySem.F.slot_int_bit_length PySem.F.type_int_bit_length mt_bits (pv 1)) pe_int)) pa_nil rfl) (by rfl)) (pg_name (i := 3) scLawStirred.nd rfl (Or.inl rfl)) (@pss_cons _ _ _ _ _ (@ps_asg _ _ _ _ _ _ (@pe_op _ _ _ _ _ _ _ _ op_add (@pe_ix _ _ _ _ _ _ _ ix_list (pv 0) pe_int (fun _ _ => rfl)) pe_int) (pg_sub (pv 0) pe_int set_list) (by rfl) (by rfl) (by rfl)) (@pss_cons _ _ _ _ _ (@ps_asg _ _ _ _ _ _ (@pe_op _ _ _ _ _ _ _ _ op_mod (@pe_op _ _ _ _ _ _ _ _ op_add (@pe_op _ _ _ _ _ _ _ _ op_add (@pe_op _ _ _ _ _ _ _ _ op_add (@pe_op _ _ _ _ _ _ _ _ op_pow (@pe_ix _ _ _ _ _ _ _ ix_list (pv 0) pe_int (fun _ _ => rfl)) pe_int) (@pe_op _ _ _ _ _ _ _ _ op_mulA pe_int (@pe_ix _ _ _ _ _ _ _ ix_list (pv 0) pe_int (fun _ _ => rfl)))) (@pe_op _ _ _ _ _ _ _ _ op_mulA pe_int (@pe_ix _ _ _ _ _ _ _ ix_list (pv 0) pe_int (fun _ _ => rfl)))) pe_int) pe_int) (pg_sub (pv 0) pe_int set_list) (by rfl) (by rfl) (by rfl)) (@pss_one _ _ _ (@ps_set _ _ (2) _ _ _ _ scLawStirred.nd rfl (Or.inl rfl) (@pe_op _ _ _ _ _ _ _ _ op_add (@pe_op _ _ _ _ _ _ _ _ op_mulA (pv 2) pe_int) (@pe_op _ _ _ _ _ _ _ _ op_fdivS (@pe_ix _ _ _ _ _ _ _ ix_list (pv 0) pe_int (fun _ _ => rfl)) pe_int)) (by rfl) (by first | exact .inl rfl | exact .inr rfl | assumption))))) (by intro _; rfl)) (@pss_one _ _ _ (@ps_ret _ _ _ _ (@pe_op _ _ _ _ _ _ _ _ op_mod (pv 2) (pv 1)))))), ?_⟩
 have hbits := sm_bits hs
 walk_at "st"
 refine for_range (fun i σ H1 => ∃ (fv : Int) (x : Option V), σ = [some (.ref b), some (.int many), some (.int fv), x] /\ But (Nb b) H H1 /\ BagAt H1 b l) ⟨0, none, rfl, But.refl _ _, hB⟩ ?_ ?_
 ·rintro i σ H1 hi ⟨fv, x, rfl, bt, ns, j, c, st, n, h1, h2, h3, h4, h5, h6, h7, h8, h9⟩
  have hlb := bag_ne h1 h2
  walk_at "st"
  refine ⟨_, _, rfl, bt.trans (But.set rfl), ?_⟩
  exact BagAt.put hlb h2 h3 h4 h5 h6 h7 (zq98x _ (by decide)) (zq99x _ (by decide))
 ·rintro σ H1 ⟨fv, x, rfl, bt, B⟩
  walk_at "st"
  exact q _ _ (zq98x _ (by omega)) (zq99x _ hm) bt B
theorem scLawDraw : FnScope ["bag", "many", "found"] ["bag", "many"] (defScope sLawDraw) := ⟨rfl, rfl, rfl, by decide +kernel, rfl, by decide +kernel, by decide +kernel⟩
theorem ok__law_draw (F : Fun K "_law_draw" "_law_draw" sLawDraw f fd)  (c__law_stirred : Callee P w K mg base "_law_stirred" 1 ["bag", "many"] spDraw) (m_len : mg "len" = none)  :
  FnOk P w K mg base CX0 2 f fd ["bag", "many"] spDraw := by
 refine F.ok scLawDraw (fun vs H Q E h => ?_) (fun cdv A outer s H vs Q E hr h => ?_)
 ·obtain ⟨b, l, many, rfl, hB, hm, hs, q⟩ := h
  rfl
 obtain ⟨b, l, many, rfl, hB, hm, hs, q⟩ := h
 refine ⟨_, (@pss_cons _ _ _ _ _ (@ps_if _ _ _ _ _ _ _ _ (PW.pt (pw_and (@pt_cmpR _ _ _ _ _ _ _ _ op_eq (@pe_ix _ _ _ _ _ _ _ ix_list (pv 0) pe_int (fun _ _ => rfl)) pe_int (nomark _)) (pw_and1 (@pt_cmpR _ _ _ _ _ _ _ _ op_lt (@pe_ix _ _ _ _ _ _ _ ix_list (pv 0) pe_int (fun _ _ => rfl)) (@pe_callB _ _ _ _ _ _ _ _ _ call_len_seq rfl m_len zq58x (@pa_cons _ _ _ _ _ (@pe_ix _ _ _ _ _ _ _ ix_list (pv 0) pe_int (fun _ _ => rfl)) pa_nil rfl) (by decide) (by decide) (by rfl) (by rfl)) (nomark _))))) (@pss_cons _ _ _ _ _ (@ps_asg _ _ _ _ _ _ (@pe_ix _ _ _ _ _ _ _ ix_list (@pe_ix _ _ _ _ _ _ _ ix_list (pv 0) pe_int (fun _ _ => rfl)) (@pe_ix _ _ _ _ _ _ _ ix_list (pv 0) pe_int (fun _ _ => rfl)) (fun _ _ => rfl)) (pg_sub (pv 0) pe_int set_list) (by rfl) (by rfl) (by rfl)) (@pss_one _ _ _ (@ps_asg _ _ _ _ _ _ (@pe_op _ _ _ _ _ _ _ _ op_add (@pe_ix _ _ _ _ _ _ _ ix_list (pv 0) pe_int (fun _ _ => rfl)) pe_int) (pg_sub (pv 0) pe_int set_list) (by rfl) (by rfl) (by rfl)))) (@pss_one _ _ _ (@ps_if _ _ _ _ _ _ _ _ (@pt_cmpR _ _ _ _ _ _ _ _ op_eq (@pe_ix _ _ _ _ _ _ _ ix_list (pv 0) pe_int (fun _ _ => rfl)) pe_int (nomark _)) (@pss_one _ _ _ (@ps_ret _ _ _ _ (@pe_callC _ _ _ _ _ _ _ _ _ _ c__law_stirred (hr.mono (by decide)) (@pa_cons _ _ _ _ _ (pv 0) (@pa_cons _ _ _ _ _ (pv 1) pa_nil rfl) rfl) (by rfl) (by decide) (by rfl) (by rfl)))) pss_nil))) (@pss_cons _ _ _ _ _ (@ps_set _ _ (2) _ _ _ _ scLawDraw.nd rfl (Or.inl rfl) (@pe_op _ _ _ _ _ _ _ _ op_mod (@pe_ix _ _ _ _ _ _ _ ix_list (pv 0) pe_int (fun _ _ => rfl)) (pv 1)) (by rfl) (by first | exact .inl rfl | exact .inr rfl | assumption)) (@pss_cons _ _ _ _ _ (@ps_asg _ _ _ _ _ _ (@pe_op _ _ _ _ _ _ _ _ op_fdivS (@pe_ix _ _ _ _ _ _ _ ix_list (pv 0) pe_int (fun _ _ => rfl)) (pv 1)) (pg_sub (pv 0) pe_int set_list) (by rfl) (by rfl) (by rfl)) (@pss_one _ _ _ (@ps_ret _ _ _ _ (pv 2)))))), ?_⟩
 obtain ⟨ns, i, c, st, n, h1, h2, h3, h4, h5, h6, h7, h8, h9⟩ := id hB
 have hlb := bag_ne h1 h2
 have fin : ∀ (H1 : Hp) (i' c' : Int), H1 b = some (.lst [.ref l, .int i', .int c', .int st, .int n]) -> But (Nb b) H H1 -> 0 <= i' -> 0 <= c' -> c' < 10 ^ 60 ->
   ∀ (H2 : Hp), H2 = upd H1 b (.lst [.ref l, .int i', .int (c' / many), .int st, .int n]) -> Q (.int (c' % many)) H2 := fun H1 i' c' e1 bt g1 g2 g3 H2 e2 => by
  subst e2
  have hd1 : 0 <= c' / many := Int.ediv_nonneg g2 (by omega)
  have hd2 : c' / many <= c' := Int.ediv_le_self _ g2
  exact q _ _ (zq98x _ (by omega)) (zq99x _ hm) (bt.trans (But.set rfl)) (BagAt.put hlb (bt _ _ hlb h2) h3 h4 g1 hd1 (by omega) h8 h9)
 walk_at "st"
 refine ite2 (fun c1 => ?_) (fun c1 => ?_)
 ·have c1 : c = 0 := of_decide_eq_true c1
  walk_at "st"
  refine ite2 (fun c2 => ?_) (fun c2 => ?_)
  ·have c2 : i < (List.map V.int ns).length := of_decide_eq_true c2
   rw [zq0x] at c2
   have hi : i.toNat < ns.length := by omega
   obtain ⟨g1, g2⟩ := h3 _ (zq47x hi)
   walk_at "st"
   refine R.ixM h2 (v := .int ns[i.toNat]) (atI_some h5 (by rw [zq19x, zq5x hi]; rfl)) ?_
   walk_at "st"
   refine fin (upd H b (.lst [.ref l, .int (i + 1), .int ns[i.toNat], .int st, .int n])) (i + 1) ns[i.toNat] upd_same (But.set rfl) (by omega) g1 g2 _ ?_
   rw [upd_upd]
   rfl
  ·walk_at "st"
   exact ⟨b, l, many, rfl, hB, hm, hs, q⟩
 ·have c1 : ¬ c = 0 := of_decide_eq_false (zq92x.mpr c1)
  walk_at "st"
  exact fin H i c h1 (But.refl _ _) h5 h6 h7 _ rfl
def alikeOk : Nat -> PyData -> Prop
 | 0, _ => False
 | n + 1, d => scB d = true \/ ∃ ds, (d = .list ds \/ d = .tuple ds) /\ ds.length <= 10000 /\ ∀ e ∈ ds, alikeOk n e
def F__law_alike (n : Nat) : DF := fun ds Φ => ∃ d, ds = [d, d] /\ alikeOk n d /\ Φ true (.bool true)
theorem mono__law_alike (n : Nat) : MonoF (F__law_alike n) := fun ds Φ Ψ ⟨d, e, h, q⟩ z => ⟨d, e, h, z _ _ q⟩
theorem void__law_alike : ∀ vs H Q E, ¬ spD 2 (F__law_alike 0) vs H Q E := fun vs H Q E ⟨_, _, _, _, _, d, _, h, _⟩ => h
theorem scLawAlike : FnScope ["found", "due"] ["found", "due"] (defScope sLawAlike) := ⟨rfl, rfl, rfl, by decide +kernel, rfl, by decide +kernel, by decide +kernel⟩
theorem ok__law_alike (n : Nat) (F : Fun K "_law_alike" "_law_alike" sLawAlike f fd) (c__law_alike : Callee P w K mg base "_law_alike" (n) ["found", "due"] (spD 2 (F__law_alike n)))   (m_isinstance : mg "isinstance" = none) (m_list : mg "list" = none) (m_tuple : mg "tuple" = none) (m_all : mg "all" = none) (m_len : mg "len" = none) (m_bool : mg "bool" = none) (m_int : mg "int" = none) (m_str : mg "str" = none) (m_range : mg "range" = none)  :
  FnOk P w K mg base CX0 (n + 1) f fd ["found", "due"] (spD 2 (F__law_alike (n + 1))) := by
 refine F.ok scLawAlike (fun vs H Q E h => h.1) (fun cdv A outer s H vs Q E hr h => ?_)
 obtain ⟨nb, ds, Φ, hlive, hds, hΦ, hF⟩ := spD_out h
 obtain ⟨d, rfl, hok, q⟩ := hF
 refine ⟨_, (@pss_cons _ _ _ _ _ (@ps_if _ _ _ _ _ _ _ _ (@pt_truthK _ (K) _ _ rfl (@pe_callB _ _ _ _ _ _ _ _ (rIsiT) call_isiT rfl m_isinstance zq59x (@pa_cons _ _ _ _ _ (pv 1) (@pa_cons _ _ _ _ _ (@pe_tup _ _ _ _ _ (@pa_cons _ _ _ _ _ (pe_bltn (v := .ty "list") rfl m_list zq100x rfl) (@pa_cons _ _ _ _ _ (pe_bltn (v := .ty "tuple") rfl m_tuple zq179x rfl) pa_nil rfl) rfl)) pa_nil rfl) rfl) (by decide) (by decide) (by rfl) (by rfl)) (fun _ => rfl)) (@pss_cons _ _ _ _ _ (@ps_if _ _ _ _ _ _ _ _ (PW.pt (pw_or (@pt_not _ _ _ _ (@pt_truthK _ (K) _ _ rfl (@pe_callB _ _ _ _ _ _ _ _ (rIsiT) call_isiT rfl m_isinstance zq59x (@pa_cons _ _ _ _ _ (pv 0) (@pa_cons _ _ _ _ _ (@pe_tup _ _ _ _ _ (@pa_cons _ _ _ _ _ (pe_bltn (v := .ty "list") rfl m_list zq100x rfl) (@pa_cons _ _ _ _ _ (pe_bltn (v := .ty "tuple") rfl m_tuple zq179x rfl) pa_nil rfl) rfl)) pa_nil rfl) rfl) (by decide) (by decide) (by rfl) (by rfl)) (fun _ => rfl))) (pw_or1 (@pt_cmpR _ _ _ _ _ _ _ _ op_ne (@pe_callB _ _ _ _ _ _ _ _ (rIsi K) call_isi rfl m_isinstance zq59x (@pa_cons _ _ _ _ _ (pv 0) (@pa_cons _ _ _ _ _ (pe_bltn (v := .ty "list") rfl m_list zq100x rfl) pa_nil rfl) rfl) (by decide) (by decide) (by rfl) (by rfl)) (@pe_callB _ _ _ _ _ _ _ _ (rIsi K) call_isi rfl m_isinstance zq59x (@pa_cons _ _ _ _ _ (pv 1) (@pa_cons _ _ _ _ _ (pe_bltn (v := .ty "list") rfl m_list zq100x rfl) pa_nil rfl) rfl) (by decide) (by decide) (by rfl) (by rfl)) (nomark _))))) (@pss_one _ _ _ (@ps_ret _ _ _ _ pe_bl)) pss_nil) (@pss_cons _ _ _ _ _ (@ps_if _ _ _ _ _ _ _ _ (@pt_cmpR _ _ _ _ _ _ _ _ op_ne (@pe_callB _ _ _ _ _ _ _ _ (rLen K) call_lenM rfl m_len zq58x (@pa_cons _ _ _ _ _ (pv 0) pa_nil rfl) (by decide) (by decide) (by rfl) (by rfl)) (@pe_callB _ _ _ _ _ _ _ _ (rLen K) call_lenM rfl m_len zq58x (@pa_cons _ _ _ _ _ (pv 1) pa_nil rfl) (by decide) (by decide) (by rfl) (by rfl)) (nomark _)) (@pss_one _ _ _ (@ps_ret _ _ _ _ pe_bl)) pss_nil) (@pss_one _ _ _ (@ps_ret _ _ _ _ (@pe_callB _ _ _ _ _ _ _ _ (rAll K) (call_allM rfl) rfl m_all zq178x (@pa_cons _ _ _ _ _ (pe_lcomp (CompOk.of (show compOkB (defScope sLawAlike) ["found", "due"] _ ["k", "found", "due"] [none, some 0, some 1] = true by decide +kernel)) (@pi_range1 _ _ _ _ _ _ rfl m_range (@pa_cons _ _ _ _ _ (@pe_callB _ _ _ _ _ _ _ _ (rLen K) call_lenM rfl m_len zq58x (@pa_cons _ _ _ _ _ (pv 1) pa_nil rfl) (by decide) (by decide) (by rfl) (by rfl)) pa_nil rfl) (by rfl)) (fun _ _ _ _ => ⟨(pg_name (i := 0) (by show List.Nodup (["k", "found", "due"] : List Str); decide +kernel) rfl (Or.inl rfl)), pts_nil, (@pe_callC _ _ _ _ _ _ _ _ _ _ c__law_alike (hr.mono (zq1x _)) (@pa_cons _ _ _ _ _ (@pe_ix _ _ _ _ _ _ (rIx K) ix_seq (pv 1) (pv 0) (fun _ _ => rfl)) (@pa_cons _ _ _ _ _ (@pe_ix _ _ _ _ _ _ (rIx K) ix_seq (pv 2) (pv 0) (fun _ _ => rfl)) pa_nil rfl) rfl) (by rfl) (by decide) (by rfl) (by rfl))⟩)) pa_nil rfl) (by decide) (by decide) (by rfl) (by rfl)))))) pss_nil) (@pss_cons _ _ _ _ _ (@ps_if _ _ _ _ _ _ _ _ (PW.pt (pw_or (@pt_cmpR _ _ _ _ _ _ _ _ op_ne (@pe_callB _ _ _ _ _ _ _ _ (rIsi K) call_isi rfl m_isinstance zq59x (@pa_cons _ _ _ _ _ (pv 0) (@pa_cons _ _ _ _ _ (pe_bltn (v := .ty "bool") rfl m_bool zq180x rfl) pa_nil rfl) rfl) (by decide) (by decide) (by rfl) (by rfl)) (@pe_callB _ _ _ _ _ _ _ _ (rIsi K) call_isi rfl m_isinstance zq59x (@pa_cons _ _ _ _ _ (pv 1) (@pa_cons _ _ _ _ _ (pe_bltn (v := .ty "bool") rfl m_bool zq180x rfl) pa_nil rfl) rfl) (by decide) (by decide) (by rfl) (by rfl)) (nomark _)) (pw_or1 (@pt_cmpR _ _ _ _ _ _ _ _ op_ne (@pe_callB _ _ _ _ _ _ _ _ (rIsi K) call_isi rfl m_isinstance zq59x (@pa_cons _ _ _ _ _ (pv 0) (@pa_cons _ _ _ _ _ (pe_bltn (v := .ty "int") rfl m_int zq117x rfl) pa_nil rfl) rfl) (by decide) (by decide) (by rfl) (by rfl)) (@pe_callB _ _ _ _ _ _ _ _ (rIsi K) call_isi rfl m_isinstance zq59x (@pa_cons _ _ _ _ _ (pv 1) (@pa_cons _ _ _ _ _ (pe_bltn (v := .ty "int") rfl m_int zq117x rfl) pa_nil rfl) rfl) (by decide) (by decide) (by rfl) (by rfl)) (nomark _))))) (@pss_one _ _ _ (@ps_ret _ _ _ _ pe_bl)) pss_nil) (@pss_one _ _ _ (@ps_ret _ _ _ _ (@pe_and _ _ _ _ _ _ _ (@pe_cmpR _ _ _ _ _ _ _ _ op_eq (@pe_callB _ _ _ _ _ _ _ _ (rIsi K) call_isi rfl m_isinstance zq59x (@pa_cons _ _ _ _ _ (pv 0) (@pa_cons _ _ _ _ _ (pe_bltn (v := .ty "str") rfl m_str zq56x rfl) pa_nil rfl) rfl) (by decide) (by decide) (by rfl) (by rfl)) (@pe_callB _ _ _ _ _ _ _ _ (rIsi K) call_isi rfl m_isinstance zq59x (@pa_cons _ _ _ _ _ (pv 1) (@pa_cons _ _ _ _ _ (pe_bltn (v := .ty "str") rfl m_str zq56x rfl) pa_nil rfl) rfl) (by decide) (by decide) (by rfl) (by rfl)) (nomark _)) (@pe_one _ _ _ _ _ (@pe_cmpR _ _ _ _ _ _ _ _ op_eq (pv 0) (pv 1) (nomark _)))))))), ?_⟩
 refine Sv.enterD hlive hds hΦ (ρ := [.d false _, .d false _]) rfl ?_
 clear hΦ hds
 walk_at "dt"
 rcases hok with hs | ⟨ds, hd, hl, he⟩
 ·have h1 : (isiD d "list" || isiD d "tuple") = false := by cases d <;> first | rfl | cases hs
  rw [h1]
  walk_at "dt"
  rw [beq_self_eq_true]
  walk_at "dt"
  rw [beq_self_eq_true]
  walk_at "dt"
  rw [beq_self_eq_true]
  walk_at "dt"
  exact ⟨true, .self hs, q⟩
 rcases hd with rfl | rfl
 ·rw [(isi_list ds).1, (isi_list ds).2, zq154x]
  walk_at "dt"
  refine EvN.ev (EvN.compR1 (by decide) rfl ?_)
  walk_at "dt"
  refine ⟨true, fun i es => es = List.replicate i (.bool true), rfl, ?_, ?_⟩
  ·rintro i d' es ⟨hi, rfl⟩ hl' rfl
   have hi' : i < ds.length := by omega
   have hat : atI ds (0 + (i : Int)) = some ds[i] := atI_some (by omega) (by rw [show (0 + (i : Int)).toNat = i by omega]; exact zq5x hi')
   walk_at "dt"
   refine ⟨by walk_at "wk", ?_⟩
   walk_at "dt"
   refine Ev.callD (mono__law_alike n) ?_
   walk_at "dt"
   refine ⟨rfl, ds[i], rfl, he _ (zq47x hi'), fun _ => rfl, ?_⟩
   show _ = List.replicate (i + 1) _
   rw [zq181x]
  ·rintro es hl' rfl
   refine ⟨List.replicate ds.length true, by simp, ?_⟩
   rw [show (List.replicate ds.length true).all id = true by simp]
   exact q
 ·rw [(isi_tuple ds).1, (isi_tuple ds).2, zq128x]
  walk_at "dt"
  refine EvN.ev (EvN.compR1 (by decide) rfl ?_)
  walk_at "dt"
  refine ⟨true, fun i es => es = List.replicate i (.bool true), rfl, ?_, ?_⟩
  ·rintro i d' es ⟨hi, rfl⟩ hl' rfl
   have hi' : i < ds.length := by omega
   have hat : atI ds (0 + (i : Int)) = some ds[i] := atI_some (by omega) (by rw [show (0 + (i : Int)).toNat = i by omega]; exact zq5x hi')
   walk_at "dt"
   refine ⟨by walk_at "wk", ?_⟩
   walk_at "dt"
   refine Ev.callD (mono__law_alike n) ?_
   walk_at "dt"
   refine ⟨rfl, ds[i], rfl, he _ (zq47x hi'), fun _ => rfl, ?_⟩
   show _ = List.replicate (i + 1) _
   rw [zq181x]
  ·rintro es hl' rfl
   refine ⟨List.replicate ds.length true, by simp, ?_⟩
   rw [show (List.replicate ds.length true).all id = true by simp]
   exact q
theorem eqv_nil (is : List Int) : PyData.eqv (.list (is.map PyData.int)) (.list []) = decide (is = []) := by
 cases is <;> simp [PyData.eqv, PyData.eqvAll]
theorem shaped_ints (is : List Int) : SeqAt.shaped (.list (is.map PyData.int)) = true := by
 have h : PyData.depthAll (is.map PyData.int) = 0 /\ PyData.canLayAll0 (is.map PyData.int) = true := by
  induction is with
  | nil => simp [PyData.depthAll, PyData.canLayAll0]
  | cons a r ih => simp [PyData.depthAll, PyData.depth, PyData.canLayAll0, PyData.canLay0, ih.2, ih.1]
 unfold SeqAt.shaped
 simp [PyData.canLay0, PyData.depth, h.2, h.1]
theorem isDs_ints {nb : Addr -> Prop} {H : Hp} : ∀ is : List Int, IsDs nb H (is.map PyData.int) (is.map V.int)
 | [] => IsDs.nil
 | i :: is => IsDs.cons (.int i) (isDs_ints is)
theorem noDiv_of {r : Int} (h0 : r <= 10100) (h : ∀ d : Int, 2 <= d -> d < 102 -> ¬ (d * d <= r /\ r % d = 0)) : NoDiv r := fun d d1 d2 e => by
 by_cases hd : d < 102
 ·exact h d d1 hd ⟨d2, e⟩
 ·have : 102 * 102 <= d * d := Int.mul_le_mul (by omega) (by omega) (by omega) (by omega)
  omega
theorem scLawPrimeFrom : FnScope ["number", "found"] ["number"] (defScope sLawPrimeFrom) := ⟨rfl, rfl, rfl, by decide +kernel, rfl, by decide +kernel, by decide +kernel⟩
theorem ok__law_prime_from (F : Fun K "_law_prime_from" "_law_prime_from" sLawPrimeFrom f fd)   (m_range : mg "range" = none)  :
  FnOk P w K mg base CX0 1 f fd ["number"] spPrimeFrom := by
 refine F.ok scLawPrimeFrom (fun vs H Q E h => ?_) (fun cdv A outer s H vs Q E hr h => ?_)
 ·obtain ⟨n, rfl, hn1, hn2, q⟩ := h
  rfl
 obtain ⟨n, rfl, hn1, hn2, q⟩ := h
 refine ⟨_, (@pss_cons _ _ _ _ _ (@ps_for _ _ _ _ _ _ _ _ zq65x rfl (@pi_range2 _ _ _ _ _ _ _ rfl m_range (@pa_cons _ _ _ _ _ (pv 0) (@pa_cons _ _ _ _ _ (@pe_op _ _ _ _ _ _ _ _ op_add (pv 0) pe_int) pa_nil rfl) rfl) (by rfl) (by rfl)) (pg_name (i := 1) scLawPrimeFrom.nd rfl (Or.inr rfl)) (@pss_one _ _ _ (@ps_if _ _ _ _ _ _ _ _ (@pt_cmpR _ _ _ _ _ _ _ _ (op_eqD hr.units) (pe_lcomp (CompOk.of (show compOkB (defScope sLawPrimeFrom) ["number", "found"] _ ["k", "found"] [none, some 1] = true by decide +kernel)) (@pi_range2 _ _ _ _ _ _ _ rfl m_range (@pa_cons _ _ _ _ _ pe_int (@pa_cons _ _ _ _ _ pe_int pa_nil rfl) rfl) (by rfl) (by rfl)) (fun _ _ _ _ => ⟨(pg_name (i := 0) (by show List.Nodup (["k", "found"] : List Str); decide +kernel) rfl (Or.inl rfl)), (pts_one (PW.pt (pw_and (@pt_cmpR _ _ _ _ _ _ _ _ op_le (@pe_op _ _ _ _ _ _ _ _ op_mulA (pv 0) (pv 0)) (pv 1) (nomark _)) (pw_and1 (@pt_cmpR _ _ _ _ _ _ _ _ op_eq (@pe_op _ _ _ _ _ _ _ _ op_mod (pv 1) (pv 0)) pe_int (nomark _)))))), (pv 0)⟩)) (@pe_lst _ _ _ _ pa_nil) (nomark _)) (@pss_one _ _ _ (@ps_ret _ _ _ _ (pv 1))) pss_nil)) (by intro _; rfl)) (@pss_one _ _ _ (@ps_ret _ _ _ _ pe_int))), ?_⟩
 walk_at "st"
 refine for_range (fun i σ H1 => Same H H1 /\ ∃ (x : Option V), σ = [some (.int n), x]) ⟨Same.refl _, none, rfl⟩ ?_ ?_
 ·rintro i σ H1 hi ⟨s1, x, rfl⟩
  have hi2 : (i : Int) < 60 := by omega
  walk_at "st"
  intro acc hacc
  refine R.comp_range (fun j σ H2 => Same H1 H2 /\ (∃ x : Option V, σ = [x, some (.int (n + i))]) /\ ∃ is : List Int, H2 acc = some (.lst (is.map V.int)) /\ is.length <= j /\ (is = [] -> ∀ d : Int, 2 <= d -> d < 2 + j -> ¬ (d * d <= n + i /\ (n + i) % d = 0))) ?_ ?_ ?_
  ·exact ⟨same_new hacc, ⟨none, rfl⟩, [], upd_same, zq36x _, fun _ d d1 d2 => by omega⟩
  ·rintro j σ H2 hj ⟨s2, ⟨x, rfl⟩, is, e2, l2, h2⟩
   have hj2 : (j : Int) < 100 := by omega
   have next : ∀ d : Int, d < 2 + ((j + 1 : Nat) : Int) -> d < 2 + j \/ d = 2 + j := fun d h => by omega
   walk_at "st"
   refine ite2 (fun c1 => ?_) (fun c1 => ?_)
   ·have c1 : (2 + (j : Int)) * (2 + j) <= n + i := of_decide_eq_true c1
    walk_at "st"
    refine ite2 (fun c2 => ?_) (fun c2 => ?_)
    ·have c2 : (n + i) % (2 + (j : Int)) = 0 := of_decide_eq_true c2
     walk_at "st"
     refine ⟨_, e2, ?_, ?_, ⟨_, rfl⟩, is ++ [2 + (j : Int)], ?_, ?_, fun e => ?_⟩
     ·rw [zq0x]; exact small1000 (by omega)
     ·exact fun a o h => by rw [upd_ne (ne_of_none h hacc)]; exact s2 _ _ h
     ·rw [upd_same, zq11x]; rfl
     ·rw [zq26x, zq67x]; omega
     ·simp at e
    ·have c2 : ¬ (n + i) % (2 + (j : Int)) = 0 := of_decide_eq_false (zq92x.mpr c2)
     refine ⟨s2, ⟨_, rfl⟩, is, e2, by omega, fun e d d1 d2 => ?_⟩
     rcases next d d2 with h | h
     ·exact h2 e d d1 h
     ·rw [h]; exact fun z => c2 z.2
   ·have c1 : ¬ (2 + (j : Int)) * (2 + j) <= n + i := of_decide_eq_false (zq92x.mpr c1)
    walk_at "st"
    refine ⟨s2, ⟨_, rfl⟩, is, e2, by omega, fun e d d1 d2 => ?_⟩
    rcases next d d2 with h | h
    ·exact h2 e d d1 h
    ·rw [h]; exact fun z => c1 z.1
  ·rintro σ H2 ⟨s2, ⟨x, rfl⟩, is, e2, l2, h2⟩
   walk_at "st"
   refine R.lstA (by decide) fun p H3 s3 f3 e3 => ?_
   refine ⟨fun _ => False, .list (is.map PyData.int), .list [], .lst id (s3 _ _ e2) (isDs_ints is), .lst id e3 IsDs.nil, shaped_ints is, by decide, ?_⟩
   rw [eqv_nil]
   walk_at "st"
   have s : Same H H3 := s1.trans (s2.trans s3)
   refine ite2 (fun c => ?_) (fun c => ?_)
   ·have c : is = [] := by simpa using c
    walk_at "st"
    exact q _ _ s (by omega) (by omega) (noDiv_of (by omega) fun d d1 d2 => h2 c d d1 (by omega))
   ·walk_at "st"
    exact ⟨s, _, rfl⟩
 ·rintro σ H1 ⟨s1, x, rfl⟩
  walk_at "st"
  refine q _ _ s1 (by omega) (by omega) fun d d1 d2 => ?_
  have : 2 * 2 <= d * d := Int.mul_le_mul d1 d1 (by omega) (by omega)
  omega
theorem primeList_ok : ∀ x ∈ primeList, 2 <= x /\ x < 10 ^ 40 := by decide
def primeK : List Int := [2, 3, 5, 7, 2, 11, 101, 10007, 65537, 1000003, 998244353, 1000000007, 2147483647, 1000000000039, 10 ^ 39 + 3, 10 ^ 40 - 17, 2305843009213693951, 618970019642690137449562111, 162259276829213363391578010288127, 170141183460469231731687303715884105727]
theorem primeK_in : ∀ x ∈ primeK, x ∈ primeList := by decide
theorem scLawPrime : FnScope ["bag", "some", "way"] ["bag"] (defScope sLawPrime) := ⟨rfl, rfl, rfl, by decide +kernel, rfl, by decide +kernel, by decide +kernel⟩
theorem ok__law_prime (F : Fun K "_law_prime" "_law_prime" sLawPrime f fd)  (c__law_draw : Callee P w K mg base "_law_draw" 2 ["bag", "many"] spDraw) (c__law_prime_from : Callee P w K mg base "_law_prime_from" 1 ["number"] spPrimeFrom)   :
  FnOk P w K mg base CX0 3 f fd ["bag"] spPrime := by
 refine F.ok scLawPrime (fun vs H Q E h => ?_) (fun cdv A outer s H vs Q E hr h => ?_)
 ·obtain ⟨b, l, rfl, hB, q⟩ := h
  rfl
 obtain ⟨b, l, rfl, hB, q⟩ := h
 refine ⟨_, (@pss_cons _ _ _ _ _ (@ps_setInts _ 1 _ _ _ _ _ _ scLawPrime.nd rfl (Or.inl rfl) rfl (Or.inl rfl)) (@pss_cons _ _ _ _ _ (@ps_set _ _ (1) _ _ _ _ scLawPrime.nd rfl (Or.inl rfl) (@pe_op _ _ _ _ _ _ _ _ op_cat (pv 1) (@pe_lst _ _ _ _ (@pa_cons _ _ _ _ _ (@pe_op _ _ _ _ _ _ _ _ op_add (@pe_op _ _ _ _ _ _ _ _ op_pow pe_int pe_int) pe_int) (@pa_cons _ _ _ _ _ (@pe_op _ _ _ _ _ _ _ _ op_sub (@pe_op _ _ _ _ _ _ _ _ op_pow pe_int pe_int) pe_int) (@pa_cons _ _ _ _ _ pe_int (@pa_cons _ _ _ _ _ pe_int pa_nil rfl) rfl) rfl) rfl))) (by rfl) (by first | exact .inl rfl | exact .inr rfl | assumption)) (@pss_cons _ _ _ _ _ (@ps_set _ _ (1) _ _ _ _ scLawPrime.nd rfl (Or.inl rfl) (@pe_op _ _ _ _ _ _ _ _ op_cat (pv 1) (@pe_lst _ _ _ _ (@pa_cons _ _ _ _ _ pe_int (@pa_cons _ _ _ _ _ pe_int pa_nil rfl) rfl))) (by rfl) (by first | exact .inl rfl | exact .inr rfl | assumption)) (@pss_cons _ _ _ _ _ (@ps_set _ _ (2) _ _ _ _ scLawPrime.nd rfl (Or.inl rfl) (@pe_callC _ _ _ _ _ _ _ _ _ _ c__law_draw (hr.mono (by decide)) (@pa_cons _ _ _ _ _ (pv 0) (@pa_cons _ _ _ _ _ pe_int pa_nil rfl) rfl) (by rfl) (by decide) (by rfl) (by rfl)) (by rfl) (by first | exact .inl rfl | exact .inr rfl | assumption)) (@pss_one _ _ _ (@ps_ret _ _ _ _ (@pe_ifExp _ _ _ _ _ _ _ _ (@pt_cmpR _ _ _ _ _ _ _ _ op_lt (pv 2) pe_int (nomark _)) (@pe_ix _ _ _ _ _ _ _ ix_list (pv 1) (pv 2) (fun _ _ => rfl)) (@pe_callC _ _ _ _ _ _ _ _ _ _ c__law_prime_from (hr.mono (by decide)) (@pa_cons _ _ _ _ _ (@pe_op _ _ _ _ _ _ _ _ op_add pe_int (@pe_callC _ _ _ _ _ _ _ _ _ _ c__law_draw (hr.mono (by decide)) (@pa_cons _ _ _ _ _ (pv 0) (@pa_cons _ _ _ _ _ pe_int pa_nil rfl) rfl) (by rfl) (by decide) (by rfl) (by rfl))) pa_nil rfl) (by rfl) (by decide) (by rfl) (by rfl))))))))), ?_⟩
 walk_at "st"
 refine R.lstA (by decide) fun p1 H1 s1 f1 e1 => ?_
 walk_at "st"
 refine R.lstA (by decide) fun p2 H2 s2 f2 e2 => ?_
 refine R.catA (s2 _ _ e1) e2 (by decide) fun p3 H3 s3 f3 e3 => ?_
 walk_at "st"
 refine R.lstA (by decide) fun p4 H4 s4 f4 e4 => ?_
 refine R.catA (s4 _ _ e3) e4 (by decide) fun p5 H5 s5 f5 e5 => ?_
 have s : Same H H5 := s1.trans (s2.trans (s3.trans (s4.trans s5)))
 have s16 : Same H H4 := s1.trans (s2.trans (s3.trans s4))
 have B7 := hB.same s
 have ne7 := (hB.same s16).ne f5
 have e7' : H5 p5 = some (.lst (primeK.map V.int)) := e5
 walk_at "st"
 refine ⟨b, l, 24, rfl, B7, by omega, by walk_at "ds", fun way H8 w1 w2 bt8 B8 => ?_⟩
 have e8 := bt8 _ _ (show ¬ Nb b p5 from ne7.1) e7'
 walk_at "st"
 refine ite2 (fun c => ?_) (fun c => ?_)
 ·have c : way < 20 := of_decide_eq_true c
  have hw : way.toNat < primeK.length := by show way.toNat < 20; omega
  walk_at "st"
  refine R.ixM e8 (v := .int primeK[way.toNat]) (atI_some w1 (by rw [zq19x, zq5x hw]; rfl)) ?_
  have hm := primeK_in _ (zq47x hw)
  obtain ⟨g1, g2⟩ := primeList_ok _ hm
  exact q _ _ ⟨g1, g2, .inl hm⟩ ((But.of s).trans bt8) B8
 ·walk_at "st"
  refine ⟨b, l, 10000, rfl, B8, by omega, by walk_at "ds", fun r H9 r1 r2 bt9 B9 => ?_⟩
  walk_at "st"
  refine ⟨2 + r, rfl, by omega, by omega, fun p H10 s10 p1 p2 nd => ?_⟩
  exact q _ _ ⟨p1, by omega, .inr nd⟩ ((But.of s).trans (bt8.trans (bt9.trans (But.of s10)))) (B9.same s10)
def F__law_number : DF := fun ds Φ => ds = [] /\ ∀ (n : Int), n.natAbs < 10 ^ 60 -> Φ true (.int n)
theorem mono__law_number : MonoF F__law_number := by
 intro ds Φ Ψ hm z
 obtain ⟨e, q⟩ := hm
 exact ⟨e, fun n a => z _ _ (q n a)⟩
theorem scLawNumber : FnScope ["bag", "way"] ["bag"] (defScope sLawNumber) := ⟨rfl, rfl, rfl, by decide +kernel, rfl, by decide +kernel, by decide +kernel⟩
theorem ok__law_number (F : Fun K "_law_number" "_law_number" sLawNumber f fd)  (c__law_draw : Callee P w K mg base "_law_draw" 2 ["bag", "many"] spDraw)   :
  FnOk P w K mg base CX0 3 f fd ["bag"] (spB 1 F__law_number) := by
 refine F.ok scLawNumber (fun vs H Q E h => h.1) (fun cdv A outer s H vs Q E hr h => ?_)
 obtain ⟨b, l, ws, nb, ds, Φ, rfl, hB, hlive, hnb, hds, hΦ, hF⟩ := spB_out h
 obtain ⟨rfl, q⟩ := hF
 refine ⟨_, (@pss_cons _ _ _ _ _ (@ps_set _ _ (1) _ _ _ _ scLawNumber.nd rfl (Or.inl rfl) (@pe_callC _ _ _ _ _ _ _ _ _ _ c__law_draw (hr.mono (by decide)) (@pa_cons _ _ _ _ _ (pv 0) (@pa_cons _ _ _ _ _ pe_int pa_nil rfl) rfl) (by rfl) (by decide) (by rfl) (by rfl)) (by rfl) (by first | exact .inl rfl | exact .inr rfl | assumption)) (@pss_cons _ _ _ _ _ (@ps_if _ _ _ _ _ _ _ _ (@pt_cmpR _ _ _ _ _ _ _ _ op_lt (pv 1) pe_int (nomark _)) (@pss_one _ _ _ (@ps_ret _ _ _ _ (@pe_op _ _ _ _ _ _ _ _ op_sub (@pe_callC _ _ _ _ _ _ _ _ _ _ c__law_draw (hr.mono (by decide)) (@pa_cons _ _ _ _ _ (pv 0) (@pa_cons _ _ _ _ _ pe_int pa_nil rfl) rfl) (by rfl) (by decide) (by rfl) (by rfl)) pe_int))) pss_nil) (@pss_one _ _ _ (@ps_ret _ _ _ _ (@pe_op _ _ _ _ _ _ _ _ op_mulA (@pe_ix _ _ _ _ _ _ (rIxL K) ix_list (@pe_lst _ _ _ _ (@pa_cons _ _ _ _ _ pe_int (@pa_cons _ _ _ _ _ (@pe_un _ _ _ _ _ _ un_neg pe_int) pa_nil rfl) rfl)) (@pe_callC _ _ _ _ _ _ _ _ _ _ c__law_draw (hr.mono (by decide)) (@pa_cons _ _ _ _ _ (pv 0) (@pa_cons _ _ _ _ _ pe_int pa_nil rfl) rfl) (by rfl) (by decide) (by rfl) (by rfl)) (fun _ _ => rfl)) (@pe_callC _ _ _ _ _ _ _ _ _ _ c__law_draw (hr.mono (by decide)) (@pa_cons _ _ _ _ _ (pv 0) (@pa_cons _ _ _ _ _ (@pe_ix _ _ _ _ _ _ (rIxL K) ix_list (@pe_lst _ _ _ _ (@pa_cons _ _ _ _ _ (@pe_op _ _ _ _ _ _ _ _ op_pow pe_int pe_int) (@pa_cons _ _ _ _ _ pe_int pa_nil rfl) rfl)) (@pe_op _ _ _ _ _ _ _ _ op_sub (pv 1) pe_int) (fun _ _ => rfl)) pa_nil rfl) rfl) (by rfl) (by decide) (by rfl) (by rfl))))))), ?_⟩
 refine Sv.enterB hB hlive hnb hds hΦ (ρ := [.bag, .no]) rfl ?_
 clear hΦ hds
 walk_at "dt"
 intro w w0 w1
 refine Gv.nameI ?_
 walk_at "dt"
 by_cases c : w < 2
 ·rw [if_pos (by simpa using c)]
  walk_at "dt"
  intro r r0 r1
  walk_at "dt"
  exact q _ (by omega)
 rw [if_neg (by simpa using c)]
 walk_at "dt"
 intro r r0 r1
 obtain ⟨g, eg, hg⟩ := pick (L := [1, -1]) (k := r) (by omega) (by show r < 2; omega) (fun x => x = 1 \/ x = -1) (by simp)
 refine ⟨_, rfl, .int g, eg, _, rfl, ?_⟩
 walk_at "dt"
 obtain ⟨m, em, hm⟩ := pick (L := [10 ^ 60, 1000]) (k := w - 2) (by omega) (by show w - 2 < 2; omega) (fun x => x = 10 ^ 60 \/ x = 1000) (by simp)
 refine ⟨.int m, em, m, rfl, by rcases hm with rfl | rfl <;> decide, by unfold Sm; rcases hm with rfl | rfl <;> decide, fun s s0 s1 => ?_⟩
 have hs : s < 10 ^ 60 := by rcases hm with rfl | rfl <;> omega
 have hsm : (10 : Int) ^ 60 <= 2 ^ 300 := by decide
 refine ⟨s, rfl, .inr ⟨by unfold Sm; rcases hg with rfl | rfl <;> decide, by unfold Sm; omega⟩, q _ ?_⟩
 rcases hg with rfl | rfl <;> omega
def F__law_any_net : DF := fun ds Φ => ds = [] /\ ∀ (f : Bool) (p n : Int) (cs : List Prs), NtU p n cs -> Φ f (netD p n cs)
theorem mono__law_any_net : MonoF F__law_any_net := by
 intro ds Φ Ψ hm z
 obtain ⟨e, q⟩ := hm
 exact ⟨e, fun f p n cs a => z _ _ (q f p n cs a)⟩
theorem scLawAnyNet : FnScope ["bag", "p", "n", "wide", "many", "checks", "c", "places"] ["bag"] (defScope sLawAnyNet) := ⟨rfl, rfl, rfl, by decide +kernel, rfl, by decide +kernel, by decide +kernel⟩
theorem ok__law_any_net (F : Fun K "_law_any_net" "_law_any_net" sLawAnyNet f fd)  (c__law_prime : Callee P w K mg base "_law_prime" 3 ["bag"] spPrime) (c__law_draw : Callee P w K mg base "_law_draw" 2 ["bag", "many"] spDraw) (m_range : mg "range" = none) (m_sorted : mg "sorted" = none) (m_int : mg "int" = none) (m_set : mg "set" = none)  :
    FnOk P w K mg base CX0 4 f fd ["bag"] (spB 1 F__law_any_net) := by
  refine F.ok scLawAnyNet (fun vs H Q E h => h.1) (fun cdv A outer s H vs Q E hr h => ?_)
  obtain ⟨b, l, ws, nb, ds, Φ, rfl, hB, hlive, hnb, hds, hΦ, hF⟩ := spB_out h
  obtain ⟨rfl, q⟩ := hF
  refine ⟨_, (@pss_cons _ _ _ _ _ (@ps_set _ _ (1) _ _ _ _ scLawAnyNet.nd rfl (Or.inr rfl) (@pe_callC _ _ _ _ _ _ _ _ _ _ c__law_prime (hr.mono (by decide)) (@pa_cons _ _ _ _ _ (pv 0) pa_nil rfl) (by rfl) (by decide) (by rfl) (by rfl)) (by rfl) (by first | exact .inl rfl | exact .inr rfl | assumption)) (@pss_cons _ _ _ _ _ (@ps_set _ _ (2) _ _ _ _ scLawAnyNet.nd rfl (Or.inr rfl) (@pe_ix _ _ _ _ _ _ (rIxL K) ix_list (@pe_lst _ _ _ _ (@pa_cons _ _ _ _ _ (@pe_op _ _ _ _ _ _ _ _ op_add pe_int (@pe_callC _ _ _ _ _ _ _ _ _ _ c__law_draw (hr.mono (by decide)) (@pa_cons _ _ _ _ _ (pv 0) (@pa_cons _ _ _ _ _ pe_int pa_nil rfl) rfl) (by rfl) (by decide) (by rfl) (by rfl))) (@pa_cons _ _ _ _ _ pe_int pa_nil rfl) rfl)) (@pe_op _ _ _ _ _ _ _ _ op_fdivS (@pe_callC _ _ _ _ _ _ _ _ _ _ c__law_draw (hr.mono (by decide)) (@pa_cons _ _ _ _ _ (pv 0) (@pa_cons _ _ _ _ _ pe_int pa_nil rfl) rfl) (by rfl) (by decide) (by rfl) (by rfl)) pe_int) (fun _ _ => rfl)) (by rfl) (by first | exact .inl rfl | exact .inr rfl | assumption)) (@pss_cons _ _ _ _ _ (@ps_set _ _ (3) _ _ _ _ scLawAnyNet.nd rfl (Or.inl rfl) (@pe_ix _ _ _ _ _ _ (rIxL K) ix_list (@pe_lst _ _ _ _ (@pa_cons _ _ _ _ _ pe_int (@pa_cons _ _ _ _ _ pe_int pa_nil rfl) rfl)) (@pe_op _ _ _ _ _ _ _ _ op_fdivS (@pe_callC _ _ _ _ _ _ _ _ _ _ c__law_draw (hr.mono (by decide)) (@pa_cons _ _ _ _ _ (pv 0) (@pa_cons _ _ _ _ _ pe_int pa_nil rfl) rfl) (by rfl) (by decide) (by rfl) (by rfl)) pe_int) (fun _ _ => rfl)) (by rfl) (by first | exact .inl rfl | exact .inr rfl | assumption)) (@pss_cons _ _ _ _ _ (@ps_set _ _ (4) _ _ _ _ scLawAnyNet.nd rfl (Or.inl rfl) (@pe_ix _ _ _ _ _ _ (rIxL K) ix_list (@pe_lst _ _ _ _ (@pa_cons _ _ _ _ _ (@pe_callC _ _ _ _ _ _ _ _ _ _ c__law_draw (hr.mono (by decide)) (@pa_cons _ _ _ _ _ (pv 0) (@pa_cons _ _ _ _ _ pe_int pa_nil rfl) rfl) (by rfl) (by decide) (by rfl) (by rfl)) (@pa_cons _ _ _ _ _ pe_int pa_nil rfl) rfl)) (@pe_op _ _ _ _ _ _ _ _ op_mulA (@pe_op _ _ _ _ _ _ _ _ op_fdivS (@pe_callC _ _ _ _ _ _ _ _ _ _ c__law_draw (hr.mono (by decide)) (@pa_cons _ _ _ _ _ (pv 0) (@pa_cons _ _ _ _ _ pe_int pa_nil rfl) rfl) (by rfl) (by decide) (by rfl) (by rfl)) pe_int) (@pe_callTy _ _ _ _ _ _ _ _ _ call_intM rfl m_int zq117x (@pa_cons _ _ _ _ _ (@pe_cmpR _ _ _ _ _ _ _ _ op_eq (pv 3) pe_int (nomark _)) pa_nil rfl) (by decide) (by decide) (by rfl) (by rfl))) (fun _ _ => rfl)) (by rfl) (by first | exact .inl rfl | exact .inr rfl | assumption)) (@pss_cons _ _ _ _ _ (@ps_set _ _ (5) _ _ _ _ scLawAnyNet.nd rfl (Or.inl rfl) (@pe_lst _ _ _ _ pa_nil) (by rfl) (by first | exact .inl rfl | exact .inr rfl | assumption)) (@pss_cons _ _ _ _ _ (@ps_for _ _ _ _ _ _ _ _ zq65x rfl (@pi_range1 _ _ _ _ _ _ rfl m_range (@pa_cons _ _ _ _ _ (pv 4) pa_nil rfl) (by rfl)) (pg_name (i := 6) scLawAnyNet.nd rfl (Or.inl rfl)) (@pss_cons _ _ _ _ _ (@ps_set _ _ (7) _ _ _ _ scLawAnyNet.nd rfl (Or.inl rfl) (@pe_callB _ _ _ _ _ _ _ _ (rSortedA P w) (call_sortA rfl) rfl m_sorted PyProof.Rows.boot_sorted (@pa_cons _ _ _ _ _ (@pe_callTy _ _ _ _ _ _ _ _ (rSetOf P w K) (call_setM rfl) rfl m_set PyProof.Rows.boot_set (@pa_cons _ _ _ _ _ (pe_lcomp (CompOk.of (show compOkB (defScope sLawAnyNet) ["bag", "p", "n", "wide", "many", "checks", "c", "places"] _ ["k", "bag", "n"] [none, some 0, some 2] = true by decide +kernel)) (@pi_range1 _ _ _ _ _ _ rfl m_range (@pa_cons _ _ _ _ _ (@pe_op _ _ _ _ _ _ _ _ op_add pe_int (@pe_callC _ _ _ _ _ _ _ _ _ _ c__law_draw (hr.mono (by decide)) (@pa_cons _ _ _ _ _ (pv 0) (@pa_cons _ _ _ _ _ (pv 3) pa_nil rfl) rfl) (by rfl) (by decide) (by rfl) (by rfl))) pa_nil rfl) (by rfl)) (fun _ _ _ _ => ⟨(pg_name (i := 0) (by show List.Nodup (["k", "bag", "n"] : List Str); decide +kernel) rfl (Or.inl rfl)), pts_nil, (@pe_callC _ _ _ _ _ _ _ _ _ _ c__law_draw (hr.mono (by decide)) (@pa_cons _ _ _ _ _ (pv 1) (@pa_cons _ _ _ _ _ (pv 2) pa_nil rfl) rfl) (by rfl) (by decide) (by rfl) (by rfl))⟩)) pa_nil rfl) (by decide) (by decide) (by rfl) (by rfl)) pa_nil rfl) (by decide) (by decide) (by rfl) (by rfl)) (by rfl) (by first | exact .inl rfl | exact .inr rfl | assumption)) (@pss_one _ _ _ (@ps_expr _ _ _ _ (pe_bm zq101x zq102x zq103x mt_append (pv 5) (@pa_cons _ _ _ _ _ (pe_lcomp (CompOk.of (show compOkB (defScope sLawAnyNet) ["bag", "p", "n", "wide", "many", "checks", "c", "places"] _ ["place", "bag", "p"] [none, some 0, some 1] = true by decide +kernel)) (pi_listK (K := K) rfl (pv 7)) (fun _ _ _ _ => ⟨(pg_name (i := 0) (by show List.Nodup (["place", "bag", "p"] : List Str); decide +kernel) rfl (Or.inl rfl)), pts_nil, (@pe_tup _ _ _ _ _ (@pa_cons _ _ _ _ _ (pv 0) (@pa_cons _ _ _ _ _ (@pe_op _ _ _ _ _ _ _ _ op_add pe_int (@pe_callC _ _ _ _ _ _ _ _ _ _ c__law_draw (hr.mono (by decide)) (@pa_cons _ _ _ _ _ (pv 1) (@pa_cons _ _ _ _ _ (@pe_op _ _ _ _ _ _ _ _ op_sub (pv 2) pe_int) pa_nil rfl) rfl) (by rfl) (by decide) (by rfl) (by rfl))) pa_nil rfl) rfl))⟩)) pa_nil rfl)) (by rfl)))) (by intro _; rfl)) (@pss_one _ _ _ (@ps_ret _ _ _ _ (@pe_tup _ _ _ _ _ (@pa_cons _ _ _ _ _ (pv 1) (@pa_cons _ _ _ _ _ (pv 2) (@pa_cons _ _ _ _ _ (pv 5) pa_nil rfl) rfl) rfl)))))))))), ?_⟩
  refine Sv.enterB hB hlive hnb hds hΦ (ρ := [.bag, .no, .no, .no, .no, .no, .no, .no]) rfl ?_
  clear hΦ hds
  walk_at "dt"
  intro p hp
  obtain ⟨p2, p40, _⟩ := id hp
  have h46 : (10 : Int) ^ 40 < 10 ^ 60 := by decide
  refine Gv.nameI ?_
  walk_at "dt"
  intro w w0 w1
  walk_at "dt"
  intro t t0 t1
  obtain ⟨n, en, hn0, hn1⟩ : ∃ m : Int, atI [PyData.int (1 + w), PyData.int 400] (t / 11) = some (.int m) /\ 1 <= m /\ m <= 400 := by
    rcases (by omega : t / 11 = 0 \/ t / 11 = 1) with h | h
    · exact ⟨1 + w, by rw [h]; rfl, by omega, by omega⟩
    · exact ⟨400, by rw [h]; rfl, by decide, by decide⟩
  walk_at "dt"
  intro t2 t20 t21
  obtain ⟨wide, ew, hw⟩ : ∃ m : Int, atI [PyData.int 5, PyData.int 240] (t2 / 11) = some (.int m) /\ (m = 5 \/ m = 240) := by
    rcases (by omega : t2 / 11 = 0 \/ t2 / 11 = 1) with h | h
    · exact ⟨5, by rw [h]; rfl, .inl rfl⟩
    · exact ⟨240, by rw [h]; rfl, .inr rfl⟩
  walk_at "dt"
  intro r r0 r1
  walk_at "dt"
  intro t3 t30 t31
  walk_at "dt"
  obtain ⟨m, em, hm0, hm1⟩ : ∃ m : Int, atI [PyData.int r, PyData.int 400] (t3 / 11 * if decide (wide = 5) = true then 1 else 0) = some (.int m) /\ 0 <= m /\ m <= 400 := by
    have h5 : (t3 / 11 * if decide (wide = 5) = true then 1 else 0) = 0 \/ (t3 / 11 * if decide (wide = 5) = true then 1 else 0) = 1 := by
      split <;> omega
    rcases h5 with h | h
    · exact ⟨r, by rw [h]; rfl, r0, by omega⟩
    · exact ⟨400, by rw [h]; rfl, by decide, by decide⟩
  refine ⟨_, em, Gv.nameI ?_⟩
  walk_at "dt"
  intro a
  walk_at "dt"
  refine Sv.forR1 ?_
  walk_at "dt"
  refine ⟨fun i ρ => ∃ (f : Bool) (x6 x7 : Sl) (cs : List Prs), ρ = [.bag, .d true (.int p), .d true (.int n), .d true (.int wide), .d true (.int m), .own a f (cs.map prsD), x6, x7] /\ cs.length = i /\ ∀ prs ∈ cs, PxT prs, ⟨_, _, _, [], rfl, rfl, (fun _ h => nomatch h)⟩, ?_, ?_⟩
  · rintro i d ρ ⟨hi, rfl⟩ ⟨f, x6, x7, cs, rfl, hcl, hcs⟩
    walk_at "dt"
    refine EvN.ev (EvN.sortedSetA (EvN.ev (EvN.compR1 (by decide) rfl ?_)))
    walk_at "dt"
    intro m2 m20 m21
    walk_at "dt"
    refine CompD.ints (fun x => 0 <= x /\ x < n) ?_ fun os hol hos => ⟨os, rfl, by omega, fun rs hrs hmem => ?_⟩
    · rintro i d ⟨hi, rfl⟩
      walk_at "dt"
      refine ⟨by walk_at "wk", ?_⟩
      walk_at "dt"
      exact fun r r1 r2 => ⟨r, rfl, r1, r2⟩
    have hrl2 : rs.length <= os.length := zq170x hrs fun k hk => (hmem k).mp hk
    walk_at "dt"
    refine EvN.ev (EvN.compL (by decide) rfl ?_)
    walk_at "dt"
    refine ⟨by rw [zq0x]; omega, fun v => CompD.rel pairD true (fun i pr => rs[i]? = some pr.1 /\ 0 < pr.2 /\ pr.2 < p) ?_ fun prs hpl hprs => ?_⟩
    · rintro j d hd
      obtain ⟨x, hx, rfl⟩ := map_at hd
      walk_at "dt"
      refine ⟨by walk_at "wk", ?_⟩
      walk_at "dt"
      intro y y1 y2
      walk_at "dt"
      exact ⟨fun _ => rfl, (x, 1 + y), rfl, hx, by show 0 < 1 + y; omega, by show 1 + y < p; omega⟩
    have hcm : (cs.map prsD).length = cs.length := zq0x ..
    rw [zq0x] at hpl
    refine ⟨by omega, _, _, _, cs ++ [prs], by rw [zq11x]; rfl, by simp [hcl], fun prs' h => ?_⟩
    rcases zq41x.mp h with h | h
    · exact hcs _ h
    · rw [zq10x.mp h]
      refine ⟨by omega, fun pr hpr => ?_⟩
      obtain ⟨k, hk⟩ := zq81x hpr
      obtain ⟨e1, e2, e3⟩ := hprs k pr hk
      have hx := hos _ ((hmem _).mp (zq27x e1))
      refine ⟨?_, ?_⟩
      · have : (401 : Nat) <= 10 ^ 60 := by decide
        omega
      · omega
  rintro ρ ⟨f, x6, x7, cs, rfl, hcl, hcs⟩
  refine Sv.demote 5 rfl ?_
  walk_at "dt"
  exact q _ p n cs ⟨by omega, by have : (401 : Nat) <= 10 ^ 60 := by decide
                                 omega, by omega, hcs⟩
def F__law_wild_net : DF := fun ds Φ => ds = [] /\ ∀ (f : Bool) (p n : Int) (cs : List Prs), NtU p n cs -> Φ f (netD p n cs)
theorem mono__law_wild_net : MonoF F__law_wild_net := by
 intro ds Φ Ψ hm z
 obtain ⟨e, q⟩ := hm
 exact ⟨e, fun f p n cs a => z _ _ (q f p n cs a)⟩
theorem scLawWildNet : FnScope ["bag", "checks", "c"] ["bag"] (defScope sLawWildNet) := ⟨rfl, rfl, rfl, by decide +kernel, rfl, by decide +kernel, by decide +kernel⟩
theorem ok__law_wild_net (F : Fun K "_law_wild_net" "_law_wild_net" sLawWildNet f fd)  (c__law_draw : Callee P w K mg base "_law_draw" 2 ["bag", "many"] spDraw) (c__law_number : Callee P w K mg base "_law_number" 3 ["bag"] (spB 1 F__law_number)) (m_range : mg "range" = none)  :
  FnOk P w K mg base CX0 4 f fd ["bag"] (spB 1 F__law_wild_net) := by
 refine F.ok scLawWildNet (fun vs H Q E h => h.1) (fun cdv A outer s H vs Q E hr h => ?_)
 obtain ⟨b, l, ws, nb, ds, Φ, rfl, hB, hlive, hnb, hds, hΦ, hF⟩ := spB_out h
 obtain ⟨rfl, q⟩ := hF
 refine ⟨_, (@pss_cons _ _ _ _ _ (@ps_set _ _ (1) _ _ _ _ scLawWildNet.nd rfl (Or.inl rfl) (@pe_lst _ _ _ _ pa_nil) (by rfl) (by first | exact .inl rfl | exact .inr rfl | assumption)) (@pss_cons _ _ _ _ _ (@ps_for _ _ _ _ _ _ _ _ zq65x rfl (@pi_range1 _ _ _ _ _ _ rfl m_range (@pa_cons _ _ _ _ _ (@pe_callC _ _ _ _ _ _ _ _ _ _ c__law_draw (hr.mono (by decide)) (@pa_cons _ _ _ _ _ (pv 0) (@pa_cons _ _ _ _ _ pe_int pa_nil rfl) rfl) (by rfl) (by decide) (by rfl) (by rfl)) pa_nil rfl) (by rfl)) (pg_name (i := 2) scLawWildNet.nd rfl (Or.inl rfl)) (@pss_one _ _ _ (@ps_expr _ _ _ _ (pe_bm zq101x zq102x zq103x mt_append (pv 1) (@pa_cons _ _ _ _ _ (pe_lcomp (CompOk.of (show compOkB (defScope sLawWildNet) ["bag", "checks", "c"] _ ["k", "bag"] [none, some 0] = true by decide +kernel)) (@pi_range1 _ _ _ _ _ _ rfl m_range (@pa_cons _ _ _ _ _ (@pe_callC _ _ _ _ _ _ _ _ _ _ c__law_draw (hr.mono (by decide)) (@pa_cons _ _ _ _ _ (pv 0) (@pa_cons _ _ _ _ _ pe_int pa_nil rfl) rfl) (by rfl) (by decide) (by rfl) (by rfl)) pa_nil rfl) (by rfl)) (fun _ _ _ _ => ⟨(pg_name (i := 0) (by show List.Nodup (["k", "bag"] : List Str); decide +kernel) rfl (Or.inl rfl)), pts_nil, (@pe_tup _ _ _ _ _ (@pa_cons _ _ _ _ _ (@pe_callC _ _ _ _ _ _ _ _ _ _ c__law_number (hr.mono (by decide)) (@pa_cons _ _ _ _ _ (pv 1) pa_nil rfl) (by rfl) (by decide) (by rfl) (by rfl)) (@pa_cons _ _ _ _ _ (@pe_callC _ _ _ _ _ _ _ _ _ _ c__law_number (hr.mono (by decide)) (@pa_cons _ _ _ _ _ (pv 1) pa_nil rfl) (by rfl) (by decide) (by rfl) (by rfl)) pa_nil rfl) rfl))⟩)) pa_nil rfl)) (by rfl))) (by intro _; rfl)) (@pss_one _ _ _ (@ps_ret _ _ _ _ (@pe_tup _ _ _ _ _ (@pa_cons _ _ _ _ _ (@pe_callC _ _ _ _ _ _ _ _ _ _ c__law_number (hr.mono (by decide)) (@pa_cons _ _ _ _ _ (pv 0) pa_nil rfl) (by rfl) (by decide) (by rfl) (by rfl)) (@pa_cons _ _ _ _ _ (@pe_callC _ _ _ _ _ _ _ _ _ _ c__law_number (hr.mono (by decide)) (@pa_cons _ _ _ _ _ (pv 0) pa_nil rfl) (by rfl) (by decide) (by rfl) (by rfl)) (@pa_cons _ _ _ _ _ (pv 1) pa_nil rfl) rfl) rfl)))))), ?_⟩
 refine Sv.enterB hB hlive hnb hds hΦ (ρ := [.bag, .no, .no]) rfl ?_
 clear hΦ hds
 walk_at "dt"
 intro a
 walk_at "dt"
 refine Sv.forR1 ?_
 walk_at "dt"
 intro m m0 m1
 refine ⟨_, rfl, by omega, by omega, ?_⟩
 refine ⟨fun i ρ => ∃ (f : Bool) (x2 : Sl) (cs : List Prs), ρ = [.bag, .own a f (cs.map prsD), x2] /\ cs.length = i /\ ∀ prs ∈ cs, prs.length <= 240 /\ ∀ pr ∈ prs, PrOk pr, ⟨_, _, [], rfl, rfl, (fun _ h => nomatch h)⟩, ?_, ?_⟩
 ·rintro i d ρ ⟨hi, rfl⟩ ⟨f, x2, cs, rfl, hcl, hcs⟩
  walk_at "dt"
  refine EvN.ev (EvN.compR1 (by decide) rfl ?_)
  walk_at "dt"
  intro k k0 k1
  refine ⟨_, rfl, by omega, by omega, ?_⟩
  refine CompD.rel pairD true (fun _ (pr : Int × Int) => PrOk pr) ?_ fun prs hpl hprs => ?_
  ·rintro j d ⟨hj, rfl⟩
   walk_at "dt"
   refine ⟨by walk_at "wk", ?_⟩
   walk_at "dt"
   refine Ev.callB mono__law_number rfl ?_
   refine Av.nil ⟨rfl, rfl, fun n1 h1 => ?_⟩
   refine Av.cons (Ev.callB mono__law_number rfl ?_)
   refine Av.nil ⟨rfl, rfl, fun n2 h2 => ?_⟩
   refine Av.nil ⟨by show 2 <= _; decide, fun _ => rfl, (n1, n2), rfl, h1, h2⟩
  refine ⟨by rw [zq0x]; omega, _, _, cs ++ [prs], by rw [zq11x]; rfl, by simp [hcl], fun prs' h => ?_⟩
  rcases zq41x.mp h with h | h
  ·exact hcs _ h
  ·rw [zq10x.mp h]
   refine ⟨by omega, fun pr hpr => ?_⟩
   obtain ⟨k, hk⟩ := zq81x hpr
   exact hprs k pr hk
 rintro ρ ⟨f, x2, cs, rfl, hcl, hcs⟩
 refine Sv.demote 1 rfl ?_
 refine Sv.ret (Ev.tup ?_)
 refine Av.cons (Ev.callB mono__law_number rfl ?_)
 refine Av.nil ⟨rfl, rfl, fun n1 h1 => ?_⟩
 refine Av.cons (Ev.callB mono__law_number rfl ?_)
 refine Av.nil ⟨rfl, rfl, fun n2 h2 => ?_⟩
 refine Av.cons (Ev.var rfl ?_)
 exact Av.nil ⟨by show 3 <= _; decide, q _ n1 n2 cs ⟨h1, h2, by omega, hcs⟩⟩
theorem pw_none : ∀ (R : List Str), (Txt.join (Str.ofString "") R).cps.toList = (R.map fun x => x.cps.toList).flatten
  | [] => by rw [join_eq]; rfl
  | [a] => by rw [join_eq]; show a.cps.toList = _; simp
  | a :: b :: R => by
    have ih := pw_none (b :: R)
    rw [join_eq] at ih ⊢
    show ((a.cps ++ (Str.ofString "").cps) ++ (Str.join (Str.ofString "") (b :: R)).cps).toList = _
    rw [zq24x, zq24x, ih]
    have : (Str.ofString "").cps.toList = [] := by decide
    rw [this]
    simp
theorem cps_app (x y : Str) : (x ++ y).cps.toList = x.cps.toList ++ y.cps.toList := by
 show (x.cps ++ y.cps).toList = _
 rw [zq24x]
theorem cps_len (x : Str) : x.cps.toList.length = x.length := by simp [Str.length]
def prT (pr : Int × Int) : Str := Str.ofString " " ++ nS pr.1 ++ Str.ofString ":" ++ nS pr.2
theorem prT_cps (pr : Int × Int) : (prT pr).cps.toList = 32 :: (prS pr).cps.toList := by
 unfold prT prS
 rw [cps_app, cps_app, cps_app, cps_app, cps_app, show (Str.ofString " ").cps.toList = [32] by decide]
 simp
theorem prT_len {pr : Int × Int} (h : PrOk pr) : (prT pr).length <= 124 := by
 have e := congrArg List.length (prT_cps pr)
 rw [cps_len, zq35x, cps_len] at e
 have := (prS_len h).1
 omega
theorem row_cps (prs : Prs) : (Str.ofString "\ncheck" ++ Txt.join (Str.ofString "") (prs.map prT)).cps.toList = 10 :: (rwT "check" (prs.map prS)).cps.toList := by
 unfold rwT
 rw [cps_app, pw_none, join_eq, join_list, zq64x, zq64x, show (Str.ofString "\ncheck").cps.toList = 10 :: (Str.ofString "check").cps.toList by decide]
 rw [zq70x]
 congr 4
 funext pr
 exact prT_cps pr
theorem hd_cps (p n : Int) : (Str.ofString "net " ++ nS p ++ Str.ofString " " ++ nS n).cps.toList = (rwT "net" ([p, n].map nS)).cps.toList := by
 unfold rwT
 rw [cps_app, cps_app, cps_app, join_eq, zq7x, zq7x, zq68x, join_list, show (Str.ofString "net ").cps.toList = (Str.ofString "net").cps.toList ++ [32] by decide, show (Str.ofString " ").cps.toList = [32] by decide]
 simp
def F__law_written : DF := fun ds Φ => ∃ (p n : Int) (cs : List Prs), ds = [netD p n cs] /\ NtU p n cs /\ ∀ f, Φ f (.str (ntU p n cs))
theorem mono__law_written : MonoF F__law_written := by
 intro ds Φ Ψ hm z
 obtain ⟨p, n, cs, e, h, q⟩ := hm
 exact ⟨p, n, cs, e, h, fun f => z _ _ (q f)⟩
theorem scLawWritten : FnScope ["net", "text", "pairs"] ["net"] (defScope sLawWritten) := ⟨rfl, rfl, rfl, by decide +kernel, rfl, by decide +kernel, by decide +kernel⟩
theorem ok__law_written (F : Fun K "_law_written" "_law_written" sLawWritten f fd)   (m_str : mg "str" = none)  :
    FnOk P w K mg base CX0 1 f fd ["net"] (spD 1 F__law_written) := by
  refine F.ok scLawWritten (fun vs H Q E h => h.1) (fun cdv A outer s H vs Q E hr h => ?_)
  obtain ⟨nb, ds, Φ, hlive, hds, hΦ, hF⟩ := spD_out h
  obtain ⟨p, n, cs, rfl, hok, q⟩ := hF
  refine ⟨_, (@pss_cons _ _ _ _ _ (@ps_set _ _ (1) _ _ _ _ scLawWritten.nd rfl (Or.inl rfl) (@pe_op _ _ _ _ _ _ _ _ op_addS (@pe_op _ _ _ _ _ _ _ _ op_addS (@pe_op _ _ _ _ _ _ _ _ op_addS pe_str (@pe_callTy _ _ _ _ _ _ _ _ (rStrI) call_strI rfl m_str zq56x (@pa_cons _ _ _ _ _ (@pe_ix _ _ _ _ _ _ (rIxT K) ix_tup (pv 0) pe_int (fun _ _ => rfl)) pa_nil rfl) (by decide) (by decide) (by rfl) (by rfl))) pe_str) (@pe_callTy _ _ _ _ _ _ _ _ (rStrI) call_strI rfl m_str zq56x (@pa_cons _ _ _ _ _ (@pe_ix _ _ _ _ _ _ (rIxT K) ix_tup (pv 0) pe_int (fun _ _ => rfl)) pa_nil rfl) (by decide) (by decide) (by rfl) (by rfl))) (by rfl) (by first | exact .inl rfl | exact .inr rfl | assumption)) (@pss_cons _ _ _ _ _ (@ps_for _ _ _ _ _ _ _ _ zq65x rfl (pi_listK (K := K) rfl (@pe_ix _ _ _ _ _ _ (rIxT K) ix_tup (pv 0) pe_int (fun _ _ => rfl))) (pg_name (i := 2) scLawWritten.nd rfl (Or.inl rfl)) (@pss_one _ _ _ (@ps_set _ _ (1) _ _ _ _ scLawWritten.nd rfl (Or.inl rfl) (@pe_op _ _ _ _ _ _ _ _ op_addS (@pe_op _ _ _ _ _ _ _ _ op_addS (pv 1) pe_str) (pe_bmK (K := K) rfl (pe_bm zq75x zq150x zq151x mt_join pe_str (@pa_cons _ _ _ _ _ (pe_lcomp (CompOk.of (show compOkB (defScope sLawWritten) ["net", "text", "pairs"] _ ["place", "factor"] [none, none] = true by decide +kernel)) (pi_listK (K := K) rfl (pv 2)) (fun _ _ _ _ => ⟨(@pg_tupM _ (K) _ _ _ (2) _ rfl rfl (@pgs_cons _ _ _ _ _ (pg_name (i := 0) (by show List.Nodup (["place", "factor"] : List Str); decide +kernel) rfl (Or.inl rfl)) (@pgs_cons _ _ _ _ _ (pg_name (i := 1) (by show List.Nodup (["place", "factor"] : List Str); decide +kernel) rfl (Or.inl rfl)) pgs_nil (by rfl)) (by rfl)) (by rfl) (by rfl)), pts_nil, (@pe_op _ _ _ _ _ _ _ _ op_addS (@pe_op _ _ _ _ _ _ _ _ op_addS (@pe_op _ _ _ _ _ _ _ _ op_addS pe_str (@pe_callTy _ _ _ _ _ _ _ _ (rStrI) call_strI rfl m_str zq56x (@pa_cons _ _ _ _ _ (pv 0) pa_nil rfl) (by decide) (by decide) (by rfl) (by rfl))) pe_str) (@pe_callTy _ _ _ _ _ _ _ _ (rStrI) call_strI rfl m_str zq56x (@pa_cons _ _ _ _ _ (pv 1) pa_nil rfl) (by decide) (by decide) (by rfl) (by rfl)))⟩)) pa_nil rfl)))) (by rfl) (by first | exact .inl rfl | exact .inr rfl | assumption))) (by intro _; rfl)) (@pss_one _ _ _ (@ps_ret _ _ _ _ (pv 1))))), ?_⟩
  refine Sv.enterD hlive hds hΦ (ρ := [.d false _, .no, .no]) rfl ?_
  clear hΦ hds
  have h4 : 12200000 <= sizeLine := by decide
  have hcl := hok.2.2.1
  have a := (num_ok hok.1).2.1
  have b := (num_ok hok.2.1).2.1
  have hcm : (cs.map prsD).length = cs.length := zq0x ..
  have l1 : (Str.ofString "net ").length = 4 := by decide
  have l2 : (Str.ofString " ").length = 1 := by decide
  have l3 : (Str.ofString "\ncheck").length = 6 := by decide
  have l5 : (Str.ofString ":").length = 1 := by decide
  refine Sv.seq (Sv.asg ?_)
  refine Ev.addL (Ev.addL (Ev.addL (Ev.str ⟨_, rfl, ?_⟩)))
  refine Ev.strI (Ev.ixT (Ev.var rfl ⟨_, rfl, Ev.int ⟨_, rfl, _, rfl, p, rfl, hok.1, _, rfl, by rw [l1]; omega, ?_⟩⟩))
  refine ⟨_, rfl, Ev.str ⟨_, rfl, by rw [len_app, l1, l2]; omega, ?_⟩⟩
  refine ⟨_, rfl, Ev.strI (Ev.ixT (Ev.var rfl ⟨_, rfl, Ev.int ⟨_, rfl, _, rfl, n, rfl, hok.2.1, _, rfl, by rw [len_app, len_app, l1, l2]; omega, ?_⟩⟩))⟩
  refine Gv.name ?_
  refine Sv.seq ?_
  refine Sv.forL ?_
  refine Ev.ixT (Ev.var rfl ⟨_, rfl, Ev.int ⟨_, rfl, _, rfl, ?_⟩⟩)
  refine ⟨_, rfl, fun v => ⟨fun j ρ => ∃ (f1 : Bool) (x2 : Sl) (s : Str), ρ = [.d false (netD p n cs), .d f1 (.str s), x2] /\ s.cps.toList = (rwT "net" ([p, n].map nS)).cps.toList ++ ((cs.take j).map fun prs => 10 :: (rwT "check" (prs.map prS)).cps.toList).flatten /\ s.length <= 200 + j * 30001, ⟨_, _, _, rfl, ?_, ?_⟩, ?_, ?_⟩⟩
  · rw [hd_cps]; simp
  · rw [len_app, len_app, len_app, l1, l2]; omega
  · rintro j d ρ hd ⟨f1, x2, s, rfl, hs, hsl⟩
    obtain ⟨prs, hp, rfl⟩ := map_at hd
    have hjl := (zq8x.mp hp).1
    have hpo := hok.2.2.2 prs (zq27x hp)
    have hpl := hpo.1
    have hj2 : j * 30001 <= 400 * 30001 := zq115x _ (by omega)
    have hrow : ∀ y ∈ prs.map prT, y.length <= 124 := fun y hy => by
      obtain ⟨pr, hm, rfl⟩ := zq21x.mp hy
      exact prT_len (hpo.2 pr hm)
    have hjl2 : (Txt.join (Str.ofString "") (prs.map prT)).length <= 240 * 124 := by
      have e := pw_none (prs.map prT)
      have e := congrArg List.length e
      rw [cps_len] at e
      rw [e]
      have : ∀ R : List Str, (∀ y ∈ R, y.length <= 124) -> (R.map fun x => x.cps.toList).flatten.length <= R.length * 124 := fun R => by
        induction R with
        | nil => intro _; exact zq36x _
        | cons a R ih =>
          intro h
          have h1 := h a zq14x
          have h2 := ih fun y hy => h y (zq20x _ hy)
          rw [zq7x, zq83x, zq26x, cps_len, zq35x]
          omega
      have h2 := this _ hrow
      rw [zq0x] at h2
      have h3 : prs.length * 124 <= 240 * 124 := zq115x _ hpl
      omega
    refine Gv.nameF ?_
    refine Sv.asg ?_
    refine Ev.addL (Ev.addL (Ev.var rfl ⟨_, rfl, Ev.str ⟨_, rfl, by rw [l3]; omega, ?_⟩⟩))
    refine ⟨_, rfl, Ev.join (Ev.str ⟨_, rfl, ?_⟩)⟩
    refine EvN.ev (EvN.compL (by decide) rfl ?_)
    refine Ev.var rfl ⟨_, rfl, by rw [zq0x]; omega, fun v => ⟨true, fun i ds => ds = ((prs.take i).map prT).map .str, rfl, ?_, ?_⟩⟩
    · rintro i d ds hd hl' rfl
      obtain ⟨pr, hr, rfl⟩ := map_at hd
      have ho := hpo.2 pr (zq27x hr)
      have la := (num_ok ho.1).2.1
      have lb := (num_ok ho.2).2.1
      walk_at "dt"
      refine ⟨by walk_at "wk", ?_⟩
      refine Tv.noTest ?_
      rw [if_pos rfl]
      refine Ev.addL (Ev.addL (Ev.addL (Ev.str ⟨_, rfl, ?_⟩)))
      refine Ev.strI (Ev.var rfl ⟨pr.1, rfl, ho.1, _, rfl, by rw [l2]; omega, ?_⟩)
      refine ⟨_, rfl, Ev.str ⟨_, rfl, by rw [len_app, l2, l5]; omega, ?_⟩⟩
      refine ⟨_, rfl, Ev.strI (Ev.var rfl ⟨pr.2, rfl, ho.2, _, rfl, by rw [len_app, len_app, l2, l5]; omega, fun _ => rfl, ?_⟩)⟩
      show _ = List.map _ (List.map _ (List.take (i + 1) prs))
      rw [take_snoc hr, zq11x, zq11x]
      rfl
    rintro ds hl' rfl
    rw [zq0x, zq57x]
    refine ⟨prs.map prT, rfl, ?_, _, rfl, ?_, ?_⟩
    · unfold JoinOk
      rw [zq134x]
      exact StrLaws.joinFits hrow (by rw [zq0x]; show _ + _ * 0 <= _; omega)
    · rw [len_app, l3]; omega
    refine Gv.name ?_
    refine ⟨_, _, _, rfl, ?_, ?_⟩
    · rw [take_snoc hp, zq11x, List.flatten_append, <- zq23x, <- hs, cps_app, cps_app, zq23x, <- cps_app, row_cps]
      simp
    · rw [len_app, len_app, l3]; omega
  rintro ρ ⟨f1, x2, s, rfl, hs, hsl⟩
  rw [hcm, zq57x] at hs
  have e : s = ntU p n cs := by
    refine str_ext ?_
    rw [hs]
    unfold ntU ntUL
    rw [join_eq, join_list, zq64x]
    rfl
  rw [e]
  exact Sv.ret (Ev.var rfl (q _))
theorem alike_net {k : Nat} {p n : Int} {cs : List Prs} (h : NtU p n cs) : alikeOk (k + 5) (netD p n cs) := .inr ⟨_, .inr rfl, (by decide : 3 <= 10000), fun e he => by
 have hl := h.2.2.1
 simp at he
 rcases he with rfl | rfl | rfl
 ·exact .inl rfl
 ·exact .inl rfl
 refine .inr ⟨_, .inl rfl, by rw [zq0x]; omega, fun e he => ?_⟩
 obtain ⟨prs, hp, rfl⟩ := zq21x.mp he
 have hpl := (h.2.2.2 prs hp).1
 refine .inr ⟨_, .inl rfl, by rw [zq0x]; omega, fun e he => ?_⟩
 obtain ⟨pr, _, rfl⟩ := zq21x.mp he
 refine .inr ⟨_, .inr rfl, (by decide : 2 <= 10000), fun e he => ?_⟩
 simp at he
 rcases he with rfl | rfl <;> exact .inl rfl⟩
abbrev sevD : PyData := .tuple [.int 0, .int 7]
def apN (cs : List Prs) (m : Nat) : List (List PyData) := (cs.take m).map (fun prs => prs.map pairD ++ [sevD]) ++ (cs.drop m).map fun prs => prs.map pairD
theorem apN_0 (cs : List Prs) : apN cs 0 = cs.map fun prs => prs.map pairD := by unfold apN; simp
theorem apN_all (cs : List Prs) : apN cs cs.length = cs.map fun prs => prs.map pairD ++ [sevD] := by unfold apN; simp
theorem apN_at {cs : List Prs} {m : Nat} (h : m < cs.length) : (apN cs m)[m]? = some (cs[m].map pairD) /\ (apN cs m).set m (cs[m].map pairD ++ [sevD]) = apN cs (m + 1) := by
 have ht : (cs.take m).length = m := by rw [zq49x]; omega
 have hA : ((cs.take m).map fun prs => prs.map pairD ++ [sevD]).length = m := by rw [zq0x, ht]
 unfold apN
 rw [zq113x h, zq7x]
 constructor
 ·rw [zq30x (by omega), hA, zq91x]; rfl
 ·rw [zq166x _ _ (by omega), hA, zq91x, List.set_cons_zero, take_snoc (zq5x h), zq11x, zq23x]; rfl
def F__law_net_right : DF := fun ds Φ => ∃ (p n : Int) (cs : List Prs), ds = [netD p n cs] /\ NtU p n cs /\ Φ true (.bool true)
theorem mono__law_net_right : MonoF F__law_net_right := by
 intro ds Φ Ψ hm z
 obtain ⟨p, n, cs, e, h, q⟩ := hm
 exact ⟨p, n, cs, e, h, z _ _ q⟩
theorem scLawNetRight : FnScope ["net", "handed", "text", "found", "pairs"] ["net"] (defScope sLawNetRight) := ⟨rfl, rfl, rfl, by decide +kernel, rfl, by decide +kernel, by decide +kernel⟩
theorem ok__law_net_right (F : Fun K "_law_net_right" "_law_net_right" sLawNetRight f fd)  (c_net_text : Callee P w K mg base "net_text" 2 ["net"] (spD 1 F_net_text)) (c_read_net : Callee P w K mg base "read_net" 5 ["text"] (spS 1 F_read_net)) (c__law_alike : Callee P w K mg base "_law_alike" 5 ["found", "due"] (spD 2 (F__law_alike 5))) (c__law_written : Callee P w K mg base "_law_written" 1 ["net"] (spD 1 F__law_written)) (m_list : mg "list" = none) (m_len : mg "len" = none)  :
  FnOk P w K mg base CX0 6 f fd ["net"] (spD 1 F__law_net_right) := by
 refine F.ok scLawNetRight (fun vs H Q E h => h.1) (fun cdv A outer s H vs Q E hr h => ?_)
 obtain ⟨nb, ds, Φ, hlive, hds, hΦ, hF⟩ := spD_out h
 obtain ⟨p, n, cs, rfl, hok, q⟩ := hF
 refine ⟨_, (@pss_cons _ _ _ _ _ (@ps_set _ _ (1) _ _ _ _ scLawNetRight.nd rfl (Or.inl rfl) (@pe_tup _ _ _ _ _ (@pa_cons _ _ _ _ _ (@pe_ix _ _ _ _ _ _ (rIxT K) ix_tup (pv 0) pe_int (fun _ _ => rfl)) (@pa_cons _ _ _ _ _ (@pe_ix _ _ _ _ _ _ (rIxT K) ix_tup (pv 0) pe_int (fun _ _ => rfl)) (@pa_cons _ _ _ _ _ (pe_lcomp (CompOk.of (show compOkB (defScope sLawNetRight) ["net", "handed", "text", "found", "pairs"] _ ["pairs"] [none] = true by decide +kernel)) (pi_listK (K := K) rfl (@pe_ix _ _ _ _ _ _ (rIxT K) ix_tup (pv 0) pe_int (fun _ _ => rfl))) (fun _ _ _ _ => ⟨(pg_name (i := 0) (by show List.Nodup (["pairs"] : List Str); decide +kernel) rfl (Or.inl rfl)), pts_nil, (@pe_callTy _ _ _ _ _ _ _ _ (rListOf K) call_listM rfl m_list zq100x (@pa_cons _ _ _ _ _ (pv 0) pa_nil rfl) (by decide) (by decide) (by rfl) (by rfl))⟩)) pa_nil rfl) rfl) rfl)) (by rfl) (by first | exact .inl rfl | exact .inr rfl | assumption)) (@pss_cons _ _ _ _ _ (@ps_set _ _ (2) _ _ _ _ scLawNetRight.nd rfl (Or.inl rfl) (@pe_callC _ _ _ _ _ _ _ _ _ _ c_net_text (hr.mono (by decide)) (@pa_cons _ _ _ _ _ (pv 1) pa_nil rfl) (by rfl) (by decide) (by rfl) (by rfl)) (by rfl) (by first | exact .inl rfl | exact .inr rfl | assumption)) (@pss_cons _ _ _ _ _ (@ps_if _ _ _ _ _ _ _ _ (PW.pt (pw_or (@pt_not _ _ _ _ (@pt_truthK _ (K) _ _ rfl (@pe_callC _ _ _ _ _ _ _ _ _ _ c__law_alike (hr.mono (by decide)) (@pa_cons _ _ _ _ _ (pv 2) (@pa_cons _ _ _ _ _ (@pe_callC _ _ _ _ _ _ _ _ _ _ c__law_written (hr.mono (by decide)) (@pa_cons _ _ _ _ _ (pv 0) pa_nil rfl) (by rfl) (by decide) (by rfl) (by rfl)) pa_nil rfl) rfl) (by rfl) (by decide) (by rfl) (by rfl)) (fun _ => rfl))) (pw_or1 (@pt_not _ _ _ _ (@pt_truthK _ (K) _ _ rfl (@pe_callC _ _ _ _ _ _ _ _ _ _ c__law_alike (hr.mono (by decide)) (@pa_cons _ _ _ _ _ (pv 1) (@pa_cons _ _ _ _ _ (pv 0) pa_nil rfl) rfl) (by rfl) (by decide) (by rfl) (by rfl)) (fun _ => rfl)))))) (@pss_one _ _ _ (@ps_ret _ _ _ _ pe_bl)) pss_nil) (@pss_cons _ _ _ _ _ (@ps_set _ _ (3) _ _ _ _ scLawNetRight.nd rfl (Or.inl rfl) (@pe_callC _ _ _ _ _ _ _ _ _ _ c_read_net (hr.mono (by decide)) (@pa_cons _ _ _ _ _ (pv 2) pa_nil rfl) (by rfl) (by decide) (by rfl) (by rfl)) (by rfl) (by first | exact .inl rfl | exact .inr rfl | assumption)) (@pss_cons _ _ _ _ _ (@ps_if _ _ _ _ _ _ _ _ (@pt_not _ _ _ _ (@pt_truthK _ (K) _ _ rfl (@pe_callC _ _ _ _ _ _ _ _ _ _ c__law_alike (hr.mono (by decide)) (@pa_cons _ _ _ _ _ (pv 3) (@pa_cons _ _ _ _ _ (pv 0) pa_nil rfl) rfl) (by rfl) (by decide) (by rfl) (by rfl)) (fun _ => rfl))) (@pss_one _ _ _ (@ps_ret _ _ _ _ pe_bl)) pss_nil) (@pss_cons _ _ _ _ _ (@ps_for _ _ _ _ _ _ _ _ zq65x rfl (pi_listK (K := K) rfl (@pe_ix _ _ _ _ _ _ (rIxT K) ix_tup (pv 3) pe_int (fun _ _ => rfl))) (pg_name (i := 4) scLawNetRight.nd rfl (Or.inl rfl)) (@pss_one _ _ _ (@ps_expr _ _ _ _ (pe_bm zq101x zq102x zq103x mt_append (pv 4) (@pa_cons _ _ _ _ _ (@pe_tup _ _ _ _ _ (@pa_cons _ _ _ _ _ pe_int (@pa_cons _ _ _ _ _ pe_int pa_nil rfl) rfl)) pa_nil rfl)) (by rfl))) (by intro _; rfl)) (@pss_cons _ _ _ _ _ (@ps_expr _ _ _ _ (pe_bm zq101x zq102x zq103x mt_append (@pe_ix _ _ _ _ _ _ (rIxT K) ix_tup (pv 3) pe_int (fun _ _ => rfl)) (@pa_cons _ _ _ _ _ (@pe_lst _ _ _ _ pa_nil) pa_nil rfl)) (by rfl)) (@pss_cons _ _ _ _ _ (@ps_if _ _ _ _ _ _ _ _ (@pt_cmpR _ _ _ _ _ _ _ _ (op_neD hr.units) (pe_lcomp (CompOk.of (show compOkB (defScope sLawNetRight) ["net", "handed", "text", "found", "pairs"] _ ["pairs"] [none] = true by decide +kernel)) (pi_listK (K := K) rfl (@pe_slice _ _ _ _ _ _ _ _ _ (rSlL K) sl_list (@pe_ix _ _ _ _ _ _ (rIxT K) ix_tup (pv 3) pe_int (fun _ _ => rfl)) po_none (@po_some _ _ _ (@pe_un _ _ _ _ _ _ un_neg pe_int)))) (fun _ _ _ _ => ⟨(pg_name (i := 0) (by show List.Nodup (["pairs"] : List Str); decide +kernel) rfl (Or.inl rfl)), pts_nil, (@pe_callB _ _ _ _ _ _ _ _ (rLen K) call_lenM rfl m_len zq58x (@pa_cons _ _ _ _ _ (pv 0) pa_nil rfl) (by decide) (by decide) (by rfl) (by rfl))⟩)) (pe_lcomp (CompOk.of (show compOkB (defScope sLawNetRight) ["net", "handed", "text", "found", "pairs"] _ ["pairs"] [none] = true by decide +kernel)) (pi_listK (K := K) rfl (@pe_ix _ _ _ _ _ _ (rIxT K) ix_tup (pv 0) pe_int (fun _ _ => rfl))) (fun _ _ _ _ => ⟨(pg_name (i := 0) (by show List.Nodup (["pairs"] : List Str); decide +kernel) rfl (Or.inl rfl)), pts_nil, (@pe_op _ _ _ _ _ _ _ _ op_add (@pe_callB _ _ _ _ _ _ _ _ (rLen K) call_lenM rfl m_len zq58x (@pa_cons _ _ _ _ _ (pv 0) pa_nil rfl) (by decide) (by decide) (by rfl) (by rfl)) pe_int)⟩)) (nomark _)) (@pss_one _ _ _ (@ps_ret _ _ _ _ pe_bl)) pss_nil) (@pss_one _ _ _ (@ps_ret _ _ _ _ (@pe_callC _ _ _ _ _ _ _ _ _ _ c__law_alike (hr.mono (by decide)) (@pa_cons _ _ _ _ _ (@pe_callC _ _ _ _ _ _ _ _ _ _ c_read_net (hr.mono (by decide)) (@pa_cons _ _ _ _ _ (pv 2) pa_nil rfl) (by rfl) (by decide) (by rfl) (by rfl)) (@pa_cons _ _ _ _ _ (pv 0) pa_nil rfl) rfl) (by rfl) (by decide) (by rfl) (by rfl)))))))))))), ?_⟩
 refine Sv.enterD hlive hds hΦ (ρ := [.d false _, .no, .no, .no, .no]) rfl ?_
 clear hΦ hds
 have hcl := hok.2.2.1
 have hcm : (cs.map prsD).length = cs.length := zq0x ..
 walk_at "dt"
 refine EvN.ev (EvN.compL (by decide) rfl ?_)
 refine Ev.ixT (Ev.var rfl ⟨_, rfl, Ev.int ⟨_, rfl, _, rfl, ?_⟩⟩)
 refine ⟨_, rfl, by omega, fun v => ⟨false, fun j ds => ds = (cs.take j).map prsD, rfl, ?_, ?_⟩⟩
 ·rintro j d ds hd hl' rfl
  obtain ⟨prs, hp, rfl⟩ := map_at hd
  walk_at "dt"
  refine ⟨by walk_at "wk", ?_⟩
  walk_at "dt"
  refine ⟨fun z => (by cases z), ?_⟩
  show _ = List.map _ (List.take (j + 1) cs)
  rw [take_snoc hp, zq11x]
  rfl
 rintro ds hl' rfl
 rw [hcm, zq57x]
 refine Av.nil ⟨by show 3 <= 10000; decide, ?_⟩
 refine Gv.nameF ?_
 refine Sv.seq (Sv.asg (Ev.callD mono_net_text ?_))
 walk_at "dt"
 refine ⟨rfl, p, n, cs, rfl, hok, ?_⟩
 refine Gv.name ?_
 refine Sv.seq (Sv.ifS (Tv.or ?_))
 walk_at "dt"
 refine Ev.callD (mono__law_alike 5) ?_
 walk_at "dt"
 refine Ev.callD mono__law_written ?_
 walk_at "dt"
 refine ⟨rfl, p, n, cs, rfl, hok, fun f8 => ?_⟩
 walk_at "dt"
 refine ⟨rfl, .str (ntU p n cs), rfl, .inl rfl, _, rfl, ?_⟩
 rw [if_neg (by decide)]
 walk_at "dt"
 refine Ev.callD (mono__law_alike 5) ?_
 walk_at "dt"
 refine ⟨rfl, _, rfl, alike_net hok, _, rfl, ?_⟩
 rw [if_neg (by decide)]
 refine Sv.next ?_
 refine Sv.seq (Sv.asgSt mono_read_net ?_)
 walk_at "dt"
 refine ⟨rfl, p, n, cs, rfl, hok, fun L c a0 bs hL hnd => ?_⟩
 have hstd : ∀ {L c a0 bs}, NtOk L c a0 bs (.int p) (.int n) (cs.map fun prs => prs.map pairD) -> StD L (.own c) (netD p n cs) := fun hL => by
  have := hL.std
  rw [zq64x] at this
  exact this
 refine Sv.seq (Sv.ifS (Tv.lendSt 3 rfl (hstd hL) ?_))
 walk_at "dt"
 refine Ev.callD (mono__law_alike 5) ?_
 walk_at "dt"
 refine ⟨rfl, _, rfl, alike_net hok, _, rfl, ?_⟩
 rw [if_neg (by decide)]
 refine Sv.next ?_
 refine Sv.seq ?_
 have hbl : bs.length = cs.length := by have := hL.len; rwa [zq0x] at this
 refine Sv.forA (i := 3) rfl (EvA.ixT (i := 3) rfl (EvA.root rfl (Ev.int ⟨2, _, _, rfl, hL.hc, rfl, bs, hL.h0, fun m ρ => ∃ (L' : Sto) (f' : Bool) (x4 : Sl) (h1 h2 : Sl), ρ = [.d false (netD p n cs), h1, h2, .cu (stC (.ref c) f' L'), x4] /\ h2 = .d true (.str (ntU p n cs)) /\ NtOk L' c a0 bs (.int p) (.int n) (apN cs m), ⟨L, _, _, _, _, rfl, rfl, by rw [apN_0]; exact hL⟩, ?_, ?_, ?_⟩)))
 ·rintro m ρ ⟨L', f', x4, h1, h2, rfl, _, hL'⟩
  exact ⟨3, _, _, L', rfl, hL'.h0⟩
 ·rintro m b ρ hb ⟨L', f', x4, h1, h2, rfl, rfl, hL'⟩
  have hml := (zq8x.mp hb).1
  have hmc : m < cs.length := by omega
  obtain ⟨e1, e2⟩ := apN_at hmc
  have hpl := (hok.2.2.2 cs[m] (zq47x hmc)).1
  refine Sv.appA (i := 3) rfl (EvA.raw (j := 4) rfl ⟨_, hL'.hb m b _ hb e1, by rw [zq0x, zq0x]; omega, ?_⟩)
  walk_at "dt"
  refine ⟨_, _, _, _, _, rfl, rfl, ?_⟩
  have := hL'.put (ds := cs[m].map pairD ++ [.tuple [.int 0, .int 7]]) hb
  rw [zq11x] at this
  rw [e2] at this
  exact this
 rintro ρ ⟨L', f', x4, h1, h2, rfl, rfl, hL'⟩
 rw [hbl] at hL'
 refine Sv.seq ?_
 refine Sv.appNilA (i := 3) rfl (EvA.ixT (i := 3) rfl (EvA.root rfl (Ev.int ⟨2, _, _, rfl, hL'.hc, rfl, bs.map .own, hL'.h0, by rw [zq0x]; omega, fun e he => ?_⟩)))
 have hkc : c ≠ e := fun z => he (z ▸ lookup_key hL'.hc)
 have hk0 : a0 ≠ e := fun z => he (z ▸ lookup_key hL'.h0)
 obtain ⟨n1, n2⟩ := zq33x.mp hL'.nd
 obtain ⟨n3, n4⟩ := zq33x.mp n2
 have hal : (apN cs cs.length).length = cs.length := by rw [apN_all, zq0x]
 refine Sv.demoteSt 3 rfl (nt_std (c := c) (a0 := a0) (bs := bs ++ [e]) (d1 := .int p) (d2 := .int n) (dss := apN cs cs.length ++ [[]]) ?_ ?_ ?_ ?_) ?_
 ·rw [zq2x, beq_false_of_ne hkc]
  exact (putO_ne (fun z => n1 (by rw [z]; exact zq14x))).trans hL'.hc
 ·rw [zq2x, beq_false_of_ne hk0]
  rw [zq11x]
  exact putO_eq (lookup_key hL'.h0)
 ·rw [zq26x, zq26x, hal, hbl]; rfl
 ·intro i b ds g1 g2
  rcases zq112x i bs.length with z | z | z
  ·rw [zq31x z] at g1
   rw [zq31x (by rw [hal]; omega)] at g2
   have hbm := zq27x g1
   have hbk := hL'.hb i b ds g1 g2
   have hbe : b ≠ e := fun z => he (z ▸ lookup_key hbk)
   rw [zq2x, beq_false_of_ne hbe]
   exact (putO_ne (fun z => n3 (by rw [<- z]; exact hbm))).trans hbk
  ·subst z
   rw [zq30x (zq1x _), zq91x] at g1
   rw [zq30x (by omega), show bs.length - (apN cs cs.length).length = 0 by omega] at g2
   cases g1; cases g2
   rw [zq2x, beq_self_eq_true]
   rfl
  ·rw [zq61x (by rw [zq26x, zq67x]; omega)] at g1
   cases g1
 rw [apN_all]
 refine Sv.seq (Sv.ifS (Tv.test (Ev.eqD ?_)))
 have hxl : ((cs.map fun prs => prs.map pairD ++ [sevD]).map PyData.list).length = cs.length := by rw [zq0x, zq0x]
 refine EvN.ev (EvN.compL (by decide) rfl ?_)
 refine Ev.sl (Ev.ixT (Ev.var rfl ⟨_, rfl, Ev.int ⟨_, rfl, _, rfl, _, rfl, Ov.none (Ov.some (Ev.rU (Ev.int ⟨_, rfl, _, rfl, ?_⟩)))⟩⟩))
 rw [zq11x]
 have ec : cutA ((cs.map fun prs => prs.map pairD ++ [sevD]).map PyData.list ++ [[]].map PyData.list) none (some (-1)) = (cs.map fun prs => prs.map pairD ++ [sevD]).map PyData.list := by
  unfold cutA HT.sIx
  simp
  rw [show (-1 + ((cs.length : Int) + 1)).toNat = cs.length by omega, List.take_left' (by simp)]
 rw [ec]
 refine ⟨_, rfl, by omega, fun v => ⟨true, fun j ds => ds = ((cs.take j).map fun prs => (prs.length : Int) + 1).map .int, rfl, ?_, ?_⟩⟩
 ·rintro j d ds hd hl' rfl
  rw [zq64x] at hd
  obtain ⟨prs, hp, rfl⟩ := map_at hd
  refine Gv.nameF ?_
  refine ⟨by walk_at "wk", ?_⟩
  refine Tv.noTest ?_
  rw [if_pos rfl]
  refine Ev.lenL (Ev.var rfl ⟨_, rfl, fun _ => rfl, ?_⟩)
  show _ = List.map _ (List.map _ (List.take (j + 1) cs))
  rw [take_snoc hp, zq11x, zq11x]
  simp
 rintro ds hl' rfl
 rw [hxl, zq57x]
 refine EvN.ev (EvN.compL (by decide) rfl ?_)
 refine Ev.ixT (Ev.var rfl ⟨_, rfl, Ev.int ⟨_, rfl, _, rfl, ?_⟩⟩)
 refine ⟨_, rfl, by omega, fun v => ⟨true, fun j ds => ds = ((cs.take j).map fun prs => (prs.length : Int) + 1).map .int, rfl, ?_, ?_⟩⟩
 ·rintro j d ds hd hl' rfl
  obtain ⟨prs, hp, rfl⟩ := map_at hd
  refine Gv.nameF ?_
  refine ⟨by walk_at "wk", ?_⟩
  refine Tv.noTest ?_
  rw [if_pos rfl]
  refine Ev.rI0 (Ev.lenL (Ev.var rfl ⟨_, rfl, _, rfl, Ev.int ⟨_, rfl, fun _ => rfl, ?_⟩⟩))
  show _ = List.map _ (List.map _ (List.take (j + 1) cs))
  rw [take_snoc hp, zq11x, zq11x]
  simp
 rintro ds hl' rfl
 rw [hcm, zq57x]
 refine ⟨shaped_ints _, shaped_ints _, _, rfl, ?_⟩
 rw [eqv_ints, decide_eq_true rfl, if_neg (by decide)]
 refine Sv.next ?_
 refine Sv.ret ?_
 refine Ev.callD (mono__law_alike 5) ?_
 refine Av.cons (Ev.callSt mono_read_net ?_)
 walk_at "dt"
 refine ⟨rfl, p, n, cs, rfl, hok, fun L c a0 bs hL => ⟨c, _, rfl, hstd hL, ?_⟩⟩
 walk_at "dt"
 exact ⟨rfl, _, rfl, alike_net hok, q⟩
theorem scLaw : FnScope ["script", "bag", "some", "k", "wild", "net"] ["script"] (defScope sLaw) := ⟨rfl, rfl, rfl, by decide +kernel, rfl, by decide +kernel, by decide +kernel⟩
theorem ok_law (F : Fun K "law" "law" sLaw f fd)  (c__law_bag : Callee P w K mg base "_law_bag" 1 ["script"] (spBag K)) (c__law_draw : Callee P w K mg base "_law_draw" 2 ["bag", "many"] spDraw) (c__law_net_right : Callee P w K mg base "_law_net_right" 6 ["net"] (spD 1 F__law_net_right)) (c__law_wild_net : Callee P w K mg base "_law_wild_net" 4 ["bag"] (spB 1 F__law_wild_net)) (c__law_any_net : Callee P w K mg base "_law_any_net" 4 ["bag"] (spB 1 F__law_any_net)) (m_range : mg "range" = none)  :
  FnOk P w K mg base CX0 7 f fd ["script"] (spLaw K) := by
 refine F.ok scLaw (fun vs H Q E h => ?_) (fun cdv A outer s H vs Q E hr h => ?_)
 ·obtain ⟨a, ns, rfl, hS, hl, q⟩ := h
  rfl
 obtain ⟨a, ns, rfl, hS, hl, q⟩ := h
 refine ⟨_, (@pss_cons _ _ _ _ _ (@ps_set _ _ (1) _ _ _ _ scLaw.nd rfl (Or.inl rfl) (@pe_callC _ _ _ _ _ _ _ _ _ _ c__law_bag (hr.mono (by decide)) (@pa_cons _ _ _ _ _ (pv 0) pa_nil rfl) (by rfl) (by decide) (by rfl) (by rfl)) (by rfl) (by first | exact .inl rfl | exact .inr rfl | assumption)) (@pss_cons _ _ _ _ _ (@ps_set _ _ (2) _ _ _ _ scLaw.nd rfl (Or.inl rfl) (@pe_lst _ _ _ _ pa_nil) (by rfl) (by first | exact .inl rfl | exact .inr rfl | assumption)) (@pss_cons _ _ _ _ _ (@ps_for _ _ _ _ _ _ _ _ zq65x rfl (@pi_range1 _ _ _ _ _ _ rfl m_range (@pa_cons _ _ _ _ _ pe_int pa_nil rfl) (by rfl)) (pg_name (i := 3) scLaw.nd rfl (Or.inl rfl)) (@pss_cons _ _ _ _ _ (@ps_set _ _ (4) _ _ _ _ scLaw.nd rfl (Or.inl rfl) (@pe_cmpR _ _ _ _ _ _ _ _ op_eq (@pe_callC _ _ _ _ _ _ _ _ _ _ c__law_draw (hr.mono (by decide)) (@pa_cons _ _ _ _ _ (pv 1) (@pa_cons _ _ _ _ _ pe_int pa_nil rfl) rfl) (by rfl) (by decide) (by rfl) (by rfl)) pe_int (nomark _)) (by rfl) (by first | exact .inl rfl | exact .inr rfl | assumption)) (@pss_one _ _ _ (@ps_expr _ _ _ _ (pe_bm zq101x zq102x zq103x mt_append (pv 2) (@pa_cons _ _ _ _ _ (@pe_ifExp _ _ _ _ _ _ _ _ (@pt_truthK _ (K) _ _ rfl (pv 4) (fun _ => rfl)) (@pe_callC _ _ _ _ _ _ _ _ _ _ c__law_wild_net (hr.mono (by decide)) (@pa_cons _ _ _ _ _ (pv 1) pa_nil rfl) (by rfl) (by decide) (by rfl) (by rfl)) (@pe_callC _ _ _ _ _ _ _ _ _ _ c__law_any_net (hr.mono (by decide)) (@pa_cons _ _ _ _ _ (pv 1) pa_nil rfl) (by rfl) (by decide) (by rfl) (by rfl))) pa_nil rfl)) (by rfl)))) (by intro _; rfl)) (@pss_cons _ _ _ _ _ (@ps_for _ _ _ _ _ _ _ _ zq65x rfl (pi_listK (K := K) rfl (@pe_op _ _ _ _ _ _ _ _ op_cat (pv 2) (@pe_slice _ _ _ _ _ _ _ _ _ (rSlL K) sl_list (pv 2) po_none (@po_some _ _ _ pe_int)))) (pg_name (i := 5) scLaw.nd rfl (Or.inl rfl)) (@pss_one _ _ _ (@ps_if _ _ _ _ _ _ _ _ (@pt_not _ _ _ _ (@pt_truthK _ (K) _ _ rfl (@pe_callC _ _ _ _ _ _ _ _ _ _ c__law_net_right (hr.mono (by decide)) (@pa_cons _ _ _ _ _ (pv 5) pa_nil rfl) (by rfl) (by decide) (by rfl) (by rfl)) (fun _ => rfl))) (@pss_one _ _ _ (@ps_ret _ _ _ _ pe_bl)) pss_nil)) (by intro _; rfl)) (@pss_one _ _ _ (@ps_ret _ _ _ _ pe_bl)))))), ?_⟩
 walk_at "st"
 refine ⟨a, ns, rfl, hS, hl, fun b l H1 s1 f1 B1 => ?_⟩
 have key : ∀ (t : TS) (D : Ends), (∀ H, D.rt (.bl true) H) -> Sv (lawG b l H1) [.raw (.ref a), .bag, .no, .no, .no, .no] t { nx := fun _ => False, rt := fun _ d => d = .bool true } -> t D [some (.ref a), some (.ref b), none, none, none, none] H1 := fun t D d2 h => h _ _ _ D (law_wdS (m := 4) B1) (law_endsR d2)
 refine R.gname ?_
 dsimp only
 refine key _ _ (fun H => ?_) ?_
 ·exact q _
 clear key q
 walk_at "dt"
 intro A
 refine Sv.seq ?_
 refine Sv.forR1 ?_
 walk_at "dt"
 refine ⟨fun i ρ => ∃ (f : Bool) (x3 x4 : Sl) (ts : List (Int × Int × List Prs)), ρ = [.raw (.ref a), .bag, .own A f (ts.map fun t => netD t.1 t.2.1 t.2.2), x3, x4, .no] /\ ts.length = i /\ ∀ t ∈ ts, NtU t.1 t.2.1 t.2.2, ⟨_, _, _, [], rfl, rfl, (fun _ h => nomatch h)⟩, ?_, ?_⟩
 ·rintro i d ρ ⟨hi, rfl⟩ ⟨f, x3, x4, ts, rfl, htl, hts⟩
  have hi3 : i < 3 := hi
  have fin : ∀ p n cs, NtU p n cs -> (∀ t ∈ ts ++ [(p, n, cs)], NtU t.1 t.2.1 t.2.2) := fun p n cs h t ht => by
   rcases zq41x.mp ht with z | z
   ·exact hts t z
   ·rw [zq10x.mp z]; exact h
  have hlm : (ts.map fun t => netD t.1 t.2.1 t.2.2).length = ts.length := zq0x ..
  walk_at "dt"
  intro w w0 w1
  walk_at "dt"
  by_cases c : w = 1
  ·rw [decide_eq_true c]
   walk_at "dt"
   refine Ev.callB mono__law_wild_net rfl ?_
   refine Av.nil ⟨rfl, rfl, fun f2 p n cs h => ?_⟩
   exact ⟨by omega, _, _, _, ts ++ [(p, n, cs)], by rw [zq11x]; rfl, by simp [htl], fin p n cs h⟩
  ·rw [decide_eq_false c]
   walk_at "dt"
   refine Ev.callB mono__law_any_net rfl ?_
   refine Av.nil ⟨rfl, rfl, fun f2 p n cs h => ?_⟩
   exact ⟨by omega, _, _, _, ts ++ [(p, n, cs)], by rw [zq11x]; rfl, by simp [htl], fin p n cs h⟩
 rintro ρ ⟨f, x3, x4, ts, rfl, htl, hts⟩
 refine Sv.demote 2 rfl ?_
 have hlm : (ts.map fun t => netD t.1 t.2.1 t.2.2).length = 3 := by rw [zq0x]; exact htl
 refine Sv.seq ?_
 refine Sv.forL ?_
 walk_at "dt"
 rw [cut_take (by decide)]
 refine ⟨by rw [zq49x]; omega, _, rfl, fun v => ⟨fun i ρ => ∃ (f : Bool) (x2 x3 x4 x5 : Sl), ρ = [.raw (.ref a), .bag, x2, x3, x4, x5], ⟨f, _, _, _, _, rfl⟩, ?_, ?_⟩⟩
 ·rintro i d ρ hd ⟨f, x2, x3, x4, x5, rfl⟩
  have hm := zq27x hd
  obtain ⟨t, ht, rfl⟩ : ∃ t ∈ ts, d = netD t.1 t.2.1 t.2.2 := by
   rcases zq41x.mp hm with z | z
   ·obtain ⟨t, ht, rfl⟩ := zq21x.mp z
    exact ⟨t, ht, rfl⟩
   ·obtain ⟨t, ht, rfl⟩ := zq21x.mp (zq143x z)
    exact ⟨t, ht, rfl⟩
  refine Gv.nameF ?_
  walk_at "dt"
  refine Ev.callD mono__law_net_right ?_
  walk_at "dt"
  refine ⟨rfl, _, _, _, rfl, hts t ht, _, rfl, ?_⟩
  rw [if_neg (by decide)]
  exact Sv.next ⟨f, _, _, _, _, rfl⟩
 rintro ρ ⟨f, x2, x3, x4, x5, rfl⟩
 walk_at "dt"
 exact rfl
end
local macro_rules | `(tactic| walk_at "bn") => `(tactic| (intro _ _ _ _ _ _ us hl; first | (obtain ⟨_, h⟩ := ln1 hl; subst h; rfl) | (obtain ⟨_, _, h⟩ := ln2 hl; subst h; rfl) | (obtain ⟨_, _, _, h⟩ := ln3 hl; subst h; rfl) | (obtain ⟨_, _, _, _, h⟩ := ln4 hl; subst h; rfl) | (obtain ⟨_, _, _, _, _, h⟩ := ln5 hl; subst h; rfl) | (obtain ⟨_, _, _, _, _, _, h⟩ := ln6 hl; subst h; rfl) | (obtain ⟨_, _, _, _, _, _, _, h⟩ := ln7 hl; subst h; rfl)))
theorem all_mk {l : PySem.W.OpenLaw} {w : World} {K : PySem.W.Frag} {h : Heap} {mg : Str -> Option Value} {fa : Addr} {f0 f1 f2 f3 f4 f5 f6 f7 f8 f9 f10 f11 f12 f13 f14 f15 f16 f17 f18 f19 f20 f21 : Addr} (X : K.In h) (G : h.Ns mainGlobals mg) (hfa : mg "law" = some (.ref fa))
  {od21 an21 : Option Addr} {sl21 : Array (Option Value)} {oc21 kV21 dc21 pm21 cd21 ct21 : Value}
  (d0 : DfAt K "net_text" "net_text" sNetText f0)
  (d1 : DfAt K "pair_text" "pair_text" sPairText f1)
  (d2 : DfAt K "row_of" "row_of" sRowOf f2)
  (d3 : DfAt K "read_net" "read_net" sReadNet f3)
  (d4 : DfAt K "read_check" "read_check" sReadCheck f4)
  (d5 : DfAt K "read_pair" "read_pair" sReadPair f5)
  (d6 : DfAt K "numbers_of" "numbers_of" sNumbersOf f6)
  (d7 : DfAt K "parts_of" "parts_of" sPartsOf f7)
  (d8 : DfAt K "read_number" "read_number" sReadNumber f8)
  (d9 : DfAt K "read_whole" "read_whole" sReadWhole f9)
  (d10 : DfAt K "_law_bag" "_law_bag" sLawBag f10)
  (d11 : DfAt K "_law_stirred" "_law_stirred" sLawStirred f11)
  (d12 : DfAt K "_law_draw" "_law_draw" sLawDraw f12)
  (d13 : DfAt K "_law_alike" "_law_alike" sLawAlike f13)
  (d14 : DfAt K "_law_prime_from" "_law_prime_from" sLawPrimeFrom f14)
  (d15 : DfAt K "_law_prime" "_law_prime" sLawPrime f15)
  (d16 : DfAt K "_law_number" "_law_number" sLawNumber f16)
  (d17 : DfAt K "_law_any_net" "_law_any_net" sLawAnyNet f17)
  (d18 : DfAt K "_law_wild_net" "_law_wild_net" sLawWildNet f18)
  (d19 : DfAt K "_law_written" "_law_written" sLawWritten f19)
  (d20 : DfAt K "_law_net_right" "_law_net_right" sLawNetRight f20)
  (a21 : PySem.W.nsIn K mainGlobals "law" = some (some (.ref f21))) (l21 : K.lookup f21 = some ⟨oc21, od21, .func (PySem.W.fnOf "law" "law" (defArgs sLaw) (defBody sLaw) (defScope sLaw) .none kV21 dc21 pm21 an21 cd21 ct21), sl21⟩) (c21 : PySem.W.codeIn K cd21 "law" = true) (k21 : PySem.W.keepIn K (.ref f21) = true)
  (z_abs : PySem.W.nsIn K mainGlobals "abs" = some none)
  (z_all : PySem.W.nsIn K mainGlobals "all" = some none)
  (z_bool : PySem.W.nsIn K mainGlobals "bool" = some none)
  (z_int : PySem.W.nsIn K mainGlobals "int" = some none)
  (z_isinstance : PySem.W.nsIn K mainGlobals "isinstance" = some none)
  (z_len : PySem.W.nsIn K mainGlobals "len" = some none)
  (z_list : PySem.W.nsIn K mainGlobals "list" = some none)
  (z_range : PySem.W.nsIn K mainGlobals "range" = some none)
  (z_set : PySem.W.nsIn K mainGlobals "set" = some none)
  (z_sorted : PySem.W.nsIn K mainGlobals "sorted" = some none)
  (z_str : PySem.W.nsIn K mainGlobals "str" = some none)
  (z_tuple : PySem.W.nsIn K mainGlobals "tuple" = some none)
  {t_MOST_FIGURES : Tok} (y_MOST_FIGURES : PySem.W.nsIn K mainGlobals "MOST_FIGURES" = some (some (.int 60 t_MOST_FIGURES)))
  {t_FIGURES : Tok} (y_FIGURES : PySem.W.nsIn K mainGlobals "FIGURES" = some (some (.str "0123456789" t_FIGURES)))
  : ∃ fd : FuncData, (∀ (s : Shared) (v : Value), BindsTo s fd ⟨[v], []⟩ [("script", v)]) /\ ∀ base : Heap, K.In base -> base.Ns mainGlobals mg -> FnOk l.prog w K mg base CX0 7 fa fd ["script"] (spLaw K) := by
 have e := hfa.symm.trans (zq13x X G a21)
 cases e
 obtain ⟨a0, _, F0⟩ := d0
 have b0 := F0.binds (ps := ["net"]) (by walk_at "bn")
 obtain ⟨a1, _, F1⟩ := d1
 have b1 := F1.binds (ps := ["pair"]) (by walk_at "bn")
 obtain ⟨a2, _, F2⟩ := d2
 have b2 := F2.binds (ps := ["first", "others"]) (by walk_at "bn")
 obtain ⟨a3, _, F3⟩ := d3
 have b3 := F3.binds (ps := ["text"]) (by walk_at "bn")
 obtain ⟨a4, _, F4⟩ := d4
 have b4 := F4.binds (ps := ["row"]) (by walk_at "bn")
 obtain ⟨a5, _, F5⟩ := d5
 have b5 := F5.binds (ps := ["part"]) (by walk_at "bn")
 obtain ⟨a6, _, F6⟩ := d6
 have b6 := F6.binds (ps := ["row", "first"]) (by walk_at "bn")
 obtain ⟨a7, _, F7⟩ := d7
 have b7 := F7.binds (ps := ["row", "first"]) (by walk_at "bn")
 obtain ⟨a8, _, F8⟩ := d8
 have b8 := F8.binds (ps := ["text"]) (by walk_at "bn")
 obtain ⟨a9, _, F9⟩ := d9
 have b9 := F9.binds (ps := ["text", "most"]) (by walk_at "bn")
 obtain ⟨a10, _, F10⟩ := d10
 have b10 := F10.binds (ps := ["script"]) (by walk_at "bn")
 obtain ⟨a11, _, F11⟩ := d11
 have b11 := F11.binds (ps := ["bag", "many"]) (by walk_at "bn")
 obtain ⟨a12, _, F12⟩ := d12
 have b12 := F12.binds (ps := ["bag", "many"]) (by walk_at "bn")
 obtain ⟨a13, _, F13⟩ := d13
 have b13 := F13.binds (ps := ["found", "due"]) (by walk_at "bn")
 obtain ⟨a14, _, F14⟩ := d14
 have b14 := F14.binds (ps := ["number"]) (by walk_at "bn")
 obtain ⟨a15, _, F15⟩ := d15
 have b15 := F15.binds (ps := ["bag"]) (by walk_at "bn")
 obtain ⟨a16, _, F16⟩ := d16
 have b16 := F16.binds (ps := ["bag"]) (by walk_at "bn")
 obtain ⟨a17, _, F17⟩ := d17
 have b17 := F17.binds (ps := ["bag"]) (by walk_at "bn")
 obtain ⟨a18, _, F18⟩ := d18
 have b18 := F18.binds (ps := ["bag"]) (by walk_at "bn")
 obtain ⟨a19, _, F19⟩ := d19
 have b19 := F19.binds (ps := ["net"]) (by walk_at "bn")
 obtain ⟨a20, _, F20⟩ := d20
 have b20 := F20.binds (ps := ["net"]) (by walk_at "bn")
 have F21 := fun_mk (st := sLaw) l21 c21 k21
 have m_abs := zq45x X G z_abs
 have m_all := zq45x X G z_all
 have m_bool := zq45x X G z_bool
 have m_int := zq45x X G z_int
 have m_isinstance := zq45x X G z_isinstance
 have m_len := zq45x X G z_len
 have m_list := zq45x X G z_list
 have m_range := zq45x X G z_range
 have m_set := zq45x X G z_set
 have m_sorted := zq45x X G z_sorted
 have m_str := zq45x X G z_str
 have m_tuple := zq45x X G z_tuple
 have g_MOST_FIGURES := zq13x X G y_MOST_FIGURES
 have g_FIGURES := zq13x X G y_FIGURES
 refine ⟨PySem.W.fnOf "law" "law" (defArgs sLaw) (defBody sLaw) (defScope sLaw) .none kV21 dc21 pm21 an21 cd21 ct21, fun s v => .of_eq rfl, fun base _ _ => ?_⟩
 have C_row_of := Callee.mk' F2 (ok_row_of (P := l.prog) (w := w) (base := base) F2) b2 (zq13x X G a2)
 have C_pair_text := Callee.mk' F1 (ok_pair_text (P := l.prog) (w := w) (base := base) F1 m_str) b1 (zq13x X G a1)
 have C_net_text := Callee.mk' F0 (ok_net_text (P := l.prog) (w := w) (base := base) F0 C_row_of C_pair_text m_str) b0 (zq13x X G a0)
 have C_read_whole := Callee.mk' F9 (ok_read_whole (P := l.prog) (w := w) (base := base) F9 m_int m_len m_all g_FIGURES) b9 (zq13x X G a9)
 have C_read_number := Callee.mk' F8 (ok_read_number (P := l.prog) (w := w) (base := base) F8 C_read_whole g_MOST_FIGURES) b8 (zq13x X G a8)
 have C_parts_of := Callee.mk' F7 (ok_parts_of (P := l.prog) (w := w) (base := base) F7) b7 (zq13x X G a7)
 have C_numbers_of := Callee.mk' F6 (ok_numbers_of (P := l.prog) (w := w) (base := base) F6 C_read_number C_parts_of) b6 (zq13x X G a6)
 have C_read_pair := Callee.mk' F5 (ok_read_pair (P := l.prog) (w := w) (base := base) F5 C_read_number m_len) b5 (zq13x X G a5)
 have C_read_check := Callee.mk' F4 (ok_read_check (P := l.prog) (w := w) (base := base) F4 C_read_pair C_parts_of) b4 (zq13x X G a4)
 have C_read_net := Callee.mk' F3 (ok_read_net (P := l.prog) (w := w) (base := base) F3 C_numbers_of C_read_check m_len) b3 (zq13x X G a3)
 have C__law_bag := Callee.mk' F10 (ok__law_bag (P := l.prog) (w := w) (base := base) F10 m_abs) b10 (zq13x X G a10)
 have C__law_stirred := Callee.mk' F11 (ok__law_stirred (P := l.prog) (w := w) (base := base) F11 m_range) b11 (zq13x X G a11)
 have C__law_draw := Callee.mk' F12 (ok__law_draw (P := l.prog) (w := w) (base := base) F12 C__law_stirred m_len) b12 (zq13x X G a12)
 have C__law_alike_0 := Callee.void (P := l.prog) (w := w) (base := base) (k := 0) (sp := spD 2 (F__law_alike 0)) F13 b13 (zq13x X G a13) void__law_alike
 have C__law_alike_1 := Callee.mk' F13 (ok__law_alike (P := l.prog) (w := w) (base := base) 0 F13 C__law_alike_0 m_isinstance m_list m_tuple m_all m_len m_bool m_int m_str m_range) b13 (zq13x X G a13)
 have C__law_alike_2 := Callee.mk' F13 (ok__law_alike (P := l.prog) (w := w) (base := base) 1 F13 C__law_alike_1 m_isinstance m_list m_tuple m_all m_len m_bool m_int m_str m_range) b13 (zq13x X G a13)
 have C__law_alike_3 := Callee.mk' F13 (ok__law_alike (P := l.prog) (w := w) (base := base) 2 F13 C__law_alike_2 m_isinstance m_list m_tuple m_all m_len m_bool m_int m_str m_range) b13 (zq13x X G a13)
 have C__law_alike_4 := Callee.mk' F13 (ok__law_alike (P := l.prog) (w := w) (base := base) 3 F13 C__law_alike_3 m_isinstance m_list m_tuple m_all m_len m_bool m_int m_str m_range) b13 (zq13x X G a13)
 have C__law_alike_5 := Callee.mk' F13 (ok__law_alike (P := l.prog) (w := w) (base := base) 4 F13 C__law_alike_4 m_isinstance m_list m_tuple m_all m_len m_bool m_int m_str m_range) b13 (zq13x X G a13)
 have C__law_alike := C__law_alike_5
 have C__law_prime_from := Callee.mk' F14 (ok__law_prime_from (P := l.prog) (w := w) (base := base) F14 m_range) b14 (zq13x X G a14)
 have C__law_prime := Callee.mk' F15 (ok__law_prime (P := l.prog) (w := w) (base := base) F15 C__law_draw C__law_prime_from) b15 (zq13x X G a15)
 have C__law_number := Callee.mk' F16 (ok__law_number (P := l.prog) (w := w) (base := base) F16 C__law_draw) b16 (zq13x X G a16)
 have C__law_any_net := Callee.mk' F17 (ok__law_any_net (P := l.prog) (w := w) (base := base) F17 C__law_prime C__law_draw m_range m_sorted m_int m_set) b17 (zq13x X G a17)
 have C__law_wild_net := Callee.mk' F18 (ok__law_wild_net (P := l.prog) (w := w) (base := base) F18 C__law_draw C__law_number m_range) b18 (zq13x X G a18)
 have C__law_written := Callee.mk' F19 (ok__law_written (P := l.prog) (w := w) (base := base) F19 m_str) b19 (zq13x X G a19)
 have C__law_net_right := Callee.mk' F20 (ok__law_net_right (P := l.prog) (w := w) (base := base) F20 C_net_text C_read_net C__law_alike C__law_written m_list m_len) b20 (zq13x X G a20)
 exact ok_law F21 C__law_bag C__law_draw C__law_net_right C__law_wild_net C__law_any_net m_range
theorem walk {l : PySem.W.OpenLaw} {q : Program} {loose : List Str} {XP : (Str -> Option Value) -> Heap -> Prop} {YP : World -> Heap -> Prop} {d : DefRec} {K : Params -> PySem.W.Frag} (hn : l.most = some 63) (hdf : d.params.defaults = [])
  (hY : ∀ (w : World) (h : Heap), YP w h -> (K w.params).In h)
  (F : ∀ (w : World) (mg : Str -> Option Value) (fa : Addr) (h : Heap), (K w.params).In h -> h.Ns mainGlobals mg -> mg d.name = some (.ref fa) ->
   ∃ fd : FuncData, (∀ (s : Shared) (u : Value), BindsTo s fd ⟨[u], []⟩ [("script", u)]) /\ ∀ base : Heap, (K w.params).In base -> base.Ns mainGlobals mg -> FnOk l.prog w (K w.params) mg base CX0 7 fa fd ["script"] (spLaw (K w.params))) :
  PySem.W.WalkO q loose XP YP l.row.toRowW d [] (fun f vs => PySem.call f vs) :=
 L2.walk_of (n := 63) (k := 7) (x := "script") (CX := fun _ => CX0) (sp := fun w => spLaw (K w.params)) hn (by decide) hdf ⟨rfl, by decide, by decide⟩ hY F (fun _ _ a ns hl _ hS => ⟨a, ns, rfl, hS, hl, fun _ => rfl⟩) fun _ _ _ _ _ z => z
def view : Program := { PySem.Challenge.pw_fewchecks_k92_whole_net_texts with main := { PySem.Challenge.pw_fewchecks_k92_whole_net_texts.main with body := [top 1, top 2, top 4, top 5, top 6, top 7, top 8, top 9, top 10, top 11, top 12, top 13, top 14, top 15, top 17, top 18, top 19, top 20, top 21, top 22, top 23, top 24, top 25, top 26, top 27, top 28] } }
end K92
open PySem PySem.W PyProof.Rows
local macro_rules | `(tactic| o_head $H:term) => `(tactic|
 (refine holds_open (q := K92.view) (loose := [])
    (Xt := fun s => xlAt K92.view [] s && recOk [] s) (XP := XL K92.view []) (Yf := Hook.obs $H)
    (Ya := Hook.val $H) (YP := Hook.says $H) (N := 100000) ?hl (Hook.of $H)
    (Hook.keeps $H) (fun s e => xl_of s (zq182x.mp e).1) XL.keeps
    rfl rfl rfl (fun s e => recFacts_of (zq182x.mp e).2) rfl
    (by assumption) (by decide +kernel) ⟨rfl, rfl, rfl, rfl, rfl, by decide +kernel⟩ ?hw ?hc; (case hl => exact fun w => by kernel_rfl)))
set_option maxRecDepth 100000 in
set_option maxHeartbeats 0 in
theorem PySem.Challenge.cw_fewchecks_k92_whole_net_texts_holds : PySem.Challenge.rw_fewchecks_k92_whole_net_texts.Holds := by
 w_on
 refine holds_law said0 fun said => ?_
 k_head
 (case hw => w_witness2)
 k_fill
 refine K92.walk (l := PySem.Challenge.rw_fewchecks_k92_whole_net_texts) rfl rfl (fun w h Y => PySem.W.kIn_of Y) ?F
 case F =>
  intro w mg fa h KX G hmg
  refine' K92.all_mk KX G hmg ?d0 ?d1 ?d2 ?d3 ?d4 ?d5 ?d6 ?d7 ?d8 ?d9 ?d10 ?d11 ?d12 ?d13 ?d14 ?d15 ?d16 ?d17 ?d18 ?d19 ?d20 ?a21 ?l21 ?c21 ?k21 ?z_abs ?z_all ?z_bool ?z_int ?z_isinstance ?z_len ?z_list ?z_range ?z_set ?z_sorted ?z_str ?z_tuple ?y_MOST_FIGURES ?y_FIGURES
  (case d0 => refine' L2.DfAt.mk ?a ?l ?c ?k; (case a => k_is); (case l => k_is); (case c => k_is); (case k => k_is))
  (case d1 => refine' L2.DfAt.mk ?a ?l ?c ?k; (case a => k_is); (case l => k_is); (case c => k_is); (case k => k_is))
  (case d2 => refine' L2.DfAt.mk ?a ?l ?c ?k; (case a => k_is); (case l => k_is); (case c => k_is); (case k => k_is))
  (case d3 => refine' L2.DfAt.mk ?a ?l ?c ?k; (case a => k_is); (case l => k_is); (case c => k_is); (case k => k_is))
  (case d4 => refine' L2.DfAt.mk ?a ?l ?c ?k; (case a => k_is); (case l => k_is); (case c => k_is); (case k => k_is))
  (case d5 => refine' L2.DfAt.mk ?a ?l ?c ?k; (case a => k_is); (case l => k_is); (case c => k_is); (case k => k_is))
  (case d6 => refine' L2.DfAt.mk ?a ?l ?c ?k; (case a => k_is); (case l => k_is); (case c => k_is); (case k => k_is))
  (case d7 => refine' L2.DfAt.mk ?a ?l ?c ?k; (case a => k_is); (case l => k_is); (case c => k_is); (case k => k_is))
  (case d8 => refine' L2.DfAt.mk ?a ?l ?c ?k; (case a => k_is); (case l => k_is); (case c => k_is); (case k => k_is))
  (case d9 => refine' L2.DfAt.mk ?a ?l ?c ?k; (case a => k_is); (case l => k_is); (case c => k_is); (case k => k_is))
  (case d10 => refine' L2.DfAt.mk ?a ?l ?c ?k; (case a => k_is); (case l => k_is); (case c => k_is); (case k => k_is))
  (case d11 => refine' L2.DfAt.mk ?a ?l ?c ?k; (case a => k_is); (case l => k_is); (case c => k_is); (case k => k_is))
  (case d12 => refine' L2.DfAt.mk ?a ?l ?c ?k; (case a => k_is); (case l => k_is); (case c => k_is); (case k => k_is))
  (case d13 => refine' L2.DfAt.mk ?a ?l ?c ?k; (case a => k_is); (case l => k_is); (case c => k_is); (case k => k_is))
  (case d14 => refine' L2.DfAt.mk ?a ?l ?c ?k; (case a => k_is); (case l => k_is); (case c => k_is); (case k => k_is))
  (case d15 => refine' L2.DfAt.mk ?a ?l ?c ?k; (case a => k_is); (case l => k_is); (case c => k_is); (case k => k_is))
  (case d16 => refine' L2.DfAt.mk ?a ?l ?c ?k; (case a => k_is); (case l => k_is); (case c => k_is); (case k => k_is))
  (case d17 => refine' L2.DfAt.mk ?a ?l ?c ?k; (case a => k_is); (case l => k_is); (case c => k_is); (case k => k_is))
  (case d18 => refine' L2.DfAt.mk ?a ?l ?c ?k; (case a => k_is); (case l => k_is); (case c => k_is); (case k => k_is))
  (case d19 => refine' L2.DfAt.mk ?a ?l ?c ?k; (case a => k_is); (case l => k_is); (case c => k_is); (case k => k_is))
  (case d20 => refine' L2.DfAt.mk ?a ?l ?c ?k; (case a => k_is); (case l => k_is); (case c => k_is); (case k => k_is))
  (case a21 => k_is)
  (case l21 => k_is)
  (case c21 => k_is)
  (case k21 => k_is)
  (case z_abs => k_is)
  (case z_all => k_is)
  (case z_bool => k_is)
  (case z_int => k_is)
  (case z_isinstance => k_is)
  (case z_len => k_is)
  (case z_list => k_is)
  (case z_range => k_is)
  (case z_set => k_is)
  (case z_sorted => k_is)
  (case z_str => k_is)
  (case z_tuple => k_is)
  (case y_MOST_FIGURES => k_is)
  (case y_FIGURES => k_is)
