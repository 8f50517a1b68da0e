/-
  prec: the map of operators, exactly; the package's table.
-/
import Derived.Test.YtimhhdikdinhjaaDoorPrSpec
import Derived.Test.YtimhhdikdinhjaaDoorLaw
import Derived.Test.YtimhhdikdinhjaaDoorSeqAll
import Derived.Test.YtimhhdikdinhjaaDoorRegionInv
import Derived.Deep.MidRow
import Derived.Maps.Own
import Derived.Maps.OwnIn
import Derived.StringKeys
namespace Go.Proofs.YtimhhdikdinhjaaDoor.pr
open Go.RowKit sx
open Go.Maps (Keyed string_keyed)
set_option linter.unusedVariables false

def gv (p : Int × Int) : Value := .agg #[.int .i64 p.1, .int .i64 p.2]
abbrev encO (o : Op) : Array Value := #[.string o.1, .agg #[.int .i64 o.2.1, .int .i64 o.2.2]]
def ent (e : MapEntry) : Value × Value := (e.key, e.val)
/-- The map in block b holds these operators, as they came. -/
def TabAt (W : World) (b : Nat) (l : List Op) : Prop :=
  ∃ es clock, W.heap[b]? = some (.map es clock) ∧ es.toList.map ent = l.map fun o => (Value.string o.1, gv o.2)
theorem TabAt.lt {W : World} {b : Nat} {l : List Op} (h : TabAt W b l) : b < W.heap.size := by
  obtain ⟨es, clock, h1, _⟩ := h
  exact (Array.getElem?_eq_some_iff.1 h1).1
theorem TabAt.own {W W' : World} {b : Nat} {l : List Op} (h : TabAt W b l) (hb : Below W.heap.size W W') : TabAt W' b l := by
  obtain ⟨es, clock, h1, h2⟩ := h
  exact ⟨es, clock, (hb.block b (Array.getElem?_eq_some_iff.1 h1).1).trans h1, h2⟩
theorem TabAt.grown {W W' : World} {b : Nat} {l : List Op} {row : Option Nat} (h : TabAt W b l) (hg : W.grownBy W' row) (hne : some b ≠ row) : TabAt W' b l := by
  obtain ⟨es, clock, h1, h2⟩ := h
  exact ⟨es, clock, (hg.block b (Array.getElem?_eq_some_iff.1 h1).1 hne).trans h1, h2⟩
theorem tab_new (W : World) : TabAt (W.alloc (.map #[] 0)) W.heap.size [] := ⟨#[], 0, World.alloc_heap_new W _, rfl⟩
theorem txt_keyed : Keyed Tryd.prog 9 := string_keyed Tryd.underlying9
theorem txt_key {s : ByteArray} (hs : s.size ≤ maxLen) : keyOf Tryd.prog 9 (.string s) = some (.string s.data.toList) := WideMaps.keyOf_string_mk Tryd.underlying9 hs
theorem ops_small : ∀ o ∈ opsP, o.1.size ≤ 3 := by decide +kernel
theorem ent_mem {es : List MapEntry} {l : List Op} (h : es.map ent = l.map fun o => (Value.string o.1, gv o.2)) {e : MapEntry} (he : e ∈ es) : ∃ o ∈ l, e.key = .string o.1 ∧ e.val = gv o.2 := by
  have h1 : ent e ∈ es.map ent := List.mem_map.2 ⟨e, he, rfl⟩
  rw [h] at h1
  obtain ⟨o, ho, h2⟩ := List.mem_map.1 h1
  simp only [ent, Prod.mk.injEq] at h2
  exact ⟨o, ho, h2.1.symm, h2.2.symm⟩
theorem mem_ent {es : List MapEntry} {l : List Op} (h : es.map ent = l.map fun o => (Value.string o.1, gv o.2)) {o : Op} (ho : o ∈ l) : ∃ e ∈ es, e.key = .string o.1 := by
  have h1 : (Value.string o.1, gv o.2) ∈ l.map fun o => (Value.string o.1, gv o.2) := List.mem_map.2 ⟨o, ho, rfl⟩
  rw [← h] at h1
  obtain ⟨e, he, h2⟩ := List.mem_map.1 h1
  simp only [ent, Prod.mk.injEq] at h2
  exact ⟨e, he, h2.1⟩
theorem zero_grade : ∀ w, (zeroValue 40).run Tryd.prog w = .ok (.agg #[.int .i64 0, .int .i64 0]) w := by
  intro w; kernel_rfl
theorem ent_keys {es : List MapEntry} {l : List Op} (h : es.map ent = l.map fun o => (Value.string o.1, gv o.2)) (hl : ∀ o ∈ l, o.1.size ≤ 3) : ∀ e ∈ es, ∃ k, keyOf Tryd.prog 9 e.key = some k := by
  intro e he
  obtain ⟨o, ho, hk, _⟩ := ent_mem h he
  rw [hk]
  exact ⟨_, txt_key (by have := hl o ho; unfold maxLen; omega)⟩
def gradeV (s : ByteArray) : Value := gv ((gradeOf s).getD (0, 0))
theorem TabAt.look {W : World} {b : Nat} (h : TabAt W b opsP) {s : ByteArray} (hs : s.size ≤ maxLen) (ok : Bool) :
    (Instr.lookup 41 (.map (some b)) (.string s) ok).run Tryd.prog W = .ok (if ok then .tuple #[gradeV s, .bool (isOp s)] else gradeV s) W := by
  obtain ⟨es, clock, h1, h2⟩ := h
  have hu : Tryd.prog.underlying 41 = some (.map 9 40) := Tryd.underlying41
  have hl := txt_key hs
  rcases txt_keyed.find W hl es.toList (ent_keys h2 ops_small) with ⟨h3, h4⟩ | ⟨j, e0, h3, h4, h5⟩
  · have hg : gradeOf s = none := by
      cases hg : gradeOf s with
      | none => rfl
      | some p =>
        obtain ⟨e, he, hk⟩ := mem_ent h2 (grade_mem hg)
        exact absurd hk (h4 e he)
    have e1 : gradeV s = .agg #[.int .i64 0, .int .i64 0] := by unfold gradeV; rw [hg]; rfl
    have e2 : isOp s = false := by unfold isOp; rw [hg]; rfl
    cases ok <;> simp [Instr.lookup, run_underlying hu, MapKept.run_getObj_map h1, txt_keyed.check W _ hl, h3, Result.andThen, e1, e2]
  · obtain ⟨o, ho, hk, hv⟩ := ent_mem h2 (List.mem_of_getElem? h4)
    rw [hk] at h5
    injection h5 with h5
    have hg := grade_of ho
    rw [h5] at hg
    have e1 : gradeV s = gv o.2 := by unfold gradeV; rw [hg]; rfl
    have e2 : isOp s = true := by unfold isOp; rw [hg]; rfl
    cases ok <;> simp [Instr.lookup, run_underlying hu, MapKept.run_getObj_map h1, txt_keyed.check W _ hl, h3, hv, Result.andThen, e1, e2]
theorem TabAt.put {W : World} {b : Nat} {l : List Op} (h : TabAt W b l) {o : Op} (hl : ∀ x ∈ l, x.1.size ≤ 3) (ho : o.1.size ≤ 3) (hne : ∀ x ∈ l, x.1 ≠ o.1) :
    ∃ W', (Instr.mapUpdate 41 (.map (some b)) (.string o.1) (.agg #[.int .i64 o.2.1, .int .i64 o.2.2])).run Tryd.prog W = .ok () W' ∧ TabAt W' b (l ++ [o]) ∧ W.grownBy W' (some b) := by
  obtain ⟨es, clock, h1, h2⟩ := h
  have hu : Tryd.prog.underlying 41 = some (.map 9 40) := Tryd.underlying41
  have hk := txt_key (s := o.1) (by unfold maxLen; omega)
  have hlt := (Array.getElem?_eq_some_iff.1 h1).1
  rcases txt_keyed.find W hk es.toList (ent_keys h2 hl) with ⟨h3, h4⟩ | ⟨j, e0, h3, h4, h5⟩
  · have hrun : (Instr.mapUpdate 41 (.map (some b)) (.string o.1) (.agg #[.int .i64 o.2.1, .int .i64 o.2.2])).run Tryd.prog W = .ok () { W with heap := W.heap.setIfInBounds b (.map (es.push { key := .string o.1, val := .agg #[.int .i64 o.2.1, .int .i64 o.2.2], born := clock }) (clock + 1)) } := by
      simp [Instr.mapUpdate, run_underlying hu, MapKept.run_getObj_map h1, txt_keyed.check W _ hk, h3, MapKept.run_setObj_map _ h1, Result.andThen]
    refine ⟨_, hrun, ⟨es.push { key := .string o.1, val := .agg #[.int .i64 o.2.1, .int .i64 o.2.2], born := clock }, clock + 1, ?_, ?_⟩, ⟨rfl, rfl, rfl, by simp, fun i _ hi => ?_⟩⟩
    · show (W.heap.setIfInBounds b _)[b]? = _
      rw [Array.getElem?_setIfInBounds_self_of_lt hlt]
    · rw [Array.toList_push, List.map_append, List.map_append, h2]; rfl
    · show (W.heap.setIfInBounds b _)[i]? = _
      rw [Array.getElem?_setIfInBounds_ne (fun e => hi (by rw [e]))]
  · obtain ⟨x, hx, hk2, _⟩ := ent_mem h2 (List.mem_of_getElem? h4)
    rw [hk2] at h5
    injection h5 with h5
    exact absurd h5 (hne x hx)

/-! ### the package's table -/
def G : Nat := 0
structure LevAt (W : World) (T : List Value) (m : Nat) : Prop where
  side : T[m * 2]? = some (.int .i64 (sideM m))
  row : ∃ g o c, T[m * 2 + 1]? = some (.slice (some ⟨g, o, none⟩) (cnt m) c) ∧ g < W.heap.size ∧ ∀ k, k < cnt m → W.cell? ⟨g, o + k, none⟩ = some (.string (txt (strt m + k)))
def LvAt (W : World) : Prop := 0 < W.heap.size ∧ ∃ T : List Value, T.length = 18 ∧ W.rangeAt 0 0 T ∧ ∀ m, m < 9 → LevAt W T m
theorem LevAt.own {n : Nat} {W W' : World} {T : List Value} {m : Nat} (h : LevAt W T m) (hb : Below W.heap.size W W') : LevAt W' T m := by
  obtain ⟨g, o, c, h1, h2, h3⟩ := h.row
  exact ⟨h.side, g, o, c, h1, Nat.lt_of_lt_of_le h2 hb.size, fun k hk => (hb.cell (p := ⟨g, o + k, none⟩) h2).trans (h3 k hk)⟩
theorem LvAt.own {W W' : World} (h : LvAt W) (hb : Below W.heap.size W W') : LvAt W' := by
  obtain ⟨h0, T, h1, h2, h3⟩ := h
  exact ⟨Nat.lt_of_lt_of_le h0 hb.size, T, h1, fun j v hj => (hb.cell (p := ⟨0, 0 + j, none⟩) h0).trans (h2 j v hj), fun m hm => (h3 m hm).own (n := 0) hb⟩
theorem run_level {T : Array Value} {m : Nat} {a b : Value} (hm : m < 9) (hz : T.size = 18) (ha : T[m * 2]? = some a) (hb : T[m * 2 + 1]? = some b) (w : World) :
    (Instr.index 48 (.agg T) (.int .i64 (m : Int))).run Tryd.prog w = .ok (.agg #[a, b]) w := by
  have hi := run_underlying Tryd.underlying48
  have e0 : ¬ ((m : Int) < 0) := by omega
  have e1 : (m : Int) < 9 := by omega
  have e2 : T.extract (m * 2) (m * 2 + 2) = #[a, b] := by
    apply Array.ext_getElem?
    intro i
    rw [Array.getElem?_extract]
    match i with
    | 0 => rw [if_pos (by omega), Nat.add_zero, ha]; rfl
    | 1 => rw [if_pos (by omega), hb]; rfl
    | i + 2 => rw [if_neg (by omega)]; simp
  simp [Instr.index, hi, asIntOf, part, go_sem, hm, e2]
end Go.Proofs.YtimhhdikdinhjaaDoor.pr
