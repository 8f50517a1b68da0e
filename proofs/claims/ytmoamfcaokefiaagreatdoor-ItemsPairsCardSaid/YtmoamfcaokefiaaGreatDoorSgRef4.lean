/-
  subeditorref03: Key, Plain, Opers, Oper: their contracts.
-/
import Derived.Deep.QuietTactic
import Derived.BigQuiet
import Derived.Test.YtmoamfcaokefiaaGreatDoorSgRef2
import Derived.Test.YtmoamfcaokefiaaGreatDoorSgOper
namespace Go.Proofs.YtmoamfcaokefiaaGreatDoor.sg
open Go.RowKit Go.Shelf
set_option linter.unusedVariables false

def keyCells : Array Value := #[.string ⟨#[97, 110, 100]⟩, .string ⟨#[97, 115]⟩, .string ⟨#[98, 114, 101, 97, 107]⟩, .string ⟨#[99, 97, 116, 99, 104]⟩, .string ⟨#[100, 101, 102]⟩, .string ⟨#[101, 108, 105, 102]⟩, .string ⟨#[101, 108, 115, 101]⟩, .string ⟨#[101, 110, 100]⟩, .string ⟨#[102, 111, 114, 101, 97, 99, 104]⟩, .string ⟨#[105, 102]⟩, .string ⟨#[105, 109, 112, 111, 114, 116]⟩, .string ⟨#[105, 110, 99, 108, 117, 100, 101]⟩, .string ⟨#[108, 97, 98, 101, 108]⟩, .string ⟨#[109, 111, 100, 117, 108, 101]⟩, .string ⟨#[111, 114]⟩, .string ⟨#[114, 101, 100, 117, 99, 101]⟩, .string ⟨#[116, 104, 101, 110]⟩, .string ⟨#[116, 114, 121]⟩]
def keyB (k : Nat) : ByteArray := ⟨(Sg.keys.getD k []).toArray⟩
theorem keyB_data (k : Nat) : (keyB k).data.toList = Sg.keys.getD k [] := by simp [keyB]
theorem key_at (k : Nat) (h : k < 18) : keyCells[k]? = some (.string (keyB k)) := by
  have e : keyCells = (Sg.keys.map fun l => Value.string ⟨l.toArray⟩).toArray := rfl
  have hl : Sg.keys.length = 18 := rfl
  rw [e]
  simp [keyB, List.getD, h, hl]

theorem key_yes {l : List UInt8} {k : Nat} (h : k < 18) (e : Sg.keys.getD k [] = l) : Sg.key l = true := by
  unfold Sg.key
  rw [List.contains_iff_mem, ← e]
  have hl : k < Sg.keys.length := h
  rw [List.getD, List.getElem?_eq_getElem hl]
  exact List.getElem_mem hl
theorem key_no {l : List UInt8} (h : ∀ j, j < 18 → Sg.keys.getD j [] ≠ l) : Sg.key l = false := by
  unfold Sg.key
  rw [Bool.eq_false_iff]
  intro hc
  rw [List.contains_iff_mem] at hc
  obtain ⟨j, hj, e⟩ := List.getElem_of_mem hc
  exact h j hj (by rw [List.getD, List.getElem?_eq_getElem hj]; exact e)



theorem cells_new (w : World) (cs : Array Value) (t : TypeId) (k : Nat) : (w.alloc (.cells cs t)).cell? ⟨w.heap.size, k, none⟩ = cs[k]? :=
  cell_of_row _ _ _ _ t (0, 0) (World.alloc_heap_new w _)
/-! Operators. -/
set_option maxRecDepth 100000 in
set_option maxHeartbeats 2000000 in
theorem ropers_calls (w : World) : Calls Tryz.prog 90 #[] w fun e w' => e = .returned (.slice (some ⟨w.heap.size, 0, none⟩) 34 34) ∧ w' = w.alloc (.cells opsL.toArray 9) := by
  go_enter Tryz.func90, Tryz.ntmps90
  go_wp2_with fail
  go_ret
  exact ⟨rfl, rfl⟩

theorem oper_yes {l : List UInt8} {k : Nat} (hk : k < 34) (hno : ∀ j, j < k → Lib.hasPrefix l (Sg.opers.getD j []) = false) (h : Lib.hasPrefix l (Sg.opers.getD k []) = true) : Sg.oper l = (Sg.opers.getD k []).length := by
  have hl : k < Sg.opers.length := hk
  refine oper_find (ini := Sg.opers.take k) (x := Sg.opers.getD k []) ?_ ?_ h
  · rw [← take_snoc_op hl]; exact List.take_prefix _ _
  · intro y hy
    obtain ⟨j, hj, e⟩ := List.getElem_of_mem hy
    rw [List.length_take] at hj
    have := hno j (by omega)
    rw [List.getElem_take] at e
    rw [List.getD, List.getElem?_eq_getElem (by omega)] at this
    rw [← e]; exact this
where
  take_snoc_op {k : Nat} (hl : k < Sg.opers.length) : Sg.opers.take (k + 1) = Sg.opers.take k ++ [Sg.opers.getD k []] := by
    rw [List.take_succ_eq_append_getElem hl]
    simp [List.getD, hl]
theorem oper_no {l : List UInt8} (hno : ∀ j, j < 34 → Lib.hasPrefix l (Sg.opers.getD j []) = false) : Sg.oper l = 0 := by
  refine oper_none fun y hy => ?_
  obtain ⟨j, hj, e⟩ := List.getElem_of_mem hy
  have := hno j hj
  rw [List.getD, List.getElem?_eq_getElem hj] at this
  rw [← e]; exact this

def opB (m : Nat) : ByteArray := ⟨(Sg.opers.getD m []).toArray⟩
theorem opB_data (m : Nat) : (opB m).data.toList = Sg.opers.getD m [] := by simp [opB]
theorem opB_size (m : Nat) : (opB m).size = (Sg.opers.getD m []).length := by rw [← lst_len, opB_data]
theorem op_len : ∀ o ∈ Sg.opers, o.length ≤ 3 := by decide
theorem opB_small {m : Nat} (h : m < 34) : (opB m).size ≤ 3 := by
  rw [opB_size]
  have hl : m < Sg.opers.length := h
  rw [List.getD, List.getElem?_eq_getElem hl]
  exact op_len _ (List.getElem_mem hl)
theorem pre_beq (s o : ByteArray) (h : o.size ≤ s.size) : ((s.extract 0 o.size).toList == o.toList) = Lib.hasPrefix s.data.toList o.data.toList := by
  rw [Lib.toList_data, Lib.toList_data, Lib.extract_data, List.drop_zero, Nat.sub_zero, ← Lib.hasPrefix_of_take, lst_len, lst_len, decide_eq_true h, Bool.true_and, Bool.eq_iff_iff, beq_iff_eq]
theorem pre_short (s o : ByteArray) (h : ¬ o.size ≤ s.size) : Lib.hasPrefix s.data.toList o.data.toList = false := by
  rw [← Lib.hasPrefix_of_take, lst_len, lst_len, decide_eq_false h, Bool.false_and]

set_option maxRecDepth 100000 in
set_option maxHeartbeats 4000000 in
theorem roper_calls (s : ByteArray) (hs : s.size ≤ 140737488351232) (w : World) :
    Calls Tryz.prog 78 #[.string s] w fun e w' => e = .returned (.int .i64 (Sg.oper s.data.toList : Nat)) ∧ Below w.heap.size w w' := by
  go_enter Tryz.func78, Tryz.ntmps78
  go_wp2_with fail
  ((with_reducible refine (ropers_calls _).mono ?_); rintro e w1 ⟨rfl, rfl⟩)
  have hb0 : Below w.heap.size w (w.alloc (.cells opsL.toArray 9)) := (Below.refl _ w).alloc (Nat.le_refl _) _
  have hcells : ∀ m, m < 34 → (w.alloc (.cells opsL.toArray 9)).cell? ⟨w.heap.size, m, none⟩ = some (.string (opB m)) := fun m hm => by rw [cells_new]; exact opsL_at hm
  obtain ⟨W, hW⟩ : ∃ W, w.alloc (.cells opsL.toArray 9) = W := ⟨_, rfl⟩
  rw [hW] at hb0 hcells ⊢
  clear hW
  have HB := Lib.hid hb0; have HC := Lib.hid hcells
  clear hb0 hcells
  go_wp2_with fail
  go_loopw [4] (fun i wr => ∃ k nq : Nat, i = .int .i64 (k : Int) ∧ k ≤ 34 ∧ (∀ j, j < k → Lib.hasPrefix s.data.toList (Sg.opers.getD j []) = false) ∧ wr = W.drewN nq) (fun i _ => 34 - (intOf i).toNat)
  case atStart => exact ⟨0, 0, rfl, by omega, fun j hj => absurd hj (Nat.not_lt_zero j), rfl⟩
  case round =>
    obtain ⟨k, nq, rfl, hk, hno, rfl⟩ := hrel
    have HB2 := Lib.hid (show ∀ q, Below w.heap.size w (W.drewN q) from fun q => HB.out.trans ⟨rfl, rfl, rfl, Nat.le_refl _, fun _ _ => rfl⟩)
    by_cases h : k < 34
    · have hcell := HC.out k h
      have hsm := opB_small h
      have hbd := opB_data k
      have HX := Lib.hid (fun (hp : Lib.hasPrefix s.data.toList (Sg.opers.getD k []) = true) => oper_yes h hno hp)
      have HN := Lib.hid (fun (e : Lib.hasPrefix s.data.toList (Sg.opers.getD k []) = false) => show ∀ j, j < k + 1 → Lib.hasPrefix s.data.toList (Sg.opers.getD j []) = false from fun j hj => by
          rcases Nat.lt_or_ge j k with h' | h'
          · exact hno j h'
          · obtain rfl : j = k := by omega
            exact e)
      rw [← hbd] at HX HN
      obtain ⟨o, ho⟩ : ∃ o, opB k = o := ⟨_, rfl⟩
      rw [ho] at hcell hsm HX HN
      have hcell2 : (W.drewN nq).cell? ⟨w.heap.size, k, none⟩ = some (.string o) := hcell
      have g0 : (0 : Int) ≤ (k : Int) := by omega
      have g1 : (k : Int) < 34 := by omega
      clear hno hbd ho
      by_cases hle : o.size ≤ s.size
      · have hpb := pre_beq s o hle
        have t1 : decide ((o.size : Int) ≤ (s.size : Int)) = true := decide_eq_true (by omega)
        have g2 : (o.size : Int) ≤ (s.size : Int) := by omega
        have t1n : decide (o.size ≤ s.size) = true := decide_eq_true hle
        cases hp : Lib.hasPrefix s.data.toList o.data.toList with
        | true =>
          have HV := Lib.hid (HX.out hp)
          rw [hp] at hpb
          clear hp
          have HL := Lib.hid (lst_len o)
          go_wp2_with fail
          go_quiet (fail)
          rename_i nq2
          rw [World.drewN_drewN]
          go_wp2_with fail
          go_ret
          exact ⟨by rw [HV.out, HL.out]; rfl, HB2.out _⟩
        | false =>
          have HN2 := Lib.hid (HN.out hp)
          rw [hp] at hpb
          clear hp
          go_wp2_with fail
          go_quiet (fail)
          rename_i nq2
          rw [World.drewN_drewN]
          go_wp2_with fail
          go_roundw
          case rel => exact ⟨k + 1, _, by go_num, by omega, HN2.out, rfl⟩
          case measure => simp [intOf]; omega
      · have HN2 := Lib.hid (HN.out (pre_short s o hle))
        have t1 : decide ((o.size : Int) ≤ (s.size : Int)) = false := decide_eq_false (by omega)
        have t1n : decide (o.size ≤ s.size) = false := decide_eq_false hle
        clear hle
        go_wp2_with fail
        go_quiet (fail)
        rename_i nq2
        rw [World.drewN_drewN]
        go_wp2_with fail
        go_roundw
        case rel => exact ⟨k + 1, _, by go_num, by omega, HN2.out, rfl⟩
        case measure => simp [intOf]; omega
    · have hk34 : k = 34 := by omega
      subst hk34
      have HV := Lib.hid (oper_no hno)
      clear hno
      go_wp2_with fail
      go_ret
      exact ⟨by rw [HV.out]; rfl, HB2.out _⟩
end Go.Proofs.YtmoamfcaokefiaaGreatDoor.sg
