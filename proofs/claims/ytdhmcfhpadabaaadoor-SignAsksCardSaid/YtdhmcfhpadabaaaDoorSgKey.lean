/-
  sign: keys (a map that is made), Key, Plain: their contracts.
-/
import Derived.Maps.OwnSet
import Derived.StringKeys
import Derived.Test.YtdhmcfhpadabaaaDoorSgFns3
namespace Go.Proofs.YtdhmcfhpadabaaaDoor.sg
open Go.RowKit Go.Shelf Go.Maps Go.ChangeMaps Go.WideShapes Go.WideMaps
set_option linter.unusedVariables false

theorem klaw : Keyed Tryd.prog 9 := string_keyed Tryd.underlying9
theorem kzero (w : World) : (zeroValue 46).run Tryd.prog w = .ok (.agg #[]) w := by kernel_rfl

/-- The set that is being made: block, list of keys. -/
def SetAt (w0 : World) (acc : List Lit) (n : Nat) (w : World) : Prop :=
  w.ownsMap Tryd.prog 9 (unitElem (H := Unit)) w0.heap.size n (setOf (.agg []) acc) ∧ Below w0.heap.size w0 w
theorem SetAt.start (w : World) : SetAt w [] 0 (w.alloc (.map #[] 0)) := ⟨World.ownsMap_made _ _ _ _, (Below.refl _ w).alloc (Nat.le_refl _) _⟩

theorem wpList_insert_set (w0 w : World) {ops : Array Oper} {rest : List Oper} {o : Oper} {a : Act} {Q : Exit → Act → World → Prop} (acc : List Lit) (n : Nat)
    (hg : o.guard = none) (m x v : Operand) (hop : o.op = Op.insert 48 m x v) (hm : a.eval m = .map (some w0.heap.size)) (h : SetAt w0 acc n w) (hn : n < 1000) (s : ByteArray) (hs : s.size ≤ maxLen)
    (hx : a.eval x = .string s) (hv : a.eval v = .agg #[])
    (hK : ∀ w', SetAt w0 (acc ++ [.string s.data.toList]) (n + 1) w' → wpList Tryd.prog ops Q rest (a.put o.dst undef) w') :
    wpList Tryd.prog ops Q (o :: rest) a w := by
  refine wpList_plain hg fun K' hK' => ?_
  obtain ⟨w', hrun, r1, r2⟩ := h.1.update klaw Tryd.underlying48 (by unfold maxLen; omega) (keyOf_string_mk Tryd.underlying9 hs) (unitElem_mk (H := Unit))
  unfold Oper.wp
  simp [execOp, hop, hm, hx, hv, hrun, Result.andThen]
  refine hK' _ _ (hK w' ⟨?_, h.2.grown r2 h.2.size (fun j hj => by cases hj; exact Nat.le_refl _)⟩)
  rw [setOf_snoc]; exact r1

def keyLits : List Lit := Sg.keys.map (fun k => Lit.string k)

set_option maxRecDepth 100000 in
set_option maxHeartbeats 4000000 in
theorem keys_calls (w : World) : Calls Tryd.prog 42 #[] w fun e w' => e = .returned (.map (some w.heap.size)) ∧ SetAt w keyLits 18 w' := by
  have hst := SetAt.start w
  have hmm := @run_makeMap Tryd.prog
  go_enter Tryd.func42, Tryd.ntmps42
  go_wp2_with (refine wpList_insert_set w _ _ _ rfl _ _ _ rfl rfl (by assumption) (by decide) _ (by decide) rfl rfl ?_; intro w1 hown1)
  go_ret
  exact ⟨rfl, by assumption⟩

theorem sameKey_string (a b : List UInt8) : (Lit.string a).sameKey (.string b) = decide (a = b) := by
  rw [Bool.eq_iff_iff]; simp [Lit.sameKey]

theorem has_keys (l : List UInt8) : has (setOf (H := Unit) (.agg []) keyLits) (.string l) = Sg.key l := by
  rw [has_setOf _ _ _ (by intro x hx; obtain ⟨k, _, rfl⟩ := List.mem_map.1 hx; trivial)]
  unfold keyLits Sg.key
  rw [List.any_map]
  rw [Bool.eq_iff_iff, List.any_eq_true, List.contains_iff_mem]
  constructor
  · rintro ⟨x, hx, h⟩
    simp only [Function.comp, sameKey_string, decide_eq_true_eq] at h
    subst h; exact hx
  · intro h
    exact ⟨l, h, by simp only [Function.comp, sameKey_string, decide_true]⟩

set_option maxRecDepth 100000 in
set_option maxHeartbeats 2000000 in
theorem key_calls (s : ByteArray) (hs : s.size ≤ 140737488351232) (w : World) :
    Calls Tryd.prog 24 #[.string s] w fun e w' => e = .returned (.bool (Sg.key s.data.toList)) ∧ Below w.heap.size w w' := by
  have hk := has_keys s.data.toList
  have HK := Lib.hid hk
  clear hk
  go_enter Tryd.func24, Tryd.ntmps24
  go_wp2_with fail
  ((with_reducible refine (keys_calls _).mono ?_); rintro e w1 ⟨rfl, hset⟩)
  go_wp2_with (first | (at_lookup; refine wpList_lookup_own_unit _ rfl _ _ 48 rfl 9 46 klaw Tryd.underlying48 (kzero _) w.heap.size 18 _ rfl hset.1 _ _ rfl (keyOf_string_mk Tryd.underlying9 (by unfold maxLen; omega)) ?_) | fail)
  go_ret
  exact ⟨by rw [← HK.out]; rfl, hset.2.alloc hset.2.size _⟩

theorem isEmpty_data (s : ByteArray) : s.toList.isEmpty = s.data.toList.isEmpty := by rw [Lib.toList_data]

set_option maxRecDepth 100000 in
set_option maxHeartbeats 2000000 in
theorem plain_calls (s : ByteArray) (hs : s.size ≤ 140737488351232) (w : World) :
    Calls Tryd.prog 23 #[.string s] w fun e w' => e = .returned (.bool (Sg.plain s.data.toList)) ∧ Below w.heap.size w w' := by
  rcases Nat.eq_zero_or_pos s.size with h0 | h0
  · obtain rfl : s = ⟨#[]⟩ := by
      have hl : s.data.toList = [] := List.length_eq_zero_iff.1 (by rw [lst_len]; exact h0)
      cases s; simp at hl; subst hl; rfl
    go_enter Tryd.func23, Tryd.ntmps23
    go_wp2_with fail
    go_ret
    exact ⟨rfl, Below.refl _ _⟩
  · have hne : s.toList.isEmpty = false := by
      rw [isEmpty_data]
      cases hl : s.data.toList with
      | nil => rw [← lst_len, hl] at h0; exact absurd h0 (by decide)
      | cons a r => rfl
    have hsm := simple_calls s hs
    have hk := key_calls s hs
    have HP := Lib.hid (show Sg.plain s.data.toList = (decide (Sg.simple s.data.toList = s.size) && !Sg.key s.data.toList) from by
      unfold Sg.plain; rw [← isEmpty_data, hne, lst_len]; rfl)
    obtain ⟨k, hk0⟩ : ∃ k, Sg.simple s.data.toList = k := ⟨_, rfl⟩
    obtain ⟨q, hq⟩ : ∃ q, Sg.key s.data.toList = q := ⟨_, rfl⟩
    simp only [hk0] at hsm
    simp only [hq] at hk
    rw [hk0, hq] at HP
    clear hk0 hq
    by_cases he : k = s.size
    · have HX := Lib.hid (show Sg.plain s.data.toList = !q from by rw [HP.out, decide_eq_true he]; rfl)
      have t1 : ((k : Int) == (s.size : Int)) = true := by rw [beq_iff_eq]; omega
      clear HP
      go_enter Tryd.func23, Tryd.ntmps23
      go_wp2_with fail
      ((with_reducible refine (hsm _).mono ?_); rintro e w1 ⟨rfl, rfl⟩)
      go_wp2_with fail
      ((with_reducible refine (hk _).mono ?_); rintro e w1 ⟨rfl, hb⟩)
      go_wp2_with fail
      go_ret
      exact ⟨by rw [HX.out]; rfl, hb⟩
    · have HX := Lib.hid (show Sg.plain s.data.toList = false from by rw [HP.out, decide_eq_false he]; rfl)
      have t1 : ((k : Int) == (s.size : Int)) = false := by rw [beq_eq_false_iff_ne]; omega
      clear HP
      go_enter Tryd.func23, Tryd.ntmps23
      go_wp2_with fail
      ((with_reducible refine (hsm _).mono ?_); rintro e w1 ⟨rfl, rfl⟩)
      go_wp2_with fail
      go_ret
      exact ⟨by rw [HX.out]; rfl, Below.refl _ _⟩
end Go.Proofs.YtdhmcfhpadabaaaDoor.sg
