/-
  subeditorref04.Same: the contract; a row of tokens for an append.
-/
import Derived.Test.YtmoamfcaokefiaaGreatDoorLxEqual
namespace Go.Proofs.YtmoamfcaokefiaaGreatDoor.lx
open Go.RowKit Go.ChangeShapes Go.WideShapes Go.ChangeAt Go.ChangeMaps
open sg (OpsAt lst_len)
set_option linter.unusedVariables false

/-- A row of tokens, to be appended. -/
def RowAt (W : World) (n : Nat) (v : Value) (l : List Lx.Tok) : Prop :=
  (v = .slice none 0 0 ∧ l = []) ∨ ∃ g cap, v = .slice (some ⟨g, 0, none⟩) l.length cap ∧ g < n ∧ ∀ j u, (tokCells l)[j]? = some u → W.cell? ⟨g, j, none⟩ = some u
theorem RowAt.below {n m : Nat} {W W' : World} {v : Value} {l : List Lx.Tok} (h : RowAt W n v l) (hb : Below m W W') (hm : n ≤ m) : RowAt W' n v l := by
  rcases h with h | ⟨g, cap, h1, h2, h3⟩
  · exact .inl h
  · exact .inr ⟨g, cap, h1, h2, fun j u hu => (hb.cell (p := ⟨g, j, none⟩) (Nat.lt_of_lt_of_le h2 hm)).trans (h3 j u hu)⟩
theorem tokCells_len (l : List Lx.Tok) : (tokCells l).length = l.length * 2 := by
  induction l with
  | nil => rfl
  | cons t r ih =>
    have e : tokCells (t :: r) = .int .i64 t.1 :: .string ⟨t.2.toArray⟩ :: tokCells r := by simp [tokCells]
    rw [e]; simp only [List.length_cons, ih]; omega
theorem tokCells_app (l m : List Lx.Tok) : tokCells (l ++ m) = tokCells l ++ tokCells m := by simp [tokCells]
theorem tokCells_one (l : List Lx.Tok) : ∀ u ∈ tokCells l, u.oneCell' = true := by
  induction l with
  | nil => simp [tokCells]
  | cons t r ih =>
    have e : tokCells (t :: r) = .int .i64 t.1 :: .string ⟨t.2.toArray⟩ :: tokCells r := by simp [tokCells]
    rw [e]
    intro u hu
    rcases List.mem_cons.1 hu with rfl | hu
    · rfl
    · rcases List.mem_cons.1 hu with rfl | hu
      · rfl
      · exact ih u hu
theorem ownsRow_row {W : World} {base : Nat} {v : Value} {l : List Lx.Tok} (h : W.ownsRow base 24 2 v l.length (tokCells l)) : RowAt W W.heap.size v l := by
  rcases h.2 with ⟨rfl, h0⟩ | ⟨g, cap, cur, rfl, h2, h3, _⟩
  · exact .inl ⟨rfl, List.length_eq_zero_iff.1 h0⟩
  · refine .inr ⟨g, cap, rfl, (Array.getElem?_eq_some_iff.1 h3).1, fun j u hu => ?_⟩
    have hj : j < (tokCells l).length := (List.getElem?_eq_some_iff.1 hu).1
    rw [tokCells_len] at hj
    rw [h.cellAt j hj]
    exact hu
theorem tokens_row (s : ByteArray) (w : World) (hops : sg.OpsAt w) (l : List Lx.Tok) (err at' : Int) (h : tokensF s.data.toList (utf.checkF s) = (l, err, at')) :
    Calls Tryz.prog 47 #[.string s] w fun e w' => ∃ v, e = .returned (.tuple #[v, .int .u16 err, .int .i64 at']) ∧ RowAt w' w'.heap.size v l ∧ ToksAt w' w'.heap.size v l ∧ Below w.heap.size w w' := by
  refine (tokens_calls s w hops).mono ?_
  rintro e w' ⟨v, rfl, ho, hb⟩
  rw [h] at ho ⊢
  exact ⟨v, rfl, ownsRow_row ho, ownsRow_toks ho, hb⟩

set_option maxRecDepth 100000 in
set_option maxHeartbeats 4000000 in
theorem same_calls (u v : Value) (xs ys : List Tk) (w : World) (n : Nat) (ha : TksAt n w u xs) (hb : TksAt n w v ys) (b : Bool) (hab : decide (xs = ys) = b) :
    Calls Tryz.prog 49 #[u, v] w fun e w' => e = .returned (.bool b) ∧ Below w.heap.size w w' := by
  obtain ⟨ao, cap, rfl, hm, hc⟩ := ha
  obtain ⟨bo, cap2, rfl, hm2, hc2⟩ := hb
  unfold maxLen at hm hm2
  by_cases hl : xs.length = ys.length
  · obtain ⟨m, hmm⟩ : ∃ m, ys.length = m := ⟨_, rfl⟩
    have hmx := hl.trans hmm
    rw [hmm] at hm2 ⊢
    rw [hmx] at hm ⊢
    have HC := Lib.hid hc; have HC2 := Lib.hid hc2; have HL := Lib.hid hmx; have HL2 := Lib.hid hmm; have HAB := Lib.hid hab
    clear hc hc2 hl hmm hmx hab
    go_enter Tryz.func49, Tryz.ntmps49
    go_wp2_with fail
    go_loopw [5] (fun i wr => ∃ k : Nat, k ≤ m ∧ i = .int .i64 (k : Int) ∧ xs.take k = ys.take k ∧ Below w.heap.size w wr) (fun i _ => m - (intOf i).toNat)
    case atStart => exact ⟨0, Nat.zero_le _, rfl, rfl, Below.refl _ _⟩
    case round =>
      obtain ⟨k, hk, rfl, heq, hb⟩ := hrel
      have HEQ := Lib.hid heq
      clear heq
      by_cases hlt : k < m
      · obtain ⟨t, ht⟩ : ∃ t, xs[k]? = some t := ⟨_, List.getElem?_eq_getElem (by rw [HL.out]; exact hlt)⟩
        obtain ⟨t2, ht2⟩ : ∃ t, ys[k]? = some t := ⟨_, List.getElem?_eq_getElem (by rw [HL2.out]; exact hlt)⟩
        obtain ⟨g, off, rfl, _, c0, c1⟩ := HC.out k t ht
        obtain ⟨g2, off2, rfl, _, e0, e1⟩ := HC2.out k t2 ht2
        have hgw := World.block_lt_of_cell? w _ c0
        have hgw2 := World.block_lt_of_cell? w _ e0
        have d0 := (hb.cell (p := ⟨g, off + k * 2, none⟩) hgw).trans c0
        have d1 := (hb.cell (p := ⟨g, off + k * 2 + 1, none⟩) hgw).trans c1
        have d2 := (hb.cell (p := ⟨g2, off2 + k * 2, none⟩) hgw2).trans e0
        have d3 := (hb.cell (p := ⟨g2, off2 + k * 2 + 1, none⟩) hgw2).trans e1
        have hlt1 : (k : Int) < (m : Int) := by omega
        have HT := Lib.hid ht; have HT2 := Lib.hid ht2
        clear c0 c1 e0 e1 hgw hgw2 ht ht2
        obtain ⟨t0, t1⟩ := t
        obtain ⟨s0, s1⟩ := t2
        have hret : xs ≠ ys → Ending.returned (.bool false) = Ending.returned (.bool b) := fun e => by have := HAB.out; rw [decide_eq_false e] at this; rw [← this]
        by_cases hq0 : t0 = s0
        · by_cases hq1 : t1 = s1
          · subst hq0; subst hq1
            go_wp2_with fail
            go_region
            go_wp2_with fail
            exact ⟨⟨k + 1, by omega, rfl, by rw [take_snoc xs k _ HT.out, take_snoc ys k _ HT2.out, HEQ.out], hb.drew⟩, by simp [intOf]; omega⟩
          · have hf : (t1.toList == s1.toList) = false := beq_eq_false_iff_ne.2 (fun e => hq1 (ByteArray.ext (by rw [ByteArray.toList_eq, ByteArray.toList_eq] at e; exact Array.ext' e)))
            subst hq0
            go_wp2_with fail
            go_region
            go_wp2_with fail
            go_ret
            exact ⟨hret (fun e => hq1 (by have := congrArg (fun l : List Tk => l[k]?) e; simp only [HT.out, HT2.out] at this; cases this; rfl)), hb.drew⟩
        · have hf : (t0 == s0) = false := beq_eq_false_iff_ne.2 hq0
          go_wp2_with fail
          go_region
          go_wp2_with fail
          go_ret
          exact ⟨hret (fun e => hq0 (by have := congrArg (fun l : List Tk => l[k]?) e; simp only [HT.out, HT2.out] at this; cases this; rfl)), hb.drew⟩
      · obtain rfl : k = m := by omega
        have hge : decide ((k : Int) < (k : Int)) = false := by simp
        go_wp2_with fail
        go_ret
        have e := HEQ.out
        rw [List.take_of_length_le (by rw [HL.out]; exact Nat.le_refl _), List.take_of_length_le (by rw [HL2.out]; exact Nat.le_refl _)] at e
        refine ⟨?_, hb⟩
        have := HAB.out
        rw [e, decide_eq_true rfl] at this
        rw [← this]; rfl
  · have hl1 : ((xs.length : Int) == (ys.length : Int)) = false := beq_eq_false_iff_ne.2 (by omega)
    have hl2 : ((xs.length : Int) != (ys.length : Int)) = true := by rw [bne, hl1]; rfl
    have hf : decide (xs = ys) = false := decide_eq_false (fun e => hl (by rw [e]))
    rw [hf] at hab
    subst hab
    go_enter Tryz.func49, Tryz.ntmps49
    go_wp2_with fail
    go_ret
    exact ⟨rfl, Below.refl _ _⟩

end Go.Proofs.YtmoamfcaokefiaaGreatDoor.lx
