/-
  slices.Equal at tokens, and lex.Right: the contracts.
-/
import Derived.Test.YtmoamfcaokefiaaGreatDoorLxRight
import Derived.Laws.StructEq
namespace Go.Proofs.YtmoamfcaokefiaaGreatDoor.lx
open Go.RowKit Go.ChangeShapes Go.WideShapes Go.ChangeAt Go.ChangeMaps
open sg (OpsAt lst_len)
set_option linter.unusedVariables false

set_option maxRecDepth 100000 in
set_option maxHeartbeats 4000000 in
theorem equal_calls (u v : Value) (xs ys : List Tk) (w : World) (n : Nat) (ha : TksAt n w u xs) (hb : TksAt n w v ys) (b : Bool) (hab : decide (xs = ys) = b) :
    Calls Tryz.prog 48 #[u, v] w fun e w' => e = .returned (.bool b) ∧ Below w.heap.size w w' := by
  obtain ⟨ao, cap, rfl, hm, hc⟩ := ha
  obtain ⟨bo, cap2, rfl, hm2, hc2⟩ := hb
  unfold maxLen at hm hm2
  by_cases hl : xs.length = ys.length
  · obtain ⟨m, hmm⟩ : ∃ m, ys.length = m := ⟨_, rfl⟩
    have hmx := hl.trans hmm
    rw [hmm] at hm2 ⊢
    rw [hmx] at hm ⊢
    have HC := Lib.hid hc; have HC2 := Lib.hid hc2; have HL := Lib.hid hmx; have HL2 := Lib.hid hmm; have HAB := Lib.hid hab
    clear hc hc2 hl hmm hmx hab
    go_enter Tryz.func48, Tryz.ntmps48
    go_wp2_with fail
    go_loopw [13] (fun i wr => ∃ k : Nat, k ≤ m ∧ i = .int .i64 (k : Int) ∧ xs.take k = ys.take k ∧ Below w.heap.size w wr) (fun i _ => m - (intOf i).toNat)
    case atStart => exact ⟨0, Nat.zero_le _, rfl, rfl, Below.refl _ _⟩
    case round =>
      obtain ⟨k, hk, rfl, heq, hb⟩ := hrel
      have HEQ := Lib.hid heq
      clear heq
      by_cases hlt : k < m
      · obtain ⟨t, ht⟩ : ∃ t, xs[k]? = some t := ⟨_, List.getElem?_eq_getElem (by rw [HL.out]; exact hlt)⟩
        obtain ⟨t2, ht2⟩ : ∃ t, ys[k]? = some t := ⟨_, List.getElem?_eq_getElem (by rw [HL2.out]; exact hlt)⟩
        obtain ⟨g, off, rfl, _, c0, c1⟩ := HC.out k t ht
        obtain ⟨g2, off2, rfl, _, e0, e1⟩ := HC2.out k t2 ht2
        have hgw := World.block_lt_of_cell? w _ c0
        have hgw2 := World.block_lt_of_cell? w _ e0
        have d0 := (hb.cell (p := ⟨g, off + k * 2, none⟩) hgw).trans c0
        have d1 := (hb.cell (p := ⟨g, off + k * 2 + 1, none⟩) hgw).trans c1
        have d2 := (hb.cell (p := ⟨g2, off2 + k * 2, none⟩) hgw2).trans e0
        have d3 := (hb.cell (p := ⟨g2, off2 + k * 2 + 1, none⟩) hgw2).trans e1
        have hlt1 : (k : Int) < (m : Int) := by omega
        have HT := Lib.hid ht; have HT2 := Lib.hid ht2
        clear c0 c1 e0 e1 hgw hgw2 ht ht2
        obtain ⟨t0, t1⟩ := t
        obtain ⟨s0, s1⟩ := t2
        have hret : xs ≠ ys → Ending.returned (.bool false) = Ending.returned (.bool b) := fun e => by have := HAB.out; rw [decide_eq_false e] at this; rw [← this]
        by_cases hq0 : t0 = s0
        · by_cases hq1 : t1 = s1
          · subst hq0; subst hq1
            go_wp2_with fail
            go_region
            go_wp2_with fail
            exact ⟨⟨k + 1, by omega, rfl, by rw [take_snoc xs k _ HT.out, take_snoc ys k _ HT2.out, HEQ.out], hb.drew⟩, by simp [intOf]; omega⟩
          · have hf : (t1.toList == s1.toList) = false := beq_eq_false_iff_ne.2 (fun e => hq1 (ByteArray.ext (by rw [ByteArray.toList_eq, ByteArray.toList_eq] at e; exact Array.ext' e)))
            subst hq0
            go_wp2_with fail
            go_region
            go_wp2_with fail
            go_ret
            exact ⟨hret (fun e => hq1 (by have := congrArg (fun l : List Tk => l[k]?) e; simp only [HT.out, HT2.out] at this; cases this; rfl)), hb.drew⟩
        · have hf : (t0 == s0) = false := beq_eq_false_iff_ne.2 hq0
          go_wp2_with fail
          go_region
          go_wp2_with fail
          go_ret
          exact ⟨hret (fun e => hq0 (by have := congrArg (fun l : List Tk => l[k]?) e; simp only [HT.out, HT2.out] at this; cases this; rfl)), hb.drew⟩
      · obtain rfl : k = m := by omega
        have hge : decide ((k : Int) < (k : Int)) = false := by simp
        go_wp2_with fail
        go_ret
        have e := HEQ.out
        rw [List.take_of_length_le (by rw [HL.out]; exact Nat.le_refl _), List.take_of_length_le (by rw [HL2.out]; exact Nat.le_refl _)] at e
        refine ⟨?_, hb⟩
        have := HAB.out
        rw [e, decide_eq_true rfl] at this
        rw [← this]; rfl
  · have hl1 : ((xs.length : Int) == (ys.length : Int)) = false := beq_eq_false_iff_ne.2 (by omega)
    have hl2 : ((xs.length : Int) != (ys.length : Int)) = true := by rw [bne, hl1]; rfl
    have hf : decide (xs = ys) = false := decide_eq_false (fun e => hl (by rw [e]))
    rw [hf] at hab
    subst hab
    go_enter Tryz.func48, Tryz.ntmps48
    go_wp2_with fail
    go_ret
    exact ⟨rfl, Below.refl _ _⟩

theorem lexA_length (x : Lx.Lex) (l : List UInt8) : (Lx.lexA x l).1.length ≤ l.length + 1 := by
  have := Lx.told_length x l
  unfold Lx.told at this
  rw [List.length_append, List.length_map] at this
  omega
theorem tokensF_length (l : List UInt8) (c : Int) : (tokensF l c).1.length ≤ l.length + 1 := by
  unfold tokensF
  have := lexA_length Lx.start l
  split
  · simp
  · split
    · simp
    · split
      · exact this
      · simp
/-- Whether tokens are those of their text. -/
def rightT (ts : List Tk) : Bool := !decide (65536 < sizeT ts) && decide ((tokensF (joinT ts) (utf.checkF ⟨(joinT ts).toArray⟩)).1.map asTk = ts)

set_option maxRecDepth 100000 in
set_option maxHeartbeats 4000000 in
theorem right_calls (v : Value) (ts : List Tk) (w : World) (h : TksAt w.heap.size w v ts) (hs : sizeT ts ≤ 140737488355328) (hw : OpsAt w) (b : Bool) (hb : rightT ts = b) :
    Calls Tryz.prog 52 #[v] w fun e w' => e = .returned (.bool b) ∧ Below w.heap.size w w' := by
  have HW := Lib.hid hw
  have h1 := size_calls v ts w w.heap.size h hs
  have h2 : ∀ w2 : World, Below w.heap.size w w2 → Calls Tryz.prog 50 #[v] w2 fun e w' => e = .returned (.string ⟨(joinT ts).toArray⟩) ∧ Below w2.heap.size w2 w' := fun w2 hb => join_calls v ts w2 ((h.below hb (Nat.le_refl _)).mono hb.size) hs
  have HT := Lib.hid h
  have HR := Lib.hid hb
  clear h hb hw
  obtain ⟨s, hsj⟩ : ∃ s, (⟨(joinT ts).toArray⟩ : ByteArray) = s := ⟨_, rfl⟩
  have hsl : s.data.toList = joinT ts := by rw [← hsj]
  have hss : s.size = sizeT ts := by rw [← lst_len, hsl, joinT_len]
  simp only [hsj] at h2
  by_cases hlong : 65536 < sizeT ts
  · obtain rfl : b = false := by rw [← HR.out]; unfold rightT; rw [decide_eq_true hlong]; rfl
    have hl1 : (65536 : Int) < (sizeT ts : Int) := by omega
    go_enter Tryz.func52, Tryz.ntmps52
    go_wp2_with fail
    ((with_reducible refine h1.mono ?_); rintro _ w2 ⟨rfl, hb2⟩)
    go_wp2_with fail
    go_ret
    exact ⟨rfl, hb2⟩
  · have hl1 : (sizeT ts : Int) ≤ 65536 := by omega
    have hl2 : decide ((65536 : Int) < (sizeT ts : Int)) = false := decide_eq_false (by omega)
    obtain ⟨l, er, at', htl⟩ : ∃ l er at', tokensF s.data.toList (utf.checkF s) = (l, er, at') := ⟨_, _, _, rfl⟩
    have hto := fun w hw => tokens_as s w hw l er at' htl
    have hlm : l.length ≤ maxLen := by
      have := tokensF_length s.data.toList (utf.checkF s)
      rw [htl, lst_len] at this
      unfold maxLen
      simp only at this
      omega
    have hbq : decide (l.map asTk = ts) = b := by
      rw [← HR.out]; unfold rightT
      rw [decide_eq_false hlong, hsj, ← hsl, htl]; rfl
    clear htl
    go_enter Tryz.func52, Tryz.ntmps52
    go_wp2_with fail
    ((with_reducible refine h1.mono ?_); rintro _ w2 ⟨rfl, hb2⟩)
    go_wp2_with fail
    ((with_reducible refine (h2 _ hb2).mono ?_); rintro _ w3 ⟨rfl, hb3⟩)
    have HB3 := Lib.hid (sg.Below.next hb2 hb3 (Nat.le_refl _))
    clear hb2 hb3
    go_wp2_with fail
    ((with_reducible refine (hto _ (HW.out.own HB3.out)).mono ?_); rintro _ w4 ⟨v4, rfl, ht4, hb4⟩)
    have HB4 := Lib.hid (sg.Below.next HB3.out hb4 (Nat.le_refl _))
    have heq := equal_calls v4 v (l.map asTk) ts w4 w4.heap.size (ht4.tks hlm) ((HT.out.below HB4.out (Nat.le_refl _)).mono HB4.out.size) b hbq
    clear ht4 hb4
    go_wp2_with fail
    ((with_reducible refine heq.mono ?_); rintro _ w5 ⟨rfl, hb5⟩)
    go_wp2_with fail
    go_ret
    exact ⟨rfl, sg.Below.next HB4.out hb5 (Nat.le_refl _)⟩
end Go.Proofs.YtmoamfcaokefiaaGreatDoor.lx
