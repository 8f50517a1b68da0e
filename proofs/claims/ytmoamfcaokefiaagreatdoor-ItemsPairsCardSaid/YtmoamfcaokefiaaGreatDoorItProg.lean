/-
  ItProg: several texts in one, each with its own head.
-/
import Derived.Test.YtmoamfcaokefiaaGreatDoorLxEqual
import Derived.Test.YtmoamfcaokefiaaGreatDoorLxMath2
import Derived.Test.YtmoamfcaokefiaaGreatDoorItPure
import Derived.Laws.StructEq
import Derived.DeepKeys5
import Derived.Maps.Own
import Derived.ChangeMaps5
import Derived.Test.YtmoamfcaokefiaaGreatDoorEdBuild
import Derived.Test.YtmoamfcaokefiaaGreatDoorLxRight
import Derived.Laws.AppendOwnNone
import Derived.Lib.SliceRun
import Derived.Laws.IdiomCopy
import Derived.Test.YtmoamfcaokefiaaGreatDoorLxDoc
import Derived.StillTailTactics
import Derived.Carry

/-
  items: idle, counts, ofString, Tight: their contracts.
-/
namespace Go.Proofs.YtmoamfcaokefiaaGreatDoor.it
open Go.RowKit Go.Shelf
open sg (lst_len OpsAt)
open lx
set_option linter.unusedVariables false

def idleB (k : Int) : Bool := k == 1 || k == 2
def strB (k : Int) : Bool := decide (7 ≤ k) && decide (k ≤ 11)
set_option maxHeartbeats 1000000 in
theorem idle_calls (k : Int) (tx : ByteArray) (w : World) : Calls Tryz.prog 36 #[.agg #[.int .i64 k, .string tx]] w fun e w' => e = .returned (.bool (idleB k)) ∧ Below w.heap.size w w' := by
  have hb : Below w.heap.size w (w.alloc (.cells #[.int .i64 k, .string tx] 24)) := (Below.refl _ w).alloc (Nat.le_refl _) _
  have HB := Lib.hid hb
  clear hb
  by_cases h1 : k = 1
  · subst h1
    go_enter Tryz.func36, Tryz.ntmps36
    go_wp2_with fail
    go_ret
    exact ⟨rfl, HB.out⟩
  · have e1 : (k == 1) = false := beq_eq_false_iff_ne.2 h1
    by_cases h2 : k = 2
    · subst h2
      go_enter Tryz.func36, Tryz.ntmps36
      go_wp2_with fail
      go_ret
      exact ⟨rfl, HB.out⟩
    · have e2 : (k == 2) = false := beq_eq_false_iff_ne.2 h2
      have HX := Lib.hid (show idleB k = false by unfold idleB; rw [e1, e2]; rfl)
      go_enter Tryz.func36, Tryz.ntmps36
      go_wp2_with fail
      go_ret
      exact ⟨by rw [HX.out]; rfl, HB.out⟩
set_option maxHeartbeats 1000000 in
theorem counts_calls (k : Int) (tx : ByteArray) (w : World) : Calls Tryz.prog 65 #[.agg #[.int .i64 k, .string tx]] w fun e w' => e = .returned (.bool (!idleB k)) ∧ Below w.heap.size w w' := by
  have hb : Below w.heap.size w (w.alloc (.cells #[.int .i64 k, .string tx] 24)) := (Below.refl _ w).alloc (Nat.le_refl _) _
  have HB := Lib.hid hb
  clear hb
  have hc := fun w => idle_calls k tx w
  obtain ⟨b, hb⟩ : ∃ b, idleB k = b := ⟨_, rfl⟩
  simp only [hb] at hc
  have HX := Lib.hid hb
  clear hb
  go_enter Tryz.func65, Tryz.ntmps65
  go_wp2_with fail
  ((with_reducible refine (hc _).mono ?_); rintro _ w2 ⟨rfl, hb2⟩)
  have HB2 := Lib.hid (sg.Below.next HB.out hb2 (Nat.le_refl _))
  clear hb2
  go_wp2_with fail
  go_ret
  exact ⟨by rw [HX.out]; rfl, HB2.out⟩
set_option maxHeartbeats 2000000 in
theorem ofString_calls (k : Int) (tx : ByteArray) (w : World) : Calls Tryz.prog 46 #[.agg #[.int .i64 k, .string tx]] w fun e w' => e = .returned (.bool (strB k)) ∧ Below w.heap.size w w' := by
  have hb : Below w.heap.size w (w.alloc (.cells #[.int .i64 k, .string tx] 24)) := (Below.refl _ w).alloc (Nat.le_refl _) _
  have HB := Lib.hid hb
  clear hb
  by_cases h : k = 7 ∨ k = 8 ∨ k = 9 ∨ k = 10 ∨ k = 11
  · rcases h with rfl | rfl | rfl | rfl | rfl
    all_goals
      go_enter Tryz.func46, Tryz.ntmps46
      go_wp2_with fail
      go_ret
      exact ⟨rfl, HB.out⟩
  · have e7 : (k == 7) = false := beq_eq_false_iff_ne.2 (fun e => h (by omega))
    have e8 : (k == 8) = false := beq_eq_false_iff_ne.2 (fun e => h (by omega))
    have e9 : (k == 9) = false := beq_eq_false_iff_ne.2 (fun e => h (by omega))
    have e10 : (k == 10) = false := beq_eq_false_iff_ne.2 (fun e => h (by omega))
    have e11 : (k == 11) = false := beq_eq_false_iff_ne.2 (fun e => h (by omega))
    have HX := Lib.hid (show strB k = false by
      unfold strB
      rw [Bool.and_eq_false_iff, decide_eq_false_iff_not, decide_eq_false_iff_not]; omega)
    clear h
    go_enter Tryz.func46, Tryz.ntmps46
    go_wp2_with fail
    go_ret
    exact ⟨by rw [HX.out]; rfl, HB.out⟩

/-- The tokens of a text, told. -/
def TF (l : List UInt8) : List Lx.Tok := (tokensF l (utf.chkL l.length l 0)).1
theorem TF_eq (s : ByteArray) : TF s.data.toList = (tokensF s.data.toList (utf.checkF s)).1 := by unfold TF; rw [utf.checkF_L]
theorem tells_TF : Lx.Tells TF := by
  intro l a r h
  unfold TF tokensF at h
  split at h
  · cases h
  · split at h
    · cases h
    · split at h
      · rename_i h0
        simp only at h
        exact Prod.ext h h0
      · cases h
/-- A token of the program's, as plain data. -/
def pt (t : Tk) : Lx.Tok := (t.1, t.2.data.toList)
theorem pt_as (t : Tk) : asTk (pt t) = t := rfl
theorem map_pt (l : List Lx.Tok) (ts : List Tk) : l.map asTk = ts ↔ l = ts.map pt := by
  constructor
  · rintro rfl
    rw [List.map_map]
    conv => lhs; rw [← List.map_id l]
    apply List.map_congr_left
    intro t _
    rfl
  · rintro rfl
    rw [List.map_map]
    conv => rhs; rw [← List.map_id ts]
    rfl
/-- Tight, of the program's tokens. -/
def tightB (a b : Tk) : Bool := Lx.tightT TF (pt a) (pt b)
theorem tightB_eq (a b : Tk) : tightB a b = (!(idleB a.1 || idleB b.1 || (a.1 == 6 && (b.1 == 6 || b.1 == 3)) || (decide (pt a = (13, [58])) && decide (pt b = (13, [58])))) && (strB a.1 || strB b.1 || decide (TF (a.2.data.toList ++ b.2.data.toList) = [pt a, pt b]))) := by
  unfold tightB Lx.tightT Lx.colT
  have e : ∀ x y : Lx.Tok, (x == y) = decide (x = y) := fun x y => by rw [Bool.eq_iff_iff]; simp
  have e2 : ∀ x y : List Lx.Tok, (x == y) = decide (x = y) := fun x y => by rw [Bool.eq_iff_iff]; simp
  rw [e, e, e2]
  rfl

/-- What the two tokens and the colon lie in. -/
structure Three (ka kb : Int) (ta tb : ByteArray) (w W1 : World) : Prop where
  hb : Below w.heap.size w W1
  hs : w.heap.size + 3 ≤ W1.heap.size
  k0 : sx.Blk W1 w.heap.size 24 #[.int .i64 ka, .string ta]
  k1 : sx.Blk W1 (w.heap.size + 1) 24 #[.int .i64 kb, .string tb]
  k2 : sx.Blk W1 (w.heap.size + 1 + 1) 24 #[.int .i64 13, .string ⟨#[58]⟩]
theorem three_of (ka kb : Int) (ta tb : ByteArray) (w : World) : Three ka kb ta tb w (((w.alloc (.cells #[.int .i64 ka, .string ta] 24)).alloc (.cells #[.int .i64 kb, .string tb] 24)).alloc (.cells #[.int .i64 13, .string ⟨#[58]⟩] 24)) := by
  refine ⟨(((Below.refl _ w).alloc (Nat.le_refl _) _).alloc (by simp) _).alloc (by simp; omega) _, by simp, ((sx.Blk.new w _ _).alloc _).alloc _, ?_, ?_⟩
  · have := (sx.Blk.new (w.alloc (.cells #[.int .i64 ka, .string ta] 24)) 24 #[.int .i64 kb, .string tb]).alloc (.cells #[.int .i64 13, .string ⟨#[58]⟩] 24)
    simpa using this
  · have := sx.Blk.new ((w.alloc (.cells #[.int .i64 ka, .string ta] 24)).alloc (.cells #[.int .i64 kb, .string tb] 24)) 24 #[.int .i64 13, .string ⟨#[58]⟩]
    simpa using this
theorem Three.own {ka kb : Int} {ta tb : ByteArray} {w W1 W2 : World} (h : Three ka kb ta tb w W1) (hb : Below W1.heap.size W1 W2) : Three ka kb ta tb w W2 :=
  ⟨h.hb.trans (hb.mono h.hb.size), Nat.le_trans h.hs hb.size, h.k0.own hb, h.k1.own hb, h.k2.own hb⟩

theorem tb_idle {a b : Tk} (h : idleB a.1 = true ∨ idleB b.1 = true) : tightB a b = false := by
  rw [tightB_eq]
  rcases h with h | h <;> simp [h]
theorem tb_num {a b : Tk} (h : a.1 = 6) (h2 : b.1 = 6 ∨ b.1 = 3) : tightB a b = false := by
  rw [tightB_eq]
  rcases h2 with h2 | h2 <;> simp [h, h2]
theorem tb_col {a b : Tk} (h : pt a = (13, [58])) (h2 : pt b = (13, [58])) : tightB a b = false := by
  rw [tightB_eq]
  simp [h, h2]
theorem tb_str {a b : Tk} (h1 : idleB a.1 = false) (h2 : idleB b.1 = false) (hn : ¬ (a.1 = 6 ∧ (b.1 = 6 ∨ b.1 = 3))) (hc : ¬ (pt a = (13, [58]) ∧ pt b = (13, [58]))) (hs : strB a.1 = true ∨ strB b.1 = true) : tightB a b = true := by
  rw [tightB_eq]
  have e1 : (a.1 == 6 && (b.1 == 6 || b.1 == 3)) = false := by
    rw [Bool.eq_false_iff]; intro h; simp at h; exact hn h
  have e2 : (decide (pt a = (13, [58])) && decide (pt b = (13, [58]))) = false := by
    rw [Bool.eq_false_iff]; intro h; simp only [Bool.and_eq_true, decide_eq_true_eq] at h; exact hc h
  rw [h1, h2, e1, e2]
  rcases hs with h | h <;> simp [h]
theorem tb_tok {a b : Tk} (h1 : idleB a.1 = false) (h2 : idleB b.1 = false) (hn : ¬ (a.1 = 6 ∧ (b.1 = 6 ∨ b.1 = 3))) (hc : ¬ (pt a = (13, [58]) ∧ pt b = (13, [58]))) (hs : strB a.1 = false) (ht : strB b.1 = false) : tightB a b = decide (TF (a.2.data.toList ++ b.2.data.toList) = [pt a, pt b]) := by
  rw [tightB_eq]
  have e1 : (a.1 == 6 && (b.1 == 6 || b.1 == 3)) = false := by
    rw [Bool.eq_false_iff]; intro h; simp at h; exact hn h
  have e2 : (decide (pt a = (13, [58])) && decide (pt b = (13, [58]))) = false := by
    rw [Bool.eq_false_iff]; intro h; simp only [Bool.and_eq_true, decide_eq_true_eq] at h; exact hc h
  rw [h1, h2, e1, e2, hs, ht]
  simp

theorem two_at {W : World} {g : Nat} {ka kb : Int} {ta tb : ByteArray} (h : sx.Blk W g 24 #[.int .i64 ka, .string ta, .int .i64 kb, .string tb]) : TksAt W.heap.size W (.slice (some ⟨g, 0, none⟩) 2 2) [(ka, ta), (kb, tb)] := by
  refine ⟨_, 2, rfl, by unfold maxLen; simp, fun j t ht => ?_⟩
  match j, ht with
  | 0, ht => cases ht; exact ⟨g, 0, rfl, h.lt, h.cell 0, h.cell 1⟩
  | 1, ht => cases ht; exact ⟨g, 0, rfl, h.lt, h.cell 2, h.cell 3⟩

theorem tok_len (s : ByteArray) {l : List Lx.Tok} {er at' : Int} (h : tokensF s.data.toList (utf.checkF s) = (l, er, at')) : l.length ≤ s.size := by
  have h2 : ∀ (x : Lx.Lex) (l : List UInt8), (Lx.lexA x l).1.length ≤ l.length := by
    intro x l
    generalize hn : l.length = n
    induction n using Nat.strongRecOn generalizing l x with
    | ind n ih =>
      subst hn
      by_cases h0 : l = []
      · subst h0; rw [Lx.lexA_nil]; exact Nat.le_refl _
      · cases hx : Lx.next x l with
        | error e => rw [Lx.lexA_err hx h0]; exact Nat.zero_le _
        | ok p =>
          obtain ⟨k, n, y⟩ := p
          have hl := Lx.next_le hx
          have := ih (l.drop n).length (by rw [List.length_drop]; omega) y (l.drop n) rfl
          rw [Lx.lexA_ok hx h0]
          simp only [List.length_cons]
          rw [List.length_drop] at this
          omega
  have h1 := h2 Lx.start s.data.toList
  rw [lst_len] at h1
  unfold tokensF at h
  split at h
  · rw [← (Prod.mk.inj h).1]; exact Nat.zero_le _
  · split at h
    · rw [← (Prod.mk.inj h).1]; exact Nat.zero_le _
    · split at h
      · rw [← (Prod.mk.inj h).1]; exact h1
      · rw [← (Prod.mk.inj h).1]; exact Nat.zero_le _
set_option maxRecDepth 100000 in
set_option maxHeartbeats 8000000 in
theorem tight_ia (ka kb : Int) (ta tb : ByteArray) (w : World) (hw : OpsAt w) (hs : ta.size + tb.size ≤ 140737488351232)
    (hia0 : idleB ka = true) :
    Calls Tryz.prog 20 #[.agg #[.int .i64 ka, .string ta], .agg #[.int .i64 kb, .string tb]] w fun e w' => e = .returned (.bool (tightB (ka, ta) (kb, tb))) ∧ Below w.heap.size w w' := by
  have hia := fun w => idle_calls ka ta w
  have hib := fun w => idle_calls kb tb w
  have hsa := fun w => ofString_calls ka ta w
  have hsb := fun w => ofString_calls kb tb w
  simp only [hia0] at hia
  have hb : tightB (ka, ta) (kb, tb) = false := tb_idle (.inl hia0)
  have HX := Lib.hid hb
  have HW := Lib.hid hw
  clear hb hw
  have hT := three_of ka kb ta tb w
  obtain ⟨W1, hW1⟩ : ∃ W1, (((w.alloc (.cells #[.int .i64 ka, .string ta] 24)).alloc (.cells #[.int .i64 kb, .string tb] 24)).alloc (.cells #[.int .i64 13, .string ⟨#[58]⟩] 24)) = W1 := ⟨_, rfl⟩
  rw [hW1] at hT
  have a0 : W1.cell? ⟨w.heap.size, 0, none⟩ = some (.int .i64 ka) := hT.k0.cell 0
  have a1 : W1.cell? ⟨w.heap.size, 1, none⟩ = some (.string ta) := hT.k0.cell 1
  have HT := Lib.hid hT
  clear hT
  go_enter Tryz.func20, Tryz.ntmps20
  go_wp2_with fail
  ((with_reducible refine (hia _).mono ?_); rintro _ w2 ⟨rfl, hb2⟩)
  have hT2 := HT.out.own hb2
  have c0 : w2.cell? ⟨w.heap.size, 0, none⟩ = some (.int .i64 ka) := hT2.k0.cell 0
  have c1 : w2.cell? ⟨w.heap.size, 1, none⟩ = some (.string ta) := hT2.k0.cell 1
  have c2 : w2.cell? ⟨w.heap.size + 1, 0, none⟩ = some (.int .i64 kb) := hT2.k1.cell 0
  have c3 : w2.cell? ⟨w.heap.size + 1, 1, none⟩ = some (.string tb) := hT2.k1.cell 1
  have c4 : w2.cell? ⟨w.heap.size + 1 + 1, 0, none⟩ = some (.int .i64 13) := hT2.k2.cell 0
  have c5 : w2.cell? ⟨w.heap.size + 1 + 1, 1, none⟩ = some (.string ⟨#[58]⟩) := hT2.k2.cell 1
  have HT2 := Lib.hid hT2
  clear hb2 hT2 a0 a1
  go_wp2_with fail
  go_ret
  exact ⟨by rw [HX.out]; rfl, HT2.out.hb⟩
set_option maxRecDepth 100000 in
set_option maxHeartbeats 8000000 in
theorem tight_ib (ka kb : Int) (ta tb : ByteArray) (w : World) (hw : OpsAt w) (hs : ta.size + tb.size ≤ 140737488351232)
    (hia0 : idleB ka = false) (hib0 : idleB kb = true) :
    Calls Tryz.prog 20 #[.agg #[.int .i64 ka, .string ta], .agg #[.int .i64 kb, .string tb]] w fun e w' => e = .returned (.bool (tightB (ka, ta) (kb, tb))) ∧ Below w.heap.size w w' := by
  have hia := fun w => idle_calls ka ta w
  have hib := fun w => idle_calls kb tb w
  have hsa := fun w => ofString_calls ka ta w
  have hsb := fun w => ofString_calls kb tb w
  simp only [hia0] at hia
  simp only [hib0] at hib
  have hb : tightB (ka, ta) (kb, tb) = false := tb_idle (.inr hib0)
  have HX := Lib.hid hb
  have HW := Lib.hid hw
  clear hb hw
  have hT := three_of ka kb ta tb w
  obtain ⟨W1, hW1⟩ : ∃ W1, (((w.alloc (.cells #[.int .i64 ka, .string ta] 24)).alloc (.cells #[.int .i64 kb, .string tb] 24)).alloc (.cells #[.int .i64 13, .string ⟨#[58]⟩] 24)) = W1 := ⟨_, rfl⟩
  rw [hW1] at hT
  have a0 : W1.cell? ⟨w.heap.size, 0, none⟩ = some (.int .i64 ka) := hT.k0.cell 0
  have a1 : W1.cell? ⟨w.heap.size, 1, none⟩ = some (.string ta) := hT.k0.cell 1
  have HT := Lib.hid hT
  clear hT
  go_enter Tryz.func20, Tryz.ntmps20
  go_wp2_with fail
  ((with_reducible refine (hia _).mono ?_); rintro _ w2 ⟨rfl, hb2⟩)
  have hT2 := HT.out.own hb2
  have c0 : w2.cell? ⟨w.heap.size, 0, none⟩ = some (.int .i64 ka) := hT2.k0.cell 0
  have c1 : w2.cell? ⟨w.heap.size, 1, none⟩ = some (.string ta) := hT2.k0.cell 1
  have c2 : w2.cell? ⟨w.heap.size + 1, 0, none⟩ = some (.int .i64 kb) := hT2.k1.cell 0
  have c3 : w2.cell? ⟨w.heap.size + 1, 1, none⟩ = some (.string tb) := hT2.k1.cell 1
  have c4 : w2.cell? ⟨w.heap.size + 1 + 1, 0, none⟩ = some (.int .i64 13) := hT2.k2.cell 0
  have c5 : w2.cell? ⟨w.heap.size + 1 + 1, 1, none⟩ = some (.string ⟨#[58]⟩) := hT2.k2.cell 1
  have HT2 := Lib.hid hT2
  clear hb2 hT2 a0 a1
  go_wp2_with fail
  ((with_reducible refine (hib _).mono ?_); rintro _ w3 ⟨rfl, hb3⟩)
  clear c0 c1 c2 c3 c4 c5
  have hT3 := HT2.out.own hb3
  have c0 : w3.cell? ⟨w.heap.size, 0, none⟩ = some (.int .i64 ka) := hT3.k0.cell 0
  have c1 : w3.cell? ⟨w.heap.size, 1, none⟩ = some (.string ta) := hT3.k0.cell 1
  have c2 : w3.cell? ⟨w.heap.size + 1, 0, none⟩ = some (.int .i64 kb) := hT3.k1.cell 0
  have c3 : w3.cell? ⟨w.heap.size + 1, 1, none⟩ = some (.string tb) := hT3.k1.cell 1
  have c4 : w3.cell? ⟨w.heap.size + 1 + 1, 0, none⟩ = some (.int .i64 13) := hT3.k2.cell 0
  have c5 : w3.cell? ⟨w.heap.size + 1 + 1, 1, none⟩ = some (.string ⟨#[58]⟩) := hT3.k2.cell 1
  have HT3 := Lib.hid hT3
  clear hb3 hT3
  go_wp2_with fail
  go_ret
  exact ⟨by rw [HX.out]; rfl, HT3.out.hb⟩
set_option maxRecDepth 100000 in
set_option maxHeartbeats 8000000 in
theorem tight_n3 (ka kb : Int) (ta tb : ByteArray) (w : World) (hw : OpsAt w) (hs : ta.size + tb.size ≤ 140737488351232)
    (hia0 : idleB ka = false) (hib0 : idleB kb = false) (h6 : ka = 6) (hk6 : kb = 6) :
    Calls Tryz.prog 20 #[.agg #[.int .i64 ka, .string ta], .agg #[.int .i64 kb, .string tb]] w fun e w' => e = .returned (.bool (tightB (ka, ta) (kb, tb))) ∧ Below w.heap.size w w' := by
  have hia := fun w => idle_calls ka ta w
  have hib := fun w => idle_calls kb tb w
  have hsa := fun w => ofString_calls ka ta w
  have hsb := fun w => ofString_calls kb tb w
  simp only [hia0] at hia
  simp only [hib0] at hib
  have hb : tightB (ka, ta) (kb, tb) = false := tb_num h6 (.inl hk6)
  have q0 : (ka == 6) = true := beq_iff_eq.2 h6
  have q1 : (kb == 6) = true := beq_iff_eq.2 hk6
  clear h6 hk6
  have HX := Lib.hid hb
  have HW := Lib.hid hw
  clear hb hw
  have hT := three_of ka kb ta tb w
  obtain ⟨W1, hW1⟩ : ∃ W1, (((w.alloc (.cells #[.int .i64 ka, .string ta] 24)).alloc (.cells #[.int .i64 kb, .string tb] 24)).alloc (.cells #[.int .i64 13, .string ⟨#[58]⟩] 24)) = W1 := ⟨_, rfl⟩
  rw [hW1] at hT
  have a0 : W1.cell? ⟨w.heap.size, 0, none⟩ = some (.int .i64 ka) := hT.k0.cell 0
  have a1 : W1.cell? ⟨w.heap.size, 1, none⟩ = some (.string ta) := hT.k0.cell 1
  have HT := Lib.hid hT
  clear hT
  go_enter Tryz.func20, Tryz.ntmps20
  go_wp2_with fail
  ((with_reducible refine (hia _).mono ?_); rintro _ w2 ⟨rfl, hb2⟩)
  have hT2 := HT.out.own hb2
  have c0 : w2.cell? ⟨w.heap.size, 0, none⟩ = some (.int .i64 ka) := hT2.k0.cell 0
  have c1 : w2.cell? ⟨w.heap.size, 1, none⟩ = some (.string ta) := hT2.k0.cell 1
  have c2 : w2.cell? ⟨w.heap.size + 1, 0, none⟩ = some (.int .i64 kb) := hT2.k1.cell 0
  have c3 : w2.cell? ⟨w.heap.size + 1, 1, none⟩ = some (.string tb) := hT2.k1.cell 1
  have c4 : w2.cell? ⟨w.heap.size + 1 + 1, 0, none⟩ = some (.int .i64 13) := hT2.k2.cell 0
  have c5 : w2.cell? ⟨w.heap.size + 1 + 1, 1, none⟩ = some (.string ⟨#[58]⟩) := hT2.k2.cell 1
  have HT2 := Lib.hid hT2
  clear hb2 hT2 a0 a1
  go_wp2_with fail
  ((with_reducible refine (hib _).mono ?_); rintro _ w3 ⟨rfl, hb3⟩)
  clear c0 c1 c2 c3 c4 c5
  have hT3 := HT2.out.own hb3
  have c0 : w3.cell? ⟨w.heap.size, 0, none⟩ = some (.int .i64 ka) := hT3.k0.cell 0
  have c1 : w3.cell? ⟨w.heap.size, 1, none⟩ = some (.string ta) := hT3.k0.cell 1
  have c2 : w3.cell? ⟨w.heap.size + 1, 0, none⟩ = some (.int .i64 kb) := hT3.k1.cell 0
  have c3 : w3.cell? ⟨w.heap.size + 1, 1, none⟩ = some (.string tb) := hT3.k1.cell 1
  have c4 : w3.cell? ⟨w.heap.size + 1 + 1, 0, none⟩ = some (.int .i64 13) := hT3.k2.cell 0
  have c5 : w3.cell? ⟨w.heap.size + 1 + 1, 1, none⟩ = some (.string ⟨#[58]⟩) := hT3.k2.cell 1
  have HT3 := Lib.hid hT3
  clear hb3 hT3
  go_wp2_with fail
  go_ret
  exact ⟨by rw [HX.out]; rfl, HT3.out.hb⟩
set_option maxRecDepth 100000 in
set_option maxHeartbeats 8000000 in
theorem tight_n4 (ka kb : Int) (ta tb : ByteArray) (w : World) (hw : OpsAt w) (hs : ta.size + tb.size ≤ 140737488351232)
    (hia0 : idleB ka = false) (hib0 : idleB kb = false) (h6 : ka = 6) (hk6 : kb ≠ 6) (hk3 : kb = 3) :
    Calls Tryz.prog 20 #[.agg #[.int .i64 ka, .string ta], .agg #[.int .i64 kb, .string tb]] w fun e w' => e = .returned (.bool (tightB (ka, ta) (kb, tb))) ∧ Below w.heap.size w w' := by
  have hia := fun w => idle_calls ka ta w
  have hib := fun w => idle_calls kb tb w
  have hsa := fun w => ofString_calls ka ta w
  have hsb := fun w => ofString_calls kb tb w
  simp only [hia0] at hia
  simp only [hib0] at hib
  have hb : tightB (ka, ta) (kb, tb) = false := tb_num h6 (.inr hk3)
  have q0 : (ka == 6) = true := beq_iff_eq.2 h6
  have q1 : (kb == 6) = false := beq_eq_false_iff_ne.2 hk6
  have q2 : (kb == 3) = true := beq_iff_eq.2 hk3
  clear h6 hk6 hk3
  have HX := Lib.hid hb
  have HW := Lib.hid hw
  clear hb hw
  have hT := three_of ka kb ta tb w
  obtain ⟨W1, hW1⟩ : ∃ W1, (((w.alloc (.cells #[.int .i64 ka, .string ta] 24)).alloc (.cells #[.int .i64 kb, .string tb] 24)).alloc (.cells #[.int .i64 13, .string ⟨#[58]⟩] 24)) = W1 := ⟨_, rfl⟩
  rw [hW1] at hT
  have a0 : W1.cell? ⟨w.heap.size, 0, none⟩ = some (.int .i64 ka) := hT.k0.cell 0
  have a1 : W1.cell? ⟨w.heap.size, 1, none⟩ = some (.string ta) := hT.k0.cell 1
  have HT := Lib.hid hT
  clear hT
  go_enter Tryz.func20, Tryz.ntmps20
  go_wp2_with fail
  ((with_reducible refine (hia _).mono ?_); rintro _ w2 ⟨rfl, hb2⟩)
  have hT2 := HT.out.own hb2
  have c0 : w2.cell? ⟨w.heap.size, 0, none⟩ = some (.int .i64 ka) := hT2.k0.cell 0
  have c1 : w2.cell? ⟨w.heap.size, 1, none⟩ = some (.string ta) := hT2.k0.cell 1
  have c2 : w2.cell? ⟨w.heap.size + 1, 0, none⟩ = some (.int .i64 kb) := hT2.k1.cell 0
  have c3 : w2.cell? ⟨w.heap.size + 1, 1, none⟩ = some (.string tb) := hT2.k1.cell 1
  have c4 : w2.cell? ⟨w.heap.size + 1 + 1, 0, none⟩ = some (.int .i64 13) := hT2.k2.cell 0
  have c5 : w2.cell? ⟨w.heap.size + 1 + 1, 1, none⟩ = some (.string ⟨#[58]⟩) := hT2.k2.cell 1
  have HT2 := Lib.hid hT2
  clear hb2 hT2 a0 a1
  go_wp2_with fail
  ((with_reducible refine (hib _).mono ?_); rintro _ w3 ⟨rfl, hb3⟩)
  clear c0 c1 c2 c3 c4 c5
  have hT3 := HT2.out.own hb3
  have c0 : w3.cell? ⟨w.heap.size, 0, none⟩ = some (.int .i64 ka) := hT3.k0.cell 0
  have c1 : w3.cell? ⟨w.heap.size, 1, none⟩ = some (.string ta) := hT3.k0.cell 1
  have c2 : w3.cell? ⟨w.heap.size + 1, 0, none⟩ = some (.int .i64 kb) := hT3.k1.cell 0
  have c3 : w3.cell? ⟨w.heap.size + 1, 1, none⟩ = some (.string tb) := hT3.k1.cell 1
  have c4 : w3.cell? ⟨w.heap.size + 1 + 1, 0, none⟩ = some (.int .i64 13) := hT3.k2.cell 0
  have c5 : w3.cell? ⟨w.heap.size + 1 + 1, 1, none⟩ = some (.string ⟨#[58]⟩) := hT3.k2.cell 1
  have HT3 := Lib.hid hT3
  clear hb3 hT3
  go_wp2_with fail
  go_ret
  exact ⟨by rw [HX.out]; rfl, HT3.out.hb⟩
set_option maxRecDepth 100000 in
set_option maxHeartbeats 8000000 in
theorem tight_c5 (ka kb : Int) (ta tb : ByteArray) (w : World) (hw : OpsAt w) (hs : ta.size + tb.size ≤ 140737488351232)
    (hia0 : idleB ka = false) (hib0 : idleB kb = false) (h13 : ka = 13) (hta : ta.data.toList = [58]) (hk13 : kb = 13) (htb : tb.data.toList = [58]) :
    Calls Tryz.prog 20 #[.agg #[.int .i64 ka, .string ta], .agg #[.int .i64 kb, .string tb]] w fun e w' => e = .returned (.bool (tightB (ka, ta) (kb, tb))) ∧ Below w.heap.size w w' := by
  have hia := fun w => idle_calls ka ta w
  have hib := fun w => idle_calls kb tb w
  have hsa := fun w => ofString_calls ka ta w
  have hsb := fun w => ofString_calls kb tb w
  simp only [hia0] at hia
  simp only [hib0] at hib
  have hb : tightB (ka, ta) (kb, tb) = false := tb_col (Prod.ext h13 hta) (Prod.ext hk13 htb)
  have q0 : (ka == 6) = false := beq_eq_false_iff_ne.2 (by omega)
  have q1 : (ka == 13) = true := beq_iff_eq.2 h13
  have q2 : (kb == 13) = true := beq_iff_eq.2 hk13
  have s_ta : (ta.toList == [58]) = true := by rw [toList_eq, hta]; rfl
  have s_tb : (tb.toList == [58]) = true := by rw [toList_eq, htb]; rfl
  clear h13 hta hk13 htb
  have HX := Lib.hid hb
  have HW := Lib.hid hw
  clear hb hw
  have hT := three_of ka kb ta tb w
  obtain ⟨W1, hW1⟩ : ∃ W1, (((w.alloc (.cells #[.int .i64 ka, .string ta] 24)).alloc (.cells #[.int .i64 kb, .string tb] 24)).alloc (.cells #[.int .i64 13, .string ⟨#[58]⟩] 24)) = W1 := ⟨_, rfl⟩
  rw [hW1] at hT
  have a0 : W1.cell? ⟨w.heap.size, 0, none⟩ = some (.int .i64 ka) := hT.k0.cell 0
  have a1 : W1.cell? ⟨w.heap.size, 1, none⟩ = some (.string ta) := hT.k0.cell 1
  have HT := Lib.hid hT
  clear hT
  go_enter Tryz.func20, Tryz.ntmps20
  go_wp2_with fail
  ((with_reducible refine (hia _).mono ?_); rintro _ w2 ⟨rfl, hb2⟩)
  have hT2 := HT.out.own hb2
  have c0 : w2.cell? ⟨w.heap.size, 0, none⟩ = some (.int .i64 ka) := hT2.k0.cell 0
  have c1 : w2.cell? ⟨w.heap.size, 1, none⟩ = some (.string ta) := hT2.k0.cell 1
  have c2 : w2.cell? ⟨w.heap.size + 1, 0, none⟩ = some (.int .i64 kb) := hT2.k1.cell 0
  have c3 : w2.cell? ⟨w.heap.size + 1, 1, none⟩ = some (.string tb) := hT2.k1.cell 1
  have c4 : w2.cell? ⟨w.heap.size + 1 + 1, 0, none⟩ = some (.int .i64 13) := hT2.k2.cell 0
  have c5 : w2.cell? ⟨w.heap.size + 1 + 1, 1, none⟩ = some (.string ⟨#[58]⟩) := hT2.k2.cell 1
  have HT2 := Lib.hid hT2
  clear hb2 hT2 a0 a1
  go_wp2_with fail
  ((with_reducible refine (hib _).mono ?_); rintro _ w3 ⟨rfl, hb3⟩)
  clear c0 c1 c2 c3 c4 c5
  have hT3 := HT2.out.own hb3
  have c0 : w3.cell? ⟨w.heap.size, 0, none⟩ = some (.int .i64 ka) := hT3.k0.cell 0
  have c1 : w3.cell? ⟨w.heap.size, 1, none⟩ = some (.string ta) := hT3.k0.cell 1
  have c2 : w3.cell? ⟨w.heap.size + 1, 0, none⟩ = some (.int .i64 kb) := hT3.k1.cell 0
  have c3 : w3.cell? ⟨w.heap.size + 1, 1, none⟩ = some (.string tb) := hT3.k1.cell 1
  have c4 : w3.cell? ⟨w.heap.size + 1 + 1, 0, none⟩ = some (.int .i64 13) := hT3.k2.cell 0
  have c5 : w3.cell? ⟨w.heap.size + 1 + 1, 1, none⟩ = some (.string ⟨#[58]⟩) := hT3.k2.cell 1
  have HT3 := Lib.hid hT3
  clear hb3 hT3
  go_wp2_with fail
  go_ret
  exact ⟨by rw [HX.out]; rfl, HT3.out.hb⟩
end Go.Proofs.YtmoamfcaokefiaaGreatDoor.it

/-
  items: idle, counts, ofString, Tight: their contracts.
-/
namespace Go.Proofs.YtmoamfcaokefiaaGreatDoor.it
open Go.RowKit Go.Shelf
open sg (lst_len OpsAt)
open lx
set_option linter.unusedVariables false

set_option maxRecDepth 100000 in
set_option maxHeartbeats 8000000 in
theorem tight_n1c1S (ka kb : Int) (ta tb : ByteArray) (w : World) (hw : OpsAt w) (hs : ta.size + tb.size ≤ 140737488351232)
    (hia0 : idleB ka = false) (hib0 : idleB kb = false) (h6 : ka ≠ 6) (h13 : ka ≠ 13) (hsa0 : strB ka = true) :
    Calls Tryz.prog 20 #[.agg #[.int .i64 ka, .string ta], .agg #[.int .i64 kb, .string tb]] w fun e w' => e = .returned (.bool (tightB (ka, ta) (kb, tb))) ∧ Below w.heap.size w w' := by
  have hia := fun w => idle_calls ka ta w
  have hib := fun w => idle_calls kb tb w
  have hsa := fun w => ofString_calls ka ta w
  have hsb := fun w => ofString_calls kb tb w
  simp only [hia0] at hia
  simp only [hib0] at hib
  simp only [hsa0] at hsa
  have hb : tightB (ka, ta) (kb, tb) = true := tb_str (a := (ka, ta)) (b := (kb, tb)) hia0 hib0 (fun e => h6 e.1) (fun e => h13 (congrArg Prod.fst e.1)) (.inl hsa0)
  have q0 : (ka == 6) = false := beq_eq_false_iff_ne.2 h6
  have q1 : (ka == 13) = false := beq_eq_false_iff_ne.2 h13
  clear h6 h13
  have HX := Lib.hid hb
  have HW := Lib.hid hw
  clear hb hw
  have hT := three_of ka kb ta tb w
  obtain ⟨W1, hW1⟩ : ∃ W1, (((w.alloc (.cells #[.int .i64 ka, .string ta] 24)).alloc (.cells #[.int .i64 kb, .string tb] 24)).alloc (.cells #[.int .i64 13, .string ⟨#[58]⟩] 24)) = W1 := ⟨_, rfl⟩
  rw [hW1] at hT
  have a0 : W1.cell? ⟨w.heap.size, 0, none⟩ = some (.int .i64 ka) := hT.k0.cell 0
  have a1 : W1.cell? ⟨w.heap.size, 1, none⟩ = some (.string ta) := hT.k0.cell 1
  have HT := Lib.hid hT
  clear hT
  go_enter Tryz.func20, Tryz.ntmps20
  go_wp2_with fail
  ((with_reducible refine (hia _).mono ?_); rintro _ w2 ⟨rfl, hb2⟩)
  have hT2 := HT.out.own hb2
  have c0 : w2.cell? ⟨w.heap.size, 0, none⟩ = some (.int .i64 ka) := hT2.k0.cell 0
  have c1 : w2.cell? ⟨w.heap.size, 1, none⟩ = some (.string ta) := hT2.k0.cell 1
  have c2 : w2.cell? ⟨w.heap.size + 1, 0, none⟩ = some (.int .i64 kb) := hT2.k1.cell 0
  have c3 : w2.cell? ⟨w.heap.size + 1, 1, none⟩ = some (.string tb) := hT2.k1.cell 1
  have c4 : w2.cell? ⟨w.heap.size + 1 + 1, 0, none⟩ = some (.int .i64 13) := hT2.k2.cell 0
  have c5 : w2.cell? ⟨w.heap.size + 1 + 1, 1, none⟩ = some (.string ⟨#[58]⟩) := hT2.k2.cell 1
  have HT2 := Lib.hid hT2
  clear hb2 hT2 a0 a1
  go_wp2_with fail
  ((with_reducible refine (hib _).mono ?_); rintro _ w3 ⟨rfl, hb3⟩)
  clear c0 c1 c2 c3 c4 c5
  have hT3 := HT2.out.own hb3
  have c0 : w3.cell? ⟨w.heap.size, 0, none⟩ = some (.int .i64 ka) := hT3.k0.cell 0
  have c1 : w3.cell? ⟨w.heap.size, 1, none⟩ = some (.string ta) := hT3.k0.cell 1
  have c2 : w3.cell? ⟨w.heap.size + 1, 0, none⟩ = some (.int .i64 kb) := hT3.k1.cell 0
  have c3 : w3.cell? ⟨w.heap.size + 1, 1, none⟩ = some (.string tb) := hT3.k1.cell 1
  have c4 : w3.cell? ⟨w.heap.size + 1 + 1, 0, none⟩ = some (.int .i64 13) := hT3.k2.cell 0
  have c5 : w3.cell? ⟨w.heap.size + 1 + 1, 1, none⟩ = some (.string ⟨#[58]⟩) := hT3.k2.cell 1
  have HT3 := Lib.hid hT3
  clear hb3 hT3
  go_wp2_with fail
  ((with_reducible refine (hsa _).mono ?_); rintro _ w4 ⟨rfl, hb4⟩)
  clear c0 c1 c2 c3 c4 c5
  have hT4 := HT3.out.own hb4
  have c0 : w4.cell? ⟨w.heap.size, 0, none⟩ = some (.int .i64 ka) := hT4.k0.cell 0
  have c1 : w4.cell? ⟨w.heap.size, 1, none⟩ = some (.string ta) := hT4.k0.cell 1
  have c2 : w4.cell? ⟨w.heap.size + 1, 0, none⟩ = some (.int .i64 kb) := hT4.k1.cell 0
  have c3 : w4.cell? ⟨w.heap.size + 1, 1, none⟩ = some (.string tb) := hT4.k1.cell 1
  have c4 : w4.cell? ⟨w.heap.size + 1 + 1, 0, none⟩ = some (.int .i64 13) := hT4.k2.cell 0
  have c5 : w4.cell? ⟨w.heap.size + 1 + 1, 1, none⟩ = some (.string ⟨#[58]⟩) := hT4.k2.cell 1
  have HT4 := Lib.hid hT4
  clear hb4 hT4
  go_wp2_with fail
  go_ret
  exact ⟨by rw [HX.out]; rfl, HT4.out.hb⟩
set_option maxRecDepth 100000 in
set_option maxHeartbeats 8000000 in
theorem tight_n1c1T (ka kb : Int) (ta tb : ByteArray) (w : World) (hw : OpsAt w) (hs : ta.size + tb.size ≤ 140737488351232)
    (hia0 : idleB ka = false) (hib0 : idleB kb = false) (h6 : ka ≠ 6) (h13 : ka ≠ 13) (hsa0 : strB ka = false) (hsb0 : strB kb = true) :
    Calls Tryz.prog 20 #[.agg #[.int .i64 ka, .string ta], .agg #[.int .i64 kb, .string tb]] w fun e w' => e = .returned (.bool (tightB (ka, ta) (kb, tb))) ∧ Below w.heap.size w w' := by
  have hia := fun w => idle_calls ka ta w
  have hib := fun w => idle_calls kb tb w
  have hsa := fun w => ofString_calls ka ta w
  have hsb := fun w => ofString_calls kb tb w
  simp only [hia0] at hia
  simp only [hib0] at hib
  simp only [hsa0] at hsa
  simp only [hsb0] at hsb
  have hb : tightB (ka, ta) (kb, tb) = true := tb_str (a := (ka, ta)) (b := (kb, tb)) hia0 hib0 (fun e => h6 e.1) (fun e => h13 (congrArg Prod.fst e.1)) (.inr hsb0)
  have q0 : (ka == 6) = false := beq_eq_false_iff_ne.2 h6
  have q1 : (ka == 13) = false := beq_eq_false_iff_ne.2 h13
  clear h6 h13
  have HX := Lib.hid hb
  have HW := Lib.hid hw
  clear hb hw
  have hT := three_of ka kb ta tb w
  obtain ⟨W1, hW1⟩ : ∃ W1, (((w.alloc (.cells #[.int .i64 ka, .string ta] 24)).alloc (.cells #[.int .i64 kb, .string tb] 24)).alloc (.cells #[.int .i64 13, .string ⟨#[58]⟩] 24)) = W1 := ⟨_, rfl⟩
  rw [hW1] at hT
  have a0 : W1.cell? ⟨w.heap.size, 0, none⟩ = some (.int .i64 ka) := hT.k0.cell 0
  have a1 : W1.cell? ⟨w.heap.size, 1, none⟩ = some (.string ta) := hT.k0.cell 1
  have HT := Lib.hid hT
  clear hT
  go_enter Tryz.func20, Tryz.ntmps20
  go_wp2_with fail
  ((with_reducible refine (hia _).mono ?_); rintro _ w2 ⟨rfl, hb2⟩)
  have hT2 := HT.out.own hb2
  have c0 : w2.cell? ⟨w.heap.size, 0, none⟩ = some (.int .i64 ka) := hT2.k0.cell 0
  have c1 : w2.cell? ⟨w.heap.size, 1, none⟩ = some (.string ta) := hT2.k0.cell 1
  have c2 : w2.cell? ⟨w.heap.size + 1, 0, none⟩ = some (.int .i64 kb) := hT2.k1.cell 0
  have c3 : w2.cell? ⟨w.heap.size + 1, 1, none⟩ = some (.string tb) := hT2.k1.cell 1
  have c4 : w2.cell? ⟨w.heap.size + 1 + 1, 0, none⟩ = some (.int .i64 13) := hT2.k2.cell 0
  have c5 : w2.cell? ⟨w.heap.size + 1 + 1, 1, none⟩ = some (.string ⟨#[58]⟩) := hT2.k2.cell 1
  have HT2 := Lib.hid hT2
  clear hb2 hT2 a0 a1
  go_wp2_with fail
  ((with_reducible refine (hib _).mono ?_); rintro _ w3 ⟨rfl, hb3⟩)
  clear c0 c1 c2 c3 c4 c5
  have hT3 := HT2.out.own hb3
  have c0 : w3.cell? ⟨w.heap.size, 0, none⟩ = some (.int .i64 ka) := hT3.k0.cell 0
  have c1 : w3.cell? ⟨w.heap.size, 1, none⟩ = some (.string ta) := hT3.k0.cell 1
  have c2 : w3.cell? ⟨w.heap.size + 1, 0, none⟩ = some (.int .i64 kb) := hT3.k1.cell 0
  have c3 : w3.cell? ⟨w.heap.size + 1, 1, none⟩ = some (.string tb) := hT3.k1.cell 1
  have c4 : w3.cell? ⟨w.heap.size + 1 + 1, 0, none⟩ = some (.int .i64 13) := hT3.k2.cell 0
  have c5 : w3.cell? ⟨w.heap.size + 1 + 1, 1, none⟩ = some (.string ⟨#[58]⟩) := hT3.k2.cell 1
  have HT3 := Lib.hid hT3
  clear hb3 hT3
  go_wp2_with fail
  ((with_reducible refine (hsa _).mono ?_); rintro _ w4 ⟨rfl, hb4⟩)
  clear c0 c1 c2 c3 c4 c5
  have hT4 := HT3.out.own hb4
  have c0 : w4.cell? ⟨w.heap.size, 0, none⟩ = some (.int .i64 ka) := hT4.k0.cell 0
  have c1 : w4.cell? ⟨w.heap.size, 1, none⟩ = some (.string ta) := hT4.k0.cell 1
  have c2 : w4.cell? ⟨w.heap.size + 1, 0, none⟩ = some (.int .i64 kb) := hT4.k1.cell 0
  have c3 : w4.cell? ⟨w.heap.size + 1, 1, none⟩ = some (.string tb) := hT4.k1.cell 1
  have c4 : w4.cell? ⟨w.heap.size + 1 + 1, 0, none⟩ = some (.int .i64 13) := hT4.k2.cell 0
  have c5 : w4.cell? ⟨w.heap.size + 1 + 1, 1, none⟩ = some (.string ⟨#[58]⟩) := hT4.k2.cell 1
  have HT4 := Lib.hid hT4
  clear hb4 hT4
  go_wp2_with fail
  ((with_reducible refine (hsb _).mono ?_); rintro _ w5 ⟨rfl, hb5⟩)
  clear c0 c1 c2 c3 c4 c5
  have hT5 := HT4.out.own hb5
  have c0 : w5.cell? ⟨w.heap.size, 0, none⟩ = some (.int .i64 ka) := hT5.k0.cell 0
  have c1 : w5.cell? ⟨w.heap.size, 1, none⟩ = some (.string ta) := hT5.k0.cell 1
  have c2 : w5.cell? ⟨w.heap.size + 1, 0, none⟩ = some (.int .i64 kb) := hT5.k1.cell 0
  have c3 : w5.cell? ⟨w.heap.size + 1, 1, none⟩ = some (.string tb) := hT5.k1.cell 1
  have c4 : w5.cell? ⟨w.heap.size + 1 + 1, 0, none⟩ = some (.int .i64 13) := hT5.k2.cell 0
  have c5 : w5.cell? ⟨w.heap.size + 1 + 1, 1, none⟩ = some (.string ⟨#[58]⟩) := hT5.k2.cell 1
  have HT5 := Lib.hid hT5
  clear hb5 hT5
  go_wp2_with fail
  go_ret
  exact ⟨by rw [HX.out]; rfl, HT5.out.hb⟩
set_option maxRecDepth 100000 in
set_option maxHeartbeats 8000000 in
theorem tight_n1c1E (ka kb : Int) (ta tb : ByteArray) (w : World) (hw : OpsAt w) (hs : ta.size + tb.size ≤ 140737488351232)
    (hia0 : idleB ka = false) (hib0 : idleB kb = false) (h6 : ka ≠ 6) (h13 : ka ≠ 13) (hsa0 : strB ka = false) (hsb0 : strB kb = false) (b : Bool) (hb : tightB (ka, ta) (kb, tb) = b) :
    Calls Tryz.prog 20 #[.agg #[.int .i64 ka, .string ta], .agg #[.int .i64 kb, .string tb]] w fun e w' => e = .returned (.bool (tightB (ka, ta) (kb, tb))) ∧ Below w.heap.size w w' := by
  have hia := fun w => idle_calls ka ta w
  have hib := fun w => idle_calls kb tb w
  have hsa := fun w => ofString_calls ka ta w
  have hsb := fun w => ofString_calls kb tb w
  simp only [hia0] at hia
  simp only [hib0] at hib
  simp only [hsa0] at hsa
  simp only [hsb0] at hsb
  have hb0 := hb
  rw [tb_tok (a := (ka, ta)) (b := (kb, tb)) hia0 hib0 (fun e => h6 e.1) (fun e => h13 (congrArg Prod.fst e.1)) hsa0 hsb0] at hb0
  obtain ⟨l, er, at', htl⟩ : ∃ l er at', tokensF (ta ++ tb).data.toList (utf.checkF (ta ++ tb)) = (l, er, at') := ⟨_, _, _, rfl⟩
  have htk := fun w hw => tokens_as (ta ++ tb) w hw l er at' htl
  have hTF : TF (ta.data.toList ++ tb.data.toList) = l := by
    rw [show ta.data.toList ++ tb.data.toList = (ta ++ tb).data.toList by rw [ByteArray.data_append, Array.toList_append], TF_eq, htl]
  have hln : l.length ≤ maxLen := by
    have := tok_len (ta ++ tb) htl
    rw [ByteArray.size_append] at this
    unfold maxLen; omega
  have hxb : decide (l.map asTk = [(ka, ta), (kb, tb)]) = b := by
    rw [← hb0, hTF]
    exact decide_eq_decide.2 (map_pt l [(ka, ta), (kb, tb)])
  have HL := Lib.hid hln; have HXB := Lib.hid hxb
  have hcat : ¬ (9223372036854775807 < ta.size + tb.size) := by omega
  clear hb0 htl hTF hln hxb
  have q0 : (ka == 6) = false := beq_eq_false_iff_ne.2 h6
  have q1 : (ka == 13) = false := beq_eq_false_iff_ne.2 h13
  clear h6 h13
  have HX := Lib.hid hb
  have HW := Lib.hid hw
  clear hb hw
  have hT := three_of ka kb ta tb w
  obtain ⟨W1, hW1⟩ : ∃ W1, (((w.alloc (.cells #[.int .i64 ka, .string ta] 24)).alloc (.cells #[.int .i64 kb, .string tb] 24)).alloc (.cells #[.int .i64 13, .string ⟨#[58]⟩] 24)) = W1 := ⟨_, rfl⟩
  rw [hW1] at hT
  have a0 : W1.cell? ⟨w.heap.size, 0, none⟩ = some (.int .i64 ka) := hT.k0.cell 0
  have a1 : W1.cell? ⟨w.heap.size, 1, none⟩ = some (.string ta) := hT.k0.cell 1
  have HT := Lib.hid hT
  clear hT
  go_enter Tryz.func20, Tryz.ntmps20
  go_wp2_with fail
  ((with_reducible refine (hia _).mono ?_); rintro _ w2 ⟨rfl, hb2⟩)
  have hT2 := HT.out.own hb2
  have c0 : w2.cell? ⟨w.heap.size, 0, none⟩ = some (.int .i64 ka) := hT2.k0.cell 0
  have c1 : w2.cell? ⟨w.heap.size, 1, none⟩ = some (.string ta) := hT2.k0.cell 1
  have c2 : w2.cell? ⟨w.heap.size + 1, 0, none⟩ = some (.int .i64 kb) := hT2.k1.cell 0
  have c3 : w2.cell? ⟨w.heap.size + 1, 1, none⟩ = some (.string tb) := hT2.k1.cell 1
  have c4 : w2.cell? ⟨w.heap.size + 1 + 1, 0, none⟩ = some (.int .i64 13) := hT2.k2.cell 0
  have c5 : w2.cell? ⟨w.heap.size + 1 + 1, 1, none⟩ = some (.string ⟨#[58]⟩) := hT2.k2.cell 1
  have HT2 := Lib.hid hT2
  clear hb2 hT2 a0 a1
  go_wp2_with fail
  ((with_reducible refine (hib _).mono ?_); rintro _ w3 ⟨rfl, hb3⟩)
  clear c0 c1 c2 c3 c4 c5
  have hT3 := HT2.out.own hb3
  have c0 : w3.cell? ⟨w.heap.size, 0, none⟩ = some (.int .i64 ka) := hT3.k0.cell 0
  have c1 : w3.cell? ⟨w.heap.size, 1, none⟩ = some (.string ta) := hT3.k0.cell 1
  have c2 : w3.cell? ⟨w.heap.size + 1, 0, none⟩ = some (.int .i64 kb) := hT3.k1.cell 0
  have c3 : w3.cell? ⟨w.heap.size + 1, 1, none⟩ = some (.string tb) := hT3.k1.cell 1
  have c4 : w3.cell? ⟨w.heap.size + 1 + 1, 0, none⟩ = some (.int .i64 13) := hT3.k2.cell 0
  have c5 : w3.cell? ⟨w.heap.size + 1 + 1, 1, none⟩ = some (.string ⟨#[58]⟩) := hT3.k2.cell 1
  have HT3 := Lib.hid hT3
  clear hb3 hT3
  go_wp2_with fail
  ((with_reducible refine (hsa _).mono ?_); rintro _ w4 ⟨rfl, hb4⟩)
  clear c0 c1 c2 c3 c4 c5
  have hT4 := HT3.out.own hb4
  have c0 : w4.cell? ⟨w.heap.size, 0, none⟩ = some (.int .i64 ka) := hT4.k0.cell 0
  have c1 : w4.cell? ⟨w.heap.size, 1, none⟩ = some (.string ta) := hT4.k0.cell 1
  have c2 : w4.cell? ⟨w.heap.size + 1, 0, none⟩ = some (.int .i64 kb) := hT4.k1.cell 0
  have c3 : w4.cell? ⟨w.heap.size + 1, 1, none⟩ = some (.string tb) := hT4.k1.cell 1
  have c4 : w4.cell? ⟨w.heap.size + 1 + 1, 0, none⟩ = some (.int .i64 13) := hT4.k2.cell 0
  have c5 : w4.cell? ⟨w.heap.size + 1 + 1, 1, none⟩ = some (.string ⟨#[58]⟩) := hT4.k2.cell 1
  have HT4 := Lib.hid hT4
  clear hb4 hT4
  go_wp2_with fail
  ((with_reducible refine (hsb _).mono ?_); rintro _ w5 ⟨rfl, hb5⟩)
  clear c0 c1 c2 c3 c4 c5
  have hT5 := HT4.out.own hb5
  have c0 : w5.cell? ⟨w.heap.size, 0, none⟩ = some (.int .i64 ka) := hT5.k0.cell 0
  have c1 : w5.cell? ⟨w.heap.size, 1, none⟩ = some (.string ta) := hT5.k0.cell 1
  have c2 : w5.cell? ⟨w.heap.size + 1, 0, none⟩ = some (.int .i64 kb) := hT5.k1.cell 0
  have c3 : w5.cell? ⟨w.heap.size + 1, 1, none⟩ = some (.string tb) := hT5.k1.cell 1
  have c4 : w5.cell? ⟨w.heap.size + 1 + 1, 0, none⟩ = some (.int .i64 13) := hT5.k2.cell 0
  have c5 : w5.cell? ⟨w.heap.size + 1 + 1, 1, none⟩ = some (.string ⟨#[58]⟩) := hT5.k2.cell 1
  have HT5 := Lib.hid hT5
  clear hb5 hT5
  go_wp2_with fail
  ((with_reducible refine (htk _ (HW.out.own HT5.out.hb)).mono ?_); rintro _ w6 ⟨v6, rfl, ht6, hb6⟩)
  clear c0 c1 c2 c3 c4 c5
  have hT6 := HT5.out.own hb6
  have c0 : w6.cell? ⟨w.heap.size, 0, none⟩ = some (.int .i64 ka) := hT6.k0.cell 0
  have c1 : w6.cell? ⟨w.heap.size, 1, none⟩ = some (.string ta) := hT6.k0.cell 1
  have c2 : w6.cell? ⟨w.heap.size + 1, 0, none⟩ = some (.int .i64 kb) := hT6.k1.cell 0
  have c3 : w6.cell? ⟨w.heap.size + 1, 1, none⟩ = some (.string tb) := hT6.k1.cell 1
  have c4 : w6.cell? ⟨w.heap.size + 1 + 1, 0, none⟩ = some (.int .i64 13) := hT6.k2.cell 0
  have c5 : w6.cell? ⟨w.heap.size + 1 + 1, 1, none⟩ = some (.string ⟨#[58]⟩) := hT6.k2.cell 1
  obtain ⟨a6, c6, hv6⟩ : ∃ ao cap, v6 = .slice ao l.length cap := by obtain ⟨ao, cap, h, _⟩ := ht6; exact ⟨ao, cap, h⟩
  subst hv6
  have HT6 := Lib.hid hT6; have HQ6 := Lib.hid ht6
  clear hb6 hT6 ht6
  obtain ⟨w7, hw7⟩ : ∃ w7, w6.alloc (.cells #[.int .i64 ka, .string ta, .int .i64 kb, .string tb] 24) = w7 := ⟨_, rfl⟩
  have hb7 : Below w6.heap.size w6 w7 := by rw [← hw7]; exact (Below.refl _ w6).alloc (Nat.le_refl _) _
  have hn7 : sx.Blk w7 w6.heap.size 24 #[.int .i64 ka, .string ta, .int .i64 kb, .string tb] := by rw [← hw7]; exact sx.Blk.new w6 _ _
  have heq := equal_calls (.slice a6 l.length c6) (.slice (some ⟨w6.heap.size, 0, none⟩) 2 2) (l.map asTk) [(ka, ta), (kb, tb)] w7 w7.heap.size (((HQ6.out.tks HL.out).below hb7 (Nat.le_refl _)).mono hb7.size) (two_at hn7) b HXB.out
  have HB7 := Lib.hid (sg.Below.next HT6.out.hb hb7 (Nat.le_refl _))
  clear hb7 hn7
  go_wp2_with fail
  ((with_reducible refine heq.mono ?_); rintro _ w8 ⟨rfl, hb8⟩)
  clear hw7
  go_wp2_with fail
  go_ret
  exact ⟨by rw [HX.out]; rfl, sg.Below.next HB7.out hb8 (Nat.le_refl _)⟩
set_option maxRecDepth 100000 in
set_option maxHeartbeats 8000000 in
theorem tight_n2c1T (ka kb : Int) (ta tb : ByteArray) (w : World) (hw : OpsAt w) (hs : ta.size + tb.size ≤ 140737488351232)
    (hia0 : idleB ka = false) (hib0 : idleB kb = false) (h6 : ka = 6) (hk6 : kb ≠ 6) (hk3 : kb ≠ 3) (hsa0 : strB ka = false) (hsb0 : strB kb = true) :
    Calls Tryz.prog 20 #[.agg #[.int .i64 ka, .string ta], .agg #[.int .i64 kb, .string tb]] w fun e w' => e = .returned (.bool (tightB (ka, ta) (kb, tb))) ∧ Below w.heap.size w w' := by
  have hia := fun w => idle_calls ka ta w
  have hib := fun w => idle_calls kb tb w
  have hsa := fun w => ofString_calls ka ta w
  have hsb := fun w => ofString_calls kb tb w
  simp only [hia0] at hia
  simp only [hib0] at hib
  simp only [hsa0] at hsa
  simp only [hsb0] at hsb
  have hb : tightB (ka, ta) (kb, tb) = true := tb_str (a := (ka, ta)) (b := (kb, tb)) hia0 hib0 (fun e => e.2.elim hk6 hk3) (fun e => by have := congrArg Prod.fst e.1; simp only [pt] at this; omega) (.inr hsb0)
  have q0 : (ka == 6) = true := beq_iff_eq.2 h6
  have q1 : (kb == 6) = false := beq_eq_false_iff_ne.2 hk6
  have q2 : (kb == 3) = false := beq_eq_false_iff_ne.2 hk3
  have q3 : (ka == 13) = false := beq_eq_false_iff_ne.2 (by omega)
  clear h6 hk6 hk3
  have HX := Lib.hid hb
  have HW := Lib.hid hw
  clear hb hw
  have hT := three_of ka kb ta tb w
  obtain ⟨W1, hW1⟩ : ∃ W1, (((w.alloc (.cells #[.int .i64 ka, .string ta] 24)).alloc (.cells #[.int .i64 kb, .string tb] 24)).alloc (.cells #[.int .i64 13, .string ⟨#[58]⟩] 24)) = W1 := ⟨_, rfl⟩
  rw [hW1] at hT
  have a0 : W1.cell? ⟨w.heap.size, 0, none⟩ = some (.int .i64 ka) := hT.k0.cell 0
  have a1 : W1.cell? ⟨w.heap.size, 1, none⟩ = some (.string ta) := hT.k0.cell 1
  have HT := Lib.hid hT
  clear hT
  go_enter Tryz.func20, Tryz.ntmps20
  go_wp2_with fail
  ((with_reducible refine (hia _).mono ?_); rintro _ w2 ⟨rfl, hb2⟩)
  have hT2 := HT.out.own hb2
  have c0 : w2.cell? ⟨w.heap.size, 0, none⟩ = some (.int .i64 ka) := hT2.k0.cell 0
  have c1 : w2.cell? ⟨w.heap.size, 1, none⟩ = some (.string ta) := hT2.k0.cell 1
  have c2 : w2.cell? ⟨w.heap.size + 1, 0, none⟩ = some (.int .i64 kb) := hT2.k1.cell 0
  have c3 : w2.cell? ⟨w.heap.size + 1, 1, none⟩ = some (.string tb) := hT2.k1.cell 1
  have c4 : w2.cell? ⟨w.heap.size + 1 + 1, 0, none⟩ = some (.int .i64 13) := hT2.k2.cell 0
  have c5 : w2.cell? ⟨w.heap.size + 1 + 1, 1, none⟩ = some (.string ⟨#[58]⟩) := hT2.k2.cell 1
  have HT2 := Lib.hid hT2
  clear hb2 hT2 a0 a1
  go_wp2_with fail
  ((with_reducible refine (hib _).mono ?_); rintro _ w3 ⟨rfl, hb3⟩)
  clear c0 c1 c2 c3 c4 c5
  have hT3 := HT2.out.own hb3
  have c0 : w3.cell? ⟨w.heap.size, 0, none⟩ = some (.int .i64 ka) := hT3.k0.cell 0
  have c1 : w3.cell? ⟨w.heap.size, 1, none⟩ = some (.string ta) := hT3.k0.cell 1
  have c2 : w3.cell? ⟨w.heap.size + 1, 0, none⟩ = some (.int .i64 kb) := hT3.k1.cell 0
  have c3 : w3.cell? ⟨w.heap.size + 1, 1, none⟩ = some (.string tb) := hT3.k1.cell 1
  have c4 : w3.cell? ⟨w.heap.size + 1 + 1, 0, none⟩ = some (.int .i64 13) := hT3.k2.cell 0
  have c5 : w3.cell? ⟨w.heap.size + 1 + 1, 1, none⟩ = some (.string ⟨#[58]⟩) := hT3.k2.cell 1
  have HT3 := Lib.hid hT3
  clear hb3 hT3
  go_wp2_with fail
  ((with_reducible refine (hsa _).mono ?_); rintro _ w4 ⟨rfl, hb4⟩)
  clear c0 c1 c2 c3 c4 c5
  have hT4 := HT3.out.own hb4
  have c0 : w4.cell? ⟨w.heap.size, 0, none⟩ = some (.int .i64 ka) := hT4.k0.cell 0
  have c1 : w4.cell? ⟨w.heap.size, 1, none⟩ = some (.string ta) := hT4.k0.cell 1
  have c2 : w4.cell? ⟨w.heap.size + 1, 0, none⟩ = some (.int .i64 kb) := hT4.k1.cell 0
  have c3 : w4.cell? ⟨w.heap.size + 1, 1, none⟩ = some (.string tb) := hT4.k1.cell 1
  have c4 : w4.cell? ⟨w.heap.size + 1 + 1, 0, none⟩ = some (.int .i64 13) := hT4.k2.cell 0
  have c5 : w4.cell? ⟨w.heap.size + 1 + 1, 1, none⟩ = some (.string ⟨#[58]⟩) := hT4.k2.cell 1
  have HT4 := Lib.hid hT4
  clear hb4 hT4
  go_wp2_with fail
  ((with_reducible refine (hsb _).mono ?_); rintro _ w5 ⟨rfl, hb5⟩)
  clear c0 c1 c2 c3 c4 c5
  have hT5 := HT4.out.own hb5
  have c0 : w5.cell? ⟨w.heap.size, 0, none⟩ = some (.int .i64 ka) := hT5.k0.cell 0
  have c1 : w5.cell? ⟨w.heap.size, 1, none⟩ = some (.string ta) := hT5.k0.cell 1
  have c2 : w5.cell? ⟨w.heap.size + 1, 0, none⟩ = some (.int .i64 kb) := hT5.k1.cell 0
  have c3 : w5.cell? ⟨w.heap.size + 1, 1, none⟩ = some (.string tb) := hT5.k1.cell 1
  have c4 : w5.cell? ⟨w.heap.size + 1 + 1, 0, none⟩ = some (.int .i64 13) := hT5.k2.cell 0
  have c5 : w5.cell? ⟨w.heap.size + 1 + 1, 1, none⟩ = some (.string ⟨#[58]⟩) := hT5.k2.cell 1
  have HT5 := Lib.hid hT5
  clear hb5 hT5
  go_wp2_with fail
  go_ret
  exact ⟨by rw [HX.out]; rfl, HT5.out.hb⟩
set_option maxRecDepth 100000 in
set_option maxHeartbeats 8000000 in
theorem tight_n2c1E (ka kb : Int) (ta tb : ByteArray) (w : World) (hw : OpsAt w) (hs : ta.size + tb.size ≤ 140737488351232)
    (hia0 : idleB ka = false) (hib0 : idleB kb = false) (h6 : ka = 6) (hk6 : kb ≠ 6) (hk3 : kb ≠ 3) (hsa0 : strB ka = false) (hsb0 : strB kb = false) (b : Bool) (hb : tightB (ka, ta) (kb, tb) = b) :
    Calls Tryz.prog 20 #[.agg #[.int .i64 ka, .string ta], .agg #[.int .i64 kb, .string tb]] w fun e w' => e = .returned (.bool (tightB (ka, ta) (kb, tb))) ∧ Below w.heap.size w w' := by
  have hia := fun w => idle_calls ka ta w
  have hib := fun w => idle_calls kb tb w
  have hsa := fun w => ofString_calls ka ta w
  have hsb := fun w => ofString_calls kb tb w
  simp only [hia0] at hia
  simp only [hib0] at hib
  simp only [hsa0] at hsa
  simp only [hsb0] at hsb
  have hb0 := hb
  rw [tb_tok (a := (ka, ta)) (b := (kb, tb)) hia0 hib0 (fun e => e.2.elim hk6 hk3) (fun e => by have := congrArg Prod.fst e.1; simp only [pt] at this; omega) hsa0 hsb0] at hb0
  obtain ⟨l, er, at', htl⟩ : ∃ l er at', tokensF (ta ++ tb).data.toList (utf.checkF (ta ++ tb)) = (l, er, at') := ⟨_, _, _, rfl⟩
  have htk := fun w hw => tokens_as (ta ++ tb) w hw l er at' htl
  have hTF : TF (ta.data.toList ++ tb.data.toList) = l := by
    rw [show ta.data.toList ++ tb.data.toList = (ta ++ tb).data.toList by rw [ByteArray.data_append, Array.toList_append], TF_eq, htl]
  have hln : l.length ≤ maxLen := by
    have := tok_len (ta ++ tb) htl
    rw [ByteArray.size_append] at this
    unfold maxLen; omega
  have hxb : decide (l.map asTk = [(ka, ta), (kb, tb)]) = b := by
    rw [← hb0, hTF]
    exact decide_eq_decide.2 (map_pt l [(ka, ta), (kb, tb)])
  have HL := Lib.hid hln; have HXB := Lib.hid hxb
  have hcat : ¬ (9223372036854775807 < ta.size + tb.size) := by omega
  clear hb0 htl hTF hln hxb
  have q0 : (ka == 6) = true := beq_iff_eq.2 h6
  have q1 : (kb == 6) = false := beq_eq_false_iff_ne.2 hk6
  have q2 : (kb == 3) = false := beq_eq_false_iff_ne.2 hk3
  have q3 : (ka == 13) = false := beq_eq_false_iff_ne.2 (by omega)
  clear h6 hk6 hk3
  have HX := Lib.hid hb
  have HW := Lib.hid hw
  clear hb hw
  have hT := three_of ka kb ta tb w
  obtain ⟨W1, hW1⟩ : ∃ W1, (((w.alloc (.cells #[.int .i64 ka, .string ta] 24)).alloc (.cells #[.int .i64 kb, .string tb] 24)).alloc (.cells #[.int .i64 13, .string ⟨#[58]⟩] 24)) = W1 := ⟨_, rfl⟩
  rw [hW1] at hT
  have a0 : W1.cell? ⟨w.heap.size, 0, none⟩ = some (.int .i64 ka) := hT.k0.cell 0
  have a1 : W1.cell? ⟨w.heap.size, 1, none⟩ = some (.string ta) := hT.k0.cell 1
  have HT := Lib.hid hT
  clear hT
  go_enter Tryz.func20, Tryz.ntmps20
  go_wp2_with fail
  ((with_reducible refine (hia _).mono ?_); rintro _ w2 ⟨rfl, hb2⟩)
  have hT2 := HT.out.own hb2
  have c0 : w2.cell? ⟨w.heap.size, 0, none⟩ = some (.int .i64 ka) := hT2.k0.cell 0
  have c1 : w2.cell? ⟨w.heap.size, 1, none⟩ = some (.string ta) := hT2.k0.cell 1
  have c2 : w2.cell? ⟨w.heap.size + 1, 0, none⟩ = some (.int .i64 kb) := hT2.k1.cell 0
  have c3 : w2.cell? ⟨w.heap.size + 1, 1, none⟩ = some (.string tb) := hT2.k1.cell 1
  have c4 : w2.cell? ⟨w.heap.size + 1 + 1, 0, none⟩ = some (.int .i64 13) := hT2.k2.cell 0
  have c5 : w2.cell? ⟨w.heap.size + 1 + 1, 1, none⟩ = some (.string ⟨#[58]⟩) := hT2.k2.cell 1
  have HT2 := Lib.hid hT2
  clear hb2 hT2 a0 a1
  go_wp2_with fail
  ((with_reducible refine (hib _).mono ?_); rintro _ w3 ⟨rfl, hb3⟩)
  clear c0 c1 c2 c3 c4 c5
  have hT3 := HT2.out.own hb3
  have c0 : w3.cell? ⟨w.heap.size, 0, none⟩ = some (.int .i64 ka) := hT3.k0.cell 0
  have c1 : w3.cell? ⟨w.heap.size, 1, none⟩ = some (.string ta) := hT3.k0.cell 1
  have c2 : w3.cell? ⟨w.heap.size + 1, 0, none⟩ = some (.int .i64 kb) := hT3.k1.cell 0
  have c3 : w3.cell? ⟨w.heap.size + 1, 1, none⟩ = some (.string tb) := hT3.k1.cell 1
  have c4 : w3.cell? ⟨w.heap.size + 1 + 1, 0, none⟩ = some (.int .i64 13) := hT3.k2.cell 0
  have c5 : w3.cell? ⟨w.heap.size + 1 + 1, 1, none⟩ = some (.string ⟨#[58]⟩) := hT3.k2.cell 1
  have HT3 := Lib.hid hT3
  clear hb3 hT3
  go_wp2_with fail
  ((with_reducible refine (hsa _).mono ?_); rintro _ w4 ⟨rfl, hb4⟩)
  clear c0 c1 c2 c3 c4 c5
  have hT4 := HT3.out.own hb4
  have c0 : w4.cell? ⟨w.heap.size, 0, none⟩ = some (.int .i64 ka) := hT4.k0.cell 0
  have c1 : w4.cell? ⟨w.heap.size, 1, none⟩ = some (.string ta) := hT4.k0.cell 1
  have c2 : w4.cell? ⟨w.heap.size + 1, 0, none⟩ = some (.int .i64 kb) := hT4.k1.cell 0
  have c3 : w4.cell? ⟨w.heap.size + 1, 1, none⟩ = some (.string tb) := hT4.k1.cell 1
  have c4 : w4.cell? ⟨w.heap.size + 1 + 1, 0, none⟩ = some (.int .i64 13) := hT4.k2.cell 0
  have c5 : w4.cell? ⟨w.heap.size + 1 + 1, 1, none⟩ = some (.string ⟨#[58]⟩) := hT4.k2.cell 1
  have HT4 := Lib.hid hT4
  clear hb4 hT4
  go_wp2_with fail
  ((with_reducible refine (hsb _).mono ?_); rintro _ w5 ⟨rfl, hb5⟩)
  clear c0 c1 c2 c3 c4 c5
  have hT5 := HT4.out.own hb5
  have c0 : w5.cell? ⟨w.heap.size, 0, none⟩ = some (.int .i64 ka) := hT5.k0.cell 0
  have c1 : w5.cell? ⟨w.heap.size, 1, none⟩ = some (.string ta) := hT5.k0.cell 1
  have c2 : w5.cell? ⟨w.heap.size + 1, 0, none⟩ = some (.int .i64 kb) := hT5.k1.cell 0
  have c3 : w5.cell? ⟨w.heap.size + 1, 1, none⟩ = some (.string tb) := hT5.k1.cell 1
  have c4 : w5.cell? ⟨w.heap.size + 1 + 1, 0, none⟩ = some (.int .i64 13) := hT5.k2.cell 0
  have c5 : w5.cell? ⟨w.heap.size + 1 + 1, 1, none⟩ = some (.string ⟨#[58]⟩) := hT5.k2.cell 1
  have HT5 := Lib.hid hT5
  clear hb5 hT5
  go_wp2_with fail
  ((with_reducible refine (htk _ (HW.out.own HT5.out.hb)).mono ?_); rintro _ w6 ⟨v6, rfl, ht6, hb6⟩)
  clear c0 c1 c2 c3 c4 c5
  have hT6 := HT5.out.own hb6
  have c0 : w6.cell? ⟨w.heap.size, 0, none⟩ = some (.int .i64 ka) := hT6.k0.cell 0
  have c1 : w6.cell? ⟨w.heap.size, 1, none⟩ = some (.string ta) := hT6.k0.cell 1
  have c2 : w6.cell? ⟨w.heap.size + 1, 0, none⟩ = some (.int .i64 kb) := hT6.k1.cell 0
  have c3 : w6.cell? ⟨w.heap.size + 1, 1, none⟩ = some (.string tb) := hT6.k1.cell 1
  have c4 : w6.cell? ⟨w.heap.size + 1 + 1, 0, none⟩ = some (.int .i64 13) := hT6.k2.cell 0
  have c5 : w6.cell? ⟨w.heap.size + 1 + 1, 1, none⟩ = some (.string ⟨#[58]⟩) := hT6.k2.cell 1
  obtain ⟨a6, c6, hv6⟩ : ∃ ao cap, v6 = .slice ao l.length cap := by obtain ⟨ao, cap, h, _⟩ := ht6; exact ⟨ao, cap, h⟩
  subst hv6
  have HT6 := Lib.hid hT6; have HQ6 := Lib.hid ht6
  clear hb6 hT6 ht6
  obtain ⟨w7, hw7⟩ : ∃ w7, w6.alloc (.cells #[.int .i64 ka, .string ta, .int .i64 kb, .string tb] 24) = w7 := ⟨_, rfl⟩
  have hb7 : Below w6.heap.size w6 w7 := by rw [← hw7]; exact (Below.refl _ w6).alloc (Nat.le_refl _) _
  have hn7 : sx.Blk w7 w6.heap.size 24 #[.int .i64 ka, .string ta, .int .i64 kb, .string tb] := by rw [← hw7]; exact sx.Blk.new w6 _ _
  have heq := equal_calls (.slice a6 l.length c6) (.slice (some ⟨w6.heap.size, 0, none⟩) 2 2) (l.map asTk) [(ka, ta), (kb, tb)] w7 w7.heap.size (((HQ6.out.tks HL.out).below hb7 (Nat.le_refl _)).mono hb7.size) (two_at hn7) b HXB.out
  have HB7 := Lib.hid (sg.Below.next HT6.out.hb hb7 (Nat.le_refl _))
  clear hb7 hn7
  go_wp2_with fail
  ((with_reducible refine heq.mono ?_); rintro _ w8 ⟨rfl, hb8⟩)
  clear hw7
  go_wp2_with fail
  go_ret
  exact ⟨by rw [HX.out]; rfl, sg.Below.next HB7.out hb8 (Nat.le_refl _)⟩
end Go.Proofs.YtmoamfcaokefiaaGreatDoor.it

/-
  items: idle, counts, ofString, Tight: their contracts.
-/
namespace Go.Proofs.YtmoamfcaokefiaaGreatDoor.it
open Go.RowKit Go.Shelf
open sg (lst_len OpsAt)
open lx
set_option linter.unusedVariables false

set_option maxRecDepth 100000 in
set_option maxHeartbeats 8000000 in
theorem tight_n1c2T (ka kb : Int) (ta tb : ByteArray) (w : World) (hw : OpsAt w) (hs : ta.size + tb.size ≤ 140737488351232)
    (hia0 : idleB ka = false) (hib0 : idleB kb = false) (h13 : ka = 13) (hta : ta.data.toList ≠ [58]) (hsa0 : strB ka = false) (hsb0 : strB kb = true) :
    Calls Tryz.prog 20 #[.agg #[.int .i64 ka, .string ta], .agg #[.int .i64 kb, .string tb]] w fun e w' => e = .returned (.bool (tightB (ka, ta) (kb, tb))) ∧ Below w.heap.size w w' := by
  have hia := fun w => idle_calls ka ta w
  have hib := fun w => idle_calls kb tb w
  have hsa := fun w => ofString_calls ka ta w
  have hsb := fun w => ofString_calls kb tb w
  simp only [hia0] at hia
  simp only [hib0] at hib
  simp only [hsa0] at hsa
  simp only [hsb0] at hsb
  have hb : tightB (ka, ta) (kb, tb) = true := tb_str (a := (ka, ta)) (b := (kb, tb)) hia0 hib0 (fun e => by have := e.1; simp only at this; omega) (fun e => hta (congrArg Prod.snd e.1)) (.inr hsb0)
  have q0 : (ka == 6) = false := beq_eq_false_iff_ne.2 (by omega)
  have q1 : (ka == 13) = true := beq_iff_eq.2 h13
  have s_ta : (ta.toList == [58]) = false := by rw [toList_eq]; exact beq_eq_false_iff_ne.2 hta
  clear h13 hta
  have HX := Lib.hid hb
  have HW := Lib.hid hw
  clear hb hw
  have hT := three_of ka kb ta tb w
  obtain ⟨W1, hW1⟩ : ∃ W1, (((w.alloc (.cells #[.int .i64 ka, .string ta] 24)).alloc (.cells #[.int .i64 kb, .string tb] 24)).alloc (.cells #[.int .i64 13, .string ⟨#[58]⟩] 24)) = W1 := ⟨_, rfl⟩
  rw [hW1] at hT
  have a0 : W1.cell? ⟨w.heap.size, 0, none⟩ = some (.int .i64 ka) := hT.k0.cell 0
  have a1 : W1.cell? ⟨w.heap.size, 1, none⟩ = some (.string ta) := hT.k0.cell 1
  have HT := Lib.hid hT
  clear hT
  go_enter Tryz.func20, Tryz.ntmps20
  go_wp2_with fail
  ((with_reducible refine (hia _).mono ?_); rintro _ w2 ⟨rfl, hb2⟩)
  have hT2 := HT.out.own hb2
  have c0 : w2.cell? ⟨w.heap.size, 0, none⟩ = some (.int .i64 ka) := hT2.k0.cell 0
  have c1 : w2.cell? ⟨w.heap.size, 1, none⟩ = some (.string ta) := hT2.k0.cell 1
  have c2 : w2.cell? ⟨w.heap.size + 1, 0, none⟩ = some (.int .i64 kb) := hT2.k1.cell 0
  have c3 : w2.cell? ⟨w.heap.size + 1, 1, none⟩ = some (.string tb) := hT2.k1.cell 1
  have c4 : w2.cell? ⟨w.heap.size + 1 + 1, 0, none⟩ = some (.int .i64 13) := hT2.k2.cell 0
  have c5 : w2.cell? ⟨w.heap.size + 1 + 1, 1, none⟩ = some (.string ⟨#[58]⟩) := hT2.k2.cell 1
  have HT2 := Lib.hid hT2
  clear hb2 hT2 a0 a1
  go_wp2_with fail
  ((with_reducible refine (hib _).mono ?_); rintro _ w3 ⟨rfl, hb3⟩)
  clear c0 c1 c2 c3 c4 c5
  have hT3 := HT2.out.own hb3
  have c0 : w3.cell? ⟨w.heap.size, 0, none⟩ = some (.int .i64 ka) := hT3.k0.cell 0
  have c1 : w3.cell? ⟨w.heap.size, 1, none⟩ = some (.string ta) := hT3.k0.cell 1
  have c2 : w3.cell? ⟨w.heap.size + 1, 0, none⟩ = some (.int .i64 kb) := hT3.k1.cell 0
  have c3 : w3.cell? ⟨w.heap.size + 1, 1, none⟩ = some (.string tb) := hT3.k1.cell 1
  have c4 : w3.cell? ⟨w.heap.size + 1 + 1, 0, none⟩ = some (.int .i64 13) := hT3.k2.cell 0
  have c5 : w3.cell? ⟨w.heap.size + 1 + 1, 1, none⟩ = some (.string ⟨#[58]⟩) := hT3.k2.cell 1
  have HT3 := Lib.hid hT3
  clear hb3 hT3
  go_wp2_with fail
  ((with_reducible refine (hsa _).mono ?_); rintro _ w4 ⟨rfl, hb4⟩)
  clear c0 c1 c2 c3 c4 c5
  have hT4 := HT3.out.own hb4
  have c0 : w4.cell? ⟨w.heap.size, 0, none⟩ = some (.int .i64 ka) := hT4.k0.cell 0
  have c1 : w4.cell? ⟨w.heap.size, 1, none⟩ = some (.string ta) := hT4.k0.cell 1
  have c2 : w4.cell? ⟨w.heap.size + 1, 0, none⟩ = some (.int .i64 kb) := hT4.k1.cell 0
  have c3 : w4.cell? ⟨w.heap.size + 1, 1, none⟩ = some (.string tb) := hT4.k1.cell 1
  have c4 : w4.cell? ⟨w.heap.size + 1 + 1, 0, none⟩ = some (.int .i64 13) := hT4.k2.cell 0
  have c5 : w4.cell? ⟨w.heap.size + 1 + 1, 1, none⟩ = some (.string ⟨#[58]⟩) := hT4.k2.cell 1
  have HT4 := Lib.hid hT4
  clear hb4 hT4
  go_wp2_with fail
  ((with_reducible refine (hsb _).mono ?_); rintro _ w5 ⟨rfl, hb5⟩)
  clear c0 c1 c2 c3 c4 c5
  have hT5 := HT4.out.own hb5
  have c0 : w5.cell? ⟨w.heap.size, 0, none⟩ = some (.int .i64 ka) := hT5.k0.cell 0
  have c1 : w5.cell? ⟨w.heap.size, 1, none⟩ = some (.string ta) := hT5.k0.cell 1
  have c2 : w5.cell? ⟨w.heap.size + 1, 0, none⟩ = some (.int .i64 kb) := hT5.k1.cell 0
  have c3 : w5.cell? ⟨w.heap.size + 1, 1, none⟩ = some (.string tb) := hT5.k1.cell 1
  have c4 : w5.cell? ⟨w.heap.size + 1 + 1, 0, none⟩ = some (.int .i64 13) := hT5.k2.cell 0
  have c5 : w5.cell? ⟨w.heap.size + 1 + 1, 1, none⟩ = some (.string ⟨#[58]⟩) := hT5.k2.cell 1
  have HT5 := Lib.hid hT5
  clear hb5 hT5
  go_wp2_with fail
  go_ret
  exact ⟨by rw [HX.out]; rfl, HT5.out.hb⟩
set_option maxRecDepth 100000 in
set_option maxHeartbeats 8000000 in
theorem tight_n1c2E (ka kb : Int) (ta tb : ByteArray) (w : World) (hw : OpsAt w) (hs : ta.size + tb.size ≤ 140737488351232)
    (hia0 : idleB ka = false) (hib0 : idleB kb = false) (h13 : ka = 13) (hta : ta.data.toList ≠ [58]) (hsa0 : strB ka = false) (hsb0 : strB kb = false) (b : Bool) (hb : tightB (ka, ta) (kb, tb) = b) :
    Calls Tryz.prog 20 #[.agg #[.int .i64 ka, .string ta], .agg #[.int .i64 kb, .string tb]] w fun e w' => e = .returned (.bool (tightB (ka, ta) (kb, tb))) ∧ Below w.heap.size w w' := by
  have hia := fun w => idle_calls ka ta w
  have hib := fun w => idle_calls kb tb w
  have hsa := fun w => ofString_calls ka ta w
  have hsb := fun w => ofString_calls kb tb w
  simp only [hia0] at hia
  simp only [hib0] at hib
  simp only [hsa0] at hsa
  simp only [hsb0] at hsb
  have hb0 := hb
  rw [tb_tok (a := (ka, ta)) (b := (kb, tb)) hia0 hib0 (fun e => by have := e.1; simp only at this; omega) (fun e => hta (congrArg Prod.snd e.1)) hsa0 hsb0] at hb0
  obtain ⟨l, er, at', htl⟩ : ∃ l er at', tokensF (ta ++ tb).data.toList (utf.checkF (ta ++ tb)) = (l, er, at') := ⟨_, _, _, rfl⟩
  have htk := fun w hw => tokens_as (ta ++ tb) w hw l er at' htl
  have hTF : TF (ta.data.toList ++ tb.data.toList) = l := by
    rw [show ta.data.toList ++ tb.data.toList = (ta ++ tb).data.toList by rw [ByteArray.data_append, Array.toList_append], TF_eq, htl]
  have hln : l.length ≤ maxLen := by
    have := tok_len (ta ++ tb) htl
    rw [ByteArray.size_append] at this
    unfold maxLen; omega
  have hxb : decide (l.map asTk = [(ka, ta), (kb, tb)]) = b := by
    rw [← hb0, hTF]
    exact decide_eq_decide.2 (map_pt l [(ka, ta), (kb, tb)])
  have HL := Lib.hid hln; have HXB := Lib.hid hxb
  have hcat : ¬ (9223372036854775807 < ta.size + tb.size) := by omega
  clear hb0 htl hTF hln hxb
  have q0 : (ka == 6) = false := beq_eq_false_iff_ne.2 (by omega)
  have q1 : (ka == 13) = true := beq_iff_eq.2 h13
  have s_ta : (ta.toList == [58]) = false := by rw [toList_eq]; exact beq_eq_false_iff_ne.2 hta
  clear h13 hta
  have HX := Lib.hid hb
  have HW := Lib.hid hw
  clear hb hw
  have hT := three_of ka kb ta tb w
  obtain ⟨W1, hW1⟩ : ∃ W1, (((w.alloc (.cells #[.int .i64 ka, .string ta] 24)).alloc (.cells #[.int .i64 kb, .string tb] 24)).alloc (.cells #[.int .i64 13, .string ⟨#[58]⟩] 24)) = W1 := ⟨_, rfl⟩
  rw [hW1] at hT
  have a0 : W1.cell? ⟨w.heap.size, 0, none⟩ = some (.int .i64 ka) := hT.k0.cell 0
  have a1 : W1.cell? ⟨w.heap.size, 1, none⟩ = some (.string ta) := hT.k0.cell 1
  have HT := Lib.hid hT
  clear hT
  go_enter Tryz.func20, Tryz.ntmps20
  go_wp2_with fail
  ((with_reducible refine (hia _).mono ?_); rintro _ w2 ⟨rfl, hb2⟩)
  have hT2 := HT.out.own hb2
  have c0 : w2.cell? ⟨w.heap.size, 0, none⟩ = some (.int .i64 ka) := hT2.k0.cell 0
  have c1 : w2.cell? ⟨w.heap.size, 1, none⟩ = some (.string ta) := hT2.k0.cell 1
  have c2 : w2.cell? ⟨w.heap.size + 1, 0, none⟩ = some (.int .i64 kb) := hT2.k1.cell 0
  have c3 : w2.cell? ⟨w.heap.size + 1, 1, none⟩ = some (.string tb) := hT2.k1.cell 1
  have c4 : w2.cell? ⟨w.heap.size + 1 + 1, 0, none⟩ = some (.int .i64 13) := hT2.k2.cell 0
  have c5 : w2.cell? ⟨w.heap.size + 1 + 1, 1, none⟩ = some (.string ⟨#[58]⟩) := hT2.k2.cell 1
  have HT2 := Lib.hid hT2
  clear hb2 hT2 a0 a1
  go_wp2_with fail
  ((with_reducible refine (hib _).mono ?_); rintro _ w3 ⟨rfl, hb3⟩)
  clear c0 c1 c2 c3 c4 c5
  have hT3 := HT2.out.own hb3
  have c0 : w3.cell? ⟨w.heap.size, 0, none⟩ = some (.int .i64 ka) := hT3.k0.cell 0
  have c1 : w3.cell? ⟨w.heap.size, 1, none⟩ = some (.string ta) := hT3.k0.cell 1
  have c2 : w3.cell? ⟨w.heap.size + 1, 0, none⟩ = some (.int .i64 kb) := hT3.k1.cell 0
  have c3 : w3.cell? ⟨w.heap.size + 1, 1, none⟩ = some (.string tb) := hT3.k1.cell 1
  have c4 : w3.cell? ⟨w.heap.size + 1 + 1, 0, none⟩ = some (.int .i64 13) := hT3.k2.cell 0
  have c5 : w3.cell? ⟨w.heap.size + 1 + 1, 1, none⟩ = some (.string ⟨#[58]⟩) := hT3.k2.cell 1
  have HT3 := Lib.hid hT3
  clear hb3 hT3
  go_wp2_with fail
  ((with_reducible refine (hsa _).mono ?_); rintro _ w4 ⟨rfl, hb4⟩)
  clear c0 c1 c2 c3 c4 c5
  have hT4 := HT3.out.own hb4
  have c0 : w4.cell? ⟨w.heap.size, 0, none⟩ = some (.int .i64 ka) := hT4.k0.cell 0
  have c1 : w4.cell? ⟨w.heap.size, 1, none⟩ = some (.string ta) := hT4.k0.cell 1
  have c2 : w4.cell? ⟨w.heap.size + 1, 0, none⟩ = some (.int .i64 kb) := hT4.k1.cell 0
  have c3 : w4.cell? ⟨w.heap.size + 1, 1, none⟩ = some (.string tb) := hT4.k1.cell 1
  have c4 : w4.cell? ⟨w.heap.size + 1 + 1, 0, none⟩ = some (.int .i64 13) := hT4.k2.cell 0
  have c5 : w4.cell? ⟨w.heap.size + 1 + 1, 1, none⟩ = some (.string ⟨#[58]⟩) := hT4.k2.cell 1
  have HT4 := Lib.hid hT4
  clear hb4 hT4
  go_wp2_with fail
  ((with_reducible refine (hsb _).mono ?_); rintro _ w5 ⟨rfl, hb5⟩)
  clear c0 c1 c2 c3 c4 c5
  have hT5 := HT4.out.own hb5
  have c0 : w5.cell? ⟨w.heap.size, 0, none⟩ = some (.int .i64 ka) := hT5.k0.cell 0
  have c1 : w5.cell? ⟨w.heap.size, 1, none⟩ = some (.string ta) := hT5.k0.cell 1
  have c2 : w5.cell? ⟨w.heap.size + 1, 0, none⟩ = some (.int .i64 kb) := hT5.k1.cell 0
  have c3 : w5.cell? ⟨w.heap.size + 1, 1, none⟩ = some (.string tb) := hT5.k1.cell 1
  have c4 : w5.cell? ⟨w.heap.size + 1 + 1, 0, none⟩ = some (.int .i64 13) := hT5.k2.cell 0
  have c5 : w5.cell? ⟨w.heap.size + 1 + 1, 1, none⟩ = some (.string ⟨#[58]⟩) := hT5.k2.cell 1
  have HT5 := Lib.hid hT5
  clear hb5 hT5
  go_wp2_with fail
  ((with_reducible refine (htk _ (HW.out.own HT5.out.hb)).mono ?_); rintro _ w6 ⟨v6, rfl, ht6, hb6⟩)
  clear c0 c1 c2 c3 c4 c5
  have hT6 := HT5.out.own hb6
  have c0 : w6.cell? ⟨w.heap.size, 0, none⟩ = some (.int .i64 ka) := hT6.k0.cell 0
  have c1 : w6.cell? ⟨w.heap.size, 1, none⟩ = some (.string ta) := hT6.k0.cell 1
  have c2 : w6.cell? ⟨w.heap.size + 1, 0, none⟩ = some (.int .i64 kb) := hT6.k1.cell 0
  have c3 : w6.cell? ⟨w.heap.size + 1, 1, none⟩ = some (.string tb) := hT6.k1.cell 1
  have c4 : w6.cell? ⟨w.heap.size + 1 + 1, 0, none⟩ = some (.int .i64 13) := hT6.k2.cell 0
  have c5 : w6.cell? ⟨w.heap.size + 1 + 1, 1, none⟩ = some (.string ⟨#[58]⟩) := hT6.k2.cell 1
  obtain ⟨a6, c6, hv6⟩ : ∃ ao cap, v6 = .slice ao l.length cap := by obtain ⟨ao, cap, h, _⟩ := ht6; exact ⟨ao, cap, h⟩
  subst hv6
  have HT6 := Lib.hid hT6; have HQ6 := Lib.hid ht6
  clear hb6 hT6 ht6
  obtain ⟨w7, hw7⟩ : ∃ w7, w6.alloc (.cells #[.int .i64 ka, .string ta, .int .i64 kb, .string tb] 24) = w7 := ⟨_, rfl⟩
  have hb7 : Below w6.heap.size w6 w7 := by rw [← hw7]; exact (Below.refl _ w6).alloc (Nat.le_refl _) _
  have hn7 : sx.Blk w7 w6.heap.size 24 #[.int .i64 ka, .string ta, .int .i64 kb, .string tb] := by rw [← hw7]; exact sx.Blk.new w6 _ _
  have heq := equal_calls (.slice a6 l.length c6) (.slice (some ⟨w6.heap.size, 0, none⟩) 2 2) (l.map asTk) [(ka, ta), (kb, tb)] w7 w7.heap.size (((HQ6.out.tks HL.out).below hb7 (Nat.le_refl _)).mono hb7.size) (two_at hn7) b HXB.out
  have HB7 := Lib.hid (sg.Below.next HT6.out.hb hb7 (Nat.le_refl _))
  clear hb7 hn7
  go_wp2_with fail
  ((with_reducible refine heq.mono ?_); rintro _ w8 ⟨rfl, hb8⟩)
  clear hw7
  go_wp2_with fail
  go_ret
  exact ⟨by rw [HX.out]; rfl, sg.Below.next HB7.out hb8 (Nat.le_refl _)⟩
set_option maxRecDepth 100000 in
set_option maxHeartbeats 8000000 in
theorem tight_n1c3T (ka kb : Int) (ta tb : ByteArray) (w : World) (hw : OpsAt w) (hs : ta.size + tb.size ≤ 140737488351232)
    (hia0 : idleB ka = false) (hib0 : idleB kb = false) (h13 : ka = 13) (hta : ta.data.toList = [58]) (hk13 : kb ≠ 13) (hsa0 : strB ka = false) (hsb0 : strB kb = true) :
    Calls Tryz.prog 20 #[.agg #[.int .i64 ka, .string ta], .agg #[.int .i64 kb, .string tb]] w fun e w' => e = .returned (.bool (tightB (ka, ta) (kb, tb))) ∧ Below w.heap.size w w' := by
  have hia := fun w => idle_calls ka ta w
  have hib := fun w => idle_calls kb tb w
  have hsa := fun w => ofString_calls ka ta w
  have hsb := fun w => ofString_calls kb tb w
  simp only [hia0] at hia
  simp only [hib0] at hib
  simp only [hsa0] at hsa
  simp only [hsb0] at hsb
  have hb : tightB (ka, ta) (kb, tb) = true := tb_str (a := (ka, ta)) (b := (kb, tb)) hia0 hib0 (fun e => by have := e.1; simp only at this; omega) (fun e => hk13 (congrArg Prod.fst e.2)) (.inr hsb0)
  have q0 : (ka == 6) = false := beq_eq_false_iff_ne.2 (by omega)
  have q1 : (ka == 13) = true := beq_iff_eq.2 h13
  have q2 : (kb == 13) = false := beq_eq_false_iff_ne.2 hk13
  have s_ta : (ta.toList == [58]) = true := by rw [toList_eq, hta]; rfl
  clear h13 hta hk13
  have HX := Lib.hid hb
  have HW := Lib.hid hw
  clear hb hw
  have hT := three_of ka kb ta tb w
  obtain ⟨W1, hW1⟩ : ∃ W1, (((w.alloc (.cells #[.int .i64 ka, .string ta] 24)).alloc (.cells #[.int .i64 kb, .string tb] 24)).alloc (.cells #[.int .i64 13, .string ⟨#[58]⟩] 24)) = W1 := ⟨_, rfl⟩
  rw [hW1] at hT
  have a0 : W1.cell? ⟨w.heap.size, 0, none⟩ = some (.int .i64 ka) := hT.k0.cell 0
  have a1 : W1.cell? ⟨w.heap.size, 1, none⟩ = some (.string ta) := hT.k0.cell 1
  have HT := Lib.hid hT
  clear hT
  go_enter Tryz.func20, Tryz.ntmps20
  go_wp2_with fail
  ((with_reducible refine (hia _).mono ?_); rintro _ w2 ⟨rfl, hb2⟩)
  have hT2 := HT.out.own hb2
  have c0 : w2.cell? ⟨w.heap.size, 0, none⟩ = some (.int .i64 ka) := hT2.k0.cell 0
  have c1 : w2.cell? ⟨w.heap.size, 1, none⟩ = some (.string ta) := hT2.k0.cell 1
  have c2 : w2.cell? ⟨w.heap.size + 1, 0, none⟩ = some (.int .i64 kb) := hT2.k1.cell 0
  have c3 : w2.cell? ⟨w.heap.size + 1, 1, none⟩ = some (.string tb) := hT2.k1.cell 1
  have c4 : w2.cell? ⟨w.heap.size + 1 + 1, 0, none⟩ = some (.int .i64 13) := hT2.k2.cell 0
  have c5 : w2.cell? ⟨w.heap.size + 1 + 1, 1, none⟩ = some (.string ⟨#[58]⟩) := hT2.k2.cell 1
  have HT2 := Lib.hid hT2
  clear hb2 hT2 a0 a1
  go_wp2_with fail
  ((with_reducible refine (hib _).mono ?_); rintro _ w3 ⟨rfl, hb3⟩)
  clear c0 c1 c2 c3 c4 c5
  have hT3 := HT2.out.own hb3
  have c0 : w3.cell? ⟨w.heap.size, 0, none⟩ = some (.int .i64 ka) := hT3.k0.cell 0
  have c1 : w3.cell? ⟨w.heap.size, 1, none⟩ = some (.string ta) := hT3.k0.cell 1
  have c2 : w3.cell? ⟨w.heap.size + 1, 0, none⟩ = some (.int .i64 kb) := hT3.k1.cell 0
  have c3 : w3.cell? ⟨w.heap.size + 1, 1, none⟩ = some (.string tb) := hT3.k1.cell 1
  have c4 : w3.cell? ⟨w.heap.size + 1 + 1, 0, none⟩ = some (.int .i64 13) := hT3.k2.cell 0
  have c5 : w3.cell? ⟨w.heap.size + 1 + 1, 1, none⟩ = some (.string ⟨#[58]⟩) := hT3.k2.cell 1
  have HT3 := Lib.hid hT3
  clear hb3 hT3
  go_wp2_with fail
  ((with_reducible refine (hsa _).mono ?_); rintro _ w4 ⟨rfl, hb4⟩)
  clear c0 c1 c2 c3 c4 c5
  have hT4 := HT3.out.own hb4
  have c0 : w4.cell? ⟨w.heap.size, 0, none⟩ = some (.int .i64 ka) := hT4.k0.cell 0
  have c1 : w4.cell? ⟨w.heap.size, 1, none⟩ = some (.string ta) := hT4.k0.cell 1
  have c2 : w4.cell? ⟨w.heap.size + 1, 0, none⟩ = some (.int .i64 kb) := hT4.k1.cell 0
  have c3 : w4.cell? ⟨w.heap.size + 1, 1, none⟩ = some (.string tb) := hT4.k1.cell 1
  have c4 : w4.cell? ⟨w.heap.size + 1 + 1, 0, none⟩ = some (.int .i64 13) := hT4.k2.cell 0
  have c5 : w4.cell? ⟨w.heap.size + 1 + 1, 1, none⟩ = some (.string ⟨#[58]⟩) := hT4.k2.cell 1
  have HT4 := Lib.hid hT4
  clear hb4 hT4
  go_wp2_with fail
  ((with_reducible refine (hsb _).mono ?_); rintro _ w5 ⟨rfl, hb5⟩)
  clear c0 c1 c2 c3 c4 c5
  have hT5 := HT4.out.own hb5
  have c0 : w5.cell? ⟨w.heap.size, 0, none⟩ = some (.int .i64 ka) := hT5.k0.cell 0
  have c1 : w5.cell? ⟨w.heap.size, 1, none⟩ = some (.string ta) := hT5.k0.cell 1
  have c2 : w5.cell? ⟨w.heap.size + 1, 0, none⟩ = some (.int .i64 kb) := hT5.k1.cell 0
  have c3 : w5.cell? ⟨w.heap.size + 1, 1, none⟩ = some (.string tb) := hT5.k1.cell 1
  have c4 : w5.cell? ⟨w.heap.size + 1 + 1, 0, none⟩ = some (.int .i64 13) := hT5.k2.cell 0
  have c5 : w5.cell? ⟨w.heap.size + 1 + 1, 1, none⟩ = some (.string ⟨#[58]⟩) := hT5.k2.cell 1
  have HT5 := Lib.hid hT5
  clear hb5 hT5
  go_wp2_with fail
  go_ret
  exact ⟨by rw [HX.out]; rfl, HT5.out.hb⟩
set_option maxRecDepth 100000 in
set_option maxHeartbeats 8000000 in
theorem tight_n1c3E (ka kb : Int) (ta tb : ByteArray) (w : World) (hw : OpsAt w) (hs : ta.size + tb.size ≤ 140737488351232)
    (hia0 : idleB ka = false) (hib0 : idleB kb = false) (h13 : ka = 13) (hta : ta.data.toList = [58]) (hk13 : kb ≠ 13) (hsa0 : strB ka = false) (hsb0 : strB kb = false) (b : Bool) (hb : tightB (ka, ta) (kb, tb) = b) :
    Calls Tryz.prog 20 #[.agg #[.int .i64 ka, .string ta], .agg #[.int .i64 kb, .string tb]] w fun e w' => e = .returned (.bool (tightB (ka, ta) (kb, tb))) ∧ Below w.heap.size w w' := by
  have hia := fun w => idle_calls ka ta w
  have hib := fun w => idle_calls kb tb w
  have hsa := fun w => ofString_calls ka ta w
  have hsb := fun w => ofString_calls kb tb w
  simp only [hia0] at hia
  simp only [hib0] at hib
  simp only [hsa0] at hsa
  simp only [hsb0] at hsb
  have hb0 := hb
  rw [tb_tok (a := (ka, ta)) (b := (kb, tb)) hia0 hib0 (fun e => by have := e.1; simp only at this; omega) (fun e => hk13 (congrArg Prod.fst e.2)) hsa0 hsb0] at hb0
  obtain ⟨l, er, at', htl⟩ : ∃ l er at', tokensF (ta ++ tb).data.toList (utf.checkF (ta ++ tb)) = (l, er, at') := ⟨_, _, _, rfl⟩
  have htk := fun w hw => tokens_as (ta ++ tb) w hw l er at' htl
  have hTF : TF (ta.data.toList ++ tb.data.toList) = l := by
    rw [show ta.data.toList ++ tb.data.toList = (ta ++ tb).data.toList by rw [ByteArray.data_append, Array.toList_append], TF_eq, htl]
  have hln : l.length ≤ maxLen := by
    have := tok_len (ta ++ tb) htl
    rw [ByteArray.size_append] at this
    unfold maxLen; omega
  have hxb : decide (l.map asTk = [(ka, ta), (kb, tb)]) = b := by
    rw [← hb0, hTF]
    exact decide_eq_decide.2 (map_pt l [(ka, ta), (kb, tb)])
  have HL := Lib.hid hln; have HXB := Lib.hid hxb
  have hcat : ¬ (9223372036854775807 < ta.size + tb.size) := by omega
  clear hb0 htl hTF hln hxb
  have q0 : (ka == 6) = false := beq_eq_false_iff_ne.2 (by omega)
  have q1 : (ka == 13) = true := beq_iff_eq.2 h13
  have q2 : (kb == 13) = false := beq_eq_false_iff_ne.2 hk13
  have s_ta : (ta.toList == [58]) = true := by rw [toList_eq, hta]; rfl
  clear h13 hta hk13
  have HX := Lib.hid hb
  have HW := Lib.hid hw
  clear hb hw
  have hT := three_of ka kb ta tb w
  obtain ⟨W1, hW1⟩ : ∃ W1, (((w.alloc (.cells #[.int .i64 ka, .string ta] 24)).alloc (.cells #[.int .i64 kb, .string tb] 24)).alloc (.cells #[.int .i64 13, .string ⟨#[58]⟩] 24)) = W1 := ⟨_, rfl⟩
  rw [hW1] at hT
  have a0 : W1.cell? ⟨w.heap.size, 0, none⟩ = some (.int .i64 ka) := hT.k0.cell 0
  have a1 : W1.cell? ⟨w.heap.size, 1, none⟩ = some (.string ta) := hT.k0.cell 1
  have HT := Lib.hid hT
  clear hT
  go_enter Tryz.func20, Tryz.ntmps20
  go_wp2_with fail
  ((with_reducible refine (hia _).mono ?_); rintro _ w2 ⟨rfl, hb2⟩)
  have hT2 := HT.out.own hb2
  have c0 : w2.cell? ⟨w.heap.size, 0, none⟩ = some (.int .i64 ka) := hT2.k0.cell 0
  have c1 : w2.cell? ⟨w.heap.size, 1, none⟩ = some (.string ta) := hT2.k0.cell 1
  have c2 : w2.cell? ⟨w.heap.size + 1, 0, none⟩ = some (.int .i64 kb) := hT2.k1.cell 0
  have c3 : w2.cell? ⟨w.heap.size + 1, 1, none⟩ = some (.string tb) := hT2.k1.cell 1
  have c4 : w2.cell? ⟨w.heap.size + 1 + 1, 0, none⟩ = some (.int .i64 13) := hT2.k2.cell 0
  have c5 : w2.cell? ⟨w.heap.size + 1 + 1, 1, none⟩ = some (.string ⟨#[58]⟩) := hT2.k2.cell 1
  have HT2 := Lib.hid hT2
  clear hb2 hT2 a0 a1
  go_wp2_with fail
  ((with_reducible refine (hib _).mono ?_); rintro _ w3 ⟨rfl, hb3⟩)
  clear c0 c1 c2 c3 c4 c5
  have hT3 := HT2.out.own hb3
  have c0 : w3.cell? ⟨w.heap.size, 0, none⟩ = some (.int .i64 ka) := hT3.k0.cell 0
  have c1 : w3.cell? ⟨w.heap.size, 1, none⟩ = some (.string ta) := hT3.k0.cell 1
  have c2 : w3.cell? ⟨w.heap.size + 1, 0, none⟩ = some (.int .i64 kb) := hT3.k1.cell 0
  have c3 : w3.cell? ⟨w.heap.size + 1, 1, none⟩ = some (.string tb) := hT3.k1.cell 1
  have c4 : w3.cell? ⟨w.heap.size + 1 + 1, 0, none⟩ = some (.int .i64 13) := hT3.k2.cell 0
  have c5 : w3.cell? ⟨w.heap.size + 1 + 1, 1, none⟩ = some (.string ⟨#[58]⟩) := hT3.k2.cell 1
  have HT3 := Lib.hid hT3
  clear hb3 hT3
  go_wp2_with fail
  ((with_reducible refine (hsa _).mono ?_); rintro _ w4 ⟨rfl, hb4⟩)
  clear c0 c1 c2 c3 c4 c5
  have hT4 := HT3.out.own hb4
  have c0 : w4.cell? ⟨w.heap.size, 0, none⟩ = some (.int .i64 ka) := hT4.k0.cell 0
  have c1 : w4.cell? ⟨w.heap.size, 1, none⟩ = some (.string ta) := hT4.k0.cell 1
  have c2 : w4.cell? ⟨w.heap.size + 1, 0, none⟩ = some (.int .i64 kb) := hT4.k1.cell 0
  have c3 : w4.cell? ⟨w.heap.size + 1, 1, none⟩ = some (.string tb) := hT4.k1.cell 1
  have c4 : w4.cell? ⟨w.heap.size + 1 + 1, 0, none⟩ = some (.int .i64 13) := hT4.k2.cell 0
  have c5 : w4.cell? ⟨w.heap.size + 1 + 1, 1, none⟩ = some (.string ⟨#[58]⟩) := hT4.k2.cell 1
  have HT4 := Lib.hid hT4
  clear hb4 hT4
  go_wp2_with fail
  ((with_reducible refine (hsb _).mono ?_); rintro _ w5 ⟨rfl, hb5⟩)
  clear c0 c1 c2 c3 c4 c5
  have hT5 := HT4.out.own hb5
  have c0 : w5.cell? ⟨w.heap.size, 0, none⟩ = some (.int .i64 ka) := hT5.k0.cell 0
  have c1 : w5.cell? ⟨w.heap.size, 1, none⟩ = some (.string ta) := hT5.k0.cell 1
  have c2 : w5.cell? ⟨w.heap.size + 1, 0, none⟩ = some (.int .i64 kb) := hT5.k1.cell 0
  have c3 : w5.cell? ⟨w.heap.size + 1, 1, none⟩ = some (.string tb) := hT5.k1.cell 1
  have c4 : w5.cell? ⟨w.heap.size + 1 + 1, 0, none⟩ = some (.int .i64 13) := hT5.k2.cell 0
  have c5 : w5.cell? ⟨w.heap.size + 1 + 1, 1, none⟩ = some (.string ⟨#[58]⟩) := hT5.k2.cell 1
  have HT5 := Lib.hid hT5
  clear hb5 hT5
  go_wp2_with fail
  ((with_reducible refine (htk _ (HW.out.own HT5.out.hb)).mono ?_); rintro _ w6 ⟨v6, rfl, ht6, hb6⟩)
  clear c0 c1 c2 c3 c4 c5
  have hT6 := HT5.out.own hb6
  have c0 : w6.cell? ⟨w.heap.size, 0, none⟩ = some (.int .i64 ka) := hT6.k0.cell 0
  have c1 : w6.cell? ⟨w.heap.size, 1, none⟩ = some (.string ta) := hT6.k0.cell 1
  have c2 : w6.cell? ⟨w.heap.size + 1, 0, none⟩ = some (.int .i64 kb) := hT6.k1.cell 0
  have c3 : w6.cell? ⟨w.heap.size + 1, 1, none⟩ = some (.string tb) := hT6.k1.cell 1
  have c4 : w6.cell? ⟨w.heap.size + 1 + 1, 0, none⟩ = some (.int .i64 13) := hT6.k2.cell 0
  have c5 : w6.cell? ⟨w.heap.size + 1 + 1, 1, none⟩ = some (.string ⟨#[58]⟩) := hT6.k2.cell 1
  obtain ⟨a6, c6, hv6⟩ : ∃ ao cap, v6 = .slice ao l.length cap := by obtain ⟨ao, cap, h, _⟩ := ht6; exact ⟨ao, cap, h⟩
  subst hv6
  have HT6 := Lib.hid hT6; have HQ6 := Lib.hid ht6
  clear hb6 hT6 ht6
  obtain ⟨w7, hw7⟩ : ∃ w7, w6.alloc (.cells #[.int .i64 ka, .string ta, .int .i64 kb, .string tb] 24) = w7 := ⟨_, rfl⟩
  have hb7 : Below w6.heap.size w6 w7 := by rw [← hw7]; exact (Below.refl _ w6).alloc (Nat.le_refl _) _
  have hn7 : sx.Blk w7 w6.heap.size 24 #[.int .i64 ka, .string ta, .int .i64 kb, .string tb] := by rw [← hw7]; exact sx.Blk.new w6 _ _
  have heq := equal_calls (.slice a6 l.length c6) (.slice (some ⟨w6.heap.size, 0, none⟩) 2 2) (l.map asTk) [(ka, ta), (kb, tb)] w7 w7.heap.size (((HQ6.out.tks HL.out).below hb7 (Nat.le_refl _)).mono hb7.size) (two_at hn7) b HXB.out
  have HB7 := Lib.hid (sg.Below.next HT6.out.hb hb7 (Nat.le_refl _))
  clear hb7 hn7
  go_wp2_with fail
  ((with_reducible refine heq.mono ?_); rintro _ w8 ⟨rfl, hb8⟩)
  clear hw7
  go_wp2_with fail
  go_ret
  exact ⟨by rw [HX.out]; rfl, sg.Below.next HB7.out hb8 (Nat.le_refl _)⟩
set_option maxRecDepth 100000 in
set_option maxHeartbeats 8000000 in
theorem tight_n1c4T (ka kb : Int) (ta tb : ByteArray) (w : World) (hw : OpsAt w) (hs : ta.size + tb.size ≤ 140737488351232)
    (hia0 : idleB ka = false) (hib0 : idleB kb = false) (h13 : ka = 13) (hta : ta.data.toList = [58]) (hk13 : kb = 13) (htb : tb.data.toList ≠ [58]) (hsa0 : strB ka = false) (hsb0 : strB kb = true) :
    Calls Tryz.prog 20 #[.agg #[.int .i64 ka, .string ta], .agg #[.int .i64 kb, .string tb]] w fun e w' => e = .returned (.bool (tightB (ka, ta) (kb, tb))) ∧ Below w.heap.size w w' := by
  have hia := fun w => idle_calls ka ta w
  have hib := fun w => idle_calls kb tb w
  have hsa := fun w => ofString_calls ka ta w
  have hsb := fun w => ofString_calls kb tb w
  simp only [hia0] at hia
  simp only [hib0] at hib
  simp only [hsa0] at hsa
  simp only [hsb0] at hsb
  have hb : tightB (ka, ta) (kb, tb) = true := tb_str (a := (ka, ta)) (b := (kb, tb)) hia0 hib0 (fun e => by have := e.1; simp only at this; omega) (fun e => htb (congrArg Prod.snd e.2)) (.inr hsb0)
  have q0 : (ka == 6) = false := beq_eq_false_iff_ne.2 (by omega)
  have q1 : (ka == 13) = true := beq_iff_eq.2 h13
  have q2 : (kb == 13) = true := beq_iff_eq.2 hk13
  have s_ta : (ta.toList == [58]) = true := by rw [toList_eq, hta]; rfl
  have s_tb : (tb.toList == [58]) = false := by rw [toList_eq]; exact beq_eq_false_iff_ne.2 htb
  clear h13 hta hk13 htb
  have HX := Lib.hid hb
  have HW := Lib.hid hw
  clear hb hw
  have hT := three_of ka kb ta tb w
  obtain ⟨W1, hW1⟩ : ∃ W1, (((w.alloc (.cells #[.int .i64 ka, .string ta] 24)).alloc (.cells #[.int .i64 kb, .string tb] 24)).alloc (.cells #[.int .i64 13, .string ⟨#[58]⟩] 24)) = W1 := ⟨_, rfl⟩
  rw [hW1] at hT
  have a0 : W1.cell? ⟨w.heap.size, 0, none⟩ = some (.int .i64 ka) := hT.k0.cell 0
  have a1 : W1.cell? ⟨w.heap.size, 1, none⟩ = some (.string ta) := hT.k0.cell 1
  have HT := Lib.hid hT
  clear hT
  go_enter Tryz.func20, Tryz.ntmps20
  go_wp2_with fail
  ((with_reducible refine (hia _).mono ?_); rintro _ w2 ⟨rfl, hb2⟩)
  have hT2 := HT.out.own hb2
  have c0 : w2.cell? ⟨w.heap.size, 0, none⟩ = some (.int .i64 ka) := hT2.k0.cell 0
  have c1 : w2.cell? ⟨w.heap.size, 1, none⟩ = some (.string ta) := hT2.k0.cell 1
  have c2 : w2.cell? ⟨w.heap.size + 1, 0, none⟩ = some (.int .i64 kb) := hT2.k1.cell 0
  have c3 : w2.cell? ⟨w.heap.size + 1, 1, none⟩ = some (.string tb) := hT2.k1.cell 1
  have c4 : w2.cell? ⟨w.heap.size + 1 + 1, 0, none⟩ = some (.int .i64 13) := hT2.k2.cell 0
  have c5 : w2.cell? ⟨w.heap.size + 1 + 1, 1, none⟩ = some (.string ⟨#[58]⟩) := hT2.k2.cell 1
  have HT2 := Lib.hid hT2
  clear hb2 hT2 a0 a1
  go_wp2_with fail
  ((with_reducible refine (hib _).mono ?_); rintro _ w3 ⟨rfl, hb3⟩)
  clear c0 c1 c2 c3 c4 c5
  have hT3 := HT2.out.own hb3
  have c0 : w3.cell? ⟨w.heap.size, 0, none⟩ = some (.int .i64 ka) := hT3.k0.cell 0
  have c1 : w3.cell? ⟨w.heap.size, 1, none⟩ = some (.string ta) := hT3.k0.cell 1
  have c2 : w3.cell? ⟨w.heap.size + 1, 0, none⟩ = some (.int .i64 kb) := hT3.k1.cell 0
  have c3 : w3.cell? ⟨w.heap.size + 1, 1, none⟩ = some (.string tb) := hT3.k1.cell 1
  have c4 : w3.cell? ⟨w.heap.size + 1 + 1, 0, none⟩ = some (.int .i64 13) := hT3.k2.cell 0
  have c5 : w3.cell? ⟨w.heap.size + 1 + 1, 1, none⟩ = some (.string ⟨#[58]⟩) := hT3.k2.cell 1
  have HT3 := Lib.hid hT3
  clear hb3 hT3
  go_wp2_with fail
  ((with_reducible refine (hsa _).mono ?_); rintro _ w4 ⟨rfl, hb4⟩)
  clear c0 c1 c2 c3 c4 c5
  have hT4 := HT3.out.own hb4
  have c0 : w4.cell? ⟨w.heap.size, 0, none⟩ = some (.int .i64 ka) := hT4.k0.cell 0
  have c1 : w4.cell? ⟨w.heap.size, 1, none⟩ = some (.string ta) := hT4.k0.cell 1
  have c2 : w4.cell? ⟨w.heap.size + 1, 0, none⟩ = some (.int .i64 kb) := hT4.k1.cell 0
  have c3 : w4.cell? ⟨w.heap.size + 1, 1, none⟩ = some (.string tb) := hT4.k1.cell 1
  have c4 : w4.cell? ⟨w.heap.size + 1 + 1, 0, none⟩ = some (.int .i64 13) := hT4.k2.cell 0
  have c5 : w4.cell? ⟨w.heap.size + 1 + 1, 1, none⟩ = some (.string ⟨#[58]⟩) := hT4.k2.cell 1
  have HT4 := Lib.hid hT4
  clear hb4 hT4
  go_wp2_with fail
  ((with_reducible refine (hsb _).mono ?_); rintro _ w5 ⟨rfl, hb5⟩)
  clear c0 c1 c2 c3 c4 c5
  have hT5 := HT4.out.own hb5
  have c0 : w5.cell? ⟨w.heap.size, 0, none⟩ = some (.int .i64 ka) := hT5.k0.cell 0
  have c1 : w5.cell? ⟨w.heap.size, 1, none⟩ = some (.string ta) := hT5.k0.cell 1
  have c2 : w5.cell? ⟨w.heap.size + 1, 0, none⟩ = some (.int .i64 kb) := hT5.k1.cell 0
  have c3 : w5.cell? ⟨w.heap.size + 1, 1, none⟩ = some (.string tb) := hT5.k1.cell 1
  have c4 : w5.cell? ⟨w.heap.size + 1 + 1, 0, none⟩ = some (.int .i64 13) := hT5.k2.cell 0
  have c5 : w5.cell? ⟨w.heap.size + 1 + 1, 1, none⟩ = some (.string ⟨#[58]⟩) := hT5.k2.cell 1
  have HT5 := Lib.hid hT5
  clear hb5 hT5
  go_wp2_with fail
  go_ret
  exact ⟨by rw [HX.out]; rfl, HT5.out.hb⟩
set_option maxRecDepth 100000 in
set_option maxHeartbeats 8000000 in
theorem tight_n1c4E (ka kb : Int) (ta tb : ByteArray) (w : World) (hw : OpsAt w) (hs : ta.size + tb.size ≤ 140737488351232)
    (hia0 : idleB ka = false) (hib0 : idleB kb = false) (h13 : ka = 13) (hta : ta.data.toList = [58]) (hk13 : kb = 13) (htb : tb.data.toList ≠ [58]) (hsa0 : strB ka = false) (hsb0 : strB kb = false) (b : Bool) (hb : tightB (ka, ta) (kb, tb) = b) :
    Calls Tryz.prog 20 #[.agg #[.int .i64 ka, .string ta], .agg #[.int .i64 kb, .string tb]] w fun e w' => e = .returned (.bool (tightB (ka, ta) (kb, tb))) ∧ Below w.heap.size w w' := by
  have hia := fun w => idle_calls ka ta w
  have hib := fun w => idle_calls kb tb w
  have hsa := fun w => ofString_calls ka ta w
  have hsb := fun w => ofString_calls kb tb w
  simp only [hia0] at hia
  simp only [hib0] at hib
  simp only [hsa0] at hsa
  simp only [hsb0] at hsb
  have hb0 := hb
  rw [tb_tok (a := (ka, ta)) (b := (kb, tb)) hia0 hib0 (fun e => by have := e.1; simp only at this; omega) (fun e => htb (congrArg Prod.snd e.2)) hsa0 hsb0] at hb0
  obtain ⟨l, er, at', htl⟩ : ∃ l er at', tokensF (ta ++ tb).data.toList (utf.checkF (ta ++ tb)) = (l, er, at') := ⟨_, _, _, rfl⟩
  have htk := fun w hw => tokens_as (ta ++ tb) w hw l er at' htl
  have hTF : TF (ta.data.toList ++ tb.data.toList) = l := by
    rw [show ta.data.toList ++ tb.data.toList = (ta ++ tb).data.toList by rw [ByteArray.data_append, Array.toList_append], TF_eq, htl]
  have hln : l.length ≤ maxLen := by
    have := tok_len (ta ++ tb) htl
    rw [ByteArray.size_append] at this
    unfold maxLen; omega
  have hxb : decide (l.map asTk = [(ka, ta), (kb, tb)]) = b := by
    rw [← hb0, hTF]
    exact decide_eq_decide.2 (map_pt l [(ka, ta), (kb, tb)])
  have HL := Lib.hid hln; have HXB := Lib.hid hxb
  have hcat : ¬ (9223372036854775807 < ta.size + tb.size) := by omega
  clear hb0 htl hTF hln hxb
  have q0 : (ka == 6) = false := beq_eq_false_iff_ne.2 (by omega)
  have q1 : (ka == 13) = true := beq_iff_eq.2 h13
  have q2 : (kb == 13) = true := beq_iff_eq.2 hk13
  have s_ta : (ta.toList == [58]) = true := by rw [toList_eq, hta]; rfl
  have s_tb : (tb.toList == [58]) = false := by rw [toList_eq]; exact beq_eq_false_iff_ne.2 htb
  clear h13 hta hk13 htb
  have HX := Lib.hid hb
  have HW := Lib.hid hw
  clear hb hw
  have hT := three_of ka kb ta tb w
  obtain ⟨W1, hW1⟩ : ∃ W1, (((w.alloc (.cells #[.int .i64 ka, .string ta] 24)).alloc (.cells #[.int .i64 kb, .string tb] 24)).alloc (.cells #[.int .i64 13, .string ⟨#[58]⟩] 24)) = W1 := ⟨_, rfl⟩
  rw [hW1] at hT
  have a0 : W1.cell? ⟨w.heap.size, 0, none⟩ = some (.int .i64 ka) := hT.k0.cell 0
  have a1 : W1.cell? ⟨w.heap.size, 1, none⟩ = some (.string ta) := hT.k0.cell 1
  have HT := Lib.hid hT
  clear hT
  go_enter Tryz.func20, Tryz.ntmps20
  go_wp2_with fail
  ((with_reducible refine (hia _).mono ?_); rintro _ w2 ⟨rfl, hb2⟩)
  have hT2 := HT.out.own hb2
  have c0 : w2.cell? ⟨w.heap.size, 0, none⟩ = some (.int .i64 ka) := hT2.k0.cell 0
  have c1 : w2.cell? ⟨w.heap.size, 1, none⟩ = some (.string ta) := hT2.k0.cell 1
  have c2 : w2.cell? ⟨w.heap.size + 1, 0, none⟩ = some (.int .i64 kb) := hT2.k1.cell 0
  have c3 : w2.cell? ⟨w.heap.size + 1, 1, none⟩ = some (.string tb) := hT2.k1.cell 1
  have c4 : w2.cell? ⟨w.heap.size + 1 + 1, 0, none⟩ = some (.int .i64 13) := hT2.k2.cell 0
  have c5 : w2.cell? ⟨w.heap.size + 1 + 1, 1, none⟩ = some (.string ⟨#[58]⟩) := hT2.k2.cell 1
  have HT2 := Lib.hid hT2
  clear hb2 hT2 a0 a1
  go_wp2_with fail
  ((with_reducible refine (hib _).mono ?_); rintro _ w3 ⟨rfl, hb3⟩)
  clear c0 c1 c2 c3 c4 c5
  have hT3 := HT2.out.own hb3
  have c0 : w3.cell? ⟨w.heap.size, 0, none⟩ = some (.int .i64 ka) := hT3.k0.cell 0
  have c1 : w3.cell? ⟨w.heap.size, 1, none⟩ = some (.string ta) := hT3.k0.cell 1
  have c2 : w3.cell? ⟨w.heap.size + 1, 0, none⟩ = some (.int .i64 kb) := hT3.k1.cell 0
  have c3 : w3.cell? ⟨w.heap.size + 1, 1, none⟩ = some (.string tb) := hT3.k1.cell 1
  have c4 : w3.cell? ⟨w.heap.size + 1 + 1, 0, none⟩ = some (.int .i64 13) := hT3.k2.cell 0
  have c5 : w3.cell? ⟨w.heap.size + 1 + 1, 1, none⟩ = some (.string ⟨#[58]⟩) := hT3.k2.cell 1
  have HT3 := Lib.hid hT3
  clear hb3 hT3
  go_wp2_with fail
  ((with_reducible refine (hsa _).mono ?_); rintro _ w4 ⟨rfl, hb4⟩)
  clear c0 c1 c2 c3 c4 c5
  have hT4 := HT3.out.own hb4
  have c0 : w4.cell? ⟨w.heap.size, 0, none⟩ = some (.int .i64 ka) := hT4.k0.cell 0
  have c1 : w4.cell? ⟨w.heap.size, 1, none⟩ = some (.string ta) := hT4.k0.cell 1
  have c2 : w4.cell? ⟨w.heap.size + 1, 0, none⟩ = some (.int .i64 kb) := hT4.k1.cell 0
  have c3 : w4.cell? ⟨w.heap.size + 1, 1, none⟩ = some (.string tb) := hT4.k1.cell 1
  have c4 : w4.cell? ⟨w.heap.size + 1 + 1, 0, none⟩ = some (.int .i64 13) := hT4.k2.cell 0
  have c5 : w4.cell? ⟨w.heap.size + 1 + 1, 1, none⟩ = some (.string ⟨#[58]⟩) := hT4.k2.cell 1
  have HT4 := Lib.hid hT4
  clear hb4 hT4
  go_wp2_with fail
  ((with_reducible refine (hsb _).mono ?_); rintro _ w5 ⟨rfl, hb5⟩)
  clear c0 c1 c2 c3 c4 c5
  have hT5 := HT4.out.own hb5
  have c0 : w5.cell? ⟨w.heap.size, 0, none⟩ = some (.int .i64 ka) := hT5.k0.cell 0
  have c1 : w5.cell? ⟨w.heap.size, 1, none⟩ = some (.string ta) := hT5.k0.cell 1
  have c2 : w5.cell? ⟨w.heap.size + 1, 0, none⟩ = some (.int .i64 kb) := hT5.k1.cell 0
  have c3 : w5.cell? ⟨w.heap.size + 1, 1, none⟩ = some (.string tb) := hT5.k1.cell 1
  have c4 : w5.cell? ⟨w.heap.size + 1 + 1, 0, none⟩ = some (.int .i64 13) := hT5.k2.cell 0
  have c5 : w5.cell? ⟨w.heap.size + 1 + 1, 1, none⟩ = some (.string ⟨#[58]⟩) := hT5.k2.cell 1
  have HT5 := Lib.hid hT5
  clear hb5 hT5
  go_wp2_with fail
  ((with_reducible refine (htk _ (HW.out.own HT5.out.hb)).mono ?_); rintro _ w6 ⟨v6, rfl, ht6, hb6⟩)
  clear c0 c1 c2 c3 c4 c5
  have hT6 := HT5.out.own hb6
  have c0 : w6.cell? ⟨w.heap.size, 0, none⟩ = some (.int .i64 ka) := hT6.k0.cell 0
  have c1 : w6.cell? ⟨w.heap.size, 1, none⟩ = some (.string ta) := hT6.k0.cell 1
  have c2 : w6.cell? ⟨w.heap.size + 1, 0, none⟩ = some (.int .i64 kb) := hT6.k1.cell 0
  have c3 : w6.cell? ⟨w.heap.size + 1, 1, none⟩ = some (.string tb) := hT6.k1.cell 1
  have c4 : w6.cell? ⟨w.heap.size + 1 + 1, 0, none⟩ = some (.int .i64 13) := hT6.k2.cell 0
  have c5 : w6.cell? ⟨w.heap.size + 1 + 1, 1, none⟩ = some (.string ⟨#[58]⟩) := hT6.k2.cell 1
  obtain ⟨a6, c6, hv6⟩ : ∃ ao cap, v6 = .slice ao l.length cap := by obtain ⟨ao, cap, h, _⟩ := ht6; exact ⟨ao, cap, h⟩
  subst hv6
  have HT6 := Lib.hid hT6; have HQ6 := Lib.hid ht6
  clear hb6 hT6 ht6
  obtain ⟨w7, hw7⟩ : ∃ w7, w6.alloc (.cells #[.int .i64 ka, .string ta, .int .i64 kb, .string tb] 24) = w7 := ⟨_, rfl⟩
  have hb7 : Below w6.heap.size w6 w7 := by rw [← hw7]; exact (Below.refl _ w6).alloc (Nat.le_refl _) _
  have hn7 : sx.Blk w7 w6.heap.size 24 #[.int .i64 ka, .string ta, .int .i64 kb, .string tb] := by rw [← hw7]; exact sx.Blk.new w6 _ _
  have heq := equal_calls (.slice a6 l.length c6) (.slice (some ⟨w6.heap.size, 0, none⟩) 2 2) (l.map asTk) [(ka, ta), (kb, tb)] w7 w7.heap.size (((HQ6.out.tks HL.out).below hb7 (Nat.le_refl _)).mono hb7.size) (two_at hn7) b HXB.out
  have HB7 := Lib.hid (sg.Below.next HT6.out.hb hb7 (Nat.le_refl _))
  clear hb7 hn7
  go_wp2_with fail
  ((with_reducible refine heq.mono ?_); rintro _ w8 ⟨rfl, hb8⟩)
  clear hw7
  go_wp2_with fail
  go_ret
  exact ⟨by rw [HX.out]; rfl, sg.Below.next HB7.out hb8 (Nat.le_refl _)⟩
end Go.Proofs.YtmoamfcaokefiaaGreatDoor.it

/-
  items.Tight whole; slices.IndexFunc at tokens.
-/
namespace Go.Proofs.YtmoamfcaokefiaaGreatDoor.it
open Go.RowKit Go.Shelf
open sg (lst_len OpsAt)
open lx
set_option linter.unusedVariables false

theorem tight_calls (a b : Tk) (w : World) (hw : OpsAt w) (hs : a.2.size + b.2.size ≤ 140737488351232) :
    Calls Tryz.prog 20 #[.agg #[.int .i64 a.1, .string a.2], .agg #[.int .i64 b.1, .string b.2]] w fun e w' => e = .returned (.bool (tightB a b)) ∧ Below w.heap.size w w' := by
  obtain ⟨ka, ta⟩ := a
  obtain ⟨kb, tb⟩ := b
  simp only at hs
  cases hia : idleB ka with
  | true => exact tight_ia ka kb ta tb w hw hs hia
  | false =>
    cases hib : idleB kb with
    | true => exact tight_ib ka kb ta tb w hw hs hia hib
    | false =>
      cases hsa : strB ka with
      | true =>
        have h13 : ka ≠ 13 := fun e => by subst e; revert hsa; decide
        have h6 : ka ≠ 6 := fun e => by subst e; revert hsa; decide
        exact tight_n1c1S ka kb ta tb w hw hs hia hib h6 h13 hsa
      | false =>
        by_cases h6 : ka = 6
        · by_cases hk6 : kb = 6
          · exact tight_n3 ka kb ta tb w hw hs hia hib h6 hk6
          · by_cases hk3 : kb = 3
            · exact tight_n4 ka kb ta tb w hw hs hia hib h6 hk6 hk3
            · cases hsb : strB kb with
              | true => exact tight_n2c1T ka kb ta tb w hw hs hia hib h6 hk6 hk3 hsa hsb
              | false => exact tight_n2c1E ka kb ta tb w hw hs hia hib h6 hk6 hk3 hsa hsb _ rfl
        · by_cases h13 : ka = 13
          · by_cases hta : ta.data.toList = [58]
            · by_cases hk13 : kb = 13
              · by_cases htb : tb.data.toList = [58]
                · exact tight_c5 ka kb ta tb w hw hs hia hib h13 hta hk13 htb
                · cases hsb : strB kb with
                  | true => exact tight_n1c4T ka kb ta tb w hw hs hia hib h13 hta hk13 htb hsa hsb
                  | false => exact tight_n1c4E ka kb ta tb w hw hs hia hib h13 hta hk13 htb hsa hsb _ rfl
              · cases hsb : strB kb with
                | true => exact tight_n1c3T ka kb ta tb w hw hs hia hib h13 hta hk13 hsa hsb
                | false => exact tight_n1c3E ka kb ta tb w hw hs hia hib h13 hta hk13 hsa hsb _ rfl
            · cases hsb : strB kb with
              | true => exact tight_n1c2T ka kb ta tb w hw hs hia hib h13 hta hsa hsb
              | false => exact tight_n1c2E ka kb ta tb w hw hs hia hib h13 hta hsa hsb _ rfl
          · cases hsb : strB kb with
            | true => exact tight_n1c1T ka kb ta tb w hw hs hia hib h6 h13 hsa hsb
            | false => exact tight_n1c1E ka kb ta tb w hw hs hia hib h6 h13 hsa hsb _ rfl

/-- Where the first one of a kind is; none: at the end. -/
def fidx (p : Tk → Bool) (ts : List Tk) : Nat := (ts.takeWhile (fun t => !p t)).length
theorem fidx_le (p : Tk → Bool) (ts : List Tk) : fidx p ts ≤ ts.length := by
  unfold fidx
  exact (List.takeWhile_prefix _).length_le
theorem fidx_cons (p : Tk → Bool) (t : Tk) (r : List Tk) : fidx p (t :: r) = if p t then 0 else fidx p r + 1 := by
  unfold fidx
  rw [List.takeWhile_cons]
  cases p t <;> simp
theorem fidx_none (p : Tk → Bool) (ts : List Tk) (k : Nat) (hk : k ≤ ts.length) (h : ∀ t ∈ ts.take k, p t = false) : fidx p ts = k + fidx p (ts.drop k) := by
  induction ts generalizing k with
  | nil => simp at hk; subst hk; simp
  | cons t r ih =>
    cases k with
    | zero => simp
    | succ k =>
      have h0 := h t (by simp)
      rw [fidx_cons, h0]
      simp only [Bool.false_eq_true, if_false, List.drop_succ_cons]
      rw [ih k (by simp at hk; omega) (fun u hu => h u (by simp [hu]))]
      omega
/-- What IndexFunc tells. -/
def idxR (p : Tk → Bool) (ts : List Tk) : Int := if fidx p ts = ts.length then -1 else (fidx p ts : Int)
/-- A function value of one token that says yes or no, and adds only. -/
structure Asks (g : FuncId) (p : Tk → Bool) : Prop where
  en : ∀ args w, (callFunc g args).run Tryz.prog w = .ok (.enter g args) w
  calls : ∀ (t : Tk) (w : World), Calls Tryz.prog g #[.agg #[.int .i64 t.1, .string t.2]] w fun e w' => e = .returned (.bool (p t)) ∧ Below w.heap.size w w'
theorem asks_idle : Asks 36 (fun t => idleB t.1) := ⟨enters_of Tryz.func36 (by kernel_rfl) rfl, fun t w => idle_calls t.1 t.2 w⟩
theorem asks_counts : Asks 65 (fun t => !idleB t.1) := ⟨enters_of Tryz.func65 (by kernel_rfl) rfl, fun t w => counts_calls t.1 t.2 w⟩

set_option maxRecDepth 100000 in
set_option maxHeartbeats 4000000 in
theorem index_calls (g : FuncId) (p : Tk → Bool) (hg : Asks g p) (v : Value) (ts : List Tk) (w : World) (h : TksAt w.heap.size w v ts) :
    Calls Tryz.prog 60 #[v, .func (.func g) #[] #[]] w fun e w' => e = .returned (.int .i64 (idxR p ts)) ∧ Below w.heap.size w w' := by
  obtain ⟨ao, cap, rfl, hm, hc⟩ := h
  unfold maxLen at hm
  have hen := hg.en
  go_enter Tryz.func60, Tryz.ntmps60
  go_wp2
  go_loopw [8] (fun i wr => ∃ k : Nat, k ≤ ts.length ∧ i = .int .i64 (k : Int) ∧ (∀ t ∈ ts.take k, p t = false) ∧ Below w.heap.size w wr) (fun i _ => ts.length - (intOf i).toNat)
  case atStart => exact ⟨0, Nat.zero_le _, rfl, fun t ht => by simp at ht, Below.refl _ _⟩
  case round =>
    obtain ⟨k, hk, rfl, hall, hb⟩ := hrel
    by_cases hlt : k < ts.length
    · obtain ⟨t, ht⟩ : ∃ t, ts[k]? = some t := ⟨_, List.getElem?_eq_getElem hlt⟩
      obtain ⟨gb, off, rfl, hgl, c0, c1⟩ := hc k t ht
      have hgw := World.block_lt_of_cell? w _ c0
      have d0 := (hb.cell (p := ⟨gb, off + k * 2, none⟩) hgw).trans c0
      have d1 := (hb.cell (p := ⟨gb, off + k * 2 + 1, none⟩) hgw).trans c1
      have hlt1 : (k : Int) < (ts.length : Int) := by omega
      have hgc := hg.calls t
      have hfx := fidx_none p ts k hk hall
      have hdr : ts.drop k = t :: ts.drop (k + 1) := by
        rw [List.drop_eq_getElem_cons hlt]
        congr 1
        rw [List.getElem?_eq_getElem hlt] at ht
        exact Option.some.inj ht
      have HB := Lib.hid hb; have HALL := Lib.hid hall; have HT := Lib.hid ht
      cases hp : p t with
      | true =>
        rw [hdr, fidx_cons, hp, if_pos rfl] at hfx
        have HF := Lib.hid (show idxR p ts = (k : Int) by unfold idxR; rw [hfx, if_neg (by omega)]; rfl)
        simp only [hp] at hgc
        clear c0 c1 hb hall hc hfx hdr ht hp
        go_wp2_with fail
        ((with_reducible refine (hgc _).mono ?_); rintro _ w2 ⟨rfl, hb2⟩)
        have HB2 := Lib.hid (sg.Below.next HB.out hb2 (Nat.le_refl _))
        clear hb2
        go_wp2_with fail
        go_ret
        exact ⟨by rw [HF.out]; rfl, HB2.out⟩
      | false =>
        have hall2 : ∀ u ∈ ts.take (k + 1), p u = false := by
          intro u hu
          rw [take_snoc ts k t ht] at hu
          rcases List.mem_append.1 hu with hu | hu
          · exact hall u hu
          · rw [List.mem_singleton.1 hu]; exact hp
        have HA2 := Lib.hid hall2
        simp only [hp] at hgc
        clear c0 c1 hb hall hc hfx hdr ht hp hall2
        go_wp2_with fail
        ((with_reducible refine (hgc _).mono ?_); rintro _ w2 ⟨rfl, hb2⟩)
        have HB2 := Lib.hid (sg.Below.next HB.out hb2 (Nat.le_refl _))
        clear hb2
        go_wp2_with fail
        exact ⟨⟨k + 1, by omega, rfl, HA2.out, HB2.out⟩, by simp [intOf]; omega⟩
    · obtain rfl : k = ts.length := by omega
      have hge : decide ((ts.length : Int) < (ts.length : Int)) = false := by simp
      have hfx := fidx_none p ts _ (Nat.le_refl _) hall
      rw [List.drop_length, show fidx p [] = 0 from rfl] at hfx
      have HF := Lib.hid (show idxR p ts = -1 by unfold idxR; rw [if_pos (by omega)])
      clear hfx hall
      go_wp2_with fail
      go_ret
      exact ⟨by rw [HF.out]; rfl, hb⟩
end Go.Proofs.YtmoamfcaokefiaaGreatDoor.it

/-
  items: the map of gaps: what is kept in it is what Tight says.
-/
namespace Go.Proofs.YtmoamfcaokefiaaGreatDoor.it
open Go.RowKit Go.Shelf
open sg (lst_len OpsAt)
open lx
open Go.Maps (Keyed)
set_option linter.unusedVariables false

theorem pair_keyed : Keyed Tryz.prog 65 := Keyed.of_law (deep_law_gate law.laidOut (by decide +kernel) (by decide +kernel) (by kernel_rfl) (by kernel_rfl))
/-- Two tokens, as a key. -/
def pairV (a b : Tk) : Value := .agg #[.int .i64 a.1, .string a.2, .int .i64 b.1, .string b.2]
theorem pairV_inj {a b c d : Tk} (h : pairV a b = pairV c d) : a = c ∧ b = d := by
  unfold pairV at h
  simp at h
  obtain ⟨h1, h2, h3, h4⟩ := h
  exact ⟨Prod.ext h1 h2, Prod.ext h3 h4⟩
/-- A token that may be a part of a key. -/
def Fits (t : Tk) : Prop := (Lit.int .i64 t.1).wf = true ∧ t.2.size ≤ maxLen
theorem key_some {a b : Tk} (ha : Fits a) (hb : Fits b) : ∃ l, keyOf Tryz.prog 65 (pairV a b) = some l := by
  obtain ⟨n, hn⟩ : ∃ n, Tryz.prog.types.size + 1 = n + 3 := ⟨Tryz.prog.types.size - 2, by
    have h2 : 2 ≤ Tryz.prog.types.size := by decide +kernel
    omega⟩
  have hk : Tryz.prog.keyType 65 = true := by kernel_rfl
  have hf : (pairV a b).formed Tryz.prog 65 = true := by unfold pairV; kernel_rfl
  have c1 : Tryz.prog.cellsOf 65 = 4 := by kernel_rfl
  have c2 : Tryz.prog.cellsOf 24 = 2 := by kernel_rfl
  have c3 : Tryz.prog.cellsOf 3 = 1 := by kernel_rfl
  have c4 : Tryz.prog.cellsOf 9 = 1 := by kernel_rfl
  have hl : ∃ ls, Tryz.prog.keyLits (Tryz.prog.types.size + 1) 65 (pairV a b).cells.toList = some ls := by
    rw [hn]
    refine ⟨[.int .i64 a.1, .string a.2.data.toList, .int .i64 b.1, .string b.2.data.toList], ?_⟩
    simp [Program.keyLits, Tryz.underlying65, Tryz.underlying24, Tryz.underlying3, Tryz.underlying9, pairV, Value.cells, c1, c2, c3, c4, ha.1, ha.2, hb.1, hb.2]
    rw [if_pos (by decide), if_pos (by decide)]
    rfl
  obtain ⟨ls, hls⟩ := hl
  refine ⟨.string (keyBytes ls), ?_⟩
  unfold keyOf
  rw [Tryz.underlying65]
  simp only [hk, hf, hls]
  rfl

/-- How many blanks stand between two tokens. -/
def gapN (a b : Tk) : Int := if tightB a b then 0 else 1
/-- The map of gaps: what it holds is so. -/
def GapAt (W : World) (b : Nat) : Prop :=
  ∃ es clock, W.heap[b]? = some (.map es clock) ∧ ∀ e ∈ es.toList, ∃ x y : Tk, e.key = pairV x y ∧ (∃ l, keyOf Tryz.prog 65 e.key = some l) ∧ e.val = .int .i64 (gapN x y)
theorem GapAt.own {W W' : World} {b : Nat} (h : GapAt W b) (hb : Below W.heap.size W W') : GapAt W' b := by
  obtain ⟨es, clock, h1, h2⟩ := h
  exact ⟨es, clock, (hb.block b (Array.getElem?_eq_some_iff.1 h1).1).trans h1, h2⟩
theorem GapAt.lt {W : World} {b : Nat} (h : GapAt W b) : b < W.heap.size := by
  obtain ⟨es, clock, h1, h2⟩ := h
  exact (Array.getElem?_eq_some_iff.1 h1).1
theorem gap_new (W : World) : GapAt (W.alloc (.map #[] 0)) W.heap.size := ⟨#[], 0, World.alloc_heap_new W _, fun e he => by simp at he⟩
theorem GapAt.look {W : World} {b : Nat} (h : GapAt W b) (hz : ∀ w, (zeroValue 3).run Tryz.prog w = .ok (.int .i64 0) w) {x y : Tk} (hx : Fits x) (hy : Fits y) :
    (Instr.lookup 57 (.map (some b)) (pairV x y) true).run Tryz.prog W = .ok (.tuple #[.int .i64 0, .bool false]) W ∨ (Instr.lookup 57 (.map (some b)) (pairV x y) true).run Tryz.prog W = .ok (.tuple #[.int .i64 (gapN x y), .bool true]) W := by
  obtain ⟨es, clock, h1, h2⟩ := h
  obtain ⟨l, hl⟩ := key_some hx hy
  have hu : Tryz.prog.underlying 57 = some (.map 65 3) := Tryz.underlying57
  rcases pair_keyed.find W hl es.toList (fun e he => by obtain ⟨_, _, _, hk, _⟩ := h2 e he; exact hk) with ⟨h3, h4⟩ | ⟨j, e0, h3, h4, h5⟩
  · left
    simp [Instr.lookup, run_underlying hu, MapKept.run_getObj_map h1, pair_keyed.check W _ hl, h3, hz, Result.andThen]
  · right
    obtain ⟨x', y', k1, _, k3⟩ := h2 e0 (List.mem_of_getElem? h4)
    rw [h5] at k1
    obtain ⟨rfl, rfl⟩ := pairV_inj k1
    simp [Instr.lookup, run_underlying hu, MapKept.run_getObj_map h1, pair_keyed.check W _ hl, h3, k3, Result.andThen]
theorem GapAt.put {W : World} {b : Nat} (h : GapAt W b) {x y : Tk} (hx : Fits x) (hy : Fits y) (c : Int) (hc : c = gapN x y) :
    ∃ W', (Instr.mapUpdate 57 (.map (some b)) (pairV x y) (.int .i64 c)).run Tryz.prog W = .ok () W' ∧ GapAt W' b ∧ sx.But W.heap.size (fun k => k = b) W W' := by
  subst hc
  obtain ⟨es, clock, h1, h2⟩ := h
  obtain ⟨l, hl⟩ := key_some hx hy
  have hu : Tryz.prog.underlying 57 = some (.map 65 3) := Tryz.underlying57
  have hlt := (Array.getElem?_eq_some_iff.1 h1).1
  have hbel : ∀ (o : Obj), sx.But W.heap.size (fun k => k = b) W { W with heap := W.heap.setIfInBounds b o } := fun o => by
    refine ⟨rfl, rfl, rfl, by simp, fun k hk hs => ?_⟩
    show (W.heap.setIfInBounds b o)[k]? = _
    rw [Array.getElem?_setIfInBounds_ne (fun e => hs e.symm)]
  have hat : ∀ o : Obj, ({ W with heap := W.heap.setIfInBounds b o } : World).heap[b]? = some o := fun o => by
    show (W.heap.setIfInBounds b o)[b]? = _
    rw [Array.getElem?_setIfInBounds_self_of_lt hlt]
  rcases pair_keyed.find W hl es.toList (fun e he => by obtain ⟨_, _, _, hk, _⟩ := h2 e he; exact hk) with ⟨h3, h4⟩ | ⟨j, e0, h3, h4, h5⟩
  · refine ⟨_, by simp [Instr.mapUpdate, run_underlying hu, MapKept.run_getObj_map h1, pair_keyed.check W _ hl, h3, MapKept.run_setObj_map _ h1, Result.andThen]; rfl, ⟨_, _, hat _, fun e he => ?_⟩, hbel _⟩
    simp only [Array.toList_push, List.mem_append, List.mem_singleton] at he
    rcases he with he | rfl
    · exact h2 e he
    · exact ⟨x, y, rfl, ⟨l, hl⟩, rfl⟩
  · have h4' : es[j]? = some e0 := by rw [← Array.getElem?_toList]; exact h4
    have hst := pair_keyed.stays W hl
    refine ⟨_, by simp [Instr.mapUpdate, run_underlying hu, MapKept.run_getObj_map h1, pair_keyed.check W _ hl, h3, h4', h5, hst, MapKept.run_setObj_map _ h1, Result.andThen]; rfl, ⟨_, _, hat _, fun e he => ?_⟩, hbel _⟩
    obtain ⟨i, hi⟩ := List.mem_iff_getElem?.1 he
    rw [Array.getElem?_toList, Array.getElem?_modify] at hi
    split at hi
    · rename_i hij
      subst hij
      rw [h4'] at hi
      simp at hi
      rw [← hi]
      exact ⟨x, y, rfl, ⟨l, hl⟩, rfl⟩
    · exact h2 e (List.mem_of_getElem? (by rw [Array.getElem?_toList]; exact hi))

/-- Behind blanks. -/
def Blank (b : Nat) (n : Int) (w : World) (e : Ending) (w' : World) : Prop := e = .returned (.int .i64 n) ∧ GapAt w' b ∧ sx.But w.heap.size (fun k => k = b) w w'
set_option maxRecDepth 100000 in
set_option maxHeartbeats 8000000 in
theorem blanks_calls (b : Nat) (x y : Tk) (w : World) (hG : GapAt w b) (hx : Fits x) (hy : Fits y) (hw : OpsAt w) (hs : x.2.size + y.2.size ≤ 140737488351232) (hz : ∀ w, (zeroValue 3).run Tryz.prog w = .ok (.int .i64 0) w) :
    Calls Tryz.prog 39 #[.map (some b), .agg #[.int .i64 x.1, .string x.2, .int .i64 y.1, .string y.2]] w (Blank b (gapN x y) w) := by
  obtain ⟨W1, hW1⟩ : ∃ W1, w.alloc (.cells #[.int .i64 x.1, .string x.2, .int .i64 y.1, .string y.2] 65) = W1 := ⟨_, rfl⟩
  have hb1 : Below w.heap.size w W1 := by rw [← hW1]; exact (Below.refl _ w).alloc (Nat.le_refl _) _
  have hk1 : sx.Blk W1 w.heap.size 65 #[.int .i64 x.1, .string x.2, .int .i64 y.1, .string y.2] := by rw [← hW1]; exact sx.Blk.new w _ _
  have hG1 := hG.own hb1
  have c0 : W1.cell? ⟨w.heap.size, 0, none⟩ = some (.int .i64 x.1) := hk1.cell 0
  have c1 : W1.cell? ⟨w.heap.size, 1, none⟩ = some (.string x.2) := hk1.cell 1
  have c2 : W1.cell? ⟨w.heap.size, 2, none⟩ = some (.int .i64 y.1) := hk1.cell 2
  have c3 : W1.cell? ⟨w.heap.size, 3, none⟩ = some (.string y.2) := hk1.cell 3
  have hlook := hG1.look hz hx hy
  unfold pairV at hlook
  have ht := tight_calls x y W1 (hw.own hb1) hs
  have hbw := hG.lt
  have HB1 := Lib.hid hb1; have HK1 := Lib.hid hk1; have HG1 := Lib.hid hG1
  clear hb1 hk1 hG1 hG
  rcases hlook with hlk | hlk
  · cases htb : tightB x y with
    | true =>
      rw [htb] at ht
      have HX := Lib.hid (show gapN x y = 0 by unfold gapN; rw [htb]; rfl)
      clear htb
      go_enter Tryz.func39, Tryz.ntmps39
      go_wp2_with fail
      ((with_reducible refine ht.mono ?_); rintro _ w2 ⟨rfl, hb2⟩)
      have hk2 := HK1.out.own hb2
      have hG2 := HG1.out.own hb2
      have d0 : w2.cell? ⟨w.heap.size, 0, none⟩ = some (.int .i64 x.1) := hk2.cell 0
      have d1 : w2.cell? ⟨w.heap.size, 1, none⟩ = some (.string x.2) := hk2.cell 1
      have d2 : w2.cell? ⟨w.heap.size, 2, none⟩ = some (.int .i64 y.1) := hk2.cell 2
      have d3 : w2.cell? ⟨w.heap.size, 3, none⟩ = some (.string y.2) := hk2.cell 3
      obtain ⟨w3, hup, hG3, hbut⟩ := hG2.put hx hy 0 HX.out.symm
      unfold pairV at hup
      have HB2 := Lib.hid (sg.Below.next HB1.out hb2 (Nat.le_refl _))
      have HG3 := Lib.hid hG3; have HBT := Lib.hid hbut
      clear hb2 hk2 hG2 hG3 hbut hlk c0 c1 c2 c3 hW1
      go_wp2_with fail
      go_ret
      exact ⟨by rw [HX.out]; rfl, HG3.out, (sx.But.of_below HB2.out).trans (HBT.out.mono HB2.out.size (fun _ _ e => e))⟩
    | false =>
      rw [htb] at ht
      have HX := Lib.hid (show gapN x y = 1 by unfold gapN; rw [htb]; rfl)
      clear htb
      go_enter Tryz.func39, Tryz.ntmps39
      go_wp2_with fail
      ((with_reducible refine ht.mono ?_); rintro _ w2 ⟨rfl, hb2⟩)
      have hk2 := HK1.out.own hb2
      have hG2 := HG1.out.own hb2
      have d0 : w2.cell? ⟨w.heap.size, 0, none⟩ = some (.int .i64 x.1) := hk2.cell 0
      have d1 : w2.cell? ⟨w.heap.size, 1, none⟩ = some (.string x.2) := hk2.cell 1
      have d2 : w2.cell? ⟨w.heap.size, 2, none⟩ = some (.int .i64 y.1) := hk2.cell 2
      have d3 : w2.cell? ⟨w.heap.size, 3, none⟩ = some (.string y.2) := hk2.cell 3
      obtain ⟨w3, hup, hG3, hbut⟩ := hG2.put hx hy 1 HX.out.symm
      unfold pairV at hup
      have HB2 := Lib.hid (sg.Below.next HB1.out hb2 (Nat.le_refl _))
      have HG3 := Lib.hid hG3; have HBT := Lib.hid hbut
      clear hb2 hk2 hG2 hG3 hbut hlk c0 c1 c2 c3 hW1
      go_wp2_with fail
      go_ret
      exact ⟨by rw [HX.out]; rfl, HG3.out, (sx.But.of_below HB2.out).trans (HBT.out.mono HB2.out.size (fun _ _ e => e))⟩
  · clear ht
    obtain ⟨gn, hgn⟩ : ∃ gn, gapN x y = gn := ⟨_, rfl⟩
    rw [hgn] at hlk ⊢
    clear hgn
    go_enter Tryz.func39, Tryz.ntmps39
    go_wp2_with fail
    go_ret
    exact ⟨rfl, HG1.out, sx.But.of_below HB1.out⟩
end Go.Proofs.YtmoamfcaokefiaaGreatDoor.it

/-
  strings.Builder's WriteByte; items.size; what a builder's neighbour may turn.
-/
namespace Go.Proofs.YtmoamfcaokefiaaGreatDoor.it
open Go.RowKit Go.Shelf
open sg (lst_len OpsAt)
open lx
set_option linter.unusedVariables false

set_option maxHeartbeats 2000000 in
set_option maxRecDepth 100000 in
theorem writeByte_calls (B b : Nat) (bs : List Value) (c : Int) (w : World) (h : ed.BAt B b bs w) (hlen : bs.length + 1 ≤ 140737488355328) (hBw : B ≤ w.heap.size) :
    Calls Tryz.prog 40 #[.pointer (some ⟨b, 0, none⟩), .int .u8 c] w fun e w' => e = .returned .nilIface ∧ (ed.BAt B b (bs ++ [.int .u8 c]) w' ∧ Below B w w' ∧ Lib.OthersKept 5 (some b) w w') := by
  obtain ⟨i0, hi, hz0, hz1, hz2⟩ := info_parts ed.infoB
  go_enter Tryz.func40, Tryz.ntmps40
  go_wp2_with (go_at_call 61; refine (ed.copyCheck_calls B b bs _ h).mono ?_)
  rintro e w1 ⟨rfl, h1, hb1, hk1⟩
  obtain ⟨hB, v, hbk, hown, hne⟩ := h1
  have c0 : w1.cell? ⟨b, 0, none⟩ = some (.pointer (some ⟨b, 0, none⟩)) := by rw [Lib.cell_of_heap hbk]; rfl
  have c1 : w1.cell? ⟨b, 1, none⟩ = some v := by rw [Lib.cell_of_heap hbk]; rfl
  go_wp2_with (at_builtin; refine wpList_append_ownF _ rfl _ _ 25 rfl B 5 i0 (.int .u8 0) 1 1 Tryz.underlying25 hi hz0 hz1 hz2 rfl (by decide) _ _ _ rfl (hown.alloc _) ⟨w1.heap.size, 0, none⟩ 1 1 [.int .u8 c] rfl rfl ?c1 ?c2 ?c3 ?c4 ?c5 ?_)
  case c1 =>
    intro j u hj
    match j, hj with
    | 0, hj => simp at hj; subst hj; simp [Addr.add]
  case c2 => intro u hu; simp at hu; subst hu; rfl
  case c3 => unfold maxLen; omega
  case c4 => omega
  case c5 => have := hb1.size; simp; omega
  intro v' w2 hown' hgrow _
  have hlt : b < w1.heap.size := (Array.getElem?_eq_some_iff.1 hbk).1
  have hb2 : w2.heap[b]? = some (.cells #[.pointer (some ⟨b, 0, none⟩), v] 60 (0, 0)) := by
    rw [hgrow.block b (by simp; omega) (fun e => hne e.symm), Lib.alloc_old w1 _ b hlt]
    exact hbk
  have d0 : w2.cell? ⟨b, 0, none⟩ = some (.pointer (some ⟨b, 0, none⟩)) := by rw [Lib.cell_of_heap hb2]; rfl
  have d1 : w2.cell? ⟨b, 1, none⟩ = some v := by rw [Lib.cell_of_heap hb2]; rfl
  have f1 : w2.frozen? ⟨b, 1, none⟩ = false := Lib.frozen_of_heap hb2 1
  obtain ⟨g, cap, rfl⟩ : ∃ g cap, v' = .slice (some ⟨g, 0, none⟩) (bs.length + 1) cap := by
    rcases hown'.2 with ⟨_, h0⟩ | ⟨g, cap, cur, fz, hv, _⟩
    · omega
    · exact ⟨g, cap, hv⟩
  go_wp2
  go_ret
  refine ⟨rfl, .inr ?_, ?_, ((hk1.alloc _).grown hgrow (Lib.ownsRowF_kind (hown.alloc _))).setCell ⟨b, 1, none⟩ rfl _⟩
  · exact Lib.BuilderAtF.put (T := 60) (e := 5) hB hb2 (bs' := bs ++ [.int .u8 c]) (by simpa using hown') (by decide)
  · exact ((hb1.alloc (by have := hb1.size; omega) _).grown hgrow (by have := hb1.size; simp; omega) (fun k hk => (hown.lt k hk).1)).setCell (p := ⟨b, 1, none⟩) hB _

/-- A builder stays what it is where a map turns. -/
theorem bat_but {B b m : Nat} {bs : List Value} {w w' : World} (h : ed.BAt B b bs w) (hm : ∃ es clock, w.heap[m]? = some (.map es clock)) (hb : sx.But w.heap.size (fun k => k = m) w w') : ed.BAt B b bs w' := by
  obtain ⟨es, clock, hm⟩ := hm
  have key : ∀ p, Lib.BuilderAtF 60 5 B b p bs w → Lib.BuilderAtF 60 5 B b p bs w' := by
    rintro p ⟨hB, v, h1, ⟨h2, h3⟩, h4⟩
    refine ⟨hB, v, (hb.block b (Array.getElem?_eq_some_iff.1 h1).1 (fun e => ?_)).trans h1, ⟨h2, ?_⟩, h4⟩
    · rw [e, hm] at h1; cases h1
    · rcases h3 with h3 | ⟨g, cap, cur, fz, k1, k2, k3, k4⟩
      · exact .inl h3
      · refine .inr ⟨g, cap, cur, fz, k1, k2, (hb.block g (Array.getElem?_eq_some_iff.1 k3).1 (fun e => ?_)).trans k3, k4⟩
        rw [e, hm] at k3; cases k3
  rcases h with h | h
  · exact .inl (key _ h)
  · exact .inr (key _ h)
theorem but_below {m N : Nat} {w w' : World} (hb : sx.But N (fun k => k = m) w w') (hm : m ≤ N) : Below m w w' := ⟨hb.os, hb.tape, hb.output, hb.size, fun k hk => hb.block k (by omega) (by omega)⟩


set_option maxRecDepth 100000 in
set_option maxHeartbeats 2000000 in
theorem isize_calls (v : Value) (ts : List Tk) (w : World) (n : Nat) (h : TksAt n w v ts) (hs : sizeT ts ≤ 140737488355328) :
    Calls Tryz.prog 38 #[v] w fun e w' => e = .returned (.int .i64 (sizeT ts : Int)) ∧ Below w.heap.size w w' := by
  obtain ⟨ao, cap, rfl, hm, hc⟩ := h
  unfold maxLen at hm
  go_enter Tryz.func38, Tryz.ntmps38
  go_wp2
  go_loopw [3, 8] (fun s i wr => ∃ k : Nat, k ≤ ts.length ∧ i = .int .i64 (k : Int) ∧ s = .int .i64 (sizeT (ts.take k) : Int) ∧ Below w.heap.size w wr) (fun _ i _ => ts.length - (intOf i).toNat)
  case atStart => exact ⟨0, Nat.zero_le _, rfl, rfl, Below.refl _ _⟩
  case round =>
    obtain ⟨k, hk, rfl, rfl, hb⟩ := hrel
    by_cases hlt : k < ts.length
    · obtain ⟨t, ht⟩ : ∃ t, ts[k]? = some t := ⟨_, List.getElem?_eq_getElem hlt⟩
      obtain ⟨g, off, rfl, hg, c0, c1⟩ := hc k t ht
      have hgw := World.block_lt_of_cell? w _ c0
      have d0 := (hb.cell (p := ⟨g, off + k * 2, none⟩) hgw).trans c0
      have d1 := (hb.cell (p := ⟨g, off + k * 2 + 1, none⟩) hgw).trans c1
      have hlt1 : (k : Int) < (ts.length : Int) := by omega
      have hsn := sizeT_snoc (ts.take k) t
      rw [← take_snoc ts k t ht] at hsn
      have hle := sizeT_take ts (k + 1)
      have HSN := Lib.hid hsn
      have hw1 : wrap64 ((sizeT (ts.take k) : Int) + (t.2.size : Int)) = ((sizeT (ts.take k) + t.2.size : Nat) : Int) := by rw [IntWalk.wrap64_in]; rfl; omega
      have HB := Lib.hid (hb.alloc hb.size (.cells #[.int .i64 t.1, .string t.2] 24))
      clear hsn hle hb c0 c1
      go_wp2_with fail
      exact ⟨⟨k + 1, by omega, rfl, by rw [hw1, HSN.out], HB.out⟩, by simp [intOf]; omega⟩
    · obtain rfl : k = ts.length := by omega
      have hge : decide ((ts.length : Int) < (ts.length : Int)) = false := by simp
      go_wp2_with fail
      go_ret
      exact ⟨by rw [List.take_length]; rfl, hb⟩


/-- The text of a row, token by token. -/
theorem lineGo_snoc (T : List UInt8 → List Lx.Tok) (a : Lx.Tok) (r : List Lx.Tok) (t : Lx.Tok) : Lx.lineGo T a (r ++ [t]) = Lx.lineGo T a r ++ (Lx.gapT T (r.getLastD a) t ++ t.2) := by
  induction r generalizing a with
  | nil => simp [Lx.lineGo]
  | cons b r ih =>
    simp only [List.cons_append, Lx.lineGo, ih, List.append_assoc]
    cases r with
    | nil => rfl
    | cons c r' => rfl
theorem lineT_snoc (T : List UInt8 → List Lx.Tok) (l : List Lx.Tok) (p t : Lx.Tok) (h : l.getLast? = some p) : Lx.lineT T (l ++ [t]) = Lx.lineT T l ++ (Lx.gapT T p t ++ t.2) := by
  cases l with
  | nil => cases h
  | cons a r =>
    simp only [List.cons_append, Lx.lineT, lineGo_snoc, List.append_assoc]
    have : r.getLastD a = p := by
      cases r with
      | nil => simpa using h
      | cons b r' => simp [List.getLast?_cons_cons] at h; rw [List.getLastD_eq_getLast?]; simp [h]
    rw [this]
theorem gapT_len (T : List UInt8 → List Lx.Tok) (a b : Lx.Tok) : (Lx.gapT T a b).length ≤ 1 := by unfold Lx.gapT; split <;> simp
theorem lineGo_len (T : List UInt8 → List Lx.Tok) (a : Lx.Tok) (r : List Lx.Tok) : (Lx.lineGo T a r).length ≤ r.length + Lx.size r := by
  induction r generalizing a with
  | nil => simp [Lx.lineGo]
  | cons b r ih =>
    have h1 := ih b
    have h2 := gapT_len T a b
    simp only [Lx.lineGo, List.length_append, List.length_cons, Lx.size, List.map_cons, List.sum_cons] at h1 ⊢
    omega
theorem lineT_len (T : List UInt8 → List Lx.Tok) (l : List Lx.Tok) : (Lx.lineT T l).length ≤ l.length + Lx.size l := by
  cases l with
  | nil => simp [Lx.lineT]
  | cons a r =>
    have h1 := lineGo_len T a r
    simp only [Lx.lineT, List.length_append, List.length_cons, Lx.size, List.map_cons, List.sum_cons] at h1 ⊢
    omega
end Go.Proofs.YtmoamfcaokefiaaGreatDoor.it

/-
  slices.Clone at tokens: a row of its own.
-/
namespace Go.Proofs.YtmoamfcaokefiaaGreatDoor.it
open Go.RowKit Go.Shelf
open sg (lst_len OpsAt)
open lx
set_option linter.unusedVariables false

/-- The cells of tokens. -/
def tkCells (ts : List Tk) : List Value := ts.flatMap fun t => [.int .i64 t.1, .string t.2]
theorem tkCells_len (ts : List Tk) : (tkCells ts).length = ts.length * 2 := by
  induction ts with
  | nil => rfl
  | cons t r ih => simp only [tkCells, List.flatMap_cons, List.length_append, List.length_cons, List.length_nil] at ih ⊢; omega
theorem tkCells_at (ts : List Tk) (j : Nat) (t : Tk) (h : ts[j]? = some t) : (tkCells ts)[j * 2]? = some (.int .i64 t.1) ∧ (tkCells ts)[j * 2 + 1]? = some (.string t.2) := by
  induction ts generalizing j with
  | nil => simp at h
  | cons a r ih =>
    cases j with
    | zero => simp at h; subst h; simp [tkCells]
    | succ j =>
      have := ih j (by simpa using h)
      have e : tkCells (a :: r) = .int .i64 a.1 :: .string a.2 :: tkCells r := by simp [tkCells]
      rw [e, show (j + 1) * 2 = j * 2 + 2 by omega]
      simpa using this
theorem tkCells_one (ts : List Tk) : ∀ u ∈ tkCells ts, u.oneCell' = true := by
  intro u hu
  unfold tkCells at hu
  obtain ⟨t, _, ht⟩ := List.mem_flatMap.1 hu
  simp at ht
  rcases ht with rfl | rfl <;> rfl
theorem tk_news {W W' : World} {n : Nat} {a : Addr} {cap : Nat} {ts : List Tk} (h : TksAt n W (.slice (some a) ts.length cap) ts) (hb : Below n W W') : ∀ j u, (tkCells ts)[j]? = some u → W'.cell? (a.add j) = some u := by
  intro j u hu
  obtain ⟨ao, cap', hv, hm, hc⟩ := h
  have hj : j < ts.length * 2 := by rw [← tkCells_len]; exact (List.getElem?_eq_some_iff.1 hu).1
  obtain ⟨t, ht⟩ : ∃ t, ts[j / 2]? = some t := ⟨_, List.getElem?_eq_getElem (by omega)⟩
  obtain ⟨g, off, e, hg, c0, c1⟩ := hc (j / 2) t ht
  cases hv
  cases e
  obtain ⟨k0, k1⟩ := tkCells_at ts (j / 2) t ht
  rw [add_plain']
  rcases Nat.mod_two_eq_zero_or_one j with h2 | h2
  · have e2 : j / 2 * 2 = j := by omega
    rw [e2] at k0 c0
    rw [k0] at hu; cases hu
    exact (hb.cell (p := ⟨g, off + j, none⟩) hg).trans c0
  · have e2 : j / 2 * 2 + 1 = j := by omega
    rw [e2] at k1
    rw [k1] at hu; cases hu
    rw [show off + j / 2 * 2 + 1 = off + j by omega] at c1
    exact (hb.cell (p := ⟨g, off + j, none⟩) hg).trans c1
where
  add_plain' {g off j : Nat} : (⟨g, off, none⟩ : Addr).add j = ⟨g, off + j, none⟩ := by
    unfold Addr.add
    by_cases h : j = 0
    · subst h; rfl
    · simp [h]

set_option maxRecDepth 100000 in
set_option maxHeartbeats 4000000 in
theorem clone_nil (cap : Nat) (w : World) :
    Calls Tryz.prog 35 #[.slice none 0 cap] w fun e w' => e = .returned (.slice none 0 0) ∧ Below w.heap.size w w' := by
  have heq := fun W => Lib.run_eql_slice_nil (P := Tryz.prog) W 22 24 none 0 cap 0 0 Tryz.underlying22
  go_enter Tryz.func35, Tryz.ntmps35
  go_wp2_with fail
  go_ret
  exact ⟨rfl, Below.refl _ _⟩
set_option maxRecDepth 100000 in
set_option maxHeartbeats 4000000 in
theorem clone_some (a : Addr) (cap : Nat) (ts : List Tk) (w : World) (h : TksAt w.heap.size w (.slice (some a) ts.length cap) ts) (hb : ts.length * 24 ≤ 140737488355328) :
    Calls Tryz.prog 35 #[.slice (some a) ts.length cap] w fun e w' => ∃ v, e = .returned v ∧ w'.ownsRow w.heap.size 24 2 v ts.length (tkCells ts) ∧ Below w.heap.size w w' := by
  obtain ⟨i0, hi, hz0, hz1, hz2⟩ := info_parts infoTok
  have HT := Lib.hid h
  have hm : ts.length ≤ maxLen := by obtain ⟨_, _, _, hm, _⟩ := h; exact hm
  clear h
  have heq := fun W => Lib.run_eql_slice_nil (P := Tryz.prog) W 22 24 (some a) ts.length cap 0 0 Tryz.underlying22
  go_enter Tryz.func35, Tryz.ntmps35
  have hrow0 : (w.alloc (.cells #[] 24)).ownsRow w.heap.size 24 2 (.slice (some ⟨w.heap.size, 0, none⟩) 0 0) 0 [] := ⟨rfl, .inr ⟨w.heap.size, 0, #[], rfl, Nat.le_refl _, sx.Blk.new w _ _, Nat.le_refl _, Nat.zero_le _, rfl, rfl⟩⟩
  have hb0 : Below w.heap.size w (w.alloc (.cells #[] 24)) := (Below.refl _ w).alloc (Nat.le_refl _) _
  have HN := Lib.hid (tk_news HT.out hb0)
  have HB0 := Lib.hid hb0
  clear hb0
  go_wp2_with (at_builtin; refine wpList_append_own _ rfl _ _ 22 rfl w.heap.size 24 i0 (.agg #[.int .i64 0, .string ⟨#[]⟩]) 2 24 Tryz.underlying22 hi hz0 hz1 hz2 rfl (by decide) _ _ _ rfl hrow0 a ts.length cap (tkCells ts) rfl (tkCells_len _) HN.out (tkCells_one _) (by rw [Nat.zero_add]; exact hm) (by rw [Nat.zero_add]; exact hb) (by simp) ?_; intro v' w1 hown' hgrow _; rw [List.nil_append, Nat.zero_add] at hown'; obtain ⟨a5, l5, c5, rfl⟩ := own_slice hown')
  go_ret
  exact ⟨_, rfl, hown', HB0.out.grown hgrow (Nat.le_of_lt (by simp)) (fun k hk => (hrow0.lt k hk).1)⟩
end Go.Proofs.YtmoamfcaokefiaaGreatDoor.it

/-
  slices.DeleteFunc at tokens, on a row of its own.
-/
namespace Go.Proofs.YtmoamfcaokefiaaGreatDoor.it
open Go.RowKit Go.Shelf
open sg (lst_len OpsAt)
open lx
open sx (Blk)
set_option linter.unusedVariables false

/-- Tokens at the head of a block. -/
def TkB (W : World) (g : Nat) (L : List Tk) : Prop :=
  ∃ cur, Blk W g 24 cur ∧ L.length * 2 ≤ cur.size ∧ ∀ (j : Nat) t, L[j]? = some t → cur[j * 2]? = some (.int .i64 t.1) ∧ cur[j * 2 + 1]? = some (.string t.2)
theorem TkB.of_own {W : World} {base g n cap : Nat} {ts : List Tk} (h : W.ownsRow base 24 2 (.slice (some ⟨g, 0, none⟩) n cap) ts.length (tkCells ts)) : TkB W g ts ∧ base ≤ g := by
  rcases h.2 with ⟨h1, _⟩ | ⟨g', cap', cur, h1, h2, h3, h4, h5, h6, h7⟩
  · cases h1
  · cases h1
    refine ⟨⟨cur, h3, by omega, fun j t ht => ?_⟩, h2⟩
    have hj : j < ts.length := (List.getElem?_eq_some_iff.1 ht).1
    obtain ⟨k0, k1⟩ := tkCells_at ts j t ht
    rw [← h7, List.getElem?_take_of_lt (by omega)] at k0 k1
    exact ⟨by simpa using k0, by simpa using k1⟩
theorem TkB.own {W W' : World} {g : Nat} {L : List Tk} (h : TkB W g L) (hb : Below W.heap.size W W') : TkB W' g L := by
  obtain ⟨cur, h1, h2, h3⟩ := h
  exact ⟨cur, h1.own hb, h2, h3⟩
theorem TkB.lt {W : World} {g : Nat} {L : List Tk} (h : TkB W g L) : g < W.heap.size := by
  obtain ⟨cur, h1, _⟩ := h
  exact h1.lt
theorem TkB.cell {W : World} {g : Nat} {L : List Tk} (h : TkB W g L) {j : Nat} {t : Tk} (ht : L[j]? = some t) : W.cell? ⟨g, j * 2, none⟩ = some (.int .i64 t.1) ∧ W.cell? ⟨g, j * 2 + 1, none⟩ = some (.string t.2) ∧ W.frozen? ⟨g, j * 2, none⟩ = false ∧ W.frozen? ⟨g, j * 2 + 1, none⟩ = false := by
  obtain ⟨cur, h1, h2, h3⟩ := h
  obtain ⟨c0, c1⟩ := h3 j t ht
  exact ⟨(h1.cell _).trans c0, (h1.cell _).trans c1, h1.frozen _, h1.frozen _⟩
theorem TkB.set {W : World} {g : Nat} {L : List Tk} (h : TkB W g L) {i : Nat} (hi : i < L.length) (t : Tk) : TkB ((W.setCell ⟨g, i * 2, none⟩ (.int .i64 t.1)).setCell ⟨g, i * 2 + 1, none⟩ (.string t.2)) g (L.set i t) := by
  obtain ⟨cur, h1, h2, h3⟩ := h
  refine ⟨_, (h1.set (o := i * 2) _).set (o := i * 2 + 1) _, by rw [List.length_set]; simpa using h2, fun j u hu => ?_⟩
  by_cases hj : j = i
  · subst hj
    rw [List.getElem?_set_self hi] at hu
    cases hu
    refine ⟨?_, ?_⟩
    · rw [Array.getElem?_setIfInBounds_ne (by omega), Array.getElem?_setIfInBounds_self_of_lt (by omega)]
    · rw [Array.getElem?_setIfInBounds_self_of_lt (by simp; omega)]
  · rw [List.getElem?_set_ne (fun e => hj e.symm)] at hu
    obtain ⟨c0, c1⟩ := h3 j u hu
    refine ⟨?_, ?_⟩
    · rw [Array.getElem?_setIfInBounds_ne (by omega), Array.getElem?_setIfInBounds_ne (by omega)]; exact c0
    · rw [Array.getElem?_setIfInBounds_ne (by omega), Array.getElem?_setIfInBounds_ne (by omega)]; exact c1
theorem TkB.tks {W : World} {g cap m : Nat} {L : List Tk} (h : TkB W g L) (hm : m ≤ L.length) (hl : L.length ≤ maxLen) : TksAt W.heap.size W (.slice (some ⟨g, 0, none⟩) m cap) (L.take m) := by
  refine ⟨_, cap, by rw [List.length_take, Nat.min_eq_left hm], by rw [List.length_take]; omega, fun j t ht => ?_⟩
  have hj : j < m := by have := (List.getElem?_eq_some_iff.1 ht).1; rw [List.length_take] at this; omega
  rw [List.getElem?_take_of_lt hj] at ht
  obtain ⟨c0, c1, _⟩ := h.cell ht
  exact ⟨g, 0, rfl, h.lt, by rw [Nat.zero_add]; exact c0, by rw [Nat.zero_add]; exact c1⟩

theorem TkB.take {W : World} {g : Nat} {L : List Tk} (h : TkB W g L) (m : Nat) : TkB W g (L.take m) := by
  obtain ⟨cur, h1, h2, h3⟩ := h
  refine ⟨cur, h1, by rw [List.length_take]; omega, fun j t ht => h3 j t ?_⟩
  have hj := (List.getElem?_eq_some_iff.1 ht).1
  rw [List.length_take] at hj
  rwa [List.getElem?_take_of_lt (by omega)] at ht
theorem TkB.high {W : World} {g o : Nat} {L : List Tk} (h : TkB W g L) (ho : L.length * 2 ≤ o) (v : Value) : TkB (W.setCell ⟨g, o, none⟩ v) g L := by
  obtain ⟨cur, h1, h2, h3⟩ := h
  refine ⟨_, h1.set (o := o) v, by simpa using h2, fun j t ht => ?_⟩
  have hj := (List.getElem?_eq_some_iff.1 ht).1
  obtain ⟨c0, c1⟩ := h3 j t ht
  exact ⟨by rw [Array.getElem?_setIfInBounds_ne (by omega)]; exact c0, by rw [Array.getElem?_setIfInBounds_ne (by omega)]; exact c1⟩
theorem TkB.highs {g : Nat} {L : List Tk} : ∀ (zs : List Value) (o : Nat) (W : World), TkB W g L → L.length * 2 ≤ o → TkB (W.setCells g o zs) g L
  | [], _, _, h, _ => h
  | v :: r, o, W, h, ho => TkB.highs r (o + 1) _ (h.high ho v) (by omega)
theorem below_cells {g B : Nat} (hB : B ≤ g) : ∀ (zs : List Value) (o : Nat) (W0 W : World), Below B W0 W → Below B W0 (W.setCells g o zs)
  | [], _, _, _, h => h
  | v :: r, o, W0, W, h => below_cells hB r (o + 1) W0 _ (h.setCell (p := ⟨g, o, none⟩) hB v)
/-- 'clear(s)' on a part of a row. -/
theorem run_clear {P : Program} (w : World) (t e ty : TypeId) (z : Value) (ht : P.underlying t = some (.slice e)) (hv : ∀ w, (zeroValue e).run P w = .ok z w) (b o n c : Nat) (hn : 0 < n) (zs : List Value) (hzs : (Builtin.zeroCells z.cells n).toList = zs) (h1 : ∀ v ∈ zs, v.oneCell' = true)
    (hc : ∀ j, j < zs.length → (w.cell? ⟨b, o + j, none⟩).isSome = true) (hf : ∀ j, j < zs.length → w.frozen? ⟨b, o + j, none⟩ = false) :
    (Builtin.clear_ #[t] ty #[.slice (some ⟨b, o, none⟩) n c]).run P w = .ok (.tuple #[]) (w.setCells b o zs) := by
  have hst := run_storeCells_cells (P := P) b o zs 0 w (by simpa using hc) (by simpa using hf) h1
  simp only [Nat.add_zero] at hst
  obtain ⟨m, rfl⟩ : ∃ m, n = m + 1 := ⟨n - 1, by omega⟩
  simp [Builtin.clear_, run_underlying ht, hv, hzs, hst]
theorem zero_len (n : Nat) : (Builtin.zeroCells #[Value.int IntKind.i64 0, Value.string ⟨#[]⟩] n).toList.length = n * 2 ∧ ∀ v ∈ (Builtin.zeroCells #[Value.int IntKind.i64 0, Value.string ⟨#[]⟩] n).toList, v.oneCell' = true := by
  constructor
  · simp [Builtin.zeroCells]
  · intro v hv
    simp [Builtin.zeroCells] at hv
    obtain ⟨a, _, ha⟩ := hv
    rcases Nat.mod_two_eq_zero_or_one a with h | h <;> simp [h] at ha <;> rw [← ha] <;> rfl
theorem TkB.cleared {W : World} {g m n : Nat} {L : List Tk} (h : TkB W g L) (hL : L.length = n) (hm : m < n) (hz : ∀ w, (zeroValue 24).run Tryz.prog w = .ok (.agg #[.int .i64 0, .string ⟨#[]⟩]) w) (c : Nat) :
    ∃ zs, (∀ ty, (Builtin.clear_ #[22] ty #[.slice (some ⟨g, m * 2, none⟩) (n - m) c]).run Tryz.prog W = .ok (.tuple #[]) (W.setCells g (m * 2) zs)) ∧ TkB (W.setCells g (m * 2) zs) g (L.take m) ∧ ∀ B, B ≤ g → Below B W (W.setCells g (m * 2) zs) := by
  obtain ⟨hl, h1⟩ := zero_len (n - m)
  refine ⟨_, fun ty => run_clear W 22 24 ty (.agg #[.int .i64 0, .string ⟨#[]⟩]) Tryz.underlying22 hz g (m * 2) (n - m) c (by omega) _ rfl h1 ?_ ?_, ?_, ?_⟩
  · intro j hj
    obtain ⟨cur, k1, k2, k3⟩ := h
    rw [k1.cell]
    have : m * 2 + j < cur.size := by
      rw [show (Value.agg #[.int .i64 0, .string ⟨#[]⟩]).cells = #[.int .i64 0, .string ⟨#[]⟩] from rfl, hl] at hj; omega
    simp [this]
  · intro j hj
    obtain ⟨cur, k1, k2, k3⟩ := h
    exact k1.frozen _
  · exact TkB.highs _ _ _ (h.take m) (by rw [List.length_take]; omega)
  · exact fun B hB => below_cells hB _ _ _ _ (Below.refl _ _)

theorem meas1 {n k : Nat} (hk : k < n) : n - (intOf (.int .i64 ((k : Int) + 1))).toNat < n - (intOf (.int .i64 (k : Int))).toNat := by simp [intOf]; omega
theorem meas2 {n k k2 : Nat} (h : k + 1 = k2) (hk : k < n) : n - (intOf (.int .i64 (k2 : Int))).toNat < n - (intOf (.int .i64 (k : Int))).toNat := by simp [intOf]; omega
theorem mplus {a b : Nat} (h : a + 1 = b) (hb : b ≤ 6000000000000) : wrap64 ((a : Int) + 1) = (b : Int) := by rw [IntWalk.wrap64_in _ (by omega)]; omega
theorem filter_snoc (p : Tk → Bool) (ts : List Tk) (k : Nat) (t : Tk) (h : ts[k]? = some t) : (ts.take (k + 1)).filter (fun u => !p u) = (ts.take k).filter (fun u => !p u) ++ (if p t then [] else [t]) := by
  rw [take_snoc ts k t h, List.filter_append]
  cases hp : p t <;> simp [hp]
theorem fidx_take (p : Tk → Bool) (ts : List Tk) : (ts.take (fidx p ts)).filter (fun u => !p u) = ts.take (fidx p ts) := by
  induction ts with
  | nil => rfl
  | cons a r ih =>
    rw [fidx_cons]
    cases hp : p a with
    | true => rfl
    | false =>
      simp only [Bool.false_eq_true, if_false, List.take_succ_cons]
      rw [List.filter_cons_of_pos (by simp [hp]), ih]
theorem fidx_at (p : Tk → Bool) (ts : List Tk) (t : Tk) (h : ts[fidx p ts]? = some t) : p t = true := by
  induction ts with
  | nil => cases h
  | cons a r ih =>
    rw [fidx_cons] at h
    cases hp : p a with
    | true => rw [hp] at h; simp at h; rw [← h]; exact hp
    | false => rw [hp] at h; simp at h; exact ih h

/-- Between two rounds of DeleteFunc: m are kept of the first k. -/
structure DI (p : Tk → Bool) (ts : List Tk) (g n m k base : Nat) (L : List Tk) (w wr : World) : Prop where
  at' : TkB wr g L
  len : L.length = n
  lt : m < k
  le : k ≤ n
  kept : L.take m = (ts.take k).filter (fun u => !p u)
  rest : L.drop k = ts.drop k
  hb : Below base w wr
theorem DI.step {p : Tk → Bool} {ts : List Tk} {g n m k base : Nat} {L : List Tk} {w wr W2 : World} (h : DI p ts g n m k base L w wr) (hts : ts.length = n) (hk : k < n) {t : Tk} (ht : ts[k]? = some t) (hp : p t = true) (hb : Below wr.heap.size wr W2) (hw : base ≤ wr.heap.size) : DI p ts g n m (k + 1) base L w W2 := by
  refine ⟨h.at'.own hb, h.len, by have := h.lt; omega, by omega, ?_, ?_, h.hb.trans (hb.mono hw)⟩
  · rw [filter_snoc p ts k t ht, hp, h.kept]; simp
  · have := congrArg (List.drop 1) h.rest
    rw [List.drop_drop, List.drop_drop] at this
    exact this
theorem DI.move {p : Tk → Bool} {ts : List Tk} {g n m k base : Nat} {L : List Tk} {w wr W2 : World} (h : DI p ts g n m k base L w wr) (hts : ts.length = n) (hk : k < n) {t : Tk} (ht : ts[k]? = some t) (hp : p t = false) (hb : Below wr.heap.size wr W2) (hw : base ≤ wr.heap.size) (hg : base ≤ g) :
    DI p ts g n (m + 1) (k + 1) base (L.set m t) w ((W2.setCell ⟨g, m * 2, none⟩ (.int .i64 t.1)).setCell ⟨g, m * 2 + 1, none⟩ (.string t.2)) := by
  have hm := h.lt
  have hl := h.len
  refine ⟨(h.at'.own hb).set (by omega) t, by rw [List.length_set]; exact h.len, by omega, by omega, ?_, ?_, ((h.hb.trans (hb.mono hw)).setCell (p := ⟨g, m * 2, none⟩) hg _).setCell (p := ⟨g, m * 2 + 1, none⟩) hg _⟩
  · rw [filter_snoc p ts k t ht, hp, ← h.kept]
    rw [List.take_add_one, List.getElem?_set_self (by omega), List.take_set_of_le (by omega)]
    rfl
  · rw [List.drop_set_of_lt (by omega)]
    have := congrArg (List.drop 1) h.rest
    rw [List.drop_drop, List.drop_drop] at this
    exact this
theorem DI.get {p : Tk → Bool} {ts : List Tk} {g n m k base : Nat} {L : List Tk} {w wr : World} (h : DI p ts g n m k base L w wr) (hk : k < n) {t : Tk} (ht : ts[k]? = some t) : L[k]? = some t := by
  have := congrArg (fun l => l[0]?) h.rest
  simp only [List.getElem?_drop, Nat.add_zero] at this
  rw [this]; exact ht

set_option maxRecDepth 100000 in
set_option maxHeartbeats 8000000 in
theorem delete_calls (gf : FuncId) (p : Tk → Bool) (hg : Asks gf p) (v : Value) (ts : List Tk) (base : Nat) (w : World) (hown : w.ownsRow base 24 2 v ts.length (tkCells ts)) (hbase : base ≤ w.heap.size) (hz : ∀ w, (zeroValue 24).run Tryz.prog w = .ok (.agg #[.int .i64 0, .string ⟨#[]⟩]) w) (hmax : ts.length ≤ 5000000000000) :
    Calls Tryz.prog 34 #[v, .func (.func gf) #[] #[]] w fun e w' => ∃ v', e = .returned v' ∧ TksAt w'.heap.size w' v' (ts.filter (fun t => !p t)) ∧ Below base w w' := by
  have hml : ts.length ≤ maxLen := by unfold maxLen; omega
  have hen := hg.en
  rcases id hown.2 with ⟨rfl, h0⟩ | ⟨g, cap, cur0, rfl, _, _, hncap, hcapm, _⟩
  · obtain rfl := List.length_eq_zero_iff.1 h0
    have htk : TksAt w.heap.size w (.slice none 0 0) [] := ⟨none, 0, rfl, by unfold maxLen; simp, fun j t ht => by simp at ht⟩
    have hix := index_calls gf p hg _ [] w htk
    rw [show idxR p [] = -1 from rfl] at hix
    go_enter Tryz.func34, Tryz.ntmps34
    go_wp2_with fail
    ((with_reducible refine hix.mono ?_); rintro _ w2 ⟨rfl, hb2⟩)
    go_wp2_with fail
    go_ret
    exact ⟨_, rfl, (htk.below hb2 (Nat.le_refl _)).mono hb2.size, hb2.mono hbase⟩
  · obtain ⟨hT, hgb⟩ := TkB.of_own hown
    obtain ⟨n, hn⟩ : ∃ n, ts.length = n := ⟨_, rfl⟩
    have htk : TksAt w.heap.size w (.slice (some ⟨g, 0, none⟩) ts.length cap) ts := by
      have := hT.tks (cap := cap) (Nat.le_refl _) hml
      rwa [List.take_length] at this
    have hix := index_calls gf p hg _ ts w htk
    obtain ⟨i0, hi0⟩ : ∃ i, fidx p ts = i := ⟨_, rfl⟩
    by_cases hall : i0 = n
    · rw [show idxR p ts = -1 by unfold idxR; rw [hi0, hn, if_pos hall]] at hix
      have hf : ts.filter (fun t => !p t) = ts := by
        have := fidx_take p ts
        rwa [hi0, hall, ← hn, List.take_length] at this
      have HF := Lib.hid hf; have HTK := Lib.hid htk
      clear hT hown hn hf htk
      go_enter Tryz.func34, Tryz.ntmps34
      go_wp2_with fail
      ((with_reducible refine hix.mono ?_); rintro _ w2 ⟨rfl, hb2⟩)
      go_wp2_with fail
      go_ret
      exact ⟨_, rfl, by rw [HF.out]; exact (HTK.out.below hb2 (Nat.le_refl _)).mono hb2.size, hb2.mono hbase⟩
    · have hi1 : i0 < n := by have := fidx_le p ts; omega
      rw [show idxR p ts = (i0 : Int) by unfold idxR; rw [hi0, hn, if_neg hall]] at hix
      rw [hn] at hix ⊢
      have e1 : ((i0 : Int) == -1) = false := beq_eq_false_iff_ne.2 (by omega)
      have hst : ∀ w2, Below w.heap.size w w2 → DI p ts g n i0 (i0 + 1) base ts w w2 := fun w2 hb => by
        refine ⟨hT.own hb, hn, Nat.lt_succ_self _, hi1, ?_, rfl, hb.mono hbase⟩
        obtain ⟨t, ht⟩ : ∃ t, ts[i0]? = some t := ⟨_, List.getElem?_eq_getElem (by omega)⟩
        have h1 := fidx_at p ts t (by rw [hi0]; exact ht)
        rw [filter_snoc p ts i0 t ht, h1]
        have := fidx_take p ts
        rw [hi0] at this
        rw [this]; simp
      have hnb : n ≤ 5000000000000 := by omega
      have hnc : n ≤ cap := by omega
      have HST := Lib.hid hst; have HN := Lib.hid hn; have HZ := Lib.hid hz
      clear hT hown hn htk hst hi0 hz hml hmax
      have hw1 : wrap64 ((i0 : Int) + 1) = ((i0 + 1 : Nat) : Int) := by rw [IntWalk.wrap64_in _ (by omega)]; omega
      go_enter Tryz.func34, Tryz.ntmps34
      go_wp2_with fail
      ((with_reducible refine hix.mono ?_); rintro _ w2 ⟨rfl, hb2⟩)
      have hd0 := HST.out w2 hb2
      clear hw1
      go_wp2_with fail
      go_loopw [5, 6] (fun i j wr => ∃ (m k : Nat) (L : List Tk), i = .int .i64 (m : Int) ∧ j = .int .i64 (k : Int) ∧ DI p ts g n m k base L w wr) (fun _ j _ => n - (intOf j).toNat)
      case atStart =>
        exact ⟨i0, i0 + 1, ts, rfl, by simp, hd0⟩
      case round =>
        obtain ⟨m, k, L, rfl, rfl, hd⟩ := hrel
        have hmk := hd.lt
        have hkn := hd.le
        have hwb : base ≤ wr.heap.size := Nat.le_trans hgb (Nat.le_of_lt hd.at'.lt)
        by_cases hk : k < n
        · obtain ⟨t, ht⟩ : ∃ t, ts[k]? = some t := ⟨_, List.getElem?_eq_getElem (by rw [HN.out]; exact hk)⟩
          obtain ⟨u, hu⟩ : ∃ u, L[m]? = some u := ⟨_, List.getElem?_eq_getElem (by rw [hd.len]; omega)⟩
          obtain ⟨d0, d1, _, _⟩ := hd.at'.cell (hd.get hk ht)
          have hgc := hg.calls t
          have hk1 : (k : Int) < (n : Int) := by omega
          have hm1 : (m : Int) < (n : Int) := by omega
          have hmn : m < n := by omega
          have hb0 : Below wr.heap.size wr (wr.alloc (.cells #[.int .i64 t.1, .string t.2] 24)) := (Below.refl _ wr).alloc (Nat.le_refl _) _
          have hx0 := Blk.new wr 24 #[.int .i64 t.1, .string t.2]
          obtain ⟨k2, hk2⟩ : ∃ k2, k + 1 = k2 := ⟨_, rfl⟩
          obtain ⟨m2, hm2⟩ : ∃ m2, m + 1 = m2 := ⟨_, rfl⟩
          have hm2b : m2 ≤ 6000000000000 := by omega
          have hk2b : k2 ≤ 6000000000000 := by omega
          have HW1 : Hid (wrap64 ((m : Int) + 1) = (m2 : Int)) := Lib.hid (mplus hm2 hm2b)
          have hwk : wrap64 ((k : Int) + 1) = (k2 : Int) := mplus hk2 hk2b
          have HB0 := Lib.hid hb0; have HX0 := Lib.hid hx0; have HD := Lib.hid hd; have HT := Lib.hid ht; have HU := Lib.hid hu; have HWB := Lib.hid hwb
          have HK2 := Lib.hid hk2; have HM2 := Lib.hid hm2
          cases hp : p t with
          | true =>
            have HP := Lib.hid hp
            simp only [hp] at hgc
            clear hb0 hx0 hd ht hu hwb hk2 hm2 hmk hkn hp
            go_wp2_with fail
            ((with_reducible refine (hgc _).mono ?_); rintro _ w3 ⟨rfl, hb3⟩)
            have HB3 := Lib.hid (sg.Below.next HB0.out hb3 (Nat.le_refl _))
            clear hb3
            go_wp2_with fail
            have hres := HD.out.step HN.out hk HT.out HP.out HB3.out HWB.out
            rw [HK2.out] at hres
            exact ⟨⟨m, k2, L, rfl, by first | rfl | (rw [← HK2.out]; rfl), hres⟩, by first | exact meas1 hk | exact meas2 HK2.out hk⟩
          | false =>
            have HP := Lib.hid hp
            simp only [hp] at hgc
            clear hb0 hx0 hd ht hu hwb hk2 hm2 hmk hkn hp
            have hwk' := Lib.hid hwk
            clear hwk
            go_wp2_with fail
            ((with_reducible refine (hgc _).mono ?_); rintro _ w3 ⟨rfl, hb3⟩)
            have hx3 := HX0.out.own hb3
            have HB3 := Lib.hid (sg.Below.next HB0.out hb3 (Nat.le_refl _))
            obtain ⟨u0, u1, uf0, uf1⟩ := (HD.out.at'.own HB3.out).cell HU.out
            have y0 : w3.cell? ⟨wr.heap.size, 0, none⟩ = some (.int .i64 t.1) := hx3.cell 0
            have y1 : w3.cell? ⟨wr.heap.size, 1, none⟩ = some (.string t.2) := hx3.cell 1
            have hne : ¬ wr.heap.size = g := fun e => by have := HD.out.at'.lt; omega
            have hw1 := HW1.out
            have hw2 := hwk'.out
            clear hb3 hx3 d0 d1
            go_wp2_with fail
            have hres := HD.out.move HN.out hk HT.out HP.out HB3.out HWB.out hgb
            rw [HK2.out, HM2.out] at hres
            exact ⟨⟨m2, k2, _, by first | rfl | (rw [← HM2.out]; rfl), by first | rfl | (rw [← HK2.out]; rfl), hres⟩, by first | exact meas1 hk | exact meas2 HK2.out hk⟩
        · obtain rfl : k = n := by omega
          have hge : decide ((k : Int) < (k : Int)) = false := by simp
          obtain ⟨zs, hcl, htl, hbl⟩ := hd.at'.cleared hd.len hmk HZ.out (cap - m)
          have hm0 : (0 : Int) ≤ (m : Int) := by omega
          have hmk1 : (m : Int) ≤ (k : Int) := by omega
          have hmk2 : m ≤ k := by omega
          have hmc : (m : Int) ≤ (cap : Int) := by omega
          have hmc2 : m ≤ cap := by omega
          have hkc : (k : Int) ≤ (cap : Int) := by omega
          have hkm : ¬ k - m = 0 := by omega
          have hll := hd.len
          have hfin : TksAt (wr.setCells g (m * 2) zs).heap.size (wr.setCells g (m * 2) zs) (.slice (some ⟨g, 0, none⟩) m cap) (ts.filter (fun t => !p t)) := by
            have h1 := htl.tks (cap := cap) (m := m) (by rw [List.length_take]; omega) (by rw [List.length_take]; unfold maxLen; omega)
            have h2 := hd.kept
            rw [show ts.take k = ts from List.take_of_length_le (by rw [HN.out]; exact Nat.le_refl _)] at h2
            rw [List.take_take, Nat.min_self, h2] at h1
            exact h1
          have HF := Lib.hid hfin; have HBL := Lib.hid (hd.hb.trans (hbl base hgb))
          clear hfin htl hbl hd hll
          go_wp2_with fail
          exact bodyPost_ret (v := .slice (some ⟨g, 0, none⟩) m cap) (by simp [results, Tryz.results34, go_sem]) rfl ⟨_, rfl, HF.out, HBL.out⟩
end Go.Proofs.YtmoamfcaokefiaaGreatDoor.it

/-
  items.Line: its contract.
-/
namespace Go.Proofs.YtmoamfcaokefiaaGreatDoor.it
open Go.RowKit Go.Shelf
open sg (lst_len OpsAt)
open lx
set_option linter.unusedVariables false

theorem zeroInt (w : World) : (zeroValue 3).run Tryz.prog w = .ok (.int .i64 0) w := by kernel_rfl
theorem zeroTok (w : World) : (zeroValue 24).run Tryz.prog w = .ok (.agg #[.int .i64 0, .string ⟨#[]⟩]) w := by kernel_rfl
/-- The row that Line goes by. -/
theorem row_calls (v : Value) (ts : List Tk) (w : World) (h : TksAt w.heap.size w v ts) (hl : ts.length ≤ 5000000000000) (w2 : World) (hb : Below w.heap.size w w2) :
    Calls Tryz.prog 35 #[v] w2 fun e w' => ∃ v', e = .returned v' ∧ w'.ownsRow w2.heap.size 24 2 v' ts.length (tkCells ts) ∧ Below w2.heap.size w2 w' := by
  have h2 := (h.below hb (Nat.le_refl _)).mono hb.size
  obtain ⟨ao, cap, hv, hm, hc⟩ := id h2
  cases ao with
  | none =>
    have h0 : ts = [] := by
      cases ts with
      | nil => rfl
      | cons t r => obtain ⟨g, off, e, _⟩ := hc 0 t rfl; cases e
    subst h0
    subst hv
    refine (clone_nil cap w2).mono ?_
    rintro e w' ⟨rfl, hb'⟩
    exact ⟨_, rfl, World.ownsRow_nil _ _ _ _, hb'⟩
  | some a =>
    subst hv
    refine (clone_some a cap ts w2 h2 (by omega)).mono ?_
    rintro e w' ⟨v', rfl, ho, hb'⟩
    exact ⟨v', rfl, ho, hb'⟩

/-- What Line tells of a row, up to a token. -/
def lineU (cs : List Tk) (k : Nat) : List UInt8 := Lx.lineT TF ((cs.take k).map pt)
theorem lineU_zero (cs : List Tk) : lineU cs 0 = [] := rfl
theorem lineU_one (cs : List Tk) (t : Tk) (h : cs[0]? = some t) : lineU cs 1 = t.2.data.toList := by
  unfold lineU
  cases cs with
  | nil => cases h
  | cons a r => simp at h; subst h; simp [Lx.lineT, Lx.lineGo, pt]
theorem lineU_succ (cs : List Tk) (k : Nat) (p t : Tk) (hp : cs[k]? = some p) (ht : cs[k + 1]? = some t) : lineU cs (k + 2) = lineU cs (k + 1) ++ ((if gapN p t = 0 then [] else [32]) ++ t.2.data.toList) := by
  unfold lineU
  rw [take_snoc cs (k + 1) t ht, List.map_append, List.map_cons, List.map_nil]
  rw [lineT_snoc TF _ (pt p) (pt t)]
  · congr 2
    unfold Lx.gapT gapN tightB
    cases Lx.tightT TF (pt p) (pt t) <;> simp
  · rw [take_snoc cs k p hp, List.map_append]; simp
theorem lineU_len (cs : List Tk) (k : Nat) : (lineU cs k).length ≤ manyT cs := by
  unfold lineU
  have h1 := lineT_len TF ((cs.take k).map pt)
  have h2 : Lx.size ((cs.take k).map pt) = sizeT (cs.take k) := by
    unfold Lx.size sizeT
    rw [List.map_map]
    congr 1
    try (apply List.map_congr_left; intro t _; exact lst_len t.2)
  have h3 := manyT_take cs k
  have h4 := manyT_eq (cs.take k)
  rw [h2, List.length_map] at h1
  omega

theorem GapAt.below {W W' : World} {b n : Nat} (h : GapAt W b) (hb : Below n W W') (hn : b < n) : GapAt W' b := by
  obtain ⟨es, clock, h1, h2⟩ := h
  exact ⟨es, clock, (hb.block b hn).trans h1, h2⟩
theorem GapAt.map {W : World} {b : Nat} (h : GapAt W b) : ∃ es clock, W.heap[b]? = some (.map es clock) := by
  obtain ⟨es, clock, h1, _⟩ := h
  exact ⟨es, clock, h1⟩
theorem box_ne {B b q : Nat} {bs : List Value} {w : World} {vs : Array Value} (h : ed.BAt B b bs w) (hk : sx.Blk w q 24 vs) : q ≠ b := fun e => by
  subst e
  rcases h with ⟨_, v, h1, _⟩ | ⟨_, v, h1, _⟩
  · exact absurd (sx_types hk h1) (by decide)
  · exact absurd (sx_types hk h1) (by decide)
where
  sx_types {w : World} {q : Nat} {vs us : Array Value} {t t' : TypeId} (h : sx.Blk w q t vs) (h' : w.heap[q]? = some (.cells us t' (0, 0))) : t = t' := by
    unfold sx.Blk at h
    rw [h] at h'
    cases h'
    rfl
theorem jw {j n : Nat} (hn : n ≤ 1000000000) (h : j < n) : wrap64 (j : Int) = (j : Int) := IntWalk.wrap64_in _ (by omega)
theorem jw1 {j n : Nat} (hn : n ≤ 1000000000) (h : j < n) : wrap64 (((j + 1 : Nat) : Int) - 1) = (j : Int) := by rw [IntWalk.wrap64_in _ (by omega)]; omega
theorem size_mem (cs : List Tk) (t : Tk) (h : t ∈ cs) : t.2.size ≤ manyT cs := by
  induction cs with
  | nil => cases h
  | cons a r ih =>
    simp only [manyT, List.map_cons, List.sum_cons] at ih ⊢
    rcases List.mem_cons.1 h with rfl | h
    · omega
    · have := ih h; omega
/-- Between two rounds of Line: k tokens are written; w2: the world when the map was made (its block is next, the builder's behind it). -/
structure LI (cs : List Tk) (w w2 : World) (k : Nat) (wr : World) : Prop where
  bat : ed.BAt (w2.heap.size + 1) (w2.heap.size + 1) (Lib.byteCells (lineU cs k)) wr
  gap : GapAt wr w2.heap.size
  hb : Below w2.heap.size w2 wr
  hs : w2.heap.size + 1 ≤ wr.heap.size
theorem LI.own {cs : List Tk} {w w2 wr wa : World} {k : Nat} (h : LI cs w w2 k wr) (hb : Below wr.heap.size wr wa) : LI cs w w2 k wa :=
  ⟨bat_but h.bat h.gap.map (sx.But.of_below hb), h.gap.own hb, h.hb.trans (hb.mono h.hb.size), Nat.le_trans h.hs hb.size⟩
theorem LI.but {cs : List Tk} {w w2 wr wa : World} {k : Nat} (h : LI cs w w2 k wr) (hb : sx.But wr.heap.size (fun q => q = w2.heap.size) wr wa) (hg : GapAt wa w2.heap.size) : LI cs w w2 k wa :=
  ⟨bat_but h.bat h.gap.map hb, hg, h.hb.trans (but_below hb h.hb.size), Nat.le_trans h.hs hb.size⟩
/-- What is written behind. -/
theorem LI.put {cs : List Tk} {w w2 wr wa : World} {k k2 : Nat} {bs' : List Value} (h : LI cs w w2 k wr) (hb : Below (w2.heap.size + 1) wr wa) (hB : ed.BAt (w2.heap.size + 1) (w2.heap.size + 1) bs' wa) (he : bs' = Lib.byteCells (lineU cs k2)) : LI cs w w2 k2 wa :=
  ⟨by rw [← he]; exact hB, h.gap.below hb (Nat.lt_succ_self _), h.hb.trans (hb.mono (Nat.le_succ _)), Nat.le_trans h.hs hb.size⟩

set_option maxRecDepth 100000 in
set_option maxHeartbeats 8000000 in
theorem line_calls (v : Value) (ts : List Tk) (w : World) (h : TksAt w.heap.size w v ts) (hfit : ∀ t ∈ ts, Fits t) (hs : manyT ts ≤ 1000000000) (hw : OpsAt w) :
    Calls Tryz.prog 16 #[v] w fun e w' => e = .returned (.string ⟨(lineU (ts.filter (fun t => !idleB t.1)) ts.length).toArray⟩) ∧ Below w.heap.size w w' := by
  have hmt := manyT_eq ts
  have hrow := fun w2 hb => row_calls v ts w h (by omega) w2 hb
  have hsub : ∀ t, t ∈ ts.filter (fun t => !idleB t.1) → t ∈ ts := fun t ht => (List.mem_filter.1 ht).1
  have hmf : manyT (ts.filter (fun t => !idleB t.1)) ≤ manyT ts := by
    clear h hrow hs hsub hmt hfit
    induction ts with
    | nil => exact Nat.le_refl _
    | cons t r ih =>
      rw [List.filter_cons]
      split
      · simp only [manyT, List.map_cons, List.sum_cons] at ih ⊢; omega
      · simp only [manyT, List.map_cons, List.sum_cons] at ih ⊢; omega
  have hlf : (ts.filter (fun t => !idleB t.1)).length ≤ ts.length := List.length_filter_le _ _
  obtain ⟨cs, hcs⟩ : ∃ cs, ts.filter (fun t => !idleB t.1) = cs := ⟨_, rfl⟩
  rw [hcs] at hsub hmf hlf ⊢
  have hmc := manyT_eq cs
  have hfc : ∀ t ∈ cs, Fits t := fun t ht => hfit t (hsub t ht)
  have hall : lineU cs ts.length = lineU cs cs.length := by
    unfold lineU
    rw [List.take_of_length_le hlf, List.take_length]
  rw [hall]
  have hdel := fun (v' : Value) (w2 : World) (base : Nat) ho hb => delete_calls 36 _ asks_idle v' ts base w2 ho hb zeroTok (by omega)
  rw [hcs] at hdel
  have hszc : sizeT cs ≤ 140737488355328 := by omega
  have hmm := fun W => run_makeMap (P := Tryz.prog) 57 W
  have HW := Lib.hid hw; have HF := Lib.hid hfc; have HMF := Lib.hid (show manyT cs ≤ 1000000000 by omega)
  have hcl : cs.length ≤ 1000000000 := by omega
  clear hcs hall h hfit hsub hmf hlf hmt hmc hw hfc hs
  go_enter Tryz.func16, Tryz.ntmps16
  go_wp2_with fail
  ((with_reducible refine (hrow _ (Below.refl _ _)).mono ?_); rintro _ w1 ⟨v1, rfl, ho1, hb1⟩)
  have hd1 := hdel v1 w1 w.heap.size ho1 hb1.size
  obtain ⟨a1, l1, c1, rfl⟩ := own_slice ho1
  have HB1 := Lib.hid hb1
  clear ho1 hb1
  go_wp2_with fail
  ((with_reducible refine hd1.mono ?_); rintro _ w2 ⟨v2, rfl, ht2, hb2⟩)
  have HT2 := Lib.hid ht2
  have HB2 := Lib.hid (HB1.out.trans hb2)
  obtain ⟨a2, c2, rfl, hm2, hc2⟩ := id ht2
  have HC2 := Lib.hid hc2
  clear ht2 hb2 hd1 hc2
  -- the map and the builder
  obtain ⟨w4, hw4⟩ : ∃ w4, (w2.alloc (.map #[] 0)).alloc (.cells #[.pointer none, .slice none 0 0] 60) = w4 := ⟨_, rfl⟩
  have hb4 : Below w2.heap.size w2 w4 := by rw [← hw4]; exact ((Below.refl _ w2).alloc (Nat.le_refl _) _).alloc (by simp) _
  have hG4 : GapAt w4 w2.heap.size := by rw [← hw4]; exact (gap_new w2).own ((Below.refl _ _).alloc (Nat.le_refl _) _)
  have hk4 : w4.heap[w2.heap.size + 1]? = some (.cells #[.pointer none, .slice none 0 0] 60 (0, 0)) := by
    rw [← hw4]
    have := World.alloc_heap_new (w2.alloc (.map #[] 0)) (.cells #[.pointer none, .slice none 0 0] 60)
    simpa using this
  have hz4 : w4.heap.size = w2.heap.size + 1 + 1 := by rw [← hw4]; simp
  have HB4 := Lib.hid hb4; have HG4 := Lib.hid hG4; have HK4 := Lib.hid hk4; have HZ4 := Lib.hid hz4
  have hsz4 := isize_calls (.slice a2 cs.length c2) cs w4 w4.heap.size ((HT2.out.below hb4 (Nat.le_refl _)).mono hb4.size) hszc
  clear hb4 hG4 hk4 hz4
  go_wp2_with fail
  ((with_reducible refine hsz4.mono ?_); rintro _ w5 ⟨rfl, hb5⟩)
  have hk5 : w5.heap[w2.heap.size + 1]? = some (.cells #[.pointer none, .slice none 0 0] 60 (0, 0)) := (hb5.block _ (by rw [HZ4.out]; omega)).trans HK4.out
  have hG5 := HG4.out.own hb5
  have HB5 := Lib.hid (sg.Below.next HB4.out hb5 (Nat.le_refl _))
  have hsz5 : w2.heap.size + 1 ≤ w5.heap.size := by have := hb5.size; rw [HZ4.out] at this; omega
  have hgr := Tryz.Builder_Grow_fresh (w2.heap.size + 1) (w2.heap.size + 1) (sizeT cs) w5 (Nat.le_refl _) hk5 hsz5 (by omega)
  have HG5 := Lib.hid hG5
  clear hb5 hk5 hG5 hw4
  go_wp2_with fail
  ((with_reducible refine hgr.mono ?_); rintro _ w6 ⟨rfl, hg6, hb6⟩)
  have hli : LI cs w w2 0 w6 := by
    refine ⟨.inr (by rw [lineU_zero]; exact Lib.BuilderAtF.of hg6), ?_, ?_, ?_⟩
    · exact GapAt.below HG5.out hb6 (Nat.lt_succ_self _)
    · exact (HB5.out.mono (Nat.le_refl _)).trans (hb6.mono (Nat.le_succ _))
    · exact Nat.le_trans hsz5 hb6.size
  clear hg6 hb6
  have HLI := Lib.hid hli
  clear hli
  go_wp2_with fail
  go_loopw [17] (fun i wr => ∃ k : Nat, k ≤ cs.length ∧ i = .int .i64 (k : Int) ∧ LI cs w w2 k wr) (fun i _ => cs.length - (intOf i).toNat)
  case atStart => exact ⟨0, Nat.zero_le _, rfl, HLI.out⟩
  case round =>
    obtain ⟨k, hk, rfl, hL⟩ := hrel
    by_cases hlt : k < cs.length
    · obtain ⟨t, ht⟩ : ∃ t, cs[k]? = some t := ⟨_, List.getElem?_eq_getElem hlt⟩
      obtain ⟨g, off, rfl, hgl, q0, q1⟩ := HC2.out k t ht
      have d0 := (hL.hb.cell (p := ⟨g, off + k * 2, none⟩) hgl).trans q0
      have d1 := (hL.hb.cell (p := ⟨g, off + k * 2 + 1, none⟩) hgl).trans q1
      have hlt1 : (k : Int) < (cs.length : Int) := by omega
      obtain ⟨wa, hwa⟩ : ∃ wa, wr.alloc (.cells #[.int .i64 t.1, .string t.2] 24) = wa := ⟨_, rfl⟩
      have hba : Below wr.heap.size wr wa := by rw [← hwa]; exact (Below.refl _ wr).alloc (Nat.le_refl _) _
      have hka : sx.Blk wa wr.heap.size 24 #[.int .i64 t.1, .string t.2] := by rw [← hwa]; exact sx.Blk.new wr _ _
      have hLa := hL.own hba
      have e0 : wa.cell? ⟨wr.heap.size, 0, none⟩ = some (.int .i64 t.1) := hka.cell 0
      have e1 : wa.cell? ⟨wr.heap.size, 1, none⟩ = some (.string t.2) := hka.cell 1
      have hgwr : g < wr.heap.size := Nat.lt_of_lt_of_le hgl hL.hb.size
      cases k with
      | zero =>
        have h1 := lineU_one cs t ht
        have hz0 : decide ((0 : Int) < ((0 : Nat) : Int)) = false := by decide
        have HLA := Lib.hid hLa; have H1 := Lib.hid h1; have HKA := Lib.hid hka
        have d0' : wr.cell? ⟨g, off, none⟩ = some (.int .i64 t.1) := by simpa using d0
        have d1' : wr.cell? ⟨g, off + 1, none⟩ = some (.string t.2) := by simpa using d1
        have hsz : (Lib.byteCells (lineU cs 0)).length + t.2.size ≤ 140737488355328 := by
          rw [Lib.byteCells_length, lineU_zero]
          have h2 := lineU_len cs 1
          rw [h1, lst_len] at h2
          have := HMF.out
          simp only [List.length_nil]; omega
        have hwb : w2.heap.size + 1 ≤ wa.heap.size := hLa.hs
        have HSZ := Lib.hid hsz
        clear hL hLa hba hka q0 q1 h1 d0 d1 hsz
        go_wp2_with fail
        try clear hwa
        go_quiet (fail)
        rename_i nq
        obtain ⟨wb, hwb2⟩ : ∃ wb, wa.drewN nq = wb := ⟨_, rfl⟩
        rw [hwb2]
        have hbb : Below wa.heap.size wa wb := by rw [← hwb2]; exact ⟨rfl, rfl, rfl, Nat.le_refl _, fun _ _ => rfl⟩
        have hLb := HLA.out.own hbb
        have hkb := HKA.out.own hbb
        have f1 : wb.cell? ⟨wr.heap.size, 1, none⟩ = some (.string t.2) := hkb.cell 1
        have hwc := ed.writeString_calls (w2.heap.size + 1) (w2.heap.size + 1) _ t.2 wb hLb.bat HSZ.out hLb.hs
        have HLB := Lib.hid hLb
        clear hbb hLb hkb e0 e1 hwb2
        go_wp2_with fail
        ((with_reducible refine hwc.mono ?_); rintro _ w4 ⟨rfl, hG4, hb4, _⟩)
        have hfin := HLB.out.put (k2 := 1) hb4 hG4 (by rw [H1.out, lineU_zero, Lib.strCells_eq]; rfl)
        have HFIN := Lib.hid hfin
        clear hfin hb4 hG4
        go_wp2_with fail
        exact ⟨⟨1, by omega, rfl, HFIN.out⟩, by simp [intOf]; omega⟩
      | succ j =>
        obtain ⟨p, hp⟩ : ∃ p, cs[j]? = some p := ⟨_, List.getElem?_eq_getElem (by omega)⟩
        obtain ⟨g', off', hgg, _, r0, r1⟩ := HC2.out j p hp
        cases hgg
        have x0 := (hLa.hb.cell (p := ⟨g, off + j * 2, none⟩) hgl).trans r0
        have x1 := (hLa.hb.cell (p := ⟨g, off + j * 2 + 1, none⟩) hgl).trans r1
        have hfp := HF.out p (List.mem_of_getElem? hp)
        have hft := HF.out t (List.mem_of_getElem? ht)
        have hpt : p.2.size + t.2.size ≤ 140737488351232 := by
          have h1 := size_mem cs p (List.mem_of_getElem? hp)
          have h2 := size_mem cs t (List.mem_of_getElem? ht)
          have := HMF.out; omega
        have hsu := lineU_succ cs j p t hp ht
        have hln := lineU_len cs (j + 2)
        rw [hsu, List.length_append, List.length_append, lst_len] at hln
        have hops : OpsAt wa := HW.out.own ((HB2.out.trans (hL.hb.mono HB2.out.size)).trans (hba.mono (Nat.le_trans HB2.out.size hL.hb.size)))
        have hz0 : decide ((0 : Int) < ((j + 1 : Nat) : Int)) = true := decide_eq_true (by omega)
        have hjl : (j : Int) < (cs.length : Int) := by omega
        have hjl2 : j < cs.length := by omega
        have hj0 : (0 : Int) ≤ (j : Int) := by omega
        have hj1 : wrap64 (((j + 1 : Nat) : Int) - 1) = (j : Int) := jw1 hcl hjl2
        have hj2 : IntKind.i64.wrap (((j + 1 : Nat) : Int) - 1) = (j : Int) := (IntWalk.i64_left _).trans hj1
        have hj3 : wrap64 (j : Int) = (j : Int) := jw hcl hjl2
        have hj4 : IntKind.i64.wrap (j : Int) = (j : Int) := (IntWalk.i64_left _).trans hj3
        have hj5 : wrap64 ((j : Int) + 1 - 1) = (j : Int) := hj1
        have hj6 : IntKind.i64.wrap ((j : Int) + 1 - 1) = (j : Int) := hj2
        have HJ := Lib.hid (And.intro hj1 (And.intro hj2 (And.intro hj3 (And.intro hj4 (And.intro hj5 hj6)))))
        clear hj1 hj2 hj3 hj4 hj5 hj6
        obtain ⟨wd, hwd⟩ : ∃ wd, wa.drew = wd := ⟨_, rfl⟩
        have hbd : Below wa.heap.size wa wd := by rw [← hwd]; exact (Below.refl _ wa).drew
        have hLd := hLa.own hbd
        have hkd := hka.own hbd
        have hbc := blanks_calls w2.heap.size p t wd hLd.gap hfp hft (hops.own hbd) hpt zeroInt
        have HLD := Lib.hid hLd; have HKD := Lib.hid hkd; have HBC := Lib.hid hbc; have HSU := Lib.hid hsu; have HLN := Lib.hid hln; have HWD := Lib.hid hwd
        have HMFX := Lib.hid (show manyT cs ≤ 1000000000 from HMF.out)
        clear hL hLa hba hka q0 q1 r0 r1 hfp hft hpt hsu hln hops hbd hLd hkd hbc hwd
        go_wp2_with fail
        try clear hwa
        refine wp_region_still_tail 11 (by kernel_rfl) (by kernel_rfl) ?_
        simp only [List.take_succ_cons, List.take_zero, List.drop_succ_cons, List.drop_zero]
        obtain ⟨_, _, hj3, hj4, _, _⟩ := HJ.out
        repeat still_step
        refine wpStill_nil ?_
        change wpList _ _ _ _ _ wa.drew
        rw [HWD.out]
        clear x0 x1 e0 e1 d0 d1 hj3 hj4
        go_wp2_with fail
        ((with_reducible refine HBC.out.mono ?_); rintro _ we ⟨rfl, hGe, hbe⟩)
        have hLe := HLD.out.but hbe hGe
        have hke : sx.Blk we wr.heap.size 24 #[.int .i64 t.1, .string t.2] := HKD.out.but hbe (fun e => by obtain ⟨es, clock, hm⟩ := HLD.out.gap.map; have hk := HKD.out; unfold sx.Blk at hk; rw [e, hm] at hk; cases hk)
        have f1 : we.cell? ⟨wr.heap.size, 1, none⟩ = some (.string t.2) := hke.cell 1
        have HLE := Lib.hid hLe; have HKE := Lib.hid hke
        clear hGe hbe hke
        by_cases hgp : gapN p t = 0
        · have hg0 : decide ((0 : Int) < gapN p t) = false := by rw [hgp]; rfl
          have hwc := ed.writeString_calls (w2.heap.size + 1) (w2.heap.size + 1) _ t.2 we hLe.bat (by rw [Lib.byteCells_length]; have := HLN.out; have := HMFX.out; omega) hLe.hs
          have HGP := Lib.hid hgp
          clear hLe hgp
          go_wp2_with fail
          ((with_reducible refine hwc.mono ?_); rintro _ w4 ⟨rfl, hG4, hb4, _⟩)
          have hfin := HLE.out.put (k2 := j + 2) hb4 hG4 (by rw [HSU.out, if_pos HGP.out, List.nil_append, Lib.byteCells_append, ← Lib.strCells_eq])
          have HFIN := Lib.hid hfin
          clear hfin hb4 hG4
          go_wp2_with fail
          exact ⟨⟨j + 2, by omega, rfl, HFIN.out⟩, meas1 hlt⟩
        · have hg1 : gapN p t = 1 := by unfold gapN at hgp ⊢; split at hgp <;> simp_all
          have hg0 : decide ((0 : Int) < gapN p t) = true := by rw [hg1]; rfl
          have hwb := writeByte_calls (w2.heap.size + 1) (w2.heap.size + 1) _ 32 we hLe.bat (by rw [Lib.byteCells_length]; have := HLN.out; have := HMFX.out; omega) hLe.hs
          have HGP := Lib.hid hgp
          clear hLe hgp hg1
          go_wp2_with fail
          ((with_reducible refine hwb.mono ?_); rintro _ wf ⟨rfl, hGf, hbf, hof⟩)
          have hkf : sx.Blk wf wr.heap.size 24 #[.int .i64 t.1, .string t.2] := hof _ _ HKE.out (fun e => box_ne HLE.out.bat HKE.out (Option.some.inj e)) (fun c fz e => by cases e)
          have f2 : wf.cell? ⟨wr.heap.size, 1, none⟩ = some (.string t.2) := hkf.cell 1
          have hwc := ed.writeString_calls (w2.heap.size + 1) (w2.heap.size + 1) _ t.2 wf hGf (by rw [List.length_append, Lib.byteCells_length]; have h7 := HLN.out; have h8 := HMFX.out; rw [if_neg HGP.out] at h7; simp only [List.length_cons, List.length_nil] at h7 ⊢; omega) (Nat.le_trans HLE.out.hs hbf.size)
          have HBF := Lib.hid hbf
          clear hGf hbf hof hkf f1
          go_wp2_with fail
          ((with_reducible refine hwc.mono ?_); rintro _ w4 ⟨rfl, hG4, hb4, _⟩)
          have hfin := HLE.out.put (k2 := j + 2) (HBF.out.trans hb4) hG4 (by
            rw [HSU.out, if_neg HGP.out, Lib.byteCells_append, Lib.byteCells_append, ← Lib.strCells_eq, List.append_assoc]
            rfl)
          have HFIN := Lib.hid hfin
          clear hfin hb4 hG4
          go_wp2_with fail
          exact ⟨⟨j + 2, by omega, rfl, HFIN.out⟩, meas1 hlt⟩
    · obtain rfl : k = cs.length := by omega
      have hge : decide ((cs.length : Int) < (cs.length : Int)) = false := by simp
      have hst := Tryz.Builder_String_any_f (w2.heap.size + 1) (w2.heap.size + 1) (lineU cs cs.length) wr hL.bat hL.hs
      have HL := Lib.hid hL
      clear hL
      go_wp2_with fail
      ((with_reducible refine hst.mono ?_); rintro _ w4 ⟨rfl, _, hb4⟩)
      go_wp2_with fail
      go_ret
      exact ⟨rfl, (HB2.out.trans (HL.out.hb.mono HB2.out.size)).trans (hb4.mono (Nat.le_trans HB2.out.size (Nat.le_succ _)))⟩
end Go.Proofs.YtmoamfcaokefiaaGreatDoor.it

/-
  subeditorlaw05.known: true.
-/
namespace Go.Proofs.YtmoamfcaokefiaaGreatDoor.it
open Go.RowKit Go.Shelf
open sg (lst_len OpsAt)
open lx
set_option linter.unusedVariables false

theorem own_tks {W : World} {base : Nat} {v : Value} {l : List Lx.Tok} (h : W.ownsRow base 24 2 v l.length (tokCells l)) (hm : l.length ≤ maxLen) : TksAt W.heap.size W v (l.map asTk) := (ownsRow_toks h).tks hm
def knownToks : List Lx.Tok := [(6, [49]), (1, [32, 32]), (13, [43]), (1, [32]), (13, [46]), (1, [32, 32]), (13, [46]), (1, [32]), (3, [97])]
theorem known_toks : tokensF (⟨#[49, 32, 32, 43, 32, 46, 32, 32, 46, 32, 97]⟩ : ByteArray).data.toList (utf.checkF ⟨#[49, 32, 32, 43, 32, 46, 32, 32, 46, 32, 97]⟩) = (knownToks, 0, 0) := by decide +kernel
theorem known_line : lineU ((knownToks.map asTk).filter (fun t => !idleB t.1)) (knownToks.map asTk).length = [49, 43, 46, 32, 46, 32, 97] := by decide +kernel
theorem known_t1 : tightB (13, ⟨#[43]⟩) (13, ⟨#[46]⟩) = true := by decide +kernel
theorem known_t2 : tightB (13, ⟨#[46]⟩) (13, ⟨#[46]⟩) = false := by decide +kernel
theorem fits_tok (l : List Lx.Tok) (h : ∀ t ∈ l, 0 ≤ t.1 ∧ t.1 ≤ 100 ∧ t.2.length ≤ 1000000) : ∀ t ∈ l.map asTk, Fits t := by
  intro t ht
  obtain ⟨u, hu, rfl⟩ := List.mem_map.1 ht
  obtain ⟨h1, h2, h3⟩ := h u hu
  refine ⟨?_, ?_⟩
  · simp [Lit.wf, IntKind.min, IntKind.max, IntKind.signed, IntKind.bits]; omega
  · unfold maxLen
    show (asTk u).2.data.size ≤ _
    simp; omega

set_option maxRecDepth 100000 in
set_option maxHeartbeats 4000000 in
theorem known_calls (w : World) (hw : OpsAt w) : Calls Tryz.prog 11 #[] w fun e W' => e = .returned (.bool true) ∧ Below w.heap.size w W' := by
  have hrt := rtokens_as ⟨#[49, 32, 32, 43, 32, 46, 32, 32, 46, 32, 97]⟩ (by decide) w knownToks 0 0 known_toks
  have HW := Lib.hid hw
  clear hw
  go_enter Tryz.func11, Tryz.ntmps11
  go_wp2_with fail
  ((with_reducible refine hrt.mono ?_); rintro _ w2 ⟨v, rfl, ho2, hb2⟩)
  have ht2 := own_tks ho2 (by decide)
  have hl := line_calls v (knownToks.map asTk) w2 ht2 (fits_tok _ (by decide)) (by decide +kernel) (HW.out.own hb2)
  rw [known_line] at hl
  have HB2 := Lib.hid hb2
  obtain ⟨a2, l2, c2, rfl⟩ := own_slice ho2
  clear ho2 hb2 ht2
  go_wp2_with fail
  ((with_reducible refine hl.mono ?_); rintro _ w3 ⟨rfl, hb3⟩)
  have HB3 := Lib.hid (sg.Below.next HB2.out hb3 (Nat.le_refl _))
  have t1 := tight_calls (13, ⟨#[43]⟩) (13, ⟨#[46]⟩) w3 (HW.out.own HB3.out) (by decide)
  rw [known_t1] at t1
  clear hb3
  go_wp2_with fail
  ((with_reducible refine t1.mono ?_); rintro _ w4 ⟨rfl, hb4⟩)
  have HB4 := Lib.hid (sg.Below.next HB3.out hb4 (Nat.le_refl _))
  have t2 := tight_calls (13, ⟨#[46]⟩) (13, ⟨#[46]⟩) w4 (HW.out.own HB4.out) (by decide)
  rw [known_t2] at t2
  clear hb4
  go_wp2_with fail
  ((with_reducible refine t2.mono ?_); rintro _ w5 ⟨rfl, hb5⟩)
  have HB5 := Lib.hid (sg.Below.next HB4.out hb5 (Nat.le_refl _))
  clear hb5
  go_wp2_with fail
  go_ret
  exact ⟨rfl, HB5.out⟩
end Go.Proofs.YtmoamfcaokefiaaGreatDoor.it

/-
  Tokens of a source that is UTF-8 are so, each; what Tight and Line say of them.
-/
namespace Go.Proofs.YtmoamfcaokefiaaGreatDoor.it
open Go.RowKit
open sg (lst_len OpsAt)
open lx
set_option linter.unusedVariables false

theorem oneN_inner (n b0 b1 b2 b3 w : Nat) (h : utf.oneN n b0 b1 b2 b3 = w) (hw : w ≠ 0) : (1 < w → 128 ≤ b0 ∧ 128 ≤ b1) ∧ (2 < w → 128 ≤ b2) ∧ (3 < w → 128 ≤ b3) ∧ w ≤ 4 := by
  unfold utf.oneN at h
  repeat' split at h
  all_goals omega
theorem one_inner (l : List UInt8) (hw : utf.oneL l ≠ 0) (hn : 1 < utf.oneL l) (i : Nat) (hi : i < utf.oneL l) : 128 ≤ (l.getD i 0).toNat := by
  have hne : l ≠ [] := fun e => hw (by simp [utf.oneL, e])
  obtain ⟨w, hww⟩ : ∃ w, utf.oneL l = w := ⟨_, rfl⟩
  rw [hww] at hw hi hn
  unfold utf.oneL at hww
  rw [if_neg hne] at hww
  obtain ⟨h1, h2, h3, h4⟩ := oneN_inner _ _ _ _ _ w hww hw
  have hi4 : i = 0 ∨ i = 1 ∨ i = 2 ∨ i = 3 := by omega
  rcases hi4 with rfl | rfl | rfl | rfl
  · exact (h1 hn).1
  · exact (h1 hn).2
  · exact h2 hi
  · exact h3 hi
theorem ok_first {l : List UInt8} (h : Ok l) (hne : l ≠ []) : utf.oneL l ≠ 0 ∧ Ok (l.take (utf.oneL l)) ∧ Ok (l.drop (utf.oneL l)) := by
  unfold Ok at h
  have hle := utf.oneL_le l hne
  have hl : 1 ≤ l.length := by cases l with | nil => exact absurd rfl hne | cons a r => simp
  obtain ⟨b, hb⟩ : ∃ b, l.length = b + 1 := ⟨l.length - 1, by omega⟩
  rw [hb] at h
  simp only [utf.chkL] at h
  rw [if_neg hne] at h
  by_cases h0 : utf.oneL l = 0
  · rw [if_pos h0] at h; exact absurd h (by decide)
  · rw [if_neg h0] at h
    refine ⟨h0, ?_, ?_⟩
    · have ho := utf.oneL_local l [] h0
      rw [List.append_nil] at ho
      have hlt : (l.take (utf.oneL l)).length = utf.oneL l := by rw [List.length_take]; omega
      have hne2 : l.take (utf.oneL l) ≠ [] := fun e => by rw [e] at hlt; exact h0 hlt.symm
      obtain ⟨c, hc⟩ : ∃ c, utf.oneL l = c + 1 := ⟨utf.oneL l - 1, by omega⟩
      unfold Ok
      rw [hlt]
      conv => lhs; rw [show utf.chkL (utf.oneL l) = utf.chkL (c + 1) from by rw [hc]]
      simp only [utf.chkL]
      rw [if_neg hne2, ho, if_neg h0, List.drop_of_length_le (by omega), utf.chkL_nil]
    · have h1 := shift_chk b (l.drop (utf.oneL l)) 0 (utf.oneL l)
      rw [h] at h1
      unfold Ok
      rw [utf.chkL_fuel _ b _ 0 (Nat.le_refl _) (by rw [List.length_drop]; omega)]
      by_cases h2 : utf.chkL b (l.drop (utf.oneL l)) 0 = -1
      · exact h2
      · rw [if_neg h2] at h1
        rcases utf.chk_first b (l.drop (utf.oneL l)) 0 (by rw [List.length_drop]; omega) with h3 | ⟨k, _, h3, _⟩
        · exact h3
        · omega
/-- A text that is UTF-8, parted at a place with a byte of ASCII on one side of it. -/
theorem ok_part (l : List UInt8) (h : Ok l) (p : Nat) (hp : p ≤ l.length) (hb : p ≠ 0 → (l.getD p 0).toNat < 128 ∨ (l.getD (p - 1) 0).toNat < 128) : Ok (l.take p) ∧ Ok (l.drop p) := by
  generalize hn : l.length = n
  induction n using Nat.strongRecOn generalizing l p with
  | ind n ih =>
    subst hn
    by_cases h0 : p = 0
    · subst h0; exact ⟨ok_nil, h⟩
    · have hne : l ≠ [] := fun e => by subst e; exact h0 (by simpa using hp)
      obtain ⟨w0, w1, w2⟩ := ok_first h hne
      have hle := utf.oneL_le l hne
      have hin := one_inner l w0
      obtain ⟨w, hw⟩ : ∃ w, utf.oneL l = w := ⟨_, rfl⟩
      rw [hw] at w0 w1 w2 hle hin
      by_cases hpw : p < w
      · have i1 := hin (by omega) p hpw
        have i2 := hin (by omega) (p - 1) (by omega)
        rcases hb h0 with hb | hb <;> omega
      · have ht : l.take p = l.take w ++ (l.drop w).take (p - w) := by
          rw [← List.take_add, show w + (p - w) = p by omega]
        have hd : l.drop p = (l.drop w).drop (p - w) := by rw [List.drop_drop, show w + (p - w) = p by omega]
        rw [ht, hd]
        obtain ⟨g1, g2⟩ := ih (l.drop w).length (by rw [List.length_drop]; omega) _ w2 (p - w) (by rw [List.length_drop]; omega) (fun hp0 => by
          have := hb h0
          rw [Lx.getD_drop', Lx.getD_drop']
          rwa [show w + (p - w) = p by omega, show w + (p - w - 1) = p - 1 by omega]) rfl
        exact ⟨ok_app w1 g1, g2⟩
theorem toks_ok {x : Lx.Lex} {l : List UInt8} {ts : List Lx.Tok} {e : Int} (h : Lx.lexA x l = (ts, e)) (hl : Ok l) : ∀ t ∈ ts, Ok t.2 := by
  generalize hn : l.length = n
  induction n using Nat.strongRecOn generalizing x l ts with
  | ind n ih =>
    subst hn
    by_cases h0 : l = []
    · subst h0
      rw [Lx.lexA_nil] at h
      rw [← (Prod.mk.inj h).1]
      intro t ht; cases ht
    · cases hx : Lx.next x l with
      | error e' =>
        rw [Lx.lexA_err hx h0] at h
        rw [← (Prod.mk.inj h).1]
        intro t ht; cases ht
      | ok p =>
        obtain ⟨k, n, y⟩ := p
        have hle := Lx.next_le hx
        obtain ⟨g1, g2⟩ := ok_part l hl n hle.2 (fun _ => Lx.find_edge (Lx.next_find hx).1)
        rw [Lx.lexA_ok hx h0] at h
        rw [← (Prod.mk.inj h).1]
        intro t ht
        rcases List.mem_cons.1 ht with rfl | ht
        · exact g1
        · exact ih (l.drop n).length (by rw [List.length_drop]; omega) (x := y) (l := l.drop n) (ts := (Lx.lexA y (l.drop n)).1) (Prod.ext rfl (Prod.mk.inj h).2) g2 rfl t ht
theorem chk_cases (s : ByteArray) : Ok s.data.toList ∨ 0 ≤ utf.checkF s := by
  rw [utf.checkF_L]
  unfold Ok
  rcases utf.chk_first s.data.toList.length s.data.toList 0 (Nat.le_refl _) with h | ⟨k, _, h, _⟩
  · exact .inl h
  · exact .inr (by omega)
/-- Tokens of a source without an error: the source is UTF-8, and they are the plain lexer's. -/
theorem told_ok {s : ByteArray} {l : List Lx.Tok} {at' : Int} (h : tokensF s.data.toList (utf.checkF s) = (l, 0, at')) : Ok s.data.toList ∧ Lx.lexA Lx.start s.data.toList = (l, 0) ∧ at' = 0 := by
  unfold tokensF at h
  split at h
  · cases h
  · split at h
    · exact absurd (Prod.mk.inj (Prod.mk.inj h).2).1 (by decide)
    · rename_i hc
      split at h
      · rename_i h0
        refine ⟨?_, Prod.ext (Prod.mk.inj h).1 h0, (Prod.mk.inj (Prod.mk.inj h).2).2.symm⟩
        rcases chk_cases s with h1 | h1
        · exact h1
        · exact absurd h1 hc
      · rename_i h0
        exact absurd (Prod.mk.inj (Prod.mk.inj h).2).1 h0
theorem TF_of {l : List UInt8} {ts : List Lx.Tok} (h : Lx.lexA Lx.start l = (ts, 0)) (hok : Ok l) (hl : l.length ≤ 65536) : TF l = ts := by
  unfold TF tokensF
  rw [if_neg (by omega), show utf.chkL l.length l 0 = -1 from hok, if_neg (by decide), h]
  rfl
theorem mem_len {x : Lx.Lex} {l : List UInt8} {t : Lx.Tok} (h : t ∈ (Lx.lexA x l).1) : t.2.length ≤ l.length := by
  have h1 := Lx.size_le x l
  have h2 : t.2.length ≤ Lx.size (Lx.lexA x l).1 := by
    generalize (Lx.lexA x l).1 = ts at h
    induction ts with
    | nil => cases h
    | cons a r ih =>
      simp only [Lx.size, List.map_cons, List.sum_cons] at ih ⊢
      rcases List.mem_cons.1 h with rfl | h
      · omega
      · have := ih h; omega
  omega
theorem tight_math {s : ByteArray} (hs : s.size ≤ 1000) {l : List Lx.Tok} {at' : Int} (h : tokensF s.data.toList (utf.checkF s) = (l, 0, at')) {i : Nat} {a b : Lx.Tok} (ha : l[i]? = some a) (hb : l[i + 1]? = some b) :
    tightB (asTk a) (asTk b) = !Lx.spaceT a b ∧ a.2.length ≤ 1000 ∧ b.2.length ≤ 1000 := by
  obtain ⟨h1, h2, _⟩ := told_ok h
  obtain ⟨sd⟩ := Lx.side_of h2 ha hb
  have hma := List.mem_of_getElem? ha
  have hmb := List.mem_of_getElem? hb
  have oa := toks_ok h2 h1 a hma
  have ob := toks_ok h2 h1 b hmb
  have la : a.2.length ≤ 1000 := by have := mem_len (x := Lx.start) (l := s.data.toList) (t := a) (by rw [h2]; exact hma); rw [lst_len] at this; omega
  have lb : b.2.length ≤ 1000 := by have := mem_len (x := Lx.start) (l := s.data.toList) (t := b) (by rw [h2]; exact hmb); rw [lst_len] at this; omega
  have := sd.tight TF (fun h3 => TF_of h3 (ok_app oa ob) (by rw [List.length_append]; omega))
  exact ⟨this, la, lb⟩
end Go.Proofs.YtmoamfcaokefiaaGreatDoor.it
