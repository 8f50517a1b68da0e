/-
  lex: just, row, marked and the functions that they hand back; letterOrDigit, bracket: their contracts.
-/
import Derived.RangeFuncBox
import Derived.Deep.QuietTactic
import Derived.BigQuiet
import Derived.Test.YtmoamfcaokefiaaGreatDoorSgOper
import Derived.Test.YtmoamfcaokefiaaGreatDoorLxSpec
import Derived.Test.YtmoamfcaokefiaaGreatDoorSeqX
namespace Go.Proofs.YtmoamfcaokefiaaGreatDoor.lx
open Go.RowKit Go.Shelf
open sg (lst_len extract_drop ext_size)
open sx
set_option linter.unusedVariables false

theorem just_calls (t : ByteArray) (w : World) : Calls Tryz.prog 93 #[.string t] w fun e w' => e = .returned (.func (.func 107) #[] #[.pointer (some ⟨w.heap.size, 0, none⟩)]) ∧ w' = w.alloc (.cells #[.string t] 9) := by
  go_enter Tryz.func93, Tryz.ntmps93
  go_wp2
  go_ret
  exact ⟨rfl, rfl⟩
theorem row_calls (v : Value) (w : World) (g : Nat) (hv : v = .func (.func g) #[] #[]) : Calls Tryz.prog 98 #[v] w fun e w' => e = .returned (.func (.func 112) #[] #[.pointer (some ⟨w.heap.size, 0, none⟩)]) ∧ w' = w.alloc (.cells #[v] 92) := by
  subst hv
  go_enter Tryz.func98, Tryz.ntmps98
  go_wp2
  go_ret
  exact ⟨rfl, rfl⟩
theorem marked_calls (t : ByteArray) (v : Value) (w : World) (g : Nat) (lb : Array Value) (hv : v = .func (.func g) #[] lb) : Calls Tryz.prog 102 #[.string t, v] w fun e w' => e = .returned (.func (.func 117) #[] #[.pointer (some ⟨w.heap.size, 0, none⟩), .pointer (some ⟨w.heap.size + 1, 0, none⟩)]) ∧ w' = (w.alloc (.cells #[.string t] 9)).alloc (.cells #[v] 47) := by
  subst hv
  go_enter Tryz.func102, Tryz.ntmps102
  go_wp2
  go_ret
  exact ⟨rfl, rfl⟩

set_option maxHeartbeats 1000000 in
theorem just1_calls (t : ByteArray) (ht : t.size ≤ 100) (B : Nat) (s : ByteArray) (w : World) (hc : w.cell? ⟨B, 0, none⟩ = some (.string t)) :
    Calls Tryz.prog 107 #[.string s, .pointer (some ⟨B, 0, none⟩)] w fun e w' => e = .returned (.int .i64 (Lx.just t.data.toList s.data.toList : Nat)) ∧ w = w' := by
  have hp := Tryz.strings_HasPrefix s t w
  have HJ := Lib.hid (show Lx.just t.data.toList s.data.toList = if Lib.hasPrefix s.data.toList t.data.toList then t.data.toList.length else 0 from rfl)
  cases h : Lib.hasPrefix s.data.toList t.data.toList with
  | true =>
    rw [h] at hp HJ
    clear h
    go_enter Tryz.func107, Tryz.ntmps107
    go_wp2_with fail
    ((with_reducible refine hp.mono ?_); rintro e w1 ⟨rfl, rfl⟩)
    go_wp2_with fail
    go_ret
    exact ⟨by rw [HJ.out]; simp, rfl⟩
  | false =>
    rw [h] at hp HJ
    clear h
    go_enter Tryz.func107, Tryz.ntmps107
    go_wp2_with fail
    ((with_reducible refine hp.mono ?_); rintro e w1 ⟨rfl, rfl⟩)
    go_wp2_with fail
    go_ret
    exact ⟨by rw [HJ.out]; rfl, rfl⟩

theorem run_next (p : Int → Bool) (s : ByteArray) (m : Nat) (hm : m < s.size) (hr : Sg.run p (s.data.toList.take m) = m) :
    (p ((s[m]'hm).toNat : Int) = true → Sg.run p (s.data.toList.take (m + 1)) = m + 1) ∧ (p ((s[m]'hm).toNat : Int) = false → Sg.run p s.data.toList = m) := by
  have e : s.data.toList.getD m 0 = s[m]'hm := by
    have e2 : s.data.toList.getD m 0 = s.data.toList[m]'(by rw [lst_len]; exact hm) := by simp [List.getD, hm]
    rw [e2]; rfl
  refine ⟨fun h => Sg.run_snoc (by rw [lst_len]; exact hm) hr (by rw [e]; exact h), fun h => Sg.run_eq hr ?_⟩
  rw [Sg.drop_head (by rw [lst_len]; exact hm), e]
  exact Sg.stop_cons h _
theorem run_stop_end (p : Int → Bool) (s : ByteArray) (m : Nat) (hm : s.size ≤ m) (hr : Sg.run p (s.data.toList.take m) = m) : Sg.run p s.data.toList = m := by
  refine Sg.run_eq hr ?_
  rw [List.drop_eq_nil_of_le (by rw [lst_len]; exact hm)]
  exact Sg.stop_nil p

set_option maxRecDepth 100000 in
set_option maxHeartbeats 2000000 in
theorem row1_calls (g : Nat) (p : Int → Bool) (B : Nat) (s : ByteArray) (hs : s.size ≤ 140737488351232) (w : World) (hc : w.cell? ⟨B, 0, none⟩ = some (.func (.func g) #[] #[]))
    (hen : ∀ args w, (callFunc g args).run Tryz.prog w = .ok (.enter g args) w)
    (hg : ∀ c : Int, 0 ≤ c → c ≤ 255 → ∀ w, Calls Tryz.prog g #[.int .u8 c] w fun e w' => e = .returned (.bool (p c)) ∧ w' = w) :
    Calls Tryz.prog 112 #[.string s, .pointer (some ⟨B, 0, none⟩)] w fun e w' => e = .returned (.int .i64 (Sg.run p s.data.toList : Nat)) ∧ Below w.heap.size w w' := by
  have hlt := World.block_lt_of_cell? w _ hc
  go_enter Tryz.func112, Tryz.ntmps112
  go_wp2
  go_loopw [4] (fun k wr => ∃ m : Nat, k = .int .i64 (m : Int) ∧ m ≤ s.size ∧ Sg.run p (s.data.toList.take m) = m ∧ Below w.heap.size w wr) (fun k _ => s.size - (intOf k).toNat)
  case atStart => exact ⟨0, rfl, Nat.zero_le _, rfl, Below.refl _ _⟩
  case round =>
    obtain ⟨m, rfl, hm, hr, hb⟩ := hrel
    have hc1 := (hb.cell (p := ⟨B, 0, none⟩) hlt).trans hc
    clear hc
    by_cases hl : m < s.size
    · have hli : (m : Int) < (s.size : Int) := by omega
      have hn := run_next p s m hl hr
      have hb8 : (s[m]'hl).toNat < 256 := (s[m]'hl).toNat_lt
      have hg1 := hg ((s[m]'hl).toNat : Int) (by omega) (by omega)
      cases hv : p ((s[m]'hl).toNat : Int) with
      | true =>
        rw [hv] at hg1
        have HR := Lib.hid (hn.1 hv)
        have HG := Lib.hid hg1
        clear hn hv hg1 hr hg
        go_wp2
        go_quiet (exact Calls.quiet_of_same (HG.out _))
        go_wp2
        go_roundw
        case rel => exact ⟨m + 1, by go_num, by omega, HR.out, hb.trans ⟨rfl, rfl, rfl, Nat.le_refl _, fun _ _ => rfl⟩⟩
        case measure => simp [intOf]; omega
      | false =>
        rw [hv] at hg1
        have HF := Lib.hid (hn.2 hv)
        have HG := Lib.hid hg1
        clear hn hv hg1 hr hg
        go_wp2
        go_quiet (exact Calls.quiet_of_same (HG.out _))
        go_wp2
        go_ret
        exact ⟨by rw [HF.out]; rfl, hb.trans ⟨rfl, rfl, rfl, Nat.le_refl _, fun _ _ => rfl⟩⟩
    · have hli : decide ((m : Int) < (s.size : Int)) = false := decide_eq_false (by omega)
      have HF := Lib.hid (run_stop_end p s m (by omega) hr)
      clear hr hg
      go_wp2
      go_quiet (fail)
      go_wp2
      go_ret
      exact ⟨by rw [HF.out]; rfl, hb.trans ⟨rfl, rfl, rfl, Nat.le_refl _, fun _ _ => rfl⟩⟩

set_option maxHeartbeats 1000000 in
theorem letterOrDigit_calls (c : Int) (w : World) : Calls Tryz.prog 104 #[.int .u8 c] w fun e w' => e = .returned (.bool (Sg.cW c)) ∧ w' = w := by
  go_enter Tryz.func104, Tryz.ntmps104
  cases hl : Sg.cL c with
  | true =>
    go_wp2_with fail
    ((with_reducible refine (sg.letter_calls c _).mono ?_); rintro e w1 ⟨rfl, rfl⟩)
    go_wp2_with fail
    go_ret
    exact ⟨by simp [Sg.cW, hl], rfl⟩
  | false =>
    go_wp2_with fail
    ((with_reducible refine (sg.letter_calls c _).mono ?_); rintro e w1 ⟨rfl, rfl⟩)
    go_wp2_with fail
    ((with_reducible refine (sg.digit_calls c _).mono ?_); rintro e w1 ⟨rfl, rfl⟩)
    go_wp2_with fail
    go_ret
    exact ⟨by simp [Sg.cW, hl], rfl⟩

/-- A value that tells a size, over the blocks of bl. -/
def SzOn (bl : List (Nat × TypeId × Array Value)) (v : Value) (f : List UInt8 → Nat) : Prop :=
  ∃ g lb, v = .func (.func g) #[] lb ∧ (∀ args w, (callFunc g args).run Tryz.prog w = .ok (.enter g args) w) ∧
    ∀ W, sg.OpsAt W → (∀ b ∈ bl, Blk W b.1 b.2.1 b.2.2) → ∀ s : ByteArray, s.size ≤ 65536 → Calls Tryz.prog g (#[.string s] ++ lb) W fun e w' => e = .returned (.int .i64 (f s.data.toList : Nat)) ∧ Below W.heap.size W w'
theorem SzOn.mono {bl bl' : List (Nat × TypeId × Array Value)} {v : Value} {f : List UInt8 → Nat} (h : SzOn bl v f) (hs : ∀ b ∈ bl, b ∈ bl') : SzOn bl' v f := by
  obtain ⟨g, lb, hv, he, hc⟩ := h
  exact ⟨g, lb, hv, he, fun W ho hb s hz => hc W ho (fun b hm => hb b (hs b hm)) s hz⟩

theorem trim_data (l p : List UInt8) (h : Lib.hasPrefix l p = true) : (⟨(Lib.trimPrefix l p).toArray⟩ : ByteArray).data.toList = l.drop p.length := by
  rw [sg.trim_true h]

set_option maxHeartbeats 1000000 in
theorem marked1_calls (t : ByteArray) (ht : t.size ≤ 100) (B1 B2 : Nat) (s : ByteArray) (hs : s.size ≤ 65536) (f : List UInt8 → Nat) (g : Nat) (lb : Array Value) (w : World) (hc1 : w.cell? ⟨B1, 0, none⟩ = some (.string t)) (hc2 : w.cell? ⟨B2, 0, none⟩ = some (.func (.func g) #[] lb))
    (hen : ∀ args w, (callFunc g args).run Tryz.prog w = .ok (.enter g args) w) (hf : ∀ l : List UInt8, f l ≤ l.length)
    (hg : ∀ s' : ByteArray, s'.size ≤ 65536 → Calls Tryz.prog g (#[.string s'] ++ lb) w fun e w' => e = .returned (.int .i64 (f s'.data.toList : Nat)) ∧ Below w.heap.size w w') :
    Calls Tryz.prog 117 #[.string s, .pointer (some ⟨B1, 0, none⟩), .pointer (some ⟨B2, 0, none⟩)] w fun e w' => e = .returned (.int .i64 (Lx.marked t.data.toList f s.data.toList : Nat)) ∧ Below w.heap.size w w' := by
  have hp := Tryz.strings_CutPrefix s t w
  have HM := Lib.hid (show Lx.marked t.data.toList f s.data.toList = if Lib.hasPrefix s.data.toList t.data.toList then (if f (s.data.toList.drop t.data.toList.length) = 0 then 0 else t.data.toList.length + f (s.data.toList.drop t.data.toList.length)) else 0 from rfl)
  have hl1 := World.block_lt_of_cell? w _ hc1
  cases h : Lib.hasPrefix s.data.toList t.data.toList with
  | true =>
    rw [h] at hp HM
    have htd := trim_data _ _ h
    have hlen := Sg.pre_length h
    rw [lst_len, lst_len] at hlen
    obtain ⟨s', hs'⟩ : ∃ s', (⟨(Lib.trimPrefix s.data.toList t.data.toList).toArray⟩ : ByteArray) = s' := ⟨_, rfl⟩
    rw [hs'] at hp htd
    have hsz : s'.size ≤ 65536 := by rw [← lst_len, htd, List.length_drop, lst_len]; omega
    have hg1 := hg s' hsz
    have hfl := hf s'.data.toList
    rw [lst_len] at hfl
    rw [← htd] at HM
    rw [lst_len] at HM
    obtain ⟨d, hd⟩ : ∃ d, f s'.data.toList = d := ⟨_, rfl⟩
    rw [hd] at hg1 HM hfl
    clear hd htd hs' h hg hf
    have HG := Lib.hid hg1
    clear hg1
    by_cases h0 : d = 0
    · have HX := Lib.hid (HM.out.trans ((if_pos rfl).trans (if_pos h0)))
      have t0 : ((d : Int) == 0) = true := by rw [beq_iff_eq]; omega
      go_enter Tryz.func117, Tryz.ntmps117
      go_wp2_with fail
      ((with_reducible refine hp.mono ?_); rintro e w1 ⟨rfl, rfl⟩)
      go_wp2_with fail
      ((with_reducible refine HG.out.mono ?_); rintro e w1 ⟨rfl, hb⟩)
      go_wp2_with fail
      go_ret
      exact ⟨by rw [HX.out]; rfl, hb⟩
    · have HX := Lib.hid (HM.out.trans ((if_pos rfl).trans (if_neg h0)))
      have t0 : ((d : Int) == 0) = false := by rw [beq_eq_false_iff_ne]; omega
      have w1 : wrap64 ((t.size : Int) + (d : Int)) = ((t.size + d : Nat) : Int) := by rw [IntWalk.wrap64_in]; rfl; omega
      have w2 : IntKind.i64.wrap ((t.size : Int) + (d : Int)) = ((t.size + d : Nat) : Int) := (IntWalk.i64_left _).trans w1
      go_enter Tryz.func117, Tryz.ntmps117
      go_wp2_with fail
      ((with_reducible refine hp.mono ?_); rintro e w1 ⟨rfl, rfl⟩)
      go_wp2_with fail
      ((with_reducible refine HG.out.mono ?_); rintro e w1 ⟨rfl, hb⟩)
      have hc3 := (hb.cell (p := ⟨B1, 0, none⟩) hl1).trans hc1
      go_wp2_with fail
      go_ret
      exact ⟨by rw [HX.out]; rfl, hb⟩
  | false =>
    rw [h] at hp HM
    clear h
    go_enter Tryz.func117, Tryz.ntmps117
    go_wp2_with fail
    ((with_reducible refine hp.mono ?_); rintro e w1 ⟨rfl, rfl⟩)
    go_wp2_with fail
    go_ret
    exact ⟨by rw [HM.out]; rfl, Below.refl _ _⟩
end Go.Proofs.YtmoamfcaokefiaaGreatDoor.lx
