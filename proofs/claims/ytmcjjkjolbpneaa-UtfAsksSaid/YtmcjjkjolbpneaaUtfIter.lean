/-
  utf.lines and the function that it hands back: the contract of the iterator over a text's lines, for whatever body.
-/
import Derived.RangeFuncNested
import Derived.RangeFuncBound
import Derived.RangeFuncCalls
import Derived.RangeFuncLeaves
import Derived.Shelf.Abstract
import Derived.Shelf.RegionOpen
import Derived.WalkKit
import Derived.OwnWalkIn
import Derived.TacticsInMore
import Derived.LoopNIn
import Derived.LoopIn
import Derived.Lib.Hide
import Derived.Test.YtmcjjkjolbpneaaShelf
import Derived.Test.YtmcjjkjolbpneaaUtfSpec
namespace Go.Proofs.Ytmcjjkjolbpneaa.utf
open Go.RowKit Go.Shelf
attribute [local go_sem] Oper.semAt_some

abbrev encSpan (x : Nat × Nat × Nat) : Array Value := #[.int .i64 (x.1 : Int), .agg #[.int .i64 (x.2.1 : Int), .int .i64 (x.2.2 : Int)]]

/-- A span that lies in s. -/
def Okay (s : ByteArray) (x : Nat × Nat × Nat) : Prop := x.2.1 ≤ x.2.2 ∧ x.2.2 ≤ s.size

set_option maxHeartbeats 1000000 in
theorem lines_calls (n : Nat) (s : ByteArray) (w : World) :
    CallsIn Fence.wide n Try.prog 23 #[.string s] w fun e w' => e = .returned (.func (.func 28) #[] #[.pointer (some ⟨w.heap.size, 0, none⟩)]) ∧ w' = w.alloc (.cells #[.string s] 9) := by
  refine callsIn_of_wp Try.func23 rfl trivial ?_ rfl
  simp only [Try.ntmps23, List.size_toArray, List.length_cons, List.length_nil, Nat.reduceAdd, Nat.reduceSub, Array.replicate_succ, Array.replicate_zero, List.push_toArray, List.append_toArray, List.nil_append, List.cons_append]
  gi_wp2
  go_ret
  exact ⟨rfl, rfl⟩

/-- What the iterator asks of a round: its own box holds what it held. -/
def KC (Bs : Nat) (W W' : World) : Prop := ∀ v, W.cell? ⟨Bs, 0, none⟩ = some v → W'.cell? ⟨Bs, 0, none⟩ = some v
theorem KC.refl (Bs : Nat) (W : World) : KC Bs W W := fun _ h => h
theorem KC.trans {Bs : Nat} {A B C : World} (h : KC Bs A B) (k : KC Bs B C) : KC Bs A C := fun v e => k v (h v e)
theorem KC.put {Bs B : Nat} (W : World) (l : Nat) (o o' : Obj) (_ : B ≤ l) (hl : W.heap[l]? = some o) (ho : o.isCells = false) (_ : o.isWalk = false) : KC Bs W (W.putObj l o') :=
  fun _ h => cell_kept h (grownBy_putObj' _ l o') (fun r e => by cases e; exact ⟨_, hl, ho⟩)
theorem KC.alloc (Bs : Nat) (W : World) (o : Obj) : KC Bs W (W.alloc o) := fun _ h => cell_kept h (World.grownBy_alloc W o none) (fun r e => by cases e)

theorem extract_drop (s : ByteArray) (k : Nat) : (s.extract k s.size).data.toList = s.data.toList.drop k := by
  rw [ByteArray.data_extract, Array.toList_extract]
  have e : s.size = s.data.toList.length := by rw [Array.length_toList]; rfl
  rw [List.extract_eq_take_drop, e, List.take_of_length_le (by simp)]

theorem size_toList (s : ByteArray) : s.data.toList.length = s.size := by rw [Array.length_toList]; rfl

theorem index_calls (m : Nat) (s : ByteArray) (k : Nat) (r : Int) (h : Lib.indexByte (s.data.toList.drop k) 10 = r) (w : World) :
    CallsIn Fence.wide m Try.prog 29 #[.string (s.extract k s.size), .int .u8 10] w fun e w' => e = .returned (.int .i64 r) ∧ w = w' := by
  refine (callsIn_wide.2 (Try.strings_IndexByte (s.extract k s.size) 10 w)).mono ?_
  rintro e w' ⟨rfl, rfl⟩
  rw [extract_drop]
  exact ⟨by rw [← h]; rfl, rfl⟩

set_option maxRecDepth 100000 in
set_option maxHeartbeats 2000000 in
theorem lines1_in (n : Nat) (hn : 1 ≤ n) (l Bs : Nat) (s : ByteArray) (hs : s.size ≤ 140737488351232) (J Jx : List (Nat × Nat × Nat) → World → Prop)
    (hY : ∀ pre x W, Okay s x → J pre W → pre.length < s.size + 1 → YieldAt Fence.wide (n - 1) Try.prog l (encSpan x) W fun e W' =>
      (e = .returned (.bool true) ∧ J (pre ++ [x]) W' ∧ KC Bs W W') ∨ (e = .returned (.bool false) ∧ Jx (pre ++ [x]) W'))
    (W : World) (hc : W.cell? ⟨Bs, 0, none⟩ = some (.string s)) (h0 : J [] W) :
    CallsIn Fence.wide n Try.prog 28 #[.func (.yield l) #[] #[], .pointer (some ⟨Bs, 0, none⟩)] W fun e W' => (∃ v, e = .returned v) ∧
      ((∃ ys, ys = Sp.spansOf s.data.toList ∧ J ys W') ∨ (∃ pre, pre <+: Sp.spansOf s.data.toList ∧ Jx pre W')) := by
  have hfI : Fence.wide.fn 29 := trivial
  refine callsIn_of_wp Try.func28 rfl trivial ?_ rfl
  simp only [Try.ntmps28, List.size_toArray, List.length_cons, List.length_nil, Nat.reduceAdd, Nat.reduceSub, Array.replicate_succ, Array.replicate_zero, List.push_toArray, List.append_toArray, List.nil_append, List.cons_append]
  gi_wp2
  gi_loopw [3, 4] (fun f k wr => ∃ (pre : List (Nat × Nat × Nat)) (fr m : Nat), f = .int .i64 (fr : Int) ∧ k = .int .i64 (m : Int) ∧ m = pre.length ∧ fr ≤ s.size ∧ m ≤ fr ∧ Sp.spansOf s.data.toList = pre ++ Sp.spans (s.data.toList.drop fr) m fr fr ∧ J pre wr ∧ KC Bs W wr)
    (fun f _ _ => s.size - (intOf f).toNat)
  case atStart => exact ⟨[], 0, 0, rfl, rfl, rfl, Nat.zero_le _, Nat.le_refl _, rfl, h0, KC.refl _ _⟩
  case round =>
    obtain ⟨pre, fr, m, rfl, rfl, hm, hfr, hmf, hsp, hJ, hB⟩ := hrel
    have hcx : wr.cell? ⟨Bs, 0, none⟩ = some (.string s) := hB _ hc
    have hlt : (fr : Int) ≤ (s.size : Int) := by omega
    have h0f : (0 : Int) ≤ (fr : Int) := by omega
    have hlen : (s.data.toList.drop fr).length = s.size - fr := by rw [List.length_drop, size_toList]
    rcases Sp.spans_index (s.data.toList.drop fr) m fr fr with ⟨hi, hs2⟩ | ⟨k, hi, hk, hs2⟩
    · have hix := index_calls (n - 1) s fr (-1) hi wr
      have e2 : fr + (s.data.toList.drop fr).length = s.size := by omega
      rw [e2] at hs2
      have HS := Lib.hid hsp; have HS2 := Lib.hid hs2; have HI := Lib.hid hi; have HM := Lib.hid hm
      have hlt2 : pre.length < s.size + 1 := by omega
      clear hsp hs2 hi hm e2 hlen
      obtain ⟨fn, tmps, assign, body, hy, hR⟩ := hY pre (m, fr, s.size) wr ⟨hfr, Nat.le_refl _⟩ hJ hlt2
      dsimp only [encSpan] at hy
      gi_wp2_with (gi_at_call 29; refine hix.mono ?_; rintro e w' ⟨rfl, rfl⟩)
      refine hR.mono ?_
      rintro e W3 (⟨rfl, hJ3, hk3⟩ | ⟨rfl, hJx3⟩)
      · gi_wp2
        refine bodyPost_ret (results_none rfl _ _ _) rfl ?_
        exact ⟨⟨_, rfl⟩, .inl ⟨_, by rw [HS.out, HS2.out], hJ3⟩⟩
      · gi_wp2
        refine bodyPost_ret (results_none rfl _ _ _) rfl ?_
        exact ⟨⟨_, rfl⟩, .inr ⟨_, ⟨[], by rw [HS.out, HS2.out, List.append_nil]⟩, hJx3⟩⟩
    · have hix := index_calls (n - 1) s fr k hi wr
      have HS := Lib.hid hsp; have HS2 := Lib.hid hs2; have HI := Lib.hid hi; have HM := Lib.hid hm
      have hlt2 : pre.length < s.size + 1 := by omega
      have hk2 : fr + k < s.size := by omega
      have hk3 : (0 : Int) ≤ (k : Int) := by omega
      clear hsp hs2 hi hm hlen hk
      obtain ⟨fn, tmps, assign, body, hy, hR⟩ := hY pre (m, fr, fr + k) wr ⟨Nat.le_add_right _ _, Nat.le_of_lt hk2⟩ hJ hlt2
      simp only [encSpan, Int.natCast_add] at hy
      gi_wp2_with (gi_at_call 29; refine hix.mono ?_; rintro e w' ⟨rfl, rfl⟩)
      refine hR.mono ?_
      rintro e W3 (⟨rfl, hJ3, hkp⟩ | ⟨rfl, hJx3⟩)
      · gi_wp2
        go_roundw
        case rel => exact ⟨pre ++ [(m, fr, fr + k)], fr + k + 1, m + 1, by go_num, by go_num, by simp [HM.out], by omega, by omega, by rw [HS.out, HS2.out, List.append_assoc, List.singleton_append, List.drop_drop]; rfl, hJ3, hB.trans hkp⟩
        case measure => simp [intOf]; omega
      · gi_wp2
        refine bodyPost_ret (results_none rfl _ _ _) rfl ?_
        exact ⟨⟨_, rfl⟩, .inr ⟨_, ⟨Sp.spans (s.data.toList.drop (fr + k + 1)) (m + 1) (fr + k + 1) (fr + k + 1), by rw [HS.out, HS2.out, List.append_assoc, List.singleton_append, List.drop_drop]; rfl⟩, hJx3⟩⟩

/-- What utf.lines hands back goes through the lines, in order; a body may say 'no more'. -/
theorem lines_stops (n : Nat) (hn : 1 ≤ n) (Bs : Nat) (s : ByteArray) (hs : s.size ≤ 140737488351232) (w : World) (hBs : Bs < w.heap.size) (hc : w.cell? ⟨Bs, 0, none⟩ = some (.string s)) :
    SeqStopsK Fence.wide n Try.prog 28 #[.pointer (some ⟨Bs, 0, none⟩)] encSpan (KC Bs) (fun ys => ys = Sp.spansOf s.data.toList) (fun pre => pre <+: Sp.spansOf s.data.toList) (s.size + 1) w := fun l J Jx W hW _ _ hY h0 => by
  exact lines1_in n hn l Bs s hs J Jx (fun pre x W _ => hY pre x W) W ((hW.cell (p := ⟨Bs, 0, none⟩) hBs).trans hc) h0

/-- The same, where a body may lean on what a span is. -/
theorem lines_stops_ok (n : Nat) (hn : 1 ≤ n) (Bs : Nat) (s : ByteArray) (hs : s.size ≤ 140737488351232) (w : World) (hBs : Bs < w.heap.size) (hc : w.cell? ⟨Bs, 0, none⟩ = some (.string s)) :
    SeqStopsK Fence.wide n Try.prog 28 #[.pointer (some ⟨Bs, 0, none⟩)] (fun x : { x // Okay s x } => encSpan x.1) (KC Bs) (fun ys => ys.map (·.1) = Sp.spansOf s.data.toList) (fun pre => pre.map (·.1) <+: Sp.spansOf s.data.toList) (s.size + 1) w := fun l J Jx W hW _ _ hY h0 => by
  refine (lines1_in n hn l Bs s hs (fun pre W => ∃ p : List { x // Okay s x }, p.map (·.1) = pre ∧ J p W) (fun pre W => ∃ p : List { x // Okay s x }, p.map (·.1) = pre ∧ Jx p W) ?_ W ((hW.cell (p := ⟨Bs, 0, none⟩) hBs).trans hc) ⟨[], rfl, h0⟩).mono ?_
  · rintro pre x W1 hx ⟨p, rfl, hJ⟩ hl
    obtain ⟨fn, tmps, assign, body, hy, hR⟩ := hY p ⟨x, hx⟩ W1 hJ (by simpa using hl)
    refine ⟨fn, tmps, assign, body, hy, hR.mono ?_⟩
    rintro e W' (⟨rfl, hJ', hk⟩ | ⟨rfl, hJx'⟩)
    · exact .inl ⟨rfl, ⟨p ++ [⟨x, hx⟩], by simp, hJ'⟩, hk⟩
    · exact .inr ⟨rfl, ⟨p ++ [⟨x, hx⟩], by simp, hJx'⟩⟩
  · rintro e W' ⟨he, ⟨ys, hys, p, hp, hJ⟩ | ⟨pre, hpre, p, hp, hJ⟩⟩
    · exact ⟨he, .inl ⟨p, hp.trans hys, hJ⟩⟩
    · exact ⟨he, .inr ⟨p, by show p.map (·.1) <+: _; rw [hp]; exact hpre, hJ⟩⟩

end Go.Proofs.Ytmcjjkjolbpneaa.utf
