/-
  subeditorlaw02.EditRight: for every input it returns true, and the arguments read as they did. No condition.
-/
import Derived.Test.YtepniobmhplphaaEdKnown
import Derived.OwnWalk
import Derived.Maps.AppendAt
namespace Go.Proofs.Ytepniobmhplphaa.editRight
open Go.RowKit Go.ChangeShapes Go.WideShapes Go.ChangeAt Go.ChangeMaps
open ed
set_option linter.unusedVariables false


theorem infoE : (Try.prog.info? 44).map (fun i => (i.zero, i.size, i.bytes)) = some (some (.agg #[.int .i64 0, .int .i64 0, .string ⟨#[]⟩]), 3, 32) := by kernel_rfl

theorem cell_new3 (w : World) (t : TypeId) (a b c : Value) : ∀ (j : Nat) (u : Value), [a, b, c][j]? = some u → (w.alloc (.cells #[a, b, c] t)).cell? ((⟨w.heap.size, 0, none⟩ : Addr).add j) = some u := by
  intro j u hj
  have hg := World.alloc_heap_new w (.cells #[a, b, c] t)
  match j, hj with
  | 0, hj => simp at hj; subst hj; exact (ed.Blk.cell (t := t) hg 0)
  | 1, hj => simp at hj; subst hj; exact (ed.Blk.cell (t := t) hg 1)
  | 2, hj => simp at hj; subst hj; exact (ed.Blk.cell (t := t) hg 2)

/-- What the loop makes. -/
def rowF (g : Int) : Nat → List Ed
  | 0 => []
  | i + 1 => rowF g i ++ [⟨(i : Int) * (1 + g), (i : Int) * (1 + g) + 1, ⟨#[]⟩⟩]
theorem rowF_length (g : Int) : ∀ i, (rowF g i).length = i
  | 0 => rfl
  | i + 1 => by simp [rowF, rowF_length g i]
theorem rowF_right (g : Int) (h0 : 0 ≤ g) (h2 : g ≤ 2) : ∀ i, i ≤ 1100 → rightG (-1) 0 5000 (rowF g i) = true ∧ lastF (-1) (rowF g i) < (i : Int) * (1 + g) ∧ lastT 0 (rowF g i) ≤ (i : Int) * (1 + g)
  | 0, _ => by simp [rowF, rightG, lastF, lastT]
  | i + 1, hi => by
    obtain ⟨h, hf, ht⟩ := rowF_right g h0 h2 i (by omega)
    have hm : (i : Int) * (1 + g) ≤ 3300 := by
      have : (i : Int) * (1 + g) ≤ 1100 * 3 := Int.mul_le_mul (by omega) (by omega) (by omega) (by omega)
      omega
    have hs : ((i + 1 : Nat) : Int) * (1 + g) = (i : Int) * (1 + g) + (1 + g) := by rw [Int.natCast_add, Int.add_mul]; simp
    simp only [rowF]
    rw [rightG_snoc, lastF_snoc, lastT_snoc, h, hs]
    refine ⟨?_, by simp; omega, by simp; omega⟩
    simp [bad]
    omega

set_option maxRecDepth 100000 in
set_option maxHeartbeats 4000000 in
theorem walk (n g : Int) (hn : 0 ≤ n ∧ n ≤ 65535) (hg : 0 ≤ g ∧ g ≤ 255) (w : World) :
    Calls Try.prog 8 #[.int .u16 n, .int .u8 g] w fun e w' => e = .returned (.bool true) ∧ Below w.heap.size w w' := by
  obtain ⟨i0, hi, hz0, hz1, hz2⟩ := info_parts infoE
  go_enter Try.func8, Try.ntmps8
  go_wp2
  obtain ⟨N, hN⟩ : ∃ N : Nat, n % 1100 = (N : Int) := ⟨(n % 1100).toNat, by omega⟩
  have hN1 : N ≤ 1099 := by omega
  rw [hN]
  obtain ⟨G, hG⟩ : ∃ G : Int, g % 3 = G := ⟨_, rfl⟩
  have hG0 : 0 ≤ G := by omega
  have hG2 : G ≤ 2 := by omega
  have hGw : wrap64 (1 + G) = 1 + G := IntWalk.wrap64_in _ (by omega)
  go_loopw [6, 7] (fun l i wr => ∃ k : Nat, i = .int .i64 (k : Int) ∧ k ≤ N ∧ wr.ownsRow w.heap.size 44 3 l k (flat (rowF G k)) ∧ Below w.heap.size w wr) (fun _ i _ => N - (intOf i).toNat)
  case atStart => exact ⟨0, rfl, Nat.zero_le _, World.ownsRow_nil _ _ _ _, Below.refl _ _⟩
  case round =>
    obtain ⟨k, rfl, hk, hrow, hB⟩ := hrel
    by_cases hlt : k < N
    · have hltI : (k : Int) < (N : Int) := by omega
      have hm : 0 ≤ (k : Int) * (1 + G) ∧ (k : Int) * (1 + G) ≤ 3300 := by
        have : (k : Int) * (1 + G) ≤ 1100 * 3 := Int.mul_le_mul (by omega) (by omega) (by omega) (by omega)
        have : 0 ≤ (k : Int) * (1 + G) := Int.mul_nonneg (by omega) (by omega)
        omega
      obtain ⟨M, hM⟩ : ∃ M : Int, (k : Int) * (1 + G) = M := ⟨_, rfl⟩
      rw [hM] at hm
      have hMw : wrap64 ((k : Int) * (1 + G)) = M := by rw [hM]; exact IntWalk.wrap64_in _ (by omega)
      have hfl : flat (rowF G (k + 1)) = flat (rowF G k) ++ [.int .i64 M, .int .i64 (M + 1), .string ⟨#[]⟩] := by
        simp only [rowF, hM]; simp [flat]
      have HM := Lib.hid hM; have HFl := Lib.hid hfl
      clear hM hfl
      go_wp2_with (at_builtin; refine wpList_append_own _ rfl _ _ 22 rfl w.heap.size 44 i0 (.agg #[.int .i64 0, .int .i64 0, .string ⟨#[]⟩]) 3 32 Try.underlying22 hi hz0 hz1 hz2 rfl (by decide) _ _ _ rfl (hrow.alloc _) ⟨wr.heap.size, 0, none⟩ 1 1 [.int .i64 M, .int .i64 (M + 1), .string ⟨#[]⟩] rfl rfl (cell_new3 _ _ _ _ _) (by simp [Value.oneCell']) (by unfold maxLen; omega) (by omega) (by have := hB.size; simp; omega) ?_; intro v' w1 hown' hgrow _)
      go_roundw
      case rel => exact ⟨k + 1, by go_num, by omega, by rw [HFl.out]; exact hown', (hB.alloc hB.size _).grown hgrow (by have := hB.size; simp; omega) (fun j ej => (hrow.lt j ej).1)⟩
      case measure => simp [intOf]; omega
    · have hkN : k = N := by omega
      subst hkN
      have hge : decide ((k : Int) < (k : Int)) = false := by simp
      have hbase := hB.size
      obtain ⟨hr1, _, _⟩ := rowF_right G hG0 hG2 k (by omega)
      have hRt : rightF (rowF G k) 5000 = decide ((k : Int) ≤ 1000) := by
        unfold rightF; rw [hr1, rowF_length, Bool.and_true]; exact decide_eq_decide.2 (by omega)
      have hD1 := Below.new wr (.cells #[.int .i64 3, .int .i64 3, .string ⟨#[97]⟩, .int .i64 3, .int .i64 3, .string ⟨#[98]⟩] 44)
      have hD2 := Below.new (wr.alloc (.cells #[.int .i64 3, .int .i64 3, .string ⟨#[97]⟩, .int .i64 3, .int .i64 3, .string ⟨#[98]⟩] 44)) (.cells #[.int .i64 3, .int .i64 4, .string ⟨#[]⟩, .int .i64 4, .int .i64 4, .string ⟨#[98]⟩] 44)
      have hD3 := Below.new ((wr.alloc (.cells #[.int .i64 3, .int .i64 3, .string ⟨#[97]⟩, .int .i64 3, .int .i64 3, .string ⟨#[98]⟩] 44)).alloc (.cells #[.int .i64 3, .int .i64 4, .string ⟨#[]⟩, .int .i64 4, .int .i64 4, .string ⟨#[98]⟩] 44)) (.cells #[.int .i64 3, .int .i64 5, .string ⟨#[]⟩, .int .i64 4, .int .i64 6, .string ⟨#[]⟩] 44)
      have hesl := (((EdsAt.row (es := rowF G k) (by rw [rowF_length]; exact hrow)).next hD1).next hD2).next hD3
      have hA := ((EdsAt.new wr [⟨3, 3, ⟨#[97]⟩⟩, ⟨3, 3, ⟨#[98]⟩⟩] #[.int .i64 3, .int .i64 3, .string ⟨#[97]⟩, .int .i64 3, .int .i64 3, .string ⟨#[98]⟩] rfl (by decide)).next hD2).next hD3
      have hBx := (EdsAt.new (wr.alloc (.cells #[.int .i64 3, .int .i64 3, .string ⟨#[97]⟩, .int .i64 3, .int .i64 3, .string ⟨#[98]⟩] 44)) [⟨3, 4, ⟨#[]⟩⟩, ⟨4, 4, ⟨#[98]⟩⟩] #[.int .i64 3, .int .i64 4, .string ⟨#[]⟩, .int .i64 4, .int .i64 4, .string ⟨#[98]⟩] rfl (by decide)).next hD3
      have hC := EdsAt.new ((wr.alloc (.cells #[.int .i64 3, .int .i64 3, .string ⟨#[97]⟩, .int .i64 3, .int .i64 3, .string ⟨#[98]⟩] 44)).alloc (.cells #[.int .i64 3, .int .i64 4, .string ⟨#[]⟩, .int .i64 4, .int .i64 4, .string ⟨#[98]⟩] 44)) [⟨3, 5, ⟨#[]⟩⟩, ⟨4, 6, ⟨#[]⟩⟩] #[.int .i64 3, .int .i64 5, .string ⟨#[]⟩, .int .i64 4, .int .i64 6, .string ⟨#[]⟩] rfl (by decide)
      simp only [List.length_cons, List.length_nil, Nat.zero_add, Nat.reduceAdd] at hA
      replace hBx : EdsAt (((wr.alloc (.cells #[.int .i64 3, .int .i64 3, .string ⟨#[97]⟩, .int .i64 3, .int .i64 3, .string ⟨#[98]⟩] 44)).alloc (.cells #[.int .i64 3, .int .i64 4, .string ⟨#[]⟩, .int .i64 4, .int .i64 4, .string ⟨#[98]⟩] 44)).alloc (.cells #[.int .i64 3, .int .i64 5, .string ⟨#[]⟩, .int .i64 4, .int .i64 6, .string ⟨#[]⟩] 44)).heap.size (((wr.alloc (.cells #[.int .i64 3, .int .i64 3, .string ⟨#[97]⟩, .int .i64 3, .int .i64 3, .string ⟨#[98]⟩] 44)).alloc (.cells #[.int .i64 3, .int .i64 4, .string ⟨#[]⟩, .int .i64 4, .int .i64 4, .string ⟨#[98]⟩] 44)).alloc (.cells #[.int .i64 3, .int .i64 5, .string ⟨#[]⟩, .int .i64 4, .int .i64 6, .string ⟨#[]⟩] 44)) (.slice (some ⟨wr.heap.size + 1, 0, none⟩) 2 2) [⟨3, 4, ⟨#[]⟩⟩, ⟨4, 4, ⟨#[98]⟩⟩] := by simpa only [World.size_alloc, List.length_cons, List.length_nil, Nat.zero_add, Nat.reduceAdd] using hBx
      replace hC : EdsAt (((wr.alloc (.cells #[.int .i64 3, .int .i64 3, .string ⟨#[97]⟩, .int .i64 3, .int .i64 3, .string ⟨#[98]⟩] 44)).alloc (.cells #[.int .i64 3, .int .i64 4, .string ⟨#[]⟩, .int .i64 4, .int .i64 4, .string ⟨#[98]⟩] 44)).alloc (.cells #[.int .i64 3, .int .i64 5, .string ⟨#[]⟩, .int .i64 4, .int .i64 6, .string ⟨#[]⟩] 44)).heap.size (((wr.alloc (.cells #[.int .i64 3, .int .i64 3, .string ⟨#[97]⟩, .int .i64 3, .int .i64 3, .string ⟨#[98]⟩] 44)).alloc (.cells #[.int .i64 3, .int .i64 4, .string ⟨#[]⟩, .int .i64 4, .int .i64 4, .string ⟨#[98]⟩] 44)).alloc (.cells #[.int .i64 3, .int .i64 5, .string ⟨#[]⟩, .int .i64 4, .int .i64 6, .string ⟨#[]⟩] 44)) (.slice (some ⟨wr.heap.size + 1 + 1, 0, none⟩) 2 2) [⟨3, 5, ⟨#[]⟩⟩, ⟨4, 6, ⟨#[]⟩⟩] := by simpa only [World.size_alloc, List.length_cons, List.length_nil, Nat.zero_add, Nat.reduceAdd] using hC
      have HR := Lib.hid hRt; have HE := Lib.hid hesl; have HA := Lib.hid hA; have HB := Lib.hid hBx; have HC := Lib.hid hC; have HD := Lib.hid (Below.step (Below.step hD1 hD2) hD3)
      clear hRt hr1 hrow hesl hD1 hD2 hD3 hA hBx hC
      by_cases hk1000 : (k : Int) ≤ 1000
      · have HR := Lib.hid (HR.out.trans (decide_eq_true hk1000))
        go_wp2_with fail
        ((with_reducible refine (known_calls _).mono ?_); rintro e w1 ⟨rfl, hb1⟩)
        go_wp2_with fail
        ((with_reducible refine (right_calls _ (rowF G k) 5000 w1 (HE.out.next hb1) true HR.out).mono ?_); rintro e w2 ⟨rfl, hb2⟩)
        go_wp2_with fail
        ((with_reducible refine (right_calls _ [⟨3, 3, ⟨#[97]⟩⟩, ⟨3, 3, ⟨#[98]⟩⟩] 9 w2 ((HA.out.next hb1).next hb2) false rfl).mono ?_); rintro e w3 ⟨rfl, hb3⟩)
        go_wp2_with fail
        ((with_reducible refine (right_calls _ [⟨3, 4, ⟨#[]⟩⟩, ⟨4, 4, ⟨#[98]⟩⟩] 9 w3 (((HB.out.next hb1).next hb2).next hb3) true rfl).mono ?_); rintro e w4 ⟨rfl, hb4⟩)
        go_wp2_with fail
        ((with_reducible refine (right_calls _ [⟨3, 5, ⟨#[]⟩⟩, ⟨4, 6, ⟨#[]⟩⟩] 9 w4 ((((HC.out.next hb1).next hb2).next hb3).next hb4) false rfl).mono ?_); rintro e w5 ⟨rfl, hb5⟩)
        go_wp2_with fail
        ((with_reducible refine (right_calls _ [⟨3, 4, ⟨#[]⟩⟩, ⟨4, 4, ⟨#[98]⟩⟩] 3 w5 (((((HB.out.next hb1).next hb2).next hb3).next hb4).next hb5) false rfl).mono ?_); rintro e w6 ⟨rfl, hb6⟩)
        go_wp2_with fail
        ((with_reducible refine (right_calls _ [] 0 w6 (EdsAt.nil _ _) true rfl).mono ?_); rintro e w7 ⟨rfl, hb7⟩)
        go_wp2_with fail
        go_ret
        exact ⟨rfl, hB.trans (Below.mono (Below.step (Below.step (Below.step (Below.step (Below.step (Below.step (Below.step HD.out hb1) hb2) hb3) hb4) hb5) hb6) hb7) hbase)⟩
      · have HR := Lib.hid (HR.out.trans (decide_eq_false hk1000))
        have hd0 : decide ((k : Int) ≤ 1000) = false := decide_eq_false hk1000
        have hd1 : decide (k ≤ 1000) = false := decide_eq_false (by omega)
        go_wp2_with fail
        ((with_reducible refine (known_calls _).mono ?_); rintro e w1 ⟨rfl, hb1⟩)
        go_wp2_with fail
        ((with_reducible refine (right_calls _ (rowF G k) 5000 w1 (HE.out.next hb1) false HR.out).mono ?_); rintro e w2 ⟨rfl, hb2⟩)
        go_wp2_with fail
        ((with_reducible refine (right_calls _ [⟨3, 3, ⟨#[97]⟩⟩, ⟨3, 3, ⟨#[98]⟩⟩] 9 w2 ((HA.out.next hb1).next hb2) false rfl).mono ?_); rintro e w3 ⟨rfl, hb3⟩)
        go_wp2_with fail
        ((with_reducible refine (right_calls _ [⟨3, 4, ⟨#[]⟩⟩, ⟨4, 4, ⟨#[98]⟩⟩] 9 w3 (((HB.out.next hb1).next hb2).next hb3) true rfl).mono ?_); rintro e w4 ⟨rfl, hb4⟩)
        go_wp2_with fail
        ((with_reducible refine (right_calls _ [⟨3, 5, ⟨#[]⟩⟩, ⟨4, 6, ⟨#[]⟩⟩] 9 w4 ((((HC.out.next hb1).next hb2).next hb3).next hb4) false rfl).mono ?_); rintro e w5 ⟨rfl, hb5⟩)
        go_wp2_with fail
        ((with_reducible refine (right_calls _ [⟨3, 4, ⟨#[]⟩⟩, ⟨4, 4, ⟨#[98]⟩⟩] 3 w5 (((((HB.out.next hb1).next hb2).next hb3).next hb4).next hb5) false rfl).mono ?_); rintro e w6 ⟨rfl, hb6⟩)
        go_wp2_with fail
        ((with_reducible refine (right_calls _ [] 0 w6 (EdsAt.nil _ _) true rfl).mono ?_); rintro e w7 ⟨rfl, hb7⟩)
        go_wp2_with fail
        go_ret
        exact ⟨rfl, hB.trans (Below.mono (Below.step (Below.step (Below.step (Below.step (Below.step (Below.step (Below.step HD.out hb1) hb2) hb3) hb4) hb5) hb6) hb7) hbase)⟩

set_option maxRecDepth 100000 in
theorem lifted (os : Os) (started : os.Started) (H : Type) (enc : TypeId × Value → H) :
    ReturnsInHanded {} Try.checked os 8 .any (Rows.editRightSpec.pre6 enc Try.prog Try.f8 Rows.editRightRow.domain false) (Rows.editRightSpec.post enc Try.prog Try.f8 false true false false) := by
  refine returnsInHanded_of_change (C := Try.checked) law.own started (by kernel_rfl) Try.func8
    (ChangeSpec.witness6 (enc := enc) (C := Try.checked) false ⟨#[], #[.int .u16 0, .int .u8 0], []⟩ 8 (by kernel_rfl) (by kernel_rfl) (by kernel_rfl) (by kernel_rfl)) ?_
  intro W base args ds gs before hval0 hW _ _
  have hval : ∀ (j : Nat) t v, Try.f8.params[j]? = some t → args[j]? = some v → Value.okWide Try.prog W .any base t v := hval0
  have hW' := hW
  obtain ⟨p, q, hA0, hV, rfl, _, _⟩ := hW
  have hA : DataW.TrodAll enc Try.prog W 0 (fun _ => true) true Try.f8.params.toList args.toList ds p := hA0
  rw [Try.params8] at hA hval
  obtain ⟨v0, v1, d0, d1, p0, p1, rfl, rfl, rfl, h0, h1⟩ := trodAll_two hA
  obtain ⟨rfl, rfl⟩ := trodVars_none hV
  obtain ⟨n, rfl, rfl, rfl, hn⟩ := open_int Try.underlying36 (hval 0 36 v0 rfl rfl) h0
  obtain ⟨g, rfl, rfl, rfl, hg⟩ := open_int Try.underlying5 (hval 1 5 v1 rfl rfl) h1
  have hn2 : 0 ≤ n ∧ n ≤ 65535 := by simpa [Lit.wf, IntKind.min, IntKind.max, IntKind.signed, IntKind.bits] using hn
  refine (walk n g hn2 (law.u8_wf hg) W).mono fun e W' ⟨he, hb⟩ => ⟨_, he, ?_⟩
  exact law.law_post rfl hW' rfl (by kernel_rfl) (by kernel_rfl) hb

/-- EditRight, for every input. -/
theorem holds : Rows.EditRightSaid :=
  OpenClaim.holds_of_wide 8 Try.f8 rfl rfl rfl rfl rfl rfl rfl ⟨rfl, rfl, rfl, rfl, rfl⟩ rfl rfl rfl rfl rfl (by kernel_rfl) Try.func8 (by kernel_rfl)
    (of_decide_eq_true (by kernel_rfl)) (by unfold Func.isWrapper; first | (rw [if_pos (by decide +kernel)]; kernel_rfl) | (rw [if_neg (by decide +kernel)]; exact ⟨rfl, rfl⟩))
    (fun os started H enc _ => lifted os started H enc)
end Go.Proofs.Ytepniobmhplphaa.editRight
