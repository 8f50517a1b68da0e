/-
  strings.IndexAny at a quote and a backslash, for every text; lex.bare: the contract.
-/
import Derived.Laws.Runes
import Derived.Deep.LoopGhost
import Derived.WalkMore
import Derived.Test.YtmoamfcaokefiaaGreatDoorLxFns
import Derived.Test.YtmoamfcaokefiaaGreatDoorUtfRunes
import Derived.Test.YtmoamfcaokefiaaGreatDoorLxMath
namespace Go.Proofs.YtmoamfcaokefiaaGreatDoor.lx
open Go.RowKit Go.Shelf
open sg (lst_len extract_drop ext_size)
open sx
set_option linter.unusedVariables false

open Lx (cN)

theorem oneN_high (n b0 b1 b2 b3 : Nat) : (1 < utf.oneN n b0 b1 b2 b3 → 128 ≤ b1) ∧ (2 < utf.oneN n b0 b1 b2 b3 → 128 ≤ b2) ∧ (3 < utf.oneN n b0 b1 b2 b3 → 128 ≤ b3) := by
  unfold utf.oneN
  repeat' split
  all_goals (refine ⟨?_, ?_, ?_⟩ <;> omega)

/-- Behind a rune's first byte none stands that is one of ASCII. -/
theorem width_high (s : ByteArray) (pos : Nat) (h : pos < s.size) (j : Nat) (h1 : 1 ≤ j) (h2 : j < (Utf8.decode s pos).2) (b : UInt8) (hb : s.data.toList[pos + j]? = some b) : 128 ≤ b.toNat := by
  have hw := (utf.bad_one s pos h).2
  split at hw
  · omega
  · rename_i h0
    rw [hw] at h2
    have hne : s.data.toList.drop pos ≠ [] := fun e => by
      have := congrArg List.length e
      rw [List.length_drop, lst_len] at this
      simp at this; omega
    have hg : b = (s.data.toList.drop pos).getD j 0 := by
      rw [List.getD, List.getElem?_drop, hb]; rfl
    rw [hg]
    have hl := utf.oneL_le _ hne
    unfold utf.oneL at h2
    rw [if_neg hne] at h2
    obtain ⟨a1, a2, a3⟩ := oneN_high (s.data.toList.drop pos).length ((s.data.toList.drop pos).getD 0 0).toNat ((s.data.toList.drop pos).getD 1 0).toNat ((s.data.toList.drop pos).getD 2 0).toNat ((s.data.toList.drop pos).getD 3 0).toNat
    have h4 : utf.oneN (s.data.toList.drop pos).length ((s.data.toList.drop pos).getD 0 0).toNat ((s.data.toList.drop pos).getD 1 0).toNat ((s.data.toList.drop pos).getD 2 0).toNat ((s.data.toList.drop pos).getD 3 0).toNat ≤ 4 :=
      (utf.oneN_le _ _ _ _ _ (by cases hq : s.data.toList.drop pos with | nil => exact absurd hq hne | cons a r => simp)).2
    have : j = 1 ∨ j = 2 ∨ j = 3 := by omega
    rcases this with rfl | rfl | rfl
    · exact a1 h2
    · exact a2 h2
    · exact a3 h2

def qb : ByteArray := ⟨#[34, 92]⟩

set_option maxRecDepth 100000 in
set_option maxHeartbeats 4000000 in
theorem indexRune_none (r : Int) (h0 : 128 ≤ r) (w : World) :
    Calls Tryz.prog 147 #[.string ⟨#[34, 92]⟩, .int .i32 r] w fun e w' => e = .returned (.int .i64 (-1)) ∧ Below w.heap.size w w' := by
  have a1 : decide (r < 128) = false := decide_eq_false (by omega)
  have a0 : (0 : Int) ≤ r := by omega
  by_cases h1 : r = 65533
  · subst h1
    go_enter Tryz.func147, Tryz.ntmps147
    go_wp2
    go_loopg [5, 6] 2 (fun g _ _ wx => ∃ i : Nat, i + g = 2 ∧ wx = w.iter ⟨#[34, 92]⟩ i)
    case atStart => exact ⟨0, rfl, rfl⟩
    case round =>
      obtain ⟨i, hig, rfl⟩ := hrel
      cases gk with
      | zero =>
        obtain rfl : i = 2 := by omega
        have hnx := run_next_end (P := Tryz.prog) w ⟨#[34, 92]⟩ 2
        have hnx2 := fun ty => hnx ty (by decide)
        clear hnx
        go_wp2
        go_ret
        exact ⟨rfl, utf.below_iter w _ _⟩
      | succ g =>
        have hi : i = 0 ∨ i = 1 := by omega
        rcases hi with rfl | rfl
        · have hnx := fun ty => run_next_ascii (P := Tryz.prog) w ⟨#[34, 92]⟩ 0 ty (by decide) (by decide)
          go_wp2
          go_roundg g
          case measure => omega
          case rel => exact ⟨1, by omega, rfl⟩
        · have hnx := fun ty => run_next_ascii (P := Tryz.prog) w ⟨#[34, 92]⟩ 1 ty (by decide) (by decide)
          go_wp2
          go_roundg g
          case measure => omega
          case rel => exact ⟨2, by omega, rfl⟩
  · have a2 : (r == 65533) = false := by rw [beq_eq_false_iff_ne]; exact h1
    have hvr := Tryz.utf8_ValidRune r w
    cases hv : Lib.validRune r with
    | false =>
      rw [hv] at hvr
      clear hv
      go_enter Tryz.func147, Tryz.ntmps147
      go_wp2_with fail
      ((with_reducible refine hvr.mono ?_); rintro e w1 ⟨rfl, rfl⟩)
      go_wp2_with fail
      go_ret
      exact ⟨rfl, Below.refl _ _⟩
    | true =>
      rw [hv] at hvr
      have hv2 : Utf8.valid r = true := by rw [← hv]; unfold Utf8.valid Lib.validRune; first | rfl | (rw [Bool.eq_iff_iff]; simp; omega)
      obtain ⟨E, hE, f1, f3⟩ : ∃ E, Utf8.encode r = E ∧ 2 ≤ E.size ∧ ∀ h : E.size - 1 < E.size, 128 ≤ (E[E.size - 1]'h).toNat := ⟨_, rfl, (encode_facts r hv2 h0).1, (encode_facts r hv2 h0).2.2⟩
      have hcv := fun w => run_convert_int_string (P := Tryz.prog) w 21 9 .i32 r (by kernel_rfl) Tryz.underlying9
      have hE4 := (encode_facts r hv2 h0).2.1
      rw [hE] at hE4
      simp only [hE] at hcv
      clear hE hv hv2
      have w1 : wrap64 ((E.size : Int) - 1) = ((E.size - 1 : Nat) : Int) := by rw [IntWalk.wrap64_in _ (by omega)]; omega
      have w2 : IntKind.i64.wrap ((E.size : Int) - 1) = ((E.size - 1 : Nat) : Int) := (IntWalk.i64_left _).trans w1
      by_cases h2 : E.size = 2
      · obtain ⟨a, b, rfl, hb⟩ : ∃ a b, E = ⟨#[a, b]⟩ ∧ 128 ≤ b.toNat := by
          obtain ⟨⟨l⟩⟩ := E
          match l, h2, f3 with
          | [a, b], _, f3 => exact ⟨a, b, rfl, f3 (by show 2 - 1 < 2; omega)⟩
        clear f3 w1 w2 f1 hE4 h2
        have h22 : IntKind.i64.wrap 2 = 2 := by decide +kernel
        have hsz2 : ((⟨#[34, 92]⟩ : ByteArray).size : Int) = 2 := rfl
        have hib : ∀ w, Calls Tryz.prog 113 #[.string ByteArray.empty, .int .u8 (b.toNat : Int)] w fun e w' => e = .returned (.int .i64 (-1)) ∧ w' = w := fun w => Tryz.strings_IndexByte ByteArray.empty (b.toNat : Int) w
        have hbn : ((((⟨#[34, 92]⟩ : ByteArray)[1]'(by decide)).toNat : Int) != (((⟨#[a, b]⟩ : ByteArray)[1]'(by show 1 < 2; omega)).toNat : Int)) = true := by
          show ((92 : Int) != (b.toNat : Int)) = true
          rw [bne_iff_ne]; omega
        go_enter Tryz.func147, Tryz.ntmps147
        go_wp2_with fail
        ((with_reducible refine hvr.mono ?_); rintro e w1 ⟨rfl, rfl⟩)
        go_wp2_with fail
        go_step3
        go_wp2_with fail
        go_loopw [9] (fun i wr => i = .int .i64 1 ∧ wr = w1) (fun _ _ => 0)
        case atStart => exact ⟨rfl, rfl⟩
        case round =>
          obtain ⟨rfl, rfl⟩ := hrel
          go_wp2
          go_step3
          go_wp2
          go_quiet (fail)
          rename_i nq
          obtain ⟨wq, hwq, hbq⟩ : ∃ wq, wr.drewN nq = wq ∧ Below wr.heap.size wr wq := ⟨_, rfl, ⟨rfl, rfl, rfl, Nat.le_refl _, fun _ _ => rfl⟩⟩
          rw [hwq]
          clear hwq
          go_wp2
          go_quiet ((go_at_call 113; exact Calls.quiet_of_same (hib _)))
          go_wp2
          simp +zetaDelta only [Exit.inBlock, Exit.noGoto, Exit.then]
          go_ret
          exact ⟨rfl, hbq.trans ⟨rfl, rfl, rfl, Nat.le_refl _, fun _ _ => rfl⟩⟩
      · go_enter Tryz.func147, Tryz.ntmps147
        have hge : decide (((E.size - 1 : Nat) : Int) < 2) = false := decide_eq_false (by omega)
        go_wp2_with fail
        ((with_reducible refine hvr.mono ?_); rintro e w1 ⟨rfl, rfl⟩)
        go_wp2_with fail
        go_step3
        go_wp2_with fail
        go_loopw [9] (fun i wr => i = .int .i64 ((E.size - 1 : Nat) : Int) ∧ wr = w1) (fun _ _ => 0)
        case atStart => exact ⟨rfl, rfl⟩
        case round =>
          obtain ⟨rfl, rfl⟩ := hrel
          go_wp2
          rw [Exit.noGoto_ret]
          go_ret
          exact ⟨rfl, Below.refl _ _⟩

theorem run_next_at {P : Program} (u : World) (B : Nat) (s : ByteArray) (pos : Nat) (ty : TypeId) (hB : u.heap[B]? = some (.stringIter s pos)) (h : pos < s.size) :
    (Instr.next (.pointer (some ⟨B, 0, none⟩)) true ty).run P u = .ok (.tuple #[.bool true, .int .i64 pos, .int .i32 (Utf8.decode s pos).1]) (u.putObj B (.stringIter s (pos + (Utf8.decode s pos).2))) := by
  simp only [Instr.next, getObj, setObj, Sem.run_bind, Sem.run, hB, Result.andThen, h, if_true]
  simp [goInt, World.putObj]
theorem run_next_out {P : Program} (u : World) (B : Nat) (s : ByteArray) (pos : Nat) (ty : TypeId) (hB : u.heap[B]? = some (.stringIter s pos)) (h : ¬ pos < s.size) :
    (Instr.next (.pointer (some ⟨B, 0, none⟩)) true ty).run P u = .ok (.tuple #[.bool false]) u := by
  simp [Instr.next, getObj, Sem.run, hB, h]

theorem contains_qb (x : UInt8) : [34, 92].contains x = !(cN (x.toNat : Int)) := by
  have h1 : (x == 34) = ((x.toNat : Int) == 34) := by
    rw [Bool.eq_iff_iff, beq_iff_eq, beq_iff_eq]
    constructor
    · rintro rfl; rfl
    · intro h; apply UInt8.toNat_inj.1; show x.toNat = 34; omega
  have h2 : (x == 92) = ((x.toNat : Int) == 92) := by
    rw [Bool.eq_iff_iff, beq_iff_eq, beq_iff_eq]
    constructor
    · rintro rfl; rfl
    · intro h; apply UInt8.toNat_inj.1; show x.toNat = 92; omega
  simp only [List.contains_cons, List.contains_nil, Bool.or_false, cN, Bool.not_not, h1, h2]

theorem noAny_jump (s : ByteArray) (i : Nat) (hi : i < s.size) (h : Lib.NoAny s.data.toList [34, 92] i) (hr : 128 ≤ (s[i]'hi).toNat) : Lib.NoAny s.data.toList [34, 92] (i + (Utf8.decode s i).2) := by
  intro j b hj hb
  rw [contains_qb]
  have : 128 ≤ b.toNat ∨ j < i := by
    rcases Nat.lt_or_ge j i with h1 | h1
    · exact .inr h1
    · refine .inl ?_
      rcases Nat.eq_or_lt_of_le h1 with h2 | h2
      · subst h2
        rw [Lib.data_getElem? s i hi] at hb
        cases hb; exact hr
      · exact width_high s i hi (j - i) (by omega) (by omega) b (by rw [show i + (j - i) = j from by omega]; exact hb)
  rcases this with h3 | h3
  · unfold cN
    have a : ((b.toNat : Int) == 34) = false := by rw [beq_eq_false_iff_ne]; omega
    have c : ((b.toNat : Int) == 92) = false := by rw [beq_eq_false_iff_ne]; omega
    rw [a, c]; rfl
  · rw [← contains_qb]; exact h j b h3 hb

theorem ascii_of_low (s : ByteArray) (i : Nat) (hi : i < s.size) (h : (s[i]'hi).toNat < 128) : Utf8.decode s i = ((s[i]'hi).toNat, 1) := decode_ascii s i hi h

def AnyAt (w : World) (s : ByteArray) (i : Nat) (wx : World) : Prop := Below w.heap.size w wx ∧ wx.heap[w.heap.size]? = some (.stringIter s i)
theorem AnyAt.pos {w wx : World} {s : ByteArray} {i : Nat} (h : AnyAt w s i wx) : wx.iterPos w.heap.size = i := by simp [World.iterPos, h.2]
theorem AnyAt.put {w wx : World} {s : ByteArray} {i : Nat} (h : AnyAt w s i wx) (j : Nat) : AnyAt w s j (wx.putObj w.heap.size (.stringIter s j)) :=
  ⟨h.1.grown (grownBy_putObj' wx _ _) h.1.size (fun k e => by cases e; omega), World.putObj_heap_same (Array.getElem?_eq_some_iff.1 h.2).1⟩
theorem AnyAt.next {w wx wy : World} {s : ByteArray} {i : Nat} (h : AnyAt w s i wx) (hb : Below wx.heap.size wx wy) : AnyAt w s i wy :=
  ⟨h.1.trans (hb.mono h.1.size), (hb.block _ (Array.getElem?_eq_some_iff.1 h.2).1).trans h.2⟩

set_option maxRecDepth 100000 in
set_option maxHeartbeats 4000000 in
theorem indexAny_short (s : ByteArray) (h8 : s.size ≤ 8) (w : World) :
    Calls Tryz.prog 137 #[.string s, .string ⟨#[34, 92]⟩] w fun e w' => e = .returned (.int .i64 (Lib.indexAny s.data.toList [34, 92])) ∧ Below w.heap.size w w' := by
  have h8z : decide ((8 : Int) < (s.size : Int)) = false := decide_eq_false (by omega)
  go_enter Tryz.func137, Tryz.ntmps137
  go_wp2_with (go_at_call 148; refine (Tryz.strings_shouldUseASCIISet _ _).mono ?_; rintro e w' ⟨rfl, hw⟩; rw [hw, h8z])
  go_loopw [9, 10] (fun _ _ wx => ∃ i : Nat, i ≤ s.size ∧ AnyAt w s i wx ∧ Lib.NoAny s.data.toList [34, 92] i) (fun _ _ wx => s.size - wx.iterPos w.heap.size)
  case atStart => exact ⟨0, Nat.zero_le _, ⟨utf.below_iter w s 0, World.iter_heap w s 0⟩, Lib.NoAny.zero _ _⟩
  case round =>
    obtain ⟨i, his, hat, hno⟩ := hrel
    have HN := Lib.hid hno
    have HA := Lib.hid hat
    have hit := hat.2
    have HP := Lib.hid hat.pos
    clear hno hat
    by_cases hi : i < s.size
    · have hnx := fun ty => run_next_at (P := Tryz.prog) wr w.heap.size s i ty hit hi
      have hwd := Lib.decode_width_pos s i hi
      have hap := HA.out.put (i + (Utf8.decode s i).2)
      obtain ⟨wn, hwn⟩ : ∃ wn, wr.putObj w.heap.size (.stringIter s (i + (Utf8.decode s i).2)) = wn := ⟨_, rfl⟩
      rw [hwn] at hap
      simp only [hwn] at hnx
      clear hwn
      have HQ := Lib.hid hap
      clear hap hit
      by_cases ha : (s[i]'hi).toNat < 128
      · have hdec := ascii_of_low s i hi ha
        rw [hdec] at hnx HQ
        simp only at hnx HQ
        have hxl := Lib.data_getElem? s i hi
        obtain ⟨x, hx⟩ : ∃ x : UInt8, s[i]'hi = x := ⟨_, rfl⟩
        rw [hx] at hxl hnx ha
        have hcon := Lib.contains_iff_indexByte [34, 92] x
        have hback : ((x.toNat : Int)).toNat.toUInt8 = x := by simp
        have hir := fun w => Tryz.strings_IndexRune_ascii ⟨#[34, 92]⟩ (x.toNat : Int) w (by omega) (by omega)
        rw [hback] at hir
        change ∀ w, Calls _ _ _ _ (fun e w' => e = .returned (.int .i64 (Lib.indexByte [34, 92] x)) ∧ w' = w) at hir
        obtain ⟨r, hr⟩ : ∃ r, Lib.indexByte [34, 92] x = r := ⟨_, rfl⟩
        rw [hr] at hcon
        simp only [hr] at hir
        have HX := Lib.hid hxl
        clear hx hdec hback hxl hr
        cases hin : [34, 92].contains x with
        | false =>
          rw [hin] at hcon
          have hlt : decide ((0 : Int) ≤ r) = false := hcon.symm
          have HI := Lib.hid (HN.out.succ HX.out hin)
          have HC := Lib.hid hin
          clear hcon hin
          go_wp2_with fail
          ((with_reducible refine (hir _).mono ?_); rintro e w1 ⟨rfl, rfl⟩)
          go_wp2_with fail
          go_roundw
          case rel => exact ⟨i + 1, by omega, HQ.out, HI.out⟩
          case measure => rw [HQ.out.pos, HP.out]; omega
        | true =>
          rw [hin] at hcon
          have hlt : decide ((0 : Int) ≤ r) = true := hcon.symm
          have HI := Lib.hid (Lib.indexAny_hit HN.out HX.out hin)
          have HC := Lib.hid hin
          clear hcon hin
          go_wp2_with fail
          ((with_reducible refine (hir _).mono ?_); rintro e w1 ⟨rfl, rfl⟩)
          go_wp2_with fail
          go_ret
          exact ⟨by rw [HI.out]; rfl, HQ.out.1⟩
      · have hhi := (decode_high s i hi (by omega)).1
        have HJ := Lib.hid (noAny_jump s i hi HN.out (by omega))
        have hir := fun w => indexRune_none ((Utf8.decode s i).1 : Int) (by omega) w
        have hle : i + (Utf8.decode s i).2 ≤ s.size := by
          have := (utf.bad_one s i hi).2
          split at this
          · omega
          · rw [this]
            have := utf.oneL_le (s.data.toList.drop i) (fun e => by have := congrArg List.length e; rw [List.length_drop, lst_len] at this; simp at this; omega)
            rw [List.length_drop, lst_len] at this
            omega
        obtain ⟨d, hd⟩ : ∃ d, Utf8.decode s i = d := ⟨_, rfl⟩
        rw [hd] at hnx HQ hhi HJ hwd hle
        simp only [hd] at hir
        clear hd
        go_wp2_with fail
        ((with_reducible refine (hir _).mono ?_); rintro e w1 ⟨rfl, hb1⟩)
        go_wp2_with fail
        go_roundw
        case rel => exact ⟨i + d.2, hle, HQ.out.next hb1, HJ.out⟩
        case measure => rw [(HQ.out.next hb1).pos, HP.out]; omega
    · obtain rfl : i = s.size := by omega
      have hnx := fun ty => run_next_out (P := Tryz.prog) wr w.heap.size s s.size ty hit hi
      have HI := Lib.hid (Lib.indexAny_none (by rw [← Lib.size_eq]; exact HN.out))
      go_wp2_with fail
      go_ret
      exact ⟨by rw [HI.out]; rfl, HA.out.1⟩

theorem hz256 : (Tryz.prog.info? 137).map (fun i => (i.zero, i.size)) = some (some (.agg (Array.replicate 256 (.bool false))), 256) := by kernel_rfl
/-- strings.IndexAny at a quote and a backslash, for every text. -/
theorem indexAny_calls (s : ByteArray) (hs : s.size ≤ 65536) (w : World) :
    Calls Tryz.prog 137 #[.string s, .string ⟨#[34, 92]⟩] w fun e w' => e = .returned (.int .i64 (Lib.indexAny s.data.toList [34, 92])) ∧ Below w.heap.size w w' := by
  by_cases h8 : s.size ≤ 8
  · exact indexAny_short s h8 w
  · refine (Tryz.strings_IndexAny_long (zero_of_info hz256).1 s ⟨#[34, 92]⟩ w (by decide) (by omega) (by omega) (by decide) ?_).mono fun e w' ⟨h1, h2⟩ => ⟨h1, ?_⟩
    · intro j b hb
      match j, hb with
      | 0, hb => cases hb; decide
      | 1, hb => cases hb; decide
      | n + 2, hb => cases hb
    · rw [h2]
      exact ((Below.refl _ _).alloc (Nat.le_refl _) _).alloc (by simp) _
end Go.Proofs.YtmoamfcaokefiaaGreatDoor.lx
