/-
  lex: bare, piece, goesOn, note, simple: their contracts.
-/
import Derived.Test.YtmoamfcaokefiaaGreatDoorLxIndex
namespace Go.Proofs.YtmoamfcaokefiaaGreatDoor.lx
open Go.RowKit Go.Shelf
open sg (lst_len extract_drop ext_size)
open sx
set_option linter.unusedVariables false

theorem extract_take (s : ByteArray) (k : Nat) : (s.extract 0 k).data.toList = s.data.toList.take k := by rw [Lib.extract_data]; simp
theorem ext_sz (s : ByteArray) (k : Nat) {m : Nat} (hs : s.size ≤ m) : (s.extract k s.size).size ≤ m := by rw [ByteArray.size_extract]; omega
theorem ext0_sz (s : ByteArray) (k : Nat) {m : Nat} (hs : s.size ≤ m) : (s.extract 0 k).size ≤ m := by rw [ByteArray.size_extract]; omega

set_option maxRecDepth 100000 in
set_option maxHeartbeats 1000000 in
theorem bare_calls (s : ByteArray) (hs : s.size ≤ 65536) (w : World) :
    Calls Tryz.prog 125 #[.string s] w fun e w' => e = .returned (.int .i64 (Sg.run Lx.cN s.data.toList : Nat)) ∧ Below w.heap.size w w' := by
  have hi := indexAny_calls s hs w
  have hx := Lx.indexAny_run s.data.toList
  rw [lst_len] at hx
  obtain ⟨r, hr⟩ : ∃ r, Sg.run Lx.cN s.data.toList = r := ⟨_, rfl⟩
  rw [hr] at hx
  have HR := Lib.hid hr
  clear hr
  by_cases h : r = s.size
  · rw [if_pos h] at hx
    rw [hx] at hi
    have HH := Lib.hid h
    clear hx h
    go_enter Tryz.func125, Tryz.ntmps125
    go_wp2_with fail
    ((with_reducible refine hi.mono ?_); rintro e w1 ⟨rfl, hb1⟩)
    go_wp2_with fail
    go_ret
    exact ⟨by rw [HR.out, HH.out]; rfl, hb1⟩
  · rw [if_neg h] at hx
    rw [hx] at hi
    have t0 : decide ((r : Int) < 0) = false := decide_eq_false (by omega)
    clear hx h
    go_enter Tryz.func125, Tryz.ntmps125
    go_wp2_with fail
    ((with_reducible refine hi.mono ?_); rintro e w1 ⟨rfl, hb1⟩)
    go_wp2_with fail
    go_ret
    exact ⟨by rw [HR.out]; rfl, hb1⟩

theorem sum64 {a b c : Nat} (h : c = a + b) (hm : c ≤ 140737488351232) : wrap64 ((a : Int) + (b : Int)) = (c : Int) ∧ IntKind.i64.wrap ((a : Int) + (b : Int)) = (c : Int) := by
  have w1 : wrap64 ((a : Int) + (b : Int)) = (c : Int) := by rw [IntWalk.wrap64_in]; all_goals omega
  exact ⟨w1, (IntWalk.i64_left _).trans w1⟩

set_option maxRecDepth 100000 in
set_option maxHeartbeats 2000000 in
theorem piece_calls (s : ByteArray) (hs : s.size ≤ 65536) (w : World) :
    Calls Tryz.prog 108 #[.string s] w fun e w' => e = .returned (.int .i64 (Lx.piece s.data.toList : Nat)) ∧ Below w.heap.size w w' := by
  go_enter Tryz.func108, Tryz.ntmps108
  go_wp2_with fail
  go_loopw [3] (fun k wr => ∃ n : Nat, k = .int .i64 (n : Int) ∧ Lx.PieceI s.data.toList n ∧ Below w.heap.size w wr) (fun k _ => s.size - (intOf k).toNat)
  case atStart => exact ⟨0, rfl, ⟨Nat.zero_le _, by simp⟩, Below.refl _ _⟩
  case round =>
    obtain ⟨n, rfl, ⟨hn, hp⟩, hb⟩ := hrel
    rw [lst_len] at hn
    have hbr := fun w => bare_calls (s.extract n s.size) (ext_sz s n hs) w
    have hrl := Sg.run_le Lx.cN (s.data.toList.drop n)
    rw [List.length_drop, lst_len] at hrl
    obtain ⟨r, hr⟩ : ∃ r, Sg.run Lx.cN (s.data.toList.drop n) = r := ⟨_, rfl⟩
    simp only [extract_drop, hr] at hbr
    have hes := fun w => sg.escape_calls (s.extract (n + r) s.size) (ext_sz s _ (by omega)) w
    have hel := Sg.escape_le (s.data.toList.drop (n + r))
    rw [List.length_drop, lst_len] at hel
    have hst := Lx.piece_stop (s.data.toList.drop n)
    have hgo := Lx.piece_go (s.data.toList.drop n)
    rw [hr, List.drop_drop] at hst hgo
    rw [List.drop_drop] at hgo
    obtain ⟨e, he⟩ : ∃ e, Sg.escape (s.data.toList.drop (n + r)) = e := ⟨_, rfl⟩
    simp only [extract_drop, he] at hes
    rw [he] at hst hgo hel
    rw [hr] at hrl
    obtain ⟨m, hm⟩ : ∃ m, m = n + r := ⟨_, rfl⟩
    have hnm := Lib.hid (sum64 hm (by omega))
    rw [← hm] at hes hel
    have hnle : (n : Int) ≤ (s.size : Int) := by omega
    have hmle : (m : Int) ≤ (s.size : Int) := by omega
    have h0n : (0 : Int) ≤ (n : Int) := by omega
    have h0m : (0 : Int) ≤ (m : Int) := by omega
    by_cases h0 : e = 0
    · have HF := Lib.hid (show Lx.piece s.data.toList = m by rw [hp, hst h0]; omega)
      subst h0
      clear hst hgo hp hr he hm hrl hel
      obtain ⟨hw1, hw2⟩ := hnm.out
      go_wp2_with fail
      ((with_reducible refine (hbr _).mono ?_); rintro e w1 ⟨rfl, hb1⟩)
      go_wp2_with fail
      ((with_reducible refine (hes _).mono ?_); rintro e w2 ⟨rfl, hb2⟩)
      go_wp2_with fail
      go_ret
      exact ⟨by rw [HF.out]; rfl, sg.Below.next (sg.Below.next hb hb1 (Nat.le_refl _)) hb2 (Nat.le_refl _)⟩
    · obtain ⟨k, hk⟩ : ∃ k, k = m + e := ⟨_, rfl⟩
      have hw3 := Lib.hid (sum64 hk (by omega))
      have HP := Lib.hid (show Lx.PieceI s.data.toList k from ⟨by rw [lst_len]; omega, by rw [hp, hgo h0, show n + (r + e) = k by omega]; omega⟩)
      have hke : k ≤ s.size := by omega
      have hkm : n < k := by omega
      have t0 : ((e : Int) == 0) = false := by rw [beq_eq_false_iff_ne]; omega
      have hms : s.size - k < s.size - n := by omega
      clear hst hgo hp hr he hm hrl hel hk
      obtain ⟨hw1, hw2⟩ := hnm.out
      obtain ⟨hw4, hw5⟩ := hw3.out
      go_wp2_with fail
      ((with_reducible refine (hbr _).mono ?_); rintro e w1 ⟨rfl, hb1⟩)
      go_wp2_with fail
      ((with_reducible refine (hes _).mono ?_); rintro e w2 ⟨rfl, hb2⟩)
      go_wp2_with fail
      go_roundw
      case rel => exact ⟨k, rfl, HP.out, sg.Below.next (sg.Below.next hb hb1 (Nat.le_refl _)) hb2 (Nat.le_refl _)⟩
      case measure => exact hms

theorem mk_size (l : List UInt8) : (⟨l.toArray⟩ : ByteArray).size = l.length := by show l.toArray.size = _; simp
theorem trimR_le (l : List UInt8) : (Lib.trimRightB l 92).length ≤ l.length := (Lx.trimRight_length l).2

set_option maxRecDepth 100000 in
set_option maxHeartbeats 1000000 in
theorem goesOn_calls (s : ByteArray) (hs : s.size ≤ 65536) (w : World) :
    Calls Tryz.prog 114 #[.string s] w fun e w' => e = .returned (.bool (Lx.goes s.data.toList)) ∧ w' = w := by
  have h1 := fun w => Tryz.strings_TrimSuffix s ⟨#[13]⟩ w (by omega)
  rw [show (⟨#[13]⟩ : ByteArray).data.toList = [13] from rfl] at h1
  have hg := Lx.goes_trail s.data.toList
  obtain ⟨t, ht⟩ : ∃ t, (⟨(Lib.trimSuffix s.data.toList [13]).toArray⟩ : ByteArray) = t := ⟨_, rfl⟩
  have htl : t.data.toList = Lib.trimSuffix s.data.toList [13] := by rw [← ht]
  have hts : t.size ≤ 65536 := by
    rw [← lst_len, htl]
    exact Nat.le_trans (Lib.trimSuffix_le _ _) (by rw [lst_len]; exact hs)
  simp only [ht] at h1
  rw [← htl] at hg
  have h2 := fun w => Tryz.strings_TrimRight_one t 92 (by decide) w (by omega)
  obtain ⟨a, b⟩ := Lx.trimRight_length t.data.toList
  obtain ⟨u, hu⟩ : ∃ u, (⟨(Lib.trimRightB t.data.toList 92).toArray⟩ : ByteArray) = u := ⟨_, rfl⟩
  have hul : u.size = (Lib.trimRightB t.data.toList 92).length := by rw [← hu, mk_size]
  simp only [hu] at h2
  rw [← hul, lst_len] at a b
  obtain ⟨k, hk⟩ : ∃ k, Lx.trail t.data.toList = k := ⟨_, rfl⟩
  rw [hk] at a hg
  have hw1 : wrap64 ((t.size : Int) - (u.size : Int)) = (k : Int) := by rw [IntWalk.wrap64_in _ (by omega)]; omega
  have hw2 : IntKind.i64.wrap ((t.size : Int) - (u.size : Int)) = (k : Int) := (IntWalk.i64_left _).trans hw1
  have hk0 : (0 : Int) ≤ (k : Int) := by omega
  have hm : (k : Int).tmod 2 = ((k % 2 : Nat) : Int) := by rw [Int.tmod_eq_emod_of_nonneg hk0]; omega
  have hm2 : (k : Int) % 2 = ((k % 2 : Nat) : Int) := by omega
  have hb : (((k % 2 : Nat) : Int) == 1) = decide (k % 2 = 1) := by
    rw [Bool.eq_iff_iff, beq_iff_eq, decide_eq_true_eq]; omega
  obtain ⟨q, hq⟩ : ∃ q, decide (k % 2 = 1) = q := ⟨_, rfl⟩
  rw [hq] at hg hb
  obtain ⟨z, hz⟩ : ∃ z, k % 2 = z := ⟨_, rfl⟩
  rw [hz] at hm hm2 hb
  have HG := Lib.hid hg
  have HB := Lib.hid hb
  clear hg ht hu htl hul a b hk hq hz hts hs hb
  go_enter Tryz.func114, Tryz.ntmps114
  go_wp2_with fail
  ((with_reducible refine (h1 _).mono ?_); rintro e w1 ⟨rfl, rfl⟩)
  go_wp2_with fail
  ((with_reducible refine (h2 _).mono ?_); rintro e w2 ⟨rfl, rfl⟩)
  go_wp2_with fail
  go_ret
  exact ⟨by rw [HG.out, ← HB.out]; rfl, rfl⟩

set_option maxRecDepth 100000 in
set_option maxHeartbeats 2000000 in
theorem note_calls (s : ByteArray) (hs : s.size ≤ 65536) (w : World) :
    Calls Tryz.prog 100 #[.string s] w fun e w' => e = .returned (.int .i64 (Lx.note s.data.toList : Nat)) ∧ w' = w := by
  have hp := Tryz.strings_HasPrefix s ⟨#[35]⟩ w
  rw [show (⟨#[35]⟩ : ByteArray).data.toList = [35] from rfl] at hp
  have HN := Lib.hid (show Lx.note s.data.toList = if Lib.hasPrefix s.data.toList [35] then Lx.noteR 0 s.data.toList else 0 from rfl)
  cases h : Lib.hasPrefix s.data.toList [35] with
  | false =>
    rw [h] at hp HN
    clear h
    go_enter Tryz.func100, Tryz.ntmps100
    go_wp2_with fail
    ((with_reducible refine hp.mono ?_); rintro e w1 ⟨rfl, rfl⟩)
    go_wp2_with fail
    go_ret
    exact ⟨by rw [HN.out]; rfl, rfl⟩
  | true =>
    rw [h] at hp HN
    have HX := Lib.hid (HN.out.trans (if_pos rfl))
    clear h HN
    go_enter Tryz.func100, Tryz.ntmps100
    go_wp2_with fail
    ((with_reducible refine hp.mono ?_); rintro e w1 ⟨rfl, rfl⟩)
    go_wp2_with fail
    go_loopw [3] (fun k wr => ∃ n : Nat, k = .int .i64 (n : Int) ∧ Lx.NoteI s.data.toList n ∧ wr = w1) (fun k _ => s.size - (intOf k).toNat)
    case atStart => exact ⟨0, rfl, Lx.NoteI.start _, rfl⟩
    case round =>
      obtain ⟨n, rfl, hI, rfl⟩ := hrel
      have hn := hI.1
      rw [lst_len] at hn
      have hix := fun w => Tryz.strings_IndexByte (s.extract n s.size) 10 w
      rw [show (10 : Int).toNat.toUInt8 = 10 from rfl] at hix
      simp only [extract_drop] at hix
      have hge := Lib.indexByte_ge (s.data.toList.drop n) 10
      have hnle : (n : Int) ≤ (s.size : Int) := by omega
      have h0n : (0 : Int) ≤ (n : Int) := by omega
      by_cases hm : Lib.indexByte (s.data.toList.drop n) 10 = -1
      · have HF := Lib.hid (hI.none hm)
        simp only [hm] at hix
        clear hI hm hge
        go_wp2_with fail
        ((with_reducible refine (hix _).mono ?_); rintro e w1 ⟨rfl, rfl⟩)
        go_wp2_with fail
        go_ret
        exact ⟨by rw [HX.out, HF.out, lst_len]; rfl, rfl⟩
      · obtain ⟨k, hk⟩ : ∃ k : Nat, Lib.indexByte (s.data.toList.drop n) 10 = (k : Int) := ⟨(Lib.indexByte (s.data.toList.drop n) 10).toNat, by omega⟩
        obtain ⟨f1, f2, f3⟩ := hI.found hk
        rw [lst_len] at f1
        simp only [hk] at hix
        obtain ⟨m, hmm⟩ : ∃ m, m = n + k := ⟨_, rfl⟩
        have H1 := Lib.hid (sum64 hmm (by omega))
        have H2 := Lib.hid (sum64 (a := m) (b := 1) rfl (by omega))
        have hgo := fun w => goesOn_calls (s.extract 0 m) (ext0_sz s m hs) w
        simp only [extract_take] at hgo
        rw [← hmm] at f1 f2 f3
        have hmle : (m : Int) ≤ (s.size : Int) := by omega
        have h0m : (0 : Int) ≤ (m : Int) := by omega
        have t0 : decide ((k : Int) < 0) = false := decide_eq_false (by omega)
        have hms : s.size - (m + 1) < s.size - n := by omega
        obtain ⟨g, hg⟩ : ∃ g, Lx.goes (s.data.toList.take m) = g := ⟨_, rfl⟩
        rw [hg] at f2 f3
        simp only [hg] at hgo
        cases g with
        | false =>
          have HF := Lib.hid (f2 rfl)
          clear hI hm hge hk f1 f2 f3 hg hmm
          obtain ⟨hw1, hw2⟩ := H1.out
          go_wp2_with fail
          ((with_reducible refine (hix _).mono ?_); rintro e w1 ⟨rfl, rfl⟩)
          go_wp2_with fail
          ((with_reducible refine (hgo _).mono ?_); rintro e w1 ⟨rfl, rfl⟩)
          go_wp2_with fail
          go_ret
          exact ⟨by rw [HX.out, HF.out]; rfl, rfl⟩
        | true =>
          have HF := Lib.hid (f3 rfl)
          clear hI hm hge hk f1 f2 f3 hg hmm
          obtain ⟨hw1, hw2⟩ := H1.out
          obtain ⟨hw3, hw4⟩ := H2.out
          go_wp2_with fail
          ((with_reducible refine (hix _).mono ?_); rintro e w1 ⟨rfl, rfl⟩)
          go_wp2_with fail
          ((with_reducible refine (hgo _).mono ?_); rintro e w1 ⟨rfl, rfl⟩)
          go_wp2_with fail
          go_roundw
          case rel => exact ⟨m + 1, by first | rfl | go_num, HF.out, trivial⟩
          case measure => first | exact hms | (simp [intOf]; omega)

/-- What strings.Cut hands back first. -/
def CutTo (a : ByteArray) (w : World) (e : Ending) (w' : World) : Prop := (∃ b c, e = .returned (.tuple #[.string a, .string b, .bool c])) ∧ Below w.heap.size w w'
set_option maxRecDepth 100000 in
set_option maxHeartbeats 1000000 in
theorem cutlite_none (x : ByteArray) (h : Lib.indexByte x.data.toList 58 = -1) (w : World) :
    Calls Tryz.prog 134 #[.string x, .string ⟨#[58]⟩] w (CutTo x w) := by
  have hi := Tryz.stringslite_Index_one x 58 w
  rw [h] at hi
  clear h
  go_enter Tryz.func134, Tryz.ntmps134
  go_wp2_with fail
  ((with_reducible refine hi.mono ?_); rintro e w1 ⟨rfl, rfl⟩)
  go_wp2_with fail
  exact bodyPost_ret (v := .tuple #[.string x, .string ⟨#[]⟩, .bool false]) (by simp [results, Tryz.results134, go_sem]) rfl ⟨⟨_, _, rfl⟩, Below.refl _ _⟩
set_option maxRecDepth 100000 in
set_option maxHeartbeats 1000000 in
theorem cutlite_some (x : ByteArray) (hx : x.size ≤ 65536) (k : Nat) (h : Lib.indexByte x.data.toList 58 = (k : Int)) (w : World) :
    Calls Tryz.prog 134 #[.string x, .string ⟨#[58]⟩] w (CutTo (x.extract 0 k) w) := by
  have hi := Tryz.stringslite_Index_one x 58 w
  have hk : k < x.size := by
    have := (List.getElem?_eq_some_iff.1 (Lib.indexByte_some h).1).1
    rw [lst_len] at this; exact this
  rw [h] at hi
  have h1 : (k : Int) ≤ (x.size : Int) := by omega
  have h2 : ((k + 1 : Nat) : Int) ≤ (x.size : Int) := by omega
  have h3 : (0 : Int) ≤ ((k + 1 : Nat) : Int) := by omega
  have h4 : (k : Int) + 1 ≤ (x.size : Int) := by omega
  have h5 : (0 : Int) ≤ (k : Int) + 1 := by omega
  have t0 : decide ((0 : Int) ≤ (k : Int)) = true := decide_eq_true (by omega)
  have hz : ((⟨#[58]⟩ : ByteArray).size : Int) = 1 := rfl
  have H := Lib.hid (sum64 (a := k) (b := 1) rfl (by omega))
  clear h
  obtain ⟨hw1, hw2⟩ := H.out
  go_enter Tryz.func134, Tryz.ntmps134
  go_wp2_with fail
  ((with_reducible refine hi.mono ?_); rintro e w1 ⟨rfl, rfl⟩)
  go_wp2_with fail
  go_quiet (fail)
  go_wp2_with fail
  refine bodyPost_ret (v := .tuple #[.string (x.extract 0 k), _, .bool true]) (by simp [results, Tryz.results134, go_sem]; rfl) rfl ⟨⟨_, _, rfl⟩, ⟨rfl, rfl, rfl, Nat.le_refl _, fun _ _ => rfl⟩⟩
end Go.Proofs.YtmoamfcaokefiaaGreatDoor.lx
