/- Ground of the law: LxDoc. -/
import Derived.Test.YthadnhpkeljdoaaQh04
import Derived.Test.YthadnhpkeljdoaaQh05
import Derived.Test.YthadnhpkeljdoaaQh07
import Derived.Test.YthadnhpkeljdoaaQh12
import Derived.Test.YthadnhpkeljdoaaQh10
import Derived.Test.YthadnhpkeljdoaaQh16
import Derived.Test.YthadnhpkeljdoaaQh15
import Derived.Test.YthadnhpkeljdoaaQh14
import Derived.Test.YthadnhpkeljdoaaQh09
import Derived.Maps.AppendAt
import Derived.Laws.AppendOwnNone
import Derived.BigQuiet
import Derived.Deep.Slices
import Derived.SizedLaws
import Derived.Test.YthadnhpkeljdoaaRows
import Derived.Laws.StructEq
set_option maxRecDepth 100000
set_option maxHeartbeats 8000000
set_option linter.unusedVariables false
set_option linter.unusedSimpArgs false
namespace Go.Proofs.Ythadnhpkeljdoaa.lx
open Go.Lib (hid)
open Go.RowKit
open sg
theorem blanks_calls (s : ByteArray) (hs : s.size ≤ 140737488351232) (w : World) :
    Calls Try.prog 57 #[.string s] w fun e w'=>e = .returned (.int .i64 (Sg.run Sg.cB s.data.toList : Nat)) ∧ w = w':=by
  go_enter Try.func57,Try.ntmps57
  go_wp2_with fail
  go_loopw [3] (fun k wr=>∃ m : Nat,k = .int .i64 (m : Int) ∧ m ≤ s.size ∧ Sg.run Sg.cB (s.data.toList.take m) = m ∧ wr = w) (fun k _=>s.size - (intOf k).toNat)
  case atStart=>exact ⟨0,rfl,Nat.zero_le _,rfl,rfl⟩
  case round =>
    obtain ⟨m,rfl,hm,hr,rfl⟩:=hrel
    by_cases h : m < s.size
    · cases hd : Sg.cB ((s[m]'h).toNat : Int) with
      | true =>
        have HR:=hid (run_more h hr hd)
        have hc:=rblank_calls ((s[m]'h).toNat : Int) wr
        rw [hd] at hc
        clear hr hd
        go_wp2_with fail
        ((with_reducible refine hc.mono ?_);rintro e w1 ⟨rfl,rfl⟩)
        go_wp2_with fail
        go_roundw
        case rel=>exact ⟨m + 1,by go_num,by omega,HR.out,trivial⟩
        case measure=>simp [intOf];omega
      | false =>
        have HF:=hid (run_less hr (fun _=>hd))
        have hc:=rblank_calls ((s[m]'h).toNat : Int) wr
        rw [hd] at hc
        clear hr hd
        go_wp2_with fail
        ((with_reducible refine hc.mono ?_);rintro e w1 ⟨rfl,rfl⟩)
        go_wp2_with fail
        go_ret
        exact ⟨by rw [HF.out];rfl,rfl⟩
    · have HF:=hid (run_less hr (fun h'=>absurd h' h))
      clear hr
      go_wp2_with fail
      go_ret
      exact ⟨by rw [HF.out];rfl,rfl⟩
theorem part_calls (s : ByteArray) (hs : s.size ≤ 140737488351232) (w : World) :
    Calls Try.prog 61 #[.string s] w fun e w'=>e = .returned (.int .i64 (Sg.run Sg.cW s.data.toList : Nat)) ∧ w = w':=by
  go_enter Try.func61,Try.ntmps61
  go_wp2_with fail
  go_loopw [3] (fun k wr=>∃ m : Nat,k = .int .i64 (m : Int) ∧ m ≤ s.size ∧ Sg.run Sg.cW (s.data.toList.take m) = m ∧ wr = w) (fun k _=>s.size - (intOf k).toNat)
  case atStart=>exact ⟨0,rfl,Nat.zero_le _,rfl,rfl⟩
  case round =>
    obtain ⟨m,rfl,hm,hr,rfl⟩:=hrel
    by_cases h : m < s.size
    · have hl:=rletter_calls ((s[m]'h).toNat : Int) wr
      have hg:=rdigit_calls ((s[m]'h).toNat : Int) wr
      cases hL : Sg.cL ((s[m]'h).toNat : Int) with
      | true =>
        rw [hL] at hl
        have HR:=hid (run_more (p:=Sg.cW) h hr (by simp [Sg.cW,hL]))
        clear hr hL hg
        go_wp2_with fail
        ((with_reducible refine hl.mono ?_);rintro e w1 ⟨rfl,rfl⟩)
        go_wp2_with fail
        go_roundw
        case rel=>exact ⟨m + 1,by go_num,by omega,HR.out,trivial⟩
        case measure=>simp [intOf];omega
      | false =>
        rw [hL] at hl
        cases hD : Sg.cD ((s[m]'h).toNat : Int) with
        | true =>
          rw [hD] at hg
          have HR:=hid (run_more (p:=Sg.cW) h hr (by simp [Sg.cW,hD]))
          clear hr hL hD
          go_wp2_with fail
          ((with_reducible refine hl.mono ?_);rintro e w1 ⟨rfl,rfl⟩)
          go_wp2_with fail
          ((with_reducible refine hg.mono ?_);rintro e w1 ⟨rfl,rfl⟩)
          go_wp2_with fail
          go_roundw
          case rel=>exact ⟨m + 1,by go_num,by omega,HR.out,trivial⟩
          case measure=>simp [intOf];omega
        | false =>
          rw [hD] at hg
          have HF:=hid (run_less (p:=Sg.cW) hr (fun _=>by simp [Sg.cW,hL,hD]))
          clear hr hL hD
          go_wp2_with fail
          ((with_reducible refine hl.mono ?_);rintro e w1 ⟨rfl,rfl⟩)
          go_wp2_with fail
          ((with_reducible refine hg.mono ?_);rintro e w1 ⟨rfl,rfl⟩)
          go_wp2_with fail
          go_ret
          exact ⟨by rw [HF.out];rfl,rfl⟩
    · have HF:=hid (run_less hr (fun h'=>absurd h' h))
      clear hr
      go_wp2_with fail
      go_ret
      exact ⟨by rw [HF.out];rfl,rfl⟩
end Go.Proofs.Ythadnhpkeljdoaa.lx
namespace Go.Proofs.Ythadnhpkeljdoaa.lx
open Go.Lib (hid)
open Go.RowKit
open sg
open Lx (noteR nstep)
theorem note_step (l : List UInt8) (m : Nat) (h : m < l.length) (st : Nat) : noteR st (l.drop m) = if l.getD m 0 = 10 ∧ st = 0 then 0 else 1 + noteR (nstep st (l.getD m 0)) (l.drop (m + 1)):=by rw [Sg.drop_head h];rfl
theorem note_two (l : List UInt8) (h : l.head? ≠ some 10) : noteR 2 l = noteR 0 l:=by
  cases l with
  | nil=>rfl
  | cons b r =>
    have hb : b ≠ 10:=fun e=>h (by rw [e];rfl)
    simp only [noteR]
    rw [if_neg (fun e=>hb e.1),if_neg (fun e=>hb e.1)]
    have : nstep 2 b = nstep 0 b:=by unfold nstep;simp
    rw [this]
def NI (l : List UInt8) (m q : Nat) : Prop:=m ≤ l.length ∧ q ≤ m ∧ noteR 0 l = m + noteR (q % 2) (l.drop m)
theorem NI.fin {l : List UInt8} {q : Nat} (h : NI l l.length q) : noteR 0 l = l.length:=by
  have:=h.2.2
  rw [List.drop_length] at this
  exact this
theorem NI.stop {l : List UInt8} {m q : Nat} (h : NI l m q) (hm : m < l.length) (hb : l.getD m 0 = 10) (hq : q % 2 = 0) : noteR 0 l = m:=by
  rw [h.2.2,note_step l m hm,if_pos ⟨hb,hq⟩];rfl
theorem NI.slash {l : List UInt8} {m q : Nat} (h : NI l m q) (hm : m < l.length) (hb : l.getD m 0 = 92) : NI l (m + 1) (q + 1):=by
  refine ⟨hm,by have:=h.2.1;omega,?_⟩
  rw [h.2.2,note_step l m hm,if_neg (by rw [hb];simp),hb]
  have : nstep (q % 2) 92 = (q + 1) % 2:=by
    unfold nstep
    rw [if_pos rfl]
    split <;> omega
  rw [this];omega
theorem NI.two {l : List UInt8} {m q : Nat} (h : NI l m q) (hm : m + 1 < l.length) (hb : l.getD m 0 = 13) (hq : q % 2 = 1) (hb2 : l.getD (m + 1) 0 = 10) : NI l (m + 2) 0:=by
  refine ⟨hm,Nat.zero_le _,?_⟩
  rw [h.2.2,note_step l m (by omega),if_neg (by rw [hb];simp),note_step l (m + 1) hm,hb,hb2,hq]
  have e1 : nstep 1 13 = 2:=rfl
  have e2 : nstep 2 10 = 0:=rfl
  rw [e1,if_neg (by simp),e2,show m + 1 + 1 = m + 2 from rfl]
  show _ = m + 2 + noteR 0 _
  omega
theorem NI.other {l : List UInt8} {m q : Nat} (h : NI l m q) (hm : m < l.length) (hb : l.getD m 0 ≠ 92) (h1 : ¬ (l.getD m 0 = 10 ∧ q % 2 = 0)) (h2 : l.getD m 0 = 13 → q % 2 = 1 → ¬ (m + 1 < l.length ∧ l.getD (m + 1) 0 = 10)) : NI l (m + 1) 0:=by
  refine ⟨hm,Nat.zero_le _,?_⟩
  rw [h.2.2,note_step l m hm,if_neg h1]
  have : noteR (nstep (q % 2) (l.getD m 0)) (l.drop (m + 1)) = noteR 0 (l.drop (m + 1)):=by
    unfold nstep
    rw [if_neg hb]
    by_cases h3 : l.getD m 0 = 13 ∧ q % 2 = 1
    · rw [if_pos h3]
      refine note_two _ fun e=>h2 h3.1 h3.2 ?_
      have hl : m + 1 < l.length:=Nat.lt_of_not_le fun hle=>by rw [List.drop_eq_nil_of_le hle] at e;cases e
      rw [Sg.drop_head hl] at e
      exact ⟨hl,by simpa using e⟩
    · rw [if_neg h3]
  rw [this]
  show _ = m + 1 + noteR 0 _
  omega
theorem getD_byte (s : ByteArray) (m : Nat) (h : m < s.size) : s.data.toList.getD m 0 = s[m]'h:=by
  simp [List.getD,Lib.data_getElem? s m h]
theorem byte_eq (b : UInt8) (k : Nat) (hk : k < 256) : ((b.toNat : Int) == (k : Int)) = decide (b = UInt8.ofNat k):=by
  rw [Bool.eq_iff_iff,beq_iff_eq,decide_eq_true_eq]
  constructor
  · intro h
    have : b.toNat = k:=by omega
    rw [← this];simp
  · rintro rfl
    simp;omega
theorem rnote_calls (s : ByteArray) (hs : s.size ≤ 140737488351232) (w : World) :
    Calls Try.prog 58 #[.string s] w fun e w'=>e = .returned (.int .i64 (noteR 0 s.data.toList : Nat)) ∧ Below w.heap.size w w':=by
  go_enter Try.func58,Try.ntmps58
  go_wp2_with fail
  go_loopw [3,4] (fun n b wr=>∃ m q : Nat,n = .int .i64 (m : Int) ∧ b = .int .i64 (q : Int) ∧ NI s.data.toList m q ∧ Below w.heap.size w wr) (fun n _ _=>s.size - (intOf n).toNat)
  case atStart=>exact ⟨0,0,rfl,rfl,⟨Nat.zero_le _,Nat.le_refl _,by simp⟩,Below.refl _ _⟩
  case round =>
    obtain ⟨m,q,rfl,rfl,hi,hb⟩:=hrel
    have hm:=hi.1
    have hqm:=hi.2.1
    rw [lst_len] at hm
    by_cases h : m < s.size
    · have hd:=getD_byte s m h
      have hl : m < s.data.toList.length:=by rw [lst_len];exact h
      have hlt : (m : Int) < (s.size : Int):=by omega
      have hq2 : q % 2 = 0 ∨ q % 2 = 1:=by omega
      have hqb : q < 140737488355328:=by omega
      have H10:=byte_eq (s[m]'h) 10 (by omega)
      have H13:=byte_eq (s[m]'h) 13 (by omega)
      have H92:=byte_eq (s[m]'h) 92 (by omega)
      by_cases b10 : s[m]'h = 10
      · have t10 : (((s[m]'h).toNat : Int) == 10) = true:=H10.trans (decide_eq_true b10)
        have t13 : (((s[m]'h).toNat : Int) == 13) = false:=H13.trans (decide_eq_false (by rw [b10];decide))
        have t92 : (((s[m]'h).toNat : Int) == 92) = false:=H92.trans (decide_eq_false (by rw [b10];decide))
        rcases hq2 with hq | hq
        · have HF:=hid (hi.stop hl (hd.trans b10) hq)
          have hq1 : (q : Int) % 2 = 0:=by omega
          clear H10 H13 H92 hi hd hq b10
          go_wp2_with fail
          go_ret
          exact ⟨by rw [HF.out];rfl,hb⟩
        · have HN:=hid (hi.other hl (by rw [hd,b10];decide) (fun e=>by omega) (fun e=>by rw [hd,b10] at e;exact absurd e (by decide)))
          have hq1 : (q : Int) % 2 = 1:=by omega
          clear H10 H13 H92 hi hd hq b10
          go_wp2_with fail
          exact ⟨⟨m + 1,0,by go_num,by go_num,HN.out,hb⟩,by simp [intOf];omega⟩
      have t10 : (((s[m]'h).toNat : Int) == 10) = false:=H10.trans (decide_eq_false b10)
      by_cases b92 : s[m]'h = 92
      · have t13 : (((s[m]'h).toNat : Int) == 13) = false:=H13.trans (decide_eq_false (by rw [b92];decide))
        have t92 : (((s[m]'h).toNat : Int) == 92) = true:=H92.trans (decide_eq_true b92)
        have HN:=hid (hi.slash hl (hd.trans b92))
        have hq1 : wrap64 ((q : Int) + 1) = (q : Int) + 1:=IntWalk.wrap64_in _ (by omega)
        clear H10 H13 H92 hi hd b92 b10
        go_wp2_with fail
        exact ⟨⟨m + 1,q + 1,by go_num,by go_num,HN.out,hb⟩,by simp [intOf];omega⟩
      have t92 : (((s[m]'h).toNat : Int) == 92) = false:=H92.trans (decide_eq_false b92)
      by_cases b13 : s[m]'h = 13
      · have t13 : (((s[m]'h).toNat : Int) == 13) = true:=H13.trans (decide_eq_true b13)
        by_cases h2 : m + 1 < s.size
        · have hd2:=getD_byte s (m + 1) h2
          have hlt2 : (m : Int) + 1 < (s.size : Int):=by omega
          have K10:=byte_eq (s[m + 1]'h2) 10 (by omega)
          by_cases c10 : s[m + 1]'h2 = 10
          · have u10 : (((s[m + 1]'h2).toNat : Int) == 10) = true:=K10.trans (decide_eq_true c10)
            rcases hq2 with hq | hq
            · have HN:=hid (hi.other hl (by rw [hd,b13];decide) (fun e=>by rw [hd,b13] at e;exact absurd e.1 (by decide)) (fun _ e=>by omega))
              have hq1 : (q : Int) % 2 = 0:=by omega
              clear H10 H13 H92 hi hd hq b10 b92 b13 K10 c10 hd2
              go_wp2_with fail
              exact ⟨⟨m + 1,0,by go_num,by go_num,HN.out,hb⟩,by simp [intOf];omega⟩
            · have HN:=hid (hi.two (by rw [lst_len];exact h2) (hd.trans b13) hq (hd2.trans c10))
              have hq1 : (q : Int) % 2 = 1:=by omega
              clear H10 H13 H92 hi hd hq b10 b92 b13 K10 c10 hd2
              go_wp2_with fail
              exact ⟨⟨m + 2,0,by go_num,by go_num,HN.out,hb⟩,by simp [intOf];omega⟩
          · have u10 : (((s[m + 1]'h2).toNat : Int) == 10) = false:=K10.trans (decide_eq_false c10)
            have HN:=hid (hi.other hl (by rw [hd,b13];decide) (fun e=>by rw [hd,b13] at e;exact absurd e.1 (by decide)) (fun _ _ e=>c10 (by rw [← hd2];exact e.2)))
            clear H10 H13 H92 hi hd hq2 b10 b92 b13 K10 c10 hd2
            go_wp2_with fail
            exact ⟨⟨m + 1,0,by go_num,by go_num,HN.out,hb⟩,by simp [intOf];omega⟩
        · have hge2 : decide ((m : Int) + 1 < (s.size : Int)) = false:=decide_eq_false (by omega)
          have HN:=hid (hi.other hl (by rw [hd,b13];decide) (fun e=>by rw [hd,b13] at e;exact absurd e.1 (by decide)) (fun _ _ e=>h2 (by rw [← lst_len];exact e.1)))
          clear H10 H13 H92 hi hd hq2 b10 b92 b13
          go_wp2_with fail
          exact ⟨⟨m + 1,0,by go_num,by go_num,HN.out,hb⟩,by simp [intOf];omega⟩
      · have t13 : (((s[m]'h).toNat : Int) == 13) = false:=H13.trans (decide_eq_false b13)
        have HN:=hid (hi.other hl (by rw [hd];exact b92) (fun e=>b10 (by rw [← hd];exact e.1)) (fun e=>absurd (by rw [← hd];exact e) b13))
        clear H10 H13 H92 hi hd hq2 b10 b92 b13
        go_wp2_with fail
        exact ⟨⟨m + 1,0,by go_num,by go_num,HN.out,hb⟩,by simp [intOf];omega⟩
    · obtain rfl : m = s.size:=by omega
      have hge : decide ((s.size : Int) < (s.size : Int)) = false:=by simp
      have hf : noteR 0 s.data.toList = s.size:=by
        have : NI s.data.toList s.data.toList.length q:=by rw [lst_len];exact hi
        rw [this.fin,lst_len]
      have HF:=hid hf
      clear hi hf
      go_wp2_with fail
      go_ret
      exact ⟨by rw [HF.out];rfl,hb⟩
end Go.Proofs.Ythadnhpkeljdoaa.lx
namespace Go.Proofs.Ythadnhpkeljdoaa.lx
open Go.Lib (hid)
open Go.RowKit
open sg
abbrev PI (l : List UInt8) (n : Nat) : Prop:=Lx.PieceI l n
theorem PI.at {l : List UInt8} {n : Nat} (h : PI l n) (hn : n < l.length) : Lx.piece l = n + (if l.getD n 0 = 34 then 0 else if l.getD n 0 = 92 then (if Sg.escape (l.drop n) = 0 then 0 else Sg.escape (l.drop n) + Lx.piece (l.drop (n + Sg.escape (l.drop n)))) else 1 + Lx.piece (l.drop (n + 1))):=by
  rw [h.2]
  congr 1
  conv=>lhs;rw [Sg.drop_head hn]
  rw [Lx.piece_cons,← Sg.drop_head hn,List.drop_drop]
theorem PI.quote {l : List UInt8} {n : Nat} (h : PI l n) (hn : n < l.length) (hb : l.getD n 0 = 34) : Lx.piece l = n:=by rw [h.at hn,if_pos hb];rfl
theorem PI.none {l : List UInt8} {n : Nat} (h : PI l n) (hn : n < l.length) (hb : l.getD n 0 = 92) (he : Sg.escape (l.drop n) = 0) : Lx.piece l = n:=by
  rw [h.at hn,if_neg (by rw [hb];decide),if_pos hb,if_pos he];rfl
theorem PI.esc {l : List UInt8} {n k : Nat} (h : PI l n) (hn : n < l.length) (hb : l.getD n 0 = 92) (hk : Sg.escape (l.drop n) = k) (he : k ≠ 0) : PI l (n + k):=by
  have hle:=Sg.escape_le (l.drop n)
  rw [List.length_drop] at hle
  refine ⟨by omega,?_⟩
  rw [h.at hn,if_neg (by rw [hb];decide),if_pos hb,if_neg (by omega),hk];omega
theorem PI.one {l : List UInt8} {n : Nat} (h : PI l n) (hn : n < l.length) (h1 : l.getD n 0 ≠ 34) (h2 : l.getD n 0 ≠ 92) : PI l (n + 1):=by
  refine ⟨hn,?_⟩
  rw [h.at hn,if_neg h1,if_neg h2];omega
theorem PI.fin {l : List UInt8} (h : PI l l.length) : Lx.piece l = l.length:=by
  have:=h.2
  rw [List.drop_length,Lx.piece_nil] at this
  exact this
theorem rpiece_calls (s : ByteArray) (hs : s.size ≤ 140737488351232) (w : World) :
    Calls Try.prog 43 #[.string s] w fun e w'=>e = .returned (.int .i64 (Lx.piece s.data.toList : Nat)) ∧ Below w.heap.size w w':=by
  go_enter Try.func43,Try.ntmps43
  go_wp2_with fail
  go_loopw [3] (fun n wr=>∃ m : Nat,n = .int .i64 (m : Int) ∧ PI s.data.toList m ∧ Below w.heap.size w wr) (fun n _=>s.size - (intOf n).toNat)
  case atStart=>exact ⟨0,rfl,⟨Nat.zero_le _,by simp⟩,Below.refl _ _⟩
  case round =>
    obtain ⟨m,rfl,hi,hb⟩:=hrel
    have hm:=hi.1
    rw [lst_len] at hm
    by_cases h : m < s.size
    · have hd:=getD_byte s m h
      have hl : m < s.data.toList.length:=by rw [lst_len];exact h
      have hlt : (m : Int) < (s.size : Int):=by omega
      have hle1 : (m : Int) ≤ (s.size : Int):=by omega
      have H34:=byte_eq (s[m]'h) 34 (by omega)
      have H92:=byte_eq (s[m]'h) 92 (by omega)
      by_cases b34 : s[m]'h = 34
      · have t34 : (((s[m]'h).toNat : Int) == 34) = true:=H34.trans (decide_eq_true b34)
        have HF:=hid (hi.quote hl (hd.trans b34))
        clear H34 H92 hi hd b34
        go_wp2_with fail
        go_ret
        exact ⟨by rw [HF.out];rfl,hb⟩
      have t34 : (((s[m]'h).toNat : Int) == 34) = false:=H34.trans (decide_eq_false b34)
      by_cases b92 : s[m]'h = 92
      · have t92 : (((s[m]'h).toNat : Int) == 92) = true:=H92.trans (decide_eq_true b92)
        have hec:=rescape_calls (s.extract m s.size) (ext_size _ _ hs) wr
        rw [extract_drop] at hec
        have hkl:=Sg.escape_le (s.data.toList.drop m)
        rw [List.length_drop,lst_len] at hkl
        obtain ⟨k,hk⟩ : ∃ k,Sg.escape (s.data.toList.drop m) = k:=⟨_,rfl⟩
        rw [hk] at hec hkl
        by_cases hk0 : k = 0
        · have HF:=hid (hi.none hl (hd.trans b92) (hk.trans hk0))
          subst hk0
          clear H34 H92 hi hd b34 b92 hk
          go_wp2_with fail
          ((with_reducible refine hec.mono ?_);rintro e w1 ⟨rfl,hb1⟩)
          go_wp2_with fail
          go_ret
          exact ⟨by rw [HF.out];rfl,sg.Below.next hb hb1 (Nat.le_refl _)⟩
        · have HN:=hid (hi.esc hl (hd.trans b92) hk hk0)
          have hk1 : ((k : Int) == 0) = false:=beq_eq_false_iff_ne.2 (by omega)
          have w3 : wrap64 ((m : Int) + (k : Int)) = ((m + k : Nat) : Int):=by rw [IntWalk.wrap64_in _ (by omega)];omega
          have HW3:=hid w3
          have hk2 : 0 < k:=by omega
          clear H34 H92 hi hd b34 b92 hk w3
          go_wp2_with fail
          ((with_reducible refine hec.mono ?_);rintro e w1 ⟨rfl,hb1⟩)
          go_wp2_with fail
          exact ⟨⟨m + k,by go_num,HN.out,sg.Below.next hb hb1 (Nat.le_refl _)⟩,by simp [intOf];omega⟩
      · have t92 : (((s[m]'h).toNat : Int) == 92) = false:=H92.trans (decide_eq_false b92)
        have HN:=hid (hi.one hl (by rw [hd];exact b34) (by rw [hd];exact b92))
        clear H34 H92 hi hd b34 b92
        go_wp2_with fail
        exact ⟨⟨m + 1,by go_num,HN.out,hb⟩,by simp [intOf];omega⟩
    · obtain rfl : m = s.size:=by omega
      have hge : decide ((s.size : Int) < (s.size : Int)) = false:=by simp
      have hf : Lx.piece s.data.toList = s.size:=by
        have : PI s.data.toList s.data.toList.length:=by rw [lst_len];exact hi
        rw [this.fin,lst_len]
      have HF:=hid hf
      clear hi hf
      go_wp2_with fail
      go_ret
      exact ⟨by rw [HF.out];rfl,hb⟩
end Go.Proofs.Ythadnhpkeljdoaa.lx
namespace Go.Proofs.Ythadnhpkeljdoaa.lx
open Go.Lib (hid)
open Go.RowKit
open sg
open Lx (note marked just outside find)
def pf (l : List UInt8) : Int × Nat:=(find outside l).getD (13,0)
theorem pf_eq (l : List UInt8) : pf l = if Sg.run Sg.cB l = 0 then (if note l = 0 then (if Sg.word l = 0 then (if marked [46] Sg.simple l = 0 then (if marked [36] Sg.word l = 0 then (if marked [64] (Sg.run Sg.cW) l = 0 then (if Sg.number l = 0 then (if just [34] l = 0 then (if Sg.oper l = 0 then (13,0) else (13,Sg.oper l)) else (7,just [34] l)) else (6,Sg.number l)) else (12,marked [64] (Sg.run Sg.cW) l)) else (5,marked [36] Sg.word l)) else (4,marked [46] Sg.simple l)) else (3,Sg.word l)) else (2,note l)) else (1,Sg.run Sg.cB l):=by
  unfold pf outside
  simp only [find]
  repeat' split
  all_goals rfl
theorem run_head (p : Int → Bool) (b : UInt8) (r : List UInt8) : (Sg.run p (b :: r) = 0) ↔ p (b.toNat : Int) = false:=by
  simp only [Sg.run]
  split
  · rename_i h;rw [h];simp
  · rename_i h;simp [h]
theorem pre_head (b c : UInt8) (r : List UInt8) : Lib.hasPrefix (b :: r) [c] = decide (b = c):=by
  rw [Bool.eq_iff_iff,decide_eq_true_eq]
  unfold Lib.hasPrefix
  rw [List.isPrefixOf_iff_prefix]
  constructor
  · intro h
    obtain ⟨t,ht⟩:=h
    simp at ht
    exact ht.1.symm
  · rintro rfl
    exact ⟨r,rfl⟩
theorem note_head (b : UInt8) (r : List UInt8) : note (b :: r) = if b = 35 then Lx.noteR 0 (b :: r) else 0:=by
  unfold note
  rw [pre_head]
  by_cases h : b = 35 <;> simp [h]
theorem marked_head (b c : UInt8) (r : List UInt8) (f : List UInt8 → Nat) : marked [c] f (b :: r) = if b = c then (if f r = 0 then 0 else 1 + f r) else 0:=by
  unfold marked
  rw [pre_head]
  by_cases h : b = c <;> simp [h]
theorem just_head (b c : UInt8) (r : List UInt8) : just [c] (b :: r) = if b = c then 1 else 0:=by
  unfold just
  rw [pre_head]
  by_cases h : b = c <;> simp [h]
theorem data_cons (s : ByteArray) (h : 0 < s.size) : s.data.toList = (s[0]'h) :: s.data.toList.drop 1:=by
  have:=Sg.drop_head (l:=s.data.toList) (k:=0) (by rw [lst_len];exact h)
  rw [List.drop_zero,getD_byte s 0 h] at this
  exact this
theorem plain_calls (s : ByteArray) (hs : s.size ≤ 140737488351232) (h0 : 0 < s.size) (w : World) :
    Calls Try.prog 45 #[.string s] w fun e w'=>e = .returned (.agg #[.int .i64 (pf s.data.toList).1,.string (s.extract 0 (pf s.data.toList).2)]) ∧ Below w.heap.size w w':=by
  have hpf:=pf_eq s.data.toList
  have hcons:=data_cons s h0
  have hbl:=rblank_calls ((s[0]'h0).toNat : Int)
  have hblanks:=blanks_calls s hs
  have hlt : (0 : Int) < (s.size : Int):=by omega
  have hge1 : (1 : Int) ≤ (s.size : Int):=by omega
  have hne:=ne_empty s h0
  have hrl:=Sg.run_le Sg.cB s.data.toList
  rw [lst_len] at hrl
  have HCO:=hid hcons
  cases hB : Sg.cB ((s[0]'h0).toNat : Int) with
  | true =>
    simp only [hB] at hbl
    have hrn : Sg.run Sg.cB s.data.toList ≠ 0:=by rw [hcons,ne_eq,run_head,hB];simp
    rw [if_neg hrn] at hpf
    obtain ⟨n,hn⟩ : ∃ n,Sg.run Sg.cB s.data.toList = n:=⟨_,rfl⟩
    simp only [hn] at hblanks hrl hpf
    have HF:=hid hpf
    have hnl : (n : Int) ≤ (s.size : Int):=by omega
    clear hpf hcons hrn hn hB
    go_enter Try.func45,Try.ntmps45
    go_wp2_with fail
    ((with_reducible refine (hbl _).mono ?_);rintro e w1 ⟨rfl,rfl⟩)
    go_wp2_with fail
    ((with_reducible refine (hblanks _).mono ?_);rintro e w1 ⟨rfl,rfl⟩)
    go_wp2_with fail
    refine bodyPost_ret (v:=.agg #[.int .i64 1,.string (s.extract 0 n)]) ?_ rfl ⟨by rw [HF.out],(Below.refl _ _).alloc (Nat.le_refl _) _⟩
    simp [results,Try.results45,go_sem]
    done
  | false =>
    simp only [hB] at hbl
    have hrn : Sg.run Sg.cB s.data.toList = 0:=by rw [hcons,run_head,hB]
    rw [if_pos hrn] at hpf
    clear hrn hB hblanks hrl
    obtain ⟨b,hbq⟩ : ∃ b,s[0]'h0 = b:=⟨_,rfl⟩
    rw [hbq] at hcons
    have hnh : note s.data.toList = if b = 35 then Lx.noteR 0 s.data.toList else 0:=by
      have:=note_head b (s.data.toList.drop 1)
      rw [← hcons] at this
      exact this
    have hm46 : marked [46] Sg.simple s.data.toList = if b = 46 then (if Sg.simple (s.data.toList.drop 1) = 0 then 0 else 1 + Sg.simple (s.data.toList.drop 1)) else 0:=by
      have:=marked_head b 46 (s.data.toList.drop 1) Sg.simple
      rw [← hcons] at this
      exact this
    have hm36 : marked [36] Sg.word s.data.toList = if b = 36 then (if Sg.word (s.data.toList.drop 1) = 0 then 0 else 1 + Sg.word (s.data.toList.drop 1)) else 0:=by
      have:=marked_head b 36 (s.data.toList.drop 1) Sg.word
      rw [← hcons] at this
      exact this
    have hm64 : marked [64] (Sg.run Sg.cW) s.data.toList = if b = 64 then (if Sg.run Sg.cW (s.data.toList.drop 1) = 0 then 0 else 1 + Sg.run Sg.cW (s.data.toList.drop 1)) else 0:=by
      have:=marked_head b 64 (s.data.toList.drop 1) (Sg.run Sg.cW)
      rw [← hcons] at this
      exact this
    have hj34 : just [34] s.data.toList = if b = 34 then 1 else 0:=by
      have:=just_head b 34 (s.data.toList.drop 1)
      rw [← hcons] at this
      exact this
    have hn35 : b = 35 → Lx.noteR 0 s.data.toList ≠ 0:=fun e=>by
      rw [hcons,e]
      simp only [Lx.noteR]
      rw [if_neg (by decide)];omega
    have hnote:=rnote_calls s hs
    have hnl:=Lx.noteR_le 0 s.data.toList
    have hword:=rword_calls s hs
    have hwl:=Sg.word_le s.data.toList
    have hword1:=rword_calls (s.extract 1 s.size) (ext_size _ _ hs)
    have hw1l:=Sg.word_le (s.data.toList.drop 1)
    have hpart:=part_calls (s.extract 1 s.size) (ext_size _ _ hs)
    have hpl:=Sg.run_le Sg.cW (s.data.toList.drop 1)
    have hnum:=rnumber_calls s hs
    have hnul:=Sg.number_le s.data.toList
    have hoper:=roper_calls s hs
    have hol:=Sg.oper_le s.data.toList
    have hsim : Sg.simple (s.data.toList.drop 1) = if Sg.at' Sg.cL (s.data.toList.drop 1) 0 = true then Sg.run Sg.cW (s.data.toList.drop 1) else 0:=rfl
    rw [extract_drop] at hword1 hpart
    rw [List.length_drop] at hw1l hpl
    rw [lst_len] at hnl hwl hw1l hpl hnul hol
    obtain ⟨nn,hnn⟩ : ∃ n,Lx.noteR 0 s.data.toList = n:=⟨_,rfl⟩
    obtain ⟨nw,hnw⟩ : ∃ n,Sg.word s.data.toList = n:=⟨_,rfl⟩
    obtain ⟨w1,hw1⟩ : ∃ n,Sg.word (s.data.toList.drop 1) = n:=⟨_,rfl⟩
    obtain ⟨p1,hp1⟩ : ∃ n,Sg.run Sg.cW (s.data.toList.drop 1) = n:=⟨_,rfl⟩
    obtain ⟨nu,hnu⟩ : ∃ n,Sg.number s.data.toList = n:=⟨_,rfl⟩
    obtain ⟨no,hno⟩ : ∃ n,Sg.oper s.data.toList = n:=⟨_,rfl⟩
    rw [hnh,hm46,hm36,hm64,hj34] at hpf
    simp only [hnn] at hnote hnl hn35 hpf
    simp only [hnw] at hword hwl hpf
    simp only [hw1] at hword1 hw1l hpf
    simp only [hp1] at hpart hpl hpf hsim
    simp only [hnu] at hnum hnul hpf
    simp only [hno] at hoper hol hpf
    have TT:=fun k hk=>byte_eq (s[0]'h0) k hk
    rw [hbq] at TT
    have hgo : ∀ q : Int × Nat,pf s.data.toList = q → True:=fun _ _=>trivial
    have HP1:=hid hp1
    clear hnh hm46 hm36 hm64 hj34 hcons hgo hnn hnw hp1 hnu hno hw1 HCO
    by_cases b35 : b = 35
    · subst b35
      have T35 : (((s[0]'h0).toNat : Int) == 35) = true:=by rw [hbq];rfl
      have T46 : (((s[0]'h0).toNat : Int) == 46) = false:=by rw [hbq];rfl
      have T36 : (((s[0]'h0).toNat : Int) == 36) = false:=by rw [hbq];rfl
      have T64 : (((s[0]'h0).toNat : Int) == 64) = false:=by rw [hbq];rfl
      have T34 : (((s[0]'h0).toNat : Int) == 34) = false:=by rw [hbq];rfl
      have hq:=hn35 rfl
      rw [if_pos rfl,if_neg hq] at hpf
      have HF:=hid hpf
      have hcl : (nn : Int) ≤ (s.size : Int):=by omega
      have hlet : ∀ w : World,True:=fun _=>trivial
      clear TT hpf hsim hn35 hbq
      go_enter Try.func45,Try.ntmps45
      go_wp2_with fail
      repeat (first
        | ((with_reducible refine (hbl _).mono ?_);rintro e w1 ⟨rfl,rfl⟩;go_wp2_with fail)
        | ((with_reducible refine (hword _).mono ?_);rintro e w1 ⟨rfl,rfl⟩;go_wp2_with fail)
        | ((with_reducible refine (hlet _).mono ?_);rintro e w1 ⟨rfl,rfl⟩;go_wp2_with fail)
        | ((with_reducible refine (hpart _).mono ?_);rintro e w1 ⟨rfl,rfl⟩;go_wp2_with fail)
        | ((with_reducible refine (hword1 _).mono ?_);rintro e w1 ⟨rfl,rfl⟩;go_wp2_with fail)
        | ((with_reducible refine (hnum _).mono ?_);rintro e w1 ⟨rfl,rfl⟩;go_wp2_with fail))
      ((with_reducible refine (hnote _).mono ?_);rintro e w1 ⟨rfl,hb1⟩)
      have hblk:=(hb1.block w.heap.size (by simp)).trans (World.alloc_heap_new w _)
      have d0 : w1.cell? ⟨w.heap.size,0,none⟩ = some (.int .i64 0):=by rw [Lib.cell_of_heap hblk];rfl
      have d1 : w1.cell? ⟨w.heap.size,1,none⟩ = some (.string ⟨#[]⟩):=by rw [Lib.cell_of_heap hblk];rfl
      have f0:=Lib.frozen_of_heap hblk 0
      have f1:=Lib.frozen_of_heap hblk 1
      clear hblk
      go_wp2_with fail
      have g0 : (w1.setCell ⟨w.heap.size,0,none⟩ (.int .i64 2)).cell? ⟨w.heap.size,0,none⟩ = some (.int .i64 2):=by apply World.cell?_setCell_same;exact d0
      have g2 : (w1.setCell ⟨w.heap.size,0,none⟩ (.int .i64 2)).cell? ⟨w.heap.size,1,none⟩ = some (.string ⟨#[]⟩):=by rw [World.cell?_setCell_other _ _ _ _ (by simp)];exact d1
      have g1 : ((w1.setCell ⟨w.heap.size,0,none⟩ (.int .i64 2)).setCell ⟨w.heap.size,1,none⟩ (.string (s.extract 0 nn))).cell? ⟨w.heap.size,1,none⟩ = some (.string (s.extract 0 nn)):=by apply World.cell?_setCell_same;exact g2
      refine bodyPost_ret (v:=.agg #[.int .i64 2,.string (s.extract 0 (nn))]) ?_ rfl ⟨by rw [HF.out],by first | exact (Below.refl _ _).alloc (Nat.le_refl _) _ | exact ((sg.Below.next ((Below.refl _ _).alloc (Nat.le_refl _) _) hb1 (by simp)).setCell (p:=⟨w.heap.size,0,none⟩) (Nat.le_refl _) _).setCell (p:=⟨w.heap.size,1,none⟩) (Nat.le_refl _) _⟩
      simp [results,Try.results45,go_sem,g0,g1]
    rw [if_neg b35,if_pos rfl] at hpf
    by_cases n0 : nw = 0
    · rw [if_pos n0] at hpf
      subst n0
      by_cases b46 : b = 46
      · subst b46
        have T35 : (((s[0]'h0).toNat : Int) == 35) = false:=by rw [hbq];rfl
        have T46 : (((s[0]'h0).toNat : Int) == 46) = true:=by rw [hbq];rfl
        have T36 : (((s[0]'h0).toNat : Int) == 36) = false:=by rw [hbq];rfl
        have T64 : (((s[0]'h0).toNat : Int) == 64) = false:=by rw [hbq];rfl
        have T34 : (((s[0]'h0).toNat : Int) == 34) = false:=by rw [hbq];rfl
        rw [if_pos rfl,if_neg (show ¬ ((46 : UInt8) = 36) by decide),if_pos rfl,if_neg (show ¬ ((46 : UInt8) = 64) by decide),if_pos rfl] at hpf
        by_cases s1 : 1 < s.size
        · have hs1 : (1 : Int) < (s.size : Int):=by omega
          have hlet:=rletter_calls ((s[1]'s1).toNat : Int)
          have hat : Sg.at' Sg.cL (s.data.toList.drop 1) 0 = Sg.cL ((s[1]'s1).toNat : Int):=by
            rw [Sg.drop_head (l:=s.data.toList) (k:=1) (by rw [lst_len];exact s1),getD_byte s 1 s1]
            simp [Sg.at']
          rw [hat] at hsim
          cases hL : Sg.cL ((s[1]'s1).toNat : Int) with
          | true =>
            simp only [hL] at hlet
            rw [hL,if_pos rfl] at hsim
            have hp0 : p1 ≠ 0:=fun e=>by
              have hq:=HP1.out
              rw [Sg.drop_head (l:=s.data.toList) (k:=1) (by rw [lst_len];exact s1),getD_byte s 1 s1] at hq
              simp only [Sg.run] at hq
              rw [if_pos (Sg.LW0 _ hL)] at hq
              omega
            rw [hsim,if_neg hp0,if_neg (by omega)] at hpf
            have HF:=hid hpf
            have hcl : 1 + (p1 : Int) ≤ (s.size : Int):=by omega
            have hw3 : wrap64 (1 + (p1 : Int)) = 1 + (p1 : Int):=IntWalk.wrap64_in _ (by omega)
            clear hL hat
            clear TT hpf hsim hn35 hbq
            go_enter Try.func45,Try.ntmps45
            go_wp2_with fail
            repeat (first
              | ((with_reducible refine (hbl _).mono ?_);rintro e w1 ⟨rfl,rfl⟩;go_wp2_with fail)
              | ((with_reducible refine (hword _).mono ?_);rintro e w1 ⟨rfl,rfl⟩;go_wp2_with fail)
              | ((with_reducible refine (hlet _).mono ?_);rintro e w1 ⟨rfl,rfl⟩;go_wp2_with fail)
              | ((with_reducible refine (hpart _).mono ?_);rintro e w1 ⟨rfl,rfl⟩;go_wp2_with fail)
              | ((with_reducible refine (hword1 _).mono ?_);rintro e w1 ⟨rfl,rfl⟩;go_wp2_with fail)
              | ((with_reducible refine (hnum _).mono ?_);rintro e w1 ⟨rfl,rfl⟩;go_wp2_with fail))
            refine bodyPost_ret (v:=.agg #[.int .i64 4,.string (s.extract 0 (1 + p1))]) ?_ rfl ⟨by rw [HF.out],by first | exact (Below.refl _ _).alloc (Nat.le_refl _) _ | exact ((sg.Below.next ((Below.refl _ _).alloc (Nat.le_refl _) _) hb1 (by simp)).setCell (p:=⟨w.heap.size,0,none⟩) (Nat.le_refl _) _).setCell (p:=⟨w.heap.size,1,none⟩) (Nat.le_refl _) _⟩
            simp [results,Try.results45,go_sem]
          | false =>
            simp only [hL] at hlet
            rw [hL,if_neg Bool.false_ne_true] at hsim
            rw [hsim,if_pos rfl,if_pos rfl] at hpf
            clear hL hat
            by_cases u0 : nu = 0
            · rw [if_pos u0] at hpf
              simp only [show ¬ ((46 : UInt8) = 34) by decide,if_false,if_true] at hpf
              subst u0
              have hpf2 : pf s.data.toList = (13,no):=by rw [hpf];by_cases o0 : no = 0 <;> simp [o0]
              have HF:=hid hpf2
              clear hpf2
              have q1 : decide ((0 : Int) < ((0 : Nat) : Int)) = false:=decide_eq_false (by omega)
              have hcl : (no : Int) ≤ (s.size : Int):=by omega
              clear TT hpf hsim hn35 hbq
              go_enter Try.func45,Try.ntmps45
              go_wp2_with fail
              repeat (first
                | ((with_reducible refine (hbl _).mono ?_);rintro e w1 ⟨rfl,rfl⟩;go_wp2_with fail)
                | ((with_reducible refine (hword _).mono ?_);rintro e w1 ⟨rfl,rfl⟩;go_wp2_with fail)
                | ((with_reducible refine (hlet _).mono ?_);rintro e w1 ⟨rfl,rfl⟩;go_wp2_with fail)
                | ((with_reducible refine (hpart _).mono ?_);rintro e w1 ⟨rfl,rfl⟩;go_wp2_with fail)
                | ((with_reducible refine (hword1 _).mono ?_);rintro e w1 ⟨rfl,rfl⟩;go_wp2_with fail)
                | ((with_reducible refine (hnum _).mono ?_);rintro e w1 ⟨rfl,rfl⟩;go_wp2_with fail))
              ((with_reducible refine (hoper _).mono ?_);rintro e w1 ⟨rfl,hb1⟩)
              have hblk:=(hb1.block w.heap.size (by simp)).trans (World.alloc_heap_new w _)
              have d0 : w1.cell? ⟨w.heap.size,0,none⟩ = some (.int .i64 0):=by rw [Lib.cell_of_heap hblk];rfl
              have d1 : w1.cell? ⟨w.heap.size,1,none⟩ = some (.string ⟨#[]⟩):=by rw [Lib.cell_of_heap hblk];rfl
              have f0:=Lib.frozen_of_heap hblk 0
              have f1:=Lib.frozen_of_heap hblk 1
              clear hblk
              go_wp2_with fail
              have g0 : (w1.setCell ⟨w.heap.size,0,none⟩ (.int .i64 13)).cell? ⟨w.heap.size,0,none⟩ = some (.int .i64 13):=by apply World.cell?_setCell_same;exact d0
              have g2 : (w1.setCell ⟨w.heap.size,0,none⟩ (.int .i64 13)).cell? ⟨w.heap.size,1,none⟩ = some (.string ⟨#[]⟩):=by rw [World.cell?_setCell_other _ _ _ _ (by simp)];exact d1
              have g1 : ((w1.setCell ⟨w.heap.size,0,none⟩ (.int .i64 13)).setCell ⟨w.heap.size,1,none⟩ (.string (s.extract 0 no))).cell? ⟨w.heap.size,1,none⟩ = some (.string (s.extract 0 no)):=by apply World.cell?_setCell_same;exact g2
              refine bodyPost_ret (v:=.agg #[.int .i64 13,.string (s.extract 0 (no))]) ?_ rfl ⟨by rw [HF.out],by first | exact (Below.refl _ _).alloc (Nat.le_refl _) _ | exact ((sg.Below.next ((Below.refl _ _).alloc (Nat.le_refl _) _) hb1 (by simp)).setCell (p:=⟨w.heap.size,0,none⟩) (Nat.le_refl _) _).setCell (p:=⟨w.heap.size,1,none⟩) (Nat.le_refl _) _⟩
              simp [results,Try.results45,go_sem,g0,g1]
            · rw [if_neg u0] at hpf
              have HF:=hid hpf
              have q1 : decide ((0 : Int) < (nu : Int)) = true:=decide_eq_true (by omega)
              have q2 : 0 < nu:=by omega
              have hcl : (nu : Int) ≤ (s.size : Int):=by omega
              clear TT hpf hsim hn35 hbq
              go_enter Try.func45,Try.ntmps45
              go_wp2_with fail
              repeat (first
                | ((with_reducible refine (hbl _).mono ?_);rintro e w1 ⟨rfl,rfl⟩;go_wp2_with fail)
                | ((with_reducible refine (hword _).mono ?_);rintro e w1 ⟨rfl,rfl⟩;go_wp2_with fail)
                | ((with_reducible refine (hlet _).mono ?_);rintro e w1 ⟨rfl,rfl⟩;go_wp2_with fail)
                | ((with_reducible refine (hpart _).mono ?_);rintro e w1 ⟨rfl,rfl⟩;go_wp2_with fail)
                | ((with_reducible refine (hword1 _).mono ?_);rintro e w1 ⟨rfl,rfl⟩;go_wp2_with fail)
                | ((with_reducible refine (hnum _).mono ?_);rintro e w1 ⟨rfl,rfl⟩;go_wp2_with fail))
              refine bodyPost_ret (v:=.agg #[.int .i64 6,.string (s.extract 0 (nu))]) ?_ rfl ⟨by rw [HF.out],by first | exact (Below.refl _ _).alloc (Nat.le_refl _) _ | exact ((sg.Below.next ((Below.refl _ _).alloc (Nat.le_refl _) _) hb1 (by simp)).setCell (p:=⟨w.heap.size,0,none⟩) (Nat.le_refl _) _).setCell (p:=⟨w.heap.size,1,none⟩) (Nat.le_refl _) _⟩
              simp [results,Try.results45,go_sem]
        · have hs1 : decide ((1 : Int) < (s.size : Int)) = false:=decide_eq_false (by omega)
          have hat : Sg.at' Sg.cL (s.data.toList.drop 1) 0 = false:=by unfold Sg.at';rw [List.length_drop,lst_len,decide_eq_false (by omega)];rfl
          rw [hat,if_neg Bool.false_ne_true] at hsim
          rw [hsim,if_pos rfl,if_pos rfl] at hpf
          have hlet : ∀ w : World,True:=fun _=>trivial
          clear hat
          by_cases u0 : nu = 0
          · rw [if_pos u0] at hpf
            simp only [show ¬ ((46 : UInt8) = 34) by decide,if_false,if_true] at hpf
            subst u0
            have hpf2 : pf s.data.toList = (13,no):=by rw [hpf];by_cases o0 : no = 0 <;> simp [o0]
            have HF:=hid hpf2
            clear hpf2
            have q1 : decide ((0 : Int) < ((0 : Nat) : Int)) = false:=decide_eq_false (by omega)
            have hcl : (no : Int) ≤ (s.size : Int):=by omega
            clear TT hpf hsim hn35 hbq
            go_enter Try.func45,Try.ntmps45
            go_wp2_with fail
            repeat (first
              | ((with_reducible refine (hbl _).mono ?_);rintro e w1 ⟨rfl,rfl⟩;go_wp2_with fail)
              | ((with_reducible refine (hword _).mono ?_);rintro e w1 ⟨rfl,rfl⟩;go_wp2_with fail)
              | ((with_reducible refine (hlet _).mono ?_);rintro e w1 ⟨rfl,rfl⟩;go_wp2_with fail)
              | ((with_reducible refine (hpart _).mono ?_);rintro e w1 ⟨rfl,rfl⟩;go_wp2_with fail)
              | ((with_reducible refine (hword1 _).mono ?_);rintro e w1 ⟨rfl,rfl⟩;go_wp2_with fail)
              | ((with_reducible refine (hnum _).mono ?_);rintro e w1 ⟨rfl,rfl⟩;go_wp2_with fail))
            ((with_reducible refine (hoper _).mono ?_);rintro e w1 ⟨rfl,hb1⟩)
            have hblk:=(hb1.block w.heap.size (by simp)).trans (World.alloc_heap_new w _)
            have d0 : w1.cell? ⟨w.heap.size,0,none⟩ = some (.int .i64 0):=by rw [Lib.cell_of_heap hblk];rfl
            have d1 : w1.cell? ⟨w.heap.size,1,none⟩ = some (.string ⟨#[]⟩):=by rw [Lib.cell_of_heap hblk];rfl
            have f0:=Lib.frozen_of_heap hblk 0
            have f1:=Lib.frozen_of_heap hblk 1
            clear hblk
            go_wp2_with fail
            have g0 : (w1.setCell ⟨w.heap.size,0,none⟩ (.int .i64 13)).cell? ⟨w.heap.size,0,none⟩ = some (.int .i64 13):=by apply World.cell?_setCell_same;exact d0
            have g2 : (w1.setCell ⟨w.heap.size,0,none⟩ (.int .i64 13)).cell? ⟨w.heap.size,1,none⟩ = some (.string ⟨#[]⟩):=by rw [World.cell?_setCell_other _ _ _ _ (by simp)];exact d1
            have g1 : ((w1.setCell ⟨w.heap.size,0,none⟩ (.int .i64 13)).setCell ⟨w.heap.size,1,none⟩ (.string (s.extract 0 no))).cell? ⟨w.heap.size,1,none⟩ = some (.string (s.extract 0 no)):=by apply World.cell?_setCell_same;exact g2
            refine bodyPost_ret (v:=.agg #[.int .i64 13,.string (s.extract 0 (no))]) ?_ rfl ⟨by rw [HF.out],by first | exact (Below.refl _ _).alloc (Nat.le_refl _) _ | exact ((sg.Below.next ((Below.refl _ _).alloc (Nat.le_refl _) _) hb1 (by simp)).setCell (p:=⟨w.heap.size,0,none⟩) (Nat.le_refl _) _).setCell (p:=⟨w.heap.size,1,none⟩) (Nat.le_refl _) _⟩
            simp [results,Try.results45,go_sem,g0,g1]
          · rw [if_neg u0] at hpf
            have HF:=hid hpf
            have q1 : decide ((0 : Int) < (nu : Int)) = true:=decide_eq_true (by omega)
            have q2 : 0 < nu:=by omega
            have hcl : (nu : Int) ≤ (s.size : Int):=by omega
            clear TT hpf hsim hn35 hbq
            go_enter Try.func45,Try.ntmps45
            go_wp2_with fail
            repeat (first
              | ((with_reducible refine (hbl _).mono ?_);rintro e w1 ⟨rfl,rfl⟩;go_wp2_with fail)
              | ((with_reducible refine (hword _).mono ?_);rintro e w1 ⟨rfl,rfl⟩;go_wp2_with fail)
              | ((with_reducible refine (hlet _).mono ?_);rintro e w1 ⟨rfl,rfl⟩;go_wp2_with fail)
              | ((with_reducible refine (hpart _).mono ?_);rintro e w1 ⟨rfl,rfl⟩;go_wp2_with fail)
              | ((with_reducible refine (hword1 _).mono ?_);rintro e w1 ⟨rfl,rfl⟩;go_wp2_with fail)
              | ((with_reducible refine (hnum _).mono ?_);rintro e w1 ⟨rfl,rfl⟩;go_wp2_with fail))
            refine bodyPost_ret (v:=.agg #[.int .i64 6,.string (s.extract 0 (nu))]) ?_ rfl ⟨by rw [HF.out],by first | exact (Below.refl _ _).alloc (Nat.le_refl _) _ | exact ((sg.Below.next ((Below.refl _ _).alloc (Nat.le_refl _) _) hb1 (by simp)).setCell (p:=⟨w.heap.size,0,none⟩) (Nat.le_refl _) _).setCell (p:=⟨w.heap.size,1,none⟩) (Nat.le_refl _) _⟩
            simp [results,Try.results45,go_sem]
      rw [if_neg b46,if_pos rfl] at hpf
      have hlet : ∀ w : World,True:=fun _=>trivial
      by_cases b36 : b = 36
      · subst b36
        have T35 : (((s[0]'h0).toNat : Int) == 35) = false:=by rw [hbq];rfl
        have T46 : (((s[0]'h0).toNat : Int) == 46) = false:=by rw [hbq];rfl
        have T36 : (((s[0]'h0).toNat : Int) == 36) = true:=by rw [hbq];rfl
        have T64 : (((s[0]'h0).toNat : Int) == 64) = false:=by rw [hbq];rfl
        have T34 : (((s[0]'h0).toNat : Int) == 34) = false:=by rw [hbq];rfl
        rw [if_pos rfl,if_neg (show ¬ ((36 : UInt8) = 64) by decide),if_pos rfl] at hpf
        by_cases v0 : w1 = 0
        · rw [if_pos v0,if_pos rfl] at hpf
          subst v0
          by_cases u0 : nu = 0
          · rw [if_pos u0] at hpf
            simp only [show ¬ ((36 : UInt8) = 34) by decide,if_false,if_true] at hpf
            subst u0
            have hpf2 : pf s.data.toList = (13,no):=by rw [hpf];by_cases o0 : no = 0 <;> simp [o0]
            have HF:=hid hpf2
            clear hpf2
            have q1 : decide ((0 : Int) < ((0 : Nat) : Int)) = false:=decide_eq_false (by omega)
            have hcl : (no : Int) ≤ (s.size : Int):=by omega
            clear TT hpf hsim hn35 hbq
            go_enter Try.func45,Try.ntmps45
            go_wp2_with fail
            repeat (first
              | ((with_reducible refine (hbl _).mono ?_);rintro e w1 ⟨rfl,rfl⟩;go_wp2_with fail)
              | ((with_reducible refine (hword _).mono ?_);rintro e w1 ⟨rfl,rfl⟩;go_wp2_with fail)
              | ((with_reducible refine (hlet _).mono ?_);rintro e w1 ⟨rfl,rfl⟩;go_wp2_with fail)
              | ((with_reducible refine (hpart _).mono ?_);rintro e w1 ⟨rfl,rfl⟩;go_wp2_with fail)
              | ((with_reducible refine (hword1 _).mono ?_);rintro e w1 ⟨rfl,rfl⟩;go_wp2_with fail)
              | ((with_reducible refine (hnum _).mono ?_);rintro e w1 ⟨rfl,rfl⟩;go_wp2_with fail))
            ((with_reducible refine (hoper _).mono ?_);rintro e w1 ⟨rfl,hb1⟩)
            have hblk:=(hb1.block w.heap.size (by simp)).trans (World.alloc_heap_new w _)
            have d0 : w1.cell? ⟨w.heap.size,0,none⟩ = some (.int .i64 0):=by rw [Lib.cell_of_heap hblk];rfl
            have d1 : w1.cell? ⟨w.heap.size,1,none⟩ = some (.string ⟨#[]⟩):=by rw [Lib.cell_of_heap hblk];rfl
            have f0:=Lib.frozen_of_heap hblk 0
            have f1:=Lib.frozen_of_heap hblk 1
            clear hblk
            go_wp2_with fail
            have g0 : (w1.setCell ⟨w.heap.size,0,none⟩ (.int .i64 13)).cell? ⟨w.heap.size,0,none⟩ = some (.int .i64 13):=by apply World.cell?_setCell_same;exact d0
            have g2 : (w1.setCell ⟨w.heap.size,0,none⟩ (.int .i64 13)).cell? ⟨w.heap.size,1,none⟩ = some (.string ⟨#[]⟩):=by rw [World.cell?_setCell_other _ _ _ _ (by simp)];exact d1
            have g1 : ((w1.setCell ⟨w.heap.size,0,none⟩ (.int .i64 13)).setCell ⟨w.heap.size,1,none⟩ (.string (s.extract 0 no))).cell? ⟨w.heap.size,1,none⟩ = some (.string (s.extract 0 no)):=by apply World.cell?_setCell_same;exact g2
            refine bodyPost_ret (v:=.agg #[.int .i64 13,.string (s.extract 0 (no))]) ?_ rfl ⟨by rw [HF.out],by first | exact (Below.refl _ _).alloc (Nat.le_refl _) _ | exact ((sg.Below.next ((Below.refl _ _).alloc (Nat.le_refl _) _) hb1 (by simp)).setCell (p:=⟨w.heap.size,0,none⟩) (Nat.le_refl _) _).setCell (p:=⟨w.heap.size,1,none⟩) (Nat.le_refl _) _⟩
            simp [results,Try.results45,go_sem,g0,g1]
          · rw [if_neg u0] at hpf
            have HF:=hid hpf
            have q1 : decide ((0 : Int) < (nu : Int)) = true:=decide_eq_true (by omega)
            have q2 : 0 < nu:=by omega
            have hcl : (nu : Int) ≤ (s.size : Int):=by omega
            clear TT hpf hsim hn35 hbq
            go_enter Try.func45,Try.ntmps45
            go_wp2_with fail
            repeat (first
              | ((with_reducible refine (hbl _).mono ?_);rintro e w1 ⟨rfl,rfl⟩;go_wp2_with fail)
              | ((with_reducible refine (hword _).mono ?_);rintro e w1 ⟨rfl,rfl⟩;go_wp2_with fail)
              | ((with_reducible refine (hlet _).mono ?_);rintro e w1 ⟨rfl,rfl⟩;go_wp2_with fail)
              | ((with_reducible refine (hpart _).mono ?_);rintro e w1 ⟨rfl,rfl⟩;go_wp2_with fail)
              | ((with_reducible refine (hword1 _).mono ?_);rintro e w1 ⟨rfl,rfl⟩;go_wp2_with fail)
              | ((with_reducible refine (hnum _).mono ?_);rintro e w1 ⟨rfl,rfl⟩;go_wp2_with fail))
            refine bodyPost_ret (v:=.agg #[.int .i64 6,.string (s.extract 0 (nu))]) ?_ rfl ⟨by rw [HF.out],by first | exact (Below.refl _ _).alloc (Nat.le_refl _) _ | exact ((sg.Below.next ((Below.refl _ _).alloc (Nat.le_refl _) _) hb1 (by simp)).setCell (p:=⟨w.heap.size,0,none⟩) (Nat.le_refl _) _).setCell (p:=⟨w.heap.size,1,none⟩) (Nat.le_refl _) _⟩
            simp [results,Try.results45,go_sem]
        · rw [if_neg v0,if_neg (by omega)] at hpf
          have HF:=hid hpf
          have q1 : decide ((0 : Int) < (w1 : Int)) = true:=decide_eq_true (by omega)
          have q2 : 0 < w1:=by omega
          have hcl : 1 + (w1 : Int) ≤ (s.size : Int):=by omega
          have hw3 : wrap64 (1 + (w1 : Int)) = 1 + (w1 : Int):=IntWalk.wrap64_in _ (by omega)
          clear TT hpf hsim hn35 hbq
          go_enter Try.func45,Try.ntmps45
          go_wp2_with fail
          repeat (first
            | ((with_reducible refine (hbl _).mono ?_);rintro e w1 ⟨rfl,rfl⟩;go_wp2_with fail)
            | ((with_reducible refine (hword _).mono ?_);rintro e w1 ⟨rfl,rfl⟩;go_wp2_with fail)
            | ((with_reducible refine (hlet _).mono ?_);rintro e w1 ⟨rfl,rfl⟩;go_wp2_with fail)
            | ((with_reducible refine (hpart _).mono ?_);rintro e w1 ⟨rfl,rfl⟩;go_wp2_with fail)
            | ((with_reducible refine (hword1 _).mono ?_);rintro e w1 ⟨rfl,rfl⟩;go_wp2_with fail)
            | ((with_reducible refine (hnum _).mono ?_);rintro e w1 ⟨rfl,rfl⟩;go_wp2_with fail))
          refine bodyPost_ret (v:=.agg #[.int .i64 5,.string (s.extract 0 (1 + w1))]) ?_ rfl ⟨by rw [HF.out],by first | exact (Below.refl _ _).alloc (Nat.le_refl _) _ | exact ((sg.Below.next ((Below.refl _ _).alloc (Nat.le_refl _) _) hb1 (by simp)).setCell (p:=⟨w.heap.size,0,none⟩) (Nat.le_refl _) _).setCell (p:=⟨w.heap.size,1,none⟩) (Nat.le_refl _) _⟩
          simp [results,Try.results45,go_sem]
      rw [if_neg b36,if_pos rfl] at hpf
      by_cases b64 : b = 64
      · subst b64
        have T35 : (((s[0]'h0).toNat : Int) == 35) = false:=by rw [hbq];rfl
        have T46 : (((s[0]'h0).toNat : Int) == 46) = false:=by rw [hbq];rfl
        have T36 : (((s[0]'h0).toNat : Int) == 36) = false:=by rw [hbq];rfl
        have T64 : (((s[0]'h0).toNat : Int) == 64) = true:=by rw [hbq];rfl
        have T34 : (((s[0]'h0).toNat : Int) == 34) = false:=by rw [hbq];rfl
        rw [if_pos rfl] at hpf
        by_cases v0 : p1 = 0
        · rw [if_pos v0,if_pos rfl] at hpf
          subst v0
          by_cases u0 : nu = 0
          · rw [if_pos u0] at hpf
            simp only [show ¬ ((64 : UInt8) = 34) by decide,if_false,if_true] at hpf
            subst u0
            have hpf2 : pf s.data.toList = (13,no):=by rw [hpf];by_cases o0 : no = 0 <;> simp [o0]
            have HF:=hid hpf2
            clear hpf2
            have q1 : decide ((0 : Int) < ((0 : Nat) : Int)) = false:=decide_eq_false (by omega)
            have hcl : (no : Int) ≤ (s.size : Int):=by omega
            clear TT hpf hsim hn35 hbq
            go_enter Try.func45,Try.ntmps45
            go_wp2_with fail
            repeat (first
              | ((with_reducible refine (hbl _).mono ?_);rintro e w1 ⟨rfl,rfl⟩;go_wp2_with fail)
              | ((with_reducible refine (hword _).mono ?_);rintro e w1 ⟨rfl,rfl⟩;go_wp2_with fail)
              | ((with_reducible refine (hlet _).mono ?_);rintro e w1 ⟨rfl,rfl⟩;go_wp2_with fail)
              | ((with_reducible refine (hpart _).mono ?_);rintro e w1 ⟨rfl,rfl⟩;go_wp2_with fail)
              | ((with_reducible refine (hword1 _).mono ?_);rintro e w1 ⟨rfl,rfl⟩;go_wp2_with fail)
              | ((with_reducible refine (hnum _).mono ?_);rintro e w1 ⟨rfl,rfl⟩;go_wp2_with fail))
            ((with_reducible refine (hoper _).mono ?_);rintro e w1 ⟨rfl,hb1⟩)
            have hblk:=(hb1.block w.heap.size (by simp)).trans (World.alloc_heap_new w _)
            have d0 : w1.cell? ⟨w.heap.size,0,none⟩ = some (.int .i64 0):=by rw [Lib.cell_of_heap hblk];rfl
            have d1 : w1.cell? ⟨w.heap.size,1,none⟩ = some (.string ⟨#[]⟩):=by rw [Lib.cell_of_heap hblk];rfl
            have f0:=Lib.frozen_of_heap hblk 0
            have f1:=Lib.frozen_of_heap hblk 1
            clear hblk
            go_wp2_with fail
            have g0 : (w1.setCell ⟨w.heap.size,0,none⟩ (.int .i64 13)).cell? ⟨w.heap.size,0,none⟩ = some (.int .i64 13):=by apply World.cell?_setCell_same;exact d0
            have g2 : (w1.setCell ⟨w.heap.size,0,none⟩ (.int .i64 13)).cell? ⟨w.heap.size,1,none⟩ = some (.string ⟨#[]⟩):=by rw [World.cell?_setCell_other _ _ _ _ (by simp)];exact d1
            have g1 : ((w1.setCell ⟨w.heap.size,0,none⟩ (.int .i64 13)).setCell ⟨w.heap.size,1,none⟩ (.string (s.extract 0 no))).cell? ⟨w.heap.size,1,none⟩ = some (.string (s.extract 0 no)):=by apply World.cell?_setCell_same;exact g2
            refine bodyPost_ret (v:=.agg #[.int .i64 13,.string (s.extract 0 (no))]) ?_ rfl ⟨by rw [HF.out],by first | exact (Below.refl _ _).alloc (Nat.le_refl _) _ | exact ((sg.Below.next ((Below.refl _ _).alloc (Nat.le_refl _) _) hb1 (by simp)).setCell (p:=⟨w.heap.size,0,none⟩) (Nat.le_refl _) _).setCell (p:=⟨w.heap.size,1,none⟩) (Nat.le_refl _) _⟩
            simp [results,Try.results45,go_sem,g0,g1]
          · rw [if_neg u0] at hpf
            have HF:=hid hpf
            have q1 : decide ((0 : Int) < (nu : Int)) = true:=decide_eq_true (by omega)
            have q2 : 0 < nu:=by omega
            have hcl : (nu : Int) ≤ (s.size : Int):=by omega
            clear TT hpf hsim hn35 hbq
            go_enter Try.func45,Try.ntmps45
            go_wp2_with fail
            repeat (first
              | ((with_reducible refine (hbl _).mono ?_);rintro e w1 ⟨rfl,rfl⟩;go_wp2_with fail)
              | ((with_reducible refine (hword _).mono ?_);rintro e w1 ⟨rfl,rfl⟩;go_wp2_with fail)
              | ((with_reducible refine (hlet _).mono ?_);rintro e w1 ⟨rfl,rfl⟩;go_wp2_with fail)
              | ((with_reducible refine (hpart _).mono ?_);rintro e w1 ⟨rfl,rfl⟩;go_wp2_with fail)
              | ((with_reducible refine (hword1 _).mono ?_);rintro e w1 ⟨rfl,rfl⟩;go_wp2_with fail)
              | ((with_reducible refine (hnum _).mono ?_);rintro e w1 ⟨rfl,rfl⟩;go_wp2_with fail))
            refine bodyPost_ret (v:=.agg #[.int .i64 6,.string (s.extract 0 (nu))]) ?_ rfl ⟨by rw [HF.out],by first | exact (Below.refl _ _).alloc (Nat.le_refl _) _ | exact ((sg.Below.next ((Below.refl _ _).alloc (Nat.le_refl _) _) hb1 (by simp)).setCell (p:=⟨w.heap.size,0,none⟩) (Nat.le_refl _) _).setCell (p:=⟨w.heap.size,1,none⟩) (Nat.le_refl _) _⟩
            simp [results,Try.results45,go_sem]
        · rw [if_neg v0,if_neg (by omega)] at hpf
          have HF:=hid hpf
          have q1 : decide ((0 : Int) < (p1 : Int)) = true:=decide_eq_true (by omega)
          have q2 : 0 < p1:=by omega
          have hcl : 1 + (p1 : Int) ≤ (s.size : Int):=by omega
          have hw3 : wrap64 (1 + (p1 : Int)) = 1 + (p1 : Int):=IntWalk.wrap64_in _ (by omega)
          clear TT hpf hsim hn35 hbq
          go_enter Try.func45,Try.ntmps45
          go_wp2_with fail
          repeat (first
            | ((with_reducible refine (hbl _).mono ?_);rintro e w1 ⟨rfl,rfl⟩;go_wp2_with fail)
            | ((with_reducible refine (hword _).mono ?_);rintro e w1 ⟨rfl,rfl⟩;go_wp2_with fail)
            | ((with_reducible refine (hlet _).mono ?_);rintro e w1 ⟨rfl,rfl⟩;go_wp2_with fail)
            | ((with_reducible refine (hpart _).mono ?_);rintro e w1 ⟨rfl,rfl⟩;go_wp2_with fail)
            | ((with_reducible refine (hword1 _).mono ?_);rintro e w1 ⟨rfl,rfl⟩;go_wp2_with fail)
            | ((with_reducible refine (hnum _).mono ?_);rintro e w1 ⟨rfl,rfl⟩;go_wp2_with fail))
          refine bodyPost_ret (v:=.agg #[.int .i64 12,.string (s.extract 0 (1 + p1))]) ?_ rfl ⟨by rw [HF.out],by first | exact (Below.refl _ _).alloc (Nat.le_refl _) _ | exact ((sg.Below.next ((Below.refl _ _).alloc (Nat.le_refl _) _) hb1 (by simp)).setCell (p:=⟨w.heap.size,0,none⟩) (Nat.le_refl _) _).setCell (p:=⟨w.heap.size,1,none⟩) (Nat.le_refl _) _⟩
          simp [results,Try.results45,go_sem]
      rw [if_neg b64,if_pos rfl] at hpf
      have T35 : (((s[0]'h0).toNat : Int) == 35) = false:=by rw [hbq];exact (byte_eq b 35 (by omega)).trans (decide_eq_false b35)
      have T46 : (((s[0]'h0).toNat : Int) == 46) = false:=by rw [hbq];exact (byte_eq b 46 (by omega)).trans (decide_eq_false b46)
      have T36 : (((s[0]'h0).toNat : Int) == 36) = false:=by rw [hbq];exact (byte_eq b 36 (by omega)).trans (decide_eq_false b36)
      have T64 : (((s[0]'h0).toNat : Int) == 64) = false:=by rw [hbq];exact (byte_eq b 64 (by omega)).trans (decide_eq_false b64)
      by_cases u0 : nu = 0
      · rw [if_pos u0] at hpf
        by_cases b34 : b = 34
        · rw [if_pos b34,if_neg (by decide)] at hpf
          have T34 : (((s[0]'h0).toNat : Int) == 34) = true:=by rw [hbq,b34];rfl
          have HF:=hid hpf
          subst u0
          clear TT hpf hsim hn35 hbq
          go_enter Try.func45,Try.ntmps45
          go_wp2_with fail
          repeat (first
            | ((with_reducible refine (hbl _).mono ?_);rintro e w1 ⟨rfl,rfl⟩;go_wp2_with fail)
            | ((with_reducible refine (hword _).mono ?_);rintro e w1 ⟨rfl,rfl⟩;go_wp2_with fail)
            | ((with_reducible refine (hlet _).mono ?_);rintro e w1 ⟨rfl,rfl⟩;go_wp2_with fail)
            | ((with_reducible refine (hpart _).mono ?_);rintro e w1 ⟨rfl,rfl⟩;go_wp2_with fail)
            | ((with_reducible refine (hword1 _).mono ?_);rintro e w1 ⟨rfl,rfl⟩;go_wp2_with fail)
            | ((with_reducible refine (hnum _).mono ?_);rintro e w1 ⟨rfl,rfl⟩;go_wp2_with fail))
          refine bodyPost_ret (v:=.agg #[.int .i64 7,.string (s.extract 0 (1))]) ?_ rfl ⟨by rw [HF.out],by first | exact (Below.refl _ _).alloc (Nat.le_refl _) _ | exact ((sg.Below.next ((Below.refl _ _).alloc (Nat.le_refl _) _) hb1 (by simp)).setCell (p:=⟨w.heap.size,0,none⟩) (Nat.le_refl _) _).setCell (p:=⟨w.heap.size,1,none⟩) (Nat.le_refl _) _⟩
          simp [results,Try.results45,go_sem]
        rw [if_neg b34,if_pos rfl] at hpf
        have T34 : (((s[0]'h0).toNat : Int) == 34) = false:=by rw [hbq];exact (byte_eq b 34 (by omega)).trans (decide_eq_false b34)
        subst u0
        have hpf2 : pf s.data.toList = (13,no):=by rw [hpf];by_cases o0 : no = 0 <;> simp [o0]
        have HF:=hid hpf2
        clear hpf2
        have q1 : decide ((0 : Int) < ((0 : Nat) : Int)) = false:=decide_eq_false (by omega)
        have hcl : (no : Int) ≤ (s.size : Int):=by omega
        clear TT hpf hsim hn35 hbq
        go_enter Try.func45,Try.ntmps45
        go_wp2_with fail
        repeat (first
          | ((with_reducible refine (hbl _).mono ?_);rintro e w1 ⟨rfl,rfl⟩;go_wp2_with fail)
          | ((with_reducible refine (hword _).mono ?_);rintro e w1 ⟨rfl,rfl⟩;go_wp2_with fail)
          | ((with_reducible refine (hlet _).mono ?_);rintro e w1 ⟨rfl,rfl⟩;go_wp2_with fail)
          | ((with_reducible refine (hpart _).mono ?_);rintro e w1 ⟨rfl,rfl⟩;go_wp2_with fail)
          | ((with_reducible refine (hword1 _).mono ?_);rintro e w1 ⟨rfl,rfl⟩;go_wp2_with fail)
          | ((with_reducible refine (hnum _).mono ?_);rintro e w1 ⟨rfl,rfl⟩;go_wp2_with fail))
        ((with_reducible refine (hoper _).mono ?_);rintro e w1 ⟨rfl,hb1⟩)
        have hblk:=(hb1.block w.heap.size (by simp)).trans (World.alloc_heap_new w _)
        have d0 : w1.cell? ⟨w.heap.size,0,none⟩ = some (.int .i64 0):=by rw [Lib.cell_of_heap hblk];rfl
        have d1 : w1.cell? ⟨w.heap.size,1,none⟩ = some (.string ⟨#[]⟩):=by rw [Lib.cell_of_heap hblk];rfl
        have f0:=Lib.frozen_of_heap hblk 0
        have f1:=Lib.frozen_of_heap hblk 1
        clear hblk
        go_wp2_with fail
        have g0 : (w1.setCell ⟨w.heap.size,0,none⟩ (.int .i64 13)).cell? ⟨w.heap.size,0,none⟩ = some (.int .i64 13):=by apply World.cell?_setCell_same;exact d0
        have g2 : (w1.setCell ⟨w.heap.size,0,none⟩ (.int .i64 13)).cell? ⟨w.heap.size,1,none⟩ = some (.string ⟨#[]⟩):=by rw [World.cell?_setCell_other _ _ _ _ (by simp)];exact d1
        have g1 : ((w1.setCell ⟨w.heap.size,0,none⟩ (.int .i64 13)).setCell ⟨w.heap.size,1,none⟩ (.string (s.extract 0 no))).cell? ⟨w.heap.size,1,none⟩ = some (.string (s.extract 0 no)):=by apply World.cell?_setCell_same;exact g2
        refine bodyPost_ret (v:=.agg #[.int .i64 13,.string (s.extract 0 (no))]) ?_ rfl ⟨by rw [HF.out],by first | exact (Below.refl _ _).alloc (Nat.le_refl _) _ | exact ((sg.Below.next ((Below.refl _ _).alloc (Nat.le_refl _) _) hb1 (by simp)).setCell (p:=⟨w.heap.size,0,none⟩) (Nat.le_refl _) _).setCell (p:=⟨w.heap.size,1,none⟩) (Nat.le_refl _) _⟩
        simp [results,Try.results45,go_sem,g0,g1]
      · rw [if_neg u0] at hpf
        have HF:=hid hpf
        have q1 : decide ((0 : Int) < (nu : Int)) = true:=decide_eq_true (by omega)
        have q2 : 0 < nu:=by omega
        have hcl : (nu : Int) ≤ (s.size : Int):=by omega
        clear TT hpf hsim hn35 hbq
        go_enter Try.func45,Try.ntmps45
        go_wp2_with fail
        repeat (first
          | ((with_reducible refine (hbl _).mono ?_);rintro e w1 ⟨rfl,rfl⟩;go_wp2_with fail)
          | ((with_reducible refine (hword _).mono ?_);rintro e w1 ⟨rfl,rfl⟩;go_wp2_with fail)
          | ((with_reducible refine (hlet _).mono ?_);rintro e w1 ⟨rfl,rfl⟩;go_wp2_with fail)
          | ((with_reducible refine (hpart _).mono ?_);rintro e w1 ⟨rfl,rfl⟩;go_wp2_with fail)
          | ((with_reducible refine (hword1 _).mono ?_);rintro e w1 ⟨rfl,rfl⟩;go_wp2_with fail)
          | ((with_reducible refine (hnum _).mono ?_);rintro e w1 ⟨rfl,rfl⟩;go_wp2_with fail))
        refine bodyPost_ret (v:=.agg #[.int .i64 6,.string (s.extract 0 (nu))]) ?_ rfl ⟨by rw [HF.out],by first | exact (Below.refl _ _).alloc (Nat.le_refl _) _ | exact ((sg.Below.next ((Below.refl _ _).alloc (Nat.le_refl _) _) hb1 (by simp)).setCell (p:=⟨w.heap.size,0,none⟩) (Nat.le_refl _) _).setCell (p:=⟨w.heap.size,1,none⟩) (Nat.le_refl _) _⟩
        simp [results,Try.results45,go_sem]
    · rw [if_neg n0] at hpf
      have HF:=hid hpf
      have q1 : decide ((0 : Int) < (nw : Int)) = true:=decide_eq_true (by omega)
      have q2 : 0 < nw:=by omega
      have hcl : (nw : Int) ≤ (s.size : Int):=by omega
      have hlet : ∀ w : World,True:=fun _=>trivial
      have T35 : (((s[0]'h0).toNat : Int) == 35) = false:=by rw [hbq];exact (byte_eq b 35 (by omega)).trans (decide_eq_false b35)
      clear TT hpf hsim hn35 hbq
      go_enter Try.func45,Try.ntmps45
      go_wp2_with fail
      repeat (first
        | ((with_reducible refine (hbl _).mono ?_);rintro e w1 ⟨rfl,rfl⟩;go_wp2_with fail)
        | ((with_reducible refine (hword _).mono ?_);rintro e w1 ⟨rfl,rfl⟩;go_wp2_with fail)
        | ((with_reducible refine (hlet _).mono ?_);rintro e w1 ⟨rfl,rfl⟩;go_wp2_with fail)
        | ((with_reducible refine (hpart _).mono ?_);rintro e w1 ⟨rfl,rfl⟩;go_wp2_with fail)
        | ((with_reducible refine (hword1 _).mono ?_);rintro e w1 ⟨rfl,rfl⟩;go_wp2_with fail)
        | ((with_reducible refine (hnum _).mono ?_);rintro e w1 ⟨rfl,rfl⟩;go_wp2_with fail))
      refine bodyPost_ret (v:=.agg #[.int .i64 3,.string (s.extract 0 (nw))]) ?_ rfl ⟨by rw [HF.out],by first | exact (Below.refl _ _).alloc (Nat.le_refl _) _ | exact ((sg.Below.next ((Below.refl _ _).alloc (Nat.le_refl _) _) hb1 (by simp)).setCell (p:=⟨w.heap.size,0,none⟩) (Nat.le_refl _) _).setCell (p:=⟨w.heap.size,1,none⟩) (Nat.le_refl _) _⟩
      simp [results,Try.results45,go_sem]
end Go.Proofs.Ythadnhpkeljdoaa.lx
namespace Go.Proofs.Ythadnhpkeljdoaa.Lx
open Go.Lib (hid)
open Go.RowKit (wrap64)
def brs (y : Lex) : List Int:=((y.below ++ [y.top]).drop 1).map (·.br)
def Up (y : Lex) : Prop:=∀ z ∈ y.below,z.text = true
def popped (y : Lex) : Lex:=⟨y.below.getLastD ⟨false,0⟩,y.below.dropLast⟩
theorem brs_length (y : Lex) : (brs y).length = y.below.length:=by simp [brs]
theorem brs_nil {y : Lex} (h : y.below = []) : brs y = []:=by simp [brs,h]
theorem snoc_of {α : Type} (l : List α) (d : α) (h : l ≠ []) : l = l.dropLast ++ [l.getLastD d]:=by
  have:=(List.dropLast_concat_getLast h).symm
  rw [show l.getLastD d = l.getLast h by rw [List.getLastD_eq_getLast?,List.getLast?_eq_some_getLast h];rfl]
  exact this
theorem brs_pop {y : Lex} (h : y.below ≠ []) : brs y = brs (popped y) ++ [y.top.br]:=by
  have:=snoc_of y.below ⟨false,0⟩ h
  unfold brs popped
  simp only
  rw [← this]
  cases hb : y.below with
  | nil=>exact absurd hb h
  | cons a r=>simp
theorem brs_push (y : Lex) : brs ⟨⟨false,0⟩,y.below ++ [y.top]⟩ = brs y ++ [0]:=by
  unfold brs
  simp only
  cases hb : y.below with
  | nil=>simp
  | cons a r=>simp
theorem brs_text (y : Lex) (t : Bool) : brs { y with top:={ y.top with text:=t } } = brs y:=by
  unfold brs
  simp only
  cases hb : y.below with
  | nil=>simp
  | cons a r=>simp
theorem brs_set {y : Lex} (h : y.below ≠ []) (n : Int) : brs { y with top:={ y.top with br:=n } } = brs (popped y) ++ [n]:=brs_pop (y:={ y with top:={ y.top with br:=n } }) h
theorem brs_low {y : Lex} (h : y.below = []) (n : Int) : brs { y with top:={ y.top with br:=n } } = brs y:=by rw [brs_nil h,brs_nil (y:={ y with top:={ y.top with br:=n } }) h]
theorem Up.pop {y : Lex} (h : Up y) : Up (popped y):=fun z hz=>h z (List.dropLast_subset _ hz)
theorem Up.last {y : Lex} (h : Up y) (hn : y.below ≠ []) : (popped y).top.text = true:=by
  refine h _ ?_
  have:=snoc_of y.below ⟨false,0⟩ hn
  rw [this]
  unfold popped
  simp
theorem Up.push {y : Lex} (h : Up y) (ht : y.top.text = true) : Up ⟨⟨false,0⟩,y.below ++ [y.top]⟩:=by
  intro z hz
  rcases List.mem_append.1 hz with hz | hz
  · exact h z hz
  · rw [List.mem_singleton.1 hz];exact ht
theorem up_start : Up start:=fun z hz=>absurd hz (by simp [start])
theorem find_c_out (r : List UInt8) : find outside (41 :: r) = some (13,1):=rfl
theorem kinds_outside : ∀ e ∈ outside,e.1 ≠ 8 ∧ e.1 ≠ 9 ∧ e.1 ≠ 10 ∧ e.1 ≠ 11:=by
  intro e he
  simp only [outside,List.mem_cons,List.not_mem_nil,or_false] at he
  rcases he with rfl | rfl | rfl | rfl | rfl | rfl | rfl | rfl | rfl <;> exact ⟨by decide,by decide,by decide,by decide⟩
end Go.Proofs.Ythadnhpkeljdoaa.Lx
namespace Go.Proofs.Ythadnhpkeljdoaa.lx
open Go.Lib (hid)
open Lx (find outside brs Up popped tried next turn)
theorem pf_none {l : List UInt8} : (pf l).2 = 0 ↔ find outside l = none:=by
  unfold pf
  cases h : find outside l with
  | none=>simp
  | some p =>
    have:=Lx.find_some h
    simp only [Option.getD_some,reduceCtorEq,iff_false]
    exact this.1
theorem pf_some {l : List UInt8} (h : (pf l).2 ≠ 0) : find outside l = some ((pf l).1,(pf l).2):=by
  unfold pf at h ⊢
  cases hf : find outside l with
  | none=>rw [hf] at h;simp at h
  | some p=>rfl
theorem pf_kind {l : List UInt8} : (pf l).1 ≠ 8 ∧ (pf l).1 ≠ 9 ∧ (pf l).1 ≠ 10 ∧ (pf l).1 ≠ 11:=by
  unfold pf
  cases hf : find outside l with
  | none=>exact ⟨by decide,by decide,by decide,by decide⟩
  | some p =>
    obtain ⟨_,e,he,h1,_⟩:=Lx.find_some hf
    have:=Lx.kinds_outside e he
    rw [h1] at this
    exact this
theorem pf_le (l : List UInt8) : (pf l).2 ≤ l.length:=by
  by_cases h : (pf l).2 = 0
  · omega
  · obtain ⟨_,e,he,_,h1⟩:=Lx.find_some (pf_some h)
    rw [← h1]
    exact Lx.good_outside e he l
theorem find_tried {y : Lx.Lex} {l : List UInt8} (ht : y.top.text = false) (h : ¬ (y.below ≠ [] ∧ y.top.br = 0 ∧ l.head? = some 41)) : find (tried y) l = find outside l:=by
  unfold tried
  rw [ht,if_neg (by decide)]
  split
  · rename_i hc
    have hb : y.below ≠ []:=fun e=>by rw [e] at hc;simp at hc
    have h41 : l.head? ≠ some 41:=fun e=>h ⟨hb,hc.2,e⟩
    have hj : Lx.just [41] l = 0:=by
      unfold Lx.just
      rw [if_neg]
      cases l with
      | nil=>simp [Lib.hasPrefix,List.isPrefixOf]
      | cons b r =>
        rw [pre_head]
        simp at h41
        simp [h41]
    simp only [Lx.closing,find,hj,if_true]
  · rfl
theorem head_of_take {l : List UInt8} {n : Nat} {b : UInt8} (h : l.take n = [b]) : l.head? = some b:=by
  cases l with
  | nil=>simp at h
  | cons a r =>
    cases n with
    | zero=>simp at h
    | succ n=>simp at h;simp [h.1]
theorem pf_41 {l : List UInt8} (h : l.head? = some 41) : pf l = (13,1):=by
  cases l with
  | nil=>cases h
  | cons a r =>
    simp at h;subst h
    unfold pf;rw [Lx.find_c_out];rfl
theorem next_err {y : Lx.Lex} {l : List UInt8} (ht : y.top.text = false) (h : (pf l).2 = 0) : next y l = .error 11:=by
  have hf : find (tried y) l = none:=by
    rw [find_tried ht (fun hc=>by rw [pf_41 hc.2.2] at h;exact absurd h (by decide))]
    exact pf_none.1 h
  unfold next
  rw [hf]
  simp [ht]
theorem next_out {y : Lx.Lex} {l : List UInt8} (ht : y.top.text = false) (h : (pf l).2 ≠ 0) (hc : ¬ (y.below ≠ [] ∧ y.top.br = 0 ∧ l.take (pf l).2 = [41])) {z : Lx.Lex} (hz : turn y (pf l).1 (l.take (pf l).2) = .ok z) : next y l = .ok ((pf l).1,(pf l).2,z):=by
  refine Lx.next_of ?_ hz
  rw [find_tried ht (fun hc'=>hc ⟨hc'.1,hc'.2.1,?_⟩)]
  · exact pf_some h
  · have h2:=hc'.2.2
    rw [pf_41 h2]
    cases l with
    | nil=>cases h2
    | cons a r=>simp at h2;subst h2;rfl
theorem next_close {y : Lx.Lex} {l : List UInt8} (ht : y.top.text = false) (hb : y.below ≠ []) (h0 : y.top.br = 0) (h : l.take (pf l).2 = [41]) : next y l = .ok (10,1,popped y) ∧ (pf l).2 = 1:=by
  have h1:=head_of_take h
  refine ⟨Lx.next_of (x:=y) ?_ rfl,by rw [pf_41 h1]⟩
  unfold tried
  rw [ht,if_neg (by decide),if_pos ⟨List.length_pos_iff.2 hb,h0⟩]
  cases l with
  | nil=>cases h1
  | cons a r=>simp at h1;subst h1;exact Lx.find_c_clo r
theorem turn_plain {y : Lx.Lex} {k : Int} (t : List UInt8) (h7 : k ≠ 7) (h11 : k ≠ 11) (h9 : k ≠ 9) (h10 : k ≠ 10) (h13 : k ≠ 13) : turn y k t = .ok y:=by
  unfold turn
  rw [if_neg h7,if_neg h11,if_neg h9,if_neg h10,if_neg h13]
theorem tried_in {y : Lx.Lex} (ht : y.top.text = true) : tried y = Lx.inside:=by unfold tried;rw [ht,if_pos rfl]
theorem next_piece {y : Lx.Lex} {l : List UInt8} (ht : y.top.text = true) (h : Lx.piece l ≠ 0) : next y l = .ok (8,Lx.piece l,y):=by
  refine Lx.next_of ?_ rfl
  rw [tried_in ht]
  simp only [Lx.inside,find,if_neg h]
theorem next_quote {y : Lx.Lex} {r : List UInt8} (ht : y.top.text = true) : next y (34 :: r) = .ok (11,1,{ y with top:={ y.top with text:=false } }) :=
  Lx.next_of (by rw [tried_in ht];exact Lx.find_q_in r) rfl
theorem next_none {y : Lx.Lex} {l : List UInt8} (ht : y.top.text = true) (h : Lx.piece l = 0) (h1 : l.head? ≠ some 34) (h2 : ¬ (l.take 2 = [92,40])) : next y l = .error 12:=by
  have hf : find (tried y) l = none:=by
    rw [tried_in ht]
    have e1 : Lx.just [34] l = 0:=by
      unfold Lx.just
      rw [if_neg]
      cases l with
      | nil=>simp [Lib.hasPrefix,List.isPrefixOf]
      | cons b r=>rw [pre_head];simp at h1;simp [h1]
    have e2 : Lx.just [92,40] l = 0:=by
      unfold Lx.just
      rw [if_neg]
      intro hp
      unfold Lib.hasPrefix at hp
      obtain ⟨t,rfl⟩:=List.isPrefixOf_iff_prefix.1 hp
      exact h2 rfl
    simp only [Lx.inside,find,h,e1,e2,if_true]
  unfold next
  rw [hf]
  simp [ht]
theorem next_open {y : Lx.Lex} {l : List UInt8} (ht : y.top.text = true) (h : l.take 2 = [92,40]) : next y l = if 256 ≤ y.below.length then .error 21 else .ok (9,2,⟨⟨false,0⟩,y.below ++ [y.top]⟩):=by
  obtain ⟨r,rfl⟩ : ∃ r,l = 92 :: 40 :: r:=by
    match l,h with
    | a :: b :: r,h=>simp at h;exact ⟨r,by rw [h.1,h.2]⟩
  unfold next
  rw [tried_in ht,Lx.find_o_in]
  simp only
  unfold turn
  rw [if_neg (by decide),if_neg (by decide),if_pos rfl]
  by_cases hd : 256 ≤ y.below.length
  · rw [if_pos hd,if_pos hd]
  · rw [if_neg hd,if_neg hd]
theorem piece_zero {b : UInt8} {r : List UInt8} (h : Lx.piece (b :: r) = 0) (hb : b ≠ 34) : b = 92:=by
  by_cases h2 : b = 92
  · exact h2
  · exfalso
    have : Lx.cN (b.toNat : Int) = true:=by
      cases hc : Lx.cN (b.toNat : Int) with
      | true=>rfl
      | false=>rcases (Lx.cN_not b).1 hc with rfl | rfl <;> simp at hb h2
    rw [Lx.piece_one b r this] at h
    omega
end Go.Proofs.Ythadnhpkeljdoaa.lx
namespace Go.Proofs.Ythadnhpkeljdoaa.lx
open Go.Lib (hid)
open Go.RowKit Go.ChangeShapes Go.WideShapes Go.ChangeAt Go.ChangeMaps
open sg (lst_len)
end Go.Proofs.Ythadnhpkeljdoaa.lx
namespace Go.Proofs.Ythadnhpkeljdoaa.lx
open Go.Lib (hid)
open Go.RowKit Go.Shelf
open sg (lst_len extract_drop ext_size)
open sx
def lF (s : ByteArray) (a : Int) (vL vO : Value) (inn : Bool) (e : Int) : Array Value:=#[.string s,.int .i64 a,vL,vO,.bool inn,.int .i64 e]
def tkOwn (vL : Value) (q : Nat) : Prop:=vL.ownBlock = some q
def Put (s : ByteArray) (r : Int) (vL vO : Value) (inn : Bool) (e : Int) (base : Nat) (ts : List Lx.Tok) (W : World) (en : Ending) (w' : World) : Prop :=
  ∃ vL',en = .returned (.agg (lF s r vL' vO inn e)) ∧ w'.ownsRow base 54 2 vL' ts.length (tokCells ts) ∧ But W.heap.size (tkOwn vL) W w'
theorem six_set {W : World} {B : Nat} {t : TypeId} {y0 y1 y2 y3 y4 y5 : Value} (h : Blk W B t #[y0,y1,y2,y3,y4,y5]) (x0 x1 x2 x3 x4 x5 : Value) :
    Blk ((((((W.setCell ⟨B,0,none⟩ x0).setCell ⟨B,1,none⟩ x1).setCell ⟨B,2,none⟩ x2).setCell ⟨B,3,none⟩ x3).setCell ⟨B,4,none⟩ x4).setCell ⟨B,5,none⟩ x5) B t #[x0,x1,x2,x3,x4,x5] :=
  (((((h.set (o:=0) x0).set (o:=1) x1).set (o:=2) x2).set (o:=3) x3).set (o:=4) x4).set (o:=5) x5
theorem own_six {W : World} {base B : Nat} {e : TypeId} {size n : Nat} {v : Value} {xs : List Value} (h : W.ownsRow base e size v n xs) (hne : (some B : Option Nat) ≠ v.ownBlock) (x0 x1 x2 x3 x4 x5 : Value) :
    ((((((W.setCell ⟨B,0,none⟩ x0).setCell ⟨B,1,none⟩ x1).setCell ⟨B,2,none⟩ x2).setCell ⟨B,3,none⟩ x3).setCell ⟨B,4,none⟩ x4).setCell ⟨B,5,none⟩ x5).ownsRow base e size v n xs :=
  own_set (own_set (own_set (own_set (own_set (own_set h hne) hne) hne) hne) hne) hne
theorem but_six {N : Nat} {S : Nat → Prop} {W0 W : World} {B : Nat} (h : But N S W0 W) (hB : N ≤ B) (x0 x1 x2 x3 x4 x5 : Value) :
    But N S W0 ((((((W.setCell ⟨B,0,none⟩ x0).setCell ⟨B,1,none⟩ x1).setCell ⟨B,2,none⟩ x2).setCell ⟨B,3,none⟩ x3).setCell ⟨B,4,none⟩ x4).setCell ⟨B,5,none⟩ x5):=by
  have hp : ∀ o,(⟨B,o,none⟩ : Addr).block < N → S B:=fun o e=>absurd e (by simp;omega)
  exact (((((h.setCell (p:=⟨B,0,none⟩) (hp 0) x0).setCell (p:=⟨B,1,none⟩) (hp 1) x1).setCell (p:=⟨B,2,none⟩) (hp 2) x2).setCell (p:=⟨B,3,none⟩) (hp 3) x3).setCell (p:=⟨B,4,none⟩) (hp 4) x4).setCell (p:=⟨B,5,none⟩) (hp 5) x5
theorem put_calls (s : ByteArray) (a r : Int) (vL vO : Value) (inn : Bool) (e k : Int) (tx : ByteArray) (base : Nat) (ts : List Lx.Tok) (W : World)
    (hown : W.ownsRow base 54 2 vL ts.length (tokCells ts)) (hbase : base ≤ W.heap.size) (hts : ts.length ≤ 65536) (hr : wrap64 (a + (tx.size : Int)) = r) (ao : Option Addr) (lo co : Nat) (hvo : vO = .slice ao lo co) :
    Calls Try.prog 44 #[.agg (lF s a vL vO inn e),.agg #[.int .i64 k,.string tx]] W (Put s r vL vO inn e base (ts ++ [(k,tx.data.toList)]) W):=by
  obtain ⟨i0,hi,hz0,hz1,hz2⟩:=info_parts infoTok
  have hr2 : IntKind.i64.wrap (a + (tx.size : Int)) = r:=(IntWalk.i64_left _).trans hr
  obtain ⟨W1,hW1⟩ : ∃ W1,((W.alloc (.cells (lF s a vL vO inn e) 66)).alloc (.cells #[.int .i64 k,.string tx] 54)).alloc (.cells (lF ⟨#[]⟩ 0 (.slice none 0 0) (.slice none 0 0) false 0) 66) = W1:=⟨_,rfl⟩
  have hb : Below W.heap.size W W1:=by rw [← hW1];exact (((Below.refl _ W).alloc (Nat.le_refl _) _).alloc (by simp) _).alloc (by simp;omega) _
  have hs1 : W1.heap.size = W.heap.size + 3:=by rw [← hW1];simp
  have k0 : Blk W1 W.heap.size 66 (lF s a vL vO inn e):=by rw [← hW1];exact ((Blk.new W _ _).alloc _).alloc _
  have k1 : Blk W1 (W.heap.size + 1) 54 #[.int .i64 k,.string tx]:=by
    rw [← hW1];have:=(Blk.new (W.alloc (.cells (lF s a vL vO inn e) 66)) 54 #[.int .i64 k,.string tx]).alloc (.cells (lF ⟨#[]⟩ 0 (.slice none 0 0) (.slice none 0 0) false 0) 66)
    simpa using this
  have k2 : Blk W1 (W.heap.size + 2) 66 (lF ⟨#[]⟩ 0 (.slice none 0 0) (.slice none 0 0) false 0):=by
    rw [← hW1];have:=Blk.new ((W.alloc (.cells (lF s a vL vO inn e) 66)).alloc (.cells #[.int .i64 k,.string tx] 54)) 66 (lF ⟨#[]⟩ 0 (.slice none 0 0) (.slice none 0 0) false 0)
    simpa using this
  have hown1 : W1.ownsRow base 54 2 vL ts.length (tokCells ts):=by rw [← hW1];exact ((hown.alloc _).alloc _).alloc _
  have c0 : W1.cell? ⟨W.heap.size,0,none⟩ = some (.string s):=k0.cell 0
  have c1 : W1.cell? ⟨W.heap.size,1,none⟩ = some (.int .i64 a):=k0.cell 1
  have c2 : W1.cell? ⟨W.heap.size,2,none⟩ = some vL:=k0.cell 2
  have d0 : W1.cell? ⟨W.heap.size + 1,0,none⟩ = some (.int .i64 k):=k1.cell 0
  have d1 : W1.cell? ⟨W.heap.size + 1,1,none⟩ = some (.string tx):=k1.cell 1
  obtain ⟨al,ll,cl,rfl⟩:=own_slice hown
  have HB:=hid hb;have HS:=hid hs1;have K0:=hid k0;have K1:=hid k1;have K2:=hid k2;have HO:=hid hown
  unfold lF at hW1
  subst hvo
  clear hb k0 k1 k2 hown
  unfold lF
  go_enter Try.func44,Try.ntmps44
  have hne0 : (some W.heap.size : Option Nat) ≠ (Value.slice al ll cl).ownBlock:=fun e'=>by have:=(HO.out.lt _ e'.symm).2;omega
  have hne1 : (some (W.heap.size + 1) : Option Nat) ≠ (Value.slice al ll cl).ownBlock:=fun e'=>by have:=(HO.out.lt _ e'.symm).2;omega
  have hne2 : (some (W.heap.size + 2) : Option Nat) ≠ (Value.slice al ll cl).ownBlock:=fun e'=>by have:=(HO.out.lt _ e'.symm).2;omega
  have N0:=hid hne0;have N1:=hid hne1;have N2:=hid hne2
  clear hne0 hne1 hne2
  go_wp2_with (at_builtin;refine wpList_append_own _ rfl _ _ 45 rfl base 54 i0 (.agg #[.int .i64 0,.string ⟨#[]⟩]) 2 24 Try.underlying45 hi hz0 hz1 hz2 rfl (by decide) _ _ _ rfl (hown1.alloc _) ⟨W.heap.size + 3,0,none⟩ 1 1 [.int .i64 k,.string tx] rfl rfl (by rw [← hs1];exact cell_two_new _ _ _ _) (by intro u hu;simp at hu;rcases hu with rfl | rfl <;> rfl) (by unfold maxLen;omega) (by omega) (by simp;omega) ?_;intro v' w1 hown' hgrow _;obtain ⟨a2,l2,c2,rfl⟩:=own_slice hown';have p0:=(K0.out.alloc _).kept hgrow N0.out;have p1:=(K1.out.alloc _).kept hgrow N1.out;have p2:=(K2.out.alloc _).kept hgrow N2.out;have e0 : w1.cell? ⟨W.heap.size,0,none⟩ = some (.string s):=p0.cell 0;have e1 : w1.cell? ⟨W.heap.size,1,none⟩ = some (.int .i64 a):=p0.cell 1;have e2 : w1.cell? ⟨W.heap.size,2,none⟩ = some (.slice al ll cl):=p0.cell 2;have e3 : w1.cell? ⟨W.heap.size,3,none⟩ = some (.slice ao lo co):=p0.cell 3;have e4 : w1.cell? ⟨W.heap.size,4,none⟩ = some (.bool inn):=p0.cell 4;have e5 : w1.cell? ⟨W.heap.size,5,none⟩ = some (.int .i64 e):=p0.cell 5;have t1 : w1.cell? ⟨W.heap.size + 1,1,none⟩ = some (.string tx):=p1.cell 1;have g1:=p0.frozen 1;have g2:=p0.frozen 2;have r0 : w1.cell? ⟨W.heap.size + 2,0,none⟩ = some (.string ⟨#[]⟩):=p2.cell 0;have r1 : w1.cell? ⟨W.heap.size + 2,1,none⟩ = some (.int .i64 0):=p2.cell 1;have r2 : w1.cell? ⟨W.heap.size + 2,2,none⟩ = some (.slice none 0 0):=p2.cell 2;have r3 : w1.cell? ⟨W.heap.size + 2,3,none⟩ = some (.slice none 0 0):=p2.cell 3;have r4 : w1.cell? ⟨W.heap.size + 2,4,none⟩ = some (.bool false):=p2.cell 4;have r5 : w1.cell? ⟨W.heap.size + 2,5,none⟩ = some (.int .i64 0):=p2.cell 5;have f0:=p2.frozen 0;have f1:=p2.frozen 1;have f2:=p2.frozen 2;have f3:=p2.frozen 3;have f4:=p2.frozen 4;have f5:=p2.frozen 5;have P0:=hid p0;have P2:=hid p2;have HG:=hid hgrow;have HO':=hid hown';clear p0 p1 p2 hgrow hown')
  have q:=six_set ((P2.out.other (b:=W.heap.size) (o:=2) (by omega) (.slice a2 l2 c2)).other (b:=W.heap.size) (o:=1) (by omega) (.int .i64 r)) (.string s) (.int .i64 r) (.slice a2 l2 c2) (.slice ao lo co) (.bool inn) (.int .i64 e)
  have q0:=q.cell 0
  have q1:=q.cell 1
  have q2:=q.cell 2
  have q3:=q.cell 3
  have q4:=q.cell 4
  have q5:=q.cell 5
  have n0:=own_ne HO'.out P0.out (by decide)
  have n2:=own_ne HO'.out P2.out (by decide)
  refine bodyPost_ret (v:=.agg (lF s r (.slice a2 l2 c2) (.slice ao lo co) inn e)) ?_ rfl ⟨_,rfl,?_,?_⟩
  · unfold lF
    simp [results,Try.results44,go_sem,q0,q1,q2,q3,q4,q5]
  · have:=own_six (own_set (o:=1) (u:=.int .i64 r) (own_set (o:=2) (u:=.slice a2 l2 c2) HO'.out n0) n0) n2 (.string s) (.int .i64 r) (.slice a2 l2 c2) (.slice ao lo co) (.bool inn) (.int .i64 e)
    rw [tokCells_snoc,List.length_append]
    exact this
  · refine but_six ?_ (by omega) _ _ _ _ _ _
    refine But.setCell (p:=⟨W.heap.size,1,none⟩) (But.setCell (p:=⟨W.heap.size,2,none⟩) ?_ (fun h=>absurd h (Nat.lt_irrefl _)) _) (fun h=>absurd h (Nat.lt_irrefl _)) _
    exact ((But.of_below HB.out).alloc (Nat.le_refl _) _).grown HG.out (Nat.le_refl _) (fun k' e' _=>e')
end Go.Proofs.Ythadnhpkeljdoaa.lx
namespace Go.Proofs.Ythadnhpkeljdoaa.lx
open Go.Lib (hid)
open Go.RowKit Go.Shelf
open sg (lst_len extract_drop ext_size)
open sx
def OpenAt (W : World) (v : Value) (op : List Int) : Prop :=
  (v = .slice none 0 0 ∧ op = []) ∨ ∃ g cap cur,v = .slice (some ⟨g,0,none⟩) op.length cap ∧ Blk W g 3 cur ∧ op.length ≤ cap ∧ ∀ (j : Nat) x,op[j]? = some x → cur[j]? = some (.int .i64 x)
theorem OpenAt.nil (W : World) : OpenAt W (.slice none 0 0) []:=.inl ⟨rfl,rfl⟩
theorem OpenAt.slice {W : World} {v : Value} {op : List Int} (h : OpenAt W v op) : ∃ ao cap,v = .slice ao op.length cap:=by
  rcases h with ⟨rfl,rfl⟩ | ⟨g,cap,cur,rfl,_⟩
  · exact ⟨_,_,rfl⟩
  · exact ⟨_,_,rfl⟩
theorem OpenAt.own {W W' : World} {v : Value} {op : List Int} (h : OpenAt W v op) (hb : Below W.heap.size W W') : OpenAt W' v op:=by
  rcases h with h | ⟨g,cap,cur,h1,h2,h3⟩
  · exact .inl h
  · exact .inr ⟨g,cap,cur,h1,h2.own hb,h3⟩
theorem OpenAt.but {W W' : World} {v vL : Value} {op : List Int} {base n : Nat} {xs : List Value} (h : OpenAt W v op) (ho : W.ownsRow base 54 2 vL n xs) (hb : But W.heap.size (tkOwn vL) W W') : OpenAt W' v op:=by
  rcases h with h | ⟨g,cap,cur,h1,h2,h3⟩
  · exact .inl h
  · exact .inr ⟨g,cap,cur,h1,h2.but hb (fun e=>own_ne ho h2 (by decide) e.symm),h3⟩
def Stepped (s : ByteArray) (a' : Int) (inn : Bool) (e : Int) (op : List Int) (base : Nat) (ts : List Lx.Tok) (vL : Value) (W : World) (en : Ending) (w' : World) : Prop :=
  ∃ vL' vO',en = .returned (.agg (lF s a' vL' vO' inn e)) ∧ w'.ownsRow base 54 2 vL' ts.length (tokCells ts) ∧ OpenAt w' vO' op ∧ But W.heap.size (tkOwn vL) W w'
def Lx2.two (s : ByteArray) (a : Int) (vL vO : Value) (inn : Bool) (e : Int) (W : World) : World:=(W.alloc (.cells (lF s a vL vO inn e) 66)).alloc (.cells (lF ⟨#[]⟩ 0 (.slice none 0 0) (.slice none 0 0) false 0) 66)
structure Two (s : ByteArray) (a : Int) (vL vO : Value) (inn : Bool) (e : Int) (W W1 : World) : Prop where
  hb : Below W.heap.size W W1
  hs : W.heap.size + 2 ≤ W1.heap.size
  k0 : Blk W1 W.heap.size 66 (lF s a vL vO inn e)
  k1 : Blk W1 (W.heap.size + 1) 66 (lF ⟨#[]⟩ 0 (.slice none 0 0) (.slice none 0 0) false 0)
theorem two_of (s : ByteArray) (a : Int) (vL vO : Value) (inn : Bool) (e : Int) (W : World) : Two s a vL vO inn e W (Lx2.two s a vL vO inn e W):=by
  unfold Lx2.two
  refine ⟨((Below.refl _ W).alloc (Nat.le_refl _) _).alloc (by simp) _,by simp,(Blk.new W _ _).alloc _,?_⟩
  have:=Blk.new (W.alloc (.cells (lF s a vL vO inn e) 66)) 66 (lF ⟨#[]⟩ 0 (.slice none 0 0) (.slice none 0 0) false 0)
  simpa using this
theorem Two.own {s : ByteArray} {a : Int} {vL vO : Value} {inn : Bool} {e : Int} {W W1 W2 : World} (h : Two s a vL vO inn e W W1) (hb : Below W1.heap.size W1 W2) : Two s a vL vO inn e W W2 :=
  ⟨h.hb.trans (hb.mono h.hb.size),Nat.le_trans h.hs hb.size,h.k0.own hb,h.k1.own hb⟩
theorem own_below {W W' : World} {base : Nat} {e : TypeId} {size n : Nat} {v : Value} {xs : List Value} (h : W.ownsRow base e size v n xs) (hb : Below W.heap.size W W') : W'.ownsRow base e size v n xs:=by
  refine ⟨h.1,?_⟩
  rcases h.2 with hn | ⟨g,cap,cur,h1,h2,h3,h4⟩
  · exact .inl hn
  · exact .inr ⟨g,cap,cur,h1,h2,(hb.block g (Array.getElem?_eq_some_iff.1 h3).1).trans h3,h4⟩
theorem put_end {s : ByteArray} {a : Int} {vL vO : Value} {inn : Bool} {e : Int} {W w3 w4 : World} {base n : Nat} {xs : List Value} {z0 z1 z2 z3 z4 z5 : Value} (hT : Below W.heap.size W w3) (hs : W.heap.size + 2 ≤ w3.heap.size) (hk : Blk w3 (W.heap.size + 1) 66 #[z0,z1,z2,z3,z4,z5]) (hown : w3.ownsRow base 54 2 vL n xs) (hb : But w3.heap.size (tkOwn vL) w3 w4) : Blk w4 (W.heap.size + 1) 66 #[z0,z1,z2,z3,z4,z5] :=
  hk.but hb (fun e=>own_ne hown hk (by decide) e.symm)
theorem step_end {s : ByteArray} {a : Int} {vL vL' vO : Value} {inn : Bool} {e : Int} {op : List Int} {W w3 w4 : World} {base n : Nat} {xs : List Value} {ts : List Lx.Tok} {z0 z1 z2 z3 z4 z5 : Value} (hT : Below W.heap.size W w3) (hs : W.heap.size + 2 ≤ w3.heap.size)
    (hown : w3.ownsRow base 54 2 vL n xs) (hb : But w3.heap.size (tkOwn vL) w3 w4) (hk : Blk w4 (W.heap.size + 1) 66 #[z0,z1,z2,z3,z4,z5]) (hown' : w4.ownsRow base 54 2 vL' ts.length (tokCells ts)) (hop : OpenAt w3 vO op) :
    Stepped s a inn e op base ts vL W (.returned (.agg (lF s a vL' vO inn e))) ((((((w4.setCell ⟨W.heap.size + 1,0,none⟩ (.string s)).setCell ⟨W.heap.size + 1,1,none⟩ (.int .i64 a)).setCell ⟨W.heap.size + 1,2,none⟩ vL').setCell ⟨W.heap.size + 1,3,none⟩ vO).setCell ⟨W.heap.size + 1,4,none⟩ (.bool inn)).setCell ⟨W.heap.size + 1,5,none⟩ (.int .i64 e)):=by
  have n2:=own_ne hown' hk (by decide)
  have hop4:=OpenAt.but hop hown hb
  refine ⟨vL',vO,rfl,own_six hown' n2 _ _ _ _ _ _,?_,but_six ?_ (by omega) _ _ _ _ _ _⟩
  · rcases hop4 with h | ⟨g,cap,cur,h1,h2,h3⟩
    · exact .inl h
    · have hne : g ≠ W.heap.size + 1:=fun e'=>by
        rw [e'] at h2
        exact blk_apart h2 hk (by decide)
      exact .inr ⟨g,cap,cur,h1,(((((h2.other hne _).other hne _).other hne _).other hne _).other hne _).other hne _,h3⟩
  · exact (But.of_below hT).trans (hb.mono hT.size (fun _ _ e=>e))
where
  blk_apart {W : World} {B : Nat} {t t' : TypeId} {v v' : Array Value} (h : Blk W B t v) (h' : Blk W B t' v') (hne : t ≠ t') : False:=by
    unfold Blk at h h'
    rw [h] at h'
    cases h'
    exact hne rfl
theorem blk_apart {W : World} {B : Nat} {t t' : TypeId} {v v' : Array Value} (h : Blk W B t v) (h' : Blk W B t' v') (hne : t ≠ t') : False:=by
  unfold Blk at h h'
  rw [h] at h'
  cases h'
  exact hne rfl
theorem OpenAt.set {W : World} {v x : Value} {op : List Int} {B o : Nat} {t : TypeId} {vs : Array Value} (h : OpenAt W v op) (hk : Blk W B t vs) (ht : t ≠ 3) : OpenAt (W.setCell ⟨B,o,none⟩ x) v op:=by
  rcases h with h | ⟨g,cap,cur,h1,h2,h3⟩
  · exact .inl h
  · exact .inr ⟨g,cap,cur,h1,h2.other (fun e=>by rw [e] at h2;exact blk_apart hk h2 ht) _,h3⟩
structure B6 (s : ByteArray) (a : Int) (vL vO : Value) (inn : Bool) (e : Int) (op : List Int) (base : Nat) (ts : List Lx.Tok) (W W1 : World) : Prop where
  two : Two s a vL vO inn e W W1
  own : W1.ownsRow base 54 2 vL ts.length (tokCells ts)
  op : OpenAt W1 vO op
section
variable {s : ByteArray} {a : Int} {vL vO : Value} {inn : Bool} {e : Int} {op : List Int} {base : Nat} {ts : List Lx.Tok} {W W1 W2 : World}
theorem B6.go (h : B6 s a vL vO inn e op base ts W W1) (hb : Below W1.heap.size W1 W2) : B6 s a vL vO inn e op base ts W W2:=⟨h.two.own hb,own_below h.own hb,h.op.own hb⟩
theorem B6.drew' (h : B6 s a vL vO inn e op base ts W W1) : B6 s a vL vO inn e op base ts W W1.drew:=h.go (Below.refl _ _).drew
theorem B6.set4 (h : B6 s a vL vO inn e op base ts W W1) (inn' : Bool) : B6 s a vL vO inn' e op base ts W (W1.setCell ⟨W.heap.size,4,none⟩ (.bool inn')) :=
  ⟨⟨h.two.hb.setCell (p:=⟨W.heap.size,4,none⟩) (Nat.le_refl _) _,by rw [World.size_setCell];exact h.two.hs,h.two.k0.set (o:=4) _,h.two.k1.other (by omega) _⟩,own_set h.own (own_ne h.own h.two.k0 (by decide)),h.op.set h.two.k0 (by decide)⟩
theorem B6.set5 (h : B6 s a vL vO inn e op base ts W W1) (e' : Int) : B6 s a vL vO inn e' op base ts W (W1.setCell ⟨W.heap.size,5,none⟩ (.int .i64 e')) :=
  ⟨⟨h.two.hb.setCell (p:=⟨W.heap.size,5,none⟩) (Nat.le_refl _) _,by rw [World.size_setCell];exact h.two.hs,h.two.k0.set (o:=5) _,h.two.k1.other (by omega) _⟩,own_set h.own (own_ne h.own h.two.k0 (by decide)),h.op.set h.two.k0 (by decide)⟩
theorem B6.set3 (h : B6 s a vL vO inn e op base ts W W1) {vO' : Value} {op' : List Int} (ho : OpenAt W1 vO' op') : B6 s a vL vO' inn e op' base ts W (W1.setCell ⟨W.heap.size,3,none⟩ vO') :=
  ⟨⟨h.two.hb.setCell (p:=⟨W.heap.size,3,none⟩) (Nat.le_refl _) _,by rw [World.size_setCell];exact h.two.hs,h.two.k0.set (o:=3) _,h.two.k1.other (by omega) _⟩,own_set h.own (own_ne h.own h.two.k0 (by decide)),ho.set h.two.k0 (by decide)⟩
theorem B6.start (hown : W.ownsRow base 54 2 vL ts.length (tokCells ts)) (hop : OpenAt W vO op) : B6 s a vL vO inn e op base ts W (Lx2.two s a vL vO inn e W) :=
  ⟨two_of _ _ _ _ _ _ _,own_below hown (two_of s a vL vO inn e W).hb,hop.own (two_of s a vL vO inn e W).hb⟩
theorem B6.same (h : B6 s a vL vO inn e op base ts W W1) {z0 z1 z2 z3 z4 z5 : Value} : Stepped s a inn e op base ts vL W (.returned (.agg (lF s a vL vO inn e)))
    ((((((W1.setCell ⟨W.heap.size + 1,0,none⟩ (.string s)).setCell ⟨W.heap.size + 1,1,none⟩ (.int .i64 a)).setCell ⟨W.heap.size + 1,2,none⟩ vL).setCell ⟨W.heap.size + 1,3,none⟩ vO).setCell ⟨W.heap.size + 1,4,none⟩ (.bool inn)).setCell ⟨W.heap.size + 1,5,none⟩ (.int .i64 e)) :=
  step_end h.two.hb h.two.hs h.own (But.refl _ _ _) h.two.k1 h.own h.op
end
theorem grown_nil' {W W' : World} (h : W.grownBy W' (Value.slice none 0 0).ownBlock) : Below W.heap.size W W':=(Below.refl _ W).grown h (Nat.le_refl _) (fun k hk=>by cases hk)
theorem grown_own' {W W' : World} {base : Nat} {v : Value} {e : TypeId} {s n : Nat} {xs : List Value} (h : W.grownBy W' v.ownBlock) (ho : W.ownsRow base e s v n xs) (hb : base ≤ W.heap.size) : Below base W W':=(Below.refl _ W).grown h hb (fun k hk=>(ho.lt k hk).1)
def ints (op : List Int) : List Value:=op.map (Value.int .i64)
theorem open_of_own {W : World} {base : Nat} {v : Value} {op : List Int} (h : W.ownsRow base 3 1 v op.length (ints op)) : OpenAt W v op:=by
  rcases h.2 with ⟨rfl,h0⟩ | ⟨g,cap,cur,rfl,h2,h3,h4,h5,h6,h7⟩
  · exact .inl ⟨rfl,List.length_eq_zero_iff.1 h0⟩
  · refine .inr ⟨g,cap,cur,rfl,h3,h4,fun j x hx=>?_⟩
    have hj : j < op.length:=(List.getElem?_eq_some_iff.1 hx).1
    have h8 : (cur.toList.take (op.length * 1))[j]? = some (.int .i64 x):=by
      rw [h7];unfold ints;rw [List.getElem?_map,hx];rfl
    rw [List.getElem?_take_of_lt (by omega)] at h8
    simpa using h8
theorem OpenAt.cells {W : World} {g cap : Nat} {op : List Int} (h : OpenAt W (.slice (some ⟨g,0,none⟩) op.length cap) op) (j : Nat) (x : Int) (hx : op[j]? = some x) : W.cell? ⟨g,j,none⟩ = some (.int .i64 x):=by
  rcases h with ⟨h,_⟩ | ⟨g',cap',cur,h1,h2,_,h4⟩
  · cases h
  · cases h1
    rw [h2.cell j];exact h4 j x hx
theorem zero_add' (g j : Nat) : (⟨g,0,none⟩ : Addr).add j = ⟨g,j,none⟩:=by
  unfold Addr.add
  by_cases h : j = 0
  · subst h;rfl
  · simp [h]
theorem ints_news {W : World} {g : Nat} {op : List Int} (h : ∀ (j : Nat) x,op[j]? = some x → W.cell? ⟨g,j,none⟩ = some (.int .i64 x)) : ∀ j u,(ints op)[j]? = some u → W.cell? ((⟨g,0,none⟩ : Addr).add j) = some u:=by
  intro j u hu
  unfold ints at hu
  rw [List.getElem?_map] at hu
  cases hx : op[j]? with
  | none=>rw [hx] at hu;cases hu
  | some x =>
    rw [hx] at hu
    cases hu
    rw [zero_add' g j]
    exact h j x hx
theorem ints_one (op : List Int) : ∀ u ∈ ints op,u.oneCell' = true:=by
  intro u hu
  obtain ⟨x,_,rfl⟩:=List.mem_map.1 hu
  rfl
theorem infoInt : (Try.prog.info? 3).map (fun i=>(i.zero,i.size,i.bytes)) = some (some (.int .i64 0),1,8):=by kernel_rfl
theorem inside_piece (s : ByteArray) (a n r : Nat) (vL vO : Value) (op : List Int) (base : Nat) (ts : List Lx.Tok) (W : World)
    (hown : W.ownsRow base 54 2 vL ts.length (tokCells ts)) (hbase : base ≤ W.heap.size) (hts : ts.length ≤ 65536) (hop : OpenAt W vO op) (hs : s.size ≤ 65536) (ha : a < s.size)
    (hp : Lx.piece (s.data.toList.drop a) = n) (hn : n ≠ 0) (hr : a + n = r) :
    Calls Try.prog 29 #[.agg (lF s (a : Int) vL vO true 0)] W (Stepped s (r : Int) true 0 op base (ts ++ [(8,(s.data.toList.drop a).take n)]) vL W):=by
  have hB : B6 s (a : Int) vL vO true 0 op base ts W (Lx2.two s (a : Int) vL vO true 0 W):=B6.start hown hop
  obtain ⟨W1,hW1⟩ : ∃ W1,Lx2.two s (a : Int) vL vO true 0 W = W1:=⟨_,rfl⟩
  rw [hW1] at hB
  unfold Lx2.two lF at hW1
  obtain ⟨al,ll,cl,rfl⟩:=own_slice hown
  obtain ⟨ao,co,hvo⟩:=hop.slice
  obtain ⟨t,ht⟩ : ∃ t,s.extract a s.size = t:=⟨_,rfl⟩
  have htl : t.data.toList = s.data.toList.drop a:=by rw [← ht,extract_drop]
  have hts0 : t.size = s.size - a:=by rw [← lst_len,htl,List.length_drop,lst_len]
  subst hvo
  have c0 : W1.cell? ⟨W.heap.size,0,none⟩ = some (.string s):=hB.two.k0.cell 0
  have c1 : W1.cell? ⟨W.heap.size,1,none⟩ = some (.int .i64 (a : Int)):=hB.two.k0.cell 1
  have hle : (a : Int) ≤ (s.size : Int):=by omega
  have HBB:=hid hB;have HO:=hid hown;have HOP:=hid hop;have HTL:=hid htl
  have hpl:=Lx.piece_le (s.data.toList.drop a)
  rw [hp,List.length_drop,lst_len] at hpl
  have hpc:=fun w=>rpiece_calls t (by omega) w
  rw [htl] at hpc
  simp only [hp] at hpc
  have HPC:=hid hpc
  clear hpc
  have hlen : (n : Int) ≤ (t.size : Int):=by omega
  have hn0 : decide ((0 : Int) < (n : Int)) = true:=decide_eq_true (by omega)
  have hx : (t.extract 0 n).data.toList = (s.data.toList.drop a).take n:=by
    rw [ByteArray.data_extract,Array.toList_extract,htl];simp [List.extract]
  have hxs : (t.extract 0 n).size = n:=by rw [← lst_len,hx,List.length_take,List.length_drop,lst_len];omega
  have hsum : wrap64 ((a : Int) + ((t.extract 0 n).size : Int)) = (r : Int):=by rw [hxs,IntWalk.wrap64_in _ (by omega)];omega
  have HX:=hid hx;have HS:=hid hsum
  clear hB hx hown hop hsum hp htl hts0
  unfold lF
  go_enter Try.func29,Try.ntmps29
  go_wp2_with fail
  ((with_reducible refine (HPC.out _).mono ?_);rintro e' w2 ⟨rfl,hb2⟩)
  have hB2:=HBB.out.go hb2
  have d0 : w2.cell? ⟨W.heap.size,0,none⟩ = some (.string s):=hB2.two.k0.cell 0
  have d1 : w2.cell? ⟨W.heap.size,1,none⟩ = some (.int .i64 (a : Int)):=hB2.two.k0.cell 1
  have d2 : w2.cell? ⟨W.heap.size,2,none⟩ = some (.slice al ll cl):=hB2.two.k0.cell 2
  have d3 : w2.cell? ⟨W.heap.size,3,none⟩ = some (.slice ao op.length co):=hB2.two.k0.cell 3
  have d4 : w2.cell? ⟨W.heap.size,4,none⟩ = some (.bool true):=hB2.two.k0.cell 4
  have d5 : w2.cell? ⟨W.heap.size,5,none⟩ = some (.int .i64 0):=hB2.two.k0.cell 5
  have df3:=hB2.two.k0.frozen 3;have df4:=hB2.two.k0.frozen 4;have df5:=hB2.two.k0.frozen 5
  obtain ⟨w3,hw3⟩ : ∃ w3,(w2).drew = w3:=⟨_,rfl⟩
  have h3 : B6 s (a : Int) (.slice al ll cl) (.slice ao op.length co) true 0 op base ts W w3:=by rw [← hw3];exact (hB2).drew'
  have hput3:=put_calls s (a : Int) (r : Int) (.slice al ll cl) (.slice ao op.length co) true 0 8 (t.extract 0 n) base ts w3 h3.own (Nat.le_trans hbase h3.two.hb.size) hts HS.out ao op.length co rfl
  unfold lF at hput3
  have H3:=hid h3;have HPUT:=hid hput3;have HW3:=hid hw3
  clear h3 hput3
  clear c0 c1 hB2 hb2 hw3
  go_wp2_with fail
  refine wp_region_still_tail 5 (by kernel_rfl) (by kernel_rfl) ?_
  simp only [List.take_succ_cons,List.take_zero,List.drop_succ_cons,List.drop_zero]
  repeat still_step
  refine wpStill_nil ?_
  change wpList _ _ _ _ _ w2.drew
  rw [HW3.out]
  clear d0 d1 d2 d3 d4 d5 df3 df4 df5
  go_wp2_with fail
  ((with_reducible refine HPUT.out.mono ?_);rintro e' w4 ⟨vL',rfl,hown4,hb4⟩)
  have k4:=put_end (s:=s) (a:=0) (vO:=.slice none 0 0) (inn:=true) (e:=0) H3.out.two.hb H3.out.two.hs H3.out.two.k1 H3.out.own hb4
  obtain ⟨a5,l5,c5,rfl⟩:=own_slice hown4
  have r0 : w4.cell? ⟨W.heap.size + 1,0,none⟩ = some (.string ⟨#[]⟩):=k4.cell 0
  have r1 : w4.cell? ⟨W.heap.size + 1,1,none⟩ = some (.int .i64 0):=k4.cell 1
  have r2 : w4.cell? ⟨W.heap.size + 1,2,none⟩ = some (.slice none 0 0):=k4.cell 2
  have r3 : w4.cell? ⟨W.heap.size + 1,3,none⟩ = some (.slice none 0 0):=k4.cell 3
  have r4 : w4.cell? ⟨W.heap.size + 1,4,none⟩ = some (.bool false):=k4.cell 4
  have r5 : w4.cell? ⟨W.heap.size + 1,5,none⟩ = some (.int .i64 0):=k4.cell 5
  have f0:=k4.frozen 0;have f1:=k4.frozen 1;have f2:=k4.frozen 2;have f3:=k4.frozen 3;have f4:=k4.frozen 4;have f5:=k4.frozen 5
  have HK4:=hid k4;have HO4:=hid hown4;have HB4:=hid hb4
  clear k4 hown4 hb4
  unfold lF
  go_wp2_with fail
  rw [← HX.out]
  have q:=six_set HK4.out (.string s) (.int .i64 (r : Int)) (.slice a5 l5 c5) (.slice ao op.length co) (.bool true) (.int .i64 0)
  have q0:=q.cell 0;have q1:=q.cell 1;have q2:=q.cell 2;have q3:=q.cell 3;have q4:=q.cell 4;have q5:=q.cell 5
  refine bodyPost_ret (v:=.agg (lF s (r : Int) (.slice a5 l5 c5) (.slice ao op.length co) true 0)) ?_ rfl ?_
  · unfold lF
    simp [results,Try.results29,go_sem,q0,q1,q2,q3,q4,q5]
  · exact step_end H3.out.two.hb H3.out.two.hs H3.out.own HB4.out HK4.out HO4.out H3.out.op
theorem inside_quote (s : ByteArray) (a n r : Nat) (vL vO : Value) (op : List Int) (base : Nat) (ts : List Lx.Tok) (W : World)
    (hown : W.ownsRow base 54 2 vL ts.length (tokCells ts)) (hbase : base ≤ W.heap.size) (hts : ts.length ≤ 65536) (hop : OpenAt W vO op) (hs : s.size ≤ 65536) (ha : a < s.size)
    (hp : Lx.piece (s.data.toList.drop a) = 0) (h34 : (s.data.toList.drop a).head? = some 34) (hr : a + 1 = r) :
    Calls Try.prog 29 #[.agg (lF s (a : Int) vL vO true 0)] W (Stepped s (r : Int) false 0 op base (ts ++ [(11,[34])]) vL W):=by
  have hB : B6 s (a : Int) vL vO true 0 op base ts W (Lx2.two s (a : Int) vL vO true 0 W):=B6.start hown hop
  obtain ⟨W1,hW1⟩ : ∃ W1,Lx2.two s (a : Int) vL vO true 0 W = W1:=⟨_,rfl⟩
  rw [hW1] at hB
  unfold Lx2.two lF at hW1
  obtain ⟨al,ll,cl,rfl⟩:=own_slice hown
  obtain ⟨ao,co,hvo⟩:=hop.slice
  obtain ⟨t,ht⟩ : ∃ t,s.extract a s.size = t:=⟨_,rfl⟩
  have htl : t.data.toList = s.data.toList.drop a:=by rw [← ht,extract_drop]
  have hts0 : t.size = s.size - a:=by rw [← lst_len,htl,List.length_drop,lst_len]
  subst hvo
  have c0 : W1.cell? ⟨W.heap.size,0,none⟩ = some (.string s):=hB.two.k0.cell 0
  have c1 : W1.cell? ⟨W.heap.size,1,none⟩ = some (.int .i64 (a : Int)):=hB.two.k0.cell 1
  have hle : (a : Int) ≤ (s.size : Int):=by omega
  have HBB:=hid hB;have HO:=hid hown;have HOP:=hid hop;have HTL:=hid htl
  have hpl:=Lx.piece_le (s.data.toList.drop a)
  rw [hp,List.length_drop,lst_len] at hpl
  have hpc:=fun w=>rpiece_calls t (by omega) w
  rw [htl] at hpc
  simp only [hp] at hpc
  have HPC:=hid hpc
  clear hpc
  have h0t : 0 < t.size:=by omega
  have hbq : ∃ b,t[0]'h0t = b:=⟨_,rfl⟩
  obtain ⟨b,hbq⟩:=hbq
  have hcons:=data_cons t h0t
  rw [htl,hbq] at hcons
  have hb : b = 34:=by rw [hcons] at h34;simpa using h34
  subst hb
  have T34 : (((t[0]'h0t).toNat : Int) == 34) = true:=by rw [hbq];rfl
  have hn0 : decide ((0 : Int) < ((0 : Nat) : Int)) = false:=decide_eq_false (by omega)
  have hx : (t.extract 0 1).data.toList = [34]:=by
    rw [ByteArray.data_extract,Array.toList_extract,htl,hcons];simp [List.extract]
  have hxs : (t.extract 0 1).size = 1:=by rw [← lst_len,hx];rfl
  have hsum : wrap64 ((a : Int) + ((t.extract 0 1).size : Int)) = (r : Int):=by rw [hxs,IntWalk.wrap64_in _ (by omega)];omega
  have hge : (1 : Int) ≤ (t.size : Int):=by omega
  have hge0 : (0 : Int) < (t.size : Int):=by omega
  have hge2 : 1 ≤ t.size:=by omega
  have HX:=hid hx;have HS:=hid hsum
  clear hB hx hown hop hsum hp htl hcons h34 hbq hts0
  unfold lF
  go_enter Try.func29,Try.ntmps29
  go_wp2_with fail
  ((with_reducible refine (HPC.out _).mono ?_);rintro e' w2 ⟨rfl,hb2⟩)
  have hB2:=HBB.out.go hb2
  have d0 : w2.cell? ⟨W.heap.size,0,none⟩ = some (.string s):=hB2.two.k0.cell 0
  have d1 : w2.cell? ⟨W.heap.size,1,none⟩ = some (.int .i64 (a : Int)):=hB2.two.k0.cell 1
  have d2 : w2.cell? ⟨W.heap.size,2,none⟩ = some (.slice al ll cl):=hB2.two.k0.cell 2
  have d3 : w2.cell? ⟨W.heap.size,3,none⟩ = some (.slice ao op.length co):=hB2.two.k0.cell 3
  have d4 : w2.cell? ⟨W.heap.size,4,none⟩ = some (.bool true):=hB2.two.k0.cell 4
  have d5 : w2.cell? ⟨W.heap.size,5,none⟩ = some (.int .i64 0):=hB2.two.k0.cell 5
  have df3:=hB2.two.k0.frozen 3;have df4:=hB2.two.k0.frozen 4;have df5:=hB2.two.k0.frozen 5
  obtain ⟨wx,hwx⟩ : ∃ wx,w2.setCell ⟨W.heap.size,4,none⟩ (.bool false) = wx:=⟨_,rfl⟩
  have hBx : B6 s (a : Int) (.slice al ll cl) (.slice ao op.length co) false 0 op base ts W wx:=by rw [← hwx];exact hB2.set4 false
  have x0 : wx.cell? ⟨W.heap.size,0,none⟩ = some (.string s):=hBx.two.k0.cell 0
  have x1 : wx.cell? ⟨W.heap.size,1,none⟩ = some (.int .i64 (a : Int)):=hBx.two.k0.cell 1
  have x2 : wx.cell? ⟨W.heap.size,2,none⟩ = some (.slice al ll cl):=hBx.two.k0.cell 2
  have x3 : wx.cell? ⟨W.heap.size,3,none⟩ = some (.slice ao op.length co):=hBx.two.k0.cell 3
  have x4 : wx.cell? ⟨W.heap.size,4,none⟩ = some (.bool false):=hBx.two.k0.cell 4
  have x5 : wx.cell? ⟨W.heap.size,5,none⟩ = some (.int .i64 0):=hBx.two.k0.cell 5
  obtain ⟨w3,hw3⟩ : ∃ w3,(wx).drew = w3:=⟨_,rfl⟩
  have h3 : B6 s (a : Int) (.slice al ll cl) (.slice ao op.length co) false 0 op base ts W w3:=by rw [← hw3];exact (hBx).drew'
  have hput3:=put_calls s (a : Int) (r : Int) (.slice al ll cl) (.slice ao op.length co) false 0 11 (t.extract 0 1) base ts w3 h3.own (Nat.le_trans hbase h3.two.hb.size) hts HS.out ao op.length co rfl
  unfold lF at hput3
  have H3:=hid h3;have HPUT:=hid hput3;have HW3:=hid hw3
  clear h3 hput3
  clear c0 c1 hb2 hw3
  go_wp2_with fail
  try rw [hwx]
  refine wp_region_still_tail 4 (by kernel_rfl) (by kernel_rfl) ?_
  simp only [List.take_succ_cons,List.take_zero,List.drop_succ_cons,List.drop_zero]
  repeat still_step
  refine wpStill_nil ?_
  change wpList _ _ _ _ _ wx.drew
  rw [HW3.out]
  clear d0 d1 d2 d3 d4 d5 df3 df4 df5 hB2 hwx x0 x1 x2 x3 x4 x5 hBx
  go_wp2_with fail
  ((with_reducible refine HPUT.out.mono ?_);rintro e' w4 ⟨vL',rfl,hown4,hb4⟩)
  have k4:=put_end (s:=s) (a:=0) (vO:=.slice none 0 0) (inn:=true) (e:=0) H3.out.two.hb H3.out.two.hs H3.out.two.k1 H3.out.own hb4
  obtain ⟨a5,l5,c5,rfl⟩:=own_slice hown4
  have r0 : w4.cell? ⟨W.heap.size + 1,0,none⟩ = some (.string ⟨#[]⟩):=k4.cell 0
  have r1 : w4.cell? ⟨W.heap.size + 1,1,none⟩ = some (.int .i64 0):=k4.cell 1
  have r2 : w4.cell? ⟨W.heap.size + 1,2,none⟩ = some (.slice none 0 0):=k4.cell 2
  have r3 : w4.cell? ⟨W.heap.size + 1,3,none⟩ = some (.slice none 0 0):=k4.cell 3
  have r4 : w4.cell? ⟨W.heap.size + 1,4,none⟩ = some (.bool false):=k4.cell 4
  have r5 : w4.cell? ⟨W.heap.size + 1,5,none⟩ = some (.int .i64 0):=k4.cell 5
  have f0:=k4.frozen 0;have f1:=k4.frozen 1;have f2:=k4.frozen 2;have f3:=k4.frozen 3;have f4:=k4.frozen 4;have f5:=k4.frozen 5
  have HK4:=hid k4;have HO4:=hid hown4;have HB4:=hid hb4
  clear k4 hown4 hb4
  unfold lF
  go_wp2_with fail
  rw [← HX.out]
  have q:=six_set HK4.out (.string s) (.int .i64 (r : Int)) (.slice a5 l5 c5) (.slice ao op.length co) (.bool false) (.int .i64 0)
  have q0:=q.cell 0;have q1:=q.cell 1;have q2:=q.cell 2;have q3:=q.cell 3;have q4:=q.cell 4;have q5:=q.cell 5
  refine bodyPost_ret (v:=.agg (lF s (r : Int) (.slice a5 l5 c5) (.slice ao op.length co) false 0)) ?_ rfl ?_
  · unfold lF
    simp [results,Try.results29,go_sem,q0,q1,q2,q3,q4,q5]
  · exact step_end H3.out.two.hb H3.out.two.hs H3.out.own HB4.out HK4.out HO4.out H3.out.op
end Go.Proofs.Ythadnhpkeljdoaa.lx
namespace Go.Proofs.Ythadnhpkeljdoaa.lx
open Go.Lib (hid)
open Go.RowKit Go.Shelf
open sg (lst_len extract_drop ext_size)
open sx
theorem inside_short (s : ByteArray) (a n r : Nat) (vL vO : Value) (op : List Int) (base : Nat) (ts : List Lx.Tok) (W : World)
    (hown : W.ownsRow base 54 2 vL ts.length (tokCells ts)) (hbase : base ≤ W.heap.size) (hts : ts.length ≤ 65536) (hop : OpenAt W vO op) (hs : s.size ≤ 65536) (ha : a < s.size)
    (hp : Lx.piece (s.data.toList.drop a) = 0) (h34 : (s.data.toList.drop a).head? ≠ some 34) (hl : s.size - a < 2) :
    Calls Try.prog 29 #[.agg (lF s (a : Int) vL vO true 0)] W (Stepped s (a : Int) true 12 op base ts vL W):=by
  have hB : B6 s (a : Int) vL vO true 0 op base ts W (Lx2.two s (a : Int) vL vO true 0 W):=B6.start hown hop
  obtain ⟨W1,hW1⟩ : ∃ W1,Lx2.two s (a : Int) vL vO true 0 W = W1:=⟨_,rfl⟩
  rw [hW1] at hB
  unfold Lx2.two lF at hW1
  obtain ⟨al,ll,cl,rfl⟩:=own_slice hown
  obtain ⟨ao,co,hvo⟩:=hop.slice
  obtain ⟨t,ht⟩ : ∃ t,s.extract a s.size = t:=⟨_,rfl⟩
  have htl : t.data.toList = s.data.toList.drop a:=by rw [← ht,extract_drop]
  have hts0 : t.size = s.size - a:=by rw [← lst_len,htl,List.length_drop,lst_len]
  subst hvo
  have c0 : W1.cell? ⟨W.heap.size,0,none⟩ = some (.string s):=hB.two.k0.cell 0
  have c1 : W1.cell? ⟨W.heap.size,1,none⟩ = some (.int .i64 (a : Int)):=hB.two.k0.cell 1
  have hle : (a : Int) ≤ (s.size : Int):=by omega
  have HBB:=hid hB;have HO:=hid hown;have HOP:=hid hop;have HTL:=hid htl
  have hpl:=Lx.piece_le (s.data.toList.drop a)
  rw [hp,List.length_drop,lst_len] at hpl
  have hpc:=fun w=>rpiece_calls t (by omega) w
  rw [htl] at hpc
  simp only [hp] at hpc
  have HPC:=hid hpc
  clear hpc
  have h0t : 0 < t.size:=by omega
  have hbq : ∃ b,t[0]'h0t = b:=⟨_,rfl⟩
  obtain ⟨b,hbq⟩:=hbq
  have hcons:=data_cons t h0t
  rw [htl,hbq] at hcons
  have hn0 : decide ((0 : Int) < ((0 : Nat) : Int)) = false:=decide_eq_false (by omega)
  have T34 : (((t[0]'h0t).toNat : Int) == 34) = false:=by rw [hbq];exact (byte_eq b 34 (by omega)).trans (decide_eq_false (fun e=>h34 (by rw [hcons,e];rfl)))
  have T2 : decide ((t.size : Int) < 2) = true:=decide_eq_true (by omega)
  clear hB hown hop hp htl hcons h34 hbq hts0
  unfold lF
  go_enter Try.func29,Try.ntmps29
  go_wp2_with fail
  ((with_reducible refine (HPC.out _).mono ?_);rintro e' w2 ⟨rfl,hb2⟩)
  have hB2:=HBB.out.go hb2
  have d0 : w2.cell? ⟨W.heap.size,0,none⟩ = some (.string s):=hB2.two.k0.cell 0
  have d1 : w2.cell? ⟨W.heap.size,1,none⟩ = some (.int .i64 (a : Int)):=hB2.two.k0.cell 1
  have d2 : w2.cell? ⟨W.heap.size,2,none⟩ = some (.slice al ll cl):=hB2.two.k0.cell 2
  have d3 : w2.cell? ⟨W.heap.size,3,none⟩ = some (.slice ao op.length co):=hB2.two.k0.cell 3
  have d4 : w2.cell? ⟨W.heap.size,4,none⟩ = some (.bool true):=hB2.two.k0.cell 4
  have d5 : w2.cell? ⟨W.heap.size,5,none⟩ = some (.int .i64 0):=hB2.two.k0.cell 5
  have df3:=hB2.two.k0.frozen 3;have df4:=hB2.two.k0.frozen 4;have df5:=hB2.two.k0.frozen 5
  have r0 : w2.cell? ⟨W.heap.size + 1,0,none⟩ = some (.string ⟨#[]⟩):=hB2.two.k1.cell 0
  have r1 : w2.cell? ⟨W.heap.size + 1,1,none⟩ = some (.int .i64 0):=hB2.two.k1.cell 1
  have r2 : w2.cell? ⟨W.heap.size + 1,2,none⟩ = some (.slice none 0 0):=hB2.two.k1.cell 2
  have r3 : w2.cell? ⟨W.heap.size + 1,3,none⟩ = some (.slice none 0 0):=hB2.two.k1.cell 3
  have r4 : w2.cell? ⟨W.heap.size + 1,4,none⟩ = some (.bool false):=hB2.two.k1.cell 4
  have r5 : w2.cell? ⟨W.heap.size + 1,5,none⟩ = some (.int .i64 0):=hB2.two.k1.cell 5
  have f0:=hB2.two.k1.frozen 0;have f1:=hB2.two.k1.frozen 1;have f2:=hB2.two.k1.frozen 2;have f3:=hB2.two.k1.frozen 3;have f4:=hB2.two.k1.frozen 4;have f5:=hB2.two.k1.frozen 5
  have H3:=hid (hB2.set5 12)
  clear c0 c1 hb2 hB2
  go_wp2_with fail
  have q:=six_set H3.out.two.k1 (.string s) (.int .i64 (a : Int)) (.slice al ll cl) (.slice ao op.length co) (.bool true) (.int .i64 12)
  have q0:=q.cell 0;have q1:=q.cell 1;have q2:=q.cell 2;have q3:=q.cell 3;have q4:=q.cell 4;have q5:=q.cell 5
  refine bodyPost_ret (v:=.agg (lF s (a : Int) (.slice al ll cl) (.slice ao op.length co) true 12)) ?_ rfl ?_
  · unfold lF
    simp [results,Try.results29,go_sem,q0,q1,q2,q3,q4,q5]
  · exact H3.out.same (z0:=.nilFunc) (z1:=.nilFunc) (z2:=.nilFunc) (z3:=.nilFunc) (z4:=.nilFunc) (z5:=.nilFunc)
theorem inside_none (s : ByteArray) (a n r : Nat) (vL vO : Value) (op : List Int) (base : Nat) (ts : List Lx.Tok) (W : World)
    (hown : W.ownsRow base 54 2 vL ts.length (tokCells ts)) (hbase : base ≤ W.heap.size) (hts : ts.length ≤ 65536) (hop : OpenAt W vO op) (hs : s.size ≤ 65536) (ha : a < s.size)
    (hp : Lx.piece (s.data.toList.drop a) = 0) (h34 : (s.data.toList.drop a).head? ≠ some 34) (hl : 2 ≤ s.size - a) (h40 : (s.data.toList.drop a).getD 1 0 ≠ 40) :
    Calls Try.prog 29 #[.agg (lF s (a : Int) vL vO true 0)] W (Stepped s (a : Int) true 12 op base ts vL W):=by
  have hB : B6 s (a : Int) vL vO true 0 op base ts W (Lx2.two s (a : Int) vL vO true 0 W):=B6.start hown hop
  obtain ⟨W1,hW1⟩ : ∃ W1,Lx2.two s (a : Int) vL vO true 0 W = W1:=⟨_,rfl⟩
  rw [hW1] at hB
  unfold Lx2.two lF at hW1
  obtain ⟨al,ll,cl,rfl⟩:=own_slice hown
  obtain ⟨ao,co,hvo⟩:=hop.slice
  obtain ⟨t,ht⟩ : ∃ t,s.extract a s.size = t:=⟨_,rfl⟩
  have htl : t.data.toList = s.data.toList.drop a:=by rw [← ht,extract_drop]
  have hts0 : t.size = s.size - a:=by rw [← lst_len,htl,List.length_drop,lst_len]
  subst hvo
  have c0 : W1.cell? ⟨W.heap.size,0,none⟩ = some (.string s):=hB.two.k0.cell 0
  have c1 : W1.cell? ⟨W.heap.size,1,none⟩ = some (.int .i64 (a : Int)):=hB.two.k0.cell 1
  have hle : (a : Int) ≤ (s.size : Int):=by omega
  have HBB:=hid hB;have HO:=hid hown;have HOP:=hid hop;have HTL:=hid htl
  have hpl:=Lx.piece_le (s.data.toList.drop a)
  rw [hp,List.length_drop,lst_len] at hpl
  have hpc:=fun w=>rpiece_calls t (by omega) w
  rw [htl] at hpc
  simp only [hp] at hpc
  have HPC:=hid hpc
  clear hpc
  have h0t : 0 < t.size:=by omega
  have hbq : ∃ b,t[0]'h0t = b:=⟨_,rfl⟩
  obtain ⟨b,hbq⟩:=hbq
  have hcons:=data_cons t h0t
  rw [htl,hbq] at hcons
  have hn0 : decide ((0 : Int) < ((0 : Nat) : Int)) = false:=decide_eq_false (by omega)
  have T34 : (((t[0]'h0t).toNat : Int) == 34) = false:=by rw [hbq];exact (byte_eq b 34 (by omega)).trans (decide_eq_false (fun e=>h34 (by rw [hcons,e];rfl)))
  have h1t : 1 < t.size:=by omega
  have h1ti : (1 : Int) < (t.size : Int):=by omega
  have T2 : decide ((t.size : Int) < 2) = false:=decide_eq_false (by omega)
  have hb1 : (t[1]'h1t) = (s.data.toList.drop a).getD 1 0:=by rw [← getD_byte t 1 h1t,htl]
  have T40 : (((t[1]'h1t).toNat : Int) == 40) = false:=by rw [hb1];exact (byte_eq _ 40 (by omega)).trans (decide_eq_false h40)
  clear hb1 h40
  clear hB hown hop hp htl hcons h34 hbq hts0
  unfold lF
  go_enter Try.func29,Try.ntmps29
  go_wp2_with fail
  ((with_reducible refine (HPC.out _).mono ?_);rintro e' w2 ⟨rfl,hb2⟩)
  have hB2:=HBB.out.go hb2
  have d0 : w2.cell? ⟨W.heap.size,0,none⟩ = some (.string s):=hB2.two.k0.cell 0
  have d1 : w2.cell? ⟨W.heap.size,1,none⟩ = some (.int .i64 (a : Int)):=hB2.two.k0.cell 1
  have d2 : w2.cell? ⟨W.heap.size,2,none⟩ = some (.slice al ll cl):=hB2.two.k0.cell 2
  have d3 : w2.cell? ⟨W.heap.size,3,none⟩ = some (.slice ao op.length co):=hB2.two.k0.cell 3
  have d4 : w2.cell? ⟨W.heap.size,4,none⟩ = some (.bool true):=hB2.two.k0.cell 4
  have d5 : w2.cell? ⟨W.heap.size,5,none⟩ = some (.int .i64 0):=hB2.two.k0.cell 5
  have df3:=hB2.two.k0.frozen 3;have df4:=hB2.two.k0.frozen 4;have df5:=hB2.two.k0.frozen 5
  have r0 : w2.cell? ⟨W.heap.size + 1,0,none⟩ = some (.string ⟨#[]⟩):=hB2.two.k1.cell 0
  have r1 : w2.cell? ⟨W.heap.size + 1,1,none⟩ = some (.int .i64 0):=hB2.two.k1.cell 1
  have r2 : w2.cell? ⟨W.heap.size + 1,2,none⟩ = some (.slice none 0 0):=hB2.two.k1.cell 2
  have r3 : w2.cell? ⟨W.heap.size + 1,3,none⟩ = some (.slice none 0 0):=hB2.two.k1.cell 3
  have r4 : w2.cell? ⟨W.heap.size + 1,4,none⟩ = some (.bool false):=hB2.two.k1.cell 4
  have r5 : w2.cell? ⟨W.heap.size + 1,5,none⟩ = some (.int .i64 0):=hB2.two.k1.cell 5
  have f0:=hB2.two.k1.frozen 0;have f1:=hB2.two.k1.frozen 1;have f2:=hB2.two.k1.frozen 2;have f3:=hB2.two.k1.frozen 3;have f4:=hB2.two.k1.frozen 4;have f5:=hB2.two.k1.frozen 5
  have H3:=hid (hB2.set5 12)
  clear c0 c1 hb2 hB2
  go_wp2_with fail
  have q:=six_set H3.out.two.k1 (.string s) (.int .i64 (a : Int)) (.slice al ll cl) (.slice ao op.length co) (.bool true) (.int .i64 12)
  have q0:=q.cell 0;have q1:=q.cell 1;have q2:=q.cell 2;have q3:=q.cell 3;have q4:=q.cell 4;have q5:=q.cell 5
  refine bodyPost_ret (v:=.agg (lF s (a : Int) (.slice al ll cl) (.slice ao op.length co) true 12)) ?_ rfl ?_
  · unfold lF
    simp [results,Try.results29,go_sem,q0,q1,q2,q3,q4,q5]
  · exact H3.out.same (z0:=.nilFunc) (z1:=.nilFunc) (z2:=.nilFunc) (z3:=.nilFunc) (z4:=.nilFunc) (z5:=.nilFunc)
theorem inside_deep (s : ByteArray) (a n r : Nat) (vL vO : Value) (op : List Int) (base : Nat) (ts : List Lx.Tok) (W : World)
    (hown : W.ownsRow base 54 2 vL ts.length (tokCells ts)) (hbase : base ≤ W.heap.size) (hts : ts.length ≤ 65536) (hop : OpenAt W vO op) (hs : s.size ≤ 65536) (ha : a < s.size)
    (hp : Lx.piece (s.data.toList.drop a) = 0) (h34 : (s.data.toList.drop a).head? ≠ some 34) (hl : 2 ≤ s.size - a) (h40 : (s.data.toList.drop a).getD 1 0 = 40) (hd : 256 ≤ op.length) :
    Calls Try.prog 29 #[.agg (lF s (a : Int) vL vO true 0)] W (Stepped s (a : Int) true 21 op base ts vL W):=by
  have hB : B6 s (a : Int) vL vO true 0 op base ts W (Lx2.two s (a : Int) vL vO true 0 W):=B6.start hown hop
  obtain ⟨W1,hW1⟩ : ∃ W1,Lx2.two s (a : Int) vL vO true 0 W = W1:=⟨_,rfl⟩
  rw [hW1] at hB
  unfold Lx2.two lF at hW1
  obtain ⟨al,ll,cl,rfl⟩:=own_slice hown
  obtain ⟨ao,co,hvo⟩:=hop.slice
  obtain ⟨t,ht⟩ : ∃ t,s.extract a s.size = t:=⟨_,rfl⟩
  have htl : t.data.toList = s.data.toList.drop a:=by rw [← ht,extract_drop]
  have hts0 : t.size = s.size - a:=by rw [← lst_len,htl,List.length_drop,lst_len]
  subst hvo
  have c0 : W1.cell? ⟨W.heap.size,0,none⟩ = some (.string s):=hB.two.k0.cell 0
  have c1 : W1.cell? ⟨W.heap.size,1,none⟩ = some (.int .i64 (a : Int)):=hB.two.k0.cell 1
  have hle : (a : Int) ≤ (s.size : Int):=by omega
  have HBB:=hid hB;have HO:=hid hown;have HOP:=hid hop;have HTL:=hid htl
  have hpl:=Lx.piece_le (s.data.toList.drop a)
  rw [hp,List.length_drop,lst_len] at hpl
  have hpc:=fun w=>rpiece_calls t (by omega) w
  rw [htl] at hpc
  simp only [hp] at hpc
  have HPC:=hid hpc
  clear hpc
  have h0t : 0 < t.size:=by omega
  have hbq : ∃ b,t[0]'h0t = b:=⟨_,rfl⟩
  obtain ⟨b,hbq⟩:=hbq
  have hcons:=data_cons t h0t
  rw [htl,hbq] at hcons
  have hn0 : decide ((0 : Int) < ((0 : Nat) : Int)) = false:=decide_eq_false (by omega)
  have T34 : (((t[0]'h0t).toNat : Int) == 34) = false:=by rw [hbq];exact (byte_eq b 34 (by omega)).trans (decide_eq_false (fun e=>h34 (by rw [hcons,e];rfl)))
  have h1t : 1 < t.size:=by omega
  have h1ti : (1 : Int) < (t.size : Int):=by omega
  have T2 : decide ((t.size : Int) < 2) = false:=decide_eq_false (by omega)
  have hb1 : (t[1]'h1t) = (s.data.toList.drop a).getD 1 0:=by rw [← getD_byte t 1 h1t,htl]
  have T40 : (((t[1]'h1t).toNat : Int) == 40) = true:=by rw [hb1,h40];rfl
  have TD : decide ((256 : Int) ≤ (op.length : Int)) = true:=decide_eq_true (by omega)
  clear hb1 h40
  clear hB hown hop hp htl hcons h34 hbq hts0
  unfold lF
  go_enter Try.func29,Try.ntmps29
  go_wp2_with fail
  ((with_reducible refine (HPC.out _).mono ?_);rintro e' w2 ⟨rfl,hb2⟩)
  have hB2:=HBB.out.go hb2
  have d0 : w2.cell? ⟨W.heap.size,0,none⟩ = some (.string s):=hB2.two.k0.cell 0
  have d1 : w2.cell? ⟨W.heap.size,1,none⟩ = some (.int .i64 (a : Int)):=hB2.two.k0.cell 1
  have d2 : w2.cell? ⟨W.heap.size,2,none⟩ = some (.slice al ll cl):=hB2.two.k0.cell 2
  have d3 : w2.cell? ⟨W.heap.size,3,none⟩ = some (.slice ao op.length co):=hB2.two.k0.cell 3
  have d4 : w2.cell? ⟨W.heap.size,4,none⟩ = some (.bool true):=hB2.two.k0.cell 4
  have d5 : w2.cell? ⟨W.heap.size,5,none⟩ = some (.int .i64 0):=hB2.two.k0.cell 5
  have df3:=hB2.two.k0.frozen 3;have df4:=hB2.two.k0.frozen 4;have df5:=hB2.two.k0.frozen 5
  have r0 : w2.cell? ⟨W.heap.size + 1,0,none⟩ = some (.string ⟨#[]⟩):=hB2.two.k1.cell 0
  have r1 : w2.cell? ⟨W.heap.size + 1,1,none⟩ = some (.int .i64 0):=hB2.two.k1.cell 1
  have r2 : w2.cell? ⟨W.heap.size + 1,2,none⟩ = some (.slice none 0 0):=hB2.two.k1.cell 2
  have r3 : w2.cell? ⟨W.heap.size + 1,3,none⟩ = some (.slice none 0 0):=hB2.two.k1.cell 3
  have r4 : w2.cell? ⟨W.heap.size + 1,4,none⟩ = some (.bool false):=hB2.two.k1.cell 4
  have r5 : w2.cell? ⟨W.heap.size + 1,5,none⟩ = some (.int .i64 0):=hB2.two.k1.cell 5
  have f0:=hB2.two.k1.frozen 0;have f1:=hB2.two.k1.frozen 1;have f2:=hB2.two.k1.frozen 2;have f3:=hB2.two.k1.frozen 3;have f4:=hB2.two.k1.frozen 4;have f5:=hB2.two.k1.frozen 5
  have H3:=hid (hB2.set5 21)
  clear c0 c1 hb2 hB2
  go_wp2_with fail
  have q:=six_set H3.out.two.k1 (.string s) (.int .i64 (a : Int)) (.slice al ll cl) (.slice ao op.length co) (.bool true) (.int .i64 21)
  have q0:=q.cell 0;have q1:=q.cell 1;have q2:=q.cell 2;have q3:=q.cell 3;have q4:=q.cell 4;have q5:=q.cell 5
  refine bodyPost_ret (v:=.agg (lF s (a : Int) (.slice al ll cl) (.slice ao op.length co) true 21)) ?_ rfl ?_
  · unfold lF
    simp [results,Try.results29,go_sem,q0,q1,q2,q3,q4,q5]
  · exact H3.out.same (z0:=.nilFunc) (z1:=.nilFunc) (z2:=.nilFunc) (z3:=.nilFunc) (z4:=.nilFunc) (z5:=.nilFunc)
end Go.Proofs.Ythadnhpkeljdoaa.lx
namespace Go.Proofs.Ythadnhpkeljdoaa.lx
open Go.Lib (hid)
open Go.RowKit Go.Shelf
open sg (lst_len extract_drop ext_size)
open sx
theorem inside_open (s : ByteArray) (a n r : Nat) (vL vO : Value) (op : List Int) (base : Nat) (ts : List Lx.Tok) (W : World)
    (hown : W.ownsRow base 54 2 vL ts.length (tokCells ts)) (hbase : base ≤ W.heap.size) (hts : ts.length ≤ 65536) (hop : OpenAt W vO op) (hs : s.size ≤ 65536) (ha : a < s.size)
    (hp : Lx.piece (s.data.toList.drop a) = 0) (h34 : (s.data.toList.drop a).head? ≠ some 34) (hl : 2 ≤ s.size - a) (h40 : (s.data.toList.drop a).getD 1 0 = 40) (hd : op.length < 256) (hr : a + 2 = r) (g cap : Nat) (hvn : vO = .slice (some ⟨g,0,none⟩) op.length cap) :
    Calls Try.prog 29 #[.agg (lF s (a : Int) vL vO true 0)] W (Stepped s (r : Int) false 0 (op ++ [0]) base (ts ++ [(9,[92,40])]) vL W):=by
  have hB : B6 s (a : Int) vL vO true 0 op base ts W (Lx2.two s (a : Int) vL vO true 0 W):=B6.start hown hop
  obtain ⟨W1,hW1⟩ : ∃ W1,Lx2.two s (a : Int) vL vO true 0 W = W1:=⟨_,rfl⟩
  rw [hW1] at hB
  unfold Lx2.two lF at hW1
  obtain ⟨al,ll,cl,rfl⟩:=own_slice hown
  obtain ⟨t,ht⟩ : ∃ t,s.extract a s.size = t:=⟨_,rfl⟩
  have htl : t.data.toList = s.data.toList.drop a:=by rw [← ht,extract_drop]
  have hts0 : t.size = s.size - a:=by rw [← lst_len,htl,List.length_drop,lst_len]
  subst hvn
  have c0 : W1.cell? ⟨W.heap.size,0,none⟩ = some (.string s):=hB.two.k0.cell 0
  have c1 : W1.cell? ⟨W.heap.size,1,none⟩ = some (.int .i64 (a : Int)):=hB.two.k0.cell 1
  have hle : (a : Int) ≤ (s.size : Int):=by omega
  have HBB:=hid hB;have HO:=hid hown;have HOP:=hid hop;have HTL:=hid htl
  have hpl:=Lx.piece_le (s.data.toList.drop a)
  rw [hp,List.length_drop,lst_len] at hpl
  have hpc:=fun w=>rpiece_calls t (by omega) w
  rw [htl] at hpc
  simp only [hp] at hpc
  have HPC:=hid hpc
  clear hpc
  have h0t : 0 < t.size:=by omega
  have hbq : ∃ b,t[0]'h0t = b:=⟨_,rfl⟩
  obtain ⟨b,hbq⟩:=hbq
  have hcons:=data_cons t h0t
  rw [htl,hbq] at hcons
  have hn0 : decide ((0 : Int) < ((0 : Nat) : Int)) = false:=decide_eq_false (by omega)
  have hb34 : b ≠ 34:=fun e=>h34 (by rw [hcons,e];rfl)
  have T34 : (((t[0]'h0t).toNat : Int) == 34) = false:=by rw [hbq];exact (byte_eq b 34 (by omega)).trans (decide_eq_false hb34)
  have h1t : 1 < t.size:=by omega
  have h1ti : (1 : Int) < (t.size : Int):=by omega
  have T2 : decide ((t.size : Int) < 2) = false:=decide_eq_false (by omega)
  have hb1 : (t[1]'h1t) = (s.data.toList.drop a).getD 1 0:=by rw [← getD_byte t 1 h1t,htl]
  have T40 : (((t[1]'h1t).toNat : Int) == 40) = true:=by rw [hb1,h40];rfl
  have TD : decide ((256 : Int) ≤ (op.length : Int)) = false:=decide_eq_false (by omega)
  have hb92 : b = 92:=by rw [hcons] at hp;exact piece_zero hp hb34
  have htake : (s.data.toList.drop a).take 2 = [92,40]:=by
    rw [hcons,hb92] at h40 ⊢
    have hl2:=congrArg List.length hcons
    rw [List.length_drop,lst_len] at hl2
    cases hd2 : (s.data.toList.drop a).drop 1 with
    | nil=>rw [hd2] at hl2;simp at hl2;omega
    | cons u v=>rw [hd2] at h40;simp at h40;subst h40;rfl
  have hx : (t.extract 0 2).data.toList = [92,40]:=by
    rw [ByteArray.data_extract,Array.toList_extract,htl];simp only [List.extract,List.drop_zero];exact htake
  have hxs : (t.extract 0 2).size = 2:=by rw [← lst_len,hx];rfl
  have hsum : wrap64 ((a : Int) + ((t.extract 0 2).size : Int)) = (r : Int):=by rw [hxs,IntWalk.wrap64_in _ (by omega)];omega
  have hge : (2 : Int) ≤ (t.size : Int):=by omega
  have hge2 : 2 ≤ t.size:=by omega
  have HX:=hid hx;have HS:=hid hsum
  obtain ⟨i0,hi,hz0,hz1,hz2⟩:=info_parts infoInt
  clear hB hx hown hop hsum hp htl hcons h34 hbq htake hb92 hb34 hb1 h40 hts0
  unfold lF
  go_enter Try.func29,Try.ntmps29
  go_wp2_with fail
  ((with_reducible refine (HPC.out _).mono ?_);rintro e' w2 ⟨rfl,hb2⟩)
  have hB2:=HBB.out.go hb2
  have d0 : w2.cell? ⟨W.heap.size,0,none⟩ = some (.string s):=hB2.two.k0.cell 0
  have d1 : w2.cell? ⟨W.heap.size,1,none⟩ = some (.int .i64 (a : Int)):=hB2.two.k0.cell 1
  have d2 : w2.cell? ⟨W.heap.size,2,none⟩ = some (.slice al ll cl):=hB2.two.k0.cell 2
  have d3 : w2.cell? ⟨W.heap.size,3,none⟩ = some (.slice (some ⟨g,0,none⟩) op.length cap):=hB2.two.k0.cell 3
  have d4 : w2.cell? ⟨W.heap.size,4,none⟩ = some (.bool true):=hB2.two.k0.cell 4
  have d5 : w2.cell? ⟨W.heap.size,5,none⟩ = some (.int .i64 0):=hB2.two.k0.cell 5
  have df3:=hB2.two.k0.frozen 3;have df4:=hB2.two.k0.frozen 4;have df5:=hB2.two.k0.frozen 5
  have hnews:=ints_news (fun j x hx=>hB2.op.cells j x hx)
  have hrow0 : w2.ownsRow w2.heap.size 3 1 (.slice none 0 0) 0 []:=World.ownsRow_nil _ _ _ _
  have HB2:=hid hB2;have HN:=hid hnews
  clear c0 c1 hb2 hB2 hnews
  go_wp2_with (at_builtin;(refine wpList_append_own _ rfl _ _ 31 rfl w2.heap.size 3 i0 (.int .i64 0) 1 8 Try.underlying31 hi hz0 hz1 hz2 rfl (by decide) _ _ _ rfl hrow0 ⟨g,0,none⟩ op.length _ (ints op) rfl (by simp [ints]) HN.out (ints_one _) (by unfold maxLen;omega) (by omega) (Nat.le_refl _) ?_;intro v7 w7 hown7 hgrow7 _;rw [List.nil_append,Nat.zero_add] at hown7;obtain ⟨a7,l7,c7,rfl⟩:=own_slice hown7;have hb7:=grown_nil' hgrow7;have HO7:=hid hown7;have HB7:=hid hb7;clear hgrow7 hb7;go_wp2_with (at_builtin;(refine wpList_append_own _ rfl _ _ 31 rfl w2.heap.size 3 i0 (.int .i64 0) 1 8 Try.underlying31 hi hz0 hz1 hz2 rfl (by decide) _ _ _ rfl (hown7.alloc _) ⟨w7.heap.size,0,none⟩ 1 1 [.int .i64 0] rfl rfl (cell_one_new _ _ _) (by simp [Value.oneCell']) (by unfold maxLen;omega) (by omega) (by simp;have:=HB7.out.size;omega) ?_;intro v8 w8 hown8 hgrow8 _;obtain ⟨a8,l8,c8,rfl⟩:=own_slice hown8;have hb8:=HB7.out.trans (((Below.refl w2.heap.size w7).alloc HB7.out.size _).trans (grown_own' hgrow8 (HO7.out.alloc _) (by simp;have:=HB7.out.size;omega)));have hB8:=HB2.out.go hb8;have hop8 : OpenAt w8 (.slice a8 l8 c8) (op ++ [0]):=open_of_own (by rw [List.length_append];unfold ints at hown8 ⊢;rw [List.map_append];exact hown8);have g0 : w8.cell? ⟨W.heap.size,0,none⟩ = some (.string s):=hB8.two.k0.cell 0;have g1 : w8.cell? ⟨W.heap.size,1,none⟩ = some (.int .i64 (a : Int)):=hB8.two.k0.cell 1;have g2 : w8.cell? ⟨W.heap.size,2,none⟩ = some (.slice al ll cl):=hB8.two.k0.cell 2;have g3 : w8.cell? ⟨W.heap.size,3,none⟩ = some (.slice (some ⟨g,0,none⟩) op.length cap):=hB8.two.k0.cell 3;have g4 : w8.cell? ⟨W.heap.size,4,none⟩ = some (.bool true):=hB8.two.k0.cell 4;have g5 : w8.cell? ⟨W.heap.size,5,none⟩ = some (.int .i64 0):=hB8.two.k0.cell 5;  have gf3:=hB8.two.k0.frozen 3;have gf4:=hB8.two.k0.frozen 4;have H8:=hid hB8;have HOP8:=hid hop8;have HO8:=hid hown8;clear hown7 hgrow8 hb8 hB8 hop8 hown8))))
  obtain ⟨wx,hwx⟩ : ∃ wx,(w8.setCell ⟨W.heap.size,3,none⟩ (.slice a8 l8 c8)).setCell ⟨W.heap.size,4,none⟩ (.bool false) = wx:=⟨_,rfl⟩
  have hBx : B6 s (a : Int) (.slice al ll cl) (.slice a8 l8 c8) false 0 (op ++ [0]) base ts W wx:=by rw [← hwx];exact (H8.out.set3 HOP8.out).set4 false
  have x0 : wx.cell? ⟨W.heap.size,0,none⟩ = some (.string s):=hBx.two.k0.cell 0
  have x1 : wx.cell? ⟨W.heap.size,1,none⟩ = some (.int .i64 (a : Int)):=hBx.two.k0.cell 1
  have x2 : wx.cell? ⟨W.heap.size,2,none⟩ = some (.slice al ll cl):=hBx.two.k0.cell 2
  have x3 : wx.cell? ⟨W.heap.size,3,none⟩ = some (.slice a8 l8 c8):=hBx.two.k0.cell 3
  have x4 : wx.cell? ⟨W.heap.size,4,none⟩ = some (.bool false):=hBx.two.k0.cell 4
  have x5 : wx.cell? ⟨W.heap.size,5,none⟩ = some (.int .i64 0):=hBx.two.k0.cell 5
  obtain ⟨w3,hw3⟩ : ∃ w3,(wx).drew = w3:=⟨_,rfl⟩
  have h3 : B6 s (a : Int) (.slice al ll cl) (.slice a8 l8 c8) false 0 (op ++ [0]) base ts W w3:=by rw [← hw3];exact (hBx).drew'
  have hput3:=put_calls s (a : Int) (r : Int) (.slice al ll cl) (.slice a8 l8 c8) false 0 9 (t.extract 0 2) base ts w3 h3.own (Nat.le_trans hbase h3.two.hb.size) hts HS.out a8 l8 c8 rfl
  unfold lF at hput3
  have H3:=hid h3;have HPUT:=hid hput3;have HW3:=hid hw3
  clear h3 hput3
  rw [hwx]
  clear hw3
  refine wp_region_still_tail 4 (by kernel_rfl) (by kernel_rfl) ?_
  simp only [List.take_succ_cons,List.take_zero,List.drop_succ_cons,List.drop_zero]
  repeat still_step
  refine wpStill_nil ?_
  change wpList _ _ _ _ _ wx.drew
  rw [HW3.out]
  clear hwx x0 x1 x2 x3 x4 x5 hBx
  go_wp2_with fail
  ((with_reducible refine HPUT.out.mono ?_);rintro e' w4 ⟨vL',rfl,hown4,hb4⟩)
  have k4:=put_end (s:=s) (a:=0) (vO:=.slice none 0 0) (inn:=true) (e:=0) H3.out.two.hb H3.out.two.hs H3.out.two.k1 H3.out.own hb4
  obtain ⟨a5,l5,c5,rfl⟩:=own_slice hown4
  have r0 : w4.cell? ⟨W.heap.size + 1,0,none⟩ = some (.string ⟨#[]⟩):=k4.cell 0
  have r1 : w4.cell? ⟨W.heap.size + 1,1,none⟩ = some (.int .i64 0):=k4.cell 1
  have r2 : w4.cell? ⟨W.heap.size + 1,2,none⟩ = some (.slice none 0 0):=k4.cell 2
  have r3 : w4.cell? ⟨W.heap.size + 1,3,none⟩ = some (.slice none 0 0):=k4.cell 3
  have r4 : w4.cell? ⟨W.heap.size + 1,4,none⟩ = some (.bool false):=k4.cell 4
  have r5 : w4.cell? ⟨W.heap.size + 1,5,none⟩ = some (.int .i64 0):=k4.cell 5
  have f0:=k4.frozen 0;have f1:=k4.frozen 1;have f2:=k4.frozen 2;have f3:=k4.frozen 3;have f4:=k4.frozen 4;have f5:=k4.frozen 5
  have HK4:=hid k4;have HO4:=hid hown4;have HB4:=hid hb4
  clear k4 hown4 hb4
  unfold lF
  go_wp2_with fail
  rw [← HX.out]
  have q:=six_set HK4.out (.string s) (.int .i64 (r : Int)) (.slice a5 l5 c5) (.slice a8 l8 c8) (.bool false) (.int .i64 0)
  have q0:=q.cell 0;have q1:=q.cell 1;have q2:=q.cell 2;have q3:=q.cell 3;have q4:=q.cell 4;have q5:=q.cell 5
  refine bodyPost_ret (v:=.agg (lF s (r : Int) (.slice a5 l5 c5) (.slice a8 l8 c8) false 0)) ?_ rfl ?_
  · unfold lF
    simp [results,Try.results29,go_sem,q0,q1,q2,q3,q4,q5]
  · exact step_end H3.out.two.hb H3.out.two.hs H3.out.own HB4.out HK4.out HO4.out H3.out.op
theorem inside_first (s : ByteArray) (a n r : Nat) (vL vO : Value) (op : List Int) (base : Nat) (ts : List Lx.Tok) (W : World)
    (hown : W.ownsRow base 54 2 vL ts.length (tokCells ts)) (hbase : base ≤ W.heap.size) (hts : ts.length ≤ 65536) (hop : OpenAt W vO op) (hs : s.size ≤ 65536) (ha : a < s.size)
    (hp : Lx.piece (s.data.toList.drop a) = 0) (h34 : (s.data.toList.drop a).head? ≠ some 34) (hl : 2 ≤ s.size - a) (h40 : (s.data.toList.drop a).getD 1 0 = 40) (hd : op.length < 256) (hr : a + 2 = r) (hvn : vO = .slice none 0 0) :
    Calls Try.prog 29 #[.agg (lF s (a : Int) vL vO true 0)] W (Stepped s (r : Int) false 0 (op ++ [0]) base (ts ++ [(9,[92,40])]) vL W):=by
  have hB : B6 s (a : Int) vL vO true 0 op base ts W (Lx2.two s (a : Int) vL vO true 0 W):=B6.start hown hop
  obtain ⟨W1,hW1⟩ : ∃ W1,Lx2.two s (a : Int) vL vO true 0 W = W1:=⟨_,rfl⟩
  rw [hW1] at hB
  unfold Lx2.two lF at hW1
  obtain ⟨al,ll,cl,rfl⟩:=own_slice hown
  obtain ⟨ao,co,hvo⟩:=hop.slice
  obtain ⟨t,ht⟩ : ∃ t,s.extract a s.size = t:=⟨_,rfl⟩
  have htl : t.data.toList = s.data.toList.drop a:=by rw [← ht,extract_drop]
  have hts0 : t.size = s.size - a:=by rw [← lst_len,htl,List.length_drop,lst_len]
  subst hvn
  have hop0 : op = []:=by
    rcases hop with ⟨_,h⟩ | ⟨_,_,_,h,_⟩
    · exact h
    · cases h
  subst hop0
  cases hvo
  have c0 : W1.cell? ⟨W.heap.size,0,none⟩ = some (.string s):=hB.two.k0.cell 0
  have c1 : W1.cell? ⟨W.heap.size,1,none⟩ = some (.int .i64 (a : Int)):=hB.two.k0.cell 1
  have hle : (a : Int) ≤ (s.size : Int):=by omega
  have HBB:=hid hB;have HO:=hid hown;have HOP:=hid hop;have HTL:=hid htl
  have hpl:=Lx.piece_le (s.data.toList.drop a)
  rw [hp,List.length_drop,lst_len] at hpl
  have hpc:=fun w=>rpiece_calls t (by omega) w
  rw [htl] at hpc
  simp only [hp] at hpc
  have HPC:=hid hpc
  clear hpc
  have h0t : 0 < t.size:=by omega
  have hbq : ∃ b,t[0]'h0t = b:=⟨_,rfl⟩
  obtain ⟨b,hbq⟩:=hbq
  have hcons:=data_cons t h0t
  rw [htl,hbq] at hcons
  have hn0 : decide ((0 : Int) < ((0 : Nat) : Int)) = false:=decide_eq_false (by omega)
  have hb34 : b ≠ 34:=fun e=>h34 (by rw [hcons,e];rfl)
  have T34 : (((t[0]'h0t).toNat : Int) == 34) = false:=by rw [hbq];exact (byte_eq b 34 (by omega)).trans (decide_eq_false hb34)
  have h1t : 1 < t.size:=by omega
  have h1ti : (1 : Int) < (t.size : Int):=by omega
  have T2 : decide ((t.size : Int) < 2) = false:=decide_eq_false (by omega)
  have hb1 : (t[1]'h1t) = (s.data.toList.drop a).getD 1 0:=by rw [← getD_byte t 1 h1t,htl]
  have T40 : (((t[1]'h1t).toNat : Int) == 40) = true:=by rw [hb1,h40];rfl
  have TD : decide ((256 : Int) ≤ (0 : Int)) = false:=by decide
  have hb92 : b = 92:=by rw [hcons] at hp;exact piece_zero hp hb34
  have htake : (s.data.toList.drop a).take 2 = [92,40]:=by
    rw [hcons,hb92] at h40 ⊢
    have hl2:=congrArg List.length hcons
    rw [List.length_drop,lst_len] at hl2
    cases hd2 : (s.data.toList.drop a).drop 1 with
    | nil=>rw [hd2] at hl2;simp at hl2;omega
    | cons u v=>rw [hd2] at h40;simp at h40;subst h40;rfl
  have hx : (t.extract 0 2).data.toList = [92,40]:=by
    rw [ByteArray.data_extract,Array.toList_extract,htl];simp only [List.extract,List.drop_zero];exact htake
  have hxs : (t.extract 0 2).size = 2:=by rw [← lst_len,hx];rfl
  have hsum : wrap64 ((a : Int) + ((t.extract 0 2).size : Int)) = (r : Int):=by rw [hxs,IntWalk.wrap64_in _ (by omega)];omega
  have hge : (2 : Int) ≤ (t.size : Int):=by omega
  have hge2 : 2 ≤ t.size:=by omega
  have HX:=hid hx;have HS:=hid hsum
  obtain ⟨i0,hi,hz0,hz1,hz2⟩:=info_parts infoInt
  clear hB hx hown hop hsum hp htl hcons h34 hbq htake hb92 hb34 hb1 h40 hts0
  unfold lF
  go_enter Try.func29,Try.ntmps29
  go_wp2_with fail
  ((with_reducible refine (HPC.out _).mono ?_);rintro e' w2 ⟨rfl,hb2⟩)
  have hB2:=HBB.out.go hb2
  have d0 : w2.cell? ⟨W.heap.size,0,none⟩ = some (.string s):=hB2.two.k0.cell 0
  have d1 : w2.cell? ⟨W.heap.size,1,none⟩ = some (.int .i64 (a : Int)):=hB2.two.k0.cell 1
  have d2 : w2.cell? ⟨W.heap.size,2,none⟩ = some (.slice al ll cl):=hB2.two.k0.cell 2
  have d3 : w2.cell? ⟨W.heap.size,3,none⟩ = some (.slice none 0 0):=hB2.two.k0.cell 3
  have d4 : w2.cell? ⟨W.heap.size,4,none⟩ = some (.bool true):=hB2.two.k0.cell 4
  have d5 : w2.cell? ⟨W.heap.size,5,none⟩ = some (.int .i64 0):=hB2.two.k0.cell 5
  have df3:=hB2.two.k0.frozen 3;have df4:=hB2.two.k0.frozen 4;have df5:=hB2.two.k0.frozen 5
  have hrow0 : w2.ownsRow w2.heap.size 3 1 (.slice none 0 0) 0 []:=World.ownsRow_nil _ _ _ _
  have HB2:=hid hB2
  clear c0 c1 hb2 hB2
  go_wp2_with (at_builtin;(first | (refine wpList_append_own_none rfl _ _ 31 rfl w2.heap.size 3 i0 1 Try.underlying31 hi _ _ _ rfl hrow0 rfl ?_) | (refine wpList_append_own _ rfl _ _ 31 rfl w2.heap.size 3 i0 (.int .i64 0) 1 8 Try.underlying31 hi hz0 hz1 hz2 rfl (by decide) _ _ _ rfl (hrow0.alloc _) ⟨w2.heap.size,0,none⟩ 1 1 [.int .i64 0] rfl rfl (cell_one_new _ _ _) (by simp [Value.oneCell']) (by unfold maxLen;omega) (by omega) (by simp) ?_;intro v8 w8 hown8 hgrow8 _;obtain ⟨a8,l8,c8,rfl⟩:=own_slice hown8;have hb8:=(((Below.refl w2.heap.size w2).alloc (Nat.le_refl _) _).trans (grown_own' hgrow8 (hrow0.alloc _) (by simp)));have hB8:=HB2.out.go hb8;have hop8 : OpenAt w8 (.slice a8 l8 c8) ([] ++ [0]):=open_of_own hown8;have g0 : w8.cell? ⟨W.heap.size,0,none⟩ = some (.string s):=hB8.two.k0.cell 0;have g1 : w8.cell? ⟨W.heap.size,1,none⟩ = some (.int .i64 (a : Int)):=hB8.two.k0.cell 1;have g2 : w8.cell? ⟨W.heap.size,2,none⟩ = some (.slice al ll cl):=hB8.two.k0.cell 2;have g3 : w8.cell? ⟨W.heap.size,3,none⟩ = some (.slice none 0 0):=hB8.two.k0.cell 3;have g4 : w8.cell? ⟨W.heap.size,4,none⟩ = some (.bool true):=hB8.two.k0.cell 4;have g5 : w8.cell? ⟨W.heap.size,5,none⟩ = some (.int .i64 0):=hB8.two.k0.cell 5;  have gf3:=hB8.two.k0.frozen 3;have gf4:=hB8.two.k0.frozen 4;have H8:=hid hB8;have HOP8:=hid hop8;have HO8:=hid hown8;clear hgrow8 hb8 hB8 hop8 hown8)))
  obtain ⟨wx,hwx⟩ : ∃ wx,(w8.setCell ⟨W.heap.size,3,none⟩ (.slice a8 l8 c8)).setCell ⟨W.heap.size,4,none⟩ (.bool false) = wx:=⟨_,rfl⟩
  have hBx : B6 s (a : Int) (.slice al ll cl) (.slice a8 l8 c8) false 0 ([] ++ [0]) base ts W wx:=by rw [← hwx];exact (H8.out.set3 HOP8.out).set4 false
  have x0 : wx.cell? ⟨W.heap.size,0,none⟩ = some (.string s):=hBx.two.k0.cell 0
  have x1 : wx.cell? ⟨W.heap.size,1,none⟩ = some (.int .i64 (a : Int)):=hBx.two.k0.cell 1
  have x2 : wx.cell? ⟨W.heap.size,2,none⟩ = some (.slice al ll cl):=hBx.two.k0.cell 2
  have x3 : wx.cell? ⟨W.heap.size,3,none⟩ = some (.slice a8 l8 c8):=hBx.two.k0.cell 3
  have x4 : wx.cell? ⟨W.heap.size,4,none⟩ = some (.bool false):=hBx.two.k0.cell 4
  have x5 : wx.cell? ⟨W.heap.size,5,none⟩ = some (.int .i64 0):=hBx.two.k0.cell 5
  obtain ⟨w3,hw3⟩ : ∃ w3,(wx).drew = w3:=⟨_,rfl⟩
  have h3 : B6 s (a : Int) (.slice al ll cl) (.slice a8 l8 c8) false 0 ([] ++ [0]) base ts W w3:=by rw [← hw3];exact (hBx).drew'
  have hput3:=put_calls s (a : Int) (r : Int) (.slice al ll cl) (.slice a8 l8 c8) false 0 9 (t.extract 0 2) base ts w3 h3.own (Nat.le_trans hbase h3.two.hb.size) hts HS.out a8 l8 c8 rfl
  unfold lF at hput3
  have H3:=hid h3;have HPUT:=hid hput3;have HW3:=hid hw3
  clear h3 hput3
  rw [hwx]
  clear hw3
  refine wp_region_still_tail 4 (by kernel_rfl) (by kernel_rfl) ?_
  simp only [List.take_succ_cons,List.take_zero,List.drop_succ_cons,List.drop_zero]
  repeat still_step
  refine wpStill_nil ?_
  change wpList _ _ _ _ _ wx.drew
  rw [HW3.out]
  clear hwx x0 x1 x2 x3 x4 x5 hBx
  go_wp2_with fail
  ((with_reducible refine HPUT.out.mono ?_);rintro e' w4 ⟨vL',rfl,hown4,hb4⟩)
  have k4:=put_end (s:=s) (a:=0) (vO:=.slice none 0 0) (inn:=true) (e:=0) H3.out.two.hb H3.out.two.hs H3.out.two.k1 H3.out.own hb4
  obtain ⟨a5,l5,c5,rfl⟩:=own_slice hown4
  have r0 : w4.cell? ⟨W.heap.size + 1,0,none⟩ = some (.string ⟨#[]⟩):=k4.cell 0
  have r1 : w4.cell? ⟨W.heap.size + 1,1,none⟩ = some (.int .i64 0):=k4.cell 1
  have r2 : w4.cell? ⟨W.heap.size + 1,2,none⟩ = some (.slice none 0 0):=k4.cell 2
  have r3 : w4.cell? ⟨W.heap.size + 1,3,none⟩ = some (.slice none 0 0):=k4.cell 3
  have r4 : w4.cell? ⟨W.heap.size + 1,4,none⟩ = some (.bool false):=k4.cell 4
  have r5 : w4.cell? ⟨W.heap.size + 1,5,none⟩ = some (.int .i64 0):=k4.cell 5
  have f0:=k4.frozen 0;have f1:=k4.frozen 1;have f2:=k4.frozen 2;have f3:=k4.frozen 3;have f4:=k4.frozen 4;have f5:=k4.frozen 5
  have HK4:=hid k4;have HO4:=hid hown4;have HB4:=hid hb4
  clear k4 hown4 hb4
  unfold lF
  go_wp2_with fail
  rw [← HX.out]
  have q:=six_set HK4.out (.string s) (.int .i64 (r : Int)) (.slice a5 l5 c5) (.slice a8 l8 c8) (.bool false) (.int .i64 0)
  have q0:=q.cell 0;have q1:=q.cell 1;have q2:=q.cell 2;have q3:=q.cell 3;have q4:=q.cell 4;have q5:=q.cell 5
  refine bodyPost_ret (v:=.agg (lF s (r : Int) (.slice a5 l5 c5) (.slice a8 l8 c8) false 0)) ?_ rfl ?_
  · unfold lF
    simp [results,Try.results29,go_sem,q0,q1,q2,q3,q4,q5]
  · exact step_end H3.out.two.hb H3.out.two.hs H3.out.own HB4.out HK4.out HO4.out H3.out.op
end Go.Proofs.Ythadnhpkeljdoaa.lx
namespace Go.Proofs.Ythadnhpkeljdoaa.lx
open Go.Lib (hid)
open Go.RowKit Go.Shelf
open sg (lst_len extract_drop ext_size)
open sx
theorem tok_box (w2 : World) (k : Int) (tx : ByteArray) : Blk (w2.alloc (.cells #[.int .i64 k,.string tx] 54)) w2.heap.size 54 #[.int .i64 k,.string tx] ∧
    Below w2.heap.size w2 (w2.alloc (.cells #[.int .i64 k,.string tx] 54)) :=
  ⟨Blk.new w2 _ _,(Below.refl _ w2).alloc (Nat.le_refl _) _⟩
theorem bt_ne {s : ByteArray} {a : Int} {vL vO : Value} {inn : Bool} {e : Int} {op : List Int} {base : Nat} {ts : List Lx.Tok} {W W1 : World} {Bt : Nat} (h : B6 s a vL vO inn e op base ts W W1) (hb : W1.heap.size = Bt) : Bt ≠ W.heap.size:=by have:=h.two.hs;omega
theorem bt_ne1 {s : ByteArray} {a : Int} {vL vO : Value} {inn : Bool} {e : Int} {op : List Int} {base : Nat} {ts : List Lx.Tok} {W W1 : World} {Bt : Nat} (h : B6 s a vL vO inn e op base ts W W1) (hb : W1.heap.size = Bt) : Bt ≠ W.heap.size + 1:=by have:=h.two.hs;omega
theorem ne_emp (s : ByteArray) (h : 0 < s.size) : s.toList.isEmpty = false:=by
  rw [toList_eq]
  cases hq : s.data.toList with
  | nil=>have:=lst_len s;rw [hq] at this;simp at this;omega
  | cons a r=>rfl
theorem B6.pop {s : ByteArray} {a : Int} {vL : Value} {inn : Bool} {e : Int} {op : List Int} {base : Nat} {ts : List Lx.Tok} {W W1 : World} {g cap m : Nat} (h : B6 s a vL (.slice (some ⟨g,0,none⟩) op.length cap) inn e op base ts W W1) (hm : m ≤ op.length) : OpenAt W1 (.slice (some ⟨g,0,none⟩) m cap) (op.take m):=by
  rcases h.op with ⟨h1,_⟩ | ⟨g',cap',cur,h1,h2,h3,h4⟩
  · cases h1
  · cases h1
    refine .inr ⟨g,cap,cur,by rw [List.length_take,Nat.min_eq_left hm],h2,by rw [List.length_take];omega,fun j x hx=>h4 j x ?_⟩
    have hj:=(List.getElem?_eq_some_iff.1 hx).1
    rw [List.length_take] at hj
    rwa [List.getElem?_take_of_lt (by omega)] at hx
theorem OpenAt.cap {W : World} {g cap : Nat} {op : List Int} (h : OpenAt W (.slice (some ⟨g,0,none⟩) op.length cap) op) : op.length ≤ cap:=by
  rcases h with ⟨h1,_⟩ | ⟨g',cap',cur,h1,h2,h3,h4⟩
  · cases h1
  · cases h1;exact h3
theorem open_turn {W : World} {base g cap m : Nat} {op : List Int} {r : Int} (h : W.ownsRow base 3 1 (.slice (some ⟨g,0,none⟩) op.length cap) op.length (ints op)) (hm : m + 1 = op.length) : OpenAt (W.setCell ⟨g,m,none⟩ (.int .i64 r)) (.slice (some ⟨g,0,none⟩) op.length cap) (op.take m ++ [r]):=by
  have h0:=open_of_own h
  rcases h.2 with ⟨h1,_⟩ | ⟨g',cap',cur,h1,h2,h3,h4,h5,h6,h7⟩
  · cases h1
  · cases h1
    have hsz : op.length ≤ cur.size:=by
      have:=congrArg List.length h7
      unfold ints at this
      rw [List.length_take,List.length_map,Array.length_toList] at this
      omega
    have hb : Blk W g 3 cur:=h3
    refine .inr ⟨g,cap,_,by rw [List.length_append,List.length_take];simp;omega,hb.set (o:=m) _,by rw [List.length_append,List.length_take];simp;omega,fun j x hx=>?_⟩
    by_cases hj : j < m
    · rw [List.getElem?_append_left (by rw [List.length_take];omega),List.getElem?_take_of_lt hj] at hx
      rw [Array.getElem?_setIfInBounds_ne (by omega)]
      have:=h0.cells j x hx
      rw [hb.cell j] at this
      exact this
    · have hjm : j = m:=by
        have:=(List.getElem?_eq_some_iff.1 hx).1
        rw [List.length_append,List.length_take] at this
        simp at this
        omega
      subst hjm
      rw [List.getElem?_append_right (by rw [List.length_take];omega),List.length_take,Nat.min_eq_left (by omega)] at hx
      simp at hx
      subst hx
      rw [Array.getElem?_setIfInBounds_self_of_lt (by omega)]
theorem outside_none (s : ByteArray) (a n r : Nat) (kd : Int) (vL vO : Value) (op : List Int) (base : Nat) (ts : List Lx.Tok) (W : World)
    (hown : W.ownsRow base 54 2 vL ts.length (tokCells ts)) (hbase : base ≤ W.heap.size) (hts : ts.length ≤ 65536) (hop : OpenAt W vO op) (hs : s.size ≤ 65536) (ha : a < s.size)
    (hpf : pf (s.data.toList.drop a) = (kd,n)) (hn : n = 0) :
    Calls Try.prog 30 #[.agg (lF s (a : Int) vL vO false 0)] W (Stepped s (a : Int) false 11 op base ts vL W):=by
  have hB : B6 s (a : Int) vL vO false 0 op base ts W (Lx2.two s (a : Int) vL vO false 0 W):=B6.start hown hop
  obtain ⟨W1,hW1⟩ : ∃ W1,Lx2.two s (a : Int) vL vO false 0 W = W1:=⟨_,rfl⟩
  rw [hW1] at hB
  unfold Lx2.two lF at hW1
  obtain ⟨al,ll,cl,rfl⟩:=own_slice hown
  obtain ⟨ao,co,hvo⟩:=hop.slice
  obtain ⟨t,ht⟩ : ∃ t,s.extract a s.size = t:=⟨_,rfl⟩
  have htl : t.data.toList = s.data.toList.drop a:=by rw [← ht,extract_drop]
  have hts0 : t.size = s.size - a:=by rw [← lst_len,htl,List.length_drop,lst_len]
  subst hvo
  have c0 : W1.cell? ⟨W.heap.size,0,none⟩ = some (.string s):=hB.two.k0.cell 0
  have c1 : W1.cell? ⟨W.heap.size,1,none⟩ = some (.int .i64 (a : Int)):=hB.two.k0.cell 1
  have hle : (a : Int) ≤ (s.size : Int):=by omega
  have HBB:=hid hB;have HO:=hid hown;have HOP:=hid hop;have HTL:=hid htl
  have h0t : 0 < t.size:=by omega
  have hpc:=fun w=>plain_calls t (by omega) h0t w
  have hnl:=pf_le (s.data.toList.drop a)
  rw [hpf,List.length_drop,lst_len] at hnl
  rw [htl,hpf] at hpc
  have HPC:=hid hpc
  have hx : (t.extract 0 n).data.toList = (s.data.toList.drop a).take n:=by
    rw [ByteArray.data_extract,Array.toList_extract,htl];simp [List.extract]
  have hxs : (t.extract 0 n).size = n:=by rw [← lst_len,hx,List.length_take,List.length_drop,lst_len];simp only at hnl;omega
  simp only at hnl
  obtain ⟨tx,htx⟩ : ∃ tx,t.extract 0 n = tx:=⟨_,rfl⟩
  rw [htx] at hx hxs
  have HTX:=hid htx
  clear hpc
  have TE : tx.toList.isEmpty = true:=by
    have : tx.data.toList = []:=by rw [hx,hn];rfl
    rw [toList_eq,this];rfl
  clear hB hown hop htl hts0 hpf hnl htx hx
  unfold lF
  go_enter Try.func30,Try.ntmps30
  go_wp2_with fail
  ((with_reducible refine (HPC.out _).mono ?_);rintro e' w2 ⟨rfl,hb2⟩)
  rw [HTX.out]
  obtain ⟨w5,hw5⟩ : ∃ w5,w2.alloc (.cells #[.int .i64 kd,.string tx] 54) = w5:=⟨_,rfl⟩
  obtain ⟨hbox,hbb⟩:=tok_box w2 kd tx
  rw [hw5] at hbox hbb
  have hB5:=(HBB.out.go hb2).go hbb
  obtain ⟨Bt,hBt⟩ : ∃ Bt,w2.heap.size = Bt:=⟨_,rfl⟩
  have hBtn : Bt ≠ W.heap.size:=bt_ne (HBB.out.go hb2) hBt
  have hBtn1 : Bt ≠ W.heap.size + 1:=bt_ne1 (HBB.out.go hb2) hBt
  rw [hBt] at hbox
  have b0 : w5.cell? ⟨Bt,0,none⟩ = some (.int .i64 kd):=hbox.cell 0
  have b1 : w5.cell? ⟨Bt,1,none⟩ = some (.string tx):=hbox.cell 1
  have bf0:=hbox.frozen 0
  have d0 : w5.cell? ⟨W.heap.size,0,none⟩ = some (.string s):=hB5.two.k0.cell 0
  have d1 : w5.cell? ⟨W.heap.size,1,none⟩ = some (.int .i64 (a : Int)):=hB5.two.k0.cell 1
  have d2 : w5.cell? ⟨W.heap.size,2,none⟩ = some (.slice al ll cl):=hB5.two.k0.cell 2
  have d3 : w5.cell? ⟨W.heap.size,3,none⟩ = some (.slice ao op.length co):=hB5.two.k0.cell 3
  have d4 : w5.cell? ⟨W.heap.size,4,none⟩ = some (.bool false):=hB5.two.k0.cell 4
  have d5 : w5.cell? ⟨W.heap.size,5,none⟩ = some (.int .i64 0):=hB5.two.k0.cell 5
  have df3:=hB5.two.k0.frozen 3;have df4:=hB5.two.k0.frozen 4;have df5:=hB5.two.k0.frozen 5
  have HB5:=hid hB5;have HBOX:=hid hbox
  clear c0 c1 hb2 hbb hB5 hbox
  have hBe:=HB5.out.set5 11
  have r0 : w5.cell? ⟨W.heap.size + 1,0,none⟩ = some (.string ⟨#[]⟩):=HB5.out.two.k1.cell 0
  have r1 : w5.cell? ⟨W.heap.size + 1,1,none⟩ = some (.int .i64 0):=HB5.out.two.k1.cell 1
  have r2 : w5.cell? ⟨W.heap.size + 1,2,none⟩ = some (.slice none 0 0):=HB5.out.two.k1.cell 2
  have r3 : w5.cell? ⟨W.heap.size + 1,3,none⟩ = some (.slice none 0 0):=HB5.out.two.k1.cell 3
  have r4 : w5.cell? ⟨W.heap.size + 1,4,none⟩ = some (.bool false):=HB5.out.two.k1.cell 4
  have r5 : w5.cell? ⟨W.heap.size + 1,5,none⟩ = some (.int .i64 0):=HB5.out.two.k1.cell 5
  have f0:=HB5.out.two.k1.frozen 0;have f1:=HB5.out.two.k1.frozen 1;have f2:=HB5.out.two.k1.frozen 2;have f3:=HB5.out.two.k1.frozen 3;have f4:=HB5.out.two.k1.frozen 4;have f5:=HB5.out.two.k1.frozen 5
  have HBE:=hid hBe
  clear hBe
  go_wp2_with fail
  have q:=six_set HBE.out.two.k1 (.string s) (.int .i64 (a : Int)) (.slice al ll cl) (.slice ao op.length co) (.bool false) (.int .i64 11)
  have q0:=q.cell 0;have q1:=q.cell 1;have q2:=q.cell 2;have q3:=q.cell 3;have q4:=q.cell 4;have q5:=q.cell 5
  refine bodyPost_ret (v:=.agg (lF s (a : Int) (.slice al ll cl) (.slice ao op.length co) false 11)) ?_ rfl ?_
  · unfold lF
    simp [results,Try.results30,go_sem,q0,q1,q2,q3,q4,q5]
  · exact HBE.out.same (z0:=.nilFunc) (z1:=.nilFunc) (z2:=.nilFunc) (z3:=.nilFunc) (z4:=.nilFunc) (z5:=.nilFunc)
theorem outside_low (s : ByteArray) (a n r : Nat) (kd : Int) (vL vO : Value) (op : List Int) (base : Nat) (ts : List Lx.Tok) (W : World)
    (hown : W.ownsRow base 54 2 vL ts.length (tokCells ts)) (hbase : base ≤ W.heap.size) (hts : ts.length ≤ 65536) (hop : OpenAt W vO op) (hs : s.size ≤ 65536) (ha : a < s.size)
    (hpf : pf (s.data.toList.drop a) = (kd,n)) (hn : n ≠ 0) (hr : a + n = r) (hop0 : op.length = 0) (hk7 : kd ≠ 7) :
    Calls Try.prog 30 #[.agg (lF s (a : Int) vL vO false 0)] W (Stepped s (r : Int) false 0 op base (ts ++ [(kd,(s.data.toList.drop a).take n)]) vL W):=by
  have hB : B6 s (a : Int) vL vO false 0 op base ts W (Lx2.two s (a : Int) vL vO false 0 W):=B6.start hown hop
  obtain ⟨W1,hW1⟩ : ∃ W1,Lx2.two s (a : Int) vL vO false 0 W = W1:=⟨_,rfl⟩
  rw [hW1] at hB
  unfold Lx2.two lF at hW1
  obtain ⟨al,ll,cl,rfl⟩:=own_slice hown
  obtain ⟨ao,co,hvo⟩:=hop.slice
  obtain ⟨t,ht⟩ : ∃ t,s.extract a s.size = t:=⟨_,rfl⟩
  have htl : t.data.toList = s.data.toList.drop a:=by rw [← ht,extract_drop]
  have hts0 : t.size = s.size - a:=by rw [← lst_len,htl,List.length_drop,lst_len]
  subst hvo
  have c0 : W1.cell? ⟨W.heap.size,0,none⟩ = some (.string s):=hB.two.k0.cell 0
  have c1 : W1.cell? ⟨W.heap.size,1,none⟩ = some (.int .i64 (a : Int)):=hB.two.k0.cell 1
  have hle : (a : Int) ≤ (s.size : Int):=by omega
  have HBB:=hid hB;have HO:=hid hown;have HOP:=hid hop;have HTL:=hid htl
  have h0t : 0 < t.size:=by omega
  have hpc:=fun w=>plain_calls t (by omega) h0t w
  have hnl:=pf_le (s.data.toList.drop a)
  rw [hpf,List.length_drop,lst_len] at hnl
  rw [htl,hpf] at hpc
  have HPC:=hid hpc
  have hx : (t.extract 0 n).data.toList = (s.data.toList.drop a).take n:=by
    rw [ByteArray.data_extract,Array.toList_extract,htl];simp [List.extract]
  have hxs : (t.extract 0 n).size = n:=by rw [← lst_len,hx,List.length_take,List.length_drop,lst_len];simp only at hnl;omega
  simp only at hnl
  obtain ⟨tx,htx⟩ : ∃ tx,t.extract 0 n = tx:=⟨_,rfl⟩
  rw [htx] at hx hxs
  have HTX:=hid htx
  clear hpc
  have TE : tx.toList.isEmpty = false:=ne_emp tx (by omega)
  have HS : Hid (wrap64 ((a : Int) + (tx.size : Int)) = (r : Int)):=hid (by rw [hxs,IntWalk.wrap64_in _ (by omega)];omega)
  have HX:=hid hx
  clear hx
  have T7 : (kd == 7) = false:=beq_eq_false_iff_ne.2 hk7
  clear hk7
  obtain ⟨K,hKn⟩ : ∃ K : Int,K = -1:=⟨_,rfl⟩
  have TK : decide ((0 : Int) ≤ K) = false:=decide_eq_false (by omega)
  have hK : wrap64 ((op.length : Int) - 1) = K:=by rw [IntWalk.wrap64_in _ (by omega)];omega
  have hK2 : IntKind.i64.wrap ((op.length : Int) - 1) = K:=(IntWalk.i64_left _).trans hK
  have HOP0:=hid hop0
  clear hKn hop0
  clear hB hown hop htl hts0 hpf hnl htx
  unfold lF
  go_enter Try.func30,Try.ntmps30
  go_wp2_with fail
  ((with_reducible refine (HPC.out _).mono ?_);rintro e' w2 ⟨rfl,hb2⟩)
  rw [HTX.out]
  obtain ⟨w5,hw5⟩ : ∃ w5,w2.alloc (.cells #[.int .i64 kd,.string tx] 54) = w5:=⟨_,rfl⟩
  obtain ⟨hbox,hbb⟩:=tok_box w2 kd tx
  rw [hw5] at hbox hbb
  have hB5:=(HBB.out.go hb2).go hbb
  obtain ⟨Bt,hBt⟩ : ∃ Bt,w2.heap.size = Bt:=⟨_,rfl⟩
  have hBtn : Bt ≠ W.heap.size:=bt_ne (HBB.out.go hb2) hBt
  have hBtn1 : Bt ≠ W.heap.size + 1:=bt_ne1 (HBB.out.go hb2) hBt
  rw [hBt] at hbox
  have b0 : w5.cell? ⟨Bt,0,none⟩ = some (.int .i64 kd):=hbox.cell 0
  have b1 : w5.cell? ⟨Bt,1,none⟩ = some (.string tx):=hbox.cell 1
  have bf0:=hbox.frozen 0
  have d0 : w5.cell? ⟨W.heap.size,0,none⟩ = some (.string s):=hB5.two.k0.cell 0
  have d1 : w5.cell? ⟨W.heap.size,1,none⟩ = some (.int .i64 (a : Int)):=hB5.two.k0.cell 1
  have d2 : w5.cell? ⟨W.heap.size,2,none⟩ = some (.slice al ll cl):=hB5.two.k0.cell 2
  have d3 : w5.cell? ⟨W.heap.size,3,none⟩ = some (.slice ao op.length co):=hB5.two.k0.cell 3
  have d4 : w5.cell? ⟨W.heap.size,4,none⟩ = some (.bool false):=hB5.two.k0.cell 4
  have d5 : w5.cell? ⟨W.heap.size,5,none⟩ = some (.int .i64 0):=hB5.two.k0.cell 5
  have df3:=hB5.two.k0.frozen 3;have df4:=hB5.two.k0.frozen 4;have df5:=hB5.two.k0.frozen 5
  have HB5:=hid hB5;have HBOX:=hid hbox
  clear c0 c1 hb2 hbb hB5 hbox
  have h3 : B6 s (a : Int) (.slice al ll cl) (.slice ao op.length co) false 0 op base ts W (w5):=HB5.out
  obtain ⟨w3,hw3⟩ : ∃ w3,(w5) = w3:=⟨_,rfl⟩
  rw [hw3] at h3
  have hput3:=put_calls s (a : Int) (r : Int) (.slice al ll cl) (.slice ao op.length co) false 0 kd tx base ts w3 h3.own (Nat.le_trans hbase h3.two.hb.size) hts HS.out ao op.length co rfl
  unfold lF at hput3
  have H3:=hid h3;have HPUT:=hid hput3;have HW3:=hid hw3
  clear h3 hput3 hw3
  go_wp2_with fail
  rw [HW3.out]
  clear d0 d1 d2 d3 d4 d5 df3 df4 df5 b0 b1 bf0
  ((with_reducible refine HPUT.out.mono ?_);rintro e' w4 ⟨vL',rfl,hown4,hb4⟩)
  have k4:=put_end (s:=s) (a:=0) (vO:=.slice none 0 0) (inn:=true) (e:=0) H3.out.two.hb H3.out.two.hs H3.out.two.k1 H3.out.own hb4
  obtain ⟨a5,l5,c5,rfl⟩:=own_slice hown4
  have r0 : w4.cell? ⟨W.heap.size + 1,0,none⟩ = some (.string ⟨#[]⟩):=k4.cell 0
  have r1 : w4.cell? ⟨W.heap.size + 1,1,none⟩ = some (.int .i64 0):=k4.cell 1
  have r2 : w4.cell? ⟨W.heap.size + 1,2,none⟩ = some (.slice none 0 0):=k4.cell 2
  have r3 : w4.cell? ⟨W.heap.size + 1,3,none⟩ = some (.slice none 0 0):=k4.cell 3
  have r4 : w4.cell? ⟨W.heap.size + 1,4,none⟩ = some (.bool false):=k4.cell 4
  have r5 : w4.cell? ⟨W.heap.size + 1,5,none⟩ = some (.int .i64 0):=k4.cell 5
  have f0:=k4.frozen 0;have f1:=k4.frozen 1;have f2:=k4.frozen 2;have f3:=k4.frozen 3;have f4:=k4.frozen 4;have f5:=k4.frozen 5
  have HK4:=hid k4;have HO4:=hid hown4;have HB4:=hid hb4
  clear k4 hown4 hb4
  unfold lF
  go_wp2_with fail
  rw [← HX.out]
  have q:=six_set HK4.out (.string s) (.int .i64 (r : Int)) (.slice a5 l5 c5) (.slice ao op.length co) (.bool false) (.int .i64 0)
  have q0:=q.cell 0;have q1:=q.cell 1;have q2:=q.cell 2;have q3:=q.cell 3;have q4:=q.cell 4;have q5:=q.cell 5
  refine bodyPost_ret (v:=.agg (lF s (r : Int) (.slice a5 l5 c5) (.slice ao op.length co) false 0)) ?_ rfl ?_
  · unfold lF
    simp [results,Try.results30,go_sem,q0,q1,q2,q3,q4,q5]
  · exact step_end H3.out.two.hb H3.out.two.hs H3.out.own HB4.out HK4.out HO4.out H3.out.op
theorem outside_low7 (s : ByteArray) (a n r : Nat) (kd : Int) (vL vO : Value) (op : List Int) (base : Nat) (ts : List Lx.Tok) (W : World)
    (hown : W.ownsRow base 54 2 vL ts.length (tokCells ts)) (hbase : base ≤ W.heap.size) (hts : ts.length ≤ 65536) (hop : OpenAt W vO op) (hs : s.size ≤ 65536) (ha : a < s.size)
    (hpf : pf (s.data.toList.drop a) = (kd,n)) (hn : n ≠ 0) (hr : a + n = r) (hop0 : op.length = 0) (hk7 : kd = 7) :
    Calls Try.prog 30 #[.agg (lF s (a : Int) vL vO false 0)] W (Stepped s (r : Int) true 0 op base (ts ++ [(kd,(s.data.toList.drop a).take n)]) vL W):=by
  have hB : B6 s (a : Int) vL vO false 0 op base ts W (Lx2.two s (a : Int) vL vO false 0 W):=B6.start hown hop
  obtain ⟨W1,hW1⟩ : ∃ W1,Lx2.two s (a : Int) vL vO false 0 W = W1:=⟨_,rfl⟩
  rw [hW1] at hB
  unfold Lx2.two lF at hW1
  obtain ⟨al,ll,cl,rfl⟩:=own_slice hown
  obtain ⟨ao,co,hvo⟩:=hop.slice
  obtain ⟨t,ht⟩ : ∃ t,s.extract a s.size = t:=⟨_,rfl⟩
  have htl : t.data.toList = s.data.toList.drop a:=by rw [← ht,extract_drop]
  have hts0 : t.size = s.size - a:=by rw [← lst_len,htl,List.length_drop,lst_len]
  subst hvo
  have c0 : W1.cell? ⟨W.heap.size,0,none⟩ = some (.string s):=hB.two.k0.cell 0
  have c1 : W1.cell? ⟨W.heap.size,1,none⟩ = some (.int .i64 (a : Int)):=hB.two.k0.cell 1
  have hle : (a : Int) ≤ (s.size : Int):=by omega
  have HBB:=hid hB;have HO:=hid hown;have HOP:=hid hop;have HTL:=hid htl
  have h0t : 0 < t.size:=by omega
  have hpc:=fun w=>plain_calls t (by omega) h0t w
  have hnl:=pf_le (s.data.toList.drop a)
  rw [hpf,List.length_drop,lst_len] at hnl
  rw [htl,hpf] at hpc
  have HPC:=hid hpc
  have hx : (t.extract 0 n).data.toList = (s.data.toList.drop a).take n:=by
    rw [ByteArray.data_extract,Array.toList_extract,htl];simp [List.extract]
  have hxs : (t.extract 0 n).size = n:=by rw [← lst_len,hx,List.length_take,List.length_drop,lst_len];simp only at hnl;omega
  simp only at hnl
  obtain ⟨tx,htx⟩ : ∃ tx,t.extract 0 n = tx:=⟨_,rfl⟩
  rw [htx] at hx hxs
  have HTX:=hid htx
  clear hpc
  have TE : tx.toList.isEmpty = false:=ne_emp tx (by omega)
  have HS : Hid (wrap64 ((a : Int) + (tx.size : Int)) = (r : Int)):=hid (by rw [hxs,IntWalk.wrap64_in _ (by omega)];omega)
  have HX:=hid hx
  clear hx
  have T7 : (kd == 7) = true:=beq_iff_eq.2 hk7
  clear hk7
  obtain ⟨K,hKn⟩ : ∃ K : Int,K = -1:=⟨_,rfl⟩
  have TK : decide ((0 : Int) ≤ K) = false:=decide_eq_false (by omega)
  have hK : wrap64 ((op.length : Int) - 1) = K:=by rw [IntWalk.wrap64_in _ (by omega)];omega
  have hK2 : IntKind.i64.wrap ((op.length : Int) - 1) = K:=(IntWalk.i64_left _).trans hK
  have HOP0:=hid hop0
  clear hKn hop0
  clear hB hown hop htl hts0 hpf hnl htx
  unfold lF
  go_enter Try.func30,Try.ntmps30
  go_wp2_with fail
  ((with_reducible refine (HPC.out _).mono ?_);rintro e' w2 ⟨rfl,hb2⟩)
  rw [HTX.out]
  obtain ⟨w5,hw5⟩ : ∃ w5,w2.alloc (.cells #[.int .i64 kd,.string tx] 54) = w5:=⟨_,rfl⟩
  obtain ⟨hbox,hbb⟩:=tok_box w2 kd tx
  rw [hw5] at hbox hbb
  have hB5:=(HBB.out.go hb2).go hbb
  obtain ⟨Bt,hBt⟩ : ∃ Bt,w2.heap.size = Bt:=⟨_,rfl⟩
  have hBtn : Bt ≠ W.heap.size:=bt_ne (HBB.out.go hb2) hBt
  have hBtn1 : Bt ≠ W.heap.size + 1:=bt_ne1 (HBB.out.go hb2) hBt
  rw [hBt] at hbox
  have b0 : w5.cell? ⟨Bt,0,none⟩ = some (.int .i64 kd):=hbox.cell 0
  have b1 : w5.cell? ⟨Bt,1,none⟩ = some (.string tx):=hbox.cell 1
  have bf0:=hbox.frozen 0
  have d0 : w5.cell? ⟨W.heap.size,0,none⟩ = some (.string s):=hB5.two.k0.cell 0
  have d1 : w5.cell? ⟨W.heap.size,1,none⟩ = some (.int .i64 (a : Int)):=hB5.two.k0.cell 1
  have d2 : w5.cell? ⟨W.heap.size,2,none⟩ = some (.slice al ll cl):=hB5.two.k0.cell 2
  have d3 : w5.cell? ⟨W.heap.size,3,none⟩ = some (.slice ao op.length co):=hB5.two.k0.cell 3
  have d4 : w5.cell? ⟨W.heap.size,4,none⟩ = some (.bool false):=hB5.two.k0.cell 4
  have d5 : w5.cell? ⟨W.heap.size,5,none⟩ = some (.int .i64 0):=hB5.two.k0.cell 5
  have df3:=hB5.two.k0.frozen 3;have df4:=hB5.two.k0.frozen 4;have df5:=hB5.two.k0.frozen 5
  have HB5:=hid hB5;have HBOX:=hid hbox
  clear c0 c1 hb2 hbb hB5 hbox
  have h3 : B6 s (a : Int) (.slice al ll cl) (.slice ao op.length co) true 0 op base ts W (w5.setCell ⟨W.heap.size,4,none⟩ (.bool true)):=HB5.out.set4 true
  obtain ⟨w3,hw3⟩ : ∃ w3,(w5.setCell ⟨W.heap.size,4,none⟩ (.bool true)) = w3:=⟨_,rfl⟩
  rw [hw3] at h3
  have hput3:=put_calls s (a : Int) (r : Int) (.slice al ll cl) (.slice ao op.length co) true 0 kd tx base ts w3 h3.own (Nat.le_trans hbase h3.two.hb.size) hts HS.out ao op.length co rfl
  unfold lF at hput3
  have H3:=hid h3;have HPUT:=hid hput3;have HW3:=hid hw3
  clear h3 hput3 hw3
  go_wp2_with fail
  rw [HW3.out]
  clear d0 d1 d2 d3 d4 d5 df3 df4 df5 b0 b1 bf0
  ((with_reducible refine HPUT.out.mono ?_);rintro e' w4 ⟨vL',rfl,hown4,hb4⟩)
  have k4:=put_end (s:=s) (a:=0) (vO:=.slice none 0 0) (inn:=true) (e:=0) H3.out.two.hb H3.out.two.hs H3.out.two.k1 H3.out.own hb4
  obtain ⟨a5,l5,c5,rfl⟩:=own_slice hown4
  have r0 : w4.cell? ⟨W.heap.size + 1,0,none⟩ = some (.string ⟨#[]⟩):=k4.cell 0
  have r1 : w4.cell? ⟨W.heap.size + 1,1,none⟩ = some (.int .i64 0):=k4.cell 1
  have r2 : w4.cell? ⟨W.heap.size + 1,2,none⟩ = some (.slice none 0 0):=k4.cell 2
  have r3 : w4.cell? ⟨W.heap.size + 1,3,none⟩ = some (.slice none 0 0):=k4.cell 3
  have r4 : w4.cell? ⟨W.heap.size + 1,4,none⟩ = some (.bool false):=k4.cell 4
  have r5 : w4.cell? ⟨W.heap.size + 1,5,none⟩ = some (.int .i64 0):=k4.cell 5
  have f0:=k4.frozen 0;have f1:=k4.frozen 1;have f2:=k4.frozen 2;have f3:=k4.frozen 3;have f4:=k4.frozen 4;have f5:=k4.frozen 5
  have HK4:=hid k4;have HO4:=hid hown4;have HB4:=hid hb4
  clear k4 hown4 hb4
  unfold lF
  go_wp2_with fail
  rw [← HX.out]
  have q:=six_set HK4.out (.string s) (.int .i64 (r : Int)) (.slice a5 l5 c5) (.slice ao op.length co) (.bool true) (.int .i64 0)
  have q0:=q.cell 0;have q1:=q.cell 1;have q2:=q.cell 2;have q3:=q.cell 3;have q4:=q.cell 4;have q5:=q.cell 5
  refine bodyPost_ret (v:=.agg (lF s (r : Int) (.slice a5 l5 c5) (.slice ao op.length co) true 0)) ?_ rfl ?_
  · unfold lF
    simp [results,Try.results30,go_sem,q0,q1,q2,q3,q4,q5]
  · exact step_end H3.out.two.hb H3.out.two.hs H3.out.own HB4.out HK4.out HO4.out H3.out.op
end Go.Proofs.Ythadnhpkeljdoaa.lx
namespace Go.Proofs.Ythadnhpkeljdoaa.lx
open Go.Lib (hid)
open Go.RowKit Go.Shelf
open sg (lst_len extract_drop ext_size)
open sx
theorem outside_up (s : ByteArray) (a n r : Nat) (kd : Int) (vL vO : Value) (op : List Int) (base : Nat) (ts : List Lx.Tok) (W : World)
    (hown : W.ownsRow base 54 2 vL ts.length (tokCells ts)) (hbase : base ≤ W.heap.size) (hts : ts.length ≤ 65536) (hop : OpenAt W vO op) (hs : s.size ≤ 65536) (ha : a < s.size)
    (hpf : pf (s.data.toList.drop a) = (kd,n)) (hn : n ≠ 0) (hr : a + n = r) (g cap m : Nat) (hvn : vO = .slice (some ⟨g,0,none⟩) op.length cap) (hm : m + 1 = op.length) (hol : op.length ≤ 256) (hk7 : kd ≠ 7) (hk13 : kd ≠ 13) :
    Calls Try.prog 30 #[.agg (lF s (a : Int) vL vO false 0)] W (Stepped s (r : Int) false 0 op base (ts ++ [(kd,(s.data.toList.drop a).take n)]) vL W):=by
  have hB : B6 s (a : Int) vL vO false 0 op base ts W (Lx2.two s (a : Int) vL vO false 0 W):=B6.start hown hop
  obtain ⟨W1,hW1⟩ : ∃ W1,Lx2.two s (a : Int) vL vO false 0 W = W1:=⟨_,rfl⟩
  rw [hW1] at hB
  unfold Lx2.two lF at hW1
  obtain ⟨al,ll,cl,rfl⟩:=own_slice hown
  obtain ⟨t,ht⟩ : ∃ t,s.extract a s.size = t:=⟨_,rfl⟩
  have htl : t.data.toList = s.data.toList.drop a:=by rw [← ht,extract_drop]
  have hts0 : t.size = s.size - a:=by rw [← lst_len,htl,List.length_drop,lst_len]
  subst hvn
  have c0 : W1.cell? ⟨W.heap.size,0,none⟩ = some (.string s):=hB.two.k0.cell 0
  have c1 : W1.cell? ⟨W.heap.size,1,none⟩ = some (.int .i64 (a : Int)):=hB.two.k0.cell 1
  have hle : (a : Int) ≤ (s.size : Int):=by omega
  have HBB:=hid hB;have HO:=hid hown;have HOP:=hid hop;have HTL:=hid htl
  have h0t : 0 < t.size:=by omega
  have hpc:=fun w=>plain_calls t (by omega) h0t w
  have hnl:=pf_le (s.data.toList.drop a)
  rw [hpf,List.length_drop,lst_len] at hnl
  rw [htl,hpf] at hpc
  have HPC:=hid hpc
  have hx : (t.extract 0 n).data.toList = (s.data.toList.drop a).take n:=by
    rw [ByteArray.data_extract,Array.toList_extract,htl];simp [List.extract]
  have hxs : (t.extract 0 n).size = n:=by rw [← lst_len,hx,List.length_take,List.length_drop,lst_len];simp only at hnl;omega
  simp only at hnl
  obtain ⟨tx,htx⟩ : ∃ tx,t.extract 0 n = tx:=⟨_,rfl⟩
  rw [htx] at hx hxs
  have HTX:=hid htx
  clear hpc
  have TE : tx.toList.isEmpty = false:=ne_emp tx (by omega)
  have HS : Hid (wrap64 ((a : Int) + (tx.size : Int)) = (r : Int)):=hid (by rw [hxs,IntWalk.wrap64_in _ (by omega)];omega)
  have HX:=hid hx
  clear hx
  have T7 : (kd == 7) = false:=beq_eq_false_iff_ne.2 hk7
  have T13 : (kd == 13) = false:=beq_eq_false_iff_ne.2 hk13
  clear hk7 hk13
  have TK : decide ((0 : Int) ≤ (m : Int)) = true:=decide_eq_true (by omega)
  have hm0 : (0 : Int) ≤ (m : Int):=by omega
  have hml : (m : Int) < (op.length : Int):=by omega
  have hml2 : m < op.length:=by omega
  have hcap : op.length ≤ cap:=hop.cap
  have hmc : (m : Int) ≤ (cap : Int):=by omega
  have hmc2 : m ≤ cap:=by omega
  have hK : wrap64 ((op.length : Int) - 1) = (m : Int):=by rw [IntWalk.wrap64_in _ (by omega)];omega
  have hK2 : IntKind.i64.wrap ((op.length : Int) - 1) = (m : Int):=(IntWalk.i64_left _).trans hK
  have HM:=hid hm
  clear hm
  clear hB hown hop htl hts0 hpf hnl htx
  unfold lF
  go_enter Try.func30,Try.ntmps30
  go_wp2_with fail
  ((with_reducible refine (HPC.out _).mono ?_);rintro e' w2 ⟨rfl,hb2⟩)
  rw [HTX.out]
  obtain ⟨w5,hw5⟩ : ∃ w5,w2.alloc (.cells #[.int .i64 kd,.string tx] 54) = w5:=⟨_,rfl⟩
  obtain ⟨hbox,hbb⟩:=tok_box w2 kd tx
  rw [hw5] at hbox hbb
  have hB5:=(HBB.out.go hb2).go hbb
  obtain ⟨Bt,hBt⟩ : ∃ Bt,w2.heap.size = Bt:=⟨_,rfl⟩
  have hBtn : Bt ≠ W.heap.size:=bt_ne (HBB.out.go hb2) hBt
  have hBtn1 : Bt ≠ W.heap.size + 1:=bt_ne1 (HBB.out.go hb2) hBt
  rw [hBt] at hbox
  have b0 : w5.cell? ⟨Bt,0,none⟩ = some (.int .i64 kd):=hbox.cell 0
  have b1 : w5.cell? ⟨Bt,1,none⟩ = some (.string tx):=hbox.cell 1
  have bf0:=hbox.frozen 0
  have d0 : w5.cell? ⟨W.heap.size,0,none⟩ = some (.string s):=hB5.two.k0.cell 0
  have d1 : w5.cell? ⟨W.heap.size,1,none⟩ = some (.int .i64 (a : Int)):=hB5.two.k0.cell 1
  have d2 : w5.cell? ⟨W.heap.size,2,none⟩ = some (.slice al ll cl):=hB5.two.k0.cell 2
  have d3 : w5.cell? ⟨W.heap.size,3,none⟩ = some (.slice (some ⟨g,0,none⟩) op.length cap):=hB5.two.k0.cell 3
  have d4 : w5.cell? ⟨W.heap.size,4,none⟩ = some (.bool false):=hB5.two.k0.cell 4
  have d5 : w5.cell? ⟨W.heap.size,5,none⟩ = some (.int .i64 0):=hB5.two.k0.cell 5
  have df3:=hB5.two.k0.frozen 3;have df4:=hB5.two.k0.frozen 4;have df5:=hB5.two.k0.frozen 5
  have HB5:=hid hB5;have HBOX:=hid hbox
  clear c0 c1 hb2 hbb hB5 hbox
  have h3 : B6 s (a : Int) (.slice al ll cl) (.slice (some ⟨g,0,none⟩) op.length cap) false 0 op base ts W (w5):=HB5.out
  obtain ⟨w3,hw3⟩ : ∃ w3,(w5) = w3:=⟨_,rfl⟩
  rw [hw3] at h3
  have hput3:=put_calls s (a : Int) (r : Int) (.slice al ll cl) (.slice (some ⟨g,0,none⟩) op.length cap) false 0 kd tx base ts w3 h3.own (Nat.le_trans hbase h3.two.hb.size) hts HS.out (some ⟨g,0,none⟩) op.length cap rfl
  unfold lF at hput3
  have H3:=hid h3;have HPUT:=hid hput3;have HW3:=hid hw3
  clear h3 hput3 hw3
  go_wp2_with fail
  rw [HW3.out]
  clear d0 d1 d2 d3 d4 d5 df3 df4 df5 b0 b1 bf0
  ((with_reducible refine HPUT.out.mono ?_);rintro e' w4 ⟨vL',rfl,hown4,hb4⟩)
  have k4:=put_end (s:=s) (a:=0) (vO:=.slice none 0 0) (inn:=true) (e:=0) H3.out.two.hb H3.out.two.hs H3.out.two.k1 H3.out.own hb4
  obtain ⟨a5,l5,c5,rfl⟩:=own_slice hown4
  have r0 : w4.cell? ⟨W.heap.size + 1,0,none⟩ = some (.string ⟨#[]⟩):=k4.cell 0
  have r1 : w4.cell? ⟨W.heap.size + 1,1,none⟩ = some (.int .i64 0):=k4.cell 1
  have r2 : w4.cell? ⟨W.heap.size + 1,2,none⟩ = some (.slice none 0 0):=k4.cell 2
  have r3 : w4.cell? ⟨W.heap.size + 1,3,none⟩ = some (.slice none 0 0):=k4.cell 3
  have r4 : w4.cell? ⟨W.heap.size + 1,4,none⟩ = some (.bool false):=k4.cell 4
  have r5 : w4.cell? ⟨W.heap.size + 1,5,none⟩ = some (.int .i64 0):=k4.cell 5
  have f0:=k4.frozen 0;have f1:=k4.frozen 1;have f2:=k4.frozen 2;have f3:=k4.frozen 3;have f4:=k4.frozen 4;have f5:=k4.frozen 5
  have HK4:=hid k4;have HO4:=hid hown4;have HB4:=hid hb4
  clear k4 hown4 hb4
  unfold lF
  go_wp2_with fail
  rw [← HX.out]
  have q:=six_set HK4.out (.string s) (.int .i64 (r : Int)) (.slice a5 l5 c5) (.slice (some ⟨g,0,none⟩) op.length cap) (.bool false) (.int .i64 0)
  have q0:=q.cell 0;have q1:=q.cell 1;have q2:=q.cell 2;have q3:=q.cell 3;have q4:=q.cell 4;have q5:=q.cell 5
  refine bodyPost_ret (v:=.agg (lF s (r : Int) (.slice a5 l5 c5) (.slice (some ⟨g,0,none⟩) op.length cap) false 0)) ?_ rfl ?_
  · unfold lF
    simp [results,Try.results30,go_sem,q0,q1,q2,q3,q4,q5]
  · exact step_end H3.out.two.hb H3.out.two.hs H3.out.own HB4.out HK4.out HO4.out H3.out.op
theorem outside_up7 (s : ByteArray) (a n r : Nat) (kd : Int) (vL vO : Value) (op : List Int) (base : Nat) (ts : List Lx.Tok) (W : World)
    (hown : W.ownsRow base 54 2 vL ts.length (tokCells ts)) (hbase : base ≤ W.heap.size) (hts : ts.length ≤ 65536) (hop : OpenAt W vO op) (hs : s.size ≤ 65536) (ha : a < s.size)
    (hpf : pf (s.data.toList.drop a) = (kd,n)) (hn : n ≠ 0) (hr : a + n = r) (g cap m : Nat) (hvn : vO = .slice (some ⟨g,0,none⟩) op.length cap) (hm : m + 1 = op.length) (hol : op.length ≤ 256) (hk7 : kd = 7) :
    Calls Try.prog 30 #[.agg (lF s (a : Int) vL vO false 0)] W (Stepped s (r : Int) true 0 op base (ts ++ [(kd,(s.data.toList.drop a).take n)]) vL W):=by
  have hB : B6 s (a : Int) vL vO false 0 op base ts W (Lx2.two s (a : Int) vL vO false 0 W):=B6.start hown hop
  obtain ⟨W1,hW1⟩ : ∃ W1,Lx2.two s (a : Int) vL vO false 0 W = W1:=⟨_,rfl⟩
  rw [hW1] at hB
  unfold Lx2.two lF at hW1
  obtain ⟨al,ll,cl,rfl⟩:=own_slice hown
  obtain ⟨t,ht⟩ : ∃ t,s.extract a s.size = t:=⟨_,rfl⟩
  have htl : t.data.toList = s.data.toList.drop a:=by rw [← ht,extract_drop]
  have hts0 : t.size = s.size - a:=by rw [← lst_len,htl,List.length_drop,lst_len]
  subst hvn
  have c0 : W1.cell? ⟨W.heap.size,0,none⟩ = some (.string s):=hB.two.k0.cell 0
  have c1 : W1.cell? ⟨W.heap.size,1,none⟩ = some (.int .i64 (a : Int)):=hB.two.k0.cell 1
  have hle : (a : Int) ≤ (s.size : Int):=by omega
  have HBB:=hid hB;have HO:=hid hown;have HOP:=hid hop;have HTL:=hid htl
  have h0t : 0 < t.size:=by omega
  have hpc:=fun w=>plain_calls t (by omega) h0t w
  have hnl:=pf_le (s.data.toList.drop a)
  rw [hpf,List.length_drop,lst_len] at hnl
  rw [htl,hpf] at hpc
  have HPC:=hid hpc
  have hx : (t.extract 0 n).data.toList = (s.data.toList.drop a).take n:=by
    rw [ByteArray.data_extract,Array.toList_extract,htl];simp [List.extract]
  have hxs : (t.extract 0 n).size = n:=by rw [← lst_len,hx,List.length_take,List.length_drop,lst_len];simp only at hnl;omega
  simp only at hnl
  obtain ⟨tx,htx⟩ : ∃ tx,t.extract 0 n = tx:=⟨_,rfl⟩
  rw [htx] at hx hxs
  have HTX:=hid htx
  clear hpc
  have TE : tx.toList.isEmpty = false:=ne_emp tx (by omega)
  have HS : Hid (wrap64 ((a : Int) + (tx.size : Int)) = (r : Int)):=hid (by rw [hxs,IntWalk.wrap64_in _ (by omega)];omega)
  have HX:=hid hx
  clear hx
  have T7 : (kd == 7) = true:=beq_iff_eq.2 hk7
  have T13 : (kd == 13) = false:=beq_eq_false_iff_ne.2 (by omega)
  clear hk7
  have TK : decide ((0 : Int) ≤ (m : Int)) = true:=decide_eq_true (by omega)
  have hm0 : (0 : Int) ≤ (m : Int):=by omega
  have hml : (m : Int) < (op.length : Int):=by omega
  have hml2 : m < op.length:=by omega
  have hcap : op.length ≤ cap:=hop.cap
  have hmc : (m : Int) ≤ (cap : Int):=by omega
  have hmc2 : m ≤ cap:=by omega
  have hK : wrap64 ((op.length : Int) - 1) = (m : Int):=by rw [IntWalk.wrap64_in _ (by omega)];omega
  have hK2 : IntKind.i64.wrap ((op.length : Int) - 1) = (m : Int):=(IntWalk.i64_left _).trans hK
  have HM:=hid hm
  clear hm
  clear hB hown hop htl hts0 hpf hnl htx
  unfold lF
  go_enter Try.func30,Try.ntmps30
  go_wp2_with fail
  ((with_reducible refine (HPC.out _).mono ?_);rintro e' w2 ⟨rfl,hb2⟩)
  rw [HTX.out]
  obtain ⟨w5,hw5⟩ : ∃ w5,w2.alloc (.cells #[.int .i64 kd,.string tx] 54) = w5:=⟨_,rfl⟩
  obtain ⟨hbox,hbb⟩:=tok_box w2 kd tx
  rw [hw5] at hbox hbb
  have hB5:=(HBB.out.go hb2).go hbb
  obtain ⟨Bt,hBt⟩ : ∃ Bt,w2.heap.size = Bt:=⟨_,rfl⟩
  have hBtn : Bt ≠ W.heap.size:=bt_ne (HBB.out.go hb2) hBt
  have hBtn1 : Bt ≠ W.heap.size + 1:=bt_ne1 (HBB.out.go hb2) hBt
  rw [hBt] at hbox
  have b0 : w5.cell? ⟨Bt,0,none⟩ = some (.int .i64 kd):=hbox.cell 0
  have b1 : w5.cell? ⟨Bt,1,none⟩ = some (.string tx):=hbox.cell 1
  have bf0:=hbox.frozen 0
  have d0 : w5.cell? ⟨W.heap.size,0,none⟩ = some (.string s):=hB5.two.k0.cell 0
  have d1 : w5.cell? ⟨W.heap.size,1,none⟩ = some (.int .i64 (a : Int)):=hB5.two.k0.cell 1
  have d2 : w5.cell? ⟨W.heap.size,2,none⟩ = some (.slice al ll cl):=hB5.two.k0.cell 2
  have d3 : w5.cell? ⟨W.heap.size,3,none⟩ = some (.slice (some ⟨g,0,none⟩) op.length cap):=hB5.two.k0.cell 3
  have d4 : w5.cell? ⟨W.heap.size,4,none⟩ = some (.bool false):=hB5.two.k0.cell 4
  have d5 : w5.cell? ⟨W.heap.size,5,none⟩ = some (.int .i64 0):=hB5.two.k0.cell 5
  have df3:=hB5.two.k0.frozen 3;have df4:=hB5.two.k0.frozen 4;have df5:=hB5.two.k0.frozen 5
  have HB5:=hid hB5;have HBOX:=hid hbox
  clear c0 c1 hb2 hbb hB5 hbox
  have h3 : B6 s (a : Int) (.slice al ll cl) (.slice (some ⟨g,0,none⟩) op.length cap) true 0 op base ts W (w5.setCell ⟨W.heap.size,4,none⟩ (.bool true)):=HB5.out.set4 true
  obtain ⟨w3,hw3⟩ : ∃ w3,(w5.setCell ⟨W.heap.size,4,none⟩ (.bool true)) = w3:=⟨_,rfl⟩
  rw [hw3] at h3
  have hput3:=put_calls s (a : Int) (r : Int) (.slice al ll cl) (.slice (some ⟨g,0,none⟩) op.length cap) true 0 kd tx base ts w3 h3.own (Nat.le_trans hbase h3.two.hb.size) hts HS.out (some ⟨g,0,none⟩) op.length cap rfl
  unfold lF at hput3
  have H3:=hid h3;have HPUT:=hid hput3;have HW3:=hid hw3
  clear h3 hput3 hw3
  go_wp2_with fail
  rw [HW3.out]
  clear d0 d1 d2 d3 d4 d5 df3 df4 df5 b0 b1 bf0
  ((with_reducible refine HPUT.out.mono ?_);rintro e' w4 ⟨vL',rfl,hown4,hb4⟩)
  have k4:=put_end (s:=s) (a:=0) (vO:=.slice none 0 0) (inn:=true) (e:=0) H3.out.two.hb H3.out.two.hs H3.out.two.k1 H3.out.own hb4
  obtain ⟨a5,l5,c5,rfl⟩:=own_slice hown4
  have r0 : w4.cell? ⟨W.heap.size + 1,0,none⟩ = some (.string ⟨#[]⟩):=k4.cell 0
  have r1 : w4.cell? ⟨W.heap.size + 1,1,none⟩ = some (.int .i64 0):=k4.cell 1
  have r2 : w4.cell? ⟨W.heap.size + 1,2,none⟩ = some (.slice none 0 0):=k4.cell 2
  have r3 : w4.cell? ⟨W.heap.size + 1,3,none⟩ = some (.slice none 0 0):=k4.cell 3
  have r4 : w4.cell? ⟨W.heap.size + 1,4,none⟩ = some (.bool false):=k4.cell 4
  have r5 : w4.cell? ⟨W.heap.size + 1,5,none⟩ = some (.int .i64 0):=k4.cell 5
  have f0:=k4.frozen 0;have f1:=k4.frozen 1;have f2:=k4.frozen 2;have f3:=k4.frozen 3;have f4:=k4.frozen 4;have f5:=k4.frozen 5
  have HK4:=hid k4;have HO4:=hid hown4;have HB4:=hid hb4
  clear k4 hown4 hb4
  unfold lF
  go_wp2_with fail
  rw [← HX.out]
  have q:=six_set HK4.out (.string s) (.int .i64 (r : Int)) (.slice a5 l5 c5) (.slice (some ⟨g,0,none⟩) op.length cap) (.bool true) (.int .i64 0)
  have q0:=q.cell 0;have q1:=q.cell 1;have q2:=q.cell 2;have q3:=q.cell 3;have q4:=q.cell 4;have q5:=q.cell 5
  refine bodyPost_ret (v:=.agg (lF s (r : Int) (.slice a5 l5 c5) (.slice (some ⟨g,0,none⟩) op.length cap) true 0)) ?_ rfl ?_
  · unfold lF
    simp [results,Try.results30,go_sem,q0,q1,q2,q3,q4,q5]
  · exact step_end H3.out.two.hb H3.out.two.hs H3.out.own HB4.out HK4.out HO4.out H3.out.op
theorem outside_op (s : ByteArray) (a n r : Nat) (kd : Int) (vL vO : Value) (op : List Int) (base : Nat) (ts : List Lx.Tok) (W : World)
    (hown : W.ownsRow base 54 2 vL ts.length (tokCells ts)) (hbase : base ≤ W.heap.size) (hts : ts.length ≤ 65536) (hop : OpenAt W vO op) (hs : s.size ≤ 65536) (ha : a < s.size)
    (hpf : pf (s.data.toList.drop a) = (kd,n)) (hn : n ≠ 0) (hr : a + n = r) (g cap m : Nat) (hvn : vO = .slice (some ⟨g,0,none⟩) op.length cap) (hm : m + 1 = op.length) (hol : op.length ≤ 256) (hk13 : kd = 13) (h41 : (s.data.toList.drop a).take n ≠ [41]) (h40 : (s.data.toList.drop a).take n ≠ [40]) :
    Calls Try.prog 30 #[.agg (lF s (a : Int) vL vO false 0)] W (Stepped s (r : Int) false 0 op base (ts ++ [(kd,(s.data.toList.drop a).take n)]) vL W):=by
  have hB : B6 s (a : Int) vL vO false 0 op base ts W (Lx2.two s (a : Int) vL vO false 0 W):=B6.start hown hop
  obtain ⟨W1,hW1⟩ : ∃ W1,Lx2.two s (a : Int) vL vO false 0 W = W1:=⟨_,rfl⟩
  rw [hW1] at hB
  unfold Lx2.two lF at hW1
  obtain ⟨al,ll,cl,rfl⟩:=own_slice hown
  obtain ⟨t,ht⟩ : ∃ t,s.extract a s.size = t:=⟨_,rfl⟩
  have htl : t.data.toList = s.data.toList.drop a:=by rw [← ht,extract_drop]
  have hts0 : t.size = s.size - a:=by rw [← lst_len,htl,List.length_drop,lst_len]
  subst hvn
  have c0 : W1.cell? ⟨W.heap.size,0,none⟩ = some (.string s):=hB.two.k0.cell 0
  have c1 : W1.cell? ⟨W.heap.size,1,none⟩ = some (.int .i64 (a : Int)):=hB.two.k0.cell 1
  have hle : (a : Int) ≤ (s.size : Int):=by omega
  have HBB:=hid hB;have HO:=hid hown;have HOP:=hid hop;have HTL:=hid htl
  have h0t : 0 < t.size:=by omega
  have hpc:=fun w=>plain_calls t (by omega) h0t w
  have hnl:=pf_le (s.data.toList.drop a)
  rw [hpf,List.length_drop,lst_len] at hnl
  rw [htl,hpf] at hpc
  have HPC:=hid hpc
  have hx : (t.extract 0 n).data.toList = (s.data.toList.drop a).take n:=by
    rw [ByteArray.data_extract,Array.toList_extract,htl];simp [List.extract]
  have hxs : (t.extract 0 n).size = n:=by rw [← lst_len,hx,List.length_take,List.length_drop,lst_len];simp only at hnl;omega
  simp only at hnl
  obtain ⟨tx,htx⟩ : ∃ tx,t.extract 0 n = tx:=⟨_,rfl⟩
  rw [htx] at hx hxs
  have HTX:=hid htx
  clear hpc
  have TE : tx.toList.isEmpty = false:=ne_emp tx (by omega)
  have HS : Hid (wrap64 ((a : Int) + (tx.size : Int)) = (r : Int)):=hid (by rw [hxs,IntWalk.wrap64_in _ (by omega)];omega)
  have HX:=hid hx
  clear hx
  have hk7 : kd ≠ 7:=by omega
  have T7 : (kd == 7) = false:=beq_eq_false_iff_ne.2 hk7
  have T13 : (kd == 13) = true:=beq_iff_eq.2 hk13
  have T41 : (tx.toList == [41]) = false:=by rw [toList_eq,HX.out];exact beq_eq_false_iff_ne.2 h41
  have T40 : (tx.toList == [40]) = false:=by rw [toList_eq,HX.out];exact beq_eq_false_iff_ne.2 h40
  clear hk7 hk13 h41 h40
  have TK : decide ((0 : Int) ≤ (m : Int)) = true:=decide_eq_true (by omega)
  have hm0 : (0 : Int) ≤ (m : Int):=by omega
  have hml : (m : Int) < (op.length : Int):=by omega
  have hml2 : m < op.length:=by omega
  have hcap : op.length ≤ cap:=hop.cap
  have hmc : (m : Int) ≤ (cap : Int):=by omega
  have hmc2 : m ≤ cap:=by omega
  have hK : wrap64 ((op.length : Int) - 1) = (m : Int):=by rw [IntWalk.wrap64_in _ (by omega)];omega
  have hK2 : IntKind.i64.wrap ((op.length : Int) - 1) = (m : Int):=(IntWalk.i64_left _).trans hK
  have HM:=hid hm
  clear hm
  clear hB hown hop htl hts0 hpf hnl htx
  unfold lF
  go_enter Try.func30,Try.ntmps30
  go_wp2_with fail
  ((with_reducible refine (HPC.out _).mono ?_);rintro e' w2 ⟨rfl,hb2⟩)
  rw [HTX.out]
  obtain ⟨w5,hw5⟩ : ∃ w5,w2.alloc (.cells #[.int .i64 kd,.string tx] 54) = w5:=⟨_,rfl⟩
  obtain ⟨hbox,hbb⟩:=tok_box w2 kd tx
  rw [hw5] at hbox hbb
  have hB5:=(HBB.out.go hb2).go hbb
  obtain ⟨Bt,hBt⟩ : ∃ Bt,w2.heap.size = Bt:=⟨_,rfl⟩
  have hBtn : Bt ≠ W.heap.size:=bt_ne (HBB.out.go hb2) hBt
  have hBtn1 : Bt ≠ W.heap.size + 1:=bt_ne1 (HBB.out.go hb2) hBt
  rw [hBt] at hbox
  have b0 : w5.cell? ⟨Bt,0,none⟩ = some (.int .i64 kd):=hbox.cell 0
  have b1 : w5.cell? ⟨Bt,1,none⟩ = some (.string tx):=hbox.cell 1
  have bf0:=hbox.frozen 0
  have d0 : w5.cell? ⟨W.heap.size,0,none⟩ = some (.string s):=hB5.two.k0.cell 0
  have d1 : w5.cell? ⟨W.heap.size,1,none⟩ = some (.int .i64 (a : Int)):=hB5.two.k0.cell 1
  have d2 : w5.cell? ⟨W.heap.size,2,none⟩ = some (.slice al ll cl):=hB5.two.k0.cell 2
  have d3 : w5.cell? ⟨W.heap.size,3,none⟩ = some (.slice (some ⟨g,0,none⟩) op.length cap):=hB5.two.k0.cell 3
  have d4 : w5.cell? ⟨W.heap.size,4,none⟩ = some (.bool false):=hB5.two.k0.cell 4
  have d5 : w5.cell? ⟨W.heap.size,5,none⟩ = some (.int .i64 0):=hB5.two.k0.cell 5
  have df3:=hB5.two.k0.frozen 3;have df4:=hB5.two.k0.frozen 4;have df5:=hB5.two.k0.frozen 5
  have HB5:=hid hB5;have HBOX:=hid hbox
  clear c0 c1 hb2 hbb hB5 hbox
  have h3 : B6 s (a : Int) (.slice al ll cl) (.slice (some ⟨g,0,none⟩) op.length cap) false 0 op base ts W (w5):=HB5.out
  obtain ⟨w3,hw3⟩ : ∃ w3,(w5) = w3:=⟨_,rfl⟩
  rw [hw3] at h3
  have hput3:=put_calls s (a : Int) (r : Int) (.slice al ll cl) (.slice (some ⟨g,0,none⟩) op.length cap) false 0 kd tx base ts w3 h3.own (Nat.le_trans hbase h3.two.hb.size) hts HS.out (some ⟨g,0,none⟩) op.length cap rfl
  unfold lF at hput3
  have H3:=hid h3;have HPUT:=hid hput3;have HW3:=hid hw3
  clear h3 hput3 hw3
  go_wp2_with fail
  rw [HW3.out]
  clear d0 d1 d2 d3 d4 d5 df3 df4 df5 b0 b1 bf0
  ((with_reducible refine HPUT.out.mono ?_);rintro e' w4 ⟨vL',rfl,hown4,hb4⟩)
  have k4:=put_end (s:=s) (a:=0) (vO:=.slice none 0 0) (inn:=true) (e:=0) H3.out.two.hb H3.out.two.hs H3.out.two.k1 H3.out.own hb4
  obtain ⟨a5,l5,c5,rfl⟩:=own_slice hown4
  have r0 : w4.cell? ⟨W.heap.size + 1,0,none⟩ = some (.string ⟨#[]⟩):=k4.cell 0
  have r1 : w4.cell? ⟨W.heap.size + 1,1,none⟩ = some (.int .i64 0):=k4.cell 1
  have r2 : w4.cell? ⟨W.heap.size + 1,2,none⟩ = some (.slice none 0 0):=k4.cell 2
  have r3 : w4.cell? ⟨W.heap.size + 1,3,none⟩ = some (.slice none 0 0):=k4.cell 3
  have r4 : w4.cell? ⟨W.heap.size + 1,4,none⟩ = some (.bool false):=k4.cell 4
  have r5 : w4.cell? ⟨W.heap.size + 1,5,none⟩ = some (.int .i64 0):=k4.cell 5
  have f0:=k4.frozen 0;have f1:=k4.frozen 1;have f2:=k4.frozen 2;have f3:=k4.frozen 3;have f4:=k4.frozen 4;have f5:=k4.frozen 5
  have HK4:=hid k4;have HO4:=hid hown4;have HB4:=hid hb4
  clear k4 hown4 hb4
  unfold lF
  go_wp2_with fail
  rw [← HX.out]
  have q:=six_set HK4.out (.string s) (.int .i64 (r : Int)) (.slice a5 l5 c5) (.slice (some ⟨g,0,none⟩) op.length cap) (.bool false) (.int .i64 0)
  have q0:=q.cell 0;have q1:=q.cell 1;have q2:=q.cell 2;have q3:=q.cell 3;have q4:=q.cell 4;have q5:=q.cell 5
  refine bodyPost_ret (v:=.agg (lF s (r : Int) (.slice a5 l5 c5) (.slice (some ⟨g,0,none⟩) op.length cap) false 0)) ?_ rfl ?_
  · unfold lF
    simp [results,Try.results30,go_sem,q0,q1,q2,q3,q4,q5]
  · exact step_end H3.out.two.hb H3.out.two.hs H3.out.own HB4.out HK4.out HO4.out H3.out.op
end Go.Proofs.Ythadnhpkeljdoaa.lx
namespace Go.Proofs.Ythadnhpkeljdoaa.lx
open Go.Lib (hid)
open Go.RowKit Go.Shelf
open sg (lst_len extract_drop ext_size)
open sx
theorem B6.setBox {s : ByteArray} {a : Int} {vL vO x : Value} {inn : Bool} {e : Int} {op : List Int} {base : Nat} {ts : List Lx.Tok} {W W1 : World} {Bt o : Nat} {vs : Array Value} (h : B6 s a vL vO inn e op base ts W W1) (hk : Blk W1 Bt 54 vs) (hn : Bt ≠ W.heap.size) (hn1 : Bt ≠ W.heap.size + 1) (hge : W.heap.size ≤ Bt) (ho : (some Bt : Option Nat) ≠ vL.ownBlock) : B6 s a vL vO inn e op base ts W (W1.setCell ⟨Bt,o,none⟩ x) :=
  ⟨⟨h.two.hb.setCell (p:=⟨Bt,o,none⟩) hge _,by rw [World.size_setCell];exact h.two.hs,h.two.k0.other (fun e'=>hn e'.symm) _,h.two.k1.other (fun e'=>hn1 e'.symm) _⟩,own_set h.own ho,h.op.set hk (by decide)⟩
theorem B6.fresh {s : ByteArray} {a : Int} {vL vO : Value} {inn : Bool} {e : Int} {op : List Int} {base : Nat} {ts : List Lx.Tok} {W W1 : World} {Bt : Nat} (h : B6 s a vL vO inn e op base ts W W1) (hb : W1.heap.size = Bt) : W.heap.size ≤ Bt ∧ (some Bt : Option Nat) ≠ vL.ownBlock :=
  ⟨by have:=h.two.hs;omega,fun e'=>by have:=(h.own.lt _ e'.symm).2;omega⟩
theorem outside_close (s : ByteArray) (a n r : Nat) (kd : Int) (vL vO : Value) (op : List Int) (base : Nat) (ts : List Lx.Tok) (W : World)
    (hown : W.ownsRow base 54 2 vL ts.length (tokCells ts)) (hbase : base ≤ W.heap.size) (hts : ts.length ≤ 65536) (hop : OpenAt W vO op) (hs : s.size ≤ 65536) (ha : a < s.size)
    (hpf : pf (s.data.toList.drop a) = (kd,n)) (hn : n ≠ 0) (hr : a + n = r) (g cap m : Nat) (hvn : vO = .slice (some ⟨g,0,none⟩) op.length cap) (hm : m + 1 = op.length) (hol : op.length ≤ 256) (hk13 : kd = 13) (h41 : (s.data.toList.drop a).take n = [41]) (hz : op[m]? = some 0) :
    Calls Try.prog 30 #[.agg (lF s (a : Int) vL vO false 0)] W (Stepped s (r : Int) true 0 (op.take m) base (ts ++ [(10,[41])]) vL W):=by
  have hB : B6 s (a : Int) vL vO false 0 op base ts W (Lx2.two s (a : Int) vL vO false 0 W):=B6.start hown hop
  obtain ⟨W1,hW1⟩ : ∃ W1,Lx2.two s (a : Int) vL vO false 0 W = W1:=⟨_,rfl⟩
  rw [hW1] at hB
  unfold Lx2.two lF at hW1
  obtain ⟨al,ll,cl,rfl⟩:=own_slice hown
  obtain ⟨t,ht⟩ : ∃ t,s.extract a s.size = t:=⟨_,rfl⟩
  have htl : t.data.toList = s.data.toList.drop a:=by rw [← ht,extract_drop]
  have hts0 : t.size = s.size - a:=by rw [← lst_len,htl,List.length_drop,lst_len]
  subst hvn
  have c0 : W1.cell? ⟨W.heap.size,0,none⟩ = some (.string s):=hB.two.k0.cell 0
  have c1 : W1.cell? ⟨W.heap.size,1,none⟩ = some (.int .i64 (a : Int)):=hB.two.k0.cell 1
  have hle : (a : Int) ≤ (s.size : Int):=by omega
  have HBB:=hid hB;have HO:=hid hown;have HOP:=hid hop;have HTL:=hid htl
  have h0t : 0 < t.size:=by omega
  have hpc:=fun w=>plain_calls t (by omega) h0t w
  have hnl:=pf_le (s.data.toList.drop a)
  rw [hpf,List.length_drop,lst_len] at hnl
  rw [htl,hpf] at hpc
  have HPC:=hid hpc
  have hx : (t.extract 0 n).data.toList = (s.data.toList.drop a).take n:=by
    rw [ByteArray.data_extract,Array.toList_extract,htl];simp [List.extract]
  have hxs : (t.extract 0 n).size = n:=by rw [← lst_len,hx,List.length_take,List.length_drop,lst_len];simp only at hnl;omega
  simp only at hnl
  obtain ⟨tx,htx⟩ : ∃ tx,t.extract 0 n = tx:=⟨_,rfl⟩
  rw [htx] at hx hxs
  have HTX:=hid htx
  clear hpc
  have TE : tx.toList.isEmpty = false:=ne_emp tx (by omega)
  have HS : Hid (wrap64 ((a : Int) + (tx.size : Int)) = (r : Int)):=hid (by rw [hxs,IntWalk.wrap64_in _ (by omega)];omega)
  have HX0:=hid hx
  have HX:=hid (hx.trans h41)
  clear hx
  have hk7 : kd ≠ 7:=by omega
  have T7 : (kd == 7) = false:=beq_eq_false_iff_ne.2 hk7
  have T13 : (kd == 13) = true:=beq_iff_eq.2 hk13
  have T41 : (tx.toList == [41]) = true:=by rw [toList_eq,HX.out];rfl
  have HZ:=hid hz
  clear hk7 hk13 h41 hz
  have TK : decide ((0 : Int) ≤ (m : Int)) = true:=decide_eq_true (by omega)
  have hm0 : (0 : Int) ≤ (m : Int):=by omega
  have hml : (m : Int) < (op.length : Int):=by omega
  have hml2 : m < op.length:=by omega
  have hcap : op.length ≤ cap:=hop.cap
  have hmc : (m : Int) ≤ (cap : Int):=by omega
  have hmc2 : m ≤ cap:=by omega
  have hK : wrap64 ((op.length : Int) - 1) = (m : Int):=by rw [IntWalk.wrap64_in _ (by omega)];omega
  have hK2 : IntKind.i64.wrap ((op.length : Int) - 1) = (m : Int):=(IntWalk.i64_left _).trans hK
  have HM:=hid hm
  clear hm
  clear hB hown hop htl hts0 hpf hnl htx
  unfold lF
  go_enter Try.func30,Try.ntmps30
  go_wp2_with fail
  ((with_reducible refine (HPC.out _).mono ?_);rintro e' w2 ⟨rfl,hb2⟩)
  rw [HTX.out]
  obtain ⟨w5,hw5⟩ : ∃ w5,w2.alloc (.cells #[.int .i64 kd,.string tx] 54) = w5:=⟨_,rfl⟩
  obtain ⟨hbox,hbb⟩:=tok_box w2 kd tx
  rw [hw5] at hbox hbb
  have hB5:=(HBB.out.go hb2).go hbb
  obtain ⟨Bt,hBt⟩ : ∃ Bt,w2.heap.size = Bt:=⟨_,rfl⟩
  have hBtn : Bt ≠ W.heap.size:=bt_ne (HBB.out.go hb2) hBt
  have hBtn1 : Bt ≠ W.heap.size + 1:=bt_ne1 (HBB.out.go hb2) hBt
  have HF:=hid ((HBB.out.go hb2).fresh hBt)
  rw [hBt] at hbox
  have b0 : w5.cell? ⟨Bt,0,none⟩ = some (.int .i64 kd):=hbox.cell 0
  have b1 : w5.cell? ⟨Bt,1,none⟩ = some (.string tx):=hbox.cell 1
  have bf0:=hbox.frozen 0
  have d0 : w5.cell? ⟨W.heap.size,0,none⟩ = some (.string s):=hB5.two.k0.cell 0
  have d1 : w5.cell? ⟨W.heap.size,1,none⟩ = some (.int .i64 (a : Int)):=hB5.two.k0.cell 1
  have d2 : w5.cell? ⟨W.heap.size,2,none⟩ = some (.slice al ll cl):=hB5.two.k0.cell 2
  have d3 : w5.cell? ⟨W.heap.size,3,none⟩ = some (.slice (some ⟨g,0,none⟩) op.length cap):=hB5.two.k0.cell 3
  have d4 : w5.cell? ⟨W.heap.size,4,none⟩ = some (.bool false):=hB5.two.k0.cell 4
  have d5 : w5.cell? ⟨W.heap.size,5,none⟩ = some (.int .i64 0):=hB5.two.k0.cell 5
  have df3:=hB5.two.k0.frozen 3;have df4:=hB5.two.k0.frozen 4;have df5:=hB5.two.k0.frozen 5
  have HB5:=hid hB5;have HBOX:=hid hbox
  clear c0 c1 hb2 hbb hB5 hbox
  have hz5:=HB5.out.op.cells m 0 HZ.out
  have h6:=(HB5.out.setBox (o:=0) (x:=.int .i64 10) HBOX.out hBtn hBtn1 HF.out.1 HF.out.2)
  have h8:=(h6.set3 (h6.pop (Nat.le_of_lt hml2))).set4 true
  have H8:=hid h8
  have hsl : (op.take m).length = m:=by rw [List.length_take];omega
  have HSL:=hid hsl
  clear h6 h8 hsl
  have h3 : B6 s (a : Int) (.slice al ll cl) (.slice (some ⟨g,0,none⟩) m cap) true 0 (op.take m) base ts W (((w5.setCell ⟨Bt,0,none⟩ (.int .i64 10)).setCell ⟨W.heap.size,3,none⟩ (.slice (some ⟨g,0,none⟩) m cap)).setCell ⟨W.heap.size,4,none⟩ (.bool true)):=H8.out
  obtain ⟨w3,hw3⟩ : ∃ w3,(((w5.setCell ⟨Bt,0,none⟩ (.int .i64 10)).setCell ⟨W.heap.size,3,none⟩ (.slice (some ⟨g,0,none⟩) m cap)).setCell ⟨W.heap.size,4,none⟩ (.bool true)) = w3:=⟨_,rfl⟩
  rw [hw3] at h3
  have hput3:=put_calls s (a : Int) (r : Int) (.slice al ll cl) (.slice (some ⟨g,0,none⟩) m cap) true 0 10 tx base ts w3 h3.own (Nat.le_trans hbase h3.two.hb.size) hts HS.out (some ⟨g,0,none⟩) m cap rfl
  unfold lF at hput3
  have H3:=hid h3;have HPUT:=hid hput3;have HW3:=hid hw3
  clear h3 hput3 hw3
  go_wp2_with fail
  rw [HW3.out]
  clear d0 d1 d2 d3 d4 d5 df3 df4 df5 b0 b1 bf0 hz5
  ((with_reducible refine HPUT.out.mono ?_);rintro e' w4 ⟨vL',rfl,hown4,hb4⟩)
  have k4:=put_end (s:=s) (a:=0) (vO:=.slice none 0 0) (inn:=true) (e:=0) H3.out.two.hb H3.out.two.hs H3.out.two.k1 H3.out.own hb4
  obtain ⟨a5,l5,c5,rfl⟩:=own_slice hown4
  have r0 : w4.cell? ⟨W.heap.size + 1,0,none⟩ = some (.string ⟨#[]⟩):=k4.cell 0
  have r1 : w4.cell? ⟨W.heap.size + 1,1,none⟩ = some (.int .i64 0):=k4.cell 1
  have r2 : w4.cell? ⟨W.heap.size + 1,2,none⟩ = some (.slice none 0 0):=k4.cell 2
  have r3 : w4.cell? ⟨W.heap.size + 1,3,none⟩ = some (.slice none 0 0):=k4.cell 3
  have r4 : w4.cell? ⟨W.heap.size + 1,4,none⟩ = some (.bool false):=k4.cell 4
  have r5 : w4.cell? ⟨W.heap.size + 1,5,none⟩ = some (.int .i64 0):=k4.cell 5
  have f0:=k4.frozen 0;have f1:=k4.frozen 1;have f2:=k4.frozen 2;have f3:=k4.frozen 3;have f4:=k4.frozen 4;have f5:=k4.frozen 5
  have HK4:=hid k4;have HO4:=hid hown4;have HB4:=hid hb4
  clear k4 hown4 hb4
  unfold lF
  go_wp2_with fail
  rw [← HX.out]
  have q:=six_set HK4.out (.string s) (.int .i64 (r : Int)) (.slice a5 l5 c5) (.slice (some ⟨g,0,none⟩) m cap) (.bool true) (.int .i64 0)
  have q0:=q.cell 0;have q1:=q.cell 1;have q2:=q.cell 2;have q3:=q.cell 3;have q4:=q.cell 4;have q5:=q.cell 5
  refine bodyPost_ret (v:=.agg (lF s (r : Int) (.slice a5 l5 c5) (.slice (some ⟨g,0,none⟩) m cap) true 0)) ?_ rfl ?_
  · unfold lF
    simp [results,Try.results30,go_sem,q0,q1,q2,q3,q4,q5]
  · exact step_end H3.out.two.hb H3.out.two.hs H3.out.own HB4.out HK4.out HO4.out H3.out.op
end Go.Proofs.Ythadnhpkeljdoaa.lx
namespace Go.Proofs.Ythadnhpkeljdoaa.lx
open Go.Lib (hid)
open Go.RowKit Go.Shelf
open sg (lst_len extract_drop ext_size)
open sx
theorem outside_inc (s : ByteArray) (a n r : Nat) (kd : Int) (vL vO : Value) (op : List Int) (base : Nat) (ts : List Lx.Tok) (W : World)
    (hown : W.ownsRow base 54 2 vL ts.length (tokCells ts)) (hbase : base ≤ W.heap.size) (hts : ts.length ≤ 65536) (hop : OpenAt W vO op) (hs : s.size ≤ 65536) (ha : a < s.size)
    (hpf : pf (s.data.toList.drop a) = (kd,n)) (hn : n ≠ 0) (hr : a + n = r) (g cap m : Nat) (hvn : vO = .slice (some ⟨g,0,none⟩) op.length cap) (hm : m + 1 = op.length) (hol : op.length ≤ 256) (hk13 : kd = 13) (h4 : (s.data.toList.drop a).take n = [40]) (br br2 : Int) (hz : op[m]? = some br) (hbr : wrap64 (br + 1) = br2) :
    Calls Try.prog 30 #[.agg (lF s (a : Int) vL vO false 0)] W (Stepped s (r : Int) false 0 (op.take m ++ [br2]) base (ts ++ [(kd,(s.data.toList.drop a).take n)]) vL W):=by
  have hB : B6 s (a : Int) vL vO false 0 op base ts W (Lx2.two s (a : Int) vL vO false 0 W):=B6.start hown hop
  obtain ⟨W1,hW1⟩ : ∃ W1,Lx2.two s (a : Int) vL vO false 0 W = W1:=⟨_,rfl⟩
  rw [hW1] at hB
  unfold Lx2.two lF at hW1
  obtain ⟨al,ll,cl,rfl⟩:=own_slice hown
  obtain ⟨t,ht⟩ : ∃ t,s.extract a s.size = t:=⟨_,rfl⟩
  have htl : t.data.toList = s.data.toList.drop a:=by rw [← ht,extract_drop]
  have hts0 : t.size = s.size - a:=by rw [← lst_len,htl,List.length_drop,lst_len]
  subst hvn
  have c0 : W1.cell? ⟨W.heap.size,0,none⟩ = some (.string s):=hB.two.k0.cell 0
  have c1 : W1.cell? ⟨W.heap.size,1,none⟩ = some (.int .i64 (a : Int)):=hB.two.k0.cell 1
  have hle : (a : Int) ≤ (s.size : Int):=by omega
  have HBB:=hid hB;have HO:=hid hown;have HOP:=hid hop;have HTL:=hid htl
  have h0t : 0 < t.size:=by omega
  have hpc:=fun w=>plain_calls t (by omega) h0t w
  have hnl:=pf_le (s.data.toList.drop a)
  rw [hpf,List.length_drop,lst_len] at hnl
  rw [htl,hpf] at hpc
  have HPC:=hid hpc
  have hx : (t.extract 0 n).data.toList = (s.data.toList.drop a).take n:=by
    rw [ByteArray.data_extract,Array.toList_extract,htl];simp [List.extract]
  have hxs : (t.extract 0 n).size = n:=by rw [← lst_len,hx,List.length_take,List.length_drop,lst_len];simp only at hnl;omega
  simp only at hnl
  obtain ⟨tx,htx⟩ : ∃ tx,t.extract 0 n = tx:=⟨_,rfl⟩
  rw [htx] at hx hxs
  have HTX:=hid htx
  clear hpc
  have TE : tx.toList.isEmpty = false:=ne_emp tx (by omega)
  have HS : Hid (wrap64 ((a : Int) + (tx.size : Int)) = (r : Int)):=hid (by rw [hxs,IntWalk.wrap64_in _ (by omega)];omega)
  have HX:=hid hx
  clear hx
  have hk7 : kd ≠ 7:=by omega
  have T7 : (kd == 7) = false:=beq_eq_false_iff_ne.2 hk7
  have T13 : (kd == 13) = true:=beq_iff_eq.2 hk13
  have T41 : (tx.toList == [41]) = false:=by rw [toList_eq,HX.out,h4];rfl
  have T40 : (tx.toList == [40]) = true:=by rw [toList_eq,HX.out,h4];rfl
  have HZ:=hid hz
  have hol1 : op.length ≠ 0:=by omega
  obtain ⟨i0,hi,hz0',hz1,hz2⟩:=info_parts infoInt
  have HMX:=hid (show op.length ≤ maxLen ∧ op.length * 8 ≤ 140737488355328 from ⟨by unfold maxLen;omega,by omega⟩)
  clear hk7 hk13 h4 hz
  have TK : decide ((0 : Int) ≤ (m : Int)) = true:=decide_eq_true (by omega)
  have hm0 : (0 : Int) ≤ (m : Int):=by omega
  have hml : (m : Int) < (op.length : Int):=by omega
  have hml2 : m < op.length:=by omega
  have hcap : op.length ≤ cap:=hop.cap
  have hmc : (m : Int) ≤ (cap : Int):=by omega
  have hmc2 : m ≤ cap:=by omega
  have hK : wrap64 ((op.length : Int) - 1) = (m : Int):=by rw [IntWalk.wrap64_in _ (by omega)];omega
  have hK2 : IntKind.i64.wrap ((op.length : Int) - 1) = (m : Int):=(IntWalk.i64_left _).trans hK
  have hbr2 : IntKind.i64.wrap (br + 1) = br2:=(IntWalk.i64_left _).trans hbr
  have HM:=hid hm
  clear hm
  clear hB hown hop htl hts0 hpf hnl htx
  unfold lF
  go_enter Try.func30,Try.ntmps30
  go_wp2_with fail
  ((with_reducible refine (HPC.out _).mono ?_);rintro e' w2 ⟨rfl,hb2⟩)
  rw [HTX.out]
  obtain ⟨w5,hw5⟩ : ∃ w5,w2.alloc (.cells #[.int .i64 kd,.string tx] 54) = w5:=⟨_,rfl⟩
  obtain ⟨hbox,hbb⟩:=tok_box w2 kd tx
  rw [hw5] at hbox hbb
  have hB5:=(HBB.out.go hb2).go hbb
  obtain ⟨Bt,hBt⟩ : ∃ Bt,w2.heap.size = Bt:=⟨_,rfl⟩
  have hBtn : Bt ≠ W.heap.size:=bt_ne (HBB.out.go hb2) hBt
  have hBtn1 : Bt ≠ W.heap.size + 1:=bt_ne1 (HBB.out.go hb2) hBt
  rw [hBt] at hbox
  have b0 : w5.cell? ⟨Bt,0,none⟩ = some (.int .i64 kd):=hbox.cell 0
  have b1 : w5.cell? ⟨Bt,1,none⟩ = some (.string tx):=hbox.cell 1
  have bf0:=hbox.frozen 0
  have d0 : w5.cell? ⟨W.heap.size,0,none⟩ = some (.string s):=hB5.two.k0.cell 0
  have d1 : w5.cell? ⟨W.heap.size,1,none⟩ = some (.int .i64 (a : Int)):=hB5.two.k0.cell 1
  have d2 : w5.cell? ⟨W.heap.size,2,none⟩ = some (.slice al ll cl):=hB5.two.k0.cell 2
  have d3 : w5.cell? ⟨W.heap.size,3,none⟩ = some (.slice (some ⟨g,0,none⟩) op.length cap):=hB5.two.k0.cell 3
  have d4 : w5.cell? ⟨W.heap.size,4,none⟩ = some (.bool false):=hB5.two.k0.cell 4
  have d5 : w5.cell? ⟨W.heap.size,5,none⟩ = some (.int .i64 0):=hB5.two.k0.cell 5
  have df3:=hB5.two.k0.frozen 3;have df4:=hB5.two.k0.frozen 4;have df5:=hB5.two.k0.frozen 5
  have HB5:=hid hB5;have HBOX:=hid hbox
  clear c0 c1 hb2 hbb hB5 hbox
  have hz5:=HB5.out.op.cells m br HZ.out
  have hnews:=ints_news (fun j x hx=>HB5.out.op.cells j x hx)
  have hrow0 : w5.ownsRow w5.heap.size 3 1 (.slice none 0 0) 0 []:=World.ownsRow_nil _ _ _ _
  have HN:=hid hnews
  clear hnews
  go_wp2_with (at_builtin;(refine wpList_append_own _ rfl _ _ 31 rfl w5.heap.size 3 i0 (.int .i64 0) 1 8 Try.underlying31 hi hz0' hz1 hz2 rfl (by decide) _ _ _ rfl hrow0 ⟨g,0,none⟩ op.length _ (ints op) rfl (by simp [ints]) HN.out (ints_one _) (by rw [Nat.zero_add];exact HMX.out.1) (by rw [Nat.zero_add];exact HMX.out.2) (Nat.le_refl _) ?_;intro v7 w7 hown7 hgrow7 _;rw [List.nil_append,Nat.zero_add] at hown7;obtain ⟨g7,c7,cur7,rfl,hg7,hgb7,_⟩:=own_some hol1 hown7;have hb7:=grown_nil' hgrow7;have hB7:=HB5.out.go hb7;have hz7:=(open_of_own hown7).cells m br HZ.out;have zf7:=hgb7.frozen m;have hbox7:=HBOX.out.own hb7;have e0 : w7.cell? ⟨W.heap.size,0,none⟩ = some (.string s):=hB7.two.k0.cell 0;have e1 : w7.cell? ⟨W.heap.size,1,none⟩ = some (.int .i64 (a : Int)):=hB7.two.k0.cell 1;have e2 : w7.cell? ⟨W.heap.size,2,none⟩ = some (.slice al ll cl):=hB7.two.k0.cell 2;have e3 : w7.cell? ⟨W.heap.size,3,none⟩ = some (.slice (some ⟨g,0,none⟩) op.length cap):=hB7.two.k0.cell 3;have e4 : w7.cell? ⟨W.heap.size,4,none⟩ = some (.bool false):=hB7.two.k0.cell 4;have e5 : w7.cell? ⟨W.heap.size,5,none⟩ = some (.int .i64 0):=hB7.two.k0.cell 5;have ef3:=hB7.two.k0.frozen 3;have e6 : w7.cell? ⟨Bt,0,none⟩ = some (.int .i64 kd):=hbox7.cell 0;have e7 : w7.cell? ⟨Bt,1,none⟩ = some (.string tx):=hbox7.cell 1;have n0 : g7 ≠ W.heap.size:=(fun e'=>by rw [e'] at hgb7;exact blk_apart hgb7 hB7.two.k0 (by decide));have n1 : g7 ≠ Bt:=(fun e'=>by rw [e'] at hgb7;exact blk_apart hgb7 hbox7 (by decide));have HB7:=hid hb7;have HO7:=hid hown7;have HG7:=hid hg7;have HGB:=hid hgb7;clear hgrow7 hb7 hB7 hown7 hg7 hgb7 hbox7))
  have hb8 : Below w5.heap.size w5 (w7.setCell ⟨g7,m,none⟩ (.int .i64 br2)):=HB7.out.setCell (p:=⟨g7,m,none⟩) HG7.out _
  have h8:=(HB5.out.go hb8).set3 (open_turn (r:=br2) HO7.out HM.out)
  have H8:=hid h8
  clear h8 hb8
  have h3 : B6 s (a : Int) (.slice al ll cl) (.slice (some ⟨g7,0,none⟩) op.length c7) false 0 (op.take m ++ [br2]) base ts W ((w7.setCell ⟨g7,m,none⟩ (.int .i64 br2)).setCell ⟨W.heap.size,3,none⟩ (.slice (some ⟨g7,0,none⟩) op.length c7)):=H8.out
  obtain ⟨w3,hw3⟩ : ∃ w3,((w7.setCell ⟨g7,m,none⟩ (.int .i64 br2)).setCell ⟨W.heap.size,3,none⟩ (.slice (some ⟨g7,0,none⟩) op.length c7)) = w3:=⟨_,rfl⟩
  rw [hw3] at h3
  have hput3:=put_calls s (a : Int) (r : Int) (.slice al ll cl) (.slice (some ⟨g7,0,none⟩) op.length c7) false 0 kd tx base ts w3 h3.own (Nat.le_trans hbase h3.two.hb.size) hts HS.out (some ⟨g7,0,none⟩) op.length c7 rfl
  unfold lF at hput3
  have H3:=hid h3;have HPUT:=hid hput3;have HW3:=hid hw3
  clear h3 hput3 hw3
  rw [HW3.out]
  ((with_reducible refine HPUT.out.mono ?_);rintro e' w4 ⟨vL',rfl,hown4,hb4⟩)
  have k4:=put_end (s:=s) (a:=0) (vO:=.slice none 0 0) (inn:=true) (e:=0) H3.out.two.hb H3.out.two.hs H3.out.two.k1 H3.out.own hb4
  obtain ⟨a5,l5,c5,rfl⟩:=own_slice hown4
  have r0 : w4.cell? ⟨W.heap.size + 1,0,none⟩ = some (.string ⟨#[]⟩):=k4.cell 0
  have r1 : w4.cell? ⟨W.heap.size + 1,1,none⟩ = some (.int .i64 0):=k4.cell 1
  have r2 : w4.cell? ⟨W.heap.size + 1,2,none⟩ = some (.slice none 0 0):=k4.cell 2
  have r3 : w4.cell? ⟨W.heap.size + 1,3,none⟩ = some (.slice none 0 0):=k4.cell 3
  have r4 : w4.cell? ⟨W.heap.size + 1,4,none⟩ = some (.bool false):=k4.cell 4
  have r5 : w4.cell? ⟨W.heap.size + 1,5,none⟩ = some (.int .i64 0):=k4.cell 5
  have f0:=k4.frozen 0;have f1:=k4.frozen 1;have f2:=k4.frozen 2;have f3:=k4.frozen 3;have f4:=k4.frozen 4;have f5:=k4.frozen 5
  have HK4:=hid k4;have HO4:=hid hown4;have HB4:=hid hb4
  clear k4 hown4 hb4
  unfold lF
  go_wp2_with fail
  rw [← HX.out]
  have q:=six_set HK4.out (.string s) (.int .i64 (r : Int)) (.slice a5 l5 c5) (.slice (some ⟨g7,0,none⟩) op.length c7) (.bool false) (.int .i64 0)
  have q0:=q.cell 0;have q1:=q.cell 1;have q2:=q.cell 2;have q3:=q.cell 3;have q4:=q.cell 4;have q5:=q.cell 5
  refine bodyPost_ret (v:=.agg (lF s (r : Int) (.slice a5 l5 c5) (.slice (some ⟨g7,0,none⟩) op.length c7) false 0)) ?_ rfl ?_
  · unfold lF
    simp [results,Try.results30,go_sem,q0,q1,q2,q3,q4,q5]
  · exact step_end H3.out.two.hb H3.out.two.hs H3.out.own HB4.out HK4.out HO4.out H3.out.op
theorem outside_dec (s : ByteArray) (a n r : Nat) (kd : Int) (vL vO : Value) (op : List Int) (base : Nat) (ts : List Lx.Tok) (W : World)
    (hown : W.ownsRow base 54 2 vL ts.length (tokCells ts)) (hbase : base ≤ W.heap.size) (hts : ts.length ≤ 65536) (hop : OpenAt W vO op) (hs : s.size ≤ 65536) (ha : a < s.size)
    (hpf : pf (s.data.toList.drop a) = (kd,n)) (hn : n ≠ 0) (hr : a + n = r) (g cap m : Nat) (hvn : vO = .slice (some ⟨g,0,none⟩) op.length cap) (hm : m + 1 = op.length) (hol : op.length ≤ 256) (hk13 : kd = 13) (h4 : (s.data.toList.drop a).take n = [41]) (br br2 : Int) (hz : op[m]? = some br) (hz0 : br ≠ 0) (hbr : wrap64 (br - 1) = br2) :
    Calls Try.prog 30 #[.agg (lF s (a : Int) vL vO false 0)] W (Stepped s (r : Int) false 0 (op.take m ++ [br2]) base (ts ++ [(kd,(s.data.toList.drop a).take n)]) vL W):=by
  have hB : B6 s (a : Int) vL vO false 0 op base ts W (Lx2.two s (a : Int) vL vO false 0 W):=B6.start hown hop
  obtain ⟨W1,hW1⟩ : ∃ W1,Lx2.two s (a : Int) vL vO false 0 W = W1:=⟨_,rfl⟩
  rw [hW1] at hB
  unfold Lx2.two lF at hW1
  obtain ⟨al,ll,cl,rfl⟩:=own_slice hown
  obtain ⟨t,ht⟩ : ∃ t,s.extract a s.size = t:=⟨_,rfl⟩
  have htl : t.data.toList = s.data.toList.drop a:=by rw [← ht,extract_drop]
  have hts0 : t.size = s.size - a:=by rw [← lst_len,htl,List.length_drop,lst_len]
  subst hvn
  have c0 : W1.cell? ⟨W.heap.size,0,none⟩ = some (.string s):=hB.two.k0.cell 0
  have c1 : W1.cell? ⟨W.heap.size,1,none⟩ = some (.int .i64 (a : Int)):=hB.two.k0.cell 1
  have hle : (a : Int) ≤ (s.size : Int):=by omega
  have HBB:=hid hB;have HO:=hid hown;have HOP:=hid hop;have HTL:=hid htl
  have h0t : 0 < t.size:=by omega
  have hpc:=fun w=>plain_calls t (by omega) h0t w
  have hnl:=pf_le (s.data.toList.drop a)
  rw [hpf,List.length_drop,lst_len] at hnl
  rw [htl,hpf] at hpc
  have HPC:=hid hpc
  have hx : (t.extract 0 n).data.toList = (s.data.toList.drop a).take n:=by
    rw [ByteArray.data_extract,Array.toList_extract,htl];simp [List.extract]
  have hxs : (t.extract 0 n).size = n:=by rw [← lst_len,hx,List.length_take,List.length_drop,lst_len];simp only at hnl;omega
  simp only at hnl
  obtain ⟨tx,htx⟩ : ∃ tx,t.extract 0 n = tx:=⟨_,rfl⟩
  rw [htx] at hx hxs
  have HTX:=hid htx
  clear hpc
  have TE : tx.toList.isEmpty = false:=ne_emp tx (by omega)
  have HS : Hid (wrap64 ((a : Int) + (tx.size : Int)) = (r : Int)):=hid (by rw [hxs,IntWalk.wrap64_in _ (by omega)];omega)
  have HX:=hid hx
  clear hx
  have hk7 : kd ≠ 7:=by omega
  have T7 : (kd == 7) = false:=beq_eq_false_iff_ne.2 hk7
  have T13 : (kd == 13) = true:=beq_iff_eq.2 hk13
  have T41 : (tx.toList == [41]) = true:=by rw [toList_eq,HX.out,h4];rfl
  have T40 : (tx.toList == [40]) = false:=by rw [toList_eq,HX.out,h4];rfl
  have TZ : (br == 0) = false:=beq_eq_false_iff_ne.2 hz0
  have HZ:=hid hz
  have hol1 : op.length ≠ 0:=by omega
  obtain ⟨i0,hi,hz0',hz1,hz2⟩:=info_parts infoInt
  have HMX:=hid (show op.length ≤ maxLen ∧ op.length * 8 ≤ 140737488355328 from ⟨by unfold maxLen;omega,by omega⟩)
  clear hk7 hk13 h4 hz hz0
  have TK : decide ((0 : Int) ≤ (m : Int)) = true:=decide_eq_true (by omega)
  have hm0 : (0 : Int) ≤ (m : Int):=by omega
  have hml : (m : Int) < (op.length : Int):=by omega
  have hml2 : m < op.length:=by omega
  have hcap : op.length ≤ cap:=hop.cap
  have hmc : (m : Int) ≤ (cap : Int):=by omega
  have hmc2 : m ≤ cap:=by omega
  have hK : wrap64 ((op.length : Int) - 1) = (m : Int):=by rw [IntWalk.wrap64_in _ (by omega)];omega
  have hK2 : IntKind.i64.wrap ((op.length : Int) - 1) = (m : Int):=(IntWalk.i64_left _).trans hK
  have hbr2 : IntKind.i64.wrap (br - 1) = br2:=(IntWalk.i64_left _).trans hbr
  have HM:=hid hm
  clear hm
  clear hB hown hop htl hts0 hpf hnl htx
  unfold lF
  go_enter Try.func30,Try.ntmps30
  go_wp2_with fail
  ((with_reducible refine (HPC.out _).mono ?_);rintro e' w2 ⟨rfl,hb2⟩)
  rw [HTX.out]
  obtain ⟨w5,hw5⟩ : ∃ w5,w2.alloc (.cells #[.int .i64 kd,.string tx] 54) = w5:=⟨_,rfl⟩
  obtain ⟨hbox,hbb⟩:=tok_box w2 kd tx
  rw [hw5] at hbox hbb
  have hB5:=(HBB.out.go hb2).go hbb
  obtain ⟨Bt,hBt⟩ : ∃ Bt,w2.heap.size = Bt:=⟨_,rfl⟩
  have hBtn : Bt ≠ W.heap.size:=bt_ne (HBB.out.go hb2) hBt
  have hBtn1 : Bt ≠ W.heap.size + 1:=bt_ne1 (HBB.out.go hb2) hBt
  rw [hBt] at hbox
  have b0 : w5.cell? ⟨Bt,0,none⟩ = some (.int .i64 kd):=hbox.cell 0
  have b1 : w5.cell? ⟨Bt,1,none⟩ = some (.string tx):=hbox.cell 1
  have bf0:=hbox.frozen 0
  have d0 : w5.cell? ⟨W.heap.size,0,none⟩ = some (.string s):=hB5.two.k0.cell 0
  have d1 : w5.cell? ⟨W.heap.size,1,none⟩ = some (.int .i64 (a : Int)):=hB5.two.k0.cell 1
  have d2 : w5.cell? ⟨W.heap.size,2,none⟩ = some (.slice al ll cl):=hB5.two.k0.cell 2
  have d3 : w5.cell? ⟨W.heap.size,3,none⟩ = some (.slice (some ⟨g,0,none⟩) op.length cap):=hB5.two.k0.cell 3
  have d4 : w5.cell? ⟨W.heap.size,4,none⟩ = some (.bool false):=hB5.two.k0.cell 4
  have d5 : w5.cell? ⟨W.heap.size,5,none⟩ = some (.int .i64 0):=hB5.two.k0.cell 5
  have df3:=hB5.two.k0.frozen 3;have df4:=hB5.two.k0.frozen 4;have df5:=hB5.two.k0.frozen 5
  have HB5:=hid hB5;have HBOX:=hid hbox
  clear c0 c1 hb2 hbb hB5 hbox
  have hz5:=HB5.out.op.cells m br HZ.out
  have hnews:=ints_news (fun j x hx=>HB5.out.op.cells j x hx)
  have hrow0 : w5.ownsRow w5.heap.size 3 1 (.slice none 0 0) 0 []:=World.ownsRow_nil _ _ _ _
  have HN:=hid hnews
  clear hnews
  go_wp2_with (at_builtin;(refine wpList_append_own _ rfl _ _ 31 rfl w5.heap.size 3 i0 (.int .i64 0) 1 8 Try.underlying31 hi hz0' hz1 hz2 rfl (by decide) _ _ _ rfl hrow0 ⟨g,0,none⟩ op.length _ (ints op) rfl (by simp [ints]) HN.out (ints_one _) (by rw [Nat.zero_add];exact HMX.out.1) (by rw [Nat.zero_add];exact HMX.out.2) (Nat.le_refl _) ?_;intro v7 w7 hown7 hgrow7 _;rw [List.nil_append,Nat.zero_add] at hown7;obtain ⟨g7,c7,cur7,rfl,hg7,hgb7,_⟩:=own_some hol1 hown7;have hb7:=grown_nil' hgrow7;have hB7:=HB5.out.go hb7;have hz7:=(open_of_own hown7).cells m br HZ.out;have zf7:=hgb7.frozen m;have hbox7:=HBOX.out.own hb7;have e0 : w7.cell? ⟨W.heap.size,0,none⟩ = some (.string s):=hB7.two.k0.cell 0;have e1 : w7.cell? ⟨W.heap.size,1,none⟩ = some (.int .i64 (a : Int)):=hB7.two.k0.cell 1;have e2 : w7.cell? ⟨W.heap.size,2,none⟩ = some (.slice al ll cl):=hB7.two.k0.cell 2;have e3 : w7.cell? ⟨W.heap.size,3,none⟩ = some (.slice (some ⟨g,0,none⟩) op.length cap):=hB7.two.k0.cell 3;have e4 : w7.cell? ⟨W.heap.size,4,none⟩ = some (.bool false):=hB7.two.k0.cell 4;have e5 : w7.cell? ⟨W.heap.size,5,none⟩ = some (.int .i64 0):=hB7.two.k0.cell 5;have ef3:=hB7.two.k0.frozen 3;have e6 : w7.cell? ⟨Bt,0,none⟩ = some (.int .i64 kd):=hbox7.cell 0;have e7 : w7.cell? ⟨Bt,1,none⟩ = some (.string tx):=hbox7.cell 1;have n0 : g7 ≠ W.heap.size:=(fun e'=>by rw [e'] at hgb7;exact blk_apart hgb7 hB7.two.k0 (by decide));have n1 : g7 ≠ Bt:=(fun e'=>by rw [e'] at hgb7;exact blk_apart hgb7 hbox7 (by decide));have HB7:=hid hb7;have HO7:=hid hown7;have HG7:=hid hg7;have HGB:=hid hgb7;clear hgrow7 hb7 hB7 hown7 hg7 hgb7 hbox7))
  have hb8 : Below w5.heap.size w5 (w7.setCell ⟨g7,m,none⟩ (.int .i64 br2)):=HB7.out.setCell (p:=⟨g7,m,none⟩) HG7.out _
  have h8:=(HB5.out.go hb8).set3 (open_turn (r:=br2) HO7.out HM.out)
  have H8:=hid h8
  clear h8 hb8
  have h3 : B6 s (a : Int) (.slice al ll cl) (.slice (some ⟨g7,0,none⟩) op.length c7) false 0 (op.take m ++ [br2]) base ts W ((w7.setCell ⟨g7,m,none⟩ (.int .i64 br2)).setCell ⟨W.heap.size,3,none⟩ (.slice (some ⟨g7,0,none⟩) op.length c7)):=H8.out
  obtain ⟨w3,hw3⟩ : ∃ w3,((w7.setCell ⟨g7,m,none⟩ (.int .i64 br2)).setCell ⟨W.heap.size,3,none⟩ (.slice (some ⟨g7,0,none⟩) op.length c7)) = w3:=⟨_,rfl⟩
  rw [hw3] at h3
  have hput3:=put_calls s (a : Int) (r : Int) (.slice al ll cl) (.slice (some ⟨g7,0,none⟩) op.length c7) false 0 kd tx base ts w3 h3.own (Nat.le_trans hbase h3.two.hb.size) hts HS.out (some ⟨g7,0,none⟩) op.length c7 rfl
  unfold lF at hput3
  have H3:=hid h3;have HPUT:=hid hput3;have HW3:=hid hw3
  clear h3 hput3 hw3
  rw [HW3.out]
  ((with_reducible refine HPUT.out.mono ?_);rintro e' w4 ⟨vL',rfl,hown4,hb4⟩)
  have k4:=put_end (s:=s) (a:=0) (vO:=.slice none 0 0) (inn:=true) (e:=0) H3.out.two.hb H3.out.two.hs H3.out.two.k1 H3.out.own hb4
  obtain ⟨a5,l5,c5,rfl⟩:=own_slice hown4
  have r0 : w4.cell? ⟨W.heap.size + 1,0,none⟩ = some (.string ⟨#[]⟩):=k4.cell 0
  have r1 : w4.cell? ⟨W.heap.size + 1,1,none⟩ = some (.int .i64 0):=k4.cell 1
  have r2 : w4.cell? ⟨W.heap.size + 1,2,none⟩ = some (.slice none 0 0):=k4.cell 2
  have r3 : w4.cell? ⟨W.heap.size + 1,3,none⟩ = some (.slice none 0 0):=k4.cell 3
  have r4 : w4.cell? ⟨W.heap.size + 1,4,none⟩ = some (.bool false):=k4.cell 4
  have r5 : w4.cell? ⟨W.heap.size + 1,5,none⟩ = some (.int .i64 0):=k4.cell 5
  have f0:=k4.frozen 0;have f1:=k4.frozen 1;have f2:=k4.frozen 2;have f3:=k4.frozen 3;have f4:=k4.frozen 4;have f5:=k4.frozen 5
  have HK4:=hid k4;have HO4:=hid hown4;have HB4:=hid hb4
  clear k4 hown4 hb4
  unfold lF
  go_wp2_with fail
  rw [← HX.out]
  have q:=six_set HK4.out (.string s) (.int .i64 (r : Int)) (.slice a5 l5 c5) (.slice (some ⟨g7,0,none⟩) op.length c7) (.bool false) (.int .i64 0)
  have q0:=q.cell 0;have q1:=q.cell 1;have q2:=q.cell 2;have q3:=q.cell 3;have q4:=q.cell 4;have q5:=q.cell 5
  refine bodyPost_ret (v:=.agg (lF s (r : Int) (.slice a5 l5 c5) (.slice (some ⟨g7,0,none⟩) op.length c7) false 0)) ?_ rfl ?_
  · unfold lF
    simp [results,Try.results30,go_sem,q0,q1,q2,q3,q4,q5]
  · exact step_end H3.out.two.hb H3.out.two.hs H3.out.own HB4.out HK4.out HO4.out H3.out.op
end Go.Proofs.Ythadnhpkeljdoaa.lx
namespace Go.Proofs.Ythadnhpkeljdoaa.lx
open Go.Lib (hid)
open Go.RowKit Go.Shelf
open sg (lst_len extract_drop ext_size)
open Lx (brs Up popped next turn)
open sx
structure Good (y : Lx.Lex) (a : Nat) : Prop where
  up : Up y
  deep : y.below.length ≤ 256
  br : ∀ z ∈ y.below ++ [y.top],-(a : Int) ≤ z.br ∧ z.br ≤ (a : Int)
theorem good_start : Good Lx.start 0:=⟨Lx.up_start,by simp [Lx.start],fun z hz=>by simp [Lx.start] at hz;subst hz;simp⟩
theorem Good.text {y : Lx.Lex} {a b : Nat} (h : Good y a) (hb : a ≤ b) (t : Bool) : Good { y with top:={ y.top with text:=t } } b:=by
  refine ⟨h.up,h.deep,fun z hz=>?_⟩
  rcases List.mem_append.1 hz with hz | hz
  · have:=h.br z (List.mem_append_left _ hz);omega
  · rw [List.mem_singleton.1 hz]
    have:=h.br y.top (by simp);simp only;omega
theorem Good.mono {y : Lx.Lex} {a b : Nat} (h : Good y a) (hb : a ≤ b) : Good y b:=⟨h.up,h.deep,fun z hz=>by have:=h.br z hz;omega⟩
theorem Good.set {y : Lx.Lex} {a b : Nat} (h : Good y a) (hb : a < b) (r : Int) (hr : -(b : Int) ≤ r ∧ r ≤ b) : Good { y with top:={ y.top with br:=r } } b:=by
  refine ⟨h.up,h.deep,fun z hz=>?_⟩
  rcases List.mem_append.1 hz with hz | hz
  · have:=h.br z (List.mem_append_left _ hz);omega
  · rw [List.mem_singleton.1 hz];exact hr
theorem Good.pop {y : Lx.Lex} {a b : Nat} (h : Good y a) (hb : a ≤ b) (hn : y.below ≠ []) : Good (popped y) b:=by
  refine ⟨h.up.pop,?_,fun z hz=>?_⟩
  · have:=h.deep;unfold popped;simp only [List.length_dropLast];omega
  · have hs:=Lx.snoc_of y.below ⟨false,0⟩ hn
    have : z ∈ y.below:=by
      unfold popped at hz
      simp only at hz
      rw [← hs] at hz
      exact hz
    have:=h.br z (List.mem_append_left _ this);omega
theorem Good.push {y : Lx.Lex} {a b : Nat} (h : Good y a) (hb : a ≤ b) (ht : y.top.text = true) (hd : y.below.length < 256) : Good ⟨⟨false,0⟩,y.below ++ [y.top]⟩ b:=by
  refine ⟨h.up.push ht,by simp;omega,fun z hz=>?_⟩
  rcases List.mem_append.1 hz with hz | hz
  · have:=h.br z hz;omega
  · rw [List.mem_singleton.1 hz];simp only;omega
theorem bracket_abs (t : List UInt8) : -1 ≤ Lx.bracket t ∧ Lx.bracket t ≤ 1:=by
  unfold Lx.bracket
  repeat' split
  all_goals omega
section
variable (s : ByteArray) (a : Nat) (vL vO : Value) (y : Lx.Lex) (base : Nat) (ts : List Lx.Tok) (W : World)
  (hown : W.ownsRow base 54 2 vL ts.length (tokCells ts)) (hbase : base ≤ W.heap.size) (hts : ts.length ≤ 65536) (hop : OpenAt W vO (brs y)) (hs : s.size ≤ 65536) (ha : a < s.size) (hg : Good y a)
include hown hbase hts hop hs ha hg
theorem step_in (ht : y.top.text = true) :
    (∀ k n z,next y (s.data.toList.drop a) = .ok (k,n,z) → Good z (a + n) ∧ Calls Try.prog 29 #[.agg (lF s (a : Int) vL vO true 0)] W (Stepped s ((a + n : Nat) : Int) z.top.text 0 (brs z) base (ts ++ [(k,(s.data.toList.drop a).take n)]) vL W)) ∧
    (∀ e,next y (s.data.toList.drop a) = .error e → Calls Try.prog 29 #[.agg (lF s (a : Int) vL vO true 0)] W (Stepped s (a : Int) true e (brs y) base ts vL W)):=by
  have hll : (s.data.toList.drop a).length = s.size - a:=by rw [List.length_drop,lst_len]
  by_cases hp : Lx.piece (s.data.toList.drop a) = 0
  · obtain ⟨b,r,hbr⟩ : ∃ b r,s.data.toList.drop a = b :: r:=by
      cases hd : s.data.toList.drop a with
      | nil=>rw [hd] at hll;simp at hll;omega
      | cons b r=>exact ⟨b,r,rfl⟩
    by_cases h34 : b = 34
    · subst h34
      have hnx:=next_quote (y:=y) (r:=r) ht
      rw [← hbr] at hnx
      refine ⟨fun k n z h=>?_,fun e h=>by rw [hnx] at h;cases h⟩
      rw [hnx] at h
      cases h
      refine ⟨hg.text (by omega) _,?_⟩
      have:=inside_quote s a 0 (a + 1) vL vO (brs y) base ts W hown hbase hts hop hs ha hp (by rw [hbr];rfl) rfl
      rw [Lx.brs_text]
      have e1 : (s.data.toList.drop a).take 1 = [34]:=by rw [hbr];rfl
      rw [e1]
      exact this
    · have h34' : (s.data.toList.drop a).head? ≠ some 34:=by rw [hbr];simpa using h34
      have h92 : b = 92:=piece_zero (by rw [← hbr];exact hp) h34
      by_cases hl : s.size - a < 2
      · have hn2 : ¬ ((s.data.toList.drop a).take 2 = [92,40]):=fun e=>by
          have:=congrArg List.length e
          rw [List.length_take,hll] at this
          simp at this;omega
        have hnx:=next_none ht hp h34' hn2
        refine ⟨fun k n z h=>(by rw [hnx] at h;cases h),fun e h=>?_⟩
        rw [hnx] at h;cases h
        exact inside_short s a 0 0 vL vO (brs y) base ts W hown hbase hts hop hs ha hp h34' hl
      · by_cases h40 : (s.data.toList.drop a).getD 1 0 = 40
        · have htk : (s.data.toList.drop a).take 2 = [92,40]:=by
            rw [hbr,h92] at h40 ⊢
            cases r with
            | nil=>rw [hbr] at hll;simp at hll;omega
            | cons u v=>simp at h40;subst h40;rfl
          have hnx:=next_open ht htk
          by_cases hd : 256 ≤ y.below.length
          · rw [if_pos hd] at hnx
            refine ⟨fun k n z h=>(by rw [hnx] at h;cases h),fun e h=>?_⟩
            rw [hnx] at h;cases h
            exact inside_deep s a 0 0 vL vO (brs y) base ts W hown hbase hts hop hs ha hp h34' (by omega) h40 (by rw [Lx.brs_length];exact hd)
          · rw [if_neg hd] at hnx
            refine ⟨fun k n z h=>?_,fun e h=>by rw [hnx] at h;cases h⟩
            rw [hnx] at h;cases h
            refine ⟨hg.push (by omega) ht (by omega),?_⟩
            rw [Lx.brs_push,htk]
            rcases hop with ⟨hv,h0⟩ | ⟨g,cap,cur,hv,hx⟩
            · have:=inside_first s a 0 (a + 2) vL vO (brs y) base ts W hown hbase hts (.inl ⟨hv,h0⟩) hs ha hp h34' (by omega) h40 (by rw [Lx.brs_length];omega) rfl hv
              exact this
            · have:=inside_open s a 0 (a + 2) vL vO (brs y) base ts W hown hbase hts (.inr ⟨g,cap,cur,hv,hx⟩) hs ha hp h34' (by omega) h40 (by rw [Lx.brs_length];omega) rfl g cap hv
              exact this
        · have hn2 : ¬ ((s.data.toList.drop a).take 2 = [92,40]):=fun e=>by
            apply h40
            cases r with
            | nil=>rw [hbr] at hll;simp at hll;omega
            | cons u v=>rw [hbr] at e ⊢;simp at e;simp [e.2]
          have hnx:=next_none ht hp h34' hn2
          refine ⟨fun k n z h=>(by rw [hnx] at h;cases h),fun e h=>?_⟩
          rw [hnx] at h;cases h
          exact inside_none s a 0 0 vL vO (brs y) base ts W hown hbase hts hop hs ha hp h34' (by omega) h40
  · have hnx:=next_piece ht hp
    refine ⟨fun k n z h=>?_,fun e h=>by rw [hnx] at h;cases h⟩
    rw [hnx] at h
    cases h
    refine ⟨hg.mono (by omega),?_⟩
    rw [ht]
    exact inside_piece s a _ _ vL vO (brs y) base ts W hown hbase hts hop hs ha rfl hp rfl
theorem step_out (ht : y.top.text = false) :
    (∀ k n z,next y (s.data.toList.drop a) = .ok (k,n,z) → Good z (a + n) ∧ Calls Try.prog 30 #[.agg (lF s (a : Int) vL vO false 0)] W (Stepped s ((a + n : Nat) : Int) z.top.text 0 (brs z) base (ts ++ [(k,(s.data.toList.drop a).take n)]) vL W)) ∧
    (∀ e,next y (s.data.toList.drop a) = .error e → Calls Try.prog 30 #[.agg (lF s (a : Int) vL vO false 0)] W (Stepped s (a : Int) false e (brs y) base ts vL W)):=by
  obtain ⟨kd,n,hpf⟩ : ∃ kd n,pf (s.data.toList.drop a) = (kd,n):=⟨_,_,rfl⟩
  have p1 : (pf (s.data.toList.drop a)).1 = kd:=by rw [hpf]
  have p2 : (pf (s.data.toList.drop a)).2 = n:=by rw [hpf]
  by_cases hn : n = 0
  · have hnx:=next_err (y:=y) ht (p2.trans hn)
    refine ⟨fun k n z h=>(by rw [hnx] at h;cases h),fun e h=>?_⟩
    rw [hnx] at h;cases h
    exact outside_none s a n 0 kd vL vO (brs y) base ts W hown hbase hts hop hs ha hpf hn
  · obtain ⟨k8,k9,k10,k11⟩:=pf_kind (l:=s.data.toList.drop a)
    rw [p1] at k8 k9 k10 k11
    have hbt:=hg.br y.top (by simp)
    by_cases hb : y.below = []
    · have hop0 : (brs y).length = 0:=by rw [Lx.brs_length,hb];rfl
      have hno : ¬ (y.below ≠ [] ∧ y.top.br = 0 ∧ (s.data.toList.drop a).take (pf (s.data.toList.drop a)).2 = [41]):=fun e=>e.1 hb
      by_cases h7 : kd = 7
      · have hnx:=next_out ht (by rw [p2];exact hn) hno (z:={ y with top:={ y.top with text:=true } }) (by rw [p1,h7];rfl)
        rw [p1,p2] at hnx
        refine ⟨fun k n z h=>?_,fun e h=>by rw [hnx] at h;cases h⟩
        rw [hnx] at h;cases h
        exact ⟨hg.text (by omega) _,by rw [Lx.brs_text];exact outside_low7 s a n _ kd vL vO (brs y) base ts W hown hbase hts hop hs ha hpf hn rfl hop0 h7⟩
      · by_cases h13 : kd = 13
        · have hnx:=next_out ht (by rw [p2];exact hn) hno (z:={ y with top:={ y.top with br:=wrap64 (y.top.br + Lx.bracket ((s.data.toList.drop a).take (pf (s.data.toList.drop a)).2)) } }) (by rw [p1,h13];rfl)
          rw [p1,p2] at hnx
          refine ⟨fun k n z h=>?_,fun e h=>by rw [hnx] at h;cases h⟩
          rw [hnx] at h;cases h
          refine ⟨hg.set (by omega) _ ?_,?_⟩
          · have hbb : ∀ t : List UInt8,-1 ≤ Lx.bracket t ∧ Lx.bracket t ≤ 1:=bracket_abs
            have:=hbb ((s.data.toList.drop a).take n)
            rw [IntWalk.wrap64_in _ (by omega)];omega
          · rw [Lx.brs_low hb]
            show Calls _ _ _ _ (Stepped s _ y.top.text 0 _ _ _ _ _)
            rw [ht]
            exact outside_low s a n _ kd vL vO (brs y) base ts W hown hbase hts hop hs ha hpf hn rfl hop0 h7
        · have hnx:=next_out ht (by rw [p2];exact hn) hno (z:=y) (by rw [p1];exact turn_plain _ h7 k11 k9 k10 h13)
          rw [p1,p2] at hnx
          refine ⟨fun k n z h=>?_,fun e h=>by rw [hnx] at h;cases h⟩
          rw [hnx] at h;cases h
          refine ⟨hg.mono (by omega),?_⟩
          rw [ht]
          exact outside_low s a n _ kd vL vO (brs y) base ts W hown hbase hts hop hs ha hpf hn rfl hop0 h7
    · have hpop:=Lx.brs_pop hb
      obtain ⟨m,hm⟩ : ∃ m,(brs (popped y)).length = m:=⟨_,rfl⟩
      have hml : m + 1 = (brs y).length:=by rw [hpop,List.length_append,hm];rfl
      have htake : (brs y).take m = brs (popped y):=by rw [hpop,← hm,List.take_left]
      have hget : (brs y)[m]? = some y.top.br:=by rw [hpop,← hm];simp
      have hol : (brs y).length ≤ 256:=by rw [Lx.brs_length];exact hg.deep
      obtain ⟨g,cap,hv⟩ : ∃ g cap,vO = .slice (some ⟨g,0,none⟩) (brs y).length cap:=by
        rcases hop with ⟨_,h0⟩ | ⟨g,cap,cur,hv,hx⟩
        · rw [h0] at hml;simp at hml
        · exact ⟨g,cap,hv⟩
      by_cases h7 : kd = 7
      · have hno : ¬ (y.below ≠ [] ∧ y.top.br = 0 ∧ (s.data.toList.drop a).take (pf (s.data.toList.drop a)).2 = [41]):=fun e=>by
          have:=pf_41 (head_of_take e.2.2)
          rw [this] at p1;omega
        have hnx:=next_out ht (by rw [p2];exact hn) hno (z:={ y with top:={ y.top with text:=true } }) (by rw [p1,h7];rfl)
        rw [p1,p2] at hnx
        refine ⟨fun k n z h=>?_,fun e h=>by rw [hnx] at h;cases h⟩
        rw [hnx] at h;cases h
        exact ⟨hg.text (by omega) _,by rw [Lx.brs_text];exact outside_up7 s a n _ kd vL vO (brs y) base ts W hown hbase hts hop hs ha hpf hn rfl g cap m hv hml hol h7⟩
      · by_cases h13 : kd = 13
        · by_cases h41 : (s.data.toList.drop a).take n = [41]
          · by_cases hz : y.top.br = 0
            · obtain ⟨hnx,hn1⟩:=next_close ht hb hz (by rw [p2];exact h41)
              refine ⟨fun k n z h=>?_,fun e h=>by rw [hnx] at h;cases h⟩
              rw [hnx] at h;cases h
              rw [p2] at hn1
              rw [hn1] at h41
              refine ⟨hg.pop (by omega) hb,?_⟩
              rw [hg.up.last hb,← htake,h41]
              exact outside_close s a 1 _ kd vL vO (brs y) base ts W hown hbase hts hop hs ha (by rw [hpf,hn1]) (by omega) rfl g cap m hv hml hol h13 h41 (by rw [hget,hz])
            · have hnx:=next_out ht (by rw [p2];exact hn) (fun e=>hz e.2.1) (z:={ y with top:={ y.top with br:=wrap64 (y.top.br + Lx.bracket ((s.data.toList.drop a).take (pf (s.data.toList.drop a)).2)) } }) (by rw [p1,h13];rfl)
              rw [p1,p2] at hnx
              refine ⟨fun k n z h=>?_,fun e h=>by rw [hnx] at h;cases h⟩
              rw [hnx] at h;cases h
              have hw : wrap64 (y.top.br + Lx.bracket ((s.data.toList.drop a).take n)) = y.top.br - 1:=by
                rw [h41,show Lx.bracket [41] = -1 from rfl,IntWalk.wrap64_in _ (by omega)];omega
              refine ⟨hg.set (by omega) _ (by rw [hw];omega),?_⟩
              rw [Lx.brs_set hb,← htake,hw]
              show Calls _ _ _ _ (Stepped s _ y.top.text 0 _ _ _ _ _)
              rw [ht]
              exact outside_dec s a n _ kd vL vO (brs y) base ts W hown hbase hts hop hs ha hpf hn rfl g cap m hv hml hol h13 h41 _ _ hget hz (by rw [IntWalk.wrap64_in _ (by omega)])
          · have hno : ¬ (y.below ≠ [] ∧ y.top.br = 0 ∧ (s.data.toList.drop a).take (pf (s.data.toList.drop a)).2 = [41]):=fun e=>h41 (by rw [← p2];exact e.2.2)
            have hnx:=next_out ht (by rw [p2];exact hn) hno (z:={ y with top:={ y.top with br:=wrap64 (y.top.br + Lx.bracket ((s.data.toList.drop a).take (pf (s.data.toList.drop a)).2)) } }) (by rw [p1,h13];rfl)
            rw [p1,p2] at hnx
            refine ⟨fun k n z h=>?_,fun e h=>by rw [hnx] at h;cases h⟩
            rw [hnx] at h;cases h
            by_cases h40 : (s.data.toList.drop a).take n = [40]
            · have hw : wrap64 (y.top.br + Lx.bracket ((s.data.toList.drop a).take n)) = y.top.br + 1:=by
                rw [h40,show Lx.bracket [40] = 1 from rfl,IntWalk.wrap64_in _ (by omega)]
              refine ⟨hg.set (by omega) _ (by rw [hw];omega),?_⟩
              rw [Lx.brs_set hb,← htake,hw]
              show Calls _ _ _ _ (Stepped s _ y.top.text 0 _ _ _ _ _)
              rw [ht]
              exact outside_inc s a n _ kd vL vO (brs y) base ts W hown hbase hts hop hs ha hpf hn rfl g cap m hv hml hol h13 h40 _ _ hget (by rw [IntWalk.wrap64_in _ (by omega)])
            · have hw : wrap64 (y.top.br + Lx.bracket ((s.data.toList.drop a).take n)) = y.top.br:=by
                unfold Lx.bracket
                rw [if_neg h40,if_neg h41,IntWalk.wrap64_in _ (by omega)];omega
              refine ⟨hg.set (by omega) _ (by rw [hw];omega),?_⟩
              rw [Lx.brs_set hb,hw,← hpop]
              show Calls _ _ _ _ (Stepped s _ y.top.text 0 _ _ _ _ _)
              rw [ht]
              exact outside_op s a n _ kd vL vO (brs y) base ts W hown hbase hts hop hs ha hpf hn rfl g cap m hv hml hol h13 h41 h40
        · have hno : ¬ (y.below ≠ [] ∧ y.top.br = 0 ∧ (s.data.toList.drop a).take (pf (s.data.toList.drop a)).2 = [41]):=fun e=>by
            have:=pf_41 (head_of_take e.2.2)
            rw [this] at p1;omega
          have hnx:=next_out ht (by rw [p2];exact hn) hno (z:=y) (by rw [p1];exact turn_plain _ h7 k11 k9 k10 h13)
          rw [p1,p2] at hnx
          refine ⟨fun k n z h=>?_,fun e h=>by rw [hnx] at h;cases h⟩
          rw [hnx] at h;cases h
          refine ⟨hg.mono (by omega),?_⟩
          rw [ht]
          exact outside_up s a n _ kd vL vO (brs y) base ts W hown hbase hts hop hs ha hpf hn rfl g cap m hv hml hol h7 h13
end
end Go.Proofs.Ythadnhpkeljdoaa.lx
namespace Go.Proofs.Ythadnhpkeljdoaa.lx
open Go.Lib (hid)
open Go.RowKit Go.Shelf
open sg (lst_len extract_drop ext_size)
open Lx (brs Up popped next turn)
open sx
structure TI (s : ByteArray) (w : World) (B : Nat) (y : Lx.Lex) (ts : List Lx.Tok) (a : Nat) (vL vO : Value) (e : Int) (wr : World) : Prop where
  blk : Blk wr B 66 (lF s (a : Int) vL vO y.top.text e)
  own : wr.ownsRow w.heap.size 54 2 vL ts.length (tokCells ts)
  op : OpenAt wr vO (brs y)
  hb : Below w.heap.size w wr
  hB : w.heap.size ≤ B
  ha : a ≤ s.size
  hsz : Lx.size ts = a
  hlen : ts.length ≤ a
  hlex : (e = 0 ∧ Good y a ∧ Lx.lexA Lx.start s.data.toList = (ts ++ (Lx.lexA y (s.data.toList.drop a)).1,(Lx.lexA y (s.data.toList.drop a)).2)) ∨ (e ≠ 0 ∧ Lx.lexA Lx.start s.data.toList = (ts,e))
def StepF (s : ByteArray) (ts : List Lx.Tok) (a : Nat) (z : Lx.Lex) (e : Int) : Prop :=
  a ≤ s.size ∧ Lx.size ts = a ∧ ts.length ≤ a ∧ ((e = 0 ∧ Good z a ∧ Lx.lexA Lx.start s.data.toList = (ts ++ (Lx.lexA z (s.data.toList.drop a)).1,(Lx.lexA z (s.data.toList.drop a)).2)) ∨ (e ≠ 0 ∧ Lx.lexA Lx.start s.data.toList = (ts,e)))
def TM (s : ByteArray) (B : Nat) (wr : World) : Nat :=
  2 * (s.size - (intOf ((wr.cell? ⟨B,1,none⟩).getD (.int .i64 0))).toNat) + (if intOf ((wr.cell? ⟨B,5,none⟩).getD (.int .i64 0)) = 0 then 1 else 0)
theorem TI.tm {s : ByteArray} {w : World} {B : Nat} {y : Lx.Lex} {ts : List Lx.Tok} {a : Nat} {vL vO : Value} {e : Int} {wr : World} (h : TI s w B y ts a vL vO e wr) : TM s B wr = 2 * (s.size - a) + (if e = 0 then 1 else 0):=by
  unfold TM
  rw [h.blk.cell 1,h.blk.cell 5]
  rfl
theorem TI.step {s : ByteArray} {w : World} {B : Nat} {y z : Lx.Lex} {ts ts' : List Lx.Tok} {a a' : Nat} {vL vL' vO vO' : Value} {e' : Int} {wr w2 : World} (h : TI s w B y ts a vL vO 0 wr)
    (ho : w2.ownsRow w.heap.size 54 2 vL' ts'.length (tokCells ts')) (hop : OpenAt w2 vO' (brs z)) (hbut : But wr.heap.size (tkOwn vL) wr w2) (ha : a' ≤ s.size) (hsz : Lx.size ts' = a') (hlen : ts'.length ≤ a')
    (hl : (e' = 0 ∧ Good z a' ∧ Lx.lexA Lx.start s.data.toList = (ts' ++ (Lx.lexA z (s.data.toList.drop a')).1,(Lx.lexA z (s.data.toList.drop a')).2)) ∨ (e' ≠ 0 ∧ Lx.lexA Lx.start s.data.toList = (ts',e'))) :
    Blk w2 B 66 (lF s (a : Int) vL vO y.top.text 0) ∧
    TI s w B z ts' a' vL' vO' e' ((((((w2.setCell ⟨B,0,none⟩ (.string s)).setCell ⟨B,1,none⟩ (.int .i64 (a' : Int))).setCell ⟨B,2,none⟩ vL').setCell ⟨B,3,none⟩ vO').setCell ⟨B,4,none⟩ (.bool z.top.text)).setCell ⟨B,5,none⟩ (.int .i64 e')):=by
  have hk:=h.blk.but hbut (fun e=>own_ne h.own h.blk (by decide) e.symm)
  have n2:=own_ne ho hk (by decide)
  have hb2 : Below w.heap.size w w2:=h.hb.trans ⟨hbut.os,hbut.tape,hbut.output,hbut.size,fun k hk'=>hbut.block k (Nat.lt_of_lt_of_le hk' h.hb.size) (fun e=>by have:=(h.own.lt k e).1;omega)⟩
  refine ⟨hk,⟨six_set hk _ _ _ _ _ _,own_six ho n2 _ _ _ _ _ _,?_,?_,h.hB,ha,hsz,hlen,hl⟩⟩
  · rcases hop with h | ⟨g,cap,cur,h1,h2,h3⟩
    · exact .inl h
    · have hne : g ≠ B:=fun e'=>by
        rw [e'] at h2
        exact blk_apart h2 hk (by decide)
      exact .inr ⟨g,cap,cur,h1,(((((h2.other hne _).other hne _).other hne _).other hne _).other hne _).other hne _,h3⟩
  · have hB:=h.hB
    exact (((((hb2.setCell (p:=⟨B,0,none⟩) hB _).setCell (p:=⟨B,1,none⟩) hB _).setCell (p:=⟨B,2,none⟩) hB _).setCell (p:=⟨B,3,none⟩) hB _).setCell (p:=⟨B,4,none⟩) hB _).setCell (p:=⟨B,5,none⟩) hB _
theorem lex_step {s : ByteArray} {y z : Lx.Lex} {ts : List Lx.Tok} {a n : Nat} {k : Int} (ha : a < s.size) (hl : Lx.lexA Lx.start s.data.toList = (ts ++ (Lx.lexA y (s.data.toList.drop a)).1,(Lx.lexA y (s.data.toList.drop a)).2)) (hn : next y (s.data.toList.drop a) = .ok (k,n,z)) :
    Lx.lexA Lx.start s.data.toList = ((ts ++ [(k,(s.data.toList.drop a).take n)]) ++ (Lx.lexA z (s.data.toList.drop (a + n))).1,(Lx.lexA z (s.data.toList.drop (a + n))).2):=by
  have hne : s.data.toList.drop a ≠ []:=fun e=>by
    have:=congrArg List.length e
    rw [List.length_drop,lst_len] at this
    simp at this;omega
  rw [hl,Lx.lexA_ok hn hne,List.drop_drop]
  simp
theorem lex_stop {s : ByteArray} {y : Lx.Lex} {ts : List Lx.Tok} {a : Nat} {e : Int} (ha : a < s.size) (hl : Lx.lexA Lx.start s.data.toList = (ts ++ (Lx.lexA y (s.data.toList.drop a)).1,(Lx.lexA y (s.data.toList.drop a)).2)) (hn : next y (s.data.toList.drop a) = .error e) :
    Lx.lexA Lx.start s.data.toList = (ts,e):=by
  have hne : s.data.toList.drop a ≠ []:=fun e=>by
    have:=congrArg List.length e
    rw [List.length_drop,lst_len] at this
    simp at this;omega
  rw [hl,Lx.lexA_err hn hne]
  simp
def RTo (s : ByteArray) (w : World) (en : Ending) (w' : World) : Prop :=
  ∃ v,en = .returned (.tuple #[v,.int .i64 (tokensF s.data.toList (utf.checkF s)).2.1,.int .i64 (tokensF s.data.toList (utf.checkF s)).2.2]) ∧
    w'.ownsRow w.heap.size 54 2 v (tokensF s.data.toList (utf.checkF s)).1.length (tokCells (tokensF s.data.toList (utf.checkF s)).1) ∧ Below w.heap.size w w'
theorem rtokens_utfB (s : ByteArray) (hs : s.size ≤ 65536) (hck : 0 ≤ utf.checkF s) (w : World) : Calls Try.prog 18 #[.string s] w (RTo s w):=by
  have HF:=hid (show tokensF s.data.toList (utf.checkF s) = ([],10,utf.checkF s) by unfold tokensF;rw [if_neg (by rw [lst_len];omega),if_pos hck])
  obtain ⟨chk,hchk⟩ : ∃ chk,utf.checkF s = chk:=⟨_,rfl⟩
  have hcc:=fun w=>utf.refCheck_big s (by omega) w
  simp only [hchk] at hcc
  rw [hchk] at hck
  have t0 : decide ((65536 : Int) < (s.size : Int)) = false:=decide_eq_false (by omega)
  have t1 : decide ((0 : Int) ≤ chk) = true:=decide_eq_true hck
  have HC:=hid hchk
  clear hchk hck
  go_enter Try.func18,Try.ntmps18
  go_wp2_with fail
  ((with_reducible refine (hcc _).mono ?_);rintro e' w1 ⟨rfl,hb1⟩)
  go_wp2_with fail
  refine bodyPost_ret (v:=.tuple #[.slice none 0 0,.int .i64 10,.int .i64 chk]) (by simp [results,Try.results18,go_sem]) rfl ⟨.slice none 0 0,by rw [HF.out,HC.out],by rw [HF.out];exact World.ownsRow_nil _ _ _ _,hb1⟩
theorem rtokens_callsB (s : ByteArray) (hs : s.size ≤ 65536) (w : World) : Calls Try.prog 18 #[.string s] w (RTo s w):=by
  by_cases hck : 0 ≤ utf.checkF s
  · exact rtokens_utfB s hs hck w
  obtain ⟨chk,hchk⟩ : ∃ chk,utf.checkF s = chk:=⟨_,rfl⟩
  have hcc:=fun w=>utf.refCheck_big s (by omega) w
  simp only [hchk] at hcc
  have HF:=hid (show tokensF s.data.toList (utf.checkF s) = if (Lx.lexA Lx.start s.data.toList).2 = 0 then ((Lx.lexA Lx.start s.data.toList).1,0,0) else ([],(Lx.lexA Lx.start s.data.toList).2,(Lx.size (Lx.lexA Lx.start s.data.toList).1 : Int)) by unfold tokensF;rw [if_neg (by rw [lst_len];omega),if_neg hck])
  rw [hchk] at hck
  have t0 : decide ((65536 : Int) < (s.size : Int)) = false:=decide_eq_false (by omega)
  have t1 : decide ((0 : Int) ≤ chk) = false:=decide_eq_false hck
  have HC:=hid hchk
  clear hchk hck
  go_enter Try.func18,Try.ntmps18
  go_wp2_with fail
  ((with_reducible refine (hcc _).mono ?_);rintro e' w1 ⟨rfl,hb1⟩)
  obtain ⟨B,hB⟩ : ∃ B,w1.heap.size = B:=⟨_,rfl⟩
  have hst : TI s w B Lx.start [] 0 (.slice none 0 0) (.slice none 0 0) 0 (w1.alloc (.cells (lF s 0 (.slice none 0 0) (.slice none 0 0) false 0) 66)):=by
    refine ⟨by rw [← hB];exact Blk.new w1 _ _,(World.ownsRow_nil _ _ _ _),OpenAt.nil _,hb1.alloc hb1.size _,by rw [← hB];exact hb1.size,Nat.zero_le _,rfl,Nat.le_refl _,.inl ⟨rfl,good_start,by simp⟩⟩
  unfold lF at hst
  go_wp2_with fail
  go_loopw [] (fun wr=>∃ y ts a vL vO e,TI s w B y ts a vL vO e wr) (fun wr=>TM s B wr)
  case atStart =>
    exact ⟨_,_,_,_,_,_,hst⟩
  case round =>
    obtain ⟨y,ts,a,vL,vO,e,hT⟩:=hrel
    obtain ⟨al,ll,cl,rfl⟩:=own_slice hT.own
    obtain ⟨ao,co,hvo⟩:=hT.op.slice
    subst hvo
    have htm:=hT.tm
    have c0 : wr.cell? ⟨B,0,none⟩ = some (.string s):=hT.blk.cell 0
    have c1 : wr.cell? ⟨B,1,none⟩ = some (.int .i64 (a : Int)):=hT.blk.cell 1
    have c2 : wr.cell? ⟨B,2,none⟩ = some (.slice al ll cl):=hT.blk.cell 2
    have c3 : wr.cell? ⟨B,3,none⟩ = some (.slice ao (brs y).length co):=hT.blk.cell 3
    have c4 : wr.cell? ⟨B,4,none⟩ = some (.bool y.top.text):=hT.blk.cell 4
    have c5 : wr.cell? ⟨B,5,none⟩ = some (.int .i64 e):=hT.blk.cell 5
    have f0:=hT.blk.frozen 0;have f1:=hT.blk.frozen 1;have f2:=hT.blk.frozen 2;have f3:=hT.blk.frozen 3;have f4:=hT.blk.frozen 4;have f5:=hT.blk.frozen 5
    have hts : ts.length ≤ 65536:=by have:=hT.hlen;have:=hT.ha;omega
    by_cases he : e = 0
    · subst he
      by_cases hlt : a < s.size
      · obtain ⟨_,hgood,hlex⟩:=hT.hlex.resolve_right (fun h=>h.1 rfl)
        have t2 : decide ((a : Int) < (s.size : Int)) = true:=decide_eq_true (by omega)
        cases htx : y.top.text with
        | true =>
          rw [htx] at c4
          obtain ⟨hok,herr⟩:=step_in s a _ _ y w.heap.size ts wr hT.own hT.hb.size hts hT.op (by omega) hlt hgood htx
          cases hnx : next y (s.data.toList.drop a) with
          | ok p =>
            obtain ⟨k,n,z⟩:=p
            have hl:=Lx.next_le hnx
            have hdl : (s.data.toList.drop a).length = s.size - a:=by rw [List.length_drop,lst_len]
            obtain ⟨hg2,hc⟩:=hok k n z hnx
            have hlx:=lex_step hlt hlex hnx
            have hsz2 : Lx.size (ts ++ [(k,(s.data.toList.drop a).take n)]) = a + n:=by
              have:=hT.hsz
              unfold Lx.size at this ⊢
              rw [List.map_append,List.sum_append,this]
              simp only [List.map_cons,List.map_nil,List.sum_cons,List.sum_nil,List.length_take]
              omega
            have hlen2 : (ts ++ [(k,(s.data.toList.drop a).take n)]).length ≤ a + n:=by
              have:=hT.hlen
              rw [List.length_append];simp only [List.length_cons,List.length_nil];omega
            have hle2 : a + n ≤ s.size:=by omega
            have hnn:=hl.1
            obtain ⟨r,hr⟩ : ∃ r,a + n = r:=⟨_,rfl⟩
            rw [hr] at hc hg2 hlx hsz2 hlen2 hle2
            have HX : Hid (StepF s (ts ++ [(k,(s.data.toList.drop a).take n)]) r z 0 ∧ a < r):=hid ⟨⟨hle2,hsz2,hlen2,.inl ⟨rfl,hg2,hlx⟩⟩,by omega⟩
            clear hl hdl hlx hsz2 hlen2 hle2 hg2 hr hnn
            unfold lF at hc
            have HC2:=hid hc;have HT:=hid hT;have HTM:=hid (show TM s B wr = 2 * (s.size - a) + 1 by rw [htm,if_pos rfl]);have HTX:=hid htx
            clear hc hok herr hnx hlex hgood hT htm htx
            go_wp2_with fail
            ((with_reducible refine HC2.out.mono ?_);rintro en w2 ⟨vL',vO',rfl,ho2,hop2,hbut2⟩)
            obtain ⟨hk2,hT2⟩:=HT.out.step (z:=z) (e':=0) ho2 hop2 hbut2 HX.out.1.1 HX.out.1.2.1 HX.out.1.2.2.1 HX.out.1.2.2.2
            obtain ⟨a6,l6,c6,rfl⟩:=own_slice ho2
            obtain ⟨a7,c7,hv7⟩:=hop2.slice
            subst hv7
            have hk3 : Blk w2 B 66 (lF s (a : Int) (.slice al ll cl) (.slice ao (brs y).length co) true 0):=by have:=hk2;rw [HTX.out] at this;exact this
            clear c0 c1 c2 c3 c4 c5 f0 f1 f2 f3 f4 f5
            have c0 : w2.cell? ⟨B,0,none⟩ = some (.string s):=hk3.cell 0
            have c1 : w2.cell? ⟨B,1,none⟩ = some (.int .i64 (a : Int)):=hk3.cell 1
            have c2 : w2.cell? ⟨B,2,none⟩ = some (.slice al ll cl):=hk3.cell 2
            have c3 : w2.cell? ⟨B,3,none⟩ = some (.slice ao (brs y).length co):=hk3.cell 3
            have c4 : w2.cell? ⟨B,4,none⟩ = some (.bool true):=hk3.cell 4
            have c5 : w2.cell? ⟨B,5,none⟩ = some (.int .i64 0):=hk3.cell 5
            have f0:=hk3.frozen 0;have f1:=hk3.frozen 1;have f2:=hk3.frozen 2;have f3:=hk3.frozen 3;have f4:=hk3.frozen 4;have f5:=hk3.frozen 5
            have HT2:=hid hT2
            clear hk2 hk3 hT2 ho2 hop2 hbut2
            unfold lF
            go_wp2_with fail
            exact ⟨⟨_,_,_,_,_,_,HT2.out⟩,by rw [HT2.out.tm,HTM.out,if_pos rfl];have:=HX.out.2;have:=HX.out.1.1;omega⟩
          | error e1 =>
            have hc:=herr e1 hnx
            have hlx:=lex_stop hlt hlex hnx
            have hne1 : e1 ≠ 0:=by rcases Lx.next_err_ne hnx with h | h | h <;> omega
            have HX : Hid (StepF s ts a y e1 ∧ e1 ≠ 0):=hid ⟨⟨hT.ha,hT.hsz,hT.hlen,.inr ⟨hne1,hlx⟩⟩,hne1⟩
            clear hlx hne1
            unfold lF at hc
            have HC2:=hid hc;have HT:=hid hT;have HTM:=hid (show TM s B wr = 2 * (s.size - a) + 1 by rw [htm,if_pos rfl]);have HTX:=hid htx
            clear hc hok herr hnx hlex hgood hT htm htx
            go_wp2_with fail
            ((with_reducible refine HC2.out.mono ?_);rintro en w2 ⟨vL',vO',rfl,ho2,hop2,hbut2⟩)
            obtain ⟨hk2,hT2⟩:=HT.out.step (z:=y) (e':=e1) (a':=a) ho2 hop2 hbut2 HX.out.1.1 HX.out.1.2.1 HX.out.1.2.2.1 HX.out.1.2.2.2
            obtain ⟨a6,l6,c6,rfl⟩:=own_slice ho2
            obtain ⟨a7,c7,hv7⟩:=hop2.slice
            subst hv7
            have hk3 : Blk w2 B 66 (lF s (a : Int) (.slice al ll cl) (.slice ao (brs y).length co) true 0):=by have:=hk2;rw [HTX.out] at this;exact this
            clear c0 c1 c2 c3 c4 c5 f0 f1 f2 f3 f4 f5
            have c0 : w2.cell? ⟨B,0,none⟩ = some (.string s):=hk3.cell 0
            have c1 : w2.cell? ⟨B,1,none⟩ = some (.int .i64 (a : Int)):=hk3.cell 1
            have c2 : w2.cell? ⟨B,2,none⟩ = some (.slice al ll cl):=hk3.cell 2
            have c3 : w2.cell? ⟨B,3,none⟩ = some (.slice ao (brs y).length co):=hk3.cell 3
            have c4 : w2.cell? ⟨B,4,none⟩ = some (.bool true):=hk3.cell 4
            have c5 : w2.cell? ⟨B,5,none⟩ = some (.int .i64 0):=hk3.cell 5
            have f0:=hk3.frozen 0;have f1:=hk3.frozen 1;have f2:=hk3.frozen 2;have f3:=hk3.frozen 3;have f4:=hk3.frozen 4;have f5:=hk3.frozen 5
            have HT2:=hid hT2
            clear hk2 hk3 hT2 ho2 hop2 hbut2
            unfold lF
            go_wp2_with fail
            have hT3:=HT2.out
            rw [HTX.out] at hT3
            exact ⟨⟨_,_,_,_,_,_,hT3⟩,by rw [hT3.tm,HTM.out,if_neg HX.out.2];omega⟩
        | false =>
          rw [htx] at c4
          obtain ⟨hok,herr⟩:=step_out s a _ _ y w.heap.size ts wr hT.own hT.hb.size hts hT.op (by omega) hlt hgood htx
          cases hnx : next y (s.data.toList.drop a) with
          | ok p =>
            obtain ⟨k,n,z⟩:=p
            have hl:=Lx.next_le hnx
            have hdl : (s.data.toList.drop a).length = s.size - a:=by rw [List.length_drop,lst_len]
            obtain ⟨hg2,hc⟩:=hok k n z hnx
            have hlx:=lex_step hlt hlex hnx
            have hsz2 : Lx.size (ts ++ [(k,(s.data.toList.drop a).take n)]) = a + n:=by
              have:=hT.hsz
              unfold Lx.size at this ⊢
              rw [List.map_append,List.sum_append,this]
              simp only [List.map_cons,List.map_nil,List.sum_cons,List.sum_nil,List.length_take]
              omega
            have hlen2 : (ts ++ [(k,(s.data.toList.drop a).take n)]).length ≤ a + n:=by
              have:=hT.hlen
              rw [List.length_append];simp only [List.length_cons,List.length_nil];omega
            have hle2 : a + n ≤ s.size:=by omega
            have hnn:=hl.1
            obtain ⟨r,hr⟩ : ∃ r,a + n = r:=⟨_,rfl⟩
            rw [hr] at hc hg2 hlx hsz2 hlen2 hle2
            have HX : Hid (StepF s (ts ++ [(k,(s.data.toList.drop a).take n)]) r z 0 ∧ a < r):=hid ⟨⟨hle2,hsz2,hlen2,.inl ⟨rfl,hg2,hlx⟩⟩,by omega⟩
            clear hl hdl hlx hsz2 hlen2 hle2 hg2 hr hnn
            unfold lF at hc
            have HC2:=hid hc;have HT:=hid hT;have HTM:=hid (show TM s B wr = 2 * (s.size - a) + 1 by rw [htm,if_pos rfl]);have HTX:=hid htx
            clear hc hok herr hnx hlex hgood hT htm htx
            go_wp2_with fail
            ((with_reducible refine HC2.out.mono ?_);rintro en w2 ⟨vL',vO',rfl,ho2,hop2,hbut2⟩)
            obtain ⟨hk2,hT2⟩:=HT.out.step (z:=z) (e':=0) ho2 hop2 hbut2 HX.out.1.1 HX.out.1.2.1 HX.out.1.2.2.1 HX.out.1.2.2.2
            obtain ⟨a6,l6,c6,rfl⟩:=own_slice ho2
            obtain ⟨a7,c7,hv7⟩:=hop2.slice
            subst hv7
            have hk3 : Blk w2 B 66 (lF s (a : Int) (.slice al ll cl) (.slice ao (brs y).length co) false 0):=by have:=hk2;rw [HTX.out] at this;exact this
            clear c0 c1 c2 c3 c4 c5 f0 f1 f2 f3 f4 f5
            have c0 : w2.cell? ⟨B,0,none⟩ = some (.string s):=hk3.cell 0
            have c1 : w2.cell? ⟨B,1,none⟩ = some (.int .i64 (a : Int)):=hk3.cell 1
            have c2 : w2.cell? ⟨B,2,none⟩ = some (.slice al ll cl):=hk3.cell 2
            have c3 : w2.cell? ⟨B,3,none⟩ = some (.slice ao (brs y).length co):=hk3.cell 3
            have c4 : w2.cell? ⟨B,4,none⟩ = some (.bool false):=hk3.cell 4
            have c5 : w2.cell? ⟨B,5,none⟩ = some (.int .i64 0):=hk3.cell 5
            have f0:=hk3.frozen 0;have f1:=hk3.frozen 1;have f2:=hk3.frozen 2;have f3:=hk3.frozen 3;have f4:=hk3.frozen 4;have f5:=hk3.frozen 5
            have HT2:=hid hT2
            clear hk2 hk3 hT2 ho2 hop2 hbut2
            unfold lF
            go_wp2_with fail
            exact ⟨⟨_,_,_,_,_,_,HT2.out⟩,by rw [HT2.out.tm,HTM.out,if_pos rfl];have:=HX.out.2;have:=HX.out.1.1;omega⟩
          | error e1 =>
            have hc:=herr e1 hnx
            have hlx:=lex_stop hlt hlex hnx
            have hne1 : e1 ≠ 0:=by rcases Lx.next_err_ne hnx with h | h | h <;> omega
            have HX : Hid (StepF s ts a y e1 ∧ e1 ≠ 0):=hid ⟨⟨hT.ha,hT.hsz,hT.hlen,.inr ⟨hne1,hlx⟩⟩,hne1⟩
            clear hlx hne1
            unfold lF at hc
            have HC2:=hid hc;have HT:=hid hT;have HTM:=hid (show TM s B wr = 2 * (s.size - a) + 1 by rw [htm,if_pos rfl]);have HTX:=hid htx
            clear hc hok herr hnx hlex hgood hT htm htx
            go_wp2_with fail
            ((with_reducible refine HC2.out.mono ?_);rintro en w2 ⟨vL',vO',rfl,ho2,hop2,hbut2⟩)
            obtain ⟨hk2,hT2⟩:=HT.out.step (z:=y) (e':=e1) (a':=a) ho2 hop2 hbut2 HX.out.1.1 HX.out.1.2.1 HX.out.1.2.2.1 HX.out.1.2.2.2
            obtain ⟨a6,l6,c6,rfl⟩:=own_slice ho2
            obtain ⟨a7,c7,hv7⟩:=hop2.slice
            subst hv7
            have hk3 : Blk w2 B 66 (lF s (a : Int) (.slice al ll cl) (.slice ao (brs y).length co) false 0):=by have:=hk2;rw [HTX.out] at this;exact this
            clear c0 c1 c2 c3 c4 c5 f0 f1 f2 f3 f4 f5
            have c0 : w2.cell? ⟨B,0,none⟩ = some (.string s):=hk3.cell 0
            have c1 : w2.cell? ⟨B,1,none⟩ = some (.int .i64 (a : Int)):=hk3.cell 1
            have c2 : w2.cell? ⟨B,2,none⟩ = some (.slice al ll cl):=hk3.cell 2
            have c3 : w2.cell? ⟨B,3,none⟩ = some (.slice ao (brs y).length co):=hk3.cell 3
            have c4 : w2.cell? ⟨B,4,none⟩ = some (.bool false):=hk3.cell 4
            have c5 : w2.cell? ⟨B,5,none⟩ = some (.int .i64 0):=hk3.cell 5
            have f0:=hk3.frozen 0;have f1:=hk3.frozen 1;have f2:=hk3.frozen 2;have f3:=hk3.frozen 3;have f4:=hk3.frozen 4;have f5:=hk3.frozen 5
            have HT2:=hid hT2
            clear hk2 hk3 hT2 ho2 hop2 hbut2
            unfold lF
            go_wp2_with fail
            have hT3:=HT2.out
            rw [HTX.out] at hT3
            exact ⟨⟨_,_,_,_,_,_,hT3⟩,by rw [hT3.tm,HTM.out,if_neg HX.out.2];omega⟩
      · have hae : a = s.size:=by have:=hT.ha;omega
        subst hae
        obtain ⟨_,hgood,hlex⟩:=hT.hlex.resolve_right (fun h=>h.1 rfl)
        have t2 : decide ((s.size : Int) < (s.size : Int)) = false:=by simp
        rw [show s.data.toList.drop s.size = [] from List.drop_eq_nil_of_le (by rw [lst_len];exact Nat.le_refl _),Lx.lexA_nil] at hlex
        simp only [List.append_nil] at hlex
        have HT:=hid hT;have HL:=hid hlex
        clear hlex hgood htm hlt hts
        cases htx : y.top.text with
        | true =>
          rw [htx] at c4
          have HE:=hid (show Lx.ended y = false by unfold Lx.ended;rw [htx];simp)
          clear hT
          go_wp2_with fail
          refine bodyPost_ret (v:=.tuple #[.slice none 0 0,.int .i64 13,.int .i64 (s.size : Int)]) (by simp [results,Try.results18,go_sem]) rfl ⟨.slice none 0 0,?_,?_,HT.out.hb⟩
          · rw [HF.out,HL.out,HE.out]
            simp only [Bool.false_eq_true,if_false]
            rw [if_neg (by decide),HT.out.hsz]
          · rw [HF.out,HL.out,HE.out]
            exact World.ownsRow_nil _ _ _ _
        | false =>
          rw [htx] at c4
          by_cases hb0 : y.below = []
          · have HE:=hid (show Lx.ended y = true by unfold Lx.ended;rw [htx,hb0];rfl)
            have hbl : (brs y).length = 0:=by rw [Lx.brs_length,hb0];rfl
            have t3 : decide ((0 : Int) < ((brs y).length : Int)) = false:=decide_eq_false (by omega)
            have hbn : brs y = []:=List.length_eq_zero_iff.1 hbl
            clear hT hb0 hbl t3
            go_wp2_with fail
            refine bodyPost_ret (v:=.tuple #[.slice al ll cl,.int .i64 0,.int .i64 0]) (by simp [results,Try.results18,go_sem]) rfl ⟨.slice al ll cl,?_,?_,HT.out.hb⟩
            · rw [HF.out,HL.out,HE.out]
              rfl
            · rw [HF.out,HL.out,HE.out]
              exact HT.out.own
          · have HE:=hid (show Lx.ended y = false by unfold Lx.ended;cases hb1 : y.below with | nil=>exact absurd hb1 hb0 | cons u v=>rfl)
            have hbl : 0 < (brs y).length:=by rw [Lx.brs_length];exact List.length_pos_iff.2 hb0
            have t3 : decide ((0 : Int) < ((brs y).length : Int)) = true:=decide_eq_true (by omega)
            clear hT hb0
            go_wp2_with fail
            refine bodyPost_ret (v:=.tuple #[.slice none 0 0,.int .i64 13,.int .i64 (s.size : Int)]) (by simp [results,Try.results18,go_sem]) rfl ⟨.slice none 0 0,?_,?_,HT.out.hb⟩
            · rw [HF.out,HL.out,HE.out]
              simp only [Bool.false_eq_true,if_false]
              rw [if_neg (by decide),HT.out.hsz]
            · rw [HF.out,HL.out,HE.out]
              exact World.ownsRow_nil _ _ _ _
    · obtain ⟨_,hlex⟩:=hT.hlex.resolve_left (fun h=>he h.1)
      have t3 : (e == 0) = false:=beq_eq_false_iff_ne.2 he
      have t4 : (e != 0) = true:=bne_iff_ne.2 he
      have HT:=hid hT;have HL:=hid hlex;have HE:=hid he
      clear hlex htm hts hT he
      have tb : (a < s.size ∧ decide ((a : Int) < (s.size : Int)) = true) ∨ (¬ a < s.size ∧ decide ((a : Int) < (s.size : Int)) = false):=by
        by_cases h : a < s.size
        · exact .inl ⟨h,decide_eq_true (by omega)⟩
        · exact .inr ⟨h,decide_eq_false (by omega)⟩
      rcases tb with ⟨tb1,tb2⟩ | ⟨tb1,tb2⟩ <;>
      · go_wp2_with fail
        go_quiet (fail)
        rename_i nq2
        go_wp2_with fail
        refine bodyPost_ret (v:=.tuple #[.slice none 0 0,.int .i64 e,.int .i64 (a : Int)]) (by simp [results,Try.results18,go_sem]) rfl ⟨.slice none 0 0,?_,?_,HT.out.hb.trans ⟨rfl,rfl,rfl,Nat.le_refl _,fun _ _=>rfl⟩⟩
        · rw [HF.out,HL.out]
          simp only
          rw [if_neg HE.out,HT.out.hsz]
        · rw [HF.out,HL.out]
          simp only
          rw [if_neg HE.out]
          exact World.ownsRow_nil _ _ _ _
end Go.Proofs.Ythadnhpkeljdoaa.lx
namespace Go.Proofs.Ythadnhpkeljdoaa.lx
open Go.Lib (hid)
open Go.RowKit Go.Shelf
open sg (lst_len)
theorem err_nil {s : ByteArray} {l : List Lx.Tok} {er at' : Int} (h : tokensF s.data.toList (utf.checkF s) = (l,er,at')) (h0 : er ≠ 0) : l = []:=by
  unfold tokensF at h
  split at h
  · exact (Prod.mk.inj h).1.symm
  · split at h
    · exact (Prod.mk.inj h).1.symm
    · split at h
      · exact absurd (Prod.mk.inj (Prod.mk.inj h).2).1.symm h0
      · exact (Prod.mk.inj h).1.symm
end Go.Proofs.Ythadnhpkeljdoaa.lx
namespace Go.Proofs.Ythadnhpkeljdoaa.lx
open Go.Lib (hid)
open Go.RowKit Go.ChangeShapes Go.WideShapes Go.ChangeAt Go.ChangeMaps Go.Deep
instance : Inhabited Tk:=⟨(0,⟨#[]⟩)⟩
end Go.Proofs.Ythadnhpkeljdoaa.lx
namespace Go.Proofs.Ythadnhpkeljdoaa.lx
open Go.Lib (hid)
open Go.RowKit Go.ChangeShapes Go.WideShapes Go.ChangeAt Go.ChangeMaps Go.Deep
end Go.Proofs.Ythadnhpkeljdoaa.lx
