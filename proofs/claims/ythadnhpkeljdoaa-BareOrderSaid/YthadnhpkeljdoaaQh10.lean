/- Ground of the law: SgRef3, NdAt, PaSrc, PaEnv, LxStart. -/
import Derived.Test.YthadnhpkeljdoaaQh09
import Derived.Deep.Cut
import Derived.Deep.CutRange
import Derived.Test.YthadnhpkeljdoaaQh08
import Derived.Test.YthadnhpkeljdoaaQh07
import Derived.Test.YthadnhpkeljdoaaQh02
import Derived.Test.YthadnhpkeljdoaaQh01
import Derived.Test.YthadnhpkeljdoaaQh05
import Derived.DeepKeys4
import Derived.Maps.Own
import Derived.Maps.OwnIn
import Derived.Test.YthadnhpkeljdoaaProg
import Derived.Deep.MidRow
import Derived.StringKeys
import Derived.Test.YthadnhpkeljdoaaQh03
import Derived.Maps.AppendAt
import Derived.Laws.Runes
import Derived.Deep.LoopGhost
import Derived.WalkMore
import Derived.RangeFuncBox
import Derived.Deep.QuietTactic
import Derived.BigQuiet
set_option maxRecDepth 100000
set_option maxHeartbeats 8000000
set_option linter.unusedVariables false
set_option linter.unusedSimpArgs false
namespace Go.Proofs.Ythadnhpkeljdoaa.sg
open Go.Lib (hid)
open Go.RowKit Go.Shelf
theorem at_drop (p : Int → Bool) (l : List UInt8) (n k : Nat) : Sg.at' p (l.drop n) k = Sg.at' p l (n + k):=by
  unfold Sg.at'
  have e : (l.drop n).getD k 0 = l.getD (n + k) 0:=by simp [List.getD,List.getElem?_drop]
  rw [e,List.length_drop]
  congr 2
  rw [eq_iff_iff];omega
theorem num_tail (s : ByteArray) (N : Nat) (hN : N ≤ s.size) :
    ((¬ N < s.size → Sg.at' (fun n=>n == 101 || n == 69) (s.data.toList.drop N) 0 = false) ∧
     (∀ h : N < s.size,Sg.at' (fun n=>n == 101 || n == 69) (s.data.toList.drop N) 0 = (((s[N]'h).toNat : Int) == 101 || ((s[N]'h).toNat : Int) == 69))) ∧
    (Sg.at' (fun n=>n == 43 || n == 45) (s.data.toList.drop N) 1 = true → N + 1 < s.size) ∧
    (¬ N + 1 < s.size → Sg.at' (fun n=>n == 43 || n == 45) (s.data.toList.drop N) 1 = false) ∧
    (∀ h : N + 1 < s.size,Sg.at' (fun n=>n == 43 || n == 45) (s.data.toList.drop N) 1 = (((s[N + 1]'h).toNat : Int) == 43 || ((s[N + 1]'h).toNat : Int) == 45)) ∧
    Sg.signs (s.data.toList.drop N) = if Sg.at' (fun n=>n == 43 || n == 45) (s.data.toList.drop N) 1 then 2 else 1:=by
  rw [at_drop,at_drop]
  refine ⟨⟨fun h=>at_none _ s h,fun h=>at_get _ s h⟩,fun h=>by have:=Sg.at_lt h;rwa [lst_len] at this,fun h=>at_none _ s h,fun h=>at_get _ s h,?_⟩
  unfold Sg.signs;rw [at_drop]
theorem num_cases (s : ByteArray) (N : Nat) (hd : Sg.decimal s.data.toList = N) (h0 : 0 < N) :
    (Sg.at' (fun n=>n == 101 || n == 69) (s.data.toList.drop N) 0 = false → Sg.number s.data.toList = N) ∧
    (Sg.at' (fun n=>n == 101 || n == 69) (s.data.toList.drop N) 0 = true → N < s.size ∧ Sg.number s.data.toList = if Sg.run Sg.cD (s.data.toList.drop (N + Sg.signs (s.data.toList.drop N))) = 0 then N else N + Sg.signs (s.data.toList.drop N) + Sg.run Sg.cD (s.data.toList.drop (N + Sg.signs (s.data.toList.drop N)))):=by
  have e : Sg.number s.data.toList = N + Sg.exponent (s.data.toList.drop N):=by unfold Sg.number;rw [hd,if_neg (by omega)]
  constructor
  · intro h
    rw [e];unfold Sg.exponent;rw [h];rfl
  · intro h
    have hl:=Sg.at_lt h
    rw [List.length_drop,lst_len] at hl
    refine ⟨by omega,?_⟩
    rw [e];unfold Sg.exponent;rw [h,if_pos rfl,List.drop_drop]
    split
    · rfl
    · rw [Nat.add_assoc]
structure NumT (s : ByteArray) (N : Nat) (E G : Bool) : Prop where
  EN : ¬ N < s.size → E = false
  EB : ∀ h : N < s.size,E = (((s[N]'h).toNat : Int) == 101 || ((s[N]'h).toNat : Int) == 69)
  GT : G = true → N + 1 < s.size
  GN : ¬ N + 1 < s.size → G = false
  GB : ∀ h : N + 1 < s.size,G = (((s[N + 1]'h).toNat : Int) == 43 || ((s[N + 1]'h).toNat : Int) == 45)
  SG : Sg.signs (s.data.toList.drop N) = if G then 2 else 1
  c1 : E = false → Sg.number s.data.toList = N
  c2 : E = true → N < s.size ∧ Sg.number s.data.toList = if Sg.run Sg.cD (s.data.toList.drop (N + Sg.signs (s.data.toList.drop N))) = 0 then N else N + Sg.signs (s.data.toList.drop N) + Sg.run Sg.cD (s.data.toList.drop (N + Sg.signs (s.data.toList.drop N)))
theorem numT (s : ByteArray) (N : Nat) (hNs : N ≤ s.size) (hdec : Sg.decimal s.data.toList = N) (hpos : 0 < N) : ∃ E G,NumT s N E G:=by
  obtain ⟨⟨EN,EB⟩,GT,GN,GB,SG⟩:=num_tail s N hNs
  obtain ⟨c1,c2⟩:=num_cases s N hdec hpos
  exact ⟨_,_,⟨EN,EB,GT,GN,GB,SG,c1,c2⟩⟩
theorem wn {x : Int} {n : Nat} (h : x = (n : Int)) (hn : n ≤ 200000000000000) : wrap64 x = (n : Int) ∧ IntKind.i64.wrap x = (n : Int):=by
  subst h
  have : wrap64 (n : Int) = (n : Int):=IntWalk.wrap64_in _ (by omega)
  exact ⟨this,(IntWalk.i64_left _).trans this⟩
theorem rnumber_dot (s : ByteArray) (hs : s.size ≤ 140737488351232) (A : Nat) (hA : Sg.run Sg.cD s.data.toList = A) (h0 : 0 < A) (hlt : A < s.size) (hdot : ((s[A]'hlt).toNat : Int) = 46) (w : World) :
    Calls Try.prog 62 #[.string s] w fun e w'=>e = .returned (.int .i64 (Sg.number s.data.toList : Nat)) ∧ w = w':=by
  have hr:=digits_calls s hs w
  have hr2:=digits_calls (s.extract (A + 1) s.size) (ext_size _ _ hs) w
  rw [extract_drop] at hr2
  have hat : Sg.at' (· == 46) s.data.toList A = true:=by rw [at_get _ s hlt];simp [hdot]
  have hrl:=Sg.run_le Sg.cD (s.data.toList.drop (A + 1))
  rw [List.length_drop,lst_len] at hrl
  have hdec : Sg.decimal s.data.toList = A + 1 + Sg.run Sg.cD (s.data.toList.drop (A + 1)):=by
    unfold Sg.decimal;rw [hA,hat,if_pos rfl,if_neg (by omega)]
  obtain ⟨B,hB⟩ : ∃ B,Sg.run Sg.cD (s.data.toList.drop (A + 1)) = B:=⟨_,rfl⟩
  rw [hA] at hr
  rw [hB] at hr2 hdec hrl
  obtain ⟨N,hNe⟩ : ∃ N,A + 1 + B = N:=⟨_,rfl⟩
  rw [hNe] at hdec
  obtain ⟨C,hC⟩ : ∃ C,A + 1 = C:=⟨_,rfl⟩
  rw [hC] at hr2
  have hpos : 0 < N:=by omega
  have hNs : N ≤ s.size:=by omega
  have hAi : (A : Int) < (s.size : Int):=by omega
  have hCi : (C : Int) ≤ (s.size : Int):=by omega
  have t1 : decide ((0 : Int) < (A : Int)) = true:=decide_eq_true (by omega)
  have t1' : decide (0 < A) = true:=decide_eq_true (by omega)
  have t2 : (((s[A]'hlt).toNat : Int) == 46) = true:=by rw [beq_iff_eq];exact hdot
  obtain ⟨B1,hB1⟩ : ∃ B1 : Nat,1 + B = B1:=⟨_,rfl⟩
  have hAi1 : (A : Int) + 1 = (C : Int):=by omega
  have hBi : (1 : Int) + (B : Int) = (B1 : Int):=by omega
  have hNi0 : (A : Int) + (B1 : Int) = (N : Int):=by omega
  have n1 : C ≤ 200000000000000:=by omega
  have n2 : B1 ≤ 200000000000000:=by omega
  have n3 : N ≤ 200000000000000:=by omega
  obtain ⟨w1,w1'⟩:=wn hAi1 n1
  obtain ⟨w2,w2'⟩:=wn hBi n2
  obtain ⟨w3,w3'⟩:=wn hNi0 n3
  obtain ⟨E,G,HT⟩:=numT s N hNs hdec hpos
  clear hdec
  clear hB hA hat hdot hAi1 hBi hNi0
  go_enter Try.func62,Try.ntmps62
  go_wp2_with fail
  ((with_reducible refine hr.mono ?_);rintro e w1 ⟨rfl,rfl⟩)
  go_wp2_with fail
  ((with_reducible refine hr2.mono ?_);rintro e w1 ⟨rfl,rfl⟩)
  go_upto_region 8 with fail
  clear hr hr2 w1 w1' w2 w2' w3 w3' t1 t1' t2 hB1 n1 n2 n3
  go_cut [63] from 48 to 62 (fun c wx=>c = .bool E ∧ wx = w)
  case first =>
    by_cases hN : N < s.size
    · have hNi : (N : Int) < (s.size : Int):=by omega
      have hge:=HT.EB hN
      by_cases h1 : ((s[N]'hN).toNat : Int) = 101
      · have he : E = true:=by rw [hge,h1];rfl
        have t1 : (((s[N]'hN).toNat : Int) == 101) = true:=by rw [beq_iff_eq];exact h1
        clear hge h1
        go_wp2_with fail
        go_meet
        exact ⟨by rw [he],rfl⟩
      · have t1 : (((s[N]'hN).toNat : Int) == 101) = false:=by rw [beq_eq_false_iff_ne];exact h1
        by_cases h2 : ((s[N]'hN).toNat : Int) = 69
        · have he : E = true:=by rw [hge,h2];rfl
          have t2 : (((s[N]'hN).toNat : Int) == 69) = true:=by rw [beq_iff_eq];exact h2
          clear hge h2 h1
          go_wp2_with fail
          go_meet
          exact ⟨by rw [he],rfl⟩
        · have t2 : (((s[N]'hN).toNat : Int) == 69) = false:=by rw [beq_eq_false_iff_ne];exact h2
          have he : E = false:=by rw [hge,t1,t2];rfl
          clear hge h2 h1
          go_wp2_with fail
          go_meet
          exact ⟨by rw [he],rfl⟩
    · first
        | (exfalso;omega)
        | (
            have hNi : (s.size : Int) ≤ (N : Int):=by omega
            have he:=HT.EN hN
            go_wp2_with fail
            go_meet
            exact ⟨by rw [he],rfl⟩)
  case rest =>
    obtain ⟨rfl,hwx⟩:=hcut
    rw [hwx]
    clear hwx
    cases E with
    | false =>
      have HF:=hid (HT.c1 rfl)
      go_wp2_with fail
      go_ret
      exact ⟨by rw [HF.out];rfl,rfl⟩
    | true =>
      have hK:=HT.c2 rfl
      obtain ⟨hN,hK⟩:=hK
      have HK:=hid hK
      obtain ⟨K,hKK⟩ : ∃ K,N + 1 = K:=⟨_,rfl⟩
      have wk2 : (N : Int) + 1 = (K : Int):=by omega
      have nk : K ≤ 200000000000000:=by omega
      obtain ⟨wk,wk'⟩:=wn wk2 nk
      clear wk2
      clear hK
      go_upto_region 10 with fail
      go_cut [81] from 66 to 80 (fun c wx=>c = .bool G ∧ wx = w)
      case first =>
        by_cases hN1 : K < s.size
        · have hNi : (K : Int) < (s.size : Int):=by omega
          have hN1' : N + 1 < s.size:=by omega
          have hge0:=HT.GB hN1'
          have hge : G = (((s[K]'hN1).toNat : Int) == 43 || ((s[K]'hN1).toNat : Int) == 45):=by rw [hge0];subst hKK;rfl
          clear hge0
          by_cases h1 : ((s[K]'hN1).toNat : Int) = 43
          · have he : G = true:=by rw [hge,h1];rfl
            have t1 : (((s[K]'hN1).toNat : Int) == 43) = true:=by rw [beq_iff_eq];exact h1
            clear hge h1
            go_wp2_with fail
            go_meet
            exact ⟨by rw [he],rfl⟩
          · have t1 : (((s[K]'hN1).toNat : Int) == 43) = false:=by rw [beq_eq_false_iff_ne];exact h1
            by_cases h2 : ((s[K]'hN1).toNat : Int) = 45
            · have he : G = true:=by rw [hge,h2];rfl
              have t2 : (((s[K]'hN1).toNat : Int) == 45) = true:=by rw [beq_iff_eq];exact h2
              clear hge h2 h1
              go_wp2_with fail
              go_meet
              exact ⟨by rw [he],rfl⟩
            · have t2 : (((s[K]'hN1).toNat : Int) == 45) = false:=by rw [beq_eq_false_iff_ne];exact h2
              have he : G = false:=by rw [hge,t1,t2];rfl
              clear hge h2 h1
              go_wp2_with fail
              go_meet
              exact ⟨by rw [he],rfl⟩
        · have hNi : (s.size : Int) ≤ (K : Int):=by omega
          have he:=HT.GN (by omega)
          go_wp2_with fail
          go_meet
          exact ⟨by rw [he],rfl⟩
      case rest =>
        obtain ⟨rfl,hwx⟩:=hcut
        rw [hwx]
        clear hwx
        obtain ⟨L,hL⟩ : ∃ L,L = if G then K + 1 else K:=⟨_,rfl⟩
        have hLs : L ≤ s.size:=by
          cases G with
          | true=>have:=HT.GT rfl;rw [hL,if_pos rfl];omega
          | false=>rw [hL,if_neg (by decide)];omega
        have hLi : (L : Int) ≤ (s.size : Int):=by omega
        have hd:=fun w=>digits_calls (s.extract L s.size) (ext_size _ _ hs) w
        simp only [extract_drop] at hd
        have hrl:=Sg.run_le Sg.cD (s.data.toList.drop L)
        rw [List.length_drop,lst_len] at hrl
        have hsg : N + Sg.signs (s.data.toList.drop N) = L:=by
          have:=HT.SG
          rw [this,hL,← hKK];cases G <;> rfl
        have hfin:=HK.out
        rw [hsg] at hfin
        obtain ⟨D,hD⟩ : ∃ D,Sg.run Sg.cD (s.data.toList.drop L) = D:=⟨_,rfl⟩
        rw [hD] at hfin hrl
        simp only [hD] at hd
        obtain ⟨M,hM⟩ : ∃ M,L + D = M:=⟨_,rfl⟩
        rw [hM] at hfin
        have hMi : (L : Int) + (D : Int) = (M : Int):=by omega
        have nl : L ≤ 200000000000000:=by omega
        have nd : M ≤ 200000000000000:=by omega
        have hG1 : G = true → (K : Int) + 1 = (L : Int):=fun h=>by rw [hL,h,if_pos rfl];rfl
        have hG2 : G = false → L = K:=fun h=>by rw [hL,h];rfl
        obtain ⟨wd,wd'⟩:=wn hMi nd
        clear nd nk hMi hM hL
        have HFIN:=hid hfin
        clear hfin hsg hD
        by_cases hD0 : D = 0
        · subst hD0
          have HF:=hid (HFIN.out.trans (if_pos rfl))
          cases G with
          | true =>
            obtain ⟨wl,wl'⟩:=wn (hG1 rfl) nl
            clear hG1 hG2 nl
            go_wp2_with fail
            ((with_reducible refine (hd _).mono ?_);rintro e w1 ⟨rfl,rfl⟩)
            go_wp2_with fail
            go_ret
            exact ⟨by rw [HF.out];rfl,rfl⟩
          | false =>
            have hL2 : L = K:=hG2 rfl
            clear hG1 hG2 nl
            subst hL2
            go_wp2_with fail
            ((with_reducible refine (hd _).mono ?_);rintro e w1 ⟨rfl,rfl⟩)
            go_wp2_with fail
            go_ret
            exact ⟨by rw [HF.out];rfl,rfl⟩
        · have HF:=hid (HFIN.out.trans (if_neg hD0))
          have td : decide ((0 : Int) < (D : Int)) = true:=decide_eq_true (Int.natCast_pos.2 (Nat.pos_of_ne_zero hD0))
          have td' : decide (0 < D) = true:=decide_eq_true (Nat.pos_of_ne_zero hD0)
          clear hD0
          cases G with
          | true =>
            obtain ⟨wl,wl'⟩:=wn (hG1 rfl) nl
            clear hG1 hG2 nl
            go_wp2_with fail
            ((with_reducible refine (hd _).mono ?_);rintro e w1 ⟨rfl,rfl⟩)
            go_wp2_with fail
            ((with_reducible refine (hd _).mono ?_);rintro e w1 ⟨rfl,rfl⟩)
            go_wp2_with fail
            go_ret
            exact ⟨by rw [HF.out];rfl,rfl⟩
          | false =>
            have hL2 : L = K:=hG2 rfl
            clear hG1 hG2 nl
            subst hL2
            go_wp2_with fail
            ((with_reducible refine (hd _).mono ?_);rintro e w1 ⟨rfl,rfl⟩)
            go_wp2_with fail
            ((with_reducible refine (hd _).mono ?_);rintro e w1 ⟨rfl,rfl⟩)
            go_wp2_with fail
            go_ret
            exact ⟨by rw [HF.out];rfl,rfl⟩
theorem rnumber_int (s : ByteArray) (hs : s.size ≤ 140737488351232) (N : Nat) (hA : Sg.run Sg.cD s.data.toList = N) (hpos : 0 < N) (hnd : ∀ h : N < s.size,¬ ((s[N]'h).toNat : Int) = 46) (w : World) :
    Calls Try.prog 62 #[.string s] w fun e w'=>e = .returned (.int .i64 (Sg.number s.data.toList : Nat)) ∧ w = w':=by
  have hr:=digits_calls s hs w
  have hrl:=Sg.run_le Sg.cD s.data.toList
  rw [lst_len] at hrl
  have hat : Sg.at' (· == 46) s.data.toList N = false:=by
    by_cases h : N < s.size
    · rw [at_get _ s h];simpa using hnd h
    · exact at_none _ s h
  have hdec : Sg.decimal s.data.toList = N:=by
    unfold Sg.decimal;rw [hA,hat];rfl
  rw [hA] at hr hrl
  have hNs : N ≤ s.size:=hrl
  have t1 : decide ((0 : Int) < (N : Int)) = true:=decide_eq_true (by omega)
  have t1' : decide (0 < N) = true:=decide_eq_true (by omega)
  have t3 : ((N : Int) == 0) = false:=by rw [beq_eq_false_iff_ne];omega
  obtain ⟨E,G,HT⟩:=numT s N hNs hdec hpos
  clear hdec
  clear hA hat
  by_cases hlt : N < s.size
  · have t2 : (((s[N]'hlt).toNat : Int) == 46) = false:=by rw [beq_eq_false_iff_ne];exact hnd hlt
    have hAi : (N : Int) < (s.size : Int):=by omega
    clear hnd
    go_enter Try.func62,Try.ntmps62
    go_wp2_with fail
    ((with_reducible refine hr.mono ?_);rintro e w1 ⟨rfl,rfl⟩)
    go_upto_region 8 with fail
    clear hr t1 t1' t2 t3
    go_cut [63] from 48 to 62 (fun c wx=>c = .bool E ∧ wx = w)
    case first =>
      by_cases hN : N < s.size
      · have hNi : (N : Int) < (s.size : Int):=by omega
        have hge:=HT.EB hN
        by_cases h1 : ((s[N]'hN).toNat : Int) = 101
        · have he : E = true:=by rw [hge,h1];rfl
          have t1 : (((s[N]'hN).toNat : Int) == 101) = true:=by rw [beq_iff_eq];exact h1
          clear hge h1
          go_wp2_with fail
          go_meet
          exact ⟨by rw [he],rfl⟩
        · have t1 : (((s[N]'hN).toNat : Int) == 101) = false:=by rw [beq_eq_false_iff_ne];exact h1
          by_cases h2 : ((s[N]'hN).toNat : Int) = 69
          · have he : E = true:=by rw [hge,h2];rfl
            have t2 : (((s[N]'hN).toNat : Int) == 69) = true:=by rw [beq_iff_eq];exact h2
            clear hge h2 h1
            go_wp2_with fail
            go_meet
            exact ⟨by rw [he],rfl⟩
          · have t2 : (((s[N]'hN).toNat : Int) == 69) = false:=by rw [beq_eq_false_iff_ne];exact h2
            have he : E = false:=by rw [hge,t1,t2];rfl
            clear hge h2 h1
            go_wp2_with fail
            go_meet
            exact ⟨by rw [he],rfl⟩
      · first
          | (exfalso;omega)
          | (
              have hNi : (s.size : Int) ≤ (N : Int):=by omega
              have he:=HT.EN hN
              go_wp2_with fail
              go_meet
              exact ⟨by rw [he],rfl⟩)
    case rest =>
      obtain ⟨rfl,hwx⟩:=hcut
      rw [hwx]
      clear hwx
      cases E with
      | false =>
        have HF:=hid (HT.c1 rfl)
        go_wp2_with fail
        go_ret
        exact ⟨by rw [HF.out];rfl,rfl⟩
      | true =>
        have hK:=HT.c2 rfl
        obtain ⟨hN,hK⟩:=hK
        have HK:=hid hK
        obtain ⟨K,hKK⟩ : ∃ K,N + 1 = K:=⟨_,rfl⟩
        have wk2 : (N : Int) + 1 = (K : Int):=by omega
        have nk : K ≤ 200000000000000:=by omega
        obtain ⟨wk,wk'⟩:=wn wk2 nk
        clear wk2
        clear hK
        go_upto_region 10 with fail
        go_cut [81] from 66 to 80 (fun c wx=>c = .bool G ∧ wx = w)
        case first =>
          by_cases hN1 : K < s.size
          · have hNi : (K : Int) < (s.size : Int):=by omega
            have hN1' : N + 1 < s.size:=by omega
            have hge0:=HT.GB hN1'
            have hge : G = (((s[K]'hN1).toNat : Int) == 43 || ((s[K]'hN1).toNat : Int) == 45):=by rw [hge0];subst hKK;rfl
            clear hge0
            by_cases h1 : ((s[K]'hN1).toNat : Int) = 43
            · have he : G = true:=by rw [hge,h1];rfl
              have t1 : (((s[K]'hN1).toNat : Int) == 43) = true:=by rw [beq_iff_eq];exact h1
              clear hge h1
              go_wp2_with fail
              go_meet
              exact ⟨by rw [he],rfl⟩
            · have t1 : (((s[K]'hN1).toNat : Int) == 43) = false:=by rw [beq_eq_false_iff_ne];exact h1
              by_cases h2 : ((s[K]'hN1).toNat : Int) = 45
              · have he : G = true:=by rw [hge,h2];rfl
                have t2 : (((s[K]'hN1).toNat : Int) == 45) = true:=by rw [beq_iff_eq];exact h2
                clear hge h2 h1
                go_wp2_with fail
                go_meet
                exact ⟨by rw [he],rfl⟩
              · have t2 : (((s[K]'hN1).toNat : Int) == 45) = false:=by rw [beq_eq_false_iff_ne];exact h2
                have he : G = false:=by rw [hge,t1,t2];rfl
                clear hge h2 h1
                go_wp2_with fail
                go_meet
                exact ⟨by rw [he],rfl⟩
          · have hNi : (s.size : Int) ≤ (K : Int):=by omega
            have he:=HT.GN (by omega)
            go_wp2_with fail
            go_meet
            exact ⟨by rw [he],rfl⟩
        case rest =>
          obtain ⟨rfl,hwx⟩:=hcut
          rw [hwx]
          clear hwx
          obtain ⟨L,hL⟩ : ∃ L,L = if G then K + 1 else K:=⟨_,rfl⟩
          have hLs : L ≤ s.size:=by
            cases G with
            | true=>have:=HT.GT rfl;rw [hL,if_pos rfl];omega
            | false=>rw [hL,if_neg (by decide)];omega
          have hLi : (L : Int) ≤ (s.size : Int):=by omega
          have hd:=fun w=>digits_calls (s.extract L s.size) (ext_size _ _ hs) w
          simp only [extract_drop] at hd
          have hrl:=Sg.run_le Sg.cD (s.data.toList.drop L)
          rw [List.length_drop,lst_len] at hrl
          have hsg : N + Sg.signs (s.data.toList.drop N) = L:=by
            have:=HT.SG
            rw [this,hL,← hKK];cases G <;> rfl
          have hfin:=HK.out
          rw [hsg] at hfin
          obtain ⟨D,hD⟩ : ∃ D,Sg.run Sg.cD (s.data.toList.drop L) = D:=⟨_,rfl⟩
          rw [hD] at hfin hrl
          simp only [hD] at hd
          obtain ⟨M,hM⟩ : ∃ M,L + D = M:=⟨_,rfl⟩
          rw [hM] at hfin
          have hMi : (L : Int) + (D : Int) = (M : Int):=by omega
          have nl : L ≤ 200000000000000:=by omega
          have nd : M ≤ 200000000000000:=by omega
          have hG1 : G = true → (K : Int) + 1 = (L : Int):=fun h=>by rw [hL,h,if_pos rfl];rfl
          have hG2 : G = false → L = K:=fun h=>by rw [hL,h];rfl
          obtain ⟨wd,wd'⟩:=wn hMi nd
          clear nd nk hMi hM hL
          have HFIN:=hid hfin
          clear hfin hsg hD
          by_cases hD0 : D = 0
          · subst hD0
            have HF:=hid (HFIN.out.trans (if_pos rfl))
            cases G with
            | true =>
              obtain ⟨wl,wl'⟩:=wn (hG1 rfl) nl
              clear hG1 hG2 nl
              go_wp2_with fail
              ((with_reducible refine (hd _).mono ?_);rintro e w1 ⟨rfl,rfl⟩)
              go_wp2_with fail
              go_ret
              exact ⟨by rw [HF.out];rfl,rfl⟩
            | false =>
              have hL2 : L = K:=hG2 rfl
              clear hG1 hG2 nl
              subst hL2
              go_wp2_with fail
              ((with_reducible refine (hd _).mono ?_);rintro e w1 ⟨rfl,rfl⟩)
              go_wp2_with fail
              go_ret
              exact ⟨by rw [HF.out];rfl,rfl⟩
          · have HF:=hid (HFIN.out.trans (if_neg hD0))
            have td : decide ((0 : Int) < (D : Int)) = true:=decide_eq_true (Int.natCast_pos.2 (Nat.pos_of_ne_zero hD0))
            have td' : decide (0 < D) = true:=decide_eq_true (Nat.pos_of_ne_zero hD0)
            clear hD0
            cases G with
            | true =>
              obtain ⟨wl,wl'⟩:=wn (hG1 rfl) nl
              clear hG1 hG2 nl
              go_wp2_with fail
              ((with_reducible refine (hd _).mono ?_);rintro e w1 ⟨rfl,rfl⟩)
              go_wp2_with fail
              ((with_reducible refine (hd _).mono ?_);rintro e w1 ⟨rfl,rfl⟩)
              go_wp2_with fail
              go_ret
              exact ⟨by rw [HF.out];rfl,rfl⟩
            | false =>
              have hL2 : L = K:=hG2 rfl
              clear hG1 hG2 nl
              subst hL2
              go_wp2_with fail
              ((with_reducible refine (hd _).mono ?_);rintro e w1 ⟨rfl,rfl⟩)
              go_wp2_with fail
              ((with_reducible refine (hd _).mono ?_);rintro e w1 ⟨rfl,rfl⟩)
              go_wp2_with fail
              go_ret
              exact ⟨by rw [HF.out];rfl,rfl⟩
  · have hAi : (s.size : Int) ≤ (N : Int):=by omega
    clear hnd
    go_enter Try.func62,Try.ntmps62
    go_wp2_with fail
    ((with_reducible refine hr.mono ?_);rintro e w1 ⟨rfl,rfl⟩)
    go_upto_region 8 with fail
    clear hr t1 t1' t3 hAi hlt
    go_cut [63] from 48 to 62 (fun c wx=>c = .bool E ∧ wx = w)
    case first =>
      by_cases hN : N < s.size
      · have hNi : (N : Int) < (s.size : Int):=by omega
        have hge:=HT.EB hN
        by_cases h1 : ((s[N]'hN).toNat : Int) = 101
        · have he : E = true:=by rw [hge,h1];rfl
          have t1 : (((s[N]'hN).toNat : Int) == 101) = true:=by rw [beq_iff_eq];exact h1
          clear hge h1
          go_wp2_with fail
          go_meet
          exact ⟨by rw [he],rfl⟩
        · have t1 : (((s[N]'hN).toNat : Int) == 101) = false:=by rw [beq_eq_false_iff_ne];exact h1
          by_cases h2 : ((s[N]'hN).toNat : Int) = 69
          · have he : E = true:=by rw [hge,h2];rfl
            have t2 : (((s[N]'hN).toNat : Int) == 69) = true:=by rw [beq_iff_eq];exact h2
            clear hge h2 h1
            go_wp2_with fail
            go_meet
            exact ⟨by rw [he],rfl⟩
          · have t2 : (((s[N]'hN).toNat : Int) == 69) = false:=by rw [beq_eq_false_iff_ne];exact h2
            have he : E = false:=by rw [hge,t1,t2];rfl
            clear hge h2 h1
            go_wp2_with fail
            go_meet
            exact ⟨by rw [he],rfl⟩
      · first
          | (exfalso;omega)
          | (
              have hNi : (s.size : Int) ≤ (N : Int):=by omega
              have he:=HT.EN hN
              go_wp2_with fail
              go_meet
              exact ⟨by rw [he],rfl⟩)
    case rest =>
      obtain ⟨rfl,hwx⟩:=hcut
      rw [hwx]
      clear hwx
      cases E with
      | false =>
        have HF:=hid (HT.c1 rfl)
        go_wp2_with fail
        go_ret
        exact ⟨by rw [HF.out];rfl,rfl⟩
      | true =>
        have hK:=HT.c2 rfl
        obtain ⟨hN,hK⟩:=hK
        have HK:=hid hK
        obtain ⟨K,hKK⟩ : ∃ K,N + 1 = K:=⟨_,rfl⟩
        have wk2 : (N : Int) + 1 = (K : Int):=by omega
        have nk : K ≤ 200000000000000:=by omega
        obtain ⟨wk,wk'⟩:=wn wk2 nk
        clear wk2
        clear hK
        go_upto_region 10 with fail
        go_cut [81] from 66 to 80 (fun c wx=>c = .bool G ∧ wx = w)
        case first =>
          by_cases hN1 : K < s.size
          · have hNi : (K : Int) < (s.size : Int):=by omega
            have hN1' : N + 1 < s.size:=by omega
            have hge0:=HT.GB hN1'
            have hge : G = (((s[K]'hN1).toNat : Int) == 43 || ((s[K]'hN1).toNat : Int) == 45):=by rw [hge0];subst hKK;rfl
            clear hge0
            by_cases h1 : ((s[K]'hN1).toNat : Int) = 43
            · have he : G = true:=by rw [hge,h1];rfl
              have t1 : (((s[K]'hN1).toNat : Int) == 43) = true:=by rw [beq_iff_eq];exact h1
              clear hge h1
              go_wp2_with fail
              go_meet
              exact ⟨by rw [he],rfl⟩
            · have t1 : (((s[K]'hN1).toNat : Int) == 43) = false:=by rw [beq_eq_false_iff_ne];exact h1
              by_cases h2 : ((s[K]'hN1).toNat : Int) = 45
              · have he : G = true:=by rw [hge,h2];rfl
                have t2 : (((s[K]'hN1).toNat : Int) == 45) = true:=by rw [beq_iff_eq];exact h2
                clear hge h2 h1
                go_wp2_with fail
                go_meet
                exact ⟨by rw [he],rfl⟩
              · have t2 : (((s[K]'hN1).toNat : Int) == 45) = false:=by rw [beq_eq_false_iff_ne];exact h2
                have he : G = false:=by rw [hge,t1,t2];rfl
                clear hge h2 h1
                go_wp2_with fail
                go_meet
                exact ⟨by rw [he],rfl⟩
          · have hNi : (s.size : Int) ≤ (K : Int):=by omega
            have he:=HT.GN (by omega)
            go_wp2_with fail
            go_meet
            exact ⟨by rw [he],rfl⟩
        case rest =>
          obtain ⟨rfl,hwx⟩:=hcut
          rw [hwx]
          clear hwx
          obtain ⟨L,hL⟩ : ∃ L,L = if G then K + 1 else K:=⟨_,rfl⟩
          have hLs : L ≤ s.size:=by
            cases G with
            | true=>have:=HT.GT rfl;rw [hL,if_pos rfl];omega
            | false=>rw [hL,if_neg (by decide)];omega
          have hLi : (L : Int) ≤ (s.size : Int):=by omega
          have hd:=fun w=>digits_calls (s.extract L s.size) (ext_size _ _ hs) w
          simp only [extract_drop] at hd
          have hrl:=Sg.run_le Sg.cD (s.data.toList.drop L)
          rw [List.length_drop,lst_len] at hrl
          have hsg : N + Sg.signs (s.data.toList.drop N) = L:=by
            have:=HT.SG
            rw [this,hL,← hKK];cases G <;> rfl
          have hfin:=HK.out
          rw [hsg] at hfin
          obtain ⟨D,hD⟩ : ∃ D,Sg.run Sg.cD (s.data.toList.drop L) = D:=⟨_,rfl⟩
          rw [hD] at hfin hrl
          simp only [hD] at hd
          obtain ⟨M,hM⟩ : ∃ M,L + D = M:=⟨_,rfl⟩
          rw [hM] at hfin
          have hMi : (L : Int) + (D : Int) = (M : Int):=by omega
          have nl : L ≤ 200000000000000:=by omega
          have nd : M ≤ 200000000000000:=by omega
          have hG1 : G = true → (K : Int) + 1 = (L : Int):=fun h=>by rw [hL,h,if_pos rfl];rfl
          have hG2 : G = false → L = K:=fun h=>by rw [hL,h];rfl
          obtain ⟨wd,wd'⟩:=wn hMi nd
          clear nd nk hMi hM hL
          have HFIN:=hid hfin
          clear hfin hsg hD
          by_cases hD0 : D = 0
          · subst hD0
            have HF:=hid (HFIN.out.trans (if_pos rfl))
            cases G with
            | true =>
              obtain ⟨wl,wl'⟩:=wn (hG1 rfl) nl
              clear hG1 hG2 nl
              go_wp2_with fail
              ((with_reducible refine (hd _).mono ?_);rintro e w1 ⟨rfl,rfl⟩)
              go_wp2_with fail
              go_ret
              exact ⟨by rw [HF.out];rfl,rfl⟩
            | false =>
              have hL2 : L = K:=hG2 rfl
              clear hG1 hG2 nl
              subst hL2
              go_wp2_with fail
              ((with_reducible refine (hd _).mono ?_);rintro e w1 ⟨rfl,rfl⟩)
              go_wp2_with fail
              go_ret
              exact ⟨by rw [HF.out];rfl,rfl⟩
          · have HF:=hid (HFIN.out.trans (if_neg hD0))
            have td : decide ((0 : Int) < (D : Int)) = true:=decide_eq_true (Int.natCast_pos.2 (Nat.pos_of_ne_zero hD0))
            have td' : decide (0 < D) = true:=decide_eq_true (Nat.pos_of_ne_zero hD0)
            clear hD0
            cases G with
            | true =>
              obtain ⟨wl,wl'⟩:=wn (hG1 rfl) nl
              clear hG1 hG2 nl
              go_wp2_with fail
              ((with_reducible refine (hd _).mono ?_);rintro e w1 ⟨rfl,rfl⟩)
              go_wp2_with fail
              ((with_reducible refine (hd _).mono ?_);rintro e w1 ⟨rfl,rfl⟩)
              go_wp2_with fail
              go_ret
              exact ⟨by rw [HF.out];rfl,rfl⟩
            | false =>
              have hL2 : L = K:=hG2 rfl
              clear hG1 hG2 nl
              subst hL2
              go_wp2_with fail
              ((with_reducible refine (hd _).mono ?_);rintro e w1 ⟨rfl,rfl⟩)
              go_wp2_with fail
              ((with_reducible refine (hd _).mono ?_);rintro e w1 ⟨rfl,rfl⟩)
              go_wp2_with fail
              go_ret
              exact ⟨by rw [HF.out];rfl,rfl⟩
theorem rnumber_lead (s : ByteArray) (hs : s.size ≤ 140737488351232) (hA : Sg.run Sg.cD s.data.toList = 0) (hlt : 0 < s.size) (hdot : ((s[0]'hlt).toNat : Int) = 46) (B : Nat) (hB : Sg.run Sg.cD (s.data.toList.drop 1) = B) (hB0 : 0 < B) (w : World) :
    Calls Try.prog 62 #[.string s] w fun e w'=>e = .returned (.int .i64 (Sg.number s.data.toList : Nat)) ∧ w = w':=by
  have hr:=digits_calls s hs w
  have hr2:=digits_calls (s.extract 1 s.size) (ext_size _ _ hs) w
  rw [extract_drop,hB] at hr2
  rw [hA] at hr
  have hat : Sg.at' (· == 46) s.data.toList 0 = true:=by rw [at_get _ s hlt];simp [hdot]
  have hrl:=Sg.run_le Sg.cD (s.data.toList.drop 1)
  rw [List.length_drop,lst_len,hB] at hrl
  obtain ⟨N,hNe⟩ : ∃ N,1 + B = N:=⟨_,rfl⟩
  have hdec : Sg.decimal s.data.toList = N:=by
    unfold Sg.decimal;rw [hA,hat,if_pos rfl,hB,if_neg (by omega)];omega
  have hpos : 0 < N:=by omega
  have hNs : N ≤ s.size:=by omega
  have hBi : (1 : Int) + (B : Int) = (N : Int):=by omega
  have n2 : N ≤ 200000000000000:=by omega
  have hne:=ne_empty s hlt
  have h1i : (1 : Int) ≤ (s.size : Int):=by omega
  have t2 : (((s[0]'hlt).toNat : Int) == 46) = true:=by rw [beq_iff_eq];exact hdot
  have t2n : (((s[0]'hlt).toNat : Int) != 46) = false:=by unfold bne;rw [t2];rfl
  have t3 : ((B : Int) == 0) = false:=by rw [beq_eq_false_iff_ne];omega
  have t3' : (B == 0) = false:=by rw [beq_eq_false_iff_ne];omega
  obtain ⟨w2,w2'⟩:=wn hBi n2
  obtain ⟨E,G,HT⟩:=numT s N hNs hdec hpos
  clear hdec
  clear hB hA hat hdot hBi hNe
  go_enter Try.func62,Try.ntmps62
  go_wp2_with fail
  ((with_reducible refine hr.mono ?_);rintro e w1 ⟨rfl,rfl⟩)
  go_wp2_with fail
  ((with_reducible refine hr2.mono ?_);rintro e w1 ⟨rfl,rfl⟩)
  go_wp2_with fail
  ((with_reducible refine hr2.mono ?_);rintro e w1 ⟨rfl,rfl⟩)
  go_upto_region 8 with fail
  clear hr hr2 w2 w2' t2 t2n t3 t3' hne h1i n2
  go_cut [63] from 48 to 62 (fun c wx=>c = .bool E ∧ wx = w)
  case first =>
    by_cases hN : N < s.size
    · have hNi : (N : Int) < (s.size : Int):=by omega
      have hge:=HT.EB hN
      by_cases h1 : ((s[N]'hN).toNat : Int) = 101
      · have he : E = true:=by rw [hge,h1];rfl
        have t1 : (((s[N]'hN).toNat : Int) == 101) = true:=by rw [beq_iff_eq];exact h1
        clear hge h1
        go_wp2_with fail
        go_meet
        exact ⟨by rw [he],rfl⟩
      · have t1 : (((s[N]'hN).toNat : Int) == 101) = false:=by rw [beq_eq_false_iff_ne];exact h1
        by_cases h2 : ((s[N]'hN).toNat : Int) = 69
        · have he : E = true:=by rw [hge,h2];rfl
          have t2 : (((s[N]'hN).toNat : Int) == 69) = true:=by rw [beq_iff_eq];exact h2
          clear hge h2 h1
          go_wp2_with fail
          go_meet
          exact ⟨by rw [he],rfl⟩
        · have t2 : (((s[N]'hN).toNat : Int) == 69) = false:=by rw [beq_eq_false_iff_ne];exact h2
          have he : E = false:=by rw [hge,t1,t2];rfl
          clear hge h2 h1
          go_wp2_with fail
          go_meet
          exact ⟨by rw [he],rfl⟩
    · first
        | (exfalso;omega)
        | (
            have hNi : (s.size : Int) ≤ (N : Int):=by omega
            have he:=HT.EN hN
            go_wp2_with fail
            go_meet
            exact ⟨by rw [he],rfl⟩)
  case rest =>
    obtain ⟨rfl,hwx⟩:=hcut
    rw [hwx]
    clear hwx
    cases E with
    | false =>
      have HF:=hid (HT.c1 rfl)
      go_wp2_with fail
      go_ret
      exact ⟨by rw [HF.out];rfl,rfl⟩
    | true =>
      have hK:=HT.c2 rfl
      obtain ⟨hN,hK⟩:=hK
      have HK:=hid hK
      obtain ⟨K,hKK⟩ : ∃ K,N + 1 = K:=⟨_,rfl⟩
      have wk2 : (N : Int) + 1 = (K : Int):=by omega
      have nk : K ≤ 200000000000000:=by omega
      obtain ⟨wk,wk'⟩:=wn wk2 nk
      clear wk2
      clear hK
      go_upto_region 10 with fail
      go_cut [81] from 66 to 80 (fun c wx=>c = .bool G ∧ wx = w)
      case first =>
        by_cases hN1 : K < s.size
        · have hNi : (K : Int) < (s.size : Int):=by omega
          have hN1' : N + 1 < s.size:=by omega
          have hge0:=HT.GB hN1'
          have hge : G = (((s[K]'hN1).toNat : Int) == 43 || ((s[K]'hN1).toNat : Int) == 45):=by rw [hge0];subst hKK;rfl
          clear hge0
          by_cases h1 : ((s[K]'hN1).toNat : Int) = 43
          · have he : G = true:=by rw [hge,h1];rfl
            have t1 : (((s[K]'hN1).toNat : Int) == 43) = true:=by rw [beq_iff_eq];exact h1
            clear hge h1
            go_wp2_with fail
            go_meet
            exact ⟨by rw [he],rfl⟩
          · have t1 : (((s[K]'hN1).toNat : Int) == 43) = false:=by rw [beq_eq_false_iff_ne];exact h1
            by_cases h2 : ((s[K]'hN1).toNat : Int) = 45
            · have he : G = true:=by rw [hge,h2];rfl
              have t2 : (((s[K]'hN1).toNat : Int) == 45) = true:=by rw [beq_iff_eq];exact h2
              clear hge h2 h1
              go_wp2_with fail
              go_meet
              exact ⟨by rw [he],rfl⟩
            · have t2 : (((s[K]'hN1).toNat : Int) == 45) = false:=by rw [beq_eq_false_iff_ne];exact h2
              have he : G = false:=by rw [hge,t1,t2];rfl
              clear hge h2 h1
              go_wp2_with fail
              go_meet
              exact ⟨by rw [he],rfl⟩
        · have hNi : (s.size : Int) ≤ (K : Int):=by omega
          have he:=HT.GN (by omega)
          go_wp2_with fail
          go_meet
          exact ⟨by rw [he],rfl⟩
      case rest =>
        obtain ⟨rfl,hwx⟩:=hcut
        rw [hwx]
        clear hwx
        obtain ⟨L,hL⟩ : ∃ L,L = if G then K + 1 else K:=⟨_,rfl⟩
        have hLs : L ≤ s.size:=by
          cases G with
          | true=>have:=HT.GT rfl;rw [hL,if_pos rfl];omega
          | false=>rw [hL,if_neg (by decide)];omega
        have hLi : (L : Int) ≤ (s.size : Int):=by omega
        have hd:=fun w=>digits_calls (s.extract L s.size) (ext_size _ _ hs) w
        simp only [extract_drop] at hd
        have hrl:=Sg.run_le Sg.cD (s.data.toList.drop L)
        rw [List.length_drop,lst_len] at hrl
        have hsg : N + Sg.signs (s.data.toList.drop N) = L:=by
          have:=HT.SG
          rw [this,hL,← hKK];cases G <;> rfl
        have hfin:=HK.out
        rw [hsg] at hfin
        obtain ⟨D,hD⟩ : ∃ D,Sg.run Sg.cD (s.data.toList.drop L) = D:=⟨_,rfl⟩
        rw [hD] at hfin hrl
        simp only [hD] at hd
        obtain ⟨M,hM⟩ : ∃ M,L + D = M:=⟨_,rfl⟩
        rw [hM] at hfin
        have hMi : (L : Int) + (D : Int) = (M : Int):=by omega
        have nl : L ≤ 200000000000000:=by omega
        have nd : M ≤ 200000000000000:=by omega
        have hG1 : G = true → (K : Int) + 1 = (L : Int):=fun h=>by rw [hL,h,if_pos rfl];rfl
        have hG2 : G = false → L = K:=fun h=>by rw [hL,h];rfl
        obtain ⟨wd,wd'⟩:=wn hMi nd
        clear nd nk hMi hM hL
        have HFIN:=hid hfin
        clear hfin hsg hD
        by_cases hD0 : D = 0
        · subst hD0
          have HF:=hid (HFIN.out.trans (if_pos rfl))
          cases G with
          | true =>
            obtain ⟨wl,wl'⟩:=wn (hG1 rfl) nl
            clear hG1 hG2 nl
            go_wp2_with fail
            ((with_reducible refine (hd _).mono ?_);rintro e w1 ⟨rfl,rfl⟩)
            go_wp2_with fail
            go_ret
            exact ⟨by rw [HF.out];rfl,rfl⟩
          | false =>
            have hL2 : L = K:=hG2 rfl
            clear hG1 hG2 nl
            subst hL2
            go_wp2_with fail
            ((with_reducible refine (hd _).mono ?_);rintro e w1 ⟨rfl,rfl⟩)
            go_wp2_with fail
            go_ret
            exact ⟨by rw [HF.out];rfl,rfl⟩
        · have HF:=hid (HFIN.out.trans (if_neg hD0))
          have td : decide ((0 : Int) < (D : Int)) = true:=decide_eq_true (Int.natCast_pos.2 (Nat.pos_of_ne_zero hD0))
          have td' : decide (0 < D) = true:=decide_eq_true (Nat.pos_of_ne_zero hD0)
          clear hD0
          cases G with
          | true =>
            obtain ⟨wl,wl'⟩:=wn (hG1 rfl) nl
            clear hG1 hG2 nl
            go_wp2_with fail
            ((with_reducible refine (hd _).mono ?_);rintro e w1 ⟨rfl,rfl⟩)
            go_wp2_with fail
            ((with_reducible refine (hd _).mono ?_);rintro e w1 ⟨rfl,rfl⟩)
            go_wp2_with fail
            go_ret
            exact ⟨by rw [HF.out];rfl,rfl⟩
          | false =>
            have hL2 : L = K:=hG2 rfl
            clear hG1 hG2 nl
            subst hL2
            go_wp2_with fail
            ((with_reducible refine (hd _).mono ?_);rintro e w1 ⟨rfl,rfl⟩)
            go_wp2_with fail
            ((with_reducible refine (hd _).mono ?_);rintro e w1 ⟨rfl,rfl⟩)
            go_wp2_with fail
            go_ret
            exact ⟨by rw [HF.out];rfl,rfl⟩
theorem rnumber_none (s : ByteArray) (hs : s.size ≤ 140737488351232) (hA : Sg.run Sg.cD s.data.toList = 0) (h : ∀ hlt : 0 < s.size,((s[0]'hlt).toNat : Int) = 46 → Sg.run Sg.cD (s.data.toList.drop 1) = 0) (w : World) :
    Calls Try.prog 62 #[.string s] w fun e w'=>e = .returned (.int .i64 (Sg.number s.data.toList : Nat)) ∧ w = w':=by
  have hdec : Sg.decimal s.data.toList = 0:=by
    unfold Sg.decimal;rw [hA]
    split
    · rename_i hp
      have hl:=Sg.at_lt hp
      rw [lst_len] at hl
      have h46 : ((s[0]'hl).toNat : Int) = 46:=by rw [at_get _ s hl] at hp;simpa using hp
      rw [h hl h46];rfl
    · rfl
  have HN:=hid (show Sg.number s.data.toList = 0 from by unfold Sg.number;rw [if_pos hdec])
  have hr:=digits_calls s hs w
  rw [hA] at hr
  clear hdec hA
  rcases Nat.eq_zero_or_pos s.size with h0 | h0
  · have hE:=empty_eq s h0
    have hne : s.toList.isEmpty = true:=by rw [hE,Lib.toList_data];rfl
    clear hE h0 h
    go_enter Try.func62,Try.ntmps62
    go_wp2_with fail
    ((with_reducible refine hr.mono ?_);rintro e w1 ⟨rfl,rfl⟩)
    go_wp2_with fail
    go_ret
    exact ⟨by rw [HN.out];rfl,rfl⟩
  · have hne:=ne_empty s h0
    by_cases h46 : ((s[0]'h0).toNat : Int) = 46
    · have hB:=h h0 h46
      have hr2:=digits_calls (s.extract 1 s.size) (ext_size _ _ hs) w
      rw [extract_drop,hB] at hr2
      have h1i : (1 : Int) ≤ (s.size : Int):=by omega
      have t2 : (((s[0]'h0).toNat : Int) == 46) = true:=by rw [beq_iff_eq];exact h46
      have t2n : (((s[0]'h0).toNat : Int) != 46) = false:=by unfold bne;rw [t2];rfl
      clear h hB h46
      go_enter Try.func62,Try.ntmps62
      go_wp2_with fail
      ((with_reducible refine hr.mono ?_);rintro e w1 ⟨rfl,rfl⟩)
      go_wp2_with fail
      ((with_reducible refine hr2.mono ?_);rintro e w1 ⟨rfl,rfl⟩)
      go_wp2_with fail
      go_ret
      exact ⟨by rw [HN.out];rfl,rfl⟩
    · have t2 : (((s[0]'h0).toNat : Int) == 46) = false:=by rw [beq_eq_false_iff_ne];exact h46
      have t2n : (((s[0]'h0).toNat : Int) != 46) = true:=by unfold bne;rw [t2];rfl
      clear h h46
      go_enter Try.func62,Try.ntmps62
      go_wp2_with fail
      ((with_reducible refine hr.mono ?_);rintro e w1 ⟨rfl,rfl⟩)
      go_wp2_with fail
      go_ret
      exact ⟨by rw [HN.out];rfl,rfl⟩
theorem rnumber_calls (s : ByteArray) (hs : s.size ≤ 140737488351232) (w : World) :
    Calls Try.prog 62 #[.string s] w fun e w'=>e = .returned (.int .i64 (Sg.number s.data.toList : Nat)) ∧ w = w':=by
  rcases Nat.eq_zero_or_pos (Sg.run Sg.cD s.data.toList) with h0 | h0
  · by_cases h : ∃ hlt : 0 < s.size,((s[0]'hlt).toNat : Int) = 46 ∧ 0 < Sg.run Sg.cD (s.data.toList.drop 1)
    · obtain ⟨hlt,h46,hB⟩:=h
      exact rnumber_lead s hs h0 hlt h46 _ rfl hB w
    · refine rnumber_none s hs h0 (fun hlt h46=>?_) w
      rcases Nat.eq_zero_or_pos (Sg.run Sg.cD (s.data.toList.drop 1)) with e | e
      · exact e
      · exact absurd ⟨hlt,h46,e⟩ h
  · by_cases h : ∃ hlt : Sg.run Sg.cD s.data.toList < s.size,((s[Sg.run Sg.cD s.data.toList]'hlt).toNat : Int) = 46
    · obtain ⟨hlt,h46⟩:=h
      exact rnumber_dot s hs _ rfl h0 hlt h46 w
    · exact rnumber_int s hs _ rfl h0 (fun hlt h46=>h ⟨hlt,h46⟩) w
end Go.Proofs.Ythadnhpkeljdoaa.sg
namespace Go.Proofs.Ythadnhpkeljdoaa.nd
open Go.RowKit sx ed
def IntsAt (S : Nat → Prop) (W : World) (v : Value) (l : List Int) : Prop :=
 ∃ ao cap,v = .slice ao l.length cap ∧ l.length ≤ maxLen ∧ l.length ≤ cap ∧ (l ≠ [] → ∃ g o,ao = some ⟨g,o,none⟩ ∧ S g ∧ ∀ (j : Nat) z,l[j]? = some z → W.cell? ⟨g,o + j,none⟩ = some (.int .i64 z))
theorem IntsAt.keep {S S' : Nat → Prop} {W W' : World} {v : Value} {l : List Int} (h : IntsAt S W v l) (hS : ∀ k,S k → S' k) (hk : ∀ k,S k → W'.heap[k]? = W.heap[k]?) : IntsAt S' W' v l:=by
 obtain ⟨ao,cap,e,hm,hlc,hr⟩:=h
 refine ⟨ao,cap,e,hm,hlc,fun hn=>?_⟩
 obtain ⟨g,o,e',hs,hc⟩:=hr hn
 exact ⟨g,o,e',hS _ hs,fun j z hj=>by rw [← hc j z hj];simp [World.cell?,hk g hs]⟩
theorem IntsAt.below {n m : Nat} {W W' : World} {v : Value} {l : List Int} (h : IntsAt (Lt n) W v l) (hb : Below m W W') (hm : n ≤ m) : IntsAt (Lt n) W' v l:=h.keep (fun _ e=>e) (fun k hk=>hb.block k (Nat.lt_of_lt_of_le hk hm))
theorem IntsAt.get {S : Nat → Prop} {W : World} {l : List Int} {ao : Option Addr} {len cap j : Nat} {z : Int} (h : IntsAt S W (.slice ao len cap) l) (hj : l[j]? = some z) :
  ∃ g o,ao = some ⟨g,o,none⟩ ∧ S g ∧ g < W.heap.size ∧ W.cell? ⟨g,o + j,none⟩ = some (.int .i64 z):=by
 obtain ⟨ao',cap',e,hm,_,hr⟩:=h
 cases e
 obtain ⟨g,o,e,hs,hc⟩:=hr (fun e=>by rw [e] at hj;cases hj)
 exact ⟨g,o,e,hs,World.block_lt_of_cell? W _ (hc j z hj),hc j z hj⟩
end Go.Proofs.Ythadnhpkeljdoaa.nd
namespace Go.Proofs.Ythadnhpkeljdoaa.pa
open Go.RowKit nd pr
def itemsP : Nat → List Lx.Tok → List (Tk × Nat)
 | _,[]=>[]
 | p,t :: r=>if t.1 == 1 || t.1 == 2 then itemsP (p + t.2.length) r else ((t.1,⟨t.2.toArray⟩),p) :: itemsP (p + t.2.length) r
def itemsR (l : List (Tk × Nat)) (z : Nat) : Nd × Int × Nat :=
 if (parse (l.map (·.1))).2.1 = 0 then parse (l.map (·.1))
 else (none0,(parse (l.map (·.1))).2.1,match l[(parse (l.map (·.1))).2.2]? with | some x=>x.2 | none=>z)
def sourceP (s : List UInt8) (chk : Int) : Nd × Int × Nat :=
 if 65536 < s.length then (none0,3,0) else if 0 ≤ chk then (none0,10,chk.toNat)
 else if (Lx.lexA Lx.start s).2 = 0 then itemsR (itemsP 0 (Lx.lexA Lx.start s).1) s.length
 else (none0,(Lx.lexA Lx.start s).2,Lx.size (Lx.lexA Lx.start s).1)
end Go.Proofs.Ythadnhpkeljdoaa.pa
namespace Go.Proofs.Ythadnhpkeljdoaa.pa
open Go.RowKit nd pr sx ed
structure Env where
 B : Nat
 O : Nat
 T : Nat
 tl : List (Tk × Value)
 l : List Tk
 lv : Value
 W0 : World
structure FitT (t : Tk) : Prop where
 kind : 0 ≤ t.1 ∧ t.1 ≤ 13
 size : t.2.size ≤ 1000000
 field : t.1 = 4 → Lib.hasPrefix t.2.data.toList [46] = true
 var : t.1 = 5 → Lib.hasPrefix t.2.data.toList [36] = true
 word : t.1 = 3 → t.2 ∉ [minus,semi,colon,bar,lpar,rpar,lbr,rbr,lbrace,rbrace,comma,dot,dots,quest]
 oper : t.1 = 13 → t.2 ∉ [wdef,wlabel,wtry,wcatch,was,wif,wthen,welif,welse,wend,wreduce,wforeach,wbreak,wimport,winclude]
end Go.Proofs.Ythadnhpkeljdoaa.pa
namespace Go.Proofs.Ythadnhpkeljdoaa.lx
open Go.RowKit Go.Shelf
open sg (lst_len extract_drop ext_size)
open sx
theorem own_some {W : World} {base : Nat} {e : TypeId} {size n : Nat} {v : Value} {xs : List Value} (hn : n ≠ 0) (h : W.ownsRow base e size v n xs) :
  ∃ g cap cur,v = .slice (some ⟨g,0,none⟩) n cap ∧ base ≤ g ∧ Blk W g e cur ∧ cur.toList.take (n * size) = xs:=by
 rcases h.2 with ⟨_,h0⟩ | ⟨g,cap,cur,rfl,hg,hgb,_,_,_,hcur⟩
 ·exact absurd h0 hn
 ·exact ⟨g,cap,cur,rfl,hg,hgb,hcur⟩
end Go.Proofs.Ythadnhpkeljdoaa.lx
