/- Ground of the law: Gx3. -/
import Derived.Test.YthadnhpkeljdoaaGreatQf19
set_option maxRecDepth 100000
set_option maxHeartbeats 8000000
set_option linter.unusedVariables false
set_option linter.unusedSimpArgs false
namespace Go.Proofs.YthadnhpkeljdoaaGreat.gn
open Go.Lib (hid)
open Go.RowKit Go.Shelf sx ed
abbrev obW : Array Value:=#[.string ⟨#[97]⟩,.string ⟨#[36,120]⟩,.string ⟨#[34,107,34]⟩,.string ⟨#[36,121,58,32,49]⟩,.string ⟨#[105,102,58,32,50]⟩,.string ⟨#[36,120,58,32,45,51]⟩]
inductive Rd (bs : List Int) (d : Int) (u : ByteArray) (K : Nat) : ByteArray → Nat → Prop
  | no (s1 : ByteArray) (K1 K2 : Nat) (z : Int) : TellsOf bs obW 6 K s1 K1 → Tells1 bs 52 (.int .i64 3) K1 (.int .i64 z) K2 → 0 ≤ z → z < 3 → z ≠ 1 → Rd bs d u K (u ++ s1) K2
  | yes (s1 p q : ByteArray) (K1 K2 K3 K4 : Nat) : TellsOf bs obW 6 K s1 K1 → Tells1 bs 52 (.int .i64 3) K1 (.int .i64 1) K2 → Tells1 bs 53 (.int .i64 d) K2 (.string p) K3 → Tells1 bs 66 (.int .i64 d) K3 (.string q) K4 →
      Rd bs d u K (u ++ s1 ++ ⟨#[44,32,40]⟩ ++ p ++ ⟨#[41,58,32]⟩ ++ q) K4
section
variable {bs : List Int} {m : Int} {X : Nat}
theorem rd_ex {d : Int} (hs : Gs bs m X) (hd : d ≤ m) (hd0 : -100 ≤ d) (u : ByteArray) (K : Nat) : ∃ u' K',u'.size ≤ u.size + (2 * X + 12) ∧ Rd bs d u K u' K':=by
  obtain ⟨s1,K1,⟨hs1,T1⟩⟩:=of_ex (bs:=bs) K obW 6 6 (by decide) (by decide) rfl rfl
  obtain ⟨z,K2,⟨hz0,hz1⟩,H2⟩:=next_ex (bs:=bs) K1 3 (3 : Int) rfl (by decide) (by decide)
  have T2:=H2.out
  by_cases hz : z = 1
  · subst hz
    obtain ⟨p,K3,⟨hp,T3⟩⟩:=hs.pipe d hd hd0 K2
    obtain ⟨q,K4,⟨hq,T4⟩⟩:=hs.post d hd hd0 K3
    refine ⟨_,_,?_,.yes s1 p q K1 K2 K3 K4 T1 T2 T3 T4⟩
    simp only [ByteArray.size_append,show (⟨#[44,32,40]⟩ : ByteArray).size = 3 from rfl,show (⟨#[41,58,32]⟩ : ByteArray).size = 3 from rfl]
    omega
  · refine ⟨_,_,?_,.no s1 K1 K2 z T1 T2 hz0 hz1 hz⟩
    rw [ByteArray.size_append]
    omega
def sep (j : Nat) (u : ByteArray) : ByteArray:=if 0 < j then u ++ ⟨#[44,32]⟩ else u
theorem sep_size (j : Nat) (u : ByteArray) : (sep j u).size ≤ u.size + 2:=by
  unfold sep
  split
  · rw [ByteArray.size_append];exact Nat.le_refl _
  · omega
theorem seq_ex {d : Int} (hs : Gs bs m X) (hd : d ≤ m) (hd0 : -100 ≤ d) (u0 : ByteArray) (K0 : Nat) (n : Nat) : ∃ (U : Nat → ByteArray) (KK : Nat → Nat),U 0 = u0 ∧ KK 0 = K0 ∧ ∀ j,j < n → Rd bs d (sep j (U j)) (KK j) (U (j + 1)) (KK (j + 1)) ∧ (U (j + 1)).size ≤ (U j).size + (2 * X + 20):=by
  induction n with
  | zero=>exact ⟨fun _=>u0,fun _=>K0,rfl,rfl,fun j h=>by omega⟩
  | succ n ih =>
    obtain ⟨U,KK,h0,h1,h2⟩:=ih
    obtain ⟨u',K',h3,h4⟩:=rd_ex hs hd hd0 (sep n (U n)) (KK n)
    have h5:=sep_size n (U n)
    refine ⟨fun i=>if i ≤ n then U i else u',fun i=>if i ≤ n then KK i else K',by simpa using h0,by simpa using h1,fun j hj=>?_⟩
    by_cases hjn : j = n
    · subst hjn
      simp only [Nat.le_refl,if_true,show ¬ (j + 1 ≤ j) by omega,if_false]
      exact ⟨h4,by omega⟩
    · have:=h2 j (by omega)
      simp only [show j ≤ n by omega,show j + 1 ≤ n by omega,if_true]
      exact this
theorem object_ex (hs : Gs bs m X) (hX : X ≤ 100000000000000) {d : Int} (hd : d ≤ m) (hd0 : -90 ≤ d) (hd9 : d ≤ 1000) (K : Nat) : Ex1 bs (6 * X + 100) 79 d K:=by
  obtain ⟨z1,K1,⟨hz0,hz1⟩,H1⟩:=next_ex (bs:=bs) K 3 (3 : Int) rfl (by decide) (by decide)
  obtain ⟨r,rfl⟩ : ∃ r : Nat,z1 = (r : Int):=⟨z1.toNat,by omega⟩
  obtain ⟨U,KK,hU0,hK0,hst⟩:=seq_ex hs hd (by omega) ⟨#[123]⟩ K1 3
  have hsz : ∀ j,j ≤ 3 → (U j).size ≤ 1 + j * (2 * X + 20):=by
    intro j
    induction j with
    | zero=>intro _;rw [hU0];exact Nat.le_add_right 1 _
    | succ j ih=>intro h;have:=(hst j (by omega)).2;have:=ih (by omega);rw [Nat.add_mul,Nat.one_mul];omega
  have hUb : ∀ j,j ≤ 3 → (U j).size ≤ 6 * X + 61:=fun j hj=>by
    have h:=hsz j hj
    have : j * (2 * X + 20) ≤ 3 * (2 * X + 20):=Nat.mul_le_mul_right _ hj
    omega
  obtain ⟨s9,c9,Z9,q9⟩:=catR (U (r + 1)) ⟨#[125]⟩ 1 (hUb _ (by omega)) rfl (by omega)
  refine ⟨s9,KK (r + 1),hid ⟨by have:=Z9.out;omega,fun B ao cap W h=>?_⟩⟩
  have HST:=hid hst;have HUB:=hid hUb;have HX:=hid hX;have C9:=hid c9;have Q9:=hid q9;have HU0:=hid hU0;have HK00:=hid hK0
  have hr3 : r < 3:=by omega
  have G0:=st0 h
  clear hst hUb hsz hX c9 q9 Z9 hU0 hK0 h hs hd hd0 hd9 hz0 hz1
  go_enter Tryz.func79,Tryz.ntmps79
  go_wp2_with fail
  (with_reducible refine (tN H1 G0).mono ?_);rintro e w1 ⟨rfl,GA⟩
  clear G0
  go_wp2_with fail
  go_loopw [5,7] (fun s i wr=>∃ j : Nat,j ≤ r + 1 ∧ i = .int .i64 (j : Int) ∧ s = .string (U j) ∧ SttH bs B ao cap W (KK j) wr) (fun _ i _=>r + 1 - (intOf i).toNat)
  case atStart=>exact ⟨0,Nat.zero_le _,rfl,by rw [HU0.out],by rw [HK00.out];exact GA⟩
  case round =>
    obtain ⟨j,hj,rfl,rfl,G0⟩:=hrel
    have hUj:=HUB.out j (by omega)
    obtain ⟨u,hu⟩ : ∃ u,U j = u:=⟨_,rfl⟩
    obtain ⟨Kj,hKj⟩ : ∃ Kj,KK j = Kj:=⟨_,rfl⟩
    rw [hKj] at G0
    rw [hu] at hUj ⊢
    have Z0:=hid hUj
    clear hUj
    by_cases hjr : j ≤ r
    · have t1 : decide ((j : Int) ≤ (r : Int)) = true:=decide_eq_true (by omega)
      have t2 : decide (j ≤ r) = true:=decide_eq_true hjr
      obtain ⟨hrd,_⟩:=HST.out j (by omega)
      have hU1:=HUB.out (j + 1) (by omega)
      obtain ⟨u',hu'⟩ : ∃ u',U (j + 1) = u':=⟨_,rfl⟩
      obtain ⟨K',hK'⟩ : ∃ K',KK (j + 1) = K':=⟨_,rfl⟩
      rw [hu'] at hU1
      rw [hu,hKj,hu',hK'] at hrd
      clear hu hKj
      by_cases hj0 : 0 < j
      · have t3 : decide (0 < (j : Int)) = true:=decide_eq_true (by omega)
        have t4 : decide (0 < j) = true:=decide_eq_true (by omega)
        rw [show sep j u = u ++ ⟨#[44,32]⟩ from if_pos hj0] at hrd
        obtain ⟨s2,c2,Z2,q2⟩:=catR u ⟨#[44,32]⟩ 2 Z0.out rfl (by have:=HX.out;omega)
        rw [c2] at hrd
        cases hrd with
        | no s1 K1 K2 z T1 T2 g1 g2 g3 =>
          simp only [ByteArray.size_append,show (⟨#[44,32,40]⟩ : ByteArray).size = 3 from rfl,show (⟨#[41,58,32]⟩ : ByteArray).size = 3 from rfl] at hU1
          have HU1:=hid hU1;have HX:=hid (And.intro HX.out hU1);clear hU1
          have H1:=hid (And.intro trivial T1);have H2:=hid T2;clear T1 T2
          have g4 : (z == 1) = false:=by rw [beq_eq_false_iff_ne];exact g3
          obtain ⟨v4,c4,Z4,q4⟩:=cat s2 s1 Z2.out (Nat.le_refl _) (by have:=HX.out;omega)
          rw [c4] at hu'
          have HU':=hid hu';have HK':=hid hK';clear hu' hK'
          go_wp2_with fail
          (with_reducible refine (tO H1 G0).mono ?_);rintro e w1 ⟨rfl,G1⟩
          go_wp2_with fail
          (with_reducible refine (tN H2 G1).mono ?_);rintro e w2 ⟨rfl,G2⟩
          go_wp2_with fail
          exact ⟨⟨j + 1,by omega,by simp,by rw [HU'.out],by rw [HK'.out];exact G2⟩,by simp [intOf];omega⟩
        | yes s1 p q K1 K2 K3 K4 T1 T2 T3 T4 =>
          simp only [ByteArray.size_append,show (⟨#[44,32,40]⟩ : ByteArray).size = 3 from rfl,show (⟨#[41,58,32]⟩ : ByteArray).size = 3 from rfl] at hU1
          have HU1:=hid hU1;have HX:=hid (And.intro HX.out hU1);clear hU1
          have H1:=hid (And.intro trivial T1);have H2:=hid T2;clear T1 T2
          have H3:=hid (And.intro trivial T3);have H4:=hid (And.intro trivial T4);clear T3 T4
          obtain ⟨v4,c4,Z4,q4⟩:=cat s2 s1 Z2.out (Nat.le_refl _) (by have:=HX.out;omega)
          obtain ⟨v5,c5,Z5,q5⟩:=catR v4 ⟨#[44,32,40]⟩ 3 Z4.out rfl (by have:=HX.out;omega)
          obtain ⟨v6,c6,Z6,q6⟩:=cat v5 p Z5.out (Nat.le_refl _) (by have:=HX.out;omega)
          obtain ⟨v7,c7,Z7,q7⟩:=catR v6 ⟨#[41,58,32]⟩ 3 Z6.out rfl (by have:=HX.out;omega)
          obtain ⟨v8,c8,Z8,q8⟩:=cat v7 q Z7.out (Nat.le_refl _) (by have:=HX.out;omega)
          rw [c4,c5,c6,c7,c8] at hu'
          have HU':=hid hu';have HK':=hid hK';clear hu' hK'
          go_wp2_with fail
          (with_reducible refine (tO H1 G0).mono ?_);rintro e w1 ⟨rfl,G1⟩
          go_wp2_with fail
          (with_reducible refine (tN H2 G1).mono ?_);rintro e w2 ⟨rfl,G2⟩
          go_wp2_with fail
          (with_reducible refine (tA H3 G2).mono ?_);rintro e w3 ⟨rfl,G3⟩
          go_wp2_with fail
          (with_reducible refine (tA H4 G3).mono ?_);rintro e w4 ⟨rfl,G4⟩
          go_wp2_with fail
          exact ⟨⟨j + 1,by omega,by simp,by rw [HU'.out],by rw [HK'.out];exact G4⟩,by simp [intOf];omega⟩
      · have t3 : decide (0 < (j : Int)) = false:=decide_eq_false (by omega)
        have t4 : decide (0 < j) = false:=decide_eq_false (by omega)
        rw [show sep j u = u from if_neg hj0] at hrd
        cases hrd with
        | no s1 K1 K2 z T1 T2 g1 g2 g3 =>
          simp only [ByteArray.size_append,show (⟨#[44,32,40]⟩ : ByteArray).size = 3 from rfl,show (⟨#[41,58,32]⟩ : ByteArray).size = 3 from rfl] at hU1
          have HU1:=hid hU1;have HX:=hid (And.intro HX.out hU1);clear hU1
          have H1:=hid (And.intro trivial T1);have H2:=hid T2;clear T1 T2
          have g4 : (z == 1) = false:=by rw [beq_eq_false_iff_ne];exact g3
          obtain ⟨v4,c4,Z4,q4⟩:=cat u s1 Z0.out (Nat.le_refl _) (by have:=HX.out;omega)
          rw [c4] at hu'
          have HU':=hid hu';have HK':=hid hK';clear hu' hK'
          go_wp2_with fail
          (with_reducible refine (tO H1 G0).mono ?_);rintro e w1 ⟨rfl,G1⟩
          go_wp2_with fail
          (with_reducible refine (tN H2 G1).mono ?_);rintro e w2 ⟨rfl,G2⟩
          go_wp2_with fail
          exact ⟨⟨j + 1,by omega,by simp,by rw [HU'.out],by rw [HK'.out];exact G2⟩,by simp [intOf];omega⟩
        | yes s1 p q K1 K2 K3 K4 T1 T2 T3 T4 =>
          simp only [ByteArray.size_append,show (⟨#[44,32,40]⟩ : ByteArray).size = 3 from rfl,show (⟨#[41,58,32]⟩ : ByteArray).size = 3 from rfl] at hU1
          have HU1:=hid hU1;have HX:=hid (And.intro HX.out hU1);clear hU1
          have H1:=hid (And.intro trivial T1);have H2:=hid T2;clear T1 T2
          have H3:=hid (And.intro trivial T3);have H4:=hid (And.intro trivial T4);clear T3 T4
          obtain ⟨v4,c4,Z4,q4⟩:=cat u s1 Z0.out (Nat.le_refl _) (by have:=HX.out;omega)
          obtain ⟨v5,c5,Z5,q5⟩:=catR v4 ⟨#[44,32,40]⟩ 3 Z4.out rfl (by have:=HX.out;omega)
          obtain ⟨v6,c6,Z6,q6⟩:=cat v5 p Z5.out (Nat.le_refl _) (by have:=HX.out;omega)
          obtain ⟨v7,c7,Z7,q7⟩:=catR v6 ⟨#[41,58,32]⟩ 3 Z6.out rfl (by have:=HX.out;omega)
          obtain ⟨v8,c8,Z8,q8⟩:=cat v7 q Z7.out (Nat.le_refl _) (by have:=HX.out;omega)
          rw [c4,c5,c6,c7,c8] at hu'
          have HU':=hid hu';have HK':=hid hK';clear hu' hK'
          go_wp2_with fail
          (with_reducible refine (tO H1 G0).mono ?_);rintro e w1 ⟨rfl,G1⟩
          go_wp2_with fail
          (with_reducible refine (tN H2 G1).mono ?_);rintro e w2 ⟨rfl,G2⟩
          go_wp2_with fail
          (with_reducible refine (tA H3 G2).mono ?_);rintro e w3 ⟨rfl,G3⟩
          go_wp2_with fail
          (with_reducible refine (tA H4 G3).mono ?_);rintro e w4 ⟨rfl,G4⟩
          go_wp2_with fail
          exact ⟨⟨j + 1,by omega,by simp,by rw [HU'.out],by rw [HK'.out];exact G4⟩,by simp [intOf];omega⟩
    · obtain rfl : j = r + 1:=by omega
      have t1 : decide ((r : Int) + 1 ≤ (r : Int)) = false:=decide_eq_false (by omega)
      have t2 : decide (r + 1 ≤ r) = false:=decide_eq_false (by omega)
      have t5 : ¬ ((r : Int) + 1 ≤ (r : Int)):=by omega
      have c9:=C9.out
      have q9:=Q9.out
      rw [hu] at c9 q9
      rw [← hKj] at G0
      clear hu hKj
      go_wp2_with fail
      go_ret
      exact ⟨rfl,G0.out.g,G0.out.k⟩
end
end Go.Proofs.YthadnhpkeljdoaaGreat.gn
