/- Ground of the law: Gx4. -/
import Derived.Test.YthadnhpkeljdoaaGreatQg19
set_option maxRecDepth 100000
set_option maxHeartbeats 8000000
set_option linter.unusedVariables false
set_option linter.unusedSimpArgs false
namespace Go.Proofs.YthadnhpkeljdoaaGreat.gn
open Go.Lib (hid)
open Go.RowKit Go.Shelf sx ed
section
variable {bs : List Int} {m : Int} {X : Nat}
theorem pipeOn_ex (hs : Gs bs m X) (hX : X ≤ 100000000000) {d : Int} (hd : d - 1 ≤ m) (hdp : 0 < d) (hd0 : -80 ≤ d) (hd9 : d ≤ 900) (K : Nat) (hK : K < bs.length) : Ex1 bs (6 * X + 200) 53 d K:=by
 obtain ⟨d1,hd1⟩ : ∃ d1,d - 1 = d1:=⟨_,rfl⟩
 have w1 : wrap64 (d - 1) = d1:=by rw [IntWalk.wrap64_in _ (by omega)];exact hd1
 have w2 : IntKind.i64.wrap (d - 1) = d1:=(IntWalk.i64_left _).trans w1
 have hPipe1:=hid (hs.pipe d1 (by omega) (by omega));have hPost1:=hid (hs.post d1 (by omega) (by omega))
 have hPattern1:=hid (pattern_ex hs (by omega) (d:=d1) (by omega) (by omega) (by omega))
 have HX:=hid hX
 have e1 : decide (d ≤ 0) = false:=decide_eq_false (by omega)
 have e2 : ¬ (d ≤ 0):=by omega
 clear hs hX hd hd0 hd9 hd1 hdp
 obtain ⟨z1,K1,hz1,H1⟩:=next_ex (bs:=bs) K 14 14 rfl (by decide) (by decide)
 have hzz : z1 = 0 ∨ z1 = 1 ∨ z1 = 2 ∨ z1 = 3 ∨ z1 = 4 ∨ z1 = 5 ∨ z1 = 6 ∨ z1 = 7 ∨ z1 = 8 ∨ z1 = 9 ∨ z1 = 10 ∨ z1 = 11 ∨ z1 = 12 ∨ z1 = 13:=by omega
 clear hz1
 rcases hzz with rfl | rfl | rfl | rfl | rfl | rfl | rfl | rfl | rfl | rfl | rfl | rfl | rfl | rfl
 iterate 3
  ·skip
   obtain ⟨s2,K2,H2⟩:=hPipe1.out K1
   obtain ⟨s3,c3,Z3,q3⟩:=catR s2 ⟨#[32]⟩ 1 H2.out.1 rfl (by have:=HX.out;omega)
   obtain ⟨s4,K4,H4⟩:=of_ex (bs:=bs) K2 #[.string ⟨#[124]⟩,.string ⟨#[44]⟩,.string ⟨#[43]⟩,.string ⟨#[45]⟩,.string ⟨#[42]⟩,.string ⟨#[47,47]⟩,.string ⟨#[97,110,100]⟩,.string ⟨#[111,114]⟩,.string ⟨#[61,61]⟩,.string ⟨#[61]⟩,.string ⟨#[124,61]⟩,.string ⟨#[60]⟩] 12 3 (by decide) (by decide) rfl rfl
   obtain ⟨s5,c5,Z5,q5⟩:=cat s3 s4 Z3.out H4.out.1 (by have:=HX.out;omega)
   obtain ⟨s6,c6,Z6,q6⟩:=catR s5 ⟨#[32]⟩ 1 Z5.out rfl (by have:=HX.out;omega)
   obtain ⟨s7,K7,H7⟩:=hPipe1.out K4
   obtain ⟨s8,c8,Z8,q8⟩:=cat s6 s7 Z6.out H7.out.1 (by have:=HX.out;omega)
   refine ⟨s8,K7,hid ⟨Nat.le_trans Z8.out (by have:=HX.out;omega),fun B ao cap W h=>?_⟩⟩
   have b0:=h.box.cell 0;have b1:=h.box.cell 1
   have g1 : decide ((bs.length : Int) ≤ (K : Int)) = false:=decide_eq_false (by omega)
   have g2 : decide (bs.length ≤ K) = false:=decide_eq_false (by omega)
   have G0:=stD h
   clear h
   go_enter Tryz.func53,Tryz.ntmps53
   go_wp2_with fail
   go_region
   clear b0 b1 g1 g2
   go_wp2_with fail
   (with_reducible refine (tN H1 G0).mono ?_);rintro e w1 ⟨rfl,G1⟩
   go_wp2_with fail
   (with_reducible refine (tA H2 G1).mono ?_);rintro e w2 ⟨rfl,G2⟩
   go_wp2_with fail
   (with_reducible refine (tO H4 G2).mono ?_);rintro e w4 ⟨rfl,G4⟩
   go_wp2_with fail
   (with_reducible refine (tA H7 G4).mono ?_);rintro e w7 ⟨rfl,G7⟩
   go_wp2_with fail
   go_ret
   exact ⟨rfl,G7.out.g,G7.out.k⟩
 ·skip
  obtain ⟨s9,K9,H9⟩:=hPipe1.out K1
  obtain ⟨s10,c10,Z10,q10⟩:=catL ⟨#[40]⟩ s9 1 H9.out.1 rfl (by have:=HX.out;omega)
  obtain ⟨s11,c11,Z11,q11⟩:=catR s10 ⟨#[41]⟩ 1 Z10.out rfl (by have:=HX.out;omega)
  refine ⟨s11,K9,hid ⟨Nat.le_trans Z11.out (by have:=HX.out;omega),fun B ao cap W h=>?_⟩⟩
  have b0:=h.box.cell 0;have b1:=h.box.cell 1
  have g1 : decide ((bs.length : Int) ≤ (K : Int)) = false:=decide_eq_false (by omega)
  have g2 : decide (bs.length ≤ K) = false:=decide_eq_false (by omega)
  have G0:=stD h
  clear h
  go_enter Tryz.func53,Tryz.ntmps53
  go_wp2_with fail
  go_region
  clear b0 b1 g1 g2
  go_wp2_with fail
  (with_reducible refine (tN H1 G0).mono ?_);rintro e w1 ⟨rfl,G1⟩
  go_wp2_with fail
  (with_reducible refine (tA H9 G1).mono ?_);rintro e w9 ⟨rfl,G9⟩
  go_wp2_with fail
  go_ret
  exact ⟨rfl,G9.out.g,G9.out.k⟩
 ·skip
  obtain ⟨s12,K12,H12⟩:=hPost1.out K1
  obtain ⟨s13,c13,Z13,q13⟩:=catR s12 ⟨#[32,97,115,32]⟩ 4 H12.out.1 rfl (by have:=HX.out;omega)
  obtain ⟨s14,K14,H14⟩:=hPattern1.out K12
  obtain ⟨s15,c15,Z15,q15⟩:=cat s13 s14 Z13.out H14.out.1 (by have:=HX.out;omega)
  obtain ⟨s16,c16,Z16,q16⟩:=catR s15 ⟨#[32,124,32]⟩ 3 Z15.out rfl (by have:=HX.out;omega)
  obtain ⟨s17,K17,H17⟩:=hPipe1.out K14
  obtain ⟨s18,c18,Z18,q18⟩:=cat s16 s17 Z16.out H17.out.1 (by have:=HX.out;omega)
  refine ⟨s18,K17,hid ⟨Nat.le_trans Z18.out (by have:=HX.out;omega),fun B ao cap W h=>?_⟩⟩
  have b0:=h.box.cell 0;have b1:=h.box.cell 1
  have g1 : decide ((bs.length : Int) ≤ (K : Int)) = false:=decide_eq_false (by omega)
  have g2 : decide (bs.length ≤ K) = false:=decide_eq_false (by omega)
  have G0:=stD h
  clear h
  go_enter Tryz.func53,Tryz.ntmps53
  go_wp2_with fail
  go_region
  clear b0 b1 g1 g2
  go_wp2_with fail
  (with_reducible refine (tN H1 G0).mono ?_);rintro e w1 ⟨rfl,G1⟩
  go_wp2_with fail
  (with_reducible refine (tA H12 G1).mono ?_);rintro e w12 ⟨rfl,G12⟩
  go_wp2_with fail
  (with_reducible refine (tA H14 G12).mono ?_);rintro e w14 ⟨rfl,G14⟩
  go_wp2_with fail
  (with_reducible refine (tA H17 G14).mono ?_);rintro e w17 ⟨rfl,G17⟩
  go_wp2_with fail
  go_ret
  exact ⟨rfl,G17.out.g,G17.out.k⟩
 ·skip
  obtain ⟨s19,K19,H19⟩:=name_ex (bs:=bs) K1
  obtain ⟨s20,c20,Z20,q20⟩:=catL ⟨#[100,101,102,32]⟩ s19 4 H19.out.1 rfl (by have:=HX.out;omega)
  obtain ⟨s21,K21,H21⟩:=params_ex (bs:=bs) K19
  obtain ⟨s22,c22,Z22,q22⟩:=cat s20 s21 Z20.out H21.out.1 (by have:=HX.out;omega)
  obtain ⟨s23,c23,Z23,q23⟩:=catR s22 ⟨#[58,32]⟩ 2 Z22.out rfl (by have:=HX.out;omega)
  obtain ⟨s24,K24,H24⟩:=hPipe1.out K21
  obtain ⟨s25,c25,Z25,q25⟩:=cat s23 s24 Z23.out H24.out.1 (by have:=HX.out;omega)
  obtain ⟨s26,c26,Z26,q26⟩:=catR s25 ⟨#[59,32]⟩ 2 Z25.out rfl (by have:=HX.out;omega)
  obtain ⟨s27,K27,H27⟩:=hPipe1.out K24
  obtain ⟨s28,c28,Z28,q28⟩:=cat s26 s27 Z26.out H27.out.1 (by have:=HX.out;omega)
  refine ⟨s28,K27,hid ⟨Nat.le_trans Z28.out (by have:=HX.out;omega),fun B ao cap W h=>?_⟩⟩
  have b0:=h.box.cell 0;have b1:=h.box.cell 1
  have g1 : decide ((bs.length : Int) ≤ (K : Int)) = false:=decide_eq_false (by omega)
  have g2 : decide (bs.length ≤ K) = false:=decide_eq_false (by omega)
  have G0:=stD h
  clear h
  go_enter Tryz.func53,Tryz.ntmps53
  go_wp2_with fail
  go_region
  clear b0 b1 g1 g2
  go_wp2_with fail
  (with_reducible refine (tN H1 G0).mono ?_);rintro e w1 ⟨rfl,G1⟩
  go_wp2_with fail
  (with_reducible refine (tB H19 G1).mono ?_);rintro e w19 ⟨rfl,G19⟩
  go_wp2_with fail
  (with_reducible refine (tB H21 G19).mono ?_);rintro e w21 ⟨rfl,G21⟩
  go_wp2_with fail
  (with_reducible refine (tA H24 G21).mono ?_);rintro e w24 ⟨rfl,G24⟩
  go_wp2_with fail
  (with_reducible refine (tA H27 G24).mono ?_);rintro e w27 ⟨rfl,G27⟩
  go_wp2_with fail
  go_ret
  exact ⟨rfl,G27.out.g,G27.out.k⟩
 ·skip
  obtain ⟨s29,K29,H29⟩:=hPipe1.out K1
  obtain ⟨s30,c30,Z30,q30⟩:=catL ⟨#[45]⟩ s29 1 H29.out.1 rfl (by have:=HX.out;omega)
  refine ⟨s30,K29,hid ⟨Nat.le_trans Z30.out (by have:=HX.out;omega),fun B ao cap W h=>?_⟩⟩
  have b0:=h.box.cell 0;have b1:=h.box.cell 1
  have g1 : decide ((bs.length : Int) ≤ (K : Int)) = false:=decide_eq_false (by omega)
  have g2 : decide (bs.length ≤ K) = false:=decide_eq_false (by omega)
  have G0:=stD h
  clear h
  go_enter Tryz.func53,Tryz.ntmps53
  go_wp2_with fail
  go_region
  clear b0 b1 g1 g2
  go_wp2_with fail
  (with_reducible refine (tN H1 G0).mono ?_);rintro e w1 ⟨rfl,G1⟩
  go_wp2_with fail
  (with_reducible refine (tA H29 G1).mono ?_);rintro e w29 ⟨rfl,G29⟩
  go_wp2_with fail
  go_ret
  exact ⟨rfl,G29.out.g,G29.out.k⟩
 ·skip
  obtain ⟨s31,K31,H31⟩:=name_ex (bs:=bs) K1
  obtain ⟨s32,c32,Z32,q32⟩:=catL ⟨#[108,97,98,101,108,32,36]⟩ s31 7 H31.out.1 rfl (by have:=HX.out;omega)
  obtain ⟨s33,c33,Z33,q33⟩:=catR s32 ⟨#[32,124,32]⟩ 3 Z32.out rfl (by have:=HX.out;omega)
  obtain ⟨s34,K34,H34⟩:=hPipe1.out K31
  obtain ⟨s35,c35,Z35,q35⟩:=cat s33 s34 Z33.out H34.out.1 (by have:=HX.out;omega)
  refine ⟨s35,K34,hid ⟨Nat.le_trans Z35.out (by have:=HX.out;omega),fun B ao cap W h=>?_⟩⟩
  have b0:=h.box.cell 0;have b1:=h.box.cell 1
  have g1 : decide ((bs.length : Int) ≤ (K : Int)) = false:=decide_eq_false (by omega)
  have g2 : decide (bs.length ≤ K) = false:=decide_eq_false (by omega)
  have G0:=stD h
  clear h
  go_enter Tryz.func53,Tryz.ntmps53
  go_wp2_with fail
  go_region
  clear b0 b1 g1 g2
  go_wp2_with fail
  (with_reducible refine (tN H1 G0).mono ?_);rintro e w1 ⟨rfl,G1⟩
  go_wp2_with fail
  (with_reducible refine (tB H31 G1).mono ?_);rintro e w31 ⟨rfl,G31⟩
  go_wp2_with fail
  (with_reducible refine (tA H34 G31).mono ?_);rintro e w34 ⟨rfl,G34⟩
  go_wp2_with fail
  go_ret
  exact ⟨rfl,G34.out.g,G34.out.k⟩
 ·skip
  obtain ⟨s36,K36,H36⟩:=hPost1.out K1
  obtain ⟨s37,c37,Z37,q37⟩:=catL ⟨#[116,114,121,32]⟩ s36 4 H36.out.1 rfl (by have:=HX.out;omega)
  obtain ⟨z38,K38,hz38,H38⟩:=next_ex (bs:=bs) K36 2 2 rfl (by decide) (by decide)
  have hzz : z38 = 0 ∨ z38 = 1:=by omega
  clear hz38
  rcases hzz with rfl | rfl
  ·skip
   refine ⟨s37,K38,hid ⟨Nat.le_trans Z37.out (by have:=HX.out;omega),fun B ao cap W h=>?_⟩⟩
   have b0:=h.box.cell 0;have b1:=h.box.cell 1
   have g1 : decide ((bs.length : Int) ≤ (K : Int)) = false:=decide_eq_false (by omega)
   have g2 : decide (bs.length ≤ K) = false:=decide_eq_false (by omega)
   have G0:=stD h
   clear h
   go_enter Tryz.func53,Tryz.ntmps53
   go_wp2_with fail
   go_region
   clear b0 b1 g1 g2
   go_wp2_with fail
   (with_reducible refine (tN H1 G0).mono ?_);rintro e w1 ⟨rfl,G1⟩
   go_wp2_with fail
   (with_reducible refine (tA H36 G1).mono ?_);rintro e w36 ⟨rfl,G36⟩
   go_wp2_with fail
   (with_reducible refine (tN H38 G36).mono ?_);rintro e w38 ⟨rfl,G38⟩
   go_wp2_with fail
   go_ret
   exact ⟨rfl,G38.out.g,G38.out.k⟩
  ·skip
   obtain ⟨s39,c39,Z39,q39⟩:=catR s37 ⟨#[32,99,97,116,99,104,32]⟩ 7 Z37.out rfl (by have:=HX.out;omega)
   obtain ⟨s40,K40,H40⟩:=hPost1.out K38
   obtain ⟨s41,c41,Z41,q41⟩:=cat s39 s40 Z39.out H40.out.1 (by have:=HX.out;omega)
   refine ⟨s41,K40,hid ⟨Nat.le_trans Z41.out (by have:=HX.out;omega),fun B ao cap W h=>?_⟩⟩
   have b0:=h.box.cell 0;have b1:=h.box.cell 1
   have g1 : decide ((bs.length : Int) ≤ (K : Int)) = false:=decide_eq_false (by omega)
   have g2 : decide (bs.length ≤ K) = false:=decide_eq_false (by omega)
   have G0:=stD h
   clear h
   go_enter Tryz.func53,Tryz.ntmps53
   go_wp2_with fail
   go_region
   clear b0 b1 g1 g2
   go_wp2_with fail
   (with_reducible refine (tN H1 G0).mono ?_);rintro e w1 ⟨rfl,G1⟩
   go_wp2_with fail
   (with_reducible refine (tA H36 G1).mono ?_);rintro e w36 ⟨rfl,G36⟩
   go_wp2_with fail
   (with_reducible refine (tN H38 G36).mono ?_);rintro e w38 ⟨rfl,G38⟩
   go_wp2_with fail
   (with_reducible refine (tA H40 G38).mono ?_);rintro e w40 ⟨rfl,G40⟩
   go_wp2_with fail
   go_ret
   exact ⟨rfl,G40.out.g,G40.out.k⟩
 ·skip
  obtain ⟨s42,K42,H42⟩:=hPost1.out K1
  obtain ⟨s43,c43,Z43,q43⟩:=catR s42 ⟨#[32,35,32,110,10,32,124,32]⟩ 8 H42.out.1 rfl (by have:=HX.out;omega)
  obtain ⟨s44,K44,H44⟩:=hPipe1.out K42
  obtain ⟨s45,c45,Z45,q45⟩:=cat s43 s44 Z43.out H44.out.1 (by have:=HX.out;omega)
  refine ⟨s45,K44,hid ⟨Nat.le_trans Z45.out (by have:=HX.out;omega),fun B ao cap W h=>?_⟩⟩
  have b0:=h.box.cell 0;have b1:=h.box.cell 1
  have g1 : decide ((bs.length : Int) ≤ (K : Int)) = false:=decide_eq_false (by omega)
  have g2 : decide (bs.length ≤ K) = false:=decide_eq_false (by omega)
  have G0:=stD h
  clear h
  go_enter Tryz.func53,Tryz.ntmps53
  go_wp2_with fail
  go_region
  clear b0 b1 g1 g2
  go_wp2_with fail
  (with_reducible refine (tN H1 G0).mono ?_);rintro e w1 ⟨rfl,G1⟩
  go_wp2_with fail
  (with_reducible refine (tA H42 G1).mono ?_);rintro e w42 ⟨rfl,G42⟩
  go_wp2_with fail
  (with_reducible refine (tA H44 G42).mono ?_);rintro e w44 ⟨rfl,G44⟩
  go_wp2_with fail
  go_ret
  exact ⟨rfl,G44.out.g,G44.out.k⟩
 all_goals
  obtain ⟨s46,K46,H46⟩:=hPost1.out K1
  refine ⟨s46,K46,hid ⟨Nat.le_trans H46.out.1 (by have:=HX.out;omega),fun B ao cap W h=>?_⟩⟩
  have b0:=h.box.cell 0;have b1:=h.box.cell 1
  have g1 : decide ((bs.length : Int) ≤ (K : Int)) = false:=decide_eq_false (by omega)
  have g2 : decide (bs.length ≤ K) = false:=decide_eq_false (by omega)
  have G0:=stD h
  clear h
  go_enter Tryz.func53,Tryz.ntmps53
  go_wp2_with fail
  go_region
  clear b0 b1 g1 g2
  go_wp2_with fail
  (with_reducible refine (tN H1 G0).mono ?_);rintro e w1 ⟨rfl,G1⟩
  go_wp2_with fail
  (with_reducible refine (tA H46 G1).mono ?_);rintro e w46 ⟨rfl,G46⟩
  go_wp2_with fail
  go_ret
  exact ⟨rfl,G46.out.g,G46.out.k⟩
end
end Go.Proofs.YthadnhpkeljdoaaGreat.gn
