/- Ground of the law: Gx5, Gx4, PvM, BaOrderM. -/
import Derived.Test.YthadnhpkeljdoaaQh17
import Derived.Test.YthadnhpkeljdoaaQh02
import Derived.Test.YthadnhpkeljdoaaQh13
import Derived.Test.YthadnhpkeljdoaaQh16
import Derived.Test.YthadnhpkeljdoaaQh12
import Derived.Deep.RegionHeld3
import Derived.Deep.Cut
set_option maxRecDepth 100000
set_option maxHeartbeats 8000000
set_option linter.unusedVariables false
set_option linter.unusedSimpArgs false
namespace Go.Proofs.Ythadnhpkeljdoaa.gn
open Go.Lib (hid)
open Go.RowKit Go.Shelf sx ed
section
variable {bs : List Int} {m : Int} {X : Nat}
theorem postOn_ex (hs : Gs bs m X) (hX : X ≤ 100000000000) {d : Int} (hd : d - 1 ≤ m) (hdp : 0 < d) (hd0 : -80 ≤ d) (hd9 : d ≤ 900) (K : Nat) : Ex1 bs (6 * X + 200) 35 d K:=by
 obtain ⟨d1,hd1⟩ : ∃ d1,d - 1 = d1:=⟨_,rfl⟩
 have w1 : wrap64 (d - 1) = d1:=by rw [IntWalk.wrap64_in _ (by omega)];exact hd1
 have w2 : IntKind.i64.wrap (d - 1) = d1:=(IntWalk.i64_left _).trans w1
 have hPipe1:=hid (hs.pipe d1 (by omega) (by omega));have hPost1:=hid (hs.post d1 (by omega) (by omega))
 have hPattern1:=hid (pattern_ex hs (by omega) (d:=d1) (by omega) (by omega) (by omega))
 have hArgs1:=hid (args_ex hs (by omega) (d:=d1) (by omega) (by omega) (by omega));have hObject1:=hid (object_ex hs (by omega) (d:=d1) (by omega) (by omega) (by omega))
 have HX:=hid hX
 have e1 : decide (d ≤ 0) = false:=decide_eq_false (by omega)
 have e2 : ¬ (d ≤ 0):=by omega
 clear hs hX hd hd0 hd9 hd1 hdp
 obtain ⟨z1,K1,hz1,H1⟩:=next_ex (bs:=bs) K 16 16 rfl (by decide) (by decide)
 have hzz : z1 = 0 ∨ z1 = 1 ∨ z1 = 2 ∨ z1 = 3 ∨ z1 = 4 ∨ z1 = 5 ∨ z1 = 6 ∨ z1 = 7 ∨ z1 = 8 ∨ z1 = 9 ∨ z1 = 10 ∨ z1 = 11 ∨ z1 = 12 ∨ z1 = 13 ∨ z1 = 14 ∨ z1 = 15:=by omega
 clear hz1
 rcases hzz with rfl | rfl | rfl | rfl | rfl | rfl | rfl | rfl | rfl | rfl | rfl | rfl | rfl | rfl | rfl | rfl
 ·skip
  obtain ⟨s2,K2,H2⟩:=hPipe1.out K1
  obtain ⟨s3,c3,Z3,q3⟩:=catL ⟨#[91]⟩ s2 1 H2.out.1 rfl (by have:=HX.out;omega)
  obtain ⟨s4,c4,Z4,q4⟩:=catR s3 ⟨#[93]⟩ 1 Z3.out rfl (by have:=HX.out;omega)
  refine ⟨s4,K2,hid ⟨Nat.le_trans Z4.out (by have:=HX.out;omega),fun B ao cap W h=>?_⟩⟩
  have G0:=st0 h
  clear h
  go_enter Try.func35,Try.ntmps35
  go_wp2_with fail
  (with_reducible refine (tN H1 G0).mono ?_);rintro e w1 ⟨rfl,G1⟩
  go_wp2_with fail
  (with_reducible refine (tA H2 G1).mono ?_);rintro e w2 ⟨rfl,G2⟩
  go_wp2_with fail
  go_ret
  exact ⟨rfl,G2.out.g,G2.out.k⟩
 ·skip
  obtain ⟨s5,K5,H5⟩:=hObject1.out K1
  refine ⟨s5,K5,hid ⟨Nat.le_trans H5.out.1 (by have:=HX.out;omega),fun B ao cap W h=>?_⟩⟩
  have G0:=st0 h
  clear h
  go_enter Try.func35,Try.ntmps35
  go_wp2_with fail
  (with_reducible refine (tN H1 G0).mono ?_);rintro e w1 ⟨rfl,G1⟩
  go_wp2_with fail
  (with_reducible refine (tA H5 G1).mono ?_);rintro e w5 ⟨rfl,G5⟩
  go_wp2_with fail
  go_ret
  exact ⟨rfl,G5.out.g,G5.out.k⟩
 ·skip
  obtain ⟨s6,K6,H6⟩:=hPipe1.out K1
  obtain ⟨s7,c7,Z7,q7⟩:=catL ⟨#[105,102,32]⟩ s6 3 H6.out.1 rfl (by have:=HX.out;omega)
  obtain ⟨s8,c8,Z8,q8⟩:=catR s7 ⟨#[32,116,104,101,110,32]⟩ 6 Z7.out rfl (by have:=HX.out;omega)
  obtain ⟨s9,K9,H9⟩:=hPipe1.out K6
  obtain ⟨s10,c10,Z10,q10⟩:=cat s8 s9 Z8.out H9.out.1 (by have:=HX.out;omega)
  obtain ⟨s11,c11,Z11,q11⟩:=catR s10 ⟨#[32,101,108,115,101,32]⟩ 6 Z10.out rfl (by have:=HX.out;omega)
  obtain ⟨s12,K12,H12⟩:=hPipe1.out K9
  obtain ⟨s13,c13,Z13,q13⟩:=cat s11 s12 Z11.out H12.out.1 (by have:=HX.out;omega)
  obtain ⟨s14,c14,Z14,q14⟩:=catR s13 ⟨#[32,101,110,100]⟩ 4 Z13.out rfl (by have:=HX.out;omega)
  refine ⟨s14,K12,hid ⟨Nat.le_trans Z14.out (by have:=HX.out;omega),fun B ao cap W h=>?_⟩⟩
  have G0:=st0 h
  clear h
  go_enter Try.func35,Try.ntmps35
  go_wp2_with fail
  (with_reducible refine (tN H1 G0).mono ?_);rintro e w1 ⟨rfl,G1⟩
  go_wp2_with fail
  (with_reducible refine (tA H6 G1).mono ?_);rintro e w6 ⟨rfl,G6⟩
  go_wp2_with fail
  (with_reducible refine (tA H9 G6).mono ?_);rintro e w9 ⟨rfl,G9⟩
  go_wp2_with fail
  (with_reducible refine (tA H12 G9).mono ?_);rintro e w12 ⟨rfl,G12⟩
  go_wp2_with fail
  go_ret
  exact ⟨rfl,G12.out.g,G12.out.k⟩
 ·skip
  obtain ⟨s15,K15,H15⟩:=hPipe1.out K1
  obtain ⟨s16,c16,Z16,q16⟩:=catL ⟨#[105,102,32]⟩ s15 3 H15.out.1 rfl (by have:=HX.out;omega)
  obtain ⟨s17,c17,Z17,q17⟩:=catR s16 ⟨#[32,116,104,101,110,32,46,32,101,108,105,102,32,49,32,116,104,101,110,32]⟩ 20 Z16.out rfl (by have:=HX.out;omega)
  obtain ⟨s18,K18,H18⟩:=hPipe1.out K15
  obtain ⟨s19,c19,Z19,q19⟩:=cat s17 s18 Z17.out H18.out.1 (by have:=HX.out;omega)
  obtain ⟨s20,c20,Z20,q20⟩:=catR s19 ⟨#[32,101,110,100]⟩ 4 Z19.out rfl (by have:=HX.out;omega)
  refine ⟨s20,K18,hid ⟨Nat.le_trans Z20.out (by have:=HX.out;omega),fun B ao cap W h=>?_⟩⟩
  have G0:=st0 h
  clear h
  go_enter Try.func35,Try.ntmps35
  go_wp2_with fail
  (with_reducible refine (tN H1 G0).mono ?_);rintro e w1 ⟨rfl,G1⟩
  go_wp2_with fail
  (with_reducible refine (tA H15 G1).mono ?_);rintro e w15 ⟨rfl,G15⟩
  go_wp2_with fail
  (with_reducible refine (tA H18 G15).mono ?_);rintro e w18 ⟨rfl,G18⟩
  go_wp2_with fail
  go_ret
  exact ⟨rfl,G18.out.g,G18.out.k⟩
 ·skip
  obtain ⟨s21,K21,H21⟩:=hPost1.out K1
  obtain ⟨s22,c22,Z22,q22⟩:=catL ⟨#[114,101,100,117,99,101,32]⟩ s21 7 H21.out.1 rfl (by have:=HX.out;omega)
  obtain ⟨s23,c23,Z23,q23⟩:=catR s22 ⟨#[32,97,115,32]⟩ 4 Z22.out rfl (by have:=HX.out;omega)
  obtain ⟨s24,K24,H24⟩:=hPattern1.out K21
  obtain ⟨s25,c25,Z25,q25⟩:=cat s23 s24 Z23.out H24.out.1 (by have:=HX.out;omega)
  obtain ⟨s26,c26,Z26,q26⟩:=catR s25 ⟨#[32,40]⟩ 2 Z25.out rfl (by have:=HX.out;omega)
  obtain ⟨s27,K27,H27⟩:=hPipe1.out K24
  obtain ⟨s28,c28,Z28,q28⟩:=cat s26 s27 Z26.out H27.out.1 (by have:=HX.out;omega)
  obtain ⟨s29,c29,Z29,q29⟩:=catR s28 ⟨#[59,32]⟩ 2 Z28.out rfl (by have:=HX.out;omega)
  obtain ⟨s30,K30,H30⟩:=hPipe1.out K27
  obtain ⟨s31,c31,Z31,q31⟩:=cat s29 s30 Z29.out H30.out.1 (by have:=HX.out;omega)
  obtain ⟨s32,c32,Z32,q32⟩:=catR s31 ⟨#[41]⟩ 1 Z31.out rfl (by have:=HX.out;omega)
  refine ⟨s32,K30,hid ⟨Nat.le_trans Z32.out (by have:=HX.out;omega),fun B ao cap W h=>?_⟩⟩
  have G0:=st0 h
  clear h
  go_enter Try.func35,Try.ntmps35
  go_wp2_with fail
  (with_reducible refine (tN H1 G0).mono ?_);rintro e w1 ⟨rfl,G1⟩
  go_wp2_with fail
  (with_reducible refine (tA H21 G1).mono ?_);rintro e w21 ⟨rfl,G21⟩
  go_wp2_with fail
  (with_reducible refine (tA H24 G21).mono ?_);rintro e w24 ⟨rfl,G24⟩
  go_wp2_with fail
  (with_reducible refine (tA H27 G24).mono ?_);rintro e w27 ⟨rfl,G27⟩
  go_wp2_with fail
  (with_reducible refine (tA H30 G27).mono ?_);rintro e w30 ⟨rfl,G30⟩
  go_wp2_with fail
  go_ret
  exact ⟨rfl,G30.out.g,G30.out.k⟩
 ·skip
  obtain ⟨s33,K33,H33⟩:=hPost1.out K1
  obtain ⟨s34,c34,Z34,q34⟩:=catL ⟨#[102,111,114,101,97,99,104,32]⟩ s33 8 H33.out.1 rfl (by have:=HX.out;omega)
  obtain ⟨s35,c35,Z35,q35⟩:=catR s34 ⟨#[32,97,115,32,36]⟩ 5 Z34.out rfl (by have:=HX.out;omega)
  obtain ⟨s36,K36,H36⟩:=name_ex (bs:=bs) K33
  obtain ⟨s37,c37,Z37,q37⟩:=cat s35 s36 Z35.out H36.out.1 (by have:=HX.out;omega)
  obtain ⟨s38,c38,Z38,q38⟩:=catR s37 ⟨#[32,40,48,59,32]⟩ 5 Z37.out rfl (by have:=HX.out;omega)
  obtain ⟨s39,K39,H39⟩:=hPipe1.out K36
  obtain ⟨s40,c40,Z40,q40⟩:=cat s38 s39 Z38.out H39.out.1 (by have:=HX.out;omega)
  obtain ⟨s41,c41,Z41,q41⟩:=catR s40 ⟨#[59,32]⟩ 2 Z40.out rfl (by have:=HX.out;omega)
  obtain ⟨s42,K42,H42⟩:=hPipe1.out K39
  obtain ⟨s43,c43,Z43,q43⟩:=cat s41 s42 Z41.out H42.out.1 (by have:=HX.out;omega)
  obtain ⟨s44,c44,Z44,q44⟩:=catR s43 ⟨#[41]⟩ 1 Z43.out rfl (by have:=HX.out;omega)
  refine ⟨s44,K42,hid ⟨Nat.le_trans Z44.out (by have:=HX.out;omega),fun B ao cap W h=>?_⟩⟩
  have G0:=st0 h
  clear h
  go_enter Try.func35,Try.ntmps35
  go_wp2_with fail
  (with_reducible refine (tN H1 G0).mono ?_);rintro e w1 ⟨rfl,G1⟩
  go_wp2_with fail
  (with_reducible refine (tA H33 G1).mono ?_);rintro e w33 ⟨rfl,G33⟩
  go_wp2_with fail
  (with_reducible refine (tB H36 G33).mono ?_);rintro e w36 ⟨rfl,G36⟩
  go_wp2_with fail
  (with_reducible refine (tA H39 G36).mono ?_);rintro e w39 ⟨rfl,G39⟩
  go_wp2_with fail
  (with_reducible refine (tA H42 G39).mono ?_);rintro e w42 ⟨rfl,G42⟩
  go_wp2_with fail
  go_ret
  exact ⟨rfl,G42.out.g,G42.out.k⟩
 ·skip
  obtain ⟨s45,K45,H45⟩:=name_ex (bs:=bs) K1
  obtain ⟨s46,K46,H46⟩:=hArgs1.out K45
  obtain ⟨s47,c47,Z47,q47⟩:=cat s45 s46 H45.out.1 H46.out.1 (by have:=HX.out;omega)
  refine ⟨s47,K46,hid ⟨Nat.le_trans Z47.out (by have:=HX.out;omega),fun B ao cap W h=>?_⟩⟩
  have G0:=st0 h
  clear h
  go_enter Try.func35,Try.ntmps35
  go_wp2_with fail
  (with_reducible refine (tN H1 G0).mono ?_);rintro e w1 ⟨rfl,G1⟩
  go_wp2_with fail
  (with_reducible refine (tB H45 G1).mono ?_);rintro e w45 ⟨rfl,G45⟩
  go_wp2_with fail
  (with_reducible refine (tA H46 G45).mono ?_);rintro e w46 ⟨rfl,G46⟩
  go_wp2_with fail
  go_ret
  exact ⟨rfl,G46.out.g,G46.out.k⟩
 ·skip
  obtain ⟨s48,K48,H48⟩:=hPipe1.out K1
  obtain ⟨s49,c49,Z49,q49⟩:=catL ⟨#[34,97,92,40]⟩ s48 4 H48.out.1 rfl (by have:=HX.out;omega)
  obtain ⟨s50,c50,Z50,q50⟩:=catR s49 ⟨#[41,98,34]⟩ 3 Z49.out rfl (by have:=HX.out;omega)
  refine ⟨s50,K48,hid ⟨Nat.le_trans Z50.out (by have:=HX.out;omega),fun B ao cap W h=>?_⟩⟩
  have G0:=st0 h
  clear h
  go_enter Try.func35,Try.ntmps35
  go_wp2_with fail
  (with_reducible refine (tN H1 G0).mono ?_);rintro e w1 ⟨rfl,G1⟩
  go_wp2_with fail
  (with_reducible refine (tA H48 G1).mono ?_);rintro e w48 ⟨rfl,G48⟩
  go_wp2_with fail
  go_ret
  exact ⟨rfl,G48.out.g,G48.out.k⟩
 ·skip
  obtain ⟨s51,K51,H51⟩:=hPost1.out K1
  obtain ⟨s52,c52,Z52,q52⟩:=catR s51 ⟨#[91]⟩ 1 H51.out.1 rfl (by have:=HX.out;omega)
  obtain ⟨s53,K53,H53⟩:=hPipe1.out K51
  obtain ⟨s54,c54,Z54,q54⟩:=cat s52 s53 Z52.out H53.out.1 (by have:=HX.out;omega)
  obtain ⟨s55,c55,Z55,q55⟩:=catR s54 ⟨#[93]⟩ 1 Z54.out rfl (by have:=HX.out;omega)
  refine ⟨s55,K53,hid ⟨Nat.le_trans Z55.out (by have:=HX.out;omega),fun B ao cap W h=>?_⟩⟩
  have G0:=st0 h
  clear h
  go_enter Try.func35,Try.ntmps35
  go_wp2_with fail
  (with_reducible refine (tN H1 G0).mono ?_);rintro e w1 ⟨rfl,G1⟩
  go_wp2_with fail
  (with_reducible refine (tA H51 G1).mono ?_);rintro e w51 ⟨rfl,G51⟩
  go_wp2_with fail
  (with_reducible refine (tA H53 G51).mono ?_);rintro e w53 ⟨rfl,G53⟩
  go_wp2_with fail
  go_ret
  exact ⟨rfl,G53.out.g,G53.out.k⟩
 ·skip
  obtain ⟨s56,K56,H56⟩:=hPost1.out K1
  obtain ⟨s57,K57,H57⟩:=of_ex (bs:=bs) K56 #[.string ⟨#[91,93]⟩,.string ⟨#[63]⟩,.string ⟨#[46,98]⟩,.string ⟨#[46,34,99,34]⟩,.string ⟨#[46,91,93]⟩,.string ⟨#[91,49,58,93]⟩,.string ⟨#[91,58,50,93]⟩,.string ⟨#[91,49,58,50,93]⟩,.string ⟨#[46,91,48,93]⟩] 9 5 (by decide) (by decide) rfl rfl
  obtain ⟨s58,c58,Z58,q58⟩:=cat s56 s57 H56.out.1 H57.out.1 (by have:=HX.out;omega)
  refine ⟨s58,K57,hid ⟨Nat.le_trans Z58.out (by have:=HX.out;omega),fun B ao cap W h=>?_⟩⟩
  have G0:=st0 h
  clear h
  go_enter Try.func35,Try.ntmps35
  go_wp2_with fail
  (with_reducible refine (tN H1 G0).mono ?_);rintro e w1 ⟨rfl,G1⟩
  go_wp2_with fail
  (with_reducible refine (tA H56 G1).mono ?_);rintro e w56 ⟨rfl,G56⟩
  go_wp2_with fail
  (with_reducible refine (tO H57 G56).mono ?_);rintro e w57 ⟨rfl,G57⟩
  go_wp2_with fail
  go_ret
  exact ⟨rfl,G57.out.g,G57.out.k⟩
 ·skip
  obtain ⟨s59,K59,H59⟩:=hPipe1.out K1
  obtain ⟨s60,c60,Z60,q60⟩:=catL ⟨#[40]⟩ s59 1 H59.out.1 rfl (by have:=HX.out;omega)
  obtain ⟨s61,c61,Z61,q61⟩:=catR s60 ⟨#[41]⟩ 1 Z60.out rfl (by have:=HX.out;omega)
  refine ⟨s61,K59,hid ⟨Nat.le_trans Z61.out (by have:=HX.out;omega),fun B ao cap W h=>?_⟩⟩
  have G0:=st0 h
  clear h
  go_enter Try.func35,Try.ntmps35
  go_wp2_with fail
  (with_reducible refine (tN H1 G0).mono ?_);rintro e w1 ⟨rfl,G1⟩
  go_wp2_with fail
  (with_reducible refine (tA H59 G1).mono ?_);rintro e w59 ⟨rfl,G59⟩
  go_wp2_with fail
  go_ret
  exact ⟨rfl,G59.out.g,G59.out.k⟩
 ·skip
  obtain ⟨s62,K62,H62⟩:=name_ex (bs:=bs) K1
  obtain ⟨s63,c63,Z63,q63⟩:=catL ⟨#[98,114,101,97,107,32,36]⟩ s62 7 H62.out.1 rfl (by have:=HX.out;omega)
  refine ⟨s63,K62,hid ⟨Nat.le_trans Z63.out (by have:=HX.out;omega),fun B ao cap W h=>?_⟩⟩
  have G0:=st0 h
  clear h
  go_enter Try.func35,Try.ntmps35
  go_wp2_with fail
  (with_reducible refine (tN H1 G0).mono ?_);rintro e w1 ⟨rfl,G1⟩
  go_wp2_with fail
  (with_reducible refine (tB H62 G1).mono ?_);rintro e w62 ⟨rfl,G62⟩
  go_wp2_with fail
  go_ret
  exact ⟨rfl,G62.out.g,G62.out.k⟩
 all_goals
  obtain ⟨s64,K64,H64⟩:=name_ex (bs:=bs) K1
  refine ⟨s64,K64,hid ⟨Nat.le_trans H64.out.1 (by have:=HX.out;omega),fun B ao cap W h=>?_⟩⟩
  have G0:=st0 h
  clear h
  go_enter Try.func35,Try.ntmps35
  go_wp2_with fail
  (with_reducible refine (tN H1 G0).mono ?_);rintro e w1 ⟨rfl,G1⟩
  go_wp2_with fail
  (with_reducible refine (tB H64 G1).mono ?_);rintro e w64 ⟨rfl,G64⟩
  go_wp2_with fail
  go_ret
  exact ⟨rfl,G64.out.g,G64.out.k⟩
end
end Go.Proofs.Ythadnhpkeljdoaa.gn
namespace Go.Proofs.Ythadnhpkeljdoaa.gn
open Go.Lib (hid)
open Go.RowKit Go.Shelf sx ed
section
variable {bs : List Int} {m : Int} {X : Nat}
theorem pipeOn_ex (hs : Gs bs m X) (hX : X ≤ 100000000000) {d : Int} (hd : d - 1 ≤ m) (hdp : 0 < d) (hd0 : -80 ≤ d) (hd9 : d ≤ 900) (K : Nat) (hK : K < bs.length) : Ex1 bs (6 * X + 200) 22 d K:=by
 obtain ⟨d1,hd1⟩ : ∃ d1,d - 1 = d1:=⟨_,rfl⟩
 have w1 : wrap64 (d - 1) = d1:=by rw [IntWalk.wrap64_in _ (by omega)];exact hd1
 have w2 : IntKind.i64.wrap (d - 1) = d1:=(IntWalk.i64_left _).trans w1
 have hPipe1:=hid (hs.pipe d1 (by omega) (by omega));have hPost1:=hid (hs.post d1 (by omega) (by omega))
 have hPattern1:=hid (pattern_ex hs (by omega) (d:=d1) (by omega) (by omega) (by omega))
 have HX:=hid hX
 have e1 : decide (d ≤ 0) = false:=decide_eq_false (by omega)
 have e2 : ¬ (d ≤ 0):=by omega
 clear hs hX hd hd0 hd9 hd1 hdp
 obtain ⟨z1,K1,hz1,H1⟩:=next_ex (bs:=bs) K 14 14 rfl (by decide) (by decide)
 have hzz : z1 = 0 ∨ z1 = 1 ∨ z1 = 2 ∨ z1 = 3 ∨ z1 = 4 ∨ z1 = 5 ∨ z1 = 6 ∨ z1 = 7 ∨ z1 = 8 ∨ z1 = 9 ∨ z1 = 10 ∨ z1 = 11 ∨ z1 = 12 ∨ z1 = 13:=by omega
 clear hz1
 rcases hzz with rfl | rfl | rfl | rfl | rfl | rfl | rfl | rfl | rfl | rfl | rfl | rfl | rfl | rfl
 iterate 3
  ·skip
   obtain ⟨s2,K2,H2⟩:=hPipe1.out K1
   obtain ⟨s3,c3,Z3,q3⟩:=catR s2 ⟨#[32]⟩ 1 H2.out.1 rfl (by have:=HX.out;omega)
   obtain ⟨s4,K4,H4⟩:=of_ex (bs:=bs) K2 #[.string ⟨#[124]⟩,.string ⟨#[44]⟩,.string ⟨#[43]⟩,.string ⟨#[45]⟩,.string ⟨#[42]⟩,.string ⟨#[47,47]⟩,.string ⟨#[97,110,100]⟩,.string ⟨#[111,114]⟩,.string ⟨#[61,61]⟩,.string ⟨#[61]⟩,.string ⟨#[124,61]⟩,.string ⟨#[60]⟩] 12 3 (by decide) (by decide) rfl rfl
   obtain ⟨s5,c5,Z5,q5⟩:=cat s3 s4 Z3.out H4.out.1 (by have:=HX.out;omega)
   obtain ⟨s6,c6,Z6,q6⟩:=catR s5 ⟨#[32]⟩ 1 Z5.out rfl (by have:=HX.out;omega)
   obtain ⟨s7,K7,H7⟩:=hPipe1.out K4
   obtain ⟨s8,c8,Z8,q8⟩:=cat s6 s7 Z6.out H7.out.1 (by have:=HX.out;omega)
   refine ⟨s8,K7,hid ⟨Nat.le_trans Z8.out (by have:=HX.out;omega),fun B ao cap W h=>?_⟩⟩
   have b0:=h.box.cell 0;have b1:=h.box.cell 1
   have g1 : decide ((bs.length : Int) ≤ (K : Int)) = false:=decide_eq_false (by omega)
   have g2 : decide (bs.length ≤ K) = false:=decide_eq_false (by omega)
   have G0:=stD h
   clear h
   go_enter Try.func22,Try.ntmps22
   go_wp2_with fail
   go_region
   clear b0 b1 g1 g2
   go_wp2_with fail
   (with_reducible refine (tN H1 G0).mono ?_);rintro e w1 ⟨rfl,G1⟩
   go_wp2_with fail
   (with_reducible refine (tA H2 G1).mono ?_);rintro e w2 ⟨rfl,G2⟩
   go_wp2_with fail
   (with_reducible refine (tO H4 G2).mono ?_);rintro e w4 ⟨rfl,G4⟩
   go_wp2_with fail
   (with_reducible refine (tA H7 G4).mono ?_);rintro e w7 ⟨rfl,G7⟩
   go_wp2_with fail
   go_ret
   exact ⟨rfl,G7.out.g,G7.out.k⟩
 ·skip
  obtain ⟨s9,K9,H9⟩:=hPipe1.out K1
  obtain ⟨s10,c10,Z10,q10⟩:=catL ⟨#[40]⟩ s9 1 H9.out.1 rfl (by have:=HX.out;omega)
  obtain ⟨s11,c11,Z11,q11⟩:=catR s10 ⟨#[41]⟩ 1 Z10.out rfl (by have:=HX.out;omega)
  refine ⟨s11,K9,hid ⟨Nat.le_trans Z11.out (by have:=HX.out;omega),fun B ao cap W h=>?_⟩⟩
  have b0:=h.box.cell 0;have b1:=h.box.cell 1
  have g1 : decide ((bs.length : Int) ≤ (K : Int)) = false:=decide_eq_false (by omega)
  have g2 : decide (bs.length ≤ K) = false:=decide_eq_false (by omega)
  have G0:=stD h
  clear h
  go_enter Try.func22,Try.ntmps22
  go_wp2_with fail
  go_region
  clear b0 b1 g1 g2
  go_wp2_with fail
  (with_reducible refine (tN H1 G0).mono ?_);rintro e w1 ⟨rfl,G1⟩
  go_wp2_with fail
  (with_reducible refine (tA H9 G1).mono ?_);rintro e w9 ⟨rfl,G9⟩
  go_wp2_with fail
  go_ret
  exact ⟨rfl,G9.out.g,G9.out.k⟩
 ·skip
  obtain ⟨s12,K12,H12⟩:=hPost1.out K1
  obtain ⟨s13,c13,Z13,q13⟩:=catR s12 ⟨#[32,97,115,32]⟩ 4 H12.out.1 rfl (by have:=HX.out;omega)
  obtain ⟨s14,K14,H14⟩:=hPattern1.out K12
  obtain ⟨s15,c15,Z15,q15⟩:=cat s13 s14 Z13.out H14.out.1 (by have:=HX.out;omega)
  obtain ⟨s16,c16,Z16,q16⟩:=catR s15 ⟨#[32,124,32]⟩ 3 Z15.out rfl (by have:=HX.out;omega)
  obtain ⟨s17,K17,H17⟩:=hPipe1.out K14
  obtain ⟨s18,c18,Z18,q18⟩:=cat s16 s17 Z16.out H17.out.1 (by have:=HX.out;omega)
  refine ⟨s18,K17,hid ⟨Nat.le_trans Z18.out (by have:=HX.out;omega),fun B ao cap W h=>?_⟩⟩
  have b0:=h.box.cell 0;have b1:=h.box.cell 1
  have g1 : decide ((bs.length : Int) ≤ (K : Int)) = false:=decide_eq_false (by omega)
  have g2 : decide (bs.length ≤ K) = false:=decide_eq_false (by omega)
  have G0:=stD h
  clear h
  go_enter Try.func22,Try.ntmps22
  go_wp2_with fail
  go_region
  clear b0 b1 g1 g2
  go_wp2_with fail
  (with_reducible refine (tN H1 G0).mono ?_);rintro e w1 ⟨rfl,G1⟩
  go_wp2_with fail
  (with_reducible refine (tA H12 G1).mono ?_);rintro e w12 ⟨rfl,G12⟩
  go_wp2_with fail
  (with_reducible refine (tA H14 G12).mono ?_);rintro e w14 ⟨rfl,G14⟩
  go_wp2_with fail
  (with_reducible refine (tA H17 G14).mono ?_);rintro e w17 ⟨rfl,G17⟩
  go_wp2_with fail
  go_ret
  exact ⟨rfl,G17.out.g,G17.out.k⟩
 ·skip
  obtain ⟨s19,K19,H19⟩:=name_ex (bs:=bs) K1
  obtain ⟨s20,c20,Z20,q20⟩:=catL ⟨#[100,101,102,32]⟩ s19 4 H19.out.1 rfl (by have:=HX.out;omega)
  obtain ⟨s21,K21,H21⟩:=params_ex (bs:=bs) K19
  obtain ⟨s22,c22,Z22,q22⟩:=cat s20 s21 Z20.out H21.out.1 (by have:=HX.out;omega)
  obtain ⟨s23,c23,Z23,q23⟩:=catR s22 ⟨#[58,32]⟩ 2 Z22.out rfl (by have:=HX.out;omega)
  obtain ⟨s24,K24,H24⟩:=hPipe1.out K21
  obtain ⟨s25,c25,Z25,q25⟩:=cat s23 s24 Z23.out H24.out.1 (by have:=HX.out;omega)
  obtain ⟨s26,c26,Z26,q26⟩:=catR s25 ⟨#[59,32]⟩ 2 Z25.out rfl (by have:=HX.out;omega)
  obtain ⟨s27,K27,H27⟩:=hPipe1.out K24
  obtain ⟨s28,c28,Z28,q28⟩:=cat s26 s27 Z26.out H27.out.1 (by have:=HX.out;omega)
  refine ⟨s28,K27,hid ⟨Nat.le_trans Z28.out (by have:=HX.out;omega),fun B ao cap W h=>?_⟩⟩
  have b0:=h.box.cell 0;have b1:=h.box.cell 1
  have g1 : decide ((bs.length : Int) ≤ (K : Int)) = false:=decide_eq_false (by omega)
  have g2 : decide (bs.length ≤ K) = false:=decide_eq_false (by omega)
  have G0:=stD h
  clear h
  go_enter Try.func22,Try.ntmps22
  go_wp2_with fail
  go_region
  clear b0 b1 g1 g2
  go_wp2_with fail
  (with_reducible refine (tN H1 G0).mono ?_);rintro e w1 ⟨rfl,G1⟩
  go_wp2_with fail
  (with_reducible refine (tB H19 G1).mono ?_);rintro e w19 ⟨rfl,G19⟩
  go_wp2_with fail
  (with_reducible refine (tB H21 G19).mono ?_);rintro e w21 ⟨rfl,G21⟩
  go_wp2_with fail
  (with_reducible refine (tA H24 G21).mono ?_);rintro e w24 ⟨rfl,G24⟩
  go_wp2_with fail
  (with_reducible refine (tA H27 G24).mono ?_);rintro e w27 ⟨rfl,G27⟩
  go_wp2_with fail
  go_ret
  exact ⟨rfl,G27.out.g,G27.out.k⟩
 ·skip
  obtain ⟨s29,K29,H29⟩:=hPipe1.out K1
  obtain ⟨s30,c30,Z30,q30⟩:=catL ⟨#[45]⟩ s29 1 H29.out.1 rfl (by have:=HX.out;omega)
  refine ⟨s30,K29,hid ⟨Nat.le_trans Z30.out (by have:=HX.out;omega),fun B ao cap W h=>?_⟩⟩
  have b0:=h.box.cell 0;have b1:=h.box.cell 1
  have g1 : decide ((bs.length : Int) ≤ (K : Int)) = false:=decide_eq_false (by omega)
  have g2 : decide (bs.length ≤ K) = false:=decide_eq_false (by omega)
  have G0:=stD h
  clear h
  go_enter Try.func22,Try.ntmps22
  go_wp2_with fail
  go_region
  clear b0 b1 g1 g2
  go_wp2_with fail
  (with_reducible refine (tN H1 G0).mono ?_);rintro e w1 ⟨rfl,G1⟩
  go_wp2_with fail
  (with_reducible refine (tA H29 G1).mono ?_);rintro e w29 ⟨rfl,G29⟩
  go_wp2_with fail
  go_ret
  exact ⟨rfl,G29.out.g,G29.out.k⟩
 ·skip
  obtain ⟨s31,K31,H31⟩:=name_ex (bs:=bs) K1
  obtain ⟨s32,c32,Z32,q32⟩:=catL ⟨#[108,97,98,101,108,32,36]⟩ s31 7 H31.out.1 rfl (by have:=HX.out;omega)
  obtain ⟨s33,c33,Z33,q33⟩:=catR s32 ⟨#[32,124,32]⟩ 3 Z32.out rfl (by have:=HX.out;omega)
  obtain ⟨s34,K34,H34⟩:=hPipe1.out K31
  obtain ⟨s35,c35,Z35,q35⟩:=cat s33 s34 Z33.out H34.out.1 (by have:=HX.out;omega)
  refine ⟨s35,K34,hid ⟨Nat.le_trans Z35.out (by have:=HX.out;omega),fun B ao cap W h=>?_⟩⟩
  have b0:=h.box.cell 0;have b1:=h.box.cell 1
  have g1 : decide ((bs.length : Int) ≤ (K : Int)) = false:=decide_eq_false (by omega)
  have g2 : decide (bs.length ≤ K) = false:=decide_eq_false (by omega)
  have G0:=stD h
  clear h
  go_enter Try.func22,Try.ntmps22
  go_wp2_with fail
  go_region
  clear b0 b1 g1 g2
  go_wp2_with fail
  (with_reducible refine (tN H1 G0).mono ?_);rintro e w1 ⟨rfl,G1⟩
  go_wp2_with fail
  (with_reducible refine (tB H31 G1).mono ?_);rintro e w31 ⟨rfl,G31⟩
  go_wp2_with fail
  (with_reducible refine (tA H34 G31).mono ?_);rintro e w34 ⟨rfl,G34⟩
  go_wp2_with fail
  go_ret
  exact ⟨rfl,G34.out.g,G34.out.k⟩
 ·skip
  obtain ⟨s36,K36,H36⟩:=hPost1.out K1
  obtain ⟨s37,c37,Z37,q37⟩:=catL ⟨#[116,114,121,32]⟩ s36 4 H36.out.1 rfl (by have:=HX.out;omega)
  obtain ⟨z38,K38,hz38,H38⟩:=next_ex (bs:=bs) K36 2 2 rfl (by decide) (by decide)
  have hzz : z38 = 0 ∨ z38 = 1:=by omega
  clear hz38
  rcases hzz with rfl | rfl
  ·skip
   refine ⟨s37,K38,hid ⟨Nat.le_trans Z37.out (by have:=HX.out;omega),fun B ao cap W h=>?_⟩⟩
   have b0:=h.box.cell 0;have b1:=h.box.cell 1
   have g1 : decide ((bs.length : Int) ≤ (K : Int)) = false:=decide_eq_false (by omega)
   have g2 : decide (bs.length ≤ K) = false:=decide_eq_false (by omega)
   have G0:=stD h
   clear h
   go_enter Try.func22,Try.ntmps22
   go_wp2_with fail
   go_region
   clear b0 b1 g1 g2
   go_wp2_with fail
   (with_reducible refine (tN H1 G0).mono ?_);rintro e w1 ⟨rfl,G1⟩
   go_wp2_with fail
   (with_reducible refine (tA H36 G1).mono ?_);rintro e w36 ⟨rfl,G36⟩
   go_wp2_with fail
   (with_reducible refine (tN H38 G36).mono ?_);rintro e w38 ⟨rfl,G38⟩
   go_wp2_with fail
   go_ret
   exact ⟨rfl,G38.out.g,G38.out.k⟩
  ·skip
   obtain ⟨s39,c39,Z39,q39⟩:=catR s37 ⟨#[32,99,97,116,99,104,32]⟩ 7 Z37.out rfl (by have:=HX.out;omega)
   obtain ⟨s40,K40,H40⟩:=hPost1.out K38
   obtain ⟨s41,c41,Z41,q41⟩:=cat s39 s40 Z39.out H40.out.1 (by have:=HX.out;omega)
   refine ⟨s41,K40,hid ⟨Nat.le_trans Z41.out (by have:=HX.out;omega),fun B ao cap W h=>?_⟩⟩
   have b0:=h.box.cell 0;have b1:=h.box.cell 1
   have g1 : decide ((bs.length : Int) ≤ (K : Int)) = false:=decide_eq_false (by omega)
   have g2 : decide (bs.length ≤ K) = false:=decide_eq_false (by omega)
   have G0:=stD h
   clear h
   go_enter Try.func22,Try.ntmps22
   go_wp2_with fail
   go_region
   clear b0 b1 g1 g2
   go_wp2_with fail
   (with_reducible refine (tN H1 G0).mono ?_);rintro e w1 ⟨rfl,G1⟩
   go_wp2_with fail
   (with_reducible refine (tA H36 G1).mono ?_);rintro e w36 ⟨rfl,G36⟩
   go_wp2_with fail
   (with_reducible refine (tN H38 G36).mono ?_);rintro e w38 ⟨rfl,G38⟩
   go_wp2_with fail
   (with_reducible refine (tA H40 G38).mono ?_);rintro e w40 ⟨rfl,G40⟩
   go_wp2_with fail
   go_ret
   exact ⟨rfl,G40.out.g,G40.out.k⟩
 ·skip
  obtain ⟨s42,K42,H42⟩:=hPost1.out K1
  obtain ⟨s43,c43,Z43,q43⟩:=catR s42 ⟨#[32,35,32,110,10,32,124,32]⟩ 8 H42.out.1 rfl (by have:=HX.out;omega)
  obtain ⟨s44,K44,H44⟩:=hPipe1.out K42
  obtain ⟨s45,c45,Z45,q45⟩:=cat s43 s44 Z43.out H44.out.1 (by have:=HX.out;omega)
  refine ⟨s45,K44,hid ⟨Nat.le_trans Z45.out (by have:=HX.out;omega),fun B ao cap W h=>?_⟩⟩
  have b0:=h.box.cell 0;have b1:=h.box.cell 1
  have g1 : decide ((bs.length : Int) ≤ (K : Int)) = false:=decide_eq_false (by omega)
  have g2 : decide (bs.length ≤ K) = false:=decide_eq_false (by omega)
  have G0:=stD h
  clear h
  go_enter Try.func22,Try.ntmps22
  go_wp2_with fail
  go_region
  clear b0 b1 g1 g2
  go_wp2_with fail
  (with_reducible refine (tN H1 G0).mono ?_);rintro e w1 ⟨rfl,G1⟩
  go_wp2_with fail
  (with_reducible refine (tA H42 G1).mono ?_);rintro e w42 ⟨rfl,G42⟩
  go_wp2_with fail
  (with_reducible refine (tA H44 G42).mono ?_);rintro e w44 ⟨rfl,G44⟩
  go_wp2_with fail
  go_ret
  exact ⟨rfl,G44.out.g,G44.out.k⟩
 all_goals
  obtain ⟨s46,K46,H46⟩:=hPost1.out K1
  refine ⟨s46,K46,hid ⟨Nat.le_trans H46.out.1 (by have:=HX.out;omega),fun B ao cap W h=>?_⟩⟩
  have b0:=h.box.cell 0;have b1:=h.box.cell 1
  have g1 : decide ((bs.length : Int) ≤ (K : Int)) = false:=decide_eq_false (by omega)
  have g2 : decide (bs.length ≤ K) = false:=decide_eq_false (by omega)
  have G0:=stD h
  clear h
  go_enter Try.func22,Try.ntmps22
  go_wp2_with fail
  go_region
  clear b0 b1 g1 g2
  go_wp2_with fail
  (with_reducible refine (tN H1 G0).mono ?_);rintro e w1 ⟨rfl,G1⟩
  go_wp2_with fail
  (with_reducible refine (tA H46 G1).mono ?_);rintro e w46 ⟨rfl,G46⟩
  go_wp2_with fail
  go_ret
  exact ⟨rfl,G46.out.g,G46.out.k⟩
end
end Go.Proofs.Ythadnhpkeljdoaa.gn
namespace Go.Proofs.Ythadnhpkeljdoaa.pv
open Go.RowKit
def putM (dst : Option Tmp) (d : D) (m : Mem) : Mem :=
  match dst with
  | none=>m
  | some t=>(0,t,d) :: m
def putD (n : Nat) (dst : Option Tmp) (d : D) (m : Mem) (K : Mem → Prop) : Prop :=
  match dst with
  | none=>K m
  | some t=>bif (t + 1).ble n then K ((0,t,d) :: m) else False
def guardD (ops : Array Oper) (g : Option (Nat × Bool)) (m : Mem) (A B : Mem → Prop) : Prop :=
  match g with
  | none=>A m
  | some (j,want)=>match (ops[j]?).bind (·.dst) with
    | some t=>(match look m 0 t with
      | .v (.bool b)=>(match b with
        | true=>bif want then A ((0,t,.v (.bool true)) :: m) else B ((0,t,.v (.bool true)) :: m)
        | false=>bif want then B ((0,t,.v (.bool false)) :: m) else A ((0,t,.v (.bool false)) :: m))
      | .und=>B m
      | _=>False)
    | none=>False
def dops (E : Env) (ops : Array Oper) (nx : Nat) : List Oper → Nat → Mem → (Mem → Prop) → Prop
  | [],_,m,K=>K m
  | o :: r,i,m,K=>guardD ops o.guard m
      (fun m=>opP E (nx + i) o m fun d ws=>putD E.n o.dst d (ws ++ m) fun m=>dops E ops nx r (i + 1) m K)
      (fun m=>putD E.n o.dst .und m fun m=>dops E ops nx r (i + 1) m K)
def Leq (m m' : Mem) : Prop:=∀ x y,look m x y = look m' x y
theorem Leq.refl (m : Mem) : Leq m m:=fun _ _=>rfl
theorem Leq.symm {m m' : Mem} (h : Leq m m') : Leq m' m:=fun x y=>(h x y).symm
theorem Leq.trans {m m' m'' : Mem} (h : Leq m m') (h' : Leq m' m'') : Leq m m'':=fun x y=>(h x y).trans (h' x y)
theorem Leq.app {m m' : Mem} (h : Leq m m') (p : Mem) : Leq (p ++ m) (p ++ m'):=fun x y=>by rw [look_app,look_app,h x y]
theorem Sim.leq {n : Nat} {G : Gh} {m m' : Mem} {a : Act} {w : World} (h : Sim n G m a w) (e : Leq m m') : Sim n G m' a w :=
  ⟨h.tm,h.df,fun t=>by rw [← e];exact h.slot t,⟨fun b g ty n hb i x hx=>by rw [← e];exact h.cells.val b g ty n hb i x hx,fun b i hi=>by rw [← e];exact h.cells.out b i hi⟩,fun t n ht=>h.toks t n (by rw [e];exact ht),h.ok⟩
theorem leq_lit {m : Mem} {t : Nat} {d : D} (h : look m 0 t = d) : Leq m ((0,t,d) :: m):=fun x y=>by
  rw [look_cons]
  split
  · rename_i e;obtain ⟨rfl,rfl⟩:=e;exact h
  · rfl
def wantD (ops : Array Oper) (g : Option (Nat × Bool)) (m : Mem) : Option Bool :=
  match g with
  | none=>some true
  | some (j,want)=>match (ops[j]?).bind (·.dst) with
    | some t=>(match look m 0 t with
      | .v (.bool b)=>some (b == want)
      | .und=>some false
      | _=>none)
    | none=>none
theorem guardD_out {ops : Array Oper} {g : Option (Nat × Bool)} {m : Mem} {A B : Mem → Prop} (h : guardD ops g m A B) : ∃ m',Leq m m' ∧ ((wantD ops g m = some true ∧ A m') ∨ (wantD ops g m = some false ∧ B m')):=by
  unfold guardD at h
  unfold wantD
  split at h
  · exact ⟨m,.refl m,.inl ⟨rfl,h⟩⟩
  · rename_i j want
    split at h
    · rename_i t ht
      split at h
      · rename_i b e
        cases b <;> cases want
        · exact ⟨_,leq_lit e,.inl ⟨by simp [e],h⟩⟩
        · exact ⟨_,leq_lit e,.inr ⟨by simp [e],h⟩⟩
        · exact ⟨_,leq_lit e,.inr ⟨by simp [e],h⟩⟩
        · exact ⟨_,leq_lit e,.inl ⟨by simp [e],h⟩⟩
      · rename_i e
        exact ⟨m,.refl m,.inr ⟨by simp [e],h⟩⟩
      · exact h.elim
    · exact h.elim
theorem rep_und {G : Gh} {w : World} {x : Value} (h : Rep G w x .und) : x = undef:=by
  cases h with
  | v h=>cases h with
    | c h=>cases h
  | und=>rfl
theorem want_sound {n : Nat} {G : Gh} {m : Mem} {a : Act} {w : World} {ops : Array Oper} {o : Oper} {b : Bool} (h : Sim n G m a w) (hw : wantD ops o.guard m = some b) : Region.wanted o (yielded ops a.tmps) = b:=by
  unfold wantD at hw
  unfold Region.wanted
  split at hw
  · rename_i e;rw [e];cases hw;rfl
  · rename_i j want e
    rw [e]
    split at hw
    · rename_i t ht
      have hs:=h.slot t
      show (yielded ops a.tmps j == some want) = b
      unfold yielded
      rw [ht]
      simp only [Option.bind_some]
      split at hw
      · rename_i c ec
        cases hw
        rw [ec] at hs
        obtain ⟨e1,_⟩:=rep_v hs
        have : a.tmps[t]? = some (.bool c):=by
          rw [Array.getD_eq_getD_getElem?] at e1
          cases hq : a.tmps[t]? with
          | none=>rw [hq] at e1;cases e1
          | some v=>rw [hq] at e1;exact congrArg some e1
        rw [this]
        cases c <;> cases want <;> rfl
      · rename_i ec
        cases hw
        rw [ec] at hs
        have e1 : a.tmps.getD t undef = undef:=rep_und hs
        have : ∀ c,a.tmps[t]? ≠ some (.bool c):=fun c hc=>by
          rw [Array.getD_eq_getD_getElem?,hc] at e1;cases e1
        cases hq : a.tmps[t]? with
        | none=>rfl
        | some v =>
          cases v <;> first | rfl | (exact absurd hq (this _))
      · cases hw
    · cases hw
section
variable {P : Program} {E : Env} {G : Gh} {m : Mem} {a : Act} {w : World} {o : Oper} {id : Nat}
structure Run (E : Env) (w0 : World) (I : Nat → Nat → Prop) (fr : Nat → Prop) (G : Gh) (m : Mem) (a : Act) (w : World) : Prop where
  sim : Sim E.n G m a w
  base : G.base = w0.heap.size
  below : Below w0.heap.size w0 w
  imm : ∀ g i,I g i → G.imm g i
  immo : ∀ g i,g < w0.heap.size → G.imm g i → I g i
  fresh : ∀ u,fr u → G.box u = none ∧ G.tok u = none
theorem Run.leq {w0 : World} {I : Nat → Nat → Prop} {fr : Nat → Prop} {m' : Mem} (h : Run E w0 I fr G m a w) (e : Leq m m') : Run E w0 I fr G m' a w:={ h with sim:=h.sim.leq e }
theorem Run.less {w0 : World} {I : Nat → Nat → Prop} {fr fr' : Nat → Prop} (h : Run E w0 I fr G m a w) (e : ∀ u,fr' u → fr u) : Run E w0 I fr' G m a w:={ h with fresh:=fun u hu=>h.fresh u (e u hu) }
theorem sim_put {n : Nat} (h : Sim n G m a w) {dst : Option Tmp} {v : Value} {d : D} (hv : Rep G w v d) (hd : ∀ t,dst = some t → t < n) : Sim n G (putM dst d m) (a.put dst v) w:=by
  cases dst with
  | none=>exact h
  | some t =>
    have hlt:=hd t rfl
    show Sim n G ((0,t,d) :: m) (a.put (some t) v) w
    refine ⟨by simp [Act.put,h.tm],h.df,fun u=>?_,⟨fun b g ty n hb i x hx=>?_,fun b i hi=>?_⟩,fun u q hq=>?_,h.ok⟩
    · rw [look_cons]
      show Rep G w ((a.tmps.setIfInBounds t v).getD u undef) _
      by_cases e : t = u
      · subst e
        rw [if_pos ⟨rfl,rfl⟩]
        have : (a.tmps.setIfInBounds t v).getD t undef = v:=by
          rw [Array.getD_eq_getD_getElem?,Array.getElem?_setIfInBounds_self]
          simp [h.tm,hlt]
        rw [this];exact hv
      · rw [if_neg (fun h=>e h.2)]
        have : (a.tmps.setIfInBounds t v).getD u undef = a.tmps.getD u undef:=by
          rw [Array.getD_eq_getD_getElem?,Array.getElem?_setIfInBounds_ne e,← Array.getD_eq_getD_getElem?]
        rw [this];exact h.slot u
    · rw [look_cons,if_neg (by omega)];exact h.cells.val b g ty n hb i x hx
    · rw [look_cons,if_neg (by omega)];exact h.cells.out b i hi
    · rw [look_cons,if_neg (by omega)] at hq;exact h.toks u q hq
theorem sim_after {n : Nat} (h : Sim n G m a w) {G' : Gh} {w' : World} {ws : Mem} (ha : After G w id ws G' w') : Sim n G' (ws ++ m) a w' :=
  ⟨h.tm,h.df,fun t=>by rw [ha.slot];exact (h.slot t).mono ha.step,ha.cells m h.cells,ha.toks m h.toks,ha.ok⟩
theorem run_after {w0 : World} {I : Nat → Nat → Prop} {fr fr' : Nat → Prop} (h : Run E w0 I fr G m a w) {G' : Gh} {w' : World} {ws : Mem} {d : D} {v : Value} {dst : Option Tmp} (ha : After G w id ws G' w') (hv : Rep G' w' v d) (hd : ∀ t,dst = some t → t < E.n) (hf : ∀ u,fr' u → fr u ∧ u ≠ id) :
    Run E w0 I fr' G' (putM dst d (ws ++ m)) (a.put dst v) w':=by
  refine ⟨sim_put (sim_after h.sim ha) hv hd,ha.base.trans h.base,h.below.trans (by rw [← h.base];exact ha.below),fun g i hi=>ha.step.imm g i (h.imm g i hi),fun g i hg hi=>h.immo g i hg (ha.immo g i (by rw [h.base];exact hg) hi),fun u hu=>?_⟩
  obtain ⟨h1,h2⟩:=hf u hu
  obtain ⟨h3,h4⟩:=h.fresh u h1
  constructor
  · cases hb : G'.box u with
    | none=>rfl
    | some x =>
      rcases ha.box u x hb with e | e
      · rw [h3] at e;cases e
      · exact absurd e h2
  · cases hb : G'.tok u with
    | none=>rfl
    | some x =>
      rcases ha.tokf u x hb with ⟨T',e⟩ | e
      · rw [h4] at e;cases e
      · exact absurd e h2
theorem run_und {w0 : World} {I : Nat → Nat → Prop} {fr : Nat → Prop} (h : Run E w0 I fr G m a w) {dst : Option Tmp} (hd : ∀ t,dst = some t → t < E.n) : Run E w0 I fr G (putM dst .und m) (a.put dst undef) w :=
  { h with sim:=sim_put h.sim .und hd }
theorem putD_out {n : Nat} {dst : Option Tmp} {d : D} {m : Mem} {K : Mem → Prop} (h : putD n dst d m K) : (∀ t,dst = some t → t < n) ∧ K (putM dst d m):=by
  cases dst with
  | none=>exact ⟨(fun t e=>by cases e),h⟩
  | some t =>
    have h : (bif (t + 1).ble n then K ((0,t,d) :: m) else False):=h
    cases hb : (t + 1).ble n with
    | false=>rw [hb] at h;exact h.elim
    | true =>
      rw [hb] at h
      exact ⟨(fun u e=>by cases e;exact Nat.le_of_ble_eq_true hb),h⟩
theorem dops_sound (hE : EnvOk P E) {ops : Array Oper} {nx : Nat} {Q : Exit → Act → World → Prop} {w0 : World} {I : Nat → Nat → Prop} {K : Mem → Prop} : ∀ (l : List Oper) (i : Nat) (m : Mem) (G : Gh) (a : Act) (w : World),dops E ops nx l i m K → Run E w0 I (fun u=>nx + i ≤ u) G m a w →
    (∀ G' m' a' w',K m' → Run E w0 I (fun u=>nx + i + l.length ≤ u) G' m' a' w' → Q .normal a' w') → wpList P ops Q l a w
  | [],i,m,G,a,w,hd,hr,hQ=>hQ G m a w hd hr
  | o :: r,i,m,G,a,w,hd,hr,hQ=>by
    unfold dops at hd
    obtain ⟨m',hm,hd⟩:=guardD_out hd
    have hr':=hr.leq hm
    unfold wpList
    rcases hd with ⟨hw,hd⟩ | ⟨hw,hd⟩
    · have hwt:=want_sound hr.sim hw
      rw [if_pos hwt]
      left
      obtain ⟨d,ws,hs,hk⟩:=opP_out hE hd
      obtain ⟨hdst,hk⟩:=putD_out hk
      obtain ⟨f1,f2⟩:=hr'.fresh (nx + i) (Nat.le_refl _)
      refine op_sound hE hr'.sim f1 f2 hs _ _ fun v G' w' ha hv=>?_
      exact dops_sound hE r (i + 1) _ G' _ w' hk (run_after hr' ha hv hdst (fun u (hu : nx + (i + 1) ≤ u)=>⟨show nx + i ≤ u by omega,by omega⟩)) fun G'' m'' a'' w'' hK hR=>hQ G'' m'' a'' w'' hK (hR.less fun u hu=>by simp only [List.length_cons] at hu;show nx + (i + 1) + r.length ≤ u;omega)
    · have hwt:=want_sound hr.sim hw
      rw [if_neg (by rw [hwt];simp)]
      obtain ⟨hdst,hk⟩:=putD_out hd
      exact dops_sound hE r (i + 1) _ G _ w hk ((run_und hr' hdst).less fun u (hu : nx + (i + 1) ≤ u)=>show nx + i ≤ u by omega) fun G'' m'' a'' w'' hK hR=>hQ G'' m'' a'' w'' hK (hR.less fun u hu=>by simp only [List.length_cons] at hu;show nx + (i + 1) + r.length ≤ u;omega)
end
end Go.Proofs.Ythadnhpkeljdoaa.pv
namespace Go.Proofs.Ythadnhpkeljdoaa.nd
open Go.RowKit
theorem sub_step {a b : List Int} {r rest : List (List Int)} (h : (b :: r).Sublist (a :: rest)) : (a = b → r.Sublist rest) ∧ (a ≠ b → (b :: r).Sublist rest):=by
 cases h with
 | cons _ h=>exact ⟨fun _=>(List.sublist_cons_self b r).trans h,fun _=>h⟩
 | cons_cons _ h=>exact ⟨fun _=>h,fun e=>absurd rfl e⟩
theorem brackets_sub (x : Nd) : ((x.walkB []).map fun y=>ints y.1).Sublist (x.paths.map ints):=by
 rw [← Nd.walk_paths,List.map_map]
 exact List.Sublist.map _ List.filter_sublist
end Go.Proofs.Ythadnhpkeljdoaa.nd
