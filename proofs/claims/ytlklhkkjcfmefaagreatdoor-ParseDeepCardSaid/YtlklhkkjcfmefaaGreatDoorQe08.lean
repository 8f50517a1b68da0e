/- Ground of the law: SgFns3, PaMono, PrTable. -/
import Derived.Test.YtlklhkkjcfmefaaGreatDoorQe07
import Derived.Test.YtlklhkkjcfmefaaGreatDoorQe03
import Derived.Carry
set_option maxRecDepth 100000
set_option maxHeartbeats 8000000
set_option linter.unusedVariables false
set_option linter.unusedSimpArgs false
namespace Go.Proofs.YtlklhkkjcfmefaaGreatDoor.sg
open Go.Lib (hid)
open Go.RowKit Go.Shelf
theorem pre_one (l : List UInt8) (a : Nat) (b : UInt8) : Lib.hasPrefix (l.drop a) [b] = Sg.at' (fun n=>n == (b.toNat : Int)) l a:=by
 unfold Sg.at'
 by_cases h : a < l.length
 ·rw [Sg.drop_head h,decide_eq_true h,Bool.true_and]
  unfold Lib.hasPrefix
  rw [Bool.eq_iff_iff]
  simp only [List.isPrefixOf,Bool.and_true,beq_iff_eq]
  constructor
  ·intro e;rw [← e]
  ·intro e;exact UInt8.toNat_inj.1 (by omega)
 ·rw [List.drop_eq_nil_of_le (by omega),decide_eq_false h,Bool.false_and];rfl
theorem decimal_calls (s : ByteArray) (hs : s.size ≤ 140737488351232) (w : World) :
  Calls Tryz.prog 207 #[.string s] w fun e w'=>e = .returned (.int .i64 (Sg.decimal s.data.toList : Nat)) ∧ w = w':=by
 have hr:=digit_run w s hs
 have hrl:=Sg.run_le Sg.cD s.data.toList
 have hb:=hid (Sg.decimal_le s.data.toList)
 rw [lst_len] at hrl
 have HD:=hid (show Sg.decimal s.data.toList = if Sg.at' (· == 46) s.data.toList (Sg.run Sg.cD s.data.toList) then (if Sg.run Sg.cD s.data.toList + Sg.run Sg.cD (s.data.toList.drop (Sg.run Sg.cD s.data.toList + 1)) = 0 then 0 else Sg.run Sg.cD s.data.toList + 1 + Sg.run Sg.cD (s.data.toList.drop (Sg.run Sg.cD s.data.toList + 1))) else Sg.run Sg.cD s.data.toList from rfl)
 obtain ⟨a,ha⟩ : ∃ a,Sg.run Sg.cD s.data.toList = a:=⟨_,rfl⟩
 rw [ha] at hr hrl HD
 clear ha
 have hle : (a : Int) ≤ (s.size : Int):=by omega
 have hle0 : (0 : Int) ≤ (a : Int):=by omega
 have hc:=Tryz.strings_CutPrefix (s.extract a s.size) ⟨#[46]⟩ w
 rw [show (⟨#[46]⟩ : ByteArray).data.toList = [46] from rfl,extract_drop,pre_one] at hc
 change Calls _ _ _ _ (fun e w'=>e = .returned (.tuple #[_,.bool (Sg.at' (· == 46) s.data.toList a)]) ∧ w' = w) at hc
 cases hv : Sg.at' (· == 46) s.data.toList a with
 | false =>
  rw [hv] at hc HD
  clear hv
  go_enter Tryz.func207,Tryz.ntmps207
  go_wp2_with fail
  ((with_reducible refine hr.mono ?_);rintro e w1 ⟨rfl,rfl⟩)
  go_wp2_with fail
  ((with_reducible refine hc.mono ?_);rintro e w1 ⟨rfl,rfl⟩)
  go_wp2_with fail
  go_ret
  exact ⟨by rw [HD.out];rfl,rfl⟩
 | true =>
  have hlt : a < s.size:=by have:=Sg.at_lt hv;rwa [lst_len] at this
  have hp : Lib.hasPrefix (s.data.toList.drop a) [46] = true:=by rw [pre_one];exact hv
  rw [trim_true hp,hv,List.drop_drop] at hc
  simp only [List.length_cons,List.length_nil,Nat.zero_add] at hc
  rw [hv] at HD
  have hsz : (⟨(s.data.toList.drop (a + 1)).toArray⟩ : ByteArray).size ≤ 140737488351232:=by
   show (s.data.toList.drop (a + 1)).toArray.size ≤ _
   simp;omega
  have hr2:=digit_run w ⟨(s.data.toList.drop (a + 1)).toArray⟩ hsz
  rw [show ((⟨(s.data.toList.drop (a + 1)).toArray⟩ : ByteArray).data.toList) = s.data.toList.drop (a + 1) from by simp] at hr2
  have hrl2:=Sg.run_le Sg.cD (s.data.toList.drop (a + 1))
  rw [List.length_drop,lst_len] at hrl2
  obtain ⟨b,hb2⟩ : ∃ b,Sg.run Sg.cD (s.data.toList.drop (a + 1)) = b:=⟨_,rfl⟩
  rw [hb2] at hr2 hrl2 HD
  clear hb2 hp hv hsz
  have w1 : wrap64 ((a : Int) + (b : Int)) = ((a + b : Nat) : Int):=by rw [IntWalk.wrap64_in];rfl;omega
  have w1' : IntKind.i64.wrap ((a : Int) + (b : Int)) = ((a + b : Nat) : Int):=(IntWalk.i64_left _).trans w1
  have w2 : wrap64 ((a : Int) + 1) = ((a + 1 : Nat) : Int):=by rw [IntWalk.wrap64_in];rfl;omega
  have w2' : IntKind.i64.wrap ((a : Int) + 1) = ((a + 1 : Nat) : Int):=(IntWalk.i64_left _).trans w2
  have w3 : wrap64 (((a + 1 : Nat) : Int) + (b : Int)) = ((a + 1 + b : Nat) : Int):=by rw [IntWalk.wrap64_in];rfl;omega
  have w3' : IntKind.i64.wrap (((a + 1 : Nat) : Int) + (b : Int)) = ((a + 1 + b : Nat) : Int):=(IntWalk.i64_left _).trans w3
  by_cases h0 : a + b = 0
  ·have HX:=hid (HD.out.trans ((if_pos rfl).trans (if_pos h0)))
   have t0 : (((a + b : Nat) : Int) == 0) = true:=by rw [beq_iff_eq];omega
   go_enter Tryz.func207,Tryz.ntmps207
   go_wp2_with fail
   ((with_reducible refine hr.mono ?_);rintro e w1 ⟨rfl,rfl⟩)
   go_wp2_with fail
   ((with_reducible refine hc.mono ?_);rintro e w1 ⟨rfl,rfl⟩)
   go_wp2_with fail
   ((with_reducible refine hr2.mono ?_);rintro e w1 ⟨rfl,rfl⟩)
   go_wp2_with fail
   go_ret
   exact ⟨by rw [HX.out];rfl,rfl⟩
  ·have HX:=hid (HD.out.trans ((if_pos rfl).trans (if_neg h0)))
   have t0 : (((a + b : Nat) : Int) == 0) = false:=by rw [beq_eq_false_iff_ne];omega
   go_enter Tryz.func207,Tryz.ntmps207
   go_wp2_with fail
   ((with_reducible refine hr.mono ?_);rintro e w1 ⟨rfl,rfl⟩)
   go_wp2_with fail
   ((with_reducible refine hc.mono ?_);rintro e w1 ⟨rfl,rfl⟩)
   go_wp2_with fail
   ((with_reducible refine hr2.mono ?_);rintro e w1 ⟨rfl,rfl⟩)
   go_wp2_with fail
   go_ret
   exact ⟨by rw [HX.out];rfl,rfl⟩
theorem exponent_calls (s : ByteArray) (hs : s.size ≤ 140737488351232) (w : World) :
  Calls Tryz.prog 208 #[.string s] w fun e w'=>e = .returned (.int .i64 (Sg.exponent s.data.toList : Nat)) ∧ Below w.heap.size w w':=by
 have ha:=fun w=>of_at ⟨#[101,69]⟩ _ tells_e w s 0 (Int.le_refl _)
 have hg:=fun w B hB=>of_atB ⟨#[43,45]⟩ _ tells_sign w B hB s 1 (by decide)
 rw [show (0 : Int).toNat = 0 from rfl] at ha
 rw [show (1 : Int).toNat = 1 from rfl] at hg
 have HE:=hid (show Sg.exponent s.data.toList = if Sg.at' (fun n=>n == 101 || n == 69) s.data.toList 0 then (if Sg.run Sg.cD (s.data.toList.drop (Sg.signs s.data.toList)) = 0 then 0 else Sg.signs s.data.toList + Sg.run Sg.cD (s.data.toList.drop (Sg.signs s.data.toList))) else 0 from rfl)
 cases hv : Sg.at' (fun n=>n == 101 || n == 69) s.data.toList 0 with
 | false =>
  rw [hv] at HE ha
  clear hv hg
  go_enter Tryz.func208,Tryz.ntmps208
  go_wp2_with fail
  ((with_reducible refine (of_calls _ _).mono ?_);rintro e w1 ⟨rfl,rfl⟩)
  go_wp2_with fail
  ((with_reducible refine (ha _).mono ?_);rintro e w1 ⟨rfl,rfl⟩)
  go_wp2_with fail
  go_ret
  exact ⟨by rw [HE.out];rfl,below_of _ _⟩
 | true =>
  have hsl:=Sg.signs_le s.data.toList hv
  rw [lst_len] at hsl
  have hsg : Sg.signs s.data.toList = if Sg.at' (fun n=>n == 43 || n == 45) s.data.toList 1 then 2 else 1:=rfl
  rw [hv] at HE ha
  obtain ⟨k,hk⟩ : ∃ k,Sg.signs s.data.toList = k:=⟨_,rfl⟩
  rw [hk] at HE hsl hsg
  clear hk hv
  have hrl:=Sg.run_le Sg.cD (s.data.toList.drop k)
  rw [List.length_drop,lst_len] at hrl
  have hr:=fun w=>digit_run w (s.extract k s.size) (ext_size _ _ hs)
  rw [extract_drop] at hr
  obtain ⟨d,hd⟩ : ∃ d,Sg.run Sg.cD (s.data.toList.drop k) = d:=⟨_,rfl⟩
  rw [hd] at HE hrl hr
  clear hd
  have b2 : Below w.heap.size w ((w.alloc (.cells #[.string ⟨#[101,69]⟩] 9)).alloc (.cells #[.string ⟨#[43,45]⟩] 9)):=(below_of w _).alloc (by simp) _
  have kle : (k : Int) ≤ (s.size : Int):=by omega
  have w1 : wrap64 ((k : Int) + (d : Int)) = ((k + d : Nat) : Int):=by rw [IntWalk.wrap64_in];rfl;omega
  have w1' : IntKind.i64.wrap ((k : Int) + (d : Int)) = ((k + d : Nat) : Int):=(IntWalk.i64_left _).trans w1
  have fin : ∀ (q : Bool),Sg.at' (fun n=>n == 43 || n == 45) s.data.toList 1 = q → True:=fun _ _=>trivial
  cases hq : Sg.at' (fun n=>n == 43 || n == 45) s.data.toList 1 with
  | true =>
   rw [hq] at hsg hg
   obtain rfl : k = 2:=hsg
   clear hq
   by_cases h0 : d = 0
   ·have HX:=hid (HE.out.trans ((if_pos rfl).trans (if_pos h0)))
    subst h0
    go_enter Tryz.func208,Tryz.ntmps208
    go_wp2_with fail
    ((with_reducible refine (of_calls _ _).mono ?_);rintro e w1 ⟨rfl,rfl⟩)
    go_wp2_with fail
    ((with_reducible refine (ha _).mono ?_);rintro e w1 ⟨rfl,rfl⟩)
    go_wp2_with fail
    ((with_reducible refine (of_calls _ _).mono ?_);rintro e w1 ⟨rfl,rfl⟩)
    go_wp2_with fail
    ((with_reducible refine (hg (w.alloc _) (w.heap.size + 1) (by rw [World.size_alloc])).mono ?_);rintro e w1 ⟨rfl,rfl⟩)
    go_wp2_with fail
    ((with_reducible refine (hr _).mono ?_);rintro e w1 ⟨rfl,rfl⟩)
    go_wp2_with fail
    go_ret
    exact ⟨by rw [HX.out];rfl,b2⟩
   ·have HX:=hid (HE.out.trans ((if_pos rfl).trans (if_neg h0)))
    have t0 : ((d : Int) == 0) = false:=by rw [beq_eq_false_iff_ne];omega
    go_enter Tryz.func208,Tryz.ntmps208
    go_wp2_with fail
    ((with_reducible refine (of_calls _ _).mono ?_);rintro e w1 ⟨rfl,rfl⟩)
    go_wp2_with fail
    ((with_reducible refine (ha _).mono ?_);rintro e w1 ⟨rfl,rfl⟩)
    go_wp2_with fail
    ((with_reducible refine (of_calls _ _).mono ?_);rintro e w1 ⟨rfl,rfl⟩)
    go_wp2_with fail
    ((with_reducible refine (hg (w.alloc _) (w.heap.size + 1) (by rw [World.size_alloc])).mono ?_);rintro e w1 ⟨rfl,rfl⟩)
    go_wp2_with fail
    ((with_reducible refine (hr _).mono ?_);rintro e w1 ⟨rfl,rfl⟩)
    go_wp2_with fail
    go_ret
    exact ⟨by rw [HX.out];rfl,b2⟩
  | false =>
   rw [hq] at hsg hg
   obtain rfl : k = 1:=hsg
   clear hq
   by_cases h0 : d = 0
   ·have HX:=hid (HE.out.trans ((if_pos rfl).trans (if_pos h0)))
    subst h0
    go_enter Tryz.func208,Tryz.ntmps208
    go_wp2_with fail
    ((with_reducible refine (of_calls _ _).mono ?_);rintro e w1 ⟨rfl,rfl⟩)
    go_wp2_with fail
    ((with_reducible refine (ha _).mono ?_);rintro e w1 ⟨rfl,rfl⟩)
    go_wp2_with fail
    ((with_reducible refine (of_calls _ _).mono ?_);rintro e w1 ⟨rfl,rfl⟩)
    go_wp2_with fail
    ((with_reducible refine (hg (w.alloc _) (w.heap.size + 1) (by rw [World.size_alloc])).mono ?_);rintro e w1 ⟨rfl,rfl⟩)
    go_wp2_with fail
    ((with_reducible refine (hr _).mono ?_);rintro e w1 ⟨rfl,rfl⟩)
    go_wp2_with fail
    go_ret
    exact ⟨by rw [HX.out];rfl,b2⟩
   ·have HX:=hid (HE.out.trans ((if_pos rfl).trans (if_neg h0)))
    have t0 : ((d : Int) == 0) = false:=by rw [beq_eq_false_iff_ne];omega
    go_enter Tryz.func208,Tryz.ntmps208
    go_wp2_with fail
    ((with_reducible refine (of_calls _ _).mono ?_);rintro e w1 ⟨rfl,rfl⟩)
    go_wp2_with fail
    ((with_reducible refine (ha _).mono ?_);rintro e w1 ⟨rfl,rfl⟩)
    go_wp2_with fail
    ((with_reducible refine (of_calls _ _).mono ?_);rintro e w1 ⟨rfl,rfl⟩)
    go_wp2_with fail
    ((with_reducible refine (hg (w.alloc _) (w.heap.size + 1) (by rw [World.size_alloc])).mono ?_);rintro e w1 ⟨rfl,rfl⟩)
    go_wp2_with fail
    ((with_reducible refine (hr _).mono ?_);rintro e w1 ⟨rfl,rfl⟩)
    go_wp2_with fail
    go_ret
    exact ⟨by rw [HX.out];rfl,b2⟩
theorem number_calls (s : ByteArray) (hs : s.size ≤ 140737488351232) (w : World) :
  Calls Tryz.prog 178 #[.string s] w fun e w'=>e = .returned (.int .i64 (Sg.number s.data.toList : Nat)) ∧ Below w.heap.size w w':=by
 have hd:=decimal_calls s hs w
 have hdl:=Sg.decimal_le s.data.toList
 rw [lst_len] at hdl
 have HN:=hid (show Sg.number s.data.toList = if Sg.decimal s.data.toList = 0 then 0 else Sg.decimal s.data.toList + Sg.exponent (s.data.toList.drop (Sg.decimal s.data.toList)) from rfl)
 obtain ⟨a,ha⟩ : ∃ a,Sg.decimal s.data.toList = a:=⟨_,rfl⟩
 rw [ha] at hd hdl HN
 clear ha
 by_cases h0 : a = 0
 ·have HX:=hid (HN.out.trans (if_pos h0))
  subst h0
  go_enter Tryz.func178,Tryz.ntmps178
  go_wp2_with fail
  ((with_reducible refine hd.mono ?_);rintro e w1 ⟨rfl,rfl⟩)
  go_wp2_with fail
  go_ret
  exact ⟨by rw [HX.out];rfl,Below.refl _ _⟩
 ·have HX:=hid (HN.out.trans (if_neg h0))
  have t0 : ((a : Int) == 0) = false:=by rw [beq_eq_false_iff_ne];omega
  have hx:=exponent_calls (s.extract a s.size) (ext_size _ _ hs) w
  rw [extract_drop] at hx
  have hxl:=Sg.exponent_le (s.data.toList.drop a)
  rw [List.length_drop,lst_len] at hxl
  obtain ⟨b,hb⟩ : ∃ b,Sg.exponent (s.data.toList.drop a) = b:=⟨_,rfl⟩
  rw [hb] at hx hxl HX
  clear hb
  have hle : (a : Int) ≤ (s.size : Int):=by omega
  have w1 : wrap64 ((a : Int) + (b : Int)) = ((a + b : Nat) : Int):=by rw [IntWalk.wrap64_in];rfl;omega
  have w1' : IntKind.i64.wrap ((a : Int) + (b : Int)) = ((a + b : Nat) : Int):=(IntWalk.i64_left _).trans w1
  go_enter Tryz.func178,Tryz.ntmps178
  go_wp2_with fail
  ((with_reducible refine hd.mono ?_);rintro e w1 ⟨rfl,rfl⟩)
  go_wp2_with fail
  ((with_reducible refine hx.mono ?_);rintro e w1 ⟨rfl,hb1⟩)
  go_wp2_with fail
  go_ret
  exact ⟨by rw [HX.out];rfl,hb1⟩
theorem pre_two (l : List UInt8) (x y : UInt8) : Lib.hasPrefix l [x,y] = (Sg.at' (fun n=>n == (x.toNat : Int)) l 0 && Sg.at' (fun n=>n == (y.toNat : Int)) l 1):=by
 have h0:=pre_one l 0 x
 have h1:=pre_one l 1 y
 rw [← h1]
 rw [List.drop_zero] at h0
 rw [← h0]
 cases l with
 | nil=>rfl
 | cons a r=>simp [Lib.hasPrefix,List.isPrefixOf]
theorem escape_calls (s : ByteArray) (hs : s.size ≤ 140737488351232) (w : World) :
  Calls Tryz.prog 211 #[.string s] w fun e w'=>e = .returned (.int .i64 (Sg.escape s.data.toList : Nat)) ∧ Below w.heap.size w w':=by
 have hp:=fun w=>Tryz.strings_HasPrefix s ⟨#[92]⟩ w
 have hp2:=fun w=>Tryz.strings_HasPrefix s ⟨#[92,117]⟩ w
 have e1:=pre_one s.data.toList 0 92
 rw [List.drop_zero] at e1
 have e2:=pre_two s.data.toList 92 117
 rw [show (⟨#[92]⟩ : ByteArray).data.toList = [92] from rfl,e1] at hp
 rw [show (⟨#[92,117]⟩ : ByteArray).data.toList = [92,117] from rfl,e2] at hp2
 change ∀ w,Calls _ _ _ _ (fun e w'=>e = .returned (.bool (Sg.at' (· == 92) s.data.toList 0)) ∧ w' = w) at hp
 change ∀ w,Calls _ _ _ _ (fun e w'=>e = .returned (.bool (Sg.at' (· == 92) s.data.toList 0 && Sg.at' (· == 117) s.data.toList 1)) ∧ w' = w) at hp2
 have ha:=fun w=>of_at ⟨#[34,92,47,98,102,110,114,116]⟩ _ tells_esc w s 1 (by decide)
 rw [show (1 : Int).toNat = 1 from rfl] at ha
 have HE:=hid (show Sg.escape s.data.toList = if Sg.at' (· == 92) s.data.toList 0 then (if Sg.at' Sg.cE s.data.toList 1 then 2 else if Sg.at' (· == 117) s.data.toList 1 && decide (4 ≤ Sg.run Sg.cH (s.data.toList.drop 2)) then 6 else 0) else 0 from rfl)
 cases h1 : Sg.at' (· == 92) s.data.toList 0 with
 | false =>
  rw [h1] at HE
  have HX:=hid (HE.out.trans (if_neg (by decide)))
  simp only [h1] at hp
  clear e1 e2 h1 hp2 ha HE
  go_enter Tryz.func211,Tryz.ntmps211
  go_wp2_with fail
  ((with_reducible refine (hp _).mono ?_);rintro e w1 ⟨rfl,rfl⟩)
  go_wp2_with fail
  go_ret
  exact ⟨by rw [HX.out];rfl,Below.refl _ _⟩
 | true =>
  rw [h1] at HE
  have HX:=hid (HE.out.trans (if_pos rfl))
  simp only [h1,Bool.true_and] at hp hp2
  clear e1 e2 HE
  cases h2 : Sg.at' Sg.cE s.data.toList 1 with
  | true =>
   rw [h2] at HX
   have HY:=hid (HX.out.trans (if_pos rfl))
   simp only [h2] at ha
   clear h1 h2 HX hp2
   go_enter Tryz.func211,Tryz.ntmps211
   go_wp2_with fail
   ((with_reducible refine (hp _).mono ?_);rintro e w1 ⟨rfl,rfl⟩)
   go_wp2_with fail
   ((with_reducible refine (of_calls _ _).mono ?_);rintro e w1 ⟨rfl,rfl⟩)
   go_wp2_with fail
   ((with_reducible refine (ha _).mono ?_);rintro e w1 ⟨rfl,rfl⟩)
   go_wp2_with fail
   go_ret
   exact ⟨by rw [HY.out];rfl,below_of _ _⟩
  | false =>
   rw [h2] at HX
   have HY:=hid (HX.out.trans (if_neg (by decide)))
   simp only [h2] at ha
   clear HX h2
   cases h3 : Sg.at' (· == 117) s.data.toList 1 with
   | false =>
    rw [h3] at HY
    have HZ:=hid (HY.out.trans (if_neg (by simp)))
    simp only [h3] at hp2
    clear h1 h3 HY
    go_enter Tryz.func211,Tryz.ntmps211
    go_wp2_with fail
    ((with_reducible refine (hp _).mono ?_);rintro e w1 ⟨rfl,rfl⟩)
    go_wp2_with fail
    ((with_reducible refine (of_calls _ _).mono ?_);rintro e w1 ⟨rfl,rfl⟩)
    go_wp2_with fail
    ((with_reducible refine (ha _).mono ?_);rintro e w1 ⟨rfl,rfl⟩)
    go_wp2_with fail
    ((with_reducible refine (hp2 _).mono ?_);rintro e w1 ⟨rfl,rfl⟩)
    go_wp2_with fail
    go_ret
    exact ⟨by rw [HZ.out];rfl,below_of _ _⟩
   | true =>
    rw [h3,Bool.true_and] at HY
    simp only [h3] at hp2
    have hlt:=Sg.at_lt h3
    rw [lst_len] at hlt
    have hx:=fun w=>hexes_calls (s.extract 2 s.size) (ext_size _ _ hs) w
    simp only [extract_drop] at hx
    have hrl:=Sg.run_le Sg.cH (s.data.toList.drop 2)
    rw [List.length_drop,lst_len] at hrl
    obtain ⟨d,hd⟩ : ∃ d,Sg.run Sg.cH (s.data.toList.drop 2) = d:=⟨_,rfl⟩
    rw [hd] at HY hrl
    simp only [hd] at hx
    clear hd h1 h3
    have hle : (2 : Int) ≤ (s.size : Int):=by omega
    by_cases h4 : 4 ≤ d
    ·have HZ:=hid (HY.out.trans (if_pos (decide_eq_true h4)))
     have t4 : decide ((4 : Int) ≤ (d : Int)) = true:=decide_eq_true (by omega)
     clear HY
     go_enter Tryz.func211,Tryz.ntmps211
     go_wp2_with fail
     ((with_reducible refine (hp _).mono ?_);rintro e w1 ⟨rfl,rfl⟩)
     go_wp2_with fail
     ((with_reducible refine (of_calls _ _).mono ?_);rintro e w1 ⟨rfl,rfl⟩)
     go_wp2_with fail
     ((with_reducible refine (ha _).mono ?_);rintro e w1 ⟨rfl,rfl⟩)
     go_wp2_with fail
     ((with_reducible refine (hp2 _).mono ?_);rintro e w1 ⟨rfl,rfl⟩)
     go_wp2_with fail
     ((with_reducible refine (hx _).mono ?_);rintro e w1 ⟨rfl,hb1⟩)
     go_wp2_with fail
     go_ret
     exact ⟨by rw [HZ.out];rfl,Below.next (below_of _ _) hb1 (Nat.le_refl _)⟩
    ·have HZ:=hid (HY.out.trans (if_neg (by simpa using h4)))
     have t4 : decide ((4 : Int) ≤ (d : Int)) = false:=decide_eq_false (by omega)
     clear HY
     go_enter Tryz.func211,Tryz.ntmps211
     go_wp2_with fail
     ((with_reducible refine (hp _).mono ?_);rintro e w1 ⟨rfl,rfl⟩)
     go_wp2_with fail
     ((with_reducible refine (of_calls _ _).mono ?_);rintro e w1 ⟨rfl,rfl⟩)
     go_wp2_with fail
     ((with_reducible refine (ha _).mono ?_);rintro e w1 ⟨rfl,rfl⟩)
     go_wp2_with fail
     ((with_reducible refine (hp2 _).mono ?_);rintro e w1 ⟨rfl,rfl⟩)
     go_wp2_with fail
     ((with_reducible refine (hx _).mono ?_);rintro e w1 ⟨rfl,hb1⟩)
     go_wp2_with fail
     go_ret
     exact ⟨by rw [HZ.out];rfl,Below.next (below_of _ _) hb1 (Nat.le_refl _)⟩
end Go.Proofs.YtlklhkkjcfmefaaGreatDoor.sg
namespace Go.Proofs.YtlklhkkjcfmefaaGreatDoor.pa
open Go.RowKit nd pr
namespace Pa
def Le {α : Type} : Pa α → Pa α → Prop
 | out,_=>True
 | ret x,ret y=>x = y
 | bad,bad=>True
 | look k,look k'=>∀ t,(k t).Le (k' t)
 | peek k,peek k'=>∀ t,(k t).Le (k' t)
 | ended k,ended k'=>∀ t,(k t).Le (k' t)
 | move k,move k'=>k.Le k'
 | _,_=>False
theorem Le.refl {α : Type} : ∀ p : Pa α,p.Le p
 | out=>trivial
 | ret x=>rfl
 | bad=>trivial
 | look k=>fun t=>Le.refl (k t)
 | peek k=>fun t=>Le.refl (k t)
 | ended k=>fun t=>Le.refl (k t)
 | move k=>Le.refl k
theorem Le.trans {α : Type} : ∀ {p q s : Pa α},p.Le q → q.Le s → p.Le s
 | out,_,_,_,_=>trivial
 | ret x,ret y,ret z,h,h'=>Eq.trans (show x = y from h) h'
 | bad,bad,bad,_,_=>trivial
 | look k,look k',look k'',h,h'=>fun t=>Le.trans (h t) (h' t)
 | peek k,peek k',peek k'',h,h'=>fun t=>Le.trans (h t) (h' t)
 | ended k,ended k',ended k'',h,h'=>fun t=>Le.trans (h t) (h' t)
 | move k,move k',move k'',h,h'=>Le.trans (p:=k) (q:=k') (s:=k'') h h'
theorem Le.run {α : Type} : ∀ {p q : Pa α},p.Le q → ∀ {r : List Tk} {o : Out α},p.run r = some o → q.run r = some o
 | out,_,_,_,_,h=>by cases h
 | ret x,ret y,e,_,_,h=>by cases (show x = y from e);exact h
 | bad,bad,_,_,_,h=>h
 | look k,look k',e,r,_,h=>Le.run (p:=k (tok r)) (q:=k' (tok r)) (e (tok r)) (r:=r) h
 | peek k,peek k',e,r,_,h=>Le.run (p:=k (tok r.tail)) (q:=k' (tok r.tail)) (e (tok r.tail)) (r:=r) h
 | ended k,ended k',e,r,_,h=>Le.run (p:=k r.isEmpty) (q:=k' r.isEmpty) (e r.isEmpty) (r:=r) h
 | move k,move k',e,r,_,h=>Le.run (p:=k) (q:=k') e (r:=r.tail) h
theorem Le.bind {α β : Type} {f g : α → Pa β} (hf : ∀ x,(f x).Le (g x)) : ∀ (p q : Pa α),p.Le q → (p.bind f).Le (q.bind g)
 | out,_,_=>trivial
 | ret x,ret y,e=>by cases (show x = y from e);exact hf x
 | bad,bad,_=>trivial
 | look k,look k',e=>fun t=>Le.bind hf (k t) (k' t) (e t)
 | peek k,peek k',e=>fun t=>Le.bind hf (k t) (k' t) (e t)
 | ended k,ended k',e=>fun t=>Le.bind hf (k t) (k' t) (e t)
 | move k,move k',e=>Le.bind hf k k' e
end Pa
section
variable {α : Type}
theorem need_le {s : ByteArray} {k k' : Pa α} (h : k.Le k') : (need s k).Le (need s k'):=fun t=>by dsimp only;split;exact h;exact trivial
theorem one_le {kd : Int} {k k' : Pa α} (h : k.Le k') : (one kd k).Le (one kd k'):=fun t=>by dsimp only;split;exact h;exact trivial
theorem text_le {kd : Int} {k k' : ByteArray → Pa α} (h : ∀ s,(k s).Le (k' s)) : (text kd k).Le (text kd k'):=fun t=>by dsimp only;split;exact h _;exact trivial
theorem name_le {k k' : ByteArray → Pa α} (h : ∀ s,(k s).Le (k' s)) : (name k).Le (name k'):=fun t=>by dsimp only;split;exact h _;exact trivial
theorem if_le {c : Prop} [Decidable c] {p q p' q' : Pa α} (h1 : p.Le p') (h2 : q.Le q') : (if c then p else q).Le (if c then p' else q'):=by
 split
 ·exact h1
 ·exact h2
theorem ret_le (x : α) : (Pa.ret x).Le (Pa.ret x):=rfl
theorem look_le {k k' : Tk → Pa α} (h : ∀ t,(k t).Le (k' t)) : (Pa.look k).Le (Pa.look k'):=h
theorem peek_le {k k' : Tk → Pa α} (h : ∀ t,(k t).Le (k' t)) : (Pa.peek k).Le (Pa.peek k'):=h
theorem ended_le {k k' : Bool → Pa α} (h : ∀ t,(k t).Le (k' t)) : (Pa.ended k).Le (Pa.ended k'):=h
theorem move_le {k k' : Pa α} (h : k.Le k') : (Pa.move k).Le (Pa.move k'):=h
end
theorem step_le {rec rec' : (f : Fn) → Pa (Res f)} (h : ∀ f,(rec f).Le (rec' f)) : ∀ f,(step rec f).Le (step rec' f):=by
 intro f
 have h_exp : ∀ (l : Int),Pa.Le (rec (.exp l) : Pa (Nd)) (rec' (.exp l)):=fun l=>h (.exp l)
 have h_expL : ∀ (l : Int) (x : Nd) (b : Int),Pa.Le (rec (.expL l x b) : Pa (Nd)) (rec' (.expL l x b)):=fun l x b=>h (.expL l x b)
 have h_operand : Pa.Le (rec (.operand) : Pa (Nd)) (rec' (.operand)):=h (.operand)
 have h_params : Pa.Le (rec (.params) : Pa (List Nd)) (rec' (.params)):=h (.params)
 have h_deff : ∀ (b : Bool),Pa.Le (rec (.deff b) : Pa (Nd)) (rec' (.deff b)):=fun b=>h (.deff b)
 have h_within : ∀ (x : Nd) (d : ByteArray),Pa.Le (rec (.within x d) : Pa (Nd)) (rec' (.within x d)):=fun x d=>h (.within x d)
 have h_slice : ∀ (x : Nd) (f : Nd) (d : ByteArray),Pa.Le (rec (.slice x f d) : Pa (Nd)) (rec' (.slice x f d)):=fun x f d=>h (.slice x f d)
 have h_post : Pa.Le (rec (.post) : Pa (Nd)) (rec' (.post)):=h (.post)
 have h_postL : ∀ (x : Nd),Pa.Le (rec (.postL x) : Pa (Nd)) (rec' (.postL x)):=fun x=>h (.postL x)
 have h_str : Pa.Le (rec (.str) : Pa (Nd)) (rec' (.str)):=h (.str)
 have h_strF : ∀ (f : ByteArray),Pa.Le (rec (.strF f) : Pa (Nd)) (rec' (.strF f)):=fun f=>h (.strF f)
 have h_strL : Pa.Le (rec (.strL) : Pa (List Nd)) (rec' (.strL)):=h (.strL)
 have h_term : Pa.Le (rec (.term) : Pa (Nd)) (rec' (.term)):=h (.term)
 have h_bracket : Pa.Le (rec (.bracket) : Pa (Nd)) (rec' (.bracket)):=h (.bracket)
 have h_pairs : Pa.Le (rec (.pairs) : Pa (List Nd)) (rec' (.pairs)):=h (.pairs)
 have h_worded : Pa.Le (rec (.worded) : Pa (Nd)) (rec' (.worded)):=h (.worded)
 have h_args : Pa.Le (rec (.args) : Pa (List Nd)) (rec' (.args)):=h (.args)
 have h_ifs : Pa.Le (rec (.ifs) : Pa (List Nd)) (rec' (.ifs)):=h (.ifs)
 have h_fold : ∀ (k : Int) (b : Bool),Pa.Le (rec (.fold k b) : Pa (Nd)) (rec' (.fold k b)):=fun k b=>h (.fold k b)
 have h_key : ∀ (p : Bool),Pa.Le (rec (.key p) : Pa (Nd × Bool)) (rec' (.key p)):=fun p=>h (.key p)
 have h_pair : Pa.Le (rec (.pair) : Pa (Nd)) (rec' (.pair)):=h (.pair)
 have h_value : Pa.Le (rec (.value) : Pa (Nd)) (rec' (.value)):=h (.value)
 have h_unit : Pa.Le (rec (.unit) : Pa (Nd)) (rec' (.unit)):=h (.unit)
 have h_keypat : Pa.Le (rec (.keypat) : Pa (Nd)) (rec' (.keypat)):=h (.keypat)
 have h_pattern : Pa.Le (rec (.pattern) : Pa (Nd)) (rec' (.pattern)):=h (.pattern)
 have h_elems : ∀ (b : Bool),Pa.Le (rec (.elems b) : Pa (List Nd)) (rec' (.elems b)):=fun b=>h (.elems b)
 have h_bring : Pa.Le (rec (.bring) : Pa (Nd)) (rec' (.bring)):=h (.bring)
 have h_plainL : Pa.Le (rec (.plainL) : Pa (List Nd)) (rec' (.plainL)):=h (.plainL)
 have h_brings : Pa.Le (rec (.brings) : Pa (List Nd)) (rec' (.brings)):=h (.brings)
 clear h
 cases f <;> simp only [step]
 all_goals
  repeat (first
   | with_reducible exact h_exp _
   | with_reducible exact h_expL _ _ _
   | with_reducible exact h_operand
   | with_reducible exact h_params
   | with_reducible exact h_deff _
   | with_reducible exact h_within _ _
   | with_reducible exact h_slice _ _ _
   | with_reducible exact h_post
   | with_reducible exact h_postL _
   | with_reducible exact h_str
   | with_reducible exact h_strF _
   | with_reducible exact h_strL
   | with_reducible exact h_term
   | with_reducible exact h_bracket
   | with_reducible exact h_pairs
   | with_reducible exact h_worded
   | with_reducible exact h_args
   | with_reducible exact h_ifs
   | with_reducible exact h_fold _ _
   | with_reducible exact h_key _
   | with_reducible exact h_pair
   | with_reducible exact h_value
   | with_reducible exact h_unit
   | with_reducible exact h_keypat
   | with_reducible exact h_pattern
   | with_reducible exact h_elems _
   | with_reducible exact h_bring
   | with_reducible exact h_plainL
   | with_reducible exact h_brings
   | with_reducible refine Pa.Le.bind (fun _=>?_) _ _ ?_
   | with_reducible refine need_le ?_
   | with_reducible refine one_le ?_
   | with_reducible refine text_le (fun _=>?_)
   | with_reducible refine name_le (fun _=>?_)
   | with_reducible refine look_le (fun _=>?_)
   | with_reducible refine peek_le (fun _=>?_)
   | with_reducible refine ended_le (fun _=>?_)
   | with_reducible refine move_le ?_
   | with_reducible refine if_le ?_ ?_
   | exact ret_le _
   | exact trivial)
theorem go_next : ∀ n f,(go n f).Le (go (n + 1) f)
 | 0,f=>trivial
 | n + 1,f=>step_le (go_next n) f
theorem go_le {n m : Nat} (h : n ≤ m) (f : Fn) : (go n f).Le (go m f):=by
 induction h with
 | refl=>exact Pa.Le.refl _
 | step _ ih=>exact ih.trans (go_next _ f)
theorem run_one {n m : Nat} {f : Fn} {r : List Tk} {o o' : Out (Res f)} (h : (go n f).run r = some o) (h' : (go m f).run r = some o') : o = o':=by
 rcases Nat.le_total n m with e | e
 ·exact Option.some.inj (((go_le e f).run h).symm.trans h')
 ·exact Option.some.inj (h.symm.trans ((go_le e f).run h'))
theorem fuel_ok (l : List Tk) : 8 * l.length + 6 < fuel l:=by unfold fuel;omega
theorem parse_ok (l : List Tk) : ∃ o,(go (fuel l) .program).run l = some o:=parse_run l _ (fuel_ok l)
theorem parse_of {l : List Tk} {n : Nat} {o : Out Nd} (hd : deepAt 0 0 l = none) (h : (go n .program).run l = some o) : parse l = match o with
  | .ok _ x=>(x,0,0)
  | .bad r=>(none0,22,l.length - r.length):=by
 obtain ⟨o',h'⟩:=parse_ok l
 obtain rfl:=run_one h h'
 unfold parse
 rw [hd,h']
 cases o <;> rfl
theorem deepAt_append : ∀ (a b : List Tk) (n i : Nat),deepAt n i (a ++ b) = none → deepAt n i a = none
 | [],_,_,_,_=>rfl
 | t :: a,b,n,i,h=>by
  simp only [List.cons_append,deepAt] at h ⊢
  generalize (if opens t = true then n + 1 else if closes t = true then n - 1 else n) = m at h ⊢
  by_cases hm : 256 < m
  ·rw [if_pos hm] at h;cases h
  ·rw [if_neg hm] at h ⊢;exact deepAt_append a b _ _ h
theorem first {l : List Tk} {a : List Tk} {t : Tk} {s : List Tk} (hl : l = a ++ t :: s) (h : (parse l).2 = (22,a.length)) :
  (∀ x,(parse (a ++ t :: x)).2.1 = 21 ∨ (parse (a ++ t :: x)).2 = (22,a.length)) ∧ ((parse a).2.1 = 0 ∨ (parse a).2 = (22,a.length)):=by
 subst hl
 have hd : deepAt 0 0 (a ++ t :: s) = none:=by
  cases hq : deepAt 0 0 (a ++ t :: s) with
  | none=>rfl
  | some i=>unfold parse at h;rw [hq] at h;cases h
 obtain ⟨o,ho⟩:=parse_ok (a ++ t :: s)
 rw [parse_of hd ho] at h
 cases o with
 | ok r x=>cases h
 | bad r =>
  have hr : (a ++ t :: s).length - r.length = a.length:=(Prod.mk.inj h).2
  have hrl:=Pa.run_len _ ho
  have hrs : r.length = s.length + 1:=by
   have : (Out.bad r : Out Nd).rest = r:=rfl
   rw [this] at hrl
   simp only [List.length_append,List.length_cons] at hr hrl
   omega
  have hw:=go_wf (fuel (a ++ t :: s)) .program
  obtain ⟨b,hb1,hb2⟩:=Pa.behind _ hw a t s ho (by show s.length + 1 ≤ r.length;omega)
  have hb : b = []:=by
   have : r = b ++ t :: s:=hb1
   have:=congrArg List.length this
   simp only [List.length_append,List.length_cons] at this
   exact List.length_eq_zero_iff.1 (by omega)
  subst hb
  constructor
  ·intro x
   cases hq : deepAt 0 0 (a ++ t :: x) with
   | some i=>left;unfold parse;rw [hq]
   | none =>
    right
    rw [parse_of hq (hb2 x)]
    show ((22 : Int),(a ++ t :: x).length - (t :: x).length) = _
    simp
  ·have hda:=deepAt_append a (t :: s) 0 0 hd
   obtain ⟨o',ho'⟩:=parse_ok a
   have hrun : (go (fuel (a ++ t :: s)) .program).run a = some o':=(go_le (by unfold fuel;simp;omega) .program).run ho'
   rw [parse_of hda ho']
   rcases Pa.ahead _ hw a t s ho (by show s.length + 1 ≤ r.length;omega) o' hrun with h0 | ⟨h0,h1⟩
   ·cases o' with
    | ok r' x=>left;rfl
    | bad r' =>
     right
     have : r' = []:=h0
     subst this
     simp
   ·exfalso
    have h2 : (Out.bad r : Out Nd).rest = (o'.put (o'.rest ++ t :: s)).rest:=congrArg Out.rest h1
    have h3 : (o'.put (o'.rest ++ t :: s)).rest = o'.rest ++ t :: s:=by cases o' <;> rfl
    rw [h3] at h2
    have h4 : r = o'.rest ++ t :: s:=h2
    have:=congrArg List.length h4
    simp only [List.length_append,List.length_cons] at this
    exact h0 (List.length_eq_zero_iff.1 (by omega))
end Go.Proofs.YtlklhkkjcfmefaaGreatDoor.pa
namespace Go.Proofs.YtlklhkkjcfmefaaGreatDoor.pr
open Go.Lib (hid)
open Go.RowKit Go.Shelf sx
attribute [local go_sem] Oper.semAt_some
def TI (w : World) (N : Nat) (pre : List Op) (W : World) : Prop :=
 (TabAt W N pre ∧ Boxed W (N + 1) 202 (.map (some N))) ∧ Below w.heap.size w W
theorem TI_own (w : World) (N B : Nat) (hN : N < B) (hB : w.heap.size ≤ B) : OwnFrom B (TI w N) :=
 OwnFrom.and (OwnFrom.and (fun pre X Y row hs hg hr=>hs.grown hg (fun e=>by have:=(hr _ e.symm).1;omega)) (Own.from (boxed_own _ _ _) _)) (ownFrom_below (Nat.le_refl _) hB)
abbrev tabAct (N Bx : Nat) (x : Op) : Act :=
 { tmps:=#[.map none,.pointer (some ⟨N + 1,0,none⟩),.string x.1,.pointer (some ⟨Bx,0,none⟩),.map (some N),.string x.1,.agg #[.int .i64 x.2.1,.int .i64 x.2.2],undef,undef,undef,undef],defers:=[] }
def TA (w : World) (N : Nat) (x : Op) (a' : Act) (W : World) : Prop :=
 ∃ Bx,Blk W Bx 201 #[.int .i64 x.2.1,.int .i64 x.2.2] ∧ a' = tabAct N Bx x
theorem TA_own (w : World) (N : Nat) (x : Op) (a' : Act) (B : Nat) : OwnFrom B (fun (_ : Unit) W=>TA w N x a' W) :=
 fun _ X Y row hs hg hr=>by
  obtain ⟨Bx,h1,h2⟩:=hs
  exact ⟨Bx,blk_own Bx 201 (fun (_ : Unit)=>#[.int .i64 x.2.1,.int .i64 x.2.2]) () X Y row h1 hg (fun r e=>(hr r e).2),h2⟩
theorem ops_pre {pre rest : List Op} {x : Op} (h : opsP = pre ++ x :: rest) : (∀ y ∈ pre,y.1.size ≤ 3) ∧ x.1.size ≤ 3 ∧ ∀ y ∈ pre,y.1 ≠ x.1:=by
 refine ⟨fun y hy=>ops_small y (by rw [h];simp [hy]),ops_small x (by rw [h];simp),fun y hy=>?_⟩
 have ha:=ops_apart
 rw [h,List.pairwise_append] at ha
 exact ha.2.2 y hy x (by simp)
theorem table_in (n : Nat) (hn : 3 ≤ n) (w : World) (hL : LvAt w) :
  CallsIn Fence.wide n Tryz.prog 254 #[] w fun e W'=>e = .returned (.map (some w.heap.size)) ∧ TabAt W' w.heap.size opsP ∧ Below w.heap.size w W':=by
 have h1 : 1 ≤ n:=by omega
 have hmk : ∀ w,(Instr.makeMap 202 (some (.int .i64 24))).run Tryz.prog w = .ok (.map (some w.heap.size)) (w.alloc (.map #[] 0)):=fun w=>rfl
 have HL:=hid hL
 clear hL
 refine callsIn_of_wp_marks Tryz.func254 rfl trivial ?_ rfl
 simp only [Tryz.ntmps254,List.size_toArray,List.length_nil,Nat.reduceSub,Array.replicate_succ,Array.replicate_zero,List.push_toArray,List.append_toArray,List.nil_append]
 gi_wp2_with fail
 obtain ⟨W0,hW0⟩ : ∃ W0,((w.alloc (.map #[] 0)).alloc (.cells #[.map (some w.heap.size)] 202)) = W0:=⟨_,rfl⟩
 have hB0 : Below w.heap.size w W0:=by rw [← hW0];exact ((Below.refl _ w).alloc (Nat.le_refl _) _).alloc (by simp) _
 have hs0 : W0.heap.size = w.heap.size + 2:=by rw [← hW0];simp
 have hT0 : TabAt W0 w.heap.size []:=by rw [← hW0];exact (tab_new w).own ((Below.refl _ _).alloc (Nat.le_refl _) _)
 have hb0 : Boxed W0 (w.heap.size + 1) 202 (.map (some w.heap.size)):=by
  have:=Boxed.new (w.alloc (.map #[] 0)) 202 (.map (some w.heap.size))
  rw [← hW0];simpa using this
 rw [hW0]
 clear hW0
 refine wpIn_rangeFunc_all (F:=Fence.wide) rfl h1 (gf:=264) (lb:=#[]) rfl trivial (enters_of Tryz.func264 (by kernel_rfl) rfl)
  (graded_all (n - 1) (by omega) w HL.out) KT.trans (KT.put (by omega)) hB0 (fun _=>rfl)
  (TI w w.heap.size) (TI_own w _ _ (by omega) (by omega)) ⟨⟨hT0,hb0⟩,hB0⟩
  (TA w w.heap.size) (fun x a'=>TA_own w _ x a' _)
  ?assign ?body ?done
 case assign =>
  rintro l pre x W K hI hK
  gi_wp2
  have hbW : Below W.heap.size W (W.alloc (.cells #[.int .i64 x.2.1,.int .i64 x.2.2] 201)):=(Below.refl _ W).alloc (Nat.le_refl _) _
  have hsW:=hI.2.size
  exact hK _ _ ((keeps_below hbW).from _) (KT.of_below hbW hsW) ⟨⟨hI.1.1.own hbW,hI.1.2.alloc _⟩,hI.2.trans (hbW.mono hsW)⟩ ⟨_,Blk.new W _ _,rfl⟩
 case body =>
  rintro l pre x rest a' W hys hl ⟨⟨hT,hb⟩,hB⟩ ⟨Bx,hx,rfl⟩
  obtain ⟨p1,p2,p3⟩:=ops_pre hys
  obtain ⟨W3,hup,hT3,hg3⟩:=hT.put p1 p2 p3
  have c1:=hb.cell
  have c2:=hx.cell 0
  have c3:=hx.cell 1
  have HT3:=hid hT3;have HG3:=hid hg3;have HB:=hid hB;have HBX:=hid hb
  have HTL:=hid hT
  clear hT hT3 hg3 hB hb p1 p2 p3 hys HL hB0 hT0 hb0
  gi_wp2_with fail
  have hlt:=HTL.out.lt
  exact ⟨KeepsFrom.of_grownBy HG3.out (fun j e=>by cases e;omega),⟨(Below.refl _ W).grown HG3.out HB.out.size (fun j e=>by cases e;exact Nat.le_refl _),fun B vs h=>h.kept HG3.out (fun e=>by
    cases e
    obtain ⟨es,ck,h1,_⟩:=HTL.out
    rw [show W.heap[w.heap.size]? = _ from h] at h1
    cases h1)⟩,
   ⟨HT3.out,HBX.out.kept HG3.out (fun e=>by injection e with e;omega)⟩,HB.out.grown HG3.out HB.out.size (fun j e=>by cases e;exact Nat.le_refl _)⟩
 case done =>
  rintro D W hD ⟨⟨hT,hb⟩,hB⟩ hdef
  have c1:=hb.cell
  have HT:=hid hT;have HB:=hid hB;have HD:=hid hdef
  clear hT hB hdef hb hB0 hT0 hb0 HL
  gi_wp2
  refine ⟨by simp,.inl ⟨_,_,rfl,run_takeDeferred HD.out,?_⟩⟩
  have hg:=grownBy_putObj' W D (.deferred none)
  have hw : Below w.heap.size w (W.putObj D (.deferred none)):=HB.out.grown hg HB.out.size (fun j e=>by cases e;omega)
  refine ⟨.map (some w.heap.size),?_,rfl,HT.out.grown hg (fun e=>by injection e with e;omega),hw⟩
  simp [results,Tryz.f254,go_sem]
end Go.Proofs.YtlklhkkjcfmefaaGreatDoor.pr
