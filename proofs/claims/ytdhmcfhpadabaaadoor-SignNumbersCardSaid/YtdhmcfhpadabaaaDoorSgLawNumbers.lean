/-
  subeditorlaw03.SignNumbers: for every input it returns true, and the arguments read as they did. No condition.
-/
import Derived.Test.YtdhmcfhpadabaaaDoorSgHelp
import Derived.Test.YtdhmcfhpadabaaaDoorCards
import Derived.Test.YtdhmcfhpadabaaaDoorTie
import Derived.SevenTiedAt
import Derived.Test.YtdhmcfhpadabaaaDoorSgDigits
namespace Go.Proofs.YtdhmcfhpadabaaaDoor.signNumbers
open Go.RowKit Go.ChangeShapes Go.WideShapes Go.ChangeAt Go.ChangeMaps
open sg
set_option linter.unusedVariables false

set_option maxRecDepth 100000 in
set_option maxHeartbeats 4000000 in
theorem w_100 (a b p : Int) (ha : 0 ≤ a ∧ a ≤ 65535) (hb : 0 ≤ b ∧ b ≤ 65535) (hp : 0 ≤ p ∧ p ≤ 65535) (m : Bool) (w : World) (hw : OpsAt w) :
    Calls Tryd.prog 9 #[.int .u16 a, .int .u16 b, .int .u16 p, .bool true, .bool false, .bool m] w fun e W' => e = .returned (.bool true) ∧ Below w.heap.size w W' := by
  have HW := Lib.hid hw
  clear hw
  go_enter Tryd.func9, Tryd.ntmps9
  go_wp2_with fail
  ((with_reducible refine (digits_law a ha.1 ha.2 _).mono ?_); rintro e w1 ⟨da, rfl, fa, hb1⟩)
  go_wp2_with fail
  ((with_reducible refine (digits_law b hb.1 hb.2 _).mono ?_); rintro e w2 ⟨db, rfl, fb, hb2⟩)
  obtain ⟨a1, a2, a3⟩ := fa
  obtain ⟨b1, b2, b3⟩ := fb
  obtain ⟨x, hx⟩ : ∃ x, da ++ ⟨#[46]⟩ ++ db = x := ⟨_, rfl⟩
  have hxd : x.data.toList = Sg.front da.data.toList db.data.toList true := by rw [← hx]; simp [Sg.front]
  have hxs : x.size ≤ 140000 := by rw [← hx]; simp only [ByteArray.size_append]; have : (⟨#[46]⟩ : ByteArray).size = 1 := rfl; omega
  have n1 : Sg.number x.data.toList = x.size := by
    have := Sg.num_plain (a := da.data.toList) (b := db.data.toList) (dot := true) a1 a2 b1
    rw [← hxd, lst_len] at this; exact this
  have n2 : Sg.number (x ++ ⟨#[46, 46]⟩).data.toList = x.size + 0 := by
    have := Sg.num_dots (a := da.data.toList) (b := db.data.toList) a1 a2 b1 true
    rw [← hxd, lst_len] at this; rw [append_data]; exact this
  have m1 := Lib.hid (fun w => number_is x (by omega) _ n1 w)
  have m2 := Lib.hid (fun w => number_is (x ++ ⟨#[46, 46]⟩) (by rw [ByteArray.size_append]; have : (⟨#[46, 46]⟩ : ByteArray).size = 2 := rfl; omega) _ n2 w)
  clear n1 n2
  go_wp2_with fail
  ((with_reducible refine (known_calls _ ((HW.out.own hb1).own hb2)).mono ?_); rintro e w5 ⟨rfl, hb5⟩)
  go_wp2_with fail
  ((with_reducible refine (m1.out _).mono ?_); rintro e w6 ⟨rfl, hb6⟩)
  go_wp2_with fail
  ((with_reducible refine (m2.out _).mono ?_); rintro e w7 ⟨rfl, hb7⟩)
  go_wp2_with fail
  ((with_reducible refine (dots_calls _ _).mono ?_); rintro e w8 ⟨rfl, rfl⟩)
  go_wp2_with fail
  go_ret
  exact ⟨rfl, Below.next (Below.next (Below.next (Below.next hb1 hb2 (Nat.le_refl _)) hb5 (Nat.le_refl _)) hb6 (Nat.le_refl _)) hb7 (Nat.le_refl _)⟩

set_option maxRecDepth 100000 in
set_option maxHeartbeats 4000000 in
theorem w_110 (a b p : Int) (ha : 0 ≤ a ∧ a ≤ 65535) (hb : 0 ≤ b ∧ b ≤ 65535) (hp : 0 ≤ p ∧ p ≤ 65535) (w : World) (hw : OpsAt w) :
    Calls Tryd.prog 9 #[.int .u16 a, .int .u16 b, .int .u16 p, .bool true, .bool true, .bool false] w fun e W' => e = .returned (.bool true) ∧ Below w.heap.size w W' := by
  have HW := Lib.hid hw
  clear hw
  go_enter Tryd.func9, Tryd.ntmps9
  go_wp2_with fail
  ((with_reducible refine (digits_law a ha.1 ha.2 _).mono ?_); rintro e w1 ⟨da, rfl, fa, hb1⟩)
  go_wp2_with fail
  ((with_reducible refine (digits_law b hb.1 hb.2 _).mono ?_); rintro e w2 ⟨db, rfl, fb, hb2⟩)
  obtain ⟨a1, a2, a3⟩ := fa
  obtain ⟨b1, b2, b3⟩ := fb
  obtain ⟨x, hx⟩ : ∃ x, da ++ ⟨#[46]⟩ ++ db = x := ⟨_, rfl⟩
  have hxd : x.data.toList = Sg.front da.data.toList db.data.toList true := by rw [← hx]; simp [Sg.front]
  have hxs : x.size ≤ 140000 := by rw [← hx]; simp only [ByteArray.size_append]; have : (⟨#[46]⟩ : ByteArray).size = 1 := rfl; omega
  have nx : Sg.number (x ++ ⟨#[101]⟩ ++ ⟨#[120]⟩).data.toList = x.size := by
    have := Sg.num_x (a := da.data.toList) (b := db.data.toList) (dot := true) a1 a2 b1 false
    rw [← hxd] at this
    rw [lst_len] at this
    rw [← this]; simp [Sg.expo]
  have ns : (x ++ ⟨#[101]⟩ ++ ⟨#[120]⟩).size ≤ 140737488351232 := by simp only [ByteArray.size_append]; have : (⟨#[101]⟩ : ByteArray).size = 1 := rfl; have : (⟨#[45]⟩ : ByteArray).size = 1 := rfl; have : (⟨#[120]⟩ : ByteArray).size = 1 := rfl; omega
  have c1 := Lib.hid (fun w => number_is _ ns _ nx w)
  clear nx
  go_wp2_with fail
  ((with_reducible refine (c1.out _).mono ?_); rintro e w3 ⟨rfl, hb3⟩)
  go_wp2_with fail
  ((with_reducible refine (digits_law p hp.1 hp.2 _).mono ?_); rintro e w4 ⟨dp, rfl, fp, hb4⟩)
  obtain ⟨p1, p2, p3⟩ := fp
  obtain ⟨y, hy⟩ : ∃ y, x ++ ⟨#[101]⟩ ++ dp = y := ⟨_, rfl⟩
  have hyd : y.data.toList = Sg.front da.data.toList db.data.toList true ++ Sg.expo false ++ dp.data.toList := by rw [← hy, ← hxd]; simp [Sg.expo]
  have hys : y.size ≤ 210000 := by rw [← hy]; simp only [ByteArray.size_append]; have : (⟨#[101]⟩ : ByteArray).size = 1 := rfl; have : (⟨#[45]⟩ : ByteArray).size = 1 := rfl; omega
  have n1 : Sg.number y.data.toList = y.size := by
    have := Sg.num_power (a := da.data.toList) (b := db.data.toList) (dot := true) (r := []) a1 a2 b1 p1 p2 (Sg.stop_nil _) false
    rw [← hyd, List.append_nil, lst_len] at this; exact this
  have n2 : Sg.number (y ++ ⟨#[46, 46]⟩).data.toList = y.size := by
    have := Sg.num_power (a := da.data.toList) (b := db.data.toList) (dot := true) (r := [46, 46]) a1 a2 b1 p1 p2 (Sg.stop_cons (by decide) _) false
    rw [← hyd, lst_len] at this; rw [append_data]; exact this
  have hq : y.size + 0 = y.size := rfl
  have m1 := Lib.hid (fun w => number_is y (by omega) _ n1 w)
  have m2 := Lib.hid (fun w => number_is (y ++ ⟨#[46, 46]⟩) (by rw [ByteArray.size_append]; have : (⟨#[46, 46]⟩ : ByteArray).size = 2 := rfl; omega) _ n2 w)
  clear n1 n2
  go_wp2_with fail
  ((with_reducible refine (known_calls _ ((((HW.out.own hb1).own hb2).own hb3).own hb4)).mono ?_); rintro e w5 ⟨rfl, hb5⟩)
  go_wp2_with fail
  ((with_reducible refine (m1.out _).mono ?_); rintro e w6 ⟨rfl, hb6⟩)
  go_wp2_with fail
  ((with_reducible refine (m2.out _).mono ?_); rintro e w7 ⟨rfl, hb7⟩)
  go_wp2_with fail
  ((with_reducible refine (dots_calls _ _).mono ?_); rintro e w8 ⟨rfl, rfl⟩)
  go_wp2_with fail
  go_ret
  exact ⟨rfl, Below.next (Below.next (Below.next (Below.next (Below.next (Below.next hb1 hb2 (Nat.le_refl _)) hb3 (Nat.le_refl _)) hb4 (Nat.le_refl _)) hb5 (Nat.le_refl _)) hb6 (Nat.le_refl _)) hb7 (Nat.le_refl _)⟩

set_option maxRecDepth 100000 in
set_option maxHeartbeats 4000000 in
theorem w_111 (a b p : Int) (ha : 0 ≤ a ∧ a ≤ 65535) (hb : 0 ≤ b ∧ b ≤ 65535) (hp : 0 ≤ p ∧ p ≤ 65535) (w : World) (hw : OpsAt w) :
    Calls Tryd.prog 9 #[.int .u16 a, .int .u16 b, .int .u16 p, .bool true, .bool true, .bool true] w fun e W' => e = .returned (.bool true) ∧ Below w.heap.size w W' := by
  have HW := Lib.hid hw
  clear hw
  go_enter Tryd.func9, Tryd.ntmps9
  go_wp2_with fail
  ((with_reducible refine (digits_law a ha.1 ha.2 _).mono ?_); rintro e w1 ⟨da, rfl, fa, hb1⟩)
  go_wp2_with fail
  ((with_reducible refine (digits_law b hb.1 hb.2 _).mono ?_); rintro e w2 ⟨db, rfl, fb, hb2⟩)
  obtain ⟨a1, a2, a3⟩ := fa
  obtain ⟨b1, b2, b3⟩ := fb
  obtain ⟨x, hx⟩ : ∃ x, da ++ ⟨#[46]⟩ ++ db = x := ⟨_, rfl⟩
  have hxd : x.data.toList = Sg.front da.data.toList db.data.toList true := by rw [← hx]; simp [Sg.front]
  have hxs : x.size ≤ 140000 := by rw [← hx]; simp only [ByteArray.size_append]; have : (⟨#[46]⟩ : ByteArray).size = 1 := rfl; omega
  have nx : Sg.number (x ++ ⟨#[101]⟩ ++ ⟨#[45]⟩ ++ ⟨#[120]⟩).data.toList = x.size := by
    have := Sg.num_x (a := da.data.toList) (b := db.data.toList) (dot := true) a1 a2 b1 true
    rw [← hxd] at this
    rw [lst_len] at this
    rw [← this]; simp [Sg.expo]
  have ns : (x ++ ⟨#[101]⟩ ++ ⟨#[45]⟩ ++ ⟨#[120]⟩).size ≤ 140737488351232 := by simp only [ByteArray.size_append]; have : (⟨#[101]⟩ : ByteArray).size = 1 := rfl; have : (⟨#[45]⟩ : ByteArray).size = 1 := rfl; have : (⟨#[120]⟩ : ByteArray).size = 1 := rfl; omega
  have c1 := Lib.hid (fun w => number_is _ ns _ nx w)
  clear nx
  go_wp2_with fail
  ((with_reducible refine (c1.out _).mono ?_); rintro e w3 ⟨rfl, hb3⟩)
  go_wp2_with fail
  ((with_reducible refine (digits_law p hp.1 hp.2 _).mono ?_); rintro e w4 ⟨dp, rfl, fp, hb4⟩)
  obtain ⟨p1, p2, p3⟩ := fp
  obtain ⟨y, hy⟩ : ∃ y, x ++ ⟨#[101]⟩ ++ ⟨#[45]⟩ ++ dp = y := ⟨_, rfl⟩
  have hyd : y.data.toList = Sg.front da.data.toList db.data.toList true ++ Sg.expo true ++ dp.data.toList := by rw [← hy, ← hxd]; simp [Sg.expo]
  have hys : y.size ≤ 210000 := by rw [← hy]; simp only [ByteArray.size_append]; have : (⟨#[101]⟩ : ByteArray).size = 1 := rfl; have : (⟨#[45]⟩ : ByteArray).size = 1 := rfl; omega
  have n1 : Sg.number y.data.toList = y.size := by
    have := Sg.num_power (a := da.data.toList) (b := db.data.toList) (dot := true) (r := []) a1 a2 b1 p1 p2 (Sg.stop_nil _) true
    rw [← hyd, List.append_nil, lst_len] at this; exact this
  have n2 : Sg.number (y ++ ⟨#[46, 46]⟩).data.toList = y.size := by
    have := Sg.num_power (a := da.data.toList) (b := db.data.toList) (dot := true) (r := [46, 46]) a1 a2 b1 p1 p2 (Sg.stop_cons (by decide) _) true
    rw [← hyd, lst_len] at this; rw [append_data]; exact this
  have hq : y.size + 0 = y.size := rfl
  have m1 := Lib.hid (fun w => number_is y (by omega) _ n1 w)
  have m2 := Lib.hid (fun w => number_is (y ++ ⟨#[46, 46]⟩) (by rw [ByteArray.size_append]; have : (⟨#[46, 46]⟩ : ByteArray).size = 2 := rfl; omega) _ n2 w)
  clear n1 n2
  go_wp2_with fail
  ((with_reducible refine (known_calls _ ((((HW.out.own hb1).own hb2).own hb3).own hb4)).mono ?_); rintro e w5 ⟨rfl, hb5⟩)
  go_wp2_with fail
  ((with_reducible refine (m1.out _).mono ?_); rintro e w6 ⟨rfl, hb6⟩)
  go_wp2_with fail
  ((with_reducible refine (m2.out _).mono ?_); rintro e w7 ⟨rfl, hb7⟩)
  go_wp2_with fail
  ((with_reducible refine (dots_calls _ _).mono ?_); rintro e w8 ⟨rfl, rfl⟩)
  go_wp2_with fail
  go_ret
  exact ⟨rfl, Below.next (Below.next (Below.next (Below.next (Below.next (Below.next hb1 hb2 (Nat.le_refl _)) hb3 (Nat.le_refl _)) hb4 (Nat.le_refl _)) hb5 (Nat.le_refl _)) hb6 (Nat.le_refl _)) hb7 (Nat.le_refl _)⟩

set_option maxRecDepth 100000 in
set_option maxHeartbeats 4000000 in
theorem w_000 (a b p : Int) (ha : 0 ≤ a ∧ a ≤ 65535) (hb : 0 ≤ b ∧ b ≤ 65535) (hp : 0 ≤ p ∧ p ≤ 65535) (m : Bool) (w : World) (hw : OpsAt w) :
    Calls Tryd.prog 9 #[.int .u16 a, .int .u16 b, .int .u16 p, .bool false, .bool false, .bool m] w fun e W' => e = .returned (.bool true) ∧ Below w.heap.size w W' := by
  have HW := Lib.hid hw
  clear hw
  go_enter Tryd.func9, Tryd.ntmps9
  go_wp2_with fail
  ((with_reducible refine (digits_law a ha.1 ha.2 _).mono ?_); rintro e w1 ⟨da, rfl, fa, hb1⟩)

  obtain ⟨a1, a2, a3⟩ := fa
  obtain ⟨x, hx⟩ : ∃ x, da = x := ⟨_, rfl⟩
  have hxd : x.data.toList = Sg.front da.data.toList [] false := by rw [← hx]; rfl
  have hxs : x.size ≤ 140000 := by rw [← hx]; omega
  have n1 : Sg.number x.data.toList = x.size := by
    have := Sg.num_plain (a := da.data.toList) (b := []) (dot := false) a1 a2 (by intro b hb; simp at hb)
    rw [← hxd, lst_len] at this; exact this
  have n2 : Sg.number (x ++ ⟨#[46, 46]⟩).data.toList = x.size + 1 := by
    have := Sg.num_dots (a := da.data.toList) (b := []) a1 a2 (by intro b hb; simp at hb) false
    rw [← hxd, lst_len] at this; rw [append_data]; exact this
  have m1 := Lib.hid (fun w => number_is x (by omega) _ n1 w)
  have m2 := Lib.hid (fun w => number_is (x ++ ⟨#[46, 46]⟩) (by rw [ByteArray.size_append]; have : (⟨#[46, 46]⟩ : ByteArray).size = 2 := rfl; omega) _ n2 w)
  clear n1 n2
  go_wp2_with fail
  ((with_reducible refine (known_calls _ (HW.out.own hb1)).mono ?_); rintro e w5 ⟨rfl, hb5⟩)
  go_wp2_with fail
  ((with_reducible refine (m1.out _).mono ?_); rintro e w6 ⟨rfl, hb6⟩)
  go_wp2_with fail
  ((with_reducible refine (m2.out _).mono ?_); rintro e w7 ⟨rfl, hb7⟩)
  go_wp2_with fail
  ((with_reducible refine (dots_calls _ _).mono ?_); rintro e w8 ⟨rfl, rfl⟩)
  go_wp2_with fail
  go_ret
  exact ⟨rfl, Below.next (Below.next (Below.next (hb1) hb5 (Nat.le_refl _)) hb6 (Nat.le_refl _)) hb7 (Nat.le_refl _)⟩

set_option maxRecDepth 100000 in
set_option maxHeartbeats 4000000 in
theorem w_010 (a b p : Int) (ha : 0 ≤ a ∧ a ≤ 65535) (hb : 0 ≤ b ∧ b ≤ 65535) (hp : 0 ≤ p ∧ p ≤ 65535) (w : World) (hw : OpsAt w) :
    Calls Tryd.prog 9 #[.int .u16 a, .int .u16 b, .int .u16 p, .bool false, .bool true, .bool false] w fun e W' => e = .returned (.bool true) ∧ Below w.heap.size w W' := by
  have HW := Lib.hid hw
  clear hw
  go_enter Tryd.func9, Tryd.ntmps9
  go_wp2_with fail
  ((with_reducible refine (digits_law a ha.1 ha.2 _).mono ?_); rintro e w1 ⟨da, rfl, fa, hb1⟩)

  obtain ⟨a1, a2, a3⟩ := fa
  obtain ⟨x, hx⟩ : ∃ x, da = x := ⟨_, rfl⟩
  have hxd : x.data.toList = Sg.front da.data.toList [] false := by rw [← hx]; rfl
  have hxs : x.size ≤ 140000 := by rw [← hx]; omega
  have nx : Sg.number (x ++ ⟨#[101]⟩ ++ ⟨#[120]⟩).data.toList = x.size := by
    have := Sg.num_x (a := da.data.toList) (b := []) (dot := false) a1 a2 (by intro b hb; simp at hb) false
    rw [← hxd] at this
    rw [lst_len] at this
    rw [← this]; simp [Sg.expo]
  have ns : (x ++ ⟨#[101]⟩ ++ ⟨#[120]⟩).size ≤ 140737488351232 := by simp only [ByteArray.size_append]; have : (⟨#[101]⟩ : ByteArray).size = 1 := rfl; have : (⟨#[45]⟩ : ByteArray).size = 1 := rfl; have : (⟨#[120]⟩ : ByteArray).size = 1 := rfl; omega
  have c1 := Lib.hid (fun w => number_is _ ns _ nx w)
  clear nx
  go_wp2_with fail
  ((with_reducible refine (c1.out _).mono ?_); rintro e w3 ⟨rfl, hb3⟩)
  go_wp2_with fail
  ((with_reducible refine (digits_law p hp.1 hp.2 _).mono ?_); rintro e w4 ⟨dp, rfl, fp, hb4⟩)
  obtain ⟨p1, p2, p3⟩ := fp
  obtain ⟨y, hy⟩ : ∃ y, x ++ ⟨#[101]⟩ ++ dp = y := ⟨_, rfl⟩
  have hyd : y.data.toList = Sg.front da.data.toList [] false ++ Sg.expo false ++ dp.data.toList := by rw [← hy, ← hxd]; simp [Sg.expo]
  have hys : y.size ≤ 210000 := by rw [← hy]; simp only [ByteArray.size_append]; have : (⟨#[101]⟩ : ByteArray).size = 1 := rfl; have : (⟨#[45]⟩ : ByteArray).size = 1 := rfl; omega
  have n1 : Sg.number y.data.toList = y.size := by
    have := Sg.num_power (a := da.data.toList) (b := []) (dot := false) (r := []) a1 a2 (by intro b hb; simp at hb) p1 p2 (Sg.stop_nil _) false
    rw [← hyd, List.append_nil, lst_len] at this; exact this
  have n2 : Sg.number (y ++ ⟨#[46, 46]⟩).data.toList = y.size := by
    have := Sg.num_power (a := da.data.toList) (b := []) (dot := false) (r := [46, 46]) a1 a2 (by intro b hb; simp at hb) p1 p2 (Sg.stop_cons (by decide) _) false
    rw [← hyd, lst_len] at this; rw [append_data]; exact this
  have hq : y.size + 0 = y.size := rfl
  have m1 := Lib.hid (fun w => number_is y (by omega) _ n1 w)
  have m2 := Lib.hid (fun w => number_is (y ++ ⟨#[46, 46]⟩) (by rw [ByteArray.size_append]; have : (⟨#[46, 46]⟩ : ByteArray).size = 2 := rfl; omega) _ n2 w)
  clear n1 n2
  go_wp2_with fail
  ((with_reducible refine (known_calls _ (((HW.out.own hb1).own hb3).own hb4)).mono ?_); rintro e w5 ⟨rfl, hb5⟩)
  go_wp2_with fail
  ((with_reducible refine (m1.out _).mono ?_); rintro e w6 ⟨rfl, hb6⟩)
  go_wp2_with fail
  ((with_reducible refine (m2.out _).mono ?_); rintro e w7 ⟨rfl, hb7⟩)
  go_wp2_with fail
  ((with_reducible refine (dots_calls _ _).mono ?_); rintro e w8 ⟨rfl, rfl⟩)
  go_wp2_with fail
  go_ret
  exact ⟨rfl, Below.next (Below.next (Below.next (Below.next (Below.next (hb1) hb3 (Nat.le_refl _)) hb4 (Nat.le_refl _)) hb5 (Nat.le_refl _)) hb6 (Nat.le_refl _)) hb7 (Nat.le_refl _)⟩

set_option maxRecDepth 100000 in
set_option maxHeartbeats 4000000 in
theorem w_011 (a b p : Int) (ha : 0 ≤ a ∧ a ≤ 65535) (hb : 0 ≤ b ∧ b ≤ 65535) (hp : 0 ≤ p ∧ p ≤ 65535) (w : World) (hw : OpsAt w) :
    Calls Tryd.prog 9 #[.int .u16 a, .int .u16 b, .int .u16 p, .bool false, .bool true, .bool true] w fun e W' => e = .returned (.bool true) ∧ Below w.heap.size w W' := by
  have HW := Lib.hid hw
  clear hw
  go_enter Tryd.func9, Tryd.ntmps9
  go_wp2_with fail
  ((with_reducible refine (digits_law a ha.1 ha.2 _).mono ?_); rintro e w1 ⟨da, rfl, fa, hb1⟩)

  obtain ⟨a1, a2, a3⟩ := fa
  obtain ⟨x, hx⟩ : ∃ x, da = x := ⟨_, rfl⟩
  have hxd : x.data.toList = Sg.front da.data.toList [] false := by rw [← hx]; rfl
  have hxs : x.size ≤ 140000 := by rw [← hx]; omega
  have nx : Sg.number (x ++ ⟨#[101]⟩ ++ ⟨#[45]⟩ ++ ⟨#[120]⟩).data.toList = x.size := by
    have := Sg.num_x (a := da.data.toList) (b := []) (dot := false) a1 a2 (by intro b hb; simp at hb) true
    rw [← hxd] at this
    rw [lst_len] at this
    rw [← this]; simp [Sg.expo]
  have ns : (x ++ ⟨#[101]⟩ ++ ⟨#[45]⟩ ++ ⟨#[120]⟩).size ≤ 140737488351232 := by simp only [ByteArray.size_append]; have : (⟨#[101]⟩ : ByteArray).size = 1 := rfl; have : (⟨#[45]⟩ : ByteArray).size = 1 := rfl; have : (⟨#[120]⟩ : ByteArray).size = 1 := rfl; omega
  have c1 := Lib.hid (fun w => number_is _ ns _ nx w)
  clear nx
  go_wp2_with fail
  ((with_reducible refine (c1.out _).mono ?_); rintro e w3 ⟨rfl, hb3⟩)
  go_wp2_with fail
  ((with_reducible refine (digits_law p hp.1 hp.2 _).mono ?_); rintro e w4 ⟨dp, rfl, fp, hb4⟩)
  obtain ⟨p1, p2, p3⟩ := fp
  obtain ⟨y, hy⟩ : ∃ y, x ++ ⟨#[101]⟩ ++ ⟨#[45]⟩ ++ dp = y := ⟨_, rfl⟩
  have hyd : y.data.toList = Sg.front da.data.toList [] false ++ Sg.expo true ++ dp.data.toList := by rw [← hy, ← hxd]; simp [Sg.expo]
  have hys : y.size ≤ 210000 := by rw [← hy]; simp only [ByteArray.size_append]; have : (⟨#[101]⟩ : ByteArray).size = 1 := rfl; have : (⟨#[45]⟩ : ByteArray).size = 1 := rfl; omega
  have n1 : Sg.number y.data.toList = y.size := by
    have := Sg.num_power (a := da.data.toList) (b := []) (dot := false) (r := []) a1 a2 (by intro b hb; simp at hb) p1 p2 (Sg.stop_nil _) true
    rw [← hyd, List.append_nil, lst_len] at this; exact this
  have n2 : Sg.number (y ++ ⟨#[46, 46]⟩).data.toList = y.size := by
    have := Sg.num_power (a := da.data.toList) (b := []) (dot := false) (r := [46, 46]) a1 a2 (by intro b hb; simp at hb) p1 p2 (Sg.stop_cons (by decide) _) true
    rw [← hyd, lst_len] at this; rw [append_data]; exact this
  have hq : y.size + 0 = y.size := rfl
  have m1 := Lib.hid (fun w => number_is y (by omega) _ n1 w)
  have m2 := Lib.hid (fun w => number_is (y ++ ⟨#[46, 46]⟩) (by rw [ByteArray.size_append]; have : (⟨#[46, 46]⟩ : ByteArray).size = 2 := rfl; omega) _ n2 w)
  clear n1 n2
  go_wp2_with fail
  ((with_reducible refine (known_calls _ (((HW.out.own hb1).own hb3).own hb4)).mono ?_); rintro e w5 ⟨rfl, hb5⟩)
  go_wp2_with fail
  ((with_reducible refine (m1.out _).mono ?_); rintro e w6 ⟨rfl, hb6⟩)
  go_wp2_with fail
  ((with_reducible refine (m2.out _).mono ?_); rintro e w7 ⟨rfl, hb7⟩)
  go_wp2_with fail
  ((with_reducible refine (dots_calls _ _).mono ?_); rintro e w8 ⟨rfl, rfl⟩)
  go_wp2_with fail
  go_ret
  exact ⟨rfl, Below.next (Below.next (Below.next (Below.next (Below.next (hb1) hb3 (Nat.le_refl _)) hb4 (Nat.le_refl _)) hb5 (Nat.le_refl _)) hb6 (Nat.le_refl _)) hb7 (Nat.le_refl _)⟩

theorem walk (a b p : Int) (d q m : Bool) (ha : 0 ≤ a ∧ a ≤ 65535) (hb : 0 ≤ b ∧ b ≤ 65535) (hp : 0 ≤ p ∧ p ≤ 65535) (w : World) (hw : OpsAt w) :
    Calls Tryd.prog 9 #[.int .u16 a, .int .u16 b, .int .u16 p, .bool d, .bool q, .bool m] w fun e W' => e = .returned (.bool true) ∧ Below w.heap.size w W' := by
  cases d with
  | true =>
    cases q with
    | true =>
      cases m with
      | true => exact w_111 a b p ha hb hp w hw
      | false => exact w_110 a b p ha hb hp w hw
    | false => exact w_100 a b p ha hb hp m w hw
  | false =>
    cases q with
    | true =>
      cases m with
      | true => exact w_011 a b p ha hb hp w hw
      | false => exact w_010 a b p ha hb hp w hw
    | false => exact w_000 a b p ha hb hp m w hw

theorem u16_wf {n : Int} (h : (Lit.int .u16 n).wf = true) : 0 ≤ n ∧ n ≤ 65535 := by simpa [Lit.wf, IntKind.min, IntKind.max, IntKind.signed, IntKind.bits] using h

set_option maxRecDepth 100000 in
theorem door_met (os : Os) (args : Array Value) : laidMetH Tryd.prog laid ((World.doorLaid Tryd.prog 14 os).forCall (fun _ _ => 0) ⟨#[], args, []⟩).memory :=
  laidMetH_of_parts3 (fuel := 8) (laidMet_of_run' 8 (by kernel_rfl) (by kernel_rfl)) (by kernel_rfl) (by kernel_rfl)

set_option maxRecDepth 100000 in
theorem lifted (os : Os) (started : os.Started) (H : Type) (enc : TypeId × Value → H) :
    ReturnsInHanded {} Tryd.checked os 9 .any (fun w args => (Rows.signNumbersSpec.pre enc Tryd.prog Tryd.f9 Rows.signNumbersRow.domain false w args ∧ laidMetH Tryd.prog laid w) ∧ sizedMet enc Tryd.prog Tryd.f9 (OpenSpec.ofChange Rows.signNumbersSpec) false w args) (Rows.signNumbersSpec.post enc Tryd.prog Tryd.f9 false true false false) := by
  refine returnsInHanded_of_change_and (C := Tryd.checked) (X := fun w _ => laidMetH Tryd.prog laid w) (fun _ _ _ hh h => h.of_heap hh) law.own started (by kernel_rfl) Tryd.func9
    (ChangeSpec.witness_shaped (enc := enc) (C := Tryd.checked) (os := os) (X := fun w _ => laidMetH Tryd.prog laid w) false (World.doorLaid Tryd.prog 14 os) #[.int .u16 0, .int .u16 0, .int .u16 0, .bool false, .bool false, .bool false] 8 rfl (World.shaped_of_RefB (by kernel_rfl) (by kernel_rfl)) (by kernel_rfl) (by kernel_rfl) (by kernel_rfl) (door_met os _)) ?_
  intro W base args ds gs before hval0 hW _ hsize0 hL _
  have hsize : (DataW.weightsEach Tryd.prog (Tryd.f9.params.toList ++ _) (ds ++ gs)).all (· ≤ reachBytes) = true := hsize0
  have hOps := ops_of_laid hL
  have hval : ∀ (j : Nat) t v, Tryd.f9.params[j]? = some t → args[j]? = some v → Value.okWide Tryd.prog W .any base t v := hval0
  have hW' := hW
  obtain ⟨p, q, hA0, hV, rfl, _, _⟩ := hW
  have hA : DataW.TrodAll enc Tryd.prog W 0 (fun _ => true) true Tryd.f9.params.toList args.toList ds p := hA0
  rw [Tryd.params9] at hA hval
  obtain ⟨v0, vs0, d0, ds0, p0, q0, hargs, rfl, rfl, h0, r0⟩ := trodAll_cons hA
  obtain ⟨v1, vs1, d1, ds1, p1, q1, rfl, rfl, rfl, h1, r1⟩ := trodAll_cons r0
  obtain ⟨v2, vs2, d2, ds2, p2, q2, rfl, rfl, rfl, h2, r2⟩ := trodAll_cons r1
  obtain ⟨v3, vs3, d3, ds3, p3, q3, rfl, rfl, rfl, h3, r3⟩ := trodAll_cons r2
  obtain ⟨v4, vs4, d4, ds4, p4, q4, rfl, rfl, rfl, h4, r4⟩ := trodAll_cons r3
  obtain ⟨v5, vs5, d5, ds5, p5, q5, rfl, rfl, rfl, h5, r5⟩ := trodAll_cons r4
  obtain ⟨rfl, rfl, rfl⟩ := trodAll_nil r5
  obtain rfl : args = #[v0, v1, v2, v3, v4, v5] := by cases args; simp_all
  obtain ⟨rfl, rfl⟩ := trodVars_none hV
  obtain ⟨x0, rfl, rfl, rfl, wx0⟩ := open_int Tryd.underlying31 (hval 0 31 v0 rfl rfl) h0
  obtain ⟨x1, rfl, rfl, rfl, wx1⟩ := open_int Tryd.underlying31 (hval 1 31 v1 rfl rfl) h1
  obtain ⟨x2, rfl, rfl, rfl, wx2⟩ := open_int Tryd.underlying31 (hval 2 31 v2 rfl rfl) h2
  obtain ⟨x3, rfl, rfl, rfl⟩ := open_bool Tryd.underlying4 (hval 3 4 v3 rfl rfl) h3
  obtain ⟨x4, rfl, rfl, rfl⟩ := open_bool Tryd.underlying4 (hval 4 4 v4 rfl rfl) h4
  obtain ⟨x5, rfl, rfl, rfl⟩ := open_bool Tryd.underlying4 (hval 5 4 v5 rfl rfl) h5
  clear hL
  refine (walk x0 x1 x2 x3 x4 x5 (u16_wf wx0) (u16_wf wx1) (u16_wf wx2) W hOps).mono fun e W' ⟨he, hb⟩ => ⟨_, he, ?_⟩
  exact law.law_post rfl hW' rfl (by kernel_rfl) (by kernel_rfl) hb

/-- SignNumbers, for every input. -/
theorem holds : Rows.SignNumbersSaid :=
  OpenClaim.holds_of_wide 9 Tryd.f9 rfl rfl rfl rfl rfl rfl rfl ⟨rfl, rfl, rfl, rfl, rfl⟩ rfl rfl rfl rfl rfl (by kernel_rfl) Tryd.func9 (by kernel_rfl)
    (of_decide_eq_true (by kernel_rfl)) (by unfold Func.isWrapper; first | (rw [if_pos (by decide +kernel)]; kernel_rfl) | (rw [if_neg (by decide +kernel)]; exact ⟨rfl, rfl⟩))
    (fun os started H enc _ => lifted os started H enc)

/-- The tied card of SignNumbers. -/
theorem card : Rows.SignNumbersCardSaid :=
  Claim7.holds_tied_plain_at .later [] [.data] true Rows.signNumbersCard.stood.harness false
    holds (fun _ h => by cases h) (by kernel_rfl) (fun _ h => by cases h) signNumbers_row_tie rfl ⟨rfl, rfl⟩ (by kernel_rfl) rfl
    (fun f fn hf hfn => by
      obtain rfl : f = 9 := Option.some.inj ((show Tryd.prog.funcNamed "subeditor/subeditorlaw03.SignNumbers" = some 9 by kernel_rfl).symm.trans hf) |>.symm
      obtain rfl : fn = Tryd.f9 := (Option.some.inj (Tryd.func9.symm.trans hfn)).symm
      exact ⟨by kernel_rfl, fun j t ht => by
        rw [Tryd.params9] at ht
        have hm := List.mem_toArray.1 (Array.mem_of_getElem? ht)
        have hall : (Tryd.f9.params.toList.all fun u => !Tryd.prog.wantsStandIn u) = true := by kernel_rfl
        rw [show Tryd.f9.params.toList = _ from congrArg Array.toList Tryd.params9] at hall
        exact (show Tryd.prog.wantsStandIn t = false by simpa using List.all_eq_true.1 hall t hm)⟩)
    (by kernel_rfl)
end Go.Proofs.YtdhmcfhpadabaaaDoor.signNumbers
