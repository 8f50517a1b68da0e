/-
  subeditorlaw02.EditBack: for every input it returns true, and the arguments read as they did. No condition.
-/
import Derived.Test.YtepniobmhplphaaEdBack
import Derived.Test.YtepniobmhplphaaEdRef1
namespace Go.Proofs.Ytepniobmhplphaa.editBack
open Go.RowKit Go.ChangeShapes Go.WideShapes Go.ChangeAt Go.ChangeMaps
open ed
set_option linter.unusedVariables false


theorem drew_bel {w w' : World} (h : ∃ nq, w' = w.drewN nq) : Below w.heap.size w w' := by obtain ⟨nq, rfl⟩ := h; exact bel_drewN (Below.refl _ _) _
theorem apply_at (s : ByteArray) (v : Value) (es : List Ed) (w : World) (hes : EdsAt w.heap.size w v es) (hsum : s.size + sumX es ≤ 140737488355328) (x : ByteArray) (f : Int) (hr : applyR s es = (x, f)) :
    Calls Try.prog 23 #[.string s, v] w fun e W' => e = .returned (.tuple #[.string x, .int .u16 f]) ∧ Below w.heap.size w W' := by
  have h := apply_calls s v es w hes hsum
  rw [hr] at h
  exact h
theorem back_at (s : ByteArray) (hs : s.size ≤ 140737488355328) (v : Value) (es : List Ed) (w : World) (hes : EdsAt w.heap.size w v es) (l : List Ed) (f : Int) (hr : backR s es = (l, f)) :
    Calls Try.prog 24 #[.string s, v] w fun e W' => ∃ u, e = .returned (.tuple #[u, .int .u16 f]) ∧ EdsAt W'.heap.size W' u l ∧ Below w.heap.size w W' := by
  have h := back_calls s hs v es w hes
  rw [hr] at h
  exact h

def outL (s : ByteArray) (t : Int) (l : List Ed) : List UInt8 := madeL s t l ++ (piece s (lastT t l) s.size).data.toList
theorem outL_nil (s : ByteArray) (a : Nat) : outL s a [] = s.data.toList.drop a := by
  unfold outL
  simp only [madeL, lastT, List.nil_append]
  rw [piece_toList, ← size_toList, List.take_length]
theorem outL_cons (s : ByteArray) (a : Nat) (e : Ed) (r : List Ed) (b : Nat) (hb : e.f = b) : outL s a (e :: r) = (s.data.toList.take b).drop a ++ (e.x.data.toList ++ outL s e.t r) := by
  unfold outL
  simp only [madeL, lastT, List.append_assoc]
  rw [hb, piece_toList]

theorem drop_take_split (L : List UInt8) (a b : Nat) (h : a ≤ b) : L.drop a = (L.take b).drop a ++ L.drop b := by
  have h1 : L = L.take b ++ L.drop b := (List.take_append_drop b L).symm
  by_cases hb : b ≤ L.length
  · conv => lhs; rw [h1]
    rw [List.drop_append_of_le_length (by rw [List.length_take]; omega)]
  · rw [List.drop_eq_nil_of_le (by omega : L.length ≤ b), List.append_nil, List.take_of_length_le (by omega)]

/-- What was made is undone; what was undone is made again. -/
theorem undo (s T : ByteArray) (hs : s.size ≤ 1000) : ∀ (f t m : Int) (l : List Ed) (p : Nat), rightG f t s.size l = true → (∀ e ∈ l, Small e) → 0 ≤ t → t + m = p → T.data.toList.drop p = outL s t l →
    -100000 ≤ m - 1000 * l.length → m + 4 * l.length ≤ 100000 →
    outL T p ((placed m l).map (bkE s)) = s.data.toList.drop t.toNat ∧ (placed (-m) ((placed m l).map (bkE s))).map (bkE T) = l
  | f, t, m, [], p, _, _, h0, hp, hT, _, _ => by
    obtain ⟨a, rfl⟩ : ∃ a : Nat, t = a := ⟨t.toNat, by omega⟩
    simp only [placed, List.map_nil, and_true]
    rw [outL_nil, hT, outL_nil]
    rfl
  | f, t, m, e :: r, p, h, hsm, h0, hp, hT, hm1, hm2 => by
    simp only [rightG, bad, Bool.and_eq_true, Bool.not_eq_true', Bool.or_eq_false_iff, decide_eq_false_iff_not] at h
    have hse := hsm e (List.mem_cons_self ..)
    have hg := grow_small hse
    obtain ⟨q1, q2, q3, q4⟩ := hse
    simp only [List.length_cons] at hm1 hm2
    obtain ⟨a, rfl⟩ : ∃ a : Nat, t = a := ⟨t.toNat, by omega⟩
    obtain ⟨b, hb⟩ : ∃ b : Nat, e.f = b := ⟨e.f.toNat, by omega⟩
    obtain ⟨c, hc⟩ : ∃ c : Nat, e.t = c := ⟨e.t.toNat, by omega⟩
    have w1 : wr (e.f + m) = e.f + m := IntWalk.wrap64_in _ (by omega)
    have w2 : wr (e.f + m + (e.x.size : Int)) = e.f + m + e.x.size := IntWalk.wrap64_in _ (by omega)
    have w3 : wr (m + grow e) = m + growI e := by rw [hg.1]; exact IntWalk.wrap64_in _ (by omega)
    have hgi : growI e = (e.x.size : Int) - (e.t - e.f) := rfl
    have hb1 : bkE s (wr (e.f + m), e) = ⟨e.f + m, e.f + m + e.x.size, piece s e.f e.t⟩ := by
      unfold bkE
      simp only [w1, w2]
    obtain ⟨q, hq⟩ : ∃ q : Nat, e.f + m = q := ⟨(e.f + m).toNat, by omega⟩
    obtain ⟨p', hp'⟩ : ∃ p' : Nat, e.f + m + e.x.size = p' := ⟨(e.f + m + e.x.size).toNat, by omega⟩
    rw [outL_cons s a e r b hb] at hT
    have hlA : ((s.data.toList.take b).drop a).length = b - a := by rw [List.length_drop, List.length_take, size_toList]; omega
    have hTd : T.data.toList.drop q = e.x.data.toList ++ outL s e.t r := by
      have : T.data.toList.drop q = (T.data.toList.drop p).drop (b - a) := by rw [List.drop_drop]; congr 1; omega
      rw [this, hT, List.drop_left' hlA]
    have hTd2 : T.data.toList.drop p' = outL s e.t r := by
      have : T.data.toList.drop p' = (T.data.toList.drop q).drop e.x.size := by rw [List.drop_drop]; congr 1; omega
      rw [this, hTd, List.drop_left' (size_toList _)]
    have ih := undo s T hs e.f e.t (m + growI e) r p' h.2 (fun x hx => hsm x (List.mem_cons_of_mem _ hx)) (by omega) (by omega) hTd2 (by omega) (by omega)
    have hTt : (T.data.toList.take q).drop p = (s.data.toList.take b).drop a := by
      rw [List.drop_take, hT, show q - p = b - a by omega, ← hlA, List.take_left]
    have hTx : piece T (e.f + m) (e.f + m + e.x.size) = e.x := by
      refine ba_ext ?_
      rw [hq, show (q : Int) + (e.x.size : Int) = ((q + e.x.size : Nat) : Int) by omega, piece_toList, List.drop_take, hTd, show q + e.x.size - q = e.x.size by omega, ← size_toList e.x, List.take_left]
    have hpz : ((piece s e.f e.t).size : Int) = e.t - e.f := by rw [piece_size]; omega
    simp only [placed, List.map_cons, hb1, w3]
    constructor
    · rw [outL_cons T p _ _ q hq]
      have e1 : (⟨e.f + m, e.f + m + e.x.size, piece s e.f e.t⟩ : Ed).t = (p' : Int) := hp'
      rw [e1, ih.1, hTt]
      show (s.data.toList.take b).drop a ++ ((piece s e.f e.t).data.toList ++ _) = _
      rw [hb, hc, piece_toList, Int.toNat_natCast, Int.toNat_natCast, ← drop_take_split _ b c (by omega), ← drop_take_split _ a b (by omega)]
    · have hg2 : grow (⟨e.f + m, e.f + m + e.x.size, piece s e.f e.t⟩ : Ed) = -growI e := by
        show wr (((piece s e.f e.t).size : Int) - wr (e.f + m + e.x.size - (e.f + m))) = _
        rw [hpz]
        have w5 : wr (e.f + m + (e.x.size : Int) - (e.f + m)) = (e.x.size : Int) := by rw [show e.f + m + (e.x.size : Int) - (e.f + m) = (e.x.size : Int) by omega]; exact IntWalk.wrap64_in _ (by omega)
        rw [w5]
        have w6 : wr (e.t - e.f - (e.x.size : Int)) = e.t - e.f - e.x.size := IntWalk.wrap64_in _ (by omega)
        rw [w6, hgi]
        omega
      have w7 : wr (-m + -growI e) = -(m + growI e) := by rw [show -m + -growI e = -(m + growI e) by omega]; exact IntWalk.wrap64_in _ (by omega)
      have w8 : wr (e.f + m + -m) = e.f := by rw [show e.f + m + -m = e.f by omega]; exact IntWalk.wrap64_in _ (by omega)
      simp only [hg2, w7]
      rw [ih.2]
      have hbE : bkE T (wr (e.f + m + -m), ⟨e.f + m, e.f + m + e.x.size, piece s e.f e.t⟩) = e := by
        unfold bkE
        simp only [w8, hTx, hpz]
        have w9 : wr (e.f + (e.t - e.f)) = e.t := by rw [show e.f + (e.t - e.f) = e.t by omega]; exact IntWalk.wrap64_in _ (by omega)
        rw [w9]
      rw [hbE]

theorem sumX_back (s : ByteArray) : ∀ (m : Int) (l : List Ed), sumX ((placed m l).map (bkE s)) ≤ l.length * s.size
  | _, [] => by simp [placed, sumX]
  | m, e :: r => by
    have ih := sumX_back s (wr (m + grow e)) r
    have hp := piece_size s e.f e.t
    simp only [placed, List.map_cons, sumX, List.length_cons, bkE]
    rw [Nat.add_mul]
    omega
theorem backL_length (s : ByteArray) (l : List Ed) : (backL s l).length = l.length := by unfold backL; rw [List.length_map, placed_length]

theorem undone (s : ByteArray) (hs : s.size ≤ 1000) (l : List Ed) (hsm : ∀ e ∈ l, Small e) (hln : l.length ≤ 10) (hr : rightF l s.size = true) (T : ByteArray) (hT : T.data.toList = madeAll s l) :
    madeAll T (backL s l) = s.data.toList ∧ backL T (backL s l) = l := by
  have hrG : rightG (-1) 0 s.size l = true := by unfold rightF at hr; rw [Bool.and_eq_true] at hr; exact hr.2
  have h := undo s T hs (-1) 0 0 l 0 hrG hsm (by omega) (by omega) (by rw [List.drop_zero, hT]; rfl) (by omega) (by omega)
  refine ⟨?_, ?_⟩
  · have := h.1
    exact this
  · have := h.2
    exact this
theorem applyR_size (s : ByteArray) (es : List Ed) : (applyR s es).1.size ≤ s.size + sumX es := by
  unfold applyR
  split
  · rename_i hr
    have hrG : rightG (-1) 0 s.size es = true := by unfold rightF at hr; rw [Bool.and_eq_true] at hr; exact hr.2
    have h1 := madeL_len s (-1) 0 s.size es hrG (by omega)
    have h2 := right_bd (-1) 0 s.size es hrG (by omega) (by omega)
    have h3 := piece_size s (lastT 0 es) s.size
    show (madeAll s es).toArray.size ≤ _
    unfold madeAll
    rw [List.size_toArray, List.length_append, size_toList]
    omega
  · show 0 ≤ _
    omega

set_option maxRecDepth 100000 in
set_option maxHeartbeats 4000000 in
theorem walk (s : ByteArray) (v : Value) (bs : List Int) (w : World) (hv : law.BytesAt w v bs) :
    Calls Try.prog 5 #[.string s, v] w fun e w' => e = .returned (.bool true) ∧ Below w.heap.size w w' := by
  by_cases h200 : (200 : Int) < (s.size : Int)
  · have t0 : decide ((200 : Int) < (s.size : Int)) = true := decide_eq_true h200
    clear hv
    go_enter Try.func5, Try.ntmps5
    go_wp2_with fail
    ((with_reducible refine (known_calls _).mono ?_); rintro e w1 ⟨rfl, hb1⟩)
    go_wp2_with fail
    go_ret
    exact ⟨rfl, hb1⟩
  · have t0 : decide ((200 : Int) < (s.size : Int)) = false := decide_eq_false h200
    have HED := Lib.hid (edits_calls v bs s.size (by omega) w hv)
    have hsm := edsF_small bs (s.size : Int) (by omega)
    have hln := edsF_length bs (s.size : Int)
    generalize edsF bs (s.size : Int) = es at hsm hln HED
    have hsx := sumX_small es hsm
    clear hv
    cases hr : rightF es s.size with
    | false =>
      have HRT := Lib.hid (fun v w (h : EdsAt w.heap.size w v es) => right_calls v es s.size w h false hr)
      clear hsm hr
      go_enter Try.func5, Try.ntmps5
      go_wp2_with fail
      ((with_reducible refine HED.out.mono ?_); rintro e w1 ⟨u, rfl, hu, hb1⟩)
      go_wp2_with fail
      ((with_reducible refine (HRT.out _ _ hu).mono ?_); rintro e w2 ⟨rfl, hb2⟩)
      clear hu
      go_wp2_with fail
      ((with_reducible refine (known_calls _).mono ?_); rintro e w3 ⟨rfl, hb3⟩)
      go_wp2_with fail
      go_ret
      exact ⟨rfl, Below.step (Below.step hb1 hb2) hb3⟩
    | true =>
      have HRT := Lib.hid (fun v w (h : EdsAt w.heap.size w v es) => right_calls v es s.size w h true hr)
      have hap : applyR s es = (⟨(madeAll s es).toArray⟩, 0) := by unfold applyR; rw [if_pos hr]
      have hbk : backR s es = (backL s es, 0) := by unfold backR; rw [if_pos hr]
      have hTs := applyR_size s es
      rw [hap] at hTs
      obtain ⟨T, hT⟩ : ∃ T : ByteArray, (⟨(madeAll s es).toArray⟩ : ByteArray) = T := ⟨_, rfl⟩
      have hTl : T.data.toList = madeAll s es := by rw [← hT]
      rw [hT] at hap hTs
      have hTz : T.size ≤ s.size + sumX es := hTs
      have hud := undone s (by omega) es hsm hln hr T hTl
      have hsb := sumX_back s 0 es
      have hbl := backL_length s es
      have hsb2 : sumX (backL s es) ≤ 2000 := by
        have : es.length * s.size ≤ 10 * 200 := Nat.mul_le_mul hln (by omega)
        unfold backL; omega
      have HAP := Lib.hid (fun v w (h : EdsAt w.heap.size w v es) => apply_at s v es w h (by omega) T 0 hap)
      have HBK := Lib.hid (fun v w (h : EdsAt w.heap.size w v es) => back_at s (by omega) v es w h (backL s es) 0 hbk)
      generalize backL s es = ms at hud hbl hsb2 HBK
      cases hr2 : rightF ms T.size with
      | true =>
        have HR2 := Lib.hid (fun v w (h : EdsAt w.heap.size w v ms) => right_calls v ms T.size w h true hr2)
        have HAP2 := Lib.hid (fun v w (h : EdsAt w.heap.size w v ms) => apply_at T v ms w h (by omega) s 0 (by unfold applyR; rw [if_pos hr2]; refine Prod.ext (ba_ext ?_) rfl; exact hud.1))
        have HBK2 := Lib.hid (fun v w (h : EdsAt w.heap.size w v ms) => back_at T (by omega) v ms w h es 0 (by unfold backR; rw [if_pos hr2, hud.2]))
        have hll : ((ms.length : Int) == (es.length : Int)) = true := by rw [hbl]; simp
        clear hsm hr hap hbk hTs hT hTl hud hsb hr2
        go_enter Try.func5, Try.ntmps5
        go_wp2_with fail
        ((with_reducible refine HED.out.mono ?_); rintro e w1 ⟨u, rfl, hu, hb1⟩)
        go_wp2_with fail
        ((with_reducible refine (HRT.out _ _ hu).mono ?_); rintro e w2 ⟨rfl, hb2⟩)
        have hu2 := hu.next hb2
        go_wp2_with fail
        ((with_reducible refine (HAP.out _ _ hu2).mono ?_); rintro e w3 ⟨rfl, hb3⟩)
        have hu3 := hu2.next hb3
        go_wp2_with fail
        ((with_reducible refine (HBK.out _ _ hu3).mono ?_); rintro e w4 ⟨mv, rfl, hm4, hb4⟩)
        have hu4 := hu3.next hb4
        go_wp2_with fail
        ((with_reducible refine (HAP2.out _ _ hm4).mono ?_); rintro e w5 ⟨rfl, hb5⟩)
        have hm5 := hm4.next hb5
        have hu5 := hu4.next hb5
        go_wp2_with fail
        ((with_reducible refine (HBK2.out _ _ hm5).mono ?_); rintro e w6 ⟨kv, rfl, hk6, hb6⟩)
        have hm6 := hm5.next hb6
        have hu6 := hu5.next hb6
        go_wp2_with fail
        ((with_reducible refine (known_calls _).mono ?_); rintro e w7 ⟨rfl, hb7⟩)
        have hm7 := hm6.next hb7
        have hu7 := hu6.next hb7
        have hk7 := hk6.next hb7
        go_wp2_with fail
        ((with_reducible refine (HR2.out _ _ hm7).mono ?_); rintro e w8 ⟨rfl, hb8⟩)
        have hu8 := hu7.next hb8
        have hk8 := hk7.next hb8
        go_wp2_with fail
        ((with_reducible refine (refSame_calls kv u es _ _ _ hk8 hu8).mono ?_); rintro e w9 ⟨rfl, hb9⟩)
        replace hb9 := drew_bel hb9
        obtain ⟨ao, cap, rfl, _, _⟩ := hu8
        obtain ⟨ao', cap', rfl, _, _⟩ := hm7
        clear hu hu2 hu3 hu4 hu5 hu6 hu7 hm4 hm5 hm6 hk6 hk7 hk8
        go_wp2_with fail
        go_ret
        exact ⟨rfl, Below.step (Below.step (Below.step (Below.step (Below.step (Below.step (Below.step (Below.step hb1 hb2) hb3) hb4) hb5) hb6) hb7) hb8) hb9⟩
      | false =>
        have HR2 := Lib.hid (fun v w (h : EdsAt w.heap.size w v ms) => right_calls v ms T.size w h false hr2)
        have HAP2 := Lib.hid (fun v w (h : EdsAt w.heap.size w v ms) => apply_at T v ms w h (by omega) ⟨#[]⟩ 1 (by unfold applyR; rw [if_neg (by rw [hr2]; simp)]))
        have HBK2 := Lib.hid (fun v w (h : EdsAt w.heap.size w v ms) => back_at T (by omega) v ms w h [] 1 (by unfold backR; rw [if_neg (by rw [hr2]; simp)]))
        have hll : ((ms.length : Int) == (es.length : Int)) = true := by rw [hbl]; simp
        clear hsm hr hap hbk hTs hT hTl hud hsb hr2
        go_enter Try.func5, Try.ntmps5
        go_wp2_with fail
        ((with_reducible refine HED.out.mono ?_); rintro e w1 ⟨u, rfl, hu, hb1⟩)
        go_wp2_with fail
        ((with_reducible refine (HRT.out _ _ hu).mono ?_); rintro e w2 ⟨rfl, hb2⟩)
        have hu2 := hu.next hb2
        go_wp2_with fail
        ((with_reducible refine (HAP.out _ _ hu2).mono ?_); rintro e w3 ⟨rfl, hb3⟩)
        have hu3 := hu2.next hb3
        go_wp2_with fail
        ((with_reducible refine (HBK.out _ _ hu3).mono ?_); rintro e w4 ⟨mv, rfl, hm4, hb4⟩)
        go_wp2_with fail
        ((with_reducible refine (HAP2.out _ _ hm4).mono ?_); rintro e w5 ⟨rfl, hb5⟩)
        have hm5 := hm4.next hb5
        go_wp2_with fail
        ((with_reducible refine (HBK2.out _ _ hm5).mono ?_); rintro e w6 ⟨kv, rfl, hk6, hb6⟩)
        have hm6 := hm5.next hb6
        go_wp2_with fail
        ((with_reducible refine (known_calls _).mono ?_); rintro e w7 ⟨rfl, hb7⟩)
        have hm7 := hm6.next hb7
        go_wp2_with fail
        ((with_reducible refine (HR2.out _ _ hm7).mono ?_); rintro e w8 ⟨rfl, hb8⟩)
        obtain ⟨ao, cap, rfl, _, _⟩ := hu
        obtain ⟨ao', cap', rfl, _, _⟩ := hm7
        clear hu2 hu3 hm4 hm5 hm6 hk6
        go_wp2_with fail
        go_ret
        exact ⟨rfl, Below.step (Below.step (Below.step (Below.step (Below.step (Below.step (Below.step hb1 hb2) hb3) hb4) hb5) hb6) hb7) hb8⟩

set_option maxRecDepth 100000 in
theorem lifted (os : Os) (started : os.Started) (H : Type) (enc : TypeId × Value → H) :
    ReturnsInHanded {} Try.checked os 5 .any (Rows.editBackSpec.pre6 enc Try.prog Try.f5 Rows.editBackRow.domain false) (Rows.editBackSpec.post enc Try.prog Try.f5 false true false false) := by
  refine returnsInHanded_of_change (C := Try.checked) law.own started (by kernel_rfl) Try.func5
    (ChangeSpec.witness6 (enc := enc) (C := Try.checked) false ⟨#[], #[.string ⟨#[]⟩, .slice none 0 0], []⟩ 8 (by kernel_rfl) (by kernel_rfl) (by kernel_rfl) (by kernel_rfl)) ?_
  intro W base args ds gs before hval0 hW _ _
  have hval : ∀ (j : Nat) t v, Try.f5.params[j]? = some t → args[j]? = some v → Value.okWide Try.prog W .any base t v := hval0
  have hW' := hW
  obtain ⟨p, q, hA0, hV, rfl, _, _⟩ := hW
  have hA : DataW.TrodAll enc Try.prog W 0 (fun _ => true) true Try.f5.params.toList args.toList ds p := hA0
  rw [Try.params5] at hA hval
  obtain ⟨v0, v1, d0, d1, p0, p1, rfl, rfl, rfl, h0, h1⟩ := trodAll_two hA
  obtain ⟨rfl, rfl⟩ := trodVars_none hV
  obtain ⟨s, rfl, rfl, rfl, _⟩ := open_string Try.underlying9 (hval 0 9 v0 rfl rfl) h0
  obtain ⟨bs, hbs⟩ := law.open_bytes (hval 1 23 v1 rfl rfl) h1
  refine (walk s v1 bs W hbs).mono fun e W' ⟨he, hb⟩ => ⟨_, he, ?_⟩
  exact law.law_post rfl hW' rfl (by kernel_rfl) (by kernel_rfl) hb

/-- EditBack, for every input. -/
theorem holds : Rows.EditBackSaid :=
  OpenClaim.holds_of_wide 5 Try.f5 rfl rfl rfl rfl rfl rfl rfl ⟨rfl, rfl, rfl, rfl, rfl⟩ rfl rfl rfl rfl rfl (by kernel_rfl) Try.func5 (by kernel_rfl)
    (of_decide_eq_true (by kernel_rfl)) (by unfold Func.isWrapper; first | (rw [if_pos (by decide +kernel)]; kernel_rfl) | (rw [if_neg (by decide +kernel)]; exact ⟨rfl, rfl⟩))
    (fun os started H enc _ => lifted os started H enc)
end Go.Proofs.Ytepniobmhplphaa.editBack
