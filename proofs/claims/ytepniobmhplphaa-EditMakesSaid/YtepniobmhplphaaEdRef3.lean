/-
  subeditorref02.Back and Shift, subeditorlaw02.heavy: the contracts.
-/
import Derived.Test.YtepniobmhplphaaEdRef2
import Derived.Test.YtepniobmhplphaaEdBack
import Derived.Deep.RegionHeld3
import Derived.Deep.AppendLies
namespace Go.Proofs.Ytepniobmhplphaa.ed
open Go.RowKit
set_option linter.unusedVariables false

theorem flat_snoc' (es : List Ed) (e : Ed) : flat (es ++ [e]) = flat es ++ [.int .i64 e.f, .int .i64 e.t, .string e.x] := by simp [flat]
theorem backL_snoc (s : ByteArray) (l : List Ed) (e : Ed) : backL s (l ++ [e]) = backL s l ++ [⟨wr (e.f + more 0 l), wr (wr (e.f + more 0 l) + e.x.size), piece s e.f e.t⟩] := by
  unfold backL
  rw [placed_append, List.map_append]
  rfl
theorem backL_len (s : ByteArray) (l : List Ed) : (backL s l).length = l.length := by unfold backL; rw [List.length_map, placed_length]
theorem more_snoc (m : Int) (l : List Ed) (e : Ed) : more m (l ++ [e]) = wr (more m l + grow e) := by rw [more_append]; rfl
set_option maxRecDepth 100000 in
set_option maxHeartbeats 4000000 in
theorem refBack_calls (s : ByteArray) (hs : s.size ≤ 140737488355328) (v : Value) (es : List Ed) (w : World) (hes : EdsAt w.heap.size w v es) :
    Calls Try.prog 25 #[.string s, v] w fun e W' => ∃ u, e = .returned (.tuple #[u, .int .i64 (backR s es).2]) ∧ EdsAt W'.heap.size W' u (backR s es).1 ∧ Below w.heap.size w W' := by
  have hR := refRight_calls v es s.size _ w hes
  unfold backR
  cases hr : rightF es s.size with
  | false =>
    rw [hr] at hR
    have HR := Lib.hid hR
    rw [if_neg (by simp)]
    clear hR hr hes
    go_enter Try.func25, Try.ntmps25
    go_wp2_with fail
    ((with_reducible refine HR.out.mono ?_); rintro e w1 ⟨rfl, nq, rfl⟩)
    go_wp2_with fail
    go_ret2
    exact ⟨_, rfl, EdsAt.nil _ _, bel_drewN (Below.refl _ w) _⟩
  | true =>
    rw [hr] at hR
    have HR := Lib.hid hR
    rw [if_pos rfl]
    have hrG : rightG (-1) 0 s.size es = true := by unfold rightF at hr; rw [Bool.and_eq_true] at hr; exact hr.2
    have hlen : es.length ≤ 1000 := by unfold rightF at hr; rw [Bool.and_eq_true] at hr; exact of_decide_eq_true hr.1
    have HG := Lib.hid hrG
    obtain ⟨i0, hi, hz0, hz1, hz2⟩ := info_parts infoE
    obtain ⟨ao, cap, rfl, hmax, hcells⟩ := hes
    have HC := Lib.hid hcells
    clear hmax hR hr hrG hcells
    go_enter Try.func25, Try.ntmps25
    go_wp2_with fail
    ((with_reducible refine HR.out.mono ?_); rintro e w1 ⟨rfl, nq0, rfl⟩)
    go_wp2_with fail
    go_loopw [6, 7, 8] (fun o m i wr => ∃ (k : Nat), i = .int .i64 (k : Int) ∧ m = .int .i64 (more 0 (es.take k)) ∧ k ≤ es.length ∧ wr.ownsRow w.heap.size 44 3 o k (flat (backL s (es.take k))) ∧ Below w.heap.size w wr) (fun _ _ i _ => es.length - (intOf i).toNat)
    case atStart => exact ⟨0, rfl, rfl, Nat.zero_le _, World.ownsRow_nil _ _ _ _, bel_drewN (Below.refl _ w) _⟩
    case round =>
      obtain ⟨k, rfl, rfl, hk, hrow, hB⟩ := hrel
      have hbs := hB.size
      by_cases hlt : k < es.length
      · have g1 : (0 : Int) ≤ (k : Int) := by omega
        have g2 : (k : Int) < (es.length : Int) := by omega
        obtain ⟨e, hel⟩ : ∃ e, es[k]? = some e := ⟨es[k], by simp [hlt]⟩
        obtain ⟨g, o, rfl, hg, c0, c1, c2⟩ := HC.out k e hel
        have c0 := (hB.cell (p := ⟨g, o + k * 3, none⟩) hg).trans c0
        have c1 := (hB.cell (p := ⟨g, o + k * 3 + 1, none⟩) hg).trans c1
        have c2 := (hB.cell (p := ⟨g, o + k * 3 + 2, none⟩) hg).trans c2
        have hspl : es = es.take k ++ e :: es.drop (k + 1) := by
          have h1 := (List.take_append_drop k es).symm
          rw [List.drop_eq_getElem_cons hlt] at h1
          have h2 : es[k] = e := by rw [List.getElem?_eq_getElem hlt] at hel; exact Option.some.inj hel
          rw [h2] at h1
          exact h1
        obtain ⟨hpr, h0, hle, hft, htn, _⟩ := right_next HG.out (by omega) hspl
        have hfl : flat (backL s (es.take (k + 1))) = flat (backL s (es.take k)) ++ [.int .i64 (wrap64 (e.f + more 0 (es.take k))), .int .i64 (wrap64 (wrap64 (e.f + more 0 (es.take k)) + e.x.size)), .string (piece s e.f e.t)] := by
          rw [take_next hel, backL_snoc, flat_snoc']
        have hmo : more 0 (es.take (k + 1)) = wrap64 (more 0 (es.take k) + wrap64 ((e.x.size : Int) - wrap64 (e.t - e.f))) := by rw [take_next hel, more_snoc]; rfl
        obtain ⟨p, hp⟩ : ∃ p : Nat, e.f = (p : Int) := ⟨e.f.toNat, by omega⟩
        obtain ⟨q, hq⟩ : ∃ q : Nat, e.t = (q : Int) := ⟨e.t.toNat, by omega⟩
        rw [hp] at c0 hft hfl hmo
        rw [hq] at c1 htn hft hfl hmo
        have hpq : (p : Int) ≤ (q : Int) := by omega
        have hqs : (q : Int) ≤ (s.size : Int) := by omega
        obtain ⟨M, hM⟩ : ∃ M : Int, more 0 (es.take k) = M := ⟨_, rfl⟩
        rw [hM] at hfl hmo ⊢
        obtain ⟨F, hF⟩ : ∃ F : Int, wrap64 ((p : Int) + M) = F := ⟨_, rfl⟩
        rw [hF] at hfl
        obtain ⟨T, hT⟩ : ∃ T : Int, wrap64 (F + e.x.size) = T := ⟨_, rfl⟩
        rw [hT] at hfl
        have hF2 : wrap64 ((p : Int) + M) = F := hF
        have hT2 : wrap64 (F + (e.x.size : Int)) = T := hT
        have hT3 : IntKind.i64.wrap (F + (e.x.size : Int)) = T := (IntWalk.i64_left _).trans hT2
        have hg' : g < wr.heap.size := by omega
        have hne : (some g : Option Nat) ≠ u6.ownBlock := fun e => by have := (hrow.lt _ e.symm).1; omega
        have HFL := Lib.hid hfl; have HMO := Lib.hid hmo
        clear hel hspl hpr hle h0 hfl hmo hp hq hM hF hT
        go_wp2_with fail
        go_region_held3 (fun w' => w'.cell? ⟨g, o + k * 3, none⟩ = some (.int .i64 (p : Int)) ∧ w'.cell? ⟨g, o + k * 3 + 1, none⟩ = some (.int .i64 (q : Int)) ∧ w'.cell? ⟨g, o + k * 3 + 2, none⟩ = some (.string e.x))
          (first
            | go_keep
            | (go_split_ands
               refine ⟨?_, ?_, ?_⟩
               · (rw [hgrow.cell_far _ (by simp; omega) hne]; assumption)
               · (rw [hgrow.cell_far _ (by simp; omega) hne]; assumption)
               · (rw [hgrow.cell_far _ (by simp; omega) hne]; assumption)))
          ((refine step_append_lies _ (by rfl) _ _ _ (by rfl) w.heap.size 44 i0 _ 3 32 Try.underlying22 hi hz0 hz1 hz2 rfl (by omega) u6 k (flat (backL s (es.take k))) (by rfl) ((hrow.alloc _).drew)
              ⟨wr.heap.size, 0, none⟩ 1 1 [.int .i64 F, .int .i64 T, .string (s.extract p q)] (by rfl) (by rfl) (World.news_of_block (cs := #[.int .i64 F, .int .i64 T, .string (s.extract p q)]) (t := 44) (fr := (0, 0)) (heap_alloc_new wr _)) (by simp [Value.oneCell'])
              (by omega) (by unfold maxLen; omega) (by omega) (by simp; omega) (wr.heap.size + 1) (by simp) ?_; intro gg cap w1 hown1 hgrow hat hlt))
        go_wp2_with fail
        go_quiet (fail)
        go_wp2_with fail
        go_roundw
        case rel => exact ⟨k + 1, by go_num, by rw [HMO.out, IntWalk.wrap64_in ((q : Int) - (p : Int)) (by omega)], by omega, by rw [HFL.out]; exact ownsRow_below hown1 (bel_drewN (Below.refl _ _) _), bel_drewN (((hB.alloc hB.size _).drew).grown hgrow (by simp; omega) (fun j ej => (hrow.lt j ej).1)) _⟩
        case measure => simp [intOf]; omega
      · have hkl : k = es.length := by omega
        subst hkl
        rw [List.take_length] at hrow ⊢
        have hge : decide ((es.length : Int) < (es.length : Int)) = false := by simp
        go_wp2_with fail
        go_ret2
        exact ⟨_, rfl, EdsAt.row (by rw [backL_len]; exact hrow), hB⟩
end Go.Proofs.Ytepniobmhplphaa.ed
