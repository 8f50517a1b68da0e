/-
  A slice of edits as cells; subeditorlaw02.known: true, whatever the world.
-/
import Derived.Test.YtepniobmhplphaaEdApply
import Derived.Test.YtepniobmhplphaaLaw
namespace Go.Proofs.Ytepniobmhplphaa.ed
open Go.RowKit
set_option linter.unusedVariables false

def flat (es : List Ed) : List Value := es.flatMap fun e => [.int .i64 e.f, .int .i64 e.t, .string e.x]
theorem flat_length : ∀ es, (flat es).length = es.length * 3
  | [] => rfl
  | e :: r => by have := flat_length r; simp only [flat, List.flatMap_cons, List.length_append, List.length_cons, List.length_nil] at *; omega
theorem flat_get : ∀ (es : List Ed) (i : Nat) (e : Ed), es[i]? = some e → (flat es)[i * 3]? = some (.int .i64 e.f) ∧ (flat es)[i * 3 + 1]? = some (.int .i64 e.t) ∧ (flat es)[i * 3 + 2]? = some (.string e.x)
  | [], i, e, h => by simp at h
  | a :: r, 0, e, h => by simp at h; subst h; simp [flat]
  | a :: r, i + 1, e, h => by
    have ih := flat_get r i e (by simpa using h)
    have e0 : flat (a :: r) = [.int .i64 a.f, .int .i64 a.t, .string a.x] ++ flat r := rfl
    have key : ∀ j, (flat (a :: r))[(i + 1) * 3 + j]? = (flat r)[i * 3 + j]? := fun j => by
      rw [e0, List.getElem?_append_right (by simp; omega)]
      congr 1
      simp
      omega
    exact ⟨(key 0).trans ih.1, (key 1).trans ih.2.1, (key 2).trans ih.2.2⟩

/-- What lies in a block, as a slice of edits. -/
theorem EdsAt.block {W : World} {g cap : Nat} {cur : Array Value} {fz : Nat × Nat} {es : List Ed} (hg : W.heap[g]? = some (.cells cur 44 fz)) (hc : cur.toList.take (es.length * 3) = flat es) (hm : es.length ≤ maxLen) :
    EdsAt W.heap.size W (.slice (some ⟨g, 0, none⟩) es.length cap) es := by
  refine ⟨_, cap, rfl, hm, fun i e he => ⟨g, 0, rfl, (Array.getElem?_eq_some_iff.1 hg).1, ?_⟩⟩
  obtain ⟨h0, h1, h2⟩ := flat_get es i e he
  have hi : i < es.length := (List.getElem?_eq_some_iff.1 he).1
  have key : ∀ k v, k < es.length * 3 → (flat es)[k]? = some v → W.cell? ⟨g, k, none⟩ = some v := fun k v hk hv => by
    rw [← hc, List.getElem?_take_of_lt hk, Array.getElem?_toList] at hv
    simp [World.cell?, hg, hv]
  rw [Nat.zero_add]
  exact ⟨key _ _ (by omega) h0, key _ _ (by omega) h1, key _ _ (by omega) h2⟩
theorem EdsAt.row {W : World} {base : Nat} {v : Value} {es : List Ed} (h : W.ownsRow base 44 3 v es.length (flat es)) : EdsAt W.heap.size W v es := by
  rcases h.2 with ⟨rfl, hn⟩ | ⟨g, cap, cur, rfl, _, hg, hnc, hcm, _, ht⟩
  · have : es = [] := List.eq_nil_of_length_eq_zero hn
    subst this
    exact ⟨none, 0, rfl, Nat.zero_le _, fun i e he => by simp at he⟩
  · exact EdsAt.block hg ht (by omega)
theorem EdsAt.nil (n : Nat) (W : World) : EdsAt n W (.slice none 0 0) [] := ⟨none, 0, rfl, Nat.zero_le _, fun i e he => by simp at he⟩
theorem EdsAt.new (w : World) (es : List Ed) (cur : Array Value) (h : cur.toList = flat es) (hm : es.length ≤ maxLen) : EdsAt (w.alloc (.cells cur 44)).heap.size (w.alloc (.cells cur 44)) (.slice (some ⟨w.heap.size, 0, none⟩) es.length es.length) es :=
  EdsAt.block (World.alloc_heap_new w _) (by rw [List.take_of_length_le (by rw [h, flat_length]; exact Nat.le_refl _)]; exact h) hm
theorem EdsAt.mono {n m : Nat} {W : World} {v : Value} {es : List Ed} (h : EdsAt n W v es) (hm : n ≤ m) : EdsAt m W v es := by
  obtain ⟨ao, cap, h1, h2, h3⟩ := h
  refine ⟨ao, cap, h1, h2, fun i e he => ?_⟩
  obtain ⟨g, o, e1, hg, c⟩ := h3 i e he
  exact ⟨g, o, e1, by omega, c⟩
theorem EdsAt.next {W W' : World} {v : Value} {es : List Ed} (h : EdsAt W.heap.size W v es) (hb : Below W.heap.size W W') : EdsAt W'.heap.size W' v es := (h.below hb).mono hb.size

theorem Below.next {B : Nat} {w a b : World} (h : Below B w a) (k : Below a.heap.size a b) (hB : B ≤ w.heap.size) : Below B w b := h.trans (k.mono (Nat.le_trans hB h.size))
theorem Below.step {w a b : World} (h : Below w.heap.size w a) (k : Below a.heap.size a b) : Below w.heap.size w b := Below.next h k (Nat.le_refl _)
theorem Below.new (w : World) (o : Obj) : Below w.heap.size w (w.alloc o) := (Below.refl _ w).alloc (Nat.le_refl _) _

set_option maxHeartbeats 1000000 in
theorem diff_same (s : ByteArray) (w : World) : Calls Try.prog 21 #[.string s, .string s] w fun e W' => e = .returned (.slice none 0 0) ∧ Below w.heap.size w W' := by
  go_enter Try.func21, Try.ntmps21
  go_wp2_with fail
  go_ret
  exact ⟨rfl, Below.refl _ _⟩

theorem right_calls (v : Value) (es : List Ed) (m : Int) (w : World) (hes : EdsAt w.heap.size w v es) (b : Bool) (hb : rightF es m = b) :
    Calls Try.prog 15 #[v, .int .i64 m] w fun e W' => e = .returned (.bool b) ∧ Below w.heap.size w W' := by
  subst hb
  exact callsIn_wide.1 (right_in 3 (Nat.le_refl _) v es m w hes)

theorem known_1 (w : World) : Calls Try.prog 23 #[.string ⟨#[97, 98, 99]⟩, .slice (some ⟨w.heap.size, 0, none⟩) 1 1] (w.alloc (.cells #[.int .i64 1, .int .i64 2, .string ⟨#[120, 121]⟩] 44))
    fun e W' => e = .returned (.tuple #[.string ⟨#[97, 120, 121, 99]⟩, .int .u16 0]) ∧ Below (w.heap.size + 1) (w.alloc (.cells #[.int .i64 1, .int .i64 2, .string ⟨#[120, 121]⟩] 44)) W' := by
  have h := apply_calls ⟨#[97, 98, 99]⟩ _ [⟨1, 2, ⟨#[120, 121]⟩⟩] _ (EdsAt.new w [⟨1, 2, ⟨#[120, 121]⟩⟩] #[.int .i64 1, .int .i64 2, .string ⟨#[120, 121]⟩] rfl (by decide)) (by decide)
  have e : applyR ⟨#[97, 98, 99]⟩ [⟨1, 2, ⟨#[120, 121]⟩⟩] = (⟨#[97, 120, 121, 99]⟩, 0) := by rfl
  rw [e, World.size_alloc] at h
  exact h
theorem known_2 (w : World) : Calls Try.prog 23 #[.string ⟨#[97, 98, 99]⟩, .slice (some ⟨w.heap.size, 0, none⟩) 1 1] (w.alloc (.cells #[.int .i64 2, .int .i64 1, .string ⟨#[]⟩] 44))
    fun e W' => e = .returned (.tuple #[.string ⟨#[]⟩, .int .u16 1]) ∧ Below (w.heap.size + 1) (w.alloc (.cells #[.int .i64 2, .int .i64 1, .string ⟨#[]⟩] 44)) W' := by
  have h := apply_calls ⟨#[97, 98, 99]⟩ _ [⟨2, 1, ⟨#[]⟩⟩] _ (EdsAt.new w [⟨2, 1, ⟨#[]⟩⟩] #[.int .i64 2, .int .i64 1, .string ⟨#[]⟩] rfl (by decide)) (by decide)
  have e : applyR ⟨#[97, 98, 99]⟩ [⟨2, 1, ⟨#[]⟩⟩] = (⟨#[]⟩, 1) := by rfl
  rw [e, World.size_alloc] at h
  exact h

set_option maxRecDepth 100000 in
set_option maxHeartbeats 2000000 in
theorem known_calls (w : World) : Calls Try.prog 12 #[] w fun e W' => e = .returned (.bool true) ∧ Below w.heap.size w W' := by
  go_enter Try.func12, Try.ntmps12
  go_wp2_with fail
  ((with_reducible refine (known_1 _).mono ?_); rintro e w1 ⟨rfl, hb1⟩)
  go_wp2_with fail
  ((with_reducible refine (known_2 _).mono ?_); rintro e w2 ⟨rfl, hb2⟩)
  go_wp2_with fail
  ((with_reducible refine (diff_same _ _).mono ?_); rintro e w3 ⟨rfl, hb3⟩)
  go_wp2_with fail
  go_ret
  refine ⟨rfl, Below.step (Below.step (Below.step (Below.step (Below.new w _) (by rw [World.size_alloc]; exact hb1)) (Below.new w1 _)) (by rw [World.size_alloc]; exact hb2)) hb3⟩
end Go.Proofs.Ytepniobmhplphaa.ed
