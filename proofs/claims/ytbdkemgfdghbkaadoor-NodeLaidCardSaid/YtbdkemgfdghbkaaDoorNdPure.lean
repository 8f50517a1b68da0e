/-
  node: what paths lead to; what is laid at one. No program.
-/
import Derived.Test.YtbdkemgfdghbkaaDoorNdWith
namespace Go.Proofs.YtbdkemgfdghbkaaDoor.nd
open Go.RowKit sx ed
set_option linter.unusedVariables false

theorem at_step {x z : Nd} {j : Nat} {p : List Int} (h : x.kids.get? j = some z) : x.at ((j : Int) :: p) = z.at p := at_some (Int.natCast_nonneg j) (by simpa using h)
theorem Fo.at_paths : ∀ (f : Fo) (i : Nat) (p : List Nat), p ∈ Fo.paths i f → ∃ j q z, p = (i + j) :: q ∧ f.get? j = some z ∧ ∃ y, z.at (q.map fun (n : Nat) => (n : Int)) = some y
  | .nil, _, _, h => by simp [Fo.paths] at h
  | .cons k t kids r, i, p, h => by
    simp only [Fo.paths, List.mem_append, List.mem_map, List.mem_cons] at h
    rcases h with ⟨q, rfl | hq, rfl⟩ | h
    · exact ⟨0, [], ⟨k, t, kids⟩, rfl, rfl, _, rfl⟩
    · obtain ⟨j, q', z, rfl, hz, y, hy⟩ := Fo.at_paths kids 0 q hq
      refine ⟨0, _, ⟨k, t, kids⟩, rfl, rfl, y, ?_⟩
      rw [List.map_cons, Nat.zero_add, at_step (x := ⟨k, t, kids⟩) hz]
      exact hy
    · obtain ⟨j, q, z, rfl, hz, hy⟩ := Fo.at_paths r (i + 1) p h
      exact ⟨j + 1, q, z, by congr 1; omega, hz, hy⟩
theorem Nd.at_paths {x : Nd} {p : List Nat} (h : p ∈ x.paths) : ∃ y, x.at (p.map fun (n : Nat) => (n : Int)) = some y := by
  simp only [Nd.paths, List.mem_cons] at h
  rcases h with rfl | h
  · exact ⟨x, rfl⟩
  · obtain ⟨j, q, z, rfl, hz, y, hy⟩ := Fo.at_paths x.kids 0 p h
    exact ⟨y, by rw [List.map_cons, Nat.zero_add, at_step hz]; exact hy⟩
theorem Fo.paths_nodup : ∀ (i : Nat) (f : Fo), (Fo.paths i f).Nodup
  | _, .nil => by simp [Fo.paths]
  | i, .cons k t kids r => by
    have h1 := Fo.paths_nodup 0 kids
    have h2 := Fo.paths_nodup (i + 1) r
    have h0 : ([] :: Fo.paths 0 kids).Nodup := List.nodup_cons.2 ⟨fun h => (by obtain ⟨_, _, _, e, _⟩ := Fo.at_paths kids 0 [] h; cases e), h1⟩
    rw [Fo.paths, List.nodup_append]
    refine ⟨List.pairwise_map.2 (h0.imp fun hne e => hne (List.cons.inj e).2), h2, fun a ha b hb e => ?_⟩
    obtain ⟨q, _, rfl⟩ := List.mem_map.1 ha
    obtain ⟨j, q', z, e', _⟩ := Fo.at_paths r (i + 1) b hb
    rw [e'] at e
    have := (List.cons.inj e).1
    omega
theorem Nd.paths_nodup (x : Nd) : x.paths.Nodup := List.nodup_cons.2 ⟨fun h => (by obtain ⟨_, _, _, e, _⟩ := Fo.at_paths x.kids 0 [] h; cases e), Fo.paths_nodup 0 x.kids⟩

/-- A path that leads somewhere, step by step. -/
theorem at_cons {x y : Nd} {i : Int} {p : List Int} (h : x.at (i :: p) = some y) : ∃ z, 0 ≤ i ∧ x.kids.get? i.toNat = some z ∧ z.at p = some y := by
  by_cases hi : 0 ≤ i ∧ i < (x.kids.len : Int)
  · obtain ⟨z, hz⟩ := Fo.get_of_lt (f := x.kids) (i := i.toNat) (by omega)
    exact ⟨z, hi.1, hz, by rw [at_some hi.1 hz] at h; exact h⟩
  · rw [at_none hi] at h; cases h
theorem beyond : ∀ (l : List Int) {x y : Nd} (z : Nd), x.at l = some y → x.at (l ++ [(y.kids.len : Int)]) = none ∧ x.put (l ++ [(y.kids.len : Int)]) z = none
  | [], x, y, z, h => by
    cases h
    exact ⟨at_none (by omega), put_none (by omega)⟩
  | i :: p, x, y, z, h => by
    obtain ⟨u, h0, hu, hy⟩ := at_cons h
    obtain ⟨h1, h2⟩ := beyond p z hy
    refine ⟨by rw [List.cons_append, at_some h0 hu]; exact h1, ?_⟩
    rw [List.cons_append, put_some h0 hu, h2]
    rfl
theorem set_count : ∀ {f : Fo} {i : Nat} {z : Nd} (u : Nd), f.get? i = some z → (f.set i u).count + z.count = f.count + u.count
  | .nil, _, _, _, h => by cases h
  | .cons k t kids r, 0, z, u, h => by cases h; simp [Fo.set, Fo.count, Nd.count]; omega
  | .cons k t kids r, i + 1, z, u, h => by
    have := set_count (f := r) u h
    simp only [Fo.set, Fo.count]
    omega
/-- Two paths that part. -/
def parts : List Int → List Int → Bool
  | i :: p, j :: q => i != j || parts p q
  | _, _ => false
theorem put_at : ∀ (l : List Int) {x y : Nd} (z : Nd), x.at l = some y → ∃ r, x.put l z = some r ∧ r.at l = some z ∧ r.count + y.count = x.count + z.count ∧ ∀ q, parts l q = true → r.at q = x.at q
  | [], x, y, z, h => by
    cases h
    exact ⟨z, rfl, rfl, Nat.add_comm _ _, fun q hq => by simp [parts] at hq⟩
  | i :: p, x, y, z, h => by
    obtain ⟨u, h0, hu, hy⟩ := at_cons h
    obtain ⟨r, h1, h2, h3, h4⟩ := put_at p z hy
    have hlt := Fo.get_lt hu
    refine ⟨{ x with kids := x.kids.set i.toNat r }, by rw [put_some h0 hu, h1]; rfl, ?_, ?_, ?_⟩
    · rw [at_some (x := { x with kids := x.kids.set i.toNat r }) h0 (by show (x.kids.set i.toNat r).get? _ = _; rw [Fo.set_get hlt, if_pos rfl])]
      exact h2
    · have := set_count r hu
      simp only [Nd.count] at h3 this ⊢
      omega
    · intro q hq
      cases q with
      | nil => simp [parts] at hq
      | cons j q =>
        simp only [parts, Bool.or_eq_true, bne_iff_ne, ne_eq] at hq
        by_cases hj : 0 ≤ j ∧ j < (x.kids.len : Int)
        · obtain ⟨v, hv⟩ := Fo.get_of_lt (f := x.kids) (i := j.toNat) (by omega)
          rw [at_some hj.1 hv]
          by_cases hij : i = j
          · subst hij
            rw [hu] at hv; cases hv
            rw [at_some (x := { x with kids := x.kids.set i.toNat r }) h0 (by show (x.kids.set i.toNat r).get? _ = _; rw [Fo.set_get hlt, if_pos rfl])]
            exact h4 q (hq.resolve_left (fun h => h rfl))
          · rw [at_some (x := { x with kids := x.kids.set i.toNat r }) hj.1 (by show (x.kids.set i.toNat r).get? _ = _; rw [Fo.set_get hlt, if_neg (by omega)]; exact hv)]
        · rw [at_none hj, at_none (x := { x with kids := x.kids.set i.toNat r }) (by show ¬ (0 ≤ j ∧ j < ((x.kids.set i.toNat r).len : Int)); rw [Fo.set_len]; exact hj)]
end Go.Proofs.YtbdkemgfdghbkaaDoor.nd
