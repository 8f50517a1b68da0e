/-
  A region that draws its order, by an invariant: each operation is walked once, whatever has been done before it. No program.
-/
import Derived.OwnWalkIn
import Derived.OrdersIn
import Derived.TacticsIn
namespace Go.Proofs.YtbdkemgfdghbkaaDoor.rinv

section
variable {F : Fence} {n : Nat} {P : Program} {ops : Array Oper} {Q : Exit → Act → World → Prop} {md : Region.Mode}

/-- What has been done, as a function. -/
def done (listed : Array Bool) (k : Nat) : Bool := listed.getD k false
theorem ready_mem {listed : Array Bool} {i : Nat} (h : i ∈ Region.ready md ops listed) :
    i < ops.size ∧ listed.getD i true = false ∧ ((ops[i]?).map (·.after.all fun e => !Region.binds md e || done listed e.on)).getD false = true := by
  unfold Region.ready at h
  rw [List.mem_filter, List.mem_range] at h
  simp only [Bool.and_eq_true, Bool.not_eq_true'] at h
  exact ⟨h.1, h.2.1, h.2.2⟩

theorem ready_of {listed : Array Bool} {i : Nat} (hi : i < ops.size) (hs : listed.size = ops.size) (hd : done listed i = false) (ha : ((ops[i]?).map (·.after.all fun e => !Region.binds md e || done listed e.on)).getD false = true) : i ∈ Region.ready md ops listed := by
  unfold Region.ready
  rw [List.mem_filter, List.mem_range]
  refine ⟨hi, ?_⟩
  simp only [Bool.and_eq_true, Bool.not_eq_true']
  refine ⟨?_, ha⟩
  unfold done at hd
  rw [Array.getD_eq_getD_getElem?, Array.getElem?_eq_getElem (by omega)] at hd ⊢
  exact hd

theorem count_set {l : List Bool} {i : Nat} (h : l[i]? = some false) : (l.set i true).count false + 1 = l.count false := by
  induction l generalizing i with
  | nil => simp at h
  | cons b r ih =>
    cases i with
    | zero => simp at h; subst h; simp
    | succ i =>
      have h' : r[i]? = some false := by simpa using h
      have := ih h'
      simp only [List.set_cons_succ, List.count_cons]
      omega

theorem wpAnyIn_inv (Inv : Array Bool → Act → World → Prop)
    (hstep : ∀ listed a w i, Inv listed a w → i ∈ Region.ready md ops listed → wpOpIn F n P ops Q i (Inv (listed.setIfInBounds i true)) a w)
    (hend : ∀ listed a w, Inv listed a w → Region.ready md ops listed = [] → Q .normal a w) :
    ∀ fuel listed a w, listed.toList.count false ≤ fuel → Inv listed a w → wpAnyIn F n P md ops Q fuel listed a w := by
  have hdown : ∀ (listed : Array Bool) i, i ∈ Region.ready md ops listed → (listed.setIfInBounds i true).toList.count false + 1 = listed.toList.count false := by
    intro listed i hi
    obtain ⟨_, h2, _⟩ := ready_mem hi
    rw [Array.toList_setIfInBounds]
    refine count_set ?_
    cases hq : listed[i]? with
    | none => simp [Array.getD_eq_getD_getElem?, hq] at h2
    | some b =>
      have : b = false := by simpa [Array.getD_eq_getD_getElem?, hq] using h2
      rw [← Array.getElem?_toList] at hq
      rw [hq, this]
  intro fuel
  induction fuel with
  | zero =>
    intro listed a w hc hI
    have hr : Region.ready md ops listed = [] := by
      cases hr : Region.ready md ops listed with
      | nil => rfl
      | cons i r =>
        have := hdown listed i (by rw [hr]; exact List.mem_cons_self ..)
        omega
    exact ⟨hr, hend listed a w hI hr⟩
  | succ fuel ih =>
    intro listed a w hc hI
    refine ⟨fun hr => hend listed a w hI hr, fun i hi => ?_⟩
    have := hdown listed i hi
    exact wpOpIn_mono (fun a' w' h => ih _ a' w' (by omega) h) (hstep listed a w i hI hi)

theorem wpOpIn_of_list {i : Nat} {o : Oper} {K : Act → World → Prop} {a : Act} {w : World} (ho : ops[i]? = some o) (h : wpListIn F n P ops (Exit.then K Q) [o] a w) : wpOpIn F n P ops Q i K a w := by
  unfold wpOpIn
  rw [ho]
  simp only [wpListIn] at h ⊢
  have key : ∀ r : Result Next, Oper.uponIn F n P o a (fun a w => Exit.then K Q .normal a w) (Exit.then K Q) r → Oper.uponIn F n P o a K Q r := by
    intro r h
    cases r with
    | ok x w' => cases x <;> exact h
    | halt x w' => cases x <;> exact h
  split
  · rename_i hw
    rw [if_pos hw] at h
    exact ⟨h.1, key _ h.2⟩
  · rename_i hw
    rw [if_neg hw] at h
    exact h

theorem done_set {listed : Array Bool} {i : Nat} (h : listed.getD i true = false) (k : Nat) : done (listed.setIfInBounds i true) k = ((k == i) || done listed k) := by
  unfold done
  have hi : i < listed.size := by
    rcases Nat.lt_or_ge i listed.size with h' | h'
    · exact h'
    · simp [Array.getD_eq_getD_getElem?, Array.getElem?_eq_none h'] at h
  by_cases e : k = i
  · subst e
    simp [Array.getD_eq_getD_getElem?, hi]
  · simp [Array.getD_eq_getD_getElem?, e, Ne.symm e]
theorem done_not {listed : Array Bool} {i : Nat} (h : listed.getD i true = false) : done listed i = false := by
  unfold done
  rw [Array.getD_eq_getD_getElem?] at h ⊢
  cases hq : listed[i]? with
  | none => rfl
  | some b => rw [hq] at h; simpa using h
end
end Go.Proofs.YtbdkemgfdghbkaaDoor.rinv
