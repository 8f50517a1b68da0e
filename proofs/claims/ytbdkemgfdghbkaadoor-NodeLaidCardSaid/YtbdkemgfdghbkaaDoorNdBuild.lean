/-
  strings.Builder where somebody else's blocks (D) must stay.
-/
import Derived.Test.YtbdkemgfdghbkaaDoorEdBuild
import Derived.Test.YtbdkemgfdghbkaaDoorSeqD
namespace Go.Proofs.YtbdkemgfdghbkaaDoor.nd
open Go.RowKit Go.Shelf sx ed
set_option linter.unusedVariables false

section
variable {P : Program}
theorem run_append_strD (w : World) (base : Nat) (t u ty e : TypeId) (i : TypeInfo) (ht : P.underlying t = some (.slice e)) (hu : P.underlying u = some .string) (hi : P.info? e = some i) (hz : i.zero = some (.int .u8 0))
    (hsize : i.size = 1) (hby : i.bytes = 1)
    (v : Value) (n : Nat) (xs : List Value) (hown : w.ownsRowF base e 1 v n xs) (s : ByteArray)
    (h63 : n + s.size ≤ maxLen) (hbytes : n + s.size ≤ 140737488355328) (hbase : base ≤ w.heap.size) :
    ∃ v' w', (Builtin.append_ #[t, u] ty #[v, .string s]).run P w = .ok v' w' ∧ w'.ownsRowF base e 1 v' (n + s.size) (xs ++ Lib.strCells s) ∧ w.grownBy w' v.ownBlock ∧ ∀ k, v'.ownBlock = some k → v.ownBlock = some k ∨ w.heap.size ≤ k := by
  obtain ⟨v', w', hr, h2, h3, _⟩ := Lib.run_append_own_stringF (P := P) w base t u ty e i ht hu hi hz hsize hby v n xs hown s h63 hbytes hbase
  refine ⟨v', w', hr, h2, h3, ?_⟩
  rcases id hown.2 with ⟨rfl, rfl⟩ | ⟨g, cap, cur, fz, rfl, hbg, hg, hfz, hnc, hcm, hcs, htake⟩
  · obtain ⟨v2, w2, hr', k2, _, _⟩ := Lib.run_append_own_stringF (P := P) w w.heap.size t u ty e i ht hu hi hz hsize hby _ _ xs ⟨hown.1, .inl ⟨rfl, rfl⟩⟩ s h63 hbytes (Nat.le_refl _)
    rw [hr] at hr'
    cases hr'
    exact fun k e => .inr (k2.lt k e).1
  · have hxl : xs.length = n := by simpa using hown.1
    have hcs' : cur.size = cap := by simpa using hcs
    by_cases hroom : n + s.size ≤ cap
    · have hr' := Lib.run_append_room_stringF (P := P) w t u ty e i ht hu hi hsize g n cap cur fz hg (by simpa using hfz) s hroom (by omega)
      rw [hr] at hr'
      cases hr'
      exact fun k e => .inl e
    · have holds : ∀ j u, xs[j]? = some u → w.cell? ((⟨g, 0, none⟩ : Addr).add j) = some u := hown.cells (g := g) rfl
      have hr' := Lib.run_append_grow_string (P := P) w t u ty e i (.int .u8 0) ht hu hi hz ⟨g, 0, none⟩ n cap xs (by rw [hsize]; simpa using hxl) holds s (by omega) (by unfold maxLen at h63; omega) (by rw [hby]; exact growslice_fits (by omega) (by omega))
      rw [hr] at hr'
      cases hr'
      exact fun k e => .inr (by cases e; exact Nat.le_refl _)
theorem wpList_append_strD {w : World} {ops : Array Oper} {rest : List Oper} {o : Oper} {a : Act} {Q : Exit → Act → World → Prop} (hgd : o.guard = none) (sl x : Operand) (t u : TypeId)
    (ho : o.op = .call { callee := .builtin .append, args := #[sl, x], argTypes := #[t, u] })
    (base : Nat) (e : TypeId) (i : TypeInfo) (ht : P.underlying t = some (.slice e)) (hu : P.underlying u = some .string) (hi : P.info? e = some i) (hz : i.zero = some (.int .u8 0))
    (hsize : i.size = 1) (hby : i.bytes = 1)
    (v : Value) (n : Nat) (xs : List Value) (hs : a.eval sl = v) (hown : w.ownsRowF base e 1 v n xs) (s : ByteArray) (hx : a.eval x = .string s)
    (h63 : n + s.size ≤ maxLen) (hbytes : n + s.size ≤ 140737488355328) (hbase : base ≤ w.heap.size)
    (h : ∀ v' w', w'.ownsRowF base e 1 v' (n + s.size) (xs ++ Lib.strCells s) → w.grownBy w' v.ownBlock → (∀ k, v'.ownBlock = some k → v.ownBlock = some k ∨ w.heap.size ≤ k) → wpList P ops Q rest (a.put o.dst v') w') : wpList P ops Q (o :: rest) a w := by
  refine wpList_plain hgd fun K hK => ?_
  obtain ⟨v', w', hr, h2, h3, h4⟩ := run_append_strD (P := P) w base t u o.type e i ht hu hi hz hsize hby v n xs hown s h63 hbytes hbase
  unfold Oper.wp execOp
  simp only [ho, resolve, invoke, builtin, Sem.run_bind, Sem.run_pure, Result.andThen_ok, List.map_toArray, List.map_cons, List.map_nil, hs, hx, hr]
  exact hK _ _ (h v' w' h2 h3 h4)
end

/-- The builder, none of its blocks among D. -/
def BDp (B b : Nat) (p : Value) (bs : List Value) (D : Nat → Prop) (w : World) : Prop :=
  B ≤ b ∧ ¬ D b ∧ ∃ v, w.heap[b]? = some (.cells #[p, v] 62 (0, 0)) ∧ w.ownsRowF B 5 1 v bs.length bs ∧ v.ownBlock ≠ some b ∧ ∀ k, v.ownBlock = some k → ¬ D k
def BD (B b : Nat) (bs : List Value) (D : Nat → Prop) (w : World) : Prop := BDp B b (.pointer none) bs D w ∨ BDp B b (.pointer (some ⟨b, 0, none⟩)) bs D w
theorem BDp.at {B b : Nat} {p : Value} {bs : List Value} {D : Nat → Prop} {w : World} (h : BDp B b p bs D w) : Lib.BuilderAtF 62 5 B b p bs w := by
  obtain ⟨h1, _, v, h3, h4, h5, _⟩ := h
  exact ⟨h1, v, h3, h4, h5⟩
theorem BD.at {B b : Nat} {bs : List Value} {D : Nat → Prop} {w : World} (h : BD B b bs D w) : BAt B b bs w := h.elim (fun h => .inl h.at) (fun h => .inr h.at)
theorem BD.lt {B b : Nat} {bs : List Value} {D : Nat → Prop} {w : World} (h : BD B b bs D w) : b < w.heap.size := h.at.elim (·.lt) (·.lt)
theorem ownF_keep {W W' : World} {base size n : Nat} {e : TypeId} {v : Value} {xs : List Value} (h : W.ownsRowF base e size v n xs) (hk : ∀ k, v.ownBlock = some k → W'.heap[k]? = W.heap[k]?) : W'.ownsRowF base e size v n xs := by
  refine ⟨h.1, ?_⟩
  rcases h.2 with h2 | ⟨g, cap, cur, fz, rfl, h3, h4, h5⟩
  · exact .inl h2
  · exact .inr ⟨g, cap, cur, fz, rfl, h3, (hk g rfl).trans h4, h5⟩
theorem BDp.keep {B b : Nat} {p : Value} {bs : List Value} {D D' : Nat → Prop} {w w' : World} (h : BDp B b p bs D w) (hk : ∀ k o, w.heap[k]? = some o → (k = b ∨ ¬ D k) → (k = b ∨ ∃ c fz, o = .cells c 5 fz) → w'.heap[k]? = some o) (hD : ∀ k, D' k → D k ∨ w.heap.size ≤ k) : BDp B b p bs D' w' := by
  obtain ⟨h1, h2, v, h3, h4, h5, h6⟩ := h
  have hb := (Array.getElem?_eq_some_iff.1 h3).1
  refine ⟨h1, fun hd => ?_, v, hk b _ h3 (.inl rfl) (.inl rfl), ownF_keep h4 fun k e => ?_, h5, fun k e hd => ?_⟩
  · rcases hD b hd with h | h
    · exact h2 h
    · omega
  · obtain ⟨c, fz, hc⟩ := Lib.ownsRowF_kind h4 k e
    rw [hc]
    exact hk k _ hc (.inr (h6 k e)) (.inr ⟨c, fz, rfl⟩)
  · rcases hD k hd with h | h
    · exact h6 k e h
    · obtain ⟨c, fz, hc⟩ := Lib.ownsRowF_kind h4 k e
      have := (Array.getElem?_eq_some_iff.1 hc).1
      omega
theorem BD.keep {B b : Nat} {bs : List Value} {D D' : Nat → Prop} {w w' : World} (h : BD B b bs D w) (hk : ∀ k o, w.heap[k]? = some o → (k = b ∨ ¬ D k) → (k = b ∨ ∃ c fz, o = .cells c 5 fz) → w'.heap[k]? = some o) (hD : ∀ k, D' k → D k ∨ w.heap.size ≤ k) : BD B b bs D' w' :=
  h.elim (fun h => .inl (h.keep hk hD)) (fun h => .inr (h.keep hk hD))
theorem BD.not {B b : Nat} {bs : List Value} {D : Nat → Prop} {w : World} (h : BD B b bs D w) : ¬ D b := h.elim (fun h => h.2.1) (fun h => h.2.1)
theorem BD.ab {B b : Nat} {bs : List Value} {D D' : Nat → Prop} {w w' : World} (h : BD B b bs D w) (hb : But w.heap.size D w w') (hD : ∀ k, D' k → D k ∨ w.heap.size ≤ k) : BD B b bs D' w' :=
  h.keep (fun k o ho hd _ => (hb.block k (Array.getElem?_eq_some_iff.1 ho).1 (hd.elim (fun e => e ▸ h.not) id)).trans ho) hD
theorem BD.own {B b : Nat} {bs : List Value} {D : Nat → Prop} {w w' : World} {row : Option Nat} (h : BD B b bs D w) (hg : w.grownBy w' row) (hr : ∀ r, row = some r → ∃ o : Obj, w.heap[r]? = some o ∧ o.isCells = false) : BD B b bs D w' := by
  have hbX : ∃ c, w.heap[b]? = some (.cells c 62 (0, 0)) := by
    rcases h with ⟨_, _, v, hb, _⟩ | ⟨_, _, v, hb, _⟩ <;> exact ⟨_, hb⟩
  obtain ⟨c, hbX⟩ := hbX
  refine h.keep (fun k o ho _ hk => (hg.block k (Array.getElem?_eq_some_iff.1 ho).1 (fun e => ?_)).trans ho) (fun k h => .inl h)
  obtain ⟨o', ho', hc'⟩ := hr k e.symm
  rw [ho] at ho'; cases ho'
  rcases hk with rfl | ⟨c, fz, rfl⟩
  · rw [hbX] at ho; cases ho; cases hc'
  · cases hc'
theorem BD.below {B b : Nat} {bs : List Value} {D : Nat → Prop} {w w' : World} (h : BD B b bs D w) (hb : Below w.heap.size w w') : BD B b bs D w' :=
  h.keep (fun k o ho _ _ => (hb.block k (Array.getElem?_eq_some_iff.1 ho).1).trans ho) (fun k h => .inl h)
theorem BD.set {B b c : Nat} {t : TypeId} {u : Value} {bs : List Value} {D : Nat → Prop} {W : World} (h : BD B b bs D W) (hc : Boxed W c t u) (hcb : c ≠ b) (ht : t ≠ 5) (v : Value) : BD B b bs D (W.setCell ⟨c, 0, none⟩ v) :=
  h.keep (fun k o ho _ hk => (Below.heap_setCell _ _ _ k (fun e => by
    rcases hk with rfl | ⟨c', fz, rfl⟩
    · exact hcb e.symm
    · rw [e, show W.heap[c]? = _ from hc] at ho; cases ho; exact ht rfl)).trans ho) (fun k h => .inl h)
theorem BD.fresh (w : World) {B : Nat} (hB : B ≤ w.heap.size) : BD B w.heap.size [] (fun _ => False) (w.alloc (.cells #[.pointer none, .slice none 0 0] 62)) :=
  .inl ⟨hB, id, _, World.alloc_heap_new w _, World.ownsRowF_nil _ _ _ _, by simp [Value.ownBlock], fun _ _ => id⟩

set_option maxHeartbeats 2000000 in
set_option maxRecDepth 100000 in
theorem writeStringD_calls (B b : Nat) (bs : List Value) (D : Nat → Prop) (s : ByteArray) (w : World) (h : BD B b bs D w) (hlen : bs.length + s.size ≤ 140737488355328) (hBw : B ≤ w.heap.size) (hDl : ∀ k, D k → k < w.heap.size) :
    Calls Tryd.prog 40 #[.pointer (some ⟨b, 0, none⟩), .string s] w fun e w' => e = .returned (.tuple #[.int .i64 s.size, .nilIface]) ∧ (BD B b (bs ++ Lib.strCells s) D w' ∧ Below B w w' ∧ Lib.OthersKept 5 (some b) w w' ∧ ∀ k, D k → w'.heap[k]? = w.heap[k]?) := by
  obtain ⟨i0, hi, hz0, hz1, hz2⟩ := info_parts infoB
  have hcc : Calls Tryd.prog 51 #[.pointer (some ⟨b, 0, none⟩)] w fun e w' => e = .returned (.tuple #[]) ∧ BDp B b (.pointer (some ⟨b, 0, none⟩)) bs D w' ∧ Below B w w' ∧ Lib.OthersKept 5 (some b) w w' ∧ (∀ k, D k → w'.heap[k]? = w.heap[k]?) ∧ w'.heap.size = w.heap.size := by
    rcases id h with k | k
    · refine (copyCheck_fresh b w k.at.cell0 k.at.shape k.at.frozen0).mono ?_
      rintro e w' ⟨rfl, rfl⟩
      refine ⟨rfl, ?_, (Below.refl B w).setCell (p := ⟨b, 0, none⟩) k.1 _, (Lib.OthersKept.refl _ _ w).setCell ⟨b, 0, none⟩ rfl _, fun j hj => Below.heap_setCell _ _ _ j (fun e => k.2.1 (by have e' : j = b := e; rw [← e']; exact hj)), by simp⟩
      have hu := k.at.used (.pointer (some ⟨b, 0, none⟩))
      obtain ⟨k1, k2, v, k3, k4, k5, k6⟩ := k
      obtain ⟨_, v2, u1, u2, u3⟩ := hu
      have hv : v2 = v := by
        have e1 : (w.setCell ⟨b, 0, none⟩ (.pointer (some ⟨b, 0, none⟩))).cell? ⟨b, 1, none⟩ = some v2 := by rw [Lib.cell_of_heap u1]; rfl
        have e2 : (w.setCell ⟨b, 0, none⟩ (.pointer (some ⟨b, 0, none⟩))).cell? ⟨b, 1, none⟩ = some v := by
          have e3 : w.cell? ⟨b, 1, none⟩ = some v := by rw [Lib.cell_of_heap k3]; rfl
          rw [World.cell?_setCell_other _ _ _ _ (by intro e; cases e)]
          exact e3
        rw [e1] at e2; cases e2; rfl
      subst hv
      exact ⟨k1, k2, v2, u1, u2, k5, k6⟩
    · refine (copyCheck_used b w k.at.cell0).mono ?_
      rintro e w' ⟨rfl, rfl⟩
      exact ⟨rfl, k, Below.refl B _, Lib.OthersKept.refl _ _ _, fun _ _ => rfl, rfl⟩
  go_enter Tryd.func40, Tryd.ntmps40
  go_wp2_with (go_at_call 51; refine hcc.mono ?_)
  rintro e w1 ⟨rfl, h1, hb1, hk1, hd1, hs1⟩
  obtain ⟨hB, hDb, v, hbk, hown, hne, hDv⟩ := h1
  have c0 : w1.cell? ⟨b, 0, none⟩ = some (.pointer (some ⟨b, 0, none⟩)) := by rw [Lib.cell_of_heap hbk]; rfl
  have c1 : w1.cell? ⟨b, 1, none⟩ = some v := by rw [Lib.cell_of_heap hbk]; rfl
  go_wp2_with (at_builtin; refine wpList_append_strD rfl _ _ 26 9 rfl B 5 i0 Tryd.underlying26 Tryd.underlying9 hi hz0 hz1 hz2 _ _ _ rfl hown s rfl ?c3 ?c4 ?c5 ?_)
  case c3 => unfold maxLen; omega
  case c4 => omega
  case c5 => have := hb1.size; omega
  intro v' w2 hown' hgrow hat
  have hlt : b < w1.heap.size := (Array.getElem?_eq_some_iff.1 hbk).1
  have hb2 : w2.heap[b]? = some (.cells #[.pointer (some ⟨b, 0, none⟩), v] 62 (0, 0)) := (hgrow.block b hlt (fun e => hne e.symm)).trans hbk
  have d0 : w2.cell? ⟨b, 0, none⟩ = some (.pointer (some ⟨b, 0, none⟩)) := by rw [Lib.cell_of_heap hb2]; rfl
  have d1 : w2.cell? ⟨b, 1, none⟩ = some v := by rw [Lib.cell_of_heap hb2]; rfl
  have f1 : w2.frozen? ⟨b, 1, none⟩ = false := Lib.frozen_of_heap hb2 1
  obtain ⟨ao, n', cap, rfl⟩ : ∃ ao n' cap, v' = .slice ao n' cap := by
    rcases hown'.2 with ⟨hv, _⟩ | ⟨g, cap, cur, fz, hv, _⟩
    · exact ⟨_, _, _, hv⟩
    · exact ⟨_, _, _, hv⟩
  go_wp2
  go_ret2
  have hput := Lib.BuilderAtF.put (T := 62) (e := 5) hB hb2 (bs' := bs ++ Lib.strCells s) (by simpa [Lib.strCells_length] using hown') (by decide)
  have hnD : ∀ k, (Value.slice ao n' cap).ownBlock = some k → ¬ D k := fun k e hd => by
    rcases hat k e with h | h
    · exact hDv k h hd
    · have := hDl k hd; omega
  refine ⟨rfl, .inr ?_, ?_, (hk1.grown hgrow (Lib.ownsRowF_kind hown)).setCell ⟨b, 1, none⟩ rfl _, fun k hk => ?_⟩
  · obtain ⟨_, v2, u1, u2, u3⟩ := hput
    have hv : v2 = .slice ao n' cap := by
      have e1 : (w2.setCell ⟨b, 1, none⟩ (.slice ao n' cap)).cell? ⟨b, 1, none⟩ = some v2 := by rw [Lib.cell_of_heap u1]; rfl
      rw [World.cell?_setCell_same _ _ _ d1] at e1
      cases e1; rfl
    subst hv
    exact ⟨hB, hDb, _, u1, u2, u3, hnD⟩
  · exact (hb1.grown hgrow (by have := hb1.size; omega) (fun k hk => (hown.lt k hk).1)).setCell (p := ⟨b, 1, none⟩) hB _
  · rw [Below.heap_setCell _ _ _ k (fun e => hDb (by have e' : k = b := e; rw [← e']; exact hk)), hgrow.block k (by have := hDl k hk; omega) (fun e => hDv k e.symm hk), hd1 k hk]
end Go.Proofs.YtbdkemgfdghbkaaDoor.nd
