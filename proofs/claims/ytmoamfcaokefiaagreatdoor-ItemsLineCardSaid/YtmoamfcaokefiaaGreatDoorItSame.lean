/-
  The document's comparison of texts, of two rows that hold the same; texts laid behind one another.
-/
import Derived.Test.YtmoamfcaokefiaaGreatDoorItAll
import Derived.Laws.AppendOwnNone
namespace Go.Proofs.YtmoamfcaokefiaaGreatDoor.it
open Go.RowKit Go.Shelf
open sg (lst_len OpsAt)
open lx sx
set_option linter.unusedVariables false

def StrsAt (n : Nat) (W : World) (v : Value) (l : List ByteArray) : Prop :=
  ∃ ao cap, v = .slice ao l.length cap ∧ l.length ≤ maxLen ∧ ∀ (j : Nat) s, l[j]? = some s → ∃ g off, ao = some ⟨g, off, none⟩ ∧ g < n ∧ W.cell? ⟨g, off + j, none⟩ = some (.string s)
theorem StrsAt.below {n m : Nat} {W W' : World} {v : Value} {l : List ByteArray} (h : StrsAt n W v l) (hb : Below m W W') (hm : n ≤ m) : StrsAt n W' v l := by
  obtain ⟨ao, cap, h1, h2, h3⟩ := h
  refine ⟨ao, cap, h1, h2, fun i e he => ?_⟩
  obtain ⟨g, off, e1, hg, c0⟩ := h3 i e he
  exact ⟨g, off, e1, hg, (hb.cell (p := ⟨g, _, none⟩) (Nat.lt_of_lt_of_le hg hm)).trans c0⟩
theorem own_strs {W : World} {base : Nat} {v : Value} {l : List ByteArray} (h : W.ownsRow base 9 1 v l.length (strs l)) : StrsAt W.heap.size W v l := by
  obtain ⟨ao, cap, rfl, hc⟩ := own_len h
  have hm : l.length ≤ maxLen := by
    rcases h.2 with ⟨_, h0⟩ | ⟨g, cap', cur, hv, h2, h3, h4⟩
    · rw [h0]; exact Nat.zero_le _
    · exact Nat.le_trans h4.1 h4.2.1
  refine ⟨ao, cap, rfl, hm, fun j s hs => ?_⟩
  obtain ⟨g, hg, _, hgl, hc⟩ := own_at h (show (strs l)[j]? = some (.string s) by unfold strs; rw [List.getElem?_map, hs]; rfl)
  exact ⟨g, 0, hg, hgl, by rw [Nat.zero_add]; exact hc⟩

set_option maxRecDepth 100000 in
set_option maxHeartbeats 4000000 in
theorem same1_calls (u v : Value) (l : List ByteArray) (w : World) (n : Nat) (ha : StrsAt n w u l) (hb : StrsAt n w v l) :
    Calls Tryz.prog 19 #[u, v] w fun e w' => e = .returned (.bool true) ∧ Below w.heap.size w w' := by
  obtain ⟨ao, cap, rfl, hm, hc⟩ := ha
  obtain ⟨bo, cap2, rfl, _, hc2⟩ := hb
  unfold maxLen at hm
  have HC := Lib.hid hc; have HC2 := Lib.hid hc2
  clear hc hc2
  go_enter Tryz.func19, Tryz.ntmps19
  go_wp2_with fail
  go_loopw [5] (fun i wr => ∃ k : Nat, k ≤ l.length ∧ i = .int .i64 (k : Int) ∧ Below w.heap.size w wr) (fun i _ => l.length - (intOf i).toNat)
  case atStart => exact ⟨0, Nat.zero_le _, rfl, Below.refl _ _⟩
  case round =>
    obtain ⟨k, hk, rfl, hb⟩ := hrel
    by_cases hlt : k < l.length
    · obtain ⟨t, ht⟩ : ∃ t, l[k]? = some t := ⟨_, List.getElem?_eq_getElem hlt⟩
      obtain ⟨g, off, rfl, _, c0⟩ := HC.out k t ht
      obtain ⟨g2, off2, rfl, _, e0⟩ := HC2.out k t ht
      have d0 := (hb.cell (p := ⟨g, off + k, none⟩) (World.block_lt_of_cell? w _ c0)).trans c0
      have d2 := (hb.cell (p := ⟨g2, off2 + k, none⟩) (World.block_lt_of_cell? w _ e0)).trans e0
      have hlt1 : (k : Int) < (l.length : Int) := by omega
      clear c0 e0 ht
      go_wp2_with fail
      go_region
      go_wp2_with fail
      exact ⟨⟨k + 1, by omega, rfl, hb.drew⟩, by simp [intOf]; omega⟩
    · obtain rfl : k = l.length := by omega
      have hge : decide ((l.length : Int) < (l.length : Int)) = false := by simp
      go_wp2_with fail
      go_ret
      exact ⟨rfl, hb⟩
/-- The tokens of what is told, one behind the other, are the source. -/
theorem lex_whole (x : Lx.Lex) (l : List UInt8) (h : (Lx.lexA x l).2 = 0) : Lx.join (Lx.lexA x l).1 = l := by
  generalize hn : l.length = n
  induction n using Nat.strongRecOn generalizing l x with
  | ind n ih =>
    subst hn
    by_cases h0 : l = []
    · subst h0; rw [Lx.lexA_nil]; rfl
    · cases hx : Lx.next x l with
      | error e =>
        rw [Lx.lexA_err hx h0] at h
        simp only at h
        rcases Lx.next_err_ne hx with h1 | h1 | h1 <;> omega
      | ok p =>
        obtain ⟨k, n, y⟩ := p
        have hl := Lx.next_le hx
        rw [Lx.lexA_ok hx h0] at h ⊢
        have h1 := ih (l.drop n).length (by rw [List.length_drop]; omega) y (l.drop n) h rfl
        simp only [Lx.join, List.map_cons, List.flatten_cons]
        unfold Lx.join at h1
        rw [h1, List.take_append_drop]
theorem whole_T (l : List Lx.Tok) : joinT (l.map asTk) = Lx.join l := by
  simp only [joinT, Lx.join, List.map_map, Function.comp_def]
theorem joinT_both (a b : List Tk) : joinT (a ++ b) = joinT a ++ joinT b := by simp [joinT]
theorem runs_part (ts : List Tk) (k : Nat) (x : Run) (h : (runsU ts)[k]? = some x) :
    ts = (ts.take (aheadU ts) ++ ((runsU ts).take k).flatMap (·.l)) ++ (x.l ++ ((runsU ts).drop (k + 1)).flatMap (·.l)) := by
  have h1 := flat_of ts
  have hk := (List.getElem?_eq_some_iff.1 h).1
  have h2 : runsU ts = (runsU ts).take k ++ x :: (runsU ts).drop (k + 1) := by
    have h3 := List.getElem?_eq_some_iff.1 h
    conv => lhs; rw [← List.take_append_drop k (runsU ts)]
    rw [List.drop_eq_getElem_cons hk, h3.2]
  rw [List.append_assoc]
  have h4 : (runsU ts).flatMap (·.l) = ((runsU ts).take k).flatMap (·.l) ++ (x.l ++ ((runsU ts).drop (k + 1)).flatMap (·.l)) := by
    conv => lhs; rw [h2]
    rw [List.flatMap_append, List.flatMap_cons]
  rw [← h4]
  exact h1.symm
theorem run_ne (ts : List Tk) (x : Run) (h : x ∈ runsU ts) : x.l ≠ [] := by
  have : ∀ (a p : Nat) (l : List Tk), ∀ x ∈ runsFrom a p l, x.l ≠ [] := by
    intro a p l
    generalize hn : l.length = m
    induction m using Nat.strongRecOn generalizing a p l with
    | ind m ih =>
      cases l with
      | nil => rw [runsFrom]; intro x hx; cases hx
      | cons t r =>
        rw [runsFrom]
        intro x hx
        rcases List.mem_cons.1 hx with rfl | hx
        · simp
        · exact ih (r.drop (aheadU r)).length (by rw [List.length_drop]; simp at hn; omega) _ _ _ rfl x hx
  exact this _ _ _ x h
/-- An item stands where it says. -/
theorem text_at (s : ByteArray) (ts : List Tk) (hj : joinT ts = s.data.toList) (k : Nat) (x : Run) (h : (runsU ts)[k]? = some x) :
    x.at' + (x.l.headD (0, ⟨#[]⟩)).2.size ≤ s.size ∧ s.extract x.at' (x.at' + (x.l.headD (0, ⟨#[]⟩)).2.size) = (x.l.headD (0, ⟨#[]⟩)).2 := by
  have hp := runs_part ts k x h
  have ha := at_of ts k x h
  obtain ⟨t, r, htr⟩ : ∃ t r, x.l = t :: r := by
    cases hq : x.l with
    | nil => exact absurd hq (run_ne ts x (List.mem_of_getElem? h))
    | cons t r => exact ⟨t, r, rfl⟩
  rw [htr] at hp ⊢
  simp only [List.headD_cons]
  generalize ts.take (aheadU ts) ++ ((runsU ts).take k).flatMap (·.l) = P at hp ha
  rw [hp, joinT_both, joinT_both] at hj
  have hl := joinT_len P
  have hjt : joinT (t :: r) = t.2.data.toList ++ joinT r := by simp [joinT]
  rw [hjt] at hj
  have hs : s.size = s.data.toList.length := (lst_len s).symm
  have hz : t.2.size = t.2.data.toList.length := (lst_len t.2).symm
  rw [ha, ← hl, hz]
  constructor
  · rw [hs, ← hj]; simp only [List.length_append]; omega
  · apply ByteArray.ext
    apply Array.ext'
    rw [ByteArray.data_extract, Array.toList_extract, ← hj]
    simp [List.extract]
/-- An append of a row that is owned. -/
theorem wpList_append_rows {P : Program} (w : World) {ops : Array Oper} {rest : List Oper} {o : Oper} {a : Act} {Q : Exit → Act → World → Prop} (hgd : o.guard = none) (s x : Operand) (t : TypeId)
    (ho : o.op = .call { callee := .builtin .append, args := #[s, x], argTypes := #[t, t] })
    (base : Nat) (e : TypeId) (i : TypeInfo) (z : Value) (size bytes : Nat) (ht : P.underlying t = some (.slice e)) (hi : P.info? e = some i) (hz : i.zero = some z)
    (hsize : i.size = size) (hby : i.bytes = bytes) (hzs : z.cells.size = size) (hsz : 0 < size)
    (v : Value) (n : Nat) (xs : List Value) (hs : a.eval s = v) (hown : w.ownsRow base e size v n xs)
    (b2 : Nat) (u : Value) (m : Nat) (news : List Value) (hx : a.eval x = u) (hu : w.ownsRow b2 e size u m news) (h1 : ∀ u ∈ news, u.oneCell' = true)
    (h63 : n + m ≤ maxLen) (hbytes : (n + m) * bytes ≤ 140737488355328) (hbase : base ≤ w.heap.size)
    (h : ∀ v' w', w'.ownsRow base e size v' (n + m) (xs ++ news) → Below base w w' → wpList P ops Q rest (a.put o.dst v') w') : wpList P ops Q (o :: rest) a w := by
  rcases hu.2 with ⟨rfl, h0⟩ | ⟨g, cap, cur, rfl, h2, h3, h4⟩
  · have hn := hu.1
    rw [h0, Nat.zero_mul] at hn
    have hnil : news = [] := List.length_eq_zero_iff.1 hn
    subst hnil
    subst h0
    refine wpList_append_own_none hgd s x t ho base e i size ht hi v n xs hs hown hx (h v w ?_ (Below.refl _ _))
    rw [List.append_nil]; exact hown
  · refine wpList_append_own w hgd s x t ho base e i z size bytes ht hi hz hsize hby hzs hsz v n xs hs hown ⟨g, 0, none⟩ m cap news hx hu.1 (fun j u hj => ?_) h1 h63 hbytes hbase fun v' w' k1 k2 _ => h v' w' k1 ((Below.refl base w).grown k2 hbase (fun j ej => (hown.lt j ej).1))
    obtain ⟨g', hg, _, _, hc⟩ := own_at hu hj
    obtain rfl : g = g' := by simpa using hg
    unfold Addr.add
    by_cases hj0 : j = 0
    · subst hj0; exact hc
    · simp [hj0]; exact hc
theorem strs_one (l : List ByteArray) : ∀ u ∈ strs l, u.oneCell' = true := by
  intro u hu
  unfold strs at hu
  obtain ⟨t, _, rfl⟩ := List.mem_map.1 hu
  rfl
end Go.Proofs.YtmoamfcaokefiaaGreatDoor.it
