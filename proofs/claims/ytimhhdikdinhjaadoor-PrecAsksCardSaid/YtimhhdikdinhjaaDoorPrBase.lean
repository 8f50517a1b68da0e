/-
  General: rows that are owned, rows of texts, clones.
-/
import Derived.Test.YtimhhdikdinhjaaDoorSeqX
import Derived.Test.YtimhhdikdinhjaaDoorLaw
import Derived.Test.YtimhhdikdinhjaaDoorShelf
import Derived.Lib.Hide
import Derived.Maps.AppendAt
import Derived.Laws.AppendOwnNone
namespace Go.Proofs.YtimhhdikdinhjaaDoor.pr
open Go.RowKit Go.Shelf sx
set_option linter.unusedVariables false

set_option maxHeartbeats 1000000 in
theorem clone_calls (s : ByteArray) (hs : s.size ≤ 140737488351232) (w : World) :
    Calls Tryd.prog 24 #[.string s] w fun e w' => e = .returned (.string s) ∧ Below w.heap.size w w' := by
  go_enter Tryd.func24, Tryd.ntmps24
  go_wp2_with (go_at_call 28; refine (Tryd.stringslite_Clone s _ (by omega)).mono ?_; rintro e w' ⟨rfl, hb⟩)
  go_ret
  exact ⟨rfl, hb⟩
theorem infoStr : (Tryd.prog.info? 9).map (fun i => (i.zero, i.size, i.bytes)) = some (some (.string ⟨#[]⟩), 1, 16) := by kernel_rfl
def strs (l : List ByteArray) : List Value := l.map .string
theorem strs_snoc (l : List ByteArray) (s : ByteArray) : strs (l ++ [s]) = strs l ++ [.string s] := by simp [strs]
theorem str_new (w : World) (a : Value) (t : TypeId) : ∀ j u, [a][j]? = some u → (w.alloc (.cells #[a] t)).cell? ((⟨w.heap.size, 0, none⟩ : Addr).add j) = some u := by
  intro j u hu
  have hb := (Blk.new w t #[a]).cell j
  match j, hu with
  | 0, hu => cases hu; exact hb
  | n + 1, hu => simp at hu
theorem own_set {W : World} {base : Nat} {e : TypeId} {size n B o : Nat} {v u : Value} {xs : List Value} (h : W.ownsRow base e size v n xs) (hne : (some B : Option Nat) ≠ v.ownBlock) : (W.setCell ⟨B, o, none⟩ u).ownsRow base e size v n xs := by
  refine ⟨h.1, ?_⟩
  rcases h.2 with hn | ⟨g, cap, cur, rfl, h2, h3, h4⟩
  · exact .inl hn
  · exact .inr ⟨g, cap, cur, rfl, h2, (Below.heap_setCell _ _ _ g (fun e' => hne (by simp [Value.ownBlock]; exact e'.symm))).trans h3, h4⟩
theorem own_slice {W : World} {base size n : Nat} {e : TypeId} {v : Value} {xs : List Value} (h : W.ownsRow base e size v n xs) : ∃ ao len cap, v = .slice ao len cap := by
  rcases h.2 with ⟨rfl, _⟩ | ⟨g, cap, cur, rfl, _⟩
  · exact ⟨_, _, _, rfl⟩
  · exact ⟨_, _, _, rfl⟩
theorem own_base {W : World} {base base' size n : Nat} {e : TypeId} {v : Value} {xs : List Value} (h : W.ownsRow base e size v n xs) (hb : base' ≤ base) : W.ownsRow base' e size v n xs := by
  refine ⟨h.1, ?_⟩
  rcases h.2 with hn | ⟨g, cap, cur, h1, h2, h3⟩
  · exact .inl hn
  · exact .inr ⟨g, cap, cur, h1, Nat.le_trans hb h2, h3⟩
theorem own_far {W : World} {base size n B o : Nat} {e : TypeId} {v u : Value} {xs : List Value} (h : W.ownsRow base e size v n xs) (hb : B < base) : (W.setCell ⟨B, o, none⟩ u).ownsRow base e size v n xs :=
  own_set h (fun he => by have := (h.lt _ he.symm).1; omega)
theorem ownsRow_below {W z : World} {base : Nat} {e : TypeId} {size : Nat} {v : Value} {k : Nat} {xs : List Value} (h : W.ownsRow base e size v k xs) (hz : Below W.heap.size W z) : z.ownsRow base e size v k xs := by
  refine ⟨h.1, ?_⟩
  rcases h.2 with hn | ⟨g, cap, cur, h1, h2, h3, h4⟩
  · exact .inl hn
  · exact .inr ⟨g, cap, cur, h1, h2, (hz.block g (Array.getElem?_eq_some_iff.1 h3).1).trans h3, h4⟩
theorem keeps_below {W z : World} (hz : Below W.heap.size W z) : KeepsOthers W z := ⟨hz.size, fun k o hk _ => (hz.block k (Array.getElem?_eq_some_iff.1 hk).1).trans hk⟩
/-- Behind an append to a list that lies beyond B3. -/
theorem appended {W1 z u : World} {B3 k size : Nat} {e : TypeId} {v : Value} {xs : List Value} {tmp : Obj} (hz : Below W1.heap.size W1 z) (hrow : W1.ownsRow B3 e size v k xs) (hgrow : (z.alloc tmp).grownBy u v.ownBlock) (h3 : B3 ≤ W1.heap.size) :
    (∀ b t y, Boxed W1 b t y → b < B3 → Boxed u b t y) ∧ KeepsOthers W1 u ∧ Below B3 W1 u ∧ (∀ b t vs, t ≠ e → Blk W1 b t vs → Blk u b t vs) := by
  have hzs := hz.size
  have hge : ∀ j, v.ownBlock = some j → B3 ≤ j := fun j hj => (hrow.lt j hj).1
  have hty : ∀ j, v.ownBlock = some j → ∃ cur, W1.heap[j]? = some (.cells cur e (0, 0)) := by
    intro j hj
    rcases hrow.2 with ⟨rfl, _⟩ | ⟨g, cap, cur, rfl, _, hgb, _⟩
    · simp [Value.ownBlock] at hj
    · obtain rfl : g = j := by simpa [Value.ownBlock] using hj
      exact ⟨cur, hgb⟩
  refine ⟨fun b t y hb hlt => ?_, ?_, ?_, ?_⟩
  · have hb1 : Boxed z b t y := (hz.block b hb.lt).trans hb
    exact (hb1.alloc tmp).kept hgrow (fun e' => by have := hge b e'.symm; omega)
  · refine ((keeps_below hz).trans (KeepsOthers.alloc z tmp)).trans (KeepsOthers.of_grownBy hgrow fun j o ej hj => ?_)
    obtain ⟨cur, hgb⟩ := hty j ej
    have hl := (Array.getElem?_eq_some_iff.1 hgb).1
    have e1 : (z.alloc tmp).heap[j]? = some (.cells cur e (0, 0)) := (Below.heap_alloc z tmp j (by omega)).trans ((hz.block j hl).trans hgb)
    rw [e1] at hj; cases hj; rfl
  · exact ((hz.mono h3).alloc (by omega) tmp).grown hgrow (by simp; omega) hge
  · intro b t vs ht hb
    refine ((hb.own hz).alloc tmp).kept hgrow (fun e' => ?_)
    obtain ⟨cur, hgb⟩ := hty b e'.symm
    rw [show W1.heap[b]? = _ from hb] at hgb
    injection hgb with hgb; injection hgb with _ h2 _
    exact ht h2
theorem not_of {p q : Bool} (h : p = true → q = true) (hq : q = false) : p = false := by
  cases p with
  | false => rfl
  | true => rw [h rfl] at hq; cases hq
/-- A row that is owned, as a slice. -/
theorem own_len {W : World} {base size n : Nat} {e : TypeId} {v : Value} {xs : List Value} (h : W.ownsRow base e size v n xs) : ∃ ao cap, v = .slice ao n cap ∧ n ≤ cap := by
  rcases h.2 with ⟨rfl, h0⟩ | ⟨g, cap, cur, rfl, h2, h3, h4⟩
  · exact ⟨none, 0, by rw [h0], by omega⟩
  · exact ⟨_, cap, rfl, h4.1⟩
theorem own_at {W : World} {base size n : Nat} {e : TypeId} {ao : Option Addr} {cap : Nat} {xs : List Value} (h : W.ownsRow base e size (.slice ao n cap) n xs) {j : Nat} {u : Value} (hu : xs[j]? = some u) : ∃ g, ao = some ⟨g, 0, none⟩ ∧ base ≤ g ∧ g < W.heap.size ∧ W.cell? ⟨g, j, none⟩ = some u := by
  rcases h.2 with ⟨hn, h0⟩ | ⟨g, cap', cur, hv, h2, h3, h4⟩
  · have := h.1
    rw [h0] at this
    have := (List.getElem?_eq_some_iff.1 hu).1
    omega
  · cases hv
    refine ⟨g, rfl, h2, (Array.getElem?_eq_some_iff.1 h3).1, ?_⟩
    rw [h.cellAt j (by have := (List.getElem?_eq_some_iff.1 hu).1; have := h.1; omega)]
    exact hu
def StrsAt (n : Nat) (W : World) (v : Value) (l : List ByteArray) : Prop :=
  ∃ ao cap, v = .slice ao l.length cap ∧ l.length ≤ maxLen ∧ ∀ (j : Nat) s, l[j]? = some s → ∃ g off, ao = some ⟨g, off, none⟩ ∧ g < n ∧ W.cell? ⟨g, off + j, none⟩ = some (.string s)
theorem StrsAt.below {n m : Nat} {W W' : World} {v : Value} {l : List ByteArray} (h : StrsAt n W v l) (hb : Below m W W') (hm : n ≤ m) : StrsAt n W' v l := by
  obtain ⟨ao, cap, h1, h2, h3⟩ := h
  refine ⟨ao, cap, h1, h2, fun i e he => ?_⟩
  obtain ⟨g, off, e1, hg, c0⟩ := h3 i e he
  exact ⟨g, off, e1, hg, (hb.cell (p := ⟨g, _, none⟩) (Nat.lt_of_lt_of_le hg hm)).trans c0⟩
theorem own_strs {W : World} {base : Nat} {v : Value} {l : List ByteArray} (h : W.ownsRow base 9 1 v l.length (strs l)) : StrsAt W.heap.size W v l := by
  obtain ⟨ao, cap, rfl, hc⟩ := own_len h
  have hm : l.length ≤ maxLen := by
    rcases h.2 with ⟨_, h0⟩ | ⟨g, cap', cur, hv, h2, h3, h4⟩
    · rw [h0]; exact Nat.zero_le _
    · exact Nat.le_trans h4.1 h4.2.1
  refine ⟨ao, cap, rfl, hm, fun j s hs => ?_⟩
  obtain ⟨g, hg, _, hgl, hc⟩ := own_at h (show (strs l)[j]? = some (.string s) by unfold strs; rw [List.getElem?_map, hs]; rfl)
  exact ⟨g, 0, hg, hgl, by rw [Nat.zero_add]; exact hc⟩
/-- An append of a row that is owned. -/
theorem wpList_append_rows {P : Program} (w : World) {ops : Array Oper} {rest : List Oper} {o : Oper} {a : Act} {Q : Exit → Act → World → Prop} (hgd : o.guard = none) (s x : Operand) (t : TypeId)
    (ho : o.op = .call { callee := .builtin .append, args := #[s, x], argTypes := #[t, t] })
    (base : Nat) (e : TypeId) (i : TypeInfo) (z : Value) (size bytes : Nat) (ht : P.underlying t = some (.slice e)) (hi : P.info? e = some i) (hz : i.zero = some z)
    (hsize : i.size = size) (hby : i.bytes = bytes) (hzs : z.cells.size = size) (hsz : 0 < size)
    (v : Value) (n : Nat) (xs : List Value) (hs : a.eval s = v) (hown : w.ownsRow base e size v n xs)
    (b2 : Nat) (u : Value) (m : Nat) (news : List Value) (hx : a.eval x = u) (hu : w.ownsRow b2 e size u m news) (h1 : ∀ u ∈ news, u.oneCell' = true)
    (h63 : n + m ≤ maxLen) (hbytes : (n + m) * bytes ≤ 140737488355328) (hbase : base ≤ w.heap.size)
    (h : ∀ v' w', w'.ownsRow base e size v' (n + m) (xs ++ news) → Below base w w' → wpList P ops Q rest (a.put o.dst v') w') : wpList P ops Q (o :: rest) a w := by
  rcases hu.2 with ⟨rfl, h0⟩ | ⟨g, cap, cur, rfl, h2, h3, h4⟩
  · have hn := hu.1
    rw [h0, Nat.zero_mul] at hn
    have hnil : news = [] := List.length_eq_zero_iff.1 hn
    subst hnil
    subst h0
    refine wpList_append_own_none hgd s x t ho base e i size ht hi v n xs hs hown hx (h v w ?_ (Below.refl _ _))
    rw [List.append_nil]; exact hown
  · refine wpList_append_own w hgd s x t ho base e i z size bytes ht hi hz hsize hby hzs hsz v n xs hs hown ⟨g, 0, none⟩ m cap news hx hu.1 (fun j u hj => ?_) h1 h63 hbytes hbase fun v' w' k1 k2 _ => h v' w' k1 ((Below.refl base w).grown k2 hbase (fun j ej => (hown.lt j ej).1))
    obtain ⟨g', hg, _, _, hc⟩ := own_at hu hj
    obtain rfl : g = g' := by simpa using hg
    unfold Addr.add
    by_cases hj0 : j = 0
    · subst hj0; exact hc
    · simp [hj0]; exact hc
theorem strs_one (l : List ByteArray) : ∀ u ∈ strs l, u.oneCell' = true := by
  intro u hu
  unfold strs at hu
  obtain ⟨t, _, rfl⟩ := List.mem_map.1 hu
  rfl
end Go.Proofs.YtimhhdikdinhjaaDoor.pr
