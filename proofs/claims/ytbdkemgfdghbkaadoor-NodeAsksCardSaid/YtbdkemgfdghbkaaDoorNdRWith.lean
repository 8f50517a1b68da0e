/-
  node: the document's With.
-/
import Derived.Test.YtbdkemgfdghbkaaDoorNdWith
import Derived.Test.YtbdkemgfdghbkaaDoorNdRAt
import Derived.Deep.RegionHeld3
namespace Go.Proofs.YtbdkemgfdghbkaaDoor.nd
open Go.RowKit sx ed
set_option linter.unusedVariables false

/-- Of what came in, or new. -/
def Or2 (S0 : Nat → Prop) (w w' : World) (k : Nat) : Prop := S0 k ∨ (w.heap.size ≤ k ∧ k < w'.heap.size)
/-- What the document's With tells. -/
def RWithRes (S0 : Nat → Prop) (w : World) (r : Option Nd) (e : Ending) (w' : World) : Prop :=
  match r with
  | none => e = .returned (.tuple #[zeroNd, .bool false]) ∧ Below w.heap.size w w'
  | some y => ∃ u, e = .returned (.tuple #[u, .bool true]) ∧ NdAt (Or2 S0 w w') w' y u ∧ Below w.heap.size w w'

/-- One node of a row, turned. -/
theorem row_set3 {S : Nat → Prop} {u : World} {g i : Nat} {t : TypeId} {vs : Array Value} {f : Fo} {z q : Nd} {v : Value} (h : RowAt S u g 0 f) (hb : u.heap[g]? = some (.cells vs t (0, 0))) (hz : f.get? i = some z) (hg : ¬ S g)
    (hk : KidsAt S u q.kids v) : RowAt S (((u.setCell ⟨g, i * 3, none⟩ (.int .i64 q.k)).setCell ⟨g, i * 3 + 1, none⟩ (.string q.t)).setCell ⟨g, i * 3 + 2, none⟩ v) g 0 (f.set i q) := by
  obtain ⟨s, z0, z1, z2, z3⟩ := h.get hz
  rw [Nat.zero_add] at z0 z1 z2
  obtain ⟨e0, e1, e2⟩ := three_set hb z0 z1 z2 (.int .i64 q.k) (.string q.t) v
  have hag := agree_set (W := u) (B := g) (o := i * 3) (.int .i64 q.k) (.string q.t) v
  have hkeep : ∀ k, S k → (((u.setCell ⟨g, i * 3, none⟩ (.int .i64 q.k)).setCell ⟨g, i * 3 + 1, none⟩ (.string q.t)).setCell ⟨g, i * 3 + 2, none⟩ v).heap[k]? = u.heap[k]? := fun k hk => by
    have hne : k ≠ g := fun e => hg (e ▸ hk)
    rw [Below.heap_setCell _ _ _ k (fun e => hne e), Below.heap_setCell _ _ _ k (fun e => hne e), Below.heap_setCell _ _ _ k (fun e => hne e)]
  refine RowAt.of fun j y hj => ?_
  rw [Fo.set_get (Fo.get_lt hz)] at hj
  by_cases hji : j = i
  · rw [if_pos hji] at hj
    cases hj
    subst hji
    rw [Nat.zero_add]
    exact ⟨v, e0, e1, e2, hk.keep (fun _ e => e) hkeep⟩
  · rw [if_neg hji] at hj
    obtain ⟨s', a0, a1, a2, a3⟩ := h.get hj
    rw [Nat.zero_add] at a0 a1 a2 ⊢
    exact ⟨s', (hag.cell _ (by omega)).trans a0, (hag.cell _ (by omega)).trans a1, (hag.cell _ (by omega)).trans a2, a3.keep (fun _ e => e) hkeep⟩

/-- What holds in the statement that calls. -/
abbrev RS (W0 : World) (b gz oz j len cap lz cz ly cy : Nat) (az ay : Option Addr) (kz ky : Int) (tz ty : ByteArray) (u : World) : Prop :=
  (u.cell? ⟨b, 2, none⟩ = some (.slice (some ⟨gz, oz, none⟩) len cap) ∧ u.cell? ⟨gz, oz + j * 3, none⟩ = some (.int .i64 kz) ∧ u.cell? ⟨gz, oz + j * 3 + 1, none⟩ = some (.string tz) ∧ u.cell? ⟨gz, oz + j * 3 + 2, none⟩ = some (.slice az lz cz) ∧ u.cell? ⟨b + 1, 0, none⟩ = some (.int .i64 ky) ∧ u.cell? ⟨b + 1, 1, none⟩ = some (.string ty) ∧ u.cell? ⟨b + 1, 2, none⟩ = some (.slice ay ly cy)) ∧ Below W0.heap.size W0 u
theorem RS.step {W0 : World} {b gz oz j len cap lz cz ly cy : Nat} {az ay : Option Addr} {kz ky : Int} {tz ty : ByteArray} {u v : World} (h : RS W0 b gz oz j len cap lz cz ly cy az ay kz ky tz ty u) (hb : Below u.heap.size u v) : RS W0 b gz oz j len cap lz cz ly cy az ay kz ky tz ty v := by
  obtain ⟨⟨h1, h2, h3, h4, h5, h6, h7⟩, h8⟩ := h
  have k : ∀ {p : Addr} {x : Value}, u.cell? p = some x → v.cell? p = some x := fun hp => (hb.cell (World.block_lt_of_cell? u _ hp)).trans hp
  exact ⟨⟨k h1, k h2, k h3, k h4, k h5, k h6, k h7⟩, h8.trans (hb.mono h8.size)⟩
theorem RS.far {W0 : World} {b gz oz j len cap lz cz ly cy : Nat} {az ay : Option Addr} {kz ky : Int} {tz ty : ByteArray} {u v : World} (h : RS W0 b gz oz j len cap lz cz ly cy az ay kz ky tz ty u) (hl : b + 1 < W0.heap.size ∧ gz < W0.heap.size) (hb : Below W0.heap.size u v) : RS W0 b gz oz j len cap lz cz ly cy az ay kz ky tz ty v := by
  obtain ⟨⟨h1, h2, h3, h4, h5, h6, h7⟩, h8⟩ := h
  exact ⟨⟨(hb.cell (p := ⟨b, 2, none⟩) (by simp; omega)).trans h1, (hb.cell (p := ⟨gz, _, none⟩) hl.2).trans h2, (hb.cell (p := ⟨gz, _, none⟩) hl.2).trans h3, (hb.cell (p := ⟨gz, _, none⟩) hl.2).trans h4,
    (hb.cell (p := ⟨b + 1, 0, none⟩) hl.1).trans h5, (hb.cell (p := ⟨b + 1, 1, none⟩) hl.1).trans h6, (hb.cell (p := ⟨b + 1, 2, none⟩) hl.1).trans h7⟩, h8.trans hb⟩

/-- Behind the statement that calls: what has been laid in the box b9. -/
structure Held9 (S0 : Nat → Prop) (W0 : World) (q : Nd) (v : Value) (wq : World) (b9 : Nat) : Prop where
  blk : Blk wq b9 24 #[.int .i64 q.k, .string q.t, v]
  kids : KidsAt (Or2 S0 W0 wq) wq q.kids v
  below : Below W0.heap.size W0 wq
theorem held_in {S0 : Nat → Prop} {W0 Wc u1 : World} {q : Nd} {v a b c : Value} (hS : ∀ k, S0 k → k < W0.heap.size) (hk : Blk u1 W0.heap.size 24 #[a, b, c]) (hnd : KidsAt (Or2 S0 Wc u1) u1 q.kids v) (hc : W0.heap.size < Wc.heap.size) (hb : Below W0.heap.size W0 u1) :
    Held9 S0 W0 q v (((u1.setCell ⟨W0.heap.size, 0, none⟩ (.int .i64 q.k)).setCell ⟨W0.heap.size, 1, none⟩ (.string q.t)).setCell ⟨W0.heap.size, 2, none⟩ v) W0.heap.size := by
  refine ⟨set3_blk hk _ _ _, hnd.keep (fun k hk => ?_) (fun k hk => ?_), hb.trans (set3_below _ _ _ (Nat.le_refl _))⟩
  · rcases hk with h | h
    · exact .inl h
    · exact .inr ⟨by omega, by simpa using h.2⟩
  · have hne : k ≠ W0.heap.size := by
      rcases hk with h | h
      · have := hS k h; omega
      · omega
    rw [Below.heap_setCell _ _ _ k (fun e => hne e), Below.heap_setCell _ _ _ k (fun e => hne e), Below.heap_setCell _ _ _ k (fun e => hne e)]
theorem held_new {S0 : Nat → Prop} {W0 Wc u1 : World} {q : Nd} {v : Value} (hS : ∀ k, S0 k → k < W0.heap.size) (hnd : KidsAt (Or2 S0 Wc u1) u1 q.kids v) (hc : W0.heap.size ≤ Wc.heap.size) (hb : Below W0.heap.size W0 u1) :
    Held9 S0 W0 q v (u1.alloc (.cells #[.int .i64 q.k, .string q.t, v] 24)) u1.heap.size := by
  have hs := hb.size
  refine ⟨Blk.new u1 _ _, hnd.keep (fun k hk => ?_) (fun k hk => Below.heap_alloc _ _ _ ?_), hb.alloc hs _⟩
  · rcases hk with h | h
    · exact .inl h
    · exact .inr ⟨by omega, by have := h.2; simp; omega⟩
  · rcases hk with h | h
    · have := hS k h; omega
    · exact h.2

/-- The new list, one of its nodes turned, and the result laid. -/
theorem list_set {S0 : Nat → Prop} {w W0 wq w' : World} {f : Fo} {z q : Nd} {i g' c' b9 B : Nat} {L : List Value} {v : Value} (x0 x1 x2 : Value) (hS : ∀ k, S0 k → k < w.heap.size) (hw : w.heap.size ≤ W0.heap.size) (h9 : Held9 S0 W0 q v wq b9) (hL : CellsOf S0 wq f L) (hn : 0 < f.len) (hm : f.len ≤ maxLen)
    (hown : w'.ownsRow wq.heap.size 24 3 (.slice (some ⟨g', 0, none⟩) f.len c') f.len L) (hb : Below wq.heap.size wq w') (hz : f.get? i = some z) (hB : B < W0.heap.size) (hBw : w.heap.size ≤ B) :
    KidsAt (Or2 S0 w w') ((((((w'.setCell ⟨g', i * 3, none⟩ (.int .i64 q.k)).setCell ⟨g', i * 3 + 1, none⟩ (.string q.t)).setCell ⟨g', i * 3 + 2, none⟩ v).setCell ⟨B, 0, none⟩ x0).setCell ⟨B, 1, none⟩ x1).setCell ⟨B, 2, none⟩ x2) (f.set i q) (.slice (some ⟨g', 0, none⟩) f.len c') := by
  obtain ⟨hg1, hg2⟩ := hown.lt g' rfl
  have hq1 := h9.below.size
  have hq2 := hb.size
  have hLw : CellsOf S0 w' f L := hL.keep (fun _ e => e) (fun k hk => hb.block k (by have := hS k hk; omega))
  have hrow : RowAt S0 w' g' 0 f := CellsOf.row hLw (fun j u hj => by
    have := hown.cells (g := g') rfl j u hj
    rw [addr_add] at this
    exact this)
  let S1 : Nat → Prop := fun k => k ≠ g' ∧ (S0 k ∨ (W0.heap.size ≤ k ∧ k < wq.heap.size))
  have hrow1 : RowAt S1 w' g' 0 f := hrow.keep (fun k hk => ⟨fun e => by have := hS k hk; omega, .inl hk⟩) (fun _ _ => rfl) rfl
  have hk1 : KidsAt S1 w' q.kids v := h9.kids.keep (fun k hk => ⟨fun e => by rcases hk with h | h; (have := hS k h; omega); (have := h.2; omega), hk⟩) (fun k hk => hb.block k (by rcases hk with h | h; (have := hS k h; omega); exact h.2))
  have hblk : ∃ vs, w'.heap[g']? = some (.cells vs 24 (0, 0)) := by
    rcases hown.2 with ⟨e, _⟩ | ⟨g, cap, curs, e, _, e3, _⟩
    · cases e
    · cases e; exact ⟨curs, e3⟩
  obtain ⟨vs, hvs⟩ := hblk
  have hr2 := row_set3 hrow1 hvs hz (fun h => h.1 rfl) hk1
  have hsl := Fo.set_len f i q
  refine ⟨some ⟨g', 0, none⟩, c', by rw [hsl], by rw [hsl]; exact hm, fun _ => ⟨g', 0, rfl, .inr ⟨by omega, by omega⟩, hr2.keep (fun k hk => ?_) (fun k hk => ?_) ?_⟩⟩
  · rcases hk.2 with h | h
    · exact .inl h
    · exact .inr ⟨by omega, by omega⟩
  · have hne : k ≠ B := by
      rcases hk.2 with h | h
      · have := hS k h; omega
      · omega
    rw [Below.heap_setCell _ _ _ k (fun e => hne e), Below.heap_setCell _ _ _ k (fun e => hne e), Below.heap_setCell _ _ _ k (fun e => hne e)]
  · have hne : g' ≠ B := by omega
    rw [Below.heap_setCell _ _ _ g' (fun e => hne e), Below.heap_setCell _ _ _ g' (fun e => hne e), Below.heap_setCell _ _ _ g' (fun e => hne e)]

theorem own_three {W : World} {N g c m i : Nat} {L : List Value} (h : W.ownsRow N 24 3 (.slice (some ⟨g, 0, none⟩) m c) m L) (hi : i < m) :
    (∃ a b d, W.cell? ⟨g, i * 3, none⟩ = some a ∧ W.cell? ⟨g, i * 3 + 1, none⟩ = some b ∧ W.cell? ⟨g, i * 3 + 2, none⟩ = some d) ∧ ∃ vs, W.heap[g]? = some (.cells vs 24 (0, 0)) := by
  have hl := h.1
  have key : ∀ j, j < m * 3 → ∃ a, W.cell? ⟨g, j, none⟩ = some a := fun j hj => by
    have := h.cells (g := g) rfl j L[j] (List.getElem?_eq_getElem (by omega))
    rw [addr_add, Nat.zero_add] at this
    exact ⟨_, this⟩
  obtain ⟨a, ha⟩ := key (i * 3) (by omega)
  obtain ⟨b, hb⟩ := key (i * 3 + 1) (by omega)
  obtain ⟨d, hd⟩ := key (i * 3 + 2) (by omega)
  refine ⟨⟨a, b, d, ha, hb, hd⟩, ?_⟩
  rcases h.2 with ⟨e, _⟩ | ⟨g, cap, curs, e, _, e3, _⟩
  · cases e
  · cases e; exact ⟨curs, e3⟩

theorem other3 {u : World} {B A o : Nat} {t : TypeId} {vs : Array Value} (h : Blk u A t vs) (hne : A ≠ B) (a b c : Value) : Blk (((u.setCell ⟨B, o, none⟩ a).setCell ⟨B, o + 1, none⟩ b).setCell ⟨B, o + 2, none⟩ c) A t vs := ((h.other hne a).other hne b).other hne c
theorem below3 {N : Nat} {u : World} (a b c : Value) {B : Nat} (hB : N ≤ B) (o : Nat) : Below N u (((u.setCell ⟨B, o, none⟩ a).setCell ⟨B, o + 1, none⟩ b).setCell ⟨B, o + 2, none⟩ c) :=
  (((Below.refl _ u).setCell (p := ⟨B, o, none⟩) hB a).setCell (p := ⟨B, o + 1, none⟩) hB b).setCell (p := ⟨B, o + 2, none⟩) hB c

def RWithOk (l : List Int) : Prop := ∀ (S0 : Nat → Prop) (x y : Nd) (w : World) (v p u : Value), (∀ k, S0 k → k < w.heap.size) → x.weight ≤ 500000 → NdAt S0 w x v → IntsAt (Lt w.heap.size) w p l → NdAt S0 w y u →
  Calls Tryd.prog 31 #[v, p, u] w (RWithRes S0 w (x.put l y))

theorem IntsAt.tail {n : Nat} {W : World} {g o len cap : Nat} {i : Int} {r : List Int} (h : IntsAt (Lt n) W (.slice (some ⟨g, o, none⟩) len cap) (i :: r)) :
    IntsAt (Lt n) W (.slice (if cap = 1 then some ⟨g, o, none⟩ else some ⟨g, o + 1, none⟩) r.length (cap - 1)) r := by
  obtain ⟨ao, cap', e, hm, hlc, hr⟩ := h
  cases e
  obtain ⟨g', o', e, hs, hc⟩ := hr (by simp)
  cases e
  simp only [List.length_cons] at hm hlc
  refine ⟨_, cap - 1, rfl, by omega, by omega, fun hn => ?_⟩
  have h1 : cap ≠ 1 := by
    cases r with
    | nil => exact absurd rfl hn
    | cons a b => simp at hlc; omega
  rw [if_neg h1]
  exact ⟨g, o + 1, rfl, hs, fun j z hj => by rw [show o + 1 + j = o + (j + 1) by omega]; exact hc (j + 1) z (by simpa using hj)⟩

set_option maxRecDepth 100000 in
set_option maxHeartbeats 8000000 in
theorem rwith_ok (l : List Int) : RWithOk l := by
  induction l with
  | nil =>
    intro S0 x y w v p u hS0 hwx hx hpt hy
    obtain ⟨s, rfl, hs⟩ := hx
    obtain ⟨ao, cap, rfl, hm⟩ := hs.slice
    obtain ⟨s2, rfl, hs2⟩ := hy
    obtain ⟨ay, cy, rfl, hmy⟩ := hs2.slice
    obtain ⟨po, pc, rfl, hpm, _, _⟩ := hpt
    obtain ⟨W0, hW0⟩ : ∃ W0, (((w.alloc (.cells #[.int .i64 x.k, .string x.t, .slice ao x.kids.len cap] 24)).alloc (.cells #[.int .i64 y.k, .string y.t, .slice ay y.kids.len cy] 24)).alloc (.cells #[.int .i64 y.k, .string y.t, .slice ay y.kids.len cy] 24)) = W0 := ⟨_, rfl⟩
    have hb0 : Below w.heap.size w W0 := by rw [← hW0]; exact (((Below.refl _ w).alloc (Nat.le_refl _) _).alloc (by simp) _).alloc (by simp; omega) _
    have hk3 : Blk W0 (w.heap.size + 1 + 1) 24 #[.int .i64 y.k, .string y.t, .slice ay y.kids.len cy] := by
      rw [← hW0]
      simpa using Blk.new ((w.alloc (.cells #[.int .i64 x.k, .string x.t, .slice ao x.kids.len cap] 24)).alloc (.cells #[.int .i64 y.k, .string y.t, .slice ay y.kids.len cy] 24)) 24 #[.int .i64 y.k, .string y.t, .slice ay y.kids.len cy]
    have c0 := hk3.cell 0; have c1 := hk3.cell 1; have c2 := hk3.cell 2
    have HKK := Lib.hid (hs2.keep (S' := Or2 S0 w W0) (fun _ e => .inl e) (fun k hk => hb0.block k (hS0 k hk))); have HB0 := Lib.hid hb0; have HW0 := Lib.hid hW0
    clear hb0 hW0 hk3 hs hs2 hm hmy hpm
    go_enter Tryd.func31, Tryd.ntmps31
    go_wp2_with fail
    simp only [List.length_nil] at *
    rw [HW0.out]
    refine bodyPost_ret (v := .tuple #[.agg #[.int .i64 y.k, .string y.t, .slice ay y.kids.len cy], .bool true]) (by simp [results, Tryd.results31, go_sem, c0, c1, c2]) rfl ?_
    exact ⟨_, rfl, NdAt.mk HKK.out, HB0.out⟩
  | cons i r ih =>
    intro S0 x y w v p u hS0 hwx hx hpt hy
    obtain ⟨s, rfl, hs⟩ := hx
    obtain ⟨ao, cap, rfl, hm⟩ := hs.slice
    obtain ⟨s2, rfl, hs2⟩ := hy
    obtain ⟨ay, cy, rfl, hmy⟩ := hs2.slice
    obtain ⟨po, pc, rfl, hpm, hpc, _⟩ := id hpt
    obtain ⟨g, o, rfl, _, hg, hci⟩ := hpt.get (j := 0) rfl
    rw [Nat.add_zero] at hci
    rw [List.length_cons] at hpt hpm hpc ⊢
    have htl := hpt.tail
    obtain ⟨n, hn⟩ : ∃ n, r.length = n := ⟨_, rfl⟩
    rw [hn] at hpm hpc htl ⊢
    unfold maxLen at hm hmy hpm
    obtain ⟨W0, hW0⟩ : ∃ W0, (((w.alloc (.cells #[.int .i64 x.k, .string x.t, .slice ao x.kids.len cap] 24)).alloc (.cells #[.int .i64 y.k, .string y.t, .slice ay y.kids.len cy] 24)).alloc (.cells #[.int .i64 0, .string ⟨#[]⟩, .slice none 0 0] 24)) = W0 := ⟨_, rfl⟩
    have hb0 : Below w.heap.size w W0 := by rw [← hW0]; exact (((Below.refl _ w).alloc (Nat.le_refl _) _).alloc (by simp) _).alloc (by simp; omega) _
    have hk1 : Blk W0 w.heap.size 24 #[.int .i64 x.k, .string x.t, .slice ao x.kids.len cap] := by rw [← hW0]; exact ((Blk.new w _ _).alloc _).alloc _
    have hk2 : Blk W0 (w.heap.size + 1) 24 #[.int .i64 y.k, .string y.t, .slice ay y.kids.len cy] := by
      rw [← hW0]
      simpa using (Blk.new (w.alloc (.cells #[.int .i64 x.k, .string x.t, .slice ao x.kids.len cap] 24)) 24 #[.int .i64 y.k, .string y.t, .slice ay y.kids.len cy]).alloc (.cells #[.int .i64 0, .string ⟨#[]⟩, .slice none 0 0] 24)
    have hk3 : Blk W0 (w.heap.size + 1 + 1) 24 #[.int .i64 0, .string ⟨#[]⟩, .slice none 0 0] := by
      rw [← hW0]
      simpa using Blk.new ((w.alloc (.cells #[.int .i64 x.k, .string x.t, .slice ao x.kids.len cap] 24)).alloc (.cells #[.int .i64 y.k, .string y.t, .slice ay y.kids.len cy] 24)) 24 #[.int .i64 0, .string ⟨#[]⟩, .slice none 0 0]
    have hsz : W0.heap.size = w.heap.size + 3 := by rw [← hW0]; simp
    have hc := (hb0.cell (p := ⟨g, o, none⟩) hg).trans hci
    have x2 := hk1.cell 2
    have hl2 : (((n + 1 : Nat) : Int) == 0) = false := beq_eq_false_iff_ne.2 (by omega)
    have hl3 : (((n : Int) + 1) == 0) = false := beq_eq_false_iff_ne.2 (by omega)
    have hn0 : 0 < n + 1 := by omega
    by_cases hin : 0 ≤ i ∧ i < (x.kids.len : Int)
    · obtain ⟨z, hz⟩ := Fo.get_of_lt (f := x.kids) (i := i.toNat) (by omega)
      obtain ⟨hi0, hi1⟩ := hin
      have hn1 : decide (i < 0) = false := decide_eq_false (by omega)
      have hn2 : decide ((x.kids.len : Int) ≤ i) = false := decide_eq_false (by omega)
      have HW0 := Lib.hid hW0; have HB0 := Lib.hid hb0; have HK1 := Lib.hid hk1; have HK2 := Lib.hid hk2; have HK3 := Lib.hid hk3; have HS := Lib.hid hs; have HS2 := Lib.hid hs2; have HPT := Lib.hid htl; have HN := Lib.hid hn; have HZ := Lib.hid hz; have HSZ := Lib.hid hsz
      clear hW0 hb0 hk1 hk2 hk3 hs hs2 hpt htl hn hz hsz
      go_enter Tryd.func31, Tryd.ntmps31
      go_upto_region 3 with fail
      rw [HW0.out]
      go_wp2_with fail
      have hzw : z.weight ≤ 500000 := by
        have := Fo.weight_get HZ.out
        simp only [Nd.weight] at this hwx ⊢
        omega
      have hkeep : ∀ W, Below W0.heap.size W0 W → ∀ k, S0 k → W.heap[k]? = w.heap[k]? := fun W hW k hk => by
        have := HB0.out.size
        have := hS0 k hk
        rw [hW.block k (by omega), HB0.out.block k (by omega)]
      have HKP := Lib.hid hkeep
      obtain ⟨gz, oz, az, cz, rfl, _, hgz, d0, d1, d2, d3⟩ := (HS.out.keep (fun _ e => e) (hkeep W0 (Below.refl _ _))).get HZ.out
      have y0 := HK2.out.cell 0; have y1 := HK2.out.cell 1; have y2 := HK2.out.cell 2
      have hcall : ∀ W, Below W0.heap.size W0 W → Calls Tryd.prog 31 #[.agg #[.int .i64 z.k, .string z.t, .slice az z.kids.len cz], .slice (if pc = 1 then some ⟨g, o, none⟩ else some ⟨g, o + 1, none⟩) n (pc - 1), .agg #[.int .i64 y.k, .string y.t, .slice ay y.kids.len cy]] W (RWithRes S0 W (z.put r y)) := fun W hW =>
        ih S0 z y W _ _ _ (fun k hk => by have := hS0 k hk; have := HB0.out.size; have := hW.size; omega) hzw (NdAt.mk (d3.keep (fun _ e => e) (fun k hk => by rw [hkeep W hW k hk, hkeep W0 (Below.refl _ _) k hk]))) ((HPT.out.below (HB0.out.trans (hW.mono HB0.out.size)) (Nat.le_refl _)).keep (fun k hk => Nat.lt_of_lt_of_le hk (by have := HB0.out.size; have := hW.size; omega)) (fun _ _ => rfl))
          (NdAt.mk (HS2.out.keep (fun _ e => e) (hkeep W hW)))
      have HCALL := Lib.hid hcall
      clear hcall d3 hkeep
      have s1 : (1 : Int) ≤ (n : Int) + 1 := by omega
      have s2 : (1 : Int) ≤ ((n + 1 : Nat) : Int) := by omega
      have s3 : (1 : Int) ≤ (pc : Int) := by omega
      have s4 : ((n : Int) + 1) ≤ (pc : Int) := by omega
      have s5 : 1 ≤ n + 1 := by omega
      have s6 : n + 1 ≤ pc := by omega
      have HPUT := Lib.hid (put_some (y := y) (p := r) hi0 HZ.out)
      have HLT := Lib.hid (show w.heap.size + 1 < W0.heap.size ∧ gz < W0.heap.size from ⟨by have := HSZ.out; omega, hgz⟩)
      have hS : RS W0 w.heap.size gz oz i.toNat x.kids.len cap z.kids.len cz y.kids.len cy az ay z.k y.k z.t y.t W0.drew := ⟨⟨x2, d0, d1, d2, y0, y1, y2⟩, (Below.refl _ _).drew⟩
      cases hput : z.put r y with
      | none =>
        rw [hput] at HCALL
        have hcs0 : ∀ W, RS W0 w.heap.size gz oz i.toNat x.kids.len cap z.kids.len cz y.kids.len cy az ay z.k y.k z.t y.t W → Calls Tryd.prog 31 #[.agg #[.int .i64 z.k, .string z.t, .slice az z.kids.len cz], .slice (if pc = 1 then some ⟨g, o, none⟩ else some ⟨g, o + 1, none⟩) n (pc - 1), .agg #[.int .i64 y.k, .string y.t, .slice ay y.kids.len cy]] W fun e w' =>
            e = .returned (.tuple #[zeroNd, .bool false]) ∧ Below W.heap.size W w' := fun W hW => (HCALL.out W hW.2).mono fun e w' h => h
        clear HCALL
        by_cases hpc1 : pc = 1
        · subst hpc1
          obtain rfl : n = 0 := by omega
          have hcs := hcs0
          simp only [if_true, Nat.sub_self] at hcs
          have HC0 := Lib.hid hcs0
          clear hcs0
          go_region_held3 (fun u => (u.cell? ⟨w.heap.size, 2, none⟩ = some (.slice (some ⟨gz, oz, none⟩) x.kids.len cap) ∧ u.cell? ⟨gz, oz + i.toNat * 3, none⟩ = some (.int .i64 z.k) ∧ u.cell? ⟨gz, oz + i.toNat * 3 + 1, none⟩ = some (.string z.t) ∧ u.cell? ⟨gz, oz + i.toNat * 3 + 2, none⟩ = some (.slice az z.kids.len cz) ∧ u.cell? ⟨w.heap.size + 1, 0, none⟩ = some (.int .i64 y.k) ∧ u.cell? ⟨w.heap.size + 1, 1, none⟩ = some (.string y.t) ∧ u.cell? ⟨w.heap.size + 1, 2, none⟩ = some (.slice ay y.kids.len cy)) ∧ Below W0.heap.size W0 u)
            (first
              | assumption
              | exact RS.far (by assumption) HLT.out (set3_below _ _ _ (Nat.le_refl _))
              | exact RS.step hR1 ((Below.refl _ _).alloc (Nat.le_refl _) _)
              | exact RS.step (by assumption) ((Below.refl _ _).alloc (Nat.le_refl _) _)
              | exact RS.step (by assumption) (by assumption))
            (first
              | (go_at_call 31; with_reducible refine (hcs _ (by assumption)).mono ?_; rintro _ u1 ⟨rfl, hbn⟩; have hR1 := RS.step (by assumption) hbn; (first | (have kz : Blk u1 W0.heap.size 24 #[.int .i64 0, .string ⟨#[]⟩, .slice none 0 0] := ((Blk.new W0 24 #[.int .i64 0, .string ⟨#[]⟩, .slice none 0 0]).drew').own hbn; have kf0 := kz.frozen 0; have kf1 := kz.frozen 1; have kf2 := kz.frozen 2; have kc0 := kz.cell 0; have kc1 := kz.cell 1; have kc2 := kz.cell 2) | skip)))
          all_goals
            rename_i hHeld
            have hbq := hHeld.2
            first
              | (obtain ⟨wq, hwq⟩ : ∃ wq, (((u1.setCell ⟨W0.heap.size, 0, none⟩ (.int .i64 0)).setCell ⟨W0.heap.size, 1, none⟩ (.string ⟨#[]⟩)).setCell ⟨W0.heap.size, 2, none⟩ (.slice none 0 0)) = wq := ⟨_, rfl⟩
                 rw [hwq] at hbq ⊢)
              | (obtain ⟨wq, hwq⟩ : ∃ wq, u1.alloc (.cells #[.int .i64 0, .string ⟨#[]⟩, .slice none 0 0] 24) = wq := ⟨_, rfl⟩
                 rw [hwq] at hbq ⊢)
            have hwr1 := HK3.out.own hbq
            have f0 := hwr1.frozen 0; have f1 := hwr1.frozen 1; have f2 := hwr1.frozen 2
            have c0 := hwr1.cell 0; have c1 := hwr1.cell 1; have c2 := hwr1.cell 2
            have gg := set3_blk hwr1 (.int .i64 0) (.string ⟨#[]⟩) (.slice none 0 0)
            have g0 := gg.cell 0; have g1 := gg.cell 1; have g2 := gg.cell 2
            have HBQ := Lib.hid hbq
            clear hwq hHeld hR1 hbn hS hcs hbq hwr1 gg
            go_wp2_with fail
            refine bodyPost_ret (v := .tuple #[zeroNd, .bool false]) (by simp [results, Tryd.results31, go_sem, g0, g1, g2]) rfl ?_
            rw [HPUT.out, hput]
            exact ⟨rfl, (HB0.out.trans (HBQ.out.mono HB0.out.size)).trans (set3_below _ _ _ (by omega))⟩
        · have hcs := hcs0
          simp only [if_neg hpc1] at hcs
          have HC0 := Lib.hid hcs0
          clear hcs0
          go_region_held3 (fun u => (u.cell? ⟨w.heap.size, 2, none⟩ = some (.slice (some ⟨gz, oz, none⟩) x.kids.len cap) ∧ u.cell? ⟨gz, oz + i.toNat * 3, none⟩ = some (.int .i64 z.k) ∧ u.cell? ⟨gz, oz + i.toNat * 3 + 1, none⟩ = some (.string z.t) ∧ u.cell? ⟨gz, oz + i.toNat * 3 + 2, none⟩ = some (.slice az z.kids.len cz) ∧ u.cell? ⟨w.heap.size + 1, 0, none⟩ = some (.int .i64 y.k) ∧ u.cell? ⟨w.heap.size + 1, 1, none⟩ = some (.string y.t) ∧ u.cell? ⟨w.heap.size + 1, 2, none⟩ = some (.slice ay y.kids.len cy)) ∧ Below W0.heap.size W0 u)
            (first
              | assumption
              | exact RS.far (by assumption) HLT.out (set3_below _ _ _ (Nat.le_refl _))
              | exact RS.step hR1 ((Below.refl _ _).alloc (Nat.le_refl _) _)
              | exact RS.step (by assumption) ((Below.refl _ _).alloc (Nat.le_refl _) _)
              | exact RS.step (by assumption) (by assumption))
            (first
              | (go_at_call 31; with_reducible refine (hcs _ (by assumption)).mono ?_; rintro _ u1 ⟨rfl, hbn⟩; have hR1 := RS.step (by assumption) hbn; (first | (have kz : Blk u1 W0.heap.size 24 #[.int .i64 0, .string ⟨#[]⟩, .slice none 0 0] := ((Blk.new W0 24 #[.int .i64 0, .string ⟨#[]⟩, .slice none 0 0]).drew').own hbn; have kf0 := kz.frozen 0; have kf1 := kz.frozen 1; have kf2 := kz.frozen 2; have kc0 := kz.cell 0; have kc1 := kz.cell 1; have kc2 := kz.cell 2) | skip)))
          all_goals
            rename_i hHeld
            have hbq := hHeld.2
            first
              | (obtain ⟨wq, hwq⟩ : ∃ wq, (((u1.setCell ⟨W0.heap.size, 0, none⟩ (.int .i64 0)).setCell ⟨W0.heap.size, 1, none⟩ (.string ⟨#[]⟩)).setCell ⟨W0.heap.size, 2, none⟩ (.slice none 0 0)) = wq := ⟨_, rfl⟩
                 rw [hwq] at hbq ⊢)
              | (obtain ⟨wq, hwq⟩ : ∃ wq, u1.alloc (.cells #[.int .i64 0, .string ⟨#[]⟩, .slice none 0 0] 24) = wq := ⟨_, rfl⟩
                 rw [hwq] at hbq ⊢)
            have hwr1 := HK3.out.own hbq
            have f0 := hwr1.frozen 0; have f1 := hwr1.frozen 1; have f2 := hwr1.frozen 2
            have c0 := hwr1.cell 0; have c1 := hwr1.cell 1; have c2 := hwr1.cell 2
            have gg := set3_blk hwr1 (.int .i64 0) (.string ⟨#[]⟩) (.slice none 0 0)
            have g0 := gg.cell 0; have g1 := gg.cell 1; have g2 := gg.cell 2
            have HBQ := Lib.hid hbq
            clear hwq hHeld hR1 hbn hS hcs hbq hwr1 gg
            go_wp2_with fail
            refine bodyPost_ret (v := .tuple #[zeroNd, .bool false]) (by simp [results, Tryd.results31, go_sem, g0, g1, g2]) rfl ?_
            rw [HPUT.out, hput]
            exact ⟨rfl, (HB0.out.trans (HBQ.out.mono HB0.out.size)).trans (set3_below _ _ _ (by omega))⟩
      | some q =>
        rw [hput] at HCALL
        have hcs0 : ∀ W, RS W0 w.heap.size gz oz i.toNat x.kids.len cap z.kids.len cz y.kids.len cy az ay z.k y.k z.t y.t W → Calls Tryd.prog 31 #[.agg #[.int .i64 z.k, .string z.t, .slice az z.kids.len cz], .slice (if pc = 1 then some ⟨g, o, none⟩ else some ⟨g, o + 1, none⟩) n (pc - 1), .agg #[.int .i64 y.k, .string y.t, .slice ay y.kids.len cy]] W fun e w' =>
            ∃ au cu, e = .returned (.tuple #[.agg #[.int .i64 q.k, .string q.t, .slice au q.kids.len cu], .bool true]) ∧ KidsAt (Or2 S0 W w') w' q.kids (.slice au q.kids.len cu) ∧ Below W.heap.size W w' := fun W hW =>
          (HCALL.out W hW.2).mono fun e w' ⟨uu, he, ⟨s', e', hk⟩, hbn⟩ => by
            obtain ⟨au, cu, rfl, _⟩ := id hk
            subst e'
            exact ⟨au, cu, he, hk, hbn⟩
        clear HCALL
        by_cases hpc1 : pc = 1
        · subst hpc1
          obtain rfl : n = 0 := by omega
          have hcs := hcs0
          simp only [if_true, Nat.sub_self] at hcs
          have HC0 := Lib.hid hcs0
          clear hcs0
          go_region_held3 (fun u => (u.cell? ⟨w.heap.size, 2, none⟩ = some (.slice (some ⟨gz, oz, none⟩) x.kids.len cap) ∧ u.cell? ⟨gz, oz + i.toNat * 3, none⟩ = some (.int .i64 z.k) ∧ u.cell? ⟨gz, oz + i.toNat * 3 + 1, none⟩ = some (.string z.t) ∧ u.cell? ⟨gz, oz + i.toNat * 3 + 2, none⟩ = some (.slice az z.kids.len cz) ∧ u.cell? ⟨w.heap.size + 1, 0, none⟩ = some (.int .i64 y.k) ∧ u.cell? ⟨w.heap.size + 1, 1, none⟩ = some (.string y.t) ∧ u.cell? ⟨w.heap.size + 1, 2, none⟩ = some (.slice ay y.kids.len cy)) ∧ Below W0.heap.size W0 u)
            (first
              | assumption
              | exact RS.far (by assumption) HLT.out (set3_below _ _ _ (Nat.le_refl _))
              | exact RS.step hR1 ((Below.refl _ _).alloc (Nat.le_refl _) _)
              | exact RS.step (by assumption) ((Below.refl _ _).alloc (Nat.le_refl _) _)
              | exact RS.step (by assumption) (by assumption))
            (first
              | (go_at_call 31; with_reducible refine (hcs _ (by assumption)).mono ?_; rintro _ u1 ⟨au, cu, rfl, hnd, hbn⟩; have hR1 := RS.step (by assumption) hbn; (first | (have kz : Blk u1 W0.heap.size 24 #[.int .i64 0, .string ⟨#[]⟩, .slice none 0 0] := ((Blk.new W0 24 #[.int .i64 0, .string ⟨#[]⟩, .slice none 0 0]).drew').own hbn; have kf0 := kz.frozen 0; have kf1 := kz.frozen 1; have kf2 := kz.frozen 2; have kc0 := kz.cell 0; have kc1 := kz.cell 1; have kc2 := kz.cell 2) | skip)))
          all_goals
            rename_i hHeld
            first
              | (obtain ⟨wq, hwq⟩ : ∃ wq, (((u1.setCell ⟨W0.heap.size, 0, none⟩ (.int .i64 q.k)).setCell ⟨W0.heap.size, 1, none⟩ (.string q.t)).setCell ⟨W0.heap.size, 2, none⟩ (.slice au q.kids.len cu)) = wq := ⟨_, rfl⟩
                 obtain ⟨b9, hb9⟩ : ∃ b9, W0.heap.size = b9 := ⟨_, rfl⟩
                 have h9 := held_in (fun k hk => Nat.lt_of_lt_of_le (hS0 k hk) HB0.out.size) kz hnd (by simp) hR1.2
                 rw [hwq] at h9 ⊢
                 rw [hb9] at h9 ⊢)
              | (obtain ⟨wq, hwq⟩ : ∃ wq, u1.alloc (.cells #[.int .i64 q.k, .string q.t, .slice au q.kids.len cu] 24) = wq := ⟨_, rfl⟩
                 obtain ⟨b9, hb9⟩ : ∃ b9, u1.heap.size = b9 := ⟨_, rfl⟩
                 have h9 := held_new (fun k hk => Nat.lt_of_lt_of_le (hS0 k hk) HB0.out.size) hnd (Nat.le_refl _) hR1.2
                 rw [hwq, hb9] at h9 ⊢)
            have hL0 : ∃ L, CellsOf S0 wq x.kids L ∧ ∀ j u, L[j]? = some u → wq.cell? ⟨gz, oz + j, none⟩ = some u := by
              obtain ⟨ao', c', e, _, hr⟩ := HS.out.keep (fun _ e => e) (HKP.out wq h9.below)
              obtain ⟨g1, o1, e1, _, hr1⟩ := hr (fun e => by have := Fo.get_lt HZ.out; rw [e] at this; simp [Fo.len] at this)
              cases e; cases e1
              exact hr1.cellsOf
            obtain ⟨L, hL, hLc⟩ := hL0
            have hone := hL.one
            have HLL := Lib.hid hL.len; have HLC := Lib.hid hLc; have HL := Lib.hid hL
            have hkx := HK1.out.own h9.below
            have hkr := HK3.out.own h9.below
            have k0 := hkx.cell 0; have k1 := hkx.cell 1; have k2 := hkx.cell 2
            have hb9l := h9.blk.lt
            have H9 := Lib.hid h9
            have hlx : x.kids.len * 48 ≤ 140737488355328 := by
              have h1 := Fo.len_le x.kids
              have h2 := Fo.count_le x.kids
              simp only [Nd.weight] at hwx
              omega
            obtain ⟨i0, hi, hz0, hz1, hz2⟩ := info_parts infoN
            have HKX := Lib.hid hkx; have HKR := Lib.hid hkr
            have hpos : 0 < x.kids.len := by omega
            have HLX := Lib.hid hlx; have HPOS := Lib.hid hpos
            clear hwq hb9 h9 hL hLc hkx hkr hHeld hR1 hnd hbn hS hcs
            go_upto_region 12 with (at_builtin; refine wpList_append_own _ rfl _ _ 22 rfl wq.heap.size 24 i0 _ 3 48 Tryd.underlying22 hi hz0 hz1 hz2 rfl (by decide) _ 0 [] rfl (World.ownsRow_nil wq wq.heap.size 24 3) ⟨gz, oz, none⟩ x.kids.len cap L rfl HLL.out (fun j u hj => by rw [addr_add]; exact HLC.out j u hj) hone (by unfold maxLen; omega) (by omega) (Nat.le_refl _) ?_; intro v' w' hown' hgrow _; rw [List.nil_append, Nat.zero_add] at hown'; obtain ⟨g', c', rfl, hg1, hg2⟩ := hown'.form HPOS.out; have hbw := (Below.refl wq.heap.size wq).grown hgrow (Nat.le_refl _) (fun k hk => by cases hk); have e0 := (H9.out.blk.own hbw).cell 0; have e1 := (H9.out.blk.own hbw).cell 1; have e2 := (H9.out.blk.own hbw).cell 2; have h3 := own_three hown' (i := i.toNat) (by omega); obtain ⟨⟨ca, cb, cd, t0, t1, t2⟩, vs, hvs⟩ := h3; have r0 := frozen_row hvs (i.toNat * 3); have r1 := frozen_row hvs (i.toNat * 3 + 1); have r2 := frozen_row hvs (i.toNat * 3 + 2); have HOWN := Lib.hid hown'; have HBW := Lib.hid hbw; have HVS := Lib.hid hvs; clear hown' hbw hvs hgrow)
            have hgq := (HOWN.out.lt g' rfl).1
            have hzz := H9.out.below.size
            have hsz := HSZ.out
            have hwx1 := other3 (o := i.toNat * 3) (HKX.out.own HBW.out) (show w.heap.size ≠ g' by omega) (.int .i64 q.k) (.string q.t) (.slice au q.kids.len cu)
            have hwr1 := other3 (o := i.toNat * 3) (HKR.out.own HBW.out) (show w.heap.size + 1 + 1 ≠ g' by omega) (.int .i64 q.k) (.string q.t) (.slice au q.kids.len cu)
            have hls := list_set (B := w.heap.size + 1 + 1) (.int .i64 x.k) (.string x.t) (.slice (some ⟨g', 0, none⟩) x.kids.len c') hS0 HB0.out.size H9.out HL.out HPOS.out (by unfold maxLen; omega) HOWN.out HBW.out HZ.out (by omega) (by omega)
            have hbf := ((HB0.out.trans (H9.out.below.mono HB0.out.size)).trans (HBW.out.mono (by omega))).trans (below3 (N := w.heap.size) (.int .i64 q.k) (.string q.t) (.slice au q.kids.len cu) (B := g') (by omega) (i.toNat * 3))
            obtain ⟨we, hwe⟩ : ∃ we, (((w'.setCell ⟨g', i.toNat * 3, none⟩ (.int .i64 q.k)).setCell ⟨g', i.toNat * 3 + 1, none⟩ (.string q.t)).setCell ⟨g', i.toNat * 3 + 2, none⟩ (.slice au q.kids.len cu)) = we := ⟨_, rfl⟩
            have hws : we.heap.size = w'.heap.size := by rw [← hwe]; simp
            rw [hwe] at hwx1 hwr1 hls hbf ⊢
            have HLS := Lib.hid hls; have HBF := Lib.hid hbf; have HWS := Lib.hid hws
            have k0 := hwx1.cell 0; have k1 := hwx1.cell 1
            have f0 := hwr1.frozen 0; have f1 := hwr1.frozen 1; have f2 := hwr1.frozen 2
            have c0 := hwr1.cell 0; have c1 := hwr1.cell 1; have c2 := hwr1.cell 2
            have gg := set3_blk hwr1 (.int .i64 x.k) (.string x.t) (.slice (some ⟨g', 0, none⟩) x.kids.len c')
            have g0 := gg.cell 0; have g1 := gg.cell 1; have g2 := gg.cell 2
            clear hwx1 hwr1 hls hbf hwe gg hws hgq hzz hsz
            go_wp2_with fail
            refine bodyPost_ret (v := .tuple #[.agg #[.int .i64 x.k, .string x.t, .slice (some ⟨g', 0, none⟩) x.kids.len c'], .bool true]) (by simp [results, Tryd.results31, go_sem, g0, g1, g2]) rfl ?_
            rw [HPUT.out, hput]
            exact ⟨_, rfl, ⟨_, rfl, HLS.out.keep (fun k hk => hk.elim .inl (fun h => .inr ⟨h.1, by have := h.2; have := HWS.out; simp; omega⟩)) (fun _ _ => rfl)⟩, HBF.out.trans (set3_below _ _ _ (by omega))⟩
        · have hcs := hcs0
          simp only [if_neg hpc1] at hcs
          have HC0 := Lib.hid hcs0
          clear hcs0
          go_region_held3 (fun u => (u.cell? ⟨w.heap.size, 2, none⟩ = some (.slice (some ⟨gz, oz, none⟩) x.kids.len cap) ∧ u.cell? ⟨gz, oz + i.toNat * 3, none⟩ = some (.int .i64 z.k) ∧ u.cell? ⟨gz, oz + i.toNat * 3 + 1, none⟩ = some (.string z.t) ∧ u.cell? ⟨gz, oz + i.toNat * 3 + 2, none⟩ = some (.slice az z.kids.len cz) ∧ u.cell? ⟨w.heap.size + 1, 0, none⟩ = some (.int .i64 y.k) ∧ u.cell? ⟨w.heap.size + 1, 1, none⟩ = some (.string y.t) ∧ u.cell? ⟨w.heap.size + 1, 2, none⟩ = some (.slice ay y.kids.len cy)) ∧ Below W0.heap.size W0 u)
            (first
              | assumption
              | exact RS.far (by assumption) HLT.out (set3_below _ _ _ (Nat.le_refl _))
              | exact RS.step hR1 ((Below.refl _ _).alloc (Nat.le_refl _) _)
              | exact RS.step (by assumption) ((Below.refl _ _).alloc (Nat.le_refl _) _)
              | exact RS.step (by assumption) (by assumption))
            (first
              | (go_at_call 31; with_reducible refine (hcs _ (by assumption)).mono ?_; rintro _ u1 ⟨au, cu, rfl, hnd, hbn⟩; have hR1 := RS.step (by assumption) hbn; (first | (have kz : Blk u1 W0.heap.size 24 #[.int .i64 0, .string ⟨#[]⟩, .slice none 0 0] := ((Blk.new W0 24 #[.int .i64 0, .string ⟨#[]⟩, .slice none 0 0]).drew').own hbn; have kf0 := kz.frozen 0; have kf1 := kz.frozen 1; have kf2 := kz.frozen 2; have kc0 := kz.cell 0; have kc1 := kz.cell 1; have kc2 := kz.cell 2) | skip)))
          all_goals
            rename_i hHeld
            first
              | (obtain ⟨wq, hwq⟩ : ∃ wq, (((u1.setCell ⟨W0.heap.size, 0, none⟩ (.int .i64 q.k)).setCell ⟨W0.heap.size, 1, none⟩ (.string q.t)).setCell ⟨W0.heap.size, 2, none⟩ (.slice au q.kids.len cu)) = wq := ⟨_, rfl⟩
                 obtain ⟨b9, hb9⟩ : ∃ b9, W0.heap.size = b9 := ⟨_, rfl⟩
                 have h9 := held_in (fun k hk => Nat.lt_of_lt_of_le (hS0 k hk) HB0.out.size) kz hnd (by simp) hR1.2
                 rw [hwq] at h9 ⊢
                 rw [hb9] at h9 ⊢)
              | (obtain ⟨wq, hwq⟩ : ∃ wq, u1.alloc (.cells #[.int .i64 q.k, .string q.t, .slice au q.kids.len cu] 24) = wq := ⟨_, rfl⟩
                 obtain ⟨b9, hb9⟩ : ∃ b9, u1.heap.size = b9 := ⟨_, rfl⟩
                 have h9 := held_new (fun k hk => Nat.lt_of_lt_of_le (hS0 k hk) HB0.out.size) hnd (Nat.le_refl _) hR1.2
                 rw [hwq, hb9] at h9 ⊢)
            have hL0 : ∃ L, CellsOf S0 wq x.kids L ∧ ∀ j u, L[j]? = some u → wq.cell? ⟨gz, oz + j, none⟩ = some u := by
              obtain ⟨ao', c', e, _, hr⟩ := HS.out.keep (fun _ e => e) (HKP.out wq h9.below)
              obtain ⟨g1, o1, e1, _, hr1⟩ := hr (fun e => by have := Fo.get_lt HZ.out; rw [e] at this; simp [Fo.len] at this)
              cases e; cases e1
              exact hr1.cellsOf
            obtain ⟨L, hL, hLc⟩ := hL0
            have hone := hL.one
            have HLL := Lib.hid hL.len; have HLC := Lib.hid hLc; have HL := Lib.hid hL
            have hkx := HK1.out.own h9.below
            have hkr := HK3.out.own h9.below
            have k0 := hkx.cell 0; have k1 := hkx.cell 1; have k2 := hkx.cell 2
            have hb9l := h9.blk.lt
            have H9 := Lib.hid h9
            have hlx : x.kids.len * 48 ≤ 140737488355328 := by
              have h1 := Fo.len_le x.kids
              have h2 := Fo.count_le x.kids
              simp only [Nd.weight] at hwx
              omega
            obtain ⟨i0, hi, hz0, hz1, hz2⟩ := info_parts infoN
            have HKX := Lib.hid hkx; have HKR := Lib.hid hkr
            have hpos : 0 < x.kids.len := by omega
            have HLX := Lib.hid hlx; have HPOS := Lib.hid hpos
            clear hwq hb9 h9 hL hLc hkx hkr hHeld hR1 hnd hbn hS hcs
            go_upto_region 12 with (at_builtin; refine wpList_append_own _ rfl _ _ 22 rfl wq.heap.size 24 i0 _ 3 48 Tryd.underlying22 hi hz0 hz1 hz2 rfl (by decide) _ 0 [] rfl (World.ownsRow_nil wq wq.heap.size 24 3) ⟨gz, oz, none⟩ x.kids.len cap L rfl HLL.out (fun j u hj => by rw [addr_add]; exact HLC.out j u hj) hone (by unfold maxLen; omega) (by omega) (Nat.le_refl _) ?_; intro v' w' hown' hgrow _; rw [List.nil_append, Nat.zero_add] at hown'; obtain ⟨g', c', rfl, hg1, hg2⟩ := hown'.form HPOS.out; have hbw := (Below.refl wq.heap.size wq).grown hgrow (Nat.le_refl _) (fun k hk => by cases hk); have e0 := (H9.out.blk.own hbw).cell 0; have e1 := (H9.out.blk.own hbw).cell 1; have e2 := (H9.out.blk.own hbw).cell 2; have h3 := own_three hown' (i := i.toNat) (by omega); obtain ⟨⟨ca, cb, cd, t0, t1, t2⟩, vs, hvs⟩ := h3; have r0 := frozen_row hvs (i.toNat * 3); have r1 := frozen_row hvs (i.toNat * 3 + 1); have r2 := frozen_row hvs (i.toNat * 3 + 2); have HOWN := Lib.hid hown'; have HBW := Lib.hid hbw; have HVS := Lib.hid hvs; clear hown' hbw hvs hgrow)
            have hgq := (HOWN.out.lt g' rfl).1
            have hzz := H9.out.below.size
            have hsz := HSZ.out
            have hwx1 := other3 (o := i.toNat * 3) (HKX.out.own HBW.out) (show w.heap.size ≠ g' by omega) (.int .i64 q.k) (.string q.t) (.slice au q.kids.len cu)
            have hwr1 := other3 (o := i.toNat * 3) (HKR.out.own HBW.out) (show w.heap.size + 1 + 1 ≠ g' by omega) (.int .i64 q.k) (.string q.t) (.slice au q.kids.len cu)
            have hls := list_set (B := w.heap.size + 1 + 1) (.int .i64 x.k) (.string x.t) (.slice (some ⟨g', 0, none⟩) x.kids.len c') hS0 HB0.out.size H9.out HL.out HPOS.out (by unfold maxLen; omega) HOWN.out HBW.out HZ.out (by omega) (by omega)
            have hbf := ((HB0.out.trans (H9.out.below.mono HB0.out.size)).trans (HBW.out.mono (by omega))).trans (below3 (N := w.heap.size) (.int .i64 q.k) (.string q.t) (.slice au q.kids.len cu) (B := g') (by omega) (i.toNat * 3))
            obtain ⟨we, hwe⟩ : ∃ we, (((w'.setCell ⟨g', i.toNat * 3, none⟩ (.int .i64 q.k)).setCell ⟨g', i.toNat * 3 + 1, none⟩ (.string q.t)).setCell ⟨g', i.toNat * 3 + 2, none⟩ (.slice au q.kids.len cu)) = we := ⟨_, rfl⟩
            have hws : we.heap.size = w'.heap.size := by rw [← hwe]; simp
            rw [hwe] at hwx1 hwr1 hls hbf ⊢
            have HLS := Lib.hid hls; have HBF := Lib.hid hbf; have HWS := Lib.hid hws
            have k0 := hwx1.cell 0; have k1 := hwx1.cell 1
            have f0 := hwr1.frozen 0; have f1 := hwr1.frozen 1; have f2 := hwr1.frozen 2
            have c0 := hwr1.cell 0; have c1 := hwr1.cell 1; have c2 := hwr1.cell 2
            have gg := set3_blk hwr1 (.int .i64 x.k) (.string x.t) (.slice (some ⟨g', 0, none⟩) x.kids.len c')
            have g0 := gg.cell 0; have g1 := gg.cell 1; have g2 := gg.cell 2
            clear hwx1 hwr1 hls hbf hwe gg hws hgq hzz hsz
            go_wp2_with fail
            refine bodyPost_ret (v := .tuple #[.agg #[.int .i64 x.k, .string x.t, .slice (some ⟨g', 0, none⟩) x.kids.len c'], .bool true]) (by simp [results, Tryd.results31, go_sem, g0, g1, g2]) rfl ?_
            rw [HPUT.out, hput]
            exact ⟨_, rfl, ⟨_, rfl, HLS.out.keep (fun k hk => hk.elim .inl (fun h => .inr ⟨h.1, by have := h.2; have := HWS.out; simp; omega⟩)) (fun _ _ => rfl)⟩, HBF.out.trans (set3_below _ _ _ (by omega))⟩
    · have HPUT := Lib.hid (put_none (y := y) (p := r) hin)
      have HIN := Lib.hid hin
      have f0 := hk3.frozen 0; have f1 := hk3.frozen 1; have f2 := hk3.frozen 2
      have c0 := hk3.cell 0; have c1 := hk3.cell 1; have c2 := hk3.cell 2
      have gg := set3_blk hk3 (.int .i64 0) (.string ⟨#[]⟩) (.slice none 0 0)
      have g0 := gg.cell 0; have g1 := gg.cell 1; have g2 := gg.cell 2
      have HW0 := Lib.hid hW0; have HB0 := Lib.hid hb0
      clear hW0 hb0 hk1 hk2 hk3 hs hs2 hpt htl hn hsz hin gg
      by_cases hi0 : i < 0
      all_goals
        first
          | have hn2 : decide ((x.kids.len : Int) ≤ i) = true := decide_eq_true (by have := HIN.out; omega)
            have hn3 : (x.kids.len : Int) ≤ i := by have := HIN.out; omega
          | skip
        try have hn1 : decide (i < 0) = false := decide_eq_false hi0
        go_enter Tryd.func31, Tryd.ntmps31
        go_upto_region 3 with fail
        rw [HW0.out]
        go_wp2_with fail
        refine bodyPost_ret (v := .tuple #[zeroNd, .bool false]) (by simp [results, Tryd.results31, go_sem, g0, g1, g2]) rfl ?_
        rw [HPUT.out]
        exact ⟨rfl, HB0.out.trans (set3_below _ _ _ (by omega))⟩
end Go.Proofs.YtbdkemgfdghbkaaDoor.nd
