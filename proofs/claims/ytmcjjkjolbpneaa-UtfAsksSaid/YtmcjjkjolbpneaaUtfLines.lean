/-
  utf.Lines: the contract: the texts between the line feeds, in new memory.
-/
import Derived.Test.YtmcjjkjolbpneaaUtfPlace
import Derived.Test.YtmcjjkjolbpneaaRegionInv
import Derived.Maps.AppendAt
namespace Go.Proofs.Ytmcjjkjolbpneaa.utf
open Go.RowKit Go.Shelf
attribute [local go_sem] Oper.semAt_some
set_option linter.unusedVariables false

set_option maxHeartbeats 1000000 in
theorem clone_calls (s : ByteArray) (hs : s.size ≤ 140737488351232) (w : World) :
    Calls Try.prog 25 #[.string s] w fun e w' => e = .returned (.string s) ∧ Below w.heap.size w w' := by
  go_enter Try.func25, Try.ntmps25
  go_wp2_with (go_at_call 30; refine (Try.stringslite_Clone s _ (by omega)).mono ?_; rintro e w' ⟨rfl, hb⟩)
  go_ret
  exact ⟨rfl, hb⟩

theorem infoS : (Try.prog.info? 9).map (fun i => (i.zero, i.size, i.bytes)) = some (some (.string ⟨#[]⟩), 1, 16) := by kernel_rfl

/-- The value of a line. -/
def lineV (s : ByteArray) (x : Nat × Nat × Nat) : Value := .string (s.extract x.2.1 x.2.2)

/-- The list that is made holds the lines that have come. -/
def LnO (w : World) (s : ByteArray) (pre : List { x // Okay s x }) (W : World) : Prop :=
  ∃ v, Boxed W (w.heap.size + 1) 32 v ∧ W.ownsRow (w.heap.size + 3) 9 1 v pre.length (pre.map (fun x => lineV s x.1)) ∧ True
theorem LnO_own (w : World) (s : ByteArray) : Own (LnO w s) := by
  have h := holdsRow_own (β := List { x // Okay s x }) (w.heap.size + 3) (w.heap.size + 1) 32 9 1 (fun pre => pre.length) (fun pre => pre.map (fun x => lineV s x.1)) (fun _ _ => True)
  exact h
/-- Between two rounds. -/
def LnI (w : World) (s : ByteArray) (pre : List { x // Okay s x }) (W : World) : Prop :=
  ((LnO w s pre W ∧ Boxed W w.heap.size 9 (.string s)) ∧ Boxed W (w.heap.size + 1 + 1) 9 (.string s)) ∧ Below w.heap.size w W
theorem LnI_own (w : World) (s : ByteArray) (B : Nat) (hB : w.heap.size ≤ B) : OwnFrom B (LnI w s) :=
  OwnFrom.and (OwnFrom.and (OwnFrom.and (Own.from (LnO_own w s) _) (Own.from (boxed_own _ _ _) _)) (Own.from (boxed_own _ _ _) _)) (ownFrom_below (Nat.le_refl _) hB)

abbrev lnTmps (w : World) (s : ByteArray) (x : Nat × Nat × Nat) (Bx : Nat) (v10 v11 v12 v13 v14 v15 v16 v17 v18 v19 : Value) : Act :=
  { tmps := #[.string s, .pointer (some ⟨w.heap.size, 0, none⟩), .slice none 0 0, .pointer (some ⟨w.heap.size + 1, 0, none⟩), undef, .pointer (some ⟨Bx, 0, none⟩), .string s, .func (.func 28) #[] #[.pointer (some ⟨w.heap.size + 1 + 1, 0, none⟩)], .int .i64 (x.1 : Int), .agg #[.int .i64 (x.2.1 : Int), .int .i64 (x.2.2 : Int)], v10, v11, v12, v13, v14, v15, v16, v17, v18, v19, undef], defers := [] }
def LnA (w : World) (s : ByteArray) (x : { x // Okay s x }) (a' : Act) (W : World) : Prop :=
  ∃ Bx, w.heap.size + 1 + 1 < Bx ∧ Blk W Bx 44 #[.int .i64 (x.1.2.1 : Int), .int .i64 (x.1.2.2 : Int)] ∧ a' = lnTmps w s x.1 Bx undef undef undef undef undef undef undef undef undef undef
theorem LnA_own (w : World) (s : ByteArray) (x : { x // Okay s x }) (a' : Act) (B : Nat) : OwnFrom B (fun (_ : Unit) W => LnA w s x a' W) :=
  fun _ X Y row hs hg hr => by obtain ⟨Bx, h1, h2, h3⟩ := hs; exact ⟨Bx, h1, blk_own Bx 44 (fun (_ : Unit) => #[.int .i64 (x.1.2.1 : Int), .int .i64 (x.1.2.2 : Int)]) () X Y row h2 hg (fun r e => (hr r e).2), h3⟩

/-- In the drawn region: what each operation has left, whatever the order. -/
structure LnR (w : World) (s : ByteArray) (x : Nat × Nat × Nat) (Bx : Nat) (out : Value) (k : Nat) (xs : List Value) (W1 : World) (d : Nat → Bool) (v10 v11 v12 v13 v14 v15 v16 v17 v18 v19 : Value) (u : World) : Prop where
  p10 : d 0 = true → v10 = out
  p11 : d 1 = true → v11 = .string s
  p12 : d 2 = true → v12 = .pointer (some ⟨Bx, 0, none⟩)
  p13 : d 3 = true → v13 = .int .i64 (x.2.1 : Int)
  p14 : d 4 = true → v14 = .pointer (some ⟨Bx, 1, none⟩)
  p15 : d 5 = true → v15 = .int .i64 (x.2.2 : Int)
  p16 : d 6 = true → v16 = lineV s x
  p17 : d 7 = true → v17 = lineV s x
  q3 : d 3 = true → d 2 = true
  q5 : d 5 = true → d 4 = true
  q6 : d 6 = true → d 1 = true ∧ d 3 = true ∧ d 5 = true
  q7 : d 7 = true → d 6 = true
  q8 : d 8 = true → d 7 = true
  q9 : d 9 = true → d 0 = true ∧ d 8 = true
  q10 : d 10 = true → d 9 = true
  w7 : d 8 = false → Below W1.heap.size W1 u
  w8 : d 8 = true → d 9 = false → ∃ z, Below W1.heap.size W1 z ∧ u = z.alloc (.cells #[lineV s x] 9) ∧ v18 = .slice (some ⟨z.heap.size, 0, none⟩) 1 1
  w9 : d 9 = true → d 10 = false → ∃ z, Below W1.heap.size W1 z ∧ u.ownsRow (w.heap.size + 3) 9 1 v19 (k + 1) (xs ++ [lineV s x]) ∧ (z.alloc (.cells #[lineV s x] 9)).grownBy u out.ownBlock
  w10 : d 10 = true → ∃ z w1 v', Below W1.heap.size W1 z ∧ w1.ownsRow (w.heap.size + 3) 9 1 v' (k + 1) (xs ++ [lineV s x]) ∧ (z.alloc (.cells #[lineV s x] 9)).grownBy w1 out.ownBlock ∧ u = w1.setCell ⟨w.heap.size + 1, 0, none⟩ v'

def LnV (w : World) (s : ByteArray) (x : Nat × Nat × Nat) (Bx : Nat) (out : Value) (k : Nat) (xs : List Value) (W1 : World) (listed : Array Bool) (a : Act) (u : World) : Prop :=
  listed.size = 11 ∧ ∃ v10 v11 v12 v13 v14 v15 v16 v17 v18 v19, a = lnTmps w s x Bx v10 v11 v12 v13 v14 v15 v16 v17 v18 v19 ∧ LnR w s x Bx out k xs W1 (rinv.done listed) v10 v11 v12 v13 v14 v15 v16 v17 v18 v19 u

theorem LnR.early {w : World} {s : ByteArray} {x : Nat × Nat × Nat} {Bx : Nat} {out : Value} {k : Nat} {xs : List Value} {W1 : World} {d : Nat → Bool} {v10 v11 v12 v13 v14 v15 v16 v17 v18 v19 : Value} {u : World}
    (h : LnR w s x Bx out k xs W1 d v10 v11 v12 v13 v14 v15 v16 v17 v18 v19 u) (h9 : d 9 = false) : Below W1.heap.size W1 u := by
  cases h8 : d 8 with
  | false => exact h.w7 h8
  | true => obtain ⟨z, hz, rfl, _⟩ := h.w8 h8 h9; exact hz.alloc hz.size _

theorem ownsRow_below {W z : World} {base : Nat} {e : TypeId} {size : Nat} {v : Value} {k : Nat} {xs : List Value} (h : W.ownsRow base e size v k xs) (hz : Below W.heap.size W z) : z.ownsRow base e size v k xs := by
  refine ⟨h.1, ?_⟩
  rcases h.2 with hn | ⟨g, cap, cur, h1, h2, h3, h4⟩
  · exact .inl hn
  · exact .inr ⟨g, cap, cur, h1, h2, (hz.block g (Array.getElem?_eq_some_iff.1 h3).1).trans h3, h4⟩
theorem keeps_below {W z : World} (hz : Below W.heap.size W z) : KeepsOthers W z := ⟨hz.size, fun k o hk _ => (hz.block k (Array.getElem?_eq_some_iff.1 hk).1).trans hk⟩
/-- Behind an append to a list that lies beyond B3: what lies ahead of B3 has not turned. -/
theorem appended {W1 z u : World} {B3 k : Nat} {e : TypeId} {v : Value} {xs : List Value} {tmp : Obj} (hz : Below W1.heap.size W1 z) (hrow : W1.ownsRow B3 e 1 v k xs) (hgrow : (z.alloc tmp).grownBy u v.ownBlock) (h3 : B3 ≤ W1.heap.size) :
    (∀ b t y, Boxed W1 b t y → b < B3 → Boxed u b t y) ∧ KeepsOthers W1 u ∧ Below B3 W1 u := by
  have hzs := hz.size
  have hge : ∀ j, v.ownBlock = some j → B3 ≤ j := fun j hj => (hrow.lt j hj).1
  refine ⟨fun b t y hb hlt => ?_, ?_, ?_⟩
  · have hb1 : Boxed z b t y := (hz.block b hb.lt).trans hb
    exact (hb1.alloc tmp).kept hgrow (fun e' => by have := hge b e'.symm; omega)
  · refine ((keeps_below hz).trans (KeepsOthers.alloc z tmp)).trans (KeepsOthers.of_grownBy hgrow fun j o ej hj => ?_)
    rcases hrow.2 with ⟨rfl, _⟩ | ⟨g, cap, cur, rfl, _, hgb, _⟩
    · simp [Value.ownBlock] at ej
    · obtain rfl : g = j := by simpa [Value.ownBlock] using ej
      have hl := (Array.getElem?_eq_some_iff.1 hgb).1
      have e1 : (z.alloc tmp).heap[g]? = some (.cells cur e (0, 0)) := (Below.heap_alloc z tmp g (by omega)).trans ((hz.block g hl).trans hgb)
      rw [e1] at hj; cases hj; rfl
  · exact ((hz.mono h3).alloc (by omega) tmp).grown hgrow (by simp; omega) hge

theorem not_of {p q : Bool} (h : p = true → q = true) (hq : q = false) : p = false := by
  cases p with
  | false => rfl
  | true => rw [h rfl] at hq; cases hq

set_option maxRecDepth 100000 in
set_option maxHeartbeats 4000000 in
theorem lines_in (n : Nat) (hn : 3 ≤ n) (s : ByteArray) (hs : s.size ≤ 1048576) (w : World) :
    CallsIn Fence.wide n Try.prog 14 #[.string s] w fun e W' => ∃ v, e = .returned v ∧ W'.ownsRow (w.heap.size + 3) 9 1 v (Sp.spansOf s.data.toList).length ((Sp.spansOf s.data.toList).map (lineV s)) ∧ Below w.heap.size w W' := by
  have h1 : 1 ≤ n := by omega
  have hf : Fence.wide.fn 23 := trivial
  refine callsIn_of_wp_marks Try.func14 rfl trivial ?_ rfl
  simp only [Try.ntmps14, List.size_toArray, List.length_cons, List.length_nil, Nat.reduceAdd, Nat.reduceSub, Array.replicate_succ, Array.replicate_zero, List.push_toArray, List.append_toArray, List.nil_append, List.cons_append]
  gi_wp2_with (gi_at_call 23; refine (lines_calls (n - 1) _ _).mono ?_; rintro e w' ⟨rfl, rfl⟩)
  have b0 := ((Boxed.new w 9 (.string s)).alloc (.cells #[.slice none 0 0] 32)).alloc (.cells #[.string s] 9)
  have b1 := (Boxed.new (w.alloc (.cells #[.string s] 9)) 32 (.slice none 0 0)).alloc (.cells #[.string s] 9)
  have b2 := Boxed.new ((w.alloc (.cells #[.string s] 9)).alloc (.cells #[.slice none 0 0] 32)) 9 (.string s)
  simp only [World.size_alloc] at b1 b2
  have hB0 : Below w.heap.size w (((w.alloc (.cells #[.string s] 9)).alloc (.cells #[.slice none 0 0] 32)).alloc (.cells #[.string s] 9)) :=
    (((Below.refl _ w).alloc (Nat.le_refl _) _).alloc (by simp) _).alloc (by simp; omega) _
  have hsz : (((w.alloc (.cells #[.string s] 9)).alloc (.cells #[.slice none 0 0] 32)).alloc (.cells #[.string s] 9)).heap.size = w.heap.size + 3 := by simp
  obtain ⟨W0, hW0⟩ : ∃ W0, ((w.alloc (.cells #[.string s] 9)).alloc (.cells #[.slice none 0 0] 32)).alloc (.cells #[.string s] 9) = W0 := ⟨_, rfl⟩
  rw [hW0] at b0 b1 b2 hB0 hsz ⊢
  clear hW0
  refine wpIn_rangeFunc_ownH (F := Fence.wide) rfl h1 (gf := 28) (lb := #[.pointer (some ⟨w.heap.size + 1 + 1, 0, none⟩)]) rfl trivial (enters_of Try.func28 (by kernel_rfl) rfl)
    (lines_stops_ok (n - 1) (by omega) (w.heap.size + 1 + 1) s (by omega) W0 (by omega) b2.cell) KC.trans KC.put (Below.refl _ _) (fun _ => rfl)
    (LnI w s) (fun _ _ _ => False)
    (LnI_own w s _ (by omega)) (fun _ _ _ _ _ hs _ _ => hs)
    ⟨⟨⟨⟨_, b1, World.ownsRow_nil _ _ _ _, trivial⟩, b0⟩, b2⟩, hB0⟩
    (LnA w s) (fun x a' => LnA_own w s x a' _)
    ?assign ?body ?done ?stop
  case assign =>
    rintro l pre x W K hI hK
    gi_wp2
    obtain ⟨⟨⟨⟨v, hv, hr, _⟩, b0⟩, b2⟩, hB⟩ := hI
    exact hK _ _ ((KeepsOthers.alloc _ _).from _) (KC.alloc _ _ _) ⟨⟨⟨⟨v, hv.alloc _, hr.alloc _, trivial⟩, b0.alloc _⟩, b2.alloc _⟩, hB.alloc hB.size _⟩ ⟨W.heap.size, by have := b2.lt; omega, Blk.new W 44 _, rfl⟩
  case body =>
    rintro l pre x a' W hl ⟨r, hr⟩ hI ⟨Bx, hBx, bX, rfl⟩ hlt
    have hmx : Try.prog.follows .mixedOrders = true := by kernel_rfl
    have hdep : 1 ≤ n - 1 - 1 := by omega
    have hf25 : Fence.wide.fn 25 := trivial
    obtain ⟨⟨⟨⟨v, hv, hrow, _⟩, b0⟩, b2⟩, hB⟩ := hI
    obtain ⟨i0, hi, hz0, hz1, hz2⟩ := info_parts infoS
    obtain ⟨x, hx1, hx2⟩ := x
    obtain ⟨xs, hxs⟩ : ∃ xs, pre.map (fun x => lineV s x.1) = xs := ⟨_, rfl⟩
    rw [hxs] at hrow
    have HX := Lib.hid hxs
    clear hxs
    have cO : W.drew.cell? ⟨w.heap.size + 1, 0, none⟩ = some v := hv.cell
    have cS : W.drew.cell? ⟨w.heap.size, 0, none⟩ = some (.string s) := b0.cell
    have cF : W.drew.cell? ⟨Bx, 0, none⟩ = some (.int .i64 (x.2.1 : Int)) := bX.cell 0
    have cT : W.drew.cell? ⟨Bx, 1, none⟩ = some (.int .i64 (x.2.2 : Int)) := bX.cell 1
    have lO := hv.lt
    have lS := b0.lt
    have lX := bX.lt
    have hsz1 : W.drew.heap.size = W.heap.size := rfl
    gi_wp2
    refine wpIn_region_any hmx ?_
    change wpAnyIn _ _ _ _ _ _ _ _ _ W.drew
    refine rinv.wpAnyIn_inv (LnV w s x Bx v pre.length xs W.drew) ?step ?fin _ _ _ _ (by decide) ?start
    case start =>
      refine ⟨rfl, _, _, _, _, _, _, _, _, _, _, rfl, ?_⟩
      constructor <;> first | exact fun h => absurd h (by decide) | exact fun _ => Below.refl _ _
    case fin =>
      rintro listed a u ⟨hsl, v10, v11, v12, v13, v14, v15, v16, v17, v18, v19, rfl, h⟩ hre
      have hno : ∀ i, i ∉ Region.ready _ _ listed := fun i hi => by rw [hre] at hi; cases hi
      have mk : ∀ i, i < 11 → _ → rinv.done listed i = true := fun i hi ha => by
        cases hq : rinv.done listed i with
        | true => rfl
        | false => exact absurd (rinv.ready_of hi hsl hq ha) (hno i)
      have k0 := mk 0 (by omega) (by simp)
      have k1 := mk 1 (by omega) (by simp)
      have k2 := mk 2 (by omega) (by simp)
      have k4 := mk 4 (by omega) (by simp)
      have k3 := mk 3 (by omega) (by simp [k2])
      have k5 := mk 5 (by omega) (by simp [k4])
      have k6 := mk 6 (by omega) (by simp [k1, k3, k5])
      have k7 := mk 7 (by omega) (by simp [k6])
      have k8 := mk 8 (by omega) (by simp [k7])
      have k9 := mk 9 (by omega) (by simp [k0, k8, k7])
      have k10 := mk 10 (by omega) (by simp [k0, k1, k2, k3, k4, k5, k6, k7, k8, k9])
      obtain ⟨z, w1, v', hz, hown', hgrow, rfl⟩ := h.w10 k10
      obtain ⟨hbx, hko, hbe⟩ := appended hz hrow.drew hgrow (by omega)
      have e0 := hbx _ _ _ (Boxed.drew' b0) (by omega)
      have e1 := hbx _ _ _ (Boxed.drew' hv) (by omega)
      have e2 := hbx _ _ _ (Boxed.drew' b2) (by omega)
      have hres : LnI w s (pre ++ [⟨x, hx1, hx2⟩]) (w1.setCell ⟨w.heap.size + 1, 0, none⟩ v') := by
        refine ⟨⟨⟨⟨v', e1.set v', ?_, trivial⟩, e0.other (by omega) _⟩, e2.other (by omega) _⟩, ?_⟩
        · have := ownsRow_setCell_below hown' (a := ⟨w.heap.size + 1, 0, none⟩) (by simp) v'
          rw [List.map_append, HX.out]
          simpa using this
        · exact (hB.drew.trans (hbe.mono (by omega))).setCell (p := ⟨w.heap.size + 1, 0, none⟩) (by simp) _
      have hkf : KeepsOthers W (w1.setCell ⟨w.heap.size + 1, 0, none⟩ v') := ((KeepsOthers.drew W).trans hko).trans (KeepsOthers.setCell _ _ _)
      have hkc : KC (w.heap.size + 1 + 1) W (w1.setCell ⟨w.heap.size + 1, 0, none⟩ v') := fun y hy => by
        have : y = .string s := by have := b2.cell.symm.trans hy; simpa using this.symm
        subst this
        exact (e2.other (by omega) _).cell
      clear mk hno k0 k1 k2 k3 k4 k5 k6 k7 k8 k9 k10 hre h
      gi_wp2
      exact ⟨hkf.from _, hkc, hres⟩
    case step =>
      rintro listed a u i ⟨hsl, v10, v11, v12, v13, v14, v15, v16, v17, v18, v19, rfl, h⟩ hi
      obtain ⟨hlt11, hnot, haft⟩ := rinv.ready_mem hi
      have hd : rinv.done (listed.setIfInBounds i true) = fun k => (k == i) || rinv.done listed k := funext (rinv.done_set hnot)
      have hni := rinv.done_not hnot
      have hsl' : (listed.setIfInBounds i true).size = 11 := by rw [Array.size_setIfInBounds]; exact hsl
      have HD := Lib.hid hd; have HS := Lib.hid hsl'; have HN := Lib.hid hni; have HA := Lib.hid haft
      have HH := Lib.hid h
      clear hd hsl' hsl hnot hi hni haft h
      match i, hlt11 with
      | 0, _ =>
        refine rinv.wpOpIn_of_list rfl ?_
        have h9 := not_of (fun e => (HH.out.q9 e).1) HN.out
        have hc : u.cell? ⟨w.heap.size + 1, 0, none⟩ = some v := ((HH.out.early h9).cell (p := ⟨w.heap.size + 1, 0, none⟩) lO).trans cO
        clear h9 cO cS cF cT
        gi_wp2
        refine ⟨HS.out, _, _, _, _, _, _, _, _, _, _, rfl, ?_⟩
        rw [HD.out]
        exact { HH.out with p10 := fun _ => rfl, q9 := fun e => ⟨rfl, (HH.out.q9 e).2⟩ }
      | 1, _ =>
        refine rinv.wpOpIn_of_list rfl ?_
        have h9 := not_of (fun e => (HH.out.q6 (HH.out.q7 (HH.out.q8 (HH.out.q9 e).2))).1) HN.out
        have hc : u.cell? ⟨w.heap.size, 0, none⟩ = some (.string s) := ((HH.out.early h9).cell (p := ⟨w.heap.size, 0, none⟩) lS).trans cS
        clear h9 cO cS cF cT
        gi_wp2
        refine ⟨HS.out, _, _, _, _, _, _, _, _, _, _, rfl, ?_⟩
        rw [HD.out]
        exact { HH.out with p11 := fun _ => rfl, q6 := fun e => ⟨rfl, (HH.out.q6 e).2⟩ }
      | 2, _ =>
        refine rinv.wpOpIn_of_list rfl ?_
        clear cO cS cF cT
        gi_wp2
        refine ⟨HS.out, _, _, _, _, _, _, _, _, _, _, rfl, ?_⟩
        rw [HD.out]
        exact { HH.out with p12 := fun _ => rfl, q3 := fun _ => rfl }
      | 3, _ =>
        refine rinv.wpOpIn_of_list rfl ?_
        have h2 : rinv.done listed 2 = true := by simpa [Region.binds] using HA.out
        have e12 := HH.out.p12 h2
        subst e12
        have h9 := not_of (fun e => (HH.out.q6 (HH.out.q7 (HH.out.q8 (HH.out.q9 e).2))).2.1) HN.out
        have hc : u.cell? ⟨Bx, 0, none⟩ = some (.int .i64 (x.2.1 : Int)) := ((HH.out.early h9).cell (p := ⟨Bx, 0, none⟩) lX).trans cF
        have H2 := Lib.hid h2
        clear h9 cO cS cF cT h2
        gi_wp2
        refine ⟨HS.out, _, _, _, _, _, _, _, _, _, _, rfl, ?_⟩
        rw [HD.out]
        exact { HH.out with p13 := fun _ => rfl, q3 := fun _ => H2.out, q6 := fun e => ⟨(HH.out.q6 e).1, rfl, (HH.out.q6 e).2.2⟩ }
      | 4, _ =>
        refine rinv.wpOpIn_of_list rfl ?_
        clear cO cS cF cT
        gi_wp2
        refine ⟨HS.out, _, _, _, _, _, _, _, _, _, _, rfl, ?_⟩
        rw [HD.out]
        exact { HH.out with p14 := fun _ => rfl, q5 := fun _ => rfl }
      | 5, _ =>
        refine rinv.wpOpIn_of_list rfl ?_
        have h2 : rinv.done listed 4 = true := by simpa [Region.binds] using HA.out
        have e12 := HH.out.p14 h2
        subst e12
        have h9 := not_of (fun e => (HH.out.q6 (HH.out.q7 (HH.out.q8 (HH.out.q9 e).2))).2.2) HN.out
        have hc : u.cell? ⟨Bx, 1, none⟩ = some (.int .i64 (x.2.2 : Int)) := ((HH.out.early h9).cell (p := ⟨Bx, 1, none⟩) lX).trans cT
        have H2 := Lib.hid h2
        clear h9 cO cS cF cT h2
        gi_wp2
        refine ⟨HS.out, _, _, _, _, _, _, _, _, _, _, rfl, ?_⟩
        rw [HD.out]
        exact { HH.out with p15 := fun _ => rfl, q5 := fun _ => H2.out, q6 := fun e => ⟨(HH.out.q6 e).1, (HH.out.q6 e).2.1, rfl⟩ }
      | 6, _ =>
        refine rinv.wpOpIn_of_list rfl ?_
        have h2 : rinv.done listed 1 = true ∧ rinv.done listed 3 = true ∧ rinv.done listed 5 = true := by simpa [Region.binds] using HA.out
        have e11 := HH.out.p11 h2.1
        have e13 := HH.out.p13 h2.2.1
        have e15 := HH.out.p15 h2.2.2
        subst e11 e13 e15
        have H2 := Lib.hid h2
        have g1 : (0 : Int) ≤ (x.2.1 : Int) := by omega
        have g2 : (x.2.1 : Int) ≤ (x.2.2 : Int) := by omega
        have g3 : (x.2.2 : Int) ≤ (s.size : Int) := by omega
        clear cO cS cF cT h2
        gi_wp2
        refine ⟨HS.out, _, _, _, _, _, _, _, _, _, _, rfl, ?_⟩
        rw [HD.out]
        exact { HH.out with p16 := fun _ => rfl, q6 := fun _ => H2.out, q7 := fun _ => rfl }
      | 7, _ =>
        refine rinv.wpOpIn_of_list rfl ?_
        have h2 : rinv.done listed 6 = true := by simpa [Region.binds] using HA.out
        have e16 := HH.out.p16 h2
        subst e16
        have H2 := Lib.hid h2
        have h8 := not_of HH.out.q8 HN.out
        have h9 := not_of (fun e => (HH.out.q9 e).2) h8
        have h10 := not_of HH.out.q10 h9
        have hu := HH.out.w7 h8
        have H8 := Lib.hid h8; have H9 := Lib.hid h9; have H10 := Lib.hid h10
        have hsx : (s.extract x.2.1 x.2.2).size ≤ 140737488351232 := by rw [ByteArray.size_extract]; omega
        unfold lineV
        clear cO cS cF cT h2 h8 h9 h10
        gi_wp2_with (gi_at_call 25; refine (CallsIn.inRound l (callsIn_wide.2 (clone_calls _ hsx _))).mono ?_; rintro e w' ⟨rfl, hb⟩)
        refine ⟨HS.out, _, _, _, _, _, _, _, _, _, _, rfl, ?_⟩
        rw [HD.out]
        exact { HH.out with
          p17 := fun _ => rfl, q7 := fun _ => H2.out, q8 := fun _ => rfl
          w7 := fun _ => hu.trans (hb.mono hu.size)
          w8 := fun e _ => absurd (show rinv.done listed 8 = true from e) (by rw [H8.out]; simp)
          w9 := fun e _ => absurd (show rinv.done listed 9 = true from e) (by rw [H9.out]; simp)
          w10 := fun e => absurd (show rinv.done listed 10 = true from e) (by rw [H10.out]; simp) }
      | 8, _ =>
        refine rinv.wpOpIn_of_list rfl ?_
        have h2 : rinv.done listed 7 = true := by simpa [Region.binds] using HA.out
        have e17 := HH.out.p17 h2
        subst e17
        have H2 := Lib.hid h2
        have h9 := not_of (fun e => (HH.out.q9 e).2) HN.out
        have h10 := not_of HH.out.q10 h9
        have hu := HH.out.w7 HN.out
        have H9 := Lib.hid h9; have H10 := Lib.hid h10
        unfold lineV
        clear cO cS cF cT h2 h9 h10
        gi_wp2
        refine ⟨HS.out, _, _, _, _, _, _, _, _, _, _, rfl, ?_⟩
        rw [HD.out]
        exact { HH.out with
          q8 := fun _ => H2.out, q9 := fun e => ⟨(HH.out.q9 e).1, rfl⟩
          w7 := fun e => by cases e
          w8 := fun _ _ => ⟨u, hu, rfl, rfl⟩
          w9 := fun e _ => absurd (show rinv.done listed 9 = true from e) (by rw [H9.out]; simp)
          w10 := fun e => absurd (show rinv.done listed 10 = true from e) (by rw [H10.out]; simp) }
      | 9, _ =>
        refine rinv.wpOpIn_of_list rfl ?_
        have h2 : rinv.done listed 0 = true ∧ rinv.done listed 8 = true ∧ rinv.done listed 7 = true := by simpa [Region.binds] using HA.out
        have e10 := HH.out.p10 h2.1
        subst e10
        obtain ⟨z, hz, rfl, e18⟩ := HH.out.w8 h2.2.1 HN.out
        subst e18
        have H2 := Lib.hid h2
        have h10 := not_of HH.out.q10 HN.out
        have H10 := Lib.hid h10
        have hrz := ownsRow_below hrow.drew hz
        have hzs := hz.size
        have hpl : pre.length ≤ s.size := by omega
        clear cO cS cF cT h2 h10
        refine wpListIn_append_own _ rfl _ _ 32 rfl (w.heap.size + 3) 9 i0 (.string ⟨#[]⟩) 1 16 Try.underlying32 hi hz0 hz1 hz2 rfl (by decide) _ _ _ rfl (hrz.alloc _) ⟨z.heap.size, 0, none⟩ 1 1 [lineV s x] rfl rfl (cell_one_new _ _ _) (by simp [lineV, Value.oneCell']) (by unfold maxLen; omega) (by omega) (by simp; omega) ?_
        intro v' w1 hown' hgrow _
        gi_wp2
        refine ⟨HS.out, _, _, _, _, _, _, _, _, _, _, rfl, ?_⟩
        rw [HD.out]
        exact { HH.out with
          q9 := fun _ => ⟨H2.out.1, H2.out.2.1⟩, q10 := fun _ => rfl
          w7 := fun e => absurd (show rinv.done listed 8 = false from e) (by rw [H2.out.2.1]; simp)
          w8 := fun _ e => by cases e
          w9 := fun _ _ => ⟨z, hz, hown', hgrow⟩
          w10 := fun e => absurd (show rinv.done listed 10 = true from e) (by rw [H10.out]; simp) }
      | 10, _ =>
        refine rinv.wpOpIn_of_list rfl ?_
        have h2 : rinv.done listed 9 = true ∧ rinv.done listed 8 = true := by
          have := HA.out
          simp [Region.binds] at this
          exact ⟨this.1, this.2.2.2.2.2.2.2.2.2.1⟩
        obtain ⟨z, hz, hown', hgrow⟩ := HH.out.w9 h2.1 HN.out
        obtain ⟨g', cap', rfl⟩ := ownsRow_succ hown'
        have H2 := Lib.hid h2
        have hap := (appended hz hrow.drew hgrow (by omega)).1 _ _ _ (Boxed.drew' hv) (by omega)
        have hc1 := hap.cell
        have hf1 := hap.frozen
        clear cO cS cF cT h2
        gi_wp2
        refine ⟨HS.out, _, _, _, _, _, _, _, _, _, _, rfl, ?_⟩
        rw [HD.out]
        exact { HH.out with
          q10 := fun _ => H2.out.1
          w7 := fun e => absurd (show rinv.done listed 8 = false from e) (by rw [H2.out.2]; simp)
          w8 := fun _ e => absurd (show rinv.done listed 9 = false from e) (by rw [H2.out.1]; simp)
          w9 := fun _ e => by cases e
          w10 := fun _ => ⟨z, u, _, hz, hown', hgrow, rfl⟩ }
      | (j + 11), h => exact absurd h (by simp)
  case done =>
    rintro D ys W hD hys ⟨⟨⟨⟨v, hv, hr, _⟩, b0⟩, b2⟩, hB⟩ hK
    have hc := hv.cell
    have e1 : ys.map (fun x => lineV s x.1) = (Sp.spansOf s.data.toList).map (lineV s) := by rw [← hys, List.map_map]; rfl
    have e2 : ys.length = (Sp.spansOf s.data.toList).length := by rw [← hys, List.length_map]
    rw [e1, e2] at hr
    clear e1 e2 hys
    gi_wp2
    refine ⟨by simp, .inl ⟨_, _, rfl, run_takeDeferred hK, ?_⟩⟩
    exact ⟨_, results_tmp rfl _ _ _, v, rfl, ownsRow_putObj hr _ hK rfl, hB.trans (belowK_b (w := w) (Nat.le_refl _) W D _ _ (by omega) hK rfl rfl)⟩
  case stop =>
    rintro D c pre W _ _ h _
    exact h.elim
/-- utf.Lines: a new list that is not nil; it holds the lines. -/
theorem lines_list (s : ByteArray) (hs : s.size ≤ 1048576) (w : World) :
    Calls Try.prog 14 #[.string s] w fun e W' => ∃ g cap, e = .returned (.slice (some ⟨g, 0, none⟩) (Sp.spansOf s.data.toList).length cap) ∧ w.heap.size ≤ g ∧ g < W'.heap.size ∧
      (∀ (j : Nat) x, (Sp.spansOf s.data.toList)[j]? = some x → W'.cell? ⟨g, j, none⟩ = some (lineV s x)) ∧ Below w.heap.size w W' := by
  refine (callsIn_wide.1 (lines_in 3 (Nat.le_refl _) s hs w)).mono ?_
  rintro e W' ⟨v, rfl, hr, hb⟩
  have hne : (Sp.spansOf s.data.toList).length ≠ 0 := fun e => Sp.spans_ne _ 0 0 0 (List.length_eq_zero_iff.1 e)
  rcases hr.2 with ⟨_, h0⟩ | ⟨g, cap, cur, rfl, hg, hgb, _, _, _, hcur⟩
  · exact absurd h0 hne
  · refine ⟨g, cap, rfl, by omega, (Array.getElem?_eq_some_iff.1 hgb).1, fun j x hx => ?_, hb⟩
    have hj : j < (Sp.spansOf s.data.toList).length := (List.getElem?_eq_some_iff.1 hx).1
    rw [hr.cellAt j (by omega), List.getElem?_map, hx]
    rfl

end Go.Proofs.Ytmcjjkjolbpneaa.utf
