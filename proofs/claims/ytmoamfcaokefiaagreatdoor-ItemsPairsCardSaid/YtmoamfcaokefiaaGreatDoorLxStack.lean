/-
  lex's stack: depth, push, pop: their contracts, on a lexer's own stack.
-/
import Derived.Deep.AppendLies
import Derived.Deep.RegionLaw
import Derived.StillTailTactics
import Derived.Test.YtmoamfcaokefiaaGreatDoorLxStart
namespace Go.Proofs.YtmoamfcaokefiaaGreatDoor.lx
open Go.RowKit Go.Shelf
open sg (lst_len extract_drop ext_size)
open sx
set_option linter.unusedVariables false

theorem infoState : (Tryz.prog.info? 101).map (fun i => (i.zero, i.size, i.bytes)) = some (some (.agg #[.bool false, .int .i64 0]), 2, 16) := by kernel_rfl

set_option maxHeartbeats 1000000 in
theorem depth_calls (Lb len cap : Nat) (ao : Option Addr) (W : World) (hc : W.cell? ⟨Lb, 3, none⟩ = some (.slice ao len cap)) :
    Calls Tryz.prog 97 #[.pointer (some ⟨Lb, 1, none⟩)] W fun e w' => e = .returned (.int .i64 (len : Int)) ∧ w' = W := by
  go_enter Tryz.func97, Tryz.ntmps97
  go_wp2
  go_ret
  exact ⟨rfl, rfl⟩

/-- What a step on the lexer may turn: its block, and the row of its stack. -/
def SL (Lb : Nat) (bv : Value) (k : Nat) : Prop := k = Lb ∨ bv.ownBlock = some k

/-- The stack behind a push. -/
def Pushed (Lb : Nat) (rest : ByteArray) (vO vC vI : Value) (base k : Nat) (xs : List Value) (bv : Value) (top : Lx.St) (W w' : World) : Prop :=
  ∃ bv', Blk w' Lb 107 (lexCells rest top bv' vO vC vI) ∧ w'.ownsRow base 101 2 bv' k xs ∧ But W.heap.size (SL Lb bv) W w'

theorem own_ne {W : World} {base : Nat} {e t : TypeId} {size n B : Nat} {v : Value} {xs : List Value} {vs : Array Value} (h : W.ownsRow base e size v n xs) (hb : Blk W B t vs) (ht : t ≠ e) : (some B : Option Nat) ≠ v.ownBlock := by
  intro he
  rcases h.2 with ⟨rfl, _⟩ | ⟨g, cap, cur, rfl, _, hgb, _⟩
  · simp [Value.ownBlock] at he
  · obtain rfl : B = g := by simpa [Value.ownBlock] using he
    rw [show W.heap[B]? = _ from hb] at hgb
    injection hgb with hgb; injection hgb with _ h2 _
    exact ht h2
theorem facts_of {W1 w1 : World} {Lb B : Nat} {rest : ByteArray} {top new : Lx.St} {bv vO vC vI : Value} {o : Obj} {row : Option Nat} (hb : Blk W1 Lb 107 (lexCells rest top bv vO vC vI)) (hn : Blk W1 B 101 #[.bool new.text, .int .i64 new.br])
    (hg : (W1.alloc o).drew.grownBy w1 row) (h1 : some Lb ≠ row) (h2 : some B ≠ row) :
    w1.cell? ⟨Lb, 1, none⟩ = some (.bool top.text) ∧ w1.cell? ⟨Lb, 2, none⟩ = some (.int .i64 top.br) ∧ w1.cell? ⟨Lb, 3, none⟩ = some bv ∧ w1.frozen? ⟨Lb, 1, none⟩ = false ∧ w1.frozen? ⟨Lb, 2, none⟩ = false ∧ w1.frozen? ⟨Lb, 3, none⟩ = false ∧
      w1.cell? ⟨B, 0, none⟩ = some (.bool new.text) ∧ w1.cell? ⟨B, 1, none⟩ = some (.int .i64 new.br) := by
  have k1 : Blk w1 Lb 107 (lexCells rest top bv vO vC vI) := ((hb.alloc o).drew').kept hg h1
  have k2 : Blk w1 B 101 #[.bool new.text, .int .i64 new.br] := ((hn.alloc o).drew').kept hg h2
  exact ⟨k1.cell 1, k1.cell 2, k1.cell 3, k1.frozen 1, k1.frozen 2, k1.frozen 3, k2.cell 0, k2.cell 1⟩

theorem own_set {W : World} {base : Nat} {e : TypeId} {size n B o : Nat} {v u : Value} {xs : List Value} (h : W.ownsRow base e size v n xs) (hne : (some B : Option Nat) ≠ v.ownBlock) : (W.setCell ⟨B, o, none⟩ u).ownsRow base e size v n xs := by
  refine ⟨h.1, ?_⟩
  rcases h.2 with hn | ⟨g, cap, cur, rfl, h2, h3, h4⟩
  · exact .inl hn
  · exact .inr ⟨g, cap, cur, rfl, h2, (Below.heap_setCell _ _ _ g (fun e' => hne (by simp [Value.ownBlock]; exact e'.symm))).trans h3, h4⟩
theorem lex_set {W : World} {Lb : Nat} {rest : ByteArray} {top : Lx.St} {bv bv' vO vC vI : Value} {b : Bool} {n : Int} (h : Blk W Lb 107 (lexCells rest top bv vO vC vI)) :
    Blk (((W.setCell ⟨Lb, 3, none⟩ bv').setCell ⟨Lb, 1, none⟩ (.bool b)).setCell ⟨Lb, 2, none⟩ (.int .i64 n)) Lb 107 (lexCells rest ⟨b, n⟩ bv' vO vC vI) :=
  ((h.set (o := 3) bv').set (o := 1) (.bool b)).set (o := 2) (.int .i64 n)
theorem pushed_fin {W W1 w1 : World} {Lb gg cap k base : Nat} {rest : ByteArray} {top new : Lx.St} {bv vO vC vI : Value} {o : Obj} {xs : List Value} (hB1 : Below W.heap.size W W1) (hb : Blk W1 Lb 107 (lexCells rest top bv vO vC vI))
    (hg : (W1.alloc o).drew.grownBy w1 bv.ownBlock) (hown : w1.ownsRow base 101 2 (.slice (some ⟨gg, 0, none⟩) (k + 1) cap) (k + 1) xs) (hne : (some Lb : Option Nat) ≠ bv.ownBlock) :
    Pushed Lb rest vO vC vI base (k + 1) xs bv new W (((w1.setCell ⟨Lb, 3, none⟩ (.slice (some ⟨gg, 0, none⟩) (k + 1) cap)).setCell ⟨Lb, 1, none⟩ (.bool new.text)).setCell ⟨Lb, 2, none⟩ (.int .i64 new.br)) := by
  have hb1 : Blk w1 Lb 107 (lexCells rest top bv vO vC vI) := ((hb.alloc o).drew').kept hg hne
  have h1 := own_ne hown hb1 (by decide)
  refine ⟨_, lex_set hb1, own_set (own_set (own_set hown h1) h1) h1, ?_⟩
  refine But.setCell (But.setCell (But.setCell ?_ (fun _ => .inl rfl) _) (fun _ => .inl rfl) _) (fun _ => .inl rfl) _
  exact (((But.of_below hB1).alloc (Nat.le_refl _) o).drew).grown hg (Nat.le_refl _) (fun k e _ => .inr e)

set_option maxRecDepth 100000 in
set_option maxHeartbeats 8000000 in
theorem push_calls (Lb : Nat) (rest : ByteArray) (vO vC vI bv : Value) (top new : Lx.St) (base k : Nat) (xs : List Value) (hk : k ≤ 65536) (W : World)
    (hb : Blk W Lb 107 (lexCells rest top bv vO vC vI)) (hown : W.ownsRow base 101 2 bv k xs) (hbase : base ≤ W.heap.size) :
    Calls Tryz.prog 109 #[.pointer (some ⟨Lb, 1, none⟩), .agg #[.bool new.text, .int .i64 new.br]] W fun e w' => e = .returned (.tuple #[]) ∧ Pushed Lb rest vO vC vI base (k + 1) (xs ++ [.bool top.text, .int .i64 top.br]) bv new W w' := by
  obtain ⟨i0, hi, hz0, hz1, hz2⟩ := info_parts infoState
  obtain ⟨W1, hW1⟩ : ∃ W1, W.alloc (.cells #[.bool new.text, .int .i64 new.br] 101) = W1 := ⟨_, rfl⟩
  have hB1 : Below W.heap.size W W1 := by rw [← hW1]; exact (Below.refl _ W).alloc (Nat.le_refl _) _
  have hs1 : W1.heap.size = W.heap.size + 1 := by rw [← hW1]; simp
  have hn1 : Blk W1 W.heap.size 101 #[.bool new.text, .int .i64 new.br] := by rw [← hW1]; exact Blk.new W _ _
  have hb1 := hb.own hB1
  have hown1 : W1.ownsRow base 101 2 bv k xs := by rw [← hW1]; exact hown.alloc _
  have c1 : W1.cell? ⟨Lb, 1, none⟩ = some (.bool top.text) := hb1.cell 1
  have c2 : W1.cell? ⟨Lb, 2, none⟩ = some (.int .i64 top.br) := hb1.cell 2
  have c3 : W1.cell? ⟨Lb, 3, none⟩ = some bv := hb1.cell 3
  have d0 : W1.cell? ⟨W.heap.size, 0, none⟩ = some (.bool new.text) := hn1.cell 0
  have d1 : W1.cell? ⟨W.heap.size, 1, none⟩ = some (.int .i64 new.br) := hn1.cell 1
  have f1 := hb1.frozen 1
  have f2 := hb1.frozen 2
  have f3 := hb1.frozen 3
  have hlt := hb.lt
  have hbase1 : base ≤ W1.heap.size + 1 := by omega
  have hlt1 : Lb < W1.heap.size := by omega
  have hne : (some Lb : Option Nat) ≠ bv.ownBlock := own_ne hown hb (by decide)
  have hne2 : (some W.heap.size : Option Nat) ≠ bv.ownBlock := fun e => by have := (hown.lt _ e.symm).2; omega
  have HNE := Lib.hid hne
  have HB := Lib.hid hb; have HB1 := Lib.hid hB1; have HN := Lib.hid hn1; have HBB := Lib.hid hb1; have HS := Lib.hid hs1
  clear hb hB1 hn1 hb1 hs1 hown
  go_enter Tryz.func109, Tryz.ntmps109
  go_wp2_with fail
  clear hW1
  go_region_law ((refine step_append_lies _ (by rfl) _ _ _ (by rfl) base 101 i0 _ 2 16 Tryz.underlying102 hi hz0 hz1 hz2 rfl (by omega) bv k xs (by rfl) ((hown1.alloc _).drew) ⟨W1.heap.size, 0, none⟩ 1 1 [.bool top.text, .int .i64 top.br] (by rfl) (by rfl) (World.news_of_block (cs := #[.bool top.text, .int .i64 top.br]) (t := 101) (fr := (0, 0)) (heap_alloc_new W1 _)) (by intro u hu; simp at hu; rcases hu with rfl | rfl <;> rfl) (by omega) (by unfold maxLen; omega) (by omega) (by simp; omega) (W1.heap.size + 1) (by simp) ?_; intro gg cap w1 hown2 hgrow hat hlt2; obtain ⟨g1, g2, g3, g4, g5, g6, e0, e1⟩ := facts_of HBB.out HN.out hgrow hne hne2))
  all_goals go_wp2_with fail
  all_goals go_end0
  all_goals exact ⟨rfl, pushed_fin HB1.out HBB.out hgrow hown2 HNE.out⟩

theorem own_take {W : World} {base : Nat} {e : TypeId} {size m k g cap : Nat} {xs ys : List Value} (h : W.ownsRow base e size (.slice (some ⟨g, 0, none⟩) m cap) m (xs ++ ys)) (hx : xs.length = k * size) (hk : k ≤ m) : W.ownsRow base e size (.slice (some ⟨g, 0, none⟩) k cap) k xs := by
  refine ⟨hx, ?_⟩
  rcases h.2 with ⟨h1, _⟩ | ⟨g', cap', cur, h1, h2, h3, h4, h5, h6, h7⟩
  · cases h1
  · cases h1
    refine .inr ⟨g, cap, cur, rfl, h2, h3, by omega, h5, h6, ?_⟩
    have := congrArg (List.take (k * size)) h7
    rw [List.take_take, ← hx, List.take_left] at this
    have hle : k * size ≤ m * size := Nat.mul_le_mul_right _ hk
    rw [← this, Nat.min_eq_left (by rw [hx]; exact hle), hx]

set_option maxRecDepth 100000 in
set_option maxHeartbeats 8000000 in
theorem pop_calls (Lb : Nat) (rest : ByteArray) (vO vC vI : Value) (top new : Lx.St) (base k m g cap : Nat) (xs : List Value) (hm : m = k + 1) (hk : k ≤ 65536) (W : World)
    (hb : Blk W Lb 107 (lexCells rest top (.slice (some ⟨g, 0, none⟩) m cap) vO vC vI)) (hown : W.ownsRow base 101 2 (.slice (some ⟨g, 0, none⟩) m cap) m (xs ++ [.bool new.text, .int .i64 new.br])) :
    Calls Tryz.prog 110 #[.pointer (some ⟨Lb, 1, none⟩)] W fun e w' => e = .returned (.tuple #[]) ∧ Pushed Lb rest vO vC vI base k xs (.slice (some ⟨g, 0, none⟩) m cap) new W w' := by
  have hx : xs.length = k * 2 := by have := hown.1; rw [List.length_append] at this; simp at this; omega
  have hne : (some Lb : Option Nat) ≠ (Value.slice (some ⟨g, 0, none⟩) m cap).ownBlock := own_ne hown hb (by decide)
  have hgl : g ≠ Lb := fun e => hne (by rw [← e]; rfl)
  have c0 : W.cell? ⟨g, k * 2, none⟩ = some (.bool new.text) := by
    have := hown.cellAt (k * 2) (by omega)
    rw [this, List.getElem?_append_right (by omega), hx]; simp
  have c00 : W.cell? ⟨g, k * 2 + 1, none⟩ = some (.int .i64 new.br) := by
    have := hown.cellAt (k * 2 + 1) (by omega)
    rw [this, List.getElem?_append_right (by omega), hx]; simp
  have c1 : W.cell? ⟨Lb, 1, none⟩ = some (.bool top.text) := hb.cell 1
  have c2 : W.cell? ⟨Lb, 2, none⟩ = some (.int .i64 top.br) := hb.cell 2
  have c3 : W.cell? ⟨Lb, 3, none⟩ = some (.slice (some ⟨g, 0, none⟩) m cap) := hb.cell 3
  have f1 := hb.frozen 1
  have f2 := hb.frozen 2
  have f3 := hb.frozen 3
  have hlt := hb.lt
  have hcap : m ≤ cap := by
    rcases hown.2 with ⟨h1, _⟩ | ⟨g', cap', cur, h1, h2, h3, h4, _⟩
    · cases h1
    · cases h1; exact h4
  have hkm : k < m := by omega
  have hkm1 : (k : Int) < (m : Int) := by omega
  have hk0 : (0 : Int) ≤ (k : Int) := by omega
  have hkc : k ≤ cap := by omega
  have hkc1 : (k : Int) ≤ (cap : Int) := by omega
  have hw1 : wrap64 ((m : Int) - 1) = (k : Int) := by rw [IntWalk.wrap64_in _ (by omega)]; omega
  have hw2 : IntKind.i64.wrap ((m : Int) - 1) = (k : Int) := (IntWalk.i64_left _).trans hw1
  have HB := Lib.hid hb; have HO := Lib.hid (own_take hown hx (Nat.le_of_lt hkm)); have HN := Lib.hid hne
  clear hb hown hne hm hx
  go_enter Tryz.func110, Tryz.ntmps110
  go_wp2_with fail
  go_end0
  have hno : (some Lb : Option Nat) ≠ (Value.slice (some ⟨g, 0, none⟩) k cap).ownBlock := HN.out
  exact ⟨rfl, .slice (some ⟨g, 0, none⟩) k cap, ((HB.out.set (o := 1) _).set (o := 2) _).set (o := 3) _, own_set (own_set (own_set HO.out hno) hno) hno,
    But.setCell (But.setCell (But.setCell (But.refl _ _ _) (fun _ => .inl rfl) _) (fun _ => .inl rfl) _) (fun _ => .inl rfl) _⟩
end Go.Proofs.YtmoamfcaokefiaaGreatDoor.lx
