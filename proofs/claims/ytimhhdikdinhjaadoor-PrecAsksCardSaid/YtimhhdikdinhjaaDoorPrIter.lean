/-
  prec: graded, the iterator over the package's table.
-/
import Derived.Test.YtimhhdikdinhjaaDoorPrTab
import Derived.Test.YtimhhdikdinhjaaDoorShelf
import Derived.Lib.Hide
import Derived.LoopNIn
import Derived.LoopIn
import Derived.RegionTactic
namespace Go.Proofs.YtimhhdikdinhjaaDoor.pr
open Go.RowKit Go.Shelf sx
attribute [local go_sem] Oper.semAt_some
set_option linter.unusedVariables false

/-- What the iterator asks of a round: all below n stays, and each block of cells of type t. -/
def KT (n : Nat) (t : TypeId) (W W' : World) : Prop := Below n W W' ∧ ∀ B vs, Blk W B t vs → Blk W' B t vs
theorem KT.refl (n : Nat) (t : TypeId) (W : World) : KT n t W W := ⟨Below.refl _ _, fun _ _ h => h⟩
theorem KT.trans {n : Nat} {t : TypeId} {A B C : World} (h : KT n t A B) (k : KT n t B C) : KT n t A C := ⟨h.1.trans k.1, fun b vs a => k.2 b vs (h.2 b vs a)⟩
theorem KT.of_below {n : Nat} {t : TypeId} {W W' : World} (h : Below W.heap.size W W') (hn : n ≤ W.heap.size) : KT n t W W' := ⟨h.mono hn, fun _ _ hb => hb.own h⟩
theorem KT.put {n B : Nat} {t : TypeId} (hB : n ≤ B) (W : World) (l : Nat) (o o' : Obj) (hl : B ≤ l) (h : W.heap[l]? = some o) (hc : o.isCells = false) (hw : o.isWalk = false) : KT n t W (W.putObj l o') :=
  ⟨(Below.refl n W).grown (grownBy_putObj' W l o') (by have := (Array.getElem?_eq_some_iff.1 h).1; omega) (fun j e => by cases e; omega), fun b vs hb => hb.kept (grownBy_putObj' _ l o') (fun e => by cases e; rw [show W.heap[_]? = _ from hb] at h; cases h; cases hc)⟩

theorem wpListIn_load_val {F : Fence} {n : Nat} {P : Program} {w : World} {ops : Array Oper} {rest : List Oper} {o : Oper} {a : Act} {Q : Exit → Act → World → Prop}
    (hg : o.guard = none) (ty : TypeId) (x : Operand) (hop : o.op = Op.load ty x) (pv : Value) (hx : a.eval x = pv) (v : Value) (hld : (Instr.loadAt ty pv).run P w = .ok v w)
    (hK : wpListIn F n P ops Q rest (a.put o.dst v) w) : wpListIn F n P ops Q (o :: rest) a w := by
  refine wpListIn_plain hg fun K' hK' => ?_
  unfold Oper.wpIn
  refine ⟨by simp [Oper.about, hop], ?_⟩
  rw [Oper.semAt_plain F _ _ (by rw [hop]; intro c hc'; cases hc')]
  simp [execOp, hop, hx, hld, Result.andThen]
  exact hK' _ _ hK

set_option maxRecDepth 100000 in
set_option maxHeartbeats 4000000 in
theorem graded_in (n : Nat) (hn : 1 ≤ n) (l : Nat) (J : List Op → World → Prop) (w W : World) (hw : Below w.heap.size w W) (hL : LvAt w)
    (hY : ∀ pre x rest W, opsP = pre ++ x :: rest → J pre W → YieldAt Fence.wide (n - 1) Tryd.prog l (encO x) W fun e W' => e = .returned (.bool true) ∧ J (pre ++ [x]) W' ∧ KT w.heap.size 47 W W')
    (hJ : AbidesFrom W.heap.size J) (h0 : J [] W) :
    CallsIn Fence.wide n Tryd.prog 25 #[.func (.yield l) #[] #[]] W fun e W' => (∃ v, e = .returned v) ∧ J opsP W' := by
  obtain ⟨hG, Tl, hTz, hT, hLv⟩ := hL
  have hld : (Instr.loadAt 48 (.pointer (some ⟨0, 0, none⟩))).run Tryd.prog W = .ok (.agg Tl.toArray) W :=
    run_loadAt_mid W 0 0 48 Tl (.array 9 47) (fun j v hj => (hw.cell (p := ⟨0, 0 + j, none⟩) hG).trans (hT j v hj)) Tryd.underlying48 rfl (by rw [hTz]; kernel_rfl)
  obtain ⟨T, hTT⟩ : ∃ T, Tl.toArray = T := ⟨_, rfl⟩
  have hsz : T.size = 18 := by rw [← hTT]; exact hTz
  have hat : ∀ m : Nat, m < 9 → ∃ g o c, (T[m * 2]? = some (.int .i64 (sideM m)) ∧ T[m * 2 + 1]? = some (.slice (some ⟨g, o, none⟩) (cnt m) c)) ∧ g < w.heap.size ∧ ∀ k, k < cnt m → w.cell? ⟨g, o + k, none⟩ = some (.string (txt (strt m + k))) := by
    intro m hm
    obtain ⟨h1, g, o, c, h2, h3, h4⟩ := hLv m hm
    rw [← hTT]
    exact ⟨g, o, c, ⟨by simpa using h1, by simpa using h2⟩, h3, h4⟩
  rw [hTT] at hld
  have HAT := Lib.hid hat; have HSZ := Lib.hid hsz
  clear hat hLv hT hTz hTT hsz hG
  have hws := hw.size
  have hJ2 : AbidesFrom W.heap.size J := hJ
  refine callsIn_of_wp Tryd.func25 rfl trivial ?_ rfl
  simp only [Tryd.ntmps25, List.size_toArray, List.length_cons, List.length_nil, Nat.reduceAdd, Nat.reduceSub, Array.replicate_succ, Array.replicate_zero, List.push_toArray, List.append_toArray, List.nil_append, List.cons_append]
  gi_wp2_with (refine wpListIn_load_val rfl _ _ rfl _ rfl _ hld ?_)
  gi_loopw [7] (fun i wr => ∃ m : Nat, i = .int .i64 (m : Int) ∧ m ≤ 9 ∧ J (opsP.take (strt m)) wr ∧ Below w.heap.size w wr ∧ W.heap.size ≤ wr.heap.size) (fun i _ => 9 - (intOf i).toNat)
  case atStart => exact ⟨0, rfl, Nat.zero_le _, h0, hw, Nat.le_refl _⟩
  case round =>
    obtain ⟨m, rfl, hm, hJ1, hB, hS⟩ := hrel
    by_cases h : m < 9
    · obtain ⟨g, o, c, ⟨h1, h2⟩, hgl, hce⟩ := HAT.out m h
      have hix := fun w => run_level h HSZ.out h1 h2 w
      have hm9 : (m : Int) < 9 := by omega
      have HCE := Lib.hid hce; have HIX := Lib.hid hix
      clear h1 h2 hce hix
      gi_wp2_with fail
      rw [HIX.out]
      gi_wp2_with fail
      obtain ⟨wo, hwo⟩ : ∃ wo, (wr.alloc (.cells #[.int .i64 (sideM m), .slice (some ⟨g, o, none⟩) (cnt m) c] 47)) = wo := ⟨_, rfl⟩
      have hbo : Below wr.heap.size wr wo := by rw [← hwo]; exact (Below.refl _ wr).alloc (Nat.le_refl _) _
      have hko : Blk wo wr.heap.size 47 #[.int .i64 (sideM m), .slice (some ⟨g, o, none⟩) (cnt m) c] := by rw [← hwo]; exact Blk.new wr _ _
      have hJo : J (opsP.take (strt m)) wo := abides_below hJ2 hJ1 hbo
      have hBo : Below w.heap.size w wo := hB.trans (hbo.mono hB.size)
      have hSo : W.heap.size ≤ wo.heap.size := Nat.le_trans hS hbo.size
      obtain ⟨b, hb⟩ : ∃ b, wr.heap.size = b := ⟨_, rfl⟩
      rw [hb] at hko
      have hcn := cnt_le m h
      obtain ⟨N, hN⟩ : ∃ N, cnt m = N := ⟨_, rfl⟩
      obtain ⟨sd, hsd⟩ : ∃ sd, sideM m = sd := ⟨_, rfl⟩
      rw [hwo, hb, hN, hsd]
      rw [hN, hsd] at hko
      rw [hN] at hcn
      clear hwo hbo hJ1 hS hB
      gi_loopw [14] (fun i wx => ∃ k : Nat, i = .int .i64 (k : Int) ∧ k ≤ N ∧ J (opsP.take (strt m + k)) wx ∧ Below w.heap.size w wx ∧ W.heap.size ≤ wx.heap.size ∧ Blk wx b 47 #[.int .i64 sd, .slice (some ⟨g, o, none⟩) N c]) (fun i _ => N - (intOf i).toNat)
      case atStart => exact ⟨0, rfl, Nat.zero_le _, hJo, hBo, hSo, hko⟩
      case round =>
        obtain ⟨k, rfl, hk, hJk, hBk, hSk, hKk⟩ := hrel
        by_cases hlt : k < N
        · have hop := ops_at h (k := k) (by omega)
          obtain ⟨hsp, htk⟩ := ops_split hop
          rw [hsd] at hop hsp htk
          have hlt1 : (k : Int) < (N : Int) := by omega
          have hk8 : (k : Int) < 8 := by omega
          obtain ⟨fn, tmps, assign, body, hy, hR⟩ := hY _ _ _ _ hsp hJk
          rw [← htk] at hR
          have hcx := (hBk.cell (p := ⟨g, o + k, none⟩) hgl).trans (HCE.out k (by omega))
          obtain ⟨s, hs⟩ : ∃ s, txt (strt m + k) = s := ⟨_, rfl⟩
          rw [hs] at hcx hy
          have hc0 := hKk.cell 0
          have HK := Lib.hid hKk; have HB := Lib.hid hBk; have HOP := Lib.hid hsp; have HTK := Lib.hid htk
          have HR := Lib.hid hR; have HN := Lib.hid hN; have HCN := Lib.hid hcn; have HH := Lib.hid h; have HSK := Lib.hid hSk; have HJK := Lib.hid hJk; have HWS := Lib.hid hws; have HLT := Lib.hid hlt
          clear hKk hBk hs hsp htk hop hR hN hcn hSk hJk hws hJo hBo hSo hko hsd HCE HAT HSZ hld hw hgl hlt hk hY
          dsimp only [encO] at hy
          gi_wp2_with fail
          refine HR.out.mono ?_
          rintro e W3 ⟨rfl, hJ3, hk3⟩
          gi_wp2_with fail
          go_roundw
          case rel =>
            have hK3 := hk3.2 _ _ HK.out
            have hB3 := HB.out.trans hk3.1
            have hS3 : W.heap.size ≤ W3.heap.size := Nat.le_trans HSK.out hk3.1.size
            exact ⟨k + 1, by go_num, HLT.out, by rw [← Nat.add_assoc]; exact hJ3, hB3, hS3, hK3⟩
          case measure =>
            have hlt := HLT.out
            simp [intOf]; omega
        · obtain rfl : k = N := by omega
          gi_wp2_with fail
          refine ⟨⟨m + 1, by go_num, by omega, ?_, hBk, hSk⟩, by simp [intOf]; omega⟩
          rw [← strt_next m h, hN]
          exact hJk
    · have hd : m = 9 := by omega
      subst hd
      gi_wp2
      refine bodyPost_end (results_none rfl _ _ _) rfl ?_
      exact ⟨⟨_, rfl⟩, hJ1⟩

theorem graded_all (n : Nat) (hn : 1 ≤ n) (w : World) (hL : LvAt w) :
    SeqAll Fence.wide n Tryd.prog 25 #[] encO (KT w.heap.size 47) opsP w := fun l J W hW hJ hY h0 =>
  graded_in n hn l J w W hW hL hY hJ h0
end Go.Proofs.YtimhhdikdinhjaaDoor.pr
