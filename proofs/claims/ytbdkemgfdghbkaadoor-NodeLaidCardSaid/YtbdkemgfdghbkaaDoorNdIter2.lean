/-
  node: walk: what it hands back tells just the nodes, each with its path.
-/
import Derived.Test.YtbdkemgfdghbkaaDoorNdIter
import Derived.Laws.EntriesVeiled
namespace Go.Proofs.YtbdkemgfdghbkaaDoor.nd
open Go.RowKit sx ed
attribute [local go_sem] Oper.semAt_some
set_option linter.unusedVariables false

set_option maxRecDepth 100000 in
set_option maxHeartbeats 8000000 in
theorem walk_all (x : Nd) (hct : x.count ≤ 1000000) (n n0 Bn : Nat) (w : World) (hn0 : n0 ≤ w.heap.size) (ao : Option Addr) (cap : Nat) (hb : Blk w Bn 24 #[.int .i64 x.k, .string x.t, .slice ao x.kids.len cap]) (hk : KidsAt (Lt n0) w x.kids (.slice ao x.kids.len cap)) :
    SeqD Fence.wide n Tryd.prog 47 #[.pointer (some ⟨Bn, 0, none⟩)] (Tells n0) n0 (x.walk []) w := fun l J W hW hJ hY h0 => by
  have hws := hW.size
  obtain ⟨Wf, hWf⟩ : ∃ Wf, ((W.alloc (.cells #[.func (.yield l) #[] #[]] 72)).alloc (.cells #[.slice none 0 0] 25)).alloc (.cells #[.func (.func 48) #[] #[.pointer (some ⟨W.heap.size, 0, none⟩), .pointer (some ⟨W.heap.size + 1, 0, none⟩), .pointer (some ⟨W.heap.size + 1 + 1, 0, none⟩)]] 32) = Wf := ⟨_, rfl⟩
  have hbf : Below W.heap.size W Wf := by rw [← hWf]; exact (((Below.refl _ W).alloc (Nat.le_refl _) _).alloc (by simp) _).alloc (by simp; omega) _
  have hsz : Wf.heap.size = W.heap.size + 3 := by rw [← hWf]; simp
  have k1 : Blk Wf W.heap.size 72 #[.func (.yield l) #[] #[]] := by rw [← hWf]; exact ((Blk.new W _ _).alloc _).alloc _
  have k2 : Blk Wf (W.heap.size + 1) 25 #[.slice none 0 0] := by
    rw [← hWf]
    simpa using (Blk.new (W.alloc (.cells #[.func (.yield l) #[] #[]] 72)) 25 #[.slice none 0 0]).alloc (.cells #[.func (.func 48) #[] #[.pointer (some ⟨W.heap.size, 0, none⟩), .pointer (some ⟨W.heap.size + 1, 0, none⟩), .pointer (some ⟨W.heap.size + 1 + 1, 0, none⟩)]] 32)
  have k3 : Blk Wf (W.heap.size + 1 + 1) 32 #[.func (.func 48) #[] #[.pointer (some ⟨W.heap.size, 0, none⟩), .pointer (some ⟨W.heap.size + 1, 0, none⟩), .pointer (some ⟨W.heap.size + 1 + 1, 0, none⟩)]] := by
    rw [← hWf]
    simpa using Blk.new ((W.alloc (.cells #[.func (.yield l) #[] #[]] 72)).alloc (.cells #[.slice none 0 0] 25)) 32 #[.func (.func 48) #[] #[.pointer (some ⟨W.heap.size, 0, none⟩), .pointer (some ⟨W.heap.size + 1, 0, none⟩), .pointer (some ⟨W.heap.size + 1 + 1, 0, none⟩)]]
  have hInv : Inv n0 W.heap.size W.heap.size (W.heap.size + 1) (W.heap.size + 1 + 1) l J [] [] (fun k => W.heap.size ≤ k ∧ k < Wf.heap.size) (.slice none 0 0) Wf :=
    ⟨hJ _ _ _ W _ h0 (But.of_below hbf) (fun k hk => .inr hk.1), fun k hk => hk, ⟨Nat.le_refl _, by omega⟩, ⟨by omega, by omega⟩, ⟨by omega, by omega⟩, k1, k2, k3, World.ownsRow_nil _ _ _ _, fun k hk => by cases hk⟩
  have hbw := (hW.trans (hbf.mono hW.size))
  have hnd : NdAt (Lt n0) Wf x (.agg #[.int .i64 x.k, .string x.t, .slice ao x.kids.len cap]) := NdAt.mk (hk.below hbw hn0)
  have hbx := hb.own hbw
  have b0 := hbx.cell 0; have b1 := hbx.cell 1; have b2 := hbx.cell 2
  have dd := k3.cell 0
  have hdn := down_ok x n0 W.heap.size W.heap.size (W.heap.size + 1) (W.heap.size + 1 + 1) l J hJ (by omega) (x.walk [])
    (fun m pre y rest D W1 vs h1 h2 h3 h4 => YieldAt.anyDepth rfl m (hY pre y rest D W1 vs h1 h2 h3 h4)) (n - 1) [] [] [] _ _ Wf _ (by simpa using hct) hInv hnd (by simp)
  have HD := Lib.hid hdn
  clear hdn hInv hnd hbx hbw hY h0 k1 k2 k3 hbf hb hk
  refine callsIn_of_wp Tryd.func47 rfl trivial ?_ rfl
  simp only [Tryd.ntmps47, List.size_toArray, List.length_cons, List.length_nil, Nat.reduceAdd, Nat.reduceSub, Array.replicate_succ, Array.replicate_zero, List.push_toArray, List.append_toArray, List.nil_append, List.cons_append]
  gi_wp2_with fail
  refine ⟨trivial, fun h => (by cases h), ?_⟩
  refine HD.out.mono ?_
  rintro e V' ⟨rfl, D', v', hI, hF⟩
  have HI := Lib.hid hI.j
  clear hI hF
  gi_wp2_with fail
  refine bodyPost_end (results_none rfl _ _ _) rfl ?_
  exact ⟨⟨_, rfl⟩, D', HI.out⟩

theorem walk_calls (x : Nd) (w : World) (ao : Option Addr) (cap : Nat) (n : Nat) :
    CallsIn Fence.wide n Tryd.prog 32 #[.agg #[.int .i64 x.k, .string x.t, .slice ao x.kids.len cap]] w fun e w' =>
      e = .returned (.func (.func 47) #[] #[.pointer (some ⟨w.heap.size, 0, none⟩)]) ∧ w' = w.alloc (.cells #[.int .i64 x.k, .string x.t, .slice ao x.kids.len cap] 24) := by
  refine callsIn_of_wp Tryd.func32 rfl trivial ?_ rfl
  simp only [Tryd.ntmps32, List.size_toArray, List.length_cons, List.length_nil, Nat.reduceAdd, Nat.reduceSub, Array.replicate_succ, Array.replicate_zero, List.push_toArray, List.append_toArray, List.nil_append, List.cons_append]
  gi_wp2_with fail
  go_ret
  exact ⟨rfl, rfl⟩
end Go.Proofs.YtbdkemgfdghbkaaDoor.nd
