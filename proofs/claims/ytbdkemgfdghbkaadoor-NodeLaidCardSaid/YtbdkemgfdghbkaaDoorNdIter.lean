/-
  node: walk, the iterator over a tree.
-/
import Derived.Test.YtbdkemgfdghbkaaDoorNdAt
import Derived.Test.YtbdkemgfdghbkaaDoorNdDeep
import Derived.Test.YtbdkemgfdghbkaaDoorSeqD
import Derived.Maps.OwnIn
import Derived.LoopNIn
import Derived.LoopIn
namespace Go.Proofs.YtbdkemgfdghbkaaDoor.nd
open Go.RowKit sx ed
attribute [local go_sem] Oper.semAt_some
set_option linter.unusedVariables false

/-- What is told: each node with its path, ahead of its kids. -/
abbrev Told := List Nat × Nd
def Fo.walk (p : List Nat) : Nat → Fo → List Told
  | _, .nil => []
  | i, .cons k t kids r => (p ++ [i], ⟨k, t, kids⟩) :: (kids.walk (p ++ [i]) 0 ++ r.walk p (i + 1))
def Nd.walk (p : List Nat) (x : Nd) : List Told := (p, x) :: x.kids.walk p 0
theorem Fo.walk_snoc (p : List Nat) : ∀ {f : Fo} {i j : Nat} {x : Nd}, f.get? i = some x → (f.take (i + 1)).walk p j = (f.take i).walk p j ++ x.walk (p ++ [j + i])
  | .nil, _, _, _, h => by cases h
  | .cons k t kids r, 0, j, _, h => by cases h; cases r <;> simp [Fo.take, Fo.walk, Nd.walk]
  | .cons k t kids r, i + 1, j, x, h => by
    have := Fo.walk_snoc p (f := r) (i := i) (j := j + 1) (x := x) h
    rw [show j + 1 + i = j + (i + 1) by omega] at this
    simp only [Fo.take, Fo.walk, List.cons_append, List.append_assoc] at this ⊢
    rw [this]
theorem Fo.walk_split (p : List Nat) {f : Fo} {i : Nat} {x : Nd} (h : f.get? i = some x) : ∃ rest, f.walk p 0 = (f.take i).walk p 0 ++ (x.walk (p ++ [i]) ++ rest) := by
  have key : ∀ (f : Fo) (i j : Nat), ∃ rest, f.walk p j = (f.take i).walk p j ++ rest := by
    intro f
    induction f with
    | nil => intro i j; exact ⟨[], by cases i <;> rfl⟩
    | cons k t kids r _ ih =>
      intro i j
      cases i with
      | zero => exact ⟨_, by simp [Fo.take, Fo.walk]; rfl⟩
      | succ i =>
        obtain ⟨rest, hr⟩ := ih i (j + 1)
        exact ⟨rest, by simp only [Fo.take, Fo.walk, hr, List.cons_append, List.append_assoc]⟩
  obtain ⟨rest, hr⟩ := key f (i + 1) 0
  exact ⟨rest, by rw [hr, Fo.walk_snoc p h, Nat.zero_add, List.append_assoc]⟩
theorem Fo.walk_len (p : List Nat) : ∀ (f : Fo) (i : Nat), (f.walk p i).length = f.count
  | .nil, _ => rfl
  | .cons k t kids r, i => by simp only [Fo.walk, List.length_cons, List.length_append, Fo.walk_len _ kids, Fo.walk_len _ r, Fo.count]; omega
theorem Nd.walk_len (p : List Nat) (x : Nd) : (x.walk p).length = x.count := by simp only [Nd.walk, List.length_cons, Fo.walk_len, Nd.count]; omega
theorem Fo.walk_paths (p : List Nat) : ∀ (f : Fo) (i : Nat), (f.walk p i).map (·.1) = (Fo.paths i f).map (p ++ ·)
  | .nil, _ => rfl
  | .cons k t kids r, i => by
    simp only [Fo.walk, Fo.paths, List.map_cons, List.map_append, Fo.walk_paths _ kids, Fo.walk_paths _ r, List.map_map]
    simp [Function.comp_def]
theorem Nd.walk_paths (x : Nd) : (x.walk []).map (·.1) = x.paths := by
  simp only [Nd.walk, Nd.paths, List.map_cons, Fo.walk_paths]
  simp

/-- What the iterator asks and tells, between two of its steps. -/
structure Inv (n0 Ws By Bp Bd l : Nat) (J : List Told → (Nat → Prop) → World → Prop) (pre : List Told) (p : List Nat) (D : Nat → Prop) (v : Value) (V : World) : Prop where
  j : J pre D V
  lo : ∀ k, D k → Ws ≤ k ∧ k < V.heap.size
  dy : D By
  dp : D Bp
  dd : D Bd
  ky : Blk V By 72 #[.func (.yield l) #[] #[]]
  kp : Blk V Bp 25 #[v]
  kd : Blk V Bd 32 #[.func (.func 48) #[] #[.pointer (some ⟨By, 0, none⟩), .pointer (some ⟨Bp, 0, none⟩), .pointer (some ⟨Bd, 0, none⟩)]]
  row : V.ownsRow Ws 3 1 v p.length (nums p)
  own : ∀ k, v.ownBlock = some k → D k
/-- What a step leaves. -/
structure Fr (n0 Bp : Nat) (D D' : Nat → Prop) (v v' : Value) (V V' : World) : Prop where
  low : Below n0 V V'
  keep : ∀ k, D k → k ≠ Bp → v.ownBlock ≠ some k → V'.heap[k]? = V.heap[k]?
  sub : ∀ k, D k → D' k
  at' : ∀ k, v'.ownBlock = some k → v.ownBlock = some k ∨ V.heap.size ≤ k
theorem Fr.refl (n0 Bp : Nat) (D : Nat → Prop) (v : Value) (V : World) : Fr n0 Bp D D v v V V := ⟨Below.refl _ _, fun _ _ _ _ => rfl, fun _ h => h, fun _ h => .inl h⟩
theorem Fr.trans {n0 Bp : Nat} {D D' D'' : Nat → Prop} {v v' v'' : Value} {V V' V'' : World} (h : Fr n0 Bp D D' v v' V V') (k : Fr n0 Bp D' D'' v' v'' V' V'') (hl : ∀ i, D i → i < V.heap.size) : Fr n0 Bp D D'' v v'' V V'' :=
  ⟨h.low.trans k.low, fun i hi hp ho => (k.keep i (h.sub i hi) hp (fun e => by
      rcases h.at' i e with h1 | h1
      · exact ho h1
      · have := hl i hi; omega)).trans (h.keep i hi hp ho), fun i hi => k.sub i (h.sub i hi), fun i hi => by
      rcases k.at' i hi with h1 | h1
      · exact h.at' i h1
      · exact .inr (Nat.le_trans h.low.size h1)⟩

section
variable {n0 Ws By Bp Bd l : Nat} {J : List Told → (Nat → Prop) → World → Prop} {pre : List Told} {p : List Nat} {D : Nat → Prop} {v : Value} {V : World}

theorem Inv.alloc (h : Inv n0 Ws By Bp Bd l J pre p D v V) (hJ : AbD J) (hn : n0 ≤ Ws) (o : Obj) :
    Inv n0 Ws By Bp Bd l J pre p (fun k => D k ∨ k = V.heap.size) v (V.alloc o) ∧ Fr n0 Bp D (fun k => D k ∨ k = V.heap.size) v v V (V.alloc o) := by
  have hp := (h.lo Bp h.dp)
  refine ⟨⟨hJ _ D _ V _ h.j (But.alloc (But.refl _ _ _) (Nat.le_refl _) o) (fun k hk => hk.imp id (fun e => by omega)), fun k hk => ?_, .inl h.dy, .inl h.dp, .inl h.dd, h.ky.alloc o, h.kp.alloc o, h.kd.alloc o, h.row.alloc o, fun k hk => .inl (h.own k hk)⟩,
    ⟨(Below.refl _ V).alloc (by omega) o, fun k hk _ _ => Below.heap_alloc _ _ _ (h.lo k hk).2, fun k hk => .inl hk, fun k hk => .inl hk⟩⟩
  rcases hk with hk | rfl
  · have := h.lo k hk; simp; omega
  · simp; omega
theorem blk_ne {W : World} {a b : Nat} {t t' : TypeId} {vs vs' : Array Value} (h : Blk W a t vs) (k : Blk W b t' vs') (ht : t ≠ t') : a ≠ b := by
  rintro rfl
  have := (show W.heap[a]? = _ from h).symm.trans (show W.heap[a]? = _ from k)
  injection this with this; injection this with _ h2 _
  exact ht h2
theorem own_keep {W W' : World} {base size n : Nat} {e : TypeId} {v : Value} {xs : List Value} (h : W.ownsRow base e size v n xs) (hk : ∀ k, v.ownBlock = some k → W'.heap[k]? = W.heap[k]?) : W'.ownsRow base e size v n xs := by
  refine ⟨h.1, ?_⟩
  rcases h.2 with hn | ⟨g, cap, cur, rfl, h2, h3, h4⟩
  · exact .inl hn
  · exact .inr ⟨g, cap, cur, rfl, h2, (hk g rfl).trans h3, h4⟩
theorem Inv.yielded (h : Inv n0 Ws By Bp Bd l J pre p D v V) {x : Told} {V' : World} (hj : J (pre ++ [x]) D V') (hk : KD n0 D V V') : Inv n0 Ws By Bp Bd l J (pre ++ [x]) p D v V' ∧ Fr n0 Bp D D v v V V' := by
  have hb : ∀ k, D k → V'.heap[k]? = V.heap[k]? := fun k hd => hk.2 k hd (h.lo k hd).2
  exact ⟨⟨hj, fun k hd => ⟨(h.lo k hd).1, Nat.lt_of_lt_of_le (h.lo k hd).2 hk.1.size⟩, h.dy, h.dp, h.dd, (hb _ h.dy).trans h.ky, (hb _ h.dp).trans h.kp, (hb _ h.dd).trans h.kd, own_keep h.row (fun k e => hb k (h.own k e)), h.own⟩,
    ⟨hk.1, fun k hd _ _ => hb k hd, fun _ e => e, fun _ e => .inl e⟩⟩
theorem own_no {W : World} {base : Nat} {e t : TypeId} {size n B : Nat} {v : Value} {xs : List Value} {vs : Array Value} (h : W.ownsRow base e size v n xs) (hb : Blk W B t vs) (ht : t ≠ e) : v.ownBlock ≠ some B := by
  intro he
  rcases h.2 with ⟨rfl, _⟩ | ⟨g, cap, cur, rfl, _, hgb, _⟩
  · simp [Value.ownBlock] at he
  · obtain rfl : g = B := by simpa [Value.ownBlock] using he
    rw [show W.heap[g]? = _ from hb] at hgb
    injection hgb with hgb; injection hgb with _ h2 _
    exact ht h2
theorem Inv.pushed (h : Inv n0 Ws By Bp Bd l J pre p D v V) (hJ : AbD J) (hn : n0 ≤ Ws) {i : Nat} {v' : Value} {w' : World} {o : Obj} (hown : w'.ownsRow Ws 3 1 v' (p.length + 1) (nums p ++ [.int .i64 (i : Int)])) (hg : (V.alloc o).grownBy w' v.ownBlock) (hat : v'.ownBlock = v.ownBlock ∨ v'.ownBlock = some (V.alloc o).heap.size) :
    Inv n0 Ws By Bp Bd l J pre (p ++ [i]) (fun k => D k ∨ (V.heap.size ≤ k ∧ k < w'.heap.size)) v' (w'.setCell ⟨Bp, 0, none⟩ v') ∧ Fr n0 Bp D (fun k => D k ∨ (V.heap.size ≤ k ∧ k < w'.heap.size)) v v' V (w'.setCell ⟨Bp, 0, none⟩ v') := by
  have hsz := hg.size
  rw [World.size_alloc] at hsz hat
  have hbp := h.lo Bp h.dp
  have keep : ∀ k, k < V.heap.size → k ≠ Bp → v.ownBlock ≠ some k → (w'.setCell ⟨Bp, 0, none⟩ v').heap[k]? = V.heap[k]? := fun k hk hp ho => by
    rw [Below.heap_setCell _ _ _ k (fun e => hp e), hg.block k (by rw [World.size_alloc]; omega) (fun e => ho e.symm)]
    exact Below.heap_alloc _ _ _ hk
  have ny := own_no h.row h.ky (by decide)
  have np := own_no h.row h.kp (by decide)
  have nd := own_no h.row h.kd (by decide)
  have nyp : By ≠ Bp := blk_ne h.ky h.kp (by decide)
  have ndp : Bd ≠ Bp := blk_ne h.kd h.kp (by decide)
  have hkp : Blk w' Bp 25 #[v] := (hg.block Bp (by rw [World.size_alloc]; omega) (fun e => np e.symm)).trans (h.kp.alloc o)
  have nvp : v'.ownBlock ≠ some Bp := own_no hown hkp (by decide)
  have hbut : But V.heap.size D V (w'.setCell ⟨Bp, 0, none⟩ v') := by
    refine ⟨hg.os, hg.tape, hg.output, by simp; omega, fun k hk hd => keep k hk (fun e => hd (e ▸ h.dp)) (fun e => hd (h.own k e))⟩
  refine ⟨⟨hJ _ D _ V _ h.j hbut (fun k hk => hk.imp id (fun e => e.1)), fun k hk => ?_, .inl h.dy, .inl h.dp, .inl h.dd, (keep By (h.lo By h.dy).2 nyp ny).trans h.ky, hkp.set _, (keep Bd (h.lo Bd h.dd).2 ndp nd).trans h.kd, ?_, fun k hk => ?_⟩,
    ⟨?_, fun k hk hp ho => keep k (h.lo k hk).2 hp ho, fun k hk => .inl hk, fun k hk => ?_⟩⟩
  · rcases hk with hk | hk
    · have := h.lo k hk; simp; omega
    · simp; omega
  · rw [List.length_append, nums_snoc]
    exact own_keep hown (fun k hk => Below.heap_setCell _ _ _ k (fun e => nvp (by rw [hk]; exact congrArg some e)))
  · rcases hat with e | e
    · exact .inl (h.own k (e ▸ hk))
    · rw [e] at hk
      cases hk
      have := (hown.lt _ e).2
      exact .inr ⟨by omega, by omega⟩
  · refine (Below.grown ((Below.refl n0 V).alloc (by omega) o) hg (by simp; omega) (fun k hk => ?_)).setCell (p := ⟨Bp, 0, none⟩) (by simp; omega) _
    have := (h.lo k (h.own k hk)).1
    omega
  · rcases hat with e | e
    · exact .inl (e ▸ hk)
    · rw [e] at hk
      cases hk
      exact .inr (by omega)
theorem Inv.popped {i g cap : Nat} (h : Inv n0 Ws By Bp Bd l J pre (p ++ [i]) D (.slice (some ⟨g, 0, none⟩) (p.length + 1) cap) V) (hJ : AbD J) (hn : n0 ≤ Ws) :
    Inv n0 Ws By Bp Bd l J pre p D (.slice (some ⟨g, 0, none⟩) p.length cap) (V.setCell ⟨Bp, 0, none⟩ (.slice (some ⟨g, 0, none⟩) p.length cap)) ∧ Fr n0 Bp D D (.slice (some ⟨g, 0, none⟩) (p.length + 1) cap) (.slice (some ⟨g, 0, none⟩) p.length cap) V (V.setCell ⟨Bp, 0, none⟩ (.slice (some ⟨g, 0, none⟩) p.length cap)) := by
  have hbp := h.lo Bp h.dp
  have ny := own_no h.row h.ky (by decide)
  have np := own_no h.row h.kp (by decide)
  have nd := own_no h.row h.kd (by decide)
  have nyp : By ≠ Bp := blk_ne h.ky h.kp (by decide)
  have ndp : Bd ≠ Bp := blk_ne h.kd h.kp (by decide)
  have keep : ∀ k, k ≠ Bp → (V.setCell ⟨Bp, 0, none⟩ (.slice (some ⟨g, 0, none⟩) p.length cap)).heap[k]? = V.heap[k]? := fun k hp => Below.heap_setCell _ _ _ k (fun e => hp e)
  have hrow := h.row
  rw [List.length_append, nums_snoc] at hrow
  have hg : g ≠ Bp := fun e => np (by rw [← e]; rfl)
  have htk : V.ownsRow Ws 3 1 (.slice (some ⟨g, 0, none⟩) p.length cap) p.length (nums p) := by
    refine ⟨by simp [nums], ?_⟩
    rcases hrow.2 with ⟨h1, _⟩ | ⟨g', cap', cur, h1, h2, h3, h4, h5, h6, h7⟩
    · cases h1
    · cases h1
      refine .inr ⟨g, cap, cur, rfl, h2, h3, by simp at h4; omega, h5, h6, ?_⟩
      have h8 := congrArg (List.take p.length) h7
      rw [List.take_take] at h8
      have hl : (nums p).length = p.length := by simp [nums]
      rw [← hl, List.take_left, hl] at h8
      rw [← h8]
      simp
  refine ⟨⟨hJ _ D _ V _ h.j ((But.refl _ _ _).setCell (p := ⟨Bp, 0, none⟩) (fun _ => h.dp) _) (fun k hk => .inl hk), fun k hk => by have := h.lo k hk; simp; omega, h.dy, h.dp, h.dd, (keep By nyp).trans h.ky, h.kp.set _, (keep Bd ndp).trans h.kd, own_keep htk (fun k hk => keep k (fun e => hg (by cases hk; exact e))), fun k hk => h.own k hk⟩,
    ⟨(Below.refl _ V).setCell (p := ⟨Bp, 0, none⟩) (by simp; omega) _, fun k _ hp _ => keep k hp, fun _ e => e, fun k hk => .inl hk⟩⟩
end

/-- What a round is handed. -/
def Tells (n0 : Nat) (x : Told) (D : Nat → Prop) (W : World) (vs : Array Value) : Prop := ∃ pv xv, vs = #[pv, xv] ∧ IntsAt D W pv (x.1.map fun (n : Nat) => (n : Int)) ∧ NdAt (Lt n0) W x.2 xv
theorem own_ints {D : Nat → Prop} {W : World} {base : Nat} {v : Value} {p : List Nat} (h : W.ownsRow base 3 1 v p.length (nums p)) (ho : ∀ k, v.ownBlock = some k → D k) : IntsAt D W v (p.map fun (n : Nat) => (n : Int)) := by
  rcases h.2 with ⟨rfl, h0⟩ | ⟨g, cap, cur, rfl, h2, h3, h4, h5, h6, h7⟩
  · have := List.length_eq_zero_iff.1 h0
    subst this
    exact ⟨none, 0, rfl, Nat.zero_le _, Nat.le_refl _, fun hn => absurd rfl hn⟩
  · refine ⟨some ⟨g, 0, none⟩, cap, by simp, by simp; omega, by simpa using h4, fun _ => ⟨g, 0, rfl, ho g rfl, fun j z hj => ?_⟩⟩
    rw [List.getElem?_map] at hj
    obtain ⟨a, ha, rfl⟩ := Option.map_eq_some_iff.1 hj
    have := h.cells (g := g) rfl j (.int .i64 (a : Int)) (by simp [nums, ha])
    rw [addr_add] at this
    exact this

theorem room_of_none {F : Fence} (hd : F.depth = none) (k : Nat) : F.room k := fun d h => by rw [hd] at h; cases h
theorem RoundIn.anyDepth {F : Fence} (hd : F.depth = none) {m m' : Nat} {P : Program} {l : Nat} {f : FuncId} {tmps : Array Value} {assign body : Code} {w : World} {R : Ending → World → Prop}
    (h : RoundIn F m P l f tmps assign body w R) : RoundIn F m' P l f tmps assign body w R := ⟨h.1, fun c cs _ => h.2 c cs (room_of_none hd _)⟩
theorem YieldAt.anyDepth {F : Fence} (hd : F.depth = none) {m : Nat} (m' : Nat) {P : Program} {l : Nat} {args : Array Value} {W : World} {R : Ending → World → Prop} (h : YieldAt F m P l args W R) : YieldAt F m' P l args W R := by
  obtain ⟨fn, tmps, assign, body, hy, hR⟩ := h
  exact ⟨fn, tmps, assign, body, hy, RoundIn.anyDepth hd hR⟩

def DownOk (x : Nd) : Prop := ∀ (n0 Ws By Bp Bd l : Nat) (J : List Told → (Nat → Prop) → World → Prop) (hJ : AbD J) (hn : n0 ≤ Ws) (ys : List Told)
  (hY : ∀ m pre y rest D W1 vs, ys = pre ++ y :: rest → J pre D W1 → (∀ k, D k → Ws ≤ k ∧ k < W1.heap.size) → Tells n0 y D W1 vs → YieldAt Fence.wide m Tryd.prog l vs W1 fun e W' => e = .returned (.bool true) ∧ J (pre ++ [y]) D W' ∧ KD n0 D W1 W')
  (n : Nat) (p : List Nat) (pre rest : List Told) (D : Nat → Prop) (v : Value) (V : World) (u : Value), p.length + x.count ≤ 1000000 → Inv n0 Ws By Bp Bd l J pre p D v V → NdAt (Lt n0) V x u → ys = pre ++ (x.walk p ++ rest) →
  CallsIn Fence.wide n Tryd.prog 48 #[u, .pointer (some ⟨By, 0, none⟩), .pointer (some ⟨Bp, 0, none⟩), .pointer (some ⟨Bd, 0, none⟩)] V fun e V' =>
    e = .returned (.bool true) ∧ ∃ D' v', Inv n0 Ws By Bp Bd l J (pre ++ x.walk p) p D' v' V' ∧ Fr n0 Bp D D' v v' V V'

set_option maxRecDepth 100000 in
set_option maxHeartbeats 8000000 in
theorem down_ok (x : Nd) : DownOk x := by
  refine Nd.induct (p := DownOk) (fun x hp n0 Ws By Bp Bd l J hJ hn ys hY n p pre rest D v V u hlen hInv hu hys => ?_) x
  obtain ⟨s, rfl, hs⟩ := hu
  obtain ⟨ao, cap, rfl, hm⟩ := hs.slice
  obtain ⟨k, t, f⟩ := x
  dsimp only at hs hm hp ⊢
  unfold maxLen at hm
  obtain ⟨hI1, hF1⟩ := hInv.alloc hJ hn (.cells #[.int .i64 k, .string t, .slice ao f.len cap] 24)
  obtain ⟨V1, hV1⟩ : ∃ V1, V.alloc (.cells #[.int .i64 k, .string t, .slice ao f.len cap] 24) = V1 := ⟨_, rfl⟩
  have hk1 : Blk V1 V.heap.size 24 #[.int .i64 k, .string t, .slice ao f.len cap] := by rw [← hV1]; exact Blk.new V _ _
  have hnd1 : NdAt (Lt n0) V1 ⟨k, t, f⟩ (.agg #[.int .i64 k, .string t, .slice ao f.len cap]) := (NdAt.mk (hs.below hF1.low (Nat.le_refl _)) : NdAt (Lt n0) _ ⟨k, t, f⟩ _) |> fun h => by rw [hV1] at h; exact h
  rw [hV1] at hI1 hF1
  obtain ⟨D1, hD1⟩ : ∃ D1 : Nat → Prop, (fun k => D k ∨ k = V.heap.size) = D1 := ⟨_, rfl⟩
  have hDb : D1 V.heap.size := by rw [← hD1]; exact .inr rfl
  rw [hD1] at hI1 hF1
  clear hD1
  obtain ⟨fn, tmps, assign, body, hy, hR⟩ := hY (n - 1) pre (p, ⟨k, t, f⟩) _ _ V1 #[v, .agg #[.int .i64 k, .string t, .slice ao f.len cap]] (by rw [hys]; simp only [Nd.walk, List.cons_append]; rfl) hI1.j hI1.lo ⟨v, _, rfl, own_ints hI1.row hI1.own, hnd1⟩
  obtain ⟨vo, vl, vc, rfl, hvl⟩ : ∃ vo vl vc, v = .slice vo vl vc ∧ vl = p.length := by
    obtain ⟨a, c, e, _⟩ := own_len' hI1.row
    exact ⟨a, _, c, e, rfl⟩
  have y1 := hI1.ky.cell 0
  have p1 := hI1.kp.cell 0
  have b0 := hk1.cell 0; have b1 := hk1.cell 1; have b2 := hk1.cell 2
  obtain ⟨m, hmm⟩ : ∃ m, f.len = m := ⟨_, rfl⟩
  have HI1 := Lib.hid hI1; have HF1 := Lib.hid hF1; have HR := Lib.hid hR; have HK1 := Lib.hid hk1; have HND := Lib.hid hnd1; have HYS := Lib.hid hys; have HM := Lib.hid hmm; have HVL := Lib.hid hvl; have HP := Lib.hid hp; have HYY := Lib.hid hY; have HINV := Lib.hid hInv; have HLEN := Lib.hid hlen; have HS := Lib.hid hs
  clear hI1 hF1 hR hk1 hnd1 hys hmm hvl hp hY hInv hlen hs
  refine callsIn_of_wp Tryd.func48 rfl trivial ?_ rfl
  simp only [Tryd.ntmps48, List.size_toArray, List.length_cons, List.length_nil, Nat.reduceAdd, Nat.reduceSub, Array.replicate_succ, Array.replicate_zero, List.push_toArray, List.append_toArray, List.nil_append, List.cons_append]
  gi_wp2_with fail
  refine ⟨fun h => (by cases h), ?_⟩
  refine HR.out.mono ?_
  rintro e V2 ⟨rfl, hj2, hk2⟩
  obtain ⟨hI2, hF2⟩ := HI1.out.yielded hj2 hk2
  have nbp : V.heap.size ≠ Bp := blk_ne HK1.out HI1.out.kp (by decide)
  have nbv := own_no HI1.out.row HK1.out (by decide)
  have hk2b : Blk V2 V.heap.size 24 #[.int .i64 k, .string t, .slice ao f.len cap] := (hF2.keep _ hDb nbp nbv).trans HK1.out
  have b2 := hk2b.cell 2
  rw [HM.out] at b2 HK1
  have hV1l : ∀ i, D1 i → i < V1.heap.size := fun i hi => (HI1.out.lo i hi).2
  have HI2 := Lib.hid hI2; have HF2 := Lib.hid hF2; have HNB := Lib.hid nbp; have HNV := Lib.hid nbv; have HDB := Lib.hid hDb
  clear hI2 hF2 hj2 hk2 hk2b nbp nbv hy HR HI1 p1 y1 b0 b1 hV1 hDb
  gi_wp2_with fail
  gi_loopw [16] (fun i wr => ∃ (j : Nat) (D' : Nat → Prop) (v' : Value), i = .int .i64 (j : Int) ∧ j ≤ m ∧ Inv n0 Ws By Bp Bd l J (pre ++ ((p, ⟨k, t, f⟩) :: (f.take j).walk p 0)) p D' v' wr ∧ Fr n0 Bp D1 D' (.slice vo vl vc) v' V1 wr) (fun i _ => m - (intOf i).toNat)
  case atStart => exact ⟨0, D1, _, rfl, Nat.zero_le _, by have := HI2.out; cases f <;> exact this, HF2.out⟩
  case round =>
    obtain ⟨j, D', v', rfl, hj, hI, hF⟩ := hrel
    have hbx : Blk wr V.heap.size 24 #[.int .i64 k, .string t, .slice ao m cap] := (hF.keep _ HDB.out HNB.out HNV.out).trans HK1.out
    by_cases hlt : j < m
    · obtain ⟨x, hx⟩ := Fo.get_of_lt (f := f) (i := j) (by rw [HM.out]; exact hlt)
      have hlt1 : (j : Int) < (m : Int) := by omega
      have hmb : m ≤ 9223372036854775807 := by have := HM.out; omega
      have hkids : KidsAt (Lt n0) wr f (.slice ao m cap) := by
        have := HS.out.below (HF1.out.low.trans hF.low) (Nat.le_refl _)
        rw [HM.out] at this
        exact this
      obtain ⟨g1, o1, ao1, cap1, rfl, hgl, hg1, d0, d1, d2, d3⟩ := hkids.get hx
      obtain ⟨hI3, hF3⟩ := hI.alloc hJ hn (.cells #[.int .i64 x.k, .string x.t, .slice ao1 x.kids.len cap1] 24)
      obtain ⟨V3, hV3⟩ : ∃ V3, wr.alloc (.cells #[.int .i64 x.k, .string x.t, .slice ao1 x.kids.len cap1] 24) = V3 := ⟨_, rfl⟩
      have hk3 : Blk V3 wr.heap.size 24 #[.int .i64 x.k, .string x.t, .slice ao1 x.kids.len cap1] := by rw [← hV3]; exact Blk.new wr _ _
      rw [hV3] at hI3 hF3
      obtain ⟨D3, hD3⟩ : ∃ D3 : Nat → Prop, (fun k => D' k ∨ k = wr.heap.size) = D3 := ⟨_, rfl⟩
      have hDk : D3 wr.heap.size := by rw [← hD3]; exact .inr rfl
      rw [hD3] at hI3 hF3
      obtain ⟨uo, ul, uc, rfl, hul⟩ : ∃ vo vl vc, v' = .slice vo vl vc ∧ vl = p.length := by
        obtain ⟨a, c, e, _⟩ := own_len' hI3.row
        exact ⟨a, _, c, e, rfl⟩
      obtain ⟨i0, hi, hz0, hz1, hz2⟩ := info_parts infoI
      have q1 := hI3.kp.cell 0
      have hrow3 := hI3.row
      have hpl : p.length ≤ 1000000 := by have := HLEN.out; omega
      have HI3 := Lib.hid hI3; have HF3 := Lib.hid (hF.trans hF3 (fun i hi => hV1l i hi)); have HLW := Lib.hid hF3.low; have HK3 := Lib.hid hk3; have HX := Lib.hid hx; have HD3 := Lib.hid d3; have HUL := Lib.hid hul
      clear hI hF hI3 hF3 hk3 hx d3 hD3 hkids hgl hg1 hul
      have hWs := (HI3.out.lo _ hDk).1
      gi_wp2_with (gi_at_builtin; refine wpListIn_append_own_at _ rfl _ _ 25 rfl Ws 3 i0 _ 1 8 Tryd.underlying25 hi hz0 hz1 hz2 rfl (by decide) _ _ _ rfl (hrow3.alloc _) ⟨V3.heap.size, 0, none⟩ 1 1 [.int .i64 (j : Int)] rfl rfl (cell_one_new _ _ _) (by simp [Value.oneCell']) (by unfold maxLen; omega) (by omega) (by have := (HI3.out.lo _ hDk).2; simp; omega) ?_; intro v' w' hown' hgrow _ hat; obtain ⟨a7, c7, rfl, hc7⟩ := own_len' hown'; obtain ⟨hI4, hF4⟩ := HI3.out.pushed hJ hn hown' hgrow hat; have hpb : Blk w' Bp 25 #[.slice uo ul uc] := (hgrow.block Bp (by have := HI3.out.kp.lt; simp; omega) (fun e => own_no HI3.out.row HI3.out.kp (by decide) e.symm)).trans (HI3.out.kp.alloc _); have q2 := hpb.cell 0; have q3 := hpb.frozen 0; obtain ⟨V4, hV4⟩ : ∃ V4, w'.setCell ⟨Bp, 0, none⟩ (.slice a7 (p.length + 1) c7) = V4 := ⟨_, rfl⟩; rw [hV4] at hI4 hF4; obtain ⟨D4, hD4⟩ : ∃ D4 : Nat → Prop, (fun k => D3 k ∨ (V3.heap.size ≤ k ∧ k < w'.heap.size)) = D4 := ⟨_, rfl⟩; rw [hD4] at hI4 hF4; have hkb : Blk V4 wr.heap.size 24 #[.int .i64 x.k, .string x.t, .slice ao1 x.kids.len cap1] := (hF4.keep _ hDk (blk_ne HK3.out HI3.out.kp (by decide)) (own_no HI3.out.row HK3.out (by decide))).trans HK3.out; have k0 := hkb.cell 0; have k1 := hkb.cell 1; have k2 := hkb.cell 2; have dd := hI4.kd.cell 0; have HI4 := Lib.hid hI4; have HF4 := Lib.hid hF4; clear hI4 hF4 hpb hkb hown' hgrow hat hD4)
      refine ⟨trivial, fun h => (by cases h), ?_⟩
      obtain ⟨r0, hr0⟩ := Fo.walk_split p HX.out
      have hkid : NdAt (Lt n0) V4 x (.agg #[.int .i64 x.k, .string x.t, .slice ao1 x.kids.len cap1]) := NdAt.mk (HD3.out.below (HLW.out.trans HF4.out.low) (Nat.le_refl _))
      have hIH := HP.out.get HX.out n0 Ws By Bp Bd l J hJ hn ys HYY.out (n - 1) (p ++ [j]) (pre ++ ((p, ⟨k, t, f⟩) :: (f.take j).walk p 0)) (r0 ++ rest) D4 _ V4 _ (by
        have h1 := HLEN.out
        have h2 := Fo.count_get HX.out
        simp only [Nd.count, List.length_append, List.length_cons, List.length_nil] at h1 h2 ⊢
        omega) HI4.out hkid (by rw [HYS.out]; simp only [Nd.walk, hr0, List.append_assoc, List.cons_append])
      have HIH := Lib.hid hIH
      clear hIH hkid hr0
      refine HIH.out.mono ?_
      rintro e V5 ⟨rfl, D5, v5, hI5, hF5⟩
      obtain ⟨g5, c5, rfl, hg5, hg6⟩ := hI5.row.form (by simp)
      have hr5 := hI5.row
      obtain ⟨ml, hml⟩ : ∃ ml, p.length + 1 = ml := ⟨_, rfl⟩
      obtain ⟨kl, hkl⟩ : ∃ kl, p.length = kl := ⟨_, rfl⟩
      have hlen5 : (p ++ [j]).length = ml := by rw [List.length_append]; exact hml
      rw [hlen5] at hI5 hF5 hr5
      have hq5 := hI5.kp
      have p5 := hq5.cell 0
      have p6 := hq5.frozen 0
      have hcap : ml ≤ c5 := by
        rcases hr5.2 with ⟨h1, _⟩ | ⟨g', cap', cur, h1, h2, h3, h4, _⟩
        · cases h1
        · cases h1; exact h4
      have hpop : Inv n0 Ws By Bp Bd l J (pre ++ ((p, ⟨k, t, f⟩) :: (f.take j).walk p 0) ++ Nd.walk (p ++ [j]) x) p D5 (.slice (some ⟨g5, 0, none⟩) kl c5) (V5.setCell ⟨Bp, 0, none⟩ (.slice (some ⟨g5, 0, none⟩) kl c5)) ∧ Fr n0 Bp D5 D5 (.slice (some ⟨g5, 0, none⟩) ml c5) (.slice (some ⟨g5, 0, none⟩) kl c5) V5 (V5.setCell ⟨Bp, 0, none⟩ (.slice (some ⟨g5, 0, none⟩) kl c5)) := by
        rw [← hml] at hI5
        have := hI5.popped hJ hn
        rw [hkl, ← hkl, hml] at this
        rw [hkl] at this
        exact this
      have hsn := Fo.walk_snoc p (j := 0) HX.out
      rw [Nat.zero_add] at hsn
      have hI6 := hpop.1
      rw [show pre ++ ((p, (⟨k, t, f⟩ : Nd)) :: (f.take j).walk p 0) ++ Nd.walk (p ++ [j]) x = pre ++ ((p, ⟨k, t, f⟩) :: (f.take (j + 1)).walk p 0) by rw [hsn]; simp] at hI6
      have hF6 := (((HF3.out.trans HF4.out hV1l).trans hF5 hV1l).trans hpop.2 hV1l)
      have HI6 := Lib.hid hI6; have HF6 := Lib.hid hF6
      have hkm : kl < ml := by omega
      have hkm1 : (kl : Int) < (ml : Int) := by omega
      have hk0 : (0 : Int) ≤ (kl : Int) := by omega
      have hkc : kl ≤ c5 := by omega
      have hkc1 : (kl : Int) ≤ (c5 : Int) := by omega
      have hw1 : wrap64 ((ml : Int) - 1) = (kl : Int) := by rw [IntWalk.wrap64_in _ (by omega)]; omega
      have hw2 : IntKind.i64.wrap ((ml : Int) - 1) = (kl : Int) := (IntWalk.i64_left _).trans hw1
      clear hI5 hF5 hr5 hq5 hpop hsn hI6 hF6 hlen5 hml hkl hg5 hg6
      gi_wp2_with fail
      exact ⟨⟨j + 1, D5, _, by go_num, by omega, HI6.out, HF6.out⟩, by simp [intOf]; omega⟩
    · obtain rfl : j = m := by omega
      have hge : decide ((j : Int) < (j : Int)) = false := by simp
      rw [Fo.take_all (by rw [HM.out]; exact Nat.le_refl _)] at hI
      have HI := Lib.hid hI
      have HFF := Lib.hid (HF1.out.trans hF (fun i hi => (HINV.out.lo i hi).2))
      clear hI hF
      gi_wp2_with fail
      go_ret
      exact ⟨rfl, D', v', HI.out, HFF.out⟩
end Go.Proofs.YtbdkemgfdghbkaaDoor.nd
