/-
  node: Show.
-/
import Derived.Test.YtbdkemgfdghbkaaDoorNdPaths2
import Derived.Test.YtbdkemgfdghbkaaDoorNdShow0
import Derived.Test.YtbdkemgfdghbkaaDoorNdBuild
namespace Go.Proofs.YtbdkemgfdghbkaaDoor.nd
open Go.RowKit Go.Shelf sx ed
attribute [local go_sem] Oper.semAt_some
set_option linter.unusedVariables false

/-- The library's tables. -/
structure Tabs (T : Lib.PrintTabs) (w : World) : Prop where
  pow : Lib.TabIs Tryd.prog w "internal/strconv.uint64pow10" .u64 Lib.pow10Tab
  print : Lib.PrintTabsAt 4 5 6 7 T w
  utf : Lib.Utf8Tabs 2 3 w
theorem tabIs_below {n : String} {k : IntKind} {zs : List Int} {w w' : World} (h : Lib.TabIs Tryd.prog w n k zs) (hb : Below w.heap.size w w') : Lib.TabIs Tryd.prog w' n k zs := by
  unfold Lib.TabIs World.var? at h ⊢
  cases hg : Tryd.prog.globalNamed n with
  | none => rw [hg] at h; cases h
  | some g =>
    rw [hg] at h
    simp only [Option.bind_some] at h ⊢
    have hlt : g < w.heap.size := by
      rcases Nat.lt_or_ge g w.heap.size with h' | h'
      · exact h'
      · rw [Array.getElem?_eq_none h'] at h; cases h
    rw [hb.block g hlt]
    exact h
theorem Tabs.below {T : Lib.PrintTabs} {w w' : World} (h : Tabs T w) (hb : Below w.heap.size w w') : Tabs T w' :=
  ⟨tabIs_below h.pow hb, printTabs_below h.print hb, Utf8Tabs_below h.utf hb⟩
theorem below_gr (w : World) (n : Nat) (os : Array Obj) : Below w.heap.size w (Go.Sort.grow (w.drewN n) os) :=
  ⟨rfl, rfl, rfl, by simp [Go.Sort.grow], fun k hk => by simp only [Go.Sort.grow]; rw [Array.getElem?_append_left (by simpa using hk)]; rfl⟩

theorem itoa_calls (T : Lib.PrintTabs) (k : Int) (hk : -9223372036854775808 ≤ k ∧ k ≤ 9223372036854775807) (w : World) (hT : Tabs T w) :
    Calls Tryd.prog 42 #[.int .i64 k] w fun e w' => e = .returned (.string (itoaB k)) ∧ Below w.heap.size w w' := by
  refine (Tryd.strconv_Itoa k hk.1 hk.2 w hT.pow).mono ?_
  rintro e w' ⟨rfl, n, os, rfl⟩
  exact ⟨rfl, below_gr _ _ _⟩
theorem quote_calls (T : Lib.PrintTabs) (t : ByteArray) (ht : t.size ≤ 1000000) (w : World) (hT : Tabs T w) :
    Calls Tryd.prog 43 #[.string t] w fun e w' => e = .returned (.string (quoteB T t)) ∧ Below w.heap.size w w' :=
  Tryd.strconv_Quote T t w (by omega) hT.print hT.utf
theorem repeat_calls (c : Nat) (hc : c ≤ 100000000) (w : World) :
    Calls Tryd.prog 41 #[.string ⟨#[41]⟩, .int .i64 (c : Int)] w fun e w' => e = .returned (.string (clB c)) ∧ Below w.heap.size w w' := by
  have h := Tryd.strings_Repeat ⟨#[41]⟩ c w (by omega) (by simp [ByteArray.size]; omega)
  have e : Lib.repeatL (ByteArray.mk #[41]).data.toList c = cl c := by
    have := Lib.repeatL_replicate 41 1 c
    simpa using this
  rw [e] at h
  exact h

theorem okept_blk {b : Nat} {W W' : World} (h : Lib.OthersKept 5 (some b) W W') {k : Nat} {t : TypeId} {vs : Array Value} (hb : Blk W k t vs) (hk : k ≠ b) (ht : t ≠ 5) : Blk W' k t vs :=
  h k _ hb (fun e => hk (by cases e; rfl)) (fun c fz e => by cases e; exact ht rfl)
theorem okept_keeps {b : Nat} {bs : List Value} {B : Nat} {W W' : World} (h : Lib.OthersKept 5 (some b) W W') (hB : BAt B b bs W) (hs : W.heap.size ≤ W'.heap.size) : KeepsOthers W W' := by
  refine ⟨hs, fun k o hk ho => h k o hk (fun e => ?_) (fun c fz e => by subst e; cases ho)⟩
  cases e
  rcases hB with ⟨_, v, hb, _⟩ | ⟨_, v, hb, _⟩ <;> (rw [hb] at hk; cases hk; cases ho)

def SI (T : Lib.PrintTabs) (w : World) (pre : List Told) (D : Nat → Prop) (W : World) : Prop :=
  (BD w.heap.size (w.heap.size + 1) (Lib.byteCells (runs T pre ([], 0)).1) D W ∧ BX (w.heap.size + 1 + 1) 3 (.int .i64 ((runs T pre ([], 0)).2 : Int)) D W) ∧ IB w D W
theorem SI.ab (T : Lib.PrintTabs) (w : World) : AbD (SI T w) := fun s D D' A B h hb hD => ⟨⟨h.1.1.ab hb hD, h.1.2.ab hb hD⟩, h.2.ab hb hD⟩
theorem SI.own (T : Lib.PrintTabs) (w : World) (B : Nat) (hB : w.heap.size ≤ B) (D : Nat → Prop) : OwnFrom B (fun s W => SI T w s D W) := fun s X Y row h hg hr =>
  ⟨⟨h.1.1.own hg (fun r e => (hr r e).2), h.1.2.own hg (fun r e => (hr r e).2)⟩, h.2.own hB hg (fun r e => (hr r e).1)⟩

abbrev shTmps (w : World) (xv pv yv : Value) (Bx : Nat) (v11 v12 v13 v14 v15 v16 v17 v18 v19 v20 v21 v22 v23 v24 v25 v26 : Value) : Act :=
  { tmps := #[xv, .pointer (some ⟨w.heap.size, 0, none⟩), .string ⟨#[]⟩, .pointer (some ⟨w.heap.size + 1, 0, none⟩), .pointer (some ⟨w.heap.size + 1 + 1, 0, none⟩), pv, .pointer (some ⟨Bx, 0, none⟩), xv, .func (.func 47) #[] #[.pointer (some ⟨w.heap.size + 1 + 1 + 1, 0, none⟩)], pv, yv, v11, v12, v13, v14, v15, v16, v17, v18, v19, v20, v21, v22, v23, v24, v25, v26, undef, undef, undef, undef, undef, undef, undef], defers := [] }

def SX (w : World) (xv : Value) (y : Told) (D : Nat → Prop) (vs : Array Value) (a' : Act) (W : World) : Prop :=
  ∃ yo yc yv Bx so sc, vs = #[.slice yo y.1.length yc, yv] ∧ w.heap.size + 1 + 1 < Bx ∧ ¬ D Bx ∧ Blk W Bx 24 #[.int .i64 y.2.k, .string y.2.t, .slice so y.2.kids.len sc] ∧ a' = shTmps w xv (.slice yo y.1.length yc) yv Bx undef undef undef undef undef undef undef undef undef undef undef undef undef undef undef undef

/-- In the drawn region: what each operation has left, whatever the order. -/
structure PS (T : Lib.PrintTabs) (k : Int) (t : ByteArray) (Bx : Nat) (W1 : World) (G : World → Prop) (d : Nat → Bool) (v17 v18 v19 v20 v21 v22 v23 v24 v25 : Value) (u : World) : Prop where
  p0 : d 0 = true → v17 = .pointer (some ⟨Bx, 0, none⟩)
  p1 : d 1 = true → v18 = .int .i64 k
  p2 : d 2 = true → v19 = .string (itoaB k)
  p3 : d 3 = true → v20 = .string (⟨#[40]⟩ ++ itoaB k)
  p4 : d 4 = true → v21 = .string (⟨#[40]⟩ ++ itoaB k ++ ⟨#[32]⟩)
  p5 : d 5 = true → v22 = .pointer (some ⟨Bx, 1, none⟩)
  p6 : d 6 = true → v23 = .string t
  p7 : d 7 = true → v24 = .string (quoteB T t)
  p8 : d 8 = true → v25 = .string (headB T k t)
  q1 : d 1 = true → d 0 = true
  q2 : d 2 = true → d 1 = true
  q3 : d 3 = true → d 2 = true
  q4 : d 4 = true → d 3 = true
  q6 : d 6 = true → d 5 = true
  q7 : d 7 = true → d 6 = true
  q8 : d 8 = true → d 4 = true ∧ d 7 = true
  q9 : d 9 = true → d 8 = true
  w1 : d 9 = false → Below W1.heap.size W1 u
  w2 : d 9 = true → G u

/-- The invariant of the region. -/
def PSV (T : Lib.PrintTabs) (w : World) (xv pv yv : Value) (Bx : Nat) (v11 v12 v13 v14 v15 v16 : Value) (k : Int) (t : ByteArray) (W1 : World) (G : World → Prop) (listed : Array Bool) (a : Act) (u : World) : Prop :=
  listed.size = 10 ∧ ∃ v17 v18 v19 v20 v21 v22 v23 v24 v25 v26, a = shTmps w xv pv yv Bx v11 v12 v13 v14 v15 v16 v17 v18 v19 v20 v21 v22 v23 v24 v25 v26 ∧ PS T k t Bx W1 G (rinv.done listed) v17 v18 v19 v20 v21 v22 v23 v24 v25 u

set_option maxRecDepth 100000 in
set_option maxHeartbeats 8000000 in
theorem show_in (T : Lib.PrintTabs) (n : Nat) (hn : 3 ≤ n) (x : Nd) (hwt : x.weight ≤ 1000000) (hkd : x.Kd) (w : World) (hT : Tabs T w) (v : Value) (hu : NdAt (Lt w.heap.size) w x v) :
    CallsIn Fence.wide n Tryd.prog 22 #[v] w fun e w' => e = .returned (.string ⟨(x.show T).toArray⟩) ∧ Below w.heap.size w w' := by
  have h1 : 1 ≤ n := by omega
  have hct : x.count ≤ 1000000 := Nat.le_trans x.count_le hwt
  obtain ⟨s, rfl, hs⟩ := hu
  obtain ⟨ao, cap, rfl, hm⟩ := hs.slice
  obtain ⟨W0, hW0⟩ : ∃ W0, (((w.alloc (.cells #[.int .i64 x.k, .string x.t, .slice ao x.kids.len cap] 24)).alloc (.cells #[.pointer none, .slice none 0 0] 62)).alloc (.cells #[.int .i64 0] 3)).alloc (.cells #[.int .i64 x.k, .string x.t, .slice ao x.kids.len cap] 24) = W0 := ⟨_, rfl⟩
  have hb0 : Below w.heap.size w W0 := by rw [← hW0]; exact ((((Below.refl _ w).alloc (Nat.le_refl _) _).alloc (by simp) _).alloc (by simp; omega) _).alloc (by simp; omega) _
  have hsz : W0.heap.size = w.heap.size + 4 := by rw [← hW0]; simp
  have k1 : BD w.heap.size (w.heap.size + 1) [] (fun _ => False) W0 := by
    have := BD.fresh (w.alloc (.cells #[.int .i64 x.k, .string x.t, .slice ao x.kids.len cap] 24)) (B := w.heap.size) (by simp)
    rw [World.size_alloc] at this
    rw [← hW0]
    exact (this.below (Below.alloc (Below.refl _ _) (Nat.le_refl _) _)).below (Below.alloc (Below.refl _ _) (Nat.le_refl _) _)
  have k2 : Boxed W0 (w.heap.size + 1 + 1) 3 (.int .i64 0) := by
    have := (Boxed.new ((w.alloc (.cells #[.int .i64 x.k, .string x.t, .slice ao x.kids.len cap] 24)).alloc (.cells #[.pointer none, .slice none 0 0] 62)) 3 (.int .i64 0)).alloc (.cells #[.int .i64 x.k, .string x.t, .slice ao x.kids.len cap] 24)
    rw [← hW0]; simpa using this
  have k3 : Blk W0 (w.heap.size + 1 + 1 + 1) 24 #[.int .i64 x.k, .string x.t, .slice ao x.kids.len cap] := by
    rw [← hW0]
    simpa using Blk.new (((w.alloc (.cells #[.int .i64 x.k, .string x.t, .slice ao x.kids.len cap] 24)).alloc (.cells #[.pointer none, .slice none 0 0] 62)).alloc (.cells #[.int .i64 0] 3)) 24 #[.int .i64 x.k, .string x.t, .slice ao x.kids.len cap]
  have hseq := walk_all x hct (n - 1) w.heap.size (w.heap.size + 1 + 1 + 1) W0 hb0.size ao cap k3 (hs.below hb0 (Nat.le_refl _))
  obtain ⟨xv, hxv⟩ : ∃ xv, (Value.agg #[.int .i64 x.k, .string x.t, .slice ao x.kids.len cap]) = xv := ⟨_, rfl⟩
  have HSEQ := Lib.hid hseq; have HW0 := Lib.hid hW0; have HB0 := Lib.hid hb0; have HSZ := Lib.hid hsz; have HK1 := Lib.hid k1; have HK2 := Lib.hid k2; have HXV := Lib.hid hxv
  clear hseq hW0 hb0 hsz k1 k2 k3 hs hxv
  refine callsIn_of_wp_marks Tryd.func22 rfl trivial ?_ rfl
  simp only [Tryd.ntmps22, List.size_toArray, List.length_cons, List.length_nil, Nat.reduceAdd, Nat.reduceSub, Array.replicate_succ, Array.replicate_zero, List.push_toArray, List.append_toArray, List.nil_append, List.cons_append]
  gi_wp2_with fail
  refine ⟨trivial, ?_⟩
  refine (walk_calls x _ ao cap (n - 1)).mono ?_
  rintro e w' ⟨rfl, rfl⟩
  gi_wp2_with fail
  rw [HW0.out, HXV.out]
  have hws : w.heap.size ≤ W0.heap.size := HB0.out.size
  refine wpIn_rangeFunc_D (F := Fence.wide) rfl h1 (gf := 47) (lb := #[.pointer (some ⟨w.heap.size + 1 + 1 + 1, 0, none⟩)]) rfl trivial (enters_of Tryd.func47 (by kernel_rfl) rfl)
    HSEQ.out hws (Below.refl _ _) (fun x D W vs h => by obtain ⟨pv, xv, rfl, _⟩ := h; rfl)
    (SI T w) (SI.ab T w) (SI.own T w _ hws) ⟨⟨HK1.out, HK2.out, id⟩, HB0.out, fun k hk => hk.elim⟩
    (SX w xv)
    (fun y D vs a' s X Y row h hg hr => by
      obtain ⟨yo, yc, yv, Bx, so, sc, h1, h2, h2', h3, h4⟩ := h
      exact ⟨yo, yc, yv, Bx, so, sc, h1, h2, h2', blk_own Bx 24 (fun (_ : Unit) => #[.int .i64 y.2.k, .string y.2.t, .slice so y.2.kids.len sc]) () X Y row h3 hg (fun r e => (hr r e).2), h4⟩) ?assign ?body ?done
  case assign =>
    rintro l pre y D W vs K hI hD ⟨pv, yv, rfl, hp, hy⟩ hK
    obtain ⟨yo, yc, rfl, _⟩ := id hp
    obtain ⟨s2, rfl, hs2⟩ := hy
    obtain ⟨so, sc, rfl, _⟩ := hs2.slice
    rw [show (y.1.map fun (n : Nat) => (n : Int)).length = y.1.length by simp] at hp ⊢
    have HIS := Lib.hid hI
    gi_wp2
    obtain ⟨⟨hbd, hbx⟩, hib⟩ := HIS.out
    have hal : Below W.heap.size W (W.alloc (.cells #[.int .i64 y.2.k, .string y.2.t, .slice so y.2.kids.len sc] 24)) := (Below.refl _ W).alloc (Nat.le_refl _) _
    refine hK _ _ ((KeepsOthers.alloc _ _).from _) (KD.of_below hal hib.1.size) ⟨⟨hbd.below hal, hbx.1.alloc _, hbx.2⟩, hib.1.alloc hib.1.size _, hib.2⟩ ⟨yo, yc, _, W.heap.size, so, sc, by simp, Boxed.lt hbx.1, fun e => Nat.lt_irrefl _ (hD _ e).2, Blk.new W 24 _, rfl⟩
  case body =>
    rintro l pre y rest D vs a' W hys hl hPI hD ⟨yo, yc, yv, Bx, so, sc, rfl, hBx, hBD, hbx, rfl⟩
    have hmx : Tryd.prog.follows .mixedOrders = true := by kernel_rfl
    have hdep : 1 ≤ n - 1 - 1 := by omega
    have f1 : Fence.wide.fn 41 := trivial
    have f2 : Fence.wide.fn 40 := trivial
    have f3 : Fence.wide.fn 42 := trivial
    have f4 : Fence.wide.fn 43 := trivial
    obtain ⟨⟨hbd, hb, hnb⟩, hI⟩ := hPI
    have hWs := hI.1.size
    have hTW := hT.below hI.1
    have hrw := (Nd.runs_walk T x).2
    rw [hys] at hrw
    have hop := Fine.at (T := T) (a := ([], 0)) hrw
    have hbnd := runs_bound T x hkd (pre := pre) (rest := y :: rest) hys
    have hbnd2 := runs_bound T x hkd (pre := pre ++ [y]) (rest := rest) (by rw [hys]; simp)
    rw [runs_append] at hbnd2
    obtain ⟨A, hA⟩ : ∃ A, runs T pre ([], 0) = A := ⟨_, rfl⟩
    rw [hA] at hbd hb hop hbnd hbnd2
    simp only [runs, List.foldl_cons, List.foldl_nil, stp, List.length_append] at hbnd2
    have hsh : ∀ z ∈ x.walk [], z.1.length + 1 ≤ 1000001 := fun z hz => by
      have h1 := Nd.walk_short x hz
      have h2 := Nd.deep_le x
      simp at h1
      omega
    have hmem : y ∈ x.walk [] := by rw [hys]; simp
    have ho2 : A.2 ≤ 1000001 := by
      rw [← hA]
      exact runs_snd T _ pre _ (by simp) (fun z hz => hsh z (by rw [hys]; simp [hz]))
    have hpl : y.1.length ≤ 1000000 := by have := hsh y hmem; omega
    have hyof := Nd.walk_of hmem hkd
    have hyk := hyof.1
    have hyt : y.2.t.size ≤ 1000000 := Nat.le_trans hyof.2 hwt
    have his := itoaB_size y.2.k hyk
    have hqs := quoteB_size T y.2.t
    have hc := hb.cell
    have HBX := Lib.hid hbx; have HBD := Lib.hid hbd; have HB := Lib.hid hb; have HI := Lib.hid hI; have HDL := Lib.hid hD; have HTW := Lib.hid hTW; have HA := Lib.hid hA; have HB2 := Lib.hid hbnd2
    have hsub : ((A.2 : Int) - (y.1.length : Int)) = ((A.2 - y.1.length : Nat) : Int) := by omega
    clear hbx hbd hb hI hys hD hrw hbnd hbnd2 hTW hmem hyof hsh hA
    gi_wp2_with fail
    refine (CallsIn.inRound l (callsIn_wide.2 (repeat_calls (A.2 - y.1.length) (by omega) W))).mono ?_
    rintro e W1 ⟨rfl, hb1⟩
    have hW1 := hb1.size
    have hcs := clB_size (A.2 - y.1.length)
    have hws1 := writeStringD_calls w.heap.size (w.heap.size + 1) _ D (clB (A.2 - y.1.length)) W1 (HBD.out.below hb1) (by have := HB2.out; rw [Lib.byteCells_length]; rw [hcs]; simp at this ⊢; omega) (by omega) (fun k hk => by have := (HDL.out k hk).2; omega)
    have HB1 := Lib.hid hb1; have HWS1 := Lib.hid hws1
    clear hb1 hws1 hc
    gi_wp2_with fail
    refine (CallsIn.inRound l (callsIn_wide.2 HWS1.out)).mono ?_
    rintro e W2 ⟨rfl, hbd2, hbl2, hok2, hkd2⟩
    rw [hcs]
    have hW2 := hbl2.size
    obtain ⟨bs2, hbs2⟩ : ∃ bs2, Lib.byteCells A.1 ++ Lib.strCells (clB (A.2 - y.1.length)) = bs2 := ⟨_, rfl⟩
    rw [hbs2] at hbd2
    have hbx2 : Blk W2.drew Bx 24 #[.int .i64 y.2.k, .string y.2.t, .slice so y.2.kids.len sc] := okept_blk hok2 ((HB1.out.block _ (Blk.lt HBX.out)).trans HBX.out) (by omega) (by decide)
    have hb2 : Boxed W2.drew (w.heap.size + 1 + 1) 3 (.int .i64 (A.2 : Int)) := okept_blk hok2 ((HB1.out.block _ (Boxed.lt HB.out)).trans HB.out) (by omega) (by decide)
    have hkf2 : KeepsOthers W W2.drew := (keeps_below HB1.out).trans (okept_keeps hok2 (HBD.out.below HB1.out).at hW2)
    have hKD2 : KD w.heap.size D W W2.drew := (KD.of_below HB1.out hWs).trans ⟨hbl2.drew, fun k hk _ => hkd2 k hk⟩
    have hTW2 : Tabs T W2.drew := hT.below (HI.out.1.trans hKD2.1)
    have hbd3 : BD w.heap.size (w.heap.size + 1) bs2 D W2.drew := hbd2
    have hD2 : ∀ k, D k → k < W2.drew.heap.size := fun k hk => by have := (HDL.out k hk).2; show k < W2.heap.size; omega
    have hsz2 : w.heap.size + 1 + 1 < W2.drew.heap.size := Boxed.lt hb2
    have hhl : (headB T y.2.k y.2.t).size = (headL T y.2.k y.2.t).length := by rw [← headB_list, Array.length_toList]; rfl
    have hbl3 : bs2.length + (headB T y.2.k y.2.t).size ≤ 140737488355328 := by
      have := HB2.out
      rw [hhl, ← hbs2, List.length_append, Lib.byteCells_length, Lib.strCells_length, hcs]
      simp at this
      omega
    have HBX2 := Lib.hid hbx2; have HBB2 := Lib.hid hb2; have HKF2 := Lib.hid hkf2; have HKD2 := Lib.hid hKD2; have HTW2 := Lib.hid hTW2; have HBD3 := Lib.hid hbd3; have HD2 := Lib.hid hD2; have HBL3 := Lib.hid hbl3; have HBS2 := Lib.hid hbs2
    clear hbd2 hbl2 hok2 hkd2 hbx2 hb2 hkf2 hKD2 hTW2 hbd3 hD2 hbl3 hbs2 hhl
    gi_wp2
    refine wpIn_region_any hmx ?_
    change wpAnyIn _ _ _ _ _ _ _ _ _ W2.drew
    obtain ⟨W3, hW3⟩ : ∃ W3, W2.drew = W3 := ⟨_, rfl⟩
    rw [hW3] at HBX2 HBB2 HKF2 HKD2 HTW2 HBD3 HD2 hsz2 ⊢
    clear hW3
    refine rinv.wpAnyIn_inv (PSV T w xv (.slice yo y.1.length yc) yv Bx (.int .i64 (A.2 : Int)) (.slice yo y.1.length yc) (.int .i64 (y.1.length : Int)) (.int .i64 ((A.2 - y.1.length : Nat) : Int)) (.string (clB (A.2 - y.1.length))) (.tuple #[.int .i64 ((A.2 - y.1.length : Nat) : Int), .nilIface]) y.2.k y.2.t W3
      (fun u => BD w.heap.size (w.heap.size + 1) (bs2 ++ Lib.strCells (headB T y.2.k y.2.t)) D u ∧ KD w.heap.size D W3 u ∧ KeepsOthers W3 u ∧ Lib.OthersKept 5 (some (w.heap.size + 1)) W3 u)) ?step ?fin _ _ _ _ (by decide) ?start
    case start =>
      refine ⟨rfl, _, _, _, _, _, _, _, _, _, _, rfl, ?_⟩
      constructor <;> first | exact fun h => absurd h (by decide) | exact fun _ => Below.refl _ _
    case fin =>
      rintro listed a u ⟨hsl, v17, v18, v19, v20, v21, v22, v23, v24, v25, v26, rfl, h⟩ hre
      have hno : ∀ i, i ∉ Region.ready _ _ listed := fun i hi => by rw [hre] at hi; cases hi
      have mk : ∀ i, i < 10 → _ → rinv.done listed i = true := fun i hi ha => by
        cases hq : rinv.done listed i with
        | true => rfl
        | false => exact absurd (rinv.ready_of hi hsl hq ha) (hno i)
      have k0 := mk 0 (by omega) (by simp [Region.binds])
      have k1 := mk 1 (by omega) (by simp [Region.binds, k0])
      have k2 := mk 2 (by omega) (by simp [Region.binds, k1])
      have k3 := mk 3 (by omega) (by simp [Region.binds, k2])
      have k4 := mk 4 (by omega) (by simp [Region.binds, k3])
      have k5 := mk 5 (by omega) (by simp [Region.binds])
      have k6 := mk 6 (by omega) (by simp [Region.binds, k5])
      have k7 := mk 7 (by omega) (by simp [Region.binds, k6, k2])
      have k8 := mk 8 (by omega) (by simp [Region.binds, k4, k7])
      have k9 := mk 9 (by omega) (by simp [Region.binds, k8, k7])
      obtain ⟨gbd, gkd, gko, gok⟩ := h.w2 k9
      have hbu : Boxed u (w.heap.size + 1 + 1) 3 (.int .i64 (A.2 : Int)) := okept_blk gok HBB2.out (by omega) (by decide)
      have hc := hbu.cell
      have hf := hbu.frozen
      have HG := Lib.hid gbd; have HGK := Lib.hid gkd; have HGO := Lib.hid gko; have HBU := Lib.hid hbu
      clear mk hno k0 k1 k2 k3 k4 k5 k6 k7 k8 k9 hre h gbd gkd gko gok hbu
      gi_wp2_with fail
      have hset : KD w.heap.size D u (u.setCell ⟨w.heap.size + 1 + 1, 0, none⟩ (.int .i64 ((y.1.length : Int) + 1))) := KD.setCell (p := ⟨w.heap.size + 1 + 1, 0, none⟩) (by simp; omega) hnb _
      have hall := (HKD2.out.trans HGK.out).trans hset
      refine ⟨((HKF2.out.trans HGO.out).trans (KeepsOthers.setCell _ _ _)).from _, hall, ⟨?_, ?_⟩, HI.out.1.trans hall.1, HI.out.2⟩
      · rw [runs_append, HA.out]
        have e : Lib.byteCells (runs T [y] A).1 = bs2 ++ Lib.strCells (headB T y.2.k y.2.t) := by
          rw [← HBS2.out]
          simp only [runs, List.foldl_cons, List.foldl_nil, stp]
          rw [Lib.byteCells_append, Lib.byteCells_append, Lib.strCells_eq, Lib.strCells_eq, clB_list, headB_list, List.append_assoc]
        rw [e]
        exact HG.out.set HBU.out (by omega) (by decide) _
      · rw [runs_append, HA.out]
        refine ⟨?_, hnb⟩
        have := HBU.out.set (.int .i64 ((y.1.length : Int) + 1))
        simpa [runs, stp] using this
    case step =>
      rintro listed a u i ⟨hsl, v17, v18, v19, v20, v21, v22, v23, v24, v25, v26, rfl, h⟩ hi
      obtain ⟨hlt11, hnot, haft⟩ := rinv.ready_mem hi
      have hd : rinv.done (listed.setIfInBounds i true) = fun k => (k == i) || rinv.done listed k := funext (rinv.done_set hnot)
      have hni := rinv.done_not hnot
      have hsl' : (listed.setIfInBounds i true).size = 10 := by rw [Array.size_setIfInBounds]; exact hsl
      have HD := Lib.hid hd; have HS := Lib.hid hsl'; have HN := Lib.hid hni; have HAF := Lib.hid haft
      have HH := Lib.hid h
      clear hd hsl' hsl hnot hi hni haft h
      match i, hlt11 with
      | 0, _ =>
        refine rinv.wpOpIn_of_list rfl ?_
        gi_wp2
        refine ⟨HS.out, _, _, _, _, _, _, _, _, _, _, rfl, ?_⟩
        rw [HD.out]
        exact { HH.out with p0 := fun _ => rfl, q1 := fun _ => rfl }
      | 1, _ =>
        refine rinv.wpOpIn_of_list rfl ?_
        have h0 : rinv.done listed 0 = true := by have h := HAF.out; simp [Region.binds] at h; simp [h]
        have e0 := HH.out.p0 h0
        subst e0
        have h9 := not_of HH.out.q9 (not_of (fun e => (HH.out.q8 e).1) (not_of HH.out.q4 (not_of HH.out.q3 (not_of HH.out.q2 HN.out))))
        have hbu : Blk u Bx 24 #[.int .i64 y.2.k, .string y.2.t, .slice so y.2.kids.len sc] := ((HH.out.w1 h9).block _ (Blk.lt HBX2.out)).trans HBX2.out
        have hc : u.cell? ⟨Bx, 0, none⟩ = some (.int .i64 y.2.k) := hbu.cell 0
        have H0 := Lib.hid h0; have H9 := Lib.hid h9
        clear h0 h9 hbu
        gi_wp2
        refine ⟨HS.out, _, _, _, _, _, _, _, _, _, _, rfl, ?_⟩
        rw [HD.out]
        exact { HH.out with p1 := fun _ => rfl, q1 := fun _ => H0.out, q2 := fun _ => rfl }
      | 2, _ =>
        refine rinv.wpOpIn_of_list rfl ?_
        have h0 : rinv.done listed 1 = true := by have h := HAF.out; simp [Region.binds] at h; simp [h]
        have e0 := HH.out.p1 h0
        subst e0
        have h9 := not_of HH.out.q9 (not_of (fun e => (HH.out.q8 e).1) (not_of HH.out.q4 (not_of HH.out.q3 HN.out)))
        have hcl := itoa_calls T y.2.k hyk u (HTW2.out.below (HH.out.w1 h9))
        have H0 := Lib.hid h0; have H9 := Lib.hid h9; have HCL := Lib.hid hcl
        clear h0 h9 hcl
        gi_wp2_with (gi_at_call 42; refine (CallsIn.inRound l (callsIn_wide.2 HCL.out)).mono ?_; rintro e w' ⟨rfl, hbc⟩)
        refine ⟨HS.out, _, _, _, _, _, _, _, _, _, _, rfl, ?_⟩
        rw [HD.out]
        exact { HH.out with
          p2 := fun _ => rfl, q2 := fun _ => H0.out, q3 := fun _ => rfl
          w1 := fun _ => (HH.out.w1 H9.out).trans (hbc.mono (HH.out.w1 H9.out).size)
          w2 := fun e => absurd (show rinv.done listed 9 = true from e) (by rw [H9.out]; simp) }
      | 3, _ =>
        refine rinv.wpOpIn_of_list rfl ?_
        have h0 : rinv.done listed 2 = true := by have h := HAF.out; simp [Region.binds] at h; simp [h]
        have e0 := HH.out.p2 h0
        subst e0
        have H0 := Lib.hid h0
        clear h0
        gi_wp2
        refine ⟨HS.out, _, _, _, _, _, _, _, _, _, _, rfl, ?_⟩
        rw [HD.out]
        exact { HH.out with p3 := fun _ => rfl, q3 := fun _ => H0.out, q4 := fun _ => rfl }
      | 4, _ =>
        refine rinv.wpOpIn_of_list rfl ?_
        have h0 : rinv.done listed 3 = true := by have h := HAF.out; simp [Region.binds] at h; simp [h]
        have e0 := HH.out.p3 h0
        subst e0
        have H0 := Lib.hid h0
        clear h0
        gi_wp2
        refine ⟨HS.out, _, _, _, _, _, _, _, _, _, _, rfl, ?_⟩
        rw [HD.out]
        exact { HH.out with p4 := fun _ => rfl, q4 := fun _ => H0.out, q8 := fun e => ⟨rfl, (HH.out.q8 e).2⟩ }
      | 5, _ =>
        refine rinv.wpOpIn_of_list rfl ?_
        gi_wp2
        refine ⟨HS.out, _, _, _, _, _, _, _, _, _, _, rfl, ?_⟩
        rw [HD.out]
        exact { HH.out with p5 := fun _ => rfl, q6 := fun _ => rfl }
      | 6, _ =>
        refine rinv.wpOpIn_of_list rfl ?_
        have h0 : rinv.done listed 5 = true := by have h := HAF.out; simp [Region.binds] at h; simp [h]
        have e0 := HH.out.p5 h0
        subst e0
        have h9 := not_of HH.out.q9 (not_of (fun e => (HH.out.q8 e).2) (not_of HH.out.q7 HN.out))
        have hbu : Blk u Bx 24 #[.int .i64 y.2.k, .string y.2.t, .slice so y.2.kids.len sc] := ((HH.out.w1 h9).block _ (Blk.lt HBX2.out)).trans HBX2.out
        have hc : u.cell? ⟨Bx, 1, none⟩ = some (.string y.2.t) := hbu.cell 1
        have H0 := Lib.hid h0; have H9 := Lib.hid h9
        clear h0 h9 hbu
        gi_wp2
        refine ⟨HS.out, _, _, _, _, _, _, _, _, _, _, rfl, ?_⟩
        rw [HD.out]
        exact { HH.out with p6 := fun _ => rfl, q6 := fun _ => H0.out, q7 := fun _ => rfl }
      | 7, _ =>
        refine rinv.wpOpIn_of_list rfl ?_
        have h0 : rinv.done listed 6 = true := by have h := HAF.out; simp [Region.binds] at h; simp [h]
        have e0 := HH.out.p6 h0
        subst e0
        have h9 := not_of HH.out.q9 (not_of (fun e => (HH.out.q8 e).2) HN.out)
        have hcl := quote_calls T y.2.t hyt u (HTW2.out.below (HH.out.w1 h9))
        have H0 := Lib.hid h0; have H9 := Lib.hid h9; have HCL := Lib.hid hcl
        clear h0 h9 hcl
        gi_wp2_with (gi_at_call 43; refine (CallsIn.inRound l (callsIn_wide.2 HCL.out)).mono ?_; rintro e w' ⟨rfl, hbc⟩)
        refine ⟨HS.out, _, _, _, _, _, _, _, _, _, _, rfl, ?_⟩
        rw [HD.out]
        exact { HH.out with
          p7 := fun _ => rfl, q7 := fun _ => H0.out, q8 := fun e => ⟨(HH.out.q8 e).1, rfl⟩
          w1 := fun _ => (HH.out.w1 H9.out).trans (hbc.mono (HH.out.w1 H9.out).size)
          w2 := fun e => absurd (show rinv.done listed 9 = true from e) (by rw [H9.out]; simp) }
      | 8, _ =>
        refine rinv.wpOpIn_of_list rfl ?_
        have h0 : rinv.done listed 4 = true ∧ rinv.done listed 7 = true := by have h := HAF.out; simp [Region.binds] at h; simp [h]
        have e0 := HH.out.p4 h0.1
        subst e0
        have e1 := HH.out.p7 h0.2
        subst e1
        have H0 := Lib.hid h0
        clear h0
        gi_wp2
        refine ⟨HS.out, _, _, _, _, _, _, _, _, _, _, rfl, ?_⟩
        rw [HD.out]
        exact { HH.out with p8 := fun _ => rfl, q8 := fun _ => H0.out, q9 := fun _ => rfl }
      | 9, _ =>
        refine rinv.wpOpIn_of_list rfl ?_
        have h0 : rinv.done listed 8 = true := by have h := HAF.out; simp [Region.binds] at h; simp [h]
        have e0 := HH.out.p8 h0
        subst e0
        have hbu := HH.out.w1 HN.out
        have hus := hbu.size
        have hcl := writeStringD_calls w.heap.size (w.heap.size + 1) bs2 D (headB T y.2.k y.2.t) u (HBD3.out.below hbu) HBL3.out (by omega) (fun k hk => by have := HD2.out k hk; omega)
        have H0 := Lib.hid h0; have HCL := Lib.hid hcl; have HBU := Lib.hid hbu
        clear h0 hcl hbu
        gi_wp2_with (gi_at_call 40; refine (CallsIn.inRound l (callsIn_wide.2 HCL.out)).mono ?_; rintro e w' ⟨rfl, g1, g2, g3, g4⟩)
        refine ⟨HS.out, _, _, _, _, _, _, _, _, _, _, rfl, ?_⟩
        rw [HD.out]
        exact { HH.out with
          q9 := fun _ => H0.out
          w1 := fun e => by cases e
          w2 := fun _ => ⟨g1, (KD.of_below HBU.out (by omega)).trans ⟨g2, fun k hk _ => g4 k hk⟩, (keeps_below HBU.out).trans (okept_keeps g3 (HBD3.out.below HBU.out).at g2.size), (fun k o ho h1 h2 => g3 k o ((HBU.out.block k (Array.getElem?_eq_some_iff.1 ho).1).trans ho) h1 h2)⟩ }
      | (j + 10), h => exact absurd h (by simp)
  case done =>
    rintro D D1 W hD ⟨⟨hbd, hb, _⟩, hI⟩ hdef
    have f1 : Fence.wide.fn 41 := trivial
    have f2 : Fence.wide.fn 40 := trivial
    have f3 : Fence.wide.fn 44 := trivial
    have hWs := hI.1.size
    have hrw := (Nd.runs_walk T x).1
    have hsl := Nd.show_len T x hkd
    obtain ⟨A, hA⟩ : ∃ A, runs T (x.walk []) ([], 0) = A := ⟨_, rfl⟩
    have ho2 : A.2 ≤ 1000001 := by
      rw [← hA]
      exact runs_snd T _ _ _ (by simp) (fun z hz => by
        have h1 := Nd.walk_short x hz
        have h2 := Nd.deep_le x
        simp at h1
        omega)
    rw [hA] at hbd hb hrw
    have hal : A.1.length + A.2 ≤ 30000000 := by
      rw [← hrw] at hsl
      simp at hsl
      omega
    have hcs := clB_size A.2
    have hc := hb.cell
    have HBD := Lib.hid hbd.at; have HI := Lib.hid hI; have HDF := Lib.hid hdef; have HRW := Lib.hid hrw
    clear hbd hb hI hdef hrw hA hsl
    gi_wp2_with fail
    refine (callsIn_wide.2 (repeat_calls A.2 (by omega) W)).mono ?_
    rintro e W1 ⟨rfl, hb1⟩
    have hW1 := hb1.size
    have hB1 : BAt w.heap.size (w.heap.size + 1) (Lib.byteCells A.1) W1 := by
      have key : ∀ p, Lib.BuilderAtF 62 5 w.heap.size (w.heap.size + 1) p (Lib.byteCells A.1) W → Lib.BuilderAtF 62 5 w.heap.size (w.heap.size + 1) p (Lib.byteCells A.1) W1 := by
        rintro p ⟨h1, v, h2, h3, h4⟩
        exact ⟨h1, v, (hb1.block _ (Array.getElem?_eq_some_iff.1 h2).1).trans h2, ownF_keep h3 (fun k e => by
          obtain ⟨c, fz, hc⟩ := Lib.ownsRowF_kind h3 k e
          exact hb1.block k (Array.getElem?_eq_some_iff.1 hc).1), h4⟩
      exact HBD.out.elim (fun h => .inl (key _ h)) (fun h => .inr (key _ h))
    have hws1 := writeString_calls w.heap.size (w.heap.size + 1) _ (clB A.2) W1 hB1 (by rw [Lib.byteCells_length, hcs]; omega) (by omega)
    have HB1 := Lib.hid hb1; have HWS1 := Lib.hid hws1; have HBA := Lib.hid hB1
    clear hb1 hws1 hc hB1
    gi_wp2_with fail
    refine (callsIn_wide.2 HWS1.out).mono ?_
    rintro e W2 ⟨rfl, hbd2, hbl2, hok2⟩
    have hW2 := hbl2.size
    have he : Lib.byteCells A.1 ++ Lib.strCells (clB A.2) = Lib.byteCells (x.show T) := by
      rw [← HRW.out, Lib.byteCells_append, Lib.strCells_eq, clB_list]
    rw [he] at hbd2
    have hst := Tryd.Builder_String_any_k w.heap.size (w.heap.size + 1) (x.show T) W2 hbd2 (by omega)
    have hko : KeepsOthers W W2 := (keeps_below HB1.out).trans (okept_keeps hok2 HBA.out hW2)
    have HST := Lib.hid hst; have HKO := Lib.hid hko; have HBD2 := Lib.hid hbd2; have HBL2 := Lib.hid hbl2
    clear hst hko hbd2 hbl2 hok2 he
    gi_wp2_with fail
    refine (callsIn_wide.2 HST.out).mono ?_
    rintro e W4 ⟨rfl, hb4, hbl4, hok4⟩
    have h4 : W4.heap[D]? = some (.deferred (some [])) := (okept_keeps hok4 HBD2.out hbl4.size).same _ _ (HKO.out.same _ _ HDF.out rfl) rfl
    gi_wp2
    refine ⟨by simp, .inl ⟨_, _, rfl, run_takeDeferred h4, ?_⟩⟩
    have hg := grownBy_putObj' W4 D (.deferred none)
    exact ⟨_, results_tmp rfl _ _ _, rfl, (((HI.out.1.trans (HB1.out.mono hWs)).trans HBL2.out).trans hbl4).grown hg (by have := hbl4.size; omega) (fun j e => by cases e; omega)⟩

theorem show_calls (T : Lib.PrintTabs) (x : Nd) (hwt : x.weight ≤ 1000000) (hkd : x.Kd) (w : World) (hT : Tabs T w) (v : Value) (hu : NdAt (Lt w.heap.size) w x v) :
    Calls Tryd.prog 22 #[v] w fun e w' => e = .returned (.string ⟨(x.show T).toArray⟩) ∧ Below w.heap.size w w' :=
  callsIn_wide.1 (show_in T 3 (Nat.le_refl _) x hwt hkd w hT v hu)
end Go.Proofs.YtbdkemgfdghbkaaDoor.nd
