/-
  ItDocs: several texts in one, each with its own head.
-/
import Derived.Test.YtmoamfcaokefiaaGreatDoorItAllS
import Derived.Laws.AppendOwnNone
import Derived.Test.YtmoamfcaokefiaaGreatDoorLxSame
import Derived.Test.YtmoamfcaokefiaaGreatDoorEdIn
import Derived.Laws.OwnMore
import Derived.OneCell
import Derived.Test.YtmoamfcaokefiaaGreatDoorLxDoc
import Derived.Test.YtmoamfcaokefiaaGreatDoorRows

/-
  The document's comparison of texts, of two rows that hold the same; texts laid behind one another.
-/
namespace Go.Proofs.YtmoamfcaokefiaaGreatDoor.it
open Go.RowKit Go.Shelf
open sg (lst_len OpsAt)
open lx sx
set_option linter.unusedVariables false

def StrsAt (n : Nat) (W : World) (v : Value) (l : List ByteArray) : Prop :=
  ∃ ao cap, v = .slice ao l.length cap ∧ l.length ≤ maxLen ∧ ∀ (j : Nat) s, l[j]? = some s → ∃ g off, ao = some ⟨g, off, none⟩ ∧ g < n ∧ W.cell? ⟨g, off + j, none⟩ = some (.string s)
theorem StrsAt.below {n m : Nat} {W W' : World} {v : Value} {l : List ByteArray} (h : StrsAt n W v l) (hb : Below m W W') (hm : n ≤ m) : StrsAt n W' v l := by
  obtain ⟨ao, cap, h1, h2, h3⟩ := h
  refine ⟨ao, cap, h1, h2, fun i e he => ?_⟩
  obtain ⟨g, off, e1, hg, c0⟩ := h3 i e he
  exact ⟨g, off, e1, hg, (hb.cell (p := ⟨g, _, none⟩) (Nat.lt_of_lt_of_le hg hm)).trans c0⟩
theorem own_strs {W : World} {base : Nat} {v : Value} {l : List ByteArray} (h : W.ownsRow base 9 1 v l.length (strs l)) : StrsAt W.heap.size W v l := by
  obtain ⟨ao, cap, rfl, hc⟩ := own_len h
  have hm : l.length ≤ maxLen := by
    rcases h.2 with ⟨_, h0⟩ | ⟨g, cap', cur, hv, h2, h3, h4⟩
    · rw [h0]; exact Nat.zero_le _
    · exact Nat.le_trans h4.1 h4.2.1
  refine ⟨ao, cap, rfl, hm, fun j s hs => ?_⟩
  obtain ⟨g, hg, _, hgl, hc⟩ := own_at h (show (strs l)[j]? = some (.string s) by unfold strs; rw [List.getElem?_map, hs]; rfl)
  exact ⟨g, 0, hg, hgl, by rw [Nat.zero_add]; exact hc⟩

set_option maxRecDepth 100000 in
set_option maxHeartbeats 4000000 in
theorem same1_calls (u v : Value) (l : List ByteArray) (w : World) (n : Nat) (ha : StrsAt n w u l) (hb : StrsAt n w v l) :
    Calls Tryz.prog 19 #[u, v] w fun e w' => e = .returned (.bool true) ∧ Below w.heap.size w w' := by
  obtain ⟨ao, cap, rfl, hm, hc⟩ := ha
  obtain ⟨bo, cap2, rfl, _, hc2⟩ := hb
  unfold maxLen at hm
  have HC := Lib.hid hc; have HC2 := Lib.hid hc2
  clear hc hc2
  go_enter Tryz.func19, Tryz.ntmps19
  go_wp2_with fail
  go_loopw [5] (fun i wr => ∃ k : Nat, k ≤ l.length ∧ i = .int .i64 (k : Int) ∧ Below w.heap.size w wr) (fun i _ => l.length - (intOf i).toNat)
  case atStart => exact ⟨0, Nat.zero_le _, rfl, Below.refl _ _⟩
  case round =>
    obtain ⟨k, hk, rfl, hb⟩ := hrel
    by_cases hlt : k < l.length
    · obtain ⟨t, ht⟩ : ∃ t, l[k]? = some t := ⟨_, List.getElem?_eq_getElem hlt⟩
      obtain ⟨g, off, rfl, _, c0⟩ := HC.out k t ht
      obtain ⟨g2, off2, rfl, _, e0⟩ := HC2.out k t ht
      have d0 := (hb.cell (p := ⟨g, off + k, none⟩) (World.block_lt_of_cell? w _ c0)).trans c0
      have d2 := (hb.cell (p := ⟨g2, off2 + k, none⟩) (World.block_lt_of_cell? w _ e0)).trans e0
      have hlt1 : (k : Int) < (l.length : Int) := by omega
      clear c0 e0 ht
      go_wp2_with fail
      go_region
      go_wp2_with fail
      exact ⟨⟨k + 1, by omega, rfl, hb.drew⟩, by simp [intOf]; omega⟩
    · obtain rfl : k = l.length := by omega
      have hge : decide ((l.length : Int) < (l.length : Int)) = false := by simp
      go_wp2_with fail
      go_ret
      exact ⟨rfl, hb⟩
/-- An append of a row that is owned. -/
theorem wpList_append_rows {P : Program} (w : World) {ops : Array Oper} {rest : List Oper} {o : Oper} {a : Act} {Q : Exit → Act → World → Prop} (hgd : o.guard = none) (s x : Operand) (t : TypeId)
    (ho : o.op = .call { callee := .builtin .append, args := #[s, x], argTypes := #[t, t] })
    (base : Nat) (e : TypeId) (i : TypeInfo) (z : Value) (size bytes : Nat) (ht : P.underlying t = some (.slice e)) (hi : P.info? e = some i) (hz : i.zero = some z)
    (hsize : i.size = size) (hby : i.bytes = bytes) (hzs : z.cells.size = size) (hsz : 0 < size)
    (v : Value) (n : Nat) (xs : List Value) (hs : a.eval s = v) (hown : w.ownsRow base e size v n xs)
    (b2 : Nat) (u : Value) (m : Nat) (news : List Value) (hx : a.eval x = u) (hu : w.ownsRow b2 e size u m news) (h1 : ∀ u ∈ news, u.oneCell' = true)
    (h63 : n + m ≤ maxLen) (hbytes : (n + m) * bytes ≤ 140737488355328) (hbase : base ≤ w.heap.size)
    (h : ∀ v' w', w'.ownsRow base e size v' (n + m) (xs ++ news) → Below base w w' → wpList P ops Q rest (a.put o.dst v') w') : wpList P ops Q (o :: rest) a w := by
  rcases hu.2 with ⟨rfl, h0⟩ | ⟨g, cap, cur, rfl, h2, h3, h4⟩
  · have hn := hu.1
    rw [h0, Nat.zero_mul] at hn
    have hnil : news = [] := List.length_eq_zero_iff.1 hn
    subst hnil
    subst h0
    refine wpList_append_own_none hgd s x t ho base e i size ht hi v n xs hs hown hx (h v w ?_ (Below.refl _ _))
    rw [List.append_nil]; exact hown
  · refine wpList_append_own w hgd s x t ho base e i z size bytes ht hi hz hsize hby hzs hsz v n xs hs hown ⟨g, 0, none⟩ m cap news hx hu.1 (fun j u hj => ?_) h1 h63 hbytes hbase fun v' w' k1 k2 _ => h v' w' k1 ((Below.refl base w).grown k2 hbase (fun j ej => (hown.lt j ej).1))
    obtain ⟨g', hg, _, _, hc⟩ := own_at hu hj
    obtain rfl : g = g' := by simpa using hg
    unfold Addr.add
    by_cases hj0 : j = 0
    · subst hj0; exact hc
    · simp [hj0]; exact hc
theorem strs_one (l : List ByteArray) : ∀ u ∈ strs l, u.oneCell' = true := by
  intro u hu
  unfold strs at hu
  obtain ⟨t, _, rfl⟩ := List.mem_map.1 hu
  rfl
end Go.Proofs.YtmoamfcaokefiaaGreatDoor.it

/-
  The mathematics of ItemsLine: a line's tokens are the source's that count, with blanks between.
-/
namespace Go.Proofs.YtmoamfcaokefiaaGreatDoor.it
open Go.RowKit
open sg (lst_len OpsAt)
open lx
set_option linter.unusedVariables false

theorem lineU_full (cs : List Tk) (n : Nat) (h : cs.length ≤ n) : lineU cs n = Lx.lineT TF (cs.map pt) := by
  unfold lineU; rw [List.take_of_length_le h]
/-- A lexer's kinds are few. -/
theorem wf_kinds2 {x : Lx.Lex} {ts : List Lx.Tok} (h : Lx.WF x ts) : ∀ t ∈ ts, t.1 ≤ 13 := by
  have key : ∀ x : Lx.Lex, ∀ e ∈ Lx.tried x, e.1 ≤ 13 := by
    intro x e he
    unfold Lx.tried at he
    split at he
    · simp only [Lx.inside, List.mem_cons, List.not_mem_nil, or_false] at he
      rcases he with rfl | rfl | rfl <;> decide
    · have : e ∈ Lx.closing := by
        split at he
        · exact he
        · exact List.mem_cons_of_mem _ he
      simp only [Lx.closing, Lx.outside, List.mem_cons, List.not_mem_nil, or_false] at this
      rcases this with rfl | rfl | rfl | rfl | rfl | rfl | rfl | rfl | rfl | rfl <;> decide
  induction ts generalizing x with
  | nil => intro t ht; cases ht
  | cons a r ih =>
    obtain ⟨y, hf, _, _, hr⟩ := h
    intro t ht
    rcases List.mem_cons.1 ht with rfl | ht
    · obtain ⟨_, e, he, hk, _⟩ := Lx.find_some hf
      rw [← hk]
      exact key _ _ he
    · exact ih hr t ht
theorem fits_told {s : ByteArray} (hs : s.size ≤ 1000) {l : List Lx.Tok} (h : tokensF s.data.toList (utf.checkF s) = (l, 0, 0)) : ∀ t ∈ l.map asTk, Fits t := by
  obtain ⟨h1, h2, _⟩ := told_ok h
  have hw := Lx.wf_of_lex h2
  refine fits_tok l fun t ht => ⟨?_, ?_, ?_⟩
  · have := wf_kinds hw t ht; omega
  · have := wf_kinds2 hw t ht; omega
  · have := mem_len (x := Lx.start) (l := s.data.toList) (t := t) (by rw [h2]; exact ht)
    rw [lst_len] at this
    omega
end Go.Proofs.YtmoamfcaokefiaaGreatDoor.it

/-
  The document's plain, text, Notes of items; the law's many.
-/
namespace Go.Proofs.YtmoamfcaokefiaaGreatDoor.it
open Go.RowKit Go.Shelf
open sg (lst_len OpsAt)
open lx
set_option linter.unusedVariables false

set_option maxHeartbeats 1000000 in
theorem rplain_calls (k : Int) (tx : ByteArray) (w : World) : Calls Tryz.prog 58 #[.agg #[.int .i64 k, .string tx]] w fun e w' => e = .returned (.bool (!idleB k)) ∧ Below w.heap.size w w' := by
  have hb : Below w.heap.size w (w.alloc (.cells #[.int .i64 k, .string tx] 24)) := (Below.refl _ w).alloc (Nat.le_refl _) _
  have HB := Lib.hid hb
  clear hb
  by_cases h1 : k = 1
  · subst h1
    go_enter Tryz.func58, Tryz.ntmps58
    go_wp2_with fail
    go_ret
    exact ⟨rfl, HB.out⟩
  · have e1 : (k == 1) = false := beq_eq_false_iff_ne.2 h1
    have n1 : (k != 1) = true := bne_iff_ne.2 h1
    by_cases h2 : k = 2
    · subst h2
      go_enter Tryz.func58, Tryz.ntmps58
      go_wp2_with fail
      go_ret
      exact ⟨rfl, HB.out⟩
    · have e2 : (k == 2) = false := beq_eq_false_iff_ne.2 h2
      have n2 : (k != 2) = true := bne_iff_ne.2 h2
      have HX := Lib.hid (show idleB k = false by unfold idleB; rw [e1, e2]; rfl)
      go_enter Tryz.func58, Tryz.ntmps58
      go_wp2_with fail
      go_ret
      exact ⟨by rw [HX.out]; rfl, HB.out⟩
set_option maxHeartbeats 1000000 in
theorem rtext_calls (k : Int) (tx : ByteArray) (w : World) : Calls Tryz.prog 59 #[.agg #[.int .i64 k, .string tx]] w fun e w' => e = .returned (.bool (strB k)) ∧ Below w.heap.size w w' := by
  have hb : Below w.heap.size w (w.alloc (.cells #[.int .i64 k, .string tx] 24)) := (Below.refl _ w).alloc (Nat.le_refl _) _
  have HB := Lib.hid hb
  clear hb
  by_cases h1 : 7 ≤ k
  · have e1 : decide (7 ≤ k) = true := decide_eq_true h1
    by_cases h2 : k ≤ 11
    · have e2 : decide (k ≤ 11) = true := decide_eq_true h2
      have HX := Lib.hid (show strB k = true by unfold strB; rw [e1, e2]; rfl)
      go_enter Tryz.func59, Tryz.ntmps59
      go_wp2_with fail
      go_ret
      exact ⟨by rw [HX.out]; rfl, HB.out⟩
    · have e2 : decide (k ≤ 11) = false := decide_eq_false h2
      have HX := Lib.hid (show strB k = false by unfold strB; rw [e1, e2]; rfl)
      go_enter Tryz.func59, Tryz.ntmps59
      go_wp2_with fail
      go_ret
      exact ⟨by rw [HX.out]; rfl, HB.out⟩
  · have e1 : decide (7 ≤ k) = false := decide_eq_false h1
    have HX := Lib.hid (show strB k = false by unfold strB; rw [e1]; rfl)
    go_enter Tryz.func59, Tryz.ntmps59
    go_wp2_with fail
    go_ret
    exact ⟨by rw [HX.out]; rfl, HB.out⟩

set_option maxRecDepth 100000 in
set_option maxHeartbeats 4000000 in
theorem rnotes_calls (v : Value) (ts : List Tk) (w : World) (n : Nat) (h : TksAt n w v ts) (hl : ts.length ≤ 1000000000000) :
    Calls Tryz.prog 32 #[v] w fun e w' => ∃ u, e = .returned u ∧ w'.ownsRow w.heap.size 9 1 u (notesU ts).length (strs (notesU ts)) ∧ Below w.heap.size w w' := by
  obtain ⟨ao, cap, rfl, hm, hc⟩ := h
  obtain ⟨i0, hi, hz0, hz1, hz2⟩ := info_parts infoStr
  go_enter Tryz.func32, Tryz.ntmps32
  go_wp2
  go_loopw [3, 4] (fun o i wr => ∃ k : Nat, k ≤ ts.length ∧ i = .int .i64 (k : Int) ∧ wr.ownsRow w.heap.size 9 1 o (notesU (ts.take k)).length (strs (notesU (ts.take k))) ∧ Below w.heap.size w wr) (fun _ i _ => ts.length - (intOf i).toNat)
  case atStart => exact ⟨0, Nat.zero_le _, rfl, World.ownsRow_nil _ _ _ _, Below.refl _ _⟩
  case round =>
    obtain ⟨k, hk, rfl, ho, hb⟩ := hrel
    by_cases hlt : k < ts.length
    · obtain ⟨t, ht⟩ : ∃ t, ts[k]? = some t := ⟨_, List.getElem?_eq_getElem hlt⟩
      obtain ⟨g, off, rfl, hg, c0, c1⟩ := hc k t ht
      have hgw := World.block_lt_of_cell? w _ c0
      have d0 := (hb.cell (p := ⟨g, off + k * 2, none⟩) hgw).trans c0
      have d1 := (hb.cell (p := ⟨g, off + k * 2 + 1, none⟩) hgw).trans c1
      have hlt1 : (k : Int) < (ts.length : Int) := by omega
      have htk := take_snoc ts k t ht
      have hnl := notesU_len (ts.take k)
      rw [List.length_take] at hnl
      have hsb : w.heap.size ≤ wr.heap.size := hb.size
      obtain ⟨xs, hxs⟩ : ∃ xs, notesU (ts.take k) = xs := ⟨_, rfl⟩
      rw [hxs] at ho hnl
      by_cases h2 : t.1 = 2
      · have hn := notesU_yes (ts.take k) t h2
        rw [← htk, hxs] at hn
        rw [h2] at d0
        have HN := Lib.hid hn; have HB2 := Lib.hid hb; have HO2 := Lib.hid ho
        obtain ⟨a3, l3, c3, rfl⟩ := own_slice ho
        clear hn htk hxs hb ho c0 c1 h2 ht
        go_wp2_with (at_builtin; refine wpList_append_own _ rfl _ _ 34 rfl w.heap.size 9 i0 (.string ⟨#[]⟩) 1 16 Tryz.underlying34 hi hz0 hz1 hz2 rfl (by decide) _ _ _ rfl (HO2.out.alloc _) ⟨wr.heap.size, 0, none⟩ 1 1 [.string t.2] rfl rfl (str_new _ _ _) (by simp [Value.oneCell']) (by unfold maxLen; omega) (by omega) (by simp; omega) ?_; intro v' w3 hown' hgrow _)
        have hb4 : Below w.heap.size w w3 := (HB2.out.alloc HB2.out.size (.cells #[.string t.2] 9)).grown hgrow (by simp; omega) (fun j ej => (HO2.out.lt j ej).1)
        exact ⟨⟨k + 1, by omega, rfl, by rw [HN.out, strs_snoc, List.length_append]; exact hown', hb4⟩, by simp [intOf]; omega⟩
      · have hn := notesU_no (ts.take k) t h2
        rw [← htk, hxs] at hn
        have hq : (t.1 == 2) = false := by rw [beq_eq_false_iff_ne]; exact h2
        have hq2 : decide (t.1 = 2) = false := decide_eq_false h2
        have HN := Lib.hid hn; have HB2 := Lib.hid hb; have HO2 := Lib.hid ho
        clear hn htk hxs hb ho c0 c1 h2 ht
        go_wp2_with fail
        exact ⟨⟨k + 1, by omega, rfl, by rw [HN.out]; exact HO2.out, HB2.out⟩, by simp [intOf]; omega⟩
    · obtain rfl : k = ts.length := by omega
      have hge : decide ((ts.length : Int) < (ts.length : Int)) = false := by simp
      have HO := Lib.hid ho
      obtain ⟨a3, l3, c3, rfl⟩ := own_slice ho
      clear ho
      go_wp2_with fail
      go_ret
      exact ⟨_, rfl, by have := HO.out; rwa [List.take_length] at this, hb⟩

set_option maxRecDepth 100000 in
set_option maxHeartbeats 4000000 in
theorem many5_calls (v : Value) (ts : List Tk) (w : World) (n : Nat) (h : TksAt n w v ts) (hs : manyT ts ≤ 1048576) :
    Calls Tryz.prog 10 #[v] w fun e w' => e = .returned (.bool (decide (300 < (manyT ts : Int)))) ∧ Below w.heap.size w w' := by
  obtain ⟨ao, cap, rfl, hm, hc⟩ := h
  unfold maxLen at hm
  go_enter Tryz.func10, Tryz.ntmps10
  go_wp2
  go_loopw [3, 4] (fun s i wr => ∃ k : Nat, k ≤ ts.length ∧ i = .int .i64 (k : Int) ∧ s = .int .i64 (manyT (ts.take k) : Int) ∧ Below w.heap.size w wr) (fun _ i _ => ts.length - (intOf i).toNat)
  case atStart => exact ⟨0, Nat.zero_le _, rfl, rfl, Below.refl _ _⟩
  case round =>
    obtain ⟨k, hk, rfl, rfl, hb⟩ := hrel
    by_cases hlt : k < ts.length
    · obtain ⟨t, ht⟩ : ∃ t, ts[k]? = some t := ⟨_, List.getElem?_eq_getElem hlt⟩
      obtain ⟨g, off, rfl, hg, c0, c1⟩ := hc k t ht
      have hgw := World.block_lt_of_cell? w _ c0
      have d1 := (hb.cell (p := ⟨g, off + k * 2 + 1, none⟩) hgw).trans c1
      have hlt1 : (k : Int) < (ts.length : Int) := by omega
      have hsn := manyT_snoc (ts.take k) t
      rw [← take_snoc ts k t ht] at hsn
      have hle := manyT_take ts (k + 1)
      obtain ⟨m0, hm0⟩ : ∃ m, manyT (ts.take k) = m := ⟨_, rfl⟩
      obtain ⟨m1, hm1⟩ : ∃ m, manyT (ts.take (k + 1)) = m := ⟨_, rfl⟩
      obtain ⟨sz, hsz⟩ : ∃ m, t.2.size = m := ⟨_, rfl⟩
      obtain ⟨x1, hx1⟩ : ∃ x, 1 + sz = x := ⟨_, rfl⟩
      rw [hm1] at hle
      rw [hm0, hm1, hsz] at hsn
      rw [hm0]
      have HM1 := Lib.hid hm1
      have hq1 : wrap64 (1 + (sz : Int)) = (x1 : Int) := by rw [IntWalk.wrap64_in _ (by omega)]; omega
      have hq1' : IntKind.i64.wrap (1 + (sz : Int)) = (x1 : Int) := (IntWalk.i64_left _).trans hq1
      have hsx : m0 + x1 = m1 := by omega
      have hq2 : wrap64 ((m0 : Int) + (x1 : Int)) = (m1 : Int) := mw hsx (by omega)
      have hq2' : IntKind.i64.wrap ((m0 : Int) + (x1 : Int)) = (m1 : Int) := (IntWalk.i64_left _).trans hq2
      have HB := Lib.hid hb
      clear hsn hle hm0 hm1 hx1 hsx hb c0 c1 hs
      go_wp2_with fail
      exact ⟨⟨k + 1, by omega, rfl, by rw [HM1.out], HB.out⟩, by simp [intOf]; omega⟩
    · obtain rfl : k = ts.length := by omega
      have hge : decide ((ts.length : Int) < (ts.length : Int)) = false := by simp
      rw [List.take_length]
      go_wp2_with fail
      go_ret
      exact ⟨rfl, hb⟩
end Go.Proofs.YtmoamfcaokefiaaGreatDoor.it

/-
  The document's Tight of items: its contract.
-/
namespace Go.Proofs.YtmoamfcaokefiaaGreatDoor.it
open Go.RowKit Go.Shelf
open sg (lst_len OpsAt)
open lx
set_option linter.unusedVariables false

theorem rtwo_box (w3 : World) (ka kb : Int) (tA tB : ByteArray) (w4 : World) (hw4 : (w3.alloc (.cells #[.int .i64 ka, .string tA] 24)).alloc (.cells #[.int .i64 kb, .string tB] 24) = w4) :
    Below w3.heap.size w3 w4 ∧ sx.Blk w4 w3.heap.size 24 #[.int .i64 ka, .string tA] ∧ sx.Blk w4 (w3.heap.size + 1) 24 #[.int .i64 kb, .string tB] := by
  subst hw4
  refine ⟨((Below.refl _ w3).alloc (Nat.le_refl _) _).alloc (by simp) _, (sx.Blk.new w3 _ _).alloc _, ?_⟩
  have := sx.Blk.new (w3.alloc (.cells #[.int .i64 ka, .string tA] 24)) 24 #[.int .i64 kb, .string tB]
  simpa using this
theorem txt58 (s : ByteArray) : (s.toList == [58]) = decide (s.data.toList = [58]) := by
  rw [Lib.toList_data, Bool.eq_iff_iff]; simp
theorem two_rows (w : World) (ka kb : Int) (ta tb : ByteArray) : TksAt (w.alloc (.cells #[.int .i64 ka, .string ta, .int .i64 kb, .string tb] 24)).heap.size (w.alloc (.cells #[.int .i64 ka, .string ta, .int .i64 kb, .string tb] 24)) (.slice (some ⟨w.heap.size, 0, none⟩) 2 2) [(ka, ta), (kb, tb)] := two_at (sx.Blk.new w _ _)
set_option maxRecDepth 100000 in
set_option maxHeartbeats 8000000 in
theorem rtight_ia (ka kb : Int) (ta tb : ByteArray) (w : World) (hs : ta.size + tb.size ≤ 1000) (hia : idleB ka = true) 
    (hres : tightB (ka, ta) (kb, tb) = false) :
    Calls Tryz.prog 29 #[.agg #[.int .i64 ka, .string ta], .agg #[.int .i64 kb, .string tb]] w fun e w' => e = .returned (.bool (tightB (ka, ta) (kb, tb))) ∧ Below w.heap.size w w' := by
  have hpa := fun w => rplain_calls ka ta w
  simp only [hia, Bool.not_true] at hpa
  have HX := Lib.hid hres
  clear hres hs
  obtain ⟨W1, hW1⟩ : ∃ W1, (w.alloc (.cells #[.int .i64 ka, .string ta] 24)).alloc (.cells #[.int .i64 kb, .string tb] 24) = W1 := ⟨_, rfl⟩
  obtain ⟨hb1, k01, k11⟩ := rtwo_box w ka kb ta tb W1 hW1
  have c0 : W1.cell? ⟨w.heap.size, 0, none⟩ = some (.int .i64 ka) := k01.cell 0
  have c1 : W1.cell? ⟨w.heap.size, 1, none⟩ = some (.string ta) := k01.cell 1
  have c2 : W1.cell? ⟨w.heap.size + 1, 0, none⟩ = some (.int .i64 kb) := k11.cell 0
  have c3 : W1.cell? ⟨w.heap.size + 1, 1, none⟩ = some (.string tb) := k11.cell 1
  have K01 := Lib.hid k01; have K11 := Lib.hid k11; have HB1 := Lib.hid hb1
  clear hb1 k01 k11
  go_enter Tryz.func29, Tryz.ntmps29
  go_wp2_with fail
  ((with_reducible refine (hpa _).mono ?_); rintro _ w2 ⟨rfl, hb2⟩)
  have k02 := K01.out.own hb2
  have k12 := K11.out.own hb2
  have HB2 := Lib.hid (sg.Below.next HB1.out hb2 (Nat.le_refl _))
  clear c0 c1 c2 c3 hW1
  have c0 : w2.cell? ⟨w.heap.size, 0, none⟩ = some (.int .i64 ka) := k02.cell 0
  have c1 : w2.cell? ⟨w.heap.size, 1, none⟩ = some (.string ta) := k02.cell 1
  have c2 : w2.cell? ⟨w.heap.size + 1, 0, none⟩ = some (.int .i64 kb) := k12.cell 0
  have c3 : w2.cell? ⟨w.heap.size + 1, 1, none⟩ = some (.string tb) := k12.cell 1
  have K02 := Lib.hid k02; have K12 := Lib.hid k12
  clear hb2 k02 k12
  go_wp2_with fail
  go_ret
  exact ⟨by rw [HX.out]; rfl, HB2.out⟩
set_option maxRecDepth 100000 in
set_option maxHeartbeats 8000000 in
theorem rtight_ib (ka kb : Int) (ta tb : ByteArray) (w : World) (hs : ta.size + tb.size ≤ 1000) (hia : idleB ka = false) (hib : idleB kb = true) 
    (hres : tightB (ka, ta) (kb, tb) = false) :
    Calls Tryz.prog 29 #[.agg #[.int .i64 ka, .string ta], .agg #[.int .i64 kb, .string tb]] w fun e w' => e = .returned (.bool (tightB (ka, ta) (kb, tb))) ∧ Below w.heap.size w w' := by
  have hpa := fun w => rplain_calls ka ta w
  simp only [hia, Bool.not_false] at hpa
  have hpb := fun w => rplain_calls kb tb w
  simp only [hib, Bool.not_true] at hpb
  have HX := Lib.hid hres
  clear hres hs
  obtain ⟨W1, hW1⟩ : ∃ W1, (w.alloc (.cells #[.int .i64 ka, .string ta] 24)).alloc (.cells #[.int .i64 kb, .string tb] 24) = W1 := ⟨_, rfl⟩
  obtain ⟨hb1, k01, k11⟩ := rtwo_box w ka kb ta tb W1 hW1
  have c0 : W1.cell? ⟨w.heap.size, 0, none⟩ = some (.int .i64 ka) := k01.cell 0
  have c1 : W1.cell? ⟨w.heap.size, 1, none⟩ = some (.string ta) := k01.cell 1
  have c2 : W1.cell? ⟨w.heap.size + 1, 0, none⟩ = some (.int .i64 kb) := k11.cell 0
  have c3 : W1.cell? ⟨w.heap.size + 1, 1, none⟩ = some (.string tb) := k11.cell 1
  have K01 := Lib.hid k01; have K11 := Lib.hid k11; have HB1 := Lib.hid hb1
  clear hb1 k01 k11
  go_enter Tryz.func29, Tryz.ntmps29
  go_wp2_with fail
  ((with_reducible refine (hpa _).mono ?_); rintro _ w2 ⟨rfl, hb2⟩)
  have k02 := K01.out.own hb2
  have k12 := K11.out.own hb2
  have HB2 := Lib.hid (sg.Below.next HB1.out hb2 (Nat.le_refl _))
  clear c0 c1 c2 c3 hW1
  have c0 : w2.cell? ⟨w.heap.size, 0, none⟩ = some (.int .i64 ka) := k02.cell 0
  have c1 : w2.cell? ⟨w.heap.size, 1, none⟩ = some (.string ta) := k02.cell 1
  have c2 : w2.cell? ⟨w.heap.size + 1, 0, none⟩ = some (.int .i64 kb) := k12.cell 0
  have c3 : w2.cell? ⟨w.heap.size + 1, 1, none⟩ = some (.string tb) := k12.cell 1
  have K02 := Lib.hid k02; have K12 := Lib.hid k12
  clear hb2 k02 k12
  go_wp2_with fail
  ((with_reducible refine (hpb _).mono ?_); rintro _ w3 ⟨rfl, hb3⟩)
  have k03 := K02.out.own hb3
  have k13 := K12.out.own hb3
  have HB3 := Lib.hid (sg.Below.next HB2.out hb3 (Nat.le_refl _))
  clear c0 c1 c2 c3
  have c0 : w3.cell? ⟨w.heap.size, 0, none⟩ = some (.int .i64 ka) := k03.cell 0
  have c1 : w3.cell? ⟨w.heap.size, 1, none⟩ = some (.string ta) := k03.cell 1
  have c2 : w3.cell? ⟨w.heap.size + 1, 0, none⟩ = some (.int .i64 kb) := k13.cell 0
  have c3 : w3.cell? ⟨w.heap.size + 1, 1, none⟩ = some (.string tb) := k13.cell 1
  have K03 := Lib.hid k03; have K13 := Lib.hid k13
  clear hb3 k03 k13
  go_wp2_with fail
  go_ret
  exact ⟨by rw [HX.out]; rfl, HB3.out⟩
set_option maxRecDepth 100000 in
set_option maxHeartbeats 8000000 in
theorem rtight_n3 (ka kb : Int) (ta tb : ByteArray) (w : World) (hs : ta.size + tb.size ≤ 1000) (hia : idleB ka = false) (hib : idleB kb = false) (ha6 : ka = 6) (hb6 : kb = 6) 
    (hres : tightB (ka, ta) (kb, tb) = false) :
    Calls Tryz.prog 29 #[.agg #[.int .i64 ka, .string ta], .agg #[.int .i64 kb, .string tb]] w fun e w' => e = .returned (.bool (tightB (ka, ta) (kb, tb))) ∧ Below w.heap.size w w' := by
  have hpa := fun w => rplain_calls ka ta w
  simp only [hia, Bool.not_false] at hpa
  have hpb := fun w => rplain_calls kb tb w
  simp only [hib, Bool.not_false] at hpb
  have a6 : (ka == 6) = true := beq_iff_eq.2 ha6
  have b6 : (kb == 6) = true := beq_iff_eq.2 hb6
  clear ha6 hb6
  have HX := Lib.hid hres
  clear hres hs
  obtain ⟨W1, hW1⟩ : ∃ W1, (w.alloc (.cells #[.int .i64 ka, .string ta] 24)).alloc (.cells #[.int .i64 kb, .string tb] 24) = W1 := ⟨_, rfl⟩
  obtain ⟨hb1, k01, k11⟩ := rtwo_box w ka kb ta tb W1 hW1
  have c0 : W1.cell? ⟨w.heap.size, 0, none⟩ = some (.int .i64 ka) := k01.cell 0
  have c1 : W1.cell? ⟨w.heap.size, 1, none⟩ = some (.string ta) := k01.cell 1
  have c2 : W1.cell? ⟨w.heap.size + 1, 0, none⟩ = some (.int .i64 kb) := k11.cell 0
  have c3 : W1.cell? ⟨w.heap.size + 1, 1, none⟩ = some (.string tb) := k11.cell 1
  have K01 := Lib.hid k01; have K11 := Lib.hid k11; have HB1 := Lib.hid hb1
  clear hb1 k01 k11
  go_enter Tryz.func29, Tryz.ntmps29
  go_wp2_with fail
  ((with_reducible refine (hpa _).mono ?_); rintro _ w2 ⟨rfl, hb2⟩)
  have k02 := K01.out.own hb2
  have k12 := K11.out.own hb2
  have HB2 := Lib.hid (sg.Below.next HB1.out hb2 (Nat.le_refl _))
  clear c0 c1 c2 c3 hW1
  have c0 : w2.cell? ⟨w.heap.size, 0, none⟩ = some (.int .i64 ka) := k02.cell 0
  have c1 : w2.cell? ⟨w.heap.size, 1, none⟩ = some (.string ta) := k02.cell 1
  have c2 : w2.cell? ⟨w.heap.size + 1, 0, none⟩ = some (.int .i64 kb) := k12.cell 0
  have c3 : w2.cell? ⟨w.heap.size + 1, 1, none⟩ = some (.string tb) := k12.cell 1
  have K02 := Lib.hid k02; have K12 := Lib.hid k12
  clear hb2 k02 k12
  go_wp2_with fail
  ((with_reducible refine (hpb _).mono ?_); rintro _ w3 ⟨rfl, hb3⟩)
  have k03 := K02.out.own hb3
  have k13 := K12.out.own hb3
  have HB3 := Lib.hid (sg.Below.next HB2.out hb3 (Nat.le_refl _))
  clear c0 c1 c2 c3
  have c0 : w3.cell? ⟨w.heap.size, 0, none⟩ = some (.int .i64 ka) := k03.cell 0
  have c1 : w3.cell? ⟨w.heap.size, 1, none⟩ = some (.string ta) := k03.cell 1
  have c2 : w3.cell? ⟨w.heap.size + 1, 0, none⟩ = some (.int .i64 kb) := k13.cell 0
  have c3 : w3.cell? ⟨w.heap.size + 1, 1, none⟩ = some (.string tb) := k13.cell 1
  have K03 := Lib.hid k03; have K13 := Lib.hid k13
  clear hb3 k03 k13
  go_wp2_with fail
  go_ret
  exact ⟨by rw [HX.out]; rfl, HB3.out⟩
set_option maxRecDepth 100000 in
set_option maxHeartbeats 8000000 in
theorem rtight_n4 (ka kb : Int) (ta tb : ByteArray) (w : World) (hs : ta.size + tb.size ≤ 1000) (hia : idleB ka = false) (hib : idleB kb = false) (ha6 : ka = 6) (hb6 : kb ≠ 6) (hb3 : kb = 3) 
    (hres : tightB (ka, ta) (kb, tb) = false) :
    Calls Tryz.prog 29 #[.agg #[.int .i64 ka, .string ta], .agg #[.int .i64 kb, .string tb]] w fun e w' => e = .returned (.bool (tightB (ka, ta) (kb, tb))) ∧ Below w.heap.size w w' := by
  have hpa := fun w => rplain_calls ka ta w
  simp only [hia, Bool.not_false] at hpa
  have hpb := fun w => rplain_calls kb tb w
  simp only [hib, Bool.not_false] at hpb
  have a6 : (ka == 6) = true := beq_iff_eq.2 ha6
  have b6 : (kb == 6) = false := beq_eq_false_iff_ne.2 hb6
  have b3 : (kb == 3) = true := beq_iff_eq.2 hb3
  clear ha6 hb6 hb3
  have HX := Lib.hid hres
  clear hres hs
  obtain ⟨W1, hW1⟩ : ∃ W1, (w.alloc (.cells #[.int .i64 ka, .string ta] 24)).alloc (.cells #[.int .i64 kb, .string tb] 24) = W1 := ⟨_, rfl⟩
  obtain ⟨hb1, k01, k11⟩ := rtwo_box w ka kb ta tb W1 hW1
  have c0 : W1.cell? ⟨w.heap.size, 0, none⟩ = some (.int .i64 ka) := k01.cell 0
  have c1 : W1.cell? ⟨w.heap.size, 1, none⟩ = some (.string ta) := k01.cell 1
  have c2 : W1.cell? ⟨w.heap.size + 1, 0, none⟩ = some (.int .i64 kb) := k11.cell 0
  have c3 : W1.cell? ⟨w.heap.size + 1, 1, none⟩ = some (.string tb) := k11.cell 1
  have K01 := Lib.hid k01; have K11 := Lib.hid k11; have HB1 := Lib.hid hb1
  clear hb1 k01 k11
  go_enter Tryz.func29, Tryz.ntmps29
  go_wp2_with fail
  ((with_reducible refine (hpa _).mono ?_); rintro _ w2 ⟨rfl, hb2⟩)
  have k02 := K01.out.own hb2
  have k12 := K11.out.own hb2
  have HB2 := Lib.hid (sg.Below.next HB1.out hb2 (Nat.le_refl _))
  clear c0 c1 c2 c3 hW1
  have c0 : w2.cell? ⟨w.heap.size, 0, none⟩ = some (.int .i64 ka) := k02.cell 0
  have c1 : w2.cell? ⟨w.heap.size, 1, none⟩ = some (.string ta) := k02.cell 1
  have c2 : w2.cell? ⟨w.heap.size + 1, 0, none⟩ = some (.int .i64 kb) := k12.cell 0
  have c3 : w2.cell? ⟨w.heap.size + 1, 1, none⟩ = some (.string tb) := k12.cell 1
  have K02 := Lib.hid k02; have K12 := Lib.hid k12
  clear hb2 k02 k12
  go_wp2_with fail
  ((with_reducible refine (hpb _).mono ?_); rintro _ w3 ⟨rfl, hb3⟩)
  have k03 := K02.out.own hb3
  have k13 := K12.out.own hb3
  have HB3 := Lib.hid (sg.Below.next HB2.out hb3 (Nat.le_refl _))
  clear c0 c1 c2 c3
  have c0 : w3.cell? ⟨w.heap.size, 0, none⟩ = some (.int .i64 ka) := k03.cell 0
  have c1 : w3.cell? ⟨w.heap.size, 1, none⟩ = some (.string ta) := k03.cell 1
  have c2 : w3.cell? ⟨w.heap.size + 1, 0, none⟩ = some (.int .i64 kb) := k13.cell 0
  have c3 : w3.cell? ⟨w.heap.size + 1, 1, none⟩ = some (.string tb) := k13.cell 1
  have K03 := Lib.hid k03; have K13 := Lib.hid k13
  clear hb3 k03 k13
  go_wp2_with fail
  go_ret
  exact ⟨by rw [HX.out]; rfl, HB3.out⟩
set_option maxRecDepth 100000 in
set_option maxHeartbeats 8000000 in
theorem rtight_c5 (ka kb : Int) (ta tb : ByteArray) (w : World) (hs : ta.size + tb.size ≤ 1000) (hia : idleB ka = false) (hib : idleB kb = false) (ha6 : ka ≠ 6) (ha13 : ka = 13) (hb13 : kb = 13) (htA : ta.data.toList = [58]) (htB : tb.data.toList = [58]) 
    (hres : tightB (ka, ta) (kb, tb) = false) :
    Calls Tryz.prog 29 #[.agg #[.int .i64 ka, .string ta], .agg #[.int .i64 kb, .string tb]] w fun e w' => e = .returned (.bool (tightB (ka, ta) (kb, tb))) ∧ Below w.heap.size w w' := by
  have hpa := fun w => rplain_calls ka ta w
  simp only [hia, Bool.not_false] at hpa
  have hpb := fun w => rplain_calls kb tb w
  simp only [hib, Bool.not_false] at hpb
  have a6 : (ka == 6) = false := beq_eq_false_iff_ne.2 ha6
  have a13 : (ka == 13) = true := beq_iff_eq.2 ha13
  have b13 : (kb == 13) = true := beq_iff_eq.2 hb13
  have tA : (ta.toList == [58]) = true := (txt58 _).trans (decide_eq_true htA)
  have tB : (tb.toList == [58]) = true := (txt58 _).trans (decide_eq_true htB)
  clear ha6 ha13 hb13 htA htB
  have HX := Lib.hid hres
  clear hres hs
  obtain ⟨W1, hW1⟩ : ∃ W1, (w.alloc (.cells #[.int .i64 ka, .string ta] 24)).alloc (.cells #[.int .i64 kb, .string tb] 24) = W1 := ⟨_, rfl⟩
  obtain ⟨hb1, k01, k11⟩ := rtwo_box w ka kb ta tb W1 hW1
  have c0 : W1.cell? ⟨w.heap.size, 0, none⟩ = some (.int .i64 ka) := k01.cell 0
  have c1 : W1.cell? ⟨w.heap.size, 1, none⟩ = some (.string ta) := k01.cell 1
  have c2 : W1.cell? ⟨w.heap.size + 1, 0, none⟩ = some (.int .i64 kb) := k11.cell 0
  have c3 : W1.cell? ⟨w.heap.size + 1, 1, none⟩ = some (.string tb) := k11.cell 1
  have K01 := Lib.hid k01; have K11 := Lib.hid k11; have HB1 := Lib.hid hb1
  clear hb1 k01 k11
  go_enter Tryz.func29, Tryz.ntmps29
  go_wp2_with fail
  ((with_reducible refine (hpa _).mono ?_); rintro _ w2 ⟨rfl, hb2⟩)
  have k02 := K01.out.own hb2
  have k12 := K11.out.own hb2
  have HB2 := Lib.hid (sg.Below.next HB1.out hb2 (Nat.le_refl _))
  clear c0 c1 c2 c3 hW1
  have c0 : w2.cell? ⟨w.heap.size, 0, none⟩ = some (.int .i64 ka) := k02.cell 0
  have c1 : w2.cell? ⟨w.heap.size, 1, none⟩ = some (.string ta) := k02.cell 1
  have c2 : w2.cell? ⟨w.heap.size + 1, 0, none⟩ = some (.int .i64 kb) := k12.cell 0
  have c3 : w2.cell? ⟨w.heap.size + 1, 1, none⟩ = some (.string tb) := k12.cell 1
  have K02 := Lib.hid k02; have K12 := Lib.hid k12
  clear hb2 k02 k12
  go_wp2_with fail
  ((with_reducible refine (hpb _).mono ?_); rintro _ w3 ⟨rfl, hb3⟩)
  have k03 := K02.out.own hb3
  have k13 := K12.out.own hb3
  have HB3 := Lib.hid (sg.Below.next HB2.out hb3 (Nat.le_refl _))
  clear c0 c1 c2 c3
  have c0 : w3.cell? ⟨w.heap.size, 0, none⟩ = some (.int .i64 ka) := k03.cell 0
  have c1 : w3.cell? ⟨w.heap.size, 1, none⟩ = some (.string ta) := k03.cell 1
  have c2 : w3.cell? ⟨w.heap.size + 1, 0, none⟩ = some (.int .i64 kb) := k13.cell 0
  have c3 : w3.cell? ⟨w.heap.size + 1, 1, none⟩ = some (.string tb) := k13.cell 1
  have K03 := Lib.hid k03; have K13 := Lib.hid k13
  clear hb3 k03 k13
  go_wp2_with fail
  go_ret
  exact ⟨by rw [HX.out]; rfl, HB3.out⟩
set_option maxRecDepth 100000 in
set_option maxHeartbeats 8000000 in
theorem rtight_n1c1S (ka kb : Int) (ta tb : ByteArray) (w : World) (hs : ta.size + tb.size ≤ 1000) (hia : idleB ka = false) (hib : idleB kb = false) (ha6 : ka ≠ 6) (ha13 : ka ≠ 13) (hsa : strB ka = true) 
    (hres : tightB (ka, ta) (kb, tb) = true) :
    Calls Tryz.prog 29 #[.agg #[.int .i64 ka, .string ta], .agg #[.int .i64 kb, .string tb]] w fun e w' => e = .returned (.bool (tightB (ka, ta) (kb, tb))) ∧ Below w.heap.size w w' := by
  have hpa := fun w => rplain_calls ka ta w
  simp only [hia, Bool.not_false] at hpa
  have hpb := fun w => rplain_calls kb tb w
  simp only [hib, Bool.not_false] at hpb
  have hxa := fun w => rtext_calls ka ta w
  simp only [hsa] at hxa
  have a6 : (ka == 6) = false := beq_eq_false_iff_ne.2 ha6
  have a13 : (ka == 13) = false := beq_eq_false_iff_ne.2 ha13
  clear ha6 ha13
  have HX := Lib.hid hres
  clear hres hs
  obtain ⟨W1, hW1⟩ : ∃ W1, (w.alloc (.cells #[.int .i64 ka, .string ta] 24)).alloc (.cells #[.int .i64 kb, .string tb] 24) = W1 := ⟨_, rfl⟩
  obtain ⟨hb1, k01, k11⟩ := rtwo_box w ka kb ta tb W1 hW1
  have c0 : W1.cell? ⟨w.heap.size, 0, none⟩ = some (.int .i64 ka) := k01.cell 0
  have c1 : W1.cell? ⟨w.heap.size, 1, none⟩ = some (.string ta) := k01.cell 1
  have c2 : W1.cell? ⟨w.heap.size + 1, 0, none⟩ = some (.int .i64 kb) := k11.cell 0
  have c3 : W1.cell? ⟨w.heap.size + 1, 1, none⟩ = some (.string tb) := k11.cell 1
  have K01 := Lib.hid k01; have K11 := Lib.hid k11; have HB1 := Lib.hid hb1
  clear hb1 k01 k11
  go_enter Tryz.func29, Tryz.ntmps29
  go_wp2_with fail
  ((with_reducible refine (hpa _).mono ?_); rintro _ w2 ⟨rfl, hb2⟩)
  have k02 := K01.out.own hb2
  have k12 := K11.out.own hb2
  have HB2 := Lib.hid (sg.Below.next HB1.out hb2 (Nat.le_refl _))
  clear c0 c1 c2 c3 hW1
  have c0 : w2.cell? ⟨w.heap.size, 0, none⟩ = some (.int .i64 ka) := k02.cell 0
  have c1 : w2.cell? ⟨w.heap.size, 1, none⟩ = some (.string ta) := k02.cell 1
  have c2 : w2.cell? ⟨w.heap.size + 1, 0, none⟩ = some (.int .i64 kb) := k12.cell 0
  have c3 : w2.cell? ⟨w.heap.size + 1, 1, none⟩ = some (.string tb) := k12.cell 1
  have K02 := Lib.hid k02; have K12 := Lib.hid k12
  clear hb2 k02 k12
  go_wp2_with fail
  ((with_reducible refine (hpb _).mono ?_); rintro _ w3 ⟨rfl, hb3⟩)
  have k03 := K02.out.own hb3
  have k13 := K12.out.own hb3
  have HB3 := Lib.hid (sg.Below.next HB2.out hb3 (Nat.le_refl _))
  clear c0 c1 c2 c3
  have c0 : w3.cell? ⟨w.heap.size, 0, none⟩ = some (.int .i64 ka) := k03.cell 0
  have c1 : w3.cell? ⟨w.heap.size, 1, none⟩ = some (.string ta) := k03.cell 1
  have c2 : w3.cell? ⟨w.heap.size + 1, 0, none⟩ = some (.int .i64 kb) := k13.cell 0
  have c3 : w3.cell? ⟨w.heap.size + 1, 1, none⟩ = some (.string tb) := k13.cell 1
  have K03 := Lib.hid k03; have K13 := Lib.hid k13
  clear hb3 k03 k13
  go_wp2_with fail
  ((with_reducible refine (hxa _).mono ?_); rintro _ w4 ⟨rfl, hb4⟩)
  have k04 := K03.out.own hb4
  have k14 := K13.out.own hb4
  have HB4 := Lib.hid (sg.Below.next HB3.out hb4 (Nat.le_refl _))
  clear c0 c1 c2 c3
  have c0 : w4.cell? ⟨w.heap.size, 0, none⟩ = some (.int .i64 ka) := k04.cell 0
  have c1 : w4.cell? ⟨w.heap.size, 1, none⟩ = some (.string ta) := k04.cell 1
  have c2 : w4.cell? ⟨w.heap.size + 1, 0, none⟩ = some (.int .i64 kb) := k14.cell 0
  have c3 : w4.cell? ⟨w.heap.size + 1, 1, none⟩ = some (.string tb) := k14.cell 1
  have K04 := Lib.hid k04; have K14 := Lib.hid k14
  clear hb4 k04 k14
  go_wp2_with fail
  go_ret
  exact ⟨by rw [HX.out]; rfl, HB4.out⟩
set_option maxRecDepth 100000 in
set_option maxHeartbeats 8000000 in
theorem rtight_n1c1T (ka kb : Int) (ta tb : ByteArray) (w : World) (hs : ta.size + tb.size ≤ 1000) (hia : idleB ka = false) (hib : idleB kb = false) (ha6 : ka ≠ 6) (ha13 : ka ≠ 13) (hsa : strB ka = false) (hsb : strB kb = true) 
    (hres : tightB (ka, ta) (kb, tb) = true) :
    Calls Tryz.prog 29 #[.agg #[.int .i64 ka, .string ta], .agg #[.int .i64 kb, .string tb]] w fun e w' => e = .returned (.bool (tightB (ka, ta) (kb, tb))) ∧ Below w.heap.size w w' := by
  have hpa := fun w => rplain_calls ka ta w
  simp only [hia, Bool.not_false] at hpa
  have hpb := fun w => rplain_calls kb tb w
  simp only [hib, Bool.not_false] at hpb
  have hxa := fun w => rtext_calls ka ta w
  simp only [hsa] at hxa
  have hxb := fun w => rtext_calls kb tb w
  simp only [hsb] at hxb
  have a6 : (ka == 6) = false := beq_eq_false_iff_ne.2 ha6
  have a13 : (ka == 13) = false := beq_eq_false_iff_ne.2 ha13
  clear ha6 ha13
  have HX := Lib.hid hres
  clear hres hs
  obtain ⟨W1, hW1⟩ : ∃ W1, (w.alloc (.cells #[.int .i64 ka, .string ta] 24)).alloc (.cells #[.int .i64 kb, .string tb] 24) = W1 := ⟨_, rfl⟩
  obtain ⟨hb1, k01, k11⟩ := rtwo_box w ka kb ta tb W1 hW1
  have c0 : W1.cell? ⟨w.heap.size, 0, none⟩ = some (.int .i64 ka) := k01.cell 0
  have c1 : W1.cell? ⟨w.heap.size, 1, none⟩ = some (.string ta) := k01.cell 1
  have c2 : W1.cell? ⟨w.heap.size + 1, 0, none⟩ = some (.int .i64 kb) := k11.cell 0
  have c3 : W1.cell? ⟨w.heap.size + 1, 1, none⟩ = some (.string tb) := k11.cell 1
  have K01 := Lib.hid k01; have K11 := Lib.hid k11; have HB1 := Lib.hid hb1
  clear hb1 k01 k11
  go_enter Tryz.func29, Tryz.ntmps29
  go_wp2_with fail
  ((with_reducible refine (hpa _).mono ?_); rintro _ w2 ⟨rfl, hb2⟩)
  have k02 := K01.out.own hb2
  have k12 := K11.out.own hb2
  have HB2 := Lib.hid (sg.Below.next HB1.out hb2 (Nat.le_refl _))
  clear c0 c1 c2 c3 hW1
  have c0 : w2.cell? ⟨w.heap.size, 0, none⟩ = some (.int .i64 ka) := k02.cell 0
  have c1 : w2.cell? ⟨w.heap.size, 1, none⟩ = some (.string ta) := k02.cell 1
  have c2 : w2.cell? ⟨w.heap.size + 1, 0, none⟩ = some (.int .i64 kb) := k12.cell 0
  have c3 : w2.cell? ⟨w.heap.size + 1, 1, none⟩ = some (.string tb) := k12.cell 1
  have K02 := Lib.hid k02; have K12 := Lib.hid k12
  clear hb2 k02 k12
  go_wp2_with fail
  ((with_reducible refine (hpb _).mono ?_); rintro _ w3 ⟨rfl, hb3⟩)
  have k03 := K02.out.own hb3
  have k13 := K12.out.own hb3
  have HB3 := Lib.hid (sg.Below.next HB2.out hb3 (Nat.le_refl _))
  clear c0 c1 c2 c3
  have c0 : w3.cell? ⟨w.heap.size, 0, none⟩ = some (.int .i64 ka) := k03.cell 0
  have c1 : w3.cell? ⟨w.heap.size, 1, none⟩ = some (.string ta) := k03.cell 1
  have c2 : w3.cell? ⟨w.heap.size + 1, 0, none⟩ = some (.int .i64 kb) := k13.cell 0
  have c3 : w3.cell? ⟨w.heap.size + 1, 1, none⟩ = some (.string tb) := k13.cell 1
  have K03 := Lib.hid k03; have K13 := Lib.hid k13
  clear hb3 k03 k13
  go_wp2_with fail
  ((with_reducible refine (hxa _).mono ?_); rintro _ w4 ⟨rfl, hb4⟩)
  have k04 := K03.out.own hb4
  have k14 := K13.out.own hb4
  have HB4 := Lib.hid (sg.Below.next HB3.out hb4 (Nat.le_refl _))
  clear c0 c1 c2 c3
  have c0 : w4.cell? ⟨w.heap.size, 0, none⟩ = some (.int .i64 ka) := k04.cell 0
  have c1 : w4.cell? ⟨w.heap.size, 1, none⟩ = some (.string ta) := k04.cell 1
  have c2 : w4.cell? ⟨w.heap.size + 1, 0, none⟩ = some (.int .i64 kb) := k14.cell 0
  have c3 : w4.cell? ⟨w.heap.size + 1, 1, none⟩ = some (.string tb) := k14.cell 1
  have K04 := Lib.hid k04; have K14 := Lib.hid k14
  clear hb4 k04 k14
  go_wp2_with fail
  ((with_reducible refine (hxb _).mono ?_); rintro _ w5 ⟨rfl, hb5⟩)
  have k05 := K04.out.own hb5
  have k15 := K14.out.own hb5
  have HB5 := Lib.hid (sg.Below.next HB4.out hb5 (Nat.le_refl _))
  clear c0 c1 c2 c3
  have c0 : w5.cell? ⟨w.heap.size, 0, none⟩ = some (.int .i64 ka) := k05.cell 0
  have c1 : w5.cell? ⟨w.heap.size, 1, none⟩ = some (.string ta) := k05.cell 1
  have c2 : w5.cell? ⟨w.heap.size + 1, 0, none⟩ = some (.int .i64 kb) := k15.cell 0
  have c3 : w5.cell? ⟨w.heap.size + 1, 1, none⟩ = some (.string tb) := k15.cell 1
  have K05 := Lib.hid k05; have K15 := Lib.hid k15
  clear hb5 k05 k15
  go_wp2_with fail
  go_ret
  exact ⟨by rw [HX.out]; rfl, HB5.out⟩
set_option maxRecDepth 100000 in
set_option maxHeartbeats 8000000 in
theorem rtight_n1c1E (ka kb : Int) (ta tb : ByteArray) (w : World) (hs : ta.size + tb.size ≤ 1000) (hia : idleB ka = false) (hib : idleB kb = false) (ha6 : ka ≠ 6) (ha13 : ka ≠ 13) (hsa : strB ka = false) (hsb : strB kb = false) 
    (hres : tightB (ka, ta) (kb, tb) = decide (TF (ta.data.toList ++ tb.data.toList) = [pt (ka, ta), pt (kb, tb)])) :
    Calls Tryz.prog 29 #[.agg #[.int .i64 ka, .string ta], .agg #[.int .i64 kb, .string tb]] w fun e w' => e = .returned (.bool (tightB (ka, ta) (kb, tb))) ∧ Below w.heap.size w w' := by
  have hpa := fun w => rplain_calls ka ta w
  simp only [hia, Bool.not_false] at hpa
  have hpb := fun w => rplain_calls kb tb w
  simp only [hib, Bool.not_false] at hpb
  have hxa := fun w => rtext_calls ka ta w
  simp only [hsa] at hxa
  have hxb := fun w => rtext_calls kb tb w
  simp only [hsb] at hxb
  have a6 : (ka == 6) = false := beq_eq_false_iff_ne.2 ha6
  have a13 : (ka == 13) = false := beq_eq_false_iff_ne.2 ha13
  clear ha6 ha13
  obtain ⟨s, hss⟩ : ∃ s, ta ++ tb = s := ⟨_, rfl⟩
  have hsz : s.size ≤ 1000 := by rw [← hss, ByteArray.size_append]; exact hs
  have hsl : s.data.toList = ta.data.toList ++ tb.data.toList := by rw [← hss]; simp
  have hnc : ¬ 9223372036854775807 < ta.size + tb.size := by omega
  rw [← hsl, TF_eq] at hres
  obtain ⟨l, er, at', htl⟩ : ∃ l er at', tokensF s.data.toList (utf.checkF s) = (l, er, at') := ⟨_, _, _, rfl⟩
  have hrt := fun w => rtokens_as s hsz w l er at' htl
  have hln := tok_len s htl
  have hen := fun h0 => err_nil htl (er := er) h0
  rw [htl] at hres
  simp only at hres
  have HLN := Lib.hid (Nat.le_trans hln hsz); have HEN := Lib.hid hen; have HSS := Lib.hid hss
  clear htl hln hen hsl hsz
  have HX := Lib.hid hres
  clear hres hs
  obtain ⟨W1, hW1⟩ : ∃ W1, (w.alloc (.cells #[.int .i64 ka, .string ta] 24)).alloc (.cells #[.int .i64 kb, .string tb] 24) = W1 := ⟨_, rfl⟩
  obtain ⟨hb1, k01, k11⟩ := rtwo_box w ka kb ta tb W1 hW1
  have c0 : W1.cell? ⟨w.heap.size, 0, none⟩ = some (.int .i64 ka) := k01.cell 0
  have c1 : W1.cell? ⟨w.heap.size, 1, none⟩ = some (.string ta) := k01.cell 1
  have c2 : W1.cell? ⟨w.heap.size + 1, 0, none⟩ = some (.int .i64 kb) := k11.cell 0
  have c3 : W1.cell? ⟨w.heap.size + 1, 1, none⟩ = some (.string tb) := k11.cell 1
  have K01 := Lib.hid k01; have K11 := Lib.hid k11; have HB1 := Lib.hid hb1
  clear hb1 k01 k11
  go_enter Tryz.func29, Tryz.ntmps29
  go_wp2_with fail
  ((with_reducible refine (hpa _).mono ?_); rintro _ w2 ⟨rfl, hb2⟩)
  have k02 := K01.out.own hb2
  have k12 := K11.out.own hb2
  have HB2 := Lib.hid (sg.Below.next HB1.out hb2 (Nat.le_refl _))
  clear c0 c1 c2 c3 hW1
  have c0 : w2.cell? ⟨w.heap.size, 0, none⟩ = some (.int .i64 ka) := k02.cell 0
  have c1 : w2.cell? ⟨w.heap.size, 1, none⟩ = some (.string ta) := k02.cell 1
  have c2 : w2.cell? ⟨w.heap.size + 1, 0, none⟩ = some (.int .i64 kb) := k12.cell 0
  have c3 : w2.cell? ⟨w.heap.size + 1, 1, none⟩ = some (.string tb) := k12.cell 1
  have K02 := Lib.hid k02; have K12 := Lib.hid k12
  clear hb2 k02 k12
  go_wp2_with fail
  ((with_reducible refine (hpb _).mono ?_); rintro _ w3 ⟨rfl, hb3⟩)
  have k03 := K02.out.own hb3
  have k13 := K12.out.own hb3
  have HB3 := Lib.hid (sg.Below.next HB2.out hb3 (Nat.le_refl _))
  clear c0 c1 c2 c3
  have c0 : w3.cell? ⟨w.heap.size, 0, none⟩ = some (.int .i64 ka) := k03.cell 0
  have c1 : w3.cell? ⟨w.heap.size, 1, none⟩ = some (.string ta) := k03.cell 1
  have c2 : w3.cell? ⟨w.heap.size + 1, 0, none⟩ = some (.int .i64 kb) := k13.cell 0
  have c3 : w3.cell? ⟨w.heap.size + 1, 1, none⟩ = some (.string tb) := k13.cell 1
  have K03 := Lib.hid k03; have K13 := Lib.hid k13
  clear hb3 k03 k13
  go_wp2_with fail
  ((with_reducible refine (hxa _).mono ?_); rintro _ w4 ⟨rfl, hb4⟩)
  have k04 := K03.out.own hb4
  have k14 := K13.out.own hb4
  have HB4 := Lib.hid (sg.Below.next HB3.out hb4 (Nat.le_refl _))
  clear c0 c1 c2 c3
  have c0 : w4.cell? ⟨w.heap.size, 0, none⟩ = some (.int .i64 ka) := k04.cell 0
  have c1 : w4.cell? ⟨w.heap.size, 1, none⟩ = some (.string ta) := k04.cell 1
  have c2 : w4.cell? ⟨w.heap.size + 1, 0, none⟩ = some (.int .i64 kb) := k14.cell 0
  have c3 : w4.cell? ⟨w.heap.size + 1, 1, none⟩ = some (.string tb) := k14.cell 1
  have K04 := Lib.hid k04; have K14 := Lib.hid k14
  clear hb4 k04 k14
  go_wp2_with fail
  ((with_reducible refine (hxb _).mono ?_); rintro _ w5 ⟨rfl, hb5⟩)
  have k05 := K04.out.own hb5
  have k15 := K14.out.own hb5
  have HB5 := Lib.hid (sg.Below.next HB4.out hb5 (Nat.le_refl _))
  clear c0 c1 c2 c3
  have c0 : w5.cell? ⟨w.heap.size, 0, none⟩ = some (.int .i64 ka) := k05.cell 0
  have c1 : w5.cell? ⟨w.heap.size, 1, none⟩ = some (.string ta) := k05.cell 1
  have c2 : w5.cell? ⟨w.heap.size + 1, 0, none⟩ = some (.int .i64 kb) := k15.cell 0
  have c3 : w5.cell? ⟨w.heap.size + 1, 1, none⟩ = some (.string tb) := k15.cell 1
  have K05 := Lib.hid k05; have K15 := Lib.hid k15
  clear hb5 k05 k15
  go_wp2_with fail
  ((with_reducible refine (hrt _).mono ?_); rintro _ w6 ⟨v6, rfl, ho6, hb6⟩)
  have k06 := K05.out.own hb6
  have k16 := K15.out.own hb6
  have HB6 := Lib.hid (sg.Below.next HB5.out hb6 (Nat.le_refl _))
  clear c0 c1 c2 c3
  have c0 : w6.cell? ⟨w.heap.size, 0, none⟩ = some (.int .i64 ka) := k06.cell 0
  have c1 : w6.cell? ⟨w.heap.size, 1, none⟩ = some (.string ta) := k06.cell 1
  have c2 : w6.cell? ⟨w.heap.size + 1, 0, none⟩ = some (.int .i64 kb) := k16.cell 0
  have c3 : w6.cell? ⟨w.heap.size + 1, 1, none⟩ = some (.string tb) := k16.cell 1
  have htk := own_tks ho6 (by have := HLN.out; unfold maxLen; omega)
  obtain ⟨aa, cc, rfl, _⟩ := own_len ho6
  have HTK := Lib.hid htk
  clear hb6 k06 k16 ho6 htk
  by_cases h0 : er = 0
  · subst h0
    have hb7 : Below w6.heap.size w6 (w6.alloc (.cells #[.int .i64 ka, .string ta, .int .i64 kb, .string tb] 24)) := (Below.refl _ w6).alloc (Nat.le_refl _) _
    have htw := two_rows w6 ka kb ta tb
    have htk2 := (HTK.out.below hb7 (Nat.le_refl _)).mono hb7.size
    have HB7 := Lib.hid (sg.Below.next HB6.out hb7 (Nat.le_refl _))
    obtain ⟨w7, hw7⟩ : ∃ w7, w6.alloc (.cells #[.int .i64 ka, .string ta, .int .i64 kb, .string tb] 24) = w7 := ⟨_, rfl⟩
    rw [hw7] at htw htk2
    have HBp := Lib.hid (show Below w.heap.size w w7 by rw [← hw7]; exact HB7.out)
    have hsm := same_calls _ _ (l.map asTk) [(ka, ta), (kb, tb)] w7 _ htk2 htw (decide (l = [pt (ka, ta), pt (kb, tb)])) (decide_eq_decide.2 (map_pt l _))
    clear hb7 htw htk2 HB7
    go_wp2_with fail
    ((with_reducible refine hsm.mono ?_); rintro _ w8 ⟨rfl, hb8⟩)
    have HB8 := Lib.hid (sg.Below.next HBp.out hb8 (Nat.le_refl _))
    clear hb8
    go_wp2_with fail
    go_ret
    exact ⟨by rw [HX.out]; exact rfl, HB8.out⟩
  · have e0 : (er == 0) = false := beq_eq_false_iff_ne.2 h0
    have hl0 := HEN.out h0
    go_wp2_with fail
    go_ret
    exact ⟨by rw [HX.out, hl0]; rfl, HB6.out⟩
set_option maxRecDepth 100000 in
set_option maxHeartbeats 8000000 in
theorem rtight_n2c1T (ka kb : Int) (ta tb : ByteArray) (w : World) (hs : ta.size + tb.size ≤ 1000) (hia : idleB ka = false) (hib : idleB kb = false) (ha6 : ka = 6) (hb6 : kb ≠ 6) (hb3 : kb ≠ 3) (ha13 : ka ≠ 13) (hsa : strB ka = false) (hsb : strB kb = true) 
    (hres : tightB (ka, ta) (kb, tb) = true) :
    Calls Tryz.prog 29 #[.agg #[.int .i64 ka, .string ta], .agg #[.int .i64 kb, .string tb]] w fun e w' => e = .returned (.bool (tightB (ka, ta) (kb, tb))) ∧ Below w.heap.size w w' := by
  have hpa := fun w => rplain_calls ka ta w
  simp only [hia, Bool.not_false] at hpa
  have hpb := fun w => rplain_calls kb tb w
  simp only [hib, Bool.not_false] at hpb
  have hxa := fun w => rtext_calls ka ta w
  simp only [hsa] at hxa
  have hxb := fun w => rtext_calls kb tb w
  simp only [hsb] at hxb
  have a6 : (ka == 6) = true := beq_iff_eq.2 ha6
  have b6 : (kb == 6) = false := beq_eq_false_iff_ne.2 hb6
  have b3 : (kb == 3) = false := beq_eq_false_iff_ne.2 hb3
  have a13 : (ka == 13) = false := beq_eq_false_iff_ne.2 ha13
  clear ha6 hb6 hb3 ha13
  have HX := Lib.hid hres
  clear hres hs
  obtain ⟨W1, hW1⟩ : ∃ W1, (w.alloc (.cells #[.int .i64 ka, .string ta] 24)).alloc (.cells #[.int .i64 kb, .string tb] 24) = W1 := ⟨_, rfl⟩
  obtain ⟨hb1, k01, k11⟩ := rtwo_box w ka kb ta tb W1 hW1
  have c0 : W1.cell? ⟨w.heap.size, 0, none⟩ = some (.int .i64 ka) := k01.cell 0
  have c1 : W1.cell? ⟨w.heap.size, 1, none⟩ = some (.string ta) := k01.cell 1
  have c2 : W1.cell? ⟨w.heap.size + 1, 0, none⟩ = some (.int .i64 kb) := k11.cell 0
  have c3 : W1.cell? ⟨w.heap.size + 1, 1, none⟩ = some (.string tb) := k11.cell 1
  have K01 := Lib.hid k01; have K11 := Lib.hid k11; have HB1 := Lib.hid hb1
  clear hb1 k01 k11
  go_enter Tryz.func29, Tryz.ntmps29
  go_wp2_with fail
  ((with_reducible refine (hpa _).mono ?_); rintro _ w2 ⟨rfl, hb2⟩)
  have k02 := K01.out.own hb2
  have k12 := K11.out.own hb2
  have HB2 := Lib.hid (sg.Below.next HB1.out hb2 (Nat.le_refl _))
  clear c0 c1 c2 c3 hW1
  have c0 : w2.cell? ⟨w.heap.size, 0, none⟩ = some (.int .i64 ka) := k02.cell 0
  have c1 : w2.cell? ⟨w.heap.size, 1, none⟩ = some (.string ta) := k02.cell 1
  have c2 : w2.cell? ⟨w.heap.size + 1, 0, none⟩ = some (.int .i64 kb) := k12.cell 0
  have c3 : w2.cell? ⟨w.heap.size + 1, 1, none⟩ = some (.string tb) := k12.cell 1
  have K02 := Lib.hid k02; have K12 := Lib.hid k12
  clear hb2 k02 k12
  go_wp2_with fail
  ((with_reducible refine (hpb _).mono ?_); rintro _ w3 ⟨rfl, hb3⟩)
  have k03 := K02.out.own hb3
  have k13 := K12.out.own hb3
  have HB3 := Lib.hid (sg.Below.next HB2.out hb3 (Nat.le_refl _))
  clear c0 c1 c2 c3
  have c0 : w3.cell? ⟨w.heap.size, 0, none⟩ = some (.int .i64 ka) := k03.cell 0
  have c1 : w3.cell? ⟨w.heap.size, 1, none⟩ = some (.string ta) := k03.cell 1
  have c2 : w3.cell? ⟨w.heap.size + 1, 0, none⟩ = some (.int .i64 kb) := k13.cell 0
  have c3 : w3.cell? ⟨w.heap.size + 1, 1, none⟩ = some (.string tb) := k13.cell 1
  have K03 := Lib.hid k03; have K13 := Lib.hid k13
  clear hb3 k03 k13
  go_wp2_with fail
  ((with_reducible refine (hxa _).mono ?_); rintro _ w4 ⟨rfl, hb4⟩)
  have k04 := K03.out.own hb4
  have k14 := K13.out.own hb4
  have HB4 := Lib.hid (sg.Below.next HB3.out hb4 (Nat.le_refl _))
  clear c0 c1 c2 c3
  have c0 : w4.cell? ⟨w.heap.size, 0, none⟩ = some (.int .i64 ka) := k04.cell 0
  have c1 : w4.cell? ⟨w.heap.size, 1, none⟩ = some (.string ta) := k04.cell 1
  have c2 : w4.cell? ⟨w.heap.size + 1, 0, none⟩ = some (.int .i64 kb) := k14.cell 0
  have c3 : w4.cell? ⟨w.heap.size + 1, 1, none⟩ = some (.string tb) := k14.cell 1
  have K04 := Lib.hid k04; have K14 := Lib.hid k14
  clear hb4 k04 k14
  go_wp2_with fail
  ((with_reducible refine (hxb _).mono ?_); rintro _ w5 ⟨rfl, hb5⟩)
  have k05 := K04.out.own hb5
  have k15 := K14.out.own hb5
  have HB5 := Lib.hid (sg.Below.next HB4.out hb5 (Nat.le_refl _))
  clear c0 c1 c2 c3
  have c0 : w5.cell? ⟨w.heap.size, 0, none⟩ = some (.int .i64 ka) := k05.cell 0
  have c1 : w5.cell? ⟨w.heap.size, 1, none⟩ = some (.string ta) := k05.cell 1
  have c2 : w5.cell? ⟨w.heap.size + 1, 0, none⟩ = some (.int .i64 kb) := k15.cell 0
  have c3 : w5.cell? ⟨w.heap.size + 1, 1, none⟩ = some (.string tb) := k15.cell 1
  have K05 := Lib.hid k05; have K15 := Lib.hid k15
  clear hb5 k05 k15
  go_wp2_with fail
  go_ret
  exact ⟨by rw [HX.out]; rfl, HB5.out⟩
set_option maxRecDepth 100000 in
set_option maxHeartbeats 8000000 in
theorem rtight_n2c1E (ka kb : Int) (ta tb : ByteArray) (w : World) (hs : ta.size + tb.size ≤ 1000) (hia : idleB ka = false) (hib : idleB kb = false) (ha6 : ka = 6) (hb6 : kb ≠ 6) (hb3 : kb ≠ 3) (ha13 : ka ≠ 13) (hsa : strB ka = false) (hsb : strB kb = false) 
    (hres : tightB (ka, ta) (kb, tb) = decide (TF (ta.data.toList ++ tb.data.toList) = [pt (ka, ta), pt (kb, tb)])) :
    Calls Tryz.prog 29 #[.agg #[.int .i64 ka, .string ta], .agg #[.int .i64 kb, .string tb]] w fun e w' => e = .returned (.bool (tightB (ka, ta) (kb, tb))) ∧ Below w.heap.size w w' := by
  have hpa := fun w => rplain_calls ka ta w
  simp only [hia, Bool.not_false] at hpa
  have hpb := fun w => rplain_calls kb tb w
  simp only [hib, Bool.not_false] at hpb
  have hxa := fun w => rtext_calls ka ta w
  simp only [hsa] at hxa
  have hxb := fun w => rtext_calls kb tb w
  simp only [hsb] at hxb
  have a6 : (ka == 6) = true := beq_iff_eq.2 ha6
  have b6 : (kb == 6) = false := beq_eq_false_iff_ne.2 hb6
  have b3 : (kb == 3) = false := beq_eq_false_iff_ne.2 hb3
  have a13 : (ka == 13) = false := beq_eq_false_iff_ne.2 ha13
  clear ha6 hb6 hb3 ha13
  obtain ⟨s, hss⟩ : ∃ s, ta ++ tb = s := ⟨_, rfl⟩
  have hsz : s.size ≤ 1000 := by rw [← hss, ByteArray.size_append]; exact hs
  have hsl : s.data.toList = ta.data.toList ++ tb.data.toList := by rw [← hss]; simp
  have hnc : ¬ 9223372036854775807 < ta.size + tb.size := by omega
  rw [← hsl, TF_eq] at hres
  obtain ⟨l, er, at', htl⟩ : ∃ l er at', tokensF s.data.toList (utf.checkF s) = (l, er, at') := ⟨_, _, _, rfl⟩
  have hrt := fun w => rtokens_as s hsz w l er at' htl
  have hln := tok_len s htl
  have hen := fun h0 => err_nil htl (er := er) h0
  rw [htl] at hres
  simp only at hres
  have HLN := Lib.hid (Nat.le_trans hln hsz); have HEN := Lib.hid hen; have HSS := Lib.hid hss
  clear htl hln hen hsl hsz
  have HX := Lib.hid hres
  clear hres hs
  obtain ⟨W1, hW1⟩ : ∃ W1, (w.alloc (.cells #[.int .i64 ka, .string ta] 24)).alloc (.cells #[.int .i64 kb, .string tb] 24) = W1 := ⟨_, rfl⟩
  obtain ⟨hb1, k01, k11⟩ := rtwo_box w ka kb ta tb W1 hW1
  have c0 : W1.cell? ⟨w.heap.size, 0, none⟩ = some (.int .i64 ka) := k01.cell 0
  have c1 : W1.cell? ⟨w.heap.size, 1, none⟩ = some (.string ta) := k01.cell 1
  have c2 : W1.cell? ⟨w.heap.size + 1, 0, none⟩ = some (.int .i64 kb) := k11.cell 0
  have c3 : W1.cell? ⟨w.heap.size + 1, 1, none⟩ = some (.string tb) := k11.cell 1
  have K01 := Lib.hid k01; have K11 := Lib.hid k11; have HB1 := Lib.hid hb1
  clear hb1 k01 k11
  go_enter Tryz.func29, Tryz.ntmps29
  go_wp2_with fail
  ((with_reducible refine (hpa _).mono ?_); rintro _ w2 ⟨rfl, hb2⟩)
  have k02 := K01.out.own hb2
  have k12 := K11.out.own hb2
  have HB2 := Lib.hid (sg.Below.next HB1.out hb2 (Nat.le_refl _))
  clear c0 c1 c2 c3 hW1
  have c0 : w2.cell? ⟨w.heap.size, 0, none⟩ = some (.int .i64 ka) := k02.cell 0
  have c1 : w2.cell? ⟨w.heap.size, 1, none⟩ = some (.string ta) := k02.cell 1
  have c2 : w2.cell? ⟨w.heap.size + 1, 0, none⟩ = some (.int .i64 kb) := k12.cell 0
  have c3 : w2.cell? ⟨w.heap.size + 1, 1, none⟩ = some (.string tb) := k12.cell 1
  have K02 := Lib.hid k02; have K12 := Lib.hid k12
  clear hb2 k02 k12
  go_wp2_with fail
  ((with_reducible refine (hpb _).mono ?_); rintro _ w3 ⟨rfl, hb3⟩)
  have k03 := K02.out.own hb3
  have k13 := K12.out.own hb3
  have HB3 := Lib.hid (sg.Below.next HB2.out hb3 (Nat.le_refl _))
  clear c0 c1 c2 c3
  have c0 : w3.cell? ⟨w.heap.size, 0, none⟩ = some (.int .i64 ka) := k03.cell 0
  have c1 : w3.cell? ⟨w.heap.size, 1, none⟩ = some (.string ta) := k03.cell 1
  have c2 : w3.cell? ⟨w.heap.size + 1, 0, none⟩ = some (.int .i64 kb) := k13.cell 0
  have c3 : w3.cell? ⟨w.heap.size + 1, 1, none⟩ = some (.string tb) := k13.cell 1
  have K03 := Lib.hid k03; have K13 := Lib.hid k13
  clear hb3 k03 k13
  go_wp2_with fail
  ((with_reducible refine (hxa _).mono ?_); rintro _ w4 ⟨rfl, hb4⟩)
  have k04 := K03.out.own hb4
  have k14 := K13.out.own hb4
  have HB4 := Lib.hid (sg.Below.next HB3.out hb4 (Nat.le_refl _))
  clear c0 c1 c2 c3
  have c0 : w4.cell? ⟨w.heap.size, 0, none⟩ = some (.int .i64 ka) := k04.cell 0
  have c1 : w4.cell? ⟨w.heap.size, 1, none⟩ = some (.string ta) := k04.cell 1
  have c2 : w4.cell? ⟨w.heap.size + 1, 0, none⟩ = some (.int .i64 kb) := k14.cell 0
  have c3 : w4.cell? ⟨w.heap.size + 1, 1, none⟩ = some (.string tb) := k14.cell 1
  have K04 := Lib.hid k04; have K14 := Lib.hid k14
  clear hb4 k04 k14
  go_wp2_with fail
  ((with_reducible refine (hxb _).mono ?_); rintro _ w5 ⟨rfl, hb5⟩)
  have k05 := K04.out.own hb5
  have k15 := K14.out.own hb5
  have HB5 := Lib.hid (sg.Below.next HB4.out hb5 (Nat.le_refl _))
  clear c0 c1 c2 c3
  have c0 : w5.cell? ⟨w.heap.size, 0, none⟩ = some (.int .i64 ka) := k05.cell 0
  have c1 : w5.cell? ⟨w.heap.size, 1, none⟩ = some (.string ta) := k05.cell 1
  have c2 : w5.cell? ⟨w.heap.size + 1, 0, none⟩ = some (.int .i64 kb) := k15.cell 0
  have c3 : w5.cell? ⟨w.heap.size + 1, 1, none⟩ = some (.string tb) := k15.cell 1
  have K05 := Lib.hid k05; have K15 := Lib.hid k15
  clear hb5 k05 k15
  go_wp2_with fail
  ((with_reducible refine (hrt _).mono ?_); rintro _ w6 ⟨v6, rfl, ho6, hb6⟩)
  have k06 := K05.out.own hb6
  have k16 := K15.out.own hb6
  have HB6 := Lib.hid (sg.Below.next HB5.out hb6 (Nat.le_refl _))
  clear c0 c1 c2 c3
  have c0 : w6.cell? ⟨w.heap.size, 0, none⟩ = some (.int .i64 ka) := k06.cell 0
  have c1 : w6.cell? ⟨w.heap.size, 1, none⟩ = some (.string ta) := k06.cell 1
  have c2 : w6.cell? ⟨w.heap.size + 1, 0, none⟩ = some (.int .i64 kb) := k16.cell 0
  have c3 : w6.cell? ⟨w.heap.size + 1, 1, none⟩ = some (.string tb) := k16.cell 1
  have htk := own_tks ho6 (by have := HLN.out; unfold maxLen; omega)
  obtain ⟨aa, cc, rfl, _⟩ := own_len ho6
  have HTK := Lib.hid htk
  clear hb6 k06 k16 ho6 htk
  by_cases h0 : er = 0
  · subst h0
    have hb7 : Below w6.heap.size w6 (w6.alloc (.cells #[.int .i64 ka, .string ta, .int .i64 kb, .string tb] 24)) := (Below.refl _ w6).alloc (Nat.le_refl _) _
    have htw := two_rows w6 ka kb ta tb
    have htk2 := (HTK.out.below hb7 (Nat.le_refl _)).mono hb7.size
    have HB7 := Lib.hid (sg.Below.next HB6.out hb7 (Nat.le_refl _))
    obtain ⟨w7, hw7⟩ : ∃ w7, w6.alloc (.cells #[.int .i64 ka, .string ta, .int .i64 kb, .string tb] 24) = w7 := ⟨_, rfl⟩
    rw [hw7] at htw htk2
    have HBp := Lib.hid (show Below w.heap.size w w7 by rw [← hw7]; exact HB7.out)
    have hsm := same_calls _ _ (l.map asTk) [(ka, ta), (kb, tb)] w7 _ htk2 htw (decide (l = [pt (ka, ta), pt (kb, tb)])) (decide_eq_decide.2 (map_pt l _))
    clear hb7 htw htk2 HB7
    go_wp2_with fail
    ((with_reducible refine hsm.mono ?_); rintro _ w8 ⟨rfl, hb8⟩)
    have HB8 := Lib.hid (sg.Below.next HBp.out hb8 (Nat.le_refl _))
    clear hb8
    go_wp2_with fail
    go_ret
    exact ⟨by rw [HX.out]; exact rfl, HB8.out⟩
  · have e0 : (er == 0) = false := beq_eq_false_iff_ne.2 h0
    have hl0 := HEN.out h0
    go_wp2_with fail
    go_ret
    exact ⟨by rw [HX.out, hl0]; rfl, HB6.out⟩
set_option maxRecDepth 100000 in
set_option maxHeartbeats 8000000 in
theorem rtight_n1c2T (ka kb : Int) (ta tb : ByteArray) (w : World) (hs : ta.size + tb.size ≤ 1000) (hia : idleB ka = false) (hib : idleB kb = false) (ha6 : ka ≠ 6) (ha13 : ka = 13) (hb13 : kb ≠ 13) (hsa : strB ka = false) (hsb : strB kb = true) 
    (hres : tightB (ka, ta) (kb, tb) = true) :
    Calls Tryz.prog 29 #[.agg #[.int .i64 ka, .string ta], .agg #[.int .i64 kb, .string tb]] w fun e w' => e = .returned (.bool (tightB (ka, ta) (kb, tb))) ∧ Below w.heap.size w w' := by
  have hpa := fun w => rplain_calls ka ta w
  simp only [hia, Bool.not_false] at hpa
  have hpb := fun w => rplain_calls kb tb w
  simp only [hib, Bool.not_false] at hpb
  have hxa := fun w => rtext_calls ka ta w
  simp only [hsa] at hxa
  have hxb := fun w => rtext_calls kb tb w
  simp only [hsb] at hxb
  have a6 : (ka == 6) = false := beq_eq_false_iff_ne.2 ha6
  have a13 : (ka == 13) = true := beq_iff_eq.2 ha13
  have b13 : (kb == 13) = false := beq_eq_false_iff_ne.2 hb13
  clear ha6 ha13 hb13
  have HX := Lib.hid hres
  clear hres hs
  obtain ⟨W1, hW1⟩ : ∃ W1, (w.alloc (.cells #[.int .i64 ka, .string ta] 24)).alloc (.cells #[.int .i64 kb, .string tb] 24) = W1 := ⟨_, rfl⟩
  obtain ⟨hb1, k01, k11⟩ := rtwo_box w ka kb ta tb W1 hW1
  have c0 : W1.cell? ⟨w.heap.size, 0, none⟩ = some (.int .i64 ka) := k01.cell 0
  have c1 : W1.cell? ⟨w.heap.size, 1, none⟩ = some (.string ta) := k01.cell 1
  have c2 : W1.cell? ⟨w.heap.size + 1, 0, none⟩ = some (.int .i64 kb) := k11.cell 0
  have c3 : W1.cell? ⟨w.heap.size + 1, 1, none⟩ = some (.string tb) := k11.cell 1
  have K01 := Lib.hid k01; have K11 := Lib.hid k11; have HB1 := Lib.hid hb1
  clear hb1 k01 k11
  go_enter Tryz.func29, Tryz.ntmps29
  go_wp2_with fail
  ((with_reducible refine (hpa _).mono ?_); rintro _ w2 ⟨rfl, hb2⟩)
  have k02 := K01.out.own hb2
  have k12 := K11.out.own hb2
  have HB2 := Lib.hid (sg.Below.next HB1.out hb2 (Nat.le_refl _))
  clear c0 c1 c2 c3 hW1
  have c0 : w2.cell? ⟨w.heap.size, 0, none⟩ = some (.int .i64 ka) := k02.cell 0
  have c1 : w2.cell? ⟨w.heap.size, 1, none⟩ = some (.string ta) := k02.cell 1
  have c2 : w2.cell? ⟨w.heap.size + 1, 0, none⟩ = some (.int .i64 kb) := k12.cell 0
  have c3 : w2.cell? ⟨w.heap.size + 1, 1, none⟩ = some (.string tb) := k12.cell 1
  have K02 := Lib.hid k02; have K12 := Lib.hid k12
  clear hb2 k02 k12
  go_wp2_with fail
  ((with_reducible refine (hpb _).mono ?_); rintro _ w3 ⟨rfl, hb3⟩)
  have k03 := K02.out.own hb3
  have k13 := K12.out.own hb3
  have HB3 := Lib.hid (sg.Below.next HB2.out hb3 (Nat.le_refl _))
  clear c0 c1 c2 c3
  have c0 : w3.cell? ⟨w.heap.size, 0, none⟩ = some (.int .i64 ka) := k03.cell 0
  have c1 : w3.cell? ⟨w.heap.size, 1, none⟩ = some (.string ta) := k03.cell 1
  have c2 : w3.cell? ⟨w.heap.size + 1, 0, none⟩ = some (.int .i64 kb) := k13.cell 0
  have c3 : w3.cell? ⟨w.heap.size + 1, 1, none⟩ = some (.string tb) := k13.cell 1
  have K03 := Lib.hid k03; have K13 := Lib.hid k13
  clear hb3 k03 k13
  go_wp2_with fail
  ((with_reducible refine (hxa _).mono ?_); rintro _ w4 ⟨rfl, hb4⟩)
  have k04 := K03.out.own hb4
  have k14 := K13.out.own hb4
  have HB4 := Lib.hid (sg.Below.next HB3.out hb4 (Nat.le_refl _))
  clear c0 c1 c2 c3
  have c0 : w4.cell? ⟨w.heap.size, 0, none⟩ = some (.int .i64 ka) := k04.cell 0
  have c1 : w4.cell? ⟨w.heap.size, 1, none⟩ = some (.string ta) := k04.cell 1
  have c2 : w4.cell? ⟨w.heap.size + 1, 0, none⟩ = some (.int .i64 kb) := k14.cell 0
  have c3 : w4.cell? ⟨w.heap.size + 1, 1, none⟩ = some (.string tb) := k14.cell 1
  have K04 := Lib.hid k04; have K14 := Lib.hid k14
  clear hb4 k04 k14
  go_wp2_with fail
  ((with_reducible refine (hxb _).mono ?_); rintro _ w5 ⟨rfl, hb5⟩)
  have k05 := K04.out.own hb5
  have k15 := K14.out.own hb5
  have HB5 := Lib.hid (sg.Below.next HB4.out hb5 (Nat.le_refl _))
  clear c0 c1 c2 c3
  have c0 : w5.cell? ⟨w.heap.size, 0, none⟩ = some (.int .i64 ka) := k05.cell 0
  have c1 : w5.cell? ⟨w.heap.size, 1, none⟩ = some (.string ta) := k05.cell 1
  have c2 : w5.cell? ⟨w.heap.size + 1, 0, none⟩ = some (.int .i64 kb) := k15.cell 0
  have c3 : w5.cell? ⟨w.heap.size + 1, 1, none⟩ = some (.string tb) := k15.cell 1
  have K05 := Lib.hid k05; have K15 := Lib.hid k15
  clear hb5 k05 k15
  go_wp2_with fail
  go_ret
  exact ⟨by rw [HX.out]; rfl, HB5.out⟩
set_option maxRecDepth 100000 in
set_option maxHeartbeats 8000000 in
theorem rtight_n1c2E (ka kb : Int) (ta tb : ByteArray) (w : World) (hs : ta.size + tb.size ≤ 1000) (hia : idleB ka = false) (hib : idleB kb = false) (ha6 : ka ≠ 6) (ha13 : ka = 13) (hb13 : kb ≠ 13) (hsa : strB ka = false) (hsb : strB kb = false) 
    (hres : tightB (ka, ta) (kb, tb) = decide (TF (ta.data.toList ++ tb.data.toList) = [pt (ka, ta), pt (kb, tb)])) :
    Calls Tryz.prog 29 #[.agg #[.int .i64 ka, .string ta], .agg #[.int .i64 kb, .string tb]] w fun e w' => e = .returned (.bool (tightB (ka, ta) (kb, tb))) ∧ Below w.heap.size w w' := by
  have hpa := fun w => rplain_calls ka ta w
  simp only [hia, Bool.not_false] at hpa
  have hpb := fun w => rplain_calls kb tb w
  simp only [hib, Bool.not_false] at hpb
  have hxa := fun w => rtext_calls ka ta w
  simp only [hsa] at hxa
  have hxb := fun w => rtext_calls kb tb w
  simp only [hsb] at hxb
  have a6 : (ka == 6) = false := beq_eq_false_iff_ne.2 ha6
  have a13 : (ka == 13) = true := beq_iff_eq.2 ha13
  have b13 : (kb == 13) = false := beq_eq_false_iff_ne.2 hb13
  clear ha6 ha13 hb13
  obtain ⟨s, hss⟩ : ∃ s, ta ++ tb = s := ⟨_, rfl⟩
  have hsz : s.size ≤ 1000 := by rw [← hss, ByteArray.size_append]; exact hs
  have hsl : s.data.toList = ta.data.toList ++ tb.data.toList := by rw [← hss]; simp
  have hnc : ¬ 9223372036854775807 < ta.size + tb.size := by omega
  rw [← hsl, TF_eq] at hres
  obtain ⟨l, er, at', htl⟩ : ∃ l er at', tokensF s.data.toList (utf.checkF s) = (l, er, at') := ⟨_, _, _, rfl⟩
  have hrt := fun w => rtokens_as s hsz w l er at' htl
  have hln := tok_len s htl
  have hen := fun h0 => err_nil htl (er := er) h0
  rw [htl] at hres
  simp only at hres
  have HLN := Lib.hid (Nat.le_trans hln hsz); have HEN := Lib.hid hen; have HSS := Lib.hid hss
  clear htl hln hen hsl hsz
  have HX := Lib.hid hres
  clear hres hs
  obtain ⟨W1, hW1⟩ : ∃ W1, (w.alloc (.cells #[.int .i64 ka, .string ta] 24)).alloc (.cells #[.int .i64 kb, .string tb] 24) = W1 := ⟨_, rfl⟩
  obtain ⟨hb1, k01, k11⟩ := rtwo_box w ka kb ta tb W1 hW1
  have c0 : W1.cell? ⟨w.heap.size, 0, none⟩ = some (.int .i64 ka) := k01.cell 0
  have c1 : W1.cell? ⟨w.heap.size, 1, none⟩ = some (.string ta) := k01.cell 1
  have c2 : W1.cell? ⟨w.heap.size + 1, 0, none⟩ = some (.int .i64 kb) := k11.cell 0
  have c3 : W1.cell? ⟨w.heap.size + 1, 1, none⟩ = some (.string tb) := k11.cell 1
  have K01 := Lib.hid k01; have K11 := Lib.hid k11; have HB1 := Lib.hid hb1
  clear hb1 k01 k11
  go_enter Tryz.func29, Tryz.ntmps29
  go_wp2_with fail
  ((with_reducible refine (hpa _).mono ?_); rintro _ w2 ⟨rfl, hb2⟩)
  have k02 := K01.out.own hb2
  have k12 := K11.out.own hb2
  have HB2 := Lib.hid (sg.Below.next HB1.out hb2 (Nat.le_refl _))
  clear c0 c1 c2 c3 hW1
  have c0 : w2.cell? ⟨w.heap.size, 0, none⟩ = some (.int .i64 ka) := k02.cell 0
  have c1 : w2.cell? ⟨w.heap.size, 1, none⟩ = some (.string ta) := k02.cell 1
  have c2 : w2.cell? ⟨w.heap.size + 1, 0, none⟩ = some (.int .i64 kb) := k12.cell 0
  have c3 : w2.cell? ⟨w.heap.size + 1, 1, none⟩ = some (.string tb) := k12.cell 1
  have K02 := Lib.hid k02; have K12 := Lib.hid k12
  clear hb2 k02 k12
  go_wp2_with fail
  ((with_reducible refine (hpb _).mono ?_); rintro _ w3 ⟨rfl, hb3⟩)
  have k03 := K02.out.own hb3
  have k13 := K12.out.own hb3
  have HB3 := Lib.hid (sg.Below.next HB2.out hb3 (Nat.le_refl _))
  clear c0 c1 c2 c3
  have c0 : w3.cell? ⟨w.heap.size, 0, none⟩ = some (.int .i64 ka) := k03.cell 0
  have c1 : w3.cell? ⟨w.heap.size, 1, none⟩ = some (.string ta) := k03.cell 1
  have c2 : w3.cell? ⟨w.heap.size + 1, 0, none⟩ = some (.int .i64 kb) := k13.cell 0
  have c3 : w3.cell? ⟨w.heap.size + 1, 1, none⟩ = some (.string tb) := k13.cell 1
  have K03 := Lib.hid k03; have K13 := Lib.hid k13
  clear hb3 k03 k13
  go_wp2_with fail
  ((with_reducible refine (hxa _).mono ?_); rintro _ w4 ⟨rfl, hb4⟩)
  have k04 := K03.out.own hb4
  have k14 := K13.out.own hb4
  have HB4 := Lib.hid (sg.Below.next HB3.out hb4 (Nat.le_refl _))
  clear c0 c1 c2 c3
  have c0 : w4.cell? ⟨w.heap.size, 0, none⟩ = some (.int .i64 ka) := k04.cell 0
  have c1 : w4.cell? ⟨w.heap.size, 1, none⟩ = some (.string ta) := k04.cell 1
  have c2 : w4.cell? ⟨w.heap.size + 1, 0, none⟩ = some (.int .i64 kb) := k14.cell 0
  have c3 : w4.cell? ⟨w.heap.size + 1, 1, none⟩ = some (.string tb) := k14.cell 1
  have K04 := Lib.hid k04; have K14 := Lib.hid k14
  clear hb4 k04 k14
  go_wp2_with fail
  ((with_reducible refine (hxb _).mono ?_); rintro _ w5 ⟨rfl, hb5⟩)
  have k05 := K04.out.own hb5
  have k15 := K14.out.own hb5
  have HB5 := Lib.hid (sg.Below.next HB4.out hb5 (Nat.le_refl _))
  clear c0 c1 c2 c3
  have c0 : w5.cell? ⟨w.heap.size, 0, none⟩ = some (.int .i64 ka) := k05.cell 0
  have c1 : w5.cell? ⟨w.heap.size, 1, none⟩ = some (.string ta) := k05.cell 1
  have c2 : w5.cell? ⟨w.heap.size + 1, 0, none⟩ = some (.int .i64 kb) := k15.cell 0
  have c3 : w5.cell? ⟨w.heap.size + 1, 1, none⟩ = some (.string tb) := k15.cell 1
  have K05 := Lib.hid k05; have K15 := Lib.hid k15
  clear hb5 k05 k15
  go_wp2_with fail
  ((with_reducible refine (hrt _).mono ?_); rintro _ w6 ⟨v6, rfl, ho6, hb6⟩)
  have k06 := K05.out.own hb6
  have k16 := K15.out.own hb6
  have HB6 := Lib.hid (sg.Below.next HB5.out hb6 (Nat.le_refl _))
  clear c0 c1 c2 c3
  have c0 : w6.cell? ⟨w.heap.size, 0, none⟩ = some (.int .i64 ka) := k06.cell 0
  have c1 : w6.cell? ⟨w.heap.size, 1, none⟩ = some (.string ta) := k06.cell 1
  have c2 : w6.cell? ⟨w.heap.size + 1, 0, none⟩ = some (.int .i64 kb) := k16.cell 0
  have c3 : w6.cell? ⟨w.heap.size + 1, 1, none⟩ = some (.string tb) := k16.cell 1
  have htk := own_tks ho6 (by have := HLN.out; unfold maxLen; omega)
  obtain ⟨aa, cc, rfl, _⟩ := own_len ho6
  have HTK := Lib.hid htk
  clear hb6 k06 k16 ho6 htk
  by_cases h0 : er = 0
  · subst h0
    have hb7 : Below w6.heap.size w6 (w6.alloc (.cells #[.int .i64 ka, .string ta, .int .i64 kb, .string tb] 24)) := (Below.refl _ w6).alloc (Nat.le_refl _) _
    have htw := two_rows w6 ka kb ta tb
    have htk2 := (HTK.out.below hb7 (Nat.le_refl _)).mono hb7.size
    have HB7 := Lib.hid (sg.Below.next HB6.out hb7 (Nat.le_refl _))
    obtain ⟨w7, hw7⟩ : ∃ w7, w6.alloc (.cells #[.int .i64 ka, .string ta, .int .i64 kb, .string tb] 24) = w7 := ⟨_, rfl⟩
    rw [hw7] at htw htk2
    have HBp := Lib.hid (show Below w.heap.size w w7 by rw [← hw7]; exact HB7.out)
    have hsm := same_calls _ _ (l.map asTk) [(ka, ta), (kb, tb)] w7 _ htk2 htw (decide (l = [pt (ka, ta), pt (kb, tb)])) (decide_eq_decide.2 (map_pt l _))
    clear hb7 htw htk2 HB7
    go_wp2_with fail
    ((with_reducible refine hsm.mono ?_); rintro _ w8 ⟨rfl, hb8⟩)
    have HB8 := Lib.hid (sg.Below.next HBp.out hb8 (Nat.le_refl _))
    clear hb8
    go_wp2_with fail
    go_ret
    exact ⟨by rw [HX.out]; exact rfl, HB8.out⟩
  · have e0 : (er == 0) = false := beq_eq_false_iff_ne.2 h0
    have hl0 := HEN.out h0
    go_wp2_with fail
    go_ret
    exact ⟨by rw [HX.out, hl0]; rfl, HB6.out⟩
set_option maxRecDepth 100000 in
set_option maxHeartbeats 8000000 in
theorem rtight_n1c3E (ka kb : Int) (ta tb : ByteArray) (w : World) (hs : ta.size + tb.size ≤ 1000) (hia : idleB ka = false) (hib : idleB kb = false) (ha6 : ka ≠ 6) (ha13 : ka = 13) (hb13 : kb = 13) (htA : ta.data.toList ≠ [58]) (hsa : strB ka = false) (hsb : strB kb = false) 
    (hres : tightB (ka, ta) (kb, tb) = decide (TF (ta.data.toList ++ tb.data.toList) = [pt (ka, ta), pt (kb, tb)])) :
    Calls Tryz.prog 29 #[.agg #[.int .i64 ka, .string ta], .agg #[.int .i64 kb, .string tb]] w fun e w' => e = .returned (.bool (tightB (ka, ta) (kb, tb))) ∧ Below w.heap.size w w' := by
  have hpa := fun w => rplain_calls ka ta w
  simp only [hia, Bool.not_false] at hpa
  have hpb := fun w => rplain_calls kb tb w
  simp only [hib, Bool.not_false] at hpb
  have hxa := fun w => rtext_calls ka ta w
  simp only [hsa] at hxa
  have hxb := fun w => rtext_calls kb tb w
  simp only [hsb] at hxb
  have a6 : (ka == 6) = false := beq_eq_false_iff_ne.2 ha6
  have a13 : (ka == 13) = true := beq_iff_eq.2 ha13
  have b13 : (kb == 13) = true := beq_iff_eq.2 hb13
  have tA : (ta.toList == [58]) = false := (txt58 _).trans (decide_eq_false htA)
  clear ha6 ha13 hb13 htA
  obtain ⟨s, hss⟩ : ∃ s, ta ++ tb = s := ⟨_, rfl⟩
  have hsz : s.size ≤ 1000 := by rw [← hss, ByteArray.size_append]; exact hs
  have hsl : s.data.toList = ta.data.toList ++ tb.data.toList := by rw [← hss]; simp
  have hnc : ¬ 9223372036854775807 < ta.size + tb.size := by omega
  rw [← hsl, TF_eq] at hres
  obtain ⟨l, er, at', htl⟩ : ∃ l er at', tokensF s.data.toList (utf.checkF s) = (l, er, at') := ⟨_, _, _, rfl⟩
  have hrt := fun w => rtokens_as s hsz w l er at' htl
  have hln := tok_len s htl
  have hen := fun h0 => err_nil htl (er := er) h0
  rw [htl] at hres
  simp only at hres
  have HLN := Lib.hid (Nat.le_trans hln hsz); have HEN := Lib.hid hen; have HSS := Lib.hid hss
  clear htl hln hen hsl hsz
  have HX := Lib.hid hres
  clear hres hs
  obtain ⟨W1, hW1⟩ : ∃ W1, (w.alloc (.cells #[.int .i64 ka, .string ta] 24)).alloc (.cells #[.int .i64 kb, .string tb] 24) = W1 := ⟨_, rfl⟩
  obtain ⟨hb1, k01, k11⟩ := rtwo_box w ka kb ta tb W1 hW1
  have c0 : W1.cell? ⟨w.heap.size, 0, none⟩ = some (.int .i64 ka) := k01.cell 0
  have c1 : W1.cell? ⟨w.heap.size, 1, none⟩ = some (.string ta) := k01.cell 1
  have c2 : W1.cell? ⟨w.heap.size + 1, 0, none⟩ = some (.int .i64 kb) := k11.cell 0
  have c3 : W1.cell? ⟨w.heap.size + 1, 1, none⟩ = some (.string tb) := k11.cell 1
  have K01 := Lib.hid k01; have K11 := Lib.hid k11; have HB1 := Lib.hid hb1
  clear hb1 k01 k11
  go_enter Tryz.func29, Tryz.ntmps29
  go_wp2_with fail
  ((with_reducible refine (hpa _).mono ?_); rintro _ w2 ⟨rfl, hb2⟩)
  have k02 := K01.out.own hb2
  have k12 := K11.out.own hb2
  have HB2 := Lib.hid (sg.Below.next HB1.out hb2 (Nat.le_refl _))
  clear c0 c1 c2 c3 hW1
  have c0 : w2.cell? ⟨w.heap.size, 0, none⟩ = some (.int .i64 ka) := k02.cell 0
  have c1 : w2.cell? ⟨w.heap.size, 1, none⟩ = some (.string ta) := k02.cell 1
  have c2 : w2.cell? ⟨w.heap.size + 1, 0, none⟩ = some (.int .i64 kb) := k12.cell 0
  have c3 : w2.cell? ⟨w.heap.size + 1, 1, none⟩ = some (.string tb) := k12.cell 1
  have K02 := Lib.hid k02; have K12 := Lib.hid k12
  clear hb2 k02 k12
  go_wp2_with fail
  ((with_reducible refine (hpb _).mono ?_); rintro _ w3 ⟨rfl, hb3⟩)
  have k03 := K02.out.own hb3
  have k13 := K12.out.own hb3
  have HB3 := Lib.hid (sg.Below.next HB2.out hb3 (Nat.le_refl _))
  clear c0 c1 c2 c3
  have c0 : w3.cell? ⟨w.heap.size, 0, none⟩ = some (.int .i64 ka) := k03.cell 0
  have c1 : w3.cell? ⟨w.heap.size, 1, none⟩ = some (.string ta) := k03.cell 1
  have c2 : w3.cell? ⟨w.heap.size + 1, 0, none⟩ = some (.int .i64 kb) := k13.cell 0
  have c3 : w3.cell? ⟨w.heap.size + 1, 1, none⟩ = some (.string tb) := k13.cell 1
  have K03 := Lib.hid k03; have K13 := Lib.hid k13
  clear hb3 k03 k13
  go_wp2_with fail
  ((with_reducible refine (hxa _).mono ?_); rintro _ w4 ⟨rfl, hb4⟩)
  have k04 := K03.out.own hb4
  have k14 := K13.out.own hb4
  have HB4 := Lib.hid (sg.Below.next HB3.out hb4 (Nat.le_refl _))
  clear c0 c1 c2 c3
  have c0 : w4.cell? ⟨w.heap.size, 0, none⟩ = some (.int .i64 ka) := k04.cell 0
  have c1 : w4.cell? ⟨w.heap.size, 1, none⟩ = some (.string ta) := k04.cell 1
  have c2 : w4.cell? ⟨w.heap.size + 1, 0, none⟩ = some (.int .i64 kb) := k14.cell 0
  have c3 : w4.cell? ⟨w.heap.size + 1, 1, none⟩ = some (.string tb) := k14.cell 1
  have K04 := Lib.hid k04; have K14 := Lib.hid k14
  clear hb4 k04 k14
  go_wp2_with fail
  ((with_reducible refine (hxb _).mono ?_); rintro _ w5 ⟨rfl, hb5⟩)
  have k05 := K04.out.own hb5
  have k15 := K14.out.own hb5
  have HB5 := Lib.hid (sg.Below.next HB4.out hb5 (Nat.le_refl _))
  clear c0 c1 c2 c3
  have c0 : w5.cell? ⟨w.heap.size, 0, none⟩ = some (.int .i64 ka) := k05.cell 0
  have c1 : w5.cell? ⟨w.heap.size, 1, none⟩ = some (.string ta) := k05.cell 1
  have c2 : w5.cell? ⟨w.heap.size + 1, 0, none⟩ = some (.int .i64 kb) := k15.cell 0
  have c3 : w5.cell? ⟨w.heap.size + 1, 1, none⟩ = some (.string tb) := k15.cell 1
  have K05 := Lib.hid k05; have K15 := Lib.hid k15
  clear hb5 k05 k15
  go_wp2_with fail
  ((with_reducible refine (hrt _).mono ?_); rintro _ w6 ⟨v6, rfl, ho6, hb6⟩)
  have k06 := K05.out.own hb6
  have k16 := K15.out.own hb6
  have HB6 := Lib.hid (sg.Below.next HB5.out hb6 (Nat.le_refl _))
  clear c0 c1 c2 c3
  have c0 : w6.cell? ⟨w.heap.size, 0, none⟩ = some (.int .i64 ka) := k06.cell 0
  have c1 : w6.cell? ⟨w.heap.size, 1, none⟩ = some (.string ta) := k06.cell 1
  have c2 : w6.cell? ⟨w.heap.size + 1, 0, none⟩ = some (.int .i64 kb) := k16.cell 0
  have c3 : w6.cell? ⟨w.heap.size + 1, 1, none⟩ = some (.string tb) := k16.cell 1
  have htk := own_tks ho6 (by have := HLN.out; unfold maxLen; omega)
  obtain ⟨aa, cc, rfl, _⟩ := own_len ho6
  have HTK := Lib.hid htk
  clear hb6 k06 k16 ho6 htk
  by_cases h0 : er = 0
  · subst h0
    have hb7 : Below w6.heap.size w6 (w6.alloc (.cells #[.int .i64 ka, .string ta, .int .i64 kb, .string tb] 24)) := (Below.refl _ w6).alloc (Nat.le_refl _) _
    have htw := two_rows w6 ka kb ta tb
    have htk2 := (HTK.out.below hb7 (Nat.le_refl _)).mono hb7.size
    have HB7 := Lib.hid (sg.Below.next HB6.out hb7 (Nat.le_refl _))
    obtain ⟨w7, hw7⟩ : ∃ w7, w6.alloc (.cells #[.int .i64 ka, .string ta, .int .i64 kb, .string tb] 24) = w7 := ⟨_, rfl⟩
    rw [hw7] at htw htk2
    have HBp := Lib.hid (show Below w.heap.size w w7 by rw [← hw7]; exact HB7.out)
    have hsm := same_calls _ _ (l.map asTk) [(ka, ta), (kb, tb)] w7 _ htk2 htw (decide (l = [pt (ka, ta), pt (kb, tb)])) (decide_eq_decide.2 (map_pt l _))
    clear hb7 htw htk2 HB7
    go_wp2_with fail
    ((with_reducible refine hsm.mono ?_); rintro _ w8 ⟨rfl, hb8⟩)
    have HB8 := Lib.hid (sg.Below.next HBp.out hb8 (Nat.le_refl _))
    clear hb8
    go_wp2_with fail
    go_ret
    exact ⟨by rw [HX.out]; exact rfl, HB8.out⟩
  · have e0 : (er == 0) = false := beq_eq_false_iff_ne.2 h0
    have hl0 := HEN.out h0
    go_wp2_with fail
    go_ret
    exact ⟨by rw [HX.out, hl0]; rfl, HB6.out⟩
set_option maxRecDepth 100000 in
set_option maxHeartbeats 8000000 in
theorem rtight_n1c4E (ka kb : Int) (ta tb : ByteArray) (w : World) (hs : ta.size + tb.size ≤ 1000) (hia : idleB ka = false) (hib : idleB kb = false) (ha6 : ka ≠ 6) (ha13 : ka = 13) (hb13 : kb = 13) (htA : ta.data.toList = [58]) (htB : tb.data.toList ≠ [58]) (hsa : strB ka = false) (hsb : strB kb = false) 
    (hres : tightB (ka, ta) (kb, tb) = decide (TF (ta.data.toList ++ tb.data.toList) = [pt (ka, ta), pt (kb, tb)])) :
    Calls Tryz.prog 29 #[.agg #[.int .i64 ka, .string ta], .agg #[.int .i64 kb, .string tb]] w fun e w' => e = .returned (.bool (tightB (ka, ta) (kb, tb))) ∧ Below w.heap.size w w' := by
  have hpa := fun w => rplain_calls ka ta w
  simp only [hia, Bool.not_false] at hpa
  have hpb := fun w => rplain_calls kb tb w
  simp only [hib, Bool.not_false] at hpb
  have hxa := fun w => rtext_calls ka ta w
  simp only [hsa] at hxa
  have hxb := fun w => rtext_calls kb tb w
  simp only [hsb] at hxb
  have a6 : (ka == 6) = false := beq_eq_false_iff_ne.2 ha6
  have a13 : (ka == 13) = true := beq_iff_eq.2 ha13
  have b13 : (kb == 13) = true := beq_iff_eq.2 hb13
  have tA : (ta.toList == [58]) = true := (txt58 _).trans (decide_eq_true htA)
  have tB : (tb.toList == [58]) = false := (txt58 _).trans (decide_eq_false htB)
  clear ha6 ha13 hb13 htA htB
  obtain ⟨s, hss⟩ : ∃ s, ta ++ tb = s := ⟨_, rfl⟩
  have hsz : s.size ≤ 1000 := by rw [← hss, ByteArray.size_append]; exact hs
  have hsl : s.data.toList = ta.data.toList ++ tb.data.toList := by rw [← hss]; simp
  have hnc : ¬ 9223372036854775807 < ta.size + tb.size := by omega
  rw [← hsl, TF_eq] at hres
  obtain ⟨l, er, at', htl⟩ : ∃ l er at', tokensF s.data.toList (utf.checkF s) = (l, er, at') := ⟨_, _, _, rfl⟩
  have hrt := fun w => rtokens_as s hsz w l er at' htl
  have hln := tok_len s htl
  have hen := fun h0 => err_nil htl (er := er) h0
  rw [htl] at hres
  simp only at hres
  have HLN := Lib.hid (Nat.le_trans hln hsz); have HEN := Lib.hid hen; have HSS := Lib.hid hss
  clear htl hln hen hsl hsz
  have HX := Lib.hid hres
  clear hres hs
  obtain ⟨W1, hW1⟩ : ∃ W1, (w.alloc (.cells #[.int .i64 ka, .string ta] 24)).alloc (.cells #[.int .i64 kb, .string tb] 24) = W1 := ⟨_, rfl⟩
  obtain ⟨hb1, k01, k11⟩ := rtwo_box w ka kb ta tb W1 hW1
  have c0 : W1.cell? ⟨w.heap.size, 0, none⟩ = some (.int .i64 ka) := k01.cell 0
  have c1 : W1.cell? ⟨w.heap.size, 1, none⟩ = some (.string ta) := k01.cell 1
  have c2 : W1.cell? ⟨w.heap.size + 1, 0, none⟩ = some (.int .i64 kb) := k11.cell 0
  have c3 : W1.cell? ⟨w.heap.size + 1, 1, none⟩ = some (.string tb) := k11.cell 1
  have K01 := Lib.hid k01; have K11 := Lib.hid k11; have HB1 := Lib.hid hb1
  clear hb1 k01 k11
  go_enter Tryz.func29, Tryz.ntmps29
  go_wp2_with fail
  ((with_reducible refine (hpa _).mono ?_); rintro _ w2 ⟨rfl, hb2⟩)
  have k02 := K01.out.own hb2
  have k12 := K11.out.own hb2
  have HB2 := Lib.hid (sg.Below.next HB1.out hb2 (Nat.le_refl _))
  clear c0 c1 c2 c3 hW1
  have c0 : w2.cell? ⟨w.heap.size, 0, none⟩ = some (.int .i64 ka) := k02.cell 0
  have c1 : w2.cell? ⟨w.heap.size, 1, none⟩ = some (.string ta) := k02.cell 1
  have c2 : w2.cell? ⟨w.heap.size + 1, 0, none⟩ = some (.int .i64 kb) := k12.cell 0
  have c3 : w2.cell? ⟨w.heap.size + 1, 1, none⟩ = some (.string tb) := k12.cell 1
  have K02 := Lib.hid k02; have K12 := Lib.hid k12
  clear hb2 k02 k12
  go_wp2_with fail
  ((with_reducible refine (hpb _).mono ?_); rintro _ w3 ⟨rfl, hb3⟩)
  have k03 := K02.out.own hb3
  have k13 := K12.out.own hb3
  have HB3 := Lib.hid (sg.Below.next HB2.out hb3 (Nat.le_refl _))
  clear c0 c1 c2 c3
  have c0 : w3.cell? ⟨w.heap.size, 0, none⟩ = some (.int .i64 ka) := k03.cell 0
  have c1 : w3.cell? ⟨w.heap.size, 1, none⟩ = some (.string ta) := k03.cell 1
  have c2 : w3.cell? ⟨w.heap.size + 1, 0, none⟩ = some (.int .i64 kb) := k13.cell 0
  have c3 : w3.cell? ⟨w.heap.size + 1, 1, none⟩ = some (.string tb) := k13.cell 1
  have K03 := Lib.hid k03; have K13 := Lib.hid k13
  clear hb3 k03 k13
  go_wp2_with fail
  ((with_reducible refine (hxa _).mono ?_); rintro _ w4 ⟨rfl, hb4⟩)
  have k04 := K03.out.own hb4
  have k14 := K13.out.own hb4
  have HB4 := Lib.hid (sg.Below.next HB3.out hb4 (Nat.le_refl _))
  clear c0 c1 c2 c3
  have c0 : w4.cell? ⟨w.heap.size, 0, none⟩ = some (.int .i64 ka) := k04.cell 0
  have c1 : w4.cell? ⟨w.heap.size, 1, none⟩ = some (.string ta) := k04.cell 1
  have c2 : w4.cell? ⟨w.heap.size + 1, 0, none⟩ = some (.int .i64 kb) := k14.cell 0
  have c3 : w4.cell? ⟨w.heap.size + 1, 1, none⟩ = some (.string tb) := k14.cell 1
  have K04 := Lib.hid k04; have K14 := Lib.hid k14
  clear hb4 k04 k14
  go_wp2_with fail
  ((with_reducible refine (hxb _).mono ?_); rintro _ w5 ⟨rfl, hb5⟩)
  have k05 := K04.out.own hb5
  have k15 := K14.out.own hb5
  have HB5 := Lib.hid (sg.Below.next HB4.out hb5 (Nat.le_refl _))
  clear c0 c1 c2 c3
  have c0 : w5.cell? ⟨w.heap.size, 0, none⟩ = some (.int .i64 ka) := k05.cell 0
  have c1 : w5.cell? ⟨w.heap.size, 1, none⟩ = some (.string ta) := k05.cell 1
  have c2 : w5.cell? ⟨w.heap.size + 1, 0, none⟩ = some (.int .i64 kb) := k15.cell 0
  have c3 : w5.cell? ⟨w.heap.size + 1, 1, none⟩ = some (.string tb) := k15.cell 1
  have K05 := Lib.hid k05; have K15 := Lib.hid k15
  clear hb5 k05 k15
  go_wp2_with fail
  ((with_reducible refine (hrt _).mono ?_); rintro _ w6 ⟨v6, rfl, ho6, hb6⟩)
  have k06 := K05.out.own hb6
  have k16 := K15.out.own hb6
  have HB6 := Lib.hid (sg.Below.next HB5.out hb6 (Nat.le_refl _))
  clear c0 c1 c2 c3
  have c0 : w6.cell? ⟨w.heap.size, 0, none⟩ = some (.int .i64 ka) := k06.cell 0
  have c1 : w6.cell? ⟨w.heap.size, 1, none⟩ = some (.string ta) := k06.cell 1
  have c2 : w6.cell? ⟨w.heap.size + 1, 0, none⟩ = some (.int .i64 kb) := k16.cell 0
  have c3 : w6.cell? ⟨w.heap.size + 1, 1, none⟩ = some (.string tb) := k16.cell 1
  have htk := own_tks ho6 (by have := HLN.out; unfold maxLen; omega)
  obtain ⟨aa, cc, rfl, _⟩ := own_len ho6
  have HTK := Lib.hid htk
  clear hb6 k06 k16 ho6 htk
  by_cases h0 : er = 0
  · subst h0
    have hb7 : Below w6.heap.size w6 (w6.alloc (.cells #[.int .i64 ka, .string ta, .int .i64 kb, .string tb] 24)) := (Below.refl _ w6).alloc (Nat.le_refl _) _
    have htw := two_rows w6 ka kb ta tb
    have htk2 := (HTK.out.below hb7 (Nat.le_refl _)).mono hb7.size
    have HB7 := Lib.hid (sg.Below.next HB6.out hb7 (Nat.le_refl _))
    obtain ⟨w7, hw7⟩ : ∃ w7, w6.alloc (.cells #[.int .i64 ka, .string ta, .int .i64 kb, .string tb] 24) = w7 := ⟨_, rfl⟩
    rw [hw7] at htw htk2
    have HBp := Lib.hid (show Below w.heap.size w w7 by rw [← hw7]; exact HB7.out)
    have hsm := same_calls _ _ (l.map asTk) [(ka, ta), (kb, tb)] w7 _ htk2 htw (decide (l = [pt (ka, ta), pt (kb, tb)])) (decide_eq_decide.2 (map_pt l _))
    clear hb7 htw htk2 HB7
    go_wp2_with fail
    ((with_reducible refine hsm.mono ?_); rintro _ w8 ⟨rfl, hb8⟩)
    have HB8 := Lib.hid (sg.Below.next HBp.out hb8 (Nat.le_refl _))
    clear hb8
    go_wp2_with fail
    go_ret
    exact ⟨by rw [HX.out]; exact rfl, HB8.out⟩
  · have e0 : (er == 0) = false := beq_eq_false_iff_ne.2 h0
    have hl0 := HEN.out h0
    go_wp2_with fail
    go_ret
    exact ⟨by rw [HX.out, hl0]; rfl, HB6.out⟩
theorem rtight_calls (a b : Tk) (w : World) (hs : a.2.size + b.2.size ≤ 1000) :
    Calls Tryz.prog 29 #[.agg #[.int .i64 a.1, .string a.2], .agg #[.int .i64 b.1, .string b.2]] w fun e w' => e = .returned (.bool (tightB a b)) ∧ Below w.heap.size w w' := by
  obtain ⟨ka, ta⟩ := a
  obtain ⟨kb, tb⟩ := b
  simp only at hs
  cases hia : idleB ka with
  | true => exact rtight_ia ka kb ta tb w hs hia (tb_idle (a := (ka, ta)) (b := (kb, tb)) (.inl hia))
  | false =>
    cases hib : idleB kb with
    | true => exact rtight_ib ka kb ta tb w hs hia hib (tb_idle (a := (ka, ta)) (b := (kb, tb)) (.inr hib))
    | false =>
      cases hsa : strB ka with
      | true =>
        have h13 : ka ≠ 13 := fun e => by subst e; revert hsa; decide
        have h6 : ka ≠ 6 := fun e => by subst e; revert hsa; decide
        exact rtight_n1c1S ka kb ta tb w hs hia hib h6 h13 hsa (tb_str (a := (ka, ta)) (b := (kb, tb)) hia hib (by show ¬ (ka = 6 ∧ (kb = 6 ∨ kb = 3)); omega) (fun e => h13 (congrArg Prod.fst e.1)) (.inl hsa))
      | false =>
        by_cases h6 : ka = 6
        · by_cases k6 : kb = 6
          · exact rtight_n3 ka kb ta tb w hs hia hib h6 k6 (tb_num (a := (ka, ta)) (b := (kb, tb)) h6 (.inl k6))
          · by_cases k3 : kb = 3
            · exact rtight_n4 ka kb ta tb w hs hia hib h6 k6 k3 (tb_num (a := (ka, ta)) (b := (kb, tb)) h6 (.inr k3))
            · have h13 : ka ≠ 13 := by omega
              cases hsb : strB kb with
              | true => exact rtight_n2c1T ka kb ta tb w hs hia hib h6 k6 k3 h13 hsa hsb (tb_str (a := (ka, ta)) (b := (kb, tb)) hia hib (by show ¬ (ka = 6 ∧ (kb = 6 ∨ kb = 3)); omega) (fun e => h13 (congrArg Prod.fst e.1)) (.inr hsb))
              | false => exact rtight_n2c1E ka kb ta tb w hs hia hib h6 k6 k3 h13 hsa hsb (tb_tok (a := (ka, ta)) (b := (kb, tb)) hia hib (by show ¬ (ka = 6 ∧ (kb = 6 ∨ kb = 3)); omega) (fun e => h13 (congrArg Prod.fst e.1)) hsa hsb)
        · by_cases h13 : ka = 13
          · by_cases k13 : kb = 13
            · by_cases hta : ta.data.toList = [58]
              · by_cases htb : tb.data.toList = [58]
                · exact rtight_c5 ka kb ta tb w hs hia hib h6 h13 k13 hta htb (tb_col (a := (ka, ta)) (b := (kb, tb)) (Prod.ext h13 hta) (Prod.ext k13 htb))
                · skip
                  have hsb : strB kb = false := by rw [k13]; rfl
                  exact rtight_n1c4E ka kb ta tb w hs hia hib h6 h13 k13 hta htb hsa hsb (tb_tok (a := (ka, ta)) (b := (kb, tb)) hia hib (by show ¬ (ka = 6 ∧ (kb = 6 ∨ kb = 3)); omega) (fun e => htb (congrArg Prod.snd e.2)) hsa hsb)
              · skip
                have hsb : strB kb = false := by rw [k13]; rfl
                exact rtight_n1c3E ka kb ta tb w hs hia hib h6 h13 k13 hta hsa hsb (tb_tok (a := (ka, ta)) (b := (kb, tb)) hia hib (by show ¬ (ka = 6 ∧ (kb = 6 ∨ kb = 3)); omega) (fun e => hta (congrArg Prod.snd e.1)) hsa hsb)
            · skip
              cases hsb : strB kb with
              | true => exact rtight_n1c2T ka kb ta tb w hs hia hib h6 h13 k13 hsa hsb (tb_str (a := (ka, ta)) (b := (kb, tb)) hia hib (by show ¬ (ka = 6 ∧ (kb = 6 ∨ kb = 3)); omega) (fun e => k13 (congrArg Prod.fst e.2)) (.inr hsb))
              | false => exact rtight_n1c2E ka kb ta tb w hs hia hib h6 h13 k13 hsa hsb (tb_tok (a := (ka, ta)) (b := (kb, tb)) hia hib (by show ¬ (ka = 6 ∧ (kb = 6 ∨ kb = 3)); omega) (fun e => k13 (congrArg Prod.fst e.2)) hsa hsb)
          · skip
            cases hsb : strB kb with
            | true => exact rtight_n1c1T ka kb ta tb w hs hia hib h6 h13 hsa hsb (tb_str (a := (ka, ta)) (b := (kb, tb)) hia hib (by show ¬ (ka = 6 ∧ (kb = 6 ∨ kb = 3)); omega) (fun e => h13 (congrArg Prod.fst e.1)) (.inr hsb))
            | false => exact rtight_n1c1E ka kb ta tb w hs hia hib h6 h13 hsa hsb (tb_tok (a := (ka, ta)) (b := (kb, tb)) hia hib (by show ¬ (ka = 6 ∧ (kb = 6 ∨ kb = 3)); omega) (fun e => h13 (congrArg Prod.fst e.1)) hsa hsb)

end Go.Proofs.YtmoamfcaokefiaaGreatDoor.it

/-
  The document's Line of items: its contract.
-/
namespace Go.Proofs.YtmoamfcaokefiaaGreatDoor.it
open Go.RowKit Go.Shelf
open sg (lst_len OpsAt)
open lx
set_option linter.unusedVariables false

def plainT (ts : List Tk) : List Tk := ts.filter (fun t => !idleB t.1)
def lastT (l : List Tk) : Tk := l.getLastD (7, ⟨#[]⟩)
def lineB (l : List Tk) : ByteArray := ⟨(Lx.lineT TF (l.map pt)).toArray⟩
theorem plainT_no {ts : List Tk} {k : Nat} {t : Tk} (h : ts[k]? = some t) (hi : idleB t.1 = true) : plainT (ts.take (k + 1)) = plainT (ts.take k) := by
  unfold plainT; rw [take_snoc ts k t h, List.filter_append]; simp [hi]
theorem plainT_yes {ts : List Tk} {k : Nat} {t : Tk} (h : ts[k]? = some t) (hi : idleB t.1 = false) : plainT (ts.take (k + 1)) = plainT (ts.take k) ++ [t] := by
  unfold plainT; rw [take_snoc ts k t h, List.filter_append]; simp [hi]
theorem lastT_snoc (l : List Tk) (t : Tk) : lastT (l ++ [t]) = t := by unfold lastT; simp [List.getLastD_eq_getLast?]
theorem ba_eq {a b : ByteArray} (h : a.data.toList = b.data.toList) : a = b := by
  cases a; cases b; congr; exact Array.toList_inj.1 h
theorem tight_first (t : Tk) (hi : idleB t.1 = false) : tightB (7, ⟨#[]⟩) t = true :=
  tb_str (a := (7, ⟨#[]⟩)) (b := t) (by rfl) hi (by show ¬ ((7 : Int) = 6 ∧ _); omega) (fun e => absurd (congrArg Prod.fst e.1) (by show ¬ ((7 : Int) = 13); omega)) (.inl (by rfl))
theorem lineB_snoc (l : List Tk) (t : Tk) (hi : idleB t.1 = false) : lineB (l ++ [t]) = if tightB (lastT l) t = true then lineB l ++ t.2 else lineB l ++ ⟨#[32]⟩ ++ t.2 := by
  cases hl : l.getLast? with
  | none =>
    rw [List.getLast?_eq_none_iff] at hl
    subst hl
    rw [show lastT [] = (7, ⟨#[]⟩) from rfl, tight_first t hi, if_pos rfl]
    refine ba_eq ?_
    simp [lineB, Lx.lineT, Lx.lineGo, pt]
  | some p =>
    have h1 : lastT l = p := by unfold lastT; rw [List.getLastD_eq_getLast?, hl]; rfl
    have h2 : (l.map pt).getLast? = some (pt p) := by rw [List.getLast?_map, hl]; rfl
    have h3 := lineT_snoc TF (l.map pt) (pt p) (pt t) h2
    rw [h1]
    by_cases ht : tightB p t = true
    · rw [if_pos ht]
      refine ba_eq ?_
      have h4 : Lx.gapT TF (pt p) (pt t) = [] := by unfold Lx.gapT; exact if_pos ht
      simp only [lineB, List.map_append, List.map_cons, List.map_nil, h3, h4]
      simp [pt]
    · rw [if_neg ht]
      refine ba_eq ?_
      have h4 : Lx.gapT TF (pt p) (pt t) = [32] := by unfold Lx.gapT; exact if_neg ht
      simp only [lineB, List.map_append, List.map_cons, List.map_nil, h3, h4]
      simp [pt]
theorem sizeT_filter (p : Tk → Bool) (l : List Tk) : sizeT (l.filter p) ≤ sizeT l := by
  induction l with
  | nil => exact Nat.le_refl _
  | cons a r ih =>
    rw [List.filter_cons]
    split
    · simp only [sizeT, List.map_cons, List.sum_cons] at ih ⊢; omega
    · simp only [sizeT, List.map_cons, List.sum_cons] at ih ⊢; omega
theorem sizeT_take (l : List Tk) (k : Nat) : sizeT (l.take k) ≤ sizeT l := by
  have h := congrArg sizeT (List.take_append_drop k l)
  rw [sizeT_both] at h
  omega
theorem lineB_size (l : List Tk) : (lineB l).size ≤ l.length + sizeT l := by
  have h1 := lineT_len TF (l.map pt)
  have h2 : Lx.size (l.map pt) = sizeT l := by
    unfold Lx.size sizeT
    rw [List.map_map]
    congr 1
    try (apply List.map_congr_left; intro t _; exact lst_len t.2)
  rw [h2, List.length_map] at h1
  rw [← lst_len]
  exact h1
theorem lastT_size (l : List Tk) : (lastT l).2.size ≤ sizeT l := by
  cases hl : l.getLast? with
  | none =>
    rw [List.getLast?_eq_none_iff] at hl
    subst hl
    exact Nat.le_refl _
  | some p =>
    have h1 : lastT l = p := by unfold lastT; rw [List.getLastD_eq_getLast?, hl]; rfl
    rw [h1]
    rw [List.getLast?_eq_getElem?] at hl
    exact sz_take l _ p hl
theorem wk1 {k : Nat} (h : k ≤ 100000) : wrap64 ((k : Int) + 1) = ((k + 1 : Nat) : Int) := by rw [IntWalk.wrap64_in]; rfl; omega
theorem meas0 {k n : Nat} (h : k + 1 ≤ n) : n - (intOf (.int .i64 ((k + 1 : Nat) : Int))).toNat < n - (intOf (.int .i64 (k : Int))).toNat := by
  show n - (((k + 1 : Nat) : Int)).toNat < n - ((k : Nat) : Int).toNat
  omega
/-- What a round of Line leans on. -/
structure RL (ts : List Tk) (k : Nat) (t : Tk) : Prop where
  tk : ts[k]? = some t
  s1 : (lastT (plainT (ts.take k))).2.size ≤ 300
  s2 : t.2.size ≤ 300
  s3 : (lineB (plainT (ts.take k))).size ≤ 600
theorem RL.of {ts : List Tk} (hs : sizeT ts ≤ 300) (hl : ts.length ≤ 300) {k : Nat} {t : Tk} (h : ts[k]? = some t) : RL ts k t := by
  have h1 := lastT_size (plainT (ts.take k))
  have h2 : sizeT (plainT (ts.take k)) ≤ sizeT (ts.take k) := sizeT_filter _ _
  have h3 := sizeT_take ts k
  have h4 := lineB_size (plainT (ts.take k))
  have h5 : (plainT (ts.take k)).length ≤ (ts.take k).length := List.length_filter_le _ _
  rw [List.length_take] at h5
  exact ⟨h, by omega, Nat.le_trans (sz_take ts k t h) hs, by omega⟩

set_option maxRecDepth 100000 in
set_option maxHeartbeats 8000000 in
theorem rline_calls (v : Value) (ts : List Tk) (w : World) (h : TksAt w.heap.size w v ts) (hs : sizeT ts ≤ 300) (hl : ts.length ≤ 300) :
    Calls Tryz.prog 33 #[v] w fun e w' => e = .returned (.string (lineB (plainT ts))) ∧ Below w.heap.size w w' := by
  obtain ⟨ao, cap, rfl, hm, hc⟩ := h
  have HC := Lib.hid hc; have HRL := Lib.hid (fun k t => @RL.of ts hs hl k t)
  have hb0 : Below w.heap.size w (w.alloc (.cells #[.int .i64 7, .string ⟨#[]⟩] 24)) := (Below.refl _ w).alloc (Nat.le_refl _) _
  have hk0 : sx.Blk (w.alloc (.cells #[.int .i64 7, .string ⟨#[]⟩] 24)) w.heap.size 24 #[.int .i64 7, .string ⟨#[]⟩] := sx.Blk.new w _ _
  have HB0 := Lib.hid hb0; have HK0 := Lib.hid hk0
  clear hc hs hb0 hk0
  go_enter Tryz.func33, Tryz.ntmps33
  go_wp2_with fail
  go_loopw [3, 5] (fun s i wr => ∃ k : Nat, k ≤ ts.length ∧ i = .int .i64 (k : Int) ∧ s = .string (lineB (plainT (ts.take k))) ∧
    sx.Blk wr w.heap.size 24 #[.int .i64 (lastT (plainT (ts.take k))).1, .string (lastT (plainT (ts.take k))).2] ∧ Below w.heap.size w wr) (fun _ i _ => ts.length - (intOf i).toNat)
  case atStart => exact ⟨0, Nat.zero_le _, rfl, rfl, HK0.out, HB0.out⟩
  case round =>
    obtain ⟨k, hk, rfl, rfl, hq, hb⟩ := hrel
    by_cases hlt : k < ts.length
    · obtain ⟨t, ht⟩ : ∃ t, ts[k]? = some t := ⟨_, List.getElem?_eq_getElem hlt⟩
      obtain ⟨g, off, rfl, hg, c0, c1⟩ := HC.out k t ht
      have hgw := World.block_lt_of_cell? w _ c0
      have d0 := (hb.cell (p := ⟨g, off + k * 2, none⟩) hgw).trans c0
      have d1 := (hb.cell (p := ⟨g, off + k * 2 + 1, none⟩) hgw).trans c1
      have hlt1 : (k : Int) < (ts.length : Int) := by omega
      have hk1l : k + 1 ≤ ts.length := hlt
      have HRK := Lib.hid (HRL.out k t ht)
      have HK3 := Lib.hid (show k ≤ 100000 by omega)
      obtain ⟨P, hP⟩ : ∃ P, lastT (plainT (ts.take k)) = P := ⟨_, rfl⟩
      obtain ⟨L, hL⟩ : ∃ L, lineB (plainT (ts.take k)) = L := ⟨_, rfl⟩
      obtain ⟨kt, tx⟩ := t
      obtain ⟨kp, px⟩ := P
      have hpl := fun w => rplain_calls kt tx w
      rw [hP] at hq
      rw [hL]
      have HP := Lib.hid hP; have HL := Lib.hid hL; have HQ := Lib.hid hq; have HB := Lib.hid hb
      have HG := Lib.hid hgw
      cases hi : idleB kt with
      | true =>
        have HI := Lib.hid hi
        simp only [hi, Bool.not_true] at hpl
        clear hb hq hP hL ht c0 c1 hi hlt hk hgw
        go_wp2_with fail
        ((with_reducible refine (hpl _).mono ?_); rintro _ w2 ⟨rfl, hb2⟩)
        have HB2 := Lib.hid (HB.out.trans (hb2.mono HB.out.size))
        have HQ2 := Lib.hid (HQ.out.own hb2)
        clear hb2 d0 d1
        go_wp2_with fail
        exact ⟨⟨k + 1, hk1l, rfl, by rw [plainT_no HRK.out.tk HI.out, HL.out], by rw [plainT_no HRK.out.tk HI.out, HP.out]; exact HQ2.out, HB2.out⟩, by simp [intOf]; omega⟩
      | false =>
        have HI := Lib.hid hi
        simp only [hi, Bool.not_false] at hpl
        clear hb hq hP hL ht c0 c1 hi hlt hk hgw
        go_wp2_with fail
        ((with_reducible refine (hpl _).mono ?_); rintro _ w2 ⟨rfl, hb2⟩)
        have HB2 := Lib.hid (HB.out.trans (hb2.mono HB.out.size))
        have hq2 := HQ.out.own hb2
        have e0 : w2.cell? ⟨g, off + k * 2, none⟩ = some (.int .i64 kt) := (hb2.cell (World.block_lt_of_cell? wr _ d0)).trans d0
        have e1 : w2.cell? ⟨g, off + k * 2 + 1, none⟩ = some (.string tx) := (hb2.cell (World.block_lt_of_cell? wr _ d1)).trans d1
        have b0 : w2.cell? ⟨w.heap.size, 0, none⟩ = some (.int .i64 kp) := hq2.cell 0
        have b1 : w2.cell? ⟨w.heap.size, 1, none⟩ = some (.string px) := hq2.cell 1
        have hrt := fun w => rtight_calls (kp, px) (kt, tx) w (by have h1 := HRK.out.s1; have h2 := HRK.out.s2; rw [HP.out] at h1; simp only at h1 h2 ⊢; omega)
        have hsn := lineB_snoc (plainT (ts.take k)) (kt, tx) HI.out
        rw [HP.out, HL.out, ← plainT_yes HRK.out.tk HI.out] at hsn
        have hls := HRK.out.s3
        rw [HL.out] at hls
        have hts := HRK.out.s2
        have HQ2 := Lib.hid hq2
        clear hb2 d0 d1 hq2
        cases htb : tightB (kp, px) (kt, tx) with
        | true =>
          rw [htb, if_pos rfl] at hsn
          simp only [htb] at hrt
          have i0 := fun y : ed.In w2 => y.cell e0
          have i1 := fun y : ed.In w2 => y.cell e1
          have i2 := fun y : ed.In w2 => y.cell b0
          have i3 := fun y : ed.In w2 => y.cell b1
          have hnc : ¬ 9223372036854775807 < L.size + tx.size := by simp only at hts; omega
          have HSN := Lib.hid hsn
          clear hsn hls hts htb
          go_wp2_with fail
          refine ed.wp_region_in (by kernel_rfl) (by kernel_rfl) ?_
          repeat (go_big_quiet_step (first | (go_at_call 29; refine ed.Calls.in_of (hrt _))))
          with_reducible refine wpQuiet_nil ?_
          rintro _ ⟨y, rfl⟩
          have hq3 := HQ2.out.own y.h
          have z0 := hq3.frozen 0
          have z1 := hq3.frozen 1
          have hq4 := (hq3.set (o := 0) (.int .i64 kt)).set (o := 1) (.string tx)
          have hb4 : Below w.heap.size w ((y.u.setCell ⟨w.heap.size, 0, none⟩ (.int .i64 kt)).setCell ⟨w.heap.size, 1, none⟩ (.string tx)) := ((HB2.out.trans (y.h.mono HB2.out.size)).setCell (Nat.le_refl _) _).setCell (Nat.le_refl _) _
          have HQ4 := Lib.hid hq4; have HB4 := Lib.hid hb4
          clear hq3 hq4 hb4
          go_wp2_with fail
          exact ⟨⟨k + 1, hk1l, rfl, by rw [HSN.out], by rw [plainT_yes HRK.out.tk HI.out, lastT_snoc]; exact HQ4.out, HB4.out⟩, by simp [intOf]; omega⟩
        | false =>
          rw [htb, if_neg Bool.false_ne_true] at hsn
          simp only [htb] at hrt
          have i0 := fun y : ed.In w2 => y.cell e0
          have i1 := fun y : ed.In w2 => y.cell e1
          have i2 := fun y : ed.In w2 => y.cell b0
          have i3 := fun y : ed.In w2 => y.cell b1
          have hnc : ¬ 9223372036854775807 < L.size + (⟨#[32]⟩ : ByteArray).size := by show ¬ 9223372036854775807 < L.size + 1; omega
          have hnc1 : ¬ 9223372036854775807 < L.size + 1 := by omega
          have hnc2 : ¬ 9223372036854775807 < (L ++ (⟨#[32]⟩ : ByteArray)).size + tx.size := by rw [ByteArray.size_append]; simp only at hts; show ¬ 9223372036854775807 < L.size + 1 + tx.size; omega
          have HSN := Lib.hid hsn
          clear hsn hls hts htb
          go_wp2_with fail
          refine ed.wp_region_in (by kernel_rfl) (by kernel_rfl) ?_
          repeat (go_big_quiet_step (first | (go_at_call 29; refine ed.Calls.in_of (hrt _))))
          with_reducible refine wpQuiet_nil ?_
          rintro _ ⟨y, rfl⟩
          have hq3 := HQ2.out.own y.h
          have z0 := hq3.frozen 0
          have z1 := hq3.frozen 1
          have hq4 := (hq3.set (o := 0) (.int .i64 kt)).set (o := 1) (.string tx)
          have hb4 : Below w.heap.size w ((y.u.setCell ⟨w.heap.size, 0, none⟩ (.int .i64 kt)).setCell ⟨w.heap.size, 1, none⟩ (.string tx)) := ((HB2.out.trans (y.h.mono HB2.out.size)).setCell (Nat.le_refl _) _).setCell (Nat.le_refl _) _
          have HQ4 := Lib.hid hq4; have HB4 := Lib.hid hb4
          clear hq3 hq4 hb4
          go_wp2_with fail
          exact ⟨⟨k + 1, hk1l, rfl, by rw [HSN.out], by rw [plainT_yes HRK.out.tk HI.out, lastT_snoc]; exact HQ4.out, HB4.out⟩, by simp [intOf]; omega⟩
    · obtain rfl : k = ts.length := by omega
      have hge : decide ((ts.length : Int) < (ts.length : Int)) = false := by simp
      have HB := Lib.hid hb
      rw [List.take_length] at hq ⊢
      clear hb hq
      go_wp2_with fail
      go_ret
      exact ⟨rfl, HB.out⟩
end Go.Proofs.YtmoamfcaokefiaaGreatDoor.it

/-
  Runs of a row with one token more: the mathematics of the document's Items.
-/
namespace Go.Proofs.YtmoamfcaokefiaaGreatDoor.it
open Go.RowKit Go.Shelf
open sg (lst_len OpsAt)
open lx sx
set_option linter.unusedVariables false

theorem aheadU_snoc (l : List Tk) (t : Tk) : aheadU (l ++ [t]) = if aheadU l < l.length then aheadU l else if idleB t.1 then l.length + 1 else l.length := by
  induction l with
  | nil =>
    rw [List.nil_append, aheadU_cons]
    simp [show aheadU [] = 0 from rfl]
  | cons x r ih =>
    rw [List.cons_append, aheadU_cons, aheadU_cons]
    cases hx : idleB x.1 with
    | false => simp
    | true =>
      simp only [if_true, List.length_cons]
      rw [ih]
      by_cases h : aheadU r < r.length
      · have h2 : aheadU r + 1 < r.length + 1 := by omega
        simp only [if_pos h, if_pos h2]
      · have h2 : ¬ aheadU r + 1 < r.length + 1 := by omega
        simp only [if_neg h, if_neg h2]
        cases idleB t.1 <;> simp
theorem runsFrom_plain (a p : Nat) (l : List Tk) (t : Tk) (hi : idleB t.1 = false) : runsFrom a p (l ++ [t]) = runsFrom a p l ++ [⟨a + sizeT l, p + l.length, [t]⟩] := by
  generalize hn : l.length = m
  induction m using Nat.strongRecOn generalizing a p l with
  | ind m ih =>
    subst hn
    cases l with
    | nil =>
      rw [List.nil_append, runsFrom, runsFrom]
      simp [aheadU, fidx, runsFrom, sizeT]
    | cons x r =>
      have hk := aheadU_le r
      have hah : aheadU (r ++ [t]) = aheadU r := by
        rw [aheadU_snoc]
        split
        · rfl
        · rw [hi]; simp; omega
      rw [List.cons_append, runsFrom, runsFrom, hah, List.take_append_of_le_length hk, List.drop_append_of_le_length hk]
      have := ih (r.drop (aheadU r)).length (by rw [List.length_drop, List.length_cons]; omega) (a + sizeT (x :: r.take (aheadU r))) (p + (1 + aheadU r)) (r.drop (aheadU r)) rfl
      rw [this, List.cons_append]
      have e1 : sizeT (x :: r) = sizeT (x :: r.take (aheadU r)) + sizeT (r.drop (aheadU r)) := by
        rw [← sizeT_both, List.cons_append, List.take_append_drop]
      have e2 : (r.drop (aheadU r)).length = r.length - aheadU r := List.length_drop
      rw [e1, e2, List.length_cons, show a + sizeT (x :: r.take (aheadU r)) + sizeT (r.drop (aheadU r)) = a + (sizeT (x :: r.take (aheadU r)) + sizeT (r.drop (aheadU r))) by omega, show p + (1 + aheadU r) + (r.length - aheadU r) = p + (r.length + 1) by omega]
theorem runsFrom_ne (a p : Nat) (x : Tk) (r : List Tk) : runsFrom a p (x :: r) ≠ [] := by rw [runsFrom]; simp
theorem runsFrom_idle (a p : Nat) (l : List Tk) (t : Tk) (hi : idleB t.1 = true) (hl : l ≠ []) :
    ∃ pre x, runsFrom a p l = pre ++ [x] ∧ runsFrom a p (l ++ [t]) = pre ++ [⟨x.at', x.p, x.l ++ [t]⟩] ∧ x.l ≠ [] := by
  generalize hn : l.length = m
  induction m using Nat.strongRecOn generalizing a p l with
  | ind m ih =>
    subst hn
    cases l with
    | nil => exact absurd rfl hl
    | cons x r =>
      have hk := aheadU_le r
      rw [List.cons_append, runsFrom, runsFrom]
      by_cases hlt : aheadU r < r.length
      · have hah : aheadU (r ++ [t]) = aheadU r := by rw [aheadU_snoc, if_pos hlt]
        rw [hah, List.take_append_of_le_length hk, List.drop_append_of_le_length hk]
        obtain ⟨pre, y, h1, h2, h3⟩ := ih (r.drop (aheadU r)).length (by rw [List.length_drop, List.length_cons]; omega) (a + sizeT (x :: r.take (aheadU r))) (p + (1 + aheadU r)) (r.drop (aheadU r)) (fun e => by have := congrArg List.length e; rw [List.length_drop] at this; simp at this; omega) rfl
        rw [h1, h2]
        exact ⟨_ :: pre, y, rfl, rfl, h3⟩
      · have hall : aheadU r = r.length := by omega
        have hah : aheadU (r ++ [t]) = r.length + 1 := by rw [aheadU_snoc, if_neg hlt, hi]; rfl
        rw [hah, hall, List.take_length, List.drop_length, runsFrom, List.take_of_length_le (by simp), List.drop_of_length_le (by simp), runsFrom]
        exact ⟨[], ⟨a, p, x :: r⟩, rfl, rfl, by simp⟩
/-- The notes ahead of all. -/
def leadU (l : List Tk) : List ByteArray := notesU (l.take (aheadU l))
theorem runs_empty {l : List Tk} : runsU l = [] ↔ aheadU l = l.length := by
  unfold runsU
  have hk := aheadU_le l
  cases hd : l.drop (aheadU l) with
  | nil =>
    have := congrArg List.length hd
    rw [List.length_drop] at this
    simp at this
    exact ⟨fun _ => by omega, fun _ => by rw [runsFrom]⟩
  | cons x r =>
    have := congrArg List.length hd
    rw [List.length_drop, List.length_cons] at this
    exact ⟨fun e => absurd e (runsFrom_ne _ _ _ _), fun e => by omega⟩
/-- One that counts. -/
theorem step_plain (l : List Tk) (t : Tk) (hi : idleB t.1 = false) : runsU (l ++ [t]) = runsU l ++ [⟨sizeT l, l.length, [t]⟩] ∧ leadU (l ++ [t]) = leadU l := by
  have hk := aheadU_le l
  have hah : aheadU (l ++ [t]) = aheadU l := by
    rw [aheadU_snoc]
    split
    · rfl
    · rw [hi]; simp; omega
  constructor
  · unfold runsU
    rw [hah, List.take_append_of_le_length hk, List.drop_append_of_le_length hk, runsFrom_plain _ _ _ _ hi]
    congr 1
    have e1 := congrArg sizeT (List.take_append_drop (aheadU l) l)
    rw [sizeT_both] at e1
    rw [e1, List.length_drop, show aheadU l + (l.length - aheadU l) = l.length by omega]
  · unfold leadU
    rw [hah, List.take_append_of_le_length hk]
/-- One that does not, ahead of all. -/
theorem step_lead (l : List Tk) (t : Tk) (hi : idleB t.1 = true) (hr : runsU l = []) : runsU (l ++ [t]) = [] ∧ leadU (l ++ [t]) = leadU l ++ notesU [t] := by
  have h0 := runs_empty.1 hr
  have hah : aheadU (l ++ [t]) = l.length + 1 := by rw [aheadU_snoc, if_neg (by omega), hi]; rfl
  constructor
  · rw [runs_empty, hah]; simp
  · unfold leadU
    rw [hah, h0, List.take_length, List.take_of_length_le (by simp), notesU_app]
/-- One that does not, behind one that does. -/
theorem step_behind (l : List Tk) (t : Tk) (hi : idleB t.1 = true) (hr : runsU l ≠ []) :
    (∃ pre x, runsU l = pre ++ [x] ∧ runsU (l ++ [t]) = pre ++ [⟨x.at', x.p, x.l ++ [t]⟩] ∧ x.l ≠ []) ∧ leadU (l ++ [t]) = leadU l := by
  have hk := aheadU_le l
  have hlt : aheadU l < l.length := by
    have h1 : ¬ aheadU l = l.length := fun e => hr (runs_empty.2 e)
    omega
  have hah : aheadU (l ++ [t]) = aheadU l := by rw [aheadU_snoc, if_pos hlt]
  constructor
  · unfold runsU
    rw [hah, List.take_append_of_le_length hk, List.drop_append_of_le_length hk]
    exact runsFrom_idle _ _ _ _ hi (fun e => by have := congrArg List.length e; rw [List.length_drop] at this; simp at this; omega)
  · unfold leadU
    rw [hah, List.take_append_of_le_length hk]
theorem head_app {l : List Tk} (h : l ≠ []) (m : List Tk) (d : Tk) : (l ++ m).headD d = l.headD d := by
  cases l with
  | nil => exact absurd rfl h
  | cons a r => rfl
end Go.Proofs.YtmoamfcaokefiaaGreatDoor.it

/-
  The document's comparison of items, of two rows that hold the same.
-/
namespace Go.Proofs.YtmoamfcaokefiaaGreatDoor.it
open Go.RowKit Go.Shelf
open sg (lst_len OpsAt)
open lx sx
set_option linter.unusedVariables false

theorem StrsAt.mono {n m : Nat} {W : World} {v : Value} {l : List ByteArray} (h : StrsAt n W v l) (hm : n ≤ m) : StrsAt m W v l := by
  obtain ⟨ao, cap, h1, h2, h3⟩ := h
  refine ⟨ao, cap, h1, h2, fun i e he => ?_⟩
  obtain ⟨g, off, e1, hg, c0⟩ := h3 i e he
  exact ⟨g, off, e1, Nat.lt_of_lt_of_le hg hm, c0⟩
/-- Items that lie below n. -/
def ItemsAt (n : Nat) (W : World) (v : Value) (rs : List Run) : Prop :=
  ∃ ao cap, v = .slice ao rs.length cap ∧ rs.length ≤ maxLen ∧ ∀ (j : Nat) (x : Run), rs[j]? = some x → ∃ g nv, ao = some ⟨g, 0, none⟩ ∧ g < n ∧ W.cell? ⟨g, j * 4, none⟩ = some (.int .i64 (x.l.headD (0, ⟨#[]⟩)).1) ∧
    W.cell? ⟨g, j * 4 + 1, none⟩ = some (.string (x.l.headD (0, ⟨#[]⟩)).2) ∧ W.cell? ⟨g, j * 4 + 2, none⟩ = some (.int .i64 (x.at' : Int)) ∧ W.cell? ⟨g, j * 4 + 3, none⟩ = some nv ∧ StrsAt n W nv (notesU x.l)
theorem ItemsAt.below {n m : Nat} {W W' : World} {v : Value} {rs : List Run} (h : ItemsAt n W v rs) (hb : Below m W W') (hm : n ≤ m) : ItemsAt n W' v rs := by
  obtain ⟨ao, cap, h1, h2, h3⟩ := h
  refine ⟨ao, cap, h1, h2, fun j x hx => ?_⟩
  obtain ⟨g, nv, e1, hg, c0, c1, c2, c3, hs⟩ := h3 j x hx
  have hgm := Nat.lt_of_lt_of_le hg hm
  exact ⟨g, nv, e1, hg, (hb.cell (p := ⟨g, _, none⟩) hgm).trans c0, (hb.cell (p := ⟨g, _, none⟩) hgm).trans c1, (hb.cell (p := ⟨g, _, none⟩) hgm).trans c2, (hb.cell (p := ⟨g, _, none⟩) hgm).trans c3, hs.below hb hm⟩
theorem ItemsAt.mono {n m : Nat} {W : World} {v : Value} {rs : List Run} (h : ItemsAt n W v rs) (hm : n ≤ m) : ItemsAt m W v rs := by
  obtain ⟨ao, cap, h1, h2, h3⟩ := h
  refine ⟨ao, cap, h1, h2, fun j x hx => ?_⟩
  obtain ⟨g, nv, e1, hg, c0, c1, c2, c3, hs⟩ := h3 j x hx
  exact ⟨g, nv, e1, Nat.lt_of_lt_of_le hg hm, c0, c1, c2, c3, hs.mono hm⟩
theorem own_items {W : World} {base : Nat} {v : Value} {rs : List Run} {nvs : List Value} (h : W.ownsRow base 39 4 v rs.length (itemCells rs nvs)) (hN : NotesAt base W rs nvs) : ItemsAt W.heap.size W v rs := by
  obtain ⟨ao, cap, rfl, hc⟩ := own_len h
  have hm : rs.length ≤ maxLen := by
    rcases h.2 with ⟨_, h0⟩ | ⟨g, cap', cur, hv, h2, h3, h4⟩
    · rw [h0]; exact Nat.zero_le _
    · exact Nat.le_trans h4.1 h4.2.1
  refine ⟨ao, cap, rfl, hm, fun j x hx => ?_⟩
  obtain ⟨g, nv, hg, hgl, _, c0, c1, c2, c3, ho⟩ := item_get (n := 0) h hN j x hx
  exact ⟨g, nv, hg, hgl, c0, c1, c2, c3, own_strs ho⟩
theorem same_meas {k n : Nat} (h : k + 1 ≤ n) : n - (intOf (.int .i64 ((k + 1 : Nat) : Int))).toNat < n - (intOf (.int .i64 (k : Int))).toNat := by
  show n - (((k + 1 : Nat) : Int)).toNat < n - ((k : Nat) : Int).toNat
  omega
theorem same_wk {k n : Nat} (h : k < n) (hn : n ≤ 1000000000000) : wrap64 ((k : Int) + 1) = ((k + 1 : Nat) : Int) := by rw [IntWalk.wrap64_in]; rfl; omega

set_option maxRecDepth 100000 in
set_option maxHeartbeats 4000000 in
theorem same5_calls (u v : Value) (rs : List Run) (w : World) (n : Nat) (ha : ItemsAt n w u rs) (hb : ItemsAt n w v rs) (hlen : rs.length ≤ 1000) (hnl : ∀ x ∈ rs, (notesU x.l).length ≤ 1000) :
    Calls Tryz.prog 31 #[u, v] w fun e w' => e = .returned (.bool true) ∧ Below w.heap.size w w' := by
  obtain ⟨ao, cap, rfl, hm, hc⟩ := ha
  obtain ⟨bo, cap2, rfl, _, hc2⟩ := hb
  obtain ⟨N, hN⟩ : ∃ N, rs.length = N := ⟨_, rfl⟩
  rw [hN] at hlen ⊢
  have HC := Lib.hid hc; have HC2 := Lib.hid hc2; have HNL := Lib.hid hnl; have HLEN := Lib.hid hlen; have HN := Lib.hid hN
  clear hc hc2 hnl hlen hm hN
  go_enter Tryz.func31, Tryz.ntmps31
  go_wp2_with fail
  go_loopw [5] (fun i wr => ∃ k : Nat, k ≤ N ∧ i = .int .i64 (k : Int) ∧ Below w.heap.size w wr) (fun i _ => N - (intOf i).toNat)
  case atStart => exact ⟨0, Nat.zero_le _, rfl, Below.refl _ _⟩
  case round =>
    obtain ⟨k, hk, rfl, hb⟩ := hrel
    by_cases hlt : k < N
    · obtain ⟨x, hx⟩ : ∃ x, rs[k]? = some x := ⟨_, List.getElem?_eq_getElem (by rw [HN.out]; exact hlt)⟩
      obtain ⟨g, nv, rfl, hg, c0, c1, c2, c3, hs⟩ := HC.out k x hx
      obtain ⟨g2, nv2, rfl, hg2, e0, e1, e2, e3, hs2⟩ := HC2.out k x hx
      have hb1 := hb
      obtain ⟨na, nc, rfl, _, hns⟩ := hs
      obtain ⟨na2, nc2, rfl, _, hns2⟩ := hs2
      obtain ⟨⟨K, T⟩, hKT⟩ : ∃ t : Tk, x.l.headD (0, ⟨#[]⟩) = t := ⟨_, rfl⟩
      obtain ⟨A, hA⟩ : ∃ a, x.at' = a := ⟨_, rfl⟩
      obtain ⟨M, hM⟩ : ∃ m, (notesU x.l).length = m := ⟨_, rfl⟩
      have hML := HNL.out x (List.mem_of_getElem? hx)
      rw [hKT] at c0 c1 e0 e1
      rw [hA] at c2 e2
      rw [hM] at c3 e3 hML
      have HCELL := Lib.hid (show ∀ wz, Below w.heap.size w wz → (wz.cell? ⟨g, k * 4, none⟩ = some (.int .i64 K) ∧ wz.cell? ⟨g, k * 4 + 1, none⟩ = some (.string T) ∧ wz.cell? ⟨g, k * 4 + 2, none⟩ = some (.int .i64 (A : Int)) ∧ wz.cell? ⟨g, k * 4 + 3, none⟩ = some (.slice na M nc)) ∧
          (wz.cell? ⟨g2, k * 4, none⟩ = some (.int .i64 K) ∧ wz.cell? ⟨g2, k * 4 + 1, none⟩ = some (.string T) ∧ wz.cell? ⟨g2, k * 4 + 2, none⟩ = some (.int .i64 (A : Int)) ∧ wz.cell? ⟨g2, k * 4 + 3, none⟩ = some (.slice na2 M nc2)) from fun wz hz =>
        ⟨⟨(hz.cell (World.block_lt_of_cell? w _ c0)).trans c0, (hz.cell (World.block_lt_of_cell? w _ c1)).trans c1, (hz.cell (World.block_lt_of_cell? w _ c2)).trans c2, (hz.cell (World.block_lt_of_cell? w _ c3)).trans c3⟩,
          ⟨(hz.cell (World.block_lt_of_cell? w _ e0)).trans e0, (hz.cell (World.block_lt_of_cell? w _ e1)).trans e1, (hz.cell (World.block_lt_of_cell? w _ e2)).trans e2, (hz.cell (World.block_lt_of_cell? w _ e3)).trans e3⟩⟩)
      obtain ⟨⟨d0, d1, d2, d3⟩, f0, f1, f2, f3⟩ := HCELL.out wr hb
      have hlt1 : (k : Int) < (N : Int) := by omega
      have hk1l : k + 1 ≤ N := hlt
      have HK := Lib.hid (show N ≤ 1000000000000 by have := HLEN.out; omega)
      have HLT := Lib.hid hlt
      have HB := Lib.hid hb; have HS := Lib.hid hns; have HS2 := Lib.hid hns2; have HM := Lib.hid hM; have HML := Lib.hid hML
      clear hb hb1 c0 c1 c2 c3 e0 e1 e2 e3 hx hKT hA hns hns2 hM hML hlt hg hg2
      go_wp2_with fail
      go_region
      go_wp2_with fail
      have hb7 : Below w.heap.size w wr.drew := HB.out.drew
      have HB7 := Lib.hid hb7
      clear d0 d1 d2 d3 f0 f1 f2 f3 hb7
      go_loopw [6] (fun i wz => ∃ m : Nat, m ≤ M ∧ i = .int .i64 (m : Int) ∧ Below w.heap.size w wz) (fun i _ => M - (intOf i).toNat)
      case atStart => exact ⟨0, Nat.zero_le _, rfl, HB7.out⟩
      case round =>
        obtain ⟨m, hm, rfl, hz⟩ := hrel
        obtain ⟨⟨d0, d1, d2, d3⟩, f0, f1, f2, f3⟩ := HCELL.out _ hz
        by_cases hlm : m < M
        · obtain ⟨s, hs⟩ : ∃ s, (notesU x.l)[m]? = some s := ⟨_, List.getElem?_eq_getElem (by rw [HM.out]; exact hlm)⟩
          obtain ⟨h1, o1, rfl, _, n1⟩ := HS.out m s hs
          obtain ⟨h2, o2, rfl, _, n2⟩ := HS2.out m s hs
          have t1 := (hz.cell (World.block_lt_of_cell? w _ n1)).trans n1
          have t2 := (hz.cell (World.block_lt_of_cell? w _ n2)).trans n2
          have hlm1 : (m : Int) < (M : Int) := by omega
          have hm1l : m + 1 ≤ M := hlm
          have hwm := same_wk hlm (by have := HML.out; omega)
          have HZ := Lib.hid hz
          clear hz n1 n2 hs hlm hm
          go_wp2_with fail
          go_region
          go_wp2_with fail
          exact ⟨⟨m + 1, hm1l, by rw [hwm], HZ.out.drew⟩, by rw [hwm]; exact same_meas hm1l⟩
        · obtain rfl : m = M := by omega
          have hge : decide ((m : Int) < (m : Int)) = false := by simp
          have HZ := Lib.hid hz
          have hwk := same_wk HLT.out HK.out
          clear hz hlm hm
          go_wp2_with fail
          exact ⟨⟨k + 1, hk1l, by rw [hwk], HZ.out⟩, by rw [hwk]; exact same_meas hk1l⟩
    · obtain rfl : k = N := by omega
      have hge : decide ((k : Int) < (k : Int)) = false := by simp
      go_wp2_with fail
      go_ret
      exact ⟨rfl, hb⟩
end Go.Proofs.YtmoamfcaokefiaaGreatDoor.it

/-
  The document's Items: its contract.
-/
namespace Go.Proofs.YtmoamfcaokefiaaGreatDoor.it
open Go.RowKit Go.Shelf
open sg (lst_len OpsAt)
open lx sx
attribute [local go_sem] Oper.semAt_some
set_option linter.unusedVariables false

theorem own_not {W : World} {base size n g : Nat} {e e2 : TypeId} {v : Value} {xs : List Value} (h : W.ownsRow base e size v n xs) (hg : ∃ c, W.heap[g]? = some (.cells c e2 (0, 0))) (hne : e ≠ e2) : v.ownBlock ≠ some g := by
  intro hv
  rcases h.2 with ⟨rfl, _⟩ | ⟨g', cap, cur, rfl, h2, h3, h4⟩
  · simp [Value.ownBlock] at hv
  · obtain rfl : g' = g := by simpa [Value.ownBlock] using hv
    obtain ⟨c, hc⟩ := hg
    rw [h3] at hc
    cases hc
    exact hne rfl
theorem notesAt_init {base : Nat} {W : World} {pre : List Run} {x : Run} {nvp : List Value} {nv : Value} (hl : nvp.length = pre.length) (h : NotesAt base W (pre ++ [x]) (nvp ++ [nv])) : NotesAt base W pre nvp ∧ W.ownsRow base 9 1 nv (notesU x.l).length (strs (notesU x.l)) := by
  induction pre generalizing nvp with
  | nil => cases nvp with
    | nil => exact ⟨trivial, h.1⟩
    | cons _ _ => cases hl
  | cons y ys ih => cases nvp with
    | nil => cases hl
    | cons mv mvs => exact ⟨⟨h.1, (ih (by simpa using hl) h.2).1⟩, (ih (by simpa using hl) h.2).2⟩
theorem nvs_snoc {base : Nat} {W : World} {pre : List Run} {x : Run} {nvs : List Value} (h : NotesAt base W (pre ++ [x]) nvs) : ∃ a b, nvs = a ++ [b] ∧ a.length = pre.length := by
  have hl := h.len
  rw [List.length_append] at hl
  refine ⟨nvs.dropLast, nvs.getLast (fun e => by subst e; simp at hl), (List.dropLast_concat_getLast _).symm, ?_⟩
  rw [List.length_dropLast, hl]; simp
/-- What a round of the document's Items leaves. -/
structure RI (w : World) (ts : List Tk) (k : Nat) (ld ot : Value) (wr : World) : Prop where
  lead : wr.ownsRow w.heap.size 9 1 ld (leadU (ts.take k)).length (strs (leadU (ts.take k)))
  out : ∃ nvs, wr.ownsRow w.heap.size 39 4 ot (runsU (ts.take k)).length (itemCells (runsU (ts.take k)) nvs) ∧ NotesAt w.heap.size wr (runsU (ts.take k)) nvs
  hb : Below w.heap.size w wr
theorem RI.zero (w : World) (ts : List Tk) : RI w ts 0 (.slice none 0 0) (.slice none 0 0) w :=
  ⟨World.ownsRow_nil _ _ _ _, ⟨[], by rw [List.take_zero, runsU_nil]; exact ⟨World.ownsRow_nil _ _ _ _, trivial⟩⟩, Below.refl _ _⟩
theorem RI.size {w wr : World} {ts : List Tk} {k : Nat} {ld ot : Value} (h : RI w ts k ld ot wr) : w.heap.size ≤ wr.heap.size := h.hb.size
theorem RI.next {w wr wz : World} {ts : List Tk} {k : Nat} {ld ot : Value} (h : RI w ts k ld ot wr) (hb : Below wr.heap.size wr wz) : RI w ts k ld ot wz := by
  obtain ⟨nvs, h1, h2⟩ := h.out
  exact ⟨ownsRow_below h.lead hb, ⟨nvs, ownsRow_below h1 hb, h2.own hb⟩, h.hb.trans (hb.mono h.size)⟩
/-- One that counts. -/
theorem RI.plain {w wr w3 : World} {ts : List Tk} {k : Nat} {ld ot v' : Value} {kt : Int} {tx : ByteArray} {nvs : List Value} (h : RI w ts k ld ot wr) (ht : ts[k]? = some (kt, tx)) (hi : idleB kt = false)
    (ho : wr.ownsRow w.heap.size 39 4 ot (runsU (ts.take k)).length (itemCells (runsU (ts.take k)) nvs)) (hN : NotesAt w.heap.size wr (runsU (ts.take k)) nvs)
    (hown : w3.ownsRow w.heap.size 39 4 v' ((runsU (ts.take k)).length + 1) (itemCells (runsU (ts.take k)) nvs ++ [.int .i64 kt, .string tx, .int .i64 (sizeT (ts.take k) : Int), .slice none 0 0]))
    {o : Obj} (hg : (wr.alloc o).grownBy w3 ot.ownBlock) : RI w ts (k + 1) ld v' w3 := by
  obtain ⟨hr, hl⟩ := step_plain (ts.take k) (kt, tx) hi
  have htk := take_snoc ts k (kt, tx) ht
  rw [← htk] at hr hl
  have hne2 : kt ≠ 2 := fun e => by rw [e] at hi; exact absurd hi (by decide)
  obtain ⟨hbx, hko, hbe, hty⟩ := appended (Below.refl _ wr) ho hg h.size
  refine ⟨?_, ⟨nvs ++ [.slice none 0 0], ?_, ?_⟩, h.hb.trans hbe⟩
  · rw [hl]
    exact own_typed h.lead (by decide) hty
  · rw [hr, List.length_append, itemCells_snoc hN.len]
    exact hown
  · rw [hr]
    refine (hN.typed (by decide) hty).snoc ?_
    have e0 : notesU [(kt, tx)] = [] := notesU_no [] (kt, tx) hne2
    rw [show (⟨sizeT (ts.take k), (ts.take k).length, [(kt, tx)]⟩ : Run).l = [(kt, tx)] from rfl, e0]
    exact World.ownsRow_nil _ _ _ _
/-- A space. -/
theorem RI.space {w wr : World} {ts : List Tk} {k : Nat} {ld ot : Value} {kt : Int} {tx : ByteArray} (h : RI w ts k ld ot wr) (ht : ts[k]? = some (kt, tx)) (hi : idleB kt = true) (h2 : kt ≠ 2) : RI w ts (k + 1) ld ot wr := by
  have htk := take_snoc ts k (kt, tx) ht
  have e0 : ∀ l : List Tk, notesU (l ++ [(kt, tx)]) = notesU l := fun l => notesU_no l (kt, tx) h2
  obtain ⟨nvs, ho, hN⟩ := h.out
  by_cases hr : runsU (ts.take k) = []
  · obtain ⟨h1, h3⟩ := step_lead (ts.take k) (kt, tx) hi hr
    rw [← htk] at h1 h3
    have e1 : notesU [(kt, tx)] = [] := e0 []
    rw [e1, List.append_nil] at h3
    rw [hr] at ho hN
    exact ⟨by rw [h3]; exact h.lead, ⟨nvs, by rw [h1]; exact ho, by rw [h1]; exact hN⟩, h.hb⟩
  · obtain ⟨⟨pre, x, p1, p2, p3⟩, h3⟩ := step_behind (ts.take k) (kt, tx) hi hr
    rw [← htk] at p2 h3
    rw [p1] at ho hN
    refine ⟨by rw [h3]; exact h.lead, ⟨nvs, ?_, ?_⟩, h.hb⟩
    all_goals rw [p2]
    · obtain ⟨nvp, nv, rfl, hlp⟩ := nvs_snoc hN
      rw [itemCells_snoc hlp] at ho ⊢
      rw [List.length_append] at ho ⊢
      simp only [head_app p3]
      exact ho
    · obtain ⟨nvp, nv, rfl, hlp⟩ := nvs_snoc hN
      obtain ⟨hp, hx⟩ := notesAt_init hlp hN
      refine hp.snoc ?_
      rw [show (⟨x.at', x.p, x.l ++ [(kt, tx)]⟩ : Run).l = x.l ++ [(kt, tx)] from rfl, e0]
      exact hx
/-- A note ahead of all. -/
theorem RI.ahead {w wr w3 : World} {ts : List Tk} {k : Nat} {ld ot v' : Value} {tx : ByteArray} (h : RI w ts k ld ot wr) (ht : ts[k]? = some (2, tx)) (hr : (runsU (ts.take k)).length = 0)
    (hown : w3.ownsRow w.heap.size 9 1 v' ((leadU (ts.take k)).length + 1) (strs (leadU (ts.take k)) ++ [.string tx]))
    {o : Obj} (hg : (wr.alloc o).grownBy w3 ld.ownBlock) : RI w ts (k + 1) v' ot w3 := by
  have hr0 := List.length_eq_zero_iff.1 hr
  have htk := take_snoc ts k (2, tx) ht
  obtain ⟨h1, h3⟩ := step_lead (ts.take k) (2, tx) rfl hr0
  rw [← htk] at h1 h3
  have e1 : notesU [(2, tx)] = [tx] := notesU_yes [] (2, tx) rfl
  rw [e1] at h3
  obtain ⟨nvs, ho, hN⟩ := h.out
  obtain ⟨hbx, hko, hbe, hty⟩ := appended (Below.refl _ wr) h.lead hg h.size
  rw [hr0] at ho hN
  refine ⟨?_, ⟨nvs, ?_, ?_⟩, h.hb.trans hbe⟩
  · rw [h3, strs_snoc, List.length_append]
    exact hown
  · rw [h1]
    exact own_typed ho (by decide) hty
  · rw [h1]
    cases nvs with
    | nil => trivial
    | cons _ _ => exact hN.elim
/-- The notes of the last one. -/
theorem RI.last {w wr : World} {ts : List Tk} {k p : Nat} {ld ot : Value} (h : RI w ts k ld ot wr) (hp : (runsU (ts.take k)).length = p + 1) :
    ∃ g cap pre x nvp nv, ot = .slice (some ⟨g, 0, none⟩) (p + 1) cap ∧ g < wr.heap.size ∧ runsU (ts.take k) = pre ++ [x] ∧ pre.length = p ∧ nvp.length = p ∧
      wr.ownsRow w.heap.size 39 4 (.slice (some ⟨g, 0, none⟩) (p + 1) cap) (p + 1) (itemCells pre nvp ++ [.int .i64 ((x.l.headD (0, ⟨#[]⟩)).1), .string (x.l.headD (0, ⟨#[]⟩)).2, .int .i64 (x.at' : Int), nv]) ∧
      NotesAt w.heap.size wr pre nvp ∧ wr.ownsRow w.heap.size 9 1 nv (notesU x.l).length (strs (notesU x.l)) ∧ wr.cell? ⟨g, p * 4 + 3, none⟩ = some nv := by
  obtain ⟨nvs, ho, hN⟩ := h.out
  obtain ⟨pre, x, hpx⟩ : ∃ pre x, runsU (ts.take k) = pre ++ [x] := by
    have hne : runsU (ts.take k) ≠ [] := fun e => by rw [e] at hp; simp at hp
    exact ⟨_, _, (List.dropLast_concat_getLast hne).symm⟩
  rw [hpx] at ho hN hp
  have hpl : pre.length = p := by simpa using hp
  obtain ⟨nvp, nv, rfl, hlp⟩ := nvs_snoc hN
  obtain ⟨hP, hx⟩ := notesAt_init hlp hN
  rw [hp] at ho
  have ho' := ho
  rw [itemCells_snoc hlp] at ho'
  obtain ⟨oa, cap, rfl, _⟩ := own_len ho'
  rw [← hp] at ho
  obtain ⟨g, nv', hg, hgl, hnv, _, _, _, c3, _⟩ := item_get (n := 0) ho hN p x (by rw [← hpl]; simp)
  subst hg
  obtain rfl : nv = nv' := by
    rw [← hpl, ← hlp] at hnv
    simpa using hnv
  exact ⟨g, cap, pre, x, nvp, nv, rfl, hgl, hpx, hpl, by omega, ho', hP, hx, c3⟩
/-- A note behind one. -/
theorem RI.note {w wr w4 : World} {ts : List Tk} {k p g cap M : Nat} {ld : Value} {tx : ByteArray} {pre : List Run} {x : Run} {nvp : List Value} {nv v' : Value} (h : RI w ts k ld (.slice (some ⟨g, 0, none⟩) M cap) wr) (hM : p + 1 = M) (ht : ts[k]? = some (2, tx))
    (hg : g < wr.heap.size) (hpx : runsU (ts.take k) = pre ++ [x]) (hpl : pre.length = p) (hlp : nvp.length = p)
    (ho : wr.ownsRow w.heap.size 39 4 (.slice (some ⟨g, 0, none⟩) M cap) M (itemCells pre nvp ++ [.int .i64 ((x.l.headD (0, ⟨#[]⟩)).1), .string (x.l.headD (0, ⟨#[]⟩)).2, .int .i64 (x.at' : Int), nv]))
    (hP : NotesAt w.heap.size wr pre nvp) (hb4 : Below wr.heap.size wr w4)
    (hown : w4.ownsRow wr.heap.size 9 1 v' ((notesU x.l).length + 1) (strs (notesU x.l) ++ [.string tx])) :
    RI w ts (k + 1) ld (.slice (some ⟨g, 0, none⟩) M cap) (w4.setCell ⟨g, p * 4 + 3, none⟩ v') := by
  subst hM
  have htk := take_snoc ts k (2, tx) ht
  obtain ⟨⟨pre2, x2, p1, p2, p3⟩, h3⟩ := step_behind (ts.take k) (2, tx) rfl (fun e => by rw [hpx] at e; simp at e)
  rw [← htk] at p2 h3
  rw [hpx] at p1
  obtain ⟨rfl, hx⟩ := List.append_inj p1 (by have := congrArg List.length p1; simpa using this)
  obtain rfl : x = x2 := by simpa using hx
  have ho4 := ownsRow_below ho hb4
  have hblk : ∃ c, w4.heap[g]? = some (.cells c 39 (0, 0)) := by
    rcases ho4.2 with ⟨e, _⟩ | ⟨g', cap', cur, e, h2, h3', h4⟩
    · cases e
    · cases e
      exact ⟨_, h3'⟩
  have hfar : ∀ (base n : Nat) v xs, w4.ownsRow base 9 1 v n xs → (w4.setCell ⟨g, p * 4 + 3, none⟩ v').ownsRow base 9 1 v n xs := fun base n v xs hv =>
    ownsRow_setCell_other hv (own_not hv hblk (by decide)) v'
  have hst := (ho4.stored (p * 4 + 3) v').1
  have hgw : w.heap.size ≤ g := by
    rcases ho.2 with ⟨e, _⟩ | ⟨g', cap', cur, e, h2, h3', h4⟩
    · cases e
    · cases e
      exact h2
  refine ⟨?_, ⟨nvp ++ [v'], ?_, ?_⟩, (h.hb.trans (hb4.mono h.size)).setCell (p := ⟨g, p * 4 + 3, none⟩) hgw _⟩
  · rw [h3]
    exact hfar _ _ _ _ (ownsRow_below h.lead hb4)
  · rw [p2, List.length_append, itemCells_snoc (by omega), hpl]
    have hcl : (itemCells pre nvp).length = p * 4 := by
      have := ho.1
      rw [List.length_append] at this
      simp only [List.length_cons, List.length_nil] at this
      omega
    rw [List.set_append_right _ _ (by omega), hcl, show p * 4 + 3 - p * 4 = 3 by omega] at hst
    rw [show (⟨x.at', x.p, x.l ++ [(2, tx)]⟩ : Run).l = x.l ++ [(2, tx)] from rfl, head_app p3]
    exact hst
  · rw [p2]
    refine NotesAt.snoc ((hP.own hb4).map (fun v n xs hv => hfar _ _ _ _ hv)) ?_
    rw [show (⟨x.at', x.p, x.l ++ [(2, tx)]⟩ : Run).l = x.l ++ [(2, tx)] from rfl, notesU_yes _ (2, tx) rfl, List.length_append, strs_snoc]
    exact hfar _ _ _ _ (own_base hown h.size)
theorem wadd3 {a b c : Nat} (h : a + b = c) (hc : c ≤ 1000000) : wrap64 ((a : Int) + (b : Int)) = (c : Int) := by rw [IntWalk.wrap64_in _ (by omega)]; omega
theorem wsub1 {p N : Nat} (h : N = p + 1) (hc : N ≤ 1000000) : wrap64 ((N : Int) - 1) = (p : Int) := by rw [IntWalk.wrap64_in _ (by omega)]; omega
theorem run_len (ts : List Tk) (x : Run) (h : x ∈ runsU ts) : x.l.length ≤ ts.length := by
  have : ∀ (a p : Nat) (l : List Tk), ∀ x ∈ runsFrom a p l, x.l.length ≤ l.length := by
    intro a p l
    generalize hn : l.length = m
    induction m using Nat.strongRecOn generalizing a p l with
    | ind m ih =>
      cases l with
      | nil => rw [runsFrom]; intro x hx; cases hx
      | cons t r =>
        have hk := aheadU_le r
        rw [runsFrom]
        intro x hx
        simp only [List.length_cons] at hn
        rcases List.mem_cons.1 hx with rfl | hx
        · simp only [List.length_cons, List.length_take]; omega
        · have := ih (r.drop (aheadU r)).length (by rw [List.length_drop]; omega) _ _ _ rfl x hx
          rw [List.length_drop] at this
          omega
  have h1 := this _ _ _ x h
  rw [List.length_drop] at h1
  omega
/-- What a round of Items leans on. -/
structure RIk (ts : List Tk) (k : Nat) (t : Tk) : Prop where
  tk : ts[k]? = some t
  s1 : sizeT (ts.take k) ≤ 300
  s2 : sizeT (ts.take k) + t.2.size = sizeT (ts.take (k + 1))
  s3 : sizeT (ts.take (k + 1)) ≤ 300
  n1 : (runsU (ts.take k)).length ≤ 300
  n2 : (leadU (ts.take k)).length ≤ 300
  n3 : ∀ x ∈ runsU (ts.take k), (notesU x.l).length ≤ 300
theorem RIk.of {ts : List Tk} (hs : sizeT ts ≤ 300) (hl : ts.length ≤ 300) {k : Nat} {t : Tk} (h : ts[k]? = some t) : RIk ts k t := by
  have h1 := sizeT_take ts k
  have h2 := sizeT_take ts (k + 1)
  have htk := take_snoc ts k t h
  have h3 : sizeT (ts.take k) + t.2.size = sizeT (ts.take (k + 1)) := by rw [htk, sizeT_both]; simp [sizeT]
  have h4 := runsU_len (ts.take k)
  have h5 : (ts.take k).length ≤ 300 := by rw [List.length_take]; omega
  refine ⟨h, by omega, h3, by omega, by omega, ?_, fun x hx => ?_⟩
  · have := notesU_len ((ts.take k).take (aheadU (ts.take k)))
    have e : ((ts.take k).take (aheadU (ts.take k))).length ≤ (ts.take k).length := by rw [List.length_take]; omega
    unfold leadU
    omega
  · have := notesU_len x.l
    have e := run_len (ts.take k) x hx
    omega
set_option maxRecDepth 100000 in
set_option maxHeartbeats 8000000 in
theorem ritems_calls (v : Value) (ts : List Tk) (w : World) (h : TksAt w.heap.size w v ts) (hs : sizeT ts ≤ 300) (hl : ts.length ≤ 300) :
    Calls Tryz.prog 30 #[v] w fun e w' => ∃ lv ov nvs, e = .returned (.tuple #[lv, ov]) ∧ w'.ownsRow w.heap.size 9 1 lv (notesU (ts.take (aheadU ts))).length (strs (notesU (ts.take (aheadU ts)))) ∧
        w'.ownsRow w.heap.size 39 4 ov (runsU ts).length (itemCells (runsU ts) nvs) ∧ NotesAt w.heap.size w' (runsU ts) nvs ∧ Below w.heap.size w w' := by
  obtain ⟨ao, cap, rfl, hm, hc⟩ := h
  obtain ⟨i0, hi, hz0, hz1, hz2⟩ := info_parts infoStr
  obtain ⟨j0, hj, hy0, hy1, hy2⟩ := info_parts infoItem
  have HC := Lib.hid hc; have HRI := Lib.hid (fun k t => @RIk.of ts hs hl k t)
  have HLEN := Lib.hid hl
  clear hc hs hm hl
  go_enter Tryz.func30, Tryz.ntmps30
  go_wp2_with fail
  go_loopw [4, 5, 6, 7] (fun ld ot at' i wr => ∃ k : Nat, k ≤ ts.length ∧ i = .int .i64 (k : Int) ∧ at' = .int .i64 (sizeT (ts.take k) : Int) ∧ RI w ts k ld ot wr) (fun _ _ _ i _ => ts.length - (intOf i).toNat)
  case atStart => exact ⟨0, Nat.zero_le _, rfl, rfl, RI.zero w ts⟩
  case round =>
    obtain ⟨k, hk, rfl, rfl, hR⟩ := hrel
    by_cases hlt : k < ts.length
    · obtain ⟨⟨kt, tx⟩, ht⟩ : ∃ t, ts[k]? = some t := ⟨_, List.getElem?_eq_getElem hlt⟩
      obtain ⟨g, off, rfl, hg, c0, c1⟩ := HC.out k _ ht
      have HRK := Lib.hid (HRI.out k _ ht)
      have HCELL := Lib.hid (show ∀ wz, Below w.heap.size w wz → wz.cell? ⟨g, off + k * 2, none⟩ = some (.int .i64 kt) ∧ wz.cell? ⟨g, off + k * 2 + 1, none⟩ = some (.string tx) from
        fun wz hb => ⟨(hb.cell (p := ⟨g, off + k * 2, none⟩) (World.block_lt_of_cell? w _ c0)).trans c0, (hb.cell (p := ⟨g, off + k * 2 + 1, none⟩) (World.block_lt_of_cell? w _ c1)).trans c1⟩)
      have d0 := (HCELL.out wr hR.hb).1
      have d1 := (HCELL.out wr hR.hb).2
      have hlt1 : (k : Int) < (ts.length : Int) := by omega
      have hk1l : k + 1 ≤ ts.length := hlt
      have hw1 := wk1 (k := k) (by have := HLEN.out; omega)
      obtain ⟨m0, hm0⟩ : ∃ m, sizeT (ts.take k) = m := ⟨_, rfl⟩
      obtain ⟨m1, hm1⟩ : ∃ m, sizeT (ts.take (k + 1)) = m := ⟨_, rfl⟩
      have hws : wrap64 ((m0 : Int) + (tx.size : Int)) = (m1 : Int) := wadd3 (by have := HRK.out.s2; rw [hm0, hm1] at this; exact this) (by have := HRK.out.s3; rw [hm1] at this; omega)
      rw [hm0]
      have HM0 := Lib.hid hm0; have HM1 := Lib.hid hm1; have HR := Lib.hid hR
      have hpl := fun w => rplain_calls kt tx w
      clear hm0 hm1 c0 c1 hg hk hlt ht
      cases hi : idleB kt with
      | false =>
        have HI := Lib.hid hi
        have h2 : kt ≠ 2 := fun e => by rw [e] at hi; exact absurd hi (by decide)
        have q1 : (kt == 2) = false := beq_eq_false_iff_ne.2 h2
        have q2 : decide (kt = 2) = false := decide_eq_false h2
        simp only [hi, Bool.not_false] at hpl
        obtain ⟨nvs, ho, hN⟩ := hR.out
        have HO := Lib.hid ho; have HN := Lib.hid hN
        clear hR ho hN hi h2
        go_wp2_with fail
        ((with_reducible refine (hpl _).mono ?_); rintro _ w2 ⟨rfl, hb2⟩)
        have HR2 := Lib.hid (HR.out.next hb2)
        have HO2 := Lib.hid (ownsRow_below HO.out hb2); have HN2 := Lib.hid (HN.out.own hb2)
        obtain ⟨oa, oc, rfl, _⟩ := own_len HO.out
        have e0 := (HCELL.out w2 HR2.out.hb).1
        have e1 := (HCELL.out w2 HR2.out.hb).2
        clear hb2 d0 d1
        go_wp2_with (at_builtin; refine wpList_append_own _ rfl _ _ 35 rfl w.heap.size 39 j0 (.agg #[.int .i64 0, .string ⟨#[]⟩, .int .i64 0, .slice none 0 0]) 4 56 Tryz.underlying35 hj hy0 hy1 hy2 rfl (by decide) _ _ _ rfl (HO2.out.alloc _) ⟨w2.heap.size, 0, none⟩ 1 1 [.int .i64 kt, .string tx, .int .i64 (m0 : Int), .slice none 0 0] rfl rfl (cell_four_new _ _ _ _ _ _) (by simp [Value.oneCell']) (by have := HRK.out.n1; unfold maxLen; omega) (by have := HRK.out.n1; omega) (by have := HR2.out.size; simp; omega) ?_; intro v' w3 hown' hgrow _; have HR3 := Lib.hid (HR2.out.plain HRK.out.tk HI.out HO2.out HN2.out (by rw [HM0.out]; exact hown') hgrow); have f0 := (HCELL.out w3 HR3.out.hb).1; have f1 := (HCELL.out w3 HR3.out.hb).2; clear hown' hgrow)
        exact ⟨⟨k + 1, hk1l, by rw [hw1], by rw [hws, HM1.out], HR3.out⟩, by rw [hw1]; exact meas0 hk1l⟩
      | true =>
        have HI := Lib.hid hi
        simp only [hi, Bool.not_true] at hpl
        by_cases h2 : kt = 2
        · subst h2
          obtain ⟨N, hN⟩ : ∃ N, (runsU (ts.take k)).length = N := ⟨_, rfl⟩
          have hNl : N ≤ 300 := by have := HRK.out.n1; omega
          cases N with
          | zero =>
            have HNN := Lib.hid hN
            obtain ⟨oa, oc, rfl⟩ : ∃ oa oc, u5 = .slice oa 0 oc := by
              obtain ⟨nvs, ho, _⟩ := hR.out
              rw [hN] at ho
              obtain ⟨oa, oc, e, _⟩ := own_len ho
              exact ⟨oa, oc, e⟩
            have q3 : ((0 : Int) == 0) = true := rfl
            have q4 : decide ((0 : Int) < 0) = false := rfl
            clear hR hi hN hNl
            go_wp2_with fail
            ((with_reducible refine (hpl _).mono ?_); rintro _ w2 ⟨rfl, hb2⟩)
            have HR2 := Lib.hid (HR.out.next hb2)
            obtain ⟨la, lc, rfl, _⟩ := own_len HR2.out.lead
            have e0 := (HCELL.out w2 HR2.out.hb).1
            have e1 := (HCELL.out w2 HR2.out.hb).2
            clear hb2 d0 d1
            go_wp2_with (at_builtin; refine wpList_append_own _ rfl _ _ 34 rfl w.heap.size 9 i0 (.string ⟨#[]⟩) 1 16 Tryz.underlying34 hi hz0 hz1 hz2 rfl (by decide) _ _ _ rfl (HR2.out.lead.alloc _) ⟨w2.heap.size, 0, none⟩ 1 1 [.string tx] rfl rfl (str_new _ _ _) (by simp [Value.oneCell']) (by have := HRK.out.n2; unfold maxLen; omega) (by have := HRK.out.n2; omega) (by have := HR2.out.size; simp; omega) ?_; intro v' w3 hown' hgrow _; have HR3 := Lib.hid (HR2.out.ahead HRK.out.tk HNN.out hown' hgrow); have f0 := (HCELL.out w3 HR3.out.hb).1; have f1 := (HCELL.out w3 HR3.out.hb).2; clear hown' hgrow)
            exact ⟨⟨k + 1, hk1l, by rw [hw1], by rw [hws, HM1.out], HR3.out⟩, by rw [hw1]; exact meas0 hk1l⟩
          | succ p =>
            obtain ⟨g2, oc, pre, x, nvp, nv, rfl, hg2, hpx, hpl2, hlp, ho, hP, hx, hc3⟩ := hR.last hN
            obtain ⟨M, hM⟩ : ∃ M, p + 1 = M := ⟨_, rfl⟩
            have HP := Lib.hid hP; have HPX := Lib.hid hpx; have HPL := Lib.hid hpl2; have HLP := Lib.hid hlp
            have HXL := Lib.hid (HRK.out.n3 x (by rw [hpx]; simp))
            have hwM : wrap64 ((M : Int) - 1) = (p : Int) := wsub1 hM.symm (by omega)
            have hwM' : IntKind.i64.wrap ((M : Int) - 1) = (p : Int) := (IntWalk.i64_left _).trans hwM
            have q3 : ((M : Int) == 0) = false := beq_eq_false_iff_ne.2 (by omega)
            have q4 : decide ((0 : Int) < (M : Int)) = true := decide_eq_true (by omega)
            have hpM : (p : Int) < (M : Int) := by omega
            rw [hM] at hR ho
            have HM := Lib.hid hM; have HO := Lib.hid ho; have HX := Lib.hid hx; have HR' := Lib.hid hR; have HG2 := Lib.hid hg2
            rw [hM]
            clear hR hi hN hNl hpx hP hpl2 hlp ho hx hg2 hM
            go_wp2_with fail
            ((with_reducible refine (hpl _).mono ?_); rintro _ w2 ⟨rfl, hb2⟩)
            have HR2 := Lib.hid (HR'.out.next hb2)
            have HO2 := Lib.hid (ownsRow_below HO.out hb2); have HP2 := Lib.hid (HP.out.own hb2); have HX2 := Lib.hid (ownsRow_below HX.out hb2)
            have HG22 := Lib.hid (Nat.lt_of_lt_of_le HG2.out hb2.size)
            have e3 : w2.cell? ⟨g2, p * 4 + 3, none⟩ = some nv := (hb2.cell (World.block_lt_of_cell? wr _ hc3)).trans hc3
            have e0 := (HCELL.out w2 HR2.out.hb).1
            have e1 := (HCELL.out w2 HR2.out.hb).2
            clear hb2 d0 d1 hc3
            go_wp2_with (at_builtin; first | (refine wpList_append_own _ rfl _ _ 34 rfl w2.heap.size 9 i0 (.string ⟨#[]⟩) 1 16 Tryz.underlying34 hi hz0 hz1 hz2 rfl (by decide) _ _ _ rfl (HOWN3.out.alloc _) ⟨w3.heap.size, 0, none⟩ 1 1 [.string tx] rfl rfl (str_new _ _ _) (by simp [Value.oneCell']) (by have := HXL.out; unfold maxLen; omega) (by have := HXL.out; omega) (by have := HB3.out.size; simp; omega) ?_; intro v4 w4 hown4 hgrow4 _; have hb4 : Below w2.heap.size w2 w4 := (HB3.out.alloc HB3.out.size (.cells #[.string tx] 9)).grown hgrow4 (by have := HB3.out.size; simp; omega) (fun j ej => (HOWN3.out.lt j ej).1); have z0 := (ownsRow_below HO2.out hb4).frozenAt (p * 4 + 3); have z1 : w4.cell? ⟨g2, p * 4 + 3, none⟩ = some nv := (hb4.cell (World.block_lt_of_cell? w2 _ e3)).trans e3; have HR5 := Lib.hid (HR2.out.note HM.out HRK.out.tk HG22.out HPX.out HPL.out HLP.out HO2.out HP2.out hb4 hown4); have e6 := (HCELL.out _ HR5.out.hb).2; obtain ⟨a4, l4, c4, rfl⟩ := own_slice hown4; clear hown4 hgrow4 hb4) | (refine wpList_append_rows _ rfl _ _ 34 rfl w2.heap.size 9 i0 (.string ⟨#[]⟩) 1 16 Tryz.underlying34 hi hz0 hz1 hz2 rfl (by decide) _ 0 [] rfl (World.ownsRow_nil _ _ _ _) _ _ _ _ rfl HX2.out (strs_one _) (by have := HXL.out; unfold maxLen; omega) (by have := HXL.out; omega) (Nat.le_refl _) ?_; intro v3 w3 hown3 hb3; rw [List.nil_append, Nat.zero_add] at hown3; have HB3 := Lib.hid hb3; have HOWN3 := Lib.hid hown3; have e5 := (HCELL.out w3 (HR2.out.hb.trans (hb3.mono HR2.out.size))).2; obtain ⟨a3, l3, c3, rfl⟩ := own_slice hown3; clear hown3 hb3))
            exact ⟨⟨k + 1, hk1l, by rw [hw1], by rw [hws, HM1.out], HR5.out⟩, by rw [hw1]; exact meas0 hk1l⟩
        · have q1 : (kt == 2) = false := beq_eq_false_iff_ne.2 h2
          have q2 : decide (kt = 2) = false := decide_eq_false h2
          have H2 := Lib.hid h2
          clear hR hi h2
          go_wp2_with fail
          ((with_reducible refine (hpl _).mono ?_); rintro _ w2 ⟨rfl, hb2⟩)
          have HR2 := Lib.hid (HR.out.next hb2)
          have e0 := (HCELL.out w2 HR2.out.hb).1
          have e1 := (HCELL.out w2 HR2.out.hb).2
          clear hb2 d0 d1
          go_wp2_with fail
          exact ⟨⟨k + 1, hk1l, by rw [hw1], by rw [hws, HM1.out], HR2.out.space HRK.out.tk HI.out H2.out⟩, by rw [hw1]; exact meas0 hk1l⟩
    · obtain rfl : k = ts.length := by omega
      have hge : decide ((ts.length : Int) < (ts.length : Int)) = false := by simp
      have HR := Lib.hid hR
      clear hR
      go_wp2_with fail
      obtain ⟨nvs, ho, hN⟩ := HR.out.out
      have hld := HR.out.lead
      have hbb := HR.out.hb
      rw [List.take_length] at ho hN hld
      exact bodyPost_ret (v := .tuple #[u4, u5]) (by simp [results, Tryz.results30, go_sem]) rfl ⟨_, _, nvs, rfl, hld, ho, hN, hbb⟩
end Go.Proofs.YtmoamfcaokefiaaGreatDoor.it

/-
  subeditorlaw05's tight and asks: true.
-/
namespace Go.Proofs.YtmoamfcaokefiaaGreatDoor.it
open Go.RowKit Go.Shelf
open sg (lst_len OpsAt)
open lx sx
set_option linter.unusedVariables false

set_option maxRecDepth 100000 in
set_option maxHeartbeats 4000000 in
theorem atight_calls (a b : Tk) (w : World) (hw : OpsAt w) (hs : a.2.size + b.2.size ≤ 1000) :
    Calls Tryz.prog 14 #[.agg #[.int .i64 a.1, .string a.2], .agg #[.int .i64 b.1, .string b.2]] w fun e w' => e = .returned (.bool true) ∧ Below w.heap.size w w' := by
  obtain ⟨ka, ta⟩ := a
  obtain ⟨kb, tb⟩ := b
  obtain ⟨c, hc⟩ : ∃ c, tightB (ka, ta) (kb, tb) = c := ⟨_, rfl⟩
  have h1 := fun w hw => tight_calls (ka, ta) (kb, tb) w hw (by omega)
  have h2 := fun w => rtight_calls (ka, ta) (kb, tb) w hs
  rw [hc] at h1 h2
  have hbb : (c == c) = true := beq_self_eq_true c
  have HW := Lib.hid hw
  obtain ⟨W1, hW1⟩ : ∃ W1, (w.alloc (.cells #[.int .i64 ka, .string ta] 24)).alloc (.cells #[.int .i64 kb, .string tb] 24) = W1 := ⟨_, rfl⟩
  obtain ⟨hb1, k1, k2⟩ := rtwo_box w ka kb ta tb W1 hW1
  have HB1 := Lib.hid hb1
  have hw1 := hw.own hb1
  have h1' := fun y : ed.In W1 => h1 y.u (hw1.own y.h)
  have b0 : W1.cell? ⟨w.heap.size, 0, none⟩ = some (.int .i64 ka) := k1.cell 0
  have b1 : W1.cell? ⟨w.heap.size, 1, none⟩ = some (.string ta) := k1.cell 1
  have b2 : W1.cell? ⟨w.heap.size + 1, 0, none⟩ = some (.int .i64 kb) := k2.cell 0
  have b3 : W1.cell? ⟨w.heap.size + 1, 1, none⟩ = some (.string tb) := k2.cell 1
  have i0 := fun y : ed.In W1 => y.cell b0
  have i1 := fun y : ed.In W1 => y.cell b1
  have i2 := fun y : ed.In W1 => y.cell b2
  have i3 := fun y : ed.In W1 => y.cell b3
  have HX := Lib.hid hW1
  clear hw hs hc h1 hb1 k1 k2 hw1 hW1
  go_enter Tryz.func14, Tryz.ntmps14
  go_wp2_with fail
  rw [HX.out]
  refine ed.wp_region_in (by kernel_rfl) (by kernel_rfl) ?_
  repeat (go_big_quiet_step (first | (go_at_call 20; refine ed.Calls.in_of (h1' _)) | (go_at_call 29; refine ed.Calls.in_of (h2 _))))
  with_reducible refine wpQuiet_nil ?_
  rintro _ ⟨y, rfl⟩
  go_wp2_with fail
  go_ret
  exact ⟨rfl, HB1.out.trans (y.h.mono HB1.out.size)⟩

theorem line_same (ts : List Tk) : (⟨(lineU (ts.filter (fun t => !idleB t.1)) ts.length).toArray⟩ : ByteArray) = lineB (plainT ts) := by
  unfold lineB plainT
  rw [lineU_full _ _ (List.length_filter_le _ _)]
theorem run_notes (ts : List Tk) (hl : ts.length ≤ 300) : ∀ x ∈ runsU ts, (notesU x.l).length ≤ 1000 := fun x hx => by
  have h1 := notesU_len x.l
  have h2 := run_len ts x hx
  omega

set_option maxRecDepth 100000 in
set_option maxHeartbeats 8000000 in
theorem asks_calls (ao : Option Addr) (cap : Nat) (ts : List Tk) (w : World) (hts : TksAt w.heap.size w (.slice ao ts.length cap) ts) (hcap : ts.length ≤ cap) (hfit : ∀ t ∈ ts, Fits t) (hs : sizeT ts ≤ 300) (hl : ts.length ≤ 300) (hw : OpsAt w) :
    Calls Tryz.prog 15 #[.slice ao ts.length cap] w fun e w' => e = .returned (.bool true) ∧ Below w.heap.size w w' := by
  have hmt := manyT_eq ts
  have C1 := Lib.hid (items_calls ao cap ts w hts hcap (by omega) (by omega))
  have C2 := Lib.hid (fun w2 (hb : Below w.heap.size w w2) => ritems_calls (.slice ao ts.length cap) ts w2 ((hts.below hb (Nat.le_refl _)).mono hb.size) hs hl)
  have C3 := Lib.hid (fun w2 (hb : Below w.heap.size w w2) => notes_calls (.slice ao ts.length cap) ts w2 w2.heap.size ((hts.below hb (Nat.le_refl _)).mono hb.size) (by omega) (by omega))
  have C4 := Lib.hid (fun w2 (hb : Below w.heap.size w w2) => rnotes_calls (.slice ao ts.length cap) ts w2 w2.heap.size ((hts.below hb (Nat.le_refl _)).mono hb.size) (by omega))
  have hln := fun w2 (hb : Below w.heap.size w w2) => line_calls (.slice ao ts.length cap) ts w2 ((hts.below hb (Nat.le_refl _)).mono hb.size) hfit (by omega) (hw.own hb)
  have hrl := fun w2 (hb : Below w.heap.size w w2) => rline_calls (.slice ao ts.length cap) ts w2 ((hts.below hb (Nat.le_refl _)).mono hb.size) hs hl
  rw [line_same] at hln
  obtain ⟨z, hz⟩ : ∃ z, lineB (plainT ts) = z := ⟨_, rfl⟩
  simp only [hz] at hln hrl
  have C5 := Lib.hid hln; have C6 := Lib.hid hrl
  have hq : (z.toList == z.toList) = true := beq_self_eq_true _
  obtain ⟨rs, hrs⟩ : ∃ rs, runsU ts = rs := ⟨_, rfl⟩
  obtain ⟨ls, hls⟩ : ∃ ls, notesU (ts.take (aheadU ts)) = ls := ⟨_, rfl⟩
  obtain ⟨ns, hns⟩ : ∃ ns, notesU ts = ns := ⟨_, rfl⟩
  have hrl1 : rs.length ≤ 1000 := by rw [← hrs]; have := runsU_len ts; omega
  have hrn : ∀ x ∈ rs, (notesU x.l).length ≤ 1000 := by rw [← hrs]; exact run_notes ts hl
  have C1' := C1.out; have C2' := C2.out; have C3' := C3.out; have C4' := C4.out
  simp only [hrs, hls, hns] at C1' C2' C3' C4'
  have D1 := Lib.hid C1'; have D2 := Lib.hid C2'; have D3 := Lib.hid C3'; have D4 := Lib.hid C4'
  have HR1 := Lib.hid hrl1; have HRN := Lib.hid hrn
  clear hw hts hcap hfit hs hl hmt hln hrl hz hrs hls hns C1' C2' C3' C4' C1 C2 C3 C4 hrl1 hrn
  go_enter Tryz.func15, Tryz.ntmps15
  go_wp2_with fail
  ((with_reducible refine D1.out.mono ?_); rintro _ w2 ⟨nv, ov, nvs, rfl, hon, hoo, hNN, hb2⟩)
  have HB2 := Lib.hid hb2
  have HS1 := Lib.hid (own_strs hon); have HI1 := Lib.hid (own_items hoo hNN)
  obtain ⟨na, nl, nc, rfl⟩ := own_slice hon
  obtain ⟨oa, ol, oc, rfl⟩ := own_slice hoo
  clear hb2 hon hoo hNN
  go_wp2_with fail
  ((with_reducible refine (D2.out _ HB2.out).mono ?_); rintro _ w3 ⟨nv3, ov3, nvs3, rfl, hon, hoo, hNN, hb3⟩)
  have HB3 := Lib.hid (sg.Below.next HB2.out hb3 (Nat.le_refl _))
  have HS1b := Lib.hid ((HS1.out.below hb3 (Nat.le_refl _)).mono hb3.size); have HI1b := Lib.hid ((HI1.out.below hb3 (Nat.le_refl _)).mono hb3.size)
  have HS2 := Lib.hid (own_strs hon); have HI2 := Lib.hid (own_items hoo hNN)
  obtain ⟨na3, nl3, nc3, rfl⟩ := own_slice hon
  obtain ⟨oa3, ol3, oc3, rfl⟩ := own_slice hoo
  clear hb3 hon hoo hNN
  go_wp2_with fail
  ((with_reducible refine (same1_calls _ _ ls w3 _ HS1b.out HS2.out).mono ?_); rintro _ w4 ⟨rfl, hb4⟩)
  have HB4 := Lib.hid (sg.Below.next HB3.out hb4 (Nat.le_refl _))
  have HI1c := Lib.hid (HI1b.out.below hb4 (Nat.le_refl _)); have HI2c := Lib.hid (HI2.out.below hb4 (Nat.le_refl _))
  clear hb4
  go_wp2_with fail
  ((with_reducible refine (same5_calls _ _ rs w4 _ HI1c.out HI2c.out HR1.out HRN.out).mono ?_); rintro _ w5 ⟨rfl, hb5⟩)
  have HB5 := Lib.hid (sg.Below.next HB4.out hb5 (Nat.le_refl _))
  clear hb5
  go_wp2_with fail
  ((with_reducible refine (D3.out _ HB5.out).mono ?_); rintro _ w6 ⟨uv, rfl, hou, hb6⟩)
  have HB6 := Lib.hid (sg.Below.next HB5.out hb6 (Nat.le_refl _))
  have HU := Lib.hid (own_strs hou)
  obtain ⟨ua, ul, uc, rfl⟩ := own_slice hou
  clear hb6 hou
  go_wp2_with fail
  ((with_reducible refine (D4.out _ HB6.out).mono ?_); rintro _ w7 ⟨uv7, rfl, hou, hb7⟩)
  have HB7 := Lib.hid (sg.Below.next HB6.out hb7 (Nat.le_refl _))
  have HU7 := Lib.hid ((HU.out.below hb7 (Nat.le_refl _)).mono hb7.size)
  have HV7 := Lib.hid (own_strs hou)
  obtain ⟨va, vl, vc, rfl⟩ := own_slice hou
  clear hb7 hou
  go_wp2_with fail
  ((with_reducible refine (same1_calls _ _ ns w7 _ HU7.out HV7.out).mono ?_); rintro _ w8 ⟨rfl, hb8⟩)
  have HB8 := Lib.hid (sg.Below.next HB7.out hb8 (Nat.le_refl _))
  clear hb8
  go_wp2_with fail
  ((with_reducible refine (C5.out _ HB8.out).mono ?_); rintro _ w9 ⟨rfl, hb9⟩)
  have HB9 := Lib.hid (sg.Below.next HB8.out hb9 (Nat.le_refl _))
  clear hb9
  go_wp2_with fail
  ((with_reducible refine (C6.out _ HB9.out).mono ?_); rintro _ w10 ⟨rfl, hb10⟩)
  have HB10 := Lib.hid (sg.Below.next HB9.out hb10 (Nat.le_refl _))
  clear hb10
  go_wp2_with fail
  go_ret
  exact ⟨rfl, HB10.out⟩
end Go.Proofs.YtmoamfcaokefiaaGreatDoor.it

/-
  An argument of tokens, opened: its room, its kinds, its bulk; and one token, opened.
-/
namespace Go.Proofs.YtmoamfcaokefiaaGreatDoor.it
open Go.RowKit Go.ChangeShapes Go.WideShapes Go.ChangeAt Go.ChangeMaps Go.Deep
open lx
set_option linter.unusedVariables false

set_option maxRecDepth 100000 in
theorem open_row {H : Type} {enc : TypeId × Value → H} {W : World} {base : Nat} {v : Value} {d : DataW H} {p : List MemPlace} (hok : Value.okWide Tryz.prog W .any base 22 v)
    (h : DataW.Trod enc Tryz.prog W 0 (fun _ => true) true 22 v d p) :
    ∃ ao cap es, v = .slice ao es.length cap ∧ es.length ≤ cap ∧ TksAt W.heap.size W v es ∧ (∀ e ∈ es, (Lit.int .i64 e.1).wf = true) ∧ manyT es ≤ Rows.uptoBulk d := by
  obtain ⟨a0, len, cap, rfl⟩ := okWide_slice Tryz.underlying22 hok
  obtain ⟨fuel, hf⟩ := h
  rcases open_slice Tryz.underlying22 hf with ⟨hcs, hx⟩ | ⟨a, len', cap', m, n, D, Pl, hcs, _, hl, hm, hmm, hx, hall⟩
  · simp [Value.cells] at hcs
    obtain ⟨rfl, rfl, rfl⟩ := hcs
    exact ⟨none, 0, [], rfl, Nat.le_refl _, ⟨none, 0, rfl, (by unfold maxLen; simp), fun j t ht => by rw [List.getElem?_nil] at ht; cases ht⟩, fun e he => absurd he (List.not_mem_nil), by simp [manyT]⟩
  · simp [Value.cells] at hcs
    obtain ⟨rfl, rfl, rfl⟩ := hcs
    simp only [if_true] at hmm
    subst hmm
    have each : ∀ i, i < len → ∃ e : Tk, W.cell? (a.add (i * 2)) = some (.int .i64 e.1) ∧ W.cell? (a.add (i * 2 + 1)) = some (.string e.2) ∧
        (Lit.int .i64 e.1).wf = true ∧ ∃ d0, D i = .agg [d0, .lit (.string e.2.data.toList)] := by
      intro i hi
      obtain ⟨cs', h1, h2⟩ := hall i (by omega)
      rw [cellsE] at h1
      obtain ⟨_, hlen, hcell⟩ := World.cells?_some h1
      obtain ⟨xs, k, hk, hxy, _, hxl, hfl⟩ := DataW.trod_struct Tryz.underlying24 h2
      match xs, hxl, cs', hlen with
      | [y0, y1], _, [v0, v1], _ =>
        have q0 := hfl 0 _ rfl
        have q1 := hfl 1 _ rfl
        simp [cellsI, cellsS] at q0 q1
        obtain ⟨n0, e0, r0, g0⟩ := DataW.trod_int Tryz.underlying3 q0
        obtain ⟨s2, e2, r2, _⟩ := DataW.trod_string Tryz.underlying9 q1
        have z0 := hcell 0 (by omega)
        have z1 := hcell 1 (by omega)
        rw [add_add] at z0 z1
        simp at e0 e2
        simp only [Prod.mk.injEq] at hxy
        refine ⟨(n0, s2), by simpa [e0] using z0, by simpa [e2] using z1, g0, y0.1, ?_⟩
        rw [hxy.1]
        simp [r2]
    obtain ⟨q, hq⟩ := choose_lt each
    refine ⟨some a, m, (List.range len).map q, by simp, by simpa using hl, ⟨some a, m, by simp, by simp; omega, fun i e he => ?_⟩, ?_, ?_⟩
    · have hi : i < len := by
        have := (List.getElem?_eq_some_iff.1 he).1
        simpa using this
      have hqe : q i = e := by simpa [hi] using he
      obtain ⟨c0, c1, _, _⟩ := hq i hi
      rw [hqe] at c0 c1
      obtain ⟨b, off, spot⟩ := a
      have hspot : spot = none := by simpa [Addr.add] using World.cell?_spot (hq 0 (by omega)).1
      subst hspot
      rw [add_plain] at c0 c1
      exact ⟨b, off, rfl, World.block_lt_of_cell? W _ c0, c0, by simpa [Nat.add_assoc] using c1⟩
    · intro e he
      obtain ⟨i, hi, rfl⟩ := List.mem_map.1 he
      exact (hq i (List.mem_range.1 hi)).2.2.1
    · have hdx : d = .slice ((List.range len).map D) ((List.range (m - len)).map fun j => D (len + j)) := by
        have := congrArg Prod.fst hx; exact this
      rw [hdx]
      have h1 : manyT ((List.range len).map q) ≤ Rows.uptoBulkAll ((List.range len).map D) := by
        refine bulk_le (List.range len) q D (fun i hi => ?_)
        obtain ⟨_, _, _, d0, hD⟩ := hq i (List.mem_range.1 hi)
        rw [hD]
        simp only [Rows.uptoBulk, Rows.uptoBulkAll]
        rw [sg.lst_len]
        have := bulk_pos d0
        omega
      simp only [Rows.uptoBulk]
      omega

set_option maxRecDepth 100000 in
theorem open_tok {H : Type} {enc : TypeId × Value → H} {W : World} {base : Nat} {v : Value} {d : DataW H} {p : List MemPlace} (hok : Value.okWide Tryz.prog W .any base 24 v)
    (h : DataW.Trod enc Tryz.prog W 0 (fun _ => true) true 24 v d p) :
    ∃ (k : Int) (s : ByteArray), v = .agg #[.int .i64 k, .string s] ∧ (Lit.int .i64 k).wf = true ∧ s.size ≤ Rows.uptoBulk d := by
  obtain ⟨cs, rfl, hsz⟩ := okWide_struct Tryz.underlying24 hok
  obtain ⟨fuel, hf⟩ := h
  rw [cellsE] at hsz
  obtain ⟨xs, k, hk, hxy, _, hxl, hfl⟩ := DataW.trod_struct Tryz.underlying24 hf
  obtain ⟨l⟩ := cs
  match xs, hxl, l, hsz with
  | [y0, y1], _, [v0, v1], _ =>
    have q0 := hfl 0 _ rfl
    have q1 := hfl 1 _ rfl
    simp [cellsI, cellsS, Value.cells] at q0 q1
    obtain ⟨n0, e0, r0, g0⟩ := DataW.trod_int Tryz.underlying3 q0
    obtain ⟨s2, e2, r2, _⟩ := DataW.trod_string Tryz.underlying9 q1
    simp at e0 e2
    subst e0 e2
    simp only [Prod.mk.injEq] at hxy
    refine ⟨n0, s2, rfl, g0, ?_⟩
    rw [hxy.1]
    simp [r2, Rows.uptoBulk, Rows.uptoBulkAll]
    omega
end Go.Proofs.YtmoamfcaokefiaaGreatDoor.it
