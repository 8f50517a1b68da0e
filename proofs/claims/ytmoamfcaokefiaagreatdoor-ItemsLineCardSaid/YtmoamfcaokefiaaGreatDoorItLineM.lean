/-
  The mathematics of ItemsLine: a line's tokens are the source's that count, with blanks between.
-/
import Derived.Test.YtmoamfcaokefiaaGreatDoorItAll
namespace Go.Proofs.YtmoamfcaokefiaaGreatDoor.it
open Go.RowKit
open sg (lst_len OpsAt)
open lx
set_option linter.unusedVariables false

theorem ok_gap (T : List UInt8 → List Lx.Tok) (a b : Lx.Tok) : Ok (Lx.gapT T a b) := by
  unfold Lx.gapT
  split
  · exact ok_nil
  · decide
theorem ok_go (T : List UInt8 → List Lx.Tok) (a : Lx.Tok) (r : List Lx.Tok) (h : ∀ t ∈ r, Ok t.2) : Ok (Lx.lineGo T a r) := by
  induction r generalizing a with
  | nil => exact ok_nil
  | cons b r ih =>
    exact ok_app (ok_gap T a b) (ok_app (h b (List.mem_cons_self ..)) (ih b (fun t ht => h t (List.mem_cons_of_mem _ ht))))
theorem ok_lineT (T : List UInt8 → List Lx.Tok) (l : List Lx.Tok) (h : ∀ t ∈ l, Ok t.2) : Ok (Lx.lineT T l) := by
  cases l with
  | nil => exact ok_nil
  | cons a r => exact ok_app (h a (List.mem_cons_self ..)) (ok_go T a r (fun t ht => h t (List.mem_cons_of_mem _ ht)))
theorem filter_as (l : List Lx.Tok) : (l.map asTk).filter (fun t => !idleB t.1) = (l.filter (fun t => !Lx.idleT t)).map asTk := by
  induction l with
  | nil => rfl
  | cons a r ih =>
    rw [List.map_cons, List.filter_cons, List.filter_cons, show (!idleB (asTk a).1) = !Lx.idleT a from rfl]
    split
    · rw [List.map_cons, ih]
    · exact ih
theorem pt_map (l : List Lx.Tok) : (l.map asTk).map pt = l := ((map_pt l (l.map asTk)).1 rfl).symm
theorem lineU_full (cs : List Tk) (n : Nat) (h : cs.length ≤ n) : lineU cs n = Lx.lineT TF (cs.map pt) := by
  unfold lineU; rw [List.take_of_length_le h]
theorem size_filter (p : Lx.Tok → Bool) (l : List Lx.Tok) : Lx.size (l.filter p) ≤ Lx.size l := by
  induction l with
  | nil => exact Nat.le_refl _
  | cons a r ih =>
    rw [List.filter_cons]
    split
    · simp only [Lx.size, List.map_cons, List.sum_cons] at ih ⊢; omega
    · simp only [Lx.size, List.map_cons, List.sum_cons] at ih ⊢; omega
/-- A line, and its tokens. -/
theorem line_told {s : ByteArray} (hs : s.size ≤ 300) {l : List Lx.Tok} (h : tokensF s.data.toList (utf.checkF s) = (l, 0, 0)) (z : ByteArray)
    (hz : (⟨(lineU ((l.map asTk).filter (fun t => !idleB t.1)) (l.map asTk).length).toArray⟩ : ByteArray) = z) :
    z.size ≤ 600 ∧ ∃ m, tokensF z.data.toList (utf.checkF z) = (m, 0, 0) ∧ (m.map asTk).filter (fun t => !idleB t.1) = (l.map asTk).filter (fun t => !idleB t.1) ∧
      notesU (m.map asTk) = [] ∧ (⟨(lineU ((m.map asTk).filter (fun t => !idleB t.1)) (m.map asTk).length).toArray⟩ : ByteArray) = z := by
  obtain ⟨h1, h2, _⟩ := told_ok h
  have hall := toks_ok h2 h1
  have hsz : Lx.size l ≤ 300 := by
    have := Lx.size_le Lx.start s.data.toList
    rw [lst_len, h2] at this
    exact Nat.le_trans this hs
  have hln := tok_len s h
  have hp := (Lx.wf_of_lex h2).plain
  obtain ⟨cs, hcs⟩ : ∃ cs, l.filter (fun t => !Lx.idleT t) = cs := ⟨_, rfl⟩
  have hi : ∀ t ∈ cs, Lx.idleT t = false := by
    intro t ht
    rw [← hcs] at ht
    simpa using (List.mem_filter.1 ht).2
  have hokc : ∀ t ∈ cs, Ok t.2 := by
    intro t ht
    rw [← hcs] at ht
    exact hall t (List.mem_filter.1 ht).1
  have hcl : cs.length ≤ l.length := by rw [← hcs]; exact List.length_filter_le _ _
  have hcz : Lx.size cs ≤ 300 := by rw [← hcs]; exact Nat.le_trans (size_filter _ l) hsz
  rw [hcs] at hp
  rw [filter_as, hcs] at hz ⊢
  rw [lineU_full _ _ (by rw [List.length_map, List.length_map]; exact hcl), pt_map] at hz
  have hll := lineT_len TF cs
  have hzl : z.data.toList = Lx.lineT TF cs := by rw [← hz]
  have hzs : z.size ≤ 600 := by
    rw [← lst_len, hzl]
    omega
  obtain ⟨hsp1, hsp2⟩ := Lx.spaced_plain TF cs hi
  refine ⟨hzs, Lx.spacedT TF cs, ?_, ?_, ?_, ?_⟩
  · have hlex := Lx.line_of tells_TF hp hi
    unfold tokensF
    rw [hzl, hlex, if_neg (by rw [← hzl, lst_len]; omega), if_neg, if_pos rfl]
    rw [utf.checkF_L, hzl, show utf.chkL (Lx.lineT TF cs).length (Lx.lineT TF cs) 0 = -1 from ok_lineT TF cs hokc]
    decide
  · rw [filter_as, hsp1]
  · unfold notesU
    rw [List.map_eq_nil_iff, List.filter_eq_nil_iff]
    intro t ht
    obtain ⟨u, hu, rfl⟩ := List.mem_map.1 ht
    simpa using hsp2 u hu
  · rw [filter_as, hsp1, lineU_full, pt_map, hz]
    rw [List.length_map, List.length_map]
    have := List.length_filter_le (fun t => !Lx.idleT t) (Lx.spacedT TF cs)
    rwa [hsp1] at this
/-- A lexer's kinds are few. -/
theorem wf_kinds2 {x : Lx.Lex} {ts : List Lx.Tok} (h : Lx.WF x ts) : ∀ t ∈ ts, t.1 ≤ 13 := by
  have key : ∀ x : Lx.Lex, ∀ e ∈ Lx.tried x, e.1 ≤ 13 := by
    intro x e he
    unfold Lx.tried at he
    split at he
    · simp only [Lx.inside, List.mem_cons, List.not_mem_nil, or_false] at he
      rcases he with rfl | rfl | rfl <;> decide
    · have : e ∈ Lx.closing := by
        split at he
        · exact he
        · exact List.mem_cons_of_mem _ he
      simp only [Lx.closing, Lx.outside, List.mem_cons, List.not_mem_nil, or_false] at this
      rcases this with rfl | rfl | rfl | rfl | rfl | rfl | rfl | rfl | rfl | rfl <;> decide
  induction ts generalizing x with
  | nil => intro t ht; cases ht
  | cons a r ih =>
    obtain ⟨y, hf, _, _, hr⟩ := h
    intro t ht
    rcases List.mem_cons.1 ht with rfl | ht
    · obtain ⟨_, e, he, hk, _⟩ := Lx.find_some hf
      rw [← hk]
      exact key _ _ he
    · exact ih hr t ht
theorem fits_told {s : ByteArray} (hs : s.size ≤ 1000) {l : List Lx.Tok} (h : tokensF s.data.toList (utf.checkF s) = (l, 0, 0)) : ∀ t ∈ l.map asTk, Fits t := by
  obtain ⟨h1, h2, _⟩ := told_ok h
  have hw := Lx.wf_of_lex h2
  refine fits_tok l fun t ht => ⟨?_, ?_, ?_⟩
  · have := wf_kinds hw t ht; omega
  · have := wf_kinds2 hw t ht; omega
  · have := mem_len (x := Lx.start) (l := s.data.toList) (t := t) (by rw [h2]; exact ht)
    rw [lst_len] at this
    omega
theorem heads_same {ts tm : List Tk} (h : tm.filter (fun t => !idleB t.1) = ts.filter (fun t => !idleB t.1)) (k : Nat) (x y : Run) (hx : (runsU ts)[k]? = some x) (hy : (runsU tm)[k]? = some y) :
    x.l.headD (0, ⟨#[]⟩) = y.l.headD (0, ⟨#[]⟩) := by
  have e : heads (runsU tm) = heads (runsU ts) := by rw [heads_of, heads_of, h]
  have := congrArg (fun l : List Tk => l[k]?) e
  simp only [heads, List.getElem?_map, hx, hy, Option.map_some] at this
  exact (Option.some.inj this).symm
end Go.Proofs.YtmoamfcaokefiaaGreatDoor.it
