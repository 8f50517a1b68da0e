/-
  lex: simple; the shapes as values: outside, inside, start: their contracts.
-/
import Derived.Test.YtmoamfcaokefiaaGreatDoorLxFns2
import Derived.Maps.AppendAt
namespace Go.Proofs.YtmoamfcaokefiaaGreatDoor.lx
open Go.RowKit Go.Shelf
open sg (lst_len extract_drop ext_size)
open sx
set_option linter.unusedVariables false

set_option maxRecDepth 100000 in
set_option maxHeartbeats 1000000 in
theorem cut_calls (x a : ByteArray) (w : World) (h : ∀ w, Calls Tryz.prog 134 #[.string x, .string ⟨#[58]⟩] w (CutTo a w)) :
    Calls Tryz.prog 119 #[.string x, .string ⟨#[58]⟩] w (CutTo a w) := by
  go_enter Tryz.func119, Tryz.ntmps119
  go_wp2_with fail
  ((with_reducible refine (h _).mono ?_); rintro e w1 ⟨⟨b, c, rfl⟩, hb⟩)
  go_wp2_with fail
  exact bodyPost_ret (v := .tuple #[.string a, .string b, .bool c]) (by simp [results, Tryz.results119, go_sem]) rfl ⟨⟨_, _, rfl⟩, hb⟩

theorem cut_name (s : ByteArray) (hs : s.size ≤ 65536) (w : World) :
    ∃ a : ByteArray, a.size = Sg.simple s.data.toList ∧ Calls Tryz.prog 119 #[.string (s.extract 0 (Sg.word s.data.toList)), .string ⟨#[58]⟩] w (CutTo a w) := by
  obtain ⟨h1, h2⟩ := Lx.simple_cut s.data.toList
  have hwl := Sg.word_le s.data.toList
  rw [lst_len] at hwl
  have hge := Lib.indexByte_ge (s.data.toList.take (Sg.word s.data.toList)) 58
  by_cases hm : Lib.indexByte (s.data.toList.take (Sg.word s.data.toList)) 58 = -1
  · refine ⟨s.extract 0 (Sg.word s.data.toList), ?_, cut_calls _ _ _ fun w => cutlite_none _ (by rw [extract_take]; exact hm) w⟩
    rw [← h1 hm, ByteArray.size_extract]; omega
  · obtain ⟨k, hk⟩ : ∃ k : Nat, Lib.indexByte (s.data.toList.take (Sg.word s.data.toList)) 58 = (k : Int) := ⟨(Lib.indexByte (s.data.toList.take (Sg.word s.data.toList)) 58).toNat, by omega⟩
    have hks := h2 k hk
    have := Lx.word_simple s.data.toList
    refine ⟨(s.extract 0 (Sg.word s.data.toList)).extract 0 k, ?_, cut_calls _ _ _ fun w => cutlite_some _ (by rw [ByteArray.size_extract]; omega) k (by rw [extract_take]; exact hk) w⟩
    rw [ByteArray.size_extract, ByteArray.size_extract]; omega

set_option maxRecDepth 100000 in
set_option maxHeartbeats 1000000 in
theorem simple_calls (s : ByteArray) (hs : s.size ≤ 65536) (w : World) :
    Calls Tryz.prog 103 #[.string s] w fun e w' => e = .returned (.int .i64 (Sg.simple s.data.toList : Nat)) ∧ Below w.heap.size w w' := by
  have hw := sg.word_calls s (by omega) w
  have hwl := Sg.word_le s.data.toList
  rw [lst_len] at hwl
  obtain ⟨a, ha, hc⟩ := cut_name s hs w
  obtain ⟨n, hn⟩ : ∃ n, Sg.word s.data.toList = n := ⟨_, rfl⟩
  rw [hn] at hw hc hwl
  have h1 : (n : Int) ≤ (s.size : Int) := by omega
  have h2 : (0 : Int) ≤ (n : Int) := by omega
  have HA := Lib.hid ha
  clear ha hn
  go_enter Tryz.func103, Tryz.ntmps103
  go_wp2_with fail
  ((with_reducible refine hw.mono ?_); rintro e w1 ⟨rfl, rfl⟩)
  go_wp2_with fail
  ((with_reducible refine hc.mono ?_); rintro e w1 ⟨⟨b, c, rfl⟩, hb⟩)
  go_wp2_with fail
  go_ret
  exact ⟨by rw [← HA.out]; rfl, hb⟩


/-- The blocks lie as they are listed. -/
abbrev Lie (bl : List (Nat × TypeId × Array Value)) (W : World) : Prop := ∀ b ∈ bl, Blk W b.1 b.2.1 b.2.2

theorem enBlank : ∀ args w, (callFunc 99 args).run Tryz.prog w = .ok (.enter 99 args) w := enters_of Tryz.func99 (by kernel_rfl) rfl
theorem enLD : ∀ args w, (callFunc 104 args).run Tryz.prog w = .ok (.enter 104 args) w := enters_of Tryz.func104 (by kernel_rfl) rfl
theorem enRow : ∀ args w, (callFunc 112 args).run Tryz.prog w = .ok (.enter 112 args) w := enters_of Tryz.func112 (by kernel_rfl) rfl
theorem enMarked : ∀ args w, (callFunc 117 args).run Tryz.prog w = .ok (.enter 117 args) w := enters_of Tryz.func117 (by kernel_rfl) rfl
theorem enJust : ∀ args w, (callFunc 107 args).run Tryz.prog w = .ok (.enter 107 args) w := enters_of Tryz.func107 (by kernel_rfl) rfl
theorem enSimple : ∀ args w, (callFunc 103 args).run Tryz.prog w = .ok (.enter 103 args) w := enters_of Tryz.func103 (by kernel_rfl) rfl
theorem enNote : ∀ args w, (callFunc 100 args).run Tryz.prog w = .ok (.enter 100 args) w := enters_of Tryz.func100 (by kernel_rfl) rfl
theorem enPiece : ∀ args w, (callFunc 108 args).run Tryz.prog w = .ok (.enter 108 args) w := enters_of Tryz.func108 (by kernel_rfl) rfl
theorem enWord : ∀ args w, (callFunc 101 args).run Tryz.prog w = .ok (.enter 101 args) w := enters_of Tryz.func101 (by kernel_rfl) rfl
theorem enNumber : ∀ args w, (callFunc 105 args).run Tryz.prog w = .ok (.enter 105 args) w := enters_of Tryz.func105 (by kernel_rfl) rfl
theorem enOper : ∀ args w, (callFunc 106 args).run Tryz.prog w = .ok (.enter 106 args) w := enters_of Tryz.func106 (by kernel_rfl) rfl

abbrev fnV (g : Nat) (lb : Array Value) : Value := .func (.func g) #[] lb
abbrev ptr (b : Nat) : Value := .pointer (some ⟨b, 0, none⟩)

theorem szWord (bl : List (Nat × TypeId × Array Value)) : SzOn bl (fnV 101 #[]) Sg.word :=
  ⟨_, _, rfl, enWord, fun W _ _ s hs => (sg.word_calls s (by omega) W).mono fun e w' ⟨h1, h2⟩ => ⟨h1, h2 ▸ Below.refl _ _⟩⟩
theorem szNumber (bl : List (Nat × TypeId × Array Value)) : SzOn bl (fnV 105 #[]) Sg.number :=
  ⟨_, _, rfl, enNumber, fun W _ _ s hs => sg.number_calls s (by omega) W⟩
theorem szOper (bl : List (Nat × TypeId × Array Value)) : SzOn bl (fnV 106 #[]) Sg.oper :=
  ⟨_, _, rfl, enOper, fun W ho _ s hs => sg.oper_calls s W ho⟩
theorem szNote (bl : List (Nat × TypeId × Array Value)) : SzOn bl (fnV 100 #[]) Lx.note :=
  ⟨_, _, rfl, enNote, fun W _ _ s hs => (note_calls s hs W).mono fun e w' ⟨h1, h2⟩ => ⟨h1, h2 ▸ Below.refl _ _⟩⟩
theorem szPiece (bl : List (Nat × TypeId × Array Value)) : SzOn bl (fnV 108 #[]) Lx.piece :=
  ⟨_, _, rfl, enPiece, fun W _ _ s hs => piece_calls s hs W⟩
theorem szSimple (bl : List (Nat × TypeId × Array Value)) : SzOn bl (fnV 103 #[]) Sg.simple :=
  ⟨_, _, rfl, enSimple, fun W _ _ s hs => simple_calls s hs W⟩
theorem szJust (bl : List (Nat × TypeId × Array Value)) (B : Nat) (t : ByteArray) (ht : t.size ≤ 100) (h : (B, 9, #[.string t]) ∈ bl) : SzOn bl (fnV 107 #[ptr B]) (Lx.just t.data.toList) :=
  ⟨_, _, rfl, enJust, fun W _ hb s hs => (just1_calls t ht B s W ((hb _ h).cell 0)).mono fun e w' ⟨h1, h2⟩ => ⟨h1, h2 ▸ Below.refl _ _⟩⟩
theorem szRow (bl : List (Nat × TypeId × Array Value)) (B g : Nat) (p : Int → Bool) (h : (B, 92, #[fnV g #[]]) ∈ bl) (hen : ∀ args w, (callFunc g args).run Tryz.prog w = .ok (.enter g args) w)
    (hg : ∀ c : Int, 0 ≤ c → c ≤ 255 → ∀ w, Calls Tryz.prog g #[.int .u8 c] w fun e w' => e = .returned (.bool (p c)) ∧ w' = w) : SzOn bl (fnV 112 #[ptr B]) (Sg.run p) :=
  ⟨_, _, rfl, enRow, fun W _ hb s hs => row1_calls g p B s (by omega) W ((hb _ h).cell 0) hen hg⟩
theorem szMarked (bl : List (Nat × TypeId × Array Value)) (B1 B2 : Nat) (t : ByteArray) (ht : t.size ≤ 100) (v : Value) (f : List UInt8 → Nat) (hf : ∀ l : List UInt8, f l ≤ l.length) (h1 : (B1, 9, #[.string t]) ∈ bl) (h2 : (B2, 47, #[v]) ∈ bl)
    (hv : SzOn bl v f) : SzOn bl (fnV 117 #[ptr B1, ptr B2]) (Lx.marked t.data.toList f) := by
  obtain ⟨g, lb, rfl, hen, hc⟩ := hv
  exact ⟨_, _, rfl, enMarked, fun W ho hb s hs => marked1_calls t ht B1 B2 s hs f g lb W ((hb _ h1).cell 0) ((hb _ h2).cell 0) hen hf (fun s' hs' => hc W ho hb s' hs')⟩

/-- A slice that holds shapes, over the blocks of bl. -/
def ShapesOn (bl : List (Nat × TypeId × Array Value)) (v : Value) (sh : List Lx.Kd) : Prop :=
  ∃ g cap cur, v = .slice (some ⟨g, 0, none⟩) sh.length cap ∧ (g, 114, cur) ∈ bl ∧
    ∀ (i : Nat) k f, sh[i]? = some (k, f) → ∃ u, cur[2 * i]? = some (.int .i64 k) ∧ cur[2 * i + 1]? = some u ∧ SzOn bl u f
theorem ShapesOn.mono {bl bl' : List (Nat × TypeId × Array Value)} {v : Value} {sh : List Lx.Kd} (h : ShapesOn bl v sh) (hs : ∀ b ∈ bl, b ∈ bl') : ShapesOn bl' v sh := by
  obtain ⟨g, cap, cur, h1, h2, h3⟩ := h
  exact ⟨g, cap, cur, h1, hs _ h2, fun i k f e => by obtain ⟨u, a, b, c⟩ := h3 i k f e; exact ⟨u, a, b, c.mono hs⟩⟩

/-- The cells of the shapes outside, of blocks from B on. -/
def outCells (B : Nat) : Array Value := #[.int .i64 1, fnV 112 #[ptr B], .int .i64 2, fnV 100 #[], .int .i64 3, fnV 101 #[],
  .int .i64 4, fnV 117 #[ptr (B + 1), ptr (B + 2)], .int .i64 5, fnV 117 #[ptr (B + 3), ptr (B + 4)], .int .i64 12, fnV 117 #[ptr (B + 6), ptr (B + 7)],
  .int .i64 6, fnV 105 #[], .int .i64 7, fnV 107 #[ptr (B + 8)], .int .i64 13, fnV 106 #[]]
def outBl (B : Nat) : List (Nat × TypeId × Array Value) :=
  [(B, 92, #[fnV 99 #[]]), (B + 1, 9, #[.string ⟨#[46]⟩]), (B + 2, 47, #[fnV 103 #[]]), (B + 3, 9, #[.string ⟨#[36]⟩]), (B + 4, 47, #[fnV 101 #[]]),
   (B + 5, 92, #[fnV 104 #[]]), (B + 6, 9, #[.string ⟨#[64]⟩]), (B + 7, 47, #[fnV 112 #[ptr (B + 5)]]), (B + 8, 9, #[.string ⟨#[34]⟩]), (B + 9, 114, outCells B)]

theorem mem_nth {α : Type} (l : List α) (i : Nat) (x : α) (h : l[i]? = some x) : x ∈ l := List.mem_of_getElem? h

theorem szLD (bl : List (Nat × TypeId × Array Value)) (B : Nat) (h : (B, 92, #[fnV 104 #[]]) ∈ bl) : SzOn bl (fnV 112 #[ptr B]) (Sg.run Sg.cW) :=
  szRow bl B _ _ h enLD (fun c _ _ w => letterOrDigit_calls c w)
theorem szBl (bl : List (Nat × TypeId × Array Value)) (B : Nat) (h : (B, 92, #[fnV 99 #[]]) ∈ bl) : SzOn bl (fnV 112 #[ptr B]) (Sg.run Sg.cB) :=
  szRow bl B _ _ h enBlank (fun c _ _ w => (sg.blank_calls c w).mono fun e w' ⟨h1, h2⟩ => ⟨h1, h2.symm⟩)

theorem out_shapes (B : Nat) : ShapesOn (outBl B) (.slice (some ⟨B + 9, 0, none⟩) 9 9) Lx.outside := by
  refine ⟨B + 9, 9, outCells B, rfl, mem_nth _ 9 _ rfl, fun i k f h => ?_⟩
  match i, h with
  | 0, h => cases h; exact ⟨_, rfl, rfl, szBl _ _ (mem_nth _ 0 _ rfl)⟩
  | 1, h => cases h; exact ⟨_, rfl, rfl, szNote _⟩
  | 2, h => cases h; exact ⟨_, rfl, rfl, szWord _⟩
  | 3, h => cases h; exact ⟨_, rfl, rfl, szMarked _ _ _ ⟨#[46]⟩ (by decide) _ _ Sg.simple_le (mem_nth _ 1 _ rfl) (mem_nth _ 2 _ rfl) (szSimple _)⟩
  | 4, h => cases h; exact ⟨_, rfl, rfl, szMarked _ _ _ ⟨#[36]⟩ (by decide) _ _ Sg.word_le (mem_nth _ 3 _ rfl) (mem_nth _ 4 _ rfl) (szWord _)⟩
  | 5, h => cases h; exact ⟨_, rfl, rfl, szMarked _ _ _ ⟨#[64]⟩ (by decide) _ _ (Sg.run_le _) (mem_nth _ 6 _ rfl) (mem_nth _ 7 _ rfl) (szLD _ _ (mem_nth _ 5 _ rfl))⟩
  | 6, h => cases h; exact ⟨_, rfl, rfl, szNumber _⟩
  | 7, h => cases h; exact ⟨_, rfl, rfl, szJust _ _ ⟨#[34]⟩ (by decide) (mem_nth _ 8 _ rfl)⟩
  | 8, h => cases h; exact ⟨_, rfl, rfl, szOper _⟩
  | n + 9, h => simp [Lx.outside] at h
end Go.Proofs.YtmoamfcaokefiaaGreatDoor.lx
