/-
  subeditorlaw04.LexText: for every input it returns true, and the arguments read as they did. No condition.
-/
import Derived.Test.YteemngcdpidnfaaDoorLxMath3
import Derived.Test.YteemngcdpidnfaaDoorLxSource
import Derived.Test.YteemngcdpidnfaaDoorCards
import Derived.Test.YteemngcdpidnfaaDoorTie
import Derived.SevenTiedAt
namespace Go.Proofs.YteemngcdpidnfaaDoor.lexText
open Go.RowKit Go.ChangeShapes Go.WideShapes Go.ChangeAt Go.ChangeMaps
open sg (OpsAt lst_len)
open lx
set_option linter.unusedVariables false

theorem ba_ext {a b : ByteArray} (h : a.data.toList = b.data.toList) : a = b := by rw [← Lib.mk_data a, ← Lib.mk_data b, h]
theorem app_data (a b : ByteArray) : (a ++ b).data.toList = a.data.toList ++ b.data.toList := by rw [ByteArray.data_append, Array.toList_append]
def txP : List (List UInt8) := [[97], [32], [35], [40], [41], [124], [92, 110], [92, 117, 48, 48, 101, 57], [46], [36, 120], [195, 169], [10]]
def txCells : Array Value := #[.string ⟨#[97]⟩, .string ⟨#[32]⟩, .string ⟨#[35]⟩, .string ⟨#[40]⟩, .string ⟨#[41]⟩, .string ⟨#[124]⟩, .string ⟨#[92, 110]⟩, .string ⟨#[92, 117, 48, 48, 101, 57]⟩, .string ⟨#[46]⟩, .string ⟨#[36, 120]⟩, .string ⟨#[195, 169]⟩, .string ⟨#[10]⟩]
def txB (k : Nat) : ByteArray := ⟨(txP.getD k []).toArray⟩
theorem tx_all : ∀ k : Fin 12, txCells[k.1]? = some (.string (txB k.1)) := fun ⟨k, hk⟩ => by
  have e : txCells = (txP.map fun l => Value.string ⟨l.toArray⟩).toArray := rfl
  have hl : txP.length = 12 := rfl
  rw [e]
  simp [txB, List.getD, hk, hl]
theorem tx_at (k : Nat) (h : k < 12) : txCells[k]? = some (.string (txB k)) := tx_all ⟨k, h⟩
theorem tx_len : ∀ l ∈ txP, l.length ≤ 6 := by decide
theorem tx_size (k : Nat) : (txB k).size ≤ 6 := by
  show (txP.getD k []).toArray.size ≤ 6
  rw [List.size_toArray]
  by_cases h : k < txP.length
  · rw [List.getD, List.getElem?_eq_getElem h]; exact tx_len _ (List.getElem_mem h)
  · rw [List.getD, List.getElem?_eq_none (by omega)]; decide

def txAcc (bs : List Int) : ByteArray := bs.foldl (fun acc b => acc ++ txB (b % 12).toNat) ⟨#[]⟩
theorem txAcc_snoc (bs : List Int) (b : Int) : txAcc (bs ++ [b]) = txAcc bs ++ txB (b % 12).toNat := by simp [txAcc]
theorem txAcc_size (bs : List Int) : (txAcc bs).size ≤ 6 * bs.length := by
  have : ∀ (l : List Int) (acc : ByteArray), (l.foldl (fun acc b => acc ++ txB (b % 12).toNat) acc).size ≤ acc.size + 6 * l.length := by
    intro l
    induction l with
    | nil => intro acc; simp
    | cons b r ih =>
      intro acc
      have h1 := ih (acc ++ txB (b % 12).toNat)
      have h2 := tx_size (b % 12).toNat
      rw [ByteArray.size_append] at h1
      simp only [List.foldl_cons, List.length_cons]
      omega
  have h := this bs ⟨#[]⟩
  have e : (⟨#[]⟩ : ByteArray).size = 0 := rfl
  rw [e] at h
  unfold txAcc
  omega
def txF (bs : List Int) : ByteArray := txAcc (bs.take 40)
theorem txF_size (bs : List Int) : (txF bs).size ≤ 300 := by
  have h := txAcc_size (bs.take 40)
  have h2 : (bs.take 40).length ≤ 40 := by rw [List.length_take]; omega
  unfold txF; omega


theorem tx_item (k : Nat) : Lx.Item (txB k).data.toList ∧ Ok (txB k).data.toList := by
  have e : (txB k).data.toList = txP.getD k [] := by simp [txB]
  rw [e]
  by_cases h : k < 12
  · have hk : k = 0 ∨ k = 1 ∨ k = 2 ∨ k = 3 ∨ k = 4 ∨ k = 5 ∨ k = 6 ∨ k = 7 ∨ k = 8 ∨ k = 9 ∨ k = 10 ∨ k = 11 := by omega
    rcases hk with rfl | rfl | rfl | rfl | rfl | rfl | rfl | rfl | rfl | rfl | rfl | rfl
    · exact ⟨Lx.item_plain (by decide +kernel), by decide +kernel⟩
    · exact ⟨Lx.item_plain (by decide +kernel), by decide +kernel⟩
    · exact ⟨Lx.item_plain (by decide +kernel), by decide +kernel⟩
    · exact ⟨Lx.item_plain (by decide +kernel), by decide +kernel⟩
    · exact ⟨Lx.item_plain (by decide +kernel), by decide +kernel⟩
    · exact ⟨Lx.item_plain (by decide +kernel), by decide +kernel⟩
    · exact ⟨Lx.item_n, by decide +kernel⟩
    · exact ⟨Lx.item_u, by decide +kernel⟩
    · exact ⟨Lx.item_plain (by decide +kernel), by decide +kernel⟩
    · exact ⟨Lx.item_plain (by decide +kernel), by decide +kernel⟩
    · exact ⟨Lx.item_plain (by decide +kernel), by decide +kernel⟩
    · exact ⟨Lx.item_plain (by decide +kernel), by decide +kernel⟩
  · have : txP.getD k [] = [] := by rw [List.getD, List.getElem?_eq_none (by show 12 ≤ k; omega)]; rfl
    rw [this]
    exact ⟨Lx.item_nil, ok_nil⟩
theorem acc_item (bs : List Int) : Lx.Item (txAcc bs).data.toList ∧ Ok (txAcc bs).data.toList := by
  have : ∀ (l : List Int) (acc : ByteArray), Lx.Item acc.data.toList ∧ Ok acc.data.toList → Lx.Item (l.foldl (fun acc b => acc ++ txB (b % 12).toNat) acc).data.toList ∧ Ok (l.foldl (fun acc b => acc ++ txB (b % 12).toNat) acc).data.toList := by
    intro l
    induction l with
    | nil => intro acc h; exact h
    | cons b r ih =>
      intro acc h
      refine ih _ ?_
      have hk := tx_item (b % 12).toNat
      rw [app_data]
      exact ⟨Lx.item_app h.1 hk.1, ok_app h.2 hk.2⟩
  exact this bs ⟨#[]⟩ ⟨Lx.item_nil, ok_nil⟩

/-- The source: the text, as a string. -/
def src (s : ByteArray) : ByteArray := ⟨#[34]⟩ ++ s ++ ⟨#[34]⟩
theorem src_data (s : ByteArray) : (src s).data.toList = 34 :: (s.data.toList ++ [34]) := by unfold src; rw [app_data, app_data]; rfl
theorem toks_src (s : ByteArray) (hs : s.size ≤ 300) (hi : Lx.Item s.data.toList) (ho : Ok s.data.toList) :
    tokensF (src s).data.toList (utf.checkF (src s)) = (if s.data.toList = [] then ([(7, [34]), (11, [34])], 0, 0) else ([(7, [34]), (8, s.data.toList), (11, [34])], 0, 0)) := by
  have h1 : Ok (src s).data.toList := by rw [src_data]; exact ok_app (l := [34]) (by decide +kernel) (ok_app ho (by decide +kernel))
  have h2 : (src s).size ≤ 65536 := by unfold src; rw [ByteArray.size_append, ByteArray.size_append]; show 1 + s.size + 1 ≤ 65536; omega
  have h3 := Lx.lex_text hi
  rw [← src_data] at h3
  split at h3
  · rename_i h0
    rw [if_pos h0, tokensF_ok h1 h2 h3, if_pos rfl]
  · rename_i h0
    rw [if_neg h0, tokensF_ok h1 h2 h3, if_pos rfl]
theorem src_empty : src ⟨#[]⟩ = ⟨#[34, 34]⟩ := rfl

/-- What the law's last line asks of the tokens. -/
theorem tok_text (s : ByteArray) (hs : s.size ≤ 300) (hi : Lx.Item s.data.toList) (ho : Ok s.data.toList) (h0 : s.data.toList ≠ []) (w : World) (hw : OpsAt w) :
    Calls Tryd.prog 13 #[.string (src s)] w fun e w' => ∃ g cap, e = .returned (.tuple #[.slice (some ⟨g, 0, none⟩) 3 cap, .int .u16 0, .int .i64 0]) ∧ w'.cell? ⟨g, 2, none⟩ = some (.int .i64 8) ∧ w'.cell? ⟨g, 3, none⟩ = some (.string s) ∧ g < w'.heap.size ∧ Below w.heap.size w w' := by
  refine (tokens_as (src s) w hw _ _ _ ((toks_src s hs hi ho).trans (if_neg h0))).mono ?_
  rintro e w' ⟨v, rfl, ht, hb⟩
  obtain ⟨g, cap, rfl, hg, hc⟩ := ht.some (by simp)
  obtain ⟨c0, c1⟩ := hc 1 _ rfl
  simp only at c1
  rw [Lib.mk_data] at c1
  exact ⟨g, cap, rfl, c0, c1, hg, hb⟩
theorem tok_none (s : ByteArray) (h0 : s.data.toList = []) (w : World) (hw : OpsAt w) :
    Calls Tryd.prog 13 #[.string (src s)] w fun e w' => ∃ ao cap, e = .returned (.tuple #[.slice ao 2 cap, .int .u16 0, .int .i64 0]) ∧ Below w.heap.size w w' := by
  have hs : s.size ≤ 300 := by rw [← lst_len, h0]; simp
  refine (tokens_as (src s) w hw _ _ _ ((toks_src s hs (by rw [h0]; exact Lx.item_nil) (by rw [h0]; exact ok_nil)).trans (if_pos h0))).mono ?_
  rintro e w' ⟨v, rfl, ⟨ao, cap, rfl, _⟩, hb⟩
  exact ⟨ao, cap, rfl, hb⟩

set_option maxRecDepth 100000 in
set_option maxHeartbeats 4000000 in
theorem walk (v : Value) (bs : List Int) (w : World) (hv : law.BytesAt w v bs) (hw : OpsAt w) :
    Calls Tryd.prog 8 #[v] w fun e W' => e = .returned (.bool true) ∧ Below w.heap.size w W' := by
  have HW := Lib.hid hw
  clear hw
  rcases hv with ⟨rfl, rfl⟩ | ⟨a, cap, rfl, rfl⟩ | ⟨b, off, cap, rfl, hm, hc⟩
  · have hto := tok_none ⟨#[]⟩ rfl w HW.out
    unfold src at hto
    go_enter Tryd.func8, Tryd.ntmps8
    go_wp2
    go_loop [3, 4] (fun t i => i = .int .i64 0 ∧ t = .string ⟨#[]⟩) (fun _ _ => 0)
    case atStart => exact ⟨rfl, rfl⟩
    case round =>
      obtain ⟨rfl, rfl⟩ := hrel
      go_wp2_with fail
      ((with_reducible refine hto.mono ?_); rintro e w2 ⟨ao, cp, rfl, hb2⟩)
      go_wp2_with fail
      ((with_reducible refine (known_calls _ (HW.out.own hb2)).mono ?_); rintro e w3 ⟨rfl, hb3⟩)
      go_wp2_with fail
      go_ret
      exact ⟨rfl, sg.Below.next hb2 hb3 (Nat.le_refl _)⟩
  · have hto := tok_none ⟨#[]⟩ rfl w HW.out
    unfold src at hto
    go_enter Tryd.func8, Tryd.ntmps8
    go_wp2
    go_loop [3, 4] (fun t i => i = .int .i64 0 ∧ t = .string ⟨#[]⟩) (fun _ _ => 0)
    case atStart => exact ⟨rfl, rfl⟩
    case round =>
      obtain ⟨rfl, rfl⟩ := hrel
      go_wp2_with fail
      ((with_reducible refine hto.mono ?_); rintro e w2 ⟨ao, cp, rfl, hb2⟩)
      go_wp2_with fail
      ((with_reducible refine (known_calls _ (HW.out.own hb2)).mono ?_); rintro e w3 ⟨rfl, hb3⟩)
      go_wp2_with fail
      go_ret
      exact ⟨rfl, sg.Below.next hb2 hb3 (Nat.le_refl _)⟩
  · unfold maxLen at hm
    generalize hn : bs.length = m at hm hc
    have HN := Lib.hid hn
    have HCC := Lib.hid hc
    clear hn hc
    go_enter Tryd.func8, Tryd.ntmps8
    go_wp2
    go_loopw [3, 4] (fun t i wr => ∃ k : Nat, k ≤ m ∧ k ≤ 40 ∧ i = .int .i64 (k : Int) ∧ t = .string (txAcc (bs.take k)) ∧ Below w.heap.size w wr) (fun _ i _ => 40 - (intOf i).toNat)
    case atStart => exact ⟨0, Nat.zero_le _, Nat.zero_le _, rfl, rfl, Below.refl _ _⟩
    case round =>
      obtain ⟨k, hk, hk60, rfl, rfl, hb⟩ := hrel
      by_cases hgo : k < m ∧ k < 40
      · obtain ⟨h1, h2⟩ := hgo
        have hb1 := txAcc_size (bs.take k)
        have hb2 : (bs.take k).length ≤ k := by rw [List.length_take]; omega
        have hsn := txAcc_snoc (bs.take k) (bs.getD k 0)
        rw [← take_snoc_getD bs k (by rw [HN.out]; exact h1)] at hsn
        obtain ⟨hcell0, hx0, hx1⟩ := HCC.out k h1
        have hlt := World.block_lt_of_cell? w _ hcell0
        have hcell := (hb.cell (p := ⟨b, off + k, none⟩) hlt).trans hcell0
        have hltr : b < wr.heap.size := Nat.lt_of_lt_of_le hlt hb.size
        generalize bs.getD k 0 = x at hsn hcell hx0 hx1 hcell0
        clear hcell0
        have hp := tx_at (x % 12).toNat (by omega)
        have hpc : (wr.alloc (.cells txCells 9)).cell? ⟨wr.heap.size, (x % 12).toNat, none⟩ = some (.string (txB (x % 12).toNat)) := by
          rw [← hp]; exact cells_new wr _ _ _
        have hq0 : 0 ≤ x % 12 := by omega
        have hq1 : x % 12 < 12 := by omega
        have HSN := Lib.hid hsn
        have hps := tx_size (x % 12).toNat
        have HB := Lib.hid (hb.alloc hb.size (.cells txCells 9))
        clear hsn hp hb
        unfold txCells at hpc
        have hsum : (txAcc (bs.take k)).size + (txB (x % 12).toNat).size ≤ maxLen := by unfold maxLen; omega
        go_wp2
        go_roundw
        case rel => exact ⟨k + 1, by omega, by omega, by go_num, by rw [HSN.out], HB.out⟩
        case measure => simp [intOf]; omega
      · have hfin : txAcc (bs.take k) = txF bs := by
          unfold txF
          by_cases hkm : k = m
          · rw [List.take_of_length_le (by rw [HN.out]; omega), List.take_of_length_le (by rw [HN.out]; omega)]
          · rw [show k = 40 by omega]
        rw [hfin]
        have hfs := txF_size bs
        obtain ⟨hi, ho⟩ := acc_item (bs.take 40)
        change Lx.Item (txF bs).data.toList at hi
        change Ok (txF bs).data.toList at ho
        have hguard : (¬ k < m ∧ decide ((k : Int) < (m : Int)) = false) ∨ (k = 40 ∧ (40 : Int) < (m : Int) ∧ decide (((40 : Nat) : Int) < 40) = false) := by
          by_cases h1 : k < m
          · obtain rfl : k = 40 := by omega
            exact .inr ⟨rfl, by omega, by decide⟩
          · exact .inl ⟨h1, decide_eq_false (by omega)⟩
        obtain ⟨S, hS⟩ : ∃ S, txF bs = S := ⟨_, rfl⟩
        rw [hS] at hfs hi ho ⊢
        have hsz1 : ¬ (9223372036854775807 < (⟨#[34]⟩ : ByteArray).size + S.size) := by show ¬ (9223372036854775807 < 1 + S.size); omega
        have hsz2 : ¬ (9223372036854775807 < ((⟨#[34]⟩ : ByteArray) ++ S).size + (⟨#[34]⟩ : ByteArray).size) := by rw [ByteArray.size_append]; show ¬ (9223372036854775807 < 1 + S.size + 1); omega
        have hwr := HW.out.own hb
        have HWR := Lib.hid hwr
        have HB := Lib.hid hb
        clear hS hfin hgo hwr hb
        by_cases h0 : S.data.toList = []
        · have hto := tok_none S h0 wr HWR.out
          unfold src at hto
          have e1 : S.toList.isEmpty = true := by rw [toList_eq, h0]; rfl
          have e2 : (!S.toList.isEmpty) = false := by rw [e1]; rfl
          have e3 : S.toList = [] := by rw [toList_eq, h0]
          clear hi ho h0
          rcases hguard with ⟨g0, g1⟩ | ⟨rfl, g1, g2⟩
          all_goals
            go_wp2_with fail
            ((with_reducible refine hto.mono ?_); rintro e w2 ⟨ao, cp, rfl, hb2⟩)
            go_wp2_with fail
            ((with_reducible refine (known_calls _ (HWR.out.own hb2)).mono ?_); rintro e w3 ⟨rfl, hb3⟩)
            go_wp2_with fail
            go_ret
            exact ⟨rfl, sg.Below.next (sg.Below.next HB.out hb2 (Nat.le_refl _)) hb3 (Nat.le_refl _)⟩
        · have hto := tok_text S (by omega) hi ho h0 wr HWR.out
          unfold src at hto
          have e1 : S.toList.isEmpty = false := by rw [toList_eq]; cases hq : S.data.toList with | nil => exact absurd hq h0 | cons a r => rfl
          have e2 : (!S.toList.isEmpty) = true := by rw [e1]; rfl
          clear hi ho h0
          rcases hguard with ⟨g0, g1⟩ | ⟨rfl, g1, g2⟩
          all_goals
            go_wp2_with fail
            ((with_reducible refine hto.mono ?_); rintro e w2 ⟨gg, cp, rfl, c0, c1, hgg, hb2⟩)
            go_wp2_with fail
            ((with_reducible refine (known_calls _ (HWR.out.own hb2)).mono ?_); rintro e w3 ⟨rfl, hb3⟩)
            have d0 := (hb3.cell (p := ⟨gg, 2, none⟩) hgg).trans c0
            have d1 := (hb3.cell (p := ⟨gg, 3, none⟩) hgg).trans c1
            clear c0 c1
            go_wp2_with fail
            go_ret
            exact ⟨by simp, sg.Below.next (sg.Below.next HB.out hb2 (Nat.le_refl _)) hb3 (Nat.le_refl _)⟩

set_option maxRecDepth 100000 in
theorem lifted (os : Os) (started : os.Started) (H : Type) (enc : TypeId × Value → H) :
    ReturnsInHanded {} Tryd.checked os 8 .any (fun w args => (Rows.lexTextSpec.pre enc Tryd.prog Tryd.f8 Rows.lexTextRow.domain false w args ∧ laidMetH Tryd.prog lx.laid w) ∧ sizedMet enc Tryd.prog Tryd.f8 (OpenSpec.ofChange Rows.lexTextSpec) false w args) (Rows.lexTextSpec.post enc Tryd.prog Tryd.f8 false true false false) := by
  refine returnsInHanded_of_change_and (C := Tryd.checked) (X := fun w _ => laidMetH Tryd.prog lx.laid w) (fun _ _ _ hh h => h.of_heap hh) law.own started (by kernel_rfl) Tryd.func8
    (ChangeSpec.witness_shaped (enc := enc) (C := Tryd.checked) (os := os) (X := fun w _ => laidMetH Tryd.prog lx.laid w) false (World.laidAll Tryd.prog os lx.laid) #[.slice none 0 0] 8 (World.laidAll_os _ _ _) (World.shaped_of_ZipB (by kernel_rfl) (by kernel_rfl)) (by kernel_rfl) (by kernel_rfl) (by kernel_rfl) (lx.laid_met os _)) ?_
  intro W base args ds gs before hval0 hW _ hsize0 hL _
  have hsize : (DataW.weightsEach Tryd.prog (Tryd.f8.params.toList ++ _) (ds ++ gs)).all (· ≤ reachBytes) = true := hsize0
  have hOps := lx.ops_of_laid hL
  have hval : ∀ (j : Nat) t v, Tryd.f8.params[j]? = some t → args[j]? = some v → Value.okWide Tryd.prog W .any base t v := hval0
  have hW' := hW
  obtain ⟨p, q, hA0, hV, rfl, _, _⟩ := hW
  have hA : DataW.TrodAll enc Tryd.prog W 0 (fun _ => true) true Tryd.f8.params.toList args.toList ds p := hA0
  rw [Tryd.params8] at hA hval
  obtain ⟨v0, d0, rfl, rfl, h0⟩ := trodAll_one hA
  obtain ⟨rfl, rfl⟩ := trodVars_none hV
  obtain ⟨bs, hbs⟩ := law.open_bytes (hval 0 22 v0 rfl rfl) h0
  clear hL
  refine (walk v0 bs W hbs hOps).mono fun e W' ⟨he, hb⟩ => ⟨_, he, ?_⟩
  exact law.law_post rfl hW' rfl (by kernel_rfl) (by kernel_rfl) hb

/-- LexText, for every input. -/
theorem holds : Rows.LexTextSaid :=
  OpenClaim.holds_of_wide 8 Tryd.f8 rfl rfl rfl rfl rfl rfl rfl ⟨rfl, rfl, rfl, rfl, rfl⟩ rfl rfl rfl rfl rfl (by kernel_rfl) Tryd.func8 (by kernel_rfl)
    (of_decide_eq_true (by kernel_rfl)) (by unfold Func.isWrapper; first | (rw [if_pos (by decide +kernel)]; kernel_rfl) | (rw [if_neg (by decide +kernel)]; exact ⟨rfl, rfl⟩))
    (fun os started H enc _ => lifted os started H enc)

/-- The tied card of LexText. -/
theorem card : Rows.LexTextCardSaid :=
  Claim7.holds_tied_plain_at .later [] [.data, .data, .pinned] true Rows.lexTextCard.stood.harness false
    holds (fun _ h => by cases h) (by kernel_rfl) (fun _ h => by cases h) lexText_row_tie rfl ⟨rfl, rfl⟩ (by kernel_rfl) rfl
    (fun f fn hf hfn => by
      obtain rfl : f = 8 := Option.some.inj ((show Tryd.prog.funcNamed "subeditor/subeditorlaw04.LexText" = some 8 by kernel_rfl).symm.trans hf) |>.symm
      obtain rfl : fn = Tryd.f8 := (Option.some.inj (Tryd.func8.symm.trans hfn)).symm
      exact ⟨by kernel_rfl, fun j t ht => by
        rw [Tryd.params8] at ht
        have hm := List.mem_toArray.1 (Array.mem_of_getElem? ht)
        have hall : (Tryd.f8.params.toList.all fun u => !Tryd.prog.wantsStandIn u) = true := by kernel_rfl
        rw [show Tryd.f8.params.toList = _ from congrArg Array.toList Tryd.params8] at hall
        exact (show Tryd.prog.wantsStandIn t = false by simpa using List.all_eq_true.1 hall t hm)⟩)
    (by kernel_rfl)
end Go.Proofs.YteemngcdpidnfaaDoor.lexText
