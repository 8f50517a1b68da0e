/- Ground of the law: SgRef2, PrRef2, UtfRef3. -/
import Derived.Test.YthadnhpkeljdoaaQh04
import Derived.Test.YthadnhpkeljdoaaQh06
import Derived.Test.YthadnhpkeljdoaaQh07
import Derived.Lib.Bytealg
set_option maxRecDepth 100000
set_option maxHeartbeats 8000000
set_option linter.unusedVariables false
set_option linter.unusedSimpArgs false
namespace Go.Proofs.Ythadnhpkeljdoaa.sg
open Go.Lib (hid)
open Go.RowKit Go.Shelf
theorem pre_two_take (s : ByteArray) (a : Nat) : ((s.extract a (a + 2)).toList == [58,58]) = Lib.hasPrefix (s.data.toList.drop a) [58,58]:=by
  rw [Lib.toList_data,Lib.extract_data,← Lib.hasPrefix_of_take]
  have e : a + 2 - a = [58,58].length:=by simp
  rw [e]
  by_cases h : ([58,58] : List UInt8).length ≤ (s.data.toList.drop a).length
  · rw [decide_eq_true h,Bool.true_and,Bool.eq_iff_iff,beq_iff_eq,beq_iff_eq];exact Iff.rfl
  · rw [decide_eq_false h,Bool.false_and,beq_eq_false_iff_ne]
    intro e2
    have:=congrArg List.length e2
    rw [List.length_take] at this
    omega
theorem further_small {l : List UInt8} (h : l.length ≤ 2) : Sg.further l = 0:=by
  unfold Sg.further
  split
  · have : l.drop 2 = []:=List.drop_eq_nil_of_le h
    rw [this];rfl
  · rfl
def RW (s : ByteArray) (b f : Nat) : Prop:=(b = 0 ∧ Sg.word s.data.toList = 0) ∨ (0 < b ∧ b ≤ s.size ∧ s.size ≤ f + b ∧ Sg.word s.data.toList = b + Sg.tail f (s.data.toList.drop b))
theorem RW.start (s : ByteArray) : RW s (Sg.simple s.data.toList) s.size:=by
  have hsl:=Sg.simple_le s.data.toList
  rw [lst_len] at hsl
  by_cases h : Sg.simple s.data.toList = 0
  · left
    refine ⟨h,?_⟩
    unfold Sg.word;rw [if_pos h]
  · right
    refine ⟨by omega,hsl,by omega,?_⟩
    unfold Sg.word;rw [if_neg h,lst_len]
theorem RW.fin {s : ByteArray} {b f : Nat} (h : RW s b f) (h0 : Sg.further (s.data.toList.drop b) = 0) : Sg.word s.data.toList = b:=by
  rcases h with ⟨rfl,h⟩ | ⟨_,_,_,h⟩
  · exact h
  · rw [h]
    cases f with
    | zero=>rfl
    | succ f =>
      rw [show Sg.tail (f + 1) (s.data.toList.drop b) = (if Sg.further (s.data.toList.drop b) = 0 then 0 else Sg.further (s.data.toList.drop b) + Sg.tail f ((s.data.toList.drop b).drop (Sg.further (s.data.toList.drop b)))) from rfl,if_pos h0];rfl
theorem RW.step {s : ByteArray} {b f m : Nat} (h : RW s b f) (hb : 0 < b) (hm : Sg.further (s.data.toList.drop b) = m) (h0 : m ≠ 0) : b + m ≤ s.size ∧ RW s (b + m) (f - 1):=by
  have hfl:=Sg.further_le (s.data.toList.drop b)
  rw [List.length_drop,lst_len,hm] at hfl
  rcases h with ⟨rfl,h⟩ | ⟨_,h1,h2,h⟩
  · omega
  · cases f with
    | zero=>omega
    | succ f =>
      rw [show Sg.tail (f + 1) (s.data.toList.drop b) = (if Sg.further (s.data.toList.drop b) = 0 then 0 else Sg.further (s.data.toList.drop b) + Sg.tail f ((s.data.toList.drop b).drop (Sg.further (s.data.toList.drop b)))) from rfl,hm,if_neg h0,List.drop_drop] at h
      exact ⟨by omega,.inr ⟨by omega,by omega,by omega,by rw [h,Nat.add_sub_cancel];omega⟩⟩
theorem rword_calls (s : ByteArray) (hs : s.size ≤ 140737488351232) (w : World) :
    Calls Try.prog 59 #[.string s] w fun e w'=>e = .returned (.int .i64 (Sg.word s.data.toList : Nat)) ∧ w = w':=by
  have hsm:=rsimple_calls s hs w
  have hst:=RW.start s
  obtain ⟨k0,hk0⟩ : ∃ k,Sg.simple s.data.toList = k:=⟨_,rfl⟩
  rw [hk0] at hsm hst
  have HST:=hid hst
  clear hk0 hst
  go_enter Try.func59,Try.ntmps59
  go_wp2_with fail
  ((with_reducible refine hsm.mono ?_);rintro e w1 ⟨rfl,rfl⟩)
  go_wp2_with fail
  go_loopw [3] (fun n wr=>∃ (b f : Nat),n = .int .i64 (b : Int) ∧ RW s b f ∧ wr = w) (fun n _=>s.size + 1 - (intOf n).toNat)
  case atStart=>exact ⟨k0,s.size,rfl,HST.out,rfl⟩
  case round =>
    obtain ⟨b,f,rfl,hR,rfl⟩:=hrel
    have HR:=hid hR
    by_cases h0 : b = 0
    · have hw : Sg.word s.data.toList = 0:=by
        rcases hR with ⟨_,h⟩ | ⟨h,_⟩
        · exact h
        · omega
      have HV:=hid hw
      subst h0
      clear hR hw
      go_wp2_with fail
      go_ret
      exact ⟨by rw [HV.out];rfl,rfl⟩
    · have hbs : b ≤ s.size:=by
        rcases hR with ⟨h,_⟩ | ⟨_,h,_⟩
        · omega
        · exact h
      clear hR
      have t0 : decide ((0 : Int) < (b : Int)) = true:=decide_eq_true (by omega)
      have t0' : decide (0 < b) = true:=decide_eq_true (by omega)
      obtain ⟨c,hc⟩ : ∃ c,b + 2 = c:=⟨_,rfl⟩
      have w2 : wrap64 ((b : Int) + 2) = (c : Int):=by rw [IntWalk.wrap64_in _ (by omega)];omega
      have w2' : IntKind.i64.wrap ((b : Int) + 2) = (c : Int):=(IntWalk.i64_left _).trans w2
      have w2n : (b : Int) + 2 = (c : Int):=by omega
      by_cases h1 : c < s.size
      · have t1 : decide ((c : Int) < (s.size : Int)) = true:=decide_eq_true (by omega)
        have hpt:=pre_two_take s b
        rw [hc] at hpt
        have l1 : (b : Int) ≤ (c : Int):=by omega
        have l2 : (c : Int) ≤ (s.size : Int):=by omega
        cases hp : Lib.hasPrefix (s.data.toList.drop b) [58,58] with
        | false =>
          rw [hp] at hpt
          have HV:=hid (HR.out.fin (by unfold Sg.further;rw [hp];rfl))
          clear hp
          go_wp2_with fail
          go_ret
          exact ⟨by rw [HV.out];rfl,rfl⟩
        | true =>
          rw [hp] at hpt
          have hsc:=rsimple_calls (s.extract c s.size) (ext_size _ _ hs) wr
          rw [extract_drop] at hsc
          have hfu : Sg.further (s.data.toList.drop b) = if Sg.simple (s.data.toList.drop c) = 0 then 0 else 2 + Sg.simple (s.data.toList.drop c):=by
            unfold Sg.further;rw [hp,if_pos rfl,List.drop_drop,hc]
          have hkl:=Sg.simple_le (s.data.toList.drop c)
          rw [List.length_drop,lst_len] at hkl
          obtain ⟨k,hk⟩ : ∃ k,Sg.simple (s.data.toList.drop c) = k:=⟨_,rfl⟩
          rw [hk] at hsc hfu hkl
          clear hp hk
          by_cases hk0 : k = 0
          · have HV:=hid (HR.out.fin (by rw [hfu,if_pos hk0]))
            subst hk0
            clear hfu
            go_wp2_with fail
            ((with_reducible refine hsc.mono ?_);rintro e w1 ⟨rfl,rfl⟩)
            go_wp2_with fail
            go_ret
            exact ⟨by rw [HV.out];rfl,rfl⟩
          · rw [if_neg hk0] at hfu
            have hst:=HR.out.step (by omega) hfu (by omega)
            have HS:=hid hst
            have t2 : decide ((0 : Int) < (k : Int)) = true:=decide_eq_true (by omega)
            have t2' : decide (0 < k) = true:=decide_eq_true (by omega)
            have w3 : wrap64 (2 + (k : Int)) = ((2 + k : Nat) : Int):=by rw [IntWalk.wrap64_in _ (by omega)];omega
            have w3' : IntKind.i64.wrap (2 + (k : Int)) = ((2 + k : Nat) : Int):=(IntWalk.i64_left _).trans w3
            have w4 : wrap64 ((b : Int) + ((2 + k : Nat) : Int)) = ((b + (2 + k) : Nat) : Int):=by rw [IntWalk.wrap64_in _ (by omega)];omega
            have w4' : IntKind.i64.wrap ((b : Int) + ((2 + k : Nat) : Int)) = ((b + (2 + k) : Nat) : Int):=(IntWalk.i64_left _).trans w4
            clear hfu hst
            go_wp2_with fail
            ((with_reducible refine hsc.mono ?_);rintro e w1 ⟨rfl,rfl⟩)
            go_wp2_with fail
            ((with_reducible refine hsc.mono ?_);rintro e w1 ⟨rfl,rfl⟩)
            go_wp2_with fail
            go_roundw
            case rel=>exact ⟨b + (2 + k),f - 1,by go_num,HS.out.2,trivial⟩
            case measure=>simp [intOf];have:=HS.out.1;omega
      · have t1 : decide ((c : Int) < (s.size : Int)) = false:=decide_eq_false (by omega)
        have HV:=hid (HR.out.fin (further_small (by rw [List.length_drop,lst_len];omega)))
        go_wp2_with fail
        go_ret
        exact ⟨by rw [HV.out];rfl,rfl⟩
end Go.Proofs.Ythadnhpkeljdoaa.sg
namespace Go.Proofs.Ythadnhpkeljdoaa.pr
open Go.Lib (hid)
open Go.RowKit Go.Shelf sx
theorem rside_calls (s : ByteArray) (w : World) :
  Calls Try.prog 82 #[.string s] w fun e w'=>e = .returned (.int .i64 (sideOf s)) ∧ Below w.heap.size w w':=by
 have hbd:=level_bounds s
 have hsd:=side_of_level s
 have HR:=hid (fun w=>rlevel_calls s w)
 obtain ⟨a,ha⟩ : ∃ a,levelOf s = a:=⟨_,rfl⟩
 rw [ha] at hbd HR hsd
 obtain ⟨b,hb⟩ : ∃ b,sideOf s = b:=⟨_,rfl⟩
 rw [hb] at hsd ⊢
 clear hb ha
 have hn : Below w.heap.size w (w.alloc (.cells (sidesD.map (Value.int .i64)).toArray 3)):=(Below.refl _ w).alloc (Nat.le_refl _) _
 have hc0 : (w.alloc (.cells (sidesD.map (Value.int .i64)).toArray 3)).cell? ⟨w.heap.size,a.toNat,none⟩ = some (.int .i64 b):=by
  rw [(Blk.new w 3 _).cell a.toNat]
  simp [hsd]
 have HN:=hid hn;have HC:=hid hc0
 clear hn hc0 hsd
 obtain ⟨h0,h9⟩:=hbd
 have h10 : a < 10:=by omega
 go_enter Try.func82,Try.ntmps82
 go_wp2_with fail
 ((with_reducible refine (HR.out _).mono ?_);rintro e w1 ⟨rfl,hb1⟩)
 have hc1 : w1.cell? ⟨w.heap.size,a.toNat,none⟩ = some (.int .i64 b):=(hb1.cell (p:=⟨w.heap.size,a.toNat,none⟩) (by simp)).trans HC.out
 have HB:=hid (show Below w.heap.size w w1 from Below.next HN.out hb1 (by simp))
 clear hb1
 go_wp2_with fail
 go_ret
 exact ⟨rfl,HB.out⟩
theorem rright_calls (s : ByteArray) (w : World) :
  Calls Try.prog 83 #[.string s] w fun e w'=>e = .returned (.int .i64 (besideOf s 2)) ∧ Below w.heap.size w w':=by
 have hbd:=level_bounds s
 have hv : besideOf s 2 = if isOp s = true ∧ sideOf s ≠ 2 then levelOf s + 1 else levelOf s:=rfl
 rw [level_isOp] at hv
 simp only [decide_eq_true_eq] at hv
 have HR:=hid (fun w=>rlevel_calls s w)
 have HS:=hid (fun w=>rside_calls s w)
 obtain ⟨a,ha⟩ : ∃ a,levelOf s = a:=⟨_,rfl⟩
 obtain ⟨b,hb⟩ : ∃ b,sideOf s = b:=⟨_,rfl⟩
 rw [ha] at hbd HR
 rw [hb] at HS
 rw [ha,hb] at hv
 have HV:=hid hv
 clear hv ha hb
 have hw1 : wrap64 (a + 1) = a + 1:=by rw [IntWalk.wrap64_in];omega
 by_cases h0 : 0 < a
 ·have q0 : decide (0 < a) = true:=decide_eq_true h0
  by_cases hd : b = 2
  ·subst hd
   go_enter Try.func83,Try.ntmps83
   go_wp2_with fail
   ((with_reducible refine (HR.out _).mono ?_);rintro e w1 ⟨rfl,hb1⟩)
   go_wp2_with fail
   ((with_reducible refine (HS.out _).mono ?_);rintro e w2 ⟨rfl,hb2⟩)
   go_wp2_with fail
   go_ret
   exact ⟨by rw [HV.out];simp,Below.next hb1 hb2 (Nat.le_refl _)⟩
  ·have q1 : (b == 2) = false:=by rw [beq_eq_false_iff_ne];exact hd
   have q2 : (b != 2) = true:=by unfold bne;rw [q1];rfl
   have HQ:=hid hd;have H0:=hid h0
   clear hd
   go_enter Try.func83,Try.ntmps83
   go_wp2_with fail
   ((with_reducible refine (HR.out _).mono ?_);rintro e w1 ⟨rfl,hb1⟩)
   go_wp2_with fail
   ((with_reducible refine (HS.out _).mono ?_);rintro e w2 ⟨rfl,hb2⟩)
   go_wp2_with fail
   go_ret
   exact ⟨by rw [HV.out];simp [HQ.out,H0.out],Below.next hb1 hb2 (Nat.le_refl _)⟩
 ·have q0 : decide (0 < a) = false:=decide_eq_false h0
  have H0:=hid h0
  go_enter Try.func83,Try.ntmps83
  go_wp2_with fail
  ((with_reducible refine (HR.out _).mono ?_);rintro e w1 ⟨rfl,hb1⟩)
  go_wp2_with fail
  go_ret
  exact ⟨by rw [HV.out,if_neg (fun h=>by have:=H0.out;omega)];rfl,hb1⟩
theorem rof_calls (k : Int) (s : ByteArray) (w : World) :
  Calls Try.prog 88 #[.agg #[.int .i64 k,.string s]] w fun e w'=>e = .returned (.string (textOf k s)) ∧ Below w.heap.size w w':=by
 have hv : textOf k s = if isKind k = true ∧ levelOf s ≠ 0 then s else ⟨#[]⟩:=rfl
 have hk : isKind k = (decide (k = 13) || decide (k = 3)):=rfl
 have HC:=hid (fun W=>rlevel_calls s W)
 obtain ⟨a,ha⟩ : ∃ a,levelOf s = a:=⟨_,rfl⟩
 rw [ha] at hv HC
 rw [hk] at hv
 have HV:=hid hv
 clear hv ha hk
 have hb0 : Below w.heap.size w (w.alloc (.cells #[.int .i64 k,.string s] 54)):=(Below.refl _ w).alloc (Nat.le_refl _) _
 have HB0:=hid hb0
 clear hb0
 by_cases h13 : k = 3
 ·subst h13
  by_cases h0 : a = 0
  ·subst h0
   go_enter Try.func88,Try.ntmps88
   go_wp2_with fail
   ((with_reducible refine (HC.out _).mono ?_);rintro e w1 ⟨rfl,hb1⟩)
   go_wp2_with fail
   go_ret
   exact ⟨by rw [HV.out];simp,Below.next HB0.out hb1 (by simp)⟩
  ·have q1 : (a == 0) = false:=by rw [beq_eq_false_iff_ne];exact h0
   have q3 : decide (a = 0) = false:=decide_eq_false h0
   have HQ:=hid h0
   clear h0
   go_enter Try.func88,Try.ntmps88
   go_wp2_with fail
   ((with_reducible refine (HC.out _).mono ?_);rintro e w1 ⟨rfl,hb1⟩)
   have hc1 : w1.cell? ⟨w.heap.size,1,none⟩ = some (.string s):=(hb1.cell (p:=⟨w.heap.size,1,none⟩) (by simp)).trans ((Blk.new w 54 #[.int .i64 3,.string s]).cell 1)
   go_wp2_with fail
   go_ret
   exact ⟨by rw [HV.out];simp [HQ.out],Below.next HB0.out hb1 (by simp)⟩
 ·have p1 : (k == 3) = false:=by rw [beq_eq_false_iff_ne];exact h13
  have p2 : (k != 3) = true:=by unfold bne;rw [p1];rfl
  have HP:=hid h13
  clear h13
  by_cases h3 : k = 13
  ·subst h3
   by_cases h0 : a = 0
   ·subst h0
    go_enter Try.func88,Try.ntmps88
    go_wp2_with fail
    ((with_reducible refine (HC.out _).mono ?_);rintro e w1 ⟨rfl,hb1⟩)
    go_wp2_with fail
    go_ret
    exact ⟨by rw [HV.out];simp,Below.next HB0.out hb1 (by simp)⟩
   ·have q1 : (a == 0) = false:=by rw [beq_eq_false_iff_ne];exact h0
    have q3 : decide (a = 0) = false:=decide_eq_false h0
    have HQ:=hid h0
    clear h0
    go_enter Try.func88,Try.ntmps88
    go_wp2_with fail
    ((with_reducible refine (HC.out _).mono ?_);rintro e w1 ⟨rfl,hb1⟩)
    have hc1 : w1.cell? ⟨w.heap.size,1,none⟩ = some (.string s):=(hb1.cell (p:=⟨w.heap.size,1,none⟩) (by simp)).trans ((Blk.new w 54 #[.int .i64 13,.string s]).cell 1)
    go_wp2_with fail
    go_ret
    exact ⟨by rw [HV.out];simp [HQ.out],Below.next HB0.out hb1 (by simp)⟩
  ·have r1 : (k == 13) = false:=by rw [beq_eq_false_iff_ne];exact h3
   have r2 : (k != 13) = true:=by unfold bne;rw [r1];rfl
   have HR:=hid h3
   clear h3
   go_enter Try.func88,Try.ntmps88
   go_wp2_with fail
   go_ret
   exact ⟨by rw [HV.out];simp [HP.out,HR.out],HB0.out⟩
end Go.Proofs.Ythadnhpkeljdoaa.pr
namespace Go.Proofs.Ythadnhpkeljdoaa.utf
open Go.Lib (hid)
open Go.RowKit
theorem Below.next {B : Nat} {w a b : World} (h : Below B w a) (k : Below a.heap.size a b) (hB : B ≤ w.heap.size) : Below B w b:=h.trans (k.mono (Nat.le_trans hB h.size))
theorem one_dropB (s : ByteArray) (hs : s.size ≤ 70000) (k r : Nat) (h : oneL (s.data.toList.drop k) = r) (w : World) :
  Calls Try.prog 42 #[.string (s.extract k s.size)] w fun e w'=>e = .returned (.int .i64 (r : Int)) ∧ Below w.heap.size w w':=by
 have hsz : (s.extract k s.size).size ≤ 70000:=by rw [ByteArray.size_extract];omega
 have h1:=one_calls (s.extract k s.size) hsz w
 rw [extract_drop,h] at h1
 exact h1
theorem refCheck_big (s : ByteArray) (hs : s.size ≤ 70000) (w : World) : Calls Try.prog 28 #[.string s] w fun e w'=>e = .returned (.int .i64 (checkF s)) ∧ Below w.heap.size w w':=by
 go_enter Try.func28,Try.ntmps28
 go_wp2_with fail
 go_loopw [3] (fun a wr=>∃ pos b : Nat,a = .int .i64 (pos : Int) ∧ pos ≤ s.size ∧ chkL b (s.data.toList.drop pos) pos = checkF s ∧ s.size ≤ pos + b ∧ Below w.heap.size w wr) (fun a _=>s.size - (intOf a).toNat)
 case atStart=>exact ⟨0,s.size,rfl,Nat.zero_le _,by rw [checkF_L,size_toList];rfl,by omega,Below.refl _ _⟩
 case round =>
  obtain ⟨pos,b,rfl,hpos,hc,hb,hB⟩:=hrel
  by_cases hlt : pos < s.size
  ·have hne : s.data.toList.drop pos ≠ []:=fun e=>(drop_ne s pos).1 e hlt
   have hle:=oneL_le _ hne
   rw [List.length_drop,size_toList] at hle
   obtain ⟨b,rfl⟩ : ∃ b',b = b' + 1:=⟨b - 1,by omega⟩
   obtain ⟨r,hr⟩ : ∃ r,oneL (s.data.toList.drop pos) = r:=⟨_,rfl⟩
   have ho:=one_dropB s hs pos r hr
   simp only [chkL] at hc
   rw [if_neg hne,hr,List.drop_drop] at hc
   rw [hr] at hle
   have HO:=hid ho;have HC:=hid hc
   have hposI : (pos : Int) ≤ (s.size : Int):=by omega
   clear ho hc hr hne
   by_cases h0 : r = 0
   ·subst h0
    go_wp2_with fail
    ((with_reducible refine (HO.out _).mono ?_);rintro e w1 ⟨rfl,hb1⟩)
    go_wp2_with fail
    go_ret
    exact ⟨by have:=HC.out;simp only [if_true] at this;rw [← this];rfl,Below.next hB hb1 (Nat.le_refl _)⟩
   ·have hz : ((r : Int) == 0) = false:=by rw [beq_eq_false_iff_ne];omega
    have HC2:=hid (show chkL b (s.data.toList.drop (pos + r)) (pos + r) = checkF s from by have:=HC.out;rwa [if_neg h0] at this)
    go_wp2_with fail
    ((with_reducible refine (HO.out _).mono ?_);rintro e w1 ⟨rfl,hb1⟩)
    go_wp2_with fail
    go_roundw
    case rel=>exact ⟨pos + r,b,by go_num,by omega,HC2.out,by omega,Below.next hB hb1 (Nat.le_refl _)⟩
    case measure=>simp [intOf];omega
  ·have hnil:=(drop_ne s pos).2 hlt
   rw [hnil,chkL_nil] at hc
   have HC:=hid hc
   clear hc hnil
   go_wp2_with fail
   go_ret
   exact ⟨by rw [← HC.out];rfl,hB⟩
end Go.Proofs.Ythadnhpkeljdoaa.utf
