/- Ground of the law: LxMath, PaTree, PrOpers, NdCells, SgFns, PaRef1. -/
import Derived.Test.YthadnhpkeljdoaaQh02
import Derived.Lib.TrimByte
import Derived.Lib.IndexLaws
import Derived.Lib.IndexAny
import Derived.Test.YthadnhpkeljdoaaQh01
import Derived.RegionIn
import Derived.Carry
import Derived.Lib.Hide
import Derived.LoopNIn
import Derived.LoopIn
import Derived.RegionTactic
import Derived.Test.YthadnhpkeljdoaaQh00
import Derived.Deep.MidRow
import Derived.Maps.Own
import Derived.Maps.OwnIn
import Derived.StringKeys
import Derived.Lib.AppendZeros
import Derived.Lib.SliceRun
import Derived.Laws.AppendOwnNone
import Derived.Maps.AppendAt
import Derived.IntWalk
import Derived.Test.YthadnhpkeljdoaaProg
import Derived.RangeFuncBox
import Derived.Lib.Bytealg
import Derived.Deep.RegionHeld3
import Derived.Deep.Cut
import Derived.Deep.CutRange
import Derived.Laws.StructEq
set_option maxRecDepth 100000
set_option maxHeartbeats 8000000
set_option linter.unusedVariables false
set_option linter.unusedSimpArgs false
namespace Go.Proofs.Ythadnhpkeljdoaa.Lx
def cN (n : Int) : Bool:=!(n == 34 || n == 92)
theorem cN_not (b : UInt8) : cN (b.toNat : Int) = false ↔ b = 34 ∨ b = 92:=by
  unfold cN
  have h1 : ((b.toNat : Int) == 34) = (b == 34):=by
    rw [Bool.eq_iff_iff,beq_iff_eq,beq_iff_eq]
    exact ⟨fun h=>UInt8.toNat_inj.1 (by show b.toNat = 34;omega),fun h=>by subst h;rfl⟩
  have h2 : ((b.toNat : Int) == 92) = (b == 92):=by
    rw [Bool.eq_iff_iff,beq_iff_eq,beq_iff_eq]
    exact ⟨fun h=>UInt8.toNat_inj.1 (by show b.toNat = 92;omega),fun h=>by subst h;rfl⟩
  rw [h1,h2]
  cases ha : (b == 34) <;> cases hb : (b == 92) <;> simp_all
theorem pieceF_fuel (f g : Nat) (l : List UInt8) (hf : l.length ≤ f) (hg : l.length ≤ g) : pieceF f l = pieceF g l:=by
  induction f generalizing g l with
  | zero =>
    obtain rfl : l = []:=List.length_eq_zero_iff.1 (by omega)
    cases g <;> rfl
  | succ f ih =>
    cases l with
    | nil=>cases g <;> rfl
    | cons b r =>
      cases g with
      | zero=>simp at hg
      | succ g =>
        have hf' : r.length ≤ f:=by simpa using hf
        have hg' : r.length ≤ g:=by simpa using hg
        have hk : ∀ k,k ≠ 0 → ((b :: r).drop k).length ≤ r.length:=fun k h=>by rw [List.length_drop,List.length_cons];omega
        simp only [pieceF]
        rw [ih g r hf' hg']
        split
        · rfl
        · split
          · split
            · rfl
            · rename_i h0
              have hx:=hk _ h0
              rw [ih g _ (by omega) (by omega)]
          · rfl
theorem piece_nil : piece [] = 0:=rfl
theorem piece_quote (r : List UInt8) : piece (34 :: r) = 0:=by simp [piece,pieceF]
theorem piece_none (r : List UInt8) (h : Sg.escape (92 :: r) = 0) : piece (92 :: r) = 0:=by simp [piece,pieceF,h]
theorem piece_esc (r : List UInt8) (h : Sg.escape (92 :: r) ≠ 0) : piece (92 :: r) = Sg.escape (92 :: r) + piece ((92 :: r).drop (Sg.escape (92 :: r))):=by
  have hx : ((92 :: r).drop (Sg.escape (92 :: r))).length ≤ r.length:=by rw [List.length_drop,List.length_cons];omega
  unfold piece
  simp only [List.length_cons,pieceF]
  rw [if_neg (by decide),if_pos trivial,if_neg h,pieceF_fuel r.length _ _ hx (Nat.le_refl _)]
theorem piece_one (b : UInt8) (r : List UInt8) (h : cN (b.toNat : Int) = true) : piece (b :: r) = 1 + piece r:=by
  have hb : ¬ (b = 34 ∨ b = 92):=fun e=>by rw [(cN_not b).2 e] at h;cases h
  unfold piece
  simp only [List.length_cons,pieceF]
  rw [if_neg (fun e=>hb (.inl e)),if_neg (fun e=>hb (.inr e))]
def PieceI (l : List UInt8) (n : Nat) : Prop:=n ≤ l.length ∧ piece l = n + piece (l.drop n)
end Go.Proofs.Ythadnhpkeljdoaa.Lx
namespace Go.Proofs.Ythadnhpkeljdoaa.pa
open Go.RowKit nd pr
def Out.rest {α : Type} : Out α → List Tk
 | .ok r _=>r
 | .bad r=>r
namespace Pa
theorem run_len {α : Type} : ∀ (p : Pa α) {r : List Tk} {o : Out α},p.run r = some o → o.rest.length ≤ r.length
 | ret x,r,o,h=>by cases h;exact Nat.le_refl _
 | bad,r,o,h=>by cases h;exact Nat.le_refl _
 | out,r,o,h=>by cases h
 | look k,r,o,h=>run_len (k (tok r)) h
 | peek k,r,o,h=>run_len (k (tok r.tail)) h
 | ended k,r,o,h=>run_len (k r.isEmpty) h
 | move k,r,o,h=>by have:=run_len k (r:=r.tail) h;simp at this;omega
end Pa
def wants : Fn → Bool
 | .deff _=>true
 | .elems _=>true
 | .args=>true
 | .bring=>true
 | .worded=>true
 | _=>false
theorem op_no (s : ByteArray) : op s noTk = false:=rfl
theorem word_no (s : ByteArray) : word s noTk = false:=rfl
theorem plain_no : plainT noTk = false:=rfl
theorem lv_no : levelOf (textOf noTk.1 noTk.2) = 0:=by decide +kernel
end Go.Proofs.Ythadnhpkeljdoaa.pa
namespace Go.Proofs.Ythadnhpkeljdoaa.pr
open Go.RowKit Go.Shelf sx
attribute [local go_sem] Oper.semAt_some
def names (l : List Op) : List ByteArray:=l.map (·.1)
theorem made (w : World) : ∃ w',(Instr.makeSlice 48 (.int .i64 0) (.int .i64 24)).run Try.prog w = .ok (.slice (some ⟨w.heap.size,0,none⟩) 0 24) w' ∧
   w'.ownsRow w.heap.size 9 1 (.slice (some ⟨w.heap.size,0,none⟩) 0 24) 0 [] ∧ w.grownBy w' none ∧ w'.heap.size = w.heap.size + 1:=by
 obtain ⟨i0,hi,hz0,hz1,hz2⟩:=info_parts infoStr
 have hr:=run_make (P:=Try.prog) w 48 9 i0 (.string ⟨#[]⟩) Try.underlying48 hi hz0 .i64 .i64 0 24 (by decide) (by decide) (by rw [hz2];decide) (by decide)
 refine ⟨_,hr,World.ownsRow_made w _ 24 (Nat.le_refl _) (by decide) (by rw [size_madeCells,hz1];rfl),World.grownBy_alloc w _ none,by simp⟩
end Go.Proofs.Ythadnhpkeljdoaa.pr
namespace Go.Proofs.Ythadnhpkeljdoaa.nd
open Go.RowKit sx
theorem addr_add (g o j : Nat) : (⟨g,o,none⟩ : Addr).add j = ⟨g,o + j,none⟩:=by
 unfold Addr.add
 by_cases hj : j = 0
 ·subst hj;rfl
 ·simp [hj]
theorem infoN : (Try.prog.info? 25).map (fun i=>(i.zero,i.size,i.bytes)) = some (some (.agg #[.int .i64 0,.string ⟨#[]⟩,.slice none 0 0]),3,48):=by kernel_rfl
theorem own_len' {W : World} {base size n : Nat} {e : TypeId} {v : Value} {xs : List Value} (h : W.ownsRow base e size v n xs) : ∃ ao cap,v = .slice ao n cap ∧ n ≤ cap:=by
 rcases h.2 with ⟨rfl,h0⟩ | ⟨g,cap,cur,rfl,h2,h3,h4⟩
 ·exact ⟨none,0,by rw [h0],by omega⟩
 ·exact ⟨_,cap,rfl,h4.1⟩
end Go.Proofs.Ythadnhpkeljdoaa.nd
namespace Go.Proofs.Ythadnhpkeljdoaa.sg
open Go.RowKit Go.Shelf
theorem extract_drop (s : ByteArray) (k : Nat) : (s.extract k s.size).data.toList = s.data.toList.drop k:=by
 rw [ByteArray.data_extract,Array.toList_extract]
 have e : s.size = s.data.toList.length:=by rw [Array.length_toList];rfl
 rw [List.extract_eq_take_drop,e,List.take_of_length_le (by simp)]
end Go.Proofs.Ythadnhpkeljdoaa.sg
namespace Go.Proofs.Ythadnhpkeljdoaa.pa
open Go.RowKit sx nd ed
def tokB (l : List Tk) (i : Nat) (b : Bool) : Tk:=if b then noTk else tok (l.drop i)
end Go.Proofs.Ythadnhpkeljdoaa.pa
