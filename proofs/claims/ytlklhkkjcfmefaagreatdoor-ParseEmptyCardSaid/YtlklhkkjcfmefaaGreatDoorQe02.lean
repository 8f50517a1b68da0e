/- Ground of the law: PrSpec. -/
import Derived.WalkKit
import Derived.Lib.Bytealg
set_option maxRecDepth 100000
set_option maxHeartbeats 8000000
set_option linter.unusedVariables false
set_option linter.unusedSimpArgs false
namespace Go.Proofs.YtlklhkkjcfmefaaGreatDoor.pr
open Go.RowKit
abbrev Op:=ByteArray × Int × Int
def opsP : List Op :=
 [(⟨#[124]⟩,1,2),(⟨#[44]⟩,2,1),(⟨#[47,47]⟩,3,2),(⟨#[61]⟩,4,0),(⟨#[124,61]⟩,4,0),(⟨#[43,61]⟩,4,0),(⟨#[45,61]⟩,4,0),(⟨#[42,61]⟩,4,0),(⟨#[47,61]⟩,4,0),(⟨#[37,61]⟩,4,0),(⟨#[47,47,61]⟩,4,0),
  (⟨#[111,114]⟩,5,1),(⟨#[97,110,100]⟩,6,1),(⟨#[61,61]⟩,7,0),(⟨#[33,61]⟩,7,0),(⟨#[60]⟩,7,0),(⟨#[60,61]⟩,7,0),(⟨#[62]⟩,7,0),(⟨#[62,61]⟩,7,0),(⟨#[43]⟩,8,1),(⟨#[45]⟩,8,1),(⟨#[42]⟩,9,1),(⟨#[47]⟩,9,1),(⟨#[37]⟩,9,1)]
def strt (m : Nat) : Nat:=[0,1,2,3,11,12,13,19,21,24].getD m 24
def cnt (m : Nat) : Nat:=[1,1,1,8,1,1,6,2,3].getD m 0
def sideM (m : Nat) : Int:=[2,1,2,0,1,1,0,1,1].getD m 0
theorem strt_next : ∀ m,m < 9 → strt m + cnt m = strt (m + 1):=by decide
theorem cnt_le : ∀ m,m < 9 → cnt m ≤ 8 ∧ 1 ≤ cnt m:=by decide
def txt (j : Nat) : ByteArray:=(opsP.getD j (⟨#[]⟩,0,0)).1
theorem ops_in : ∀ m,m < 9 → ∀ k,k < cnt m → opsP[strt m + k]? = some (txt (strt m + k),(m : Int) + 1,sideM m):=by decide +kernel
theorem ops_at {m k : Nat} (hm : m < 9) (hk : k < cnt m) : opsP[strt m + k]? = some (txt (strt m + k),(m : Int) + 1,sideM m):=ops_in m hm k hk
theorem ops_split {j : Nat} {x : Op} (h : opsP[j]? = some x) : opsP = opsP.take j ++ x :: opsP.drop (j + 1) ∧ opsP.take (j + 1) = opsP.take j ++ [x]:=by
 obtain ⟨hl,he⟩:=List.getElem?_eq_some_iff.1 h
 constructor
 ·conv=>lhs;rw [← List.take_append_drop j opsP]
  rw [List.drop_eq_getElem_cons hl,he]
 ·rw [List.take_succ_eq_append_getElem hl,he]
theorem ops_apart : opsP.Pairwise (fun a b=>a.1 ≠ b.1):=by decide +kernel
def gradeOf (s : ByteArray) : Option (Int × Int):=(opsP.find? fun o=>decide (o.1 = s)).map (·.2)
def isOp (s : ByteArray) : Bool:=(gradeOf s).isSome
def levelOf (s : ByteArray) : Int:=((gradeOf s).getD (0,0)).1
def sideOf (s : ByteArray) : Int:=((gradeOf s).getD (0,0)).2
def besideOf (s : ByteArray) (d : Int) : Int:=if isOp s = true ∧ sideOf s ≠ d then levelOf s + 1 else levelOf s
def isKind (k : Int) : Bool:=decide (k = 13) || decide (k = 3)
def textOf (k : Int) (s : ByteArray) : ByteArray:=if isKind k = true ∧ levelOf s ≠ 0 then s else ⟨#[]⟩
theorem grade_mem {s : ByteArray} {p : Int × Int} (h : gradeOf s = some p) : (s,p.1,p.2) ∈ opsP:=by
 unfold gradeOf at h
 cases hf : opsP.find? (fun o=>decide (o.1 = s)) with
 | none=>rw [hf] at h;cases h
 | some o =>
  rw [hf] at h
  have h1:=List.find?_some hf
  have h2:=List.mem_of_find?_eq_some hf
  simp only [Option.map_some,Option.some.injEq] at h
  have h3 : o.1 = s:=of_decide_eq_true h1
  rw [← h3,← h];exact h2
theorem grade_none {s : ByteArray} (h : gradeOf s = none) : ∀ o ∈ opsP,o.1 ≠ s:=by
 unfold gradeOf at h
 rw [Option.map_eq_none_iff,List.find?_eq_none] at h
 intro o ho e
 exact h o ho (by simp [e])
theorem grade_of {o : Op} (h : o ∈ opsP) : gradeOf o.1 = some o.2:=by
 cases hg : gradeOf o.1 with
 | none=>exact absurd rfl (grade_none hg o h)
 | some p =>
  have hm:=grade_mem hg
  by_cases he : (o.1,p.1,p.2) = o
  ·rw [← he]
  ·exfalso
   have hp:=ops_apart
   rw [List.pairwise_iff_getElem] at hp
   obtain ⟨i,hi,ei⟩:=List.mem_iff_getElem.1 h
   obtain ⟨j,hj,ej⟩:=List.mem_iff_getElem.1 hm
   rcases Nat.lt_trichotomy i j with hij | hij | hij
   ·exact hp i j hi hj hij (by rw [ei,ej])
   ·subst hij;exact he (by rw [← ej,ei])
   ·exact hp j i hj hi hij (by rw [ei,ej])
theorem ops_bounds : ∀ o ∈ opsP,1 ≤ o.2.1 ∧ o.2.1 ≤ 9 ∧ 0 ≤ o.2.2 ∧ o.2.2 ≤ 2:=by decide +kernel
theorem level_bounds (s : ByteArray) : 0 ≤ levelOf s ∧ levelOf s ≤ 9:=by
 unfold levelOf
 cases hg : gradeOf s with
 | none=>simp
 | some p=>have:=ops_bounds _ (grade_mem hg);simp only [Option.getD_some];simp only at this;omega
end Go.Proofs.YtlklhkkjcfmefaaGreatDoor.pr
