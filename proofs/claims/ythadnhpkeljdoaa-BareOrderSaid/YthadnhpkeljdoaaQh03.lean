/- Ground of the law: UtfRunes, SeqD. -/
import Derived.Test.YthadnhpkeljdoaaQh01
import Derived.Lib.TrimUEq
set_option maxRecDepth 100000
set_option maxHeartbeats 8000000
set_option linter.unusedVariables false
set_option linter.unusedSimpArgs false
namespace Go.Proofs.Ythadnhpkeljdoaa.utf
def oneN (n b0 b1 b2 b3 : Nat) : Nat :=
  if b0 < 128 then 1
  else if b0 / 32 = 6 ∧ (1 < n ∧ b1 / 64 = 2) then (if b0 % 32 * 64 + b1 % 64 ≥ 128 then 2 else 0)
  else if b0 / 16 = 14 ∧ (1 < n ∧ b1 / 64 = 2) ∧ (2 < n ∧ b2 / 64 = 2) then
    (if b0 % 16 * 4096 + b1 % 64 * 64 + b2 % 64 ≥ 2048 ∧ (b0 % 16 * 4096 + b1 % 64 * 64 + b2 % 64 < 55296 ∨ 57344 ≤ b0 % 16 * 4096 + b1 % 64 * 64 + b2 % 64) then 3 else 0)
  else if b0 / 8 = 30 ∧ (1 < n ∧ b1 / 64 = 2) ∧ (2 < n ∧ b2 / 64 = 2) ∧ (3 < n ∧ b3 / 64 = 2) then
    (if b0 % 8 * 262144 + b1 % 64 * 4096 + b2 % 64 * 64 + b3 % 64 ≥ 65536 ∧ b0 % 8 * 262144 + b1 % 64 * 4096 + b2 % 64 * 64 + b3 % 64 ≤ 1114111 then 4 else 0)
  else 0
theorem oneN_le (n b0 b1 b2 b3 : Nat) (hn : 1 ≤ n) : oneN n b0 b1 b2 b3 ≤ n ∧ oneN n b0 b1 b2 b3 ≤ 4:=by
  unfold oneN
  repeat' split
  all_goals omega
theorem decodeN_one (n b0 b1 b2 b3 : Nat) (h0 : b0 < 256) (h1 : b1 < 256) (h2 : b2 < 256) (h3 : b3 < 256) (hn : 1 ≤ n) :
    (oneN n b0 b1 b2 b3 = 0 → Lib.decodeN n b0 b1 b2 b3 = (65533,1) ∧ ¬ (3 ≤ n ∧ b0 = 239 ∧ b1 = 191 ∧ b2 = 189)) ∧
    (oneN n b0 b1 b2 b3 ≠ 0 → (Lib.decodeN n b0 b1 b2 b3).2 = oneN n b0 b1 b2 b3 ∧ ((Lib.decodeN n b0 b1 b2 b3).1 = 65533 → 3 ≤ n ∧ b0 = 239 ∧ b1 = 191 ∧ b2 = 189)):=by
  unfold oneN Lib.decodeN
  repeat' split
  all_goals first | (exfalso;omega) | (refine ⟨fun h=>?_,fun h=>?_⟩ <;> first | (exfalso;omega) | exact absurd h (by decide) | exact absurd rfl h | exact ⟨rfl,by omega⟩ | exact ⟨rfl,fun e=>by simp at e;omega⟩ | exact ⟨rfl,fun e=>by simp at e⟩)
def oneL (l : List UInt8) : Nat:=if l = [] then 0 else oneN l.length (l.getD 0 0).toNat (l.getD 1 0).toNat (l.getD 2 0).toNat (l.getD 3 0).toNat
theorem pref_iff (l : List UInt8) : Lib.hasPrefix l [239,191,189] = true ↔ 3 ≤ l.length ∧ (l.getD 0 0).toNat = 239 ∧ (l.getD 1 0).toNat = 191 ∧ (l.getD 2 0).toNat = 189:=by
  have e : ∀ (a : UInt8) (k : Nat) (h : k < 256),a = UInt8.ofNat k ↔ a.toNat = k:=fun a k h=>by
    constructor
    · rintro rfl;simp [Nat.mod_eq_of_lt h]
    · intro h';apply UInt8.toNat_inj.1;simp [h',Nat.mod_eq_of_lt h]
  have e0 : ∀ a : UInt8,a = 239 ↔ a.toNat = 239:=fun a=>e a 239 (by decide)
  have e1 : ∀ a : UInt8,a = 191 ↔ a.toNat = 191:=fun a=>e a 191 (by decide)
  have e2 : ∀ a : UInt8,a = 189 ↔ a.toNat = 189:=fun a=>e a 189 (by decide)
  unfold Lib.hasPrefix
  match l with
  | []=>simp
  | [a]=>simp
  | [a,b]=>simp
  | a :: b :: c :: r =>
    simp [List.isPrefixOf,List.getD,← e0,← e1,← e2]
    constructor
    · rintro ⟨rfl,rfl,rfl⟩;simp
    · rintro ⟨h1,h2,h3⟩;exact ⟨h1.symm,h2.symm,h3.symm⟩
theorem lt256 (a : UInt8) : a.toNat < 256:=a.toNat_lt
theorem bad_one (s : ByteArray) (pos : Nat) (h : pos < s.size) :
    runeBad s pos = (oneL (s.data.toList.drop pos) == 0) ∧ (Utf8.decode s pos).2 = (if oneL (s.data.toList.drop pos) = 0 then 1 else oneL (s.data.toList.drop pos)):=by
  have hne : s.data.toList.drop pos ≠ []:=by
    intro e
    have:=congrArg List.length e
    rw [List.length_drop,size_toList] at this
    simp at this;omega
  have hlen : 1 ≤ (s.data.toList.drop pos).length:=by rw [List.length_drop,size_toList];omega
  have hd:=Lib.decodeL_drop s pos
  have hN:=Lib.decodeL_N (s.data.toList.drop pos)
  have hp:=pref_iff (s.data.toList.drop pos)
  unfold runeBad oneL
  rw [if_neg hne,← hd,hN]
  generalize s.data.toList.drop pos = l at *
  obtain ⟨k1,k2⟩:=decodeN_one l.length (l.getD 0 0).toNat (l.getD 1 0).toNat (l.getD 2 0).toNat (l.getD 3 0).toNat (lt256 _) (lt256 _) (lt256 _) (lt256 _) hlen
  by_cases h0 : oneN l.length (l.getD 0 0).toNat (l.getD 1 0).toNat (l.getD 2 0).toNat (l.getD 3 0).toNat = 0
  · obtain ⟨e1,e2⟩:=k1 h0
    have hpf : Lib.hasPrefix l [239,191,189] = false:=by
      cases hq : Lib.hasPrefix l [239,191,189] with
      | false=>rfl
      | true=>exact absurd (hp.1 hq) e2
    rw [e1,h0,hpf]
    simp
  · obtain ⟨e1,e2⟩:=k2 h0
    rw [if_neg h0,e1]
    refine ⟨?_,rfl⟩
    by_cases hv : (Lib.decodeN l.length (l.getD 0 0).toNat (l.getD 1 0).toNat (l.getD 2 0).toNat (l.getD 3 0).toNat).1 = 65533
    · rw [hp.2 (e2 hv),beq_eq_false_iff_ne.2 h0]
      simp
    · rw [beq_eq_false_iff_ne.2 h0,beq_eq_false_iff_ne.2 hv]
      rfl
theorem oneL_le (l : List UInt8) (h : l ≠ []) : oneL l ≤ l.length:=by
  unfold oneL
  rw [if_neg h]
  exact (oneN_le _ _ _ _ _ (by cases l with | nil=>exact absurd rfl h | cons a r=>simp)).1
def chkL : Nat → List UInt8 → Nat → Int
  | 0,_,_=>-1
  | b + 1,l,pos=>if l = [] then -1 else if oneL l = 0 then (pos : Int) else chkL b (l.drop (oneL l)) (pos + oneL l)
theorem drop_ne (s : ByteArray) (pos : Nat) : (s.data.toList.drop pos = []) ↔ ¬ pos < s.size:=by
  rw [List.drop_eq_nil_iff,size_toList];omega
theorem checkFrom_L (s : ByteArray) : ∀ b pos,checkFrom s b pos = chkL b (s.data.toList.drop pos) pos:=by
  intro b
  induction b with
  | zero=>intro pos;rfl
  | succ b ih =>
    intro pos
    simp only [checkFrom,chkL]
    by_cases h : pos < s.size
    · have hne : s.data.toList.drop pos ≠ []:=fun e=>(drop_ne s pos).1 e h
      obtain ⟨h1,h2⟩:=bad_one s pos h
      rw [if_pos h,if_neg hne,h1,h2,ih]
      by_cases h0 : oneL (s.data.toList.drop pos) = 0
      · simp [h0]
      · simp [h0,List.drop_drop]
    · rw [if_neg h,if_pos ((drop_ne s pos).2 h)]
theorem checkF_L (s : ByteArray) : checkF s = chkL s.data.toList.length s.data.toList 0:=by rw [checkF,checkFrom_L,size_toList];rfl
theorem chkL_nil (b pos : Nat) : chkL b [] pos = -1:=by cases b <;> simp [chkL]
end Go.Proofs.Ythadnhpkeljdoaa.utf
namespace Go.Proofs.Ythadnhpkeljdoaa.sx
open Go.RowKit
def AbD {β : Type} (J : β → (Nat → Prop) → World → Prop) : Prop:=∀ s D D' A B,J s D A → But A.heap.size D A B → (∀ k,D' k → D k ∨ A.heap.size ≤ k) → J s D' B
def KD (n : Nat) (D : Nat → Prop) (W W' : World) : Prop:=Below n W W' ∧ ∀ k,D k → k < W.heap.size → W'.heap[k]? = W.heap[k]?
theorem KD.refl (n : Nat) (D : Nat → Prop) (W : World) : KD n D W W:=⟨Below.refl _ _,fun _ _ _=>rfl⟩
theorem KD.trans {n : Nat} {D : Nat → Prop} {A B C : World} (h : KD n D A B) (k : KD n D B C) : KD n D A C :=
 ⟨h.1.trans k.1,fun i hi hl=>(k.2 i hi (Nat.lt_of_lt_of_le hl h.1.size)).trans (h.2 i hi hl)⟩
theorem KD.put {n l : Nat} {D : Nat → Prop} {W : World} (o o' : Obj) (hn : n ≤ l) (hD : ¬ D l) (h : W.heap[l]? = some o) : KD n D W (W.putObj l o') :=
 ⟨(Below.refl n W).grown (grownBy_putObj' W l o') (by have:=(Array.getElem?_eq_some_iff.1 h).1;omega) (fun j e=>by cases e;omega),fun k hk hl=>(grownBy_putObj' W l o').block k hl (fun e=>by cases e;exact hD hk)⟩
section
variable {F : Fence} {n : Nat} {P : Program} {w : World}
end
end Go.Proofs.Ythadnhpkeljdoaa.sx
