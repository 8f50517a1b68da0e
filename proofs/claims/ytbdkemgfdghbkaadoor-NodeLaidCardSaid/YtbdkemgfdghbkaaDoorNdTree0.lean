/-
  node: the law's trees by choices. No program.
-/
import Derived.Test.YtbdkemgfdghbkaaDoorNdShow0
namespace Go.Proofs.YtbdkemgfdghbkaaDoor.nd
open Go.RowKit sx ed
set_option linter.unusedVariables false

def txtB : Nat → ByteArray
  | 0 => ⟨#[]⟩ | 1 => ⟨#[97]⟩ | 2 => ⟨#[124]⟩ | 3 => ⟨#[36, 120]⟩ | 4 => ⟨#[46]⟩ | 5 => ⟨#[101, 108, 115, 101]⟩ | 6 => ⟨#[98, 48]⟩ | _ => ⟨#[10]⟩
def kidsN (b len : Nat) : Nat := min (b / 8 % 4) len
def stepF (a b : Nat) (l : Fo) : Fo := (l.take (l.len - kidsN b l.len)).app (.cons ((a % 40 : Nat) : Int) (txtB (b % 8)) (l.drop (l.len - kidsN b l.len)) .nil)
def stF (bs : List Int) : Nat → Fo
  | 0 => .cons 1 ⟨#[]⟩ .nil .nil
  | j + 1 => stepF (bs.getD (2 * j) 0).toNat (bs.getD (2 * j + 1) 0).toNat (stF bs j)
def rounds (n : Nat) : Nat := min (n / 2) 30
def treeN (bs : List Int) : Nd := ⟨10, ⟨#[]⟩, stF bs (rounds bs.length)⟩

theorem Fo.drop_len : ∀ (f : Fo) (i : Nat), (f.drop i).len = f.len - i
  | f, 0 => by cases f <;> rfl
  | .nil, _ + 1 => by simp [Fo.drop, Fo.len]
  | .cons _ _ _ r, i + 1 => by simp [Fo.drop, Fo.len, Fo.drop_len r i]
theorem kidsN_le (b len : Nat) : kidsN b len ≤ len := Nat.min_le_right _ _
theorem stepF_len (a b : Nat) (l : Fo) : (stepF a b l).len = l.len - kidsN b l.len + 1 := by
  simp [stepF, Fo.app_len, Fo.len, Fo.take_len (Nat.sub_le _ _)]
theorem stF_len (bs : List Int) : ∀ j, 1 ≤ (stF bs j).len ∧ (stF bs j).len ≤ j + 1
  | 0 => by simp [stF, Fo.len]
  | j + 1 => by
    have := stF_len bs j
    simp only [stF, stepF_len]
    omega

/-- What every node of such a tree is. -/
def Fo.Nice : Fo → Prop
  | .nil => True
  | .cons k t kids r => (∃ a : Nat, k = (a : Int) ∧ a < 40) ∧ (∃ b, t = txtB b) ∧ kids.Nice ∧ r.Nice
def Nd.Nice (x : Nd) : Prop := (∃ a : Nat, x.k = (a : Int) ∧ a < 40) ∧ (∃ b, x.t = txtB b) ∧ x.kids.Nice
theorem Fo.Nice.app : ∀ {f g : Fo}, f.Nice → g.Nice → (f.app g).Nice
  | .nil, _, _, h => h
  | .cons _ _ _ _, _, h, k => ⟨h.1, h.2.1, h.2.2.1, Fo.Nice.app h.2.2.2 k⟩
theorem Fo.Nice.take : ∀ {f : Fo} (i : Nat), f.Nice → (f.take i).Nice
  | f, 0, _ => by cases f <;> exact trivial
  | .nil, _ + 1, _ => trivial
  | .cons _ _ _ r, i + 1, h => ⟨h.1, h.2.1, h.2.2.1, Fo.Nice.take (f := r) i h.2.2.2⟩
theorem Fo.Nice.drop : ∀ {f : Fo} (i : Nat), f.Nice → (f.drop i).Nice
  | f, 0, h => by cases f <;> exact h
  | .nil, _ + 1, _ => trivial
  | .cons _ _ _ r, i + 1, h => Fo.Nice.drop (f := r) i h.2.2.2
theorem txtB_size (b : Nat) : (txtB b).size ≤ 4 := by
  unfold txtB
  split <;> decide
theorem Fo.drop_weight (f : Fo) (i : Nat) : (f.take i).weight + (f.drop i).weight = f.weight := by
  rw [← Fo.weight_app, Fo.take_drop]
theorem stepF_weight (a b : Nat) (l : Fo) : (stepF a b l).weight ≤ l.weight + 5 := by
  have h1 := Fo.drop_weight l (l.len - kidsN b l.len)
  have h2 := txtB_size (b % 8)
  simp only [stepF, Fo.weight_app, Fo.weight]
  omega
theorem stF_nice (bs : List Int) : ∀ j, (stF bs j).Nice ∧ (stF bs j).weight ≤ 1 + 5 * j
  | 0 => ⟨⟨⟨1, rfl, by omega⟩, ⟨0, rfl⟩, trivial, trivial⟩, by simp [stF, Fo.weight, ByteArray.size]⟩
  | j + 1 => by
    obtain ⟨h1, h2⟩ := stF_nice bs j
    refine ⟨(h1.take _).app ⟨⟨_, rfl, Nat.mod_lt _ (by omega)⟩, ⟨_, rfl⟩, h1.drop _, trivial⟩, ?_⟩
    have := stepF_weight (bs.getD (2 * j) 0).toNat (bs.getD (2 * j + 1) 0).toNat (stF bs j)
    simp only [stF]
    omega
theorem treeN_nice (bs : List Int) : (treeN bs).Nice ∧ (treeN bs).weight ≤ 200 := by
  obtain ⟨h1, h2⟩ := stF_nice bs (rounds bs.length)
  have hr : rounds bs.length ≤ 30 := Nat.min_le_right _ _
  refine ⟨⟨⟨10, rfl, by omega⟩, ⟨0, rfl⟩, h1⟩, ?_⟩
  simp only [treeN, Nd.weight]
  have : (⟨#[]⟩ : ByteArray).size = 0 := rfl
  omega
theorem Fo.Nice.kd : ∀ {f : Fo}, f.Nice → f.Kd
  | .nil, _ => trivial
  | .cons _ _ _ _, ⟨⟨a, e, h⟩, _, hk, hr⟩ => ⟨by omega, hk.kd, hr.kd⟩
theorem Nd.Nice.kd {x : Nd} (h : x.Nice) : x.Kd := by
  obtain ⟨⟨a, e, h1⟩, _, h2⟩ := h
  exact ⟨by omega, h2.kd⟩
end Go.Proofs.YtbdkemgfdghbkaaDoor.nd
