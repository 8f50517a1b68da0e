/- Ground of the law: PaTot, NdRef1, PrIter, SgFns2, LxCut. -/
import Derived.Test.YtlklhkkjcfmefaaGreatDoorQe05
import Derived.Test.YtlklhkkjcfmefaaGreatDoorQe01
import Derived.IntWalk
import Derived.Lib.Hide
import Derived.LoopNIn
import Derived.LoopIn
import Derived.RegionTactic
import Derived.Test.YtlklhkkjcfmefaaGreatDoorQe00
set_option maxRecDepth 100000
set_option maxHeartbeats 8000000
set_option linter.unusedVariables false
set_option linter.unusedSimpArgs false
namespace Go.Proofs.YtlklhkkjcfmefaaGreatDoor.pa
open Go.RowKit nd pr
theorem go_wf : ∀ n,AllWf (go n)
 | 0=>fun f=>trivial
 | n + 1=>step_wf (go_wf n)
def OkT {α : Type} (p : Pa α) (r : List Tk) (B : Nat) : Prop:=∃ o,p.run r = some o ∧ ∀ r' x,o = .ok r' x → r'.length ≤ B
section
variable {α β : Type}
theorem OkT.mono {p : Pa α} {r : List Tk} {B C : Nat} (h : OkT p r B) (hb : B ≤ C) : OkT p r C:=by
 obtain ⟨o,h1,h2⟩:=h
 exact ⟨o,h1,fun r' x e=>Nat.le_trans (h2 r' x e) hb⟩
theorem t_ret {x : α} {r : List Tk} {B : Nat} (h : r.length ≤ B) : OkT (.ret x) r B:=⟨_,rfl,fun r' y e=>by cases e;exact h⟩
theorem t_bad {r : List Tk} {B : Nat} : OkT (.bad : Pa α) r B:=⟨_,rfl,fun r' y e=>by cases e⟩
theorem t_bind {p : Pa α} {f : α → Pa β} {r : List Tk} {B C : Nat} (h : OkT p r B) (hf : ∀ r' x,r'.length ≤ B → OkT (f x) r' C) : OkT (p.bind f) r C:=by
 obtain ⟨o,h1,h2⟩:=h
 unfold OkT
 rw [Pa.run_bind,h1]
 cases o with
 | bad r'=>exact ⟨_,rfl,fun r' y e=>by cases e⟩
 | ok r' x=>exact hf r' x (h2 r' x rfl)
theorem t_look {k : Tk → Pa α} {r : List Tk} {B : Nat} (h0 : r = [] → OkT (k noTk) [] B) (h1 : ∀ t r',r = t :: r' → OkT (k t) (t :: r') B) : OkT (.look k) r B:=by
 cases r with
 | nil=>exact h0 rfl
 | cons t r'=>exact h1 t r' rfl
theorem t_peek {k : Tk → Pa α} {r : List Tk} {B : Nat} (h : ∀ t,OkT (k t) r B) : OkT (.peek k) r B:=h _
theorem t_ended {k : Bool → Pa α} {r : List Tk} {B : Nat} (h0 : r = [] → OkT (k true) [] B) (h1 : ∀ t r',r = t :: r' → OkT (k false) (t :: r') B) : OkT (.ended k) r B:=by
 cases r with
 | nil=>exact h0 rfl
 | cons t r'=>exact h1 t r' rfl
theorem t_move {k : Pa α} {t : Tk} {r : List Tk} {B : Nat} (h : OkT k r B) : OkT (.move k) (t :: r) B:=h
theorem t_need {s : ByteArray} {k : Pa α} {r : List Tk} {B : Nat} (h : ∀ t r',r = t :: r' → OkT k r' B) : OkT (need s k) r B :=
 t_look (fun e=>by simp only [op_no,word_no];exact t_bad) (fun t r' e=>by split;exact h t r' e;exact t_bad)
theorem t_one {kd : Int} {k : Pa α} {r : List Tk} {B : Nat} (hk : ((0 : Int) == kd) = false) (h : ∀ t r',r = t :: r' → OkT k r' B) : OkT (one kd k) r B :=
 t_look (fun e=>by show OkT (if ((0 : Int) == kd) = true then _ else _) _ _;rw [hk];exact t_bad) (fun t r' e=>by split;exact h t r' e;exact t_bad)
theorem t_text {kd : Int} {k : ByteArray → Pa α} {r : List Tk} {B : Nat} (hk : ((0 : Int) == kd) = false) (h : ∀ s t r',r = t :: r' → OkT (k s) r' B) : OkT (text kd k) r B :=
 t_look (fun e=>by show OkT (if ((0 : Int) == kd) = true then _ else _) _ _;rw [hk];exact t_bad) (fun t r' e=>by split;exact h _ t r' e;exact t_bad)
theorem t_name {k : ByteArray → Pa α} {r : List Tk} {B : Nat} (h : ∀ s t r',r = t :: r' → OkT (k s) r' B) : OkT (name k) r B :=
 t_look (fun e=>by simp only [plain_no];exact t_bad) (fun t r' e=>by split;exact h _ t r' e;exact t_bad)
theorem t_no {b : Bool} {p q : Pa α} {r : List Tk} {B : Nat} (hb : b = false) (h : OkT q r B) : OkT (if b = true then p else q) r B:=by rw [hb];exact h
theorem ite_bind {c : Prop} [Decidable c] (p q : Pa α) (f : α → Pa β) : (if c then p else q).bind f = if c then p.bind f else q.bind f:=by split <;> rfl
theorem look_bind (k : Tk → Pa α) (f : α → Pa β) : (Pa.look k).bind f = .look fun t=>(k t).bind f:=rfl
theorem ret_bind (x : α) (f : α → Pa β) : (Pa.ret x).bind f = f x:=rfl
theorem move_bind (k : Pa α) (f : α → Pa β) : (Pa.move k).bind f = .move (k.bind f):=rfl
theorem t_if {c : Prop} [Decidable c] {p q : Pa α} {r : List Tk} {B : Nat} (h1 : c → OkT p r B) (h2 : ¬ c → OkT q r B) : OkT (if c then p else q) r B:=by
 split
 ·exact h1 (by assumption)
 ·exact h2 (by assumption)
end
def rank : Fn → Nat
 | .exp _=>5
 | .expL _ _ _=>1
 | .operand=>4
 | .params=>0
 | .deff _=>0
 | .within _ _=>0
 | .slice _ _ _=>0
 | .post=>3
 | .postL _=>1
 | .str=>1
 | .strF _=>0
 | .strL=>0
 | .term=>2
 | .bracket=>0
 | .pairs=>4
 | .worded=>0
 | .args=>0
 | .ifs=>6
 | .fold _ _=>4
 | .key _=>2
 | .pair=>3
 | .value=>5
 | .unit=>4
 | .keypat=>3
 | .pattern=>1
 | .elems _=>0
 | .bring=>0
 | .plainL=>0
 | .brings=>1
 | .program=>6
def eats : Fn → Nat
 | .exp _=>1
 | .expL _ _ _=>0
 | .operand=>1
 | .params=>1
 | .deff _=>1
 | .within _ _=>1
 | .slice _ _ _=>1
 | .post=>1
 | .postL _=>0
 | .str=>1
 | .strF _=>1
 | .strL=>0
 | .term=>1
 | .bracket=>1
 | .pairs=>1
 | .worded=>1
 | .args=>1
 | .ifs=>1
 | .fold _ _=>1
 | .key _=>1
 | .pair=>1
 | .value=>1
 | .unit=>1
 | .keypat=>1
 | .pattern=>1
 | .elems _=>1
 | .bring=>1
 | .plainL=>0
 | .brings=>0
 | .program=>0
def AllT (n : Nat) : Prop:=∀ f r,8 * r.length + rank f < n → (wants f = true → r ≠ []) → OkT (go n f) r (r.length - eats f)
theorem step_tot {n : Nat} (ih : AllT n) : ∀ f r,8 * r.length + rank f < n + 1 → (wants f = true → r ≠ []) → OkT (step (go n) f) r (r.length - eats f):=by
 intro f r hn hw
 have h_exp : ∀ (l : Int) (r : List Tk),8 * r.length + 5 < n → OkT (go n (.exp l) : Pa (Nd)) r (r.length - 1):=fun l r h=>ih (.exp l) r h (fun e=>by cases e)
 have h_expL : ∀ (l : Int) (x : Nd) (b : Int) (r : List Tk),8 * r.length + 1 < n → OkT (go n (.expL l x b) : Pa (Nd)) r (r.length - 0):=fun l x b r h=>ih (.expL l x b) r h (fun e=>by cases e)
 have h_operand : ∀ (r : List Tk),8 * r.length + 4 < n → OkT (go n (.operand) : Pa (Nd)) r (r.length - 1):=fun r h=>ih (.operand) r h (fun e=>by cases e)
 have h_params : ∀ (r : List Tk),8 * r.length + 0 < n → OkT (go n (.params) : Pa (List Nd)) r (r.length - 1):=fun r h=>ih (.params) r h (fun e=>by cases e)
 have h_deff : ∀ (b : Bool) (r : List Tk),8 * r.length + 0 < n → r ≠ [] → OkT (go n (.deff b) : Pa (Nd)) r (r.length - 1):=fun b r h hr=>ih (.deff b) r h (fun _=>hr)
 have h_within : ∀ (x : Nd) (d : ByteArray) (r : List Tk),8 * r.length + 0 < n → OkT (go n (.within x d) : Pa (Nd)) r (r.length - 1):=fun x d r h=>ih (.within x d) r h (fun e=>by cases e)
 have h_slice : ∀ (x : Nd) (f : Nd) (d : ByteArray) (r : List Tk),8 * r.length + 0 < n → OkT (go n (.slice x f d) : Pa (Nd)) r (r.length - 1):=fun x f d r h=>ih (.slice x f d) r h (fun e=>by cases e)
 have h_post : ∀ (r : List Tk),8 * r.length + 3 < n → OkT (go n (.post) : Pa (Nd)) r (r.length - 1):=fun r h=>ih (.post) r h (fun e=>by cases e)
 have h_postL : ∀ (x : Nd) (r : List Tk),8 * r.length + 1 < n → OkT (go n (.postL x) : Pa (Nd)) r (r.length - 0):=fun x r h=>ih (.postL x) r h (fun e=>by cases e)
 have h_str : ∀ (r : List Tk),8 * r.length + 1 < n → OkT (go n (.str) : Pa (Nd)) r (r.length - 1):=fun r h=>ih (.str) r h (fun e=>by cases e)
 have h_strF : ∀ (f : ByteArray) (r : List Tk),8 * r.length + 0 < n → OkT (go n (.strF f) : Pa (Nd)) r (r.length - 1):=fun f r h=>ih (.strF f) r h (fun e=>by cases e)
 have h_strL : ∀ (r : List Tk),8 * r.length + 0 < n → OkT (go n (.strL) : Pa (List Nd)) r (r.length - 0):=fun r h=>ih (.strL) r h (fun e=>by cases e)
 have h_term : ∀ (r : List Tk),8 * r.length + 2 < n → OkT (go n (.term) : Pa (Nd)) r (r.length - 1):=fun r h=>ih (.term) r h (fun e=>by cases e)
 have h_bracket : ∀ (r : List Tk),8 * r.length + 0 < n → OkT (go n (.bracket) : Pa (Nd)) r (r.length - 1):=fun r h=>ih (.bracket) r h (fun e=>by cases e)
 have h_pairs : ∀ (r : List Tk),8 * r.length + 4 < n → OkT (go n (.pairs) : Pa (List Nd)) r (r.length - 1):=fun r h=>ih (.pairs) r h (fun e=>by cases e)
 have h_worded : ∀ (r : List Tk),8 * r.length + 0 < n → r ≠ [] → OkT (go n (.worded) : Pa (Nd)) r (r.length - 1):=fun r h hr=>ih (.worded) r h (fun _=>hr)
 have h_args : ∀ (r : List Tk),8 * r.length + 0 < n → r ≠ [] → OkT (go n (.args) : Pa (List Nd)) r (r.length - 1):=fun r h hr=>ih (.args) r h (fun _=>hr)
 have h_ifs : ∀ (r : List Tk),8 * r.length + 6 < n → OkT (go n (.ifs) : Pa (List Nd)) r (r.length - 1):=fun r h=>ih (.ifs) r h (fun e=>by cases e)
 have h_fold : ∀ (k : Int) (b : Bool) (r : List Tk),8 * r.length + 4 < n → OkT (go n (.fold k b) : Pa (Nd)) r (r.length - 1):=fun k b r h=>ih (.fold k b) r h (fun e=>by cases e)
 have h_key : ∀ (p : Bool) (r : List Tk),8 * r.length + 2 < n → OkT (go n (.key p) : Pa (Nd × Bool)) r (r.length - 1):=fun p r h=>ih (.key p) r h (fun e=>by cases e)
 have h_pair : ∀ (r : List Tk),8 * r.length + 3 < n → OkT (go n (.pair) : Pa (Nd)) r (r.length - 1):=fun r h=>ih (.pair) r h (fun e=>by cases e)
 have h_value : ∀ (r : List Tk),8 * r.length + 5 < n → OkT (go n (.value) : Pa (Nd)) r (r.length - 1):=fun r h=>ih (.value) r h (fun e=>by cases e)
 have h_unit : ∀ (r : List Tk),8 * r.length + 4 < n → OkT (go n (.unit) : Pa (Nd)) r (r.length - 1):=fun r h=>ih (.unit) r h (fun e=>by cases e)
 have h_keypat : ∀ (r : List Tk),8 * r.length + 3 < n → OkT (go n (.keypat) : Pa (Nd)) r (r.length - 1):=fun r h=>ih (.keypat) r h (fun e=>by cases e)
 have h_pattern : ∀ (r : List Tk),8 * r.length + 1 < n → OkT (go n (.pattern) : Pa (Nd)) r (r.length - 1):=fun r h=>ih (.pattern) r h (fun e=>by cases e)
 have h_elems : ∀ (b : Bool) (r : List Tk),8 * r.length + 0 < n → r ≠ [] → OkT (go n (.elems b) : Pa (List Nd)) r (r.length - 1):=fun b r h hr=>ih (.elems b) r h (fun _=>hr)
 have h_bring : ∀ (r : List Tk),8 * r.length + 0 < n → r ≠ [] → OkT (go n (.bring) : Pa (Nd)) r (r.length - 1):=fun r h hr=>ih (.bring) r h (fun _=>hr)
 have h_plainL : ∀ (r : List Tk),8 * r.length + 0 < n → OkT (go n (.plainL) : Pa (List Nd)) r (r.length - 0):=fun r h=>ih (.plainL) r h (fun e=>by cases e)
 have h_brings : ∀ (r : List Tk),8 * r.length + 1 < n → OkT (go n (.brings) : Pa (List Nd)) r (r.length - 0):=fun r h=>ih (.brings) r h (fun e=>by cases e)
 clear ih
 cases f
 case' deff top=>cases top
 all_goals first | (have hr:=hw rfl;obtain ⟨t0,r0,rfl⟩:=List.exists_cons_of_ne_nil hr) | skip
 all_goals clear hw
 all_goals simp only [rank] at hn
 all_goals simp only [step,eats]
 all_goals
  repeat (first
   | exact t_bad
   | (refine t_ret ?_;((try simp only [List.length_cons,List.length_nil] at *);omega))
   | refine t_need (fun _ _ hr=>?_) <;> subst hr
   | refine t_one rfl (fun _ _ hr=>?_) <;> subst hr
   | refine t_text rfl (fun _ _ _ hr=>?_) <;> subst hr
   | refine t_name (fun _ _ _ hr=>?_) <;> subst hr
   | refine t_look (fun hr=>?_) (fun _ _ hr=>?_) <;> subst hr
   | refine t_peek (fun _=>?_)
   | refine t_ended (fun hr=>?_) (fun _ _ hr=>?_) <;> subst hr
   | refine t_move ?_
   | (simp only [show tok ([] : List Tk) = noTk from rfl,op_no,word_no,plain_no,Bool.and_false,Bool.or_false,Bool.or_self,Bool.false_eq_true,if_false])
   | (simp only [ite_bind,look_bind,ret_bind,move_bind])
   | refine t_no rfl ?_
   | refine t_if (fun _=>?_) (fun _=>?_)
   | with_reducible refine t_bind (h_exp _ _ (by (try simp only [List.length_cons,List.length_nil] at *);omega)) (fun _ _ _=>?_)
   | with_reducible refine OkT.mono (h_exp _ _ (by (try simp only [List.length_cons,List.length_nil] at *);omega)) (by (try simp only [List.length_cons,List.length_nil] at *);omega)
   | with_reducible refine t_bind (h_expL _ _ _ _ (by (try simp only [List.length_cons,List.length_nil] at *);omega)) (fun _ _ _=>?_)
   | with_reducible refine OkT.mono (h_expL _ _ _ _ (by (try simp only [List.length_cons,List.length_nil] at *);omega)) (by (try simp only [List.length_cons,List.length_nil] at *);omega)
   | with_reducible refine t_bind (h_operand _ (by (try simp only [List.length_cons,List.length_nil] at *);omega)) (fun _ _ _=>?_)
   | with_reducible refine OkT.mono (h_operand _ (by (try simp only [List.length_cons,List.length_nil] at *);omega)) (by (try simp only [List.length_cons,List.length_nil] at *);omega)
   | with_reducible refine t_bind (h_params _ (by (try simp only [List.length_cons,List.length_nil] at *);omega)) (fun _ _ _=>?_)
   | with_reducible refine OkT.mono (h_params _ (by (try simp only [List.length_cons,List.length_nil] at *);omega)) (by (try simp only [List.length_cons,List.length_nil] at *);omega)
   | with_reducible refine t_bind (h_deff _ _ (by (try simp only [List.length_cons,List.length_nil] at *);omega) (by simp)) (fun _ _ _=>?_)
   | with_reducible refine OkT.mono (h_deff _ _ (by (try simp only [List.length_cons,List.length_nil] at *);omega) (by simp)) (by (try simp only [List.length_cons,List.length_nil] at *);omega)
   | with_reducible refine t_bind (h_within _ _ _ (by (try simp only [List.length_cons,List.length_nil] at *);omega)) (fun _ _ _=>?_)
   | with_reducible refine OkT.mono (h_within _ _ _ (by (try simp only [List.length_cons,List.length_nil] at *);omega)) (by (try simp only [List.length_cons,List.length_nil] at *);omega)
   | with_reducible refine t_bind (h_slice _ _ _ _ (by (try simp only [List.length_cons,List.length_nil] at *);omega)) (fun _ _ _=>?_)
   | with_reducible refine OkT.mono (h_slice _ _ _ _ (by (try simp only [List.length_cons,List.length_nil] at *);omega)) (by (try simp only [List.length_cons,List.length_nil] at *);omega)
   | with_reducible refine t_bind (h_post _ (by (try simp only [List.length_cons,List.length_nil] at *);omega)) (fun _ _ _=>?_)
   | with_reducible refine OkT.mono (h_post _ (by (try simp only [List.length_cons,List.length_nil] at *);omega)) (by (try simp only [List.length_cons,List.length_nil] at *);omega)
   | with_reducible refine t_bind (h_postL _ _ (by (try simp only [List.length_cons,List.length_nil] at *);omega)) (fun _ _ _=>?_)
   | with_reducible refine OkT.mono (h_postL _ _ (by (try simp only [List.length_cons,List.length_nil] at *);omega)) (by (try simp only [List.length_cons,List.length_nil] at *);omega)
   | with_reducible refine t_bind (h_str _ (by (try simp only [List.length_cons,List.length_nil] at *);omega)) (fun _ _ _=>?_)
   | with_reducible refine OkT.mono (h_str _ (by (try simp only [List.length_cons,List.length_nil] at *);omega)) (by (try simp only [List.length_cons,List.length_nil] at *);omega)
   | with_reducible refine t_bind (h_strF _ _ (by (try simp only [List.length_cons,List.length_nil] at *);omega)) (fun _ _ _=>?_)
   | with_reducible refine OkT.mono (h_strF _ _ (by (try simp only [List.length_cons,List.length_nil] at *);omega)) (by (try simp only [List.length_cons,List.length_nil] at *);omega)
   | with_reducible refine t_bind (h_strL _ (by (try simp only [List.length_cons,List.length_nil] at *);omega)) (fun _ _ _=>?_)
   | with_reducible refine OkT.mono (h_strL _ (by (try simp only [List.length_cons,List.length_nil] at *);omega)) (by (try simp only [List.length_cons,List.length_nil] at *);omega)
   | with_reducible refine t_bind (h_term _ (by (try simp only [List.length_cons,List.length_nil] at *);omega)) (fun _ _ _=>?_)
   | with_reducible refine OkT.mono (h_term _ (by (try simp only [List.length_cons,List.length_nil] at *);omega)) (by (try simp only [List.length_cons,List.length_nil] at *);omega)
   | with_reducible refine t_bind (h_bracket _ (by (try simp only [List.length_cons,List.length_nil] at *);omega)) (fun _ _ _=>?_)
   | with_reducible refine OkT.mono (h_bracket _ (by (try simp only [List.length_cons,List.length_nil] at *);omega)) (by (try simp only [List.length_cons,List.length_nil] at *);omega)
   | with_reducible refine t_bind (h_pairs _ (by (try simp only [List.length_cons,List.length_nil] at *);omega)) (fun _ _ _=>?_)
   | with_reducible refine OkT.mono (h_pairs _ (by (try simp only [List.length_cons,List.length_nil] at *);omega)) (by (try simp only [List.length_cons,List.length_nil] at *);omega)
   | with_reducible refine t_bind (h_worded _ (by (try simp only [List.length_cons,List.length_nil] at *);omega) (by simp)) (fun _ _ _=>?_)
   | with_reducible refine OkT.mono (h_worded _ (by (try simp only [List.length_cons,List.length_nil] at *);omega) (by simp)) (by (try simp only [List.length_cons,List.length_nil] at *);omega)
   | with_reducible refine t_bind (h_args _ (by (try simp only [List.length_cons,List.length_nil] at *);omega) (by simp)) (fun _ _ _=>?_)
   | with_reducible refine OkT.mono (h_args _ (by (try simp only [List.length_cons,List.length_nil] at *);omega) (by simp)) (by (try simp only [List.length_cons,List.length_nil] at *);omega)
   | with_reducible refine t_bind (h_ifs _ (by (try simp only [List.length_cons,List.length_nil] at *);omega)) (fun _ _ _=>?_)
   | with_reducible refine OkT.mono (h_ifs _ (by (try simp only [List.length_cons,List.length_nil] at *);omega)) (by (try simp only [List.length_cons,List.length_nil] at *);omega)
   | with_reducible refine t_bind (h_fold _ _ _ (by (try simp only [List.length_cons,List.length_nil] at *);omega)) (fun _ _ _=>?_)
   | with_reducible refine OkT.mono (h_fold _ _ _ (by (try simp only [List.length_cons,List.length_nil] at *);omega)) (by (try simp only [List.length_cons,List.length_nil] at *);omega)
   | with_reducible refine t_bind (h_key _ _ (by (try simp only [List.length_cons,List.length_nil] at *);omega)) (fun _ _ _=>?_)
   | with_reducible refine OkT.mono (h_key _ _ (by (try simp only [List.length_cons,List.length_nil] at *);omega)) (by (try simp only [List.length_cons,List.length_nil] at *);omega)
   | with_reducible refine t_bind (h_pair _ (by (try simp only [List.length_cons,List.length_nil] at *);omega)) (fun _ _ _=>?_)
   | with_reducible refine OkT.mono (h_pair _ (by (try simp only [List.length_cons,List.length_nil] at *);omega)) (by (try simp only [List.length_cons,List.length_nil] at *);omega)
   | with_reducible refine t_bind (h_value _ (by (try simp only [List.length_cons,List.length_nil] at *);omega)) (fun _ _ _=>?_)
   | with_reducible refine OkT.mono (h_value _ (by (try simp only [List.length_cons,List.length_nil] at *);omega)) (by (try simp only [List.length_cons,List.length_nil] at *);omega)
   | with_reducible refine t_bind (h_unit _ (by (try simp only [List.length_cons,List.length_nil] at *);omega)) (fun _ _ _=>?_)
   | with_reducible refine OkT.mono (h_unit _ (by (try simp only [List.length_cons,List.length_nil] at *);omega)) (by (try simp only [List.length_cons,List.length_nil] at *);omega)
   | with_reducible refine t_bind (h_keypat _ (by (try simp only [List.length_cons,List.length_nil] at *);omega)) (fun _ _ _=>?_)
   | with_reducible refine OkT.mono (h_keypat _ (by (try simp only [List.length_cons,List.length_nil] at *);omega)) (by (try simp only [List.length_cons,List.length_nil] at *);omega)
   | with_reducible refine t_bind (h_pattern _ (by (try simp only [List.length_cons,List.length_nil] at *);omega)) (fun _ _ _=>?_)
   | with_reducible refine OkT.mono (h_pattern _ (by (try simp only [List.length_cons,List.length_nil] at *);omega)) (by (try simp only [List.length_cons,List.length_nil] at *);omega)
   | with_reducible refine t_bind (h_elems _ _ (by (try simp only [List.length_cons,List.length_nil] at *);omega) (by simp)) (fun _ _ _=>?_)
   | with_reducible refine OkT.mono (h_elems _ _ (by (try simp only [List.length_cons,List.length_nil] at *);omega) (by simp)) (by (try simp only [List.length_cons,List.length_nil] at *);omega)
   | with_reducible refine t_bind (h_bring _ (by (try simp only [List.length_cons,List.length_nil] at *);omega) (by simp)) (fun _ _ _=>?_)
   | with_reducible refine OkT.mono (h_bring _ (by (try simp only [List.length_cons,List.length_nil] at *);omega) (by simp)) (by (try simp only [List.length_cons,List.length_nil] at *);omega)
   | with_reducible refine t_bind (h_plainL _ (by (try simp only [List.length_cons,List.length_nil] at *);omega)) (fun _ _ _=>?_)
   | with_reducible refine OkT.mono (h_plainL _ (by (try simp only [List.length_cons,List.length_nil] at *);omega)) (by (try simp only [List.length_cons,List.length_nil] at *);omega)
   | with_reducible refine t_bind (h_brings _ (by (try simp only [List.length_cons,List.length_nil] at *);omega)) (fun _ _ _=>?_)
   | with_reducible refine OkT.mono (h_brings _ (by (try simp only [List.length_cons,List.length_nil] at *);omega)) (by (try simp only [List.length_cons,List.length_nil] at *);omega))
theorem tot (n : Nat) : AllT n:=by
 induction n with
 | zero=>intro f r h;omega
 | succ n ih=>exact step_tot ih
theorem parse_run (l : List Tk) (n : Nat) (h : 8 * l.length + 6 < n) : ∃ o,(go n .program).run l = some o:=by
 obtain ⟨o,h1,_⟩:=tot n .program l h (fun e=>by cases e)
 exact ⟨o,h1⟩
end Go.Proofs.YtlklhkkjcfmefaaGreatDoor.pa
namespace Go.Proofs.YtlklhkkjcfmefaaGreatDoor.nd
open Go.Lib (hid)
open Go.RowKit sx ed
def RSameOk (x : Nd) : Prop:=∀ (y : Nd) (w : World) (u v : Value),NdAt (Lt w.heap.size) w x u → NdAt (Lt w.heap.size) w y v →
 Calls Tryz.prog 20 #[u,v] w fun e w'=>e = .returned (.bool (x.same y)) ∧ Below w.heap.size w w'
theorem rsame_ok (x : Nd) : RSameOk x:=by
 refine Nd.induct (p:=RSameOk) (fun x hp y w u v hu hv=>?_) x
 obtain ⟨s,rfl,hs⟩:=hu
 obtain ⟨s2,rfl,hs2⟩:=hv
 obtain ⟨ao,cap,rfl,hm⟩:=hs.slice
 obtain ⟨ao2,cap2,rfl,hm2⟩:=hs2.slice
 obtain ⟨k,t,f⟩:=x
 obtain ⟨k2,t2,g⟩:=y
 dsimp only at hs hs2 hm hm2 hp ⊢
 unfold maxLen at hm hm2
 have hq : Nd.same ⟨k,t,f⟩ ⟨k2,t2,g⟩ = (k == k2 && (t.toList == t2.toList) && f.same g):=rfl
 obtain ⟨W0,hW0⟩ : ∃ W0,((w.alloc (.cells #[.int .i64 k,.string t,.slice ao f.len cap] 32)).alloc (.cells #[.int .i64 k2,.string t2,.slice ao2 g.len cap2] 32)) = W0:=⟨_,rfl⟩
 have hb0 : Below w.heap.size w W0:=by rw [← hW0];exact ((Below.refl _ w).alloc (Nat.le_refl _) _).alloc (by simp) _
 have hk1 : Blk W0 w.heap.size 32 #[.int .i64 k,.string t,.slice ao f.len cap]:=by rw [← hW0];exact (Blk.new w _ _).alloc _
 have hk2 : Blk W0 (w.heap.size + 1) 32 #[.int .i64 k2,.string t2,.slice ao2 g.len cap2]:=by
  rw [← hW0]
  have:=Blk.new (w.alloc (.cells #[.int .i64 k,.string t,.slice ao f.len cap] 32)) 32 #[.int .i64 k2,.string t2,.slice ao2 g.len cap2]
  simpa using this
 have hsz : W0.heap.size = w.heap.size + 2:=by rw [← hW0];simp
 obtain ⟨b,hb⟩ : ∃ b,Nd.same ⟨k,t,f⟩ ⟨k2,t2,g⟩ = b:=⟨_,rfl⟩
 rw [hb] at hq ⊢
 have a0:=hk1.cell 0;have a1:=hk1.cell 1;have a2:=hk1.cell 2
 have b0:=hk2.cell 0;have b1:=hk2.cell 1;have b2:=hk2.cell 2
 by_cases h1 : k = k2
 ·subst h1
  by_cases h2 : t = t2
  ·subst h2
   by_cases hl : f.len = g.len
   ·obtain ⟨m,hmm⟩ : ∃ m,g.len = m:=⟨_,rfl⟩
    have hmx:=hl.trans hmm
    have hqq : b = f.same g:=by rw [hq];simp
    rw [hmm] at hm2 hs2 hW0 hk2 b2 ⊢
    rw [hmx] at hm hs hW0 hk1 a2 ⊢
    have HF:=hid (hs.below hb0 (Nat.le_refl _));have HG:=hid (hs2.below hb0 (Nat.le_refl _));have HL:=hid hmx;have HL2:=hid hmm;have HB:=hid hqq;have HP:=hid hp;have HB0:=hid hb0
    have HSZ:=hid hsz;have HK1:=hid hk1;have HK2:=hid hk2
    have HW0:=hid hW0
    clear hs hs2 hq hb hl hmm hmx hqq hp hb0 hk1 hk2 a0 a1 a2 b0 b1 b2 hsz hW0
    go_enter Tryz.func20,Tryz.ntmps20
    go_wp2_with fail
    rw [HW0.out]
    go_loopw [5] (fun i wr=>∃ k : Nat,k ≤ m ∧ i = .int .i64 (k : Int) ∧ (∀ j x y,j < k → f.get? j = some x → g.get? j = some y → x.same y = true) ∧ Below W0.heap.size W0 wr) (fun i _=>m - (intOf i).toNat)
    case atStart=>exact ⟨0,Nat.zero_le _,rfl,fun j x y h=>absurd h (Nat.not_lt_zero _),Below.refl _ _⟩
    case round =>
     obtain ⟨j,hj,rfl,heq,hbw⟩:=hrel
     have a2:=(HK1.out.own hbw).cell 2
     have b2:=(HK2.out.own hbw).cell 2
     have HEQ:=hid heq
     clear heq
     by_cases hlt : j < m
     ·obtain ⟨x,hx⟩:=Fo.get_of_lt (f:=f) (i:=j) (by rw [HL.out];exact hlt)
      obtain ⟨y,hy⟩:=Fo.get_of_lt (f:=g) (i:=j) (by rw [HL2.out];exact hlt)
      have hFw:=HF.out.toLt.below hbw (Nat.le_refl _)
      have hGw:=HG.out.toLt.below hbw (Nat.le_refl _)
      obtain ⟨g1,o1,ao1,cap1,rfl,_,hg1,d0,d1,d2,d3⟩:=hFw.get hx
      obtain ⟨g2,o2,ao2,cap2,rfl,_,hg2,e0,e1,e2,e3⟩:=hGw.get hy
      have hlt1 : (j : Int) < (m : Int):=by omega
      have hcall : ∀ W,Below wr.heap.size wr W → Calls Tryz.prog 20 #[.agg #[.int .i64 x.k,.string x.t,.slice ao1 x.kids.len cap1],.agg #[.int .i64 y.k,.string y.t,.slice ao2 y.kids.len cap2]] W fun e w'=>e = .returned (.bool (x.same y)) ∧ Below W.heap.size W w':=fun W hW =>
       HP.out.get hx y W _ _ ((NdAt.mk (d3.toLt.below hW (Nat.le_refl _))).mono hW.size) ((NdAt.mk (e3.toLt.below hW (Nat.le_refl _))).mono hW.size)
      obtain ⟨c,hc⟩ : ∃ c,x.same y = c:=⟨_,rfl⟩
      rw [hc] at hcall
      have HC:=hid hcall;have HS:=hid hc;have HX:=hid hx;have HY:=hid hy
      have HW:=hid hbw
      have i0:=fun y : In wr=>In.cell d0 y
      have i1:=fun y : In wr=>In.cell d1 y
      have i2:=fun y : In wr=>In.cell d2 y
      have i3:=fun y : In wr=>In.cell e0 y
      have i4:=fun y : In wr=>In.cell e1 y
      have i5:=fun y : In wr=>In.cell e2 y
      have i6:=fun y : In wr=>In.cell a2 y
      have i7:=fun y : In wr=>In.cell b2 y
      clear hcall hc hx hy d3 e3 hbw hFw hGw d0 d1 d2 e0 e1 e2
      cases c with
      | true =>
       go_wp2_with fail
       refine ed.wp_region_in (by kernel_rfl) (by kernel_rfl) ?_
       repeat (go_big_quiet_step (first | (go_at_call 20;refine ed.Calls.in_of (HC.out _ (In.h _)))))
       with_reducible refine wpQuiet_nil ?_
       rintro _ ⟨yy,rfl⟩
       go_wp2_with fail
       exact ⟨⟨j + 1,by omega,rfl,fun i x' y' hi h1 h2=>by
        by_cases hjk : i < j
        ·exact HEQ.out i x' y' hjk h1 h2
        ·obtain rfl : i = j:=by omega
         rw [HX.out] at h1;rw [HY.out] at h2
         cases h1;cases h2;exact HS.out,HW.out.trans (yy.h.mono HW.out.size)⟩,by simp [intOf];omega⟩
      | false =>
       obtain rfl : b = false:=by rw [HB.out];exact not_same HX.out HY.out HS.out
       go_wp2_with fail
       refine ed.wp_region_in (by kernel_rfl) (by kernel_rfl) ?_
       repeat (go_big_quiet_step (first | (go_at_call 20;refine ed.Calls.in_of (HC.out _ (In.h _)))))
       with_reducible refine wpQuiet_nil ?_
       rintro _ ⟨yy,rfl⟩
       go_wp2_with fail
       go_ret
       exact ⟨rfl,HB0.out.trans ((HW.out.trans (yy.h.mono HW.out.size)).mono HB0.out.size)⟩
     ·obtain rfl : j = m:=by omega
      have hge : decide ((j : Int) < (j : Int)) = false:=by simp
      obtain rfl : b = true:=by
       rw [HB.out]
       exact same_of (by rw [HL.out,HL2.out]) fun i x y h1 h2=>HEQ.out i x y (by have:=Fo.get_lt h1;rw [HL.out] at this;exact this) h1 h2
      go_wp2_with fail
      go_ret
      exact ⟨rfl,HB0.out.trans (hbw.mono HB0.out.size)⟩
   ·have hl1 : ((f.len : Int) == (g.len : Int)) = false:=beq_eq_false_iff_ne.2 (by omega)
    have hl2 : ((f.len : Int) != (g.len : Int)) = true:=by rw [bne,hl1];rfl
    obtain rfl : b = false:=by rw [hq,not_same_len hl];simp
    have HB:=hid hb0
    rw [← hW0] at HB
    clear hq hb hs hs2 hp hb0 hk1 hk2 a0 a1 a2 b0 b1 b2 hW0 hsz
    go_enter Tryz.func20,Tryz.ntmps20
    go_wp2_with fail
    go_ret
    exact ⟨rfl,HB.out⟩
  ·have hf : (t.toList == t2.toList) = false:=beq_eq_false_iff_ne.2 (fun e=>h2 (bytes_inj e))
   have hf2 : (t.toList != t2.toList) = true:=by rw [bne,hf];rfl
   obtain rfl : b = false:=by rw [hq,hf];simp
   have HB:=hid hb0
   rw [← hW0] at HB
   clear hq hb hs hs2 hp hb0 hk1 hk2 a0 a1 a2 b0 b1 b2 hW0 h2 hsz
   go_enter Tryz.func20,Tryz.ntmps20
   go_wp2_with fail
   go_ret
   exact ⟨rfl,HB.out⟩
 ·have hf : (k == k2) = false:=beq_eq_false_iff_ne.2 h1
  have hf2 : (k != k2) = true:=by rw [bne,hf];rfl
  obtain rfl : b = false:=by rw [hq,hf];simp
  have HB:=hid hb0
  rw [← hW0] at HB
  clear hq hb hs hs2 hp hb0 hk1 hk2 a0 a1 a2 b0 b1 b2 hW0 h1 hsz
  go_enter Tryz.func20,Tryz.ntmps20
  go_wp2_with fail
  go_ret
  exact ⟨rfl,HB.out⟩
end Go.Proofs.YtlklhkkjcfmefaaGreatDoor.nd
namespace Go.Proofs.YtlklhkkjcfmefaaGreatDoor.pr
open Go.Lib (hid)
open Go.RowKit Go.Shelf sx
attribute [local go_sem] Oper.semAt_some
def KT (n : Nat) (t : TypeId) (W W' : World) : Prop:=Below n W W' ∧ ∀ B vs,Blk W B t vs → Blk W' B t vs
theorem KT.trans {n : Nat} {t : TypeId} {A B C : World} (h : KT n t A B) (k : KT n t B C) : KT n t A C:=⟨h.1.trans k.1,fun b vs a=>k.2 b vs (h.2 b vs a)⟩
theorem KT.of_below {n : Nat} {t : TypeId} {W W' : World} (h : Below W.heap.size W W') (hn : n ≤ W.heap.size) : KT n t W W':=⟨h.mono hn,fun _ _ hb=>hb.own h⟩
theorem KT.put {n B : Nat} {t : TypeId} (hB : n ≤ B) (W : World) (l : Nat) (o o' : Obj) (hl : B ≤ l) (h : W.heap[l]? = some o) (hc : o.isCells = false) (hw : o.isWalk = false) : KT n t W (W.putObj l o') :=
 ⟨(Below.refl n W).grown (grownBy_putObj' W l o') (by have:=(Array.getElem?_eq_some_iff.1 h).1;omega) (fun j e=>by cases e;omega),fun b vs hb=>hb.kept (grownBy_putObj' _ l o') (fun e=>by cases e;rw [show W.heap[_]? = _ from hb] at h;cases h;cases hc)⟩
theorem wpListIn_load_val {F : Fence} {n : Nat} {P : Program} {w : World} {ops : Array Oper} {rest : List Oper} {o : Oper} {a : Act} {Q : Exit → Act → World → Prop}
  (hg : o.guard = none) (ty : TypeId) (x : Operand) (hop : o.op = Op.load ty x) (pv : Value) (hx : a.eval x = pv) (v : Value) (hld : (Instr.loadAt ty pv).run P w = .ok v w)
  (hK : wpListIn F n P ops Q rest (a.put o.dst v) w) : wpListIn F n P ops Q (o :: rest) a w:=by
 refine wpListIn_plain hg fun K' hK'=>?_
 unfold Oper.wpIn
 refine ⟨by simp [Oper.about,hop],?_⟩
 rw [Oper.semAt_plain F _ _ (by rw [hop];intro c hc';cases hc')]
 simp [execOp,hop,hx,hld,Result.andThen]
 exact hK' _ _ hK
theorem graded_in (n : Nat) (hn : 1 ≤ n) (l : Nat) (J : List Op → World → Prop) (w W : World) (hw : Below w.heap.size w W) (hL : LvAt w)
  (hY : ∀ pre x rest W,opsP = pre ++ x :: rest → J pre W → YieldAt Fence.wide (n - 1) Tryz.prog l (encO x) W fun e W'=>e = .returned (.bool true) ∧ J (pre ++ [x]) W' ∧ KT w.heap.size 216 W W')
  (hJ : AbidesFrom W.heap.size J) (h0 : J [] W) :
  CallsIn Fence.wide n Tryz.prog 264 #[.func (.yield l) #[] #[]] W fun e W'=>(∃ v,e = .returned v) ∧ J opsP W':=by
 obtain ⟨hG,Tl,hTz,hT,hLv⟩:=hL
 have hld : (Instr.loadAt 217 (.pointer (some ⟨2,0,none⟩))).run Tryz.prog W = .ok (.agg Tl.toArray) W :=
  run_loadAt_mid W 2 0 217 Tl (.array 9 216) (fun j v hj=>(hw.cell (p:=⟨2,0 + j,none⟩) hG).trans (hT j v hj)) Tryz.underlying217 rfl (by rw [hTz];kernel_rfl)
 obtain ⟨T,hTT⟩ : ∃ T,Tl.toArray = T:=⟨_,rfl⟩
 have hsz : T.size = 18:=by rw [← hTT];exact hTz
 have hat : ∀ m : Nat,m < 9 → ∃ g o c,(T[m * 2]? = some (.int .i64 (sideM m)) ∧ T[m * 2 + 1]? = some (.slice (some ⟨g,o,none⟩) (cnt m) c)) ∧ g < w.heap.size ∧ ∀ k,k < cnt m → w.cell? ⟨g,o + k,none⟩ = some (.string (txt (strt m + k))):=by
  intro m hm
  obtain ⟨h1,g,o,c,h2,h3,h4⟩:=hLv m hm
  rw [← hTT]
  exact ⟨g,o,c,⟨by simpa using h1,by simpa using h2⟩,h3,h4⟩
 rw [hTT] at hld
 have HAT:=hid hat;have HSZ:=hid hsz
 clear hat hLv hT hTz hTT hsz hG
 have hws:=hw.size
 have hJ2 : AbidesFrom W.heap.size J:=hJ
 refine callsIn_of_wp Tryz.func264 rfl trivial ?_ rfl
 simp only [Tryz.ntmps264,List.size_toArray,List.length_cons,List.length_nil,Nat.reduceAdd,Nat.reduceSub,Array.replicate_succ,Array.replicate_zero,List.push_toArray,List.append_toArray,List.nil_append,List.cons_append]
 gi_wp2_with (refine wpListIn_load_val rfl _ _ rfl _ rfl _ hld ?_)
 gi_loopw [7] (fun i wr=>∃ m : Nat,i = .int .i64 (m : Int) ∧ m ≤ 9 ∧ J (opsP.take (strt m)) wr ∧ Below w.heap.size w wr ∧ W.heap.size ≤ wr.heap.size) (fun i _=>9 - (intOf i).toNat)
 case atStart=>exact ⟨0,rfl,Nat.zero_le _,h0,hw,Nat.le_refl _⟩
 case round =>
  obtain ⟨m,rfl,hm,hJ1,hB,hS⟩:=hrel
  by_cases h : m < 9
  ·obtain ⟨g,o,c,⟨h1,h2⟩,hgl,hce⟩:=HAT.out m h
   have hix:=fun w=>run_level h HSZ.out h1 h2 w
   have hm9 : (m : Int) < 9:=by omega
   have HCE:=hid hce;have HIX:=hid hix
   clear h1 h2 hce hix
   gi_wp2_with fail
   rw [HIX.out]
   gi_wp2_with fail
   obtain ⟨wo,hwo⟩ : ∃ wo,(wr.alloc (.cells #[.int .i64 (sideM m),.slice (some ⟨g,o,none⟩) (cnt m) c] 216)) = wo:=⟨_,rfl⟩
   have hbo : Below wr.heap.size wr wo:=by rw [← hwo];exact (Below.refl _ wr).alloc (Nat.le_refl _) _
   have hko : Blk wo wr.heap.size 216 #[.int .i64 (sideM m),.slice (some ⟨g,o,none⟩) (cnt m) c]:=by rw [← hwo];exact Blk.new wr _ _
   have hJo : J (opsP.take (strt m)) wo:=abides_below hJ2 hJ1 hbo
   have hBo : Below w.heap.size w wo:=hB.trans (hbo.mono hB.size)
   have hSo : W.heap.size ≤ wo.heap.size:=Nat.le_trans hS hbo.size
   obtain ⟨b,hb⟩ : ∃ b,wr.heap.size = b:=⟨_,rfl⟩
   rw [hb] at hko
   have hcn:=cnt_le m h
   obtain ⟨N,hN⟩ : ∃ N,cnt m = N:=⟨_,rfl⟩
   obtain ⟨sd,hsd⟩ : ∃ sd,sideM m = sd:=⟨_,rfl⟩
   rw [hwo,hb,hN,hsd]
   rw [hN,hsd] at hko
   rw [hN] at hcn
   clear hwo hbo hJ1 hS hB
   gi_loopw [14] (fun i wx=>∃ k : Nat,i = .int .i64 (k : Int) ∧ k ≤ N ∧ J (opsP.take (strt m + k)) wx ∧ Below w.heap.size w wx ∧ W.heap.size ≤ wx.heap.size ∧ Blk wx b 216 #[.int .i64 sd,.slice (some ⟨g,o,none⟩) N c]) (fun i _=>N - (intOf i).toNat)
   case atStart=>exact ⟨0,rfl,Nat.zero_le _,hJo,hBo,hSo,hko⟩
   case round =>
    obtain ⟨k,rfl,hk,hJk,hBk,hSk,hKk⟩:=hrel
    by_cases hlt : k < N
    ·have hop:=ops_at h (k:=k) (by omega)
     obtain ⟨hsp,htk⟩:=ops_split hop
     rw [hsd] at hop hsp htk
     have hlt1 : (k : Int) < (N : Int):=by omega
     have hk8 : (k : Int) < 8:=by omega
     obtain ⟨fn,tmps,assign,body,hy,hR⟩:=hY _ _ _ _ hsp hJk
     rw [← htk] at hR
     have hcx:=(hBk.cell (p:=⟨g,o + k,none⟩) hgl).trans (HCE.out k (by omega))
     obtain ⟨s,hs⟩ : ∃ s,txt (strt m + k) = s:=⟨_,rfl⟩
     rw [hs] at hcx hy
     have hc0:=hKk.cell 0
     have HK:=hid hKk;have HB:=hid hBk;have HOP:=hid hsp;have HTK:=hid htk
     have HR:=hid hR;have HN:=hid hN;have HCN:=hid hcn;have HH:=hid h;have HSK:=hid hSk;have HJK:=hid hJk;have HWS:=hid hws;have HLT:=hid hlt
     clear hKk hBk hs hsp htk hop hR hN hcn hSk hJk hws hJo hBo hSo hko hsd HCE HAT HSZ hld hw hgl hlt hk hY
     dsimp only [encO] at hy
     gi_wp2_with fail
     refine HR.out.mono ?_
     rintro e W3 ⟨rfl,hJ3,hk3⟩
     gi_wp2_with fail
     go_roundw
     case rel =>
      have hK3:=hk3.2 _ _ HK.out
      have hB3:=HB.out.trans hk3.1
      have hS3 : W.heap.size ≤ W3.heap.size:=Nat.le_trans HSK.out hk3.1.size
      exact ⟨k + 1,by go_num,HLT.out,by rw [← Nat.add_assoc];exact hJ3,hB3,hS3,hK3⟩
     case measure =>
      have hlt:=HLT.out
      simp [intOf];omega
    ·obtain rfl : k = N:=by omega
     gi_wp2_with fail
     refine ⟨⟨m + 1,by go_num,by omega,?_,hBk,hSk⟩,by simp [intOf];omega⟩
     rw [← strt_next m h,hN]
     exact hJk
  ·have hd : m = 9:=by omega
   subst hd
   gi_wp2
   refine bodyPost_end (results_none rfl _ _ _) rfl ?_
   exact ⟨⟨_,rfl⟩,hJ1⟩
theorem graded_all (n : Nat) (hn : 1 ≤ n) (w : World) (hL : LvAt w) :
  SeqAll Fence.wide n Tryz.prog 264 #[] encO (KT w.heap.size 216) opsP w:=fun l J W hW hJ hY h0 =>
 graded_in n hn l J w W hW hL hY hJ h0
end Go.Proofs.YtlklhkkjcfmefaaGreatDoor.pr
namespace Go.Proofs.YtlklhkkjcfmefaaGreatDoor.sg
open Go.Lib (hid)
open Go.RowKit Go.Shelf
theorem Below.next {B : Nat} {w a b : World} (h : Below B w a) (k : Below a.heap.size a b) (hB : B ≤ w.heap.size) : Below B w b:=h.trans (k.mono (Nat.le_trans hB h.size))
theorem ext_size (s : ByteArray) (k : Nat) (hs : s.size ≤ 140737488351232) : (s.extract k s.size).size ≤ 140737488351232:=by rw [ByteArray.size_extract];omega
def WI (s : ByteArray) (a m f : Nat) : Prop:=(a + m ≤ s.size ∧ (m ≠ 0 → s.size ≤ f + (a + m))) ∧ (if m = 0 then a else a + m + Sg.tail f (s.data.toList.drop (a + m))) = Sg.word s.data.toList
theorem WI.start (s : ByteArray) : WI s 0 (Sg.simple s.data.toList) s.size:=by
 have hsl:=Sg.simple_le s.data.toList
 rw [lst_len] at hsl
 refine ⟨⟨by omega,fun _=>by omega⟩,?_⟩
 unfold Sg.word
 rw [Nat.zero_add,lst_len]
theorem WI.fin {s : ByteArray} {a f : Nat} (h : WI s a 0 f) : Sg.word s.data.toList = a:=by rw [← h.2,if_pos rfl]
theorem WI.step {s : ByteArray} {a m f : Nat} (h : WI s a m f) (h0 : m ≠ 0) : WI s (a + m) (Sg.further (s.data.toList.drop (a + m))) (f - 1):=by
 obtain ⟨⟨h1,h2⟩,hw⟩:=h
 rw [if_neg h0] at hw
 have hfl:=Sg.further_le (s.data.toList.drop (a + m))
 rw [List.length_drop,lst_len] at hfl
 have h2:=h2 h0
 refine ⟨⟨by omega,fun hk=>by omega⟩,?_⟩
 ·rw [← hw]
  cases f with
  | zero =>
   have : Sg.further (s.data.toList.drop (a + m)) = 0:=by omega
   rw [if_pos this];rfl
  | succ f =>
   rw [Nat.add_sub_cancel,show Sg.tail (f + 1) (s.data.toList.drop (a + m)) = (if Sg.further (s.data.toList.drop (a + m)) = 0 then 0 else Sg.further (s.data.toList.drop (a + m)) + Sg.tail f ((s.data.toList.drop (a + m)).drop (Sg.further (s.data.toList.drop (a + m))))) from rfl]
   split
   ·rfl
   ·rw [List.drop_drop,Nat.add_assoc (a + m)]
theorem word_calls (s : ByteArray) (hs : s.size ≤ 140737488351232) (w : World) :
  Calls Tryz.prog 174 #[.string s] w fun e w'=>e = .returned (.int .i64 (Sg.word s.data.toList : Nat)) ∧ w = w':=by
 have hsm:=simple_calls s hs w
 have hst:=hid (WI.start s)
 obtain ⟨k0,hk0⟩ : ∃ k,Sg.simple s.data.toList = k:=⟨_,rfl⟩
 rw [hk0] at hsm
 have HK:=hid hk0
 clear hk0
 go_enter Tryz.func174,Tryz.ntmps174
 go_wp2_with fail
 ((with_reducible refine hsm.mono ?_);rintro e w1 ⟨rfl,rfl⟩)
 go_wp2_with fail
 go_loopw [3,4] (fun n more wr=>∃ (a m f : Nat),n = .int .i64 (a : Int) ∧ more = .int .i64 (m : Int) ∧ WI s a m f ∧ wr = w) (fun n more _=>s.size + 1 - (intOf n).toNat)
 case atStart=>exact ⟨0,k0,s.size,rfl,rfl,HK.out ▸ hst.out,rfl⟩
 case round =>
  obtain ⟨a,m,f,rfl,rfl,hI,rfl⟩:=hrel
  have ham:=hI.1.1
  by_cases h0 : m = 0
  ·subst h0
   have HV:=hid hI.fin
   clear hI
   go_wp2_with fail
   go_ret
   exact ⟨by rw [HV.out];rfl,rfl⟩
  ·have HN:=hid (hI.step h0)
   have hfc:=further_calls (s.extract (a + m) s.size) (ext_size _ _ hs) wr
   rw [extract_drop] at hfc
   obtain ⟨k,hk⟩ : ∃ k,Sg.further (s.data.toList.drop (a + m)) = k:=⟨_,rfl⟩
   rw [hk] at hfc HN
   have h1 : (0 : Int) < (m : Int):=by omega
   have h3 : wrap64 ((a : Int) + (m : Int)) = ((a + m : Nat) : Int):=by rw [IntWalk.wrap64_in];rfl;omega
   have h3' : IntKind.i64.wrap ((a : Int) + (m : Int)) = ((a + m : Nat) : Int):=(IntWalk.i64_left _).trans h3
   have h4 : ((a + m : Nat) : Int) ≤ (s.size : Int):=by omega
   have h5 : (0 : Int) ≤ ((a + m : Nat) : Int):=by omega
   obtain ⟨b,hb⟩ : ∃ b,a + m = b:=⟨_,rfl⟩
   rw [hb] at hfc HN h3 h3' h4 h5
   clear hk hI
   go_wp2_with fail
   ((with_reducible refine hfc.mono ?_);rintro e w1 ⟨rfl,rfl⟩)
   go_wp2_with fail
   go_roundw
   case rel=>exact ⟨b,k,f - 1,by go_num,by go_num,HN.out,trivial⟩
   case measure=>simp [intOf];omega
end Go.Proofs.YtlklhkkjcfmefaaGreatDoor.sg
namespace Go.Proofs.YtlklhkkjcfmefaaGreatDoor.Lx
open Go.RowKit (wrap64)
open Sg (run cB cW cD cL cH at')
theorem pre_take (l o : List UInt8) (m : Nat) : Lib.hasPrefix (l.take m) o = (decide (o.length ≤ m) && Lib.hasPrefix l o):=by
 rw [Bool.eq_iff_iff,Bool.and_eq_true,decide_eq_true_eq]
 unfold Lib.hasPrefix
 rw [List.isPrefixOf_iff_prefix,List.isPrefixOf_iff_prefix]
 constructor
 ·intro h
  have h1:=h.length_le
  rw [List.length_take] at h1
  exact ⟨by omega,h.trans (List.take_prefix m l)⟩
 ·rintro ⟨h1,h2⟩
  exact List.prefix_take_iff.2 ⟨h2,h1⟩
theorem size_le (x : Lex) (l : List UInt8) : size (lexA x l).1 ≤ l.length:=by
 generalize hn : l.length = n
 induction n using Nat.strongRecOn generalizing l x with
 | ind n ih =>
  subst hn
  by_cases h0 : l = []
  ·subst h0;rw [lexA_nil];exact Nat.le_refl _
  ·cases hx : next x l with
   | error e=>rw [lexA_err hx h0];exact Nat.zero_le _
   | ok p =>
    obtain ⟨k,n,y⟩:=p
    have hl:=next_le hx
    have:=ih (l.drop n).length (by rw [List.length_drop];omega) y (l.drop n) rfl
    rw [lexA_ok hx h0]
    simp only [size,List.map_cons,List.sum_cons,List.length_take]
    rw [List.length_drop] at this
    unfold size at this
    omega
theorem asc_L (n : Int) (h : cL n = true) : n < 128:=by
 unfold cL at h
 simp only [Bool.or_eq_true,Bool.and_eq_true,decide_eq_true_eq,beq_iff_eq] at h
 omega
theorem asc_B (n : Int) (h : cB n = true) : n < 128:=by
 unfold cB at h
 simp only [Bool.or_eq_true,beq_iff_eq] at h
 omega
theorem at_get {p : Int → Bool} {l : List UInt8} {k : Nat} (h : at' p l k = true) : p ((l.getD k 0).toNat : Int) = true:=by
 unfold at' at h;rw [Bool.and_eq_true] at h;exact h.2
theorem next_find {x y : Lex} {l : List UInt8} {k : Int} {n : Nat} (h : next x l = .ok (k,n,y)) : find (tried x) l = some (k,n) ∧ turn x k (l.take n) = .ok y:=by
 unfold next at h
 cases hf : find (tried x) l with
 | none=>rw [hf] at h;cases h
 | some p =>
  obtain ⟨k',n'⟩:=p
  rw [hf] at h
  simp only at h
  cases ht : turn x k' (l.take n') with
  | error e=>rw [ht] at h;cases h
  | ok z=>rw [ht] at h;cases h;exact ⟨rfl,ht⟩
end Go.Proofs.YtlklhkkjcfmefaaGreatDoor.Lx
