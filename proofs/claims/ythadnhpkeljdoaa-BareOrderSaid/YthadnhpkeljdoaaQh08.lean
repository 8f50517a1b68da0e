/- Ground of the law: PaWt, PvF, PaMono, SgOper, NdCopy, SgKey. -/
import Derived.Test.YthadnhpkeljdoaaQh06
import Derived.Test.YthadnhpkeljdoaaQh07
import Derived.Laws.Rows
import Derived.RangeFuncNested
import Derived.RangeFuncBound
import Derived.RangeFuncCalls
import Derived.RangeFuncLeaves
import Derived.RangeFuncBox
import Derived.RegionTactic
import Derived.OwnWalkIn
import Derived.TacticsInMore
import Derived.LoopNIn
import Derived.LoopIn
import Derived.ChangeAlike
import Derived.Deep.MidRow
import Derived.Test.YthadnhpkeljdoaaQh01
import Derived.Deep.RegionHeld3
import Derived.Deep.AppendLies
import Derived.Maps.OwnSet
import Derived.StringKeys
set_option maxRecDepth 100000
set_option maxHeartbeats 8000000
set_option linter.unusedVariables false
set_option linter.unusedSimpArgs false
namespace Go.Proofs.Ythadnhpkeljdoaa.pa
open Go.RowKit nd pr
def C : List Tk → Nat
  | []=>0
  | t :: r=>6 + t.2.size + C r
abbrev wN (x : Nd) : Nat:=x.weight
abbrev wL (l : List Nd) : Nat:=(Fo.ofL l).weight
abbrev wK (x : Nd × Bool) : Nat:=x.1.weight + 2
abbrev wS (x : Nd) : Nat:=x.weight + 2
abbrev wE (l : List Nd) : Nat:=(Fo.ofL l).weight + 2
theorem wl_nil : (Fo.ofL []).weight = 0:=rfl
theorem wl_cons (x : Nd) (l : List Nd) : (Fo.ofL (x :: l)).weight = x.weight + (Fo.ofL l).weight:=by simp [Fo.ofL,Fo.weight,Nd.weight];try omega
theorem wl_app (a b : List Nd) : (Fo.ofL (a ++ b)).weight = (Fo.ofL a).weight + (Fo.ofL b).weight:=by rw [Fo.ofL_append,Fo.weight_app]
theorem w_mk (k : Int) (t : ByteArray) (l : List Nd) : (mk k t l).weight = 1 + t.size + (Fo.ofL l).weight:=rfl
theorem w_none : none0.weight = 1:=rfl
theorem cut_size (s : ByteArray) : (cut s).size = s.size - 1:=by unfold cut;simp
theorem sz_e : eB.size = 0:=rfl
theorem sz_else : welse.size = 4:=rfl
theorem sz_bar : bar.size = 1:=rfl
theorem sz_dot : dot.size = 1:=rfl
def OkW {α : Type} (p : Pa α) (w : α → Nat) (r : List Tk) (B : Nat) : Prop:=∀ r' x,p.run r = some (.ok r' x) → w x + C r' ≤ B
section
variable {α β : Type} {w : α → Nat}
theorem OkW.mono {p : Pa α} {r : List Tk} {B D : Nat} (h : OkW p w r B) (hb : B ≤ D) : OkW p w r D:=fun r' x e=>Nat.le_trans (h r' x e) hb
theorem OkW.slack {p : Pa α} {w' : α → Nat} {r : List Tk} {B D : Nat} (h : OkW p w r B) (hb : ∀ x c,w x + c ≤ B → w' x + c ≤ D) : OkW p w' r D:=fun r' x e=>hb x _ (h r' x e)
theorem v_ret {x : α} {r : List Tk} {B : Nat} (h : w x + C r ≤ B) : OkW (.ret x) w r B:=fun r' y e=>by cases e;exact h
theorem v_bad {r : List Tk} {B : Nat} : OkW (.bad : Pa α) w r B:=fun r' y e=>by cases e
theorem v_bind {p : Pa β} {u : β → Nat} {f : β → Pa α} {r : List Tk} {B D : Nat} (h : OkW p u r B) (hf : ∀ r' x,u x + C r' ≤ B → OkW (f x) w r' D) : OkW (p.bind f) w r D:=by
  intro r' y e
  rw [Pa.run_bind] at e
  cases hp : p.run r with
  | none=>rw [hp] at e;cases e
  | some o =>
    rw [hp] at e
    cases o with
    | bad r1=>cases e
    | ok r1 x=>exact hf r1 x (h r1 x hp) r' y e
theorem v_look {k : Tk → Pa α} {r : List Tk} {B : Nat} (h0 : r = [] → OkW (k noTk) w [] B) (h1 : ∀ t r',r = t :: r' → OkW (k t) w (t :: r') B) : OkW (.look k) w r B:=by
  cases r with
  | nil=>exact h0 rfl
  | cons t r'=>exact h1 t r' rfl
theorem v_peek {k : Tk → Pa α} {r : List Tk} {B : Nat} (h : ∀ t,OkW (k t) w r B) : OkW (.peek k) w r B:=h _
theorem v_ended {k : Bool → Pa α} {r : List Tk} {B : Nat} (h : ∀ z,OkW (k z) w r B) : OkW (.ended k) w r B:=h _
theorem v_move {k : Pa α} {t : Tk} {r : List Tk} {B : Nat} (h : OkW k w r B) : OkW (.move k) w (t :: r) B:=h
theorem v_move0 {k : Pa α} {B : Nat} (h : OkW k w [] B) : OkW (.move k) w [] B:=h
theorem v_need {s : ByteArray} {k : Pa α} {r : List Tk} {B : Nat} (h : ∀ t r',r = t :: r' → OkW k w r' B) : OkW (need s k) w r B :=
  v_look (fun e=>by simp only [op_no,word_no];exact v_bad) (fun t r' e=>by split;exact h t r' e;exact v_bad)
theorem v_one {kd : Int} {k : Pa α} {r : List Tk} {B : Nat} (hk : ((0 : Int) == kd) = false) (h : ∀ t r',r = t :: r' → OkW k w r' B) : OkW (one kd k) w r B :=
  v_look (fun e=>by show OkW (if ((0 : Int) == kd) = true then _ else _) _ _ _;rw [hk];exact v_bad) (fun t r' e=>by split;exact h t r' e;exact v_bad)
theorem v_text {kd : Int} {k : ByteArray → Pa α} {r : List Tk} {B : Nat} (hk : ((0 : Int) == kd) = false) (h : ∀ s t r',s.size = t.2.size - 1 → r = t :: r' → OkW (k s) w r' B) : OkW (text kd k) w r B :=
  v_look (fun e=>by show OkW (if ((0 : Int) == kd) = true then _ else _) _ _ _;rw [hk];exact v_bad) (fun t r' e=>by split;exact h _ t r' (cut_size _) e;exact v_bad)
theorem v_name {k : ByteArray → Pa α} {r : List Tk} {B : Nat} (h : ∀ s t r',s.size = t.2.size → r = t :: r' → OkW (k s) w r' B) : OkW (name k) w r B :=
  v_look (fun e=>by simp only [plain_no];exact v_bad) (fun t r' e=>by split;exact h _ t r' rfl e;exact v_bad)
theorem v_no {b : Bool} {p q : Pa α} {r : List Tk} {B : Nat} (hb : b = false) (h : OkW q w r B) : OkW (if b = true then p else q) w r B:=by rw [hb];exact h
theorem v_if {c : Prop} [Decidable c] {p q : Pa α} {r : List Tk} {B : Nat} (h1 : c → OkW p w r B) (h2 : ¬ c → OkW q w r B) : OkW (if c then p else q) w r B:=by
  split
  · exact h1 (by assumption)
  · exact h2 (by assumption)
end
def wt : (f : Fn) → Res f → Nat
  | .exp _=>wN
  | .expL _ _ _=>wN
  | .operand=>wN
  | .params=>wL
  | .deff _=>wN
  | .within _ _=>wN
  | .slice _ _ _=>wN
  | .post=>wN
  | .postL _=>wN
  | .str=>wS
  | .strF _=>wS
  | .strL=>wL
  | .term=>wN
  | .bracket=>wN
  | .pairs=>wL
  | .worded=>wN
  | .args=>wL
  | .ifs=>wL
  | .fold _ _=>wN
  | .key _=>wK
  | .pair=>wN
  | .value=>wN
  | .unit=>wN
  | .keypat=>wN
  | .pattern=>wN
  | .elems _=>wE
  | .bring=>wN
  | .plainL=>wL
  | .brings=>wL
  | .program=>wN
def cost : Fn → Nat
  | .exp l=>0
  | .expL l x b=>x.weight
  | .operand=>0
  | .params=>0
  | .deff b=>0
  | .within x d=>(x.weight + d.size)
  | .slice x f d=>(x.weight + f.weight + d.size)
  | .post=>0
  | .postL x=>x.weight
  | .str=>0
  | .strF f=>f.size
  | .strL=>0
  | .term=>0
  | .bracket=>0
  | .pairs=>0
  | .worded=>0
  | .args=>0
  | .ifs=>0
  | .fold k b=>0
  | .key p=>0
  | .pair=>0
  | .value=>0
  | .unit=>0
  | .keypat=>0
  | .pattern=>0
  | .elems b=>0
  | .bring=>0
  | .plainL=>0
  | .brings=>0
  | .program=>2
def AllV (rec : (f : Fn) → Pa (Res f)) : Prop:=∀ f r,(wants f = true → r ≠ []) → OkW (rec f) (wt f) r (C r + cost f)
theorem wtext_le (t : Tk) : (textOf t.1 t.2).size ≤ t.2.size:=by
  unfold textOf
  split
  · exact Nat.le_refl _
  · exact Nat.zero_le _
theorem step_expL {rec : (f : Fn) → Pa (Res f)} (h_exp : ∀ (l : Int) (r : List Tk),OkW (rec (.exp l) : Pa Nd) wN r (C r + 0)) (h_expL : ∀ (l : Int) (x : Nd) (b : Int) (r : List Tk),OkW (rec (.expL l x b) : Pa Nd) wN r (C r + x.weight)) (l : Int) (x : Nd) (b : Int) (r : List Tk) : OkW (step rec (.expL l x b) : Pa Nd) wN r (C r + x.weight):=by
  simp only [step]
  refine v_look (fun hr=>?_) (fun t r' hr=>?_)
  · subst hr
    have e:=lv_no
    split
    · exact v_bad
    · exact v_ret (by simp [C])
  · subst hr
    have ht:=wtext_le t
    split
    · exact v_bad
    · split
      · exact v_ret (by show x.weight + _ ≤ _;omega)
      · refine v_move (v_bind (h_exp _ _) fun r1 y hy=>(h_expL _ _ _ r1).mono ?_)
        have hy : y.weight + C r1 ≤ C r' + 0:=hy
        simp only [w_mk,wl_nil,wl_cons,C]
        omega
theorem step_v {rec : (f : Fn) → Pa (Res f)} (ih : AllV rec) : AllV (step rec):=by
  intro f r hw
  have h_exp : ∀ (l : Int) (r : List Tk),OkW (rec (.exp l) : Pa (Nd)) wN r (C r + 0):=fun l r=>ih (.exp l) r (fun e=>by cases e)
  have h_expL : ∀ (l : Int) (x : Nd) (b : Int) (r : List Tk),OkW (rec (.expL l x b) : Pa (Nd)) wN r (C r + x.weight):=fun l x b r=>ih (.expL l x b) r (fun e=>by cases e)
  have h_operand : ∀ (r : List Tk),OkW (rec (.operand) : Pa (Nd)) wN r (C r + 0):=fun r=>ih (.operand) r (fun e=>by cases e)
  have h_params : ∀ (r : List Tk),OkW (rec (.params) : Pa (List Nd)) wL r (C r + 0):=fun r=>ih (.params) r (fun e=>by cases e)
  have h_deff : ∀ (b : Bool) (r : List Tk),r ≠ [] → OkW (rec (.deff b) : Pa (Nd)) wN r (C r + 0):=fun b r hr=>ih (.deff b) r (fun _=>hr)
  have h_within : ∀ (x : Nd) (d : ByteArray) (r : List Tk),OkW (rec (.within x d) : Pa (Nd)) wN r (C r + (x.weight + d.size)):=fun x d r=>ih (.within x d) r (fun e=>by cases e)
  have h_slice : ∀ (x : Nd) (f : Nd) (d : ByteArray) (r : List Tk),OkW (rec (.slice x f d) : Pa (Nd)) wN r (C r + (x.weight + f.weight + d.size)):=fun x f d r=>ih (.slice x f d) r (fun e=>by cases e)
  have h_post : ∀ (r : List Tk),OkW (rec (.post) : Pa (Nd)) wN r (C r + 0):=fun r=>ih (.post) r (fun e=>by cases e)
  have h_postL : ∀ (x : Nd) (r : List Tk),OkW (rec (.postL x) : Pa (Nd)) wN r (C r + x.weight):=fun x r=>ih (.postL x) r (fun e=>by cases e)
  have h_str : ∀ (r : List Tk),OkW (rec (.str) : Pa (Nd)) wS r (C r + 0):=fun r=>ih (.str) r (fun e=>by cases e)
  have h_strF : ∀ (f : ByteArray) (r : List Tk),OkW (rec (.strF f) : Pa (Nd)) wS r (C r + f.size):=fun f r=>ih (.strF f) r (fun e=>by cases e)
  have h_strL : ∀ (r : List Tk),OkW (rec (.strL) : Pa (List Nd)) wL r (C r + 0):=fun r=>ih (.strL) r (fun e=>by cases e)
  have h_term : ∀ (r : List Tk),OkW (rec (.term) : Pa (Nd)) wN r (C r + 0):=fun r=>ih (.term) r (fun e=>by cases e)
  have h_bracket : ∀ (r : List Tk),OkW (rec (.bracket) : Pa (Nd)) wN r (C r + 0):=fun r=>ih (.bracket) r (fun e=>by cases e)
  have h_pairs : ∀ (r : List Tk),OkW (rec (.pairs) : Pa (List Nd)) wL r (C r + 0):=fun r=>ih (.pairs) r (fun e=>by cases e)
  have h_worded : ∀ (r : List Tk),r ≠ [] → OkW (rec (.worded) : Pa (Nd)) wN r (C r + 0):=fun r hr=>ih (.worded) r (fun _=>hr)
  have h_args : ∀ (r : List Tk),r ≠ [] → OkW (rec (.args) : Pa (List Nd)) wL r (C r + 0):=fun r hr=>ih (.args) r (fun _=>hr)
  have h_ifs : ∀ (r : List Tk),OkW (rec (.ifs) : Pa (List Nd)) wL r (C r + 0):=fun r=>ih (.ifs) r (fun e=>by cases e)
  have h_fold : ∀ (k : Int) (b : Bool) (r : List Tk),OkW (rec (.fold k b) : Pa (Nd)) wN r (C r + 0):=fun k b r=>ih (.fold k b) r (fun e=>by cases e)
  have h_key : ∀ (p : Bool) (r : List Tk),OkW (rec (.key p) : Pa (Nd × Bool)) wK r (C r + 0):=fun p r=>ih (.key p) r (fun e=>by cases e)
  have h_pair : ∀ (r : List Tk),OkW (rec (.pair) : Pa (Nd)) wN r (C r + 0):=fun r=>ih (.pair) r (fun e=>by cases e)
  have h_value : ∀ (r : List Tk),OkW (rec (.value) : Pa (Nd)) wN r (C r + 0):=fun r=>ih (.value) r (fun e=>by cases e)
  have h_unit : ∀ (r : List Tk),OkW (rec (.unit) : Pa (Nd)) wN r (C r + 0):=fun r=>ih (.unit) r (fun e=>by cases e)
  have h_keypat : ∀ (r : List Tk),OkW (rec (.keypat) : Pa (Nd)) wN r (C r + 0):=fun r=>ih (.keypat) r (fun e=>by cases e)
  have h_pattern : ∀ (r : List Tk),OkW (rec (.pattern) : Pa (Nd)) wN r (C r + 0):=fun r=>ih (.pattern) r (fun e=>by cases e)
  have h_elems : ∀ (b : Bool) (r : List Tk),r ≠ [] → OkW (rec (.elems b) : Pa (List Nd)) wE r (C r + 0):=fun b r hr=>ih (.elems b) r (fun _=>hr)
  have h_bring : ∀ (r : List Tk),r ≠ [] → OkW (rec (.bring) : Pa (Nd)) wN r (C r + 0):=fun r hr=>ih (.bring) r (fun _=>hr)
  have h_plainL : ∀ (r : List Tk),OkW (rec (.plainL) : Pa (List Nd)) wL r (C r + 0):=fun r=>ih (.plainL) r (fun e=>by cases e)
  have h_brings : ∀ (r : List Tk),OkW (rec (.brings) : Pa (List Nd)) wL r (C r + 0):=fun r=>ih (.brings) r (fun e=>by cases e)
  clear ih
  cases f
  case' deff top=>cases top
  case' elems b=>cases b
  all_goals first | (have hr:=hw rfl;obtain ⟨t0,r0,rfl⟩:=List.exists_cons_of_ne_nil hr;clear hr) | skip
  all_goals clear hw
  all_goals simp only [step,wt,cost]
  case' expL l x b=>exact step_expL h_exp h_expL l x b r
  all_goals
    repeat (first
      | exact v_bad
      | (with_reducible refine v_ret ?_);((try split) <;> ((try simp only [w_mk,wl_nil,wl_cons,wl_app,w_none,cut_size,sz_e,sz_else,sz_bar,sz_dot,C,wN,wL,wK,wS,wE] at *);omega))
      | (with_reducible refine v_need (fun _ _ hr=>?_)) <;> cases hr
      | (with_reducible refine v_one rfl (fun _ _ hr=>?_)) <;> cases hr
      | (with_reducible refine v_text rfl (fun _ _ _ _ hr=>?_)) <;> cases hr
      | (with_reducible refine v_name (fun _ _ _ _ hr=>?_)) <;> cases hr
      | (with_reducible refine v_look (fun hr=>?_) (fun _ _ hr=>?_)) <;> cases hr
      | with_reducible refine v_peek (fun _=>?_)
      | with_reducible refine v_ended (fun _=>?_)
      | with_reducible refine v_move ?_
      | with_reducible refine v_move0 ?_
      | (simp only [op_no,word_no,plain_no,Bool.and_false,Bool.or_false,Bool.or_self,Bool.false_eq_true,if_false])
      | (simp only [ite_bind,look_bind,ret_bind,move_bind])
      | refine v_no rfl ?_
      | refine v_if (fun _=>?_) (fun _=>?_)
      | with_reducible refine v_bind (h_exp _ _) (fun _ _ _=>?_)
      | (with_reducible refine OkW.slack (h_exp _ _) (fun _ _ _=>?_)) <;> ((try simp only [w_mk,wl_nil,wl_cons,wl_app,w_none,cut_size,sz_e,sz_else,sz_bar,sz_dot,C,wN,wL,wK,wS,wE] at *);omega)
      | with_reducible refine v_bind (h_expL _ _ _ _) (fun _ _ _=>?_)
      | (with_reducible refine OkW.slack (h_expL _ _ _ _) (fun _ _ _=>?_)) <;> ((try simp only [w_mk,wl_nil,wl_cons,wl_app,w_none,cut_size,sz_e,sz_else,sz_bar,sz_dot,C,wN,wL,wK,wS,wE] at *);omega)
      | with_reducible refine v_bind (h_operand _) (fun _ _ _=>?_)
      | (with_reducible refine OkW.slack (h_operand _) (fun _ _ _=>?_)) <;> ((try simp only [w_mk,wl_nil,wl_cons,wl_app,w_none,cut_size,sz_e,sz_else,sz_bar,sz_dot,C,wN,wL,wK,wS,wE] at *);omega)
      | with_reducible refine v_bind (h_params _) (fun _ _ _=>?_)
      | (with_reducible refine OkW.slack (h_params _) (fun _ _ _=>?_)) <;> ((try simp only [w_mk,wl_nil,wl_cons,wl_app,w_none,cut_size,sz_e,sz_else,sz_bar,sz_dot,C,wN,wL,wK,wS,wE] at *);omega)
      | with_reducible refine v_bind (h_deff _ _ (by simp)) (fun _ _ _=>?_)
      | (with_reducible refine OkW.slack (h_deff _ _ (by simp)) (fun _ _ _=>?_)) <;> ((try simp only [w_mk,wl_nil,wl_cons,wl_app,w_none,cut_size,sz_e,sz_else,sz_bar,sz_dot,C,wN,wL,wK,wS,wE] at *);omega)
      | with_reducible refine v_bind (h_within _ _ _) (fun _ _ _=>?_)
      | (with_reducible refine OkW.slack (h_within _ _ _) (fun _ _ _=>?_)) <;> ((try simp only [w_mk,wl_nil,wl_cons,wl_app,w_none,cut_size,sz_e,sz_else,sz_bar,sz_dot,C,wN,wL,wK,wS,wE] at *);omega)
      | with_reducible refine v_bind (h_slice _ _ _ _) (fun _ _ _=>?_)
      | (with_reducible refine OkW.slack (h_slice _ _ _ _) (fun _ _ _=>?_)) <;> ((try simp only [w_mk,wl_nil,wl_cons,wl_app,w_none,cut_size,sz_e,sz_else,sz_bar,sz_dot,C,wN,wL,wK,wS,wE] at *);omega)
      | with_reducible refine v_bind (h_post _) (fun _ _ _=>?_)
      | (with_reducible refine OkW.slack (h_post _) (fun _ _ _=>?_)) <;> ((try simp only [w_mk,wl_nil,wl_cons,wl_app,w_none,cut_size,sz_e,sz_else,sz_bar,sz_dot,C,wN,wL,wK,wS,wE] at *);omega)
      | with_reducible refine v_bind (h_postL _ _) (fun _ _ _=>?_)
      | (with_reducible refine OkW.slack (h_postL _ _) (fun _ _ _=>?_)) <;> ((try simp only [w_mk,wl_nil,wl_cons,wl_app,w_none,cut_size,sz_e,sz_else,sz_bar,sz_dot,C,wN,wL,wK,wS,wE] at *);omega)
      | with_reducible refine v_bind (h_str _) (fun _ _ _=>?_)
      | (with_reducible refine OkW.slack (h_str _) (fun _ _ _=>?_)) <;> ((try simp only [w_mk,wl_nil,wl_cons,wl_app,w_none,cut_size,sz_e,sz_else,sz_bar,sz_dot,C,wN,wL,wK,wS,wE] at *);omega)
      | with_reducible refine v_bind (h_strF _ _) (fun _ _ _=>?_)
      | (with_reducible refine OkW.slack (h_strF _ _) (fun _ _ _=>?_)) <;> ((try simp only [w_mk,wl_nil,wl_cons,wl_app,w_none,cut_size,sz_e,sz_else,sz_bar,sz_dot,C,wN,wL,wK,wS,wE] at *);omega)
      | with_reducible refine v_bind (h_strL _) (fun _ _ _=>?_)
      | (with_reducible refine OkW.slack (h_strL _) (fun _ _ _=>?_)) <;> ((try simp only [w_mk,wl_nil,wl_cons,wl_app,w_none,cut_size,sz_e,sz_else,sz_bar,sz_dot,C,wN,wL,wK,wS,wE] at *);omega)
      | with_reducible refine v_bind (h_term _) (fun _ _ _=>?_)
      | (with_reducible refine OkW.slack (h_term _) (fun _ _ _=>?_)) <;> ((try simp only [w_mk,wl_nil,wl_cons,wl_app,w_none,cut_size,sz_e,sz_else,sz_bar,sz_dot,C,wN,wL,wK,wS,wE] at *);omega)
      | with_reducible refine v_bind (h_bracket _) (fun _ _ _=>?_)
      | (with_reducible refine OkW.slack (h_bracket _) (fun _ _ _=>?_)) <;> ((try simp only [w_mk,wl_nil,wl_cons,wl_app,w_none,cut_size,sz_e,sz_else,sz_bar,sz_dot,C,wN,wL,wK,wS,wE] at *);omega)
      | with_reducible refine v_bind (h_pairs _) (fun _ _ _=>?_)
      | (with_reducible refine OkW.slack (h_pairs _) (fun _ _ _=>?_)) <;> ((try simp only [w_mk,wl_nil,wl_cons,wl_app,w_none,cut_size,sz_e,sz_else,sz_bar,sz_dot,C,wN,wL,wK,wS,wE] at *);omega)
      | with_reducible refine v_bind (h_worded _ (by simp)) (fun _ _ _=>?_)
      | (with_reducible refine OkW.slack (h_worded _ (by simp)) (fun _ _ _=>?_)) <;> ((try simp only [w_mk,wl_nil,wl_cons,wl_app,w_none,cut_size,sz_e,sz_else,sz_bar,sz_dot,C,wN,wL,wK,wS,wE] at *);omega)
      | with_reducible refine v_bind (h_args _ (by simp)) (fun _ _ _=>?_)
      | (with_reducible refine OkW.slack (h_args _ (by simp)) (fun _ _ _=>?_)) <;> ((try simp only [w_mk,wl_nil,wl_cons,wl_app,w_none,cut_size,sz_e,sz_else,sz_bar,sz_dot,C,wN,wL,wK,wS,wE] at *);omega)
      | with_reducible refine v_bind (h_ifs _) (fun _ _ _=>?_)
      | (with_reducible refine OkW.slack (h_ifs _) (fun _ _ _=>?_)) <;> ((try simp only [w_mk,wl_nil,wl_cons,wl_app,w_none,cut_size,sz_e,sz_else,sz_bar,sz_dot,C,wN,wL,wK,wS,wE] at *);omega)
      | with_reducible refine v_bind (h_fold _ _ _) (fun _ _ _=>?_)
      | (with_reducible refine OkW.slack (h_fold _ _ _) (fun _ _ _=>?_)) <;> ((try simp only [w_mk,wl_nil,wl_cons,wl_app,w_none,cut_size,sz_e,sz_else,sz_bar,sz_dot,C,wN,wL,wK,wS,wE] at *);omega)
      | with_reducible refine v_bind (h_key _ _) (fun _ _ _=>?_)
      | (with_reducible refine OkW.slack (h_key _ _) (fun _ _ _=>?_)) <;> ((try simp only [w_mk,wl_nil,wl_cons,wl_app,w_none,cut_size,sz_e,sz_else,sz_bar,sz_dot,C,wN,wL,wK,wS,wE] at *);omega)
      | with_reducible refine v_bind (h_pair _) (fun _ _ _=>?_)
      | (with_reducible refine OkW.slack (h_pair _) (fun _ _ _=>?_)) <;> ((try simp only [w_mk,wl_nil,wl_cons,wl_app,w_none,cut_size,sz_e,sz_else,sz_bar,sz_dot,C,wN,wL,wK,wS,wE] at *);omega)
      | with_reducible refine v_bind (h_value _) (fun _ _ _=>?_)
      | (with_reducible refine OkW.slack (h_value _) (fun _ _ _=>?_)) <;> ((try simp only [w_mk,wl_nil,wl_cons,wl_app,w_none,cut_size,sz_e,sz_else,sz_bar,sz_dot,C,wN,wL,wK,wS,wE] at *);omega)
      | with_reducible refine v_bind (h_unit _) (fun _ _ _=>?_)
      | (with_reducible refine OkW.slack (h_unit _) (fun _ _ _=>?_)) <;> ((try simp only [w_mk,wl_nil,wl_cons,wl_app,w_none,cut_size,sz_e,sz_else,sz_bar,sz_dot,C,wN,wL,wK,wS,wE] at *);omega)
      | with_reducible refine v_bind (h_keypat _) (fun _ _ _=>?_)
      | (with_reducible refine OkW.slack (h_keypat _) (fun _ _ _=>?_)) <;> ((try simp only [w_mk,wl_nil,wl_cons,wl_app,w_none,cut_size,sz_e,sz_else,sz_bar,sz_dot,C,wN,wL,wK,wS,wE] at *);omega)
      | with_reducible refine v_bind (h_pattern _) (fun _ _ _=>?_)
      | (with_reducible refine OkW.slack (h_pattern _) (fun _ _ _=>?_)) <;> ((try simp only [w_mk,wl_nil,wl_cons,wl_app,w_none,cut_size,sz_e,sz_else,sz_bar,sz_dot,C,wN,wL,wK,wS,wE] at *);omega)
      | with_reducible refine v_bind (h_elems _ _ (by simp)) (fun _ _ _=>?_)
      | (with_reducible refine OkW.slack (h_elems _ _ (by simp)) (fun _ _ _=>?_)) <;> ((try simp only [w_mk,wl_nil,wl_cons,wl_app,w_none,cut_size,sz_e,sz_else,sz_bar,sz_dot,C,wN,wL,wK,wS,wE] at *);omega)
      | with_reducible refine v_bind (h_bring _ (by simp)) (fun _ _ _=>?_)
      | (with_reducible refine OkW.slack (h_bring _ (by simp)) (fun _ _ _=>?_)) <;> ((try simp only [w_mk,wl_nil,wl_cons,wl_app,w_none,cut_size,sz_e,sz_else,sz_bar,sz_dot,C,wN,wL,wK,wS,wE] at *);omega)
      | with_reducible refine v_bind (h_plainL _) (fun _ _ _=>?_)
      | (with_reducible refine OkW.slack (h_plainL _) (fun _ _ _=>?_)) <;> ((try simp only [w_mk,wl_nil,wl_cons,wl_app,w_none,cut_size,sz_e,sz_else,sz_bar,sz_dot,C,wN,wL,wK,wS,wE] at *);omega)
      | with_reducible refine v_bind (h_brings _) (fun _ _ _=>?_)
      | (with_reducible refine OkW.slack (h_brings _) (fun _ _ _=>?_)) <;> ((try simp only [w_mk,wl_nil,wl_cons,wl_app,w_none,cut_size,sz_e,sz_else,sz_bar,sz_dot,C,wN,wL,wK,wS,wE] at *);omega))
theorem go_v : ∀ n,AllV (go n)
  | 0=>fun f r _ r' x e=>by cases e
  | n + 1=>step_v (go_v n)
theorem parse_weight (l : List Tk) : (parse l).1.weight ≤ C l + 2:=by
  unfold parse
  split
  · rw [w_none];omega
  · split
    · next r x h=>exact Nat.le_trans (Nat.le_add_right _ _) (go_v _ .program l (fun e=>by cases e) r x h)
    · rw [w_none];omega
    · rw [w_none];omega
end Go.Proofs.Ythadnhpkeljdoaa.pa
namespace Go.Proofs.Ythadnhpkeljdoaa.pv
open Go.RowKit
theorem look_cw_in (b : Nat) : ∀ (l : List D) (o : Nat) (m : Mem) (i : Nat) (h : i < l.length),look (cw b o l ++ m) (b + 2) (o + i) = l[i]'h
  | d :: r,o,m,0,h=>by simp [cw,look]
  | d :: r,o,m,i + 1,h=>by
    have:=look_cw_in b r (o + 1) m i (by simpa using h)
    have hne : Nat.beq o (o + (i + 1)) = false:=by
      rw [Bool.eq_false_iff];intro e;have:=Nat.eq_of_beq_eq_true e;omega
    simp only [cw,List.cons_append,look,hne,Bool.and_false,cond_false,List.getElem_cons_succ]
    rw [← this,show o + 1 + i = o + (i + 1) by omega]
theorem look_cw_out (b : Nat) : ∀ (l : List D) (o : Nat) (m : Mem) (x y : Nat),(x ≠ b + 2 ∨ y < o ∨ o + l.length ≤ y) → look (cw b o l ++ m) x y = look m x y
  | [],o,m,x,y,h=>rfl
  | d :: r,o,m,x,y,h=>by
    have ih:=look_cw_out b r (o + 1) m x y (by simp at h;omega)
    have hne : (Nat.beq (b + 2) x && Nat.beq o y) = false:=by
      rw [Bool.eq_false_iff];intro e
      rw [Bool.and_eq_true] at e
      have e1:=Nat.eq_of_beq_eq_true e.1;have e2:=Nat.eq_of_beq_eq_true e.2
      simp at h;omega
    simp only [cw,List.cons_append,look,hne,cond_false]
    exact ih
section
variable {P : Program} {ty : Tys} {n : Nat} {G : Gh} {m : Mem} {a : Act} {w : World} {o : Oper} {id : Nat}
theorem lt_of_cell {g i : Nat} {x : Value} (h : w.cell? ⟨g,i,none⟩ = some x) : g < w.heap.size:=World.block_lt_of_cell? w ⟨g,i,none⟩ h
theorem after_box (hG : GOk G w) (hf : G.box id = none) {vs : Array Value} {l : List D} (t : TypeId) (hs : vs.size = l.length) (hr : ∀ (i : Nat) (x : Value) (d : D),vs[i]? = some x → l[i]? = some d → RepC G w x d) :
    ∃ G',After G w id (cw id 0 l) G' (w.alloc (.cells vs t)) ∧ Rep G' (w.alloc (.cells vs t)) (.pointer (some ⟨w.heap.size,0,none⟩)) (.ptr id 0):=by
  let G' : Gh:={ G with box:=fun b=>if b = id then some (w.heap.size,t,l.length) else G.box b }
  have hb : ∀ b x,G'.box b = some x → (b = id ∧ x = (w.heap.size,t,l.length)) ∨ (b ≠ id ∧ G.box b = some x):=fun b x e=>by
    by_cases e' : b = id
    · left;refine ⟨e',?_⟩;have : G'.box b = some (w.heap.size,t,l.length):=if_pos e';rw [this] at e;cases e;rfl
    · right;refine ⟨e',?_⟩;have : G'.box b = G.box b:=if_neg e';rw [← this];exact e
  have hbid : G'.box id = some (w.heap.size,t,l.length):=if_pos rfl
  have hold : ∀ k,k < w.heap.size → (w.alloc (.cells vs t)).heap[k]? = w.heap[k]?:=fun k hk=>Below.heap_alloc w _ _ hk
  have hcell : ∀ g i,g < w.heap.size → (w.alloc (.cells vs t)).cell? ⟨g,i,none⟩ = w.cell? ⟨g,i,none⟩:=fun g i hg=>World.cell?_of_block (hold g hg)
  have hst : Step G w G' (w.alloc (.cells vs t)):=⟨fun _ _ h=>h,fun g i h=>hcell g i (hG.imm g i h),fun b x h=>by
    have : b ≠ id:=fun e=>by rw [e,hf] at h;cases h
    exact (if_neg this).trans h,fun t T h=>⟨T,h,⟨rfl,rfl⟩,Nat.le_refl _,fun _=>rfl⟩⟩
  have hown : ∀ t T,G.tok t = some T → ∀ g,T.v.ownBlock = some g → g < w.heap.size:=fun t T h g e=>((hG.tok t T h).2.1.lt g e).2
  have hboxlt : ∀ b g ty n,G.box b = some (g,ty,n) → g < w.heap.size:=fun b g ty n e=>by obtain ⟨_,vs,hv,_⟩:=hG.box b g ty n e;exact hv.lt
  refine ⟨G',⟨hst,?_,rfl,(Below.refl _ w).alloc hG.base _,?_,?_,?_,?_,fun _ _ _ h=>h,fun m y=>look_cw_out id l 0 m 0 y (.inl (by omega))⟩,.ptr id 0 w.heap.size l.length t hbid⟩
  · refine ⟨by show G.base ≤ _;simp;have:=hG.base;omega,fun g i h=>by simp;have:=hG.imm g i h;omega,?_,?_,?_,?_,hG.tokImm,hG.tokInj,?_⟩
    · intro b g ty n e
      rcases hb b _ e with ⟨_,e⟩ | ⟨_,e⟩
      · cases e;exact ⟨hG.base,vs,heap_alloc_new w _,hs⟩
      · obtain ⟨h1,vs',h2,h3⟩:=hG.box b g ty n e
        exact ⟨h1,vs',(hold g h2.lt).trans h2,h3⟩
    · intro b g ty n i e
      rcases hb b _ e with ⟨_,e⟩ | ⟨_,e⟩
      · cases e;intro h;have:=hG.imm _ i h;omega
      · exact hG.boxImm b g ty n i e
    · intro b b' g ty ty' n n' e e'
      rcases hb b _ e with ⟨h1,e⟩ | ⟨h1,e⟩ <;> rcases hb b' _ e' with ⟨h2,e'⟩ | ⟨h2,e'⟩
      · rw [h1,h2]
      · cases e;have:=hboxlt _ _ _ _ e';omega
      · cases e';have:=hboxlt _ _ _ _ e;omega
      · exact hG.boxInj b b' g ty ty' n n' e e'
    · intro t' T e
      obtain ⟨h1,h2,h3⟩:=hG.tok t' T e
      exact ⟨h1,h2.alloc _,h3⟩
    · intro t' T b g ty n e e1 e2
      rcases hb b _ e2 with ⟨_,e2⟩ | ⟨_,e2⟩
      · cases e2;have:=hown t' T e _ e1;omega
      · exact hG.tokBox t' T b g ty n e e1 e2
  · intro m hm
    refine ⟨fun b g ty n e i x hx=>?_,fun b i h=>?_⟩
    · rcases hb b _ e with ⟨he,e'⟩ | ⟨hne,e⟩
      · subst he
        clear e
        cases e'
        rw [World.cell?_alloc_new] at hx
        have hi : i < l.length:=by have:=(Array.getElem?_eq_some_iff.1 hx).1;omega
        have:=look_cw_in b l 0 m i hi
        rw [Nat.zero_add] at this
        rw [this]
        exact (hr i x _ hx (List.getElem?_eq_getElem hi)).mono hst
      · rw [look_cw_out id l 0 m (b + 2) i (.inl (by omega))]
        rw [hcell g i (hboxlt b g ty n e)] at hx
        exact (hm.val b g ty n e i x hx).mono hst
    · by_cases e : b = id
      · subst e
        rw [look_cw_out b l 0 m (b + 2) i (.inr (.inr (by have:=h _ _ _ hbid;omega)))]
        exact hm.out b i (fun g ty n e=>by rw [hf] at e;cases e)
      · rw [look_cw_out id l 0 m (b + 2) i (.inl (by omega))]
        exact hm.out b i (fun g ty n e'=>h g ty n ((if_neg e).trans e'))
  · intro m hm t' n' h
    rw [look_cw_out id l 0 m 1 t' (.inl (by omega))] at h
    exact hm t' n' h
  · intro b x e
    rcases hb b _ e with ⟨e,_⟩ | ⟨_,e⟩
    · exact .inr e
    · exact .inl e
  · exact fun t T h=>.inl ⟨T,h⟩
theorem ok_box {t : TypeId} {x : Operand} {l : List D} (h : Sim n G m a w) (hf : G.box id = none) (ho : o.op = .box t x) (hl : cellsOf (ev m x) = some l) : OpOk P o G a w id (.ptr id 0) (cw id 0 l):=by
  obtain ⟨h1,h2⟩:=rep_cells (h.ev x) hl
  obtain ⟨G',ha,hr⟩:=after_box h.ok hf t h1 h2
  exact .of_run (v:=.pointer (some ⟨w.heap.size,0,none⟩)) (by simp [execOp,ho,Instr.box,newVar,newRow,newObj,Sem.run]) ha hr
theorem ok_alloc {t : TypeId} {y : Ty} (h : Sim n G m a w) (hy : TyOk P t y) (hf : G.box id = none) (ho : o.op = .alloc t) : OpOk P o G a w id (.ptr id 0) (cw id 0 y.zero):=by
  obtain ⟨i,z,h1,h2,_,h3,h4,h5,h6⟩:=hy.info
  have hz : z.cells.size = y.zero.length:=by rw [← h4];simp
  obtain ⟨G',ha,hr⟩:=after_box (G:=G) (w:=w) (id:=id) (vs:=z.cells) (l:=y.zero) h.ok hf t hz (fun i x d hi hd=>by
    rw [← h4,List.getElem?_map,Array.getElem?_toList,hi] at hd
    cases hd
    refine repC_const ?_
    rw [← h4,List.all_eq_true] at h5
    exact h5 _ (List.mem_map.2 ⟨x,by rw [Array.mem_toList_iff];exact Array.mem_of_getElem? hi,rfl⟩))
  exact .of_run (v:=.pointer (some ⟨w.heap.size,0,none⟩)) (by simp [execOp,ho,Instr.alloc,zeroValue,typeInfo,h1,h3,newVar,newRow,newObj,Sem.run]) ha hr
theorem ok_store {t : TypeId} {p x : Operand} {y : Ty} (h : Sim n G m a w) (hy : TyOk P t y) (ho : o.op = .store t p x) {d : D} {ws : Mem} (hd : dStore m y (ev m x) (ev m p) = .put d ws) : OpOk P o G a w id d ws:=by
  have hp:=h.ev p
  unfold dStore at hd
  split at hd
  · rename_i b off e
    split at hd
    · rename_i l hl
      cases hc : (l.length.beq y.size && (cr m b off l.length).all there) with
      | false=>rw [hc] at hd;cases hd
      | true =>
        rw [hc] at hd
        cases hd
        rw [Bool.and_eq_true] at hc
        have hsz : l.length = y.size:=Nat.eq_of_beq_eq_true hc.1
        rw [e] at hp
        obtain ⟨g,k,t',e1,hb⟩:=rep_ptr hp
        obtain ⟨h1,h2⟩:=rep_cells (h.ev x) hl
        obtain ⟨hbase,vs,hv,hvs⟩:=h.ok.box b g t' k hb
        obtain ⟨c1,c2⟩:=cr_spec m b off l.length
        have hin : off + l.length ≤ vs.size ∨ l.length = 0:=by
          by_cases h0 : l.length = 0
          · exact .inr h0
          · left
            have hm:=List.all_eq_true.1 hc.2 _ (List.mem_of_getElem? (c2 (l.length - 1) (by omega)))
            have:=(h.box hb hm).1
            omega
        have hone : ∀ v ∈ (a.eval x).cells.toList,v.oneCell' = true:=fun v hv=>by
          obtain ⟨i,hi⟩:=List.getElem?_of_mem hv
          rw [Array.getElem?_toList] at hi
          have hlt:=(Array.getElem?_eq_some_iff.1 hi).1
          exact (h2 i v _ hi (List.getElem?_eq_getElem (by omega))).one
        have hlen : (a.eval x).cells.toList.length = l.length:=by simp [h1]
        have hrun : ∃ W,(storeCells ⟨g,off,none⟩ (a.eval x).cells.toList 0).run P w = .ok () W ∧ (∀ j,j ≠ g → W.heap[j]? = w.heap[j]?) ∧ W.heap.size = w.heap.size ∧ W.os = w.os ∧ W.tape = w.tape ∧ W.output = w.output ∧ ∃ us : Array Value,Blk W g t' us ∧ us.size = vs.size ∧ (∀ i,i < l.length → us[off + i]? = (a.eval x).cells[i]?) ∧ ∀ i,(i < off ∨ off + l.length ≤ i) → us[i]? = vs[i]?:=by
          rcases hin with hin | h0
          · have hr:=run_storeCells_at P g off t' (a.eval x).cells.toList 0 vs w hv (by rw [hlen];exact hin) hone
            refine ⟨_,hr,fun j hj=>setRow_other w g j _ hj,by simp,rfl,rfl,rfl,_,setRow_heap w g vs _ t' _ hv,?_,fun i hi=>?_,fun i hi=>?_⟩
            · simp only [List.size_toArray,List.length_append,List.length_take,List.length_drop,hlen,Array.length_toList];omega
            · rw [List.getElem?_toArray,List.getElem?_append_left (by simp only [List.length_append,List.length_take,hlen,Array.length_toList];omega),List.getElem?_append_right (by simp only [List.length_take,Array.length_toList];omega)]
              simp only [List.length_take,Array.length_toList,Nat.add_zero]
              rw [show off + i - min off vs.size = i by omega,Array.getElem?_toList]
            · rw [List.getElem?_toArray]
              rcases hi with hi | hi
              · rw [List.getElem?_append_left (by simp only [List.length_append,List.length_take,hlen,Array.length_toList];omega),List.getElem?_append_left (by simp only [List.length_take,Array.length_toList];omega),List.getElem?_take_of_lt (by omega),Array.getElem?_toList]
              · rw [List.getElem?_append_right (by simp only [List.length_append,List.length_take,hlen,Array.length_toList];omega),List.getElem?_drop,Array.getElem?_toList]
                congr 1
                simp only [List.length_append,List.length_take,hlen,Array.length_toList]
                omega
          · have hnil : (a.eval x).cells.toList = []:=List.eq_nil_of_length_eq_zero (by omega)
            rw [hnil]
            exact ⟨w,by simp [storeCells],fun _ _=>rfl,rfl,rfl,rfl,rfl,vs,hv,rfl,fun i hi=>by omega,fun _ _=>rfl⟩
        obtain ⟨W,hr,hother,hsize,w1,w2,w3,us,hus,hue,hnew,hkeep⟩:=hrun
        have hrun : (execOp a.eval o).run P w = .ok .skip W:=by
          have hcs : (a.eval x).cells.size = y.size:=by omega
          simp [execOp,ho,e1,Instr.storeAt,Instr.sureAddr,storeVar,hy.size,hcs,hr]
        have hcell : ∀ g' i,g' ≠ g → W.cell? ⟨g',i,none⟩ = w.cell? ⟨g',i,none⟩:=fun g' i hne=>World.cell?_of_block (hother g' hne)
        have hnimm : ∀ i,¬ G.imm g i:=fun i=>h.ok.boxImm b g t' k i hb
        have hst : Step G w G W:=⟨fun _ _ h=>h,fun g' i hi=>hcell g' i (fun e=>hnimm i (e ▸ hi)),fun _ _ h=>h,fun t T h=>⟨T,h,⟨rfl,rfl⟩,Nat.le_refl _,fun _=>rfl⟩⟩
        refine .of_skip hrun ⟨hst,?_,rfl,⟨w1,w2,w3,by omega,fun k hk=>hother k (by omega)⟩,?_,?_,fun _ _ h=>.inl h,fun _ T h=>.inl ⟨T,h⟩,fun _ _ _ h=>h,fun m y=>look_cw_out b l off m 0 y (.inl (by omega))⟩
        · refine ⟨by have:=h.ok.base;omega,fun g' i hi=>by have:=h.ok.imm g' i hi;omega,?_,h.ok.boxImm,h.ok.boxInj,?_,h.ok.tokImm,h.ok.tokInj,h.ok.tokBox⟩
          · intro b' g' ty' n' e'
            obtain ⟨q1,vs',q2,q3⟩:=h.ok.box b' g' ty' n' e'
            by_cases hg : g' = g
            · subst hg
              have : b' = b:=h.ok.boxInj _ _ _ _ _ _ _ e' hb
              subst this
              rw [hb] at e';cases e'
              exact ⟨q1,us,hus,by omega⟩
            · exact ⟨q1,vs',(hother g' hg).trans q2,q3⟩
          · intro t1 T e'
            obtain ⟨q1,q2,q3⟩:=h.ok.tok t1 T e'
            refine ⟨q1,q2.kept (row:=some g) ⟨w1,w2,w3,by omega,fun k _ hk=>hother k (fun e=>hk (by rw [e]))⟩ (.inr (fun e=>?_)),q3⟩
            exact h.ok.tokBox t1 T b g t' k e' e hb
        · intro m' hm'
          refine ⟨fun b' g' ty' n' e' i v hv'=>?_,fun b' i hi=>?_⟩
          · by_cases hg : g' = g
            · subst hg
              have : b' = b:=h.ok.boxInj _ _ _ _ _ _ _ e' hb
              subst this
              rw [hus.cell] at hv'
              by_cases hi : off ≤ i ∧ i < off + l.length
              · obtain ⟨j,rfl⟩ : ∃ j,i = off + j:=⟨i - off,by omega⟩
                rw [look_cw_in b' l off m' j (by omega)]
                rw [hnew j (by omega)] at hv'
                exact (h2 j v _ hv' (List.getElem?_eq_getElem (by omega))).mono hst
              · rw [look_cw_out b' l off m' (b' + 2) i (by omega)]
                rw [hkeep i (by omega),← hv.cell] at hv'
                exact (hm'.val b' g' ty' n' e' i v hv').mono hst
            · have hne : b' ≠ b:=fun e=>by rw [e,hb] at e';cases e';exact hg rfl
              rw [look_cw_out b l off m' (b' + 2) i (.inl (by omega))]
              rw [hcell g' i hg] at hv'
              exact (hm'.val b' g' ty' n' e' i v hv').mono hst
          · by_cases hne : b' = b
            · subst hne
              have:=hi g t' k hb
              rw [look_cw_out b' l off m' (b' + 2) i (by omega)]
              exact hm'.out b' i hi
            · rw [look_cw_out b l off m' (b' + 2) i (.inl (by omega))]
              exact hm'.out b' i hi
        · intro m' hm' t1 n1 e'
          rw [look_cw_out b l off m' 1 t1 (.inl (by omega))] at e'
          exact hm' t1 n1 e'
    · cases hd
  · cases hd
end
end Go.Proofs.Ythadnhpkeljdoaa.pv
namespace Go.Proofs.Ythadnhpkeljdoaa.pa
open Go.RowKit nd pr
namespace Pa
def Le {α : Type} : Pa α → Pa α → Prop
 | out,_=>True
 | ret x,ret y=>x = y
 | bad,bad=>True
 | look k,look k'=>∀ t,(k t).Le (k' t)
 | peek k,peek k'=>∀ t,(k t).Le (k' t)
 | ended k,ended k'=>∀ t,(k t).Le (k' t)
 | move k,move k'=>k.Le k'
 | _,_=>False
theorem Le.refl {α : Type} : ∀ p : Pa α,p.Le p
 | out=>trivial
 | ret x=>rfl
 | bad=>trivial
 | look k=>fun t=>Le.refl (k t)
 | peek k=>fun t=>Le.refl (k t)
 | ended k=>fun t=>Le.refl (k t)
 | move k=>Le.refl k
theorem Le.trans {α : Type} : ∀ {p q s : Pa α},p.Le q → q.Le s → p.Le s
 | out,_,_,_,_=>trivial
 | ret x,ret y,ret z,h,h'=>Eq.trans (show x = y from h) h'
 | bad,bad,bad,_,_=>trivial
 | look k,look k',look k'',h,h'=>fun t=>Le.trans (h t) (h' t)
 | peek k,peek k',peek k'',h,h'=>fun t=>Le.trans (h t) (h' t)
 | ended k,ended k',ended k'',h,h'=>fun t=>Le.trans (h t) (h' t)
 | move k,move k',move k'',h,h'=>Le.trans (p:=k) (q:=k') (s:=k'') h h'
theorem Le.run {α : Type} : ∀ {p q : Pa α},p.Le q → ∀ {r : List Tk} {o : Out α},p.run r = some o → q.run r = some o
 | out,_,_,_,_,h=>by cases h
 | ret x,ret y,e,_,_,h=>by cases (show x = y from e);exact h
 | bad,bad,_,_,_,h=>h
 | look k,look k',e,r,_,h=>Le.run (p:=k (tok r)) (q:=k' (tok r)) (e (tok r)) (r:=r) h
 | peek k,peek k',e,r,_,h=>Le.run (p:=k (tok r.tail)) (q:=k' (tok r.tail)) (e (tok r.tail)) (r:=r) h
 | ended k,ended k',e,r,_,h=>Le.run (p:=k r.isEmpty) (q:=k' r.isEmpty) (e r.isEmpty) (r:=r) h
 | move k,move k',e,r,_,h=>Le.run (p:=k) (q:=k') e (r:=r.tail) h
theorem Le.bind {α β : Type} {f g : α → Pa β} (hf : ∀ x,(f x).Le (g x)) : ∀ (p q : Pa α),p.Le q → (p.bind f).Le (q.bind g)
 | out,_,_=>trivial
 | ret x,ret y,e=>by cases (show x = y from e);exact hf x
 | bad,bad,_=>trivial
 | look k,look k',e=>fun t=>Le.bind hf (k t) (k' t) (e t)
 | peek k,peek k',e=>fun t=>Le.bind hf (k t) (k' t) (e t)
 | ended k,ended k',e=>fun t=>Le.bind hf (k t) (k' t) (e t)
 | move k,move k',e=>Le.bind hf k k' e
end Pa
section
variable {α : Type}
theorem need_le {s : ByteArray} {k k' : Pa α} (h : k.Le k') : (need s k).Le (need s k'):=fun t=>by dsimp only;split;exact h;exact trivial
theorem one_le {kd : Int} {k k' : Pa α} (h : k.Le k') : (one kd k).Le (one kd k'):=fun t=>by dsimp only;split;exact h;exact trivial
theorem text_le {kd : Int} {k k' : ByteArray → Pa α} (h : ∀ s,(k s).Le (k' s)) : (text kd k).Le (text kd k'):=fun t=>by dsimp only;split;exact h _;exact trivial
theorem name_le {k k' : ByteArray → Pa α} (h : ∀ s,(k s).Le (k' s)) : (name k).Le (name k'):=fun t=>by dsimp only;split;exact h _;exact trivial
theorem if_le {c : Prop} [Decidable c] {p q p' q' : Pa α} (h1 : p.Le p') (h2 : q.Le q') : (if c then p else q).Le (if c then p' else q'):=by
 split
 ·exact h1
 ·exact h2
theorem ret_le (x : α) : (Pa.ret x).Le (Pa.ret x):=rfl
theorem look_le {k k' : Tk → Pa α} (h : ∀ t,(k t).Le (k' t)) : (Pa.look k).Le (Pa.look k'):=h
theorem peek_le {k k' : Tk → Pa α} (h : ∀ t,(k t).Le (k' t)) : (Pa.peek k).Le (Pa.peek k'):=h
theorem ended_le {k k' : Bool → Pa α} (h : ∀ t,(k t).Le (k' t)) : (Pa.ended k).Le (Pa.ended k'):=h
theorem move_le {k k' : Pa α} (h : k.Le k') : (Pa.move k).Le (Pa.move k'):=h
end
theorem step_le {rec rec' : (f : Fn) → Pa (Res f)} (h : ∀ f,(rec f).Le (rec' f)) : ∀ f,(step rec f).Le (step rec' f):=by
 intro f
 have h_exp : ∀ (l : Int),Pa.Le (rec (.exp l) : Pa (Nd)) (rec' (.exp l)):=fun l=>h (.exp l)
 have h_expL : ∀ (l : Int) (x : Nd) (b : Int),Pa.Le (rec (.expL l x b) : Pa (Nd)) (rec' (.expL l x b)):=fun l x b=>h (.expL l x b)
 have h_operand : Pa.Le (rec (.operand) : Pa (Nd)) (rec' (.operand)):=h (.operand)
 have h_params : Pa.Le (rec (.params) : Pa (List Nd)) (rec' (.params)):=h (.params)
 have h_deff : ∀ (b : Bool),Pa.Le (rec (.deff b) : Pa (Nd)) (rec' (.deff b)):=fun b=>h (.deff b)
 have h_within : ∀ (x : Nd) (d : ByteArray),Pa.Le (rec (.within x d) : Pa (Nd)) (rec' (.within x d)):=fun x d=>h (.within x d)
 have h_slice : ∀ (x : Nd) (f : Nd) (d : ByteArray),Pa.Le (rec (.slice x f d) : Pa (Nd)) (rec' (.slice x f d)):=fun x f d=>h (.slice x f d)
 have h_post : Pa.Le (rec (.post) : Pa (Nd)) (rec' (.post)):=h (.post)
 have h_postL : ∀ (x : Nd),Pa.Le (rec (.postL x) : Pa (Nd)) (rec' (.postL x)):=fun x=>h (.postL x)
 have h_str : Pa.Le (rec (.str) : Pa (Nd)) (rec' (.str)):=h (.str)
 have h_strF : ∀ (f : ByteArray),Pa.Le (rec (.strF f) : Pa (Nd)) (rec' (.strF f)):=fun f=>h (.strF f)
 have h_strL : Pa.Le (rec (.strL) : Pa (List Nd)) (rec' (.strL)):=h (.strL)
 have h_term : Pa.Le (rec (.term) : Pa (Nd)) (rec' (.term)):=h (.term)
 have h_bracket : Pa.Le (rec (.bracket) : Pa (Nd)) (rec' (.bracket)):=h (.bracket)
 have h_pairs : Pa.Le (rec (.pairs) : Pa (List Nd)) (rec' (.pairs)):=h (.pairs)
 have h_worded : Pa.Le (rec (.worded) : Pa (Nd)) (rec' (.worded)):=h (.worded)
 have h_args : Pa.Le (rec (.args) : Pa (List Nd)) (rec' (.args)):=h (.args)
 have h_ifs : Pa.Le (rec (.ifs) : Pa (List Nd)) (rec' (.ifs)):=h (.ifs)
 have h_fold : ∀ (k : Int) (b : Bool),Pa.Le (rec (.fold k b) : Pa (Nd)) (rec' (.fold k b)):=fun k b=>h (.fold k b)
 have h_key : ∀ (p : Bool),Pa.Le (rec (.key p) : Pa (Nd × Bool)) (rec' (.key p)):=fun p=>h (.key p)
 have h_pair : Pa.Le (rec (.pair) : Pa (Nd)) (rec' (.pair)):=h (.pair)
 have h_value : Pa.Le (rec (.value) : Pa (Nd)) (rec' (.value)):=h (.value)
 have h_unit : Pa.Le (rec (.unit) : Pa (Nd)) (rec' (.unit)):=h (.unit)
 have h_keypat : Pa.Le (rec (.keypat) : Pa (Nd)) (rec' (.keypat)):=h (.keypat)
 have h_pattern : Pa.Le (rec (.pattern) : Pa (Nd)) (rec' (.pattern)):=h (.pattern)
 have h_elems : ∀ (b : Bool),Pa.Le (rec (.elems b) : Pa (List Nd)) (rec' (.elems b)):=fun b=>h (.elems b)
 have h_bring : Pa.Le (rec (.bring) : Pa (Nd)) (rec' (.bring)):=h (.bring)
 have h_plainL : Pa.Le (rec (.plainL) : Pa (List Nd)) (rec' (.plainL)):=h (.plainL)
 have h_brings : Pa.Le (rec (.brings) : Pa (List Nd)) (rec' (.brings)):=h (.brings)
 clear h
 cases f <;> simp only [step]
 all_goals
  repeat (first
   | with_reducible exact h_exp _
   | with_reducible exact h_expL _ _ _
   | with_reducible exact h_operand
   | with_reducible exact h_params
   | with_reducible exact h_deff _
   | with_reducible exact h_within _ _
   | with_reducible exact h_slice _ _ _
   | with_reducible exact h_post
   | with_reducible exact h_postL _
   | with_reducible exact h_str
   | with_reducible exact h_strF _
   | with_reducible exact h_strL
   | with_reducible exact h_term
   | with_reducible exact h_bracket
   | with_reducible exact h_pairs
   | with_reducible exact h_worded
   | with_reducible exact h_args
   | with_reducible exact h_ifs
   | with_reducible exact h_fold _ _
   | with_reducible exact h_key _
   | with_reducible exact h_pair
   | with_reducible exact h_value
   | with_reducible exact h_unit
   | with_reducible exact h_keypat
   | with_reducible exact h_pattern
   | with_reducible exact h_elems _
   | with_reducible exact h_bring
   | with_reducible exact h_plainL
   | with_reducible exact h_brings
   | with_reducible refine Pa.Le.bind (fun _=>?_) _ _ ?_
   | with_reducible refine need_le ?_
   | with_reducible refine one_le ?_
   | with_reducible refine text_le (fun _=>?_)
   | with_reducible refine name_le (fun _=>?_)
   | with_reducible refine look_le (fun _=>?_)
   | with_reducible refine peek_le (fun _=>?_)
   | with_reducible refine ended_le (fun _=>?_)
   | with_reducible refine move_le ?_
   | with_reducible refine if_le ?_ ?_
   | exact ret_le _
   | exact trivial)
theorem go_next : ∀ n f,(go n f).Le (go (n + 1) f)
 | 0,f=>trivial
 | n + 1,f=>step_le (go_next n) f
theorem go_le {n m : Nat} (h : n ≤ m) (f : Fn) : (go n f).Le (go m f):=by
 induction h with
 | refl=>exact Pa.Le.refl _
 | step _ ih=>exact ih.trans (go_next _ f)
theorem run_one {n m : Nat} {f : Fn} {r : List Tk} {o o' : Out (Res f)} (h : (go n f).run r = some o) (h' : (go m f).run r = some o') : o = o':=by
 rcases Nat.le_total n m with e | e
 ·exact Option.some.inj (((go_le e f).run h).symm.trans h')
 ·exact Option.some.inj (h.symm.trans ((go_le e f).run h'))
theorem fuel_ok (l : List Tk) : 8 * l.length + 6 < fuel l:=by unfold fuel;omega
theorem parse_ok (l : List Tk) : ∃ o,(go (fuel l) .program).run l = some o:=parse_run l _ (fuel_ok l)
theorem parse_of {l : List Tk} {n : Nat} {o : Out Nd} (hd : deepAt 0 0 l = none) (h : (go n .program).run l = some o) : parse l = match o with
  | .ok _ x=>(x,0,0)
  | .bad r=>(none0,22,l.length - r.length):=by
 obtain ⟨o',h'⟩:=parse_ok l
 obtain rfl:=run_one h h'
 unfold parse
 rw [hd,h']
 cases o <;> rfl
end Go.Proofs.Ythadnhpkeljdoaa.pa
namespace Go.Proofs.Ythadnhpkeljdoaa.sg
open Go.RowKit Go.Shelf
attribute [local go_sem] Oper.semAt_some
def opsL : List Value:=Sg.opers.map fun l=>Value.string ⟨l.toArray⟩
theorem opsL_at {m : Nat} (h : m < 34) : opsL.toArray[m]? = some (.string ⟨(Sg.opers.getD m []).toArray⟩):=by
 have hl : Sg.opers.length = 34:=rfl
 simp [opsL,List.getD,h,hl]
theorem oper_find {l : List UInt8} {ini : List (List UInt8)} {x : List UInt8} (hpre : ini ++ [x] <+: Sg.opers) (hno : ∀ y ∈ ini,Lib.hasPrefix l y = false) (hle : Lib.hasPrefix l x = true) : Sg.oper l = x.length:=by
 obtain ⟨rest,hr⟩:=hpre
 unfold Sg.oper
 rw [← hr,List.append_assoc,List.find?_append,List.find?_eq_none.2 (fun y hy=>by rw [hno y hy];simp)]
 have e : ([x] ++ rest).find? (fun o=>Lib.hasPrefix l o) = some x:=by simp [hle]
 rw [e];rfl
theorem oper_none {l : List UInt8} (hno : ∀ y ∈ Sg.opers,Lib.hasPrefix l y = false) : Sg.oper l = 0:=by
 unfold Sg.oper
 rw [List.find?_eq_none.2 (fun y hy=>by rw [hno y hy];simp)]
end Go.Proofs.Ythadnhpkeljdoaa.sg
namespace Go.Proofs.Ythadnhpkeljdoaa.nd
open Go.RowKit sx ed
theorem own_step {W w1 : World} {base : Nat} {e : TypeId} {size n : Nat} {v : Value} {xs : List Value} (h : W.ownsRow base e size v n xs) (hb : Below W.heap.size W w1) : w1.ownsRow base e size v n xs :=
 h.kept (row:=none) ⟨hb.os,hb.tape,hb.output,hb.size,fun k hk _=>hb.block k hk⟩ (by cases v.ownBlock <;> simp)
theorem own_less {W : World} {base base' size n : Nat} {e : TypeId} {v : Value} {xs : List Value} (h : W.ownsRow base e size v n xs) (hb : base' ≤ base) : W.ownsRow base' e size v n xs:=by
 refine ⟨h.1,?_⟩
 rcases h.2 with hn | ⟨g,cap,cur,h1,h2,h3⟩
 ·exact .inl hn
 ·exact .inr ⟨g,cap,cur,h1,Nat.le_trans hb h2,h3⟩
end Go.Proofs.Ythadnhpkeljdoaa.nd
namespace Go.Proofs.Ythadnhpkeljdoaa.sg
open Go.RowKit Go.Shelf Go.Maps Go.ChangeMaps Go.WideShapes Go.WideMaps
theorem isEmpty_data (s : ByteArray) : s.toList.isEmpty = s.data.toList.isEmpty:=by rw [Lib.toList_data]
end Go.Proofs.Ythadnhpkeljdoaa.sg
