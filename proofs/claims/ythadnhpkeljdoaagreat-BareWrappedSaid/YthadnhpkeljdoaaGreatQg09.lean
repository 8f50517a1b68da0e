/- Ground of the law: PaWt, NdCopy, PrRef2. -/
import Derived.Test.YthadnhpkeljdoaaGreatQg07
import Derived.Test.YthadnhpkeljdoaaGreatQg08
import Derived.Test.YthadnhpkeljdoaaGreatQg01
import Derived.Deep.RegionHeld3
import Derived.Deep.AppendLies
set_option maxRecDepth 100000
set_option maxHeartbeats 8000000
set_option linter.unusedVariables false
set_option linter.unusedSimpArgs false
namespace Go.Proofs.YthadnhpkeljdoaaGreat.pa
open Go.RowKit nd pr
def C : List Tk → Nat
  | []=>0
  | t :: r=>6 + t.2.size + C r
abbrev wN (x : Nd) : Nat:=x.weight
abbrev wL (l : List Nd) : Nat:=(Fo.ofL l).weight
abbrev wK (x : Nd × Bool) : Nat:=x.1.weight + 2
abbrev wS (x : Nd) : Nat:=x.weight + 2
abbrev wE (l : List Nd) : Nat:=(Fo.ofL l).weight + 2
theorem wl_nil : (Fo.ofL []).weight = 0:=rfl
theorem wl_cons (x : Nd) (l : List Nd) : (Fo.ofL (x :: l)).weight = x.weight + (Fo.ofL l).weight:=by simp [Fo.ofL,Fo.weight,Nd.weight];try omega
theorem wl_app (a b : List Nd) : (Fo.ofL (a ++ b)).weight = (Fo.ofL a).weight + (Fo.ofL b).weight:=by rw [Fo.ofL_append,Fo.weight_app]
theorem w_mk (k : Int) (t : ByteArray) (l : List Nd) : (mk k t l).weight = 1 + t.size + (Fo.ofL l).weight:=rfl
theorem w_none : none0.weight = 1:=rfl
theorem cut_size (s : ByteArray) : (cut s).size = s.size - 1:=by unfold cut;simp
theorem sz_e : eB.size = 0:=rfl
theorem sz_else : welse.size = 4:=rfl
theorem sz_bar : bar.size = 1:=rfl
theorem sz_dot : dot.size = 1:=rfl
def OkW {α : Type} (p : Pa α) (w : α → Nat) (r : List Tk) (B : Nat) : Prop:=∀ r' x,p.run r = some (.ok r' x) → w x + C r' ≤ B
section
variable {α β : Type} {w : α → Nat}
theorem OkW.mono {p : Pa α} {r : List Tk} {B D : Nat} (h : OkW p w r B) (hb : B ≤ D) : OkW p w r D:=fun r' x e=>Nat.le_trans (h r' x e) hb
theorem OkW.slack {p : Pa α} {w' : α → Nat} {r : List Tk} {B D : Nat} (h : OkW p w r B) (hb : ∀ x c,w x + c ≤ B → w' x + c ≤ D) : OkW p w' r D:=fun r' x e=>hb x _ (h r' x e)
theorem v_ret {x : α} {r : List Tk} {B : Nat} (h : w x + C r ≤ B) : OkW (.ret x) w r B:=fun r' y e=>by cases e;exact h
theorem v_bad {r : List Tk} {B : Nat} : OkW (.bad : Pa α) w r B:=fun r' y e=>by cases e
theorem v_bind {p : Pa β} {u : β → Nat} {f : β → Pa α} {r : List Tk} {B D : Nat} (h : OkW p u r B) (hf : ∀ r' x,u x + C r' ≤ B → OkW (f x) w r' D) : OkW (p.bind f) w r D:=by
  intro r' y e
  rw [Pa.run_bind] at e
  cases hp : p.run r with
  | none=>rw [hp] at e;cases e
  | some o =>
    rw [hp] at e
    cases o with
    | bad r1=>cases e
    | ok r1 x=>exact hf r1 x (h r1 x hp) r' y e
theorem v_look {k : Tk → Pa α} {r : List Tk} {B : Nat} (h0 : r = [] → OkW (k noTk) w [] B) (h1 : ∀ t r',r = t :: r' → OkW (k t) w (t :: r') B) : OkW (.look k) w r B:=by
  cases r with
  | nil=>exact h0 rfl
  | cons t r'=>exact h1 t r' rfl
theorem v_peek {k : Tk → Pa α} {r : List Tk} {B : Nat} (h : ∀ t,OkW (k t) w r B) : OkW (.peek k) w r B:=h _
theorem v_ended {k : Bool → Pa α} {r : List Tk} {B : Nat} (h : ∀ z,OkW (k z) w r B) : OkW (.ended k) w r B:=h _
theorem v_move {k : Pa α} {t : Tk} {r : List Tk} {B : Nat} (h : OkW k w r B) : OkW (.move k) w (t :: r) B:=h
theorem v_move0 {k : Pa α} {B : Nat} (h : OkW k w [] B) : OkW (.move k) w [] B:=h
theorem v_need {s : ByteArray} {k : Pa α} {r : List Tk} {B : Nat} (h : ∀ t r',r = t :: r' → OkW k w r' B) : OkW (need s k) w r B :=
  v_look (fun e=>by simp only [op_no,word_no];exact v_bad) (fun t r' e=>by split;exact h t r' e;exact v_bad)
theorem v_one {kd : Int} {k : Pa α} {r : List Tk} {B : Nat} (hk : ((0 : Int) == kd) = false) (h : ∀ t r',r = t :: r' → OkW k w r' B) : OkW (one kd k) w r B :=
  v_look (fun e=>by show OkW (if ((0 : Int) == kd) = true then _ else _) _ _ _;rw [hk];exact v_bad) (fun t r' e=>by split;exact h t r' e;exact v_bad)
theorem v_text {kd : Int} {k : ByteArray → Pa α} {r : List Tk} {B : Nat} (hk : ((0 : Int) == kd) = false) (h : ∀ s t r',s.size = t.2.size - 1 → r = t :: r' → OkW (k s) w r' B) : OkW (text kd k) w r B :=
  v_look (fun e=>by show OkW (if ((0 : Int) == kd) = true then _ else _) _ _ _;rw [hk];exact v_bad) (fun t r' e=>by split;exact h _ t r' (cut_size _) e;exact v_bad)
theorem v_name {k : ByteArray → Pa α} {r : List Tk} {B : Nat} (h : ∀ s t r',s.size = t.2.size → r = t :: r' → OkW (k s) w r' B) : OkW (name k) w r B :=
  v_look (fun e=>by simp only [plain_no];exact v_bad) (fun t r' e=>by split;exact h _ t r' rfl e;exact v_bad)
theorem v_no {b : Bool} {p q : Pa α} {r : List Tk} {B : Nat} (hb : b = false) (h : OkW q w r B) : OkW (if b = true then p else q) w r B:=by rw [hb];exact h
theorem v_if {c : Prop} [Decidable c] {p q : Pa α} {r : List Tk} {B : Nat} (h1 : c → OkW p w r B) (h2 : ¬ c → OkW q w r B) : OkW (if c then p else q) w r B:=by
  split
  · exact h1 (by assumption)
  · exact h2 (by assumption)
end
def wt : (f : Fn) → Res f → Nat
  | .exp _=>wN
  | .expL _ _ _=>wN
  | .operand=>wN
  | .params=>wL
  | .deff _=>wN
  | .within _ _=>wN
  | .slice _ _ _=>wN
  | .post=>wN
  | .postL _=>wN
  | .str=>wS
  | .strF _=>wS
  | .strL=>wL
  | .term=>wN
  | .bracket=>wN
  | .pairs=>wL
  | .worded=>wN
  | .args=>wL
  | .ifs=>wL
  | .fold _ _=>wN
  | .key _=>wK
  | .pair=>wN
  | .value=>wN
  | .unit=>wN
  | .keypat=>wN
  | .pattern=>wN
  | .elems _=>wE
  | .bring=>wN
  | .plainL=>wL
  | .brings=>wL
  | .program=>wN
def cost : Fn → Nat
  | .exp l=>0
  | .expL l x b=>x.weight
  | .operand=>0
  | .params=>0
  | .deff b=>0
  | .within x d=>(x.weight + d.size)
  | .slice x f d=>(x.weight + f.weight + d.size)
  | .post=>0
  | .postL x=>x.weight
  | .str=>0
  | .strF f=>f.size
  | .strL=>0
  | .term=>0
  | .bracket=>0
  | .pairs=>0
  | .worded=>0
  | .args=>0
  | .ifs=>0
  | .fold k b=>0
  | .key p=>0
  | .pair=>0
  | .value=>0
  | .unit=>0
  | .keypat=>0
  | .pattern=>0
  | .elems b=>0
  | .bring=>0
  | .plainL=>0
  | .brings=>0
  | .program=>2
def AllV (rec : (f : Fn) → Pa (Res f)) : Prop:=∀ f r,(wants f = true → r ≠ []) → OkW (rec f) (wt f) r (C r + cost f)
theorem wtext_le (t : Tk) : (textOf t.1 t.2).size ≤ t.2.size:=by
  unfold textOf
  split
  · exact Nat.le_refl _
  · exact Nat.zero_le _
theorem step_expL {rec : (f : Fn) → Pa (Res f)} (h_exp : ∀ (l : Int) (r : List Tk),OkW (rec (.exp l) : Pa Nd) wN r (C r + 0)) (h_expL : ∀ (l : Int) (x : Nd) (b : Int) (r : List Tk),OkW (rec (.expL l x b) : Pa Nd) wN r (C r + x.weight)) (l : Int) (x : Nd) (b : Int) (r : List Tk) : OkW (step rec (.expL l x b) : Pa Nd) wN r (C r + x.weight):=by
  simp only [step]
  refine v_look (fun hr=>?_) (fun t r' hr=>?_)
  · subst hr
    have e:=lv_no
    split
    · exact v_bad
    · exact v_ret (by simp [C])
  · subst hr
    have ht:=wtext_le t
    split
    · exact v_bad
    · split
      · exact v_ret (by show x.weight + _ ≤ _;omega)
      · refine v_move (v_bind (h_exp _ _) fun r1 y hy=>(h_expL _ _ _ r1).mono ?_)
        have hy : y.weight + C r1 ≤ C r' + 0:=hy
        simp only [w_mk,wl_nil,wl_cons,C]
        omega
theorem step_v {rec : (f : Fn) → Pa (Res f)} (ih : AllV rec) : AllV (step rec):=by
  intro f r hw
  have h_exp : ∀ (l : Int) (r : List Tk),OkW (rec (.exp l) : Pa (Nd)) wN r (C r + 0):=fun l r=>ih (.exp l) r (fun e=>by cases e)
  have h_expL : ∀ (l : Int) (x : Nd) (b : Int) (r : List Tk),OkW (rec (.expL l x b) : Pa (Nd)) wN r (C r + x.weight):=fun l x b r=>ih (.expL l x b) r (fun e=>by cases e)
  have h_operand : ∀ (r : List Tk),OkW (rec (.operand) : Pa (Nd)) wN r (C r + 0):=fun r=>ih (.operand) r (fun e=>by cases e)
  have h_params : ∀ (r : List Tk),OkW (rec (.params) : Pa (List Nd)) wL r (C r + 0):=fun r=>ih (.params) r (fun e=>by cases e)
  have h_deff : ∀ (b : Bool) (r : List Tk),r ≠ [] → OkW (rec (.deff b) : Pa (Nd)) wN r (C r + 0):=fun b r hr=>ih (.deff b) r (fun _=>hr)
  have h_within : ∀ (x : Nd) (d : ByteArray) (r : List Tk),OkW (rec (.within x d) : Pa (Nd)) wN r (C r + (x.weight + d.size)):=fun x d r=>ih (.within x d) r (fun e=>by cases e)
  have h_slice : ∀ (x : Nd) (f : Nd) (d : ByteArray) (r : List Tk),OkW (rec (.slice x f d) : Pa (Nd)) wN r (C r + (x.weight + f.weight + d.size)):=fun x f d r=>ih (.slice x f d) r (fun e=>by cases e)
  have h_post : ∀ (r : List Tk),OkW (rec (.post) : Pa (Nd)) wN r (C r + 0):=fun r=>ih (.post) r (fun e=>by cases e)
  have h_postL : ∀ (x : Nd) (r : List Tk),OkW (rec (.postL x) : Pa (Nd)) wN r (C r + x.weight):=fun x r=>ih (.postL x) r (fun e=>by cases e)
  have h_str : ∀ (r : List Tk),OkW (rec (.str) : Pa (Nd)) wS r (C r + 0):=fun r=>ih (.str) r (fun e=>by cases e)
  have h_strF : ∀ (f : ByteArray) (r : List Tk),OkW (rec (.strF f) : Pa (Nd)) wS r (C r + f.size):=fun f r=>ih (.strF f) r (fun e=>by cases e)
  have h_strL : ∀ (r : List Tk),OkW (rec (.strL) : Pa (List Nd)) wL r (C r + 0):=fun r=>ih (.strL) r (fun e=>by cases e)
  have h_term : ∀ (r : List Tk),OkW (rec (.term) : Pa (Nd)) wN r (C r + 0):=fun r=>ih (.term) r (fun e=>by cases e)
  have h_bracket : ∀ (r : List Tk),OkW (rec (.bracket) : Pa (Nd)) wN r (C r + 0):=fun r=>ih (.bracket) r (fun e=>by cases e)
  have h_pairs : ∀ (r : List Tk),OkW (rec (.pairs) : Pa (List Nd)) wL r (C r + 0):=fun r=>ih (.pairs) r (fun e=>by cases e)
  have h_worded : ∀ (r : List Tk),r ≠ [] → OkW (rec (.worded) : Pa (Nd)) wN r (C r + 0):=fun r hr=>ih (.worded) r (fun _=>hr)
  have h_args : ∀ (r : List Tk),r ≠ [] → OkW (rec (.args) : Pa (List Nd)) wL r (C r + 0):=fun r hr=>ih (.args) r (fun _=>hr)
  have h_ifs : ∀ (r : List Tk),OkW (rec (.ifs) : Pa (List Nd)) wL r (C r + 0):=fun r=>ih (.ifs) r (fun e=>by cases e)
  have h_fold : ∀ (k : Int) (b : Bool) (r : List Tk),OkW (rec (.fold k b) : Pa (Nd)) wN r (C r + 0):=fun k b r=>ih (.fold k b) r (fun e=>by cases e)
  have h_key : ∀ (p : Bool) (r : List Tk),OkW (rec (.key p) : Pa (Nd × Bool)) wK r (C r + 0):=fun p r=>ih (.key p) r (fun e=>by cases e)
  have h_pair : ∀ (r : List Tk),OkW (rec (.pair) : Pa (Nd)) wN r (C r + 0):=fun r=>ih (.pair) r (fun e=>by cases e)
  have h_value : ∀ (r : List Tk),OkW (rec (.value) : Pa (Nd)) wN r (C r + 0):=fun r=>ih (.value) r (fun e=>by cases e)
  have h_unit : ∀ (r : List Tk),OkW (rec (.unit) : Pa (Nd)) wN r (C r + 0):=fun r=>ih (.unit) r (fun e=>by cases e)
  have h_keypat : ∀ (r : List Tk),OkW (rec (.keypat) : Pa (Nd)) wN r (C r + 0):=fun r=>ih (.keypat) r (fun e=>by cases e)
  have h_pattern : ∀ (r : List Tk),OkW (rec (.pattern) : Pa (Nd)) wN r (C r + 0):=fun r=>ih (.pattern) r (fun e=>by cases e)
  have h_elems : ∀ (b : Bool) (r : List Tk),r ≠ [] → OkW (rec (.elems b) : Pa (List Nd)) wE r (C r + 0):=fun b r hr=>ih (.elems b) r (fun _=>hr)
  have h_bring : ∀ (r : List Tk),r ≠ [] → OkW (rec (.bring) : Pa (Nd)) wN r (C r + 0):=fun r hr=>ih (.bring) r (fun _=>hr)
  have h_plainL : ∀ (r : List Tk),OkW (rec (.plainL) : Pa (List Nd)) wL r (C r + 0):=fun r=>ih (.plainL) r (fun e=>by cases e)
  have h_brings : ∀ (r : List Tk),OkW (rec (.brings) : Pa (List Nd)) wL r (C r + 0):=fun r=>ih (.brings) r (fun e=>by cases e)
  clear ih
  cases f
  case' deff top=>cases top
  case' elems b=>cases b
  all_goals first | (have hr:=hw rfl;obtain ⟨t0,r0,rfl⟩:=List.exists_cons_of_ne_nil hr;clear hr) | skip
  all_goals clear hw
  all_goals simp only [step,wt,cost]
  case' expL l x b=>exact step_expL h_exp h_expL l x b r
  all_goals
    repeat (first
      | exact v_bad
      | (with_reducible refine v_ret ?_);((try split) <;> ((try simp only [w_mk,wl_nil,wl_cons,wl_app,w_none,cut_size,sz_e,sz_else,sz_bar,sz_dot,C,wN,wL,wK,wS,wE] at *);omega))
      | (with_reducible refine v_need (fun _ _ hr=>?_)) <;> cases hr
      | (with_reducible refine v_one rfl (fun _ _ hr=>?_)) <;> cases hr
      | (with_reducible refine v_text rfl (fun _ _ _ _ hr=>?_)) <;> cases hr
      | (with_reducible refine v_name (fun _ _ _ _ hr=>?_)) <;> cases hr
      | (with_reducible refine v_look (fun hr=>?_) (fun _ _ hr=>?_)) <;> cases hr
      | with_reducible refine v_peek (fun _=>?_)
      | with_reducible refine v_ended (fun _=>?_)
      | with_reducible refine v_move ?_
      | with_reducible refine v_move0 ?_
      | (simp only [op_no,word_no,plain_no,Bool.and_false,Bool.or_false,Bool.or_self,Bool.false_eq_true,if_false])
      | (simp only [ite_bind,look_bind,ret_bind,move_bind])
      | refine v_no rfl ?_
      | refine v_if (fun _=>?_) (fun _=>?_)
      | with_reducible refine v_bind (h_exp _ _) (fun _ _ _=>?_)
      | (with_reducible refine OkW.slack (h_exp _ _) (fun _ _ _=>?_)) <;> ((try simp only [w_mk,wl_nil,wl_cons,wl_app,w_none,cut_size,sz_e,sz_else,sz_bar,sz_dot,C,wN,wL,wK,wS,wE] at *);omega)
      | with_reducible refine v_bind (h_expL _ _ _ _) (fun _ _ _=>?_)
      | (with_reducible refine OkW.slack (h_expL _ _ _ _) (fun _ _ _=>?_)) <;> ((try simp only [w_mk,wl_nil,wl_cons,wl_app,w_none,cut_size,sz_e,sz_else,sz_bar,sz_dot,C,wN,wL,wK,wS,wE] at *);omega)
      | with_reducible refine v_bind (h_operand _) (fun _ _ _=>?_)
      | (with_reducible refine OkW.slack (h_operand _) (fun _ _ _=>?_)) <;> ((try simp only [w_mk,wl_nil,wl_cons,wl_app,w_none,cut_size,sz_e,sz_else,sz_bar,sz_dot,C,wN,wL,wK,wS,wE] at *);omega)
      | with_reducible refine v_bind (h_params _) (fun _ _ _=>?_)
      | (with_reducible refine OkW.slack (h_params _) (fun _ _ _=>?_)) <;> ((try simp only [w_mk,wl_nil,wl_cons,wl_app,w_none,cut_size,sz_e,sz_else,sz_bar,sz_dot,C,wN,wL,wK,wS,wE] at *);omega)
      | with_reducible refine v_bind (h_deff _ _ (by simp)) (fun _ _ _=>?_)
      | (with_reducible refine OkW.slack (h_deff _ _ (by simp)) (fun _ _ _=>?_)) <;> ((try simp only [w_mk,wl_nil,wl_cons,wl_app,w_none,cut_size,sz_e,sz_else,sz_bar,sz_dot,C,wN,wL,wK,wS,wE] at *);omega)
      | with_reducible refine v_bind (h_within _ _ _) (fun _ _ _=>?_)
      | (with_reducible refine OkW.slack (h_within _ _ _) (fun _ _ _=>?_)) <;> ((try simp only [w_mk,wl_nil,wl_cons,wl_app,w_none,cut_size,sz_e,sz_else,sz_bar,sz_dot,C,wN,wL,wK,wS,wE] at *);omega)
      | with_reducible refine v_bind (h_slice _ _ _ _) (fun _ _ _=>?_)
      | (with_reducible refine OkW.slack (h_slice _ _ _ _) (fun _ _ _=>?_)) <;> ((try simp only [w_mk,wl_nil,wl_cons,wl_app,w_none,cut_size,sz_e,sz_else,sz_bar,sz_dot,C,wN,wL,wK,wS,wE] at *);omega)
      | with_reducible refine v_bind (h_post _) (fun _ _ _=>?_)
      | (with_reducible refine OkW.slack (h_post _) (fun _ _ _=>?_)) <;> ((try simp only [w_mk,wl_nil,wl_cons,wl_app,w_none,cut_size,sz_e,sz_else,sz_bar,sz_dot,C,wN,wL,wK,wS,wE] at *);omega)
      | with_reducible refine v_bind (h_postL _ _) (fun _ _ _=>?_)
      | (with_reducible refine OkW.slack (h_postL _ _) (fun _ _ _=>?_)) <;> ((try simp only [w_mk,wl_nil,wl_cons,wl_app,w_none,cut_size,sz_e,sz_else,sz_bar,sz_dot,C,wN,wL,wK,wS,wE] at *);omega)
      | with_reducible refine v_bind (h_str _) (fun _ _ _=>?_)
      | (with_reducible refine OkW.slack (h_str _) (fun _ _ _=>?_)) <;> ((try simp only [w_mk,wl_nil,wl_cons,wl_app,w_none,cut_size,sz_e,sz_else,sz_bar,sz_dot,C,wN,wL,wK,wS,wE] at *);omega)
      | with_reducible refine v_bind (h_strF _ _) (fun _ _ _=>?_)
      | (with_reducible refine OkW.slack (h_strF _ _) (fun _ _ _=>?_)) <;> ((try simp only [w_mk,wl_nil,wl_cons,wl_app,w_none,cut_size,sz_e,sz_else,sz_bar,sz_dot,C,wN,wL,wK,wS,wE] at *);omega)
      | with_reducible refine v_bind (h_strL _) (fun _ _ _=>?_)
      | (with_reducible refine OkW.slack (h_strL _) (fun _ _ _=>?_)) <;> ((try simp only [w_mk,wl_nil,wl_cons,wl_app,w_none,cut_size,sz_e,sz_else,sz_bar,sz_dot,C,wN,wL,wK,wS,wE] at *);omega)
      | with_reducible refine v_bind (h_term _) (fun _ _ _=>?_)
      | (with_reducible refine OkW.slack (h_term _) (fun _ _ _=>?_)) <;> ((try simp only [w_mk,wl_nil,wl_cons,wl_app,w_none,cut_size,sz_e,sz_else,sz_bar,sz_dot,C,wN,wL,wK,wS,wE] at *);omega)
      | with_reducible refine v_bind (h_bracket _) (fun _ _ _=>?_)
      | (with_reducible refine OkW.slack (h_bracket _) (fun _ _ _=>?_)) <;> ((try simp only [w_mk,wl_nil,wl_cons,wl_app,w_none,cut_size,sz_e,sz_else,sz_bar,sz_dot,C,wN,wL,wK,wS,wE] at *);omega)
      | with_reducible refine v_bind (h_pairs _) (fun _ _ _=>?_)
      | (with_reducible refine OkW.slack (h_pairs _) (fun _ _ _=>?_)) <;> ((try simp only [w_mk,wl_nil,wl_cons,wl_app,w_none,cut_size,sz_e,sz_else,sz_bar,sz_dot,C,wN,wL,wK,wS,wE] at *);omega)
      | with_reducible refine v_bind (h_worded _ (by simp)) (fun _ _ _=>?_)
      | (with_reducible refine OkW.slack (h_worded _ (by simp)) (fun _ _ _=>?_)) <;> ((try simp only [w_mk,wl_nil,wl_cons,wl_app,w_none,cut_size,sz_e,sz_else,sz_bar,sz_dot,C,wN,wL,wK,wS,wE] at *);omega)
      | with_reducible refine v_bind (h_args _ (by simp)) (fun _ _ _=>?_)
      | (with_reducible refine OkW.slack (h_args _ (by simp)) (fun _ _ _=>?_)) <;> ((try simp only [w_mk,wl_nil,wl_cons,wl_app,w_none,cut_size,sz_e,sz_else,sz_bar,sz_dot,C,wN,wL,wK,wS,wE] at *);omega)
      | with_reducible refine v_bind (h_ifs _) (fun _ _ _=>?_)
      | (with_reducible refine OkW.slack (h_ifs _) (fun _ _ _=>?_)) <;> ((try simp only [w_mk,wl_nil,wl_cons,wl_app,w_none,cut_size,sz_e,sz_else,sz_bar,sz_dot,C,wN,wL,wK,wS,wE] at *);omega)
      | with_reducible refine v_bind (h_fold _ _ _) (fun _ _ _=>?_)
      | (with_reducible refine OkW.slack (h_fold _ _ _) (fun _ _ _=>?_)) <;> ((try simp only [w_mk,wl_nil,wl_cons,wl_app,w_none,cut_size,sz_e,sz_else,sz_bar,sz_dot,C,wN,wL,wK,wS,wE] at *);omega)
      | with_reducible refine v_bind (h_key _ _) (fun _ _ _=>?_)
      | (with_reducible refine OkW.slack (h_key _ _) (fun _ _ _=>?_)) <;> ((try simp only [w_mk,wl_nil,wl_cons,wl_app,w_none,cut_size,sz_e,sz_else,sz_bar,sz_dot,C,wN,wL,wK,wS,wE] at *);omega)
      | with_reducible refine v_bind (h_pair _) (fun _ _ _=>?_)
      | (with_reducible refine OkW.slack (h_pair _) (fun _ _ _=>?_)) <;> ((try simp only [w_mk,wl_nil,wl_cons,wl_app,w_none,cut_size,sz_e,sz_else,sz_bar,sz_dot,C,wN,wL,wK,wS,wE] at *);omega)
      | with_reducible refine v_bind (h_value _) (fun _ _ _=>?_)
      | (with_reducible refine OkW.slack (h_value _) (fun _ _ _=>?_)) <;> ((try simp only [w_mk,wl_nil,wl_cons,wl_app,w_none,cut_size,sz_e,sz_else,sz_bar,sz_dot,C,wN,wL,wK,wS,wE] at *);omega)
      | with_reducible refine v_bind (h_unit _) (fun _ _ _=>?_)
      | (with_reducible refine OkW.slack (h_unit _) (fun _ _ _=>?_)) <;> ((try simp only [w_mk,wl_nil,wl_cons,wl_app,w_none,cut_size,sz_e,sz_else,sz_bar,sz_dot,C,wN,wL,wK,wS,wE] at *);omega)
      | with_reducible refine v_bind (h_keypat _) (fun _ _ _=>?_)
      | (with_reducible refine OkW.slack (h_keypat _) (fun _ _ _=>?_)) <;> ((try simp only [w_mk,wl_nil,wl_cons,wl_app,w_none,cut_size,sz_e,sz_else,sz_bar,sz_dot,C,wN,wL,wK,wS,wE] at *);omega)
      | with_reducible refine v_bind (h_pattern _) (fun _ _ _=>?_)
      | (with_reducible refine OkW.slack (h_pattern _) (fun _ _ _=>?_)) <;> ((try simp only [w_mk,wl_nil,wl_cons,wl_app,w_none,cut_size,sz_e,sz_else,sz_bar,sz_dot,C,wN,wL,wK,wS,wE] at *);omega)
      | with_reducible refine v_bind (h_elems _ _ (by simp)) (fun _ _ _=>?_)
      | (with_reducible refine OkW.slack (h_elems _ _ (by simp)) (fun _ _ _=>?_)) <;> ((try simp only [w_mk,wl_nil,wl_cons,wl_app,w_none,cut_size,sz_e,sz_else,sz_bar,sz_dot,C,wN,wL,wK,wS,wE] at *);omega)
      | with_reducible refine v_bind (h_bring _ (by simp)) (fun _ _ _=>?_)
      | (with_reducible refine OkW.slack (h_bring _ (by simp)) (fun _ _ _=>?_)) <;> ((try simp only [w_mk,wl_nil,wl_cons,wl_app,w_none,cut_size,sz_e,sz_else,sz_bar,sz_dot,C,wN,wL,wK,wS,wE] at *);omega)
      | with_reducible refine v_bind (h_plainL _) (fun _ _ _=>?_)
      | (with_reducible refine OkW.slack (h_plainL _) (fun _ _ _=>?_)) <;> ((try simp only [w_mk,wl_nil,wl_cons,wl_app,w_none,cut_size,sz_e,sz_else,sz_bar,sz_dot,C,wN,wL,wK,wS,wE] at *);omega)
      | with_reducible refine v_bind (h_brings _) (fun _ _ _=>?_)
      | (with_reducible refine OkW.slack (h_brings _) (fun _ _ _=>?_)) <;> ((try simp only [w_mk,wl_nil,wl_cons,wl_app,w_none,cut_size,sz_e,sz_else,sz_bar,sz_dot,C,wN,wL,wK,wS,wE] at *);omega))
theorem go_v : ∀ n,AllV (go n)
  | 0=>fun f r _ r' x e=>by cases e
  | n + 1=>step_v (go_v n)
theorem parse_weight (l : List Tk) : (parse l).1.weight ≤ C l + 2:=by
  unfold parse
  split
  · rw [w_none];omega
  · split
    · next r x h=>exact Nat.le_trans (Nat.le_add_right _ _) (go_v _ .program l (fun e=>by cases e) r x h)
    · rw [w_none];omega
    · rw [w_none];omega
end Go.Proofs.YthadnhpkeljdoaaGreat.pa
namespace Go.Proofs.YthadnhpkeljdoaaGreat.nd
open Go.Lib (hid)
open Go.RowKit sx ed
abbrev CS (w : World) (k : Int) (t : ByteArray) (u : World) : Prop:=(u.cell? ⟨w.heap.size,0,none⟩ = some (.int .i64 k) ∧ u.cell? ⟨w.heap.size,1,none⟩ = some (.string t)) ∧ (∃ a b c,Blk u (w.heap.size + 1) 27 #[a,b,c]) ∧ Below w.heap.size w u
theorem CS.more {w u v : World} {k : Int} {t : ByteArray} (h : CS w k t u) (hb : Below u.heap.size u v) : CS w k t v:=by
 obtain ⟨⟨h1,h2⟩,⟨a,b,c,h3⟩,h4⟩:=h
 have hl:=h3.lt
 exact ⟨⟨(hb.cell (p:=⟨w.heap.size,0,none⟩) (by simp;omega)).trans h1,(hb.cell (p:=⟨w.heap.size,1,none⟩) (by simp;omega)).trans h2⟩,⟨a,b,c,h3.own hb⟩,h4.trans (hb.mono h4.size)⟩
theorem CS.stored {w u : World} {k : Int} {t : ByteArray} (h : CS w k t u) (a b c : Value) : CS w k t (((u.setCell ⟨w.heap.size + 1,0,none⟩ a).setCell ⟨w.heap.size + 1,1,none⟩ b).setCell ⟨w.heap.size + 1,2,none⟩ c):=by
 obtain ⟨⟨h1,h2⟩,⟨x,y,z,h3⟩,h4⟩:=h
 have hb : Below (w.heap.size + 1) u (((u.setCell ⟨w.heap.size + 1,0,none⟩ a).setCell ⟨w.heap.size + 1,1,none⟩ b).setCell ⟨w.heap.size + 1,2,none⟩ c) :=
  (((Below.refl _ u).setCell (p:=⟨w.heap.size + 1,0,none⟩) (Nat.le_refl _) a).setCell (p:=⟨w.heap.size + 1,1,none⟩) (Nat.le_refl _) b).setCell (p:=⟨w.heap.size + 1,2,none⟩) (Nat.le_refl _) c
 exact ⟨⟨(hb.cell (p:=⟨w.heap.size,0,none⟩) (by simp)).trans h1,(hb.cell (p:=⟨w.heap.size,1,none⟩) (by simp)).trans h2⟩,
  ⟨a,b,c,((h3.set (o:=0) a).set (o:=1) b).set (o:=2) c⟩,h4.trans (hb.mono (Nat.le_succ _))⟩
theorem tell_calls (k : Int) (t : ByteArray) (ao a2 : Option Addr) (l cap l2 c2 : Nat) (w : World) (hcl : ∀ W,Calls Tryz.prog 48 #[.string t] W fun e w'=>e = .returned (.string t) ∧ Below W.heap.size W w') :
  Calls Tryz.prog 63 #[.agg #[.int .i64 k,.string t,.slice ao l cap],.slice a2 l2 c2] w fun e w'=>e = .returned (.agg #[.int .i64 k,.string t,.slice a2 l2 c2]) ∧ Below w.heap.size w w':=by
 obtain ⟨W1,hW1⟩ : ∃ W1,((w.alloc (.cells #[.int .i64 k,.string t,.slice ao l cap] 27)).alloc (.cells #[.int .i64 0,.string ⟨#[]⟩,.slice none 0 0] 27)) = W1:=⟨_,rfl⟩
 have hS : CS w k t W1:=by
  rw [← hW1]
  have h1:=(Blk.new w 27 #[.int .i64 k,.string t,.slice ao l cap]).alloc (.cells #[.int .i64 0,.string ⟨#[]⟩,.slice none 0 0] 27)
  have h2:=Blk.new (w.alloc (.cells #[.int .i64 k,.string t,.slice ao l cap] 27)) 27 #[.int .i64 0,.string ⟨#[]⟩,.slice none 0 0]
  exact ⟨⟨h1.cell 0,h1.cell 1⟩,⟨_,_,_,by simpa using h2⟩,((Below.refl _ w).alloc (Nat.le_refl _) _).alloc (by simp) _⟩
 have HW1:=hid hW1
 clear hW1
 go_enter Tryz.func63,Tryz.ntmps63
 go_wp2_with fail
 rw [HW1.out]
 have b0:=hS.1.1
 have b1:=hS.1.2
 go_region_held3 (fun u=>(u.cell? ⟨w.heap.size,0,none⟩ = some (.int .i64 k) ∧ u.cell? ⟨w.heap.size,1,none⟩ = some (.string t)) ∧ (∃ a b c,Blk u (w.heap.size + 1) 27 #[a,b,c]) ∧ Below w.heap.size w u)
  (first
   | assumption
   | exact CS.more hS ((Below.refl _ _).drew)
   | exact CS.stored (by assumption) _ _ _
   | exact CS.more (by assumption) (by assumption))
  (first
   | (go_at_call 48;with_reducible refine (hcl _).mono ?_;rintro _ u1 ⟨rfl,hbn⟩;have hcs:=CS.more (by assumption) hbn;have hE:=hcs.2.1;obtain ⟨x0,x1,x2,hk⟩:=hE;have f0:=hk.frozen 0;have f1:=hk.frozen 1;have f2:=hk.frozen 2;have e0:=hk.cell 0;have e1:=hk.cell 1;have e2:=hk.cell 2))
 rename_i hHeld
 have hcell:=(((hk.set (o:=0) (.int .i64 k)).set (o:=1) (.string t)).set (o:=2) (.slice a2 l2 c2))
 have g0:=hcell.cell 0;have g1:=hcell.cell 1;have g2:=hcell.cell 2
 go_wp2_with fail
 exact bodyPost_ret (v:=.agg #[.int .i64 k,.string t,.slice a2 l2 c2]) (by simp [results,Tryz.results63,go_sem,g0,g1,g2]) rfl ⟨rfl,hHeld.2.2⟩
def Priv (N : Nat) (W : World) (v : Value) (k : Nat) : Prop:=N ≤ k ∧ k < W.heap.size ∧ v.ownBlock ≠ some k
def Building (N : Nat) (W : World) (f : Fo) (v : Value) : Prop:=∃ L,W.ownsRow N 27 3 v f.len L ∧ CellsOf (Priv N W v) W f L
theorem own_step {W w1 : World} {base : Nat} {e : TypeId} {size n : Nat} {v : Value} {xs : List Value} (h : W.ownsRow base e size v n xs) (hb : Below W.heap.size W w1) : w1.ownsRow base e size v n xs :=
 h.kept (row:=none) ⟨hb.os,hb.tape,hb.output,hb.size,fun k hk _=>hb.block k hk⟩ (by cases v.ownBlock <;> simp)
theorem own_less {W : World} {base base' size n : Nat} {e : TypeId} {v : Value} {xs : List Value} (h : W.ownsRow base e size v n xs) (hb : base' ≤ base) : W.ownsRow base' e size v n xs:=by
 refine ⟨h.1,?_⟩
 rcases h.2 with hn | ⟨g,cap,cur,h1,h2,h3⟩
 ·exact .inl hn
 ·exact .inr ⟨g,cap,cur,h1,Nat.le_trans hb h2,h3⟩
theorem Building.step {N : Nat} {W w1 : World} {f : Fo} {v : Value} (h : Building N W f v) (hb : Below W.heap.size W w1) : Building N w1 f v:=by
 obtain ⟨L,h1,h2⟩:=h
 exact ⟨L,own_step h1 hb,h2.keep (fun k hk=>⟨hk.1,Nat.lt_of_lt_of_le hk.2.1 hb.size,hk.2.2⟩) (fun k hk=>hb.block k hk.2.1)⟩
theorem Building.less {N N' : Nat} {W : World} {f : Fo} {v : Value} (h : Building N W f v) (hN : N' ≤ N) : Building N' W f v:=by
 obtain ⟨L,h1,h2⟩:=h
 exact ⟨L,own_less h1 hN,h2.keep (fun k hk=>⟨Nat.le_trans hN hk.1,hk.2.1,hk.2.2⟩) (fun _ _=>rfl)⟩
theorem Building.far {N : Nat} {W : World} {f : Fo} {v : Value} (h : Building N W f v) {B o : Nat} (hB : B < N) (u : Value) : Building N (W.setCell ⟨B,o,none⟩ u) f v:=by
 obtain ⟨L,h1,h2⟩:=h
 refine ⟨L,⟨h1.1,?_⟩,h2.keep (fun k hk=>⟨hk.1,by simpa using hk.2.1,hk.2.2⟩) (fun k hk=>Below.heap_setCell _ _ _ k (fun e=>by have:=hk.1;simp at e;omega))⟩
 rcases h1.2 with hn | ⟨g,cap,cur,e1,e2,e3,e4⟩
 ·exact .inl hn
 ·exact .inr ⟨g,cap,cur,e1,e2,(Below.heap_setCell _ _ _ g (fun e=>by simp at e;omega)).trans e3,e4⟩
theorem Building.slice {N : Nat} {W : World} {f : Fo} {v : Value} (h : Building N W f v) : ∃ ao cap,v = .slice ao f.len cap:=by
 obtain ⟨L,h1,_⟩:=h
 obtain ⟨ao,cap,e,_⟩:=own_len' h1
 exact ⟨ao,cap,e⟩
theorem Building.kids {N : Nat} {W : World} {f : Fo} {v : Value} (h : Building N W f v) : KidsAt (fun k=>N ≤ k ∧ k < W.heap.size) W f v:=by
 obtain ⟨L,h1,h2⟩:=h
 exact own_kids h1 h2 (fun k hk=>⟨hk.1,hk.2.1⟩) (fun k hk=>h1.lt k hk)
theorem building_nil {N : Nat} {W : World} {v : Value} (h : W.ownsRow N 27 3 v 0 []) : Building N W .nil v:=⟨[],h,rfl⟩
theorem building_push {N : Nat} {w1 w' : World} {f : Fo} {v v' s : Value} {x : Nd} {L : List Value} {o : Obj} (h : CellsOf (Priv N w1 v) w1 f L) (hx : KidsAt (Priv N w1 v) w1 x.kids s)
  (hown : w'.ownsRow N 27 3 v' (f.len + 1) (L ++ [.int .i64 x.k,.string x.t,s])) (hg : (w1.alloc o).grownBy w' v.ownBlock) (hat : v'.ownBlock = v.ownBlock ∨ v'.ownBlock = some (w1.alloc o).heap.size) :
  Building N w' (f.app (.cons x.k x.t x.kids .nil)) v':=by
 have hsz:=hg.size
 rw [World.size_alloc] at hsz hat
 have hp : ∀ k,Priv N w1 v k → Priv N w' v' k:=fun k hk=>⟨hk.1,by have:=hk.2.1;omega,fun e=>by
  rcases hat with h1 | h1
  ·exact hk.2.2 (h1.symm.trans e)
  ·rw [h1] at e
   have:=hk.2.1
   injection e with e
   omega⟩
 have hk : ∀ k,Priv N w1 v k → w'.heap[k]? = w1.heap[k]?:=fun k hk =>
  (hg.block k (by rw [World.size_alloc];have:=hk.2.1;omega) (fun e=>hk.2.2 e.symm)).trans (Below.heap_alloc _ _ _ hk.2.1)
 exact ⟨_,by rw [Fo.app_len];exact hown,(h.keep hp hk).snoc (hx.keep hp hk)⟩
def CopyOf (w : World) (x : Nd) (u : Value) (w' : World) : Prop:=∃ s,u = .agg #[.int .i64 x.k,.string x.t,s] ∧ Building w.heap.size w' x.kids s ∧ Below w.heap.size w w'
def FoldOk (x : Nd) : Prop:=x.weight ≤ 1000000 → ∀ (w : World) (v : Value),NdAt (Lt w.heap.size) w x v →
 Calls Tryz.prog 62 #[v,.func (.func 63) #[] #[]] w fun e w'=>∃ u,e = .returned u ∧ CopyOf w x u w'
theorem fold_ok (hcl : ∀ (t : ByteArray),t.size ≤ 140737488351232 → ∀ W,Calls Tryz.prog 48 #[.string t] W fun e w'=>e = .returned (.string t) ∧ Below W.heap.size W w') (x : Nd) : FoldOk x:=by
 refine Nd.induct (p:=FoldOk) (fun x hp hwt w v hu=>?_) x
 obtain ⟨s,rfl,hs⟩:=hu
 obtain ⟨ao,cap,rfl,hm⟩:=hs.slice
 obtain ⟨k,t,f⟩:=x
 dsimp only at hs hm hp ⊢
 unfold maxLen at hm
 have hwt':=hwt
 simp only [Nd.weight] at hwt'
 have hfl : f.len ≤ 1000000:=by have:=Fo.len_le f;have:=Fo.count_le f;omega
 obtain ⟨i0,hi,hz0,hz1,hz2⟩:=info_parts infoN
 obtain ⟨W0,hW0⟩ : ∃ W0,((w.alloc (.cells #[.int .i64 k,.string t,.slice ao f.len cap] 27)).alloc (.cells #[.int .i64 0,.string ⟨#[]⟩,.slice none 0 0] 27)) = W0:=⟨_,rfl⟩
 have hb0 : Below w.heap.size w W0:=by rw [← hW0];exact ((Below.refl _ w).alloc (Nat.le_refl _) _).alloc (by simp) _
 have hk1 : Blk W0 w.heap.size 27 #[.int .i64 k,.string t,.slice ao f.len cap]:=by rw [← hW0];exact (Blk.new w _ _).alloc _
 have hk2 : Blk W0 (w.heap.size + 1) 27 #[.int .i64 0,.string ⟨#[]⟩,.slice none 0 0]:=by
  rw [← hW0]
  simpa using Blk.new (w.alloc (.cells #[.int .i64 k,.string t,.slice ao f.len cap] 27)) 27 #[.int .i64 0,.string ⟨#[]⟩,.slice none 0 0]
 have hsz : W0.heap.size = w.heap.size + 2:=by rw [← hW0];simp
 obtain ⟨m,hmm⟩ : ∃ m,f.len = m:=⟨_,rfl⟩
 rw [hmm] at hm hs hW0 hk1 hfl ⊢
 have HF:=hid (hs.below hb0 (Nat.le_refl _));have HL:=hid hmm;have HP:=hid hp;have HB0:=hid hb0
 have HK1:=hid hk1;have HK2:=hid hk2;have HW0:=hid hW0;have HWT:=hid hwt';have HSZ:=hid hsz
 have a2:=hk1.cell 2
 clear hs hmm hp hb0 hk1 hk2 hW0 hwt hwt' hsz
 go_enter Tryz.func62,Tryz.ntmps62
 go_wp2_with fail
 rw [HW0.out]
 go_wp2_with fail
 ((with_reducible refine (growN_calls m (by omega) _).mono ?_);rintro e w1 ⟨v1,rfl,hown,hb1⟩)
 obtain ⟨ao1,cap1,rfl,_⟩:=own_len' hown
 have a2:=(HK1.out.own hb1).cell 2
 have hbld:=building_nil hown
 have HBL:=hid hbld;have HB1:=hid hb1
 clear hown hbld hb1
 go_wp2_with fail
 go_loopw [5,15] (fun a i wr=>∃ j : Nat,j ≤ m ∧ i = .int .i64 (j : Int) ∧ Building W0.heap.size wr (f.take j) a ∧ Below W0.heap.size W0 wr) (fun _ i _=>m - (intOf i).toNat)
 case atStart=>exact ⟨0,Nat.zero_le _,rfl,by have:=HBL.out;cases f <;> exact this,HB1.out⟩
 case round =>
  obtain ⟨j,hj,rfl,hbd,hbw⟩:=hrel
  have a2:=(HK1.out.own hbw).cell 2
  by_cases hlt : j < m
  ·obtain ⟨x,hx⟩:=Fo.get_of_lt (f:=f) (i:=j) (by rw [HL.out];exact hlt)
   have hFw:=HF.out.toLt.below hbw (Nat.le_refl _)
   obtain ⟨g1,o1,ao2,cap2,rfl,_,hg1,d0,d1,d2,d3⟩:=hFw.get hx
   have hlt1 : (j : Int) < (m : Int):=by omega
   have hxw : x.weight ≤ 1000000:=by have:=Fo.weight_get hx;have:=HWT.out;omega
   obtain ⟨wa,hwa⟩ : ∃ wa,wr.alloc (.cells #[.int .i64 x.k,.string x.t,.slice ao2 x.kids.len cap2] 27) = wa:=⟨_,rfl⟩
   have hba : Below wr.heap.size wr wa:=by rw [← hwa];exact (Below.refl _ wr).alloc (Nat.le_refl _) _
   have hka : Blk wa wr.heap.size 27 #[.int .i64 x.k,.string x.t,.slice ao2 x.kids.len cap2]:=by rw [← hwa];exact Blk.new wr _ _
   have hcall:=HP.out.get hx hxw wa _ ((NdAt.mk (d3.toLt.below hba (Nat.le_refl _))).mono hba.size)
   have HC:=hid hcall;have HX:=hid hx;have HWA:=hid hwa
   have HW:=hid (hbw.trans (hba.mono hbw.size));have HBD:=hid (hbd.step hba)
   have e0:=hka.cell 0;have e1:=hka.cell 1;have e2:=hka.cell 2
   have hW0s:=HW.out.size
   clear hcall hx d3 hbw hFw hxw hwa hka hba hbd
   obtain ⟨ao5,cap5,rfl⟩:=HBD.out.slice
   rw [Fo.take_len (by rw [HL.out];exact hj)] at HBD ⊢
   go_wp2_with fail
   rw [HWA.out]
   go_wp2_with fail
   ((with_reducible refine HC.out.mono ?_);rintro e wb ⟨u,rfl,hcp⟩)
   obtain ⟨s,rfl,hbs,hbb⟩:=hcp
   obtain ⟨ao6,cap6,rfl⟩:=hbs.slice
   have hkx : KidsAt (Priv W0.heap.size wb (.slice ao5 j cap5)) wb x.kids (.slice ao6 x.kids.len cap6):=hbs.kids.keep (fun k hk=>⟨Nat.le_trans hW0s hk.1,hk.2,fun e=>by
    obtain ⟨L,h1,_⟩:=HBD.out
    have:=(h1.lt k e).2
    have:=hk.1
    omega⟩) (fun _ _=>rfl)
   obtain ⟨L,hown,hcells⟩:=HBD.out.step hbb
   rw [Fo.take_len (by rw [HL.out];exact hj)] at hown
   have HCE:=hid hcells;have HKX:=hid hkx
   have hwb:=hbb.size
   have HWB:=hid (HW.out.trans (hbb.mono HW.out.size))
   clear hbs hbb hcells hkx
   go_wp2_with (at_builtin;refine wpList_append_own_at _ rfl _ _ 25 rfl W0.heap.size 27 i0 _ 3 48 Tryz.underlying25 hi hz0 hz1 hz2 rfl (by decide) _ _ _ rfl (hown.alloc _) ⟨wb.heap.size,0,none⟩ 1 1 [.int .i64 x.k,.string x.t,.slice ao6 x.kids.len cap6] rfl rfl (World.news_of_block (cs:=#[.int .i64 x.k,.string x.t,.slice ao6 x.kids.len cap6]) (t:=27) (fr:=(0,0)) (heap_alloc_new wb _)) (by intro u hu;simp at hu;rcases hu with rfl | rfl | rfl <;> rfl) (by unfold maxLen;omega) (by omega) (by simp;omega) ?_;intro v' w' hown' hgrow _ hat;obtain ⟨ao7,cap7,rfl,_⟩:=own_len' hown')
   have hbd2:=building_push (x:=x) HCE.out HKX.out (by rw [Fo.take_len (by rw [HL.out];exact hj)];exact hown') hgrow hat
   rw [← Fo.take_snoc HX.out] at hbd2
   have hbw2:=(HWB.out.alloc HWB.out.size _).grown hgrow (by have:=HWB.out.size;simp;omega) (fun k hk=>(hown.lt k hk).1)
   have HBD2:=hid hbd2;have HBW2:=hid hbw2
   clear hown hown' hgrow hat hbd2 hbw2
   go_wp2_with fail
   exact ⟨⟨j + 1,by omega,by go_num,HBD2.out,HBW2.out⟩,by simp [intOf];omega⟩
  ·obtain rfl : j = m:=by omega
   have hge : decide ((j : Int) < (j : Int)) = false:=by simp
   rw [Fo.take_all (by rw [HL.out];exact Nat.le_refl _)] at hbd
   obtain ⟨ao5,cap5,rfl⟩:=hbd.slice
   rw [HL.out] at hbd ⊢
   have a0:=(HK1.out.own hbw).cell 0
   have a1:=(HK1.out.own hbw).cell 1
   have ht : t.size ≤ 140737488351232:=by have:=HWT.out;omega
   have hcall:=tell_calls k t ao ao5 j cap j cap5 wr (hcl t ht)
   have HC:=hid hcall;have HBD:=hid hbd;have HBW:=hid hbw
   clear hcall hbd hbw
   go_wp2_with fail
   ((with_reducible refine HC.out.mono ?_);rintro e wb ⟨rfl,hb2⟩)
   have hbd2:=HBD.out.step hb2
   have hb3:=HBW.out.trans (hb2.mono HBW.out.size)
   have hk:=HK2.out.own hb3
   have f0:=hk.frozen 0;have f1:=hk.frozen 1;have f2:=hk.frozen 2
   have e0:=hk.cell 0;have e1:=hk.cell 1;have e2:=hk.cell 2
   have hcell:=(((hk.set (o:=0) (.int .i64 k)).set (o:=1) (.string t)).set (o:=2) (.slice ao5 j cap5))
   have g0:=hcell.cell 0;have g1:=hcell.cell 1;have g2:=hcell.cell 2
   have HB2:=hid hbd2;have HB3:=hid hb3
   clear hb2 hbd2 hb3 hk hcell
   go_wp2_with fail
   refine bodyPost_ret (v:=.agg #[.int .i64 k,.string t,.slice ao5 j cap5]) (by simp [results,Tryz.results62,go_sem,g0,g1,g2]) rfl ⟨_,rfl,_,rfl,?_,?_⟩
   ·have hlt : w.heap.size + 1 < W0.heap.size:=by have:=HSZ.out;omega
    exact (((HB2.out.far hlt _).far hlt _).far hlt _).less HB0.out.size
   ·exact (((HB0.out.trans (HB3.out.mono HB0.out.size)).setCell (p:=⟨w.heap.size + 1,0,none⟩) (Nat.le_succ _) _).setCell (p:=⟨w.heap.size + 1,1,none⟩) (Nat.le_succ _) _).setCell (p:=⟨w.heap.size + 1,2,none⟩) (Nat.le_succ _) _
theorem copy_of (hcl : ∀ (t : ByteArray),t.size ≤ 140737488351232 → ∀ W,Calls Tryz.prog 48 #[.string t] W fun e w'=>e = .returned (.string t) ∧ Below W.heap.size W w') (x : Nd) (hwt : x.weight ≤ 1000000) (w : World) (v : Value) (hu : NdAt (Lt w.heap.size) w x v) :
  Calls Tryz.prog 46 #[v] w fun e w'=>∃ u,e = .returned u ∧ CopyOf w x u w':=by
 obtain ⟨s,rfl,hs⟩:=hu
 obtain ⟨ao,cap,rfl,hm⟩:=hs.slice
 obtain ⟨W0,hW0⟩ : ∃ W0,((w.alloc (.cells #[.int .i64 x.k,.string x.t,.slice ao x.kids.len cap] 27)).alloc (.cells #[.int .i64 0,.string ⟨#[]⟩,.slice none 0 0] 27)) = W0:=⟨_,rfl⟩
 have hb0 : Below w.heap.size w W0:=by rw [← hW0];exact ((Below.refl _ w).alloc (Nat.le_refl _) _).alloc (by simp) _
 have hk2 : Blk W0 (w.heap.size + 1) 27 #[.int .i64 0,.string ⟨#[]⟩,.slice none 0 0]:=by
  rw [← hW0]
  simpa using Blk.new (w.alloc (.cells #[.int .i64 x.k,.string x.t,.slice ao x.kids.len cap] 27)) 27 #[.int .i64 0,.string ⟨#[]⟩,.slice none 0 0]
 have hsz : W0.heap.size = w.heap.size + 2:=by rw [← hW0];simp
 have hcall:=fold_ok hcl x hwt W0 _ ((NdAt.mk (hs.below hb0 (Nat.le_refl _))).mono hb0.size)
 have HC:=hid hcall;have HB0:=hid hb0;have HK2:=hid hk2;have HW0:=hid hW0;have HSZ:=hid hsz
 clear hcall hb0 hk2 hW0 hs hsz
 go_enter Tryz.func46,Tryz.ntmps46
 go_wp2_with fail
 rw [HW0.out]
 ((with_reducible refine HC.out.mono ?_);rintro e wb ⟨u,rfl,s',rfl,hbd,hb2⟩)
 obtain ⟨ao5,cap5,rfl⟩:=hbd.slice
 have hk:=HK2.out.own hb2
 have f0:=hk.frozen 0;have f1:=hk.frozen 1;have f2:=hk.frozen 2
 have e0:=hk.cell 0;have e1:=hk.cell 1;have e2:=hk.cell 2
 have hcell:=(((hk.set (o:=0) (.int .i64 x.k)).set (o:=1) (.string x.t)).set (o:=2) (.slice ao5 x.kids.len cap5))
 have g0:=hcell.cell 0;have g1:=hcell.cell 1;have g2:=hcell.cell 2
 have HB2:=hid hbd;have HB3:=hid hb2
 clear hb2 hbd hk hcell
 go_wp2_with fail
 refine bodyPost_ret (v:=.agg #[.int .i64 x.k,.string x.t,.slice ao5 x.kids.len cap5]) (by simp [results,Tryz.results46,go_sem,g0,g1,g2]) rfl ⟨_,rfl,_,rfl,?_,?_⟩
 ·have hlt : w.heap.size + 1 < W0.heap.size:=by have:=HSZ.out;omega
  exact (((HB2.out.far hlt _).far hlt _).far hlt _).less HB0.out.size
 ·exact (((HB0.out.trans (HB3.out.mono HB0.out.size)).setCell (p:=⟨w.heap.size + 1,0,none⟩) (Nat.le_succ _) _).setCell (p:=⟨w.heap.size + 1,1,none⟩) (Nat.le_succ _) _).setCell (p:=⟨w.heap.size + 1,2,none⟩) (Nat.le_succ _) _
end Go.Proofs.YthadnhpkeljdoaaGreat.nd
namespace Go.Proofs.YthadnhpkeljdoaaGreat.pr
open Go.Lib (hid)
open Go.RowKit Go.Shelf sx
theorem rside_calls (s : ByteArray) (w : World) :
  Calls Tryz.prog 109 #[.string s] w fun e w'=>e = .returned (.int .i64 (sideOf s)) ∧ Below w.heap.size w w':=by
 have hbd:=level_bounds s
 have hsd:=side_of_level s
 have HR:=hid (fun w=>rlevel_calls s w)
 obtain ⟨a,ha⟩ : ∃ a,levelOf s = a:=⟨_,rfl⟩
 rw [ha] at hbd HR hsd
 obtain ⟨b,hb⟩ : ∃ b,sideOf s = b:=⟨_,rfl⟩
 rw [hb] at hsd ⊢
 clear hb ha
 have hn : Below w.heap.size w (w.alloc (.cells (sidesD.map (Value.int .i64)).toArray 3)):=(Below.refl _ w).alloc (Nat.le_refl _) _
 have hc0 : (w.alloc (.cells (sidesD.map (Value.int .i64)).toArray 3)).cell? ⟨w.heap.size,a.toNat,none⟩ = some (.int .i64 b):=by
  rw [(Blk.new w 3 _).cell a.toNat]
  simp [hsd]
 have HN:=hid hn;have HC:=hid hc0
 clear hn hc0 hsd
 obtain ⟨h0,h9⟩:=hbd
 have h10 : a < 10:=by omega
 go_enter Tryz.func109,Tryz.ntmps109
 go_wp2_with fail
 ((with_reducible refine (HR.out _).mono ?_);rintro e w1 ⟨rfl,hb1⟩)
 have hc1 : w1.cell? ⟨w.heap.size,a.toNat,none⟩ = some (.int .i64 b):=(hb1.cell (p:=⟨w.heap.size,a.toNat,none⟩) (by simp)).trans HC.out
 have HB:=hid (show Below w.heap.size w w1 from Below.next HN.out hb1 (by simp))
 clear hb1
 go_wp2_with fail
 go_ret
 exact ⟨rfl,HB.out⟩
theorem rright_calls (s : ByteArray) (w : World) :
  Calls Tryz.prog 110 #[.string s] w fun e w'=>e = .returned (.int .i64 (besideOf s 2)) ∧ Below w.heap.size w w':=by
 have hbd:=level_bounds s
 have hv : besideOf s 2 = if isOp s = true ∧ sideOf s ≠ 2 then levelOf s + 1 else levelOf s:=rfl
 rw [level_isOp] at hv
 simp only [decide_eq_true_eq] at hv
 have HR:=hid (fun w=>rlevel_calls s w)
 have HS:=hid (fun w=>rside_calls s w)
 obtain ⟨a,ha⟩ : ∃ a,levelOf s = a:=⟨_,rfl⟩
 obtain ⟨b,hb⟩ : ∃ b,sideOf s = b:=⟨_,rfl⟩
 rw [ha] at hbd HR
 rw [hb] at HS
 rw [ha,hb] at hv
 have HV:=hid hv
 clear hv ha hb
 have hw1 : wrap64 (a + 1) = a + 1:=by rw [IntWalk.wrap64_in];omega
 by_cases h0 : 0 < a
 ·have q0 : decide (0 < a) = true:=decide_eq_true h0
  by_cases hd : b = 2
  ·subst hd
   go_enter Tryz.func110,Tryz.ntmps110
   go_wp2_with fail
   ((with_reducible refine (HR.out _).mono ?_);rintro e w1 ⟨rfl,hb1⟩)
   go_wp2_with fail
   ((with_reducible refine (HS.out _).mono ?_);rintro e w2 ⟨rfl,hb2⟩)
   go_wp2_with fail
   go_ret
   exact ⟨by rw [HV.out];simp,Below.next hb1 hb2 (Nat.le_refl _)⟩
  ·have q1 : (b == 2) = false:=by rw [beq_eq_false_iff_ne];exact hd
   have q2 : (b != 2) = true:=by unfold bne;rw [q1];rfl
   have HQ:=hid hd;have H0:=hid h0
   clear hd
   go_enter Tryz.func110,Tryz.ntmps110
   go_wp2_with fail
   ((with_reducible refine (HR.out _).mono ?_);rintro e w1 ⟨rfl,hb1⟩)
   go_wp2_with fail
   ((with_reducible refine (HS.out _).mono ?_);rintro e w2 ⟨rfl,hb2⟩)
   go_wp2_with fail
   go_ret
   exact ⟨by rw [HV.out];simp [HQ.out,H0.out],Below.next hb1 hb2 (Nat.le_refl _)⟩
 ·have q0 : decide (0 < a) = false:=decide_eq_false h0
  have H0:=hid h0
  go_enter Tryz.func110,Tryz.ntmps110
  go_wp2_with fail
  ((with_reducible refine (HR.out _).mono ?_);rintro e w1 ⟨rfl,hb1⟩)
  go_wp2_with fail
  go_ret
  exact ⟨by rw [HV.out,if_neg (fun h=>by have:=H0.out;omega)];rfl,hb1⟩
theorem rof_calls (k : Int) (s : ByteArray) (w : World) :
  Calls Tryz.prog 115 #[.agg #[.int .i64 k,.string s]] w fun e w'=>e = .returned (.string (textOf k s)) ∧ Below w.heap.size w w':=by
 have hv : textOf k s = if isKind k = true ∧ levelOf s ≠ 0 then s else ⟨#[]⟩:=rfl
 have hk : isKind k = (decide (k = 13) || decide (k = 3)):=rfl
 have HC:=hid (fun W=>rlevel_calls s W)
 obtain ⟨a,ha⟩ : ∃ a,levelOf s = a:=⟨_,rfl⟩
 rw [ha] at hv HC
 rw [hk] at hv
 have HV:=hid hv
 clear hv ha hk
 have hb0 : Below w.heap.size w (w.alloc (.cells #[.int .i64 k,.string s] 66)):=(Below.refl _ w).alloc (Nat.le_refl _) _
 have HB0:=hid hb0
 clear hb0
 by_cases h13 : k = 3
 ·subst h13
  by_cases h0 : a = 0
  ·subst h0
   go_enter Tryz.func115,Tryz.ntmps115
   go_wp2_with fail
   ((with_reducible refine (HC.out _).mono ?_);rintro e w1 ⟨rfl,hb1⟩)
   go_wp2_with fail
   go_ret
   exact ⟨by rw [HV.out];simp,Below.next HB0.out hb1 (by simp)⟩
  ·have q1 : (a == 0) = false:=by rw [beq_eq_false_iff_ne];exact h0
   have q3 : decide (a = 0) = false:=decide_eq_false h0
   have HQ:=hid h0
   clear h0
   go_enter Tryz.func115,Tryz.ntmps115
   go_wp2_with fail
   ((with_reducible refine (HC.out _).mono ?_);rintro e w1 ⟨rfl,hb1⟩)
   have hc1 : w1.cell? ⟨w.heap.size,1,none⟩ = some (.string s):=(hb1.cell (p:=⟨w.heap.size,1,none⟩) (by simp)).trans ((Blk.new w 66 #[.int .i64 3,.string s]).cell 1)
   go_wp2_with fail
   go_ret
   exact ⟨by rw [HV.out];simp [HQ.out],Below.next HB0.out hb1 (by simp)⟩
 ·have p1 : (k == 3) = false:=by rw [beq_eq_false_iff_ne];exact h13
  have p2 : (k != 3) = true:=by unfold bne;rw [p1];rfl
  have HP:=hid h13
  clear h13
  by_cases h3 : k = 13
  ·subst h3
   by_cases h0 : a = 0
   ·subst h0
    go_enter Tryz.func115,Tryz.ntmps115
    go_wp2_with fail
    ((with_reducible refine (HC.out _).mono ?_);rintro e w1 ⟨rfl,hb1⟩)
    go_wp2_with fail
    go_ret
    exact ⟨by rw [HV.out];simp,Below.next HB0.out hb1 (by simp)⟩
   ·have q1 : (a == 0) = false:=by rw [beq_eq_false_iff_ne];exact h0
    have q3 : decide (a = 0) = false:=decide_eq_false h0
    have HQ:=hid h0
    clear h0
    go_enter Tryz.func115,Tryz.ntmps115
    go_wp2_with fail
    ((with_reducible refine (HC.out _).mono ?_);rintro e w1 ⟨rfl,hb1⟩)
    have hc1 : w1.cell? ⟨w.heap.size,1,none⟩ = some (.string s):=(hb1.cell (p:=⟨w.heap.size,1,none⟩) (by simp)).trans ((Blk.new w 66 #[.int .i64 13,.string s]).cell 1)
    go_wp2_with fail
    go_ret
    exact ⟨by rw [HV.out];simp [HQ.out],Below.next HB0.out hb1 (by simp)⟩
  ·have r1 : (k == 13) = false:=by rw [beq_eq_false_iff_ne];exact h3
   have r2 : (k != 13) = true:=by unfold bne;rw [r1];rfl
   have HR:=hid h3
   clear h3
   go_enter Tryz.func115,Tryz.ntmps115
   go_wp2_with fail
   go_ret
   exact ⟨by rw [HV.out];simp [HP.out,HR.out],HB0.out⟩
end Go.Proofs.YthadnhpkeljdoaaGreat.pr
