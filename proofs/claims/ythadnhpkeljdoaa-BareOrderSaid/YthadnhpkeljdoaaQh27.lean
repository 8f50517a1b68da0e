/- Ground of the law: PvR1, PvBl, PvBk. -/
import Derived.Test.YthadnhpkeljdoaaQh23
set_option maxRecDepth 100000
set_option maxHeartbeats 8000000
set_option linter.unusedVariables false
set_option linter.unusedSimpArgs false
namespace Go.Proofs.Ythadnhpkeljdoaa.pv
open Go.RowKit
def S_tok (L : List (List D)) (i : Int) (b : Bool) (K : List D → Prop) : Prop :=
 bcond b (K [D.agg [(dI 0),(dS (⟨#[]⟩ : ByteArray))]]) (bcond (bif false then true else decide (i ≥ (Int.ofNat L.length))) (K [D.agg [(dI 0),(dS (⟨#[]⟩ : ByteArray))]]) ((0 : Int) ≤ i ∧ ∃ n s n_1 es,L[i.toNat]? = some [(dI n),(dS s),(dI n_1),dL es] ∧ K [D.agg [(dI n),(dS s)]]))
theorem s_tok (L : List (List D)) (i : Int) (b : Bool) (K : List D → Prop) : dwp (En Try.f64.ntmps []) (Try.f64.body.getD .skip) (endD (En Try.f64.ntmps []) 64 Try.f64.results.toList K) ⟨0,argM 0 [D.agg [.sl .no L,.v (.int .i64 i),.v (.bool b)]]⟩ = S_tok L i b K:=by kernel_rfl
theorem o_tok {L : List (List D)} {i : Int} {b : Bool} {Post : List D → Prop} (h : S_tok L i b Post) : OkP Try.prog 64 [D.agg [.sl .no L,.v (.int .i64 i),.v (.bool b)]] Post :=
 okp_sh [] Try.func64 (by kernel_rfl) (fun _ _=>by kernel_rfl) (by rw [s_tok];exact h)
def S_op (L : List (List D)) (i : Int) (b : Bool) (s : ByteArray) (K : List D → Prop) : Prop :=
 ∃ n s_1,Ok Try.prog 64 [D.agg [dL L,(dI i),(dB b)]] [D.agg [(dI n),(dS s_1)]] ∧ bcond (n == (13 : Int)) (∃ n s_2,Ok Try.prog 64 [D.agg [dL L,(dI i),(dB b)]] [D.agg [(dI n),(dS s_2)]] ∧ K [(dB (bif true then s_2.toList == s.toList else false))]) (K [(dB false)])
theorem s_op (L : List (List D)) (i : Int) (b : Bool) (s : ByteArray) (K : List D → Prop) : dwp (En Try.f69.ntmps []) (Try.f69.body.getD .skip) (endD (En Try.f69.ntmps []) 69 Try.f69.results.toList K) ⟨0,argM 0 [D.agg [.sl .no L,.v (.int .i64 i),.v (.bool b)],D.v (.string s)]⟩ = S_op L i b s K:=by kernel_rfl
theorem o_op {L : List (List D)} {i : Int} {b : Bool} {s : ByteArray} {Post : List D → Prop} (h : S_op L i b s Post) : OkP Try.prog 69 [D.agg [.sl .no L,.v (.int .i64 i),.v (.bool b)],D.v (.string s)] Post :=
 okp_sh [] Try.func69 (by kernel_rfl) (fun _ _=>by kernel_rfl) (by rw [s_op];exact h)
def S_word (L : List (List D)) (i : Int) (b : Bool) (s : ByteArray) (K : List D → Prop) : Prop :=
 ∃ n s_1,Ok Try.prog 64 [D.agg [dL L,(dI i),(dB b)]] [D.agg [(dI n),(dS s_1)]] ∧ bcond (n == (3 : Int)) (∃ n s_2,Ok Try.prog 64 [D.agg [dL L,(dI i),(dB b)]] [D.agg [(dI n),(dS s_2)]] ∧ K [(dB (bif true then s_2.toList == s.toList else false))]) (K [(dB false)])
theorem s_word (L : List (List D)) (i : Int) (b : Bool) (s : ByteArray) (K : List D → Prop) : dwp (En Try.f46.ntmps []) (Try.f46.body.getD .skip) (endD (En Try.f46.ntmps []) 46 Try.f46.results.toList K) ⟨0,argM 0 [D.agg [.sl .no L,.v (.int .i64 i),.v (.bool b)],D.v (.string s)]⟩ = S_word L i b s K:=by kernel_rfl
theorem o_word {L : List (List D)} {i : Int} {b : Bool} {s : ByteArray} {Post : List D → Prop} (h : S_word L i b s Post) : OkP Try.prog 46 [D.agg [.sl .no L,.v (.int .i64 i),.v (.bool b)],D.v (.string s)] Post :=
 okp_sh [] Try.func46 (by kernel_rfl) (fun _ _=>by kernel_rfl) (by rw [s_word];exact h)
def S_next (L : List (List D)) (i : Int) (b : Bool) (K : List D → Prop) : Prop :=
 bcond (!b) (K [D.agg [dL L,(dI (IntKind.i64.wrap (i + (1 : Int)))),(dB b)]]) (K [D.agg [dL L,(dI i),(dB b)]])
theorem s_next (L : List (List D)) (i : Int) (b : Bool) (K : List D → Prop) : dwp (En Try.f65.ntmps []) (Try.f65.body.getD .skip) (endD (En Try.f65.ntmps []) 65 Try.f65.results.toList K) ⟨0,argM 0 [D.agg [.sl .no L,.v (.int .i64 i),.v (.bool b)]]⟩ = S_next L i b K:=by kernel_rfl
theorem o_next {L : List (List D)} {i : Int} {b : Bool} {Post : List D → Prop} (h : S_next L i b Post) : OkP Try.prog 65 [D.agg [.sl .no L,.v (.int .i64 i),.v (.bool b)]] Post :=
 okp_sh [] Try.func65 (by kernel_rfl) (fun _ _=>by kernel_rfl) (by rw [s_next];exact h)
def S_wrong (L : List (List D)) (i : Int) (b : Bool) (K : List D → Prop) : Prop :=
 K [D.agg [dL L,(dI i),(dB true)]]
theorem s_wrong (L : List (List D)) (i : Int) (b : Bool) (K : List D → Prop) : dwp (En Try.f50.ntmps []) (Try.f50.body.getD .skip) (endD (En Try.f50.ntmps []) 50 Try.f50.results.toList K) ⟨0,argM 0 [D.agg [.sl .no L,.v (.int .i64 i),.v (.bool b)]]⟩ = S_wrong L i b K:=by kernel_rfl
theorem o_wrong {L : List (List D)} {i : Int} {b : Bool} {Post : List D → Prop} (h : S_wrong L i b Post) : OkP Try.prog 50 [D.agg [.sl .no L,.v (.int .i64 i),.v (.bool b)]] Post :=
 okp_sh [] Try.func50 (by kernel_rfl) (fun _ _=>by kernel_rfl) (by rw [s_wrong];exact h)
def S_need (L : List (List D)) (i : Int) (b : Bool) (s : ByteArray) (K : List D → Prop) : Prop :=
 ∃ b_1,Ok Try.prog 69 [D.agg [dL L,(dI i),(dB b)],(dS s)] [(dB b_1)] ∧ bcond b_1 (∃ es n b_2,Ok Try.prog 65 [D.agg [dL L,(dI i),(dB b)]] [D.agg [dL es,(dI n),(dB b_2)]] ∧ K [D.agg [dL es,(dI n),(dB b_2)]]) (∃ b_2,Ok Try.prog 46 [D.agg [dL L,(dI i),(dB b)],(dS s)] [(dB b_2)] ∧ bcond (bif false then true else b_2) (∃ es n b_3,Ok Try.prog 65 [D.agg [dL L,(dI i),(dB b)]] [D.agg [dL es,(dI n),(dB b_3)]] ∧ K [D.agg [dL es,(dI n),(dB b_3)]]) (∃ es n b_3,Ok Try.prog 50 [D.agg [dL L,(dI i),(dB b)]] [D.agg [dL es,(dI n),(dB b_3)]] ∧ K [D.agg [dL es,(dI n),(dB b_3)]]))
theorem s_need (L : List (List D)) (i : Int) (b : Bool) (s : ByteArray) (K : List D → Prop) : dwp (En Try.f67.ntmps []) (Try.f67.body.getD .skip) (endD (En Try.f67.ntmps []) 67 Try.f67.results.toList K) ⟨0,argM 0 [D.agg [.sl .no L,.v (.int .i64 i),.v (.bool b)],D.v (.string s)]⟩ = S_need L i b s K:=by kernel_rfl
theorem o_need {L : List (List D)} {i : Int} {b : Bool} {s : ByteArray} {Post : List D → Prop} (h : S_need L i b s Post) : OkP Try.prog 67 [D.agg [.sl .no L,.v (.int .i64 i),.v (.bool b)],D.v (.string s)] Post :=
 okp_sh [] Try.func67 (by kernel_rfl) (fun _ _=>by kernel_rfl) (by rw [s_need];exact h)
def S_kind (L : List (List D)) (i : Int) (b : Bool) (k : Int) (k2 : Int) (K : List D → Prop) : Prop :=
 ∃ n s,Ok Try.prog 64 [D.agg [dL L,(dI i),(dB b)]] [D.agg [(dI n),(dS s)]] ∧ bcond (n != k) (∃ es n b_1,Ok Try.prog 50 [D.agg [dL L,(dI i),(dB b)]] [D.agg [dL es,(dI n),(dB b_1)]] ∧ K [D.agg [dL es,(dI n),(dB b_1)],(dS (⟨#[]⟩ : ByteArray))]) (∃ es n b_1,Ok Try.prog 65 [D.agg [dL L,(dI i),(dB b)]] [D.agg [dL es,(dI n),(dB b_1)]] ∧ ∃ n_1 s,Ok Try.prog 64 [D.agg [dL L,(dI i),(dB b)]] [D.agg [(dI n_1),(dS s)]] ∧ ((0 : Int) ≤ k2 ∧ k2 ≤ (Int.ofNat s.size)) ∧ K [D.agg [dL es,(dI n),(dB b_1)],(dS (s.extract k2.toNat s.size))])
theorem s_kind (L : List (List D)) (i : Int) (b : Bool) (k : Int) (k2 : Int) (K : List D → Prop) : dwp (En Try.f84.ntmps []) (Try.f84.body.getD .skip) (endD (En Try.f84.ntmps []) 84 Try.f84.results.toList K) ⟨0,argM 0 [D.agg [.sl .no L,.v (.int .i64 i),.v (.bool b)],D.v (.int .i64 k),D.v (.int .i64 k2)]⟩ = S_kind L i b k k2 K:=by kernel_rfl
theorem o_kind {L : List (List D)} {i : Int} {b : Bool} {k : Int} {k2 : Int} {Post : List D → Prop} (h : S_kind L i b k k2 Post) : OkP Try.prog 84 [D.agg [.sl .no L,.v (.int .i64 i),.v (.bool b)],D.v (.int .i64 k),D.v (.int .i64 k2)] Post :=
 okp_sh [] Try.func84 (by kernel_rfl) (fun _ _=>by kernel_rfl) (by rw [s_kind];exact h)
def S_one (L : List (List D)) (i : Int) (b : Bool) (k : Int) (K : List D → Prop) : Prop :=
 ∃ es n b_1 s,Ok Try.prog 84 [D.agg [dL L,(dI i),(dB b)],(dI k),(dI 0)] [D.agg [dL es,(dI n),(dB b_1)],(dS s)] ∧ K [D.agg [dL es,(dI n),(dB b_1)]]
theorem s_one (L : List (List D)) (i : Int) (b : Bool) (k : Int) (K : List D → Prop) : dwp (En Try.f77.ntmps []) (Try.f77.body.getD .skip) (endD (En Try.f77.ntmps []) 77 Try.f77.results.toList K) ⟨0,argM 0 [D.agg [.sl .no L,.v (.int .i64 i),.v (.bool b)],D.v (.int .i64 k)]⟩ = S_one L i b k K:=by kernel_rfl
theorem o_one {L : List (List D)} {i : Int} {b : Bool} {k : Int} {Post : List D → Prop} (h : S_one L i b k Post) : OkP Try.prog 77 [D.agg [.sl .no L,.v (.int .i64 i),.v (.bool b)],D.v (.int .i64 k)] Post :=
 okp_sh [] Try.func77 (by kernel_rfl) (fun _ _=>by kernel_rfl) (by rw [s_one];exact h)
def S_name (L : List (List D)) (i : Int) (b : Bool) (K : List D → Prop) : Prop :=
 ∃ n s,Ok Try.prog 64 [D.agg [dL L,(dI i),(dB b)]] [D.agg [(dI n),(dS s)]] ∧ bcond (n != (3 : Int)) (∃ es n b_1,Ok Try.prog 50 [D.agg [dL L,(dI i),(dB b)]] [D.agg [dL es,(dI n),(dB b_1)]] ∧ K [D.agg [dL es,(dI n),(dB b_1)],(dS (⟨#[]⟩ : ByteArray))]) (∃ n s,Ok Try.prog 64 [D.agg [dL L,(dI i),(dB b)]] [D.agg [(dI n),(dS s)]] ∧ ∃ b_1,Ok Try.prog 78 [(dS s)] [(dB b_1)] ∧ bcond (bif false then true else !b_1) (∃ es n b_2,Ok Try.prog 50 [D.agg [dL L,(dI i),(dB b)]] [D.agg [dL es,(dI n),(dB b_2)]] ∧ K [D.agg [dL es,(dI n),(dB b_2)],(dS (⟨#[]⟩ : ByteArray))]) (∃ es n b_2,Ok Try.prog 65 [D.agg [dL L,(dI i),(dB b)]] [D.agg [dL es,(dI n),(dB b_2)]] ∧ ∃ n_1 s,Ok Try.prog 64 [D.agg [dL L,(dI i),(dB b)]] [D.agg [(dI n_1),(dS s)]] ∧ K [D.agg [dL es,(dI n),(dB b_2)],(dS s)]))
theorem s_name (L : List (List D)) (i : Int) (b : Bool) (K : List D → Prop) : dwp (En Try.f68.ntmps []) (Try.f68.body.getD .skip) (endD (En Try.f68.ntmps []) 68 Try.f68.results.toList K) ⟨0,argM 0 [D.agg [.sl .no L,.v (.int .i64 i),.v (.bool b)]]⟩ = S_name L i b K:=by kernel_rfl
theorem o_name {L : List (List D)} {i : Int} {b : Bool} {Post : List D → Prop} (h : S_name L i b Post) : OkP Try.prog 68 [D.agg [.sl .no L,.v (.int .i64 i),.v (.bool b)]] Post :=
 okp_sh [] Try.func68 (by kernel_rfl) (fun _ _=>by kernel_rfl) (by rw [s_name];exact h)
def S_oper (L : List (List D)) (i : Int) (b : Bool) (K : List D → Prop) : Prop :=
 ∃ n s,Ok Try.prog 64 [D.agg [dL L,(dI i),(dB b)]] [D.agg [(dI n),(dS s)]] ∧ ∃ s_1,Ok Try.prog 88 [D.agg [(dI n),(dS s)]] [(dS s_1)] ∧ K [(dS s_1)]
theorem s_oper (L : List (List D)) (i : Int) (b : Bool) (K : List D → Prop) : dwp (En Try.f80.ntmps []) (Try.f80.body.getD .skip) (endD (En Try.f80.ntmps []) 80 Try.f80.results.toList K) ⟨0,argM 0 [D.agg [.sl .no L,.v (.int .i64 i),.v (.bool b)]]⟩ = S_oper L i b K:=by kernel_rfl
theorem o_oper {L : List (List D)} {i : Int} {b : Bool} {Post : List D → Prop} (h : S_oper L i b Post) : OkP Try.prog 80 [D.agg [.sl .no L,.v (.int .i64 i),.v (.bool b)]] Post :=
 okp_sh [] Try.func80 (by kernel_rfl) (fun _ _=>by kernel_rfl) (by rw [s_oper];exact h)
def S_unit (L : List (List D)) (i : Int) (b : Bool) (K : List D → Prop) : Prop :=
 ∃ b_1,Ok Try.prog 69 [D.agg [dL L,(dI i),(dB b)],(dS (⟨#[45]⟩ : ByteArray))] [(dB b_1)] ∧ bcond b_1 (∃ es n b_2,Ok Try.prog 65 [D.agg [dL L,(dI i),(dB b)]] [D.agg [dL es,(dI n),(dB b_2)]] ∧ ∃ es_1 n_1 b n_2 s es_2,Ok Try.prog 101 [D.agg [dL es,(dI n),(dB b_2)]] [D.agg [dL es_1,(dI n_1),(dB b)],D.agg [(dI n_2),(dS s),dL es_2]] ∧ K [D.agg [dL es_1,(dI n_1),(dB b)],D.agg [(dI 25),(dS (⟨#[]⟩ : ByteArray)),dL [[(dI n_2),(dS s),dL es_2]]]]) (∃ es n b_2 n_1 s es_1,Ok Try.prog 86 [D.agg [dL L,(dI i),(dB b)]] [D.agg [dL es,(dI n),(dB b_2)],D.agg [(dI n_1),(dS s),dL es_1]] ∧ K [D.agg [dL es,(dI n),(dB b_2)],D.agg [(dI n_1),(dS s),dL es_1]])
theorem s_unit (L : List (List D)) (i : Int) (b : Bool) (K : List D → Prop) : dwp (En Try.f101.ntmps []) (Try.f101.body.getD .skip) (endD (En Try.f101.ntmps []) 101 Try.f101.results.toList K) ⟨0,argM 0 [D.agg [.sl .no L,.v (.int .i64 i),.v (.bool b)]]⟩ = S_unit L i b K:=by kernel_rfl
theorem o_unit {L : List (List D)} {i : Int} {b : Bool} {Post : List D → Prop} (h : S_unit L i b Post) : OkP Try.prog 101 [D.agg [.sl .no L,.v (.int .i64 i),.v (.bool b)]] Post :=
 okp_sh [] Try.func101 (by kernel_rfl) (fun _ _=>by kernel_rfl) (by rw [s_unit];exact h)
def S_value (L : List (List D)) (i : Int) (b : Bool) (K : List D → Prop) : Prop :=
 ∃ es n b_1 n_1 s es_1,Ok Try.prog 101 [D.agg [dL L,(dI i),(dB b)]] [D.agg [dL es,(dI n),(dB b_1)],D.agg [(dI n_1),(dS s),dL es_1]] ∧ ∃ b,Ok Try.prog 69 [D.agg [dL es,(dI n),(dB b_1)],(dS (⟨#[124]⟩ : ByteArray))] [(dB b)] ∧ bcond (!b) (K [D.agg [dL es,(dI n),(dB b_1)],D.agg [(dI n_1),(dS s),dL es_1]]) (∃ es_2 n_2 b,Ok Try.prog 65 [D.agg [dL es,(dI n),(dB b_1)]] [D.agg [dL es_2,(dI n_2),(dB b)]] ∧ ∃ es n b_2 n_3 s_1 es_3,Ok Try.prog 100 [D.agg [dL es_2,(dI n_2),(dB b)]] [D.agg [dL es,(dI n),(dB b_2)],D.agg [(dI n_3),(dS s_1),dL es_3]] ∧ K [D.agg [dL es,(dI n),(dB b_2)],D.agg [(dI 24),(dS (⟨#[124]⟩ : ByteArray)),dL [[(dI n_1),(dS s),dL es_1],[(dI n_3),(dS s_1),dL es_3]]]])
theorem s_value (L : List (List D)) (i : Int) (b : Bool) (K : List D → Prop) : dwp (En Try.f100.ntmps []) (Try.f100.body.getD .skip) (endD (En Try.f100.ntmps []) 100 Try.f100.results.toList K) ⟨0,argM 0 [D.agg [.sl .no L,.v (.int .i64 i),.v (.bool b)]]⟩ = S_value L i b K:=by kernel_rfl
theorem o_value {L : List (List D)} {i : Int} {b : Bool} {Post : List D → Prop} (h : S_value L i b Post) : OkP Try.prog 100 [D.agg [.sl .no L,.v (.int .i64 i),.v (.bool b)]] Post :=
 okp_sh [] Try.func100 (by kernel_rfl) (fun _ _=>by kernel_rfl) (by rw [s_value];exact h)
def lv_params : List (Nat × Ann):=[(2,[(0,1,none),(0,2,none),(0,4,some (25,3)),(2,0,none),(2,1,none),(2,2,none),(3,0,none),(3,1,none),(3,2,none)])]
def L_params_2_4 (L : List (List D)) (i : Int) (b : Bool) (K : List D → Prop) : Nat → List D → Prop :=
 dloopI (dwp (En Try.f70.ntmps lv_params) (subC [1,1,0,0] (Try.f70.body.getD .skip))) (ctxQ (En Try.f70.ntmps lv_params) [1,1,0] (Try.f70.body.getD .skip) (endD (En Try.f70.ntmps lv_params) 70 Try.f70.results.toList K)) [(0,1,none),(0,2,none),(0,4,some (25,3)),(2,0,none),(2,1,none),(2,2,none),(3,0,none),(3,1,none),(3,2,none)] 4
theorem l_params_2_4 (L : List (List D)) (i : Int) (b : Bool) (K : List D → Prop) (e0 : List (List D)) (e1 : List (List D)) (x2 : Int) (c3 : Bool) (x4 : Int) (c5 : Bool) (fu : Nat) : (L_params_2_4 L i b K (fu + 1) [D.ptr 0 0,D.ptr 1 0,dL e0,dL e1,(dI x2),(dB c3),D.sl Tk.nil [],(dI x4),(dB c5)]) = (∃ n s,Ok Try.prog 64 [D.agg [dL e1,(dI x2),(dB c3)]] [D.agg [(dI n),(dS s)]] ∧ bcond (n != (5 : Int)) (bcond (n != (3 : Int)) (∃ es n b,Ok Try.prog 50 [D.agg [dL e1,(dI x2),(dB c3)]] [D.agg [dL es,(dI n),(dB b)]] ∧ e0.length = e0.length ∧ K [D.agg [dL es,(dI n),(dB b)],D.sl (Tk.own 0 25 3) e0]) (∃ b,Ok Try.prog 78 [(dS s)] [(dB b)] ∧ bcond (bif true then bif false then true else !b else false) (∃ es n b,Ok Try.prog 50 [D.agg [dL e1,(dI x2),(dB c3)]] [D.agg [dL es,(dI n),(dB b)]] ∧ e0.length = e0.length ∧ K [D.agg [dL es,(dI n),(dB b)],D.sl (Tk.own 0 25 3) e0]) ((e0.length = e0.length ∧ (∀ (c : List D),c ∈ [[(dI 30),(dS s),dL []]] → c.length = 3) ∧ e0.length + 1 ≤ 16777216) ∧ ∃ es n b,Ok Try.prog 65 [D.agg [dL e1,(dI x2),(dB c3)]] [D.agg [dL es,(dI n),(dB b)]] ∧ ∃ b_1,Ok Try.prog 69 [D.agg [dL es,(dI n),(dB b)],(dS (⟨#[59]⟩ : ByteArray))] [(dB b_1)] ∧ bcond (!b_1) (∃ es_1 n_1 b_2,Ok Try.prog 67 [D.agg [dL es,(dI n),(dB b)],(dS (⟨#[41]⟩ : ByteArray))] [D.agg [dL es_1,(dI n_1),(dB b_2)]] ∧ e0.length + 1 = (e0 ++ [[(dI 30),(dS s),dL []]]).length ∧ K [D.agg [dL es_1,(dI n_1),(dB b_2)],D.sl (Tk.own 0 25 3) (e0 ++ [[(dI 30),(dS s),dL []]])]) (∃ es_1 n_1 b_2,Ok Try.prog 65 [D.agg [dL es,(dI n),(dB b)]] [D.agg [dL es_1,(dI n_1),(dB b_2)]] ∧ e0.length + 1 = (e0 ++ [[(dI 30),(dS s),dL []]]).length ∧ L_params_2_4 L i b K fu [D.ptr 0 0,D.ptr 1 0,dL (e0 ++ [[(dI 30),(dS s),dL []]]),dL es_1,(dI n_1),(dB b_2),D.sl Tk.nil [],(dI x4),(dB c5)])))) ((e0.length = e0.length ∧ (∀ (c : List D),c ∈ [[(dI 30),(dS s),dL []]] → c.length = 3) ∧ e0.length + 1 ≤ 16777216) ∧ ∃ es n b,Ok Try.prog 65 [D.agg [dL e1,(dI x2),(dB c3)]] [D.agg [dL es,(dI n),(dB b)]] ∧ ∃ b_1,Ok Try.prog 69 [D.agg [dL es,(dI n),(dB b)],(dS (⟨#[59]⟩ : ByteArray))] [(dB b_1)] ∧ bcond (!b_1) (∃ es_1 n_1 b_2,Ok Try.prog 67 [D.agg [dL es,(dI n),(dB b)],(dS (⟨#[41]⟩ : ByteArray))] [D.agg [dL es_1,(dI n_1),(dB b_2)]] ∧ e0.length + 1 = (e0 ++ [[(dI 30),(dS s),dL []]]).length ∧ K [D.agg [dL es_1,(dI n_1),(dB b_2)],D.sl (Tk.own 0 25 3) (e0 ++ [[(dI 30),(dS s),dL []]])]) (∃ es_1 n_1 b_2,Ok Try.prog 65 [D.agg [dL es,(dI n),(dB b)]] [D.agg [dL es_1,(dI n_1),(dB b_2)]] ∧ e0.length + 1 = (e0 ++ [[(dI 30),(dS s),dL []]]).length ∧ L_params_2_4 L i b K fu [D.ptr 0 0,D.ptr 1 0,dL (e0 ++ [[(dI 30),(dS s),dL []]]),dL es_1,(dI n_1),(dB b_2),D.sl Tk.nil [],(dI x4),(dB c5)]))):=by kernel_rfl
def S_params (L : List (List D)) (i : Int) (b : Bool) (K : List D → Prop) : Prop :=
 ∃ k,L_params_2_4 L i b K k [D.ptr 0 0,D.ptr 1 0,dL [],dL L,(dI i),(dB b),D.sl Tk.nil [],(dI 0),(dB false)]
theorem s_params (L : List (List D)) (i : Int) (b : Bool) (K : List D → Prop) : dwp (En Try.f70.ntmps lv_params) (Try.f70.body.getD .skip) (endD (En Try.f70.ntmps lv_params) 70 Try.f70.results.toList K) ⟨0,argM 0 [D.agg [.sl .no L,.v (.int .i64 i),.v (.bool b)]]⟩ = S_params L i b K:=by kernel_rfl
theorem o_params {L : List (List D)} {i : Int} {b : Bool} {Post : List D → Prop} (h : S_params L i b Post) : OkP Try.prog 70 [D.agg [.sl .no L,.v (.int .i64 i),.v (.bool b)]] Post :=
 okp_sh lv_params Try.func70 (by kernel_rfl) (fun _ _=>by kernel_rfl) (by rw [s_params];exact h)
end Go.Proofs.Ythadnhpkeljdoaa.pv
namespace Go.Proofs.Ythadnhpkeljdoaa.pv
open Go.RowKit
def S_Short (l : List (List D)) (K : List D → Prop) : Prop :=
 ((((0 : Int) ≤ if (60 : Int) < (Int.ofNat l.length) then (60 : Int) else (Int.ofNat l.length)) ∧ (if (60 : Int) < (Int.ofNat l.length) then (60 : Int) else (Int.ofNat l.length)) ≤ (Int.ofNat l.length)) ∧ ∀ (c : List D),c ∈ l → c.length = 1) ∧ K [dL (List.take (if (60 : Int) < (Int.ofNat l.length) then (60 : Int) else (Int.ofNat l.length)).toNat l)]
theorem s_Short (l : List (List D)) (K : List D → Prop) : dwp (En Try.f11.ntmps []) (Try.f11.body.getD .skip) (endD (En Try.f11.ntmps []) 11 Try.f11.results.toList K) ⟨0,argM 0 [D.sl .no l]⟩ = S_Short l K:=by kernel_rfl
theorem o_Short {l : List (List D)} {Post : List D → Prop} (h : S_Short l Post) : OkP Try.prog 11 [D.sl .no l] Post :=
 okp_sh [] Try.func11 (by kernel_rfl) (fun _ _=>by kernel_rfl) (by rw [s_Short];exact h)
def S_Parsed (l : List (List D)) (K : List D → Prop) : Prop :=
 ∃ es,Ok Try.prog 11 [dL l] [dL es] ∧ ∃ s,Ok Try.prog 10 [dL es] [(dS s)] ∧ ∃ n s_1 es n_1 n_2,Ok Try.prog 9 [(dS s)] [D.agg [(dI n),(dS s_1),dL es],(dI n_1),(dI n_2)] ∧ K [D.agg [(dI n),(dS s_1),dL es],(dB (n_1 == (0 : Int)))]
theorem s_Parsed (l : List (List D)) (K : List D → Prop) : dwp (En Try.f4.ntmps []) (Try.f4.body.getD .skip) (endD (En Try.f4.ntmps []) 4 Try.f4.results.toList K) ⟨0,argM 0 [D.sl .no l]⟩ = S_Parsed l K:=by kernel_rfl
theorem o_Parsed {l : List (List D)} {Post : List D → Prop} (h : S_Parsed l Post) : OkP Try.prog 4 [D.sl .no l] Post :=
 okp_sh [] Try.func4 (by kernel_rfl) (fun _ _=>by kernel_rfl) (by rw [s_Parsed];exact h)
end Go.Proofs.Ythadnhpkeljdoaa.pv
namespace Go.Proofs.Ythadnhpkeljdoaa.pv
open Go.RowKit
def S_known  (K : List D → Prop) : Prop :=
 ∃ n s es n_1 n_2,Ok Try.prog 9 [(dS (⟨#[40,40,49,41,41]⟩ : ByteArray))] [D.agg [(dI n),(dS s),dL es],(dI n_1),(dI n_2)] ∧ ∃ n_3 s_1 es_1 n_4 n_5,Ok Try.prog 9 [(dS (⟨#[49]⟩ : ByteArray))] [D.agg [(dI n_3),(dS s_1),dL es_1],(dI n_4),(dI n_5)] ∧ ∃ n_6 s_2 es_2,Ok Try.prog 16 [D.agg [(dI n),(dS s),dL es]] [D.agg [(dI n_6),(dS s_2),dL es_2]] ∧ ∃ b,Ok Try.prog 15 [D.agg [(dI n_6),(dS s_2),dL es_2],D.agg [(dI n_3),(dS s_1),dL es_1]] [(dB b)] ∧ bcond b (∃ b,Ok Try.prog 17 [D.agg [(dI n),(dS s),dL es],D.agg [(dI n_3),(dS s_1),dL es_1]] [(dB b)] ∧ bcond (bif true then b else false) (∃ es_3,Ok Try.prog 6 [D.agg [(dI n),(dS s),dL es]] [dL es_3] ∧ K [(dB (bif true then (Int.ofNat es_3.length) == (2 : Int) else false))]) (K [(dB false)])) (K [(dB false)])
theorem s_known  (K : List D → Prop) : dwp (En Try.f8.ntmps []) (Try.f8.body.getD .skip) (endD (En Try.f8.ntmps []) 8 Try.f8.results.toList K) ⟨0,argM 0 []⟩ = S_known  K:=by kernel_rfl
theorem o_known  {Post : List D → Prop} (h : S_known  Post) : OkP Try.prog 8 [] Post :=
 okp_sh [] Try.func8 (by kernel_rfl) (fun _ _=>by kernel_rfl) (by rw [s_known];exact h)
end Go.Proofs.Ythadnhpkeljdoaa.pv
