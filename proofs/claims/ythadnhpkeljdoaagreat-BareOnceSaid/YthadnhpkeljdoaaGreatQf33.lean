/- Ground of the law: PvR1, PvBl, PvBk. -/
import Derived.Test.YthadnhpkeljdoaaGreatQf29
set_option maxRecDepth 100000
set_option maxHeartbeats 8000000
set_option linter.unusedVariables false
set_option linter.unusedSimpArgs false
namespace Go.Proofs.YthadnhpkeljdoaaGreat.pv
open Go.RowKit
def S_tok (L : List (List D)) (i : Int) (b : Bool) (K : List D → Prop) : Prop :=
 bcond b (K [D.agg [(dI 0),(dS (⟨#[]⟩ : ByteArray))]]) (bcond (bif false then true else decide (i ≥ (Int.ofNat L.length))) (K [D.agg [(dI 0),(dS (⟨#[]⟩ : ByteArray))]]) ((0 : Int) ≤ i ∧ ∃ n s n_1 es,L[i.toNat]? = some [(dI n),(dS s),(dI n_1),dL es] ∧ K [D.agg [(dI n),(dS s)]]))
theorem s_tok (L : List (List D)) (i : Int) (b : Bool) (K : List D → Prop) : dwp (En Tryz.f91.ntmps []) (Tryz.f91.body.getD .skip) (endD (En Tryz.f91.ntmps []) 91 Tryz.f91.results.toList K) ⟨0,argM 0 [D.agg [.sl .no L,.v (.int .i64 i),.v (.bool b)]]⟩ = S_tok L i b K:=by kernel_rfl
theorem o_tok {L : List (List D)} {i : Int} {b : Bool} {Post : List D → Prop} (h : S_tok L i b Post) : OkP Tryz.prog 91 [D.agg [.sl .no L,.v (.int .i64 i),.v (.bool b)]] Post :=
 okp_sh [] Tryz.func91 (by kernel_rfl) (fun _ _=>by kernel_rfl) (by rw [s_tok];exact h)
def S_op (L : List (List D)) (i : Int) (b : Bool) (s : ByteArray) (K : List D → Prop) : Prop :=
 ∃ n s_1,Ok Tryz.prog 91 [D.agg [dL L,(dI i),(dB b)]] [D.agg [(dI n),(dS s_1)]] ∧ bcond (n == (13 : Int)) (∃ n s_2,Ok Tryz.prog 91 [D.agg [dL L,(dI i),(dB b)]] [D.agg [(dI n),(dS s_2)]] ∧ K [(dB (bif true then s_2.toList == s.toList else false))]) (K [(dB false)])
theorem s_op (L : List (List D)) (i : Int) (b : Bool) (s : ByteArray) (K : List D → Prop) : dwp (En Tryz.f96.ntmps []) (Tryz.f96.body.getD .skip) (endD (En Tryz.f96.ntmps []) 96 Tryz.f96.results.toList K) ⟨0,argM 0 [D.agg [.sl .no L,.v (.int .i64 i),.v (.bool b)],D.v (.string s)]⟩ = S_op L i b s K:=by kernel_rfl
theorem o_op {L : List (List D)} {i : Int} {b : Bool} {s : ByteArray} {Post : List D → Prop} (h : S_op L i b s Post) : OkP Tryz.prog 96 [D.agg [.sl .no L,.v (.int .i64 i),.v (.bool b)],D.v (.string s)] Post :=
 okp_sh [] Tryz.func96 (by kernel_rfl) (fun _ _=>by kernel_rfl) (by rw [s_op];exact h)
def S_word (L : List (List D)) (i : Int) (b : Bool) (s : ByteArray) (K : List D → Prop) : Prop :=
 ∃ n s_1,Ok Tryz.prog 91 [D.agg [dL L,(dI i),(dB b)]] [D.agg [(dI n),(dS s_1)]] ∧ bcond (n == (3 : Int)) (∃ n s_2,Ok Tryz.prog 91 [D.agg [dL L,(dI i),(dB b)]] [D.agg [(dI n),(dS s_2)]] ∧ K [(dB (bif true then s_2.toList == s.toList else false))]) (K [(dB false)])
theorem s_word (L : List (List D)) (i : Int) (b : Bool) (s : ByteArray) (K : List D → Prop) : dwp (En Tryz.f74.ntmps []) (Tryz.f74.body.getD .skip) (endD (En Tryz.f74.ntmps []) 74 Tryz.f74.results.toList K) ⟨0,argM 0 [D.agg [.sl .no L,.v (.int .i64 i),.v (.bool b)],D.v (.string s)]⟩ = S_word L i b s K:=by kernel_rfl
theorem o_word {L : List (List D)} {i : Int} {b : Bool} {s : ByteArray} {Post : List D → Prop} (h : S_word L i b s Post) : OkP Tryz.prog 74 [D.agg [.sl .no L,.v (.int .i64 i),.v (.bool b)],D.v (.string s)] Post :=
 okp_sh [] Tryz.func74 (by kernel_rfl) (fun _ _=>by kernel_rfl) (by rw [s_word];exact h)
def S_next (L : List (List D)) (i : Int) (b : Bool) (K : List D → Prop) : Prop :=
 bcond (!b) (K [D.agg [dL L,(dI (IntKind.i64.wrap (i + (1 : Int)))),(dB b)]]) (K [D.agg [dL L,(dI i),(dB b)]])
theorem s_next (L : List (List D)) (i : Int) (b : Bool) (K : List D → Prop) : dwp (En Tryz.f92.ntmps []) (Tryz.f92.body.getD .skip) (endD (En Tryz.f92.ntmps []) 92 Tryz.f92.results.toList K) ⟨0,argM 0 [D.agg [.sl .no L,.v (.int .i64 i),.v (.bool b)]]⟩ = S_next L i b K:=by kernel_rfl
theorem o_next {L : List (List D)} {i : Int} {b : Bool} {Post : List D → Prop} (h : S_next L i b Post) : OkP Tryz.prog 92 [D.agg [.sl .no L,.v (.int .i64 i),.v (.bool b)]] Post :=
 okp_sh [] Tryz.func92 (by kernel_rfl) (fun _ _=>by kernel_rfl) (by rw [s_next];exact h)
def S_wrong (L : List (List D)) (i : Int) (b : Bool) (K : List D → Prop) : Prop :=
 K [D.agg [dL L,(dI i),(dB true)]]
theorem s_wrong (L : List (List D)) (i : Int) (b : Bool) (K : List D → Prop) : dwp (En Tryz.f78.ntmps []) (Tryz.f78.body.getD .skip) (endD (En Tryz.f78.ntmps []) 78 Tryz.f78.results.toList K) ⟨0,argM 0 [D.agg [.sl .no L,.v (.int .i64 i),.v (.bool b)]]⟩ = S_wrong L i b K:=by kernel_rfl
theorem o_wrong {L : List (List D)} {i : Int} {b : Bool} {Post : List D → Prop} (h : S_wrong L i b Post) : OkP Tryz.prog 78 [D.agg [.sl .no L,.v (.int .i64 i),.v (.bool b)]] Post :=
 okp_sh [] Tryz.func78 (by kernel_rfl) (fun _ _=>by kernel_rfl) (by rw [s_wrong];exact h)
def S_need (L : List (List D)) (i : Int) (b : Bool) (s : ByteArray) (K : List D → Prop) : Prop :=
 ∃ b_1,Ok Tryz.prog 96 [D.agg [dL L,(dI i),(dB b)],(dS s)] [(dB b_1)] ∧ bcond b_1 (∃ es n b_2,Ok Tryz.prog 92 [D.agg [dL L,(dI i),(dB b)]] [D.agg [dL es,(dI n),(dB b_2)]] ∧ K [D.agg [dL es,(dI n),(dB b_2)]]) (∃ b_2,Ok Tryz.prog 74 [D.agg [dL L,(dI i),(dB b)],(dS s)] [(dB b_2)] ∧ bcond (bif false then true else b_2) (∃ es n b_3,Ok Tryz.prog 92 [D.agg [dL L,(dI i),(dB b)]] [D.agg [dL es,(dI n),(dB b_3)]] ∧ K [D.agg [dL es,(dI n),(dB b_3)]]) (∃ es n b_3,Ok Tryz.prog 78 [D.agg [dL L,(dI i),(dB b)]] [D.agg [dL es,(dI n),(dB b_3)]] ∧ K [D.agg [dL es,(dI n),(dB b_3)]]))
theorem s_need (L : List (List D)) (i : Int) (b : Bool) (s : ByteArray) (K : List D → Prop) : dwp (En Tryz.f94.ntmps []) (Tryz.f94.body.getD .skip) (endD (En Tryz.f94.ntmps []) 94 Tryz.f94.results.toList K) ⟨0,argM 0 [D.agg [.sl .no L,.v (.int .i64 i),.v (.bool b)],D.v (.string s)]⟩ = S_need L i b s K:=by kernel_rfl
theorem o_need {L : List (List D)} {i : Int} {b : Bool} {s : ByteArray} {Post : List D → Prop} (h : S_need L i b s Post) : OkP Tryz.prog 94 [D.agg [.sl .no L,.v (.int .i64 i),.v (.bool b)],D.v (.string s)] Post :=
 okp_sh [] Tryz.func94 (by kernel_rfl) (fun _ _=>by kernel_rfl) (by rw [s_need];exact h)
def S_kind (L : List (List D)) (i : Int) (b : Bool) (k : Int) (k2 : Int) (K : List D → Prop) : Prop :=
 ∃ n s,Ok Tryz.prog 91 [D.agg [dL L,(dI i),(dB b)]] [D.agg [(dI n),(dS s)]] ∧ bcond (n != k) (∃ es n b_1,Ok Tryz.prog 78 [D.agg [dL L,(dI i),(dB b)]] [D.agg [dL es,(dI n),(dB b_1)]] ∧ K [D.agg [dL es,(dI n),(dB b_1)],(dS (⟨#[]⟩ : ByteArray))]) (∃ es n b_1,Ok Tryz.prog 92 [D.agg [dL L,(dI i),(dB b)]] [D.agg [dL es,(dI n),(dB b_1)]] ∧ ∃ n_1 s,Ok Tryz.prog 91 [D.agg [dL L,(dI i),(dB b)]] [D.agg [(dI n_1),(dS s)]] ∧ ((0 : Int) ≤ k2 ∧ k2 ≤ (Int.ofNat s.size)) ∧ K [D.agg [dL es,(dI n),(dB b_1)],(dS (s.extract k2.toNat s.size))])
theorem s_kind (L : List (List D)) (i : Int) (b : Bool) (k : Int) (k2 : Int) (K : List D → Prop) : dwp (En Tryz.f111.ntmps []) (Tryz.f111.body.getD .skip) (endD (En Tryz.f111.ntmps []) 111 Tryz.f111.results.toList K) ⟨0,argM 0 [D.agg [.sl .no L,.v (.int .i64 i),.v (.bool b)],D.v (.int .i64 k),D.v (.int .i64 k2)]⟩ = S_kind L i b k k2 K:=by kernel_rfl
theorem o_kind {L : List (List D)} {i : Int} {b : Bool} {k : Int} {k2 : Int} {Post : List D → Prop} (h : S_kind L i b k k2 Post) : OkP Tryz.prog 111 [D.agg [.sl .no L,.v (.int .i64 i),.v (.bool b)],D.v (.int .i64 k),D.v (.int .i64 k2)] Post :=
 okp_sh [] Tryz.func111 (by kernel_rfl) (fun _ _=>by kernel_rfl) (by rw [s_kind];exact h)
def S_one (L : List (List D)) (i : Int) (b : Bool) (k : Int) (K : List D → Prop) : Prop :=
 ∃ es n b_1 s,Ok Tryz.prog 111 [D.agg [dL L,(dI i),(dB b)],(dI k),(dI 0)] [D.agg [dL es,(dI n),(dB b_1)],(dS s)] ∧ K [D.agg [dL es,(dI n),(dB b_1)]]
theorem s_one (L : List (List D)) (i : Int) (b : Bool) (k : Int) (K : List D → Prop) : dwp (En Tryz.f104.ntmps []) (Tryz.f104.body.getD .skip) (endD (En Tryz.f104.ntmps []) 104 Tryz.f104.results.toList K) ⟨0,argM 0 [D.agg [.sl .no L,.v (.int .i64 i),.v (.bool b)],D.v (.int .i64 k)]⟩ = S_one L i b k K:=by kernel_rfl
theorem o_one {L : List (List D)} {i : Int} {b : Bool} {k : Int} {Post : List D → Prop} (h : S_one L i b k Post) : OkP Tryz.prog 104 [D.agg [.sl .no L,.v (.int .i64 i),.v (.bool b)],D.v (.int .i64 k)] Post :=
 okp_sh [] Tryz.func104 (by kernel_rfl) (fun _ _=>by kernel_rfl) (by rw [s_one];exact h)
def S_name (L : List (List D)) (i : Int) (b : Bool) (K : List D → Prop) : Prop :=
 ∃ n s,Ok Tryz.prog 91 [D.agg [dL L,(dI i),(dB b)]] [D.agg [(dI n),(dS s)]] ∧ bcond (n != (3 : Int)) (∃ es n b_1,Ok Tryz.prog 78 [D.agg [dL L,(dI i),(dB b)]] [D.agg [dL es,(dI n),(dB b_1)]] ∧ K [D.agg [dL es,(dI n),(dB b_1)],(dS (⟨#[]⟩ : ByteArray))]) (∃ n s,Ok Tryz.prog 91 [D.agg [dL L,(dI i),(dB b)]] [D.agg [(dI n),(dS s)]] ∧ ∃ b_1,Ok Tryz.prog 105 [(dS s)] [(dB b_1)] ∧ bcond (bif false then true else !b_1) (∃ es n b_2,Ok Tryz.prog 78 [D.agg [dL L,(dI i),(dB b)]] [D.agg [dL es,(dI n),(dB b_2)]] ∧ K [D.agg [dL es,(dI n),(dB b_2)],(dS (⟨#[]⟩ : ByteArray))]) (∃ es n b_2,Ok Tryz.prog 92 [D.agg [dL L,(dI i),(dB b)]] [D.agg [dL es,(dI n),(dB b_2)]] ∧ ∃ n_1 s,Ok Tryz.prog 91 [D.agg [dL L,(dI i),(dB b)]] [D.agg [(dI n_1),(dS s)]] ∧ K [D.agg [dL es,(dI n),(dB b_2)],(dS s)]))
theorem s_name (L : List (List D)) (i : Int) (b : Bool) (K : List D → Prop) : dwp (En Tryz.f95.ntmps []) (Tryz.f95.body.getD .skip) (endD (En Tryz.f95.ntmps []) 95 Tryz.f95.results.toList K) ⟨0,argM 0 [D.agg [.sl .no L,.v (.int .i64 i),.v (.bool b)]]⟩ = S_name L i b K:=by kernel_rfl
theorem o_name {L : List (List D)} {i : Int} {b : Bool} {Post : List D → Prop} (h : S_name L i b Post) : OkP Tryz.prog 95 [D.agg [.sl .no L,.v (.int .i64 i),.v (.bool b)]] Post :=
 okp_sh [] Tryz.func95 (by kernel_rfl) (fun _ _=>by kernel_rfl) (by rw [s_name];exact h)
def S_oper (L : List (List D)) (i : Int) (b : Bool) (K : List D → Prop) : Prop :=
 ∃ n s,Ok Tryz.prog 91 [D.agg [dL L,(dI i),(dB b)]] [D.agg [(dI n),(dS s)]] ∧ ∃ s_1,Ok Tryz.prog 115 [D.agg [(dI n),(dS s)]] [(dS s_1)] ∧ K [(dS s_1)]
theorem s_oper (L : List (List D)) (i : Int) (b : Bool) (K : List D → Prop) : dwp (En Tryz.f107.ntmps []) (Tryz.f107.body.getD .skip) (endD (En Tryz.f107.ntmps []) 107 Tryz.f107.results.toList K) ⟨0,argM 0 [D.agg [.sl .no L,.v (.int .i64 i),.v (.bool b)]]⟩ = S_oper L i b K:=by kernel_rfl
theorem o_oper {L : List (List D)} {i : Int} {b : Bool} {Post : List D → Prop} (h : S_oper L i b Post) : OkP Tryz.prog 107 [D.agg [.sl .no L,.v (.int .i64 i),.v (.bool b)]] Post :=
 okp_sh [] Tryz.func107 (by kernel_rfl) (fun _ _=>by kernel_rfl) (by rw [s_oper];exact h)
def S_unit (L : List (List D)) (i : Int) (b : Bool) (K : List D → Prop) : Prop :=
 ∃ b_1,Ok Tryz.prog 96 [D.agg [dL L,(dI i),(dB b)],(dS (⟨#[45]⟩ : ByteArray))] [(dB b_1)] ∧ bcond b_1 (∃ es n b_2,Ok Tryz.prog 92 [D.agg [dL L,(dI i),(dB b)]] [D.agg [dL es,(dI n),(dB b_2)]] ∧ ∃ es_1 n_1 b n_2 s es_2,Ok Tryz.prog 128 [D.agg [dL es,(dI n),(dB b_2)]] [D.agg [dL es_1,(dI n_1),(dB b)],D.agg [(dI n_2),(dS s),dL es_2]] ∧ K [D.agg [dL es_1,(dI n_1),(dB b)],D.agg [(dI 25),(dS (⟨#[]⟩ : ByteArray)),dL [[(dI n_2),(dS s),dL es_2]]]]) (∃ es n b_2 n_1 s es_1,Ok Tryz.prog 113 [D.agg [dL L,(dI i),(dB b)]] [D.agg [dL es,(dI n),(dB b_2)],D.agg [(dI n_1),(dS s),dL es_1]] ∧ K [D.agg [dL es,(dI n),(dB b_2)],D.agg [(dI n_1),(dS s),dL es_1]])
theorem s_unit (L : List (List D)) (i : Int) (b : Bool) (K : List D → Prop) : dwp (En Tryz.f128.ntmps []) (Tryz.f128.body.getD .skip) (endD (En Tryz.f128.ntmps []) 128 Tryz.f128.results.toList K) ⟨0,argM 0 [D.agg [.sl .no L,.v (.int .i64 i),.v (.bool b)]]⟩ = S_unit L i b K:=by kernel_rfl
theorem o_unit {L : List (List D)} {i : Int} {b : Bool} {Post : List D → Prop} (h : S_unit L i b Post) : OkP Tryz.prog 128 [D.agg [.sl .no L,.v (.int .i64 i),.v (.bool b)]] Post :=
 okp_sh [] Tryz.func128 (by kernel_rfl) (fun _ _=>by kernel_rfl) (by rw [s_unit];exact h)
def S_value (L : List (List D)) (i : Int) (b : Bool) (K : List D → Prop) : Prop :=
 ∃ es n b_1 n_1 s es_1,Ok Tryz.prog 128 [D.agg [dL L,(dI i),(dB b)]] [D.agg [dL es,(dI n),(dB b_1)],D.agg [(dI n_1),(dS s),dL es_1]] ∧ ∃ b,Ok Tryz.prog 96 [D.agg [dL es,(dI n),(dB b_1)],(dS (⟨#[124]⟩ : ByteArray))] [(dB b)] ∧ bcond (!b) (K [D.agg [dL es,(dI n),(dB b_1)],D.agg [(dI n_1),(dS s),dL es_1]]) (∃ es_2 n_2 b,Ok Tryz.prog 92 [D.agg [dL es,(dI n),(dB b_1)]] [D.agg [dL es_2,(dI n_2),(dB b)]] ∧ ∃ es n b_2 n_3 s_1 es_3,Ok Tryz.prog 127 [D.agg [dL es_2,(dI n_2),(dB b)]] [D.agg [dL es,(dI n),(dB b_2)],D.agg [(dI n_3),(dS s_1),dL es_3]] ∧ K [D.agg [dL es,(dI n),(dB b_2)],D.agg [(dI 24),(dS (⟨#[124]⟩ : ByteArray)),dL [[(dI n_1),(dS s),dL es_1],[(dI n_3),(dS s_1),dL es_3]]]])
theorem s_value (L : List (List D)) (i : Int) (b : Bool) (K : List D → Prop) : dwp (En Tryz.f127.ntmps []) (Tryz.f127.body.getD .skip) (endD (En Tryz.f127.ntmps []) 127 Tryz.f127.results.toList K) ⟨0,argM 0 [D.agg [.sl .no L,.v (.int .i64 i),.v (.bool b)]]⟩ = S_value L i b K:=by kernel_rfl
theorem o_value {L : List (List D)} {i : Int} {b : Bool} {Post : List D → Prop} (h : S_value L i b Post) : OkP Tryz.prog 127 [D.agg [.sl .no L,.v (.int .i64 i),.v (.bool b)]] Post :=
 okp_sh [] Tryz.func127 (by kernel_rfl) (fun _ _=>by kernel_rfl) (by rw [s_value];exact h)
def lv_params : List (Nat × Ann):=[(2,[(0,1,none),(0,2,none),(0,4,some (27,3)),(2,0,none),(2,1,none),(2,2,none),(3,0,none),(3,1,none),(3,2,none)])]
def L_params_2_4 (L : List (List D)) (i : Int) (b : Bool) (K : List D → Prop) : Nat → List D → Prop :=
 dloopI (dwp (En Tryz.f97.ntmps lv_params) (subC [1,1,0,0] (Tryz.f97.body.getD .skip))) (ctxQ (En Tryz.f97.ntmps lv_params) [1,1,0] (Tryz.f97.body.getD .skip) (endD (En Tryz.f97.ntmps lv_params) 97 Tryz.f97.results.toList K)) [(0,1,none),(0,2,none),(0,4,some (27,3)),(2,0,none),(2,1,none),(2,2,none),(3,0,none),(3,1,none),(3,2,none)] 4
theorem l_params_2_4 (L : List (List D)) (i : Int) (b : Bool) (K : List D → Prop) (e0 : List (List D)) (e1 : List (List D)) (x2 : Int) (c3 : Bool) (x4 : Int) (c5 : Bool) (fu : Nat) : (L_params_2_4 L i b K (fu + 1) [D.ptr 0 0,D.ptr 1 0,dL e0,dL e1,(dI x2),(dB c3),D.sl Tk.nil [],(dI x4),(dB c5)]) = (∃ n s,Ok Tryz.prog 91 [D.agg [dL e1,(dI x2),(dB c3)]] [D.agg [(dI n),(dS s)]] ∧ bcond (n != (5 : Int)) (bcond (n != (3 : Int)) (∃ es n b,Ok Tryz.prog 78 [D.agg [dL e1,(dI x2),(dB c3)]] [D.agg [dL es,(dI n),(dB b)]] ∧ e0.length = e0.length ∧ K [D.agg [dL es,(dI n),(dB b)],D.sl (Tk.own 0 27 3) e0]) (∃ b,Ok Tryz.prog 105 [(dS s)] [(dB b)] ∧ bcond (bif true then bif false then true else !b else false) (∃ es n b,Ok Tryz.prog 78 [D.agg [dL e1,(dI x2),(dB c3)]] [D.agg [dL es,(dI n),(dB b)]] ∧ e0.length = e0.length ∧ K [D.agg [dL es,(dI n),(dB b)],D.sl (Tk.own 0 27 3) e0]) ((e0.length = e0.length ∧ (∀ (c : List D),c ∈ [[(dI 30),(dS s),dL []]] → c.length = 3) ∧ e0.length + 1 ≤ 16777216) ∧ ∃ es n b,Ok Tryz.prog 92 [D.agg [dL e1,(dI x2),(dB c3)]] [D.agg [dL es,(dI n),(dB b)]] ∧ ∃ b_1,Ok Tryz.prog 96 [D.agg [dL es,(dI n),(dB b)],(dS (⟨#[59]⟩ : ByteArray))] [(dB b_1)] ∧ bcond (!b_1) (∃ es_1 n_1 b_2,Ok Tryz.prog 94 [D.agg [dL es,(dI n),(dB b)],(dS (⟨#[41]⟩ : ByteArray))] [D.agg [dL es_1,(dI n_1),(dB b_2)]] ∧ e0.length + 1 = (e0 ++ [[(dI 30),(dS s),dL []]]).length ∧ K [D.agg [dL es_1,(dI n_1),(dB b_2)],D.sl (Tk.own 0 27 3) (e0 ++ [[(dI 30),(dS s),dL []]])]) (∃ es_1 n_1 b_2,Ok Tryz.prog 92 [D.agg [dL es,(dI n),(dB b)]] [D.agg [dL es_1,(dI n_1),(dB b_2)]] ∧ e0.length + 1 = (e0 ++ [[(dI 30),(dS s),dL []]]).length ∧ L_params_2_4 L i b K fu [D.ptr 0 0,D.ptr 1 0,dL (e0 ++ [[(dI 30),(dS s),dL []]]),dL es_1,(dI n_1),(dB b_2),D.sl Tk.nil [],(dI x4),(dB c5)])))) ((e0.length = e0.length ∧ (∀ (c : List D),c ∈ [[(dI 30),(dS s),dL []]] → c.length = 3) ∧ e0.length + 1 ≤ 16777216) ∧ ∃ es n b,Ok Tryz.prog 92 [D.agg [dL e1,(dI x2),(dB c3)]] [D.agg [dL es,(dI n),(dB b)]] ∧ ∃ b_1,Ok Tryz.prog 96 [D.agg [dL es,(dI n),(dB b)],(dS (⟨#[59]⟩ : ByteArray))] [(dB b_1)] ∧ bcond (!b_1) (∃ es_1 n_1 b_2,Ok Tryz.prog 94 [D.agg [dL es,(dI n),(dB b)],(dS (⟨#[41]⟩ : ByteArray))] [D.agg [dL es_1,(dI n_1),(dB b_2)]] ∧ e0.length + 1 = (e0 ++ [[(dI 30),(dS s),dL []]]).length ∧ K [D.agg [dL es_1,(dI n_1),(dB b_2)],D.sl (Tk.own 0 27 3) (e0 ++ [[(dI 30),(dS s),dL []]])]) (∃ es_1 n_1 b_2,Ok Tryz.prog 92 [D.agg [dL es,(dI n),(dB b)]] [D.agg [dL es_1,(dI n_1),(dB b_2)]] ∧ e0.length + 1 = (e0 ++ [[(dI 30),(dS s),dL []]]).length ∧ L_params_2_4 L i b K fu [D.ptr 0 0,D.ptr 1 0,dL (e0 ++ [[(dI 30),(dS s),dL []]]),dL es_1,(dI n_1),(dB b_2),D.sl Tk.nil [],(dI x4),(dB c5)]))):=by kernel_rfl
def S_params (L : List (List D)) (i : Int) (b : Bool) (K : List D → Prop) : Prop :=
 ∃ k,L_params_2_4 L i b K k [D.ptr 0 0,D.ptr 1 0,dL [],dL L,(dI i),(dB b),D.sl Tk.nil [],(dI 0),(dB false)]
theorem s_params (L : List (List D)) (i : Int) (b : Bool) (K : List D → Prop) : dwp (En Tryz.f97.ntmps lv_params) (Tryz.f97.body.getD .skip) (endD (En Tryz.f97.ntmps lv_params) 97 Tryz.f97.results.toList K) ⟨0,argM 0 [D.agg [.sl .no L,.v (.int .i64 i),.v (.bool b)]]⟩ = S_params L i b K:=by kernel_rfl
theorem o_params {L : List (List D)} {i : Int} {b : Bool} {Post : List D → Prop} (h : S_params L i b Post) : OkP Tryz.prog 97 [D.agg [.sl .no L,.v (.int .i64 i),.v (.bool b)]] Post :=
 okp_sh lv_params Tryz.func97 (by kernel_rfl) (fun _ _=>by kernel_rfl) (by rw [s_params];exact h)
end Go.Proofs.YthadnhpkeljdoaaGreat.pv
namespace Go.Proofs.YthadnhpkeljdoaaGreat.pv
open Go.RowKit
def S_Short (l : List (List D)) (K : List D → Prop) : Prop :=
 ((((0 : Int) ≤ if (60 : Int) < (Int.ofNat l.length) then (60 : Int) else (Int.ofNat l.length)) ∧ (if (60 : Int) < (Int.ofNat l.length) then (60 : Int) else (Int.ofNat l.length)) ≤ (Int.ofNat l.length)) ∧ ∀ (c : List D),c ∈ l → c.length = 1) ∧ K [dL (List.take (if (60 : Int) < (Int.ofNat l.length) then (60 : Int) else (Int.ofNat l.length)).toNat l)]
theorem s_Short (l : List (List D)) (K : List D → Prop) : dwp (En Tryz.f35.ntmps []) (Tryz.f35.body.getD .skip) (endD (En Tryz.f35.ntmps []) 35 Tryz.f35.results.toList K) ⟨0,argM 0 [D.sl .no l]⟩ = S_Short l K:=by kernel_rfl
theorem o_Short {l : List (List D)} {Post : List D → Prop} (h : S_Short l Post) : OkP Tryz.prog 35 [D.sl .no l] Post :=
 okp_sh [] Tryz.func35 (by kernel_rfl) (fun _ _=>by kernel_rfl) (by rw [s_Short];exact h)
def S_Parsed (l : List (List D)) (K : List D → Prop) : Prop :=
 ∃ es,Ok Tryz.prog 35 [dL l] [dL es] ∧ ∃ s,Ok Tryz.prog 34 [dL es] [(dS s)] ∧ ∃ n s_1 es n_1 n_2,Ok Tryz.prog 21 [(dS s)] [D.agg [(dI n),(dS s_1),dL es],(dI n_1),(dI n_2)] ∧ K [D.agg [(dI n),(dS s_1),dL es],(dB (n_1 == (0 : Int)))]
theorem s_Parsed (l : List (List D)) (K : List D → Prop) : dwp (En Tryz.f16.ntmps []) (Tryz.f16.body.getD .skip) (endD (En Tryz.f16.ntmps []) 16 Tryz.f16.results.toList K) ⟨0,argM 0 [D.sl .no l]⟩ = S_Parsed l K:=by kernel_rfl
theorem o_Parsed {l : List (List D)} {Post : List D → Prop} (h : S_Parsed l Post) : OkP Tryz.prog 16 [D.sl .no l] Post :=
 okp_sh [] Tryz.func16 (by kernel_rfl) (fun _ _=>by kernel_rfl) (by rw [s_Parsed];exact h)
def S_parsed (l : List (List D)) (k : Int) (K : List D → Prop) : Prop :=
 ∃ n s es b,Ok Tryz.prog 16 [dL l] [D.agg [(dI n),(dS s),dL es],(dB b)] ∧ bcond (!b) (K [(dB true)]) (∃ b,Ok Tryz.prog 7 [D.agg [(dI n),(dS s),dL es],D.v (Value.int IntKind.u8 k)] [(dB b)] ∧ K [(dB (bif false then true else b))])
theorem s_parsed (l : List (List D)) (k : Int) (K : List D → Prop) : dwp (En Tryz.f9.ntmps []) (Tryz.f9.body.getD .skip) (endD (En Tryz.f9.ntmps []) 9 Tryz.f9.results.toList K) ⟨0,argM 0 [D.sl .no l,D.v (.int .u8 k)]⟩ = S_parsed l k K:=by kernel_rfl
theorem o_parsed {l : List (List D)} {k : Int} {Post : List D → Prop} (h : S_parsed l k Post) : OkP Tryz.prog 9 [D.sl .no l,D.v (.int .u8 k)] Post :=
 okp_sh [] Tryz.func9 (by kernel_rfl) (fun _ _=>by kernel_rfl) (by rw [s_parsed];exact h)
def S_BareOnce (l : List (List D)) (l2 : List (List D)) (k : Int) (K : List D → Prop) : Prop :=
 ∃ b,Ok Tryz.prog 6 [] [(dB b)] ∧ bcond b (∃ n s es,Ok Tryz.prog 8 [dL l] [D.agg [(dI n),(dS s),dL es]] ∧ ∃ b,Ok Tryz.prog 7 [D.agg [(dI n),(dS s),dL es],D.v (Value.int IntKind.u8 k)] [(dB b)] ∧ bcond (bif true then b else false) (∃ b,Ok Tryz.prog 9 [dL l2,D.v (Value.int IntKind.u8 k)] [(dB b)] ∧ K [(dB (bif true then b else false))]) (K [(dB false)])) (K [(dB false)])
theorem s_BareOnce (l : List (List D)) (l2 : List (List D)) (k : Int) (K : List D → Prop) : dwp (En Tryz.f3.ntmps []) (Tryz.f3.body.getD .skip) (endD (En Tryz.f3.ntmps []) 3 Tryz.f3.results.toList K) ⟨0,argM 0 [D.sl .no l,D.sl .no l2,D.v (.int .u8 k)]⟩ = S_BareOnce l l2 k K:=by kernel_rfl
theorem o_BareOnce {l : List (List D)} {l2 : List (List D)} {k : Int} {Post : List D → Prop} (h : S_BareOnce l l2 k Post) : OkP Tryz.prog 3 [D.sl .no l,D.sl .no l2,D.v (.int .u8 k)] Post :=
 okp_sh [] Tryz.func3 (by kernel_rfl) (fun _ _=>by kernel_rfl) (by rw [s_BareOnce];exact h)
end Go.Proofs.YthadnhpkeljdoaaGreat.pv
namespace Go.Proofs.YthadnhpkeljdoaaGreat.pv
open Go.RowKit
def S_known  (K : List D → Prop) : Prop :=
 ∃ n s es n_1 n_2,Ok Tryz.prog 21 [(dS (⟨#[40,40,49,41,41]⟩ : ByteArray))] [D.agg [(dI n),(dS s),dL es],(dI n_1),(dI n_2)] ∧ ∃ n_3 s_1 es_1 n_4 n_5,Ok Tryz.prog 21 [(dS (⟨#[49]⟩ : ByteArray))] [D.agg [(dI n_3),(dS s_1),dL es_1],(dI n_4),(dI n_5)] ∧ ∃ n_6 s_2 es_2,Ok Tryz.prog 13 [D.agg [(dI n),(dS s),dL es]] [D.agg [(dI n_6),(dS s_2),dL es_2]] ∧ ∃ b,Ok Tryz.prog 12 [D.agg [(dI n_6),(dS s_2),dL es_2],D.agg [(dI n_3),(dS s_1),dL es_1]] [(dB b)] ∧ bcond b (∃ b,Ok Tryz.prog 22 [D.agg [(dI n),(dS s),dL es],D.agg [(dI n_3),(dS s_1),dL es_1]] [(dB b)] ∧ bcond (bif true then b else false) (∃ es_3,Ok Tryz.prog 14 [D.agg [(dI n),(dS s),dL es]] [dL es_3] ∧ K [(dB (bif true then (Int.ofNat es_3.length) == (2 : Int) else false))]) (K [(dB false)])) (K [(dB false)])
theorem s_known  (K : List D → Prop) : dwp (En Tryz.f6.ntmps []) (Tryz.f6.body.getD .skip) (endD (En Tryz.f6.ntmps []) 6 Tryz.f6.results.toList K) ⟨0,argM 0 []⟩ = S_known  K:=by kernel_rfl
theorem o_known  {Post : List D → Prop} (h : S_known  Post) : OkP Tryz.prog 6 [] Post :=
 okp_sh [] Tryz.func6 (by kernel_rfl) (fun _ _=>by kernel_rfl) (by rw [s_known];exact h)
end Go.Proofs.YthadnhpkeljdoaaGreat.pv
