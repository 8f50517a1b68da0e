/- Ground of the law: PvS13, PvS14, PvS15, PvB1. -/
import Derived.Test.YthadnhpkeljdoaaQh29
import Derived.Test.YthadnhpkeljdoaaQh02
set_option maxRecDepth 100000
set_option maxHeartbeats 8000000
set_option linter.unusedVariables false
set_option linter.unusedSimpArgs false
namespace Go.Proofs.Ythadnhpkeljdoaa.pv
open Go.RowKit nd pa pr
def endP (m : List Nd) (x : Nd) : Pa Nd:=.ended fun e=>if e then .ret (if m.isEmpty then x else mk 34 eB (m ++ [x])) else .bad
def tailP (n : Nat) (m : List Nd) : Pa Nd:=.ended fun z=>(if !m.isEmpty && z then .ret none0 else Pa.look fun t=>if word wdef t then go n (.deff true) else go n (.exp 1)).bind fun (x : Nd)=>endP m x
abbrev FinP (K : List D → Prop) (es9 : List (List D)) (es : List (List D)) (n : Int) (b : Bool) (k : Int) (s : ByteArray) (e : List (List D)) : Prop :=
  bcond ((Int.ofNat es9.length) == (0 : Int)) (K [.agg [dL es,dI n,dB b],.agg [dI k,dS s,dL e]])
    ((es9.length = es9.length ∧ (∀ (c : List D),c ∈ [[dI k,dS s,dL e]] → c.length = 3) ∧ es9.length + 1 ≤ 16777216) ∧ K [.agg [dL es,dI n,dB b],.agg [dI 34,dS (⟨#[]⟩ : ByteArray),dL (es9 ++ [[dI k,dS s,dL e]])]])
abbrev RestP (K : List D → Prop) (es9 : List (List D)) (es : List (List D)) (n : Int) (b : Bool) (k : Int) (s : ByteArray) (e : List (List D)) : Prop :=
  bcond (!b) (bcond (bif true then decide (n < (Int.ofNat es.length)) else false)
    (∃ es_2 n_2 b_1,Ok Try.prog 50 [.agg [dL es,dI n,dB b]] [.agg [dL es_2,dI n_2,dB b_1]] ∧ FinP K es9 es_2 n_2 b_1 k s e)
    (FinP K es9 es n b k s e)) (FinP K es9 es n b k s e)
abbrev LookP (K : List D → Prop) (es9 : List (List D)) (es : List (List D)) (n : Int) (b : Bool) : Prop :=
  ∃ b_1,Ok Try.prog 46 [.agg [dL es,dI n,dB b],dS (⟨#[100,101,102]⟩ : ByteArray)] [dB b_1] ∧ bcond b_1
    (∃ es_1 n_1 b_2 n_2 s_1 e_1,Ok Try.prog 48 [.agg [dL es,dI n,dB b],dB true] [.agg [dL es_1,dI n_1,dB b_2],.agg [dI n_2,dS s_1,dL e_1]] ∧ RestP K es9 es_1 n_1 b_2 n_2 s_1 e_1)
    (∃ es_1 n_1 b_2 n_2 s_1 e_1,Ok Try.prog 49 [.agg [dL es,dI n,dB b]] [.agg [dL es_1,dI n_1,dB b_2],.agg [dI n_2,dS s_1,dL e_1]] ∧ RestP K es9 es_1 n_1 b_2 n_2 s_1 e_1)
section
variable {L : List (List D)} {l : List pa.Tk} {j : Nat} {b : Bool} {o : Out Nd} {acc : List Nd}
theorem fin_p {y : Nd} (ha : acc.length ≤ 1000001) (h : Nret L l o [pD L j b,ndD (if acc.isEmpty then y else mk 34 eB (acc ++ [y]))]) : FinP (Nret L l o) (foD (Fo.ofL acc)) L j b y.k y.t (foD y.kids):=by
  cases acc with
  | nil=>exact bcond_t rfl h
  | cons a r =>
    refine bcond_f ?_ ⟨⟨rfl,by simp,by rw [foD_len];omega⟩,?_⟩
    · rw [beq_eq_false_iff_ne,foD_len]
      simp only [List.length_cons,Int.ofNat_eq_natCast]
      omega
    · rw [← foD_app]
      exact h
theorem rest_p {y : Nd} (hL : Its L l) (hj : j ≤ l.length) (ha : acc.length ≤ 1000001) (h : runB (endP acc y) l j b = some o) : RestP (Nret L l o) (foD (Fo.ofL acc)) L j b y.k y.t (foD y.kids):=by
  have hlen:=hL.len
  have h:=rb_ended h
  cases b with
  | true=>exact bcond_f rfl (fin_p ha (by rw [rb_true h];exact ⟨j,true,_,rfl,hj,rfl,rfl⟩))
  | false =>
    refine bcond_t rfl ?_
    by_cases hz : j = l.length
    · have e : (l.drop j).isEmpty = true:=by rw [List.drop_eq_nil_of_le (by omega)];rfl
      rw [e] at h
      refine bcond_f (decide_eq_false ?_) (fin_p ha (rb_ret hj h))
      simp only [Int.ofNat_eq_natCast]
      omega
    · have e : (l.drop j).isEmpty = false:=by
        rw [List.isEmpty_eq_false_iff]
        intro e
        have:=congrArg List.length e
        simp at this
        omega
      rw [e] at h
      refine bcond_t (decide_eq_true ?_) ⟨_,_,_,wrong_ok L j false,fin_p ha (by rw [rb_bad h];exact ⟨j,true,_,rfl,hj,rfl,rfl⟩)⟩
      simp only [Int.ofNat_eq_natCast]
      omega
theorem look_p {n : Nat} (hpi : NodeO (go n (.exp 1)) 49 []) (hd : NodeQ (go n (.deff true)) 48 [dB true]) (hL : Its L l) (hj : j ≤ l.length) (ha : acc.length ≤ 1000001)
    (h : runB ((Pa.look fun t=>if word wdef t then go n (.deff true) else go n (.exp 1)).bind fun (x : Nd)=>endP acc x) l j b = some o) : LookP (Nret L l o) (foD (Fo.ofL acc)) L j b:=by
  have h:=rb_look (show runB (.look _) l j b = some o from h)
  dsimp only at h
  refine ⟨_,word_ok hL j b wdef,?_⟩
  cases c : pa.word wdef (tokB l j b)
  · rw [c] at h
    obtain ⟨j2,b2,y,ok2,hj2,h⟩:=hpi.next hL hj h
    exact bcond_f rfl ⟨_,_,_,_,_,_,ok2,rest_p hL hj2 ha h⟩
  · rw [c] at h
    obtain ⟨rfl,hlt⟩:=word_lt c
    obtain ⟨j2,b2,y,ok2,hj2,_,h⟩:=hd.next hL hlt h
    exact bcond_t rfl ⟨_,_,_,_,_,_,ok2,rest_p hL hj2 ha h⟩
theorem tail_p {n : Nat} (hpi : NodeO (go n (.exp 1)) 49 []) (hd : NodeQ (go n (.deff true)) 48 [dB true]) (hL : Its L l) (hj : j ≤ l.length) (ha : acc.length ≤ 1000001)
    (h : runB (tailP n acc) l j b = some o) :
    bcond ((Int.ofNat (foD (Fo.ofL acc)).length) == (0 : Int)) (LookP (Nret L l o) (foD (Fo.ofL acc)) L j b)
      (bcond (bif false then true else b) (LookP (Nret L l o) (foD (Fo.ofL acc)) L j b)
        (bcond (bif false then true else decide ((j : Int) < (Int.ofNat L.length))) (LookP (Nret L l o) (foD (Fo.ofL acc)) L j b) (RestP (Nret L l o) (foD (Fo.ofL acc)) L j b 0 ⟨#[]⟩ []))):=by
  have hlen:=hL.len
  have h:=rb_ended h
  cases acc with
  | nil=>exact bcond_t rfl (look_p hpi hd hL hj ha h)
  | cons a r =>
    refine bcond_f ?_ ?_
    · rw [beq_eq_false_iff_ne,foD_len]
      simp only [List.length_cons,Int.ofNat_eq_natCast]
      omega
    cases b with
    | true=>exact bcond_t rfl (look_p hpi hd hL hj ha (by rw [rb_true h];rfl))
    | false =>
      refine bcond_f rfl ?_
      by_cases hz : j = l.length
      · have e : (l.drop j).isEmpty = true:=by rw [List.drop_eq_nil_of_le (by omega)];rfl
        rw [e] at h
        refine bcond_f (decide_eq_false ?_) (rest_p (y:=none0) hL hj ha h)
        simp only [Int.ofNat_eq_natCast]
        omega
      · have e : (l.drop j).isEmpty = false:=by
          rw [List.isEmpty_eq_false_iff]
          intro e
          have:=congrArg List.length e
          simp at this
          omega
        rw [e] at h
        refine bcond_t (decide_eq_true ?_) (look_p hpi hd hL hj ha h)
        simp only [Int.ofNat_eq_natCast]
        omega
theorem NodeQ.nextS {p : Pa Nd} {f : FuncId} {more : List D} (hc : NodeQ p f more) {q : pa.Tk → Pa Nd} (hq : p = .look fun t=>.move (q t)) (hL : Its L l) {i : Nat} (hi : i < l.length) {β : Type} {g : Nd → Pa β} {o : Out β} (h : runB (p.bind g) l i false = some o) :
    ∃ j b' y,Ok Try.prog f (pD L i false :: more) [pD L j b',ndD y] ∧ j ≤ l.length ∧ (b' = false → i < j) ∧ runB (g y) l j b' = some o:=by
  obtain ⟨o1,h1,h2⟩:=rb_bind h
  obtain ⟨out,hok,j,b',y,rfl,hj,hm⟩:=hc L l i o1 hL hi h1
  refine ⟨j,b',y,hok,hj,?_⟩
  cases o1 with
  | ok r x =>
    obtain ⟨rfl,rfl,rfl⟩:=hm
    refine ⟨fun _=>?_,h2⟩
    rw [hq] at h1
    have:=Pa.run_len _ (show (q (pa.tok (l.drop i))).run (l.drop i).tail = some _ from h1)
    simp [Out.rest] at this
    omega
  | bad r=>obtain ⟨rfl,rfl⟩:=hm;exact ⟨(fun e=>by cases e),by rw [h2];rfl⟩
end
def PrgL (n0 : Nat) (p : Pa (List Nd)) : Prop:=∀ (acc : List Nd) (L0 L : List (List D)) (l : List pa.Tk) (i0 : Int) (b0 : Bool) (j : Nat) (b : Bool) (o1 : Out (List Nd)) (o : Out Nd),Its L l → j ≤ l.length → acc.length ≤ 1000001 → (b = false → acc.length ≤ j) → runB p l j b = some o1 →
  (match o1 with
    | .ok r x=>(tailP n0 (acc ++ x)).run r = some o
    | .bad r=>o = .bad r) →
  ∃ k,L_program_2_6 L0 i0 b0 (Nret L l o) k [.ptr 0 0,.ptr 1 0,.ptr 2 0,.ptr 4 0,dL L,dI (j : Int),dB b,.sl .nil [],dI 0,dB false,dI 0,dS ⟨#[]⟩,.sl .nil [],dI 34,dS ⟨#[]⟩,dL (foD (Fo.ofL acc))]
theorem prgL_bad {n0 : Nat} {p : Pa (List Nd)} (hpi : NodeO (go n0 (.exp 1)) 49 []) (hd : NodeQ (go n0 (.deff true)) 48 [dB true]) {acc : List Nd} (L0 L : List (List D)) {l : List pa.Tk} (i0 : Int) (b0 : Bool) {j : Nat} {b : Bool} {o : Out Nd} (hL : Its L l) (hj : j ≤ l.length) (ha : acc.length ≤ 1000001)
    (c1 : pa.word wimport (tokB l j b) = false) (c2 : pa.word winclude (tokB l j b) = false) (ht : runB (tailP n0 acc) l j b = some o) :
    ∃ k,L_program_2_6 L0 i0 b0 (Nret L l o) k [.ptr 0 0,.ptr 1 0,.ptr 2 0,.ptr 4 0,dL L,dI (j : Int),dB b,.sl .nil [],dI 0,dB false,dI 0,dS ⟨#[]⟩,.sl .nil [],dI 34,dS ⟨#[]⟩,dL (foD (Fo.ofL acc))]:=by
  refine ⟨0 + 1,?_⟩
  rw [l_program_2_6]
  exact ⟨_,word_ok hL j b wimport,bcond_f c1 ⟨_,word_ok hL j b winclude,bcond_f c2 (tail_p hpi hd hL hj ha ht)⟩⟩
theorem prgL_step {n0 n : Nat} (hpi : NodeO (go n0 (.exp 1)) 49 []) (hd : NodeQ (go n0 (.deff true)) 48 [dB true]) (hb : NodeQ (go n .bring) 47 []) {q : pa.Tk → Pa Nd} (hq : go n .bring = .look fun t=>.move (q t)) (ih : PrgL n0 (go n .brings)) : PrgL n0 (go (n + 1) .brings):=by
  intro acc L0 L l i0 b0 j b o1 o hL hj ha haj h ht
  have hf:=hL.few
  have h:=rb_look (show runB (.look _) l j b = some o1 from h)
  have hno : pa.word wimport (tokB l j b) = false → pa.word winclude (tokB l j b) = false → runB (tailP n0 acc) l j b = some o:=by
    intro c1 c2
    rw [c1,c2] at h
    cases b with
    | true=>rw [rb_true h] at ht;rw [ht];rfl
    | false =>
      cases h
      have ht : (tailP n0 (acc ++ [])).run (l.drop j) = some o:=ht
      rw [List.append_nil] at ht
      exact ht
  have hyes : (pa.word wimport (tokB l j b) || pa.word winclude (tokB l j b)) = true → b = false → j < l.length → ∃ k j1 b1 y,Ok Try.prog 47 [pD L j b] [pD L j1 b1,ndD y] ∧
      L_program_2_6 L0 i0 b0 (Nret L l o) k [.ptr 0 0,.ptr 1 0,.ptr 2 0,.ptr 4 0,dL L,dI (j1 : Int),dB b1,.sl .nil [],dI 0,dB false,dI 0,dS ⟨#[]⟩,.sl .nil [],dI 34,dS ⟨#[]⟩,dL (foD (Fo.ofL acc) ++ [[dI y.k,dS y.t,dL (foD y.kids)]])]:=by
    intro c hbf hlt
    rw [c] at h
    subst hbf
    have haj:=haj rfl
    obtain ⟨j1,b1,y,ok1,hj1,m1,h⟩:=hb.nextS hq hL hlt h
    obtain ⟨o2,h1,h2⟩:=rb_bind h
    obtain ⟨k,hk⟩:=ih (acc ++ [y]) L0 L l i0 b0 j1 b1 o2 o hL hj1 (by simp;omega) (by intro e;have:=m1 e;simp;omega) h1 (by
      cases o2 with
      | ok r x =>
        have h2 : some (Out.ok r (y :: x)) = some o1:=h2
        cases h2
        have ht : (tailP n0 (acc ++ (y :: x))).run r = some o:=ht
        show (tailP n0 (acc ++ [y] ++ x)).run r = some o
        rw [List.append_assoc]
        exact ht
      | bad r=>rw [h2] at ht;exact ht)
    rw [foD_app] at hk
    exact ⟨k,j1,b1,y,ok1,hk⟩
  cases c1 : pa.word wimport (tokB l j b)
  · cases c2 : pa.word winclude (tokB l j b)
    · exact prgL_bad (p:=go n .brings) hpi hd L0 L i0 b0 hL hj ha c1 c2 (hno c1 c2)
    · obtain ⟨hbf,hlt⟩:=word_lt c2
      obtain ⟨k,j1,b1,y,ok1,hk⟩:=hyes (by rw [c1,c2];rfl) hbf hlt
      refine ⟨k + 1,?_⟩
      rw [l_program_2_6]
      exact ⟨_,word_ok hL j b wimport,bcond_f c1 ⟨_,word_ok hL j b winclude,bcond_t c2 ⟨_,_,_,_,_,_,ok1,⟨rfl,by simp,by rw [foD_len];omega⟩,by simp,hk⟩⟩⟩
  · obtain ⟨hbf,hlt⟩:=word_lt c1
    obtain ⟨k,j1,b1,y,ok1,hk⟩:=hyes (by rw [c1];rfl) hbf hlt
    refine ⟨k + 1,?_⟩
    rw [l_program_2_6]
    exact ⟨_,word_ok hL j b wimport,bcond_t c1 ⟨_,_,_,_,_,_,ok1,⟨rfl,by simp,by rw [foD_len];omega⟩,by simp,hk⟩⟩
theorem program_ok {n : Nat} (hl : PrgL n (go n .brings)) : NodeR (go (n + 1) .program) 33 []:=by
  intro L l i o hL hi h
  obtain ⟨o1,h1,h2⟩:=rb_bind (show runB ((go n .brings).bind fun (m : List Nd)=>tailP n m) l i false = some o from h)
  obtain ⟨k,hk⟩:=hl [] L L l i false i false o1 o hL hi (Nat.zero_le _) (fun _=>Nat.zero_le _) h1 (by cases o1 <;> exact h2)
  exact o_program ⟨k,hk⟩
end Go.Proofs.Ythadnhpkeljdoaa.pv
namespace Go.Proofs.Ythadnhpkeljdoaa.pv
open Go.RowKit nd pa pr
def BadO (f : FuncId) (more : List D) : Prop:=∀ (L : List (List D)) (l : List pa.Tk) (i : Nat),Its L l → i ≤ l.length → ∃ y,Ok Try.prog f (pD L i true :: more) [pD L i true,ndD y]
theorem BadO.base {f : FuncId} {more : List D} (h : BadO f more) : NodeO Pa.out f more:=by
  intro L l i b o hL hi hr
  cases b with
  | false=>cases hr
  | true =>
    obtain ⟨y,hy⟩:=h L l i hL hi
    rw [rb_true hr]
    exact ⟨_,hy,i,true,y,rfl,hi,rfl,rfl⟩
theorem term_bad : BadO 90 []:=by
  intro L l i hL hi
  exact ⟨none0,ok_eq (o_term ⟨_,_,_,_,leaf_ok hL i true,bcond_f rfl ⟨_,_,tok_ok hL i true,_,op_ok hL i true pa.dot,bcond_f rfl (bcond_f rfl (bcond_f rfl (bcond_f rfl (bcond_f rfl ⟨_,_,_,wrong_ok L i true,rfl⟩))))⟩⟩)⟩
theorem post_bad : BadO 86 []:=by
  intro L l i hL hi
  obtain ⟨y,hy⟩:=term_bad L l i hL hi
  exact ⟨y,ok_eq (o_post ⟨_,_,_,_,_,_,hy,0 + 1,by rw [l_post_2_11];exact bcond_f rfl rfl⟩)⟩
theorem unit_bad : BadO 101 []:=by
  intro L l i hL hi
  obtain ⟨y,hy⟩:=post_bad L l i hL hi
  exact ⟨y,ok_eq (o_unit ⟨_,op_ok hL i true minus,bcond_f rfl ⟨_,_,_,_,_,_,hy,rfl⟩⟩)⟩
theorem value_bad : BadO 100 []:=by
  intro L l i hL hi
  obtain ⟨y,hy⟩:=unit_bad L l i hL hi
  exact ⟨y,ok_eq (o_value ⟨_,_,_,_,_,_,hy,_,op_ok hL i true bar,bcond_t rfl rfl⟩)⟩
theorem operand_bad : BadO 79 []:=by
  intro L l i hL hi
  obtain ⟨y,hy⟩:=post_bad L l i hL hi
  exact ⟨y,ok_eq (o_operand ⟨_,op_ok hL i true minus,bcond_f rfl ⟨_,word_ok hL i true wdef,bcond_f rfl ⟨_,word_ok hL i true wlabel,bcond_f rfl ⟨_,word_ok hL i true wtry,bcond_f rfl ⟨_,_,_,_,_,_,hy,_,word_ok hL i true was,bcond_t rfl rfl⟩⟩⟩⟩⟩)⟩
theorem exp_bad (lv : Int) : BadO 71 [dI lv]:=by
  intro L l i hL hi
  obtain ⟨y,hy⟩:=operand_bad L l i hL hi
  exact ⟨y,ok_eq (o_exp ⟨_,_,_,_,_,_,hy,0 + 1,by rw [l_exp_3_12];exact bcond_f rfl rfl⟩)⟩
theorem pipe_bad : BadO 49 []:=by
  intro L l i hL hi
  obtain ⟨y,hy⟩:=exp_bad 1 L l i hL hi
  exact ⟨y,ok_eq (o_pipe ⟨_,_,_,_,_,_,hy,rfl⟩)⟩
theorem str_bad : BadO 66 []:=by
  intro L l i hL hi
  exact ⟨mk 6 eB [],ok_eq (o_str ⟨_,_,tok_ok hL i true,bcond_f rfl ⟨_,_,_,one_ok hL i true (k:=7) (by decide),0 + 1,by rw [l_str_6_13];exact bcond_f rfl ⟨_,_,_,one_ok hL i true (k:=11) (by decide),rfl⟩⟩⟩)⟩
theorem key_bad (pat : Bool) (L : List (List D)) (l : List pa.Tk) (i : Nat) (hL : Its L l) : Ok Try.prog 96 [pD L i true,dB pat] [pD L i true,ndD none0,dB false] :=
  ok_eq (o_key ⟨_,_,tok_ok hL i true,bcond_f rfl (bcond_f rfl ⟨_,op_ok hL i true lpar,bcond_f rfl (bcond_t rfl (bcond_t rfl ⟨_,_,_,wrong_ok L i true,rfl⟩))⟩)⟩)
theorem key_base (pat : Bool) : KeyO Pa.out 96 [dB pat]:=by
  intro L l i b o hL hi hr
  cases b with
  | false=>cases hr
  | true =>
    rw [rb_true hr]
    exact ⟨_,key_bad pat L l i hL,i,true,none0,false,rfl,hi,rfl,rfl⟩
theorem pair_bad : BadO 97 []:=by
  intro L l i hL hi
  exact ⟨mk 11 eB [none0],ok_eq (o_pair ⟨_,_,_,_,_,_,_,key_bad false L l i hL,bcond_t rfl ⟨_,op_ok hL i true colon,bcond_t rfl rfl⟩⟩)⟩
theorem keypat_bad : BadO 92 []:=by
  intro L l i hL hi
  exact ⟨mk 37 eB [none0],ok_eq (o_keypat ⟨_,_,_,_,_,_,_,key_bad true L l i hL,bcond_t rfl ⟨_,op_ok hL i true colon,bcond_t rfl rfl⟩⟩)⟩
theorem pattern_bad : BadO 87 []:=by
  intro L l i hL hi
  exact ⟨mk 35 eB [],ok_eq (o_pattern ⟨_,_,tok_ok hL i true,bcond_f rfl ⟨_,op_ok hL i true lbrace,bcond_f rfl ⟨_,op_ok hL i true lbr,bcond_t rfl ⟨_,_,_,wrong_ok L i true,rfl⟩⟩⟩⟩)⟩
theorem bracket_bad : BadO 94 []:=by
  intro L l i hL hi
  exact ⟨none0,ok_eq (o_bracket ⟨_,op_ok hL i true lpar,bcond_f rfl ⟨_,op_ok hL i true lbr,bcond_f rfl ⟨_,op_ok hL i true lbrace,bcond_t rfl ⟨_,_,_,wrong_ok L i true,rfl⟩⟩⟩⟩)⟩
theorem need_bad {L : List (List D)} {l : List pa.Tk} (hL : Its L l) (i : Nat) (s : ByteArray) : Ok Try.prog 67 [pD L i true,dS s] [pD L i true]:=need_ok hL i true s
theorem fold_bad (kd : Int) (three : Bool) : BadO 99 [dI kd,dI (if three then 3 else 2)]:=by
  intro L l i hL hi
  obtain ⟨y,hy⟩:=post_bad L l i hL hi
  obtain ⟨z,hz⟩:=pattern_bad L l i hL hi
  obtain ⟨u,hu⟩:=pipe_bad L l i hL hi
  refine ⟨mk kd eB [y,z,u,u],ok_eq (o_fold ⟨_,_,_,_,_,_,hy,_,_,_,need_bad hL i _,_,_,_,_,_,_,hz,_,_,_,need_bad hL i _,_,_,_,_,_,_,hu,_,_,_,need_bad hL i _,_,_,_,_,_,_,hu,?_⟩)⟩
  cases three
  · exact bcond_f rfl ⟨_,_,_,need_bad hL i _,rfl⟩
  · exact bcond_t rfl ⟨_,op_ok hL i true semi,bcond_f rfl ⟨_,_,_,need_bad hL i _,rfl⟩⟩
theorem within_bad (x : Nd) (d : ByteArray) : BadO 91 [ndD x,dS d]:=by
  intro L l i hL hi
  obtain ⟨u,hu⟩:=pipe_bad L l i hL hi
  refine ⟨mk 19 d [x,u,u],ok_eq (o_within ⟨_,_,_,need_bad hL i _,_,op_ok hL i true rbr,bcond_f rfl ⟨_,op_ok hL i true colon,bcond_t rfl ⟨_,_,_,_,_,_,hu,_,op_ok hL i true rbr,bcond_f rfl ⟨_,_,_,need_bad hL i _,?_⟩⟩⟩⟩)⟩
  cases c : u.k == 0
  · exact bcond_f rfl ⟨_,op_ok hL i true rbr,bcond_t rfl ⟨_,_,_,_,_,_,hu,_,_,_,need_bad hL i _,rfl⟩⟩
  · exact bcond_t rfl ⟨_,_,_,_,_,_,hu,_,_,_,need_bad hL i _,rfl⟩
theorem params_base (X : ExtO) : ParL Pa.out:=by
  intro acc L l i0 b0 j b o K hL hj ha h hK
  have hf:=hL.few
  cases b with
  | false=>cases h
  | true =>
    refine ⟨0 + 1,?_⟩
    rw [l_params_2_4]
    refine ⟨_,_,tok_ok hL j true,par_no X (tok_sz hL j true) rfl ⟨_,_,_,wrong_ok L j true,rfl,hK _ ?_⟩⟩
    rw [rb_true h]
    exact ⟨j,true,acc,rfl,by omega,hj,rfl,rfl⟩
theorem expL_base : ExpL fun _ _ _=>Pa.out:=by
  intro least x barred L l i0 b0 j b o hL hj h
  cases b with
  | false=>cases h
  | true =>
    refine ⟨0 + 1,?_⟩
    rw [l_exp_3_12]
    exact bcond_f rfl ⟨j,true,x,rfl,hj,by rw [rb_true h];exact ⟨rfl,rfl⟩⟩
theorem postL_base : PostL fun _=>Pa.out:=by
  intro x L0 L l i0 b0 j b o hL hj h
  cases b with
  | false=>cases h
  | true =>
    refine ⟨0 + 1,?_⟩
    rw [l_post_2_11]
    exact bcond_f rfl ⟨j,true,x,rfl,hj,by rw [rb_true h];exact ⟨rfl,rfl⟩⟩
theorem strL21_base : StrL21 Pa.out:=by
  intro acc f L0 L l i0 b0 j b o K hL hj ha h hK
  cases b with
  | false=>cases h
  | true =>
    refine ⟨0 + 1,?_⟩
    rw [l_str_6_21]
    exact bcond_f rfl (hK j true acc ⟨hj,by rw [rb_true h];exact ⟨rfl,rfl⟩⟩)
theorem strL13_base : StrL13 Pa.out:=by
  intro acc f L0 L l i0 b0 j b o K hL hj ha h hK
  cases b with
  | false=>cases h
  | true =>
    refine ⟨0 + 1,?_⟩
    rw [l_str_6_13]
    exact bcond_f rfl (hK j true acc ⟨hj,by rw [rb_true h];exact ⟨rfl,rfl⟩⟩)
structure AllO (n : Nat) : Prop where
  exp : ∀ lv,NodeO (go n (.exp lv)) 71 [dI lv]
  expL : ExpL fun a x c=>go n (.expL a x c)
  operand : NodeO (go n .operand) 79 []
  params : ParL (go n .params)
  deff : ∀ top,NodeQ (go n (.deff top)) 48 [dB top]
  within : ∀ x d,NodeO (go n (.within x d)) 91 [ndD x,dS d]
  post : NodeO (go n .post) 86 []
  postL : PostL fun x=>go n (.postL x)
  str : NodeO (go n .str) 66 []
  str21 : StrL21 (go n .strL)
  str13 : StrL13 (go n .strL)
  term : NodeO (go n .term) 90 []
  bracket : NodeO (go n .bracket) 94 []
  pairs : BrkL (go n .pairs)
  worded : NodeQ (go n .worded) 95 []
  args : ArgL (go n .args)
  fold2 : NodeO (go n (.fold 16 false)) 99 [dI 16,dI 2]
  fold3 : NodeO (go n (.fold 17 true)) 99 [dI 17,dI 3]
  key : ∀ pat,KeyO (go n (.key pat)) 96 [dB pat]
  pair : NodeO (go n .pair) 97 []
  value : NodeO (go n .value) 100 []
  unit : NodeO (go n .unit) 101 []
  keypat : NodeO (go n .keypat) 92 []
  pattern : NodeO (go n .pattern) 87 []
  el36 : ElL36 (go n (.elems true))
  el35 : ElL35 (go n (.elems false))
theorem AllO.pipe {n : Nat} (h : AllO n) : NodeO (go n (.exp 1)) 49 []:=pipe_ok (h.exp 1)
theorem q_base {f : FuncId} {more : List D} : NodeQ Pa.out f more:=by
  intro L l i o hL hi hr
  cases hr
theorem all_base (X : ExtO) : AllO 0 where
  exp lv:=(exp_bad lv).base
  expL:=expL_base
  operand:=operand_bad.base
  params:=params_base X
  deff _:=q_base
  within x d:=(within_bad x d).base
  post:=post_bad.base
  postL:=postL_base
  str:=str_bad.base
  str21:=strL21_base
  str13:=strL13_base
  term:=term_bad.base
  bracket:=bracket_bad.base
  pairs:=fun acc L0 L l i0 b0 j o K hL hj ha h=>by cases h
  worded:=q_base
  args:=fun acc t L0 L l i0 b0 j o K hL hj ha h=>by cases h
  fold2:=(fold_bad 16 false).base
  fold3:=(fold_bad 17 true).base
  key:=key_base
  pair:=pair_bad.base
  value:=value_bad.base
  unit:=unit_bad.base
  keypat:=keypat_bad.base
  pattern:=pattern_bad.base
  el36:=fun acc L0 L l i0 b0 j o K hL hj ha h=>by cases h
  el35:=fun acc L0 L l i0 b0 j o K hL hj ha h=>by cases h
theorem ifs_all {n0 : Nat} (h0 : AllO n0) : ∀ (n : Nat),(∀ m,m ≤ n → AllO m) → IfsL n0 (go n .ifs):=by
  intro n
  induction n with
  | zero=>intro _ acc L0 L l i0 b0 j o1 o hL hj ha h;cases h
  | succ n ih=>intro ha;exact ifsL_step h0.pipe (ha n (by omega)).pipe (ih fun m hm=>ha m (by omega))
theorem all_step (X : ExtO) {n : Nat} (ha : ∀ m,m ≤ n → AllO m) : AllO (n + 1):=by
  have h:=ha n (Nat.le_refl n)
  have hs : NodeO (go (n + 1) .str) 66 []:=str_ok (fun m hm=>(ha m hm).str21) (fun m hm=>(ha m hm).str13)
  exact {
    exp:=fun lv=>exp_ok h.operand h.expL
    expL:=expL_ok X h.exp h.expL
    operand:=operand_ok (h.exp 9) (h.deff false) h.pipe h.post h.pattern
    params:=params_step X h.params
    deff:=fun top=>def_ok X h.params h.pipe (h.deff true)
    within:=fun x d=>within_ok fun m hm=>(ha m hm).pipe
    post:=post_ok h.term h.postL
    postL:=postL_step h.within h.str h.postL
    str:=hs
    str21:=strL21_step h.pipe h.str21
    str13:=strL13_step h.pipe h.str13
    term:=term_ok h.str hs h.bracket h.worded
    bracket:=bracket_ok h.pipe h.pairs
    pairs:=brkL_step h.pair h.pairs
    worded:=worded_ok X (ifs_ok (ifs_all h n ha)) h.fold2 h.fold3 h.args
    args:=argL_step h.pipe h.args
    fold2:=fold_ok h.post h.pattern h.pipe
    fold3:=fold_ok h.post h.pattern h.pipe
    key:=fun pat=>key_ok h.pipe h.str
    pair:=pair_ok (h.key false) h.value
    value:=value_ok h.unit h.value
    unit:=unit_ok h.unit h.post
    keypat:=keypat_ok (h.key true) h.pattern
    pattern:=pattern_ok h.el36 h.el35
    el36:=elL36_step h.keypat.r h.el36
    el35:=elL35_step h.pattern.r h.el35 }
theorem all_ok (X : ExtO) (n : Nat) : AllO n:=by
  induction n using Nat.strongRecOn with
  | _ n ih =>
    cases n with
    | zero=>exact all_base X
    | succ n=>exact all_step X fun m hm=>ih m (by omega)
theorem brings_all (X : ExtO) (n0 : Nat) : ∀ (n : Nat),PrgL n0 (go n .brings):=by
  intro n
  have h0:=all_ok X n0
  induction n with
  | zero =>
    intro acc L0 L l i0 b0 j b o1 o hL hj ha haj h ht
    cases b with
    | false=>cases h
    | true=>exact prgL_bad (p:=Pa.out) h0.pipe (h0.deff true) L0 L i0 b0 hL hj ha rfl rfl (by rw [rb_true h] at ht;rw [ht];rfl)
  | succ n ih =>
    cases n with
    | zero =>
      intro acc L0 L l i0 b0 j b o1 o hL hj ha haj h ht
      have h':=rb_look (show runB (.look _) l j b = some o1 from h)
      cases c : pa.word wimport (tokB l j b) || pa.word winclude (tokB l j b)
      · have c':=Bool.or_eq_false_iff.1 c
        refine prgL_bad (p:=Pa.out) h0.pipe (h0.deff true) L0 L i0 b0 hL hj ha c'.1 c'.2 ?_
        rw [c] at h'
        cases b with
        | true=>rw [rb_true h] at ht;rw [ht];rfl
        | false =>
          cases h'
          have ht : (tailP n0 (acc ++ [])).run (l.drop j) = some o:=ht
          rw [List.append_nil] at ht
          exact ht
      · rw [c] at h'
        have hb : b = false:=by
          rcases Bool.or_eq_true_iff.1 c with e | e
          · exact (word_lt e).1
          · exact (word_lt e).1
        subst hb
        cases h'
    | succ n=>exact prgL_step h0.pipe (h0.deff true) (bring_ok X (all_ok X (n + 2)).str) bring_eq ih
theorem program_all (X : ExtO) (n : Nat) : NodeR (go n .program) 33 []:=by
  cases n with
  | zero=>intro L l i o hL hi h;cases h
  | succ n=>exact program_ok (brings_all X n n)
end Go.Proofs.Ythadnhpkeljdoaa.pv
namespace Go.Proofs.Ythadnhpkeljdoaa.pv
open Go.RowKit nd pa pr
def deepD (o : Option Nat) : Int:=match o with | some i=>(i : Int) | none=>-1
def stepD (n : Nat) (t : pa.Tk) : Nat:=if opens t then n + 1 else if closes t then n - 1 else n
theorem deepAt_cons (n i : Nat) (t : pa.Tk) (r : List pa.Tk) : deepAt n i (t :: r) = if 256 < stepD n t then some i else deepAt (stepD n t) (i + 1) r:=rfl
theorem deep_loop {L : List (List D)} {l : List pa.Tk} (hL : Its L l) (L0 : List (List D)) (K : List D → Prop) : ∀ (d j n : Nat),l.length - j = d → j ≤ l.length → n ≤ j → n ≤ 256 → K [dI (deepD (deepAt n j (l.drop j)))] → ∃ k,L_deep_3_3 L0 K k [dL L,dI (n : Int),dI (j : Int)]:=by
  have hf:=hL.few
  have hlen:=hL.len
  intro d
  induction d with
  | zero =>
    intro j n hd hj hn hm hK
    rw [List.drop_eq_nil_of_le (by omega)] at hK
    refine ⟨0 + 1,?_⟩
    rw [l_deep_3_3]
    exact bcond_f (decide_eq_false (by simp only [Int.ofNat_eq_natCast];omega)) hK
  | succ d ih =>
    intro j n hd hj hn hm hK
    have hlt : j < l.length:=by omega
    obtain ⟨a,es,e⟩:=hL.item j l[j] (by simp)
    rw [List.drop_eq_getElem_cons hlt,deepAt_cons] at hK
    generalize l[j] = t at e hK
    have hstep : stepD n t ≤ n + 1:=by
      unfold stepD
      split
      · omega
      · split <;> omega
    have G : ∃ k,bcond (decide (((stepD n t : Nat) : Int) > (256 : Int))) (K [dI (j : Int)]) (L_deep_3_3 L0 K k [dL L,dI ((stepD n t : Nat) : Int),dI ((j + 1 : Nat) : Int)]):=by
      by_cases hb : 256 < stepD n t
      · rw [if_pos hb] at hK
        exact ⟨0,bcond_t (decide_eq_true (by omega)) hK⟩
      · rw [if_neg hb] at hK
        obtain ⟨k,hk⟩:=ih (j + 1) (stepD n t) (by omega) hlt (by omega) (by omega) hK
        exact ⟨k,bcond_f (decide_eq_false (by omega)) hk⟩
    obtain ⟨k,G⟩:=G
    have w1 : IntKind.i64.wrap ((n : Int) + (1 : Int)) = ((n + 1 : Nat) : Int):=by rw [show ((n : Int) + (1 : Int)) = ((n + 1 : Nat) : Int) by omega,Lib.wrap_i64_small _ (by omega)]
    have w2 : IntKind.i64.wrap ((j : Int) + (1 : Int)) = ((j + 1 : Nat) : Int):=by rw [show ((j : Int) + (1 : Int)) = ((j + 1 : Nat) : Int) by omega,Lib.wrap_i64_small _ (by omega)]
    have w3 : (if IntKind.i64.wrap ((n : Int) - (1 : Int)) < (0 : Int) then (0 : Int) else IntKind.i64.wrap ((n : Int) - (1 : Int))) = ((n - 1 : Nat) : Int):=by
      cases n with
      | zero=>decide
      | succ n =>
        rw [show (((n + 1 : Nat) : Int) - (1 : Int)) = (n : Int) by omega,Lib.wrap_i64_small _ (by omega),if_neg (by omega)]
        rfl
    refine ⟨k + 1,?_⟩
    rw [l_deep_3_3,w1,w2,w3]
    refine bcond_t (decide_eq_true (by simp only [Int.ofNat_eq_natCast];omega)) ⟨by omega,_,_,_,_,e,?_⟩
    have inc : opens t = true → stepD n t = n + 1:=fun h=>by unfold stepD;rw [if_pos h]
    have dec : opens t = false → closes t = true → stepD n t = n - 1:=fun h h2=>by unfold stepD;rw [if_neg (by rw [h];exact Bool.false_ne_true),if_pos h2]
    have same : opens t = false → closes t = false → stepD n t = n:=fun h h2=>by unfold stepD;rw [if_neg (by rw [h];exact Bool.false_ne_true),if_neg (by rw [h2];exact Bool.false_ne_true)]
    obtain ⟨kd,tx⟩:=t
    have ho : opens (kd,tx) = (kd == 9 || (kd == 13 && decide (tx = lpar)) || (kd == 13 && decide (tx = lbr)) || (kd == 13 && decide (tx = lbrace))):=rfl
    have hc : closes (kd,tx) = (kd == 10 || (kd == 13 && decide (tx = rpar)) || (kd == 13 && decide (tx = rbr)) || (kd == 13 && decide (tx = rbrace))):=rfl
    show bcond (kd == (9 : Int)) _ _
    cases c9 : kd == 9
    · refine bcond_f rfl ?_
      cases c13 : kd == 13
      · refine bcond_f rfl ?_
        rw [c9,c13] at ho
        rw [c13] at hc
        cases c10 : kd == 10
        · rw [c10] at hc
          rw [same ho hc] at G
          exact bcond_f rfl (bcond_f rfl G)
        · rw [c10] at hc
          rw [dec ho hc] at G
          exact bcond_t rfl G
      · have c10 : (kd == 10) = false:=by rw [eq_of_beq c13];rfl
        rw [c9,c13] at ho
        rw [c10,c13] at hc
        refine bcond_t rfl ?_
        by_cases t1 : tx = lpar
        · rw [inc (by rw [ho,decide_eq_true t1];rfl)] at G
          exact bcond_t (beq_t t1) G
        refine bcond_f (beq_f t1) ?_
        by_cases t2 : tx = lbr
        · rw [inc (by rw [ho,decide_eq_false t1,decide_eq_true t2];rfl)] at G
          exact bcond_t (beq_t t2) G
        refine bcond_f (beq_f t2) ?_
        by_cases t3 : tx = lbrace
        · rw [inc (by rw [ho,decide_eq_false t1,decide_eq_false t2,decide_eq_true t3];rfl)] at G
          exact bcond_t (beq_t t3) G
        rw [decide_eq_false t1,decide_eq_false t2,decide_eq_false t3] at ho
        refine bcond_f (beq_f t3) (bcond_f c10 (bcond_t rfl ?_))
        by_cases t4 : tx = rpar
        · rw [dec ho (by rw [hc,decide_eq_true t4];rfl)] at G
          exact bcond_t (beq_t t4) G
        refine bcond_f (beq_f t4) ?_
        by_cases t5 : tx = rbr
        · rw [dec ho (by rw [hc,decide_eq_false t4,decide_eq_true t5];rfl)] at G
          exact bcond_t (beq_t t5) G
        refine bcond_f (beq_f t5) ?_
        by_cases t6 : tx = rbrace
        · rw [dec ho (by rw [hc,decide_eq_false t4,decide_eq_false t5,decide_eq_true t6];rfl)] at G
          exact bcond_t (beq_t t6) G
        rw [decide_eq_false t4,decide_eq_false t5,decide_eq_false t6] at hc
        rw [same ho hc] at G
        exact bcond_f (beq_f t6) G
    · rw [c9] at ho
      rw [inc ho] at G
      exact bcond_t rfl G
theorem deep_ok {L : List (List D)} {l : List pa.Tk} (hL : Its L l) : Ok Try.prog 32 [dL L] [dI (deepD (deepAt 0 0 l))]:=by
  obtain ⟨k,hk⟩:=deep_loop hL L (fun out=>out = [dI (deepD (deepAt 0 0 l))]) l.length 0 0 (by omega) (by omega) (by omega) (by omega) rfl
  exact ok_eq (o_deep ⟨k,hk⟩)
theorem Program_ok (X : ExtO) {L : List (List D)} {l : List pa.Tk} (hL : Its L l) : Ok Try.prog 20 [dL L] [ndD (parse l).1,dI (parse l).2.1,dI ((parse l).2.2 : Int)]:=by
  refine ok_eq (o_Program ⟨_,deep_ok hL,?_⟩)
  cases hd : deepAt 0 0 l with
  | some i =>
    have e : parse l = (none0,21,i):=by unfold parse;rw [hd]
    rw [e]
    exact bcond_t (decide_eq_true (by show ((i : Int) ≥ 0);omega)) rfl
  | none =>
    obtain ⟨o,ho⟩:=parse_ok l
    have e:=parse_of hd ho
    obtain ⟨out,hok,j,b,y,rfl,hj,hm⟩:=program_all X (fuel l) L l 0 o hL (Nat.zero_le _) ho
    refine bcond_f (decide_eq_false (by show ¬ ((-1 : Int) ≥ 0);decide)) ⟨_,_,_,_,_,_,hok,?_⟩
    cases o with
    | ok r x =>
      obtain ⟨rfl,rfl,rfl⟩:=hm
      rw [e]
      exact bcond_f rfl rfl
    | bad r =>
      obtain ⟨rfl,rfl⟩:=hm
      rw [e]
      refine bcond_t rfl ?_
      have : l.length - (l.drop j).length = j:=by rw [List.length_drop];omega
      show _ = [ndD none0,dI 22,dI ((l.length - (l.drop j).length : Nat) : Int)]
      rw [this]
      rfl
end Go.Proofs.Ythadnhpkeljdoaa.pv
namespace Go.Proofs.Ythadnhpkeljdoaa.pv
open Go.RowKit nd pa pr
theorem ok_of_calls {P : Program} {f : FuncId} {ds : List D} {x : Value} {vs0 : Array Value} (hen : ∀ (args : Array Value) (w : World),(callFunc f args).run P w = .ok (.enter f args) w)
    (hone : x.oneCell' = true) (hv : ∀ (G : Gh) (w : World) (vs : Array Value),vs.size = ds.length → (∀ (i : Nat) (x : Value) (d : D),vs[i]? = some x → ds[i]? = some d → RepV G w x d) → vs = vs0)
    (h : ∀ w,Calls P f vs0 w fun e w'=>e = .returned x ∧ Below w.heap.size w w') : Ok P f ds [.v x]:=by
  refine ⟨hen,fun imm w vs himm hsz hargs=>?_⟩
  rw [hv _ w vs hsz hargs]
  refine (h w).mono ?_
  rintro e w' ⟨rfl,hb⟩
  exact ⟨x,⟨w.heap.size,imm,fun _=>none,fun _=>none⟩,rfl,⟨hb,fun _ _ h=>h,fun _ _ _ h=>h,fun g i h=>Nat.lt_of_lt_of_le (himm g i h) hb.size,.v (.c (.v x hone)),fun T e=>(by cases e),fun k e sz es hm=>by cases hm;rename_i hm;cases hm⟩⟩
theorem repV_v {G : Gh} {w : World} {x y : Value} (h : RepV G w x (.v y)) : x = y:=by
  cases h with
  | c h=>cases h;rfl
theorem repC_eq {G : Gh} {w : World} {x y : Value} (h : RepC G w x (.v y)) : x = y:=by cases h;rfl
theorem args_one {G : Gh} {w : World} {y : Value} {vs : Array Value} (hs : vs.size = 1) (h : ∀ (i : Nat) (x : Value) (d : D),vs[i]? = some x → [D.v y][i]? = some d → RepV G w x d) : vs = #[y]:=by
  have h0:=h 0 vs[0] (.v y) (Array.getElem?_eq_getElem (by omega)) rfl
  have e:=repV_v h0
  apply Array.ext (by simpa using hs)
  intro i h1 h2
  have : i = 0:=by simp at h2;omega
  subst this
  simpa using e
theorem foD_len' : ∀ f : Fo,(foD f).length = f.len
  | .nil=>rfl
  | .cons k t kids r=>by show (foD r).length + 1 = r.len + 1;rw [foD_len' r]
theorem foD_get : ∀ {f : Fo} {i : Nat} {x : Nd},f.get? i = some x → (foD f)[i]? = some [dI x.k,dS x.t,dL (foD x.kids)]
  | .nil,_,_,h=>by cases h
  | .cons k t kids r,0,_,h=>by cases h;rfl
  | .cons k t kids r,i + 1,x,h=>by
    show (foD r)[i]? = _
    exact foD_get (f:=r) h
theorem get_size : ∀ {f : Fo} {i : Nat} {x : Nd},f.get? i = some x → SizeOf.sizeOf x.kids < SizeOf.sizeOf f
  | .nil,_,_,h=>by cases h
  | .cons k t kids r,0,_,h=>by cases h;simp;omega
  | .cons k t kids r,i + 1,x,h=>by
    have:=get_size (f:=r) (i:=i) h
    simp
    omega
theorem kids_of {G : Gh} {w : World} (n : Nat) : ∀ (f : Fo) (v : Value),SizeOf.sizeOf f ≤ n → RepC G w v (dL (foD f)) → KidsAt (Lt w.heap.size) w f v:=by
  induction n with
  | zero=>intro f v h;cases f <;> simp at h
  | succ n ih =>
    intro f v hn h
    generalize he : foD f = es at h
    cases h with
    | sl a cap k es g o sz xs ha hc hr hl hm hk =>
      subst he
      have hlen:=foD_len' f
      refine ⟨a,cap,by rw [hlen],⟨by rw [← hlen];exact hm.1,by rw [← hlen];exact hm.2⟩,fun hne=>?_⟩
      have hes : foD f ≠ []:=by
        intro e
        cases f with
        | nil=>exact hne rfl
        | cons k t kids r=>cases e
      have hsz : sz = 3:=by
        cases f with
        | nil=>exact absurd rfl hne
        | cons k t kids r=>exact (hl _ (List.mem_cons_self)).1.symm
      subst hsz
      have hall : ∀ (i : Nat) (x : Nd),f.get? i = some x → ∃ s,w.cell? ⟨g,o + i * 3,none⟩ = some (.int .i64 x.k) ∧ w.cell? ⟨g,o + i * 3 + 1,none⟩ = some (.string x.t) ∧ w.cell? ⟨g,o + i * 3 + 2,none⟩ = some s ∧ KidsAt (Lt w.heap.size) w x.kids s:=by
        intro i x hx
        have hg:=foD_get hx
        have c0:=hc i _ 0 (dI x.k) hg rfl
        have c1:=hc i _ 1 (dS x.t) hg rfl
        have c2:=hc i _ 2 (dL (foD x.kids)) hg rfl
        have r0:=repC_eq (hr i _ 0 (dI x.k) hg rfl)
        have r1:=repC_eq (hr i _ 1 (dS x.t) hg rfl)
        have r2:=hr i _ 2 (dL (foD x.kids)) hg rfl
        exact ⟨xs i 2,by rw [← r0];exact c0.1,by rw [← r1];exact c1.1,c2.1,ih x.kids _ (by have:=get_size hx;omega) r2⟩
      refine ⟨g,o,ha hes,?_,RowAt.of hall⟩
      cases f with
      | nil=>exact absurd rfl hne
      | cons k t kids r =>
        obtain ⟨s,c0,_⟩:=hall 0 ⟨k,t,kids⟩ rfl
        exact World.block_lt_of_cell? w _ c0
end Go.Proofs.Ythadnhpkeljdoaa.pv
