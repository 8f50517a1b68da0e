/- Ground of the law: PvS, PvS2, PvS3, PvS4, PvS5, PvS6, PvS7, PvS8. -/
import Derived.Test.YthadnhpkeljdoaaQh27
import Derived.Test.YthadnhpkeljdoaaQh08
import Derived.Lib.QuoteBits
import Derived.Test.YthadnhpkeljdoaaQh26
import Derived.Test.YthadnhpkeljdoaaQh25
import Derived.Test.YthadnhpkeljdoaaQh24
set_option maxRecDepth 100000
set_option maxHeartbeats 8000000
set_option linter.unusedVariables false
set_option linter.unusedSimpArgs false
namespace Go.Proofs.Ythadnhpkeljdoaa.pv
open Go.RowKit nd pa
theorem bcond_t {b : Bool} {A B : Prop} (hb : b = true) (h : A) : bcond b A B:=by subst hb;exact h
theorem bcond_f {b : Bool} {A B : Prop} (hb : b = false) (h : B) : bcond b A B:=by subst hb;exact h
theorem ok_eq {P : Program} {f : FuncId} {ds out : List D} (h : OkP P f ds (· = out)) : Ok P f ds out:=by
  obtain ⟨_,h1,rfl⟩:=h
  exact h1
theorem bytes_eq (a b : ByteArray) : (a.toList == b.toList) = decide (a = b):=by
  by_cases h : a = b
  · subst h;simp
  · rw [decide_eq_false h,beq_eq_false_iff_ne,Lib.toList_data,Lib.toList_data]
    intro e
    exact h (by cases a;cases b;congr;exact Array.toList_inj.1 e)
abbrev pD (L : List (List D)) (i : Nat) (b : Bool) : D:=.agg [dL L,dI (i : Int),dB b]
def foD : Fo → List (List D)
  | .nil=>[]
  | .cons k t kids r=>[dI k,dS t,dL (foD kids)] :: foD r
abbrev ndD (x : Nd) : D:=.agg [dI x.k,dS x.t,dL (foD x.kids)]
structure Its (L : List (List D)) (l : List pa.Tk) : Prop where
  len : L.length = l.length
  item : ∀ (i : Nat) (t : pa.Tk),l[i]? = some t → ∃ a es,L[i]? = some [dI t.1,dS t.2,dI a,dL es]
  few : l.length ≤ 1000000
  sz : ∀ t ∈ l,t.2.size ≤ 1000000
  cut : ∀ t ∈ l,t.1 = 4 ∨ t.1 = 5 → 1 ≤ t.2.size
def tokB (l : List pa.Tk) (i : Nat) (b : Bool) : pa.Tk:=if b then noTk else pa.tok (l.drop i)
section
variable {L : List (List D)} {l : List pa.Tk}
theorem tok_at {i : Nat} (h : i < l.length) : pa.tok (l.drop i) = l[i]:=by
  rw [List.drop_eq_getElem_cons h];rfl
theorem tok_end {i : Nat} (h : l.length ≤ i) : pa.tok (l.drop i) = noTk:=by
  rw [List.drop_eq_nil_of_le h];rfl
theorem tok_sz (h : Its L l) (i : Nat) (b : Bool) : (tokB l i b).2.size ≤ 1000000:=by
  cases b with
  | true=>exact Nat.zero_le _
  | false =>
    by_cases hi : i < l.length
    · show (pa.tok (l.drop i)).2.size ≤ 1000000
      rw [tok_at hi]
      exact h.sz _ (List.getElem_mem hi)
    · show (pa.tok (l.drop i)).2.size ≤ 1000000
      rw [tok_end (by omega)]
      exact Nat.zero_le _
theorem tok_ok (h : Its L l) (i : Nat) (b : Bool) : Ok Try.prog 64 [pD L i b] [.agg [dI (tokB l i b).1,dS (tokB l i b).2]]:=by
  refine ok_eq (o_tok ?_)
  unfold S_tok
  cases b with
  | true=>exact bcond_t rfl rfl
  | false =>
    refine bcond_f rfl ?_
    by_cases hi : i < l.length
    · obtain ⟨a,es,e⟩:=h.item i l[i] (by simp)
      refine bcond_f (decide_eq_false (by have:=h.len;simp only [Int.ofNat_eq_natCast];omega)) ⟨by omega,_,_,_,_,e,?_⟩
      show _ = [D.agg [dI (pa.tok (l.drop i)).1,dS (pa.tok (l.drop i)).2]]
      rw [tok_at hi]
    · refine bcond_t (decide_eq_true (by have:=h.len;simp only [Int.ofNat_eq_natCast];omega)) ?_
      show _ = [D.agg [dI (pa.tok (l.drop i)).1,dS (pa.tok (l.drop i)).2]]
      rw [tok_end (by omega)]
      rfl
theorem op_ok (h : Its L l) (i : Nat) (b : Bool) (s : ByteArray) : Ok Try.prog 69 [pD L i b,dS s] [dB (pa.op s (tokB l i b))]:=by
  refine ok_eq (o_op ⟨_,_,tok_ok h i b,?_⟩)
  unfold pa.op
  cases hk : (tokB l i b).1 == 13
  · exact bcond_f rfl rfl
  · refine bcond_t rfl ⟨_,_,tok_ok h i b,?_⟩
    show [dB ((tokB l i b).2.toList == s.toList)] = _
    rw [bytes_eq];rfl
theorem word_ok (h : Its L l) (i : Nat) (b : Bool) (s : ByteArray) : Ok Try.prog 46 [pD L i b,dS s] [dB (pa.word s (tokB l i b))]:=by
  refine ok_eq (o_word ⟨_,_,tok_ok h i b,?_⟩)
  unfold pa.word
  cases hk : (tokB l i b).1 == 3
  · exact bcond_f rfl rfl
  · refine bcond_t rfl ⟨_,_,tok_ok h i b,?_⟩
    show [dB ((tokB l i b).2.toList == s.toList)] = _
    rw [bytes_eq];rfl
theorem next_ok (L : List (List D)) {i : Nat} (hi : i ≤ 1000000) : Ok Try.prog 65 [pD L i false] [pD L (i + 1) false]:=by
  refine ok_eq (o_next (bcond_t rfl ?_))
  rw [show ((i : Int) + (1 : Int)) = ((i + 1 : Nat) : Int) by omega,Lib.wrap_i64_small _ (by omega)]
theorem wrong_ok (L : List (List D)) (i : Nat) (b : Bool) : Ok Try.prog 50 [pD L i b] [pD L i true]:=ok_eq (o_wrong rfl)
theorem tok_lt {i : Nat} {b : Bool} (h : (tokB l i b).1 ≠ 0) : b = false ∧ i < l.length:=by
  cases b with
  | true=>exact absurd rfl h
  | false =>
    refine ⟨rfl,?_⟩
    by_cases hi : i < l.length
    · exact hi
    · exact absurd (show (pa.tok (l.drop i)).1 = 0 by rw [tok_end (by omega)];rfl) h
theorem op_lt {i : Nat} {b : Bool} {s : ByteArray} (h : pa.op s (tokB l i b) = true) : b = false ∧ i < l.length:=by
  refine tok_lt (fun e=>?_)
  unfold pa.op at h
  rw [e] at h
  cases h
theorem word_lt {i : Nat} {b : Bool} {s : ByteArray} (h : pa.word s (tokB l i b) = true) : b = false ∧ i < l.length:=by
  refine tok_lt (fun e=>?_)
  unfold pa.word at h
  rw [e] at h
  cases h
theorem need_ok (h : Its L l) (i : Nat) (b : Bool) (s : ByteArray) : Ok Try.prog 67 [pD L i b,dS s] [if pa.op s (tokB l i b) || pa.word s (tokB l i b) then pD L (i + 1) false else pD L i true]:=by
  have hf:=h.few
  refine ok_eq (o_need ⟨_,op_ok h i b s,?_⟩)
  cases ho : pa.op s (tokB l i b)
  · refine bcond_f rfl ⟨_,word_ok h i b s,?_⟩
    cases hw : pa.word s (tokB l i b)
    · exact bcond_f rfl ⟨_,_,_,wrong_ok L i b,rfl⟩
    · obtain ⟨rfl,hi⟩:=word_lt hw
      exact bcond_t rfl ⟨_,_,_,next_ok L (by omega),rfl⟩
  · obtain ⟨rfl,hi⟩:=op_lt ho
    exact bcond_t rfl ⟨_,_,_,next_ok L (by omega),rfl⟩
theorem kind_ok (h : Its L l) (i : Nat) (b : Bool) {k : Int} (hk : k ≠ 0) {n : Nat} (hn : ∀ t ∈ l,t.1 = k → n ≤ t.2.size) :
    Ok Try.prog 84 [pD L i b,dI k,dI (n : Int)] (if (tokB l i b).1 == k then [pD L (i + 1) false,dS ((tokB l i b).2.extract n (tokB l i b).2.size)] else [pD L i true,dS ⟨#[]⟩]):=by
  have hf:=h.few
  refine ok_eq (o_kind ⟨_,_,tok_ok h i b,?_⟩)
  cases e : (tokB l i b).1 == k
  · exact bcond_t (by rw [bne,e];rfl) ⟨_,_,_,wrong_ok L i b,rfl⟩
  · obtain ⟨rfl,hi⟩:=tok_lt (l:=l) (i:=i) (b:=b) (by rw [eq_of_beq e];exact hk)
    refine bcond_f (by rw [bne,e];rfl) ⟨_,_,_,next_ok L (by omega),_,_,tok_ok h i false,⟨by omega,?_⟩,rfl⟩
    have ht : tokB l i false = l[i]:=tok_at hi
    have:=hn l[i] (List.getElem_mem hi) (by rw [← ht];exact eq_of_beq e)
    rw [ht]
    simp only [Int.ofNat_eq_natCast]
    omega
theorem one_ok (h : Its L l) (i : Nat) (b : Bool) {k : Int} (hk : k ≠ 0) : Ok Try.prog 77 [pD L i b,dI k] [if (tokB l i b).1 == k then pD L (i + 1) false else pD L i true]:=by
  have hc:=kind_ok h i b hk (n:=0) (fun _ _ _=>Nat.zero_le _)
  refine ok_eq (o_one ?_)
  cases e : (tokB l i b).1 == k
  · rw [e] at hc;exact ⟨_,_,_,_,hc,rfl⟩
  · rw [e] at hc;exact ⟨_,_,_,_,hc,rfl⟩
end
end Go.Proofs.Ythadnhpkeljdoaa.pv
namespace Go.Proofs.Ythadnhpkeljdoaa.pv
open Go.RowKit nd pa
def runB {α : Type} (p : Pa α) (l : List pa.Tk) (i : Nat) (b : Bool) : Option (Out α):=if b then some (.bad (l.drop i)) else p.run (l.drop i)
def Nret (L : List (List D)) (l : List pa.Tk) (o : Out Nd) (out : List D) : Prop :=
  ∃ (j : Nat) (b : Bool) (y : Nd),out = [pD L j b,ndD y] ∧ j ≤ l.length ∧ (match o with
    | .ok r x=>b = false ∧ r = l.drop j ∧ y = x
    | .bad r=>b = true ∧ r = l.drop j)
def NodeO (p : Pa Nd) (f : FuncId) (more : List D) : Prop:=∀ (L : List (List D)) (l : List pa.Tk) (i : Nat) (b : Bool) (o : Out Nd),Its L l → i ≤ l.length → runB p l i b = some o → OkP Try.prog f (pD L i b :: more) (Nret L l o)
def NodeQ (p : Pa Nd) (f : FuncId) (more : List D) : Prop:=∀ (L : List (List D)) (l : List pa.Tk) (i : Nat) (o : Out Nd),Its L l → i < l.length → runB p l i false = some o → OkP Try.prog f (pD L i false :: more) (Nret L l o)
section
variable {L : List (List D)} {l : List pa.Tk} {i : Nat} {b : Bool}
theorem rb_look {α : Type} {k : pa.Tk → Pa α} {o : Out α} (h : runB (.look k) l i b = some o) : runB (k (tokB l i b)) l i b = some o:=by cases b <;> exact h
theorem rb_bad {α : Type} {o : Out α} (h : runB (.bad : Pa α) l i b = some o) : o = .bad (l.drop i):=by cases b <;> (cases h;rfl)
theorem rb_true {α : Type} {p : Pa α} {o : Out α} (h : runB p l i true = some o) : o = .bad (l.drop i):=by cases h;rfl
theorem rb_move {α : Type} {p : Pa α} {o : Out α} (h : runB (.move p) l i false = some o) : runB p l (i + 1) false = some o:=by
  show p.run (l.drop (i + 1)) = _
  rw [← List.tail_drop]
  exact h
theorem rb_bind {α β : Type} {p : Pa α} {g : α → Pa β} {o : Out β} (h : runB (p.bind g) l i b = some o) : ∃ o1,runB p l i b = some o1 ∧ (match o1 with
    | .ok r x=>(g x).run r = some o
    | .bad r=>o = .bad r):=by
  cases b with
  | true=>exact ⟨.bad (l.drop i),rfl,rb_true h⟩
  | false =>
    have h : (p.bind g).run (l.drop i) = some o:=h
    rw [Pa.run_bind] at h
    cases hp : p.run (l.drop i) with
    | none=>rw [hp] at h;cases h
    | some o1 =>
      rw [hp] at h
      refine ⟨o1,hp,?_⟩
      cases o1 with
      | ok r x=>exact h
      | bad r=>cases h;rfl
theorem rb_ret {x : Nd} {o : Out Nd} (hi : i ≤ l.length) (h : runB (.ret x) l i b = some o) : Nret L l o [pD L i b,ndD x]:=by
  cases b with
  | true=>rw [rb_true h];exact ⟨i,true,x,rfl,hi,rfl,rfl⟩
  | false=>cases h;exact ⟨i,false,x,rfl,hi,rfl,rfl,rfl⟩
theorem rb_need {α : Type} {s : ByteArray} {k : Pa α} {o : Out α} (hL : Its L l) (hi : i ≤ l.length) (h : runB (need s k) l i b = some o) :
    ∃ j b',Ok Try.prog 67 [pD L i b,dS s] [pD L j b'] ∧ j ≤ l.length ∧ runB k l j b' = some o:=by
  have h:=rb_look h
  have hn:=need_ok hL i b s
  cases c : pa.op s (tokB l i b) || pa.word s (tokB l i b)
  · rw [c] at h hn
    exact ⟨i,true,hn,hi,by rw [rb_bad h];rfl⟩
  · rw [c] at h hn
    have hb : b = false ∧ i < l.length:=by
      rcases Bool.or_eq_true_iff.1 c with e | e
      · exact op_lt e
      · exact word_lt e
    obtain ⟨rfl,hi⟩:=hb
    exact ⟨i + 1,false,hn,hi,rb_move h⟩
theorem rb_text {α : Type} {kd : Int} {k : ByteArray → Pa α} {o : Out α} (hL : Its L l) (hi : i ≤ l.length) (hk : kd = 4 ∨ kd = 5) (h : runB (text kd k) l i b = some o) :
    ∃ j b' s,Ok Try.prog 84 [pD L i b,dI kd,dI 1] [pD L j b',dS s] ∧ j ≤ l.length ∧ runB (k s) l j b' = some o:=by
  have h:=rb_look h
  have h0 : kd ≠ 0:=by omega
  have hn:=kind_ok hL i b h0 (n:=1) (fun t ht e=>hL.cut t ht (by omega))
  cases c : (tokB l i b).1 == kd
  · rw [c] at h hn
    exact ⟨i,true,_,hn,hi,by rw [rb_bad h];rfl⟩
  · rw [c] at h hn
    obtain ⟨rfl,hi⟩:=tok_lt (l:=l) (i:=i) (b:=b) (by rw [eq_of_beq c];exact h0)
    exact ⟨i + 1,false,_,hn,hi,rb_move h⟩
theorem NodeO.next {p : Pa Nd} {f : FuncId} {more : List D} (hc : NodeO p f more) (hL : Its L l) (hi : i ≤ l.length) {β : Type} {g : Nd → Pa β} {o : Out β} (h : runB (p.bind g) l i b = some o) :
    ∃ j b' y,Ok Try.prog f (pD L i b :: more) [pD L j b',ndD y] ∧ j ≤ l.length ∧ runB (g y) l j b' = some o:=by
  obtain ⟨o1,h1,h2⟩:=rb_bind h
  obtain ⟨out,hok,j,b',y,rfl,hj,hm⟩:=hc L l i b o1 hL hi h1
  refine ⟨j,b',y,hok,hj,?_⟩
  cases o1 with
  | ok r x=>obtain ⟨rfl,rfl,rfl⟩:=hm;exact h2
  | bad r=>obtain ⟨rfl,rfl⟩:=hm;rw [h2];rfl
theorem NodeO.last {p : Pa Nd} {f : FuncId} {more : List D} (hc : NodeO p f more) (hL : Its L l) (hi : i ≤ l.length) {o : Out Nd} (h : runB p l i b = some o) :
    ∃ j b' y,Ok Try.prog f (pD L i b :: more) [pD L j b',ndD y] ∧ Nret L l o [pD L j b',ndD y]:=by
  obtain ⟨out,hok,j,b',y,rfl,hj,hm⟩:=hc L l i b o hL hi h
  exact ⟨j,b',y,hok,j,b',y,rfl,hj,hm⟩
end
theorem unit_ok {n : Nat} (hu : NodeO (go n .unit) 101 []) (hp : NodeO (go n .post) 86 []) : NodeO (go (n + 1) .unit) 101 []:=by
  intro L l i b o hL hi h
  have hf:=hL.few
  have h:=rb_look h
  refine o_unit ⟨_,op_ok hL i b minus,?_⟩
  cases c : pa.op minus (tokB l i b)
  · rw [c] at h
    obtain ⟨j,b',y,hok,hr⟩:=hp.last hL hi h
    exact bcond_f rfl ⟨_,_,_,_,_,_,hok,hr⟩
  · rw [c] at h
    obtain ⟨rfl,hi⟩:=op_lt c
    obtain ⟨j,b',y,hok,hj,h⟩:=hu.next hL hi (rb_move h)
    exact bcond_t rfl ⟨_,_,_,next_ok L (by omega),_,_,_,_,_,_,hok,rb_ret hj h⟩
theorem pipe_ok {n : Nat} (he : NodeO (go n (.exp 1)) 71 [dI 1]) : NodeO (go n (.exp 1)) 49 []:=by
  intro L l i b o hL hi h
  obtain ⟨j,b',y,hok,hr⟩:=he.last hL hi h
  exact o_pipe ⟨_,_,_,_,_,_,hok,hr⟩
theorem operand_ok {n : Nat} (he : NodeO (go n (.exp 9)) 71 [dI 9]) (hd : NodeQ (go n (.deff false)) 48 [dB false]) (hpi : NodeO (go n (.exp 1)) 49 [])
    (hp : NodeO (go n .post) 86 []) (hpa : NodeO (go n .pattern) 87 []) : NodeO (go (n + 1) .operand) 79 []:=by
  intro L l i b o hL hi h
  have hf:=hL.few
  have h:=rb_look h
  refine o_operand ⟨_,op_ok hL i b minus,?_⟩
  cases c1 : pa.op minus (tokB l i b)
  · rw [c1] at h
    refine bcond_f rfl ⟨_,word_ok hL i b wdef,?_⟩
    cases c2 : pa.word wdef (tokB l i b)
    · rw [c2] at h
      refine bcond_f rfl ⟨_,word_ok hL i b wlabel,?_⟩
      cases c3 : pa.word wlabel (tokB l i b)
      · rw [c3] at h
        refine bcond_f rfl ⟨_,word_ok hL i b wtry,?_⟩
        cases c4 : pa.word wtry (tokB l i b)
        · rw [c4] at h
          obtain ⟨j,b',y,hok,hj,h⟩:=hp.next hL hi h
          have h:=rb_look h
          refine bcond_f rfl ⟨_,_,_,_,_,_,hok,_,word_ok hL j b' was,?_⟩
          cases c5 : pa.word was (tokB l j b')
          · rw [c5] at h
            exact bcond_t rfl (rb_ret hj h)
          · rw [c5] at h
            obtain ⟨rfl,hj⟩:=word_lt c5
            obtain ⟨j2,b2,y2,hok2,hj2,h⟩:=hpa.next hL hj (rb_move h)
            obtain ⟨j3,b3,hok3,hj3,h⟩:=rb_need hL hj2 h
            obtain ⟨j4,b4,y4,hok4,hj4,h⟩:=hpi.next hL hj3 h
            exact bcond_f rfl ⟨_,_,_,next_ok L (by omega),_,_,_,_,_,_,hok2,_,_,_,hok3,_,_,_,_,_,_,hok4,rb_ret hj4 h⟩
        · rw [c4] at h
          obtain ⟨rfl,hi⟩:=word_lt c4
          obtain ⟨j,b',y,hok,hj,h⟩:=hp.next hL hi (rb_move h)
          have h:=rb_look h
          refine bcond_t rfl ⟨_,_,_,next_ok L (by omega),_,_,_,_,_,_,hok,_,word_ok hL j b' wcatch,?_⟩
          cases c5 : pa.word wcatch (tokB l j b')
          · rw [c5] at h
            exact bcond_f rfl (rb_ret hj h)
          · rw [c5] at h
            obtain ⟨rfl,hj⟩:=word_lt c5
            obtain ⟨j2,b2,y2,hok2,hj2,h⟩:=hp.next hL hj (rb_move h)
            exact bcond_t rfl ⟨_,_,_,next_ok L (by omega),_,_,_,_,_,_,hok2,⟨rfl,by simp,by omega⟩,rb_ret hj2 h⟩
      · rw [c3] at h
        obtain ⟨rfl,hi⟩:=word_lt c3
        obtain ⟨j,b',s,hok,hj,h⟩:=rb_text hL hi (.inr rfl) (rb_move h)
        obtain ⟨j2,b2,hok2,hj2,h⟩:=rb_need hL hj h
        obtain ⟨j3,b3,y3,hok3,hj3,h⟩:=hpi.next hL hj2 h
        exact bcond_t rfl ⟨_,_,_,next_ok L (by omega),_,_,_,_,hok,_,_,_,hok2,_,_,_,_,_,_,hok3,rb_ret hj3 h⟩
    · rw [c2] at h
      obtain ⟨rfl,hlt⟩:=word_lt c2
      obtain ⟨out,hok,j,b',y,rfl,hj,hm⟩:=hd L l i o hL hlt h
      have hr : Nret L l o [pD L j b',ndD y]:=⟨j,b',y,rfl,hj,hm⟩
      exact bcond_t rfl ⟨_,_,_,_,_,_,hok,hr⟩
  · rw [c1] at h
    obtain ⟨rfl,hi⟩:=op_lt c1
    obtain ⟨j,b',y,hok,hj,h⟩:=he.next hL hi (rb_move h)
    exact bcond_t rfl ⟨_,_,_,next_ok L (by omega),_,_,_,_,_,_,hok,rb_ret hj h⟩
end Go.Proofs.Ythadnhpkeljdoaa.pv
namespace Go.Proofs.Ythadnhpkeljdoaa.pv
open Go.RowKit nd pa pr
structure ExtO : Prop where
  plain : ∀ s : ByteArray,s.size ≤ 1000000 → Ok Try.prog 78 [dS s] [dB (Sg.plain s.data.toList)]
  key : ∀ s : ByteArray,Ok Try.prog 85 [dS s] [dB (Sg.key s.data.toList)]
  level : ∀ s : ByteArray,Ok Try.prog 81 [dS s] [dI (levelOf s)]
  side : ∀ s : ByteArray,Ok Try.prog 82 [dS s] [dI (sideOf s)]
  right : ∀ s : ByteArray,Ok Try.prog 83 [dS s] [dI (besideOf s 2)]
  of : ∀ t : pa.Tk,Ok Try.prog 88 [.agg [dI t.1,dS t.2]] [dS (textOf t.1 t.2)]
theorem oper_ok (X : ExtO) {L : List (List D)} {l : List pa.Tk} (h : Its L l) (i : Nat) (b : Bool) : Ok Try.prog 80 [pD L i b] [dS (textOf (tokB l i b).1 (tokB l i b).2)] :=
  ok_eq (o_oper ⟨_,_,tok_ok h i b,_,X.of _,rfl⟩)
theorem value_ok {n : Nat} (hu : NodeO (go n .unit) 101 []) (hv : NodeO (go n .value) 100 []) : NodeO (go (n + 1) .value) 100 []:=by
  intro L l i b o hL hi h
  have hf:=hL.few
  obtain ⟨j,b',y,hok,hj,h⟩:=hu.next hL hi (show runB ((go n .unit).bind _) l i b = some o from h)
  have h:=rb_look h
  refine o_value ⟨_,_,_,_,_,_,hok,_,op_ok hL j b' bar,?_⟩
  cases c : pa.op bar (tokB l j b')
  · rw [c] at h
    exact bcond_t rfl (rb_ret hj h)
  · rw [c] at h
    obtain ⟨rfl,hj⟩:=op_lt c
    obtain ⟨j2,b2,y2,hok2,hj2,h⟩:=hv.next hL hj (rb_move h)
    exact bcond_f rfl ⟨_,_,_,next_ok L (by omega),_,_,_,_,_,_,hok2,rb_ret hj2 h⟩
theorem fold_ok {n : Nat} {kd : Int} {three : Bool} (hp : NodeO (go n .post) 86 []) (hpa : NodeO (go n .pattern) 87 []) (hpi : NodeO (go n (.exp 1)) 49 []) :
    NodeO (go (n + 1) (.fold kd three)) 99 [dI kd,dI (if three then 3 else 2)]:=by
  intro L l i b o hL hi h
  have hf:=hL.few
  obtain ⟨j1,b1,y1,ok1,hj1,h⟩:=hp.next hL hi (show runB ((go n .post).bind _) l i b = some o from h)
  obtain ⟨j2,b2,ok2,hj2,h⟩:=rb_need hL hj1 h
  obtain ⟨j3,b3,y3,ok3,hj3,h⟩:=hpa.next hL hj2 h
  obtain ⟨j4,b4,ok4,hj4,h⟩:=rb_need hL hj3 h
  obtain ⟨j5,b5,y5,ok5,hj5,h⟩:=hpi.next hL hj4 h
  obtain ⟨j6,b6,ok6,hj6,h⟩:=rb_need hL hj5 h
  obtain ⟨j7,b7,y7,ok7,hj7,h⟩:=hpi.next hL hj6 h
  have h:=rb_look h
  refine o_fold ⟨_,_,_,_,_,_,ok1,_,_,_,ok2,_,_,_,_,_,_,ok3,_,_,_,ok4,_,_,_,_,_,_,ok5,_,_,_,ok6,_,_,_,_,_,_,ok7,?_⟩
  cases three
  · obtain ⟨j8,b8,ok8,hj8,h⟩:=rb_need hL hj7 h
    exact bcond_f rfl ⟨_,_,_,ok8,rb_ret hj8 h⟩
  · refine bcond_t rfl ⟨_,op_ok hL j7 b7 semi,?_⟩
    cases c : pa.op semi (tokB l j7 b7)
    · rw [c] at h
      obtain ⟨j8,b8,ok8,hj8,h⟩:=rb_need hL hj7 h
      exact bcond_f rfl ⟨_,_,_,ok8,rb_ret hj8 h⟩
    · rw [c] at h
      obtain ⟨rfl,hj⟩:=op_lt c
      obtain ⟨j8,b8,y8,ok8,hj8,h⟩:=hpi.next hL hj (rb_move h)
      obtain ⟨j9,b9,ok9,hj9,h⟩:=rb_need hL hj8 h
      exact bcond_t rfl ⟨_,_,_,next_ok L (by omega),_,_,_,_,_,_,ok8,⟨rfl,by simp,by omega⟩,_,_,_,ok9,rb_ret hj9 h⟩
theorem bcond_guard {lv x1 : Int} {A R : Prop} (h : ¬ (0 < lv ∧ lv = x1)) (hR : R) : bcond (decide (lv > (0 : Int))) (bcond (bif true then lv == x1 else false) A R) R:=by
  by_cases hp : lv > 0
  · exact bcond_t (decide_eq_true hp) (bcond_f (beq_eq_false_iff_ne.2 fun e=>h ⟨hp,e⟩) hR)
  · exact bcond_f (decide_eq_false hp) hR
theorem bcond_z {lv least : Int} {A R : Prop} (h : lv = 0 ∨ lv < least) (hA : A) : bcond (lv == (0 : Int)) A (bcond (bif false then true else decide (lv < least)) A R):=by
  by_cases hz : lv = 0
  · exact bcond_t (beq_iff_eq.2 hz) hA
  · exact bcond_f (beq_eq_false_iff_ne.2 hz) (bcond_t (decide_eq_true (h.resolve_left hz)) hA)
theorem bcond_nz {lv least : Int} {A R : Prop} (h : ¬ (lv = 0 ∨ lv < least)) (hR : R) : bcond (lv == (0 : Int)) A (bcond (bif false then true else decide (lv < least)) A R) :=
  bcond_f (beq_eq_false_iff_ne.2 fun e=>h (.inl e)) (bcond_f (decide_eq_false fun e=>h (.inr e)) hR)
def ExpL (p : Int → Nd → Int → Pa Nd) : Prop:=∀ (least : Int) (x : Nd) (barred : Int) (L : List (List D)) (l : List pa.Tk) (i0 : Int) (b0 : Bool) (j : Nat) (b : Bool) (o : Out Nd),Its L l → j ≤ l.length → runB (p least x barred) l j b = some o →
  ∃ k,L_exp_3_12 L i0 b0 least (Nret L l o) k [dI least,.ptr 0 0,.ptr 1 0,.ptr 2 0,.ptr 8 0,dI barred,dL L,dI (j : Int),dB b,.sl .nil [],dI 0,dB false,dI 0,dS ⟨#[]⟩,.sl .nil [],dI x.k,dS x.t,dL (foD x.kids)]
theorem expL_ok (X : ExtO) {n : Nat} (he : ∀ lv,NodeO (go n (.exp lv)) 71 [dI lv]) (hl : ExpL fun a x c=>go n (.expL a x c)) : ExpL fun a x c=>go (n + 1) (.expL a x c):=by
  intro least x barred L l i0 b0 j b o hL hj h
  have hf:=hL.few
  cases b with
  | true =>
    refine ⟨0 + 1,?_⟩
    rw [l_exp_3_12]
    rw [rb_true h]
    exact bcond_f rfl ⟨j,true,x,rfl,hj,rfl,rfl⟩
  | false =>
    have h:=rb_look (show runB (.look _) l j false = some o from h)
    by_cases h1 : 0 < levelOf (textOf (tokB l j false).1 (tokB l j false).2) ∧ levelOf (textOf (tokB l j false).1 (tokB l j false).2) = barred
    · rw [if_pos h1] at h
      refine ⟨0 + 1,?_⟩
      rw [l_exp_3_12]
      rw [rb_bad h]
      exact bcond_t rfl ⟨_,oper_ok X hL j false,_,X.level _,bcond_t (decide_eq_true h1.1) (bcond_t (beq_iff_eq.2 h1.2) ⟨_,_,_,wrong_ok L j false,j,true,x,rfl,hj,rfl,rfl⟩)⟩
    · rw [if_neg h1] at h
      by_cases h2 : levelOf (textOf (tokB l j false).1 (tokB l j false).2) = 0 ∨ levelOf (textOf (tokB l j false).1 (tokB l j false).2) < least
      · rw [if_pos h2] at h
        refine ⟨0 + 1,?_⟩
        rw [l_exp_3_12]
        exact bcond_t rfl ⟨_,oper_ok X hL j false,_,X.level _,bcond_guard h1 (bcond_z h2 (rb_ret hj h))⟩
      · rw [if_neg h2] at h
        have hlt : j < l.length:=by
          by_cases hh : j < l.length
          · exact hh
          · exfalso
            apply h2
            left
            rw [show tokB l j false = noTk from tok_end (by omega)]
            decide +kernel
        obtain ⟨j2,b2,y2,ok2,hj2,h⟩:=(he _).next hL hlt (rb_move h)
        obtain ⟨k,hk⟩:=hl least _ _ L l i0 b0 j2 b2 o hL hj2 h
        refine ⟨k + 1,?_⟩
        rw [l_exp_3_12]
        refine bcond_t rfl ⟨_,oper_ok X hL j false,_,X.level _,bcond_guard h1 (bcond_nz h2 ⟨_,X.side _,?_⟩)⟩
        by_cases hs : sideOf (textOf (tokB l j false).1 (tokB l j false).2) = 0
        · rw [if_pos hs] at hk
          exact bcond_t (beq_iff_eq.2 hs) ⟨_,_,_,next_ok L (by omega),_,X.right _,_,_,_,_,_,_,ok2,hk⟩
        · rw [if_neg hs] at hk
          exact bcond_f (beq_eq_false_iff_ne.2 hs) ⟨_,_,_,next_ok L (by omega),_,X.right _,_,_,_,_,_,_,ok2,hk⟩
theorem exp_ok {n : Nat} {least : Int} (ho : NodeO (go n .operand) 79 []) (hl : ExpL fun a x c=>go n (.expL a x c)) : NodeO (go (n + 1) (.exp least)) 71 [dI least]:=by
  intro L l i b o hL hi h
  obtain ⟨j,b',y,hok,hj,h⟩:=ho.next hL hi (show runB ((go n .operand).bind _) l i b = some o from h)
  obtain ⟨k,hk⟩:=hl least y 0 L l i b j b' o hL hj h
  exact o_exp ⟨_,_,_,_,_,_,hok,k,hk⟩
end Go.Proofs.Ythadnhpkeljdoaa.pv
namespace Go.Proofs.Ythadnhpkeljdoaa.pv
open Go.RowKit nd pa pr
theorem within_ok {n : Nat} {x : Nd} {d : ByteArray} (hpi : ∀ m,m ≤ n → NodeO (go m (.exp 1)) 49 []) : NodeO (go (n + 1) (.within x d)) 91 [ndD x,dS d]:=by
  intro L l i b o hL hi h
  have hf:=hL.few
  obtain ⟨j1,b1,ok1,hj1,h⟩:=rb_need hL hi (show runB (need lbr _) l i b = some o from h)
  have h:=rb_look h
  refine o_within ⟨_,_,_,ok1,_,op_ok hL j1 b1 rbr,?_⟩
  cases c1 : pa.op rbr (tokB l j1 b1)
  · rw [c1] at h
    refine bcond_f rfl ⟨_,op_ok hL j1 b1 colon,?_⟩
    cases c2 : pa.op colon (tokB l j1 b1)
    · rw [c2] at h
      obtain ⟨j2,b2,y,ok2,hj2,h⟩:=(hpi n (Nat.le_refl n)).next hL hj1 h
      have h:=rb_look h
      refine bcond_t rfl ⟨_,_,_,_,_,_,ok2,_,op_ok hL j2 b2 rbr,?_⟩
      cases c3 : pa.op rbr (tokB l j2 b2)
      · rw [c3] at h
        cases b2 with
        | true =>
          have nx : ∀ s,Ok Try.prog 67 [pD L j2 true,dS s] [pD L j2 true]:=fun s=>need_ok hL j2 true s
          have hr : ∀ z,Nret L l o [pD L j2 true,ndD z]:=fun z=>by rw [rb_true h];exact ⟨j2,true,z,rfl,hj2,rfl,rfl⟩
          have hpp : ∃ z,Ok Try.prog 49 [pD L j2 true] [pD L j2 true,ndD z]:=by
            obtain ⟨out,hok,j,b',z,rfl,hj,hm⟩:=hpi n (Nat.le_refl n) L l j2 true (.bad (l.drop j2)) hL hj2 rfl
            obtain ⟨rfl,hm⟩:=hm
            have : j = j2:=by
              have:=congrArg List.length hm
              simp at this
              omega
            subst this
            exact ⟨z,hok⟩
          obtain ⟨z,hz⟩:=hpp
          refine bcond_f rfl ⟨_,_,_,nx _,?_⟩
          cases c4 : y.k == 0
          · refine bcond_f rfl ⟨_,op_ok hL j2 true rbr,?_⟩
            exact bcond_t rfl ⟨_,_,_,_,_,_,hz,_,_,_,nx _,hr (mk 19 d [x,y,z])⟩
          · exact bcond_t rfl ⟨_,_,_,_,_,_,hz,_,_,_,nx _,hr (mk 19 d [x,y,z])⟩
        | false =>
          cases n with
          | zero=>cases h
          | succ m =>
            obtain ⟨j3,b3,ok3,hj3,h⟩:=rb_need hL hj2 (show runB (need colon _) l j2 false = some o from h)
            have h:=rb_look h
            refine bcond_f rfl ⟨_,_,_,ok3,?_⟩
            have ho:=op_ok hL j3 b3 rbr
            cases c4 : y.k == 0
            · rw [c4] at h
              refine bcond_f rfl ⟨_,ho,?_⟩
              cases c5 : pa.op rbr (tokB l j3 b3)
              · rw [c5] at h
                obtain ⟨j4,b4,y4,ok4,hj4,h⟩:=(hpi m (by omega)).next hL hj3 h
                obtain ⟨j5,b5,ok5,hj5,h⟩:=rb_need hL hj4 h
                exact bcond_t rfl ⟨_,_,_,_,_,_,ok4,_,_,_,ok5,rb_ret hj5 h⟩
              · rw [c5] at h
                obtain ⟨j4,b4,ok4,hj4,h⟩:=rb_need hL hj3 h
                exact bcond_f rfl ⟨_,_,_,ok4,rb_ret hj4 h⟩
            · rw [c4] at h
              obtain ⟨j4,b4,y4,ok4,hj4,h⟩:=(hpi m (by omega)).next hL hj3 h
              obtain ⟨j5,b5,ok5,hj5,h⟩:=rb_need hL hj4 h
              exact bcond_t rfl ⟨_,_,_,_,_,_,ok4,_,_,_,ok5,rb_ret hj5 h⟩
      · rw [c3] at h
        obtain ⟨rfl,hj2⟩:=op_lt c3
        exact bcond_t rfl ⟨_,_,_,next_ok L (by omega),rb_ret (by omega) (rb_move h)⟩
    · rw [c2] at h
      obtain ⟨rfl,hlt⟩:=op_lt c2
      cases n with
      | zero=>cases h
      | succ m =>
        obtain ⟨j3,b3,ok3,hj3,h⟩:=rb_need hL hj1 (show runB (need colon _) l j1 false = some o from h)
        have h:=rb_look h
        obtain ⟨j4,b4,y4,ok4,hj4,h⟩:=(hpi m (by omega)).next hL hj3 h
        obtain ⟨j5,b5,ok5,hj5,h⟩:=rb_need hL hj4 h
        exact bcond_f rfl ⟨_,_,_,ok3,_,_,_,_,_,_,ok4,_,_,_,ok5,rb_ret hj5 h⟩
  · rw [c1] at h
    obtain ⟨rfl,hlt⟩:=op_lt c1
    exact bcond_t rfl ⟨_,_,_,next_ok L (by omega),rb_ret (by omega) (rb_move h)⟩
def Kret (L : List (List D)) (l : List pa.Tk) (o : Out (Nd × Bool)) (out : List D) : Prop :=
  ∃ (j : Nat) (b : Bool) (y : Nd) (m : Bool),out = [pD L j b,ndD y,dB m] ∧ j ≤ l.length ∧ (match o with
    | .ok r x=>b = false ∧ r = l.drop j ∧ y = x.1 ∧ m = x.2
    | .bad r=>b = true ∧ r = l.drop j)
def KeyO (p : Pa (Nd × Bool)) (f : FuncId) (more : List D) : Prop:=∀ (L : List (List D)) (l : List pa.Tk) (i : Nat) (b : Bool) (o : Out (Nd × Bool)),Its L l → i ≤ l.length → runB p l i b = some o → OkP Try.prog f (pD L i b :: more) (Kret L l o)
section
variable {L : List (List D)} {l : List pa.Tk} {i : Nat} {b : Bool}
theorem rb_retK {x : Nd} {m : Bool} {o : Out (Nd × Bool)} (hi : i ≤ l.length) (h : runB (.ret (x,m)) l i b = some o) : Kret L l o [pD L i b,ndD x,dB m]:=by
  cases b with
  | true=>rw [rb_true h];exact ⟨i,true,x,m,rfl,hi,rfl,rfl⟩
  | false=>cases h;exact ⟨i,false,x,m,rfl,hi,rfl,rfl,rfl,rfl⟩
theorem KeyO.next {p : Pa (Nd × Bool)} {f : FuncId} {more : List D} (hc : KeyO p f more) (hL : Its L l) (hi : i ≤ l.length) {β : Type} {g : Nd × Bool → Pa β} {o : Out β} (h : runB (p.bind g) l i b = some o) :
    ∃ j b' y m,Ok Try.prog f (pD L i b :: more) [pD L j b',ndD y,dB m] ∧ j ≤ l.length ∧ runB (g (y,m)) l j b' = some o:=by
  obtain ⟨o1,h1,h2⟩:=rb_bind h
  obtain ⟨out,hok,j,b',y,m,rfl,hj,hm⟩:=hc L l i b o1 hL hi h1
  refine ⟨j,b',y,m,hok,hj,?_⟩
  cases o1 with
  | ok r x=>obtain ⟨rfl,rfl,rfl,rfl⟩:=hm;exact h2
  | bad r=>obtain ⟨rfl,rfl⟩:=hm;rw [h2];rfl
end
theorem key_ok {n : Nat} {pat : Bool} (hpi : NodeO (go n (.exp 1)) 49 []) (hs : NodeO (go n .str) 66 []) : KeyO (go (n + 1) (.key pat)) 96 [dB pat]:=by
  intro L l i b o hL hi h
  have hf:=hL.few
  have h:=rb_look h
  refine o_key ⟨_,_,tok_ok hL i b,?_⟩
  cases c1 : (tokB l i b).1 == 5
  · rw [c1] at h
    refine bcond_f rfl ?_
    cases c2 : (tokB l i b).1 == 3
    · rw [c2] at h
      refine bcond_f rfl ⟨_,op_ok hL i b lpar,?_⟩
      cases c3 : pa.op lpar (tokB l i b)
      · rw [c3] at h
        refine bcond_f rfl ?_
        cases c4 : (tokB l i b).1 != 7
        · rw [c4] at h
          obtain ⟨j,b',y,ok1,hj,h⟩:=hs.next hL hi h
          exact bcond_f rfl ⟨_,_,_,_,_,_,ok1,rb_retK hj h⟩
        · cases c5 : (tokB l i b).1 != 12
          · rw [c4,c5] at h
            obtain ⟨j,b',y,ok1,hj,h⟩:=hs.next hL hi h
            exact bcond_t rfl (bcond_f rfl ⟨_,_,_,_,_,_,ok1,rb_retK hj h⟩)
          · rw [c4,c5] at h
            rw [rb_bad h]
            exact bcond_t rfl (bcond_t rfl ⟨_,_,_,wrong_ok L i b,i,true,none0,false,rfl,hi,rfl,rfl⟩)
      · rw [c3] at h
        obtain ⟨rfl,hlt⟩:=op_lt c3
        obtain ⟨j,b',y,ok1,hj,h⟩:=hpi.next hL hlt (rb_move h)
        obtain ⟨j2,b2,ok2,hj2,h⟩:=rb_need hL hj h
        exact bcond_t rfl ⟨_,_,_,next_ok L (by omega),_,_,_,_,_,_,ok1,_,_,_,ok2,rb_retK hj2 h⟩
    · rw [c2] at h
      obtain ⟨rfl,hlt⟩:=tok_lt (l:=l) (i:=i) (b:=b) (by rw [eq_of_beq c2];decide)
      exact bcond_t rfl ⟨_,_,_,next_ok L (by omega),rb_retK (by omega) (rb_move h)⟩
  · rw [c1] at h
    obtain ⟨rfl,hlt⟩:=tok_lt (l:=l) (i:=i) (b:=b) (by rw [eq_of_beq c1];decide)
    refine bcond_t rfl ⟨_,_,_,next_ok L (by omega),⟨by omega,?_⟩,rb_retK (by omega) (rb_move h)⟩
    have ht : tokB l i false = l[i]:=tok_at hlt
    have:=hL.cut l[i] (List.getElem_mem hlt) (by rw [← ht];exact .inr (eq_of_beq c1))
    rw [ht]
    simp only [Int.ofNat_eq_natCast]
    omega
theorem pair_ok {n : Nat} (hk : KeyO (go n (.key false)) 96 [dB false]) (hv : NodeO (go n .value) 100 []) : NodeO (go (n + 1) .pair) 97 []:=by
  intro L l i b o hL hi h
  have hf:=hL.few
  obtain ⟨j,b',y,m,ok1,hj,h⟩:=hk.next hL hi (show runB ((go n (.key false)).bind _) l i b = some o from h)
  have h:=rb_look h
  refine o_pair ⟨_,_,_,_,_,_,_,ok1,?_⟩
  cases m
  · refine bcond_t rfl ⟨_,op_ok hL j b' colon,?_⟩
    cases c : pa.op colon (tokB l j b')
    · rw [c] at h
      exact bcond_t rfl (rb_ret hj h)
    · rw [c] at h
      obtain ⟨j2,b2,ok2,hj2,h⟩:=rb_need hL hj h
      obtain ⟨j3,b3,y3,ok3,hj3,h⟩:=hv.next hL hj2 h
      exact bcond_f rfl ⟨_,_,_,ok2,_,_,_,_,_,_,ok3,⟨rfl,by simp,by omega⟩,rb_ret hj3 h⟩
  · obtain ⟨j2,b2,ok2,hj2,h⟩:=rb_need hL hj h
    obtain ⟨j3,b3,y3,ok3,hj3,h⟩:=hv.next hL hj2 h
    exact bcond_f rfl ⟨_,_,_,ok2,_,_,_,_,_,_,ok3,⟨rfl,by simp,by omega⟩,rb_ret hj3 h⟩
theorem keypat_ok {n : Nat} (hk : KeyO (go n (.key true)) 96 [dB true]) (hp : NodeO (go n .pattern) 87 []) : NodeO (go (n + 1) .keypat) 92 []:=by
  intro L l i b o hL hi h
  have hf:=hL.few
  obtain ⟨j,b',y,m,ok1,hj,h⟩:=hk.next hL hi (show runB ((go n (.key true)).bind _) l i b = some o from h)
  have h:=rb_look h
  refine o_keypat ⟨_,_,_,_,_,_,_,ok1,?_⟩
  cases m
  · refine bcond_t rfl ⟨_,op_ok hL j b' colon,?_⟩
    cases c : pa.op colon (tokB l j b')
    · rw [c] at h
      exact bcond_t rfl (rb_ret hj h)
    · rw [c] at h
      obtain ⟨j2,b2,ok2,hj2,h⟩:=rb_need hL hj h
      obtain ⟨j3,b3,y3,ok3,hj3,h⟩:=hp.next hL hj2 h
      exact bcond_f rfl ⟨_,_,_,ok2,_,_,_,_,_,_,ok3,⟨rfl,by simp,by omega⟩,rb_ret hj3 h⟩
  · obtain ⟨j2,b2,ok2,hj2,h⟩:=rb_need hL hj h
    obtain ⟨j3,b3,y3,ok3,hj3,h⟩:=hp.next hL hj2 h
    exact bcond_f rfl ⟨_,_,_,ok2,_,_,_,_,_,_,ok3,⟨rfl,by simp,by omega⟩,rb_ret hj3 h⟩
end Go.Proofs.Ythadnhpkeljdoaa.pv
namespace Go.Proofs.Ythadnhpkeljdoaa.pv
open Go.RowKit nd pa pr
theorem foD_app (a : List Nd) (y : Nd) : foD (Fo.ofL (a ++ [y])) = foD (Fo.ofL a) ++ [[dI y.k,dS y.t,dL (foD y.kids)]]:=by
  induction a with
  | nil=>rfl
  | cons x r ih=>simp only [List.cons_append,Fo.ofL,foD,ih]
theorem foD_len (a : List Nd) : (foD (Fo.ofL a)).length = a.length:=by
  induction a with
  | nil=>rfl
  | cons x r ih=>simp only [Fo.ofL,foD,List.length_cons,ih]
def SR (l : List pa.Tk) (acc : List Nd) (o : Out (List Nd)) (j : Nat) (b : Bool) (zs : List Nd) : Prop:=j ≤ l.length ∧ (match o with
    | .ok r xs=>b = false ∧ r = l.drop j ∧ zs = acc ++ xs
    | .bad r=>b = true ∧ r = l.drop j)
theorem SR.more {l : List pa.Tk} {acc : List Nd} {y : Nd} {o1 o : Out (List Nd)} {j : Nat} {b : Bool} {zs : List Nd}
    (ho : ∀ r x,o1 = .ok r x → o = .ok r (y :: x)) (hb : ∀ r,o1 = .bad r → o = .bad r) (h : SR l (acc ++ [y]) o1 j b zs) : SR l acc o j b zs:=by
  obtain ⟨hj,hm⟩:=h
  refine ⟨hj,?_⟩
  cases o1 with
  | ok r xs =>
    rw [ho r xs rfl]
    obtain ⟨rfl,rfl,rfl⟩:=hm
    exact ⟨rfl,rfl,by rw [List.append_assoc];rfl⟩
  | bad r=>rw [hb r rfl];exact hm
def Rret (L : List (List D)) (l : List pa.Tk) (acc : List Nd) (o : Out (List Nd)) (out : List D) : Prop :=
  ∃ (j : Nat) (b : Bool) (zs : List Nd),out = [pD L j b,.sl (.own 0 25 3) (foD (Fo.ofL zs))] ∧ zs.length ≤ 1000000 ∧ SR l acc o j b zs
theorem plain_eq (t : pa.Tk) : plainT t = (t.1 == 3 && Sg.plain t.2.data.toList):=rfl
theorem par_go {t : pa.Tk} {A R : Prop} (X : ExtO) (hz : t.2.size ≤ 1000000) (c : (t.1 == 5 || plainT t) = true) (hR : R) :
    bcond (t.1 != (5 : Int)) (bcond (t.1 != (3 : Int)) A (∃ b,Ok Try.prog 78 [dS t.2] [dB b] ∧ bcond (bif true then bif false then true else !b else false) A R)) R:=by
  rw [plain_eq] at c
  cases c5 : t.1 == 5
  · rw [c5,Bool.false_or,Bool.and_eq_true] at c
    refine bcond_t (by rw [bne,c5];rfl) (bcond_f (by rw [bne,c.1];rfl) ⟨_,X.plain _ hz,?_⟩)
    rw [c.2]
    exact hR
  · exact bcond_f (by rw [bne,c5];rfl) hR
theorem par_no {t : pa.Tk} {A R : Prop} (X : ExtO) (hz : t.2.size ≤ 1000000) (c : (t.1 == 5 || plainT t) = false) (hA : A) :
    bcond (t.1 != (5 : Int)) (bcond (t.1 != (3 : Int)) A (∃ b,Ok Try.prog 78 [dS t.2] [dB b] ∧ bcond (bif true then bif false then true else !b else false) A R)) R:=by
  rw [plain_eq,Bool.or_eq_false_iff] at c
  refine bcond_t (by rw [bne,c.1];rfl) ?_
  cases c3 : t.1 == 3
  · exact bcond_t (by rw [bne,c3];rfl) hA
  · have c2:=c.2
    rw [c3,Bool.true_and] at c2
    refine bcond_f (by rw [bne,c3];rfl) ⟨_,X.plain _ hz,?_⟩
    rw [c2]
    exact hA
def ParL (p : Pa (List Nd)) : Prop:=∀ (acc : List Nd) (L : List (List D)) (l : List pa.Tk) (i0 : Int) (b0 : Bool) (j : Nat) (b : Bool) (o : Out (List Nd)) (K : List D → Prop),Its L l → j ≤ l.length → acc.length ≤ j → runB p l j b = some o → (∀ out,Rret L l acc o out → K out) →
  ∃ k,L_params_2_4 L i0 b0 K k [.ptr 0 0,.ptr 1 0,dL (foD (Fo.ofL acc)),dL L,dI (j : Int),dB b,.sl .nil [],dI 0,dB false]
theorem params_step (X : ExtO) {n : Nat} (ih : ParL (go n .params)) : ParL (go (n + 1) .params):=by
  intro acc L l i0 b0 j b o K hL hj ha h hK
  have hf:=hL.few
  have h:=rb_look (show runB (.look _) l j b = some o from h)
  cases c : (tokB l j b).1 == 5 || plainT (tokB l j b)
  · rw [c] at h
    refine ⟨0 + 1,?_⟩
    rw [l_params_2_4]
    refine ⟨_,_,tok_ok hL j b,par_no X (tok_sz hL j b) c ⟨_,_,_,wrong_ok L j b,rfl,hK _ ?_⟩⟩
    rw [rb_bad h]
    exact ⟨j,true,acc,rfl,by omega,hj,rfl,rfl⟩
  · rw [c] at h
    obtain ⟨rfl,hlt⟩:=tok_lt (l:=l) (i:=j) (b:=b) (by
      intro e
      rw [plain_eq,e] at c
      cases c)
    have h:=rb_look (rb_move h)
    cases c2 : pa.op semi (tokB l (j + 1) false)
    · rw [c2] at h
      obtain ⟨j2,b2,ok2,hj2,h⟩:=rb_need hL (by omega) h
      refine ⟨0 + 1,?_⟩
      rw [l_params_2_4]
      refine ⟨_,_,tok_ok hL j false,par_go X (tok_sz hL j false) c ⟨⟨rfl,by simp,by rw [foD_len];omega⟩,_,_,_,next_ok L (by omega),_,op_ok hL (j + 1) false semi,bcond_t (by rw [c2];rfl) ⟨_,_,_,ok2,by simp,hK _ ?_⟩⟩⟩
      refine ⟨j2,b2,acc ++ [mk 30 (tokB l j false).2 []],?_,by simp;omega,hj2,?_⟩
      · rw [foD_app];rfl
      cases b2 with
      | true=>rw [rb_true h];exact ⟨rfl,rfl⟩
      | false=>cases h;exact ⟨rfl,rfl,rfl⟩
    · rw [c2] at h
      obtain ⟨_,hlt2⟩:=op_lt c2
      obtain ⟨o1,h1,h2⟩:=rb_bind (rb_move h)
      obtain ⟨k,hk⟩:=ih (acc ++ [mk 30 (tokB l j false).2 []]) L l i0 b0 (j + 1 + 1) false o1 K hL (by omega) (by simp;omega) h1 (by
        rintro out ⟨j3,b3,zs,rfl,hle,hs⟩
        exact hK _ ⟨j3,b3,zs,rfl,hle,SR.more (y:=mk 30 (tokB l j false).2 []) (fun r x e=>by subst e;exact (Option.some.inj h2).symm) (fun r e=>by subst e;exact h2) hs⟩)
      rw [foD_app] at hk
      refine ⟨k + 1,?_⟩
      rw [l_params_2_4]
      exact ⟨_,_,tok_ok hL j false,par_go X (tok_sz hL j false) c ⟨⟨rfl,by simp,by rw [foD_len];omega⟩,_,_,_,next_ok L (by omega),_,op_ok hL (j + 1) false semi,bcond_f (by rw [c2];rfl) ⟨_,_,_,next_ok L (by omega),by simp,hk⟩⟩⟩
theorem params_ok {n : Nat} (hl : ParL (go n .params)) {L : List (List D)} {l : List pa.Tk} {i : Nat} {b : Bool} {o : Out (List Nd)} (hL : Its L l) (hi : i ≤ l.length) (h : runB (go n .params) l i b = some o) :
    OkP Try.prog 70 [pD L i b] (Rret L l [] o):=by
  obtain ⟨k,hk⟩:=hl [] L l i b i b o _ hL hi (Nat.zero_le _) h (fun _ h=>h)
  exact o_params ⟨k,hk⟩
theorem rb_name {α : Type} {k : ByteArray → Pa α} {o : Out α} (X : ExtO) {L : List (List D)} {l : List pa.Tk} {i : Nat} {b : Bool} (hL : Its L l) (hi : i ≤ l.length) (h : runB (name k) l i b = some o) :
    ∃ j b' s,Ok Try.prog 68 [pD L i b] [pD L j b',dS s] ∧ j ≤ l.length ∧ runB (k s) l j b' = some o:=by
  have hf:=hL.few
  have h:=rb_look h
  have e:=plain_eq (tokB l i b)
  have hz:=tok_sz hL i b
  cases c3 : (tokB l i b).1 == 3
  · rw [c3,Bool.false_and] at e
    rw [e] at h
    exact ⟨i,true,_,ok_eq (o_name ⟨_,_,tok_ok hL i b,bcond_t (by rw [bne,c3];rfl) ⟨_,_,_,wrong_ok L i b,rfl⟩⟩),hi,by rw [rb_bad h];rfl⟩
  · rw [c3,Bool.true_and] at e
    rw [e] at h
    cases cp : Sg.plain (tokB l i b).2.data.toList
    · rw [cp] at h
      refine ⟨i,true,_,ok_eq (o_name ⟨_,_,tok_ok hL i b,bcond_f (by rw [bne,c3];rfl) ⟨_,_,tok_ok hL i b,_,X.plain _ hz,bcond_t (by rw [cp];rfl) ⟨_,_,_,wrong_ok L i b,rfl⟩⟩⟩),hi,by rw [rb_bad h];rfl⟩
    · rw [cp] at h
      obtain ⟨rfl,hlt⟩:=tok_lt (l:=l) (i:=i) (b:=b) (by rw [eq_of_beq c3];decide)
      exact ⟨i + 1,false,_,ok_eq (o_name ⟨_,_,tok_ok hL i false,bcond_f (by rw [bne,c3];rfl) ⟨_,_,tok_ok hL i false,_,X.plain _ hz,bcond_f (by rw [cp];rfl) ⟨_,_,_,next_ok L (by omega),_,_,tok_ok hL i false,rfl⟩⟩⟩),hlt,rb_move h⟩
end Go.Proofs.Ythadnhpkeljdoaa.pv
namespace Go.Proofs.Ythadnhpkeljdoaa.pv
open Go.RowKit nd pa pr
section
variable {L : List (List D)} {l : List pa.Tk} {i : Nat} {b : Bool}
theorem rb_one {α : Type} {kd : Int} {k : Pa α} {o : Out α} (hL : Its L l) (hi : i ≤ l.length) (hk : kd ≠ 0) (h : runB (one kd k) l i b = some o) :
    ∃ j b',Ok Try.prog 77 [pD L i b,dI kd] [pD L j b'] ∧ j ≤ l.length ∧ (b' = false → b = false ∧ i < j) ∧ runB k l j b' = some o:=by
  have h:=rb_look h
  have hn:=one_ok hL i b hk
  cases c : (tokB l i b).1 == kd
  · rw [c] at h hn
    exact ⟨i,true,hn,hi,(fun e=>by cases e),by rw [rb_bad h];rfl⟩
  · rw [c] at h hn
    obtain ⟨rfl,hlt⟩:=tok_lt (l:=l) (i:=i) (b:=b) (by rw [eq_of_beq c];exact hk)
    exact ⟨i + 1,false,hn,hlt,(fun _=>⟨rfl,Nat.lt_succ_self i⟩),rb_move h⟩
theorem NodeO.next' {p : Pa Nd} {f : FuncId} {more : List D} (hc : NodeO p f more) (hL : Its L l) (hi : i ≤ l.length) {β : Type} {g : Nd → Pa β} {o : Out β} (h : runB (p.bind g) l i b = some o) :
    ∃ j b' y,Ok Try.prog f (pD L i b :: more) [pD L j b',ndD y] ∧ j ≤ l.length ∧ (b' = false → b = false ∧ i ≤ j) ∧ runB (g y) l j b' = some o:=by
  obtain ⟨o1,h1,h2⟩:=rb_bind h
  obtain ⟨out,hok,j,b',y,rfl,hj,hm⟩:=hc L l i b o1 hL hi h1
  refine ⟨j,b',y,hok,hj,?_⟩
  cases o1 with
  | ok r x =>
    obtain ⟨rfl,rfl,rfl⟩:=hm
    refine ⟨fun _=>?_,h2⟩
    cases b with
    | true=>cases h1
    | false =>
      have:=Pa.run_len p (show p.run (l.drop i) = some _ from h1)
      simp [Out.rest] at this
      exact ⟨rfl,by omega⟩
  | bad r=>obtain ⟨rfl,rfl⟩:=hm;exact ⟨(fun e=>by cases e),by rw [h2];rfl⟩
end
def StrL21 (p : Pa (List Nd)) : Prop:=∀ (acc : List Nd) (f : ByteArray) (L0 L : List (List D)) (l : List pa.Tk) (i0 : Int) (b0 : Bool) (j : Nat) (b : Bool) (o : Out (List Nd)) (K : List D → Prop),Its L l → j ≤ l.length → (b = false → acc.length ≤ j) → runB p l j b = some o →
  (∀ j2 b2 zs,SR l acc o j2 b2 zs → ∃ e n b,Ok Try.prog 77 [pD L j2 b2,dI 11] [.agg [dL e,dI n,dB b]] ∧ K [.agg [dL e,dI n,dB b],.agg [dI 6,dS f,dL (foD (Fo.ofL zs))]]) →
  ∃ k,L_str_6_21 L0 i0 b0 K k [.ptr 0 0,.ptr 1 0,.ptr 2 0,.ptr 4 0,dL L,dI (j : Int),dB b,.sl .nil [],dI 0,dB false,dI 0,dS ⟨#[]⟩,.sl .nil [],dI 6,dS f,dL (foD (Fo.ofL acc))]
theorem strL21_step {n : Nat} (hpi : NodeO (go n (.exp 1)) 49 []) (ih : StrL21 (go n .strL)) : StrL21 (go (n + 1) .strL):=by
  intro acc f L0 L l i0 b0 j b o K hL hj ha h hK
  have hf:=hL.few
  cases b with
  | true =>
    refine ⟨0 + 1,?_⟩
    rw [l_str_6_21]
    exact bcond_f rfl (hK j true acc ⟨hj,by rw [rb_true h];exact ⟨rfl,rfl⟩⟩)
  | false =>
    have ha:=ha rfl
    have h:=rb_look (show runB (.look _) l j false = some o from h)
    cases c11 : (tokB l j false).1 == 11
    · rw [c11] at h
      cases c8 : (tokB l j false).1 == 8
      · rw [c8] at h
        obtain ⟨j1,b1,ok1,hj1,m1,h⟩:=rb_one hL hj (by decide) h
        obtain ⟨j2,b2,y,ok2,hj2,m2,h⟩:=hpi.next' hL hj1 h
        obtain ⟨j3,b3,ok3,hj3,m3,h⟩:=rb_one hL hj2 (by decide) h
        obtain ⟨o1,h1,h2⟩:=rb_bind h
        obtain ⟨k,hk⟩:=ih (acc ++ [y]) f L0 L l i0 b0 j3 b3 o1 K hL hj3 (by
          intro e
          have a3:=m3 e
          have a2:=m2 a3.1
          have a1:=m1 a2.1
          simp
          omega) h1 (fun j2 b2 zs hs=>hK j2 b2 zs (SR.more (fun r x e=>by subst e;exact (Option.some.inj h2).symm) (fun r e=>by subst e;exact h2) hs))
        rw [foD_app] at hk
        refine ⟨k + 1,?_⟩
        rw [l_str_6_21]
        exact bcond_t rfl ⟨_,_,tok_ok hL j false,bcond_t (by rw [bne,c11];rfl) ⟨_,_,tok_ok hL j false,bcond_f c8 ⟨_,_,_,ok1,_,_,_,_,_,_,ok2,⟨rfl,by simp,by rw [foD_len];omega⟩,_,_,_,ok3,by simp,hk⟩⟩⟩
      · rw [c8] at h
        obtain ⟨_,hlt⟩:=tok_lt (l:=l) (i:=j) (b:=false) (by rw [eq_of_beq c8];decide)
        obtain ⟨o1,h1,h2⟩:=rb_bind (rb_move h)
        obtain ⟨k,hk⟩:=ih (acc ++ [mk 7 (tokB l j false).2 []]) f L0 L l i0 b0 (j + 1) false o1 K hL hlt (by
          intro e
          simp
          omega) h1 (fun j2 b2 zs hs=>hK j2 b2 zs (SR.more (y:=mk 7 (tokB l j false).2 []) (fun r x e=>by subst e;exact (Option.some.inj h2).symm) (fun r e=>by subst e;exact h2) hs))
        rw [foD_app] at hk
        refine ⟨k + 1,?_⟩
        rw [l_str_6_21]
        exact bcond_t rfl ⟨_,_,tok_ok hL j false,bcond_t (by rw [bne,c11];rfl) ⟨_,_,tok_ok hL j false,bcond_t c8 ⟨_,_,tok_ok hL j false,⟨rfl,by simp,by rw [foD_len];omega⟩,_,_,_,next_ok L (by omega),by simp,hk⟩⟩⟩
    · rw [c11] at h
      refine ⟨0 + 1,?_⟩
      rw [l_str_6_21]
      refine bcond_t rfl ⟨_,_,tok_ok hL j false,bcond_f (by rw [bne,c11];rfl) (hK j false acc ⟨hj,?_⟩)⟩
      cases h
      exact ⟨rfl,rfl,by simp⟩
def StrL13 (p : Pa (List Nd)) : Prop:=∀ (acc : List Nd) (f : ByteArray) (L0 L : List (List D)) (l : List pa.Tk) (i0 : Int) (b0 : Bool) (j : Nat) (b : Bool) (o : Out (List Nd)) (K : List D → Prop),Its L l → j ≤ l.length → (b = false → acc.length ≤ j) → runB p l j b = some o →
  (∀ j2 b2 zs,SR l acc o j2 b2 zs → ∃ e n b,Ok Try.prog 77 [pD L j2 b2,dI 11] [.agg [dL e,dI n,dB b]] ∧ K [.agg [dL e,dI n,dB b],.agg [dI 6,dS f,dL (foD (Fo.ofL zs))]]) →
  ∃ k,L_str_6_13 L0 i0 b0 K k [.ptr 0 0,.ptr 1 0,.ptr 2 0,.ptr 4 0,dL L,dI (j : Int),dB b,.sl .nil [],dI 0,dB false,dI 0,dS ⟨#[]⟩,.sl .nil [],dI 6,dS f,dL (foD (Fo.ofL acc))]
theorem strL13_step {n : Nat} (hpi : NodeO (go n (.exp 1)) 49 []) (ih : StrL13 (go n .strL)) : StrL13 (go (n + 1) .strL):=by
  intro acc f L0 L l i0 b0 j b o K hL hj ha h hK
  have hf:=hL.few
  cases b with
  | true =>
    refine ⟨0 + 1,?_⟩
    rw [l_str_6_13]
    exact bcond_f rfl (hK j true acc ⟨hj,by rw [rb_true h];exact ⟨rfl,rfl⟩⟩)
  | false =>
    have ha:=ha rfl
    have h:=rb_look (show runB (.look _) l j false = some o from h)
    cases c11 : (tokB l j false).1 == 11
    · rw [c11] at h
      cases c8 : (tokB l j false).1 == 8
      · rw [c8] at h
        obtain ⟨j1,b1,ok1,hj1,m1,h⟩:=rb_one hL hj (by decide) h
        obtain ⟨j2,b2,y,ok2,hj2,m2,h⟩:=hpi.next' hL hj1 h
        obtain ⟨j3,b3,ok3,hj3,m3,h⟩:=rb_one hL hj2 (by decide) h
        obtain ⟨o1,h1,h2⟩:=rb_bind h
        obtain ⟨k,hk⟩:=ih (acc ++ [y]) f L0 L l i0 b0 j3 b3 o1 K hL hj3 (by
          intro e
          have a3:=m3 e
          have a2:=m2 a3.1
          have a1:=m1 a2.1
          simp
          omega) h1 (fun j2 b2 zs hs=>hK j2 b2 zs (SR.more (fun r x e=>by subst e;exact (Option.some.inj h2).symm) (fun r e=>by subst e;exact h2) hs))
        rw [foD_app] at hk
        refine ⟨k + 1,?_⟩
        rw [l_str_6_13]
        exact bcond_t rfl ⟨_,_,tok_ok hL j false,bcond_t (by rw [bne,c11];rfl) ⟨_,_,tok_ok hL j false,bcond_f c8 ⟨_,_,_,ok1,_,_,_,_,_,_,ok2,⟨rfl,by simp,by rw [foD_len];omega⟩,_,_,_,ok3,by simp,hk⟩⟩⟩
      · rw [c8] at h
        obtain ⟨_,hlt⟩:=tok_lt (l:=l) (i:=j) (b:=false) (by rw [eq_of_beq c8];decide)
        obtain ⟨o1,h1,h2⟩:=rb_bind (rb_move h)
        obtain ⟨k,hk⟩:=ih (acc ++ [mk 7 (tokB l j false).2 []]) f L0 L l i0 b0 (j + 1) false o1 K hL hlt (by
          intro e
          simp
          omega) h1 (fun j2 b2 zs hs=>hK j2 b2 zs (SR.more (y:=mk 7 (tokB l j false).2 []) (fun r x e=>by subst e;exact (Option.some.inj h2).symm) (fun r e=>by subst e;exact h2) hs))
        rw [foD_app] at hk
        refine ⟨k + 1,?_⟩
        rw [l_str_6_13]
        exact bcond_t rfl ⟨_,_,tok_ok hL j false,bcond_t (by rw [bne,c11];rfl) ⟨_,_,tok_ok hL j false,bcond_t c8 ⟨_,_,tok_ok hL j false,⟨rfl,by simp,by rw [foD_len];omega⟩,_,_,_,next_ok L (by omega),by simp,hk⟩⟩⟩
    · rw [c11] at h
      refine ⟨0 + 1,?_⟩
      rw [l_str_6_13]
      refine bcond_t rfl ⟨_,_,tok_ok hL j false,bcond_f (by rw [bne,c11];rfl) (hK j false acc ⟨hj,?_⟩)⟩
      cases h
      exact ⟨rfl,rfl,by simp⟩
theorem str_end {L : List (List D)} {l : List pa.Tk} {f : ByteArray} {o1 : Out (List Nd)} {o : Out Nd} (hL : Its L l) (ho : ∀ r x,o1 = .ok r x → (one 11 (Pa.ret (mk 6 f x))).run r = some o) (hb : ∀ r,o1 = .bad r → o = .bad r) {j : Nat} {b : Bool} {zs : List Nd} (hs : SR l [] o1 j b zs) :
    ∃ e n b',Ok Try.prog 77 [pD L j b,dI 11] [.agg [dL e,dI n,dB b']] ∧ Nret L l o [.agg [dL e,dI n,dB b'],.agg [dI 6,dS f,dL (foD (Fo.ofL zs))]]:=by
  obtain ⟨hj,hm⟩:=hs
  cases o1 with
  | ok r x =>
    have h2:=ho r x rfl
    obtain ⟨rfl,rfl,rfl⟩:=hm
    obtain ⟨j2,b2,ok2,hj2,_,h⟩:=rb_one hL hj (by decide) (show runB (one 11 _) l j false = some o from h2)
    exact ⟨_,_,_,ok2,rb_ret hj2 h⟩
  | bad r =>
    rw [hb r rfl]
    obtain ⟨rfl,rfl⟩:=hm
    exact ⟨_,_,_,one_ok hL j true (k:=11) (by decide),j,true,mk 6 f zs,rfl,hj,rfl,rfl⟩
theorem str_ok {n : Nat} (h21 : ∀ m,m ≤ n → StrL21 (go m .strL)) (h13 : ∀ m,m ≤ n → StrL13 (go m .strL)) : NodeO (go (n + 1) .str) 66 []:=by
  intro L l i b o hL hi h
  have hf:=hL.few
  have h:=rb_look (show runB (.look _) l i b = some o from h)
  refine o_str ⟨_,_,tok_ok hL i b,?_⟩
  cases c : (tokB l i b).1 == 12
  · rw [c] at h
    refine bcond_f rfl ?_
    cases n with
    | zero =>
      cases b with
      | true =>
        obtain ⟨k,hk⟩:=h13 0 (Nat.le_refl 0) [] eB L L l i true i true (.bad (l.drop i)) (Nret L l o) hL hi (fun e=>by cases e) rfl (fun j2 b2 zs hs=>str_end hL (fun r x e=>by cases e) (fun r e=>by cases e;exact rb_true h) hs)
        exact ⟨_,_,_,one_ok hL i true (k:=7) (by decide),k,hk⟩
      | false=>cases h
    | succ m =>
      obtain ⟨j1,b1,ok1,hj1,_,h⟩:=rb_one hL hi (by decide) (show runB (one 7 _) l i b = some o from h)
      obtain ⟨o1,h1,h2⟩:=rb_bind h
      obtain ⟨k,hk⟩:=h13 m (by omega) [] eB L L l i b j1 b1 o1 (Nret L l o) hL hj1 (fun _=>Nat.zero_le _) h1 (fun j2 b2 zs hs=>str_end hL (fun r x e=>by subst e;exact h2) (fun r e=>by subst e;exact h2) hs)
      exact ⟨_,_,_,ok1,k,hk⟩
  · rw [c] at h
    obtain ⟨rfl,hlt⟩:=tok_lt (l:=l) (i:=i) (b:=b) (by rw [eq_of_beq c];decide)
    have h:=rb_move h
    cases n with
    | zero=>cases h
    | succ m =>
      obtain ⟨j1,b1,ok1,hj1,_,h⟩:=rb_one hL hlt (by decide) (show runB (one 7 _) l (i + 1) false = some o from h)
      obtain ⟨o1,h1,h2⟩:=rb_bind h
      obtain ⟨k,hk⟩:=h21 m (by omega) [] (tokB l i false).2 L L l i false j1 b1 o1 (Nret L l o) hL hj1 (fun _=>Nat.zero_le _) h1 (fun j2 b2 zs hs=>str_end hL (fun r x e=>by subst e;exact h2) (fun r e=>by subst e;exact h2) hs)
      exact bcond_t rfl ⟨_,_,tok_ok hL i false,_,_,_,next_ok L (by omega),_,_,_,ok1,k,hk⟩
end Go.Proofs.Ythadnhpkeljdoaa.pv
namespace Go.Proofs.Ythadnhpkeljdoaa.pv
open Go.RowKit nd pa pr
theorem cut_le {L : List (List D)} {l : List pa.Tk} (hL : Its L l) {i : Nat} (hlt : i < l.length) (h : (tokB l i false).1 = 4 ∨ (tokB l i false).1 = 5) : (1 : Int) ≤ Int.ofNat (tokB l i false).2.size:=by
 have ht : tokB l i false = l[i]:=tok_at hlt
 rw [ht] at h ⊢
 have:=hL.cut l[i] (List.getElem_mem hlt) h
 simp only [Int.ofNat_eq_natCast]
 omega
def leafOf (t : pa.Tk) : Option Nd:=if t.1 == 4 then some (mk 3 (pa.cut t.2) []) else if t.1 == 5 then some (mk 4 (pa.cut t.2) []) else if t.1 == 6 then some (mk 5 t.2 []) else if pa.op dots t then some (mk 2 eB []) else none
theorem leaf_ok {L : List (List D)} {l : List pa.Tk} (hL : Its L l) (i : Nat) (b : Bool) : Ok Try.prog 93 [pD L i b] (match leafOf (tokB l i b) with
  | some x=>[ndD x,dB true]
  | none=>[ndD none0,dB false]):=by
 refine ok_eq (o_leaf ⟨_,_,tok_ok hL i b,?_⟩)
 unfold leafOf
 cases c4 : (tokB l i b).1 == 4
 ·refine bcond_f rfl ?_
  cases c5 : (tokB l i b).1 == 5
  ·refine bcond_f rfl ?_
   cases c6 : (tokB l i b).1 == 6
   ·refine bcond_f rfl ⟨_,op_ok hL i b dots,?_⟩
    cases cd : pa.op dots (tokB l i b)
    ·exact bcond_f rfl rfl
    ·exact bcond_t rfl rfl
   ·exact bcond_t rfl rfl
  ·obtain ⟨rfl,hlt⟩:=tok_lt (l:=l) (i:=i) (b:=b) (by rw [eq_of_beq c5];decide)
   exact bcond_t rfl ⟨⟨by omega,cut_le hL hlt (.inr (eq_of_beq c5))⟩,rfl⟩
 ·obtain ⟨rfl,hlt⟩:=tok_lt (l:=l) (i:=i) (b:=b) (by rw [eq_of_beq c4];decide)
  exact bcond_t rfl ⟨⟨by omega,cut_le hL hlt (.inl (eq_of_beq c4))⟩,rfl⟩
theorem leaf_lt {l : List pa.Tk} {i : Nat} {b : Bool} {x : Nd} (h : leafOf (tokB l i b) = some x) : b = false ∧ i < l.length:=by
 refine tok_lt (fun e=>?_)
 unfold leafOf pa.op at h
 rw [e] at h
 cases h
end Go.Proofs.Ythadnhpkeljdoaa.pv
namespace Go.Proofs.Ythadnhpkeljdoaa.pv
open Go.RowKit nd pa pr
theorem rb_peek {α : Type} {l : List pa.Tk} {i : Nat} {k : pa.Tk → Pa α} {o : Out α} (h : runB (.peek k) l i false = some o) : runB (k (tokB l (i + 1) false)) l i false = some o:=by
  show (k (pa.tok (l.drop (i + 1)))).run (l.drop i) = some o
  rw [← List.tail_drop]
  exact h
def restT (rec : (f : pa.Fn) → Pa (Res f)) (t : pa.Tk) : Pa Nd :=
  if pa.op pa.dot t then .move (.look fun u=>if u.1 != 7 && u.1 != 12 then .ret (mk 1 eB []) else (rec .str).bind fun (x : Nd)=>.ret (mk 22 eB [none0,x]))
  else if t.1 == 12 then .peek fun u=>.move (if u.1 != 7 then .ret (mk 8 t.2 []) else rec (.strF t.2))
  else if t.1 == 7 then rec .str
  else if t.1 == 13 then rec .bracket
  else if t.1 == 3 then rec .worded
  else .bad
theorem term_eq (rec : (f : pa.Fn) → Pa (Res f)) : pa.step rec .term = .look fun t=>match leafOf t with
    | some x=>.move (.ret x)
    | none=>restT rec t:=by
  show Pa.look _ = Pa.look _
  refine congrArg Pa.look (funext fun t=>?_)
  unfold leafOf restT
  cases t.1 == 4 <;> cases t.1 == 5 <;> cases t.1 == 6 <;> cases pa.op dots t <;> rfl
theorem term_ok {n : Nat} (hs : NodeO (go n .str) 66 []) (hs1 : NodeO (go (n + 1) .str) 66 []) (hb : NodeO (go n .bracket) 94 []) (hw : NodeQ (go n .worded) 95 []) :
    NodeO (go (n + 1) .term) 90 []:=by
  intro L l i b o hL hi h
  have hf:=hL.few
  have h : runB (pa.step (go n) .term) l i b = some o:=h
  rw [term_eq] at h
  have h:=rb_look h
  have hlf:=leaf_ok hL i b
  cases hl : leafOf (tokB l i b) with
  | some x =>
    rw [hl] at h hlf
    obtain ⟨rfl,hlt⟩:=leaf_lt hl
    exact o_term ⟨_,_,_,_,hlf,bcond_t rfl ⟨_,_,_,next_ok L (by omega),rb_ret (by omega) (rb_move h)⟩⟩
  | none =>
    rw [hl] at h hlf
    have h : runB (restT (go n) (tokB l i b)) l i b = some o:=h
    unfold restT at h
    refine o_term ⟨_,_,_,_,hlf,bcond_f rfl ⟨_,_,tok_ok hL i b,_,op_ok hL i b pa.dot,?_⟩⟩
    cases cd : pa.op pa.dot (tokB l i b)
    · rw [cd] at h
      refine bcond_f rfl ?_
      have hstr : (tokB l i b).1 = 7 → runB (go n .str) l i b = some o → OkP Try.prog 66 [pD L i b] (Nret L l o):=fun _ h=>hs L l i b o hL hi h
      cases c12 : (tokB l i b).1 == 12
      · rw [c12] at h
        refine bcond_f rfl ?_
        cases c7 : (tokB l i b).1 == 7
        · rw [c7] at h
          refine bcond_f rfl (bcond_f rfl ?_)
          cases c13 : (tokB l i b).1 == 13
          · rw [c13] at h
            refine bcond_f rfl ?_
            cases c3 : (tokB l i b).1 == 3
            · rw [c3] at h
              rw [rb_bad h]
              exact bcond_f rfl ⟨_,_,_,wrong_ok L i b,i,true,none0,rfl,hi,rfl,rfl⟩
            · rw [c3] at h
              obtain ⟨rfl,hlt⟩:=tok_lt (l:=l) (i:=i) (b:=b) (by rw [eq_of_beq c3];decide)
              obtain ⟨out,hok,j,b',y,rfl,hj,hm⟩:=hw L l i o hL hlt h
              exact bcond_t rfl ⟨_,_,_,_,_,_,hok,j,b',y,rfl,hj,hm⟩
          · rw [c13] at h
            obtain ⟨j,b',y,hok,hr⟩:=hb.last hL hi h
            exact bcond_t rfl ⟨_,_,_,_,_,_,hok,hr⟩
        · rw [c7] at h
          obtain ⟨j,b',y,hok,hr⟩:=hs.last hL hi h
          exact bcond_t rfl ⟨_,_,_,_,_,_,hok,hr⟩
      · rw [c12] at h
        obtain ⟨rfl,hlt⟩:=tok_lt (l:=l) (i:=i) (b:=b) (by rw [eq_of_beq c12];decide)
        have h:=rb_move (rb_peek h)
        refine bcond_t rfl ⟨_,_,_,next_ok L (by omega),_,_,tok_ok hL (i + 1) false,?_⟩
        cases c7 : (tokB l (i + 1) false).1 != 7
        · rw [c7] at h
          have h1 : runB (go (n + 1) .str) l i false = some o:=by
            show (if (tokB l i false).1 == 12 then Pa.move (go n (.strF (tokB l i false).2)) else go n (.strF eB)).run (l.drop i) = some o
            rw [c12]
            show (go n (.strF (tokB l i false).2)).run (l.drop i).tail = some o
            rw [List.tail_drop]
            exact h
          obtain ⟨j,b',y,hok,hr⟩:=hs1.last hL hi h1
          have c7' : ((tokB l i false).1 == 7) = false:=by rw [eq_of_beq c12];rfl
          refine bcond_f rfl (bcond_f c7' (bcond_t rfl ⟨_,_,_,_,_,_,hok,hr⟩))
        · rw [c7] at h
          exact bcond_t rfl ⟨_,_,_,next_ok L (by omega),rb_ret (by omega) h⟩
    · rw [cd] at h
      obtain ⟨rfl,hlt⟩:=op_lt cd
      have h:=rb_look (rb_move h)
      refine bcond_t rfl ⟨_,_,_,next_ok L (by omega),_,_,tok_ok hL (i + 1) false,?_⟩
      cases c7 : (tokB l (i + 1) false).1 != 7
      · rw [c7] at h
        obtain ⟨j,b',y,hok,hj,h⟩:=hs.next hL hlt h
        exact bcond_f rfl ⟨_,_,_,_,_,_,hok,rb_ret hj h⟩
      · cases c12 : (tokB l (i + 1) false).1 != 12
        · rw [c7,c12] at h
          obtain ⟨j,b',y,hok,hj,h⟩:=hs.next hL hlt h
          exact bcond_t rfl ⟨_,_,tok_ok hL (i + 1) false,bcond_f (by rw [c12];rfl) ⟨_,_,_,_,_,_,hok,rb_ret hj h⟩⟩
        · rw [c7,c12] at h
          exact bcond_t rfl ⟨_,_,tok_ok hL (i + 1) false,bcond_t (by rw [c12];rfl) (rb_ret hlt h)⟩
end Go.Proofs.Ythadnhpkeljdoaa.pv
