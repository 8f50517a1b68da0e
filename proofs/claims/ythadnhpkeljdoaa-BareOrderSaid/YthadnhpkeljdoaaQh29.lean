/- Ground of the law: PvS9, PvS10, PvS11, PvS12. -/
import Derived.Test.YthadnhpkeljdoaaQh28
set_option maxRecDepth 100000
set_option maxHeartbeats 8000000
set_option linter.unusedVariables false
set_option linter.unusedSimpArgs false
namespace Go.Proofs.Ythadnhpkeljdoaa.pv
open Go.RowKit nd pa pr
section
variable {L : List (List D)} {l : List pa.Tk} {i : Nat} {b : Bool}
theorem rb_need' {α : Type} {s : ByteArray} {k : Pa α} {o : Out α} (hL : Its L l) (hi : i ≤ l.length) (h : runB (need s k) l i b = some o) :
    ∃ j b',Ok Try.prog 67 [pD L i b,dS s] [pD L j b'] ∧ j ≤ l.length ∧ (b' = false → b = false ∧ i < j) ∧ runB k l j b' = some o:=by
  have h:=rb_look h
  have hn:=need_ok hL i b s
  cases c : pa.op s (tokB l i b) || pa.word s (tokB l i b)
  · rw [c] at h hn
    exact ⟨i,true,hn,hi,(fun e=>by cases e),by rw [rb_bad h];rfl⟩
  · rw [c] at h hn
    have hb : b = false ∧ i < l.length:=by
      rcases Bool.or_eq_true_iff.1 c with e | e
      · exact op_lt e
      · exact word_lt e
    obtain ⟨rfl,hi⟩:=hb
    exact ⟨i + 1,false,hn,hi,(fun _=>⟨rfl,Nat.lt_succ_self i⟩),rb_move h⟩
theorem rb_ended {α : Type} {k : Bool → Pa α} {o : Out α} (h : runB (.ended k) l i b = some o) : runB (k (l.drop i).isEmpty) l i b = some o:=by cases b <;> exact h
theorem rb_sr {acc xs : List Nd} {o : Out (List Nd)} (hi : i ≤ l.length) (h : runB (.ret xs) l i b = some o) : SR l acc o i b (acc ++ xs):=by
  cases b with
  | true=>rw [rb_true h];exact ⟨hi,rfl,rfl⟩
  | false=>cases h;exact ⟨hi,rfl,rfl,rfl⟩
theorem SR.node {o1 : Out (List Nd)} {o : Out Nd} {zs acc : List Nd} {g : List Nd → Nd} (ho : ∀ r x,o1 = .ok r x → o = .ok r (g (acc ++ x))) (hb : ∀ r,o1 = .bad r → o = .bad r) (hs : SR l acc o1 i b zs) : Nret L l o [pD L i b,ndD (g zs)]:=by
  obtain ⟨hj,hm⟩:=hs
  cases o1 with
  | ok r x=>rw [ho r x rfl];obtain ⟨rfl,rfl,rfl⟩:=hm;exact ⟨i,false,_,rfl,hj,rfl,rfl,rfl⟩
  | bad r=>rw [hb r rfl];obtain ⟨rfl,rfl⟩:=hm;exact ⟨i,true,_,rfl,hj,rfl,rfl⟩
theorem NodeQ.next {p : Pa Nd} {f : FuncId} {more : List D} (hc : NodeQ p f more) (hL : Its L l) (hi : i < l.length) {β : Type} {g : Nd → Pa β} {o : Out β} (h : runB (p.bind g) l i false = some o) :
    ∃ j b' y,Ok Try.prog f (pD L i false :: more) [pD L j b',ndD y] ∧ j ≤ l.length ∧ (b' = false → i ≤ j) ∧ runB (g y) l j b' = some o:=by
  obtain ⟨o1,h1,h2⟩:=rb_bind h
  obtain ⟨out,hok,j,b',y,rfl,hj,hm⟩:=hc L l i o1 hL hi h1
  refine ⟨j,b',y,hok,hj,?_⟩
  cases o1 with
  | ok r x =>
    obtain ⟨rfl,rfl,rfl⟩:=hm
    refine ⟨fun _=>?_,h2⟩
    have:=Pa.run_len p (show p.run (l.drop i) = some _ from h1)
    simp [Out.rest] at this
    omega
  | bad r=>obtain ⟨rfl,rfl⟩:=hm;exact ⟨(fun e=>by cases e),by rw [h2];rfl⟩
end
theorem foD_app2 (a : List Nd) (y z : Nd) : foD (Fo.ofL a) ++ [[dI y.k,dS y.t,dL (foD y.kids)]] ++ [[dI z.k,dS z.t,dL (foD z.kids)]] = foD (Fo.ofL (a ++ [y,z])):=by
  rw [← foD_app,← foD_app,List.append_assoc];rfl
def tailD (n : Nat) (top : Bool) (s : ByteArray) (l : List Nd) : Pa Nd:=.ended fun z =>
  if top && z then .ret (mk 29 s (l ++ [none0]))
  else (Pa.look fun t=>if top && word wdef t then go n (.deff true) else go n (.exp 1)).bind fun (y : Nd)=>.ret (mk 29 s (l ++ [y]))
theorem rest_d {n : Nat} {top : Bool} {s : ByteArray} {zs : List Nd} (hpi : NodeO (go n (.exp 1)) 49 []) (hd : NodeQ (go n (.deff true)) 48 [dB true])
    {L : List (List D)} {l : List pa.Tk} {j : Nat} {b : Bool} {o : Out Nd} (hL : Its L l) (hj : j ≤ l.length)
    (h : runB ((Pa.look fun t=>if top && word wdef t then go n (.deff true) else go n (.exp 1)).bind fun (y : Nd)=>.ret (mk 29 s (zs ++ [y]))) l j b = some o)
    {Dd Pp : List (List D) → Int → Bool → Int → ByteArray → List (List D) → Prop}
    (h1 : ∀ (j' : Nat) (b' : Bool) (z : Nd),Nret L l o [pD L j' b',ndD (mk 29 s (zs ++ [z]))] → Dd L j' b' z.k z.t (foD z.kids))
    (h2 : ∀ (j' : Nat) (b' : Bool) (z : Nd),Nret L l o [pD L j' b',ndD (mk 29 s (zs ++ [z]))] → Pp L j' b' z.k z.t (foD z.kids)) :
    bcond top (∃ b_1,Ok Try.prog 46 [pD L j b,dS wdef] [dB b_1] ∧ bcond (bif true then b_1 else false)
        (∃ es n b_2 k s e,Ok Try.prog 48 [pD L j b,dB true] [.agg [dL es,dI n,dB b_2],.agg [dI k,dS s,dL e]] ∧ Dd es n b_2 k s e)
        (∃ es n b_2 k s e,Ok Try.prog 49 [pD L j b] [.agg [dL es,dI n,dB b_2],.agg [dI k,dS s,dL e]] ∧ Pp es n b_2 k s e))
      (∃ es n b_2 k s e,Ok Try.prog 49 [pD L j b] [.agg [dL es,dI n,dB b_2],.agg [dI k,dS s,dL e]] ∧ Pp es n b_2 k s e):=by
  have h:=rb_look (show runB (.look _) l j b = some o from h)
  dsimp only at h
  cases top
  · obtain ⟨j2,b2,y,ok2,hj2,h⟩:=hpi.next hL hj h
    exact bcond_f rfl ⟨_,_,_,_,_,_,ok2,h2 _ _ _ (rb_ret hj2 h)⟩
  · refine bcond_t rfl ⟨_,word_ok hL j b wdef,?_⟩
    cases c : pa.word wdef (tokB l j b)
    · rw [c] at h
      obtain ⟨j2,b2,y,ok2,hj2,h⟩:=hpi.next hL hj h
      exact bcond_f rfl ⟨_,_,_,_,_,_,ok2,h2 _ _ _ (rb_ret hj2 h)⟩
    · rw [c] at h
      obtain ⟨rfl,hlt⟩:=word_lt c
      obtain ⟨j2,b2,y,ok2,hj2,_,h⟩:=hd.next hL hlt h
      exact bcond_t rfl ⟨_,_,_,_,_,_,ok2,h1 _ _ _ (rb_ret hj2 h)⟩
theorem tail_d {n : Nat} {top : Bool} {s : ByteArray} {zs : List Nd} (hpi : NodeO (go n (.exp 1)) 49 []) (hd : NodeQ (go n (.deff true)) 48 [dB true])
    {L : List (List D)} {l : List pa.Tk} {j : Nat} {b : Bool} {o : Out Nd} (hL : Its L l) (hj : j ≤ l.length)
    (h : runB (tailD n top s zs) l j b = some o) {A0 : Prop}
    {Dd Pp : List (List D) → Int → Bool → Int → ByteArray → List (List D) → Prop}
    (h0 : Nret L l o [pD L j b,ndD (mk 29 s (zs ++ [none0]))] → A0)
    (h1 : ∀ (j' : Nat) (b' : Bool) (z : Nd),Nret L l o [pD L j' b',ndD (mk 29 s (zs ++ [z]))] → Dd L j' b' z.k z.t (foD z.kids))
    (h2 : ∀ (j' : Nat) (b' : Bool) (z : Nd),Nret L l o [pD L j' b',ndD (mk 29 s (zs ++ [z]))] → Pp L j' b' z.k z.t (foD z.kids)) :
    bcond top (bcond (bif true then !b else false) (bcond (bif true then (j : Int) == (Int.ofNat L.length) else false) A0
      (bcond top (∃ b_1,Ok Try.prog 46 [pD L j b,dS wdef] [dB b_1] ∧ bcond (bif true then b_1 else false)
        (∃ es n b_2 k s e,Ok Try.prog 48 [pD L j b,dB true] [.agg [dL es,dI n,dB b_2],.agg [dI k,dS s,dL e]] ∧ Dd es n b_2 k s e)
        (∃ es n b_2 k s e,Ok Try.prog 49 [pD L j b] [.agg [dL es,dI n,dB b_2],.agg [dI k,dS s,dL e]] ∧ Pp es n b_2 k s e))
      (∃ es n b_2 k s e,Ok Try.prog 49 [pD L j b] [.agg [dL es,dI n,dB b_2],.agg [dI k,dS s,dL e]] ∧ Pp es n b_2 k s e)))
      (bcond top (∃ b_1,Ok Try.prog 46 [pD L j b,dS wdef] [dB b_1] ∧ bcond (bif true then b_1 else false)
        (∃ es n b_2 k s e,Ok Try.prog 48 [pD L j b,dB true] [.agg [dL es,dI n,dB b_2],.agg [dI k,dS s,dL e]] ∧ Dd es n b_2 k s e)
        (∃ es n b_2 k s e,Ok Try.prog 49 [pD L j b] [.agg [dL es,dI n,dB b_2],.agg [dI k,dS s,dL e]] ∧ Pp es n b_2 k s e))
      (∃ es n b_2 k s e,Ok Try.prog 49 [pD L j b] [.agg [dL es,dI n,dB b_2],.agg [dI k,dS s,dL e]] ∧ Pp es n b_2 k s e)))
      (bcond top (∃ b_1,Ok Try.prog 46 [pD L j b,dS wdef] [dB b_1] ∧ bcond (bif true then b_1 else false)
        (∃ es n b_2 k s e,Ok Try.prog 48 [pD L j b,dB true] [.agg [dL es,dI n,dB b_2],.agg [dI k,dS s,dL e]] ∧ Dd es n b_2 k s e)
        (∃ es n b_2 k s e,Ok Try.prog 49 [pD L j b] [.agg [dL es,dI n,dB b_2],.agg [dI k,dS s,dL e]] ∧ Pp es n b_2 k s e))
      (∃ es n b_2 k s e,Ok Try.prog 49 [pD L j b] [.agg [dL es,dI n,dB b_2],.agg [dI k,dS s,dL e]] ∧ Pp es n b_2 k s e)):=by
  have h:=rb_ended h
  cases b with
  | true =>
    have hr:=rest_d (n:=n) (top:=top) (s:=s) (zs:=zs) hpi hd hL hj (b:=true) (o:=o) (by rw [rb_true h];rfl) h1 h2
    cases top
    · exact bcond_f rfl hr
    · exact bcond_t rfl (bcond_f rfl hr)
  | false =>
    cases top
    · exact bcond_f rfl (rest_d hpi hd hL hj h h1 h2)
    · refine bcond_t rfl (bcond_t rfl ?_)
      have hlen:=hL.len
      by_cases hz : j = l.length
      · refine bcond_t ?_ (h0 ?_)
        · show ((j : Int) == (Int.ofNat L.length)) = true
          rw [hlen,hz];exact beq_self_eq_true _
        · have e : (l.drop j).isEmpty = true:=by rw [List.drop_eq_nil_of_le (by omega)];rfl
          rw [e] at h
          exact rb_ret hj h
      · refine bcond_f ?_ ?_
        · show ((j : Int) == (Int.ofNat L.length)) = false
          rw [beq_eq_false_iff_ne,hlen]
          simp only [Int.ofNat_eq_natCast]
          omega
        · have e : (l.drop j).isEmpty = false:=by
            rw [List.isEmpty_eq_false_iff]
            intro e
            have:=congrArg List.length e
            simp at this
            omega
          rw [e] at h
          exact rest_d hpi hd hL hj h h1 h2
theorem def_ok (X : ExtO) {n : Nat} {top : Bool} (hl : ParL (go n .params)) (hpi : NodeO (go n (.exp 1)) 49 []) (hd : NodeQ (go n (.deff true)) 48 [dB true]) :
    NodeQ (go (n + 1) (.deff top)) 48 [dB top]:=by
  intro L l i o hL hlt h
  have hf:=hL.few
  obtain ⟨j1,b1,s,ok1,hj1,h⟩:=rb_name X hL hlt (rb_move h)
  have h:=rb_look (show runB (.look _) l j1 b1 = some o from h)
  dsimp only at h
  refine o_def ⟨_,_,_,next_ok L (by omega),_,_,_,_,ok1,_,op_ok hL j1 b1 lpar,?_⟩
  cases c : pa.op lpar (tokB l j1 b1)
  · rw [c] at h
    obtain ⟨j2,b2,ok2,hj2,h⟩:=rb_need hL hj1 (show runB (need colon _) l j1 b1 = some o from h)
    obtain ⟨j3,b3,y3,ok3,hj3,h⟩:=hpi.next hL hj2 h
    obtain ⟨j4,b4,ok4,hj4,h⟩:=rb_need hL hj3 h
    refine bcond_f rfl ⟨_,_,_,ok2,_,_,_,_,_,_,ok3,_,_,_,ok4,⟨by simp,by decide⟩,?_⟩
    exact tail_d hpi hd hL hj4 (zs:=[y3]) h (fun h=>⟨⟨rfl,by simp,by decide⟩,h⟩) (fun j' b' z h=>⟨⟨rfl,by simp,by decide⟩,h⟩) (fun j' b' z h=>⟨⟨rfl,by simp,by decide⟩,h⟩)
  · rw [c] at h
    obtain ⟨rfl,hlt1⟩:=op_lt c
    obtain ⟨o1,hp1,h⟩:=rb_bind (rb_move (show runB (.move ((go n .params).bind _)) l j1 false = some o from h))
    obtain ⟨out,okp,j2,b2,zs,rfl,hle,hs⟩:=params_ok hl hL hlt1 hp1
    have h : runB (need colon ((go n (.exp 1)).bind fun (b : Nd)=>need semi (tailD n top s (zs ++ [b])))) l j2 b2 = some o:=by
      obtain ⟨hj,hm⟩:=hs
      cases o1 with
      | ok r x =>
        obtain ⟨rfl,rfl,rfl⟩:=hm
        simp only [tailD,List.append_assoc]
        exact h
      | bad r=>obtain ⟨rfl,rfl⟩:=hm;rw [h];rfl
    obtain ⟨j3,b3,ok3,hj3,h⟩:=rb_need hL hs.1 h
    obtain ⟨j4,b4,y4,ok4,hj4,h⟩:=hpi.next hL hj3 h
    obtain ⟨j5,b5,ok5,hj5,h⟩:=rb_need hL hj4 h
    refine bcond_t rfl ⟨_,_,_,next_ok L (by omega),_,_,_,_,okp,_,_,_,ok3,_,_,_,_,_,_,ok4,_,_,_,ok5,⟨rfl,by simp,by rw [foD_len];omega⟩,?_⟩
    refine tail_d hpi hd hL hj5 (zs:=zs ++ [y4]) h (fun h=>⟨⟨by simp,by simp,by simp [foD_len];omega⟩,?_⟩) (fun j' b' z h=>⟨⟨by simp,by simp,by simp [foD_len];omega⟩,?_⟩) (fun j' b' z h=>⟨⟨by simp,by simp,by simp [foD_len];omega⟩,?_⟩)
    · rw [List.append_assoc] at h
      have e : foD (Fo.ofL zs) ++ [[dI y4.k,dS y4.t,dL (foD y4.kids)]] ++ [[dI 0,dS ⟨#[]⟩,dL []]] = foD (Fo.ofL (zs ++ [y4,none0])):=foD_app2 zs y4 none0
      rw [e]
      exact h
    · rw [List.append_assoc] at h
      rw [foD_app2]
      exact h
    · rw [List.append_assoc] at h
      rw [foD_app2]
      exact h
def PostL (p : Nd → Pa Nd) : Prop:=∀ (x : Nd) (L0 L : List (List D)) (l : List pa.Tk) (i0 : Int) (b0 : Bool) (j : Nat) (b : Bool) (o : Out Nd),Its L l → j ≤ l.length → runB (p x) l j b = some o →
  ∃ k,L_post_2_11 L0 i0 b0 (Nret L l o) k [.ptr 0 0,.ptr 1 0,.ptr 2 0,.ptr 8 0,dL L,dI (j : Int),dB b,.sl .nil [],dI 0,dB false,dI 0,dS ⟨#[]⟩,.sl .nil [],dI x.k,dS x.t,dL (foD x.kids)]
theorem postL_step {n : Nat} (hw : ∀ x d,NodeO (go n (.within x d)) 91 [ndD x,dS d]) (hs : NodeO (go n .str) 66 []) (ih : PostL fun x=>go n (.postL x)) : PostL fun x=>go (n + 1) (.postL x):=by
  intro x L0 L l i0 b0 j b o hL hj h
  have hf:=hL.few
  cases b with
  | true =>
    refine ⟨0 + 1,?_⟩
    rw [l_post_2_11]
    exact bcond_f rfl ⟨j,true,x,rfl,hj,by rw [rb_true h];exact ⟨rfl,rfl⟩⟩
  | false =>
    have h:=rb_look (show runB (.look _) l j false = some o from h)
    cases c4 : (tokB l j false).1 == 4
    · rw [c4] at h
      cases cq : pa.op quest (tokB l j false)
      · rw [cq] at h
        cases cb : pa.op lbr (tokB l j false)
        · rw [cb] at h
          cases cd : pa.op pa.dot (tokB l j false)
          · rw [cd] at h
            refine ⟨0 + 1,?_⟩
            rw [l_post_2_11]
            exact bcond_t rfl ⟨_,_,tok_ok hL j false,bcond_f c4 ⟨_,op_ok hL j false quest,bcond_f cq ⟨_,op_ok hL j false lbr,bcond_f cb ⟨_,op_ok hL j false pa.dot,bcond_f cd (rb_ret hj h)⟩⟩⟩⟩
          · rw [cd] at h
            obtain ⟨_,hlt⟩:=op_lt cd
            have h:=rb_look (rb_move h)
            cases cb2 : pa.op lbr (tokB l (j + 1) false)
            · rw [cb2] at h
              obtain ⟨j2,b2,y2,ok2,hj2,h⟩:=hs.next hL hlt h
              obtain ⟨k,hk⟩:=ih _ L0 L l i0 b0 j2 b2 o hL hj2 h
              refine ⟨k + 1,?_⟩
              rw [l_post_2_11]
              exact bcond_t rfl ⟨_,_,tok_ok hL j false,bcond_f c4 ⟨_,op_ok hL j false quest,bcond_f cq ⟨_,op_ok hL j false lbr,bcond_f cb ⟨_,op_ok hL j false pa.dot,bcond_t cd ⟨_,_,_,next_ok L (by omega),_,op_ok hL (j + 1) false lbr,bcond_f cb2 ⟨_,_,_,_,_,_,ok2,hk⟩⟩⟩⟩⟩⟩
            · rw [cb2] at h
              obtain ⟨j2,b2,y2,ok2,hj2,h⟩:=(hw x pa.dot).next hL hlt h
              obtain ⟨k,hk⟩:=ih _ L0 L l i0 b0 j2 b2 o hL hj2 h
              refine ⟨k + 1,?_⟩
              rw [l_post_2_11]
              exact bcond_t rfl ⟨_,_,tok_ok hL j false,bcond_f c4 ⟨_,op_ok hL j false quest,bcond_f cq ⟨_,op_ok hL j false lbr,bcond_f cb ⟨_,op_ok hL j false pa.dot,bcond_t cd ⟨_,_,_,next_ok L (by omega),_,op_ok hL (j + 1) false lbr,bcond_t cb2 ⟨_,_,_,_,_,_,ok2,hk⟩⟩⟩⟩⟩⟩
        · rw [cb] at h
          obtain ⟨j2,b2,y2,ok2,hj2,h⟩:=(hw x eB).next hL hj h
          obtain ⟨k,hk⟩:=ih _ L0 L l i0 b0 j2 b2 o hL hj2 h
          refine ⟨k + 1,?_⟩
          rw [l_post_2_11]
          exact bcond_t rfl ⟨_,_,tok_ok hL j false,bcond_f c4 ⟨_,op_ok hL j false quest,bcond_f cq ⟨_,op_ok hL j false lbr,bcond_t cb ⟨_,_,_,_,_,_,ok2,hk⟩⟩⟩⟩
      · rw [cq] at h
        obtain ⟨_,hlt⟩:=op_lt cq
        obtain ⟨k,hk⟩:=ih _ L0 L l i0 b0 (j + 1) false o hL hlt (rb_move h)
        refine ⟨k + 1,?_⟩
        rw [l_post_2_11]
        exact bcond_t rfl ⟨_,_,tok_ok hL j false,bcond_f c4 ⟨_,op_ok hL j false quest,bcond_t cq ⟨_,_,_,next_ok L (by omega),hk⟩⟩⟩
    · rw [c4] at h
      obtain ⟨_,hlt⟩:=tok_lt (l:=l) (i:=j) (b:=false) (by rw [eq_of_beq c4];decide)
      obtain ⟨k,hk⟩:=ih _ L0 L l i0 b0 (j + 1) false o hL hlt (rb_move h)
      refine ⟨k + 1,?_⟩
      rw [l_post_2_11]
      exact bcond_t rfl ⟨_,_,tok_ok hL j false,bcond_t c4 ⟨⟨by omega,cut_le hL hlt (.inl (eq_of_beq c4))⟩,_,_,_,next_ok L (by omega),hk⟩⟩
theorem post_ok {n : Nat} (ht : NodeO (go n .term) 90 []) (hl : PostL fun x=>go n (.postL x)) : NodeO (go (n + 1) .post) 86 []:=by
  intro L l i b o hL hi h
  obtain ⟨j,b',y,hok,hj,h⟩:=ht.next hL hi (show runB ((go n .term).bind _) l i b = some o from h)
  obtain ⟨k,hk⟩:=hl y L L l i b j b' o hL hj h
  exact o_post ⟨_,_,_,_,_,_,hok,k,hk⟩
end Go.Proofs.Ythadnhpkeljdoaa.pv
namespace Go.Proofs.Ythadnhpkeljdoaa.pv
open Go.RowKit nd pa pr
def BrkL (p : Pa (List Nd)) : Prop:=∀ (acc : List Nd) (L0 L : List (List D)) (l : List pa.Tk) (i0 : Int) (b0 : Bool) (j : Nat) (o : Out (List Nd)) (K : List D → Prop),Its L l → j ≤ l.length → acc.length ≤ j → runB p l j false = some o →
  (∀ j2 b2 zs,SR l acc o j2 b2 zs → K [pD L j2 b2,.agg [dI 10,dS eB,dL (foD (Fo.ofL zs))]]) →
  ∃ k,L_bracket_16_18 L0 i0 b0 K k [.ptr 0 0,.ptr 1 0,.ptr 2 0,.ptr 11 0,dL L,dI (j : Int),dB false,.sl .nil [],dI 0,dB false,dI 0,dS ⟨#[]⟩,.sl .nil [],dI 10,dS ⟨#[]⟩,dL (foD (Fo.ofL acc))]
theorem brkL_step {n : Nat} (hp : NodeO (go n .pair) 97 []) (ih : BrkL (go n .pairs)) : BrkL (go (n + 1) .pairs):=by
  intro acc L0 L l i0 b0 j o K hL hj ha h hK
  have hf:=hL.few
  obtain ⟨j1,b1,y,ok1,hj1,m1,h⟩:=hp.next' hL hj (show runB ((go n .pair).bind _) l j false = some o from h)
  have h:=rb_look h
  cases c : pa.op comma (tokB l j1 b1)
  · rw [c] at h
    obtain ⟨j2,b2,ok2,hj2,h⟩:=rb_need hL hj1 h
    have hk:=hK _ _ _ (rb_sr (acc:=acc) hj2 h)
    rw [foD_app] at hk
    refine ⟨0 + 1,?_⟩
    rw [l_bracket_16_18]
    exact ⟨_,_,_,_,_,_,ok1,⟨rfl,by simp,by rw [foD_len];omega⟩,_,op_ok hL j1 b1 comma,bcond_t (by rw [c];rfl) ⟨_,_,_,ok2,hk⟩⟩
  · rw [c] at h
    obtain ⟨rfl,hlt⟩:=op_lt c
    have m1:=(m1 rfl).2
    obtain ⟨o1,h1,h2⟩:=rb_bind (rb_move h)
    obtain ⟨k,hk⟩:=ih (acc ++ [y]) L0 L l i0 b0 (j1 + 1) o1 K hL hlt (by simp;omega) h1 (fun j2 b2 zs hs=>hK j2 b2 zs (SR.more (fun r x e=>by subst e;exact (Option.some.inj h2).symm) (fun r e=>by subst e;exact h2) hs))
    rw [foD_app] at hk
    refine ⟨k + 1,?_⟩
    rw [l_bracket_16_18]
    exact ⟨_,_,_,_,_,_,ok1,⟨rfl,by simp,by rw [foD_len];omega⟩,_,op_ok hL j1 false comma,bcond_f (by rw [c];rfl) ⟨_,_,_,next_ok L (by omega),by simp,hk⟩⟩
theorem bracket_ok {n : Nat} (hpi : NodeO (go n (.exp 1)) 49 []) (hl : BrkL (go n .pairs)) : NodeO (go (n + 1) .bracket) 94 []:=by
  intro L l i b o hL hi h
  have hf:=hL.few
  have h:=rb_look (show runB (.look _) l i b = some o from h)
  refine o_bracket ⟨_,op_ok hL i b lpar,?_⟩
  cases c1 : pa.op lpar (tokB l i b)
  · rw [c1] at h
    refine bcond_f rfl ⟨_,op_ok hL i b lbr,?_⟩
    cases c2 : pa.op lbr (tokB l i b)
    · rw [c2] at h
      refine bcond_f rfl ⟨_,op_ok hL i b lbrace,?_⟩
      cases c3 : pa.op lbrace (tokB l i b)
      · rw [c3] at h
        rw [rb_bad h]
        exact bcond_t rfl ⟨_,_,_,wrong_ok L i b,i,true,none0,rfl,hi,rfl,rfl⟩
      · rw [c3] at h
        obtain ⟨rfl,hlt⟩:=op_lt c3
        have h:=rb_look (rb_move h)
        refine bcond_f rfl ⟨_,_,_,next_ok L (by omega),_,op_ok hL (i + 1) false rbrace,?_⟩
        cases c4 : pa.op rbrace (tokB l (i + 1) false)
        · rw [c4] at h
          obtain ⟨o1,h1,h2⟩:=rb_bind (show runB ((go n .pairs).bind fun (l : List Nd)=>.ret (mk 10 eB l)) l (i + 1) false = some o from h)
          obtain ⟨k,hk⟩:=hl [] L L l i false (i + 1) o1 (Nret L l o) hL hlt (Nat.zero_le _) h1 (fun j2 b2 zs hs=>SR.node (g:=fun l=>mk 10 eB l) (fun r x e=>by subst e;exact (Option.some.inj h2).symm) (fun r e=>by subst e;exact h2) hs)
          exact bcond_f rfl ⟨k,hk⟩
        · rw [c4] at h
          obtain ⟨_,hlt2⟩:=op_lt c4
          exact bcond_t rfl ⟨_,_,_,next_ok L (by omega),rb_ret hlt2 (rb_move h)⟩
    · rw [c2] at h
      obtain ⟨rfl,hlt⟩:=op_lt c2
      have h:=rb_look (rb_move h)
      refine bcond_t rfl ⟨_,_,_,next_ok L (by omega),_,op_ok hL (i + 1) false rbr,?_⟩
      cases c4 : pa.op rbr (tokB l (i + 1) false)
      · rw [c4] at h
        obtain ⟨j2,b2,y2,ok2,hj2,h⟩:=hpi.next hL hlt h
        obtain ⟨j3,b3,ok3,hj3,h⟩:=rb_need hL hj2 h
        exact bcond_f rfl ⟨_,_,_,_,_,_,ok2,_,_,_,ok3,rb_ret hj3 h⟩
      · rw [c4] at h
        obtain ⟨_,hlt2⟩:=op_lt c4
        exact bcond_t rfl ⟨_,_,_,next_ok L (by omega),rb_ret hlt2 (rb_move h)⟩
  · rw [c1] at h
    obtain ⟨rfl,hlt⟩:=op_lt c1
    obtain ⟨j2,b2,y2,ok2,hj2,h⟩:=hpi.next hL hlt (rb_move h)
    obtain ⟨j3,b3,ok3,hj3,h⟩:=rb_need hL hj2 h
    exact bcond_t rfl ⟨_,_,_,next_ok L (by omega),_,_,_,_,_,_,ok2,_,_,_,ok3,rb_ret hj3 h⟩
def tailI (n : Nat) (l : List Nd) : Pa Nd:=.look fun u=>if word welse u then .move ((go n (.exp 1)).bind fun (x : Nd)=>need wend (.ret (mk 14 welse (l ++ [x])))) else need wend (.ret (mk 14 eB l))
theorem foD_two (a : List Nd) (y z : Nd) : foD (Fo.ofL a) ++ [[dI y.k,dS y.t,dL (foD y.kids)],[dI z.k,dS z.t,dL (foD z.kids)]] = foD (Fo.ofL (a ++ [y,z])):=by
  rw [← foD_app2,List.append_assoc];rfl
def IfsL (n0 : Nat) (p : Pa (List Nd)) : Prop:=∀ (acc : List Nd) (L0 L : List (List D)) (l : List pa.Tk) (i0 : Int) (b0 : Bool) (j : Nat) (o1 : Out (List Nd)) (o : Out Nd),Its L l → j ≤ l.length → acc.length ≤ 2 * j → runB p l j false = some o1 →
  (match o1 with
    | .ok r x=>(tailI n0 (acc ++ x)).run r = some o
    | .bad r=>o = .bad r) →
  ∃ k,L_ifs_2_6 L0 i0 b0 (Nret L l o) k [.ptr 0 0,.ptr 1 0,.ptr 2 0,.ptr 4 0,dL L,dI (j : Int),dB false,.sl .nil [],dI 0,dB false,dI 0,dS ⟨#[]⟩,.sl .nil [],dI 14,dS ⟨#[]⟩,dL (foD (Fo.ofL acc))]
theorem ifsL_step {n0 n : Nat} (hp0 : NodeO (go n0 (.exp 1)) 49 []) (hpi : NodeO (go n (.exp 1)) 49 []) (ih : IfsL n0 (go n .ifs)) : IfsL n0 (go (n + 1) .ifs):=by
  intro acc L0 L l i0 b0 j o1 o hL hj ha h ht
  have hf:=hL.few
  obtain ⟨j1,b1,y1,ok1,hj1,m1,h⟩:=hpi.next' hL hj (show runB ((go n (.exp 1)).bind _) l j false = some o1 from h)
  obtain ⟨j2,b2,ok2,hj2,m2,h⟩:=rb_need' hL hj1 h
  obtain ⟨j3,b3,y3,ok3,hj3,m3,h⟩:=hpi.next' hL hj2 h
  have h:=rb_look h
  cases c : pa.word welif (tokB l j3 b3)
  · rw [c] at h
    have ht : runB (tailI n0 (acc ++ [y1,y3])) l j3 b3 = some o:=by
      cases b3 with
      | true=>rw [rb_true h] at ht;rw [ht];rfl
      | false=>cases h;exact ht
    have ht:=rb_look ht
    refine ⟨0 + 1,?_⟩
    rw [l_ifs_2_6]
    refine ⟨_,_,_,_,_,_,ok1,_,_,_,ok2,_,_,_,_,_,_,ok3,⟨rfl,by simp,by rw [foD_len];omega⟩,_,word_ok hL j3 b3 welif,bcond_t (by rw [c];rfl) ⟨_,word_ok hL j3 b3 welse,?_⟩⟩
    cases ce : pa.word welse (tokB l j3 b3)
    · rw [ce] at ht
      obtain ⟨j4,b4,ok4,hj4,ht⟩:=rb_need hL hj3 ht
      have hr:=rb_ret (L:=L) hj4 ht
      refine bcond_f rfl ⟨_,_,_,ok4,?_⟩
      rw [foD_two]
      exact hr
    · rw [ce] at ht
      obtain ⟨rfl,hlt⟩:=word_lt ce
      obtain ⟨j4,b4,y4,ok4,hj4,ht⟩:=hp0.next hL hlt (rb_move ht)
      obtain ⟨j5,b5,ok5,hj5,ht⟩:=rb_need hL hj4 ht
      have hr:=rb_ret (L:=L) hj5 ht
      have e:=foD_app (acc ++ [y1,y3]) y4
      refine bcond_t rfl ⟨_,_,_,next_ok L (by omega),_,_,_,_,_,_,ok4,⟨by simp,by simp,by simp [foD_len];omega⟩,_,_,_,ok5,?_⟩
      rw [foD_two,← e]
      exact hr
  · rw [c] at h
    obtain ⟨rfl,hlt⟩:=word_lt c
    have a3:=m3 rfl
    have a2:=m2 a3.1
    have a1:=m1 a2.1
    obtain ⟨o2,h1,h2⟩:=rb_bind (rb_move h)
    obtain ⟨k,hk⟩:=ih (acc ++ [y1,y3]) L0 L l i0 b0 (j3 + 1) o2 o hL hlt (by simp;omega) h1 (by
      cases o2 with
      | ok r x =>
        have h2 : some (Out.ok r (y1 :: y3 :: x)) = some o1:=h2
        cases h2
        have ht : (tailI n0 (acc ++ (y1 :: y3 :: x))).run r = some o:=ht
        show (tailI n0 (acc ++ [y1,y3] ++ x)).run r = some o
        rw [List.append_assoc]
        exact ht
      | bad r=>rw [h2] at ht;exact ht)
    rw [← foD_two] at hk
    refine ⟨k + 1,?_⟩
    rw [l_ifs_2_6]
    exact ⟨_,_,_,_,_,_,ok1,_,_,_,ok2,_,_,_,_,_,_,ok3,⟨rfl,by simp,by rw [foD_len];omega⟩,_,word_ok hL j3 false welif,bcond_f (by rw [c];rfl) ⟨_,_,_,next_ok L (by omega),by simp,hk⟩⟩
def ifsP (n : Nat) : Pa Nd:=(go n .ifs).bind fun (l : List Nd)=>tailI n l
def NodeR (p : Pa Nd) (f : FuncId) (more : List D) : Prop:=∀ (L : List (List D)) (l : List pa.Tk) (i : Nat) (o : Out Nd),Its L l → i ≤ l.length → runB p l i false = some o → OkP Try.prog f (pD L i false :: more) (Nret L l o)
theorem ifs_ok {n : Nat} (hl : IfsL n (go n .ifs)) : NodeR (ifsP n) 98 []:=by
  intro L l i o hL hlt h
  obtain ⟨o1,h1,h2⟩:=rb_bind h
  obtain ⟨k,hk⟩:=hl [] L L l i false i o1 o hL (by omega) (Nat.zero_le _) h1 (by cases o1 <;> exact h2)
  exact o_ifs ⟨k,hk⟩
def ArgL (p : Pa (List Nd)) : Prop:=∀ (acc : List Nd) (t : ByteArray) (L0 L : List (List D)) (l : List pa.Tk) (i0 : Int) (b0 : Bool) (j : Nat) (o : Out (List Nd)) (K : List D → Prop),Its L l → j < l.length → acc.length ≤ j → runB p l j false = some o →
  (∀ j2 b2 zs,SR l acc o j2 b2 zs → K [pD L j2 b2,.agg [dI 13,dS t,dL (foD (Fo.ofL zs))]]) →
  ∃ k,L_worded_20_30 L0 i0 b0 K k [.ptr 0 0,.ptr 1 0,.ptr 2 0,.ptr 22 0,dL L,dI (j : Int),dB false,.sl .nil [],dI 0,dB false,dI 0,dS ⟨#[]⟩,.sl .nil [],dI 13,dS t,dL (foD (Fo.ofL acc))]
theorem argL_step {n : Nat} (hpi : NodeO (go n (.exp 1)) 49 []) (ih : ArgL (go n .args)) : ArgL (go (n + 1) .args):=by
  intro acc t L0 L l i0 b0 j o K hL hlt ha h hK
  have hf:=hL.few
  obtain ⟨j1,b1,y,ok1,hj1,m1,h⟩:=hpi.next' hL hlt (rb_move (show runB (.move ((go n (.exp 1)).bind _)) l j false = some o from h))
  have h:=rb_look h
  cases c : pa.op semi (tokB l j1 b1)
  · rw [c] at h
    obtain ⟨j2,b2,ok2,hj2,h⟩:=rb_need hL hj1 h
    have hk:=hK _ _ _ (rb_sr (acc:=acc) hj2 h)
    rw [foD_app] at hk
    refine ⟨0 + 1,?_⟩
    rw [l_worded_20_30]
    exact ⟨_,_,_,next_ok L (by omega),_,_,_,_,_,_,ok1,⟨rfl,by simp,by rw [foD_len];omega⟩,_,op_ok hL j1 b1 semi,bcond_t (by rw [c];rfl) ⟨_,_,_,ok2,hk⟩⟩
  · rw [c] at h
    obtain ⟨rfl,hlt2⟩:=op_lt c
    have m1:=(m1 rfl).2
    obtain ⟨o1,h1,h2⟩:=rb_bind h
    obtain ⟨k,hk⟩:=ih (acc ++ [y]) t L0 L l i0 b0 j1 o1 K hL hlt2 (by simp;omega) h1 (fun j2 b2 zs hs=>hK j2 b2 zs (SR.more (fun r x e=>by subst e;exact (Option.some.inj h2).symm) (fun r e=>by subst e;exact h2) hs))
    rw [foD_app] at hk
    refine ⟨k + 1,?_⟩
    rw [l_worded_20_30]
    exact ⟨_,_,_,next_ok L (by omega),_,_,_,_,_,_,ok1,⟨rfl,by simp,by rw [foD_len];omega⟩,_,op_ok hL j1 false semi,bcond_f (by rw [c];rfl) ⟨by simp,hk⟩⟩
theorem beq_t {a b : ByteArray} (h : a = b) : (a.toList == b.toList) = true:=by rw [bytes_eq];exact decide_eq_true h
theorem beq_f {a b : ByteArray} (h : ¬ a = b) : (a.toList == b.toList) = false:=by rw [bytes_eq];exact decide_eq_false h
theorem worded_ok (X : ExtO) {n : Nat} (hi' : NodeR (ifsP n) 98 [])
    (h2 : NodeO (go n (.fold 16 false)) 99 [dI 16,dI 2]) (h3 : NodeO (go n (.fold 17 true)) 99 [dI 17,dI 3]) (hl : ArgL (go n .args)) : NodeQ (go (n + 1) .worded) 95 []:=by
  intro L l i o hL hlt h
  have hf:=hL.few
  have h:=rb_look (show runB (.look _) l i false = some o from h)
  refine o_worded ⟨_,_,tok_ok hL i false,?_⟩
  by_cases c1 : (tokB l i false).2 = wif
  · rw [if_pos c1] at h
    obtain ⟨out,hok,j,b',y,rfl,hj,hm⟩:=hi' L l (i + 1) o hL hlt (rb_move h)
    exact bcond_t (beq_t c1) ⟨_,_,_,next_ok L (by omega),_,_,_,_,_,_,hok,j,b',y,rfl,hj,hm⟩
  rw [if_neg c1] at h
  refine bcond_f (beq_f c1) ?_
  by_cases c2 : (tokB l i false).2 = wreduce
  · rw [if_pos c2] at h
    obtain ⟨j,b',y,hok,hr⟩:=h2.last hL hlt (rb_move h)
    exact bcond_t (beq_t c2) ⟨_,_,_,next_ok L (by omega),_,_,_,_,_,_,hok,hr⟩
  rw [if_neg c2] at h
  refine bcond_f (beq_f c2) ?_
  by_cases c3 : (tokB l i false).2 = wforeach
  · rw [if_pos c3] at h
    obtain ⟨j,b',y,hok,hr⟩:=h3.last hL hlt (rb_move h)
    exact bcond_t (beq_t c3) ⟨_,_,_,next_ok L (by omega),_,_,_,_,_,_,hok,hr⟩
  rw [if_neg c3] at h
  refine bcond_f (beq_f c3) ?_
  by_cases c4 : (tokB l i false).2 = wbreak
  · rw [if_pos c4] at h
    obtain ⟨j2,b2,s,ok2,hj2,h⟩:=rb_text hL hlt (.inr rfl) (rb_move h)
    exact bcond_t (beq_t c4) ⟨_,_,_,next_ok L (by omega),_,_,_,_,ok2,rb_ret hj2 h⟩
  rw [if_neg c4] at h
  refine bcond_f (beq_f c4) ⟨_,_,tok_ok hL i false,_,X.key _,?_⟩
  cases ck : Sg.key (tokB l i false).2.data.toList
  · rw [ck] at h
    have h:=rb_look (rb_move h)
    refine bcond_f rfl ⟨_,_,tok_ok hL i false,_,_,_,next_ok L (by omega),_,op_ok hL (i + 1) false lpar,?_⟩
    cases cp : pa.op lpar (tokB l (i + 1) false)
    · rw [cp] at h
      exact bcond_t rfl (rb_ret hlt h)
    · rw [cp] at h
      obtain ⟨_,hlt2⟩:=op_lt cp
      obtain ⟨o1,h1,h2⟩:=rb_bind h
      obtain ⟨k,hk⟩:=hl [] (tokB l i false).2 L L l i false (i + 1) o1 (Nret L l o) hL hlt2 (Nat.zero_le _) h1 (fun j2 b2 zs hs=>SR.node (g:=fun x=>mk 13 (tokB l i false).2 x) (fun r x e=>by subst e;exact (Option.some.inj h2).symm) (fun r e=>by subst e;exact h2) hs)
      exact bcond_f rfl ⟨k,hk⟩
  · rw [ck] at h
    rw [rb_bad h]
    exact bcond_t rfl ⟨_,_,_,wrong_ok L i false,i,true,none0,rfl,by omega,rfl,rfl⟩
end Go.Proofs.Ythadnhpkeljdoaa.pv
namespace Go.Proofs.Ythadnhpkeljdoaa.pv
open Go.RowKit nd pa pr
theorem NodeO.r {p : Pa Nd} {f : FuncId} {more : List D} (h : NodeO p f more) : NodeR p f more:=fun L l i o hL hi hr=>h L l i false o hL hi hr
theorem NodeR.next' {p : Pa Nd} {f : FuncId} {more : List D} (hc : NodeR p f more) {L : List (List D)} {l : List pa.Tk} {i : Nat} (hL : Its L l) (hi : i ≤ l.length) {β : Type} {g : Nd → Pa β} {o : Out β} (h : runB (p.bind g) l i false = some o) :
    ∃ j b' y,Ok Try.prog f (pD L i false :: more) [pD L j b',ndD y] ∧ j ≤ l.length ∧ (b' = false → i ≤ j) ∧ runB (g y) l j b' = some o:=by
  obtain ⟨o1,h1,h2⟩:=rb_bind h
  obtain ⟨out,hok,j,b',y,rfl,hj,hm⟩:=hc L l i o1 hL hi h1
  refine ⟨j,b',y,hok,hj,?_⟩
  cases o1 with
  | ok r x =>
    obtain ⟨rfl,rfl,rfl⟩:=hm
    refine ⟨fun _=>?_,h2⟩
    have:=Pa.run_len p (show p.run (l.drop i) = some _ from h1)
    simp [Out.rest] at this
    omega
  | bad r=>obtain ⟨rfl,rfl⟩:=hm;exact ⟨(fun e=>by cases e),by rw [h2];rfl⟩
def ElL36 (p : Pa (List Nd)) : Prop:=∀ (acc : List Nd) (L0 L : List (List D)) (l : List pa.Tk) (i0 : Int) (b0 : Bool) (j : Nat) (o : Out (List Nd)) (K : List D → Prop),Its L l → j < l.length → acc.length ≤ j → runB p l j false = some o →
  (∀ j2 b2 zs,SR l acc o j2 b2 zs → K [pD L j2 b2,.agg [dI 36,dS eB,dL (foD (Fo.ofL zs))]]) →
  ∃ k,L_pattern_10_16 L0 i0 b0 K k [.ptr 0 0,.ptr 1 0,.ptr 2 0,.ptr 8 0,dS rbrace,dL L,dI (j : Int),dB false,.sl .nil [],dI 0,dB false,dI 0,dS ⟨#[]⟩,.sl .nil [],dI 36,dS ⟨#[]⟩,dL (foD (Fo.ofL acc))]
theorem elL36_step {n : Nat} (hp : NodeR (go n .keypat) 92 []) (ih : ElL36 (go n (.elems true))) : ElL36 (go (n + 1) (.elems true)):=by
  intro acc L0 L l i0 b0 j o K hL hlt ha h hK
  have hf:=hL.few
  obtain ⟨j1,b1,y,ok1,hj1,m1,h⟩:=hp.next' hL hlt (rb_move (show runB (.move ((go n .keypat).bind _)) l j false = some o from h))
  have h:=rb_look h
  cases c : pa.op comma (tokB l j1 b1)
  · rw [c] at h
    obtain ⟨j2,b2,ok2,hj2,h⟩:=rb_need hL hj1 (show runB (need rbrace (.ret [y])) l j1 b1 = some o from h)
    have hk:=hK _ _ _ (rb_sr (acc:=acc) hj2 h)
    rw [foD_app] at hk
    refine ⟨0 + 1,?_⟩
    rw [l_pattern_10_16]
    exact ⟨_,_,_,next_ok L (by omega),bcond_t rfl ⟨_,_,_,_,_,_,ok1,⟨rfl,by simp,by rw [foD_len];omega⟩,_,op_ok hL j1 b1 comma,bcond_t (by rw [c];rfl) ⟨_,_,_,ok2,hk⟩⟩⟩
  · rw [c] at h
    obtain ⟨rfl,hlt2⟩:=op_lt c
    have m1:=m1 rfl
    obtain ⟨o1,h1,h2⟩:=rb_bind h
    obtain ⟨k,hk⟩:=ih (acc ++ [y]) L0 L l i0 b0 j1 o1 K hL hlt2 (by simp;omega) h1 (fun j2 b2 zs hs=>hK j2 b2 zs (SR.more (fun r x e=>by subst e;exact (Option.some.inj h2).symm) (fun r e=>by subst e;exact h2) hs))
    rw [foD_app] at hk
    refine ⟨k + 1,?_⟩
    rw [l_pattern_10_16]
    exact ⟨_,_,_,next_ok L (by omega),bcond_t rfl ⟨_,_,_,_,_,_,ok1,⟨rfl,by simp,by rw [foD_len];omega⟩,_,op_ok hL j1 false comma,bcond_f (by rw [c];rfl) ⟨by simp,hk⟩⟩⟩
def ElL35 (p : Pa (List Nd)) : Prop:=∀ (acc : List Nd) (L0 L : List (List D)) (l : List pa.Tk) (i0 : Int) (b0 : Bool) (j : Nat) (o : Out (List Nd)) (K : List D → Prop),Its L l → j < l.length → acc.length ≤ j → runB p l j false = some o →
  (∀ j2 b2 zs,SR l acc o j2 b2 zs → K [pD L j2 b2,.agg [dI 35,dS eB,dL (foD (Fo.ofL zs))]]) →
  ∃ k,L_pattern_10_16 L0 i0 b0 K k [.ptr 0 0,.ptr 1 0,.ptr 2 0,.ptr 8 0,dS rbr,dL L,dI (j : Int),dB false,.sl .nil [],dI 0,dB false,dI 0,dS ⟨#[]⟩,.sl .nil [],dI 35,dS ⟨#[]⟩,dL (foD (Fo.ofL acc))]
theorem elL35_step {n : Nat} (hp : NodeR (go n .pattern) 87 []) (ih : ElL35 (go n (.elems false))) : ElL35 (go (n + 1) (.elems false)):=by
  intro acc L0 L l i0 b0 j o K hL hlt ha h hK
  have hf:=hL.few
  obtain ⟨j1,b1,y,ok1,hj1,m1,h⟩:=hp.next' hL hlt (rb_move (show runB (.move ((go n .pattern).bind _)) l j false = some o from h))
  have h:=rb_look h
  cases c : pa.op comma (tokB l j1 b1)
  · rw [c] at h
    obtain ⟨j2,b2,ok2,hj2,h⟩:=rb_need hL hj1 (show runB (need rbr (.ret [y])) l j1 b1 = some o from h)
    have hk:=hK _ _ _ (rb_sr (acc:=acc) hj2 h)
    rw [foD_app] at hk
    refine ⟨0 + 1,?_⟩
    rw [l_pattern_10_16]
    exact ⟨_,_,_,next_ok L (by omega),bcond_f rfl ⟨_,_,_,_,_,_,ok1,⟨rfl,by simp,by rw [foD_len];omega⟩,_,op_ok hL j1 b1 comma,bcond_t (by rw [c];rfl) ⟨_,_,_,ok2,hk⟩⟩⟩
  · rw [c] at h
    obtain ⟨rfl,hlt2⟩:=op_lt c
    have m1:=m1 rfl
    obtain ⟨o1,h1,h2⟩:=rb_bind h
    obtain ⟨k,hk⟩:=ih (acc ++ [y]) L0 L l i0 b0 j1 o1 K hL hlt2 (by simp;omega) h1 (fun j2 b2 zs hs=>hK j2 b2 zs (SR.more (fun r x e=>by subst e;exact (Option.some.inj h2).symm) (fun r e=>by subst e;exact h2) hs))
    rw [foD_app] at hk
    refine ⟨k + 1,?_⟩
    rw [l_pattern_10_16]
    exact ⟨_,_,_,next_ok L (by omega),bcond_f rfl ⟨_,_,_,_,_,_,ok1,⟨rfl,by simp,by rw [foD_len];omega⟩,_,op_ok hL j1 false comma,bcond_f (by rw [c];rfl) ⟨by simp,hk⟩⟩⟩
theorem pattern_ok {n : Nat} (h36 : ElL36 (go n (.elems true))) (h35 : ElL35 (go n (.elems false))) : NodeO (go (n + 1) .pattern) 87 []:=by
  intro L l i b o hL hi h
  have hf:=hL.few
  have h:=rb_look (show runB (.look _) l i b = some o from h)
  refine o_pattern ⟨_,_,tok_ok hL i b,?_⟩
  cases c5 : (tokB l i b).1 == 5
  · rw [c5] at h
    refine bcond_f rfl ⟨_,op_ok hL i b lbrace,?_⟩
    cases c1 : pa.op lbrace (tokB l i b)
    · rw [c1] at h
      refine bcond_f rfl ⟨_,op_ok hL i b lbr,?_⟩
      cases c2 : pa.op lbr (tokB l i b)
      · rw [c2] at h
        rw [rb_bad h]
        exact bcond_t rfl ⟨_,_,_,wrong_ok L i b,i,true,mk 35 eB [],rfl,hi,rfl,rfl⟩
      · rw [c2] at h
        obtain ⟨rfl,hlt⟩:=op_lt c2
        obtain ⟨o1,h1,h2⟩:=rb_bind (show runB ((go n (.elems false)).bind fun (l : List Nd)=>.ret (mk 35 eB l)) l i false = some o from h)
        obtain ⟨k,hk⟩:=h35 [] L L l i false i o1 (Nret L l o) hL hlt (Nat.zero_le _) h1 (fun j2 b2 zs hs=>SR.node (g:=fun l=>mk 35 eB l) (fun r x e=>by subst e;exact (Option.some.inj h2).symm) (fun r e=>by subst e;exact h2) hs)
        exact bcond_f rfl ⟨k,hk⟩
    · rw [c1] at h
      obtain ⟨rfl,hlt⟩:=op_lt c1
      obtain ⟨o1,h1,h2⟩:=rb_bind (show runB ((go n (.elems true)).bind fun (l : List Nd)=>.ret (mk 36 eB l)) l i false = some o from h)
      obtain ⟨k,hk⟩:=h36 [] L L l i false i o1 (Nret L l o) hL hlt (Nat.zero_le _) h1 (fun j2 b2 zs hs=>SR.node (g:=fun l=>mk 36 eB l) (fun r x e=>by subst e;exact (Option.some.inj h2).symm) (fun r e=>by subst e;exact h2) hs)
      exact bcond_t rfl ⟨k,hk⟩
  · rw [c5] at h
    obtain ⟨rfl,hlt⟩:=tok_lt (l:=l) (i:=i) (b:=b) (by rw [eq_of_beq c5];decide)
    exact bcond_t rfl ⟨_,_,_,next_ok L (by omega),_,_,tok_ok hL i false,⟨by omega,cut_le hL hlt (.inr (eq_of_beq c5))⟩,rb_ret hlt (rb_move h)⟩
end Go.Proofs.Ythadnhpkeljdoaa.pv
namespace Go.Proofs.Ythadnhpkeljdoaa.pv
open Go.RowKit nd pa pr
def plains : List pa.Tk → List Nd
  | []=>[]
  | t :: r=>if t.1 == 8 then mk 7 t.2 [] :: plains r else []
def skips : List pa.Tk → List pa.Tk
  | []=>[]
  | t :: r=>if t.1 == 8 then skips r else t :: r
theorem plainL_run : ∀ (n : Nat) (r : List pa.Tk) (o : Out (List Nd)),(go n .plainL).run r = some o → o = .ok (skips r) (plains r) ∧ (plains r).length < n:=by
  intro n
  induction n with
  | zero=>intro r o h;cases h
  | succ n ih =>
    intro r o h
    cases r with
    | nil=>cases h;exact ⟨rfl,Nat.succ_pos n⟩
    | cons t r =>
      have h : (if t.1 == 8 then Pa.move ((go n .plainL).bind fun (l : List Nd)=>.ret (mk 7 t.2 [] :: l)) else .ret ([] : List Nd)).run (t :: r) = some o:=h
      unfold skips plains
      cases c : t.1 == 8
      · rw [c] at h;cases h;exact ⟨rfl,Nat.succ_pos n⟩
      · rw [c] at h
        have h : ((go n .plainL).bind fun (l : List Nd)=>.ret (mk 7 t.2 [] :: l)).run r = some o:=h
        rw [Pa.run_bind] at h
        cases hr : (go n .plainL).run r with
        | none=>rw [hr] at h;cases h
        | some o1 =>
          obtain ⟨e1,e2⟩:=ih r o1 hr
          rw [hr,e1] at h
          cases h
          exact ⟨rfl,Nat.succ_lt_succ e2⟩
theorem strL_run : ∀ (n : Nat) (r : List pa.Tk),(plains r).length < n → (pa.tok (skips r)).1 = 11 → (go n .strL).run r = some (.ok (skips r) (plains r)):=by
  intro n
  induction n with
  | zero=>intro r h;omega
  | succ n ih =>
    intro r h he
    cases r with
    | nil=>exact absurd he (by decide)
    | cons t r =>
      unfold plains at h ⊢
      unfold skips at he ⊢
      show (if t.1 == 11 then Pa.ret ([] : List Nd) else if t.1 == 8 then .move ((go n .strL).bind fun (l : List Nd)=>.ret (mk 7 t.2 [] :: l)) else _).run (t :: r) = _
      cases c : t.1 == 8
      · rw [c] at he
        have c11 : (t.1 == 11) = true:=beq_iff_eq.2 he
        rw [c11];rfl
      · rw [c] at he h
        have c11 : (t.1 == 11) = false:=by rw [eq_of_beq c];rfl
        rw [c11]
        show ((go n .strL).bind fun (l : List Nd)=>.ret (mk 7 t.2 [] :: l)).run r = _
        rw [Pa.run_bind,ih r (by simp at h;omega) he]
        rfl
theorem strL_end : ∀ (n : Nat) (r : List pa.Tk),(plains r).length < n → skips r = [] → (go n .strL).run r = some (.bad []):=by
  intro n
  induction n with
  | zero=>intro r h;omega
  | succ n ih =>
    intro r h he
    cases r with
    | nil=>rfl
    | cons t r =>
      unfold plains at h
      unfold skips at he
      show (if t.1 == 11 then Pa.ret ([] : List Nd) else if t.1 == 8 then .move ((go n .strL).bind fun (l : List Nd)=>.ret (mk 7 t.2 [] :: l)) else _).run (t :: r) = _
      cases c : t.1 == 8
      · rw [c] at he;cases he
      · rw [c] at he h
        have c11 : (t.1 == 11) = false:=by rw [eq_of_beq c];rfl
        rw [c11]
        show ((go n .strL).bind fun (l : List Nd)=>.ret (mk 7 t.2 [] :: l)).run r = _
        rw [Pa.run_bind,ih r (by simp at h;omega) he]
def tailB (t : ByteArray) (x : Nd) : Pa Nd :=
  if t = winclude then need semi (.ret (mk 33 t [x]))
  else need was (.look fun u=>if u.1 == 5 then .move (need semi (.ret (mk 33 t [x,mk 4 (cut u.2) []]))) else name fun s=>need semi (.ret (mk 33 t [x,mk 31 s []])))
theorem tail_b (X : ExtO) {L : List (List D)} {l : List pa.Tk} {j : Nat} {b : Bool} {o : Out Nd} {t : ByteArray} {x : Nd} (hL : Its L l) (hj : j ≤ l.length) (h : runB (tailB t x) l j b = some o) :
    bcond (t.toList == (⟨#[105,110,99,108,117,100,101]⟩ : ByteArray).toList)
      (∃ es_2 n_3 b_1,Ok Try.prog 67 [pD L j b,dS (⟨#[59]⟩ : ByteArray)] [.agg [dL es_2,dI n_3,dB b_1]] ∧ Nret L l o [.agg [dL es_2,dI n_3,dB b_1],.agg [dI 33,dS t,dL [[dI x.k,dS x.t,dL (foD x.kids)]]]])
      (∃ es_2 n_3 b_1,Ok Try.prog 67 [pD L j b,dS (⟨#[97,115]⟩ : ByteArray)] [.agg [dL es_2,dI n_3,dB b_1]] ∧ ∃ n s_1,Ok Try.prog 64 [.agg [dL es_2,dI n_3,dB b_1]] [.agg [dI n,dS s_1]] ∧ bcond (n == (5 : Int))
        (∃ n s_2,Ok Try.prog 64 [.agg [dL es_2,dI n_3,dB b_1]] [.agg [dI n,dS s_2]] ∧ ((0 : Int) ≤ (1 : Int) ∧ (1 : Int) ≤ (Int.ofNat s_2.size)) ∧ (1 = 1 ∧ (∀ (c : List D),c ∈ [[dI 4,dS (s_2.extract 1 s_2.size),dL []]] → c.length = 3) ∧ 2 ≤ 16777216) ∧ ∃ es n b,Ok Try.prog 65 [.agg [dL es_2,dI n_3,dB b_1]] [.agg [dL es,dI n,dB b]] ∧ ∃ es_3 n_4 b_2,Ok Try.prog 67 [.agg [dL es,dI n,dB b],dS (⟨#[59]⟩ : ByteArray)] [.agg [dL es_3,dI n_4,dB b_2]] ∧ Nret L l o [.agg [dL es_3,dI n_4,dB b_2],.agg [dI 33,dS t,dL [[dI x.k,dS x.t,dL (foD x.kids)],[dI 4,dS (s_2.extract 1 s_2.size),dL []]]]])
        (∃ es n b s_2,Ok Try.prog 68 [.agg [dL es_2,dI n_3,dB b_1]] [.agg [dL es,dI n,dB b],dS s_2] ∧ (1 = 1 ∧ (∀ (c : List D),c ∈ [[dI 31,dS s_2,dL []]] → c.length = 3) ∧ 2 ≤ 16777216) ∧ ∃ es_3 n_4 b_2,Ok Try.prog 67 [.agg [dL es,dI n,dB b],dS (⟨#[59]⟩ : ByteArray)] [.agg [dL es_3,dI n_4,dB b_2]] ∧ Nret L l o [.agg [dL es_3,dI n_4,dB b_2],.agg [dI 33,dS t,dL [[dI x.k,dS x.t,dL (foD x.kids)],[dI 31,dS s_2,dL []]]]])):=by
  have hf:=hL.few
  unfold tailB at h
  by_cases ci : t = winclude
  · rw [if_pos ci] at h
    obtain ⟨j2,b2,ok2,hj2,h⟩:=rb_need hL hj h
    exact bcond_t (beq_t ci) ⟨_,_,_,ok2,rb_ret hj2 h⟩
  · rw [if_neg ci] at h
    obtain ⟨j2,b2,ok2,hj2,h⟩:=rb_need hL hj h
    have h:=rb_look h
    refine bcond_f (beq_f ci) ⟨_,_,_,ok2,_,_,tok_ok hL j2 b2,?_⟩
    cases c5 : (tokB l j2 b2).1 == 5
    · rw [c5] at h
      obtain ⟨j3,b3,s,ok3,hj3,h⟩:=rb_name X hL hj2 (show runB (name fun s=>need semi (.ret (mk 33 t [x,mk 31 s []]))) l j2 b2 = some o from h)
      obtain ⟨j4,b4,ok4,hj4,h⟩:=rb_need hL hj3 h
      exact bcond_f rfl ⟨_,_,_,_,ok3,⟨rfl,by simp,by decide⟩,_,_,_,ok4,rb_ret hj4 h⟩
    · rw [c5] at h
      obtain ⟨rfl,hlt⟩:=tok_lt (l:=l) (i:=j2) (b:=b2) (by rw [eq_of_beq c5];decide)
      obtain ⟨j4,b4,ok4,hj4,h⟩:=rb_need hL hlt (rb_move h)
      exact bcond_t rfl ⟨_,_,tok_ok hL j2 false,⟨by omega,cut_le hL hlt (.inr (eq_of_beq c5))⟩,⟨rfl,by simp,by decide⟩,_,_,_,next_ok L (by omega),_,_,_,ok4,rb_ret hj4 h⟩
theorem bring_loop (X : ExtO) {n : Nat} (hs : NodeO (go (n + 2) .str) 66 []) {L : List (List D)} {l : List pa.Tk} {q : Nat} {t : ByteArray} {o : Out Nd} (L0 : List (List D)) (i0 : Int) (b0 : Bool) (hL : Its L l) (hq : q < l.length) (h7 : (tokB l q false).1 = 7)
    (hn : (plains (l.drop (q + 1))).length < n) (h : (one 11 (tailB t (mk 6 eB (plains (l.drop (q + 1)))))).run (skips (l.drop (q + 1))) = some o) :
    ∀ (d j : Nat),l.length - j = d → q < j → j ≤ l.length → skips (l.drop (q + 1)) = skips (l.drop j) →
    ∃ k,L_bring_6_21 L0 i0 b0 (Nret L l o) k [.ptr 1 0,.ptr 2 0,.ptr 7 0,.ptr 11 0,dI (j : Int),.sl .nil [],dI 0,dB false,dI 0,dS ⟨#[]⟩,.sl .nil [],dI 33,dS t,dL [],dL L,dI (q : Int),dB false]:=by
  have hf:=hL.few
  have hlen:=hL.len
  have h7' : ((tokB l q false).1 == 12) = false:=by rw [h7];rfl
  have estr : ∀ (g : Nd → Pa Nd),runB ((go (n + 2) .str).bind g) l q false = ((one 7 ((go n .strL).bind fun (x : List Nd)=>one 11 (.ret (mk 6 eB x)))).bind g).run (l.drop q):=by
    intro g
    show ((if (tokB l q false).1 == 12 then Pa.move (go (n + 1) (.strF (tokB l q false).2)) else go (n + 1) (.strF eB)).bind g).run (l.drop q) = _
    rw [h7'];rfl
  have e7 : ((tokB l q false).1 == 7) = true:=by rw [h7];rfl
  have estr2 : ∀ (g : Nd → Pa Nd),runB ((go (n + 2) .str).bind g) l q false = (((go n .strL).bind fun (x : List Nd)=>one 11 (.ret (mk 6 eB x))).bind g).run (l.drop (q + 1)):=by
    intro g
    rw [estr]
    show ((if (tokB l q false).1 == 7 then Pa.move ((go n .strL).bind fun (x : List Nd)=>one 11 (.ret (mk 6 eB x))) else .bad).bind g).run (l.drop q) = _
    rw [e7]
    show (((go n .strL).bind fun (x : List Nd)=>one 11 (.ret (mk 6 eB x))).bind g).run (l.drop q).tail = _
    rw [List.tail_drop]
  intro d
  induction d with
  | zero =>
    intro j hd hqj hj hsk
    have hsk : skips (l.drop (q + 1)) = []:=by rw [hsk,List.drop_eq_nil_of_le (by omega)];rfl
    have hr : runB ((go (n + 2) .str).bind fun x=>tailB t x) l q false = some o:=by
      rw [estr2,Pa.run_bind,Pa.run_bind,strL_end n _ hn hsk]
      rw [hsk] at h
      exact h
    obtain ⟨j2,b2,y,ok2,hj2,h⟩:=hs.next hL (by omega) hr
    refine ⟨0 + 1,?_⟩
    rw [l_bring_6_21]
    exact bcond_f (decide_eq_false (by simp only [Int.ofNat_eq_natCast];omega)) ⟨_,_,_,_,_,_,ok2,tail_b X hL hj2 h⟩
  | succ d ih =>
    intro j hd hqj hj hsk
    have hlt : j < l.length:=by omega
    obtain ⟨a,es,e⟩:=hL.item j l[j] (by simp)
    have hdr:=List.drop_eq_getElem_cons hlt
    cases c11 : l[j].1 == 11
    · cases c8 : l[j].1 == 8
      ·
        have hsk2 : skips (l.drop (q + 1)) = l.drop j:=by
          rw [hsk,hdr];unfold skips;rw [c8];rfl
        rw [hsk2] at h
        have h : runB (.look fun u=>if u.1 == 11 then Pa.move (tailB t (mk 6 eB (plains (l.drop (q + 1))))) else .bad) l j false = some o:=h
        have h:=rb_look h
        rw [show tokB l j false = l[j] from tok_at hlt,c11] at h
        have h:=rb_bad h
        refine ⟨0 + 1,?_⟩
        rw [l_bring_6_21]
        refine bcond_t (decide_eq_true (by simp only [Int.ofNat_eq_natCast];omega)) ⟨by omega,_,_,_,_,e,bcond_t (by rw [bne,c11];rfl) ⟨by omega,_,_,_,_,e,bcond_t (by rw [bne,c8];rfl) ⟨_,_,_,wrong_ok L j false,?_⟩⟩⟩
        rw [h]
        exact ⟨j,true,mk 33 t [],rfl,hj,rfl,rfl⟩
      · have hsk2 : skips (l.drop (q + 1)) = skips (l.drop (j + 1)):=by
          rw [hsk,hdr];conv=>lhs;unfold skips
          rw [c8];rfl
        obtain ⟨k,hk⟩:=ih (j + 1) (by omega) (by omega) hlt hsk2
        refine ⟨k + 1,?_⟩
        rw [l_bring_6_21]
        refine bcond_t (decide_eq_true (by simp only [Int.ofNat_eq_natCast];omega)) ⟨by omega,_,_,_,_,e,bcond_t (by rw [bne,c11];rfl) ⟨by omega,_,_,_,_,e,bcond_f (by rw [bne,c8];rfl) ⟨rfl,?_⟩⟩⟩
        rw [show ((j : Int) + (1 : Int)) = ((j + 1 : Nat) : Int) by omega,Lib.wrap_i64_small _ (by omega)]
        exact hk
    ·
      have c8 : (l[j].1 == 8) = false:=by rw [eq_of_beq c11];rfl
      have hsk2 : skips (l.drop (q + 1)) = l.drop j:=by
        rw [hsk,hdr];unfold skips;rw [c8];rfl
      have hr : runB ((go (n + 2) .str).bind fun x=>tailB t x) l q false = some o:=by
        rw [estr2,Pa.run_bind,Pa.run_bind,strL_run n _ hn (by rw [hsk2,hdr];exact eq_of_beq c11)]
        rw [hsk2,hdr] at h ⊢
        have h : (if l[j].1 == 11 then Pa.move (tailB t (mk 6 eB (plains (l.drop (q + 1))))) else .bad).run (l[j] :: l.drop (j + 1)) = some o:=h
        have e11 : (one 11 (Pa.ret (mk 6 eB (plains (l.drop (q + 1)))))).run (l[j] :: l.drop (j + 1)) = some (.ok (l.drop (j + 1)) (mk 6 eB (plains (l.drop (q + 1))))):=by
          show (if l[j].1 == 11 then Pa.move (.ret (mk 6 eB (plains (l.drop (q + 1))))) else .bad : Pa Nd).run (l[j] :: l.drop (j + 1)) = _
          rw [c11];rfl
        rw [c11] at h
        dsimp only
        rw [e11]
        exact h
      obtain ⟨j2,b2,y,ok2,hj2,h⟩:=hs.next hL (by omega) hr
      refine ⟨0 + 1,?_⟩
      rw [l_bring_6_21]
      exact bcond_t (decide_eq_true (by simp only [Int.ofNat_eq_natCast];omega)) ⟨by omega,_,_,_,_,e,bcond_f (by rw [bne,c11];rfl) ⟨_,_,_,_,_,_,ok2,tail_b X hL hj2 h⟩⟩
theorem bring_eq {n : Nat} : go (n + 1) .bring = .look fun t=>.move (one 7 ((go n .plainL).bind fun (l : List Nd)=>one 11 (tailB t.2 (mk 6 eB l)))):=rfl
theorem bring_ok (X : ExtO) {n : Nat} (hs : NodeO (go (n + 2) .str) 66 []) : NodeQ (go (n + 1) .bring) 47 []:=by
  intro L l i o hL hlt h
  have hf:=hL.few
  rw [bring_eq] at h
  have h:=rb_look (rb_move (rb_look h))
  refine o_bring ⟨_,_,tok_ok hL i false,_,_,_,next_ok L (by omega),_,_,tok_ok hL (i + 1) false,?_⟩
  cases c7 : (tokB l (i + 1) false).1 == 7
  · rw [c7] at h
    rw [rb_bad h]
    exact bcond_t (by rw [bne,c7];rfl) ⟨_,_,_,wrong_ok L (i + 1) false,i + 1,true,mk 33 (tokB l i false).2 [],rfl,hlt,rfl,rfl⟩
  · rw [c7] at h
    obtain ⟨_,hlt2⟩:=tok_lt (l:=l) (i:=i + 1) (b:=false) (by rw [eq_of_beq c7];decide)
    obtain ⟨o1,h1,h2⟩:=rb_bind (rb_move h)
    obtain ⟨e1,e2⟩:=plainL_run n (l.drop (i + 1 + 1)) o1 h1
    subst e1
    obtain ⟨k,hk⟩:=bring_loop X hs (t:=(tokB l i false).2) L i false hL hlt2 (eq_of_beq c7) e2 h2 _ (i + 1 + 1) rfl (by omega) hlt2 rfl
    refine bcond_f (by rw [bne,c7];rfl) ⟨k,?_⟩
    rw [show (((i + 1 : Nat) : Int) + (1 : Int)) = ((i + 1 + 1 : Nat) : Int) by omega,Lib.wrap_i64_small _ (by omega)]
    exact hk
end Go.Proofs.Ythadnhpkeljdoaa.pv
