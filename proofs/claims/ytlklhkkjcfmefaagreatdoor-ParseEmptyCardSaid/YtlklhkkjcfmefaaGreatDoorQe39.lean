/- Ground of the law: PaTie3, PaItems, PaTie4, PaTie6, PaTie5, PaTie7, PaTie8, PaTie9, PaTieA, PaTieB, PaTieC, PaTieD. -/
import Derived.Test.YtlklhkkjcfmefaaGreatDoorQe38
import Derived.Test.YtlklhkkjcfmefaaGreatDoorQe36
import Derived.Test.YtlklhkkjcfmefaaGreatDoorQe11
import Derived.Test.YtlklhkkjcfmefaaGreatDoorQe09
import Derived.Test.YtlklhkkjcfmefaaGreatDoorQe17
import Derived.Test.YtlklhkkjcfmefaaGreatDoorQe37
import Derived.Test.YtlklhkkjcfmefaaGreatDoorQe20
import Derived.Test.YtlklhkkjcfmefaaGreatDoorQe35
import Derived.Test.YtlklhkkjcfmefaaGreatDoorQe26
import Derived.Test.YtlklhkkjcfmefaaGreatDoorQe30
set_option maxRecDepth 100000
set_option maxHeartbeats 8000000
set_option linter.unusedVariables false
set_option linter.unusedSimpArgs false
namespace Go.Proofs.YtlklhkkjcfmefaaGreatDoor.pa
open Go.RowKit nd pr
theorem need_then {α β : Type} (s : ByteArray) (k : Pa α) (f : α → Pa β) : (need s k).bind f = need s (k.bind f):=by
 refine congrArg Pa.look (funext fun t=>?_)
 rw [ite_bind];rfl
theorem At.bindG {α β : Type} {P : α → Prop} {r : List Tk} {p q : Pa α} {f g : α → Pa β} (hr : Fits r) (hP : Gives P p) (h : At r p q) (hf : ∀ x r',P x → Fits r' → At r' (f x) (g x)) : At r (p.bind f) (q.bind g):=by
 intro o e
 obtain ⟨o1,h1,h2⟩:=bind_run e
 rw [Pa.run_bind,h o1 h1]
 cases o1 with
 | bad r'=>exact h2
 | ok r' x=>exact hf x r' (hP _ _ _ h1) (hr.suf (Pa.rest _ h1)) o h2
theorem at_need {α : Type} {r : List Tk} {s : ByteArray} {p q : Pa α} (h : At r.tail p q) : At r (need s p) (need s q):=At.look (At.ite (fun _=>At.move h) (fun _=>At.refl _ _))
theorem at_lookR {α : Type} {r : List Tk} {p : Pa α} {k : Tk → Pa α} (h : At r p (k (tok r))) : At r p (.look k):=h
theorem at_needed {α : Type} {r : List Tk} {s : ByteArray} {p q : Pa α} (hs : op s (tok r) = true) (h : At r.tail p q) : At r (need s p) (.move q):=by
 intro o e
 refine h o ?_
 have e2 : (if op s (tok r) || word s (tok r) then Pa.move p else .bad).run r = some o:=e
 rw [hs,Bool.true_or,if_pos rfl] at e2
 exact e2
def withP (q : Pa Nd) (x : Nd) (d : ByteArray) : Pa Nd:=need lbr (.look fun t=>if op rbr t = true then .move (.ret (mk 20 d [x])) else .look fun t=>if op colon t = true then .move ((q.bind fun y=>need rbr (.ret y)).bind fun y=>.ret (mk 19 d [x,none0,y])) else q.bind fun f=>.look fun t=>if op rbr t = true then .move (.ret (mk 18 d [x,f])) else need colon (.look fun t=>if op rbr t = true then .move (.ret (mk 19 d [x,f,none0])) else (q.bind fun y=>need rbr (.ret y)).bind fun y=>.ret (mk 19 d [x,f,y])))
theorem end_bind (q : Pa Nd) (g : Nd → Nd) : ((q.bind fun y=>need rbr (.ret y)).bind fun y=>.ret (g y)) = q.bind fun y=>need rbr (.ret (g y)):=by
 rw [bind_assoc]
 exact congrArg q.bind (funext fun y=>need_then _ _ _)
theorem slice_none {n k : Nat} (hk : k ≤ n) (x : Nd) (d : ByteArray) {r : List Tk} (hr : Fits r) (hc : op colon (tok r) = true) :
  At r (go k (.slice x none0 d) : Pa Nd) (.move (((go n (.exp 1) : Pa Nd).bind fun y=>need rbr (.ret y)).bind fun y=>.ret (mk 19 d [x,none0,y]))):=by
 cases k with
 | zero=>exact At.out _
 | succ k =>
  show At r (step (go k) (.slice x none0 d)) _
  unfold step
  refine at_needed hc ?_
  rw [end_bind (go n (.exp 1)) (fun y=>mk 19 d [x,none0,y])]
  intro o e
  have e2 : ((go k (.exp 1) : Pa Nd).bind fun y=>need rbr (.ret (mk 19 d [x,none0,y]))).run r.tail = some o:=e
  exact At.bind hr.tail (Sb.go (by omega) _ _ hr.tail) (fun y r' hr'=>At.refl _ _) o e2
theorem slice_some {n k : Nat} (hk : k ≤ n) (x f : Nd) (hf : f.k ≠ 0) (d : ByteArray) {r : List Tk} (hr : Fits r) :
  At r (go k (.slice x f d) : Pa Nd) (need colon (.look fun t=>if op rbr t = true then .move (.ret (mk 19 d [x,f,none0])) else ((go n (.exp 1) : Pa Nd).bind fun y=>need rbr (.ret y)).bind fun y=>.ret (mk 19 d [x,f,y]))):=by
 cases k with
 | zero=>exact At.out _
 | succ k =>
  show At r (step (go k) (.slice x f d)) _
  unfold step
  refine at_need (At.look ?_)
  rw [end_bind (go n (.exp 1)) (fun y=>mk 19 d [x,f,y]),show (f.k == 0) = false from by simpa using hf,Bool.false_or]
  cases hc : op rbr (tok r.tail) with
  | true=>exact at_needed hc (At.refl _ _)
  | false=>exact At.bind hr.tail (Sb.go (by omega) _ _ hr.tail) (fun y r' hr'=>At.refl _ _)
theorem within_tie {n k : Nat} (hk : k ≤ n) (x : Nd) (d : ByteArray) : Sb (go k (.within x d) : Pa Nd) (withP (go n (.exp 1)) x d):=by
 cases k with
 | zero=>exact Sb.out _
 | succ k =>
  intro r hr
  show At r (step (go k) (.within x d)) _
  unfold step withP
  refine at_need (At.look (At.ite (fun _=>At.refl _ _) fun _=>at_lookR ?_))
  refine At.ite (fun hc=>slice_none (by omega) x d hr.tail hc) fun _=>?_
  refine At.bindG hr.tail (go_kind k (.exp 1)) (Sb.go (by omega) _ _ hr.tail) (fun f r' hf hr'=>?_)
  exact At.look (At.ite (fun _=>At.refl _ _) fun _=>slice_some (by omega) x f hf d hr')
theorem within_tail {q : Pa Nd} {x y : Nd} {d : ByteArray} {r r' : List Tk} (h : (withP q x d).run r = some (.ok r' y)) : r'.length ≤ r.tail.length:=by
 unfold withP at h
 have h2 : (if op lbr (tok r) || word lbr (tok r) then Pa.move _ else .bad).run r = some (.ok r' y):=h
 split at h2
 ·exact Pa.shorter _ (r:=r.tail) h2
 ·cases h2
theorem op_other {s s' : ByteArray} {t : Tk} (h : op s t = true) (hne : s' ≠ s) : op s' t = false:=by
 have h2:=op_text h
 unfold op
 rw [h2,decide_eq_false (fun e=>hne e.symm),Bool.and_false]
theorem poL_tie {n : Nat} : ∀ k,k ≤ n → ∀ (x : Nd),Sb (go k (.postL x) : Pa Nd) (poL (withP (go n (.exp 1))) (go n .str) k x)
 | 0,_,_=>Sb.out _
 | k + 1,hk,x=>fun r hr=>by
  have ih:=fun x=>poL_tie (n:=n) k (by omega) x
  show At r (step (go k) (.postL x)) _
  unfold step poL
  refine At.look ?_
  obtain ⟨t,ht⟩ : ∃ t,tok r = t:=⟨_,rfl⟩
  rw [ht]
  cases h4 : (t.1 == 4) with
  | true =>
   rw [if_pos rfl,if_pos rfl]
   intro o e
   have e1 : (go k (.postL (mk 21 (cut t.2) [x])) : Pa Nd).run r.tail = some o:=e
   have e2:=ih (mk 21 (cut t.2) [x]) r.tail hr.tail o e1
   have e3 : (cutP 4).run r = some (.ok r.tail (cut t.2)):=by
    unfold cutP
    rw [run_look,ht,h4,if_pos rfl];rfl
   rw [bind_ok e3]
   exact e2
  | false =>
   rw [if_neg Bool.false_ne_true,if_neg Bool.false_ne_true]
   cases hq : op quest t with
   | true =>
    rw [op_other hq (show dot ≠ quest by decide),op_other hq (show lbr ≠ quest by decide),if_pos rfl,if_neg Bool.false_ne_true,if_neg Bool.false_ne_true,if_pos rfl]
    exact At.move (ih _ _ hr.tail)
   | false =>
    rw [if_neg Bool.false_ne_true]
    cases hl : op lbr t with
    | true =>
     rw [op_other hl (show dot ≠ lbr by decide),if_pos rfl,if_neg Bool.false_ne_true,if_pos rfl]
     exact At.bind hr (within_tie (by omega) _ _ _ hr) (fun y r' hr'=>ih _ _ hr')
    | false =>
     rw [if_neg Bool.false_ne_true]
     cases hd : op dot t with
     | true =>
      rw [if_pos rfl,if_pos rfl]
      intro o e
      refine (?_ : At r (Pa.move (Pa.look fun u=>if op lbr u = true then (go k (.within x dot) : Pa Nd).bind fun y=>go k (.postL y) else (go k .str : Pa Nd).bind fun y=>go k (.postL (mk 22 eB [x,y])))) _) o e
      have ht0 : ¬ t.1 = 0:=op_kind hd
      have htx : t.2 = dot:=op_text hd
      refine At.trans (q:=(Pa.move (Pa.look fun u=>if op lbr u = true then withP (go n (.exp 1)) x dot else (go n .str : Pa Nd).bind fun y=>.ret (mk 22 eB [x,y]))).bind (poL (withP (go n (.exp 1))) (go n .str) k)) ?_ ?_
      ·refine At.move (At.look ?_)
       dsimp only
       cases hu : op lbr (tok r.tail) with
       | true =>
        rw [if_pos rfl,if_pos rfl]
        exact At.bind hr.tail (within_tie (n:=n) (k:=k) (by omega) x dot _ hr.tail) (fun y r' hr'=>ih _ _ hr')
       | false =>
        rw [if_neg Bool.false_ne_true,if_neg Bool.false_ne_true,bind_assoc]
        exact At.bind hr.tail (Sb.go (by omega) _ _ hr.tail) (fun y r' hr'=>ih _ _ hr')
      ·refine At.bind hr (at_lookR ?_) (fun _ _ _=>At.refl _ _)
       rw [ht,if_neg ht0,htx]
       exact At.refl _ _
     | false =>
      rw [if_neg Bool.false_ne_true,if_neg Bool.false_ne_true,if_neg Bool.false_ne_true,if_neg Bool.false_ne_true]
      exact At.refl _ _
theorem post_tie (n : Nat) : Sb (go (n + 1) .post : Pa Nd) ((go n .term : Pa Nd).bind fun x=>poL (withP (go n (.exp 1))) (go n .str) n x):=by
 show Sb (step (go n) .post) _
 unfold step
 exact Sb.bind (Sb.refl _) (fun x=>poL_tie n (Nat.le_refl _) x)
end Go.Proofs.YtlklhkkjcfmefaaGreatDoor.pa
namespace Go.Proofs.YtlklhkkjcfmefaaGreatDoor.pa
open Go.RowKit nd pr
open lx (asTk sizeT)
open it (idleB aheadU runsFrom runsU aheadU_cons)
def itemOf (x : it.Run) : Tk × Nat:=(x.l.headD (0,⟨#[]⟩),x.at')
theorem items_from (l : List Lx.Tok) : ∀ p k,itemsP p l = (runsFrom (p + sizeT ((l.map asTk).take (aheadU (l.map asTk)))) (k + aheadU (l.map asTk)) ((l.map asTk).drop (aheadU (l.map asTk)))).map itemOf:=by
 induction l with
 | nil=>intro p k;rw [List.map_nil,List.drop_nil,runsFrom];rfl
 | cons t r ih =>
  intro p k
  rw [List.map_cons,aheadU_cons]
  have hsz : (asTk t).2.size = t.2.length:=by show t.2.toArray.size = _;rw [List.size_toArray]
  have hsc : ∀ m : List Tk,sizeT (asTk t :: m) = t.2.length + sizeT m:=fun m=>by
   show ((asTk t :: m).map (·.2.size)).sum = _
   rw [List.map_cons,List.sum_cons,hsz];rfl
  by_cases h : idleB t.1 = true
  ·have h2 : idleB (asTk t).1 = true:=h
   have h3 : (t.1 == 1 || t.1 == 2) = true:=h
   rw [h2,if_pos rfl,List.take_succ_cons,List.drop_succ_cons,itemsP,if_pos h3,ih (p + t.2.length) (k + 1)]
   rw [hsc,show p + (t.2.length + sizeT ((r.map asTk).take (aheadU (r.map asTk)))) = p + t.2.length + sizeT ((r.map asTk).take (aheadU (r.map asTk))) by omega,show k + (aheadU (r.map asTk) + 1) = k + 1 + aheadU (r.map asTk) by omega]
  ·have h2 : idleB (asTk t).1 = false:=by simpa using h
   have h3 : (t.1 == 1 || t.1 == 2) = false:=h2
   rw [h2,if_neg Bool.false_ne_true,List.take_zero,List.drop_zero,itemsP,h3,if_neg Bool.false_ne_true,runsFrom,List.map_cons,ih (p + t.2.length) (k + 1)]
   simp only [show sizeT ([] : List Tk) = 0 from rfl,Nat.add_zero]
   rw [hsc,show p + (t.2.length + sizeT ((r.map asTk).take (aheadU (r.map asTk)))) = p + t.2.length + sizeT ((r.map asTk).take (aheadU (r.map asTk))) by omega,show k + (1 + aheadU (r.map asTk)) = k + 1 + aheadU (r.map asTk) by omega]
   rfl
theorem items_of (l : List Lx.Tok) : itemsP 0 l = (runsU (l.map asTk)).map itemOf:=by
 rw [items_from l 0 0]
 unfold runsU
 rw [Nat.zero_add,Nat.zero_add]
theorem items_toks (l : List Lx.Tok) : ∀ p,∀ t ∈ (itemsP p l).map (·.1),∃ u ∈ l,t = asT u:=by
 induction l with
 | nil=>intro p t ht;cases ht
 | cons a r ih =>
  intro p t ht
  unfold itemsP at ht
  split at ht
  ·obtain ⟨u,hu,e⟩:=ih _ t ht
   exact ⟨u,List.mem_cons_of_mem _ hu,e⟩
  ·rw [List.map_cons] at ht
   rcases List.mem_cons.1 ht with rfl | ht
   ·exact ⟨a,List.mem_cons_self,rfl⟩
   ·obtain ⟨u,hu,e⟩:=ih _ t ht
    exact ⟨u,List.mem_cons_of_mem _ hu,e⟩
theorem items_len (l : List Lx.Tok) : ∀ p,(itemsP p l).length ≤ l.length:=by
 induction l with
 | nil=>intro p;exact Nat.le_refl _
 | cons a r ih =>
  intro p
  unfold itemsP
  split
  ·have:=ih (p + a.2.length);rw [List.length_cons];omega
  ·have:=ih (p + a.2.length);rw [List.length_cons,List.length_cons];omega
theorem items_fit (l : List UInt8) (hl : l.length ≤ 65536) : ∀ t ∈ (itemsP 0 (Lx.lexA Lx.start l).1).map (·.1),FitT t:=by
 intro t ht
 obtain ⟨u,hu,rfl⟩:=items_toks _ 0 t ht
 exact lex_fit Lx.start l (by omega) u hu
end Go.Proofs.YtlklhkkjcfmefaaGreatDoor.pa
namespace Go.Proofs.YtlklhkkjcfmefaaGreatDoor.pa
open Go.RowKit nd pr
theorem list_tie {α : Type} {n : Nat} {R : Nat → Pa (List α)} {e : Nat → Pa α} {q : Pa α} {sep : Tk → Bool} {e1 : ByteArray} (h0 : R 0 = .out)
  (hR : ∀ k,R (k + 1) = .move ((e k).bind fun x=>.look fun t=>if sep t = true then (R k).bind fun l=>.ret (x :: l) else need e1 (.ret [x]))) (he : ∀ k,k ≤ n → Sb (e k) q) :
  ∀ k,k ≤ n → Sb (R k) (.move ((listP q sep k).bind fun l=>need e1 (.ret l)))
 | 0,_=>by rw [h0];exact Sb.out _
 | k + 1,hk=>fun r hr=>by
  have ih:=list_tie h0 hR he k (by omega)
  rw [hR k]
  refine At.move ?_
  show At r.tail _ ((q.bind fun x=>Pa.look fun t=>if sep t = true then .move ((listP q sep k).bind fun l=>.ret (x :: l)) else .ret [x]).bind fun l=>need e1 (.ret l))
  rw [bind_assoc]
  refine At.bind hr.tail (he k (by omega) _ hr.tail) (fun x r' hr'=>?_)
  rw [look_bind]
  refine At.look ?_
  rw [ite_bind]
  refine At.ite (fun _=>?_) (fun _=>At.refl _ _)
  refine At.trans (At.bind hr' (ih r' hr') (fun l r2 hr2=>At.refl _ (.ret (x :: l)))) ?_
  show At r' (.move (((listP q sep k).bind fun l=>need e1 (.ret l)).bind fun l=>.ret (x :: l))) (.move (((listP q sep k).bind fun l=>.ret (x :: l)).bind fun l=>need e1 (.ret l)))
  rw [bind_assoc,bind_assoc]
  refine At.move ?_
  intro o ho
  rw [← ho]
  refine congrArg (fun f=>((listP q sep k).bind f).run r'.tail) (funext fun l=>?_)
  rw [need_then];rfl
theorem args_tie {n : Nat} : ∀ k,k ≤ n → Sb (go k .args : Pa (List Nd)) (.move ((listP (go n (.exp 1) : Pa Nd) (op semi) k).bind fun l=>need rpar (.ret l))) :=
 list_tie (R:=fun k=>(go k .args : Pa (List Nd))) (e:=fun k=>(go k (.exp 1) : Pa Nd)) rfl (fun _=>rfl) (fun k hk=>Sb.go hk _)
theorem elems_tie {n : Nat} : ∀ k,k ≤ n → Sb (go k (.elems false) : Pa (List Nd)) (.move ((listP (go n .pattern : Pa Nd) (op comma) k).bind fun l=>need rbr (.ret l))) :=
 list_tie (R:=fun k=>(go k (.elems false) : Pa (List Nd))) (e:=fun k=>(go k .pattern : Pa Nd)) rfl (fun _=>rfl) (fun k hk=>Sb.go hk _)
theorem keys_tie {n : Nat} : ∀ k,k ≤ n → Sb (go k (.elems true) : Pa (List Nd)) (.move ((listP (go n .keypat : Pa Nd) (op comma) k).bind fun l=>need rbrace (.ret l))) :=
 list_tie (R:=fun k=>(go k (.elems true) : Pa (List Nd))) (e:=fun k=>(go k .keypat : Pa Nd)) rfl (fun _=>rfl) (fun k hk=>Sb.go hk _)
end Go.Proofs.YtlklhkkjcfmefaaGreatDoor.pa
namespace Go.Proofs.YtlklhkkjcfmefaaGreatDoor.pa
open Go.RowKit nd pr
def pieceP (q : Pa Nd) : Pa Nd:=.look fun t=>if (t.1 == 8) = true then (ofP 8).bind (fun s=>.ret (mk 7 s [])) else (ofP 9).bind fun _=>q.bind fun x=>(ofP 10).bind fun _=>.ret x
def chunkP : Pa Nd:=(ofP 8).bind fun s=>.ret (mk 7 s [])
theorem ofP_run {kd : Int} {r : List Tk} (h : ((tok r).1 == kd) = true) : (ofP kd).run r = some (.ok r.tail (tok r).2):=by
 unfold ofP
 rw [run_look,h,if_pos rfl];rfl
theorem strL_tie {n : Nat} : ∀ k,k ≤ n → Sb (go k .strL : Pa (List Nd)) (quotL (pieceP (go n (.exp 1))) k)
 | 0,_=>Sb.out _
 | k + 1,hk=>fun r hr=>by
  have ih:=strL_tie (n:=n) k (by omega)
  show At r (step (go k) .strL) _
  unfold step quotL
  refine At.look (At.ite (fun _=>At.refl _ _) fun _=>?_)
  cases h8 : ((tok r).1 == 8) with
  | true =>
   rw [if_pos rfl]
   intro o ho
   have h1 : (pieceP (go n (.exp 1))).run r = some (.ok r.tail (mk 7 (tok r).2 [])):=by
    unfold pieceP
    rw [run_look,h8,if_pos rfl,bind_ok (ofP_run h8)];rfl
   rw [bind_ok h1]
   exact At.bind hr.tail (ih _ hr.tail) (fun l r' hr'=>At.refl _ _) o ho
  | false =>
   rw [if_neg Bool.false_ne_true]
   have h1 : At r (((ofP 9).bind fun _=>(go n (.exp 1) : Pa Nd).bind fun x=>(ofP 10).bind fun _=>.ret x).bind fun x=>(quotL (pieceP (go n (.exp 1))) k).bind fun l=>.ret (x :: l)) ((pieceP (go n (.exp 1))).bind fun x=>(quotL (pieceP (go n (.exp 1))) k).bind fun l=>.ret (x :: l)):=by
    refine At.bind hr ?_ (fun _ _ _=>At.refl _ _)
    unfold pieceP
    refine at_lookR ?_
    rw [h8,if_neg Bool.false_ne_true]
    exact At.refl _ _
   refine At.trans ?_ h1
   rw [one_bind,bind_assoc]
   refine At.bind hr (At.refl _ _) (fun _ r' hr'=>?_)
   rw [bind_assoc]
   refine At.bind hr' (Sb.go (by omega) _ _ hr') (fun x r2 hr2=>?_)
   rw [one_bind,bind_assoc]
   refine At.bind hr2 (At.refl _ _) (fun _ r3 hr3=>?_)
   rw [ret_bind]
   exact At.bind hr3 (ih _ hr3) (fun l r4 hr4=>At.refl _ _)
theorem strF_tie {n k : Nat} (hk : k ≤ n) (f : ByteArray) : Sb (go (k + 1) (.strF f) : Pa Nd) (quotP (pieceP (go n (.exp 1))) k f):=by
 intro r hr
 show At r (one 7 ((go k .strL : Pa (List Nd)).bind fun l=>one 11 (.ret (mk 6 f l)))) _
 unfold quotP
 rw [one_bind]
 refine At.bind hr (At.refl _ _) (fun _ r' hr'=>At.bind hr' (strL_tie k hk _ hr') (fun l r2 hr2=>?_))
 rw [one_bind 11]
 exact At.refl _ _
end Go.Proofs.YtlklhkkjcfmefaaGreatDoor.pa
namespace Go.Proofs.YtlklhkkjcfmefaaGreatDoor.pa
open Go.RowKit nd pr
theorem list_tie2 {α : Type} {n : Nat} {R : Nat → Pa (List α)} {e : Nat → Pa α} {q : Pa α} {sep : Tk → Bool} {e1 : ByteArray} (h0 : R 0 = .out)
  (hR : ∀ k,R (k + 1) = (e k).bind fun x=>.look fun t=>if sep t = true then .move ((R k).bind fun l=>.ret (x :: l)) else need e1 (.ret [x])) (he : ∀ k,k ≤ n → Sb (e k) q) :
  ∀ k,k ≤ n → Sb (R k) ((listP q sep k).bind fun l=>need e1 (.ret l))
 | 0,_=>by rw [h0];exact Sb.out _
 | k + 1,hk=>fun r hr=>by
  have ih:=list_tie2 h0 hR he k (by omega)
  rw [hR k]
  show At r _ ((q.bind fun x=>Pa.look fun t=>if sep t = true then .move ((listP q sep k).bind fun l=>.ret (x :: l)) else .ret [x]).bind fun l=>need e1 (.ret l))
  rw [bind_assoc]
  refine At.bind hr (he k (by omega) _ hr) (fun x r' hr'=>?_)
  rw [look_bind]
  refine At.look ?_
  rw [ite_bind]
  refine At.ite (fun _=>?_) (fun _=>At.refl _ _)
  refine At.move ?_
  refine At.trans (At.bind hr'.tail (ih r'.tail hr'.tail) (fun l r2 hr2=>At.refl _ (.ret (x :: l)))) ?_
  show At r'.tail (((listP q sep k).bind fun l=>need e1 (.ret l)).bind fun l=>.ret (x :: l)) (((listP q sep k).bind fun l=>.ret (x :: l)).bind fun l=>need e1 (.ret l))
  rw [bind_assoc,bind_assoc]
  intro o ho
  rw [← ho]
  refine congrArg (fun f=>((listP q sep k).bind f).run r'.tail) (funext fun l=>?_)
  rw [need_then];rfl
theorem pairs_tie {n : Nat} : ∀ k,k ≤ n → Sb (go k .pairs : Pa (List Nd)) ((listP (go n .pair : Pa Nd) (op comma) k).bind fun l=>need rbrace (.ret l)) :=
 list_tie2 (R:=fun k=>(go k .pairs : Pa (List Nd))) (e:=fun k=>(go k .pair : Pa Nd)) rfl (fun _=>rfl) (fun k hk=>Sb.go hk _)
theorem brings_tie {n : Nat} (qo : Pa Nd) : ∀ k,k ≤ n → ∀ acc : List Nd,Sb ((go k .brings : Pa (List Nd)).bind fun l=>progT qo (acc ++ l)) (brA (go n .bring) qo k acc)
 | 0,_,acc=>fun r hr=>At.out _
 | k + 1,hk,acc=>fun r hr=>by
  have ih:=brings_tie (n:=n) qo k (by omega)
  show At r ((step (go k) .brings).bind fun l=>progT qo (acc ++ l)) _
  unfold step brA
  rw [look_bind]
  refine At.look ?_
  rw [ite_bind]
  have hgo : At r (((go k .bring : Pa Nd).bind fun x=>(go k .brings : Pa (List Nd)).bind fun l=>.ret (x :: l)).bind fun l=>progT qo (acc ++ l)) ((go n .bring : Pa Nd).bind fun b=>brA (go n .bring) qo k (acc ++ [b])):=by
   rw [bind_assoc]
   refine At.bind hr (Sb.go (by omega) _ _ hr) (fun x r' hr'=>?_)
   rw [bind_assoc]
   have:=ih (acc ++ [x]) r' hr'
   simp only [List.append_assoc,List.singleton_append] at this
   exact this
  cases h1 : word wimport (tok r) with
  | true=>exact hgo
  | false =>
   cases h2 : word winclude (tok r) with
   | true=>exact hgo
   | false =>
    rw [if_neg (by decide),if_neg Bool.false_ne_true,if_neg Bool.false_ne_true,ret_bind,List.append_nil]
    exact At.refl _ _
end Go.Proofs.YtlklhkkjcfmefaaGreatDoor.pa
namespace Go.Proofs.YtlklhkkjcfmefaaGreatDoor.pa
open Go.RowKit nd pr
theorem at_passed {α : Type} {r : List Tk} {s : ByteArray} {p q : Pa α} (hs : op s (tok r) = true) (h : At r.tail p q) : At r (.move p) (need s q):=by
 intro o e
 have e2:=h o e
 show (if op s (tok r) || word s (tok r) then Pa.move q else .bad).run r = some o
 rw [hs,Bool.true_or,if_pos rfl]
 exact e2
theorem at_passedW {α : Type} {r : List Tk} {s : ByteArray} {p q : Pa α} (hs : word s (tok r) = true) (h : At r.tail p q) : At r (.move p) (need s q):=by
 intro o e
 have e2:=h o e
 show (if op s (tok r) || word s (tok r) then Pa.move q else .bad).run r = some o
 rw [hs,Bool.or_true,if_pos rfl]
 exact e2
theorem unit_tie (n : Nat) : Sb (go (n + 1) .unit : Pa Nd) (.look fun t=>if op minus t = true then need minus ((go n .unit : Pa Nd).bind fun x=>.ret (mk 25 eB [x])) else go n .post):=by
 intro r hr
 show At r (.look fun t=>if op minus t = true then .move ((go n .unit : Pa Nd).bind fun (x : Nd)=>.ret (mk 25 eB [x])) else go n .post) _
 exact At.look (At.ite (fun h=>at_passed h (At.refl _ _)) (fun _=>At.refl _ _))
theorem value_tie (n : Nat) : Sb (go (n + 1) .value : Pa Nd) ((go n .unit : Pa Nd).bind fun x=>.look fun t=>if op bar t = true then .move ((go n .value : Pa Nd).bind fun y=>.ret (mk 24 t.2 [x,y])) else .ret x):=by
 intro r hr
 show At r ((go n .unit : Pa Nd).bind fun (x : Nd)=>.look fun t=>if op bar t = true then .move ((go n .value : Pa Nd).bind fun (y : Nd)=>.ret (mk 24 bar [x,y])) else .ret x) _
 refine At.bind hr (At.refl _ _) (fun x r' hr'=>At.look (At.ite (fun h=>?_) (fun _=>At.refl _ _)))
 rw [op_text h]
 exact At.refl _ _
theorem pattern_tie (n : Nat) : Sb (go (n + 1) .pattern : Pa Nd) (.look fun t=>if op lbr t = true then (need lbr ((listP (go n .pattern : Pa Nd) (op comma) n).bind fun l=>need rbr (.ret l))).bind fun l=>.ret (mk 35 eB l) else if op lbrace t = true then (need lbrace ((listP (go n .keypat : Pa Nd) (op comma) n).bind fun l=>need rbrace (.ret l))).bind fun l=>.ret (mk 36 eB l) else (cutP 5).bind fun s=>.ret (mk 4 s [])):=by
 intro r hr
 show At r (.look fun t=>if (t.1 == 5) = true then .move (.ret (mk 4 (cut t.2) [])) else if op lbrace t = true then (go n (.elems true) : Pa (List Nd)).bind fun (l : List Nd)=>.ret (mk 36 eB l) else if op lbr t = true then (go n (.elems false) : Pa (List Nd)).bind fun (l : List Nd)=>.ret (mk 35 eB l) else .bad) _
 refine At.look ?_
 obtain ⟨t,ht⟩ : ∃ t,tok r = t:=⟨_,rfl⟩
 rw [ht]
 cases h5 : (t.1 == 5) with
 | true =>
  have e : t.1 = 5:=eq_of_beq h5
  have a1 : op lbr t = false:=by unfold op;rw [e];rfl
  have a2 : op lbrace t = false:=by unfold op;rw [e];rfl
  rw [a1,a2,if_pos rfl,if_neg Bool.false_ne_true,if_neg Bool.false_ne_true]
  intro o ho
  have h1 : (cutP 5).run r = some (.ok r.tail (cut t.2)):=by
   unfold cutP
   rw [run_look,ht,h5,if_pos rfl];rfl
  rw [bind_ok h1]
  exact ho
 | false =>
  rw [if_neg Bool.false_ne_true]
  cases hb : op lbrace t with
  | true =>
   rw [op_other hb (show lbr ≠ lbrace by decide),if_pos rfl,if_neg Bool.false_ne_true,if_pos rfl]
   refine At.bind hr (At.trans (keys_tie n (Nat.le_refl _) _ hr) (at_passed (by rw [ht];exact hb) (At.refl _ _))) (fun l r' hr'=>At.refl _ _)
  | false =>
   rw [if_neg Bool.false_ne_true]
   cases hl : op lbr t with
   | true =>
    rw [if_pos rfl,if_pos rfl]
    refine At.bind hr (At.trans (elems_tie n (Nat.le_refl _) _ hr) (at_passed (by rw [ht];exact hl) (At.refl _ _))) (fun l r' hr'=>At.refl _ _)
   | false =>
    rw [if_neg Bool.false_ne_true,if_neg Bool.false_ne_true,if_neg Bool.false_ne_true]
    intro o ho
    have h1 : (cutP 5).run r = some (.bad r):=by
     unfold cutP
     rw [run_look,ht,h5,if_neg Bool.false_ne_true];rfl
    rw [bind_bad h1]
    exact ho
end Go.Proofs.YtlklhkkjcfmefaaGreatDoor.pa
namespace Go.Proofs.YtlklhkkjcfmefaaGreatDoor.pa
open Go.RowKit nd pr
theorem quotL_more (q : Pa Nd) : ∀ k m,k ≤ m → Sb (quotL q k) (quotL q m)
 | 0,_,_=>Sb.out _
 | k + 1,0,h=>by omega
 | k + 1,m + 1,h=>fun r hr=>by
  unfold quotL
  exact At.look (At.ite (fun _=>At.refl _ _) fun _=>At.bind hr (At.refl _ _) fun x r' hr'=>At.bind hr' (quotL_more q k m (by omega) r' hr') fun _ _ _=>At.refl _ _)
theorem strF_tie2 {n k : Nat} (hk : k ≤ n) (f : ByteArray) : Sb (go k (.strF f) : Pa Nd) (quotP (pieceP (go n (.exp 1))) n f):=by
 cases k with
 | zero=>exact Sb.out _
 | succ k =>
  refine Sb.trans (strF_tie (n:=n) (by omega) f) (fun r hr=>?_)
  unfold quotP
  exact At.bind hr (At.refl _ _) fun _ r' hr'=>At.bind hr' (quotL_more _ k n (by omega) r' hr') fun _ _ _=>At.refl _ _
def textP (n : Nat) : Pa Nd:=.look fun t=>if (t.1 == 12) = true then .move (quotP (pieceP (go n (.exp 1))) n t.2) else quotP (pieceP (go n (.exp 1))) n eB
theorem str_tie (n : Nat) : Sb (go (n + 1) .str : Pa Nd) (textP n):=by
 intro r hr
 show At r (.look fun t=>if (t.1 == 12) = true then .move (go n (.strF t.2)) else go n (.strF eB)) _
 unfold textP
 exact At.look (At.ite (fun _=>At.move (strF_tie2 (Nat.le_refl n) _ _ hr.tail)) (fun _=>strF_tie2 (Nat.le_refl n) _ _ hr))
theorem str_tie2 {n k : Nat} (hk : k ≤ n) : Sb (go k .str : Pa Nd) (textP n):=Sb.trans (Sb.go (show k ≤ n + 1 by omega) _) (str_tie n)
def groupP (q : Pa Nd) : Pa Nd:=need lpar (q.bind fun x=>need rpar (.ret x))
def keyP (n : Nat) : Pa Nd:=.look fun t=>if (t.1 == 3) = true then .move (.ret (mk 31 t.2 [])) else if (t.1 == 5) = true then (cutP 5).bind (fun s=>.ret (mk 4 s [])) else if op lpar t = true then (groupP (go n (.exp 1))).bind (fun x=>.ret (mk 32 eB [x])) else textP n
theorem key_tie (n : Nat) (pat : Bool) : Sb (go (n + 1) (.key pat) : Pa (Nd × Bool)) ((keyP n).bind fun x=>.ret (x,if x.k = 4 then false else if x.k = 32 then true else pat)):=by
 intro r hr
 show At r (.look fun t=>if (t.1 == 5) = true then .move (.ret (mk 4 (cut t.2) [],false)) else if (t.1 == 3) = true then .move (.ret (mk 31 t.2 [],pat)) else if op lpar t = true then .move ((go n (.exp 1) : Pa Nd).bind fun (x : Nd)=>need rpar (.ret (mk 32 eB [x],true))) else if (t.1 != 7 && t.1 != 12) = true then .bad else (go n .str : Pa Nd).bind fun (x : Nd)=>.ret (x,pat)) _
 unfold keyP
 rw [look_bind]
 refine At.look ?_
 obtain ⟨t,ht⟩ : ∃ t,tok r = t:=⟨_,rfl⟩
 rw [ht]
 cases h5 : (t.1 == 5) with
 | true =>
  have h3 : (t.1 == 3) = false:=by rw [eq_of_beq h5];rfl
  rw [h3,if_pos rfl,if_neg Bool.false_ne_true,if_pos rfl]
  intro o ho
  have h1 : (cutP 5).run r = some (.ok r.tail (cut t.2)):=by
   unfold cutP
   rw [run_look,ht,h5,if_pos rfl];rfl
  rw [bind_assoc,bind_ok h1]
  exact ho
 | false =>
  rw [if_neg Bool.false_ne_true]
  cases h3 : (t.1 == 3) with
  | true=>rw [if_pos rfl,if_pos rfl];exact At.refl _ _
  | false =>
   rw [if_neg Bool.false_ne_true,if_neg Bool.false_ne_true,if_neg Bool.false_ne_true]
   cases hl : op lpar t with
   | true =>
    rw [if_pos rfl,if_pos rfl]
    refine At.trans (at_passed (s:=lpar) (by rw [ht];exact hl) (At.refl _ _)) ?_
    unfold groupP
    rw [need_then,need_then,bind_assoc,bind_assoc]
    intro o ho
    rw [← ho]
    refine congrArg (fun f=>(need lpar ((go n (.exp 1) : Pa Nd).bind f)).run r) (funext fun x=>?_)
    rw [need_then];rfl
   | false =>
    rw [if_neg Bool.false_ne_true,if_neg Bool.false_ne_true]
    cases h7 : (t.1 != 7 && t.1 != 12) with
    | true =>
     rw [if_pos rfl]
     intro o ho
     obtain ⟨h77,h12⟩ : (t.1 == 7) = false ∧ (t.1 == 12) = false:=by
      simp only [Bool.and_eq_true,bne_iff_ne] at h7
      exact ⟨by simpa using h7.1,by simpa using h7.2⟩
     have h1 : (textP n).run r = some (.bad r):=by
      unfold textP quotP
      rw [run_look,ht,h12,if_neg Bool.false_ne_true]
      refine bind_bad ?_
      unfold ofP
      rw [run_look,ht,h77,if_neg Bool.false_ne_true];rfl
     rw [bind_bad h1]
     exact ho
    | false =>
     rw [if_neg Bool.false_ne_true]
     refine At.trans (At.bind hr (str_tie2 (Nat.le_refl n) _ hr) (fun x r' hr'=>At.refl _ (.ret (x,pat)))) ?_
     refine At.bindG (P:=fun (x : Nd)=>x.k = 6) hr ?_ (At.refl _ _) (fun x r' hx hr'=>?_)
     ·unfold textP quotP
      exact gives_look fun _=>gives_ite (gives_move (gives_any fun _=>gives_any fun _=>gives_any fun _=>gives_ret rfl)) (gives_any fun _=>gives_any fun _=>gives_any fun _=>gives_ret rfl)
     ·rw [hx,if_neg (by decide),if_neg (by decide)]
      exact At.refl _ _
end Go.Proofs.YtlklhkkjcfmefaaGreatDoor.pa
namespace Go.Proofs.YtlklhkkjcfmefaaGreatDoor.pa
open Go.RowKit nd pr
theorem key_tie2 {n k : Nat} (hk : k ≤ n) (pat : Bool) : Sb (go k (.key pat) : Pa (Nd × Bool)) ((keyP n).bind fun x=>.ret (x,if x.k = 4 then false else if x.k = 32 then true else pat)) :=
 Sb.trans (Sb.go (show k ≤ n + 1 by omega) _) (key_tie n pat)
theorem at_lookL {α : Type} {r : List Tk} {q : Pa α} {k : Tk → Pa α} (h : At r (k (tok r)) q) : At r (.look k) q:=h
theorem pair_tie (n : Nat) : Sb (go (n + 1) .pair : Pa Nd) ((keyP n).bind fun x=>if x.k = 32 then need colon ((go n .value : Pa Nd).bind fun y=>.ret (mk 11 eB [x,y])) else .look fun t=>if op colon t = true then need colon ((go n .value : Pa Nd).bind fun y=>.ret (mk 11 eB [x,y])) else .ret (mk 11 eB [x])):=by
 intro r hr
 show At r ((go n (.key false) : Pa (Nd × Bool)).bind fun (k : Nd × Bool)=>.look fun t=>if (!k.2 && !op colon t) = true then .ret (mk 11 eB [k.1]) else need colon ((go n .value : Pa Nd).bind fun (x : Nd)=>.ret (mk 11 eB [k.1,x]))) _
 refine At.trans (At.bind hr (key_tie2 (Nat.le_refl n) false _ hr) (fun _ _ _=>At.refl _ _)) ?_
 rw [bind_assoc]
 refine At.bind hr (At.refl _ _) (fun x r' hr'=>?_)
 rw [ret_bind]
 refine at_lookL ?_
 dsimp only
 by_cases h32 : x.k = 32
 ·rw [if_neg (show ¬ x.k = 4 by omega),if_pos h32,if_pos h32]
  exact At.refl _ _
 ·rw [show (if x.k = 4 then false else if x.k = 32 then true else false) = false by rw [if_neg h32];split <;> rfl,if_neg h32]
  refine at_lookR ?_
  cases op colon (tok r') with
  | true=>exact At.refl _ _
  | false=>exact At.refl _ _
theorem keypat_tie (n : Nat) : Sb (go (n + 1) .keypat : Pa Nd) ((keyP n).bind fun x=>if ¬ x.k = 4 then need colon ((go n .pattern : Pa Nd).bind fun y=>.ret (mk 37 eB [x,y])) else .look fun t=>if op colon t = true then need colon ((go n .pattern : Pa Nd).bind fun y=>.ret (mk 37 eB [x,y])) else .ret (mk 37 eB [x])):=by
 intro r hr
 show At r ((go n (.key true) : Pa (Nd × Bool)).bind fun (k : Nd × Bool)=>.look fun t=>if (!k.2 && !op colon t) = true then .ret (mk 37 eB [k.1]) else need colon ((go n .pattern : Pa Nd).bind fun (x : Nd)=>.ret (mk 37 eB [k.1,x]))) _
 refine At.trans (At.bind hr (key_tie2 (Nat.le_refl n) true _ hr) (fun _ _ _=>At.refl _ _)) ?_
 rw [bind_assoc]
 refine At.bind hr (At.refl _ _) (fun x r' hr'=>?_)
 rw [ret_bind]
 refine at_lookL ?_
 dsimp only
 by_cases h4 : x.k = 4
 ·rw [if_pos h4,if_neg (show ¬ ¬ x.k = 4 from fun h=>h h4)]
  refine at_lookR ?_
  cases op colon (tok r') with
  | true=>exact At.refl _ _
  | false=>exact At.refl _ _
 ·rw [show (if x.k = 4 then false else if x.k = 32 then true else true) = true by rw [if_neg h4];split <;> rfl,if_pos h4]
  exact At.refl _ _
end Go.Proofs.YtlklhkkjcfmefaaGreatDoor.pa
namespace Go.Proofs.YtlklhkkjcfmefaaGreatDoor.pa
open Go.RowKit nd pr
theorem list_tie3 {α : Type} {R : Nat → Pa (List α)} {q : Pa α} {sep : Tk → Bool} {e1 : ByteArray} (h0 : R 0 = .out)
  (hR : ∀ k,Sb (R (k + 1)) (q.bind fun x=>.look fun t=>if sep t = true then .move ((R k).bind fun l=>.ret (x :: l)) else need e1 (.ret [x]))) :
  ∀ k,Sb (R k) ((listP q sep k).bind fun l=>need e1 (.ret l))
 | 0=>by rw [h0];exact Sb.out _
 | k + 1=>fun r hr=>by
  have ih:=list_tie3 h0 hR k
  refine At.trans (hR k r hr) ?_
  show At r _ ((q.bind fun x=>Pa.look fun t=>if sep t = true then .move ((listP q sep k).bind fun l=>.ret (x :: l)) else .ret [x]).bind fun l=>need e1 (.ret l))
  rw [bind_assoc]
  refine At.bind hr (At.refl _ _) (fun x r' hr'=>?_)
  rw [look_bind]
  refine At.look ?_
  rw [ite_bind]
  refine At.ite (fun _=>?_) (fun _=>At.refl _ _)
  refine At.move ?_
  refine At.trans (At.bind hr'.tail (ih r'.tail hr'.tail) (fun l r2 hr2=>At.refl _ (.ret (x :: l)))) ?_
  show At r'.tail (((listP q sep k).bind fun l=>need e1 (.ret l)).bind fun l=>.ret (x :: l)) (((listP q sep k).bind fun l=>.ret (x :: l)).bind fun l=>need e1 (.ret l))
  rw [bind_assoc,bind_assoc]
  intro o ho
  rw [← ho]
  refine congrArg (fun f=>((listP q sep k).bind f).run r'.tail) (funext fun l=>?_)
  rw [need_then];rfl
theorem params_tie : ∀ k,Sb (go k .params : Pa (List Nd)) ((listP paramP (op semi) k).bind fun l=>need rpar (.ret l)) :=
 list_tie3 (R:=fun k=>(go k .params : Pa (List Nd))) rfl (fun k r hr=>by
  show At r (.look fun t=>if (t.1 == 5 || plainT t) = true then .move (.look fun u=>if op semi u = true then .move ((go k .params : Pa (List Nd)).bind fun (l : List Nd)=>.ret (mk 30 t.2 [] :: l)) else need rpar (.ret [mk 30 t.2 []])) else .bad) _
  unfold paramP
  rw [look_bind]
  refine At.look ?_
  obtain ⟨t,ht⟩ : ∃ t,tok r = t:=⟨_,rfl⟩
  rw [ht]
  cases h5 : (t.1 == 5) with
  | true=>exact At.refl _ _
  | false =>
   rw [Bool.false_or,if_neg Bool.false_ne_true]
   cases hp : plainT t with
   | true =>
    rw [if_pos rfl]
    intro o ho
    have h1 : nameP.run r = some (.ok r.tail t.2):=by
     unfold nameP
     rw [run_look,ht,hp,if_pos rfl];rfl
    rw [bind_assoc,bind_ok h1]
    exact ho
   | false =>
    rw [if_neg Bool.false_ne_true]
    intro o ho
    have h1 : nameP.run r = some (.bad r):=by
     unfold nameP
     rw [run_look,ht,hp,if_neg Bool.false_ne_true];rfl
    rw [bind_assoc,bind_bad h1]
    exact ho)
end Go.Proofs.YtlklhkkjcfmefaaGreatDoor.pa
namespace Go.Proofs.YtlklhkkjcfmefaaGreatDoor.pa
open Go.RowKit nd pr
def branchP (q : Pa Nd) : Pa (Nd × Nd):=q.bind fun x=>need wthen (q.bind fun y=>.ret (x,y))
theorem ifs_tie {n : Nat} : ∀ k,k ≤ n → Sb (go k .ifs : Pa (List Nd)) ((listP (branchP (go n (.exp 1))) (word welif) k).bind fun bs=>.ret (flat bs))
 | 0,_=>Sb.out _
 | k + 1,hk=>fun r hr=>by
  have ih:=ifs_tie (n:=n) k (by omega)
  show At r ((go k (.exp 1) : Pa Nd).bind fun (a : Nd)=>need wthen ((go k (.exp 1) : Pa Nd).bind fun (b : Nd)=>.look fun t=>if word welif t = true then .move ((go k .ifs : Pa (List Nd)).bind fun (l : List Nd)=>.ret (a :: b :: l)) else .ret [a,b]))
   (((branchP (go n (.exp 1))).bind fun x=>Pa.look fun t=>if word welif t = true then .move ((listP (branchP (go n (.exp 1))) (word welif) k).bind fun l=>.ret (x :: l)) else .ret [x]).bind fun bs=>.ret (flat bs))
  rw [bind_assoc]
  unfold branchP
  rw [bind_assoc]
  refine At.bind hr (Sb.go (by omega) _ _ hr) (fun a r1 hr1=>?_)
  rw [need_then]
  refine at_need ?_
  rw [bind_assoc]
  refine At.bind hr1.tail (Sb.go (by omega) _ _ hr1.tail) (fun b r2 hr2=>?_)
  rw [ret_bind,look_bind]
  refine At.look ?_
  rw [ite_bind]
  refine At.ite (fun _=>At.move ?_) (fun _=>At.refl _ _)
  rw [bind_assoc]
  refine At.trans (At.bind hr2.tail (ih _ hr2.tail) (fun _ _ _=>At.refl _ _)) ?_
  rw [bind_assoc]
  exact At.refl _ _
end Go.Proofs.YtlklhkkjcfmefaaGreatDoor.pa
namespace Go.Proofs.YtlklhkkjcfmefaaGreatDoor.pa
open Go.RowKit nd pr
theorem plainL_tie : ∀ k (G : List Nd → Pa Nd),Sb ((go k .plainL : Pa (List Nd)).bind fun l=>one 11 (G l)) ((quotL chunkP k).bind fun l=>(ofP 11).bind fun _=>G l)
 | 0,G=>fun r hr=>At.out _
 | k + 1,G=>fun r hr=>by
  have ih:=plainL_tie k
  show At r ((Pa.look fun t=>if (t.1 == 8) = true then .move ((go k .plainL : Pa (List Nd)).bind fun (l : List Nd)=>.ret (mk 7 t.2 [] :: l)) else .ret ([] : List Nd)).bind fun l=>one 11 (G l)) ((Pa.look fun t=>if (t.1 == 11) = true then .ret [] else chunkP.bind fun x=>(quotL chunkP k).bind fun l=>.ret (x :: l)).bind fun l=>(ofP 11).bind fun _=>G l)
  rw [look_bind,look_bind]
  refine At.look ?_
  obtain ⟨t,ht⟩ : ∃ t,tok r = t:=⟨_,rfl⟩
  rw [ht]
  cases h8 : (t.1 == 8) with
  | true =>
   have h11 : (t.1 == 11) = false:=by rw [eq_of_beq h8];rfl
   rw [h11,if_pos rfl,if_neg Bool.false_ne_true]
   intro o ho
   have h1 : chunkP.run r = some (.ok r.tail (mk 7 t.2 [])):=by
    unfold chunkP
    rw [bind_ok (ofP_run (by rw [ht];exact h8)),ht];rfl
   rw [bind_assoc,bind_ok h1,bind_assoc]
   refine ih (fun l=>G (mk 7 t.2 [] :: l)) r.tail hr.tail o ?_
   have h2 : (((go k .plainL : Pa (List Nd)).bind fun (l : List Nd)=>.ret (mk 7 t.2 [] :: l)).bind fun l=>one 11 (G l)).run r.tail = some o:=ho
   rw [bind_assoc] at h2
   exact h2
  | false =>
   rw [if_neg Bool.false_ne_true,ret_bind]
   cases h11 : (t.1 == 11) with
   | true =>
    rw [if_pos rfl,ret_bind,one_bind]
    exact At.refl _ _
   | false =>
    rw [if_neg Bool.false_ne_true]
    intro o ho
    have h1 : chunkP.run r = some (.bad r):=by
     unfold chunkP
     refine bind_bad ?_
     unfold ofP
     rw [run_look,ht,h8,if_neg Bool.false_ne_true];rfl
    rw [bind_assoc,bind_bad h1]
    have h2 : (if ((tok r).1 == 11) = true then Pa.move (G []) else .bad).run r = some o:=ho
    rw [ht,h11,if_neg Bool.false_ne_true] at h2
    exact h2
end Go.Proofs.YtlklhkkjcfmefaaGreatDoor.pa
namespace Go.Proofs.YtlklhkkjcfmefaaGreatDoor.pa
open Go.RowKit nd pr
theorem at_endedL {α : Type} {r : List Tk} {q : Pa α} {k : Bool → Pa α} (h : At r (k r.isEmpty) q) : At r (.ended k) q:=h
theorem cutP_run {kd : Int} {r : List Tk} (h : ((tok r).1 == kd) = true) : (cutP kd).run r = some (.ok r.tail (cut (tok r).2)):=by
 unfold cutP
 rw [run_look,h,if_pos rfl];rfl
def calledP : Pa Nd:=.look fun t=>if (t.1 == 5) = true then (cutP 5).bind (fun s=>.ret (mk 4 s [])) else nameP.bind fun s=>.ret (mk 31 s [])
def bringP (n : Nat) : Pa Nd:=.look fun t=>if t.1 = 0 then .out else .move ((quotP chunkP n eB).bind fun x=>if t.2 = wimport then need was (calledP.bind fun y=>need semi (.ret (mk 33 t.2 [x,y]))) else need semi (.ret (mk 33 t.2 [x])))
theorem bring_tie (n : Nat) {r : List Tk} (hr : Fits r) (hw : word wimport (tok r) = true ∨ word winclude (tok r) = true) : At r (go (n + 1) .bring : Pa Nd) (bringP n):=by
 show At r (.look fun t=>.move (one 7 ((go n .plainL : Pa (List Nd)).bind fun (l : List Nd)=>one 11 (
   if t.2 = winclude then need semi (.ret (mk 33 t.2 [mk 6 eB l]))
   else need was (.look fun u=>if (u.1 == 5) = true then .move (need semi (.ret (mk 33 t.2 [mk 6 eB l,mk 4 (cut u.2) []]))) else name fun s=>need semi (.ret (mk 33 t.2 [mk 6 eB l,mk 31 s []]))))))) _
 unfold bringP
 refine At.look ?_
 obtain ⟨t,ht⟩ : ∃ t,tok r = t:=⟨_,rfl⟩
 rw [ht] at hw ⊢
 have ht0 : ¬ t.1 = 0:=by rcases hw with h | h <;> exact word_kind h
 rw [if_neg ht0]
 refine At.move ?_
 unfold quotP
 rw [one_bind,bind_assoc]
 refine At.bind hr.tail (At.refl _ _) (fun _ r1 hr1=>?_)
 rw [bind_assoc]
 refine At.trans (plainL_tie n (fun l=>if t.2 = winclude then need semi (.ret (mk 33 t.2 [mk 6 eB l]))
   else need was (.look fun u=>if (u.1 == 5) = true then .move (need semi (.ret (mk 33 t.2 [mk 6 eB l,mk 4 (cut u.2) []]))) else name fun s=>need semi (.ret (mk 33 t.2 [mk 6 eB l,mk 31 s []])))) _ hr1) ?_
 refine At.bind hr1 (At.refl _ _) (fun l r2 hr2=>?_)
 rw [bind_assoc]
 refine At.bind hr2 (At.refl _ _) (fun _ r3 hr3=>?_)
 rw [ret_bind]
 rcases hw with h | h
 ·have e:=word_text h
  rw [if_neg (by rw [e];decide),if_pos e]
  refine at_need ?_
  unfold calledP
  rw [look_bind]
  refine At.look ?_
  cases h5 : ((tok r3.tail).1 == 5) with
  | true =>
   rw [if_pos rfl,if_pos rfl]
   intro o ho
   rw [bind_assoc,bind_ok (cutP_run h5)]
   exact ho
  | false =>
   rw [if_neg Bool.false_ne_true,if_neg Bool.false_ne_true,name_bind,bind_assoc]
   exact At.refl _ _
 ·have e:=word_text h
  rw [if_pos e,if_neg (by rw [e];decide)]
  exact At.refl _ _
theorem brA_tie {qb qb' qo : Pa Nd} (h : ∀ r,Fits r → (word wimport (tok r) = true ∨ word winclude (tok r) = true) → At r qb qb') : ∀ k acc,Sb (brA qb qo k acc) (brA qb' qo k acc)
 | 0,_=>Sb.out _
 | k + 1,acc=>fun r hr=>by
  unfold brA
  refine At.look (At.ite (fun hw=>?_) fun _=>At.ite (fun hw=>?_) fun _=>At.refl _ _)
  ·exact At.bind hr (h r hr (.inl hw)) (fun b r' hr'=>brA_tie h k _ r' hr')
  ·exact At.bind hr (h r hr (.inr hw)) (fun b r' hr'=>brA_tie h k _ r' hr')
theorem listP_more {α : Type} {q : Pa α} (sep : Tk → Bool) {n m : Nat} (h : n ≤ m) : (listP q sep n).Le (listP q sep m):=by
 induction m with
 | zero =>
  obtain rfl : n = 0:=by omega
  exact Pa.Le.refl _
 | succ m ih =>
  by_cases e : n = m + 1
  ·subst e;exact Pa.Le.refl _
  ·exact Pa.Le.trans (ih (by omega)) (listP_next sep m)
theorem params_tie2 {k n : Nat} (hk : k ≤ n) : Sb (go k .params : Pa (List Nd)) ((listP paramP (op semi) n).bind fun l=>need rpar (.ret l)) :=
 Sb.trans (Sb.go hk .params) (params_tie n)
def outR (n : Nat) : Pa Nd:=.look fun t=>if word wdef t = true then go n (.deff true) else go n (.exp 1)
theorem deff_no {k n : Nat} (hk : k ≤ n) {r : List Tk} (hr : Fits r) (hw : word wdef (tok r) = true) : At r (go (k + 1) (.deff false) : Pa Nd) (defP (go n (.exp 1)) n (go n (.exp 1))):=by
 show At r (.move (name fun s=>(Pa.look fun t=>if op lpar t = true then .move (go k .params : Pa (List Nd)) else .ret ([] : List Nd)).bind fun (l : List Nd)=>need colon ((go k (.exp 1) : Pa Nd).bind fun (b : Nd)=>need semi (.ended fun z =>
   if (false && z) = true then .ret (mk 29 s (l ++ [b,none0]))
   else (Pa.look fun t=>if (false && word wdef t) = true then (go k (.deff true) : Pa Nd) else go k (.exp 1)).bind fun (y : Nd)=>.ret (mk 29 s (l ++ [b,y])))))) _
 unfold defP
 refine at_passedW hw ?_
 rw [name_bind]
 refine At.bind hr.tail (At.refl _ _) (fun s r1 hr1=>?_)
 refine At.bind hr1 (At.look (At.ite (fun h=>at_passed h (params_tie2 hk _ hr1.tail)) fun _=>At.refl _ _)) (fun l r2 hr2=>?_)
 refine at_need (At.bind hr2.tail (Sb.go hk _ _ hr2.tail) (fun b r3 hr3=>at_need (at_endedL ?_)))
 rw [Bool.false_and,if_neg Bool.false_ne_true,look_bind]
 refine at_lookL ?_
 rw [Bool.false_and,if_neg Bool.false_ne_true]
 refine At.bind hr3.tail (Sb.go hk _ _ hr3.tail) (fun y r4 hr4=>?_)
 rw [List.append_assoc]
 exact At.refl _ _
theorem deff_top {k n : Nat} (hk : k ≤ n) {r : List Tk} (hr : Fits r) (hw : word wdef (tok r) = true) : At r (go (k + 1) (.deff true) : Pa Nd) (defP (go n (.exp 1)) n (.ended fun z=>if z = true then .ret none0 else outR k)):=by
 show At r (.move (name fun s=>(Pa.look fun t=>if op lpar t = true then .move (go k .params : Pa (List Nd)) else .ret ([] : List Nd)).bind fun (l : List Nd)=>need colon ((go k (.exp 1) : Pa Nd).bind fun (b : Nd)=>need semi (.ended fun z =>
   if (true && z) = true then .ret (mk 29 s (l ++ [b,none0]))
   else (Pa.look fun t=>if (true && word wdef t) = true then (go k (.deff true) : Pa Nd) else go k (.exp 1)).bind fun (y : Nd)=>.ret (mk 29 s (l ++ [b,y])))))) _
 unfold defP
 refine at_passedW hw ?_
 rw [name_bind]
 refine At.bind hr.tail (At.refl _ _) (fun s r1 hr1=>?_)
 refine At.bind hr1 (At.look (At.ite (fun h=>at_passed h (params_tie2 hk _ hr1.tail)) fun _=>At.refl _ _)) (fun l r2 hr2=>?_)
 refine at_need (At.bind hr2.tail (Sb.go hk _ _ hr2.tail) (fun b r3 hr3=>at_need ?_))
 rw [ended_bind]
 refine At.ended ?_
 cases r3.tail.isEmpty with
 | true =>
  rw [Bool.true_and,if_pos rfl,if_pos rfl,ret_bind,List.append_assoc]
  exact At.refl _ _
 | false =>
  rw [Bool.and_false,if_neg Bool.false_ne_true,if_neg Bool.false_ne_true]
  unfold outR
  rw [look_bind,look_bind]
  refine At.look ?_
  rw [Bool.true_and,ite_bind,ite_bind]
  refine At.ite (fun _=>At.bind hr3.tail (At.refl _ _) (fun y r4 hr4=>?_)) (fun _=>At.bind hr3.tail (At.refl _ _) (fun y r4 hr4=>?_)) <;>
  ·rw [List.append_assoc]
   exact At.refl _ _
def foldP (s : ByteArray) (q qp qk : Pa Nd) : Pa (List Nd):=need s (qp.bind fun x=>need was (qk.bind fun p=>need lpar (q.bind fun a=>need semi (q.bind fun b=>.ret [x,p,a,b]))))
theorem At.nothing {α : Type} {r : List Tk} (q : Pa α) : At r (.move .out) q:=fun _ h=>by cases h
theorem reduce_tie {k n : Nat} (hk : k ≤ n) {r : List Tk} (hr : Fits r) (hw : word wreduce (tok r) = true) :
  At r (.move (go k (.fold 16 false)) : Pa Nd) ((foldP wreduce (go n (.exp 1)) (go n .post) (go n .pattern)).bind fun l=>need rpar (.ret (mk 16 eB l))):=by
 cases k with
 | zero=>exact At.nothing _
 | succ k =>
  show At r (.move ((go k .post : Pa Nd).bind fun (s : Nd)=>need was ((go k .pattern : Pa Nd).bind fun (p : Nd)=>need lpar ((go k (.exp 1) : Pa Nd).bind fun (a : Nd)=>need semi ((go k (.exp 1) : Pa Nd).bind fun (b : Nd)=>.look fun t =>
   if (false && op semi t) = true then .move ((go k (.exp 1) : Pa Nd).bind fun (c : Nd)=>need rpar (.ret (mk 16 eB [s,p,a,b,c]))) else need rpar (.ret (mk 16 eB [s,p,a,b]))))))) _
  have hk' : k ≤ n:=by omega
  unfold foldP
  rw [need_then]
  refine at_passedW hw ?_
  rw [bind_assoc]
  refine At.bind hr.tail (Sb.go hk' _ _ hr.tail) (fun x r1 hr1=>?_)
  rw [need_then]
  refine at_need ?_
  rw [bind_assoc]
  refine At.bind hr1.tail (Sb.go hk' _ _ hr1.tail) (fun p r2 hr2=>?_)
  rw [need_then]
  refine at_need ?_
  rw [bind_assoc]
  refine At.bind hr2.tail (Sb.go hk' _ _ hr2.tail) (fun a r3 hr3=>?_)
  rw [need_then]
  refine at_need ?_
  rw [bind_assoc]
  refine At.bind hr3.tail (Sb.go hk' _ _ hr3.tail) (fun b r4 hr4=>?_)
  rw [ret_bind]
  refine at_lookL ?_
  rw [Bool.false_and,if_neg Bool.false_ne_true]
  exact At.refl _ _
theorem each_tie {k n : Nat} (hk : k ≤ n) {r : List Tk} (hr : Fits r) (hw : word wforeach (tok r) = true) :
  At r (.move (go k (.fold 17 true)) : Pa Nd) ((foldP wforeach (go n (.exp 1)) (go n .post) (go n .pattern)).bind fun l=>.look fun t=>if op semi t = true then .move ((go n (.exp 1) : Pa Nd).bind fun x=>need rpar (.ret (mk 17 eB (l ++ [x])))) else need rpar (.ret (mk 17 eB l))):=by
 cases k with
 | zero=>exact At.nothing _
 | succ k =>
  show At r (.move ((go k .post : Pa Nd).bind fun (s : Nd)=>need was ((go k .pattern : Pa Nd).bind fun (p : Nd)=>need lpar ((go k (.exp 1) : Pa Nd).bind fun (a : Nd)=>need semi ((go k (.exp 1) : Pa Nd).bind fun (b : Nd)=>.look fun t =>
   if (true && op semi t) = true then .move ((go k (.exp 1) : Pa Nd).bind fun (c : Nd)=>need rpar (.ret (mk 17 eB [s,p,a,b,c]))) else need rpar (.ret (mk 17 eB [s,p,a,b]))))))) _
  have hk' : k ≤ n:=by omega
  unfold foldP
  rw [need_then]
  refine at_passedW hw ?_
  rw [bind_assoc]
  refine At.bind hr.tail (Sb.go hk' _ _ hr.tail) (fun x r1 hr1=>?_)
  rw [need_then]
  refine at_need ?_
  rw [bind_assoc]
  refine At.bind hr1.tail (Sb.go hk' _ _ hr1.tail) (fun p r2 hr2=>?_)
  rw [need_then]
  refine at_need ?_
  rw [bind_assoc]
  refine At.bind hr2.tail (Sb.go hk' _ _ hr2.tail) (fun a r3 hr3=>?_)
  rw [need_then]
  refine at_need ?_
  rw [bind_assoc]
  refine At.bind hr3.tail (Sb.go hk' _ _ hr3.tail) (fun b r4 hr4=>?_)
  rw [ret_bind]
  refine At.look ?_
  rw [Bool.true_and]
  refine At.ite (fun _=>At.move (At.bind hr4.tail (Sb.go hk' _ _ hr4.tail) (fun c r5 hr5=>At.refl _ _))) (fun _=>At.refl _ _)
theorem foldP_len {s : ByteArray} {q qp qk : Pa Nd} : Gives (fun l=>l.length ≤ 100000000) (foldP s q qp qk) :=
 gives_need (gives_any fun _=>gives_need (gives_any fun _=>gives_need (gives_any fun _=>gives_need (gives_any fun _=>gives_ret (by simp)))))
theorem operand_tie (n : Nat) : Sb (go (n + 1) .operand : Pa Nd) (.look fun t=>if op minus t = true then need minus ((go n (.exp 9) : Pa Nd).bind fun x=>.ret (mk 25 eB [x])) else if word wdef t = true then defP (go n (.exp 1)) n (go n (.exp 1)) else if word wlabel t = true then need wlabel ((cutP 5).bind fun s=>need bar ((go n (.exp 1) : Pa Nd).bind fun x=>.ret (mk 27 s [x]))) else if word wtry t = true then need wtry ((go n .post : Pa Nd).bind fun x=>.look fun u=>if word wcatch u then .move ((go n .post : Pa Nd).bind fun y=>.ret (mk 15 eB [x,y])) else .ret (mk 15 eB [x])) else (go n .post : Pa Nd).bind fun x=>.look fun u=>if word was u = true then .move ((go n .pattern : Pa Nd).bind fun p=>need bar ((go n (.exp 1) : Pa Nd).bind fun y=>.ret (mk 26 eB [x,p,y]))) else .ret x):=by
 intro r hr
 show At r (.look fun t =>
   if op minus t = true then .move ((go n (.exp 9) : Pa Nd).bind fun (x : Nd)=>.ret (mk 25 eB [x]))
   else if word wdef t = true then go n (.deff false)
   else if word wlabel t = true then .move (text 5 fun s=>need bar ((go n (.exp 1) : Pa Nd).bind fun (x : Nd)=>.ret (mk 27 s [x])))
   else if word wtry t = true then .move ((go n .post : Pa Nd).bind fun (x : Nd)=>.look fun u=>if word wcatch u = true then .move ((go n .post : Pa Nd).bind fun (y : Nd)=>.ret (mk 15 eB [x,y])) else .ret (mk 15 eB [x]))
   else (go n .post : Pa Nd).bind fun (x : Nd)=>.look fun u=>if word was u = true then .move ((go n .pattern : Pa Nd).bind fun (k : Nd)=>need bar ((go n (.exp 1) : Pa Nd).bind fun (y : Nd)=>.ret (mk 26 eB [x,k,y]))) else .ret x) _
 refine At.look (At.ite (fun h=>at_passed h (At.refl _ _)) fun _=>At.ite (fun h=>?_) fun _=>At.ite (fun h=>at_passedW h ?_) fun _=>At.ite (fun h=>at_passedW h (At.refl _ _)) fun _=>At.refl _ _)
 ·cases n with
  | zero=>exact At.out _
  | succ n=>exact deff_no (by omega) hr h
 ·rw [text_bind]
  exact At.refl _ _
end Go.Proofs.YtlklhkkjcfmefaaGreatDoor.pa
