/- Ground of the law: PaTieE, PaTieF, PaP36, PaP37. -/
import Derived.Test.YtlklhkkjcfmefaaGreatDoorQe39
import Derived.Test.YtlklhkkjcfmefaaGreatDoorQe33
import Derived.Test.YtlklhkkjcfmefaaGreatDoorQe23
import Derived.Test.YtlklhkkjcfmefaaGreatDoorQe24
import Derived.Test.YtlklhkkjcfmefaaGreatDoorQe28
import Derived.Test.YtlklhkkjcfmefaaGreatDoorQe32
import Derived.Test.YtlklhkkjcfmefaaGreatDoorQe27
import Derived.Test.YtlklhkkjcfmefaaGreatDoorQe29
import Derived.Test.YtlklhkkjcfmefaaGreatDoorQe20
import Derived.Test.YtlklhkkjcfmefaaGreatDoorQe30
import Derived.Test.YtlklhkkjcfmefaaGreatDoorQe35
import Derived.Test.YtlklhkkjcfmefaaGreatDoorQe17
import Derived.Test.YtlklhkkjcfmefaaGreatDoorQe34
import Derived.Test.YtlklhkkjcfmefaaGreatDoorQe36
set_option maxRecDepth 100000
set_option maxHeartbeats 8000000
set_option linter.unusedVariables false
set_option linter.unusedSimpArgs false
namespace Go.Proofs.YtlklhkkjcfmefaaGreatDoor.pa
open Go.RowKit nd pr
def rootP (n : Nat) : Pa Nd:=need dot (.look fun t=>if (t.1 == 7) = true then (textP n).bind (fun x=>.ret (mk 22 eB [none0,x])) else if (t.1 == 12) = true then (textP n).bind (fun x=>.ret (mk 22 eB [none0,x])) else .ret (mk 1 eB []))
def arrayP (n : Nat) : Pa Nd:=need lbr (.look fun t=>if op rbr t = true then .move (.ret (mk 9 eB [])) else ((go n (.exp 1) : Pa Nd).bind fun x=>need rbr (.ret x)).bind fun x=>.ret (mk 9 eB [x]))
def objectP (n : Nat) : Pa Nd:=need lbrace (.look fun t=>if op rbrace t = true then .move (.ret (mk 10 eB [])) else (listP (go n .pair : Pa Nd) (op comma) n).bind fun l=>need rbrace (.ret (mk 10 eB l)))
def parenP (n : Nat) : Pa Nd:=(groupP (go n (.exp 1))).bind fun x=>.ret (mk 12 eB [x])
def choiceP (n : Nat) : Pa Nd:=need wif ((listP (branchP (go n (.exp 1))) (word welif) n).bind fun bs=>.look fun t=>if word welse t = true then .move ((go n (.exp 1) : Pa Nd).bind fun x=>need wend (.ret (mk 14 welse (flat bs ++ [x])))) else need wend (.ret (mk 14 eB (flat bs))))
def callP (n : Nat) : Pa Nd:=.look fun t=>if t.1 = 0 then .out else .move (.look fun u=>if op lpar u = true then (need lpar ((listP (go n (.exp 1) : Pa Nd) (op semi) n).bind fun l=>need rpar (.ret l))).bind fun l=>.ret (mk 13 t.2 l) else .ret (mk 13 t.2 []))
def formatP (n : Nat) : Pa Nd:=(ofP 12).bind fun fm=>.look fun t=>if (t.1 == 7) = true then quotP (pieceP (go n (.exp 1))) n fm else .ret (mk 8 fm [])
def reduceP (n : Nat) : Pa Nd:=(foldP wreduce (go n (.exp 1)) (go n .post) (go n .pattern)).bind fun l=>need rpar (.ret (mk 16 eB l))
def eachP (n : Nat) : Pa Nd:=(foldP wforeach (go n (.exp 1)) (go n .post) (go n .pattern)).bind fun l=>.look fun t=>if op semi t = true then .move ((go n (.exp 1) : Pa Nd).bind fun x=>need rpar (.ret (mk 17 eB (l ++ [x])))) else need rpar (.ret (mk 17 eB l))
def termK (n : Nat) (t : Tk) : Pa Nd :=
   if (t.1 == 4) = true then .move (.ret (mk 3 (cut t.2) []))
   else if (t.1 == 5) = true then .move (.ret (mk 4 (cut t.2) []))
   else if (t.1 == 6) = true then .move (.ret (mk 5 t.2 []))
   else if op dots t = true then .move (.ret (mk 2 eB []))
   else if op dot t = true then .move (.look fun u=>if (u.1 != 7 && u.1 != 12) = true then .ret (mk 1 eB []) else (go n .str : Pa Nd).bind fun (x : Nd)=>.ret (mk 22 eB [none0,x]))
   else if (t.1 == 12) = true then .peek fun u=>.move (if (u.1 != 7) = true then .ret (mk 8 t.2 []) else go n (.strF t.2))
   else if (t.1 == 7) = true then go n .str
   else if (t.1 == 13) = true then go n .bracket
   else if (t.1 == 3) = true then go n .worded
   else .bad
def brackK (n : Nat) (t : Tk) : Pa Nd :=
   if op lpar t = true then .move ((go n (.exp 1) : Pa Nd).bind fun (x : Nd)=>need rpar (.ret (mk 12 eB [x])))
   else if op lbr t = true then .move (.look fun u=>if op rbr u = true then .move (.ret (mk 9 eB [])) else (go n (.exp 1) : Pa Nd).bind fun (x : Nd)=>need rbr (.ret (mk 9 eB [x])))
   else if op lbrace t = true then .move (.look fun u=>if op rbrace u = true then .move (.ret (mk 10 eB [])) else (go n .pairs : Pa (List Nd)).bind fun (l : List Nd)=>.ret (mk 10 eB l))
   else .bad
def wordK (n : Nat) (t : Tk) : Pa Nd :=
   if t.2 = wif then .move ((go n .ifs : Pa (List Nd)).bind fun (l : List Nd)=>.look fun u=>if word welse u = true then .move ((go n (.exp 1) : Pa Nd).bind fun (x : Nd)=>need wend (.ret (mk 14 welse (l ++ [x])))) else need wend (.ret (mk 14 eB l)))
   else if t.2 = wreduce then .move (go n (.fold 16 false))
   else if t.2 = wforeach then .move (go n (.fold 17 true))
   else if t.2 = wbreak then .move (text 5 fun s=>.ret (mk 28 s []))
   else if Sg.key t.2.data.toList = true then .bad
   else .move (.look fun u=>if op lpar u = true then (go n .args : Pa (List Nd)).bind fun (l : List Nd)=>.ret (mk 13 t.2 l) else .ret (mk 13 t.2 []))
theorem at_term {n : Nat} {r : List Tk} {q : Pa Nd} (h : At r (termK n (tok r)) q) : At r (go (n + 1) .term : Pa Nd) q:=h
theorem at_brack {n : Nat} {r : List Tk} {q : Pa Nd} (h : ∀ k,k ≤ n → At r (brackK k (tok r)) q) : At r (go n .bracket : Pa Nd) q:=by
 cases n with
 | zero=>exact At.out _
 | succ k=>exact (h k (by omega) : At r (step (go k) .bracket) q)
theorem at_word {n : Nat} {r : List Tk} {q : Pa Nd} (h : ∀ k,k ≤ n → At r (wordK k (tok r)) q) : At r (go n .worded : Pa Nd) q:=by
 cases n with
 | zero=>exact At.out _
 | succ k=>exact (h k (by omega) : At r (step (go k) .worded) q)
theorem term_brack {n : Nat} {r : List Tk} {q : Pa Nd} {s : ByteArray} (ht : tok r = (13,s)) (h1 : s ≠ dots) (h2 : s ≠ dot) (h : ∀ k,k ≤ n → At r (brackK k (13,s)) q) : At r (go (n + 1) .term : Pa Nd) q:=by
 refine at_term ?_
 rw [ht]
 unfold termK
 rw [if_neg (show ¬ ((13 : Int) == 4) = true by decide),if_neg (show ¬ ((13 : Int) == 5) = true by decide),if_neg (show ¬ ((13 : Int) == 6) = true by decide),if_neg (by simp [op,h1]),if_neg (by simp [op,h2]),if_neg (show ¬ ((13 : Int) == 12) = true by decide),if_neg (show ¬ ((13 : Int) == 7) = true by decide),if_pos (show ((13 : Int) == 13) = true by decide)]
 exact at_brack (by rw [ht];exact h)
theorem term_word {n : Nat} {r : List Tk} {q : Pa Nd} (ht : (tok r).1 = 3) (h : ∀ k,k ≤ n → At r (wordK k (tok r)) q) : At r (go (n + 1) .term : Pa Nd) q:=by
 refine at_term ?_
 unfold termK
 rw [if_neg (by rw [ht];decide),if_neg (by rw [ht];decide),if_neg (by rw [ht];decide),if_neg (by simp [op,ht]),if_neg (by simp [op,ht]),if_neg (by rw [ht];decide),if_neg (by rw [ht];decide),if_neg (by rw [ht];decide),if_pos (by rw [ht];decide)]
 exact at_word h
theorem term_root {n : Nat} {r : List Tk} (hr : Fits r) (ht : tok r = (13,dot)) : At r (go (n + 1) .term : Pa Nd) (rootP n):=by
 refine at_term ?_
 rw [ht]
 unfold termK
 rw [if_neg (by decide),if_neg (by decide),if_neg (by decide),if_neg (by decide),if_pos (by decide)]
 unfold rootP
 refine at_passed (by rw [ht];decide) (At.look ?_)
 obtain ⟨u,hu⟩ : ∃ u,tok r.tail = u:=⟨_,rfl⟩
 rw [hu]
 cases h7 : (u.1 == 7) with
 | true =>
  rw [show (u.1 != 7 && u.1 != 12) = false by simp [bne,h7],if_neg Bool.false_ne_true,if_pos rfl]
  exact At.bind hr.tail (str_tie2 (Nat.le_refl n) _ hr.tail) (fun _ _ _=>At.refl _ _)
 | false =>
  rw [if_neg Bool.false_ne_true]
  cases h12 : (u.1 == 12) with
  | true =>
   rw [show (u.1 != 7 && u.1 != 12) = false by simp [bne,h12],if_neg Bool.false_ne_true,if_pos rfl]
   exact At.bind hr.tail (str_tie2 (Nat.le_refl n) _ hr.tail) (fun _ _ _=>At.refl _ _)
  | false =>
   rw [show (u.1 != 7 && u.1 != 12) = true by simp [bne,h7,h12],if_pos rfl,if_neg Bool.false_ne_true]
   exact At.refl _ _
theorem term_deep {n : Nat} {r : List Tk} (hr : Fits r) (ht : tok r = (13,dots)) : At r (go (n + 1) .term : Pa Nd) (need dots (.ret (mk 2 eB []))):=by
 refine at_term ?_
 rw [ht]
 unfold termK
 rw [if_neg (by decide),if_neg (by decide),if_neg (by decide),if_pos (by decide)]
 exact at_passed (by rw [ht];decide) (At.refl _ _)
theorem term_array {n : Nat} {r : List Tk} (hr : Fits r) (ht : tok r = (13,lbr)) : At r (go (n + 1) .term : Pa Nd) (arrayP n):=by
 refine term_brack ht (by decide) (by decide) (fun k hk=>?_)
 unfold brackK
 rw [if_neg (by decide),if_pos (by decide)]
 unfold arrayP
 refine at_passed (by rw [ht];decide) (At.look (At.ite (fun _=>At.refl _ _) fun _=>?_))
 rw [show ((go n (.exp 1) : Pa Nd).bind fun x=>need rbr (.ret x)).bind (fun x=>.ret (mk 9 eB [x])) = (go n (.exp 1) : Pa Nd).bind fun y=>need rbr (.ret (mk 9 eB [y])) by
  rw [bind_assoc];exact congrArg (Pa.bind (go n (.exp 1) : Pa Nd)) (funext fun y=>need_then _ _ _)]
 exact At.bind hr.tail (Sb.go hk _ _ hr.tail) (fun _ _ _=>At.refl _ _)
theorem term_paren {n : Nat} {r : List Tk} (hr : Fits r) (ht : tok r = (13,lpar)) : At r (go (n + 1) .term : Pa Nd) (parenP n):=by
 refine term_brack ht (by decide) (by decide) (fun k hk=>?_)
 unfold brackK
 rw [if_pos (by decide)]
 unfold parenP groupP
 rw [need_then,bind_assoc]
 refine at_passed (by rw [ht];decide) (At.bind hr.tail (Sb.go hk _ _ hr.tail) (fun x r' hr'=>?_))
 rw [need_then]
 exact At.refl _ _
theorem term_object {n : Nat} {r : List Tk} (hr : Fits r) (ht : tok r = (13,lbrace)) : At r (go (n + 1) .term : Pa Nd) (objectP n):=by
 refine term_brack ht (by decide) (by decide) (fun k hk=>?_)
 unfold brackK
 rw [if_neg (by decide),if_neg (by decide),if_pos (by decide)]
 unfold objectP
 refine at_passed (by rw [ht];decide) (At.look (At.ite (fun _=>At.refl _ _) fun _=>?_))
 refine At.trans (At.bind hr.tail (pairs_tie k hk _ hr.tail) (fun l r' hr'=>At.refl _ (.ret (mk 10 eB l)))) ?_
 rw [bind_assoc]
 refine At.bind hr.tail (Sb.of_le (listP_more _ hk) _ hr.tail) (fun l r' hr'=>?_)
 rw [need_then]
 exact At.refl _ _
theorem term_choice {n : Nat} {r : List Tk} (hr : Fits r) (ht : tok r = (3,wif)) : At r (go (n + 1) .term : Pa Nd) (choiceP n):=by
 refine term_word (by rw [ht]) (fun k hk=>?_)
 rw [ht]
 unfold wordK
 rw [if_pos rfl]
 unfold choiceP
 refine at_passedW (by rw [ht];decide) ?_
 refine At.trans (At.bind hr.tail (ifs_tie k hk _ hr.tail) (fun l r' hr'=>At.refl _ _)) ?_
 rw [bind_assoc]
 refine At.bind hr.tail (Sb.of_le (listP_more _ hk) _ hr.tail) (fun l r' hr'=>?_)
 rw [ret_bind]
 exact At.look (At.ite (fun _=>At.move (At.bind hr'.tail (Sb.go hk _ _ hr'.tail) (fun _ _ _=>At.refl _ _))) fun _=>At.refl _ _)
theorem term_reduce {n : Nat} {r : List Tk} (hr : Fits r) (ht : tok r = (3,wreduce)) : At r (go (n + 1) .term : Pa Nd) (reduceP n):=by
 refine term_word (by rw [ht]) (fun k hk=>?_)
 rw [ht]
 unfold wordK
 rw [if_neg (by decide),if_pos rfl]
 exact reduce_tie hk hr (by rw [ht];decide)
theorem term_each {n : Nat} {r : List Tk} (hr : Fits r) (ht : tok r = (3,wforeach)) : At r (go (n + 1) .term : Pa Nd) (eachP n):=by
 refine term_word (by rw [ht]) (fun k hk=>?_)
 rw [ht]
 unfold wordK
 rw [if_neg (by decide),if_neg (by decide),if_pos rfl]
 exact each_tie hk hr (by rw [ht];decide)
theorem term_leave {n : Nat} {r : List Tk} (hr : Fits r) (ht : tok r = (3,wbreak)) : At r (go (n + 1) .term : Pa Nd) (need wbreak ((cutP 5).bind fun s=>.ret (mk 28 s []))):=by
 refine term_word (by rw [ht]) (fun k hk=>?_)
 rw [ht]
 unfold wordK
 rw [if_neg (by decide),if_neg (by decide),if_neg (by decide),if_pos rfl,text_bind]
 exact at_passedW (by rw [ht];decide) (At.refl _ _)
theorem term_call {n : Nat} {r : List Tk} (hr : Fits r) (ht : (tok r).1 = 3) (hk : Sg.key (tok r).2.data.toList = false) : At r (go (n + 1) .term : Pa Nd) (callP n):=by
 refine term_word ht (fun k hkn=>?_)
 unfold wordK callP
 have hne : ∀ s : ByteArray,Sg.key s.data.toList = true → ¬ (tok r).2 = s:=fun s hs e=>by rw [e,hs] at hk;cases hk
 rw [if_neg (hne _ (by decide +kernel)),if_neg (hne _ (by decide +kernel)),if_neg (hne _ (by decide +kernel)),if_neg (hne _ (by decide +kernel)),hk,if_neg Bool.false_ne_true]
 refine at_lookR ?_
 rw [if_neg (by rw [ht];decide)]
 refine At.move (At.look (At.ite (fun hu=>?_) fun _=>At.refl _ _))
 refine At.bind hr.tail (At.trans (args_tie k hkn _ hr.tail) (at_passed hu (At.bind hr.tail.tail (Sb.of_le (listP_more _ hkn) _ hr.tail.tail) fun _ _ _=>At.refl _ _))) (fun _ _ _=>At.refl _ _)
theorem term_field {n : Nat} {r : List Tk} (hr : Fits r) (ht : (tok r).1 = 4) : At r (go (n + 1) .term : Pa Nd) ((cutP 4).bind fun s=>.ret (mk 3 s [])):=by
 refine at_term ?_
 unfold termK
 rw [if_pos (by rw [ht];decide)]
 intro o ho
 rw [bind_ok (cutP_run (by rw [ht];decide))]
 exact ho
theorem term_value {n : Nat} {r : List Tk} (hr : Fits r) (ht : (tok r).1 = 5) : At r (go (n + 1) .term : Pa Nd) ((cutP 5).bind fun s=>.ret (mk 4 s [])):=by
 refine at_term ?_
 unfold termK
 rw [if_neg (by rw [ht];decide),if_pos (by rw [ht];decide)]
 intro o ho
 rw [bind_ok (cutP_run (by rw [ht];decide))]
 exact ho
theorem term_number {n : Nat} {r : List Tk} (hr : Fits r) (ht : (tok r).1 = 6) : At r (go (n + 1) .term : Pa Nd) ((ofP 6).bind fun s=>.ret (mk 5 s [])):=by
 refine at_term ?_
 unfold termK
 rw [if_neg (by rw [ht];decide),if_neg (by rw [ht];decide),if_pos (by rw [ht];decide)]
 intro o ho
 rw [bind_ok (ofP_run (by rw [ht];decide))]
 exact ho
theorem term_format {n : Nat} {r : List Tk} (hr : Fits r) (ht : (tok r).1 = 12) : At r (go (n + 1) .term : Pa Nd) (formatP n):=by
 refine at_term ?_
 unfold termK
 rw [if_neg (by rw [ht];decide),if_neg (by rw [ht];decide),if_neg (by rw [ht];decide),if_neg (by simp [op,ht]),if_neg (by simp [op,ht]),if_pos (by rw [ht];decide)]
 intro o ho
 unfold formatP
 rw [bind_ok (ofP_run (by rw [ht];decide))]
 have h2 : (if ((tok r.tail).1 != 7) = true then .ret (mk 8 (tok r).2 []) else (go n (.strF (tok r).2) : Pa Nd)).run r.tail = some o:=ho
 show (if ((tok r.tail).1 == 7) = true then quotP (pieceP (go n (.exp 1))) n (tok r).2 else .ret (mk 8 (tok r).2 [])).run r.tail = some o
 cases h7 : ((tok r.tail).1 == 7) with
 | true =>
  rw [show ((tok r.tail).1 != 7) = false by simp [bne,h7],if_neg Bool.false_ne_true] at h2
  rw [if_pos rfl]
  exact strF_tie2 (Nat.le_refl n) _ _ hr.tail o h2
 | false =>
  rw [show ((tok r.tail).1 != 7) = true by simp [bne,h7],if_pos rfl] at h2
  rw [if_neg Bool.false_ne_true]
  exact h2
theorem term_text {n : Nat} {r : List Tk} (hr : Fits r) (ht : (tok r).1 = 7) : At r (go (n + 1) .term : Pa Nd) (textP n):=by
 refine at_term ?_
 unfold termK
 rw [if_neg (by rw [ht];decide),if_neg (by rw [ht];decide),if_neg (by rw [ht];decide),if_neg (by simp [op,ht]),if_neg (by simp [op,ht]),if_neg (by rw [ht];decide),if_pos (by rw [ht];decide)]
 exact str_tie2 (Nat.le_refl n) _ hr
theorem sort_op {t : Tk} {s : ByteArray} (h : sortT t = (13,s)) : t = (13,s):=by
 unfold sortT at h
 split at h
 ·exact h
 ·rename_i hc
  exact absurd (.inl (congrArg Prod.fst h)) hc
theorem sort_word {t : Tk} {s : ByteArray} (hs : s ≠ eB) (h : sortT t = (3,s)) : t = (3,s):=by
 unfold sortT at h
 split at h
 ·exact h
 ·exact absurd (congrArg Prod.snd h).symm hs
theorem sort_plain {t : Tk} (h : sortT t = (3,eB)) : t.1 = 3 ∧ Sg.key t.2.data.toList = false:=by
 unfold sortT at h
 split at h
 ·rename_i hc
  subst h
  exact ⟨rfl,by decide +kernel⟩
 ·rename_i hc
  have h3 : t.1 = 3:=congrArg Prod.fst h
  refine ⟨h3,?_⟩
  cases hk : Sg.key t.2.data.toList with
  | false=>rfl
  | true=>exact absurd (.inr ⟨h3,hk⟩) hc
theorem sort_kind {t : Tk} {k : Int} (h : sortT t = (k,eB)) : t.1 = k:=by
 unfold sortT at h
 split at h
 ·exact congrArg Prod.fst h
 ·exact congrArg Prod.fst h
theorem sort_of_kind {t : Tk} {k : Int} (h : t.1 = k) (h13 : k ≠ 13) (h3 : k ≠ 3) : sortT t = (k,eB):=by
 unfold sortT
 rw [if_neg (by rintro (e | e);exact h13 (h.symm.trans e);exact h3 (h.symm.trans e.1)),h]
theorem sort_of_op {t : Tk} (h : t.1 = 13) : sortT t = t:=by
 unfold sortT
 rw [if_pos (.inl h)]
theorem sort_of_key {t : Tk} (h : t.1 = 3) (hk : Sg.key t.2.data.toList = true) : sortT t = t:=by
 unfold sortT
 rw [if_pos (.inr ⟨h,hk⟩)]
theorem sort_of_plain {t : Tk} (h : t.1 = 3) (hk : Sg.key t.2.data.toList = false) : sortT t = (3,eB):=by
 unfold sortT
 rw [if_neg (by rintro (e | e);exact absurd (h.symm.trans e) (by decide);rw [hk] at e;cases e.2),h]
theorem meth_inj {f g : FuncId} {B : Nat} (h : methV f B = methV g B) : f = g:=by
 unfold methV at h
 injection h with h1
 injection h1
def keysE : List Tk:=[(13,dot),(13,dots),(13,lbr),(13,lpar),(13,lbrace),(3,wif),(3,wreduce),(3,wforeach),(3,wbreak),(3,eB),(4,eB),(5,eB),(6,eB),(12,eB),(7,eB)]
theorem no_key {B : Nat} {s : Tk} (hno : ∀ p ∈ termsL B,p.1 ≠ s) (h : s ∈ keysE) : False:=by
 obtain ⟨p,hp,e⟩:=List.mem_map.1 (show s ∈ (termsL B).map (·.1) from h)
 exact hno p hp e
theorem term_none {n B : Nat} {r : List Tk} {o : Out Nd} (hno : ∀ p ∈ termsL B,p.1 ≠ sortT (tok r)) (hrun : (go (n + 1) .term : Pa Nd).run r = some o) : o = .bad r:=by
 have h2 : (termK n (tok r)).run r = some o:=hrun
 obtain ⟨t,ht⟩ : ∃ t,tok r = t:=⟨_,rfl⟩
 rw [ht] at hno h2
 have hk : ∀ k : Int,k ≠ 13 → k ≠ 3 → (k,eB) ∈ keysE → (t.1 == k) = false:=fun k h13 h3 hm=>by
  cases e : (t.1 == k) with
  | false=>rfl
  | true=>exact (no_key hno (by rw [sort_of_kind (eq_of_beq e) h13 h3];exact hm)).elim
 have ho : ∀ s,(13,s) ∈ keysE → op s t = false:=fun s hm=>by
  cases e : op s t with
  | false=>rfl
  | true =>
   have e2:=op_text e
   have e1 : t.1 = 13:=by
    unfold op at e
    exact eq_of_beq (Bool.and_eq_true_iff.1 e).1
   exact (no_key hno (by rw [sort_of_op e1,show t = (13,s) from Prod.ext e1 e2];exact hm)).elim
 unfold termK at h2
 rw [hk 4 (by decide) (by decide) (by simp [keysE]),hk 5 (by decide) (by decide) (by simp [keysE]),hk 6 (by decide) (by decide) (by simp [keysE]),ho dots (by simp [keysE]),ho dot (by simp [keysE]),hk 12 (by decide) (by decide) (by simp [keysE]),hk 7 (by decide) (by decide) (by simp [keysE])] at h2
 simp only [Bool.false_eq_true,if_false] at h2
 split at h2
 ·cases n with
  | zero=>cases h2
  | succ n =>
   have h3 : (brackK n (tok r)).run r = some o:=h2
   rw [ht] at h3
   unfold brackK at h3
   rw [ho lpar (by simp [keysE]),ho lbr (by simp [keysE]),ho lbrace (by simp [keysE])] at h3
   simp only [Bool.false_eq_true,if_false] at h3
   exact (Option.some.inj h3).symm
 ·split at h2
  ·rename_i h13 e3
   have e3 : t.1 = 3:=eq_of_beq e3
   cases n with
   | zero=>cases h2
   | succ n =>
    have h3 : (wordK n (tok r)).run r = some o:=h2
    rw [ht] at h3
    have hkey : Sg.key t.2.data.toList = true:=by
     cases hk2 : Sg.key t.2.data.toList with
     | true=>rfl
     | false=>exact (no_key hno (by rw [sort_of_plain e3 hk2];simp [keysE])).elim
    have hw : ∀ s,(3,s) ∈ keysE → ¬ t.2 = s:=fun s hm e=>no_key hno (by rw [sort_of_key e3 hkey,show t = (3,s) from Prod.ext e3 e];exact hm)
    unfold wordK at h3
    rw [if_neg (hw _ (by simp [keysE])),if_neg (hw _ (by simp [keysE])),if_neg (hw _ (by simp [keysE])),if_neg (hw _ (by simp [keysE])),hkey,if_pos rfl] at h3
    exact (Option.some.inj h3).symm
  ·exact (Option.some.inj h2).symm
end Go.Proofs.YtlklhkkjcfmefaaGreatDoor.pa
namespace Go.Proofs.YtlklhkkjcfmefaaGreatDoor.pa
open Go.RowKit nd pr
theorem Tl.sb {α : Type} {E : Env} (hE : EnvOk E) {p q : Pa α} {R : α → Value → World → World → Prop} {g : FuncId} {args : Array Value} (h : Tl E q R g args) (hs : Sb p q) : Tl E p R g args :=
 fun W i o hp hr=>h W i o hp (hs _ (fun x hx=>hE.fit x (List.mem_of_mem_drop hx)) o hr)
theorem Tl.none {α : Type} {E : Env} {R : α → Value → World → World → Prop} {g : FuncId} {args : Array Value} : Tl E (.out : Pa α) R g args:=fun W i o hp hr=>by cases hr
theorem en_root : Enters 64:=enters_of Tryz.func64 (by kernel_rfl) rfl
theorem en_deep : Enters 65:=enters_of Tryz.func65 (by kernel_rfl) rfl
theorem en_array : Enters 66:=enters_of Tryz.func66 (by kernel_rfl) rfl
theorem en_paren : Enters 67:=enters_of Tryz.func67 (by kernel_rfl) rfl
theorem en_object : Enters 68:=enters_of Tryz.func68 (by kernel_rfl) rfl
theorem en_choice : Enters 70:=enters_of Tryz.func70 (by kernel_rfl) rfl
theorem en_reduce : Enters 71:=enters_of Tryz.func71 (by kernel_rfl) rfl
theorem en_each : Enters 72:=enters_of Tryz.func72 (by kernel_rfl) rfl
theorem en_leave : Enters 73:=enters_of Tryz.func73 (by kernel_rfl) rfl
theorem en_call : Enters 74:=enters_of Tryz.func74 (by kernel_rfl) rfl
theorem en_field : Enters 75:=enters_of Tryz.func75 (by kernel_rfl) rfl
theorem en_value : Enters 76:=enters_of Tryz.func76 (by kernel_rfl) rfl
theorem en_number : Enters 77:=enters_of Tryz.func77 (by kernel_rfl) rfl
theorem en_format : Enters 78:=enters_of Tryz.func78 (by kernel_rfl) rfl
theorem en_text : Enters 79:=enters_of Tryz.func79 (by kernel_rfl) rfl
structure Inv (E : Env) (n : Nat) : Prop where
 exp : ∀ m,1 ≤ m → Tl E (go n (.exp m) : Pa Nd) RN 158 #[pB E,.int .i64 m]
 operand : Tl E (go n .operand : Pa Nd) RN 186 #[pB E]
 post : Tl E (go n .post : Pa Nd) RN 159 #[pB E]
 term : Tl E (go n .term : Pa Nd) RN 188 #[pB E]
 text : Tl E (go n .str : Pa Nd) RN 79 #[pB E]
 pattern : Tl E (go n .pattern : Pa Nd) RN 160 #[pB E]
 keypat : Tl E (go n .keypat : Pa Nd) RN 191 #[pB E]
 pair : Tl E (go n .pair : Pa Nd) RN 119 #[pB E]
 value : Tl E (go n .value : Pa Nd) RN 157 #[pB E]
 unit : Tl E (go n .unit : Pa Nd) RN 185 #[pB E]
theorem inv_zero (E : Env) : Inv E 0:=⟨fun _ _=>Tl.none,Tl.none,Tl.none,Tl.none,Tl.none,Tl.none,Tl.none,Tl.none,Tl.none,Tl.none⟩
theorem inv_term {E : Env} (hE : EnvOk E) {n : Nat} (hn : n ≤ 100000000) (h : Inv E n) (hpipe : Tl E (go n (.exp 1) : Pa Nd) RN 123 #[pB E]) (htext : Tl E (textP n) RN 79 #[pB E])
  (hpiece : Tl E (pieceP (go n (.exp 1))) RN 130 #[pB E]) (hgr : Tl E (groupP (go n (.exp 1))) RN 117 #[pB E]) :
  Tl E (go (n + 1) .term : Pa Nd) RN 188 #[pB E]:=by
 refine term_tl hE (fun t g hft hm=>?_) (fun r o _ hno hrun=>term_none hno hrun)
 unfold termsL at hm
 simp only [List.mem_cons,List.not_mem_nil,or_false,Prod.mk.injEq] at hm
 rcases hm with ⟨e,hg⟩ | ⟨e,hg⟩ | ⟨e,hg⟩ | ⟨e,hg⟩ | ⟨e,hg⟩ | ⟨e,hg⟩ | ⟨e,hg⟩ | ⟨e,hg⟩ | ⟨e,hg⟩ | ⟨e,hg⟩ | ⟨e,hg⟩ | ⟨e,hg⟩ | ⟨e,hg⟩ | ⟨e,hg⟩ | ⟨e,hg⟩ <;> obtain rfl:=meth_inj hg
 ·exact ⟨rootP n,root_tl hE htext,en_root,fun r o hr ht=>term_root hr (ht.trans (sort_op e)) o⟩
 ·exact ⟨_,deep_tl hE,en_deep,fun r o hr ht=>term_deep hr (ht.trans (sort_op e)) o⟩
 ·exact ⟨arrayP n,array_tl hE (pipeTo_tl hE (by simp [signs]) hpipe),en_array,fun r o hr ht=>term_array hr (ht.trans (sort_op e)) o⟩
 ·exact ⟨parenP n,paren_tl hE hgr,en_paren,fun r o hr ht=>term_paren hr (ht.trans (sort_op e)) o⟩
 ·exact ⟨objectP n,object_tl hE h.pair n hn,en_object,fun r o hr ht=>term_object hr (ht.trans (sort_op e)) o⟩
 ·exact ⟨choiceP n,choice_tl hE hpipe (branch_tl hE hpipe) n hn,en_choice,fun r o hr ht=>term_choice hr (ht.trans (sort_word (by decide) e)) o⟩
 ·exact ⟨reduceP n,reduce_tl hE (folded_tl hE hpipe h.post h.pattern (by simp [words])),en_reduce,fun r o hr ht=>term_reduce hr (ht.trans (sort_word (by decide) e)) o⟩
 ·exact ⟨eachP n,each_tl hE (folded_tl hE hpipe h.post h.pattern (by simp [words])) (fun r r' l hl=>foldP_len r r' l hl) hpipe,en_each,fun r o hr ht=>term_each hr (ht.trans (sort_word (by decide) e)) o⟩
 ·exact ⟨_,leave_tl hE,en_leave,fun r o hr ht=>term_leave hr (ht.trans (sort_word (by decide) e)) o⟩
 ·exact ⟨callP n,call_tl hE hpipe n hn,en_call,fun r o hr ht=>term_call hr (by rw [ht];exact (sort_plain e).1) (by rw [ht];exact (sort_plain e).2) o⟩
 ·exact ⟨_,field_tl hE,en_field,fun r o hr ht=>term_field hr (by rw [ht];exact sort_kind e) o⟩
 ·exact ⟨_,value_tl hE,en_value,fun r o hr ht=>term_value hr (by rw [ht];exact sort_kind e) o⟩
 ·exact ⟨_,number_tl hE,en_number,fun r o hr ht=>term_number hr (by rw [ht];exact sort_kind e) o⟩
 ·exact ⟨formatP n,format_tl hE hpiece n hn,en_format,fun r o hr ht=>term_format hr (by rw [ht];exact sort_kind e) o⟩
 ·exact ⟨textP n,htext,en_text,fun r o hr ht=>term_text hr (by rw [ht];exact sort_kind e) o⟩
theorem inv_step {E : Env} (hE : EnvOk E) {n : Nat} (hn : n ≤ 100000000) (h : Inv E n) : Inv E (n + 1):=by
 have hpipe : Tl E (go n (.exp 1) : Pa Nd) RN 123 #[pB E]:=pipe_tl hE (h.exp 1 (by decide))
 have hneg : Tl E (go n (.exp 9) : Pa Nd) RN 213 #[pB E]:=negated_tl hE (h.exp 9 (by decide))
 have hpiece : Tl E (pieceP (go n (.exp 1))) RN 130 #[pB E]:=piece_tl hE hpipe
 have hgr : Tl E (groupP (go n (.exp 1))) RN 117 #[pB E]:=grouped_tl hE (pipeTo_tl hE (by simp [signs]) hpipe)
 have htext : Tl E (textP n) RN 79 #[pB E]:=text_tl hE hpiece n hn
 have hkey : Tl E (keyP n) RN 155 #[pB E]:=key_tl hE hgr htext
 exact ⟨fun m hm=>(exp_tl hE h.operand h.exp n m hm).sb hE (exp_tie n m),
  (operand_tl hE hneg hpipe h.post h.pattern n hn).sb hE (operand_tie n),
  (post_tl hE h.term (qp:=withP (go n (.exp 1))) (fun x d S W i o a c hk ho hp hr=>picked_of hE hpipe (pipeTo_tl hE (by simp [signs]) hpipe) d x a c W i o hk ho hp hr) (fun x d r r' y hy=>within_tail hy) h.text n).sb hE (post_tie n),
  inv_term hE hn h hpipe htext hpiece hgr,
  htext.sb hE (str_tie n),
  (pattern_tl hE h.pattern h.keypat n hn).sb hE (pattern_tie n),
  (keyPat_tl hE hkey h.pattern).sb hE (keypat_tie n),
  (pair_tl hE hkey h.value).sb hE (pair_tie n),
  (given_tl hE h.unit h.value).sb hE (value_tie n),
  (unit_tl hE h.unit h.post).sb hE (unit_tie n)⟩
theorem inv {E : Env} (hE : EnvOk E) : ∀ n,n ≤ 100000001 → Inv E n
 | 0,_=>inv_zero E
 | n + 1,h=>inv_step hE (by omega) (inv hE n (by omega))
theorem outer_all {E : Env} (hE : EnvOk E) : ∀ n,n ≤ 100000000 → Tl E (outR n) RN 83 #[pB E]
 | 0,_=>fun W i o hp hr=>by
  have h2 : (if word wdef (tok (E.l.drop i)) = true then Pa.out else Pa.out : Pa Nd).run (E.l.drop i) = some o:=hr
  split at h2 <;> cases h2
 | n + 1,hn=>(outer_tl hE (pipe_tl hE ((inv hE (n + 1) (by omega)).exp 1 (by decide))) (outer_all hE n (by omega)) (n + 1) hn).sb hE (fun r hr=>by
  unfold outR
  exact At.look (At.ite (fun h=>deff_top (k:=n) (n:=n + 1) (by omega) hr h) fun _=>At.refl _ _))
theorem bring_all {E : Env} (hE : EnvOk E) (n : Nat) (hn : n ≤ 100000000) : Tl E (bringP n) RN 81 #[pB E]:=bring_tl hE (plain_tl hE n hn) (called_tl hE)
theorem program_tie (n : Nat) : Sb (go (n + 1) .program : Pa Nd) (brA (bringP n) (outR n) n []):=by
 refine Sb.trans (q:=(go n .brings : Pa (List Nd)).bind fun l=>progT (outR n) ([] ++ l)) (fun r hr=>At.refl _ _) ?_
 refine Sb.trans (brings_tie (n:=n) (outR n) n (Nat.le_refl n) []) ?_
 exact brA_tie (fun r hr hw=>At.trans (Sb.go (Nat.le_succ n) .bring r hr) (bring_tie n hr hw)) n []
theorem program_all {E : Env} (hE : EnvOk E) (n : Nat) (hn : n ≤ 100000000) : Tl E (go (n + 1) .program : Pa Nd) RN 45 #[pB E] :=
 (program_tl hE (bring_all hE n hn) (outer_all hE n hn) n hn).sb hE (program_tie n)
end Go.Proofs.YtlklhkkjcfmefaaGreatDoor.pa
namespace Go.Proofs.YtlklhkkjcfmefaaGreatDoor.pa
open Go.Lib (hid)
open Go.RowKit nd pr sx ed
def WholeTo (l : List Tk) (o : Out Nd) (W : World) (e : Ending) (w' : World) : Prop:=Below W.heap.size W w' ∧ match o with
 | .ok r x=>∃ a c,e = .returned (.tuple #[.agg (nV x a c),.int .u16 0,.int .i64 0]) ∧ KidsAt (Fr W.heap.size w') w' x.kids (.slice a x.kids.len c)
 | .bad r=>e = .returned (.tuple #[.agg nodeZ,.int .u16 22,.int .i64 ((l.length - r.length : Nat) : Int)])
theorem lev_below {W W' : World} (h : LvAt W) (hb : Below W.heap.size W W') : LvAt W':=h.own hb
theorem whole_calls (l : List Tk) (lv : Value) (W : World) (hit : ItemsAt (Lt W.heap.size) W lv l) (hfit : ∀ t ∈ l,FitT t) (hlen : l.length ≤ 1000000) (hlev : LvAt W) (o : Out Nd) (ho : (go (fuel l) .program : Pa Nd).run l = some o) :
  Calls Tryz.prog 28 #[lv] W (WholeTo l o W):=by
 obtain ⟨ao,cap,rfl,hm⟩:=hit.slice
 have hmf : ∀ (fn : Go.Fn) (first cap : Array Value) (w : World),(Instr.makeFunc fn first cap).run Tryz.prog w = .ok (.func fn first cap) w:=fun _ _ _ _=>rfl
 obtain ⟨W1,hW1⟩ : ∃ W1,W.alloc (.cells nodeZ 32) = W1:=⟨_,rfl⟩
 obtain ⟨W2,hW2⟩ : ∃ W2,W1.alloc (.cells #[.int .u16 0] 34) = W2:=⟨_,rfl⟩
 obtain ⟨W3,hW3⟩ : ∃ W3,W2.alloc (.cells #[.int .i64 0] 3) = W3:=⟨_,rfl⟩
 have hb1 : Below W.heap.size W W1:=by rw [← hW1];exact (Below.refl _ _).alloc (Nat.le_refl _) _
 have hb2 : Below W1.heap.size W1 W2:=by rw [← hW2];exact (Below.refl _ _).alloc (Nat.le_refl _) _
 have hb3 : Below W2.heap.size W2 W3:=by rw [← hW3];exact (Below.refl _ _).alloc (Nat.le_refl _) _
 have s1 : W1.heap.size = W.heap.size + 1:=by rw [← hW1];simp
 have s2 : W2.heap.size = W.heap.size + 2:=by rw [← hW2];simp [s1]
 have s3 : W3.heap.size = W.heap.size + 3:=by rw [← hW3];simp [s2]
 have k1 : Blk W3 W.heap.size 32 nodeZ:=((show Blk W1 W.heap.size 32 nodeZ by rw [← hW1];exact Blk.new W _ _).own hb2).own hb3
 have k2 : Blk W3 (W.heap.size + 1) 34 #[.int .u16 0]:=(show Blk W2 (W.heap.size + 1) 34 #[.int .u16 0] by rw [← hW2,← s1];exact Blk.new W1 _ _).own hb3
 have k3 : Blk W3 (W.heap.size + 2) 3 #[.int .i64 0]:=by rw [← hW3,← s2];exact Blk.new W2 _ _
 have hbl : Below W.heap.size W W3:=(hb1.trans (hb2.mono hb1.size)).trans (hb3.mono (by omega))
 have hit3 : ItemsAt (Lt W3.heap.size) W3 (.slice ao l.length cap) l:=(hit.below hbl (Nat.le_refl _)).mono hbl.size
 have hlev3:=lev_below hlev hbl
 have hst:=start_calls W3 ao l.length cap
 obtain ⟨n,hn,hn1⟩ : ∃ n,fuel l = n + 1 ∧ n ≤ 100000000:=⟨50 * l.length + 49,by unfold fuel;omega,by omega⟩
 rw [hn] at ho
 have HPROG:=hid (fun (T : Nat) (tl : List (Tk × Value)) (w1 : World) (hb : Below W3.heap.size W3 w1) (hT : W3.heap.size + 2 ≤ T) (hblk : Blk w1 (W3.heap.size + 1) 100 #[.slice ao l.length cap,.int .i64 0,.map (some T),.map (some W3.heap.size)]) (hmO : MapT w1 W3.heap.size []) (hmT : MapT w1 T tl) (htl : ∀ p,p ∈ tl ↔ p ∈ termsL (W3.heap.size + 1)) =>
  show Calls Tryz.prog 45 #[.pointer (some ⟨W3.heap.size + 1,0,none⟩)] w1 (Post ⟨W3.heap.size + 1,W3.heap.size,T,tl,l,.slice ao l.length cap,W3⟩ RN w1 o) from
  program_all (E:=⟨W3.heap.size + 1,W3.heap.size,T,tl,l,.slice ao l.length cap,W3⟩) ⟨Nat.le_succ _,Nat.le_refl _,by show W3.heap.size ≤ T;omega,by show T ≠ W3.heap.size;omega,htl,hfit,hlen,hlev3,hit3⟩ n hn1 w1 0 o
   ⟨hblk,Nat.zero_le _,hb,hmT,⟨[],hmO,fun p hp=>by cases hp⟩⟩ (by rw [show (⟨W3.heap.size + 1,W3.heap.size,T,tl,l,.slice ao l.length cap,W3⟩ : Env).l.drop 0 = l from rfl];exact ho))
 have HW1:=hid hW1;have HW2:=hid hW2;have HW3:=hid hW3;have S3:=hid s3
 have K1:=hid k1;have K2:=hid k2;have K3:=hid k3;have HBL:=hid hbl;have HST:=hid hst
 clear hb1 hb2 hb3 s1 s2 s3 k1 k2 k3 hbl hit3 hlev3 hst hW1 hW2 hW3 hn hn1 ho hit hlev hlen hfit hm
 go_enter_defers Tryz.func28,Tryz.ntmps28
 go_upto_region 2 with fail
 rw [HW1.out,HW2.out,HW3.out]
 go_wp2_with fail
 ((with_reducible refine HST.out.mono ?_);rintro e w1 ⟨T,rfl,hb,hT,hblk,hmO,tl,hmT,htl⟩)
 have HP:=hid (HPROG.out T tl w1 hb hT hblk hmO hmT htl)
 have HB1:=hid hb
 clear hb hT hblk hmO hmT htl HPROG HST
 go_wp2_with fail
 ((with_reducible refine HP.out.mono ?_);rintro e w2 ⟨hk,hm⟩)
 have n1' : Blk w1 W.heap.size 32 nodeZ:=K1.out.own HB1.out
 have n2' : Blk w1 (W.heap.size + 1) 34 #[.int .u16 0]:=K2.out.own HB1.out
 have n3' : Blk w1 (W.heap.size + 2) 3 #[.int .i64 0]:=K3.out.own HB1.out
 have hs3:=S3.out
 have n1 : Blk w2 W.heap.size 32 nodeZ:=n1'.but hk (fun e=>by rcases e with e | e <;> simp at e <;> omega)
 have n2 : Blk w2 (W.heap.size + 1) 34 #[.int .u16 0]:=n2'.but hk (fun e=>by rcases e with e | e <;> simp at e <;> omega)
 have n3 : Blk w2 (W.heap.size + 2) 3 #[.int .i64 0]:=n3'.but hk (fun e=>by rcases e with e | e <;> simp at e <;> omega)
 have h12 : Below W.heap.size W w2:=by
  have h1 : Below W.heap.size W w1:=HBL.out.trans (HB1.out.mono HBL.out.size)
  exact h1.trans ⟨hk.os,hk.tape,hk.output,hk.size,fun k hk2=>hk.block k (Nat.lt_of_lt_of_le hk2 h1.size) (fun e=>by rcases e with e | e <;> simp at e <;> omega)⟩
 clear n1' n2' n3'
 have H12:=hid h12;have N1:=hid n1;have N2:=hid n2;have N3:=hid n3
 have HS1:=hid HB1.out.size
 have HS12:=hid (Nat.le_trans HB1.out.size hk.size)
 clear h12 n1 n2 n3 hk HP HB1
 cases o with
 | bad r =>
  obtain ⟨j,hj,hd,rfl⟩:=hm
  have HD:=hid (show ((l.length - r.length : Nat) : Int) = (j : Int) by
   have hj : j ≤ l.length:=hj
   rw [show r = l.drop j from hd,List.length_drop];omega)
  clear hj hd hs3
  go_wp2_with fail
  refine leaves_cons (f:=43) (args:=#[.pointer (some ⟨W.heap.size + 1,0,none⟩),.pointer (some ⟨W.heap.size + 2,0,none⟩)]) (by simp) (by simp [go_sem]) ?_
  refine (catch_bad (W.heap.size + 1) (W.heap.size + 2) (by omega) j w2 N2.out N3.out).mono ?_
  rintro e u' w'' ⟨rfl,rfl,rfl⟩
  have g1 : Blk ((w2.setCell ⟨W.heap.size + 1,0,none⟩ (.int .u16 22)).setCell ⟨W.heap.size + 2,0,none⟩ (.int .i64 (j : Int))) W.heap.size 32 nodeZ:=(N1.out.other (by omega) _).other (by omega) _
  have g2 : Blk ((w2.setCell ⟨W.heap.size + 1,0,none⟩ (.int .u16 22)).setCell ⟨W.heap.size + 2,0,none⟩ (.int .i64 (j : Int))) (W.heap.size + 1) 34 #[.int .u16 22]:=(N2.out.set (o:=0) _).other (by omega) _
  have g3 : Blk ((w2.setCell ⟨W.heap.size + 1,0,none⟩ (.int .u16 22)).setCell ⟨W.heap.size + 2,0,none⟩ (.int .i64 (j : Int))) (W.heap.size + 2) 3 #[.int .i64 (j : Int)]:=(N3.out.other (by omega) _).set (o:=0) _
  have c0:=g1.cell 0;have c1:=g1.cell 1;have c2:=g1.cell 2;have d0:=g2.cell 0;have i0:=g3.cell 0
  refine ⟨.tuple #[.agg nodeZ,.int .u16 22,.int .i64 (j : Int)],?_,(H12.out.setCell (p:=⟨W.heap.size + 1,0,none⟩) (by simp) _).setCell (p:=⟨W.heap.size + 2,0,none⟩) (by simp) _,?_⟩
  ·simp [results,Tryz.results28,go_sem,c0,c1,c2,d0,i0]
  ·show _ = _
   rw [HD.out]
 | ok r x =>
  obtain ⟨v,j,rfl,hps,hd,hR⟩:=hm
  obtain ⟨a,c,rfl,hx⟩:=kids_new (n:=W.heap.size + 3) hR (by have:=HS1.out;omega)
  have hzero : HBL.out.size = HBL.out.size:=rfl
  have HX:=hid hx
  clear hx hd hR hps hs3 hzero
  have a0:=N1.out.cell 0;have a1:=N1.out.cell 1;have a2:=N1.out.cell 2;have z0:=N1.out.frozen 0;have z1:=N1.out.frozen 1;have z2:=N1.out.frozen 2
  have m2 : Blk (((w2.setCell ⟨W.heap.size,0,none⟩ (.int .i64 x.k)).setCell ⟨W.heap.size,1,none⟩ (.string x.t)).setCell ⟨W.heap.size,2,none⟩ (.slice a x.kids.len c)) (W.heap.size + 1) 34 #[.int .u16 0]:=((N2.out.other (by omega) _).other (by omega) _).other (by omega) _
  have e0:=m2.cell 0;have ez:=m2.frozen 0
  have m3 : Blk ((((w2.setCell ⟨W.heap.size,0,none⟩ (.int .i64 x.k)).setCell ⟨W.heap.size,1,none⟩ (.string x.t)).setCell ⟨W.heap.size,2,none⟩ (.slice a x.kids.len c)).setCell ⟨W.heap.size + 1,0,none⟩ (.int .u16 0)) (W.heap.size + 2) 3 #[.int .i64 0]:=(((N3.out.other (by omega) _).other (by omega) _).other (by omega) _).other (by omega) _
  have i0:=m3.cell 0;have iz:=m3.frozen 0
  have G2:=hid m2;have G3:=hid m3
  clear m2 m3
  go_wp2_with fail
  refine leaves_cons (f:=43) (args:=#[.pointer (some ⟨W.heap.size + 1,0,none⟩),.pointer (some ⟨W.heap.size + 2,0,none⟩)]) (by simp) (by simp [go_sem]) ?_
  refine (catch_none _ _ _).mono ?_
  rintro e u' w'' ⟨rfl,rfl,rfl⟩
  have g1 : Blk (((((w2.setCell ⟨W.heap.size,0,none⟩ (.int .i64 x.k)).setCell ⟨W.heap.size,1,none⟩ (.string x.t)).setCell ⟨W.heap.size,2,none⟩ (.slice a x.kids.len c)).setCell ⟨W.heap.size + 1,0,none⟩ (.int .u16 0)).setCell ⟨W.heap.size + 2,0,none⟩ (.int .i64 0)) W.heap.size 32 (nV x a c):=((set3b N1.out _ _ _).other (by omega) _).other (by omega) _
  have g2 : Blk (((((w2.setCell ⟨W.heap.size,0,none⟩ (.int .i64 x.k)).setCell ⟨W.heap.size,1,none⟩ (.string x.t)).setCell ⟨W.heap.size,2,none⟩ (.slice a x.kids.len c)).setCell ⟨W.heap.size + 1,0,none⟩ (.int .u16 0)).setCell ⟨W.heap.size + 2,0,none⟩ (.int .i64 0)) (W.heap.size + 1) 34 #[.int .u16 0]:=(G2.out.set (o:=0) _).other (by omega) _
  have g3 : Blk (((((w2.setCell ⟨W.heap.size,0,none⟩ (.int .i64 x.k)).setCell ⟨W.heap.size,1,none⟩ (.string x.t)).setCell ⟨W.heap.size,2,none⟩ (.slice a x.kids.len c)).setCell ⟨W.heap.size + 1,0,none⟩ (.int .u16 0)).setCell ⟨W.heap.size + 2,0,none⟩ (.int .i64 0)) (W.heap.size + 2) 3 #[.int .i64 0]:=G3.out.set (o:=0) _
  have c0:=g1.cell 0;have c1:=g1.cell 1;have c2:=g1.cell 2;have d0:=g2.cell 0;have j0:=g3.cell 0
  refine ⟨.tuple #[.agg (nV x a c),.int .u16 0,.int .i64 0],?_,((H12.out.trans (set3o _ _ _ (Nat.le_refl _))).setCell (p:=⟨W.heap.size + 1,0,none⟩) (by simp) _).setCell (p:=⟨W.heap.size + 2,0,none⟩) (by simp) _,a,c,rfl,?_⟩
  ·simp [results,Tryz.results28,go_sem,c0,c1,c2,d0,j0]
  ·refine HX.out.keep (fun k e=>⟨by have:=e.1;omega,by simp;exact e.2⟩) (fun k e=>?_)
   have hk:=e.1
   rw [Below.heap_setCell _ _ _ k (fun e=>by simp at e;omega),Below.heap_setCell _ _ _ k (fun e=>by simp at e;omega)]
   exact set3h (by omega) _ _ _
end Go.Proofs.YtlklhkkjcfmefaaGreatDoor.pa
namespace Go.Proofs.YtlklhkkjcfmefaaGreatDoor.pa
open Go.Lib (hid)
open Go.RowKit nd pr sx ed
theorem cell_lt {W : World} {p : Addr} {v : Value} (h : W.cell? p = some v) : p.block < W.heap.size:=by
 rcases Nat.lt_or_ge p.block W.heap.size with h1 | h1
 ·exact h1
 ·simp [World.cell?,Array.getElem?_eq_none h1] at h
theorem RestAt.below {W W' : World} {v : Value} {l : List Tk} (h : RestAt W v l) (hb : Below W.heap.size W W') : RestAt W' v l:=fun g o cap e i hi=>by
 obtain ⟨x,a,m,c,h1,h2⟩:=h g o cap e i hi
 exact ⟨x,a,m,c,(hb.cell (cell_lt h1)).trans h1,(hb.cell (cell_lt h2)).trans h2⟩
theorem deepAt_lt : ∀ (l : List Tk) (n i j : Nat),deepAt n i l = some j → i ≤ j ∧ j < i + l.length
 | [],_,_,_,h=>by cases h
 | t :: r,n,i,j,h=>by
  have h2 : (if 256 < stepN n t then some i else deepAt (stepN n t) (i + 1) r) = some j:=h
  split at h2
  ·cases h2;exact ⟨Nat.le_refl _,by rw [List.length_cons];omega⟩
  ·have:=deepAt_lt r _ _ _ h2
   rw [List.length_cons];omega
def ProgTo (l : List Tk) (W : World) (e : Ending) (w' : World) : Prop:=Below W.heap.size W w' ∧ ∃ a c,e = .returned (.tuple #[.agg (nV (parse l).1 a c),.int .u16 (parse l).2.1,.int .i64 ((parse l).2.2 : Int)]) ∧ KidsAt (Fr W.heap.size w') w' (parse l).1.kids (.slice a (parse l).1.kids.len c)
theorem ProgTo.of {l : List Tk} {W w' : World} {e : Ending} {x : Nd} {er : Int} {k : Nat} (hp : parse l = (x,er,k)) (hb : Below W.heap.size W w') {a : Option Addr} {c : Nat} (he : e = .returned (.tuple #[.agg (nV x a c),.int .u16 er,.int .i64 (k : Int)])) (hk : KidsAt (Fr W.heap.size w') w' x.kids (.slice a x.kids.len c)) : ProgTo l W e w':=by
 unfold ProgTo
 rw [hp]
 exact ⟨hb,a,c,he,hk⟩
theorem program_calls (l : List Tk) (lv : Value) (W : World) (hit : ItemsAt (Lt W.heap.size) W lv l) (hrest : RestAt W lv l) (hfit : ∀ t ∈ l,FitT t) (hlen : l.length ≤ 1000000) (hlev : LvAt W) :
  Calls Tryz.prog 18 #[lv] W (ProgTo l W):=by
 obtain ⟨ao,cap,rfl,hm⟩:=hit.slice
 obtain ⟨W1,hW1⟩ : ∃ W1,W.alloc (.cells nodeZ 32) = W1:=⟨_,rfl⟩
 have hb1 : Below W.heap.size W W1:=by rw [← hW1];exact (Below.refl _ _).alloc (Nat.le_refl _) _
 have s1 : W1.heap.size = W.heap.size + 1:=by rw [← hW1];simp
 have k1 : Blk W1 W.heap.size 32 nodeZ:=by rw [← hW1];exact Blk.new W _ _
 have HI:=hid (fun w (hb : Below W.heap.size W w)=>hit.next hb)
 have HRE:=hid (fun w (hb : Below W.heap.size W w)=>hrest.below hb)
 have HLV:=hid (fun w (hb : Below W.heap.size W w)=>lev_below hlev hb)
 have HFIT:=hid hfit;have HLEN:=hid hlen;have HW1:=hid hW1;have S1:=hid s1;have K1:=hid k1;have HB1:=hid hb1
 have hdp:=deep_calls l _ W1 (HI.out W1 hb1) (HRE.out W1 hb1) hlen
 clear hit hrest hfit hlen hlev hW1 s1 k1 hb1 hm
 cases hd : deepAt 0 0 l with
 | some i =>
  rw [hd] at hdp
  have hlt:=(deepAt_lt l 0 0 i hd).2
  have ht : decide ((i : Int) < (l.length : Int)) = true:=decide_eq_true (by omega)
  have ht2 : decide (i < l.length) = true:=decide_eq_true (by omega)
  have HP:=hid (show parse l = (none0,21,i) by unfold parse;rw [hd])
  have HDP:=hid hdp
  clear hd hdp hlt
  go_enter Tryz.func18,Tryz.ntmps18
  go_upto_region 1 with fail
  rw [HW1.out]
  go_wp2_with fail
  ((with_reducible refine HDP.out.mono ?_);rintro e w1 ⟨rfl,hb⟩)
  have n1 : Blk w1 W.heap.size 32 nodeZ:=K1.out.own hb
  have c0:=n1.cell 0;have c1:=n1.cell 1;have c2:=n1.cell 2;have z0:=n1.frozen 0;have z1:=n1.frozen 1;have z2:=n1.frozen 2
  have G:=hid (set3b n1 (.int .i64 0) (.string ⟨#[]⟩) (.slice none 0 0))
  have HBL:=hid ((HB1.out.trans (hb.mono HB1.out.size)).trans (set3o (.int .i64 0) (.string ⟨#[]⟩) (.slice none 0 0) (Nat.le_refl W.heap.size)))
  clear hb n1
  go_wp2_with fail
  have g0:=G.out.cell 0;have g1:=G.out.cell 1;have g2:=G.out.cell 2
  refine bodyPost_ret (v:=.tuple #[.agg nodeZ,.int .u16 21,.int .i64 (i : Int)]) (by simp [results,Tryz.results18,go_sem,g0,g1,g2]) rfl ?_
  exact ProgTo.of HP.out HBL.out (a:=none) (c:=0) rfl (kids_nil _ _ _ _)
 | none =>
  rw [hd] at hdp
  obtain ⟨o,ho⟩:=parse_ok l
  have HP:=hid (parse_of hd ho)
  have ht : decide ((l.length : Int) < (l.length : Int)) = false:=decide_eq_false (by omega)
  have HWH:=hid (fun w (hb : Below W.heap.size W w)=>whole_calls l _ w (HI.out w hb) HFIT.out HLEN.out (HLV.out w hb) o ho)
  have HDP:=hid hdp
  clear hdp
  go_enter Tryz.func18,Tryz.ntmps18
  go_upto_region 1 with fail
  rw [HW1.out]
  go_wp2_with fail
  ((with_reducible refine HDP.out.mono ?_);rintro e w1 ⟨rfl,hb⟩)
  have HB2:=hid (HB1.out.trans (hb.mono HB1.out.size))
  have K2:=hid (K1.out.own hb)
  have HWC:=hid (HWH.out w1 HB2.out)
  clear hb
  go_wp2_with fail
  ((with_reducible refine HWC.out.mono ?_);rintro e w2 ⟨hb,hm⟩)
  have n1 : Blk w2 W.heap.size 32 nodeZ:=K2.out.own hb
  have c0:=n1.cell 0;have c1:=n1.cell 1;have c2:=n1.cell 2;have z0:=n1.frozen 0;have z1:=n1.frozen 1;have z2:=n1.frozen 2
  have HB3:=hid (HB2.out.trans (hb.mono HB2.out.size))
  have hsz : W.heap.size + 1 ≤ w1.heap.size:=K2.out.lt
  cases o with
  | bad r =>
   obtain rfl:=hm
   have hp:=HP.out
   have G:=hid (set3b n1 (.int .i64 0) (.string ⟨#[]⟩) (.slice none 0 0))
   have HBL:=hid (HB3.out.trans (set3o (.int .i64 0) (.string ⟨#[]⟩) (.slice none 0 0) (Nat.le_refl W.heap.size)))
   have HPP:=hid hp
   clear hb n1 hsz hp
   go_wp2_with fail
   have g0:=G.out.cell 0;have g1:=G.out.cell 1;have g2:=G.out.cell 2
   refine bodyPost_ret (v:=.tuple #[.agg nodeZ,.int .u16 22,.int .i64 ((l.length - r.length : Nat) : Int)]) (by simp [results,Tryz.results18,go_sem,g0,g1,g2]) rfl ?_
   exact ProgTo.of HPP.out HBL.out (a:=none) (c:=0) rfl (kids_nil _ _ _ _)
  | ok r x =>
   obtain ⟨a,c,rfl,hx⟩:=hm
   have hp:=HP.out
   have G:=hid (set3b n1 (.int .i64 x.k) (.string x.t) (.slice a x.kids.len c))
   have HBL:=hid (HB3.out.trans (set3o (.int .i64 x.k) (.string x.t) (.slice a x.kids.len c) (Nat.le_refl W.heap.size)))
   have HX:=hid (show KidsAt (Fr W.heap.size (((w2.setCell ⟨W.heap.size,0,none⟩ (.int .i64 x.k)).setCell ⟨W.heap.size,1,none⟩ (.string x.t)).setCell ⟨W.heap.size,2,none⟩ (.slice a x.kids.len c))) (((w2.setCell ⟨W.heap.size,0,none⟩ (.int .i64 x.k)).setCell ⟨W.heap.size,1,none⟩ (.string x.t)).setCell ⟨W.heap.size,2,none⟩ (.slice a x.kids.len c)) x.kids (.slice a x.kids.len c) from
    hx.keep (fun k e=>⟨by have:=e.1;omega,by rw [size3];exact e.2⟩) (fun k e=>set3h (by have:=e.1;omega) _ _ _))
   have HPP:=hid hp
   clear hb n1 hsz hp hx
   go_wp2_with fail
   have g0:=G.out.cell 0;have g1:=G.out.cell 1;have g2:=G.out.cell 2
   refine bodyPost_ret (v:=.tuple #[.agg (nV x a c),.int .u16 0,.int .i64 0]) (by simp [results,Tryz.results18,go_sem,g0,g1,g2]) rfl ?_
   exact ProgTo.of HPP.out HBL.out rfl HX.out
end Go.Proofs.YtlklhkkjcfmefaaGreatDoor.pa
