/- Ground of the law: LxMath, PaTree, SgFns, PrTab, PaRef1, NdSame. -/
import Derived.Test.YtlklhkkjcfmefaaGreatDoorQe03
import Derived.Lib.TrimByte
import Derived.Lib.IndexLaws
import Derived.Lib.IndexAny
import Derived.Test.YtlklhkkjcfmefaaGreatDoorQe04
import Derived.RangeFuncBox
import Derived.Test.YtlklhkkjcfmefaaGreatDoorQe00
import Derived.Test.YtlklhkkjcfmefaaGreatDoorQe02
import Derived.Test.YtlklhkkjcfmefaaGreatDoorQe01
import Derived.Deep.MidRow
import Derived.Maps.Own
import Derived.Maps.OwnIn
import Derived.StringKeys
import Derived.Lib.Hide
import Derived.Deep.RegionHeld3
import Derived.Deep.Cut
import Derived.Deep.CutRange
import Derived.RegionTactic
import Derived.IntWalk
import Derived.Laws.StructEq
import Derived.Test.YtlklhkkjcfmefaaGreatDoorProg
set_option maxRecDepth 100000
set_option maxHeartbeats 8000000
set_option linter.unusedVariables false
set_option linter.unusedSimpArgs false
namespace Go.Proofs.YtlklhkkjcfmefaaGreatDoor.Lx
theorem nst_snoc (l : List UInt8) (b : UInt8) : nst (l ++ [b]) = nstep (nst l) b:=by simp [nst]
theorem nst_app (l m : List UInt8) : nst (l ++ m) = m.foldl nstep (nst l):=by simp [nst]
def trail (l : List UInt8) : Nat:=(l.reverse.takeWhile (· == 92)).length
theorem trail_nil : trail [] = 0:=rfl
theorem trail_snoc (l : List UInt8) (b : UInt8) : trail (l ++ [b]) = if b = 92 then trail l + 1 else 0:=by
 unfold trail
 rw [List.reverse_append,List.reverse_singleton,List.singleton_append,List.takeWhile_cons]
 by_cases h : b = 92 <;> simp [h]
theorem trimRight_length (l : List UInt8) : l.length - (Lib.trimRightB l 92).length = trail l ∧ (Lib.trimRightB l 92).length ≤ l.length:=by
 unfold Lib.trimRightB trail
 have h:=congrArg List.length (List.takeWhile_append_dropWhile (p:=(· == (92 : UInt8))) (l:=l.reverse))
 rw [List.length_append,List.length_reverse] at h
 rw [List.length_reverse]
 omega
theorem snoc_cases (l : List UInt8) : l = [] ∨ ∃ t b,l = t ++ [b]:=by
 rcases List.eq_nil_or_concat l with h | ⟨t,b,h⟩
 ·exact .inl h
 ·exact .inr ⟨t,b,by rw [h,List.concat_eq_append]⟩
theorem nst_one (l : List UInt8) : nst l = 1 ↔ trail l % 2 = 1:=by
 generalize hn : l.length = n
 induction n generalizing l with
 | zero =>
  obtain rfl:=List.length_eq_zero_iff.1 hn
  simp [nst,trail_nil]
 | succ n ih =>
  rcases snoc_cases l with rfl | ⟨t,b,rfl⟩
  ·simp at hn
  ·have ht : t.length = n:=by simp at hn;exact hn
   have:=ih t ht
   rw [nst_snoc,trail_snoc]
   unfold nstep
   by_cases hb : b = 92
   ·rw [if_pos hb,if_pos hb]
    by_cases h1 : nst t = 1
    ·rw [if_pos h1];have:=this.1 h1;omega
    ·rw [if_neg h1]
     have : ¬ trail t % 2 = 1:=fun e=>h1 (this.2 e)
     omega
   ·rw [if_neg hb,if_neg hb]
    split <;> simp
def goes (l : List UInt8) : Bool:=decide (nst l ≠ 0)
theorem goes_trail (l : List UInt8) : goes l = decide (trail (Lib.trimSuffix l [13]) % 2 = 1):=by
 unfold goes
 rw [decide_eq_decide]
 rcases snoc_cases l with rfl | ⟨t,b,rfl⟩
 ·simp [nst,Lib.trimSuffix,Lib.hasSuffix,trail_nil,List.isSuffixOf]
 ·by_cases hb : b = 13
  ·subst hb
   have e : Lib.trimSuffix (t ++ [13]) [13] = t:=by
    have : Lib.hasSuffix (t ++ [13]) [13] = true:=by unfold Lib.hasSuffix;simp
    unfold Lib.trimSuffix
    rw [if_pos this]
    simp
   rw [e,nst_snoc,← nst_one]
   unfold nstep
   rw [if_neg (by decide)]
   by_cases h1 : nst t = 1
   ·rw [if_pos ⟨rfl,h1⟩];simp [h1]
   ·rw [if_neg (fun h=>h1 h.2)];simp [h1]
  ·have e : Lib.trimSuffix (t ++ [b]) [13] = t ++ [b]:=by
    unfold Lib.trimSuffix
    rw [if_neg]
    unfold Lib.hasSuffix
    rw [List.isSuffixOf_iff_suffix]
    rintro ⟨p,hp⟩
    have:=congrArg List.getLast? hp
    simp at this
    exact hb this.symm
   rw [e,← nst_one,nst_snoc]
   unfold nstep
   by_cases h92 : b = 92
   ·rw [if_pos h92];split <;> simp
   ·rw [if_neg h92,if_neg (fun h=>hb h.1)];simp
theorem noteR_skip (st : Nat) (l : List UInt8) (k : Nat) (hk : k ≤ l.length) (h : ∀ j,j < k → l[j]? ≠ some 10) : noteR st l = k + noteR ((l.take k).foldl nstep st) (l.drop k):=by
 induction k generalizing st l with
 | zero=>simp
 | succ k ih =>
  cases l with
  | nil=>simp at hk
  | cons b r =>
   have hb : b ≠ 10:=fun e=>h 0 (by omega) (by simp [e])
   have:=ih (nstep st b) r (by simpa using hk) (fun j hj=>by have:=h (j + 1) (by omega);simpa using this)
   simp only [noteR,List.take_succ_cons,List.drop_succ_cons,List.foldl_cons]
   rw [if_neg (fun e=>hb e.1),this]
   omega
def NoteI (l : List UInt8) (n : Nat) : Prop:=n ≤ l.length ∧ noteR 0 l = n + noteR (nst (l.take n)) (l.drop n)
theorem NoteI.start (l : List UInt8) : NoteI l 0:=⟨Nat.zero_le _,by simp [nst]⟩
theorem NoteI.none {l : List UInt8} {n : Nat} (h : NoteI l n) (hn : Lib.indexByte (l.drop n) 10 = -1) : noteR 0 l = l.length:=by
 have:=noteR_skip (nst (l.take n)) (l.drop n) (l.drop n).length (Nat.le_refl _) (fun j _=>Lib.indexByte_none hn j)
 rw [h.2,this,List.drop_length,List.length_drop]
 have:=h.1
 simp [noteR];omega
theorem NoteI.found {l : List UInt8} {n k : Nat} (h : NoteI l n) (hn : Lib.indexByte (l.drop n) 10 = (k : Int)) :
  n + k < l.length ∧ (goes (l.take (n + k)) = false → noteR 0 l = n + k) ∧ (goes (l.take (n + k)) = true → NoteI l (n + k + 1)):=by
 obtain ⟨h1,h2⟩:=Lib.indexByte_some hn
 rw [List.getElem?_drop] at h1
 have hlt : n + k < l.length:=(List.getElem?_eq_some_iff.1 h1).1
 have hs:=noteR_skip (nst (l.take n)) (l.drop n) k (by rw [List.length_drop];omega) (fun j hj=>h2 j hj)
 have e1 : ((l.drop n).take k).foldl nstep (nst (l.take n)) = nst (l.take (n + k)):=by rw [← nst_app,← List.take_add]
 have e2 : (l.drop n).drop k = 10 :: l.drop (n + k + 1):=by
  rw [List.drop_drop,List.drop_eq_getElem_cons hlt]
  congr 1
  rw [List.getElem?_eq_getElem hlt] at h1
  exact Option.some.inj h1
 rw [e1,e2] at hs
 have hall : noteR 0 l = n + (k + noteR (nst (l.take (n + k))) (10 :: l.drop (n + k + 1))):=by rw [h.2,hs]
 refine ⟨hlt,fun hg=>?_,fun hg=>⟨hlt,?_⟩⟩
 ·have h0 : nst (l.take (n + k)) = 0:=by unfold goes at hg;simpa using hg
  rw [hall,h0]
  simp [noteR]
 ·have h0 : nst (l.take (n + k)) ≠ 0:=by unfold goes at hg;simpa using hg
  have e3 : nst (l.take (n + k + 1)) = nstep (nst (l.take (n + k))) 10:=by
   rw [List.take_succ_eq_append_getElem hlt,nst_snoc]
   congr 1
   rw [List.getElem?_eq_getElem hlt] at h1
   exact Option.some.inj h1
  rw [hall,e3]
  simp only [noteR]
  rw [if_neg (fun e=>h0 e.2)]
  omega
def cN (n : Int) : Bool:=!(n == 34 || n == 92)
theorem cN_not (b : UInt8) : cN (b.toNat : Int) = false ↔ b = 34 ∨ b = 92:=by
 unfold cN
 have h1 : ((b.toNat : Int) == 34) = (b == 34):=by
  rw [Bool.eq_iff_iff,beq_iff_eq,beq_iff_eq]
  exact ⟨fun h=>UInt8.toNat_inj.1 (by show b.toNat = 34;omega),fun h=>by subst h;rfl⟩
 have h2 : ((b.toNat : Int) == 92) = (b == 92):=by
  rw [Bool.eq_iff_iff,beq_iff_eq,beq_iff_eq]
  exact ⟨fun h=>UInt8.toNat_inj.1 (by show b.toNat = 92;omega),fun h=>by subst h;rfl⟩
 rw [h1,h2]
 cases ha : (b == 34) <;> cases hb : (b == 92) <;> simp_all
theorem indexAny_run (l : List UInt8) : Lib.indexAny l [34,92] = if Sg.run cN l = l.length then -1 else (Sg.run cN l : Int):=by
 induction l with
 | nil=>rfl
 | cons b r ih =>
  have hle:=Sg.run_le cN r
  simp only [Lib.indexAny,List.length_cons]
  rcases Bool.eq_false_or_eq_true (cN (b.toNat : Int)) with hc | hc
  rotate_left
  ·have : [34,92].contains b = true:=by
    rcases (cN_not b).1 hc with rfl | rfl <;> rfl
   have e1 : Sg.run cN (b :: r) = 0:=by simp [Sg.run,hc]
   rw [if_pos this,e1,if_neg (by omega)]
   rfl
  ·have : [34,92].contains b = false:=by
    cases hq : [34,92].contains b with
    | false=>rfl
    | true =>
     have : b = 34 ∨ b = 92:=by simpa using hq
     rw [(cN_not b).2 this] at hc;cases hc
   have e1 : Sg.run cN (b :: r) = Sg.run cN r + 1:=by simp [Sg.run,hc]
   rw [this,ih,e1]
   simp only [Bool.false_eq_true,if_false]
   by_cases h : Sg.run cN r = r.length
   ·have h' : Sg.run cN r + 1 = r.length + 1:=by omega
    rw [if_pos h,if_pos h'];rfl
   ·have h' : ¬ (Sg.run cN r + 1 = r.length + 1):=by omega
    have h2 : ¬ (((Sg.run cN r : Int) == -1) = true):=by rw [beq_iff_eq];omega
    rw [if_neg h,if_neg h',if_neg h2];omega
theorem pieceF_fuel (f g : Nat) (l : List UInt8) (hf : l.length ≤ f) (hg : l.length ≤ g) : pieceF f l = pieceF g l:=by
 induction f generalizing g l with
 | zero =>
  obtain rfl : l = []:=List.length_eq_zero_iff.1 (by omega)
  cases g <;> rfl
 | succ f ih =>
  cases l with
  | nil=>cases g <;> rfl
  | cons b r =>
   cases g with
   | zero=>simp at hg
   | succ g =>
    have hf' : r.length ≤ f:=by simpa using hf
    have hg' : r.length ≤ g:=by simpa using hg
    have hk : ∀ k,k ≠ 0 → ((b :: r).drop k).length ≤ r.length:=fun k h=>by rw [List.length_drop,List.length_cons];omega
    simp only [pieceF]
    rw [ih g r hf' hg']
    split
    ·rfl
    ·split
     ·split
      ·rfl
      ·rename_i h0
       have hx:=hk _ h0
       rw [ih g _ (by omega) (by omega)]
     ·rfl
theorem piece_quote (r : List UInt8) : piece (34 :: r) = 0:=by simp [piece,pieceF]
theorem piece_none (r : List UInt8) (h : Sg.escape (92 :: r) = 0) : piece (92 :: r) = 0:=by simp [piece,pieceF,h]
theorem piece_esc (r : List UInt8) (h : Sg.escape (92 :: r) ≠ 0) : piece (92 :: r) = Sg.escape (92 :: r) + piece ((92 :: r).drop (Sg.escape (92 :: r))):=by
 have hx : ((92 :: r).drop (Sg.escape (92 :: r))).length ≤ r.length:=by rw [List.length_drop,List.length_cons];omega
 unfold piece
 simp only [List.length_cons,pieceF]
 rw [if_neg (by decide),if_pos trivial,if_neg h,pieceF_fuel r.length _ _ hx (Nat.le_refl _)]
theorem piece_one (b : UInt8) (r : List UInt8) (h : cN (b.toNat : Int) = true) : piece (b :: r) = 1 + piece r:=by
 have hb : ¬ (b = 34 ∨ b = 92):=fun e=>by rw [(cN_not b).2 e] at h;cases h
 unfold piece
 simp only [List.length_cons,pieceF]
 rw [if_neg (fun e=>hb (.inl e)),if_neg (fun e=>hb (.inr e))]
theorem piece_run (l : List UInt8) : piece l = Sg.run cN l + piece (l.drop (Sg.run cN l)):=by
 induction l with
 | nil=>rfl
 | cons b r ih =>
  simp only [Sg.run]
  split
  ·rename_i h
   rw [piece_one b r h,ih,List.drop_succ_cons]
   omega
  ·simp
theorem escape_head {l : List UInt8} (h : Sg.escape l ≠ 0) : ∃ r,l = 92 :: r:=by
 unfold Sg.escape at h
 split at h
 ·rename_i hp
  cases l with
  | nil=>simp [Sg.at'] at hp
  | cons b r =>
   refine ⟨r,?_⟩
   simp [Sg.at'] at hp
   congr 1
   exact UInt8.toNat_inj.1 (by show b.toNat = 92;omega)
 ·exact absurd rfl h
theorem piece_stop (l : List UInt8) (h : Sg.escape (l.drop (Sg.run cN l)) = 0) : piece l = Sg.run cN l:=by
 rw [piece_run]
 have hs:=Sg.run_drop_stop cN l
 cases hd : l.drop (Sg.run cN l) with
 | nil=>rfl
 | cons b r =>
  rw [hd] at h hs
  rcases (cN_not b).1 (hs b rfl) with rfl | rfl
  ·rw [piece_quote];rfl
  ·rw [piece_none r h];rfl
theorem piece_go (l : List UInt8) (h : Sg.escape (l.drop (Sg.run cN l)) ≠ 0) : piece l = Sg.run cN l + Sg.escape (l.drop (Sg.run cN l)) + piece (l.drop (Sg.run cN l + Sg.escape (l.drop (Sg.run cN l)))):=by
 rw [piece_run l]
 obtain ⟨r,hr⟩:=escape_head h
 rw [hr] at h
 rw [← List.drop_drop,hr,piece_esc r h]
 omega
def PieceI (l : List UInt8) (n : Nat) : Prop:=n ≤ l.length ∧ piece l = n + piece (l.drop n)
theorem simple_cut (l : List UInt8) : (Lib.indexByte (l.take (Sg.word l)) 58 = -1 → Sg.word l = Sg.simple l) ∧ (∀ k : Nat,Lib.indexByte (l.take (Sg.word l)) 58 = (k : Int) → k = Sg.simple l):=by
 have hsl:=Sg.simple_le l
 have hno : ∀ j,j < Sg.simple l → l[j]? ≠ some 58:=by
  intro j hj e
  unfold Sg.simple at hj
  split at hj
  ·have hrun : ∀ (l : List UInt8) j,j < Sg.run Sg.cW l → l[j]? ≠ some 58:=by
    intro l
    induction l with
    | nil=>intro j hj;simp [Sg.run] at hj
    | cons b r ih =>
     intro j hj
     simp only [Sg.run] at hj
     split at hj
     ·rename_i hb
      cases j with
      | zero=>intro e;simp at e;subst e;revert hb;decide
      | succ j=>simpa using ih j (by omega)
     ·omega
   exact hrun l j hj e
  ·omega
 have hword : Sg.word l = Sg.simple l ∨ (Sg.simple l < Sg.word l ∧ l[Sg.simple l]? = some 58):=by
  by_cases h0 : Sg.simple l = 0
  ·exact .inl (by unfold Sg.word;rw [if_pos h0,h0])
  ·unfold Sg.word
   rw [if_neg h0]
   by_cases ht : Sg.tail l.length (l.drop (Sg.simple l)) = 0
   ·exact .inl (by omega)
   ·refine .inr ⟨by omega,?_⟩
    have hf : Sg.further (l.drop (Sg.simple l)) ≠ 0:=by
     intro e
     cases hl : l.length with
     | zero=>rw [hl] at ht;exact ht rfl
     | succ n=>rw [hl] at ht;simp only [Sg.tail] at ht;rw [if_pos e] at ht;exact ht rfl
    unfold Sg.further at hf
    split at hf
    ·rename_i hp
     unfold Lib.hasPrefix at hp
     obtain ⟨t,ht'⟩:=List.isPrefixOf_iff_prefix.1 hp
     have:=congrArg (fun l=>l[0]?) ht'
     simp at this
     exact this.symm
    ·exact absurd rfl hf
 constructor
 ·intro hn
  rcases hword with h | ⟨h1,h2⟩
  ·exact h
  ·exact absurd (by rw [List.getElem?_take_of_lt h1];exact h2) (Lib.indexByte_none hn (Sg.simple l))
 ·intro k hk
  obtain ⟨h1,h2⟩:=Lib.indexByte_some hk
  rcases hword with h | ⟨h3,h4⟩
  ·have hlt : k < Sg.word l:=by
    rcases Nat.lt_or_ge k (Sg.word l) with h' | h'
    ·exact h'
    ·rw [List.getElem?_take_eq_none h'] at h1;cases h1
   rw [List.getElem?_take_of_lt hlt] at h1
   exact absurd h1 (hno k (by omega))
  ·rcases Nat.lt_trichotomy k (Sg.simple l) with h' | h' | h'
   ·rw [List.getElem?_take_of_lt (by omega)] at h1
    exact absurd h1 (hno k h')
   ·exact h'
   ·exact absurd (by rw [List.getElem?_take_of_lt h3];exact h4) (h2 _ h')
theorem word_simple (l : List UInt8) : Sg.simple l ≤ Sg.word l:=by unfold Sg.word;split <;> omega
end Go.Proofs.YtlklhkkjcfmefaaGreatDoor.Lx
namespace Go.Proofs.YtlklhkkjcfmefaaGreatDoor.pa
open Go.RowKit nd pr
def Out.rest {α : Type} : Out α → List Tk
 | .ok r _=>r
 | .bad r=>r
def Out.put {α : Type} : Out α → List Tk → Out α
 | .ok _ x,r=>.ok r x
 | .bad _,r=>.bad r
namespace Pa
def isMove {α : Type} : Pa α → Prop
 | move _=>True
 | _=>False
def Wf {α : Type} : Bool → Pa α → Prop
 | _,ret _=>True
 | _,bad=>True
 | _,out=>True
 | ne,look k=>(∀ t,(k t).Wf true) ∧ (ne = false → (k noTk).Wf false)
 | ne,peek k=>ne = true ∧ (∀ t,(k t).Wf true ∧ (k t).isMove)
 | ne,ended k=>(k false).Wf true ∧ (ne = false → (k true).Wf false)
 | ne,move k=>ne = true ∧ k.Wf false
theorem Wf.more {α : Type} : ∀ {p : Pa α},p.Wf false → p.Wf true
 | ret _,_=>trivial
 | bad,_=>trivial
 | out,_=>trivial
 | look k,h=>⟨h.1,fun e=>by cases e⟩
 | peek k,h=>by cases h.1
 | ended k,h=>⟨h.1,fun e=>by cases e⟩
 | move k,h=>by cases h.1
theorem Wf.any {α : Type} {p : Pa α} (h : p.Wf false) (ne : Bool) : p.Wf ne:=by cases ne;exact h;exact h.more
theorem isMove.bind {α β : Type} {p : Pa α} {f : α → Pa β} (h : p.isMove) : (p.bind f).isMove:=by cases p <;> first | exact h.elim | trivial
theorem Wf.bind {α β : Type} {f : α → Pa β} (hf : ∀ x,(f x).Wf false) : ∀ {ne : Bool} {p : Pa α},p.Wf ne → (p.bind f).Wf ne
 | ne,ret x,_=>(hf x).any ne
 | _,bad,_=>trivial
 | _,out,_=>trivial
 | _,look k,h=>⟨fun t=>Wf.bind hf (h.1 t),fun e=>Wf.bind hf (h.2 e)⟩
 | _,peek k,h=>⟨h.1,fun t=>⟨Wf.bind hf (h.2 t).1,(h.2 t).2.bind⟩⟩
 | _,ended k,h=>⟨Wf.bind hf h.1,fun e=>Wf.bind hf (h.2 e)⟩
 | _,move k,h=>⟨h.1,Wf.bind hf h.2⟩
theorem run_len {α : Type} : ∀ (p : Pa α) {r : List Tk} {o : Out α},p.run r = some o → o.rest.length ≤ r.length
 | ret x,r,o,h=>by cases h;exact Nat.le_refl _
 | bad,r,o,h=>by cases h;exact Nat.le_refl _
 | out,r,o,h=>by cases h
 | look k,r,o,h=>run_len (k (tok r)) h
 | peek k,r,o,h=>run_len (k (tok r.tail)) h
 | ended k,r,o,h=>run_len (k r.isEmpty) h
 | move k,r,o,h=>by have:=run_len k (r:=r.tail) h;simp at this;omega
theorem run_nil {α : Type} {p : Pa α} {o : Out α} (h : p.run [] = some o) : o.rest = []:=by
 have:=run_len p h
 exact List.length_eq_zero_iff.1 (by simpa using this)
theorem behind {α : Type} : ∀ (p : Pa α) {ne : Bool},p.Wf ne → ∀ (a : List Tk) (t : Tk) (s : List Tk) {o : Out α},p.run (a ++ t :: s) = some o → s.length + 1 ≤ o.rest.length →
  ∃ b,o.rest = b ++ t :: s ∧ ∀ s',p.run (a ++ t :: s') = some (o.put (b ++ t :: s'))
 | ret x,_,_,a,t,s,o,h,_=>by cases h;exact ⟨a,rfl,fun s'=>rfl⟩
 | bad,_,_,a,t,s,o,h,_=>by cases h;exact ⟨a,rfl,fun s'=>rfl⟩
 | out,_,_,a,t,s,o,h,_=>by cases h
 | look k,_,hw,a,t,s,o,h,hl=>by
  have e : ∀ s',tok (a ++ t :: s') = tok (a ++ t :: s):=fun s'=>by cases a <;> rfl
  obtain ⟨b,h1,h2⟩:=behind (k (tok (a ++ t :: s))) (hw.1 _) a t s h hl
  exact ⟨b,h1,fun s'=>by show (k (tok (a ++ t :: s'))).run _ = _;rw [e];exact h2 s'⟩
 | peek k,_,hw,a,t,s,o,h,hl=>by
  cases a with
  | nil =>
   exfalso
   have hm:=(hw.2 (tok (([] : List Tk) ++ t :: s).tail)).2
   have h' : (k (tok (([] : List Tk) ++ t :: s).tail)).run (t :: s) = some o:=h
   revert hm h'
   generalize k (tok (([] : List Tk) ++ t :: s).tail) = q
   intro hm h'
   cases q with
   | move q'=>have:=run_len q' (r:=s) h';omega
   | _=>exact hm.elim
  | cons c a =>
   have e : ∀ s',tok ((c :: a) ++ t :: s').tail = tok ((c :: a) ++ t :: s).tail:=fun s'=>by cases a <;> rfl
   obtain ⟨b,h1,h2⟩:=behind (k (tok ((c :: a) ++ t :: s).tail)) (hw.2 _).1 (c :: a) t s h hl
   exact ⟨b,h1,fun s'=>by show (k (tok ((c :: a) ++ t :: s').tail)).run _ = _;rw [e];exact h2 s'⟩
 | ended k,_,hw,a,t,s,o,h,hl=>by
  have e : ∀ s' : List Tk,(a ++ t :: s').isEmpty = false:=fun s'=>by cases a <;> rfl
  have h' : (k (a ++ t :: s).isEmpty).run (a ++ t :: s) = some o:=h
  rw [e] at h'
  obtain ⟨b,h1,h2⟩:=behind (k false) hw.1 a t s h' hl
  exact ⟨b,h1,fun s'=>by show (k (a ++ t :: s').isEmpty).run _ = _;rw [e];exact h2 s'⟩
 | move k,_,hw,a,t,s,o,h,hl=>by
  cases a with
  | nil=>have:=run_len k (r:=s) h;omega
  | cons c a=>exact behind k hw.2 a t s h hl
theorem ahead {α : Type} : ∀ (p : Pa α) {ne : Bool},p.Wf ne → ∀ (a : List Tk) (t : Tk) (s : List Tk) {o : Out α},p.run (a ++ t :: s) = some o → s.length + 1 ≤ o.rest.length →
  ∀ o',p.run a = some o' → o'.rest = [] ∨ (o'.rest ≠ [] ∧ o = o'.put (o'.rest ++ t :: s))
 | ret x,_,_,a,t,s,o,h,_,o',h'=>by cases h;cases h';by_cases ha : a = [];exact .inl ha;exact .inr ⟨ha,rfl⟩
 | bad,_,_,a,t,s,o,h,_,o',h'=>by cases h;cases h';by_cases ha : a = [];exact .inl ha;exact .inr ⟨ha,rfl⟩
 | out,_,_,a,t,s,o,h,_,o',h'=>by cases h
 | look k,_,hw,a,t,s,o,h,hl,o',h'=>by
  cases a with
  | nil=>exact .inl (run_nil h')
  | cons c a=>exact ahead (k c) (hw.1 c) (c :: a) t s h hl o' h'
 | peek k,_,hw,a,t,s,o,h,hl,o',h'=>by
  cases a with
  | nil=>exact .inl (run_nil h')
  | cons c a =>
   cases a with
   | nil =>
    have hm':=(hw.2 noTk).2
    have hx : (k noTk).run [c] = some o':=h'
    refine .inl ?_
    revert hm' hx
    generalize k noTk = q
    intro hm' hx
    cases q with
    | move q'=>exact run_nil (p:=q') hx
    | _=>exact hm'.elim
   | cons d a=>exact ahead (k d) (hw.2 d).1 (c :: d :: a) t s h hl o' h'
 | ended k,_,hw,a,t,s,o,h,hl,o',h'=>by
  cases a with
  | nil=>exact .inl (run_nil h')
  | cons c a=>exact ahead (k false) hw.1 (c :: a) t s h hl o' h'
 | move k,_,hw,a,t,s,o,h,hl,o',h'=>by
  cases a with
  | nil=>exact .inl (run_nil (p:=k) h')
  | cons c a=>exact ahead k hw.2 a t s h hl o' h'
end Pa
theorem need_wf {α : Type} {s : ByteArray} {k : Pa α} (h : k.Wf false) (ne : Bool) : (need s k).Wf ne:=by
 refine ⟨fun t=>?_,fun _=>?_⟩
 ·dsimp only;split
  ·exact ⟨rfl,h⟩
  ·trivial
 ·have : (op s noTk || word s noTk) = false:=rfl
  simp only [this];trivial
theorem one_wf {α : Type} {kd : Int} {k : Pa α} (hk : ((0 : Int) == kd) = false) (h : k.Wf false) (ne : Bool) : (one kd k).Wf ne:=by
 refine ⟨fun t=>?_,fun _=>?_⟩
 ·dsimp only;split
  ·exact ⟨rfl,h⟩
  ·trivial
 ·show (if ((0 : Int) == kd) = true then Pa.move k else Pa.bad).Wf false
  rw [hk];trivial
theorem text_wf {α : Type} {kd : Int} {k : ByteArray → Pa α} (hk : ((0 : Int) == kd) = false) (h : ∀ s,(k s).Wf false) (ne : Bool) : (text kd k).Wf ne:=by
 refine ⟨fun t=>?_,fun _=>?_⟩
 ·dsimp only;split
  ·exact ⟨rfl,h _⟩
  ·trivial
 ·show (if ((0 : Int) == kd) = true then Pa.move (k (cut eB)) else Pa.bad).Wf false
  rw [hk];trivial
theorem name_wf {α : Type} {k : ByteArray → Pa α} (h : ∀ s,(k s).Wf false) (ne : Bool) : (name k).Wf ne:=by
 refine ⟨fun t=>?_,fun _=>?_⟩
 ·dsimp only;split
  ·exact ⟨rfl,h _⟩
  ·trivial
 ·have : plainT noTk = false:=rfl
  simp only [this];trivial
theorem if_wf {α : Type} {c : Prop} [Decidable c] {p q : Pa α} {ne : Bool} (h1 : c → p.Wf ne) (h2 : ¬ c → q.Wf ne) : (if c then p else q).Wf ne:=by
 split
 ·exact h1 (by assumption)
 ·exact h2 (by assumption)
def wants : Fn → Bool
 | .deff _=>true
 | .elems _=>true
 | .args=>true
 | .bring=>true
 | .worded=>true
 | _=>false
theorem op_no (s : ByteArray) : op s noTk = false:=rfl
theorem word_no (s : ByteArray) : word s noTk = false:=rfl
theorem plain_no : plainT noTk = false:=rfl
theorem no1 : noTk.1 = 0:=rfl
theorem lv_no : levelOf (textOf noTk.1 noTk.2) = 0:=by decide +kernel
def AllWf (rec : (f : Fn) → Pa (Res f)) : Prop:=∀ f,(rec f).Wf (wants f)
theorem step_wf {rec : (f : Fn) → Pa (Res f)} (h : AllWf rec) : AllWf (step rec):=by
 intro f
 have hf : ∀ g,wants g = false → ∀ ne,(rec g).Wf ne:=fun g hg ne=>(hg ▸ h g : (rec g).Wf false).any ne
 have ht : ∀ g,(rec g).Wf true:=fun g=>by
  have:=h g
  cases hg : wants g with
  | false=>rw [hg] at this;exact this.more
  | true=>rw [hg] at this;exact this
 have h_exp : ∀ (l : Int) (ne : Bool),(rec (.exp l) : Pa Nd).Wf ne:=fun l ne=>hf (.exp l) rfl ne
 have h_expL : ∀ (l : Int) (x : Nd) (b : Int) (ne : Bool),(rec (.expL l x b) : Pa Nd).Wf ne:=fun l x b ne=>hf (.expL l x b) rfl ne
 have h_operand : ∀ (ne : Bool),(rec (.operand) : Pa Nd).Wf ne:=fun ne=>hf (.operand) rfl ne
 have h_within : ∀ (x : Nd) (d : ByteArray) (ne : Bool),(rec (.within x d) : Pa Nd).Wf ne:=fun x d ne=>hf (.within x d) rfl ne
 have h_slice : ∀ (x f : Nd) (d : ByteArray) (ne : Bool),(rec (.slice x f d) : Pa Nd).Wf ne:=fun x f d ne=>hf (.slice x f d) rfl ne
 have h_post : ∀ (ne : Bool),(rec (.post) : Pa Nd).Wf ne:=fun ne=>hf (.post) rfl ne
 have h_postL : ∀ (x : Nd) (ne : Bool),(rec (.postL x) : Pa Nd).Wf ne:=fun x ne=>hf (.postL x) rfl ne
 have h_str : ∀ (ne : Bool),(rec (.str) : Pa Nd).Wf ne:=fun ne=>hf (.str) rfl ne
 have h_strF : ∀ (f : ByteArray) (ne : Bool),(rec (.strF f) : Pa Nd).Wf ne:=fun f ne=>hf (.strF f) rfl ne
 have h_term : ∀ (ne : Bool),(rec (.term) : Pa Nd).Wf ne:=fun ne=>hf (.term) rfl ne
 have h_bracket : ∀ (ne : Bool),(rec (.bracket) : Pa Nd).Wf ne:=fun ne=>hf (.bracket) rfl ne
 have h_fold : ∀ (k : Int) (b : Bool) (ne : Bool),(rec (.fold k b) : Pa Nd).Wf ne:=fun k b ne=>hf (.fold k b) rfl ne
 have h_pair : ∀ (ne : Bool),(rec (.pair) : Pa Nd).Wf ne:=fun ne=>hf (.pair) rfl ne
 have h_value : ∀ (ne : Bool),(rec (.value) : Pa Nd).Wf ne:=fun ne=>hf (.value) rfl ne
 have h_unit : ∀ (ne : Bool),(rec (.unit) : Pa Nd).Wf ne:=fun ne=>hf (.unit) rfl ne
 have h_keypat : ∀ (ne : Bool),(rec (.keypat) : Pa Nd).Wf ne:=fun ne=>hf (.keypat) rfl ne
 have h_pattern : ∀ (ne : Bool),(rec (.pattern) : Pa Nd).Wf ne:=fun ne=>hf (.pattern) rfl ne
 have h_strL : ∀ (ne : Bool),(rec (.strL) : Pa (List Nd)).Wf ne:=fun ne=>hf (.strL) rfl ne
 have h_pairs : ∀ (ne : Bool),(rec (.pairs) : Pa (List Nd)).Wf ne:=fun ne=>hf (.pairs) rfl ne
 have h_ifs : ∀ (ne : Bool),(rec (.ifs) : Pa (List Nd)).Wf ne:=fun ne=>hf (.ifs) rfl ne
 have h_plainL : ∀ (ne : Bool),(rec (.plainL) : Pa (List Nd)).Wf ne:=fun ne=>hf (.plainL) rfl ne
 have h_brings : ∀ (ne : Bool),(rec (.brings) : Pa (List Nd)).Wf ne:=fun ne=>hf (.brings) rfl ne
 have h_params : ∀ (ne : Bool),(rec (.params) : Pa (List Nd)).Wf ne:=fun ne=>hf (.params) rfl ne
 have h_key : ∀ (p : Bool) (ne : Bool),(rec (.key p) : Pa (Nd × Bool)).Wf ne:=fun p ne=>hf (.key p) rfl ne
 have t_deff : ∀ b,(rec (.deff b) : Pa Nd).Wf true:=fun b=>ht (.deff b)
 have t_worded : (rec .worded : Pa Nd).Wf true:=ht .worded
 have t_bring : (rec .bring : Pa Nd).Wf true:=ht .bring
 have t_args : (rec .args : Pa (List Nd)).Wf true:=ht .args
 have t_elems : ∀ b,(rec (.elems b) : Pa (List Nd)).Wf true:=fun b=>ht (.elems b)
 clear hf ht
 cases f <;> simp only [wants,step]
 all_goals
  repeat (first
   | exact trivial
   | exact h_exp _ _
   | exact h_expL _ _ _ _
   | exact h_operand _
   | exact h_within _ _ _
   | exact h_slice _ _ _ _
   | exact h_post _
   | exact h_postL _ _
   | exact h_str _
   | exact h_strF _ _
   | exact h_term _
   | exact h_bracket _
   | exact h_fold _ _ _
   | exact h_pair _
   | exact h_value _
   | exact h_unit _
   | exact h_keypat _
   | exact h_pattern _
   | exact h_strL _
   | exact h_pairs _
   | exact h_ifs _
   | exact h_plainL _
   | exact h_brings _
   | exact h_params _
   | exact h_key _ _
   | exact t_deff _
   | exact t_worded
   | exact t_bring
   | exact t_args
   | exact t_elems _
   | refine Pa.Wf.bind (fun _=>?_) ?_
   | refine need_wf ?_ _
   | refine one_wf rfl ?_ _
   | refine text_wf rfl (fun _=>?_) _
   | refine name_wf (fun _=>?_) _
   | refine ⟨fun _=>?_,fun e=>absurd e (by decide)⟩
   | refine ⟨fun _=>?_,fun _=>?_⟩
   | refine ⟨rfl,fun _=>⟨⟨rfl,?_⟩,trivial⟩⟩
   | refine ⟨rfl,?_⟩
   | refine ⟨?_,fun _=>?_⟩
   | (simp only [op_no,word_no,plain_no,Bool.and_false,Bool.or_false,Bool.or_self,Bool.false_eq_true,if_false])
   | (simp [no1,lv_no];done)
   | refine if_wf (fun _=>?_) (fun _=>?_))
end Go.Proofs.YtlklhkkjcfmefaaGreatDoor.pa
namespace Go.Proofs.YtlklhkkjcfmefaaGreatDoor.sg
open Go.Lib (hid)
open Go.RowKit Go.Shelf
theorem extract_drop (s : ByteArray) (k : Nat) : (s.extract k s.size).data.toList = s.data.toList.drop k:=by
 rw [ByteArray.data_extract,Array.toList_extract]
 have e : s.size = s.data.toList.length:=by rw [Array.length_toList];rfl
 rw [List.extract_eq_take_drop,e,List.take_of_length_le (by simp)]
theorem of_calls (t : ByteArray) (w : World) : Calls Tryz.prog 232 #[.string t] w fun e w'=>e = .returned (.func (.func 250) #[] #[.pointer (some ⟨w.heap.size,0,none⟩)]) ∧ w' = w.alloc (.cells #[.string t] 9):=by
 go_enter Tryz.func232,Tryz.ntmps232
 go_wp2_with fail
 go_ret
 exact ⟨rfl,rfl⟩
def Tells (t : ByteArray) (p : Int → Bool) : Prop:=∀ c : Int,0 ≤ c → c ≤ 255 → decide ((0 : Int) ≤ Lib.indexByte t.data.toList c.toNat.toUInt8) = p c
theorem tells_of (t : ByteArray) (p : Int → Bool) (h : (List.range 256).all (fun n=>decide ((0 : Int) ≤ Lib.indexByte t.data.toList n.toUInt8) == p (n : Int)) = true) : Tells t p:=by
 intro c h0 h1
 have:=List.all_eq_true.1 h c.toNat (List.mem_range.2 (by omega))
 have e : ((c.toNat : Nat) : Int) = c:=by omega
 rw [beq_iff_eq,e] at this
 exact this
theorem of1_calls (t : ByteArray) (p : Int → Bool) (hp : Tells t p) (B : Nat) (w : World) (hc : w.cell? ⟨B,0,none⟩ = some (.string t)) (c : Int) (h0 : 0 ≤ c) (h1 : c ≤ 255) :
  Calls Tryz.prog 250 (#[.int .u8 c] ++ #[.pointer (some ⟨B,0,none⟩)]) w fun e w'=>e = .returned (.bool (p c)) ∧ w = w':=by
 have hv:=hid (hp c h0 h1)
 show Calls Tryz.prog 250 #[.int .u8 c,.pointer (some ⟨B,0,none⟩)] w _
 go_enter Tryz.func250,Tryz.ntmps250
 go_wp2_with fail
 ((with_reducible refine (Tryz.strings_IndexByte _ _ _).mono ?_);rintro e w1 ⟨rfl,rfl⟩)
 obtain ⟨r,hr⟩ : ∃ r,Lib.indexByte t.data.toList c.toNat.toUInt8 = r:=⟨_,rfl⟩
 have HV:=hid (show decide ((0 : Int) ≤ r) = p c from by rw [← hr];exact hv.out)
 rw [hr]
 clear hr hv
 by_cases h : 0 ≤ r
 ·go_wp2_with fail
  go_ret
  exact ⟨by rw [← HV.out,decide_eq_true h];rfl,rfl⟩
 ·have h' : r < 0:=by omega
  go_wp2_with fail
  go_ret
  exact ⟨by rw [← HV.out];rfl,rfl⟩
theorem below_of (w : World) (t : ByteArray) : Below w.heap.size w (w.alloc (.cells #[.string t] 9)):=(Below.refl _ w).alloc (Nat.le_refl _) _
theorem cell_of (w : World) (t : ByteArray) : (w.alloc (.cells #[.string t] 9)).cell? ⟨w.heap.size,0,none⟩ = some (.string t):=(Boxed.new w 9 (.string t)).cell
theorem of_at (t : ByteArray) (p : Int → Bool) (hp : Tells t p) (w : World) (s : ByteArray) (k : Int) (h0 : 0 ≤ k) :
  Calls Tryz.prog 227 #[.func (.func 250) #[] #[.pointer (some ⟨w.heap.size,0,none⟩)],.string s,.int .i64 k] (w.alloc (.cells #[.string t] 9)) fun e w'=>e = .returned (.bool (Sg.at' p s.data.toList k.toNat)) ∧ w.alloc (.cells #[.string t] 9) = w' :=
 at_calls _ _ p s k h0 _ enOf (fun c h1 h2=>of1_calls t p hp _ _ (cell_of w t) c h1 h2)
theorem of_atB (t : ByteArray) (p : Int → Bool) (hp : Tells t p) (w : World) (B : Nat) (hB : B = w.heap.size) (s : ByteArray) (k : Int) (h0 : 0 ≤ k) :
  Calls Tryz.prog 227 #[.func (.func 250) #[] #[.pointer (some ⟨B,0,none⟩)],.string s,.int .i64 k] (w.alloc (.cells #[.string t] 9)) fun e w'=>e = .returned (.bool (Sg.at' p s.data.toList k.toNat)) ∧ w.alloc (.cells #[.string t] 9) = w':=by
 subst hB;exact of_at t p hp w s k h0
theorem of_run (t : ByteArray) (p : Int → Bool) (hp : Tells t p) (w : World) (s : ByteArray) (hs : s.size ≤ 140737488351232) :
  Calls Tryz.prog 229 #[.func (.func 250) #[] #[.pointer (some ⟨w.heap.size,0,none⟩)],.string s] (w.alloc (.cells #[.string t] 9)) fun e w'=>e = .returned (.int .i64 (Sg.run p s.data.toList : Nat)) ∧ w.alloc (.cells #[.string t] 9) = w' :=
 run_calls _ _ p s hs _ enOf (fun c h1 h2=>of1_calls t p hp _ _ (cell_of w t) c h1 h2)
theorem digit_run (w : World) (s : ByteArray) (hs : s.size ≤ 140737488351232) :
  Calls Tryz.prog 229 #[.func (.func 206) #[] #[],.string s] w fun e w'=>e = .returned (.int .i64 (Sg.run Sg.cD s.data.toList : Nat)) ∧ w = w' :=
 run_calls _ _ Sg.cD s hs _ enD (fun c _ _=>digit_calls c _)
theorem tells_hex : Tells ⟨#[48,49,50,51,52,53,54,55,56,57,97,98,99,100,101,102,65,66,67,68,69,70]⟩ Sg.cH:=tells_of _ _ (by decide +kernel)
theorem tells_e : Tells ⟨#[101,69]⟩ (fun n=>n == 101 || n == 69):=tells_of _ _ (by decide +kernel)
theorem tells_sign : Tells ⟨#[43,45]⟩ (fun n=>n == 43 || n == 45):=tells_of _ _ (by decide +kernel)
theorem tells_esc : Tells ⟨#[34,92,47,98,102,110,114,116]⟩ Sg.cE:=tells_of _ _ (by decide +kernel)
theorem hexes_calls (s : ByteArray) (hs : s.size ≤ 140737488351232) (w : World) :
  Calls Tryz.prog 235 #[.string s] w fun e w'=>e = .returned (.int .i64 (Sg.run Sg.cH s.data.toList : Nat)) ∧ Below w.heap.size w w':=by
 go_enter Tryz.func235,Tryz.ntmps235
 go_wp2_with fail
 ((with_reducible refine (of_calls _ _).mono ?_);rintro e w1 ⟨rfl,rfl⟩)
 go_wp2_with fail
 ((with_reducible refine (of_run _ _ tells_hex _ _ hs).mono ?_);rintro e w1 ⟨rfl,rfl⟩)
 go_wp2_with fail
 go_ret
 exact ⟨rfl,below_of _ _⟩
theorem simple_calls (s : ByteArray) (hs : s.size ≤ 140737488351232) (w : World) :
  Calls Tryz.prog 200 #[.string s] w fun e w'=>e = .returned (.int .i64 (Sg.simple s.data.toList : Nat)) ∧ w = w':=by
 have ha:=at_calls 205 #[] Sg.cL s 0 (Int.le_refl _) w enL (fun c _ _=>letter_calls c _)
 have hr:=run_calls 228 #[] Sg.cW s hs w enW (fun c _ _=>inName_calls c _)
 cases hv : Sg.at' Sg.cL s.data.toList 0 with
 | true =>
  have HV:=hid (show Sg.simple s.data.toList = Sg.run Sg.cW s.data.toList from by unfold Sg.simple;rw [hv];rfl)
  rw [show (0 : Int).toNat = 0 from rfl,hv] at ha
  clear hv
  go_enter Tryz.func200,Tryz.ntmps200
  go_wp2_with fail
  ((with_reducible refine ha.mono ?_);rintro e w1 ⟨rfl,rfl⟩)
  go_wp2_with fail
  ((with_reducible refine hr.mono ?_);rintro e w1 ⟨rfl,rfl⟩)
  go_wp2_with fail
  go_ret
  exact ⟨by rw [HV.out];rfl,rfl⟩
 | false =>
  have HV:=hid (show Sg.simple s.data.toList = 0 from by unfold Sg.simple;rw [hv];rfl)
  rw [show (0 : Int).toNat = 0 from rfl,hv] at ha
  clear hv
  go_enter Tryz.func200,Tryz.ntmps200
  go_wp2_with fail
  ((with_reducible refine ha.mono ?_);rintro e w1 ⟨rfl,rfl⟩)
  go_wp2_with fail
  go_ret
  exact ⟨by rw [HV.out];rfl,rfl⟩
theorem trim_true {l p : List UInt8} (h : Lib.hasPrefix l p = true) : Lib.trimPrefix l p = l.drop p.length:=by unfold Lib.trimPrefix;rw [if_pos h]
theorem trim_size (l p : List UInt8) : (⟨(Lib.trimPrefix l p).toArray⟩ : ByteArray).size ≤ l.length:=by
 show (Lib.trimPrefix l p).toArray.size ≤ _
 unfold Lib.trimPrefix
 split <;> simp
theorem further_calls (s : ByteArray) (hs : s.size ≤ 140737488351232) (w : World) :
  Calls Tryz.prog 201 #[.string s] w fun e w'=>e = .returned (.int .i64 (Sg.further s.data.toList : Nat)) ∧ w = w':=by
 have hc:=Tryz.strings_CutPrefix s ⟨#[58,58]⟩ w
 have hz:=trim_size s.data.toList [58,58]
 rw [lst_len] at hz
 have hsm:=simple_calls ⟨(Lib.trimPrefix s.data.toList [58,58]).toArray⟩ (by omega) w
 have hsl:=Sg.simple_le (Lib.trimPrefix s.data.toList [58,58])
 cases hv : Lib.hasPrefix s.data.toList [58,58] with
 | false =>
  have HV:=hid (show Sg.further s.data.toList = 0 from by unfold Sg.further;rw [hv];rfl)
  rw [show (⟨#[58,58]⟩ : ByteArray).data.toList = [58,58] from rfl,hv] at hc
  clear hv
  go_enter Tryz.func201,Tryz.ntmps201
  go_wp2_with fail
  ((with_reducible refine hc.mono ?_);rintro e w1 ⟨rfl,rfl⟩)
  go_wp2_with fail
  go_ret
  exact ⟨by rw [HV.out];rfl,rfl⟩
 | true =>
  have ht:=trim_true hv
  have HV:=hid (show Sg.further s.data.toList = if Sg.simple (s.data.toList.drop 2) = 0 then 0 else 2 + Sg.simple (s.data.toList.drop 2) from by unfold Sg.further;rw [hv];rfl)
  rw [show (⟨#[58,58]⟩ : ByteArray).data.toList = [58,58] from rfl,hv] at hc
  rw [show ((⟨(Lib.trimPrefix s.data.toList [58,58]).toArray⟩ : ByteArray).data.toList) = Lib.trimPrefix s.data.toList [58,58] from by simp,ht] at hsm
  rw [ht] at hc hsl
  have hl2 : (s.data.toList.drop 2).length ≤ s.size:=by rw [List.length_drop,lst_len];omega
  simp only [List.length_cons,List.length_nil,Nat.zero_add,Nat.reduceAdd] at hc hsm hsl
  obtain ⟨k,hk⟩ : ∃ k,Sg.simple (s.data.toList.drop 2) = k:=⟨_,rfl⟩
  rw [hk] at HV hsm hsl
  clear hv ht hz hk
  by_cases h0 : k = 0
  ·subst h0
   go_enter Tryz.func201,Tryz.ntmps201
   go_wp2_with fail
   ((with_reducible refine hc.mono ?_);rintro e w1 ⟨rfl,rfl⟩)
   go_wp2_with fail
   ((with_reducible refine hsm.mono ?_);rintro e w1 ⟨rfl,rfl⟩)
   go_wp2_with fail
   go_ret
   exact ⟨by rw [HV.out];rfl,rfl⟩
  ·have h1 : ((k : Int) == 0) = false:=by rw [beq_eq_false_iff_ne];omega
   have h2 : k ≤ 140737488351232:=by omega
   go_enter Tryz.func201,Tryz.ntmps201
   go_wp2_with fail
   ((with_reducible refine hc.mono ?_);rintro e w1 ⟨rfl,rfl⟩)
   go_wp2_with fail
   ((with_reducible refine hsm.mono ?_);rintro e w1 ⟨rfl,rfl⟩)
   go_wp2_with fail
   go_ret
   exact ⟨by rw [HV.out,if_neg h0];rfl,rfl⟩
end Go.Proofs.YtlklhkkjcfmefaaGreatDoor.sg
namespace Go.Proofs.YtlklhkkjcfmefaaGreatDoor.pr
open Go.RowKit sx
open Go.Maps (Keyed string_keyed)
def gv (p : Int × Int) : Value:=.agg #[.int .i64 p.1,.int .i64 p.2]
abbrev encO (o : Op) : Array Value:=#[.string o.1,.agg #[.int .i64 o.2.1,.int .i64 o.2.2]]
def ent (e : MapEntry) : Value × Value:=(e.key,e.val)
def TabAt (W : World) (b : Nat) (l : List Op) : Prop :=
 ∃ es clock,W.heap[b]? = some (.map es clock) ∧ es.toList.map ent = l.map fun o=>(Value.string o.1,gv o.2)
theorem TabAt.lt {W : World} {b : Nat} {l : List Op} (h : TabAt W b l) : b < W.heap.size:=by
 obtain ⟨es,clock,h1,_⟩:=h
 exact (Array.getElem?_eq_some_iff.1 h1).1
theorem TabAt.own {W W' : World} {b : Nat} {l : List Op} (h : TabAt W b l) (hb : Below W.heap.size W W') : TabAt W' b l:=by
 obtain ⟨es,clock,h1,h2⟩:=h
 exact ⟨es,clock,(hb.block b (Array.getElem?_eq_some_iff.1 h1).1).trans h1,h2⟩
theorem TabAt.grown {W W' : World} {b : Nat} {l : List Op} {row : Option Nat} (h : TabAt W b l) (hg : W.grownBy W' row) (hne : some b ≠ row) : TabAt W' b l:=by
 obtain ⟨es,clock,h1,h2⟩:=h
 exact ⟨es,clock,(hg.block b (Array.getElem?_eq_some_iff.1 h1).1 hne).trans h1,h2⟩
theorem tab_new (W : World) : TabAt (W.alloc (.map #[] 0)) W.heap.size []:=⟨#[],0,World.alloc_heap_new W _,rfl⟩
theorem txt_keyed : Keyed Tryz.prog 9:=string_keyed Tryz.underlying9
theorem txt_key {s : ByteArray} (hs : s.size ≤ maxLen) : keyOf Tryz.prog 9 (.string s) = some (.string s.data.toList):=WideMaps.keyOf_string_mk Tryz.underlying9 hs
theorem ops_small : ∀ o ∈ opsP,o.1.size ≤ 3:=by decide +kernel
theorem ent_mem {es : List MapEntry} {l : List Op} (h : es.map ent = l.map fun o=>(Value.string o.1,gv o.2)) {e : MapEntry} (he : e ∈ es) : ∃ o ∈ l,e.key = .string o.1 ∧ e.val = gv o.2:=by
 have h1 : ent e ∈ es.map ent:=List.mem_map.2 ⟨e,he,rfl⟩
 rw [h] at h1
 obtain ⟨o,ho,h2⟩:=List.mem_map.1 h1
 simp only [ent,Prod.mk.injEq] at h2
 exact ⟨o,ho,h2.1.symm,h2.2.symm⟩
theorem mem_ent {es : List MapEntry} {l : List Op} (h : es.map ent = l.map fun o=>(Value.string o.1,gv o.2)) {o : Op} (ho : o ∈ l) : ∃ e ∈ es,e.key = .string o.1:=by
 have h1 : (Value.string o.1,gv o.2) ∈ l.map fun o=>(Value.string o.1,gv o.2):=List.mem_map.2 ⟨o,ho,rfl⟩
 rw [← h] at h1
 obtain ⟨e,he,h2⟩:=List.mem_map.1 h1
 simp only [ent,Prod.mk.injEq] at h2
 exact ⟨e,he,h2.1⟩
theorem ent_keys {es : List MapEntry} {l : List Op} (h : es.map ent = l.map fun o=>(Value.string o.1,gv o.2)) (hl : ∀ o ∈ l,o.1.size ≤ 3) : ∀ e ∈ es,∃ k,keyOf Tryz.prog 9 e.key = some k:=by
 intro e he
 obtain ⟨o,ho,hk,_⟩:=ent_mem h he
 rw [hk]
 exact ⟨_,txt_key (by have:=hl o ho;unfold maxLen;omega)⟩
def gradeV (s : ByteArray) : Value:=gv ((gradeOf s).getD (0,0))
theorem TabAt.look {W : World} {b : Nat} (h : TabAt W b opsP) {s : ByteArray} (hs : s.size ≤ maxLen) (ok : Bool) :
  (Instr.lookup 202 (.map (some b)) (.string s) ok).run Tryz.prog W = .ok (if ok then .tuple #[gradeV s,.bool (isOp s)] else gradeV s) W:=by
 obtain ⟨es,clock,h1,h2⟩:=h
 have hu : Tryz.prog.underlying 202 = some (.map 9 201):=Tryz.underlying202
 have hl:=txt_key hs
 rcases txt_keyed.find W hl es.toList (ent_keys h2 ops_small) with ⟨h3,h4⟩ | ⟨j,e0,h3,h4,h5⟩
 ·have hg : gradeOf s = none:=by
   cases hg : gradeOf s with
   | none=>rfl
   | some p =>
    obtain ⟨e,he,hk⟩:=mem_ent h2 (grade_mem hg)
    exact absurd hk (h4 e he)
  have e1 : gradeV s = .agg #[.int .i64 0,.int .i64 0]:=by unfold gradeV;rw [hg];rfl
  have e2 : isOp s = false:=by unfold isOp;rw [hg];rfl
  cases ok <;> simp [Instr.lookup,run_underlying hu,MapKept.run_getObj_map h1,txt_keyed.check W _ hl,h3,Result.andThen,e1,e2]
 ·obtain ⟨o,ho,hk,hv⟩:=ent_mem h2 (List.mem_of_getElem? h4)
  rw [hk] at h5
  have h5 : o.1 = s:=Value.string.inj h5
  have hg:=grade_of ho
  rw [h5] at hg
  have e1 : gradeV s = gv o.2:=by unfold gradeV;rw [hg];rfl
  have e2 : isOp s = true:=by unfold isOp;rw [hg];rfl
  cases ok <;> simp [Instr.lookup,run_underlying hu,MapKept.run_getObj_map h1,txt_keyed.check W _ hl,h3,hv,Result.andThen,e1,e2]
theorem TabAt.put {W : World} {b : Nat} {l : List Op} (h : TabAt W b l) {o : Op} (hl : ∀ x ∈ l,x.1.size ≤ 3) (ho : o.1.size ≤ 3) (hne : ∀ x ∈ l,x.1 ≠ o.1) :
  ∃ W',(Instr.mapUpdate 202 (.map (some b)) (.string o.1) (.agg #[.int .i64 o.2.1,.int .i64 o.2.2])).run Tryz.prog W = .ok () W' ∧ TabAt W' b (l ++ [o]) ∧ W.grownBy W' (some b):=by
 obtain ⟨es,clock,h1,h2⟩:=h
 have hu : Tryz.prog.underlying 202 = some (.map 9 201):=Tryz.underlying202
 have hk:=txt_key (s:=o.1) (by unfold maxLen;omega)
 have hlt:=(Array.getElem?_eq_some_iff.1 h1).1
 rcases txt_keyed.find W hk es.toList (ent_keys h2 hl) with ⟨h3,h4⟩ | ⟨j,e0,h3,h4,h5⟩
 ·have hrun : (Instr.mapUpdate 202 (.map (some b)) (.string o.1) (.agg #[.int .i64 o.2.1,.int .i64 o.2.2])).run Tryz.prog W = .ok () { W with heap:=W.heap.setIfInBounds b (.map (es.push { key:=.string o.1,val:=.agg #[.int .i64 o.2.1,.int .i64 o.2.2],born:=clock }) (clock + 1)) }:=by
   simp [Instr.mapUpdate,run_underlying hu,MapKept.run_getObj_map h1,txt_keyed.check W _ hk,h3,MapKept.run_setObj_map _ h1,Result.andThen]
  refine ⟨_,hrun,⟨es.push { key:=.string o.1,val:=.agg #[.int .i64 o.2.1,.int .i64 o.2.2],born:=clock },clock + 1,?_,?_⟩,⟨rfl,rfl,rfl,by simp,fun i _ hi=>?_⟩⟩
  ·show (W.heap.setIfInBounds b _)[b]? = _
   rw [Array.getElem?_setIfInBounds_self_of_lt hlt]
  ·rw [Array.toList_push,List.map_append,List.map_append,h2];rfl
  ·show (W.heap.setIfInBounds b _)[i]? = _
   rw [Array.getElem?_setIfInBounds_ne (fun e=>hi (by rw [e]))]
 ·obtain ⟨x,hx,hk2,_⟩:=ent_mem h2 (List.mem_of_getElem? h4)
  rw [hk2] at h5
  injection h5 with h5
  exact absurd h5 (hne x hx)
def G : Nat:=2
structure LevAt (W : World) (T : List Value) (m : Nat) : Prop where
 side : T[m * 2]? = some (.int .i64 (sideM m))
 row : ∃ g o c,T[m * 2 + 1]? = some (.slice (some ⟨g,o,none⟩) (cnt m) c) ∧ g < W.heap.size ∧ ∀ k,k < cnt m → W.cell? ⟨g,o + k,none⟩ = some (.string (txt (strt m + k)))
def LvAt (W : World) : Prop:=2 < W.heap.size ∧ ∃ T : List Value,T.length = 18 ∧ W.rangeAt 2 0 T ∧ ∀ m,m < 9 → LevAt W T m
theorem LevAt.own {n : Nat} {W W' : World} {T : List Value} {m : Nat} (h : LevAt W T m) (hb : Below W.heap.size W W') : LevAt W' T m:=by
 obtain ⟨g,o,c,h1,h2,h3⟩:=h.row
 exact ⟨h.side,g,o,c,h1,Nat.lt_of_lt_of_le h2 hb.size,fun k hk=>(hb.cell (p:=⟨g,o + k,none⟩) h2).trans (h3 k hk)⟩
theorem LvAt.own {W W' : World} (h : LvAt W) (hb : Below W.heap.size W W') : LvAt W':=by
 obtain ⟨h0,T,h1,h2,h3⟩:=h
 exact ⟨Nat.lt_of_lt_of_le h0 hb.size,T,h1,fun j v hj=>(hb.cell (p:=⟨2,0 + j,none⟩) h0).trans (h2 j v hj),fun m hm=>(h3 m hm).own (n:=0) hb⟩
theorem run_level {T : Array Value} {m : Nat} {a b : Value} (hm : m < 9) (hz : T.size = 18) (ha : T[m * 2]? = some a) (hb : T[m * 2 + 1]? = some b) (w : World) :
  (Instr.index 217 (.agg T) (.int .i64 (m : Int))).run Tryz.prog w = .ok (.agg #[a,b]) w:=by
 have hi:=run_underlying Tryz.underlying217
 have e0 : ¬ ((m : Int) < 0):=by omega
 have e1 : (m : Int) < 9:=by omega
 have e2 : T.extract (m * 2) (m * 2 + 2) = #[a,b]:=by
  apply Array.ext_getElem?
  intro i
  rw [Array.getElem?_extract]
  match i with
  | 0=>rw [if_pos (by omega),Nat.add_zero,ha];rfl
  | 1=>rw [if_pos (by omega),hb];rfl
  | i + 2=>rw [if_neg (by omega)];simp
 simp [Instr.index,hi,asIntOf,part,go_sem,hm,e2]
end Go.Proofs.YtlklhkkjcfmefaaGreatDoor.pr
namespace Go.Proofs.YtlklhkkjcfmefaaGreatDoor.pa
open Go.RowKit sx nd ed
def ItemsAt (S : Nat → Prop) (W : World) (v : Value) (l : List Tk) : Prop :=
 ∃ ao cap,v = .slice ao l.length cap ∧ l.length ≤ maxLen ∧ (l ≠ [] → ∃ g o,ao = some ⟨g,o,none⟩ ∧ S g ∧ ∀ (i : Nat) t,l[i]? = some t → W.cell? ⟨g,o + i * 4,none⟩ = some (.int .i64 t.1) ∧ W.cell? ⟨g,o + i * 4 + 1,none⟩ = some (.string t.2))
theorem ItemsAt.keep {S S' : Nat → Prop} {W W' : World} {v : Value} {l : List Tk} (h : ItemsAt S W v l) (hS : ∀ k,S k → S' k) (hk : ∀ k,S k → W'.heap[k]? = W.heap[k]?) : ItemsAt S' W' v l:=by
 obtain ⟨ao,cap,e,hm,hr⟩:=h
 refine ⟨ao,cap,e,hm,fun hn=>?_⟩
 obtain ⟨g,o,e',hs,hc⟩:=hr hn
 exact ⟨g,o,e',hS _ hs,fun i t hi=>by
  obtain ⟨h1,h2⟩:=hc i t hi
  exact ⟨by rw [← h1];simp [World.cell?,hk g hs],by rw [← h2];simp [World.cell?,hk g hs]⟩⟩
theorem ItemsAt.below {n m : Nat} {W W' : World} {v : Value} {l : List Tk} (h : ItemsAt (Lt n) W v l) (hb : Below m W W') (hm : n ≤ m) : ItemsAt (Lt n) W' v l:=h.keep (fun _ e=>e) (fun k hk=>hb.block k (Nat.lt_of_lt_of_le hk hm))
theorem ItemsAt.mono {n m : Nat} {W : World} {v : Value} {l : List Tk} (h : ItemsAt (Lt n) W v l) (hm : n ≤ m) : ItemsAt (Lt m) W v l:=h.keep (fun _ e=>Nat.lt_of_lt_of_le e hm) (fun _ _=>rfl)
theorem ItemsAt.next {w w' : World} {v : Value} {l : List Tk} (h : ItemsAt (Lt w.heap.size) w v l) (hb : Below w.heap.size w w') : ItemsAt (Lt w'.heap.size) w' v l:=(h.below hb (Nat.le_refl _)).mono hb.size
theorem ItemsAt.slice {S : Nat → Prop} {W : World} {v : Value} {l : List Tk} (h : ItemsAt S W v l) : ∃ ao cap,v = .slice ao l.length cap ∧ l.length ≤ maxLen:=by
 obtain ⟨ao,cap,e,hm,_⟩:=h
 exact ⟨ao,cap,e,hm⟩
end Go.Proofs.YtlklhkkjcfmefaaGreatDoor.pa
namespace Go.Proofs.YtlklhkkjcfmefaaGreatDoor.nd
open Go.RowKit sx
theorem not_same {f g : Fo} {i : Nat} {x y : Nd} (hx : f.get? i = some x) (hy : g.get? i = some y) (h : x.same y = false) : f.same g = false:=by
 cases hs : f.same g with
 | false=>rfl
 | true =>
  rw [Fo.same_iff.1 hs,hy] at hx
  cases hx
  rw [Nd.same_self] at h
  cases h
theorem not_same_len {f g : Fo} (h : f.len ≠ g.len) : f.same g = false:=by
 cases hs : f.same g with
 | false=>rfl
 | true=>exact absurd (by rw [Fo.same_iff.1 hs]) h
theorem same_of {f g : Fo} (hl : f.len = g.len) (h : ∀ i x y,f.get? i = some x → g.get? i = some y → x.same y = true) : f.same g = true:=by
 refine Fo.same_iff.2 (Fo.ext hl fun i hi=>?_)
 obtain ⟨x,hx⟩:=Fo.get_of_lt hi
 obtain ⟨y,hy⟩:=Fo.get_of_lt (f:=g) (i:=i) (by omega)
 rw [hx,hy,Nd.same_iff.1 (h i x y hx hy)]
end Go.Proofs.YtlklhkkjcfmefaaGreatDoor.nd
