/-
  subeditorlaw08.ParseDeep: for every input it returns true, and the arguments read as they did. No condition.
-/
import Derived.Test.YtlklhkkjcfmefaaGreatDoorQe41
import Derived.Test.YtlklhkkjcfmefaaGreatDoorTie
import Derived.Test.YtlklhkkjcfmefaaGreatDoorCards
set_option maxRecDepth 100000
set_option maxHeartbeats 8000000
set_option linter.unusedVariables false
namespace Go.Proofs.YtlklhkkjcfmefaaGreatDoor.pa
open Go.RowKit nd pr
def frS : Nat → List UInt8
 | 0=>[40]
 | 1=>[91]
 | 2=>[123,97,58]
 | _=>[34,92,40]
def bkS : Nat → List UInt8
 | 0=>[41]
 | 1=>[93]
 | 2=>[125]
 | _=>[41,34]
def nestS : List Nat → List UInt8
 | []=>[49]
 | k :: l=>frS k ++ (nestS l ++ bkS k)
def deepS : List Nat → Nat
 | []=>0
 | k :: l=>(if 3 ≤ k then 1 else 0) + deepS l
theorem deepS_lt {k : Nat} {l : List Nat} (h : k < 3) : deepS (k :: l) = deepS l:=by
 show (if 3 ≤ k then 1 else 0) + deepS l = _
 rw [if_neg (by omega)];omega
theorem deepS_ge {k : Nat} {l : List Nat} : deepS ((k + 3) :: l) = 1 + deepS l:=by
 show (if 3 ≤ k + 3 then 1 else 0) + deepS l = _
 rw [if_pos (by omega)]
theorem deepS_le : ∀ l,deepS l ≤ l.length
 | []=>Nat.le_refl _
 | k :: l=>by have:=deepS_le l;unfold deepS;rw [List.length_cons];split <;> omega
def Beh (r : List UInt8) : Prop:=r = [] ∨ ∃ c q,r = c :: q ∧ (c = 41 ∨ c = 93 ∨ c = 125)
theorem beh_back (k : Nat) (r : List UInt8) : Beh (bkS k ++ r):=by
 match k with
 | 0=>exact .inr ⟨_,_,rfl,.inl rfl⟩
 | 1=>exact .inr ⟨_,_,rfl,.inr (.inl rfl)⟩
 | 2=>exact .inr ⟨_,_,rfl,.inr (.inr rfl)⟩
 | k + 3=>exact .inr ⟨_,_,rfl,.inl rfl⟩
theorem nest_head (l : List Nat) (r : List UInt8) : ∃ c q,nestS l ++ r = c :: q ∧ (c = 49 ∨ c = 40 ∨ c = 91 ∨ c = 123 ∨ c = 34):=by
 cases l with
 | nil=>exact ⟨_,_,rfl,.inl rfl⟩
 | cons k l =>
  match k with
  | 0=>exact ⟨_,_,rfl,by decide⟩
  | 1=>exact ⟨_,_,rfl,by decide⟩
  | 2=>exact ⟨_,_,rfl,by decide⟩
  | k + 3=>exact ⟨_,_,rfl,by decide⟩
def toT (l : List Tk) : List Lx.Tok:=l.map fun t=>(t.1,t.2.data.toList)
abbrev lx0 (br : Int) (below : List Lx.St) : Lx.Lex:=⟨⟨false,br⟩,below⟩
theorem lstep {x y : Lx.Lex} {b : UInt8} {l : List UInt8} {k : Int} {n : Nat} (hf : Lx.find (Lx.tried x) (b :: l) = some (k,n)) (ht : Lx.turn x k ((b :: l).take n) = .ok y) : Lx.lexA x (b :: l) = ((k,(b :: l).take n) :: (Lx.lexA y ((b :: l).drop n)).1,(Lx.lexA y ((b :: l).drop n)).2):=Lx.step_of (by simp) hf ht
theorem tried0 (br : Int) (below : List Lx.St) : Lx.tried (lx0 br below) = Lx.closing ∨ Lx.tried (lx0 br below) = Lx.outside:=by
 unfold Lx.tried
 rw [if_neg (show ¬ (false = true) from Bool.false_ne_true)]
 split
 ·exact .inl rfl
 ·exact .inr rfl
theorem wrap_add (br : Int) (h : 0 ≤ br ∧ br ≤ 1000000) : wrap64 (br + 1) = br + 1 ∧ wrap64 (br + 1 + -1) = br:=⟨IntWalk.wrap64_in _ (by omega),(IntWalk.wrap64_in _ (by omega)).trans (by omega)⟩
theorem lex_one1 (x : Lx.Lex) (hx : x.top.text = false) (r : List UInt8) (h : Beh r) : Lx.lexA x (49 :: r) = ((6,[49]) :: (Lx.lexA x r).1,(Lx.lexA x r).2):=by
 have hf : Lx.find (Lx.tried x) (49 :: r) = some (6,1):=by
  have h1 : Lx.find Lx.outside (49 :: r) = some (6,1) ∧ Lx.find Lx.closing (49 :: r) = some (6,1):=by
   rcases h with rfl | ⟨c,q,rfl,rfl | rfl | rfl⟩
   ·exact ⟨by decide +kernel,by decide +kernel⟩
   ·exact ⟨rfl,rfl⟩
   ·exact ⟨rfl,rfl⟩
   ·exact ⟨rfl,rfl⟩
  unfold Lx.tried
  rw [hx,if_neg Bool.false_ne_true]
  split
  ·exact h1.2
  ·exact h1.1
 exact Lx.step_of (by simp) hf rfl
theorem lex_plain {c : UInt8} (hc : c = 91 ∨ c = 93 ∨ c = 123 ∨ c = 125 ∨ c = 58) {br : Int} {below : List Lx.St} (h0 : 0 ≤ br) (h1 : br ≤ 1000000) (l : List UInt8) : Lx.lexA (lx0 br below) (c :: l) = ((13,[c]) :: (Lx.lexA (lx0 br below) l).1,(Lx.lexA (lx0 br below) l).2):=by
 have hz : wrap64 (br + 0) = br:=(IntWalk.wrap64_in _ (by omega)).trans (by omega)
 refine lstep (n:=1) ?_ ?_
 ·rcases hc with rfl | rfl | rfl | rfl | rfl <;> rcases tried0 br below with e | e <;> (rw [e];rfl)
 ·rcases hc with rfl | rfl | rfl | rfl | rfl <;> (show Except.ok (⟨⟨false,wrap64 (br + 0)⟩,below⟩ : Lx.Lex) = _;rw [hz])
theorem lex_paren {br : Int} {below : List Lx.St} (h0 : 0 ≤ br) (h1 : br ≤ 1000000) (l : List UInt8) : Lx.lexA (lx0 br below) (40 :: l) = ((13,[40]) :: (Lx.lexA (lx0 (br + 1) below) l).1,(Lx.lexA (lx0 (br + 1) below) l).2) :=
 lstep (n:=1) (by rcases tried0 br below with e | e <;> (rw [e];rfl)) (by
  show Except.ok (⟨⟨false,wrap64 (br + 1)⟩,below⟩ : Lx.Lex) = _
  rw [(wrap_add br ⟨h0,h1⟩).1])
theorem lex_pair {br : Int} {below : List Lx.St} (h0 : 0 ≤ br) (h1 : br ≤ 1000000) {l : List UInt8} (h : ∃ c q,l = c :: q ∧ (c = 49 ∨ c = 40 ∨ c = 91 ∨ c = 123 ∨ c = 34)) :
  Lx.lexA (lx0 br below) (123 :: 97 :: 58 :: l) = ((13,[123]) :: (3,[97]) :: (13,[58]) :: (Lx.lexA (lx0 br below) l).1,(Lx.lexA (lx0 br below) l).2):=by
 have e2 : Lx.lexA (lx0 br below) (97 :: 58 :: l) = ((3,[97]) :: (Lx.lexA (lx0 br below) (58 :: l)).1,(Lx.lexA (lx0 br below) (58 :: l)).2):=by
  obtain ⟨c,q,rfl,hc⟩:=h
  exact lstep (n:=1) (by rcases hc with rfl | rfl | rfl | rfl | rfl <;> rcases tried0 br below with e | e <;> (rw [e];rfl)) rfl
 rw [lex_plain (by decide) h0 h1,e2,lex_plain (by decide) h0 h1]
theorem lex_quote {br : Int} {below : List Lx.St} (l : List UInt8) : Lx.lexA (lx0 br below) (34 :: 92 :: 40 :: l) = ((7,[34]) :: (Lx.lexA ⟨⟨true,br⟩,below⟩ (92 :: 40 :: l)).1,(Lx.lexA ⟨⟨true,br⟩,below⟩ (92 :: 40 :: l)).2) :=
 lstep (n:=1) (by rcases tried0 br below with e | e <;> (rw [e];rfl)) rfl
theorem lex_in {br : Int} {below : List Lx.St} (h : below.length < 256) (l : List UInt8) : Lx.lexA ⟨⟨true,br⟩,below⟩ (92 :: 40 :: l) = ((9,[92,40]) :: (Lx.lexA (lx0 0 (below ++ [⟨true,br⟩])) l).1,(Lx.lexA (lx0 0 (below ++ [⟨true,br⟩])) l).2) :=
 lstep (n:=2) rfl (by
  unfold Lx.turn
  rw [if_neg (by decide),if_neg (by decide),if_pos rfl,if_neg (by show ¬ 256 ≤ below.length;omega)])
theorem nest0 (l : List Nat) (r : List UInt8) : nestS (0 :: l) ++ r = 40 :: (nestS l ++ 41 :: r):=by simp [nestS,frS,bkS]
theorem nest1 (l : List Nat) (r : List UInt8) : nestS (1 :: l) ++ r = 91 :: (nestS l ++ 93 :: r):=by simp [nestS,frS,bkS]
theorem nest2 (l : List Nat) (r : List UInt8) : nestS (2 :: l) ++ r = 123 :: 97 :: 58 :: (nestS l ++ 125 :: r):=by simp [nestS,frS,bkS]
theorem nest3 (k : Nat) (l : List Nat) (r : List UInt8) : nestS ((k + 3) :: l) ++ r = 34 :: 92 :: 40 :: (nestS l ++ 41 :: 34 :: r):=by simp [nestS,frS,bkS]
theorem lex_nest : ∀ (l : List Nat) (br : Int) (below : List Lx.St) (r : List UInt8),0 ≤ br → br + l.length ≤ 1000000 → below.length + deepS l ≤ 256 → Beh r →
  Lx.lexA (lx0 br below) (nestS l ++ r) = (toT (nest l) ++ (Lx.lexA (lx0 br below) r).1,(Lx.lexA (lx0 br below) r).2)
 | [],br,below,r,_,_,_,h=>lex_one1 _ rfl r h
 | 0 :: l,br,below,r,h0,h1,h2,h=>by
  rw [List.length_cons] at h1
  rw [deepS_lt (by decide)] at h2
  have e2 : Lx.lexA (lx0 (br + 1) below) (41 :: r) = ((13,[41]) :: (Lx.lexA (lx0 br below) r).1,(Lx.lexA (lx0 br below) r).2) :=
   lstep (n:=1) (by
    have : Lx.tried (lx0 (br + 1) below) = Lx.outside:=by
     unfold Lx.tried
     rw [if_neg (show ¬ (false = true) from Bool.false_ne_true),if_neg (by show ¬ (0 < below.length ∧ br + 1 = 0);omega)]
    rw [this];rfl) (by
    show Except.ok (⟨⟨false,wrap64 (br + 1 + -1)⟩,below⟩ : Lx.Lex) = _
    rw [(wrap_add br ⟨h0,by omega⟩).2])
  rw [nest0,lex_paren h0 (by omega),lex_nest l (br + 1) below (41 :: r) (by omega) (by push_cast at *;omega) h2 (.inr ⟨_,_,rfl,.inl rfl⟩),e2]
  simp [nest,frontT,backT,toT]
 | 1 :: l,br,below,r,h0,h1,h2,h=>by
  rw [List.length_cons] at h1
  rw [deepS_lt (by decide)] at h2
  rw [nest1,lex_plain (by decide) h0 (by omega),lex_nest l br below (93 :: r) h0 (by push_cast at *;omega) h2 (.inr ⟨_,_,rfl,.inr (.inl rfl)⟩),lex_plain (by decide) h0 (by omega)]
  simp [nest,frontT,backT,toT]
 | 2 :: l,br,below,r,h0,h1,h2,h=>by
  rw [List.length_cons] at h1
  rw [deepS_lt (by decide)] at h2
  rw [nest2,lex_pair h0 (by omega) (nest_head l (125 :: r)),lex_nest l br below (125 :: r) h0 (by push_cast at *;omega) h2 (.inr ⟨_,_,rfl,.inr (.inr rfl)⟩),lex_plain (by decide) h0 (by omega)]
  simp [nest,frontT,backT,toT]
 | (k + 3) :: l,br,below,r,h0,h1,h2,h=>by
  rw [List.length_cons] at h1
  have hd : below.length + 1 + deepS l ≤ 256:=by
   have:=deepS_ge (k:=k) (l:=l)
   omega
  have e3 : Lx.lexA (lx0 0 (below ++ [⟨true,br⟩])) (41 :: 34 :: r) = ((10,[41]) :: (Lx.lexA ⟨⟨true,br⟩,below⟩ (34 :: r)).1,(Lx.lexA ⟨⟨true,br⟩,below⟩ (34 :: r)).2) :=
   lstep (n:=1) (by
    have : Lx.tried (lx0 0 (below ++ [⟨true,br⟩])) = Lx.closing:=by
     unfold Lx.tried
     rw [if_neg (show ¬ (false = true) from Bool.false_ne_true),if_pos (by simp)]
    rw [this];rfl) (by
    unfold Lx.turn
    rw [if_neg (by decide),if_neg (by decide),if_neg (by decide),if_pos rfl]
    simp)
  have e4 : Lx.lexA ⟨⟨true,br⟩,below⟩ (34 :: r) = ((11,[34]) :: (Lx.lexA (lx0 br below) r).1,(Lx.lexA (lx0 br below) r).2):=lstep (n:=1) rfl rfl
  have ih:=lex_nest l 0 (below ++ [⟨true,br⟩]) (41 :: 34 :: r) (by omega) (by push_cast at *;omega) (by rw [List.length_append];simpa [Nat.add_assoc] using hd) (.inr ⟨_,_,rfl,.inl rfl⟩)
  rw [nest3,lex_quote,lex_in (by omega),ih,e3,e4]
  simp [nest,frontT,backT,toT]
theorem lex_over : ∀ (l : List Nat) (br : Int) (below : List Lx.St) (r : List UInt8),0 ≤ br → br + l.length ≤ 1000000 → below.length ≤ 256 → 256 < below.length + deepS l → (Lx.lexA (lx0 br below) (nestS l ++ r)).2 = 21
 | [],br,below,r,_,_,h2,h3=>absurd h3 (by simp only [deepS];omega)
 | 0 :: l,br,below,r,h0,h1,h2,h3=>by
  rw [List.length_cons] at h1
  rw [deepS_lt (by decide)] at h3
  rw [nest0,lex_paren h0 (by omega)]
  exact lex_over l (br + 1) below (41 :: r) (by omega) (by push_cast at *;omega) h2 h3
 | 1 :: l,br,below,r,h0,h1,h2,h3=>by
  rw [List.length_cons] at h1
  rw [deepS_lt (by decide)] at h3
  rw [nest1,lex_plain (by decide) h0 (by omega)]
  exact lex_over l br below (93 :: r) h0 (by push_cast at *;omega) h2 h3
 | 2 :: l,br,below,r,h0,h1,h2,h3=>by
  rw [List.length_cons] at h1
  rw [deepS_lt (by decide)] at h3
  rw [nest2,lex_pair h0 (by omega) (nest_head l (125 :: r))]
  exact lex_over l br below (125 :: r) h0 (by push_cast at *;omega) h2 h3
 | (k + 3) :: l,br,below,r,h0,h1,h2,h3=>by
  rw [List.length_cons] at h1
  have hd : 256 < below.length + 1 + deepS l:=by
   have:=deepS_ge (k:=k) (l:=l)
   omega
  by_cases hb : below.length = 256
  ·have hbad : Lx.next ⟨⟨true,br⟩,below⟩ (92 :: 40 :: (nestS l ++ 41 :: 34 :: r)) = .error 21:=Lx.next_bad (k:=9) (n:=2) rfl (by
    unfold Lx.turn
    rw [if_neg (by decide),if_neg (by decide),if_pos rfl,if_pos (by show 256 ≤ below.length;omega)])
   rw [nest3,lex_quote,Lx.lexA_err hbad (by simp)]
  ·rw [nest3,lex_quote,lex_in (by omega)]
   exact lex_over l 0 (below ++ [⟨true,br⟩]) (41 :: 34 :: r) (by omega) (by push_cast at *;omega) (by rw [List.length_append];simp;omega) (by rw [List.length_append];simpa [Nat.add_assoc] using hd)
theorem items_nb : ∀ (l : List Tk) (p : Nat),(∀ t ∈ l,(t.1 == 1 || t.1 == 2) = false) → (itemsP p (toT l)).map (·.1) = l
 | [],_,_=>rfl
 | t :: r,p,h=>by
  show (itemsP p ((t.1,t.2.data.toList) :: toT r)).map (·.1) = t :: r
  rw [itemsP,h t List.mem_cons_self,if_neg Bool.false_ne_true,List.map_cons,items_nb r _ fun u hu=>h u (List.mem_cons_of_mem _ hu)]
theorem nest_kinds : ∀ (l : List Nat),∀ t ∈ nest l,(t.1 == 1 || t.1 == 2) = false
 | [],t,ht=>by
  obtain rfl:=List.mem_singleton.1 ht
  rfl
 | k :: l,t,ht=>by
  have h1 : ∀ u ∈ frontT k,(u.1 == 1 || u.1 == 2) = false:=by
   match k with
   | 0=>decide
   | 1=>decide
   | 2=>decide
   | k + 3=>show ∀ u ∈ frontT 3,_;decide
  have h2 : ∀ u ∈ backT k,(u.1 == 1 || u.1 == 2) = false:=by
   match k with
   | 0=>decide
   | 1=>decide
   | 2=>decide
   | k + 3=>show ∀ u ∈ backT 3,_;decide
  rcases List.mem_append.1 ht with h | h
  ·exact h1 t h
  ·rcases List.mem_append.1 h with h | h
   ·exact nest_kinds l t h
   ·exact h2 t h
theorem source_nest (l : List Nat) (hl : l.length ≤ 1000) (hs : (nestS l).length ≤ 65536) : (sourceP (nestS l) (-1)).2.1 = if l.length ≤ 256 then 0 else 21:=by
 have hd:=deepS_le l
 unfold sourceP
 rw [if_neg (by omega),if_neg (by decide)]
 by_cases h : deepS l ≤ 256
 ·have e:=lex_nest l 0 [] [] (Int.le_refl _) (by omega) (by simpa using h) (.inl rfl)
  rw [List.append_nil] at e
  have e1 : Lx.lexA Lx.start (nestS l) = (toT (nest l),0):=by
   show Lx.lexA (lx0 0 []) (nestS l) = _
   rw [e,Lx.lexA_nil]
   simp [Lx.ended]
  rw [e1,if_pos rfl]
  unfold itemsR
  rw [items_nb _ 0 (nest_kinds l)]
  have hp:=parse_nest l
  by_cases h0 : (parse (nest l)).2.1 = 0
  ·rw [if_pos h0];exact hp
  ·rw [if_neg h0];exact hp
 ·have e:=lex_over l 0 [] [] (Int.le_refl _) (by omega) (by simp) (by simp;omega)
  rw [List.append_nil] at e
  have e1 : (Lx.lexA Lx.start (nestS l)).2 = 21:=e
  rw [if_neg (by rw [e1];decide),e1,if_neg (by omega)]
end Go.Proofs.YtlklhkkjcfmefaaGreatDoor.pa
namespace Go.Proofs.YtlklhkkjcfmefaaGreatDoor.pa
open Go.Lib (hid)
open Go.RowKit
theorem u16_wf {n : Int} (h : (Lit.int .u16 n).wf = true) : 0 ≤ n ∧ n ≤ 65535:=by simpa [Lit.wf,IntKind.min,IntKind.max,IntKind.signed,IntKind.bits] using h
end Go.Proofs.YtlklhkkjcfmefaaGreatDoor.pa
namespace Go.Proofs.YtlklhkkjcfmefaaGreatDoor.parseDeep
open Go.Lib (hid)
open Go.RowKit Go.ChangeShapes Go.WideShapes Go.ChangeAt Go.Shelf nd pr sx ed law pa
def frA : List Nat → List UInt8
 | []=>[]
 | k :: l=>frS k ++ frA l
def bkA : List Nat → List UInt8
 | []=>[]
 | k :: l=>bkA l ++ bkS k
theorem frA_snoc (l : List Nat) (k : Nat) : frA (l ++ [k]) = frA l ++ frS k:=by
 induction l with
 | nil=>simp [frA]
 | cons a l ih=>rw [List.cons_append,frA,frA,ih,List.append_assoc]
theorem bkA_snoc (l : List Nat) (k : Nat) : bkA (l ++ [k]) = bkS k ++ bkA l:=by
 induction l with
 | nil=>simp [bkA]
 | cons a l ih=>rw [List.cons_append,bkA,bkA,ih,List.append_assoc]
theorem nestS_eq (l : List Nat) : nestS l = frA l ++ ([49] ++ bkA l):=by
 induction l with
 | nil=>rfl
 | cons a l ih=>rw [nestS,frA,bkA,ih];simp
theorem fr_len (k : Nat) : (frS k).length ≤ 3:=by
 match k with
 | 0=>decide
 | 1=>decide
 | 2=>decide
 | k + 3=>show (frS 3).length ≤ 3;decide
theorem bk_len (k : Nat) : (bkS k).length ≤ 2:=by
 match k with
 | 0=>decide
 | 1=>decide
 | 2=>decide
 | k + 3=>show (bkS 3).length ≤ 2;decide
theorem frA_len : ∀ l,(frA l).length ≤ 3 * l.length
 | []=>Nat.le_refl _
 | k :: l=>by have:=frA_len l;have:=fr_len k;rw [frA,List.length_append,List.length_cons];omega
theorem bkA_len : ∀ l,(bkA l).length ≤ 2 * l.length
 | []=>Nat.le_refl _
 | k :: l=>by have:=bkA_len l;have:=bk_len k;rw [bkA,List.length_append,List.length_cons];omega
theorem fr_ascii (k : Nat) : ∀ b ∈ frS k,b.toNat < 128:=by
 match k with
 | 0=>decide
 | 1=>decide
 | 2=>decide
 | k + 3=>show ∀ b ∈ frS 3,b.toNat < 128;decide
theorem bk_ascii (k : Nat) : ∀ b ∈ bkS k,b.toNat < 128:=by
 match k with
 | 0=>decide
 | 1=>decide
 | 2=>decide
 | k + 3=>show ∀ b ∈ bkS 3,b.toNat < 128;decide
theorem nest_ascii : ∀ l,∀ b ∈ nestS l,b.toNat < 128
 | []=>by decide
 | k :: l=>by
  intro b hb
  rcases List.mem_append.1 hb with h | h
  ·exact fr_ascii k b h
  ·rcases List.mem_append.1 h with h | h
   ·exact nest_ascii l b h
   ·exact bk_ascii k b h
def kd (bs : List Int) (i : Nat) : Nat:=(bs.getD i 0 % 4).toNat
def kds (bs : List Int) (k : Nat) : List Nat:=(List.range k).map (kd bs)
theorem kds_succ (bs : List Int) (k : Nat) : kds bs (k + 1) = kds bs k ++ [kd bs k]:=by unfold kds;rw [List.range_succ,List.map_append];rfl
theorem kds_len (bs : List Int) (k : Nat) : (kds bs k).length = k:=by unfold kds;rw [List.length_map,List.length_range]
theorem kd_lt (bs : List Int) (i : Nat) : kd bs i < 4:=by unfold kd;omega
def byt (l : List UInt8) : ByteArray:=⟨l.toArray⟩
theorem byt_app (l m : List UInt8) : byt l ++ byt m = byt (l ++ m):=by
 show ByteArray.append _ _ = _
 apply ByteArray.ext
 rw [show (ByteArray.append (byt l) (byt m)) = byt l ++ byt m from rfl,ByteArray.data_append]
 simp [byt]
theorem byt_size (l : List UInt8) : (byt l).size = l.length:=by show l.toArray.size = _;simp
def frCells : Array Value:=#[.string ⟨#[40]⟩,.string ⟨#[91]⟩,.string ⟨#[123,97,58]⟩,.string ⟨#[34,92,40]⟩]
def bkCells : Array Value:=#[.string ⟨#[41]⟩,.string ⟨#[93]⟩,.string ⟨#[125]⟩,.string ⟨#[41,34]⟩]
theorem fr_at : ∀ k,k < 4 → frCells[k]? = some (.string (byt (frS k)))
 | 0,_=>rfl
 | 1,_=>rfl
 | 2,_=>rfl
 | 3,_=>rfl
theorem bk_at : ∀ k,k < 4 → bkCells[k]? = some (.string (byt (bkS k)))
 | 0,_=>rfl
 | 1,_=>rfl
 | 2,_=>rfl
 | 3,_=>rfl
theorem fr_snoc (bs : List Int) (k : Nat) : byt (frA (kds bs (k + 1))) = byt (frA (kds bs k)) ++ byt (frS (kd bs k)):=by rw [byt_app,kds_succ,frA_snoc]
theorem bk_snoc (bs : List Int) (k : Nat) : byt (bkA (kds bs (k + 1))) = byt (bkS (kd bs k)) ++ byt (bkA (kds bs k)):=by rw [byt_app,kds_succ,bkA_snoc]
theorem whole_eq (l : List Nat) : byt (frA l) ++ ⟨#[49]⟩ ++ byt (bkA l) = byt (nestS l):=by
 rw [show (⟨#[49]⟩ : ByteArray) = byt [49] from rfl,byt_app,byt_app,nestS_eq,List.append_assoc]
theorem bytes_one {W : World} {v : Value} {bs : List Int} (h : BytesAt W v bs) : ∃ ao cap,v = .slice ao bs.length cap ∧ bs.length ≤ maxLen ∧ ∀ j,j < bs.length → ∃ b off,ao = some ⟨b,off,none⟩ ∧ W.cell? ⟨b,off + j,none⟩ = some (.int .u8 (bs.getD j 0)) ∧ 0 ≤ bs.getD j 0 ∧ bs.getD j 0 ≤ 255:=by
 rcases h with ⟨rfl,rfl⟩ | ⟨a,cap,rfl,rfl⟩ | ⟨b,off,cap,rfl,hm,hc⟩
 ·exact ⟨none,0,rfl,Nat.zero_le _,fun j hj=>absurd hj (Nat.not_lt_zero _)⟩
 ·exact ⟨some a,cap,rfl,Nat.zero_le _,fun j hj=>absurd hj (Nat.not_lt_zero _)⟩
 ·exact ⟨some ⟨b,off,none⟩,cap,rfl,hm,fun j hj=>⟨b,off,rfl,hc j hj⟩⟩
theorem deep_src (l : List Nat) (hl : l.length < 300) (w : World) (hT : Tb w) : Calls Tryz.prog 21 #[.string (byt (nestS l))] w fun e w'=>Below w.heap.size w w' ∧ ∃ k t a m c,∃ z : Nat,e = .returned (.tuple #[.agg #[.int .i64 k,.string t,.slice a m c],.int .u16 (if l.length ≤ 256 then 0 else 21),.int .i64 (z : Int)]):=by
 have hn : (nestS l).length ≤ 65536:=by
  have h1:=frA_len l
  have h2:=bkA_len l
  rw [nestS_eq,List.length_append,List.length_append]
  simp only [List.length_cons,List.length_nil]
  omega
 have hsn:=source_nest l (by omega) hn
 have hd : (byt (nestS l)).data.toList = nestS l:=by unfold byt;simp
 have hu : utf.checkF (byt (nestS l)) = -1:=lx.check_ok (lx.ok_ascii (by rw [hd];exact nest_ascii l))
 refine (src_of hu rfl w hT).mono ?_
 rintro e w' ⟨hb,a,c,rfl,_⟩
 rw [hd]
 exact ⟨hb,_,_,_,_,_,_,by rw [hsn]⟩
theorem walk (bs : List Int) (n : Int) (hn : 0 ≤ n ∧ n ≤ 65535) (W : World) (v : Value) (hv : BytesAt W v bs) (hT : Tb W) :
  Calls Tryz.prog 6 #[.int .u16 n,v] W fun e w'=>e = .returned (.bool true) ∧ Below W.heap.size W w':=by
 obtain ⟨ao,cap,rfl,hm,hc⟩:=bytes_one hv
 unfold maxLen at hm
 obtain ⟨N,hN⟩ : ∃ N,bs.length = N:=⟨_,rfl⟩
 rw [hN] at hm hc ⊢
 obtain ⟨K,hK⟩ : ∃ K : Nat,n % 300 = (K : Int):=⟨(n % 300).toNat,by omega⟩
 have hK3 : K < 300:=by omega
 have htm : n.tmod 300 = (K : Int):=by rw [Int.tmod_eq_emod_of_nonneg hn.1];exact hK
 have hn6 : n % 65536 = n:=by omega
 have hK6 : (K : Int) % 65536 = (K : Int):=by omega
 have HNB:=hid hN;have HC:=hid hc;have HT:=hid hT
 clear hN hc hT hv hK hn
 go_enter Tryz.func6,Tryz.ntmps6
 go_wp2_with fail
 go_loopw [6,7,8,9] (fun f b i _ wr=>∃ k : Nat,k ≤ K ∧ i = .int .i64 (k : Int) ∧ f = .string (byt (frA (kds bs k))) ∧ b = .string (byt (bkA (kds bs k))) ∧ Below W.heap.size W wr) (fun _ _ i _ _=>K - (intOf i).toNat)
 case atStart=>exact ⟨0,Nat.zero_le _,rfl,rfl,rfl,Below.refl _ _⟩
 case round =>
  obtain ⟨k,hk,rfl,rfl,rfl,hbl⟩:=hrel
  by_cases h1 : k < K
  ·obtain ⟨m,hkm⟩ : ∃ m,kd bs k = m:=⟨_,rfl⟩
   have hm4 : m < 4:=by rw [← hkm];exact kd_lt bs k
   have hf1:=frA_len (kds bs k)
   have hb1:=bkA_len (kds bs k)
   rw [kds_len] at hf1 hb1
   have hfs:=fr_snoc bs k
   have hbs:=bk_snoc bs k
   rw [hkm] at hfs hbs
   have hf2:=fr_len m
   have hb2:=bk_len m
   have e1 : ¬ (9223372036854775807 < (byt (frA (kds bs k))).size + (byt (frS m)).size):=by rw [byt_size,byt_size];omega
   have e2 : ¬ (9223372036854775807 < (byt (bkS m)).size + (byt (bkA (kds bs k))).size):=by rw [byt_size,byt_size];omega
   have hca : (wr.alloc (.cells frCells 9)).cell? ⟨wr.heap.size,m,none⟩ = some (.string (byt (frS m))):=((Blk.new wr 9 frCells).cell m).trans (fr_at m hm4)
   obtain ⟨W2,hW2⟩ : ∃ W2,wr.alloc (.cells frCells 9) = W2:=⟨_,rfl⟩
   have hb3 : Below wr.heap.size wr W2:=by rw [← hW2];exact (Below.refl _ _).alloc (Nat.le_refl _) _
   rw [hW2] at hca
   have hcb : (W2.alloc (.cells bkCells 9)).cell? ⟨W2.heap.size,m,none⟩ = some (.string (byt (bkS m))):=((Blk.new W2 9 bkCells).cell m).trans (bk_at m hm4)
   obtain ⟨W3,hW3⟩ : ∃ W3,W2.alloc (.cells bkCells 9) = W3:=⟨_,rfl⟩
   have hb4 : Below W2.heap.size W2 W3:=by rw [← hW3];exact (Below.refl _ _).alloc (Nat.le_refl _) _
   rw [hW3] at hcb
   unfold frCells at hW2
   unfold bkCells at hW3
   have HB4:=hid ((hbl.trans (hb3.mono hbl.size)).trans (hb4.mono (Nat.le_trans hbl.size hb3.size)))
   have HFS:=hid hfs;have HBS:=hid hbs
   have d1 : decide ((k : Int) < (K : Int)) = true:=decide_eq_true (by omega)
   have d1' : decide (k < K) = true:=decide_eq_true h1
   have m0 : (0 : Int) ≤ (m : Int):=Int.natCast_nonneg _
   have m1 : (m : Int) < 4:=by omega
   have hm256 : (m : Int) % 256 = (m : Int):=by omega
   by_cases h2 : k < N
   ·obtain ⟨b,off,rfl,hcell,hx0,hx1⟩:=HC.out k h2
    have hcw : wr.cell? ⟨b,off + k,none⟩ = some (.int .u8 (bs.getD k 0)):=(hbl.cell (p:=⟨b,off + k,none⟩) (cell_lt hcell)).trans hcell
    obtain ⟨x,hx⟩ : ∃ x,bs.getD k 0 = x:=⟨_,rfl⟩
    unfold kd at hkm
    rw [hx] at hcw hx0 hx1 hkm
    have hmx : x % 4 = (m : Int):=by omega
    have ht4 : x.tmod 4 = (m : Int):=by rw [Int.tmod_eq_emod_of_nonneg hx0];exact hmx
    have hx256 : x % 256 = x:=by omega
    have d2 : decide ((k : Int) < (N : Int)) = true:=decide_eq_true (by omega)
    have d2' : decide (k < N) = true:=decide_eq_true h2
    clear hbl hb3 hb4 hfs hbs hf1 hb1 hf2 hb2 hcell hx
    go_wp2_with fail
    refine ⟨⟨k + 1,by omega,by simp,by rw [HFS.out],by rw [HBS.out],HB4.out⟩,?_⟩
    simp [intOf]
    omega
   ·have hk0 : m = 0:=by
     rw [← hkm]
     unfold kd
     rw [List.getD_eq_getElem?_getD,List.getElem?_eq_none (by rw [HNB.out];omega)]
     rfl
    subst hk0
    have d2 : decide ((k : Int) < (N : Int)) = false:=decide_eq_false (by omega)
    have d2' : decide (k < N) = false:=decide_eq_false h2
    clear hbl hb3 hb4 hfs hbs hf1 hb1 hf2 hb2 HC
    go_wp2_with fail
    refine ⟨⟨k + 1,by omega,by simp,by rw [HFS.out],by rw [HBS.out],HB4.out⟩,?_⟩
    simp [intOf]
    omega
  ·obtain rfl : k = K:=by omega
   have hl : (kds bs k).length = k:=kds_len bs k
   have hf1:=frA_len (kds bs k)
   have hb1:=bkA_len (kds bs k)
   rw [hl] at hf1 hb1
   have hsrc0:=fun w (hb : Below W.heap.size W w)=>deep_src (kds bs k) (by omega) w (HT.out.own hb)
   rw [← whole_eq,hl] at hsrc0
   obtain ⟨F,hF⟩ : ∃ F,byt (frA (kds bs k)) = F:=⟨_,rfl⟩
   obtain ⟨B,hB⟩ : ∃ B,byt (bkA (kds bs k)) = B:=⟨_,rfl⟩
   have hFs : F.size ≤ 900:=by rw [← hF,byt_size];omega
   have hBs : B.size ≤ 600:=by rw [← hB,byt_size];omega
   rw [hF,hB] at hsrc0 ⊢
   have e0 : (⟨#[49]⟩ : ByteArray).size = 1:=rfl
   have e1 : ¬ (9223372036854775807 < F.size + (⟨#[49]⟩ : ByteArray).size):=by rw [e0];omega
   have e2 : ¬ (9223372036854775807 < (F ++ ⟨#[49]⟩).size + B.size):=by rw [ByteArray.size_append,e0];omega
   have e3 : ¬ (9223372036854775807 < F.size + 1):=by omega
   have e4 : ¬ (9223372036854775807 < F.size + 1 + B.size):=by omega
   have HSRC:=hid hsrc0
   have HBL:=hid hbl
   have HKN:=hid (fun w (hb : Below W.heap.size W w)=>known_calls w (HT.out.own hb))
   have d1 : decide ((k : Int) < (k : Int)) = false:=decide_eq_false (by omega)
   have d1' : decide (k < k) = false:=decide_eq_false (by omega)
   have hend : (k ≤ 256 ∧ (if k ≤ 256 then (0 : Int) else 21) = 0 ∧ decide ((k : Int) ≤ 256) = true ∧ decide (k ≤ 256) = true) ∨ (256 < k ∧ (if k ≤ 256 then (0 : Int) else 21) = 21 ∧ decide ((k : Int) ≤ 256) = false ∧ decide (k ≤ 256) = false):=by
    by_cases h : k ≤ 256
    ·exact .inl ⟨h,if_pos h,decide_eq_true (by omega),decide_eq_true h⟩
    ·exact .inr ⟨by omega,if_neg h,decide_eq_false (by omega),decide_eq_false h⟩
   clear hsrc0 hf1 hb1 hF hB hl h1 hbl HC HNB
   go_wp2_with fail
   ((with_reducible refine (HSRC.out _ HBL.out).mono ?_);rintro e w1 ⟨hbb1,kk,t,a,m,c,z,rfl⟩)
   obtain ⟨E,hE⟩ : ∃ E : Int,(if k ≤ 256 then (0 : Int) else 21) = E:=⟨_,rfl⟩
   rw [hE] at hend
   rw [hE]
   clear hE
   go_upto_region 13 with fail
   obtain ⟨w2,hw2⟩ : ∃ w2,w1.alloc (.cells #[.int .i64 kk,.string t,.slice a m c] 32) = w2:=⟨_,rfl⟩
   rw [hw2]
   have hbb2 : Below w1.heap.size w1 w2:=by rw [← hw2];exact (Below.refl _ _).alloc (Nat.le_refl _) _
   have HB2:=hid ((HBL.out.trans (hbb1.mono HBL.out.size)).trans (hbb2.mono (Nat.le_trans HBL.out.size hbb1.size)))
   clear hw2 hbb1 hbb2
   go_wp2_with fail
   ((with_reducible refine (HKN.out _ HB2.out).mono ?_);rintro e w3 ⟨rfl,hb3⟩)
   have HB3:=hid (HB2.out.trans (hb3.mono HB2.out.size))
   clear hb3
   rcases hend with ⟨hk6,rfl,t1,t2⟩ | ⟨hk6,rfl,t1,t2⟩
   all_goals
    go_wp2_with fail
    go_ret
    exact ⟨rfl,HB3.out⟩
theorem lifted (os : Os) (started : os.Started) (H : Type) (enc : TypeId × Value → H) :
  ReturnsInHanded {} Tryz.checked os 6 .any (fun w args=>(Rows.parseDeepSpec.pre enc Tryz.prog Tryz.f6 Rows.parseDeepRow.domain false w args ∧ laidMetH Tryz.prog pa.laid w) ∧ sizedMet enc Tryz.prog Tryz.f6 (OpenSpec.ofChange Rows.parseDeepSpec) false w args) (Rows.parseDeepSpec.post enc Tryz.prog Tryz.f6 false true false false):=by
 refine returnsInHanded_of_change_and (C:=Tryz.checked) (X:=fun w _=>laidMetH Tryz.prog pa.laid w) (fun _ _ _ hh h=>h.of_heap hh) law.own started (by kernel_rfl) Tryz.func6
  (ChangeSpec.witness_shaped (enc:=enc) (C:=Tryz.checked) (os:=os) (X:=fun w _=>laidMetH Tryz.prog pa.laid w) false (World.laidAll Tryz.prog os pa.laid) #[.int .u16 0,.slice none 0 0] 8 (World.laidAll_os _ _ _) (World.shaped_of_ZipB (by kernel_rfl) (by kernel_rfl)) (by kernel_rfl) (by kernel_rfl) (by kernel_rfl) (pa.laid_met os _)) ?_
 intro W base args ds gs before hval0 hW _ hsize0 hL _
 have hsize : (DataW.weightsEach Tryz.prog (Tryz.f6.params.toList ++ _) (ds ++ gs)).all (· ≤ reachBytes) = true:=hsize0
 have hTb:=pa.tb_of_laid hL
 have hval : ∀ (j : Nat) t v,Tryz.f6.params[j]? = some t → args[j]? = some v → Value.okWide Tryz.prog W .any base t v:=hval0
 have hW':=hW
 obtain ⟨p,q,hA0,hV,rfl,_,_⟩:=hW
 have hA : DataW.TrodAll enc Tryz.prog W 0 (fun _=>true) true Tryz.f6.params.toList args.toList ds p:=hA0
 rw [Tryz.params6] at hA hval
 obtain ⟨v0,vs0,d0,ds0,p0,q0,hargs,rfl,rfl,h0,r0⟩:=trodAll_cons hA
 obtain ⟨v1,vs1,d1,ds1,p1,q1,rfl,rfl,rfl,h1,r1⟩:=trodAll_cons r0
 obtain ⟨rfl,rfl,rfl⟩:=trodAll_nil r1
 obtain rfl : args = #[v0,v1]:=by cases args;simp_all
 obtain ⟨rfl,rfl⟩:=trodVars_none hV
 obtain ⟨k0,rfl,rfl,rfl,wk0⟩:=open_int Tryz.underlying33 (hval 0 33 v0 rfl rfl) h0
 obtain ⟨bs1,hbs1⟩:=law.open_bytes (hval 1 22 v1 rfl rfl) h1
 clear hL
 refine (walk bs1 k0 (pa.u16_wf wk0) W v1 hbs1 hTb).mono fun e W' ⟨he,hb⟩=>⟨_,he,?_⟩
 exact law.law_post rfl hW' rfl (by kernel_rfl) (by kernel_rfl) hb
theorem holds : Rows.ParseDeepSaid :=
 OpenClaim.holds_of_wide 6 Tryz.f6 rfl rfl rfl rfl rfl rfl rfl ⟨rfl,rfl,rfl,rfl,rfl⟩ rfl rfl rfl rfl rfl (by kernel_rfl) Tryz.func6 (by kernel_rfl)
  (of_decide_eq_true (by kernel_rfl)) (by unfold Func.isWrapper;first | (rw [if_pos (by decide +kernel)];kernel_rfl) | (rw [if_neg (by decide +kernel)];exact ⟨rfl,rfl⟩))
  (fun os started H enc _=>lifted os started H enc)
theorem card : Rows.ParseDeepCardSaid :=
 Claim7.holds_tied_plain_at .later [] [.data,.widerDeep,.data,.pinned] true Rows.parseDeepCard.stood.harness true
  holds (fun _ h=>by cases h) (by kernel_rfl) (fun _ h=>by cases h) parseDeep_row_tie rfl ⟨rfl,rfl⟩ (by kernel_rfl) rfl
  (fun f fn hf hfn=>by
   obtain rfl : f = 6:=Option.some.inj ((show Tryz.prog.funcNamed "subeditor/subeditorlaw08.ParseDeep" = some 6 by kernel_rfl).symm.trans hf) |>.symm
   obtain rfl : fn = Tryz.f6:=(Option.some.inj (Tryz.func6.symm.trans hfn)).symm
   exact ⟨by kernel_rfl,fun j t ht=>by
    rw [Tryz.params6] at ht
    have hm:=List.mem_toArray.1 (Array.mem_of_getElem? ht)
    have hall : (Tryz.f6.params.toList.all fun u=>!Tryz.prog.wantsStandIn u) = true:=by kernel_rfl
    rw [show Tryz.f6.params.toList = _ from congrArg Array.toList Tryz.params6] at hall
    exact (show Tryz.prog.wantsStandIn t = false by simpa using List.all_eq_true.1 hall t hm)⟩)
  (by kernel_rfl)
end Go.Proofs.YtlklhkkjcfmefaaGreatDoor.parseDeep
