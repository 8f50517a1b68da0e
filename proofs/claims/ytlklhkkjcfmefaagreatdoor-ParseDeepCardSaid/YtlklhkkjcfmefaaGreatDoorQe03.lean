/- Ground of the law: PaSpec, UtfRunes, LxSpec, SeqAll, PrBase. -/
import Derived.Test.YtlklhkkjcfmefaaGreatDoorQe01
import Derived.Test.YtlklhkkjcfmefaaGreatDoorQe02
import Derived.Lib.TrimUEq
import Derived.WalkKit
import Derived.Lib.Hide
import Derived.Maps.AppendAt
import Derived.Laws.AppendOwnNone
import Derived.Test.YtlklhkkjcfmefaaGreatDoorQe00
set_option maxRecDepth 100000
set_option maxHeartbeats 8000000
set_option linter.unusedVariables false
set_option linter.unusedSimpArgs false
namespace Go.Proofs.YtlklhkkjcfmefaaGreatDoor.pa
open Go.RowKit nd pr
abbrev Tk:=Int × ByteArray
def noTk : Tk:=(0,⟨#[]⟩)
def tok (r : List Tk) : Tk:=r.headD noTk
inductive Pa (α : Type) : Type where
 | ret (x : α)
 | bad
 | out
 | look (k : Tk → Pa α)
 | peek (k : Tk → Pa α)
 | ended (k : Bool → Pa α)
 | move (k : Pa α)
inductive Out (α : Type) : Type where
 | ok (r : List Tk) (x : α)
 | bad (r : List Tk)
namespace Pa
def bind {α β : Type} : Pa α → (α → Pa β) → Pa β
 | ret x,f=>f x
 | bad,_=>bad
 | out,_=>out
 | look k,f=>look fun t=>(k t).bind f
 | peek k,f=>peek fun t=>(k t).bind f
 | ended k,f=>ended fun z=>(k z).bind f
 | move k,f=>move (k.bind f)
def run {α : Type} : Pa α → List Tk → Option (Out α)
 | ret x,r=>some (.ok r x)
 | bad,r=>some (.bad r)
 | out,_=>none
 | look k,r=>(k (tok r)).run r
 | peek k,r=>(k (tok r.tail)).run r
 | ended k,r=>(k r.isEmpty).run r
 | move k,r=>k.run r.tail
theorem run_bind {α β : Type} (p : Pa α) (f : α → Pa β) : ∀ r,(p.bind f).run r = match p.run r with
  | none=>none
  | some (.bad r')=>some (.bad r')
  | some (.ok r' x)=>(f x).run r':=by
 induction p with
 | ret x=>intro r;rfl
 | bad=>intro r;rfl
 | out=>intro r;rfl
 | look k ih=>intro r;exact ih (tok r) r
 | peek k ih=>intro r;exact ih (tok r.tail) r
 | ended k ih=>intro r;exact ih r.isEmpty r
 | move k ih=>intro r;exact ih r.tail
end Pa
abbrev eB : ByteArray:=⟨#[]⟩
abbrev minus : ByteArray:=⟨#[45]⟩
abbrev semi : ByteArray:=⟨#[59]⟩
abbrev colon : ByteArray:=⟨#[58]⟩
abbrev bar : ByteArray:=⟨#[124]⟩
abbrev lpar : ByteArray:=⟨#[40]⟩
abbrev rpar : ByteArray:=⟨#[41]⟩
abbrev lbr : ByteArray:=⟨#[91]⟩
abbrev rbr : ByteArray:=⟨#[93]⟩
abbrev lbrace : ByteArray:=⟨#[123]⟩
abbrev rbrace : ByteArray:=⟨#[125]⟩
abbrev comma : ByteArray:=⟨#[44]⟩
abbrev dot : ByteArray:=⟨#[46]⟩
abbrev dots : ByteArray:=⟨#[46,46]⟩
abbrev quest : ByteArray:=⟨#[63]⟩
abbrev wdef : ByteArray:=⟨#[100,101,102]⟩
abbrev wlabel : ByteArray:=⟨#[108,97,98,101,108]⟩
abbrev wtry : ByteArray:=⟨#[116,114,121]⟩
abbrev wcatch : ByteArray:=⟨#[99,97,116,99,104]⟩
abbrev was : ByteArray:=⟨#[97,115]⟩
abbrev wif : ByteArray:=⟨#[105,102]⟩
abbrev wthen : ByteArray:=⟨#[116,104,101,110]⟩
abbrev welif : ByteArray:=⟨#[101,108,105,102]⟩
abbrev welse : ByteArray:=⟨#[101,108,115,101]⟩
abbrev wend : ByteArray:=⟨#[101,110,100]⟩
abbrev wreduce : ByteArray:=⟨#[114,101,100,117,99,101]⟩
abbrev wforeach : ByteArray:=⟨#[102,111,114,101,97,99,104]⟩
abbrev wbreak : ByteArray:=⟨#[98,114,101,97,107]⟩
abbrev wimport : ByteArray:=⟨#[105,109,112,111,114,116]⟩
abbrev winclude : ByteArray:=⟨#[105,110,99,108,117,100,101]⟩
def op (s : ByteArray) (t : Tk) : Bool:=t.1 == 13 && decide (t.2 = s)
def word (s : ByteArray) (t : Tk) : Bool:=t.1 == 3 && decide (t.2 = s)
def cut (s : ByteArray) : ByteArray:=s.extract 1 s.size
def need {α : Type} (s : ByteArray) (k : Pa α) : Pa α:=.look fun t=>if op s t || word s t then .move k else .bad
def one {α : Type} (kd : Int) (k : Pa α) : Pa α:=.look fun t=>if t.1 == kd then .move k else .bad
def text {α : Type} (kd : Int) (k : ByteArray → Pa α) : Pa α:=.look fun t=>if t.1 == kd then .move (k (cut t.2)) else .bad
def plainT (t : Tk) : Bool:=t.1 == 3 && Sg.plain t.2.data.toList
def name {α : Type} (k : ByteArray → Pa α) : Pa α:=.look fun t=>if plainT t then .move (k t.2) else .bad
def mk (k : Int) (t : ByteArray) (l : List Nd) : Nd:=⟨k,t,Fo.ofL l⟩
def none0 : Nd:=⟨0,eB,.nil⟩
inductive Fn where
 | exp (least : Int)
 | expL (least : Int) (x : Nd) (barred : Int)
 | operand
 | params
 | deff (top : Bool)
 | within (x : Nd) (d : ByteArray)
 | slice (x f : Nd) (d : ByteArray)
 | post
 | postL (x : Nd)
 | str
 | strF (f : ByteArray)
 | strL
 | term
 | bracket
 | pairs
 | worded
 | args
 | ifs
 | fold (kd : Int) (three : Bool)
 | key (pat : Bool)
 | pair
 | value
 | unit
 | keypat
 | pattern
 | elems (keys : Bool)
 | bring
 | plainL
 | brings
 | program
abbrev Res : Fn → Type
 | .params=>List Nd
 | .strL=>List Nd
 | .pairs=>List Nd
 | .args=>List Nd
 | .ifs=>List Nd
 | .elems _=>List Nd
 | .plainL=>List Nd
 | .brings=>List Nd
 | .key _=>Nd × Bool
 | _=>Nd
def step (rec : (f : Fn) → Pa (Res f)) : (f : Fn) → Pa (Res f)
 | .exp least=>(rec .operand).bind fun (x : Nd)=>rec (.expL least x 0)
 | .expL least x barred=>.look fun t =>
   if 0 < levelOf (textOf t.1 t.2) ∧ levelOf (textOf t.1 t.2) = barred then .bad
   else if levelOf (textOf t.1 t.2) = 0 ∨ levelOf (textOf t.1 t.2) < least then .ret x
   else .move ((rec (.exp (besideOf (textOf t.1 t.2) 2))).bind fun (y : Nd)=>rec (.expL least (mk 24 (textOf t.1 t.2) [x,y]) (if sideOf (textOf t.1 t.2) = 0 then levelOf (textOf t.1 t.2) else 0)))
 | .operand=>.look fun t =>
   if op minus t then .move ((rec (.exp 9)).bind fun (x : Nd)=>.ret (mk 25 eB [x]))
   else if word wdef t then rec (.deff false)
   else if word wlabel t then .move (text 5 fun s=>need bar ((rec (.exp 1)).bind fun (x : Nd)=>.ret (mk 27 s [x])))
   else if word wtry t then .move ((rec .post).bind fun (x : Nd)=>.look fun u=>if word wcatch u then .move ((rec .post).bind fun (y : Nd)=>.ret (mk 15 eB [x,y])) else .ret (mk 15 eB [x]))
   else (rec .post).bind fun (x : Nd)=>.look fun u=>if word was u then .move ((rec .pattern).bind fun (k : Nd)=>need bar ((rec (.exp 1)).bind fun (y : Nd)=>.ret (mk 26 eB [x,k,y]))) else .ret x
 | .params=>.look fun t =>
   if t.1 == 5 || plainT t then .move (.look fun u=>if op semi u then .move ((rec .params).bind fun (l : List Nd)=>.ret (mk 30 t.2 [] :: l)) else need rpar (.ret [mk 30 t.2 []]))
   else .bad
 | .deff top=>.move (name fun s=>(Pa.look fun t=>if op lpar t then .move (rec .params) else .ret ([] : List Nd)).bind fun (l : List Nd)=>need colon ((rec (.exp 1)).bind fun (b : Nd)=>need semi (.ended fun z =>
   if top && z then .ret (mk 29 s (l ++ [b,none0]))
   else (Pa.look fun t=>if top && word wdef t then rec (.deff true) else rec (.exp 1)).bind fun (y : Nd)=>.ret (mk 29 s (l ++ [b,y])))))
 | .within x d=>need lbr (.look fun t =>
   if op rbr t then .move (.ret (mk 20 d [x]))
   else if op colon t then rec (.slice x none0 d)
   else (rec (.exp 1)).bind fun (f : Nd)=>.look fun u=>if op rbr u then .move (.ret (mk 18 d [x,f])) else rec (.slice x f d))
 | .slice x f d=>need colon (.look fun t =>
   if f.k == 0 || !op rbr t then (rec (.exp 1)).bind fun (y : Nd)=>need rbr (.ret (mk 19 d [x,f,y]))
   else need rbr (.ret (mk 19 d [x,f,none0])))
 | .post=>(rec .term).bind fun (x : Nd)=>rec (.postL x)
 | .postL x=>.look fun t =>
   if t.1 == 4 then .move (rec (.postL (mk 21 (cut t.2) [x])))
   else if op quest t then .move (rec (.postL (mk 23 eB [x])))
   else if op lbr t then (rec (.within x eB)).bind fun (y : Nd)=>rec (.postL y)
   else if op dot t then .move (.look fun u=>if op lbr u then (rec (.within x dot)).bind fun (y : Nd)=>rec (.postL y) else (rec .str).bind fun (y : Nd)=>rec (.postL (mk 22 eB [x,y])))
   else .ret x
 | .str=>.look fun t=>if t.1 == 12 then .move (rec (.strF t.2)) else rec (.strF eB)
 | .strF f=>one 7 ((rec .strL).bind fun (l : List Nd)=>one 11 (.ret (mk 6 f l)))
 | .strL=>.look fun t =>
   if t.1 == 11 then .ret ([] : List Nd)
   else if t.1 == 8 then .move ((rec .strL).bind fun (l : List Nd)=>.ret (mk 7 t.2 [] :: l))
   else one 9 ((rec (.exp 1)).bind fun (x : Nd)=>one 10 ((rec .strL).bind fun (l : List Nd)=>.ret (x :: l)))
 | .term=>.look fun t =>
   if t.1 == 4 then .move (.ret (mk 3 (cut t.2) []))
   else if t.1 == 5 then .move (.ret (mk 4 (cut t.2) []))
   else if t.1 == 6 then .move (.ret (mk 5 t.2 []))
   else if op dots t then .move (.ret (mk 2 eB []))
   else if op dot t then .move (.look fun u=>if u.1 != 7 && u.1 != 12 then .ret (mk 1 eB []) else (rec .str).bind fun (x : Nd)=>.ret (mk 22 eB [none0,x]))
   else if t.1 == 12 then .peek fun u=>.move (if u.1 != 7 then .ret (mk 8 t.2 []) else rec (.strF t.2))
   else if t.1 == 7 then rec .str
   else if t.1 == 13 then rec .bracket
   else if t.1 == 3 then rec .worded
   else .bad
 | .bracket=>.look fun t =>
   if op lpar t then .move ((rec (.exp 1)).bind fun (x : Nd)=>need rpar (.ret (mk 12 eB [x])))
   else if op lbr t then .move (.look fun u=>if op rbr u then .move (.ret (mk 9 eB [])) else (rec (.exp 1)).bind fun (x : Nd)=>need rbr (.ret (mk 9 eB [x])))
   else if op lbrace t then .move (.look fun u=>if op rbrace u then .move (.ret (mk 10 eB [])) else (rec .pairs).bind fun (l : List Nd)=>.ret (mk 10 eB l))
   else .bad
 | .pairs=>(rec .pair).bind fun (x : Nd)=>.look fun t=>if op comma t then .move ((rec .pairs).bind fun (l : List Nd)=>.ret (x :: l)) else need rbrace (.ret [x])
 | .worded=>.look fun t =>
   if t.2 = wif then .move ((rec .ifs).bind fun (l : List Nd)=>.look fun u=>if word welse u then .move ((rec (.exp 1)).bind fun (x : Nd)=>need wend (.ret (mk 14 welse (l ++ [x])))) else need wend (.ret (mk 14 eB l)))
   else if t.2 = wreduce then .move (rec (.fold 16 false))
   else if t.2 = wforeach then .move (rec (.fold 17 true))
   else if t.2 = wbreak then .move (text 5 fun s=>.ret (mk 28 s []))
   else if Sg.key t.2.data.toList then .bad
   else .move (.look fun u=>if op lpar u then (rec .args).bind fun (l : List Nd)=>.ret (mk 13 t.2 l) else .ret (mk 13 t.2 []))
 | .args=>.move ((rec (.exp 1)).bind fun (x : Nd)=>.look fun t=>if op semi t then (rec .args).bind fun (l : List Nd)=>.ret (x :: l) else need rpar (.ret [x]))
 | .ifs=>(rec (.exp 1)).bind fun (a : Nd)=>need wthen ((rec (.exp 1)).bind fun (b : Nd)=>.look fun t=>if word welif t then .move ((rec .ifs).bind fun (l : List Nd)=>.ret (a :: b :: l)) else .ret [a,b])
 | .fold kd three=>(rec .post).bind fun (s : Nd)=>need was ((rec .pattern).bind fun (p : Nd)=>need lpar ((rec (.exp 1)).bind fun (a : Nd)=>need semi ((rec (.exp 1)).bind fun (b : Nd)=>.look fun t =>
   if three && op semi t then .move ((rec (.exp 1)).bind fun (c : Nd)=>need rpar (.ret (mk kd eB [s,p,a,b,c]))) else need rpar (.ret (mk kd eB [s,p,a,b])))))
 | .key pat=>.look fun t =>
   if t.1 == 5 then .move (.ret (mk 4 (cut t.2) [],false))
   else if t.1 == 3 then .move (.ret (mk 31 t.2 [],pat))
   else if op lpar t then .move ((rec (.exp 1)).bind fun (x : Nd)=>need rpar (.ret (mk 32 eB [x],true)))
   else if t.1 != 7 && t.1 != 12 then .bad
   else (rec .str).bind fun (x : Nd)=>.ret (x,pat)
 | .pair=>(rec (.key false)).bind fun (k : Nd × Bool)=>.look fun t=>if !k.2 && !op colon t then .ret (mk 11 eB [k.1]) else need colon ((rec .value).bind fun (x : Nd)=>.ret (mk 11 eB [k.1,x]))
 | .value=>(rec .unit).bind fun (x : Nd)=>.look fun t=>if op bar t then .move ((rec .value).bind fun (y : Nd)=>.ret (mk 24 bar [x,y])) else .ret x
 | .unit=>.look fun t=>if op minus t then .move ((rec .unit).bind fun (x : Nd)=>.ret (mk 25 eB [x])) else rec .post
 | .keypat=>(rec (.key true)).bind fun (k : Nd × Bool)=>.look fun t=>if !k.2 && !op colon t then .ret (mk 37 eB [k.1]) else need colon ((rec .pattern).bind fun (x : Nd)=>.ret (mk 37 eB [k.1,x]))
 | .pattern=>.look fun t =>
   if t.1 == 5 then .move (.ret (mk 4 (cut t.2) []))
   else if op lbrace t then (rec (.elems true)).bind fun (l : List Nd)=>.ret (mk 36 eB l)
   else if op lbr t then (rec (.elems false)).bind fun (l : List Nd)=>.ret (mk 35 eB l)
   else .bad
 | .elems keys=>.move ((if keys then rec .keypat else rec .pattern).bind fun (x : Nd)=>.look fun t=>if op comma t then (rec (.elems keys)).bind fun (l : List Nd)=>.ret (x :: l) else need (if keys then rbrace else rbr) (.ret [x]))
 | .bring=>.look fun t=>.move (one 7 ((rec .plainL).bind fun (l : List Nd)=>one 11 (
   if t.2 = winclude then need semi (.ret (mk 33 t.2 [mk 6 eB l]))
   else need was (.look fun u=>if u.1 == 5 then .move (need semi (.ret (mk 33 t.2 [mk 6 eB l,mk 4 (cut u.2) []]))) else name fun s=>need semi (.ret (mk 33 t.2 [mk 6 eB l,mk 31 s []]))))))
 | .plainL=>.look fun t=>if t.1 == 8 then .move ((rec .plainL).bind fun (l : List Nd)=>.ret (mk 7 t.2 [] :: l)) else .ret ([] : List Nd)
 | .brings=>.look fun t=>if word wimport t || word winclude t then (rec .bring).bind fun (x : Nd)=>(rec .brings).bind fun (l : List Nd)=>.ret (x :: l) else .ret ([] : List Nd)
 | .program=>(rec .brings).bind fun (m : List Nd)=>.ended fun z =>
   (if !m.isEmpty && z then .ret none0 else Pa.look fun t=>if word wdef t then rec (.deff true) else rec (.exp 1)).bind fun (x : Nd)=>.ended fun e=>if e then .ret (if m.isEmpty then x else mk 34 eB (m ++ [x])) else .bad
def go : Nat → (f : Fn) → Pa (Res f)
 | 0,_=>.out
 | n + 1,f=>step (go n) f
def opens (t : Tk) : Bool:=t.1 == 9 || op lpar t || op lbr t || op lbrace t
def closes (t : Tk) : Bool:=t.1 == 10 || op rpar t || op rbr t || op rbrace t
def deepAt : Nat → Nat → List Tk → Option Nat
 | _,_,[]=>none
 | n,i,t :: r=>let m:=if opens t then n + 1 else if closes t then n - 1 else n;if 256 < m then some i else deepAt m (i + 1) r
def fuel (l : List Tk) : Nat:=50 * l.length + 50
def parse (l : List Tk) : Nd × Int × Nat :=
 match deepAt 0 0 l with
 | some i=>(none0,21,i)
 | none=>match (go (fuel l) .program).run l with
  | some (.ok _ x)=>(x,0,0)
  | some (.bad r)=>(none0,22,l.length - r.length)
  | none=>(none0,99,0)
end Go.Proofs.YtlklhkkjcfmefaaGreatDoor.pa
namespace Go.Proofs.YtlklhkkjcfmefaaGreatDoor.utf
def oneN (n b0 b1 b2 b3 : Nat) : Nat :=
 if b0 < 128 then 1
 else if b0 / 32 = 6 ∧ (1 < n ∧ b1 / 64 = 2) then (if b0 % 32 * 64 + b1 % 64 ≥ 128 then 2 else 0)
 else if b0 / 16 = 14 ∧ (1 < n ∧ b1 / 64 = 2) ∧ (2 < n ∧ b2 / 64 = 2) then
  (if b0 % 16 * 4096 + b1 % 64 * 64 + b2 % 64 ≥ 2048 ∧ (b0 % 16 * 4096 + b1 % 64 * 64 + b2 % 64 < 55296 ∨ 57344 ≤ b0 % 16 * 4096 + b1 % 64 * 64 + b2 % 64) then 3 else 0)
 else if b0 / 8 = 30 ∧ (1 < n ∧ b1 / 64 = 2) ∧ (2 < n ∧ b2 / 64 = 2) ∧ (3 < n ∧ b3 / 64 = 2) then
  (if b0 % 8 * 262144 + b1 % 64 * 4096 + b2 % 64 * 64 + b3 % 64 ≥ 65536 ∧ b0 % 8 * 262144 + b1 % 64 * 4096 + b2 % 64 * 64 + b3 % 64 ≤ 1114111 then 4 else 0)
 else 0
theorem oneN_le (n b0 b1 b2 b3 : Nat) (hn : 1 ≤ n) : oneN n b0 b1 b2 b3 ≤ n ∧ oneN n b0 b1 b2 b3 ≤ 4:=by
 unfold oneN
 repeat' split
 all_goals omega
theorem oneN_local (n n' b0 b1 b2 b3 c1 c2 c3 w : Nat) (h : oneN n b0 b1 b2 b3 = w) (hw : w ≠ 0) (h1 : 1 < w → c1 = b1) (h2 : 2 < w → c2 = b2) (h3 : 3 < w → c3 = b3) (hn : w ≤ n') : oneN n' b0 c1 c2 c3 = w:=by
 unfold oneN at h
 split at h
 ·rw [← h];unfold oneN;rw [if_pos (by assumption)]
 ·split at h
  ·split at h
   ·have e1:=h1 (by omega)
    subst e1
    unfold oneN
    rw [if_neg (by assumption),if_pos (by omega),if_pos (by assumption),h]
   ·omega
  ·split at h
   ·split at h
    ·have e1:=h1 (by omega)
     have e2:=h2 (by omega)
     subst e1 e2
     unfold oneN
     rw [if_neg (by assumption),if_neg (by omega),if_pos (by omega),if_pos (by assumption),h]
    ·omega
   ·split at h
    ·split at h
     ·have e1:=h1 (by omega)
      have e2:=h2 (by omega)
      have e3:=h3 (by omega)
      subst e1 e2 e3
      unfold oneN
      rw [if_neg (by assumption),if_neg (by omega),if_neg (by omega),if_pos (by omega),if_pos (by assumption),h]
     ·omega
    ·omega
theorem decodeN_one (n b0 b1 b2 b3 : Nat) (h0 : b0 < 256) (h1 : b1 < 256) (h2 : b2 < 256) (h3 : b3 < 256) (hn : 1 ≤ n) :
  (oneN n b0 b1 b2 b3 = 0 → Lib.decodeN n b0 b1 b2 b3 = (65533,1) ∧ ¬ (3 ≤ n ∧ b0 = 239 ∧ b1 = 191 ∧ b2 = 189)) ∧
  (oneN n b0 b1 b2 b3 ≠ 0 → (Lib.decodeN n b0 b1 b2 b3).2 = oneN n b0 b1 b2 b3 ∧ ((Lib.decodeN n b0 b1 b2 b3).1 = 65533 → 3 ≤ n ∧ b0 = 239 ∧ b1 = 191 ∧ b2 = 189)):=by
 unfold oneN Lib.decodeN
 repeat' split
 all_goals first | (exfalso;omega) | (refine ⟨fun h=>?_,fun h=>?_⟩ <;> first | (exfalso;omega) | exact absurd h (by decide) | exact absurd rfl h | exact ⟨rfl,by omega⟩ | exact ⟨rfl,fun e=>by simp at e;omega⟩ | exact ⟨rfl,fun e=>by simp at e⟩)
def oneL (l : List UInt8) : Nat:=if l = [] then 0 else oneN l.length (l.getD 0 0).toNat (l.getD 1 0).toNat (l.getD 2 0).toNat (l.getD 3 0).toNat
theorem pref_iff (l : List UInt8) : Lib.hasPrefix l [239,191,189] = true ↔ 3 ≤ l.length ∧ (l.getD 0 0).toNat = 239 ∧ (l.getD 1 0).toNat = 191 ∧ (l.getD 2 0).toNat = 189:=by
 have e : ∀ (a : UInt8) (k : Nat) (h : k < 256),a = UInt8.ofNat k ↔ a.toNat = k:=fun a k h=>by
  constructor
  ·rintro rfl;simp [Nat.mod_eq_of_lt h]
  ·intro h';apply UInt8.toNat_inj.1;simp [h',Nat.mod_eq_of_lt h]
 have e0 : ∀ a : UInt8,a = 239 ↔ a.toNat = 239:=fun a=>e a 239 (by decide)
 have e1 : ∀ a : UInt8,a = 191 ↔ a.toNat = 191:=fun a=>e a 191 (by decide)
 have e2 : ∀ a : UInt8,a = 189 ↔ a.toNat = 189:=fun a=>e a 189 (by decide)
 unfold Lib.hasPrefix
 match l with
 | []=>simp
 | [a]=>simp
 | [a,b]=>simp
 | a :: b :: c :: r =>
  simp [List.isPrefixOf,List.getD,← e0,← e1,← e2]
  constructor
  ·rintro ⟨rfl,rfl,rfl⟩;simp
  ·rintro ⟨h1,h2,h3⟩;exact ⟨h1.symm,h2.symm,h3.symm⟩
theorem lt256 (a : UInt8) : a.toNat < 256:=a.toNat_lt
theorem bad_one (s : ByteArray) (pos : Nat) (h : pos < s.size) :
  runeBad s pos = (oneL (s.data.toList.drop pos) == 0) ∧ (Utf8.decode s pos).2 = (if oneL (s.data.toList.drop pos) = 0 then 1 else oneL (s.data.toList.drop pos)):=by
 have hne : s.data.toList.drop pos ≠ []:=by
  intro e
  have:=congrArg List.length e
  rw [List.length_drop,size_toList] at this
  simp at this;omega
 have hlen : 1 ≤ (s.data.toList.drop pos).length:=by rw [List.length_drop,size_toList];omega
 have hd:=Lib.decodeL_drop s pos
 have hN:=Lib.decodeL_N (s.data.toList.drop pos)
 have hp:=pref_iff (s.data.toList.drop pos)
 unfold runeBad oneL
 rw [if_neg hne,← hd,hN]
 generalize s.data.toList.drop pos = l at *
 obtain ⟨k1,k2⟩:=decodeN_one l.length (l.getD 0 0).toNat (l.getD 1 0).toNat (l.getD 2 0).toNat (l.getD 3 0).toNat (lt256 _) (lt256 _) (lt256 _) (lt256 _) hlen
 by_cases h0 : oneN l.length (l.getD 0 0).toNat (l.getD 1 0).toNat (l.getD 2 0).toNat (l.getD 3 0).toNat = 0
 ·obtain ⟨e1,e2⟩:=k1 h0
  have hpf : Lib.hasPrefix l [239,191,189] = false:=by
   cases hq : Lib.hasPrefix l [239,191,189] with
   | false=>rfl
   | true=>exact absurd (hp.1 hq) e2
  rw [e1,h0,hpf]
  simp
 ·obtain ⟨e1,e2⟩:=k2 h0
  rw [if_neg h0,e1]
  refine ⟨?_,rfl⟩
  by_cases hv : (Lib.decodeN l.length (l.getD 0 0).toNat (l.getD 1 0).toNat (l.getD 2 0).toNat (l.getD 3 0).toNat).1 = 65533
  ·rw [hp.2 (e2 hv),beq_eq_false_iff_ne.2 h0]
   simp
  ·rw [beq_eq_false_iff_ne.2 h0,beq_eq_false_iff_ne.2 hv]
   rfl
theorem oneL_le (l : List UInt8) (h : l ≠ []) : oneL l ≤ l.length:=by
 unfold oneL
 rw [if_neg h]
 exact (oneN_le _ _ _ _ _ (by cases l with | nil=>exact absurd rfl h | cons a r=>simp)).1
theorem getD_app (p m : List UInt8) (i : Nat) (h : i < p.length) : (p ++ m).getD i 0 = p.getD i 0:=by simp [List.getD,List.getElem?_append_left h]
theorem getD_take' (l : List UInt8) (w i : Nat) (h : i < w) : (l.take w).getD i 0 = l.getD i 0:=by simp [List.getD,h]
theorem oneL_local (l m : List UInt8) (h : oneL l ≠ 0) : oneL (l.take (oneL l) ++ m) = oneL l:=by
 have hne : l ≠ []:=fun e=>h (by simp [oneL,e])
 have hle:=oneL_le l hne
 obtain ⟨w,hw⟩ : ∃ w,oneL l = w:=⟨_,rfl⟩
 rw [hw] at h hle ⊢
 have hlt : (l.take w).length = w:=by rw [List.length_take];omega
 have hne2 : l.take w ++ m ≠ []:=fun e=>by
  have:=congrArg List.length e
  rw [List.length_append,hlt] at this
  simp at this;omega
 unfold oneL at hw ⊢
 rw [if_neg hne] at hw
 rw [if_neg hne2]
 have g : ∀ i,i < w → (l.take w ++ m).getD i 0 = l.getD i 0:=fun i hi=>by rw [getD_app _ _ _ (by omega),getD_take' _ _ _ hi]
 rw [g 0 (by omega)]
 refine oneN_local _ _ _ _ _ _ _ _ _ w hw h (fun h1=>by rw [g 1 h1]) (fun h2=>by rw [g 2 h2]) (fun h3=>by rw [g 3 h3]) ?_
 rw [List.length_append,hlt];omega
def chkL : Nat → List UInt8 → Nat → Int
 | 0,_,_=>-1
 | b + 1,l,pos=>if l = [] then -1 else if oneL l = 0 then (pos : Int) else chkL b (l.drop (oneL l)) (pos + oneL l)
def wideL : Nat → List UInt8 → Nat
 | 0,_=>0
 | b + 1,l=>if l = [] then 0 else wideL b (l.drop (if oneL l = 0 then 1 else oneL l)) + 1
theorem drop_ne (s : ByteArray) (pos : Nat) : (s.data.toList.drop pos = []) ↔ ¬ pos < s.size:=by
 rw [List.drop_eq_nil_iff,size_toList];omega
theorem checkFrom_L (s : ByteArray) : ∀ b pos,checkFrom s b pos = chkL b (s.data.toList.drop pos) pos:=by
 intro b
 induction b with
 | zero=>intro pos;rfl
 | succ b ih =>
  intro pos
  simp only [checkFrom,chkL]
  by_cases h : pos < s.size
  ·have hne : s.data.toList.drop pos ≠ []:=fun e=>(drop_ne s pos).1 e h
   obtain ⟨h1,h2⟩:=bad_one s pos h
   rw [if_pos h,if_neg hne,h1,h2,ih]
   by_cases h0 : oneL (s.data.toList.drop pos) = 0
   ·simp [h0]
   ·simp [h0,List.drop_drop]
  ·rw [if_neg h,if_pos ((drop_ne s pos).2 h)]
theorem checkF_L (s : ByteArray) : checkF s = chkL s.data.toList.length s.data.toList 0:=by rw [checkF,checkFrom_L,size_toList];rfl
theorem chkL_fuel : ∀ (b b' : Nat) (l : List UInt8) (pos : Nat),l.length ≤ b → l.length ≤ b' → chkL b l pos = chkL b' l pos:=by
 intro b
 induction b with
 | zero =>
  intro b' l pos h _
  have : l = []:=by simpa using h
  subst this
  cases b' <;> simp [chkL]
 | succ b ih =>
  intro b' l pos h h'
  cases b' with
  | zero =>
   have : l = []:=by simpa using h'
   subst this
   simp [chkL]
  | succ b' =>
   simp only [chkL]
   split
   ·rfl
   ·rename_i hne
    split
    ·rfl
    ·rename_i h0
     have:=oneL_le l hne
     exact ih b' _ _ (by rw [List.length_drop];omega) (by rw [List.length_drop];omega)
theorem wideL_fuel : ∀ (b b' : Nat) (l : List UInt8),l.length ≤ b → l.length ≤ b' → wideL b l = wideL b' l:=by
 intro b
 induction b with
 | zero =>
  intro b' l h _
  have : l = []:=by simpa using h
  subst this
  cases b' <;> simp [wideL]
 | succ b ih =>
  intro b' l h h'
  cases b' with
  | zero =>
   have : l = []:=by simpa using h'
   subst this
   simp [wideL]
  | succ b' =>
   simp only [wideL]
   split
   ·rfl
   ·rename_i hne
    have hl : 1 ≤ l.length:=by cases l with | nil=>exact absurd rfl hne | cons a r=>simp
    rw [ih b' _ (by rw [List.length_drop];split <;> omega) (by rw [List.length_drop];split <;> omega)]
theorem drop_take_app (l m : List UInt8) (w : Nat) (h : w ≤ l.length) : (l ++ m).drop w = l.drop w ++ m:=by rw [List.drop_append_of_le_length h]
theorem chk_join : ∀ (b : Nat) (l m : List UInt8) (pos b1 b2 : Nat),l.length ≤ b → chkL b l pos = -1 → l.length + m.length ≤ b1 → m.length ≤ b2 →
  chkL b1 (l ++ m) pos = chkL b2 m (pos + l.length) ∧ wideL b1 (l ++ m) = wideL b l + wideL b2 m:=by
 intro b
 induction b with
 | zero =>
  intro l m pos b1 b2 h _ hb1 hb2
  have : l = []:=by simpa using h
  subst this
  simp only [List.nil_append,List.length_nil,Nat.add_zero] at *
  exact ⟨chkL_fuel _ _ _ _ (by omega) hb2,by rw [wideL_fuel b1 b2 m (by omega) hb2];simp [wideL]⟩
 | succ b ih =>
  intro l m pos b1 b2 h hc hb1 hb2
  by_cases hne : l = []
  ·subst hne
   simp only [List.nil_append,List.length_nil,Nat.add_zero] at *
   exact ⟨chkL_fuel _ _ _ _ (by omega) hb2,by rw [wideL_fuel b1 b2 m (by omega) hb2];simp [wideL]⟩
  ·have hle:=oneL_le l hne
   have hl : 1 ≤ l.length:=by cases l with | nil=>exact absurd rfl hne | cons a r=>simp
   have h0 : oneL l ≠ 0:=fun e=>by simp [chkL,hne,e] at hc
   have e : chkL (b + 1) l pos = chkL b (l.drop (oneL l)) (pos + oneL l):=by simp [chkL,hne,h0]
   rw [e] at hc
   obtain ⟨b1',rfl⟩ : ∃ b',b1 = b' + 1:=⟨b1 - 1,by omega⟩
   have ho : oneL (l ++ m) = oneL l:=by
    have:=oneL_local l (l.drop (oneL l) ++ m) h0
    rwa [← List.append_assoc,List.take_append_drop] at this
   have hne2 : l ++ m ≠ []:=by simp [hne]
   have hd : (l ++ m).drop (oneL l) = l.drop (oneL l) ++ m:=drop_take_app l m _ hle
   obtain ⟨g1,g2⟩:=ih (l.drop (oneL l)) m (pos + oneL l) b1' b2 (by rw [List.length_drop];omega) hc (by rw [List.length_drop];omega) hb2
   rw [List.length_drop,show pos + oneL l + (l.length - oneL l) = pos + l.length from by omega] at g1
   simp only [chkL,wideL]
   rw [if_neg hne2,if_neg hne2,if_neg hne,ho,if_neg h0,if_neg h0,hd]
   exact ⟨g1,by rw [g2];omega⟩
end Go.Proofs.YtlklhkkjcfmefaaGreatDoor.utf
namespace Go.Proofs.YtlklhkkjcfmefaaGreatDoor.Lx
open Go.RowKit (wrap64)
open Sg (run cB cW cD)
abbrev Kd:=Int × (List UInt8 → Nat)
def nstep (st : Nat) (b : UInt8) : Nat:=if b = 92 then (if st = 1 then 0 else 1) else if b = 13 ∧ st = 1 then 2 else 0
def nst (l : List UInt8) : Nat:=l.foldl nstep 0
def noteR : Nat → List UInt8 → Nat
 | _,[]=>0
 | st,b :: r=>if b = 10 ∧ st = 0 then 0 else 1 + noteR (nstep st b) r
def note (l : List UInt8) : Nat:=if Lib.hasPrefix l [35] then noteR 0 l else 0
def pieceF : Nat → List UInt8 → Nat
 | 0,_=>0
 | _ + 1,[]=>0
 | f + 1,b :: r=>if b = 34 then 0 else if b = 92 then (if Sg.escape (b :: r) = 0 then 0 else Sg.escape (b :: r) + pieceF f ((b :: r).drop (Sg.escape (b :: r)))) else 1 + pieceF f r
def piece (l : List UInt8) : Nat:=pieceF l.length l
def just (t l : List UInt8) : Nat:=if Lib.hasPrefix l t then t.length else 0
def marked (m : List UInt8) (f : List UInt8 → Nat) (l : List UInt8) : Nat:=if Lib.hasPrefix l m then (if f (l.drop m.length) = 0 then 0 else m.length + f (l.drop m.length)) else 0
def outside : List Kd:=[(1,run cB),(2,note),(3,Sg.word),(4,marked [46] Sg.simple),(5,marked [36] Sg.word),(12,marked [64] (run cW)),(6,Sg.number),(7,just [34]),(13,Sg.oper)]
def closing : List Kd:=(10,just [41]) :: outside
def inside : List Kd:=[(8,piece),(11,just [34]),(9,just [92,40])]
structure St where
 text : Bool
 br : Int
deriving DecidableEq
structure Lex where
 top : St
 below : List St
deriving DecidableEq
def start : Lex:=⟨⟨false,0⟩,[]⟩
def ended (x : Lex) : Bool:=x.below.isEmpty && !x.top.text
def tried (x : Lex) : List Kd:=if x.top.text then inside else if 0 < x.below.length ∧ x.top.br = 0 then closing else outside
def find : List Kd → List UInt8 → Option (Int × Nat)
 | [],_=>none
 | h :: t,l=>if h.2 l = 0 then find t l else some (h.1,h.2 l)
def bracket (t : List UInt8) : Int:=if t = [40] then 1 else if t = [41] then -1 else 0
def turn (x : Lex) (k : Int) (t : List UInt8) : Except Int Lex :=
 if k = 7 then .ok { x with top:={ x.top with text:=true } }
 else if k = 11 then .ok { x with top:={ x.top with text:=false } }
 else if k = 9 then (if 256 ≤ x.below.length then .error 21 else .ok ⟨⟨false,0⟩,x.below ++ [x.top]⟩)
 else if k = 10 then .ok ⟨x.below.getLastD ⟨false,0⟩,x.below.dropLast⟩
 else if k = 13 then .ok { x with top:={ x.top with br:=wrap64 (x.top.br + bracket t) } }
 else .ok x
def next (x : Lex) (l : List UInt8) : Except Int (Int × Nat × Lex) :=
 match find (tried x) l with
 | none=>.error (if x.top.text then 12 else 11)
 | some (k,n) =>
  match turn x k (l.take n) with
  | .error e=>.error e
  | .ok y=>.ok (k,n,y)
abbrev Tok:=Int × List UInt8
def lex : Nat → Lex → List UInt8 → List Tok × Int
 | _,x,[]=>([],if ended x then 0 else 13)
 | 0,_,_ :: _=>([],0)
 | f + 1,x,b :: r =>
  match next x (b :: r) with
  | .error e=>([],e)
  | .ok (k,n,y)=>((k,(b :: r).take n) :: (lex f y ((b :: r).drop n)).1,(lex f y ((b :: r).drop n)).2)
def size (l : List Tok) : Nat:=(l.map (·.2.length)).sum
theorem noteR_le (st : Nat) (l : List UInt8) : noteR st l ≤ l.length:=by
 induction l generalizing st with
 | nil=>exact Nat.le_refl _
 | cons b r ih=>simp only [noteR,List.length_cons];have:=ih (nstep st b);split <;> omega
theorem note_le (l : List UInt8) : note l ≤ l.length:=by unfold note;split;exact noteR_le _ _;exact Nat.zero_le _
theorem pieceF_le (f : Nat) (l : List UInt8) : pieceF f l ≤ l.length:=by
 induction f generalizing l with
 | zero=>simp [pieceF]
 | succ f ih =>
  cases l with
  | nil=>simp [pieceF]
  | cons b r =>
   have h1:=Sg.escape_le (b :: r)
   have h2:=ih ((b :: r).drop (Sg.escape (b :: r)))
   rw [List.length_drop] at h2
   have h3:=ih r
   simp only [pieceF,List.length_cons] at *
   split
   ·omega
   ·split
    ·split <;> omega
    ·omega
theorem piece_le (l : List UInt8) : piece l ≤ l.length:=pieceF_le _ _
theorem just_le (t l : List UInt8) : just t l ≤ l.length:=by
 unfold just;split
 ·rename_i h;exact Sg.pre_length h
 ·exact Nat.zero_le _
theorem marked_le (m : List UInt8) (f : List UInt8 → Nat) (hf : ∀ l,f l ≤ l.length) (l : List UInt8) : marked m f l ≤ l.length:=by
 unfold marked
 split
 ·rename_i h
  have h1:=Sg.pre_length h
  have h2:=hf (l.drop m.length)
  rw [List.length_drop] at h2
  split <;> omega
 ·exact Nat.zero_le _
def Good (sh : List Kd) : Prop:=∀ h ∈ sh,∀ l,h.2 l ≤ l.length
theorem good_outside : Good outside:=by
 intro h hm l
 simp only [outside,List.mem_cons,List.not_mem_nil,or_false] at hm
 rcases hm with rfl | rfl | rfl | rfl | rfl | rfl | rfl | rfl | rfl
 ·exact Sg.run_le _ _
 ·exact note_le _
 ·exact Sg.word_le _
 ·exact marked_le _ _ Sg.simple_le _
 ·exact marked_le _ _ Sg.word_le _
 ·exact marked_le _ _ (Sg.run_le _) _
 ·exact Sg.number_le _
 ·exact just_le _ _
 ·exact Sg.oper_le _
theorem good_closing : Good closing:=by
 intro h hm l
 rcases List.mem_cons.1 hm with rfl | hm
 ·exact just_le _ _
 ·exact good_outside h hm l
theorem good_inside : Good inside:=by
 intro h hm l
 simp only [inside,List.mem_cons,List.not_mem_nil,or_false] at hm
 rcases hm with rfl | rfl | rfl
 ·exact piece_le _
 ·exact just_le _ _
 ·exact just_le _ _
theorem good_tried (x : Lex) : Good (tried x):=by
 unfold tried;split
 ·exact good_inside
 ·split
  ·exact good_closing
  ·exact good_outside
theorem find_some {sh : List Kd} {l : List UInt8} {k : Int} {n : Nat} (h : find sh l = some (k,n)) : n ≠ 0 ∧ ∃ e ∈ sh,e.1 = k ∧ e.2 l = n:=by
 induction sh with
 | nil=>cases h
 | cons e t ih =>
  simp only [find] at h
  split at h
  ·obtain ⟨h1,e',h2,h3⟩:=ih h
   exact ⟨h1,e',List.mem_cons_of_mem _ h2,h3⟩
  ·rename_i hn
   cases h
   exact ⟨hn,e,List.mem_cons_self ..,rfl,rfl⟩
theorem find_le {x : Lex} {l : List UInt8} {k : Int} {n : Nat} (h : find (tried x) l = some (k,n)) : 0 < n ∧ n ≤ l.length:=by
 obtain ⟨h1,e,h2,rfl,rfl⟩:=find_some h
 exact ⟨by omega,good_tried x e h2 l⟩
theorem next_le {x y : Lex} {l : List UInt8} {k : Int} {n : Nat} (h : next x l = .ok (k,n,y)) : 0 < n ∧ n ≤ l.length:=by
 unfold next at h
 cases hf : find (tried x) l with
 | none=>rw [hf] at h;cases h
 | some p =>
  obtain ⟨k',n'⟩:=p
  rw [hf] at h
  simp only at h
  cases ht : turn x k' (l.take n') with
  | error e=>rw [ht] at h;cases h
  | ok z=>rw [ht] at h;cases h;exact find_le hf
theorem lex_fuel (f g : Nat) (x : Lex) (l : List UInt8) (hf : l.length ≤ f) (hg : l.length ≤ g) : lex f x l = lex g x l:=by
 induction f generalizing g x l with
 | zero =>
  obtain rfl : l = []:=List.length_eq_zero_iff.1 (by omega)
  cases g <;> simp [lex]
 | succ f ih =>
  cases l with
  | nil=>cases g <;> simp [lex]
  | cons b r =>
   cases g with
   | zero=>simp at hg
   | succ g =>
    simp only [lex]
    cases hn : next x (b :: r) with
    | error e=>rfl
    | ok p =>
     obtain ⟨k,n,y⟩:=p
     have hl:=next_le hn
     simp only
     rw [ih g y _ (by rw [List.length_drop];simp at *;omega) (by rw [List.length_drop];simp at *;omega)]
def lexA (x : Lex) (l : List UInt8) : List Tok × Int:=lex l.length x l
theorem lexA_nil (x : Lex) : lexA x [] = ([],if ended x then 0 else 13):=by simp [lexA,lex]
theorem lexA_err {x : Lex} {l : List UInt8} {e : Int} (h : next x l = .error e) (h0 : l ≠ []) : lexA x l = ([],e):=by
 cases l with
 | nil=>exact absurd rfl h0
 | cons b r=>simp [lexA,lex,h]
theorem lexA_ok {x y : Lex} {l : List UInt8} {k : Int} {n : Nat} (h : next x l = .ok (k,n,y)) (h0 : l ≠ []) : lexA x l = ((k,l.take n) :: (lexA y (l.drop n)).1,(lexA y (l.drop n)).2):=by
 have hl:=next_le h
 cases l with
 | nil=>exact absurd rfl h0
 | cons b r =>
  simp only [lexA,List.length_cons,lex,h]
  rw [lex_fuel r.length ((b :: r).drop n).length y _ (by rw [List.length_drop];simp at *;omega) (Nat.le_refl _)]
abbrev Told:=Tok × Int
def told (x : Lex) (l : List UInt8) : List Told:=(lexA x l).1.map (fun t=>(t,0)) ++ (if (lexA x l).2 = 0 then [] else [(((0,[]) : Tok),(lexA x l).2)])
theorem told_nil (x : Lex) : told x [] = if ended x then [] else [((0,[]),13)]:=by
 unfold told;rw [lexA_nil];cases ended x <;> simp
theorem told_err {x : Lex} {l : List UInt8} {e : Int} (h : next x l = .error e) (h0 : l ≠ []) (he : e ≠ 0) : told x l = [((0,[]),e)]:=by
 unfold told;rw [lexA_err h h0];simp [he]
theorem told_ok {x y : Lex} {l : List UInt8} {k : Int} {n : Nat} (h : next x l = .ok (k,n,y)) (h0 : l ≠ []) : told x l = ((k,l.take n),0) :: told y (l.drop n):=by
 unfold told;rw [lexA_ok h h0];simp
theorem next_err_ne {x : Lex} {l : List UInt8} {e : Int} (h : next x l = .error e) : e = 11 ∨ e = 12 ∨ e = 21:=by
 unfold next at h
 cases hf : find (tried x) l with
 | none=>rw [hf] at h;simp only at h;cases h;split <;> simp
 | some p =>
  obtain ⟨k',n'⟩:=p
  rw [hf] at h
  simp only at h
  cases ht : turn x k' (l.take n') with
  | error e' =>
   rw [ht] at h;cases h
   unfold turn at ht
   repeat' split at ht
   all_goals first | (cases ht;simp;done) | cases ht
  | ok z=>rw [ht] at h;cases h
theorem told_length (x : Lex) (l : List UInt8) : (told x l).length ≤ l.length + 1:=by
 generalize hn : l.length = n
 induction n using Nat.strongRecOn generalizing x l with
 | ind n ih =>
  subst hn
  rcases Nat.eq_zero_or_pos l.length with h0 | h0
  ·obtain rfl:=List.length_eq_zero_iff.1 h0
   rw [told_nil];split <;> simp
  ·have hne : l ≠ []:=fun e=>by simp [e] at h0
   cases hx : next x l with
   | error e =>
    rw [told_err hx hne (by rcases next_err_ne hx with h | h | h <;> omega)];simp
   | ok p =>
    obtain ⟨k,n,y⟩:=p
    have hl:=next_le hx
    rw [told_ok hx hne,List.length_cons]
    have:=ih (l.drop n).length (by rw [List.length_drop];omega) y (l.drop n) rfl
    rw [List.length_drop] at this
    omega
end Go.Proofs.YtlklhkkjcfmefaaGreatDoor.Lx
namespace Go.Proofs.YtlklhkkjcfmefaaGreatDoor.sx
open Go.RowKit
theorem grownBy_below {W W' : World} (h : Below W.heap.size W W') : W.grownBy W' none:=⟨h.os,h.tape,h.output,h.size,fun k hk _=>h.block k hk⟩
theorem abides_below {β : Type} {B : Nat} {J : β → World → Prop} (hJ : AbidesFrom B J) {s : β} {W W' : World} (h : J s W) (hb : Below W.heap.size W W') : J s W' :=
 hJ s W W' none h (grownBy_below hb) (fun r e=>by cases e)
def KB (n Bs : Nat) (t : TypeId) (W W' : World) : Prop:=Below n W W' ∧ ∀ vs,Blk W Bs t vs → Blk W' Bs t vs
theorem KB.refl (n Bs : Nat) (t : TypeId) (W : World) : KB n Bs t W W:=⟨Below.refl _ _,fun _ h=>h⟩
theorem KB.trans {n Bs : Nat} {t : TypeId} {A B C : World} (h : KB n Bs t A B) (k : KB n Bs t B C) : KB n Bs t A C:=⟨h.1.trans k.1,fun a b=>k.2 a (h.2 a b)⟩
theorem KB.of_below {n Bs : Nat} {t : TypeId} {W W' : World} (h : Below W.heap.size W W') (hn : n ≤ W.heap.size) : KB n Bs t W W':=⟨h.mono hn,fun _ hb=>hb.own h⟩
theorem KB.put {n Bs B : Nat} {t : TypeId} (hB : n ≤ B) (W : World) (l : Nat) (o o' : Obj) (hl : B ≤ l) (h : W.heap[l]? = some o) (hc : o.isCells = false) (hw : o.isWalk = false) : KB n Bs t W (W.putObj l o') :=
 ⟨(Below.refl n W).grown (grownBy_putObj' W l o') (by have:=(Array.getElem?_eq_some_iff.1 h).1;omega) (fun j e=>by cases e;omega),fun vs hb=>hb.kept (grownBy_putObj' _ l o') (fun e=>by cases e;rw [show W.heap[_]? = _ from hb] at h;cases h;cases hc)⟩
theorem row_own {β : Type} (base : Nat) (e : TypeId) (size : Nat) (f : β → Value) (n : β → Nat) (xs : β → List Value) : Own (fun b W=>W.ownsRow base e size (f b) (n b) (xs b)):=fun b X Y row h hg hrow=>by
 refine ⟨h.1,?_⟩
 rcases h.2 with hn | ⟨g,cap,cur,h1,h2,h3,h4⟩
 ·exact .inl hn
 ·exact .inr ⟨g,cap,cur,h1,h2,(hg.block g (Array.getElem?_eq_some_iff.1 h3).1 (fun e'=>by obtain ⟨o,ho,hc⟩:=hrow g e'.symm;rw [h3] at ho;cases ho;cases hc)).trans h3,h4⟩
def SeqAll {α : Type} (F : Fence) (n : Nat) (P : Program) (g : Nat) (lb : Array Value) (encs : α → Array Value) (Kp : World → World → Prop) (ys : List α) (w : World) : Prop :=
 ∀ (l : Nat) (J : List α → World → Prop) (W : World),Below w.heap.size w W → AbidesFrom W.heap.size J →
  (∀ pre x rest W1,ys = pre ++ x :: rest → J pre W1 → YieldAt F (n - 1) P l (encs x) W1 fun e W'=>e = .returned (.bool true) ∧ J (pre ++ [x]) W' ∧ Kp W1 W') →
  J [] W → CallsIn F n P g (#[.func (.yield l) #[] #[]] ++ lb) W fun e W'=>(∃ v,e = .returned v) ∧ J ys W'
section
variable {F : Fence} {n : Nat} {P : Program} {w : World}
theorem wpIn_rangeFunc_all {α : Type} {g : Operand} {ps : Array Tmp} {assign body : Code} {Q : Exit → Act → World → Prop} {a : Act}
  (hro : F.round = none) (h1 : 1 ≤ n) {gf : Nat} {lb : Array Value} (hg : a.eval g = .func (.func gf) #[] lb) (hFg : F.fn gf) (eg : ∀ args w,(callFunc gf args).run P w = .ok (.enter gf args) w)
  {encs : α → Array Value} {Kp : World → World → Prop} {ys : List α} {w0 : World} (hseq : SeqAll F (n - 1) P gf lb encs Kp ys w0)
  (hKt : ∀ {A B C : World},Kp A B → Kp B C → Kp A C) (hKb : ∀ (W : World) (l : Nat) (o o' : Obj),w.heap.size ≤ l → W.heap[l]? = some o → o.isCells = false → o.isWalk = false → Kp W (W.putObj l o'))
  (hb0 : Below w0.heap.size w0 w) (hps : ∀ x,(encs x).size = ps.size)
  (I : List α → World → Prop) (hI : OwnFrom w.heap.size I) (h0 : I [] w) (Ax : α → Act → World → Prop) (hAx : ∀ x a',OwnFrom w.heap.size (fun (_ : Unit) W=>Ax x a' W))
  (hassign : ∀ (l : Nat) (pre : List α) (x : α) (W : World) (K : Act → World → Prop),I pre W → (∀ a' W',KeepsFrom w.heap.size W W' → Kp W W' → I pre W' → Ax x a' W' → K a' W') →
   assign.wpIn (F.inRound l) (n - 1 - 1) P (Exit.then K (fun _ _ _=>False)) { tmps:=(ps.zip (encs x)).foldl (fun t (p,v)=>t.setIfInBounds p v) a.tmps,defers:=[] } W)
  (hbody : ∀ (l : Nat) (pre : List α) (x : α) (rest : List α) (a' : Act) (W : World),ys = pre ++ x :: rest → w.heap.size ≤ l → I pre W → Ax x a' W →
   body.wpIn (F.inRound l) (n - 1 - 1) P (ownPostG w.heap.size Kp I (fun _ _ _=>False) (pre ++ [x]) W) a' W)
  (hdone : ∀ (D : Nat) (W : World),w.heap.size ≤ D → I ys W → W.heap[D]? = some (.deferred (some [])) → Q .normal { a with defers:={ target:=.collected D,args:=#[] } :: a.defers } W) :
  (Code.rangeFunc g ps assign body).wpIn F n P Q a w:=by
 refine wpIn_rangeFunc fun fn hfn=>?_
 rw [hro]
 let L : LoopState → Loop:=fun st=>{ state:=st,pending:=none,fn,tmps:=a.tmps,params:=ps,assign,body,defers:=w.heap.size }
 let W1:=(w.alloc (.deferred (some []))).alloc (.loop (L .ready))
 have hL1 : W1.heap[w.heap.size + 1]? = some (.loop (L .ready)):=by
  have:=World.alloc_heap_new (w.alloc (.deferred (some []))) (.loop (L .ready));rwa [World.size_alloc] at this
 have hD1 : W1.heap[w.heap.size]? = some (.deferred (some [])):=(Below.heap_alloc _ _ _ (by simp)).trans (World.alloc_heap_new w _)
 have hb1 : Below w0.heap.size w0 W1:=hb0.trans ((((Below.refl _ w).alloc (Nat.le_refl _) _).alloc (by simp) _).mono hb0.size)
 have hs1 : W1.heap.size = w.heap.size + 2:=by simp [W1]
 refine ⟨w.heap.size + 1,[{ target:=.collected w.heap.size,args:=#[] }],W1,{ target:=.fn (.func gf) lb,args:=#[.func (.yield (w.heap.size + 1)) #[] #[]] },W1,gf,
  #[.func (.yield (w.heap.size + 1)) #[] #[]] ++ lb,W1,run_enterLoop_outer _ _ _ _ _,?_,?_,?_,fun _=>h1,?_⟩
 ·simp only [resolve,hg]
  simp [go_sem]
 ·intro f' hf';simp [Target.leads] at hf';subst hf';exact hFg
 ·simp [invoke,go_sem,eg]
 ·refine (hseq (w.heap.size + 1) (fun pre W=>I pre W ∧ W.heap[w.heap.size + 1]? = some (.loop (L .ready)) ∧ W.heap[w.heap.size]? = some (.deferred (some []))) W1 hb1 ?_ ?_ ⟨hI.alloc _ (hI.alloc _ h0),hL1,hD1⟩).mono ?_
  ·rintro s A B row ⟨hi,hl,hk⟩ hg' hr
   exact ⟨hI s A B row hi hg' (fun r e=>by obtain ⟨hB,o,ho,hw⟩:=hr r e;exact ⟨by omega,o,ho,Obj.not_cells_of_walk hw⟩),
    (grownBy_keeps hg' (fun r e=>(hr r e).2) hl rfl).trans hl,(grownBy_keeps hg' (fun r e=>(hr r e).2) hk rfl).trans hk⟩
  ·rintro pre x rest W hys ⟨hi,hl,hk⟩
   have hy:=run_yield (P:=P) (args:=encs x) hl (hps x)
   refine ⟨fn,_,assign,body,hy,roundIn_of_wpIn hfn (hassign _ pre x W _ hi ?_)⟩
   intro a' V hkf hkp hiV hax
   have hlV:=hkf.same _ _ (by omega) hl rfl
   have hkV:=hkf.same _ _ (Nat.le_refl _) hk rfl
   have hltV : w.heap.size + 1 < V.heap.size:=(Array.getElem?_eq_some_iff.1 hlV).1
   refine ⟨_,run_beginRound hlV rfl,?_⟩
   have hl2 : (V.putObj (w.heap.size + 1) (.loop (L .busy))).heap[w.heap.size + 1]? = some (.loop (L .busy)):=World.putObj_heap_same hltV
   have hk2 : (V.putObj (w.heap.size + 1) (.loop (L .busy))).heap[w.heap.size]? = some (.deferred (some [])):=(World.putObj_heap_other (by omega)).trans hkV
   refine wpIn_mono (hbody _ pre x rest a' _ hys (by omega) (hI.putObj _ hiV (by omega) hlV rfl) ((hAx x a').putObj (s:=()) _ hax (by omega) hlV rfl)) ?_
   rintro e a3 W3 hp
   cases e with
   | normal =>
    obtain ⟨hk3,hkp3,hi3⟩:=hp
    have hl3:=hk3.same _ _ (by omega) hl2 rfl
    have hd3:=hk3.same _ _ (Nat.le_refl _) hk2 rfl
    exact ⟨_,_,run_endRound (P:=P) none hl3,rfl,⟨hI.putObj _ hi3 (by omega) hl3 rfl,World.putObj_heap_same (Array.getElem?_eq_some_iff.1 hl3).1,(World.putObj_heap_other (by omega)).trans hd3⟩,
     hKt hkp (hKt (hKt (hKb _ _ _ _ (by omega) hlV rfl rfl) hkp3) (hKb _ _ _ _ (by omega) hl3 rfl rfl))⟩
   | ret=>exact hp.2.elim
   | exit id=>exact hp.2.elim
   | goto t=>exact hp.2.elim
   | panic ch=>exact hp.elim
   | outgrown=>exact hp.elim
  ·rintro e W2 ⟨⟨v,rfl⟩,hi,hl,hk⟩
   exact ⟨none,_,run_endLoop (P:=P) hl (by simp [L]),hdone _ _ (Nat.le_refl _) (hI.putObj _ hi (by omega) hl rfl) ((World.putObj_heap_other (by omega)).trans hk)⟩
end
end Go.Proofs.YtlklhkkjcfmefaaGreatDoor.sx
namespace Go.Proofs.YtlklhkkjcfmefaaGreatDoor.pr
open Go.RowKit Go.Shelf sx
theorem clone_calls (s : ByteArray) (hs : s.size ≤ 140737488351232) (w : World) :
  Calls Tryz.prog 53 #[.string s] w fun e w'=>e = .returned (.string s) ∧ Below w.heap.size w w':=by
 go_enter Tryz.func53,Tryz.ntmps53
 go_wp2_with (go_at_call 99;refine (Tryz.stringslite_Clone s _ (by omega)).mono ?_;rintro e w' ⟨rfl,hb⟩)
 go_ret
 exact ⟨rfl,hb⟩
theorem infoStr : (Tryz.prog.info? 9).map (fun i=>(i.zero,i.size,i.bytes)) = some (some (.string ⟨#[]⟩),1,16):=by kernel_rfl
theorem keeps_below {W z : World} (hz : Below W.heap.size W z) : KeepsOthers W z:=⟨hz.size,fun k o hk _=>(hz.block k (Array.getElem?_eq_some_iff.1 hk).1).trans hk⟩
end Go.Proofs.YtlklhkkjcfmefaaGreatDoor.pr
