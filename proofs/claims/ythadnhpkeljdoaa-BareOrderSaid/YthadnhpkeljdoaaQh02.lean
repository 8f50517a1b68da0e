/- Ground of the law: PaSpec, PvB, LxSpec, NdMem, BaSpec, SeqAll, PrBase, SgClass. -/
import Derived.Test.YthadnhpkeljdoaaQh01
import Derived.WalkKit
import Derived.Lib.Hide
import Derived.Maps.AppendAt
import Derived.Laws.AppendOwnNone
import Derived.Test.YthadnhpkeljdoaaQh00
import Derived.Shelf.Abstract
import Derived.Test.YthadnhpkeljdoaaChecked
set_option maxRecDepth 100000
set_option maxHeartbeats 8000000
set_option linter.unusedVariables false
set_option linter.unusedSimpArgs false
namespace Go.Proofs.Ythadnhpkeljdoaa.pa
open Go.RowKit nd pr
abbrev Tk:=Int × ByteArray
def noTk : Tk:=(0,⟨#[]⟩)
def tok (r : List Tk) : Tk:=r.headD noTk
inductive Pa (α : Type) : Type where
 | ret (x : α)
 | bad
 | out
 | look (k : Tk → Pa α)
 | peek (k : Tk → Pa α)
 | ended (k : Bool → Pa α)
 | move (k : Pa α)
inductive Out (α : Type) : Type where
 | ok (r : List Tk) (x : α)
 | bad (r : List Tk)
namespace Pa
def bind {α β : Type} : Pa α → (α → Pa β) → Pa β
 | ret x,f=>f x
 | bad,_=>bad
 | out,_=>out
 | look k,f=>look fun t=>(k t).bind f
 | peek k,f=>peek fun t=>(k t).bind f
 | ended k,f=>ended fun z=>(k z).bind f
 | move k,f=>move (k.bind f)
def run {α : Type} : Pa α → List Tk → Option (Out α)
 | ret x,r=>some (.ok r x)
 | bad,r=>some (.bad r)
 | out,_=>none
 | look k,r=>(k (tok r)).run r
 | peek k,r=>(k (tok r.tail)).run r
 | ended k,r=>(k r.isEmpty).run r
 | move k,r=>k.run r.tail
theorem run_bind {α β : Type} (p : Pa α) (f : α → Pa β) : ∀ r,(p.bind f).run r = match p.run r with
  | none=>none
  | some (.bad r')=>some (.bad r')
  | some (.ok r' x)=>(f x).run r':=by
 induction p with
 | ret x=>intro r;rfl
 | bad=>intro r;rfl
 | out=>intro r;rfl
 | look k ih=>intro r;exact ih (tok r) r
 | peek k ih=>intro r;exact ih (tok r.tail) r
 | ended k ih=>intro r;exact ih r.isEmpty r
 | move k ih=>intro r;exact ih r.tail
end Pa
abbrev eB : ByteArray:=⟨#[]⟩
abbrev minus : ByteArray:=⟨#[45]⟩
abbrev semi : ByteArray:=⟨#[59]⟩
abbrev colon : ByteArray:=⟨#[58]⟩
abbrev bar : ByteArray:=⟨#[124]⟩
abbrev lpar : ByteArray:=⟨#[40]⟩
abbrev rpar : ByteArray:=⟨#[41]⟩
abbrev lbr : ByteArray:=⟨#[91]⟩
abbrev rbr : ByteArray:=⟨#[93]⟩
abbrev lbrace : ByteArray:=⟨#[123]⟩
abbrev rbrace : ByteArray:=⟨#[125]⟩
abbrev comma : ByteArray:=⟨#[44]⟩
abbrev dot : ByteArray:=⟨#[46]⟩
abbrev dots : ByteArray:=⟨#[46,46]⟩
abbrev quest : ByteArray:=⟨#[63]⟩
abbrev wdef : ByteArray:=⟨#[100,101,102]⟩
abbrev wlabel : ByteArray:=⟨#[108,97,98,101,108]⟩
abbrev wtry : ByteArray:=⟨#[116,114,121]⟩
abbrev wcatch : ByteArray:=⟨#[99,97,116,99,104]⟩
abbrev was : ByteArray:=⟨#[97,115]⟩
abbrev wif : ByteArray:=⟨#[105,102]⟩
abbrev wthen : ByteArray:=⟨#[116,104,101,110]⟩
abbrev welif : ByteArray:=⟨#[101,108,105,102]⟩
abbrev welse : ByteArray:=⟨#[101,108,115,101]⟩
abbrev wend : ByteArray:=⟨#[101,110,100]⟩
abbrev wreduce : ByteArray:=⟨#[114,101,100,117,99,101]⟩
abbrev wforeach : ByteArray:=⟨#[102,111,114,101,97,99,104]⟩
abbrev wbreak : ByteArray:=⟨#[98,114,101,97,107]⟩
abbrev wimport : ByteArray:=⟨#[105,109,112,111,114,116]⟩
abbrev winclude : ByteArray:=⟨#[105,110,99,108,117,100,101]⟩
def op (s : ByteArray) (t : Tk) : Bool:=t.1 == 13 && decide (t.2 = s)
def word (s : ByteArray) (t : Tk) : Bool:=t.1 == 3 && decide (t.2 = s)
def cut (s : ByteArray) : ByteArray:=s.extract 1 s.size
def need {α : Type} (s : ByteArray) (k : Pa α) : Pa α:=.look fun t=>if op s t || word s t then .move k else .bad
def one {α : Type} (kd : Int) (k : Pa α) : Pa α:=.look fun t=>if t.1 == kd then .move k else .bad
def text {α : Type} (kd : Int) (k : ByteArray → Pa α) : Pa α:=.look fun t=>if t.1 == kd then .move (k (cut t.2)) else .bad
def plainT (t : Tk) : Bool:=t.1 == 3 && Sg.plain t.2.data.toList
def name {α : Type} (k : ByteArray → Pa α) : Pa α:=.look fun t=>if plainT t then .move (k t.2) else .bad
def mk (k : Int) (t : ByteArray) (l : List Nd) : Nd:=⟨k,t,Fo.ofL l⟩
def none0 : Nd:=⟨0,eB,.nil⟩
inductive Fn where
 | exp (least : Int)
 | expL (least : Int) (x : Nd) (barred : Int)
 | operand
 | params
 | deff (top : Bool)
 | within (x : Nd) (d : ByteArray)
 | slice (x f : Nd) (d : ByteArray)
 | post
 | postL (x : Nd)
 | str
 | strF (f : ByteArray)
 | strL
 | term
 | bracket
 | pairs
 | worded
 | args
 | ifs
 | fold (kd : Int) (three : Bool)
 | key (pat : Bool)
 | pair
 | value
 | unit
 | keypat
 | pattern
 | elems (keys : Bool)
 | bring
 | plainL
 | brings
 | program
abbrev Res : Fn → Type
 | .params=>List Nd
 | .strL=>List Nd
 | .pairs=>List Nd
 | .args=>List Nd
 | .ifs=>List Nd
 | .elems _=>List Nd
 | .plainL=>List Nd
 | .brings=>List Nd
 | .key _=>Nd × Bool
 | _=>Nd
def step (rec : (f : Fn) → Pa (Res f)) : (f : Fn) → Pa (Res f)
 | .exp least=>(rec .operand).bind fun (x : Nd)=>rec (.expL least x 0)
 | .expL least x barred=>.look fun t =>
   if 0 < levelOf (textOf t.1 t.2) ∧ levelOf (textOf t.1 t.2) = barred then .bad
   else if levelOf (textOf t.1 t.2) = 0 ∨ levelOf (textOf t.1 t.2) < least then .ret x
   else .move ((rec (.exp (besideOf (textOf t.1 t.2) 2))).bind fun (y : Nd)=>rec (.expL least (mk 24 (textOf t.1 t.2) [x,y]) (if sideOf (textOf t.1 t.2) = 0 then levelOf (textOf t.1 t.2) else 0)))
 | .operand=>.look fun t =>
   if op minus t then .move ((rec (.exp 9)).bind fun (x : Nd)=>.ret (mk 25 eB [x]))
   else if word wdef t then rec (.deff false)
   else if word wlabel t then .move (text 5 fun s=>need bar ((rec (.exp 1)).bind fun (x : Nd)=>.ret (mk 27 s [x])))
   else if word wtry t then .move ((rec .post).bind fun (x : Nd)=>.look fun u=>if word wcatch u then .move ((rec .post).bind fun (y : Nd)=>.ret (mk 15 eB [x,y])) else .ret (mk 15 eB [x]))
   else (rec .post).bind fun (x : Nd)=>.look fun u=>if word was u then .move ((rec .pattern).bind fun (k : Nd)=>need bar ((rec (.exp 1)).bind fun (y : Nd)=>.ret (mk 26 eB [x,k,y]))) else .ret x
 | .params=>.look fun t =>
   if t.1 == 5 || plainT t then .move (.look fun u=>if op semi u then .move ((rec .params).bind fun (l : List Nd)=>.ret (mk 30 t.2 [] :: l)) else need rpar (.ret [mk 30 t.2 []]))
   else .bad
 | .deff top=>.move (name fun s=>(Pa.look fun t=>if op lpar t then .move (rec .params) else .ret ([] : List Nd)).bind fun (l : List Nd)=>need colon ((rec (.exp 1)).bind fun (b : Nd)=>need semi (.ended fun z =>
   if top && z then .ret (mk 29 s (l ++ [b,none0]))
   else (Pa.look fun t=>if top && word wdef t then rec (.deff true) else rec (.exp 1)).bind fun (y : Nd)=>.ret (mk 29 s (l ++ [b,y])))))
 | .within x d=>need lbr (.look fun t =>
   if op rbr t then .move (.ret (mk 20 d [x]))
   else if op colon t then rec (.slice x none0 d)
   else (rec (.exp 1)).bind fun (f : Nd)=>.look fun u=>if op rbr u then .move (.ret (mk 18 d [x,f])) else rec (.slice x f d))
 | .slice x f d=>need colon (.look fun t =>
   if f.k == 0 || !op rbr t then (rec (.exp 1)).bind fun (y : Nd)=>need rbr (.ret (mk 19 d [x,f,y]))
   else need rbr (.ret (mk 19 d [x,f,none0])))
 | .post=>(rec .term).bind fun (x : Nd)=>rec (.postL x)
 | .postL x=>.look fun t =>
   if t.1 == 4 then .move (rec (.postL (mk 21 (cut t.2) [x])))
   else if op quest t then .move (rec (.postL (mk 23 eB [x])))
   else if op lbr t then (rec (.within x eB)).bind fun (y : Nd)=>rec (.postL y)
   else if op dot t then .move (.look fun u=>if op lbr u then (rec (.within x dot)).bind fun (y : Nd)=>rec (.postL y) else (rec .str).bind fun (y : Nd)=>rec (.postL (mk 22 eB [x,y])))
   else .ret x
 | .str=>.look fun t=>if t.1 == 12 then .move (rec (.strF t.2)) else rec (.strF eB)
 | .strF f=>one 7 ((rec .strL).bind fun (l : List Nd)=>one 11 (.ret (mk 6 f l)))
 | .strL=>.look fun t =>
   if t.1 == 11 then .ret ([] : List Nd)
   else if t.1 == 8 then .move ((rec .strL).bind fun (l : List Nd)=>.ret (mk 7 t.2 [] :: l))
   else one 9 ((rec (.exp 1)).bind fun (x : Nd)=>one 10 ((rec .strL).bind fun (l : List Nd)=>.ret (x :: l)))
 | .term=>.look fun t =>
   if t.1 == 4 then .move (.ret (mk 3 (cut t.2) []))
   else if t.1 == 5 then .move (.ret (mk 4 (cut t.2) []))
   else if t.1 == 6 then .move (.ret (mk 5 t.2 []))
   else if op dots t then .move (.ret (mk 2 eB []))
   else if op dot t then .move (.look fun u=>if u.1 != 7 && u.1 != 12 then .ret (mk 1 eB []) else (rec .str).bind fun (x : Nd)=>.ret (mk 22 eB [none0,x]))
   else if t.1 == 12 then .peek fun u=>.move (if u.1 != 7 then .ret (mk 8 t.2 []) else rec (.strF t.2))
   else if t.1 == 7 then rec .str
   else if t.1 == 13 then rec .bracket
   else if t.1 == 3 then rec .worded
   else .bad
 | .bracket=>.look fun t =>
   if op lpar t then .move ((rec (.exp 1)).bind fun (x : Nd)=>need rpar (.ret (mk 12 eB [x])))
   else if op lbr t then .move (.look fun u=>if op rbr u then .move (.ret (mk 9 eB [])) else (rec (.exp 1)).bind fun (x : Nd)=>need rbr (.ret (mk 9 eB [x])))
   else if op lbrace t then .move (.look fun u=>if op rbrace u then .move (.ret (mk 10 eB [])) else (rec .pairs).bind fun (l : List Nd)=>.ret (mk 10 eB l))
   else .bad
 | .pairs=>(rec .pair).bind fun (x : Nd)=>.look fun t=>if op comma t then .move ((rec .pairs).bind fun (l : List Nd)=>.ret (x :: l)) else need rbrace (.ret [x])
 | .worded=>.look fun t =>
   if t.2 = wif then .move ((rec .ifs).bind fun (l : List Nd)=>.look fun u=>if word welse u then .move ((rec (.exp 1)).bind fun (x : Nd)=>need wend (.ret (mk 14 welse (l ++ [x])))) else need wend (.ret (mk 14 eB l)))
   else if t.2 = wreduce then .move (rec (.fold 16 false))
   else if t.2 = wforeach then .move (rec (.fold 17 true))
   else if t.2 = wbreak then .move (text 5 fun s=>.ret (mk 28 s []))
   else if Sg.key t.2.data.toList then .bad
   else .move (.look fun u=>if op lpar u then (rec .args).bind fun (l : List Nd)=>.ret (mk 13 t.2 l) else .ret (mk 13 t.2 []))
 | .args=>.move ((rec (.exp 1)).bind fun (x : Nd)=>.look fun t=>if op semi t then (rec .args).bind fun (l : List Nd)=>.ret (x :: l) else need rpar (.ret [x]))
 | .ifs=>(rec (.exp 1)).bind fun (a : Nd)=>need wthen ((rec (.exp 1)).bind fun (b : Nd)=>.look fun t=>if word welif t then .move ((rec .ifs).bind fun (l : List Nd)=>.ret (a :: b :: l)) else .ret [a,b])
 | .fold kd three=>(rec .post).bind fun (s : Nd)=>need was ((rec .pattern).bind fun (p : Nd)=>need lpar ((rec (.exp 1)).bind fun (a : Nd)=>need semi ((rec (.exp 1)).bind fun (b : Nd)=>.look fun t =>
   if three && op semi t then .move ((rec (.exp 1)).bind fun (c : Nd)=>need rpar (.ret (mk kd eB [s,p,a,b,c]))) else need rpar (.ret (mk kd eB [s,p,a,b])))))
 | .key pat=>.look fun t =>
   if t.1 == 5 then .move (.ret (mk 4 (cut t.2) [],false))
   else if t.1 == 3 then .move (.ret (mk 31 t.2 [],pat))
   else if op lpar t then .move ((rec (.exp 1)).bind fun (x : Nd)=>need rpar (.ret (mk 32 eB [x],true)))
   else if t.1 != 7 && t.1 != 12 then .bad
   else (rec .str).bind fun (x : Nd)=>.ret (x,pat)
 | .pair=>(rec (.key false)).bind fun (k : Nd × Bool)=>.look fun t=>if !k.2 && !op colon t then .ret (mk 11 eB [k.1]) else need colon ((rec .value).bind fun (x : Nd)=>.ret (mk 11 eB [k.1,x]))
 | .value=>(rec .unit).bind fun (x : Nd)=>.look fun t=>if op bar t then .move ((rec .value).bind fun (y : Nd)=>.ret (mk 24 bar [x,y])) else .ret x
 | .unit=>.look fun t=>if op minus t then .move ((rec .unit).bind fun (x : Nd)=>.ret (mk 25 eB [x])) else rec .post
 | .keypat=>(rec (.key true)).bind fun (k : Nd × Bool)=>.look fun t=>if !k.2 && !op colon t then .ret (mk 37 eB [k.1]) else need colon ((rec .pattern).bind fun (x : Nd)=>.ret (mk 37 eB [k.1,x]))
 | .pattern=>.look fun t =>
   if t.1 == 5 then .move (.ret (mk 4 (cut t.2) []))
   else if op lbrace t then (rec (.elems true)).bind fun (l : List Nd)=>.ret (mk 36 eB l)
   else if op lbr t then (rec (.elems false)).bind fun (l : List Nd)=>.ret (mk 35 eB l)
   else .bad
 | .elems keys=>.move ((if keys then rec .keypat else rec .pattern).bind fun (x : Nd)=>.look fun t=>if op comma t then (rec (.elems keys)).bind fun (l : List Nd)=>.ret (x :: l) else need (if keys then rbrace else rbr) (.ret [x]))
 | .bring=>.look fun t=>.move (one 7 ((rec .plainL).bind fun (l : List Nd)=>one 11 (
   if t.2 = winclude then need semi (.ret (mk 33 t.2 [mk 6 eB l]))
   else need was (.look fun u=>if u.1 == 5 then .move (need semi (.ret (mk 33 t.2 [mk 6 eB l,mk 4 (cut u.2) []]))) else name fun s=>need semi (.ret (mk 33 t.2 [mk 6 eB l,mk 31 s []]))))))
 | .plainL=>.look fun t=>if t.1 == 8 then .move ((rec .plainL).bind fun (l : List Nd)=>.ret (mk 7 t.2 [] :: l)) else .ret ([] : List Nd)
 | .brings=>.look fun t=>if word wimport t || word winclude t then (rec .bring).bind fun (x : Nd)=>(rec .brings).bind fun (l : List Nd)=>.ret (x :: l) else .ret ([] : List Nd)
 | .program=>(rec .brings).bind fun (m : List Nd)=>.ended fun z =>
   (if !m.isEmpty && z then .ret none0 else Pa.look fun t=>if word wdef t then rec (.deff true) else rec (.exp 1)).bind fun (x : Nd)=>.ended fun e=>if e then .ret (if m.isEmpty then x else mk 34 eB (m ++ [x])) else .bad
def go : Nat → (f : Fn) → Pa (Res f)
 | 0,_=>.out
 | n + 1,f=>step (go n) f
def opens (t : Tk) : Bool:=t.1 == 9 || op lpar t || op lbr t || op lbrace t
def closes (t : Tk) : Bool:=t.1 == 10 || op rpar t || op rbr t || op rbrace t
def deepAt : Nat → Nat → List Tk → Option Nat
 | _,_,[]=>none
 | n,i,t :: r=>let m:=if opens t then n + 1 else if closes t then n - 1 else n;if 256 < m then some i else deepAt m (i + 1) r
def fuel (l : List Tk) : Nat:=50 * l.length + 50
def parse (l : List Tk) : Nd × Int × Nat :=
 match deepAt 0 0 l with
 | some i=>(none0,21,i)
 | none=>match (go (fuel l) .program).run l with
  | some (.ok _ x)=>(x,0,0)
  | some (.bad r)=>(none0,22,l.length - r.length)
  | none=>(none0,99,0)
end Go.Proofs.Ythadnhpkeljdoaa.pa
namespace Go.Proofs.Ythadnhpkeljdoaa.pv
open Go.RowKit
inductive Kd where
 | bool
 | str
 | no
 | int (k : IntKind)
 | sl (e : TypeId)
 | st (fs : List (Nat × TypeId))
structure Ty where
 kd : Kd
 size : Nat
 bytes : Nat
 zero : List D
abbrev Tys:=List (TypeId × Ty)
def tyOf : Tys → TypeId → Option Ty
 | [],_=>none
 | (t,y) :: r,u=>bif t.beq u then some y else tyOf r u
def constC : Value → D
 | .bool b=>.v (.bool b)
 | .int k n=>.v (.int k n)
 | .string s=>.v (.string s)
 | .slice none 0 0=>.sl .nil []
 | _=>.und
def goodC : D → Bool
 | .und=>false
 | _=>true
def constD : Value → D
 | .agg vs=>bif (vs.toList.map constC).all goodC then .agg (vs.toList.map constC) else .junk
 | v=>match constC v with
  | .und=>.junk
  | d=>d
def ev (m : Mem) : Operand → D
 | .tmp t=>look m 0 t
 | .const v=>constD v
 | .func f=>.v (.func (.func f) #[] #[])
 | _=>.junk
def strip : D → D
 | .sl _ es=>.sl .no es
 | d=>d
def stripV : D → D
 | .agg l=>.agg (l.map strip)
 | d=>strip d
def stripA : D → D
 | .sl .nil es=>.sl .nil es
 | d=>stripV d
def cellD : D → Bool
 | .v (.bool _)=>true
 | .v (.int _ _)=>true
 | .v (.string _)=>true
 | .sl _ _=>true
 | _=>false
def cellsOf : D → Option (List D)
 | .agg l=>some l
 | d=>bif cellD d then some [d] else none
def cw (b : Nat) : Nat → List D → Mem
 | _,[]=>[]
 | o,d :: r=>(b + 2,o,d) :: cw b (o + 1) r
def cr (m : Mem) (b : Nat) : Nat → Nat → List D
 | _,0=>[]
 | o,n + 1=>look m (b + 2) o :: cr m b (o + 1) n
def part (l : List D) : Nat → Nat → Option (List D)
 | _,0=>some []
 | o,n + 1=>match l[o]?,part l (o + 1) n with
  | some d,some r=>some (d :: r)
  | _,_=>none
inductive CT where
 | b
 | s
 | i (k : IntKind)
 | l
 | f (e sz : Nat)
def exC : List CT → (List D → Prop) → Prop
 | [],K=>K []
 | .b :: r,K=>∃ x : Bool,exC r fun l=>K (.v (.bool x) :: l)
 | .s :: r,K=>∃ x : ByteArray,exC r fun l=>K (.v (.string x) :: l)
 | .i k :: r,K=>∃ x : Int,exC r fun l=>K (.v (.int k x) :: l)
 | .l :: r,K=>∃ x : List (List D),exC r fun l=>K (.sl .no x :: l)
 | .f e sz :: r,K=>∃ x : List (List D),exC r fun l=>K (.sl (.own 0 e sz) x :: l)
abbrev Sh:=List (Bool × List CT)
def exS : Sh → (List D → Prop) → Prop
 | [],K=>K []
 | (true,cs) :: r,K=>exC cs fun l=>exS r fun m=>K (.agg l :: m)
 | (false,cs) :: r,K=>exC cs fun l=>exS r fun m=>K (l.headD .junk :: m)
def mkRes : List D → D
 | [d]=>d
 | l=>.tup l
def reown (id : Nat) : List D → List D × Mem
 | []=>([],[])
 | .sl (.own _ e sz) es :: r=>(.sl (.own id e sz) es :: r.map stripV,[(1,id,.num es.length)])
 | d :: r=>(stripV d :: (reown id r).1,(reown id r).2)
inductive R where
 | bad
 | val (d : D)
 | put (d : D) (ws : Mem)
 | eff (p : Prop) (d : D) (ws : Mem)
 | idx (es : List (List D)) (i : Int) (cs : List CT)
 | call (f : FuncId) (args : List D)
def dBin (op : BinOp) : D → D → R
 | .v (.int k a),.v (.int k' b)=>bif decide (k = k') then
   (match op with
   | .add=>.val (.v (.int k (k.wrap (a + b))))
   | .sub=>.val (.v (.int k (k.wrap (a - b))))
   | .mul=>.val (.v (.int k (k.wrap (a * b))))
   | .eql=>.val (.v (.bool (a == b)))
   | .neq=>.val (.v (.bool (a != b)))
   | .lss=>.val (.v (.bool (a < b)))
   | .leq=>.val (.v (.bool (a ≤ b)))
   | .gtr=>.val (.v (.bool (a > b)))
   | .geq=>.val (.v (.bool (a ≥ b)))
   | .rem=>.eff (b ≠ 0) (.v (.int k (a.tmod b))) []
   | _=>.bad) else .bad
 | .v (.string a),.v (.string b)=>match op with
   | .eql=>.val (.v (.bool (a.toList == b.toList)))
   | .neq=>.val (.v (.bool (!(a.toList == b.toList))))
   | .lss=>.val (.v (.bool (Op.bytesLess a.toList b.toList)))
   | .add=>.eff (a.size + b.size ≤ 9223372036854775807) (.v (.string (a ++ b))) []
   | _=>.bad
 | _,_=>.bad
def dPick : D → D → D → R
 | .v (.bool c),.v (.bool a),.v (.bool b)=>.val (.v (.bool (bif c then a else b)))
 | .v (.bool true),a,_=>.val a
 | .v (.bool false),_,b=>.val b
 | _,_,_=>.bad
def there : D → Bool
 | .junk=>false
 | .und=>false
 | _=>true
def dLoad (m : Mem) (y : Ty) : D → R
 | .ptr b off=>match y.kd with
  | .st _=>bif (cr m b off y.size).all there then .val (.agg (cr m b off y.size)) else .bad
  | .no=>.bad
  | _=>bif there (look m (b + 2) off) then .val (look m (b + 2) off) else .bad
 | .el l off=>match y.kd with
  | .st _=>(match part l off y.size with
   | some r=>.val (.agg r)
   | none=>.bad)
  | .no=>.bad
  | _=>(match l[off]? with
   | some d=>.val d
   | none=>.bad)
 | _=>.bad
def dStore (m : Mem) (y : Ty) (x : D) : D → R
 | .ptr b off=>(match cellsOf x with
  | some l=>bif l.length.beq y.size && (cr m b off l.length).all there then .put .und (cw b off l) else .bad
  | none=>.bad)
 | _=>.bad
def fieldOf (ty : Tys) : List (Nat × TypeId) → Nat → Option (Nat × Ty)
 | [],_=>none
 | (o,t) :: _,0=>(match tyOf ty t with
  | some y=>some (o,y)
  | none=>none)
 | _ :: r,n + 1=>fieldOf ty r n
def dFieldAddr (ty : Tys) (y : Ty) (f : Nat) (x : D) : R :=
 match y.kd with
 | .st fs=>(match fieldOf ty fs f with
  | some (o,z)=>bif z.size.beq 0 then .bad else (match x with
   | .ptr b off=>.val (.ptr b (off + o))
   | .el l off=>.val (.el l (off + o))
   | _=>.bad)
  | none=>.bad)
 | _=>.bad
def dField (ty : Tys) (y : Ty) (f : Nat) (x : D) : R :=
 match y.kd,x with
 | .st fs,.agg l=>(match fieldOf ty fs f with
  | some (o,z)=>(match z.kd with
   | .st _=>(match part l o z.size with
    | some r=>.val (.agg r)
    | none=>.bad)
   | .no=>.bad
   | _=>(match l[o]? with
    | some d=>.val d
    | none=>.bad))
  | none=>.bad)
 | _,_=>.bad
def ctOf (ty : Tys) : Nat → TypeId → Option (List CT)
 | 0,_=>none
 | n + 1,t=>match tyOf ty t with
  | some y=>(match y.kd with
   | .bool=>some [.b]
   | .str=>some [.s]
   | .int k=>some [.i k]
   | .sl _=>some [.l]
   | .st fs=>fs.foldr (fun f r=>match ctOf ty n f.2,r with
    | some a,some b=>some (a ++ b)
    | _,_=>none) (some [])
   | .no=>none)
  | none=>none
def fillD : List D → Nat → List D → List D
 | l,_,[]=>l
 | l,o,d :: r=>fillD (l.set o d) (o + 1) r
def dBuild (ty : Tys) (m : Mem) (fs : List (Nat × TypeId)) : List D → List (Nat × Operand) → Option (List D)
 | z,[]=>some z
 | z,(i,x) :: r=>match fieldOf ty fs i,cellsOf (ev m x) with
  | some (o,y),some l=>bif l.length.beq y.size && (o + l.length).ble z.length then dBuild ty m fs (fillD z o l) r else none
  | _,_=>none
def dFillE (m : Mem) (sz : Nat) : List (List D) → List (Nat × Operand) → Option (List (List D))
 | es,[]=>some es
 | es,(j,x) :: r=>match cellsOf (ev m x) with
  | some l=>bif l.length.beq sz && (j + 1).ble es.length then dFillE m sz (es.set j (l.map strip)) r else none
  | none=>none
def dSlice (str : Bool) (sz : Nat) (x : D) (lo hi : Option D) : R :=
 match str,x,lo,hi with
 | true,.v (.string s),some (.v (.int _ a)),none=>.eff (0 ≤ a ∧ a ≤ s.size) (.v (.string (s.extract a.toNat s.size))) []
 | true,.v (.string s),none,some (.v (.int _ b))=>.eff (0 ≤ b ∧ b ≤ s.size) (.v (.string (s.extract 0 b.toNat))) []
 | true,.v (.string s),some (.v (.int _ a)),some (.v (.int _ b))=>.eff (0 ≤ a ∧ a ≤ b ∧ b ≤ s.size) (.v (.string (s.extract a.toNat b.toNat))) []
 | false,.sl _ es,some (.v (.int _ a)),none=>.eff ((0 ≤ a ∧ a ≤ es.length) ∧ ∀ c ∈ es,c.length = sz) (.sl .no (es.drop a.toNat)) []
 | false,.sl _ es,none,some (.v (.int _ b))=>.eff ((0 ≤ b ∧ b ≤ es.length) ∧ ∀ c ∈ es,c.length = sz) (.sl .no (es.take b.toNat)) []
 | false,.sl _ es,some (.v (.int _ a)),some (.v (.int _ b))=>.eff ((0 ≤ a ∧ a ≤ b ∧ b ≤ es.length) ∧ ∀ c ∈ es,c.length = sz) (.sl .no ((es.take b.toNat).drop a.toNat)) []
 | _,_,_,_=>.bad
def dAppend (m : Mem) (id : Nat) (e : TypeId) (y : Ty) : D → D → R
 | .sl .nil [],.sl _ news=>.eff ((∀ c ∈ news,c.length = y.size) ∧ news.length ≤ 16777216) (.sl (.own id e y.size) news) [(1,id,.num news.length)]
 | .sl (.own t e' sz) es,.sl _ news=>(match look m 1 t with
  | .num n=>bif sz.beq y.size && e'.beq e then .eff (n = es.length ∧ (∀ c ∈ news,c.length = y.size) ∧ es.length + news.length ≤ 16777216) (.sl (.own t e sz) (es ++ news)) [(1,t,.num (es.length + news.length))] else .bad
  | _=>.bad)
 | _,_=>.bad
def optD (m : Mem) : Option Operand → Option D
 | none=>none
 | some x=>some (ev m x)
def argD : D → Bool
 | .v (.bool _)=>true
 | .v (.int _ _)=>true
 | .v (.string _)=>true
 | .v (.func (.func _) _ _)=>true
 | .sl _ _=>true
 | .agg l=>l.all cellD
 | _=>false
def szIs : Option Ty → Nat → Bool
 | some z,n=>z.size.beq n
 | none,_=>false
def dop (ty : Tys) (m : Mem) (id : Nat) (o : Oper) : R :=
 match o.op with
 | .move x=>.val (ev m x)
 | .assign x=>.val (ev m x)
 | .pick c a b=>dPick (ev m c) (ev m a) (ev m b)
 | .alloc t=>(match tyOf ty t with
  | some y=>.put (.ptr id 0) (cw id 0 y.zero)
  | none=>.bad)
 | .box t x=>(match cellsOf (ev m x) with
  | some l=>.put (.ptr id 0) (cw id 0 l)
  | none=>.bad)
 | .build t ps=>(match tyOf ty t with
  | some y=>(match y.kd with
   | .st fs=>bif fs.all fun f=>(tyOf ty f.2).isSome then (match dBuild ty m fs y.zero ps.toList with
    | some l=>.val (.agg l)
    | none=>.bad) else .bad
   | _=>.bad)
  | none=>.bad)
 | .buildSlice t n ps=>(match tyOf ty t with
  | some y=>(match y.kd with
   | .sl e=>(match tyOf ty e with
    | some z=>bif z.size.beq 0 || !(n * z.size).ble 16777216 then .bad else (match dFillE m z.size (List.replicate n z.zero) ps.toList with
     | some es=>.put (.sl (.own id e z.size) es) [(1,id,.num n)]
     | none=>.bad)
    | none=>.bad)
   | _=>.bad)
  | none=>.bad)
 | .load t a=>(match tyOf ty t with
  | some y=>dLoad m y (ev m a)
  | none=>.bad)
 | .store t a x=>(match tyOf ty t with
  | some y=>dStore m y (ev m x) (ev m a)
  | none=>.bad)
 | .nilCheck x=>(match ev m x with
  | .ptr b off=>.val (.ptr b off)
  | .el l off=>.val (.el l off)
  | _=>.bad)
 | .binOp op _ x y _=>dBin op (ev m x) (ev m y)
 | .unOp .neg _ x=>(match ev m x with
  | .v (.int k n)=>.val (.v (.int k (k.wrap (0 - n))))
  | _=>.bad)
 | .unOp .not _ x=>(match ev m x with
  | .v (.bool b)=>.val (.v (.bool (!b)))
  | _=>.bad)
 | .convert s t x=>(match tyOf ty s,tyOf ty t,ev m x with
  | some z,some y,.v (.int _ n)=>(match z.kd,y.kd with
   | .int _,.int k=>.val (.v (.int k (k.wrap n)))
   | _,_=>.bad)
  | _,_,_=>.bad)
 | .fieldAddr t x f=>(match tyOf ty t with
  | some y=>dFieldAddr ty y f (ev m x)
  | none=>.bad)
 | .field t x f=>(match tyOf ty t with
  | some y=>dField ty y f (ev m x)
  | none=>.bad)
 | .indexAddr t x i=>(match tyOf ty t,ev m x,ev m i with
  | some y,.sl _ es,.v (.int _ n)=>(match y.kd with
   | .sl e=>(match ctOf ty 5 e with
    | some cs=>bif szIs (tyOf ty e) cs.length then .idx es n cs else .bad
    | none=>.bad)
   | _=>.bad)
  | _,_,_=>.bad)
 | .index t x i=>(match tyOf ty t,ev m x,ev m i with
  | some y,.v (.string s),.v (.int _ n)=>(match y.kd with
   | .str=>.eff (0 ≤ n ∧ n < s.size) (.v (.int .u8 ((s.data.toList.getD n.toNat 0).toNat : Int))) []
   | _=>.bad)
  | _,_,_=>.bad)
 | .slice t x lo hi none=>(match tyOf ty t with
  | some y=>(match y.kd with
   | .str=>dSlice true 0 (ev m x) (optD m lo) (optD m hi)
   | .sl e=>(match tyOf ty e with
    | some z=>dSlice false z.size (ev m x) (optD m lo) (optD m hi)
    | none=>.bad)
   | _=>.bad)
  | none=>.bad)
 | .extract x i=>(match ev m x with
  | .tup l=>(match l[i]? with
   | some d=>.val d
   | none=>.bad)
  | _=>.bad)
 | .call { callee:=.value (.func f),args,.. }=>bif (args.toList.map (ev m)).all argD then .call f (args.toList.map fun x=>stripA (ev m x)) else .bad
 | .call { callee:=.value (.tmp t),args,.. }=>(match look m 0 t with
  | .v (.func (.func f) ca cb)=>bif ca.size.beq 0 && cb.size.beq 0 && (args.toList.map (ev m)).all argD then .call f (args.toList.map fun x=>stripA (ev m x)) else .bad
  | _=>.bad)
 | .call { callee:=.builtin .len,args,argTypes }=>(match args.toList,argTypes.toList with
  | [x],[t]=>(match tyOf ty t,ev m x with
   | some y,.v (.string s)=>(match y.kd with
    | .str=>.val (.v (.int .i64 s.size))
    | _=>.bad)
   | some y,.sl _ es=>(match y.kd with
    | .sl _=>.val (.v (.int .i64 es.length))
    | _=>.bad)
   | _,_=>.bad)
  | _,_=>.bad)
 | .call { callee:=.builtin .append,args,argTypes }=>(match args.toList,argTypes.toList with
  | [s,x],[t,u]=>(match tyOf ty t with
   | some y=>(match y.kd with
    | .sl e=>(match tyOf ty e with
     | some z=>bif t.beq u && !z.size.beq 0 && z.bytes.ble 1048576 then dAppend m id e z (ev m s) (ev m x) else .bad
     | none=>.bad)
    | _=>.bad)
   | none=>.bad)
  | _,_=>.bad)
 | .call { callee:=.builtin .min,args,.. }=>(match args.toList with
  | [x,y]=>(match ev m x,ev m y with
   | .v (.int k a),.v (.int k' b)=>.val (.v (.int k (if b < a then b else a)))
   | _,_=>.bad)
  | _=>.bad)
 | .call { callee:=.builtin .max,args,.. }=>(match args.toList with
  | [x,y]=>(match ev m x,ev m y with
   | .v (.int k a),.v (.int k' b)=>.val (.v (.int k (if a < b then b else a)))
   | _,_=>.bad)
  | _=>.bad)
 | _=>.bad
structure Env where
 ty : Tys
 sh : FuncId → Sh
 ok : FuncId → List D → List D → Prop
 n : Nat
 lv : Nat → Option (List (Nat × Nat × Option (Nat × Nat)))
structure St where
 nx : Nat
 m : Mem
end Go.Proofs.Ythadnhpkeljdoaa.pv
namespace Go.Proofs.Ythadnhpkeljdoaa.Lx
open Go.RowKit (wrap64)
open Sg (run cB cW cD)
abbrev Kd:=Int × (List UInt8 → Nat)
def nstep (st : Nat) (b : UInt8) : Nat:=if b = 92 then (if st = 1 then 0 else 1) else if b = 13 ∧ st = 1 then 2 else 0
def noteR : Nat → List UInt8 → Nat
  | _,[]=>0
  | st,b :: r=>if b = 10 ∧ st = 0 then 0 else 1 + noteR (nstep st b) r
def note (l : List UInt8) : Nat:=if Lib.hasPrefix l [35] then noteR 0 l else 0
def pieceF : Nat → List UInt8 → Nat
  | 0,_=>0
  | _ + 1,[]=>0
  | f + 1,b :: r=>if b = 34 then 0 else if b = 92 then (if Sg.escape (b :: r) = 0 then 0 else Sg.escape (b :: r) + pieceF f ((b :: r).drop (Sg.escape (b :: r)))) else 1 + pieceF f r
def piece (l : List UInt8) : Nat:=pieceF l.length l
def just (t l : List UInt8) : Nat:=if Lib.hasPrefix l t then t.length else 0
def marked (m : List UInt8) (f : List UInt8 → Nat) (l : List UInt8) : Nat:=if Lib.hasPrefix l m then (if f (l.drop m.length) = 0 then 0 else m.length + f (l.drop m.length)) else 0
def outside : List Kd:=[(1,run cB),(2,note),(3,Sg.word),(4,marked [46] Sg.simple),(5,marked [36] Sg.word),(12,marked [64] (run cW)),(6,Sg.number),(7,just [34]),(13,Sg.oper)]
def closing : List Kd:=(10,just [41]) :: outside
def inside : List Kd:=[(8,piece),(11,just [34]),(9,just [92,40])]
structure St where
  text : Bool
  br : Int
deriving DecidableEq
structure Lex where
  top : St
  below : List St
deriving DecidableEq
def start : Lex:=⟨⟨false,0⟩,[]⟩
def ended (x : Lex) : Bool:=x.below.isEmpty && !x.top.text
def tried (x : Lex) : List Kd:=if x.top.text then inside else if 0 < x.below.length ∧ x.top.br = 0 then closing else outside
def find : List Kd → List UInt8 → Option (Int × Nat)
  | [],_=>none
  | h :: t,l=>if h.2 l = 0 then find t l else some (h.1,h.2 l)
def bracket (t : List UInt8) : Int:=if t = [40] then 1 else if t = [41] then -1 else 0
def turn (x : Lex) (k : Int) (t : List UInt8) : Except Int Lex :=
  if k = 7 then .ok { x with top:={ x.top with text:=true } }
  else if k = 11 then .ok { x with top:={ x.top with text:=false } }
  else if k = 9 then (if 256 ≤ x.below.length then .error 21 else .ok ⟨⟨false,0⟩,x.below ++ [x.top]⟩)
  else if k = 10 then .ok ⟨x.below.getLastD ⟨false,0⟩,x.below.dropLast⟩
  else if k = 13 then .ok { x with top:={ x.top with br:=wrap64 (x.top.br + bracket t) } }
  else .ok x
def next (x : Lex) (l : List UInt8) : Except Int (Int × Nat × Lex) :=
  match find (tried x) l with
  | none=>.error (if x.top.text then 12 else 11)
  | some (k,n) =>
    match turn x k (l.take n) with
    | .error e=>.error e
    | .ok y=>.ok (k,n,y)
abbrev Tok:=Int × List UInt8
def lex : Nat → Lex → List UInt8 → List Tok × Int
  | _,x,[]=>([],if ended x then 0 else 13)
  | 0,_,_ :: _=>([],0)
  | f + 1,x,b :: r =>
    match next x (b :: r) with
    | .error e=>([],e)
    | .ok (k,n,y)=>((k,(b :: r).take n) :: (lex f y ((b :: r).drop n)).1,(lex f y ((b :: r).drop n)).2)
def size (l : List Tok) : Nat:=(l.map (·.2.length)).sum
theorem noteR_le (st : Nat) (l : List UInt8) : noteR st l ≤ l.length:=by
  induction l generalizing st with
  | nil=>exact Nat.le_refl _
  | cons b r ih=>simp only [noteR,List.length_cons];have:=ih (nstep st b);split <;> omega
theorem note_le (l : List UInt8) : note l ≤ l.length:=by unfold note;split;exact noteR_le _ _;exact Nat.zero_le _
theorem pieceF_le (f : Nat) (l : List UInt8) : pieceF f l ≤ l.length:=by
  induction f generalizing l with
  | zero=>simp [pieceF]
  | succ f ih =>
    cases l with
    | nil=>simp [pieceF]
    | cons b r =>
      have h1:=Sg.escape_le (b :: r)
      have h2:=ih ((b :: r).drop (Sg.escape (b :: r)))
      rw [List.length_drop] at h2
      have h3:=ih r
      simp only [pieceF,List.length_cons] at *
      split
      · omega
      · split
        · split <;> omega
        · omega
theorem piece_le (l : List UInt8) : piece l ≤ l.length:=pieceF_le _ _
theorem just_le (t l : List UInt8) : just t l ≤ l.length:=by
  unfold just;split
  · rename_i h;exact Sg.pre_length h
  · exact Nat.zero_le _
theorem marked_le (m : List UInt8) (f : List UInt8 → Nat) (hf : ∀ l,f l ≤ l.length) (l : List UInt8) : marked m f l ≤ l.length:=by
  unfold marked
  split
  · rename_i h
    have h1:=Sg.pre_length h
    have h2:=hf (l.drop m.length)
    rw [List.length_drop] at h2
    split <;> omega
  · exact Nat.zero_le _
def Good (sh : List Kd) : Prop:=∀ h ∈ sh,∀ l,h.2 l ≤ l.length
theorem good_outside : Good outside:=by
  intro h hm l
  simp only [outside,List.mem_cons,List.not_mem_nil,or_false] at hm
  rcases hm with rfl | rfl | rfl | rfl | rfl | rfl | rfl | rfl | rfl
  · exact Sg.run_le _ _
  · exact note_le _
  · exact Sg.word_le _
  · exact marked_le _ _ Sg.simple_le _
  · exact marked_le _ _ Sg.word_le _
  · exact marked_le _ _ (Sg.run_le _) _
  · exact Sg.number_le _
  · exact just_le _ _
  · exact Sg.oper_le _
theorem good_closing : Good closing:=by
  intro h hm l
  rcases List.mem_cons.1 hm with rfl | hm
  · exact just_le _ _
  · exact good_outside h hm l
theorem good_inside : Good inside:=by
  intro h hm l
  simp only [inside,List.mem_cons,List.not_mem_nil,or_false] at hm
  rcases hm with rfl | rfl | rfl
  · exact piece_le _
  · exact just_le _ _
  · exact just_le _ _
theorem good_tried (x : Lex) : Good (tried x):=by
  unfold tried;split
  · exact good_inside
  · split
    · exact good_closing
    · exact good_outside
theorem find_some {sh : List Kd} {l : List UInt8} {k : Int} {n : Nat} (h : find sh l = some (k,n)) : n ≠ 0 ∧ ∃ e ∈ sh,e.1 = k ∧ e.2 l = n:=by
  induction sh with
  | nil=>cases h
  | cons e t ih =>
    simp only [find] at h
    split at h
    · obtain ⟨h1,e',h2,h3⟩:=ih h
      exact ⟨h1,e',List.mem_cons_of_mem _ h2,h3⟩
    · rename_i hn
      cases h
      exact ⟨hn,e,List.mem_cons_self ..,rfl,rfl⟩
theorem find_le {x : Lex} {l : List UInt8} {k : Int} {n : Nat} (h : find (tried x) l = some (k,n)) : 0 < n ∧ n ≤ l.length:=by
  obtain ⟨h1,e,h2,rfl,rfl⟩:=find_some h
  exact ⟨by omega,good_tried x e h2 l⟩
theorem next_le {x y : Lex} {l : List UInt8} {k : Int} {n : Nat} (h : next x l = .ok (k,n,y)) : 0 < n ∧ n ≤ l.length:=by
  unfold next at h
  cases hf : find (tried x) l with
  | none=>rw [hf] at h;cases h
  | some p =>
    obtain ⟨k',n'⟩:=p
    rw [hf] at h
    simp only at h
    cases ht : turn x k' (l.take n') with
    | error e=>rw [ht] at h;cases h
    | ok z=>rw [ht] at h;cases h;exact find_le hf
theorem lex_fuel (f g : Nat) (x : Lex) (l : List UInt8) (hf : l.length ≤ f) (hg : l.length ≤ g) : lex f x l = lex g x l:=by
  induction f generalizing g x l with
  | zero =>
    obtain rfl : l = []:=List.length_eq_zero_iff.1 (by omega)
    cases g <;> simp [lex]
  | succ f ih =>
    cases l with
    | nil=>cases g <;> simp [lex]
    | cons b r =>
      cases g with
      | zero=>simp at hg
      | succ g =>
        simp only [lex]
        cases hn : next x (b :: r) with
        | error e=>rfl
        | ok p =>
          obtain ⟨k,n,y⟩:=p
          have hl:=next_le hn
          simp only
          rw [ih g y _ (by rw [List.length_drop];simp at *;omega) (by rw [List.length_drop];simp at *;omega)]
def lexA (x : Lex) (l : List UInt8) : List Tok × Int:=lex l.length x l
theorem lexA_nil (x : Lex) : lexA x [] = ([],if ended x then 0 else 13):=by simp [lexA,lex]
theorem lexA_err {x : Lex} {l : List UInt8} {e : Int} (h : next x l = .error e) (h0 : l ≠ []) : lexA x l = ([],e):=by
  cases l with
  | nil=>exact absurd rfl h0
  | cons b r=>simp [lexA,lex,h]
theorem lexA_ok {x y : Lex} {l : List UInt8} {k : Int} {n : Nat} (h : next x l = .ok (k,n,y)) (h0 : l ≠ []) : lexA x l = ((k,l.take n) :: (lexA y (l.drop n)).1,(lexA y (l.drop n)).2):=by
  have hl:=next_le h
  cases l with
  | nil=>exact absurd rfl h0
  | cons b r =>
    simp only [lexA,List.length_cons,lex,h]
    rw [lex_fuel r.length ((b :: r).drop n).length y _ (by rw [List.length_drop];simp at *;omega) (Nat.le_refl _)]
abbrev Told:=Tok × Int
def told (x : Lex) (l : List UInt8) : List Told:=(lexA x l).1.map (fun t=>(t,0)) ++ (if (lexA x l).2 = 0 then [] else [(((0,[]) : Tok),(lexA x l).2)])
theorem next_err_ne {x : Lex} {l : List UInt8} {e : Int} (h : next x l = .error e) : e = 11 ∨ e = 12 ∨ e = 21:=by
  unfold next at h
  cases hf : find (tried x) l with
  | none=>rw [hf] at h;simp only at h;cases h;split <;> simp
  | some p =>
    obtain ⟨k',n'⟩:=p
    rw [hf] at h
    simp only at h
    cases ht : turn x k' (l.take n') with
    | error e' =>
      rw [ht] at h;cases h
      unfold turn at ht
      repeat' split at ht
      all_goals first | (cases ht;simp;done) | cases ht
    | ok z=>rw [ht] at h;cases h
end Go.Proofs.Ythadnhpkeljdoaa.Lx
namespace Go.Proofs.Ythadnhpkeljdoaa.nd
open Go.RowKit sx
def RowAt (S : Nat → Prop) (W : World) (g : Nat) : Nat → Fo → Prop
  | _,.nil=>True
  | o,.cons k t kids r=>W.cell? ⟨g,o,none⟩ = some (.int .i64 k) ∧ W.cell? ⟨g,o + 1,none⟩ = some (.string t) ∧
      (∃ ao cap,W.cell? ⟨g,o + 2,none⟩ = some (.slice ao kids.len cap) ∧ (kids.len ≤ maxLen ∧ kids.len ≤ cap) ∧ (kids ≠ .nil → ∃ g' o',ao = some ⟨g',o',none⟩ ∧ S g' ∧ RowAt S W g' o' kids)) ∧ RowAt S W g (o + 3) r
def KidsAt (S : Nat → Prop) (W : World) (f : Fo) (v : Value) : Prop :=
  ∃ ao cap,v = .slice ao f.len cap ∧ (f.len ≤ maxLen ∧ f.len ≤ cap) ∧ (f ≠ .nil → ∃ g o,ao = some ⟨g,o,none⟩ ∧ S g ∧ RowAt S W g o f)
def NdAt (S : Nat → Prop) (W : World) (x : Nd) (v : Value) : Prop:=∃ s,v = .agg #[.int .i64 x.k,.string x.t,s] ∧ KidsAt S W x.kids s
theorem RowAt.keep {S S' : Nat → Prop} {W W' : World} (hS : ∀ k,S k → S' k) (h : ∀ k,S k → W'.heap[k]? = W.heap[k]?) : ∀ {f : Fo} {g o : Nat},RowAt S W g o f → W'.heap[g]? = W.heap[g]? → RowAt S' W' g o f
  | .nil,_,_,_,_=>trivial
  | .cons k t kids r,g,o,⟨h0,h1,⟨ao,cap,h2,hm,h3⟩,h4⟩,hg=>by
    have hc : ∀ j,W'.cell? ⟨g,j,none⟩ = W.cell? ⟨g,j,none⟩:=fun j=>by simp [World.cell?,hg]
    exact ⟨(hc _).trans h0,(hc _).trans h1,⟨ao,cap,(hc _).trans h2,hm,fun hn=>by
      obtain ⟨g',o',e,hs,hr⟩:=h3 hn
      exact ⟨g',o',e,hS _ hs,hr.keep hS h (h _ hs)⟩⟩,RowAt.keep hS h h4 hg⟩
theorem KidsAt.keep {S S' : Nat → Prop} {W W' : World} {f : Fo} {v : Value} (hk : KidsAt S W f v) (hS : ∀ k,S k → S' k) (h : ∀ k,S k → W'.heap[k]? = W.heap[k]?) : KidsAt S' W' f v:=by
  obtain ⟨ao,cap,e,hm,hr⟩:=hk
  exact ⟨ao,cap,e,hm,fun hn=>by
    obtain ⟨g,o,e',hs,hr'⟩:=hr hn
    exact ⟨g,o,e',hS _ hs,hr'.keep hS h (h _ hs)⟩⟩
theorem NdAt.keep {S S' : Nat → Prop} {W W' : World} {x : Nd} {v : Value} (hk : NdAt S W x v) (hS : ∀ k,S k → S' k) (h : ∀ k,S k → W'.heap[k]? = W.heap[k]?) : NdAt S' W' x v:=by
  obtain ⟨s,e,hs⟩:=hk
  exact ⟨s,e,hs.keep hS h⟩
abbrev Lt (n : Nat) (k : Nat) : Prop:=k < n
theorem KidsAt.below {n m : Nat} {W W' : World} {f : Fo} {v : Value} (h : KidsAt (Lt n) W f v) (hb : Below m W W') (hm : n ≤ m) : KidsAt (Lt n) W' f v:=h.keep (fun _ e=>e) (fun k hk=>hb.block k (Nat.lt_of_lt_of_le hk hm))
theorem RowAt.lt {S : Nat → Prop} {W : World} {g o : Nat} {f : Fo} (h : RowAt S W g o f) (hn : f ≠ .nil) : g < W.heap.size:=by
  cases f with
  | nil=>exact absurd rfl hn
  | cons k t kids r=>exact World.block_lt_of_cell? W _ h.1
theorem RowAt.toLt {S : Nat → Prop} {W : World} : ∀ {f : Fo} {g o : Nat},RowAt S W g o f → RowAt (Lt W.heap.size) W g o f
  | .nil,_,_,_=>trivial
  | .cons k t kids r,g,o,⟨h0,h1,⟨ao,cap,h2,hm,h3⟩,h4⟩=>⟨h0,h1,⟨ao,cap,h2,hm,fun hn=>by
      obtain ⟨g',o',e,hs,hr⟩:=h3 hn
      exact ⟨g',o',e,hr.lt hn,hr.toLt⟩⟩,h4.toLt⟩
theorem KidsAt.toLt {S : Nat → Prop} {W : World} {f : Fo} {v : Value} (h : KidsAt S W f v) : KidsAt (Lt W.heap.size) W f v:=by
  obtain ⟨ao,cap,e,hm,hr⟩:=h
  exact ⟨ao,cap,e,hm,fun hn=>by
    obtain ⟨g,o,e',hs,hr'⟩:=hr hn
    exact ⟨g,o,e',hr'.lt hn,hr'.toLt⟩⟩
theorem KidsAt.mono {n m : Nat} {W : World} {f : Fo} {v : Value} (h : KidsAt (Lt n) W f v) (hm : n ≤ m) : KidsAt (Lt m) W f v:=h.keep (fun _ e=>Nat.lt_of_lt_of_le e hm) (fun _ _=>rfl)
theorem NdAt.mono {n m : Nat} {W : World} {x : Nd} {v : Value} (h : NdAt (Lt n) W x v) (hm : n ≤ m) : NdAt (Lt m) W x v:=h.keep (fun _ e=>Nat.lt_of_lt_of_le e hm) (fun _ _=>rfl)
theorem RowAt.get {S : Nat → Prop} {W : World} {g : Nat} : ∀ {f : Fo} {o i : Nat} {x : Nd},RowAt S W g o f → f.get? i = some x →
    ∃ s,W.cell? ⟨g,o + i * 3,none⟩ = some (.int .i64 x.k) ∧ W.cell? ⟨g,o + i * 3 + 1,none⟩ = some (.string x.t) ∧ W.cell? ⟨g,o + i * 3 + 2,none⟩ = some s ∧ KidsAt S W x.kids s
  | .nil,_,_,_,_,h=>by cases h
  | .cons k t kids r,o,0,_,⟨h0,h1,⟨ao,cap,h2,hm,h3⟩,_⟩,h=>by
    cases h
    exact ⟨_,by simpa using h0,by simpa using h1,by simpa using h2,ao,cap,rfl,hm,h3⟩
  | .cons k t kids r,o,i + 1,x,⟨_,_,_,h4⟩,h=>by
    obtain ⟨s,a,b,c,d⟩:=RowAt.get (i:=i) (x:=x) h4 h
    have e : o + 3 + i * 3 = o + (i + 1) * 3:=by omega
    rw [e] at a b c
    exact ⟨s,a,b,c,d⟩
theorem RowAt.of {S : Nat → Prop} {W : World} {g : Nat} : ∀ {f : Fo} {o : Nat},(∀ i x,f.get? i = some x →
    ∃ s,W.cell? ⟨g,o + i * 3,none⟩ = some (.int .i64 x.k) ∧ W.cell? ⟨g,o + i * 3 + 1,none⟩ = some (.string x.t) ∧ W.cell? ⟨g,o + i * 3 + 2,none⟩ = some s ∧ KidsAt S W x.kids s) → RowAt S W g o f
  | .nil,_,_=>trivial
  | .cons k t kids r,o,h=>by
    obtain ⟨s,a,b,c,ao,cap,rfl,hm,hr⟩:=h 0 ⟨k,t,kids⟩ rfl
    refine ⟨by simpa using a,by simpa using b,⟨ao,cap,by simpa using c,hm,hr⟩,RowAt.of fun i x hi=>?_⟩
    obtain ⟨s,a,b,c,d⟩:=h (i + 1) x hi
    have e : o + (i + 1) * 3 = o + 3 + i * 3:=by omega
    rw [e] at a b c
    exact ⟨s,a,b,c,d⟩
theorem KidsAt.get {S : Nat → Prop} {W : World} {f : Fo} {ao : Option Addr} {len cap i : Nat} {x : Nd} (h : KidsAt S W f (.slice ao len cap)) (hx : f.get? i = some x) :
    ∃ g o ao' cap',ao = some ⟨g,o,none⟩ ∧ S g ∧ g < W.heap.size ∧ W.cell? ⟨g,o + i * 3,none⟩ = some (.int .i64 x.k) ∧ W.cell? ⟨g,o + i * 3 + 1,none⟩ = some (.string x.t) ∧ W.cell? ⟨g,o + i * 3 + 2,none⟩ = some (.slice ao' x.kids.len cap') ∧ KidsAt S W x.kids (.slice ao' x.kids.len cap'):=by
  obtain ⟨ao',cap',e,hm,hr⟩:=h
  cases e
  obtain ⟨g,o,e,hs,hr⟩:=hr (fun e=>by rw [e] at hx;cases hx)
  obtain ⟨s,a,b,c,d⟩:=hr.get hx
  obtain ⟨ao',cap',rfl,_⟩:=id d
  exact ⟨g,o,ao',cap',e,hs,World.block_lt_of_cell? W _ a,a,b,c,d⟩
theorem KidsAt.slice {S : Nat → Prop} {W : World} {f : Fo} {v : Value} (h : KidsAt S W f v) : ∃ ao cap,v = .slice ao f.len cap ∧ f.len ≤ maxLen:=by
  obtain ⟨ao,cap,e,hm,_⟩:=h
  exact ⟨ao,cap,e,hm.1⟩
theorem NdAt.mk {S : Nat → Prop} {W : World} {k : Int} {t : ByteArray} {f : Fo} {s : Value} (h : KidsAt S W f s) : NdAt S W ⟨k,t,f⟩ (.agg #[.int .i64 k,.string t,s]):=⟨s,rfl,h⟩
end Go.Proofs.Ythadnhpkeljdoaa.nd
namespace Go.Proofs.Ythadnhpkeljdoaa.nd
def Nd.isBr (x : Nd) : Bool:=x.k == 12 && x.kids.len == 1
def pickB (b : Bool) (k : Int) (t : ByteArray) : Fo → Fo → Fo
  | .cons k' t' kids' _,r=>if b then .cons k' t' kids' r else .cons k t (.cons k' t' kids' .nil) r
  | .nil,r=>.cons k t .nil r
def Fo.bare : Fo → Fo
  | .nil=>.nil
  | .cons k t kids r=>if k == 12 && kids.len == 1 then pickB true k t kids.bare r.bare else .cons k t kids.bare r.bare
def Nd.bare (x : Nd) : Nd:=((Fo.cons x.k x.t x.kids .nil).bare.get? 0).getD x
theorem pickB_len (k : Int) (t : ByteArray) (a r : Fo) : (pickB true k t a r).len = r.len + 1:=by cases a <;> rfl
theorem Fo.bare_len : ∀ f : Fo,f.bare.len = f.len
  | .nil=>rfl
  | .cons k t kids r=>by
    unfold Fo.bare
    split
    · rw [pickB_len,Fo.bare_len r];rfl
    · show r.bare.len + 1 = _;rw [Fo.bare_len r];rfl
theorem pickB_zero (k : Int) (t : ByteArray) (a r : Fo) : (pickB true k t a r).get? 0 = (pickB true k t a .nil).get? 0:=by cases a <;> rfl
theorem pickB_succ (k : Int) (t : ByteArray) (a r : Fo) (i : Nat) : (pickB true k t a r).get? (i + 1) = r.get? i:=by cases a <;> rfl
theorem bare_zero (k : Int) (t : ByteArray) (kids r : Fo) : (Fo.cons k t kids r).bare.get? 0 = some (Nd.bare ⟨k,t,kids⟩):=by
  unfold Nd.bare Fo.bare
  dsimp only
  split
  · rw [pickB_zero]
    cases kids.bare <;> rfl
  · rfl
theorem Fo.bare_get : ∀ {f : Fo} {i : Nat} {x : Nd},f.get? i = some x → f.bare.get? i = some x.bare
  | .nil,_,_,h=>by cases h
  | .cons k t kids r,0,_,h=>by cases h;exact bare_zero k t kids r
  | .cons k t kids r,i + 1,x,h=>by
    have ih:=Fo.bare_get (f:=r) (i:=i) (x:=x) h
    unfold Fo.bare
    split
    · rw [pickB_succ];exact ih
    · exact ih
theorem bare_cons (k : Int) (t : ByteArray) (kids r : Fo) : (Fo.cons k t kids r).bare = if k == 12 && kids.len == 1 then pickB true k t kids.bare r.bare else .cons k t kids.bare r.bare:=by
  conv=>lhs;unfold Fo.bare
theorem Nd.bare_br {x y : Nd} (h : x.isBr = true) (hy : x.kids.get? 0 = some y) : x.bare = y.bare:=by
  have e:=Fo.bare_get hy
  obtain ⟨k,t,kids⟩:=x
  have h : (k == 12 && kids.len == 1) = true:=h
  dsimp only at hy e
  show ((Fo.cons k t kids .nil).bare.get? 0).getD _ = _
  rw [bare_cons,if_pos h]
  cases hb : kids.bare with
  | nil=>rw [hb] at e;cases e
  | cons k' t' ks r =>
    rw [hb] at e
    have hr : (⟨k',t',ks⟩ : Nd) = y.bare:=Option.some.inj e
    rw [← hr]
    rfl
theorem Nd.bare_no {x : Nd} (h : x.isBr = false) : x.bare = ⟨x.k,x.t,x.kids.bare⟩:=by
  obtain ⟨k,t,kids⟩:=x
  have h : (k == 12 && kids.len == 1) = false:=h
  show ((Fo.cons k t kids .nil).bare.get? 0).getD _ = _
  rw [bare_cons,if_neg (by rw [h];exact Bool.false_ne_true)]
  rfl
end Go.Proofs.Ythadnhpkeljdoaa.nd
namespace Go.Proofs.Ythadnhpkeljdoaa.sx
open Go.RowKit
theorem row_own {β : Type} (base : Nat) (e : TypeId) (size : Nat) (f : β → Value) (n : β → Nat) (xs : β → List Value) : Own (fun b W=>W.ownsRow base e size (f b) (n b) (xs b)):=fun b X Y row h hg hrow=>by
 refine ⟨h.1,?_⟩
 rcases h.2 with hn | ⟨g,cap,cur,h1,h2,h3,h4⟩
 ·exact .inl hn
 ·exact .inr ⟨g,cap,cur,h1,h2,(hg.block g (Array.getElem?_eq_some_iff.1 h3).1 (fun e'=>by obtain ⟨o,ho,hc⟩:=hrow g e'.symm;rw [h3] at ho;cases ho;cases hc)).trans h3,h4⟩
section
variable {F : Fence} {n : Nat} {P : Program} {w : World}
end
end Go.Proofs.Ythadnhpkeljdoaa.sx
namespace Go.Proofs.Ythadnhpkeljdoaa.pr
open Go.RowKit Go.Shelf sx
theorem infoStr : (Try.prog.info? 9).map (fun i=>(i.zero,i.size,i.bytes)) = some (some (.string ⟨#[]⟩),1,16):=by kernel_rfl
def strs (l : List ByteArray) : List Value:=l.map .string
end Go.Proofs.Ythadnhpkeljdoaa.pr
namespace Go.Proofs.Ythadnhpkeljdoaa.sg
open Go.RowKit Go.Shelf
theorem lst_len (s : ByteArray) : s.data.toList.length = s.size:=by rw [Array.length_toList];rfl
end Go.Proofs.Ythadnhpkeljdoaa.sg
