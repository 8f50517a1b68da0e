/- Ground of the law: SeqX, SgSpec, UtfRune, NdSpec, RegionInv, Law, EdIn, EdBuild. -/
import Derived.RangeFuncNested
import Derived.RangeFuncBound
import Derived.RangeFuncCalls
import Derived.RangeFuncLeaves
import Derived.RangeFuncBox
import Derived.OwnWalkIn
import Derived.TacticsInMore
import Derived.Lib.Strings
import Derived.WalkKit
import Derived.Lib.Hide
import Derived.Lib.RuneCount
import Derived.Laws.RangeAny
import Derived.Test.YtlklhkkjcfmefaaGreatDoorQe00
import Derived.OrdersIn
import Derived.TacticsIn
import Derived.ProofKit
import Derived.OpenShut
import Derived.Carry
import Derived.ChangeMaps5
import Derived.ChangeSlices
import Derived.Test.YtlklhkkjcfmefaaGreatDoorRows
import Derived.Deep.QuietTactic
import Derived.BigQuiet
import Derived.Shelf.Strings.BuilderK
set_option maxRecDepth 100000
set_option maxHeartbeats 8000000
set_option linter.unusedVariables false
set_option linter.unusedSimpArgs false
namespace Go.Proofs.YtlklhkkjcfmefaaGreatDoor.sx
open Go.RowKit
structure But (B : Nat) (S : Nat → Prop) (w w' : World) : Prop where
 os : w'.os = w.os
 tape : w'.tape = w.tape
 output : w'.output = w.output
 size : w.heap.size ≤ w'.heap.size
 block : ∀ k,k < B → ¬ S k → w'.heap[k]? = w.heap[k]?
theorem But.refl (B : Nat) (S : Nat → Prop) (w : World) : But B S w w:=⟨rfl,rfl,rfl,Nat.le_refl _,fun _ _ _=>rfl⟩
theorem But.trans {B : Nat} {S : Nat → Prop} {a b c : World} (h : But B S a b) (k : But B S b c) : But B S a c :=
 ⟨k.os.trans h.os,k.tape.trans h.tape,k.output.trans h.output,Nat.le_trans h.size k.size,fun i hi hs=>(k.block i hi hs).trans (h.block i hi hs)⟩
theorem But.mono {B B' : Nat} {S S' : Nat → Prop} {a b : World} (h : But B S a b) (hB : B' ≤ B) (hS : ∀ k,k < B' → S k → S' k) : But B' S' a b :=
 ⟨h.os,h.tape,h.output,h.size,fun i hi hs=>h.block i (by omega) (fun e=>hs (hS i hi e))⟩
theorem But.of_below {B : Nat} {S : Nat → Prop} {a b : World} (h : Below B a b) : But B S a b:=⟨h.os,h.tape,h.output,h.size,fun k hk _=>h.block k hk⟩
theorem But.next {B : Nat} {S : Nat → Prop} {a b c : World} (h : But B S a b) (k : Below b.heap.size b c) (hB : B ≤ a.heap.size) : But B S a c :=
 h.trans (But.of_below (k.mono (Nat.le_trans hB h.size)))
theorem But.alloc {B : Nat} {S : Nat → Prop} {a b : World} (h : But B S a b) (hB : B ≤ a.heap.size) (o : Obj) : But B S a (b.alloc o) :=
 h.next ((Below.refl _ b).alloc (Nat.le_refl _) o) hB
theorem But.setCell {B : Nat} {S : Nat → Prop} {a b : World} (h : But B S a b) {p : Addr} (hp : p.block < B → S p.block) (v : Value) : But B S a (b.setCell p v) :=
 h.trans ⟨rfl,rfl,rfl,by simp,fun k hk hs=>Below.heap_setCell _ _ _ k (fun e=>by subst e;exact hs (hp hk))⟩
theorem But.drew {B : Nat} {S : Nat → Prop} {a b : World} (h : But B S a b) : But B S a b.drew:=h.trans ⟨rfl,rfl,rfl,Nat.le_refl _,fun _ _ _=>rfl⟩
theorem But.grown {B : Nat} {S : Nat → Prop} {a b c : World} {row : Option Nat} (h : But B S a b) (hg : b.grownBy c row) (hB : B ≤ a.heap.size) (hr : ∀ k,row = some k → k < B → S k) : But B S a c :=
 h.trans ⟨hg.os,hg.tape,hg.output,hg.size,fun k hk hs=>hg.block k (Nat.lt_of_lt_of_le hk (Nat.le_trans hB h.size)) (fun e=>hs (hr k e.symm hk))⟩
def Blk (W : World) (B : Nat) (t : TypeId) (vs : Array Value) : Prop:=W.heap[B]? = some (.cells vs t (0,0))
theorem Blk.lt {W : World} {B : Nat} {t : TypeId} {v : Array Value} (h : Blk W B t v) : B < W.heap.size:=(Array.getElem?_eq_some_iff.1 h).1
theorem Blk.cell {W : World} {B : Nat} {t : TypeId} {v : Array Value} (h : Blk W B t v) (i : Nat) : W.cell? ⟨B,i,none⟩ = v[i]?:=by simp [World.cell?,show W.heap[B]? = _ from h]
theorem Blk.frozen {W : World} {B : Nat} {t : TypeId} {v : Array Value} (h : Blk W B t v) (i : Nat) : W.frozen? ⟨B,i,none⟩ = false:=by simp [World.frozen?,show W.heap[B]? = _ from h]
theorem Blk.new (W : World) (t : TypeId) (v : Array Value) : Blk (W.alloc (.cells v t)) W.heap.size t v:=World.alloc_heap_new W _
theorem Blk.kept {W W' : World} {row : Option Nat} {B : Nat} {t : TypeId} {v : Array Value} (h : Blk W B t v) (hg : W.grownBy W' row) (hne : some B ≠ row) : Blk W' B t v:=(hg.block B h.lt hne).trans h
theorem Blk.alloc {W : World} {B : Nat} {t : TypeId} {v : Array Value} (h : Blk W B t v) (o : Obj) : Blk (W.alloc o) B t v:=h.kept (World.grownBy_alloc W o none) (by simp)
theorem blk_own {β : Type} (B : Nat) (t : TypeId) (f : β → Array Value) : Own (fun s W=>Blk W B t (f s)):=fun s X Y row hs hg hrow =>
 hs.kept hg (fun e'=>by obtain ⟨o,ho,hc⟩:=hrow B e'.symm;rw [show X.heap[B]? = _ from hs] at ho;cases ho;cases hc)
theorem Blk.below {W W' : World} {n B : Nat} {t : TypeId} {v : Array Value} (h : Blk W B t v) (hb : Below n W W') (hn : B < n) : Blk W' B t v:=(hb.block B hn).trans h
theorem Blk.own {W W' : World} {B : Nat} {t : TypeId} {v : Array Value} (h : Blk W B t v) (hb : Below W.heap.size W W') : Blk W' B t v:=h.below hb h.lt
theorem Blk.drew' {W : World} {B : Nat} {t : TypeId} {v : Array Value} (h : Blk W B t v) : Blk W.drew B t v:=h
theorem Blk.other {W : World} {B b o : Nat} {t : TypeId} {v : Array Value} (h : Blk W B t v) (hne : B ≠ b) (x : Value) : Blk (W.setCell ⟨b,o,none⟩ x) B t v :=
 (Below.heap_setCell _ _ _ B (fun e=>hne e)).trans h
theorem Blk.set {W : World} {B o : Nat} {t : TypeId} {v : Array Value} (h : Blk W B t v) (x : Value) : Blk (W.setCell ⟨B,o,none⟩ x) B t (v.setIfInBounds o x):=by
 unfold Blk at h ⊢
 show (W.heap.modify B _)[B]? = _
 rw [Array.getElem?_modify,if_pos rfl,h]
 rfl
theorem Blk.but {W W' : World} {S : Nat → Prop} {B : Nat} {t : TypeId} {v : Array Value} (h : Blk W B t v) (hb : But W.heap.size S W W') (hs : ¬ S B) : Blk W' B t v:=(hb.block B h.lt hs).trans h
def Ours (N : Nat) (T : TypeId) (W : World) (k : Nat) : Prop:=N ≤ k ∧ ∃ vs t f,W.heap[k]? = some (.cells vs t f) ∧ t ≠ T
theorem Ours.mono {N N' : Nat} {T : TypeId} {W : World} {k : Nat} (h : Ours N T W k) (hN : N' ≤ N) : Ours N' T W k:=⟨Nat.le_trans hN h.1,h.2⟩
theorem Blk.ours {W : World} {N B : Nat} {t T : TypeId} {v : Array Value} (h : Blk W B t v) (hN : N ≤ B) (ht : t ≠ T) : Ours N T W B:=⟨hN,v,t,(0,0),h,ht⟩
def AbX {β : Type} (N : Nat) (T : TypeId) (J : β → World → Prop) : Prop:=∀ s A B S,J s A → But A.heap.size S A B → (∀ k,S k → Ours N T A k) → J s B
theorem AbX.below {β : Type} {N : Nat} {T : TypeId} {J : β → World → Prop} (h : AbX N T J) {s : β} {A B : World} (hs : J s A) (hb : Below A.heap.size A B) : J s B :=
 h s A B (fun _=>False) hs (But.of_below hb) (fun _ e=>e.elim)
theorem AbX.and {β : Type} {N : Nat} {T : TypeId} {I I' : β → World → Prop} (h : AbX N T I) (h' : AbX N T I') : AbX N T (fun s W=>I s W ∧ I' s W):=fun s A B S hs hb hS=>⟨h s A B S hs.1 hb hS,h' s A B S hs.2 hb hS⟩
theorem abX_pure {β : Type} (N : Nat) (T : TypeId) (p : β → Prop) : AbX N T (fun s (_ : World)=>p s):=fun _ _ _ _ hs _ _=>hs
theorem abX_below {β : Type} {N : Nat} {T : TypeId} {n0 : Nat} {w : World} (h0 : n0 ≤ N) (hw : n0 ≤ w.heap.size) : AbX (β:=β) N T (fun _ W=>Below n0 w W):=fun s A B S hs hb hS =>
 hs.trans ⟨hb.os,hb.tape,hb.output,hb.size,fun k hk=>hb.block k (Nat.lt_of_lt_of_le hk (Nat.le_trans hw hs.size)) (fun e=>by have:=(hS k e).1;omega)⟩
theorem abX_boxed {β : Type} {N : Nat} {T : TypeId} {B : Nat} (hB : B < N) (t : TypeId) (f : β → Value) : AbX N T (fun s W=>Boxed W B t (f s)):=fun s X Y S hs hb hS =>
 (hb.block B (Boxed.lt hs) (fun e=>by have:=(hS B e).1;omega)).trans hs
def KX (n : Nat) (X : Nat → Prop) (T : TypeId) (W W' : World) : Prop:=Below n W W' ∧ ∀ k vs t,n ≤ k → ¬ X k → t ≠ T → Blk W k t vs → Blk W' k t vs
theorem KX.trans {n : Nat} {X : Nat → Prop} {T : TypeId} {A B C : World} (h : KX n X T A B) (k : KX n X T B C) : KX n X T A C:=⟨h.1.trans k.1,fun a b c d e f g=>k.2 a b c d e f (h.2 a b c d e f g)⟩
theorem KX.blk {n : Nat} {X : Nat → Prop} {T : TypeId} {W W' : World} {B : Nat} {t : TypeId} {v : Array Value} (h : KX n X T W W') (hb : Blk W B t v) (hX : ¬ X B) (ht : t ≠ T) : Blk W' B t v:=by
 rcases Nat.lt_or_ge B n with hl | hl
 ·exact hb.below h.1 hl
 ·exact h.2 _ _ _ hl hX ht hb
theorem KX.put {n : Nat} {X : Nat → Prop} {T : TypeId} {B : Nat} (hB : n ≤ B) (W : World) (l : Nat) (o o' : Obj) (hl : B ≤ l) (h : W.heap[l]? = some o) (hc : o.isCells = false) (hw : o.isWalk = false) : KX n X T W (W.putObj l o') :=
 ⟨(Below.refl n W).grown (grownBy_putObj' W l o') (by have:=(Array.getElem?_eq_some_iff.1 h).1;omega) (fun j e=>by cases e;omega),fun k vs t _ _ _ hb=>hb.kept (grownBy_putObj' _ l o') (fun e=>by cases e;rw [show W.heap[_]? = _ from hb] at h;cases h;cases hc)⟩
theorem KX.of_below {n : Nat} (X : Nat → Prop) (T : TypeId) {W W' : World} (h : Below W.heap.size W W') (hn : n ≤ W.heap.size) : KX n X T W W':=⟨h.mono hn,fun _ _ _ _ _ _ hb=>hb.own h⟩
theorem KX.alloc {n : Nat} (X : Nat → Prop) (T : TypeId) (W : World) (o : Obj) (h : n ≤ W.heap.size) : KX n X T W (W.alloc o):=KX.of_below X T ((Below.refl _ W).alloc (Nat.le_refl _) _) h
def SeqX {α : Type} (F : Fence) (n : Nat) (P : Program) (g : Nat) (lb : Array Value) (encs : α → Array Value) (T : TypeId) (Kp : World → World → Prop) (ys : List α) (w : World) : Prop :=
 ∀ (l : Nat) (J Jx : List α → World → Prop) (W : World),Below w.heap.size w W → AbX W.heap.size T J → AbX W.heap.size T Jx →
  (∀ pre x rest W1,ys = pre ++ x :: rest → J pre W1 → YieldAt F (n - 1) P l (encs x) W1 fun e W' =>
   (e = .returned (.bool true) ∧ J (pre ++ [x]) W' ∧ Kp W1 W') ∨ (e = .returned (.bool false) ∧ Jx (pre ++ [x]) W')) →
  J [] W → CallsIn F n P g (#[.func (.yield l) #[] #[]] ++ lb) W fun e W'=>(∃ v,e = .returned v) ∧ (J ys W' ∨ ∃ pre x rest,ys = pre ++ x :: rest ∧ Jx (pre ++ [x]) W')
section
variable {F : Fence} {n : Nat} {P : Program} {w : World}
theorem wpIn_rangeFunc_X {α : Type} {g : Operand} {ps : Array Tmp} {assign body : Code} {Q : Exit → Act → World → Prop} {a : Act}
  (hro : F.round = none) (h1 : 1 ≤ n) {gf : Nat} {lb : Array Value} (hg : a.eval g = .func (.func gf) #[] lb) (hFg : F.fn gf) (eg : ∀ args w,(callFunc gf args).run P w = .ok (.enter gf args) w)
  {encs : α → Array Value} {T : TypeId} {Kp : World → World → Prop} {ys : List α} {w0 : World} (hseq : SeqX F (n - 1) P gf lb encs T Kp ys w0)
  (hKt : ∀ {A B C : World},Kp A B → Kp B C → Kp A C) (hKb : ∀ (W : World) (l : Nat) (o o' : Obj),w.heap.size ≤ l → W.heap[l]? = some o → o.isCells = false → o.isWalk = false → Kp W (W.putObj l o'))
  (hb0 : Below w0.heap.size w0 w) (hps : ∀ x,(encs x).size = ps.size)
  (I : List α → World → Prop) (Ix : Code → List α → World → Prop) (hI : OwnFrom w.heap.size I) (hIx : ∀ c,OwnFrom w.heap.size (Ix c)) (hIa : AbX w.heap.size T I) (hIxa : ∀ c,AbX w.heap.size T (Ix c))
  (h0 : I [] w) (Ax : α → Act → World → Prop) (hAx : ∀ x a',OwnFrom w.heap.size (fun (_ : Unit) W=>Ax x a' W))
  (hassign : ∀ (l : Nat) (pre : List α) (x : α) (rest : List α) (W : World) (K : Act → World → Prop),ys = pre ++ x :: rest → I pre W → (∀ a' W',KeepsFrom w.heap.size W W' → Kp W W' → I pre W' → Ax x a' W' → K a' W') →
   assign.wpIn (F.inRound l) (n - 1 - 1) P (Exit.then K (fun _ _ _=>False)) { tmps:=(ps.zip (encs x)).foldl (fun t (p,v)=>t.setIfInBounds p v) a.tmps,defers:=[] } W)
  (hbody : ∀ (l : Nat) (pre : List α) (x : α) (rest : List α) (a' : Act) (W : World),ys = pre ++ x :: rest → w.heap.size ≤ l → (∃ r,W.heap[l]? = some (.loop r)) → I pre W → Ax x a' W →
   body.wpIn (F.inRound l) (n - 1 - 1) P (ownPostG w.heap.size Kp I Ix (pre ++ [x]) W) a' W)
  (hdone : ∀ (D : Nat) (W : World),w.heap.size ≤ D → I ys W → W.heap[D]? = some (.deferred (some [])) → Q .normal { a with defers:={ target:=.collected D,args:=#[] } :: a.defers } W)
  (hstop : ∀ (D : Nat) (c : Code) (pre : List α) (x : α) (rest : List α) (W : World),ys = pre ++ x :: rest → w.heap.size ≤ D → Ix c (pre ++ [x]) W → W.heap[D]? = some (.deferred (some [])) →
   c.wpIn F n P Q { a with defers:={ target:=.collected D,args:=#[] } :: a.defers } W) :
  (Code.rangeFunc g ps assign body).wpIn F n P Q a w:=by
 refine wpIn_rangeFunc ?_
 intro fn hfn
 rw [hro]
 obtain ⟨rec,hrec⟩ : ∃ rec : LoopState → Option Code → Loop,rec = fun st pe=>{ state:=st,pending:=pe,fn,tmps:=a.tmps,params:=ps,assign,body,defers:=w.heap.size }:=⟨_,rfl⟩
 obtain ⟨W1,hW1⟩ : ∃ W1,(w.alloc (.deferred (some []))).alloc (.loop (rec .ready none)) = W1:=⟨_,rfl⟩
 have hL1 : W1.heap[w.heap.size + 1]? = some (.loop (rec .ready none)):=by
  rw [← hW1];have:=World.alloc_heap_new (w.alloc (.deferred (some []))) (.loop (rec .ready none));rwa [World.size_alloc] at this
 have hK1 : W1.heap[w.heap.size]? = some (.deferred (some [])):=by
  rw [← hW1];exact (Below.heap_alloc _ _ _ (by simp)).trans (World.alloc_heap_new w _)
 have hI1 : I [] W1:=by rw [← hW1];exact hI.alloc _ (hI.alloc _ h0)
 have hs1 : W1.heap.size = w.heap.size + 2:=by rw [← hW1];simp
 have hb1 : Below w0.heap.size w0 W1:=by
  rw [← hW1];exact hb0.trans ((((Below.refl _ w).alloc (Nat.le_refl _) _).alloc (by simp) _).mono hb0.size)
 refine ⟨w.heap.size + 1,[{ target:=.collected w.heap.size,args:=#[] }],W1,{ target:=.fn (.func gf) lb,args:=#[.func (.yield (w.heap.size + 1)) #[] #[]] },W1,gf,
  #[.func (.yield (w.heap.size + 1)) #[] #[]] ++ lb,W1,?_,?_,?_,?_,fun _=>h1,?_⟩
 ·rw [← hW1,hrec];exact run_enterLoop_outer _ _ _ _ _
 ·simp only [resolve,hg]
  simp [go_sem]
 ·intro f' hf';simp [Target.leads] at hf';subst hf';exact hFg
 ·simp [invoke,go_sem,eg]
 ·have hkeep : ∀ {A B : World} {S : Nat → Prop} (hb : But A.heap.size S A B) (hS : ∀ k,S k → Ours W1.heap.size T A k) (k : Nat) (o : Obj),k < W1.heap.size → A.heap[k]? = some o → B.heap[k]? = some o :=
   fun hb hS k o hk ho=>(hb.block k (Array.getElem?_eq_some_iff.1 ho).1 (fun e=>by have:=(hS k e).1;omega)).trans ho
  refine (hseq (w.heap.size + 1)
   (fun pre W=>I pre W ∧ W.heap[w.heap.size + 1]? = some (.loop (rec .ready none)) ∧ W.heap[w.heap.size]? = some (.deferred (some [])))
   (fun pre W=>∃ c,Ix c pre W ∧ W.heap[w.heap.size + 1]? = some (.loop (rec .done (some c))) ∧ W.heap[w.heap.size]? = some (.deferred (some [])))
   W1 hb1
   (fun s A B S hs hb hS=>⟨hIa s A B S hs.1 hb (fun k e=>(hS k e).mono (by omega)),hkeep hb hS _ _ (by omega) hs.2.1,hkeep hb hS _ _ (by omega) hs.2.2⟩)
   (fun s A B S hs hb hS=>by
    obtain ⟨c,hc,hl,hk⟩:=hs
    exact ⟨c,hIxa c s A B S hc hb (fun k e=>(hS k e).mono (by omega)),hkeep hb hS _ _ (by omega) hl,hkeep hb hS _ _ (by omega) hk⟩)
   ?_ ⟨hI1,hL1,hK1⟩).mono ?_
  ·rintro pre x rest W hys ⟨hi,hl,hk⟩
   have hlt : w.heap.size + 1 < W.heap.size:=(Array.getElem?_eq_some_iff.1 hl).1
   have hy:=run_yield (P:=P) (args:=encs x) hl (by rw [hrec];exact hps x)
   rw [hrec] at hy
   refine ⟨fn,_,assign,body,hy,roundIn_of_wpIn hfn (hassign _ pre x rest W _ hys hi ?_)⟩
   clear hy
   intro a' Wa hkfa hkpa hia hax
   replace hl:=hkfa.same _ _ (by omega) hl rfl
   replace hk:=hkfa.same _ _ (Nat.le_refl _) hk rfl
   replace hlt : w.heap.size + 1 < Wa.heap.size:=(Array.getElem?_eq_some_iff.1 hl).1
   replace hi:=hia
   clear hia
   revert hkpa hkfa
   generalize W = Wb
   intro hkfa hkpa
   obtain ⟨W,rfl⟩ : ∃ W,W = Wa:=⟨_,rfl⟩
   refine ⟨_,run_beginRound hl (by rw [hrec]),?_⟩
   have hl2 : (W.putObj (w.heap.size + 1) (.loop { rec .ready none with state:=.busy })).heap[w.heap.size + 1]? = some (.loop { rec .ready none with state:=.busy }):=World.putObj_heap_same hlt
   have hk2 : (W.putObj (w.heap.size + 1) (.loop { rec .ready none with state:=.busy })).heap[w.heap.size]? = some (.deferred (some [])):=(World.putObj_heap_other (by omega)).trans hk
   have hw2 : Kp W (W.putObj (w.heap.size + 1) (.loop { rec .ready none with state:=.busy })):=hKb _ _ _ _ (by omega) hl rfl rfl
   refine wpIn_mono (hbody _ pre x rest a' _ hys (by omega) ⟨_,hl2⟩ (hI.putObj _ hi (by omega) hl rfl) ((hAx x a').putObj (s:=()) _ hax (by omega) hl rfl)) ?_
   have fin : ∀ (jump : Option Code) (W3 : World),KeepsFrom w.heap.size (W.putObj (w.heap.size + 1) (.loop { rec .ready none with state:=.busy })) W3 →
     (Instr.endRound (w.heap.size + 1) jump).run P W3 = .ok (.bool jump.isNone) (W3.putObj (w.heap.size + 1) (.loop (rec (if jump.isNone then .ready else .done) jump))) ∧
     W3.heap[w.heap.size + 1]? = some (.loop { rec .ready none with state:=.busy }) ∧
     (W3.putObj (w.heap.size + 1) (.loop (rec (if jump.isNone then .ready else .done) jump))).heap[w.heap.size + 1]? = some (.loop (rec (if jump.isNone then .ready else .done) jump)) ∧
     (W3.putObj (w.heap.size + 1) (.loop (rec (if jump.isNone then .ready else .done) jump))).heap[w.heap.size]? = some (.deferred (some [])):=fun jump W3 hk3=>by
    have hl3:=hk3.same _ _ (by omega) hl2 rfl
    have:=run_endRound (P:=P) jump hl3
    rw [hrec] at this ⊢
    exact ⟨this,by rw [hrec] at hl3;exact hl3,World.putObj_heap_same (Array.getElem?_eq_some_iff.1 hl3).1,(World.putObj_heap_other (by omega)).trans (hk3.same _ _ (Nat.le_refl _) hk2 rfl)⟩
   rintro e a3 W3 hp
   cases e with
   | normal =>
    obtain ⟨hk3,hkp3,hi3⟩:=hp
    obtain ⟨hr,hl3,hl4,hk4⟩:=fin none W3 hk3
    exact ⟨_,_,hr,.inl ⟨rfl,⟨hI.putObj _ hi3 (by omega) hl3 rfl,hl4,hk4⟩,hKt hkpa (hKt (hKt hw2 hkp3) (hKb _ _ _ _ (by omega) hl3 rfl rfl))⟩⟩
   | ret =>
    obtain ⟨hk3,hi3⟩:=hp
    obtain ⟨hr,hl3,hl4,hk4⟩:=fin (some .ret) W3 hk3
    exact ⟨_,_,hr,.inr ⟨rfl,.ret,(hIx _).putObj _ hi3 (by omega) hl3 rfl,hl4,hk4⟩⟩
   | exit id =>
    obtain ⟨hk3,hi3⟩:=hp
    obtain ⟨hr,hl3,hl4,hk4⟩:=fin (some (.exit id)) W3 hk3
    exact ⟨_,_,hr,.inr ⟨rfl,.exit id,(hIx _).putObj _ hi3 (by omega) hl3 rfl,hl4,hk4⟩⟩
   | goto t =>
    obtain ⟨hk3,hi3⟩:=hp
    obtain ⟨hr,hl3,hl4,hk4⟩:=fin (some (.goto t)) W3 hk3
    exact ⟨_,_,hr,.inr ⟨rfl,.goto t,(hIx _).putObj _ hi3 (by omega) hl3 rfl,hl4,hk4⟩⟩
   | panic ch=>exact hp.elim
   | outgrown=>exact hp.elim
  ·rintro e W2 ⟨⟨v,rfl⟩,(⟨hi,hl,hk⟩ | ⟨pre,x,rest,hys,c,hi,hl,hk⟩)⟩
   ·exact ⟨none,_,by have:=run_endLoop (P:=P) hl (by rw [hrec];simp);rw [hrec] at this;exact this,hdone _ _ (Nat.le_refl _) (hI.putObj _ hi (by omega) hl rfl) ((World.putObj_heap_other (by omega)).trans hk)⟩
   ·exact ⟨some c,_,by have:=run_endLoop (P:=P) hl (by rw [hrec];simp);rw [hrec] at this;exact this,hstop _ c pre x rest _ hys (Nat.le_refl _) ((hIx c).putObj _ hi (by omega) hl rfl) ((World.putObj_heap_other (by omega)).trans hk)⟩
end
end Go.Proofs.YtlklhkkjcfmefaaGreatDoor.sx
namespace Go.Proofs.YtlklhkkjcfmefaaGreatDoor.Sg
def cL (n : Int) : Bool:=n == 95 || (decide (97 ≤ n) && decide (n ≤ 122)) || (decide (65 ≤ n) && decide (n ≤ 90))
def cD (n : Int) : Bool:=decide (48 ≤ n) && decide (n ≤ 57)
def cB (n : Int) : Bool:=n == 32 || n == 9 || n == 10 || n == 13
def cW (n : Int) : Bool:=cL n || cD n
def cH (n : Int) : Bool:=cD n || (decide (97 ≤ n) && decide (n ≤ 102)) || (decide (65 ≤ n) && decide (n ≤ 70))
def run (p : Int → Bool) : List UInt8 → Nat
 | []=>0
 | b :: r=>if p (b.toNat : Int) then run p r + 1 else 0
def at' (p : Int → Bool) (l : List UInt8) (k : Nat) : Bool:=decide (k < l.length) && p ((l.getD k 0).toNat : Int)
theorem run_le (p : Int → Bool) (l : List UInt8) : run p l ≤ l.length:=by
 induction l with
 | nil=>exact Nat.le_refl _
 | cons b r ih=>simp only [run,List.length_cons];split <;> omega
theorem run_step (p : Int → Bool) (l : List UInt8) (k : Nat) : run p l = run p (l.take k) + (if run p (l.take k) = min k l.length then run p (l.drop k) else 0):=by
 induction l generalizing k with
 | nil=>simp [run]
 | cons b r ih =>
  cases k with
  | zero=>simp [run]
  | succ k =>
   have h:=ih k
   have hl:=run_le p (r.take k)
   rw [List.length_take] at hl
   simp only [List.take_succ_cons,List.drop_succ_cons,run,List.length_cons]
   split
   ·rename_i hp
    rw [h]
    by_cases e : run p (r.take k) = min k r.length
    ·rw [if_pos e,if_pos (by omega)];omega
    ·rw [if_neg e,if_neg (by omega)]
   ·rw [if_neg (by omega)]
def stop (p : Int → Bool) (r : List UInt8) : Prop:=∀ b,r.head? = some b → p (b.toNat : Int) = false
theorem stop_nil (p : Int → Bool) : stop p []:=by simp [stop]
theorem stop_cons {p : Int → Bool} {b : UInt8} (h : p (b.toNat : Int) = false) (r : List UInt8) : stop p (b :: r):=by simp [stop,h]
theorem run_stop {p : Int → Bool} {r : List UInt8} (h : stop p r) : run p r = 0:=by
 cases r with
 | nil=>rfl
 | cons b r=>simp only [run];rw [h b rfl];rfl
theorem run_all {p : Int → Bool} {l : List UInt8} (h : run p l = l.length) (r : List UInt8) : run p (l ++ r) = l.length + run p r:=by
 induction l with
 | nil=>simp
 | cons b t ih =>
  simp only [run,List.length_cons,List.cons_append] at h ⊢
  split at h
  ·rename_i hp
   rw [if_pos hp,ih (by omega)];omega
  ·omega
theorem run_drop_stop (p : Int → Bool) (l : List UInt8) : stop p (l.drop (run p l)):=by
 induction l with
 | nil=>exact stop_nil p
 | cons b r ih =>
  simp only [run]
  split
  ·exact ih
  ·rename_i h;exact stop_cons (by simpa using h) r
theorem run_eq {p : Int → Bool} {l : List UInt8} {k : Nat} (h : run p (l.take k) = k) (hs : stop p (l.drop k)) : run p l = k:=by
 have:=run_step p l k
 rw [h,run_stop hs] at this
 split at this <;> omega
theorem run_snoc {p : Int → Bool} {l : List UInt8} {k : Nat} (hk : k < l.length) (h : run p (l.take k) = k) (hp : p ((l.getD k 0).toNat : Int) = true) : run p (l.take (k + 1)) = k + 1:=by
 rw [List.take_succ_eq_append_getElem hk]
 have hl : (l.take k).length = k:=by rw [List.length_take];omega
 rw [run_all (by rw [h,hl]),hl]
 have e : l.getD k 0 = l[k]:=by simp [List.getD,hk]
 rw [e] at hp
 simp [run,hp]
theorem drop_head {l : List UInt8} {k : Nat} (hk : k < l.length) : l.drop k = l.getD k 0 :: l.drop (k + 1):=by
 have e : l.getD k 0 = l[k]:=by simp [List.getD,hk]
 rw [e];exact List.drop_eq_getElem_cons hk
def simple (l : List UInt8) : Nat:=if at' cL l 0 then run cW l else 0
def further (l : List UInt8) : Nat:=if Lib.hasPrefix l [58,58] then (if simple (l.drop 2) = 0 then 0 else 2 + simple (l.drop 2)) else 0
def tail : Nat → List UInt8 → Nat
 | 0,_=>0
 | f + 1,l=>if further l = 0 then 0 else further l + tail f (l.drop (further l))
def word (l : List UInt8) : Nat:=if simple l = 0 then 0 else simple l + tail l.length (l.drop (simple l))
def decimal (l : List UInt8) : Nat :=
 if at' (· == 46) l (run cD l) then
  (if run cD l + run cD (l.drop (run cD l + 1)) = 0 then 0 else run cD l + 1 + run cD (l.drop (run cD l + 1)))
 else run cD l
def signs (l : List UInt8) : Nat:=if at' (fun n=>n == 43 || n == 45) l 1 then 2 else 1
def exponent (l : List UInt8) : Nat :=
 if at' (fun n=>n == 101 || n == 69) l 0 then (if run cD (l.drop (signs l)) = 0 then 0 else signs l + run cD (l.drop (signs l))) else 0
def number (l : List UInt8) : Nat:=if decimal l = 0 then 0 else decimal l + exponent (l.drop (decimal l))
def opers : List (List UInt8):=[[63,47,47],[47,47,61],[33,61],[61,61],[60,61],[62,61],[124,61],[43,61],[45,61],[42,61],[47,61],[37,61],[47,47],[46,46],
 [46],[91],[93],[40],[41],[123],[125],[44],[58],[59],[61],[124],[43],[45],[42],[47],[37],[60],[62],[63]]
def oper (l : List UInt8) : Nat:=match opers.find? (fun o=>Lib.hasPrefix l o) with
 | some o=>o.length
 | none=>0
def cE (n : Int) : Bool:=n == 34 || n == 92 || n == 47 || n == 98 || n == 102 || n == 110 || n == 114 || n == 116
def escape (l : List UInt8) : Nat:=if at' (· == 92) l 0 then (if at' cE l 1 then 2 else if at' (· == 117) l 1 && decide (4 ≤ run cH (l.drop 2)) then 6 else 0) else 0
def keys : List (List UInt8):=[[97,110,100],[97,115],[98,114,101,97,107],[99,97,116,99,104],[100,101,102],[101,108,105,102],[101,108,115,101],[101,110,100],[102,111,114,101,97,99,104],[105,102],[105,109,112,111,114,116],[105,110,99,108,117,100,101],[108,97,98,101,108],[109,111,100,117,108,101],[111,114],[114,101,100,117,99,101],[116,104,101,110],[116,114,121]]
def key (l : List UInt8) : Bool:=keys.contains l
def plain (l : List UInt8) : Bool:=!l.isEmpty && decide (simple l = l.length) && !key l
theorem simple_le (l : List UInt8) : simple l ≤ l.length:=by unfold simple;split;exact run_le _ _;exact Nat.zero_le _
theorem further_le (l : List UInt8) : further l ≤ l.length:=by
 unfold further
 split
 ·rename_i h
  have:=simple_le (l.drop 2)
  rw [List.length_drop] at this
  split
  ·exact Nat.zero_le _
  ·omega
 ·exact Nat.zero_le _
theorem tail_le (f : Nat) (l : List UInt8) : tail f l ≤ l.length:=by
 induction f generalizing l with
 | zero=>exact Nat.zero_le _
 | succ f ih =>
  simp only [tail]
  have h:=further_le l
  have:=ih (l.drop (further l))
  rw [List.length_drop] at this
  split <;> omega
theorem word_le (l : List UInt8) : word l ≤ l.length:=by
 unfold word
 have h:=simple_le l
 have:=tail_le l.length (l.drop (simple l))
 rw [List.length_drop] at this
 split <;> omega
theorem decimal_le (l : List UInt8) : decimal l ≤ l.length:=by
 unfold decimal at'
 have h:=run_le cD l
 have h2:=run_le cD (l.drop (run cD l + 1))
 rw [List.length_drop] at h2
 split
 ·rename_i hp
  rw [Bool.and_eq_true,decide_eq_true_eq] at hp
  split <;> omega
 ·exact h
theorem signs_le (l : List UInt8) (h : at' (fun n=>n == 101 || n == 69) l 0 = true) : signs l ≤ l.length:=by
 unfold signs
 unfold at' at h ⊢
 rw [Bool.and_eq_true,decide_eq_true_eq] at h
 split
 ·rename_i hp;rw [Bool.and_eq_true,decide_eq_true_eq] at hp;omega
 ·omega
theorem exponent_le (l : List UInt8) : exponent l ≤ l.length:=by
 unfold exponent
 split
 ·rename_i h
  have h1:=signs_le l h
  have h2:=run_le cD (l.drop (signs l))
  rw [List.length_drop] at h2
  split <;> omega
 ·exact Nat.zero_le _
theorem number_le (l : List UInt8) : number l ≤ l.length:=by
 unfold number
 have h:=decimal_le l
 have h2:=exponent_le (l.drop (decimal l))
 rw [List.length_drop] at h2
 split <;> omega
theorem pre_length {l o : List UInt8} (h : Lib.hasPrefix l o = true) : o.length ≤ l.length:=by
 unfold Lib.hasPrefix at h
 exact (List.isPrefixOf_iff_prefix.1 h).length_le
theorem oper_le (l : List UInt8) : oper l ≤ l.length:=by
 unfold oper
 cases h : opers.find? (fun o=>Lib.hasPrefix l o) with
 | none=>exact Nat.zero_le _
 | some o=>exact pre_length (List.find?_some h)
theorem escape_le (l : List UInt8) : escape l ≤ l.length:=by
 unfold escape
 have h2:=run_le cH (l.drop 2)
 rw [List.length_drop] at h2
 split
 ·split
  ·rename_i hp;unfold at' at hp;rw [Bool.and_eq_true,decide_eq_true_eq] at hp;omega
  ·split
   ·rename_i hp;rw [Bool.and_eq_true,decide_eq_true_eq] at hp;omega
   ·omega
 ·omega
theorem at_lt {p : Int → Bool} {l : List UInt8} {k : Nat} (h : at' p l k = true) : k < l.length:=by
 unfold at' at h;rw [Bool.and_eq_true,decide_eq_true_eq] at h;exact h.1
end Go.Proofs.YtlklhkkjcfmefaaGreatDoor.Sg
namespace Go.Proofs.YtlklhkkjcfmefaaGreatDoor.utf
open Go.Lib (hid)
open Go.RowKit
theorem extract_drop (s : ByteArray) (k : Nat) : (s.extract k s.size).data.toList = s.data.toList.drop k:=by
 rw [ByteArray.data_extract,Array.toList_extract]
 have e : s.size = s.data.toList.length:=by rw [Array.length_toList];rfl
 rw [List.extract_eq_take_drop,e,List.take_of_length_le (by simp)]
theorem size_toList (s : ByteArray) : s.data.toList.length = s.size:=by rw [Array.length_toList];rfl
def runeBad (s : ByteArray) (pos : Nat) : Bool:=((Utf8.decode s pos).1 == 65533) && !(Lib.hasPrefix (s.data.toList.drop pos) [239,191,189])
def checkFrom (s : ByteArray) : Nat → Nat → Int
 | 0,_=>-1
 | b + 1,pos=>if pos < s.size then (if runeBad s pos then (pos : Int) else checkFrom s b (pos + (Utf8.decode s pos).2)) else -1
theorem checkFrom_end (s : ByteArray) (b pos : Nat) (h : ¬ pos < s.size) : checkFrom s b pos = -1:=by cases b <;> simp [checkFrom,h]
def checkF (s : ByteArray) : Int:=checkFrom s s.size 0
theorem below_iter (w : World) (s : ByteArray) (pos : Nat) : Below w.heap.size w (w.iter s pos):=(Below.refl _ w).alloc (Nat.le_refl _) _
theorem pref_calls (s : ByteArray) (k : Nat) (r : Bool) (h : Lib.hasPrefix (s.data.toList.drop k) [239,191,189] = r) (w : World) :
  Calls Tryz.prog 94 #[.string (s.extract k s.size),.string ⟨#[239,191,189]⟩] w fun e w'=>e = .returned (.bool r) ∧ w = w':=by
 refine (Tryz.strings_HasPrefix (s.extract k s.size) ⟨#[239,191,189]⟩ w).mono ?_
 rintro e w' ⟨rfl,rfl⟩
 rw [extract_drop]
 exact ⟨by rw [← h],rfl⟩
theorem check_calls' (s : ByteArray) (hs : s.size ≤ 140737488351232) (w : World) :
  Calls Tryz.prog 51 #[.string s] w fun e w'=>e = .returned (.int .i64 (checkF s)) ∧ ∃ pos,w' = w.iter s pos:=by
 go_enter Tryz.func51,Tryz.ntmps51
 go_wp2
 go_loopw [] (fun w'=>∃ (pos b : Nat),w' = w.iter s pos ∧ checkFrom s b pos = checkF s ∧ s.size ≤ pos + b) (fun w'=>s.size - w'.iterPos w.heap.size)
 case atStart=>exact ⟨0,s.size,rfl,rfl,by omega⟩
 case round =>
  obtain ⟨pos,b,rfl,hc,hb⟩:=hrel
  have HC:=hid hc
  clear hc
  by_cases hp : pos < s.size
  ·have hnx : ∀ ty,(Instr.next (.pointer (some ⟨w.heap.size,0,none⟩)) true ty).run Tryz.prog (w.iter s pos) = _:=fun ty=>run_next_any w s pos ty hp
   have hwd:=Lib.decode_width_pos s pos hp
   obtain ⟨b,rfl⟩ : ∃ b',b = b' + 1:=⟨b - 1,by omega⟩
   have hle : (pos : Int) ≤ (s.size : Int):=by omega
   cases hr : (((Utf8.decode s pos).1 : Int) == 65533) with
   | false =>
    have HB:=hid (show checkFrom s (b + 1) pos = checkFrom s b (pos + (Utf8.decode s pos).2) from by
     have hr' : ((Utf8.decode s pos).1 == 65533) = false:=by rw [beq_eq_false_iff_ne] at hr ⊢;omega
     simp [checkFrom,hp,runeBad,hr'])
    go_wp2
    go_roundw
    case rel=>exact ⟨_,b,rfl,by rw [← HB.out,HC.out],by omega⟩
    case measure=>simp;omega
   | true =>
    have hr' : ((Utf8.decode s pos).1 == 65533) = true:=by rw [beq_iff_eq] at hr ⊢;omega
    cases hq : Lib.hasPrefix (s.data.toList.drop pos) [239,191,189] with
    | true =>
     have HB:=hid (show checkFrom s (b + 1) pos = checkFrom s b (pos + (Utf8.decode s pos).2) from by
      simp [checkFrom,hp,runeBad,hq])
     have hpc:=pref_calls s pos true hq
     have HQ:=hid hq
     clear hq hr'
     go_wp2_with (go_at_call 94;refine (hpc _).mono ?_;rintro e w' ⟨rfl,rfl⟩)
     go_roundw
     case rel=>exact ⟨_,b,rfl,by rw [← HB.out,HC.out],by omega⟩
     case measure=>simp;omega
    | false =>
     have HB:=hid (show checkFrom s (b + 1) pos = (pos : Int) from by simp [checkFrom,hp,runeBad,hr',hq])
     have hpc:=pref_calls s pos false hq
     have HQ:=hid hq
     clear hq hr'
     go_wp2_with (go_at_call 94;refine (hpc _).mono ?_;rintro e w' ⟨rfl,rfl⟩)
     go_ret
     exact ⟨by rw [← HC.out,HB.out];rfl,_,rfl⟩
  ·have hnx : ∀ ty,(Instr.next (.pointer (some ⟨w.heap.size,0,none⟩)) true ty).run Tryz.prog (w.iter s pos) = _:=fun ty=>run_next_end w s pos ty hp
   have HB:=hid (checkFrom_end s b pos hp)
   go_wp2
   go_ret
   exact ⟨by rw [← HC.out,HB.out];rfl,_,rfl⟩
theorem check_calls (s : ByteArray) (hs : s.size ≤ 140737488351232) (w : World) :
  Calls Tryz.prog 51 #[.string s] w fun e w'=>e = .returned (.int .i64 (checkF s)) ∧ Below w.heap.size w w' :=
 (check_calls' s hs w).mono fun e w' ⟨he,pos,hw⟩=>⟨he,by rw [hw];exact below_iter w s pos⟩
end Go.Proofs.YtlklhkkjcfmefaaGreatDoor.utf
namespace Go.Proofs.YtlklhkkjcfmefaaGreatDoor.nd
inductive Fo where
 | nil
 | cons (k : Int) (t : ByteArray) (kids rest : Fo)
structure Nd where
 k : Int
 t : ByteArray
 kids : Fo
namespace Fo
def len : Fo → Nat
 | nil=>0
 | cons _ _ _ r=>r.len + 1
def get? : Fo → Nat → Option Nd
 | nil,_=>none
 | cons k t kids _,0=>some ⟨k,t,kids⟩
 | cons _ _ _ r,i + 1=>r.get? i
def toL : Fo → List Nd
 | nil=>[]
 | cons k t kids r=>⟨k,t,kids⟩ :: r.toL
def ofL : List Nd → Fo
 | []=>nil
 | x :: r=>cons x.k x.t x.kids (ofL r)
def app : Fo → Fo → Fo
 | nil,g=>g
 | cons k t kids r,g=>cons k t kids (r.app g)
def All (p : Nd → Prop) : Fo → Prop
 | nil=>True
 | cons k t kids r=>p ⟨k,t,kids⟩ ∧ r.All p
theorem All.get {p : Nd → Prop} : ∀ {f : Fo} {i : Nat} {x : Nd},f.All p → f.get? i = some x → p x
 | nil,_,_,_,h=>by cases h
 | cons _ _ _ _,0,_,ha,h=>by cases h;exact ha.1
 | cons _ _ _ r,i + 1,_,ha,h=>All.get (f:=r) ha.2 h
theorem All.of {p : Nd → Prop} (h : ∀ x,p x) : ∀ f : Fo,f.All p
 | nil=>trivial
 | cons _ _ _ r=>⟨h _,All.of h r⟩
theorem get_lt : ∀ {f : Fo} {i : Nat} {x : Nd},f.get? i = some x → i < f.len
 | nil,_,_,h=>by cases h
 | cons _ _ _ _,0,_,_=>by simp [len]
 | cons _ _ _ r,i + 1,_,h=>by have:=get_lt (f:=r) h;simp [len];omega
theorem get_of_lt : ∀ {f : Fo} {i : Nat},i < f.len → ∃ x,f.get? i = some x
 | nil,_,h=>by simp [len] at h
 | cons _ _ _ _,0,_=>⟨_,rfl⟩
 | cons _ _ _ r,i + 1,h=>get_of_lt (f:=r) (by simp [len] at h;omega)
theorem toL_len : ∀ f : Fo,f.toL.length = f.len
 | nil=>rfl
 | cons _ _ _ r=>by simp [toL,len,toL_len r]
theorem toL_get : ∀ (f : Fo) (i : Nat),f.toL[i]? = f.get? i
 | nil,_=>by simp [toL,get?]
 | cons _ _ _ _,0=>by simp [toL,get?]
 | cons _ _ _ r,i + 1=>by simp [toL,get?,toL_get r i]
theorem toL_ofL : ∀ l : List Nd,(ofL l).toL = l
 | []=>rfl
 | _ :: r=>by simp [toL,ofL,toL_ofL r]
theorem ofL_len (l : List Nd) : (ofL l).len = l.length:=by rw [← toL_len,toL_ofL]
theorem ofL_get (l : List Nd) (i : Nat) : (ofL l).get? i = l[i]?:=by rw [← toL_get,toL_ofL]
theorem ofL_append (a b : List Nd) : ofL (a ++ b) = (ofL a).app (ofL b):=by
 induction a with
 | nil=>rfl
 | cons x r ih=>simp [ofL,app,ih]
theorem len_zero {f : Fo} (h : f.len = 0) : f = nil:=by
 cases f with
 | nil=>rfl
 | cons _ _ _ _=>simp [len] at h
theorem ext : ∀ {f g : Fo},f.len = g.len → (∀ i,i < f.len → f.get? i = g.get? i) → f = g
 | nil,nil,_,_=>rfl
 | nil,cons _ _ _ _,h,_=>by simp [len] at h
 | cons _ _ _ _,nil,h,_=>by simp [len] at h
 | cons k t kids r,cons k' t' kids' r',h,hg=>by
  have h0:=hg 0 (by simp [len])
  simp only [get?,Option.some.injEq,Nd.mk.injEq] at h0
  obtain ⟨rfl,rfl,rfl⟩:=h0
  rw [ext (f:=r) (g:=r') (by simpa [len] using h) (fun i hi=>by simpa [get?] using hg (i + 1) (by simp [len];omega))]
end Fo
namespace Nd
theorem induct {p : Nd → Prop} (h : ∀ x : Nd,x.kids.All p → p x) : ∀ x : Nd,p x:=by
 have key : ∀ f : Fo,f.All p:=by
  intro f
  induction f with
  | nil=>trivial
  | cons k t kids r ih1 ih2=>exact ⟨h ⟨k,t,kids⟩ ih1,ih2⟩
 intro x
 exact h x (key x.kids)
end Nd
def Fo.same : Fo → Fo → Bool
 | .nil,.nil=>true
 | .cons k t kids r,.cons k' t' kids' r'=>k == k' && (t.toList == t'.toList) && kids.same kids' && r.same r'
 | _,_=>false
def Nd.same (x y : Nd) : Bool:=x.k == y.k && (x.t.toList == y.t.toList) && x.kids.same y.kids
theorem bytes_inj {s t : ByteArray} (h : s.toList = t.toList) : s = t:=by
 rw [ByteArray.toList_eq,ByteArray.toList_eq] at h
 exact ByteArray.ext (Array.ext' h)
theorem Fo.same_iff : ∀ {f g : Fo},f.same g = true ↔ f = g
 | .nil,.nil=>by simp [Fo.same]
 | .nil,.cons _ _ _ _=>by simp [Fo.same]
 | .cons _ _ _ _,.nil=>by simp [Fo.same]
 | .cons k t kids r,.cons k' t' kids' r'=>by
  simp only [Fo.same,Bool.and_eq_true,beq_iff_eq,Fo.same_iff (f:=kids),Fo.same_iff (f:=r),Fo.cons.injEq]
  exact ⟨fun ⟨⟨⟨h1,h2⟩,h3⟩,h4⟩=>⟨h1,bytes_inj h2,h3,h4⟩,fun ⟨h1,h2,h3,h4⟩=>⟨⟨⟨h1,by rw [h2]⟩,h3⟩,h4⟩⟩
theorem Nd.same_iff {x y : Nd} : x.same y = true ↔ x = y:=by
 obtain ⟨k,t,f⟩:=x
 obtain ⟨k',t',f'⟩:=y
 simp only [Nd.same,Bool.and_eq_true,beq_iff_eq,Fo.same_iff,Nd.mk.injEq]
 exact ⟨fun ⟨⟨h1,h2⟩,h3⟩=>⟨h1,bytes_inj h2,h3⟩,fun ⟨h1,h2,h3⟩=>⟨⟨h1,by rw [h2]⟩,h3⟩⟩
theorem Nd.same_self (x : Nd) : x.same x = true:=Nd.same_iff.2 rfl
end Go.Proofs.YtlklhkkjcfmefaaGreatDoor.nd
namespace Go.Proofs.YtlklhkkjcfmefaaGreatDoor.rinv
section
variable {F : Fence} {n : Nat} {P : Program} {ops : Array Oper} {Q : Exit → Act → World → Prop} {md : Region.Mode}
def done (listed : Array Bool) (k : Nat) : Bool:=listed.getD k false
theorem ready_mem {listed : Array Bool} {i : Nat} (h : i ∈ Region.ready md ops listed) :
  i < ops.size ∧ listed.getD i true = false ∧ ((ops[i]?).map (·.after.all fun e=>!Region.binds md e || done listed e.on)).getD false = true:=by
 unfold Region.ready at h
 rw [List.mem_filter,List.mem_range] at h
 simp only [Bool.and_eq_true,Bool.not_eq_true'] at h
 exact ⟨h.1,h.2.1,h.2.2⟩
theorem ready_of {listed : Array Bool} {i : Nat} (hi : i < ops.size) (hs : listed.size = ops.size) (hd : done listed i = false) (ha : ((ops[i]?).map (·.after.all fun e=>!Region.binds md e || done listed e.on)).getD false = true) : i ∈ Region.ready md ops listed:=by
 unfold Region.ready
 rw [List.mem_filter,List.mem_range]
 refine ⟨hi,?_⟩
 simp only [Bool.and_eq_true,Bool.not_eq_true']
 refine ⟨?_,ha⟩
 unfold done at hd
 rw [Array.getD_eq_getD_getElem?,Array.getElem?_eq_getElem (by omega)] at hd ⊢
 exact hd
theorem count_set {l : List Bool} {i : Nat} (h : l[i]? = some false) : (l.set i true).count false + 1 = l.count false:=by
 induction l generalizing i with
 | nil=>simp at h
 | cons b r ih =>
  cases i with
  | zero=>simp at h;subst h;simp
  | succ i =>
   have h' : r[i]? = some false:=by simpa using h
   have:=ih h'
   simp only [List.set_cons_succ,List.count_cons]
   omega
theorem wpAnyIn_inv (Inv : Array Bool → Act → World → Prop)
  (hstep : ∀ listed a w i,Inv listed a w → i ∈ Region.ready md ops listed → wpOpIn F n P ops Q i (Inv (listed.setIfInBounds i true)) a w)
  (hend : ∀ listed a w,Inv listed a w → Region.ready md ops listed = [] → Q .normal a w) :
  ∀ fuel listed a w,listed.toList.count false ≤ fuel → Inv listed a w → wpAnyIn F n P md ops Q fuel listed a w:=by
 have hdown : ∀ (listed : Array Bool) i,i ∈ Region.ready md ops listed → (listed.setIfInBounds i true).toList.count false + 1 = listed.toList.count false:=by
  intro listed i hi
  obtain ⟨_,h2,_⟩:=ready_mem hi
  rw [Array.toList_setIfInBounds]
  refine count_set ?_
  cases hq : listed[i]? with
  | none=>simp [Array.getD_eq_getD_getElem?,hq] at h2
  | some b =>
   have : b = false:=by simpa [Array.getD_eq_getD_getElem?,hq] using h2
   rw [← Array.getElem?_toList] at hq
   rw [hq,this]
 intro fuel
 induction fuel with
 | zero =>
  intro listed a w hc hI
  have hr : Region.ready md ops listed = []:=by
   cases hr : Region.ready md ops listed with
   | nil=>rfl
   | cons i r =>
    have:=hdown listed i (by rw [hr];exact List.mem_cons_self ..)
    omega
  exact ⟨hr,hend listed a w hI hr⟩
 | succ fuel ih =>
  intro listed a w hc hI
  refine ⟨fun hr=>hend listed a w hI hr,fun i hi=>?_⟩
  have:=hdown listed i hi
  exact wpOpIn_mono (fun a' w' h=>ih _ a' w' (by omega) h) (hstep listed a w i hI hi)
theorem wpOpIn_of_list {i : Nat} {o : Oper} {K : Act → World → Prop} {a : Act} {w : World} (ho : ops[i]? = some o) (h : wpListIn F n P ops (Exit.then K Q) [o] a w) : wpOpIn F n P ops Q i K a w:=by
 unfold wpOpIn
 rw [ho]
 simp only [wpListIn] at h ⊢
 have key : ∀ r : Result Next,Oper.uponIn F n P o a (fun a w=>Exit.then K Q .normal a w) (Exit.then K Q) r → Oper.uponIn F n P o a K Q r:=by
  intro r h
  cases r with
  | ok x w'=>cases x <;> exact h
  | halt x w'=>cases x <;> exact h
 split
 ·rename_i hw
  rw [if_pos hw] at h
  exact ⟨h.1,key _ h.2⟩
 ·rename_i hw
  rw [if_neg hw] at h
  exact h
theorem done_set {listed : Array Bool} {i : Nat} (h : listed.getD i true = false) (k : Nat) : done (listed.setIfInBounds i true) k = ((k == i) || done listed k):=by
 unfold done
 have hi : i < listed.size:=by
  rcases Nat.lt_or_ge i listed.size with h' | h'
  ·exact h'
  ·simp [Array.getD_eq_getD_getElem?,Array.getElem?_eq_none h'] at h
 by_cases e : k = i
 ·subst e
  simp [Array.getD_eq_getD_getElem?,hi]
 ·simp [Array.getD_eq_getD_getElem?,e,Ne.symm e]
theorem done_not {listed : Array Bool} {i : Nat} (h : listed.getD i true = false) : done listed i = false:=by
 unfold done
 rw [Array.getD_eq_getD_getElem?] at h ⊢
 cases hq : listed[i]? with
 | none=>rfl
 | some b=>rw [hq] at h;simpa using h
end
end Go.Proofs.YtlklhkkjcfmefaaGreatDoor.rinv
namespace Go.Proofs.YtlklhkkjcfmefaaGreatDoor.law
open Go.ChangeShapes Go.WideShapes Go.ChangeAt Go.RowKit Go.ChangeMaps
theorem own : ownKnob Tryz.prog.godebug = none:=by kernel_rfl
theorem laidOut : laidOutB Tryz.prog = true:=by kernel_rfl
theorem trodAll_below {H : Type} {enc : TypeId × Value → H} {P : Program} (hl : laidOutB P = true) {W W' : World} (hb : Below W.heap.size W W') :
  ∀ {ts : List TypeId} {vs : List Value} {ds : List (DataW H)} {ps : List MemPlace},(ts.all fun t=>P.readableRec t && decide (t < P.types.size)) = true →
   DataW.TrodAll enc P W 0 (fun _=>true) true ts vs ds ps → (∀ x ∈ ps,x.block < W.heap.size) → DataW.TrodAll enc P W' 0 (fun b=>decide (b < W.heap.size)) true ts vs ds ps
 | [],vs,ds,ps,_,h,_=>by
  obtain ⟨rfl,rfl,rfl⟩:=trodAll_nil h
  exact trodAll_mk0
 | t :: ts,vs,ds,ps,hr,h,hlt=>by
  obtain ⟨v,vs',d,ds',p,q,rfl,rfl,rfl,h0,h1⟩:=trodAll_cons h
  simp only [List.all_cons,Bool.and_eq_true,decide_eq_true_eq] at hr
  exact trodAll_cons_mk (Below.trod hl hr.1.1 hr.1.2 h0 hb (fun x hx=>hlt x (List.mem_append_left _ hx)))
   (trodAll_below hl hb (by simpa using hr.2) h1 (fun x hx=>hlt x (List.mem_append_right _ hx)))
theorem law_post {H : Type} {enc : TypeId × Value → H} {s : ChangeSpec} {f : Func} {W W' : World} {args : Array Value} {ds gs : List (DataW H)} {before : List MemPlace} (hv : s.vars = [])
  (hW : DataW.Whole enc Tryz.prog f.params.toList s.vars false W args.toList ds gs before)
  (hfn : s.fn H (ds ++ gs) = { results:=[.lit (.bool true)],args:=ds }) (hres : f.resultTypes = #[4]) (hrd : (f.params.toList.all fun t=>Tryz.prog.readableRec t && decide (t < Tryz.prog.types.size)) = true)
  (hb : Below W.heap.size W W') : s.post enc Tryz.prog f false true false false W args (.bool true) W':=by
 have hlt:=hW.lt
 have hW':=hW
 obtain ⟨p,q,hA,hV,rfl,_,_⟩:=hW
 rw [hv] at hV
 obtain ⟨rfl,rfl⟩:=trodVars_none hV
 refine ⟨ds,[],p ++ [],[],p,[],hW',?_,?_,?_,hb.frame _,fun h=>by cases h⟩
 ·rw [hfn,hres]
  exact trodAll_mk1 (shut_bool Tryz.underlying4 true)
 ·rw [hfn]
  exact trodAll_below laidOut hb hrd hA (fun x hx=>by simpa using hlt x (List.mem_append_left _ hx))
 ·rw [hfn,hv]
  rfl
def BytesAt (W : World) (v : Value) (bs : List Int) : Prop :=
 (v = .slice none 0 0 ∧ bs = []) ∨ (∃ a cap,v = .slice (some a) 0 cap ∧ bs = []) ∨
 ∃ b off cap,v = .slice (some ⟨b,off,none⟩) bs.length cap ∧ bs.length ≤ maxLen ∧ ∀ j,j < bs.length → W.cell? ⟨b,off + j,none⟩ = some (.int .u8 (bs.getD j 0)) ∧ 0 ≤ bs.getD j 0 ∧ bs.getD j 0 ≤ 255
theorem u8_wf {n : Int} (h : (Lit.int .u8 n).wf = true) : 0 ≤ n ∧ n ≤ 255:=by simpa [Lit.wf,IntKind.min,IntKind.max,IntKind.signed,IntKind.bits] using h
theorem cells5 : Tryz.prog.cellsOf 5 = 1:=by kernel_rfl
theorem open_bytes {H : Type} {enc : TypeId × Value → H} {W : World} {base : Nat} {v : Value} {d : DataW H} {p : List MemPlace} (hok : Value.okWide Tryz.prog W .any base 22 v)
  (h : DataW.Trod enc Tryz.prog W 0 (fun _=>true) true 22 v d p) : ∃ bs,BytesAt W v bs:=by
 obtain ⟨a0,len,cap,rfl⟩:=okWide_slice Tryz.underlying22 hok
 obtain ⟨fuel,hf⟩:=h
 rcases open_ints Tryz.underlying22 Tryz.underlying5 cells5 hf with ⟨hcs,hx⟩ | ⟨a,len',cap',zs,hcs,_,hl,hm,hz,hx,hcell,hwz⟩
 ·simp [Value.cells] at hcs
  obtain ⟨rfl,rfl,rfl⟩:=hcs
  exact ⟨[],.inl ⟨rfl,rfl⟩⟩
 ·simp [Value.cells] at hcs
  obtain ⟨rfl,rfl,rfl⟩:=hcs
  simp only [if_true] at hz
  by_cases h0 : len = 0
  ·subst h0
   exact ⟨[],.inr (.inl ⟨a,cap,rfl,rfl⟩)⟩
  ·obtain ⟨b,off,spot⟩:=a
   have hspot : spot = none:=by simpa [Addr.add] using World.cell?_spot (hcell 0 (by omega))
   subst hspot
   have hlen : (zs.take len).length = len:=by rw [List.length_take];omega
   refine ⟨zs.take len,.inr (.inr ⟨b,off,cap,by rw [hlen],by omega,fun j hj=>?_⟩)⟩
   rw [hlen] at hj
   have e : (zs.take len).getD j 0 = zs.getD j 0:=by simp [List.getD,hj]
   rw [e]
   refine ⟨by rw [← add_plain];exact hcell j (by omega),u8_wf (hwz _ ?_)⟩
   have hj' : j < zs.length:=by omega
   simp [List.getD,hj']
end Go.Proofs.YtlklhkkjcfmefaaGreatDoor.law
namespace Go.Proofs.YtlklhkkjcfmefaaGreatDoor.ed
open Go.RowKit
structure In (W : World) where
 u : World
 h : Below W.heap.size W u
instance (W : World) : Nonempty (In W):=⟨⟨W,Below.refl _ W⟩⟩
theorem In.cell {W : World} {p : Addr} {v : Value} (h : W.cell? p = some v) (x : In W) : x.u.cell? p = some v :=
 (x.h.cell (World.block_lt_of_cell? W p h)).trans h
theorem wp_region_in {P : Program} {id : Nat} {Q : Exit → Act → World → Prop} {a : Act} {w : World} {l : List Oper} (hm : P.follows .mixedOrders = true) (hB : Region.lexB .any l.toArray = true)
  (h : wpQuiet P l.toArray (fun w'=>∃ x : In w,w' = x.u) (fun a'=>∀ w',(∃ x : In w,w' = x.u) → Q .normal a' w') l a) : (Code.region id l.toArray true).wp P Q a w :=
 wp_region_quiet (C:=fun w'=>∃ x : In w,w' = x.u) hm hB ⟨⟨w.drew,(Below.refl _ w).drew⟩,rfl⟩ (by simpa using h)
theorem Calls.in_of {P : Program} {f : FuncId} {args : Array Value} {W : World} {x : In W} {v : Value}
  (h : Calls P f args x.u fun e w'=>e = .returned v ∧ Below x.u.heap.size x.u w') : Calls P f args x.u fun e w''=>e = .returned v ∧ ∃ y : In W,w'' = y.u :=
 h.mono fun _ w' ⟨he,hb⟩=>⟨he,⟨w',x.h.trans (hb.mono x.h.size)⟩,rfl⟩
end Go.Proofs.YtlklhkkjcfmefaaGreatDoor.ed
namespace Go.Proofs.YtlklhkkjcfmefaaGreatDoor.ed
open Go.RowKit Go.Shelf
theorem infoB : (Tryz.prog.info? 5).map (fun i=>(i.zero,i.size,i.bytes)) = some (some (.int .u8 0),1,1):=by kernel_rfl
end Go.Proofs.YtlklhkkjcfmefaaGreatDoor.ed
