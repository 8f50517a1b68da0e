/- Ground of the law: PvN, ItProg, PvO, ItAll. -/
import Derived.Test.YtaecmhlglnmimaaQf22
import Derived.Test.YtaecmhlglnmimaaQf18
import Derived.Test.YtaecmhlglnmimaaQf01
import Derived.Test.YtaecmhlglnmimaaQf08
import Derived.Test.YtaecmhlglnmimaaQf21
import Derived.Laws.StructEq
import Derived.DeepKeys5
import Derived.Maps.Own
import Derived.ChangeMaps5
import Derived.Laws.AppendOwnNone
import Derived.Lib.SliceRun
import Derived.Laws.IdiomCopy
import Derived.StillTailTactics
import Derived.Carry
import Derived.Shelf.Strings.BuilderK
import Derived.WalkKit
import Derived.Test.YtaecmhlglnmimaaQf00
import Derived.Test.YtaecmhlglnmimaaQf03
import Derived.LoopNIn
import Derived.LoopIn
import Derived.Shelf.RegionOpen
import Derived.RegionTactic
import Derived.RegionIn
set_option maxRecDepth 100000
set_option maxHeartbeats 8000000
set_option linter.unusedVariables false
set_option linter.unusedSimpArgs false
namespace Go.Proofs.Ytaecmhlglnmimaa.pv
open Go.RowKit
abbrev Keys:=List (Nat × Nat)
def keysOf (ws : Mem) : Keys:=ws.map fun p=>(p.1,p.2.1)
def slotsOf : List Operand → Keys
  | []=>[]
  | .tmp t :: r=>(0,t) :: slotsOf r
  | _ :: r=>slotsOf r
def cellKeys (b : Nat) : Nat → Nat → Keys
  | _,0=>[]
  | o,n + 1=>(b + 2,o) :: cellKeys b (o + 1) n
def memReads (ty : Tys) (m : Mem) (o : Oper) : Keys :=
  match o.op with
  | .load t x=>(match tyOf ty t,ev m x with
    | some y,.ptr b off=>(b + 2,off) :: cellKeys b off y.size
    | _,_=>[])
  | .store _ p x=>(match ev m p,cellsOf (ev m x) with
    | .ptr b off,some l=>cellKeys b off l.length
    | _,_=>[])
  | .call { callee:=.builtin .append,args,.. }=>(match args.toList with
    | [s,_]=>(match ev m s with
      | .sl (.own t _ _) _=>[(1,t)]
      | _=>[])
    | _=>[])
  | _=>[]
def guardReads (ops : Array Oper) (g : Option (Nat × Bool)) : Keys :=
  match g with
  | none=>[]
  | some (j,_)=>match (ops[j]?).bind (·.dst) with
    | some t=>[(0,t)]
    | none=>[]
def opReads (ty : Tys) (m : Mem) (o : Oper) : Keys:=slotsOf o.op.operands.toList ++ memReads ty m o
def Same (m m' : Mem) (k : Keys) : Prop:=∀ p ∈ k,look m p.1 p.2 = look m' p.1 p.2
theorem slots_ev {m m' : Mem} : ∀ {l : List Operand},Same m m' (slotsOf l) → ∀ x ∈ l,ev m x = ev m' x
  | [],_,x,h=>by cases h
  | y :: r,hs,x,h=>by
    rcases List.mem_cons.1 h with rfl | h
    · cases x with
      | tmp t=>exact hs (0,t) (by simp [slotsOf])
      | _=>rfl
    · refine slots_ev (l:=r) (fun p hp=>hs p ?_) x h
      cases y <;> simp [slotsOf,hp]
theorem cr_same {m m' : Mem} {b : Nat} : ∀ (n o : Nat),Same m m' (cellKeys b o n) → cr m b o n = cr m' b o n
  | 0,o,h=>rfl
  | n + 1,o,h=>by
    simp only [cr]
    rw [h (b + 2,o) (by simp [cellKeys]),cr_same n (o + 1) (fun p hp=>h p (by simp [cellKeys,hp]))]
theorem dBuild_same {ty : Tys} {m m' : Mem} {fs : List (Nat × TypeId)} : ∀ (ps : List (Nat × Operand)) (z : List D),(∀ p ∈ ps,ev m p.2 = ev m' p.2) → dBuild ty m fs z ps = dBuild ty m' fs z ps
  | [],z,h=>rfl
  | (i,x) :: r,z,h=>by
    have e : ev m x = ev m' x:=h (i,x) (List.mem_cons_self ..)
    have ih:=fun z=>dBuild_same (ty:=ty) (fs:=fs) r z fun p hp=>h p (List.mem_cons_of_mem _ hp)
    unfold dBuild
    simp only [e,ih]
theorem dFillE_same {m m' : Mem} {sz : Nat} : ∀ (ps : List (Nat × Operand)) (es : List (List D)),(∀ p ∈ ps,ev m p.2 = ev m' p.2) → dFillE m sz es ps = dFillE m' sz es ps
  | [],es,h=>rfl
  | (i,x) :: r,es,h=>by
    have e : ev m x = ev m' x:=h (i,x) (List.mem_cons_self ..)
    have ih:=fun es=>dFillE_same (sz:=sz) r es fun p hp=>h p (List.mem_cons_of_mem _ hp)
    unfold dFillE
    simp only [e,ih]
theorem dop_same {ty : Tys} {m m' : Mem} {id : Nat} {o : Oper} (h : Same m m' (opReads ty m o)) : dop ty m id o = dop ty m' id o:=by
  have hev : ∀ x ∈ o.op.operands.toList,ev m x = ev m' x:=slots_ev fun p hp=>h p (List.mem_append_left _ hp)
  have hmem : Same m m' (memReads ty m o):=fun p hp=>h p (List.mem_append_right _ hp)
  clear h
  obtain ⟨dst,op,type,pos,after,guard⟩:=o
  have e1 : ∀ (x : Operand),op.operands.toList = [x] → ev m x = ev m' x:=fun x e=>hev x (by simp only [e];simp)
  have e2 : ∀ (x y : Operand),op.operands.toList = [x,y] → ev m x = ev m' x ∧ ev m y = ev m' y:=fun x y e=>⟨hev x (by simp only [e];simp),hev y (by simp only [e];simp)⟩
  cases op with
  | move x=>simp only [dop,e1 x rfl]
  | assign x=>simp only [dop,e1 x rfl]
  | pick c a b=>simp only [dop,hev c (by simp [Op.operands]),hev a (by simp [Op.operands]),hev b (by simp [Op.operands])]
  | alloc t=>rfl
  | box t x=>simp only [dop,e1 x rfl]
  | build t ps =>
    have : ∀ p ∈ ps.toList,ev m p.2 = ev m' p.2:=fun p hp=>hev p.2 (by simp only [Op.operands];exact List.mem_map.2 ⟨p,hp,rfl⟩)
    simp only [dop,dBuild_same ps.toList _ this]
  | buildSlice t n ps =>
    have : ∀ p ∈ ps.toList,ev m p.2 = ev m' p.2:=fun p hp=>hev p.2 (by simp only [Op.operands];exact List.mem_map.2 ⟨p,hp,rfl⟩)
    simp only [dop,dFillE_same ps.toList _ this]
  | load t x =>
    have hx:=e1 x rfl
    simp only [dop,← hx]
    simp only [memReads] at hmem
    split
    · rename_i y hy
      rw [hy] at hmem
      unfold dLoad
      split
      · rename_i b off e
        rw [e] at hmem
        have h1:=hmem (b + 2,off) (List.mem_cons_self ..)
        have h2:=cr_same y.size off fun p hp=>hmem p (List.mem_cons_of_mem _ hp)
        simp only at h1
        rw [h1,h2]
      · rfl
      · rfl
    · rfl
  | store t p x =>
    obtain ⟨hp,hx⟩:=e2 p x rfl
    simp only [dop,← hp,← hx]
    simp only [memReads] at hmem
    split
    · rename_i y hy
      unfold dStore
      split
      · rename_i b off e
        rw [e] at hmem
        split
        · rename_i l hl
          rw [hl] at hmem
          rw [cr_same l.length off hmem]
        · rfl
      · rfl
    · rfl
  | nilCheck x=>simp only [dop,e1 x rfl]
  | binOp op t x y yt=>simp only [dop,(e2 x y rfl).1,(e2 x y rfl).2]
  | unOp op t x=>cases op <;> simp only [dop,e1 x rfl]
  | convert s t x=>simp only [dop,e1 x rfl]
  | fieldAddr t x f=>simp only [dop,e1 x rfl]
  | field t x f=>simp only [dop,e1 x rfl]
  | indexAddr t x i=>simp only [dop,(e2 x i rfl).1,(e2 x i rfl).2]
  | index t x i=>simp only [dop,(e2 x i rfl).1,(e2 x i rfl).2]
  | slice t x lo hi mx =>
    cases mx with
    | some _=>rfl
    | none =>
      have hx : ev m x = ev m' x:=hev x (by simp [Op.operands])
      have hlo : optD m lo = optD m' lo:=by
        cases lo with
        | none=>rfl
        | some c=>simp only [optD,hev c (by simp [Op.operands])]
      have hhi : optD m hi = optD m' hi:=by
        cases hi with
        | none=>rfl
        | some c=>simp only [optD,hev c (by simp [Op.operands])]
      simp only [dop,hx,hlo,hhi]
  | extract x i=>simp only [dop,e1 x rfl]
  | call c =>
    obtain ⟨callee,args,ats⟩:=c
    have ha : ∀ x ∈ args.toList,ev m x = ev m' x:=fun x hx=>hev x (by
      simp only [Op.operands,Call.operands,Array.toList_append]
      exact List.mem_append_right _ hx)
    cases callee with
    | invoke r s=>rfl
    | value f =>
      cases f with
      | func f =>
        have h1 : args.toList.map (ev m) = args.toList.map (ev m'):=List.map_congr_left ha
        have h2 : (args.toList.map fun x=>stripA (ev m x)) = args.toList.map fun x=>stripA (ev m' x):=List.map_congr_left fun x hx=>by rw [ha x hx]
        simp only [dop,h1,h2]
      | tmp t =>
        have h0 : look m 0 t = look m' 0 t:=hev (.tmp t) (by simp [Op.operands,Call.operands])
        have h1 : args.toList.map (ev m) = args.toList.map (ev m'):=List.map_congr_left ha
        have h2 : (args.toList.map fun x=>stripA (ev m x)) = args.toList.map fun x=>stripA (ev m' x):=List.map_congr_left fun x hx=>by rw [ha x hx]
        simp only [dop,h0,h1,h2]
      | _=>rfl
    | builtin b =>
      cases b
      case append =>
        simp only [dop]
        simp only [memReads] at hmem
        split
        · rename_i s x t u h1 h2
          rw [h1] at hmem ha
          have hmem : Same m m' (match ev m s with
            | .sl (.own t _ _) _=>[(1,t)]
            | _=>[]):=hmem
          have hs:=ha s (by simp);have hx:=ha x (by simp)
          simp only [← hs,← hx]
          have : ∀ e z,dAppend m id e z (ev m s) (ev m x) = dAppend m' id e z (ev m s) (ev m x):=fun e z=>by
            unfold dAppend
            split
            · rfl
            · rename_i t' e' sz es k news q1 q2
              rw [q1] at hmem
              have : look m 1 t' = look m' 1 t':=hmem (1,t') (by simp)
              rw [this]
            · rfl
          simp only [this]
        · rfl
      case len =>
        simp only [dop]
        split
        · rename_i x t h1 h2
          rw [h1] at ha
          simp only [ha x (by simp)]
        · rfl
      case min =>
        simp only [dop]
        split
        · rename_i x y h1
          rw [h1] at ha
          simp only [ha x (by simp),ha y (by simp)]
        · rfl
      case max =>
        simp only [dop]
        split
        · rename_i x y h1
          rw [h1] at ha
          simp only [ha x (by simp),ha y (by simp)]
        · rfl
      all_goals rfl
  | _=>rfl
theorem wantD_same {ops : Array Oper} {g : Option (Nat × Bool)} {m m' : Mem} (h : Same m m' (guardReads ops g)) : wantD ops g m = wantD ops g m':=by
  unfold wantD
  unfold guardReads at h
  split
  · rfl
  · rename_i j want
    split
    · rename_i t ht
      simp only [ht] at h
      have:=h (0,t) (by simp)
      simp only at this
      rw [this]
    · rfl
section
variable {P : Program} {ops : Array Oper} {Q : Exit → Act → World → Prop} {md : Region.Mode}
def done (listed : Array Bool) (k : Nat) : Bool:=listed.getD k false
theorem count_set {l : List Bool} {i : Nat} (h : l[i]? = some false) : (l.set i true).count false + 1 = l.count false:=by
  induction l generalizing i with
  | nil=>simp at h
  | cons b r ih =>
    cases i with
    | zero=>simp at h;subst h;simp
    | succ i =>
      have:=ih (i:=i) (by simpa using h)
      simp only [List.set_cons_succ,List.count_cons]
      omega
theorem wpAny_inv (Inv : Array Bool → Act → World → Prop)
    (hstep : ∀ listed a w i,Inv listed a w → i ∈ Region.ready md ops listed → wpOp P ops Q i (Inv (listed.setIfInBounds i true)) a w)
    (hend : ∀ listed a w,Inv listed a w → Region.ready md ops listed = [] → Q .normal a w) :
    ∀ fuel listed a w,listed.toList.count false ≤ fuel → Inv listed a w → wpAny P md ops Q fuel listed a w:=by
  have hdown : ∀ (listed : Array Bool) i,i ∈ Region.ready md ops listed → (listed.setIfInBounds i true).toList.count false + 1 = listed.toList.count false:=by
    intro listed i hi
    obtain ⟨h2,_⟩:=mem_ready.1 hi
    rw [Array.toList_setIfInBounds]
    refine count_set ?_
    cases hq : listed[i]? with
    | none=>simp [Array.getD_eq_getD_getElem?,hq] at h2
    | some b =>
      have : b = false:=by simpa [Array.getD_eq_getD_getElem?,hq] using h2
      rw [← Array.getElem?_toList] at hq
      rw [hq,this]
  intro fuel
  induction fuel with
  | zero =>
    intro listed a w hc hI
    have hr : Region.ready md ops listed = []:=by
      cases hr : Region.ready md ops listed with
      | nil=>rfl
      | cons i r =>
        have:=hdown listed i (by rw [hr];exact List.mem_cons_self ..)
        omega
    exact ⟨hr,hend listed a w hI hr⟩
  | succ fuel ih =>
    intro listed a w hc hI
    refine ⟨fun hr=>hend listed a w hI hr,fun i hi=>?_⟩
    have:=hdown listed i hi
    exact wpOp_mono (fun a' w' h=>ih _ a' w' (by omega) h) (hstep listed a w i hI hi)
theorem done_set {listed : Array Bool} {i : Nat} (h : listed.getD i true = false) (k : Nat) : done (listed.setIfInBounds i true) k = ((k == i) || done listed k):=by
  unfold done
  have hi : i < listed.size:=by
    rcases Nat.lt_or_ge i listed.size with h' | h'
    · exact h'
    · simp [Array.getD_eq_getD_getElem?,Array.getElem?_eq_none h'] at h
  by_cases e : k = i
  · subst e;simp [Array.getD_eq_getD_getElem?,hi]
  · simp [Array.getD_eq_getD_getElem?,e,Ne.symm e]
theorem done_not {listed : Array Bool} {i : Nat} (h : listed.getD i true = false) : done listed i = false:=by
  unfold done
  rw [Array.getD_eq_getD_getElem?] at h ⊢
  cases hq : listed[i]? with
  | none=>rfl
  | some b=>rw [hq] at h;simpa using h
theorem done_none (k i : Nat) : done (Array.replicate k false) i = false:=by
  unfold done
  rw [Array.getD_eq_getD_getElem?]
  cases h : (Array.replicate k false)[i]? with
  | none=>rfl
  | some b=>rw [Array.eq_of_mem_replicate (Array.mem_of_getElem? h)];rfl
end
structure Ent where
  o : Oper
  m : Mem
  want : Bool
  d : D
  ws : Mem
def Ent.out (e : Ent) : Mem:=putM e.o.dst e.d e.ws
theorem putM_app (dst : Option Tmp) (d : D) (ws m : Mem) : putM dst d (ws ++ m) = putM dst d ws ++ m:=by cases dst <;> rfl
def acc (S : Nat → Bool) : Nat → List Ent → Mem → Mem
  | _,[],m=>m
  | i,e :: r,m=>acc S (i + 1) r (if S i then e.out ++ m else m)
theorem acc_append (S : Nat → Bool) : ∀ (es fs : List Ent) (i : Nat) (m : Mem),acc S i (es ++ fs) m = acc S (i + es.length) fs (acc S i es m)
  | [],fs,i,m=>rfl
  | e :: r,fs,i,m=>by
    simp only [List.cons_append,acc,List.length_cons]
    rw [acc_append S r fs (i + 1),show i + 1 + r.length = i + (r.length + 1) by omega]
theorem acc_none {S : Nat → Bool} : ∀ (es : List Ent) (i : Nat) (m : Mem),(∀ j,i ≤ j → S j = false) → acc S i es m = m
  | [],i,m,h=>rfl
  | e :: r,i,m,h=>by simp only [acc,h i (Nat.le_refl _)];exact acc_none r (i + 1) m fun j hj=>h j (by omega)
theorem acc_look {x y : Nat} {S S' : Nat → Bool} : ∀ (es : List Ent) (i : Nat) {m m' : Mem},(∀ j e,es[j]? = some e → has e.out x y = true → S (i + j) = S' (i + j)) → look m x y = look m' x y → look (acc S i es m) x y = look (acc S' i es m') x y
  | [],i,m,m',h,hm=>hm
  | e :: r,i,m,m',h,hm=>by
    simp only [acc]
    refine acc_look r (i + 1) (fun j f hj hf=>?_) ?_
    · have:=h (j + 1) f (by simpa using hj) hf
      rw [show i + 1 + j = i + (j + 1) by omega];exact this
    · have look1 : ∀ (b : Bool) (q : Mem),look (if b then e.out ++ q else q) x y = if b && has e.out x y then look e.out x y else look q x y:=fun b q=>by
        cases b
        · rfl
        · simp only [if_true,Bool.true_and,look_app]
      rw [look1,look1]
      cases hh : has e.out x y with
      | false=>simp only [Bool.and_false,Bool.false_eq_true,if_false];exact hm
      | true =>
        have:=h 0 e rfl hh
        simp only [Nat.add_zero] at this
        rw [this,hm]
theorem acc_last {x y : Nat} {S : Nat → Bool} : ∀ (es : List Ent) (i k : Nat) (e : Ent) {m : Mem},es[k]? = some e → has e.out x y = true → S (i + k) = true → (∀ j f,es[j]? = some f → k < j → has f.out x y = true → S (i + j) = false) → look (acc S i es m) x y = look e.out x y
  | [],i,k,e,m,h,_,_,_=>by cases h
  | f :: r,i,0,e,m,h,hh,hS,hn=>by
    cases h
    simp only [acc]
    have:=acc_look (x:=x) (y:=y) (S:=S) (S':=fun _=>false) r (i + 1) (m:=if S i then f.out ++ m else m) (m':=f.out ++ m) (fun j g hj hg=>by
      have:=hn (j + 1) g (by simpa using hj) (by omega) hg
      rw [show i + 1 + j = i + (j + 1) by omega];exact this) (by simp only [Nat.add_zero] at hS;rw [hS];rfl)
    rw [this,acc_none _ _ _ (fun _ _=>rfl),look_app,hh]
    rfl
  | f :: r,i,k + 1,e,m,h,hh,hS,hn=>by
    simp only [acc]
    refine acc_last r (i + 1) k e (by simpa using h) hh (by rw [show i + 1 + k = i + (k + 1) by omega];exact hS) fun j g hj hlt hg=>?_
    have:=hn (j + 1) g (by simpa using hj) (by omega) hg
    rw [show i + 1 + j = i + (j + 1) by omega];exact this
theorem has_keys : ∀ {ws : Mem} {x y : Nat},has ws x y = true ↔ (x,y) ∈ keysOf ws
  | [],x,y=>by simp [has,keysOf]
  | (a,b,d) :: r,x,y=>by
    have ih:=has_keys (ws:=r) (x:=x) (y:=y)
    simp only [keysOf,List.map_cons,List.mem_cons,Prod.mk.injEq,has]
    by_cases h : a = x ∧ b = y
    · simp [h.1,h.2]
    · have h' : (Nat.beq a x && Nat.beq b y) = false:=by
        rw [Bool.eq_false_iff];intro e
        rw [Bool.and_eq_true] at e
        exact h ⟨Nat.eq_of_beq_eq_true e.1,Nat.eq_of_beq_eq_true e.2⟩
      rw [h',cond_false,ih]
      simp only [keysOf]
      constructor
      · exact .inr
      · rintro (⟨rfl,rfl⟩ | h2)
        · exact absurd ⟨rfl,rfl⟩ h
        · exact h2
end Go.Proofs.Ytaecmhlglnmimaa.pv
namespace Go.Proofs.Ytaecmhlglnmimaa.it
open Go.RowKit Go.Shelf
open sg (lst_len)
open lx
def idleB (k : Int) : Bool:=k == 1 || k == 2
end Go.Proofs.Ytaecmhlglnmimaa.it
namespace Go.Proofs.Ytaecmhlglnmimaa.it
open Go.RowKit Go.Shelf
open sg (lst_len)
open lx
end Go.Proofs.Ytaecmhlglnmimaa.it
namespace Go.Proofs.Ytaecmhlglnmimaa.it
open Go.RowKit Go.Shelf
open sg (lst_len)
open lx
end Go.Proofs.Ytaecmhlglnmimaa.it
namespace Go.Proofs.Ytaecmhlglnmimaa.it
open Go.RowKit Go.Shelf
open sg (lst_len)
open lx
def fidx (p : Tk → Bool) (ts : List Tk) : Nat:=(ts.takeWhile (fun t=>!p t)).length
theorem fidx_le (p : Tk → Bool) (ts : List Tk) : fidx p ts ≤ ts.length:=by
 unfold fidx
 exact (List.takeWhile_prefix _).length_le
theorem fidx_cons (p : Tk → Bool) (t : Tk) (r : List Tk) : fidx p (t :: r) = if p t then 0 else fidx p r + 1:=by
 unfold fidx
 rw [List.takeWhile_cons]
 cases p t <;> simp
end Go.Proofs.Ytaecmhlglnmimaa.it
namespace Go.Proofs.Ytaecmhlglnmimaa.it
open Go.RowKit Go.Shelf
open sg (lst_len)
open lx
open Go.Maps (Keyed)
end Go.Proofs.Ytaecmhlglnmimaa.it
namespace Go.Proofs.Ytaecmhlglnmimaa.it
open Go.RowKit Go.Shelf
open sg (lst_len)
open lx
end Go.Proofs.Ytaecmhlglnmimaa.it
namespace Go.Proofs.Ytaecmhlglnmimaa.it
open Go.RowKit Go.Shelf
open sg (lst_len)
open lx
end Go.Proofs.Ytaecmhlglnmimaa.it
namespace Go.Proofs.Ytaecmhlglnmimaa.it
open Go.RowKit Go.Shelf
open sg (lst_len)
open lx
open sx (Blk)
end Go.Proofs.Ytaecmhlglnmimaa.it
namespace Go.Proofs.Ytaecmhlglnmimaa.it
open Go.RowKit Go.Shelf
open sg (lst_len)
open lx
end Go.Proofs.Ytaecmhlglnmimaa.it
namespace Go.Proofs.Ytaecmhlglnmimaa.it
open Go.RowKit Go.Shelf
open sg (lst_len)
open lx
end Go.Proofs.Ytaecmhlglnmimaa.it
namespace Go.Proofs.Ytaecmhlglnmimaa.it
open Go.RowKit
open sg (lst_len)
open lx
end Go.Proofs.Ytaecmhlglnmimaa.it
namespace Go.Proofs.Ytaecmhlglnmimaa.pv
open Go.RowKit
structure Foot where
  i : Nat
  an : List Nat
  rs : Keys
  wk : Keys
def clash : Keys → Keys → Bool
  | [],_=>false
  | (a,b) :: r,l=>(l.any fun q=>a.beq q.1 && b.beq q.2) || clash r l
def inL (l : List Nat) (x : Nat) : Bool:=l.any x.beq
def footOk (f : Foot) (h : List Foot) : Bool:=h.all fun g=>inL f.an g.i || !(clash g.wk f.rs || clash g.wk f.wk || clash g.rs f.wk)
def dirs (o : Oper) : List Nat:=o.after.toList.filterMap fun e=>bif Region.binds .any e then some e.on else none
def anOf (h : List Foot) (ds : List Nat) : List Nat:=ds ++ h.flatMap fun g=>bif inL ds g.i then g.an else []
def dopsD (E : Env) (ops : Array Oper) (nx : Nat) : List Oper → Nat → List Foot → Mem → (Mem → Prop) → Prop
  | [],_,_,m,K=>K m
  | o :: r,i,h,m,K=>guardD ops o.guard m
      (fun m=>opP E (nx + i) o m fun d ws=>bif footOk ⟨i,anOf h (dirs o),guardReads ops o.guard ++ opReads E.ty m o,keysOf (putM o.dst d ws)⟩ h && (dirs o).all (fun j=>(j + 1).ble i) then
        putD E.n o.dst d (ws ++ m) fun m'=>dopsD E ops nx r (i + 1) (⟨i,anOf h (dirs o),guardReads ops o.guard ++ opReads E.ty m o,keysOf (putM o.dst d ws)⟩ :: h) m' K else False)
      (fun m=>bif footOk ⟨i,anOf h (dirs o),guardReads ops o.guard,keysOf (putM o.dst .und [])⟩ h && (dirs o).all (fun j=>(j + 1).ble i) then
        putD E.n o.dst .und m fun m'=>dopsD E ops nx r (i + 1) (⟨i,anOf h (dirs o),guardReads ops o.guard,keysOf (putM o.dst .und [])⟩ :: h) m' K else False)
inductive Anc (ops : Array Oper) : Nat → Nat → Prop
  | one {i j : Nat} {o : Oper} : ops[i]? = some o → j ∈ dirs o → Anc ops j i
  | more {i j k : Nat} {o : Oper} : ops[i]? = some o → k ∈ dirs o → Anc ops j k → Anc ops j i
theorem inL_iff {l : List Nat} {x : Nat} : inL l x = true ↔ x ∈ l:=by
  unfold inL
  rw [List.any_eq_true]
  constructor
  · rintro ⟨y,h1,h2⟩;rw [Nat.eq_of_beq_eq_true h2];exact h1
  · intro h;exact ⟨x,h,by simp⟩
theorem clash_iff : ∀ {a b : Keys},clash a b = false → ∀ p ∈ a,p ∉ b
  | [],b,h,p,hp=>by cases hp
  | (x,y) :: r,b,h,p,hp=>by
    simp only [clash,Bool.or_eq_false_iff] at h
    rcases List.mem_cons.1 hp with rfl | hp
    · intro hb
      have:=h.1
      rw [List.any_eq_false] at this
      exact this _ hb (by simp)
    · exact clash_iff h.2 p hp
theorem dirs_mem {o : Oper} {j : Nat} : j ∈ dirs o ↔ ∃ e ∈ o.after,Region.binds .any e = true ∧ e.on = j:=by
  unfold dirs
  rw [List.mem_filterMap]
  constructor
  · rintro ⟨e,h1,h2⟩
    cases hb : Region.binds .any e with
    | false=>rw [hb] at h2;cases h2
    | true=>rw [hb] at h2;cases h2;exact ⟨e,Array.mem_toList_iff.1 h1,hb,rfl⟩
  · rintro ⟨e,h1,h2,rfl⟩
    exact ⟨e,Array.mem_toList_iff.2 h1,by rw [h2];rfl⟩
section
variable {P : Program} {E : Env} {ops : Array Oper} {nx : Nat} {m0 : Mem}
def Ent.rd (E : Env) (ops : Array Oper) (e : Ent) : Keys:=guardReads ops e.o.guard ++ (if e.want then opReads E.ty e.m e.o else [])
structure Plan (E : Env) (ops : Array Oper) (nx : Nat) (m0 : Mem) (es : List Ent) : Prop where
  op : ∀ (i : Nat) (e : Ent),es[i]? = some e → ops[i]? = some e.o
  mem : ∀ (i : Nat) (e : Ent),es[i]? = some e → Leq e.m (acc (fun j=>decide (j < i)) 0 es m0)
  want : ∀ (i : Nat) (e : Ent),es[i]? = some e → wantD ops e.o.guard e.m = some e.want
  told : ∀ (i : Nat) (e : Ent),es[i]? = some e → if e.want then opS E (nx + i) (dop E.ty e.m (nx + i) e.o) e.d e.ws else e.d = .und ∧ e.ws = []
  dst : ∀ (i : Nat) (e : Ent) t,es[i]? = some e → e.o.dst = some t → t < E.n
  apart : ∀ (i j : Nat) (e f : Ent),es[i]? = some e → es[j]? = some f → j < i → Anc ops j i ∨ ((∀ p ∈ keysOf f.out,p ∉ e.rd E ops) ∧ (∀ p ∈ keysOf f.out,p ∉ keysOf e.out) ∧ ∀ p ∈ f.rd E ops,p ∉ keysOf e.out)
  dir : ∀ (i : Nat) (e : Ent) j,es[i]? = some e → j ∈ dirs e.o → j < i
structure Noted (E : Env) (ops : Array Oper) (es : List Ent) (h : List Foot) : Prop where
  sound : ∀ g ∈ h,∃ e,es[g.i]? = some e ∧ g.rs = e.rd E ops ∧ g.wk = keysOf e.out ∧ ∀ j ∈ g.an,Anc ops j g.i
  all : ∀ j,j < es.length → ∃ g ∈ h,g.i = j
theorem acc_more {S : Nat → Bool} {es fs : List Ent} (h : ∀ j,es.length ≤ j → S j = false) (m : Mem) : acc S 0 (es ++ fs) m = acc S 0 es m:=by
  rw [acc_append,acc_none]
  intro j hj
  exact h j (by omega)
theorem Plan.step {es : List Ent} {h : List Foot} {mc m : Mem} {o : Oper} {b : Bool} {d : D} {ws : Mem} {f : Foot} (hp : Plan E ops nx m0 es) (hn : Noted E ops es h) (hmc : Leq mc (acc (fun _=>true) 0 es m0)) (ho : ops[es.length]? = some o) (hm : Leq mc m)
    (hw : wantD ops o.guard m = some b) (ht : if b then opS E (nx + es.length) (dop E.ty m (nx + es.length) o) d ws else d = .und ∧ ws = []) (hd : ∀ t,o.dst = some t → t < E.n)
    (hf : f = ⟨es.length,anOf h (dirs o),Ent.rd E ops ⟨o,m,b,d,ws⟩,keysOf (putM o.dst d ws)⟩) (hok : footOk f h = true) (hdir : ∀ j ∈ dirs o,j < es.length) :
    Plan E ops nx m0 (es ++ [⟨o,m,b,d,ws⟩]) ∧ Noted E ops (es ++ [⟨o,m,b,d,ws⟩]) (f :: h) ∧ Leq (putM o.dst d (ws ++ m)) (acc (fun _=>true) 0 (es ++ [⟨o,m,b,d,ws⟩]) m0):=by
  have cases_get : ∀ (i : Nat) (e : Ent),(es ++ [(⟨o,m,b,d,ws⟩ : Ent)])[i]? = some e → es[i]? = some e ∨ (i = es.length ∧ e = ⟨o,m,b,d,ws⟩):=fun i e hi=>by
    rcases Nat.lt_trichotomy i es.length with h1 | h1 | h1
    · rw [List.getElem?_append_left h1] at hi;exact .inl hi
    · subst h1
      rw [List.getElem?_append_right (Nat.le_refl _),Nat.sub_self] at hi
      cases hi;exact .inr ⟨rfl,rfl⟩
    · rw [List.getElem?_append_right (by omega)] at hi
      obtain ⟨j,hj⟩ : ∃ j,i - es.length = j + 1:=⟨i - es.length - 1,by omega⟩
      rw [hj] at hi;cases hi
  have lt_of : ∀ (i : Nat) (e : Ent),es[i]? = some e → i < es.length:=fun i e h=>(List.getElem?_eq_some_iff.1 h).1
  have hanc : ∀ j ∈ anOf h (dirs o),Anc ops j es.length:=fun j hj=>by
    unfold anOf at hj
    rcases List.mem_append.1 hj with hj | hj
    · exact .one ho hj
    · obtain ⟨g,hg,hj⟩:=List.mem_flatMap.1 hj
      cases hb : inL (dirs o) g.i with
      | false=>rw [hb] at hj;cases hj
      | true =>
        rw [hb] at hj
        obtain ⟨e,_,_,_,h4⟩:=hn.sound g hg
        exact .more ho (inL_iff.1 hb) (h4 j hj)
  refine ⟨⟨?_,?_,?_,?_,?_,?_,?_⟩,⟨?_,?_⟩,?_⟩
  · intro i e hi
    rcases cases_get i e hi with h1 | ⟨rfl,rfl⟩
    · exact hp.op i e h1
    · exact ho
  · intro i e hi
    rcases cases_get i e hi with h1 | ⟨rfl,rfl⟩
    · rw [acc_more (fun j hj=>decide_eq_false (by have:=lt_of i e h1;omega))]
      exact hp.mem i e h1
    · rw [acc_more (fun j hj=>decide_eq_false (by omega))]
      refine hm.symm.trans (hmc.trans ?_)
      intro x y
      refine acc_look es 0 (fun j f hj _=>?_) rfl
      have:=lt_of j f hj
      simp only [Nat.zero_add]
      exact (decide_eq_true this).symm
  · intro i e hi
    rcases cases_get i e hi with h1 | ⟨rfl,rfl⟩
    · exact hp.want i e h1
    · exact hw
  · intro i e hi
    rcases cases_get i e hi with h1 | ⟨rfl,rfl⟩
    · exact hp.told i e h1
    · exact ht
  · intro i e t hi
    rcases cases_get i e hi with h1 | ⟨rfl,rfl⟩
    · exact hp.dst i e t h1
    · exact hd t
  · intro i j e g hi hj hlt
    rcases cases_get i e hi with h1 | ⟨rfl,rfl⟩
    · rcases cases_get j g hj with h2 | ⟨rfl,rfl⟩
      · exact hp.apart i j e g h1 h2 hlt
      · have:=lt_of i e h1;omega
    · rcases cases_get j g hj with h2 | ⟨rfl,rfl⟩
      · obtain ⟨ft,hft,rfl⟩:=hn.all j hlt
        obtain ⟨e',e1,e2,e3,_⟩:=hn.sound ft hft
        rw [h2] at e1;cases e1
        unfold footOk at hok
        rw [List.all_eq_true] at hok
        have:=hok ft hft
        rw [Bool.or_eq_true] at this
        rcases this with h3 | h3
        · left
          rw [hf] at h3
          exact hanc _ (inL_iff.1 h3)
        · right
          rw [Bool.not_eq_true',Bool.or_eq_false_iff,Bool.or_eq_false_iff] at h3
          obtain ⟨⟨c1,c2⟩,c3⟩:=h3
          rw [hf,e3] at c1;rw [hf,e3] at c2;rw [hf,e2] at c3
          exact ⟨clash_iff c1,clash_iff c2,clash_iff c3⟩
      · omega
  · intro i e j hi
    rcases cases_get i e hi with h1 | ⟨rfl,rfl⟩
    · exact hp.dir i e j h1
    · exact hdir j
  · intro g hg
    rcases List.mem_cons.1 hg with rfl | hg
    · rw [hf]
      exact ⟨⟨o,m,b,d,ws⟩,by rw [List.getElem?_append_right (Nat.le_refl _),Nat.sub_self];rfl,rfl,rfl,hanc⟩
    · obtain ⟨e,e1,e2⟩:=hn.sound g hg
      exact ⟨e,by rw [List.getElem?_append_left (lt_of _ _ e1)];exact e1,e2⟩
  · intro j hj
    rw [List.length_append] at hj
    by_cases h1 : j < es.length
    · obtain ⟨g,h2,h3⟩:=hn.all j h1
      exact ⟨g,List.mem_cons_of_mem _ h2,h3⟩
    · refine ⟨f,List.mem_cons_self ..,?_⟩
      rw [hf]
      simp at hj
      show es.length = j
      omega
  · rw [acc_append]
    simp only [acc,if_true]
    rw [putM_app]
    exact (hm.symm.trans hmc).app _
theorem all_lt {ds : List Nat} {i : Nat} (h : (ds.all fun j=>(j + 1).ble i) = true) : ∀ j ∈ ds,j < i:=fun j hj=>Nat.le_of_ble_eq_true (List.all_eq_true.1 h j hj)
theorem dopsD_out (hE : EnvOk P E) {K : Mem → Prop} : ∀ (l : List Oper) (es : List Ent) (h : List Foot) (mc : Mem),Plan E ops nx m0 es → Noted E ops es h → Leq mc (acc (fun _=>true) 0 es m0) → (∀ j,ops[es.length + j]? = l[j]?) →
    dopsD E ops nx l es.length h mc K → ∃ es' mf,es'.length = es.length + l.length ∧ Plan E ops nx m0 es' ∧ Leq mf (acc (fun _=>true) 0 es' m0) ∧ K mf
  | [],es,h,mc,hp,hn,hmc,ho,hd=>⟨es,mc,rfl,hp,hmc,hd⟩
  | o :: r,es,h,mc,hp,hn,hmc,ho,hd=>by
    unfold dopsD at hd
    obtain ⟨m,hm,hd⟩:=guardD_out hd
    have ho0 : ops[es.length]? = some o:=by simpa using ho 0
    have go : ∀ (b : Bool) (d : D) (ws : Mem),wantD ops o.guard m = some b → (if b then opS E (nx + es.length) (dop E.ty m (nx + es.length) o) d ws else d = .und ∧ ws = []) →
        (∀ t,o.dst = some t → t < E.n) → footOk ⟨es.length,anOf h (dirs o),Ent.rd E ops ⟨o,m,b,d,ws⟩,keysOf (putM o.dst d ws)⟩ h = true → (∀ j ∈ dirs o,j < es.length) →
        dopsD E ops nx r (es.length + 1) (⟨es.length,anOf h (dirs o),Ent.rd E ops ⟨o,m,b,d,ws⟩,keysOf (putM o.dst d ws)⟩ :: h) (putM o.dst d (ws ++ m)) K →
        ∃ es' mf,es'.length = es.length + (o :: r).length ∧ Plan E ops nx m0 es' ∧ Leq mf (acc (fun _=>true) 0 es' m0) ∧ K mf:=by
      intro b d ws hw ht hdst hok hdir hrec
      obtain ⟨p1,p2,p3⟩:=Plan.step hp hn hmc ho0 hm hw ht hdst rfl hok hdir
      have:=dopsD_out hE r (es ++ [⟨o,m,b,d,ws⟩]) _ _ p1 p2 p3 (fun j=>by
        rw [List.length_append]
        have:=ho (j + 1)
        rw [List.getElem?_cons_succ] at this
        rw [← this]
        congr 1
        simp;omega) (by rw [List.length_append];exact hrec)
      obtain ⟨es',mf,q1,q2⟩:=this
      exact ⟨es',mf,by rw [q1];simp;omega,q2⟩
    have hwm : wantD ops o.guard mc = wantD ops o.guard m:=wantD_same fun p _=>hm p.1 p.2
    rw [hwm] at hd
    rcases hd with ⟨hw,hd⟩ | ⟨hw,hd⟩
    · obtain ⟨d,ws,hs,hk⟩:=opP_out hE hd
      cases hc : (footOk ⟨es.length,anOf h (dirs o),guardReads ops o.guard ++ opReads E.ty m o,keysOf (putM o.dst d ws)⟩ h && (dirs o).all (fun j=>(j + 1).ble es.length)) with
      | false=>rw [hc] at hk;exact hk.elim
      | true =>
        rw [hc,cond_true] at hk
        rw [Bool.and_eq_true] at hc
        obtain ⟨hdst,hk⟩:=putD_out hk
        exact go true d ws hw hs hdst hc.1 (all_lt hc.2) hk
    · cases hc : (footOk ⟨es.length,anOf h (dirs o),guardReads ops o.guard,keysOf (putM o.dst .und [])⟩ h && (dirs o).all (fun j=>(j + 1).ble es.length)) with
      | false=>rw [hc] at hd;exact hd.elim
      | true =>
        rw [hc,cond_true] at hd
        rw [Bool.and_eq_true] at hc
        obtain ⟨hdst,hk⟩:=putD_out hd
        have hrd : Ent.rd E ops ⟨o,m,false,.und,[]⟩ = guardReads ops o.guard:=by simp [Ent.rd]
        exact go false .und [] hw ⟨rfl,rfl⟩ hdst (by rw [hrd];exact hc.1) (all_lt hc.2) (by rw [hrd];exact hk)
theorem any_sound (hE : EnvOk P E) {es : List Ent} {mf : Mem} {Q : Exit → Act → World → Prop} {w0 : World} {I : Nat → Nat → Prop} {G : Gh} {a : Act} {w : World} (hlen : es.length = ops.size) (hp : Plan E ops nx m0 es) (hmf : Leq mf (acc (fun _=>true) 0 es m0))
    (hr : Run E w0 I (fun u=>nx ≤ u) G m0 a w) (hQ : ∀ G' a' w',Run E w0 I (fun u=>nx + ops.size ≤ u) G' mf a' w' → Q .normal a' w') : wpAny P .any ops Q ops.size (Array.replicate ops.size false) a w:=by
  let Inv : Array Bool → Act → World → Prop:=fun listed a w=>listed.size = ops.size ∧ (∀ i j o,ops[i]? = some o → j ∈ dirs o → done listed i = true → done listed j = true) ∧
    ∃ G,Run E w0 I (fun u=>nx ≤ u ∧ ∀ j,done listed j = true → u ≠ nx + j) G (acc (done listed) 0 es m0) a w
  have get : ∀ (i : Nat) (o : Oper),ops[i]? = some o → ∃ e : Ent,es[i]? = some e ∧ e.o = o:=fun i o h=>by
    have hlt:=(Array.getElem?_eq_some_iff.1 h).1
    have he:=List.getElem?_eq_getElem (l:=es) (i:=i) (by omega)
    have:=hp.op i _ he
    rw [h] at this
    exact ⟨_,he,(Option.some.inj this).symm⟩
  have anc : ∀ {listed : Array Bool},(∀ i j o,ops[i]? = some o → j ∈ dirs o → done listed i = true → done listed j = true) → ∀ {j i},Anc ops j i → done listed i = true → done listed j = true:=by
    intro listed hc j i h
    induction h with
    | one h1 h2=>exact hc _ _ _ h1 h2
    | more h1 h2 _ ih=>exact fun h=>ih (hc _ _ _ h1 h2 h)
  refine wpAny_inv Inv ?_ ?_ ops.size _ a w (by simp) ?_
  · rintro listed a w i ⟨hs,hcl,G,hR⟩ hi
    obtain ⟨hi0,o,ho,haft⟩:=mem_ready.1 hi
    obtain ⟨e,he,rfl⟩:=get i o ho
    have hnot:=done_not hi0
    have hdirs : ∀ j ∈ dirs e.o,done listed j = true:=fun j hj=>by
      obtain ⟨ed,h1,h2,rfl⟩:=dirs_mem.1 hj
      exact haft ed h1 h2
    have hancs : ∀ {j},Anc ops j i → done listed j = true:=fun {j} h=>by
      cases h with
      | one h1 h2=>rw [ho] at h1;cases h1;exact hdirs _ h2
      | more h1 h2 h3=>rw [ho] at h1;cases h1;exact anc hcl h3 (hdirs _ h2)
    have hds:=fun k=>done_set hi0 k
    have same : Same e.m (acc (done listed) 0 es m0) (e.rd E ops):=fun p hpr=>by
      rw [hp.mem i e he p.1 p.2]
      refine acc_look es 0 (fun j f hj hf=>?_) rfl
      rw [has_keys] at hf
      simp only [Nat.zero_add]
      rcases Nat.lt_trichotomy j i with h1 | h1 | h1
      · rw [decide_eq_true h1]
        rcases hp.apart i j e f he hj h1 with h2 | ⟨h2,_⟩
        · exact (hancs h2).symm
        · exact absurd hpr (h2 p hf)
      · subst h1
        rw [decide_eq_false (Nat.lt_irrefl _),hnot]
      · rw [decide_eq_false (by omega)]
        rcases hp.apart j i f e hj he h1 with h2 | ⟨_,_,h2⟩
        · cases hd : done listed j with
          | false=>rfl
          | true=>rw [anc hcl h2 hd] at hnot;cases hnot
        · exact absurd hf (h2 p hpr)
    have hwm : wantD ops e.o.guard (acc (done listed) 0 es m0) = some e.want:=by
      rw [← hp.want i e he]
      exact (wantD_same fun p hp'=>same p (List.mem_append_left _ hp')).symm
    have hwt:=want_sound hR.sim hwm
    have hfr : nx ≤ nx + i ∧ ∀ j,done listed j = true → nx + i ≠ nx + j:=⟨by omega,fun j hj e=>by
      have : i = j:=by omega
      rw [← this,hnot] at hj;cases hj⟩
    have leq : Leq (putM e.o.dst e.d (e.ws ++ acc (done listed) 0 es m0)) (acc (done (listed.setIfInBounds i true)) 0 es m0):=fun x y=>by
      rw [putM_app,look_app]
      by_cases hk : has (putM e.o.dst e.d e.ws) x y = true
      · rw [if_pos hk]
        refine (acc_last es 0 i e he hk (by rw [Nat.zero_add,hds];simp) fun j f hj hlt hf=>?_).symm
        rw [Nat.zero_add,hds,beq_false_of_ne (by omega),Bool.false_or]
        rcases hp.apart j i f e hj he hlt with h2 | ⟨_,h2,_⟩
        · cases hd : done listed j with
          | false=>rfl
          | true=>rw [anc hcl h2 hd] at hnot;cases hnot
        · exact absurd (has_keys.1 hf) (h2 _ (has_keys.1 hk))
      · rw [if_neg hk]
        refine acc_look es 0 (fun j f hj hf=>?_) rfl
        rw [Nat.zero_add,hds]
        by_cases hji : j = i
        · subst hji
          rw [he] at hj;cases hj
          exact absurd hf hk
        · rw [beq_false_of_ne hji,Bool.false_or]
    have closed : ∀ k j o,ops[k]? = some o → j ∈ dirs o → done (listed.setIfInBounds i true) k = true → done (listed.setIfInBounds i true) j = true:=fun k j o' hk hj hd=>by
      rw [hds] at hd ⊢
      by_cases hki : k = i
      · subst hki
        rw [ho] at hk;cases hk
        rw [hdirs j hj];simp
      · rw [beq_false_of_ne hki,Bool.false_or] at hd
        rw [hcl k j o' hk hj hd];simp
    have hdst:=hp.dst i e
    unfold wpOp
    rw [ho]
    simp only []
    have htold:=hp.told i e he
    cases hw : e.want with
    | true =>
      rw [hw] at htold hwt
      simp only [if_true] at htold
      rw [hwt]
      simp only [if_true]
      left
      have hdop : dop E.ty (acc (done listed) 0 es m0) (nx + i) e.o = dop E.ty e.m (nx + i) e.o:=by
        refine (dop_same fun p hp'=>same p (List.mem_append_right _ ?_)).symm
        rw [hw];exact hp'
      obtain ⟨f1,f2⟩:=hR.fresh (nx + i) hfr
      refine op_sound hE hR.sim f1 f2 (by rw [hdop];exact htold) _ _ fun v G' w' ha hv=>?_
      refine ⟨by simp [hs],closed,G',Run.leq ?_ leq⟩
      exact run_after hR ha hv (fun t ht=>hdst t he ht) fun u hu=>⟨⟨hu.1,fun j hj=>hu.2 j (by rw [hds,hj];simp)⟩,hu.2 i (by rw [hds];simp)⟩
    | false =>
      rw [hw] at htold hwt
      simp only [Bool.false_eq_true,if_false] at htold
      rw [hwt]
      simp only [Bool.false_eq_true,if_false]
      obtain ⟨e1,e2⟩:=htold
      rw [e1,e2] at leq
      refine ⟨by simp [hs],closed,G,Run.leq (run_und (hR.less fun u hu=>⟨hu.1,fun j hj=>hu.2 j (by rw [hds,hj];simp)⟩) (fun t ht=>hdst t he ht)) leq⟩
  · rintro listed a w ⟨hs,hcl,G,hR⟩ hre
    have all : ∀ i,i < ops.size → done listed i = true:=by
      intro i
      induction i using Nat.strongRecOn with
      | _ i ih =>
        intro hi
        cases hd : done listed i with
        | true=>rfl
        | false =>
          exfalso
          have ho : ops[i]? = some ops[i]:=Array.getElem?_eq_getElem hi
          obtain ⟨e,he,heo⟩:=get i _ ho
          have : i ∈ Region.ready .any ops listed:=mem_ready.2 ⟨by
            unfold done at hd
            rw [Array.getD_eq_getD_getElem?,Array.getElem?_eq_getElem (by omega)] at hd ⊢
            exact hd,ops[i],ho,fun ed h1 h2=>by
            have hj : ed.on ∈ dirs e.o:=dirs_mem.2 ⟨ed,heo ▸ h1,h2,rfl⟩
            exact ih ed.on (hp.dir i e ed.on he hj) (by have:=hp.dir i e ed.on he hj;omega)⟩
          rw [hre] at this;cases this
    refine hQ G a w ((hR.leq fun x y=>?_).less fun u hu=>⟨by omega,fun j hj e=>?_⟩)
    · rw [hmf x y]
      refine acc_look es 0 (fun j f hj _=>?_) rfl
      have:=(List.getElem?_eq_some_iff.1 hj).1
      rw [Nat.zero_add]
      exact all j (by omega)
    · have : j < listed.size:=by
        rcases Nat.lt_or_ge j listed.size with h | h
        · exact h
        · unfold done at hj
          simp [Array.getD_eq_getD_getElem?,Array.getElem?_eq_none h] at hj
      omega
  · refine ⟨by simp,(fun i j o _ _ h=>by rw [done_none] at h;cases h),G,?_⟩
    have : acc (done (Array.replicate ops.size false)) 0 es m0 = m0:=acc_none es 0 m0 fun j _=>done_none _ _
    rw [this]
    exact hr.less fun u hu=>hu.1
theorem dopsD_sound (hE : EnvOk P E) (hm : P.follows .mixedOrders = true) {id : Nat} {l : List Oper} {K : Mem → Prop} {Q : Exit → Act → World → Prop} {w0 : World} {I : Nat → Nat → Prop} {G : Gh} {a : Act} {w : World} {m : Mem} (hd : dopsD E l.toArray nx l 0 [] m K)
    (hr : Run E w0 I (fun u=>nx ≤ u) G m a w) (hQ : ∀ G' m' a' w',K m' → Run E w0 I (fun u=>nx + l.length ≤ u) G' m' a' w' → Q .normal a' w') : (Code.region id l.toArray true).wp P Q a w:=by
  obtain ⟨es,mf,h1,h2,h3,h4⟩:=dopsD_out (P:=P) (m0:=m) hE l [] [] m
    ⟨(fun i e h=>by cases h),(fun i e h=>by cases h),(fun i e h=>by cases h),(fun i e h=>by cases h),(fun i e t h=>by cases h),(fun i j e f h=>by cases h),(fun i e j h=>by cases h)⟩
    ⟨(fun g h=>by cases h),(fun j h=>by cases h)⟩ (.refl m) (fun j=>by simp) hd
  refine wp_region_any hm ?_
  have hr' : Run E w0 I (fun u=>nx ≤ u) G m a { w with drawn:=w.drawn + 1 } :=
    have st : Step G w G { w with drawn:=w.drawn + 1 }:=⟨fun _ _ h=>h,fun _ _ _=>rfl,fun _ _ h=>h,fun t T h=>⟨T,h,⟨rfl,rfl⟩,Nat.le_refl _,fun _=>rfl⟩⟩
    ⟨⟨hr.sim.tm,hr.sim.df,fun t=>(hr.sim.slot t).mono st,⟨fun b g ty n hb i x hx=>(hr.sim.cells.val b g ty n hb i x hx).mono st,hr.sim.cells.out⟩,hr.sim.toks,
      ⟨hr.sim.ok.base,hr.sim.ok.imm,hr.sim.ok.box,hr.sim.ok.boxImm,hr.sim.ok.boxInj,hr.sim.ok.tok,hr.sim.ok.tokImm,hr.sim.ok.tokInj,hr.sim.ok.tokBox⟩⟩,
      hr.base,hr.below.drew,hr.imm,hr.immo,hr.fresh⟩
  exact any_sound (nx:=nx) hE (by simpa using h1) h2 h3 hr' fun G' a' w' hR=>hQ G' mf a' w' h4 (by simpa using hR)
end
end Go.Proofs.Ytaecmhlglnmimaa.pv
namespace Go.Proofs.Ytaecmhlglnmimaa.it
open Go.RowKit Go.Shelf
open sg (lst_len)
open lx
theorem infoStr : (Try.prog.info? 9).map (fun i=>(i.zero,i.size,i.bytes)) = some (some (.string ⟨#[]⟩),1,16):=by kernel_rfl
def notesU (ts : List Tk) : List ByteArray:=(ts.filter (fun t=>decide (t.1 = 2))).map (·.2)
def strs (l : List ByteArray) : List Value:=l.map .string
theorem notesU_app (a b : List Tk) : notesU (a ++ b) = notesU a ++ notesU b:=by simp [notesU]
theorem notesU_yes (ts : List Tk) (t : Tk) (h : t.1 = 2) : notesU (ts ++ [t]) = notesU ts ++ [t.2]:=by rw [notesU_app];simp [notesU,h]
theorem notesU_no (ts : List Tk) (t : Tk) (h : t.1 ≠ 2) : notesU (ts ++ [t]) = notesU ts:=by rw [notesU_app];simp [notesU,h]
theorem notesU_len (ts : List Tk) : (notesU ts).length ≤ ts.length:=by unfold notesU;rw [List.length_map];exact List.length_filter_le _ _
theorem strs_snoc (l : List ByteArray) (s : ByteArray) : strs (l ++ [s]) = strs l ++ [.string s]:=by simp [strs]
theorem str_new (w : World) (a : Value) (t : TypeId) : ∀ j u,[a][j]? = some u → (w.alloc (.cells #[a] t)).cell? ((⟨w.heap.size,0,none⟩ : Addr).add j) = some u:=by
  intro j u hu
  have hb:=(sx.Blk.new w t #[a]).cell j
  match j,hu with
  | 0,hu=>cases hu;exact hb
  | n + 1,hu=>simp at hu
def aheadU (ts : List Tk) : Nat:=fidx (fun t=>!idleB t.1) ts
theorem aheadU_le (ts : List Tk) : aheadU ts ≤ ts.length:=fidx_le _ _
end Go.Proofs.Ytaecmhlglnmimaa.it
namespace Go.Proofs.Ytaecmhlglnmimaa.it
open Go.RowKit Go.Shelf
open sg (lst_len)
open lx sx
attribute [local go_sem] Oper.semAt_some
theorem aheadU_cons (t : Tk) (r : List Tk) : aheadU (t :: r) = if idleB t.1 then aheadU r + 1 else 0:=by
  unfold aheadU
  rw [fidx_cons]
  cases idleB t.1 <;> simp
structure Run where
  at' : Nat
  p : Nat
  l : List Tk
def runsFrom (at' p : Nat) : List Tk → List Run
  | []=>[]
  | t :: r=>⟨at',p,t :: r.take (aheadU r)⟩ :: runsFrom (at' + sizeT (t :: r.take (aheadU r))) (p + (1 + aheadU r)) (r.drop (aheadU r))
termination_by l=>l.length
decreasing_by simp;omega
def runsU (ts : List Tk) : List Run:=runsFrom (sizeT (ts.take (aheadU ts))) (aheadU ts) (ts.drop (aheadU ts))
theorem sizeT_both (a b : List Tk) : sizeT (a ++ b) = sizeT a + sizeT b:=by simp [sizeT]
end Go.Proofs.Ytaecmhlglnmimaa.it
namespace Go.Proofs.Ytaecmhlglnmimaa.it
open Go.RowKit Go.Shelf
open sg (lst_len)
open lx sx
attribute [local go_sem] Oper.semAt_some
theorem infoItem : (Try.prog.info? 64).map (fun i=>(i.zero,i.size,i.bytes)) = some (some (.agg #[.int .i64 0,.string ⟨#[]⟩,.int .i64 0,.slice none 0 0]),4,56):=by kernel_rfl
def itemCells : List Run → List Value → List Value
  | x :: xs,nv :: nvs=>.int .i64 ((x.l.headD (0,⟨#[]⟩)).1) :: .string (x.l.headD (0,⟨#[]⟩)).2 :: .int .i64 (x.at' : Int) :: nv :: itemCells xs nvs
  | _,_=>[]
def NotesAt (base : Nat) (W : World) : List Run → List Value → Prop
  | x :: xs,nv :: nvs=>W.ownsRow base 9 1 nv (notesU x.l).length (strs (notesU x.l)) ∧ NotesAt base W xs nvs
  | [],[]=>True
  | _,_=>False
end Go.Proofs.Ytaecmhlglnmimaa.it
namespace Go.Proofs.Ytaecmhlglnmimaa.it
open Go.RowKit Go.Shelf
open sg (lst_len)
open lx sx
attribute [local go_sem] Oper.semAt_some
theorem NotesAt.len {base : Nat} {W : World} {pre : List Run} {nvs : List Value} (h : NotesAt base W pre nvs) : nvs.length = pre.length:=by
  induction pre generalizing nvs with
  | nil=>cases nvs with
    | nil=>rfl
    | cons _ _=>exact h.elim
  | cons x xs ih=>cases nvs with
    | nil=>exact h.elim
    | cons nv nvs=>rw [List.length_cons,List.length_cons,ih h.2]
theorem itemCells_snoc {pre : List Run} {nvs : List Value} (hl : nvs.length = pre.length) (x : Run) (nv : Value) :
    itemCells (pre ++ [x]) (nvs ++ [nv]) = itemCells pre nvs ++ [.int .i64 ((x.l.headD (0,⟨#[]⟩)).1),.string (x.l.headD (0,⟨#[]⟩)).2,.int .i64 (x.at' : Int),nv]:=by
  induction pre generalizing nvs with
  | nil=>cases nvs with
    | nil=>rfl
    | cons _ _=>cases hl
  | cons y ys ih=>cases nvs with
    | nil=>cases hl
    | cons mv nvs=>simp only [List.cons_append,itemCells,ih (by simpa using hl)]
theorem NotesAt.snoc {base : Nat} {W : World} {pre : List Run} {nvs : List Value} (h : NotesAt base W pre nvs) {x : Run} {nv : Value} (hx : W.ownsRow base 9 1 nv (notesU x.l).length (strs (notesU x.l))) : NotesAt base W (pre ++ [x]) (nvs ++ [nv]):=by
  induction pre generalizing nvs with
  | nil=>cases nvs with
    | nil=>exact ⟨hx,trivial⟩
    | cons _ _=>exact h.elim
  | cons y ys ih=>cases nvs with
    | nil=>exact h.elim
    | cons mv nvs=>exact ⟨h.1,ih h.2⟩
theorem own_typed {W W' : World} {base size n : Nat} {e e2 : TypeId} {v : Value} {xs : List Value} (h : W.ownsRow base e2 size v n xs) (hne : e2 ≠ e) (hb : ∀ b t vs,t ≠ e → Blk W b t vs → Blk W' b t vs) : W'.ownsRow base e2 size v n xs:=by
  refine ⟨h.1,?_⟩
  rcases h.2 with hn | ⟨g,cap,cur,h1,h2,h3,h4⟩
  · exact .inl hn
  · exact .inr ⟨g,cap,cur,h1,h2,hb _ _ _ hne h3,h4⟩
theorem NotesAt.typed {W W' : World} {base : Nat} {e : TypeId} {pre : List Run} {nvs : List Value} (h : NotesAt base W pre nvs) (hne : 9 ≠ e) (hb : ∀ b t vs,t ≠ e → Blk W b t vs → Blk W' b t vs) : NotesAt base W' pre nvs:=by
  induction pre generalizing nvs with
  | nil=>cases nvs with
    | nil=>trivial
    | cons _ _=>exact h.elim
  | cons x xs ih=>cases nvs with
    | nil=>exact h.elim
    | cons nv nvs=>exact ⟨own_typed h.1 hne hb,ih h.2⟩
theorem NotesAt.own {W W' : World} {base : Nat} {pre : List Run} {nvs : List Value} (h : NotesAt base W pre nvs) (hb : Below W.heap.size W W') : NotesAt base W' pre nvs:=by
  induction pre generalizing nvs with
  | nil=>cases nvs with
    | nil=>trivial
    | cons _ _=>exact h.elim
  | cons x xs ih=>cases nvs with
    | nil=>exact h.elim
    | cons nv nvs=>exact ⟨ownsRow_below h.1 hb,ih h.2⟩
theorem cell_four_new (w : World) (a b c d : Value) (t : TypeId) : ∀ j u,[a,b,c,d][j]? = some u → (w.alloc (.cells #[a,b,c,d] t)).cell? ((⟨w.heap.size,0,none⟩ : Addr).add j) = some u:=by
  intro j u hu
  have hb:=(Blk.new w t #[a,b,c,d]).cell j
  match j,hu with
  | 0,hu=>cases hu;exact hb
  | 1,hu=>cases hu;exact hb
  | 2,hu=>cases hu;exact hb
  | 3,hu=>cases hu;exact hb
  | n + 4,hu=>simp at hu
theorem NotesAt.map {W W' : World} {base : Nat} {pre : List Run} {nvs : List Value} (h : NotesAt base W pre nvs) (hf : ∀ v n xs,W.ownsRow base 9 1 v n xs → W'.ownsRow base 9 1 v n xs) : NotesAt base W' pre nvs:=by
  induction pre generalizing nvs with
  | nil=>cases nvs with
    | nil=>trivial
    | cons _ _=>exact h.elim
  | cons x xs ih=>cases nvs with
    | nil=>exact h.elim
    | cons nv nvs=>exact ⟨hf _ _ _ h.1,ih h.2⟩
theorem runsFrom_len (a p : Nat) (l : List Tk) : (runsFrom a p l).length ≤ l.length:=by
  generalize hn : l.length = m
  induction m using Nat.strongRecOn generalizing a p l with
  | ind m ih =>
    cases l with
    | nil=>rw [runsFrom];exact Nat.zero_le _
    | cons t r =>
      rw [runsFrom,List.length_cons]
      have:=ih (r.drop (aheadU r)).length (by rw [List.length_drop];simp at hn;omega) (a + sizeT (t :: r.take (aheadU r))) (p + (1 + aheadU r)) (r.drop (aheadU r)) rfl
      rw [List.length_drop] at this
      simp at hn
      omega
theorem runsU_len (ts : List Tk) : (runsU ts).length ≤ ts.length:=by
  have:=runsFrom_len (sizeT (ts.take (aheadU ts))) (aheadU ts) (ts.drop (aheadU ts))
  rw [List.length_drop] at this
  unfold runsU
  omega
end Go.Proofs.Ytaecmhlglnmimaa.it
namespace Go.Proofs.Ytaecmhlglnmimaa.it
open Go.RowKit Go.Shelf
open sg (lst_len)
open lx sx
attribute [local go_sem] Oper.semAt_some
theorem runsU_nil : runsU [] = []:=by unfold runsU;rw [List.drop_nil,runsFrom]
end Go.Proofs.Ytaecmhlglnmimaa.it
namespace Go.Proofs.Ytaecmhlglnmimaa.it
open Go.RowKit Go.Shelf
open sg (lst_len)
open lx sx
theorem own_len {W : World} {base size n : Nat} {e : TypeId} {v : Value} {xs : List Value} (h : W.ownsRow base e size v n xs) : ∃ ao cap,v = .slice ao n cap ∧ n ≤ cap:=by
  rcases h.2 with ⟨rfl,h0⟩ | ⟨g,cap,cur,rfl,h2,h3,h4⟩
  · exact ⟨none,0,by rw [h0],by omega⟩
  · exact ⟨_,cap,rfl,h4.1⟩
theorem own_at {W : World} {base size n : Nat} {e : TypeId} {ao : Option Addr} {cap : Nat} {xs : List Value} (h : W.ownsRow base e size (.slice ao n cap) n xs) {j : Nat} {u : Value} (hu : xs[j]? = some u) : ∃ g,ao = some ⟨g,0,none⟩ ∧ base ≤ g ∧ g < W.heap.size ∧ W.cell? ⟨g,j,none⟩ = some u:=by
  rcases h.2 with ⟨hn,h0⟩ | ⟨g,cap',cur,hv,h2,h3,h4⟩
  · have:=h.1
    rw [h0] at this
    have:=(List.getElem?_eq_some_iff.1 hu).1
    omega
  · cases hv
    refine ⟨g,rfl,h2,(Array.getElem?_eq_some_iff.1 h3).1,?_⟩
    rw [h.cellAt j (by have:=(List.getElem?_eq_some_iff.1 hu).1;have:=h.1;omega)]
    exact hu
theorem itemCells_at (rs : List Run) (nvs : List Value) (j : Nat) (x : Run) (nv : Value) (hx : rs[j]? = some x) (hn : nvs[j]? = some nv) :
    (itemCells rs nvs)[j * 4]? = some (.int .i64 (x.l.headD (0,⟨#[]⟩)).1) ∧ (itemCells rs nvs)[j * 4 + 1]? = some (.string (x.l.headD (0,⟨#[]⟩)).2) ∧ (itemCells rs nvs)[j * 4 + 2]? = some (.int .i64 (x.at' : Int)) ∧ (itemCells rs nvs)[j * 4 + 3]? = some nv:=by
  induction rs generalizing nvs j with
  | nil=>cases hx
  | cons y ys ih =>
    cases nvs with
    | nil=>cases hn
    | cons mv mvs =>
      cases j with
      | zero=>simp at hx hn;subst hx hn;exact ⟨rfl,rfl,rfl,rfl⟩
      | succ j =>
        have:=ih mvs j (by simpa using hx) (by simpa using hn)
        rw [show (j + 1) * 4 = j * 4 + 4 by omega]
        simpa [itemCells] using this
theorem notes_get {base : Nat} {W : World} {rs : List Run} {nvs : List Value} (h : NotesAt base W rs nvs) (j : Nat) (x : Run) (nv : Value) (hx : rs[j]? = some x) (hn : nvs[j]? = some nv) : W.ownsRow base 9 1 nv (notesU x.l).length (strs (notesU x.l)):=by
  induction rs generalizing nvs j with
  | nil=>cases hx
  | cons y ys ih =>
    cases nvs with
    | nil=>cases hn
    | cons mv mvs =>
      cases j with
      | zero=>simp at hx hn;subst hx hn;exact h.1
      | succ j=>exact ih h.2 j (by simpa using hx) (by simpa using hn)
theorem item_get {base n : Nat} {W : World} {ao : Option Addr} {cap : Nat} {rs : List Run} {nvs : List Value} (h : W.ownsRow base 64 4 (.slice ao rs.length cap) rs.length (itemCells rs nvs)) (hN : NotesAt base W rs nvs) (j : Nat) (x : Run) (hx : rs[j]? = some x) :
    ∃ g nv,ao = some ⟨g,0,none⟩ ∧ g < W.heap.size ∧ nvs[j]? = some nv ∧ W.cell? ⟨g,j * 4,none⟩ = some (.int .i64 (x.l.headD (0,⟨#[]⟩)).1) ∧ W.cell? ⟨g,j * 4 + 1,none⟩ = some (.string (x.l.headD (0,⟨#[]⟩)).2) ∧ W.cell? ⟨g,j * 4 + 2,none⟩ = some (.int .i64 (x.at' : Int)) ∧ W.cell? ⟨g,j * 4 + 3,none⟩ = some nv ∧
      W.ownsRow base 9 1 nv (notesU x.l).length (strs (notesU x.l)):=by
  have hj:=(List.getElem?_eq_some_iff.1 hx).1
  obtain ⟨nv,hn⟩ : ∃ nv,nvs[j]? = some nv:=⟨_,List.getElem?_eq_getElem (by rw [hN.len];exact hj)⟩
  obtain ⟨c0,c1,c2,c3⟩:=itemCells_at rs nvs j x nv hx hn
  obtain ⟨g,hg,hb,hgl,d0⟩:=own_at h c0
  obtain ⟨g1,hg1,_,_,d1⟩:=own_at h c1
  obtain ⟨g2,hg2,_,_,d2⟩:=own_at h c2
  obtain ⟨g3,hg3,_,_,d3⟩:=own_at h c3
  rw [hg] at hg1 hg2 hg3
  obtain rfl : g = g1:=by simpa using hg1
  obtain rfl : g = g2:=by simpa using hg2
  obtain rfl : g = g3:=by simpa using hg3
  exact ⟨g,nv,hg,hgl,hn,d0,d1,d2,d3,notes_get hN j x nv hx hn⟩
end Go.Proofs.Ytaecmhlglnmimaa.it
